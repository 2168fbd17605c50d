import Derived.Test.YtmoeoppbmhfbpaaGreatDoorYRefA
namespace Go.Proofs.YtmoeoppbmhfbpaaGreatDoorY
open Go.Abs
set_option linter.unusedSimpArgs false
set_option linter.unusedVariables false
set_option maxRecDepth 100000

set_option maxHeartbeats 4000000 in
theorem outer_spec (o : Nat) (X : Scan) (hX : X.small) (c : Int) (σ : St) (h : σ.obj o = encScan X) :
    ACalls Tryz.prog 175 [ptr o 0, sc (.int .u8 c)] σ fun x σ' => x = sc (.bool (outerF X c).2) ∧ σ'.obj o = encScan (outerF X c).1 ∧ KeepX o σ σ' := by
  obtain ⟨b1, b2, b3, b4, b5, b6, b7, b8, b9, b10⟩ := hX
  obtain ⟨st, items, letters, digits, terms, lits, head⟩ := X
  unfold encScan at *
  simp only at *
  refine acalls 154 [.tmp 4] Tryz.func175 rfl (by decide) rfl rfl (Nat.le_of_ble_eq_true rfl) ?_
  repeat' (first
 |with_reducible (first|apply awp_seq|apply awp_block|(refine awp_region_k ?_;intro κ hκ)|(refine hκ.out _ _ ?_;clear hκ κ)|apply awp_skip|apply awp_exit|apply awp_ret)
 |((first|with_reducible apply gd_split|((with_reducible refine cond_go ?_);refine awp_cond_split rfl ?_ ?_))<;>intro h<;>(try simp only [upd, ↓reduceIte,Nat.reduceEqDiff,B2] at h)<;>(try simp only [*,reduceCtorEq,decide_true,decide_false] at h)<;>(try (have hari:=h;simp only [B3] at hari))<;>(try (first|contradiction|(exfalso;omega)|(exfalso;simp at h;done)))<;>(try simp only [B5]))
 |((with_reducible refine acalls_go ?_);refine ACalls.mono (small_spec _ _) ?_;rintro _ _ ⟨rfl,rfl⟩)
 |((with_reducible refine acalls_go ?_);refine ACalls.mono (to_spec _ _ _ _ _ (by first|assumption|(simp only [put_same];rfl))) ?_;rintro _ _ ⟨rfl,rfl⟩)
 |(simp (maxSteps:=3000000) (disch:=(first|omega|(simp only [B1, *];omega))) only [↓mapA_nil, ↓mapA_cons,B0,B4,awant,undef,aq,al,cst,cst1,acells,flat,behind,abin,aconv,aint,thenQ,blkQ,retQ,Value.cells,Value.oneCell',Int.reduceToNat, ↓reduceIte,Nat.reduceLT,Nat.reduceEqDiff,reduceCtorEq,Nat.reduceAdd,Nat.reduceMul,Nat.reduceLeDiff,u_3,u_5,tfld_224_0,tfld_224_1,tfld_224_2,tfld_224_5,tfld_224_6,tsz_3,tsz_4, *])
 |(refine hκ.out _ _ ?_;clear hκ κ))
  all_goals exact ⟨_, rfl, by simp only [outerF, *, ↓reduceIte, Bool.false_eq_true, and_self, or_self, true_and, and_true, true_or, or_true, false_or, or_false, and_false, false_and, reduceCtorEq, if_true, if_false, decide_true, decide_false, Bool.not_true, Bool.not_false], by simp only [outerF, *, ↓reduceIte, Bool.false_eq_true, and_self, or_self, true_and, and_true, true_or, or_true, false_or, or_false, and_false, false_and, reduceCtorEq, if_true, if_false, decide_true, decide_false, Bool.not_true, Bool.not_false], by repeat (first | exact KeepX.refl _ _ | apply KeepX.put)⟩
end Go.Proofs.YtmoeoppbmhfbpaaGreatDoorY
