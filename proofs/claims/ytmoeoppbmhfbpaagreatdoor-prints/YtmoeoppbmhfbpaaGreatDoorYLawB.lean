import Derived.Test.YtmoeoppbmhfbpaaGreatDoorYPrtH
import Derived.Test.YtmoeoppbmhfbpaaGreatDoorYStrH
/- The law: Prints. -/
namespace Go.Proofs.YtmoeoppbmhfbpaaGreatDoorY
open Go.Abs
set_option linter.unusedSimpArgs false
set_option linter.unusedVariables false
set_option maxRecDepth 100000

set_option maxHeartbeats 16000000 in
theorem texts_print (o : OpD) (hk : o.kind = 2) (c : List AV) (hc : EO o c) (σ : St) : ACalls Tryz.prog 52 [ag c] σ fun r σ' => r = sc (.bool true) ∧ Keep σ σ' := by
  unfold EO at hc
  subst hc
  rw [hk]
  refine acalls 88 [.tmp 2] Tryz.func52 rfl (by decide) rfl rfl (Nat.le_of_ble_eq_true rfl) ?_
  repeat' (first
 |with_reducible (first|apply awp_seq|apply awp_block|(refine awp_region_k ?_;intro κ hκ)|(refine hκ.out _ _ ?_;clear hκ κ)|apply awp_skip|apply awp_exit|apply awp_ret)
 |((first|with_reducible apply gd_split|((with_reducible refine cond_go ?_);refine awp_cond_split rfl ?_ ?_))<;>intro h<;>(try simp only [upd, ↓reduceIte,Nat.reduceEqDiff,B2] at h)<;>(try simp only [*,reduceCtorEq,decide_true,decide_false] at h)<;>(try (have hari:=h;simp only [B3] at hari))<;>(try (first|contradiction|(exfalso;omega)|(exfalso;simp at h;done)))<;>(try simp only [B5]))
 |((with_reducible refine acalls_go ?_);refine ACalls.mono (pprint_spec o.s _) ?_;rintro _ _ ⟨rfl,hK1⟩;(have kob1:=hK1.obj;have kno1:=hK1.nobj;(try simp only [new_nobj,put_nobj,lay_nobj] at kno1)))
 |((with_reducible refine acalls_go ?_);refine ACalls.mono (rprint_spec o.s _) ?_;rintro _ _ ⟨rfl,hK2⟩)
 |((with_reducible refine acalls_go ?_);refine ACalls.mono (num_spec _ _) ?_;rintro _ _ ⟨rfl,rfl⟩)
 |(simp (maxSteps:=3000000) (disch:=(first|omega|(simp only [List.length_append,B1, *];omega))) only [↓mapA_nil, ↓mapA_cons,List.length_append,B0,B4,awant,undef,aq,al,cst,cst1,acells,flat,behind,abin,aconv,aint,thenQ,blkQ,retQ,Value.cells,Value.oneCell',Int.reduceToNat, ↓reduceIte,Nat.reduceLT,Nat.reduceEqDiff,reduceCtorEq,Nat.reduceAdd,Nat.reduceMul,Nat.reduceLeDiff,u_3,u_9,tfld_43_0,tfld_43_1,tfld_43_3,tsz_3,tsz_9, *])
 |(refine hκ.out _ _ ?_;clear hκ κ))
  exact ⟨_, rfl, rfl, by repeat (first | exact Keep.refl _ | assumption | (refine Keep.put ?_ (by first | omega | (simp only [new_nobj, put_nobj, lay_nobj, *]; omega)) _) | (refine Keep.new ?_ _) | (refine Keep.lay ?_ _) | (refine Keep.trans ?_ (by assumption)))⟩
theorem pstratum_same (t : Tx) (n : Int) (σ : St) : ACalls Tryz.prog 85 [str t, sc (.int .i64 n)] σ fun r σ' => r = two (refStratum t n) ∧ Keep σ σ' :=
  (pstratum_spec t n σ).mono fun r σ' ⟨p, h1, h2, h3⟩ => ⟨by rw [h1, stratum_same h2], h3⟩
set_option maxHeartbeats 16000000 in
theorem texts_stratum (o : OpD) (hk : o.kind = 3) (c : List AV) (hc : EO o c) (σ : St) : ACalls Tryz.prog 52 [ag c] σ fun r σ' => r = sc (.bool true) ∧ Keep σ σ' := by
  unfold EO at hc
  subst hc
  rw [hk]
  refine acalls 88 [.tmp 2] Tryz.func52 rfl (by decide) rfl rfl (Nat.le_of_ble_eq_true rfl) ?_
  repeat' (first
 |with_reducible (first|apply awp_seq|apply awp_block|(refine awp_region_k ?_;intro κ hκ)|(refine hκ.out _ _ ?_;clear hκ κ)|apply awp_skip|apply awp_exit|apply awp_ret)
 |((first|with_reducible apply gd_split|((with_reducible refine cond_go ?_);refine awp_cond_split rfl ?_ ?_))<;>intro h<;>(try simp only [upd, ↓reduceIte,Nat.reduceEqDiff,B2] at h)<;>(try simp only [*,reduceCtorEq,decide_true,decide_false] at h)<;>(try (have hari:=h;simp only [B3] at hari))<;>(try (first|contradiction|(exfalso;omega)|(exfalso;simp at h;done)))<;>(try simp only [B5]))
 |((with_reducible refine acalls_go ?_);refine ACalls.mono (pstratum_same o.s o.n _) ?_;rintro _ _ ⟨rfl,hK1⟩;(have kob1:=hK1.obj;have kno1:=hK1.nobj;(try simp only [new_nobj,put_nobj,lay_nobj] at kno1)))
 |((with_reducible refine acalls_go ?_);refine ACalls.mono (rStratum_spec o.s o.n _) ?_;rintro _ _ ⟨rfl,hK2⟩)
 |((with_reducible refine acalls_go ?_);refine ACalls.mono (num_spec _ _) ?_;rintro _ _ ⟨rfl,rfl⟩)
 |(simp (maxSteps:=3000000) (disch:=(first|omega|(simp only [List.length_append,B1, *];omega))) only [↓mapA_nil, ↓mapA_cons,List.length_append,B0,B4,awant,undef,aq,al,cst,cst1,acells,flat,behind,abin,aconv,aint,thenQ,blkQ,retQ,Value.cells,Value.oneCell',Int.reduceToNat, ↓reduceIte,Nat.reduceLT,Nat.reduceEqDiff,reduceCtorEq,Nat.reduceAdd,Nat.reduceMul,Nat.reduceLeDiff,u_3,u_9,tfld_43_0,tfld_43_1,tfld_43_3,tsz_3,tsz_9, *])
 |(refine hκ.out _ _ ?_;clear hκ κ))
  exact ⟨_, rfl, rfl, by repeat (first | exact Keep.refl _ | assumption | (refine Keep.put ?_ (by first | omega | (simp only [new_nobj, put_nobj, lay_nobj, *]; omega)) _) | (refine Keep.new ?_ _) | (refine Keep.lay ?_ _) | (refine Keep.trans ?_ (by assumption)))⟩
set_option maxHeartbeats 16000000 in
theorem plays_print (o : OpD) (hk : o.kind = 2) (c : List AV) (hc : EO o c) (σ : St) : ACalls Tryz.prog 27 [ag c] σ fun r σ' => r = sc (.bool true) ∧ Keep σ σ' := by
  have hT := texts_print o hk c hc
  unfold EO at hc
  subst hc
  rw [hk] at *
  refine acalls 154 [.tmp 2] Tryz.func27 rfl (by decide) rfl rfl (Nat.le_of_ble_eq_true rfl) ?_
  repeat' (first
 |with_reducible (first|apply awp_seq|apply awp_block|(refine awp_region_k ?_;intro κ hκ)|(refine hκ.out _ _ ?_;clear hκ κ)|apply awp_skip|apply awp_exit|apply awp_ret)
 |((first|with_reducible (first|apply gd_split|apply gt_split)|((with_reducible refine cond_go ?_);refine awp_cond_split rfl ?_ ?_))<;>intro h<;>(try simp only [upd, ↓reduceIte,Nat.reduceEqDiff,B2] at h)<;>(try simp only [*,reduceCtorEq,decide_true,decide_false] at h)<;>(try (have hari:=h;simp only [B3] at hari))<;>(try (first|contradiction|(exfalso;omega)|(exfalso;simp at h;done)))<;>(try simp only [B5]))
 |((with_reducible refine acalls_go ?_);refine ACalls.mono (hT _) ?_;rintro _ _ ⟨rfl,hK1⟩)
 |(simp (maxSteps:=3000000) (disch:=(first|omega|(simp only [List.length_append,B1, *];omega))) only [↓mapA_nil, ↓mapA_cons,List.length_append,B0,B4,awant,undef,aq,al,cst,cst1,acells,flat,behind,abin,aconv,aint,thenQ,blkQ,retQ,rdo,objOf,Value.cells,Value.oneCell',Int.reduceToNat, ↓reduceIte,Nat.reduceLT,Nat.reduceEqDiff,reduceCtorEq,Nat.reduceAdd,Nat.reduceMul,Nat.reduceLeDiff,u_3,u_4,u_9,tfld_43_0,tfld_43_1,tfld_43_2,tfld_43_3,tfld_43_4,tsz_3,tsz_43,tsz_9, *])
 |((with_reducible refine and_go ?_);refine And.intro (by first|exact kept_refl|exact kept_last rfl|exact kept_keep (by assumption)) ?_)
 |(refine hκ.out _ _ ?_;clear hκ κ))
  exact ⟨_, rfl, rfl, by repeat (first | exact Keep.refl _ | assumption | (refine Keep.put ?_ (by first | omega | (simp only [new_nobj, put_nobj, lay_nobj, *]; omega)) _) | (refine Keep.new ?_ _) | (refine Keep.lay ?_ _) | (refine Keep.trans ?_ (by assumption)))⟩
set_option maxHeartbeats 16000000 in
theorem plays_stratum (o : OpD) (hk : o.kind = 3) (c : List AV) (hc : EO o c) (σ : St) : ACalls Tryz.prog 27 [ag c] σ fun r σ' => r = sc (.bool true) ∧ Keep σ σ' := by
  have hT := texts_stratum o hk c hc
  unfold EO at hc
  subst hc
  rw [hk] at *
  refine acalls 154 [.tmp 2] Tryz.func27 rfl (by decide) rfl rfl (Nat.le_of_ble_eq_true rfl) ?_
  repeat' (first
 |with_reducible (first|apply awp_seq|apply awp_block|(refine awp_region_k ?_;intro κ hκ)|(refine hκ.out _ _ ?_;clear hκ κ)|apply awp_skip|apply awp_exit|apply awp_ret)
 |((first|with_reducible (first|apply gd_split|apply gt_split)|((with_reducible refine cond_go ?_);refine awp_cond_split rfl ?_ ?_))<;>intro h<;>(try simp only [upd, ↓reduceIte,Nat.reduceEqDiff,B2] at h)<;>(try simp only [*,reduceCtorEq,decide_true,decide_false] at h)<;>(try (have hari:=h;simp only [B3] at hari))<;>(try (first|contradiction|(exfalso;omega)|(exfalso;simp at h;done)))<;>(try simp only [B5]))
 |((with_reducible refine acalls_go ?_);refine ACalls.mono (hT _) ?_;rintro _ _ ⟨rfl,hK1⟩)
 |(simp (maxSteps:=3000000) (disch:=(first|omega|(simp only [List.length_append,B1, *];omega))) only [↓mapA_nil, ↓mapA_cons,List.length_append,B0,B4,awant,undef,aq,al,cst,cst1,acells,flat,behind,abin,aconv,aint,thenQ,blkQ,retQ,rdo,objOf,Value.cells,Value.oneCell',Int.reduceToNat, ↓reduceIte,Nat.reduceLT,Nat.reduceEqDiff,reduceCtorEq,Nat.reduceAdd,Nat.reduceMul,Nat.reduceLeDiff,u_3,u_4,u_9,tfld_43_0,tfld_43_1,tfld_43_2,tfld_43_3,tfld_43_4,tsz_3,tsz_43,tsz_9, *])
 |((with_reducible refine and_go ?_);refine And.intro (by first|exact kept_refl|exact kept_last rfl|exact kept_keep (by assumption)) ?_)
 |(refine hκ.out _ _ ?_;clear hκ κ))
  exact ⟨_, rfl, rfl, by repeat (first | exact Keep.refl _ | assumption | (refine Keep.put ?_ (by first | omega | (simp only [new_nobj, put_nobj, lay_nobj, *]; omega)) _) | (refine Keep.new ?_ _) | (refine Keep.lay ?_ _) | (refine Keep.trans ?_ (by assumption)))⟩
set_option maxHeartbeats 16000000 in
theorem prints_spec (l : List OpD) (cs : List AV) (ids : Nat) (hE : EL EO l cs) (hl : l.length ≤ 9223372036854775807) (σ : St) : ACalls Tryz.prog 4 [sl ids l.length cs] σ fun r σ' => r = sc (.bool true) ∧ Keep σ σ' := by
  have hP : Plays 2 3 l := fun o _ h1 h2 c hc σ => by
    by_cases h : o.kind = 2
    · exact plays_print o h c hc σ
    · exact plays_stratum o (by omega) c hc σ
  refine acalls 6 [.tmp 2] Tryz.func4 rfl (by decide) rfl rfl (Nat.le_of_ble_eq_true rfl) ?_
  repeat' (first
 |with_reducible (first|apply awp_seq|apply awp_block|(refine awp_region_k ?_;intro κ hκ)|(refine hκ.out _ _ ?_;clear hκ κ)|apply awp_skip|apply awp_exit|apply awp_ret)
 |((first|with_reducible apply gd_split|((with_reducible refine cond_go ?_);refine awp_cond_split rfl ?_ ?_))<;>intro h<;>(try simp only [upd, ↓reduceIte,Nat.reduceEqDiff,B2] at h)<;>(try simp only [*,reduceCtorEq,decide_true,decide_false] at h)<;>(try (have hari:=h;simp only [B3] at hari))<;>(try (first|contradiction|(exfalso;omega)|(exfalso;simp at h;done)))<;>(try simp only [B5]))
 |((with_reducible refine acalls_go ?_);refine ACalls.mono (upto_spec l cs ids 2 3 hE hl hP _) ?_;rintro _ _ ⟨rfl,hK1⟩)
 |(simp (maxSteps:=3000000) (disch:=(first|omega|(simp only [List.length_append,B1, *];omega))) only [↓mapA_nil, ↓mapA_cons,List.length_append,B0,B4,awant,undef,aq,al,cst,cst1,acells,flat,behind,abin,aconv,aint,thenQ,blkQ,retQ,Value.cells,Value.oneCell',Int.reduceToNat, ↓reduceIte,Nat.reduceLT,Nat.reduceEqDiff,reduceCtorEq,Nat.reduceAdd,Nat.reduceMul,Nat.reduceLeDiff,u_3, *])
 |(refine hκ.out _ _ ?_;clear hκ κ))
  first | exact ⟨_, rfl, rfl, hK1⟩ | exact ⟨_, rfl, rfl⟩ | exact ⟨_, rfl⟩
end Go.Proofs.YtmoeoppbmhfbpaaGreatDoorY
