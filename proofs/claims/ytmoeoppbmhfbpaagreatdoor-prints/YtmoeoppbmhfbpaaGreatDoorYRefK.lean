import Derived.Test.YtmoeoppbmhfbpaaGreatDoorYRefH
import Derived.Test.YtmoeoppbmhfbpaaGreatDoorYRefJ
/- The document's own answer: what is wrong. -/
namespace Go.Proofs.YtmoeoppbmhfbpaaGreatDoorY
open Go.Abs
set_option linter.unusedSimpArgs false
set_option linter.unusedVariables false
set_option maxRecDepth 100000

def unsafeP (l : List RItem) (i : Nat) : Bool := match l[i]? with | some x => !safeB x | none => false
def noS (l : List RItem) (i : Nat) : Prop := ∀ a, a < i → unsafeP l a = false
def wrongM (l : List RItem) : Int × Int :=
  if 0 ≤ firstN (oddP l) l.length then (3, firstN (oddP l) l.length)
  else if 0 ≤ firstN (unsafeP l) l.length then (4, firstN (unsafeP l) l.length)
  else if 0 ≤ firstN (knotP l) l.length then (5, firstN (knotP l) l.length)
  else (0, 0)
abbrev two (p : Int × Int) : AV := tp [sc (.int .i64 p.1), sc (.int .i64 p.2)]
theorem firstN_lt {p : Nat → Bool} {n : Nat} : firstN p n < n + 1 := by
  unfold firstN
  split
  · rename_i i h
    have := List.mem_of_find?_eq_some h
    simp at this; omega
  · omega
theorem firstN_ge {p : Nat → Bool} {n : Nat} : -1 ≤ firstN p n := by
  unfold firstN
  split <;> omega

set_option maxHeartbeats 16000000 in
theorem wrong_spec (l : List RItem) (cs : List AV) (idl : Nat) (hE : EL EItem l cs) (hl : l.length ≤ 16) (hf : ∀ x ∈ l, x.fits) (σ : St) : ACalls Tryz.prog 135 [sl idl l.length cs] σ fun r σ' => r = two (wrongM l) ∧ Keep σ σ' := by
  have hcl := EL.length EItem_len hE
  have g1 := @firstN_ge (oddP l) l.length
  have g2 := @firstN_lt (oddP l) l.length
  have g3 := @firstN_ge (knotP l) l.length
  have g4 := @firstN_lt (knotP l) l.length
  refine acalls 28 [.tmp 2, .tmp 3] Tryz.func135 rfl (by decide) rfl rfl (Nat.le_of_ble_eq_true rfl) ?_
  repeat' (first
 |with_reducible (first|apply awp_seq|apply awp_block|(refine awp_region_k ?_;intro κ hκ)|(refine hκ.out _ _ ?_;clear hκ κ)|apply awp_skip|apply awp_exit|apply awp_ret)
 |((first|with_reducible apply gd_split|((with_reducible refine cond_go ?_);refine awp_cond_split rfl ?_ ?_))<;>intro h<;>(try simp only [upd, ↓reduceIte,Nat.reduceEqDiff,B2] at h)<;>(try simp only [*,reduceCtorEq,decide_true,decide_false] at h)<;>(try (have hari:=h;simp only [B3] at hari))<;>(try (first|contradiction|(exfalso;omega)|(exfalso;simp at h;done)))<;>(try simp only [B5]))
 |((with_reducible refine acalls_go ?_);refine ACalls.mono (odd_spec l cs idl hE hl hf _) ?_;rintro _ _ ⟨rfl,hK1⟩)
 |(simp (maxSteps:=3000000) (disch:=(first|omega|(simp only [B1, *];omega))) only [↓mapA_nil, ↓mapA_cons,B0,B4,awant,undef,aq,al,cst,cst1,acells,flat,behind,abin,aconv,aint,thenQ,blkQ,retQ,Value.cells,Value.oneCell',Int.reduceToNat, ↓reduceIte,Nat.reduceLT,Nat.reduceEqDiff,reduceCtorEq,Nat.reduceAdd,Nat.reduceMul,Nat.reduceLeDiff,u_137,u_3,telem_137,tsz_145, *])
 |(refine hκ.out _ _ ?_;clear hκ κ))
  · first
    | exact ⟨_, rfl, by unfold wrongM; rw [if_pos (by simpa using h)], by assumption⟩
    | exact ⟨_, rfl, by unfold wrongM; rw [if_pos (by simpa using h)]⟩
  · have ho : ¬ 0 ≤ firstN (oddP l) l.length := by simpa using h
    have HO : Abs.Hid (¬ 0 ≤ firstN (oddP l) l.length) := ho
    clear ho hari h g1 g2
    rename_i σ1
    refine awp_loop (fun m s σ' => ∃ i : Nat, m = l.length - i ∧ i ≤ l.length ∧ s 0 = sl idl l.length cs ∧ s 4 = sc (.int .i64 i) ∧ Keep σ σ' ∧ noS l i) l.length
      ⟨0, by omega, by omega, rfl, rfl, hK1, fun a h => by omega⟩ ?_
    rintro m s σ' ⟨i, rfl, hi, h0, h4, hK, hno⟩
    clear hK1
    by_cases hlt : i < l.length
    · obtain ⟨ih1, id1, b1, r1, hb1, hd1⟩ := EL_item hE (List.getElem?_eq_getElem hlt)
      have hf1 := hf l[i] (List.getElem_mem hlt)
      have HX : Abs.Hid (l[i]? = some l[i]) := List.getElem?_eq_getElem hlt
      generalize l[i] = x at hb1 hd1 hf1 HX
      repeat' (first
 |with_reducible (first|apply awp_seq|apply awp_block|(refine awp_region_k ?_;intro κ hκ)|(refine hκ.out _ _ ?_;clear hκ κ)|apply awp_skip|apply awp_exit|apply awp_ret)
 |((first|with_reducible apply gd_split|((with_reducible refine cond_go ?_);refine awp_cond_split rfl ?_ ?_))<;>intro h<;>(try simp only [upd, ↓reduceIte,Nat.reduceEqDiff,B2] at h)<;>(try simp only [*,reduceCtorEq,decide_true,decide_false] at h)<;>(try (have hari:=h;simp only [B3] at hari))<;>(try (first|contradiction|(exfalso;omega)|(exfalso;simp at h;done)))<;>(try simp only [B5]))
 |((with_reducible refine acalls_go ?_);refine ACalls.mono (safe_spec _ _ (EItem.of hb1) hf1 _) ?_;rintro _ _ ⟨rfl,hKs⟩)
 |(simp (maxSteps:=3000000) (disch:=(first|omega|(simp only [B1, *];omega))) only [↓mapA_nil, ↓mapA_cons,B0,B4,awant,undef,aq,al,cst,cst1,acells,flat,behind,abin,aconv,aint,thenQ,blkQ,retQ,Value.cells,Value.oneCell',Int.reduceToNat, ↓reduceIte,Nat.reduceLT,Nat.reduceEqDiff,reduceCtorEq,Nat.reduceAdd,Nat.reduceMul,Nat.reduceLeDiff,u_137,u_3,telem_137,tsz_145, *])
 |(refine hκ.out _ _ ?_;clear hκ κ))
      · have hu : firstN (unsafeP l) l.length = i := firstN_hit hlt (by unfold unsafeP; rw [HX.out]; simpa using h) hno
        exact ⟨_, rfl, by unfold wrongM; rw [if_neg HO.out, hu, if_pos (by omega)], hK.trans hKs⟩
      · have hsx : safeB x = true := h
        exact ⟨l.length - (i + 1), by omega, i + 1, rfl, by omega, by simp, hK.trans hKs, fun a ha => by
          by_cases hai : a = i
          · subst hai; unfold unsafeP; rw [HX.out]; simp [hsx]
          · exact hno a (by omega)⟩
    · have hil : i = l.length := by omega
      subst hil
      have hu := firstN_none (p := unsafeP l) hno
      have HU : Abs.Hid (¬ 0 ≤ firstN (unsafeP l) l.length) := by rw [hu]; simp [Abs.Hid]
      clear hu hno
      repeat' (first
 |with_reducible (first|apply awp_seq|apply awp_block|(refine awp_region_k ?_;intro κ hκ)|(refine hκ.out _ _ ?_;clear hκ κ)|apply awp_skip|apply awp_exit|apply awp_ret)
 |((first|with_reducible apply gd_split|((with_reducible refine cond_go ?_);refine awp_cond_split rfl ?_ ?_))<;>intro h<;>(try simp only [upd, ↓reduceIte,Nat.reduceEqDiff,B2] at h)<;>(try simp only [*,reduceCtorEq,decide_true,decide_false] at h)<;>(try (have hari:=h;simp only [B3] at hari))<;>(try (first|contradiction|(exfalso;omega)|(exfalso;simp at h;done)))<;>(try simp only [B5]))
 |((with_reducible refine acalls_go ?_);refine ACalls.mono (knot_spec l cs idl hE hl hf _) ?_;rintro _ _ ⟨rfl,hKs⟩)
 |(simp (maxSteps:=3000000) (disch:=(first|omega|(simp only [B1, *];omega))) only [↓mapA_nil, ↓mapA_cons,B0,B4,awant,undef,aq,al,cst,cst1,acells,flat,behind,abin,aconv,aint,thenQ,blkQ,retQ,Value.cells,Value.oneCell',Int.reduceToNat, ↓reduceIte,Nat.reduceLT,Nat.reduceEqDiff,reduceCtorEq,Nat.reduceAdd,Nat.reduceMul,Nat.reduceLeDiff,u_137,u_3,telem_137,tsz_145, *])
 |(refine hκ.out _ _ ?_;clear hκ κ))
      · exact ⟨_, rfl, by unfold wrongM; rw [if_neg HO.out, if_neg HU.out, if_pos (by simpa using h)], hK.trans hKs⟩
      · exact ⟨_, rfl, by unfold wrongM; rw [if_neg HO.out, if_neg HU.out, if_neg (by simpa using h)], hK.trans hKs⟩
end Go.Proofs.YtmoeoppbmhfbpaaGreatDoorY
