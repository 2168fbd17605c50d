import Derived.Test.YtmoeoppbmhfbpaaGreatDoorYRefK
import Derived.Test.YtmoeoppbmhfbpaaGreatDoorYRefL
import Derived.Test.YtmoeoppbmhfbpaaGreatDoorYRefF
/- The document's own answer: Check. -/
namespace Go.Proofs.YtmoeoppbmhfbpaaGreatDoorY
open Go.Abs
set_option linter.unusedSimpArgs false
set_option linter.unusedVariables false
set_option maxRecDepth 100000

theorem atomU_terms (nt : Bool) (s : List UInt8) : (atomU nt s).terms.length ≤ s.length := by
  unfold atomU
  simp only
  split
  · rename_i h
    refine Nat.le_trans cutL_count ?_
    simp; omega
  · simp
theorem atomL_terms (s : List UInt8) : (atomL s).terms.length ≤ s.length := by
  unfold atomL
  refine Nat.le_trans (atomU_terms _ _) ?_
  unfold unbang
  split
  · simp
  · exact Nat.le_refl _
theorem itemL_fits {t : List UInt8} (h : t.length ≤ 1000) : (itemL t).fits := by
  unfold itemL
  split
  · exact ⟨by simp [outL], by simp [outL], by simp [outL]⟩
  · unfold ruleL
    refine ⟨?_, ?_, ?_⟩
    · simp only
      split
      · rw [List.length_map]
        refine Nat.le_trans cutL_count ?_
        simp; omega
      · simp
    · simp only
      refine Nat.le_trans (atomL_terms _) ?_
      simp; omega
    · simp only
      split
      · intro a ha
        rw [List.mem_map] at ha
        obtain ⟨u, hu, rfl⟩ := ha
        refine Nat.le_trans (atomL_terms _) ?_
        refine Nat.le_trans (cutL_piece hu) ?_
        simp; omega
      · simp

/-- what the scanner tells of a text that it lets through -/
def goodText (s : List UInt8) : Prop := (cutL s 46).length ≤ 16 ∧ ∀ t ∈ cutL s 46, pieceOk t
def refCheck (s : List UInt8) : Int × Int :=
  if 600 < s.length then (1, 0) else if 0 ≤ placeL s then (2, placeL s) else wrongM (itemsL s)

set_option maxHeartbeats 16000000 in
theorem refCheck_spec (s : List UInt8) (hg : s.length ≤ 600 → ¬ 0 ≤ placeL s → goodText s) (hpl : -1 ≤ placeL s ∧ placeL s ≤ s.length) (σ : St) : ACalls Tryz.prog 82 [str s] σ fun r σ' => r = two (refCheck s) ∧ Keep σ σ' := by
  obtain ⟨q1, q2⟩ := hpl
  refine acalls 18 [.tmp 2, .tmp 3] Tryz.func82 rfl (by decide) rfl rfl (Nat.le_of_ble_eq_true rfl) ?_
  by_cases hL : 600 < s.length
  · have hr : refCheck s = (1, 0) := by unfold refCheck; rw [if_pos hL]
    repeat' (first
 |with_reducible (first|apply awp_seq|apply awp_block|(refine awp_region_k ?_;intro κ hκ)|(refine hκ.out _ _ ?_;clear hκ κ)|apply awp_skip|apply awp_exit|apply awp_ret)
 |((first|with_reducible apply gd_split|((with_reducible refine cond_go ?_);refine awp_cond_split rfl ?_ ?_))<;>intro h<;>(try simp only [upd, ↓reduceIte,Nat.reduceEqDiff,B2] at h)<;>(try simp only [*,reduceCtorEq,decide_true,decide_false] at h)<;>(try (have hari:=h;simp only [B3] at hari))<;>(try (first|contradiction|(exfalso;omega)|(exfalso;simp at h;done)))<;>(try simp only [B5]))
 |(simp (maxSteps:=3000000) (disch:=(first|omega|(simp only [B1, *];omega))) only [↓mapA_nil, ↓mapA_cons,B0,B4,awant,undef,aq,al,cst,cst1,acells,flat,behind,abin,aconv,aint,thenQ,blkQ,retQ,Value.cells,Value.oneCell',Int.reduceToNat, ↓reduceIte,Nat.reduceLT,Nat.reduceEqDiff,reduceCtorEq,Nat.reduceAdd,Nat.reduceMul,Nat.reduceLeDiff,u_3,u_9,telem_9, *])
 |(refine hκ.out _ _ ?_;clear hκ κ))
    exact ⟨_, rfl, rfl, Keep.refl _⟩
  · have hg := hg (by omega)
    by_cases hP : 0 ≤ placeL s
    · have hr : refCheck s = (2, placeL s) := by unfold refCheck; rw [if_neg hL, if_pos hP]
      repeat' (first
 |with_reducible (first|apply awp_seq|apply awp_block|(refine awp_region_k ?_;intro κ hκ)|(refine hκ.out _ _ ?_;clear hκ κ)|apply awp_skip|apply awp_exit|apply awp_ret)
 |((first|with_reducible apply gd_split|((with_reducible refine cond_go ?_);refine awp_cond_split rfl ?_ ?_))<;>intro h<;>(try simp only [upd, ↓reduceIte,Nat.reduceEqDiff,B2] at h)<;>(try simp only [*,reduceCtorEq,decide_true,decide_false] at h)<;>(try (have hari:=h;simp only [B3] at hari))<;>(try (first|contradiction|(exfalso;omega)|(exfalso;simp at h;done)))<;>(try simp only [B5]))
 |((with_reducible refine acalls_go ?_);refine ACalls.mono (place_spec s (by omega) _) ?_;rintro _ _ ⟨rfl,hK1⟩)
 |(simp (maxSteps:=3000000) (disch:=(first|omega|(simp only [B1, *];omega))) only [↓mapA_nil, ↓mapA_cons,B0,B4,awant,undef,aq,al,cst,cst1,acells,flat,behind,abin,aconv,aint,thenQ,blkQ,retQ,Value.cells,Value.oneCell',Int.reduceToNat, ↓reduceIte,Nat.reduceLT,Nat.reduceEqDiff,reduceCtorEq,Nat.reduceAdd,Nat.reduceMul,Nat.reduceLeDiff,u_3,u_9,telem_9, *])
 |(refine hκ.out _ _ ?_;clear hκ κ))
      first
      | exact ⟨_, rfl, rfl, hK1⟩
      | exact ⟨_, rfl, rfl⟩
    · have hr : refCheck s = wrongM (itemsL s) := by unfold refCheck; rw [if_neg hL, if_neg hP]
      obtain ⟨g1, g2⟩ := hg hP
      have hil : (itemsL s).length ≤ 16 := by unfold itemsL; simpa using g1
      have hfi : ∀ x ∈ itemsL s, x.fits := by
        intro x hx
        unfold itemsL at hx
        rw [List.mem_map] at hx
        obtain ⟨t, ht, rfl⟩ := hx
        exact itemL_fits (g2 t ht).1
      repeat' (first
 |with_reducible (first|apply awp_seq|apply awp_block|(refine awp_region_k ?_;intro κ hκ)|(refine hκ.out _ _ ?_;clear hκ κ)|apply awp_skip|apply awp_exit|apply awp_ret)
 |((first|with_reducible apply gd_split|((with_reducible refine cond_go ?_);refine awp_cond_split rfl ?_ ?_))<;>intro h<;>(try simp only [upd, ↓reduceIte,Nat.reduceEqDiff,B2] at h)<;>(try simp only [*,reduceCtorEq,decide_true,decide_false] at h)<;>(try (have hari:=h;simp only [B3] at hari))<;>(try (first|contradiction|(exfalso;omega)|(exfalso;simp at h;done)))<;>(try simp only [B5]))
 |((with_reducible refine acalls_go ?_);refine ACalls.mono (place_spec s (by omega) _) ?_;rintro _ _ ⟨rfl,hK1⟩)
 |((with_reducible refine acalls_go ?_);refine ACalls.mono (items_spec s (by omega) (by omega) g2 _) ?_;rintro _ _ ⟨idi,ci,rfl,hEi,hK2⟩)
 |((with_reducible refine acalls_go ?_);refine ACalls.mono (wrong_spec _ _ _ hEi hil hfi _) ?_;rintro _ _ ⟨rfl,hK3⟩)
 |(simp (maxSteps:=3000000) (disch:=(first|omega|(simp only [B1, *];omega))) only [↓mapA_nil, ↓mapA_cons,B0,B4,awant,undef,aq,al,cst,cst1,acells,flat,behind,abin,aconv,aint,thenQ,blkQ,retQ,Value.cells,Value.oneCell',Int.reduceToNat, ↓reduceIte,Nat.reduceLT,Nat.reduceEqDiff,reduceCtorEq,Nat.reduceAdd,Nat.reduceMul,Nat.reduceLeDiff,u_3,u_9,telem_9, *])
 |(refine hκ.out _ _ ?_;clear hκ κ))
      exact ⟨_, rfl, rfl, (hK1.trans hK2).trans hK3⟩
end Go.Proofs.YtmoeoppbmhfbpaaGreatDoorY
