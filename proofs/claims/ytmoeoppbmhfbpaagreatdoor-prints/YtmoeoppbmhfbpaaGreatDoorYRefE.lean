import Derived.Test.YtmoeoppbmhfbpaaGreatDoorYRefD
/- The document's own answer: safe rules. -/
namespace Go.Proofs.YtmoeoppbmhfbpaaGreatDoorY
open Go.Abs
set_option linter.unusedSimpArgs false
set_option linter.unusedVariables false
set_option maxRecDepth 100000

def badT (x : RItem) (t : List UInt8) : Bool := variableB t && !boundB x t
def badA (x : RItem) (a : RAtom) : Bool := a.terms.any (badT x)
def safeB (x : RItem) : Bool := !(atomsL x).any (badA x)
def noT (x : RItem) (a : RAtom) (k : Nat) : Prop := (a.terms.take k).any (badT x) = false
def noA (x : RItem) (j : Nat) : Prop := ((atomsL x).take j).any (badA x) = false

/-- what is asked of items that are handed on: lengths -/
def RItem.fits (x : RItem) : Prop := x.body.length ≤ 1000 ∧ x.head.terms.length ≤ 1000 ∧ ∀ a ∈ x.body, a.terms.length ≤ 1000

set_option maxHeartbeats 4000000 in
theorem safe_spec (x : RItem) (c : List AV) (hc : EItem x c) (hx : x.fits) (σ : St) : ACalls Tryz.prog 137 [ag c] σ fun r σ' => r = sc (.bool (safeB x)) ∧ Keep σ σ' := by
  have hc0 := hc
  obtain ⟨ih, id, b, hb, rfl⟩ := hc.cells
  obtain ⟨f1, f2, f3⟩ := hx
  have f4 : ∀ a ∈ x.body, a.terms.length ≤ 100000 := fun a ha => by have := f3 a ha; omega
  have hal : (atomsL x).length ≤ 1001 := by unfold atomsL; split <;> simp <;> omega
  have hat : ∀ a ∈ atomsL x, a.terms.length ≤ 1000 := by
    intro a ha
    unfold atomsL at ha
    rw [List.mem_append] at ha
    rcases ha with ha | ha
    · split at ha
      · cases ha
      · simp at ha; subst ha; exact f2
    · exact f3 a ha
  refine acalls 41 [.tmp 2] Tryz.func137 rfl (by decide) rfl rfl (Nat.le_of_ble_eq_true rfl) ?_
  repeat' (first
 |with_reducible (first|apply awp_seq|apply awp_block|(refine awp_region_k ?_;intro κ hκ)|(refine hκ.out _ _ ?_;clear hκ κ)|apply awp_skip|apply awp_exit|apply awp_ret)
 |((first|with_reducible apply gd_split|((with_reducible refine cond_go ?_);refine awp_cond_split rfl ?_ ?_))<;>intro h<;>(try simp only [upd, ↓reduceIte,Nat.reduceEqDiff,B2] at h)<;>(try simp only [*,reduceCtorEq,decide_true,decide_false] at h)<;>(try (have hari:=h;simp only [B3] at hari))<;>(try (first|contradiction|(exfalso;omega)|(exfalso;simp at h;done)))<;>(try simp only [B5]))
 |((with_reducible refine acalls_go ?_);refine ACalls.mono (atoms_spec _ _ hc0 (by omega) _) ?_;rintro _ _ ⟨ida,cs,rfl,hE,hK⟩;(have ko:=hK.obj _ (by rw [new_nobj];exact Nat.lt_succ_self _);rw [new_same] at ko;have kn:=hK.nobj;rw [new_nobj] at kn))
 |(simp (maxSteps:=3000000) (disch:=(first|omega|(simp only [B1, *];omega))) only [↓mapA_nil, ↓mapA_cons,B0,B4,awant,undef,aq,al,cst,cst1,acells,flat,behind,abin,aconv,aint,thenQ,blkQ,retQ,Value.cells,Value.oneCell',Int.reduceToNat, ↓reduceIte,Nat.reduceLT,Nat.reduceEqDiff,reduceCtorEq,Nat.reduceAdd,Nat.reduceMul,Nat.reduceLeDiff,u_134,u_3,u_37,telem_134,telem_37,tfld_143_2,tsz_145,tsz_37,tsz_9, *])
 |(refine hκ.out _ _ ?_;clear hκ κ))
  have hcl := EL.length EAtom_len hE
  rename_i σ1
  have hK1 : Keep σ σ1 := ((Keep.refl σ).new _).trans hK
  refine awp_loop (fun m s σ' => ∃ j : Nat, m = (atomsL x).length - j ∧ j ≤ (atomsL x).length ∧ s 1 = ptr σ.nobj 0 ∧ s 3 = sl ida (atomsL x).length cs ∧ s 4 = sc (.int .i64 j) ∧ Keep σ σ' ∧ σ'.obj σ.nobj = itemCells x ih id b ∧ σ.nobj < σ'.nobj ∧ noA x j) (atomsL x).length
    ⟨0, by omega, by omega, rfl, rfl, rfl, hK1, ko, by omega, by simp [noA]⟩ ?_
  rintro m s σ' ⟨j, rfl, hj, h1, h3, h4, hKs, hos, hns, hno⟩
  clear hK hK1 ko kn
  by_cases hlt : j < (atomsL x).length
  · obtain ⟨ia, r, hd⟩ := EL_atom hE (List.getElem?_eq_getElem hlt)
    have hget := List.getElem?_eq_getElem hlt
    have hta := hat (atomsL x)[j] (List.getElem_mem hlt)
    generalize (atomsL x)[j] = a at hd hget hta
    have HG : Abs.Hid ((atomsL x)[j]? = some a) := hget
    clear hget
    repeat' (first
 |with_reducible (first|apply awp_seq|apply awp_block|(refine awp_region_k ?_;intro κ hκ)|(refine hκ.out _ _ ?_;clear hκ κ)|apply awp_skip|apply awp_exit|apply awp_ret)
 |((first|with_reducible apply gd_split|((with_reducible refine cond_go ?_);refine awp_cond_split rfl ?_ ?_))<;>intro h<;>(try simp only [upd, ↓reduceIte,Nat.reduceEqDiff,B2] at h)<;>(try simp only [*,reduceCtorEq,decide_true,decide_false] at h)<;>(try (have hari:=h;simp only [B3] at hari))<;>(try (first|contradiction|(exfalso;omega)|(exfalso;simp at h;done)))<;>(try simp only [B5]))
 |(simp (maxSteps:=3000000) (disch:=(first|omega|(simp only [B1, *];omega))) only [↓mapA_nil, ↓mapA_cons,B0,B4,awant,undef,aq,al,cst,cst1,acells,flat,behind,abin,aconv,aint,thenQ,blkQ,retQ,Value.cells,Value.oneCell',Int.reduceToNat, ↓reduceIte,Nat.reduceLT,Nat.reduceEqDiff,reduceCtorEq,Nat.reduceAdd,Nat.reduceMul,Nat.reduceLeDiff,u_134,u_3,u_37,telem_134,telem_37,tfld_143_2,tsz_145,tsz_37,tsz_9, *])
 |(refine hκ.out _ _ ?_;clear hκ κ))
    refine awp_loop (fun m2 s σ' => ∃ k : Nat, m2 = a.terms.length - k ∧ k ≤ a.terms.length ∧ s 1 = ptr σ.nobj 0 ∧ s 3 = sl ida (atomsL x).length cs ∧ s 4 = sc (.int .i64 j) ∧ s 5 = sc (.int .i64 k) ∧ Keep σ σ' ∧ σ'.obj σ.nobj = itemCells x ih id b ∧ σ.nobj < σ'.nobj ∧ noT x a k) a.terms.length
      ⟨0, by omega, by omega, by simp [upd, h1], by simp [upd, h3], by simp [upd, h4], rfl, hKs, hos, hns, by simp [noT]⟩ ?_
    rintro m2 s2 σ2 ⟨k, rfl, hk, g1, g3, g4, g5, hKt, hot, hnt, hno2⟩
    clear hKs hos hns
    by_cases hlt2 : k < a.terms.length
    · have hts := map_str_get hlt2
      repeat' (first
 |with_reducible (first|apply awp_seq|apply awp_block|(refine awp_region_k ?_;intro κ hκ)|(refine hκ.out _ _ ?_;clear hκ κ)|apply awp_skip|apply awp_exit|apply awp_ret)
 |((first|with_reducible apply gd_split|((with_reducible refine cond_go ?_);refine awp_cond_split rfl ?_ ?_))<;>intro h<;>(try simp only [upd, ↓reduceIte,Nat.reduceEqDiff,B2] at h)<;>(try simp only [*,reduceCtorEq,decide_true,decide_false] at h)<;>(try (have hari:=h;simp only [B3] at hari))<;>(try (first|contradiction|(exfalso;omega)|(exfalso;simp at h;done)))<;>(try simp only [B5]))
 |((with_reducible refine acalls_go ?_);refine ACalls.mono (variable_spec _ _) ?_;rintro _ _ ⟨rfl,rfl⟩)
 |((with_reducible refine acalls_go ?_);refine ACalls.mono (bound_spec _ _ _ hc0 (by omega) f4 _) ?_;rintro _ _ ⟨rfl,hKb⟩;(have kb:=hKb.obj _ hnt;have knb:=hKb.nobj))
 |(simp (maxSteps:=3000000) (disch:=(first|omega|(simp only [B1, *];omega))) only [↓mapA_nil, ↓mapA_cons,B0,B4,awant,undef,aq,al,cst,cst1,acells,flat,behind,abin,aconv,aint,thenQ,blkQ,retQ,Value.cells,Value.oneCell',Int.reduceToNat, ↓reduceIte,Nat.reduceLT,Nat.reduceEqDiff,reduceCtorEq,Nat.reduceAdd,Nat.reduceMul,Nat.reduceLeDiff,u_134,u_3,u_37,telem_134,telem_37,tfld_143_2,tsz_145,tsz_37,tsz_9, *])
 |(refine hκ.out _ _ ?_;clear hκ κ))
      all_goals
        have hgk := List.getElem?_eq_getElem hlt2
        first
        | exact ⟨_, rfl, by rw [safeB, any_hit _ HG.out (any_hit (badT x) hgk (by simp [badT, *]))]; rfl, by repeat (first | exact Keep.refl _ | assumption | (refine Keep.put ?_ (by first | omega | (simp only [new_nobj, put_nobj, lay_nobj, *]; omega)) _) | (refine Keep.new ?_ _) | (refine Keep.lay ?_ _) | (refine Keep.trans ?_ (by assumption)))⟩
        | exact ⟨a.terms.length - (k + 1), by omega, k + 1, rfl, by omega, by simp, hKt.trans hKb, by omega, by unfold noT at *; rw [any_take_succ _ hgk, hno2]; simp [badT, *]⟩
        | exact ⟨a.terms.length - (k + 1), by omega, k + 1, rfl, by omega, by simp, by unfold noT at *; rw [any_take_succ _ hgk, hno2]; simp [badT, *]⟩
    · have hkl : k = a.terms.length := by omega
      subst hkl
      repeat' (first
 |with_reducible (first|apply awp_seq|apply awp_block|(refine awp_region_k ?_;intro κ hκ)|(refine hκ.out _ _ ?_;clear hκ κ)|apply awp_skip|apply awp_exit|apply awp_ret)
 |((first|with_reducible apply gd_split|((with_reducible refine cond_go ?_);refine awp_cond_split rfl ?_ ?_))<;>intro h<;>(try simp only [upd, ↓reduceIte,Nat.reduceEqDiff,B2] at h)<;>(try simp only [*,reduceCtorEq,decide_true,decide_false] at h)<;>(try (have hari:=h;simp only [B3] at hari))<;>(try (first|contradiction|(exfalso;omega)|(exfalso;simp at h;done)))<;>(try simp only [B5]))
 |(simp (maxSteps:=3000000) (disch:=(first|omega|(simp only [B1, *];omega))) only [↓mapA_nil, ↓mapA_cons,B0,B4,awant,undef,aq,al,cst,cst1,acells,flat,behind,abin,aconv,aint,thenQ,blkQ,retQ,Value.cells,Value.oneCell',Int.reduceToNat, ↓reduceIte,Nat.reduceLT,Nat.reduceEqDiff,reduceCtorEq,Nat.reduceAdd,Nat.reduceMul,Nat.reduceLeDiff,u_134,u_3,u_37,telem_134,telem_37,tfld_143_2,tsz_145,tsz_37,tsz_9, *])
 |(refine hκ.out _ _ ?_;clear hκ κ))
      refine ⟨(atomsL x).length - (j + 1), by omega, j + 1, rfl, by omega, by simp, ?_⟩
      unfold noA noT at *
      rw [List.take_length] at hno2
      rw [any_take_succ _ HG.out, hno, badA, hno2]; rfl
  · have hkl : j = (atomsL x).length := by omega
    subst hkl
    repeat' (first
 |with_reducible (first|apply awp_seq|apply awp_block|(refine awp_region_k ?_;intro κ hκ)|(refine hκ.out _ _ ?_;clear hκ κ)|apply awp_skip|apply awp_exit|apply awp_ret)
 |((first|with_reducible apply gd_split|((with_reducible refine cond_go ?_);refine awp_cond_split rfl ?_ ?_))<;>intro h<;>(try simp only [upd, ↓reduceIte,Nat.reduceEqDiff,B2] at h)<;>(try simp only [*,reduceCtorEq,decide_true,decide_false] at h)<;>(try (have hari:=h;simp only [B3] at hari))<;>(try (first|contradiction|(exfalso;omega)|(exfalso;simp at h;done)))<;>(try simp only [B5]))
 |(simp (maxSteps:=3000000) (disch:=(first|omega|(simp only [B1, *];omega))) only [↓mapA_nil, ↓mapA_cons,B0,B4,awant,undef,aq,al,cst,cst1,acells,flat,behind,abin,aconv,aint,thenQ,blkQ,retQ,Value.cells,Value.oneCell',Int.reduceToNat, ↓reduceIte,Nat.reduceLT,Nat.reduceEqDiff,reduceCtorEq,Nat.reduceAdd,Nat.reduceMul,Nat.reduceLeDiff,u_134,u_3,u_37,telem_134,telem_37,tfld_143_2,tsz_145,tsz_37,tsz_9, *])
 |(refine hκ.out _ _ ?_;clear hκ κ))
    unfold noA at hno
    rw [List.take_length] at hno
    first
    | exact ⟨_, rfl, by rw [safeB, hno]; rfl, by repeat (first | exact Keep.refl _ | assumption | (refine Keep.put ?_ (by first | omega | (simp only [new_nobj, put_nobj, lay_nobj, *]; omega)) _) | (refine Keep.new ?_ _) | (refine Keep.lay ?_ _) | (refine Keep.trans ?_ (by assumption)))⟩
    | exact ⟨_, rfl, by rw [safeB, hno]; rfl⟩
end Go.Proofs.YtmoeoppbmhfbpaaGreatDoorY
