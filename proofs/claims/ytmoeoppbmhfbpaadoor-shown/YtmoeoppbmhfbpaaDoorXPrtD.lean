import Derived.Test.YtmoeoppbmhfbpaaDoorXPrtA
/- The program: variables in their order. -/
namespace Go.Proofs.YtmoeoppbmhfbpaaDoorX
open Go.Abs
set_option linter.unusedSimpArgs false
set_option linter.unusedVariables false
set_option maxRecDepth 100000

def encI (t : Tx) : AV := sc (.int .i64 (encT t).2)
theorem map_enc_get {l : List Tx} {k : Nat} (h : k < l.length) : (l.map encI).drop k = sc (.int .i64 (encT l[k]).2) :: (l.map encI).drop (k + 1) := by
  rw [List.drop_eq_getElem_cons (by simpa using h)]; simp [encI]
def VL (l : List Tx) : Prop := ∀ t ∈ l, VT t ∧ variableB t = true
theorem enc_inj {t u : Tx} (ht : VT t) (hu : VT u) (vt : variableB t = true) (vu : variableB u = true) (h : (encT t).2 = (encT u).2) : t = u := by
  have := hit_eq ht hu vu
  unfold hitT at this
  rw [enc_var ht, vt, h] at this
  simpa using this.symm
set_option maxHeartbeats 4000000 in
theorem placeOf_spec (l : List Tx) (ids : Nat) (t : Tx) (hl : l.length ≤ 10000000) (hL : VL l) (ht : VT t) (hv : variableB t = true) (σ : St) : ACalls Tryd.prog 38 [sc (.int .i64 (encT t).2), sl ids l.length (l.map encI)] σ fun x σ' => x = sc (.int .i64 (whichL l t)) ∧ σ' = σ := by
  have hinj : ∀ u ∈ l, (encT u).2 = (encT t).2 → u = t := fun u hu h => enc_inj (hL u hu).1 ht (hL u hu).2 hv h
  generalize hte : (encT t).2 = v at hinj
  have HTE : Abs.Hid _ := hte
  clear hte
  refine acalls 19 [.tmp 4] Tryd.func38 rfl (by decide) rfl rfl (Nat.le_of_ble_eq_true rfl) ?_
  repeat' (first
 |with_reducible (first|apply awp_seq|apply awp_block|(refine awp_region_k ?_;intro κ hκ)|(refine hκ.out _ _ ?_;clear hκ κ)|apply awp_skip|apply awp_exit|apply awp_ret)
 |((first|with_reducible apply gd_split|((with_reducible refine cond_go ?_);refine awp_cond_split rfl ?_ ?_))<;>intro h<;>(try simp only [upd, ↓reduceIte,Nat.reduceEqDiff,B2] at h)<;>(try simp only [*,reduceCtorEq,decide_true,decide_false] at h)<;>(try (have hari:=h;simp only [B3] at hari))<;>(try (first|contradiction|(exfalso;omega)|(exfalso;simp at h;done)))<;>(try simp only [B5]))
 |(simp (maxSteps:=3000000) (disch:=(first|omega|(simp only [B1, *];omega))) only [↓mapA_nil, ↓mapA_cons,B0,B4,awant,undef,aq,al,cst,cst1,acells,flat,behind,abin,aconv,aint,thenQ,blkQ,retQ,Value.cells,Value.oneCell',Int.reduceToNat, ↓reduceIte,Nat.reduceLT,Nat.reduceEqDiff,reduceCtorEq,Nat.reduceAdd,Nat.reduceMul,Nat.reduceLeDiff,u_3,u_52,telem_52,tsz_3, *])
 |(refine hκ.out _ _ ?_;clear hκ κ))
  refine awp_loop (fun m s' σ' => ∃ i : Nat, m = l.length - i ∧ i ≤ l.length ∧ s' 0 = sc (.int .i64 v) ∧ s' 7 = sl ids l.length (l.map encI) ∧ s' 8 = sc (.int .i64 l.length) ∧ s' 9 = sc (.int .i64 i) ∧ σ' = σ ∧ Abs.Hid (∀ a, a < i → l[a]? ≠ some t)) l.length
    ⟨0, by omega, by omega, rfl, rfl, rfl, rfl, rfl, fun a ha => by omega⟩ ?_
  rintro m s' σ' ⟨i, rfl, hi, h0, h7, h8, h9, hσ, hno⟩
  subst hσ
  by_cases hlt : i < l.length
  · have hts := map_enc_get hlt
    have HX : Abs.Hid (l[i]? = some l[i]) := List.getElem?_eq_getElem hlt
    have hiw := hinj l[i] (List.getElem_mem hlt)
    generalize l[i] = w at hts HX hiw
    generalize hwe : (encT w).2 = vw at hts hiw
    have HWE : Abs.Hid _ := hwe
    have HIW : Abs.Hid _ := hiw
    clear hwe hiw hinj
    repeat' (first
 |with_reducible (first|apply awp_seq|apply awp_block|(refine awp_region_k ?_;intro κ hκ)|(refine hκ.out _ _ ?_;clear hκ κ)|apply awp_skip|apply awp_exit|apply awp_ret)
 |((first|with_reducible apply gd_split|((with_reducible refine cond_go ?_);refine awp_cond_split rfl ?_ ?_))<;>intro h<;>(try simp only [upd, ↓reduceIte,Nat.reduceEqDiff,B2] at h)<;>(try simp only [*,reduceCtorEq,decide_true,decide_false] at h)<;>(try (have hari:=h;simp only [B3] at hari))<;>(try (first|contradiction|(exfalso;omega)|(exfalso;simp at h;done)))<;>(try simp only [B5]))
 |(simp (maxSteps:=3000000) (disch:=(first|omega|(simp only [B1, *];omega))) only [↓mapA_nil, ↓mapA_cons,B0,B4,awant,undef,aq,al,cst,cst1,acells,flat,behind,abin,aconv,aint,thenQ,blkQ,retQ,Value.cells,Value.oneCell',Int.reduceToNat, ↓reduceIte,Nat.reduceLT,Nat.reduceEqDiff,reduceCtorEq,Nat.reduceAdd,Nat.reduceMul,Nat.reduceLeDiff,u_3,u_52,telem_52,tsz_3, *])
 |(refine hκ.out _ _ ?_;clear hκ κ))
    · have hw : w = t := HIW.out (by simpa using h)
      have hmem : t ∈ l := by rw [← hw]; exact List.mem_of_getElem? HX.out
      exact ⟨_, rfl, by rw [whichL, if_pos hmem, idx_first hno.out (by rw [HX.out, hw])]⟩
    · have hw : w ≠ t := by
        rintro rfl
        have : vw = v := by rw [← HWE.out, ← HTE.out]
        simp [this] at h
      refine ⟨l.length - (i + 1), by omega, i + 1, rfl, by omega, by simp, ?_⟩
      intro a ha
      by_cases hai : a = i
      · subst hai; rw [HX.out]; simpa using hw
      · exact hno.out a (by omega)
  · have hil : i = l.length := by omega
    subst hil
    have hnm := not_mem_of hno.out
    clear hinj
    repeat' (first
 |with_reducible (first|apply awp_seq|apply awp_block|(refine awp_region_k ?_;intro κ hκ)|(refine hκ.out _ _ ?_;clear hκ κ)|apply awp_skip|apply awp_exit|apply awp_ret)
 |((first|with_reducible apply gd_split|((with_reducible refine cond_go ?_);refine awp_cond_split rfl ?_ ?_))<;>intro h<;>(try simp only [upd, ↓reduceIte,Nat.reduceEqDiff,B2] at h)<;>(try simp only [*,reduceCtorEq,decide_true,decide_false] at h)<;>(try (have hari:=h;simp only [B3] at hari))<;>(try (first|contradiction|(exfalso;omega)|(exfalso;simp at h;done)))<;>(try simp only [B5]))
 |(simp (maxSteps:=3000000) (disch:=(first|omega|(simp only [B1, *];omega))) only [↓mapA_nil, ↓mapA_cons,B0,B4,awant,undef,aq,al,cst,cst1,acells,flat,behind,abin,aconv,aint,thenQ,blkQ,retQ,Value.cells,Value.oneCell',Int.reduceToNat, ↓reduceIte,Nat.reduceLT,Nat.reduceEqDiff,reduceCtorEq,Nat.reduceAdd,Nat.reduceMul,Nat.reduceLeDiff,u_3,u_52,telem_52,tsz_3, *])
 |(refine hκ.out _ _ ?_;clear hκ κ))
    exact ⟨_, rfl, by rw [whichL, if_neg hnm]⟩

theorem VL_ordF {l : List Tx} {t : Tx} (h : VL l) (ht : VT t) : VL (ordF l t) := by
  unfold ordF
  split
  · rename_i hc
    intro u hu
    rcases List.mem_append.1 hu with hu | hu
    · exact h u hu
    · simp at hu; subst hu; exact ⟨ht, hc.1⟩
  · exact h
set_option maxHeartbeats 16000000 in
theorem variablesOf_spec (N : List Tx) (ls : List RAtom) (cs : List AV) (ida : Nat) (hE : EL (PC N) ls cs) (hV : ∀ a ∈ ls, VA a) (hn : ls.length ≤ 1001) (hat : ∀ a ∈ ls, a.terms.length ≤ 1000) (σ : St) :
    ACalls Tryd.prog 29 [sl ida ls.length cs] σ fun r σ' => ∃ id, r = sl id (ordT [] (ls.flatMap (·.terms))).length ((ordT [] (ls.flatMap (·.terms))).map encI) ∧ VL (ordT [] (ls.flatMap (·.terms))) ∧ Keep σ σ' := by
  have hcl := EL.length PC_len hE
  refine acalls 39 [.tmp 2] Tryd.func29 rfl (by decide) rfl rfl (Nat.le_of_ble_eq_true rfl) ?_
  repeat' (first
 |with_reducible (first|apply awp_seq|apply awp_block|(refine awp_region_k ?_;intro κ hκ)|(refine hκ.out _ _ ?_;clear hκ κ)|apply awp_skip|apply awp_exit|apply awp_ret)
 |((first|with_reducible apply gd_split|((with_reducible refine cond_go ?_);refine awp_cond_split rfl ?_ ?_))<;>intro h<;>(try simp only [upd, ↓reduceIte,Nat.reduceEqDiff,B2] at h)<;>(try simp only [*,reduceCtorEq,decide_true,decide_false] at h)<;>(try (have hari:=h;simp only [B3] at hari))<;>(try (first|contradiction|(exfalso;omega)|(exfalso;simp at h;done)))<;>(try simp only [B5]))
 |((with_reducible refine aapp_go ?_);refine aApp_own (by first|exact tez_52) (by assumption) (by assumption) (by decide) (by rfl) (by first|assumption|(simp;done)|(simp;omega)|omega) (by rfl) (by rfl) (by decide) (by omega) (by omega) ?_;intro idn σn hOn hKn eobj enobj ever entop)
 |((with_reducible refine aappn_go ?_);refine aApp_nil (by first|exact tez_52) (by rfl) (by decide) (by rfl) (by rfl) (by decide) (by omega) (by omega) ?_)
 |(simp (maxSteps:=3000000) (disch:=(first|omega|(simp only [B1, *];omega))) only [↓mapA_nil, ↓mapA_cons,B0,B4,awant,undef,aq,al,cst,cst1,acells,flat,behind,abin,aconv,aint,thenQ,blkQ,retQ,Value.cells,Value.oneCell',Int.reduceToNat, ↓reduceIte,Nat.reduceLT,Nat.reduceEqDiff,reduceCtorEq,Nat.reduceAdd,Nat.reduceMul,Nat.reduceLeDiff,u_3,u_36,u_73,telem_36,telem_73,tez_52,tfld_38_1,tfld_45_0,tfld_45_1,tsz_3,tsz_36,tsz_38,tsz_4,tsz_45,tzero_38,tzero_45, *])
 |(refine hκ.out _ _ ?_;clear hκ κ))
  refine awp_loop (fun m s σ' => ∃ (j i3 : Nat) (l : List Tx), m = ls.length - j ∧ j ≤ ls.length ∧ s 3 = sl i3 l.length (l.map encI) ∧ s 9 = sl ida ls.length cs ∧ s 10 = sc (.int .i64 ls.length) ∧ s 11 = sc (.int .i64 j) ∧ Keep σ σ' ∧ Own σ σ' i3 l.length ∧ l.length ≤ j * 1000 ∧ Abs.Hid (VL l) ∧ Abs.Hid (l = ordT [] ((ls.take j).flatMap (·.terms)))) ls.length
    ⟨0, 1, [], by omega, by omega, rfl, rfl, rfl, rfl, Keep.refl _, Own.nil _ _, by simp, (fun t ht => by cases ht), by simp [Abs.Hid, ordT]⟩ ?_
  rintro m s σ' ⟨j, i3, l, rfl, hj, h3, h9, h10, h11, hK, hO, hll, hVL, hL⟩
  by_cases hlt : j < ls.length
  · have hget := List.getElem?_eq_getElem hlt
    have hta := hat ls[j] (List.getElem_mem hlt)
    have hva := hV ls[j] (List.getElem_mem hlt)
    obtain ⟨ha, ia, r, hd⟩ := EL_PC hE hget
    generalize ls[j] = a at hd hget hta ha hva
    have HG : Abs.Hid (ls[j]? = some a) := hget
    have HVA : Abs.Hid (VA a) := hva
    clear hget hva
    have htl := tcells_len a.terms
    have kno := hK.nobj
    repeat' (first
 |with_reducible (first|apply awp_seq|apply awp_block|(refine awp_region_k ?_;intro κ hκ)|(refine hκ.out _ _ ?_;clear hκ κ)|apply awp_skip|apply awp_exit|apply awp_ret)
 |((first|with_reducible apply gd_split|((with_reducible refine cond_go ?_);refine awp_cond_split rfl ?_ ?_))<;>intro h<;>(try simp only [upd, ↓reduceIte,Nat.reduceEqDiff,B2] at h)<;>(try simp only [*,reduceCtorEq,decide_true,decide_false] at h)<;>(try (have hari:=h;simp only [B3] at hari))<;>(try (first|contradiction|(exfalso;omega)|(exfalso;simp at h;done)))<;>(try simp only [B5]))
 |((with_reducible refine aapp_go ?_);refine aApp_own (by first|exact tez_52) (by assumption) (by assumption) (by decide) (by rfl) (by first|assumption|(simp;done)|(simp;omega)|omega) (by rfl) (by rfl) (by decide) (by omega) (by omega) ?_;intro idn σn hOn hKn eobj enobj ever entop)
 |((with_reducible refine aappn_go ?_);refine aApp_nil (by first|exact tez_52) (by rfl) (by decide) (by rfl) (by rfl) (by decide) (by omega) (by omega) ?_)
 |(simp (maxSteps:=3000000) (disch:=(first|omega|(simp only [B1, *];omega))) only [↓mapA_nil, ↓mapA_cons,B0,B4,awant,undef,aq,al,cst,cst1,acells,flat,behind,abin,aconv,aint,thenQ,blkQ,retQ,Value.cells,Value.oneCell',Int.reduceToNat, ↓reduceIte,Nat.reduceLT,Nat.reduceEqDiff,reduceCtorEq,Nat.reduceAdd,Nat.reduceMul,Nat.reduceLeDiff,u_3,u_36,u_73,telem_36,telem_73,tez_52,tfld_38_1,tfld_45_0,tfld_45_1,tsz_3,tsz_36,tsz_38,tsz_4,tsz_45,tzero_38,tzero_45, *])
 |(refine hκ.out _ _ ?_;clear hκ κ))
    refine awp_loop (fun m s σ' => ∃ (k i3 : Nat) (l : List Tx), m = a.terms.length - k ∧ k ≤ a.terms.length ∧ s 3 = sl i3 l.length (l.map encI) ∧ s 9 = sl ida ls.length cs ∧ s 10 = sc (.int .i64 ls.length) ∧ s 11 = sc (.int .i64 j) ∧ s 16 = sl ia a.terms.length (tcells a.terms) ∧ s 17 = sc (.int .i64 a.terms.length) ∧ s 18 = sc (.int .i64 k) ∧ Keep σ σ' ∧ Own σ σ' i3 l.length ∧ l.length ≤ j * 1000 + k ∧ Abs.Hid (VL l) ∧ Abs.Hid (l = ordT [] ((ls.take j).flatMap (·.terms) ++ a.terms.take k))) a.terms.length
      ⟨0, i3, l, by omega, by omega, by simp [upd, h3], by simp [upd, h9], by simp [upd, h10], by simp [upd, h11], by simp [upd], rfl, rfl, (hK.new _).put hK.nobj _, Own.put (Own.new hO _) _ _, by omega, hVL, by simpa using hL⟩ ?_
    clear hK hO hL hll hVL h3 h9 h10 h11 kno l
    rintro m s σ' ⟨k, i3, l, rfl, hk, h3, h9, h10, h11, h16, h17, h18, hK, hO, hll, hVL, hL⟩
    have kno := hK.nobj
    by_cases hlt2 : k < a.terms.length
    · have hget := List.getElem?_eq_getElem hlt2
      have hvw := HVA.out a.terms[k] (List.getElem_mem hlt2)
      obtain ⟨r2, hd2⟩ := tcells_get hget
      generalize a.terms[k] = w at hd2 hget hvw
      have hstep : Abs.Hid (ordT [] ((ls.take j).flatMap (·.terms) ++ a.terms.take (k + 1)) = ordF l w) := by
        rw [Abs.Hid, List.take_add_one, hget, Option.toList_some, ← List.append_assoc, ordT_snoc, ← hL.out]
      have HVN : Abs.Hid (VL (ordF l w)) := VL_ordF hVL.out hvw
      clear hget
      have h1w := enc_var hvw
      cases hv : variableB w with
      | true =>
        rw [hv] at h1w
        rw [h1w] at hd2
        have hP := fun σ => placeOf_spec l i3 w (by omega) hVL.out hvw hv σ
        generalize hw2 : (encT w).2 = w2 at hd2 hP
        have HW2 : Abs.Hid _ := hw2
        clear hw2
        repeat' (first
 |with_reducible (first|apply awp_seq|apply awp_block|(refine awp_region_k ?_;intro κ hκ)|(refine hκ.out _ _ ?_;clear hκ κ)|apply awp_skip|apply awp_exit|apply awp_ret)
 |((first|with_reducible apply gd_split|((with_reducible refine cond_go ?_);refine awp_cond_split rfl ?_ ?_))<;>intro h<;>(try simp only [upd, ↓reduceIte,Nat.reduceEqDiff,B2] at h)<;>(try simp only [*,reduceCtorEq,decide_true,decide_false] at h)<;>(try (have hari:=h;simp only [B3] at hari))<;>(try (first|contradiction|(exfalso;omega)|(exfalso;simp at h;done)))<;>(try simp only [B5]))
 |((with_reducible refine aapp_go ?_);refine aApp_own (by first|exact tez_52) (by assumption) (by assumption) (by decide) (by rfl) (by first|assumption|(simp;done)|(simp;omega)|omega) (by rfl) (by rfl) (by decide) (by omega) (by omega) ?_;intro idn σn hOn hKn eobj enobj ever entop)
 |((with_reducible refine aappn_go ?_);refine aApp_nil (by first|exact tez_52) (by rfl) (by decide) (by rfl) (by rfl) (by decide) (by omega) (by omega) ?_)
 |((with_reducible refine acalls_go ?_);refine ACalls.mono (hP _) ?_;rintro _ _ ⟨rfl,rfl⟩)
 |(simp (maxSteps:=3000000) (disch:=(first|omega|(simp only [B1, *];omega))) only [↓mapA_nil, ↓mapA_cons,B0,B4,awant,undef,aq,al,cst,cst1,acells,flat,behind,abin,aconv,aint,thenQ,blkQ,retQ,Value.cells,Value.oneCell',Int.reduceToNat, ↓reduceIte,Nat.reduceLT,Nat.reduceEqDiff,reduceCtorEq,Nat.reduceAdd,Nat.reduceMul,Nat.reduceLeDiff,u_3,u_36,u_73,telem_36,telem_73,tez_52,tfld_38_1,tfld_45_0,tfld_45_1,tsz_3,tsz_36,tsz_38,tsz_4,tsz_45,tzero_38,tzero_45, *])
 |(refine hκ.out _ _ ?_;clear hκ κ))
        · have hw1 : whichL l w = -1 := by simpa using h
          have hni : w ∉ l := fun hm => by rw [whichL, if_pos hm] at hw1; omega
          have hKx : Keep σ ((σ'.new [sc (.bool false), sc (.int .i64 0)]).put σ'.nobj [sc (.bool true), sc (.int .i64 w2)]) := (hK.new _).put hK.nobj _
          refine aApp_own (by first | exact tez_52) hKx (Own.put (Own.new hO _) _ _) (by decide) (by rfl) (by simp) (by rfl) (by rfl) (by decide) (by omega) (by omega) ?_
          intro idn σn hOn hKn eobj enobj ever entop
          simp (maxSteps:=3000000) (disch:=(first|omega|(simp only [B1, *];omega))) only [↓mapA_nil, ↓mapA_cons,B0,B4,awant,undef,aq,al,cst,cst1,acells,flat,behind,abin,aconv,aint,thenQ,blkQ,retQ,Value.cells,Value.oneCell',Int.reduceToNat, ↓reduceIte,Nat.reduceLT,Nat.reduceEqDiff,reduceCtorEq,Nat.reduceAdd,Nat.reduceMul,Nat.reduceLeDiff,u_3,u_36,u_73,telem_36,telem_73,tez_52,tfld_38_1,tfld_45_0,tfld_45_1,tsz_3,tsz_36,tsz_38,tsz_4,tsz_45,tzero_38,tzero_45, *]
          repeat' (first
 |with_reducible (first|apply awp_seq|apply awp_block|(refine awp_region_k ?_;intro κ hκ)|(refine hκ.out _ _ ?_;clear hκ κ)|apply awp_skip|apply awp_exit|apply awp_ret)
 |((first|with_reducible apply gd_split|((with_reducible refine cond_go ?_);refine awp_cond_split rfl ?_ ?_))<;>intro h<;>(try simp only [upd, ↓reduceIte,Nat.reduceEqDiff,B2] at h)<;>(try simp only [*,reduceCtorEq,decide_true,decide_false] at h)<;>(try (have hari:=h;simp only [B3] at hari))<;>(try (first|contradiction|(exfalso;omega)|(exfalso;simp at h;done)))<;>(try simp only [B5]))
 |((with_reducible refine aapp_go ?_);refine aApp_own (by first|exact tez_52) (by assumption) (by assumption) (by decide) (by rfl) (by first|assumption|(simp;done)|(simp;omega)|omega) (by rfl) (by rfl) (by decide) (by omega) (by omega) ?_;intro idn σn hOn hKn eobj enobj ever entop)
 |((with_reducible refine aappn_go ?_);refine aApp_nil (by first|exact tez_52) (by rfl) (by decide) (by rfl) (by rfl) (by decide) (by omega) (by omega) ?_)
 |(simp (maxSteps:=3000000) (disch:=(first|omega|(simp only [B1, *];omega))) only [↓mapA_nil, ↓mapA_cons,B0,B4,awant,undef,aq,al,cst,cst1,acells,flat,behind,abin,aconv,aint,thenQ,blkQ,retQ,Value.cells,Value.oneCell',Int.reduceToNat, ↓reduceIte,Nat.reduceLT,Nat.reduceEqDiff,reduceCtorEq,Nat.reduceAdd,Nat.reduceMul,Nat.reduceLeDiff,u_3,u_36,u_73,telem_36,telem_73,tez_52,tfld_38_1,tfld_45_0,tfld_45_1,tsz_3,tsz_36,tsz_38,tsz_4,tsz_45,tzero_38,tzero_45, *])
 |(refine hκ.out _ _ ?_;clear hκ κ))
          have hof : ordF l w = l ++ [w] := by rw [ordF, if_pos ⟨hv, hni⟩]
          refine ⟨a.terms.length - (k + 1), by omega, k + 1, idn, l ++ [w], rfl, by omega, ?_, by simp, by simpa using hOn, by simp; omega, by rw [← hof]; exact HVN, by rw [Abs.Hid, hstep.out, hof]⟩
          simp [encI, HW2.out]
        · have hw1 : whichL l w ≠ -1 := by simpa using h
          have hin : w ∈ l := by
            by_cases hm : w ∈ l
            · exact hm
            · rw [whichL, if_neg hm] at hw1; exact absurd rfl hw1
          refine ⟨a.terms.length - (k + 1), by omega, k + 1, i3, l, rfl, by omega, rfl, by simp, (hK.new _).put hK.nobj _, Own.put (Own.new hO _) _ _, by omega, hVL, ?_⟩
          rw [Abs.Hid, hstep.out, ordF, if_neg (fun h => h.2 hin)]
      | false =>
        rw [hv] at h1w
        rw [h1w] at hd2
        generalize (encT w).2 = w2 at hd2
        repeat' (first
 |with_reducible (first|apply awp_seq|apply awp_block|(refine awp_region_k ?_;intro κ hκ)|(refine hκ.out _ _ ?_;clear hκ κ)|apply awp_skip|apply awp_exit|apply awp_ret)
 |((first|with_reducible apply gd_split|((with_reducible refine cond_go ?_);refine awp_cond_split rfl ?_ ?_))<;>intro h<;>(try simp only [upd, ↓reduceIte,Nat.reduceEqDiff,B2] at h)<;>(try simp only [*,reduceCtorEq,decide_true,decide_false] at h)<;>(try (have hari:=h;simp only [B3] at hari))<;>(try (first|contradiction|(exfalso;omega)|(exfalso;simp at h;done)))<;>(try simp only [B5]))
 |((with_reducible refine aapp_go ?_);refine aApp_own (by first|exact tez_52) (by assumption) (by assumption) (by decide) (by rfl) (by first|assumption|(simp;done)|(simp;omega)|omega) (by rfl) (by rfl) (by decide) (by omega) (by omega) ?_;intro idn σn hOn hKn eobj enobj ever entop)
 |((with_reducible refine aappn_go ?_);refine aApp_nil (by first|exact tez_52) (by rfl) (by decide) (by rfl) (by rfl) (by decide) (by omega) (by omega) ?_)
 |(simp (maxSteps:=3000000) (disch:=(first|omega|(simp only [B1, *];omega))) only [↓mapA_nil, ↓mapA_cons,B0,B4,awant,undef,aq,al,cst,cst1,acells,flat,behind,abin,aconv,aint,thenQ,blkQ,retQ,Value.cells,Value.oneCell',Int.reduceToNat, ↓reduceIte,Nat.reduceLT,Nat.reduceEqDiff,reduceCtorEq,Nat.reduceAdd,Nat.reduceMul,Nat.reduceLeDiff,u_3,u_36,u_73,telem_36,telem_73,tez_52,tfld_38_1,tfld_45_0,tfld_45_1,tsz_3,tsz_36,tsz_38,tsz_4,tsz_45,tzero_38,tzero_45, *])
 |(refine hκ.out _ _ ?_;clear hκ κ))
        refine ⟨a.terms.length - (k + 1), by omega, k + 1, i3, l, rfl, by omega, rfl, by simp, (hK.new _).put hK.nobj _, Own.put (Own.new hO _) _ _, by omega, hVL, ?_⟩
        rw [Abs.Hid, hstep.out, ordF, if_neg (fun h => by rw [hv] at h; cases h.1)]
    · have hkl : k = a.terms.length := by omega
      subst hkl
      rw [List.take_length] at hL
      repeat' (first
 |with_reducible (first|apply awp_seq|apply awp_block|(refine awp_region_k ?_;intro κ hκ)|(refine hκ.out _ _ ?_;clear hκ κ)|apply awp_skip|apply awp_exit|apply awp_ret)
 |((first|with_reducible apply gd_split|((with_reducible refine cond_go ?_);refine awp_cond_split rfl ?_ ?_))<;>intro h<;>(try simp only [upd, ↓reduceIte,Nat.reduceEqDiff,B2] at h)<;>(try simp only [*,reduceCtorEq,decide_true,decide_false] at h)<;>(try (have hari:=h;simp only [B3] at hari))<;>(try (first|contradiction|(exfalso;omega)|(exfalso;simp at h;done)))<;>(try simp only [B5]))
 |((with_reducible refine aapp_go ?_);refine aApp_own (by first|exact tez_52) (by assumption) (by assumption) (by decide) (by rfl) (by first|assumption|(simp;done)|(simp;omega)|omega) (by rfl) (by rfl) (by decide) (by omega) (by omega) ?_;intro idn σn hOn hKn eobj enobj ever entop)
 |((with_reducible refine aappn_go ?_);refine aApp_nil (by first|exact tez_52) (by rfl) (by decide) (by rfl) (by rfl) (by decide) (by omega) (by omega) ?_)
 |(simp (maxSteps:=3000000) (disch:=(first|omega|(simp only [B1, *];omega))) only [↓mapA_nil, ↓mapA_cons,B0,B4,awant,undef,aq,al,cst,cst1,acells,flat,behind,abin,aconv,aint,thenQ,blkQ,retQ,Value.cells,Value.oneCell',Int.reduceToNat, ↓reduceIte,Nat.reduceLT,Nat.reduceEqDiff,reduceCtorEq,Nat.reduceAdd,Nat.reduceMul,Nat.reduceLeDiff,u_3,u_36,u_73,telem_36,telem_73,tez_52,tfld_38_1,tfld_45_0,tfld_45_1,tsz_3,tsz_36,tsz_38,tsz_4,tsz_45,tzero_38,tzero_45, *])
 |(refine hκ.out _ _ ?_;clear hκ κ))
      exact ⟨ls.length - (j + 1), by omega, j + 1, i3, l, rfl, by omega, rfl, by simp, hO, by omega, hVL, by rw [Abs.Hid, List.take_add_one, HG.out]; simpa using hL.out⟩
  · have hjl : j = ls.length := by omega
    subst hjl
    rw [List.take_length] at hL
    repeat' (first
 |with_reducible (first|apply awp_seq|apply awp_block|(refine awp_region_k ?_;intro κ hκ)|(refine hκ.out _ _ ?_;clear hκ κ)|apply awp_skip|apply awp_exit|apply awp_ret)
 |((first|with_reducible apply gd_split|((with_reducible refine cond_go ?_);refine awp_cond_split rfl ?_ ?_))<;>intro h<;>(try simp only [upd, ↓reduceIte,Nat.reduceEqDiff,B2] at h)<;>(try simp only [*,reduceCtorEq,decide_true,decide_false] at h)<;>(try (have hari:=h;simp only [B3] at hari))<;>(try (first|contradiction|(exfalso;omega)|(exfalso;simp at h;done)))<;>(try simp only [B5]))
 |((with_reducible refine aapp_go ?_);refine aApp_own (by first|exact tez_52) (by assumption) (by assumption) (by decide) (by rfl) (by first|assumption|(simp;done)|(simp;omega)|omega) (by rfl) (by rfl) (by decide) (by omega) (by omega) ?_;intro idn σn hOn hKn eobj enobj ever entop)
 |((with_reducible refine aappn_go ?_);refine aApp_nil (by first|exact tez_52) (by rfl) (by decide) (by rfl) (by rfl) (by decide) (by omega) (by omega) ?_)
 |(simp (maxSteps:=3000000) (disch:=(first|omega|(simp only [B1, *];omega))) only [↓mapA_nil, ↓mapA_cons,B0,B4,awant,undef,aq,al,cst,cst1,acells,flat,behind,abin,aconv,aint,thenQ,blkQ,retQ,Value.cells,Value.oneCell',Int.reduceToNat, ↓reduceIte,Nat.reduceLT,Nat.reduceEqDiff,reduceCtorEq,Nat.reduceAdd,Nat.reduceMul,Nat.reduceLeDiff,u_3,u_36,u_73,telem_36,telem_73,tez_52,tfld_38_1,tfld_45_0,tfld_45_1,tsz_3,tsz_36,tsz_38,tsz_4,tsz_45,tzero_38,tzero_45, *])
 |(refine hκ.out _ _ ?_;clear hκ κ))
    rw [← hL.out]
    first | exact ⟨_, rfl, i3, rfl, hVL.out, hK⟩ | exact ⟨_, rfl, i3, rfl, hVL.out⟩
/- The program: an atom with other variables. -/

def rcell (l : List Tx) (t : Tx) : List AV := [sc (.bool (variableB t)), sc (.int .i64 (if variableB t = true then whichL l t else (encT t).2))]
def rcells (l : List Tx) (ts : List Tx) : List AV := ts.flatMap (rcell l)
theorem rcells_len (l ts : List Tx) : (rcells l ts).length = ts.length * 2 := by
  induction ts with
  | nil => rfl
  | cons a ts ih => unfold rcells at *; rw [List.flatMap_cons, List.length_append, ih]; simp [rcell]; omega
theorem rcells_snoc (l ts : List Tx) (x : Tx) : rcells l (ts ++ [x]) = rcells l ts ++ rcell l x := by simp [rcells]

set_option maxHeartbeats 16000000 in
theorem renamed_spec (l : List Tx) (ido : Nat) (kp : Int) (ids : Nat) (a : RAtom) (hl : l.length ≤ 10000000) (hL : VL l) (hV : VA a) (hn : a.terms.length ≤ 1000) (σ : St) :
    ACalls Tryd.prog 23 [ag [sc (.int .i64 kp), sl ids a.terms.length (tcells a.terms)], sl ido l.length (l.map encI)] σ fun r σ' => ∃ id, r = ag [sc (.int .i64 kp), sl id a.terms.length (rcells l a.terms)] ∧ Keep σ σ' := by
  have htl := tcells_len a.terms
  have HVA : Abs.Hid (VA a) := hV
  clear hV
  refine acalls 33 [.cell 4 38] Tryd.func23 rfl (by decide) rfl rfl (Nat.le_of_ble_eq_true rfl) ?_
  repeat' (first
 |with_reducible (first|apply awp_seq|apply awp_block|(refine awp_region_k ?_;intro κ hκ)|(refine hκ.out _ _ ?_;clear hκ κ)|apply awp_skip|apply awp_exit|apply awp_ret)
 |((first|with_reducible apply gd_split|((with_reducible refine cond_go ?_);refine awp_cond_split rfl ?_ ?_))<;>intro h<;>(try simp only [upd, ↓reduceIte,Nat.reduceEqDiff,B2] at h)<;>(try simp only [*,reduceCtorEq,decide_true,decide_false] at h)<;>(try (have hari:=h;simp only [B3] at hari))<;>(try (first|contradiction|(exfalso;omega)|(exfalso;simp at h;done)))<;>(try simp only [B5]))
 |((with_reducible refine aapp_go ?_);refine aApp_own (by first|exact tez_36) (by assumption) (by assumption) (by decide) (by rfl) (by first|assumption|(simp;done)|(simp;omega)|omega) (by rfl) (by rfl) (by decide) (by omega) (by omega) ?_;intro idn σn hOn hKn eobj enobj ever entop)
 |((with_reducible refine aappn_go ?_);refine aApp_nil (by first|exact tez_36) (by rfl) (by decide) (by rfl) (by rfl) (by decide) (by omega) (by omega) ?_)
 |(simp (maxSteps:=3000000) (disch:=(first|omega|(simp only [B1, *];omega))) only [↓mapA_nil, ↓mapA_cons,B0,B4,awant,undef,aq,al,cst,cst1,acells,flat,behind,abin,aconv,aint,thenQ,blkQ,retQ,Value.cells,Value.oneCell',Int.reduceToNat, ↓reduceIte,Nat.reduceLT,Nat.reduceEqDiff,reduceCtorEq,Nat.reduceAdd,Nat.reduceMul,Nat.reduceLeDiff,u_3,u_36,telem_36,tez_36,tfld_38_0,tfld_38_1,tfld_45_0,tfld_45_1,tstr_38,tsz_3,tsz_36,tsz_38,tsz_4,tsz_45,tzero_38,tzero_45, *])
 |(refine hκ.out _ _ ?_;clear hκ κ))
  refine awp_loop (fun m s σ' => ∃ (k i3 : Nat) (xs : List AV), m = a.terms.length - k ∧ k ≤ a.terms.length ∧ s 1 = sl ido l.length (l.map encI) ∧ s 4 = ptr (σ.nobj + 1) 0 ∧ s 5 = ptr (σ.nobj + 2) 0 ∧ s 12 = sl ids a.terms.length (tcells a.terms) ∧ s 13 = sc (.int .i64 a.terms.length) ∧ s 14 = sc (.int .i64 k) ∧ Keep σ σ' ∧ σ.nobj + 2 < σ'.nobj ∧ σ'.obj (σ.nobj + 1) = [sc (.int .i64 0), nilS] ∧ σ'.obj (σ.nobj + 2) = [sc (.int .i64 kp), sl i3 k xs] ∧ Own σ σ' i3 k ∧ xs.length = k * 2 ∧ Abs.Hid (xs = rcells l (a.terms.take k))) a.terms.length
    ⟨0, 1, [], by omega, by omega, by simp [upd, initS], by simp [upd], by simp [upd], by simp [upd], by simp [upd], rfl, ?_, ?_, ?_, ?_, Own.nil _ _, by simp, by simp [Abs.Hid, rcells]⟩ ?_
  · exact ((((Keep.refl σ).new _).new _).new _).put (by omega) _
  · simp only [put_nobj, new_nobj]; omega
  · rw [put_ne (by omega), new_lt (by simp only [new_nobj]; omega), new_at (by rw [new_nobj]; omega) (by rw [new_nobj]; omega)]
  · rw [show σ.nobj + 2 = σ.nobj + 1 + 1 by omega, put_same]
  rintro m s σ' ⟨k, i3, xs, rfl, hk, h1, h4, h5, h12, h13, h14, hK, hno, hob1, hob2, hO, hxl, hX⟩
  have kno := hK.nobj
  by_cases hlt : k < a.terms.length
  · have hget := List.getElem?_eq_getElem hlt
    have hvw := HVA.out a.terms[k] (List.getElem_mem hlt)
    obtain ⟨r2, hd2⟩ := tcells_get hget
    generalize a.terms[k] = w at hd2 hget hvw
    have hstep : Abs.Hid (rcells l (a.terms.take (k + 1)) = xs ++ rcell l w) := by
      rw [Abs.Hid, List.take_add_one, hget, Option.toList_some, rcells_snoc, ← hX.out]
    clear hget
    have h1w := enc_var hvw
    cases hv : variableB w with
    | true =>
      rw [hv] at h1w
      rw [h1w] at hd2
      have hP := fun σ => placeOf_spec l ido w hl hL hvw hv σ
      have hrc : Abs.Hid (rcell l w = [sc (.bool true), sc (.int .i64 (whichL l w))]) := by simp [Abs.Hid, rcell, hv]
      generalize (encT w).2 = w2 at hd2 hP
      repeat' (first
 |with_reducible (first|apply awp_seq|apply awp_block|(refine awp_region_k ?_;intro κ hκ)|(refine hκ.out _ _ ?_;clear hκ κ)|apply awp_skip|apply awp_exit|apply awp_ret)
 |((first|with_reducible apply gd_split|((with_reducible refine cond_go ?_);refine awp_cond_split rfl ?_ ?_))<;>intro h<;>(try simp only [upd, ↓reduceIte,Nat.reduceEqDiff,B2] at h)<;>(try simp only [*,reduceCtorEq,decide_true,decide_false] at h)<;>(try (have hari:=h;simp only [B3] at hari))<;>(try (first|contradiction|(exfalso;omega)|(exfalso;simp at h;done)))<;>(try simp only [B5]))
 |((with_reducible refine aapp_go ?_);refine aApp_own (by first|exact tez_36) (by assumption) (by assumption) (by decide) (by rfl) (by first|assumption|(simp;done)|(simp;omega)|omega) (by rfl) (by rfl) (by decide) (by omega) (by omega) ?_;intro idn σn hOn hKn eobj enobj ever entop)
 |((with_reducible refine aappn_go ?_);refine aApp_nil (by first|exact tez_36) (by rfl) (by decide) (by rfl) (by rfl) (by decide) (by omega) (by omega) ?_)
 |((with_reducible refine acalls_go ?_);refine ACalls.mono (hP _) ?_;rintro _ _ ⟨rfl,rfl⟩)
 |(simp (maxSteps:=3000000) (disch:=(first|omega|(simp only [B1, *];omega))) only [↓mapA_nil, ↓mapA_cons,B0,B4,awant,undef,aq,al,cst,cst1,acells,flat,behind,abin,aconv,aint,thenQ,blkQ,retQ,Value.cells,Value.oneCell',Int.reduceToNat, ↓reduceIte,Nat.reduceLT,Nat.reduceEqDiff,reduceCtorEq,Nat.reduceAdd,Nat.reduceMul,Nat.reduceLeDiff,u_3,u_36,telem_36,tez_36,tfld_38_0,tfld_38_1,tfld_45_0,tfld_45_1,tstr_38,tsz_3,tsz_36,tsz_38,tsz_4,tsz_45,tzero_38,tzero_45, *])
 |(refine hκ.out _ _ ?_;clear hκ κ))
      have hKx : Keep σ (((σ'.new [sc (.bool false), sc (.int .i64 0)]).put σ'.nobj [sc (.bool true), sc (.int .i64 w2)]).put σ'.nobj [sc (.bool true), sc (.int .i64 (whichL l w))]) := ((hK.new _).put hK.nobj _).put hK.nobj _
      refine aApp_own (by first | exact tez_36) hKx (Own.put (Own.put (Own.new hO _) _ _) _ _) (by decide) (by rfl) hxl (by rfl) (by rfl) (by decide) (by omega) (by omega) ?_
      intro idn σn hOn hKn eobj enobj ever entop
      simp only [put_nobj, new_nobj] at enobj
      simp (maxSteps:=3000000) (disch:=(first|omega|(simp only [B1, *];omega))) only [↓mapA_nil, ↓mapA_cons,B0,B4,awant,undef,aq,al,cst,cst1,acells,flat,behind,abin,aconv,aint,thenQ,blkQ,retQ,Value.cells,Value.oneCell',Int.reduceToNat, ↓reduceIte,Nat.reduceLT,Nat.reduceEqDiff,reduceCtorEq,Nat.reduceAdd,Nat.reduceMul,Nat.reduceLeDiff,u_3,u_36,telem_36,tez_36,tfld_38_0,tfld_38_1,tfld_45_0,tfld_45_1,tstr_38,tsz_3,tsz_36,tsz_38,tsz_4,tsz_45,tzero_38,tzero_45, *]
      repeat' (first
 |with_reducible (first|apply awp_seq|apply awp_block|(refine awp_region_k ?_;intro κ hκ)|(refine hκ.out _ _ ?_;clear hκ κ)|apply awp_skip|apply awp_exit|apply awp_ret)
 |((first|with_reducible apply gd_split|((with_reducible refine cond_go ?_);refine awp_cond_split rfl ?_ ?_))<;>intro h<;>(try simp only [upd, ↓reduceIte,Nat.reduceEqDiff,B2] at h)<;>(try simp only [*,reduceCtorEq,decide_true,decide_false] at h)<;>(try (have hari:=h;simp only [B3] at hari))<;>(try (first|contradiction|(exfalso;omega)|(exfalso;simp at h;done)))<;>(try simp only [B5]))
 |((with_reducible refine aapp_go ?_);refine aApp_own (by first|exact tez_36) (by assumption) (by assumption) (by decide) (by rfl) (by first|assumption|(simp;done)|(simp;omega)|omega) (by rfl) (by rfl) (by decide) (by omega) (by omega) ?_;intro idn σn hOn hKn eobj enobj ever entop)
 |((with_reducible refine aappn_go ?_);refine aApp_nil (by first|exact tez_36) (by rfl) (by decide) (by rfl) (by rfl) (by decide) (by omega) (by omega) ?_)
 |(simp (maxSteps:=3000000) (disch:=(first|omega|(simp only [B1, *];omega))) only [↓mapA_nil, ↓mapA_cons,B0,B4,awant,undef,aq,al,cst,cst1,acells,flat,behind,abin,aconv,aint,thenQ,blkQ,retQ,Value.cells,Value.oneCell',Int.reduceToNat, ↓reduceIte,Nat.reduceLT,Nat.reduceEqDiff,reduceCtorEq,Nat.reduceAdd,Nat.reduceMul,Nat.reduceLeDiff,u_3,u_36,telem_36,tez_36,tfld_38_0,tfld_38_1,tfld_45_0,tfld_45_1,tstr_38,tsz_3,tsz_36,tsz_38,tsz_4,tsz_45,tzero_38,tzero_45, *])
 |(refine hκ.out _ _ ?_;clear hκ κ))
      refine ⟨a.terms.length - (k + 1), by omega, k + 1, idn, _, rfl, by omega, by simp, hKn.put (by omega) _, by omega, rfl, Own.put hOn _ _, by simp; omega, ?_⟩
      rw [Abs.Hid, hstep.out, hrc.out]
    | false =>
      rw [hv] at h1w
      rw [h1w] at hd2
      have hrc : Abs.Hid (rcell l w = [sc (.bool false), sc (.int .i64 (encT w).2)]) := by simp [Abs.Hid, rcell, hv]
      generalize (encT w).2 = w2 at hd2 hrc
      repeat' (first
 |with_reducible (first|apply awp_seq|apply awp_block|(refine awp_region_k ?_;intro κ hκ)|(refine hκ.out _ _ ?_;clear hκ κ)|apply awp_skip|apply awp_exit|apply awp_ret)
 |((first|with_reducible apply gd_split|((with_reducible refine cond_go ?_);refine awp_cond_split rfl ?_ ?_))<;>intro h<;>(try simp only [upd, ↓reduceIte,Nat.reduceEqDiff,B2] at h)<;>(try simp only [*,reduceCtorEq,decide_true,decide_false] at h)<;>(try (have hari:=h;simp only [B3] at hari))<;>(try (first|contradiction|(exfalso;omega)|(exfalso;simp at h;done)))<;>(try simp only [B5]))
 |((with_reducible refine aapp_go ?_);refine aApp_own (by first|exact tez_36) (by assumption) (by assumption) (by decide) (by rfl) (by first|assumption|(simp;done)|(simp;omega)|omega) (by rfl) (by rfl) (by decide) (by omega) (by omega) ?_;intro idn σn hOn hKn eobj enobj ever entop)
 |((with_reducible refine aappn_go ?_);refine aApp_nil (by first|exact tez_36) (by rfl) (by decide) (by rfl) (by rfl) (by decide) (by omega) (by omega) ?_)
 |(simp (maxSteps:=3000000) (disch:=(first|omega|(simp only [B1, *];omega))) only [↓mapA_nil, ↓mapA_cons,B0,B4,awant,undef,aq,al,cst,cst1,acells,flat,behind,abin,aconv,aint,thenQ,blkQ,retQ,Value.cells,Value.oneCell',Int.reduceToNat, ↓reduceIte,Nat.reduceLT,Nat.reduceEqDiff,reduceCtorEq,Nat.reduceAdd,Nat.reduceMul,Nat.reduceLeDiff,u_3,u_36,telem_36,tez_36,tfld_38_0,tfld_38_1,tfld_45_0,tfld_45_1,tstr_38,tsz_3,tsz_36,tsz_38,tsz_4,tsz_45,tzero_38,tzero_45, *])
 |(refine hκ.out _ _ ?_;clear hκ κ))
      have hKx : Keep σ ((σ'.new [sc (.bool false), sc (.int .i64 0)]).put σ'.nobj [sc (.bool false), sc (.int .i64 w2)]) := (hK.new _).put hK.nobj _
      refine aApp_own (by first | exact tez_36) hKx (Own.put (Own.new hO _) _ _) (by decide) (by rfl) hxl (by rfl) (by rfl) (by decide) (by omega) (by omega) ?_
      intro idn σn hOn hKn eobj enobj ever entop
      simp only [put_nobj, new_nobj] at enobj
      simp (maxSteps:=3000000) (disch:=(first|omega|(simp only [B1, *];omega))) only [↓mapA_nil, ↓mapA_cons,B0,B4,awant,undef,aq,al,cst,cst1,acells,flat,behind,abin,aconv,aint,thenQ,blkQ,retQ,Value.cells,Value.oneCell',Int.reduceToNat, ↓reduceIte,Nat.reduceLT,Nat.reduceEqDiff,reduceCtorEq,Nat.reduceAdd,Nat.reduceMul,Nat.reduceLeDiff,u_3,u_36,telem_36,tez_36,tfld_38_0,tfld_38_1,tfld_45_0,tfld_45_1,tstr_38,tsz_3,tsz_36,tsz_38,tsz_4,tsz_45,tzero_38,tzero_45, *]
      repeat' (first
 |with_reducible (first|apply awp_seq|apply awp_block|(refine awp_region_k ?_;intro κ hκ)|(refine hκ.out _ _ ?_;clear hκ κ)|apply awp_skip|apply awp_exit|apply awp_ret)
 |((first|with_reducible apply gd_split|((with_reducible refine cond_go ?_);refine awp_cond_split rfl ?_ ?_))<;>intro h<;>(try simp only [upd, ↓reduceIte,Nat.reduceEqDiff,B2] at h)<;>(try simp only [*,reduceCtorEq,decide_true,decide_false] at h)<;>(try (have hari:=h;simp only [B3] at hari))<;>(try (first|contradiction|(exfalso;omega)|(exfalso;simp at h;done)))<;>(try simp only [B5]))
 |((with_reducible refine aapp_go ?_);refine aApp_own (by first|exact tez_36) (by assumption) (by assumption) (by decide) (by rfl) (by first|assumption|(simp;done)|(simp;omega)|omega) (by rfl) (by rfl) (by decide) (by omega) (by omega) ?_;intro idn σn hOn hKn eobj enobj ever entop)
 |((with_reducible refine aappn_go ?_);refine aApp_nil (by first|exact tez_36) (by rfl) (by decide) (by rfl) (by rfl) (by decide) (by omega) (by omega) ?_)
 |(simp (maxSteps:=3000000) (disch:=(first|omega|(simp only [B1, *];omega))) only [↓mapA_nil, ↓mapA_cons,B0,B4,awant,undef,aq,al,cst,cst1,acells,flat,behind,abin,aconv,aint,thenQ,blkQ,retQ,Value.cells,Value.oneCell',Int.reduceToNat, ↓reduceIte,Nat.reduceLT,Nat.reduceEqDiff,reduceCtorEq,Nat.reduceAdd,Nat.reduceMul,Nat.reduceLeDiff,u_3,u_36,telem_36,tez_36,tfld_38_0,tfld_38_1,tfld_45_0,tfld_45_1,tstr_38,tsz_3,tsz_36,tsz_38,tsz_4,tsz_45,tzero_38,tzero_45, *])
 |(refine hκ.out _ _ ?_;clear hκ κ))
      refine ⟨a.terms.length - (k + 1), by omega, k + 1, idn, _, rfl, by omega, by simp, hKn.put (by omega) _, by omega, rfl, Own.put hOn _ _, by simp; omega, ?_⟩
      rw [Abs.Hid, hstep.out, hrc.out]
  · have hkl : k = a.terms.length := by omega
    subst hkl
    rw [List.take_length] at hX
    repeat' (first
 |with_reducible (first|apply awp_seq|apply awp_block|(refine awp_region_k ?_;intro κ hκ)|(refine hκ.out _ _ ?_;clear hκ κ)|apply awp_skip|apply awp_exit|apply awp_ret)
 |((first|with_reducible apply gd_split|((with_reducible refine cond_go ?_);refine awp_cond_split rfl ?_ ?_))<;>intro h<;>(try simp only [upd, ↓reduceIte,Nat.reduceEqDiff,B2] at h)<;>(try simp only [*,reduceCtorEq,decide_true,decide_false] at h)<;>(try (have hari:=h;simp only [B3] at hari))<;>(try (first|contradiction|(exfalso;omega)|(exfalso;simp at h;done)))<;>(try simp only [B5]))
 |((with_reducible refine aapp_go ?_);refine aApp_own (by first|exact tez_36) (by assumption) (by assumption) (by decide) (by rfl) (by first|assumption|(simp;done)|(simp;omega)|omega) (by rfl) (by rfl) (by decide) (by omega) (by omega) ?_;intro idn σn hOn hKn eobj enobj ever entop)
 |((with_reducible refine aappn_go ?_);refine aApp_nil (by first|exact tez_36) (by rfl) (by decide) (by rfl) (by rfl) (by decide) (by omega) (by omega) ?_)
 |(simp (maxSteps:=3000000) (disch:=(first|omega|(simp only [B1, *];omega))) only [↓mapA_nil, ↓mapA_cons,B0,B4,awant,undef,aq,al,cst,cst1,acells,flat,behind,abin,aconv,aint,thenQ,blkQ,retQ,Value.cells,Value.oneCell',Int.reduceToNat, ↓reduceIte,Nat.reduceLT,Nat.reduceEqDiff,reduceCtorEq,Nat.reduceAdd,Nat.reduceMul,Nat.reduceLeDiff,u_3,u_36,telem_36,tez_36,tfld_38_0,tfld_38_1,tfld_45_0,tfld_45_1,tstr_38,tsz_3,tsz_36,tsz_38,tsz_4,tsz_45,tzero_38,tzero_45, *])
 |(refine hκ.out _ _ ?_;clear hκ κ))
    exact ⟨_, rfl, i3, by rw [hX.out], hK.put (by omega) _⟩

set_option maxHeartbeats 4000000 in
theorem pvariables_spec (N : List Tx) (x : RItem) (c : List AV) (hc : PI N x c) (ho : x.out = true → x.body = []) (hx : x.fits) (hV : ∀ a ∈ atomsL x, VA a) (σ : St) : ACalls Tryd.prog 14 [ag c] σ fun r σ' => ∃ id, r = sl id (ordL x).length ((ordL x).map encI) ∧ VL (ordL x) ∧ Keep σ σ' := by
  have hA := patoms_spec N x c hc ho (by have := hx.1; omega)
  have hat : ∀ a ∈ atomsL x, a.terms.length ≤ 1000 := by
    intro a ha
    unfold atomsL at ha
    rcases List.mem_append.1 ha with h | h
    · split at h
      · cases h
      · simp at h; subst h; exact hx.2.1
    · exact hx.2.2 a h
  have hal := hx.atoms
  have hVO := fun cs ida hE σ => variablesOf_spec N (atomsL x) cs ida hE hV hal hat σ
  obtain ⟨hm, ih, id, b, hb, rfl⟩ := hc
  unfold ordL
  generalize ordT [] ((atomsL x).flatMap (·.terms)) = lo at hVO
  refine acalls 6 [.tmp 2] Tryd.func14 rfl (by decide) rfl rfl (Nat.le_of_ble_eq_true rfl) ?_
  repeat' (first
 |with_reducible (first|apply awp_seq|apply awp_block|(refine awp_region_k ?_;intro κ hκ)|(refine hκ.out _ _ ?_;clear hκ κ)|apply awp_skip|apply awp_exit|apply awp_ret)
 |((first|with_reducible apply gd_split|((with_reducible refine cond_go ?_);refine awp_cond_split rfl ?_ ?_))<;>intro h<;>(try simp only [upd, ↓reduceIte,Nat.reduceEqDiff,B2] at h)<;>(try simp only [*,reduceCtorEq,decide_true,decide_false] at h)<;>(try (have hari:=h;simp only [B3] at hari))<;>(try (first|contradiction|(exfalso;omega)|(exfalso;simp at h;done)))<;>(try simp only [B5]))
 |((with_reducible refine acalls_go ?_);refine ACalls.mono (hA _) ?_;rintro _ _ ⟨ida,cs,rfl,hE,hK1⟩)
 |((with_reducible refine acalls_go ?_);refine ACalls.mono (hVO _ _ (by assumption) _) ?_;rintro _ _ ⟨id2,rfl,hVL,hK2⟩)
 |(simp (maxSteps:=3000000) (disch:=(first|omega|(simp only [B1, *];omega))) only [↓mapA_nil, ↓mapA_cons,B0,B4,awant,undef,aq,al,cst,cst1,acells,flat,behind,abin,aconv,aint,thenQ,blkQ,retQ,Value.cells,Value.oneCell',Int.reduceToNat, ↓reduceIte,Nat.reduceLT,Nat.reduceEqDiff,reduceCtorEq,Nat.reduceAdd,Nat.reduceMul,Nat.reduceLeDiff,tsz_41, *])
 |(refine hκ.out _ _ ?_;clear hκ κ))
  exact ⟨_, rfl, id2, rfl, by repeat (first | exact Keep.refl _ | assumption | (refine Keep.put ?_ (by first | omega | (simp only [new_nobj, put_nobj, lay_nobj, *]; omega)) _) | (refine Keep.new ?_ _) | (refine Keep.lay ?_ _) | (refine Keep.trans ?_ (by assumption)))⟩
end Go.Proofs.YtmoeoppbmhfbpaaDoorX
