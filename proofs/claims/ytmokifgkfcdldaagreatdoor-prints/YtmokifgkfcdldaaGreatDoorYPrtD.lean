import Derived.Test.YtmokifgkfcdldaaGreatDoorYPrtB
/- The program: variables in their order. -/
namespace Go.Proofs.YtmokifgkfcdldaaGreatDoorY
open Go.Abs
set_option linter.unusedSimpArgs false
set_option linter.unusedVariables false
set_option maxRecDepth 100000

def encI (t : Tx) : AV := sc (.int .i64 (encT t).2)
theorem map_enc_get {l : List Tx} {k : Nat} (h : k < l.length) : (l.map encI).drop k = sc (.int .i64 (encT l[k]).2) :: (l.map encI).drop (k + 1) := by
  rw [List.drop_eq_getElem_cons (by simpa using h)]; simp [encI]
/-- the variables of a list, told apart by their values -/
def VL (l : List Tx) : Prop := ∀ t ∈ l, VT t ∧ variableB t = true
theorem enc_inj {t u : Tx} (ht : VT t) (hu : VT u) (vt : variableB t = true) (vu : variableB u = true) (h : (encT t).2 = (encT u).2) : t = u := by
  have := hit_eq ht hu vu
  unfold hitT at this
  rw [enc_var ht, vt, h] at this
  simpa using this.symm
set_option maxHeartbeats 4000000 in
theorem placeOf_spec (l : List Tx) (ids : Nat) (t : Tx) (hl : l.length ≤ 10000000) (hL : VL l) (ht : VT t) (hv : variableB t = true) (σ : St) : ACalls Tryz.prog 54 [sc (.int .i64 (encT t).2), sl ids l.length (l.map encI)] σ fun x σ' => x = sc (.int .i64 (whichL l t)) ∧ σ' = σ := by
  have hinj : ∀ u ∈ l, (encT u).2 = (encT t).2 → u = t := fun u hu h => enc_inj (hL u hu).1 ht (hL u hu).2 hv h
  generalize hte : (encT t).2 = v at hinj
  have HTE : Abs.Hid _ := hte
  clear hte
  refine acalls 19 [.tmp 4] Tryz.func54 rfl (by decide) rfl rfl (Nat.le_of_ble_eq_true rfl) ?_
  repeat' (first
    | with_reducible apply awp_seq
    | with_reducible apply awp_block
    | ((with_reducible refine awp_region_k ?_); intro kont hkont)
    | ((with_reducible refine hkont.out _ _ ?_); clear hkont kont)
    | ((first | ((with_reducible refine gd_go ?_); refine gd_split (fun h => ?_) (fun h => ?_)) | ((with_reducible refine gt_go ?_); refine gt_split (fun h => ?_) (fun h => ?_)) | ((with_reducible refine cond_go ?_); refine awp_cond_split rfl (fun h => ?_) (fun h => ?_))) <;> (try simp only [upd, ↓reduceIte, Nat.reduceEqDiff] at h) <;> (try simp only [B2] at h) <;> (try simp only [*, reduceCtorEq, decide_true, decide_false] at h) <;> (try (have hari := h; simp only [B3] at hari)) <;> (try (first | contradiction | (exfalso; omega) | (exfalso; simp at h; done))) <;> (try simp only [gd_true, gd_false, gt_true, gt_false]))
    | with_reducible apply awp_skip
    | with_reducible apply awp_exit
    | with_reducible apply awp_ret
    | (simp (maxSteps := 3000000) (disch := (first | omega | (simp only [B1, *]; omega))) only [↓mapA_nil, ↓mapA_cons, B0, gd_true, gd_false, gt_true, gt_false, aRun, Int.reduceToNat, Value.oneCell', awant, aStep, aq, al, aev, aput, upd, dstOk, cst, cst1, acells, flat, behind, aload, apart1, abin, aconv, aint, bnd, lsp, afill, thenQ, blkQ, retQ, ares, aresL, ares1, initS, nxt, aT, aTk, aU, aOne, kep, rdo, objOf, ↓reduceIte, Nat.reduceLT, Nat.reduceEqDiff, reduceCtorEq, Nat.reduceAdd, Nat.reduceMul, Nat.reduceLeDiff, Value.cells, Tryz.underlying25, Tryz.underlying3, tarr_25, telem_25, tsz_3, *])
    | ((with_reducible refine and_go ?_); refine And.intro (by first | exact kept_refl | exact kept_last rfl | exact kept_keep (by assumption)) ?_)
    | (refine hkont.out _ _ ?_; clear hkont kont))
  refine awp_loop (fun m s' σ' => ∃ i : Nat, m = l.length - i ∧ i ≤ l.length ∧ s' 0 = sc (.int .i64 v) ∧ s' 7 = sl ids l.length (l.map encI) ∧ s' 8 = sc (.int .i64 l.length) ∧ s' 9 = sc (.int .i64 i) ∧ σ' = σ ∧ Abs.Hid (∀ a, a < i → l[a]? ≠ some t)) l.length
    ⟨0, by omega, by omega, rfl, rfl, rfl, rfl, rfl, fun a ha => by omega⟩ ?_
  rintro m s' σ' ⟨i, rfl, hi, h0, h7, h8, h9, hσ, hno⟩
  subst hσ
  by_cases hlt : i < l.length
  · have hts := map_enc_get hlt
    have HX : Abs.Hid (l[i]? = some l[i]) := List.getElem?_eq_getElem hlt
    have hiw := hinj l[i] (List.getElem_mem hlt)
    generalize l[i] = w at hts HX hiw
    generalize hwe : (encT w).2 = vw at hts hiw
    have HWE : Abs.Hid _ := hwe
    have HIW : Abs.Hid _ := hiw
    clear hwe hiw hinj
    repeat' (first
    | with_reducible apply awp_seq
    | with_reducible apply awp_block
    | ((with_reducible refine awp_region_k ?_); intro kont hkont)
    | ((with_reducible refine hkont.out _ _ ?_); clear hkont kont)
    | ((first | ((with_reducible refine gd_go ?_); refine gd_split (fun h => ?_) (fun h => ?_)) | ((with_reducible refine gt_go ?_); refine gt_split (fun h => ?_) (fun h => ?_)) | ((with_reducible refine cond_go ?_); refine awp_cond_split rfl (fun h => ?_) (fun h => ?_))) <;> (try simp only [upd, ↓reduceIte, Nat.reduceEqDiff] at h) <;> (try simp only [B2] at h) <;> (try simp only [*, reduceCtorEq, decide_true, decide_false] at h) <;> (try (have hari := h; simp only [B3] at hari)) <;> (try (first | contradiction | (exfalso; omega) | (exfalso; simp at h; done))) <;> (try simp only [gd_true, gd_false, gt_true, gt_false]))
    | with_reducible apply awp_skip
    | with_reducible apply awp_exit
    | with_reducible apply awp_ret
    | (simp (maxSteps := 3000000) (disch := (first | omega | (simp only [B1, *]; omega))) only [↓mapA_nil, ↓mapA_cons, B0, gd_true, gd_false, gt_true, gt_false, aRun, Int.reduceToNat, Value.oneCell', awant, aStep, aq, al, aev, aput, upd, dstOk, cst, cst1, acells, flat, behind, aload, apart1, abin, aconv, aint, bnd, lsp, afill, thenQ, blkQ, retQ, ares, aresL, ares1, initS, nxt, aT, aTk, aU, aOne, kep, rdo, objOf, ↓reduceIte, Nat.reduceLT, Nat.reduceEqDiff, reduceCtorEq, Nat.reduceAdd, Nat.reduceMul, Nat.reduceLeDiff, Value.cells, Tryz.underlying25, Tryz.underlying3, tarr_25, telem_25, tsz_3, *])
    | ((with_reducible refine and_go ?_); refine And.intro (by first | exact kept_refl | exact kept_last rfl | exact kept_keep (by assumption)) ?_)
    | (refine hkont.out _ _ ?_; clear hkont kont))
    · have hw : w = t := HIW.out (by simpa using h)
      have hmem : t ∈ l := by rw [← hw]; exact List.mem_of_getElem? HX.out
      exact ⟨_, rfl, by rw [whichL, if_pos hmem, idx_first hno.out (by rw [HX.out, hw])]⟩
    · have hw : w ≠ t := by
        rintro rfl
        have : vw = v := by rw [← HWE.out, ← HTE.out]
        simp [this] at h
      refine ⟨l.length - (i + 1), by omega, i + 1, rfl, by omega, by simp, ?_⟩
      intro a ha
      by_cases hai : a = i
      · subst hai; rw [HX.out]; simpa using hw
      · exact hno.out a (by omega)
  · have hil : i = l.length := by omega
    subst hil
    have hnm := not_mem_of hno.out
    clear hinj
    repeat' (first
    | with_reducible apply awp_seq
    | with_reducible apply awp_block
    | ((with_reducible refine awp_region_k ?_); intro kont hkont)
    | ((with_reducible refine hkont.out _ _ ?_); clear hkont kont)
    | ((first | ((with_reducible refine gd_go ?_); refine gd_split (fun h => ?_) (fun h => ?_)) | ((with_reducible refine gt_go ?_); refine gt_split (fun h => ?_) (fun h => ?_)) | ((with_reducible refine cond_go ?_); refine awp_cond_split rfl (fun h => ?_) (fun h => ?_))) <;> (try simp only [upd, ↓reduceIte, Nat.reduceEqDiff] at h) <;> (try simp only [B2] at h) <;> (try simp only [*, reduceCtorEq, decide_true, decide_false] at h) <;> (try (have hari := h; simp only [B3] at hari)) <;> (try (first | contradiction | (exfalso; omega) | (exfalso; simp at h; done))) <;> (try simp only [gd_true, gd_false, gt_true, gt_false]))
    | with_reducible apply awp_skip
    | with_reducible apply awp_exit
    | with_reducible apply awp_ret
    | (simp (maxSteps := 3000000) (disch := (first | omega | (simp only [B1, *]; omega))) only [↓mapA_nil, ↓mapA_cons, B0, gd_true, gd_false, gt_true, gt_false, aRun, Int.reduceToNat, Value.oneCell', awant, aStep, aq, al, aev, aput, upd, dstOk, cst, cst1, acells, flat, behind, aload, apart1, abin, aconv, aint, bnd, lsp, afill, thenQ, blkQ, retQ, ares, aresL, ares1, initS, nxt, aT, aTk, aU, aOne, kep, rdo, objOf, ↓reduceIte, Nat.reduceLT, Nat.reduceEqDiff, reduceCtorEq, Nat.reduceAdd, Nat.reduceMul, Nat.reduceLeDiff, Value.cells, Tryz.underlying25, Tryz.underlying3, tarr_25, telem_25, tsz_3, *])
    | ((with_reducible refine and_go ?_); refine And.intro (by first | exact kept_refl | exact kept_last rfl | exact kept_keep (by assumption)) ?_)
    | (refine hkont.out _ _ ?_; clear hkont kont))
    exact ⟨_, rfl, by rw [whichL, if_neg hnm]⟩

theorem VL_ordF {l : List Tx} {t : Tx} (h : VL l) (ht : VT t) : VL (ordF l t) := by
  unfold ordF
  split
  · rename_i hc
    intro u hu
    rcases List.mem_append.1 hu with hu | hu
    · exact h u hu
    · simp at hu; subst hu; exact ⟨ht, hc.1⟩
  · exact h
set_option maxHeartbeats 16000000 in
theorem variablesOf_spec (N : List Tx) (ls : List RAtom) (cs : List AV) (ida : Nat) (hE : EL (PC N) ls cs) (hV : ∀ a ∈ ls, VA a) (hn : ls.length ≤ 1001) (hat : ∀ a ∈ ls, a.terms.length ≤ 1000) (σ : St) :
    ACalls Tryz.prog 119 [sl ida ls.length cs] σ fun r σ' => ∃ id, r = sl id (ordT [] (ls.flatMap (·.terms))).length ((ordT [] (ls.flatMap (·.terms))).map encI) ∧ VL (ordT [] (ls.flatMap (·.terms))) ∧ Keep σ σ' := by
  have hcl := EL.length PC_len hE
  refine acalls 39 [.tmp 2] Tryz.func119 rfl (by decide) rfl rfl (Nat.le_of_ble_eq_true rfl) ?_
  repeat' (first
    | with_reducible apply awp_seq
    | with_reducible apply awp_block
    | ((with_reducible refine awp_region_k ?_); intro kont hkont)
    | ((with_reducible refine hkont.out _ _ ?_); clear hkont kont)
    | ((first | ((with_reducible refine gd_go ?_); refine gd_split (fun h => ?_) (fun h => ?_)) | ((with_reducible refine gt_go ?_); refine gt_split (fun h => ?_) (fun h => ?_)) | ((with_reducible refine cond_go ?_); refine awp_cond_split rfl (fun h => ?_) (fun h => ?_))) <;> (try simp only [upd, ↓reduceIte, Nat.reduceEqDiff] at h) <;> (try simp only [B2] at h) <;> (try simp only [*, reduceCtorEq, decide_true, decide_false] at h) <;> (try (have hari := h; simp only [B3] at hari)) <;> (try (first | contradiction | (exfalso; omega) | (exfalso; simp at h; done))) <;> (try simp only [gd_true, gd_false, gt_true, gt_false]))
    | ((with_reducible refine aapp_go ?_); refine aApp_own (by first | exact tez_25) (by assumption) (by assumption) (by decide) (by rfl) (by first | assumption | (simp; done) | (simp; omega) | omega) (by rfl) (by rfl) (by decide) (by omega) (by omega) ?_; intro idn σn hOn hKn eobj enobj ever entop)
    | with_reducible apply awp_skip
    | with_reducible apply awp_exit
    | with_reducible apply awp_ret
    | (simp (maxSteps := 3000000) (disch := (first | omega | (simp only [B1, *]; omega))) only [↓mapA_nil, ↓mapA_cons, B0, gd_true, gd_false, gt_true, gt_false, aRun, Int.reduceToNat, Value.oneCell', awant, aStep, aq, al, aev, aput, upd, dstOk, cst, cst1, acells, flat, behind, aload, apart1, abin, aconv, aint, bnd, lsp, afill, thenQ, blkQ, retQ, ares, aresL, ares1, initS, nxt, aT, aTk, aU, aOne, kep, rdo, objOf, ↓reduceIte, Nat.reduceLT, Nat.reduceEqDiff, reduceCtorEq, Nat.reduceAdd, Nat.reduceMul, Nat.reduceLeDiff, Value.cells, Tryz.underlying3, Tryz.underlying57, Tryz.underlying90, tarr_57, tarr_90, telem_57, telem_90, tez_25, tfld_134_0, tfld_134_1, tfld_92_1, tsz_134, tsz_3, tsz_4, tsz_90, tsz_92, tzero_134, tzero_92, *])
    | ((with_reducible refine and_go ?_); refine And.intro (by first | exact kept_refl | exact kept_last rfl | exact kept_keep (by assumption)) ?_)
    | (refine hkont.out _ _ ?_; clear hkont kont))
  refine awp_loop (fun m s σ' => ∃ (j i3 : Nat) (l : List Tx), m = ls.length - j ∧ j ≤ ls.length ∧ s 3 = sl i3 l.length (l.map encI) ∧ s 9 = sl ida ls.length cs ∧ s 10 = sc (.int .i64 ls.length) ∧ s 11 = sc (.int .i64 j) ∧ Keep σ σ' ∧ Own σ σ' i3 l.length ∧ l.length ≤ j * 1000 ∧ Abs.Hid (VL l) ∧ Abs.Hid (l = ordT [] ((ls.take j).flatMap (·.terms)))) ls.length
    ⟨0, 1, [], by omega, by omega, rfl, rfl, rfl, rfl, Keep.refl _, Own.nil _ _, by simp, (fun t ht => by cases ht), by simp [Abs.Hid, ordT]⟩ ?_
  rintro m s σ' ⟨j, i3, l, rfl, hj, h3, h9, h10, h11, hK, hO, hll, hVL, hL⟩
  by_cases hlt : j < ls.length
  · have hget := List.getElem?_eq_getElem hlt
    have hta := hat ls[j] (List.getElem_mem hlt)
    have hva := hV ls[j] (List.getElem_mem hlt)
    obtain ⟨ha, ia, r, hd⟩ := EL_PC hE hget
    generalize ls[j] = a at hd hget hta ha hva
    have HG : Abs.Hid (ls[j]? = some a) := hget
    have HVA : Abs.Hid (VA a) := hva
    clear hget hva
    have htl := tcells_len a.terms
    have kno := hK.nobj
    repeat' (first
    | with_reducible apply awp_seq
    | with_reducible apply awp_block
    | ((with_reducible refine awp_region_k ?_); intro kont hkont)
    | ((with_reducible refine hkont.out _ _ ?_); clear hkont kont)
    | ((first | ((with_reducible refine gd_go ?_); refine gd_split (fun h => ?_) (fun h => ?_)) | ((with_reducible refine gt_go ?_); refine gt_split (fun h => ?_) (fun h => ?_)) | ((with_reducible refine cond_go ?_); refine awp_cond_split rfl (fun h => ?_) (fun h => ?_))) <;> (try simp only [upd, ↓reduceIte, Nat.reduceEqDiff] at h) <;> (try simp only [B2] at h) <;> (try simp only [*, reduceCtorEq, decide_true, decide_false] at h) <;> (try (have hari := h; simp only [B3] at hari)) <;> (try (first | contradiction | (exfalso; omega) | (exfalso; simp at h; done))) <;> (try simp only [gd_true, gd_false, gt_true, gt_false]))
    | ((with_reducible refine aapp_go ?_); refine aApp_own (by first | exact tez_25) (by assumption) (by assumption) (by decide) (by rfl) (by first | assumption | (simp; done) | (simp; omega) | omega) (by rfl) (by rfl) (by decide) (by omega) (by omega) ?_; intro idn σn hOn hKn eobj enobj ever entop)
    | with_reducible apply awp_skip
    | with_reducible apply awp_exit
    | with_reducible apply awp_ret
    | (simp (maxSteps := 3000000) (disch := (first | omega | (simp only [B1, *]; omega))) only [↓mapA_nil, ↓mapA_cons, B0, gd_true, gd_false, gt_true, gt_false, aRun, Int.reduceToNat, Value.oneCell', awant, aStep, aq, al, aev, aput, upd, dstOk, cst, cst1, acells, flat, behind, aload, apart1, abin, aconv, aint, bnd, lsp, afill, thenQ, blkQ, retQ, ares, aresL, ares1, initS, nxt, aT, aTk, aU, aOne, kep, rdo, objOf, ↓reduceIte, Nat.reduceLT, Nat.reduceEqDiff, reduceCtorEq, Nat.reduceAdd, Nat.reduceMul, Nat.reduceLeDiff, Value.cells, Tryz.underlying3, Tryz.underlying57, Tryz.underlying90, tarr_57, tarr_90, telem_57, telem_90, tez_25, tfld_134_0, tfld_134_1, tfld_92_1, tsz_134, tsz_3, tsz_4, tsz_90, tsz_92, tzero_134, tzero_92, *])
    | ((with_reducible refine and_go ?_); refine And.intro (by first | exact kept_refl | exact kept_last rfl | exact kept_keep (by assumption)) ?_)
    | (refine hkont.out _ _ ?_; clear hkont kont))
    refine awp_loop (fun m s σ' => ∃ (k i3 : Nat) (l : List Tx), m = a.terms.length - k ∧ k ≤ a.terms.length ∧ s 3 = sl i3 l.length (l.map encI) ∧ s 9 = sl ida ls.length cs ∧ s 10 = sc (.int .i64 ls.length) ∧ s 11 = sc (.int .i64 j) ∧ s 16 = sl ia a.terms.length (tcells a.terms) ∧ s 17 = sc (.int .i64 a.terms.length) ∧ s 18 = sc (.int .i64 k) ∧ Keep σ σ' ∧ Own σ σ' i3 l.length ∧ l.length ≤ j * 1000 + k ∧ Abs.Hid (VL l) ∧ Abs.Hid (l = ordT [] ((ls.take j).flatMap (·.terms) ++ a.terms.take k))) a.terms.length
      ⟨0, i3, l, by omega, by omega, by simp [upd, h3], by simp [upd, h9], by simp [upd, h10], by simp [upd, h11], by simp [upd], rfl, rfl, (hK.new _).put hK.nobj _, Own.put (Own.new hO _) _ _, by omega, hVL, by simpa using hL⟩ ?_
    clear hK hO hL hll hVL h3 h9 h10 h11 kno l
    rintro m s σ' ⟨k, i3, l, rfl, hk, h3, h9, h10, h11, h16, h17, h18, hK, hO, hll, hVL, hL⟩
    have kno := hK.nobj
    by_cases hlt2 : k < a.terms.length
    · have hget := List.getElem?_eq_getElem hlt2
      have hvw := HVA.out a.terms[k] (List.getElem_mem hlt2)
      obtain ⟨r2, hd2⟩ := tcells_get hget
      generalize a.terms[k] = w at hd2 hget hvw
      have hstep : Abs.Hid (ordT [] ((ls.take j).flatMap (·.terms) ++ a.terms.take (k + 1)) = ordF l w) := by
        rw [Abs.Hid, List.take_add_one, hget, Option.toList_some, ← List.append_assoc, ordT_snoc, ← hL.out]
      have HVN : Abs.Hid (VL (ordF l w)) := VL_ordF hVL.out hvw
      clear hget
      have h1w := enc_var hvw
      cases hv : variableB w with
      | true =>
        rw [hv] at h1w
        rw [h1w] at hd2
        have hP := fun σ => placeOf_spec l i3 w (by omega) hVL.out hvw hv σ
        generalize hw2 : (encT w).2 = w2 at hd2 hP
        have HW2 : Abs.Hid _ := hw2
        clear hw2
        repeat' (first
    | with_reducible apply awp_seq
    | with_reducible apply awp_block
    | ((with_reducible refine awp_region_k ?_); intro kont hkont)
    | ((with_reducible refine hkont.out _ _ ?_); clear hkont kont)
    | ((first | ((with_reducible refine gd_go ?_); refine gd_split (fun h => ?_) (fun h => ?_)) | ((with_reducible refine gt_go ?_); refine gt_split (fun h => ?_) (fun h => ?_)) | ((with_reducible refine cond_go ?_); refine awp_cond_split rfl (fun h => ?_) (fun h => ?_))) <;> (try simp only [upd, ↓reduceIte, Nat.reduceEqDiff] at h) <;> (try simp only [B2] at h) <;> (try simp only [*, reduceCtorEq, decide_true, decide_false] at h) <;> (try (have hari := h; simp only [B3] at hari)) <;> (try (first | contradiction | (exfalso; omega) | (exfalso; simp at h; done))) <;> (try simp only [gd_true, gd_false, gt_true, gt_false]))
    | ((with_reducible refine aapp_go ?_); refine aApp_own (by first | exact tez_25) (by assumption) (by assumption) (by decide) (by rfl) (by first | assumption | (simp; done) | (simp; omega) | omega) (by rfl) (by rfl) (by decide) (by omega) (by omega) ?_; intro idn σn hOn hKn eobj enobj ever entop)
    | ((with_reducible refine acalls_go ?_); refine ACalls.mono (hP _) ?_; rintro _ _ ⟨rfl, rfl⟩)
    | with_reducible apply awp_skip
    | with_reducible apply awp_exit
    | with_reducible apply awp_ret
    | (simp (maxSteps := 3000000) (disch := (first | omega | (simp only [B1, *]; omega))) only [↓mapA_nil, ↓mapA_cons, B0, gd_true, gd_false, gt_true, gt_false, aRun, Int.reduceToNat, Value.oneCell', awant, aStep, aq, al, aev, aput, upd, dstOk, cst, cst1, acells, flat, behind, aload, apart1, abin, aconv, aint, bnd, lsp, afill, thenQ, blkQ, retQ, ares, aresL, ares1, initS, nxt, aT, aTk, aU, aOne, kep, rdo, objOf, ↓reduceIte, Nat.reduceLT, Nat.reduceEqDiff, reduceCtorEq, Nat.reduceAdd, Nat.reduceMul, Nat.reduceLeDiff, Value.cells, Tryz.underlying3, Tryz.underlying57, Tryz.underlying90, tarr_57, tarr_90, telem_57, telem_90, tez_25, tfld_134_0, tfld_134_1, tfld_92_1, tsz_134, tsz_3, tsz_4, tsz_90, tsz_92, tzero_134, tzero_92, *])
    | ((with_reducible refine and_go ?_); refine And.intro (by first | exact kept_refl | exact kept_last rfl | exact kept_keep (by assumption)) ?_)
    | (refine hkont.out _ _ ?_; clear hkont kont))
        · have hw1 : whichL l w = -1 := by simpa using h
          have hni : w ∉ l := fun hm => by rw [whichL, if_pos hm] at hw1; omega
          have hKx : Keep σ ((σ'.new [sc (.bool false), sc (.int .i64 0)]).put σ'.nobj [sc (.bool true), sc (.int .i64 w2)]) := (hK.new _).put hK.nobj _
          refine aApp_own (by first | exact tez_25) hKx (Own.put (Own.new hO _) _ _) (by decide) (by rfl) (by simp) (by rfl) (by rfl) (by decide) (by omega) (by omega) ?_
          intro idn σn hOn hKn eobj enobj ever entop
          simp (maxSteps := 3000000) (disch := (first | omega | (simp only [B1, *]; omega))) only [↓mapA_nil, ↓mapA_cons, B0, gd_true, gd_false, gt_true, gt_false, aRun, Int.reduceToNat, Value.oneCell', awant, aStep, aq, al, aev, aput, upd, dstOk, cst, cst1, acells, flat, behind, aload, apart1, abin, aconv, aint, bnd, lsp, afill, thenQ, blkQ, retQ, ares, aresL, ares1, initS, nxt, aT, aTk, aU, aOne, kep, rdo, objOf, ↓reduceIte, Nat.reduceLT, Nat.reduceEqDiff, reduceCtorEq, Nat.reduceAdd, Nat.reduceMul, Nat.reduceLeDiff, Value.cells, Tryz.underlying3, Tryz.underlying57, Tryz.underlying90, tarr_57, tarr_90, telem_57, telem_90, tez_25, tfld_134_0, tfld_134_1, tfld_92_1, tsz_134, tsz_3, tsz_4, tsz_90, tsz_92, tzero_134, tzero_92, *]
          repeat' (first
    | with_reducible apply awp_seq
    | with_reducible apply awp_block
    | ((with_reducible refine awp_region_k ?_); intro kont hkont)
    | ((with_reducible refine hkont.out _ _ ?_); clear hkont kont)
    | ((first | ((with_reducible refine gd_go ?_); refine gd_split (fun h => ?_) (fun h => ?_)) | ((with_reducible refine gt_go ?_); refine gt_split (fun h => ?_) (fun h => ?_)) | ((with_reducible refine cond_go ?_); refine awp_cond_split rfl (fun h => ?_) (fun h => ?_))) <;> (try simp only [upd, ↓reduceIte, Nat.reduceEqDiff] at h) <;> (try simp only [B2] at h) <;> (try simp only [*, reduceCtorEq, decide_true, decide_false] at h) <;> (try (have hari := h; simp only [B3] at hari)) <;> (try (first | contradiction | (exfalso; omega) | (exfalso; simp at h; done))) <;> (try simp only [gd_true, gd_false, gt_true, gt_false]))
    | ((with_reducible refine aapp_go ?_); refine aApp_own (by first | exact tez_25) (by assumption) (by assumption) (by decide) (by rfl) (by first | assumption | (simp; done) | (simp; omega) | omega) (by rfl) (by rfl) (by decide) (by omega) (by omega) ?_; intro idn σn hOn hKn eobj enobj ever entop)
    | with_reducible apply awp_skip
    | with_reducible apply awp_exit
    | with_reducible apply awp_ret
    | (simp (maxSteps := 3000000) (disch := (first | omega | (simp only [B1, *]; omega))) only [↓mapA_nil, ↓mapA_cons, B0, gd_true, gd_false, gt_true, gt_false, aRun, Int.reduceToNat, Value.oneCell', awant, aStep, aq, al, aev, aput, upd, dstOk, cst, cst1, acells, flat, behind, aload, apart1, abin, aconv, aint, bnd, lsp, afill, thenQ, blkQ, retQ, ares, aresL, ares1, initS, nxt, aT, aTk, aU, aOne, kep, rdo, objOf, ↓reduceIte, Nat.reduceLT, Nat.reduceEqDiff, reduceCtorEq, Nat.reduceAdd, Nat.reduceMul, Nat.reduceLeDiff, Value.cells, Tryz.underlying3, Tryz.underlying57, Tryz.underlying90, tarr_57, tarr_90, telem_57, telem_90, tez_25, tfld_134_0, tfld_134_1, tfld_92_1, tsz_134, tsz_3, tsz_4, tsz_90, tsz_92, tzero_134, tzero_92, *])
    | ((with_reducible refine and_go ?_); refine And.intro (by first | exact kept_refl | exact kept_last rfl | exact kept_keep (by assumption)) ?_)
    | (refine hkont.out _ _ ?_; clear hkont kont))
          have hof : ordF l w = l ++ [w] := by rw [ordF, if_pos ⟨hv, hni⟩]
          refine ⟨a.terms.length - (k + 1), by omega, k + 1, idn, l ++ [w], rfl, by omega, ?_, by simp, by simpa using hOn, by simp; omega, by rw [← hof]; exact HVN, by rw [Abs.Hid, hstep.out, hof]⟩
          simp [encI, HW2.out]
        · have hw1 : whichL l w ≠ -1 := by simpa using h
          have hin : w ∈ l := by
            by_cases hm : w ∈ l
            · exact hm
            · rw [whichL, if_neg hm] at hw1; exact absurd rfl hw1
          refine ⟨a.terms.length - (k + 1), by omega, k + 1, i3, l, rfl, by omega, rfl, by simp, (hK.new _).put hK.nobj _, Own.put (Own.new hO _) _ _, by omega, hVL, ?_⟩
          rw [Abs.Hid, hstep.out, ordF, if_neg (fun h => h.2 hin)]
      | false =>
        rw [hv] at h1w
        rw [h1w] at hd2
        generalize (encT w).2 = w2 at hd2
        repeat' (first
    | with_reducible apply awp_seq
    | with_reducible apply awp_block
    | ((with_reducible refine awp_region_k ?_); intro kont hkont)
    | ((with_reducible refine hkont.out _ _ ?_); clear hkont kont)
    | ((first | ((with_reducible refine gd_go ?_); refine gd_split (fun h => ?_) (fun h => ?_)) | ((with_reducible refine gt_go ?_); refine gt_split (fun h => ?_) (fun h => ?_)) | ((with_reducible refine cond_go ?_); refine awp_cond_split rfl (fun h => ?_) (fun h => ?_))) <;> (try simp only [upd, ↓reduceIte, Nat.reduceEqDiff] at h) <;> (try simp only [B2] at h) <;> (try simp only [*, reduceCtorEq, decide_true, decide_false] at h) <;> (try (have hari := h; simp only [B3] at hari)) <;> (try (first | contradiction | (exfalso; omega) | (exfalso; simp at h; done))) <;> (try simp only [gd_true, gd_false, gt_true, gt_false]))
    | ((with_reducible refine aapp_go ?_); refine aApp_own (by first | exact tez_25) (by assumption) (by assumption) (by decide) (by rfl) (by first | assumption | (simp; done) | (simp; omega) | omega) (by rfl) (by rfl) (by decide) (by omega) (by omega) ?_; intro idn σn hOn hKn eobj enobj ever entop)
    | with_reducible apply awp_skip
    | with_reducible apply awp_exit
    | with_reducible apply awp_ret
    | (simp (maxSteps := 3000000) (disch := (first | omega | (simp only [B1, *]; omega))) only [↓mapA_nil, ↓mapA_cons, B0, gd_true, gd_false, gt_true, gt_false, aRun, Int.reduceToNat, Value.oneCell', awant, aStep, aq, al, aev, aput, upd, dstOk, cst, cst1, acells, flat, behind, aload, apart1, abin, aconv, aint, bnd, lsp, afill, thenQ, blkQ, retQ, ares, aresL, ares1, initS, nxt, aT, aTk, aU, aOne, kep, rdo, objOf, ↓reduceIte, Nat.reduceLT, Nat.reduceEqDiff, reduceCtorEq, Nat.reduceAdd, Nat.reduceMul, Nat.reduceLeDiff, Value.cells, Tryz.underlying3, Tryz.underlying57, Tryz.underlying90, tarr_57, tarr_90, telem_57, telem_90, tez_25, tfld_134_0, tfld_134_1, tfld_92_1, tsz_134, tsz_3, tsz_4, tsz_90, tsz_92, tzero_134, tzero_92, *])
    | ((with_reducible refine and_go ?_); refine And.intro (by first | exact kept_refl | exact kept_last rfl | exact kept_keep (by assumption)) ?_)
    | (refine hkont.out _ _ ?_; clear hkont kont))
        refine ⟨a.terms.length - (k + 1), by omega, k + 1, i3, l, rfl, by omega, rfl, by simp, (hK.new _).put hK.nobj _, Own.put (Own.new hO _) _ _, by omega, hVL, ?_⟩
        rw [Abs.Hid, hstep.out, ordF, if_neg (fun h => by rw [hv] at h; cases h.1)]
    · have hkl : k = a.terms.length := by omega
      subst hkl
      rw [List.take_length] at hL
      repeat' (first
    | with_reducible apply awp_seq
    | with_reducible apply awp_block
    | ((with_reducible refine awp_region_k ?_); intro kont hkont)
    | ((with_reducible refine hkont.out _ _ ?_); clear hkont kont)
    | ((first | ((with_reducible refine gd_go ?_); refine gd_split (fun h => ?_) (fun h => ?_)) | ((with_reducible refine gt_go ?_); refine gt_split (fun h => ?_) (fun h => ?_)) | ((with_reducible refine cond_go ?_); refine awp_cond_split rfl (fun h => ?_) (fun h => ?_))) <;> (try simp only [upd, ↓reduceIte, Nat.reduceEqDiff] at h) <;> (try simp only [B2] at h) <;> (try simp only [*, reduceCtorEq, decide_true, decide_false] at h) <;> (try (have hari := h; simp only [B3] at hari)) <;> (try (first | contradiction | (exfalso; omega) | (exfalso; simp at h; done))) <;> (try simp only [gd_true, gd_false, gt_true, gt_false]))
    | ((with_reducible refine aapp_go ?_); refine aApp_own (by first | exact tez_25) (by assumption) (by assumption) (by decide) (by rfl) (by first | assumption | (simp; done) | (simp; omega) | omega) (by rfl) (by rfl) (by decide) (by omega) (by omega) ?_; intro idn σn hOn hKn eobj enobj ever entop)
    | with_reducible apply awp_skip
    | with_reducible apply awp_exit
    | with_reducible apply awp_ret
    | (simp (maxSteps := 3000000) (disch := (first | omega | (simp only [B1, *]; omega))) only [↓mapA_nil, ↓mapA_cons, B0, gd_true, gd_false, gt_true, gt_false, aRun, Int.reduceToNat, Value.oneCell', awant, aStep, aq, al, aev, aput, upd, dstOk, cst, cst1, acells, flat, behind, aload, apart1, abin, aconv, aint, bnd, lsp, afill, thenQ, blkQ, retQ, ares, aresL, ares1, initS, nxt, aT, aTk, aU, aOne, kep, rdo, objOf, ↓reduceIte, Nat.reduceLT, Nat.reduceEqDiff, reduceCtorEq, Nat.reduceAdd, Nat.reduceMul, Nat.reduceLeDiff, Value.cells, Tryz.underlying3, Tryz.underlying57, Tryz.underlying90, tarr_57, tarr_90, telem_57, telem_90, tez_25, tfld_134_0, tfld_134_1, tfld_92_1, tsz_134, tsz_3, tsz_4, tsz_90, tsz_92, tzero_134, tzero_92, *])
    | ((with_reducible refine and_go ?_); refine And.intro (by first | exact kept_refl | exact kept_last rfl | exact kept_keep (by assumption)) ?_)
    | (refine hkont.out _ _ ?_; clear hkont kont))
      exact ⟨ls.length - (j + 1), by omega, j + 1, i3, l, rfl, by omega, rfl, by simp, hO, by omega, hVL, by rw [Abs.Hid, List.take_add_one, HG.out]; simpa using hL.out⟩
  · have hjl : j = ls.length := by omega
    subst hjl
    rw [List.take_length] at hL
    repeat' (first
    | with_reducible apply awp_seq
    | with_reducible apply awp_block
    | ((with_reducible refine awp_region_k ?_); intro kont hkont)
    | ((with_reducible refine hkont.out _ _ ?_); clear hkont kont)
    | ((first | ((with_reducible refine gd_go ?_); refine gd_split (fun h => ?_) (fun h => ?_)) | ((with_reducible refine gt_go ?_); refine gt_split (fun h => ?_) (fun h => ?_)) | ((with_reducible refine cond_go ?_); refine awp_cond_split rfl (fun h => ?_) (fun h => ?_))) <;> (try simp only [upd, ↓reduceIte, Nat.reduceEqDiff] at h) <;> (try simp only [B2] at h) <;> (try simp only [*, reduceCtorEq, decide_true, decide_false] at h) <;> (try (have hari := h; simp only [B3] at hari)) <;> (try (first | contradiction | (exfalso; omega) | (exfalso; simp at h; done))) <;> (try simp only [gd_true, gd_false, gt_true, gt_false]))
    | ((with_reducible refine aapp_go ?_); refine aApp_own (by first | exact tez_25) (by assumption) (by assumption) (by decide) (by rfl) (by first | assumption | (simp; done) | (simp; omega) | omega) (by rfl) (by rfl) (by decide) (by omega) (by omega) ?_; intro idn σn hOn hKn eobj enobj ever entop)
    | with_reducible apply awp_skip
    | with_reducible apply awp_exit
    | with_reducible apply awp_ret
    | (simp (maxSteps := 3000000) (disch := (first | omega | (simp only [B1, *]; omega))) only [↓mapA_nil, ↓mapA_cons, B0, gd_true, gd_false, gt_true, gt_false, aRun, Int.reduceToNat, Value.oneCell', awant, aStep, aq, al, aev, aput, upd, dstOk, cst, cst1, acells, flat, behind, aload, apart1, abin, aconv, aint, bnd, lsp, afill, thenQ, blkQ, retQ, ares, aresL, ares1, initS, nxt, aT, aTk, aU, aOne, kep, rdo, objOf, ↓reduceIte, Nat.reduceLT, Nat.reduceEqDiff, reduceCtorEq, Nat.reduceAdd, Nat.reduceMul, Nat.reduceLeDiff, Value.cells, Tryz.underlying3, Tryz.underlying57, Tryz.underlying90, tarr_57, tarr_90, telem_57, telem_90, tez_25, tfld_134_0, tfld_134_1, tfld_92_1, tsz_134, tsz_3, tsz_4, tsz_90, tsz_92, tzero_134, tzero_92, *])
    | ((with_reducible refine and_go ?_); refine And.intro (by first | exact kept_refl | exact kept_last rfl | exact kept_keep (by assumption)) ?_)
    | (refine hkont.out _ _ ?_; clear hkont kont))
    rw [← hL.out]
    first | exact ⟨_, rfl, i3, rfl, hVL.out, hK⟩ | exact ⟨_, rfl, i3, rfl, hVL.out⟩
end Go.Proofs.YtmokifgkfcdldaaGreatDoorY
