import Derived.Test.YtmokifgkfcdldaaGreatDoorYProgD
/- The program's reader: predicates. -/
namespace Go.Proofs.YtmokifgkfcdldaaGreatDoorY
open Go.Abs
set_option linter.unusedSimpArgs false
set_option linter.unusedVariables false
set_option maxRecDepth 100000

def ins (N : List Tx) (n : Tx) : List Tx := if n ∈ N then N else N ++ [n]
theorem ins_mem (N : List Tx) (n : Tx) : n ∈ ins N n := by unfold ins; split <;> simp_all
theorem ins_pre (N : List Tx) (n : Tx) : N <+: ins N n := by
  unfold ins; split
  · exact List.prefix_refl _
  · exact List.prefix_append _ _
theorem idx_pre {N N' : List Tx} {n : Tx} (h : N <+: N') (hm : n ∈ N) : N'.idxOf n = N.idxOf n := by
  obtain ⟨r, rfl⟩ := h
  rw [List.idxOf_append, if_pos hm]
theorem ins_idx (N : List Tx) (n : Tx) : (ins N n).idxOf n = N.idxOf n := by
  unfold ins; split
  · rfl
  · rename_i h
    rw [List.idxOf_append, if_neg h, List.idxOf_eq_length h]; simp
theorem idx_first : ∀ {N : List Tx} {i : Nat} {n : Tx}, (∀ a, a < i → N[a]? ≠ some n) → N[i]? = some n → N.idxOf n = i
  | [], i, n, h, hi => by simp at hi
  | x :: N, 0, n, h, hi => by simp at hi; subst hi; simp
  | x :: N, i + 1, n, h, hi => by
    have h0 := h 0 (by omega)
    have ih := idx_first (N := N) (i := i) (n := n) (fun a ha => by have := h (a + 1) (by omega); simpa using this) (by simpa using hi)
    have hx : (x == n) = false := by
      simp at h0
      simpa using h0
    rw [List.idxOf_cons, hx, ih]; rfl
theorem not_mem_of {N : List Tx} {n : Tx} (h : ∀ a, a < N.length → N[a]? ≠ some n) : n ∉ N := fun hm => by
  obtain ⟨i, hi, he⟩ := List.getElem_of_mem hm
  exact h i hi (by rw [List.getElem?_eq_getElem hi, he])

set_option maxHeartbeats 16000000 in
theorem place_R {t : Tx} {o : Nat} {N : List Tx} {id : Nat} {s : Tx} {σ : St} (n : Tx) (ht : t.length ≤ 1000) (hR : RS t o N id s σ) (hl : N.length + 1 + s.length ≤ 1000 + t.length) :
    ACalls Tryz.prog 174 [ptr o 0, str n] σ fun x σ' => ∃ id', x = sc (.int .i64 (N.idxOf n : Nat)) ∧ Rs o σ id σ' id' ∧ RS t o (ins N n) id' s σ' := by
  have hR' : Abs.Hid (RS t o N id s σ) := hR
  obtain ⟨ho, hn, hown, hs, hlen⟩ := hR
  have HOwn : Abs.Hid (OwnN σ id N.length) := hown
  clear hown
  have hsl := suff_len hs
  unfold rdS rdr at ho
  refine acalls 38 [.tmp 4] Tryz.func174 rfl (by decide) rfl rfl (Nat.le_of_ble_eq_true rfl) ?_
  repeat' (first
    | with_reducible apply awp_seq
    | with_reducible apply awp_block
    | ((with_reducible refine awp_region_k ?_); intro kont hkont)
    | ((with_reducible refine hkont.out _ _ ?_); clear hkont kont)
    | ((first | ((with_reducible refine gd_go ?_); refine gd_split (fun h => ?_) (fun h => ?_)) | ((with_reducible refine gt_go ?_); refine gt_split (fun h => ?_) (fun h => ?_)) | ((with_reducible refine cond_go ?_); refine awp_cond_split rfl (fun h => ?_) (fun h => ?_))) <;> (try simp only [upd, ↓reduceIte, Nat.reduceEqDiff] at h) <;> (try simp only [B2] at h) <;> (try simp only [*, reduceCtorEq, decide_true, decide_false] at h) <;> (try (have hari := h; simp only [B3] at hari)) <;> (try (first | contradiction | (exfalso; omega) | (exfalso; simp at h; done))) <;> (try simp only [gd_true, gd_false, gt_true, gt_false]))
    | ((with_reducible refine aapp_go ?_); refine aApp_own (by first | exact tez_37) (by assumption) (by assumption) (by decide) (by rfl) (by first | assumption | (simp; done) | (simp; omega) | omega) (by rfl) (by rfl) (by decide) (by omega) (by omega) ?_; intro idn σn hOn hKn eobj enobj ever entop)
    | with_reducible apply awp_skip
    | with_reducible apply awp_exit
    | with_reducible apply awp_ret
    | (simp (maxSteps := 3000000) (disch := (first | omega | (simp only [B1, *]; omega))) only [↓mapA_nil, ↓mapA_cons, B0, gd_true, gd_false, gt_true, gt_false, aRun, Int.reduceToNat, Value.oneCell', awant, aStep, aq, al, aev, aput, upd, dstOk, cst, cst1, acells, flat, behind, aload, apart1, abin, aconv, aint, bnd, lsp, afill, thenQ, blkQ, retQ, ares, aresL, ares1, initS, nxt, aT, aTk, aU, aOne, kep, rdo, objOf, ↓reduceIte, Nat.reduceLT, Nat.reduceEqDiff, reduceCtorEq, Nat.reduceAdd, Nat.reduceMul, Nat.reduceLeDiff, Value.cells, Tryz.underlying3, Tryz.underlying37, Tryz.underlying9, tarr_37, telem_37, tez_37, tfld_81_2, tsz_37, tsz_9, *])
    | ((with_reducible refine and_go ?_); refine And.intro (by first | exact kept_refl | exact kept_last rfl | exact kept_keep (by assumption)) ?_)
    | (refine hkont.out _ _ ?_; clear hkont kont))
  refine awp_loop (fun m s' σ' => ∃ i : Nat, m = N.length - i ∧ i ≤ N.length ∧ s' 0 = ptr o 0 ∧ s' 1 = str n ∧ s' 10 = sl id N.length (N.map str) ∧ s' 11 = sc (.int .i64 N.length) ∧ s' 12 = sc (.int .i64 i) ∧ σ' = σ ∧ Abs.Hid (∀ a, a < i → N[a]? ≠ some n)) N.length
    ⟨0, by omega, by omega, rfl, rfl, rfl, rfl, rfl, rfl, fun a ha => by omega⟩ ?_
  rintro m s' σ' ⟨i, rfl, hi, h0, h1, h10, h11, h12, hσ, hno⟩
  subst hσ
  by_cases hlt : i < N.length
  · have hts := map_str_get hlt
    have HX : Abs.Hid (N[i]? = some N[i]) := List.getElem?_eq_getElem hlt
    generalize N[i] = w at hts HX
    repeat' (first
    | with_reducible apply awp_seq
    | with_reducible apply awp_block
    | ((with_reducible refine awp_region_k ?_); intro kont hkont)
    | ((with_reducible refine hkont.out _ _ ?_); clear hkont kont)
    | ((first | ((with_reducible refine gd_go ?_); refine gd_split (fun h => ?_) (fun h => ?_)) | ((with_reducible refine gt_go ?_); refine gt_split (fun h => ?_) (fun h => ?_)) | ((with_reducible refine cond_go ?_); refine awp_cond_split rfl (fun h => ?_) (fun h => ?_))) <;> (try simp only [upd, ↓reduceIte, Nat.reduceEqDiff] at h) <;> (try simp only [B2] at h) <;> (try simp only [*, reduceCtorEq, decide_true, decide_false] at h) <;> (try (have hari := h; simp only [B3] at hari)) <;> (try (first | contradiction | (exfalso; omega) | (exfalso; simp at h; done))) <;> (try simp only [gd_true, gd_false, gt_true, gt_false]))
    | ((with_reducible refine aapp_go ?_); refine aApp_own (by first | exact tez_37) (by assumption) (by assumption) (by decide) (by rfl) (by first | assumption | (simp; done) | (simp; omega) | omega) (by rfl) (by rfl) (by decide) (by omega) (by omega) ?_; intro idn σn hOn hKn eobj enobj ever entop)
    | with_reducible apply awp_skip
    | with_reducible apply awp_exit
    | with_reducible apply awp_ret
    | (simp (maxSteps := 3000000) (disch := (first | omega | (simp only [B1, *]; omega))) only [↓mapA_nil, ↓mapA_cons, B0, gd_true, gd_false, gt_true, gt_false, aRun, Int.reduceToNat, Value.oneCell', awant, aStep, aq, al, aev, aput, upd, dstOk, cst, cst1, acells, flat, behind, aload, apart1, abin, aconv, aint, bnd, lsp, afill, thenQ, blkQ, retQ, ares, aresL, ares1, initS, nxt, aT, aTk, aU, aOne, kep, rdo, objOf, ↓reduceIte, Nat.reduceLT, Nat.reduceEqDiff, reduceCtorEq, Nat.reduceAdd, Nat.reduceMul, Nat.reduceLeDiff, Value.cells, Tryz.underlying3, Tryz.underlying37, Tryz.underlying9, tarr_37, telem_37, tez_37, tfld_81_2, tsz_37, tsz_9, *])
    | ((with_reducible refine and_go ?_); refine And.intro (by first | exact kept_refl | exact kept_last rfl | exact kept_keep (by assumption)) ?_)
    | (refine hkont.out _ _ ?_; clear hkont kont))
    · have hw : w = n := by simpa using h
      subst hw
      have hmem : w ∈ N := List.mem_of_getElem? HX.out
      refine ⟨_, rfl, id, by rw [idx_first hno.out HX.out], Rs.refl _ _ _, ?_⟩
      rw [ins, if_pos hmem]; exact hR'.out
    · have hw : w ≠ n := by simpa using h
      refine ⟨N.length - (i + 1), by omega, i + 1, rfl, by omega, by simp, ?_⟩
      intro a ha
      by_cases hai : a = i
      · subst hai; rw [HX.out]; simpa using hw
      · exact hno.out a (by omega)
  · have hil : i = N.length := by omega
    subst hil
    have hnm := not_mem_of hno.out
    repeat' (first
    | with_reducible apply awp_seq
    | with_reducible apply awp_block
    | ((with_reducible refine awp_region_k ?_); intro kont hkont)
    | ((with_reducible refine hkont.out _ _ ?_); clear hkont kont)
    | ((first | ((with_reducible refine gd_go ?_); refine gd_split (fun h => ?_) (fun h => ?_)) | ((with_reducible refine gt_go ?_); refine gt_split (fun h => ?_) (fun h => ?_)) | ((with_reducible refine cond_go ?_); refine awp_cond_split rfl (fun h => ?_) (fun h => ?_))) <;> (try simp only [upd, ↓reduceIte, Nat.reduceEqDiff] at h) <;> (try simp only [B2] at h) <;> (try simp only [*, reduceCtorEq, decide_true, decide_false] at h) <;> (try (have hari := h; simp only [B3] at hari)) <;> (try (first | contradiction | (exfalso; omega) | (exfalso; simp at h; done))) <;> (try simp only [gd_true, gd_false, gt_true, gt_false]))
    | ((with_reducible refine aapp_go ?_); refine aApp_own (by first | exact tez_37) (by assumption) (by assumption) (by decide) (by rfl) (by first | assumption | (simp; done) | (simp; omega) | omega) (by rfl) (by rfl) (by decide) (by omega) (by omega) ?_; intro idn σn hOn hKn eobj enobj ever entop)
    | with_reducible apply awp_skip
    | with_reducible apply awp_exit
    | with_reducible apply awp_ret
    | (simp (maxSteps := 3000000) (disch := (first | omega | (simp only [B1, *]; omega))) only [↓mapA_nil, ↓mapA_cons, B0, gd_true, gd_false, gt_true, gt_false, aRun, Int.reduceToNat, Value.oneCell', awant, aStep, aq, al, aev, aput, upd, dstOk, cst, cst1, acells, flat, behind, aload, apart1, abin, aconv, aint, bnd, lsp, afill, thenQ, blkQ, retQ, ares, aresL, ares1, initS, nxt, aT, aTk, aU, aOne, kep, rdo, objOf, ↓reduceIte, Nat.reduceLT, Nat.reduceEqDiff, reduceCtorEq, Nat.reduceAdd, Nat.reduceMul, Nat.reduceLeDiff, Value.cells, Tryz.underlying3, Tryz.underlying37, Tryz.underlying9, tarr_37, telem_37, tez_37, tfld_81_2, tsz_37, tsz_9, *])
    | ((with_reducible refine and_go ?_); refine And.intro (by first | exact kept_refl | exact kept_last rfl | exact kept_keep (by assumption)) ?_)
    | (refine hkont.out _ _ ?_; clear hkont kont))
    refine aApp_names (σ0 := σ') (o := o) (by first | exact tez_37) HOwn.out (by decide) (by rfl) (by simp) (by rfl) (by rfl) (by decide) (by omega) (by omega) ?_
    intro id' σ1 hO' hK' eobj enobj ever hid
    have hn1 : o < σ1.nobj := by omega
    have hO1 : σ1.obj o = [str t, sc (.int .i64 (t.length - s.length : Nat)), sl id N.length (N.map str)] := by rw [eobj]; exact ho
    simp (maxSteps := 3000000) (disch := (first | omega | (simp only [B1, *]; omega))) only [↓mapA_nil, ↓mapA_cons, B0, gd_true, gd_false, gt_true, gt_false, aRun, Int.reduceToNat, Value.oneCell', awant, aStep, aq, al, aev, aput, upd, dstOk, cst, cst1, acells, flat, behind, aload, apart1, abin, aconv, aint, bnd, lsp, afill, thenQ, blkQ, retQ, ares, aresL, ares1, initS, nxt, aT, aTk, aU, aOne, kep, rdo, objOf, ↓reduceIte, Nat.reduceLT, Nat.reduceEqDiff, reduceCtorEq, Nat.reduceAdd, Nat.reduceMul, Nat.reduceLeDiff, Value.cells, Tryz.underlying3, Tryz.underlying37, Tryz.underlying9, tarr_37, telem_37, tez_37, tfld_81_2, tsz_37, tsz_9, *]
    repeat' (first
    | with_reducible apply awp_seq
    | with_reducible apply awp_block
    | ((with_reducible refine awp_region_k ?_); intro kont hkont)
    | ((with_reducible refine hkont.out _ _ ?_); clear hkont kont)
    | ((first | ((with_reducible refine gd_go ?_); refine gd_split (fun h => ?_) (fun h => ?_)) | ((with_reducible refine gt_go ?_); refine gt_split (fun h => ?_) (fun h => ?_)) | ((with_reducible refine cond_go ?_); refine awp_cond_split rfl (fun h => ?_) (fun h => ?_))) <;> (try simp only [upd, ↓reduceIte, Nat.reduceEqDiff] at h) <;> (try simp only [B2] at h) <;> (try simp only [*, reduceCtorEq, decide_true, decide_false] at h) <;> (try (have hari := h; simp only [B3] at hari)) <;> (try (first | contradiction | (exfalso; omega) | (exfalso; simp at h; done))) <;> (try simp only [gd_true, gd_false, gt_true, gt_false]))
    | ((with_reducible refine aapp_go ?_); refine aApp_own (by first | exact tez_37) (by assumption) (by assumption) (by decide) (by rfl) (by first | assumption | (simp; done) | (simp; omega) | omega) (by rfl) (by rfl) (by decide) (by omega) (by omega) ?_; intro idn σn hOn hKn eobj enobj ever entop)
    | with_reducible apply awp_skip
    | with_reducible apply awp_exit
    | with_reducible apply awp_ret
    | (simp (maxSteps := 3000000) (disch := (first | omega | (simp only [B1, *]; omega))) only [↓mapA_nil, ↓mapA_cons, B0, gd_true, gd_false, gt_true, gt_false, aRun, Int.reduceToNat, Value.oneCell', awant, aStep, aq, al, aev, aput, upd, dstOk, cst, cst1, acells, flat, behind, aload, apart1, abin, aconv, aint, bnd, lsp, afill, thenQ, blkQ, retQ, ares, aresL, ares1, initS, nxt, aT, aTk, aU, aOne, kep, rdo, objOf, ↓reduceIte, Nat.reduceLT, Nat.reduceEqDiff, reduceCtorEq, Nat.reduceAdd, Nat.reduceMul, Nat.reduceLeDiff, Value.cells, Tryz.underlying3, Tryz.underlying37, Tryz.underlying9, tarr_37, telem_37, tez_37, tfld_81_2, tsz_37, tsz_9, *])
    | ((with_reducible refine and_go ?_); refine And.intro (by first | exact kept_refl | exact kept_last rfl | exact kept_keep (by assumption)) ?_)
    | (refine hkont.out _ _ ?_; clear hkont kont))
    have hI : ins N n = N ++ [n] := by rw [ins, if_neg hnm]
    have hx : N.idxOf n = N.length := List.idxOf_eq_length hnm
    refine ⟨_, rfl, id', by rw [hx, show ((N.length + 1 : Nat) : Int) - 1 = N.length by omega], ⟨hK'.put _, hid⟩, ?_⟩
    rw [hI]
    refine ⟨?_, hn1, ?_, hs, by simp; omega⟩
    · rw [put_same]; simp [rdS, rdr]
    · rcases hO' with h | ⟨j, q1, q2, q3, q4⟩
      · exact .inl ⟨h.1, by have := h.2; omega⟩
      · exact .inr ⟨j, q1, q2, by rw [put_top, q3]; simp, by simp⟩
theorem place_R' {t : Tx} {o : Nat} {N : List Tx} {id : Nat} {s : Tx} {σ : St} (ds : Tx) {n : Tx} (ht : t.length ≤ 1000) (hR : RS t o N id s σ) (hl : N.length + 1 + s.length ≤ 1000 + t.length) (he : n = ds) :
    ACalls Tryz.prog 174 [ptr o 0, str n] σ fun x σ' => ∃ id', x = sc (.int .i64 (N.idxOf ds : Nat)) ∧ Rs o σ id σ' id' ∧ RS t o (ins N ds) id' s σ' := by
  subst he; exact place_R n ht hR hl
end Go.Proofs.YtmokifgkfcdldaaGreatDoorY
