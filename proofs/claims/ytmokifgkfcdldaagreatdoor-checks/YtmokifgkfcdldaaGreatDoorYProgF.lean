import Derived.Test.YtmokifgkfcdldaaGreatDoorYProgE
/- The program's reader: a predicate of the text. -/
namespace Go.Proofs.YtmokifgkfcdldaaGreatDoorY
open Go.Abs
set_option linter.unusedSimpArgs false
set_option linter.unusedVariables false
set_option maxRecDepth 100000

def smalls (s ds q : Tx) : Prop := ds.length ≤ 6 ∧ s = ds ++ q ∧ pWhile smallB 6 s = (ds ++ (pWhile smallB (6 - ds.length) q).1, (pWhile smallB (6 - ds.length) q).2)
theorem smalls_nil (s : Tx) : smalls s [] s := ⟨by simp, by simp, by simp⟩
theorem smalls_step {s ds q : Tx} {b : UInt8} (h : smalls s ds (b :: q)) (hl : ds.length < 6) (hb : smallB b.toNat = true) : smalls s (ds ++ [b]) q := by
  obtain ⟨h1, h2, h3⟩ := h
  have e : 6 - ds.length = (6 - (ds ++ [b]).length) + 1 := by simp; omega
  rw [e, pWhile, if_pos hb] at h3
  exact ⟨by simp; omega, by rw [h2]; simp, by rw [h3]; simp⟩
theorem smalls_end {s ds q : Tx} (h : smalls s ds q) (he : ds.length = 6 ∨ q = [] ∨ ∃ b r, q = b :: r ∧ smallB b.toNat = false) : pWhile smallB 6 s = (ds, q) := by
  obtain ⟨h1, -, h2⟩ := h
  rw [h2]
  rcases he with he | rfl | ⟨b, r, rfl, hb⟩
  · rw [he]; simp [pWhile]
  · cases hn : 6 - ds.length <;> simp [pWhile]
  · cases hn : 6 - ds.length <;> simp [pWhile, hb]
theorem suff_drop {t s : Tx} (h : s <:+ t) : t.drop (t.length - s.length) = s := by
  obtain ⟨p, rfl⟩ := h
  simp
theorem suff_cut {t s ds q : Tx} (h : s <:+ t) (e : s = ds ++ q) {k : Nat} (hk : k = ds.length) : (t.drop (t.length - s.length)).take k = ds := by
  rw [suff_drop h, e, hk]; simp

theorem suff_cut' {t s ds q : Tx} (h : s <:+ t) (e : s = ds ++ q) {j k : Nat} (hj : j = t.length - s.length) (hk : k = ds.length) : (t.drop j).take k = ds := by
  subst hj; exact suff_cut h e hk
theorem pName_bad {s ds q : Tx} (h : pWhile smallB 6 s = (ds, q)) (h0 : ds.length = 0) : pName s = .bad s := by
  have : ds = [] := List.eq_nil_of_length_eq_zero h0
  unfold pName; rw [h, if_pos this]
theorem pName_got {s ds q : Tx} (h : pWhile smallB 6 s = (ds, q)) (h0 : ds.length ≠ 0) : pName s = .got ds q := by
  unfold pName; rw [h, if_neg (by intro e; simp at e; simp [e] at h0)]
set_option maxHeartbeats 16000000 in
theorem readPredicate_R {t : Tx} {o : Nat} {N : List Tx} {id : Nat} {s : Tx} {σ : St} (ht : t.length ≤ 1000) (hR : RS t o N id s σ) :
    ACalls Tryz.prog 138 [ptr o 0] σ fun x σ' => ∃ k N' id', x = tp [sc (.int .i64 k), sc (.bool (pName s).ok)] ∧ Rs o σ id σ' id' ∧ RS t o N' id' (pName s).rest σ' ∧ N <+: N' ∧ Rd.Val (pName s) fun n => n ∈ N' ∧ k = (N'.idxOf n : Nat) := by
  have hR' : Abs.Hid (RS t o N id s σ) := hR
  obtain ⟨ho, hn, -, hs, -⟩ := hR
  have hsl := suff_len hs
  generalize hnm : sl id N.length (N.map str) = nm at ho
  have ho' : Abs.Hid (σ.obj o = rdS t s nm) := ho
  unfold rdS rdr at ho
  refine acalls 67 [.tmp 2, .tmp 3] Tryz.func138 rfl (by decide) rfl rfl (Nat.le_of_ble_eq_true rfl) ?_
  repeat' (first
    | with_reducible apply awp_seq
    | with_reducible apply awp_block
    | ((with_reducible refine awp_region_k ?_); intro kont hkont)
    | ((with_reducible refine hkont.out _ _ ?_); clear hkont kont)
    | ((first | ((with_reducible refine gd_go ?_); refine gd_split (fun h => ?_) (fun h => ?_)) | ((with_reducible refine gt_go ?_); refine gt_split (fun h => ?_) (fun h => ?_)) | ((with_reducible refine cond_go ?_); refine awp_cond_split rfl (fun h => ?_) (fun h => ?_))) <;> (try simp only [upd, ↓reduceIte, Nat.reduceEqDiff] at h) <;> (try simp only [B2] at h) <;> (try simp only [*, reduceCtorEq, decide_true, decide_false] at h) <;> (try (have hari := h; simp only [B3] at hari)) <;> (try (first | contradiction | (exfalso; omega) | (exfalso; simp at h; done))) <;> (try simp only [gd_true, gd_false, gt_true, gt_false]))
    | with_reducible apply awp_skip
    | with_reducible apply awp_exit
    | with_reducible apply awp_ret
    | (simp (maxSteps := 3000000) (disch := (first | omega | (simp only [B1, *]; omega))) only [↓mapA_nil, ↓mapA_cons, B0, gd_true, gd_false, gt_true, gt_false, aRun, Int.reduceToNat, Value.oneCell', awant, aStep, aq, al, aev, aput, upd, dstOk, cst, cst1, acells, flat, behind, aload, apart1, abin, aconv, aint, bnd, lsp, afill, thenQ, blkQ, retQ, ares, aresL, ares1, initS, nxt, aT, aTk, aU, aOne, kep, rdo, objOf, ↓reduceIte, Nat.reduceLT, Nat.reduceEqDiff, reduceCtorEq, Nat.reduceAdd, Nat.reduceMul, Nat.reduceLeDiff, Value.cells, Tryz.underlying3, Tryz.underlying9, telem_9, tfld_81_0, tfld_81_1, tsz_3, tsz_9, *])
    | ((with_reducible refine and_go ?_); refine And.intro (by first | exact kept_refl | exact kept_last rfl | exact kept_keep (by assumption)) ?_)
    | (refine hkont.out _ _ ?_; clear hkont kont))
  refine awp_loop (fun m s' σ' => ∃ (q ds : Tx), m = 6 - ds.length ∧ s' 0 = ptr o 0 ∧ s' 4 = sc (.int .i64 (t.length - s.length : Nat)) ∧ KeepX o σ σ' ∧ σ'.obj o = rdS t q nm ∧ o < σ'.nobj ∧ q <:+ t ∧ s.length = ds.length + q.length ∧ Abs.Hid (smalls s ds q)) 6
    ⟨s, [], rfl, rfl, rfl, KeepX.refl _ _, ho'.out, hn, hs, by simp, smalls_nil s⟩ ?_
  rintro m s' σ' ⟨q, ds, rfl, h0, h4, hK, hO, hn', hq, hqs, hD⟩
  clear ho
  have hql := suff_len hq
  have hqg := suff_get hq
  have hd6 := hD.out.1
  have HO : Abs.Hid (σ'.obj o = rdS t q nm) := hO
  unfold rdS rdr at hO
  repeat' (first
    | with_reducible apply awp_seq
    | with_reducible apply awp_block
    | ((with_reducible refine awp_region_k ?_); intro kont hkont)
    | ((with_reducible refine hkont.out _ _ ?_); clear hkont kont)
    | ((first | ((with_reducible refine gd_go ?_); refine gd_split (fun h => ?_) (fun h => ?_)) | ((with_reducible refine gt_go ?_); refine gt_split (fun h => ?_) (fun h => ?_)) | ((with_reducible refine cond_go ?_); refine awp_cond_split rfl (fun h => ?_) (fun h => ?_))) <;> (try simp only [upd, ↓reduceIte, Nat.reduceEqDiff] at h) <;> (try simp only [B2] at h) <;> (try simp only [*, reduceCtorEq, decide_true, decide_false] at h) <;> (try (have hari := h; simp only [B3] at hari)) <;> (try (first | contradiction | (exfalso; omega) | (exfalso; simp at h; done))) <;> (try simp only [gd_true, gd_false, gt_true, gt_false]))
    | with_reducible apply awp_skip
    | with_reducible apply awp_exit
    | with_reducible apply awp_ret
    | (simp (maxSteps := 3000000) (disch := (first | omega | (simp only [B1, *]; omega))) only [↓mapA_nil, ↓mapA_cons, B0, gd_true, gd_false, gt_true, gt_false, aRun, Int.reduceToNat, Value.oneCell', awant, aStep, aq, al, aev, aput, upd, dstOk, cst, cst1, acells, flat, behind, aload, apart1, abin, aconv, aint, bnd, lsp, afill, thenQ, blkQ, retQ, ares, aresL, ares1, initS, nxt, aT, aTk, aU, aOne, kep, rdo, objOf, ↓reduceIte, Nat.reduceLT, Nat.reduceEqDiff, reduceCtorEq, Nat.reduceAdd, Nat.reduceMul, Nat.reduceLeDiff, Value.cells, Tryz.underlying3, Tryz.underlying9, telem_9, tfld_81_0, tfld_81_1, tsz_3, tsz_9, *])
    | ((with_reducible refine and_go ?_); refine And.intro (by first | exact kept_refl | exact kept_last rfl | exact kept_keep (by assumption)) ?_)
    | (refine hkont.out _ _ ?_; clear hkont kont))
  refine awp_draw_k follows_mixed (fun _ => True) [30] [0, 1, 2, 3, 4, 5, 6, 7, 8, 9, 10, 11, 12, 13, 14, 15, 16, 17, 18, 19, 20, 21, 22, 23, 24, 25, 26, 27, 28] [29, 30] (by kernel_rfl) (fun _ _ _ h => h) ?_
  intro kont hkont
  cases q with
  | nil =>
    simp only [List.length_nil, Nat.sub_zero, Nat.add_zero] at hO hqg hql hqs
    simp (maxSteps := 3000000) (disch := (first | omega | (simp only [B1, *]; omega))) only [↓mapA_nil, ↓mapA_cons, B0, gd_true, gd_false, gt_true, gt_false, aRun, Int.reduceToNat, Value.oneCell', awant, aStep, aq, al, aev, aput, upd, dstOk, cst, cst1, acells, flat, behind, aload, apart1, abin, aconv, aint, bnd, lsp, afill, thenQ, blkQ, retQ, ares, aresL, ares1, initS, nxt, aT, aTk, aU, aOne, kep, rdo, objOf, ↓reduceIte, Nat.reduceLT, Nat.reduceEqDiff, reduceCtorEq, Nat.reduceAdd, Nat.reduceMul, Nat.reduceLeDiff, Value.cells, Tryz.underlying3, Tryz.underlying9, telem_9, tfld_81_0, tfld_81_1, tsz_3, tsz_9, *]
    repeat' (first
    | with_reducible apply awp_seq
    | with_reducible apply awp_block
    | ((with_reducible refine awp_region_k ?_); intro kont hkont)
    | ((with_reducible refine hkont.out _ _ ?_); clear hkont kont)
    | ((first | ((with_reducible refine gd_go ?_); refine gd_split (fun h => ?_) (fun h => ?_)) | ((with_reducible refine gt_go ?_); refine gt_split (fun h => ?_) (fun h => ?_)) | ((with_reducible refine cond_go ?_); refine awp_cond_split rfl (fun h => ?_) (fun h => ?_))) <;> (try simp only [upd, ↓reduceIte, Nat.reduceEqDiff] at h) <;> (try simp only [B2] at h) <;> (try simp only [*, reduceCtorEq, decide_true, decide_false] at h) <;> (try (have hari := h; simp only [B3] at hari)) <;> (try (first | contradiction | (exfalso; omega) | (exfalso; simp at h; done))) <;> (try simp only [gd_true, gd_false, gt_true, gt_false]))
    | ((with_reducible refine acalls_go ?_); refine ACalls.mono (isSmall_spec _ _) ?_; rintro _ _ ⟨rfl, rfl⟩)
    | with_reducible apply awp_skip
    | with_reducible apply awp_exit
    | with_reducible apply awp_ret
    | (simp (maxSteps := 3000000) (disch := (first | omega | (simp only [B1, *]; omega))) only [↓mapA_nil, ↓mapA_cons, B0, gd_true, gd_false, gt_true, gt_false, aRun, Int.reduceToNat, Value.oneCell', awant, aStep, aq, al, aev, aput, upd, dstOk, cst, cst1, acells, flat, behind, aload, apart1, abin, aconv, aint, bnd, lsp, afill, thenQ, blkQ, retQ, ares, aresL, ares1, initS, nxt, aT, aTk, aU, aOne, kep, rdo, objOf, ↓reduceIte, Nat.reduceLT, Nat.reduceEqDiff, reduceCtorEq, Nat.reduceAdd, Nat.reduceMul, Nat.reduceLeDiff, Value.cells, Tryz.underlying3, Tryz.underlying9, telem_9, tfld_81_0, tfld_81_1, tsz_3, tsz_9, *])
    | ((with_reducible refine and_go ?_); refine And.intro (by first | exact kept_refl | exact kept_last rfl | exact kept_keep (by assumption)) ?_)
    | (refine hkont.out _ _ ?_; clear hkont kont))
    all_goals have hsm := smalls_end hD.out (.inr (.inl rfl))
    ·
      have hdl : ds.length = 0 := by simp at h; omega
      have hp := pName_bad hsm hdl
      have hsq := hD.out.2.1
      rw [List.eq_nil_of_length_eq_zero hdl, List.nil_append] at hsq
      refine ⟨_, rfl, 0, N, id, by rw [hp]; rfl, Rs.ofX hK, ?_, List.prefix_refl _, by rw [hp]; trivial⟩
      rw [hp]
      exact hR'.out.stepX hK (by rw [hnm]; exact hsq ▸ HO.out) hs (Nat.le_refl _)
    ·
      have hdl : ds.length ≠ 0 := by simp at h; omega
      have hp := pName_got hsm hdl
      have hRq := hR'.out.stepX hK (by rw [hnm]; exact HO.out) hq (by first | omega | (simp only [List.length_cons, List.length_nil]; omega))
      have hlN := hR'.out.len
      have HRq : Abs.Hid _ := hRq
      have HD : Abs.Hid _ := hD
      have HP : Abs.Hid _ := hp
      have HK : Abs.Hid _ := hK
      clear hRq hp hK hsm
      refine awp_draw_k follows_mixed (fun _ => True) [10] [0, 1, 2, 3, 4, 5, 6, 7, 8, 9] [10] (by kernel_rfl) (fun _ _ _ h => h) ?_
      intro kont hkont
      simp (maxSteps := 3000000) (disch := (first | omega | (simp only [B1, *]; omega))) only [↓mapA_nil, ↓mapA_cons, B0, gd_true, gd_false, gt_true, gt_false, aRun, Int.reduceToNat, Value.oneCell', awant, aStep, aq, al, aev, aput, upd, dstOk, cst, cst1, acells, flat, behind, aload, apart1, abin, aconv, aint, bnd, lsp, afill, thenQ, blkQ, retQ, ares, aresL, ares1, initS, nxt, aT, aTk, aU, aOne, kep, rdo, objOf, ↓reduceIte, Nat.reduceLT, Nat.reduceEqDiff, reduceCtorEq, Nat.reduceAdd, Nat.reduceMul, Nat.reduceLeDiff, Value.cells, Tryz.underlying3, Tryz.underlying9, telem_9, tfld_81_0, tfld_81_1, tsz_3, tsz_9, *]
      repeat' (first
    | with_reducible apply awp_seq
    | with_reducible apply awp_block
    | ((with_reducible refine awp_region_k ?_); intro kont hkont)
    | ((with_reducible refine hkont.out _ _ ?_); clear hkont kont)
    | ((first | ((with_reducible refine gd_go ?_); refine gd_split (fun h => ?_) (fun h => ?_)) | ((with_reducible refine gt_go ?_); refine gt_split (fun h => ?_) (fun h => ?_)) | ((with_reducible refine cond_go ?_); refine awp_cond_split rfl (fun h => ?_) (fun h => ?_))) <;> (try simp only [upd, ↓reduceIte, Nat.reduceEqDiff] at h) <;> (try simp only [B2] at h) <;> (try simp only [*, reduceCtorEq, decide_true, decide_false] at h) <;> (try (have hari := h; simp only [B3] at hari)) <;> (try (first | contradiction | (exfalso; omega) | (exfalso; simp at h; done))) <;> (try simp only [gd_true, gd_false, gt_true, gt_false]))
    | ((with_reducible refine acalls_go ?_); refine ACalls.mono (place_R' ds ht HRq.out (by first | omega | (simp only [List.length_cons, List.length_nil]; omega)) (by refine suff_cut' hs HD.out.2.1 ?_ ?_ <;> first | omega | (simp only [List.length_cons, List.length_nil, Nat.add_zero]; omega))) ?_; rintro _ _ ⟨id', rfl, hRs, hRS⟩)
    | with_reducible apply awp_skip
    | with_reducible apply awp_exit
    | with_reducible apply awp_ret
    | (simp (maxSteps := 3000000) (disch := (first | omega | (simp only [B1, *]; omega))) only [↓mapA_nil, ↓mapA_cons, B0, gd_true, gd_false, gt_true, gt_false, aRun, Int.reduceToNat, Value.oneCell', awant, aStep, aq, al, aev, aput, upd, dstOk, cst, cst1, acells, flat, behind, aload, apart1, abin, aconv, aint, bnd, lsp, afill, thenQ, blkQ, retQ, ares, aresL, ares1, initS, nxt, aT, aTk, aU, aOne, kep, rdo, objOf, ↓reduceIte, Nat.reduceLT, Nat.reduceEqDiff, reduceCtorEq, Nat.reduceAdd, Nat.reduceMul, Nat.reduceLeDiff, Value.cells, Tryz.underlying3, Tryz.underlying9, telem_9, tfld_81_0, tfld_81_1, tsz_3, tsz_9, *])
    | ((with_reducible refine and_go ?_); refine And.intro (by first | exact kept_refl | exact kept_last rfl | exact kept_keep (by assumption)) ?_)
    | (refine hkont.out _ _ ?_; clear hkont kont))
      refine ⟨_, rfl, _, ins N ds, id', by rw [HP.out]; rfl, (Rs.ofX HK.out).trans hRs, ?_, ins_pre _ _, ?_⟩
      · rw [HP.out]; exact hRS
      · rw [HP.out]; exact ⟨ins_mem _ _, by rw [ins_idx]⟩
  | cons b r =>
    simp only [List.length_cons, List.head?_cons] at hO hqg hql hqs
    have hqr := suff_tail hq
    simp (maxSteps := 3000000) (disch := (first | omega | (simp only [B1, *]; omega))) only [↓mapA_nil, ↓mapA_cons, B0, gd_true, gd_false, gt_true, gt_false, aRun, Int.reduceToNat, Value.oneCell', awant, aStep, aq, al, aev, aput, upd, dstOk, cst, cst1, acells, flat, behind, aload, apart1, abin, aconv, aint, bnd, lsp, afill, thenQ, blkQ, retQ, ares, aresL, ares1, initS, nxt, aT, aTk, aU, aOne, kep, rdo, objOf, ↓reduceIte, Nat.reduceLT, Nat.reduceEqDiff, reduceCtorEq, Nat.reduceAdd, Nat.reduceMul, Nat.reduceLeDiff, Value.cells, Tryz.underlying3, Tryz.underlying9, telem_9, tfld_81_0, tfld_81_1, tsz_3, tsz_9, *]
    repeat' (first
    | with_reducible apply awp_seq
    | with_reducible apply awp_block
    | ((with_reducible refine awp_region_k ?_); intro kont hkont)
    | ((with_reducible refine hkont.out _ _ ?_); clear hkont kont)
    | ((first | ((with_reducible refine gd_go ?_); refine gd_split (fun h => ?_) (fun h => ?_)) | ((with_reducible refine gt_go ?_); refine gt_split (fun h => ?_) (fun h => ?_)) | ((with_reducible refine cond_go ?_); refine awp_cond_split rfl (fun h => ?_) (fun h => ?_))) <;> (try simp only [upd, ↓reduceIte, Nat.reduceEqDiff] at h) <;> (try simp only [B2] at h) <;> (try simp only [*, reduceCtorEq, decide_true, decide_false] at h) <;> (try (have hari := h; simp only [B3] at hari)) <;> (try (first | contradiction | (exfalso; omega) | (exfalso; simp at h; done))) <;> (try simp only [gd_true, gd_false, gt_true, gt_false]))
    | ((with_reducible refine acalls_go ?_); refine ACalls.mono (isSmall_spec _ _) ?_; rintro _ _ ⟨rfl, rfl⟩)
    | with_reducible apply awp_skip
    | with_reducible apply awp_exit
    | with_reducible apply awp_ret
    | (simp (maxSteps := 3000000) (disch := (first | omega | (simp only [B1, *]; omega))) only [↓mapA_nil, ↓mapA_cons, B0, gd_true, gd_false, gt_true, gt_false, aRun, Int.reduceToNat, Value.oneCell', awant, aStep, aq, al, aev, aput, upd, dstOk, cst, cst1, acells, flat, behind, aload, apart1, abin, aconv, aint, bnd, lsp, afill, thenQ, blkQ, retQ, ares, aresL, ares1, initS, nxt, aT, aTk, aU, aOne, kep, rdo, objOf, ↓reduceIte, Nat.reduceLT, Nat.reduceEqDiff, reduceCtorEq, Nat.reduceAdd, Nat.reduceMul, Nat.reduceLeDiff, Value.cells, Tryz.underlying3, Tryz.underlying9, telem_9, tfld_81_0, tfld_81_1, tsz_3, tsz_9, *])
    | ((with_reducible refine and_go ?_); refine And.intro (by first | exact kept_refl | exact kept_last rfl | exact kept_keep (by assumption)) ?_)
    | (refine hkont.out _ _ ?_; clear hkont kont))
    · have hl6 : ds.length < 6 := by omega
      have hsb : smallB b.toNat = true := by assumption
      refine ⟨6 - (ds ++ [b]).length, by simp; omega, r, ds ++ [b], rfl, hK.put _, ?_, hqr, by simp; omega, smalls_step hD.out hl6 hsb⟩
      unfold rdS rdr
      rw [show ((t.length - (r.length + 1) : Nat) : Int) + 1 = ((t.length - r.length : Nat) : Int) by omega]
    · have hsm := smalls_end hD.out (.inr (.inr ⟨b, r, rfl, by assumption⟩))
      have hdl : ds.length = 0 := by simp at h; omega
      have hp := pName_bad hsm hdl
      have hsq := hD.out.2.1
      rw [List.eq_nil_of_length_eq_zero hdl, List.nil_append] at hsq
      refine ⟨_, rfl, 0, N, id, by rw [hp]; rfl, Rs.ofX hK, ?_, List.prefix_refl _, by rw [hp]; trivial⟩
      rw [hp]
      exact hR'.out.stepX hK (by rw [hnm]; exact hsq ▸ HO.out) hs (Nat.le_refl _)
    · have hsm := smalls_end hD.out (.inr (.inr ⟨b, r, rfl, by assumption⟩))
      have hdl : ds.length ≠ 0 := by simp at h; omega
      have hp := pName_got hsm hdl
      have hRq := hR'.out.stepX hK (by rw [hnm]; exact HO.out) hq (by first | omega | (simp only [List.length_cons, List.length_nil]; omega))
      have hlN := hR'.out.len
      have HRq : Abs.Hid _ := hRq
      have HD : Abs.Hid _ := hD
      have HP : Abs.Hid _ := hp
      have HK : Abs.Hid _ := hK
      clear hRq hp hK hsm
      refine awp_draw_k follows_mixed (fun _ => True) [10] [0, 1, 2, 3, 4, 5, 6, 7, 8, 9] [10] (by kernel_rfl) (fun _ _ _ h => h) ?_
      intro kont hkont
      simp (maxSteps := 3000000) (disch := (first | omega | (simp only [B1, *]; omega))) only [↓mapA_nil, ↓mapA_cons, B0, gd_true, gd_false, gt_true, gt_false, aRun, Int.reduceToNat, Value.oneCell', awant, aStep, aq, al, aev, aput, upd, dstOk, cst, cst1, acells, flat, behind, aload, apart1, abin, aconv, aint, bnd, lsp, afill, thenQ, blkQ, retQ, ares, aresL, ares1, initS, nxt, aT, aTk, aU, aOne, kep, rdo, objOf, ↓reduceIte, Nat.reduceLT, Nat.reduceEqDiff, reduceCtorEq, Nat.reduceAdd, Nat.reduceMul, Nat.reduceLeDiff, Value.cells, Tryz.underlying3, Tryz.underlying9, telem_9, tfld_81_0, tfld_81_1, tsz_3, tsz_9, *]
      repeat' (first
    | with_reducible apply awp_seq
    | with_reducible apply awp_block
    | ((with_reducible refine awp_region_k ?_); intro kont hkont)
    | ((with_reducible refine hkont.out _ _ ?_); clear hkont kont)
    | ((first | ((with_reducible refine gd_go ?_); refine gd_split (fun h => ?_) (fun h => ?_)) | ((with_reducible refine gt_go ?_); refine gt_split (fun h => ?_) (fun h => ?_)) | ((with_reducible refine cond_go ?_); refine awp_cond_split rfl (fun h => ?_) (fun h => ?_))) <;> (try simp only [upd, ↓reduceIte, Nat.reduceEqDiff] at h) <;> (try simp only [B2] at h) <;> (try simp only [*, reduceCtorEq, decide_true, decide_false] at h) <;> (try (have hari := h; simp only [B3] at hari)) <;> (try (first | contradiction | (exfalso; omega) | (exfalso; simp at h; done))) <;> (try simp only [gd_true, gd_false, gt_true, gt_false]))
    | ((with_reducible refine acalls_go ?_); refine ACalls.mono (place_R' ds ht HRq.out (by first | omega | (simp only [List.length_cons, List.length_nil]; omega)) (by refine suff_cut' hs HD.out.2.1 ?_ ?_ <;> first | omega | (simp only [List.length_cons, List.length_nil, Nat.add_zero]; omega))) ?_; rintro _ _ ⟨id', rfl, hRs, hRS⟩)
    | with_reducible apply awp_skip
    | with_reducible apply awp_exit
    | with_reducible apply awp_ret
    | (simp (maxSteps := 3000000) (disch := (first | omega | (simp only [B1, *]; omega))) only [↓mapA_nil, ↓mapA_cons, B0, gd_true, gd_false, gt_true, gt_false, aRun, Int.reduceToNat, Value.oneCell', awant, aStep, aq, al, aev, aput, upd, dstOk, cst, cst1, acells, flat, behind, aload, apart1, abin, aconv, aint, bnd, lsp, afill, thenQ, blkQ, retQ, ares, aresL, ares1, initS, nxt, aT, aTk, aU, aOne, kep, rdo, objOf, ↓reduceIte, Nat.reduceLT, Nat.reduceEqDiff, reduceCtorEq, Nat.reduceAdd, Nat.reduceMul, Nat.reduceLeDiff, Value.cells, Tryz.underlying3, Tryz.underlying9, telem_9, tfld_81_0, tfld_81_1, tsz_3, tsz_9, *])
    | ((with_reducible refine and_go ?_); refine And.intro (by first | exact kept_refl | exact kept_last rfl | exact kept_keep (by assumption)) ?_)
    | (refine hkont.out _ _ ?_; clear hkont kont))
      refine ⟨_, rfl, _, ins N ds, id', by rw [HP.out]; rfl, (Rs.ofX HK.out).trans hRs, ?_, ins_pre _ _, ?_⟩
      · rw [HP.out]; exact hRS
      · rw [HP.out]; exact ⟨ins_mem _ _, by rw [ins_idx]⟩
    · exfalso; simp at h; omega
    · have hsm := smalls_end hD.out (.inl (by omega))
      have hdl : ds.length ≠ 0 := by simp at h; omega
      have hp := pName_got hsm hdl
      have hRq := hR'.out.stepX hK (by rw [hnm]; exact HO.out) hq (by first | omega | (simp only [List.length_cons, List.length_nil]; omega))
      have hlN := hR'.out.len
      have HRq : Abs.Hid _ := hRq
      have HD : Abs.Hid _ := hD
      have HP : Abs.Hid _ := hp
      have HK : Abs.Hid _ := hK
      clear hRq hp hK hsm
      refine awp_draw_k follows_mixed (fun _ => True) [10] [0, 1, 2, 3, 4, 5, 6, 7, 8, 9] [10] (by kernel_rfl) (fun _ _ _ h => h) ?_
      intro kont hkont
      simp (maxSteps := 3000000) (disch := (first | omega | (simp only [B1, *]; omega))) only [↓mapA_nil, ↓mapA_cons, B0, gd_true, gd_false, gt_true, gt_false, aRun, Int.reduceToNat, Value.oneCell', awant, aStep, aq, al, aev, aput, upd, dstOk, cst, cst1, acells, flat, behind, aload, apart1, abin, aconv, aint, bnd, lsp, afill, thenQ, blkQ, retQ, ares, aresL, ares1, initS, nxt, aT, aTk, aU, aOne, kep, rdo, objOf, ↓reduceIte, Nat.reduceLT, Nat.reduceEqDiff, reduceCtorEq, Nat.reduceAdd, Nat.reduceMul, Nat.reduceLeDiff, Value.cells, Tryz.underlying3, Tryz.underlying9, telem_9, tfld_81_0, tfld_81_1, tsz_3, tsz_9, *]
      repeat' (first
    | with_reducible apply awp_seq
    | with_reducible apply awp_block
    | ((with_reducible refine awp_region_k ?_); intro kont hkont)
    | ((with_reducible refine hkont.out _ _ ?_); clear hkont kont)
    | ((first | ((with_reducible refine gd_go ?_); refine gd_split (fun h => ?_) (fun h => ?_)) | ((with_reducible refine gt_go ?_); refine gt_split (fun h => ?_) (fun h => ?_)) | ((with_reducible refine cond_go ?_); refine awp_cond_split rfl (fun h => ?_) (fun h => ?_))) <;> (try simp only [upd, ↓reduceIte, Nat.reduceEqDiff] at h) <;> (try simp only [B2] at h) <;> (try simp only [*, reduceCtorEq, decide_true, decide_false] at h) <;> (try (have hari := h; simp only [B3] at hari)) <;> (try (first | contradiction | (exfalso; omega) | (exfalso; simp at h; done))) <;> (try simp only [gd_true, gd_false, gt_true, gt_false]))
    | ((with_reducible refine acalls_go ?_); refine ACalls.mono (place_R' ds ht HRq.out (by first | omega | (simp only [List.length_cons, List.length_nil]; omega)) (by refine suff_cut' hs HD.out.2.1 ?_ ?_ <;> first | omega | (simp only [List.length_cons, List.length_nil, Nat.add_zero]; omega))) ?_; rintro _ _ ⟨id', rfl, hRs, hRS⟩)
    | with_reducible apply awp_skip
    | with_reducible apply awp_exit
    | with_reducible apply awp_ret
    | (simp (maxSteps := 3000000) (disch := (first | omega | (simp only [B1, *]; omega))) only [↓mapA_nil, ↓mapA_cons, B0, gd_true, gd_false, gt_true, gt_false, aRun, Int.reduceToNat, Value.oneCell', awant, aStep, aq, al, aev, aput, upd, dstOk, cst, cst1, acells, flat, behind, aload, apart1, abin, aconv, aint, bnd, lsp, afill, thenQ, blkQ, retQ, ares, aresL, ares1, initS, nxt, aT, aTk, aU, aOne, kep, rdo, objOf, ↓reduceIte, Nat.reduceLT, Nat.reduceEqDiff, reduceCtorEq, Nat.reduceAdd, Nat.reduceMul, Nat.reduceLeDiff, Value.cells, Tryz.underlying3, Tryz.underlying9, telem_9, tfld_81_0, tfld_81_1, tsz_3, tsz_9, *])
    | ((with_reducible refine and_go ?_); refine And.intro (by first | exact kept_refl | exact kept_last rfl | exact kept_keep (by assumption)) ?_)
    | (refine hkont.out _ _ ?_; clear hkont kont))
      refine ⟨_, rfl, _, ins N ds, id', by rw [HP.out]; rfl, (Rs.ofX HK.out).trans hRs, ?_, ins_pre _ _, ?_⟩
      · rw [HP.out]; exact hRS
      · rw [HP.out]; exact ⟨ins_mem _ _, by rw [ins_idx]⟩
end Go.Proofs.YtmokifgkfcdldaaGreatDoorY
