import Derived.Test.YtmokifgkfcdldaaGreatDoorYProgP
/- The program: the first rule that hangs on its own not being so. -/
namespace Go.Proofs.YtmokifgkfcdldaaGreatDoorY
open Go.Abs
set_option linter.unusedSimpArgs false
set_option linter.unusedVariables false
set_option maxRecDepth 100000

def pbad (N : List Tx) (U : Nat → Nat → Bool) (h : Tx) (a : RAtom) : Bool := a.nt && (((N.idxOf a.pred : Nat) : Int) == ((N.idxOf h : Nat) : Int) || U (N.idxOf a.pred) (N.idxOf h))
def pknot (N : List Tx) (l : List RItem) (U : Nat → Nat → Bool) (i : Nat) : Bool := match l[i]? with | some x => x.body.any (pbad N U x.head.pred) | none => false

set_option maxHeartbeats 16000000 in
theorem firstNot_spec (N : List Tx) (l : List RItem) (cs : List AV) (idn idi : Nat) (hB : Bk N l cs) (σ : St) : ACalls Tryz.prog 88 [bookA N idn l idi cs] σ fun r σ' => ∃ M, isOnce N l M ∧ r = sc (.int .i64 (firstN (pknot N l (fwR N.length M N.length)) l.length)) ∧ Keep σ σ' := by
  have hcl := EL.length PI_len hB.el
  have hl16 := hB.len
  have hN := hB.nm
  refine acalls 52 [.tmp 2] Tryz.func88 rfl (by decide) rfl rfl (Nat.le_of_ble_eq_true rfl) ?_
  repeat' (first
    | with_reducible apply awp_seq
    | with_reducible apply awp_block
    | ((with_reducible refine awp_region_k ?_); intro kont hkont)
    | ((with_reducible refine hkont.out _ _ ?_); clear hkont kont)
    | ((first | ((with_reducible refine gd_go ?_); refine gd_split (fun h => ?_) (fun h => ?_)) | ((with_reducible refine gt_go ?_); refine gt_split (fun h => ?_) (fun h => ?_)) | ((with_reducible refine cond_go ?_); refine awp_cond_split rfl (fun h => ?_) (fun h => ?_))) <;> (try simp only [upd, ↓reduceIte, Nat.reduceEqDiff] at h) <;> (try simp only [B2] at h) <;> (try simp only [*, reduceCtorEq, decide_true, decide_false] at h) <;> (try (have hari := h; simp only [B3] at hari)) <;> (try (first | contradiction | (exfalso; omega) | (exfalso; simp at h; done))) <;> (try simp only [gd_true, gd_false, gt_true, gt_false]))
    | ((with_reducible refine acalls_go ?_); refine ACalls.mono (puses_spec N l cs idn idi hB _) ?_; rintro _ _ ⟨idu, B, M0, rfl, hK0, hB0, hnb0, hM0, hI0⟩; (rw [new_nobj] at hB0; have kob0 := hK0.obj; have kno0 := hK0.nobj; (try simp only [new_nobj, put_nobj, lay_nobj] at kno0)))
    | with_reducible apply awp_skip
    | with_reducible apply awp_exit
    | with_reducible apply awp_ret
    | (simp (maxSteps := 3000000) (disch := (first | omega | (simp only [B1, *]; omega))) only [↓mapA_nil, ↓mapA_cons, B0, gd_true, gd_false, gt_true, gt_false, aRun, Int.reduceToNat, Value.oneCell', awant, aStep, aq, al, aev, aput, upd, dstOk, cst, cst1, acells, flat, behind, aload, apart1, abin, aconv, aint, bnd, lsp, afill, thenQ, blkQ, retQ, ares, aresL, ares1, initS, nxt, aT, aTk, aU, aOne, kep, rdo, objOf, ↓reduceIte, Nat.reduceLT, Nat.reduceEqDiff, reduceCtorEq, Nat.reduceAdd, Nat.reduceMul, Nat.reduceLeDiff, Value.cells, Tryz.underlying3, Tryz.underlying52, Tryz.underlying97, tarr_194, tarr_196, tarr_52, tarr_97, telem_194, telem_196, telem_52, telem_97, tfld_181_0, tfld_181_1, tfld_54_1, tfld_92_0, tfld_99_1, tfld_99_2, tsz_181, tsz_196, tsz_3, tsz_4, tsz_52, tsz_54, tsz_97, tsz_99, tzero_181, tzero_99, *])
    | ((with_reducible refine and_go ?_); refine And.intro (by first | exact kept_refl | exact kept_last rfl | exact kept_keep (by assumption)) ?_)
    | (refine hkont.out _ _ ?_; clear hkont kont))
  rename_i σ1
  have HI0 : Abs.Hid (isOnce N l M0) := hI0
  clear hI0 kob0
  have hrl := rowsC_len B N.length N.length
  have hKs : Keep σ σ1 := by repeat (first | exact Keep.refl _ | assumption | (refine Keep.put ?_ (by first | omega | (simp only [new_nobj, put_nobj, lay_nobj, *]; omega)) _) | (refine Keep.new ?_ _) | (refine Keep.lay ?_ _) | (refine Keep.trans ?_ (by assumption)))
  clear hK0
  generalize hU : fwR N.length M0 N.length = U at hM0
  have HU : Abs.Hid _ := hU
  clear hU
  refine awp_loop (fun m s σ' => ∃ i : Nat, m = l.length - i ∧ i ≤ l.length ∧ s 3 = sl idu N.length (rowsC B N.length N.length) ∧ s 13 = sl idi l.length cs ∧ s 14 = sc (.int .i64 l.length) ∧ s 15 = sc (.int .i64 i) ∧ Keep σ σ' ∧ B + N.length ≤ σ'.nobj ∧ Abs.Hid (Mat B N.length U σ') ∧ Abs.Hid (∀ j, j < i → pknot N l U j = false)) l.length
    ⟨0, by omega, by omega, by simp [upd], by simp [upd], by simp [upd], rfl, hKs, hnb0, hM0, fun j hj => by omega⟩ ?_
  clear hKs hM0 hnb0 kno0
  rintro m s σ' ⟨i, rfl, hi, h3, h13, h14, h15, hK, hnb, hM, hno⟩
  have kno := hK.nobj
  by_cases hlt : i < l.length
  · have hget := List.getElem?_eq_getElem hlt
    have hf1 := hB.fits l[i] (List.getElem_mem hlt)
    obtain ⟨hm, ih, id, b, r, hb, hd⟩ := EL_PI hB.el hget
    generalize l[i] = x at hd hget hf1 hb hm
    have hv : Abs.Hid (pknot N l U i = x.body.any (pbad N U x.head.pred)) := by rw [Abs.Hid, pknot, hget]
    clear hget
    have hbl := EL.length PL_len hb
    have hx1 := hf1.1
    have hpx := List.idxOf_lt_length_of_mem hm
    repeat' (first
    | with_reducible apply awp_seq
    | with_reducible apply awp_block
    | ((with_reducible refine awp_region_k ?_); intro kont hkont)
    | ((with_reducible refine hkont.out _ _ ?_); clear hkont kont)
    | ((first | ((with_reducible refine gd_go ?_); refine gd_split (fun h => ?_) (fun h => ?_)) | ((with_reducible refine gt_go ?_); refine gt_split (fun h => ?_) (fun h => ?_)) | ((with_reducible refine cond_go ?_); refine awp_cond_split rfl (fun h => ?_) (fun h => ?_))) <;> (try simp only [upd, ↓reduceIte, Nat.reduceEqDiff] at h) <;> (try simp only [B2] at h) <;> (try simp only [*, reduceCtorEq, decide_true, decide_false] at h) <;> (try (have hari := h; simp only [B3] at hari)) <;> (try (first | contradiction | (exfalso; omega) | (exfalso; simp at h; done))) <;> (try simp only [gd_true, gd_false, gt_true, gt_false]))
    | with_reducible apply awp_skip
    | with_reducible apply awp_exit
    | with_reducible apply awp_ret
    | (simp (maxSteps := 3000000) (disch := (first | omega | (simp only [B1, *]; omega))) only [↓mapA_nil, ↓mapA_cons, B0, gd_true, gd_false, gt_true, gt_false, aRun, Int.reduceToNat, Value.oneCell', awant, aStep, aq, al, aev, aput, upd, dstOk, cst, cst1, acells, flat, behind, aload, apart1, abin, aconv, aint, bnd, lsp, afill, thenQ, blkQ, retQ, ares, aresL, ares1, initS, nxt, aT, aTk, aU, aOne, kep, rdo, objOf, ↓reduceIte, Nat.reduceLT, Nat.reduceEqDiff, reduceCtorEq, Nat.reduceAdd, Nat.reduceMul, Nat.reduceLeDiff, Value.cells, Tryz.underlying3, Tryz.underlying52, Tryz.underlying97, tarr_194, tarr_196, tarr_52, tarr_97, telem_194, telem_196, telem_52, telem_97, tfld_181_0, tfld_181_1, tfld_54_1, tfld_92_0, tfld_99_1, tfld_99_2, tsz_181, tsz_196, tsz_3, tsz_4, tsz_52, tsz_54, tsz_97, tsz_99, tzero_181, tzero_99, *])
    | ((with_reducible refine and_go ?_); refine And.intro (by first | exact kept_refl | exact kept_last rfl | exact kept_keep (by assumption)) ?_)
    | (refine hkont.out _ _ ?_; clear hkont kont))
    refine awp_loop (fun m s σ'' => ∃ j : Nat, m = x.body.length - j ∧ j ≤ x.body.length ∧ s 3 = sl idu N.length (rowsC B N.length N.length) ∧ s 4 = sc (.int .i64 i) ∧ s 6 = sc (.int .i64 (N.idxOf x.head.pred : Nat)) ∧ s 13 = sl idi l.length cs ∧ s 14 = sc (.int .i64 l.length) ∧ s 15 = sc (.int .i64 i) ∧ s 24 = sl id x.body.length b ∧ s 25 = sc (.int .i64 x.body.length) ∧ s 26 = sc (.int .i64 j) ∧ Keep σ σ'' ∧ B + N.length ≤ σ''.nobj ∧ Abs.Hid (Mat B N.length U σ'') ∧ Abs.Hid ((x.body.take j).any (pbad N U x.head.pred) = false)) x.body.length
      ⟨0, by omega, by omega, by simp [upd, h3], by simp [upd], by simp [upd], by simp [upd, h13], by simp [upd, h14], by simp [upd, h15], by simp [upd], rfl, rfl, (hK.new _).put hK.nobj _, by simp only [put_nobj, new_nobj]; omega, Mat.put (Mat.new hM.out hnb _) hnb _, by simp [Abs.Hid]⟩ ?_
    clear hK hM hnb h3 h13 h14 h15 kno
    rintro m s σ'' ⟨j, rfl, hj, h3, h4, h6, h13, h14, h15, h24, h25, h26, hK, hnb, hM, hno2⟩
    have kno := hK.nobj
    by_cases hlt2 : j < x.body.length
    · have hget := List.getElem?_eq_getElem hlt2
      obtain ⟨ha, ia, r2, hd2⟩ := EL_PL hb hget
      generalize x.body[j] = a at hd2 hget ha
      have HA : Abs.Hid (x.body[j]? = some a) := hget
      clear hget
      have hpa := List.idxOf_lt_length_of_mem ha
      have hr1 := rowsC_get (B := B) (n := N.length) (k := N.length) hpa
      have hmo := hM.out _ hpa
      have hvl := bvec_len N.length (U (N.idxOf a.pred))
      have hvg := bvec_get (U (N.idxOf a.pred)) hpx
      have hpb : Abs.Hid (pbad N U x.head.pred a = (a.nt && (((N.idxOf a.pred : Nat) : Int) == ((N.idxOf x.head.pred : Nat) : Int) || U (N.idxOf a.pred) (N.idxOf x.head.pred)))) := rfl
      generalize hu : U (N.idxOf a.pred) (N.idxOf x.head.pred) = uu at hvg hpb
      clear hu
      generalize N.idxOf a.pred = pa at hd2 hpa hr1 hmo hvl hvg hpb
      generalize N.idxOf x.head.pred = ph at h6 hvg hpb hpx
      repeat' (first
    | with_reducible apply awp_seq
    | with_reducible apply awp_block
    | ((with_reducible refine awp_region_k ?_); intro kont hkont)
    | ((with_reducible refine hkont.out _ _ ?_); clear hkont kont)
    | ((first | ((with_reducible refine gd_go ?_); refine gd_split (fun h => ?_) (fun h => ?_)) | ((with_reducible refine gt_go ?_); refine gt_split (fun h => ?_) (fun h => ?_)) | ((with_reducible refine cond_go ?_); refine awp_cond_split rfl (fun h => ?_) (fun h => ?_))) <;> (try simp only [upd, ↓reduceIte, Nat.reduceEqDiff] at h) <;> (try simp only [B2] at h) <;> (try simp only [*, reduceCtorEq, decide_true, decide_false] at h) <;> (try (have hari := h; simp only [B3] at hari)) <;> (try (first | contradiction | (exfalso; omega) | (exfalso; simp at h; done))) <;> (try simp only [gd_true, gd_false, gt_true, gt_false]))
    | with_reducible apply awp_skip
    | with_reducible apply awp_exit
    | with_reducible apply awp_ret
    | (simp (maxSteps := 3000000) (disch := (first | omega | (simp only [B1, *]; omega))) only [↓mapA_nil, ↓mapA_cons, B0, gd_true, gd_false, gt_true, gt_false, aRun, Int.reduceToNat, Value.oneCell', awant, aStep, aq, al, aev, aput, upd, dstOk, cst, cst1, acells, flat, behind, aload, apart1, abin, aconv, aint, bnd, lsp, afill, thenQ, blkQ, retQ, ares, aresL, ares1, initS, nxt, aT, aTk, aU, aOne, kep, rdo, objOf, ↓reduceIte, Nat.reduceLT, Nat.reduceEqDiff, reduceCtorEq, Nat.reduceAdd, Nat.reduceMul, Nat.reduceLeDiff, Value.cells, Tryz.underlying3, Tryz.underlying52, Tryz.underlying97, tarr_194, tarr_196, tarr_52, tarr_97, telem_194, telem_196, telem_52, telem_97, tfld_181_0, tfld_181_1, tfld_54_1, tfld_92_0, tfld_99_1, tfld_99_2, tsz_181, tsz_196, tsz_3, tsz_4, tsz_52, tsz_54, tsz_97, tsz_99, tzero_181, tzero_99, *])
    | ((with_reducible refine and_go ?_); refine And.intro (by first | exact kept_refl | exact kept_last rfl | exact kept_keep (by assumption)) ?_)
    | (refine hkont.out _ _ ?_; clear hkont kont))
      all_goals
        first
        | (refine ⟨_, rfl, M0, HI0.out, ?_, (hK.new _).put hK.nobj _⟩
           rw [HU.out, firstN_hit hlt (by rw [hv.out]; exact any_hit _ HA.out (by rw [hpb.out]; simp [*])) hno.out])
        | (refine ⟨x.body.length - (j + 1), by omega, j + 1, rfl, by omega, by simp, (hK.new _).put hK.nobj _, by omega, Mat.put (Mat.new hM.out hnb _) hnb _, ?_⟩
           rw [Abs.Hid, any_take_succ _ HA.out, hno2.out, hpb.out]; simp [*])
    · have hjl : j = x.body.length := by omega
      subst hjl
      rw [List.take_length] at hno2
      repeat' (first
    | with_reducible apply awp_seq
    | with_reducible apply awp_block
    | ((with_reducible refine awp_region_k ?_); intro kont hkont)
    | ((with_reducible refine hkont.out _ _ ?_); clear hkont kont)
    | ((first | ((with_reducible refine gd_go ?_); refine gd_split (fun h => ?_) (fun h => ?_)) | ((with_reducible refine gt_go ?_); refine gt_split (fun h => ?_) (fun h => ?_)) | ((with_reducible refine cond_go ?_); refine awp_cond_split rfl (fun h => ?_) (fun h => ?_))) <;> (try simp only [upd, ↓reduceIte, Nat.reduceEqDiff] at h) <;> (try simp only [B2] at h) <;> (try simp only [*, reduceCtorEq, decide_true, decide_false] at h) <;> (try (have hari := h; simp only [B3] at hari)) <;> (try (first | contradiction | (exfalso; omega) | (exfalso; simp at h; done))) <;> (try simp only [gd_true, gd_false, gt_true, gt_false]))
    | with_reducible apply awp_skip
    | with_reducible apply awp_exit
    | with_reducible apply awp_ret
    | (simp (maxSteps := 3000000) (disch := (first | omega | (simp only [B1, *]; omega))) only [↓mapA_nil, ↓mapA_cons, B0, gd_true, gd_false, gt_true, gt_false, aRun, Int.reduceToNat, Value.oneCell', awant, aStep, aq, al, aev, aput, upd, dstOk, cst, cst1, acells, flat, behind, aload, apart1, abin, aconv, aint, bnd, lsp, afill, thenQ, blkQ, retQ, ares, aresL, ares1, initS, nxt, aT, aTk, aU, aOne, kep, rdo, objOf, ↓reduceIte, Nat.reduceLT, Nat.reduceEqDiff, reduceCtorEq, Nat.reduceAdd, Nat.reduceMul, Nat.reduceLeDiff, Value.cells, Tryz.underlying3, Tryz.underlying52, Tryz.underlying97, tarr_194, tarr_196, tarr_52, tarr_97, telem_194, telem_196, telem_52, telem_97, tfld_181_0, tfld_181_1, tfld_54_1, tfld_92_0, tfld_99_1, tfld_99_2, tsz_181, tsz_196, tsz_3, tsz_4, tsz_52, tsz_54, tsz_97, tsz_99, tzero_181, tzero_99, *])
    | ((with_reducible refine and_go ?_); refine And.intro (by first | exact kept_refl | exact kept_last rfl | exact kept_keep (by assumption)) ?_)
    | (refine hkont.out _ _ ?_; clear hkont kont))
      exact ⟨l.length - (i + 1), by omega, i + 1, rfl, by omega, by simp, no_step hno.out (by rw [hv.out]; exact hno2.out)⟩
  · have hil : i = l.length := by omega
    subst hil
    repeat' (first
    | with_reducible apply awp_seq
    | with_reducible apply awp_block
    | ((with_reducible refine awp_region_k ?_); intro kont hkont)
    | ((with_reducible refine hkont.out _ _ ?_); clear hkont kont)
    | ((first | ((with_reducible refine gd_go ?_); refine gd_split (fun h => ?_) (fun h => ?_)) | ((with_reducible refine gt_go ?_); refine gt_split (fun h => ?_) (fun h => ?_)) | ((with_reducible refine cond_go ?_); refine awp_cond_split rfl (fun h => ?_) (fun h => ?_))) <;> (try simp only [upd, ↓reduceIte, Nat.reduceEqDiff] at h) <;> (try simp only [B2] at h) <;> (try simp only [*, reduceCtorEq, decide_true, decide_false] at h) <;> (try (have hari := h; simp only [B3] at hari)) <;> (try (first | contradiction | (exfalso; omega) | (exfalso; simp at h; done))) <;> (try simp only [gd_true, gd_false, gt_true, gt_false]))
    | with_reducible apply awp_skip
    | with_reducible apply awp_exit
    | with_reducible apply awp_ret
    | (simp (maxSteps := 3000000) (disch := (first | omega | (simp only [B1, *]; omega))) only [↓mapA_nil, ↓mapA_cons, B0, gd_true, gd_false, gt_true, gt_false, aRun, Int.reduceToNat, Value.oneCell', awant, aStep, aq, al, aev, aput, upd, dstOk, cst, cst1, acells, flat, behind, aload, apart1, abin, aconv, aint, bnd, lsp, afill, thenQ, blkQ, retQ, ares, aresL, ares1, initS, nxt, aT, aTk, aU, aOne, kep, rdo, objOf, ↓reduceIte, Nat.reduceLT, Nat.reduceEqDiff, reduceCtorEq, Nat.reduceAdd, Nat.reduceMul, Nat.reduceLeDiff, Value.cells, Tryz.underlying3, Tryz.underlying52, Tryz.underlying97, tarr_194, tarr_196, tarr_52, tarr_97, telem_194, telem_196, telem_52, telem_97, tfld_181_0, tfld_181_1, tfld_54_1, tfld_92_0, tfld_99_1, tfld_99_2, tsz_181, tsz_196, tsz_3, tsz_4, tsz_52, tsz_54, tsz_97, tsz_99, tzero_181, tzero_99, *])
    | ((with_reducible refine and_go ?_); refine And.intro (by first | exact kept_refl | exact kept_last rfl | exact kept_keep (by assumption)) ?_)
    | (refine hkont.out _ _ ?_; clear hkont kont))
    first
    | exact ⟨_, rfl, M0, HI0.out, by rw [HU.out, firstN_none hno.out], hK⟩
    | exact ⟨_, rfl, M0, HI0.out, by rw [HU.out, firstN_none hno.out]⟩
end Go.Proofs.YtmokifgkfcdldaaGreatDoorY
