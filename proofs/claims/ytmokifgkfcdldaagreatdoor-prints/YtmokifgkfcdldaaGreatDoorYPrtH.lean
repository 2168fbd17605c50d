import Derived.Test.YtmokifgkfcdldaaGreatDoorYPrtG
/- The program: texts of items. -/
namespace Go.Proofs.YtmokifgkfcdldaaGreatDoorY
open Go.Abs
set_option linter.unusedSimpArgs false
set_option linter.unusedVariables false
set_option maxRecDepth 100000

/-- an atom that can be written -/
def WA (N l : List Tx) (a : RAtom) : Prop := a.pred ∈ N ∧ 0 < a.terms.length ∧ a.terms.length ≤ 1000 ∧ a.pred.length ≤ 1000 ∧ WT l a
def prA (l : List Tx) (a : RAtom) : Tx := a.pred ++ wrTs l 0 a.terms ++ [41]
theorem prA_len {N l : List Tx} {a : RAtom} (h : WA N l a) : (prA l a).length ≤ 1003000 := by
  obtain ⟨h1, h2, h3, h4, h5⟩ := h
  have := wrTs_len l a.terms 0 fun t ht => (h5 t ht).2.1
  simp only [prA, List.length_append, List.length_singleton]
  omega
def prN (a : RAtom) : Tx := if a.nt = true then [33] else []
theorem writeL_prA (l : List Tx) (a : RAtom) : writeL l a = prN a ++ prA l a := by simp [writeL, prN, prA]
set_option maxHeartbeats 16000000 in
theorem itext_spec (N l : List Tx) (idn : Nat) (x : RItem) (c : List AV) (hc : RI N l x c) (hN : N.length ≤ 2000) (hm : x.head.pred ∈ N) (hpl : x.head.pred.length ≤ 1000) (hb5 : x.body.length ≤ 5) (hh : x.out = false → x.head.nt = false ∧ WA N l x.head) (hb : ∀ a ∈ x.body, WA N l a) (σ : St) :
    ACalls Tryz.prog 150 [ag c, sl idn N.length (N.map str)] σ fun r σ' => r = str (if x.out = true then 63 :: x.head.pred ++ [46] else writeL l x.head ++ wrBs l 0 x.body ++ [46]) ∧ Keep σ σ' := by
  obtain ⟨ih, id, b, hbE, rfl⟩ := hc
  have hbl := EL.length RL_len hbE
  have h63 : ({ data := #[63] } : ByteArray) = bs [63] := rfl
  have h46 : ({ data := #[46] } : ByteArray) = bs [46] := rfl
  have h44 : ({ data := #[44] } : ByteArray) = bs [44] := rfl
  have h33 : ({ data := #[33] } : ByteArray) = bs [33] := rfl
  have h58 : ({ data := #[58, 45] } : ByteArray) = bs [58, 45] := rfl
  cases ho : x.out with
  | true =>
    have hix := List.idxOf_lt_length_of_mem hm
    have hge : (N.map str).drop (N.idxOf x.head.pred) = str x.head.pred :: (N.map str).drop (N.idxOf x.head.pred + 1) := by
      have := map_str_get hix
      rwa [List.getElem_idxOf hix] at this
    generalize N.idxOf x.head.pred = ix at hix hge
    clear hh hb
    refine acalls 49 [.tmp 4] Tryz.func150 rfl (by decide) rfl rfl (Nat.le_of_ble_eq_true rfl) ?_
    repeat' (first
    | with_reducible apply awp_seq
    | with_reducible apply awp_block
    | ((with_reducible refine awp_region_k ?_); intro kont hkont)
    | ((with_reducible refine hkont.out _ _ ?_); clear hkont kont)
    | ((first | ((with_reducible refine gd_go ?_); refine gd_split (fun h => ?_) (fun h => ?_)) | ((with_reducible refine gt_go ?_); refine gt_split (fun h => ?_) (fun h => ?_)) | ((with_reducible refine cond_go ?_); refine awp_cond_split rfl (fun h => ?_) (fun h => ?_))) <;> (try simp only [upd, ↓reduceIte, Nat.reduceEqDiff] at h) <;> (try simp only [B2] at h) <;> (try simp only [*, reduceCtorEq, decide_true, decide_false] at h) <;> (try (have hari := h; simp only [B3] at hari)) <;> (try (first | contradiction | (exfalso; omega) | (exfalso; simp at h; done))) <;> (try simp only [gd_true, gd_false, gt_true, gt_false]))
    | with_reducible apply awp_skip
    | with_reducible apply awp_exit
    | with_reducible apply awp_ret
    | (simp (maxSteps := 3000000) (disch := (first | omega | (simp only [List.length_append, B1, *]; omega))) only [↓mapA_nil, ↓mapA_cons, List.length_append, B0, gd_true, gd_false, gt_true, gt_false, aRun, Int.reduceToNat, Value.oneCell', awant, aStep, aq, al, aev, aput, upd, dstOk, cst, cst1, acells, flat, behind, aload, apart1, abin, aconv, aint, bnd, lsp, afill, thenQ, blkQ, retQ, ares, aresL, ares1, initS, nxt, aT, aTk, aU, aOne, kep, rdo, objOf, ↓reduceIte, Nat.reduceLT, Nat.reduceEqDiff, reduceCtorEq, Nat.reduceAdd, Nat.reduceMul, Nat.reduceLeDiff, Value.cells, Tryz.underlying3, Tryz.underlying9, Tryz.underlying97, tarr_37, tarr_97, telem_37, telem_97, tfld_181_0, tfld_181_1, tfld_92_0, tfld_99_0, tfld_99_1, tfld_99_2, tsz_181, tsz_3, tsz_4, tsz_9, tsz_92, tsz_97, tzero_181, *])
    | ((with_reducible refine and_go ?_); refine And.intro (by first | exact kept_refl | exact kept_last rfl | exact kept_keep (by assumption)) ?_)
    | (refine hkont.out _ _ ?_; clear hkont kont))
    exact ⟨_, rfl, by simp, by repeat (first | exact Keep.refl _ | assumption | (refine Keep.put ?_ (by first | omega | (simp only [new_nobj, put_nobj, lay_nobj, *]; omega)) _) | (refine Keep.new ?_ _) | (refine Keep.lay ?_ _) | (refine Keep.trans ?_ (by assumption)))⟩
  | false =>
    obtain ⟨hnt, hwh⟩ := hh ho
    have hhl := prA_len hwh
    have hAh := fun σ => atext_spec N l idn ih x.head hwh.1 hN hwh.2.1 hwh.2.2.1 hwh.2.2.2.1 hwh.2.2.2.2 σ
    have hwl : Abs.Hid (writeL l x.head = prA l x.head) := by rw [Abs.Hid, writeL_prA, prN, hnt]; simp
    have hAh : ∀ σ, ACalls Tryz.prog 190 [ag [sc (.int .i64 (N.idxOf x.head.pred : Nat)), sl ih x.head.terms.length (rcells l x.head.terms)], sl idn N.length (N.map str)] σ fun r σ' => r = str (prA l x.head) ∧ Keep σ σ' := hAh
    generalize prA l x.head = hd0 at hhl hAh hwl
    clear hh hwh hm hnt
    rw [if_neg (by simp), hwl.out]
    refine acalls 49 [.tmp 4] Tryz.func150 rfl (by decide) rfl rfl (Nat.le_of_ble_eq_true rfl) ?_
    repeat' (first
    | with_reducible apply awp_seq
    | with_reducible apply awp_block
    | ((with_reducible refine awp_region_k ?_); intro kont hkont)
    | ((with_reducible refine hkont.out _ _ ?_); clear hkont kont)
    | ((first | ((with_reducible refine gd_go ?_); refine gd_split (fun h => ?_) (fun h => ?_)) | ((with_reducible refine gt_go ?_); refine gt_split (fun h => ?_) (fun h => ?_)) | ((with_reducible refine cond_go ?_); refine awp_cond_split rfl (fun h => ?_) (fun h => ?_))) <;> (try simp only [upd, ↓reduceIte, Nat.reduceEqDiff] at h) <;> (try simp only [B2] at h) <;> (try simp only [*, reduceCtorEq, decide_true, decide_false] at h) <;> (try (have hari := h; simp only [B3] at hari)) <;> (try (first | contradiction | (exfalso; omega) | (exfalso; simp at h; done))) <;> (try simp only [gd_true, gd_false, gt_true, gt_false]))
    | ((with_reducible refine acalls_go ?_); refine ACalls.mono (hAh _) ?_; rintro _ _ ⟨rfl, hK1⟩; (have kob1 := hK1.obj; have kno1 := hK1.nobj; simp only [new_nobj] at kno1))
    | with_reducible apply awp_skip
    | with_reducible apply awp_exit
    | with_reducible apply awp_ret
    | (simp (maxSteps := 3000000) (disch := (first | omega | (simp only [List.length_append, B1, *]; omega))) only [↓mapA_nil, ↓mapA_cons, List.length_append, B0, gd_true, gd_false, gt_true, gt_false, aRun, Int.reduceToNat, Value.oneCell', awant, aStep, aq, al, aev, aput, upd, dstOk, cst, cst1, acells, flat, behind, aload, apart1, abin, aconv, aint, bnd, lsp, afill, thenQ, blkQ, retQ, ares, aresL, ares1, initS, nxt, aT, aTk, aU, aOne, kep, rdo, objOf, ↓reduceIte, Nat.reduceLT, Nat.reduceEqDiff, reduceCtorEq, Nat.reduceAdd, Nat.reduceMul, Nat.reduceLeDiff, Value.cells, Tryz.underlying3, Tryz.underlying9, Tryz.underlying97, tarr_37, tarr_97, telem_37, telem_97, tfld_181_0, tfld_181_1, tfld_92_0, tfld_99_0, tfld_99_1, tfld_99_2, tsz_181, tsz_3, tsz_4, tsz_9, tsz_92, tsz_97, tzero_181, *])
    | ((with_reducible refine and_go ?_); refine And.intro (by first | exact kept_refl | exact kept_last rfl | exact kept_keep (by assumption)) ?_)
    | (refine hkont.out _ _ ?_; clear hkont kont))
    rename_i σ1
    refine awp_loop (fun m s σ' => ∃ (j : Nat) (acc : Tx), m = x.body.length - j ∧ j ≤ x.body.length ∧ s 1 = sl idn N.length (N.map str) ∧ s 5 = str acc ∧ s 23 = sl id x.body.length b ∧ s 24 = sc (.int .i64 x.body.length) ∧ s 25 = sc (.int .i64 j) ∧ Keep σ σ' ∧ acc.length ≤ 1003000 + j * 1003010 ∧ Abs.Hid (acc = hd0 ++ wrBs l 0 (x.body.take j))) x.body.length
      ⟨0, hd0, by omega, by omega, by simp [upd, initS], by simp [upd], by simp [upd], by simp [upd], rfl, by repeat (first | exact Keep.refl _ | assumption | (refine Keep.put ?_ (by first | omega | (simp only [new_nobj, put_nobj, lay_nobj, *]; omega)) _) | (refine Keep.new ?_ _) | (refine Keep.lay ?_ _) | (refine Keep.trans ?_ (by assumption))), by omega, by simp [Abs.Hid, wrBs]⟩ ?_
    clear hK1 kob1 kno1
    rintro m s σ' ⟨j, acc, rfl, hj, h1, h5, h23, h24, h25, hK, hal, hA⟩
    have kno := hK.nobj
    by_cases hlt : j < x.body.length
    · have hget := List.getElem?_eq_getElem hlt
      have hwa := hb x.body[j] (List.getElem_mem hlt)
      obtain ⟨ia, r, hd⟩ := EL_RL hbE hget
      have hst : Abs.Hid (hd0 ++ wrBs l 0 (x.body.take (j + 1)) = acc ++ (wrB j ++ (prN x.body[j] ++ prA l x.body[j]))) := by
        rw [Abs.Hid, List.take_add_one, hget, Option.toList_some, wrBs_snoc, writeL_prA, hA.out, List.length_take, Nat.min_eq_left (by omega), Nat.zero_add, List.append_assoc]
      have hwl := prA_len hwa
      have hAa : ∀ σ, ACalls Tryz.prog 190 [ag [sc (.int .i64 (N.idxOf x.body[j].pred : Nat)), sl ia x.body[j].terms.length (rcells l x.body[j].terms)], sl idn N.length (N.map str)] σ fun r σ' => r = str (prA l x.body[j]) ∧ Keep σ σ' := fun σ => atext_spec N l idn ia x.body[j] hwa.1 hN hwa.2.1 hwa.2.2.1 hwa.2.2.2.1 hwa.2.2.2.2 σ
      have hpN : Abs.Hid (prN x.body[j] = if x.body[j].nt = true then [33] else []) := rfl
      clear hget hwa
      generalize x.body[j] = a at hd hst hwl hAa hpN
      generalize prA l a = wa at hst hwl hAa
      cases hnt : a.nt with
      | true =>
        rw [hnt] at hd
        have hst : Abs.Hid (hd0 ++ wrBs l 0 (x.body.take (j + 1)) = acc ++ (wrB j ++ ([33] ++ wa))) := by rw [Abs.Hid, hst.out, hpN.out, if_pos hnt]
        clear hpN
        by_cases hj0 : j = 0
        · have hjb : ((j : Int) == 0) = true := by simp [hj0]
          have hst : Abs.Hid (hd0 ++ wrBs l 0 (x.body.take (j + 1)) = acc ++ ([58, 45] ++ ([33] ++ wa))) := by rw [Abs.Hid, hst.out, wrB, if_pos hj0]
          clear hj0
          repeat' (first
    | with_reducible apply awp_seq
    | with_reducible apply awp_block
    | ((with_reducible refine awp_region_k ?_); intro kont hkont)
    | ((with_reducible refine hkont.out _ _ ?_); clear hkont kont)
    | ((first | ((with_reducible refine gd_go ?_); refine gd_split (fun h => ?_) (fun h => ?_)) | ((with_reducible refine gt_go ?_); refine gt_split (fun h => ?_) (fun h => ?_)) | ((with_reducible refine cond_go ?_); refine awp_cond_split rfl (fun h => ?_) (fun h => ?_))) <;> (try simp only [upd, ↓reduceIte, Nat.reduceEqDiff] at h) <;> (try simp only [B2] at h) <;> (try simp only [*, reduceCtorEq, decide_true, decide_false] at h) <;> (try (have hari := h; simp only [B3] at hari)) <;> (try (first | contradiction | (exfalso; omega) | (exfalso; simp at h; done))) <;> (try simp only [gd_true, gd_false, gt_true, gt_false]))
    | ((with_reducible refine acalls_go ?_); refine ACalls.mono (hAa _) ?_; rintro _ _ ⟨rfl, hK2⟩; (have kob2 := hK2.obj; have kno2 := hK2.nobj))
    | with_reducible apply awp_skip
    | with_reducible apply awp_exit
    | with_reducible apply awp_ret
    | (simp (maxSteps := 3000000) (disch := (first | omega | (simp only [List.length_append, B1, *]; omega))) only [↓mapA_nil, ↓mapA_cons, List.length_append, B0, gd_true, gd_false, gt_true, gt_false, aRun, Int.reduceToNat, Value.oneCell', awant, aStep, aq, al, aev, aput, upd, dstOk, cst, cst1, acells, flat, behind, aload, apart1, abin, aconv, aint, bnd, lsp, afill, thenQ, blkQ, retQ, ares, aresL, ares1, initS, nxt, aT, aTk, aU, aOne, kep, rdo, objOf, ↓reduceIte, Nat.reduceLT, Nat.reduceEqDiff, reduceCtorEq, Nat.reduceAdd, Nat.reduceMul, Nat.reduceLeDiff, Value.cells, Tryz.underlying3, Tryz.underlying9, Tryz.underlying97, tarr_37, tarr_97, telem_37, telem_97, tfld_181_0, tfld_181_1, tfld_92_0, tfld_99_0, tfld_99_1, tfld_99_2, tsz_181, tsz_3, tsz_4, tsz_9, tsz_92, tsz_97, tzero_181, *])
    | ((with_reducible refine and_go ?_); refine And.intro (by first | exact kept_refl | exact kept_last rfl | exact kept_keep (by assumption)) ?_)
    | (refine hkont.out _ _ ?_; clear hkont kont))
          exact ⟨x.body.length - (j + 1), by omega, j + 1, acc ++ ([58, 45] ++ ([33] ++ wa)), rfl, by omega, by simp, by simp, ((hK.new _).put hK.nobj _).trans hK2, by simp; omega, by rw [Abs.Hid, hst.out]⟩
        · have hjb : ((j : Int) == 0) = false := by simp; omega
          have hst : Abs.Hid (hd0 ++ wrBs l 0 (x.body.take (j + 1)) = acc ++ ([44] ++ ([33] ++ wa))) := by rw [Abs.Hid, hst.out, wrB, if_neg hj0]
          clear hj0
          repeat' (first
    | with_reducible apply awp_seq
    | with_reducible apply awp_block
    | ((with_reducible refine awp_region_k ?_); intro kont hkont)
    | ((with_reducible refine hkont.out _ _ ?_); clear hkont kont)
    | ((first | ((with_reducible refine gd_go ?_); refine gd_split (fun h => ?_) (fun h => ?_)) | ((with_reducible refine gt_go ?_); refine gt_split (fun h => ?_) (fun h => ?_)) | ((with_reducible refine cond_go ?_); refine awp_cond_split rfl (fun h => ?_) (fun h => ?_))) <;> (try simp only [upd, ↓reduceIte, Nat.reduceEqDiff] at h) <;> (try simp only [B2] at h) <;> (try simp only [*, reduceCtorEq, decide_true, decide_false] at h) <;> (try (have hari := h; simp only [B3] at hari)) <;> (try (first | contradiction | (exfalso; omega) | (exfalso; simp at h; done))) <;> (try simp only [gd_true, gd_false, gt_true, gt_false]))
    | ((with_reducible refine acalls_go ?_); refine ACalls.mono (hAa _) ?_; rintro _ _ ⟨rfl, hK2⟩; (have kob2 := hK2.obj; have kno2 := hK2.nobj))
    | with_reducible apply awp_skip
    | with_reducible apply awp_exit
    | with_reducible apply awp_ret
    | (simp (maxSteps := 3000000) (disch := (first | omega | (simp only [List.length_append, B1, *]; omega))) only [↓mapA_nil, ↓mapA_cons, List.length_append, B0, gd_true, gd_false, gt_true, gt_false, aRun, Int.reduceToNat, Value.oneCell', awant, aStep, aq, al, aev, aput, upd, dstOk, cst, cst1, acells, flat, behind, aload, apart1, abin, aconv, aint, bnd, lsp, afill, thenQ, blkQ, retQ, ares, aresL, ares1, initS, nxt, aT, aTk, aU, aOne, kep, rdo, objOf, ↓reduceIte, Nat.reduceLT, Nat.reduceEqDiff, reduceCtorEq, Nat.reduceAdd, Nat.reduceMul, Nat.reduceLeDiff, Value.cells, Tryz.underlying3, Tryz.underlying9, Tryz.underlying97, tarr_37, tarr_97, telem_37, telem_97, tfld_181_0, tfld_181_1, tfld_92_0, tfld_99_0, tfld_99_1, tfld_99_2, tsz_181, tsz_3, tsz_4, tsz_9, tsz_92, tsz_97, tzero_181, *])
    | ((with_reducible refine and_go ?_); refine And.intro (by first | exact kept_refl | exact kept_last rfl | exact kept_keep (by assumption)) ?_)
    | (refine hkont.out _ _ ?_; clear hkont kont))
          exact ⟨x.body.length - (j + 1), by omega, j + 1, acc ++ ([44] ++ ([33] ++ wa)), rfl, by omega, by simp, by simp, ((hK.new _).put hK.nobj _).trans hK2, by simp; omega, by rw [Abs.Hid, hst.out]⟩
      | false =>
        rw [hnt] at hd
        have hst : Abs.Hid (hd0 ++ wrBs l 0 (x.body.take (j + 1)) = acc ++ (wrB j ++ ([] ++ wa))) := by rw [Abs.Hid, hst.out, hpN.out, if_neg (by rw [hnt]; simp)]
        clear hpN
        by_cases hj0 : j = 0
        · have hjb : ((j : Int) == 0) = true := by simp [hj0]
          have hst : Abs.Hid (hd0 ++ wrBs l 0 (x.body.take (j + 1)) = acc ++ ([58, 45] ++ ([] ++ wa))) := by rw [Abs.Hid, hst.out, wrB, if_pos hj0]
          clear hj0
          repeat' (first
    | with_reducible apply awp_seq
    | with_reducible apply awp_block
    | ((with_reducible refine awp_region_k ?_); intro kont hkont)
    | ((with_reducible refine hkont.out _ _ ?_); clear hkont kont)
    | ((first | ((with_reducible refine gd_go ?_); refine gd_split (fun h => ?_) (fun h => ?_)) | ((with_reducible refine gt_go ?_); refine gt_split (fun h => ?_) (fun h => ?_)) | ((with_reducible refine cond_go ?_); refine awp_cond_split rfl (fun h => ?_) (fun h => ?_))) <;> (try simp only [upd, ↓reduceIte, Nat.reduceEqDiff] at h) <;> (try simp only [B2] at h) <;> (try simp only [*, reduceCtorEq, decide_true, decide_false] at h) <;> (try (have hari := h; simp only [B3] at hari)) <;> (try (first | contradiction | (exfalso; omega) | (exfalso; simp at h; done))) <;> (try simp only [gd_true, gd_false, gt_true, gt_false]))
    | ((with_reducible refine acalls_go ?_); refine ACalls.mono (hAa _) ?_; rintro _ _ ⟨rfl, hK2⟩; (have kob2 := hK2.obj; have kno2 := hK2.nobj))
    | with_reducible apply awp_skip
    | with_reducible apply awp_exit
    | with_reducible apply awp_ret
    | (simp (maxSteps := 3000000) (disch := (first | omega | (simp only [List.length_append, B1, *]; omega))) only [↓mapA_nil, ↓mapA_cons, List.length_append, B0, gd_true, gd_false, gt_true, gt_false, aRun, Int.reduceToNat, Value.oneCell', awant, aStep, aq, al, aev, aput, upd, dstOk, cst, cst1, acells, flat, behind, aload, apart1, abin, aconv, aint, bnd, lsp, afill, thenQ, blkQ, retQ, ares, aresL, ares1, initS, nxt, aT, aTk, aU, aOne, kep, rdo, objOf, ↓reduceIte, Nat.reduceLT, Nat.reduceEqDiff, reduceCtorEq, Nat.reduceAdd, Nat.reduceMul, Nat.reduceLeDiff, Value.cells, Tryz.underlying3, Tryz.underlying9, Tryz.underlying97, tarr_37, tarr_97, telem_37, telem_97, tfld_181_0, tfld_181_1, tfld_92_0, tfld_99_0, tfld_99_1, tfld_99_2, tsz_181, tsz_3, tsz_4, tsz_9, tsz_92, tsz_97, tzero_181, *])
    | ((with_reducible refine and_go ?_); refine And.intro (by first | exact kept_refl | exact kept_last rfl | exact kept_keep (by assumption)) ?_)
    | (refine hkont.out _ _ ?_; clear hkont kont))
          exact ⟨x.body.length - (j + 1), by omega, j + 1, acc ++ ([58, 45] ++ ([] ++ wa)), rfl, by omega, by simp, by simp, ((hK.new _).put hK.nobj _).trans hK2, by simp; omega, by rw [Abs.Hid, hst.out]⟩
        · have hjb : ((j : Int) == 0) = false := by simp; omega
          have hst : Abs.Hid (hd0 ++ wrBs l 0 (x.body.take (j + 1)) = acc ++ ([44] ++ ([] ++ wa))) := by rw [Abs.Hid, hst.out, wrB, if_neg hj0]
          clear hj0
          repeat' (first
    | with_reducible apply awp_seq
    | with_reducible apply awp_block
    | ((with_reducible refine awp_region_k ?_); intro kont hkont)
    | ((with_reducible refine hkont.out _ _ ?_); clear hkont kont)
    | ((first | ((with_reducible refine gd_go ?_); refine gd_split (fun h => ?_) (fun h => ?_)) | ((with_reducible refine gt_go ?_); refine gt_split (fun h => ?_) (fun h => ?_)) | ((with_reducible refine cond_go ?_); refine awp_cond_split rfl (fun h => ?_) (fun h => ?_))) <;> (try simp only [upd, ↓reduceIte, Nat.reduceEqDiff] at h) <;> (try simp only [B2] at h) <;> (try simp only [*, reduceCtorEq, decide_true, decide_false] at h) <;> (try (have hari := h; simp only [B3] at hari)) <;> (try (first | contradiction | (exfalso; omega) | (exfalso; simp at h; done))) <;> (try simp only [gd_true, gd_false, gt_true, gt_false]))
    | ((with_reducible refine acalls_go ?_); refine ACalls.mono (hAa _) ?_; rintro _ _ ⟨rfl, hK2⟩; (have kob2 := hK2.obj; have kno2 := hK2.nobj))
    | with_reducible apply awp_skip
    | with_reducible apply awp_exit
    | with_reducible apply awp_ret
    | (simp (maxSteps := 3000000) (disch := (first | omega | (simp only [List.length_append, B1, *]; omega))) only [↓mapA_nil, ↓mapA_cons, List.length_append, B0, gd_true, gd_false, gt_true, gt_false, aRun, Int.reduceToNat, Value.oneCell', awant, aStep, aq, al, aev, aput, upd, dstOk, cst, cst1, acells, flat, behind, aload, apart1, abin, aconv, aint, bnd, lsp, afill, thenQ, blkQ, retQ, ares, aresL, ares1, initS, nxt, aT, aTk, aU, aOne, kep, rdo, objOf, ↓reduceIte, Nat.reduceLT, Nat.reduceEqDiff, reduceCtorEq, Nat.reduceAdd, Nat.reduceMul, Nat.reduceLeDiff, Value.cells, Tryz.underlying3, Tryz.underlying9, Tryz.underlying97, tarr_37, tarr_97, telem_37, telem_97, tfld_181_0, tfld_181_1, tfld_92_0, tfld_99_0, tfld_99_1, tfld_99_2, tsz_181, tsz_3, tsz_4, tsz_9, tsz_92, tsz_97, tzero_181, *])
    | ((with_reducible refine and_go ?_); refine And.intro (by first | exact kept_refl | exact kept_last rfl | exact kept_keep (by assumption)) ?_)
    | (refine hkont.out _ _ ?_; clear hkont kont))
          exact ⟨x.body.length - (j + 1), by omega, j + 1, acc ++ ([44] ++ ([] ++ wa)), rfl, by omega, by simp, by simp, ((hK.new _).put hK.nobj _).trans hK2, by simp; omega, by rw [Abs.Hid, hst.out]⟩
    · have hjl : j = x.body.length := by omega
      subst hjl
      rw [List.take_length] at hA
      repeat' (first
    | with_reducible apply awp_seq
    | with_reducible apply awp_block
    | ((with_reducible refine awp_region_k ?_); intro kont hkont)
    | ((with_reducible refine hkont.out _ _ ?_); clear hkont kont)
    | ((first | ((with_reducible refine gd_go ?_); refine gd_split (fun h => ?_) (fun h => ?_)) | ((with_reducible refine gt_go ?_); refine gt_split (fun h => ?_) (fun h => ?_)) | ((with_reducible refine cond_go ?_); refine awp_cond_split rfl (fun h => ?_) (fun h => ?_))) <;> (try simp only [upd, ↓reduceIte, Nat.reduceEqDiff] at h) <;> (try simp only [B2] at h) <;> (try simp only [*, reduceCtorEq, decide_true, decide_false] at h) <;> (try (have hari := h; simp only [B3] at hari)) <;> (try (first | contradiction | (exfalso; omega) | (exfalso; simp at h; done))) <;> (try simp only [gd_true, gd_false, gt_true, gt_false]))
    | with_reducible apply awp_skip
    | with_reducible apply awp_exit
    | with_reducible apply awp_ret
    | (simp (maxSteps := 3000000) (disch := (first | omega | (simp only [List.length_append, B1, *]; omega))) only [↓mapA_nil, ↓mapA_cons, List.length_append, B0, gd_true, gd_false, gt_true, gt_false, aRun, Int.reduceToNat, Value.oneCell', awant, aStep, aq, al, aev, aput, upd, dstOk, cst, cst1, acells, flat, behind, aload, apart1, abin, aconv, aint, bnd, lsp, afill, thenQ, blkQ, retQ, ares, aresL, ares1, initS, nxt, aT, aTk, aU, aOne, kep, rdo, objOf, ↓reduceIte, Nat.reduceLT, Nat.reduceEqDiff, reduceCtorEq, Nat.reduceAdd, Nat.reduceMul, Nat.reduceLeDiff, Value.cells, Tryz.underlying3, Tryz.underlying9, Tryz.underlying97, tarr_37, tarr_97, telem_37, telem_97, tfld_181_0, tfld_181_1, tfld_92_0, tfld_99_0, tfld_99_1, tfld_99_2, tsz_181, tsz_3, tsz_4, tsz_9, tsz_92, tsz_97, tzero_181, *])
    | ((with_reducible refine and_go ?_); refine And.intro (by first | exact kept_refl | exact kept_last rfl | exact kept_keep (by assumption)) ?_)
    | (refine hkont.out _ _ ?_; clear hkont kont))
      first
      | exact ⟨_, rfl, by rw [hA.out], hK⟩
      | exact ⟨_, rfl, by rw [hA.out]⟩
end Go.Proofs.YtmokifgkfcdldaaGreatDoorY
/- The program: Print. -/
namespace Go.Proofs.YtmokifgkfcdldaaGreatDoorY
open Go.Abs
set_option linter.unusedSimpArgs false
set_option linter.unusedVariables false
set_option maxRecDepth 100000

/-- an item that can be written -/
structure WI (N : List Tx) (x : RItem) : Prop where
  fits : x.fits
  short : x.short
  va : ∀ a ∈ atomsL x, VA a
  vh : VA x.head
  vb : ∀ a ∈ x.body, VA a
  mem : x.head.pred ∈ N
  body : x.body.length ≤ 5
  out : x.out = true → x.body = []
  head : x.out = false → x.head.nt = false ∧ WA N (ordL x) x.head
  wa : ∀ a ∈ x.body, WA N (ordL x) a
set_option maxHeartbeats 16000000 in
theorem btext_spec (N : List Tx) (l : List RItem) (cs : List AV) (idn idi : Nat) (hB : Bk N l cs) (hW : ∀ x ∈ l, WI N x) (σ : St) : ACalls Tryz.prog 104 [bookA N idn l idi cs] σ fun r σ' => r = str (wholeL l) ∧ Keep σ σ' := by
  have hcl := EL.length PI_len hB.el
  have hl16 := hB.len
  have hN := hB.nm
  have hE := hB.el
  refine acalls 24 [.tmp 2] Tryz.func104 rfl (by decide) rfl rfl (Nat.le_of_ble_eq_true rfl) ?_
  repeat' (first
    | with_reducible apply awp_seq
    | with_reducible apply awp_block
    | ((with_reducible refine awp_region_k ?_); intro kont hkont)
    | ((with_reducible refine hkont.out _ _ ?_); clear hkont kont)
    | ((first | ((with_reducible refine gd_go ?_); refine gd_split (fun h => ?_) (fun h => ?_)) | ((with_reducible refine gt_go ?_); refine gt_split (fun h => ?_) (fun h => ?_)) | ((with_reducible refine cond_go ?_); refine awp_cond_split rfl (fun h => ?_) (fun h => ?_))) <;> (try simp only [upd, ↓reduceIte, Nat.reduceEqDiff] at h) <;> (try simp only [B2] at h) <;> (try simp only [*, reduceCtorEq, decide_true, decide_false] at h) <;> (try (have hari := h; simp only [B3] at hari)) <;> (try (first | contradiction | (exfalso; omega) | (exfalso; simp at h; done))) <;> (try simp only [gd_true, gd_false, gt_true, gt_false]))
    | with_reducible apply awp_skip
    | with_reducible apply awp_exit
    | with_reducible apply awp_ret
    | (simp (maxSteps := 3000000) (disch := (first | omega | (simp only [List.length_append, B1, *]; omega))) only [↓mapA_nil, ↓mapA_cons, List.length_append, B0, gd_true, gd_false, gt_true, gt_false, aRun, Int.reduceToNat, Value.oneCell', awant, aStep, aq, al, aev, aput, upd, dstOk, cst, cst1, acells, flat, behind, aload, apart1, abin, aconv, aint, bnd, lsp, afill, thenQ, blkQ, retQ, ares, aresL, ares1, initS, nxt, aT, aTk, aU, aOne, kep, rdo, objOf, ↓reduceIte, Nat.reduceLT, Nat.reduceEqDiff, reduceCtorEq, Nat.reduceAdd, Nat.reduceMul, Nat.reduceLeDiff, Value.cells, Tryz.underlying3, Tryz.underlying52, Tryz.underlying9, tarr_52, telem_52, tfld_54_0, tfld_54_1, tsz_37, tsz_52, tsz_99, tzero_99, *])
    | ((with_reducible refine and_go ?_); refine And.intro (by first | exact kept_refl | exact kept_last rfl | exact kept_keep (by assumption)) ?_)
    | (refine hkont.out _ _ ?_; clear hkont kont))
  refine awp_loop (fun m s σ' => ∃ (i : Nat) (acc : Tx), m = l.length - i ∧ i ≤ l.length ∧ s 1 = ptr σ.nobj 0 ∧ s 3 = str acc ∧ s 8 = sl idi l.length cs ∧ s 9 = sc (.int .i64 l.length) ∧ s 10 = sc (.int .i64 i) ∧ Keep σ σ' ∧ σ.nobj < σ'.nobj ∧ σ'.obj σ.nobj = [sl idn N.length (N.map str), sl idi l.length cs] ∧ acc.length ≤ i * 1100000000 ∧ Abs.Hid (acc = wholeL (l.take i))) l.length
    ⟨0, [], by omega, by omega, by simp [upd], by simp [upd], by simp [upd], by simp [upd], rfl, by repeat (first | exact Keep.refl _ | assumption | (refine Keep.put ?_ (by first | omega | (simp only [new_nobj, put_nobj, lay_nobj, *]; omega)) _) | (refine Keep.new ?_ _) | (refine Keep.lay ?_ _) | (refine Keep.trans ?_ (by assumption))), by simp only [new_nobj]; omega, new_same, by simp, by simp [Abs.Hid, wholeL]⟩ ?_
  rintro m s σ' ⟨i, acc, rfl, hi, h1, h3, h8, h9, h10, hK, hno, hob, hal, hA⟩
  have kno := hK.nobj
  by_cases hlt : i < l.length
  · have hget := List.getElem?_eq_getElem hlt
    have hw := hW l[i] (List.getElem_mem hlt)
    obtain ⟨hm, ih, id, b, r, hb, hd⟩ := EL_PI hE hget
    generalize l[i] = x at hd hget hw hm hb
    have HG : Abs.Hid (l[i]? = some x) := hget
    clear hget
    have hwl := writtenL_len hw.fits hw.short
    have hO := fun σ => inOrder_spec N x _ (PI.of (ih := ih) (id := id) hm hb) hw.out hw.fits hw.va hw.vh hw.vb σ
    have hT := fun c hc σ => itext_spec N (ordL x) idn x c hc hN hw.mem hw.short.1.1 hw.body hw.head hw.wa σ
    have hT : ∀ c, RI N (ordL x) x c → ∀ σ, ACalls Tryz.prog 150 [ag c, sl idn N.length (N.map str)] σ fun r σ' => r = str (writtenL x) ∧ Keep σ σ' := hT
    generalize hwe : writtenL x = wx at hT hwl
    have HWE : Abs.Hid _ := hwe
    clear hwe hw
    repeat' (first
    | with_reducible apply awp_seq
    | with_reducible apply awp_block
    | ((with_reducible refine awp_region_k ?_); intro kont hkont)
    | ((with_reducible refine hkont.out _ _ ?_); clear hkont kont)
    | ((first | ((with_reducible refine gd_go ?_); refine gd_split (fun h => ?_) (fun h => ?_)) | ((with_reducible refine gt_go ?_); refine gt_split (fun h => ?_) (fun h => ?_)) | ((with_reducible refine cond_go ?_); refine awp_cond_split rfl (fun h => ?_) (fun h => ?_))) <;> (try simp only [upd, ↓reduceIte, Nat.reduceEqDiff] at h) <;> (try simp only [B2] at h) <;> (try simp only [*, reduceCtorEq, decide_true, decide_false] at h) <;> (try (have hari := h; simp only [B3] at hari)) <;> (try (first | contradiction | (exfalso; omega) | (exfalso; simp at h; done))) <;> (try simp only [gd_true, gd_false, gt_true, gt_false]))
    | ((with_reducible refine acalls_go ?_); refine ACalls.mono (hO _) ?_; rintro _ _ ⟨c2, rfl, hRI, hVL, hK2⟩; (have kob2 := hK2.obj; have kno2 := hK2.nobj; (try simp only [new_nobj, put_nobj, lay_nobj] at kno2); obtain ⟨ih2, id2, b2, hb2, rfl⟩ := hRI))
    | ((with_reducible refine acalls_go ?_); refine ACalls.mono (hT _ ⟨_, _, _, hb2, rfl⟩ _) ?_; rintro _ _ ⟨rfl, hK3⟩)
    | with_reducible apply awp_skip
    | with_reducible apply awp_exit
    | with_reducible apply awp_ret
    | (simp (maxSteps := 3000000) (disch := (first | omega | (simp only [List.length_append, B1, *]; omega))) only [↓mapA_nil, ↓mapA_cons, List.length_append, B0, gd_true, gd_false, gt_true, gt_false, aRun, Int.reduceToNat, Value.oneCell', awant, aStep, aq, al, aev, aput, upd, dstOk, cst, cst1, acells, flat, behind, aload, apart1, abin, aconv, aint, bnd, lsp, afill, thenQ, blkQ, retQ, ares, aresL, ares1, initS, nxt, aT, aTk, aU, aOne, kep, rdo, objOf, ↓reduceIte, Nat.reduceLT, Nat.reduceEqDiff, reduceCtorEq, Nat.reduceAdd, Nat.reduceMul, Nat.reduceLeDiff, Value.cells, Tryz.underlying3, Tryz.underlying52, Tryz.underlying9, tarr_52, telem_52, tfld_54_0, tfld_54_1, tsz_37, tsz_52, tsz_99, tzero_99, *])
    | ((with_reducible refine and_go ?_); refine And.intro (by first | exact kept_refl | exact kept_last rfl | exact kept_keep (by assumption)) ?_)
    | (refine hkont.out _ _ ?_; clear hkont kont))
    rename_i σ2 σ3
    have hKz := ((hK.new [sc (.bool false), sc (.int .i64 0), nilS, nilS]).put hK.nobj _).trans hK2
    have hKy := ((hKz.new [sc (.bool false), sc (.int .i64 0), nilS, nilS]).put (by omega) _).trans hK3
    have kno3 := hK3.nobj
    simp only [put_nobj, new_nobj] at kno3
    refine ⟨l.length - (i + 1), by omega, i + 1, acc ++ wx, rfl, by omega, rfl, by simp, hKy, by omega, ?_, by simp only [List.length_append]; omega, ?_⟩
    · rw [hK3.obj _ (by simp only [put_nobj, new_nobj]; omega), put_ne (by omega), new_lt (by omega), hK2.obj _ (by simp only [put_nobj, new_nobj]; omega), put_ne (by omega), new_lt (by omega), hob]
    · rw [Abs.Hid, List.take_add_one, HG.out, hA.out]
      simp [wholeL, HWE.out]
  · have hil : i = l.length := by omega
    subst hil
    rw [List.take_length] at hA
    repeat' (first
    | with_reducible apply awp_seq
    | with_reducible apply awp_block
    | ((with_reducible refine awp_region_k ?_); intro kont hkont)
    | ((with_reducible refine hkont.out _ _ ?_); clear hkont kont)
    | ((first | ((with_reducible refine gd_go ?_); refine gd_split (fun h => ?_) (fun h => ?_)) | ((with_reducible refine gt_go ?_); refine gt_split (fun h => ?_) (fun h => ?_)) | ((with_reducible refine cond_go ?_); refine awp_cond_split rfl (fun h => ?_) (fun h => ?_))) <;> (try simp only [upd, ↓reduceIte, Nat.reduceEqDiff] at h) <;> (try simp only [B2] at h) <;> (try simp only [*, reduceCtorEq, decide_true, decide_false] at h) <;> (try (have hari := h; simp only [B3] at hari)) <;> (try (first | contradiction | (exfalso; omega) | (exfalso; simp at h; done))) <;> (try simp only [gd_true, gd_false, gt_true, gt_false]))
    | with_reducible apply awp_skip
    | with_reducible apply awp_exit
    | with_reducible apply awp_ret
    | (simp (maxSteps := 3000000) (disch := (first | omega | (simp only [List.length_append, B1, *]; omega))) only [↓mapA_nil, ↓mapA_cons, List.length_append, B0, gd_true, gd_false, gt_true, gt_false, aRun, Int.reduceToNat, Value.oneCell', awant, aStep, aq, al, aev, aput, upd, dstOk, cst, cst1, acells, flat, behind, aload, apart1, abin, aconv, aint, bnd, lsp, afill, thenQ, blkQ, retQ, ares, aresL, ares1, initS, nxt, aT, aTk, aU, aOne, kep, rdo, objOf, ↓reduceIte, Nat.reduceLT, Nat.reduceEqDiff, reduceCtorEq, Nat.reduceAdd, Nat.reduceMul, Nat.reduceLeDiff, Value.cells, Tryz.underlying3, Tryz.underlying52, Tryz.underlying9, tarr_52, telem_52, tfld_54_0, tfld_54_1, tsz_37, tsz_52, tsz_99, tzero_99, *])
    | ((with_reducible refine and_go ?_); refine And.intro (by first | exact kept_refl | exact kept_last rfl | exact kept_keep (by assumption)) ?_)
    | (refine hkont.out _ _ ?_; clear hkont kont))
    first
    | exact ⟨_, rfl, by rw [hA.out], hK⟩
    | exact ⟨_, rfl, by rw [hA.out]⟩
end Go.Proofs.YtmokifgkfcdldaaGreatDoorY
/- The program's Print of a text is the document's. -/
namespace Go.Proofs.YtmokifgkfcdldaaGreatDoorY
open Go.Abs
set_option linter.unusedSimpArgs false
set_option linter.unusedVariables false
set_option maxRecDepth 100000

theorem mem_ordF {acc : List Tx} {t u : Tx} (h : t ∈ acc ∨ (t = u ∧ variableB u = true)) : t ∈ ordF acc u := by
  unfold ordF
  split
  · rcases h with h | ⟨rfl, -⟩
    · exact List.mem_append.2 (.inl h)
    · exact List.mem_append.2 (.inr (by simp))
  · rename_i hn
    rcases h with h | ⟨rfl, hv⟩
    · exact h
    · exact Classical.byContradiction fun hm => hn ⟨hv, hm⟩
theorem mem_ordT : ∀ (ts acc : List Tx) (t : Tx), (t ∈ acc ∨ (t ∈ ts ∧ variableB t = true)) → t ∈ ordT acc ts
  | [], acc, t, h => by
    rcases h with h | ⟨h, -⟩
    · exact h
    · cases h
  | u :: ts, acc, t, h => by
    show t ∈ ordT (ordF acc u) ts
    apply mem_ordT ts
    rcases h with h | ⟨h, hv⟩
    · exact .inl (mem_ordF (.inl h))
    · rcases List.mem_cons.1 h with rfl | h
      · exact .inl (mem_ordF (.inr ⟨rfl, hv⟩))
      · exact .inr ⟨h, hv⟩
theorem flat_len {ls : List RAtom} (h : ∀ a ∈ ls, a.terms.length ≤ 3) : (ls.flatMap (·.terms)).length ≤ ls.length * 3 := by
  induction ls with
  | nil => simp
  | cons a ls ih =>
    have h2 := ih fun b hb => h b (by simp [hb])
    have h3 := h a (by simp)
    simp only [List.flatMap_cons, List.length_append, List.length_cons]
    omega
theorem atoms_mem {x : RItem} {a : RAtom} (h : (x.out = false ∧ a = x.head) ∨ a ∈ x.body) : a ∈ atomsL x := by
  unfold atomsL
  rcases h with ⟨h, rfl⟩ | h
  · exact List.mem_append.2 (.inl (by rw [h]; simp))
  · exact List.mem_append.2 (.inr h)
theorem ord_small {x : RItem} (hw : WItem x) {a : RAtom} (ha : a ∈ atomsL x) {w : Tx} (hm : w ∈ a.terms) (hv : variableB w = true) : 0 ≤ whichL (ordL x) w ∧ whichL (ordL x) w < 26 := by
  have h1 : w ∈ ordL x := mem_ordT _ _ _ (.inr ⟨List.mem_flatMap.2 ⟨a, ha, hm⟩, hv⟩)
  have h2 := List.idxOf_lt_length_of_mem h1
  have h3 := ordT_len ((atomsL x).flatMap (·.terms)) []
  obtain ⟨q1, q2, q3⟩ := hw
  have h4 : (atomsL x).length ≤ 6 ∧ ∀ b ∈ atomsL x, b.terms.length ≤ 3 := by
    cases ho : x.out with
    | true =>
      obtain ⟨-, -, e⟩ := q2 ho
      simp [atomsL, ho, e]
    | false =>
      obtain ⟨e1, -, e2, e3⟩ := q3 ho
      refine ⟨by simp [atomsL, ho]; omega, fun b hb => ?_⟩
      simp [atomsL, ho] at hb
      rcases hb with rfl | hb
      · exact e1.2.2.1
      · exact (e3 b hb).2.2.1
  have h5 := flat_len h4.2
  have h6 : (ordL x).length ≤ 18 := by
    unfold ordL
    rw [List.length_nil, Nat.zero_add] at h3
    omega
  unfold whichL
  rw [if_pos h1]
  omega
theorem wi_of {t : Tx} {N : List Tx} {l : List RItem} {cs : List AV} {r : Tx} (hl : t.length ≤ 1000) (hp : pItems 16 t = .got l r) (hB : Bk N l cs) (hWI : ∀ x ∈ l, WItem x) : ∀ x ∈ l, WI N x := by
  intro x hx
  have hva := pItems_va 16 t l r hp x hx
  have hdt := pItems_all (T := DT) pTerm_dt 16 t l r hp x hx
  have hsh := parse_short hl hp x hx
  have hm := EL_PI_mem hB.el x hx
  have hw := hWI x hx
  have hf := hB.fits x hx
  have hwa : ∀ a, a ∈ atomsL x → a.pred ∈ N → WAtom a → short a → a.terms.length ≤ 1000 → WA N (ordL x) a := fun a ha hN hW hs hn =>
    ⟨hN, List.length_pos_iff.2 hW.2.1, hn, hs.1, fun w hm => ⟨hdt a ha w hm, hs.2.2 w hm, fun hv => ord_small hw ha hm hv⟩⟩
  refine ⟨hf, hsh, hva, ?_, ?_, hm.1, ?_, hB.out x hx, ?_, ?_⟩
  · cases ho : x.out with
    | true => intro w hw'; rw [(hw.2.1 ho).2.1] at hw'; cases hw'
    | false => exact hva x.head (atoms_mem (.inl ⟨ho, rfl⟩))
  · exact fun a ha => hva a (atoms_mem (.inr ha))
  · cases ho : x.out with
    | true => rw [hB.out x hx ho]; simp
    | false => exact (hw.2.2 ho).2.2.1
  · intro ho
    obtain ⟨e1, e2, -⟩ := hw.2.2 ho
    exact ⟨e2, hwa x.head (atoms_mem (.inl ⟨ho, rfl⟩)) hm.1 e1 hsh.1 hf.2.1⟩
  · intro a ha
    have ho : x.out = false := by
      cases h : x.out with
      | false => rfl
      | true => rw [hB.out x hx h] at ha; cases ha
    exact hwa a (atoms_mem (.inr ha)) (hm.2 a ha) ((hw.2.2 ho).2.2.2 a ha) (hsh.2 a ha) (hf.2.2 a ha)
set_option maxHeartbeats 16000000 in
theorem pprint_spec (t : Tx) (σ : St) : ACalls Tryz.prog 59 [str t] σ fun r σ' => r = tp [str (refPrint t).1, sc (.int .i64 (refPrint t).2)] ∧ Keep σ σ' := by
  have hL := fun σ => load_spec t σ
  by_cases he : (refCheck t).1 = 0
  · have heb : ((refCheck t).1 != 0) = false := by simpa using he
    have HE : Abs.Hid ((refCheck t).1 = 0) := he
    have hlen : t.length ≤ 600 := by
      by_cases hl : 600 < t.length
      · unfold refCheck at he; rw [if_pos hl] at he; simp at he
      · omega
    clear he
    refine acalls 18 [.tmp 2, .tmp 3] Tryz.func59 rfl (by decide) rfl rfl (Nat.le_of_ble_eq_true rfl) ?_
    repeat' (first
    | with_reducible apply awp_seq
    | with_reducible apply awp_block
    | ((with_reducible refine awp_region_k ?_); intro kont hkont)
    | ((with_reducible refine hkont.out _ _ ?_); clear hkont kont)
    | ((first | ((with_reducible refine gd_go ?_); refine gd_split (fun h => ?_) (fun h => ?_)) | ((with_reducible refine gt_go ?_); refine gt_split (fun h => ?_) (fun h => ?_)) | ((with_reducible refine cond_go ?_); refine awp_cond_split rfl (fun h => ?_) (fun h => ?_))) <;> (try simp only [upd, ↓reduceIte, Nat.reduceEqDiff] at h) <;> (try simp only [B2] at h) <;> (try simp only [*, reduceCtorEq, decide_true, decide_false] at h) <;> (try (have hari := h; simp only [B3] at hari)) <;> (try (first | contradiction | (exfalso; omega) | (exfalso; simp at h; done))) <;> (try simp only [gd_true, gd_false, gt_true, gt_false]))
    | ((with_reducible refine acalls_go ?_); refine ACalls.mono (hL _) ?_; rintro _ _ ⟨idn, n1, c1, idi, n2, c2, rfl, hK1, hb⟩; (have kno1 := hK1.nobj; obtain ⟨N, l, hp, hBk, rfl, rfl, rfl, hva, hWI⟩ := hb HE.out; have hBT := fun σ => btext_spec N l c2 idn idi hBk (wi_of (by omega) hp hBk hWI) σ; have HP : Abs.Hid (wholeL (itemsL t) = wholeL l) := (by rw [Abs.Hid, (parse_good (by omega) hp).2.1]); generalize wholeL l = wl at hBT HP; clear hp hb hva hWI hBk))
    | ((with_reducible refine acalls_go ?_); refine ACalls.mono (hBT _) ?_; rintro _ _ ⟨rfl, hK2⟩)
    | with_reducible apply awp_skip
    | with_reducible apply awp_exit
    | with_reducible apply awp_ret
    | (simp (maxSteps := 3000000) (disch := (first | omega | (simp only [List.length_append, B1, *]; omega))) only [↓mapA_nil, ↓mapA_cons, List.length_append, B0, gd_true, gd_false, gt_true, gt_false, aRun, Int.reduceToNat, Value.oneCell', awant, aStep, aq, al, aev, aput, upd, dstOk, cst, cst1, acells, flat, behind, aload, apart1, abin, aconv, aint, bnd, lsp, afill, thenQ, blkQ, retQ, ares, aresL, ares1, initS, nxt, aT, aTk, aU, aOne, kep, rdo, objOf, ↓reduceIte, Nat.reduceLT, Nat.reduceEqDiff, reduceCtorEq, Nat.reduceAdd, Nat.reduceMul, Nat.reduceLeDiff, Value.cells, Tryz.underlying30, tsz_54, tzero_54, *])
    | ((with_reducible refine and_go ?_); refine And.intro (by first | exact kept_refl | exact kept_last rfl | exact kept_keep (by assumption)) ?_)
    | (refine hkont.out _ _ ?_; clear hkont kont))
    refine ⟨_, rfl, ?_, by repeat (first | exact Keep.refl _ | assumption | (refine Keep.put ?_ (by first | omega | (simp only [new_nobj, put_nobj, lay_nobj, *]; omega)) _) | (refine Keep.new ?_ _) | (refine Keep.lay ?_ _) | (refine Keep.trans ?_ (by assumption)))⟩
    rw [refPrint, if_pos HE.out, HP.out]
  · have heb : ((refCheck t).1 != 0) = true := by simpa using he
    have hrp : refPrint t = ([], (refCheck t).1) := by unfold refPrint; rw [if_neg he]
    have HRP : Abs.Hid _ := hrp
    clear he hrp
    refine acalls 18 [.tmp 2, .tmp 3] Tryz.func59 rfl (by decide) rfl rfl (Nat.le_of_ble_eq_true rfl) ?_
    repeat' (first
    | with_reducible apply awp_seq
    | with_reducible apply awp_block
    | ((with_reducible refine awp_region_k ?_); intro kont hkont)
    | ((with_reducible refine hkont.out _ _ ?_); clear hkont kont)
    | ((first | ((with_reducible refine gd_go ?_); refine gd_split (fun h => ?_) (fun h => ?_)) | ((with_reducible refine gt_go ?_); refine gt_split (fun h => ?_) (fun h => ?_)) | ((with_reducible refine cond_go ?_); refine awp_cond_split rfl (fun h => ?_) (fun h => ?_))) <;> (try simp only [upd, ↓reduceIte, Nat.reduceEqDiff] at h) <;> (try simp only [B2] at h) <;> (try simp only [*, reduceCtorEq, decide_true, decide_false] at h) <;> (try (have hari := h; simp only [B3] at hari)) <;> (try (first | contradiction | (exfalso; omega) | (exfalso; simp at h; done))) <;> (try simp only [gd_true, gd_false, gt_true, gt_false]))
    | ((with_reducible refine acalls_go ?_); refine ACalls.mono (hL _) ?_; rintro _ _ ⟨idn, n1, c1, idi, n2, c2, rfl, hK1, hb⟩; (have kno1 := hK1.nobj; clear hb))
    | with_reducible apply awp_skip
    | with_reducible apply awp_exit
    | with_reducible apply awp_ret
    | (simp (maxSteps := 3000000) (disch := (first | omega | (simp only [List.length_append, B1, *]; omega))) only [↓mapA_nil, ↓mapA_cons, List.length_append, B0, gd_true, gd_false, gt_true, gt_false, aRun, Int.reduceToNat, Value.oneCell', awant, aStep, aq, al, aev, aput, upd, dstOk, cst, cst1, acells, flat, behind, aload, apart1, abin, aconv, aint, bnd, lsp, afill, thenQ, blkQ, retQ, ares, aresL, ares1, initS, nxt, aT, aTk, aU, aOne, kep, rdo, objOf, ↓reduceIte, Nat.reduceLT, Nat.reduceEqDiff, reduceCtorEq, Nat.reduceAdd, Nat.reduceMul, Nat.reduceLeDiff, Value.cells, Tryz.underlying30, tsz_54, tzero_54, *])
    | ((with_reducible refine and_go ?_); refine And.intro (by first | exact kept_refl | exact kept_last rfl | exact kept_keep (by assumption)) ?_)
    | (refine hkont.out _ _ ?_; clear hkont kont))
    exact ⟨_, rfl, by rw [HRP.out], by repeat (first | exact Keep.refl _ | assumption | (refine Keep.put ?_ (by first | omega | (simp only [new_nobj, put_nobj, lay_nobj, *]; omega)) _) | (refine Keep.new ?_ _) | (refine Keep.lay ?_ _) | (refine Keep.trans ?_ (by assumption)))⟩
end Go.Proofs.YtmokifgkfcdldaaGreatDoorY
