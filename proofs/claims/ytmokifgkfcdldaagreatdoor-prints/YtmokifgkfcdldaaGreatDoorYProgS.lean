import Derived.Test.YtmokifgkfcdldaaGreatDoorYProgR
/- The program: load and Check. -/
namespace Go.Proofs.YtmokifgkfcdldaaGreatDoorY
open Go.Abs
set_option linter.unusedSimpArgs false
set_option linter.unusedVariables false
set_option maxRecDepth 100000

theorem W_bk {N : List Tx} {l : List RItem} {cs : List AV} (hE : EL (PI N) l cs) (hl : l.length ≤ 16) (hW : ∀ x ∈ l, WItem x) (hN : N.length ≤ 2000) : Bk N l cs := by
  refine ⟨hE, hl, fun x hx => ?_, fun x hx ho => ((hW x hx).2.1 ho).2.2, hN, fun x hx a ha => ?_⟩
  · obtain ⟨-, h2, h3⟩ := hW x hx
    cases ho : x.out with
    | true =>
      obtain ⟨-, q1, q2⟩ := h2 ho
      exact ⟨by simp [q2], by simp [q1], by simp [q2]⟩
    | false =>
      obtain ⟨q1, -, q2, q3⟩ := h3 ho
      have := q1.2.2.1
      exact ⟨by omega, by omega, fun a ha => by have := (q3 a ha).2.2.1; omega⟩
  · obtain ⟨-, h2, h3⟩ := hW x hx
    unfold atomsL at ha
    cases ho : x.out with
    | true =>
      obtain ⟨-, q1, q2⟩ := h2 ho
      simp [ho, q2] at ha
    | false =>
      obtain ⟨q1, -, q2, q3⟩ := h3 ho
      simp [ho] at ha
      have hp : WAtom a → 0 < a.terms.length := fun w => by
        have := w.2.1
        cases hh : a.terms with
        | nil => exact absurd hh this
        | cons y ys => simp
      rcases ha with rfl | ha
      · exact hp q1
      · exact hp (q3 a ha)

theorem wrongM_zero {l : List RItem} (h : (wrongM l).1 = 0) : wrongM l = (0, 0) := by
  unfold wrongM at h ⊢
  split
  · rename_i h1; rw [if_pos h1] at h; cases h
  · rename_i h1
    rw [if_neg h1] at h
    split
    · rename_i h2; rw [if_pos h2] at h; cases h
    · rename_i h2
      rw [if_neg h2] at h
      split
      · rename_i h3; rw [if_pos h3] at h; cases h
      · rfl
def isBook (t : Tx) (n1 : Nat) (c1 : List AV) (n2 : Nat) (c2 : List AV) : Prop :=
  ∃ N l, pItems 16 t = .got l [] ∧ Bk N l c2 ∧ n1 = N.length ∧ c1 = N.map str ∧ n2 = l.length ∧ (∀ x ∈ l, ∀ a ∈ atomsL x, VA a) ∧ ∀ x ∈ l, WItem x

set_option maxHeartbeats 16000000 in
theorem load_spec (t : Tx) (σ : St) : ACalls Tryz.prog 26 [str t] σ fun r σ' => ∃ idn n1 c1 idi n2 c2, r = tp [ag [sl idn n1 c1, sl idi n2 c2], sc (.int .i64 (refCheck t).1), sc (.int .i64 (refCheck t).2)] ∧ Keep σ σ' ∧ ((refCheck t).1 = 0 → isBook t n1 c1 n2 c2) := by
  refine acalls 41 [.cell 2 54, .tmp 3, .tmp 4] Tryz.func26 rfl (by decide) rfl rfl (Nat.le_of_ble_eq_true rfl) ?_
  by_cases hL : 600 < t.length
  · have hrc : refCheck t = (1, 0) := by unfold refCheck; rw [if_pos hL]
    have HRC : Abs.Hid _ := hrc
    clear hrc
    repeat' (first
    | with_reducible apply awp_seq
    | with_reducible apply awp_block
    | ((with_reducible refine awp_region_k ?_); intro kont hkont)
    | ((with_reducible refine hkont.out _ _ ?_); clear hkont kont)
    | ((first | ((with_reducible refine gd_go ?_); refine gd_split (fun h => ?_) (fun h => ?_)) | ((with_reducible refine gt_go ?_); refine gt_split (fun h => ?_) (fun h => ?_)) | ((with_reducible refine cond_go ?_); refine awp_cond_split rfl (fun h => ?_) (fun h => ?_))) <;> (try simp only [upd, ↓reduceIte, Nat.reduceEqDiff] at h) <;> (try simp only [B2] at h) <;> (try simp only [*, reduceCtorEq, decide_true, decide_false] at h) <;> (try (have hari := h; simp only [B3] at hari)) <;> (try (first | contradiction | (exfalso; omega) | (exfalso; simp at h; done))) <;> (try simp only [gd_true, gd_false, gt_true, gt_false]))
    | with_reducible apply awp_skip
    | with_reducible apply awp_exit
    | with_reducible apply awp_ret
    | (simp (maxSteps := 3000000) (disch := (first | omega | (simp only [B1, *]; omega))) only [↓mapA_nil, ↓mapA_cons, B0, gd_true, gd_false, gt_true, gt_false, aRun, Int.reduceToNat, Value.oneCell', awant, aStep, aq, al, aev, aput, upd, dstOk, cst, cst1, acells, flat, behind, aload, apart1, abin, aconv, aint, bnd, lsp, afill, thenQ, blkQ, retQ, ares, aresL, ares1, initS, nxt, aT, aTk, aU, aOne, kep, rdo, objOf, ↓reduceIte, Nat.reduceLT, Nat.reduceEqDiff, reduceCtorEq, Nat.reduceAdd, Nat.reduceMul, Nat.reduceLeDiff, Value.cells, Tryz.underlying3, Tryz.underlying30, Tryz.underlying9, telem_9, tfld_81_1, tfld_81_2, tstr_54, tstr_81, tsz_3, tsz_37, tsz_54, tsz_81, tzero_54, tzero_81, *])
    | ((with_reducible refine and_go ?_); refine And.intro (by first | exact kept_refl | exact kept_last rfl | exact kept_keep (by assumption)) ?_)
    | (refine hkont.out _ _ ?_; clear hkont kont))
    refine ⟨_, rfl, 1, 0, [], 1, 0, [], by rw [HRC.out], by repeat (first | exact Keep.refl _ | assumption | (refine Keep.put ?_ (by first | omega | (simp only [new_nobj, put_nobj, lay_nobj, *]; omega)) _) | (refine Keep.new ?_ _) | (refine Keep.lay ?_ _) | (refine Keep.trans ?_ (by assumption))), by rw [HRC.out]; intro h; simp at h⟩
  · have hplace := placeL_parse t
    have ht : t.length ≤ 1000 := by omega
    have hRS : RS t (σ.nobj + 1) [] 1 t (((σ.new [nilS, nilS]).new [str [], sc (.int .i64 0), nilS]).put (σ.nobj + 1) [str t, sc (.int .i64 0), nilS]) := by
      refine ⟨?_, Nat.lt_succ_self _, .inl ⟨rfl, rfl⟩, List.suffix_refl _, by simp⟩
      rw [put_same]; simp [rdS, rdr]
    have hR := readItems_R ht hRS
    have hK0 : Keep σ (((σ.new [nilS, nilS]).new [str [], sc (.int .i64 0), nilS]).put (σ.nobj + 1) [str t, sc (.int .i64 0), nilS]) := (((Keep.refl σ).new _).new _).put (by omega) _
    cases hp : pItems 16 t with
    | bad e =>
      rw [hp] at hR hplace
      dsimp only at hplace
      have hrc : refCheck t = (2, ((t.length - e.length : Nat) : Int)) := by
        unfold refCheck; rw [if_neg hL, hplace, if_pos (Int.natCast_nonneg _)]
      have HRC : Abs.Hid _ := hrc
      have HR : Abs.Hid _ := hR
      have HK0 : Abs.Hid _ := hK0
      clear hrc hplace hRS hR hp hK0
      repeat' (first
    | with_reducible apply awp_seq
    | with_reducible apply awp_block
    | ((with_reducible refine awp_region_k ?_); intro kont hkont)
    | ((with_reducible refine hkont.out _ _ ?_); clear hkont kont)
    | ((first | ((with_reducible refine gd_go ?_); refine gd_split (fun h => ?_) (fun h => ?_)) | ((with_reducible refine gt_go ?_); refine gt_split (fun h => ?_) (fun h => ?_)) | ((with_reducible refine cond_go ?_); refine awp_cond_split rfl (fun h => ?_) (fun h => ?_))) <;> (try simp only [upd, ↓reduceIte, Nat.reduceEqDiff] at h) <;> (try simp only [B2] at h) <;> (try simp only [*, reduceCtorEq, decide_true, decide_false] at h) <;> (try (have hari := h; simp only [B3] at hari)) <;> (try (first | contradiction | (exfalso; omega) | (exfalso; simp at h; done))) <;> (try simp only [gd_true, gd_false, gt_true, gt_false]))
    | ((with_reducible refine acalls_go ?_); refine ACalls.mono (HR.out) ?_; rintro _ _ ⟨n, ids, c, N', id', rfl, hS1, hR1, hP1, hV1⟩; (have kob1 := hS1.keep.obj; have kno1 := hS1.keep.nobj; (try simp only [new_nobj, put_nobj, lay_nobj] at kno1)))
    | with_reducible apply awp_skip
    | with_reducible apply awp_exit
    | with_reducible apply awp_ret
    | (simp (maxSteps := 3000000) (disch := (first | omega | (simp only [B1, *]; omega))) only [↓mapA_nil, ↓mapA_cons, B0, gd_true, gd_false, gt_true, gt_false, aRun, Int.reduceToNat, Value.oneCell', awant, aStep, aq, al, aev, aput, upd, dstOk, cst, cst1, acells, flat, behind, aload, apart1, abin, aconv, aint, bnd, lsp, afill, thenQ, blkQ, retQ, ares, aresL, ares1, initS, nxt, aT, aTk, aU, aOne, kep, rdo, objOf, ↓reduceIte, Nat.reduceLT, Nat.reduceEqDiff, reduceCtorEq, Nat.reduceAdd, Nat.reduceMul, Nat.reduceLeDiff, Value.cells, Tryz.underlying3, Tryz.underlying30, Tryz.underlying9, telem_9, tfld_81_1, tfld_81_2, tstr_54, tstr_81, tsz_3, tsz_37, tsz_54, tsz_81, tzero_54, tzero_81, *])
    | ((with_reducible refine and_go ?_); refine And.intro (by first | exact kept_refl | exact kept_last rfl | exact kept_keep (by assumption)) ?_)
    | (refine hkont.out _ _ ?_; clear hkont kont))
      rename_i σ1
      have hob1 := hR1.obj
      unfold rdS rdr at hob1
      simp only [Rd.rest] at hob1
      have hob0 : σ1.obj σ.nobj = [nilS, nilS] := by
        rw [kob1 _ (by simp only [put_nobj, new_nobj]; omega) (by omega), put_ne (by omega), new_lt (by rw [new_nobj]; omega), new_same]
      have hKs : Keep σ σ1 := KeepR.keep HK0.out hS1.keep (by omega) (.inl (by omega))
      clear kob1
      refine awp_draw_k follows_mixed (fun p => p = σ.nobj + 1) [5] [0, 1, 2] [3, 4, 5] (by kernel_rfl) (fun _ _ _ h => h) ?_
      intro kont hkont
      have hkp : ∀ i, Kept (fun j => !([5] : List Nat).contains j) (fun p => p = σ.nobj + 1) σ1 i (σ1.put σ.nobj [nilS, nilS]) := fun i _ p hp hF => by
        subst hF; simp [St.put]
      simp (maxSteps := 3000000) (disch := (first | omega | (simp only [B1, *]; omega))) only [↓mapA_nil, ↓mapA_cons, B0, gd_true, gd_false, gt_true, gt_false, aRun, Int.reduceToNat, Value.oneCell', awant, aStep, aq, al, aev, aput, upd, dstOk, cst, cst1, acells, flat, behind, aload, apart1, abin, aconv, aint, bnd, lsp, afill, thenQ, blkQ, retQ, ares, aresL, ares1, initS, nxt, aT, aTk, aU, aOne, kep, rdo, objOf, ↓reduceIte, Nat.reduceLT, Nat.reduceEqDiff, reduceCtorEq, Nat.reduceAdd, Nat.reduceMul, Nat.reduceLeDiff, Value.cells, Tryz.underlying3, Tryz.underlying30, Tryz.underlying9, telem_9, tfld_81_1, tfld_81_2, tstr_54, tstr_81, tsz_3, tsz_37, tsz_54, tsz_81, tzero_54, tzero_81, *]
      refine ⟨fun p h => h.elim, fun p h => h.elim, fun p h => by cases h; rfl, ?_⟩
      try (refine And.intro (hkp _) ?_)
      try (refine And.intro (hkp _) ?_)
      repeat' (first
    | with_reducible apply awp_seq
    | with_reducible apply awp_block
    | ((with_reducible refine awp_region_k ?_); intro kont hkont)
    | ((with_reducible refine hkont.out _ _ ?_); clear hkont kont)
    | ((first | ((with_reducible refine gd_go ?_); refine gd_split (fun h => ?_) (fun h => ?_)) | ((with_reducible refine gt_go ?_); refine gt_split (fun h => ?_) (fun h => ?_)) | ((with_reducible refine cond_go ?_); refine awp_cond_split rfl (fun h => ?_) (fun h => ?_))) <;> (try simp only [upd, ↓reduceIte, Nat.reduceEqDiff] at h) <;> (try simp only [B2] at h) <;> (try simp only [*, reduceCtorEq, decide_true, decide_false] at h) <;> (try (have hari := h; simp only [B3] at hari)) <;> (try (first | contradiction | (exfalso; omega) | (exfalso; simp at h; done))) <;> (try simp only [gd_true, gd_false, gt_true, gt_false]))
    | with_reducible apply awp_skip
    | with_reducible apply awp_exit
    | with_reducible apply awp_ret
    | (simp (maxSteps := 3000000) (disch := (first | omega | (simp only [B1, *]; omega))) only [↓mapA_nil, ↓mapA_cons, B0, gd_true, gd_false, gt_true, gt_false, aRun, Int.reduceToNat, Value.oneCell', awant, aStep, aq, al, aev, aput, upd, dstOk, cst, cst1, acells, flat, behind, aload, apart1, abin, aconv, aint, bnd, lsp, afill, thenQ, blkQ, retQ, ares, aresL, ares1, initS, nxt, aT, aTk, aU, aOne, kep, rdo, objOf, ↓reduceIte, Nat.reduceLT, Nat.reduceEqDiff, reduceCtorEq, Nat.reduceAdd, Nat.reduceMul, Nat.reduceLeDiff, Value.cells, Tryz.underlying3, Tryz.underlying30, Tryz.underlying9, telem_9, tfld_81_1, tfld_81_2, tstr_54, tstr_81, tsz_3, tsz_37, tsz_54, tsz_81, tzero_54, tzero_81, *])
    | ((with_reducible refine and_go ?_); refine And.intro (by first | exact kept_refl | exact kept_last rfl | exact kept_keep (by assumption)) ?_)
    | (refine hkont.out _ _ ?_; clear hkont kont))
      refine ⟨_, rfl, 1, 0, [], 1, 0, [], by rw [HRC.out], hKs.put (Nat.le_refl _) _, by rw [HRC.out]; intro h; simp at h⟩
    | got l r =>
      rw [hp] at hR hplace
      dsimp only at hplace
      obtain ⟨p1, p2, p3, p4⟩ := parse_good ht hp
      have hva := pItems_va _ _ _ _ hp
      have hr0 := (pItems_took _ _ _ _ hp).2.1
      subst hr0
      have hrc : refCheck t = wrongM l := by
        unfold refCheck; rw [if_neg hL, hplace, if_neg (by omega), p2]
      have HRC : Abs.Hid _ := hrc
      have HR : Abs.Hid _ := hR
      have HK0 : Abs.Hid _ := hK0
      have HP : Abs.Hid _ := hp
      clear hrc hplace hRS hR hp hK0 p2 p1
      repeat' (first
    | with_reducible apply awp_seq
    | with_reducible apply awp_block
    | ((with_reducible refine awp_region_k ?_); intro kont hkont)
    | ((with_reducible refine hkont.out _ _ ?_); clear hkont kont)
    | ((first | ((with_reducible refine gd_go ?_); refine gd_split (fun h => ?_) (fun h => ?_)) | ((with_reducible refine gt_go ?_); refine gt_split (fun h => ?_) (fun h => ?_)) | ((with_reducible refine cond_go ?_); refine awp_cond_split rfl (fun h => ?_) (fun h => ?_))) <;> (try simp only [upd, ↓reduceIte, Nat.reduceEqDiff] at h) <;> (try simp only [B2] at h) <;> (try simp only [*, reduceCtorEq, decide_true, decide_false] at h) <;> (try (have hari := h; simp only [B3] at hari)) <;> (try (first | contradiction | (exfalso; omega) | (exfalso; simp at h; done))) <;> (try simp only [gd_true, gd_false, gt_true, gt_false]))
    | ((with_reducible refine acalls_go ?_); refine ACalls.mono (HR.out) ?_; rintro _ _ ⟨n, ids, c, N', id', rfl, hS1, hR1, hP1, hV1⟩; (have kob1 := hS1.keep.obj; have kno1 := hS1.keep.nobj; (try simp only [new_nobj, put_nobj, lay_nobj] at kno1); have hob1 := hR1.obj; unfold rdS rdr at hob1; obtain ⟨rfl, hEL⟩ : n = l.length ∧ EL (PI N') l c := hV1; have hBk := W_bk hEL p3 p4 (by have := hR1.len; omega)))
    | ((with_reducible refine acalls_go ?_); refine ACalls.mono (fault_spec N' l c id' ids hBk hva _) ?_; rintro _ _ ⟨rfl, hKf⟩; (have kobf := hKf.obj; have knof := hKf.nobj; (try simp only [new_nobj, put_nobj, lay_nobj] at knof)))
    | with_reducible apply awp_skip
    | with_reducible apply awp_exit
    | with_reducible apply awp_ret
    | (simp (maxSteps := 3000000) (disch := (first | omega | (simp only [B1, *]; omega))) only [↓mapA_nil, ↓mapA_cons, B0, gd_true, gd_false, gt_true, gt_false, aRun, Int.reduceToNat, Value.oneCell', awant, aStep, aq, al, aev, aput, upd, dstOk, cst, cst1, acells, flat, behind, aload, apart1, abin, aconv, aint, bnd, lsp, afill, thenQ, blkQ, retQ, ares, aresL, ares1, initS, nxt, aT, aTk, aU, aOne, kep, rdo, objOf, ↓reduceIte, Nat.reduceLT, Nat.reduceEqDiff, reduceCtorEq, Nat.reduceAdd, Nat.reduceMul, Nat.reduceLeDiff, Value.cells, Tryz.underlying3, Tryz.underlying30, Tryz.underlying9, telem_9, tfld_81_1, tfld_81_2, tstr_54, tstr_81, tsz_3, tsz_37, tsz_54, tsz_81, tzero_54, tzero_81, *])
    | ((with_reducible refine and_go ?_); refine And.intro (by first | exact kept_refl | exact kept_last rfl | exact kept_keep (by assumption)) ?_)
    | (refine hkont.out _ _ ?_; clear hkont kont))
      · rename_i σ1 hok σ2
        have hKs : Keep σ σ1 := KeepR.keep HK0.out hS1.keep (by omega) (.inl (by omega))
        have hKz := (((hKs.new [nilS, nilS]).put hKs.nobj _).trans hKf)
        exact ⟨_, rfl, 1, 0, [], 1, 0, [], by rw [HRC.out], hKz.put (Nat.le_refl _) _, by rw [HRC.out]; intro h0; simp [h0] at h⟩
      · rename_i σ1 hok σ2
        have hKs : Keep σ σ1 := KeepR.keep HK0.out hS1.keep (by omega) (.inl (by omega))
        have hKz := (((hKs.new [nilS, nilS]).put hKs.nobj _).trans hKf)
        have hw := wrongM_zero (l := l) (by simpa using h)
        exact ⟨_, rfl, id', N'.length, N'.map str, ids, l.length, c, by rw [HRC.out, hw], hKz.put (Nat.le_refl _) _, fun _ => ⟨N', l, HP.out, hBk, rfl, rfl, rfl, hva, p4⟩⟩

set_option maxHeartbeats 16000000 in
theorem check_spec (t : Tx) (σ : St) : ACalls Tryz.prog 57 [str t] σ fun r σ' => r = two (refCheck t) ∧ Keep σ σ' := by
  refine acalls 15 [.tmp 2, .tmp 3] Tryz.func57 rfl (by decide) rfl rfl (Nat.le_of_ble_eq_true rfl) ?_
  repeat' (first
    | with_reducible apply awp_seq
    | with_reducible apply awp_block
    | ((with_reducible refine awp_region_k ?_); intro kont hkont)
    | ((with_reducible refine hkont.out _ _ ?_); clear hkont kont)
    | ((first | ((with_reducible refine gd_go ?_); refine gd_split (fun h => ?_) (fun h => ?_)) | ((with_reducible refine gt_go ?_); refine gt_split (fun h => ?_) (fun h => ?_)) | ((with_reducible refine cond_go ?_); refine awp_cond_split rfl (fun h => ?_) (fun h => ?_))) <;> (try simp only [upd, ↓reduceIte, Nat.reduceEqDiff] at h) <;> (try simp only [B2] at h) <;> (try simp only [*, reduceCtorEq, decide_true, decide_false] at h) <;> (try (have hari := h; simp only [B3] at hari)) <;> (try (first | contradiction | (exfalso; omega) | (exfalso; simp at h; done))) <;> (try simp only [gd_true, gd_false, gt_true, gt_false]))
    | ((with_reducible refine acalls_go ?_); refine ACalls.mono (load_spec t _) ?_; rintro _ _ ⟨idn, n1, c1, idi, n2, c2, rfl, hK, hb⟩; (clear hb))
    | with_reducible apply awp_skip
    | with_reducible apply awp_exit
    | with_reducible apply awp_ret
    | (simp (maxSteps := 3000000) (disch := (first | omega | (simp only [B1, *]; omega))) only [↓mapA_nil, ↓mapA_cons, B0, gd_true, gd_false, gt_true, gt_false, aRun, Int.reduceToNat, Value.oneCell', awant, aStep, aq, al, aev, aput, upd, dstOk, cst, cst1, acells, flat, behind, aload, apart1, abin, aconv, aint, bnd, lsp, afill, thenQ, blkQ, retQ, ares, aresL, ares1, initS, nxt, aT, aTk, aU, aOne, kep, rdo, objOf, ↓reduceIte, Nat.reduceLT, Nat.reduceEqDiff, reduceCtorEq, Nat.reduceAdd, Nat.reduceMul, Nat.reduceLeDiff, Value.cells, tsz_54, tzero_54, *])
    | ((with_reducible refine and_go ?_); refine And.intro (by first | exact kept_refl | exact kept_last rfl | exact kept_keep (by assumption)) ?_)
    | (refine hkont.out _ _ ?_; clear hkont kont))
  exact ⟨_, rfl, rfl, (hK.new _).put hK.nobj _⟩
end Go.Proofs.YtmokifgkfcdldaaGreatDoorY
