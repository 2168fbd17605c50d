import Derived.Test.YtilaanolklhkaaaGreatDoorZProgG
/- The program's reader: atoms and literals. -/
namespace Go.Proofs.YtilaanolklhkaaaGreatDoorZ
open Go.Abs
set_option linter.unusedSimpArgs false
set_option linter.unusedVariables false
set_option maxRecDepth 100000

/-- an atom of the text, as the program keeps it: its predicate by its place among the names -/
structure PA (N : List Tx) (a : RAtom) (k : Int) (n : Nat) (c : List AV) : Prop where
  mem : a.pred ∈ N
  idx : k = (N.idxOf a.pred : Nat)
  len : n = a.terms.length
  cells : c = tcells a.terms
theorem PA.mono {N N' : List Tx} {a : RAtom} {k : Int} {n : Nat} {c : List AV} (h : PA N a k n c) (hN : N <+: N') : PA N' a k n c :=
  ⟨hN.subset h.mem, by rw [idx_pre hN h.mem]; exact h.idx, h.len, h.cells⟩

theorem pAtom_sep (nt : Bool) (s : Tx) : pAtom nt s = (pName s).bnd fun p r => (pByte 40 r).bnd fun _ r => (pTerms r).bnd fun ts r => (pByte 41 r).bnd fun _ r => .got { nt := nt, pred := p, terms := ts } r := by
  unfold pAtom pArgs pTerms pSep
  cases pName s with
  | bad e => rfl
  | got p r =>
    simp only [Rd.bnd]
    cases pByte 40 r with
    | bad e => rfl
    | got u r =>
      simp only [Rd.bnd]
      cases pTerm r with
      | bad e => rfl
      | got w r =>
        simp only [Rd.bnd]
        cases pMore pTerm 2 r <;> rfl

set_option maxHeartbeats 16000000 in
theorem readAtom_R (nt : Bool) {t : Tx} {o : Nat} {N : List Tx} {id : Nat} {s : Tx} {σ : St} (ht : t.length ≤ 1000) (hR : RS t o N id s σ) :
    ACalls Tryz.prog 81 [ptr o 0] σ fun x σ' => ∃ k n ids c N' id', x = tp [ag [sc (.int .i64 k), sl ids n c], sc (.bool (pAtom nt s).ok)] ∧ Rs o σ id σ' id' ∧ RS t o N' id' (pAtom nt s).rest σ' ∧ N <+: N' ∧ Rd.Val (pAtom nt s) fun a => PA N' a k n c := by
  have hn := hR.lt
  rw [pAtom_sep]
  refine acalls 34 [.cell 2 92, .tmp 3] Tryz.func81 rfl (by decide) rfl rfl (Nat.le_of_ble_eq_true rfl) ?_
  repeat' (first
    | with_reducible apply awp_seq
    | with_reducible apply awp_block
    | ((with_reducible refine awp_region_k ?_); intro kont hkont)
    | ((with_reducible refine hkont.out _ _ ?_); clear hkont kont)
    | ((first | ((with_reducible refine gd_go ?_); refine gd_split (fun h => ?_) (fun h => ?_)) | ((with_reducible refine gt_go ?_); refine gt_split (fun h => ?_) (fun h => ?_)) | ((with_reducible refine cond_go ?_); refine awp_cond_split rfl (fun h => ?_) (fun h => ?_))) <;> (try simp only [upd, ↓reduceIte, Nat.reduceEqDiff] at h) <;> (try simp only [Bool.not_eq_true', Bool.not_eq_false'] at h) <;> (try simp only [*, reduceCtorEq, decide_true, decide_false] at h) <;> (try (have hari := h; simp only [decide_eq_true_eq, decide_eq_false_iff_not, Int.not_lt, Int.not_le] at hari)) <;> (try (first | contradiction | (exfalso; omega) | (exfalso; simp at h; done))) <;> (try simp only [Abs.gd_true, Abs.gd_false, Abs.gt_true, Abs.gt_false]))
    | ((with_reducible refine aapp_go ?_); refine aApp_own (by first | fail) (by assumption) (by assumption) (by decide) (by rfl) (by first | assumption | (simp; done) | (simp; omega) | omega) (by rfl) (by rfl) (by decide) (by omega) (by omega) ?_; intro idn σn hOn hKn eobj enobj ever entop)
    | ((with_reducible refine acalls_go ?_); refine ACalls.mono (readPredicate_R ht (by repeat (first | (with_reducible assumption) | (with_reducible apply RS.put; rotate_left; (first | omega | (simp only [new_nobj, put_nobj, lay_nobj, lay_obj] at *; omega))) | (with_reducible apply RS.new) | (with_reducible apply RS.lay) | assumption))) ?_; rintro _ _ ⟨k, N', id', rfl, hS1, hR1, hP1, hV1⟩; (have kno1 := hS1.keep.nobj; (try simp only [new_nobj, put_nobj, lay_nobj] at kno1); have kob1 := hS1.keep.obj))
    | ((with_reducible refine acalls_go ?_); refine ACalls.mono (take_R ht (by assumption)) ?_; rintro _ _ ⟨rfl, hKt, hRt⟩; (have kno2 := hKt.nobj; (try simp only [new_nobj, put_nobj, lay_nobj] at kno2); have kob2 := hKt.obj))
    | ((with_reducible refine acalls_go ?_); refine ACalls.mono (readTerms_R ht (by assumption)) ?_; rintro _ _ ⟨n, ids, c, rfl, hKr, hRr, hVr⟩; (have kno3 := hKr.nobj; (try simp only [new_nobj, put_nobj, lay_nobj] at kno3); have kob3 := hKr.obj))
    | with_reducible apply awp_skip
    | with_reducible apply awp_exit
    | with_reducible apply awp_ret
    | (simp (maxSteps := 3000000) (disch := (first | omega | (simp only [Abs.new_nobj, Abs.put_nobj, Abs.lay_nobj, Abs.bs_size, List.length_cons, List.length_nil, *]; omega))) only [↓Abs.mapA_nil, ↓Abs.mapA_cons, Abs.put_ne', Abs.aRun, implies_true, Abs.map_zrep, List.head?_drop, Nat.mul_one, List.length_map, Nat.zero_mul, Nat.zero_add, Option.map_none, Int.reduceToNat, Nat.add_one_sub_one, Nat.sub_zero, List.take_length, List.all_cons, List.all_nil, Value.oneCell', Abs.awant, Abs.aStep, Abs.aq, Abs.al, Abs.aev, Abs.aput, Abs.upd, Abs.dstOk, Abs.cst, Abs.cst1, Abs.acells, Abs.flat, Abs.behind, Abs.aload, Abs.apart1, Abs.abin, Abs.aconv, Abs.aint, Abs.bnd, Abs.lsp, Abs.afill, Abs.thenQ, Abs.blkQ, Abs.retQ, Abs.ares, Abs.aresL, Abs.ares1, Abs.initS, Abs.gd_true, Abs.gd_false, Abs.nxt, Abs.aT, Abs.aTk, Abs.aU, Abs.aOne, Abs.kep, Abs.gt_true, Abs.gt_false, Abs.rdo, Abs.objOf, Option.map_some, Option.bind_some, Option.bind_none, List.getElem?_cons_zero, List.getElem?_cons_succ, List.getElem?_toArray, List.map_cons, List.map_nil, List.toList_toArray, ↓reduceIte, Nat.reduceLT, Nat.reduceEqDiff, decide_true, decide_false, Bool.true_and, Bool.and_true, beq_self_eq_true, beq_true, beq_false, Bool.not_false, Bool.not_true, ge_iff_le, gt_iff_lt, reduceCtorEq, true_and, and_true, List.getD_cons_zero, List.getD_cons_succ, List.length_cons, List.length_nil, List.drop_succ_cons, List.drop_zero, List.take_succ_cons, List.take_zero, List.head?_cons, Nat.reduceAdd, Nat.reduceMul, Nat.reduceLeDiff, Option.isSome_some, if_true, if_false, Bool.false_eq_true, Int.toNat_natCast, Value.cells, Abs.new_same, Abs.new_at, Abs.new_lt, Abs.new_nobj, Abs.new_top, Abs.new_ntop, Abs.put_same, Abs.put_ne, Abs.put_nobj, Abs.put_top, Abs.put_ntop, Abs.lay_obj, Abs.lay_nobj, Abs.lay_ntop, Abs.bs_size, Abs.bs_get, Abs.bs_toList, Abs.bs_extract, Abs.bs_append, Abs.bs_nil, List.set_cons_zero, List.set_cons_succ, List.cons_append, List.nil_append, List.append_nil, List.replicate_succ, List.replicate_zero, List.flatten_cons, List.flatten_nil, ne_eq, not_true_eq_false, false_or, or_false, Nat.lt_irrefl, gt_iff_lt, Int.natCast_nonneg, Abs.i64w, Abs.ifp, Abs.tstr_92, Abs.tsz_92, Abs.tzero_92, *])
    | ((with_reducible refine and_go ?_); refine And.intro (by first | exact kept_refl | exact kept_last rfl | exact kept_keep (by assumption)) ?_)
    | (refine hkont.out _ _ ?_; clear hkont kont))
  · obtain ⟨e, he⟩ := Rd.ok_false h
    rw [he] at hR1 ⊢
    simp only [Rd.rest] at hR1
    exact ⟨_, rfl, 0, 0, 1, [], N', id', rfl, by repeat (first | exact Rs.refl _ _ _ | (with_reducible assumption) | (with_reducible apply Rs.put; rotate_left; (first | omega | (simp only [new_nobj, put_nobj, lay_nobj, lay_obj] at *; omega))) | (with_reducible apply Rs.new) | (with_reducible apply Rs.lay) | (refine Rs.trans ?_ (by with_reducible assumption)) | (refine Rs.transX ?_ (by with_reducible assumption))), by show RS t o N' id' e _; repeat (first | (with_reducible assumption) | (with_reducible apply RS.put; rotate_left; (first | omega | (simp only [new_nobj, put_nobj, lay_nobj, lay_obj] at *; omega))) | (with_reducible apply RS.new) | (with_reducible apply RS.lay) | assumption), hP1, trivial⟩
  · obtain ⟨p, r, he⟩ := Rd.ok_true (show (pName s).ok = true by assumption)
    rw [he] at hR1 hRt h ⊢
    rw [show (Rd.got p r).rest = r from rfl] at h hRt
    obtain ⟨e, hb⟩ := Rd.ok_false h
    rw [hb] at hRt
    simp only [Rd.rest] at hRt
    simp only [Rd.bnd, hb]
    exact ⟨_, rfl, 0, 0, 1, [], N', id', rfl, by repeat (first | exact Rs.refl _ _ _ | (with_reducible assumption) | (with_reducible apply Rs.put; rotate_left; (first | omega | (simp only [new_nobj, put_nobj, lay_nobj, lay_obj] at *; omega))) | (with_reducible apply Rs.new) | (with_reducible apply Rs.lay) | (refine Rs.trans ?_ (by with_reducible assumption)) | (refine Rs.transX ?_ (by with_reducible assumption))), by show RS t o N' id' e _; repeat (first | (with_reducible assumption) | (with_reducible apply RS.put; rotate_left; (first | omega | (simp only [new_nobj, put_nobj, lay_nobj, lay_obj] at *; omega))) | (with_reducible apply RS.new) | (with_reducible apply RS.lay) | assumption), hP1, trivial⟩
  · obtain ⟨p, r, he⟩ := Rd.ok_true (show (pName s).ok = true by assumption)
    have hb1 : (pByte 40 (pName s).rest).ok = true := by assumption
    rw [he] at hb1 hRr h ⊢
    rw [show (Rd.got p r).rest = r from rfl] at hb1 h hRr
    obtain ⟨u, r2, hb⟩ := Rd.ok_true hb1
    rw [hb] at h hRr
    rw [show (Rd.got u r2).rest = r2 from rfl] at h hRr
    obtain ⟨e, hc⟩ := Rd.ok_false h
    rw [hc] at hRr
    simp only [Rd.rest] at hRr
    simp only [Rd.bnd, hb, hc]
    exact ⟨_, rfl, 0, 0, 1, [], N', id', rfl, by repeat (first | exact Rs.refl _ _ _ | (with_reducible assumption) | (with_reducible apply Rs.put; rotate_left; (first | omega | (simp only [new_nobj, put_nobj, lay_nobj, lay_obj] at *; omega))) | (with_reducible apply Rs.new) | (with_reducible apply Rs.lay) | (refine Rs.trans ?_ (by with_reducible assumption)) | (refine Rs.transX ?_ (by with_reducible assumption))), by show RS t o N' id' e _; repeat (first | (with_reducible assumption) | (with_reducible apply RS.put; rotate_left; (first | omega | (simp only [new_nobj, put_nobj, lay_nobj, lay_obj] at *; omega))) | (with_reducible apply RS.new) | (with_reducible apply RS.lay) | assumption), hP1, trivial⟩
  · obtain ⟨p, r, he⟩ := Rd.ok_true (show (pName s).ok = true by assumption)
    have hb1 : (pByte 40 (pName s).rest).ok = true := by assumption
    rw [he] at hb1 hRr h hRt hVr hV1 ⊢
    rw [show (Rd.got p r).rest = r from rfl] at hb1 h hRr hRt hVr
    obtain ⟨u, r2, hb⟩ := Rd.ok_true hb1
    rw [hb] at h hRr hRt hVr
    rw [show (Rd.got u r2).rest = r2 from rfl] at h hRr hRt hVr
    obtain ⟨ts, r3, hc⟩ := Rd.ok_true h
    rw [hc] at hRr hRt hVr
    rw [show (Rd.got ts r3).rest = r3 from rfl] at hRr hRt
    obtain ⟨v1, v2⟩ : p ∈ N' ∧ k = (N'.idxOf p : Nat) := hV1
    obtain ⟨v3, v4⟩ : n = ts.length ∧ c = tcells ts := hVr
    simp only [Rd.bnd, hb, hc]
    cases hd : pByte 41 r3 with
    | bad e =>
      rw [hd] at hRt
      simp only [Rd.rest] at hRt
      exact ⟨_, rfl, k, n, ids, c, N', id', by simp only [Rd.rest, hb, hc, hd, Rd.ok, Rd.bnd], by repeat (first | exact Rs.refl _ _ _ | (with_reducible assumption) | (with_reducible apply Rs.put; rotate_left; (first | omega | (simp only [new_nobj, put_nobj, lay_nobj, lay_obj] at *; omega))) | (with_reducible apply Rs.new) | (with_reducible apply Rs.lay) | (refine Rs.trans ?_ (by with_reducible assumption)) | (refine Rs.transX ?_ (by with_reducible assumption))), by show RS t o N' id' e _; repeat (first | (with_reducible assumption) | (with_reducible apply RS.put; rotate_left; (first | omega | (simp only [new_nobj, put_nobj, lay_nobj, lay_obj] at *; omega))) | (with_reducible apply RS.new) | (with_reducible apply RS.lay) | assumption), hP1, trivial⟩
    | got u2 r4 =>
      rw [hd] at hRt
      simp only [Rd.rest] at hRt
      exact ⟨_, rfl, k, n, ids, c, N', id', by simp only [Rd.rest, hb, hc, hd, Rd.ok, Rd.bnd], by repeat (first | exact Rs.refl _ _ _ | (with_reducible assumption) | (with_reducible apply Rs.put; rotate_left; (first | omega | (simp only [new_nobj, put_nobj, lay_nobj, lay_obj] at *; omega))) | (with_reducible apply Rs.new) | (with_reducible apply Rs.lay) | (refine Rs.trans ?_ (by with_reducible assumption)) | (refine Rs.transX ?_ (by with_reducible assumption))), by show RS t o N' id' r4 _; repeat (first | (with_reducible assumption) | (with_reducible apply RS.put; rotate_left; (first | omega | (simp only [new_nobj, put_nobj, lay_nobj, lay_obj] at *; omega))) | (with_reducible apply RS.new) | (with_reducible apply RS.lay) | assumption), hP1, ⟨v1, v2, v3, v4⟩⟩

theorem pLit_eq (s : Tx) : pLit s = pAtom (pByte 33 s).ok (pByte 33 s).rest := by
  cases s with
  | nil => rfl
  | cons b r =>
    unfold pLit pByte; dsimp only
    split <;> rfl

set_option maxHeartbeats 16000000 in
theorem readLiteral_R {t : Tx} {o : Nat} {N : List Tx} {id : Nat} {s : Tx} {σ : St} (ht : t.length ≤ 1000) (hR : RS t o N id s σ) :
    ACalls Tryz.prog 189 [ptr o 0] σ fun x σ' => ∃ b k n ids c N' id', x = tp [ag [sc (.bool b), sc (.int .i64 k), sl ids n c], sc (.bool (pLit s).ok)] ∧ Rs o σ id σ' id' ∧ RS t o N' id' (pLit s).rest σ' ∧ N <+: N' ∧ Rd.Val (pLit s) fun a => b = a.nt ∧ PA N' a k n c := by
  have hn := hR.lt
  rw [pLit_eq]
  refine acalls 18 [.cell 2 180, .tmp 3] Tryz.func189 rfl (by decide) rfl rfl (Nat.le_of_ble_eq_true rfl) ?_
  repeat' (first
    | with_reducible apply awp_seq
    | with_reducible apply awp_block
    | ((with_reducible refine awp_region_k ?_); intro kont hkont)
    | ((with_reducible refine hkont.out _ _ ?_); clear hkont kont)
    | ((first | ((with_reducible refine gd_go ?_); refine gd_split (fun h => ?_) (fun h => ?_)) | ((with_reducible refine gt_go ?_); refine gt_split (fun h => ?_) (fun h => ?_)) | ((with_reducible refine cond_go ?_); refine awp_cond_split rfl (fun h => ?_) (fun h => ?_))) <;> (try simp only [upd, ↓reduceIte, Nat.reduceEqDiff] at h) <;> (try simp only [Bool.not_eq_true', Bool.not_eq_false'] at h) <;> (try simp only [*, reduceCtorEq, decide_true, decide_false] at h) <;> (try (have hari := h; simp only [decide_eq_true_eq, decide_eq_false_iff_not, Int.not_lt, Int.not_le] at hari)) <;> (try (first | contradiction | (exfalso; omega) | (exfalso; simp at h; done))) <;> (try simp only [Abs.gd_true, Abs.gd_false, Abs.gt_true, Abs.gt_false]))
    | ((with_reducible refine aapp_go ?_); refine aApp_own (by first | fail) (by assumption) (by assumption) (by decide) (by rfl) (by first | assumption | (simp; done) | (simp; omega) | omega) (by rfl) (by rfl) (by decide) (by omega) (by omega) ?_; intro idn σn hOn hKn eobj enobj ever entop)
    | ((with_reducible refine acalls_go ?_); refine ACalls.mono (take_R ht (by repeat (first | (with_reducible assumption) | (with_reducible apply RS.put; rotate_left; (first | omega | (simp only [new_nobj, put_nobj, lay_nobj, lay_obj] at *; omega))) | (with_reducible apply RS.new) | (with_reducible apply RS.lay) | assumption))) ?_; rintro _ _ ⟨rfl, hKt, hRt⟩; (have kno2 := hKt.nobj; (try simp only [new_nobj, put_nobj, lay_nobj] at kno2); have kob2 := hKt.obj))
    | ((with_reducible refine acalls_go ?_); refine ACalls.mono (readAtom_R (pByte 33 s).ok ht (by assumption)) ?_; rintro _ _ ⟨k, n, ids, c, N', id', rfl, hS1, hR1, hP1, hV1⟩; (have kno1 := hS1.keep.nobj; (try simp only [new_nobj, put_nobj, lay_nobj] at kno1); have kob1 := hS1.keep.obj))
    | with_reducible apply awp_skip
    | with_reducible apply awp_exit
    | with_reducible apply awp_ret
    | (simp (maxSteps := 3000000) (disch := (first | omega | (simp only [Abs.new_nobj, Abs.put_nobj, Abs.lay_nobj, Abs.bs_size, List.length_cons, List.length_nil, *]; omega))) only [↓Abs.mapA_nil, ↓Abs.mapA_cons, Abs.put_ne', Abs.aRun, implies_true, Abs.map_zrep, List.head?_drop, Nat.mul_one, List.length_map, Nat.zero_mul, Nat.zero_add, Option.map_none, Int.reduceToNat, Nat.add_one_sub_one, Nat.sub_zero, List.take_length, List.all_cons, List.all_nil, Value.oneCell', Abs.awant, Abs.aStep, Abs.aq, Abs.al, Abs.aev, Abs.aput, Abs.upd, Abs.dstOk, Abs.cst, Abs.cst1, Abs.acells, Abs.flat, Abs.behind, Abs.aload, Abs.apart1, Abs.abin, Abs.aconv, Abs.aint, Abs.bnd, Abs.lsp, Abs.afill, Abs.thenQ, Abs.blkQ, Abs.retQ, Abs.ares, Abs.aresL, Abs.ares1, Abs.initS, Abs.gd_true, Abs.gd_false, Abs.nxt, Abs.aT, Abs.aTk, Abs.aU, Abs.aOne, Abs.kep, Abs.gt_true, Abs.gt_false, Abs.rdo, Abs.objOf, Option.map_some, Option.bind_some, Option.bind_none, List.getElem?_cons_zero, List.getElem?_cons_succ, List.getElem?_toArray, List.map_cons, List.map_nil, List.toList_toArray, ↓reduceIte, Nat.reduceLT, Nat.reduceEqDiff, decide_true, decide_false, Bool.true_and, Bool.and_true, beq_self_eq_true, beq_true, beq_false, Bool.not_false, Bool.not_true, ge_iff_le, gt_iff_lt, reduceCtorEq, true_and, and_true, List.getD_cons_zero, List.getD_cons_succ, List.length_cons, List.length_nil, List.drop_succ_cons, List.drop_zero, List.take_succ_cons, List.take_zero, List.head?_cons, Nat.reduceAdd, Nat.reduceMul, Nat.reduceLeDiff, Option.isSome_some, if_true, if_false, Bool.false_eq_true, Int.toNat_natCast, Value.cells, Abs.new_same, Abs.new_at, Abs.new_lt, Abs.new_nobj, Abs.new_top, Abs.new_ntop, Abs.put_same, Abs.put_ne, Abs.put_nobj, Abs.put_top, Abs.put_ntop, Abs.lay_obj, Abs.lay_nobj, Abs.lay_ntop, Abs.bs_size, Abs.bs_get, Abs.bs_toList, Abs.bs_extract, Abs.bs_append, Abs.bs_nil, List.set_cons_zero, List.set_cons_succ, List.cons_append, List.nil_append, List.append_nil, List.replicate_succ, List.replicate_zero, List.flatten_cons, List.flatten_nil, ne_eq, not_true_eq_false, false_or, or_false, Nat.lt_irrefl, gt_iff_lt, Int.natCast_nonneg, Abs.i64w, Abs.ifp, Abs.tstr_180, Abs.tsz_180, Abs.tsz_92, Abs.tzero_180, Abs.tzero_92, *])
    | ((with_reducible refine and_go ?_); refine And.intro (by first | exact kept_refl | exact kept_last rfl | exact kept_keep (by assumption)) ?_)
    | (refine hkont.out _ _ ?_; clear hkont kont))
  refine ⟨_, rfl, (pByte 33 s).ok, k, n, ids, c, N', id', rfl, by repeat (first | exact Rs.refl _ _ _ | (with_reducible assumption) | (with_reducible apply Rs.put; rotate_left; (first | omega | (simp only [new_nobj, put_nobj, lay_nobj, lay_obj] at *; omega))) | (with_reducible apply Rs.new) | (with_reducible apply Rs.lay) | (refine Rs.trans ?_ (by with_reducible assumption)) | (refine Rs.transX ?_ (by with_reducible assumption))), by repeat (first | (with_reducible assumption) | (with_reducible apply RS.put; rotate_left; (first | omega | (simp only [new_nobj, put_nobj, lay_nobj, lay_obj] at *; omega))) | (with_reducible apply RS.new) | (with_reducible apply RS.lay) | assumption), hP1, ?_⟩
  cases hp : pAtom (pByte 33 s).ok (pByte 33 s).rest with
  | bad e => trivial
  | got a r =>
    rw [hp] at hV1
    exact ⟨(pAtom_took hp).2.2.symm, hV1⟩

/-- a literal in its cells -/
def PL (N : List Tx) (a : RAtom) (c : List AV) : Prop := a.pred ∈ N ∧ ∃ ids, c = [sc (.bool a.nt), sc (.int .i64 (N.idxOf a.pred : Nat)), sl ids a.terms.length (tcells a.terms)]
theorem PL_len {N : List Tx} (a : RAtom) (c : List AV) (h : PL N a c) : c.length = 3 := by obtain ⟨-, ids, rfl⟩ := h; rfl
theorem PL.mono {N N' : List Tx} (hN : N <+: N') (a : RAtom) (c : List AV) (h : PL N a c) : PL N' a c := by
  obtain ⟨hm, ids, rfl⟩ := h
  exact ⟨hN.subset hm, ids, by rw [idx_pre hN hm]⟩
theorem PL.of {N : List Tx} {a : RAtom} {b : Bool} {k : Int} {n : Nat} {ids : Nat} {c : List AV} (hb : b = a.nt) (h : PA N a k n c) : PL N a [sc (.bool b), sc (.int .i64 k), sl ids n c] := by
  obtain ⟨h1, rfl, rfl, rfl⟩ := h
  subst hb
  exact ⟨h1, ids, rfl⟩
/-- an item in its cells -/
def PI (N : List Tx) (x : RItem) (c : List AV) : Prop := x.head.pred ∈ N ∧ ∃ ih id b, EL (PL N) x.body b ∧ c = [sc (.bool x.out), sc (.int .i64 (N.idxOf x.head.pred : Nat)), sl ih x.head.terms.length (tcells x.head.terms), sl id x.body.length b]
theorem PI_len {N : List Tx} (x : RItem) (c : List AV) (h : PI N x c) : c.length = 4 := by obtain ⟨-, ih, id, b, -, rfl⟩ := h; rfl
theorem PI.mono {N N' : List Tx} (hN : N <+: N') (x : RItem) (c : List AV) (h : PI N x c) : PI N' x c := by
  obtain ⟨hm, ih, id, b, hb, rfl⟩ := h
  exact ⟨hN.subset hm, ih, id, b, hb.mono (PL.mono hN), by rw [idx_pre hN hm]⟩
end Go.Proofs.YtilaanolklhkaaaGreatDoorZ
