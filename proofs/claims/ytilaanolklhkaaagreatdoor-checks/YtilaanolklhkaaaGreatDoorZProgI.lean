import Derived.Test.YtilaanolklhkaaaGreatDoorZProgH
/- The program's reader: bodies. -/
namespace Go.Proofs.YtilaanolklhkaaaGreatDoorZ
open Go.Abs
set_option linter.unusedSimpArgs false
set_option linter.unusedVariables false
set_option maxRecDepth 100000

def pArrow (s : Tx) : Rd Unit := (pByte 58 s).bnd fun _ r => pByte 45 r
set_option maxHeartbeats 4000000 in
theorem takeArrow_R {t : Tx} {o : Nat} {N : List Tx} {id : Nat} {s : Tx} {σ : St} (ht : t.length ≤ 1000) (hR : RS t o N id s σ) :
    ACalls Tryz.prog 154 [ptr o 0] σ fun x σ' => x = sc (.bool (pArrow s).ok) ∧ KeepX o σ σ' ∧ RS t o N id (pArrow s).rest σ' := by
  unfold pArrow
  refine acalls 8 [.tmp 2] Tryz.func154 rfl (by decide) rfl rfl (Nat.le_of_ble_eq_true rfl) ?_
  repeat' (first
    | with_reducible apply awp_seq
    | with_reducible apply awp_block
    | ((with_reducible refine awp_region_k ?_); intro kont hkont)
    | ((with_reducible refine hkont.out _ _ ?_); clear hkont kont)
    | ((first | ((with_reducible refine gd_go ?_); refine gd_split (fun h => ?_) (fun h => ?_)) | ((with_reducible refine gt_go ?_); refine gt_split (fun h => ?_) (fun h => ?_)) | ((with_reducible refine cond_go ?_); refine awp_cond_split rfl (fun h => ?_) (fun h => ?_))) <;> (try simp only [upd, ↓reduceIte, Nat.reduceEqDiff] at h) <;> (try simp only [Bool.not_eq_true', Bool.not_eq_false'] at h) <;> (try simp only [*, reduceCtorEq, decide_true, decide_false] at h) <;> (try (have hari := h; simp only [decide_eq_true_eq, decide_eq_false_iff_not, Int.not_lt, Int.not_le] at hari)) <;> (try (first | contradiction | (exfalso; omega) | (exfalso; simp at h; done))) <;> (try simp only [Abs.gd_true, Abs.gd_false, Abs.gt_true, Abs.gt_false]))
    | ((with_reducible refine aapp_go ?_); refine aApp_own (by first | fail) (by assumption) (by assumption) (by decide) (by rfl) (by first | assumption | (simp; done) | (simp; omega) | omega) (by rfl) (by rfl) (by decide) (by omega) (by omega) ?_; intro idn σn hOn hKn eobj enobj ever entop)
    | ((with_reducible refine acalls_go ?_); refine ACalls.mono (take_R ht (by assumption)) ?_; rintro _ _ ⟨rfl, hKt, hRt⟩)
    | with_reducible apply awp_skip
    | with_reducible apply awp_exit
    | with_reducible apply awp_ret
    | (simp (maxSteps := 3000000) (disch := (first | omega | (simp only [Abs.new_nobj, Abs.put_nobj, Abs.lay_nobj, Abs.bs_size, List.length_cons, List.length_nil, *]; omega))) only [↓Abs.mapA_nil, ↓Abs.mapA_cons, Abs.put_ne', Abs.aRun, implies_true, Abs.map_zrep, List.head?_drop, Nat.mul_one, List.length_map, Nat.zero_mul, Nat.zero_add, Option.map_none, Int.reduceToNat, Nat.add_one_sub_one, Nat.sub_zero, List.take_length, List.all_cons, List.all_nil, Value.oneCell', Abs.awant, Abs.aStep, Abs.aq, Abs.al, Abs.aev, Abs.aput, Abs.upd, Abs.dstOk, Abs.cst, Abs.cst1, Abs.acells, Abs.flat, Abs.behind, Abs.aload, Abs.apart1, Abs.abin, Abs.aconv, Abs.aint, Abs.bnd, Abs.lsp, Abs.afill, Abs.thenQ, Abs.blkQ, Abs.retQ, Abs.ares, Abs.aresL, Abs.ares1, Abs.initS, Abs.gd_true, Abs.gd_false, Abs.nxt, Abs.aT, Abs.aTk, Abs.aU, Abs.aOne, Abs.kep, Abs.gt_true, Abs.gt_false, Abs.rdo, Abs.objOf, Option.map_some, Option.bind_some, Option.bind_none, List.getElem?_cons_zero, List.getElem?_cons_succ, List.getElem?_toArray, List.map_cons, List.map_nil, List.toList_toArray, ↓reduceIte, Nat.reduceLT, Nat.reduceEqDiff, decide_true, decide_false, Bool.true_and, Bool.and_true, beq_self_eq_true, beq_true, beq_false, Bool.not_false, Bool.not_true, ge_iff_le, gt_iff_lt, reduceCtorEq, true_and, and_true, List.getD_cons_zero, List.getD_cons_succ, List.length_cons, List.length_nil, List.drop_succ_cons, List.drop_zero, List.take_succ_cons, List.take_zero, List.head?_cons, Nat.reduceAdd, Nat.reduceMul, Nat.reduceLeDiff, Option.isSome_some, if_true, if_false, Bool.false_eq_true, Int.toNat_natCast, Value.cells, Abs.new_same, Abs.new_at, Abs.new_lt, Abs.new_nobj, Abs.new_top, Abs.new_ntop, Abs.put_same, Abs.put_ne, Abs.put_nobj, Abs.put_top, Abs.put_ntop, Abs.lay_obj, Abs.lay_nobj, Abs.lay_ntop, Abs.bs_size, Abs.bs_get, Abs.bs_toList, Abs.bs_extract, Abs.bs_append, Abs.bs_nil, List.set_cons_zero, List.set_cons_succ, List.cons_append, List.nil_append, List.append_nil, List.replicate_succ, List.replicate_zero, List.flatten_cons, List.flatten_nil, ne_eq, not_true_eq_false, false_or, or_false, Nat.lt_irrefl, gt_iff_lt, Int.natCast_nonneg, Abs.i64w, Abs.ifp, *])
    | ((with_reducible refine and_go ?_); refine And.intro (by first | exact kept_refl | exact kept_last rfl | exact kept_keep (by assumption)) ?_)
    | (refine hkont.out _ _ ?_; clear hkont kont))
  · obtain ⟨e, he⟩ := Rd.ok_false h
    rw [he] at hRt ⊢
    first | exact ⟨_, rfl, rfl, hKt, hRt⟩ | exact ⟨_, rfl, rfl, hRt⟩ | exact ⟨_, rfl, hKt, hRt⟩
  · obtain ⟨u, r, he⟩ := Rd.ok_true h
    rw [he] at hRt ⊢
    first | exact ⟨_, rfl, rfl, by repeat (first | exact KeepX.refl _ _ | (with_reducible assumption) | (with_reducible apply KeepX.putN; rotate_left; (first | omega | (simp only [new_nobj, put_nobj, lay_nobj, lay_obj] at *; omega))) | (with_reducible apply KeepX.new) | (with_reducible apply KeepX.lay) | (with_reducible refine KeepX.trans ?_ (by assumption))), hRt⟩ | exact ⟨_, rfl, rfl, hRt⟩ | exact ⟨_, rfl, by repeat (first | exact KeepX.refl _ _ | (with_reducible assumption) | (with_reducible apply KeepX.putN; rotate_left; (first | omega | (simp only [new_nobj, put_nobj, lay_nobj, lay_obj] at *; omega))) | (with_reducible apply KeepX.new) | (with_reducible apply KeepX.lay) | (with_reducible refine KeepX.trans ?_ (by assumption))), hRt⟩

theorem apart_step {σ0 σ2 : St} {id1 id2 ids n : Nat} (h : id1 = 1 ∨ id1 ≠ ids) (hO : Own σ0 σ2 ids n) (hn : 0 < n) (hs : id2 = id1 ∨ σ2.ntop + 2 ≤ id2) : id2 = 1 ∨ id2 ≠ ids := by
  rcases hO with ⟨-, rfl⟩ | ⟨k, h1, h2, h3, h4, h5⟩ <;> omega
theorem apart_flip {σ0 σ2 : St} {id1 ids n : Nat} (h : id1 = 1 ∨ id1 ≠ ids) (hO : Own σ0 σ2 ids n) : ids = 1 ∨ ids ≠ id1 := by
  rcases hO with ⟨h1, rfl⟩ | ⟨k, h1, h2, h3, h4, h5⟩ <;> omega
theorem OwnN.fresh {σ : St} {id n : Nat} (h : OwnN σ id n) : id = 1 ∨ id ≠ σ.ntop + 2 := by
  rcases h with ⟨rfl, -⟩ | ⟨k, h1, h2, -⟩ <;> omega

theorem apart_app {X : St} {id3 ids idn n : Nat} (h : OwnN X id3 n) (hap : id3 = 1 ∨ id3 ≠ ids) (hid : idn = ids ∨ X.ntop + 2 ≤ idn) : id3 = 1 ∨ id3 ≠ idn := by
  rcases h with ⟨rfl, -⟩ | ⟨k, h1, h2, -⟩ <;> omega
abbrev pLits (s : Tx) : Rd (List RAtom) := pSep pLit 4 s

set_option maxHeartbeats 16000000 in
theorem readBody_R {t : Tx} {o : Nat} {N : List Tx} {id : Nat} {s : Tx} {σ : St} (ht : t.length ≤ 1000) (hR : RS t o N id s σ) :
    ACalls Tryz.prog 155 [ptr o 0] σ fun x σ' => ∃ n ids c N' id', x = tp [sl ids n c, sc (.bool (pLits s).ok)] ∧ Rs o σ id σ' id' ∧ RS t o N' id' (pLits s).rest σ' ∧ N <+: N' ∧ Rd.Val (pLits s) fun ls => n = ls.length ∧ EL (PL N') ls c := by
  have hn := hR.lt
  refine acalls 37 [.tmp 2, .tmp 3] Tryz.func155 rfl (by decide) rfl rfl (Nat.le_of_ble_eq_true rfl) ?_
  repeat' (first
    | with_reducible apply awp_seq
    | with_reducible apply awp_block
    | ((with_reducible refine awp_region_k ?_); intro kont hkont)
    | ((with_reducible refine hkont.out _ _ ?_); clear hkont kont)
    | ((first | ((with_reducible refine gd_go ?_); refine gd_split (fun h => ?_) (fun h => ?_)) | ((with_reducible refine gt_go ?_); refine gt_split (fun h => ?_) (fun h => ?_)) | ((with_reducible refine cond_go ?_); refine awp_cond_split rfl (fun h => ?_) (fun h => ?_))) <;> (try simp only [upd, ↓reduceIte, Nat.reduceEqDiff] at h) <;> (try simp only [Bool.not_eq_true', Bool.not_eq_false'] at h) <;> (try simp only [*, reduceCtorEq, decide_true, decide_false] at h) <;> (try (have hari := h; simp only [decide_eq_true_eq, decide_eq_false_iff_not, Int.not_lt, Int.not_le] at hari)) <;> (try (first | contradiction | (exfalso; omega) | (exfalso; simp at h; done))) <;> (try simp only [Abs.gd_true, Abs.gd_false, Abs.gt_true, Abs.gt_false]))
    | ((with_reducible refine aapp_go ?_); refine aApp_own (by first | exact Abs.tez_97) (by assumption) (by assumption) (by decide) (by rfl) (by first | assumption | (simp; done) | (simp; omega) | omega) (by rfl) (by rfl) (by decide) (by omega) (by omega) ?_; intro idn σn hOn hKn eobj enobj ever entop)
    | ((with_reducible refine acalls_go ?_); refine ACalls.mono (readLiteral_R ht hR) ?_; rintro _ _ ⟨b, k, n, ia, c, N1, id1, rfl, hS1, hR1, hP1, hV1⟩; (have kno1 := hS1.keep.nobj))
    | with_reducible apply awp_skip
    | with_reducible apply awp_exit
    | with_reducible apply awp_ret
    | (simp (maxSteps := 3000000) (disch := (first | omega | (simp only [Abs.new_nobj, Abs.put_nobj, Abs.lay_nobj, Abs.bs_size, List.length_cons, List.length_nil, *]; omega))) only [↓Abs.mapA_nil, ↓Abs.mapA_cons, Abs.put_ne', Abs.aRun, implies_true, Abs.map_zrep, List.head?_drop, Nat.mul_one, List.length_map, Nat.zero_mul, Nat.zero_add, Option.map_none, Int.reduceToNat, Nat.add_one_sub_one, Nat.sub_zero, List.take_length, List.all_cons, List.all_nil, Value.oneCell', Abs.awant, Abs.aStep, Abs.aq, Abs.al, Abs.aev, Abs.aput, Abs.upd, Abs.dstOk, Abs.cst, Abs.cst1, Abs.acells, Abs.flat, Abs.behind, Abs.aload, Abs.apart1, Abs.abin, Abs.aconv, Abs.aint, Abs.bnd, Abs.lsp, Abs.afill, Abs.thenQ, Abs.blkQ, Abs.retQ, Abs.ares, Abs.aresL, Abs.ares1, Abs.initS, Abs.gd_true, Abs.gd_false, Abs.nxt, Abs.aT, Abs.aTk, Abs.aU, Abs.aOne, Abs.kep, Abs.gt_true, Abs.gt_false, Abs.rdo, Abs.objOf, Option.map_some, Option.bind_some, Option.bind_none, List.getElem?_cons_zero, List.getElem?_cons_succ, List.getElem?_toArray, List.map_cons, List.map_nil, List.toList_toArray, ↓reduceIte, Nat.reduceLT, Nat.reduceEqDiff, decide_true, decide_false, Bool.true_and, Bool.and_true, beq_self_eq_true, beq_true, beq_false, Bool.not_false, Bool.not_true, ge_iff_le, gt_iff_lt, reduceCtorEq, true_and, and_true, List.getD_cons_zero, List.getD_cons_succ, List.length_cons, List.length_nil, List.drop_succ_cons, List.drop_zero, List.take_succ_cons, List.take_zero, List.head?_cons, Nat.reduceAdd, Nat.reduceMul, Nat.reduceLeDiff, Option.isSome_some, if_true, if_false, Bool.false_eq_true, Int.toNat_natCast, Value.cells, Abs.new_same, Abs.new_at, Abs.new_lt, Abs.new_nobj, Abs.new_top, Abs.new_ntop, Abs.put_same, Abs.put_ne, Abs.put_nobj, Abs.put_top, Abs.put_ntop, Abs.lay_obj, Abs.lay_nobj, Abs.lay_ntop, Abs.bs_size, Abs.bs_get, Abs.bs_toList, Abs.bs_extract, Abs.bs_append, Abs.bs_nil, List.set_cons_zero, List.set_cons_succ, List.cons_append, List.nil_append, List.append_nil, List.replicate_succ, List.replicate_zero, List.flatten_cons, List.flatten_nil, ne_eq, not_true_eq_false, false_or, or_false, Nat.lt_irrefl, gt_iff_lt, Int.natCast_nonneg, Abs.i64w, Abs.ifp, Abs.telem_97, Abs.tez_97, Abs.tsz_180, Abs.tzero_180, Tryz.underlying3, Tryz.underlying97, *])
    | ((with_reducible refine and_go ?_); refine And.intro (by first | exact kept_refl | exact kept_last rfl | exact kept_keep (by assumption)) ?_)
    | (refine hkont.out _ _ ?_; clear hkont kont))
  · rename_i σ1
    obtain ⟨e, he⟩ := Rd.ok_false h
    have hp := sepI.none (n := 4) he
    rw [he] at hR1
    simp only [Rd.rest] at hR1
    refine ⟨_, rfl, 0, 1, [], N1, id1, by rw [pLits, hp]; rfl, by repeat (first | exact Rs.refl _ _ _ | (with_reducible assumption) | (with_reducible apply Rs.put; rotate_left; (first | omega | (simp only [new_nobj, put_nobj, lay_nobj, lay_obj] at *; omega))) | (with_reducible apply Rs.new) | (with_reducible apply Rs.lay) | (refine Rs.trans ?_ (by with_reducible assumption)) | (refine Rs.transX ?_ (by with_reducible assumption))), ?_, hP1, by rw [pLits, hp]; trivial⟩
    rw [pLits, hp]
    show RS t o N1 id1 e _
    repeat (first | (with_reducible assumption) | (with_reducible apply RS.put; rotate_left; (first | omega | (simp only [new_nobj, put_nobj, lay_nobj, lay_obj] at *; omega))) | (with_reducible apply RS.new) | (with_reducible apply RS.lay) | assumption)
  · rename_i σ1
    obtain ⟨w, q, he⟩ := Rd.ok_true h
    have hp := sepI.first (n := 4) he
    rw [he] at hR1 hV1
    obtain ⟨hb, hA⟩ : b = w.nt ∧ PA N1 w k n c := hV1
    have hR1 : RS t o N1 id1 q σ1 := hR1
    have hC : PL N1 w [sc (.bool b), sc (.int .i64 k), sl ia n c] := PL.of hb hA
    have hcl : [sc (.bool b), sc (.int .i64 k), sl ia n c].length = 3 := rfl
    generalize hcw : [sc (.bool b), sc (.int .i64 k), sl ia n c] = cw at hC hcl
    refine awp_loop (fun m s' σ' => ∃ (ls : List RAtom) (q : Tx) (ids : Nat) (d : List AV) (N2 : List Tx) (id2 : Nat), m = 5 - ls.length ∧ s' 0 = ptr o 0 ∧ s' 6 = sl ids ls.length d ∧ Rs o σ id σ' id2 ∧ RS t o N2 id2 q σ' ∧ Own σ σ' ids ls.length ∧ Abs.Hid (id2 = 1 ∨ id2 ≠ ids) ∧ N <+: N2 ∧ 0 < ls.length ∧ ls.length ≤ 5 ∧ d.length = ls.length * 3 ∧ Abs.Hid (EL (PL N2) ls d) ∧ Abs.Hid (sepI pLit 4 s ls q)) 4
      ⟨[w], q, _, cw, N1, id1, rfl, rfl, by rw [← hcw]; rfl, by repeat (first | exact Rs.refl _ _ _ | (with_reducible assumption) | (with_reducible apply Rs.put; rotate_left; (first | omega | (simp only [new_nobj, put_nobj, lay_nobj, lay_obj] at *; omega))) | (with_reducible apply Rs.new) | (with_reducible apply Rs.lay) | (refine Rs.trans ?_ (by with_reducible assumption)) | (refine Rs.transX ?_ (by with_reducible assumption))), by repeat (first | (with_reducible assumption) | (with_reducible apply RS.put; rotate_left; (first | omega | (simp only [new_nobj, put_nobj, lay_nobj, lay_obj] at *; omega))) | (with_reducible apply RS.new) | (with_reducible apply RS.lay) | assumption), Own.made' (b := (σ1.new _).put _ _) hS1.keep.ntop (by decide), hR1.own.fresh, hP1, by simp, by simp, by simpa using hcl, EL.single hC, hp⟩ ?_
    clear hS1 hR1 kno1 hp he h hC hcw hcl hA hb hP1
    rintro m s' σ' ⟨ls, q, ids, d, N2, id2, rfl, h0, h6, hS, hR2, hO, hap, hP2, hl0, hl5, hdl, hE, hI⟩
    have kno := hS.keep.nobj
    by_cases hlt : ls.length < 5
    · repeat' (first
    | with_reducible apply awp_seq
    | with_reducible apply awp_block
    | ((with_reducible refine awp_region_k ?_); intro kont hkont)
    | ((with_reducible refine hkont.out _ _ ?_); clear hkont kont)
    | ((first | ((with_reducible refine gd_go ?_); refine gd_split (fun h => ?_) (fun h => ?_)) | ((with_reducible refine gt_go ?_); refine gt_split (fun h => ?_) (fun h => ?_)) | ((with_reducible refine cond_go ?_); refine awp_cond_split rfl (fun h => ?_) (fun h => ?_))) <;> (try simp only [upd, ↓reduceIte, Nat.reduceEqDiff] at h) <;> (try simp only [Bool.not_eq_true', Bool.not_eq_false'] at h) <;> (try simp only [*, reduceCtorEq, decide_true, decide_false] at h) <;> (try (have hari := h; simp only [decide_eq_true_eq, decide_eq_false_iff_not, Int.not_lt, Int.not_le] at hari)) <;> (try (first | contradiction | (exfalso; omega) | (exfalso; simp at h; done))) <;> (try simp only [Abs.gd_true, Abs.gd_false, Abs.gt_true, Abs.gt_false]))
    | ((with_reducible refine aapp_go ?_); refine aApp_own (by first | exact Abs.tez_97) (by assumption) (by assumption) (by decide) (by rfl) (by first | assumption | (simp; done) | (simp; omega) | omega) (by rfl) (by rfl) (by decide) (by omega) (by omega) ?_; intro idn σn hOn hKn eobj enobj ever entop)
    | ((with_reducible refine acalls_go ?_); refine ACalls.mono (take_R ht (by assumption)) ?_; rintro _ _ ⟨rfl, hKt, hRt⟩; (have kno1 := hKt.nobj))
    | ((with_reducible refine acalls_go ?_); refine ACalls.mono (readLiteral_R ht (by assumption)) ?_; rintro _ _ ⟨b, k, n, ia, c, N3, id3, rfl, hSr, hRr, hPr, hVr⟩; (have kno2 := hSr.keep.nobj))
    | with_reducible apply awp_skip
    | with_reducible apply awp_exit
    | with_reducible apply awp_ret
    | (simp (maxSteps := 3000000) (disch := (first | omega | (simp only [Abs.new_nobj, Abs.put_nobj, Abs.lay_nobj, Abs.bs_size, List.length_cons, List.length_nil, *]; omega))) only [↓Abs.mapA_nil, ↓Abs.mapA_cons, Abs.put_ne', Abs.aRun, implies_true, Abs.map_zrep, List.head?_drop, Nat.mul_one, List.length_map, Nat.zero_mul, Nat.zero_add, Option.map_none, Int.reduceToNat, Nat.add_one_sub_one, Nat.sub_zero, List.take_length, List.all_cons, List.all_nil, Value.oneCell', Abs.awant, Abs.aStep, Abs.aq, Abs.al, Abs.aev, Abs.aput, Abs.upd, Abs.dstOk, Abs.cst, Abs.cst1, Abs.acells, Abs.flat, Abs.behind, Abs.aload, Abs.apart1, Abs.abin, Abs.aconv, Abs.aint, Abs.bnd, Abs.lsp, Abs.afill, Abs.thenQ, Abs.blkQ, Abs.retQ, Abs.ares, Abs.aresL, Abs.ares1, Abs.initS, Abs.gd_true, Abs.gd_false, Abs.nxt, Abs.aT, Abs.aTk, Abs.aU, Abs.aOne, Abs.kep, Abs.gt_true, Abs.gt_false, Abs.rdo, Abs.objOf, Option.map_some, Option.bind_some, Option.bind_none, List.getElem?_cons_zero, List.getElem?_cons_succ, List.getElem?_toArray, List.map_cons, List.map_nil, List.toList_toArray, ↓reduceIte, Nat.reduceLT, Nat.reduceEqDiff, decide_true, decide_false, Bool.true_and, Bool.and_true, beq_self_eq_true, beq_true, beq_false, Bool.not_false, Bool.not_true, ge_iff_le, gt_iff_lt, reduceCtorEq, true_and, and_true, List.getD_cons_zero, List.getD_cons_succ, List.length_cons, List.length_nil, List.drop_succ_cons, List.drop_zero, List.take_succ_cons, List.take_zero, List.head?_cons, Nat.reduceAdd, Nat.reduceMul, Nat.reduceLeDiff, Option.isSome_some, if_true, if_false, Bool.false_eq_true, Int.toNat_natCast, Value.cells, Abs.new_same, Abs.new_at, Abs.new_lt, Abs.new_nobj, Abs.new_top, Abs.new_ntop, Abs.put_same, Abs.put_ne, Abs.put_nobj, Abs.put_top, Abs.put_ntop, Abs.lay_obj, Abs.lay_nobj, Abs.lay_ntop, Abs.bs_size, Abs.bs_get, Abs.bs_toList, Abs.bs_extract, Abs.bs_append, Abs.bs_nil, List.set_cons_zero, List.set_cons_succ, List.cons_append, List.nil_append, List.append_nil, List.replicate_succ, List.replicate_zero, List.flatten_cons, List.flatten_nil, ne_eq, not_true_eq_false, false_or, or_false, Nat.lt_irrefl, gt_iff_lt, Int.natCast_nonneg, Abs.i64w, Abs.ifp, Abs.telem_97, Abs.tez_97, Abs.tsz_180, Abs.tzero_180, Tryz.underlying3, Tryz.underlying97, *])
    | ((with_reducible refine and_go ?_); refine And.intro (by first | exact kept_refl | exact kept_last rfl | exact kept_keep (by assumption)) ?_)
    | (refine hkont.out _ _ ?_; clear hkont kont))
      · rename_i σ2 hbb σ3
        obtain ⟨u, r, hb⟩ := Rd.ok_true hbb
        rw [hb] at h hRr
        obtain ⟨e, he⟩ := Rd.ok_false h
        rw [show (Rd.got u r).rest = r from rfl] at he hRr
        have hp := hI.out.fail (by omega) hb he
        rw [he] at hRr
        simp only [Rd.rest] at hRr
        refine ⟨_, rfl, 0, 1, [], N3, id3, by rw [pLits, hp]; rfl, by repeat (first | exact Rs.refl _ _ _ | (with_reducible assumption) | (with_reducible apply Rs.put; rotate_left; (first | omega | (simp only [new_nobj, put_nobj, lay_nobj, lay_obj] at *; omega))) | (with_reducible apply Rs.new) | (with_reducible apply Rs.lay) | (refine Rs.trans ?_ (by with_reducible assumption)) | (refine Rs.transX ?_ (by with_reducible assumption))), ?_, hP2.trans hPr, by rw [pLits, hp]; trivial⟩
        rw [pLits, hp]
        show RS t o N3 id3 e _
        repeat (first | (with_reducible assumption) | (with_reducible apply RS.put; rotate_left; (first | omega | (simp only [new_nobj, put_nobj, lay_nobj, lay_obj] at *; omega))) | (with_reducible apply RS.new) | (with_reducible apply RS.lay) | assumption)
      · rename_i σ2 hbb σ3
        obtain ⟨u, r, hb⟩ := Rd.ok_true hbb
        rw [hb] at h hRr hVr
        obtain ⟨x, r2, he⟩ := Rd.ok_true h
        rw [show (Rd.got u r).rest = r from rfl] at he hRr hVr
        have hp := hI.out.next (by omega) hb he
        rw [he] at hRr hVr
        obtain ⟨hbx, hA⟩ : b = x.nt ∧ PA N3 x k n c := hVr
        have hRr : RS t o N3 id3 r2 σ3 := hRr
        have hC : PL N3 x [sc (.bool b), sc (.int .i64 k), sl ia n c] := PL.of hbx hA
        have hSx : Rs o σ id ((σ3.new [sc (.bool false), sc (.int .i64 0), nilS]).put σ3.nobj [sc (.bool b), sc (.int .i64 k), sl ia n c]) id3 := by repeat (first | exact Rs.refl _ _ _ | (with_reducible assumption) | (with_reducible apply Rs.put; rotate_left; (first | omega | (simp only [new_nobj, put_nobj, lay_nobj, lay_obj] at *; omega))) | (with_reducible apply Rs.new) | (with_reducible apply Rs.lay) | (refine Rs.trans ?_ (by with_reducible assumption)) | (refine Rs.transX ?_ (by with_reducible assumption)))
        have hO2 := Own.keepX hO hKt
        have hO3 := Own.keepR hO2 hSr.keep (apart_flip hap.out hO2)
        have hOx : Own σ ((σ3.new [sc (.bool false), sc (.int .i64 0), nilS]).put σ3.nobj [sc (.bool b), sc (.int .i64 k), sl ia n c]) ids ls.length := Own.put (Own.new hO3 _) _ _
        have hRx : RS t o N3 id3 r2 ((σ3.new [sc (.bool false), sc (.int .i64 0), nilS]).put σ3.nobj [sc (.bool b), sc (.int .i64 k), sl ia n c]) := by repeat (first | (with_reducible assumption) | (with_reducible apply RS.put; rotate_left; (first | omega | (simp only [new_nobj, put_nobj, lay_nobj, lay_obj] at *; omega))) | (with_reducible apply RS.new) | (with_reducible apply RS.lay) | assumption)
        have hapx : id3 = 1 ∨ id3 ≠ ids := apart_step hap.out hO2 hl0 hSr.nid
        refine aApp_ownR (o := o) (idn := id) (σ0 := σ) (by first | exact Abs.tez_97) hSx.keep hOx (by decide) (by rfl) hdl (by rfl) (by rfl) (by decide) (by omega) (by omega) ?_
        intro idn σn hOn hKn eobj enobj ever entop etop hid
        simp (maxSteps := 3000000) (disch := (first | omega | (simp only [Abs.new_nobj, Abs.put_nobj, Abs.lay_nobj, Abs.bs_size, List.length_cons, List.length_nil, *]; omega))) only [↓Abs.mapA_nil, ↓Abs.mapA_cons, Abs.put_ne', Abs.aRun, implies_true, Abs.map_zrep, List.head?_drop, Nat.mul_one, List.length_map, Nat.zero_mul, Nat.zero_add, Option.map_none, Int.reduceToNat, Nat.add_one_sub_one, Nat.sub_zero, List.take_length, List.all_cons, List.all_nil, Value.oneCell', Abs.awant, Abs.aStep, Abs.aq, Abs.al, Abs.aev, Abs.aput, Abs.upd, Abs.dstOk, Abs.cst, Abs.cst1, Abs.acells, Abs.flat, Abs.behind, Abs.aload, Abs.apart1, Abs.abin, Abs.aconv, Abs.aint, Abs.bnd, Abs.lsp, Abs.afill, Abs.thenQ, Abs.blkQ, Abs.retQ, Abs.ares, Abs.aresL, Abs.ares1, Abs.initS, Abs.gd_true, Abs.gd_false, Abs.nxt, Abs.aT, Abs.aTk, Abs.aU, Abs.aOne, Abs.kep, Abs.gt_true, Abs.gt_false, Abs.rdo, Abs.objOf, Option.map_some, Option.bind_some, Option.bind_none, List.getElem?_cons_zero, List.getElem?_cons_succ, List.getElem?_toArray, List.map_cons, List.map_nil, List.toList_toArray, ↓reduceIte, Nat.reduceLT, Nat.reduceEqDiff, decide_true, decide_false, Bool.true_and, Bool.and_true, beq_self_eq_true, beq_true, beq_false, Bool.not_false, Bool.not_true, ge_iff_le, gt_iff_lt, reduceCtorEq, true_and, and_true, List.getD_cons_zero, List.getD_cons_succ, List.length_cons, List.length_nil, List.drop_succ_cons, List.drop_zero, List.take_succ_cons, List.take_zero, List.head?_cons, Nat.reduceAdd, Nat.reduceMul, Nat.reduceLeDiff, Option.isSome_some, if_true, if_false, Bool.false_eq_true, Int.toNat_natCast, Value.cells, Abs.new_same, Abs.new_at, Abs.new_lt, Abs.new_nobj, Abs.new_top, Abs.new_ntop, Abs.put_same, Abs.put_ne, Abs.put_nobj, Abs.put_top, Abs.put_ntop, Abs.lay_obj, Abs.lay_nobj, Abs.lay_ntop, Abs.bs_size, Abs.bs_get, Abs.bs_toList, Abs.bs_extract, Abs.bs_append, Abs.bs_nil, List.set_cons_zero, List.set_cons_succ, List.cons_append, List.nil_append, List.append_nil, List.replicate_succ, List.replicate_zero, List.flatten_cons, List.flatten_nil, ne_eq, not_true_eq_false, false_or, or_false, Nat.lt_irrefl, gt_iff_lt, Int.natCast_nonneg, Abs.i64w, Abs.ifp, Abs.telem_97, Abs.tez_97, Abs.tsz_180, Abs.tzero_180, Tryz.underlying3, Tryz.underlying97, *]
        repeat' (first
    | with_reducible apply awp_seq
    | with_reducible apply awp_block
    | ((with_reducible refine awp_region_k ?_); intro kont hkont)
    | ((with_reducible refine hkont.out _ _ ?_); clear hkont kont)
    | ((first | ((with_reducible refine gd_go ?_); refine gd_split (fun h => ?_) (fun h => ?_)) | ((with_reducible refine gt_go ?_); refine gt_split (fun h => ?_) (fun h => ?_)) | ((with_reducible refine cond_go ?_); refine awp_cond_split rfl (fun h => ?_) (fun h => ?_))) <;> (try simp only [upd, ↓reduceIte, Nat.reduceEqDiff] at h) <;> (try simp only [Bool.not_eq_true', Bool.not_eq_false'] at h) <;> (try simp only [*, reduceCtorEq, decide_true, decide_false] at h) <;> (try (have hari := h; simp only [decide_eq_true_eq, decide_eq_false_iff_not, Int.not_lt, Int.not_le] at hari)) <;> (try (first | contradiction | (exfalso; omega) | (exfalso; simp at h; done))) <;> (try simp only [Abs.gd_true, Abs.gd_false, Abs.gt_true, Abs.gt_false]))
    | ((with_reducible refine aapp_go ?_); refine aApp_own (by first | exact Abs.tez_97) (by assumption) (by assumption) (by decide) (by rfl) (by first | assumption | (simp; done) | (simp; omega) | omega) (by rfl) (by rfl) (by decide) (by omega) (by omega) ?_; intro idn σn hOn hKn eobj enobj ever entop)
    | with_reducible apply awp_skip
    | with_reducible apply awp_exit
    | with_reducible apply awp_ret
    | (simp (maxSteps := 3000000) (disch := (first | omega | (simp only [Abs.new_nobj, Abs.put_nobj, Abs.lay_nobj, Abs.bs_size, List.length_cons, List.length_nil, *]; omega))) only [↓Abs.mapA_nil, ↓Abs.mapA_cons, Abs.put_ne', Abs.aRun, implies_true, Abs.map_zrep, List.head?_drop, Nat.mul_one, List.length_map, Nat.zero_mul, Nat.zero_add, Option.map_none, Int.reduceToNat, Nat.add_one_sub_one, Nat.sub_zero, List.take_length, List.all_cons, List.all_nil, Value.oneCell', Abs.awant, Abs.aStep, Abs.aq, Abs.al, Abs.aev, Abs.aput, Abs.upd, Abs.dstOk, Abs.cst, Abs.cst1, Abs.acells, Abs.flat, Abs.behind, Abs.aload, Abs.apart1, Abs.abin, Abs.aconv, Abs.aint, Abs.bnd, Abs.lsp, Abs.afill, Abs.thenQ, Abs.blkQ, Abs.retQ, Abs.ares, Abs.aresL, Abs.ares1, Abs.initS, Abs.gd_true, Abs.gd_false, Abs.nxt, Abs.aT, Abs.aTk, Abs.aU, Abs.aOne, Abs.kep, Abs.gt_true, Abs.gt_false, Abs.rdo, Abs.objOf, Option.map_some, Option.bind_some, Option.bind_none, List.getElem?_cons_zero, List.getElem?_cons_succ, List.getElem?_toArray, List.map_cons, List.map_nil, List.toList_toArray, ↓reduceIte, Nat.reduceLT, Nat.reduceEqDiff, decide_true, decide_false, Bool.true_and, Bool.and_true, beq_self_eq_true, beq_true, beq_false, Bool.not_false, Bool.not_true, ge_iff_le, gt_iff_lt, reduceCtorEq, true_and, and_true, List.getD_cons_zero, List.getD_cons_succ, List.length_cons, List.length_nil, List.drop_succ_cons, List.drop_zero, List.take_succ_cons, List.take_zero, List.head?_cons, Nat.reduceAdd, Nat.reduceMul, Nat.reduceLeDiff, Option.isSome_some, if_true, if_false, Bool.false_eq_true, Int.toNat_natCast, Value.cells, Abs.new_same, Abs.new_at, Abs.new_lt, Abs.new_nobj, Abs.new_top, Abs.new_ntop, Abs.put_same, Abs.put_ne, Abs.put_nobj, Abs.put_top, Abs.put_ntop, Abs.lay_obj, Abs.lay_nobj, Abs.lay_ntop, Abs.bs_size, Abs.bs_get, Abs.bs_toList, Abs.bs_extract, Abs.bs_append, Abs.bs_nil, List.set_cons_zero, List.set_cons_succ, List.cons_append, List.nil_append, List.append_nil, List.replicate_succ, List.replicate_zero, List.flatten_cons, List.flatten_nil, ne_eq, not_true_eq_false, false_or, or_false, Nat.lt_irrefl, gt_iff_lt, Int.natCast_nonneg, Abs.i64w, Abs.ifp, Abs.telem_97, Abs.tez_97, Abs.tsz_180, Abs.tzero_180, Tryz.underlying3, Tryz.underlying97, *])
    | ((with_reducible refine and_go ?_); refine And.intro (by first | exact kept_refl | exact kept_last rfl | exact kept_keep (by assumption)) ?_)
    | (refine hkont.out _ _ ?_; clear hkont kont))
        refine ⟨5 - (ls ++ [x]).length, by simp; omega, ls ++ [x], r2, idn, d ++ [sc (.bool b), sc (.int .i64 k), sl ia n c], N3, id3, rfl, by simp [hbx], ⟨hKn, hSx.nid⟩, hRx.app eobj enobj entop etop hapx, by simpa using hOn, apart_app hRx.own hapx hid, hP2.trans hPr, by simp, by simp; omega, by simp; omega, EL.append (hE.out.mono (PL.mono hPr)) (EL.single hC), hp⟩
      · have hp := hI.out.stop h
        rename_i σ2
        rw [pByte_no h] at hRt
        simp only [Rd.rest] at hRt
        refine ⟨_, rfl, _, ids, _, N2, id2, by rw [pLits, hp]; rfl, by repeat (first | exact Rs.refl _ _ _ | (with_reducible assumption) | (with_reducible apply Rs.put; rotate_left; (first | omega | (simp only [new_nobj, put_nobj, lay_nobj, lay_obj] at *; omega))) | (with_reducible apply Rs.new) | (with_reducible apply Rs.lay) | (refine Rs.trans ?_ (by with_reducible assumption)) | (refine Rs.transX ?_ (by with_reducible assumption))), ?_, hP2, by rw [pLits, hp]; exact ⟨rfl, hE.out⟩⟩
        rw [pLits, hp]
        show RS t o N2 id2 q _
        repeat (first | (with_reducible assumption) | (with_reducible apply RS.put; rotate_left; (first | omega | (simp only [new_nobj, put_nobj, lay_nobj, lay_obj] at *; omega))) | (with_reducible apply RS.new) | (with_reducible apply RS.lay) | assumption)
    · repeat' (first
    | with_reducible apply awp_seq
    | with_reducible apply awp_block
    | ((with_reducible refine awp_region_k ?_); intro kont hkont)
    | ((with_reducible refine hkont.out _ _ ?_); clear hkont kont)
    | ((first | ((with_reducible refine gd_go ?_); refine gd_split (fun h => ?_) (fun h => ?_)) | ((with_reducible refine gt_go ?_); refine gt_split (fun h => ?_) (fun h => ?_)) | ((with_reducible refine cond_go ?_); refine awp_cond_split rfl (fun h => ?_) (fun h => ?_))) <;> (try simp only [upd, ↓reduceIte, Nat.reduceEqDiff] at h) <;> (try simp only [Bool.not_eq_true', Bool.not_eq_false'] at h) <;> (try simp only [*, reduceCtorEq, decide_true, decide_false] at h) <;> (try (have hari := h; simp only [decide_eq_true_eq, decide_eq_false_iff_not, Int.not_lt, Int.not_le] at hari)) <;> (try (first | contradiction | (exfalso; omega) | (exfalso; simp at h; done))) <;> (try simp only [Abs.gd_true, Abs.gd_false, Abs.gt_true, Abs.gt_false]))
    | ((with_reducible refine aapp_go ?_); refine aApp_own (by first | exact Abs.tez_97) (by assumption) (by assumption) (by decide) (by rfl) (by first | assumption | (simp; done) | (simp; omega) | omega) (by rfl) (by rfl) (by decide) (by omega) (by omega) ?_; intro idn σn hOn hKn eobj enobj ever entop)
    | ((with_reducible refine acalls_go ?_); refine ACalls.mono (take_R ht (by assumption)) ?_; rintro _ _ ⟨rfl, hKt, hRt⟩)
    | with_reducible apply awp_skip
    | with_reducible apply awp_exit
    | with_reducible apply awp_ret
    | (simp (maxSteps := 3000000) (disch := (first | omega | (simp only [Abs.new_nobj, Abs.put_nobj, Abs.lay_nobj, Abs.bs_size, List.length_cons, List.length_nil, *]; omega))) only [↓Abs.mapA_nil, ↓Abs.mapA_cons, Abs.put_ne', Abs.aRun, implies_true, Abs.map_zrep, List.head?_drop, Nat.mul_one, List.length_map, Nat.zero_mul, Nat.zero_add, Option.map_none, Int.reduceToNat, Nat.add_one_sub_one, Nat.sub_zero, List.take_length, List.all_cons, List.all_nil, Value.oneCell', Abs.awant, Abs.aStep, Abs.aq, Abs.al, Abs.aev, Abs.aput, Abs.upd, Abs.dstOk, Abs.cst, Abs.cst1, Abs.acells, Abs.flat, Abs.behind, Abs.aload, Abs.apart1, Abs.abin, Abs.aconv, Abs.aint, Abs.bnd, Abs.lsp, Abs.afill, Abs.thenQ, Abs.blkQ, Abs.retQ, Abs.ares, Abs.aresL, Abs.ares1, Abs.initS, Abs.gd_true, Abs.gd_false, Abs.nxt, Abs.aT, Abs.aTk, Abs.aU, Abs.aOne, Abs.kep, Abs.gt_true, Abs.gt_false, Abs.rdo, Abs.objOf, Option.map_some, Option.bind_some, Option.bind_none, List.getElem?_cons_zero, List.getElem?_cons_succ, List.getElem?_toArray, List.map_cons, List.map_nil, List.toList_toArray, ↓reduceIte, Nat.reduceLT, Nat.reduceEqDiff, decide_true, decide_false, Bool.true_and, Bool.and_true, beq_self_eq_true, beq_true, beq_false, Bool.not_false, Bool.not_true, ge_iff_le, gt_iff_lt, reduceCtorEq, true_and, and_true, List.getD_cons_zero, List.getD_cons_succ, List.length_cons, List.length_nil, List.drop_succ_cons, List.drop_zero, List.take_succ_cons, List.take_zero, List.head?_cons, Nat.reduceAdd, Nat.reduceMul, Nat.reduceLeDiff, Option.isSome_some, if_true, if_false, Bool.false_eq_true, Int.toNat_natCast, Value.cells, Abs.new_same, Abs.new_at, Abs.new_lt, Abs.new_nobj, Abs.new_top, Abs.new_ntop, Abs.put_same, Abs.put_ne, Abs.put_nobj, Abs.put_top, Abs.put_ntop, Abs.lay_obj, Abs.lay_nobj, Abs.lay_ntop, Abs.bs_size, Abs.bs_get, Abs.bs_toList, Abs.bs_extract, Abs.bs_append, Abs.bs_nil, List.set_cons_zero, List.set_cons_succ, List.cons_append, List.nil_append, List.append_nil, List.replicate_succ, List.replicate_zero, List.flatten_cons, List.flatten_nil, ne_eq, not_true_eq_false, false_or, or_false, Nat.lt_irrefl, gt_iff_lt, Int.natCast_nonneg, Abs.i64w, Abs.ifp, Abs.telem_97, Abs.tez_97, Abs.tsz_180, Abs.tzero_180, Tryz.underlying3, Tryz.underlying97, *])
    | ((with_reducible refine and_go ?_); refine And.intro (by first | exact kept_refl | exact kept_last rfl | exact kept_keep (by assumption)) ?_)
    | (refine hkont.out _ _ ?_; clear hkont kont))
      have hp := hI.out.full (by omega)
      first
      | exact ⟨_, rfl, _, ids, d, N2, id2, by rw [pLits, hp]; rfl, hS, by rw [pLits, hp]; exact hR2, hP2, by rw [pLits, hp]; exact ⟨rfl, hE.out⟩⟩
      | exact ⟨_, rfl, _, ids, d, N2, id2, by rw [pLits, hp]; rfl, by rw [pLits, hp]; exact hR2, hP2, by rw [pLits, hp]; exact ⟨rfl, hE.out⟩⟩
end Go.Proofs.YtilaanolklhkaaaGreatDoorZ
