import Derived.Test.YtilaanolklhkaaaGreatDoorZProgI
/- The program's reader: items. -/
namespace Go.Proofs.YtilaanolklhkaaaGreatDoorZ
open Go.Abs
set_option linter.unusedSimpArgs false
set_option linter.unusedVariables false
set_option maxRecDepth 100000

def IPost (t : Tx) (o : Nat) (N : List Tx) (id : Nat) (σ : St) (p : Rd RItem) (x : AV) (σ' : St) : Prop :=
  ∃ b k ih n c ib m d N' id', x = tp [ag [sc (.bool b), sc (.int .i64 k), sl ih n c, sl ib m d], sc (.bool p.ok)] ∧ Rs o σ id σ' id' ∧ RS t o N' id' p.rest σ' ∧ N <+: N' ∧ Rd.Val p fun it => PI N' it [sc (.bool b), sc (.int .i64 k), sl ih n c, sl ib m d]

set_option maxHeartbeats 16000000 in
theorem readOutput_R {t : Tx} {o : Nat} {N : List Tx} {id : Nat} {s : Tx} {σ : St} (ht : t.length ≤ 1000) (hR : RS t o N id s σ) :
    ACalls Tryz.prog 117 [ptr o 0] σ (IPost t o N id σ (pOut s)) := by
  have hn := hR.lt
  unfold pOut IPost
  refine acalls 20 [.cell 2 99, .tmp 3] Tryz.func117 rfl (by decide) rfl rfl (Nat.le_of_ble_eq_true rfl) ?_
  repeat' (first
    | with_reducible apply awp_seq
    | with_reducible apply awp_block
    | ((with_reducible refine awp_region_k ?_); intro kont hkont)
    | ((with_reducible refine hkont.out _ _ ?_); clear hkont kont)
    | ((first | ((with_reducible refine gd_go ?_); refine gd_split (fun h => ?_) (fun h => ?_)) | ((with_reducible refine gt_go ?_); refine gt_split (fun h => ?_) (fun h => ?_)) | ((with_reducible refine cond_go ?_); refine awp_cond_split rfl (fun h => ?_) (fun h => ?_))) <;> (try simp only [upd, ↓reduceIte, Nat.reduceEqDiff] at h) <;> (try simp only [Bool.not_eq_true', Bool.not_eq_false'] at h) <;> (try simp only [*, reduceCtorEq, decide_true, decide_false] at h) <;> (try (have hari := h; simp only [decide_eq_true_eq, decide_eq_false_iff_not, Int.not_lt, Int.not_le] at hari)) <;> (try (first | contradiction | (exfalso; omega) | (exfalso; simp at h; done))) <;> (try simp only [Abs.gd_true, Abs.gd_false, Abs.gt_true, Abs.gt_false]))
    | ((with_reducible refine aapp_go ?_); refine aApp_own (by first | fail) (by assumption) (by assumption) (by decide) (by rfl) (by first | assumption | (simp; done) | (simp; omega) | omega) (by rfl) (by rfl) (by decide) (by omega) (by omega) ?_; intro idn σn hOn hKn eobj enobj ever entop)
    | ((with_reducible refine acalls_go ?_); refine ACalls.mono (readPredicate_R ht (by repeat (first | (with_reducible assumption) | (with_reducible apply RS.put; rotate_left; (first | omega | (simp only [new_nobj, put_nobj, lay_nobj, lay_obj] at *; omega))) | (with_reducible apply RS.new) | (with_reducible apply RS.lay) | assumption))) ?_; rintro _ _ ⟨k, N', id', rfl, hS1, hR1, hP1, hV1⟩; (have kno1 := hS1.keep.nobj; (try simp only [new_nobj, put_nobj, lay_nobj] at kno1); have kob1 := hS1.keep.obj))
    | ((with_reducible refine acalls_go ?_); refine ACalls.mono (take_R ht (by assumption)) ?_; rintro _ _ ⟨rfl, hKt, hRt⟩; (have kno2 := hKt.nobj; (try simp only [new_nobj, put_nobj, lay_nobj] at kno2); have kob2 := hKt.obj))
    | with_reducible apply awp_skip
    | with_reducible apply awp_exit
    | with_reducible apply awp_ret
    | (simp (maxSteps := 3000000) (disch := (first | omega | (simp only [Abs.new_nobj, Abs.put_nobj, Abs.lay_nobj, Abs.bs_size, List.length_cons, List.length_nil, *]; omega))) only [↓Abs.mapA_nil, ↓Abs.mapA_cons, Abs.put_ne', Abs.aRun, implies_true, Abs.map_zrep, List.head?_drop, Nat.mul_one, List.length_map, Nat.zero_mul, Nat.zero_add, Option.map_none, Int.reduceToNat, Nat.add_one_sub_one, Nat.sub_zero, List.take_length, List.all_cons, List.all_nil, Value.oneCell', Abs.awant, Abs.aStep, Abs.aq, Abs.al, Abs.aev, Abs.aput, Abs.upd, Abs.dstOk, Abs.cst, Abs.cst1, Abs.acells, Abs.flat, Abs.behind, Abs.aload, Abs.apart1, Abs.abin, Abs.aconv, Abs.aint, Abs.bnd, Abs.lsp, Abs.afill, Abs.thenQ, Abs.blkQ, Abs.retQ, Abs.ares, Abs.aresL, Abs.ares1, Abs.initS, Abs.gd_true, Abs.gd_false, Abs.nxt, Abs.aT, Abs.aTk, Abs.aU, Abs.aOne, Abs.kep, Abs.gt_true, Abs.gt_false, Abs.rdo, Abs.objOf, Option.map_some, Option.bind_some, Option.bind_none, List.getElem?_cons_zero, List.getElem?_cons_succ, List.getElem?_toArray, List.map_cons, List.map_nil, List.toList_toArray, ↓reduceIte, Nat.reduceLT, Nat.reduceEqDiff, decide_true, decide_false, Bool.true_and, Bool.and_true, beq_self_eq_true, beq_true, beq_false, Bool.not_false, Bool.not_true, ge_iff_le, gt_iff_lt, reduceCtorEq, true_and, and_true, List.getD_cons_zero, List.getD_cons_succ, List.length_cons, List.length_nil, List.drop_succ_cons, List.drop_zero, List.take_succ_cons, List.take_zero, List.head?_cons, Nat.reduceAdd, Nat.reduceMul, Nat.reduceLeDiff, Option.isSome_some, if_true, if_false, Bool.false_eq_true, Int.toNat_natCast, Value.cells, Abs.new_same, Abs.new_at, Abs.new_lt, Abs.new_nobj, Abs.new_top, Abs.new_ntop, Abs.put_same, Abs.put_ne, Abs.put_nobj, Abs.put_top, Abs.put_ntop, Abs.lay_obj, Abs.lay_nobj, Abs.lay_ntop, Abs.bs_size, Abs.bs_get, Abs.bs_toList, Abs.bs_extract, Abs.bs_append, Abs.bs_nil, List.set_cons_zero, List.set_cons_succ, List.cons_append, List.nil_append, List.append_nil, List.replicate_succ, List.replicate_zero, List.flatten_cons, List.flatten_nil, ne_eq, not_true_eq_false, false_or, or_false, Nat.lt_irrefl, gt_iff_lt, Int.natCast_nonneg, Abs.i64w, Abs.ifp, Abs.tstr_92, Abs.tstr_99, Abs.tsz_99, Abs.tzero_99, *])
    | ((with_reducible refine and_go ?_); refine And.intro (by first | exact kept_refl | exact kept_last rfl | exact kept_keep (by assumption)) ?_)
    | (refine hkont.out _ _ ?_; clear hkont kont))
  · obtain ⟨e, he⟩ := Rd.ok_false h
    rw [he] at hR1 ⊢
    simp only [Rd.rest] at hR1
    exact ⟨_, rfl, false, 0, 1, 0, [], 1, 0, [], N', id', rfl, by repeat (first | exact Rs.refl _ _ _ | (with_reducible assumption) | (with_reducible apply Rs.put; rotate_left; (first | omega | (simp only [new_nobj, put_nobj, lay_nobj, lay_obj] at *; omega))) | (with_reducible apply Rs.new) | (with_reducible apply Rs.lay) | (refine Rs.trans ?_ (by with_reducible assumption)) | (refine Rs.transX ?_ (by with_reducible assumption))), by show RS t o N' id' e _; repeat (first | (with_reducible assumption) | (with_reducible apply RS.put; rotate_left; (first | omega | (simp only [new_nobj, put_nobj, lay_nobj, lay_obj] at *; omega))) | (with_reducible apply RS.new) | (with_reducible apply RS.lay) | assumption), hP1, trivial⟩
  · obtain ⟨p, r, he⟩ := Rd.ok_true h
    rw [he] at hRt hV1 ⊢
    rw [show (Rd.got p r).rest = r from rfl] at hRt ⊢
    obtain ⟨v1, v2⟩ : p ∈ N' ∧ k = (N'.idxOf p : Nat) := hV1
    simp only [Rd.bnd]
    cases hd : pByte 46 r with
    | bad e =>
      rw [hd] at hRt
      simp only [Rd.rest] at hRt
      exact ⟨_, rfl, true, k, 1, 0, [], 1, 0, [], N', id', rfl, by repeat (first | exact Rs.refl _ _ _ | (with_reducible assumption) | (with_reducible apply Rs.put; rotate_left; (first | omega | (simp only [new_nobj, put_nobj, lay_nobj, lay_obj] at *; omega))) | (with_reducible apply Rs.new) | (with_reducible apply Rs.lay) | (refine Rs.trans ?_ (by with_reducible assumption)) | (refine Rs.transX ?_ (by with_reducible assumption))), by show RS t o N' id' e _; repeat (first | (with_reducible assumption) | (with_reducible apply RS.put; rotate_left; (first | omega | (simp only [new_nobj, put_nobj, lay_nobj, lay_obj] at *; omega))) | (with_reducible apply RS.new) | (with_reducible apply RS.lay) | assumption), hP1, trivial⟩
    | got u2 r4 =>
      rw [hd] at hRt
      simp only [Rd.rest] at hRt
      exact ⟨_, rfl, true, k, 1, 0, [], 1, 0, [], N', id', rfl, by repeat (first | exact Rs.refl _ _ _ | (with_reducible assumption) | (with_reducible apply Rs.put; rotate_left; (first | omega | (simp only [new_nobj, put_nobj, lay_nobj, lay_obj] at *; omega))) | (with_reducible apply Rs.new) | (with_reducible apply Rs.lay) | (refine Rs.trans ?_ (by with_reducible assumption)) | (refine Rs.transX ?_ (by with_reducible assumption))), by show RS t o N' id' r4 _; repeat (first | (with_reducible assumption) | (with_reducible apply RS.put; rotate_left; (first | omega | (simp only [new_nobj, put_nobj, lay_nobj, lay_obj] at *; omega))) | (with_reducible apply RS.new) | (with_reducible apply RS.lay) | assumption), hP1, ⟨v1, 1, 1, [], rfl, by rw [v2]; rfl⟩⟩

theorem pTail_eq (h : RAtom) (r : Tx) : pTail h r = if (pByte 46 r).ok = true then .got { out := false, head := h, body := [] } (pByte 46 r).rest
    else (pArrow r).bnd fun _ r => (pLits r).bnd fun ls r => (pByte 46 r).bnd fun _ r => .got { out := false, head := h, body := ls } r := by
  cases r with
  | nil => rfl
  | cons b r =>
    have hx : pTail h (b :: r) = if ((b.toNat : Int) == 46) = true then .got { out := false, head := h, body := [] } r else
      (pByte 58 (b :: r)).bnd fun _ r => (pByte 45 r).bnd fun _ r => pBody h r := rfl
    rw [hx]
    by_cases hb : ((b.toNat : Int) == 46) = true
    · have hp : pByte 46 (b :: r) = .got () r := by unfold pByte; dsimp only; rw [if_pos hb]
      rw [if_pos hb, hp]; rfl
    · have hp : pByte 46 (b :: r) = .bad (b :: r) := by unfold pByte; dsimp only; rw [if_neg hb]
      rw [if_neg hb, hp, if_neg (by simp [Rd.ok])]
      unfold pArrow pBody pLits pSep
      rw [bnd_assoc]
      congr 1; funext u r1
      congr 1; funext u r2
      rw [bnd_assoc]
      congr 1; funext l r3
      rw [bnd_assoc]
      rfl

set_option maxHeartbeats 16000000 in
theorem readRule_R {t : Tx} {o : Nat} {N : List Tx} {id : Nat} {s : Tx} {σ : St} (ht : t.length ≤ 1000) (hR : RS t o N id s σ) :
    ACalls Tryz.prog 118 [ptr o 0] σ (IPost t o N id σ (pRule s)) := by
  have hn := hR.lt
  unfold pRule IPost
  simp only [pTail_eq]
  refine acalls 38 [.cell 2 99, .tmp 3] Tryz.func118 rfl (by decide) rfl rfl (Nat.le_of_ble_eq_true rfl) ?_
  repeat' (first
    | with_reducible apply awp_seq
    | with_reducible apply awp_block
    | ((with_reducible refine awp_region_k ?_); intro kont hkont)
    | ((with_reducible refine hkont.out _ _ ?_); clear hkont kont)
    | ((first | ((with_reducible refine gd_go ?_); refine gd_split (fun h => ?_) (fun h => ?_)) | ((with_reducible refine gt_go ?_); refine gt_split (fun h => ?_) (fun h => ?_)) | ((with_reducible refine cond_go ?_); refine awp_cond_split rfl (fun h => ?_) (fun h => ?_))) <;> (try simp only [upd, ↓reduceIte, Nat.reduceEqDiff] at h) <;> (try simp only [Bool.not_eq_true', Bool.not_eq_false'] at h) <;> (try simp only [*, reduceCtorEq, decide_true, decide_false] at h) <;> (try (have hari := h; simp only [decide_eq_true_eq, decide_eq_false_iff_not, Int.not_lt, Int.not_le] at hari)) <;> (try (first | contradiction | (exfalso; omega) | (exfalso; simp at h; done))) <;> (try simp only [Abs.gd_true, Abs.gd_false, Abs.gt_true, Abs.gt_false]))
    | ((with_reducible refine aapp_go ?_); refine aApp_own (by first | fail) (by assumption) (by assumption) (by decide) (by rfl) (by first | assumption | (simp; done) | (simp; omega) | omega) (by rfl) (by rfl) (by decide) (by omega) (by omega) ?_; intro idn σn hOn hKn eobj enobj ever entop)
    | ((with_reducible refine acalls_go ?_); refine ACalls.mono (readAtom_R false ht (by repeat (first | (with_reducible assumption) | (with_reducible apply RS.put; rotate_left; (first | omega | (simp only [new_nobj, put_nobj, lay_nobj, lay_obj] at *; omega))) | (with_reducible apply RS.new) | (with_reducible apply RS.lay) | assumption))) ?_; rintro _ _ ⟨k, n, ids, c, N', id', rfl, hS1, hR1, hP1, hV1⟩; (have kno1 := hS1.keep.nobj; (try simp only [new_nobj, put_nobj, lay_nobj] at kno1); have kob1 := hS1.keep.obj))
    | ((with_reducible refine acalls_go ?_); refine ACalls.mono (take_R ht (by repeat (first | (with_reducible assumption) | (with_reducible apply RS.put; rotate_left; (first | omega | (simp only [new_nobj, put_nobj, lay_nobj, lay_obj] at *; omega))) | (with_reducible apply RS.new) | (with_reducible apply RS.lay) | assumption))) ?_; rintro _ _ ⟨rfl, hKt, hRt⟩; (have kno2 := hKt.nobj; (try simp only [new_nobj, put_nobj, lay_nobj] at kno2); have kob2 := hKt.obj))
    | ((with_reducible refine acalls_go ?_); refine ACalls.mono (takeArrow_R ht (by assumption)) ?_; rintro _ _ ⟨rfl, hKa, hRa⟩; (have kno3 := hKa.nobj; (try simp only [new_nobj, put_nobj, lay_nobj] at kno3); have kob3 := hKa.obj))
    | ((with_reducible refine acalls_go ?_); refine ACalls.mono (readBody_R ht (by assumption)) ?_; rintro _ _ ⟨m, ib, d, N2, id2, rfl, hS4, hR4, hP4, hV4⟩; (have kno4 := hS4.keep.nobj; (try simp only [new_nobj, put_nobj, lay_nobj] at kno4); have kob4 := hS4.keep.obj))
    | with_reducible apply awp_skip
    | with_reducible apply awp_exit
    | with_reducible apply awp_ret
    | (simp (maxSteps := 3000000) (disch := (first | omega | (simp only [Abs.new_nobj, Abs.put_nobj, Abs.lay_nobj, Abs.bs_size, List.length_cons, List.length_nil, *]; omega))) only [↓Abs.mapA_nil, ↓Abs.mapA_cons, Abs.put_ne', Abs.aRun, implies_true, Abs.map_zrep, List.head?_drop, Nat.mul_one, List.length_map, Nat.zero_mul, Nat.zero_add, Option.map_none, Int.reduceToNat, Nat.add_one_sub_one, Nat.sub_zero, List.take_length, List.all_cons, List.all_nil, Value.oneCell', Abs.awant, Abs.aStep, Abs.aq, Abs.al, Abs.aev, Abs.aput, Abs.upd, Abs.dstOk, Abs.cst, Abs.cst1, Abs.acells, Abs.flat, Abs.behind, Abs.aload, Abs.apart1, Abs.abin, Abs.aconv, Abs.aint, Abs.bnd, Abs.lsp, Abs.afill, Abs.thenQ, Abs.blkQ, Abs.retQ, Abs.ares, Abs.aresL, Abs.ares1, Abs.initS, Abs.gd_true, Abs.gd_false, Abs.nxt, Abs.aT, Abs.aTk, Abs.aU, Abs.aOne, Abs.kep, Abs.gt_true, Abs.gt_false, Abs.rdo, Abs.objOf, Option.map_some, Option.bind_some, Option.bind_none, List.getElem?_cons_zero, List.getElem?_cons_succ, List.getElem?_toArray, List.map_cons, List.map_nil, List.toList_toArray, ↓reduceIte, Nat.reduceLT, Nat.reduceEqDiff, decide_true, decide_false, Bool.true_and, Bool.and_true, beq_self_eq_true, beq_true, beq_false, Bool.not_false, Bool.not_true, ge_iff_le, gt_iff_lt, reduceCtorEq, true_and, and_true, List.getD_cons_zero, List.getD_cons_succ, List.length_cons, List.length_nil, List.drop_succ_cons, List.drop_zero, List.take_succ_cons, List.take_zero, List.head?_cons, Nat.reduceAdd, Nat.reduceMul, Nat.reduceLeDiff, Option.isSome_some, if_true, if_false, Bool.false_eq_true, Int.toNat_natCast, Value.cells, Abs.new_same, Abs.new_at, Abs.new_lt, Abs.new_nobj, Abs.new_top, Abs.new_ntop, Abs.put_same, Abs.put_ne, Abs.put_nobj, Abs.put_top, Abs.put_ntop, Abs.lay_obj, Abs.lay_nobj, Abs.lay_ntop, Abs.bs_size, Abs.bs_get, Abs.bs_toList, Abs.bs_extract, Abs.bs_append, Abs.bs_nil, List.set_cons_zero, List.set_cons_succ, List.cons_append, List.nil_append, List.append_nil, List.replicate_succ, List.replicate_zero, List.flatten_cons, List.flatten_nil, ne_eq, not_true_eq_false, false_or, or_false, Nat.lt_irrefl, gt_iff_lt, Int.natCast_nonneg, Abs.i64w, Abs.ifp, Abs.tstr_99, Abs.tsz_92, Abs.tsz_99, Abs.tzero_92, Abs.tzero_99, *])
    | ((with_reducible refine and_go ?_); refine And.intro (by first | exact kept_refl | exact kept_last rfl | exact kept_keep (by assumption)) ?_)
    | (refine hkont.out _ _ ?_; clear hkont kont))
  · obtain ⟨e, he⟩ := Rd.ok_false h
    rw [he] at hR1 ⊢
    simp only [Rd.rest] at hR1
    exact ⟨_, rfl, false, 0, 1, 0, [], 1, 0, [], N', id', rfl, by repeat (first | exact Rs.refl _ _ _ | (with_reducible assumption) | (with_reducible apply Rs.put; rotate_left; (first | omega | (simp only [new_nobj, put_nobj, lay_nobj, lay_obj] at *; omega))) | (with_reducible apply Rs.new) | (with_reducible apply Rs.lay) | (refine Rs.trans ?_ (by with_reducible assumption)) | (refine Rs.transX ?_ (by with_reducible assumption))), by show RS t o N' id' e _; repeat (first | (with_reducible assumption) | (with_reducible apply RS.put; rotate_left; (first | omega | (simp only [new_nobj, put_nobj, lay_nobj, lay_obj] at *; omega))) | (with_reducible apply RS.new) | (with_reducible apply RS.lay) | assumption), hP1, trivial⟩
  · obtain ⟨a, r, he⟩ := Rd.ok_true (show (pAtom false s).ok = true by assumption)
    rw [he] at h hRt hV1 ⊢
    have h : (pByte 46 r).ok = true := h
    have hRt : RS t o N' id' (pByte 46 r).rest _ := hRt
    obtain ⟨v1, v2, v3, v4⟩ : PA N' a k n c := hV1
    simp only [Rd.bnd, h, if_true]
    exact ⟨_, rfl, false, k, ids, n, c, 1, 0, [], N', id', rfl, by repeat (first | exact Rs.refl _ _ _ | (with_reducible assumption) | (with_reducible apply Rs.put; rotate_left; (first | omega | (simp only [new_nobj, put_nobj, lay_nobj, lay_obj] at *; omega))) | (with_reducible apply Rs.new) | (with_reducible apply Rs.lay) | (refine Rs.trans ?_ (by with_reducible assumption)) | (refine Rs.transX ?_ (by with_reducible assumption))), by show RS t o N' id' (pByte 46 r).rest _; repeat (first | (with_reducible assumption) | (with_reducible apply RS.put; rotate_left; (first | omega | (simp only [new_nobj, put_nobj, lay_nobj, lay_obj] at *; omega))) | (with_reducible apply RS.new) | (with_reducible apply RS.lay) | assumption), hP1, ⟨v1, ids, 1, [], rfl, by rw [v2, v3, v4]; rfl⟩⟩
  · obtain ⟨a, r, he⟩ := Rd.ok_true (show (pAtom false s).ok = true by assumption)
    have h46 : (pByte 46 (pAtom false s).rest).ok = false := by assumption
    rw [he] at h h46 hRa ⊢
    have h46 : (pByte 46 r).ok = false := h46
    rw [show (Rd.got a r).rest = r from rfl, pByte_no h46] at h hRa
    obtain ⟨e, hA⟩ := Rd.ok_false (show (pArrow r).ok = false from h)
    have hRa : RS t o N' id' (pArrow r).rest _ := hRa
    rw [hA] at hRa
    simp only [Rd.rest] at hRa
    simp only [Rd.bnd, h46, hA, Bool.false_eq_true, if_false]
    exact ⟨_, rfl, false, 0, 1, 0, [], 1, 0, [], N', id', rfl, by repeat (first | exact Rs.refl _ _ _ | (with_reducible assumption) | (with_reducible apply Rs.put; rotate_left; (first | omega | (simp only [new_nobj, put_nobj, lay_nobj, lay_obj] at *; omega))) | (with_reducible apply Rs.new) | (with_reducible apply Rs.lay) | (refine Rs.trans ?_ (by with_reducible assumption)) | (refine Rs.transX ?_ (by with_reducible assumption))), by show RS t o N' id' e _; repeat (first | (with_reducible assumption) | (with_reducible apply RS.put; rotate_left; (first | omega | (simp only [new_nobj, put_nobj, lay_nobj, lay_obj] at *; omega))) | (with_reducible apply RS.new) | (with_reducible apply RS.lay) | assumption), hP1, trivial⟩
  · obtain ⟨a, r, he⟩ := Rd.ok_true (show (pAtom false s).ok = true by assumption)
    have h46 : (pByte 46 (pAtom false s).rest).ok = false := by assumption
    have h58 : (pArrow (pByte 46 (pAtom false s).rest).rest).ok = true := by assumption
    rw [he] at h h46 h58 hR4 ⊢
    have h46 : (pByte 46 r).ok = false := h46
    rw [show (Rd.got a r).rest = r from rfl, pByte_no h46] at h h58 hR4
    obtain ⟨u, r2, hA⟩ := Rd.ok_true (show (pArrow r).ok = true from h58)
    rw [show (Rd.bad r : Rd Unit).rest = r from rfl, hA] at h hR4
    obtain ⟨e, hL⟩ := Rd.ok_false (show (pLits r2).ok = false from h)
    have hR4 : RS t o N2 id2 (pLits r2).rest _ := hR4
    rw [hL] at hR4
    simp only [Rd.rest] at hR4
    simp only [Rd.bnd, h46, hA, hL, Bool.false_eq_true, if_false]
    exact ⟨_, rfl, false, 0, 1, 0, [], 1, 0, [], N2, id2, rfl, by repeat (first | exact Rs.refl _ _ _ | (with_reducible assumption) | (with_reducible apply Rs.put; rotate_left; (first | omega | (simp only [new_nobj, put_nobj, lay_nobj, lay_obj] at *; omega))) | (with_reducible apply Rs.new) | (with_reducible apply Rs.lay) | (refine Rs.trans ?_ (by with_reducible assumption)) | (refine Rs.transX ?_ (by with_reducible assumption))), by show RS t o N2 id2 e _; repeat (first | (with_reducible assumption) | (with_reducible apply RS.put; rotate_left; (first | omega | (simp only [new_nobj, put_nobj, lay_nobj, lay_obj] at *; omega))) | (with_reducible apply RS.new) | (with_reducible apply RS.lay) | assumption), hP1.trans hP4, trivial⟩
  · obtain ⟨a, r, he⟩ := Rd.ok_true (show (pAtom false s).ok = true by assumption)
    have h46 : (pByte 46 (pAtom false s).rest).ok = false := by assumption
    have h58 : (pArrow (pByte 46 (pAtom false s).rest).rest).ok = true := by assumption
    rw [he] at h h46 h58 hR4 hV1 hV4 hRt ⊢
    have h46 : (pByte 46 r).ok = false := h46
    rw [show (Rd.got a r).rest = r from rfl, pByte_no h46] at h h58 hR4 hV4 hRt
    obtain ⟨u, r2, hA⟩ := Rd.ok_true (show (pArrow r).ok = true from h58)
    rw [show (Rd.bad r : Rd Unit).rest = r from rfl, hA] at h hR4 hV4 hRt
    obtain ⟨ls, r3, hL⟩ := Rd.ok_true (show (pLits r2).ok = true from h)
    have hR4 : RS t o N2 id2 (pLits r2).rest _ := hR4
    have hRt : RS t o N2 id2 (pByte 46 (pLits r2).rest).rest _ := hRt
    rw [show (Rd.got u r2).rest = r2 from rfl] at hV4
    rw [hL] at hR4 hRt hV4
    obtain ⟨v1, v2, v3, v4⟩ : PA N' a k n c := hV1
    obtain ⟨w1, w2⟩ : m = ls.length ∧ EL (PL N2) ls d := hV4
    have hRt : RS t o N2 id2 (pByte 46 r3).rest _ := hRt
    simp only [Rd.bnd, Rd.rest, pByte_no h46, h46, hA, hL, Bool.false_eq_true, if_false]
    cases hd : pByte 46 r3 with
    | bad e =>
      rw [hd] at hRt
      simp only [Rd.rest] at hRt
      exact ⟨_, rfl, false, k, ids, n, c, ib, m, d, N2, id2, rfl, by repeat (first | exact Rs.refl _ _ _ | (with_reducible assumption) | (with_reducible apply Rs.put; rotate_left; (first | omega | (simp only [new_nobj, put_nobj, lay_nobj, lay_obj] at *; omega))) | (with_reducible apply Rs.new) | (with_reducible apply Rs.lay) | (refine Rs.trans ?_ (by with_reducible assumption)) | (refine Rs.transX ?_ (by with_reducible assumption))), by show RS t o N2 id2 e _; repeat (first | (with_reducible assumption) | (with_reducible apply RS.put; rotate_left; (first | omega | (simp only [new_nobj, put_nobj, lay_nobj, lay_obj] at *; omega))) | (with_reducible apply RS.new) | (with_reducible apply RS.lay) | assumption), hP1.trans hP4, trivial⟩
    | got u2 r4 =>
      rw [hd] at hRt
      simp only [Rd.rest] at hRt
      exact ⟨_, rfl, false, k, ids, n, c, ib, m, d, N2, id2, rfl, by repeat (first | exact Rs.refl _ _ _ | (with_reducible assumption) | (with_reducible apply Rs.put; rotate_left; (first | omega | (simp only [new_nobj, put_nobj, lay_nobj, lay_obj] at *; omega))) | (with_reducible apply Rs.new) | (with_reducible apply Rs.lay) | (refine Rs.trans ?_ (by with_reducible assumption)) | (refine Rs.transX ?_ (by with_reducible assumption))), by show RS t o N2 id2 r4 _; repeat (first | (with_reducible assumption) | (with_reducible apply RS.put; rotate_left; (first | omega | (simp only [new_nobj, put_nobj, lay_nobj, lay_obj] at *; omega))) | (with_reducible apply RS.new) | (with_reducible apply RS.lay) | assumption), hP1.trans hP4, ⟨hP4.subset v1, ids, ib, d, w2, by rw [v2, v3, v4, w1, idx_pre hP4 v1]⟩⟩

theorem pItem_eq (s : Tx) : pItem s = if (pByte 63 s).ok = true then pOut (pByte 63 s).rest else pRule (pByte 63 s).rest := by
  cases s with
  | nil => rfl
  | cons b r =>
    unfold pItem pByte; dsimp only
    split <;> simp [Rd.ok, Rd.rest]

set_option maxHeartbeats 16000000 in
theorem readItem_R {t : Tx} {o : Nat} {N : List Tx} {id : Nat} {s : Tx} {σ : St} (ht : t.length ≤ 1000) (hR : RS t o N id s σ) :
    ACalls Tryz.prog 77 [ptr o 0] σ (IPost t o N id σ (pItem s)) := by
  have hn := hR.lt
  rw [pItem_eq]
  unfold IPost
  refine acalls 14 [.cell 2 99, .tmp 3] Tryz.func77 rfl (by decide) rfl rfl (Nat.le_of_ble_eq_true rfl) ?_
  repeat' (first
    | with_reducible apply awp_seq
    | with_reducible apply awp_block
    | ((with_reducible refine awp_region_k ?_); intro kont hkont)
    | ((with_reducible refine hkont.out _ _ ?_); clear hkont kont)
    | ((first | ((with_reducible refine gd_go ?_); refine gd_split (fun h => ?_) (fun h => ?_)) | ((with_reducible refine gt_go ?_); refine gt_split (fun h => ?_) (fun h => ?_)) | ((with_reducible refine cond_go ?_); refine awp_cond_split rfl (fun h => ?_) (fun h => ?_))) <;> (try simp only [upd, ↓reduceIte, Nat.reduceEqDiff] at h) <;> (try simp only [Bool.not_eq_true', Bool.not_eq_false'] at h) <;> (try simp only [*, reduceCtorEq, decide_true, decide_false] at h) <;> (try (have hari := h; simp only [decide_eq_true_eq, decide_eq_false_iff_not, Int.not_lt, Int.not_le] at hari)) <;> (try (first | contradiction | (exfalso; omega) | (exfalso; simp at h; done))) <;> (try simp only [Abs.gd_true, Abs.gd_false, Abs.gt_true, Abs.gt_false]))
    | ((with_reducible refine aapp_go ?_); refine aApp_own (by first | fail) (by assumption) (by assumption) (by decide) (by rfl) (by first | assumption | (simp; done) | (simp; omega) | omega) (by rfl) (by rfl) (by decide) (by omega) (by omega) ?_; intro idn σn hOn hKn eobj enobj ever entop)
    | ((with_reducible refine acalls_go ?_); refine ACalls.mono (take_R ht (by repeat (first | (with_reducible assumption) | (with_reducible apply RS.put; rotate_left; (first | omega | (simp only [new_nobj, put_nobj, lay_nobj, lay_obj] at *; omega))) | (with_reducible apply RS.new) | (with_reducible apply RS.lay) | assumption))) ?_; rintro _ _ ⟨rfl, hKt, hRt⟩; (have kno2 := hKt.nobj; (try simp only [new_nobj, put_nobj, lay_nobj] at kno2); have kob2 := hKt.obj))
    | ((with_reducible refine acalls_go ?_); refine ACalls.mono (readOutput_R ht (by assumption)) ?_; rintro _ _ ⟨b, k, ih, n, c, ib, m, d, N', id', rfl, hS1, hR1, hP1, hV1⟩; (have kno1 := hS1.keep.nobj; (try simp only [new_nobj, put_nobj, lay_nobj] at kno1); have kob1 := hS1.keep.obj))
    | ((with_reducible refine acalls_go ?_); refine ACalls.mono (readRule_R ht (by assumption)) ?_; rintro _ _ ⟨b, k, ih, n, c, ib, m, d, N', id', rfl, hS1, hR1, hP1, hV1⟩; (have kno1 := hS1.keep.nobj; (try simp only [new_nobj, put_nobj, lay_nobj] at kno1); have kob1 := hS1.keep.obj))
    | with_reducible apply awp_skip
    | with_reducible apply awp_exit
    | with_reducible apply awp_ret
    | (simp (maxSteps := 3000000) (disch := (first | omega | (simp only [Abs.new_nobj, Abs.put_nobj, Abs.lay_nobj, Abs.bs_size, List.length_cons, List.length_nil, *]; omega))) only [↓Abs.mapA_nil, ↓Abs.mapA_cons, Abs.put_ne', Abs.aRun, implies_true, Abs.map_zrep, List.head?_drop, Nat.mul_one, List.length_map, Nat.zero_mul, Nat.zero_add, Option.map_none, Int.reduceToNat, Nat.add_one_sub_one, Nat.sub_zero, List.take_length, List.all_cons, List.all_nil, Value.oneCell', Abs.awant, Abs.aStep, Abs.aq, Abs.al, Abs.aev, Abs.aput, Abs.upd, Abs.dstOk, Abs.cst, Abs.cst1, Abs.acells, Abs.flat, Abs.behind, Abs.aload, Abs.apart1, Abs.abin, Abs.aconv, Abs.aint, Abs.bnd, Abs.lsp, Abs.afill, Abs.thenQ, Abs.blkQ, Abs.retQ, Abs.ares, Abs.aresL, Abs.ares1, Abs.initS, Abs.gd_true, Abs.gd_false, Abs.nxt, Abs.aT, Abs.aTk, Abs.aU, Abs.aOne, Abs.kep, Abs.gt_true, Abs.gt_false, Abs.rdo, Abs.objOf, Option.map_some, Option.bind_some, Option.bind_none, List.getElem?_cons_zero, List.getElem?_cons_succ, List.getElem?_toArray, List.map_cons, List.map_nil, List.toList_toArray, ↓reduceIte, Nat.reduceLT, Nat.reduceEqDiff, decide_true, decide_false, Bool.true_and, Bool.and_true, beq_self_eq_true, beq_true, beq_false, Bool.not_false, Bool.not_true, ge_iff_le, gt_iff_lt, reduceCtorEq, true_and, and_true, List.getD_cons_zero, List.getD_cons_succ, List.length_cons, List.length_nil, List.drop_succ_cons, List.drop_zero, List.take_succ_cons, List.take_zero, List.head?_cons, Nat.reduceAdd, Nat.reduceMul, Nat.reduceLeDiff, Option.isSome_some, if_true, if_false, Bool.false_eq_true, Int.toNat_natCast, Value.cells, Abs.new_same, Abs.new_at, Abs.new_lt, Abs.new_nobj, Abs.new_top, Abs.new_ntop, Abs.put_same, Abs.put_ne, Abs.put_nobj, Abs.put_top, Abs.put_ntop, Abs.lay_obj, Abs.lay_nobj, Abs.lay_ntop, Abs.bs_size, Abs.bs_get, Abs.bs_toList, Abs.bs_extract, Abs.bs_append, Abs.bs_nil, List.set_cons_zero, List.set_cons_succ, List.cons_append, List.nil_append, List.append_nil, List.replicate_succ, List.replicate_zero, List.flatten_cons, List.flatten_nil, ne_eq, not_true_eq_false, false_or, or_false, Nat.lt_irrefl, gt_iff_lt, Int.natCast_nonneg, Abs.i64w, Abs.ifp, Abs.tsz_99, Abs.tzero_99, *])
    | ((with_reducible refine and_go ?_); refine And.intro (by first | exact kept_refl | exact kept_last rfl | exact kept_keep (by assumption)) ?_)
    | (refine hkont.out _ _ ?_; clear hkont kont))
  all_goals exact ⟨_, rfl, b, k, ih, n, c, ib, m, d, N', id', rfl, by repeat (first | exact Rs.refl _ _ _ | (with_reducible assumption) | (with_reducible apply Rs.put; rotate_left; (first | omega | (simp only [new_nobj, put_nobj, lay_nobj, lay_obj] at *; omega))) | (with_reducible apply Rs.new) | (with_reducible apply Rs.lay) | (refine Rs.trans ?_ (by with_reducible assumption)) | (refine Rs.transX ?_ (by with_reducible assumption))), by repeat (first | (with_reducible assumption) | (with_reducible apply RS.put; rotate_left; (first | omega | (simp only [new_nobj, put_nobj, lay_nobj, lay_obj] at *; omega))) | (with_reducible apply RS.new) | (with_reducible apply RS.lay) | assumption), hP1, hV1⟩
end Go.Proofs.YtilaanolklhkaaaGreatDoorZ
