import Derived.Test.YtilaanolklhkaaaGreatDoorZProgA
/- The program's reader: numbers. -/
namespace Go.Proofs.YtilaanolklhkaaaGreatDoorZ
open Go.Abs
set_option linter.unusedSimpArgs false
set_option linter.unusedVariables false
set_option maxRecDepth 100000

def numV (ds : Tx) : Int := ds.foldl (fun v b => v * 10 + ((b.toNat : Int) - 48)) 0
theorem numV_snoc (ds : Tx) (b : UInt8) : numV (ds ++ [b]) = numV ds * 10 + ((b.toNat : Int) - 48) := by simp [numV]
/-- read so far: ds, of n digits at most; q is left -/
def digs (s ds q : Tx) : Prop := ds.length ≤ 3 ∧ pWhile digitB 3 s = (ds ++ (pWhile digitB (3 - ds.length) q).1, (pWhile digitB (3 - ds.length) q).2) ∧ 0 ≤ numV ds ∧ (ds.length = 0 → numV ds = 0) ∧ (ds.length = 1 → numV ds ≤ 9) ∧ (ds.length = 2 → numV ds ≤ 99)
theorem digs_nil (s : Tx) : digs s [] s := ⟨by simp, by simp, by simp [numV], by simp [numV], by simp, by simp⟩
theorem digs_step {s ds q : Tx} {b : UInt8} (h : digs s ds (b :: q)) (hl : ds.length < 3) (hb : digitB b.toNat = true) : digs s (ds ++ [b]) q := by
  obtain ⟨h1, h2, h3, h4, h5, h6⟩ := h
  have hr : 48 ≤ b.toNat ∧ b.toNat ≤ 57 := by simp [digitB] at hb; omega
  have e : 3 - ds.length = (3 - (ds ++ [b]).length) + 1 := by simp; omega
  rw [e, pWhile, if_pos hb] at h2
  refine ⟨by simp; omega, by rw [h2]; simp, ?_, by simp, ?_, ?_⟩
  · rw [numV_snoc]; omega
  · intro hh; rw [numV_snoc]; have := h4 (by simp at hh; simp [hh]); omega
  · intro hh; rw [numV_snoc]; have := h5 (by simp at hh; omega); omega
theorem digs_end {s ds q : Tx} (h : digs s ds q) (he : ds.length = 3 ∨ q = [] ∨ ∃ b r, q = b :: r ∧ digitB b.toNat = false) : pWhile digitB 3 s = (ds, q) := by
  obtain ⟨h1, h2, -⟩ := h
  rw [h2]
  rcases he with he | rfl | ⟨b, r, rfl, hb⟩
  · rw [he]; simp [pWhile]
  · cases hn : 3 - ds.length <;> simp [pWhile]
  · cases hn : 3 - ds.length <;> simp [pWhile, hb]

set_option maxHeartbeats 16000000 in
theorem readNumber_spec (t s : Tx) (o : Nat) (nm : AV) (ht : t.length ≤ 1000) (hs : s <:+ t) (σ : St) (ho : σ.obj o = rdS t s nm) (hn : o < σ.nobj) (h48 : ∀ b r, s = b :: r → ((b.toNat : Int) == 48) = false) :
    ACalls Tryz.prog 193 [ptr o 0] σ fun x σ' => KeepX o σ σ' ∧ ∃ q, σ'.obj o = rdS t q nm ∧ q <:+ t ∧ q = (pWhile digitB 3 s).2 ∧ x = sc (.int .i64 (numV (pWhile digitB 3 s).1)) := by
  have hp : pByte 48 s = .bad s := by
    cases s with
    | nil => rfl
    | cons b r => unfold pByte; simp only [h48 b r rfl]; simp
  have hT := take_suff t s o nm 48 ht hs σ ho hn
  rw [hp] at hT
  refine acalls 57 [.tmp 2] Tryz.func193 rfl (by decide) rfl rfl (Nat.le_of_ble_eq_true rfl) ?_
  repeat' (first
    | with_reducible apply awp_seq
    | with_reducible apply awp_block
    | ((with_reducible refine awp_region_k ?_); intro kont hkont)
    | ((with_reducible refine hkont.out _ _ ?_); clear hkont kont)
    | ((first | ((with_reducible refine gd_go ?_); refine gd_split (fun h => ?_) (fun h => ?_)) | ((with_reducible refine gt_go ?_); refine gt_split (fun h => ?_) (fun h => ?_)) | ((with_reducible refine cond_go ?_); refine awp_cond_split rfl (fun h => ?_) (fun h => ?_))) <;> (try simp only [upd, ↓reduceIte, Nat.reduceEqDiff] at h) <;> (try simp only [Bool.not_eq_true', Bool.not_eq_false'] at h) <;> (try simp only [*, reduceCtorEq, decide_true, decide_false] at h) <;> (try (have hari := h; simp only [decide_eq_true_eq, decide_eq_false_iff_not, Int.not_lt, Int.not_le] at hari)) <;> (try (first | contradiction | (exfalso; omega) | (exfalso; simp at h; done))) <;> (try simp only [Abs.gd_true, Abs.gd_false, Abs.gt_true, Abs.gt_false]))
    | ((with_reducible refine aapp_go ?_); refine aApp_own (by first | fail) (by assumption) (by assumption) (by decide) (by rfl) (by first | assumption | (simp; done) | (simp; omega) | omega) (by rfl) (by rfl) (by decide) (by omega) (by omega) ?_; intro idn σn hOn hKn eobj enobj ever entop)
    | ((with_reducible refine acalls_go ?_); refine ACalls.mono (hT) ?_; rintro _ _ ⟨hK1, rfl, hO1, -⟩)
    | with_reducible apply awp_skip
    | with_reducible apply awp_exit
    | with_reducible apply awp_ret
    | (simp (maxSteps := 3000000) (disch := (first | omega | (simp only [Abs.new_nobj, Abs.put_nobj, Abs.lay_nobj, Abs.bs_size, List.length_cons, List.length_nil, *]; omega))) only [↓Abs.mapA_nil, ↓Abs.mapA_cons, Abs.put_ne', Abs.aRun, implies_true, Abs.map_zrep, List.head?_drop, Nat.mul_one, List.length_map, Nat.zero_mul, Nat.zero_add, Option.map_none, Int.reduceToNat, Nat.add_one_sub_one, Nat.sub_zero, List.take_length, List.all_cons, List.all_nil, Value.oneCell', Abs.awant, Abs.aStep, Abs.aq, Abs.al, Abs.aev, Abs.aput, Abs.upd, Abs.dstOk, Abs.cst, Abs.cst1, Abs.acells, Abs.flat, Abs.behind, Abs.aload, Abs.apart1, Abs.abin, Abs.aconv, Abs.aint, Abs.bnd, Abs.lsp, Abs.afill, Abs.thenQ, Abs.blkQ, Abs.retQ, Abs.ares, Abs.aresL, Abs.ares1, Abs.initS, Abs.gd_true, Abs.gd_false, Abs.nxt, Abs.aT, Abs.aTk, Abs.aU, Abs.aOne, Abs.kep, Abs.gt_true, Abs.gt_false, Abs.rdo, Abs.objOf, Option.map_some, Option.bind_some, Option.bind_none, List.getElem?_cons_zero, List.getElem?_cons_succ, List.getElem?_toArray, List.map_cons, List.map_nil, List.toList_toArray, ↓reduceIte, Nat.reduceLT, Nat.reduceEqDiff, decide_true, decide_false, Bool.true_and, Bool.and_true, beq_self_eq_true, beq_true, beq_false, Bool.not_false, Bool.not_true, ge_iff_le, gt_iff_lt, reduceCtorEq, true_and, and_true, List.getD_cons_zero, List.getD_cons_succ, List.length_cons, List.length_nil, List.drop_succ_cons, List.drop_zero, List.take_succ_cons, List.take_zero, List.head?_cons, Nat.reduceAdd, Nat.reduceMul, Nat.reduceLeDiff, Option.isSome_some, if_true, if_false, Bool.false_eq_true, Int.toNat_natCast, Value.cells, Abs.new_same, Abs.new_at, Abs.new_lt, Abs.new_nobj, Abs.new_top, Abs.new_ntop, Abs.put_same, Abs.put_ne, Abs.put_nobj, Abs.put_top, Abs.put_ntop, Abs.lay_obj, Abs.lay_nobj, Abs.lay_ntop, Abs.bs_size, Abs.bs_get, Abs.bs_toList, Abs.bs_extract, Abs.bs_append, Abs.bs_nil, List.set_cons_zero, List.set_cons_succ, List.cons_append, List.nil_append, List.append_nil, List.replicate_succ, List.replicate_zero, List.flatten_cons, List.flatten_nil, ne_eq, not_true_eq_false, false_or, or_false, Nat.lt_irrefl, gt_iff_lt, Int.natCast_nonneg, Abs.i64w, Abs.ifp, Abs.telem_9, Abs.tfld_81_0, Abs.tfld_81_1, Abs.tsz_3, Abs.tsz_9, Tryz.underlying3, Tryz.underlying5, Tryz.underlying9, *])
    | ((with_reducible refine and_go ?_); refine And.intro (by first | exact kept_refl | exact kept_last rfl | exact kept_keep (by assumption)) ?_)
    | (refine hkont.out _ _ ?_; clear hkont kont))
  rename_i σ1
  have hn1 : o < σ1.nobj := Nat.lt_of_lt_of_le hn hK1.nobj
  clear hT hp ho
  refine awp_loop (fun m s' σ' => ∃ (q ds : Tx), m = 3 - ds.length ∧ s' 0 = ptr o 0 ∧ s' 3 = sc (.int .i64 (numV ds)) ∧ s' 4 = sc (.int .i64 ds.length) ∧ KeepX o σ σ' ∧ σ'.obj o = rdS t q nm ∧ o < σ'.nobj ∧ q <:+ t ∧ Abs.Hid (digs s ds q)) 3
    ⟨s, [], rfl, rfl, rfl, rfl, hK1, hO1, hn1, hs, digs_nil s⟩ ?_
  rintro m s' σ' ⟨q, ds, rfl, h0, h3, h4, hK, hO, hn', hq, hD⟩
  clear hK1 hO1 hn1
  have hql := suff_len hq
  have hqg := suff_get hq
  have hD' := hD.out
  obtain ⟨d1, -, d3, d4, d5, d6⟩ := hD'
  unfold rdS rdr at hO
  repeat' (first
    | with_reducible apply awp_seq
    | with_reducible apply awp_block
    | ((with_reducible refine awp_region_k ?_); intro kont hkont)
    | ((with_reducible refine hkont.out _ _ ?_); clear hkont kont)
    | ((first | ((with_reducible refine gd_go ?_); refine gd_split (fun h => ?_) (fun h => ?_)) | ((with_reducible refine gt_go ?_); refine gt_split (fun h => ?_) (fun h => ?_)) | ((with_reducible refine cond_go ?_); refine awp_cond_split rfl (fun h => ?_) (fun h => ?_))) <;> (try simp only [upd, ↓reduceIte, Nat.reduceEqDiff] at h) <;> (try simp only [Bool.not_eq_true', Bool.not_eq_false'] at h) <;> (try simp only [*, reduceCtorEq, decide_true, decide_false] at h) <;> (try (have hari := h; simp only [decide_eq_true_eq, decide_eq_false_iff_not, Int.not_lt, Int.not_le] at hari)) <;> (try (first | contradiction | (exfalso; omega) | (exfalso; simp at h; done))) <;> (try simp only [Abs.gd_true, Abs.gd_false, Abs.gt_true, Abs.gt_false]))
    | ((with_reducible refine aapp_go ?_); refine aApp_own (by first | fail) (by assumption) (by assumption) (by decide) (by rfl) (by first | assumption | (simp; done) | (simp; omega) | omega) (by rfl) (by rfl) (by decide) (by omega) (by omega) ?_; intro idn σn hOn hKn eobj enobj ever entop)
    | with_reducible apply awp_skip
    | with_reducible apply awp_exit
    | with_reducible apply awp_ret
    | (simp (maxSteps := 3000000) (disch := (first | omega | (simp only [Abs.new_nobj, Abs.put_nobj, Abs.lay_nobj, Abs.bs_size, List.length_cons, List.length_nil, *]; omega))) only [↓Abs.mapA_nil, ↓Abs.mapA_cons, Abs.put_ne', Abs.aRun, implies_true, Abs.map_zrep, List.head?_drop, Nat.mul_one, List.length_map, Nat.zero_mul, Nat.zero_add, Option.map_none, Int.reduceToNat, Nat.add_one_sub_one, Nat.sub_zero, List.take_length, List.all_cons, List.all_nil, Value.oneCell', Abs.awant, Abs.aStep, Abs.aq, Abs.al, Abs.aev, Abs.aput, Abs.upd, Abs.dstOk, Abs.cst, Abs.cst1, Abs.acells, Abs.flat, Abs.behind, Abs.aload, Abs.apart1, Abs.abin, Abs.aconv, Abs.aint, Abs.bnd, Abs.lsp, Abs.afill, Abs.thenQ, Abs.blkQ, Abs.retQ, Abs.ares, Abs.aresL, Abs.ares1, Abs.initS, Abs.gd_true, Abs.gd_false, Abs.nxt, Abs.aT, Abs.aTk, Abs.aU, Abs.aOne, Abs.kep, Abs.gt_true, Abs.gt_false, Abs.rdo, Abs.objOf, Option.map_some, Option.bind_some, Option.bind_none, List.getElem?_cons_zero, List.getElem?_cons_succ, List.getElem?_toArray, List.map_cons, List.map_nil, List.toList_toArray, ↓reduceIte, Nat.reduceLT, Nat.reduceEqDiff, decide_true, decide_false, Bool.true_and, Bool.and_true, beq_self_eq_true, beq_true, beq_false, Bool.not_false, Bool.not_true, ge_iff_le, gt_iff_lt, reduceCtorEq, true_and, and_true, List.getD_cons_zero, List.getD_cons_succ, List.length_cons, List.length_nil, List.drop_succ_cons, List.drop_zero, List.take_succ_cons, List.take_zero, List.head?_cons, Nat.reduceAdd, Nat.reduceMul, Nat.reduceLeDiff, Option.isSome_some, if_true, if_false, Bool.false_eq_true, Int.toNat_natCast, Value.cells, Abs.new_same, Abs.new_at, Abs.new_lt, Abs.new_nobj, Abs.new_top, Abs.new_ntop, Abs.put_same, Abs.put_ne, Abs.put_nobj, Abs.put_top, Abs.put_ntop, Abs.lay_obj, Abs.lay_nobj, Abs.lay_ntop, Abs.bs_size, Abs.bs_get, Abs.bs_toList, Abs.bs_extract, Abs.bs_append, Abs.bs_nil, List.set_cons_zero, List.set_cons_succ, List.cons_append, List.nil_append, List.append_nil, List.replicate_succ, List.replicate_zero, List.flatten_cons, List.flatten_nil, ne_eq, not_true_eq_false, false_or, or_false, Nat.lt_irrefl, gt_iff_lt, Int.natCast_nonneg, Abs.i64w, Abs.ifp, Abs.telem_9, Abs.tfld_81_0, Abs.tfld_81_1, Abs.tsz_3, Abs.tsz_9, Tryz.underlying3, Tryz.underlying5, Tryz.underlying9, *])
    | ((with_reducible refine and_go ?_); refine And.intro (by first | exact kept_refl | exact kept_last rfl | exact kept_keep (by assumption)) ?_)
    | (refine hkont.out _ _ ?_; clear hkont kont))
  refine awp_draw_k follows_mixed (fun _ => True) [25] [0, 1, 2, 3, 4, 5, 6, 7, 8, 9, 10, 11, 12, 13, 14, 15, 16, 17, 18, 19, 20, 21, 22, 23] [24, 25] (by kernel_rfl) (fun _ _ _ h => h) ?_
  intro kont hkont
  cases q with
  | nil =>
    simp only [List.length_nil, Nat.sub_zero] at hO hqg hql
    simp (maxSteps := 3000000) (disch := (first | omega | (simp only [Abs.new_nobj, Abs.put_nobj, Abs.lay_nobj, Abs.bs_size, List.length_cons, List.length_nil, *]; omega))) only [↓Abs.mapA_nil, ↓Abs.mapA_cons, Abs.put_ne', Abs.aRun, implies_true, Abs.map_zrep, List.head?_drop, Nat.mul_one, List.length_map, Nat.zero_mul, Nat.zero_add, Option.map_none, Int.reduceToNat, Nat.add_one_sub_one, Nat.sub_zero, List.take_length, List.all_cons, List.all_nil, Value.oneCell', Abs.awant, Abs.aStep, Abs.aq, Abs.al, Abs.aev, Abs.aput, Abs.upd, Abs.dstOk, Abs.cst, Abs.cst1, Abs.acells, Abs.flat, Abs.behind, Abs.aload, Abs.apart1, Abs.abin, Abs.aconv, Abs.aint, Abs.bnd, Abs.lsp, Abs.afill, Abs.thenQ, Abs.blkQ, Abs.retQ, Abs.ares, Abs.aresL, Abs.ares1, Abs.initS, Abs.gd_true, Abs.gd_false, Abs.nxt, Abs.aT, Abs.aTk, Abs.aU, Abs.aOne, Abs.kep, Abs.gt_true, Abs.gt_false, Abs.rdo, Abs.objOf, Option.map_some, Option.bind_some, Option.bind_none, List.getElem?_cons_zero, List.getElem?_cons_succ, List.getElem?_toArray, List.map_cons, List.map_nil, List.toList_toArray, ↓reduceIte, Nat.reduceLT, Nat.reduceEqDiff, decide_true, decide_false, Bool.true_and, Bool.and_true, beq_self_eq_true, beq_true, beq_false, Bool.not_false, Bool.not_true, ge_iff_le, gt_iff_lt, reduceCtorEq, true_and, and_true, List.getD_cons_zero, List.getD_cons_succ, List.length_cons, List.length_nil, List.drop_succ_cons, List.drop_zero, List.take_succ_cons, List.take_zero, List.head?_cons, Nat.reduceAdd, Nat.reduceMul, Nat.reduceLeDiff, Option.isSome_some, if_true, if_false, Bool.false_eq_true, Int.toNat_natCast, Value.cells, Abs.new_same, Abs.new_at, Abs.new_lt, Abs.new_nobj, Abs.new_top, Abs.new_ntop, Abs.put_same, Abs.put_ne, Abs.put_nobj, Abs.put_top, Abs.put_ntop, Abs.lay_obj, Abs.lay_nobj, Abs.lay_ntop, Abs.bs_size, Abs.bs_get, Abs.bs_toList, Abs.bs_extract, Abs.bs_append, Abs.bs_nil, List.set_cons_zero, List.set_cons_succ, List.cons_append, List.nil_append, List.append_nil, List.replicate_succ, List.replicate_zero, List.flatten_cons, List.flatten_nil, ne_eq, not_true_eq_false, false_or, or_false, Nat.lt_irrefl, gt_iff_lt, Int.natCast_nonneg, Abs.i64w, Abs.ifp, Abs.telem_9, Abs.tfld_81_0, Abs.tfld_81_1, Abs.tsz_3, Abs.tsz_9, Tryz.underlying3, Tryz.underlying5, Tryz.underlying9, *]
    repeat' (first
    | with_reducible apply awp_seq
    | with_reducible apply awp_block
    | ((with_reducible refine awp_region_k ?_); intro kont hkont)
    | ((with_reducible refine hkont.out _ _ ?_); clear hkont kont)
    | ((first | ((with_reducible refine gd_go ?_); refine gd_split (fun h => ?_) (fun h => ?_)) | ((with_reducible refine gt_go ?_); refine gt_split (fun h => ?_) (fun h => ?_)) | ((with_reducible refine cond_go ?_); refine awp_cond_split rfl (fun h => ?_) (fun h => ?_))) <;> (try simp only [upd, ↓reduceIte, Nat.reduceEqDiff] at h) <;> (try simp only [Bool.not_eq_true', Bool.not_eq_false'] at h) <;> (try simp only [*, reduceCtorEq, decide_true, decide_false] at h) <;> (try (have hari := h; simp only [decide_eq_true_eq, decide_eq_false_iff_not, Int.not_lt, Int.not_le] at hari)) <;> (try (first | contradiction | (exfalso; omega) | (exfalso; simp at h; done))) <;> (try simp only [Abs.gd_true, Abs.gd_false, Abs.gt_true, Abs.gt_false]))
    | ((with_reducible refine aapp_go ?_); refine aApp_own (by first | fail) (by assumption) (by assumption) (by decide) (by rfl) (by first | assumption | (simp; done) | (simp; omega) | omega) (by rfl) (by rfl) (by decide) (by omega) (by omega) ?_; intro idn σn hOn hKn eobj enobj ever entop)
    | ((with_reducible refine acalls_go ?_); refine ACalls.mono (isDigit_spec _ _) ?_; rintro _ _ ⟨rfl, rfl⟩)
    | with_reducible apply awp_skip
    | with_reducible apply awp_exit
    | with_reducible apply awp_ret
    | (simp (maxSteps := 3000000) (disch := (first | omega | (simp only [Abs.new_nobj, Abs.put_nobj, Abs.lay_nobj, Abs.bs_size, List.length_cons, List.length_nil, *]; omega))) only [↓Abs.mapA_nil, ↓Abs.mapA_cons, Abs.put_ne', Abs.aRun, implies_true, Abs.map_zrep, List.head?_drop, Nat.mul_one, List.length_map, Nat.zero_mul, Nat.zero_add, Option.map_none, Int.reduceToNat, Nat.add_one_sub_one, Nat.sub_zero, List.take_length, List.all_cons, List.all_nil, Value.oneCell', Abs.awant, Abs.aStep, Abs.aq, Abs.al, Abs.aev, Abs.aput, Abs.upd, Abs.dstOk, Abs.cst, Abs.cst1, Abs.acells, Abs.flat, Abs.behind, Abs.aload, Abs.apart1, Abs.abin, Abs.aconv, Abs.aint, Abs.bnd, Abs.lsp, Abs.afill, Abs.thenQ, Abs.blkQ, Abs.retQ, Abs.ares, Abs.aresL, Abs.ares1, Abs.initS, Abs.gd_true, Abs.gd_false, Abs.nxt, Abs.aT, Abs.aTk, Abs.aU, Abs.aOne, Abs.kep, Abs.gt_true, Abs.gt_false, Abs.rdo, Abs.objOf, Option.map_some, Option.bind_some, Option.bind_none, List.getElem?_cons_zero, List.getElem?_cons_succ, List.getElem?_toArray, List.map_cons, List.map_nil, List.toList_toArray, ↓reduceIte, Nat.reduceLT, Nat.reduceEqDiff, decide_true, decide_false, Bool.true_and, Bool.and_true, beq_self_eq_true, beq_true, beq_false, Bool.not_false, Bool.not_true, ge_iff_le, gt_iff_lt, reduceCtorEq, true_and, and_true, List.getD_cons_zero, List.getD_cons_succ, List.length_cons, List.length_nil, List.drop_succ_cons, List.drop_zero, List.take_succ_cons, List.take_zero, List.head?_cons, Nat.reduceAdd, Nat.reduceMul, Nat.reduceLeDiff, Option.isSome_some, if_true, if_false, Bool.false_eq_true, Int.toNat_natCast, Value.cells, Abs.new_same, Abs.new_at, Abs.new_lt, Abs.new_nobj, Abs.new_top, Abs.new_ntop, Abs.put_same, Abs.put_ne, Abs.put_nobj, Abs.put_top, Abs.put_ntop, Abs.lay_obj, Abs.lay_nobj, Abs.lay_ntop, Abs.bs_size, Abs.bs_get, Abs.bs_toList, Abs.bs_extract, Abs.bs_append, Abs.bs_nil, List.set_cons_zero, List.set_cons_succ, List.cons_append, List.nil_append, List.append_nil, List.replicate_succ, List.replicate_zero, List.flatten_cons, List.flatten_nil, ne_eq, not_true_eq_false, false_or, or_false, Nat.lt_irrefl, gt_iff_lt, Int.natCast_nonneg, Abs.i64w, Abs.ifp, Abs.telem_9, Abs.tfld_81_0, Abs.tfld_81_1, Abs.tsz_3, Abs.tsz_9, Tryz.underlying3, Tryz.underlying5, Tryz.underlying9, *])
    | ((with_reducible refine and_go ?_); refine And.intro (by first | exact kept_refl | exact kept_last rfl | exact kept_keep (by assumption)) ?_)
    | (refine hkont.out _ _ ?_; clear hkont kont))
    all_goals
      have he := digs_end hD.out (.inr (.inl rfl))
      exact ⟨_, rfl, [], by simp [rdS, rdr], hq, by rw [he], by rw [he]⟩
  | cons b r =>
    simp only [List.length_cons, List.head?_cons] at hO hqg hql
    have hqr := suff_tail hq
    simp (maxSteps := 3000000) (disch := (first | omega | (simp only [Abs.new_nobj, Abs.put_nobj, Abs.lay_nobj, Abs.bs_size, List.length_cons, List.length_nil, *]; omega))) only [↓Abs.mapA_nil, ↓Abs.mapA_cons, Abs.put_ne', Abs.aRun, implies_true, Abs.map_zrep, List.head?_drop, Nat.mul_one, List.length_map, Nat.zero_mul, Nat.zero_add, Option.map_none, Int.reduceToNat, Nat.add_one_sub_one, Nat.sub_zero, List.take_length, List.all_cons, List.all_nil, Value.oneCell', Abs.awant, Abs.aStep, Abs.aq, Abs.al, Abs.aev, Abs.aput, Abs.upd, Abs.dstOk, Abs.cst, Abs.cst1, Abs.acells, Abs.flat, Abs.behind, Abs.aload, Abs.apart1, Abs.abin, Abs.aconv, Abs.aint, Abs.bnd, Abs.lsp, Abs.afill, Abs.thenQ, Abs.blkQ, Abs.retQ, Abs.ares, Abs.aresL, Abs.ares1, Abs.initS, Abs.gd_true, Abs.gd_false, Abs.nxt, Abs.aT, Abs.aTk, Abs.aU, Abs.aOne, Abs.kep, Abs.gt_true, Abs.gt_false, Abs.rdo, Abs.objOf, Option.map_some, Option.bind_some, Option.bind_none, List.getElem?_cons_zero, List.getElem?_cons_succ, List.getElem?_toArray, List.map_cons, List.map_nil, List.toList_toArray, ↓reduceIte, Nat.reduceLT, Nat.reduceEqDiff, decide_true, decide_false, Bool.true_and, Bool.and_true, beq_self_eq_true, beq_true, beq_false, Bool.not_false, Bool.not_true, ge_iff_le, gt_iff_lt, reduceCtorEq, true_and, and_true, List.getD_cons_zero, List.getD_cons_succ, List.length_cons, List.length_nil, List.drop_succ_cons, List.drop_zero, List.take_succ_cons, List.take_zero, List.head?_cons, Nat.reduceAdd, Nat.reduceMul, Nat.reduceLeDiff, Option.isSome_some, if_true, if_false, Bool.false_eq_true, Int.toNat_natCast, Value.cells, Abs.new_same, Abs.new_at, Abs.new_lt, Abs.new_nobj, Abs.new_top, Abs.new_ntop, Abs.put_same, Abs.put_ne, Abs.put_nobj, Abs.put_top, Abs.put_ntop, Abs.lay_obj, Abs.lay_nobj, Abs.lay_ntop, Abs.bs_size, Abs.bs_get, Abs.bs_toList, Abs.bs_extract, Abs.bs_append, Abs.bs_nil, List.set_cons_zero, List.set_cons_succ, List.cons_append, List.nil_append, List.append_nil, List.replicate_succ, List.replicate_zero, List.flatten_cons, List.flatten_nil, ne_eq, not_true_eq_false, false_or, or_false, Nat.lt_irrefl, gt_iff_lt, Int.natCast_nonneg, Abs.i64w, Abs.ifp, Abs.telem_9, Abs.tfld_81_0, Abs.tfld_81_1, Abs.tsz_3, Abs.tsz_9, Tryz.underlying3, Tryz.underlying5, Tryz.underlying9, *]
    have hdr : digitB b.toNat = true → 48 ≤ (b.toNat : Int) ∧ (b.toNat : Int) ≤ 57 := fun h => by simp [digitB] at h; omega
    repeat' (first
    | with_reducible apply awp_seq
    | with_reducible apply awp_block
    | ((with_reducible refine awp_region_k ?_); intro kont hkont)
    | ((with_reducible refine hkont.out _ _ ?_); clear hkont kont)
    | ((first | ((with_reducible refine gd_go ?_); refine gd_split (fun h => ?_) (fun h => ?_)) | ((with_reducible refine gt_go ?_); refine gt_split (fun h => ?_) (fun h => ?_)) | ((with_reducible refine cond_go ?_); refine awp_cond_split rfl (fun h => ?_) (fun h => ?_))) <;> (try simp only [upd, ↓reduceIte, Nat.reduceEqDiff] at h) <;> (try simp only [Bool.not_eq_true', Bool.not_eq_false'] at h) <;> (try simp only [*, reduceCtorEq, decide_true, decide_false] at h) <;> (try (have hari := h; simp only [decide_eq_true_eq, decide_eq_false_iff_not, Int.not_lt, Int.not_le] at hari)) <;> (try (first | contradiction | (exfalso; omega) | (exfalso; simp at h; done))) <;> (try simp only [Abs.gd_true, Abs.gd_false, Abs.gt_true, Abs.gt_false]))
    | ((with_reducible refine aapp_go ?_); refine aApp_own (by first | fail) (by assumption) (by assumption) (by decide) (by rfl) (by first | assumption | (simp; done) | (simp; omega) | omega) (by rfl) (by rfl) (by decide) (by omega) (by omega) ?_; intro idn σn hOn hKn eobj enobj ever entop)
    | ((with_reducible refine acalls_go ?_); refine ACalls.mono (isDigit_spec _ _) ?_; rintro _ _ ⟨rfl, rfl⟩)
    | with_reducible apply awp_skip
    | with_reducible apply awp_exit
    | with_reducible apply awp_ret
    | (simp (maxSteps := 3000000) (disch := (first | omega | (simp only [Abs.new_nobj, Abs.put_nobj, Abs.lay_nobj, Abs.bs_size, List.length_cons, List.length_nil, *]; omega))) only [↓Abs.mapA_nil, ↓Abs.mapA_cons, Abs.put_ne', Abs.aRun, implies_true, Abs.map_zrep, List.head?_drop, Nat.mul_one, List.length_map, Nat.zero_mul, Nat.zero_add, Option.map_none, Int.reduceToNat, Nat.add_one_sub_one, Nat.sub_zero, List.take_length, List.all_cons, List.all_nil, Value.oneCell', Abs.awant, Abs.aStep, Abs.aq, Abs.al, Abs.aev, Abs.aput, Abs.upd, Abs.dstOk, Abs.cst, Abs.cst1, Abs.acells, Abs.flat, Abs.behind, Abs.aload, Abs.apart1, Abs.abin, Abs.aconv, Abs.aint, Abs.bnd, Abs.lsp, Abs.afill, Abs.thenQ, Abs.blkQ, Abs.retQ, Abs.ares, Abs.aresL, Abs.ares1, Abs.initS, Abs.gd_true, Abs.gd_false, Abs.nxt, Abs.aT, Abs.aTk, Abs.aU, Abs.aOne, Abs.kep, Abs.gt_true, Abs.gt_false, Abs.rdo, Abs.objOf, Option.map_some, Option.bind_some, Option.bind_none, List.getElem?_cons_zero, List.getElem?_cons_succ, List.getElem?_toArray, List.map_cons, List.map_nil, List.toList_toArray, ↓reduceIte, Nat.reduceLT, Nat.reduceEqDiff, decide_true, decide_false, Bool.true_and, Bool.and_true, beq_self_eq_true, beq_true, beq_false, Bool.not_false, Bool.not_true, ge_iff_le, gt_iff_lt, reduceCtorEq, true_and, and_true, List.getD_cons_zero, List.getD_cons_succ, List.length_cons, List.length_nil, List.drop_succ_cons, List.drop_zero, List.take_succ_cons, List.take_zero, List.head?_cons, Nat.reduceAdd, Nat.reduceMul, Nat.reduceLeDiff, Option.isSome_some, if_true, if_false, Bool.false_eq_true, Int.toNat_natCast, Value.cells, Abs.new_same, Abs.new_at, Abs.new_lt, Abs.new_nobj, Abs.new_top, Abs.new_ntop, Abs.put_same, Abs.put_ne, Abs.put_nobj, Abs.put_top, Abs.put_ntop, Abs.lay_obj, Abs.lay_nobj, Abs.lay_ntop, Abs.bs_size, Abs.bs_get, Abs.bs_toList, Abs.bs_extract, Abs.bs_append, Abs.bs_nil, List.set_cons_zero, List.set_cons_succ, List.cons_append, List.nil_append, List.append_nil, List.replicate_succ, List.replicate_zero, List.flatten_cons, List.flatten_nil, ne_eq, not_true_eq_false, false_or, or_false, Nat.lt_irrefl, gt_iff_lt, Int.natCast_nonneg, Abs.i64w, Abs.ifp, Abs.telem_9, Abs.tfld_81_0, Abs.tfld_81_1, Abs.tsz_3, Abs.tsz_9, Tryz.underlying3, Tryz.underlying5, Tryz.underlying9, *])
    | ((with_reducible refine and_go ?_); refine And.intro (by first | exact kept_refl | exact kept_last rfl | exact kept_keep (by assumption)) ?_)
    | (refine hkont.out _ _ ?_; clear hkont kont))
    all_goals
      first
      | (have he := digs_end hD.out (.inr (.inr ⟨b, r, rfl, by assumption⟩))
         exact ⟨_, rfl, b :: r, by simp [rdS, rdr], hq, by rw [he], by rw [he]⟩)
      | (have he := digs_end hD.out (.inl (by omega))
         exact ⟨_, rfl, b :: r, by simp [rdS, rdr], hq, by rw [he], by rw [he]⟩)
      | skip
    have hdg : digitB b.toNat = true := by assumption
    have hdr := hdr hdg
    have hl3 : ds.length < 3 := by omega
    have hnv : numV ds ≤ 99 := by
      have : ds.length = 0 ∨ ds.length = 1 ∨ ds.length = 2 := by omega
      rcases this with h | h | h
      · have := d4 h; omega
      · have := d5 h; omega
      · exact d6 h
    clear d4 d5 d6
    refine awp_draw_k follows_mixed (fun _ => True) [14] [0, 1, 2, 3, 4, 5, 6, 7, 8, 9, 10, 11, 12, 13] [14] (by kernel_rfl) (fun _ _ _ h => h) ?_
    intro kont hkont
    simp (maxSteps := 3000000) (disch := (first | omega | (simp only [Abs.new_nobj, Abs.put_nobj, Abs.lay_nobj, Abs.bs_size, List.length_cons, List.length_nil, *]; omega))) only [↓Abs.mapA_nil, ↓Abs.mapA_cons, Abs.put_ne', Abs.aRun, implies_true, Abs.map_zrep, List.head?_drop, Nat.mul_one, List.length_map, Nat.zero_mul, Nat.zero_add, Option.map_none, Int.reduceToNat, Nat.add_one_sub_one, Nat.sub_zero, List.take_length, List.all_cons, List.all_nil, Value.oneCell', Abs.awant, Abs.aStep, Abs.aq, Abs.al, Abs.aev, Abs.aput, Abs.upd, Abs.dstOk, Abs.cst, Abs.cst1, Abs.acells, Abs.flat, Abs.behind, Abs.aload, Abs.apart1, Abs.abin, Abs.aconv, Abs.aint, Abs.bnd, Abs.lsp, Abs.afill, Abs.thenQ, Abs.blkQ, Abs.retQ, Abs.ares, Abs.aresL, Abs.ares1, Abs.initS, Abs.gd_true, Abs.gd_false, Abs.nxt, Abs.aT, Abs.aTk, Abs.aU, Abs.aOne, Abs.kep, Abs.gt_true, Abs.gt_false, Abs.rdo, Abs.objOf, Option.map_some, Option.bind_some, Option.bind_none, List.getElem?_cons_zero, List.getElem?_cons_succ, List.getElem?_toArray, List.map_cons, List.map_nil, List.toList_toArray, ↓reduceIte, Nat.reduceLT, Nat.reduceEqDiff, decide_true, decide_false, Bool.true_and, Bool.and_true, beq_self_eq_true, beq_true, beq_false, Bool.not_false, Bool.not_true, ge_iff_le, gt_iff_lt, reduceCtorEq, true_and, and_true, List.getD_cons_zero, List.getD_cons_succ, List.length_cons, List.length_nil, List.drop_succ_cons, List.drop_zero, List.take_succ_cons, List.take_zero, List.head?_cons, Nat.reduceAdd, Nat.reduceMul, Nat.reduceLeDiff, Option.isSome_some, if_true, if_false, Bool.false_eq_true, Int.toNat_natCast, Value.cells, Abs.new_same, Abs.new_at, Abs.new_lt, Abs.new_nobj, Abs.new_top, Abs.new_ntop, Abs.put_same, Abs.put_ne, Abs.put_nobj, Abs.put_top, Abs.put_ntop, Abs.lay_obj, Abs.lay_nobj, Abs.lay_ntop, Abs.bs_size, Abs.bs_get, Abs.bs_toList, Abs.bs_extract, Abs.bs_append, Abs.bs_nil, List.set_cons_zero, List.set_cons_succ, List.cons_append, List.nil_append, List.append_nil, List.replicate_succ, List.replicate_zero, List.flatten_cons, List.flatten_nil, ne_eq, not_true_eq_false, false_or, or_false, Nat.lt_irrefl, gt_iff_lt, Int.natCast_nonneg, Abs.i64w, Abs.ifp, Abs.telem_9, Abs.tfld_81_0, Abs.tfld_81_1, Abs.tsz_3, Abs.tsz_9, Tryz.underlying3, Tryz.underlying5, Tryz.underlying9, *]
    repeat' (first
    | with_reducible apply awp_seq
    | with_reducible apply awp_block
    | ((with_reducible refine awp_region_k ?_); intro kont hkont)
    | ((with_reducible refine hkont.out _ _ ?_); clear hkont kont)
    | ((first | ((with_reducible refine gd_go ?_); refine gd_split (fun h => ?_) (fun h => ?_)) | ((with_reducible refine gt_go ?_); refine gt_split (fun h => ?_) (fun h => ?_)) | ((with_reducible refine cond_go ?_); refine awp_cond_split rfl (fun h => ?_) (fun h => ?_))) <;> (try simp only [upd, ↓reduceIte, Nat.reduceEqDiff] at h) <;> (try simp only [Bool.not_eq_true', Bool.not_eq_false'] at h) <;> (try simp only [*, reduceCtorEq, decide_true, decide_false] at h) <;> (try (have hari := h; simp only [decide_eq_true_eq, decide_eq_false_iff_not, Int.not_lt, Int.not_le] at hari)) <;> (try (first | contradiction | (exfalso; omega) | (exfalso; simp at h; done))) <;> (try simp only [Abs.gd_true, Abs.gd_false, Abs.gt_true, Abs.gt_false]))
    | ((with_reducible refine aapp_go ?_); refine aApp_own (by first | fail) (by assumption) (by assumption) (by decide) (by rfl) (by first | assumption | (simp; done) | (simp; omega) | omega) (by rfl) (by rfl) (by decide) (by omega) (by omega) ?_; intro idn σn hOn hKn eobj enobj ever entop)
    | with_reducible apply awp_skip
    | with_reducible apply awp_exit
    | with_reducible apply awp_ret
    | (simp (maxSteps := 3000000) (disch := (first | omega | (simp only [Abs.new_nobj, Abs.put_nobj, Abs.lay_nobj, Abs.bs_size, List.length_cons, List.length_nil, *]; omega))) only [↓Abs.mapA_nil, ↓Abs.mapA_cons, Abs.put_ne', Abs.aRun, implies_true, Abs.map_zrep, List.head?_drop, Nat.mul_one, List.length_map, Nat.zero_mul, Nat.zero_add, Option.map_none, Int.reduceToNat, Nat.add_one_sub_one, Nat.sub_zero, List.take_length, List.all_cons, List.all_nil, Value.oneCell', Abs.awant, Abs.aStep, Abs.aq, Abs.al, Abs.aev, Abs.aput, Abs.upd, Abs.dstOk, Abs.cst, Abs.cst1, Abs.acells, Abs.flat, Abs.behind, Abs.aload, Abs.apart1, Abs.abin, Abs.aconv, Abs.aint, Abs.bnd, Abs.lsp, Abs.afill, Abs.thenQ, Abs.blkQ, Abs.retQ, Abs.ares, Abs.aresL, Abs.ares1, Abs.initS, Abs.gd_true, Abs.gd_false, Abs.nxt, Abs.aT, Abs.aTk, Abs.aU, Abs.aOne, Abs.kep, Abs.gt_true, Abs.gt_false, Abs.rdo, Abs.objOf, Option.map_some, Option.bind_some, Option.bind_none, List.getElem?_cons_zero, List.getElem?_cons_succ, List.getElem?_toArray, List.map_cons, List.map_nil, List.toList_toArray, ↓reduceIte, Nat.reduceLT, Nat.reduceEqDiff, decide_true, decide_false, Bool.true_and, Bool.and_true, beq_self_eq_true, beq_true, beq_false, Bool.not_false, Bool.not_true, ge_iff_le, gt_iff_lt, reduceCtorEq, true_and, and_true, List.getD_cons_zero, List.getD_cons_succ, List.length_cons, List.length_nil, List.drop_succ_cons, List.drop_zero, List.take_succ_cons, List.take_zero, List.head?_cons, Nat.reduceAdd, Nat.reduceMul, Nat.reduceLeDiff, Option.isSome_some, if_true, if_false, Bool.false_eq_true, Int.toNat_natCast, Value.cells, Abs.new_same, Abs.new_at, Abs.new_lt, Abs.new_nobj, Abs.new_top, Abs.new_ntop, Abs.put_same, Abs.put_ne, Abs.put_nobj, Abs.put_top, Abs.put_ntop, Abs.lay_obj, Abs.lay_nobj, Abs.lay_ntop, Abs.bs_size, Abs.bs_get, Abs.bs_toList, Abs.bs_extract, Abs.bs_append, Abs.bs_nil, List.set_cons_zero, List.set_cons_succ, List.cons_append, List.nil_append, List.append_nil, List.replicate_succ, List.replicate_zero, List.flatten_cons, List.flatten_nil, ne_eq, not_true_eq_false, false_or, or_false, Nat.lt_irrefl, gt_iff_lt, Int.natCast_nonneg, Abs.i64w, Abs.ifp, Abs.telem_9, Abs.tfld_81_0, Abs.tfld_81_1, Abs.tsz_3, Abs.tsz_9, Tryz.underlying3, Tryz.underlying5, Tryz.underlying9, *])
    | ((with_reducible refine and_go ?_); refine And.intro (by first | exact kept_refl | exact kept_last rfl | exact kept_keep (by assumption)) ?_)
    | (refine hkont.out _ _ ?_; clear hkont kont))
    have hw : IntKind.i64.wrap (numV ds * 10 + IntKind.i64.wrap (IntKind.u8.wrap ((b.toNat : Int) - 48))) = numV (ds ++ [b]) := by
      rw [Abs.u8w (by omega) (by omega), show IntKind.i64.wrap ((b.toNat : Int) - 48) = (b.toNat : Int) - 48 from Abs.i64w (by omega) (by omega), Abs.i64w (by omega) (by omega), numV_snoc]
    rw [hw]
    refine ⟨3 - (ds ++ [b]).length, by simp; omega, r, ds ++ [b], rfl, rfl, by simp, hK.put _, ?_, hqr, digs_step hD.out hl3 hdg⟩
    unfold rdS rdr
    rw [show ((t.length - (r.length + 1) : Nat) : Int) + 1 = ((t.length - r.length : Nat) : Int) by omega]
end Go.Proofs.YtilaanolklhkaaaGreatDoorZ
