import Derived.Test.YtilaanolklhkaaaGreatDoorZRefA
/- The document's own answer: a text is cut. -/
namespace Go.Proofs.YtilaanolklhkaaaGreatDoorZ
open Go.Abs
set_option linter.unusedSimpArgs false
set_option linter.unusedVariables false
set_option maxRecDepth 100000

/-- the first place of a byte, else the length -/
def findN (l : List UInt8) (c : Int) : Nat := l.findIdx fun x => (x.toNat : Int) == c
theorem findN_le (l : List UInt8) (c : Int) : findN l c ≤ l.length := List.findIdx_le_length
theorem findN_hit (l : List UInt8) (c : Int) (k : Nat) (hk : k < l.length) (hn : ∀ (j : Nat), j < k → ∀ (x : UInt8), l[j]? = some x → ((x.toNat : Int) == c) = false) (hc : ((l[k].toNat : Int) == c) = true) : findN l c = k := by
  unfold findN
  rw [List.findIdx_eq hk]
  exact ⟨hc, fun j hj => hn j hj _ (List.getElem?_eq_getElem _)⟩
theorem findN_miss (l : List UInt8) (c : Int) (hn : ∀ (j : Nat), j < l.length → ∀ (x : UInt8), l[j]? = some x → ((x.toNat : Int) == c) = false) : findN l c = l.length := by
  unfold findN
  rw [List.findIdx_eq_length]
  intro x hx
  obtain ⟨j, hj, he⟩ := List.mem_iff_getElem.1 hx
  exact hn j hj x (by rw [← he]; exact List.getElem?_eq_getElem _)

set_option maxHeartbeats 1000000 in
theorem find_spec (l : List UInt8) (c : Int) (hb : l.length ≤ 100000) (σ : St) : ACalls Tryz.prog 73 [str l, sc (.int .u8 c)] σ fun x σ' => x = sc (.int .i64 (findN l c)) ∧ σ' = σ := by
  refine acalls 20 [.tmp 4] Tryz.func73 rfl (by decide) rfl rfl (Nat.le_of_ble_eq_true rfl) ?_
  repeat' (first
    | with_reducible apply awp_seq
    | with_reducible apply awp_block
    | ((with_reducible refine awp_region_k ?_); intro kont hkont)
    | ((with_reducible refine hkont.out _ _ ?_); clear hkont kont)
    | ((first | ((with_reducible refine gd_go ?_); refine gd_split (fun h => ?_) (fun h => ?_)) | ((with_reducible refine gt_go ?_); refine gt_split (fun h => ?_) (fun h => ?_)) | ((with_reducible refine cond_go ?_); refine awp_cond_split rfl (fun h => ?_) (fun h => ?_))) <;> (try simp only [upd, ↓reduceIte, Nat.reduceEqDiff] at h) <;> (try simp only [Bool.not_eq_true', Bool.not_eq_false'] at h) <;> (try simp only [*, reduceCtorEq, decide_true, decide_false] at h) <;> (try (have hari := h; simp only [decide_eq_true_eq, decide_eq_false_iff_not, Int.not_lt, Int.not_le] at hari)) <;> (try (first | contradiction | (exfalso; omega) | (exfalso; simp at h; done))) <;> (try simp only [Abs.gd_true, Abs.gd_false, Abs.gt_true, Abs.gt_false]))
    | ((with_reducible refine aapp_go ?_); refine aApp_own (by first | fail) (by assumption) (by assumption) (by decide) (by rfl) (by first | assumption | (simp; done) | (simp; omega) | omega) (by rfl) (by rfl) (by decide) (by omega) (by omega) ?_; intro idn σn hOn hKn eobj enobj ever entop)
    | with_reducible apply awp_skip
    | with_reducible apply awp_exit
    | with_reducible apply awp_ret
    | (simp (maxSteps := 3000000) (disch := (first | omega | (simp only [Abs.new_nobj, Abs.put_nobj, Abs.lay_nobj, Abs.bs_size, List.length_cons, List.length_nil, *]; omega))) only [↓Abs.mapA_nil, ↓Abs.mapA_cons, Abs.put_ne', Abs.aRun, implies_true, Abs.map_zrep, List.head?_drop, Nat.mul_one, List.length_map, Nat.zero_mul, Nat.zero_add, Option.map_none, Int.reduceToNat, Nat.add_one_sub_one, Nat.sub_zero, List.take_length, List.all_cons, List.all_nil, Value.oneCell', Abs.awant, Abs.aStep, Abs.aq, Abs.al, Abs.aev, Abs.aput, Abs.upd, Abs.dstOk, Abs.cst, Abs.cst1, Abs.acells, Abs.flat, Abs.behind, Abs.aload, Abs.apart1, Abs.abin, Abs.aconv, Abs.aint, Abs.bnd, Abs.lsp, Abs.afill, Abs.thenQ, Abs.blkQ, Abs.retQ, Abs.ares, Abs.aresL, Abs.ares1, Abs.initS, Abs.gd_true, Abs.gd_false, Abs.nxt, Abs.aT, Abs.aTk, Abs.aU, Abs.aOne, Abs.kep, Abs.gt_true, Abs.gt_false, Abs.rdo, Abs.objOf, Option.map_some, Option.bind_some, Option.bind_none, List.getElem?_cons_zero, List.getElem?_cons_succ, List.getElem?_toArray, List.map_cons, List.map_nil, List.toList_toArray, ↓reduceIte, Nat.reduceLT, Nat.reduceEqDiff, decide_true, decide_false, Bool.true_and, Bool.and_true, beq_self_eq_true, beq_true, beq_false, Bool.not_false, Bool.not_true, ge_iff_le, gt_iff_lt, reduceCtorEq, true_and, and_true, List.getD_cons_zero, List.getD_cons_succ, List.length_cons, List.length_nil, List.drop_succ_cons, List.drop_zero, List.take_succ_cons, List.take_zero, List.head?_cons, Nat.reduceAdd, Nat.reduceMul, Nat.reduceLeDiff, Option.isSome_some, if_true, if_false, Bool.false_eq_true, Int.toNat_natCast, Value.cells, Abs.new_same, Abs.new_at, Abs.new_lt, Abs.new_nobj, Abs.new_top, Abs.new_ntop, Abs.put_same, Abs.put_ne, Abs.put_nobj, Abs.put_top, Abs.put_ntop, Abs.lay_obj, Abs.lay_nobj, Abs.lay_ntop, Abs.bs_size, Abs.bs_get, Abs.bs_toList, Abs.bs_extract, Abs.bs_append, Abs.bs_nil, List.set_cons_zero, List.set_cons_succ, List.cons_append, List.nil_append, List.append_nil, List.replicate_succ, List.replicate_zero, List.flatten_cons, List.flatten_nil, ne_eq, not_true_eq_false, false_or, or_false, Nat.lt_irrefl, gt_iff_lt, Int.natCast_nonneg, Abs.i64w, Abs.ifp, Abs.telem_9, Tryz.underlying3, Tryz.underlying5, Tryz.underlying9, *])
    | ((with_reducible refine and_go ?_); refine And.intro (by first | exact kept_refl | exact kept_last rfl | exact kept_keep (by assumption)) ?_)
    | (refine hkont.out _ _ ?_; clear hkont kont))
  refine awp_loop (fun m s σ' => ∃ k : Nat, m = l.length - k ∧ k ≤ l.length ∧ s 0 = str l ∧ s 1 = sc (.int .u8 c) ∧ s 5 = sc (.int .i64 k) ∧ σ' = σ ∧
    ∀ (j : Nat), j < k → ∀ (x : UInt8), l[j]? = some x → ((x.toNat : Int) == c) = false) l.length ⟨0, by omega, by omega, rfl, rfl, rfl, rfl, fun j h => by omega⟩ ?_
  rintro m s σ' ⟨k, rfl, hk, h0, h1, h5, rfl, hno⟩
  by_cases hlt : k < l.length
  · have hbk := List.getElem?_eq_getElem hlt
    repeat' (first
    | with_reducible apply awp_seq
    | with_reducible apply awp_block
    | ((with_reducible refine awp_region_k ?_); intro kont hkont)
    | ((with_reducible refine hkont.out _ _ ?_); clear hkont kont)
    | ((first | ((with_reducible refine gd_go ?_); refine gd_split (fun h => ?_) (fun h => ?_)) | ((with_reducible refine gt_go ?_); refine gt_split (fun h => ?_) (fun h => ?_)) | ((with_reducible refine cond_go ?_); refine awp_cond_split rfl (fun h => ?_) (fun h => ?_))) <;> (try simp only [upd, ↓reduceIte, Nat.reduceEqDiff] at h) <;> (try simp only [Bool.not_eq_true', Bool.not_eq_false'] at h) <;> (try simp only [*, reduceCtorEq, decide_true, decide_false] at h) <;> (try (have hari := h; simp only [decide_eq_true_eq, decide_eq_false_iff_not, Int.not_lt, Int.not_le] at hari)) <;> (try (first | contradiction | (exfalso; omega) | (exfalso; simp at h; done))) <;> (try simp only [Abs.gd_true, Abs.gd_false, Abs.gt_true, Abs.gt_false]))
    | ((with_reducible refine aapp_go ?_); refine aApp_own (by first | fail) (by assumption) (by assumption) (by decide) (by rfl) (by first | assumption | (simp; done) | (simp; omega) | omega) (by rfl) (by rfl) (by decide) (by omega) (by omega) ?_; intro idn σn hOn hKn eobj enobj ever entop)
    | with_reducible apply awp_skip
    | with_reducible apply awp_exit
    | with_reducible apply awp_ret
    | (simp (maxSteps := 3000000) (disch := (first | omega | (simp only [Abs.new_nobj, Abs.put_nobj, Abs.lay_nobj, Abs.bs_size, List.length_cons, List.length_nil, *]; omega))) only [↓Abs.mapA_nil, ↓Abs.mapA_cons, Abs.put_ne', Abs.aRun, implies_true, Abs.map_zrep, List.head?_drop, Nat.mul_one, List.length_map, Nat.zero_mul, Nat.zero_add, Option.map_none, Int.reduceToNat, Nat.add_one_sub_one, Nat.sub_zero, List.take_length, List.all_cons, List.all_nil, Value.oneCell', Abs.awant, Abs.aStep, Abs.aq, Abs.al, Abs.aev, Abs.aput, Abs.upd, Abs.dstOk, Abs.cst, Abs.cst1, Abs.acells, Abs.flat, Abs.behind, Abs.aload, Abs.apart1, Abs.abin, Abs.aconv, Abs.aint, Abs.bnd, Abs.lsp, Abs.afill, Abs.thenQ, Abs.blkQ, Abs.retQ, Abs.ares, Abs.aresL, Abs.ares1, Abs.initS, Abs.gd_true, Abs.gd_false, Abs.nxt, Abs.aT, Abs.aTk, Abs.aU, Abs.aOne, Abs.kep, Abs.gt_true, Abs.gt_false, Abs.rdo, Abs.objOf, Option.map_some, Option.bind_some, Option.bind_none, List.getElem?_cons_zero, List.getElem?_cons_succ, List.getElem?_toArray, List.map_cons, List.map_nil, List.toList_toArray, ↓reduceIte, Nat.reduceLT, Nat.reduceEqDiff, decide_true, decide_false, Bool.true_and, Bool.and_true, beq_self_eq_true, beq_true, beq_false, Bool.not_false, Bool.not_true, ge_iff_le, gt_iff_lt, reduceCtorEq, true_and, and_true, List.getD_cons_zero, List.getD_cons_succ, List.length_cons, List.length_nil, List.drop_succ_cons, List.drop_zero, List.take_succ_cons, List.take_zero, List.head?_cons, Nat.reduceAdd, Nat.reduceMul, Nat.reduceLeDiff, Option.isSome_some, if_true, if_false, Bool.false_eq_true, Int.toNat_natCast, Value.cells, Abs.new_same, Abs.new_at, Abs.new_lt, Abs.new_nobj, Abs.new_top, Abs.new_ntop, Abs.put_same, Abs.put_ne, Abs.put_nobj, Abs.put_top, Abs.put_ntop, Abs.lay_obj, Abs.lay_nobj, Abs.lay_ntop, Abs.bs_size, Abs.bs_get, Abs.bs_toList, Abs.bs_extract, Abs.bs_append, Abs.bs_nil, List.set_cons_zero, List.set_cons_succ, List.cons_append, List.nil_append, List.append_nil, List.replicate_succ, List.replicate_zero, List.flatten_cons, List.flatten_nil, ne_eq, not_true_eq_false, false_or, or_false, Nat.lt_irrefl, gt_iff_lt, Int.natCast_nonneg, Abs.i64w, Abs.ifp, Abs.telem_9, Tryz.underlying3, Tryz.underlying5, Tryz.underlying9, *])
    | ((with_reducible refine and_go ?_); refine And.intro (by first | exact kept_refl | exact kept_last rfl | exact kept_keep (by assumption)) ?_)
    | (refine hkont.out _ _ ?_; clear hkont kont))
    · exact ⟨_, rfl, by rw [findN_hit l c k hlt hno (by assumption)]⟩
    · refine ⟨l.length - (k + 1), by omega, k + 1, rfl, by omega, by simp, fun j hj x hx => ?_⟩
      by_cases hjk : j = k
      · subst hjk; rw [hbk] at hx; cases hx; assumption
      · exact hno j (by omega) x hx
  · have hkl : k = l.length := by omega
    repeat' (first
    | with_reducible apply awp_seq
    | with_reducible apply awp_block
    | ((with_reducible refine awp_region_k ?_); intro kont hkont)
    | ((with_reducible refine hkont.out _ _ ?_); clear hkont kont)
    | ((first | ((with_reducible refine gd_go ?_); refine gd_split (fun h => ?_) (fun h => ?_)) | ((with_reducible refine gt_go ?_); refine gt_split (fun h => ?_) (fun h => ?_)) | ((with_reducible refine cond_go ?_); refine awp_cond_split rfl (fun h => ?_) (fun h => ?_))) <;> (try simp only [upd, ↓reduceIte, Nat.reduceEqDiff] at h) <;> (try simp only [Bool.not_eq_true', Bool.not_eq_false'] at h) <;> (try simp only [*, reduceCtorEq, decide_true, decide_false] at h) <;> (try (have hari := h; simp only [decide_eq_true_eq, decide_eq_false_iff_not, Int.not_lt, Int.not_le] at hari)) <;> (try (first | contradiction | (exfalso; omega) | (exfalso; simp at h; done))) <;> (try simp only [Abs.gd_true, Abs.gd_false, Abs.gt_true, Abs.gt_false]))
    | ((with_reducible refine aapp_go ?_); refine aApp_own (by first | fail) (by assumption) (by assumption) (by decide) (by rfl) (by first | assumption | (simp; done) | (simp; omega) | omega) (by rfl) (by rfl) (by decide) (by omega) (by omega) ?_; intro idn σn hOn hKn eobj enobj ever entop)
    | with_reducible apply awp_skip
    | with_reducible apply awp_exit
    | with_reducible apply awp_ret
    | (simp (maxSteps := 3000000) (disch := (first | omega | (simp only [Abs.new_nobj, Abs.put_nobj, Abs.lay_nobj, Abs.bs_size, List.length_cons, List.length_nil, *]; omega))) only [↓Abs.mapA_nil, ↓Abs.mapA_cons, Abs.put_ne', Abs.aRun, implies_true, Abs.map_zrep, List.head?_drop, Nat.mul_one, List.length_map, Nat.zero_mul, Nat.zero_add, Option.map_none, Int.reduceToNat, Nat.add_one_sub_one, Nat.sub_zero, List.take_length, List.all_cons, List.all_nil, Value.oneCell', Abs.awant, Abs.aStep, Abs.aq, Abs.al, Abs.aev, Abs.aput, Abs.upd, Abs.dstOk, Abs.cst, Abs.cst1, Abs.acells, Abs.flat, Abs.behind, Abs.aload, Abs.apart1, Abs.abin, Abs.aconv, Abs.aint, Abs.bnd, Abs.lsp, Abs.afill, Abs.thenQ, Abs.blkQ, Abs.retQ, Abs.ares, Abs.aresL, Abs.ares1, Abs.initS, Abs.gd_true, Abs.gd_false, Abs.nxt, Abs.aT, Abs.aTk, Abs.aU, Abs.aOne, Abs.kep, Abs.gt_true, Abs.gt_false, Abs.rdo, Abs.objOf, Option.map_some, Option.bind_some, Option.bind_none, List.getElem?_cons_zero, List.getElem?_cons_succ, List.getElem?_toArray, List.map_cons, List.map_nil, List.toList_toArray, ↓reduceIte, Nat.reduceLT, Nat.reduceEqDiff, decide_true, decide_false, Bool.true_and, Bool.and_true, beq_self_eq_true, beq_true, beq_false, Bool.not_false, Bool.not_true, ge_iff_le, gt_iff_lt, reduceCtorEq, true_and, and_true, List.getD_cons_zero, List.getD_cons_succ, List.length_cons, List.length_nil, List.drop_succ_cons, List.drop_zero, List.take_succ_cons, List.take_zero, List.head?_cons, Nat.reduceAdd, Nat.reduceMul, Nat.reduceLeDiff, Option.isSome_some, if_true, if_false, Bool.false_eq_true, Int.toNat_natCast, Value.cells, Abs.new_same, Abs.new_at, Abs.new_lt, Abs.new_nobj, Abs.new_top, Abs.new_ntop, Abs.put_same, Abs.put_ne, Abs.put_nobj, Abs.put_top, Abs.put_ntop, Abs.lay_obj, Abs.lay_nobj, Abs.lay_ntop, Abs.bs_size, Abs.bs_get, Abs.bs_toList, Abs.bs_extract, Abs.bs_append, Abs.bs_nil, List.set_cons_zero, List.set_cons_succ, List.cons_append, List.nil_append, List.append_nil, List.replicate_succ, List.replicate_zero, List.flatten_cons, List.flatten_nil, ne_eq, not_true_eq_false, false_or, or_false, Nat.lt_irrefl, gt_iff_lt, Int.natCast_nonneg, Abs.i64w, Abs.ifp, Abs.telem_9, Tryz.underlying3, Tryz.underlying5, Tryz.underlying9, *])
    | ((with_reducible refine and_go ?_); refine And.intro (by first | exact kept_refl | exact kept_last rfl | exact kept_keep (by assumption)) ?_)
    | (refine hkont.out _ _ ?_; clear hkont kont))
    exact ⟨_, rfl, by rw [findN_miss l c (by rw [hkl] at hno; exact hno)]⟩

def cutAux (c : Int) : List UInt8 → Bool → List UInt8 → List (List UInt8)
  | [], _, cur => if cur = [] then [] else [cur]
  | b :: r, deep, cur =>
    let d1 := if ((b.toNat : Int) == 40) = true then true else deep
    let d2 := if ((b.toNat : Int) == 41) = true then false else d1
    if ((b.toNat : Int) == c) = true ∧ d2 = false then cur :: cutAux c r d2 [] else cutAux c r d2 (cur ++ [b])
/-- a text, cut at each byte c that stands outside brackets -/
def cutL (s : List UInt8) (c : Int) : List (List UInt8) := cutAux c s false []

theorem cutAux_length (c : Int) : ∀ (s : List UInt8) (d : Bool) (cur : List UInt8), (cutAux c s d cur).length ≤ s.length + 1
  | [], d, cur => by unfold cutAux; split <;> simp
  | b :: r, d, cur => by
    unfold cutAux
    all_goals
      simp only []
      generalize (if ((b.toNat : Int) == 41) = true then false else _) = d2
      split
      · have := cutAux_length c r d2 []; simp; omega
      · have := cutAux_length c r d2 (cur ++ [b]); simp; omega

theorem drop_step {s : List UInt8} {k : Nat} (h : k < s.length) : s.drop k = s[k] :: s.drop (k + 1) := List.drop_eq_getElem_cons h
theorem take_step {s : List UInt8} {f k : Nat} (hf : f ≤ k) (h : k < s.length) : (s.drop f).take (k + 1 - f) = (s.drop f).take (k - f) ++ [s[k]] := by
  rw [show k + 1 - f = (k - f) + 1 by omega, List.take_add_one, List.getElem?_drop, show f + (k - f) = k by omega, List.getElem?_eq_getElem h]
  rfl

set_option maxHeartbeats 4000000 in
theorem cut_spec (l : List UInt8) (c : Int) (hb : l.length ≤ 100000) (σ : St) : ACalls Tryz.prog 69 [str l, sc (.int .u8 c)] σ fun x σ' => ∃ id, x = sl id (cutL l c).length ((cutL l c).map str) ∧ Keep σ σ' := by
  refine acalls 52 [.tmp 4] Tryz.func69 rfl (by decide) rfl rfl (Nat.le_of_ble_eq_true rfl) ?_
  repeat' (first
    | with_reducible apply awp_seq
    | with_reducible apply awp_block
    | ((with_reducible refine awp_region_k ?_); intro kont hkont)
    | ((with_reducible refine hkont.out _ _ ?_); clear hkont kont)
    | ((first | ((with_reducible refine gd_go ?_); refine gd_split (fun h => ?_) (fun h => ?_)) | ((with_reducible refine gt_go ?_); refine gt_split (fun h => ?_) (fun h => ?_)) | ((with_reducible refine cond_go ?_); refine awp_cond_split rfl (fun h => ?_) (fun h => ?_))) <;> (try simp only [upd, ↓reduceIte, Nat.reduceEqDiff] at h) <;> (try simp only [Bool.not_eq_true', Bool.not_eq_false'] at h) <;> (try simp only [*, reduceCtorEq, decide_true, decide_false] at h) <;> (try (have hari := h; simp only [decide_eq_true_eq, decide_eq_false_iff_not, Int.not_lt, Int.not_le] at hari)) <;> (try (first | contradiction | (exfalso; omega) | (exfalso; simp at h; done))) <;> (try simp only [Abs.gd_true, Abs.gd_false, Abs.gt_true, Abs.gt_false]))
    | ((with_reducible refine aapp_go ?_); refine aApp_own (by first | exact Abs.tez_37) (by assumption) (by assumption) (by decide) (by rfl) (by first | assumption | (simp; done) | (simp; omega) | omega) (by rfl) (by rfl) (by decide) (by omega) (by omega) ?_; intro idn σn hOn hKn eobj enobj ever entop)
    | with_reducible apply awp_skip
    | with_reducible apply awp_exit
    | with_reducible apply awp_ret
    | (simp (maxSteps := 3000000) (disch := (first | omega | (simp only [Abs.new_nobj, Abs.put_nobj, Abs.lay_nobj, Abs.bs_size, List.length_cons, List.length_nil, *]; omega))) only [↓Abs.mapA_nil, ↓Abs.mapA_cons, Abs.put_ne', Abs.aRun, implies_true, Abs.map_zrep, List.head?_drop, Nat.mul_one, List.length_map, Nat.zero_mul, Nat.zero_add, Option.map_none, Int.reduceToNat, Nat.add_one_sub_one, Nat.sub_zero, List.take_length, List.all_cons, List.all_nil, Value.oneCell', Abs.awant, Abs.aStep, Abs.aq, Abs.al, Abs.aev, Abs.aput, Abs.upd, Abs.dstOk, Abs.cst, Abs.cst1, Abs.acells, Abs.flat, Abs.behind, Abs.aload, Abs.apart1, Abs.abin, Abs.aconv, Abs.aint, Abs.bnd, Abs.lsp, Abs.afill, Abs.thenQ, Abs.blkQ, Abs.retQ, Abs.ares, Abs.aresL, Abs.ares1, Abs.initS, Abs.gd_true, Abs.gd_false, Abs.nxt, Abs.aT, Abs.aTk, Abs.aU, Abs.aOne, Abs.kep, Abs.gt_true, Abs.gt_false, Abs.rdo, Abs.objOf, Option.map_some, Option.bind_some, Option.bind_none, List.getElem?_cons_zero, List.getElem?_cons_succ, List.getElem?_toArray, List.map_cons, List.map_nil, List.toList_toArray, ↓reduceIte, Nat.reduceLT, Nat.reduceEqDiff, decide_true, decide_false, Bool.true_and, Bool.and_true, beq_self_eq_true, beq_true, beq_false, Bool.not_false, Bool.not_true, ge_iff_le, gt_iff_lt, reduceCtorEq, true_and, and_true, List.getD_cons_zero, List.getD_cons_succ, List.length_cons, List.length_nil, List.drop_succ_cons, List.drop_zero, List.take_succ_cons, List.take_zero, List.head?_cons, Nat.reduceAdd, Nat.reduceMul, Nat.reduceLeDiff, Option.isSome_some, if_true, if_false, Bool.false_eq_true, Int.toNat_natCast, Value.cells, Abs.new_same, Abs.new_at, Abs.new_lt, Abs.new_nobj, Abs.new_top, Abs.new_ntop, Abs.put_same, Abs.put_ne, Abs.put_nobj, Abs.put_top, Abs.put_ntop, Abs.lay_obj, Abs.lay_nobj, Abs.lay_ntop, Abs.bs_size, Abs.bs_get, Abs.bs_toList, Abs.bs_extract, Abs.bs_append, Abs.bs_nil, List.set_cons_zero, List.set_cons_succ, List.cons_append, List.nil_append, List.append_nil, List.replicate_succ, List.replicate_zero, List.flatten_cons, List.flatten_nil, ne_eq, not_true_eq_false, false_or, or_false, Nat.lt_irrefl, gt_iff_lt, Int.natCast_nonneg, Abs.i64w, Abs.ifp, Abs.telem_9, Abs.tez_37, Tryz.underlying3, Tryz.underlying5, Tryz.underlying9, *])
    | ((with_reducible refine and_go ?_); refine And.intro (by first | exact kept_refl | exact kept_last rfl | exact kept_keep (by assumption)) ?_)
    | (refine hkont.out _ _ ?_; clear hkont kont))
  refine awp_loop (fun m s σ' => ∃ (k f id : Nat) (d : Bool) (acc : List (List UInt8)), m = l.length - k ∧ k ≤ l.length ∧ f ≤ k ∧ s 0 = str l ∧ s 1 = sc (.int .u8 c) ∧ s 5 = sl id acc.length (acc.map str) ∧ s 6 = sc (.bool d) ∧ s 7 = sc (.int .i64 f) ∧ s 8 = sc (.int .i64 k) ∧
    Keep σ σ' ∧ Own σ σ' id acc.length ∧ acc.length ≤ k ∧ Abs.Hid (cutL l c = acc ++ cutAux c (l.drop k) d ((l.drop f).take (k - f)))) l.length ⟨0, 0, 1, false, [], by omega, by omega, by omega, rfl, rfl, rfl, rfl, rfl, rfl, Keep.refl _, Own.nil _ _, by simp, rfl⟩ ?_
  rintro m s σ' ⟨k, f, id, d, acc, rfl, hk, hfk, h0, h1, h5, h6, h7, h8, hK, hO, hal, hcut⟩
  by_cases hlt : k < l.length
  · have hbk := List.getElem?_eq_getElem hlt
    repeat' (first
    | with_reducible apply awp_seq
    | with_reducible apply awp_block
    | ((with_reducible refine awp_region_k ?_); intro kont hkont)
    | ((with_reducible refine hkont.out _ _ ?_); clear hkont kont)
    | ((first | ((with_reducible refine gd_go ?_); refine gd_split (fun h => ?_) (fun h => ?_)) | ((with_reducible refine gt_go ?_); refine gt_split (fun h => ?_) (fun h => ?_)) | ((with_reducible refine cond_go ?_); refine awp_cond_split rfl (fun h => ?_) (fun h => ?_))) <;> (try simp only [upd, ↓reduceIte, Nat.reduceEqDiff] at h) <;> (try simp only [Bool.not_eq_true', Bool.not_eq_false'] at h) <;> (try simp only [*, reduceCtorEq, decide_true, decide_false] at h) <;> (try (have hari := h; simp only [decide_eq_true_eq, decide_eq_false_iff_not, Int.not_lt, Int.not_le] at hari)) <;> (try (first | contradiction | (exfalso; omega) | (exfalso; simp at h; done))) <;> (try simp only [Abs.gd_true, Abs.gd_false, Abs.gt_true, Abs.gt_false]))
    | ((with_reducible refine aapp_go ?_); refine aApp_own (by first | exact Abs.tez_37) (by assumption) (by assumption) (by decide) (by rfl) (by first | assumption | (simp; done) | (simp; omega) | omega) (by rfl) (by rfl) (by decide) (by omega) (by omega) ?_; intro idn σn hOn hKn eobj enobj ever entop)
    | with_reducible apply awp_skip
    | with_reducible apply awp_exit
    | with_reducible apply awp_ret
    | (simp (maxSteps := 3000000) (disch := (first | omega | (simp only [Abs.new_nobj, Abs.put_nobj, Abs.lay_nobj, Abs.bs_size, List.length_cons, List.length_nil, *]; omega))) only [↓Abs.mapA_nil, ↓Abs.mapA_cons, Abs.put_ne', Abs.aRun, implies_true, Abs.map_zrep, List.head?_drop, Nat.mul_one, List.length_map, Nat.zero_mul, Nat.zero_add, Option.map_none, Int.reduceToNat, Nat.add_one_sub_one, Nat.sub_zero, List.take_length, List.all_cons, List.all_nil, Value.oneCell', Abs.awant, Abs.aStep, Abs.aq, Abs.al, Abs.aev, Abs.aput, Abs.upd, Abs.dstOk, Abs.cst, Abs.cst1, Abs.acells, Abs.flat, Abs.behind, Abs.aload, Abs.apart1, Abs.abin, Abs.aconv, Abs.aint, Abs.bnd, Abs.lsp, Abs.afill, Abs.thenQ, Abs.blkQ, Abs.retQ, Abs.ares, Abs.aresL, Abs.ares1, Abs.initS, Abs.gd_true, Abs.gd_false, Abs.nxt, Abs.aT, Abs.aTk, Abs.aU, Abs.aOne, Abs.kep, Abs.gt_true, Abs.gt_false, Abs.rdo, Abs.objOf, Option.map_some, Option.bind_some, Option.bind_none, List.getElem?_cons_zero, List.getElem?_cons_succ, List.getElem?_toArray, List.map_cons, List.map_nil, List.toList_toArray, ↓reduceIte, Nat.reduceLT, Nat.reduceEqDiff, decide_true, decide_false, Bool.true_and, Bool.and_true, beq_self_eq_true, beq_true, beq_false, Bool.not_false, Bool.not_true, ge_iff_le, gt_iff_lt, reduceCtorEq, true_and, and_true, List.getD_cons_zero, List.getD_cons_succ, List.length_cons, List.length_nil, List.drop_succ_cons, List.drop_zero, List.take_succ_cons, List.take_zero, List.head?_cons, Nat.reduceAdd, Nat.reduceMul, Nat.reduceLeDiff, Option.isSome_some, if_true, if_false, Bool.false_eq_true, Int.toNat_natCast, Value.cells, Abs.new_same, Abs.new_at, Abs.new_lt, Abs.new_nobj, Abs.new_top, Abs.new_ntop, Abs.put_same, Abs.put_ne, Abs.put_nobj, Abs.put_top, Abs.put_ntop, Abs.lay_obj, Abs.lay_nobj, Abs.lay_ntop, Abs.bs_size, Abs.bs_get, Abs.bs_toList, Abs.bs_extract, Abs.bs_append, Abs.bs_nil, List.set_cons_zero, List.set_cons_succ, List.cons_append, List.nil_append, List.append_nil, List.replicate_succ, List.replicate_zero, List.flatten_cons, List.flatten_nil, ne_eq, not_true_eq_false, false_or, or_false, Nat.lt_irrefl, gt_iff_lt, Int.natCast_nonneg, Abs.i64w, Abs.ifp, Abs.telem_9, Abs.tez_37, Tryz.underlying3, Tryz.underlying5, Tryz.underlying9, *])
    | ((with_reducible refine and_go ?_); refine And.intro (by first | exact kept_refl | exact kept_last rfl | exact kept_keep (by assumption)) ?_)
    | (refine hkont.out _ _ ?_; clear hkont kont))
    all_goals first
      | (refine ⟨l.length - (k + 1), by omega, k + 1, k + 1, idn, _, acc ++ [(l.drop f).take (k - f)], rfl, by omega, by omega, by simp, rfl, by simp, by simp, by simpa using hOn, by simp; omega, ?_⟩
         have hc := hcut.out
         rw [drop_step hlt] at hc
         simp only [cutAux, *, ↓reduceIte, and_self, Bool.false_eq_true] at hc
         rw [Abs.Hid, hc]
         try first | (simp; done) | (cases d <;> simp at h ⊢))
      | (refine ⟨l.length - (k + 1), by omega, k + 1, f, id, _, acc, rfl, by omega, by omega, rfl, rfl, rfl, by simp, hO, by omega, ?_⟩
         have hc := hcut.out
         rw [drop_step hlt] at hc
         simp only [cutAux, *, ↓reduceIte, and_self, and_false, false_and, reduceCtorEq, Bool.false_eq_true] at hc
         rw [Abs.Hid, hc, take_step hfk hlt]
         try first | rfl | (cases d <;> simp at h ⊢))
  · have hc := hcut.out
    have hkl : k = l.length := by omega
    subst hkl
    simp only [List.drop_length, cutAux] at hc
    have htk : (l.drop f).take (l.length - f) = l.drop f := List.take_of_length_le (by simp)
    rw [htk] at hc
    have HC := (show Abs.Hid _ from hc)
    clear hc hcut htk
    repeat' (first
    | with_reducible apply awp_seq
    | with_reducible apply awp_block
    | ((with_reducible refine awp_region_k ?_); intro kont hkont)
    | ((with_reducible refine hkont.out _ _ ?_); clear hkont kont)
    | ((first | ((with_reducible refine gd_go ?_); refine gd_split (fun h => ?_) (fun h => ?_)) | ((with_reducible refine gt_go ?_); refine gt_split (fun h => ?_) (fun h => ?_)) | ((with_reducible refine cond_go ?_); refine awp_cond_split rfl (fun h => ?_) (fun h => ?_))) <;> (try simp only [upd, ↓reduceIte, Nat.reduceEqDiff] at h) <;> (try simp only [Bool.not_eq_true', Bool.not_eq_false'] at h) <;> (try simp only [*, reduceCtorEq, decide_true, decide_false] at h) <;> (try (have hari := h; simp only [decide_eq_true_eq, decide_eq_false_iff_not, Int.not_lt, Int.not_le] at hari)) <;> (try (first | contradiction | (exfalso; omega) | (exfalso; simp at h; done))) <;> (try simp only [Abs.gd_true, Abs.gd_false, Abs.gt_true, Abs.gt_false]))
    | ((with_reducible refine aapp_go ?_); refine aApp_own (by first | exact Abs.tez_37) (by assumption) (by assumption) (by decide) (by rfl) (by first | assumption | (simp; done) | (simp; omega) | omega) (by rfl) (by rfl) (by decide) (by omega) (by omega) ?_; intro idn σn hOn hKn eobj enobj ever entop)
    | with_reducible apply awp_skip
    | with_reducible apply awp_exit
    | with_reducible apply awp_ret
    | (simp (maxSteps := 3000000) (disch := (first | omega | (simp only [Abs.new_nobj, Abs.put_nobj, Abs.lay_nobj, Abs.bs_size, List.length_cons, List.length_nil, *]; omega))) only [↓Abs.mapA_nil, ↓Abs.mapA_cons, Abs.put_ne', Abs.aRun, implies_true, Abs.map_zrep, List.head?_drop, Nat.mul_one, List.length_map, Nat.zero_mul, Nat.zero_add, Option.map_none, Int.reduceToNat, Nat.add_one_sub_one, Nat.sub_zero, List.take_length, List.all_cons, List.all_nil, Value.oneCell', Abs.awant, Abs.aStep, Abs.aq, Abs.al, Abs.aev, Abs.aput, Abs.upd, Abs.dstOk, Abs.cst, Abs.cst1, Abs.acells, Abs.flat, Abs.behind, Abs.aload, Abs.apart1, Abs.abin, Abs.aconv, Abs.aint, Abs.bnd, Abs.lsp, Abs.afill, Abs.thenQ, Abs.blkQ, Abs.retQ, Abs.ares, Abs.aresL, Abs.ares1, Abs.initS, Abs.gd_true, Abs.gd_false, Abs.nxt, Abs.aT, Abs.aTk, Abs.aU, Abs.aOne, Abs.kep, Abs.gt_true, Abs.gt_false, Abs.rdo, Abs.objOf, Option.map_some, Option.bind_some, Option.bind_none, List.getElem?_cons_zero, List.getElem?_cons_succ, List.getElem?_toArray, List.map_cons, List.map_nil, List.toList_toArray, ↓reduceIte, Nat.reduceLT, Nat.reduceEqDiff, decide_true, decide_false, Bool.true_and, Bool.and_true, beq_self_eq_true, beq_true, beq_false, Bool.not_false, Bool.not_true, ge_iff_le, gt_iff_lt, reduceCtorEq, true_and, and_true, List.getD_cons_zero, List.getD_cons_succ, List.length_cons, List.length_nil, List.drop_succ_cons, List.drop_zero, List.take_succ_cons, List.take_zero, List.head?_cons, Nat.reduceAdd, Nat.reduceMul, Nat.reduceLeDiff, Option.isSome_some, if_true, if_false, Bool.false_eq_true, Int.toNat_natCast, Value.cells, Abs.new_same, Abs.new_at, Abs.new_lt, Abs.new_nobj, Abs.new_top, Abs.new_ntop, Abs.put_same, Abs.put_ne, Abs.put_nobj, Abs.put_top, Abs.put_ntop, Abs.lay_obj, Abs.lay_nobj, Abs.lay_ntop, Abs.bs_size, Abs.bs_get, Abs.bs_toList, Abs.bs_extract, Abs.bs_append, Abs.bs_nil, List.set_cons_zero, List.set_cons_succ, List.cons_append, List.nil_append, List.append_nil, List.replicate_succ, List.replicate_zero, List.flatten_cons, List.flatten_nil, ne_eq, not_true_eq_false, false_or, or_false, Nat.lt_irrefl, gt_iff_lt, Int.natCast_nonneg, Abs.i64w, Abs.ifp, Abs.telem_9, Abs.tez_37, Tryz.underlying3, Tryz.underlying5, Tryz.underlying9, *])
    | ((with_reducible refine and_go ?_); refine And.intro (by first | exact kept_refl | exact kept_last rfl | exact kept_keep (by assumption)) ?_)
    | (refine hkont.out _ _ ?_; clear hkont kont))
    · first | refine ⟨_, rfl, idn, ?_, hKn⟩ | refine ⟨_, rfl, idn, ?_⟩
      have hc := HC.out
      rw [if_neg (by intro e; have := congrArg List.length e; simp at this; omega)] at hc
      rw [hc]
      simp
      try rw [List.take_of_length_le (by simp)]
    · first | refine ⟨_, rfl, id, ?_, hK⟩ | refine ⟨_, rfl, id, ?_⟩
      have hc := HC.out
      rw [if_pos (by apply List.eq_nil_of_length_eq_zero; simp; omega)] at hc
      rw [hc]
      simp
end Go.Proofs.YtilaanolklhkaaaGreatDoorZ
