import Derived.Test.YtilaanolklhkaaaGreatDoorZProgC
/- The program's reader: terms. -/
namespace Go.Proofs.YtilaanolklhkaaaGreatDoorZ
open Go.Abs
set_option linter.unusedSimpArgs false
set_option linter.unusedVariables false
set_option maxRecDepth 100000

theorem KeepX.new {o : Nat} {σ σ' : St} (h : KeepX o σ σ') (cs : List AV) : KeepX o σ (σ'.new cs) := by
  have := h.nobj
  exact ⟨by simp [St.new]; omega, fun p hp hne => by simp [St.new]; rw [if_neg (by omega)]; exact h.obj p hp hne, h.ver, h.ntop, h.top⟩
theorem KeepX.putN {o p : Nat} {σ σ' : St} (h : KeepX o σ σ') (hp : σ.nobj ≤ p) (cs : List AV) : KeepX o σ (σ'.put p cs) :=
  ⟨h.nobj, fun q hq hne => by simp [St.put]; rw [if_neg (by omega)]; exact h.obj q hq hne, fun q hq hne => by simp [St.put]; rw [if_neg (by omega)]; exact h.ver q hq hne, h.ntop, h.top⟩
theorem KeepX.lay {o : Nat} {a b : St} (h : KeepX o a b) (n : Nat) : KeepX o a (b.lay n) := by
  have := h.ntop
  exact ⟨h.nobj, h.obj, h.ver, by simp [St.lay]; omega, fun k hk => by simp [St.lay]; rw [if_neg (by omega)]; exact h.top k hk⟩

/-- a term of the text, as the program keeps it -/
def encT : Tx → Bool × Int
  | [] => (false, 0)
  | b :: r => if largeB b.toNat = true then (true, (b.toNat : Int) - 65) else (false, numV (b :: r))
theorem encT_large {b : UInt8} {r : Tx} (h : largeB b.toNat = true) : encT (b :: r) = (true, (b.toNat : Int) - 65) := by unfold encT; dsimp only; rw [if_pos h]
theorem encT_num {b : UInt8} {r : Tx} (h : largeB b.toNat = false) : encT (b :: r) = (false, numV (b :: r)) := by unfold encT; dsimp only; rw [if_neg (by rw [h]; simp)]
def tcell (x : Tx) : List AV := [sc (.bool (encT x).1), sc (.int .i64 (encT x).2)]
def tcells (ts : List Tx) : List AV := ts.flatMap tcell
theorem tcells_len (ts : List Tx) : (tcells ts).length = ts.length * 2 := by
  induction ts with
  | nil => rfl
  | cons a l ih => unfold tcells at *; rw [List.flatMap_cons, List.length_append, ih]; simp [tcell]; omega
theorem tcells_snoc (ts : List Tx) (x : Tx) : tcells (ts ++ [x]) = tcells ts ++ tcell x := by simp [tcells]
theorem pWhile_rest (p : Int → Bool) (n : Nat) (s : Tx) : (pWhile p n s).2 <:+ s := ⟨(pWhile p n s).1, (pWhile_took p n s).1.symm⟩
theorem pTerm_rest (s : Tx) : (pTerm s).rest <:+ s := by
  cases s with
  | nil => exact List.suffix_refl _
  | cons b r =>
    unfold pTerm; dsimp only
    split
    · exact List.suffix_cons b r
    split
    · exact List.suffix_cons b r
    split
    · exact (pWhile_rest digitB 2 r).trans (List.suffix_cons b r)
    · exact List.suffix_refl _

set_option maxHeartbeats 4000000 in
theorem readZero_spec (t r : Tx) (b : UInt8) (o : Nat) (nm : AV) (ht : t.length ≤ 1000) (hs : (b :: r) <:+ t) (σ : St) (ho : σ.obj o = rdS t (b :: r) nm) (hn : o < σ.nobj) (h48 : ((b.toNat : Int) == 48) = true) :
    ACalls Tryz.prog 193 [ptr o 0] σ fun x σ' => KeepX o σ σ' ∧ σ'.obj o = rdS t r nm ∧ x = sc (.int .i64 0) := by
  have hp : pByte 48 (b :: r) = .got () r := by unfold pByte; dsimp only; rw [if_pos h48]
  have hT := take_suff t (b :: r) o nm 48 ht hs σ ho hn
  rw [hp] at hT
  refine acalls 57 [.tmp 2] Tryz.func193 rfl (by decide) rfl rfl (Nat.le_of_ble_eq_true rfl) ?_
  repeat' (first
    | with_reducible apply awp_seq
    | with_reducible apply awp_block
    | ((with_reducible refine awp_region_k ?_); intro kont hkont)
    | ((with_reducible refine hkont.out _ _ ?_); clear hkont kont)
    | ((first | ((with_reducible refine gd_go ?_); refine gd_split (fun h => ?_) (fun h => ?_)) | ((with_reducible refine gt_go ?_); refine gt_split (fun h => ?_) (fun h => ?_)) | ((with_reducible refine cond_go ?_); refine awp_cond_split rfl (fun h => ?_) (fun h => ?_))) <;> (try simp only [upd, ↓reduceIte, Nat.reduceEqDiff] at h) <;> (try simp only [Bool.not_eq_true', Bool.not_eq_false'] at h) <;> (try simp only [*, reduceCtorEq, decide_true, decide_false] at h) <;> (try (have hari := h; simp only [decide_eq_true_eq, decide_eq_false_iff_not, Int.not_lt, Int.not_le] at hari)) <;> (try (first | contradiction | (exfalso; omega) | (exfalso; simp at h; done))) <;> (try simp only [Abs.gd_true, Abs.gd_false, Abs.gt_true, Abs.gt_false]))
    | ((with_reducible refine aapp_go ?_); refine aApp_own (by first | fail) (by assumption) (by assumption) (by decide) (by rfl) (by first | assumption | (simp; done) | (simp; omega) | omega) (by rfl) (by rfl) (by decide) (by omega) (by omega) ?_; intro idn σn hOn hKn eobj enobj ever entop)
    | ((with_reducible refine acalls_go ?_); refine ACalls.mono (hT) ?_; rintro _ _ ⟨hK1, rfl, hO1, -⟩)
    | with_reducible apply awp_skip
    | with_reducible apply awp_exit
    | with_reducible apply awp_ret
    | (simp (maxSteps := 3000000) (disch := (first | omega | (simp only [Abs.new_nobj, Abs.put_nobj, Abs.lay_nobj, Abs.bs_size, List.length_cons, List.length_nil, *]; omega))) only [↓Abs.mapA_nil, ↓Abs.mapA_cons, Abs.put_ne', Abs.aRun, implies_true, Abs.map_zrep, List.head?_drop, Nat.mul_one, List.length_map, Nat.zero_mul, Nat.zero_add, Option.map_none, Int.reduceToNat, Nat.add_one_sub_one, Nat.sub_zero, List.take_length, List.all_cons, List.all_nil, Value.oneCell', Abs.awant, Abs.aStep, Abs.aq, Abs.al, Abs.aev, Abs.aput, Abs.upd, Abs.dstOk, Abs.cst, Abs.cst1, Abs.acells, Abs.flat, Abs.behind, Abs.aload, Abs.apart1, Abs.abin, Abs.aconv, Abs.aint, Abs.bnd, Abs.lsp, Abs.afill, Abs.thenQ, Abs.blkQ, Abs.retQ, Abs.ares, Abs.aresL, Abs.ares1, Abs.initS, Abs.gd_true, Abs.gd_false, Abs.nxt, Abs.aT, Abs.aTk, Abs.aU, Abs.aOne, Abs.kep, Abs.gt_true, Abs.gt_false, Abs.rdo, Abs.objOf, Option.map_some, Option.bind_some, Option.bind_none, List.getElem?_cons_zero, List.getElem?_cons_succ, List.getElem?_toArray, List.map_cons, List.map_nil, List.toList_toArray, ↓reduceIte, Nat.reduceLT, Nat.reduceEqDiff, decide_true, decide_false, Bool.true_and, Bool.and_true, beq_self_eq_true, beq_true, beq_false, Bool.not_false, Bool.not_true, ge_iff_le, gt_iff_lt, reduceCtorEq, true_and, and_true, List.getD_cons_zero, List.getD_cons_succ, List.length_cons, List.length_nil, List.drop_succ_cons, List.drop_zero, List.take_succ_cons, List.take_zero, List.head?_cons, Nat.reduceAdd, Nat.reduceMul, Nat.reduceLeDiff, Option.isSome_some, if_true, if_false, Bool.false_eq_true, Int.toNat_natCast, Value.cells, Abs.new_same, Abs.new_at, Abs.new_lt, Abs.new_nobj, Abs.new_top, Abs.new_ntop, Abs.put_same, Abs.put_ne, Abs.put_nobj, Abs.put_top, Abs.put_ntop, Abs.lay_obj, Abs.lay_nobj, Abs.lay_ntop, Abs.bs_size, Abs.bs_get, Abs.bs_toList, Abs.bs_extract, Abs.bs_append, Abs.bs_nil, List.set_cons_zero, List.set_cons_succ, List.cons_append, List.nil_append, List.append_nil, List.replicate_succ, List.replicate_zero, List.flatten_cons, List.flatten_nil, ne_eq, not_true_eq_false, false_or, or_false, Nat.lt_irrefl, gt_iff_lt, Int.natCast_nonneg, Abs.i64w, Abs.ifp, Abs.telem_9, Abs.tfld_81_0, Abs.tfld_81_1, Abs.tsz_3, Abs.tsz_9, Tryz.underlying3, Tryz.underlying5, Tryz.underlying9, *])
    | ((with_reducible refine and_go ?_); refine And.intro (by first | exact kept_refl | exact kept_last rfl | exact kept_keep (by assumption)) ?_)
    | (refine hkont.out _ _ ?_; clear hkont kont))
  first | exact ⟨_, rfl, hK1, hO1, rfl⟩ | exact ⟨_, rfl, hK1, hO1⟩ | exact ⟨_, rfl, hK1, rfl⟩ | exact ⟨_, rfl, rfl⟩

set_option maxHeartbeats 16000000 in
theorem readTerm_R {t : Tx} {o : Nat} {N : List Tx} {id : Nat} {s : Tx} {σ : St} (ht : t.length ≤ 1000) (hR : RS t o N id s σ) :
    ACalls Tryz.prog 160 [ptr o 0] σ fun x σ' => ∃ v k, x = tp [ag [sc (.bool v), sc (.int .i64 k)], sc (.bool (pTerm s).ok)] ∧ KeepX o σ σ' ∧ RS t o N id (pTerm s).rest σ' ∧ Rd.Val (pTerm s) fun w => encT w = (v, k) := by
  have hR' : Abs.Hid (RS t o N id s σ) := hR
  obtain ⟨ho, hn, -, hs, -⟩ := hR
  have hsl := suff_len hs
  have hsg := suff_get hs
  have hrl : Abs.Hid ((pTerm s).rest.length ≤ s.length) := (pTerm_rest s).length_le
  have hrs : Abs.Hid ((pTerm s).rest <:+ t) := (pTerm_rest s).trans hs
  generalize hnm : sl id N.length (N.map str) = nm at ho
  have hnm : Abs.Hid (sl id N.length (N.map str) = nm) := hnm
  have ho' : Abs.Hid (σ.obj o = rdS t s nm) := ho
  unfold rdS rdr at ho
  refine acalls 46 [.cell 2 187, .tmp 3] Tryz.func160 rfl (by decide) rfl rfl (Nat.le_of_ble_eq_true rfl) ?_
  repeat' (first
    | with_reducible apply awp_seq
    | with_reducible apply awp_block
    | ((with_reducible refine awp_region_k ?_); intro kont hkont)
    | ((with_reducible refine hkont.out _ _ ?_); clear hkont kont)
    | ((first | ((with_reducible refine gd_go ?_); refine gd_split (fun h => ?_) (fun h => ?_)) | ((with_reducible refine gt_go ?_); refine gt_split (fun h => ?_) (fun h => ?_)) | ((with_reducible refine cond_go ?_); refine awp_cond_split rfl (fun h => ?_) (fun h => ?_))) <;> (try simp only [upd, ↓reduceIte, Nat.reduceEqDiff] at h) <;> (try simp only [Bool.not_eq_true', Bool.not_eq_false'] at h) <;> (try simp only [*, reduceCtorEq, decide_true, decide_false] at h) <;> (try (have hari := h; simp only [decide_eq_true_eq, decide_eq_false_iff_not, Int.not_lt, Int.not_le] at hari)) <;> (try (first | contradiction | (exfalso; omega) | (exfalso; simp at h; done))) <;> (try simp only [Abs.gd_true, Abs.gd_false, Abs.gt_true, Abs.gt_false]))
    | ((with_reducible refine aapp_go ?_); refine aApp_own (by first | fail) (by assumption) (by assumption) (by decide) (by rfl) (by first | assumption | (simp; done) | (simp; omega) | omega) (by rfl) (by rfl) (by decide) (by omega) (by omega) ?_; intro idn σn hOn hKn eobj enobj ever entop)
    | with_reducible apply awp_skip
    | with_reducible apply awp_exit
    | with_reducible apply awp_ret
    | (simp (maxSteps := 3000000) (disch := (first | omega | (simp only [Abs.new_nobj, Abs.put_nobj, Abs.lay_nobj, Abs.bs_size, List.length_cons, List.length_nil, *]; omega))) only [↓Abs.mapA_nil, ↓Abs.mapA_cons, Abs.put_ne', Abs.aRun, implies_true, Abs.map_zrep, List.head?_drop, Nat.mul_one, List.length_map, Nat.zero_mul, Nat.zero_add, Option.map_none, Int.reduceToNat, Nat.add_one_sub_one, Nat.sub_zero, List.take_length, List.all_cons, List.all_nil, Value.oneCell', Abs.awant, Abs.aStep, Abs.aq, Abs.al, Abs.aev, Abs.aput, Abs.upd, Abs.dstOk, Abs.cst, Abs.cst1, Abs.acells, Abs.flat, Abs.behind, Abs.aload, Abs.apart1, Abs.abin, Abs.aconv, Abs.aint, Abs.bnd, Abs.lsp, Abs.afill, Abs.thenQ, Abs.blkQ, Abs.retQ, Abs.ares, Abs.aresL, Abs.ares1, Abs.initS, Abs.gd_true, Abs.gd_false, Abs.nxt, Abs.aT, Abs.aTk, Abs.aU, Abs.aOne, Abs.kep, Abs.gt_true, Abs.gt_false, Abs.rdo, Abs.objOf, Option.map_some, Option.bind_some, Option.bind_none, List.getElem?_cons_zero, List.getElem?_cons_succ, List.getElem?_toArray, List.map_cons, List.map_nil, List.toList_toArray, ↓reduceIte, Nat.reduceLT, Nat.reduceEqDiff, decide_true, decide_false, Bool.true_and, Bool.and_true, beq_self_eq_true, beq_true, beq_false, Bool.not_false, Bool.not_true, ge_iff_le, gt_iff_lt, reduceCtorEq, true_and, and_true, List.getD_cons_zero, List.getD_cons_succ, List.length_cons, List.length_nil, List.drop_succ_cons, List.drop_zero, List.take_succ_cons, List.take_zero, List.head?_cons, Nat.reduceAdd, Nat.reduceMul, Nat.reduceLeDiff, Option.isSome_some, if_true, if_false, Bool.false_eq_true, Int.toNat_natCast, Value.cells, Abs.new_same, Abs.new_at, Abs.new_lt, Abs.new_nobj, Abs.new_top, Abs.new_ntop, Abs.put_same, Abs.put_ne, Abs.put_nobj, Abs.put_top, Abs.put_ntop, Abs.lay_obj, Abs.lay_nobj, Abs.lay_ntop, Abs.bs_size, Abs.bs_get, Abs.bs_toList, Abs.bs_extract, Abs.bs_append, Abs.bs_nil, List.set_cons_zero, List.set_cons_succ, List.cons_append, List.nil_append, List.append_nil, List.replicate_succ, List.replicate_zero, List.flatten_cons, List.flatten_nil, ne_eq, not_true_eq_false, false_or, or_false, Nat.lt_irrefl, gt_iff_lt, Int.natCast_nonneg, Abs.i64w, Abs.ifp, Abs.telem_9, Abs.tfld_81_0, Abs.tfld_81_1, Abs.tstr_187, Abs.tsz_187, Abs.tsz_3, Abs.tsz_9, Abs.tzero_187, Tryz.underlying3, Tryz.underlying5, Tryz.underlying9, *])
    | ((with_reducible refine and_go ?_); refine And.intro (by first | exact kept_refl | exact kept_last rfl | exact kept_keep (by assumption)) ?_)
    | (refine hkont.out _ _ ?_; clear hkont kont))
  refine awp_draw_k follows_mixed (fun _ => True) [9] [0, 1, 2, 3, 4, 5, 6, 7, 8] [9] (by kernel_rfl) (fun _ _ _ h => h) ?_
  intro kont hkont
  cases s with
  | nil =>
    simp only [List.length_nil, Nat.sub_zero] at ho hsg hsl
    simp (maxSteps := 3000000) (disch := (first | omega | (simp only [Abs.new_nobj, Abs.put_nobj, Abs.lay_nobj, Abs.bs_size, List.length_cons, List.length_nil, *]; omega))) only [↓Abs.mapA_nil, ↓Abs.mapA_cons, Abs.put_ne', Abs.aRun, implies_true, Abs.map_zrep, List.head?_drop, Nat.mul_one, List.length_map, Nat.zero_mul, Nat.zero_add, Option.map_none, Int.reduceToNat, Nat.add_one_sub_one, Nat.sub_zero, List.take_length, List.all_cons, List.all_nil, Value.oneCell', Abs.awant, Abs.aStep, Abs.aq, Abs.al, Abs.aev, Abs.aput, Abs.upd, Abs.dstOk, Abs.cst, Abs.cst1, Abs.acells, Abs.flat, Abs.behind, Abs.aload, Abs.apart1, Abs.abin, Abs.aconv, Abs.aint, Abs.bnd, Abs.lsp, Abs.afill, Abs.thenQ, Abs.blkQ, Abs.retQ, Abs.ares, Abs.aresL, Abs.ares1, Abs.initS, Abs.gd_true, Abs.gd_false, Abs.nxt, Abs.aT, Abs.aTk, Abs.aU, Abs.aOne, Abs.kep, Abs.gt_true, Abs.gt_false, Abs.rdo, Abs.objOf, Option.map_some, Option.bind_some, Option.bind_none, List.getElem?_cons_zero, List.getElem?_cons_succ, List.getElem?_toArray, List.map_cons, List.map_nil, List.toList_toArray, ↓reduceIte, Nat.reduceLT, Nat.reduceEqDiff, decide_true, decide_false, Bool.true_and, Bool.and_true, beq_self_eq_true, beq_true, beq_false, Bool.not_false, Bool.not_true, ge_iff_le, gt_iff_lt, reduceCtorEq, true_and, and_true, List.getD_cons_zero, List.getD_cons_succ, List.length_cons, List.length_nil, List.drop_succ_cons, List.drop_zero, List.take_succ_cons, List.take_zero, List.head?_cons, Nat.reduceAdd, Nat.reduceMul, Nat.reduceLeDiff, Option.isSome_some, if_true, if_false, Bool.false_eq_true, Int.toNat_natCast, Value.cells, Abs.new_same, Abs.new_at, Abs.new_lt, Abs.new_nobj, Abs.new_top, Abs.new_ntop, Abs.put_same, Abs.put_ne, Abs.put_nobj, Abs.put_top, Abs.put_ntop, Abs.lay_obj, Abs.lay_nobj, Abs.lay_ntop, Abs.bs_size, Abs.bs_get, Abs.bs_toList, Abs.bs_extract, Abs.bs_append, Abs.bs_nil, List.set_cons_zero, List.set_cons_succ, List.cons_append, List.nil_append, List.append_nil, List.replicate_succ, List.replicate_zero, List.flatten_cons, List.flatten_nil, ne_eq, not_true_eq_false, false_or, or_false, Nat.lt_irrefl, gt_iff_lt, Int.natCast_nonneg, Abs.i64w, Abs.ifp, Abs.telem_9, Abs.tfld_81_0, Abs.tfld_81_1, Abs.tstr_187, Abs.tsz_187, Abs.tsz_3, Abs.tsz_9, Abs.tzero_187, Tryz.underlying3, Tryz.underlying5, Tryz.underlying9, *]
    repeat' (first
    | with_reducible apply awp_seq
    | with_reducible apply awp_block
    | ((with_reducible refine awp_region_k ?_); intro kont hkont)
    | ((with_reducible refine hkont.out _ _ ?_); clear hkont kont)
    | ((first | ((with_reducible refine gd_go ?_); refine gd_split (fun h => ?_) (fun h => ?_)) | ((with_reducible refine gt_go ?_); refine gt_split (fun h => ?_) (fun h => ?_)) | ((with_reducible refine cond_go ?_); refine awp_cond_split rfl (fun h => ?_) (fun h => ?_))) <;> (try simp only [upd, ↓reduceIte, Nat.reduceEqDiff] at h) <;> (try simp only [Bool.not_eq_true', Bool.not_eq_false'] at h) <;> (try simp only [*, reduceCtorEq, decide_true, decide_false] at h) <;> (try (have hari := h; simp only [decide_eq_true_eq, decide_eq_false_iff_not, Int.not_lt, Int.not_le] at hari)) <;> (try (first | contradiction | (exfalso; omega) | (exfalso; simp at h; done))) <;> (try simp only [Abs.gd_true, Abs.gd_false, Abs.gt_true, Abs.gt_false]))
    | ((with_reducible refine aapp_go ?_); refine aApp_own (by first | fail) (by assumption) (by assumption) (by decide) (by rfl) (by first | assumption | (simp; done) | (simp; omega) | omega) (by rfl) (by rfl) (by decide) (by omega) (by omega) ?_; intro idn σn hOn hKn eobj enobj ever entop)
    | with_reducible apply awp_skip
    | with_reducible apply awp_exit
    | with_reducible apply awp_ret
    | (simp (maxSteps := 3000000) (disch := (first | omega | (simp only [Abs.new_nobj, Abs.put_nobj, Abs.lay_nobj, Abs.bs_size, List.length_cons, List.length_nil, *]; omega))) only [↓Abs.mapA_nil, ↓Abs.mapA_cons, Abs.put_ne', Abs.aRun, implies_true, Abs.map_zrep, List.head?_drop, Nat.mul_one, List.length_map, Nat.zero_mul, Nat.zero_add, Option.map_none, Int.reduceToNat, Nat.add_one_sub_one, Nat.sub_zero, List.take_length, List.all_cons, List.all_nil, Value.oneCell', Abs.awant, Abs.aStep, Abs.aq, Abs.al, Abs.aev, Abs.aput, Abs.upd, Abs.dstOk, Abs.cst, Abs.cst1, Abs.acells, Abs.flat, Abs.behind, Abs.aload, Abs.apart1, Abs.abin, Abs.aconv, Abs.aint, Abs.bnd, Abs.lsp, Abs.afill, Abs.thenQ, Abs.blkQ, Abs.retQ, Abs.ares, Abs.aresL, Abs.ares1, Abs.initS, Abs.gd_true, Abs.gd_false, Abs.nxt, Abs.aT, Abs.aTk, Abs.aU, Abs.aOne, Abs.kep, Abs.gt_true, Abs.gt_false, Abs.rdo, Abs.objOf, Option.map_some, Option.bind_some, Option.bind_none, List.getElem?_cons_zero, List.getElem?_cons_succ, List.getElem?_toArray, List.map_cons, List.map_nil, List.toList_toArray, ↓reduceIte, Nat.reduceLT, Nat.reduceEqDiff, decide_true, decide_false, Bool.true_and, Bool.and_true, beq_self_eq_true, beq_true, beq_false, Bool.not_false, Bool.not_true, ge_iff_le, gt_iff_lt, reduceCtorEq, true_and, and_true, List.getD_cons_zero, List.getD_cons_succ, List.length_cons, List.length_nil, List.drop_succ_cons, List.drop_zero, List.take_succ_cons, List.take_zero, List.head?_cons, Nat.reduceAdd, Nat.reduceMul, Nat.reduceLeDiff, Option.isSome_some, if_true, if_false, Bool.false_eq_true, Int.toNat_natCast, Value.cells, Abs.new_same, Abs.new_at, Abs.new_lt, Abs.new_nobj, Abs.new_top, Abs.new_ntop, Abs.put_same, Abs.put_ne, Abs.put_nobj, Abs.put_top, Abs.put_ntop, Abs.lay_obj, Abs.lay_nobj, Abs.lay_ntop, Abs.bs_size, Abs.bs_get, Abs.bs_toList, Abs.bs_extract, Abs.bs_append, Abs.bs_nil, List.set_cons_zero, List.set_cons_succ, List.cons_append, List.nil_append, List.append_nil, List.replicate_succ, List.replicate_zero, List.flatten_cons, List.flatten_nil, ne_eq, not_true_eq_false, false_or, or_false, Nat.lt_irrefl, gt_iff_lt, Int.natCast_nonneg, Abs.i64w, Abs.ifp, Abs.telem_9, Abs.tfld_81_0, Abs.tfld_81_1, Abs.tstr_187, Abs.tsz_187, Abs.tsz_3, Abs.tsz_9, Abs.tzero_187, Tryz.underlying3, Tryz.underlying5, Tryz.underlying9, *])
    | ((with_reducible refine and_go ?_); refine And.intro (by first | exact kept_refl | exact kept_last rfl | exact kept_keep (by assumption)) ?_)
    | (refine hkont.out _ _ ?_; clear hkont kont))
    have hK : KeepX o σ ((σ.new [sc (.bool false), sc (.int .i64 0)]).put σ.nobj [sc (.bool false), sc (.int .i64 0)]) := ((KeepX.refl _ _).new _).putN (Nat.le_refl _) _
    refine ⟨_, rfl, false, 0, rfl, hK, hR'.out.stepX hK ?_ hrs.out hrl.out, trivial⟩
    rw [hnm.out, put_ne hn, new_lt hn]; exact ho'.out
  | cons b r =>
    simp only [List.length_cons, List.head?_cons] at ho hsg hsl
    simp (maxSteps := 3000000) (disch := (first | omega | (simp only [Abs.new_nobj, Abs.put_nobj, Abs.lay_nobj, Abs.bs_size, List.length_cons, List.length_nil, *]; omega))) only [↓Abs.mapA_nil, ↓Abs.mapA_cons, Abs.put_ne', Abs.aRun, implies_true, Abs.map_zrep, List.head?_drop, Nat.mul_one, List.length_map, Nat.zero_mul, Nat.zero_add, Option.map_none, Int.reduceToNat, Nat.add_one_sub_one, Nat.sub_zero, List.take_length, List.all_cons, List.all_nil, Value.oneCell', Abs.awant, Abs.aStep, Abs.aq, Abs.al, Abs.aev, Abs.aput, Abs.upd, Abs.dstOk, Abs.cst, Abs.cst1, Abs.acells, Abs.flat, Abs.behind, Abs.aload, Abs.apart1, Abs.abin, Abs.aconv, Abs.aint, Abs.bnd, Abs.lsp, Abs.afill, Abs.thenQ, Abs.blkQ, Abs.retQ, Abs.ares, Abs.aresL, Abs.ares1, Abs.initS, Abs.gd_true, Abs.gd_false, Abs.nxt, Abs.aT, Abs.aTk, Abs.aU, Abs.aOne, Abs.kep, Abs.gt_true, Abs.gt_false, Abs.rdo, Abs.objOf, Option.map_some, Option.bind_some, Option.bind_none, List.getElem?_cons_zero, List.getElem?_cons_succ, List.getElem?_toArray, List.map_cons, List.map_nil, List.toList_toArray, ↓reduceIte, Nat.reduceLT, Nat.reduceEqDiff, decide_true, decide_false, Bool.true_and, Bool.and_true, beq_self_eq_true, beq_true, beq_false, Bool.not_false, Bool.not_true, ge_iff_le, gt_iff_lt, reduceCtorEq, true_and, and_true, List.getD_cons_zero, List.getD_cons_succ, List.length_cons, List.length_nil, List.drop_succ_cons, List.drop_zero, List.take_succ_cons, List.take_zero, List.head?_cons, Nat.reduceAdd, Nat.reduceMul, Nat.reduceLeDiff, Option.isSome_some, if_true, if_false, Bool.false_eq_true, Int.toNat_natCast, Value.cells, Abs.new_same, Abs.new_at, Abs.new_lt, Abs.new_nobj, Abs.new_top, Abs.new_ntop, Abs.put_same, Abs.put_ne, Abs.put_nobj, Abs.put_top, Abs.put_ntop, Abs.lay_obj, Abs.lay_nobj, Abs.lay_ntop, Abs.bs_size, Abs.bs_get, Abs.bs_toList, Abs.bs_extract, Abs.bs_append, Abs.bs_nil, List.set_cons_zero, List.set_cons_succ, List.cons_append, List.nil_append, List.append_nil, List.replicate_succ, List.replicate_zero, List.flatten_cons, List.flatten_nil, ne_eq, not_true_eq_false, false_or, or_false, Nat.lt_irrefl, gt_iff_lt, Int.natCast_nonneg, Abs.i64w, Abs.ifp, Abs.telem_9, Abs.tfld_81_0, Abs.tfld_81_1, Abs.tstr_187, Abs.tsz_187, Abs.tsz_3, Abs.tsz_9, Abs.tzero_187, Tryz.underlying3, Tryz.underlying5, Tryz.underlying9, *]
    repeat' (first
    | with_reducible apply awp_seq
    | with_reducible apply awp_block
    | ((with_reducible refine awp_region_k ?_); intro kont hkont)
    | ((with_reducible refine hkont.out _ _ ?_); clear hkont kont)
    | ((first | ((with_reducible refine gd_go ?_); refine gd_split (fun h => ?_) (fun h => ?_)) | ((with_reducible refine gt_go ?_); refine gt_split (fun h => ?_) (fun h => ?_)) | ((with_reducible refine cond_go ?_); refine awp_cond_split rfl (fun h => ?_) (fun h => ?_))) <;> (try simp only [upd, ↓reduceIte, Nat.reduceEqDiff] at h) <;> (try simp only [Bool.not_eq_true', Bool.not_eq_false'] at h) <;> (try simp only [*, reduceCtorEq, decide_true, decide_false] at h) <;> (try (have hari := h; simp only [decide_eq_true_eq, decide_eq_false_iff_not, Int.not_lt, Int.not_le] at hari)) <;> (try (first | contradiction | (exfalso; omega) | (exfalso; simp at h; done))) <;> (try simp only [Abs.gd_true, Abs.gd_false, Abs.gt_true, Abs.gt_false]))
    | ((with_reducible refine aapp_go ?_); refine aApp_own (by first | fail) (by assumption) (by assumption) (by decide) (by rfl) (by first | assumption | (simp; done) | (simp; omega) | omega) (by rfl) (by rfl) (by decide) (by omega) (by omega) ?_; intro idn σn hOn hKn eobj enobj ever entop)
    | with_reducible apply awp_skip
    | with_reducible apply awp_exit
    | with_reducible apply awp_ret
    | (simp (maxSteps := 3000000) (disch := (first | omega | (simp only [Abs.new_nobj, Abs.put_nobj, Abs.lay_nobj, Abs.bs_size, List.length_cons, List.length_nil, *]; omega))) only [↓Abs.mapA_nil, ↓Abs.mapA_cons, Abs.put_ne', Abs.aRun, implies_true, Abs.map_zrep, List.head?_drop, Nat.mul_one, List.length_map, Nat.zero_mul, Nat.zero_add, Option.map_none, Int.reduceToNat, Nat.add_one_sub_one, Nat.sub_zero, List.take_length, List.all_cons, List.all_nil, Value.oneCell', Abs.awant, Abs.aStep, Abs.aq, Abs.al, Abs.aev, Abs.aput, Abs.upd, Abs.dstOk, Abs.cst, Abs.cst1, Abs.acells, Abs.flat, Abs.behind, Abs.aload, Abs.apart1, Abs.abin, Abs.aconv, Abs.aint, Abs.bnd, Abs.lsp, Abs.afill, Abs.thenQ, Abs.blkQ, Abs.retQ, Abs.ares, Abs.aresL, Abs.ares1, Abs.initS, Abs.gd_true, Abs.gd_false, Abs.nxt, Abs.aT, Abs.aTk, Abs.aU, Abs.aOne, Abs.kep, Abs.gt_true, Abs.gt_false, Abs.rdo, Abs.objOf, Option.map_some, Option.bind_some, Option.bind_none, List.getElem?_cons_zero, List.getElem?_cons_succ, List.getElem?_toArray, List.map_cons, List.map_nil, List.toList_toArray, ↓reduceIte, Nat.reduceLT, Nat.reduceEqDiff, decide_true, decide_false, Bool.true_and, Bool.and_true, beq_self_eq_true, beq_true, beq_false, Bool.not_false, Bool.not_true, ge_iff_le, gt_iff_lt, reduceCtorEq, true_and, and_true, List.getD_cons_zero, List.getD_cons_succ, List.length_cons, List.length_nil, List.drop_succ_cons, List.drop_zero, List.take_succ_cons, List.take_zero, List.head?_cons, Nat.reduceAdd, Nat.reduceMul, Nat.reduceLeDiff, Option.isSome_some, if_true, if_false, Bool.false_eq_true, Int.toNat_natCast, Value.cells, Abs.new_same, Abs.new_at, Abs.new_lt, Abs.new_nobj, Abs.new_top, Abs.new_ntop, Abs.put_same, Abs.put_ne, Abs.put_nobj, Abs.put_top, Abs.put_ntop, Abs.lay_obj, Abs.lay_nobj, Abs.lay_ntop, Abs.bs_size, Abs.bs_get, Abs.bs_toList, Abs.bs_extract, Abs.bs_append, Abs.bs_nil, List.set_cons_zero, List.set_cons_succ, List.cons_append, List.nil_append, List.append_nil, List.replicate_succ, List.replicate_zero, List.flatten_cons, List.flatten_nil, ne_eq, not_true_eq_false, false_or, or_false, Nat.lt_irrefl, gt_iff_lt, Int.natCast_nonneg, Abs.i64w, Abs.ifp, Abs.telem_9, Abs.tfld_81_0, Abs.tfld_81_1, Abs.tstr_187, Abs.tsz_187, Abs.tsz_3, Abs.tsz_9, Abs.tzero_187, Tryz.underlying3, Tryz.underlying5, Tryz.underlying9, *])
    | ((with_reducible refine and_go ?_); refine And.intro (by first | exact kept_refl | exact kept_last rfl | exact kept_keep (by assumption)) ?_)
    | (refine hkont.out _ _ ?_; clear hkont kont))
    refine awp_draw_k follows_mixed (fun _ => True) [9] [0, 1, 2, 3, 4, 5, 6, 7, 8] [9] (by kernel_rfl) (fun _ _ _ h => h) ?_
    intro kont hkont
    simp (maxSteps := 3000000) (disch := (first | omega | (simp only [Abs.new_nobj, Abs.put_nobj, Abs.lay_nobj, Abs.bs_size, List.length_cons, List.length_nil, *]; omega))) only [↓Abs.mapA_nil, ↓Abs.mapA_cons, Abs.put_ne', Abs.aRun, implies_true, Abs.map_zrep, List.head?_drop, Nat.mul_one, List.length_map, Nat.zero_mul, Nat.zero_add, Option.map_none, Int.reduceToNat, Nat.add_one_sub_one, Nat.sub_zero, List.take_length, List.all_cons, List.all_nil, Value.oneCell', Abs.awant, Abs.aStep, Abs.aq, Abs.al, Abs.aev, Abs.aput, Abs.upd, Abs.dstOk, Abs.cst, Abs.cst1, Abs.acells, Abs.flat, Abs.behind, Abs.aload, Abs.apart1, Abs.abin, Abs.aconv, Abs.aint, Abs.bnd, Abs.lsp, Abs.afill, Abs.thenQ, Abs.blkQ, Abs.retQ, Abs.ares, Abs.aresL, Abs.ares1, Abs.initS, Abs.gd_true, Abs.gd_false, Abs.nxt, Abs.aT, Abs.aTk, Abs.aU, Abs.aOne, Abs.kep, Abs.gt_true, Abs.gt_false, Abs.rdo, Abs.objOf, Option.map_some, Option.bind_some, Option.bind_none, List.getElem?_cons_zero, List.getElem?_cons_succ, List.getElem?_toArray, List.map_cons, List.map_nil, List.toList_toArray, ↓reduceIte, Nat.reduceLT, Nat.reduceEqDiff, decide_true, decide_false, Bool.true_and, Bool.and_true, beq_self_eq_true, beq_true, beq_false, Bool.not_false, Bool.not_true, ge_iff_le, gt_iff_lt, reduceCtorEq, true_and, and_true, List.getD_cons_zero, List.getD_cons_succ, List.length_cons, List.length_nil, List.drop_succ_cons, List.drop_zero, List.take_succ_cons, List.take_zero, List.head?_cons, Nat.reduceAdd, Nat.reduceMul, Nat.reduceLeDiff, Option.isSome_some, if_true, if_false, Bool.false_eq_true, Int.toNat_natCast, Value.cells, Abs.new_same, Abs.new_at, Abs.new_lt, Abs.new_nobj, Abs.new_top, Abs.new_ntop, Abs.put_same, Abs.put_ne, Abs.put_nobj, Abs.put_top, Abs.put_ntop, Abs.lay_obj, Abs.lay_nobj, Abs.lay_ntop, Abs.bs_size, Abs.bs_get, Abs.bs_toList, Abs.bs_extract, Abs.bs_append, Abs.bs_nil, List.set_cons_zero, List.set_cons_succ, List.cons_append, List.nil_append, List.append_nil, List.replicate_succ, List.replicate_zero, List.flatten_cons, List.flatten_nil, ne_eq, not_true_eq_false, false_or, or_false, Nat.lt_irrefl, gt_iff_lt, Int.natCast_nonneg, Abs.i64w, Abs.ifp, Abs.telem_9, Abs.tfld_81_0, Abs.tfld_81_1, Abs.tstr_187, Abs.tsz_187, Abs.tsz_3, Abs.tsz_9, Abs.tzero_187, Tryz.underlying3, Tryz.underlying5, Tryz.underlying9, *]
    have hdr : digitB b.toNat = true → 48 ≤ (b.toNat : Int) ∧ (b.toNat : Int) ≤ 57 := fun h => by simp [digitB] at h; omega
    have hcr : largeB b.toNat = true → 65 ≤ (b.toNat : Int) ∧ (b.toNat : Int) ≤ 90 := fun h => by simp [largeB] at h; omega
    have ho1 : Abs.Hid ((σ.new [sc (.bool false), sc (.int .i64 0)]).obj o = rdS t (b :: r) nm) := by rw [Abs.Hid, new_lt hn]; exact ho'.out
    have hn1 : o < (σ.new [sc (.bool false), sc (.int .i64 0)]).nobj := by rw [new_nobj]; omega
    have hK0 : Abs.Hid (KeepX o σ (σ.new [sc (.bool false), sc (.int .i64 0)])) := (KeepX.refl _ _).new _
    by_cases h48 : ((b.toNat : Int) == 48) = true
    · have hl : largeB b.toNat = false := by
        cases hl : largeB b.toNat with
        | false => rfl
        | true => have := hcr hl; simp at h48; omega
      have hd : digitB b.toNat = true := by simp at h48; simp [digitB]; omega
      have hp : pTerm (b :: r) = .got [b] r := by
        unfold pTerm; dsimp only; rw [if_neg (by rw [hl]; simp), if_pos h48]
      rw [hp] at hrl hrs
      have hE : Abs.Hid (encT [b] = (false, 0)) := by
        rw [Abs.Hid, encT_num hl]; simp at h48; simp [numV]; omega
      repeat' (first
    | with_reducible apply awp_seq
    | with_reducible apply awp_block
    | ((with_reducible refine awp_region_k ?_); intro kont hkont)
    | ((with_reducible refine hkont.out _ _ ?_); clear hkont kont)
    | ((first | ((with_reducible refine gd_go ?_); refine gd_split (fun h => ?_) (fun h => ?_)) | ((with_reducible refine gt_go ?_); refine gt_split (fun h => ?_) (fun h => ?_)) | ((with_reducible refine cond_go ?_); refine awp_cond_split rfl (fun h => ?_) (fun h => ?_))) <;> (try simp only [upd, ↓reduceIte, Nat.reduceEqDiff] at h) <;> (try simp only [Bool.not_eq_true', Bool.not_eq_false'] at h) <;> (try simp only [*, reduceCtorEq, decide_true, decide_false] at h) <;> (try (have hari := h; simp only [decide_eq_true_eq, decide_eq_false_iff_not, Int.not_lt, Int.not_le] at hari)) <;> (try (first | contradiction | (exfalso; omega) | (exfalso; simp at h; done))) <;> (try simp only [Abs.gd_true, Abs.gd_false, Abs.gt_true, Abs.gt_false]))
    | ((with_reducible refine aapp_go ?_); refine aApp_own (by first | fail) (by assumption) (by assumption) (by decide) (by rfl) (by first | assumption | (simp; done) | (simp; omega) | omega) (by rfl) (by rfl) (by decide) (by omega) (by omega) ?_; intro idn σn hOn hKn eobj enobj ever entop)
    | ((with_reducible refine acalls_go ?_); refine ACalls.mono (isCapital_spec _ _) ?_; rintro _ _ ⟨rfl, rfl⟩)
    | ((with_reducible refine acalls_go ?_); refine ACalls.mono (isDigit_spec _ _) ?_; rintro _ _ ⟨rfl, rfl⟩)
    | ((with_reducible refine acalls_go ?_); refine ACalls.mono (readZero_spec t r b o nm ht hs _ ho1.out hn1 h48) ?_; rintro _ _ ⟨hK1, hO1, rfl⟩; (have hob := hK1.obj σ.nobj (by rw [new_nobj]; omega) (by omega); rw [new_same] at hob; have HK1 : Abs.Hid _ := hK1; have HO1 : Abs.Hid _ := hO1; clear hK1 hO1))
    | with_reducible apply awp_skip
    | with_reducible apply awp_exit
    | with_reducible apply awp_ret
    | (simp (maxSteps := 3000000) (disch := (first | omega | (simp only [Abs.new_nobj, Abs.put_nobj, Abs.lay_nobj, Abs.bs_size, List.length_cons, List.length_nil, *]; omega))) only [↓Abs.mapA_nil, ↓Abs.mapA_cons, Abs.put_ne', Abs.aRun, implies_true, Abs.map_zrep, List.head?_drop, Nat.mul_one, List.length_map, Nat.zero_mul, Nat.zero_add, Option.map_none, Int.reduceToNat, Nat.add_one_sub_one, Nat.sub_zero, List.take_length, List.all_cons, List.all_nil, Value.oneCell', Abs.awant, Abs.aStep, Abs.aq, Abs.al, Abs.aev, Abs.aput, Abs.upd, Abs.dstOk, Abs.cst, Abs.cst1, Abs.acells, Abs.flat, Abs.behind, Abs.aload, Abs.apart1, Abs.abin, Abs.aconv, Abs.aint, Abs.bnd, Abs.lsp, Abs.afill, Abs.thenQ, Abs.blkQ, Abs.retQ, Abs.ares, Abs.aresL, Abs.ares1, Abs.initS, Abs.gd_true, Abs.gd_false, Abs.nxt, Abs.aT, Abs.aTk, Abs.aU, Abs.aOne, Abs.kep, Abs.gt_true, Abs.gt_false, Abs.rdo, Abs.objOf, Option.map_some, Option.bind_some, Option.bind_none, List.getElem?_cons_zero, List.getElem?_cons_succ, List.getElem?_toArray, List.map_cons, List.map_nil, List.toList_toArray, ↓reduceIte, Nat.reduceLT, Nat.reduceEqDiff, decide_true, decide_false, Bool.true_and, Bool.and_true, beq_self_eq_true, beq_true, beq_false, Bool.not_false, Bool.not_true, ge_iff_le, gt_iff_lt, reduceCtorEq, true_and, and_true, List.getD_cons_zero, List.getD_cons_succ, List.length_cons, List.length_nil, List.drop_succ_cons, List.drop_zero, List.take_succ_cons, List.take_zero, List.head?_cons, Nat.reduceAdd, Nat.reduceMul, Nat.reduceLeDiff, Option.isSome_some, if_true, if_false, Bool.false_eq_true, Int.toNat_natCast, Value.cells, Abs.new_same, Abs.new_at, Abs.new_lt, Abs.new_nobj, Abs.new_top, Abs.new_ntop, Abs.put_same, Abs.put_ne, Abs.put_nobj, Abs.put_top, Abs.put_ntop, Abs.lay_obj, Abs.lay_nobj, Abs.lay_ntop, Abs.bs_size, Abs.bs_get, Abs.bs_toList, Abs.bs_extract, Abs.bs_append, Abs.bs_nil, List.set_cons_zero, List.set_cons_succ, List.cons_append, List.nil_append, List.append_nil, List.replicate_succ, List.replicate_zero, List.flatten_cons, List.flatten_nil, ne_eq, not_true_eq_false, false_or, or_false, Nat.lt_irrefl, gt_iff_lt, Int.natCast_nonneg, Abs.i64w, Abs.ifp, Abs.telem_9, Abs.tfld_81_0, Abs.tfld_81_1, Abs.tstr_187, Abs.tsz_187, Abs.tsz_3, Abs.tsz_9, Abs.tzero_187, Tryz.underlying3, Tryz.underlying5, Tryz.underlying9, *])
    | ((with_reducible refine and_go ?_); refine And.intro (by first | exact kept_refl | exact kept_last rfl | exact kept_keep (by assumption)) ?_)
    | (refine hkont.out _ _ ?_; clear hkont kont))
      rename_i σ1
      have hK : KeepX o σ (σ1.put σ.nobj [sc (.bool false), sc (.int .i64 0)]) := (hK0.out.trans HK1.out).putN (Nat.le_refl _) _
      refine ⟨_, rfl, false, 0, rfl, hK, hR'.out.stepX hK ?_ hrs.out hrl.out, hE.out⟩
      rw [hnm.out, put_ne hn]; exact HO1.out
    · have h48 : ((b.toNat : Int) == 48) = false := by simpa using h48
      by_cases hl : largeB b.toNat = true
      · have hp : pTerm (b :: r) = .got [b] r := by
          unfold pTerm; dsimp only; rw [if_pos hl]
        rw [hp] at hrl hrs
        have hE : Abs.Hid (encT [b] = (true, (b.toNat : Int) - 65)) := by
          exact encT_large hl
        have hcr := hcr hl
        have hw : IntKind.i64.wrap (IntKind.u8.wrap ((b.toNat : Int) - 65)) = (b.toNat : Int) - 65 := by
          rw [Abs.u8w (by omega) (by omega), Abs.i64w (by omega) (by omega)]
        repeat' (first
    | with_reducible apply awp_seq
    | with_reducible apply awp_block
    | ((with_reducible refine awp_region_k ?_); intro kont hkont)
    | ((with_reducible refine hkont.out _ _ ?_); clear hkont kont)
    | ((first | ((with_reducible refine gd_go ?_); refine gd_split (fun h => ?_) (fun h => ?_)) | ((with_reducible refine gt_go ?_); refine gt_split (fun h => ?_) (fun h => ?_)) | ((with_reducible refine cond_go ?_); refine awp_cond_split rfl (fun h => ?_) (fun h => ?_))) <;> (try simp only [upd, ↓reduceIte, Nat.reduceEqDiff] at h) <;> (try simp only [Bool.not_eq_true', Bool.not_eq_false'] at h) <;> (try simp only [*, reduceCtorEq, decide_true, decide_false] at h) <;> (try (have hari := h; simp only [decide_eq_true_eq, decide_eq_false_iff_not, Int.not_lt, Int.not_le] at hari)) <;> (try (first | contradiction | (exfalso; omega) | (exfalso; simp at h; done))) <;> (try simp only [Abs.gd_true, Abs.gd_false, Abs.gt_true, Abs.gt_false]))
    | ((with_reducible refine aapp_go ?_); refine aApp_own (by first | fail) (by assumption) (by assumption) (by decide) (by rfl) (by first | assumption | (simp; done) | (simp; omega) | omega) (by rfl) (by rfl) (by decide) (by omega) (by omega) ?_; intro idn σn hOn hKn eobj enobj ever entop)
    | ((with_reducible refine acalls_go ?_); refine ACalls.mono (isCapital_spec _ _) ?_; rintro _ _ ⟨rfl, rfl⟩)
    | with_reducible apply awp_skip
    | with_reducible apply awp_exit
    | with_reducible apply awp_ret
    | (simp (maxSteps := 3000000) (disch := (first | omega | (simp only [Abs.new_nobj, Abs.put_nobj, Abs.lay_nobj, Abs.bs_size, List.length_cons, List.length_nil, *]; omega))) only [↓Abs.mapA_nil, ↓Abs.mapA_cons, Abs.put_ne', Abs.aRun, implies_true, Abs.map_zrep, List.head?_drop, Nat.mul_one, List.length_map, Nat.zero_mul, Nat.zero_add, Option.map_none, Int.reduceToNat, Nat.add_one_sub_one, Nat.sub_zero, List.take_length, List.all_cons, List.all_nil, Value.oneCell', Abs.awant, Abs.aStep, Abs.aq, Abs.al, Abs.aev, Abs.aput, Abs.upd, Abs.dstOk, Abs.cst, Abs.cst1, Abs.acells, Abs.flat, Abs.behind, Abs.aload, Abs.apart1, Abs.abin, Abs.aconv, Abs.aint, Abs.bnd, Abs.lsp, Abs.afill, Abs.thenQ, Abs.blkQ, Abs.retQ, Abs.ares, Abs.aresL, Abs.ares1, Abs.initS, Abs.gd_true, Abs.gd_false, Abs.nxt, Abs.aT, Abs.aTk, Abs.aU, Abs.aOne, Abs.kep, Abs.gt_true, Abs.gt_false, Abs.rdo, Abs.objOf, Option.map_some, Option.bind_some, Option.bind_none, List.getElem?_cons_zero, List.getElem?_cons_succ, List.getElem?_toArray, List.map_cons, List.map_nil, List.toList_toArray, ↓reduceIte, Nat.reduceLT, Nat.reduceEqDiff, decide_true, decide_false, Bool.true_and, Bool.and_true, beq_self_eq_true, beq_true, beq_false, Bool.not_false, Bool.not_true, ge_iff_le, gt_iff_lt, reduceCtorEq, true_and, and_true, List.getD_cons_zero, List.getD_cons_succ, List.length_cons, List.length_nil, List.drop_succ_cons, List.drop_zero, List.take_succ_cons, List.take_zero, List.head?_cons, Nat.reduceAdd, Nat.reduceMul, Nat.reduceLeDiff, Option.isSome_some, if_true, if_false, Bool.false_eq_true, Int.toNat_natCast, Value.cells, Abs.new_same, Abs.new_at, Abs.new_lt, Abs.new_nobj, Abs.new_top, Abs.new_ntop, Abs.put_same, Abs.put_ne, Abs.put_nobj, Abs.put_top, Abs.put_ntop, Abs.lay_obj, Abs.lay_nobj, Abs.lay_ntop, Abs.bs_size, Abs.bs_get, Abs.bs_toList, Abs.bs_extract, Abs.bs_append, Abs.bs_nil, List.set_cons_zero, List.set_cons_succ, List.cons_append, List.nil_append, List.append_nil, List.replicate_succ, List.replicate_zero, List.flatten_cons, List.flatten_nil, ne_eq, not_true_eq_false, false_or, or_false, Nat.lt_irrefl, gt_iff_lt, Int.natCast_nonneg, Abs.i64w, Abs.ifp, Abs.telem_9, Abs.tfld_81_0, Abs.tfld_81_1, Abs.tstr_187, Abs.tsz_187, Abs.tsz_3, Abs.tsz_9, Abs.tzero_187, Tryz.underlying3, Tryz.underlying5, Tryz.underlying9, *])
    | ((with_reducible refine and_go ?_); refine And.intro (by first | exact kept_refl | exact kept_last rfl | exact kept_keep (by assumption)) ?_)
    | (refine hkont.out _ _ ?_; clear hkont kont))
        have hK : KeepX o σ (((σ.new [sc (.bool false), sc (.int .i64 0)]).put o [str t, sc (.int .i64 ((t.length - (r.length + 1) : Nat) + 1)), nm]).put σ.nobj [sc (.bool true), sc (.int .i64 ((b.toNat : Int) - 65))]) := (hK0.out.put _).putN (Nat.le_refl _) _
        refine ⟨_, rfl, true, _, rfl, hK, hR'.out.stepX hK ?_ hrs.out hrl.out, hE.out⟩
        rw [hnm.out, put_ne hn, put_same]
        unfold rdS rdr
        rw [show ((t.length - (r.length + 1) : Nat) : Int) + 1 = ((t.length - r.length : Nat) : Int) by omega]
        rfl
      · have hl : largeB b.toNat = false := by simpa using hl
        by_cases hd : digitB b.toNat = true
        · have hN := readNumber_spec t (b :: r) o nm ht hs _ ho1.out hn1 (fun b' r' e => by cases e; exact h48)
          have hw : pWhile digitB 3 (b :: r) = (b :: (pWhile digitB 2 r).1, (pWhile digitB 2 r).2) := by rw [pWhile, if_pos hd]
          rw [hw] at hN
          have hN : Abs.Hid _ := hN
          have hni : nineB b.toNat = true := by
            rcases digit_iff.1 hd with h | h
            · exact h
            · rw [h48] at h; cases h
          have hp : pTerm (b :: r) = .got (b :: (pWhile digitB 2 r).1) (pWhile digitB 2 r).2 := by
            unfold pTerm; dsimp only; rw [if_neg (by rw [hl]; simp), if_neg (by rw [h48]; simp), if_pos hni]
          rw [hp] at hrl hrs
          have hE : Abs.Hid (encT (b :: (pWhile digitB 2 r).1) = (false, numV (b :: (pWhile digitB 2 r).1))) := by
            exact encT_num hl
          clear hw
          repeat' (first
    | with_reducible apply awp_seq
    | with_reducible apply awp_block
    | ((with_reducible refine awp_region_k ?_); intro kont hkont)
    | ((with_reducible refine hkont.out _ _ ?_); clear hkont kont)
    | ((first | ((with_reducible refine gd_go ?_); refine gd_split (fun h => ?_) (fun h => ?_)) | ((with_reducible refine gt_go ?_); refine gt_split (fun h => ?_) (fun h => ?_)) | ((with_reducible refine cond_go ?_); refine awp_cond_split rfl (fun h => ?_) (fun h => ?_))) <;> (try simp only [upd, ↓reduceIte, Nat.reduceEqDiff] at h) <;> (try simp only [Bool.not_eq_true', Bool.not_eq_false'] at h) <;> (try simp only [*, reduceCtorEq, decide_true, decide_false] at h) <;> (try (have hari := h; simp only [decide_eq_true_eq, decide_eq_false_iff_not, Int.not_lt, Int.not_le] at hari)) <;> (try (first | contradiction | (exfalso; omega) | (exfalso; simp at h; done))) <;> (try simp only [Abs.gd_true, Abs.gd_false, Abs.gt_true, Abs.gt_false]))
    | ((with_reducible refine aapp_go ?_); refine aApp_own (by first | fail) (by assumption) (by assumption) (by decide) (by rfl) (by first | assumption | (simp; done) | (simp; omega) | omega) (by rfl) (by rfl) (by decide) (by omega) (by omega) ?_; intro idn σn hOn hKn eobj enobj ever entop)
    | ((with_reducible refine acalls_go ?_); refine ACalls.mono (isCapital_spec _ _) ?_; rintro _ _ ⟨rfl, rfl⟩)
    | ((with_reducible refine acalls_go ?_); refine ACalls.mono (isDigit_spec _ _) ?_; rintro _ _ ⟨rfl, rfl⟩)
    | ((with_reducible refine acalls_go ?_); refine ACalls.mono (hN.out) ?_; rintro _ _ ⟨hK1, q, hO1, hq, hq2, rfl⟩; (have hob := hK1.obj σ.nobj (by rw [new_nobj]; omega) (by omega); rw [new_same] at hob; have HK1 : Abs.Hid _ := hK1; have HO1 : Abs.Hid _ := hO1; have HQ : Abs.Hid _ := hq2; clear hK1 hO1 hq2))
    | with_reducible apply awp_skip
    | with_reducible apply awp_exit
    | with_reducible apply awp_ret
    | (simp (maxSteps := 3000000) (disch := (first | omega | (simp only [Abs.new_nobj, Abs.put_nobj, Abs.lay_nobj, Abs.bs_size, List.length_cons, List.length_nil, *]; omega))) only [↓Abs.mapA_nil, ↓Abs.mapA_cons, Abs.put_ne', Abs.aRun, implies_true, Abs.map_zrep, List.head?_drop, Nat.mul_one, List.length_map, Nat.zero_mul, Nat.zero_add, Option.map_none, Int.reduceToNat, Nat.add_one_sub_one, Nat.sub_zero, List.take_length, List.all_cons, List.all_nil, Value.oneCell', Abs.awant, Abs.aStep, Abs.aq, Abs.al, Abs.aev, Abs.aput, Abs.upd, Abs.dstOk, Abs.cst, Abs.cst1, Abs.acells, Abs.flat, Abs.behind, Abs.aload, Abs.apart1, Abs.abin, Abs.aconv, Abs.aint, Abs.bnd, Abs.lsp, Abs.afill, Abs.thenQ, Abs.blkQ, Abs.retQ, Abs.ares, Abs.aresL, Abs.ares1, Abs.initS, Abs.gd_true, Abs.gd_false, Abs.nxt, Abs.aT, Abs.aTk, Abs.aU, Abs.aOne, Abs.kep, Abs.gt_true, Abs.gt_false, Abs.rdo, Abs.objOf, Option.map_some, Option.bind_some, Option.bind_none, List.getElem?_cons_zero, List.getElem?_cons_succ, List.getElem?_toArray, List.map_cons, List.map_nil, List.toList_toArray, ↓reduceIte, Nat.reduceLT, Nat.reduceEqDiff, decide_true, decide_false, Bool.true_and, Bool.and_true, beq_self_eq_true, beq_true, beq_false, Bool.not_false, Bool.not_true, ge_iff_le, gt_iff_lt, reduceCtorEq, true_and, and_true, List.getD_cons_zero, List.getD_cons_succ, List.length_cons, List.length_nil, List.drop_succ_cons, List.drop_zero, List.take_succ_cons, List.take_zero, List.head?_cons, Nat.reduceAdd, Nat.reduceMul, Nat.reduceLeDiff, Option.isSome_some, if_true, if_false, Bool.false_eq_true, Int.toNat_natCast, Value.cells, Abs.new_same, Abs.new_at, Abs.new_lt, Abs.new_nobj, Abs.new_top, Abs.new_ntop, Abs.put_same, Abs.put_ne, Abs.put_nobj, Abs.put_top, Abs.put_ntop, Abs.lay_obj, Abs.lay_nobj, Abs.lay_ntop, Abs.bs_size, Abs.bs_get, Abs.bs_toList, Abs.bs_extract, Abs.bs_append, Abs.bs_nil, List.set_cons_zero, List.set_cons_succ, List.cons_append, List.nil_append, List.append_nil, List.replicate_succ, List.replicate_zero, List.flatten_cons, List.flatten_nil, ne_eq, not_true_eq_false, false_or, or_false, Nat.lt_irrefl, gt_iff_lt, Int.natCast_nonneg, Abs.i64w, Abs.ifp, Abs.telem_9, Abs.tfld_81_0, Abs.tfld_81_1, Abs.tstr_187, Abs.tsz_187, Abs.tsz_3, Abs.tsz_9, Abs.tzero_187, Tryz.underlying3, Tryz.underlying5, Tryz.underlying9, *])
    | ((with_reducible refine and_go ?_); refine And.intro (by first | exact kept_refl | exact kept_last rfl | exact kept_keep (by assumption)) ?_)
    | (refine hkont.out _ _ ?_; clear hkont kont))
          rename_i σ1
          have hK : KeepX o σ (σ1.put σ.nobj [sc (.bool false), sc (.int .i64 (numV (b :: (pWhile digitB 2 r).1)))]) := (hK0.out.trans HK1.out).putN (Nat.le_refl _) _
          refine ⟨_, rfl, false, _, rfl, hK, hR'.out.stepX hK ?_ hrs.out hrl.out, hE.out⟩
          rw [hnm.out, put_ne hn, show (Rd.got (b :: (pWhile digitB 2 r).1) (pWhile digitB 2 r).2).rest = q from HQ.out.symm]; exact HO1.out
        · have hd : digitB b.toNat = false := by simpa using hd
          have hni : nineB b.toNat = false := by
            cases hni : nineB b.toNat with
            | false => rfl
            | true => rw [digit_iff.2 (.inl hni)] at hd; cases hd
          have hp : pTerm (b :: r) = .bad (b :: r) := by
            unfold pTerm; dsimp only; rw [if_neg (by rw [hl]; simp), if_neg (by rw [h48]; simp), if_neg (by rw [hni]; simp)]
          rw [hp] at hrl hrs
          repeat' (first
    | with_reducible apply awp_seq
    | with_reducible apply awp_block
    | ((with_reducible refine awp_region_k ?_); intro kont hkont)
    | ((with_reducible refine hkont.out _ _ ?_); clear hkont kont)
    | ((first | ((with_reducible refine gd_go ?_); refine gd_split (fun h => ?_) (fun h => ?_)) | ((with_reducible refine gt_go ?_); refine gt_split (fun h => ?_) (fun h => ?_)) | ((with_reducible refine cond_go ?_); refine awp_cond_split rfl (fun h => ?_) (fun h => ?_))) <;> (try simp only [upd, ↓reduceIte, Nat.reduceEqDiff] at h) <;> (try simp only [Bool.not_eq_true', Bool.not_eq_false'] at h) <;> (try simp only [*, reduceCtorEq, decide_true, decide_false] at h) <;> (try (have hari := h; simp only [decide_eq_true_eq, decide_eq_false_iff_not, Int.not_lt, Int.not_le] at hari)) <;> (try (first | contradiction | (exfalso; omega) | (exfalso; simp at h; done))) <;> (try simp only [Abs.gd_true, Abs.gd_false, Abs.gt_true, Abs.gt_false]))
    | ((with_reducible refine aapp_go ?_); refine aApp_own (by first | fail) (by assumption) (by assumption) (by decide) (by rfl) (by first | assumption | (simp; done) | (simp; omega) | omega) (by rfl) (by rfl) (by decide) (by omega) (by omega) ?_; intro idn σn hOn hKn eobj enobj ever entop)
    | ((with_reducible refine acalls_go ?_); refine ACalls.mono (isCapital_spec _ _) ?_; rintro _ _ ⟨rfl, rfl⟩)
    | ((with_reducible refine acalls_go ?_); refine ACalls.mono (isDigit_spec _ _) ?_; rintro _ _ ⟨rfl, rfl⟩)
    | with_reducible apply awp_skip
    | with_reducible apply awp_exit
    | with_reducible apply awp_ret
    | (simp (maxSteps := 3000000) (disch := (first | omega | (simp only [Abs.new_nobj, Abs.put_nobj, Abs.lay_nobj, Abs.bs_size, List.length_cons, List.length_nil, *]; omega))) only [↓Abs.mapA_nil, ↓Abs.mapA_cons, Abs.put_ne', Abs.aRun, implies_true, Abs.map_zrep, List.head?_drop, Nat.mul_one, List.length_map, Nat.zero_mul, Nat.zero_add, Option.map_none, Int.reduceToNat, Nat.add_one_sub_one, Nat.sub_zero, List.take_length, List.all_cons, List.all_nil, Value.oneCell', Abs.awant, Abs.aStep, Abs.aq, Abs.al, Abs.aev, Abs.aput, Abs.upd, Abs.dstOk, Abs.cst, Abs.cst1, Abs.acells, Abs.flat, Abs.behind, Abs.aload, Abs.apart1, Abs.abin, Abs.aconv, Abs.aint, Abs.bnd, Abs.lsp, Abs.afill, Abs.thenQ, Abs.blkQ, Abs.retQ, Abs.ares, Abs.aresL, Abs.ares1, Abs.initS, Abs.gd_true, Abs.gd_false, Abs.nxt, Abs.aT, Abs.aTk, Abs.aU, Abs.aOne, Abs.kep, Abs.gt_true, Abs.gt_false, Abs.rdo, Abs.objOf, Option.map_some, Option.bind_some, Option.bind_none, List.getElem?_cons_zero, List.getElem?_cons_succ, List.getElem?_toArray, List.map_cons, List.map_nil, List.toList_toArray, ↓reduceIte, Nat.reduceLT, Nat.reduceEqDiff, decide_true, decide_false, Bool.true_and, Bool.and_true, beq_self_eq_true, beq_true, beq_false, Bool.not_false, Bool.not_true, ge_iff_le, gt_iff_lt, reduceCtorEq, true_and, and_true, List.getD_cons_zero, List.getD_cons_succ, List.length_cons, List.length_nil, List.drop_succ_cons, List.drop_zero, List.take_succ_cons, List.take_zero, List.head?_cons, Nat.reduceAdd, Nat.reduceMul, Nat.reduceLeDiff, Option.isSome_some, if_true, if_false, Bool.false_eq_true, Int.toNat_natCast, Value.cells, Abs.new_same, Abs.new_at, Abs.new_lt, Abs.new_nobj, Abs.new_top, Abs.new_ntop, Abs.put_same, Abs.put_ne, Abs.put_nobj, Abs.put_top, Abs.put_ntop, Abs.lay_obj, Abs.lay_nobj, Abs.lay_ntop, Abs.bs_size, Abs.bs_get, Abs.bs_toList, Abs.bs_extract, Abs.bs_append, Abs.bs_nil, List.set_cons_zero, List.set_cons_succ, List.cons_append, List.nil_append, List.append_nil, List.replicate_succ, List.replicate_zero, List.flatten_cons, List.flatten_nil, ne_eq, not_true_eq_false, false_or, or_false, Nat.lt_irrefl, gt_iff_lt, Int.natCast_nonneg, Abs.i64w, Abs.ifp, Abs.telem_9, Abs.tfld_81_0, Abs.tfld_81_1, Abs.tstr_187, Abs.tsz_187, Abs.tsz_3, Abs.tsz_9, Abs.tzero_187, Tryz.underlying3, Tryz.underlying5, Tryz.underlying9, *])
    | ((with_reducible refine and_go ?_); refine And.intro (by first | exact kept_refl | exact kept_last rfl | exact kept_keep (by assumption)) ?_)
    | (refine hkont.out _ _ ?_; clear hkont kont))
          have hK : KeepX o σ ((σ.new [sc (.bool false), sc (.int .i64 0)]).put σ.nobj [sc (.bool false), sc (.int .i64 0)]) := hK0.out.putN (Nat.le_refl _) _
          refine ⟨_, rfl, false, 0, rfl, hK, hR'.out.stepX hK ?_ hrs.out hrl.out, trivial⟩
          rw [hnm.out, put_ne hn]; exact ho1.out
end Go.Proofs.YtilaanolklhkaaaGreatDoorZ
