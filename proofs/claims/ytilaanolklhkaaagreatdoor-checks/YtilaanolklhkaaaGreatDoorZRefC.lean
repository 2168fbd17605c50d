import Derived.Test.YtilaanolklhkaaaGreatDoorZRefB
/- The document's own answer: atoms and items of a text. -/
namespace Go.Proofs.YtilaanolklhkaaaGreatDoorZ
open Go.Abs
set_option linter.unusedSimpArgs false
set_option linter.unusedVariables false
set_option maxRecDepth 100000

structure RAtom where
  nt : Bool
  pred : List UInt8
  terms : List (List UInt8)
structure RItem where
  out : Bool
  head : RAtom
  body : List RAtom

def EAtom (a : RAtom) (c : List AV) : Prop := ∃ id, c = [sc (.bool a.nt), str a.pred, sl id a.terms.length (a.terms.map str)]
theorem EAtom_len (a : RAtom) (c : List AV) (h : EAtom a c) : c.length = 3 := by obtain ⟨id, rfl⟩ := h; rfl
theorem EAtom_flat (a : RAtom) (c : List AV) (h : EAtom a c) : c.all flat = true := by obtain ⟨id, rfl⟩ := h; rfl
def EItem (x : RItem) (c : List AV) : Prop := ∃ h id b, EAtom x.head h ∧ EL EAtom x.body b ∧ c = sc (.bool x.out) :: h ++ [sl id x.body.length b]
theorem EItem_len (x : RItem) (c : List AV) (h : EItem x c) : c.length = 5 := by
  obtain ⟨h, id, b, ⟨i, rfl⟩, -, rfl⟩ := h; rfl
theorem EItem_flat (x : RItem) (c : List AV) (h : EItem x c) : c.all flat = true := by
  obtain ⟨h, id, b, ⟨i, rfl⟩, -, rfl⟩ := h; rfl

def sub (l : List UInt8) (i j : Nat) : List UInt8 := (l.drop i).take (j - i)

def bangB : List UInt8 → Bool
  | [] => false
  | b :: _ => (b.toNat : Int) == 33
def unbang (s : List UInt8) : List UInt8 := if bangB s then (s.drop 1).take (s.length - 1) else s
def atomU (nt : Bool) (s : List UInt8) : RAtom :=
  { nt := nt, pred := (s.drop 0).take (findN s 40 - 0),
    terms := if findN s 40 + 1 < s.length then cutL ((s.drop (findN s 40 + 1)).take (s.length - 1 - (findN s 40 + 1))) 44 else [] }
def atomL (s : List UInt8) : RAtom := atomU (bangB s) (unbang s)

set_option maxHeartbeats 4000000 in
theorem atom_spec (l : List UInt8) (hb : l.length ≤ 10000) (σ : St) : ACalls Tryz.prog 99 [str l] σ fun x σ' => ∃ c, x = ag c ∧ EAtom (atomL l) c ∧ Keep σ σ' := by
  refine acalls 36 [.cell 2 125] Tryz.func99 rfl (by decide) rfl rfl (Nat.le_of_ble_eq_true rfl) ?_
  have hfl : ∀ (m : List UInt8), ((findN m 40 : Nat) : Int) ≤ (m.length : Int) := fun m => by have := findN_le m 40; omega
  cases l with
  | nil =>
    have hne : (([] : List UInt8) == []) = true := rfl
    have hf := hfl []
    simp only [List.length_nil] at hf hfl
    repeat' (first
    | with_reducible apply awp_seq
    | with_reducible apply awp_block
    | ((with_reducible refine awp_region_k ?_); intro kont hkont)
    | ((with_reducible refine hkont.out _ _ ?_); clear hkont kont)
    | ((first | ((with_reducible refine gd_go ?_); refine gd_split (fun h => ?_) (fun h => ?_)) | ((with_reducible refine gt_go ?_); refine gt_split (fun h => ?_) (fun h => ?_)) | ((with_reducible refine cond_go ?_); refine awp_cond_split rfl (fun h => ?_) (fun h => ?_))) <;> (try simp only [upd, ↓reduceIte, Nat.reduceEqDiff] at h) <;> (try simp only [Bool.not_eq_true', Bool.not_eq_false'] at h) <;> (try simp only [*, reduceCtorEq, decide_true, decide_false] at h) <;> (try (have hari := h; simp only [decide_eq_true_eq, decide_eq_false_iff_not, Int.not_lt, Int.not_le] at hari)) <;> (try (first | contradiction | (exfalso; omega) | (exfalso; simp at h; done))) <;> (try simp only [Abs.gd_true, Abs.gd_false, Abs.gt_true, Abs.gt_false]))
    | ((with_reducible refine aapp_go ?_); refine aApp_own (by first | fail) (by assumption) (by assumption) (by decide) (by rfl) (by first | assumption | (simp; done) | (simp; omega) | omega) (by rfl) (by rfl) (by decide) (by omega) (by omega) ?_; intro idn σn hOn hKn eobj enobj ever entop)
    | ((with_reducible refine acalls_go ?_); refine ACalls.mono (find_spec _ _ (by simp) _) ?_; rintro _ _ ⟨rfl, rfl⟩)
    | ((with_reducible refine acalls_go ?_); refine ACalls.mono (cut_spec _ _ (by simp) _) ?_; rintro _ _ ⟨idc, rfl, hKc⟩; (have ko := hKc.obj; simp only [new_nobj, put_nobj] at ko))
    | with_reducible apply awp_skip
    | with_reducible apply awp_exit
    | with_reducible apply awp_ret
    | (simp (maxSteps := 3000000) (disch := (first | omega | (simp only [Abs.new_nobj, Abs.put_nobj, Abs.lay_nobj, Abs.bs_size, List.length_cons, List.length_nil, *]; omega))) only [↓Abs.mapA_nil, ↓Abs.mapA_cons, Abs.put_ne', Abs.aRun, implies_true, Abs.map_zrep, List.head?_drop, Nat.mul_one, List.length_map, Nat.zero_mul, Nat.zero_add, Option.map_none, Int.reduceToNat, Nat.add_one_sub_one, Nat.sub_zero, List.take_length, List.all_cons, List.all_nil, Value.oneCell', Abs.awant, Abs.aStep, Abs.aq, Abs.al, Abs.aev, Abs.aput, Abs.upd, Abs.dstOk, Abs.cst, Abs.cst1, Abs.acells, Abs.flat, Abs.behind, Abs.aload, Abs.apart1, Abs.abin, Abs.aconv, Abs.aint, Abs.bnd, Abs.lsp, Abs.afill, Abs.thenQ, Abs.blkQ, Abs.retQ, Abs.ares, Abs.aresL, Abs.ares1, Abs.initS, Abs.gd_true, Abs.gd_false, Abs.nxt, Abs.aT, Abs.aTk, Abs.aU, Abs.aOne, Abs.kep, Abs.gt_true, Abs.gt_false, Abs.rdo, Abs.objOf, Option.map_some, Option.bind_some, Option.bind_none, List.getElem?_cons_zero, List.getElem?_cons_succ, List.getElem?_toArray, List.map_cons, List.map_nil, List.toList_toArray, ↓reduceIte, Nat.reduceLT, Nat.reduceEqDiff, decide_true, decide_false, Bool.true_and, Bool.and_true, beq_self_eq_true, beq_true, beq_false, Bool.not_false, Bool.not_true, ge_iff_le, gt_iff_lt, reduceCtorEq, true_and, and_true, List.getD_cons_zero, List.getD_cons_succ, List.length_cons, List.length_nil, List.drop_succ_cons, List.drop_zero, List.take_succ_cons, List.take_zero, List.head?_cons, Nat.reduceAdd, Nat.reduceMul, Nat.reduceLeDiff, Option.isSome_some, if_true, if_false, Bool.false_eq_true, Int.toNat_natCast, Value.cells, Abs.new_same, Abs.new_at, Abs.new_lt, Abs.new_nobj, Abs.new_top, Abs.new_ntop, Abs.put_same, Abs.put_ne, Abs.put_nobj, Abs.put_top, Abs.put_ntop, Abs.lay_obj, Abs.lay_nobj, Abs.lay_ntop, Abs.bs_size, Abs.bs_get, Abs.bs_toList, Abs.bs_extract, Abs.bs_append, Abs.bs_nil, List.set_cons_zero, List.set_cons_succ, List.cons_append, List.nil_append, List.append_nil, List.replicate_succ, List.replicate_zero, List.flatten_cons, List.flatten_nil, ne_eq, not_true_eq_false, false_or, or_false, Nat.lt_irrefl, gt_iff_lt, Int.natCast_nonneg, Abs.i64w, Abs.ifp, Abs.telem_9, Abs.tfld_125_0, Abs.tfld_125_1, Abs.tfld_125_2, Abs.tsz_125, Abs.tsz_37, Abs.tsz_4, Abs.tsz_9, Abs.tzero_125, Tryz.underlying3, Tryz.underlying5, Tryz.underlying9, *])
    | ((with_reducible refine and_go ?_); refine And.intro (by first | exact kept_refl | exact kept_last rfl | exact kept_keep (by assumption)) ?_)
    | (refine hkont.out _ _ ?_; clear hkont kont))
    exact ⟨_, rfl, _, rfl, ⟨1, by simp [atomL, atomU, bangB, unbang]⟩, by repeat (first | exact Keep.refl _ | assumption | (refine Keep.put ?_ (by first | omega | (simp only [new_nobj, put_nobj, lay_nobj, *]; omega)) _) | (refine Keep.new ?_ _) | (refine Keep.lay ?_ _) | (refine Keep.trans ?_ (by assumption)))⟩
  | cons b r =>
    have hne : (b :: r == ([] : List UInt8)) = false := rfl
    simp only [List.length_cons] at hb
    have hne2 : (b :: r)[0]? = some b := rfl
    have hf := findN_le r 40
    have hf2 := findN_le (b :: r) 40
    simp only [List.length_cons] at hf2
    repeat' (first
    | with_reducible apply awp_seq
    | with_reducible apply awp_block
    | ((with_reducible refine awp_region_k ?_); intro kont hkont)
    | ((with_reducible refine hkont.out _ _ ?_); clear hkont kont)
    | ((first | ((with_reducible refine gd_go ?_); refine gd_split (fun h => ?_) (fun h => ?_)) | ((with_reducible refine gt_go ?_); refine gt_split (fun h => ?_) (fun h => ?_)) | ((with_reducible refine cond_go ?_); refine awp_cond_split rfl (fun h => ?_) (fun h => ?_))) <;> (try simp only [upd, ↓reduceIte, Nat.reduceEqDiff] at h) <;> (try simp only [Bool.not_eq_true', Bool.not_eq_false'] at h) <;> (try simp only [*, reduceCtorEq, decide_true, decide_false] at h) <;> (try (have hari := h; simp only [decide_eq_true_eq, decide_eq_false_iff_not, Int.not_lt, Int.not_le] at hari)) <;> (try (first | contradiction | (exfalso; omega) | (exfalso; simp at h; done))) <;> (try simp only [Abs.gd_true, Abs.gd_false, Abs.gt_true, Abs.gt_false]))
    | ((with_reducible refine aapp_go ?_); refine aApp_own (by first | fail) (by assumption) (by assumption) (by decide) (by rfl) (by first | assumption | (simp; done) | (simp; omega) | omega) (by rfl) (by rfl) (by decide) (by omega) (by omega) ?_; intro idn σn hOn hKn eobj enobj ever entop)
    | ((with_reducible refine acalls_go ?_); refine ACalls.mono (find_spec _ _ (by first | omega | (simp; omega)) _) ?_; rintro _ _ ⟨rfl, rfl⟩)
    | ((with_reducible refine acalls_go ?_); refine ACalls.mono (cut_spec _ _ (by first | omega | (simp; omega)) _) ?_; rintro _ _ ⟨idc, rfl, hKc⟩; (have ko := hKc.obj; simp only [new_nobj, put_nobj] at ko))
    | with_reducible apply awp_skip
    | with_reducible apply awp_exit
    | with_reducible apply awp_ret
    | (simp (maxSteps := 3000000) (disch := (first | omega | (simp only [Abs.new_nobj, Abs.put_nobj, Abs.lay_nobj, Abs.bs_size, List.length_cons, List.length_nil, *]; omega))) only [↓Abs.mapA_nil, ↓Abs.mapA_cons, Abs.put_ne', Abs.aRun, implies_true, Abs.map_zrep, List.head?_drop, Nat.mul_one, List.length_map, Nat.zero_mul, Nat.zero_add, Option.map_none, Int.reduceToNat, Nat.add_one_sub_one, Nat.sub_zero, List.take_length, List.all_cons, List.all_nil, Value.oneCell', Abs.awant, Abs.aStep, Abs.aq, Abs.al, Abs.aev, Abs.aput, Abs.upd, Abs.dstOk, Abs.cst, Abs.cst1, Abs.acells, Abs.flat, Abs.behind, Abs.aload, Abs.apart1, Abs.abin, Abs.aconv, Abs.aint, Abs.bnd, Abs.lsp, Abs.afill, Abs.thenQ, Abs.blkQ, Abs.retQ, Abs.ares, Abs.aresL, Abs.ares1, Abs.initS, Abs.gd_true, Abs.gd_false, Abs.nxt, Abs.aT, Abs.aTk, Abs.aU, Abs.aOne, Abs.kep, Abs.gt_true, Abs.gt_false, Abs.rdo, Abs.objOf, Option.map_some, Option.bind_some, Option.bind_none, List.getElem?_cons_zero, List.getElem?_cons_succ, List.getElem?_toArray, List.map_cons, List.map_nil, List.toList_toArray, ↓reduceIte, Nat.reduceLT, Nat.reduceEqDiff, decide_true, decide_false, Bool.true_and, Bool.and_true, beq_self_eq_true, beq_true, beq_false, Bool.not_false, Bool.not_true, ge_iff_le, gt_iff_lt, reduceCtorEq, true_and, and_true, List.getD_cons_zero, List.getD_cons_succ, List.length_cons, List.length_nil, List.drop_succ_cons, List.drop_zero, List.take_succ_cons, List.take_zero, List.head?_cons, Nat.reduceAdd, Nat.reduceMul, Nat.reduceLeDiff, Option.isSome_some, if_true, if_false, Bool.false_eq_true, Int.toNat_natCast, Value.cells, Abs.new_same, Abs.new_at, Abs.new_lt, Abs.new_nobj, Abs.new_top, Abs.new_ntop, Abs.put_same, Abs.put_ne, Abs.put_nobj, Abs.put_top, Abs.put_ntop, Abs.lay_obj, Abs.lay_nobj, Abs.lay_ntop, Abs.bs_size, Abs.bs_get, Abs.bs_toList, Abs.bs_extract, Abs.bs_append, Abs.bs_nil, List.set_cons_zero, List.set_cons_succ, List.cons_append, List.nil_append, List.append_nil, List.replicate_succ, List.replicate_zero, List.flatten_cons, List.flatten_nil, ne_eq, not_true_eq_false, false_or, or_false, Nat.lt_irrefl, gt_iff_lt, Int.natCast_nonneg, Abs.i64w, Abs.ifp, Abs.telem_9, Abs.tfld_125_0, Abs.tfld_125_1, Abs.tfld_125_2, Abs.tsz_125, Abs.tsz_37, Abs.tsz_4, Abs.tsz_9, Abs.tzero_125, Tryz.underlying3, Tryz.underlying5, Tryz.underlying9, *])
    | ((with_reducible refine and_go ?_); refine And.intro (by first | exact kept_refl | exact kept_last rfl | exact kept_keep (by assumption)) ?_)
    | (refine hkont.out _ _ ?_; clear hkont kont))
    · have hq : findN r 40 + 1 < r.length := by omega
      exact ⟨_, rfl, _, rfl, ⟨idc, by simp [atomL, atomU, bangB, unbang, *]⟩, by repeat (first | exact Keep.refl _ | assumption | (refine Keep.put ?_ (by first | omega | (simp only [new_nobj, put_nobj, lay_nobj, *]; omega)) _) | (refine Keep.new ?_ _) | (refine Keep.lay ?_ _) | (refine Keep.trans ?_ (by assumption)))⟩
    · have hq : ¬ findN r 40 + 1 < r.length := by omega
      exact ⟨_, rfl, _, rfl, ⟨1, by simp [atomL, atomU, bangB, unbang, *]⟩, by repeat (first | exact Keep.refl _ | assumption | (refine Keep.put ?_ (by first | omega | (simp only [new_nobj, put_nobj, lay_nobj, *]; omega)) _) | (refine Keep.new ?_ _) | (refine Keep.lay ?_ _) | (refine Keep.trans ?_ (by assumption)))⟩
    · have hq : findN (b :: r) 40 < r.length := by omega
      exact ⟨_, rfl, _, rfl, ⟨idc, by simp [atomL, atomU, bangB, unbang, *]⟩, by repeat (first | exact Keep.refl _ | assumption | (refine Keep.put ?_ (by first | omega | (simp only [new_nobj, put_nobj, lay_nobj, *]; omega)) _) | (refine Keep.new ?_ _) | (refine Keep.lay ?_ _) | (refine Keep.trans ?_ (by assumption)))⟩
    · have hq : ¬ findN (b :: r) 40 < r.length := by omega
      exact ⟨_, rfl, _, rfl, ⟨1, by simp [atomL, atomU, bangB, unbang, *]⟩, by repeat (first | exact Keep.refl _ | assumption | (refine Keep.put ?_ (by first | omega | (simp only [new_nobj, put_nobj, lay_nobj, *]; omega)) _) | (refine Keep.new ?_ _) | (refine Keep.lay ?_ _) | (refine Keep.trans ?_ (by assumption)))⟩
end Go.Proofs.YtilaanolklhkaaaGreatDoorZ
