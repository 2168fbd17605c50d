import Derived.Test.YtmoeoppbmhfbpaaGreatDoorUImpC
import Derived.Test.YtmoeoppbmhfbpaaGreatDoorUSpaF
import Derived.Test.YtmoeoppbmhfbpaaGreatDoorUPrtF
/- Both tell the same of an implied rule. -/
namespace Go.Proofs.YtmoeoppbmhfbpaaGreatDoorU
open Go.Abs
set_option linter.unusedSimpArgs false
set_option linter.unusedVariables false
def encG : Tx → Int
 | [] => 0
 | b :: r => if b = 35 then 1000 + (encT r).2 else (encT (b :: r)).2
theorem encG_cons (b : UInt8) (r : Tx) : encG (b :: r) = if b = 35 then 1000 + (encT r).2 else (encT (b :: r)).2 := rfl
theorem encG_sharp (v : Tx) : encG (35 :: v) = 1000 + (encT v).2 := by rw [encG_cons, if_pos rfl]
def GT (t : Tx) : Prop := (variableB t = false ∧ VT t ∧ DT t) ∨ ∃ v, t = 35 :: v ∧ variableB v = true ∧ VT v
theorem vt_var {v : Tx} (h : VT v) (hv : variableB v = true) : ∃ b, v = [b] ∧ largeB b.toNat = true := by
 rcases h with h | ⟨h1, h2⟩
 ·exact h
 ·exfalso
  cases v with
  | nil => exact h1 rfl
  | cons b r =>
   have hd := h2 b (by simp)
   have hl : largeB b.toNat = true := hv
   unfold digitB at hd
   unfold largeB at hl
   simp at hd hl
   omega
theorem vt_num {v : Tx} (h : VT v) (hv : variableB v = false) : v ≠ [] ∧ ∀ b ∈ v, digitB b.toNat = true := by
 rcases h with ⟨b, rfl, h⟩ | h
 ·have : variableB [b] = largeB b.toNat := rfl
  rw [this, h] at hv; cases hv
 ·exact h
theorem encG_num {t : Tx} (h : VT t) (hv : variableB t = false) : encG t = (encT t).2 := by
 obtain ⟨h1, h2⟩ := vt_num h hv
 cases t with
 | nil => exact absurd rfl h1
 | cons b r =>
  rw [encG_cons, if_neg]
  rintro rfl
  have := h2 35 (by simp)
  revert this; decide
theorem enc_rng {v : Tx} (h : VT v) (hv : variableB v = true) : 0 ≤ (encT v).2 ∧ (encT v).2 < 26 := by
 obtain ⟨b, rfl, hl⟩ := vt_var h hv
 rw [encT_large hl]
 unfold largeB at hl
 simp at hl
 simp only
 omega
theorem dt_rng {t : Tx} (h : DT t) (hv : variableB t = false) : Lib.itoa (encT t).2 = t ∧ 0 ≤ (encT t).2 ∧ (encT t).2 ≤ 999 := by
 rcases h with h | ⟨-, h⟩
 ·rw [h] at hv; cases hv
 ·exact h
theorem encG_rng {t : Tx} (h : GT t) : ∃ n : Nat, encG t = (n : Int) ∧ n < 1026 := by
 rcases h with ⟨h1, h2, h3⟩ | ⟨v, rfl, h1, h2⟩
 ·rw [encG_num h2 h1]
  obtain ⟨-, e1, e2⟩ := dt_rng h3 h1
  exact ⟨(encT t).2.toNat, by omega, by omega⟩
 ·obtain ⟨e1, e2⟩ := enc_rng h2 h1
  refine ⟨(1000 + (encT v).2).toNat, ?_, by omega⟩
  rw [encG_sharp]
  omega
theorem encG_frz {t : Tx} (h : VT t) : encG (frzD t) = (frzT (encT t)).2 := by
 unfold frzD frzT
 rw [enc_fst]
 cases hv : variableB t with
 | true => rw [if_pos rfl, if_pos rfl, encG_sharp]
 | false => rw [if_neg (by simp), if_neg (by simp)]; exact encG_num h hv
theorem gt_frz {t : Tx} (h : VT t) (hd : DT t) : GT (frzD t) := by
 unfold frzD
 cases hv : variableB t with
 | true => rw [if_pos rfl]; exact .inr ⟨t, rfl, hv, h⟩
 | false => rw [if_neg (by simp)]; exact .inl ⟨hv, h, hd⟩
def prdI (N : List Tx) (a : RAtom) : Nat := N.idxOf a.pred + (if a.nt = true then N.length else 0)
def eA (N : List Tx) (a : RAtom) : Nat × Tup := (prdI N a, tupOf (a.terms.map encG))
structure AtI (N : List Tx) (ar : Tx → Nat) (a : RAtom) : Prop where
 mem : a.pred ∈ N
 len : a.terms.length = ar a.pred
 le3 : a.terms.length ≤ 3
structure GA (N : List Tx) (ar : Tx → Nat) (a : RAtom) : Prop extends AtI N ar a where
 gt : ∀ t ∈ a.terms, GT t
structure RuI (N : List Tx) (ar : Tx → Nat) (y : RItem) : Prop where
 head : AtI N ar y.head
 hnt : y.head.nt = false
 body : ∀ b ∈ y.body, AtI N ar b
 vt : ∀ t ∈ y.head.terms, VT t ∧ DT t
 vb : ∀ b ∈ y.body, ∀ t ∈ b.terms, VT t ∧ DT t
 safe : ∀ v ∈ y.head.terms, variableB v = true → ∃ b ∈ y.body, v ∈ b.terms
theorem afP_body (N : List Tx) (y : RItem) : (afP N y).body = y.body.map fun b => affL N.length (litP N b) := by simp [afP, affR, rulP]
theorem aff_p (N : List Tx) (b : RAtom) : (affL (N.length : Int) (litP N b)).a.p = (prdI N b : Nat) := by
 unfold affL litP atmP prdI
 simp only
 cases h : b.nt with
 | true => simp
 | false => simp
theorem aff_ts (N : List Tx) (b : RAtom) : (affL (N.length : Int) (litP N b)).a.ts = b.terms.map encT := by
 unfold affL litP atmP
 simp only
 split <;> rfl
theorem ga_frz {N : List Tx} {ar : Tx → Nat} {b : RAtom} (h : AtI N ar b) (ht : ∀ t ∈ b.terms, VT t ∧ DT t) : GA N ar (frzR b) :=
 ⟨⟨h.mem, by show (b.terms.map frzD).length = _; rw [List.length_map]; exact h.len, by show (b.terms.map frzD).length ≤ 3; rw [List.length_map]; exact h.le3⟩, fun t hm => by
  obtain ⟨u, hu, rfl⟩ := List.mem_map.1 hm
  exact gt_frz (ht u hu).1 (ht u hu).2⟩
theorem eA_frz {N : List Tx} {b : RAtom} (ht : ∀ t ∈ b.terms, VT t) : eA N (frzR b) = ((affL (N.length : Int) (litP N b)).a.p.toNat, tupA (frzA (affL (N.length : Int) (litP N b)).a)) := by
 unfold eA
 rw [aff_p, Int.toNat_natCast]
 refine Prod.ext rfl ?_
 show tupOf ((b.terms.map frzD).map encG) = tupOf (((affL (N.length : Int) (litP N b)).a.ts.map frzT).map (·.2))
 rw [aff_ts, List.map_map, List.map_map, List.map_map]
 congr 1
 exact List.map_congr_left fun t hm => encG_frz (ht t hm)
/- The program's Implied, of a text. -/
set_option maxRecDepth 100000
theorem right_len2 {t : Tx} (h : (refCheck t).1 = 0) : ∀ x ∈ itemsL t, ∀ y ∈ itemsL t, ∀ a ∈ atomsL x, ∀ b ∈ atomsL y, a.pred = b.pred → a.terms.length = b.terms.length := by
 have hodd : ∀ i, i < (itemsL t).length → oddP (itemsL t) i = false := by
  unfold refCheck at h
  split at h
  ·simp at h
  split at h
  ·simp at h
  unfold wrongM at h
  split at h
  ·simp at h
  ·rename_i hk; exact firstM_neg hk
 have key : ∀ (i j : Nat) (x y : RItem) (a b : RAtom), (itemsL t)[i]? = some x → (itemsL t)[j]? = some y → i < j → a ∈ atomsL x → b ∈ atomsL y → a.pred = b.pred → a.terms.length = b.terms.length := by
  intro i j x y a b hi hj hij ha hb he
  have h1 := hodd j (List.getElem?_eq_some_iff.1 hj).1
  unfold oddP at h1
  rw [hj] at h1
  simp only [List.any_eq_false, List.mem_range] at h1
  obtain ⟨k, hk⟩ := List.getElem?_of_mem hb
  have h2 := h1 k (List.getElem?_eq_some_iff.1 hk).1
  unfold oddAt at h2
  rw [hk] at h2
  simp only [List.any_eq_true, not_exists, not_and] at h2
  have h3 := h2 a (by
   unfold seenL priorL
   refine List.mem_append.2 (.inl (List.mem_flatMap.2 ⟨x, ?_, ha⟩))
   exact List.mem_of_getElem? (i := i) (by rw [List.getElem?_take, if_pos hij]; exact hi))
  unfold clash at h3
  simp [he] at h3
  exact h3
 intro x hx y hy a ha b hb he
 obtain ⟨i, hi⟩ := List.getElem?_of_mem hx
 obtain ⟨j, hj⟩ := List.getElem?_of_mem hy
 rcases Nat.lt_trichotomy i j with hlt | rfl | hgt
 ·exact key i j x y a b hi hj hlt ha hb he
 ·rw [hi] at hj; cases hj
  exact right_len h x hx a ha b hb he
 ·exact (key j i y x b a hj hi hgt hb ha he.symm).symm
def ArOf (l : List RItem) (ar : Tx → Nat) : Prop := ∀ x ∈ l, ∀ a ∈ atomsL x, a.terms.length = ar a.pred
theorem ar_ex {t : Tx} (h : (refCheck t).1 = 0) : ∃ ar, ArOf (itemsL t) ar := by
 refine ⟨fun p => Classical.epsilon fun n => ∃ x ∈ itemsL t, ∃ a ∈ atomsL x, a.pred = p ∧ a.terms.length = n, fun x hx a ha => ?_⟩
 have := Classical.epsilon_spec (p := fun n => ∃ x ∈ itemsL t, ∃ b ∈ atomsL x, b.pred = a.pred ∧ b.terms.length = n) ⟨_, x, hx, a, ha, rfl, rfl⟩
 obtain ⟨y, hy, b, hb, e1, e2⟩ := this
 rw [right_len2 h x hx y hy a ha b hb e1.symm]
 exact e2
theorem ru_of {t : Tx} {N : List Tx} {l : List RItem} {cs : List AV} {ar : Tx → Nat} (h : Right t N l cs) (hA : ArOf l ar) {x : RItem} (hx : x ∈ l) (ho : x.out = false) : RuI N ar x := by
 have hi := h.items
 have hxi : x ∈ itemsL t := by rw [hi]; exact hx
 have hf := right_fine h.ok x hxi
 have hwi := h.wi x hx
 have hw := hf.w.2.2 ho
 have hat : ∀ a, a = x.head ∨ a ∈ x.body → a ∈ atomsL x := fun a ha => by
  rcases ha with rfl | ha <;> simp [atomsL, ho, *]
 have hlen : ∀ a ∈ atomsL x, a.terms.length = ar a.pred := hA x hx
 refine ⟨⟨hwi.mem, hlen _ (hat _ (.inl rfl)), hw.1.2.2.1⟩, hw.2.1, fun b hb => ⟨(hwi.wa b hb).1, hlen _ (hat _ (.inr hb)), (hw.2.2.2 b hb).2.2.1⟩, fun w hm => ⟨hf.va _ (hat _ (.inl rfl)) w hm, hf.dt _ (hat _ (.inl rfl)) w hm⟩, fun b hb w hm => ⟨hf.va _ (hat _ (.inr hb)) w hm, hf.dt _ (hat _ (.inr hb)) w hm⟩, fun v hm hv => ?_⟩
 obtain ⟨c0, p, hH, -⟩ := hf.rule ho
 obtain ⟨a, ha, -, hva⟩ := hH.saf v hv (.inl hm)
 exact ⟨a, ha, hva⟩
def arN (N : List Tx) (ar : Tx → Nat) (k : Nat) : Nat := ar (N.getD (if k < N.length then k else k - N.length) [])
theorem arN_eq {N : List Tx} {ar : Tx → Nat} {a : RAtom} (h : a.pred ∈ N) : arN N ar (prdI N a) = ar a.pred := by
 have hl := List.idxOf_lt_length_of_mem h
 have e : N.getD (N.idxOf a.pred) [] = a.pred := by
  rw [List.getD_eq_getElem?_getD, List.getElem?_eq_getElem hl, Option.getD_some]
  exact List.getElem_idxOf hl
 unfold arN prdI
 cases hn : a.nt with
 | true =>
  simp only [if_true]
  rw [if_neg (by omega), Nat.add_sub_cancel, e]
 | false =>
  simp only [Bool.false_eq_true, if_false, Nat.add_zero]
  rw [if_pos hl, e]
theorem enc_num {w : Tx} (hv : VT w) (hd : DT w) (h : (encT w).1 = false) : ∃ n : Nat, (encT w).2 = (n : Int) ∧ n < 1026 := by
 rw [enc_fst] at h
 obtain ⟨-, e1, e2⟩ := dt_rng hd h
 exact ⟨(encT w).2.toNat, by omega, by omega⟩
theorem enc_small {w : Tx} (hv : VT w) (hd : DT w) : 0 ≤ (encT w).2 ∧ (encT w).2 ≤ 999 := by
 cases h : variableB w with
 | true => have := enc_rng hv h; omega
 | false => obtain ⟨-, e1, e2⟩ := dt_rng hd h; omega
theorem prd_lt {N : List Tx} {a : RAtom} (h : a.pred ∈ N) : prdI N a < 2 * N.length := by
 have := List.idxOf_lt_length_of_mem h
 unfold prdI
 split <;> omega
theorem enc_mem {ts : List Tx} {v : Int} (h : (true, v) ∈ ts.map encT) : ∃ w ∈ ts, variableB w = true ∧ (encT w).2 = v := by
 obtain ⟨w, hw, e⟩ := List.mem_map.1 h
 refine ⟨w, hw, ?_, by rw [e]⟩
 rw [← enc_fst, e]
theorem rw_of {N : List Tx} {ar : Tx → Nat} {y : RItem} (h : RuI N ar y) (h5 : y.body.length ≤ 5) : RW (2 * N.length) (arN N ar) (afP N y) := by
 have hb : ∀ l ∈ (afP N y).body, ∃ b ∈ y.body, l = affL (N.length : Int) (litP N b) := fun l hl => by
  rw [afP_body] at hl
  obtain ⟨b, hb, rfl⟩ := List.mem_map.1 hl
  exact ⟨b, hb, rfl⟩
 have hpd : prdI N y.head = N.idxOf y.head.pred := by unfold prdI; rw [h.hnt]; simp
 have hhp : (afP N y).head.p = ((prdI N y.head : Nat) : Int) := by rw [hpd]; rfl
 have hht : (afP N y).head.ts = y.head.terms.map encT := rfl
 refine ⟨⟨by rw [hht, List.length_map]; exact h.head.le3, ⟨_, hhp, prd_lt h.head.mem⟩, by rw [afP_body, List.length_map]; omega, fun l hl => ?_, fun l hl => ?_⟩, fun l hl => ?_, ?_, fun l hl => ?_, fun t ht hc => ?_, fun v hv => ?_, fun l hl v hv => ?_, fun v hv => ?_⟩
 ·obtain ⟨b, hbm, rfl⟩ := hb l hl
  rw [aff_ts, List.length_map]; exact (h.body b hbm).le3
 ·obtain ⟨b, hbm, rfl⟩ := hb l hl
  exact ⟨_, aff_p N b, prd_lt (h.body b hbm).mem⟩
 ·obtain ⟨b, hbm, rfl⟩ := hb l hl
  unfold affL
  split
  ·rfl
  ·rename_i hn; simpa using hn
 ·rw [hht, List.length_map, hhp, Int.toNat_natCast, arN_eq h.head.mem]; exact h.head.len
 ·obtain ⟨b, hbm, rfl⟩ := hb l hl
  rw [aff_ts, List.length_map, aff_p, Int.toNat_natCast, arN_eq (h.body b hbm).mem]; exact (h.body b hbm).len
 ·rw [hht] at ht
  obtain ⟨w, hw, rfl⟩ := List.mem_map.1 ht
  exact enc_num (h.vt w hw).1 (h.vt w hw).2 hc
 ·rw [hht] at hv
  obtain ⟨w, hw, hvw, rfl⟩ := enc_mem hv
  exact enc_rng (h.vt w hw).1 hvw
 ·obtain ⟨b, hbm, rfl⟩ := hb l hl
  rw [aff_ts] at hv
  obtain ⟨w, hw, hvw, rfl⟩ := enc_mem hv
  exact enc_rng (h.vb b hbm w hw).1 hvw
 ·rw [hasV_iff, hht] at hv
  obtain ⟨w, hw, hvw, rfl⟩ := enc_mem hv
  obtain ⟨b, hbm, hwb⟩ := h.safe w hw hvw
  refine ⟨affL (N.length : Int) (litP N b), by rw [afP_body]; exact List.mem_map.2 ⟨b, hbm, rfl⟩, ?_⟩
  rw [hasV_iff, aff_ts]
  refine List.mem_map.2 ⟨w, hwb, ?_⟩
  rw [← hvw, ← enc_fst]
theorem sml_of {ts : List Tx} (h : ∀ t ∈ ts, VT t ∧ DT t) : Sml (ts.map encT) := fun t ht => by
 obtain ⟨w, hw, rfl⟩ := List.mem_map.1 ht
 have := enc_small (h w hw).1 (h w hw).2
 omega
/- A program's text, cut and read as a plain text: pieces, atoms, terms; the text of a well made program. -/
def Wd (b : UInt8) : Prop := smallB b.toNat = true ∨ largeB b.toNat = true ∨ digitB b.toNat = true
theorem wd_ne {b : UInt8} (h : Wd b) : b ∉ [33, 40, 41, 44, 45, 46, 58, 63] := fun hm => by
 simp only [List.mem_cons, List.not_mem_nil, or_false] at hm
 rcases hm with rfl | rfl | rfl | rfl | rfl | rfl | rfl | rfl <;> revert h <;> unfold Wd <;> decide
theorem term_wd {t : Tx} (h : WTerm t) {b : UInt8} (hb : b ∈ t) : Wd b := .inr (h.2 b hb)
theorem name_wd {t : Tx} (h : WName t) {b : UInt8} (hb : b ∈ t) : Wd b := .inl (h.2 b hb)
def Free (l : List UInt8) (t : Tx) : Prop := ∀ b ∈ t, b ∉ l
theorem Free.of {t : Tx} (h : ∀ b ∈ t, Wd b) : Free [33, 40, 41, 44, 45, 46, 58, 63] t := fun b hb => wd_ne (h b hb)
theorem Free.not {l : List UInt8} {t : Tx} (h : Free l t) {c : UInt8} (hc : c ∈ l) : c ∉ t := fun hm => h c hm hc
theorem WTerm.free {t : Tx} (h : WTerm t) : Free [33, 40, 41, 44, 45, 46, 58, 63] t := Free.of fun b hb => term_wd h hb
theorem WName.free {t : Tx} (h : WName t) : Free [33, 40, 41, 44, 45, 46, 58, 63] t := Free.of fun b hb => name_wd h hb
theorem uMore_byte {ts : List Tx} {b : UInt8} (h : b ∈ uMore ts) : b = 44 ∨ ∃ t ∈ ts, b ∈ t := by
 unfold uMore at h
 obtain ⟨t, ht, hb⟩ := List.mem_flatMap.1 h
 rcases List.mem_cons.1 hb with rfl | hb
 ·exact .inl rfl
 ·exact .inr ⟨t, ht, hb⟩
theorem uList_byte {ts : List Tx} {b : UInt8} (h : b ∈ uList ts) : b = 44 ∨ ∃ t ∈ ts, b ∈ t := by
 cases ts with
 | nil => cases h
 | cons t ts =>
  rcases List.mem_append.1 h with h | h
  ·exact .inr ⟨t, by simp, h⟩
  ·rcases uMore_byte h with h | ⟨u, hu, hb⟩
   ·exact .inl h
   ·exact .inr ⟨u, by simp [hu], hb⟩
theorem uAtom_mem {a : RAtom} (h : WAtom a) {b : UInt8} (hb : b ∈ uAtom a) : Wd b ∨ b = 40 ∨ b = 41 ∨ b = 44 := by
 unfold uAtom at hb
 rcases List.mem_append.1 hb with hb | hb
 ·exact .inl (name_wd h.1 hb)
 ·rcases List.mem_cons.1 hb with rfl | hb
  ·exact .inr (.inl rfl)
  ·rcases List.mem_append.1 hb with hb | hb
   ·rcases uList_byte hb with rfl | ⟨t, ht, hb⟩
    ·exact .inr (.inr (.inr rfl))
    ·exact .inl (term_wd (h.2.2.2 t ht) hb)
   ·simp at hb; exact .inr (.inr (.inl hb))
theorem uLit_mem {a : RAtom} (h : WAtom a) {b : UInt8} (hb : b ∈ uLit a) : Wd b ∨ b = 33 ∨ b = 40 ∨ b = 41 ∨ b = 44 := by
 unfold uLit at hb
 rcases List.mem_append.1 hb with hb | hb
 ·split at hb
  ·simp at hb; exact .inr (.inl hb)
  ·cases hb
 ·rcases uAtom_mem h hb with h | h
  ·exact .inl h
  ·exact .inr (.inr h)
theorem uItem_mem {x : RItem} (h : WItem x) {b : UInt8} (hb : b ∈ uItem x) : Wd b ∨ b ∈ [33, 40, 41, 44, 45, 58, 63] := by
 unfold uItem at hb
 split at hb
 ·rcases List.mem_cons.1 hb with rfl | hb
  ·exact .inr (by decide)
  ·exact .inl (name_wd h.1 hb)
 ·rename_i ho
  obtain ⟨h1, h2, h3, h4⟩ := h.2.2 (by simpa using ho)
  unfold uRule at hb
  rcases List.mem_append.1 hb with hb | hb
  ·rcases uAtom_mem h1 hb with h | rfl | rfl | rfl
   ·exact .inl h
   all_goals exact .inr (by decide)
  ·split at hb
   ·cases hb
   ·rcases List.mem_cons.1 hb with rfl | hb
    ·exact .inr (by decide)
    ·rcases List.mem_cons.1 hb with rfl | hb
     ·exact .inr (by decide)
     ·rcases uList_byte hb with rfl | ⟨t, ht, hb⟩
      ·exact .inr (by decide)
      ·obtain ⟨a, ha, rfl⟩ := List.mem_map.1 ht
       rcases uLit_mem (h4 a ha) hb with h | rfl | rfl | rfl | rfl
       ·exact .inl h
       all_goals exact .inr (by decide)
theorem uItem_dot {x : RItem} (h : WItem x) : 46 ∉ uItem x := fun hb => by
 rcases uItem_mem h hb with h | h
 ·exact wd_ne h (by decide)
 ·revert h; decide
/-! ### Pieces -/
def pcF (x : List Tx × Tx) (c : UInt8) : List Tx × Tx := if c = 46 then (x.1 ++ [x.2 ++ [c]], []) else (x.1, x.2 ++ [c])
def pcsL (t : Tx) : List Tx := if (t.foldl pcF ([], [])).2 = [] then (t.foldl pcF ([], [])).1 else (t.foldl pcF ([], [])).1 ++ [(t.foldl pcF ([], [])).2]
theorem pc_run : ∀ (t : Tx) (d : List Tx) (u : Tx), 46 ∉ t → t.foldl pcF (d, u) = (d, u ++ t)
 | [], d, u, _ => by simp
 | c :: t, d, u, h => by
  have hc : c ≠ 46 := fun e => h (by simp [e])
  have ht : 46 ∉ t := fun e => h (by simp [e])
  rw [List.foldl_cons, pcF, if_neg hc, pc_run t _ _ ht]
  simp
theorem pc_items : ∀ (l : List RItem) (d : List Tx), (∀ x ∈ l, 46 ∉ uItem x) → (uItems l).foldl pcF (d, []) = (d ++ l.map (fun x => uItem x ++ [46]), [])
 | [], d, _ => by simp [uItems]
 | x :: l, d, h => by
  have h1 := h x (by simp)
  have e : uItems (x :: l) = uItem x ++ 46 :: uItems l := by simp [uItems]
  rw [e, List.foldl_append, pc_run _ _ _ h1, List.foldl_cons]
  have e2 : pcF (d, [] ++ uItem x) 46 = (d ++ [uItem x ++ [46]], []) := by simp [pcF]
  rw [e2, pc_items l _ fun y hy => h y (by simp [hy])]
  simp
theorem pcs_items {l : List RItem} (h : ∀ x ∈ l, WItem x) : pcsL (uItems l) = l.map fun x => uItem x ++ [46] := by
 unfold pcsL
 rw [pc_items l [] fun x hx => uItem_dot (h x hx)]
 simp
/-! ### The terms of an atom -/
/-! ### The atoms of a rule -/
def atF (x : List Tx × Tx) (c : UInt8) : List Tx × Tx := if c = 41 then (x.1 ++ [x.2 ++ [c]], []) else if (c = 45 ∨ c = 44) ∧ x.2.count 40 = 0 then (x.1, []) else (x.1, x.2 ++ [c])
def atsL (t : Tx) : List Tx := (t.foldl atF ([], [])).1
theorem at_run : ∀ (t : Tx) (d : List Tx) (u : Tx), Free [41, 44, 45] t → t.foldl atF (d, u) = (d, u ++ t)
 | [], d, u, _ => by simp
 | c :: t, d, u, h => by
  have hc := h c (by simp)
  simp only [List.mem_cons, List.not_mem_nil, or_false, not_or] at hc
  rw [List.foldl_cons, atF, if_neg hc.1, if_neg (by rintro ⟨e | e, -⟩ <;> simp [e] at hc), at_run t _ _ fun b hb => h b (by simp [hb])]
  simp
theorem at_in : ∀ (t : Tx) (d : List Tx) (u : Tx), 41 ∉ t → 0 < u.count 40 → t.foldl atF (d, u) = (d, u ++ t)
 | [], d, u, _, _ => by simp
 | c :: t, d, u, h, hu => by
  have hc : c ≠ 41 := fun e => h (by simp [e])
  have ht : 41 ∉ t := fun e => h (by simp [e])
  rw [List.foldl_cons, atF, if_neg hc, if_neg (by rintro ⟨-, e⟩; simp only at e; omega), at_in t _ _ ht (by show 0 < List.count 40 (u ++ [c]); rw [List.count_append]; omega)]
  simp
theorem free3 {t : Tx} (h : Free [33, 40, 41, 44, 45, 46, 58, 63] t) : Free [41, 44, 45] t := fun b hb hm => h b hb (by
 simp only [List.mem_cons, List.not_mem_nil, or_false] at hm
 rcases hm with rfl | rfl | rfl <;> decide)
theorem at_lit {a : RAtom} (h : WAtom a) (d : List Tx) : (uLit a).foldl atF (d, []) = (d ++ [uLit a], []) := by
 have e : uLit a = (if a.nt = true then [33] else []) ++ (a.pred ++ ([40] ++ (uList a.terms ++ [41]))) := by simp [uLit, uAtom]
 have f1 : Free [41, 44, 45] (if a.nt = true then [33] else []) := by
  intro b hb
  split at hb
  ·simp at hb; subst hb; decide
  ·cases hb
 have f2 : Free [41, 44, 45] ([40] : Tx) := by intro b hb; simp at hb; subst hb; decide
 have f3 : 41 ∉ uList a.terms := fun hm => by
  rcases uList_byte hm with h' | ⟨t, ht, hb⟩
  ·revert h'; decide
  ·exact (h.2.2.2 t ht).free.not (by decide) hb
 rw [e, List.foldl_append, at_run (if a.nt = true then [33] else []) _ _ f1, List.foldl_append, at_run a.pred _ _ (free3 h.1.free), List.foldl_append, at_run [40] _ _ f2, List.foldl_append, at_in (uList a.terms) _ _ f3 (by rw [List.count_append]; simp)]
 simp [atF]
theorem at_more : ∀ (ls : List RAtom) (d : List Tx), (∀ a ∈ ls, WAtom a) → (uMore (ls.map uLit)).foldl atF (d, []) = (d ++ ls.map uLit, [])
 | [], d, _ => by simp [uMore]
 | a :: ls, d, h => by
  have e : uMore ((a :: ls).map uLit) = 44 :: (uLit a ++ uMore (ls.map uLit)) := by simp [uMore]
  have e2 : atF (d, []) 44 = (d, []) := by simp [atF]
  rw [e, List.foldl_cons, e2, List.foldl_append, at_lit (h a (by simp)), at_more ls _ fun b hb => h b (by simp [hb])]
  simp
theorem ats_rule {x : RItem} (h : WItem x) (ho : x.out = false) : atsL (uItem x ++ [46]) = uLit x.head :: x.body.map uLit := by
 obtain ⟨h1, h2, h3, h4⟩ := h.2.2 ho
 have e0 : uAtom x.head = uLit x.head := by simp [uLit, h2]
 unfold atsL uItem
 rw [if_neg (by simp [ho]), uRule, e0, List.append_assoc, List.foldl_append, at_lit h1]
 split
 ·rename_i hb
  rw [hb]
  simp [atF]
 ·rename_i hb
  obtain ⟨l, ls, e⟩ := List.exists_cons_of_ne_nil hb
  rw [e, List.map_cons, uList]
  have e2 : (58 :: 45 :: (uLit l ++ uMore (ls.map uLit)) ++ [46] : Tx) = [58, 45] ++ (uLit l ++ (uMore (ls.map uLit) ++ [46])) := by simp
  have e3 : ([58, 45] : Tx).foldl atF ([] ++ [uLit x.head], []) = ([uLit x.head], []) := by simp [atF]
  rw [e] at h4
  rw [e2, List.foldl_append, e3, List.foldl_append, at_lit (h4 l (by simp)), List.foldl_append, at_more _ _ fun a ha => h4 a (by simp [ha])]
  simp [atF]
/-! ### The number of variables, and what is put for them -/
end Go.Proofs.YtmoeoppbmhfbpaaGreatDoorU
