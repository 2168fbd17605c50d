import Derived.Test.YtmoeoppbmhfbpaaGreatDoorBGram
import Derived.Test.YtmoeoppbmhfbpaaGreatDoorBRefA
/- The cuts of a text that is well made. -/
namespace Go.Proofs.YtmoeoppbmhfbpaaGreatDoorB
open Go.Abs
set_option linter.unusedSimpArgs false
set_option linter.unusedVariables false
theorem small_rng {b : UInt8} (h : smallB b.toNat = true) : 97 ≤ b.toNat ∧ b.toNat ≤ 122 := by simp [smallB] at h; omega
theorem term_rng {b : UInt8} (h : largeB b.toNat = true ∨ digitB b.toNat = true) : 48 ≤ b.toNat ∧ b.toNat ≤ 90 ∧ b.toNat ≠ 58 := by
 simp [largeB, digitB] at h; omega
theorem cut_plain {c : Int} : ∀ (p r : Tx) (d : Bool) (cur : Tx), (∀ b ∈ p, b.toNat ≠ 40 ∧ b.toNat ≠ 41 ∧ (b.toNat : Int) ≠ c) → cutAux c (p ++ r) d cur = cutAux c r d (cur ++ p) := by
 intro p
 induction p with
 | nil => intro r d cur _; simp
 | cons b p ih =>
  intro r d cur h
  obtain ⟨h1, h2, h3⟩ := h b (List.mem_cons_self ..)
  rw [List.cons_append, cutAux]
  have e1 : ((b.toNat : Int) == 40) = false := by simp; omega
  have e2 : ((b.toNat : Int) == 41) = false := by simp; omega
  have e3 : ((b.toNat : Int) == c) = false := by simp; omega
  simp only [e1, e2, e3, Bool.false_eq_true, if_false, false_and]
  rw [ih r d (cur ++ [b]) (fun x hx => h x (List.mem_cons_of_mem _ hx))]
  simp
theorem cut_deep {c : Int} : ∀ (p r : Tx) (cur : Tx), (∀ b ∈ p, b.toNat ≠ 41) → cutAux c (p ++ r) true cur = cutAux c r true (cur ++ p) := by
 intro p
 induction p with
 | nil => intro r cur _; simp
 | cons b p ih =>
  intro r cur h
  have h2 := h b (List.mem_cons_self ..)
  rw [List.cons_append, cutAux]
  have e2 : ((b.toNat : Int) == 41) = false := by simp; omega
  simp only [e2, Bool.false_eq_true, if_false, ite_self, reduceCtorEq, and_false]
  rw [ih r (cur ++ [b]) (fun x hx => h x (List.mem_cons_of_mem _ hx))]
  simp
theorem cut_open {c : Int} (r : Tx) (d : Bool) (cur : Tx) : cutAux c (40 :: r) d cur = cutAux c r true (cur ++ [40]) := by
 rw [cutAux]; simp
theorem cut_close {c : Int} (hc : c ≠ 41) (r : Tx) (d : Bool) (cur : Tx) : cutAux c (41 :: r) d cur = cutAux c r false (cur ++ [41]) := by
 rw [cutAux]; simp; intro h; exact absurd h.symm hc
theorem cut_at {c : UInt8} (h1 : c.toNat ≠ 40) (h2 : c.toNat ≠ 41) (r cur : Tx) : cutAux c.toNat (c :: r) false cur = cur :: cutAux c.toNat r false [] := by
 rw [cutAux]
 have e1 : ((c.toNat : Int) == 40) = false := by simp; omega
 have e2 : ((c.toNat : Int) == 41) = false := by simp; omega
 simp [e1, e2]
def Solid (c : Int) (t : Tx) : Prop := t ≠ [] ∧ ∀ r cur, cutAux c (t ++ r) false cur = cutAux c r false (cur ++ t)
theorem cut_more : ∀ (ts : List Tx) (cur : Tx), (∀ t ∈ ts, Solid 44 t) → cur ≠ [] → cutAux 44 (uMore ts) false cur = cur :: ts := by
 intro ts
 induction ts with
 | nil => intro cur _ hc; simp [uMore, cutAux, hc]
 | cons t ts ih =>
  intro cur h hc
  obtain ⟨h1, h2⟩ := h t (List.mem_cons_self ..)
  have e : uMore (t :: ts) = 44 :: (t ++ uMore ts) := by simp [uMore]
  rw [e, show (44 : Int) = ((44 : UInt8).toNat : Int) from rfl, cut_at (by decide) (by decide), show ((44 : UInt8).toNat : Int) = 44 from rfl, h2, List.nil_append, ih t (fun x hx => h x (List.mem_cons_of_mem _ hx)) h1]
theorem cut_list {ts : List Tx} (h : ∀ t ∈ ts, Solid 44 t) : cutL (uList ts) 44 = ts := by
 cases ts with
 | nil => simp [uList, cutL, cutAux]
 | cons t ts =>
  obtain ⟨h1, h2⟩ := h t (List.mem_cons_self ..)
  unfold cutL uList
  rw [h2, List.nil_append, cut_more ts t (fun x hx => h x (List.mem_cons_of_mem _ hx)) h1]
theorem term_solid {t : Tx} (h : WTerm t) : Solid 44 t := by
 refine ⟨h.1, fun r cur => cut_plain _ _ _ _ fun b hb => ?_⟩
 have := term_rng (h.2 b hb)
 omega
theorem mem_uMore {ts : List Tx} {b : UInt8} (h : b ∈ uMore ts) : b = 44 ∨ ∃ t ∈ ts, b ∈ t := by
 unfold uMore at h
 rw [List.mem_flatMap] at h
 obtain ⟨t, ht, hb⟩ := h
 rcases List.mem_cons.1 hb with h | h
 ·exact .inl h
 ·exact .inr ⟨t, ht, h⟩
theorem mem_uList {ts : List Tx} {b : UInt8} (h : b ∈ uList ts) : b = 44 ∨ ∃ t ∈ ts, b ∈ t := by
 cases ts with
 | nil => cases h
 | cons t ts =>
  unfold uList at h
  rcases List.mem_append.1 h with h | h
  ·exact .inr ⟨t, List.mem_cons_self .., h⟩
  ·rcases mem_uMore h with h | ⟨u, hu, h⟩
   ·exact .inl h
   ·exact .inr ⟨u, List.mem_cons_of_mem _ hu, h⟩
theorem args_rng {a : RAtom} (h : WAtom a) {b : UInt8} (hb : b ∈ uList a.terms) : b.toNat = 44 ∨ (48 ≤ b.toNat ∧ b.toNat ≤ 90 ∧ b.toNat ≠ 58) := by
 rcases mem_uList hb with rfl | ⟨t, ht, hb⟩
 ·exact .inl rfl
 ·exact .inr (term_rng ((h.2.2.2 t ht).2 b hb))
theorem cut_atom {c : Int} (hc : c = 44 ∨ c = 46) {a : RAtom} (h : WAtom a) (r cur : Tx) : cutAux c (uAtom a ++ r) false cur = cutAux c r false (cur ++ uAtom a) := by
 unfold uAtom
 rw [List.append_assoc, cut_plain a.pred _ _ _ (fun b hb => by have := small_rng (h.1.2 b hb); omega), List.cons_append, cut_open, List.append_assoc, cut_deep (uList a.terms) _ _ (fun b hb => by have := args_rng h hb; omega)]
 rw [List.cons_append, List.nil_append, cut_close (by omega)]
 simp
theorem cut_lit {c : Int} (hc : c = 44 ∨ c = 46) {a : RAtom} (h : WAtom a) (r cur : Tx) : cutAux c (uLit a ++ r) false cur = cutAux c r false (cur ++ uLit a) := by
 unfold uLit
 rw [List.append_assoc, cut_plain (if a.nt = true then [33] else []) _ _ _ (fun b hb => by split at hb <;> simp at hb; subst hb; simp; omega), cut_atom hc h]
 simp
theorem uAtom_ne (a : RAtom) : uAtom a ≠ [] := by unfold uAtom; simp
theorem uLit_ne (a : RAtom) : uLit a ≠ [] := by unfold uLit; simp [uAtom_ne]
theorem lit_solid {a : RAtom} (h : WAtom a) : Solid 44 (uLit a) := ⟨uLit_ne a, fun r cur => cut_lit (.inl rfl) h r cur⟩
theorem cut_lits46 : ∀ (l : List RAtom) (r cur : Tx), (∀ a ∈ l, WAtom a) → cutAux 46 (uMore (l.map uLit) ++ r) false cur = cutAux 46 r false (cur ++ uMore (l.map uLit)) := by
 intro l
 induction l with
 | nil => intro r cur _; simp [uMore]
 | cons a l ih =>
  intro r cur h
  have e : uMore ((a :: l).map uLit) = [44] ++ (uLit a ++ uMore (l.map uLit)) := by simp [uMore]
  rw [e, List.append_assoc, cut_plain [44] _ _ _ (fun b hb => by simp at hb; subst hb; decide), List.append_assoc, cut_lit (.inr rfl) (h a (List.mem_cons_self ..)), ih _ _ (fun x hx => h x (List.mem_cons_of_mem _ hx))]
  simp
theorem cut_item {x : RItem} (h : WItem x) (r cur : Tx) : cutAux 46 (uItem x ++ r) false cur = cutAux 46 r false (cur ++ uItem x) := by
 obtain ⟨h1, h2, h3⟩ := h
 unfold uItem
 by_cases ho : x.out = true
 ·rw [if_pos ho, cut_plain (63 :: x.head.pred) _ _ _ (fun b hb => by
   rcases List.mem_cons.1 hb with rfl | hb
   ·decide
   ·have := small_rng (h1.2 b hb); omega)]
 ·obtain ⟨w1, w2, w3, w4⟩ := h3 (by simpa using ho)
  rw [if_neg ho]
  unfold uRule
  rw [List.append_assoc, cut_atom (.inr rfl) w1]
  cases hb : x.body with
  | nil => simp
  | cons l ls =>
   rw [hb] at w4
   rw [if_neg (by simp)]
   have e : (58 :: 45 :: uList ((l :: ls).map uLit)) = [58, 45] ++ (uLit l ++ uMore (ls.map uLit)) := by simp [uList]
   rw [e, List.append_assoc, cut_plain [58, 45] _ _ _ (fun b hb => by simp at hb; rcases hb with rfl | rfl <;> decide), List.append_assoc, cut_lit (.inr rfl) (w4 l (List.mem_cons_self ..)), cut_lits46 _ _ _ (fun x hx => w4 x (List.mem_cons_of_mem _ hx))]
   simp
theorem cut_items : ∀ (l : List RItem), (∀ x ∈ l, WItem x) → cutL (uItems l) 46 = l.map uItem := by
 intro l
 induction l with
 | nil => intro _; simp [uItems, cutL, cutAux]
 | cons x l ih =>
  intro h
  have e : uItems (x :: l) = uItem x ++ (46 :: uItems l) := by simp [uItems]
  have hi := ih fun y hy => h y (List.mem_cons_of_mem _ hy)
  unfold cutL at *
  rw [e, cut_item (h x (List.mem_cons_self ..)), show (46 : Int) = ((46 : UInt8).toNat : Int) from rfl, cut_at (by decide) (by decide), show ((46 : UInt8).toNat : Int) = 46 from rfl, hi]
  simp
theorem find_skip {c : Int} : ∀ (p r : Tx), (∀ b ∈ p, (b.toNat : Int) ≠ c) → findN (p ++ r) c = p.length + findN r c := by
 intro p
 induction p with
 | nil => intro r _; simp
 | cons b p ih =>
  intro r h
  have := ih r fun x hx => h x (List.mem_cons_of_mem _ hx)
  unfold findN at *
  have e : ((b.toNat : Int) == c) = false := by simpa using h b (List.mem_cons_self ..)
  rw [List.cons_append, List.findIdx_cons, e]
  simp only [cond_false, List.length_cons]
  omega
theorem find_head {c : UInt8} (r : Tx) : findN (c :: r) c.toNat = 0 := by unfold findN; rw [List.findIdx_cons]; simp
theorem find_nil {c : Int} : findN [] c = 0 := rfl
theorem head_small {p : Tx} (h : WName p) : ∃ b q, p = b :: q ∧ 97 ≤ b.toNat ∧ b.toNat ≤ 122 := by
 obtain ⟨h1, h2⟩ := h
 cases p with
 | nil => exact absurd rfl h1
 | cons b q => exact ⟨b, q, rfl, small_rng (h2 b (List.mem_cons_self ..))⟩
theorem atomU_of {a : RAtom} (h : WAtom a) : atomU a.nt (uAtom a) = a := by
 have hf : findN (uAtom a) 40 = a.pred.length := by
  unfold uAtom
  rw [find_skip a.pred _ (fun b hb => by have := small_rng (h.1.2 b hb); omega), show (40 : Int) = ((40 : UInt8).toNat : Int) from rfl, find_head]
  rfl
 have hl : (uAtom a).length = a.pred.length + 1 + (uList a.terms).length + 1 := by unfold uAtom; simp; omega
 unfold atomU
 rw [hf, if_pos (by omega)]
 have e1 : ((uAtom a).drop 0).take (a.pred.length - 0) = a.pred := by unfold uAtom; simp
 have e2 : ((uAtom a).drop (a.pred.length + 1)).take ((uAtom a).length - 1 - (a.pred.length + 1)) = uList a.terms := by
  rw [hl]
  unfold uAtom
  rw [show a.pred ++ 40 :: (uList a.terms ++ [41]) = (a.pred ++ [40]) ++ (uList a.terms ++ [41]) by simp]
  rw [List.drop_append_of_le_length (by simp), List.drop_of_length_le (by simp), List.nil_append]
  rw [show a.pred.length + 1 + (uList a.terms).length + 1 - 1 - (a.pred.length + 1) = (uList a.terms).length by omega]
  simp
 rw [e1, e2, cut_list (fun t ht => term_solid (h.2.2.2 t ht))]
theorem atomL_of {a : RAtom} (h : WAtom a) : atomL (uLit a) = a := by
 obtain ⟨b, q, hp, h1, h2⟩ := head_small h.1
 have e := atomU_of h
 unfold atomL uLit
 cases hn : a.nt with
 | true =>
  have e1 : bangB ((if true = true then [33] else []) ++ uAtom a) = true := rfl
  have e2 : unbang ((if true = true then [33] else []) ++ uAtom a) = uAtom a := by
   unfold unbang; rw [if_pos e1]; simp
  rw [e1, e2, ← hn, e]
 | false =>
  have e1 : bangB ((if false = true then [33] else []) ++ uAtom a) = false := by
   unfold uAtom; rw [hp]; simp [bangB]; omega
  have e2 : unbang ((if false = true then [33] else []) ++ uAtom a) = uAtom a := by
   unfold unbang; rw [if_neg (by rw [e1]; simp)]; simp
  rw [e1, e2, ← hn, e]
theorem uLit_pos {a : RAtom} (h : a.nt = false) : uLit a = uAtom a := by unfold uLit; simp [h]
theorem no58 {a : RAtom} (h : WAtom a) : ∀ b ∈ uAtom a, (b.toNat : Int) ≠ 58 := by
 intro b hb
 unfold uAtom at hb
 rcases List.mem_append.1 hb with hb | hb
 ·have := small_rng (h.1.2 b hb); omega
 ·rcases List.mem_cons.1 hb with rfl | hb
  ·decide
  ·rcases List.mem_append.1 hb with hb | hb
   ·have := args_rng h hb; omega
   ·simp at hb; subst hb; decide
theorem itemL_of {x : RItem} (h : WItem x) : itemL (uItem x) = x ∧ uItem x ≠ [] ∧ (queryB (uItem x) = false → findN (uItem x) 58 < (uItem x).length → findN (uItem x) 58 + 2 ≤ (uItem x).length) := by
 obtain ⟨h1, h2, h3⟩ := h
 obtain ⟨b, q, hp, k1, k2⟩ := head_small h1
 unfold uItem
 by_cases ho : x.out = true
 ·rw [if_pos ho]
  obtain ⟨w1, w2, w3⟩ := h2 ho
  have hq : queryB (63 :: x.head.pred) = true := rfl
  refine ⟨?_, by simp, fun h => by rw [hq] at h; cases h⟩
  unfold itemL
  rw [if_pos hq]
  unfold outL
  obtain ⟨xo, ⟨n, p, t⟩, bd⟩ := x
  simp at *
  simp [*]
 ·rw [if_neg ho]
  obtain ⟨w1, w2, w3, w4⟩ := h3 (by simpa using ho)
  have hq : queryB (uRule x) = false := by unfold uRule uAtom; rw [hp]; simp [queryB]; omega
  cases hb : x.body with
  | nil =>
   have e : uRule x = uAtom x.head := by unfold uRule; rw [if_pos hb]; simp
   have hf : findN (uRule x) 58 = (uRule x).length := by
    have := find_skip (uAtom x.head) [] (no58 w1)
    rw [List.append_nil, find_nil] at this
    rw [e]; omega
   refine ⟨?_, by rw [e]; exact uAtom_ne _, fun _ h => by omega⟩
   unfold itemL
   rw [if_neg (by simp [hq])]
   unfold ruleL
   rw [hf, if_neg (by omega)]
   have e2 : ((uRule x).drop 0).take ((uRule x).length - 0) = uLit x.head := by rw [e, uLit_pos w2]; simp
   rw [e2, atomL_of w1]
   obtain ⟨xo, hd, bd⟩ := x
   simp at *
   simp [*]
  | cons l ls =>
   have e : uRule x = uAtom x.head ++ (58 :: 45 :: uList (x.body.map uLit)) := by unfold uRule; rw [if_neg (by rw [hb]; simp)]
   have hf : findN (uRule x) 58 = (uAtom x.head).length := by
    have := find_skip (uAtom x.head) (58 :: 45 :: uList (x.body.map uLit)) (no58 w1)
    rw [e, this, show (58 : Int) = ((58 : UInt8).toNat : Int) from rfl, find_head]
    rfl
   have hl : (uRule x).length = (uAtom x.head).length + 2 + (uList (x.body.map uLit)).length := by rw [e]; simp; omega
   refine ⟨?_, by rw [e]; simp, fun _ _ => by omega⟩
   unfold itemL
   rw [if_neg (by simp [hq])]
   unfold ruleL
   rw [hf, if_pos (by omega)]
   have e2 : ((uRule x).drop 0).take ((uAtom x.head).length - 0) = uLit x.head := by rw [e, uLit_pos w2]; simp
   have e3 : ((uRule x).drop ((uAtom x.head).length + 2)).take ((uRule x).length - ((uAtom x.head).length + 2)) = uList (x.body.map uLit) := by
    rw [hl, e, show uAtom x.head ++ (58 :: 45 :: uList (x.body.map uLit)) = (uAtom x.head ++ [58, 45]) ++ uList (x.body.map uLit) by simp]
    rw [List.drop_append_of_le_length (by simp), List.drop_of_length_le (by simp), List.nil_append]
    exact List.take_of_length_le (by omega)
   rw [e2, e3, atomL_of w1, cut_list (fun t ht => by
    rw [List.mem_map] at ht
    obtain ⟨a, ha, rfl⟩ := ht
    exact lit_solid (w4 a ha))]
   have e4 : (x.body.map uLit).map atomL = x.body := by
    rw [List.map_map]
    conv => rhs; rw [← List.map_id x.body]
    exact List.map_congr_left fun a ha => atomL_of (w4 a ha)
   rw [e4]
   obtain ⟨xo, hd, bd⟩ := x
   simp at *
   simp [*]
theorem parse_good {s : Tx} {l : List RItem} {r : Tx} (hs : s.length ≤ 1000) (h : pItems 16 s = .got l r) : goodText s ∧ itemsL s = l ∧ l.length ≤ 16 ∧ ∀ x ∈ l, WItem x := by
 obtain ⟨h1, h2, h3, h4⟩ := pItems_took _ _ _ _ h
 have hc := cut_items l h4
 refine ⟨⟨?_, ?_⟩, ?_, h3, h4⟩
 ·rw [h1, hc]; simpa using h3
 ·intro t ht
  have hl := cutL_piece ht
  rw [h1, hc, List.mem_map] at ht
  obtain ⟨x, hx, rfl⟩ := ht
  obtain ⟨g1, g2, g3⟩ := itemL_of (h4 x hx)
  exact ⟨by omega, g2, g3⟩
 ·unfold itemsL
  rw [h1, hc, List.map_map]
  conv => rhs; rw [← List.map_id l]
  exact List.map_congr_left fun x hx => (itemL_of (h4 x hx)).1
/- Ways through rules, and through predicates. -/
inductive Way {α : Type} (E : α → α → Prop) : α → α → Prop
 | one {a b : α} : E a b → Way E a b
 | more {a b c : α} : E a b → Way E b c → Way E a c
theorem Way.join {α : Type} {E : α → α → Prop} {a b c : α} (h : Way E a b) (k : Way E b c) : Way E a c := by
 induction h with
 | one e => exact .more e k
 | more e _ ih => exact .more e (ih k)
def Supp (n : Nat) (M : Nat → Nat → Bool) : Prop := ∀ a b, M a b = true → a < n ∧ b < n
theorem fwR_at {n : Nat} {M : Nat → Nat → Bool} (hM : Supp n M) : ∀ (m : Nat), m ≤ n → Supp n (fwR n M m) ∧ (∀ a b, M a b = true → fwR n M m a b = true) ∧ (∀ a b, fwR n M m a b = true → Way (fun a b => M a b = true) a b) ∧
  (∀ a b c, b < m → fwR n M m a b = true → fwR n M m b c = true → fwR n M m a c = true) := by
 intro m
 induction m with
 | zero => intro _; exact ⟨hM, fun _ _ h => h, fun _ _ h => .one h, fun _ _ _ h => by omega⟩
 | succ m ih =>
  intro hm
  obtain ⟨h1, h2, h3, h4⟩ := ih (by omega)
  have e : ∀ a b, fwR n M (m + 1) a b = true ↔ fwR n M m a b = true ∨ (fwR n M m a m = true ∧ fwR n M m m b = true) := by
   intro a b
   show fwN n (fwR n M m) m a b = true ↔ _
   unfold fwN fw
   split
   ·simp
   ·rename_i hn
    constructor
    ·exact .inl
    ·rintro (h | ⟨ha, hb⟩)
     ·exact h
     ·exact absurd ⟨(h1 _ _ ha).1, (h1 _ _ hb).2⟩ hn
  refine ⟨?_, ?_, ?_, ?_⟩
  ·intro a b h
   rcases (e a b).1 h with h | ⟨ha, hb⟩
   ·exact h1 _ _ h
   ·exact ⟨(h1 _ _ ha).1, (h1 _ _ hb).2⟩
  ·intro a b h; exact (e a b).2 (.inl (h2 _ _ h))
  ·intro a b h
   rcases (e a b).1 h with h | ⟨ha, hb⟩
   ·exact h3 _ _ h
   ·exact (h3 _ _ ha).join (h3 _ _ hb)
  ·intro a b c hb hab hbc
   rw [e] at hab hbc ⊢
   by_cases hbm : b = m
   ·subst hbm
    have g1 : fwR n M b a b = true := by rcases hab with h | ⟨h, _⟩ <;> exact h
    have g2 : fwR n M b b c = true := by rcases hbc with h | ⟨_, h⟩ <;> exact h
    exact .inr ⟨g1, g2⟩
   ·have hlt : b < m := by omega
    rcases hab with hab | ⟨ha, hb'⟩ <;> rcases hbc with hbc | ⟨hb2, hc⟩
    ·exact .inl (h4 _ _ _ hlt hab hbc)
    ·exact .inr ⟨h4 _ _ _ hlt hab hb2, hc⟩
    ·exact .inr ⟨ha, h4 _ _ _ hlt hb' hbc⟩
    ·exact .inr ⟨ha, hc⟩
theorem fwR_iff {n : Nat} {M : Nat → Nat → Bool} (hM : Supp n M) (a b : Nat) : fwR n M n a b = true ↔ Way (fun a b => M a b = true) a b := by
 obtain ⟨h1, h2, h3, h4⟩ := fwR_at hM n (Nat.le_refl _)
 refine ⟨h3 a b, fun h => ?_⟩
 induction h with
 | one e => exact h2 _ _ e
 | more e _ ih => exact h4 _ _ _ (hM _ _ e).2 (h2 _ _ e) ih
theorem webM_iff (l : List RItem) (i k : Nat) : webM l i k = true ↔ Way (fun a b => edge l a b = true) i k := by
 have he : ∀ a b, edge l a b = true → a < l.length ∧ b < l.length := by
  intro a b h
  unfold edge at h
  split at h
  ·rename_i x y hx hy
   exact ⟨(List.getElem?_eq_some_iff.1 hx).1, (List.getElem?_eq_some_iff.1 hy).1⟩
  ·cases h
 have e : (fun a b => if a < l.length ∧ b < l.length then edge l a b else false) = edge l := by
  funext a b
  split
  ·rfl
  ·rename_i hn
   cases hq : edge l a b with
   | false => rfl
   | true => exact absurd (he a b hq) hn
 unfold webM
 rw [e]
 exact fwR_iff he i k
def atOnce (l : List RItem) (p q : Tx) : Prop := ∃ x ∈ l, x.head.pred = p ∧ ∃ a ∈ x.body, a.pred = q
theorem edge_iff {l : List RItem} {i k : Nat} : edge l i k = true ↔ ∃ x y, l[i]? = some x ∧ l[k]? = some y ∧ y.out = false ∧ ∃ a ∈ x.body, a.pred = y.head.pred := by
 unfold edge
 constructor
 ·intro h
  split at h
  ·rename_i x y hx hy
   refine ⟨x, y, hx, hy, ?_⟩
   simp at h
   exact h
  ·cases h
 ·rintro ⟨x, y, hx, hy, h1, a, ha, h2⟩
  rw [hx, hy]
  simp only [h1, Bool.not_false, Bool.true_and]
  exact List.any_eq_true.2 ⟨a, ha, by simp [h2]⟩
theorem way_rules {l : List RItem} {i k : Nat} (h : Way (fun a b => edge l a b = true) i k) : ∃ x y, l[i]? = some x ∧ l[k]? = some y ∧ y.out = false ∧ Way (atOnce l) x.head.pred y.head.pred := by
 induction h with
 | one e =>
  obtain ⟨x, y, hx, hy, h1, a, ha, h2⟩ := edge_iff.1 e
  exact ⟨x, y, hx, hy, h1, .one ⟨x, List.mem_of_getElem? hx, rfl, a, ha, h2⟩⟩
 | more e _ ih =>
  obtain ⟨x, y, hx, hy, h1, a, ha, h2⟩ := edge_iff.1 e
  obtain ⟨x', z, hx', hz, h3, h4⟩ := ih
  rw [hy] at hx'
  cases hx'
  exact ⟨x, z, hx, hz, h3, .more ⟨x, List.mem_of_getElem? hx, rfl, a, ha, h2⟩ h4⟩
theorem way_preds {l : List RItem} (ho : ∀ x ∈ l, x.out = true → x.body = []) {p q : Tx} (h : Way (atOnce l) p q) : ∀ (k : Nat) (y : RItem), l[k]? = some y → y.out = false → y.head.pred = q → ∃ (i : Nat) (x : RItem), l[i]? = some x ∧ x.head.pred = p ∧ Way (fun a b => edge l a b = true) i k := by
 induction h with
 | one e =>
  intro k y hk hy hq
  obtain ⟨x, hx, h1, a, ha, h2⟩ := e
  obtain ⟨i, hi⟩ := List.getElem?_of_mem hx
  exact ⟨i, x, hi, h1, .one (edge_iff.2 ⟨x, y, hi, hk, hy, a, ha, by rw [h2, hq]⟩)⟩
 | more e _ ih =>
  intro k y hk hy hq
  obtain ⟨x, hx, h1, a, ha, h2⟩ := e
  obtain ⟨i, hi⟩ := List.getElem?_of_mem hx
  obtain ⟨j, z, hj, h3, h4⟩ := ih k y hk hy hq
  have hz : z.out = false := by
   have hne : z.body ≠ [] := by
    cases h4 with
    | one e =>
     obtain ⟨z', _, hz', _, _, a, ha, _⟩ := edge_iff.1 e
     rw [hj] at hz'; cases hz'
     intro hn; rw [hn] at ha; cases ha
    | more e _ =>
     obtain ⟨z', _, hz', _, _, a, ha, _⟩ := edge_iff.1 e
     rw [hj] at hz'; cases hz'
     intro hn; rw [hn] at ha; cases ha
   cases hb : z.out with
   | false => rfl
   | true => exact absurd (ho z (List.mem_of_getElem? hj) hb) hne
  exact ⟨i, x, hi, h1, .more (edge_iff.2 ⟨x, z, hi, hj, hz, a, ha, by rw [h2, h3]⟩) h4⟩
theorem usesB_iff {l : List RItem} (ho : ∀ x ∈ l, x.out = true → x.body = []) {p q : Tx} (hq : ∃ y ∈ l, y.out = false ∧ y.head.pred = q) : usesB l p q = true ↔ Way (atOnce l) p q := by
 unfold usesB
 constructor
 ·intro h
  rw [List.any_eq_true] at h
  obtain ⟨i, -, h⟩ := h
  rw [List.any_eq_true] at h
  obtain ⟨k, -, h⟩ := h
  unfold hitU at h
  simp only [Bool.and_eq_true, beq_iff_eq] at h
  obtain ⟨⟨h1, h2⟩, h3⟩ := h
  obtain ⟨x, y, hx, hy, _, hw⟩ := way_rules ((webM_iff l i k).1 h1)
  unfold headOf at h2 h3
  rw [hx] at h2
  rw [hy] at h3
  rw [← h2, ← h3]
  exact hw
 ·intro h
  obtain ⟨y, hy, h1, h2⟩ := hq
  obtain ⟨k, hk⟩ := List.getElem?_of_mem hy
  obtain ⟨i, x, hi, h3, h4⟩ := way_preds ho h k y hk h1 h2
  rw [List.any_eq_true]
  refine ⟨i, by simpa using (List.getElem?_eq_some_iff.1 hi).1, ?_⟩
  rw [List.any_eq_true]
  refine ⟨k, by simpa using (List.getElem?_eq_some_iff.1 hk).1, ?_⟩
  unfold hitU headOf
  rw [(webM_iff l i k).2 h4, hi, hk]
  simp [h2, h3]
end Go.Proofs.YtmoeoppbmhfbpaaGreatDoorB
