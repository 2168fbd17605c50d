import Derived.Test.YtmoeoppbmhfbpaaGreatDoorQImpC
import Derived.Test.YtmoeoppbmhfbpaaGreatDoorQSpaE
import Derived.Test.YtmoeoppbmhfbpaaGreatDoorQPrtF
/- Both tell the same of an implied rule. -/
namespace Go.Proofs.YtmoeoppbmhfbpaaGreatDoorQ
open Go.Abs
set_option linter.unusedSimpArgs false
set_option linter.unusedVariables false
def encG : Tx → Int
 | [] => 0
 | b :: r => if b = 35 then 1000 + (encT r).2 else (encT (b :: r)).2
theorem encG_cons (b : UInt8) (r : Tx) : encG (b :: r) = if b = 35 then 1000 + (encT r).2 else (encT (b :: r)).2 := rfl
theorem encG_sharp (v : Tx) : encG (35 :: v) = 1000 + (encT v).2 := by rw [encG_cons, if_pos rfl]
def GT (t : Tx) : Prop := (variableB t = false ∧ VT t ∧ DT t) ∨ ∃ v, t = 35 :: v ∧ variableB v = true ∧ VT v
theorem vt_var {v : Tx} (h : VT v) (hv : variableB v = true) : ∃ b, v = [b] ∧ largeB b.toNat = true := by
 rcases h with h | ⟨h1, h2⟩
 ·exact h
 ·exfalso
  cases v with
  | nil => exact h1 rfl
  | cons b r =>
   have hd := h2 b (by simp)
   have hl : largeB b.toNat = true := hv
   unfold digitB at hd
   unfold largeB at hl
   simp at hd hl
   omega
theorem vt_num {v : Tx} (h : VT v) (hv : variableB v = false) : v ≠ [] ∧ ∀ b ∈ v, digitB b.toNat = true := by
 rcases h with ⟨b, rfl, h⟩ | h
 ·have : variableB [b] = largeB b.toNat := rfl
  rw [this, h] at hv; cases hv
 ·exact h
theorem encG_num {t : Tx} (h : VT t) (hv : variableB t = false) : encG t = (encT t).2 := by
 obtain ⟨h1, h2⟩ := vt_num h hv
 cases t with
 | nil => exact absurd rfl h1
 | cons b r =>
  rw [encG_cons, if_neg]
  rintro rfl
  have := h2 35 (by simp)
  revert this; decide
theorem enc_rng {v : Tx} (h : VT v) (hv : variableB v = true) : 0 ≤ (encT v).2 ∧ (encT v).2 < 26 := by
 obtain ⟨b, rfl, hl⟩ := vt_var h hv
 rw [encT_large hl]
 unfold largeB at hl
 simp at hl
 simp only
 omega
theorem dt_rng {t : Tx} (h : DT t) (hv : variableB t = false) : Lib.itoa (encT t).2 = t ∧ 0 ≤ (encT t).2 ∧ (encT t).2 ≤ 999 := by
 rcases h with h | ⟨-, h⟩
 ·rw [h] at hv; cases hv
 ·exact h
theorem encG_rng {t : Tx} (h : GT t) : ∃ n : Nat, encG t = (n : Int) ∧ n < 1026 := by
 rcases h with ⟨h1, h2, h3⟩ | ⟨v, rfl, h1, h2⟩
 ·rw [encG_num h2 h1]
  obtain ⟨-, e1, e2⟩ := dt_rng h3 h1
  exact ⟨(encT t).2.toNat, by omega, by omega⟩
 ·obtain ⟨e1, e2⟩ := enc_rng h2 h1
  refine ⟨(1000 + (encT v).2).toNat, ?_, by omega⟩
  rw [encG_sharp]
  omega
theorem encG_inj {t u : Tx} (ht : GT t) (hu : GT u) (h : encG t = encG u) : t = u := by
 rcases ht with ⟨h1, h2, h3⟩ | ⟨v, rfl, h1, h2⟩
 ·rcases hu with ⟨g1, g2, g3⟩ | ⟨w, rfl, g1, g2⟩
  ·rw [encG_num h2 h1, encG_num g2 g1] at h
   rw [← (dt_rng h3 h1).1, ← (dt_rng g3 g1).1, h]
  ·exfalso
   rw [encG_num h2 h1] at h
   have := (dt_rng h3 h1).2.2
   have := (enc_rng g2 g1).1
   rw [encG_sharp] at h
   omega
 ·rcases hu with ⟨g1, g2, g3⟩ | ⟨w, rfl, g1, g2⟩
  ·exfalso
   rw [encG_num g2 g1] at h
   have := (dt_rng g3 g1).2.2
   have := (enc_rng h2 h1).1
   rw [encG_sharp] at h
   omega
  ·rw [encG_sharp, encG_sharp] at h
   rw [enc_inj h2 g2 h1 g1 (by omega)]
theorem encG_frz {t : Tx} (h : VT t) : encG (frzD t) = (frzT (encT t)).2 := by
 unfold frzD frzT
 rw [enc_fst]
 cases hv : variableB t with
 | true => rw [if_pos rfl, if_pos rfl, encG_sharp]
 | false => rw [if_neg (by simp), if_neg (by simp)]; exact encG_num h hv
theorem gt_frz {t : Tx} (h : VT t) (hd : DT t) : GT (frzD t) := by
 unfold frzD
 cases hv : variableB t with
 | true => rw [if_pos rfl]; exact .inr ⟨t, rfl, hv, h⟩
 | false => rw [if_neg (by simp)]; exact .inl ⟨hv, h, hd⟩
def prdI (N : List Tx) (a : RAtom) : Nat := N.idxOf a.pred + (if a.nt = true then N.length else 0)
def eA (N : List Tx) (a : RAtom) : Nat × Tup := (prdI N a, tupOf (a.terms.map encG))
structure AtI (N : List Tx) (ar : Tx → Nat) (a : RAtom) : Prop where
 mem : a.pred ∈ N
 len : a.terms.length = ar a.pred
 le3 : a.terms.length ≤ 3
structure GA (N : List Tx) (ar : Tx → Nat) (a : RAtom) : Prop extends AtI N ar a where
 gt : ∀ t ∈ a.terms, GT t
theorem prdI_inj {N : List Tx} {a b : RAtom} (ha : a.pred ∈ N) (hb : b.pred ∈ N) (h : prdI N a = prdI N b) : a.nt = b.nt ∧ a.pred = b.pred := by
 have h1 := List.idxOf_lt_length_of_mem ha
 have h2 := List.idxOf_lt_length_of_mem hb
 unfold prdI at h
 have hnt : a.nt = b.nt := by
  cases e1 : a.nt <;> cases e2 : b.nt <;> simp [e1, e2] at h ⊢ <;> omega
 rw [hnt] at h
 have hi : N.idxOf a.pred = N.idxOf b.pred := by omega
 refine ⟨hnt, ?_⟩
 have e1 := List.getElem_idxOf h1
 have e2 := List.getElem_idxOf h2
 rw [← e1, ← e2]
 congr 1
theorem map_inj_on {α β : Type} {f : α → β} : ∀ {l m : List α}, (∀ a ∈ l, ∀ b ∈ m, f a = f b → a = b) → l.map f = m.map f → l = m
 | [], [], _, _ => rfl
 | [], b :: m, _, h => by simp at h
 | a :: l, [], _, h => by simp at h
 | a :: l, b :: m, hi, h => by
  simp only [List.map_cons, List.cons.injEq] at h
  rw [hi a (by simp) b (by simp) h.1, map_inj_on (fun x hx y hy => hi x (by simp [hx]) y (by simp [hy])) h.2]
theorem eA_inj {N : List Tx} {ar : Tx → Nat} {a b : RAtom} (ha : GA N ar a) (hb : GA N ar b) (h : eA N a = eA N b) : a = b := by
 unfold eA at h
 simp only [Prod.mk.injEq] at h
 obtain ⟨h1, h2⟩ := prdI_inj ha.mem hb.mem h.1
 have hl : a.terms.length = b.terms.length := by rw [ha.len, hb.len, h2]
 have h3 := tupOf_inj (by simpa using hl) (by simpa using ha.le3) h.2
 exact RAtom.ext' h1 h2 (map_inj_on (fun x hx y hy e => encG_inj (ha.gt x hx) (hb.gt y hy) e) h3)
structure RuI (N : List Tx) (ar : Tx → Nat) (y : RItem) : Prop where
 head : AtI N ar y.head
 hnt : y.head.nt = false
 body : ∀ b ∈ y.body, AtI N ar b
 vt : ∀ t ∈ y.head.terms, VT t ∧ DT t
 vb : ∀ b ∈ y.body, ∀ t ∈ b.terms, VT t ∧ DT t
 safe : ∀ v ∈ y.head.terms, variableB v = true → ∃ b ∈ y.body, v ∈ b.terms
theorem afP_head (N : List Tx) (y : RItem) : (afP N y).head = atmP N y.head := rfl
theorem afP_body (N : List Tx) (y : RItem) : (afP N y).body = y.body.map fun b => affL N.length (litP N b) := by simp [afP, affR, rulP]
theorem aff_p (N : List Tx) (b : RAtom) : (affL (N.length : Int) (litP N b)).a.p = (prdI N b : Nat) := by
 unfold affL litP atmP prdI
 simp only
 cases h : b.nt with
 | true => simp
 | false => simp
theorem aff_ts (N : List Tx) (b : RAtom) : (affL (N.length : Int) (litP N b)).a.ts = b.terms.map encT := by
 unfold affL litP atmP
 simp only
 split <;> rfl
def letC (v : Int) : UInt8 := UInt8.ofNat (65 + v.toNat)
def nuOf (μ : Tx → Tx) : Nu := fun v => encG (μ [letC v])
theorem nuOf_var {μ : Tx → Tx} {v : Tx} (h : VT v) (hv : variableB v = true) : nuOf μ (encT v).2 = encG (μ v) := by
 obtain ⟨b, rfl, hl⟩ := vt_var h hv
 unfold nuOf letC
 rw [encT_large hl]
 have hb : 65 ≤ b.toNat := by unfold largeB at hl; simp at hl; omega
 have e : (65 + ((b.toNat : Int) - 65).toNat) = b.toNat := by omega
 simp only [e, UInt8.ofNat_toNat]
theorem val_mu {μ : Tx → Tx} {t : Tx} (h : VT t) : valN (nuOf μ) (encT t) = encG (tmM μ t) := by
 unfold valN
 rw [enc_fst]
 cases hv : variableB t with
 | true => rw [if_pos rfl, tmM_var hv, nuOf_var h hv]
 | false => rw [if_neg (by simp), tmM_gnd hv, encG_num h hv]
theorem sub_mu {μ : Tx → Tx} {ts : List Tx} {p : Int} (h : ∀ t ∈ ts, VT t) : esub ⟨p, ts.map encT⟩ (nuOf μ) = tupOf ((ts.map (tmM μ)).map encG) := by
 unfold esub
 simp only [List.map_map]
 congr 1
 exact List.map_congr_left fun t ht => val_mu (h t ht)
theorem esub_ts {a : Atm} {ν : Nu} : esub a ν = esub ⟨0, a.ts⟩ ν := rfl
structure SysI (N : List Tx) (ar : Tx → Nat) (Rd : List RItem) (x : RItem) : Prop where
 ru : ∀ y ∈ Rd, RuI N ar y
 x : RuI N ar x
theorem ga_frz {N : List Tx} {ar : Tx → Nat} {b : RAtom} (h : AtI N ar b) (ht : ∀ t ∈ b.terms, VT t ∧ DT t) : GA N ar (frzR b) :=
 ⟨⟨h.mem, by show (b.terms.map frzD).length = _; rw [List.length_map]; exact h.len, by show (b.terms.map frzD).length ≤ 3; rw [List.length_map]; exact h.le3⟩, fun t hm => by
  obtain ⟨u, hu, rfl⟩ := List.mem_map.1 hm
  exact gt_frz (ht u hu).1 (ht u hu).2⟩
theorem eA_frz {N : List Tx} {b : RAtom} (ht : ∀ t ∈ b.terms, VT t) : eA N (frzR b) = ((affL (N.length : Int) (litP N b)).a.p.toNat, tupA (frzA (affL (N.length : Int) (litP N b)).a)) := by
 unfold eA
 rw [aff_p, Int.toNat_natCast]
 refine Prod.ext rfl ?_
 show tupOf ((b.terms.map frzD).map encG) = tupOf (((affL (N.length : Int) (litP N b)).a.ts.map frzT).map (·.2))
 rw [aff_ts, List.map_map, List.map_map, List.map_map]
 congr 1
 exact List.map_congr_left fun t hm => encG_frz (ht t hm)
theorem sat_of {N : List Tx} {ar : Tx → Nat} {Rd : List RItem} {x : RItem} (h : SysI N ar Rd x) : Sat true Rd (x.body.map frzR) (fun a => GA N ar a ∧ LstF (Rd.map (afP N)) (fctP N x) (eA N a).1 (eA N a).2) := by
 refine ⟨fun a ha => ?_, fun A' hA' hg y hy hd hs => ?_⟩
 ·obtain ⟨b, hb, rfl⟩ := List.mem_map.1 ha
  refine ⟨ga_frz (h.x.body b hb) (h.x.vb b hb), ?_⟩
  rw [eA_frz fun t ht => (h.x.vb b hb t ht).1]
  have hf : frzA (affL (N.length : Int) (litP N b)).a ∈ fctP N x := by
   unfold fctP
   rw [afP_body, List.map_map]
   exact List.mem_map.2 ⟨b, hb, rfl⟩
  exact LstF.fact hf
 ·obtain ⟨μ, h1, -, rfl⟩ := hs
  have hr := h.ru y hy
  have hb : ∀ b ∈ y.body, GA N ar (atM μ b) ∧ LstF (Rd.map (afP N)) (fctP N x) (eA N (atM μ b)).1 (eA N (atM μ b)).2 := fun b hb => hA' _ (h1 b hb rfl)
  refine ⟨⟨⟨hr.head.mem, by show (y.head.terms.map _).length = _; rw [List.length_map]; exact hr.head.len, by show (y.head.terms.map _).length ≤ 3; rw [List.length_map]; exact hr.head.le3⟩, fun t ht => ?_⟩, ?_⟩
  ·obtain ⟨u, hu, rfl⟩ := List.mem_map.1 ht
   cases hv : variableB u with
   | false => rw [tmM_gnd hv]; exact .inl ⟨hv, (hr.vt u hu).1, (hr.vt u hu).2⟩
   | true =>
    obtain ⟨b, hbm, hub⟩ := hr.safe u hu hv
    exact (hb b hbm).1.gt _ (List.mem_map.2 ⟨u, hub, rfl⟩)
  ·have hc := LstF.cl (Rd.map (afP N)) (fctP N x) (afP N y) (List.mem_map.2 ⟨y, hy, rfl⟩) (nuOf μ) (fun l hl => by
    rw [afP_body] at hl
    obtain ⟨b, hbm, rfl⟩ := List.mem_map.1 hl
    have h2 := (hb b hbm).2
    rw [aff_p, Int.toNat_natCast, esub_ts, aff_ts, sub_mu fun t ht => (hr.vb b hbm t ht).1]
    exact h2)
   rw [afP_head, esub_ts] at hc
   have e1 : (atmP N y.head).ts = y.head.terms.map encT := rfl
   rw [e1, sub_mu fun t ht => (hr.vt t ht).1] at hc
   have e2 : (atmP N y.head).p.toNat = (eA N (atM μ y.head)).1 := by
    show (((N.idxOf y.head.pred : Nat) : Int)).toNat = prdI N (atM μ y.head)
    unfold prdI
    have : (atM μ y.head).nt = false := hr.hnt
    rw [this, Int.toNat_natCast]; rfl
   rw [e2] at hc
   exact hc
/- The program's Implied, of a text. -/
set_option maxRecDepth 100000
theorem right_len2 {t : Tx} (h : (refCheck t).1 = 0) : ∀ x ∈ itemsL t, ∀ y ∈ itemsL t, ∀ a ∈ atomsL x, ∀ b ∈ atomsL y, a.pred = b.pred → a.terms.length = b.terms.length := by
 have hodd : ∀ i, i < (itemsL t).length → oddP (itemsL t) i = false := by
  unfold refCheck at h
  split at h
  ·simp at h
  split at h
  ·simp at h
  unfold wrongM at h
  split at h
  ·simp at h
  ·rename_i hk; exact firstM_neg hk
 have key : ∀ (i j : Nat) (x y : RItem) (a b : RAtom), (itemsL t)[i]? = some x → (itemsL t)[j]? = some y → i < j → a ∈ atomsL x → b ∈ atomsL y → a.pred = b.pred → a.terms.length = b.terms.length := by
  intro i j x y a b hi hj hij ha hb he
  have h1 := hodd j (List.getElem?_eq_some_iff.1 hj).1
  unfold oddP at h1
  rw [hj] at h1
  simp only [List.any_eq_false, List.mem_range] at h1
  obtain ⟨k, hk⟩ := List.getElem?_of_mem hb
  have h2 := h1 k (List.getElem?_eq_some_iff.1 hk).1
  unfold oddAt at h2
  rw [hk] at h2
  simp only [List.any_eq_true, not_exists, not_and] at h2
  have h3 := h2 a (by
   unfold seenL priorL
   refine List.mem_append.2 (.inl (List.mem_flatMap.2 ⟨x, ?_, ha⟩))
   exact List.mem_of_getElem? (i := i) (by rw [List.getElem?_take, if_pos hij]; exact hi))
  unfold clash at h3
  simp [he] at h3
  exact h3
 intro x hx y hy a ha b hb he
 obtain ⟨i, hi⟩ := List.getElem?_of_mem hx
 obtain ⟨j, hj⟩ := List.getElem?_of_mem hy
 rcases Nat.lt_trichotomy i j with hlt | rfl | hgt
 ·exact key i j x y a b hi hj hlt ha hb he
 ·rw [hi] at hj; cases hj
  exact right_len h x hx a ha b hb he
 ·exact (key j i y x b a hj hi hgt hb ha he.symm).symm
def ArOf (l : List RItem) (ar : Tx → Nat) : Prop := ∀ x ∈ l, ∀ a ∈ atomsL x, a.terms.length = ar a.pred
theorem ar_ex {t : Tx} (h : (refCheck t).1 = 0) : ∃ ar, ArOf (itemsL t) ar := by
 refine ⟨fun p => Classical.epsilon fun n => ∃ x ∈ itemsL t, ∃ a ∈ atomsL x, a.pred = p ∧ a.terms.length = n, fun x hx a ha => ?_⟩
 have := Classical.epsilon_spec (p := fun n => ∃ x ∈ itemsL t, ∃ b ∈ atomsL x, b.pred = a.pred ∧ b.terms.length = n) ⟨_, x, hx, a, ha, rfl, rfl⟩
 obtain ⟨y, hy, b, hb, e1, e2⟩ := this
 rw [right_len2 h x hx y hy a ha b hb e1.symm]
 exact e2
theorem ru_of {t : Tx} {N : List Tx} {l : List RItem} {cs : List AV} {ar : Tx → Nat} (h : Right t N l cs) (hA : ArOf l ar) {x : RItem} (hx : x ∈ l) (ho : x.out = false) : RuI N ar x := by
 have hi := h.items
 have hxi : x ∈ itemsL t := by rw [hi]; exact hx
 have hf := right_fine h.ok x hxi
 have hwi := h.wi x hx
 have hw := hf.w.2.2 ho
 have hat : ∀ a, a = x.head ∨ a ∈ x.body → a ∈ atomsL x := fun a ha => by
  rcases ha with rfl | ha <;> simp [atomsL, ho, *]
 have hlen : ∀ a ∈ atomsL x, a.terms.length = ar a.pred := hA x hx
 refine ⟨⟨hwi.mem, hlen _ (hat _ (.inl rfl)), hw.1.2.2.1⟩, hw.2.1, fun b hb => ⟨(hwi.wa b hb).1, hlen _ (hat _ (.inr hb)), (hw.2.2.2 b hb).2.2.1⟩, fun w hm => ⟨hf.va _ (hat _ (.inl rfl)) w hm, hf.dt _ (hat _ (.inl rfl)) w hm⟩, fun b hb w hm => ⟨hf.va _ (hat _ (.inr hb)) w hm, hf.dt _ (hat _ (.inr hb)) w hm⟩, fun v hm hv => ?_⟩
 obtain ⟨c0, p, hH, -⟩ := hf.rule ho
 obtain ⟨a, ha, -, hva⟩ := hH.saf v hv (.inl hm)
 exact ⟨a, ha, hva⟩
def arN (N : List Tx) (ar : Tx → Nat) (k : Nat) : Nat := ar (N.getD (if k < N.length then k else k - N.length) [])
theorem arN_eq {N : List Tx} {ar : Tx → Nat} {a : RAtom} (h : a.pred ∈ N) : arN N ar (prdI N a) = ar a.pred := by
 have hl := List.idxOf_lt_length_of_mem h
 have e : N.getD (N.idxOf a.pred) [] = a.pred := by
  rw [List.getD_eq_getElem?_getD, List.getElem?_eq_getElem hl, Option.getD_some]
  exact List.getElem_idxOf hl
 unfold arN prdI
 cases hn : a.nt with
 | true =>
  simp only [if_true]
  rw [if_neg (by omega), Nat.add_sub_cancel, e]
 | false =>
  simp only [Bool.false_eq_true, if_false, Nat.add_zero]
  rw [if_pos hl, e]
theorem enc_num {w : Tx} (hv : VT w) (hd : DT w) (h : (encT w).1 = false) : ∃ n : Nat, (encT w).2 = (n : Int) ∧ n < 1026 := by
 rw [enc_fst] at h
 obtain ⟨-, e1, e2⟩ := dt_rng hd h
 exact ⟨(encT w).2.toNat, by omega, by omega⟩
theorem enc_small {w : Tx} (hv : VT w) (hd : DT w) : 0 ≤ (encT w).2 ∧ (encT w).2 ≤ 999 := by
 cases h : variableB w with
 | true => have := enc_rng hv h; omega
 | false => obtain ⟨-, e1, e2⟩ := dt_rng hd h; omega
theorem prd_lt {N : List Tx} {a : RAtom} (h : a.pred ∈ N) : prdI N a < 2 * N.length := by
 have := List.idxOf_lt_length_of_mem h
 unfold prdI
 split <;> omega
theorem enc_mem {ts : List Tx} {v : Int} (h : (true, v) ∈ ts.map encT) : ∃ w ∈ ts, variableB w = true ∧ (encT w).2 = v := by
 obtain ⟨w, hw, e⟩ := List.mem_map.1 h
 refine ⟨w, hw, ?_, by rw [e]⟩
 rw [← enc_fst, e]
theorem rw_of {N : List Tx} {ar : Tx → Nat} {y : RItem} (h : RuI N ar y) (h5 : y.body.length ≤ 5) : RW (2 * N.length) (arN N ar) (afP N y) := by
 have hb : ∀ l ∈ (afP N y).body, ∃ b ∈ y.body, l = affL (N.length : Int) (litP N b) := fun l hl => by
  rw [afP_body] at hl
  obtain ⟨b, hb, rfl⟩ := List.mem_map.1 hl
  exact ⟨b, hb, rfl⟩
 have hpd : prdI N y.head = N.idxOf y.head.pred := by unfold prdI; rw [h.hnt]; simp
 have hhp : (afP N y).head.p = ((prdI N y.head : Nat) : Int) := by rw [hpd]; rfl
 have hht : (afP N y).head.ts = y.head.terms.map encT := rfl
 refine ⟨⟨by rw [hht, List.length_map]; exact h.head.le3, ⟨_, hhp, prd_lt h.head.mem⟩, by rw [afP_body, List.length_map]; omega, fun l hl => ?_, fun l hl => ?_⟩, fun l hl => ?_, ?_, fun l hl => ?_, fun t ht hc => ?_, fun v hv => ?_, fun l hl v hv => ?_, fun v hv => ?_⟩
 ·obtain ⟨b, hbm, rfl⟩ := hb l hl
  rw [aff_ts, List.length_map]; exact (h.body b hbm).le3
 ·obtain ⟨b, hbm, rfl⟩ := hb l hl
  exact ⟨_, aff_p N b, prd_lt (h.body b hbm).mem⟩
 ·obtain ⟨b, hbm, rfl⟩ := hb l hl
  unfold affL
  split
  ·rfl
  ·rename_i hn; simpa using hn
 ·rw [hht, List.length_map, hhp, Int.toNat_natCast, arN_eq h.head.mem]; exact h.head.len
 ·obtain ⟨b, hbm, rfl⟩ := hb l hl
  rw [aff_ts, List.length_map, aff_p, Int.toNat_natCast, arN_eq (h.body b hbm).mem]; exact (h.body b hbm).len
 ·rw [hht] at ht
  obtain ⟨w, hw, rfl⟩ := List.mem_map.1 ht
  exact enc_num (h.vt w hw).1 (h.vt w hw).2 hc
 ·rw [hht] at hv
  obtain ⟨w, hw, hvw, rfl⟩ := enc_mem hv
  exact enc_rng (h.vt w hw).1 hvw
 ·obtain ⟨b, hbm, rfl⟩ := hb l hl
  rw [aff_ts] at hv
  obtain ⟨w, hw, hvw, rfl⟩ := enc_mem hv
  exact enc_rng (h.vb b hbm w hw).1 hvw
 ·rw [hasV_iff, hht] at hv
  obtain ⟨w, hw, hvw, rfl⟩ := enc_mem hv
  obtain ⟨b, hbm, hwb⟩ := h.safe w hw hvw
  refine ⟨affL (N.length : Int) (litP N b), by rw [afP_body]; exact List.mem_map.2 ⟨b, hbm, rfl⟩, ?_⟩
  rw [hasV_iff, aff_ts]
  refine List.mem_map.2 ⟨w, hwb, ?_⟩
  rw [← hvw, ← enc_fst]
theorem sml_of {ts : List Tx} (h : ∀ t ∈ ts, VT t ∧ DT t) : Sml (ts.map encT) := fun t ht => by
 obtain ⟨w, hw, rfl⟩ := List.mem_map.1 ht
 have := enc_small (h w hw).1 (h w hw).2
 omega
theorem bki_of {t : Tx} {N : List Tx} {l : List RItem} {cs : List AV} {ar : Tx → Nat} (h : Right t N l cs) (hA : ArOf l ar) : BkI N l (arN N ar) := by
 have h5 : ∀ y ∈ l, y.body.length ≤ 5 := fun y hy => by
  have hw := h.wit y hy
  cases ho : y.out with
  | true => rw [(hw.2.1 ho).2.2]; simp
  | false => exact (hw.2.2 ho).2.2.1
 refine ⟨h5, fun y hy ho => rw_of (ru_of h hA hy ho) (h5 y hy), fun y hy ho => ?_, fun y hy ho a ha => ?_⟩
 ·have hr := ru_of h hA hy ho
  refine ⟨sml_of hr.vt, fun k hk => ?_⟩
  rw [afP_body] at hk
  obtain ⟨b, hb, rfl⟩ := List.mem_map.1 hk
  rw [aff_ts]
  exact sml_of (hr.vb b hb)
 ·have hr := ru_of h hA hy ho
  unfold fctP at ha
  rw [afP_body, List.map_map] at ha
  obtain ⟨b, hb, rfl⟩ := List.mem_map.1 ha
  have e := eA_frz (N := N) (b := b) fun t ht => (hr.vb b hb t ht).1
  have hg := ga_frz (hr.body b hb) (hr.vb b hb)
  unfold eA at e
  simp only [Prod.mk.injEq] at e
  have e1 : (frzA (affL (N.length : Int) (litP N b)).a).p.toNat = prdI N b := by
   show (affL (N.length : Int) (litP N b)).a.p.toNat = _
   rw [aff_p, Int.toNat_natCast]
  show Sh _ (frzA (affL (N.length : Int) (litP N b)).a).p.toNat (tupA (frzA (affL (N.length : Int) (litP N b)).a))
  rw [e1, ← e.2]
  refine ⟨_, rfl, ?_, fun z hz => ?_⟩
  ·rw [List.length_map, arN_eq (hr.body b hb).mem]; exact hg.len
  ·obtain ⟨u, hu, rfl⟩ := List.mem_map.1 hz
   exact encG_rng (hg.gt u hu)
/- A program's text, cut and read as a plain text: pieces, atoms, terms; the text of a well made program. -/
def Wd (b : UInt8) : Prop := smallB b.toNat = true ∨ largeB b.toNat = true ∨ digitB b.toNat = true
theorem wd_ne {b : UInt8} (h : Wd b) : b ∉ [33, 40, 41, 44, 45, 46, 58, 63] := fun hm => by
 simp only [List.mem_cons, List.not_mem_nil, or_false] at hm
 rcases hm with rfl | rfl | rfl | rfl | rfl | rfl | rfl | rfl <;> revert h <;> unfold Wd <;> decide
theorem term_wd {t : Tx} (h : WTerm t) {b : UInt8} (hb : b ∈ t) : Wd b := .inr (h.2 b hb)
theorem name_wd {t : Tx} (h : WName t) {b : UInt8} (hb : b ∈ t) : Wd b := .inl (h.2 b hb)
theorem uMore_byte {ts : List Tx} {b : UInt8} (h : b ∈ uMore ts) : b = 44 ∨ ∃ t ∈ ts, b ∈ t := by
 unfold uMore at h
 obtain ⟨t, ht, hb⟩ := List.mem_flatMap.1 h
 rcases List.mem_cons.1 hb with rfl | hb
 ·exact .inl rfl
 ·exact .inr ⟨t, ht, hb⟩
theorem uList_byte {ts : List Tx} {b : UInt8} (h : b ∈ uList ts) : b = 44 ∨ ∃ t ∈ ts, b ∈ t := by
 cases ts with
 | nil => cases h
 | cons t ts =>
  rcases List.mem_append.1 h with h | h
  ·exact .inr ⟨t, by simp, h⟩
  ·rcases uMore_byte h with h | ⟨u, hu, hb⟩
   ·exact .inl h
   ·exact .inr ⟨u, by simp [hu], hb⟩
theorem uAtom_mem {a : RAtom} (h : WAtom a) {b : UInt8} (hb : b ∈ uAtom a) : Wd b ∨ b = 40 ∨ b = 41 ∨ b = 44 := by
 unfold uAtom at hb
 rcases List.mem_append.1 hb with hb | hb
 ·exact .inl (name_wd h.1 hb)
 ·rcases List.mem_cons.1 hb with rfl | hb
  ·exact .inr (.inl rfl)
  ·rcases List.mem_append.1 hb with hb | hb
   ·rcases uList_byte hb with rfl | ⟨t, ht, hb⟩
    ·exact .inr (.inr (.inr rfl))
    ·exact .inl (term_wd (h.2.2.2 t ht) hb)
   ·simp at hb; exact .inr (.inr (.inl hb))
theorem uLit_mem {a : RAtom} (h : WAtom a) {b : UInt8} (hb : b ∈ uLit a) : Wd b ∨ b = 33 ∨ b = 40 ∨ b = 41 ∨ b = 44 := by
 unfold uLit at hb
 rcases List.mem_append.1 hb with hb | hb
 ·split at hb
  ·simp at hb; exact .inr (.inl hb)
  ·cases hb
 ·rcases uAtom_mem h hb with h | h
  ·exact .inl h
  ·exact .inr (.inr h)
theorem uItem_mem {x : RItem} (h : WItem x) {b : UInt8} (hb : b ∈ uItem x) : Wd b ∨ b ∈ [33, 40, 41, 44, 45, 58, 63] := by
 unfold uItem at hb
 split at hb
 ·rcases List.mem_cons.1 hb with rfl | hb
  ·exact .inr (by decide)
  ·exact .inl (name_wd h.1 hb)
 ·rename_i ho
  obtain ⟨h1, h2, h3, h4⟩ := h.2.2 (by simpa using ho)
  unfold uRule at hb
  rcases List.mem_append.1 hb with hb | hb
  ·rcases uAtom_mem h1 hb with h | rfl | rfl | rfl
   ·exact .inl h
   all_goals exact .inr (by decide)
  ·split at hb
   ·cases hb
   ·rcases List.mem_cons.1 hb with rfl | hb
    ·exact .inr (by decide)
    ·rcases List.mem_cons.1 hb with rfl | hb
     ·exact .inr (by decide)
     ·rcases uList_byte hb with rfl | ⟨t, ht, hb⟩
      ·exact .inr (by decide)
      ·obtain ⟨a, ha, rfl⟩ := List.mem_map.1 ht
       rcases uLit_mem (h4 a ha) hb with h | rfl | rfl | rfl | rfl
       ·exact .inl h
       all_goals exact .inr (by decide)
theorem uItem_dot {x : RItem} (h : WItem x) : 46 ∉ uItem x := fun hb => by
 rcases uItem_mem h hb with h | h
 ·exact wd_ne h (by decide)
 ·revert h; decide
/-! ### Pieces -/
def pcF (x : List Tx × Tx) (c : UInt8) : List Tx × Tx := if c = 46 then (x.1 ++ [x.2 ++ [c]], []) else (x.1, x.2 ++ [c])
def pcsL (t : Tx) : List Tx := if (t.foldl pcF ([], [])).2 = [] then (t.foldl pcF ([], [])).1 else (t.foldl pcF ([], [])).1 ++ [(t.foldl pcF ([], [])).2]
theorem pc_run : ∀ (t : Tx) (d : List Tx) (u : Tx), 46 ∉ t → t.foldl pcF (d, u) = (d, u ++ t)
 | [], d, u, _ => by simp
 | c :: t, d, u, h => by
  have hc : c ≠ 46 := fun e => h (by simp [e])
  have ht : 46 ∉ t := fun e => h (by simp [e])
  rw [List.foldl_cons, pcF, if_neg hc, pc_run t _ _ ht]
  simp
theorem pc_items : ∀ (l : List RItem) (d : List Tx), (∀ x ∈ l, 46 ∉ uItem x) → (uItems l).foldl pcF (d, []) = (d ++ l.map (fun x => uItem x ++ [46]), [])
 | [], d, _ => by simp [uItems]
 | x :: l, d, h => by
  have h1 := h x (by simp)
  have e : uItems (x :: l) = uItem x ++ 46 :: uItems l := by simp [uItems]
  rw [e, List.foldl_append, pc_run _ _ _ h1, List.foldl_cons]
  have e2 : pcF (d, [] ++ uItem x) 46 = (d ++ [uItem x ++ [46]], []) := by simp [pcF]
  rw [e2, pc_items l _ fun y hy => h y (by simp [hy])]
  simp
theorem pcs_items {l : List RItem} (h : ∀ x ∈ l, WItem x) : pcsL (uItems l) = l.map fun x => uItem x ++ [46] := by
 unfold pcsL
 rw [pc_items l [] fun x hx => uItem_dot (h x hx)]
 simp
/-! ### The terms of an atom -/
/-! ### The atoms of a rule -/
/-! ### The number of variables, and what is put for them -/
/- Plain texts, walked: pieces, among, count, atoms. -/
theorem byte_is {b c : UInt8} : ((b.toNat : Int) == (c.toNat : Int)) = decide (b = c) := by
 by_cases h : b = c
 ·subst h; simp
 ·rw [decide_eq_false h]
  have : b.toNat ≠ c.toNat := fun e => h (UInt8.toNat_inj.1 e)
  simpa using (by omega : ¬ (b.toNat : Int) = c.toNat)
theorem fold_take {α : Type} {f : α → UInt8 → α} {a : α} {t : Tx} {i : Nat} {c : UInt8} (h : t[i]? = some c) : (t.take (i + 1)).foldl f a = f ((t.take i).foldl f a) c := by
 rw [List.take_add_one, h, Option.toList_some, List.foldl_append]; rfl
theorem cur_step {t : Tx} {f i : Nat} {c : UInt8} (hf : f ≤ i) (h : t[i]? = some c) : (t.drop f).take (i + 1 - f) = (t.drop f).take (i - f) ++ [c] := by
 rw [show i + 1 - f = (i - f) + 1 by omega, List.take_add_one, List.getElem?_drop, show f + (i - f) = i by omega, h]
 rfl
theorem cur_nil (t : Tx) (i : Nat) : (t.drop i).take (i - i) = [] := by simp
set_option maxHeartbeats 8000000 in
theorem kpieces_spec (t : Tx) (ht : t.length ≤ 100000) (σ : St) : ACalls Tryz.prog 22 [str t] σ fun r σ' => (∃ id, r = sl id (pcsL t).length ((pcsL t).map str)) ∧ Keep σ σ' := by
 refine acalls 37 [.tmp 2] Tryz.func22 rfl (by decide) rfl rfl (Nat.le_of_ble_eq_true rfl) ?_
 repeat' (first
 |with_reducible first|apply Xa|apply Xb|(refine Xc ?_;intro κ hκ)|(apply hκ.out;clear hκ κ)|apply Xd|apply Xe|apply Xf
 |((with_reducible first|refine Xl ?_ ?_|refine Xk ?_ ?_)<;> intro h hari<;> try exact Xp)
 |((with_reducible refine aapp_go ?_);refine Xt ?_;intro idn σn hOn hKn eobj enobj ever entop)
 |((with_reducible refine aappn_go ?_);refine Xu ?_)
 |refine Xr ?_
 |exact True.intro
 |(apply hκ.out;clear hκ κ))
 refine awp_loop (fun m s σ' => ∃ (i f id : Nat) (d : List Tx), m = t.length - i ∧ i ≤ t.length ∧ f ≤ i ∧ s 0 = str t ∧ s 3 = sl id d.length (d.map str) ∧ s 4 = sc (.int .i64 f) ∧ s 5 = sc (.int .i64 i) ∧ Keep σ σ' ∧ Own σ σ' id d.length ∧ d.length ≤ i ∧ Abs.Hid ((t.take i).foldl pcF ([], []) = (d, (t.drop f).take (i - f)))) t.length
  ⟨0, 0, 1, [], by omega, by omega, by omega, rfl, rfl, rfl, rfl, Keep.refl _, Own.nil _ _, by simp, by simp [Abs.Hid]⟩ ?_
 rintro m s σ' ⟨i, f, id, d, rfl, hi, hf, h0, h3, h4, h5, hK, hO, hdl, hF⟩
 by_cases hlt : i < t.length
 ·have hget := List.getElem?_eq_getElem hlt
  generalize t[i] = c at hget
  by_cases hc : c = 46
  ·have hb : ((c.toNat : Int) == 46) = true := by rw [hc]; rfl
   have HF : Abs.Hid ((t.take (i + 1)).foldl pcF ([], []) = (d ++ [(t.drop f).take (i + 1 - f)], (t.drop (i + 1)).take (i + 1 - (i + 1)))) := by
    rw [Abs.Hid, fold_take hget, hF.out, cur_step hf hget, cur_nil, hc]; rfl
   clear hF hc
   repeat' (first
 |with_reducible first|apply Xa|apply Xb|(refine Xc ?_;intro κ hκ)|(apply hκ.out;clear hκ κ)|apply Xd|apply Xe|apply Xf
 |((with_reducible first|refine Xl ?_ ?_|refine Xk ?_ ?_)<;> intro h hari<;> try exact Xp)
 |((with_reducible refine aapp_go ?_);refine Xt ?_;intro idn σn hOn hKn eobj enobj ever entop)
 |((with_reducible refine aappn_go ?_);refine Xu ?_)
 |refine Xr ?_
 |exact True.intro
 |(apply hκ.out;clear hκ κ))
   refine ⟨t.length - (i + 1), by omega, i + 1, i + 1, idn, d ++ [(t.drop f).take (i + 1 - f)], ?_⟩
   ((repeat' with_reducible refine And.intro ?_ ?_)<;> first|exact Xq|exact (HF)|exact ((by simpa using hOn))|exact Xs)
  ·have hb : ((c.toNat : Int) == 46) = false := by rw [show (46 : Int) = ((46 : UInt8).toNat : Int) from rfl, byte_is]; simpa using hc
   have HF : Abs.Hid ((t.take (i + 1)).foldl pcF ([], []) = (d, (t.drop f).take (i + 1 - f))) := by
    rw [Abs.Hid, fold_take hget, hF.out, cur_step hf hget, pcF, if_neg hc]
   clear hF hc
   repeat' (first
 |with_reducible first|apply Xa|apply Xb|(refine Xc ?_;intro κ hκ)|(apply hκ.out;clear hκ κ)|apply Xd|apply Xe|apply Xf
 |((with_reducible first|refine Xl ?_ ?_|refine Xk ?_ ?_)<;> intro h hari<;> try exact Xp)
 |((with_reducible refine aapp_go ?_);refine Xt ?_;intro idn σn hOn hKn eobj enobj ever entop)
 |((with_reducible refine aappn_go ?_);refine Xu ?_)
 |refine Xr ?_
 |exact True.intro
 |(apply hκ.out;clear hκ κ))
   refine ⟨t.length - (i + 1), by omega, i + 1, f, id, d, ?_⟩
   ((repeat' with_reducible refine And.intro ?_ ?_)<;> first|exact Xq|exact (HF)|exact Xs)
 ·have hil : i = t.length := by omega
  subst hil
  have hF' := hF.out
  rw [List.take_length, List.take_of_length_le (by simp)] at hF'
  by_cases hfe : f < t.length
  ·have HP : Abs.Hid (pcsL t = d ++ [t.drop f]) := by
    rw [Abs.Hid, pcsL, hF', if_neg (by intro e; have := congrArg List.length e; simp at this; omega)]
   clear hF hF'
   repeat' (first
 |with_reducible first|apply Xa|apply Xb|(refine Xc ?_;intro κ hκ)|(apply hκ.out;clear hκ κ)|apply Xd|apply Xe|apply Xf
 |((with_reducible first|refine Xl ?_ ?_|refine Xk ?_ ?_)<;> intro h hari<;> try exact Xp)
 |((with_reducible refine aapp_go ?_);refine Xt ?_;intro idn σn hOn hKn eobj enobj ever entop)
 |((with_reducible refine aappn_go ?_);refine Xu ?_)
 |refine Xr ?_
 |exact True.intro
 |(apply hκ.out;clear hκ κ))
   first | refine ⟨_, rfl, ⟨idn, ?_⟩, hKn⟩ | refine ⟨_, rfl, idn, ?_⟩
   rw [HP.out]
   simp
   try rw [List.take_of_length_le (by simp)]
  ·have HP : Abs.Hid (pcsL t = d) := by
    rw [Abs.Hid, pcsL, hF', if_pos (by apply List.eq_nil_of_length_eq_zero; simp; omega)]
   clear hF hF'
   repeat' (first
 |with_reducible first|apply Xa|apply Xb|(refine Xc ?_;intro κ hκ)|(apply hκ.out;clear hκ κ)|apply Xd|apply Xe|apply Xf
 |((with_reducible first|refine Xl ?_ ?_|refine Xk ?_ ?_)<;> intro h hari<;> try exact Xp)
 |((with_reducible refine aapp_go ?_);refine Xt ?_;intro idn σn hOn hKn eobj enobj ever entop)
 |((with_reducible refine aappn_go ?_);refine Xu ?_)
 |refine Xr ?_
 |exact True.intro
 |(apply hκ.out;clear hκ κ))
   first | exact ⟨_, rfl, ⟨id, by rw [HP.out]⟩, hK⟩ | exact ⟨_, rfl, id, by rw [HP.out]⟩
set_option maxHeartbeats 4000000 in
theorem kcount_spec (t : Tx) (c : UInt8) (ht : t.length ≤ 100000) (σ : St) : ACalls Tryz.prog 34 [str t, sc (.int .u8 c.toNat)] σ fun r σ' => r = sc (.int .i64 (t.count c : Nat)) ∧ σ' = σ := by
 refine acalls 21 [.tmp 4] Tryz.func34 rfl (by decide) rfl rfl (Nat.le_of_ble_eq_true rfl) ?_
 repeat' (first
 |with_reducible first|apply Xa|apply Xb|(refine Xc ?_;intro κ hκ)|(apply hκ.out;clear hκ κ)|apply Xd|apply Xe|apply Xf
 |((with_reducible first|refine Xl ?_ ?_|refine Xk ?_ ?_)<;> intro h hari<;> try exact Xp)
 |refine Xr ?_
 |exact True.intro
 |(apply hκ.out;clear hκ κ))
 refine awp_loop (fun m s σ' => ∃ i n : Nat, m = t.length - i ∧ i ≤ t.length ∧ n ≤ i ∧ s 0 = str t ∧ s 1 = sc (.int .u8 c.toNat) ∧ s 5 = sc (.int .i64 n) ∧ s 6 = sc (.int .i64 i) ∧ σ' = σ ∧ Abs.Hid ((t.take i).count c = n)) t.length
  ⟨0, 0, by omega, by omega, by omega, rfl, rfl, rfl, rfl, rfl, by simp [Abs.Hid]⟩ ?_
 rintro m s σ' ⟨i, n, rfl, hi, hn, h0, h1, h5, h6, hσ, hC⟩
 by_cases hlt : i < t.length
 ·have hget := List.getElem?_eq_getElem hlt
  generalize t[i] = b at hget
  have hstep : (t.take (i + 1)).count c = (t.take i).count c + if b = c then 1 else 0 := by
   rw [List.take_add_one, hget, Option.toList_some, List.count_append, List.count_singleton]
   simp
  by_cases hc : b = c
  ·have hb : ((b.toNat : Int) == (c.toNat : Int)) = true := by rw [hc]; simp
   have HC : Abs.Hid ((t.take (i + 1)).count c = n + 1) := by rw [Abs.Hid, hstep, if_pos hc, hC.out]
   clear hC hc hstep
   repeat' (first
 |with_reducible first|apply Xa|apply Xb|(refine Xc ?_;intro κ hκ)|(apply hκ.out;clear hκ κ)|apply Xd|apply Xe|apply Xf
 |((with_reducible first|refine Xl ?_ ?_|refine Xk ?_ ?_)<;> intro h hari<;> try exact Xp)
 |refine Xr ?_
 |exact True.intro
 |(apply hκ.out;clear hκ κ))
   refine ⟨t.length - (i + 1), by omega, i + 1, n + 1, ?_⟩
   ((repeat' with_reducible refine And.intro ?_ ?_)<;> first|exact Xq|exact (HC)|exact Xs)
  ·have hb : ((b.toNat : Int) == (c.toNat : Int)) = false := by rw [byte_is]; simpa using hc
   have HC : Abs.Hid ((t.take (i + 1)).count c = n) := by rw [Abs.Hid, hstep, if_neg hc, hC.out]; rfl
   clear hC hc hstep
   repeat' (first
 |with_reducible first|apply Xa|apply Xb|(refine Xc ?_;intro κ hκ)|(apply hκ.out;clear hκ κ)|apply Xd|apply Xe|apply Xf
 |((with_reducible first|refine Xl ?_ ?_|refine Xk ?_ ?_)<;> intro h hari<;> try exact Xp)
 |refine Xr ?_
 |exact True.intro
 |(apply hκ.out;clear hκ κ))
   refine ⟨t.length - (i + 1), by omega, i + 1, n, ?_⟩
   ((repeat' with_reducible refine And.intro ?_ ?_)<;> first|exact Xq|exact (HC)|exact Xs)
 ·have hil : i = t.length := by omega
  have HC : Abs.Hid (t.count c = n) := by
   rw [Abs.Hid]
   have := hC.out
   rw [hil, List.take_length] at this
   exact this
  clear hC
  repeat' (first
 |with_reducible first|apply Xa|apply Xb|(refine Xc ?_;intro κ hκ)|(apply hκ.out;clear hκ κ)|apply Xd|apply Xe|apply Xf
 |((with_reducible first|refine Xl ?_ ?_|refine Xk ?_ ?_)<;> intro h hari<;> try exact Xp)
 |refine Xr ?_
 |exact True.intro
 |(apply hκ.out;clear hκ κ))
  first | exact ⟨_, rfl, by rw [HC.out], by assumption⟩ | exact ⟨_, rfl, by rw [HC.out]⟩
end Go.Proofs.YtmoeoppbmhfbpaaGreatDoorQ
