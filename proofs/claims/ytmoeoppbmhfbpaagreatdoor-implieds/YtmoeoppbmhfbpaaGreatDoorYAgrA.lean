import Derived.Test.YtmoeoppbmhfbpaaGreatDoorYImpD
import Derived.Test.YtmoeoppbmhfbpaaGreatDoorYDocJ
import Derived.Test.YtmoeoppbmhfbpaaGreatDoorYCut
import Derived.Test.YtmoeoppbmhfbpaaGreatDoorYProgR
/- Both tell the same of an implied rule: how the document's tuples are the program's. -/
namespace Go.Proofs.YtmoeoppbmhfbpaaGreatDoorY
open Go.Abs
set_option linter.unusedSimpArgs false
set_option linter.unusedVariables false
/- lists without repeats -/
theorem nodupLe {α : Type} : ∀ {l m : List α}, l.Nodup → (∀ a ∈ l, a ∈ m) → l.length ≤ m.length
 | [], m, _, _ => by simp
 | a :: l, m, h, hs => by
  obtain ⟨s, t, rfl⟩ := List.append_of_mem (hs a (by simp))
  have hn := List.nodup_cons.1 h
  have := nodupLe (l := l) (m := s ++ t) hn.2 (fun b hb => by
   have := hs b (by simp [hb])
   rcases List.mem_append.1 this with h' | h'
   ·exact List.mem_append_left _ h'
   ·rcases List.mem_cons.1 h' with rfl | h'
    ·exact absurd hb hn.1
    ·exact List.mem_append_right _ h')
  simp only [List.length_cons, List.length_append] at this ⊢
  omega
theorem nodup_map {α β : Type} {f : α → β} : ∀ {l : List α}, l.Nodup → (∀ a ∈ l, ∀ b ∈ l, f a = f b → a = b) → (l.map f).Nodup
 | [], _, _ => List.nodup_nil
 | a :: l, h, hi => by
  have hn := List.nodup_cons.1 h
  rw [List.map_cons, List.nodup_cons]
  refine ⟨fun hm => ?_, nodup_map hn.2 fun b hb c hc => hi b (by simp [hb]) c (by simp [hc])⟩
  obtain ⟨b, hb, e⟩ := List.mem_map.1 hm
  have := hi b (by simp [hb]) a (by simp) e
  exact hn.1 (this ▸ hb)
def enumM : Nat → MM → List (Nat × Tup)
 | _, [] => []
 | k, x :: M => x.2.map (fun t => (k, t)) ++ enumM (k + 1) M
theorem enumM_len : ∀ (M : MM) (k : Nat), ((enumM k M).length : Int) = tot M
 | [], k => rfl
 | x :: M, k => by rw [enumM, tot_cons, ← enumM_len M (k + 1)]; simp
theorem enumM_mem : ∀ (M : MM) (k j : Nat) (t : Tup), (j, t) ∈ enumM k M ↔ k ≤ j ∧ MD M (j - k) t
 | [], k, j, t => by simp [enumM, MD, tupsOf]
 | x :: M, k, j, t => by
  rw [enumM, List.mem_append, enumM_mem M (k + 1) j t]
  unfold MD tupsOf
  simp only [Int.toNat_natCast]
  constructor
  ·rintro (h | ⟨h1, h2⟩)
   ·obtain ⟨u, hu, e⟩ := List.mem_map.1 h
    cases e
    simpa using hu
   ·refine ⟨by omega, ?_⟩
    rw [show j - k = (j - (k + 1)) + 1 by omega, List.getElem?_cons_succ]
    exact h2
  ·rintro ⟨h1, h2⟩
   by_cases e : j = k
   ·subst e
    left
    rw [Nat.sub_self, List.getElem?_cons_zero] at h2
    exact List.mem_map.2 ⟨t, by simpa using h2, rfl⟩
   ·right
    rw [show j - k = (j - (k + 1)) + 1 by omega, List.getElem?_cons_succ] at h2
    exact ⟨by omega, h2⟩
theorem enumM_nodup : ∀ (M : MM) (k : Nat), (∀ x ∈ M, x.2.Nodup) → (enumM k M).Nodup
 | [], k, _ => List.nodup_nil
 | x :: M, k, h => by
  rw [enumM, List.nodup_append]
  refine ⟨nodup_map (h x (by simp)) (fun a _ b _ e => by cases e; rfl), enumM_nodup M (k + 1) (fun y hy => h y (by simp [hy])), fun a ha b hb e => ?_⟩
  obtain ⟨t, -, rfl⟩ := List.mem_map.1 ha
  obtain ⟨j, u⟩ := b
  cases e
  have := ((enumM_mem M (k + 1) k t).1 hb).1
  omega
theorem tot_le {M : MM} {α : Type} {A : List α} {e : α → Nat × Tup} (hn : ∀ x ∈ M, x.2.Nodup) (h : ∀ k t, MD M k t → ∃ a ∈ A, e a = (k, t)) : tot M ≤ A.length := by
 have hc : ∀ p ∈ enumM 0 M, ∃ a ∈ A, e a = p := fun p hp => by
  obtain ⟨k, t⟩ := p
  exact h k t ((enumM_mem M 0 k t).1 hp).2
 have hg : ∃ g : Nat × Tup → Option α, ∀ p ∈ enumM 0 M, ∃ a ∈ A, g p = some a ∧ e a = p := by
  refine ⟨fun p => Classical.epsilon fun o => ∃ a ∈ A, o = some a ∧ e a = p, fun p hp => ?_⟩
  obtain ⟨a, ha, he⟩ := hc p hp
  have := Classical.epsilon_spec (p := fun o => ∃ a ∈ A, o = some a ∧ e a = p) ⟨some a, a, ha, rfl, he⟩
  exact this
 obtain ⟨g, hg⟩ := hg
 have h1 : ((enumM 0 M).map g).Nodup := nodup_map (enumM_nodup M 0 hn) (fun p hp q hq hpq => by
  obtain ⟨a, -, h1, h2⟩ := hg p hp
  obtain ⟨b, -, h3, h4⟩ := hg q hq
  rw [h1, h3] at hpq
  cases hpq
  exact h2.symm.trans h4)
 have h2 := nodupLe (m := A.map some) h1 (fun o ho => by
  obtain ⟨p, hp, rfl⟩ := List.mem_map.1 ho
  obtain ⟨a, ha, h1, -⟩ := hg p hp
  rw [h1]; exact List.mem_map.2 ⟨a, ha, rfl⟩)
 rw [List.length_map, List.length_map] at h2
 rw [← enumM_len M 0]
 omega
theorem le_tot {M : MM} {P : List (Nat × Tup)} (hn : P.Nodup) (h : ∀ p ∈ P, MD M p.1 p.2) : (P.length : Int) ≤ tot M := by
 have := nodupLe (m := enumM 0 M) hn (fun p hp => by
  obtain ⟨k, t⟩ := p
  exact (enumM_mem M 0 k t).2 ⟨by omega, h _ hp⟩)
 rw [← enumM_len M 0]
 omega
theorem tupOf_inj {l m : List Int} (hl : l.length = m.length) (h3 : l.length ≤ 3) (h : tupOf l = tupOf m) : l = m := by
 refine List.ext_getElem? fun i => ?_
 by_cases hi : i < l.length
 ·unfold tupOf at h
  simp only [List.cons.injEq, and_true] at h
  obtain ⟨e0, e1, e2⟩ := h
  have h1 := List.getElem?_eq_getElem hi
  have h2 := List.getElem?_eq_getElem (l := m) (i := i) (by omega)
  have : i = 0 ∨ i = 1 ∨ i = 2 := by omega
  rcases this with rfl | rfl | rfl
  ·rw [h1, h2] at e0; rw [h1, h2]; exact congrArg some e0
  ·rw [h1, h2] at e1; rw [h1, h2]; exact congrArg some e1
  ·rw [h1, h2] at e2; rw [h1, h2]; exact congrArg some e2
 ·rw [List.getElem?_eq_none (by omega), List.getElem?_eq_none (by omega)]
/- Both tell the same of an implied rule. -/
def encG : Tx → Int
 | [] => 0
 | b :: r => if b = 35 then 1000 + (encT r).2 else (encT (b :: r)).2
theorem encG_cons (b : UInt8) (r : Tx) : encG (b :: r) = if b = 35 then 1000 + (encT r).2 else (encT (b :: r)).2 := rfl
theorem encG_sharp (v : Tx) : encG (35 :: v) = 1000 + (encT v).2 := by rw [encG_cons, if_pos rfl]
def GT (t : Tx) : Prop := (variableB t = false ∧ VT t ∧ DT t) ∨ ∃ v, t = 35 :: v ∧ variableB v = true ∧ VT v
theorem vt_var {v : Tx} (h : VT v) (hv : variableB v = true) : ∃ b, v = [b] ∧ largeB b.toNat = true := by
 rcases h with h | ⟨h1, h2⟩
 ·exact h
 ·exfalso
  cases v with
  | nil => exact h1 rfl
  | cons b r =>
   have hd := h2 b (by simp)
   have hl : largeB b.toNat = true := hv
   unfold digitB at hd
   unfold largeB at hl
   simp at hd hl
   omega
theorem vt_num {v : Tx} (h : VT v) (hv : variableB v = false) : v ≠ [] ∧ ∀ b ∈ v, digitB b.toNat = true := by
 rcases h with ⟨b, rfl, h⟩ | h
 ·have : variableB [b] = largeB b.toNat := rfl
  rw [this, h] at hv; cases hv
 ·exact h
theorem encG_num {t : Tx} (h : VT t) (hv : variableB t = false) : encG t = (encT t).2 := by
 obtain ⟨h1, h2⟩ := vt_num h hv
 cases t with
 | nil => exact absurd rfl h1
 | cons b r =>
  rw [encG_cons, if_neg]
  rintro rfl
  have := h2 35 (by simp)
  revert this; decide
theorem enc_rng {v : Tx} (h : VT v) (hv : variableB v = true) : 0 ≤ (encT v).2 ∧ (encT v).2 < 26 := by
 obtain ⟨b, rfl, hl⟩ := vt_var h hv
 rw [encT_large hl]
 unfold largeB at hl
 simp at hl
 simp only
 omega
theorem dt_rng {t : Tx} (h : DT t) (hv : variableB t = false) : Lib.itoa (encT t).2 = t ∧ 0 ≤ (encT t).2 ∧ (encT t).2 ≤ 999 := by
 rcases h with h | ⟨-, h⟩
 ·rw [h] at hv; cases hv
 ·exact h
theorem encG_rng {t : Tx} (h : GT t) : ∃ n : Nat, encG t = (n : Int) ∧ n < 1026 := by
 rcases h with ⟨h1, h2, h3⟩ | ⟨v, rfl, h1, h2⟩
 ·rw [encG_num h2 h1]
  obtain ⟨-, e1, e2⟩ := dt_rng h3 h1
  exact ⟨(encT t).2.toNat, by omega, by omega⟩
 ·obtain ⟨e1, e2⟩ := enc_rng h2 h1
  refine ⟨(1000 + (encT v).2).toNat, ?_, by omega⟩
  rw [encG_sharp]
  omega
theorem encG_inj {t u : Tx} (ht : GT t) (hu : GT u) (h : encG t = encG u) : t = u := by
 rcases ht with ⟨h1, h2, h3⟩ | ⟨v, rfl, h1, h2⟩
 ·rcases hu with ⟨g1, g2, g3⟩ | ⟨w, rfl, g1, g2⟩
  ·rw [encG_num h2 h1, encG_num g2 g1] at h
   rw [← (dt_rng h3 h1).1, ← (dt_rng g3 g1).1, h]
  ·exfalso
   rw [encG_num h2 h1] at h
   have := (dt_rng h3 h1).2.2
   have := (enc_rng g2 g1).1
   rw [encG_sharp] at h
   omega
 ·rcases hu with ⟨g1, g2, g3⟩ | ⟨w, rfl, g1, g2⟩
  ·exfalso
   rw [encG_num g2 g1] at h
   have := (dt_rng g3 g1).2.2
   have := (enc_rng h2 h1).1
   rw [encG_sharp] at h
   omega
  ·rw [encG_sharp, encG_sharp] at h
   rw [enc_inj h2 g2 h1 g1 (by omega)]
theorem encG_frz {t : Tx} (h : VT t) : encG (frzD t) = (frzT (encT t)).2 := by
 unfold frzD frzT
 rw [enc_fst]
 cases hv : variableB t with
 | true => rw [if_pos rfl, if_pos rfl, encG_sharp]
 | false => rw [if_neg (by simp), if_neg (by simp)]; exact encG_num h hv
theorem gt_frz {t : Tx} (h : VT t) (hd : DT t) : GT (frzD t) := by
 unfold frzD
 cases hv : variableB t with
 | true => rw [if_pos rfl]; exact .inr ⟨t, rfl, hv, h⟩
 | false => rw [if_neg (by simp)]; exact .inl ⟨hv, h, hd⟩
def prdI (N : List Tx) (a : RAtom) : Nat := N.idxOf a.pred + (if a.nt = true then N.length else 0)
def eA (N : List Tx) (a : RAtom) : Nat × Tup := (prdI N a, tupOf (a.terms.map encG))
structure AtI (N : List Tx) (ar : Tx → Nat) (a : RAtom) : Prop where
 mem : a.pred ∈ N
 len : a.terms.length = ar a.pred
 le3 : a.terms.length ≤ 3
structure GA (N : List Tx) (ar : Tx → Nat) (a : RAtom) : Prop extends AtI N ar a where
 gt : ∀ t ∈ a.terms, GT t
theorem prdI_inj {N : List Tx} {a b : RAtom} (ha : a.pred ∈ N) (hb : b.pred ∈ N) (h : prdI N a = prdI N b) : a.nt = b.nt ∧ a.pred = b.pred := by
 have h1 := List.idxOf_lt_length_of_mem ha
 have h2 := List.idxOf_lt_length_of_mem hb
 unfold prdI at h
 have hnt : a.nt = b.nt := by
  cases e1 : a.nt <;> cases e2 : b.nt <;> simp [e1, e2] at h ⊢ <;> omega
 rw [hnt] at h
 have hi : N.idxOf a.pred = N.idxOf b.pred := by omega
 refine ⟨hnt, ?_⟩
 have e1 := List.getElem_idxOf h1
 have e2 := List.getElem_idxOf h2
 rw [← e1, ← e2]
 congr 1
theorem map_inj_on {α β : Type} {f : α → β} : ∀ {l m : List α}, (∀ a ∈ l, ∀ b ∈ m, f a = f b → a = b) → l.map f = m.map f → l = m
 | [], [], _, _ => rfl
 | [], b :: m, _, h => by simp at h
 | a :: l, [], _, h => by simp at h
 | a :: l, b :: m, hi, h => by
  simp only [List.map_cons, List.cons.injEq] at h
  rw [hi a (by simp) b (by simp) h.1, map_inj_on (fun x hx y hy => hi x (by simp [hx]) y (by simp [hy])) h.2]
theorem eA_inj {N : List Tx} {ar : Tx → Nat} {a b : RAtom} (ha : GA N ar a) (hb : GA N ar b) (h : eA N a = eA N b) : a = b := by
 unfold eA at h
 simp only [Prod.mk.injEq] at h
 obtain ⟨h1, h2⟩ := prdI_inj ha.mem hb.mem h.1
 have hl : a.terms.length = b.terms.length := by rw [ha.len, hb.len, h2]
 have h3 := tupOf_inj (by simpa using hl) (by simpa using ha.le3) h.2
 exact RAtom.ext' h1 h2 (map_inj_on (fun x hx y hy e => encG_inj (ha.gt x hx) (hb.gt y hy) e) h3)
structure RuI (N : List Tx) (ar : Tx → Nat) (y : RItem) : Prop where
 head : AtI N ar y.head
 hnt : y.head.nt = false
 body : ∀ b ∈ y.body, AtI N ar b
 vt : ∀ t ∈ y.head.terms, VT t ∧ DT t
 vb : ∀ b ∈ y.body, ∀ t ∈ b.terms, VT t ∧ DT t
 safe : ∀ v ∈ y.head.terms, variableB v = true → ∃ b ∈ y.body, v ∈ b.terms
theorem afP_head (N : List Tx) (y : RItem) : (afP N y).head = atmP N y.head := rfl
theorem afP_body (N : List Tx) (y : RItem) : (afP N y).body = y.body.map fun b => affL N.length (litP N b) := by simp [afP, affR, rulP]
theorem aff_p (N : List Tx) (b : RAtom) : (affL (N.length : Int) (litP N b)).a.p = (prdI N b : Nat) := by
 unfold affL litP atmP prdI
 simp only
 cases h : b.nt with
 | true => simp
 | false => simp
theorem aff_ts (N : List Tx) (b : RAtom) : (affL (N.length : Int) (litP N b)).a.ts = b.terms.map encT := by
 unfold affL litP atmP
 simp only
 split <;> rfl
def letC (v : Int) : UInt8 := UInt8.ofNat (65 + v.toNat)
def nuOf (μ : Tx → Tx) : Nu := fun v => encG (μ [letC v])
theorem nuOf_var {μ : Tx → Tx} {v : Tx} (h : VT v) (hv : variableB v = true) : nuOf μ (encT v).2 = encG (μ v) := by
 obtain ⟨b, rfl, hl⟩ := vt_var h hv
 unfold nuOf letC
 rw [encT_large hl]
 have hb : 65 ≤ b.toNat := by unfold largeB at hl; simp at hl; omega
 have e : (65 + ((b.toNat : Int) - 65).toNat) = b.toNat := by omega
 simp only [e, UInt8.ofNat_toNat]
theorem val_mu {μ : Tx → Tx} {t : Tx} (h : VT t) : valN (nuOf μ) (encT t) = encG (tmM μ t) := by
 unfold valN
 rw [enc_fst]
 cases hv : variableB t with
 | true => rw [if_pos rfl, tmM_var hv, nuOf_var h hv]
 | false => rw [if_neg (by simp), tmM_gnd hv, encG_num h hv]
theorem sub_mu {μ : Tx → Tx} {ts : List Tx} {p : Int} (h : ∀ t ∈ ts, VT t) : esub ⟨p, ts.map encT⟩ (nuOf μ) = tupOf ((ts.map (tmM μ)).map encG) := by
 unfold esub
 simp only [List.map_map]
 congr 1
 exact List.map_congr_left fun t ht => val_mu (h t ht)
theorem esub_ts {a : Atm} {ν : Nu} : esub a ν = esub ⟨0, a.ts⟩ ν := rfl
structure SysI (N : List Tx) (ar : Tx → Nat) (Rd : List RItem) (x : RItem) : Prop where
 ru : ∀ y ∈ Rd, RuI N ar y
 x : RuI N ar x
theorem ga_frz {N : List Tx} {ar : Tx → Nat} {b : RAtom} (h : AtI N ar b) (ht : ∀ t ∈ b.terms, VT t ∧ DT t) : GA N ar (frzR b) :=
 ⟨⟨h.mem, by show (b.terms.map frzD).length = _; rw [List.length_map]; exact h.len, by show (b.terms.map frzD).length ≤ 3; rw [List.length_map]; exact h.le3⟩, fun t hm => by
  obtain ⟨u, hu, rfl⟩ := List.mem_map.1 hm
  exact gt_frz (ht u hu).1 (ht u hu).2⟩
theorem eA_frz {N : List Tx} {b : RAtom} (ht : ∀ t ∈ b.terms, VT t) : eA N (frzR b) = ((affL (N.length : Int) (litP N b)).a.p.toNat, tupA (frzA (affL (N.length : Int) (litP N b)).a)) := by
 unfold eA
 rw [aff_p, Int.toNat_natCast]
 refine Prod.ext rfl ?_
 show tupOf ((b.terms.map frzD).map encG) = tupOf (((affL (N.length : Int) (litP N b)).a.ts.map frzT).map (·.2))
 rw [aff_ts, List.map_map, List.map_map, List.map_map]
 congr 1
 exact List.map_congr_left fun t hm => encG_frz (ht t hm)
theorem sat_of {N : List Tx} {ar : Tx → Nat} {Rd : List RItem} {x : RItem} (h : SysI N ar Rd x) : Sat true Rd (x.body.map frzR) (fun a => GA N ar a ∧ LstF (Rd.map (afP N)) (fctP N x) (eA N a).1 (eA N a).2) := by
 refine ⟨fun a ha => ?_, fun A' hA' hg y hy hd hs => ?_⟩
 ·obtain ⟨b, hb, rfl⟩ := List.mem_map.1 ha
  refine ⟨ga_frz (h.x.body b hb) (h.x.vb b hb), ?_⟩
  rw [eA_frz fun t ht => (h.x.vb b hb t ht).1]
  have hf : frzA (affL (N.length : Int) (litP N b)).a ∈ fctP N x := by
   unfold fctP
   rw [afP_body, List.map_map]
   exact List.mem_map.2 ⟨b, hb, rfl⟩
  exact LstF.fact hf
 ·obtain ⟨μ, h1, -, rfl⟩ := hs
  have hr := h.ru y hy
  have hb : ∀ b ∈ y.body, GA N ar (atM μ b) ∧ LstF (Rd.map (afP N)) (fctP N x) (eA N (atM μ b)).1 (eA N (atM μ b)).2 := fun b hb => hA' _ (h1 b hb rfl)
  refine ⟨⟨⟨hr.head.mem, by show (y.head.terms.map _).length = _; rw [List.length_map]; exact hr.head.len, by show (y.head.terms.map _).length ≤ 3; rw [List.length_map]; exact hr.head.le3⟩, fun t ht => ?_⟩, ?_⟩
  ·obtain ⟨u, hu, rfl⟩ := List.mem_map.1 ht
   cases hv : variableB u with
   | false => rw [tmM_gnd hv]; exact .inl ⟨hv, (hr.vt u hu).1, (hr.vt u hu).2⟩
   | true =>
    obtain ⟨b, hbm, hub⟩ := hr.safe u hu hv
    exact (hb b hbm).1.gt _ (List.mem_map.2 ⟨u, hub, rfl⟩)
  ·have hc := LstF.cl (Rd.map (afP N)) (fctP N x) (afP N y) (List.mem_map.2 ⟨y, hy, rfl⟩) (nuOf μ) (fun l hl => by
    rw [afP_body] at hl
    obtain ⟨b, hbm, rfl⟩ := List.mem_map.1 hl
    have h2 := (hb b hbm).2
    rw [aff_p, Int.toNat_natCast, esub_ts, aff_ts, sub_mu fun t ht => (hr.vb b hbm t ht).1]
    exact h2)
   rw [afP_head, esub_ts] at hc
   have e1 : (atmP N y.head).ts = y.head.terms.map encT := rfl
   rw [e1, sub_mu fun t ht => (hr.vt t ht).1] at hc
   have e2 : (atmP N y.head).p.toNat = (eA N (atM μ y.head)).1 := by
    show (((N.idxOf y.head.pred : Nat) : Int)).toNat = prdI N (atM μ y.head)
    unfold prdI
    have : (atM μ y.head).nt = false := hr.hnt
    rw [this, Int.toNat_natCast]; rfl
   rw [e2] at hc
   exact hc
theorem cl_of {N : List Tx} {ar : Tx → Nat} {Rd : List RItem} {x : RItem} {A : List RAtom} (h : SysI N ar Rd x) (hA : ∀ a ∈ A, GA N ar a) (hc : ∀ y ∈ Rd, DoneX true A [] y) : ClD (Rd.map (afP N)) (fun k t => ∃ a ∈ A, eA N a = (k, t)) := by
 intro r hr ν hb
 obtain ⟨y, hy, rfl⟩ := List.mem_map.1 hr
 have hry := h.ru y hy
 have hb' : ∀ b ∈ y.body, ∃ a ∈ A, a.nt = b.nt ∧ a.pred = b.pred ∧ a.terms.map encG = b.terms.map fun t => valN ν (encT t) := fun b hbm => by
  obtain ⟨a, ha, e⟩ := hb (affL N.length (litP N b)) (by rw [afP_body]; exact List.mem_map.2 ⟨b, hbm, rfl⟩)
  rw [aff_p, Int.toNat_natCast, esub_ts, aff_ts] at e
  unfold eA at e
  simp only [Prod.mk.injEq] at e
  obtain ⟨e1, e2⟩ := e
  obtain ⟨g1, g2⟩ := prdI_inj (hA a ha).mem (hry.body b hbm).mem e1
  refine ⟨a, ha, g1, g2, ?_⟩
  unfold esub at e2
  simp only [List.map_map] at e2
  have := tupOf_inj (by simp only [List.length_map]; rw [(hA a ha).len, (hry.body b hbm).len, g2]) (by rw [List.length_map]; exact (hA a ha).le3) e2
  exact this
 let μ : Tx → Tx := fun v => Classical.epsilon fun u => GT u ∧ encG u = ν (encT v).2
 have hμ : ∀ v, (∃ u, GT u ∧ encG u = ν (encT v).2) → GT (μ v) ∧ encG (μ v) = ν (encT v).2 := fun v hv => Classical.epsilon_spec hv
 have hvar : ∀ b ∈ y.body, ∀ v ∈ b.terms, variableB v = true → GT (μ v) ∧ encG (μ v) = ν (encT v).2 := fun b hbm v hv hvv => by
  obtain ⟨a, ha, -, -, e⟩ := hb' b hbm
  obtain ⟨i, hi⟩ := List.getElem?_of_mem hv
  have h1 : (b.terms.map fun t => valN ν (encT t))[i]? = some (valN ν (encT v)) := by rw [List.getElem?_map, hi]; rfl
  rw [← e, List.getElem?_map] at h1
  cases hai : a.terms[i]? with
  | none => rw [hai] at h1; cases h1
  | some u =>
   rw [hai] at h1
   have h2 : encG u = valN ν (encT v) := Option.some.inj h1
   refine hμ v ⟨u, (hA a ha).gt u (List.mem_of_getElem? hai), ?_⟩
   rw [h2]
   unfold valN
   rw [enc_fst, hvv, if_pos rfl]
 have hval : ∀ t, VT t → DT t → (variableB t = true → GT (μ t) ∧ encG (μ t) = ν (encT t).2) → GT (tmM μ t) ∧ encG (tmM μ t) = valN ν (encT t) := fun t h1 h2 h3 => by
  unfold valN
  rw [enc_fst]
  cases hv : variableB t with
  | true => rw [if_pos rfl, tmM_var hv]; exact h3 hv
  | false => rw [if_neg (by simp), tmM_gnd hv]; exact ⟨.inl ⟨hv, h1, h2⟩, encG_num h1 hv⟩
 have hbody : ∀ b ∈ y.body, atM μ b ∈ A := fun b hbm => by
  obtain ⟨a, ha, e1, e2, e3⟩ := hb' b hbm
  have : atM μ b = a := by
   refine RAtom.ext' e1.symm e2.symm ?_
   have hg : ∀ t ∈ b.terms, GT (tmM μ t) ∧ encG (tmM μ t) = valN ν (encT t) := fun t ht => hval t (hry.vb b hbm t ht).1 (hry.vb b hbm t ht).2 (hvar b hbm t ht)
   refine map_inj_on (f := encG) (fun u hu w hw e => ?_) ?_
   ·obtain ⟨t, ht, rfl⟩ := List.mem_map.1 hu
    exact encG_inj (hg t ht).1 ((hA a ha).gt w hw) e
   ·show (b.terms.map (tmM μ)).map encG = a.terms.map encG
    rw [e3, List.map_map]
    exact List.map_congr_left fun t ht => (hg t ht).2
  rw [this]; exact ha
 have hd := hc y hy (atM μ y.head) ⟨μ, fun b hbm _ => hbody b hbm, fun b hbm hp => (by cases hp), rfl⟩
 have hm : atM μ y.head ∈ A := by
  rcases hd with h' | h'
  ·exact h'
  ·simp at h'
 refine ⟨atM μ y.head, hm, ?_⟩
 unfold eA
 refine Prod.ext ?_ ?_
 ·show prdI N (atM μ y.head) = (((N.idxOf y.head.pred : Nat) : Int)).toNat
  unfold prdI
  have : (atM μ y.head).nt = false := hry.hnt
  rw [this, Int.toNat_natCast]; rfl
 ·show tupOf ((y.head.terms.map (tmM μ)).map encG) = tupOf ((y.head.terms.map encT).map (valN ν))
  rw [List.map_map, List.map_map]
  congr 1
  refine List.map_congr_left fun t ht => ?_
  exact (hval t (hry.vt t ht).1 (hry.vt t ht).2 (fun hv => by
   obtain ⟨b, hbm, hub⟩ := hry.safe t ht hv
   exact hvar b hbm t hub hv)).2
theorem agree_imp {N : List Tx} {ar : Tx → Nat} {Rd : List RItem} {x : RItem} {b c : Bool} (h : SysI N ar Rd x)
  (hd : (∃ A, SetOk true Rd (x.body.map frzR) 200 A ∧ (c = true ↔ frzR x.head ∈ A)) ∨ (SetNo true Rd (x.body.map frzR) 200 ∧ c = false))
  (hp : PImp (Rd.map (afP N)) (fctP N x) (afP N x).head.p.toNat (tupA (frzA (afP N x).head)) b) : b = c := by
 have hhd : eA N (frzR x.head) = ((afP N x).head.p.toNat, tupA (frzA (afP N x).head)) := by
  have := eA_frz (N := N) (b := x.head) fun t ht => (h.x.vt t ht).1
  rw [this]
  have e : (affL (N.length : Int) (litP N x.head)).a = atmP N x.head := by
   unfold affL
   rw [if_neg (by show ¬ x.head.nt = true; rw [h.x.hnt]; simp)]; rfl
  rw [e]; rfl
 obtain ⟨M, hn, hsub, hif⟩ := hp
 rcases hd with ⟨A, hS, hb⟩ | ⟨hN, rfl⟩
 ·have hGA : ∀ a ∈ A, GA N ar a ∧ LstF (Rd.map (afP N)) (fctP N x) (eA N a).1 (eA N a).2 := hS.least _ (sat_of h)
  have hcl := cl_of h (fun a ha => (hGA a ha).1) hS.cl
  have hF : ∀ a ∈ fctP N x, ∃ a' ∈ A, eA N a' = (a.p.toNat, tupA a) := fun a ha => by
   unfold fctP at ha
   rw [afP_body, List.map_map] at ha
   obtain ⟨b', hb', rfl⟩ := List.mem_map.1 ha
   exact ⟨frzR b', hS.gv _ (List.mem_map.2 ⟨b', hb', rfl⟩), eA_frz fun t ht => (h.x.vb b' hb' t ht).1⟩
  have hL : ∀ k t, LstF (Rd.map (afP N)) (fctP N x) k t → ∃ a ∈ A, eA N a = (k, t) := fun k t hl => hl _ hcl hF
  have htot := tot_le hn (fun k t hm => hL k t (hsub k t hm))
  have hlen := hS.len
  rw [if_pos (by omega)] at hif
  obtain ⟨hi1, hi2⟩ := hif
  have : b = true ↔ c = true := by
   rw [hi2, hb]
   constructor
   ·intro hm
    obtain ⟨a, ha, e⟩ := hL _ _ (hsub _ _ hm)
    rw [← hhd] at e
    rw [← eA_inj (hGA a ha).1 (ga_frz h.x.head h.x.vt) e]; exact ha
   ·intro hm
    have := hi1 _ _ (hGA _ hm).2
    rw [hhd] at this
    exact this
  cases b <;> cases c <;> simp_all
 ·obtain ⟨L, h1, h2, h3⟩ := hN _ (sat_of h)
  by_cases ht : tot M ≤ 200
  ·exfalso
   rw [if_pos ht] at hif
   have := le_tot (M := M) (P := L.map (eA N)) (nodup_map h1 fun a ha b hb e => eA_inj (h3 a ha).1 (h3 b hb).1 e) (fun p hp => by
    obtain ⟨a, ha, rfl⟩ := List.mem_map.1 hp
    exact hif.1 _ _ (h3 a ha).2)
   rw [List.length_map] at this
   omega
  ·rw [if_neg ht] at hif
   exact hif
/- The program's Implied, of a text. -/
set_option maxRecDepth 100000
theorem right_len2 {t : Tx} (h : (refCheck t).1 = 0) : ∀ x ∈ itemsL t, ∀ y ∈ itemsL t, ∀ a ∈ atomsL x, ∀ b ∈ atomsL y, a.pred = b.pred → a.terms.length = b.terms.length := by
 have hodd : ∀ i, i < (itemsL t).length → oddP (itemsL t) i = false := by
  unfold refCheck at h
  split at h
  ·simp at h
  split at h
  ·simp at h
  unfold wrongM at h
  split at h
  ·simp at h
  ·rename_i hk; exact firstM_neg hk
 have key : ∀ (i j : Nat) (x y : RItem) (a b : RAtom), (itemsL t)[i]? = some x → (itemsL t)[j]? = some y → i < j → a ∈ atomsL x → b ∈ atomsL y → a.pred = b.pred → a.terms.length = b.terms.length := by
  intro i j x y a b hi hj hij ha hb he
  have h1 := hodd j (List.getElem?_eq_some_iff.1 hj).1
  unfold oddP at h1
  rw [hj] at h1
  simp only [List.any_eq_false, List.mem_range] at h1
  obtain ⟨k, hk⟩ := List.getElem?_of_mem hb
  have h2 := h1 k (List.getElem?_eq_some_iff.1 hk).1
  unfold oddAt at h2
  rw [hk] at h2
  simp only [List.any_eq_true, not_exists, not_and] at h2
  have h3 := h2 a (by
   unfold seenL priorL
   refine List.mem_append.2 (.inl (List.mem_flatMap.2 ⟨x, ?_, ha⟩))
   exact List.mem_of_getElem? (i := i) (by rw [List.getElem?_take, if_pos hij]; exact hi))
  unfold clash at h3
  simp [he] at h3
  exact h3
 intro x hx y hy a ha b hb he
 obtain ⟨i, hi⟩ := List.getElem?_of_mem hx
 obtain ⟨j, hj⟩ := List.getElem?_of_mem hy
 rcases Nat.lt_trichotomy i j with hlt | rfl | hgt
 ·exact key i j x y a b hi hj hlt ha hb he
 ·rw [hi] at hj; cases hj
  exact right_len h x hx a ha b hb he
 ·exact (key j i y x b a hj hi hgt hb ha he.symm).symm
def ArOf (l : List RItem) (ar : Tx → Nat) : Prop := ∀ x ∈ l, ∀ a ∈ atomsL x, a.terms.length = ar a.pred
theorem ar_ex {t : Tx} (h : (refCheck t).1 = 0) : ∃ ar, ArOf (itemsL t) ar := by
 refine ⟨fun p => Classical.epsilon fun n => ∃ x ∈ itemsL t, ∃ a ∈ atomsL x, a.pred = p ∧ a.terms.length = n, fun x hx a ha => ?_⟩
 have := Classical.epsilon_spec (p := fun n => ∃ x ∈ itemsL t, ∃ b ∈ atomsL x, b.pred = a.pred ∧ b.terms.length = n) ⟨_, x, hx, a, ha, rfl, rfl⟩
 obtain ⟨y, hy, b, hb, e1, e2⟩ := this
 rw [right_len2 h x hx y hy a ha b hb e1.symm]
 exact e2
theorem ru_of {t : Tx} {N : List Tx} {l : List RItem} {cs : List AV} {ar : Tx → Nat} (h : Right t N l cs) (hA : ArOf l ar) {x : RItem} (hx : x ∈ l) (ho : x.out = false) : RuI N ar x := by
 have hi := h.items
 have hxi : x ∈ itemsL t := by rw [hi]; exact hx
 have hf := right_fine h.ok x hxi
 have hwi := h.wi x hx
 have hw := hf.w.2.2 ho
 have hat : ∀ a, a = x.head ∨ a ∈ x.body → a ∈ atomsL x := fun a ha => by
  rcases ha with rfl | ha <;> simp [atomsL, ho, *]
 have hlen : ∀ a ∈ atomsL x, a.terms.length = ar a.pred := hA x hx
 refine ⟨⟨hwi.mem, hlen _ (hat _ (.inl rfl)), hw.1.2.2.1⟩, hw.2.1, fun b hb => ⟨(hwi.wa b hb).1, hlen _ (hat _ (.inr hb)), (hw.2.2.2 b hb).2.2.1⟩, fun w hm => ⟨hf.va _ (hat _ (.inl rfl)) w hm, hf.dt _ (hat _ (.inl rfl)) w hm⟩, fun b hb w hm => ⟨hf.va _ (hat _ (.inr hb)) w hm, hf.dt _ (hat _ (.inr hb)) w hm⟩, fun v hm hv => ?_⟩
 obtain ⟨c0, p, hH, -⟩ := hf.rule ho
 obtain ⟨a, ha, -, hva⟩ := hH.saf v hv (.inl hm)
 exact ⟨a, ha, hva⟩
def arN (N : List Tx) (ar : Tx → Nat) (k : Nat) : Nat := ar (N.getD (if k < N.length then k else k - N.length) [])
theorem arN_eq {N : List Tx} {ar : Tx → Nat} {a : RAtom} (h : a.pred ∈ N) : arN N ar (prdI N a) = ar a.pred := by
 have hl := List.idxOf_lt_length_of_mem h
 have e : N.getD (N.idxOf a.pred) [] = a.pred := by
  rw [List.getD_eq_getElem?_getD, List.getElem?_eq_getElem hl, Option.getD_some]
  exact List.getElem_idxOf hl
 unfold arN prdI
 cases hn : a.nt with
 | true =>
  simp only [if_true]
  rw [if_neg (by omega), Nat.add_sub_cancel, e]
 | false =>
  simp only [Bool.false_eq_true, if_false, Nat.add_zero]
  rw [if_pos hl, e]
theorem enc_num {w : Tx} (hv : VT w) (hd : DT w) (h : (encT w).1 = false) : ∃ n : Nat, (encT w).2 = (n : Int) ∧ n < 1026 := by
 rw [enc_fst] at h
 obtain ⟨-, e1, e2⟩ := dt_rng hd h
 exact ⟨(encT w).2.toNat, by omega, by omega⟩
theorem enc_small {w : Tx} (hv : VT w) (hd : DT w) : 0 ≤ (encT w).2 ∧ (encT w).2 ≤ 999 := by
 cases h : variableB w with
 | true => have := enc_rng hv h; omega
 | false => obtain ⟨-, e1, e2⟩ := dt_rng hd h; omega
theorem prd_lt {N : List Tx} {a : RAtom} (h : a.pred ∈ N) : prdI N a < 2 * N.length := by
 have := List.idxOf_lt_length_of_mem h
 unfold prdI
 split <;> omega
theorem enc_mem {ts : List Tx} {v : Int} (h : (true, v) ∈ ts.map encT) : ∃ w ∈ ts, variableB w = true ∧ (encT w).2 = v := by
 obtain ⟨w, hw, e⟩ := List.mem_map.1 h
 refine ⟨w, hw, ?_, by rw [e]⟩
 rw [← enc_fst, e]
theorem rw_of {N : List Tx} {ar : Tx → Nat} {y : RItem} (h : RuI N ar y) (h5 : y.body.length ≤ 5) : RW (2 * N.length) (arN N ar) (afP N y) := by
 have hb : ∀ l ∈ (afP N y).body, ∃ b ∈ y.body, l = affL (N.length : Int) (litP N b) := fun l hl => by
  rw [afP_body] at hl
  obtain ⟨b, hb, rfl⟩ := List.mem_map.1 hl
  exact ⟨b, hb, rfl⟩
 have hpd : prdI N y.head = N.idxOf y.head.pred := by unfold prdI; rw [h.hnt]; simp
 have hhp : (afP N y).head.p = ((prdI N y.head : Nat) : Int) := by rw [hpd]; rfl
 have hht : (afP N y).head.ts = y.head.terms.map encT := rfl
 refine ⟨⟨by rw [hht, List.length_map]; exact h.head.le3, ⟨_, hhp, prd_lt h.head.mem⟩, by rw [afP_body, List.length_map]; omega, fun l hl => ?_, fun l hl => ?_⟩, fun l hl => ?_, ?_, fun l hl => ?_, fun t ht hc => ?_, fun v hv => ?_, fun l hl v hv => ?_, fun v hv => ?_⟩
 ·obtain ⟨b, hbm, rfl⟩ := hb l hl
  rw [aff_ts, List.length_map]; exact (h.body b hbm).le3
 ·obtain ⟨b, hbm, rfl⟩ := hb l hl
  exact ⟨_, aff_p N b, prd_lt (h.body b hbm).mem⟩
 ·obtain ⟨b, hbm, rfl⟩ := hb l hl
  unfold affL
  split
  ·rfl
  ·rename_i hn; simpa using hn
 ·rw [hht, List.length_map, hhp, Int.toNat_natCast, arN_eq h.head.mem]; exact h.head.len
 ·obtain ⟨b, hbm, rfl⟩ := hb l hl
  rw [aff_ts, List.length_map, aff_p, Int.toNat_natCast, arN_eq (h.body b hbm).mem]; exact (h.body b hbm).len
 ·rw [hht] at ht
  obtain ⟨w, hw, rfl⟩ := List.mem_map.1 ht
  exact enc_num (h.vt w hw).1 (h.vt w hw).2 hc
 ·rw [hht] at hv
  obtain ⟨w, hw, hvw, rfl⟩ := enc_mem hv
  exact enc_rng (h.vt w hw).1 hvw
 ·obtain ⟨b, hbm, rfl⟩ := hb l hl
  rw [aff_ts] at hv
  obtain ⟨w, hw, hvw, rfl⟩ := enc_mem hv
  exact enc_rng (h.vb b hbm w hw).1 hvw
 ·rw [hasV_iff, hht] at hv
  obtain ⟨w, hw, hvw, rfl⟩ := enc_mem hv
  obtain ⟨b, hbm, hwb⟩ := h.safe w hw hvw
  refine ⟨affL (N.length : Int) (litP N b), by rw [afP_body]; exact List.mem_map.2 ⟨b, hbm, rfl⟩, ?_⟩
  rw [hasV_iff, aff_ts]
  refine List.mem_map.2 ⟨w, hwb, ?_⟩
  rw [← hvw, ← enc_fst]
theorem sml_of {ts : List Tx} (h : ∀ t ∈ ts, VT t ∧ DT t) : Sml (ts.map encT) := fun t ht => by
 obtain ⟨w, hw, rfl⟩ := List.mem_map.1 ht
 have := enc_small (h w hw).1 (h w hw).2
 omega
theorem bki_of {t : Tx} {N : List Tx} {l : List RItem} {cs : List AV} {ar : Tx → Nat} (h : Right t N l cs) (hA : ArOf l ar) : BkI N l (arN N ar) := by
 have h5 : ∀ y ∈ l, y.body.length ≤ 5 := fun y hy => by
  have hw := h.wit y hy
  cases ho : y.out with
  | true => rw [(hw.2.1 ho).2.2]; simp
  | false => exact (hw.2.2 ho).2.2.1
 refine ⟨h5, fun y hy ho => rw_of (ru_of h hA hy ho) (h5 y hy), fun y hy ho => ?_, fun y hy ho a ha => ?_⟩
 ·have hr := ru_of h hA hy ho
  refine ⟨sml_of hr.vt, fun k hk => ?_⟩
  rw [afP_body] at hk
  obtain ⟨b, hb, rfl⟩ := List.mem_map.1 hk
  rw [aff_ts]
  exact sml_of (hr.vb b hb)
 ·have hr := ru_of h hA hy ho
  unfold fctP at ha
  rw [afP_body, List.map_map] at ha
  obtain ⟨b, hb, rfl⟩ := List.mem_map.1 ha
  have e := eA_frz (N := N) (b := b) fun t ht => (hr.vb b hb t ht).1
  have hg := ga_frz (hr.body b hb) (hr.vb b hb)
  unfold eA at e
  simp only [Prod.mk.injEq] at e
  have e1 : (frzA (affL (N.length : Int) (litP N b)).a).p.toNat = prdI N b := by
   show (affL (N.length : Int) (litP N b)).a.p.toNat = _
   rw [aff_p, Int.toNat_natCast]
  show Sh _ (frzA (affL (N.length : Int) (litP N b)).a).p.toNat (tupA (frzA (affL (N.length : Int) (litP N b)).a))
  rw [e1, ← e.2]
  refine ⟨_, rfl, ?_, fun z hz => ?_⟩
  ·rw [List.length_map, arN_eq (hr.body b hb).mem]; exact hg.len
  ·obtain ⟨u, hu, rfl⟩ := List.mem_map.1 hz
   exact encG_rng (hg.gt u hu)
/- The program's Implied, of a text: it tells what the document tells. -/
def pImpR (t : Tx) (n : Int) (b : Bool) (e : Int) : Prop := ∀ c f, rImpR t n c f → b = c ∧ e = f
theorem pimp_arg {t : Tx} {l : List RItem} {n : Int} (he : (refCheck t).1 = 0) (hi : itemsL t = l) (h : hasRuleB l n = false) : pImpR t n false 6 := by
 intro c f hr
 unfold rImpR at hr
 rw [if_neg (by simp [he]), hi, if_pos] at hr
 ·exact ⟨hr.1.symm, hr.2.symm⟩
 ·unfold hasRuleB at h
  by_cases h0 : 0 ≤ n
  ·rw [if_pos h0] at h
   right
   cases hg : l[n.toNat]? with
   | none =>
    left
    have := List.getElem?_eq_none_iff.1 hg
    omega
   | some x =>
    right
    rw [hg] at h
    intro y hy
    cases hy
    simpa using h
  ·left; omega
theorem pimp_ok {t : Tx} {N : List Tx} {l : List RItem} {cs : List AV} {n : Int} {x : RItem} {b : Bool} (hR : Right t N l cs) (hn : 0 ≤ n) (hx : l[n.toNat]? = some x) (ho : x.out = false)
  (hp : PImp ((oth l n.toNat l.length).map (afP N)) (fctP N x) (afP N x).head.p.toNat (tupA (frzA (afP N x).head)) b) : pImpR t n b 0 := by
 intro c f hr
 have hxl := (List.getElem?_eq_some_iff.1 hx).1
 unfold rImpR at hr
 rw [if_neg (by simp [hR.ok]), hR.items, if_neg (fun h => by
  rcases h with h | h | h
  ·omega
  ·omega
  ·have := h x hx; rw [ho] at this; cases this)] at hr
 obtain ⟨y, hy, -, hi, hf⟩ := hr
 rw [hx] at hy
 cases hy
 obtain ⟨ar, hA⟩ := ar_ex hR.ok
 rw [hR.items] at hA
 exact ⟨agree_imp (ar := ar) ⟨fun y hy => ru_of hR hA (oth_mem hy).1 (oth_mem hy).2, ru_of hR hA (List.mem_of_getElem? hx) ho⟩ hi hp, hf.symm⟩
set_option maxHeartbeats 32000000 in
theorem pImplied_spec (t : Tx) (n : Int) (σ : St) : ACalls Tryz.prog 36 [str t, sc (.int .i64 n)] σ fun r σ' => ∃ b e, r = tp [sc (.bool b), sc (.int .i64 e)] ∧ pImpR t n b e ∧ Keep σ σ' := by
 have hL := fun σ => load_spec t σ
 by_cases he : (refCheck t).1 = 0
 ·have heb : ((refCheck t).1 != 0) = false := by simpa using he
  have HE : Abs.Hid ((refCheck t).1 = 0) := he
  have hlen : t.length ≤ 600 := by
   by_cases hl : 600 < t.length
   ·unfold refCheck at he; rw [if_pos hl] at he; simp at he
   ·omega
  clear he
  refine acalls 25 [.tmp 4, .tmp 5] Tryz.func36 rfl (by decide) rfl rfl (Nat.le_of_ble_eq_true rfl) ?_
  repeat' (first
 |with_reducible first|apply Xa|apply Xb|(refine Xc ?_;intro κ hκ)|(apply hκ.out;clear hκ κ)|apply Xd|apply Xe|apply Xf
 |((with_reducible first|refine Xl ?_ ?_|refine Xk ?_ ?_)<;> intro h hari<;> try exact Xp)
 |((with_reducible refine Xh ?_);refine Xi (hL _) ?_;rintro _ _ ⟨idn,n1,c1,idi,n2,c2,rfl,hK1,hb⟩;(have kno1:=hK1.nobj;obtain ⟨N,l,hp,hBk,rfl,rfl,rfl,hva,hWI⟩:=hb HE.out;have hRt : Right t N l c2:=⟨HE.out,hlen,hp,hBk,hWI⟩;have HRt : Abs.Hid _:=hRt;have hHR:=fun σ => hasRule_spec N l c2 idn idi n hBk σ;clear hb hp hva hWI hRt))
 |refine Xw ?_
 |exact True.intro
 |(apply hκ.out;clear hκ κ))
  rename_i σ1
  cases hhr : hasRuleB l n with
  | false =>
   rw [hhr] at hHR
   have HP : Abs.Hid (pImpR t n false 6) := pimp_arg HE.out HRt.out.items hhr
   clear hhr
   repeat' (first
 |with_reducible first|apply Xa|apply Xb|(refine Xc ?_;intro κ hκ)|(apply hκ.out;clear hκ κ)|apply Xd|apply Xe|apply Xf
 |((with_reducible first|refine Xl ?_ ?_|refine Xk ?_ ?_)<;> intro h hari<;> try exact Xp)
 |((with_reducible refine Xh ?_);refine Xi (hHR _) ?_;rintro _ _ ⟨rfl,hK2⟩;(have kob2:=hK2.obj;have kno2:=hK2.nobj;simp only [new_nobj,put_nobj] at kno2))
 |refine Xw ?_
 |exact True.intro
 |(apply hκ.out;clear hκ κ))
   exact ⟨_, rfl, _, _, rfl, HP.out, by exact Xs⟩
  | true =>
   obtain ⟨hn0, x, hx, hxo⟩ := hasRule_some hhr
   have hnn : ((n.toNat : Nat) : Int) = n := Int.toNat_of_nonneg hn0
   rw [hhr] at hHR
   obtain ⟨ar, hA⟩ := ar_ex HE.out
   rw [HRt.out.items] at hA
   have hIm := fun σ => pimplied_spec N l c2 idn idi n.toNat _ x hBk (bki_of HRt.out hA) hx hxo σ
   rw [hnn] at hIm
   have HP : Abs.Hid (∀ b, PImp ((oth l n.toNat l.length).map (afP N)) (fctP N x) (afP N x).head.p.toNat (tupA (frzA (afP N x).head)) b → pImpR t n b 0) := fun b hb => pimp_ok HRt.out hn0 hx hxo hb
   clear hhr hx hn0 hA
   repeat' (first
 |with_reducible first|apply Xa|apply Xb|(refine Xc ?_;intro κ hκ)|(apply hκ.out;clear hκ κ)|apply Xd|apply Xe|apply Xf
 |((with_reducible first|refine Xl ?_ ?_|refine Xk ?_ ?_)<;> intro h hari<;> try exact Xp)
 |((with_reducible refine Xh ?_);first|(refine Xi (hHR _) ?_;rintro _ _ ⟨rfl,hK2⟩;(have kob2:=hK2.obj;have kno2:=hK2.nobj;simp only [new_nobj,put_nobj] at kno2))|(refine Xi (hIm _) ?_;rintro _ _ ⟨b,rfl,hb,hK3⟩;(have HB : Abs.Hid _:=HP.out b hb;clear hb)))
 |refine Xw ?_
 |exact True.intro
 |(apply hκ.out;clear hκ κ))
   exact ⟨_, rfl, _, _, rfl, HB.out, by exact Xs⟩
 ·have heb : ((refCheck t).1 != 0) = true := by simpa using he
  have HE : Abs.Hid (pImpR t n false (refCheck t).1) := fun c f hr => by
   unfold rImpR at hr
   rw [if_pos he] at hr
   exact ⟨hr.1.symm, hr.2.symm⟩
  clear he
  refine acalls 25 [.tmp 4, .tmp 5] Tryz.func36 rfl (by decide) rfl rfl (Nat.le_of_ble_eq_true rfl) ?_
  repeat' (first
 |with_reducible first|apply Xa|apply Xb|(refine Xc ?_;intro κ hκ)|(apply hκ.out;clear hκ κ)|apply Xd|apply Xe|apply Xf
 |((with_reducible first|refine Xl ?_ ?_|refine Xk ?_ ?_)<;> intro h hari<;> try exact Xp)
 |((with_reducible refine Xh ?_);refine Xi (hL _) ?_;rintro _ _ ⟨idn,n1,c1,idi,n2,c2,rfl,hK1,hb⟩;(have kno1:=hK1.nobj;clear hb))
 |refine Xw ?_
 |exact True.intro
 |(apply hκ.out;clear hκ κ))
  exact ⟨_, rfl, _, _, rfl, HE.out, by exact Xs⟩
/- The law: Implieds. -/
set_option maxHeartbeats 16000000 in
theorem plays_implied (o : OpD) (hk : o.kind = 6) (c : List AV) (hc : EO o c) (σ : St) : ACalls Tryz.prog 27 [ag c] σ fun r σ' => r = sc (.bool true) ∧ Keep σ σ' := by
 have hP := fun σ => pImplied_spec o.s o.n σ
 have hR := fun σ => rImplied_spec o.s o.n σ
 unfold EO at hc
 subst hc
 rw [hk] at *
 refine acalls 154 [.tmp 2] Tryz.func27 rfl (by decide) rfl rfl (Nat.le_of_ble_eq_true rfl) ?_
 repeat' (first
 |with_reducible first|apply Xa|apply Xb|(refine Xc ?_;intro κ hκ)|(apply hκ.out;clear hκ κ)|apply Xd|apply Xe|apply Xf
 |((with_reducible first|refine Xl ?_ ?_|refine Xm ?_ ?_|refine Xk ?_ ?_)<;> intro h hari<;> try exact Xp)
 |((with_reducible refine Xh ?_);first|(refine Xi (hP _) ?_;rintro _ _ ⟨b,e,rfl,hp,hK1⟩;(have kob1:=hK1.obj;have kno1:=hK1.nobj;have HP : Abs.Hid _:=hp;clear hp;(try simp only [new_nobj,put_nobj,lay_nobj] at kno1)))|(refine Xi (hR _) ?_;rintro _ _ ⟨c,f,rfl,hr,hK2⟩;(have kob2:=hK2.obj;have kno2:=hK2.nobj;obtain ⟨hbc,hef⟩:=HP.out _ _ hr;subst hbc;subst hef;clear hr))|(refine Xi (num_spec _ _) ?_;rintro _ _ ⟨rfl,hσ⟩;(replace hσ:=hσ.symm;subst hσ)))
 |refine Xw ?_
 |exact True.intro
 |((with_reducible refine Xg ?_);refine Xj ?_)
 |(apply hκ.out;clear hκ κ))
 all_goals
  first
  | exact ⟨_, rfl, rfl, by exact Xs⟩
  | exact ⟨_, rfl, rfl⟩
  | (exfalso; simp at *; done)
set_option maxHeartbeats 16000000 in
theorem implieds_spec (l : List OpD) (cs : List AV) (ids : Nat) (hE : EL EO l cs) (hl : l.length ≤ 9223372036854775807) (σ : St) : ACalls Tryz.prog 9 [sl ids l.length cs] σ fun r σ' => r = sc (.bool true) ∧ Keep σ σ' := by
 have hP : Plays 6 6 l := fun o _ h1 h2 c hc σ => plays_implied o (by omega) c hc σ
 refine acalls 6 [.tmp 2] Tryz.func9 rfl (by decide) rfl rfl (Nat.le_of_ble_eq_true rfl) ?_
 repeat' (first
 |with_reducible first|apply Xa|apply Xb|(refine Xc ?_;intro κ hκ)|(apply hκ.out;clear hκ κ)|apply Xd|apply Xe|apply Xf
 |((with_reducible first|refine Xl ?_ ?_|refine Xk ?_ ?_)<;> intro h hari<;> try exact Xp)
 |((with_reducible refine Xh ?_);refine Xi (upto_spec l cs ids 6 6 hE hl hP _) ?_;rintro _ _ ⟨rfl,hK1⟩)
 |refine Xw ?_
 |exact True.intro
 |(apply hκ.out;clear hκ κ))
 first | exact ⟨_, rfl, rfl, hK1⟩ | exact ⟨_, rfl, rfl⟩ | exact ⟨_, rfl⟩
end Go.Proofs.YtmoeoppbmhfbpaaGreatDoorY
