import Derived.Lib.ItoaMem
import Derived.Test.YtmoeoppbmhfbpaaGreatDoorYProgR
import Derived.Test.YtmoeoppbmhfbpaaGreatDoorYEngQ
/- What is asked of other texts. -/
namespace Go.Proofs.YtmoeoppbmhfbpaaGreatDoorY
open Go.Abs
set_option linter.unusedSimpArgs false
set_option linter.unusedVariables false
set_option maxRecDepth 100000
def DT (w : Tx) : Prop := variableB w = true ∨ (variableB w = false ∧ Lib.itoa (encT w).2 = w ∧ 0 ≤ (encT w).2 ∧ (encT w).2 ≤ 999)
theorem u8_of {b : UInt8} {m : Nat} (h : b.toNat = m) : UInt8.ofNat m = b := by rw [← h]; exact UInt8.ofNat_toNat
theorem dec_snoc {v d : Nat} (hv : 1 ≤ v) (hd : d ≤ 9) : Lib.decDigits (v * 10 + d) = Lib.decDigits v ++ [UInt8.ofNat (48 + d)] := by
 rw [Lib.decDigits, dif_neg (by omega), show (v * 10 + d) / 10 = v by omega, show (v * 10 + d) % 10 = d by omega]
theorem dt_num {w : Tx} {m : Nat} (hv : variableB w = false) (hw : w ≠ []) (hn : numV w = (m : Int)) (hm : m ≤ 999) (hd : Lib.decDigits m = w) : DT w := by
 cases w with
 | nil => exact absurd rfl hw
 | cons b r =>
  refine .inr ⟨hv, ?_⟩
  rw [encT_num hv]
  dsimp only
  rw [hn]
  exact ⟨by rw [Lib.itoa_nonneg, hd], by omega, by omega⟩
theorem pTerm_dt (s w r : Tx) (h : pTerm s = .got w r) : DT w := by
 cases s with
 | nil => cases h
 | cons b q =>
  unfold pTerm at h; dsimp only at h
  split at h
  ·rename_i hl; cases h; exact .inl hl
  rename_i hl
  have hl : largeB b.toNat = false := by simpa using hl
  split at h
  ·rename_i h0
   cases h
   have h48 : b.toNat = 48 := by have : (b.toNat : Int) = 48 := (by simpa using h0); omega
   exact dt_num (m := 0) hl (by simp) (by simp [numV, h48]) (by omega) (by rw [Lib.decDigits_one (by omega), u8_of h48])
  split at h
  ·rename_i h9
   cases h
   have hb : 49 ≤ b.toNat ∧ b.toNat ≤ 57 := by simp [nineB] at h9; omega
   have hds := (pWhile_took digitB 2 q).2
   have hln : (pWhile digitB 2 q).1.length ≤ 2 := by
    cases q with
    | nil => simp [pWhile]
    | cons c q =>
     unfold pWhile
     split
     ·cases q with
      | nil => simp [pWhile]
      | cons d q => unfold pWhile; split <;> simp [pWhile]
     ·simp
   have hdig : ∀ c : UInt8, digitB c.toNat = true → 48 ≤ c.toNat ∧ c.toNat ≤ 57 := fun c hc => by simp [digitB] at hc; omega
   have d1 : Lib.decDigits (b.toNat - 48) = [b] := by rw [Lib.decDigits_one (by omega), u8_of (show b.toNat = 48 + (b.toNat - 48) by omega)]
   generalize (pWhile digitB 2 q).1 = ds at hds hln
   match ds, hds, hln with
   | [], _, _ => exact dt_num (m := b.toNat - 48) hl (by simp) (by simp [numV]; omega) (by omega) d1
   | [c], hds, _ =>
    have hc := hdig c (hds c (by simp))
    have d2 : Lib.decDigits ((b.toNat - 48) * 10 + (c.toNat - 48)) = [b, c] := by rw [dec_snoc (by omega) (by omega), d1, u8_of (show c.toNat = 48 + (c.toNat - 48) by omega)]; rfl
    exact dt_num (m := (b.toNat - 48) * 10 + (c.toNat - 48)) hl (by simp) (by simp [numV]; omega) (by omega) d2
   | [c, d], hds, _ =>
    have hc := hdig c (hds c (by simp))
    have hd := hdig d (hds d (by simp))
    have d2 : Lib.decDigits ((b.toNat - 48) * 10 + (c.toNat - 48)) = [b, c] := by rw [dec_snoc (by omega) (by omega), d1, u8_of (show c.toNat = 48 + (c.toNat - 48) by omega)]; rfl
    have d3 : Lib.decDigits (((b.toNat - 48) * 10 + (c.toNat - 48)) * 10 + (d.toNat - 48)) = [b, c, d] := by rw [dec_snoc (by omega) (by omega), d2, u8_of (show d.toNat = 48 + (d.toNat - 48) by omega)]; rfl
    exact dt_num (m := ((b.toNat - 48) * 10 + (c.toNat - 48)) * 10 + (d.toNat - 48)) hl (by simp) (by simp [numV]; omega) (by omega) d3
  ·cases h
def whichL (l : List Tx) (s : Tx) : Int := if s ∈ l then ((l.idxOf s : Nat) : Int) else -1
def ordF (acc : List Tx) (t : Tx) : List Tx := if variableB t = true ∧ t ∉ acc then acc ++ [t] else acc
def ordT (acc : List Tx) (ts : List Tx) : List Tx := ts.foldl ordF acc
def ordL (x : RItem) : List Tx := ordT [] ((atomsL x).flatMap (·.terms))
theorem ordT_len (ts : List Tx) : ∀ acc, (ordT acc ts).length ≤ acc.length + ts.length := by
 induction ts with
 | nil => intro acc; simp [ordT]
 | cons t ts ih =>
  intro acc
  have := ih (ordF acc t)
  have h2 : (ordF acc t).length ≤ acc.length + 1 := by unfold ordF; split <;> simp
  simp only [ordT, List.foldl_cons, List.length_cons] at *
  omega
def short (a : RAtom) : Prop := a.pred.length ≤ 1000 ∧ a.terms.length ≤ 1000 ∧ ∀ t ∈ a.terms, t.length ≤ 1000
def RItem.short (x : RItem) : Prop := Go.Proofs.YtmoeoppbmhfbpaaGreatDoorY.short x.head ∧ ∀ a ∈ x.body, Go.Proofs.YtmoeoppbmhfbpaaGreatDoorY.short a
theorem uMore_mem {ts : List Tx} {t : Tx} (h : t ∈ ts) : t.length ≤ (uMore ts).length := by
 induction ts with
 | nil => cases h
 | cons u ts ih =>
  unfold uMore at *
  simp only [List.flatMap_cons, List.length_append, List.length_cons]
  rcases List.mem_cons.1 h with rfl | h
  ·omega
  ·have := ih h; omega
theorem uList_mem {ts : List Tx} {t : Tx} (h : t ∈ ts) : t.length ≤ (uList ts).length := by
 cases ts with
 | nil => cases h
 | cons u ts =>
  unfold uList
  simp only [List.length_append]
  rcases List.mem_cons.1 h with rfl | h
  ·omega
  ·have := uMore_mem h; omega
theorem uAtom_short {a : RAtom} (hw : a.terms.length ≤ 3) (h : (uAtom a).length ≤ 1000) : short a := by
 unfold uAtom at h
 simp only [List.length_append, List.length_cons] at h
 refine ⟨by omega, by omega, fun t ht => ?_⟩
 have := uList_mem ht
 omega
theorem uItem_short {x : RItem} (hw : WItem x) (h : (uItem x).length ≤ 1000) : x.short := by
 obtain ⟨-, h2, h3⟩ := hw
 unfold uItem at h
 cases ho : x.out with
 | true =>
  rw [if_pos ho] at h
  obtain ⟨-, q1, q2⟩ := h2 ho
  simp only [List.length_cons] at h
  exact ⟨⟨by omega, by simp [q1], by simp [q1]⟩, by simp [q2]⟩
 | false =>
  rw [if_neg (by rw [ho]; simp)] at h
  obtain ⟨q1, -, q2, q3⟩ := h3 ho
  unfold uRule at h
  simp only [List.length_append] at h
  refine ⟨uAtom_short q1.2.2.1 (by omega), fun a ha => ?_⟩
  have hne : x.body ≠ [] := by intro e; rw [e] at ha; cases ha
  rw [if_neg hne] at h
  simp only [List.length_cons] at h
  have hm := uList_mem (List.mem_map_of_mem (f := uLit) ha)
  have hl : (uAtom a).length ≤ (uLit a).length := by unfold uLit; simp
  exact uAtom_short (q3 a ha).2.2.1 (by omega)
theorem uItems_mem {l : List RItem} {x : RItem} (h : x ∈ l) : (uItem x).length ≤ (uItems l).length := by
 induction l with
 | nil => cases h
 | cons y l ih =>
  unfold uItems at *
  simp only [List.flatMap_cons, List.length_append]
  rcases List.mem_cons.1 h with rfl | h
  ·omega
  ·have := ih h; omega
theorem parse_short {s : Tx} {l : List RItem} {r : Tx} (hs : s.length ≤ 1000) (h : pItems 16 s = .got l r) : ∀ x ∈ l, x.short := by
 obtain ⟨h1, -, -, h4⟩ := pItems_took _ _ _ _ h
 intro x hx
 have := uItems_mem hx
 rw [← h1] at this
 exact uItem_short (h4 x hx) (by omega)
theorem enc_inj {t u : Tx} (ht : VT t) (hu : VT u) (vt : variableB t = true) (vu : variableB u = true) (h : (encT t).2 = (encT u).2) : t = u := by
 have := hit_eq ht hu vu
 unfold hitT at this
 rw [enc_var ht, vt, h] at this
 simpa using this.symm
def WT (l : List Tx) (a : RAtom) : Prop := ∀ w ∈ a.terms, DT w ∧ w.length ≤ 1000 ∧ (variableB w = true → 0 ≤ whichL l w ∧ whichL l w < 26)
def WA (N l : List Tx) (a : RAtom) : Prop := a.pred ∈ N ∧ 0 < a.terms.length ∧ a.terms.length ≤ 1000 ∧ a.pred.length ≤ 1000 ∧ WT l a
structure WI (N : List Tx) (x : RItem) : Prop where
 fits : x.fits
 short : x.short
 va : ∀ a ∈ atomsL x, VA a
 vh : VA x.head
 vb : ∀ a ∈ x.body, VA a
 mem : x.head.pred ∈ N
 body : x.body.length ≤ 5
 out : x.out = true → x.body = []
 head : x.out = false → x.head.nt = false ∧ WA N (ordL x) x.head
 wa : ∀ a ∈ x.body, WA N (ordL x) a
theorem mem_ordF {acc : List Tx} {t u : Tx} (h : t ∈ acc ∨ (t = u ∧ variableB u = true)) : t ∈ ordF acc u := by
 unfold ordF
 split
 ·rcases h with h | ⟨rfl, -⟩
  ·exact List.mem_append.2 (.inl h)
  ·exact List.mem_append.2 (.inr (by simp))
 ·rename_i hn
  rcases h with h | ⟨rfl, hv⟩
  ·exact h
  ·exact Classical.byContradiction fun hm => hn ⟨hv, hm⟩
theorem mem_ordT : ∀ (ts acc : List Tx) (t : Tx), (t ∈ acc ∨ (t ∈ ts ∧ variableB t = true)) → t ∈ ordT acc ts
 | [], acc, t, h => by
  rcases h with h | ⟨h, -⟩
  ·exact h
  ·cases h
 | u :: ts, acc, t, h => by
  show t ∈ ordT (ordF acc u) ts
  apply mem_ordT ts
  rcases h with h | ⟨h, hv⟩
  ·exact .inl (mem_ordF (.inl h))
  ·rcases List.mem_cons.1 h with rfl | h
   ·exact .inl (mem_ordF (.inr ⟨rfl, hv⟩))
   ·exact .inr ⟨h, hv⟩
theorem flat_len {ls : List RAtom} (h : ∀ a ∈ ls, a.terms.length ≤ 3) : (ls.flatMap (·.terms)).length ≤ ls.length * 3 := by
 induction ls with
 | nil => simp
 | cons a ls ih =>
  have h2 := ih fun b hb => h b (by simp [hb])
  have h3 := h a (by simp)
  simp only [List.flatMap_cons, List.length_append, List.length_cons]
  omega
theorem atoms_mem {x : RItem} {a : RAtom} (h : (x.out = false ∧ a = x.head) ∨ a ∈ x.body) : a ∈ atomsL x := by
 unfold atomsL
 rcases h with ⟨h, rfl⟩ | h
 ·exact List.mem_append.2 (.inl (by rw [h]; simp))
 ·exact List.mem_append.2 (.inr h)
theorem ord_small {x : RItem} (hw : WItem x) {a : RAtom} (ha : a ∈ atomsL x) {w : Tx} (hm : w ∈ a.terms) (hv : variableB w = true) : 0 ≤ whichL (ordL x) w ∧ whichL (ordL x) w < 26 := by
 have h1 : w ∈ ordL x := mem_ordT _ _ _ (.inr ⟨List.mem_flatMap.2 ⟨a, ha, hm⟩, hv⟩)
 have h2 := List.idxOf_lt_length_of_mem h1
 have h3 := ordT_len ((atomsL x).flatMap (·.terms)) []
 obtain ⟨q1, q2, q3⟩ := hw
 have h4 : (atomsL x).length ≤ 6 ∧ ∀ b ∈ atomsL x, b.terms.length ≤ 3 := by
  cases ho : x.out with
  | true =>
   obtain ⟨-, -, e⟩ := q2 ho
   simp [atomsL, ho, e]
  | false =>
   obtain ⟨e1, -, e2, e3⟩ := q3 ho
   refine ⟨by simp [atomsL, ho]; omega, fun b hb => ?_⟩
   simp [atomsL, ho] at hb
   rcases hb with rfl | hb
   ·exact e1.2.2.1
   ·exact (e3 b hb).2.2.1
 have h5 := flat_len h4.2
 have h6 : (ordL x).length ≤ 18 := by
  unfold ordL
  rw [List.length_nil, Nat.zero_add] at h3
  omega
 unfold whichL
 rw [if_pos h1]
 omega
theorem wi_of {t : Tx} {N : List Tx} {l : List RItem} {cs : List AV} {r : Tx} (hl : t.length ≤ 1000) (hp : pItems 16 t = .got l r) (hB : Bk N l cs) (hWI : ∀ x ∈ l, WItem x) : ∀ x ∈ l, WI N x := by
 intro x hx
 have hva := pItems_va 16 t l r hp x hx
 have hdt := pItems_all (T := DT) pTerm_dt 16 t l r hp x hx
 have hsh := parse_short hl hp x hx
 have hm := EL_PI_mem hB.el x hx
 have hw := hWI x hx
 have hf := hB.fits x hx
 have hwa : ∀ a, a ∈ atomsL x → a.pred ∈ N → WAtom a → short a → a.terms.length ≤ 1000 → WA N (ordL x) a := fun a ha hN hW hs hn =>
  ⟨hN, List.length_pos_iff.2 hW.2.1, hn, hs.1, fun w hm => ⟨hdt a ha w hm, hs.2.2 w hm, fun hv => ord_small hw ha hm hv⟩⟩
 refine ⟨hf, hsh, hva, ?_, ?_, hm.1, ?_, hB.out x hx, ?_, ?_⟩
 ·cases ho : x.out with
  | true => intro w hw'; rw [(hw.2.1 ho).2.1] at hw'; cases hw'
  | false => exact hva x.head (atoms_mem (.inl ⟨ho, rfl⟩))
 ·exact fun a ha => hva a (atoms_mem (.inr ha))
 ·cases ho : x.out with
  | true => rw [hB.out x hx ho]; simp
  | false => exact (hw.2.2 ho).2.2.1
 ·intro ho
  obtain ⟨e1, e2, -⟩ := hw.2.2 ho
  exact ⟨e2, hwa x.head (atoms_mem (.inl ⟨ho, rfl⟩)) hm.1 e1 hsh.1 hf.2.1⟩
 ·intro a ha
  have ho : x.out = false := by
   cases h : x.out with
   | false => rfl
   | true => rw [hB.out x hx h] at ha; cases ha
  exact hwa a (atoms_mem (.inr ha)) (hm.2 a ha) ((hw.2.2 ho).2.2.2 a ha) (hsh.2 a ha) (hf.2.2 a ha)
def woL (x : RItem) (k : Nat) : RItem := { out := false, head := x.head, body := x.body.eraseIdx k }
def woT (ls : List RAtom) (k n : Nat) : List RAtom := (ls.take n).eraseIdx k
theorem woT_add {ls : List RAtom} {k n : Nat} {a : RAtom} (h : ls[n]? = some a) (hk : n ≠ k) : woT ls k (n + 1) = woT ls k n ++ [a] := by
 have hn := (List.getElem?_eq_some_iff.1 h).1
 have hl : (ls.take n).length = n := by rw [List.length_take]; omega
 unfold woT
 rw [List.take_add_one, h, Option.toList_some]
 by_cases hlt : k < n
 ·rw [List.eraseIdx_append_of_lt_length (by omega)]
 ·rw [List.eraseIdx_of_length_le (by rw [List.length_append, hl]; simp; omega), List.eraseIdx_of_length_le (by omega)]
theorem woT_skip {ls : List RAtom} {k : Nat} {a : RAtom} (h : ls[k]? = some a) : woT ls k (k + 1) = woT ls k k := by
 have hn := (List.getElem?_eq_some_iff.1 h).1
 have hl : (ls.take k).length = k := by rw [List.length_take]; omega
 unfold woT
 have e : (ls.take k).eraseIdx k = ls.take k := List.eraseIdx_of_length_le (by omega)
 rw [e, List.take_add_one, h, Option.toList_some, List.eraseIdx_append_of_length_le (by omega), hl, Nat.sub_self]
 simp
theorem woT_len (ls : List RAtom) (k n : Nat) : (woT ls k n).length ≤ n := by
 unfold woT
 have h1 := List.length_eraseIdx_le (ls.take n) k
 rw [List.length_take] at h1
 omega
theorem woT_all (ls : List RAtom) (k : Nat) : woT ls k ls.length = ls.eraseIdx k := by unfold woT; rw [List.take_length]
def hasRuleB (l : List RItem) (n : Int) : Bool := if 0 ≤ n then (match l[n.toNat]? with | some x => !x.out | none => false) else false
set_option maxHeartbeats 16000000 in
theorem hasRule_spec (N : List Tx) (l : List RItem) (cs : List AV) (idn idi : Nat) (n : Int) (hB : Bk N l cs) (σ : St) : ACalls Tryz.prog 62 [bookA N idn l idi cs, sc (.int .i64 n)] σ fun r σ' => r = sc (.bool (hasRuleB l n)) ∧ Keep σ σ' := by
 have hcl := EL.length PI_len hB.el
 have hl16 := hB.len
 by_cases h0 : 0 ≤ n
 ·by_cases h1 : n < (l.length : Int)
  ·have hn1 : n.toNat < l.length := by omega
   have hnn : ((n.toNat : Nat) : Int) = n := Int.toNat_of_nonneg h0
   have hget := List.getElem?_eq_getElem hn1
   have HR : Abs.Hid (hasRuleB l n = !l[n.toNat].out) := by rw [Abs.Hid, hasRuleB, if_pos h0, hget]
   obtain ⟨hm, ih, id, b, rr, hb, hd⟩ := EL_PI hB.el hget
   generalize l[n.toNat] = x at hd HR
   clear hget
   refine acalls 23 [.tmp 4] Tryz.func62 rfl (by decide) rfl rfl (Nat.le_of_ble_eq_true rfl) ?_
   repeat' (first
 |with_reducible first|apply Xa|apply Xb|(refine Xc ?_;intro κ hκ)|(apply hκ.out;clear hκ κ)|apply Xd|apply Xe|apply Xf
 |((with_reducible first|refine Xl ?_ ?_|refine Xk ?_ ?_)<;> intro h hari<;> try exact Xp)
 |refine Xr ?_
 |exact True.intro
 |(apply hκ.out;clear hκ κ))
   exact ⟨_, rfl, by rw [HR.out], by exact Xs⟩
  ·have HR : Abs.Hid (hasRuleB l n = false) := by rw [Abs.Hid, hasRuleB, if_pos h0, List.getElem?_eq_none (by omega)]
   refine acalls 23 [.tmp 4] Tryz.func62 rfl (by decide) rfl rfl (Nat.le_of_ble_eq_true rfl) ?_
   repeat' (first
 |with_reducible first|apply Xa|apply Xb|(refine Xc ?_;intro κ hκ)|(apply hκ.out;clear hκ κ)|apply Xd|apply Xe|apply Xf
 |((with_reducible first|refine Xl ?_ ?_|refine Xk ?_ ?_)<;> intro h hari<;> try exact Xp)
 |refine Xr ?_
 |exact True.intro
 |(apply hκ.out;clear hκ κ))
   exact ⟨_, rfl, by rw [HR.out], by exact Xs⟩
 ·have HR : Abs.Hid (hasRuleB l n = false) := by rw [Abs.Hid, hasRuleB, if_neg h0]
  refine acalls 23 [.tmp 4] Tryz.func62 rfl (by decide) rfl rfl (Nat.le_of_ble_eq_true rfl) ?_
  repeat' (first
 |with_reducible first|apply Xa|apply Xb|(refine Xc ?_;intro κ hκ)|(apply hκ.out;clear hκ κ)|apply Xd|apply Xe|apply Xf
 |((with_reducible first|refine Xl ?_ ?_|refine Xk ?_ ?_)<;> intro h hari<;> try exact Xp)
 |refine Xr ?_
 |exact True.intro
 |(apply hκ.out;clear hκ κ))
  exact ⟨_, rfl, by rw [HR.out], by exact Xs⟩
theorem enc_fst (t : Tx) : (encT t).1 = variableB t := by
 cases t with
 | nil => rfl
 | cons b r =>
  unfold encT variableB
  dsimp only
  split
  ·rename_i h; rw [h]
  ·rename_i h; simp at h; rw [h]
structure Right (t : Tx) (N : List Tx) (l : List RItem) (cs : List AV) : Prop where
 ok : (refCheck t).1 = 0
 len : t.length ≤ 600
 parse : pItems 16 t = .got l []
 bk : Bk N l cs
 wit : ∀ x ∈ l, WItem x
theorem Right.items {t : Tx} {N : List Tx} {l : List RItem} {cs : List AV} (h : Right t N l cs) : itemsL t = l := (parse_good (by have := h.len; omega) h.parse).2.1
theorem Right.wi {t : Tx} {N : List Tx} {l : List RItem} {cs : List AV} (h : Right t N l cs) : ∀ x ∈ l, WI N x := wi_of (by have := h.len; omega) h.parse h.bk h.wit
theorem firstM_neg {p : Nat → Bool} {n : Nat} (h : ¬ 0 ≤ firstN p n) : ∀ i, i < n → p i = false := by
 intro i hi
 unfold firstN at h
 split at h
 ·rename_i j hj; exact absurd (Int.natCast_nonneg j) h
 ·rename_i hn
  rw [List.find?_eq_none] at hn
  simpa using hn i (by simpa using hi)
theorem right_len {t : Tx} (h : (refCheck t).1 = 0) : ∀ x ∈ itemsL t, ∀ a ∈ atomsL x, ∀ b ∈ atomsL x, a.pred = b.pred → a.terms.length = b.terms.length := by
 have hodd : ∀ i, i < (itemsL t).length → oddP (itemsL t) i = false := by
  unfold refCheck at h
  split at h
  ·simp at h
  split at h
  ·simp at h
  unfold wrongM at h
  split at h
  ·simp at h
  ·rename_i hk; exact firstM_neg hk
 intro x hx a ha b hb he
 obtain ⟨i, hi⟩ := List.getElem?_of_mem hx
 have h1 := hodd i (List.getElem?_eq_some_iff.1 hi).1
 unfold oddP at h1
 rw [hi] at h1
 simp only [List.any_eq_false, List.mem_range] at h1
 obtain ⟨j, hj⟩ := List.getElem?_of_mem ha
 obtain ⟨k, hk⟩ := List.getElem?_of_mem hb
 have hjl := (List.getElem?_eq_some_iff.1 hj).1
 have hkl := (List.getElem?_eq_some_iff.1 hk).1
 have key : ∀ (j k : Nat) (a b : RAtom), (atomsL x)[j]? = some a → (atomsL x)[k]? = some b → k < j → a.pred = b.pred → a.terms.length = b.terms.length := by
  intro j k a b hj hk hlt he
  have h2 := h1 j (List.getElem?_eq_some_iff.1 hj).1
  unfold oddAt at h2
  rw [hj] at h2
  simp only [List.any_eq_true, not_exists, not_and] at h2
  have h3 := h2 b (by
   unfold seenL
   exact List.mem_append.2 (.inr (List.mem_of_getElem? (i := k) (by rw [List.getElem?_take, if_pos hlt]; exact hk))))
  unfold clash at h3
  simp [he] at h3
  exact h3.symm
 rcases Nat.lt_trichotomy j k with hlt | rfl | hgt
 ·exact (key k j b a hk hj hlt he.symm).symm
 ·rw [hj] at hk; cases hk; rfl
 ·exact key j k a b hj hk hgt he
theorem hasRule_some {l : List RItem} {n : Int} (h : hasRuleB l n = true) : 0 ≤ n ∧ ∃ x, l[n.toNat]? = some x ∧ x.out = false := by
 unfold hasRuleB at h
 split at h
 ·rename_i h0
  split at h
  ·rename_i x hx; exact ⟨h0, x, hx, by simpa using h⟩
  ·cases h
 ·cases h
set_option maxHeartbeats 16000000 in
theorem rwithout_spec (x : RItem) (c : List AV) (k : Nat) (hc : EItem x c) (hn : x.body.length ≤ 1000) (σ : St) : ACalls Tryz.prog 146 [ag c, sc (.int .i64 k)] σ fun r σ' => ∃ c', r = ag c' ∧ EItem (woL x k) c' ∧ Keep σ σ' := by
 obtain ⟨ih, id, b, hb, rfl⟩ := hc.cells
 unfold itemCells
 have hbl := EL.length EAtom_len hb
 refine acalls 31 [.cell 4 145] Tryz.func146 rfl (by decide) rfl rfl (Nat.le_of_ble_eq_true rfl) ?_
 repeat' (first
 |with_reducible first|apply Xa|apply Xb|(refine Xc ?_;intro κ hκ)|(apply hκ.out;clear hκ κ)|apply Xd|apply Xe|apply Xf
 |((with_reducible first|refine Xl ?_ ?_|refine Xm ?_ ?_|refine Xk ?_ ?_)<;> intro h hari<;> try exact Xp)
 |((with_reducible refine aapp_go ?_);refine Xt ?_;intro idn σn hOn hKn eobj enobj ever entop)
 |((with_reducible refine aappn_go ?_);refine Xu ?_)
 |refine Xr ?_
 |exact True.intro
 |((with_reducible refine Xg ?_);refine Xj ?_)
 |(apply hκ.out;clear hκ κ))
 refine awp_loop (fun m s σ' => ∃ (n i3 : Nat) (xs : List AV), m = x.body.length - n ∧ n ≤ x.body.length ∧ s 1 = sc (.int .i64 k) ∧ s 2 = ptr σ.nobj 0 ∧ s 4 = ptr (σ.nobj + 1) 0 ∧ s 5 = ptr (σ.nobj + 2) 0 ∧ s 6 = sc (.int .i64 n) ∧ Keep σ σ' ∧ σ.nobj + 2 < σ'.nobj ∧ σ'.obj σ.nobj = [sc (.bool x.out), sc (.bool x.head.nt), str x.head.pred, sl ih x.head.terms.length (x.head.terms.map str), sl id x.body.length b] ∧ σ'.obj (σ.nobj + 1) = [sc (.bool false), sc (.bool false), str [], nilS, nilS] ∧ σ'.obj (σ.nobj + 2) = [sc (.bool false), sc (.bool x.head.nt), str x.head.pred, sl ih x.head.terms.length (x.head.terms.map str), sl i3 (woT x.body k n).length xs] ∧ Own σ σ' i3 (woT x.body k n).length ∧ xs.length = (woT x.body k n).length * 3 ∧ Abs.Hid (EL EAtom (woT x.body k n) xs)) x.body.length
  ⟨0, 1, [], by omega, by omega, by simp [upd, initS], by simp [upd], by simp [upd], by simp [upd], rfl, by exact Xs, by simp only [put_nobj, new_nobj]; omega, ?_, ?_, ?_, Own.nil _ _, by simp [woT], by simp [Abs.Hid, woT, EL]⟩ ?_
 ·rw [put_ne (by omega), new_lt (by simp only [new_nobj]; omega), new_lt (by simp only [new_nobj]; omega), new_same]
 ·rw [put_ne (by omega), new_lt (by simp only [new_nobj]; omega), new_at (by simp only [new_nobj]; omega) (by simp only [new_nobj]; omega)]
 ·rw [show σ.nobj + 2 = σ.nobj + 1 + 1 by omega, put_same]; simp [woT]
 rintro m s σ' ⟨n, i3, xs, rfl, hn', h1, h2, h4, h5, h6, hK, hno, ob0, ob1, ob2, hO, hxl, hX⟩
 have kno := hK.nobj
 have hwl := woT_len x.body k n
 by_cases hlt : n < x.body.length
 ·have hget := List.getElem?_eq_getElem hlt
  obtain ⟨ia, r, hd⟩ := EL_atom hb hget
  generalize x.body[n] = a at hd hget
  have HG : Abs.Hid (x.body[n]? = some a) := hget
  clear hget
  generalize hwe : woT x.body k n = wl at ob2 hO hxl hX hwl
  have HWE : Abs.Hid _ := hwe
  clear hwe
  by_cases hnk : n = k
  ·have hnb : ((n : Int) != (k : Int)) = false := by simp [hnk]
   have hst : Abs.Hid (woT x.body k (n + 1) = wl) := by
    rw [Abs.Hid, ← HWE.out, hnk]; exact woT_skip (by rw [← hnk]; exact HG.out)
   clear hnk
   repeat' (first
 |with_reducible first|apply Xa|apply Xb|(refine Xc ?_;intro κ hκ)|(apply hκ.out;clear hκ κ)|apply Xd|apply Xe|apply Xf
 |((with_reducible first|refine Xl ?_ ?_|refine Xm ?_ ?_|refine Xk ?_ ?_)<;> intro h hari<;> try exact Xp)
 |((with_reducible refine aapp_go ?_);refine Xt ?_;intro idn σn hOn hKn eobj enobj ever entop)
 |((with_reducible refine aappn_go ?_);refine Xu ?_)
 |refine Xr ?_
 |exact True.intro
 |((with_reducible refine Xg ?_);refine Xj ?_)
 |(apply hκ.out;clear hκ κ))
   exact ⟨x.body.length - (n + 1), by omega, n + 1, i3, xs, rfl, by omega, by simp, by rw [hst.out], by rw [hst.out]; exact hO, by rw [hst.out]; exact hxl, by rw [Abs.Hid, hst.out]; exact hX.out⟩
  ·have hnb : ((n : Int) != (k : Int)) = true := by simp; omega
   have hst : Abs.Hid (woT x.body k (n + 1) = wl ++ [a]) := by
    rw [Abs.Hid, ← HWE.out]; exact woT_add HG.out hnk
   clear hnk
   repeat' (first
 |with_reducible first|apply Xa|apply Xb|(refine Xc ?_;intro κ hκ)|(apply hκ.out;clear hκ κ)|apply Xd|apply Xe|apply Xf
 |((with_reducible first|refine Xl ?_ ?_|refine Xm ?_ ?_|refine Xk ?_ ?_)<;> intro h hari<;> try exact Xp)
 |((with_reducible refine aapp_go ?_);refine Xt ?_;intro idn σn hOn hKn eobj enobj ever entop)
 |((with_reducible refine aappn_go ?_);refine Xu ?_)
 |refine Xr ?_
 |exact True.intro
 |((with_reducible refine Xg ?_);refine Xj ?_)
 |(apply hκ.out;clear hκ κ))
   refine awp_draw_k follows_mixed (fun _ => True) [8, 9, 10] [0, 1, 2, 3, 4, 5, 6] [7, 8, 9, 10] (by kernel_rfl) (fun _ _ _ h => h) ?_
   have hKl : Keep σ' (σ'.lay 1) := (Keep.refl _).lay 1
   have hl1 : Abs.Hid ((woT x.body k (n + 1)).length = wl.length + 1) := by rw [Abs.Hid, hst.out]; simp
   intro κ hκ
   repeat' (first
 |with_reducible first|apply Xa|apply Xb|(refine Xc ?_;intro κ hκ)|(apply hκ.out;clear hκ κ)|apply Xd|apply Xe|apply Xf
 |((with_reducible first|refine Xl ?_ ?_|refine Xm ?_ ?_|refine Xk ?_ ?_)<;> intro h hari<;> try exact Xp)
 |((with_reducible refine aapp_go ?_);refine Xt ?_;intro idn σn hOn hKn eobj enobj ever entop)
 |((with_reducible refine aappn_go ?_);refine Xu ?_)
 |refine Xr ?_
 |exact True.intro
 |((with_reducible refine Xg ?_);refine Xj ?_)
 |(apply hκ.out;clear hκ κ))
   refine ⟨x.body.length - (n + 1), by omega, n + 1, idn, xs ++ [sc (.bool a.nt), str a.pred, sl ia a.terms.length (a.terms.map str)], rfl, by omega, by simp, hKn.put (by omega) _, by rw [hl1.out], by rw [hl1.out]; exact Own.put hOn _ _, by rw [hl1.out]; simp; omega, ?_⟩
   rw [Abs.Hid, hst.out]
   exact EL.append hX.out (EL.single ⟨ia, rfl⟩)
 ·have hnl : n = x.body.length := by omega
  subst hnl
  rw [woT_all] at ob2 hX
  repeat' (first
 |with_reducible first|apply Xa|apply Xb|(refine Xc ?_;intro κ hκ)|(apply hκ.out;clear hκ κ)|apply Xd|apply Xe|apply Xf
 |((with_reducible first|refine Xl ?_ ?_|refine Xm ?_ ?_|refine Xk ?_ ?_)<;> intro h hari<;> try exact Xp)
 |((with_reducible refine aapp_go ?_);refine Xt ?_;intro idn σn hOn hKn eobj enobj ever entop)
 |((with_reducible refine aappn_go ?_);refine Xu ?_)
 |refine Xr ?_
 |exact True.intro
 |((with_reducible refine Xg ?_);refine Xj ?_)
 |(apply hκ.out;clear hκ κ))
  exact ⟨_, rfl, _, rfl, EItem.of (x := woL x k) (ih := ih) (id := i3) hX.out, hK.put (by omega) _⟩
theorem right_items {t : Tx} (he : (refCheck t).1 = 0) : t.length ≤ 600 ∧ ∃ l r, pItems 16 t = .got l r := by
 have hlen : t.length ≤ 600 := by
  by_cases hl : 600 < t.length
  ·unfold refCheck at he; rw [if_pos hl] at he; simp at he
  ·omega
 refine ⟨hlen, ?_⟩
 have hp := placeL_parse t
 cases h : pItems 16 t with
 | got l r => exact ⟨l, r, rfl⟩
 | bad e =>
  rw [h] at hp
  have hp : placeL t = ((t.length - e.length : Nat) : Int) := hp
  unfold refCheck at he
  rw [if_neg (by omega), hp, if_pos (Int.natCast_nonneg _)] at he
  simp at he
def sameP (a b : RAtom) : Prop := a.nt = b.nt ∧ a.pred = b.pred ∧ a.terms = b.terms
set_option maxHeartbeats 16000000 in
theorem same_spec (a b : RAtom) (ca cb : List AV) (ha : EAtom a ca) (hb : EAtom b cb) (hn : a.terms.length ≤ 1000) (σ : St) : ACalls Tryz.prog 186 [ag ca, ag cb] σ fun r σ' => ∃ bo, r = sc (.bool bo) ∧ (bo = true ↔ sameP a b) ∧ Keep σ σ' := by
 obtain ⟨ia, rfl⟩ := ha
 obtain ⟨ib, rfl⟩ := hb
 by_cases hnt : a.nt = b.nt
 ·have hnb : (a.nt == b.nt) = true := by simp [hnt]
  by_cases hpr : a.pred = b.pred
  ·have hpb : (a.pred == b.pred) = true := by simp [hpr]
   by_cases hle : a.terms.length = b.terms.length
   ·have hlb : ((a.terms.length : Int) != (b.terms.length : Int)) = false := by simp [hle]
    have HS : Abs.Hid (sameP a b ↔ a.terms = b.terms) := ⟨fun h => h.2.2, fun h => ⟨hnt, hpr, h⟩⟩
    have HLE : Abs.Hid _ := hle
    generalize sameP a b = SP at HS
    clear hnt hpr hle
    refine acalls 45 [.tmp 4] Tryz.func186 rfl (by decide) rfl rfl (Nat.le_of_ble_eq_true rfl) ?_
    repeat' (first
 |with_reducible first|apply Xa|apply Xb|(refine Xc ?_;intro κ hκ)|(apply hκ.out;clear hκ κ)|apply Xd|apply Xe|apply Xf
 |((with_reducible first|refine Xl ?_ ?_|refine Xm ?_ ?_|refine Xk ?_ ?_)<;> intro h hari<;> try exact Xp)
 |refine Xr ?_
 |exact True.intro
 |((with_reducible refine Xg ?_);refine Xj ?_)
 |(apply hκ.out;clear hκ κ))
    refine awp_loop (fun m s σ' => ∃ k : Nat, m = a.terms.length - k ∧ k ≤ a.terms.length ∧ s 2 = ptr σ.nobj 0 ∧ s 3 = ptr (σ.nobj + 1) 0 ∧ s 5 = sc (.int .i64 k) ∧ Keep σ σ' ∧ σ.nobj + 1 < σ'.nobj ∧ σ'.obj σ.nobj = [sc (.bool a.nt), str a.pred, sl ia a.terms.length (a.terms.map str)] ∧ σ'.obj (σ.nobj + 1) = [sc (.bool b.nt), str b.pred, sl ib b.terms.length (b.terms.map str)] ∧ Abs.Hid (∀ j, j < k → a.terms[j]? = b.terms[j]?)) a.terms.length
     ⟨0, by omega, by omega, by simp [upd], by simp [upd], rfl, by exact Xs, by simp only [new_nobj]; omega, ?_, ?_, fun j hj => by omega⟩ ?_
    ·rw [new_lt (by simp only [new_nobj]; omega), new_same]
    ·rw [new_at (by simp only [new_nobj]; omega) (by simp only [new_nobj]; omega)]
    rintro m s σ' ⟨k, rfl, hk, h2, h3, h5, hK, hno, ob0, ob1, hE⟩
    by_cases hlt : k < a.terms.length
    ·have hlu : k < b.terms.length := by have := HLE.out; omega
     have g1 := map_str_get hlt
     have g2 := map_str_get hlu
     have HX : Abs.Hid (a.terms[k]? = some a.terms[k] ∧ b.terms[k]? = some b.terms[k]) := ⟨List.getElem?_eq_getElem hlt, List.getElem?_eq_getElem hlu⟩
     generalize a.terms[k] = t at g1 HX
     generalize b.terms[k] = u at g2 HX
     by_cases htu : t = u
     ·have htb : (t == u) = true := by simp [htu]
      have HS2 : Abs.Hid (∀ j, j < k + 1 → a.terms[j]? = b.terms[j]?) := fun j hj => by
       by_cases e : j = k
       ·subst e; rw [HX.out.1, HX.out.2, htu]
       ·exact hE.out j (by omega)
      clear htu
      repeat' (first
 |with_reducible first|apply Xa|apply Xb|(refine Xc ?_;intro κ hκ)|(apply hκ.out;clear hκ κ)|apply Xd|apply Xe|apply Xf
 |((with_reducible first|refine Xl ?_ ?_|refine Xm ?_ ?_|refine Xk ?_ ?_)<;> intro h hari<;> try exact Xp)
 |refine Xr ?_
 |exact True.intro
 |((with_reducible refine Xg ?_);refine Xj ?_)
 |(apply hκ.out;clear hκ κ))
      refine awp_draw_k follows_mixed (fun _ => True) [] [0, 1, 2, 3, 4, 5, 6, 7, 8, 9, 10] [] (by kernel_rfl) (fun _ _ _ h => h) ?_
      intro κ hκ
      repeat' (first
 |with_reducible first|apply Xa|apply Xb|(refine Xc ?_;intro κ hκ)|(apply hκ.out;clear hκ κ)|apply Xd|apply Xe|apply Xf
 |((with_reducible first|refine Xl ?_ ?_|refine Xm ?_ ?_|refine Xk ?_ ?_)<;> intro h hari<;> try exact Xp)
 |refine Xr ?_
 |exact True.intro
 |((with_reducible refine Xg ?_);refine Xj ?_)
 |(apply hκ.out;clear hκ κ))
      exact ⟨a.terms.length - (k + 1), by omega, k + 1, rfl, by omega, by simp, HS2⟩
     ·have htb : (t == u) = false := by simpa using htu
      have HF : Abs.Hid (¬ SP) := fun h => htu (by
       have h2 := HS.out.1 h
       have h3 := HX.out.1
       rw [h2, HX.out.2] at h3
       exact (Option.some.inj h3).symm)
      clear htu
      repeat' (first
 |with_reducible first|apply Xa|apply Xb|(refine Xc ?_;intro κ hκ)|(apply hκ.out;clear hκ κ)|apply Xd|apply Xe|apply Xf
 |((with_reducible first|refine Xl ?_ ?_|refine Xm ?_ ?_|refine Xk ?_ ?_)<;> intro h hari<;> try exact Xp)
 |refine Xr ?_
 |exact True.intro
 |((with_reducible refine Xg ?_);refine Xj ?_)
 |(apply hκ.out;clear hκ κ))
      refine awp_draw_k follows_mixed (fun _ => True) [] [0, 1, 2, 3, 4, 5, 6, 7, 8, 9, 10] [] (by kernel_rfl) (fun _ _ _ h => h) ?_
      intro κ hκ
      repeat' (first
 |with_reducible first|apply Xa|apply Xb|(refine Xc ?_;intro κ hκ)|(apply hκ.out;clear hκ κ)|apply Xd|apply Xe|apply Xf
 |((with_reducible first|refine Xl ?_ ?_|refine Xm ?_ ?_|refine Xk ?_ ?_)<;> intro h hari<;> try exact Xp)
 |refine Xr ?_
 |exact True.intro
 |((with_reducible refine Xg ?_);refine Xj ?_)
 |(apply hκ.out;clear hκ κ))
      exact ⟨_, rfl, false, rfl, ⟨(fun h => by cases h), fun h => absurd h HF.out⟩⟩
    ·have hkl : k = a.terms.length := by omega
     subst hkl
     have HT : Abs.Hid SP := HS.out.2 (by
      apply List.ext_getElem?
      intro j
      by_cases hj : j < a.terms.length
      ·exact hE.out j hj
      ·rw [List.getElem?_eq_none (by omega), List.getElem?_eq_none (by have := HLE.out; omega)])
     repeat' (first
 |with_reducible first|apply Xa|apply Xb|(refine Xc ?_;intro κ hκ)|(apply hκ.out;clear hκ κ)|apply Xd|apply Xe|apply Xf
 |((with_reducible first|refine Xl ?_ ?_|refine Xm ?_ ?_|refine Xk ?_ ?_)<;> intro h hari<;> try exact Xp)
 |refine Xr ?_
 |exact True.intro
 |((with_reducible refine Xg ?_);refine Xj ?_)
 |(apply hκ.out;clear hκ κ))
     exact ⟨_, rfl, true, rfl, ⟨fun _ => HT.out, fun _ => rfl⟩⟩
   ·have hlb : ((a.terms.length : Int) != (b.terms.length : Int)) = true := by simpa using (show ¬ (a.terms.length : Int) = (b.terms.length : Int) by omega)
    have HF : Abs.Hid (¬ sameP a b) := fun h => hle (by rw [h.2.2])
    generalize sameP a b = SP at HF
    clear hnt hpr hle
    refine acalls 45 [.tmp 4] Tryz.func186 rfl (by decide) rfl rfl (Nat.le_of_ble_eq_true rfl) ?_
    repeat' (first
 |with_reducible first|apply Xa|apply Xb|(refine Xc ?_;intro κ hκ)|(apply hκ.out;clear hκ κ)|apply Xd|apply Xe|apply Xf
 |((with_reducible first|refine Xl ?_ ?_|refine Xm ?_ ?_|refine Xk ?_ ?_)<;> intro h hari<;> try exact Xp)
 |refine Xr ?_
 |exact True.intro
 |((with_reducible refine Xg ?_);refine Xj ?_)
 |(apply hκ.out;clear hκ κ))
    exact ⟨_, rfl, false, rfl, ⟨(fun h => by cases h), fun h => absurd h HF.out⟩, by exact Xs⟩
  ·have hpb : (a.pred == b.pred) = false := by simpa using hpr
   have HF : Abs.Hid (¬ sameP a b) := fun h => hpr h.2.1
   generalize sameP a b = SP at HF
   clear hnt hpr
   refine acalls 45 [.tmp 4] Tryz.func186 rfl (by decide) rfl rfl (Nat.le_of_ble_eq_true rfl) ?_
   repeat' (first
 |with_reducible first|apply Xa|apply Xb|(refine Xc ?_;intro κ hκ)|(apply hκ.out;clear hκ κ)|apply Xd|apply Xe|apply Xf
 |((with_reducible first|refine Xl ?_ ?_|refine Xm ?_ ?_|refine Xk ?_ ?_)<;> intro h hari<;> try exact Xp)
 |refine Xr ?_
 |exact True.intro
 |((with_reducible refine Xg ?_);refine Xj ?_)
 |(apply hκ.out;clear hκ κ))
   exact ⟨_, rfl, false, rfl, ⟨(fun h => by cases h), fun h => absurd h HF.out⟩, by exact Xs⟩
 ·have hnb : (a.nt == b.nt) = false := by simpa using hnt
  have HF : Abs.Hid (¬ sameP a b) := fun h => hnt h.1
  generalize sameP a b = SP at HF
  clear hnt
  refine acalls 45 [.tmp 4] Tryz.func186 rfl (by decide) rfl rfl (Nat.le_of_ble_eq_true rfl) ?_
  repeat' (first
 |with_reducible first|apply Xa|apply Xb|(refine Xc ?_;intro κ hκ)|(apply hκ.out;clear hκ κ)|apply Xd|apply Xe|apply Xf
 |((with_reducible first|refine Xl ?_ ?_|refine Xm ?_ ?_|refine Xk ?_ ?_)<;> intro h hari<;> try exact Xp)
 |refine Xr ?_
 |exact True.intro
 |((with_reducible refine Xg ?_);refine Xj ?_)
 |(apply hκ.out;clear hκ κ))
  exact ⟨_, rfl, false, rfl, ⟨(fun h => by cases h), fun h => absurd h HF.out⟩, by exact Xs⟩
set_option maxHeartbeats 16000000 in
theorem within_true (ls : List RAtom) (cs : List AV) (id : Nat) (a : RAtom) (ca : List AV) (hE : EL EAtom ls cs) (ha : EAtom a ca) (hl : ls.length ≤ 1000) (hn : ∀ b ∈ ls, b.terms.length ≤ 1000) (hm : ∃ b ∈ ls, sameP b a) (σ : St) : ACalls Tryz.prog 147 [sl id ls.length cs, ag ca] σ fun r σ' => r = sc (.bool true) ∧ Keep σ σ' := by
 obtain ⟨ia, rfl⟩ := ha
 have hcl := EL.length EAtom_len hE
 have hSm := fun b ib hb σ => same_spec b a [sc (.bool b.nt), str b.pred, sl ib b.terms.length (b.terms.map str)] _ ⟨ib, rfl⟩ ⟨ia, rfl⟩ (hn b hb) σ
 have HM : Abs.Hid _ := hm
 clear hm
 refine acalls 18 [.tmp 4] Tryz.func147 rfl (by decide) rfl rfl (Nat.le_of_ble_eq_true rfl) ?_
 repeat' (first
 |with_reducible first|apply Xa|apply Xb|(refine Xc ?_;intro κ hκ)|(apply hκ.out;clear hκ κ)|apply Xd|apply Xe|apply Xf
 |((with_reducible first|refine Xl ?_ ?_|refine Xm ?_ ?_|refine Xk ?_ ?_)<;> intro h hari<;> try exact Xp)
 |refine Xr ?_
 |exact True.intro
 |((with_reducible refine Xg ?_);refine Xj ?_)
 |(apply hκ.out;clear hκ κ))
 refine awp_loop (fun m s σ' => ∃ i : Nat, m = ls.length - i ∧ i ≤ ls.length ∧ s 0 = sl id ls.length cs ∧ s 3 = ptr σ.nobj 0 ∧ s 5 = sc (.int .i64 i) ∧ Keep σ σ' ∧ σ.nobj < σ'.nobj ∧ σ'.obj σ.nobj = [sc (.bool a.nt), str a.pred, sl ia a.terms.length (a.terms.map str)] ∧ Abs.Hid (∀ j, j < i → ∀ b, ls[j]? = some b → ¬ sameP b a)) ls.length
  ⟨0, by omega, by omega, rfl, rfl, rfl, by exact Xs, by simp [new_nobj], new_same, fun j hj => by omega⟩ ?_
 rintro m s σ' ⟨i, rfl, hi, h0, h3, h5, hK, hno, hob, hN⟩
 have kno := hK.nobj
 by_cases hlt : i < ls.length
 ·have hget := List.getElem?_eq_getElem hlt
  obtain ⟨ib, r, hd⟩ := EL_atom hE hget
  have hS := fun σ => hSm ls[i] ib (List.getElem_mem hlt) σ
  generalize ls[i] = b at hd hget hS
  have HG : Abs.Hid _ := hget
  clear hget
  generalize hsp : sameP b a = SP at hS
  have HSP : Abs.Hid _ := hsp
  clear hsp
  repeat' (first
 |with_reducible first|apply Xa|apply Xb|(refine Xc ?_;intro κ hκ)|(apply hκ.out;clear hκ κ)|apply Xd|apply Xe|apply Xf
 |((with_reducible first|refine Xl ?_ ?_|refine Xm ?_ ?_|refine Xk ?_ ?_)<;> intro h hari<;> try exact Xp)
 |refine Xr ?_
 |exact True.intro
 |((with_reducible refine Xg ?_);refine Xj ?_)
 |(apply hκ.out;clear hκ κ))
  refine awp_draw_k follows_mixed (fun _ => True) [5] [0, 1, 2, 3, 4] [5] (by kernel_rfl) (fun _ _ _ h => h) ?_
  intro κ hκ
  repeat' (first
 |with_reducible first|apply Xa|apply Xb|(refine Xc ?_;intro κ hκ)|(apply hκ.out;clear hκ κ)|apply Xd|apply Xe|apply Xf
 |((with_reducible first|refine Xl ?_ ?_|refine Xm ?_ ?_|refine Xk ?_ ?_)<;> intro h hari<;> try exact Xp)
 |((with_reducible refine Xh ?_);refine Xi (hS _) ?_;rintro _ _ ⟨bo,rfl,hbo,hK2⟩;(have kob2:=hK2.obj;have kno2:=hK2.nobj))
 |refine Xr ?_
 |exact True.intro
 |((with_reducible refine Xg ?_);refine Xj ?_)
 |(apply hκ.out;clear hκ κ))
  ·exact ⟨_, rfl, rfl, hK.trans hK2⟩
  ·refine ⟨ls.length - (i + 1), by omega, i + 1, rfl, by omega, by simp, hK.trans hK2, by omega, fun j hj c hc => ?_⟩
   by_cases e : j = i
   ·subst e
    rw [HG.out] at hc
    cases hc
    rw [HSP.out]
    intro hs
    have h1 := hbo.2 hs
    have h2 : bo = false := by assumption
    rw [h2] at h1
    cases h1
   ·exact hN.out j (by omega) c hc
 ·exfalso
  obtain ⟨b, hb, hs⟩ := HM.out
  obtain ⟨j, hj⟩ := List.getElem?_of_mem hb
  exact hN.out j (by have := (List.getElem?_eq_some_iff.1 hj).1; omega) b hj hs
end Go.Proofs.YtmoeoppbmhfbpaaGreatDoorY
/- What the document's rules bring: half-put rules, in pure words. -/
namespace Go.Proofs.YtmoeoppbmhfbpaaGreatDoorY
open Go.Abs
set_option linter.unusedSimpArgs false
set_option linter.unusedVariables false
theorem RAtom.ext' {a b : RAtom} (h1 : a.nt = b.nt) (h2 : a.pred = b.pred) (h3 : a.terms = b.terms) : a = b := by cases a; cases b; simp_all
def tmM (μ : Tx → Tx) (t : Tx) : Tx := if variableB t = true then μ t else t
def atM (μ : Tx → Tx) (a : RAtom) : RAtom := ⟨a.nt, a.pred, a.terms.map (tmM μ)⟩
def itM (μ : Tx → Tx) (x : RItem) : RItem := ⟨false, atM μ x.head, x.body.map (atM μ)⟩
def Gnd (a : RAtom) : Prop := ∀ t ∈ a.terms, variableB t = false
theorem tmM_gnd {μ : Tx → Tx} {t : Tx} (h : variableB t = false) : tmM μ t = t := by unfold tmM; rw [if_neg (by simp [h])]
theorem tmM_var {μ : Tx → Tx} {t : Tx} (h : variableB t = true) : tmM μ t = μ t := by unfold tmM; rw [if_pos h]
theorem map_eq_self {α : Type} {f : α → α} : ∀ {l : List α}, (∀ x ∈ l, f x = x) → l.map f = l
 | [], _ => rfl
 | a :: l, h => by rw [List.map_cons, h a (by simp), map_eq_self fun x hx => h x (by simp [hx])]
theorem atM_gnd {μ : Tx → Tx} {a : RAtom} (h : Gnd a) : atM μ a = a := RAtom.ext' rfl rfl (map_eq_self fun t ht => tmM_gnd (h t ht))
def cmp (ν θ : Tx → Tx) : Tx → Tx := fun u => tmM ν (θ u)
theorem tmM_cmp (ν θ : Tx → Tx) (u : Tx) : tmM ν (tmM θ u) = tmM (cmp ν θ) u := by
 cases h : variableB u with
 | true => rw [tmM_var h, tmM_var h]; rfl
 | false => rw [tmM_gnd h, tmM_gnd h, tmM_gnd h]
theorem atM_cmp (ν θ : Tx → Tx) (a : RAtom) : atM ν (atM θ a) = atM (cmp ν θ) a := RAtom.ext' rfl rfl (by
 show (a.terms.map (tmM θ)).map (tmM ν) = a.terms.map (tmM (cmp ν θ))
 rw [List.map_map]
 exact List.map_congr_left fun u _ => tmM_cmp ν θ u)
theorem atM_congr {μ ν : Tx → Tx} {a : RAtom} (h : ∀ u ∈ a.terms, variableB u = true → μ u = ν u) : atM μ a = atM ν a := RAtom.ext' rfl rfl (List.map_congr_left fun u hu => by
 cases hv : variableB u with
 | true => rw [tmM_var hv, tmM_var hv, h u hu hv]
 | false => rw [tmM_gnd hv, tmM_gnd hv])
theorem itM_cmp (ν θ : Tx → Tx) (x : RItem) : itM ν (itM θ x) = itM (cmp ν θ) x := by
 unfold itM
 congr 1
 ·exact atM_cmp ν θ x.head
 ·rw [List.map_map]; exact List.map_congr_left fun a _ => atM_cmp ν θ a
def oneS (v t : Tx) : Tx → Tx := fun u => if u = v then t else u
def putQ (v t : Tx) (a : RAtom) : RAtom := ⟨a.nt, a.pred, a.terms.map fun u => if u = v then t else u⟩
def putX (v t : Tx) (x : RItem) : RItem := ⟨false, putQ v t x.head, x.body.map (putQ v t)⟩
theorem putQ_eq {v t : Tx} (hv : variableB v = true) (a : RAtom) : putQ v t a = atM (oneS v t) a := RAtom.ext' rfl rfl (List.map_congr_left fun u _ => by
 cases h : variableB u with
 | true => rw [tmM_var h]; rfl
 | false => rw [tmM_gnd h, if_neg (fun e => by subst e; rw [hv] at h; cases h)])
theorem putX_eq {v t : Tx} (hv : variableB v = true) (x : RItem) : putX v t x = itM (oneS v t) x := by
 unfold putX itM
 rw [putQ_eq hv]
 congr 1
 exact List.map_congr_left fun a _ => putQ_eq hv a
def becK (j : Nat) : List Tx → Nat → RItem → Option RItem
 | [], _, x => some x
 | a :: tl, k, x => match (x.body[j]?).bind (fun b => b.terms[k]?) with
  | none => none
  | some t => if t = a then becK j tl (k + 1) x else if variableB t = true then becK j tl (k + 1) (putX t a x) else none
def becL (x : RItem) (j : Nat) (t : RAtom) : Option RItem := match x.body[j]? with
 | none => none
 | some b => if t.nt = b.nt ∧ t.pred = b.pred ∧ t.terms.length = b.terms.length then becK j t.terms 0 x else none
def Th (θ : Tx → Tx) : Prop := ∀ u, variableB u = true → θ u = u ∨ variableB (θ u) = false
def Mtc (μ : Tx → Tx) (j k : Nat) (tl : List Tx) (x : RItem) : Prop := ∃ b, x.body[j]? = some b ∧ ∀ (i : Nat) (a : Tx), tl[i]? = some a → ∃ t, b.terms[k + i]? = some t ∧ tmM μ t = a
theorem itM_id {x : RItem} (h : x.out = false) : itM (fun u => u) x = x := by
 have ht : ∀ t, tmM (fun u => u) t = t := fun t => by unfold tmM; split <;> rfl
 have ha : ∀ a, atM (fun u => u) a = a := fun a => RAtom.ext' rfl rfl (map_eq_self fun t _ => ht t)
 unfold itM
 rw [ha, map_eq_self fun a _ => ha a]
 cases x; simp_all
theorem one_cmp {μ : Tx → Tx} {t a u : Tx} (ha : variableB a = false) (hm : μ t = a) (hu : variableB u = true) : cmp μ (oneS t a) u = μ u := by
 unfold cmp oneS
 split
 ·rename_i e; subst e; rw [tmM_gnd ha, hm]
 ·exact tmM_var hu
theorem Mtc.put {μ : Tx → Tx} {j k : Nat} {tl : List Tx} {x : RItem} {t a : Tx} (h : Mtc μ j k (a :: tl) x) (ht : variableB t = true) (ha : variableB a = false) (hm : μ t = a) : Mtc μ j (k + 1) tl (itM (oneS t a) x) := by
 obtain ⟨b, hb, h⟩ := h
 refine ⟨atM (oneS t a) b, by simp [itM, hb], fun i a' hi => ?_⟩
 obtain ⟨t', h1, h2⟩ := h (i + 1) a' (by simpa using hi)
 refine ⟨tmM (oneS t a) t', ?_, ?_⟩
 ·show (b.terms.map (tmM (oneS t a)))[k + 1 + i]? = _
  rw [List.getElem?_map, show k + 1 + i = k + (i + 1) by omega, h1]; rfl
 ·rw [tmM_cmp]
  cases hv : variableB t' with
  | true => rw [tmM_var hv, one_cmp ha hm hv, ← h2, tmM_var hv]
  | false => rw [tmM_gnd hv, ← h2, tmM_gnd hv]
theorem Mtc.tail {μ : Tx → Tx} {j k : Nat} {tl : List Tx} {x : RItem} {a : Tx} (h : Mtc μ j k (a :: tl) x) : Mtc μ j (k + 1) tl x := by
 obtain ⟨b, hb, h⟩ := h
 refine ⟨b, hb, fun i a' hi => ?_⟩
 obtain ⟨t', h1, h2⟩ := h (i + 1) a' (by simpa using hi)
 exact ⟨t', by rw [show k + 1 + i = k + (i + 1) by omega]; exact h1, h2⟩
theorem becK_ok (j : Nat) : ∀ (tl : List Tx) (k : Nat) (x y : RItem), becK j tl k x = some y → x.out = false → (∀ a ∈ tl, variableB a = false) →
  ∃ θ, Th θ ∧ y = itM θ x ∧ (∀ (i : Nat) (a : Tx), tl[i]? = some a → ∃ b, y.body[j]? = some b ∧ b.terms[k + i]? = some a) ∧ ∀ μ, Mtc μ j k tl x → ∀ u, variableB u = true → tmM μ (θ u) = μ u
 | [], k, x, y, h, ho, _ => by
  cases h
  exact ⟨fun u => u, fun u _ => .inl rfl, (itM_id ho).symm, fun i a h => by simp at h, fun μ _ u hu => tmM_var hu⟩
 | a :: tl, k, x, y, h, ho, hg => by
  have ha := hg a (by simp)
  have hg' : ∀ a ∈ tl, variableB a = false := fun b hb => hg b (by simp [hb])
  unfold becK at h
  cases hb : x.body[j]? with
  | none => rw [hb] at h; cases h
  | some b =>
   rw [hb] at h
   cases ht : b.terms[k]? with
   | none => simp [ht] at h
   | some t =>
    simp only [Option.bind_some, ht] at h
    split at h
    ·rename_i e
     subst e
     obtain ⟨θ, h1, h2, h3, h4⟩ := becK_ok j tl (k + 1) x y h ho hg'
     refine ⟨θ, h1, h2, fun i a' hi => ?_, fun μ hm => h4 μ hm.tail⟩
     cases i with
     | zero =>
      simp at hi
      subst hi
      exact ⟨atM θ b, by rw [h2]; simp [itM, hb], by show (b.terms.map (tmM θ))[k + 0]? = _; rw [List.getElem?_map, Nat.add_zero, ht, Option.map_some, tmM_gnd ha]⟩
     | succ i =>
      obtain ⟨b', e1, e2⟩ := h3 i a' (by simpa using hi)
      exact ⟨b', e1, by rw [show k + (i + 1) = k + 1 + i by omega]; exact e2⟩
    ·split at h
     ·rename_i hv
      rw [putX_eq hv] at h
      obtain ⟨θ, h1, h2, h3, h4⟩ := becK_ok j tl (k + 1) _ y h rfl hg'
      refine ⟨cmp θ (oneS t a), fun u hu => ?_, by rw [h2, itM_cmp], fun i a' hi => ?_, fun μ hm u hu => ?_⟩
      ·unfold cmp oneS
       split
       ·exact .inr (by rw [tmM_gnd ha]; exact ha)
       ·rw [tmM_var hu]; exact h1 u hu
      ·cases i with
       | zero =>
        simp at hi
        subst hi
        refine ⟨atM θ (atM (oneS t a) b), by rw [h2]; simp [itM, hb], ?_⟩
        show ((b.terms.map (tmM (oneS t a))).map (tmM θ))[k + 0]? = _
        rw [List.getElem?_map, List.getElem?_map, Nat.add_zero, ht, Option.map_some, Option.map_some, tmM_var hv]
        have : oneS t a t = a := by simp [oneS]
        rw [this, tmM_gnd ha]
       | succ i =>
        obtain ⟨b', e1, e2⟩ := h3 i a' (by simpa using hi)
        exact ⟨b', e1, by rw [show k + (i + 1) = k + 1 + i by omega]; exact e2⟩
      ·have hmt : μ t = a := by
        obtain ⟨b', hb', h'⟩ := hm
        rw [hb] at hb'
        cases hb'
        obtain ⟨t', e1, e2⟩ := h' 0 a (by simp)
        rw [Nat.add_zero, ht] at e1
        cases e1
        rw [tmM_var hv] at e2
        exact e2
       have hm' := hm.put hv ha hmt
       unfold cmp oneS
       split
       ·rename_i e; subst e; rw [tmM_gnd ha, tmM_gnd ha, hmt]
       ·rw [tmM_var hu]; exact h4 μ hm' u hu
     ·cases h
theorem becK_some (j : Nat) : ∀ (tl : List Tx) (k : Nat) (x : RItem) (μ : Tx → Tx), Mtc μ j k tl x → (∀ a ∈ tl, variableB a = false) → ∃ y, becK j tl k x = some y
 | [], k, x, μ, _, _ => ⟨x, rfl⟩
 | a :: tl, k, x, μ, hm, hg => by
  have ha := hg a (by simp)
  have hg' : ∀ a ∈ tl, variableB a = false := fun b hb => hg b (by simp [hb])
  obtain ⟨b, hb, h'⟩ := id hm
  obtain ⟨t, e1, e2⟩ := h' 0 a (by simp)
  rw [Nat.add_zero] at e1
  unfold becK
  rw [hb]
  simp only [Option.bind_some, e1]
  split
  ·exact becK_some j tl (k + 1) x μ hm.tail hg'
  ·rename_i hne
   cases hv : variableB t with
   | true =>
    rw [if_pos rfl, putX_eq hv]
    rw [tmM_var hv] at e2
    exact becK_some j tl (k + 1) _ μ (hm.put hv ha e2) hg'
   | false => rw [tmM_gnd hv] at e2; exact absurd e2 hne
theorem becL_ok {x : RItem} {j : Nat} {t : RAtom} {y : RItem} (h : becL x j t = some y) (ho : x.out = false) (hg : Gnd t) : ∃ b, x.body[j]? = some b ∧ ∃ θ, Th θ ∧ y = itM θ x ∧ y.body[j]? = some t ∧ ∀ μ, atM μ b = t → ∀ u, variableB u = true → tmM μ (θ u) = μ u := by
 unfold becL at h
 split at h
 ·cases h
 ·rename_i b hb
  split at h
  ·rename_i hc
   obtain ⟨c1, c2, c3⟩ := hc
   obtain ⟨θ, h1, h2, h3, h4⟩ := becK_ok j _ _ _ _ h ho hg
   refine ⟨b, hb, θ, h1, h2, ?_, fun μ hm => h4 μ ⟨b, hb, fun i a hi => ?_⟩⟩
   ·have hy : y.body[j]? = some (atM θ b) := by rw [h2]; simp [itM, hb]
    rw [hy]
    congr 1
    refine RAtom.ext' c1.symm c2.symm (List.ext_getElem? fun i => ?_)
    by_cases hi : i < t.terms.length
    ·obtain ⟨b', e1, e2⟩ := h3 i _ (List.getElem?_eq_getElem hi)
     rw [hy] at e1
     cases e1
     rw [Nat.zero_add] at e2
     rw [e2, List.getElem?_eq_getElem hi]
    ·rw [List.getElem?_eq_none (by show (b.terms.map (tmM θ)).length ≤ i; rw [List.length_map]; omega), List.getElem?_eq_none (by omega)]
   ·rw [Nat.zero_add]
    subst hm
    have hl : i < b.terms.length := by have := (List.getElem?_eq_some_iff.1 hi).1; rw [c3] at this; exact this
    refine ⟨b.terms[i], List.getElem?_eq_getElem hl, ?_⟩
    have : (b.terms.map (tmM μ))[i]? = some a := hi
    rw [List.getElem?_map, List.getElem?_eq_getElem hl, Option.map_some] at this
    exact Option.some.inj this
  ·cases h
theorem becL_some {x : RItem} {j : Nat} {t b : RAtom} {μ : Tx → Tx} (hb : x.body[j]? = some b) (hm : atM μ b = t) (hg : Gnd t) : ∃ y, becL x j t = some y := by
 unfold becL
 rw [hb]
 subst hm
 simp only
 rw [if_pos ⟨rfl, rfl, by simp [atM]⟩]
 refine becK_some j _ _ _ μ ⟨b, hb, fun i a hi => ?_⟩ hg
 have hi : (b.terms.map (tmM μ))[i]? = some a := hi
 rw [List.getElem?_map] at hi
 cases ht : b.terms[i]? with
 | none => rw [ht] at hi; cases hi
 | some t' =>
  rw [ht] at hi
  exact ⟨t', by rw [Nat.zero_add]; exact ht, Option.some.inj hi⟩
def Pos (fz : Bool) (a : RAtom) : Bool := fz || !a.nt
def unN (a : RAtom) : RAtom := ⟨false, a.pred, a.terms⟩
def SolD (fz : Bool) (A : List RAtom) (x : RItem) (h : RAtom) : Prop := ∃ μ, (∀ a ∈ x.body, Pos fz a = true → atM μ a ∈ A) ∧ (∀ a ∈ x.body, Pos fz a = false → unN (atM μ a) ∉ A) ∧ h = atM μ x.head
theorem mem_erase {α : Type} {l : List α} {i j : Nat} {a : α} (h : l[i]? = some a) (hn : i ≠ j) : a ∈ l.eraseIdx j := by
 have hi := (List.getElem?_eq_some_iff.1 h).1
 rw [List.eraseIdx_eq_take_drop_succ]
 rcases Nat.lt_or_gt_of_ne hn with h' | h'
 ·exact List.mem_append_left _ (List.mem_of_getElem? (i := i) (by rw [List.getElem?_take, if_pos h']; exact h))
 ·exact List.mem_append_right _ (List.mem_of_getElem? (i := i - (j + 1)) (by rw [List.getElem?_drop, show j + 1 + (i - (j + 1)) = i by omega]; exact h))
theorem sol_step {fz : Bool} {A : List RAtom} {x : RItem} {h : RAtom} (hA : ∀ a ∈ A, Gnd a) (ho : x.out = false) {j : Nat} {b : RAtom} (hb : x.body[j]? = some b) (hp : Pos fz b = true) :
  SolD fz A x h ↔ ∃ t ∈ A, ∃ y, becL x j t = some y ∧ SolD fz A (woL y j) h := by
 constructor
 ·rintro ⟨μ, h1, h2, rfl⟩
  have ht := h1 b (List.mem_of_getElem? hb) hp
  obtain ⟨y, hy⟩ := becL_some (μ := μ) hb rfl (hA _ ht)
  refine ⟨_, ht, y, hy, μ, ?_⟩
  obtain ⟨b', hb', θ, -, rfl, -, h4⟩ := becL_ok hy ho (hA _ ht)
  rw [hb] at hb'
  cases hb'
  have hE : ∀ a, atM μ (atM θ a) = atM μ a := fun a => by rw [atM_cmp]; exact atM_congr fun u _ hu => h4 μ rfl u hu
  have hM : ∀ a ∈ (woL (itM θ x) j).body, ∃ a' ∈ x.body, a = atM θ a' := fun a ha => by
   have := List.mem_of_mem_eraseIdx ha
   obtain ⟨a', h', rfl⟩ := List.mem_map.1 this
   exact ⟨a', h', rfl⟩
  refine ⟨fun a ha hpa => ?_, fun a ha hpa => ?_, (hE _).symm⟩
  ·obtain ⟨a', h', rfl⟩ := hM a ha
   rw [hE]; exact h1 a' h' hpa
  ·obtain ⟨a', h', rfl⟩ := hM a ha
   rw [hE]; exact h2 a' h' hpa
 ·rintro ⟨t, ht, y, hy, ν, h1, h2, rfl⟩
  obtain ⟨b', hb', θ, -, rfl, hyj, -⟩ := becL_ok hy ho (hA _ ht)
  rw [hb] at hb'
  cases hb'
  refine ⟨cmp ν θ, fun a ha hpa => ?_, fun a ha hpa => ?_, by rw [← atM_cmp]; rfl⟩
  ·obtain ⟨i, hi⟩ := List.getElem?_of_mem ha
   have hyi : (itM θ x).body[i]? = some (atM θ a) := by simp [itM, hi]
   rw [← atM_cmp]
   by_cases hij : i = j
   ·subst hij
    rw [hyi] at hyj
    cases hyj
    rw [atM_gnd (hA _ ht)]; exact ht
   ·exact h1 _ (mem_erase hyi hij) hpa
  ·obtain ⟨i, hi⟩ := List.getElem?_of_mem ha
   have hyi : (itM θ x).body[i]? = some (atM θ a) := by simp [itM, hi]
   rw [← atM_cmp]
   by_cases hij : i = j
   ·subst hij
    rw [hb] at hi
    cases hi
    rw [hp] at hpa; cases hpa
   ·exact h2 _ (mem_erase hyi hij) hpa
def SafD (fz : Bool) (x : RItem) : Prop := ∀ v, variableB v = true → (v ∈ x.head.terms ∨ ∃ a ∈ x.body, Pos fz a = false ∧ v ∈ a.terms) → ∃ a ∈ x.body, Pos fz a = true ∧ v ∈ a.terms
theorem th_mem {θ : Tx → Tx} (hT : Th θ) {ts : List Tx} {v : Tx} (hv : variableB v = true) (h : v ∈ ts.map (tmM θ)) : v ∈ ts ∧ θ v = v := by
 obtain ⟨u, hu, e⟩ := List.mem_map.1 h
 cases hvu : variableB u with
 | false => rw [tmM_gnd hvu] at e; subst e; rw [hv] at hvu; cases hvu
 | true =>
  rw [tmM_var hvu] at e
  rcases hT u hvu with h' | h'
  ·rw [h'] at e; subst e; exact ⟨hu, h'⟩
  ·rw [e, hv] at h'; cases h'
theorem saf_step {fz : Bool} {x y : RItem} {j : Nat} {t : RAtom} (hs : SafD fz x) (ho : x.out = false) (hg : Gnd t) (hy : becL x j t = some y) : SafD fz (woL y j) := by
 obtain ⟨b, hb, θ, hT, rfl, hyj, -⟩ := becL_ok hy ho hg
 intro v hv h
 have hx : θ v = v ∧ (v ∈ x.head.terms ∨ ∃ a ∈ x.body, Pos fz a = false ∧ v ∈ a.terms) := by
  rcases h with h | ⟨a, ha, hp, h⟩
  ·obtain ⟨h1, h2⟩ := th_mem hT hv h
   exact ⟨h2, .inl h1⟩
  ·obtain ⟨a', h', rfl⟩ := List.mem_map.1 (List.mem_of_mem_eraseIdx ha)
   obtain ⟨h1, h2⟩ := th_mem hT hv h
   exact ⟨h2, .inr ⟨a', h', hp, h1⟩⟩
 obtain ⟨a, ha, hp, hva⟩ := hs v hv hx.2
 obtain ⟨i, hi⟩ := List.getElem?_of_mem ha
 have hyi : (itM θ x).body[i]? = some (atM θ a) := by simp [itM, hi]
 have hvm : v ∈ (atM θ a).terms := List.mem_map.2 ⟨v, hva, by rw [tmM_var hv, hx.1]⟩
 have hij : i ≠ j := fun e => by
  subst e
  rw [hyi] at hyj
  cases hyj
  have := hg v hvm
  rw [hv] at this; cases this
 exact ⟨_, mem_erase hyi hij, hp, hvm⟩
theorem saf_head {fz : Bool} {x : RItem} (hs : SafD fz x) (hn : ∀ a ∈ x.body, Pos fz a = false) : Gnd x.head ∧ ∀ a ∈ x.body, Gnd a := by
 have : ∀ v, variableB v = true → ¬ (v ∈ x.head.terms ∨ ∃ a ∈ x.body, Pos fz a = false ∧ v ∈ a.terms) := fun v hv h => by
  obtain ⟨a, ha, hp, -⟩ := hs v hv h
  rw [hn a ha] at hp; cases hp
 refine ⟨fun t ht => ?_, fun a ha t ht => ?_⟩
 ·cases hv : variableB t with
  | false => rfl
  | true => exact absurd (.inl ht) (this t hv)
 ·cases hv : variableB t with
  | false => rfl
  | true => exact absurd (.inr ⟨a, ha, hn a ha, ht⟩) (this t hv)
theorem sol_leaf {fz : Bool} {A : List RAtom} {x : RItem} {h : RAtom} (hs : SafD fz x) (hn : ∀ a ∈ x.body, Pos fz a = false) : SolD fz A x h ↔ (∀ a ∈ x.body, unN a ∉ A) ∧ h = x.head := by
 obtain ⟨g1, g2⟩ := saf_head hs hn
 constructor
 ·rintro ⟨μ, -, h2, rfl⟩
  exact ⟨fun a ha => by have := h2 a ha (hn a ha); rw [atM_gnd (g2 a ha)] at this; exact this, atM_gnd g1⟩
 ·rintro ⟨h2, rfl⟩
  exact ⟨fun u => u, fun a ha hp => (by rw [hn a ha] at hp; cases hp), fun a ha _ => by rw [atM_gnd (g2 a ha)]; exact h2 a ha, (atM_gnd g1).symm⟩
theorem sol_gnd {fz : Bool} {A : List RAtom} {x : RItem} {h : RAtom} (hA : ∀ a ∈ A, Gnd a) (hs : SafD fz x) (hS : SolD fz A x h) : Gnd h := by
 obtain ⟨μ, h1, -, rfl⟩ := hS
 intro t ht
 obtain ⟨u, hu, rfl⟩ := List.mem_map.1 ht
 cases hv : variableB u with
 | false => rw [tmM_gnd hv]; exact hv
 | true =>
  obtain ⟨a, ha, hp, hm⟩ := hs u hv (.inl hu)
  exact hA _ (h1 a ha hp) _ (List.mem_map.2 ⟨u, hm, rfl⟩)
theorem sol_head {fz : Bool} {A : List RAtom} {x : RItem} {h : RAtom} (hg : Gnd x.head) (hS : SolD fz A x h) : h = x.head := by
 obtain ⟨μ, -, -, rfl⟩ := hS
 exact atM_gnd hg
/- the text of a rule tells the rule -/
def Clean (t : Tx) : Prop := (∀ b ∈ t, b ≠ (33 : UInt8) ∧ b ≠ 44 ∧ b ≠ 46) ∧ t.length ≤ 1000
def clA (a : RAtom) : Prop := Clean a.pred ∧ (∀ t ∈ a.terms, Clean t) ∧ a.terms.length ≤ 1000
def clI (x : RItem) : Prop := x.out = false ∧ clA x.head ∧ ∀ a ∈ x.body, clA a
def segA (a : RAtom) : Tx := (if a.nt = true then [33] else []) ++ (a.pred ++ a.terms.flatMap fun t => 44 :: t)
def keyL (x : RItem) : Tx := (x.head :: x.body).flatMap fun a => segA a ++ [46]
theorem split_at {c : UInt8} : ∀ {u v r s : Tx}, c ∉ u → c ∉ v → u ++ c :: r = v ++ c :: s → u = v ∧ r = s
 | [], [], r, s, _, _, h => by simpa using h
 | [], b :: v, r, s, _, h2, h => by simp at h h2; exact absurd h.1 h2.1
 | b :: u, [], r, s, h1, _, h => by simp at h h1; exact absurd h.1.symm h1.1
 | b :: u, d :: v, r, s, h1, h2, h => by
  simp at h h1 h2
  obtain ⟨e1, e2⟩ := split_at h1.2 h2.2 h.2
  exact ⟨by rw [h.1, e1], e2⟩
theorem terms_inj : ∀ {ts us : List Tx} {p q : Tx}, (44 : UInt8) ∉ p → (44 : UInt8) ∉ q → (∀ t ∈ ts, (44 : UInt8) ∉ t) → (∀ t ∈ us, (44 : UInt8) ∉ t) → p ++ (ts.flatMap fun t => 44 :: t) = q ++ (us.flatMap fun t => 44 :: t) → p = q ∧ ts = us
 | [], [], p, q, _, _, _, _, h => by simpa using h
 | [], u :: us, p, q, hp, _, _, _, h => by
  simp only [List.flatMap_nil, List.append_nil, List.flatMap_cons, List.cons_append] at h
  exact absurd (by rw [h]; simp) hp
 | t :: ts, [], p, q, _, hq, _, _, h => by
  simp only [List.flatMap_nil, List.append_nil, List.flatMap_cons, List.cons_append] at h
  exact absurd (by rw [← h]; simp) hq
 | t :: ts, u :: us, p, q, hp, hq, ht, hu, h => by
  simp only [List.flatMap_cons, List.cons_append] at h
  obtain ⟨e1, e2⟩ := split_at hp hq h
  obtain ⟨e3, e4⟩ := terms_inj (ht t (by simp)) (hu u (by simp)) (fun x hx => ht x (by simp [hx])) (fun x hx => hu x (by simp [hx])) e2
  exact ⟨e1, by rw [e3, e4]⟩
theorem Clean.no44 {t : Tx} (h : Clean t) : (44 : UInt8) ∉ t := fun hm => (h.1 _ hm).2.1 rfl
theorem Clean.no33 {t : Tx} (h : Clean t) : (33 : UInt8) ∉ t := fun hm => (h.1 _ hm).1 rfl
theorem Clean.no46 {t : Tx} (h : Clean t) : (46 : UInt8) ∉ t := fun hm => (h.1 _ hm).2.2 rfl
theorem clA.tail33 {a : RAtom} (h : clA a) : (33 : UInt8) ∉ a.pred ++ a.terms.flatMap fun t => 44 :: t := by
 intro hm
 rcases List.mem_append.1 hm with h' | h'
 ·exact h.1.no33 h'
 ·obtain ⟨t, ht, hb⟩ := List.mem_flatMap.1 h'
  rcases List.mem_cons.1 hb with h'' | h''
  ·exact absurd h'' (by decide)
  ·exact (h.2.1 t ht).no33 h''
theorem clA.seg46 {a : RAtom} (h : clA a) : (46 : UInt8) ∉ segA a := by
 intro hm
 unfold segA at hm
 rcases List.mem_append.1 hm with h' | h'
 ·split at h'
  ·simp at h'
  ·simp at h'
 ·rcases List.mem_append.1 h' with h' | h'
  ·exact h.1.no46 h'
  ·obtain ⟨t, ht, hb⟩ := List.mem_flatMap.1 h'
   rcases List.mem_cons.1 hb with h'' | h''
   ·exact absurd h'' (by decide)
   ·exact (h.2.1 t ht).no46 h''
theorem seg_inj {a b : RAtom} (ha : clA a) (hb : clA b) (h : segA a = segA b) : a = b := by
 have hnt : a.nt = b.nt ∧ a.pred ++ (a.terms.flatMap fun t => 44 :: t) = b.pred ++ (b.terms.flatMap fun t => 44 :: t) := by
  unfold segA at h
  cases h1 : a.nt with
  | true =>
   cases h2 : b.nt with
   | true => rw [h1, h2] at h; simpa using h
   | false =>
    rw [h1, h2] at h
    simp only [if_true, Bool.false_eq_true, if_false, List.nil_append, List.cons_append] at h
    exact absurd (by rw [← h]; simp) hb.tail33
  | false =>
   cases h2 : b.nt with
   | false => rw [h1, h2] at h; simpa using h
   | true =>
    rw [h1, h2] at h
    simp only [if_true, Bool.false_eq_true, if_false, List.nil_append, List.cons_append] at h
    exact absurd (by rw [h]; simp) ha.tail33
 obtain ⟨e1, e2⟩ := terms_inj ha.1.no44 hb.1.no44 (fun t ht => (ha.2.1 t ht).no44) (fun t ht => (hb.2.1 t ht).no44) hnt.2
 exact RAtom.ext' hnt.1 e1 e2
theorem keys_inj : ∀ {l m : List RAtom}, (∀ a ∈ l, clA a) → (∀ a ∈ m, clA a) → (l.flatMap fun a => segA a ++ [46]) = (m.flatMap fun a => segA a ++ [46]) → l = m
 | [], [], _, _, _ => rfl
 | [], b :: m, _, _, h => by simp at h
 | a :: l, [], _, _, h => by simp at h
 | a :: l, b :: m, h1, h2, h => by
  simp only [List.flatMap_cons, List.append_assoc, List.singleton_append] at h
  obtain ⟨e1, e2⟩ := split_at (h1 a (by simp)).seg46 (h2 b (by simp)).seg46 h
  rw [seg_inj (h1 a (by simp)) (h2 b (by simp)) e1, keys_inj (fun x hx => h1 x (by simp [hx])) (fun x hx => h2 x (by simp [hx])) e2]
theorem keyL_inj {x y : RItem} (hx : clI x) (hy : clI y) (h : keyL x = keyL y) : x = y := by
 have := keys_inj (l := x.head :: x.body) (m := y.head :: y.body) (fun a ha => by
  rcases List.mem_cons.1 ha with rfl | ha
  ·exact hx.2.1
  ·exact hx.2.2 a ha) (fun a ha => by
  rcases List.mem_cons.1 ha with rfl | ha
  ·exact hy.2.1
  ·exact hy.2.2 a ha) h
 have h1 := hx.1
 have h2 := hy.1
 cases x; cases y; simp_all
theorem cl_step {x y : RItem} {j : Nat} {t : RAtom} (hc : clI x) (ht : clA t) (hg : Gnd t) (hy : becL x j t = some y) : clI (woL y j) := by
 have hK : ∀ (tl : List Tx) (k : Nat) (x y : RItem), clI x → (∀ a ∈ tl, Clean a) → becK j tl k x = some y → clI y := by
  intro tl
  induction tl with
  | nil => intro k x y h _ e; cases e; exact h
  | cons a tl ih =>
   intro k x y h ha e
   unfold becK at e
   split at e
   ·cases e
   ·split at e
    ·exact ih _ _ _ h (fun b hb => ha b (by simp [hb])) e
    ·split at e
     ·refine ih _ _ _ ⟨rfl, ?_, ?_⟩ (fun b hb => ha b (by simp [hb])) e
      ·refine ⟨h.2.1.1, fun u hu => ?_, by show (x.head.terms.map _).length ≤ 1000; rw [List.length_map]; exact h.2.1.2.2⟩
       obtain ⟨w, hw, rfl⟩ := List.mem_map.1 hu
       split
       ·exact ha a (by simp)
       ·exact h.2.1.2.1 w hw
      ·intro b hb
       obtain ⟨b', hb', rfl⟩ := List.mem_map.1 hb
       refine ⟨(h.2.2 b' hb').1, fun u hu => ?_, by show (b'.terms.map _).length ≤ 1000; rw [List.length_map]; exact (h.2.2 b' hb').2.2⟩
       obtain ⟨w, hw, rfl⟩ := List.mem_map.1 hu
       split
       ·exact ha a (by simp)
       ·exact (h.2.2 b' hb').2.1 w hw
     ·cases e
 unfold becL at hy
 split at hy
 ·cases hy
 ·split at hy
  ·have := hK _ _ _ _ hc ht.2.1 hy
   exact ⟨rfl, this.2.1, fun a ha => this.2.2 a (List.mem_of_mem_eraseIdx ha)⟩
  ·cases hy
/- what a search has done -/
def DoneX (fz : Bool) (A O : List RAtom) (x : RItem) : Prop := ∀ h, SolD fz A x h → h ∈ A ∨ h ∈ O
theorem DoneX.mono {fz : Bool} {A O O' : List RAtom} {x : RItem} (h : DoneX fz A O x) (ho : ∀ a ∈ O, a ∈ O') : DoneX fz A O' x := fun a ha => (h a ha).imp id (ho a)
def SeenOk (fz : Bool) (A O : List RAtom) (mo : Int) (S : Tx → Prop) (m : Nat) : Prop := ∀ y, clI y → y.body.length ≤ m → S (keyL y) → (O.length : Int) ≤ mo → DoneX fz A O y
structure IntoR (fz : Bool) (A : List RAtom) (mo : Int) (x : RItem) (O : List RAtom) (S : Tx → Prop) (O' : List RAtom) (S' : Tx → Prop) : Prop where
 ext : ∃ nw, O' = O ++ nw ∧ ∀ h ∈ nw, SolD fz A x h ∧ h ∉ A
 nd : O'.Nodup
 len : (O'.length : Int) ≤ mo + 1
 done : (O'.length : Int) ≤ mo → DoneX fz A O' x
 seen : SeenOk fz A O' mo S' x.body.length
 sub : ∀ s, S s → S' s
 new : ∀ y, clI y → S' (keyL y) → S (keyL y) ∨ y.body.length ≤ x.body.length
theorem SeenOk.mono {fz : Bool} {A O O' : List RAtom} {mo : Int} {S S' : Tx → Prop} {m m' : Nat} (h : SeenOk fz A O mo S m) (he : ∃ nw, O' = O ++ nw) (hm : m' ≤ m) (hS : ∀ y, clI y → y.body.length ≤ m' → S' (keyL y) → S (keyL y)) : SeenOk fz A O' mo S' m' := fun y hy hl hs hle => by
 obtain ⟨nw, rfl⟩ := he
 exact (h y hy (by omega) (hS y hy hl hs) (by simp at hle; omega)).mono fun a ha => List.mem_append_left _ ha
theorem into_stop {fz : Bool} {A O : List RAtom} {mo : Int} {x : RItem} {S : Tx → Prop} (hnd : O.Nodup) (hlen : (O.length : Int) ≤ mo + 1) (hS : SeenOk fz A O mo S x.body.length) (h : (O.length : Int) ≤ mo → DoneX fz A O x) : IntoR fz A mo x O S O S :=
 ⟨⟨[], by simp, fun h hh => by simp at hh⟩, hnd, hlen, h, hS, fun _ h => h, fun y hy h => .inl h⟩
theorem seen_add {fz : Bool} {A O O' : List RAtom} {mo : Int} {x : RItem} {S : Tx → Prop} (hx : clI x) (hS : SeenOk fz A O mo S x.body.length) (he : ∃ nw, O' = O ++ nw) (hd : (O'.length : Int) ≤ mo → DoneX fz A O' x) : SeenOk fz A O' mo (fun s => S s ∨ s = keyL x) x.body.length := fun y hy hl hs hle => by
 rcases hs with hs | hs
 ·obtain ⟨nw, rfl⟩ := he
  exact (hS y hy hl hs (by simp at hle; omega)).mono fun a ha => List.mem_append_left _ ha
 ·rw [keyL_inj hy hx hs]; exact hd hle
theorem into_leaf {fz : Bool} {A O O' : List RAtom} {mo : Int} {x : RItem} {S : Tx → Prop} (hx : clI x) (hnd : O.Nodup) (hlen : (O.length : Int) ≤ mo) (hS : SeenOk fz A O mo S x.body.length) (hs : SafD fz x) (hn : ∀ a ∈ x.body, Pos fz a = false)
  (hnew : x.head ∉ A ∧ x.head ∉ O) (hO : ((∀ a ∈ x.body, unN a ∉ A) ∧ O' = O ++ [x.head]) ∨ (¬ (∀ a ∈ x.body, unN a ∉ A) ∧ O' = O)) : IntoR fz A mo x O S O' (fun s => S s ∨ s = keyL x) := by
 have he : ∃ nw, O' = O ++ nw := by
  rcases hO with ⟨-, rfl⟩ | ⟨-, rfl⟩
  ·exact ⟨_, rfl⟩
  ·exact ⟨[], by simp⟩
 have hd : DoneX fz A O' x := fun h hh => by
  rw [sol_leaf hs hn] at hh
  rcases hO with ⟨-, rfl⟩ | ⟨h', -⟩
  ·rw [hh.2]; exact .inr (by simp)
  ·exact absurd hh.1 h'
 refine ⟨?_, ?_, ?_, fun _ => hd, seen_add hx hS he fun _ => hd, fun _ h => .inl h, fun y hy h => ?_⟩
 ·rcases hO with ⟨h', rfl⟩ | ⟨-, rfl⟩
  ·exact ⟨_, rfl, fun h hh => by
    rw [List.mem_singleton] at hh
    subst hh
    exact ⟨(sol_leaf hs hn).2 ⟨h', rfl⟩, hnew.1⟩⟩
  ·exact ⟨[], by simp, fun h hh => by simp at hh⟩
 ·rcases hO with ⟨-, rfl⟩ | ⟨-, rfl⟩
  ·rw [List.nodup_append]
   exact ⟨hnd, by simp, fun a ha b hb => by rw [List.mem_singleton] at hb; subst hb; exact fun e => hnew.2 (e ▸ ha)⟩
  ·exact hnd
 ·rcases hO with ⟨-, rfl⟩ | ⟨-, rfl⟩
  ·simp; omega
  ·omega
 ·rcases h with h | h
  ·exact .inl h
  ·rw [keyL_inj hy hx h]; exact .inr (Nat.le_refl _)
structure LoopR (fz : Bool) (A : List RAtom) (mo : Int) (x : RItem) (j : Nat) (O : List RAtom) (S : Tx → Prop) (k : Nat) (O' : List RAtom) (S' : Tx → Prop) : Prop where
 ext : ∃ nw, O' = O ++ nw ∧ ∀ h ∈ nw, SolD fz A x h ∧ h ∉ A
 nd : O'.Nodup
 len : (O'.length : Int) ≤ mo + 1
 done : (O'.length : Int) ≤ mo → ∀ t ∈ A.take k, ∀ y, becL x j t = some y → DoneX fz A O' (woL y j)
 seen : SeenOk fz A O' mo S' (x.body.length - 1)
 sub : ∀ s, S s ∨ s = keyL x → S' s
 new : ∀ y, clI y → S' (keyL y) → S (keyL y) ∨ y = x ∨ y.body.length ≤ x.body.length - 1
theorem loop_start {fz : Bool} {A O : List RAtom} {mo : Int} {x : RItem} {j : Nat} {S : Tx → Prop} (hx : clI x) (hb : 0 < x.body.length) (hnd : O.Nodup) (hlen : (O.length : Int) ≤ mo + 1) (hS : SeenOk fz A O mo S x.body.length) : LoopR fz A mo x j O S 0 O (fun s => S s ∨ s = keyL x) :=
 ⟨⟨[], by simp, fun h hh => by simp at hh⟩, hnd, hlen, fun _ t ht => by simp at ht,
  hS.mono ⟨[], by simp⟩ (by omega) (fun y hy hl hs => by
   rcases hs with hs | hs
   ·exact hs
   ·have := keyL_inj hy hx hs; subst this; omega),
  fun _ h => h, fun y hy h => by
   rcases h with h | h
   ·exact .inl h
   ·exact .inr (.inl (keyL_inj hy hx h))⟩
theorem loop_none {fz : Bool} {A : List RAtom} {mo : Int} {x : RItem} {j : Nat} {O : List RAtom} {S : Tx → Prop} {k : Nat} {O' : List RAtom} {S' : Tx → Prop} (h : LoopR fz A mo x j O S k O' S') {t : RAtom} (ht : A[k]? = some t) (hn : becL x j t = none) : LoopR fz A mo x j O S (k + 1) O' S' :=
 ⟨h.ext, h.nd, h.len, fun hl t' ht' y hy => (by
  rw [List.take_add_one, ht] at ht'
  rcases List.mem_append.1 ht' with h' | h'
  ·exact h.done hl t' h' y hy
  ·simp at h'; subst h'; rw [hn] at hy; cases hy), h.seen, h.sub, h.new⟩
theorem loop_some {fz : Bool} {A : List RAtom} {mo : Int} {x : RItem} {j : Nat} {b : RAtom} {O : List RAtom} {S : Tx → Prop} {k : Nat} {O' : List RAtom} {S' : Tx → Prop} (hA : ∀ a ∈ A, Gnd a) (ho : x.out = false) (hb : x.body[j]? = some b) (hp : Pos fz b = true)
  (h : LoopR fz A mo x j O S k O' S') {t : RAtom} (ht : A[k]? = some t) {y : RItem} (hy : becL x j t = some y) {O2 : List RAtom} {S2 : Tx → Prop} (g : IntoR fz A mo (woL y j) O' S' O2 S2) (hl : (woL y j).body.length = x.body.length - 1) : LoopR fz A mo x j O S (k + 1) O2 S2 := by
 obtain ⟨n1, e1, f1⟩ := h.ext
 obtain ⟨n2, e2, f2⟩ := g.ext
 have htm := List.mem_of_getElem? ht
 refine ⟨⟨n1 ++ n2, by rw [e2, e1, List.append_assoc], fun a ha => ?_⟩, g.nd, g.len, fun hle t' ht' y' hy' => ?_, by rw [← hl]; exact g.seen, fun s hs => g.sub s (h.sub s hs), fun z hz hs => ?_⟩
 ·rcases List.mem_append.1 ha with h' | h'
  ·exact f1 a h'
  ·obtain ⟨g1, g2⟩ := f2 a h'
   exact ⟨(sol_step hA ho hb hp).2 ⟨t, htm, y, hy, g1⟩, g2⟩
 ·rw [List.take_add_one, ht] at ht'
  rcases List.mem_append.1 ht' with h' | h'
  ·exact (h.done (by rw [e2] at hle; simp at hle; omega) t' h' y' hy').mono fun a ha => by rw [e2]; exact List.mem_append_left _ ha
  ·simp at h'
   subst h'
   rw [hy] at hy'
   cases hy'
   exact g.done hle
 ·rcases g.new z hz hs with h' | h'
  ·exact h.new z hz h'
  ·exact .inr (.inr (by omega))
theorem loop_end {fz : Bool} {A : List RAtom} {mo : Int} {x : RItem} {j : Nat} {b : RAtom} {O : List RAtom} {S : Tx → Prop} {O' : List RAtom} {S' : Tx → Prop} (hA : ∀ a ∈ A, Gnd a) (hx : clI x) (hb : x.body[j]? = some b) (hp : Pos fz b = true) (hS : SeenOk fz A O mo S x.body.length)
  (h : LoopR fz A mo x j O S A.length O' S') : IntoR fz A mo x O S O' S' := by
 have hd : (O'.length : Int) ≤ mo → DoneX fz A O' x := fun hle a ha => by
  obtain ⟨t, ht, y, hy, hs⟩ := (sol_step hA hx.1 hb hp).1 ha
  exact h.done hle t (by rw [List.take_length]; exact ht) y hy a hs
 obtain ⟨nw, e, f⟩ := h.ext
 refine ⟨⟨nw, e, f⟩, h.nd, h.len, hd, fun y hy hl hs hle => ?_, fun s hs => h.sub s (.inl hs), fun y hy hs => ?_⟩
 ·rcases h.new y hy hs with h' | h' | h'
  ·exact (hS y hy hl h' (by rw [e] at hle; simp at hle; omega)).mono fun a ha => by rw [e]; exact List.mem_append_left _ ha
  ·rw [h']; exact hd hle
  ·exact h.seen y hy h' hs hle
 ·rcases h.new y hy hs with h' | h' | h'
  ·exact .inl h'
  ·rw [h']; exact .inr (Nat.le_refl _)
  ·exact .inr (by omega)
end Go.Proofs.YtmoeoppbmhfbpaaGreatDoorY
