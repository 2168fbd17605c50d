import Derived.Test.YtmoeoppbmhfbpaaGreatDoorXAwk
import Derived.Test.YtmoeoppbmhfbpaaGreatDoorXTxtL
import Derived.Test.YtmoeoppbmhfbpaaGreatDoorXTxtM
/- What the pass s leaves. Pure. -/
namespace Go.Proofs.YtmoeoppbmhfbpaaGreatDoorX
open Go.Abs
set_option linter.unusedSimpArgs false
set_option linter.unusedVariables false
/-! ### Fewer items, or fewer literals: still right -/
theorem odd_none {l : List RItem} {ar : Tx → Nat} (h : ArOf l ar) (i : Nat) : oddP l i = false := by
 unfold oddP
 cases hx : l[i]? with
 | none => rfl
 | some x =>
  simp only
  rw [List.any_eq_false]
  intro j _
  unfold oddAt
  cases ha : (atomsL x)[j]? with
  | none => simp
  | some a =>
   simp only [Bool.not_eq_true]
   rw [List.any_eq_false]
   intro b hb
   have hxm := List.mem_of_getElem? hx
   have h1 := h x hxm a (List.mem_of_getElem? ha)
   have h2 : b.terms.length = ar b.pred := by
    rcases List.mem_append.1 hb with hb | hb
    ·obtain ⟨y, hy, hby⟩ := List.mem_flatMap.1 hb
     exact h y (List.mem_of_mem_take hy) b hby
    ·exact h x hxm b (List.mem_of_mem_take hb)
   unfold clash
   simp only [Bool.and_eq_true, beq_iff_eq, decide_eq_true_eq, not_and, ne_eq, Decidable.not_not]
   intro e
   rw [h1, h2, e]
theorem wrong_sub {l l' : List RItem} {ar : Tx → Nat} (hA : ArOf l' ar) (hs : ∀ x ∈ l', safeB x = true) (hw : (wrongM l).1 = 0) (ho : ∀ x ∈ l, x.out = true → x.body = []) (ho' : ∀ x ∈ l', x.out = true → x.body = [])
  (hsub : ∀ x ∈ l', ∃ y ∈ l, y.out = x.out ∧ y.head.pred = x.head.pred ∧ ∀ a ∈ x.body, a ∈ y.body) : wrongM l' = (0, 0) := by
 have hk : ∀ i, i < l.length → knotP l i = false := by
  unfold wrongM at hw
  split at hw
  ·cases hw
  ·split at hw
   ·cases hw
   ·split at hw
    ·cases hw
    ·rename_i h; exact firstM_neg h
 have hsubw : ∀ p q, atOnce l' p q → atOnce l p q := fun p q ⟨x, hx, h1, a, ha, h2⟩ => by
  obtain ⟨y, hy, -, e, hb⟩ := hsub x hx
  exact ⟨y, hy, e.trans h1, a, hb a ha, h2⟩
 have hk' : ∀ i, i < l'.length → knotP l' i = false := fun i hi => by
  unfold knotP
  rw [List.getElem?_eq_getElem hi]
  simp only
  have hx := List.getElem_mem hi
  generalize l'[i] = x at hx
  rw [List.any_eq_false]
  intro a ha hbad
  obtain ⟨y, hy, e1, e2, hb⟩ := hsub x hx
  obtain ⟨j, hj⟩ := List.getElem?_of_mem hy
  have := hk j (List.getElem?_eq_some_iff.1 hj).1
  unfold knotP at this
  rw [hj] at this
  simp only at this
  refine List.any_eq_false.1 this a (hb a ha) ?_
  unfold badK at hbad ⊢
  simp only [Bool.and_eq_true, Bool.or_eq_true, beq_iff_eq] at hbad ⊢
  refine ⟨hbad.1, ?_⟩
  rw [e2]
  have hxo : x.out = false := by
   cases h : x.out with
   | false => rfl
   | true => rw [ho' x hx h] at ha; cases ha
  rcases hbad.2 with h | h
  ·exact .inl h
  ·refine .inr ?_
   rw [usesB_iff ho' ⟨x, hx, hxo, rfl⟩] at h
   rw [usesB_iff ho ⟨y, hy, e1.trans hxo, e2⟩]
   exact h.map' hsubw
 unfold wrongM
 rw [if_neg (by rw [firstN_none fun i _ => odd_none hA i]; decide), if_neg (by
  rw [firstN_none fun i hi => ?_]
  ·decide
  ·unfold unsafeP
   rw [List.getElem?_eq_getElem hi]
   simp only
   rw [hs _ (List.getElem_mem hi)]; rfl), if_neg (by rw [firstN_none hk']; decide)]
/-! ### What is wanted -/
def Wnt (l : List RItem) (q : Tx) : Prop := ∃ x ∈ l, x.out = true ∧ (x.head.pred = q ∨ Way (atOnce l) x.head.pred q)
theorem fw_way {N : List Tx} {l : List RItem} {M : Nat → Nat → Bool} (hN : ∀ x ∈ l, x.head.pred ∈ N ∧ ∀ a ∈ x.body, a.pred ∈ N) (hM : isOnce N l M) {p q : Tx} (hp : p ∈ N) (hq : q ∈ N) : fwR N.length M N.length (N.idxOf p) (N.idxOf q) = true ↔ Way (atOnce l) p q := by
 have hS : Supp N.length M := by
  intro a b hab
  obtain ⟨x, hx, rfl, c, hc, rfl⟩ := (hM a b).1 hab
  exact ⟨List.idxOf_lt_length_of_mem (hN x hx).1, List.idxOf_lt_length_of_mem ((hN x hx).2 c hc)⟩
 rw [fwR_iff hS]
 constructor
 ·intro w
  obtain ⟨p', q', hp', hq', e1, e2, w'⟩ := way_names hN (w.map' fun a b h => (hM a b).1 h)
  rw [← idx_inj hp' hp e1, ← idx_inj hq' hq e2]; exact w'
 ·intro w
  exact (way_places w).map' fun a b h => (hM a b).2 h
theorem want_iff {N : List Tx} {l : List RItem} {M : Nat → Nat → Bool} (hN : ∀ x ∈ l, x.head.pred ∈ N ∧ ∀ a ∈ x.body, a.pred ∈ N) (hM : isOnce N l M) {q : Tx} (hq : q ∈ N) : wantB N (fwR N.length M N.length) l (N.idxOf q) = true ↔ Wnt l q := by
 unfold wantB Wnt
 simp only [List.any_eq_true, Bool.and_eq_true, Bool.or_eq_true, decide_eq_true_eq]
 constructor
 ·rintro ⟨x, hx, ho, h⟩
  refine ⟨x, hx, ho, ?_⟩
  rcases h with h | h
  ·exact .inl (idx_inj (hN x hx).1 hq h)
  ·exact .inr ((fw_way hN hM (hN x hx).1 hq).1 h)
 ·rintro ⟨x, hx, ho, h⟩
  refine ⟨x, hx, ho, ?_⟩
  rcases h with rfl | h
  ·exact .inl rfl
  ·exact .inr ((fw_way hN hM (hN x hx).1 hq).2 h)
theorem Wnt.next {l : List RItem} {q r : Tx} (h : Wnt l q) (e : atOnce l q r) : Wnt l r := by
 obtain ⟨x, hx, ho, h⟩ := h
 refine ⟨x, hx, ho, .inr ?_⟩
 rcases h with rfl | h
 ·exact .one e
 ·exact h.join (.one e)
def Kpt (l l' : List RItem) : Prop := ∃ f : RItem → Bool, (∀ x ∈ l, f x = true ↔ Wnt l x.head.pred) ∧ l' = l.filter f
theorem kept_of {N : List Tx} {l : List RItem} {M : Nat → Nat → Bool} (hN : ∀ x ∈ l, x.head.pred ∈ N ∧ ∀ a ∈ x.body, a.pred ∈ N) (hM : isOnce N l M) : Kpt l (keptL N (fwR N.length M N.length) l) :=
 ⟨_, fun x hx => want_iff hN hM (hN x hx).1, rfl⟩
theorem filter_ext {α : Type} {l : List α} {f g : α → Bool} (h : ∀ x ∈ l, f x = g x) : l.filter f = l.filter g := List.filter_congr h
theorem Kpt.uniq {l a b : List RItem} (h : Kpt l a) (g : Kpt l b) : a = b := by
 obtain ⟨f, h1, rfl⟩ := h
 obtain ⟨f', g1, rfl⟩ := g
 exact filter_ext fun x hx => Bool.eq_iff_iff.2 ((h1 x hx).trans (g1 x hx).symm)
theorem Kpt.mem {l K : List RItem} (h : Kpt l K) {x : RItem} : x ∈ K ↔ x ∈ l ∧ Wnt l x.head.pred := by
 obtain ⟨f, h1, rfl⟩ := h
 rw [List.mem_filter]
 exact ⟨fun ⟨a, b⟩ => ⟨a, (h1 x a).1 b⟩, fun ⟨a, b⟩ => ⟨a, (h1 x a).2 b⟩⟩
theorem Kpt.way {l K : List RItem} (h : Kpt l K) {p q : Tx} (w : Way (atOnce l) p q) : Wnt l p → Way (atOnce K) p q := by
 induction w with
 | one e =>
  intro hp
  obtain ⟨x, hx, rfl, a, ha, rfl⟩ := e
  exact .one ⟨x, h.mem.2 ⟨hx, hp⟩, rfl, a, ha, rfl⟩
 | more e _ ih =>
  intro hp
  have h2 := ih (hp.next e)
  obtain ⟨x, hx, rfl, a, ha, rfl⟩ := e
  exact .more ⟨x, h.mem.2 ⟨hx, hp⟩, rfl, a, ha, rfl⟩ h2
theorem Kpt.want {l K : List RItem} (h : Kpt l K) {q : Tx} (hq : Wnt l q) : Wnt K q := by
 obtain ⟨x, hx, ho, hq⟩ := hq
 have hxw : Wnt l x.head.pred := ⟨x, hx, ho, .inl rfl⟩
 refine ⟨x, h.mem.2 ⟨hx, hxw⟩, ho, ?_⟩
 rcases hq with hq | hq
 ·exact .inl hq
 ·exact .inr (h.way hq hxw)
theorem Kpt.again {l K K2 : List RItem} (h : Kpt l K) (g : Kpt K K2) : K2 = K := by
 obtain ⟨f, g1, rfl⟩ := g
 exact List.filter_eq_self.2 fun x hx => (g1 x hx).2 (h.want (h.mem.1 hx).2)
theorem uItems_filter (f : RItem → Bool) : ∀ l : List RItem, (uItems (l.filter f)).length ≤ (uItems l).length
 | [] => Nat.le_refl _
 | x :: l => by
  have ih := uItems_filter f l
  have e : ∀ l : List RItem, uItems (x :: l) = (uItem x ++ [46]) ++ uItems l := fun l => by simp [uItems]
  cases hf : f x with
  | true =>
   rw [List.filter_cons_of_pos hf]
   simp only [e, List.length_append]
   omega
  | false =>
   rw [List.filter_cons_of_neg (by simp [hf])]
   simp only [e, List.length_append]
   omega
theorem kept_beh {N : List Tx} {ar : Tx → Nat} {l K : List RItem} (hR : RtL N ar l) (hA : ArOf l ar) (hs : ∀ x ∈ l, safeB x = true) (hw : (wrongM l).1 = 0) (hlen : (uItems l).length ≤ 600) (hN : ∀ x ∈ l, x.head.pred ∈ N ∧ ∀ a ∈ x.body, a.pred ∈ N) (h : Kpt l K) : behB N l K = true := by
 have hm : ∀ x ∈ K, x ∈ l := fun x hx => (h.mem.1 hx).1
 have h1 : limB K = true := by
  unfold limB
  simp only [Bool.and_eq_true, decide_eq_true_eq, List.all_eq_true]
  obtain ⟨f, -, rfl⟩ := h
  exact ⟨Nat.le_trans (List.length_filter_le _ _) hR.gl.len, fun x hx => hR.b5 x (hm x hx), Nat.le_trans (uItems_filter f l) hlen⟩
 have h2 : lackB N K l = false := by
  unfold lackB
  rw [List.any_eq_false]
  intro k _ hk
  simp only [Bool.and_eq_true, Bool.not_eq_true'] at hk
  obtain ⟨⟨hr, hnr⟩, hnm⟩ := hk
  unfold ruledN at hr hnr
  unfold namedN at hnm
  obtain ⟨y, hy, hyr⟩ := List.any_eq_true.1 hr
  simp only [Bool.and_eq_true, Bool.not_eq_true', decide_eq_true_eq] at hyr
  have hyw : Wnt l y.head.pred := by
   obtain ⟨x, hx, hxn⟩ := List.any_eq_true.1 hnm
   simp only [Bool.or_eq_true, decide_eq_true_eq, List.any_eq_true] at hxn
   have hxl := h.mem.1 hx
   rcases hxn with hxn | ⟨a, ha, hxn⟩
   ·rw [idx_inj (hN y hy).1 (hN x hxl.1).1 (by omega)]; exact hxl.2
   ·rw [idx_inj (hN y hy).1 ((hN x hxl.1).2 a ha) (by omega)]
    exact hxl.2.next ⟨x, hxl.1, rfl, a, ha, rfl⟩
  refine List.any_eq_false.1 hnr y (h.mem.2 ⟨hy, hyw⟩) ?_
  simp [hyr.1, hyr.2]
 have h3 : wrongM K = (0, 0) := wrong_sub (l := l) (ar := ar) (fun x hx => hA x (hm x hx)) (fun x hx => hs x (hm x hx)) hw (fun x hx => (hR.gl.msr x hx).out) (fun x hx => (hR.gl.msr x (hm x hx)).out) fun x hx => ⟨x, hm x hx, rfl, rfl, fun a ha => ha⟩
 unfold behB
 rw [h1, h2, h3]
 rfl
theorem sliced_runs {N : List Tx} {ar : Tx → Nat} {l l' : List RItem} {b m : Int} (hb : 1 ≤ b) (hR : RtL N ar l) (hA : ArOf l ar) (hs : ∀ x ∈ l, safeB x = true) (hw : (wrongM l).1 = 0) (hlen : (uItems l).length ≤ 600) (hN : ∀ x ∈ l, x.head.pred ∈ N ∧ ∀ a ∈ x.body, a.pred ∈ N) (h : Pss N b l 0 [115] l' m) :
  Kpt l l' ∧ m = if l'.length < l.length then 1 else 0 := by
 have hP : Pass N 115 b l 0 l' m := by
  have key : ∀ {ps : Tx} {l' : List RItem} {m : Int}, Pss N b l 0 ps l' m → (ps = [] → l' = l ∧ m = 0) ∧ (ps = [115] → Pass N 115 b l 0 l' m) := fun h => by
   induction h with
   | nil => exact ⟨fun _ => ⟨rfl, rfl⟩, (fun e => by cases e)⟩
   | @snoc ps c l1 l2 m1 m2 _ hP ih =>
    refine ⟨(fun e => by simp at e), fun e => ?_⟩
    have e' : ps = [] ∧ c = 115 := by
     cases ps with
     | nil => simpa using e
     | cons a r => simp at e
    obtain ⟨rfl, rfl⟩ := e'
    obtain ⟨rfl, rfl⟩ := ih.1 rfl
    exact hP
  exact (key h).2 rfl
 -- what one step tells
 have hst : ∀ {l : List RItem} {o : Option (List RItem)}, Step N 115 l o → StS N l o := fun h => by
  rcases h with ⟨-, h⟩ | ⟨h, -⟩ | ⟨h, -⟩
  ·exact h
  ·exact absurd h (by decide)
  ·exact absurd h (by decide)
 have s1 : ∀ {K : List RItem}, Kpt l K → ∀ {o : Option (List RItem)}, Step N 115 l o → (K.length = l.length ∧ o = none) ∨ (K.length ≠ l.length ∧ o = some K) := fun {K} hK {o} h => by
  obtain ⟨M, hM, h⟩ := hst h
  have e := (kept_of hN hM).uniq hK
  rw [e] at h
  rcases h with h | ⟨h, ⟨h2, -⟩ | ⟨-, h2⟩⟩
  ·exact .inl h
  ·rw [kept_beh hR hA hs hw hlen hN hK] at h2; cases h2
  ·exact .inr ⟨h, h2⟩
 have s2 : ∀ {K : List RItem}, Kpt l K → ∀ {o : Option (List RItem)}, Step N 115 K o → o = none := fun {K} hK {o} h => by
  obtain ⟨M, hM, h⟩ := hst h
  have hNK : ∀ x ∈ K, x.head.pred ∈ N ∧ ∀ a ∈ x.body, a.pred ∈ N := fun x hx => hN x (hK.mem.1 hx).1
  have e := hK.again (kept_of hNK hM)
  rw [e] at h
  rcases h with h | ⟨h, -⟩
  ·exact h.2
  ·exact absurd rfl h
 obtain ⟨K, hK⟩ : ∃ K, Kpt l K := by
  classical
  exact ⟨_, fun x => decide (Wnt l x.head.pred), fun x _ => decide_eq_true_iff, rfl⟩
 have hKl : K.length ≤ l.length := by obtain ⟨f, -, rfl⟩ := hK; exact List.length_filter_le _ _
 have key : ∀ {l' : List RItem} {m : Int}, Chg N 115 b l 0 l' m → (l' = l ∧ m = 0) ∨ (K.length ≠ l.length ∧ l' = K ∧ m = 1) := fun h => by
  induction h with
  | refl => exact .inl ⟨rfl, rfl⟩
  | snoc _ _ hstp ih =>
   rcases ih with ⟨rfl, rfl⟩ | ⟨hne, rfl, rfl⟩
   ·rcases s1 hK hstp with ⟨-, h⟩ | ⟨hne, h⟩
    ·cases h
    ·cases h; exact .inr ⟨hne, rfl, rfl⟩
   ·have := s2 hK hstp; cases this
 rcases key hP.1 with ⟨rfl, rfl⟩ | ⟨hne, rfl, rfl⟩
 ·rcases hP.2 with h | h
  ·omega
  ·rcases s1 hK h with ⟨he, -⟩ | ⟨-, h⟩
   ·have : K = l' := by
     obtain ⟨f, h1, rfl⟩ := hK
     exact List.filter_eq_self.2 fun x hx => by
      have := List.length_filter_eq_length_iff.1 he x hx
      exact this
    rw [this] at hK
    exact ⟨hK, by simp⟩
   ·cases h
 ·exact ⟨hK, by rw [if_pos (by omega)]⟩
/- Sliced: what the pass s leaves, by the texts alone; refused and awake, walked. -/
set_option maxRecDepth 100000
def pcT (x : RItem) : Tx := uItem x ++ [46]
theorem pc_out {x : RItem} (h : WItem x) : outB (pcT x) = x.out := by
 unfold outB pcT uItem
 cases ho : x.out with
 | true => simp
 | false =>
  obtain ⟨h1, h2, h3, h4⟩ := h.2.2 ho
  rw [if_neg (by simp)]
  unfold uRule uAtom
  obtain ⟨b, r, e⟩ := List.exists_cons_of_ne_nil h1.1.1
  rw [e]
  have hb := h1.1.2 b (by rw [e]; simp)
  have : b ≠ 63 := fun e => by subst e; revert hb; decide
  simp [this]
theorem pc_hd {x : RItem} (h : WItem x) : hdL (pcT x) = x.head.pred := by
 unfold hdL pcT
 rw [prs_item h]; rfl
theorem want_pieces {l : List RItem} (h : ∀ x ∈ l, WItem x) (ho : ∀ x ∈ l, x.out = true → x.body = []) (q : Tx) : WantT (l.map pcT) q ↔ Wnt l q := by
 constructor
 ·intro w
  induction w with
  | out hp ho =>
   obtain ⟨x, hx, rfl⟩ := List.mem_map.1 hp
   rw [pc_hd (h x hx)]
   rw [pc_out (h x hx)] at ho
   exact ⟨x, hx, ho, .inl rfl⟩
  | rule hp ho _ hq ih =>
   obtain ⟨x, hx, rfl⟩ := List.mem_map.1 hp
   rw [pc_hd (h x hx)] at ih
   unfold pcT at hq
   rw [prs_item (h x hx)] at hq
   rcases List.mem_cons.1 hq with rfl | hq
   ·exact ih
   ·obtain ⟨a, ha, rfl⟩ := List.mem_map.1 hq
    exact ih.next ⟨x, hx, rfl, a, ha, rfl⟩
 ·have key : ∀ {p r : Tx}, Way (atOnce l) p r → WantT (l.map pcT) p → WantT (l.map pcT) r := fun w => by
   have one : ∀ {p r : Tx}, atOnce l p r → WantT (l.map pcT) p → WantT (l.map pcT) r := fun ⟨x, hx, e1, a, ha, e2⟩ hw => by
    have hxo : x.out = false := by
     cases h : x.out with
     | false => rfl
     | true => rw [ho x hx h] at ha; cases ha
    subst e1; subst e2
    refine WantT.rule (p := pcT x) (List.mem_map.2 ⟨x, hx, rfl⟩) (by rw [pc_out (h x hx)]; exact hxo) (by rw [pc_hd (h x hx)]; exact hw) ?_
    unfold pcT
    rw [prs_item (h x hx)]
    exact List.mem_cons_of_mem _ (List.mem_map.2 ⟨a, ha, rfl⟩)
   induction w with
   | one e => exact one e
   | more e _ ih => exact fun hw => ih (one e hw)
  rintro ⟨x, hx, hxo, hq⟩
  have h0 : WantT (l.map pcT) x.head.pred := by
   have := WantT.out (l := l.map pcT) (p := pcT x) (List.mem_map.2 ⟨x, hx, rfl⟩) (by rw [pc_out (h x hx)]; exact hxo)
   rwa [pc_hd (h x hx)] at this
  rcases hq with rfl | w
  ·exact h0
  ·exact key w h0
theorem filter_map_of {l : List RItem} {f : RItem → Bool} {g : Tx → Bool} (h : ∀ x ∈ l, g (pcT x) = f x) : (l.map pcT).filter g = (l.filter f).map pcT := by
 induction l with
 | nil => rfl
 | cons x l ih =>
  have h1 := h x (by simp)
  have h2 := ih fun y hy => h y (by simp [hy])
  rw [List.map_cons, List.filter_cons, List.filter_cons, h1, h2]
  split <;> simp
structure SlA (t T : Tx) (m : Int) : Prop where
 lt : t.length ≤ 600
 lT : T.length ≤ 600
 few : (pcsL t).length ≤ 16
 sh : ∀ p ∈ pcsL t, p.length ≤ 100000 ∧ (prsL p).length ≤ 1000
 kp : ∀ g : Tx → Bool, (∀ p ∈ pcsL t, g p = true ↔ (outB p = true ∨ WantT (pcsL t) (hdL p))) →
  m = (if ((pcsL t).filter g).length < (pcsL t).length then 1 else 0) ∧ ((pcsL t).filter g).length = (pcsL T).length ∧ ∀ (i : Nat) (p q : Tx), ((pcsL t).filter g)[i]? = some p → (pcsL T)[i]? = some q → RnT p q
theorem piece_le : ∀ l : List RItem, ∀ y ∈ l, (pcT y).length ≤ (uItems l).length
 | [], y, hy => by cases hy
 | z :: l, y, hy => by
  have e : uItems (z :: l) = pcT z ++ uItems l := by simp [uItems, pcT]
  simp only [e, List.length_append]
  rcases List.mem_cons.1 hy with rfl | hy
  ·omega
  ·have := piece_le l y hy
   omega
theorem opt_sliced {t : Tx} {b : Int} (hb : 1 ≤ b) {r : Tx × Int × Int} (h : pOptR t [115] b r) : (r.1 = [] ∧ r.2.1 = 0 ∧ r.2.2 = (refCheck t).1 ∧ r.2.2 ≠ 0) ∨ (r.2.2 = 0 ∧ SlA t r.1 r.2.1) := by
 unfold pOptR at h
 split at h
 ·rename_i he
  exact .inl (by rw [h]; exact ⟨rfl, rfl, rfl, he⟩)
 ·rename_i he
  have he : (refCheck t).1 = 0 := Classical.not_not.1 he
  rw [if_neg (by decide), if_neg (by omega)] at h
  obtain ⟨N, l, cs, ar, l', m, hR, hA, hRl, hP, rfl⟩ := h
  refine .inr ⟨rfl, ?_⟩
  have htook := pItems_took _ _ _ _ hR.parse
  have ht : t = uItems l := htook.1
  have hw : (wrongM l).1 = 0 := by
   have := hR.ok
   unfold refCheck at this
   split at this
   ·simp at this
   ·split at this
    ·simp at this
    ·rw [hR.items] at this; exact this
  have hs : ∀ x ∈ l, safeB x = true := fun x hx => right_safe hR.ok x (by rw [hR.items]; exact hx)
  have hN : ∀ x ∈ l, x.head.pred ∈ N ∧ ∀ a ∈ x.body, a.pred ∈ N := fun x hx => EL_PI_mem hR.bk.el x hx
  have hlen : (uItems l).length ≤ 600 := by rw [← ht]; exact hR.len
  have hRt := hR.rt hA
  have ho : ∀ x ∈ l, x.out = true → x.body = [] := fun x hx => (hRt.gl.msr x hx).out
  obtain ⟨hK, hm⟩ := sliced_runs hb hRt hA hs hw hlen hN hP
  have hpt : pcsL t = l.map pcT := by rw [ht]; exact pcs_items hR.wit
  have hwl' : ∀ x ∈ l', WItem x := hRl.wit
  have hu := whole_u hwl'
  have hpT : pcsL (wholeL l') = (l'.map ren).map pcT := by
   rw [hu]
   exact pcs_items fun y hy => by
    obtain ⟨z, hz, rfl⟩ := List.mem_map.1 hy
    exact ren_WItem (hwl' z hz) (hRl.wi z hz)
  have hl'l : ∀ x ∈ l', x ∈ l := fun x hx => (hK.mem.1 hx).1
  have hle' : (uItems l').length ≤ 600 := by
   obtain ⟨f, -, rfl⟩ := hK
   exact Nat.le_trans (uItems_filter f l) hlen
  refine ⟨hR.len, ?_, by rw [hpt, List.length_map]; exact hR.bk.len, ?_, ?_⟩
  ·simp only
   rw [hu]
   exact Nat.le_trans (uItems_le l' hwl') hle'
  ·rw [hpt]
   intro p hp
   obtain ⟨x, hx, rfl⟩ := List.mem_map.1 hp
   refine ⟨by have := piece_le l x hx; omega, ?_⟩
   unfold pcT
   rw [prs_item (hR.wit x hx)]
   have := hRt.b5 x hx
   simp; omega
  ·intro g hg
   rw [hpt] at hg ⊢
   have hf : (l.map pcT).filter g = l'.map pcT := by
    obtain ⟨f, hf, rfl⟩ := hK
    refine filter_map_of fun x hx => Bool.eq_iff_iff.2 ?_
    rw [hg _ (List.mem_map.2 ⟨x, hx, rfl⟩), hf x hx, want_pieces hR.wit ho, pc_out (hR.wit x hx), pc_hd (hR.wit x hx)]
    exact ⟨fun h => h.elim (fun h => ⟨x, hx, h, .inl rfl⟩) id, .inr⟩
   rw [hf]
   simp only
   refine ⟨by simpa using hm, by rw [hpT]; simp, fun i p q hp hq => ?_⟩
   rw [hpT] at hq
   simp only [List.getElem?_map, Option.map_eq_some_iff] at hp hq
   obtain ⟨x, hx, rfl⟩ := hp
   obtain ⟨y, ⟨z, hz, rfl⟩, rfl⟩ := hq
   rw [hx] at hz
   cases hz
   have hxm := List.mem_of_getElem? hx
   refine rnT_of (hwl' x hxm) (fun a ha => ((hRl.gl.msr x hxm).at_ a ha).2.2) (by have := ord18 (hwl' x hxm); omega) ?_
   have := piece_le l' x hxm
   unfold pcT at this
   omega
set_option maxHeartbeats 8000000 in
theorem krefused_spec (t : Tx) (σ : St) : ACalls Tryz.prog 30 [str t, str [], sc (.int .i64 0), sc (.int .i64 (refCheck t).1)] σ fun r σ' => r = sc (.bool true) ∧ Keep σ σ' := by
 have hC := fun σ => check_spec t σ
 generalize refCheck t = r at *
 obtain ⟨e, pl⟩ := r
 have he : (([] : Tx) == []) = true := rfl
 have hee : (e == e) = true := by simp
 have hc1 : ({ data := #[] } : ByteArray) = bs [] := rfl
 simp only at *
 refine acalls 27 [.tmp 8] Tryz.func30 rfl (by decide) rfl rfl (Nat.le_of_ble_eq_true rfl) ?_
 repeat' (first
 |with_reducible first|apply Xa|apply Xb|(refine Xc ?_;intro κ hκ)|(apply hκ.out;clear hκ κ)|apply Xd|apply Xe|apply Xf
 |((with_reducible first|refine Xl ?_ ?_|refine Xk ?_ ?_)<;> intro h hari<;> try exact Xp)
 |((with_reducible refine Xh ?_);refine Xi (hC _) ?_;rintro _ _ ⟨rfl,hK1⟩;(have kno1:=hK1.nobj))
 |refine Xr ?_
 |exact True.intro
 |(apply hκ.out;clear hκ κ))
 first | exact ⟨_, rfl, rfl, hK1⟩ | exact ⟨_, rfl, hK1⟩ | exact ⟨_, rfl, rfl⟩
set_option maxHeartbeats 8000000 in
theorem kawake_spec (σ : St) : ACalls Tryz.prog 28 [] σ fun r σ' => r = sc (.bool true) ∧ Keep σ σ' := by
 have hO := fun σ => pOptimise_spec tAw [97, 114] 9 (by omega) (by intro c hc; simp at hc; rcases hc with rfl | rfl <;> simp) σ
 have hc1 : ({ data := #[112, 40, 65, 41, 58, 45, 101, 40, 65, 44, 66, 41, 44, 102, 40, 66, 41, 46, 112, 40, 88, 41, 58, 45, 101, 40, 88, 44, 89, 41, 44, 101, 40, 88, 44, 90, 41, 46, 63, 112, 46] } : ByteArray) = bs tAw := rfl
 have hc2 : ({ data := #[97, 114] } : ByteArray) = bs [97, 114] := rfl
 have hc3 : ({ data := #[112, 40, 65, 41, 58, 45, 101, 40, 65, 44, 66, 41, 46, 63, 112, 46] } : ByteArray) = bs [112, 40, 65, 41, 58, 45, 101, 40, 65, 44, 66, 41, 46, 63, 112, 46] := rfl
 have hkn : (([112, 40, 65, 41, 58, 45, 101, 40, 65, 44, 66, 41, 46, 63, 112, 46] : Tx) == [112, 40, 65, 41, 58, 45, 101, 40, 65, 44, 66, 41, 46, 63, 112, 46]) = true := rfl
 refine acalls 19 [.tmp 0] Tryz.func28 rfl (by decide) rfl rfl (Nat.le_of_ble_eq_true rfl) ?_
 repeat' (first
 |with_reducible first|apply Xa|apply Xb|(refine Xc ?_;intro κ hκ)|(apply hκ.out;clear hκ κ)|apply Xd|apply Xe|apply Xf
 |((with_reducible first|refine Xl ?_ ?_|refine Xk ?_ ?_)<;> intro h hari<;> try exact Xp)
 |((with_reducible refine Xh ?_);refine Xi (hO _) ?_;rintro _ _ ⟨p0,rfl,hp0,hK1⟩;(have e0:=awake_known hp0;subst e0;clear hp0;have kno1:=hK1.nobj))
 |refine Xr ?_
 |exact True.intro
 |(apply hκ.out;clear hκ κ))
 first | exact ⟨_, rfl, rfl, hK1⟩ | exact ⟨_, rfl, hK1⟩ | exact ⟨_, rfl, rfl⟩
/- Sliced, walked. -/
set_option maxHeartbeats 32000000 in
theorem sliced_spec (t : Tx) (c : Int) (h0 : -9223372036854775808 ≤ c) (h1 : c ≤ 9223372036854775807) (σ : St) : ACalls Tryz.prog 13 [str t, sc (.int .i64 c)] σ fun r σ' => r = sc (.bool true) ∧ Keep σ σ' := by
 have hAw := fun σ => kawake_spec σ
 have hPk := fun σ => kpick_spec c h0 h1 σ
 have hOp := fun (b : Int) (hb : b ≤ 9223372036854775807) σ => pOptimise_spec t [115] b hb (by intro c hc; simp at hc; exact .inl hc) σ
 have hRf := fun σ => krefused_spec t σ
 have hc1 : ({ data := #[115] } : ByteArray) = bs [115] := rfl
 clear h0 h1
 refine acalls 80 [.tmp 4] Tryz.func13 rfl (by decide) rfl rfl (Nat.le_of_ble_eq_true rfl) ?_
 repeat' (first
 |with_reducible first|apply Xa|apply Xb|(refine Xc ?_;intro κ hκ)|(apply hκ.out;clear hκ κ)|apply Xd|apply Xe|apply Xf
 |((with_reducible first|refine Xl ?_ ?_|refine Xk ?_ ?_)<;> intro h hari<;> try exact Xp)
 |((with_reducible refine aapp_go ?_);refine Xt ?_;intro idn σn hOn hKn eobj enobj ever entop)
 |((with_reducible refine aappn_go ?_);refine Xu ?_)
 |((with_reducible refine Xh ?_);first|(refine Xi (hAw _) ?_;rintro _ _ ⟨rfl,hK1⟩;(have kno1:=hK1.nobj))|(refine Xi (hPk _) ?_;rintro _ _ ⟨⟨k,rfl,hk0,hk1⟩,rfl⟩;(have hOq:=hOp (1 + k) (by omega);clear hOp)))
 |refine Xr ?_
 |exact True.intro
 |(apply hκ.out;clear hκ κ))
 rename_i σ1
 refine ACalls.mono (hOq _) ?_
 rintro _ σ2 ⟨⟨T, m, e⟩, rfl, hp, hK2⟩
 have hKa := hK1.trans hK2
 clear hAw hPk hOq hK1 hK2 kno1
 rcases opt_sliced (by omega) hp with ⟨hp1, hp2, hp3, hp4⟩ | ⟨hp2, hA⟩
 ·simp only at hp1 hp2 hp3 hp4
  subst hp1; subst hp2; subst hp3
  have heb : ((refCheck t).1 != 0) = true := by simpa using hp4
  clear hp hp4
  generalize (refCheck t).1 = e0 at *
  refine Xr ?_
  repeat' (first
 |with_reducible first|apply Xa|apply Xb|(refine Xc ?_;intro κ hκ)|(apply hκ.out;clear hκ κ)|apply Xd|apply Xe|apply Xf
 |((with_reducible first|refine Xl ?_ ?_|refine Xk ?_ ?_)<;> intro h hari<;> try exact Xp)
 |((with_reducible refine aapp_go ?_);refine Xt ?_;intro idn σn hOn hKn eobj enobj ever entop)
 |((with_reducible refine aappn_go ?_);refine Xu ?_)
 |((with_reducible refine Xh ?_);refine Xi (hRf _) ?_;rintro _ _ ⟨rfl,hK3⟩;(have hKz:=hKa.trans hK3))
 |refine Xr ?_
 |exact True.intro
 |(apply hκ.out;clear hκ κ))
  first | exact ⟨_, rfl, rfl, hKz⟩ | exact ⟨_, rfl, rfl⟩ | exact ⟨_, rfl, hKz⟩
 ·simp only at hp2 hA
  subst hp2
  clear hp hRf
  have hPc := fun σ => kpieces_spec t (by have := hA.lt; omega) σ
  have hPT := fun σ => kpieces_spec T (by have := hA.lT; omega) σ
  have hfew := hA.few
  have hsh := hA.sh
  have hkp : Abs.Hid _ := hA.kp
  clear hA
  generalize pcsL t = P at *
  generalize pcsL T = R at *
  have hWn := fun ids σ => kwanted_spec P ids (by omega) hsh σ
  have hkne : (((0 : Int)) != 0) = false := rfl
  refine Xr ?_
  repeat' (first
 |with_reducible first|apply Xa|apply Xb|(refine Xc ?_;intro κ hκ)|(apply hκ.out;clear hκ κ)|apply Xd|apply Xe|apply Xf
 |((with_reducible first|refine Xl ?_ ?_|refine Xk ?_ ?_)<;> intro h hari<;> try exact Xp)
 |((with_reducible refine aapp_go ?_);refine Xt ?_;intro idn σn hOn hKn eobj enobj ever entop)
 |((with_reducible refine aappn_go ?_);refine Xu ?_)
 |((with_reducible refine Xh ?_);first|(refine Xi (hPc _) ?_;rintro _ _ ⟨⟨idp,rfl⟩,hK4⟩;(have kno4:=hK4.nobj))|(refine Xi (hWn _ _) ?_;rintro _ _ ⟨⟨idw,wd,rfl,hwl,hwd⟩,hK5⟩;(have kno5:=hK5.nobj)))
 |refine Xr ?_
 |exact True.intro
 |(apply hκ.out;clear hκ κ))
  rename_i σ3 σ4
  have hKb := (hKa.trans hK4).trans hK5
  clear hKa hK4 hK5 hPc hWn kno4 kno5
  generalize hg : (fun p : Tx => outB p || decide (hdL p ∈ wd)) = g
  have hkp := hkp.out g (fun p _ => by rw [← hg]; simp [hwd])
  have hgo : ∀ p, outB p = true → g p = true := fun p h => by rw [← hg]; simp [h]
  have hgn : ∀ p, outB p = false → g p = decide (hdL p ∈ wd) := fun p h => by rw [← hg]; simp [h]
  obtain ⟨hkm, hkl, hkr⟩ := hkp
  have HKR : Abs.Hid _ := hkr
  have HKL : Abs.Hid _ := hkl
  have HKM : Abs.Hid _ := hkm
  have HGO : Abs.Hid _ := hgo
  have HGN : Abs.Hid _ := hgn
  clear hg hwd hkm hkl hkr hgo hgn
  refine awp_loop (fun m' s σ' => ∃ (i id : Nat) (d : List Tx), m' = P.length - i ∧ i ≤ P.length ∧ d.length ≤ i ∧ s 7 = str T ∧ s 8 = sc (.int .i64 m) ∧ s 10 = sl idp P.length (P.map str) ∧ s 11 = sl idw wd.length (wd.map str) ∧ s 12 = sl id d.length (d.map str) ∧ s 13 = sc (.int .i64 i) ∧ Keep σ σ' ∧ Own σ σ' id d.length ∧ Abs.Hid (d = (P.take i).filter g)) P.length
   ⟨0, 1, [], by omega, by omega, by simp, rfl, rfl, rfl, rfl, rfl, rfl, hKb, Own.nil _ _, by simp [Abs.Hid]⟩ ?_
  clear hKb
  rintro m' s σ5 ⟨i, id, d, rfl, hi, hdl, h7, h8, h10, h11, h12, h13, hK, hO, hF⟩
  have kno := hK.nobj
  by_cases hlt : i < P.length
  ·have hget := List.getElem?_eq_getElem hlt
   have hdr := map_str_get hlt
   have hmem := List.getElem_mem hlt
   generalize P[i] = p at hget hdr hmem
   have hOu := fun σ => koutput_spec p σ
   have hHe := fun σ => khead_spec p (hsh p hmem).1 (by have := (hsh p hmem).2; omega) σ
   have hAm := fun σ => kamong_spec wd idw (hdL p) hwl σ
   have HT : Abs.Hid (g p = true → d ++ [p] = (P.take (i + 1)).filter g) := fun h => by
    rw [List.take_add_one, hget, Option.toList_some, List.filter_append, ← hF.out]; simp [h]
   have HFf : Abs.Hid (g p = false → d = (P.take (i + 1)).filter g) := fun h => by
    rw [List.take_add_one, hget, Option.toList_some, List.filter_append, ← hF.out]; simp [h]
   cases ho : outB p with
   | true =>
    rw [ho] at hOu
    have HZ : Abs.Hid (d ++ [p] = (P.take (i + 1)).filter g) := HT.out (HGO.out p ho)
    clear HT HFf ho hHe hAm hF hget
    repeat' (first
 |with_reducible first|apply Xa|apply Xb|(refine Xc ?_;intro κ hκ)|(apply hκ.out;clear hκ κ)|apply Xd|apply Xe|apply Xf
 |((with_reducible first|refine Xl ?_ ?_|refine Xk ?_ ?_)<;> intro h hari<;> try exact Xp)
 |((with_reducible refine aapp_go ?_);refine Xt ?_;intro idn σn hOn hKn eobj enobj ever entop)
 |((with_reducible refine aappn_go ?_);refine Xu ?_)
 |((with_reducible refine Xh ?_);refine Xi (hOu _) ?_;rintro _ _ ⟨rfl,rfl⟩)
 |refine Xr ?_
 |exact True.intro
 |(apply hκ.out;clear hκ κ))
    refine ⟨P.length - (i + 1), by omega, i + 1, idn, d ++ [p], ?_⟩
    ((repeat' with_reducible refine And.intro ?_ ?_)<;> first|exact Xq|exact (HZ)|exact ((by simpa using hOn))|exact Xs)
   | false =>
    rw [ho] at hOu
    have hgp := HGN.out p ho
    generalize hbb : decide (hdL p ∈ wd) = bb at hAm hgp
    rw [hgp] at HT HFf
    clear ho hF hget hbb hgp
    generalize hdL p = hd0 at *
    cases bb with
    | true =>
     have HZ : Abs.Hid (d ++ [p] = (P.take (i + 1)).filter g) := HT.out rfl
     clear HT HFf
     repeat' (first
 |with_reducible first|apply Xa|apply Xb|(refine Xc ?_;intro κ hκ)|(apply hκ.out;clear hκ κ)|apply Xd|apply Xe|apply Xf
 |((with_reducible first|refine Xl ?_ ?_|refine Xk ?_ ?_)<;> intro h hari<;> try exact Xp)
 |((with_reducible refine aapp_go ?_);refine Xt ?_;intro idn σn hOn hKn eobj enobj ever entop)
 |((with_reducible refine aappn_go ?_);refine Xu ?_)
 |((with_reducible refine Xh ?_);first|(refine Xi (hOu _) ?_;rintro _ _ ⟨rfl,rfl⟩)|(refine Xi (hHe _) ?_;rintro _ _ ⟨rfl,hK6⟩;(have hKz:=hK.trans hK6;have hOz:=hO.keep hK6;have knoz:=hKz.nobj;clear hK hO hK6 kno))|(refine Xi (hAm _) ?_;rintro _ _ ⟨rfl,rfl⟩))
 |refine Xr ?_
 |exact True.intro
 |(apply hκ.out;clear hκ κ))
     refine ⟨P.length - (i + 1), by omega, i + 1, idn, d ++ [p], ?_⟩
     ((repeat' with_reducible refine And.intro ?_ ?_)<;> first|exact Xq|exact (HZ)|exact ((by simpa using hOn))|exact Xs)
    | false =>
     have HZ : Abs.Hid (d = (P.take (i + 1)).filter g) := HFf.out rfl
     clear HT HFf
     repeat' (first
 |with_reducible first|apply Xa|apply Xb|(refine Xc ?_;intro κ hκ)|(apply hκ.out;clear hκ κ)|apply Xd|apply Xe|apply Xf
 |((with_reducible first|refine Xl ?_ ?_|refine Xk ?_ ?_)<;> intro h hari<;> try exact Xp)
 |((with_reducible refine aapp_go ?_);refine Xt ?_;intro idn σn hOn hKn eobj enobj ever entop)
 |((with_reducible refine aappn_go ?_);refine Xu ?_)
 |((with_reducible refine Xh ?_);first|(refine Xi (hOu _) ?_;rintro _ _ ⟨rfl,rfl⟩)|(refine Xi (hHe _) ?_;rintro _ _ ⟨rfl,hK6⟩;(have hKz:=hK.trans hK6;have hOz:=hO.keep hK6;have knoz:=hKz.nobj;clear hK hO hK6 kno))|(refine Xi (hAm _) ?_;rintro _ _ ⟨rfl,rfl⟩))
 |refine Xr ?_
 |exact True.intro
 |(apply hκ.out;clear hκ κ))
     refine ⟨P.length - (i + 1), by omega, i + 1, id, d, ?_⟩
     ((repeat' with_reducible refine And.intro ?_ ?_)<;> first|exact Xq|exact (HZ)|exact Xs)
  ·have hil : i = P.length := by omega
   have hde : d = P.filter g := by rw [hF.out, hil, List.take_length]
   have hRn := fun idr σ => krenamed_spec d R id idr (by rw [hde]; exact HKL.out) (by omega) (by rw [hde]; exact HKR.out) σ
   have hmm : m = if d.length < P.length then 1 else 0 := by rw [hde]; exact HKM.out
   clear hF hde HKL HKR HKM HGO HGN
   by_cases hlp : d.length < P.length
   ·rw [if_pos hlp] at hmm
    subst hmm
    have hlb : decide ((d.length : Int) < (P.length : Int)) = true := by simp; omega
    repeat' (first
 |with_reducible first|apply Xa|apply Xb|(refine Xc ?_;intro κ hκ)|(apply hκ.out;clear hκ κ)|apply Xd|apply Xe|apply Xf
 |((with_reducible first|refine Xl ?_ ?_|refine Xk ?_ ?_)<;> intro h hari<;> try exact Xp)
 |((with_reducible refine aapp_go ?_);refine Xt ?_;intro idn σn hOn hKn eobj enobj ever entop)
 |((with_reducible refine aappn_go ?_);refine Xu ?_)
 |((with_reducible refine Xh ?_);first|(refine Xi (hPT _) ?_;rintro _ _ ⟨⟨idr,rfl⟩,hK6⟩;(have kno6:=hK6.nobj))|(refine Xi (hRn _ _) ?_;rintro _ _ ⟨rfl,hK7⟩;(have hKz:=(hK.trans hK6).trans hK7)))
 |refine Xr ?_
 |exact True.intro
 |(apply hκ.out;clear hκ κ))
    first | exact ⟨_, rfl, rfl, hKz⟩ | exact ⟨_, rfl, rfl⟩ | exact ⟨_, rfl, hKz⟩
   ·rw [if_neg hlp] at hmm
    subst hmm
    have hlb : decide ((d.length : Int) < (P.length : Int)) = false := by simp; omega
    repeat' (first
 |with_reducible first|apply Xa|apply Xb|(refine Xc ?_;intro κ hκ)|(apply hκ.out;clear hκ κ)|apply Xd|apply Xe|apply Xf
 |((with_reducible first|refine Xl ?_ ?_|refine Xk ?_ ?_)<;> intro h hari<;> try exact Xp)
 |((with_reducible refine aapp_go ?_);refine Xt ?_;intro idn σn hOn hKn eobj enobj ever entop)
 |((with_reducible refine aappn_go ?_);refine Xu ?_)
 |((with_reducible refine Xh ?_);first|(refine Xi (hPT _) ?_;rintro _ _ ⟨⟨idr,rfl⟩,hK6⟩;(have kno6:=hK6.nobj))|(refine Xi (hRn _ _) ?_;rintro _ _ ⟨rfl,hK7⟩;(have hKz:=(hK.trans hK6).trans hK7)))
 |refine Xr ?_
 |exact True.intro
 |(apply hκ.out;clear hκ κ))
    first | exact ⟨_, rfl, rfl, hKz⟩ | exact ⟨_, rfl, rfl⟩ | exact ⟨_, rfl, hKz⟩
end Go.Proofs.YtmoeoppbmhfbpaaGreatDoorX
