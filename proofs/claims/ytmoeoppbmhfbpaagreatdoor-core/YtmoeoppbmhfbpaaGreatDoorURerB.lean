import Derived.Test.YtmoeoppbmhfbpaaGreatDoorUAwk
/- What is left behind a pass: less of the same items; written, it is right again. Pure. -/
namespace Go.Proofs.YtmoeoppbmhfbpaaGreatDoorU
open Go.Abs
set_option linter.unusedSimpArgs false
set_option linter.unusedVariables false
/-! ### One item in another's place, or none -/
theorem zip_rpl {α : Type} (n : Nat) (o : List α) : ∀ (l : List α) (k : Nat), n < k → ((l.zipIdx k).flatMap fun p => if p.2 = n then o else [p.1]) = l
 | [], k, _ => rfl
 | x :: l, k, h => by
  rw [List.zipIdx_cons, List.flatMap_cons, zip_rpl n o l (k + 1) (by omega)]
  simp only
  rw [if_neg (by omega)]; rfl
theorem zip_set {α : Type} (y : α) : ∀ (l : List α) (k i : Nat), ((l.zipIdx k).flatMap fun p => if p.2 = k + i then [y] else [p.1]) = l.set i y
 | [], k, i => rfl
 | x :: l, k, 0 => by
  rw [List.zipIdx_cons, List.flatMap_cons, zip_rpl (k + 0) [y] l (k + 1) (by omega)]
  simp
 | x :: l, k, i + 1 => by
  have := zip_set y l (k + 1) i
  rw [List.zipIdx_cons, List.flatMap_cons, show k + (i + 1) = k + 1 + i by omega, this]
  simp only
  rw [if_neg (by omega)]; rfl
theorem zip_erase {α : Type} : ∀ (l : List α) (k i : Nat), ((l.zipIdx k).flatMap fun p => if p.2 = k + i then [] else [p.1]) = l.eraseIdx i
 | [], k, i => by simp
 | x :: l, k, 0 => by
  rw [List.zipIdx_cons, List.flatMap_cons, zip_rpl (k + 0) [] l (k + 1) (by omega)]
  simp
 | x :: l, k, i + 1 => by
  have := zip_erase l (k + 1) i
  rw [List.zipIdx_cons, List.flatMap_cons, show k + (i + 1) = k + 1 + i by omega, this]
  simp only
  rw [if_neg (by omega)]; rfl
theorem rpl_set {α : Type} (i : Nat) (y : α) (l : List α) : rpl i [y] l = l.set i y := by
 have := zip_set y l 0 i
 unfold rpl
 rw [Nat.zero_add] at this; exact this
theorem rpl_erase {α : Type} (i : Nat) (l : List α) : rpl i [] l = l.eraseIdx i := by
 have := zip_erase l 0 i
 unfold rpl
 rw [Nat.zero_add] at this; exact this
theorem uItems_cons (x : RItem) (l : List RItem) : uItems (x :: l) = pcT x ++ uItems l := by simp [uItems, pcT]
theorem uItems_set : ∀ {l : List RItem} {i : Nat} {x y : RItem}, l[i]? = some x → (pcT y).length ≤ (pcT x).length → (uItems (l.set i y)).length ≤ (uItems l).length
 | [], i, x, y, h, _ => by simp at h
 | z :: l, 0, x, y, h, hl => by
  simp at h; subst h
  simp only [List.set_cons_zero, uItems_cons, List.length_append]; omega
 | z :: l, i + 1, x, y, h, hl => by
  have := uItems_set (l := l) (i := i) (by simpa using h) hl
  simp only [List.set_cons_succ, uItems_cons, List.length_append]; omega
theorem uItems_erase : ∀ (l : List RItem) (i : Nat), (uItems (l.eraseIdx i)).length ≤ (uItems l).length
 | [], i => by simp
 | z :: l, 0 => by simp only [List.eraseIdx_cons_zero, uItems_cons, List.length_append]; omega
 | z :: l, i + 1 => by
  have := uItems_erase l i
  simp only [List.eraseIdx_cons_succ, uItems_cons, List.length_append]; omega
/-! ### A literal less is no longer -/
theorem uMore_erase : ∀ (ts : List Tx) (k : Nat), (uMore (ts.eraseIdx k)).length ≤ (uMore ts).length
 | [], k => by simp
 | t :: ts, 0 => by simp only [List.eraseIdx_cons_zero, uMore_cons, List.length_cons, List.length_append]; omega
 | t :: ts, k + 1 => by
  have := uMore_erase ts k
  simp only [List.eraseIdx_cons_succ, uMore_cons, List.length_cons, List.length_append]; omega
theorem uList_erase : ∀ (ts : List Tx) (k : Nat), (uList (ts.eraseIdx k)).length ≤ (uList ts).length
 | [], k => by simp
 | t :: ts, 0 => by
  simp only [List.eraseIdx_cons_zero, uList, List.length_append]
  cases ts with
  | nil => simp [uList]
  | cons u ts => rw [uMore_cons]; simp only [uList, List.length_cons, List.length_append]; omega
 | t :: ts, k + 1 => by
  have := uMore_erase ts k
  simp only [List.eraseIdx_cons_succ, uList, List.length_append]; omega
theorem pc_wo {x : RItem} {k : Nat} (ho : x.out = false) : (pcT (woL x k)).length ≤ (pcT x).length := by
 have h1 := uList_erase (x.body.map uLit) k
 have h2 : (woL x k).body.map uLit = (x.body.map uLit).eraseIdx k := by
  show (x.body.eraseIdx k).map uLit = _
  rw [erase_map]
 have hh : (woL x k).head = x.head := rfl
 unfold pcT uItem
 rw [if_neg (by simp [woL]), if_neg (by simp [ho])]
 unfold uRule
 rw [hh, h2]
 simp only [List.length_append]
 by_cases hb : x.body = []
 ·have hb2 : (woL x k).body = [] := by simp [woL, hb]
  rw [if_pos hb2, if_pos hb]
  exact Nat.le_refl _
 ·rw [if_neg hb]
  by_cases hb2 : (woL x k).body = []
  ·rw [if_pos hb2]; simp only [List.length_nil, List.length_cons]; omega
  ·rw [if_neg hb2]; simp only [List.length_cons]; omega
/-! ### Less of the same items -/
structure Sd (l l' : List RItem) : Prop where
 dsc : ∀ x ∈ l', ∃ y ∈ l, y.out = x.out ∧ y.head = x.head ∧ ∀ a ∈ x.body, a ∈ y.body
 safe : ∀ x ∈ l', safeB x = true
 len : l'.length ≤ l.length
 ulen : (uItems l').length ≤ (uItems l).length
theorem Sd.refl {l : List RItem} (h : ∀ x ∈ l, safeB x = true) : Sd l l := ⟨fun x hx => ⟨x, hx, rfl, rfl, fun a ha => ha⟩, h, Nat.le_refl _, Nat.le_refl _⟩
theorem Sd.sub {l l1 l2 : List RItem} (h : Sd l l1) (hs : ∀ x ∈ l2, x ∈ l1) (hl : l2.length ≤ l1.length) (hu : (uItems l2).length ≤ (uItems l1).length) : Sd l l2 :=
 ⟨fun x hx => h.dsc x (hs x hx), fun x hx => h.safe x (hs x hx), Nat.le_trans hl h.len, Nat.le_trans hu h.ulen⟩
theorem Sd.wo {l l1 : List RItem} (h : Sd l l1) {i k : Nat} {x : RItem} (hx : l1[i]? = some x) (ho : x.out = false) (hs : safeB (woL x k) = true) : Sd l (rpl i [woL x k] l1) := by
 have hxm := List.mem_of_getElem? hx
 refine ⟨fun y hy => ?_, fun y hy => ?_, by rw [rpl_one]; exact h.len, ?_⟩
 ·rcases rpl_mem hy with hy | hy
  ·exact h.dsc y hy
  ·simp at hy; subst hy
   obtain ⟨z, hz, h1, h2, h3⟩ := h.dsc x hxm
   exact ⟨z, hz, h1.trans ho, h2, fun a ha => h3 a (List.mem_of_mem_eraseIdx ha)⟩
 ·rcases rpl_mem hy with hy | hy
  ·exact h.safe y hy
  ·simp at hy; subst hy; exact hs
 ·rw [rpl_set]
  exact Nat.le_trans (uItems_set hx (pc_wo ho)) h.ulen
theorem sp_safe {N : List Tx} {x : RItem} {k : Nat} (h : (spE N x k).isSome = true) : psafeB (woL x k) = true := by
 cases hp : psafeB (woL x k) with
 | true => rfl
 | false => rw [sp_unsafe hp] at h; cases h
theorem RtL.safe_wo {N : List Tx} {ar : Tx → Nat} {l : List RItem} (h : RtL N ar l) {x : RItem} (hx : x ∈ l) (ho : x.out = false) (k : Nat) : psafeB (woL x k) = safeB (woL x k) :=
 safe_eq fun a ha => h.gl.va x hx a (wo_atoms ho ha)
theorem Step.sd {N : List Tx} {ar : Tx → Nat} {c : UInt8} {l l1 l2 : List RItem} (h : Step N c l1 (some l2)) (hR : RtL N ar l1) (hS : Sd l l1) : Sd l l2 := by
 rcases h with ⟨-, M, -, h⟩ | ⟨-, h⟩ | ⟨-, h⟩
 ·rcases h with ⟨-, h⟩ | ⟨-, ⟨-, h⟩ | ⟨-, h⟩⟩
  ·cases h
  ·cases h
  ·cases h
   exact hS.sub (fun x hx => (List.mem_filter.1 hx).1) (List.length_filter_le _ _) (uItems_filter _ _)
 ·rcases h with ⟨h, -⟩ | ⟨i, k, y, e, h1, h2, h3, h4, -, -⟩
  ·cases h
  ·cases e
   refine hS.wo h1 h2 ?_
   rw [← hR.safe_wo (List.mem_of_getElem? h1) h2 k]
   unfold okA at h4
   rw [h1] at h4
   simp only [Bool.and_eq_true] at h4
   exact sp_safe h4.1
 ·rcases h with ⟨h, -⟩ | ⟨i, y, e, h1, h2, h3, h4, -⟩
  ·cases h
  ·cases e
   refine hS.sub (fun x hx => ?_) (rpl_none_len _) ?_
   ·rcases rpl_mem hx with h | h
    ·exact h
    ·cases h
   ·rw [rpl_erase]; exact uItems_erase _ _
theorem Chg.sd {N : List Tx} {ar : Tx → Nat} {c : UInt8} {b : Int} {l l1 l2 : List RItem} {m m' : Int} (h : Chg N c b l1 m l2 m') (hR : RtL N ar l1) (hS : Sd l l1) : RtL N ar l2 ∧ Sd l l2 := by
 induction h with
 | refl => exact ⟨hR, hS⟩
 | snoc _ _ hs ih => exact ⟨hs.rt ih.1, hs.sd ih.1 ih.2⟩
theorem Pss.sd {N : List Tx} {ar : Tx → Nat} {ps : Tx} {b : Int} {l l1 l2 : List RItem} {m m' : Int} (h : Pss N b l1 m ps l2 m') (hR : RtL N ar l1) (hS : Sd l l1) : RtL N ar l2 ∧ Sd l l2 := by
 induction h with
 | nil => exact ⟨hR, hS⟩
 | snoc _ hp ih => exact hp.1.sd ih.1 ih.2
/-! ### Right again -/
theorem wrong_sub2 {l l' : List RItem} {ar : Tx → Nat} (hA : ArOf l' ar) (hs : ∀ x ∈ l', safeB x = true) (hw : (wrongM l).1 = 0) (ho : ∀ x ∈ l, x.out = true → x.body = []) (ho' : ∀ x ∈ l', x.out = true → x.body = [])
  (hsub : ∀ x ∈ l', ∃ y ∈ l, y.out = x.out ∧ y.head.pred = x.head.pred ∧ ∀ a ∈ x.body, ∃ b ∈ y.body, b.pred = a.pred ∧ b.nt = a.nt) : wrongM l' = (0, 0) := by
 have hk : ∀ i, i < l.length → knotP l i = false := by
  unfold wrongM at hw
  split at hw
  ·cases hw
  ·split at hw
   ·cases hw
   ·split at hw
    ·cases hw
    ·rename_i h; exact firstM_neg h
 have hsubw : ∀ p q, atOnce l' p q → atOnce l p q := fun p q ⟨x, hx, h1, a, ha, h2⟩ => by
  obtain ⟨y, hy, -, e, hb⟩ := hsub x hx
  obtain ⟨b, hb, e1, -⟩ := hb a ha
  exact ⟨y, hy, e.trans h1, b, hb, e1.trans h2⟩
 have hk' : ∀ i, i < l'.length → knotP l' i = false := fun i hi => by
  unfold knotP
  rw [List.getElem?_eq_getElem hi]
  simp only
  have hx := List.getElem_mem hi
  generalize l'[i] = x at hx
  rw [List.any_eq_false]
  intro a ha hbad
  obtain ⟨y, hy, e1, e2, hb⟩ := hsub x hx
  obtain ⟨b, hb, e3, e4⟩ := hb a ha
  obtain ⟨j, hj⟩ := List.getElem?_of_mem hy
  have := hk j (List.getElem?_eq_some_iff.1 hj).1
  unfold knotP at this
  rw [hj] at this
  simp only at this
  refine List.any_eq_false.1 this b hb ?_
  unfold badK at hbad ⊢
  simp only [Bool.and_eq_true, Bool.or_eq_true, beq_iff_eq] at hbad ⊢
  rw [e4, e3, e2]
  refine ⟨hbad.1, ?_⟩
  have hxo : x.out = false := by
   cases h : x.out with
   | false => rfl
   | true => rw [ho' x hx h] at ha; cases ha
  rcases hbad.2 with h | h
  ·exact .inl h
  ·refine .inr ?_
   rw [usesB_iff ho' ⟨x, hx, hxo, rfl⟩] at h
   rw [usesB_iff ho ⟨y, hy, e1.trans hxo, e2⟩]
   exact h.map' hsubw
 unfold wrongM
 rw [if_neg (by rw [firstN_none fun i _ => odd_none hA i]; decide), if_neg (by
  rw [firstN_none fun i hi => ?_]
  ·decide
  ·unfold unsafeP
   rw [List.getElem?_eq_getElem hi]
   simp only
   rw [hs _ (List.getElem_mem hi)]; rfl), if_neg (by rw [firstN_none hk']; decide)]
theorem RtL.xr {N : List Tx} {ar : Tx → Nat} {l : List RItem} (h : RtL N ar l) {x : RItem} (hx : x ∈ l) (ho : x.out = false) : XR x :=
 ⟨fun a ha t ht => by
  have := ((h.gl.msr x hx).at_ a ha).2.2 t ht
  exact ⟨this.1, this.2.1, this.2.2.1⟩, ho, by have := ord18 (h.wit x hx); omega⟩
theorem wo_none {x : RItem} (ho : x.out = false) : woL x x.body.length = x := by
 unfold woL
 rw [List.eraseIdx_of_length_le (Nat.le_refl _), ← ho]
theorem ren_safe {N : List Tx} {ar : Tx → Nat} {l : List RItem} (h : RtL N ar l) {x : RItem} (hx : x ∈ l) (hs : safeB x = true) : safeB (ren x) = true := by
 cases ho : x.out with
 | true =>
  have hb := (h.gl.msr x hx).out ho
  unfold safeB
  simp [atomsL, ren, ho, hb]
 | false =>
  have hX := h.xr hx ho
  have h1 := hX.safe x.body.length
  have e : woL (ren x) x.body.length = ren x := by
   have := wo_none (x := ren x) ho
   simpa [ren] using this
  rw [e, wo_none ho, hs] at h1
  rw [← safe_eq (x := ren x) fun a ha w hw => ut_vt (hX.inO.ut a ha w hw)]
  exact h1
theorem Sd.gi {l l' : List RItem} (h : Sd l l') (hg : ∀ x ∈ l, GIt x) (h5 : ∀ x ∈ l', x.body.length ≤ 5) : ∀ x ∈ l', GIt x := fun x hx => by
 obtain ⟨y, hy, h1, h2, h3⟩ := h.dsc x hx
 have g := hg y hy
 refine ⟨by rw [← h2]; exact g.nm, fun ho => ?_, fun ho => ?_⟩
 ·obtain ⟨g1, g2, g3⟩ := g.out (h1.trans ho)
  rw [← h2]
  refine ⟨g1, g2, List.eq_nil_iff_forall_not_mem.2 fun a ha => ?_⟩
  have := h3 a ha
  rw [g3] at this; cases this
 ·obtain ⟨g1, g2, g3, g4⟩ := g.rule (h1.trans ho)
  rw [← h2]
  exact ⟨g1, g2, h5 x hx, fun a ha => g4 a (h3 a ha)⟩
theorem ren_gi {x : RItem} (h : GIt x) (hX : x.out = false → XR x) : GIt (ren x) := by
 refine ⟨h.nm, fun ho => ?_, fun ho => ?_⟩
 ·obtain ⟨h1, h2, h3⟩ := h.out ho
  exact ⟨h1, by simp [ren, renA, h2], by simp [ren, h3]⟩
 ·obtain ⟨h1, h2, h3, h4⟩ := h.rule ho
  have hX := hX ho
  have key : ∀ a ∈ atomsL x, GA' a → GA' (renA (ordL x) a) := fun a ha hg => by
   refine ⟨hg.nm, by simpa [renA] using hg.ne, by simpa [renA] using hg.few, fun t ht => ?_⟩
   simp only [renA, List.mem_map] at ht
   obtain ⟨u, hu, rfl⟩ := ht
   unfold wrT
   split
   ·rename_i hv
    have := hX.rng ha hu hv
    exact .inl ⟨_, rfl, let_large this.1 this.2⟩
   ·exact hg.tm u hu
  refine ⟨key _ (atoms_mem (.inl ⟨ho, rfl⟩)) h1, h2, by simpa [ren] using h3, fun a ha => ?_⟩
  simp only [ren, List.mem_map] at ha
  obtain ⟨b, hb, rfl⟩ := ha
  exact key b (atoms_mem (.inr hb)) (h4 b hb)
theorem right_wrong {t : Tx} {N : List Tx} {l : List RItem} {cs : List AV} (hR : Right t N l cs) : (wrongM l).1 = 0 := by
 have := hR.ok
 unfold refCheck at this
 split at this
 ·simp at this
 ·split at this
  ·simp at this
  ·rw [hR.items] at this; exact this
theorem again_right {t : Tx} {N : List Tx} {l l' : List RItem} {cs : List AV} {ar : Tx → Nat} (hR : Right t N l cs) (hA : ArOf l ar) (hS : Sd l l') (hRl : RtL N ar l') : refCheck (wholeL l') = (0, 0) ∧ itemsL (wholeL l') = l'.map ren := by
 have htook := pItems_took _ _ _ _ hR.parse
 have hi := items_whole hRl.wit hRl.wi
 refine ⟨?_, hi⟩
 have hlen : (wholeL l').length ≤ 600 := by
  rw [whole_u hRl.wit]
  have h1 := uItems_le l' hRl.wit
  have h2 := hS.ulen
  have h3 := hR.len
  rw [htook.1] at h3
  omega
 have hg := hS.gi (pItems_gi _ _ _ _ hR.parse) hRl.b5
 have hpl : placeL (wholeL l') = -1 := by
  rw [placeL_parse, whole_u hRl.wit, pItems_of 16 (l'.map ren) (fun y hy => ?_) (by rw [List.length_map]; exact hRl.gl.len)]
  obtain ⟨x, hx, rfl⟩ := List.mem_map.1 hy
  exact ren_gi (hg x hx) fun ho => hRl.xr hx ho
 unfold refCheck
 rw [if_neg (by omega), if_neg (by rw [hpl]; decide), hi]
 refine wrong_sub2 (l := l) (ar := ar) (fun y hy a ha => ?_) (fun y hy => ?_) (right_wrong hR) (fun x hx => ((hR.rt hA).gl.msr x hx).out) (fun y hy ho => ?_) (fun y hy => ?_)
 ·obtain ⟨x, hx, rfl⟩ := List.mem_map.1 hy
  obtain ⟨z, hz, h1, h2, h3⟩ := hS.dsc x hx
  have ha' : ∃ b ∈ atomsL x, a = renA (ordL x) b := by
   have ha2 : a ∈ (if x.out = true then [] else [renA (ordL x) x.head]) ++ x.body.map (renA (ordL x)) := ha
   cases ho : x.out with
   | true =>
    rw [ho] at ha2
    simp at ha2
    obtain ⟨b, hb, rfl⟩ := ha2
    exact ⟨b, atoms_mem (.inr hb), rfl⟩
   | false =>
    rw [ho] at ha2
    simp at ha2
    rcases ha2 with rfl | ⟨b, hb, rfl⟩
    ·exact ⟨x.head, atoms_mem (.inl ⟨ho, rfl⟩), rfl⟩
    ·exact ⟨b, atoms_mem (.inr hb), rfl⟩
  obtain ⟨b, hb, rfl⟩ := ha'
  show (b.terms.map _).length = ar b.pred
  rw [List.length_map]
  refine hA z hz b ?_
  unfold atomsL at hb ⊢
  rcases List.mem_append.1 hb with hb | hb
  ·rw [h1, h2]; exact List.mem_append_left _ hb
  ·exact List.mem_append_right _ (h3 b hb)
 ·obtain ⟨x, hx, rfl⟩ := List.mem_map.1 hy
  exact ren_safe hRl hx (hS.safe x hx)
 ·obtain ⟨x, hx, rfl⟩ := List.mem_map.1 hy
  have := (hRl.gl.msr x hx).out ho
  simp [ren, this]
 ·obtain ⟨x, hx, rfl⟩ := List.mem_map.1 hy
  obtain ⟨z, hz, h1, h2, h3⟩ := hS.dsc x hx
  refine ⟨z, hz, h1, by rw [h2]; rfl, fun a ha => ?_⟩
  simp only [ren, List.mem_map] at ha
  obtain ⟨b, hb, rfl⟩ := ha
  exact ⟨b, h3 b hb, rfl, rfl⟩
theorem beh_sd {N : List Tx} {ar : Tx → Nat} {l l1 l2 : List RItem} {t : Tx} {cs : List AV} (hR : Right t N l cs) (hA : ArOf l ar) (hR2 : RtL N ar l2) (hS2 : Sd l l2) (hl : lackB N l2 l1 = false) : behB N l1 l2 = true := by
 have hlen := hR.len
 rw [(pItems_took _ _ _ _ hR.parse).1] at hlen
 have h1 : limB l2 = true := by
  unfold limB
  simp only [Bool.and_eq_true, decide_eq_true_eq, List.all_eq_true]
  exact ⟨hR2.gl.len, fun x hx => hR2.b5 x hx, Nat.le_trans hS2.ulen hlen⟩
 have h3 : wrongM l2 = (0, 0) := wrong_sub2 (l := l) (ar := ar) (fun x hx a ha => ?_) hS2.safe (right_wrong hR) (fun x hx => ((hR.rt hA).gl.msr x hx).out) (fun x hx => (hR2.gl.msr x hx).out) fun x hx => ?_
 ·unfold behB
  rw [h1, hl, h3]
  rfl
 ·obtain ⟨z, hz, h1, h2, h3⟩ := hS2.dsc x hx
  refine hA z hz a ?_
  unfold atomsL at ha ⊢
  rcases List.mem_append.1 ha with ha | ha
  ·rw [h1, h2]; exact List.mem_append_left _ ha
  ·exact List.mem_append_right _ (h3 a ha)
 ·obtain ⟨z, hz, h1, h2, h3⟩ := hS2.dsc x hx
  exact ⟨z, hz, h1, by rw [h2], fun a ha => ⟨a, h3 a ha, rfl, rfl⟩⟩
/- Core: what the pass a leaves has no spare literal. Pure. -/
/-! ### How many changes there can be -/
def litsN (l : List RItem) : Nat := (l.map fun x => x.body.length).sum
theorem lits_set : ∀ {l : List RItem} {i : Nat} {x y : RItem}, l[i]? = some x → litsN (l.set i y) + x.body.length = litsN l + y.body.length
 | [], i, x, y, h => by simp at h
 | z :: l, 0, x, y, h => by simp at h; subst h; simp [litsN]; omega
 | z :: l, i + 1, x, y, h => by
  have := lits_set (l := l) (i := i) (y := y) (by simpa using h)
  simp [litsN] at this ⊢; omega
theorem lits_le : ∀ {l : List RItem}, (∀ x ∈ l, x.body.length ≤ 5) → litsN l ≤ l.length * 5
 | [], _ => by simp [litsN]
 | z :: l, h => by
  have h1 := lits_le (l := l) fun x hx => h x (by simp [hx])
  have h2 := h z (by simp)
  simp [litsN] at h1 ⊢; omega
theorem chgA {N : List Tx} {b : Int} {l l' : List RItem} {m m' : Int} (h : Chg N 97 b l m l' m') : l'.length = l.length ∧ m' + litsN l' = m + litsN l := by
 induction h with
 | refl => exact ⟨rfl, rfl⟩
 | snoc _ _ hs ih =>
  rcases hs with ⟨h, -⟩ | ⟨-, h⟩ | ⟨h, -⟩
  ·exact absurd h (by decide)
  ·rcases h with ⟨h, -⟩ | ⟨i, k, y, e, h1, h2, h3, -, -, -⟩
   ·cases h
   ·cases e
    refine ⟨by rw [rpl_one]; exact ih.1, ?_⟩
    rw [rpl_set]
    have := lits_set (y := woL y k) h1
    have e2 : (woL y k).body.length + 1 = y.body.length := by simp [woL, List.length_eraseIdx, h3]; omega
    have := ih.2
    omega
  ·exact absurd h (by decide)
theorem pss_one {N : List Tx} {c : UInt8} {b : Int} {l l' : List RItem} {m : Int} (h : Pss N b l 0 [c] l' m) : Pass N c b l 0 l' m := by
 have key : ∀ {ps : Tx} {l' : List RItem} {m : Int}, Pss N b l 0 ps l' m → (ps = [] → l' = l ∧ m = 0) ∧ (ps = [c] → Pass N c b l 0 l' m) := fun h => by
  induction h with
  | nil => exact ⟨fun _ => ⟨rfl, rfl⟩, (fun e => by cases e)⟩
  | @snoc ps c' l1 l2 m1 m2 _ hP ih =>
   refine ⟨(fun e => by simp at e), fun e => ?_⟩
   have e' : ps = [] ∧ c' = c := by
    cases ps with
    | nil => simpa using e
    | cons a r => simp at e
   obtain ⟨rfl, rfl⟩ := e'
   obtain ⟨rfl, rfl⟩ := ih.1 rfl
   exact hP
 exact (key h).2 rfl
/-! ### A spare literal may be left out -/
theorem lack_wo {N : List Tx} {l : List RItem} {i k : Nat} {x : RItem} (hx : l[i]? = some x) (ho : x.out = false) : lackB N (rpl i [woL x k] l) l = false := by
 refine lack_same fun j h => ?_
 unfold ruledN at h ⊢
 obtain ⟨y, hy, h⟩ := List.any_eq_true.1 h
 rw [rpl_set, List.any_eq_true]
 obtain ⟨n, hn⟩ := List.getElem?_of_mem hy
 by_cases hni : n = i
 ·subst hni
  rw [hx] at hn
  cases hn
  exact ⟨woL x k, List.mem_of_getElem? (by rw [List.getElem?_set_self (List.getElem?_eq_some_iff.1 hx).1]), by
   simp [ho] at h
   simp [woL, h]⟩
 ·exact ⟨y, List.mem_of_getElem? (by rw [List.getElem?_set_ne (Ne.symm hni)]; exact hn), h⟩
theorem sp_spare {N : List Tx} {ar : Tx → Nat} {l : List RItem} (h : RtL N ar l) {x : RItem} (hx : x ∈ l) (ho : x.out = false) (hN : ∀ a ∈ x.body, a.pred ∈ N) {k : Nat} (hs : safeB (woL x k) = true) (hp : SpareP x k) : (spE N x k).isSome = true := by
 have m := h.gl.msr x hx
 have hh := m.at_ x.head (atoms_mem (.inl ⟨ho, rfl⟩))
 obtain ⟨s0, h0, hi⟩ := search_iff tellU N x k hN hh.2.2 (fun a ha => (m.at_ a (atoms_mem (.inr ha))).2.2) (h.gl.ar x hx) (fun t ht u hu e => tellU.inj t u ht hu e)
 obtain ⟨s', hs'⟩ := hi.2 hp
 unfold spE
 rw [h0]
 show (spareE N x k s0).isSome = true
 unfold spareE
 rw [if_pos (by rw [h.safe_wo hx ho]; exact hs), hs']
 rfl
theorem ren_spare {N : List Tx} {ar : Tx → Nat} {l : List RItem} (h : RtL N ar l) {x : RItem} (hx : x ∈ l) (ho : x.out = false) (hN : ∀ a ∈ x.body, a.pred ∈ N) {k : Nat} (hs : safeB (woL (ren x) k) = true) (hp : SpareP (ren x) k) : safeB (woL x k) = true ∧ SpareP x k := by
 have hX := h.xr hx ho
 have hI := hX.inO
 have hlen := h.gl.ar x hx
 have hlen' : ∀ a ∈ (ren x).body, ∀ b ∈ (ren x).body, a.pred = b.pred → a.terms.length = b.terms.length := fun a ha b hb he => by
  simp only [ren, List.mem_map] at ha hb
  obtain ⟨a', ha', rfl⟩ := ha
  obtain ⟨b', hb', rfl⟩ := hb
  simpa [renA] using hlen a' ha' b' hb' he
 have hN' : ∀ a ∈ (ren x).body, a.pred ∈ N := fun a ha => by
  simp only [ren, List.mem_map] at ha
  obtain ⟨a', ha', rfl⟩ := ha
  exact hN a' ha'
 have hs2 : psafeB (woL (ren x) k) = safeB (woL (ren x) k) := safe_eq fun a ha w hw => ut_vt (hI.ut a (wo_atoms hI.out ha) w hw)
 refine ⟨by rw [← hX.safe k, hs2]; exact hs, ?_⟩
 obtain ⟨s0, h0, hi⟩ := hX.search (N := N) (k := k) hN hlen
 obtain ⟨s1, h1, hj⟩ := search_iff tellU N (ren x) k hN' (hI.ut _ (atoms_mem (.inl ⟨hI.out, rfl⟩))) (fun a ha => hI.ut a (atoms_mem (.inr ha))) hlen' (fun t ht u hu e => tellU.inj t u ht hu e)
 rw [h0] at h1
 cases h1
 exact hi.1 (hj.2 hp)
theorem at_none : ∀ (t : Tx) (d : List Tx) (u : Tx), 41 ∉ t → (t.foldl atF (d, u)).1 = d
 | [], d, u, _ => rfl
 | c :: t, d, u, h => by
  have hc : c ≠ 41 := fun e => h (by simp [e])
  have ht : 41 ∉ t := fun e => h (by simp [e])
  rw [List.foldl_cons]
  unfold atF
  rw [if_neg hc]
  split
  ·exact at_none t d _ ht
  ·exact at_none t d _ ht
theorem ats_out {x : RItem} (h : WItem x) (ho : x.out = true) : atsL (pcT x) = [] := by
 unfold atsL
 refine at_none _ _ _ fun hm => ?_
 unfold pcT uItem at hm
 rw [if_pos ho] at hm
 rcases List.mem_append.1 hm with hm | hm
 ·rcases List.mem_cons.1 hm with hm | hm
  ·exact absurd hm (by decide)
  ·have := h.1.2 41 hm; exact absurd this (by decide)
 ·exact absurd hm (by decide)
structure CoA (t T : Tx) : Prop where
 lt : t.length ≤ 600
 lT : T.length ≤ 600
 few : (pcsL T).length = (pcsL t).length ∧ (pcsL T).length ≤ 16
 no : ∀ (i : Nat) (p : Tx), (pcsL T)[i]? = some p → p.length ≤ 100000 ∧ (atsL p).length ≤ 1000 ∧ ∀ k : Nat, k + 1 < (atsL p).length → ∀ r, pSpareR T i k r → r.2 = 10
theorem opt_core {t : Tx} {r : Tx × Int × Int} (h : pOptR t [97] 1000 r) : (r.1 = [] ∧ r.2.1 = 0 ∧ r.2.2 = (refCheck t).1 ∧ r.2.2 ≠ 0) ∨ (r.2.2 = 0 ∧ CoA t r.1) := by
 unfold pOptR at h
 split at h
 ·rename_i he
  exact .inl (by rw [h]; exact ⟨rfl, rfl, rfl, he⟩)
 ·rename_i he
  rw [if_neg (by decide), if_neg (by omega)] at h
  obtain ⟨N, l, cs, ar, l', m, hR, hA, hRl, hP, rfl⟩ := h
  refine .inr ⟨rfl, ?_⟩
  have htook := pItems_took _ _ _ _ hR.parse
  have ht : t = uItems l := htook.1
  have hs : ∀ x ∈ l, safeB x = true := fun x hx => right_safe hR.ok x (by rw [hR.items]; exact hx)
  have hN : ∀ x ∈ l, x.head.pred ∈ N ∧ ∀ a ∈ x.body, a.pred ∈ N := fun x hx => EL_PI_mem hR.bk.el x hx
  have hPa := pss_one hP
  have hS := (hP.sd (hR.rt hA) (Sd.refl hs)).2
  have hN' : ∀ x ∈ l', x.head.pred ∈ N ∧ ∀ a ∈ x.body, a.pred ∈ N := fun x hx => by
   obtain ⟨y, hy, -, e, hb⟩ := hS.dsc x hx
   rw [← e]
   exact ⟨(hN y hy).1, fun a ha => (hN y hy).2 a (hb a ha)⟩
  have hc := chgA hPa.1
  have hno : noAl N l' l'.length := by
   rcases hPa.2 with h | h
   ·have h1 := lits_le (l := l) (hR.rt hA).b5
    have h2 := hR.bk.len
    have h3 := hc.2
    omega
   ·rcases h with ⟨h, -⟩ | ⟨-, h⟩ | ⟨h, -⟩
    ·exact absurd h (by decide)
    ·rcases h with ⟨-, h⟩ | ⟨i, k, y, e, -⟩
     ·exact h
     ·cases e
    ·exact absurd h (by decide)
  obtain ⟨hchk, hitm⟩ := again_right hR hA hS hRl
  have hpt : pcsL t = l.map pcT := by rw [ht]; exact pcs_items hR.wit
  have hu := whole_u hRl.wit
  have hwr : ∀ y ∈ l'.map ren, WItem y := fun y hy => by
   obtain ⟨z, hz, rfl⟩ := List.mem_map.1 hy
   exact ren_WItem (hRl.wit z hz) (hRl.wi z hz)
  have hpT : pcsL (wholeL l') = (l'.map ren).map pcT := by rw [hu]; exact pcs_items hwr
  have hlT : (wholeL l').length ≤ 600 := by
   rw [hu]
   have h1 := uItems_le l' hRl.wit
   have h2 := hS.ulen
   have h3 := hR.len
   rw [ht] at h3
   omega
  refine ⟨hR.len, hlT, ⟨?_, ?_⟩, fun i p hp => ?_⟩
  ·simp only
   rw [hpT, hpt]; simp [hc.1]
  ·simp only
   rw [hpT]; simpa using hRl.gl.len
  ·simp only at hp ⊢
   rw [hpT] at hp
   simp only [List.getElem?_map, Option.map_eq_some_iff] at hp
   obtain ⟨y, ⟨x, hx, rfl⟩, rfl⟩ := hp
   have hxm := List.mem_of_getElem? hx
   have hrm : ren x ∈ l'.map ren := List.mem_map.2 ⟨x, hxm, rfl⟩
   have hlen : (pcT (ren x)).length ≤ 100000 := by
    have := piece_le (l'.map ren) (ren x) hrm
    rw [← hu] at this
    omega
   refine ⟨hlen, ?_⟩
   cases ho : x.out with
   | true => rw [ats_out (hwr _ hrm) ho]; simp
   | false =>
    have hat : atsL (pcT (ren x)) = uLit (ren x).head :: (ren x).body.map uLit := ats_rule (hwr _ hrm) ho
    have h5 := hRl.b5 x hxm
    rw [hat]
    refine ⟨by simp [ren]; omega, fun k hk r hr => ?_⟩
    have hk' : k < x.body.length := by simpa [ren] using hk
    unfold pSpareR at hr
    rw [hchk] at hr
    rw [if_neg (by simp)] at hr
    obtain ⟨N2, l2, cs2, hR2, hr⟩ := hr
    have hl2 : l2 = l'.map ren := by rw [← hR2.items, hitm]
    have hx2 : l2[(i : Int).toNat]? = some (ren x) := by rw [hl2, Int.toNat_natCast, List.getElem?_map, hx]; rfl
    have hx2m := List.mem_of_getElem? hx2
    rcases hr with ⟨-, h | h | ⟨y, hy, h⟩⟩ | ⟨y, s0, -, -, hy, hyo, -, -, hs0, h⟩
    ·unfold hasRuleB at h
     rw [if_pos (by omega), hx2] at h
     simp [ren, ho] at h
    ·omega
    ·rw [hx2] at hy; cases hy
     simp [ren] at h; omega
    ·rw [hx2] at hy; cases hy
     simp only [Int.toNat_natCast] at h
     cases hsp : spareE N2 (ren (ren x)) k s0 with
     | none => rw [hsp] at h; rw [h]
     | some s' =>
      exfalso
      obtain ⟨s1, hask, hiff⟩ := hR2.ask hx2m hyo k
      have e0 := hask.e0
      rw [hs0] at e0
      cases e0
      obtain ⟨g1, g2⟩ := hiff.1 ⟨s', hsp⟩
      obtain ⟨g3, g4⟩ := ren_spare hRl hxm ho (hN' x hxm).2 g1 g2
      have g5 := sp_spare hRl hxm ho (hN' x hxm).2 g3 g4
      have g6 := hno i x (List.getElem?_eq_some_iff.1 hx).1 hx k hk'
      unfold okA at g6
      rw [hx] at g6
      simp only [g5, Bool.true_and] at g6
      rw [beh_sd hR hA (hRl.wo hx ho (by rw [hRl.safe_wo hxm ho]; exact g3)) (hS.wo hx ho g3) (lack_wo hx ho)] at g6
      cases g6
end Go.Proofs.YtmoeoppbmhfbpaaGreatDoorU
