import Derived.Test.YtmoeoppbmhfbpaaGreatDoorEEngR
/- The engine, in words: what a query asks, and that its changes keep it. -/
namespace Go.Proofs.YtmoeoppbmhfbpaaGreatDoorE
open Go.Abs
set_option linter.unusedSimpArgs false
set_option linter.unusedVariables false
abbrev Nu := Int → Int
def valN (ν : Nu) (t : Tm) : Int := if t.1 = true then ν t.2 else t.2
def esub (a : Atm) (ν : Nu) : Tup := tupOf (a.ts.map (valN ν))
def updN (ν : Nu) (v n : Int) : Nu := fun w => if w = v then n else ν w
theorem hasV_iff {ts : List Tm} {v : Int} : hasV ts v = true ↔ (true, v) ∈ ts := by simp [hasV]
theorem sub_congr {a : Atm} {ν ν' : Nu} (h : ∀ v, hasV a.ts v = true → ν v = ν' v) : esub a ν = esub a ν' := by
 unfold esub
 congr 1
 apply List.map_congr_left
 intro t ht
 unfold valN
 split
 ·rename_i h1
  exact h t.2 (hasV_iff.2 (by obtain ⟨x, y⟩ := t; simp at h1; subst h1; exact ht))
 ·rfl
theorem tupOf_get {l : List Int} {i : Nat} (h : i < l.length) (h3 : l.length ≤ 3) : (tupOf l)[i]? = some l[i] := by
 match l, h3 with
 | [], _ => simp at h
 | [a], _ => simp at h; subst h; rfl
 | [a, b], _ =>
  rcases (show i = 0 ∨ i = 1 by simp at h; omega) with rfl | rfl <;> rfl
 | [a, b, c], _ =>
  rcases (show i = 0 ∨ i = 1 ∨ i = 2 by simp at h; omega) with rfl | rfl | rfl <;> rfl
theorem tat_sub {a : Atm} {ν : Nu} {v : Int} (h3 : a.ts.length ≤ 3) (hv : hasV a.ts v = true) : tat (esub a ν) (eplc a.ts v) = ν v := by
 have hm := hasV_iff.1 hv
 have hi := List.idxOf_lt_length_iff.2 hm
 unfold tat eplc
 rw [if_pos hm, Int.toNat_natCast, esub, tupOf_get (by simpa using hi) (by simpa using h3)]
 simp [valN]
theorem sub_put (a : Atm) (v n : Int) (ν : Nu) : esub (eputA v n a) ν = esub a (updN ν v n) := by
 unfold esub eputA eputTs
 congr 1
 rw [List.map_map]
 apply List.map_congr_left
 intro t ht
 obtain ⟨b, w⟩ := t
 show valN ν (putT v n (b, w)) = valN (updN ν v n) (b, w)
 by_cases h : (b, w) = (true, v)
 ·cases h; simp [putT, valN, updN]
 ·rw [show putT v n (b, w) = (b, w) from if_neg h]
  cases b with
  | false => simp [valN]
  | true =>
   have : w ≠ v := fun e => h (by rw [e])
   simp [valN, updN, this]
theorem hasV_put {a : Atm} {v n w : Int} : hasV (eputA v n a).ts w = true ↔ hasV a.ts w = true ∧ w ≠ v := by
 rw [hasV_iff, hasV_iff]
 unfold eputA eputTs
 rw [List.mem_map]
 constructor
 ·rintro ⟨t, ht, e⟩
  unfold putT at e
  split at e
  ·cases e
  ·rename_i hne
   subst e
   exact ⟨ht, fun e => hne (by rw [e])⟩
 ·rintro ⟨h, hne⟩
  refine ⟨(true, w), h, ?_⟩
  unfold putT
  rw [if_neg (fun e => hne (by cases e; rfl))]
/-! ### Ways to meet a query -/
def Sol (neg : Int → Tup → Prop) (q : Qry) (ν : Nu) : Prop := (∀ p ∈ q.parts, esub p.a ν ∈ p.tups) ∧ ∀ a ∈ q.nots, ¬ neg a.p (esub a ν)
def WP (q : Qry) : Prop := ∀ p ∈ q.parts, p.a.ts.length ≤ 3 ∧ ∀ t ∈ p.tups, ∃ μ, t = esub p.a μ
theorem sol_put {neg : Int → Tup → Prop} {q : Qry} {v n : Int} {ν : Nu} (hW : WP q) : Sol neg (eputQ v n q) ν ↔ Sol neg q (updN ν v n) := by
 have hp : ∀ p ∈ q.parts, (esub (putP v n p).a ν ∈ (putP v n p).tups ↔ esub p.a (updN ν v n) ∈ p.tups) := fun p hp => by
  unfold putP
  by_cases hv : hasV p.a.ts v = true
  ·rw [if_pos hv]
   show esub (eputA v n p.a) ν ∈ _ ↔ _
   rw [sub_put, List.mem_filter]
   constructor
   ·exact fun h => h.1
   ·intro h
    refine ⟨h, ?_⟩
    rw [tat_sub (hW p hp).1 hv]
    simp [updN]
  ·rw [if_neg hv]
   rw [sub_congr (ν := ν) (ν' := updN ν v n) (fun w hw => by
    unfold updN
    rw [if_neg]
    rintro rfl
    exact hv hw)]
 unfold Sol eputQ
 simp only [List.mem_map, forall_exists_index, and_imp, forall_apply_eq_imp_iff₂]
 constructor
 ·rintro ⟨h1, h2⟩
  exact ⟨fun p hpm => (hp p hpm).1 (h1 p hpm), fun a ha => by have := h2 a ha; rwa [sub_put] at this⟩
 ·rintro ⟨h1, h2⟩
  exact ⟨fun p hpm => (hp p hpm).2 (h1 p hpm), fun a ha => by rw [sub_put]; exact h2 a ha⟩
theorem wp_put {q : Qry} {v n : Int} (hW : WP q) : WP (eputQ v n q) := by
 intro p hp
 obtain ⟨p0, h0, rfl⟩ := List.mem_map.1 hp
 obtain ⟨h1, h2⟩ := hW p0 h0
 unfold putP
 by_cases hv : hasV p0.a.ts v = true
 ·rw [if_pos hv]
  refine ⟨by simp [eputTs]; exact h1, fun t ht => ?_⟩
  obtain ⟨ht, he⟩ := List.mem_filter.1 ht
  obtain ⟨μ, rfl⟩ := h2 t ht
  refine ⟨μ, ?_⟩
  show _ = esub (eputA v n p0.a) μ
  rw [sub_put]
  apply sub_congr
  intro w hw
  unfold updN
  by_cases e : w = v
  ·subst e
   rw [if_pos rfl]
   rw [tat_sub h1 hv] at he
   simpa using he
  ·rw [if_neg e]
 ·rw [if_neg hv]
  exact ⟨h1, h2⟩
/-! ### Narrowed -/
theorem sol_nar {neg : Int → Tup → Prop} {q : Qry} {v : Int} {ν : Nu} (hW : WP q) : Sol neg (narBy q v) ν ↔ Sol neg q ν := by
 unfold Sol narBy
 simp only [List.mem_map, forall_exists_index, and_imp, forall_apply_eq_imp_iff₂]
 constructor
 ·rintro ⟨h1, h2⟩
  exact ⟨fun p hp => by have := h1 p hp; rw [narP_a] at this; exact narP_sub _ _ _ _ this, h2⟩
 ·rintro ⟨h1, h2⟩
  refine ⟨fun p hp => ?_, h2⟩
  rw [narP_a]
  unfold narP
  by_cases hv : hasV p.a.ts v = true
  ·rw [if_pos hv, List.mem_filter]
   refine ⟨h1 p hp, ?_⟩
   rw [tat_sub (hW p hp).1 hv]
   unfold allHave
   rw [List.all_eq_true]
   intro p' hp'
   by_cases hv' : hasV p'.a.ts v = true
   ·simp only [hv', Bool.not_true, Bool.false_or, occ, List.any_eq_true]
    exact ⟨_, h1 p' hp', by rw [tat_sub (hW p' hp').1 hv']; simp⟩
   ·simp [hv']
  ·rw [if_neg hv]; exact h1 p hp
theorem wp_nar {q : Qry} {v : Int} (hW : WP q) : WP (narBy q v) := by
 intro p hp
 obtain ⟨p0, h0, rfl⟩ := List.mem_map.1 hp
 rw [narP_a]
 exact ⟨(hW p0 h0).1, fun t ht => (hW p0 h0).2 t (narP_sub _ _ _ t ht)⟩
theorem NarS.wp {q q' : Qry} (h : NarS q q') (hW : WP q) : WP q' := by
 induction h with
 | refl => exact hW
 | tail v _ ih => exact wp_nar ih
theorem NarS.sol {neg : Int → Tup → Prop} {q q' : Qry} (h : NarS q q') (hW : WP q) (ν : Nu) : Sol neg q' ν ↔ Sol neg q ν := by
 induction h with
 | refl => exact Iff.rfl
 | tail v h ih => exact (sol_nar (h.wp hW)).trans ih
theorem narBy_atoms (q : Qry) (v : Int) : (narBy q v).parts.map (·.a) = q.parts.map (·.a) := by
 unfold narBy
 simp only [List.map_map]
 apply List.map_congr_left
 intro p _
 exact narP_a _ _ _
theorem NarS.atoms {q q' : Qry} (h : NarS q q') : q'.parts.map (·.a) = q.parts.map (·.a) ∧ q'.head = q.head ∧ q'.nots = q.nots := by
 induction h with
 | refl => exact ⟨rfl, rfl, rfl⟩
 | tail v _ ih => exact ⟨(narBy_atoms _ _).trans ih.1, ih.2.1, ih.2.2⟩
theorem NarS.atomsQ {q q' : Qry} (h : NarS q q') : atomsQ q' = atomsQ q := by
 obtain ⟨h1, h2, h3⟩ := h.atoms
 unfold Go.Proofs.YtmoeoppbmhfbpaaGreatDoorE.atomsQ
 rw [h1, h2, h3]
def Nrw (q : Qry) : Prop := ∀ v, ∀ p1 ∈ q.parts, ∀ p2 ∈ q.parts, hasV p1.a.ts v = true → hasV p2.a.ts v = true → ∀ t ∈ p1.tups, ∃ u ∈ p2.tups, tat u (eplc p2.a.ts v) = tat t (eplc p1.a.ts v)
theorem sizeQ_cons (p : Part) (l : List Part) : sizeQ (p :: l) = p.tups.length + sizeQ l := by simp [sizeQ]
theorem narMap_size (L : List Part) (v : Int) : ∀ l : List Part, sizeQ (l.map (narP L v)) ≤ sizeQ l ∧ (sizeQ l ≤ sizeQ (l.map (narP L v)) → l.map (narP L v) = l)
 | [] => by simp [sizeQ]
 | p :: l => by
  obtain ⟨h1, h2⟩ := narMap_size L v l
  have h3 := narP_len L v p
  rw [List.map_cons, sizeQ_cons, sizeQ_cons]
  refine ⟨by omega, fun h => ?_⟩
  rw [h2 (by omega)]
  congr 1
  have h4 : p.tups.length ≤ (narP L v p).tups.length := by omega
  unfold narP at h4 ⊢
  split
  ·rename_i hv
   rw [if_pos hv] at h4
   simp only at h4
   have := List.filter_eq_self.2 (fun a ha => by
    have := List.length_filter_eq_length_iff.1 (Nat.le_antisymm (List.length_filter_le _ _) h4)
    exact this a ha)
   rw [this]
  ·rfl
theorem rndF_size (q : Qry) (v : Int) : sizeQ (rndF q v).parts ≤ sizeQ q.parts ∧ (sizeQ q.parts ≤ sizeQ (rndF q v).parts → rndF q v = q) := by
 unfold rndF
 split
 ·obtain ⟨h1, h2⟩ := narMap_size q.parts v q.parts
  refine ⟨h1, fun h => ?_⟩
  unfold narBy
  rw [h2 h]
 ·exact ⟨Nat.le_refl _, fun _ => rfl⟩
theorem rnd_size : ∀ (vs : List Int) (q : Qry), sizeQ (rnd q vs).parts ≤ sizeQ q.parts ∧ (sizeQ q.parts ≤ sizeQ (rnd q vs).parts → rnd q vs = q ∧ ∀ v ∈ vs, rndF q v = q)
 | [], q => ⟨Nat.le_refl _, fun _ => ⟨rfl, by simp⟩⟩
 | v :: vs, q => by
  obtain ⟨h1, h2⟩ := rndF_size q v
  obtain ⟨h3, h4⟩ := rnd_size vs (rndF q v)
  have e : rnd q (v :: vs) = rnd (rndF q v) vs := rfl
  rw [e]
  refine ⟨by omega, fun h => ?_⟩
  have e2 := h2 (by omega)
  rw [e2] at h4 ⊢
  obtain ⟨g1, g2⟩ := h4 (by rw [e2] at h; omega)
  refine ⟨g1, fun w hw => ?_⟩
  rcases List.mem_cons.1 hw with rfl | hw
  ·exact e2
  ·exact g2 w hw
theorem cntV_pos {l : List Atm} {v : Int} {a : Atm} (ha : a ∈ l) (hv : hasV a.ts v = true) : 0 < cntV l v := List.countP_pos_iff.2 ⟨a, ha, hv⟩
theorem count_two {α : Type} {f : α → Bool} : ∀ {l : List α} {x y : α}, l.countP f ≤ 1 → x ∈ l → y ∈ l → f x = true → f y = true → x = y
 | [], x, y, _, hx, _, _, _ => by cases hx
 | z :: l, x, y, h, hx, hy, fx, fy => by
  rw [List.countP_cons] at h
  rcases List.mem_cons.1 hx with e1 | hx'
  ·rcases List.mem_cons.1 hy with e2 | hy'
   ·rw [e1, e2]
   ·rw [← e1, if_pos fx] at h
    have : 0 < l.countP f := List.countP_pos_iff.2 ⟨y, hy', fy⟩
    omega
  ·rcases List.mem_cons.1 hy with e2 | hy'
   ·rw [← e2, if_pos fy] at h
    have : 0 < l.countP f := List.countP_pos_iff.2 ⟨x, hx', fx⟩
    omega
   ·exact count_two (by omega) hx' hy' fx fy
theorem nrw_of {q : Qry} (h : ∀ v ∈ varsL (atomsQ q), rndF q v = q) : Nrw q := by
 intro v p1 h1 p2 h2 hv1 hv2 t ht
 by_cases hc : 1 < cntV (q.parts.map (·.a)) v
 ·have hvm : v ∈ varsL (atomsQ q) := (varsL_mem _ _).2 ⟨p1.a, by unfold Go.Proofs.YtmoeoppbmhfbpaaGreatDoorE.atomsQ; simp; right; left; exact ⟨p1, h1, rfl⟩, hasV_iff.1 hv1⟩
  have hr := h v hvm
  unfold rndF at hr
  rw [if_pos hc] at hr
  have hm : q.parts.map (narP q.parts v) = q.parts := congrArg Qry.parts hr
  have hp : narP q.parts v p1 = p1 := by
   obtain ⟨i, hi⟩ := List.getElem?_of_mem h1
   have : (q.parts.map (narP q.parts v))[i]? = some (narP q.parts v p1) := by simp [hi]
   rw [hm, hi] at this
   exact (Option.some.inj this).symm
  have ht2 : t ∈ (narP q.parts v p1).tups := by rw [hp]; exact ht
  unfold narP at ht2
  rw [if_pos hv1] at ht2
  have := (List.mem_filter.1 ht2).2
  unfold allHave at this
  rw [List.all_eq_true] at this
  have := this p2 h2
  simp only [hv2, Bool.not_true, Bool.false_or, occ, List.any_eq_true] at this
  obtain ⟨u, hu, e⟩ := this
  exact ⟨u, hu, by simpa using e⟩
 ·have hle : (q.parts.map (·.a)).countP (fun a => hasV a.ts v) ≤ 1 := by unfold cntV at hc; omega
  rw [List.countP_map] at hle
  have := count_two hle h1 h2 hv1 hv2
  subst this
  exact ⟨t, ht, rfl⟩
/- The engine, in words: idle parts may go; what is split may be met apart. -/
def inQ (q : Qry) (v : Int) : Prop := ∃ a ∈ atomsQ q, hasV a.ts v = true
def NE (q : Qry) : Prop := ∀ p ∈ q.parts, p.tups ≠ []
def WFv (q : Qry) : Prop := ∀ v, (hasV q.head.ts v = true ∨ ∃ a ∈ q.nots, hasV a.ts v = true) → ∃ p ∈ q.parts, hasV p.a.ts v = true
structure Red (neg : Int → Tup → Prop) (q q' : Qry) : Prop where
 hd : q'.head = q.head
 at_ : ∀ a ∈ atomsQ q', a ∈ atomsQ q
 to : ∀ ν, Sol neg q ν → Sol neg q' ν
 back : ∀ ν, Sol neg q' ν → ∃ ν', Sol neg q ν' ∧ ∀ v, inQ q' v → ν' v = ν v
theorem Red.refl (neg : Int → Tup → Prop) (q : Qry) : Red neg q q := ⟨rfl, fun _ h => h, fun _ h => h, fun ν h => ⟨ν, h, fun _ _ => rfl⟩⟩
theorem inQ.sub {q q' : Qry} {v : Int} (h : ∀ a ∈ atomsQ q', a ∈ atomsQ q) (hv : inQ q' v) : inQ q v := by
 obtain ⟨a, ha, e⟩ := hv
 exact ⟨a, h a ha, e⟩
theorem Red.trans {neg : Int → Tup → Prop} {q q1 q2 : Qry} (h : Red neg q q1) (g : Red neg q1 q2) : Red neg q q2 where
 hd := g.hd.trans h.hd
 at_ := fun a ha => h.at_ a (g.at_ a ha)
 to := fun ν hν => g.to ν (h.to ν hν)
 back := fun ν hν => by
  obtain ⟨ν1, h1, e1⟩ := g.back ν hν
  obtain ⟨ν2, h2, e2⟩ := h.back ν1 h1
  exact ⟨ν2, h2, fun v hv => (e2 v (hv.sub g.at_)).trans (e1 v hv)⟩
theorem part_in {q : Qry} {p : Part} (h : p ∈ q.parts) : p.a ∈ atomsQ q := by
 unfold atomsQ; simp; right; left; exact ⟨p, h, rfl⟩
theorem NarS.red {neg : Int → Tup → Prop} {q q' : Qry} (h : NarS q q') (hW : WP q) : Red neg q q' :=
 ⟨h.atoms.2.1, fun a ha => by rw [h.atomsQ] at ha; exact ha, fun ν hν => (h.sol hW ν).2 hν, fun ν hν => ⟨ν, (h.sol hW ν).1 hν, fun _ _ => rfl⟩⟩
theorem idleG_link {q : Qry} : ∀ {vs : List Int} {n : Nat}, idleG q n vs = true → (∀ v ∈ vs, linkB q v = true → n = 0 ∧ cntV (q.parts.map (·.a)) v ≠ 1) ∧ ∀ v ∈ vs, ∀ w ∈ vs, linkB q v = true → linkB q w = true → v = w
 | [], n, _ => ⟨(fun v hv => by cases hv), (fun v hv => by cases hv)⟩
 | u :: vs, n, h => by
  unfold idleG at h
  by_cases hl : linkB q u = true
  ·rw [if_pos hl] at h
   split at h
   ·cases h
   ·rename_i hc
    obtain ⟨h1, h2⟩ := idleG_link h
    have hno : ∀ v ∈ vs, ¬ linkB q v = true := fun v hv hlv => by
     have := (h1 v hv hlv).1
     omega
    refine ⟨fun v hv hlv => ?_, fun v hv w hw hlv hlw => ?_⟩
    ·rcases List.mem_cons.1 hv with rfl | hv
     ·exact ⟨by omega, fun e => hc (.inr e)⟩
     ·exact absurd hlv (hno v hv)
    ·rcases List.mem_cons.1 hv with e1 | hv
     ·rcases List.mem_cons.1 hw with e2 | hw
      ·rw [e1, e2]
      ·exact absurd hlw (hno w hw)
     ·exact absurd hlv (hno v hv)
  ·rw [if_neg hl] at h
   obtain ⟨h1, h2⟩ := idleG_link h
   refine ⟨fun v hv hlv => ?_, fun v hv w hw hlv hlw => ?_⟩
   ·rcases List.mem_cons.1 hv with rfl | hv
    ·exact absurd hlv hl
    ·exact h1 v hv hlv
   ·rcases List.mem_cons.1 hv with rfl | hv
    ·exact absurd hlv hl
    ·rcases List.mem_cons.1 hw with rfl | hw
     ·exact absurd hlw hl
     ·exact h2 v hv w hw hlv hlw
theorem cntV_append (l m : List Atm) (v : Int) : cntV (l ++ m) v = cntV l v + cntV m v := List.countP_append
theorem cntV_cons (a : Atm) (l : List Atm) (v : Int) : cntV (a :: l) v = cntV l v + if hasV a.ts v = true then 1 else 0 := List.countP_cons
theorem trim1_red {neg : Int → Tup → Prop} {q : Qry} (hW : WP q) (hNe : NE q) (hNr : Nrw q) : Red neg q (trim1 q) ∧ (∀ p ∈ (trim1 q).parts, p ∈ q.parts) ∧ (WFv q → WFv (trim1 q)) := by
 rcases List.exists_or_eq_self_of_eraseP (fun p => idleB q p.a) q.parts with e | ⟨p, l1, l2, -, hp, e1, e2⟩
 ·have : trim1 q = q := by unfold trim1; rw [e]
  rw [this]
  exact ⟨Red.refl _ _, fun p hp => hp, fun h => h⟩
 ·have hT : (trim1 q).parts = l1 ++ l2 := e2
  have hsub : ∀ p' ∈ (trim1 q).parts, p' ∈ q.parts := fun p' hp' => by
   rw [hT] at hp'
   rw [e1]
   rcases List.mem_append.1 hp' with h | h
   ·exact List.mem_append.2 (.inl h)
   ·exact List.mem_append.2 (.inr (List.mem_cons.2 (.inr h)))
  have hpm : p ∈ q.parts := by rw [e1]; simp
  obtain ⟨g1, g2⟩ := idleG_link (vs := varsL [p.a]) (n := 0) hp
  have hvm : ∀ v, hasV p.a.ts v = true → v ∈ varsL [p.a] := fun v hv => (varsL_mem _ _).2 ⟨p.a, by simp, hasV_iff.1 hv⟩
  have hcnt : ∀ v, cntV (atomsQ q) v = (if hasV q.head.ts v = true then 1 else 0) + cntV ((l1 ++ l2).map (·.a)) v + (if hasV p.a.ts v = true then 1 else 0) + cntV q.nots v := fun v => by
   unfold atomsQ
   rw [cntV_cons, cntV_append, e1, List.map_append, List.map_cons, cntV_append, cntV_cons, List.map_append, cntV_append]
   omega
  have hpcnt : ∀ v, cntV (q.parts.map (·.a)) v = cntV ((l1 ++ l2).map (·.a)) v + if hasV p.a.ts v = true then 1 else 0 := fun v => by
   rw [e1, List.map_append, List.map_cons, cntV_append, cntV_cons, List.map_append, cntV_append]
   omega
  -- a variable of the part that stands elsewhere is linked
  have hel : ∀ v, hasV p.a.ts v = true → (hasV q.head.ts v = true ∨ (∃ p' ∈ l1 ++ l2, hasV p'.a.ts v = true) ∨ ∃ a ∈ q.nots, hasV a.ts v = true) → linkB q v = true := fun v hv h => by
   unfold linkB
   rw [hcnt v, if_pos hv]
   rcases h with h | ⟨p', h1, h2⟩ | ⟨a, h1, h2⟩
   ·rw [if_pos h, decide_eq_true_eq]; omega
   ·have := cntV_pos (l := (l1 ++ l2).map (·.a)) (List.mem_map.2 ⟨p', h1, rfl⟩) h2
    rw [decide_eq_true_eq]; omega
   ·have := cntV_pos h1 h2
    rw [decide_eq_true_eq]; omega
  have hother : ∀ v, hasV p.a.ts v = true → linkB q v = true → ∃ p' ∈ l1 ++ l2, hasV p'.a.ts v = true := fun v hv hl => by
   have := (g1 v (hvm v hv) hl).2
   rw [hpcnt v, if_pos hv] at this
   have h0 : 0 < cntV ((l1 ++ l2).map (·.a)) v := by omega
   obtain ⟨a, ha, hav⟩ := List.countP_pos_iff.1 h0
   obtain ⟨p', hp', rfl⟩ := List.mem_map.1 ha
   exact ⟨p', hp', hav⟩
  have hatoms : ∀ a ∈ atomsQ (trim1 q), a ∈ atomsQ q := fun a ha => by
   unfold atomsQ at ha ⊢
   simp only [List.mem_cons, List.mem_append, List.mem_map] at ha ⊢
   rcases ha with h | ⟨p', h1, rfl⟩ | h
   ·exact .inl h
   ·exact .inr (.inl ⟨p', hsub p' h1, rfl⟩)
   ·exact .inr (.inr h)
  refine ⟨⟨rfl, hatoms, fun ν h => ⟨fun p' hp' => h.1 p' (hsub p' hp'), h.2⟩, fun ν h => ?_⟩, hsub, fun hwf v hv => ?_⟩
  · -- a tuple of the part that agrees with the rest
   have hpick : ∃ μ, esub p.a μ ∈ p.tups ∧ ∀ v, hasV p.a.ts v = true → linkB q v = true → μ v = ν v := by
    by_cases hex : ∃ v, hasV p.a.ts v = true ∧ linkB q v = true
    ·obtain ⟨v, hv, hl⟩ := hex
     obtain ⟨p', hp', hv'⟩ := hother v hv hl
     have hp'q : p' ∈ (trim1 q).parts := by rw [hT]; exact hp'
     have ht' := h.1 p' hp'q
     obtain ⟨u, hu, he⟩ := hNr v p' (hsub p' hp'q) p hpm hv' hv _ ht'
     rw [tat_sub (hW p' (hsub p' hp'q)).1 hv'] at he
     obtain ⟨μ, rfl⟩ := (hW p hpm).2 u hu
     rw [tat_sub (hW p hpm).1 hv] at he
     refine ⟨μ, hu, fun w hw hlw => ?_⟩
     have := g2 w (hvm w hw) v (hvm v hv) hlw hl
     rw [this]; exact he
    ·have hne := hNe p hpm
     obtain ⟨t, ht⟩ := List.exists_mem_of_ne_nil _ hne
     obtain ⟨μ, rfl⟩ := (hW p hpm).2 t ht
     exact ⟨μ, ht, fun w hw hlw => absurd ⟨w, hw, hlw⟩ hex⟩
   obtain ⟨μ, hμ, hag⟩ := hpick
   let ν' : Nu := fun v => if hasV p.a.ts v = true then μ v else ν v
   have hkeep : ∀ a : Atm, (∀ v, hasV a.ts v = true → hasV p.a.ts v = true → linkB q v = true) → esub a ν' = esub a ν := fun a ha => sub_congr fun v hv => by
    show (if hasV p.a.ts v = true then μ v else ν v) = ν v
    by_cases h : hasV p.a.ts v = true
    ·rw [if_pos h]; exact hag v h (ha v hv h)
    ·rw [if_neg h]
   refine ⟨ν', ⟨fun p' hp' => ?_, fun a ha => ?_⟩, fun v hv => ?_⟩
   ·rw [e1] at hp'
    have hcase : p' = p ∨ p' ∈ l1 ++ l2 := by
     rcases List.mem_append.1 hp' with h | h
     ·exact .inr (List.mem_append.2 (.inl h))
     ·rcases List.mem_cons.1 h with h | h
      ·exact .inl h
      ·exact .inr (List.mem_append.2 (.inr h))
    rcases hcase with rfl | hp''
    ·rw [sub_congr (ν' := μ) (fun v hv => by show (if hasV _ v = true then μ v else ν v) = μ v; rw [if_pos hv])]
     exact hμ
    ·rw [hkeep p'.a (fun v hv hpv => hel v hpv (.inr (.inl ⟨p', hp'', hv⟩)))]
     exact h.1 p' (by rw [hT]; exact hp'')
   ·rw [hkeep a (fun v hv hpv => hel v hpv (.inr (.inr ⟨a, ha, hv⟩)))]
    exact h.2 a ha
   ·show (if hasV p.a.ts v = true then μ v else ν v) = ν v
    by_cases hpv : hasV p.a.ts v = true
    ·rw [if_pos hpv]
     apply hag v hpv
     obtain ⟨a, ha, hav⟩ := hv
     unfold atomsQ at ha
     simp only [List.mem_cons, List.mem_append, List.mem_map] at ha
     rcases ha with rfl | ⟨p', h1, rfl⟩ | h1
     ·exact hel v hpv (.inl hav)
     ·exact hel v hpv (.inr (.inl ⟨p', by rw [hT] at h1; exact h1, hav⟩))
     ·exact hel v hpv (.inr (.inr ⟨a, h1, hav⟩))
    ·rw [if_neg hpv]
  ·obtain ⟨p', h1, h2⟩ := hwf v hv
   rw [e1] at h1
   have hcase : p' = p ∨ p' ∈ l1 ++ l2 := by
    rcases List.mem_append.1 h1 with h | h
    ·exact .inr (List.mem_append.2 (.inl h))
    ·rcases List.mem_cons.1 h with h | h
     ·exact .inl h
     ·exact .inr (List.mem_append.2 (.inr h))
   rcases hcase with rfl | hp''
   ·have hl : linkB q v = true := hel v h2 (by
     rcases hv with h | ⟨a, ha, hav⟩
     ·exact .inl h
     ·exact .inr (.inr ⟨a, ha, hav⟩))
    obtain ⟨p2, h3, h4⟩ := hother v h2 hl
    exact ⟨p2, by rw [hT]; exact h3, h4⟩
   ·exact ⟨p', by rw [hT]; exact hp'', h2⟩
theorem TrimR.red {neg : Int → Tup → Prop} {q q' : Qry} (h : TrimR q q') (hW : WP q) (hNe : NE q) (hNr : Nrw q) : Red neg q q' ∧ (∀ p ∈ q'.parts, p ∈ q.parts) ∧ (WFv q → WFv q') := by
 induction h with
 | refl => exact ⟨Red.refl _ _, fun p hp => hp, fun h => h⟩
 | tail h ih =>
  obtain ⟨i1, i2, i3⟩ := ih
  obtain ⟨g1, g2, g3⟩ := trim1_red (neg := neg) (fun p hp => hW p (i2 p hp)) (fun p hp => hNe p (i2 p hp)) (fun v p1 h1 p2 h2 => hNr v p1 (i2 p1 h1) p2 (i2 p2 h2))
  exact ⟨i1.trans g1, fun p hp => i2 p (g2 p hp), fun h => g3 (i3 h)⟩
/-! ### Met apart -/
theorem sol_split {neg : Int → Tup → Prop} {q : Qry} {rs : List Int} (hC : ClosedR (atomsQ q) rs rs) {ν1 ν2 : Nu} (h1 : Sol neg (nearQ q rs) ν1) (h2 : Sol neg (farQ q rs) ν2) : Sol neg q (fun v => if v ∈ rs then ν1 v else ν2 v) := by
 have hnear : ∀ a ∈ atomsQ q, inR rs a = true → esub a (fun v => if v ∈ rs then ν1 v else ν2 v) = esub a ν1 := fun a ha hin => sub_congr fun v hv => if_pos (hC a ha hin v (hasV_iff.1 hv))
 have hfar : ∀ a : Atm, inR rs a = false → esub a (fun v => if v ∈ rs then ν1 v else ν2 v) = esub a ν2 := fun a hin => sub_congr fun v hv => if_neg fun hm => by
  unfold inR at hin
  rw [List.any_eq_false] at hin
  exact hin v hm hv
 refine ⟨fun p hp => ?_, fun a ha => ?_⟩
 ·cases hin : inR rs p.a with
  | true => rw [hnear p.a (part_in hp) hin]; exact h1.1 p (List.mem_filter.2 ⟨hp, hin⟩)
  | false => rw [hfar p.a hin]; exact h2.1 p (List.mem_filter.2 ⟨hp, by simp [hin]⟩)
 ·cases hin : inR rs a with
  | true => rw [hnear a (by unfold atomsQ; simp [ha]) hin]; exact h1.2 a (List.mem_filter.2 ⟨ha, hin⟩)
  | false => rw [hfar a hin]; exact h2.2 a (List.mem_filter.2 ⟨ha, by simp [hin]⟩)
theorem sol_near {neg : Int → Tup → Prop} {q : Qry} {rs : List Int} {ν : Nu} (h : Sol neg q ν) : Sol neg (nearQ q rs) ν :=
 ⟨fun p hp => h.1 p (List.mem_filter.1 hp).1, fun a ha => h.2 a (List.mem_filter.1 ha).1⟩
theorem sol_far {neg : Int → Tup → Prop} {q : Qry} {rs : List Int} {ν : Nu} (h : Sol neg q ν) : Sol neg (farQ q rs) ν :=
 ⟨fun p hp => h.1 p (List.mem_filter.1 hp).1, fun a ha => h.2 a (List.mem_filter.1 ha).1⟩
theorem val_mem {neg : Int → Tup → Prop} {q : Qry} {v : Int} {ν : Nu} (hW : WP q) (h : Sol neg q ν) (hp : ∃ p ∈ q.parts, hasV p.a.ts v = true) : ν v ∈ valQ q v := by
 unfold valQ
 cases hf : q.parts.find? (fun p => hasV p.a.ts v) with
 | none =>
  obtain ⟨p, h1, h2⟩ := hp
  rw [List.find?_eq_none] at hf
  exact absurd h2 (hf p h1)
 | some p =>
  have h1 := List.mem_of_find?_eq_some hf
  have h2 : hasV p.a.ts v = true := by simpa using List.find?_some hf
  simp only
  unfold valT
  rw [valT_mem]
  exact .inr ⟨_, h.1 p h1, tat_sub (hW p h1).1 h2⟩
theorem met_free : ∀ {l : List Part}, (∀ p ∈ l, p.tups ≠ [] ∧ ∀ t ∈ p.tups, ∃ μ, t = esub p.a μ) → (∀ v, cntV (l.map (·.a)) v ≤ 1) → ∃ ν : Nu, ∀ p ∈ l, esub p.a ν ∈ p.tups
 | [], _, _ => ⟨fun _ => 0, fun p hp => by cases hp⟩
 | p :: l, h, hc => by
  obtain ⟨ν, hν⟩ := met_free (l := l) (fun p' hp' => h p' (by simp [hp'])) (fun v => by
   have := hc v
   rw [List.map_cons, cntV_cons] at this
   omega)
  obtain ⟨hne, hμ⟩ := h p (by simp)
  obtain ⟨t, ht⟩ := List.exists_mem_of_ne_nil _ hne
  obtain ⟨μ, rfl⟩ := hμ t ht
  refine ⟨fun v => if hasV p.a.ts v = true then μ v else ν v, fun p' hp' => ?_⟩
  rcases List.mem_cons.1 hp' with rfl | hp'
  ·rw [sub_congr (ν' := μ) (fun v hv => if_pos hv)]; exact ht
  ·rw [sub_congr (ν' := ν) (fun v hv => if_neg (fun hpv => by
    have := hc v
    rw [List.map_cons, cntV_cons, if_pos hpv] at this
    have := cntV_pos (l := l.map (·.a)) (List.mem_map.2 ⟨p', hp', rfl⟩) hv
    omega))]
   exact hν p' hp'
end Go.Proofs.YtmoeoppbmhfbpaaGreatDoorE
