import Derived.Test.YtmoeoppbmhfbpaaGreatDoorBEngY
/- The engine, in words: what the query of a rule brings. -/
namespace Go.Proofs.YtmoeoppbmhfbpaaGreatDoorB
open Go.Abs
set_option linter.unusedSimpArgs false
set_option linter.unusedVariables false
def Sh (ar : Nat → Nat) (k : Nat) (t : Tup) : Prop := ∃ l : List Int, t = tupOf l ∧ l.length = ar k ∧ ∀ x ∈ l, ∃ n : Nat, x = (n : Int) ∧ n < 1026
structure RW (np : Nat) (ar : Nat → Nat) (r : Rul) : Prop where
 rok : ROk np r
 nne : ∀ l ∈ r.body, l.neg = true → l.a.p ≠ r.head.p
 har : r.head.ts.length = ar r.head.p.toNat
 bar : ∀ l ∈ r.body, l.a.ts.length = ar l.a.p.toNat
 hc : ∀ t ∈ r.head.ts, t.1 = false → ∃ n : Nat, t.2 = (n : Int) ∧ n < 1026
 hv : ∀ v, (true, v) ∈ r.head.ts → 0 ≤ v ∧ v < 26
 bv : ∀ l ∈ r.body, ∀ v, (true, v) ∈ l.a.ts → 0 ≤ v ∧ v < 26
 safe : ∀ v, (hasV r.head.ts v = true ∨ ∃ l ∈ r.body, l.neg = true ∧ hasV l.a.ts v = true) → ∃ l ∈ r.body, l.neg = false ∧ hasV l.a.ts v = true
theorem fit_sub {a : Atm} (h3 : a.ts.length ≤ 3) (ν : Nu) : fitB a.ts (esub a ν) = true := by
 unfold fitB
 rw [List.all_eq_true]
 intro i hi
 have hi : i < a.ts.length := by simpa using hi
 have hg : (esub a ν)[i]? = some (valN ν a.ts[i]) := by
  unfold esub
  rw [tupOf_get (by simpa using hi) (by simpa using h3)]
  simp
 unfold fit1
 rw [List.getElem?_eq_getElem hi, hg]
 cases ht : a.ts[i] with
 | mk b n =>
  cases b with
  | false => simp [valN]
  | true =>
   have hm : (true, n) ∈ a.ts := by rw [← ht]; exact List.getElem_mem hi
   have := tat_sub (ν := ν) h3 (hasV_iff.2 hm)
   unfold tat at this
   simp only
   rw [this]
   simp [valN]
theorem sub_fit {a : Atm} {t : Tup} {l : List Int} (h3 : a.ts.length ≤ 3) (ht : t = tupOf l) (hl : l.length = a.ts.length) (hf : fitB a.ts t = true) : ∃ μ, t = esub a μ := by
 refine ⟨fun v => tat t (eplc a.ts v), ?_⟩
 have : a.ts.map (valN fun v => tat t (eplc a.ts v)) = l := by
  apply List.ext_getElem (by simp [hl])
  intro i h1 h2
  have hi : i < a.ts.length := by simpa using h1
  unfold fitB at hf
  rw [List.all_eq_true] at hf
  have h := hf i (by simpa using hi)
  have hg : t[i]? = some l[i] := by rw [ht, tupOf_get h2 (by omega)]
  unfold fit1 at h
  rw [List.getElem?_eq_getElem hi, hg] at h
  rw [List.getElem_map]
  cases he : a.ts[i] with
  | mk b n =>
   rw [he] at h
   cases b with
   | false =>
    simp only [beq_iff_eq] at h
    simp [valN, h]
   | true =>
    simp only [beq_iff_eq] at h
    rw [h]
    simp [valN, tat]
 unfold esub
 rw [this, ht]
theorem askT_sub {M : MM} {nw : Int} {fr i : Nat} {l : Lit} {t : Tup} (h : t ∈ askT M nw fr i l) : t ∈ tupsOf M l.a.p := by
 unfold askT at h
 split at h
 ·exact List.mem_of_mem_drop h
 ·exact h
theorem askL_mem {M : MM} {nw : Int} {fr : Nat} {b : List Lit} {p : Part} (h : p ∈ askL M nw fr b) : ∃ (l : Lit) (i : Nat), b[i]? = some l ∧ l.neg = false ∧ p = askP M nw fr (l, i) := by
 unfold askL at h
 obtain ⟨⟨l, i⟩, hx, rfl⟩ := List.mem_map.1 h
 obtain ⟨h1, h2⟩ := List.mem_filter.1 hx
 have := List.mem_zipIdx_iff_getElem?.1 h1
 exact ⟨l, i, by simpa using this, by simpa using h2, rfl⟩
theorem askL_of {M : MM} {nw : Int} {fr : Nat} {b : List Lit} {l : Lit} {i : Nat} (h : b[i]? = some l) (hn : l.neg = false) : askP M nw fr (l, i) ∈ askL M nw fr b := by
 unfold askL
 refine List.mem_map.2 ⟨(l, i), List.mem_filter.2 ⟨List.mem_zipIdx_iff_getElem?.2 (by simpa using h), by simp [hn]⟩, rfl⟩
def MSh (ar : Nat → Nat) (M : MM) : Prop := ∀ (k : Nat) (t : Tup), t ∈ tupsOf M (k : Int) → Sh ar k t
theorem ask_all {σ : St} {om ot : Nat} {M : MM} {d b : Int} {ar : Nat → Nat} {r : Rul} (hM : MOb σ om ot M d b) (hS : MSh ar M) (hr : RW M.length ar r) (nw : Int) (fr : Nat) : QAll (askQ M nw fr r) ∧ QV (askQ M nw fr r) ∧ ∀ v, inQ (askQ M nw fr r) v → v ∈ (List.range 26).map fun n : Nat => (n : Int) := by
 have hk : ∀ l ∈ r.body, ∃ k : Nat, l.a.p = (k : Int) ∧ k < M.length := hr.rok.bp
 have hnm : ∀ a ∈ askN r.body, ∃ l ∈ r.body, l.neg = true ∧ l.a = a := fun a ha => by
  obtain ⟨l, hl, rfl⟩ := List.mem_map.1 ha
  obtain ⟨h1, h2⟩ := List.mem_filter.1 hl
  exact ⟨l, h1, h2, rfl⟩
 have hnl : (askN r.body).length ≤ r.body.length := by
  unfold askN
  rw [List.length_map]
  exact List.length_filter_le _ _
 have hts : ∀ l ∈ r.body, T3 (tupsOf M l.a.p) ∧ (tupsOf M l.a.p).length ≤ 5000 := fun l hl => by
  obtain ⟨k, e, hkl⟩ := hk l hl
  have hg : M[k]? = some M[k] := List.getElem?_eq_getElem hkl
  rw [e, tupsOf_get hg]
  have hm := List.getElem_mem hkl
  exact ⟨hM.t3 _ hm, hM.ln _ hm⟩
 have hpl : (askL M nw fr r.body).length ≤ r.body.length := by
  unfold askL
  rw [List.length_map]
  refine Nat.le_trans (List.length_filter_le _ _) (by simp)
 have hsub : ∀ (l : Lit) (i : Nat), ∀ t ∈ (askP M nw fr (l, i)).tups, t ∈ tupsOf M l.a.p ∧ fitB l.a.ts t = true := fun l i t ht => by
  obtain ⟨h1, h2⟩ := List.mem_filter.1 ht
  exact ⟨askT_sub h1, h2⟩
 have hvar : ∀ v, inQ (askQ M nw fr r) v → 0 ≤ v ∧ v < 26 := fun v ⟨a, ha, hv⟩ => by
  unfold atomsQ askQ at ha
  simp only [List.mem_cons, List.mem_append, List.mem_map] at ha
  rcases ha with rfl | ⟨p, hp, rfl⟩ | ha
  ·exact hr.hv v (hasV_iff.1 hv)
  ·obtain ⟨l, i, h1, h2, rfl⟩ := askL_mem hp
   exact hr.bv l (List.mem_of_getElem? h1) v (hasV_iff.1 hv)
  ·obtain ⟨l, h1, h2, rfl⟩ := hnm a ha
   exact hr.bv l h1 v (hasV_iff.1 hv)
 refine ⟨⟨⟨hr.rok.hd, Nat.le_trans hpl hr.rok.bl, Nat.le_trans hnl hr.rok.bl, fun p hp => ?_, fun p hp => ?_, fun p hp => ?_, fun a ha => ?_⟩, fun p hp t ht => ?_, fun p hp => ?_, fun v hv => ?_⟩, fun a ha v hv => (hvar v ⟨a, ha, hasV_iff.2 hv⟩).1, fun v hv => ?_⟩
 ·obtain ⟨l, i, h1, h2, rfl⟩ := askL_mem hp
  exact hr.rok.ba l (List.mem_of_getElem? h1)
 ·obtain ⟨l, i, h1, h2, rfl⟩ := askL_mem hp
  have h3 := (hts l (List.mem_of_getElem? h1)).2
  refine Nat.le_trans (List.length_filter_le _ _) ?_
  unfold askT
  split
  ·simp; omega
  ·exact h3
 ·obtain ⟨l, i, h1, h2, rfl⟩ := askL_mem hp
  exact fun t ht => (hts l (List.mem_of_getElem? h1)).1 t (hsub l i t ht).1
 ·obtain ⟨l, h1, h2, rfl⟩ := hnm a ha
  exact hr.rok.ba l h1
 ·obtain ⟨l, i, h1, h2, rfl⟩ := askL_mem hp
  have hl := List.mem_of_getElem? h1
  obtain ⟨k, e, -⟩ := hk l hl
  have h3 := (hsub l i t ht).1
  rw [e] at h3
  obtain ⟨m, rfl, hm2, hm3⟩ := hS k t h3
  intro j hj
  have hml : m.length = l.a.ts.length := by rw [hm2, hr.bar l hl, e]; rfl
  have hj' : j < m.length := by rw [hml]; exact hj
  obtain ⟨n, hn1, hn2⟩ := hm3 m[j] (List.getElem_mem hj')
  exact ⟨n, by rw [tupOf_get hj' (by rw [hml]; exact hr.rok.ba l hl), hn1], hn2⟩
 ·obtain ⟨l, i, h1, h2, rfl⟩ := askL_mem hp
  have hl := List.mem_of_getElem? h1
  refine ⟨hr.rok.ba l hl, fun t ht => ?_⟩
  obtain ⟨k, e, -⟩ := hk l hl
  obtain ⟨h3, h4⟩ := hsub l i t ht
  rw [e] at h3
  obtain ⟨m, hm1, hm2, hm3⟩ := hS k t h3
  exact sub_fit (a := l.a) (hr.rok.ba l hl) hm1 (by rw [hm2, hr.bar l hl, e]; rfl) h4
 ·obtain ⟨l, hl, hln, hlv⟩ := hr.safe v (by
   rcases hv with h | ⟨a, ha, h⟩
   ·exact .inl h
   ·obtain ⟨l, h1, h2, rfl⟩ := hnm a ha
    exact .inr ⟨l, h1, h2, h⟩)
  obtain ⟨i, hi⟩ := List.getElem?_of_mem hl
  exact ⟨askP M nw fr (l, i), askL_of hi hln, hlv⟩
 ·obtain ⟨h1, h2⟩ := hvar v hv
  rw [List.mem_map]
  exact ⟨v.toNat, by simp; omega, by omega⟩
theorem ask_hds {neg : Int → Tup → Prop} {M : MM} {nw : Int} {fr : Nat} {ar : Nat → Nat} {r : Rul} {t : Tup} (hr : RW M.length ar r) : Hds neg (askQ M nw fr r) t ↔ ∃ ν, (∀ (l : Lit) (i : Nat), r.body[i]? = some l → l.neg = false → esub l.a ν ∈ askT M nw fr i l) ∧ (∀ l ∈ r.body, l.neg = true → ¬ neg l.a.p (esub l.a ν)) ∧ t = esub r.head ν := by
 constructor
 ·rintro ⟨ν, hν, rfl⟩
  refine ⟨ν, fun l i hi hn => ?_, fun l hl hn => hν.2 l.a (List.mem_map.2 ⟨l, List.mem_filter.2 ⟨hl, hn⟩, rfl⟩), rfl⟩
  have := hν.1 _ (askL_of hi hn)
  exact (List.mem_filter.1 this).1
 ·rintro ⟨ν, h, h', rfl⟩
  refine ⟨ν, ⟨fun p hp => ?_, fun a ha => ?_⟩, rfl⟩
  ·obtain ⟨l, i, h1, h2, rfl⟩ := askL_mem hp
   exact List.mem_filter.2 ⟨h l i h1 h2, fit_sub (hr.rok.ba l (List.mem_of_getElem? h1)) ν⟩
  ·obtain ⟨l, hl, rfl⟩ := List.mem_map.1 ha
   obtain ⟨h1, h2⟩ := List.mem_filter.1 hl
   exact h' l h1 h2
/-! ### Closed under rules -/
abbrev Dset := Nat → Tup → Prop
def LitH (N D : Dset) (ν : Nu) (l : Lit) : Prop := if l.neg = true then ¬ N l.a.p.toNat (esub l.a ν) else D l.a.p.toNat (esub l.a ν)
def ClG (R : List Rul) (N D : Dset) : Prop := ∀ r ∈ R, ∀ ν, (∀ l ∈ r.body, LitH N D ν l) → D r.head.p.toNat (esub r.head ν)
def MD (M : MM) : Dset := fun k t => t ∈ tupsOf M (k : Int)
def tot (M : MM) : Int := (cnts M).sum
structure GroA (D : Dset) (M M' : MM) (d d' : Int) : Prop where
 len : M'.length = M.length
 ext : ∀ k : Nat, ∃ new : List Tup, tupsOf M' k = tupsOf M k ++ new ∧ new.Nodup ∧ ∀ t ∈ new, D k t ∧ t ∉ tupsOf M k
 cnt : d' - d = tot M' - tot M
theorem GroA.refl (D : Dset) (M : MM) (d : Int) : GroA D M M d d := ⟨rfl, fun k => ⟨[], by simp, List.nodup_nil, by simp⟩, by omega⟩
theorem GroA.trans {D : Dset} {M M1 M2 : MM} {d d1 d2 : Int} (h : GroA D M M1 d d1) (g : GroA D M1 M2 d1 d2) : GroA D M M2 d d2 := by
 refine ⟨g.len.trans h.len, fun k => ?_, by have := h.cnt; have := g.cnt; omega⟩
 obtain ⟨n1, a1, a2, a3⟩ := h.ext k
 obtain ⟨n2, b1, b2, b3⟩ := g.ext k
 refine ⟨n1 ++ n2, by rw [b1, a1, List.append_assoc], ?_, ?_⟩
 ·rw [List.nodup_append]
  exact ⟨a2, b2, fun x hx y hy e => (b3 y hy).2 (by rw [a1, ← e]; exact List.mem_append.2 (.inr hx))⟩
 ·intro t ht
  rcases List.mem_append.1 ht with ht | ht
  ·exact a3 t ht
  ·exact ⟨(b3 t ht).1, fun hm => (b3 t ht).2 (by rw [a1]; exact List.mem_append.2 (.inl hm))⟩
theorem GroA.sub {D : Dset} {M M' : MM} {d d' : Int} (h : GroA D M M' d d') {k : Nat} {t : Tup} (ht : t ∈ tupsOf M k) : t ∈ tupsOf M' k := by
 obtain ⟨n, a1, -, -⟩ := h.ext k
 rw [a1]; exact List.mem_append.2 (.inl ht)
theorem GroA.inD {D : Dset} {M M' : MM} {d d' : Int} (h : GroA D M M' d d') (hD : ∀ k t, MD M k t → D k t) : ∀ k t, MD M' k t → D k t := fun k t ht => by
 obtain ⟨n, a1, -, a3⟩ := h.ext k
 unfold MD at ht
 rw [a1] at ht
 rcases List.mem_append.1 ht with ht | ht
 ·exact hD k t ht
 ·exact (a3 t ht).1
theorem tot_cons (x : Nat × List Tup) (M : MM) : tot (x :: M) = (x.2.length : Int) + tot M := by simp [tot, cnts]
theorem tot_diff : ∀ (M M' : MM) (k : Nat) (n : Nat), M'.length = M.length → (∀ j, j ≠ k → (M'[j]?).map (·.2) = (M[j]?).map (·.2)) → (k < M.length → ((tupsOf M' k).length : Int) = (tupsOf M k).length + n) → (M.length ≤ k → n = 0) → tot M' = tot M + n
 | [], M', k, n, hl, ho, hk, hn => by
  have : M' = [] := List.eq_nil_of_length_eq_zero (by simpa using hl)
  subst this
  have := hn (by simp)
  subst this
  simp [tot, cnts]
 | x :: M, [], k, n, hl, ho, hk, hn => by simp at hl
 | x :: M, y :: M', 0, n, hl, ho, hk, hn => by
  have h0 := hk (by simp)
  simp [tupsOf] at h0
  have hrest : tot M' = tot M + (0 : Nat) := tot_diff M M' M.length 0 (by simpa using hl) (fun j hj => by have := ho (j + 1) (by omega); simpa using this) (fun h => by omega) (fun _ => rfl)
  rw [tot_cons, tot_cons, hrest]
  omega
 | x :: M, y :: M', k + 1, n, hl, ho, hk, hn => by
  have h0 := ho 0 (by omega)
  simp at h0
  have hrest := tot_diff M M' k n (by simpa using hl) (fun j hj => by have := ho (j + 1) (by omega); simpa using this) (fun h => by
   have := hk (by simp; omega)
   simpa [tupsOf] using this) (fun h => hn (by simp; omega))
  rw [tot_cons, tot_cons, hrest, h0]
  omega
theorem Gro.all {k : Nat} {S : Tup → Prop} {D : Dset} {M M' : MM} {d d' : Int} (h : Gro k S M M' d d') (hk : k < M.length) (hS : ∀ t, S t → D k t) : GroA D M M' d d' := by
 obtain ⟨n, a1, a2, a3, a4⟩ := h.ext
 refine ⟨h.len, fun j => ?_, ?_⟩
 ·by_cases e : j = k
  ·subst e
   exact ⟨n, a1, a2, fun t ht => ⟨hS t (a3 t ht).1, (a3 t ht).2⟩⟩
  ·refine ⟨[], ?_, List.nodup_nil, by simp⟩
   have := h.oth j e
   unfold tupsOf
   simp only [Int.toNat_natCast]
   rw [this]; simp
 ·have := tot_diff M M' k n.length h.len h.oth (fun _ => by rw [a1]; simp) (fun hh => by omega)
  omega
/- The program's engine: what follows from new tuples. -/
set_option maxRecDepth 100000
theorem ERu_len (a : Rul) (c : List AV) (h : ERu a c) : c.length = 4 := by obtain ⟨o, ih, ib, bc, rfl, -⟩ := h; rfl
theorem ERu_get {l : List Rul} {cs : List AV} {i : Nat} {r : Rul} (h : EL ERu l cs) (hi : l[i]? = some r) : ∃ o ih ib bc rr, cs.drop (i * 4) = sc (.bool o) :: ic r.head.p :: sl ih r.head.ts.length (ecells r.head.ts) :: sl ib r.body.length bc :: rr ∧ EL ELt r.body bc := by
 obtain ⟨c, rr, ⟨o, ih, ib, bc, rfl, hB⟩, e⟩ := EL.get ERu_len h hi
 exact ⟨o, ih, ib, bc, rr, e, hB⟩
def NgIn (R : List Rul) (D : Dset) (M : MM) : Prop := ∀ r ∈ R, ∀ l ∈ r.body, l.neg = true → ∀ t, D l.a.p.toNat t → MD M l.a.p.toNat t
theorem NgIn.gro {R : List Rul} {D : Dset} {M M' : MM} {d d' : Int} (h : NgIn R D M) (g : GroA D M M' d d') : NgIn R D M' := fun r hr l hl hn t ht => g.sub (h r hr l hl hn t ht)
def ngD (D : Dset) : Int → Tup → Prop := fun p t => D p.toNat t
structure Fol (np : Nat) (ar : Nat → Nat) (R : List Rul) (D : Dset) : Prop where
 rw : ∀ r ∈ R, RW np ar r
 cl : ClG R D D
 sh : ∀ k t, D k t → Sh ar k t
theorem ask_inD {np : Nat} {ar : Nat → Nat} {R : List Rul} {D : Dset} {M : MM} {nw : Int} {fr : Nat} {r : Rul} (hF : Fol np ar R D) (hn : M.length = np) (hr : r ∈ R) (hD : ∀ k t, MD M k t → D k t) {t : Tup} (ht : Hds (ngD D) (askQ M nw fr r) t) : D r.head.p.toNat t := by
 obtain ⟨ν, h1, h2, rfl⟩ := (ask_hds (ar := ar) (hn ▸ hF.rw r hr)).1 ht
 refine hF.cl r hr ν (fun l hl => ?_)
 unfold LitH
 cases hln : l.neg with
 | true => simpa [ngD] using h2 l hl hln
 | false =>
  obtain ⟨i, hi⟩ := List.getElem?_of_mem hl
  obtain ⟨k, hk, -⟩ := (hF.rw r hr).rok.bp l hl
  have := askT_sub (h1 l i hi hln)
  rw [hk] at this
  simp only [Bool.false_eq_true, if_false]
  rw [hk]
  exact hD k _ this
theorem ask_derive {np : Nat} {ar : Nat → Nat} {R : List Rul} {D : Dset} (hF : Fol np ar R D) (om ot : Nat) (b : Int) (hb1 : -1000000 ≤ b) (hb2 : b ≤ 900000) (M : MM) (d : Int) (hn : M.length = np) (hD : ∀ k t, MD M k t → D k t) (hNg : NgIn R D M) (hR : Room M d b) (hd1 : -1000000 ≤ d) (hd2 : d ≤ 1000000) (r : Rul) (hr : r ∈ R) (nw : Int) (fr : Nat) (c : List AV) (hc : EQ (askQ M nw fr r) c) (σ : St) (hM : MOb σ om ot M d b) :
  ACalls Tryz.prog 131 [ptr om 0, ag c] σ fun x σ' => ∃ M' d', MOb σ' om ot M' d' b ∧ KM om ot M M' σ σ' ∧ GroA D M M' d d' ∧ Room M' d' b ∧ d' ≤ 1000000 ∧ d ≤ d' ∧ (¬ b < d' → ∀ ν, (∀ (l : Lit) (i : Nat), r.body[i]? = some l → l.neg = false → esub l.a ν ∈ askT M nw fr i l) → (∀ l ∈ r.body, l.neg = true → ¬ D l.a.p.toNat (esub l.a ν)) → MD M' r.head.p.toNat (esub r.head ν)) := by
 have hrw : RW M.length ar r := hn ▸ hF.rw r hr
 obtain ⟨a1, a2, a3⟩ := ask_all hM (fun k t ht => hF.sh k t (hD k t ht)) hrw nw fr
 obtain ⟨k, hk, hkn⟩ := hrw.rok.hp
 have hnm : ∀ a ∈ (askQ M nw fr r).nots, ∃ l ∈ r.body, l.neg = true ∧ l.a = a := fun a ha => by
  obtain ⟨l, hl, rfl⟩ := List.mem_map.1 ha
  obtain ⟨h1, h2⟩ := List.mem_filter.1 hl
  exact ⟨l, h1, h2, rfl⟩
 have b1 : NegOk (ngD D) M (askQ M nw fr r) := fun a ha => by
  obtain ⟨l, h1, h2, rfl⟩ := hnm a ha
  obtain ⟨j, hj, hjn⟩ := hrw.rok.bp l h1
  have hg : M[j]? = some M[j] := List.getElem?_eq_getElem hjn
  refine ⟨j, M[j], hj, hg, fun t => ?_⟩
  have hT := tupsOf_get hg
  have e : l.a.p.toNat = j := by rw [hj]; rfl
  unfold ngD
  rw [e]
  constructor
  ·intro ht
   have := hNg r hr l h1 h2 t (by rw [e]; exact ht)
   rw [e] at this
   unfold MD at this
   rwa [hT] at this
  ·intro ht
   exact hD j t (by unfold MD; rw [hT]; exact ht)
 have b2 : ∀ a ∈ (askQ M nw fr r).nots, a.p ≠ (k : Int) := fun a ha e => by
  obtain ⟨l, h1, h2, rfl⟩ := hnm a ha
  exact hrw.nne l h1 h2 (by rw [e, hk])
 have := ederive_spec (ngD D) om ot b _ _ (Nat.le_refl _) (askQ M nw fr r) c k M d hc a1 b1 b2 a2 hk hkn hR hd1 hd2 hb1 hb2 a3 σ hM
 refine ACalls.mono this ?_
 rintro x σ' ⟨M', d', h1, h2, h3, h4, h5⟩
 have hto : r.head.p.toNat = k := by rw [hk]; rfl
 refine ⟨M', d', h1, h2, h3.all hkn (fun t ht => by rw [← hto]; exact ask_inD hF hn hr hD ht), h3.room hR, h4, h3.le, fun hnb ν hν hν' => ?_⟩
 unfold MD
 rw [hto]
 exact h5 hnb _ ((ask_hds hrw).2 ⟨ν, hν, hν', rfl⟩)
def NewR (D : Dset) (M0 M' : MM) (seen : List Int) (r : Rul) (j : Nat) : Prop := ∀ (i : Nat) (l : Lit), i < j → r.body[i]? = some l → l.neg = false → ∀ ν, (∀ l' ∈ r.body, LitH D (MD M0) ν l') → esub l.a ν ∈ (tupsOf M0 l.a.p).drop ((seen[l.a.p.toNat]?).getD 0).toNat → MD M' r.head.p.toNat (esub r.head ν)
theorem NewR.mono {D : Dset} {M0 M1 M2 : MM} {seen : List Int} {r : Rul} {j : Nat} {d1 d2 : Int} (h : NewR D M0 M1 seen r j) (g : GroA D M1 M2 d1 d2) : NewR D M0 M2 seen r j := fun i l hi hl hn ν h1 h2 => g.sub (h i l hi hl hn ν h1 h2)
set_option maxHeartbeats 32000000 in
theorem efollowNew_spec {np : Nat} {ar : Nat → Nat} {R : List Rul} {D : Dset} (hF : Fol np ar R D) (om ot : Nat) (b : Int) (hb1 : -1000000 ≤ b) (hb2 : b ≤ 900000) (M : MM) (d : Int) (hn : M.length = np) (hD : ∀ k t, MD M k t → D k t) (hNg : NgIn R D M) (hRm : Room M d b) (hd1 : -1000000 ≤ d) (hd2 : d ≤ 1000000) (rc : List AV) (idr : Nat) (hrc : EL ERu R rc) (hRl : R.length ≤ 1000) (seen : List Int) (ids : Nat) (hsl : seen.length = np) (hs0 : ∀ n ∈ seen, 0 ≤ n ∧ n ≤ 5000) (σ : St) (hM : MOb σ om ot M d b) :
  ACalls Tryz.prog 132 [ptr om 0, sl idr R.length rc, sl ids seen.length (icells seen)] σ fun x σ' => ∃ M' d', MOb σ' om ot M' d' b ∧ KM om ot M M' σ σ' ∧ GroA D M M' d d' ∧ Room M' d' b ∧ d' ≤ 1000000 ∧ d ≤ d' ∧ (¬ b < d' → ∀ r ∈ R, NewR D M M' seen r r.body.length) := by
 have hrl := EL.length ERu_len hrc
 have hsi := icells_len seen
 have hpl := hM.pl
 have hs1 : np ≤ seen.length := by omega
 have hn1 : M.length ≤ np := by omega
 have hn2 : np ≤ M.length := by omega
 have HN0 : Abs.Hid (M.length = np) := hn
 clear hsl hn
 refine acalls 59 [] Tryz.func132 rfl (by decide) rfl rfl (Nat.le_of_ble_eq_true rfl) ?_
 repeat' (first
 |with_reducible first|apply Xa|apply Xb|(refine Xc ?_;intro κ hκ)|(apply hκ.out;clear hκ κ)|apply Xd|apply Xe|apply Xf
 |((with_reducible first|refine Xl ?_ ?_|refine Xm ?_ ?_|refine Xk ?_ ?_)<;> intro h hari<;> try exact Xp)
 |refine Xr ?_
 |exact True.intro
 |((with_reducible refine Xg ?_);refine Xj ?_)
 |(apply hκ.out;clear hκ κ))
 refine awp_loop (fun m s σ' => ∃ (k : Nat) (M1 : MM) (d1 : Int), m = R.length - k ∧ k ≤ R.length ∧ s 0 = ptr om 0 ∧ s 2 = sl ids seen.length (icells seen) ∧ s 12 = sl idr R.length rc ∧ s 13 = ic R.length ∧ s 14 = ic k ∧ MOb σ' om ot M1 d1 b ∧ KM om ot M M1 σ σ' ∧ d1 ≤ 1000000 ∧ d ≤ d1 ∧ Abs.Hid (GroA D M M1 d d1 ∧ Room M1 d1 b ∧ (¬ b < d1 → ∀ r ∈ R.take k, NewR D M M1 seen r r.body.length))) R.length
  ⟨0, M, d, by omega, by omega, by simp [upd, initS], by simp [upd, initS], by simp [upd], by simp [upd], rfl, hM, KM.ofKeep (Keep.refl _), hd2, by omega, GroA.refl _ _ _, hRm, fun _ r hr => by simp at hr⟩ ?_
 rintro m s σ' ⟨k, M1, d1, rfl, hk, h0, h2, h12, h13, h14, hM1, hKM1, hd11, hd12, hG⟩
 by_cases hlt : k < R.length
 ·have hget := List.getElem?_eq_getElem hlt
  obtain ⟨o, ih, ib, bc, rr, hd, hB⟩ := ERu_get hrc hget
  have hmem := List.getElem_mem hlt
  generalize R[k] = r at hd hget hmem hB
  have HTK : Abs.Hid (R.take (k + 1) = R.take k ++ [r]) := by rw [Abs.Hid, List.take_add_one, hget, Option.toList_some]
  clear hget
  have hbl := EL.length ELt_len hB
  have hb64 := (hF.rw r hmem).rok.bl
  have l1 := hM1.lo
  have l2 := hM1.lt
  repeat' (first
 |with_reducible first|apply Xa|apply Xb|(refine Xc ?_;intro κ hκ)|(apply hκ.out;clear hκ κ)|apply Xd|apply Xe|apply Xf
 |((with_reducible first|refine Xl ?_ ?_|refine Xm ?_ ?_|refine Xk ?_ ?_)<;> intro h hari<;> try exact Xp)
 |refine Xr ?_
 |exact True.intro
 |((with_reducible refine Xg ?_);refine Xj ?_)
 |(apply hκ.out;clear hκ κ))
  refine awp_loop (fun m s σ2 => ∃ (j : Nat) (M2 : MM) (d2 : Int), m = r.body.length - j ∧ j ≤ r.body.length ∧ s 0 = ptr om 0 ∧ s 2 = sl ids seen.length (icells seen) ∧ s 7 = ptr σ'.nobj 0 ∧ s 12 = sl idr R.length rc ∧ s 13 = ic R.length ∧ s 14 = ic k ∧ s 19 = sl ib r.body.length bc ∧ s 20 = ic r.body.length ∧ s 21 = ic j ∧ MOb σ2 om ot M2 d2 b ∧ KM om ot M M2 σ σ2 ∧ σ'.nobj < σ2.nobj ∧ σ2.obj σ'.nobj = [sc (.bool o), ic r.head.p, sl ih r.head.ts.length (ecells r.head.ts), sl ib r.body.length bc] ∧ d2 ≤ 1000000 ∧ d ≤ d2 ∧ Abs.Hid (GroA D M M2 d d2 ∧ Room M2 d2 b ∧ (¬ b < d2 → (∀ r ∈ R.take k, NewR D M M2 seen r r.body.length) ∧ NewR D M M2 seen r j))) r.body.length
   ⟨0, M1, d1, by omega, by omega, by simp [upd, *], by simp [upd, *], by simp [upd], by simp [upd, *], by simp [upd, *], by simp [upd, *], by simp [upd], by simp [upd], rfl, hM1.keep (((Keep.refl _).new _).put (Nat.le_refl _) _), hKM1.trans (KM.ofKeep (((Keep.refl _).new _).put (Nat.le_refl _) _)), by simp only [put_nobj, new_nobj]; omega, put_same, hd11, hd12, hG.out.1, hG.out.2.1, fun h => ⟨hG.out.2.2 h, fun i l hi => by omega⟩⟩ ?_
  have h8m : om ≠ σ'.nobj := by omega
  have h8t : ot ≠ σ'.nobj := by omega
  clear h0 h2 h12 h13 h14 hM1 hKM1 hG hd11 hd12 l1 l2
  rintro m s σ2 ⟨j, M2, d2, rfl, hj, h0, h2, h7, h12, h13, h14, h19, h20, h21, hM2, hKM2, hno, ob7, hd21, hd22, hG⟩
  have l1 := hM2.lo
  have l2 := hM2.lt
  by_cases hlt2 : j < r.body.length
  ·have hget := List.getElem?_eq_getElem hlt2
   obtain ⟨id, r2, hd2'⟩ := ELt_get hB hget
   have hlm := List.getElem_mem hlt2
   generalize r.body[j] = w at hd2' hget hlm
   obtain ⟨p, hp, hpn⟩ := (hF.rw r hmem).rok.bp w hlm
   have HW : Abs.Hid (r.body[j]? = some w) := hget
   clear hget
   rw [hp] at hd2'
   have hsp : seen[p]? = some seen[p] := List.getElem?_eq_getElem (by omega)
   obtain ⟨rs, hds⟩ := icells_get hsp
   have hsb := hs0 _ (List.getElem_mem (show p < seen.length by omega))
   generalize seen[p] = f at hsp hds hsb
   obtain ⟨fn, rfl⟩ : ∃ fn : Nat, f = (fn : Int) := ⟨f.toNat, by omega⟩
   have hM2l : M2.length ≤ M.length ∧ M.length ≤ M2.length := by have := hG.out.1.len; omega
   have hgx0 : M2[p]? = some M2[p] := List.getElem?_eq_getElem (by omega)
   generalize M2[p] = y at hgx0
   have hgy := mcells_get hgx0
   have hyl := hM2.ln y (List.mem_of_getElem? hgx0)
   have hml := mcells_len M2
   have obm := hM2.ob
   have obt := hM2.oc
   have hpl2 := hM2.pl
   have hTy : Abs.Hid (tupsOf M2 (p : Int) = y.2) := tupsOf_get hgx0
   -- what this literal's turn must bring
   have hTurn : Abs.Hid (∀ M3 d3, GroA D M2 M3 d2 d3 → (¬ b < d3 → w.neg = false → ∀ ν, (∀ l' ∈ r.body, LitH D (MD M) ν l') → esub w.a ν ∈ (tupsOf M w.a.p).drop fn → MD M3 r.head.p.toNat (esub r.head ν)) → d2 ≤ d3 → (¬ b < d3 → (∀ r ∈ R.take k, NewR D M M3 seen r r.body.length) ∧ NewR D M M3 seen r (j + 1))) := fun M3 d3 hg3 hnew hle hnb => by
    obtain ⟨g1, g2⟩ := hG.out.2.2 (by omega)
    refine ⟨fun r' hr' => (g1 r' hr').mono hg3, fun i l hi hl hln ν a1 a2 => ?_⟩
    by_cases e : i = j
    ·subst e
     rw [HW.out] at hl
     obtain rfl := Option.some.inj hl
     refine hnew hnb hln ν a1 ?_
     rw [hp] at a2 ⊢
     rw [Int.toNat_natCast, hsp] at a2
     simpa using a2
    ·exact hg3.sub (g2 i l (by omega) hl hln ν a1 a2)
   cases hneg : w.neg with
   | true =>
    have HN : Abs.Hid (GroA D M M2 d d2 ∧ Room M2 d2 b ∧ (¬ b < d2 → (∀ r ∈ R.take k, NewR D M M2 seen r r.body.length) ∧ NewR D M M2 seen r (j + 1))) :=
     ⟨hG.out.1, hG.out.2.1, hTurn.out M2 d2 (GroA.refl _ _ _) (fun _ hh => by rw [hneg] at hh; cases hh) (by omega)⟩
    rw [hneg] at hd2'
    clear hTurn hneg
    repeat' (first
 |with_reducible first|apply Xa|apply Xb|(refine Xc ?_;intro κ hκ)|(apply hκ.out;clear hκ κ)|apply Xd|apply Xe|apply Xf
 |((with_reducible first|refine Xl ?_ ?_|refine Xm ?_ ?_|refine Xk ?_ ?_)<;> intro h hari<;> try exact Xp)
 |refine Xr ?_
 |exact True.intro
 |((with_reducible refine Xg ?_);refine Xj ?_)
 |(apply hκ.out;clear hκ κ))
    refine awp_draw_k follows_mixed (fun _ => True) [] [0, 1, 2, 3, 4, 5, 6, 7, 8, 9, 10, 11, 12, 13, 14, 15, 16] [] (by kernel_rfl) (fun _ _ _ h => h) ?_
    intro κ hκ
    repeat' (first
 |with_reducible first|apply Xa|apply Xb|(refine Xc ?_;intro κ hκ)|(apply hκ.out;clear hκ κ)|apply Xd|apply Xe|apply Xf
 |((with_reducible first|refine Xl ?_ ?_|refine Xm ?_ ?_|refine Xk ?_ ?_)<;> intro h hari<;> try exact Xp)
 |refine Xr ?_
 |exact True.intro
 |((with_reducible refine Xg ?_);refine Xj ?_)
 |(apply hκ.out;clear hκ κ))
    refine ⟨r.body.length - (j + 1), by omega, j + 1, M2, d2, ?_⟩
    ((repeat' with_reducible refine And.intro ?_ ?_)<;> first|exact Xq|exact (HN)|exact (hM2.keep (((Keep.refl _).new _).put (Nat.le_refl _) _))|exact (hKM2.trans (KM.ofKeep (((Keep.refl _).new _).put (Nat.le_refl _) _)))|exact Xs)
   | false =>
    rw [hneg] at hd2'
    clear hneg
    repeat' (first
 |with_reducible first|apply Xa|apply Xb|(refine Xc ?_;intro κ hκ)|(apply hκ.out;clear hκ κ)|apply Xd|apply Xe|apply Xf
 |((with_reducible first|refine Xl ?_ ?_|refine Xm ?_ ?_|refine Xk ?_ ?_)<;> intro h hari<;> try exact Xp)
 |refine Xr ?_
 |exact True.intro
 |((with_reducible refine Xg ?_);refine Xj ?_)
 |(apply hκ.out;clear hκ κ))
    refine awp_draw_k follows_mixed (fun _ => True) [] [0, 1, 2, 3, 4, 5, 6, 7, 8, 9, 10, 11, 12, 13, 14, 15, 16] [] (by kernel_rfl) (fun _ _ _ h => h) ?_
    intro κ hκ
    by_cases hfl : fn < y.2.length
    ·have hfb : decide ((fn : Int) < (y.2.length : Int)) = true := by simp; exact hfl
     have hAs := fun σ (h : MOb σ om ot M2 d2 b) => eask_spec om ot M2 d2 b r [sc (.bool o), ic r.head.p, sl ih r.head.ts.length (ecells r.head.ts), sl ib r.body.length bc] (j : Int) fn ⟨o, ih, ib, bc, rfl, hB⟩ (by have := hG.out.1.len; rw [this, HN0.out]; exact (hF.rw r hmem).rok) (by omega) σ h
     have hDe : Abs.Hid (∀ c3, EQ (askQ M2 (j : Int) fn r) c3 → ∀ σ, MOb σ om ot M2 d2 b → ACalls Tryz.prog 131 [ptr om 0, ag c3] σ fun x σ' => ∃ M' d', MOb σ' om ot M' d' b ∧ KM om ot M2 M' σ σ' ∧ GroA D M2 M' d2 d' ∧ Room M' d' b ∧ d' ≤ 1000000 ∧ d2 ≤ d' ∧ (¬ b < d' → ∀ ν, (∀ (l : Lit) (i : Nat), r.body[i]? = some l → l.neg = false → esub l.a ν ∈ askT M2 (j : Int) fn i l) → (∀ l ∈ r.body, l.neg = true → ¬ D l.a.p.toNat (esub l.a ν)) → MD M' r.head.p.toNat (esub r.head ν))) := fun c3 h3 σ hh =>
      ask_derive hF om ot b hb1 hb2 M2 d2 (by have := hG.out.1.len; rw [this]; exact HN0.out) (hG.out.1.inD hD) (hNg.gro hG.out.1) hG.out.2.1 (by omega) hd21 r hmem (j : Int) fn c3 h3 σ hh
     clear hfl
     repeat' (first
 |with_reducible first|apply Xa|apply Xb|(refine Xc ?_;intro κ hκ)|(apply hκ.out;clear hκ κ)|apply Xd|apply Xe|apply Xf
 |((with_reducible first|refine Xl ?_ ?_|refine Xm ?_ ?_|refine Xk ?_ ?_)<;> intro h hari<;> try exact Xp)
 |((with_reducible refine Xh ?_);first|(refine Xi (hAs _ (hM2.keep (by exact Xs))) ?_;rintro _ _ ⟨⟨_,rfl,ih3,ip3,in3,pc3,nc3,rfl,hP3,hN3⟩,hK3⟩;(have kno3:=hK3.nobj;have kob3:=hK3.obj;simp only [put_nobj,new_nobj] at kno3 kob3;have hKx:=(((Keep.refl σ2).new _).put (Nat.le_refl _) _).trans hK3;have hDc:=hDe.out _ ⟨ih3,ip3,in3,pc3,nc3,rfl,hP3,hN3⟩))|(refine Xi (hDc _ (hM2.keep (by exact Xs))) ?_;rintro _ _ ⟨M3,d3,hM3,hKM3,hG3,hR3,hd31,hd32,hnew⟩;(have HG3 : Abs.Hid _:=hG3;have HNEW : Abs.Hid _:=hnew;clear hG3 hnew;have kn3:=hKM3.nobj;simp only [put_nobj,new_nobj] at kn3;have ob3:=hKM3.obj σ'.nobj (by simp only [put_nobj,new_nobj];omega) h8m.symm h8t.symm;have hKM4:=(hKM2.trans (KM.ofKeep ((hKx.new _).put (by omega) _))).trans hKM3)))
 |refine Xr ?_
 |exact True.intro
 |((with_reducible refine Xg ?_);refine Xj ?_)
 |(apply hκ.out;clear hκ κ))
     have HN : Abs.Hid (GroA D M M3 d d3 ∧ Room M3 d3 b ∧ (¬ b < d3 → (∀ r ∈ R.take k, NewR D M M3 seen r r.body.length) ∧ NewR D M M3 seen r (j + 1))) := by
      refine ⟨hG.out.1.trans HG3.out, hR3, hTurn.out M3 d3 HG3.out (fun hnb _ ν a1 a2 => HNEW.out hnb ν (fun l i hl hln => ?_) (fun l hl hln => by
       have := a1 l hl
       unfold LitH at this
       rw [hln] at this
       simpa using this)) hd32⟩
      have hlmem := List.mem_of_getElem? hl
      obtain ⟨p', hp', -⟩ := (hF.rw r hmem).rok.bp l hlmem
      obtain ⟨nw, e1, -, -⟩ := hG.out.1.ext p'
      unfold askT
      by_cases e : (i : Int) = (j : Int)
      ·rw [if_pos e]
       have : i = j := by omega
       subst this
       rw [HW.out] at hl
       obtain rfl := Option.some.inj hl
       rw [hp'] at a2 ⊢
       rw [e1, List.drop_append]
       exact List.mem_append.2 (.inl a2)
      ·rw [if_neg e]
       have := a1 l hlmem
       unfold LitH MD at this
       rw [hln, hp'] at this
       simp only [Bool.false_eq_true, if_false, Int.toNat_natCast] at this
       rw [hp', e1]
       exact List.mem_append.2 (.inl this)
     refine ⟨r.body.length - (j + 1), by omega, j + 1, M3, d3, ?_⟩
     have ob4 : ∀ S : St, S.obj σ'.nobj = σ2.obj σ'.nobj → S.obj σ'.nobj = [sc (.bool o), ic r.head.p, sl ih r.head.ts.length (ecells r.head.ts), sl ib r.body.length bc] := fun S e => by rw [e, ob7]
     have ob5 := ob4 _ (by rw [ob3, put_ne (by omega), new_lt (by omega), kob3 _ (by omega), put_ne (by omega), new_lt (by omega)])
     ((repeat' with_reducible refine And.intro ?_ ?_)<;> first|exact Xq|exact (HN)|exact (hM3)|exact (hKM4)|exact (ob5)|exact Xs)
    ·have hfb : decide ((fn : Int) < (y.2.length : Int)) = false := by simp; omega
     have HN : Abs.Hid (GroA D M M2 d d2 ∧ Room M2 d2 b ∧ (¬ b < d2 → (∀ r ∈ R.take k, NewR D M M2 seen r r.body.length) ∧ NewR D M M2 seen r (j + 1))) := by
      refine ⟨hG.out.1, hG.out.2.1, hTurn.out M2 d2 (GroA.refl _ _ _) (fun _ _ ν _ a2 => ?_) (by omega)⟩
      exfalso
      obtain ⟨nw, e1, -, -⟩ := hG.out.1.ext p
      rw [hTy.out] at e1
      have hle : (tupsOf M (p : Int)).length ≤ y.2.length := by rw [e1]; simp
      rw [hp, List.drop_eq_nil_of_le (by omega)] at a2
      cases a2
     clear hfl hTurn
     repeat' (first
 |with_reducible first|apply Xa|apply Xb|(refine Xc ?_;intro κ hκ)|(apply hκ.out;clear hκ κ)|apply Xd|apply Xe|apply Xf
 |((with_reducible first|refine Xl ?_ ?_|refine Xm ?_ ?_|refine Xk ?_ ?_)<;> intro h hari<;> try exact Xp)
 |refine Xr ?_
 |exact True.intro
 |((with_reducible refine Xg ?_);refine Xj ?_)
 |(apply hκ.out;clear hκ κ))
     refine ⟨r.body.length - (j + 1), by omega, j + 1, M2, d2, ?_⟩
     ((repeat' with_reducible refine And.intro ?_ ?_)<;> first|exact Xq|exact (HN)|exact (hM2.keep (((Keep.refl _).new _).put (Nat.le_refl _) _))|exact (hKM2.trans (KM.ofKeep (((Keep.refl _).new _).put (Nat.le_refl _) _)))|exact Xs)
  ·have hjl : j = r.body.length := by omega
   subst hjl
   have HN : Abs.Hid (GroA D M M2 d d2 ∧ Room M2 d2 b ∧ (¬ b < d2 → ∀ r ∈ R.take (k + 1), NewR D M M2 seen r r.body.length)) := by
    obtain ⟨g1, g2, g3⟩ := hG.out
    refine ⟨g1, g2, fun h r' hr' => ?_⟩
    rw [HTK.out] at hr'
    rcases List.mem_append.1 hr' with h' | h'
    ·exact (g3 h).1 r' h'
    ·simp at h'; subst h'; exact (g3 h).2
   repeat' (first
 |with_reducible first|apply Xa|apply Xb|(refine Xc ?_;intro κ hκ)|(apply hκ.out;clear hκ κ)|apply Xd|apply Xe|apply Xf
 |((with_reducible first|refine Xl ?_ ?_|refine Xm ?_ ?_|refine Xk ?_ ?_)<;> intro h hari<;> try exact Xp)
 |refine Xr ?_
 |exact True.intro
 |((with_reducible refine Xg ?_);refine Xj ?_)
 |(apply hκ.out;clear hκ κ))
   refine ⟨R.length - (k + 1), by omega, k + 1, M2, d2, ?_⟩
   ((repeat' with_reducible refine And.intro ?_ ?_)<;> first|exact Xq|exact (HN)|exact Xs)
 ·have hkl : k = R.length := by omega
  subst hkl
  obtain ⟨g1, g2, g3⟩ := hG.out
  rw [List.take_length] at g3
  repeat' (first
 |with_reducible first|apply Xa|apply Xb|(refine Xc ?_;intro κ hκ)|(apply hκ.out;clear hκ κ)|apply Xd|apply Xe|apply Xf
 |((with_reducible first|refine Xl ?_ ?_|refine Xm ?_ ?_|refine Xk ?_ ?_)<;> intro h hari<;> try exact Xp)
 |refine Xr ?_
 |exact True.intro
 |((with_reducible refine Xg ?_);refine Xj ?_)
 |(apply hκ.out;clear hκ κ))
  first | exact ⟨_, rfl, M1, d1, hM1, hKM1, g1, g2, hd11, hd12, g3⟩ | exact ⟨M1, d1, hM1, hKM1, g1, g2, hd11, hd12, g3⟩
end Go.Proofs.YtmoeoppbmhfbpaaGreatDoorB
