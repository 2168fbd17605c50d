import Derived.Test.YtmoeoppbmhfbpaaGreatDoorUSpaD
import Derived.Test.YtmoeoppbmhfbpaaGreatDoorUPrtF
/- The program: Spare. -/
namespace Go.Proofs.YtmoeoppbmhfbpaaGreatDoorU
open Go.Abs
set_option linter.unusedSimpArgs false
set_option linter.unusedVariables false
set_option maxRecDepth 100000
def hasRuleB (l : List RItem) (n : Int) : Bool := if 0 ≤ n then (match l[n.toNat]? with | some x => !x.out | none => false) else false
set_option maxHeartbeats 16000000 in
theorem hasRule_spec (N : List Tx) (l : List RItem) (cs : List AV) (idn idi : Nat) (n : Int) (hB : Bk N l cs) (σ : St) : ACalls Tryz.prog 62 [bookA N idn l idi cs, sc (.int .i64 n)] σ fun r σ' => r = sc (.bool (hasRuleB l n)) ∧ Keep σ σ' := by
 have hcl := EL.length PI_len hB.el
 have hl16 := hB.len
 by_cases h0 : 0 ≤ n
 ·by_cases h1 : n < (l.length : Int)
  ·have hn1 : n.toNat < l.length := by omega
   have hnn : ((n.toNat : Nat) : Int) = n := Int.toNat_of_nonneg h0
   have hget := List.getElem?_eq_getElem hn1
   have HR : Abs.Hid (hasRuleB l n = !l[n.toNat].out) := by rw [Abs.Hid, hasRuleB, if_pos h0, hget]
   obtain ⟨hm, ih, id, b, rr, hb, hd⟩ := EL_PI hB.el hget
   generalize l[n.toNat] = x at hd HR
   clear hget
   refine acalls 23 [.tmp 4] Tryz.func62 rfl (by decide) rfl rfl (Nat.le_of_ble_eq_true rfl) ?_
   repeat' (first
 |with_reducible first|apply Xa|apply Xb|(refine Xc ?_;intro κ hκ)|(apply hκ.out;clear hκ κ)|apply Xd|apply Xe|apply Xf
 |((with_reducible first|refine Xl ?_ ?_|refine Xk ?_ ?_)<;> intro h hari<;> try exact Xp)
 |refine Xw ?_
 |exact True.intro
 |(apply hκ.out;clear hκ κ))
   exact ⟨_, rfl, by rw [HR.out], by exact Xs⟩
  ·have HR : Abs.Hid (hasRuleB l n = false) := by rw [Abs.Hid, hasRuleB, if_pos h0, List.getElem?_eq_none (by omega)]
   refine acalls 23 [.tmp 4] Tryz.func62 rfl (by decide) rfl rfl (Nat.le_of_ble_eq_true rfl) ?_
   repeat' (first
 |with_reducible first|apply Xa|apply Xb|(refine Xc ?_;intro κ hκ)|(apply hκ.out;clear hκ κ)|apply Xd|apply Xe|apply Xf
 |((with_reducible first|refine Xl ?_ ?_|refine Xk ?_ ?_)<;> intro h hari<;> try exact Xp)
 |refine Xw ?_
 |exact True.intro
 |(apply hκ.out;clear hκ κ))
   exact ⟨_, rfl, by rw [HR.out], by exact Xs⟩
 ·have HR : Abs.Hid (hasRuleB l n = false) := by rw [Abs.Hid, hasRuleB, if_neg h0]
  refine acalls 23 [.tmp 4] Tryz.func62 rfl (by decide) rfl rfl (Nat.le_of_ble_eq_true rfl) ?_
  repeat' (first
 |with_reducible first|apply Xa|apply Xb|(refine Xc ?_;intro κ hκ)|(apply hκ.out;clear hκ κ)|apply Xd|apply Xe|apply Xf
 |((with_reducible first|refine Xl ?_ ?_|refine Xk ?_ ?_)<;> intro h hari<;> try exact Xp)
 |refine Xw ?_
 |exact True.intro
 |(apply hκ.out;clear hκ κ))
  exact ⟨_, rfl, by rw [HR.out], by exact Xs⟩
/- Spare: what is found shows that the literal is spare. -/
theorem enc_fst (t : Tx) : (encT t).1 = variableB t := by
 cases t with
 | nil => rfl
 | cons b r =>
  unfold encT variableB
  dsimp only
  split
  ·rename_i h; rw [h]
  ·rename_i h; simp at h; rw [h]
def UT (t : Tx) : Prop := DT t ∧ WTerm t ∧ t.length ≤ 1000 ∧ (variableB t = true → ∃ k : Nat, k < 26 ∧ t = [letB k])
theorem UT.enc {t : Tx} (h : UT t) (hv : variableB t = true) : ∃ k : Nat, k < 26 ∧ t = [letB k] ∧ encT t = (true, (k : Int)) := by
 obtain ⟨k, hk, rfl⟩ := h.2.2.2 hv
 refine ⟨k, hk, rfl, ?_⟩
 rw [encT_large (let_large (by omega) (by omega)), let_toNat (by omega) (by omega)]
 congr 1; omega
theorem tellU : Tell encT UT where
 var := fun t _ => enc_fst t
 inj := fun t u ht hu h => by
  have hv : variableB t = variableB u := by rw [← enc_fst, ← enc_fst, h]
  cases hb : variableB t with
  | true =>
   obtain ⟨k, hk, rfl, e1⟩ := ht.enc hb
   obtain ⟨j, hj, rfl, e2⟩ := hu.enc (by rw [← hv]; exact hb)
   rw [e1, e2] at h
   have : (k : Int) = j := congrArg (·.2) h
   rw [this]
  | false =>
   rcases ht.1 with h1 | ⟨-, h1, -⟩
   ·rw [hb] at h1; cases h1
   rcases hu.1 with h2 | ⟨-, h2, -⟩
   ·rw [← hv, hb] at h2; cases h2
   rw [← h1, ← h2, h]
 pos := fun t ht hv => by
  obtain ⟨k, -, -, e⟩ := ht.enc hv
  rw [e]; exact Int.natCast_nonneg _
theorem UT.varOk {t : Tx} (h : UT t) : varOk t := fun hv => by
 rw [enc_fst] at hv
 obtain ⟨k, hk, -, e⟩ := h.enc hv
 exact ⟨k, hk, by rw [e]⟩
theorem UT.dec {t : Tx} (h : UT t) : decE (encT t) = t ∧ okE (encT t) := by
 have hd : decE (encT t) = t := by
  cases hv : variableB t with
  | true =>
   obtain ⟨k, hk, rfl, e⟩ := h.enc hv
   rw [e]
   unfold decE
   rw [if_pos rfl, letB_small (by omega) (by omega)]
  | false =>
   rcases h.1 with h1 | ⟨-, h1, -⟩
   ·rw [hv] at h1; cases h1
   ·unfold decE
    rw [if_neg (by rw [enc_fst, hv]; simp), h1]
 refine ⟨hd, ?_, ?_, ?_, by rw [hd]; exact h.2.2.1⟩
 ·cases hv : variableB t with
  | true => obtain ⟨k, hk, -, e⟩ := h.enc hv; rw [e]; exact Int.natCast_nonneg _
  | false =>
   rcases h.1 with h1 | h1
   ·rw [hv] at h1; cases h1
   ·exact h1.2.2.1
 ·intro hb
  rw [enc_fst] at hb
  obtain ⟨k, hk, -, e⟩ := h.enc hb
  rw [e]; show (k : Int) < 26; omega
 ·cases hv : variableB t with
  | true => obtain ⟨k, hk, -, e⟩ := h.enc hv; rw [e]; show (k : Int) ≤ 999; omega
  | false =>
   rcases h.1 with h1 | h1
   ·rw [hv] at h1; cases h1
   ·exact h1.2.2.2
structure InO (y : RItem) : Prop where
 ut : ∀ a ∈ atomsL y, ∀ t ∈ a.terms, UT t
 out : y.out = false
 ord : ordL y = (List.range (ordL y).length).map fun i => [letB (i : Nat)]
 len : (ordL y).length ≤ 26
/-! ### What is found -/
section
variable {N : List Tx} {y : RItem} {k : Nat} {s0 s : Sw}
theorem found (hy : InO y) (hN : ∀ a ∈ y.body, a.pred ∈ N) (hlen : ∀ a ∈ y.body, ∀ b ∈ y.body, a.pred = b.pred → a.terms.length = b.terms.length) (h0 : withL sw0 (y.head.terms.map encT) (y.head.terms.map encT) = some s0) (h : spareE N y k s0 = some s) :
  (∀ t ∈ y.head.terms, variableB t = true → s.2 (plc encT t) = encT t) ∧
  (∀ i, i < (ordL y).length → ∃ u, UT u ∧ s.2 i = encT u) ∧
  (∀ a ∈ y.body, ∃ b ∈ y.body.eraseIdx k, a.nt = b.nt ∧ a.pred = b.pred ∧ a.terms.map (appT fun t => decE (s.2 (plc encT t))) = b.terms) := by
 unfold spareE at h
 split at h
 case isFalse => cases h
 rename_i hsafe
 have hUb : ∀ a ∈ y.body, ∀ t ∈ a.terms, UT t := fun a ha => hy.ut a (atoms_mem (.inr ha))
 have hUh : ∀ t ∈ y.head.terms, UT t := hy.ut y.head (atoms_mem (.inl ⟨hy.out, rfl⟩))
 have hsub : ∀ b ∈ y.body.eraseIdx k, b ∈ y.body := fun b hb => List.mem_of_mem_eraseIdx hb
 obtain ⟨g, hfit⟩ := onto_fit tellU N (y.body.eraseIdx k) y.body s0 s (fun a ha => ⟨hN a ha, hUb a ha⟩) (fun b hb => hN b (hsub b hb)) h
 obtain ⟨s1, w1, w2, w3⟩ := with_self tellU y.head.terms hUh
 rw [h0] at w1
 cases w1
 -- what a variable of the body became
 have hbody : ∀ a ∈ y.body, ∀ t ∈ a.terms, variableB t = true → ∃ u, UT u ∧ s.1 (plc encT t) = true ∧ s.2 (plc encT t) = encT u := by
  intro a ha t ht hv
  obtain ⟨b, hb, c1, c2, c3⟩ := hfit a ha
  obtain ⟨i, hi⟩ := List.getElem?_of_mem ht
  have hil := (List.getElem?_eq_some_iff.1 hi).1
  have hl := hlen a ha b (hsub b hb) c2
  have e2 := List.getElem?_eq_getElem (show i < b.terms.length by omega)
  have := c3 i _ _ hi e2
  unfold Bec at this
  rw [if_pos hv] at this
  exact ⟨_, hUb b (hsub b hb) _ (List.getElem_mem _), this.1, this.2⟩
 refine ⟨fun t ht hv => ?_, fun i hi => ?_, fun a ha => ?_⟩
 ·have := (w3 t ht).grow g
  unfold Bec at this
  rw [if_pos hv] at this
  exact this.2
 ·have hm : [letB (i : Nat)] ∈ ordL y := by
   rw [hy.ord]
   exact List.mem_map.2 ⟨i, by simpa using hi, rfl⟩
  have hi26 : i < 26 := by have := hy.len; omega
  have hp : plc encT [letB (i : Nat)] = i := by
   unfold plc
   rw [encT_large (let_large (by omega) (by omega)), let_toNat (by omega) (by omega)]
   show ((65 + (i : Int)) - 65).toNat = i
   omega
  have hv : variableB [letB (i : Nat)] = true := let_large (by omega) (by omega)
  -- it stands in an atom
  have hin : ∃ a ∈ atomsL y, [letB (i : Nat)] ∈ a.terms := by
   have key : ∀ (ts acc : List Tx) (t : Tx), t ∈ ordT acc ts → t ∈ acc ∨ t ∈ ts := by
    intro ts
    induction ts with
    | nil => intro acc t h; exact .inl h
    | cons u ts ih =>
     intro acc t h
     rcases ih (ordF acc u) t h with q | q
     ·unfold ordF at q
      split at q
      ·rcases List.mem_append.1 q with q | q
       ·exact .inl q
       ·simp at q; exact .inr (by simp [q])
      ·exact .inl q
     ·exact .inr (by simp [q])
   rcases key _ _ _ hm with q | q
   ·cases q
   ·obtain ⟨a, ha, hta⟩ := List.mem_flatMap.1 q
    exact ⟨a, ha, hta⟩
  have fin : ∀ a ∈ y.body, [letB (i : Nat)] ∈ a.terms → ∃ u, UT u ∧ s.2 i = encT u := fun a ha ht => by
   obtain ⟨u, hu, -, e⟩ := hbody a ha _ ht hv
   rw [hp] at e
   exact ⟨u, hu, e⟩
  obtain ⟨a, ha, ht⟩ := hin
  unfold atomsL at ha
  rw [hy.out] at ha
  rcases List.mem_append.1 ha with ha | ha
  ·simp at ha
   subst ha
   -- in the head: then the rest has it
   unfold psafeB at hsafe
   simp only [Bool.not_eq_true', List.any_eq_false] at hsafe
   have h1 := hsafe y.head (by unfold atomsL woL; simp)
   simp only [List.any_eq_true, not_exists, not_and] at h1
   have h2 := h1 _ ht
   rw [enc_fst, hv] at h2
   simp only [Bool.true_and, Bool.not_eq_true', Bool.not_eq_false] at h2
   unfold bindsB woL at h2
   rw [List.any_eq_true] at h2
   obtain ⟨b, hb, hb2⟩ := h2
   simp only [Bool.and_eq_true, List.any_eq_true] at hb2
   obtain ⟨-, u, hu, hu2⟩ := hb2
   have hbb := hsub b hb
   unfold hitT at hu2
   simp only [Bool.and_eq_true, beq_iff_eq] at hu2
   have he : u = [letB (i : Nat)] := tellU.inj _ _ (hUb b hbb u hu) (hUh _ ht) (Prod.ext (by rw [hu2.1, enc_fst, hv]) hu2.2)
   exact fin b hbb (he ▸ hu)
  ·exact fin a ha ht
 ·obtain ⟨b, hb, c1, c2, c3⟩ := hfit a ha
  refine ⟨b, hb, c1, c2, ?_⟩
  have hl := hlen a ha b (hsub b hb) c2
  apply List.ext_getElem?
  intro i
  rw [List.getElem?_map]
  by_cases hi : i < a.terms.length
  ·have e1 := List.getElem?_eq_getElem hi
   have e2 := List.getElem?_eq_getElem (show i < b.terms.length by omega)
   have hu1 := hUb a ha _ (List.getElem_mem hi)
   have hu2 := hUb b (hsub b hb) _ (List.getElem_mem (show i < b.terms.length by omega))
   have := c3 i _ _ e1 e2
   rw [e1, e2]
   simp only [Option.map_some]
   congr 1
   unfold Bec at this
   unfold appT
   split
   ·rename_i hv
    rw [if_pos hv] at this
    show decE (s.2 (plc encT a.terms[i])) = _
    rw [this.2]
    exact hu2.dec.1
   ·rename_i hv
    rw [if_neg hv] at this
    exact tellU.inj _ _ hu1 hu2 this
  ·rw [List.getElem?_eq_none (by omega), List.getElem?_eq_none (by omega)]; rfl
end
/- Spare: the renamed rule and the rule say the same. -/
set_option linter.unusedSectionVars false
theorem ordF_vars {acc : List Tx} {t u : Tx} (h : ∀ v ∈ acc, variableB v = true) (hu : u ∈ ordF acc t) : variableB u = true ∧ (u ∈ acc ∨ u = t) := by
 unfold ordF at hu
 split at hu
 ·rename_i hc
  rcases List.mem_append.1 hu with q | q
  ·exact ⟨h u q, .inl q⟩
  ·simp at q; subst q; exact ⟨hc.1, .inr rfl⟩
 ·exact ⟨h u hu, .inl hu⟩
theorem ordT_vars : ∀ (ts acc : List Tx), (∀ v ∈ acc, variableB v = true) → acc.Nodup → (∀ v ∈ ordT acc ts, variableB v = true ∧ (v ∈ acc ∨ v ∈ ts)) ∧ (ordT acc ts).Nodup
 | [], acc, h, hn => ⟨fun v hv => ⟨h v hv, .inl hv⟩, hn⟩
 | t :: ts, acc, h, hn => by
  have hn' : (ordF acc t).Nodup := by
   unfold ordF
   split
   ·rename_i hc
    rw [List.nodup_append]
    refine ⟨hn, by simp, fun a ha b hb => ?_⟩
    simp at hb
    subst hb
    exact fun e => hc.2 (e ▸ ha)
   ·exact hn
  obtain ⟨h1, h2⟩ := ordT_vars ts (ordF acc t) (fun v hv => (ordF_vars h hv).1) hn'
  refine ⟨fun v hv => ?_, h2⟩
  obtain ⟨q1, q2⟩ := h1 v hv
  refine ⟨q1, ?_⟩
  rcases q2 with q2 | q2
  ·rcases (ordF_vars h q2).2 with q | q
   ·exact .inl q
   ·exact .inr (by simp [q])
  ·exact .inr (by simp [q2])
theorem ordT_map (w : Tx → Tx) : ∀ (ts acc : List Tx), (∀ v ∈ acc, variableB v = true) → (∀ t ∈ ts, variableB (w t) = variableB t) → (∀ t u, (t ∈ acc ∨ t ∈ ts) → (u ∈ acc ∨ u ∈ ts) → variableB t = true → variableB u = true → w t = w u → t = u) → ordT (acc.map w) (ts.map w) = (ordT acc ts).map w
 | [], acc, _, _, _ => rfl
 | t :: ts, acc, ha, hv, hi => by
  show ordT (ordF (acc.map w) (w t)) (ts.map w) = (ordT (ordF acc t) ts).map w
  have e : ordF (acc.map w) (w t) = (ordF acc t).map w := by
   unfold ordF
   rw [hv t (by simp)]
   by_cases hc : variableB t = true ∧ t ∉ acc
   ·have hnm : w t ∉ acc.map w := fun hm => by
     obtain ⟨u, hu, e⟩ := List.mem_map.1 hm
     have := hi u t (.inl hu) (.inr (by simp)) (ha u hu) hc.1 e
     exact hc.2 (this ▸ hu)
    rw [if_pos hc, if_pos ⟨hc.1, hnm⟩, List.map_append, List.map_cons, List.map_nil]
   ·rw [if_neg hc, if_neg (fun h => hc ⟨h.1, fun hm => h.2 (List.mem_map.2 ⟨t, hm, rfl⟩)⟩)]
  rw [e]
  refine ordT_map w ts (ordF acc t) (fun v h => (ordF_vars ha h).1) (fun t' h => hv t' (by simp [h])) (fun a b h1 h2 => hi a b ?_ ?_)
  ·rcases h1 with h1 | h1
   ·rcases (ordF_vars ha h1).2 with q | q
    ·exact .inl q
    ·exact .inr (by simp [q])
   ·exact .inr (by simp [h1])
  ·rcases h2 with h2 | h2
   ·rcases (ordF_vars ha h2).2 with q | q
    ·exact .inl q
    ·exact .inr (by simp [q])
   ·exact .inr (by simp [h2])
theorem erase_map {α β : Type} (f : α → β) : ∀ (l : List α) (k : Nat), (l.map f).eraseIdx k = (l.eraseIdx k).map f
 | [], k => rfl
 | a :: l, 0 => rfl
 | a :: l, k + 1 => by simp [erase_map f l k]
structure XR (x : RItem) : Prop where
 dt : ∀ a ∈ atomsL x, ∀ t ∈ a.terms, DT t ∧ WTerm t ∧ t.length ≤ 1000
 out : x.out = false
 few : (ordL x).length ≤ 26
section
variable {x : RItem} (hx : XR x)
include hx
theorem XR.mem {a : RAtom} (ha : a ∈ atomsL x) {t : Tx} (ht : t ∈ a.terms) (hv : variableB t = true) : t ∈ ordL x := mem_ordT _ _ _ (.inr ⟨List.mem_flatMap.2 ⟨a, ha, ht⟩, hv⟩)
theorem XR.which {t : Tx} (h : t ∈ ordL x) : whichL (ordL x) t = ((ordL x).idxOf t : Nat) ∧ (ordL x).idxOf t < (ordL x).length := ⟨by unfold whichL; rw [if_pos h], List.idxOf_lt_length_of_mem h⟩
theorem XR.rng {a : RAtom} (ha : a ∈ atomsL x) {t : Tx} (ht : t ∈ a.terms) (hv : variableB t = true) : 0 ≤ whichL (ordL x) t ∧ whichL (ordL x) t < 26 := by
 obtain ⟨e1, e2⟩ := hx.which (hx.mem ha ht hv)
 have := hx.few
 rw [e1]; omega
theorem XR.inj {a b : RAtom} (ha : a ∈ atomsL x) (hb : b ∈ atomsL x) {t u : Tx} (ht : t ∈ a.terms) (hu : u ∈ b.terms) (h : wrT (ordL x) t = wrT (ordL x) u) : t = u := by
 have v1 := var_wr (l := ordL x) (fun hv => hx.rng ha ht hv)
 have v2 := var_wr (l := ordL x) (fun hv => hx.rng hb hu hv)
 have hvv : variableB t = variableB u := by rw [← v1, ← v2, h]
 cases hv : variableB t with
 | true =>
  have hv2 : variableB u = true := by rw [← hvv]; exact hv
  have r1 := hx.rng ha ht hv
  have r2 := hx.rng hb hu hv2
  unfold wrT at h
  rw [if_pos hv, if_pos hv2] at h
  have h3 : letB (whichL (ordL x) t) = letB (whichL (ordL x) u) := by simpa using h
  have h4 : ((letB (whichL (ordL x) t)).toNat : Int) = (letB (whichL (ordL x) u)).toNat := by rw [h3]
  rw [let_toNat r1.1 r1.2, let_toNat r2.1 r2.2] at h4
  have m1 := hx.mem ha ht hv
  have m2 := hx.mem hb hu hv2
  have e1 := (hx.which m1).1
  have e2 := (hx.which m2).1
  exact idx_inj m1 m2 (by omega)
 | false =>
  have hv2 : variableB u = false := by rw [← hvv]; exact hv
  unfold wrT at h
  rwa [if_neg (by rw [hv]; simp), if_neg (by rw [hv2]; simp)] at h
theorem XR.ut {a : RAtom} (ha : a ∈ atomsL x) {t : Tx} (ht : t ∈ a.terms) : UT (wrT (ordL x) t) := by
 obtain ⟨d1, d2, d3⟩ := hx.dt a ha t ht
 cases hv : variableB t with
 | true =>
  obtain ⟨r1, r2⟩ := hx.rng ha ht hv
  have e : wrT (ordL x) t = [letB ((whichL (ordL x) t).toNat : Nat)] := by
   unfold wrT; rw [if_pos hv, Int.toNat_of_nonneg r1]
  rw [e]
  exact ⟨.inl (let_large (by omega) (by omega)), ⟨by simp, fun b hb => by simp at hb; subst hb; exact .inl (let_large (by omega) (by omega))⟩, by simp, fun _ => ⟨_, by omega, rfl⟩⟩
 | false =>
  have e : wrT (ordL x) t = t := by unfold wrT; rw [if_neg (by rw [hv]; simp)]
  rw [e]
  exact ⟨d1, d2, d3, fun h => by rw [hv] at h; cases h⟩
theorem XR.atoms : atomsL (ren x) = (atomsL x).map (renA (ordL x)) := by
 unfold atomsL ren
 simp [hx.out]
theorem XR.ord : ordL (ren x) = (ordL x).map (wrT (ordL x)) := by
 have h1 : (atomsL (ren x)).flatMap (·.terms) = ((atomsL x).flatMap (·.terms)).map (wrT (ordL x)) := by
  rw [hx.atoms, List.flatMap_map, List.map_flatMap]
  rfl
 have mem : ∀ t, t ∈ (atomsL x).flatMap (·.terms) → ∃ a ∈ atomsL x, t ∈ a.terms := fun t ht => by
  obtain ⟨a, ha, hm⟩ := List.mem_flatMap.1 ht; exact ⟨a, ha, hm⟩
 have := ordT_map (wrT (ordL x)) ((atomsL x).flatMap (·.terms)) [] (by simp) (fun t ht => by
  obtain ⟨a, ha, hm⟩ := mem t ht
  exact var_wr (fun hv => hx.rng ha hm hv)) (fun t u h1 h2 _ _ h => by
  rcases h1 with h1 | h1
  ·cases h1
  rcases h2 with h2 | h2
  ·cases h2
  obtain ⟨a, ha, hm⟩ := mem t h1
  obtain ⟨b, hb, hn⟩ := mem u h2
  exact hx.inj ha hb hm hn h)
 show ordT [] ((atomsL (ren x)).flatMap (·.terms)) = _
 rw [h1]
 exact this
theorem XR.inO : InO (ren x) where
 ut := fun a ha t ht => by
  rw [hx.atoms] at ha
  obtain ⟨a', ha', rfl⟩ := List.mem_map.1 ha
  simp only [renA, List.mem_map] at ht
  obtain ⟨t', ht', rfl⟩ := ht
  exact hx.ut ha' ht'
 out := hx.out
 ord := by
  rw [hx.ord, List.length_map]
  have hnd := (ordT_vars ((atomsL x).flatMap (·.terms)) [] (by simp) List.nodup_nil)
  apply List.ext_getElem?
  intro i
  rw [List.getElem?_map, List.getElem?_map]
  by_cases hi : i < (ordL x).length
  ·rw [List.getElem?_eq_getElem hi, List.getElem?_range hi]
   simp only [Option.map_some]
   congr 1
   have hm := List.getElem_mem hi
   have hv := (hnd.1 _ hm).1
   unfold wrT
   rw [if_pos hv]
   have : (ordL x).idxOf (ordL x)[i] = i := List.Nodup.idxOf_getElem hnd.2 i hi
   rw [(hx.which hm).1, this]
  ·rw [List.getElem?_eq_none (by omega), List.getElem?_eq_none (by simpa using hi)]; rfl
 len := by rw [hx.ord, List.length_map]; exact hx.few
theorem XR.tell : Tell (fun t => encT (wrT (ordL x) t)) (fun t => ∃ a ∈ atomsL x, t ∈ a.terms) where
 var := fun t ⟨a, ha, ht⟩ => by rw [enc_fst]; exact var_wr (fun hv => hx.rng ha ht hv)
 inj := fun t u ⟨a, ha, ht⟩ ⟨b, hb, hu⟩ h => hx.inj ha hb ht hu (tellU.inj _ _ (hx.ut ha ht) (hx.ut hb hu) h)
 pos := fun t ⟨a, ha, ht⟩ hv => tellU.pos _ (hx.ut ha ht) (by rw [var_wr (fun hv => hx.rng ha ht hv)]; exact hv)
theorem XR.search {N : List Tx} {k : Nat} (hN : ∀ a ∈ x.body, a.pred ∈ N) (hlen : ∀ a ∈ x.body, ∀ b ∈ x.body, a.pred = b.pred → a.terms.length = b.terms.length) :
  ∃ s0, withL sw0 ((ren x).head.terms.map encT) ((ren x).head.terms.map encT) = some s0 ∧ ((∃ s', ontoL (((ren x).body.eraseIdx k).map (ltA encT N)) ((ren x).body.map (ltA encT N)) s0 = some s') ↔ SpareP x k) := by
 obtain ⟨s0, h0, h1⟩ := search_iff hx.tell N x k hN (fun t ht => ⟨x.head, atoms_mem (.inl ⟨hx.out, rfl⟩), ht⟩) (fun a ha t ht => ⟨a, atoms_mem (.inr ha), ht⟩) hlen (fun t ht u hu h => hx.tell.inj t u ht hu h)
 have e1 : (ren x).head.terms.map encT = x.head.terms.map fun t => encT (wrT (ordL x) t) := by simp [ren, renA]
 have e2 : ∀ ls : List RAtom, (ls.map (renA (ordL x))).map (ltA encT N) = ls.map (ltA (fun t => encT (wrT (ordL x) t)) N) := fun ls => by
  rw [List.map_map]
  apply List.map_congr_left
  intro a _
  simp [ltA, renA]
 have e3 : (ren x).body.eraseIdx k = (x.body.eraseIdx k).map (renA (ordL x)) := by simp [ren, erase_map]
 refine ⟨s0, by rw [e1]; exact h0, ?_⟩
 rw [e3, show (ren x).body = x.body.map (renA (ordL x)) from rfl, e2, e2]
 exact h1
theorem XR.safe (k : Nat) : psafeB (woL (ren x) k) = safeB (woL x k) := by
 unfold psafeB safeB
 congr 1
 have eb : (woL (ren x) k).body = (x.body.eraseIdx k).map (renA (ordL x)) := by simp [woL, ren, erase_map]
 have ea : atomsL (woL (ren x) k) = (atomsL (woL x k)).map (renA (ordL x)) := by simp [atomsL, woL, ren, erase_map]
 have hsub : ∀ b ∈ x.body.eraseIdx k, b ∈ atomsL x := fun b hb => atoms_mem (.inr (List.mem_of_mem_eraseIdx hb))
 rw [ea, List.any_map]
 apply any_congr'
 intro a ha
 have haX : a ∈ atomsL x := by
  simp [atomsL, woL] at ha
  rcases ha with rfl | ha
  ·exact atoms_mem (.inl ⟨hx.out, rfl⟩)
  ·exact hsub a ha
 unfold badA badT
 simp only [Function.comp, renA, List.any_map]
 apply any_congr'
 intro t ht
 simp only [Function.comp]
 rw [enc_fst, var_wr (fun hv => hx.rng haX ht hv)]
 cases hv : variableB t with
 | false => rfl
 | true =>
  congr 2
  unfold bindsB boundB
  rw [eb, List.any_map]
  show _ = (x.body.eraseIdx k).any _
  apply any_congr'
  intro b hb
  have hbX := hsub b hb
  simp only [Function.comp, renA, List.any_map]
  have hk : ∀ u ∈ b.terms, hitT (encT (wrT (ordL x) t)).2 (wrT (ordL x) u) = (u == t) := fun u hu => by
   unfold hitT
   rw [Bool.eq_iff_iff]
   simp only [Bool.and_eq_true, beq_iff_eq]
   constructor
   ·rintro ⟨h1, h2⟩
    exact hx.inj hbX haX hu ht (tellU.inj _ _ (hx.ut hbX hu) (hx.ut haX ht) (Prod.ext (by rw [h1, enc_fst, var_wr (fun hv => hx.rng haX ht hv), hv]) h2))
   ·rintro rfl
    exact ⟨by rw [enc_fst, var_wr (fun hv => hx.rng haX ht hv), hv], rfl⟩
  rw [any_congr' (p := hitT (encT (wrT (ordL x) t)).2 ∘ wrT (ordL x)) (q := fun u => u == t) hk]
  cases b.nt <;> simp
theorem XR.spare_iff {N : List Tx} {k : Nat} (hN : ∀ a ∈ x.body, a.pred ∈ N) (hlen : ∀ a ∈ x.body, ∀ b ∈ x.body, a.pred = b.pred → a.terms.length = b.terms.length) :
  ∃ s0, withL sw0 ((ren x).head.terms.map encT) ((ren x).head.terms.map encT) = some s0 ∧ ((∃ s', spareE N (ren x) k s0 = some s') ↔ (safeB (woL x k) = true ∧ SpareP x k)) := by
 obtain ⟨s0, h0, h1⟩ := hx.search (N := N) (k := k) hN hlen
 refine ⟨s0, h0, ?_⟩
 rw [← h1, ← hx.safe k]
 unfold spareE
 constructor
 ·rintro ⟨s', h⟩
  split at h
  ·rename_i hs; exact ⟨hs, s', h⟩
  ·cases h
 ·rintro ⟨hs, s', h⟩
  exact ⟨s', by rw [if_pos hs]; exact h⟩
end
end Go.Proofs.YtmoeoppbmhfbpaaGreatDoorU
