import Derived.Test.YtmoeoppbmhfbpaaGreatDoorQSpaB
import Derived.Test.YtmoeoppbmhfbpaaGreatDoorQPrtF
import Derived.Test.YtmoeoppbmhfbpaaGreatDoorQProgR
import Derived.Test.YtmoeoppbmhfbpaaGreatDoorQSpaA
/- The program: Spare. -/
namespace Go.Proofs.YtmoeoppbmhfbpaaGreatDoorQ
open Go.Abs
set_option linter.unusedSimpArgs false
set_option linter.unusedVariables false
set_option maxRecDepth 100000
def hasRuleB (l : List RItem) (n : Int) : Bool := if 0 ≤ n then (match l[n.toNat]? with | some x => !x.out | none => false) else false
set_option maxHeartbeats 16000000 in
theorem hasRule_spec (N : List Tx) (l : List RItem) (cs : List AV) (idn idi : Nat) (n : Int) (hB : Bk N l cs) (σ : St) : ACalls Tryz.prog 62 [bookA N idn l idi cs, sc (.int .i64 n)] σ fun r σ' => r = sc (.bool (hasRuleB l n)) ∧ Keep σ σ' := by
 have hcl := EL.length PI_len hB.el
 have hl16 := hB.len
 by_cases h0 : 0 ≤ n
 ·by_cases h1 : n < (l.length : Int)
  ·have hn1 : n.toNat < l.length := by omega
   have hnn : ((n.toNat : Nat) : Int) = n := Int.toNat_of_nonneg h0
   have hget := List.getElem?_eq_getElem hn1
   have HR : Abs.Hid (hasRuleB l n = !l[n.toNat].out) := by rw [Abs.Hid, hasRuleB, if_pos h0, hget]
   obtain ⟨hm, ih, id, b, rr, hb, hd⟩ := EL_PI hB.el hget
   generalize l[n.toNat] = x at hd HR
   clear hget
   refine acalls 23 [.tmp 4] Tryz.func62 rfl (by decide) rfl rfl (Nat.le_of_ble_eq_true rfl) ?_
   repeat' (first
 |with_reducible first|apply Xa|apply Xb|(refine Xc ?_;intro κ hκ)|(apply hκ.out;clear hκ κ)|apply Xd|apply Xe|apply Xf
 |((with_reducible first|refine Xl ?_ ?_|refine Xk ?_ ?_)<;> intro h hari<;> try exact Xp)
 |refine Xw ?_
 |exact True.intro
 |(apply hκ.out;clear hκ κ))
   exact ⟨_, rfl, by rw [HR.out], by exact Xs⟩
  ·have HR : Abs.Hid (hasRuleB l n = false) := by rw [Abs.Hid, hasRuleB, if_pos h0, List.getElem?_eq_none (by omega)]
   refine acalls 23 [.tmp 4] Tryz.func62 rfl (by decide) rfl rfl (Nat.le_of_ble_eq_true rfl) ?_
   repeat' (first
 |with_reducible first|apply Xa|apply Xb|(refine Xc ?_;intro κ hκ)|(apply hκ.out;clear hκ κ)|apply Xd|apply Xe|apply Xf
 |((with_reducible first|refine Xl ?_ ?_|refine Xk ?_ ?_)<;> intro h hari<;> try exact Xp)
 |refine Xw ?_
 |exact True.intro
 |(apply hκ.out;clear hκ κ))
   exact ⟨_, rfl, by rw [HR.out], by exact Xs⟩
 ·have HR : Abs.Hid (hasRuleB l n = false) := by rw [Abs.Hid, hasRuleB, if_neg h0]
  refine acalls 23 [.tmp 4] Tryz.func62 rfl (by decide) rfl rfl (Nat.le_of_ble_eq_true rfl) ?_
  repeat' (first
 |with_reducible first|apply Xa|apply Xb|(refine Xc ?_;intro κ hκ)|(apply hκ.out;clear hκ κ)|apply Xd|apply Xe|apply Xf
 |((with_reducible first|refine Xl ?_ ?_|refine Xk ?_ ?_)<;> intro h hari<;> try exact Xp)
 |refine Xw ?_
 |exact True.intro
 |(apply hκ.out;clear hκ κ))
  exact ⟨_, rfl, by rw [HR.out], by exact Xs⟩
/- Spare: what is found shows that the literal is spare. -/
theorem enc_fst (t : Tx) : (encT t).1 = variableB t := by
 cases t with
 | nil => rfl
 | cons b r =>
  unfold encT variableB
  dsimp only
  split
  ·rename_i h; rw [h]
  ·rename_i h; simp at h; rw [h]
def UT (t : Tx) : Prop := DT t ∧ WTerm t ∧ t.length ≤ 1000 ∧ (variableB t = true → ∃ k : Nat, k < 26 ∧ t = [letB k])
theorem UT.enc {t : Tx} (h : UT t) (hv : variableB t = true) : ∃ k : Nat, k < 26 ∧ t = [letB k] ∧ encT t = (true, (k : Int)) := by
 obtain ⟨k, hk, rfl⟩ := h.2.2.2 hv
 refine ⟨k, hk, rfl, ?_⟩
 rw [encT_large (let_large (by omega) (by omega)), let_toNat (by omega) (by omega)]
 congr 1; omega
theorem tellU : Tell encT UT where
 var := fun t _ => enc_fst t
 inj := fun t u ht hu h => by
  have hv : variableB t = variableB u := by rw [← enc_fst, ← enc_fst, h]
  cases hb : variableB t with
  | true =>
   obtain ⟨k, hk, rfl, e1⟩ := ht.enc hb
   obtain ⟨j, hj, rfl, e2⟩ := hu.enc (by rw [← hv]; exact hb)
   rw [e1, e2] at h
   have : (k : Int) = j := congrArg (·.2) h
   rw [this]
  | false =>
   rcases ht.1 with h1 | ⟨-, h1, -⟩
   ·rw [hb] at h1; cases h1
   rcases hu.1 with h2 | ⟨-, h2, -⟩
   ·rw [← hv, hb] at h2; cases h2
   rw [← h1, ← h2, h]
 pos := fun t ht hv => by
  obtain ⟨k, -, -, e⟩ := ht.enc hv
  rw [e]; exact Int.natCast_nonneg _
theorem UT.varOk {t : Tx} (h : UT t) : varOk t := fun hv => by
 rw [enc_fst] at hv
 obtain ⟨k, hk, -, e⟩ := h.enc hv
 exact ⟨k, hk, by rw [e]⟩
theorem UT.dec {t : Tx} (h : UT t) : decE (encT t) = t ∧ okE (encT t) := by
 have hd : decE (encT t) = t := by
  cases hv : variableB t with
  | true =>
   obtain ⟨k, hk, rfl, e⟩ := h.enc hv
   rw [e]
   unfold decE
   rw [if_pos rfl, letB_small (by omega) (by omega)]
  | false =>
   rcases h.1 with h1 | ⟨-, h1, -⟩
   ·rw [hv] at h1; cases h1
   ·unfold decE
    rw [if_neg (by rw [enc_fst, hv]; simp), h1]
 refine ⟨hd, ?_, ?_, ?_, by rw [hd]; exact h.2.2.1⟩
 ·cases hv : variableB t with
  | true => obtain ⟨k, hk, -, e⟩ := h.enc hv; rw [e]; exact Int.natCast_nonneg _
  | false =>
   rcases h.1 with h1 | h1
   ·rw [hv] at h1; cases h1
   ·exact h1.2.2.1
 ·intro hb
  rw [enc_fst] at hb
  obtain ⟨k, hk, -, e⟩ := h.enc hb
  rw [e]; show (k : Int) < 26; omega
 ·cases hv : variableB t with
  | true => obtain ⟨k, hk, -, e⟩ := h.enc hv; rw [e]; show (k : Int) ≤ 999; omega
  | false =>
   rcases h.1 with h1 | h1
   ·rw [hv] at h1; cases h1
   ·exact h1.2.2.2
structure InO (y : RItem) : Prop where
 ut : ∀ a ∈ atomsL y, ∀ t ∈ a.terms, UT t
 out : y.out = false
 ord : ordL y = (List.range (ordL y).length).map fun i => [letB (i : Nat)]
 len : (ordL y).length ≤ 26
/-! ### What is found -/
section
variable {N : List Tx} {y : RItem} {k : Nat} {s0 s : Sw}
end
/- Spare: the renamed rule and the rule say the same. -/
set_option linter.unusedSectionVars false
theorem ordF_vars {acc : List Tx} {t u : Tx} (h : ∀ v ∈ acc, variableB v = true) (hu : u ∈ ordF acc t) : variableB u = true ∧ (u ∈ acc ∨ u = t) := by
 unfold ordF at hu
 split at hu
 ·rename_i hc
  rcases List.mem_append.1 hu with q | q
  ·exact ⟨h u q, .inl q⟩
  ·simp at q; subst q; exact ⟨hc.1, .inr rfl⟩
 ·exact ⟨h u hu, .inl hu⟩
theorem ordT_vars : ∀ (ts acc : List Tx), (∀ v ∈ acc, variableB v = true) → acc.Nodup → (∀ v ∈ ordT acc ts, variableB v = true ∧ (v ∈ acc ∨ v ∈ ts)) ∧ (ordT acc ts).Nodup
 | [], acc, h, hn => ⟨fun v hv => ⟨h v hv, .inl hv⟩, hn⟩
 | t :: ts, acc, h, hn => by
  have hn' : (ordF acc t).Nodup := by
   unfold ordF
   split
   ·rename_i hc
    rw [List.nodup_append]
    refine ⟨hn, by simp, fun a ha b hb => ?_⟩
    simp at hb
    subst hb
    exact fun e => hc.2 (e ▸ ha)
   ·exact hn
  obtain ⟨h1, h2⟩ := ordT_vars ts (ordF acc t) (fun v hv => (ordF_vars h hv).1) hn'
  refine ⟨fun v hv => ?_, h2⟩
  obtain ⟨q1, q2⟩ := h1 v hv
  refine ⟨q1, ?_⟩
  rcases q2 with q2 | q2
  ·rcases (ordF_vars h q2).2 with q | q
   ·exact .inl q
   ·exact .inr (by simp [q])
  ·exact .inr (by simp [q2])
theorem ordT_map (w : Tx → Tx) : ∀ (ts acc : List Tx), (∀ v ∈ acc, variableB v = true) → (∀ t ∈ ts, variableB (w t) = variableB t) → (∀ t u, (t ∈ acc ∨ t ∈ ts) → (u ∈ acc ∨ u ∈ ts) → variableB t = true → variableB u = true → w t = w u → t = u) → ordT (acc.map w) (ts.map w) = (ordT acc ts).map w
 | [], acc, _, _, _ => rfl
 | t :: ts, acc, ha, hv, hi => by
  show ordT (ordF (acc.map w) (w t)) (ts.map w) = (ordT (ordF acc t) ts).map w
  have e : ordF (acc.map w) (w t) = (ordF acc t).map w := by
   unfold ordF
   rw [hv t (by simp)]
   by_cases hc : variableB t = true ∧ t ∉ acc
   ·have hnm : w t ∉ acc.map w := fun hm => by
     obtain ⟨u, hu, e⟩ := List.mem_map.1 hm
     have := hi u t (.inl hu) (.inr (by simp)) (ha u hu) hc.1 e
     exact hc.2 (this ▸ hu)
    rw [if_pos hc, if_pos ⟨hc.1, hnm⟩, List.map_append, List.map_cons, List.map_nil]
   ·rw [if_neg hc, if_neg (fun h => hc ⟨h.1, fun hm => h.2 (List.mem_map.2 ⟨t, hm, rfl⟩)⟩)]
  rw [e]
  refine ordT_map w ts (ordF acc t) (fun v h => (ordF_vars ha h).1) (fun t' h => hv t' (by simp [h])) (fun a b h1 h2 => hi a b ?_ ?_)
  ·rcases h1 with h1 | h1
   ·rcases (ordF_vars ha h1).2 with q | q
    ·exact .inl q
    ·exact .inr (by simp [q])
   ·exact .inr (by simp [h1])
  ·rcases h2 with h2 | h2
   ·rcases (ordF_vars ha h2).2 with q | q
    ·exact .inl q
    ·exact .inr (by simp [q])
   ·exact .inr (by simp [h2])
theorem erase_map {α β : Type} (f : α → β) : ∀ (l : List α) (k : Nat), (l.map f).eraseIdx k = (l.eraseIdx k).map f
 | [], k => rfl
 | a :: l, 0 => rfl
 | a :: l, k + 1 => by simp [erase_map f l k]
structure XR (x : RItem) : Prop where
 dt : ∀ a ∈ atomsL x, ∀ t ∈ a.terms, DT t ∧ WTerm t ∧ t.length ≤ 1000
 out : x.out = false
 few : (ordL x).length ≤ 26
section
variable {x : RItem} (hx : XR x)
include hx
theorem XR.mem {a : RAtom} (ha : a ∈ atomsL x) {t : Tx} (ht : t ∈ a.terms) (hv : variableB t = true) : t ∈ ordL x := mem_ordT _ _ _ (.inr ⟨List.mem_flatMap.2 ⟨a, ha, ht⟩, hv⟩)
theorem XR.which {t : Tx} (h : t ∈ ordL x) : whichL (ordL x) t = ((ordL x).idxOf t : Nat) ∧ (ordL x).idxOf t < (ordL x).length := ⟨by unfold whichL; rw [if_pos h], List.idxOf_lt_length_of_mem h⟩
theorem XR.rng {a : RAtom} (ha : a ∈ atomsL x) {t : Tx} (ht : t ∈ a.terms) (hv : variableB t = true) : 0 ≤ whichL (ordL x) t ∧ whichL (ordL x) t < 26 := by
 obtain ⟨e1, e2⟩ := hx.which (hx.mem ha ht hv)
 have := hx.few
 rw [e1]; omega
theorem XR.inj {a b : RAtom} (ha : a ∈ atomsL x) (hb : b ∈ atomsL x) {t u : Tx} (ht : t ∈ a.terms) (hu : u ∈ b.terms) (h : wrT (ordL x) t = wrT (ordL x) u) : t = u := by
 have v1 := var_wr (l := ordL x) (fun hv => hx.rng ha ht hv)
 have v2 := var_wr (l := ordL x) (fun hv => hx.rng hb hu hv)
 have hvv : variableB t = variableB u := by rw [← v1, ← v2, h]
 cases hv : variableB t with
 | true =>
  have hv2 : variableB u = true := by rw [← hvv]; exact hv
  have r1 := hx.rng ha ht hv
  have r2 := hx.rng hb hu hv2
  unfold wrT at h
  rw [if_pos hv, if_pos hv2] at h
  have h3 : letB (whichL (ordL x) t) = letB (whichL (ordL x) u) := by simpa using h
  have h4 : ((letB (whichL (ordL x) t)).toNat : Int) = (letB (whichL (ordL x) u)).toNat := by rw [h3]
  rw [let_toNat r1.1 r1.2, let_toNat r2.1 r2.2] at h4
  have m1 := hx.mem ha ht hv
  have m2 := hx.mem hb hu hv2
  have e1 := (hx.which m1).1
  have e2 := (hx.which m2).1
  exact idx_inj m1 m2 (by omega)
 | false =>
  have hv2 : variableB u = false := by rw [← hvv]; exact hv
  unfold wrT at h
  rwa [if_neg (by rw [hv]; simp), if_neg (by rw [hv2]; simp)] at h
theorem XR.ut {a : RAtom} (ha : a ∈ atomsL x) {t : Tx} (ht : t ∈ a.terms) : UT (wrT (ordL x) t) := by
 obtain ⟨d1, d2, d3⟩ := hx.dt a ha t ht
 cases hv : variableB t with
 | true =>
  obtain ⟨r1, r2⟩ := hx.rng ha ht hv
  have e : wrT (ordL x) t = [letB ((whichL (ordL x) t).toNat : Nat)] := by
   unfold wrT; rw [if_pos hv, Int.toNat_of_nonneg r1]
  rw [e]
  exact ⟨.inl (let_large (by omega) (by omega)), ⟨by simp, fun b hb => by simp at hb; subst hb; exact .inl (let_large (by omega) (by omega))⟩, by simp, fun _ => ⟨_, by omega, rfl⟩⟩
 | false =>
  have e : wrT (ordL x) t = t := by unfold wrT; rw [if_neg (by rw [hv]; simp)]
  rw [e]
  exact ⟨d1, d2, d3, fun h => by rw [hv] at h; cases h⟩
theorem XR.atoms : atomsL (ren x) = (atomsL x).map (renA (ordL x)) := by
 unfold atomsL ren
 simp [hx.out]
theorem XR.ord : ordL (ren x) = (ordL x).map (wrT (ordL x)) := by
 have h1 : (atomsL (ren x)).flatMap (·.terms) = ((atomsL x).flatMap (·.terms)).map (wrT (ordL x)) := by
  rw [hx.atoms, List.flatMap_map, List.map_flatMap]
  rfl
 have mem : ∀ t, t ∈ (atomsL x).flatMap (·.terms) → ∃ a ∈ atomsL x, t ∈ a.terms := fun t ht => by
  obtain ⟨a, ha, hm⟩ := List.mem_flatMap.1 ht; exact ⟨a, ha, hm⟩
 have := ordT_map (wrT (ordL x)) ((atomsL x).flatMap (·.terms)) [] (by simp) (fun t ht => by
  obtain ⟨a, ha, hm⟩ := mem t ht
  exact var_wr (fun hv => hx.rng ha hm hv)) (fun t u h1 h2 _ _ h => by
  rcases h1 with h1 | h1
  ·cases h1
  rcases h2 with h2 | h2
  ·cases h2
  obtain ⟨a, ha, hm⟩ := mem t h1
  obtain ⟨b, hb, hn⟩ := mem u h2
  exact hx.inj ha hb hm hn h)
 show ordT [] ((atomsL (ren x)).flatMap (·.terms)) = _
 rw [h1]
 exact this
theorem XR.inO : InO (ren x) where
 ut := fun a ha t ht => by
  rw [hx.atoms] at ha
  obtain ⟨a', ha', rfl⟩ := List.mem_map.1 ha
  simp only [renA, List.mem_map] at ht
  obtain ⟨t', ht', rfl⟩ := ht
  exact hx.ut ha' ht'
 out := hx.out
 ord := by
  rw [hx.ord, List.length_map]
  have hnd := (ordT_vars ((atomsL x).flatMap (·.terms)) [] (by simp) List.nodup_nil)
  apply List.ext_getElem?
  intro i
  rw [List.getElem?_map, List.getElem?_map]
  by_cases hi : i < (ordL x).length
  ·rw [List.getElem?_eq_getElem hi, List.getElem?_range hi]
   simp only [Option.map_some]
   congr 1
   have hm := List.getElem_mem hi
   have hv := (hnd.1 _ hm).1
   unfold wrT
   rw [if_pos hv]
   have : (ordL x).idxOf (ordL x)[i] = i := List.Nodup.idxOf_getElem hnd.2 i hi
   rw [(hx.which hm).1, this]
  ·rw [List.getElem?_eq_none (by omega), List.getElem?_eq_none (by simpa using hi)]; rfl
 len := by rw [hx.ord, List.length_map]; exact hx.few
theorem XR.safe (k : Nat) : psafeB (woL (ren x) k) = safeB (woL x k) := by
 unfold psafeB safeB
 congr 1
 have eb : (woL (ren x) k).body = (x.body.eraseIdx k).map (renA (ordL x)) := by simp [woL, ren, erase_map]
 have ea : atomsL (woL (ren x) k) = (atomsL (woL x k)).map (renA (ordL x)) := by simp [atomsL, woL, ren, erase_map]
 have hsub : ∀ b ∈ x.body.eraseIdx k, b ∈ atomsL x := fun b hb => atoms_mem (.inr (List.mem_of_mem_eraseIdx hb))
 rw [ea, List.any_map]
 apply any_congr'
 intro a ha
 have haX : a ∈ atomsL x := by
  simp [atomsL, woL] at ha
  rcases ha with rfl | ha
  ·exact atoms_mem (.inl ⟨hx.out, rfl⟩)
  ·exact hsub a ha
 unfold badA badT
 simp only [Function.comp, renA, List.any_map]
 apply any_congr'
 intro t ht
 simp only [Function.comp]
 rw [enc_fst, var_wr (fun hv => hx.rng haX ht hv)]
 cases hv : variableB t with
 | false => rfl
 | true =>
  congr 2
  unfold bindsB boundB
  rw [eb, List.any_map]
  show _ = (x.body.eraseIdx k).any _
  apply any_congr'
  intro b hb
  have hbX := hsub b hb
  simp only [Function.comp, renA, List.any_map]
  have hk : ∀ u ∈ b.terms, hitT (encT (wrT (ordL x) t)).2 (wrT (ordL x) u) = (u == t) := fun u hu => by
   unfold hitT
   rw [Bool.eq_iff_iff]
   simp only [Bool.and_eq_true, beq_iff_eq]
   constructor
   ·rintro ⟨h1, h2⟩
    exact hx.inj hbX haX hu ht (tellU.inj _ _ (hx.ut hbX hu) (hx.ut haX ht) (Prod.ext (by rw [h1, enc_fst, var_wr (fun hv => hx.rng haX ht hv), hv]) h2))
   ·rintro rfl
    exact ⟨by rw [enc_fst, var_wr (fun hv => hx.rng haX ht hv), hv], rfl⟩
  rw [any_congr' (p := hitT (encT (wrT (ordL x) t)).2 ∘ wrT (ordL x)) (q := fun u => u == t) hk]
  cases b.nt <;> simp
end
/- The program: Spare of a text. -/
structure Right (t : Tx) (N : List Tx) (l : List RItem) (cs : List AV) : Prop where
 ok : (refCheck t).1 = 0
 len : t.length ≤ 600
 parse : pItems 16 t = .got l []
 bk : Bk N l cs
 wit : ∀ x ∈ l, WItem x
theorem Right.items {t : Tx} {N : List Tx} {l : List RItem} {cs : List AV} (h : Right t N l cs) : itemsL t = l := (parse_good (by have := h.len; omega) h.parse).2.1
theorem Right.wi {t : Tx} {N : List Tx} {l : List RItem} {cs : List AV} (h : Right t N l cs) : ∀ x ∈ l, WI N x := wi_of (by have := h.len; omega) h.parse h.bk h.wit
theorem ord18 {x : RItem} (hw : WItem x) : (ordL x).length ≤ 18 := by
 have h3 := ordT_len ((atomsL x).flatMap (·.terms)) []
 obtain ⟨q1, q2, q3⟩ := hw
 have h4 : (atomsL x).length ≤ 6 ∧ ∀ b ∈ atomsL x, b.terms.length ≤ 3 := by
  cases ho : x.out with
  | true =>
   obtain ⟨-, -, e⟩ := q2 ho
   simp [atomsL, ho, e]
  | false =>
   obtain ⟨e1, -, e2, e3⟩ := q3 ho
   refine ⟨by simp [atomsL, ho]; omega, fun b hb => ?_⟩
   simp [atomsL, ho] at hb
   rcases hb with rfl | hb
   ·exact e1.2.2.1
   ·exact (e3 b hb).2.2.1
 have h5 := flat_len h4.2
 unfold ordL
 rw [List.length_nil, Nat.zero_add] at h3
 omega
theorem firstM_neg {p : Nat → Bool} {n : Nat} (h : ¬ 0 ≤ firstN p n) : ∀ i, i < n → p i = false := by
 intro i hi
 unfold firstN at h
 split at h
 ·rename_i j hj; exact absurd (Int.natCast_nonneg j) h
 ·rename_i hn
  rw [List.find?_eq_none] at hn
  simpa using hn i (by simpa using hi)
theorem right_len {t : Tx} (h : (refCheck t).1 = 0) : ∀ x ∈ itemsL t, ∀ a ∈ atomsL x, ∀ b ∈ atomsL x, a.pred = b.pred → a.terms.length = b.terms.length := by
 have hodd : ∀ i, i < (itemsL t).length → oddP (itemsL t) i = false := by
  unfold refCheck at h
  split at h
  ·simp at h
  split at h
  ·simp at h
  unfold wrongM at h
  split at h
  ·simp at h
  ·rename_i hk; exact firstM_neg hk
 intro x hx a ha b hb he
 obtain ⟨i, hi⟩ := List.getElem?_of_mem hx
 have h1 := hodd i (List.getElem?_eq_some_iff.1 hi).1
 unfold oddP at h1
 rw [hi] at h1
 simp only [List.any_eq_false, List.mem_range] at h1
 obtain ⟨j, hj⟩ := List.getElem?_of_mem ha
 obtain ⟨k, hk⟩ := List.getElem?_of_mem hb
 have hjl := (List.getElem?_eq_some_iff.1 hj).1
 have hkl := (List.getElem?_eq_some_iff.1 hk).1
 have key : ∀ (j k : Nat) (a b : RAtom), (atomsL x)[j]? = some a → (atomsL x)[k]? = some b → k < j → a.pred = b.pred → a.terms.length = b.terms.length := by
  intro j k a b hj hk hlt he
  have h2 := h1 j (List.getElem?_eq_some_iff.1 hj).1
  unfold oddAt at h2
  rw [hj] at h2
  simp only [List.any_eq_true, not_exists, not_and] at h2
  have h3 := h2 b (by
   unfold seenL
   exact List.mem_append.2 (.inr (List.mem_of_getElem? (i := k) (by rw [List.getElem?_take, if_pos hlt]; exact hk))))
  unfold clash at h3
  simp [he] at h3
  exact h3.symm
 rcases Nat.lt_trichotomy j k with hlt | rfl | hgt
 ·exact (key k j b a hk hj hlt he.symm).symm
 ·rw [hj] at hk; cases hk; rfl
 ·exact key j k a b hj hk hgt he
theorem hasRule_some {l : List RItem} {n : Int} (h : hasRuleB l n = true) : 0 ≤ n ∧ ∃ x, l[n.toNat]? = some x ∧ x.out = false := by
 unfold hasRuleB at h
 split at h
 ·rename_i h0
  split at h
  ·rename_i x hx; exact ⟨h0, x, hx, by simpa using h⟩
  ·cases h
 ·cases h
theorem ut_vt {t : Tx} (h : UT t) : VT t := by
 cases hv : variableB t with
 | true =>
  obtain ⟨k, hk, rfl, -⟩ := h.enc hv
  exact .inl ⟨_, rfl, let_large (by omega) (by omega)⟩
 | false =>
  refine .inr ⟨h.2.1.1, fun b hb => ?_⟩
  rcases h.2.1.2 b hb with q | q
  ·exfalso
   rcases h.1 with h1 | ⟨-, h1, h2, h3⟩
   ·rw [hv] at h1; cases h1
   ·have hd : ∀ (u : Nat), ∀ c ∈ Lib.decDigits u, c.toNat ≤ 57 := by
     intro u
     induction u using Nat.strongRecOn with
     | _ u ih =>
      intro c hc
      by_cases h10 : u < 10
      ·rw [Lib.decDigits_one h10] at hc
       simp only [List.mem_singleton] at hc
       subst hc
       rw [UInt8.toNat_ofNat_of_lt' (by show 48 + u < 256; omega)]; omega
      ·rw [Lib.decDigits, dif_neg h10] at hc
       rcases List.mem_append.1 hc with q | q
       ·exact ih (u / 10) (by omega) c q
       ·simp only [List.mem_singleton] at q
        subst q
        rw [UInt8.toNat_ofNat_of_lt' (by show 48 + u % 10 < 256; omega)]; omega
    have hb' : b ∈ Lib.itoa (encT t).2 := by rw [h1]; exact hb
    unfold Lib.itoa at hb'
    rw [if_neg (by omega)] at hb'
    have := hd _ b hb'
    simp [largeB] at q
    omega
  ·exact q
/- What Print writes of a right program is short, and is read again. -/
theorem uMore_le {α : Type} (g h : α → Tx) : ∀ l : List α, (∀ a ∈ l, (g a).length ≤ (h a).length) → (uMore (l.map g)).length ≤ (uMore (l.map h)).length
 | [], _ => by simp [uMore]
 | a :: l, hl => by
  have h1 := uMore_le g h l fun b hb => hl b (by simp [hb])
  have h2 := hl a (by simp)
  unfold uMore at *
  simp only [List.map_cons, List.flatMap_cons, List.length_append, List.length_cons]
  omega
theorem uList_le {α : Type} (g h : α → Tx) : ∀ l : List α, (∀ a ∈ l, (g a).length ≤ (h a).length) → (uList (l.map g)).length ≤ (uList (l.map h)).length
 | [], _ => by simp [uList]
 | a :: l, hl => by
  have h1 := uMore_le g h l fun b hb => hl b (by simp [hb])
  have h2 := hl a (by simp)
  simp only [List.map_cons, uList, List.length_append]
  omega
theorem wrT_le {l : List Tx} {t : Tx} (h : WTerm t) : (wrT l t).length ≤ t.length := by
 unfold wrT
 split
 ·have := List.length_pos_iff.2 h.1
  simp only [List.length_cons, List.length_nil]; omega
 ·exact Nat.le_refl _
theorem uAtom_le {l : List Tx} {a : RAtom} (h : WAtom a) : (uAtom (renA l a)).length ≤ (uAtom a).length := by
 have h1 := uList_le (wrT l) id a.terms fun t ht => wrT_le (h.2.2.2 t ht)
 rw [List.map_id] at h1
 unfold uAtom renA
 simp only [List.length_append, List.length_cons, List.length_nil]
 omega
theorem uLit_le {l : List Tx} {a : RAtom} (h : WAtom a) : (uLit (renA l a)).length ≤ (uLit a).length := by
 have h1 := uAtom_le (l := l) h
 unfold uLit
 rw [List.length_append, List.length_append]
 show (if a.nt = true then [33] else ([] : Tx)).length + _ ≤ _
 omega
theorem uItem_le {x : RItem} (h : WItem x) : (uItem (ren x)).length ≤ (uItem x).length := by
 unfold uItem
 cases ho : x.out with
 | true =>
  rw [if_pos (by simp [ren, ho]), if_pos rfl]
  simp [ren, renA]
 | false =>
  obtain ⟨q1, -, -, q3⟩ := h.2.2 ho
  rw [if_neg (by simp [ren, ho]), if_neg (by simp)]
  have h1 := uAtom_le (l := ordL x) q1
  have h2 := uList_le (fun a => uLit (renA (ordL x) a)) uLit x.body fun a ha => uLit_le (q3 a ha)
  unfold uRule
  show (uAtom (renA (ordL x) x.head) ++ (if x.body.map (renA (ordL x)) = [] then [] else 58 :: 45 :: uList ((x.body.map (renA (ordL x))).map uLit))).length ≤ _
  rw [List.map_map, List.length_append, List.length_append]
  by_cases hb : x.body = []
  ·rw [if_pos (by simp [hb]), if_pos hb]; simpa using h1
  ·rw [if_neg (by simpa using hb), if_neg hb]
   simp only [List.length_cons]
   have h3 : (uList (x.body.map (uLit ∘ renA (ordL x)))).length ≤ (uList (x.body.map uLit)).length := h2
   omega
theorem uItems_le : ∀ l : List RItem, (∀ x ∈ l, WItem x) → (uItems (l.map ren)).length ≤ (uItems l).length
 | [], _ => by simp [uItems]
 | x :: l, h => by
  have h1 := uItems_le l fun y hy => h y (by simp [hy])
  have h2 := uItem_le (h x (by simp))
  unfold uItems at *
  simp only [List.map_cons, List.flatMap_cons, List.length_append, List.length_cons, List.length_nil]
  omega
/- The document's own answer: pairs, agree, ways. -/
/- The document's own answer: agree, ways. -/
/- The document's own answer: shows; a rule without a literal. -/
/- The document's own answer: a rule without a literal; whether it is spare; Needs. -/
theorem right_items {t : Tx} (he : (refCheck t).1 = 0) : t.length ≤ 600 ∧ ∃ l r, pItems 16 t = .got l r := by
 have hlen : t.length ≤ 600 := by
  by_cases hl : 600 < t.length
  ·unfold refCheck at he; rw [if_pos hl] at he; simp at he
  ·omega
 refine ⟨hlen, ?_⟩
 have hp := placeL_parse t
 cases h : pItems 16 t with
 | got l r => exact ⟨l, r, rfl⟩
 | bad e =>
  rw [h] at hp
  have hp : placeL t = ((t.length - e.length : Nat) : Int) := hp
  unfold refCheck at he
  rw [if_neg (by omega), hp, if_pos (Int.natCast_nonneg _)] at he
  simp at he
/- The document's own answer: stands, same, within, lands. -/
/- The document's own answer: within, lands. -/
end Go.Proofs.YtmoeoppbmhfbpaaGreatDoorQ
