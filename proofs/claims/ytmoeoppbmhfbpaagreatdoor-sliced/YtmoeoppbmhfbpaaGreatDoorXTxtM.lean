import Derived.Test.YtmoeoppbmhfbpaaGreatDoorXAgrB
import Derived.Test.YtmoeoppbmhfbpaaGreatDoorXFacts
import Derived.Test.YtmoeoppbmhfbpaaGreatDoorXFolB
import Derived.Test.YtmoeoppbmhfbpaaGreatDoorXSpaE
/- Plain texts: a piece with its variables named in order. -/
namespace Go.Proofs.YtmoeoppbmhfbpaaGreatDoorX
open Go.Abs
set_option linter.unusedSimpArgs false
set_option linter.unusedVariables false
set_option maxRecDepth 100000
abbrev RnS := Nat × (Nat → Nat)
def rnF (st : RnS) (c : UInt8) : RnS := if largeB c.toNat = true ∧ st.2 (c.toNat - 65) = 0 then (st.1 + 1, fun v => if v = c.toNat - 65 then st.1 + 1 else st.2 v) else st
def Mt (st : RnS) (c d : UInt8) : Prop := (largeB c.toNat = false → d = c) ∧ (largeB c.toNat = true → (d.toNat : Int) = 64 + ((rnF st c).2 (c.toNat - 65) : Nat))
def StO (acc : List Tx) (st : RnS) : Prop := st.1 = acc.length ∧ ∀ v, v < 26 → st.2 v = if [letB (v : Int)] ∈ acc then acc.idxOf [letB (v : Int)] + 1 else 0
def RnOk (p q : Tx) (acc acc' : List Tx) : Prop := p.length = q.length ∧ ∀ st, StO acc st → StO acc' (p.foldl rnF st) ∧ ∀ i c, p[i]? = some c → ∃ d, q[i]? = some d ∧ Mt ((p.take i).foldl rnF st) c d
theorem RnOk.append {p1 q1 p2 q2 : Tx} {a b c : List Tx} (h : RnOk p1 q1 a b) (g : RnOk p2 q2 b c) : RnOk (p1 ++ p2) (q1 ++ q2) a c := by
 refine ⟨by simp [h.1, g.1], fun st hs => ?_⟩
 obtain ⟨h1, h2⟩ := h.2 st hs
 obtain ⟨g1, g2⟩ := g.2 _ h1
 refine ⟨by rw [List.foldl_append]; exact g1, fun i d hd => ?_⟩
 by_cases hi : i < p1.length
 ·rw [List.getElem?_append_left hi] at hd
  obtain ⟨e, he, hm⟩ := h2 i d hd
  exact ⟨e, by rw [List.getElem?_append_left (by rw [← h.1]; exact hi)]; exact he, by rw [List.take_append_of_le_length (by omega)]; exact hm⟩
 ·rw [List.getElem?_append_right (by omega)] at hd
  obtain ⟨e, he, hm⟩ := g2 _ d hd
  refine ⟨e, by rw [List.getElem?_append_right (by rw [← h.1]; omega), ← h.1]; exact he, ?_⟩
  rw [List.take_append, List.take_of_length_le (by omega), List.foldl_append]
  exact hm
theorem RnOk.nil (a : List Tx) : RnOk [] [] a a := ⟨rfl, fun st hs => ⟨hs, fun i c h => by simp at h⟩⟩
theorem RnOk.one {c : UInt8} (h : largeB c.toNat = false) (a : List Tx) : RnOk [c] [c] a a := by
 refine ⟨rfl, fun st hs => ⟨?_, fun i d hd => ?_⟩⟩
 ·show StO a (rnF st c)
  rw [rnF, if_neg (by simp [h])]; exact hs
 ·match i, hd with
  | 0, hd => simp at hd; subst hd; exact ⟨c, rfl, fun _ => rfl, fun h' => by rw [h] at h'; cases h'⟩
  | i + 1, hd => simp at hd
theorem RnOk.plain : ∀ {t : Tx}, (∀ c ∈ t, largeB c.toNat = false) → ∀ a, RnOk t t a a
 | [], _, a => RnOk.nil a
 | c :: t, h, a => RnOk.append (RnOk.one (h c (by simp)) a) (RnOk.plain (fun d hd => h d (by simp [hd])) a)
theorem pre_idx {acc L : List Tx} (h : acc <+: L) {t : Tx} (ht : t ∈ acc) : L.idxOf t = acc.idxOf t := by
 exact idx_pre h ht
theorem ordF_pre (acc : List Tx) (t : Tx) : acc <+: ordF acc t := by
 unfold ordF
 split
 ·exact List.prefix_append _ _
 ·exact List.prefix_refl _
theorem ordT_pre : ∀ (ts acc : List Tx), acc <+: ordT acc ts
 | [], acc => List.prefix_refl _
 | t :: ts, acc => (ordF_pre acc t).trans (ordT_pre ts (ordF acc t))
theorem let_inj {i j : Nat} (hi : i < 26) (hj : j < 26) (h : letB (i : Int) = letB (j : Int)) : i = j := by
 have h1 := let_toNat (k := (i : Int)) (by omega) (by omega)
 have h2 := let_toNat (k := (j : Int)) (by omega) (by omega)
 rw [h] at h1
 omega
theorem let_sub {v : Nat} (hv : v < 26) : (letB (v : Int)).toNat - 65 = v := by have := let_toNat (k := (v : Int)) (by omega) (by omega); omega
theorem rn_old {acc : List Tx} {v : Nat} (hv : v < 26) {st : RnS} (hs : StO acc st) (hm : [letB (v : Int)] ∈ acc) : rnF st (letB (v : Int)) = st ∧ st.2 v = acc.idxOf [letB (v : Int)] + 1 := by
 have hsv := hs.2 v hv
 rw [if_pos hm] at hsv
 refine ⟨?_, hsv⟩
 unfold rnF
 rw [if_neg]
 rintro ⟨-, h⟩
 rw [let_sub hv, hsv] at h
 cases h
theorem rn_new {acc : List Tx} {v : Nat} (hv : v < 26) {st : RnS} (hs : StO acc st) (hm : [letB (v : Int)] ∉ acc) : StO (acc ++ [[letB (v : Int)]]) (rnF st (letB (v : Int))) ∧ (rnF st (letB (v : Int))).2 v = acc.length + 1 := by
 have hsv := hs.2 v hv
 rw [if_neg hm] at hsv
 have e : rnF st (letB (v : Int)) = (st.1 + 1, fun w => if w = v then st.1 + 1 else st.2 w) := by
  unfold rnF
  rw [if_pos ⟨let_large (by omega) (by omega), by rw [let_sub hv]; exact hsv⟩, let_sub hv]
 rw [e]
 refine ⟨⟨by rw [List.length_append, hs.1]; rfl, fun w hw => ?_⟩, by rw [← hs.1]; exact if_pos rfl⟩
 show (if w = v then st.1 + 1 else st.2 w) = _
 by_cases hwv : w = v
 ·subst hwv
  rw [if_pos rfl, if_pos (List.mem_append_right _ (List.mem_singleton.2 rfl)), List.idxOf_append, if_neg hm, hs.1, List.idxOf_cons_self]
  omega
 ·have hne : [letB (w : Int)] ≠ [letB (v : Int)] := fun e => hwv (let_inj hw hv (List.cons.inj e).1)
  rw [if_neg hwv, hs.2 w hw]
  by_cases hwm : [letB (w : Int)] ∈ acc
  ·rw [if_pos hwm, if_pos (List.mem_append_left _ hwm), idx_pre (List.prefix_append _ _) hwm]
  ·rw [if_neg hwm, if_neg]
   intro h
   rcases List.mem_append.1 h with h | h
   ·exact hwm h
   ·exact hne (List.mem_singleton.1 h)
theorem rn_key {L acc : List Tx} {v : Nat} (hv : v < 26) (hp : ordF acc [letB (v : Int)] <+: L) {st : RnS} (hs : StO acc st) : StO (ordF acc [letB (v : Int)]) (rnF st (letB (v : Int))) ∧ (rnF st (letB (v : Int))).2 v = L.idxOf [letB (v : Int)] + 1 := by
 have hvb : variableB [letB (v : Int)] = true := let_large (k := (v : Int)) (by omega) (by omega)
 by_cases hm : [letB (v : Int)] ∈ acc
 ·have hof : ordF acc [letB (v : Int)] = acc := if_neg (fun h => h.2 hm)
  obtain ⟨h1, h2⟩ := rn_old hv hs hm
  rw [hof] at hp ⊢
  rw [h1, h2, pre_idx hp hm]
  exact ⟨hs, rfl⟩
 ·have hof : ordF acc [letB (v : Int)] = acc ++ [[letB (v : Int)]] := if_pos ⟨hvb, hm⟩
  obtain ⟨h1, h2⟩ := rn_new hv hs hm
  rw [hof] at hp ⊢
  rw [h2, pre_idx hp (List.mem_append_right _ (List.mem_singleton.2 rfl)), List.idxOf_append, if_neg hm, List.idxOf_cons_self]
  exact ⟨h1, by omega⟩
theorem rn_one {c d : UInt8} {acc acc' : List Tx} (h : ∀ st, StO acc st → StO acc' (rnF st c) ∧ Mt st c d) : RnOk [c] [d] acc acc' := by
 refine ⟨rfl, fun st hs => ⟨(h st hs).1, fun i b hb => ?_⟩⟩
 cases i with
 | zero =>
  have e : c = b := by simpa using hb
  subst e
  exact ⟨d, rfl, (h st hs).2⟩
 | succ i => simp at hb
theorem RnOk.var {L acc : List Tx} {v : Nat} (hv : v < 26) (hp : ordF acc [letB (v : Int)] <+: L) (hL : L.length ≤ 26) : RnOk [letB (v : Int)] (wrT L [letB (v : Int)]) acc (ordF acc [letB (v : Int)]) := by
 have hlg := let_large (k := (v : Int)) (by omega) (by omega)
 have hvb : variableB [letB (v : Int)] = true := hlg
 have hmem : [letB (v : Int)] ∈ ordF acc [letB (v : Int)] := mem_ordF (.inr ⟨rfl, hvb⟩)
 have hLm := hp.subset hmem
 have hix := List.idxOf_lt_length_of_mem hLm
 have hwr : wrT L [letB (v : Int)] = [letB ((L.idxOf [letB (v : Int)] : Nat) : Int)] := by
  unfold wrT whichL
  rw [if_pos hvb, if_pos hLm]
 rw [hwr]
 have hsub := let_sub hv
 have hkey := fun st hs => rn_key (st := st) hv hp hs
 have hnew := let_toNat (k := ((L.idxOf [letB (v : Int)] : Nat) : Int)) (by omega) (by omega)
 generalize L.idxOf [letB (v : Int)] = ix at hkey hnew
 generalize letB (ix : Int) = d at hnew
 generalize ordF acc [letB (v : Int)] = acc' at hkey
 generalize letB (v : Int) = c at hsub hkey hlg
 refine rn_one fun st hs => ?_
 obtain ⟨k1, k2⟩ := hkey st hs
 refine ⟨k1, fun h => ?_, fun _ => ?_⟩
 ·rw [hlg] at h; cases h
 ·rw [hsub, k2, hnew]
  omega
theorem RnOk.term {L acc : List Tx} {t : Tx} (ht : UT t) (hp : ordF acc t <+: L) (hL : L.length ≤ 26) : RnOk t (wrT L t) acc (ordF acc t) := by
 cases hv : variableB t with
 | true =>
  obtain ⟨k, hk, rfl⟩ := ht.2.2.2 hv
  exact RnOk.var hk hp hL
 | false =>
  have e1 : wrT L t = t := if_neg (by simp [hv])
  have e2 : ordF acc t = acc := if_neg (by simp [hv])
  rw [e1, e2]
  exact RnOk.plain (fun c hc => ht.num hv hc) acc
theorem RnOk.more {L : List Tx} (hL : L.length ≤ 26) : ∀ (ts acc : List Tx), (∀ t ∈ ts, UT t) → ordT acc ts <+: L → RnOk (uMore ts) (uMore (ts.map (wrT L))) acc (ordT acc ts)
 | [], acc, _, _ => RnOk.nil acc
 | t :: ts, acc, h, hp => by
  have e : ∀ (t : Tx) (ts : List Tx), uMore (t :: ts) = [44] ++ (t ++ uMore ts) := fun t ts => by simp [uMore]
  rw [List.map_cons, e, e]
  exact (RnOk.one (by decide) acc).append ((RnOk.term (h t (by simp)) ((ordT_pre ts _).trans hp) hL).append (RnOk.more hL ts _ (fun u hu => h u (by simp [hu])) hp))
theorem RnOk.list {L : List Tx} (hL : L.length ≤ 26) (ts acc : List Tx) (h : ∀ t ∈ ts, UT t) (hp : ordT acc ts <+: L) : RnOk (uList ts) (uList (ts.map (wrT L))) acc (ordT acc ts) := by
 cases ts with
 | nil => exact RnOk.nil acc
 | cons t ts =>
  rw [List.map_cons, uList, uList]
  exact (RnOk.term (h t (by simp)) ((ordT_pre ts _).trans hp) hL).append (RnOk.more hL ts _ (fun u hu => h u (by simp [hu])) hp)
theorem RnOk.lit {L : List Tx} (hL : L.length ≤ 26) (a : RAtom) (acc : List Tx) (hw : WName a.pred) (h : ∀ t ∈ a.terms, UT t) (hp : ordT acc a.terms <+: L) : RnOk (uLit a) (uLit (renA L a)) acc (ordT acc a.terms) := by
 have e : ∀ a : RAtom, uLit a = ((if a.nt = true then [33] else []) ++ (a.pred ++ [40])) ++ (uList a.terms ++ [41]) := fun a => by simp [uLit, uAtom]
 rw [e a, e (renA L a)]
 refine RnOk.append (RnOk.plain (fun c hc => ?_) acc) (RnOk.append (RnOk.list hL _ acc h hp) (RnOk.one (by decide) _))
 rcases List.mem_append.1 hc with hc | hc
 ·split at hc
  ·simp at hc; subst hc; decide
  ·cases hc
 ·rcases List.mem_append.1 hc with hc | hc
  ·exact small_large (hw.2 c hc)
  ·simp at hc; subst hc; decide
theorem RnOk.lmore {L : List Tx} (hL : L.length ≤ 26) : ∀ (ls : List RAtom) (acc : List Tx), (∀ a ∈ ls, WName a.pred ∧ ∀ t ∈ a.terms, UT t) → ordT acc (ls.flatMap (·.terms)) <+: L → RnOk (uMore (ls.map uLit)) (uMore ((ls.map (renA L)).map uLit)) acc (ordT acc (ls.flatMap (·.terms)))
 | [], acc, _, _ => RnOk.nil acc
 | a :: ls, acc, h, hp => by
  have e : ∀ (t : Tx) (ts : List Tx), uMore (t :: ts) = [44] ++ (t ++ uMore ts) := fun t ts => by simp [uMore]
  rw [List.flatMap_cons, ordT_app] at hp ⊢
  simp only [List.map_cons, e]
  exact (RnOk.one (by decide) acc).append ((RnOk.lit hL a acc (h a (by simp)).1 (h a (by simp)).2 ((ordT_pre _ _).trans hp)).append (RnOk.lmore hL ls _ (fun b hb => h b (by simp [hb])) hp))
theorem rn_item {x : RItem} (hw : WItem x) (hu : ∀ a ∈ atomsL x, ∀ t ∈ a.terms, UT t) (hL : (ordL x).length ≤ 26) : RnOk (uItem x ++ [46]) (uItem (ren x) ++ [46]) [] (ordL x) := by
 refine RnOk.append ?_ (RnOk.one (by decide) _)
 cases ho : x.out with
 | true =>
  obtain ⟨-, h2, h3⟩ := hw.2.1 ho
  have e1 : uItem x = 63 :: x.head.pred := if_pos ho
  have e2 : uItem (ren x) = 63 :: x.head.pred := if_pos ho
  have e3 : ordL x = [] := by simp [ordL, atomsL, ho, h3, ordT]
  rw [e1, e2, e3]
  refine RnOk.plain (fun c hc => ?_) []
  rcases List.mem_cons.1 hc with rfl | hc
  ·decide
  ·exact small_large (hw.1.2 c hc)
 | false =>
  obtain ⟨h1, h2, h3, h4⟩ := hw.2.2 ho
  have hO : ordL x = ordT (ordT [] x.head.terms) (x.body.flatMap (·.terms)) := by
   unfold ordL
   rw [← ordT_app]
   simp [atomsL, ho]
  have e1 : uItem x = uLit x.head ++ (if x.body = [] then [] else 58 :: 45 :: uList (x.body.map uLit)) := by
   rw [uItem, if_neg (by simp [ho]), uRule]; simp [uLit, h2]
  have e2 : uItem (ren x) = uLit (renA (ordL x) x.head) ++ (if x.body = [] then [] else 58 :: 45 :: uList ((x.body.map (renA (ordL x))).map uLit)) := by
   rw [uItem, if_neg (by simp [ren, ho]), uRule]; simp [uLit, ren, renA, h2]
  have hpre : ordT [] x.head.terms <+: ordL x := by rw [hO]; exact ordT_pre _ _
  have hh := RnOk.lit hL x.head [] h1.1 (hu x.head (atoms_mem (.inl ⟨ho, rfl⟩))) hpre
  rw [e1, e2]
  conv => arg 4; rw [hO]
  refine hh.append ?_
  by_cases hb : x.body = []
  ·rw [if_pos hb, if_pos hb, hb]
   exact RnOk.nil _
  ·rw [if_neg hb, if_neg hb]
   obtain ⟨a, ls, e⟩ := List.exists_cons_of_ne_nil hb
   have hpb : ordT (ordT [] x.head.terms) (x.body.flatMap (·.terms)) <+: ordL x := by rw [hO]; exact List.prefix_refl _
   rw [e] at hpb ⊢
   rw [List.flatMap_cons, ordT_app] at hpb ⊢
   have hall : ∀ b ∈ a :: ls, WName b.pred ∧ ∀ t ∈ b.terms, UT t := fun b hb => by
    rw [← e] at hb
    exact ⟨(h4 b hb).1, hu b (atoms_mem (.inr hb))⟩
   have ec : ∀ t : Tx, (58 :: 45 :: t : Tx) = [58, 45] ++ t := fun t => rfl
   rw [List.map_cons, List.map_cons, List.map_cons, uList, uList, ec (uLit a ++ _), ec (uLit (renA (ordL x) a) ++ _)]
   refine (RnOk.plain (fun c hc => ?_) _).append ((RnOk.lit hL a _ (hall a (by simp)).1 (hall a (by simp)).2 ((ordT_pre _ _).trans hpb)).append (RnOk.lmore hL ls _ (fun b hb => hall b (by simp [hb])) hpb))
   simp at hc
   rcases hc with rfl | rfl <;> decide
/- Plain texts, walked: renames, renamed. -/
theorem klargeB_spec (c : Int) (σ : St) : ACalls Tryz.prog 118 [sc (.int .u8 c)] σ fun x σ' => x = sc (.bool (largeB c)) ∧ σ' = σ := by
 refine acalls 9 [.tmp 2] Tryz.func118 rfl (by decide) rfl rfl (Nat.le_of_ble_eq_true rfl) ?_
 repeat' (first
 |with_reducible first|apply Xa|apply Xb|(refine Xc ?_;intro κ hκ)|(apply hκ.out;clear hκ κ)|apply Xd|apply Xe|apply Xf
 |((with_reducible first|refine Xl ?_ ?_|refine Xk ?_ ?_)<;> intro h hari<;> try exact Xp)
 |refine Xr ?_
 |exact True.intro
 |(apply hκ.out;clear hκ κ))
 all_goals exact ⟨_, rfl, by simp [largeB, *]⟩
def n26 (f : Nat → Nat) : List AV := (List.range 26).map fun i => sc (.int .i64 (f i : Nat))
theorem n26_zero : arep 26 (.int .i64 0) = n26 fun _ => 0 := by
 rfl
theorem n26_len (f : Nat → Nat) : (n26 f).length = 26 := by simp [n26]
theorem n26_get (f : Nat → Nat) {k : Nat} (h : k < 26) : (n26 f)[k]? = some (sc (.int .i64 (f k : Nat))) := by simp [n26, h]
theorem n26_set (f : Nat → Nat) {k : Nat} (h : k < 26) (b : Nat) : (n26 f).set k (sc (.int .i64 (b : Nat))) = n26 fun j => if j = k then b else f j := by
 apply List.ext_getElem?
 intro i
 rw [List.getElem?_set]
 by_cases hi : i < 26
 ·rw [n26_get _ hi, n26_len]
  by_cases e : k = i
  ·subst e; rw [if_pos rfl, if_pos h, n26_get _ hi]; simp
  ·rw [if_neg e, n26_get _ hi, if_neg (Ne.symm e)]
 ·have h1 : (n26 f)[i]? = none := List.getElem?_eq_none (by rw [n26_len]; omega)
  have h2 : (n26 fun j => if j = k then b else f j)[i]? = none := List.getElem?_eq_none (by rw [n26_len]; omega)
  rw [h1, h2, n26_len]
  split
  ·omega
  ·rfl
theorem rnF_le {st : RnS} {c : UInt8} {n : Nat} (h1 : st.1 ≤ n) (h2 : ∀ v, st.2 v ≤ n) : (rnF st c).1 ≤ n + 1 ∧ ∀ v, (rnF st c).2 v ≤ n + 1 := by
 unfold rnF
 split
 ·refine ⟨by simp only; omega, fun v => ?_⟩
  simp only
  split
  ·omega
  ·have := h2 v; omega
 ·exact ⟨by omega, fun v => by have := h2 v; omega⟩
def st00 : RnS := (0, fun _ => 0)
def RnT (p q : Tx) : Prop := p.length = q.length ∧ p.length ≤ 100000 ∧ ∀ i c, p[i]? = some c → ∃ d, q[i]? = some d ∧ Mt ((p.take i).foldl rnF st00) c d
theorem rnT_of {x : RItem} (hw : WItem x) (hu : ∀ a ∈ atomsL x, ∀ t ∈ a.terms, UT t) (hL : (ordL x).length ≤ 26) (hl : (uItem x ++ [46]).length ≤ 100000) : RnT (uItem x ++ [46]) (uItem (ren x) ++ [46]) := by
 have h := rn_item hw hu hL
 exact ⟨h.1, hl, (h.2 st00 ⟨rfl, fun v hv => by simp [st00]⟩).2⟩
set_option maxHeartbeats 32000000 in
theorem krenames_spec (p q : Tx) (h : RnT p q) (σ : St) : ACalls Tryz.prog 68 [str p, str q] σ fun r σ' => r = sc (.bool true) ∧ Keep σ σ' := by
 obtain ⟨hl, hb, hR⟩ := h
 have hLg := fun c σ => klargeB_spec c σ
 have hz := n26_zero
 have hlb : ((p.length : Int) != (q.length : Int)) = false := by simp [hl]
 have hl1 : p.length ≤ q.length := by omega
 have hl2 : q.length ≤ p.length := by omega
 clear hl
 refine acalls 56 [.tmp 4] Tryz.func68 rfl (by decide) rfl rfl (Nat.le_of_ble_eq_true rfl) ?_
 repeat' (first
 |with_reducible first|apply Xa|apply Xb|(refine Xc ?_;intro κ hκ)|(apply hκ.out;clear hκ κ)|apply Xd|apply Xe|apply Xf
 |((with_reducible first|refine Xl ?_ ?_|refine Xm ?_ ?_|refine Xk ?_ ?_)<;> intro h hari<;> try exact Xp)
 |refine Xr ?_
 |exact True.intro
 |((with_reducible refine Xg ?_);refine Xj ?_)
 |(apply hκ.out;clear hκ κ))
 refine awp_loop (fun m s σ' => ∃ (i : Nat) (st : RnS), m = p.length - i ∧ i ≤ p.length ∧ st.1 ≤ i ∧ s 0 = str p ∧ s 1 = str q ∧ s 5 = sc (.int .i64 (st.1 : Nat)) ∧ s 6 = ptr σ.nobj 0 ∧ s 7 = sc (.int .i64 i) ∧ Keep σ σ' ∧ σ.nobj < σ'.nobj ∧ σ'.obj σ.nobj = n26 st.2 ∧ Abs.Hid ((p.take i).foldl rnF st00 = st ∧ ∀ v, st.2 v ≤ i)) p.length
  ⟨0, st00, by omega, by omega, by simp [st00], rfl, rfl, by simp [upd, st00], by simp [upd], by simp [upd], by exact Xs, by simp only [new_nobj]; omega, by first | exact new_same | (rw [new_same]; rfl), ⟨rfl, fun v => Nat.le_refl _⟩⟩ ?_
 rintro m s σ' ⟨i, st, rfl, hi, hst, h0, h1, h5, h6, h7, hK, hno, hob, hA⟩
 have kno := hK.nobj
 have hnl := n26_len st.2
 by_cases hlt : i < p.length
 ·have hget := List.getElem?_eq_getElem hlt
  generalize p[i] = c at hget
  obtain ⟨d, hd, hm⟩ := hR i c hget
  rw [hA.out.1] at hm
  have hqi : i < q.length := by omega
  have hLg := hLg c.toNat
  have hstep := fold_take (f := rnF) (a := st00) hget
  rw [hA.out.1] at hstep
  have hle := rnF_le (c := c) hst hA.out.2
  cases hc : largeB c.toNat with
  | false =>
   have hdc := hm.1 hc
   subst hdc
   have hst2 : rnF st d = st := by unfold rnF; rw [if_neg (by simp [hc])]
   rw [hst2] at hstep
   have HA : Abs.Hid ((p.take (i + 1)).foldl rnF st00 = st ∧ ∀ v, st.2 v ≤ i + 1) := ⟨hstep, fun v => by have := hA.out.2 v; omega⟩
   rw [hc] at hLg
   have hdd : ((d.toNat : Int) != (d.toNat : Int)) = false := by simp
   have hde : ((d.toNat : Int) == (d.toNat : Int)) = true := by simp
   clear hA hm hstep hst2 hle hc hR
   repeat' (first
 |with_reducible first|apply Xa|apply Xb|(refine Xc ?_;intro κ hκ)|(apply hκ.out;clear hκ κ)|apply Xd|apply Xe|apply Xf
 |((with_reducible first|refine Xl ?_ ?_|refine Xm ?_ ?_|refine Xk ?_ ?_)<;> intro h hari<;> try exact Xp)
 |((with_reducible refine Xh ?_);refine Xi (hLg _) ?_;rintro _ _ ⟨rfl,hσ2⟩;(have hσ3:=hσ2.symm;clear hσ2;subst hσ3))
 |refine Xr ?_
 |exact True.intro
 |((with_reducible refine Xg ?_);refine Xj ?_)
 |(apply hκ.out;clear hκ κ))
   refine awp_mono (Q := fun e s' σ'' => e = .normal ∧ s' 31 = sc (.bool false) ∧ s' 0 = s 0 ∧ s' 1 = s 1 ∧ s' 5 = s 5 ∧ s' 6 = s 6 ∧ s' 7 = s 7 ∧ σ'' = σ') ?_ ?_
   ·refine awp_draw_h follows_mixed (fun _ => True) [] [0, 1, 2, 3, 4, 5] 1 #[true, true, true, true, true, true, false] (by kernel_rfl) (fun _ _ _ h => by cases h.1) ?_; intro κ hκ; refine Xr ?_; refine hκ.out _ ?_; clear hκ κ
    refine uany_rest [6] (by kernel_rfl) (by kernel_rfl) (fun _ _ _ h => by cases h.1) (Nat.le_refl _) (fun o ho _ => rfl) ?_
    intro κ hκ
    refine Xr ?_
    refine hκ.out _ _ ⟨rfl, ?_⟩
    simp [upd]
   ·rintro e s' σ'' ⟨rfl, g31, g0, g1, g5, g6, g7, rfl⟩
    rw [h0] at g0
    rw [h1] at g1
    rw [h5] at g5
    rw [h6] at g6
    rw [h7] at g7
    clear h0 h1 h5 h6 h7
    refine awp_cond_f g31 ?_
    repeat' (first
 |with_reducible first|apply Xa|apply Xb|(refine Xc ?_;intro κ hκ)|(apply hκ.out;clear hκ κ)|apply Xd|apply Xe|apply Xf
 |((with_reducible first|refine Xl ?_ ?_|refine Xm ?_ ?_|refine Xk ?_ ?_)<;> intro h hari<;> try exact Xp)
 |refine Xr ?_
 |exact True.intro
 |((with_reducible refine Xg ?_);refine Xj ?_)
 |(apply hκ.out;clear hκ κ))
    refine ⟨p.length - (i + 1), by omega, i + 1, st, ?_⟩
    ((repeat' with_reducible refine And.intro ?_ ?_)<;> first|exact Xq|exact (HA)|exact Xs)
  | true =>
   have hdc := hm.2 hc
   obtain ⟨l1, l2⟩ : 65 ≤ c.toNat ∧ c.toNat ≤ 90 := by
    simp only [largeB, Bool.and_eq_true, decide_eq_true_eq] at hc
    omega
   have hw8 : IntKind.u8.wrap ((c.toNat : Int) - 65) = ((c.toNat - 65 : Nat) : Int) := by rw [u8w (by omega) (by omega)]; omega
   have hv26 : c.toNat - 65 < 26 := by omega
   have hvg := n26_get st.2 hv26
   rw [hc] at hLg
   have HA : Abs.Hid ((p.take (i + 1)).foldl rnF st00 = rnF st c ∧ ∀ v, (rnF st c).2 v ≤ i + 1) := ⟨hstep, hle.2⟩
   have hle1 := hle.1
   have hdl := d.toNat_lt
   have hfv := hle.2 (c.toNat - 65)
   by_cases hz0 : st.2 (c.toNat - 65) = 0
   ·have hrn : rnF st c = (st.1 + 1, fun v => if v = c.toNat - 65 then st.1 + 1 else st.2 v) := by unfold rnF; rw [if_pos ⟨hc, hz0⟩]
    have hset := n26_set st.2 hv26 (st.1 + 1)
    rw [show (((st.1 + 1 : Nat)) : Int) = (st.1 : Int) + 1 by omega] at hset
    rw [hz0] at hvg
    rw [hrn] at HA hdc hle1
    simp only [if_true] at hdc
    clear hA hm hstep hle hc hR hrn hfv
    generalize c.toNat - 65 = cv at *
    generalize hfe : (fun v => if v = cv then st.1 + 1 else st.2 v) = f2 at *
    have hg2 : f2 cv = st.1 + 1 := by rw [← hfe]; simp
    have hvg2 := n26_get f2 hv26
    rw [hg2, show (((st.1 + 1 : Nat)) : Int) = (st.1 : Int) + 1 by omega] at hvg2
    have hnl2 := n26_len f2
    clear hfe hg2
    simp only at hle1
    have hcmp : ((d.toNat : Int) != (65 + ((st.1 : Nat) : Int) + 1 - 1)) = false := by simp; omega
    have hcmp2 : ((d.toNat : Int) != (65 + (((st.1 : Nat) : Int) + 1) - 1)) = false := by simp; omega
    have hcmp3 : ((d.toNat : Int) != (65 + (((st.1 + 1 : Nat) : Int)) - 1)) = false := by simp; omega
    repeat' (first
 |with_reducible first|apply Xa|apply Xb|(refine Xc ?_;intro κ hκ)|(apply hκ.out;clear hκ κ)|apply Xd|apply Xe|apply Xf
 |((with_reducible first|refine Xl ?_ ?_|refine Xm ?_ ?_|refine Xk ?_ ?_)<;> intro h hari<;> try exact Xp)
 |((with_reducible refine Xh ?_);refine Xi (hLg _) ?_;rintro _ _ ⟨rfl,hσ2⟩;(have hσ3:=hσ2.symm;clear hσ2;subst hσ3))
 |refine Xr ?_
 |exact True.intro
 |((with_reducible refine Xg ?_);refine Xj ?_)
 |(apply hκ.out;clear hκ κ))
    refine awp_mono (Q := fun e s' σ'' => e = .normal ∧ s' 55 = sc (.bool false) ∧ s' 0 = str p ∧ s' 1 = str q ∧ s' 5 = sc (.int .i64 (st.1 + 1 : Nat)) ∧ s' 6 = ptr σ.nobj 0 ∧ s' 7 = sc (.int .i64 i) ∧ σ'' = (σ'.put σ.nobj (n26 f2))) ?_ ?_
    ·refine awp_draw_h follows_mixed (fun _ => True) [] [0, 1, 2, 3, 4, 5, 6, 7, 8] 1 #[true, true, true, true, true, true, true, true, true, false] (by kernel_rfl) (fun _ _ _ h => by cases h.1) ?_; intro κ hκ; refine Xr ?_; refine hκ.out _ ?_; clear hκ κ
     refine uany_rest [9] (by kernel_rfl) (by kernel_rfl) (fun _ _ _ h => by cases h.1) (Nat.le_refl _) (fun o ho _ => rfl) ?_
     intro κ hκ
     refine Xr ?_
     refine hκ.out _ _ ⟨rfl, ?_⟩
     simp [upd, *] <;> omega
    ·rintro e s' σ'' ⟨rfl, g55, g0, g1, g5, g6, g7, rfl⟩
     clear h0 h1 h5 h6 h7
     refine awp_cond_f g55 ?_
     repeat' (first
 |with_reducible first|apply Xa|apply Xb|(refine Xc ?_;intro κ hκ)|(apply hκ.out;clear hκ κ)|apply Xd|apply Xe|apply Xf
 |((with_reducible first|refine Xl ?_ ?_|refine Xm ?_ ?_|refine Xk ?_ ?_)<;> intro h hari<;> try exact Xp)
 |refine Xr ?_
 |exact True.intro
 |((with_reducible refine Xg ?_);refine Xj ?_)
 |(apply hκ.out;clear hκ κ))
     refine ⟨p.length - (i + 1), by omega, i + 1, (st.1 + 1, f2), ?_⟩
     ((repeat' with_reducible refine And.intro ?_ ?_)<;> first|exact Xq|exact (HA)|exact (by rw [put_same])|exact Xs)
   ·have hrn : rnF st c = st := by unfold rnF; rw [if_neg (fun h => hz0 h.2)]
    rw [hrn] at HA hdc hfv
    have hzb : (((st.2 (c.toNat - 65) : Nat) : Int) == 0) = false := by simpa using hz0
    clear hA hm hstep hle hc hR hrn hle1
    generalize c.toNat - 65 = cv at *
    generalize hfe : st.2 cv = fv at *
    have hcmp3 : ((d.toNat : Int) != (65 + ((fv : Nat) : Int) - 1)) = false := by simp; omega
    clear hfe
    repeat' (first
 |with_reducible first|apply Xa|apply Xb|(refine Xc ?_;intro κ hκ)|(apply hκ.out;clear hκ κ)|apply Xd|apply Xe|apply Xf
 |((with_reducible first|refine Xl ?_ ?_|refine Xm ?_ ?_|refine Xk ?_ ?_)<;> intro h hari<;> try exact Xp)
 |((with_reducible refine Xh ?_);refine Xi (hLg _) ?_;rintro _ _ ⟨rfl,hσ2⟩;(have hσ3:=hσ2.symm;clear hσ2;subst hσ3))
 |refine Xr ?_
 |exact True.intro
 |((with_reducible refine Xg ?_);refine Xj ?_)
 |(apply hκ.out;clear hκ κ))
    refine awp_mono (Q := fun e s' σ'' => e = .normal ∧ s' 55 = sc (.bool false) ∧ s' 0 = str p ∧ s' 1 = str q ∧ s' 5 = sc (.int .i64 (st.1 : Nat)) ∧ s' 6 = ptr σ.nobj 0 ∧ s' 7 = sc (.int .i64 i) ∧ σ'' = σ') ?_ ?_
    ·refine awp_draw_h follows_mixed (fun _ => True) [] [0, 1, 2, 3, 4, 5, 6, 7, 8] 1 #[true, true, true, true, true, true, true, true, true, false] (by kernel_rfl) (fun _ _ _ h => by cases h.1) ?_; intro κ hκ; refine Xr ?_; refine hκ.out _ ?_; clear hκ κ
     refine uany_rest [9] (by kernel_rfl) (by kernel_rfl) (fun _ _ _ h => by cases h.1) (Nat.le_refl _) (fun o ho _ => rfl) ?_
     intro κ hκ
     refine Xr ?_
     refine hκ.out _ _ ⟨rfl, ?_⟩
     simp [upd, *] <;> omega
    ·rintro e s' σ'' ⟨rfl, g55, g0, g1, g5, g6, g7, rfl⟩
     clear h0 h1 h5 h6 h7
     refine awp_cond_f g55 ?_
     repeat' (first
 |with_reducible first|apply Xa|apply Xb|(refine Xc ?_;intro κ hκ)|(apply hκ.out;clear hκ κ)|apply Xd|apply Xe|apply Xf
 |((with_reducible first|refine Xl ?_ ?_|refine Xm ?_ ?_|refine Xk ?_ ?_)<;> intro h hari<;> try exact Xp)
 |refine Xr ?_
 |exact True.intro
 |((with_reducible refine Xg ?_);refine Xj ?_)
 |(apply hκ.out;clear hκ κ))
     refine ⟨p.length - (i + 1), by omega, i + 1, st, ?_⟩
     ((repeat' with_reducible refine And.intro ?_ ?_)<;> first|exact Xq|exact (HA)|exact Xs)
 ·repeat' (first
 |with_reducible first|apply Xa|apply Xb|(refine Xc ?_;intro κ hκ)|(apply hκ.out;clear hκ κ)|apply Xd|apply Xe|apply Xf
 |((with_reducible first|refine Xl ?_ ?_|refine Xm ?_ ?_|refine Xk ?_ ?_)<;> intro h hari<;> try exact Xp)
 |refine Xr ?_
 |exact True.intro
 |((with_reducible refine Xg ?_);refine Xj ?_)
 |(apply hκ.out;clear hκ κ))
  first | exact ⟨_, rfl, rfl, hK⟩ | exact ⟨_, rfl, hK⟩ | exact ⟨_, rfl, rfl⟩
set_option maxHeartbeats 16000000 in
theorem krenamed_spec (l m : List Tx) (idl idm : Nat) (hlen : l.length = m.length) (hl : l.length ≤ 1000) (h : ∀ (i : Nat) (p q : Tx), l[i]? = some p → m[i]? = some q → RnT p q) (σ : St) : ACalls Tryz.prog 41 [sl idl l.length (l.map str), sl idm m.length (m.map str)] σ fun r σ' => r = sc (.bool true) ∧ Keep σ σ' := by
 have hlb : ((l.length : Int) != (m.length : Int)) = false := by simp [hlen]
 have hm1 : l.length ≤ m.length := by omega
 have hm2 : m.length ≤ l.length := by omega
 have HH : Abs.Hid _ := h
 clear hlen h
 refine acalls 29 [.tmp 4] Tryz.func41 rfl (by decide) rfl rfl (Nat.le_of_ble_eq_true rfl) ?_
 repeat' (first
 |with_reducible first|apply Xa|apply Xb|(refine Xc ?_;intro κ hκ)|(apply hκ.out;clear hκ κ)|apply Xd|apply Xe|apply Xf
 |((with_reducible first|refine Xl ?_ ?_|refine Xm ?_ ?_|refine Xk ?_ ?_)<;> intro h hari<;> try exact Xp)
 |refine Xr ?_
 |exact True.intro
 |((with_reducible refine Xg ?_);refine Xj ?_)
 |(apply hκ.out;clear hκ κ))
 refine awp_loop (fun k s σ' => ∃ (i : Nat), k = l.length - i ∧ i ≤ l.length ∧ s 0 = sl idl l.length (l.map str) ∧ s 1 = sl idm m.length (m.map str) ∧ s 5 = sc (.int .i64 i) ∧ Keep σ σ') l.length
  ⟨0, by omega, by omega, rfl, rfl, rfl, Keep.refl _⟩ ?_
 rintro k s σ' ⟨i, rfl, hi, h0, h1, h5, hK⟩
 have kno := hK.nobj
 by_cases hlt : i < l.length
 ·have hlm : i < m.length := by omega
  have hdl := map_str_get hlt
  have hdm := map_str_get hlm
  have hRn := fun σ => krenames_spec _ _ (HH.out i l[i] m[i] (List.getElem?_eq_getElem hlt) (List.getElem?_eq_getElem hlm)) σ
  generalize l[i] = p at hdl hRn
  generalize m[i] = q at hdm hRn
  repeat' (first
 |with_reducible first|apply Xa|apply Xb|(refine Xc ?_;intro κ hκ)|(apply hκ.out;clear hκ κ)|apply Xd|apply Xe|apply Xf
 |((with_reducible first|refine Xl ?_ ?_|refine Xm ?_ ?_|refine Xk ?_ ?_)<;> intro h hari<;> try exact Xp)
 |refine Xr ?_
 |exact True.intro
 |((with_reducible refine Xg ?_);refine Xj ?_)
 |(apply hκ.out;clear hκ κ))
  refine awp_mono (Q := fun e s' σ'' => e = .normal ∧ s' 6 = sc (.bool true) ∧ s' 0 = s 0 ∧ s' 1 = s 1 ∧ s' 5 = s 5 ∧ Keep σ' σ'') ?_ ?_
  ·refine awp_draw_h follows_mixed (fun _ => True) [] [0, 1, 2, 3, 4, 5, 6, 7] 2 #[true, true, true, true, true, true, true, true, false, false] (by kernel_rfl) (fun _ _ _ h => by cases h.1) ?_; intro κ hκ; refine Xr ?_; refine hκ.out _ ?_; clear hκ κ
   refine uany_one (i := 8) (by kernel_rfl) ?_; refine aOne_k ?_; intro κ hκ; refine Xr ?_
   refine ACalls.mono (hRn _) ?_
   rintro _ σ5 ⟨rfl, hK5⟩
   refine Xr ?_
   refine hκ.out _ _ ⟨kept_keep hK5, ?_⟩; clear hκ κ
   refine uany_rest [9] (by kernel_rfl) (by kernel_rfl) (fun _ _ _ h => by cases h.1) hK5.nobj (fun o ho _ => hK5.ver o ho) ?_
   intro κ hκ
   refine Xr ?_
   refine hκ.out _ _ ⟨rfl, ?_⟩
   simp [upd, hK5]
  ·rintro e s' σ'' ⟨rfl, g6, g0, g1, g5, hK6⟩
   rw [h0] at g0
   rw [h1] at g1
   rw [h5] at g5
   have hKz := hK.trans hK6
   clear h0 h1 h5 hK hK6
   repeat' (first
 |with_reducible first|apply Xa|apply Xb|(refine Xc ?_;intro κ hκ)|(apply hκ.out;clear hκ κ)|apply Xd|apply Xe|apply Xf
 |((with_reducible first|refine Xl ?_ ?_|refine Xm ?_ ?_|refine Xk ?_ ?_)<;> intro h hari<;> try exact Xp)
 |refine Xr ?_
 |exact True.intro
 |((with_reducible refine Xg ?_);refine Xj ?_)
 |(apply hκ.out;clear hκ κ))
   refine ⟨l.length - (i + 1), by omega, i + 1, ?_⟩
   ((repeat' with_reducible refine And.intro ?_ ?_)<;> first|exact Xq|exact (hKz)|exact Xs)
 ·repeat' (first
 |with_reducible first|apply Xa|apply Xb|(refine Xc ?_;intro κ hκ)|(apply hκ.out;clear hκ κ)|apply Xd|apply Xe|apply Xf
 |((with_reducible first|refine Xl ?_ ?_|refine Xm ?_ ?_|refine Xk ?_ ?_)<;> intro h hari<;> try exact Xp)
 |refine Xr ?_
 |exact True.intro
 |((with_reducible refine Xg ?_);refine Xj ?_)
 |(apply hκ.out;clear hκ κ))
  first | exact ⟨_, rfl, rfl, hK⟩ | exact ⟨_, rfl, hK⟩ | exact ⟨_, rfl, rfl⟩
end Go.Proofs.YtmoeoppbmhfbpaaGreatDoorX
