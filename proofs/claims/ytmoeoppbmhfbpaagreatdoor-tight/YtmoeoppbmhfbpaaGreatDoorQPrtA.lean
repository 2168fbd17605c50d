import Derived.Test.YtmoeoppbmhfbpaaGreatDoorQProgR
/- The document's own answer: Print. -/
namespace Go.Proofs.YtmoeoppbmhfbpaaGreatDoorQ
open Go.Abs
set_option linter.unusedSimpArgs false
set_option linter.unusedVariables false
set_option maxRecDepth 100000
def whichL (l : List Tx) (s : Tx) : Int := if s ∈ l then ((l.idxOf s : Nat) : Int) else -1
def ordF (acc : List Tx) (t : Tx) : List Tx := if variableB t = true ∧ t ∉ acc then acc ++ [t] else acc
def ordT (acc : List Tx) (ts : List Tx) : List Tx := ts.foldl ordF acc
def ordL (x : RItem) : List Tx := ordT [] ((atomsL x).flatMap (·.terms))
theorem ordT_len (ts : List Tx) : ∀ acc, (ordT acc ts).length ≤ acc.length + ts.length := by
 induction ts with
 | nil => intro acc; simp [ordT]
 | cons t ts ih =>
  intro acc
  have := ih (ordF acc t)
  have h2 : (ordF acc t).length ≤ acc.length + 1 := by unfold ordF; split <;> simp
  simp only [ordT, List.foldl_cons, List.length_cons] at *
  omega
theorem ordT_snoc (acc ts : List Tx) (t : Tx) : ordT acc (ts ++ [t]) = ordF (ordT acc ts) t := by simp [ordT]
/-! ### Written -/
def letB (k : Int) : UInt8 := UInt8.ofNat (IntKind.u8.wrap (IntKind.i64.wrap (65 + Int.tmod k 26))).toNat
def wrT (l : List Tx) (t : Tx) : Tx := if variableB t = true then [letB (whichL l t)] else t
def wrS (k : Nat) : Tx := if k = 0 then [40] else [44]
def wrTs (l : List Tx) : Nat → List Tx → Tx
 | _, [] => []
 | k, t :: ts => wrS k ++ wrT l t ++ wrTs l (k + 1) ts
theorem wrTs_snoc (l : List Tx) : ∀ (ts : List Tx) (k : Nat) (t : Tx), wrTs l k (ts ++ [t]) = wrTs l k ts ++ (wrS (k + ts.length) ++ wrT l t)
 | [], k, t => by simp [wrTs]
 | u :: ts, k, t => by
  rw [List.cons_append, wrTs, wrTs_snoc l ts (k + 1) t, wrTs]
  simp only [List.append_assoc, List.length_cons]
  rw [show k + 1 + ts.length = k + (ts.length + 1) by omega]
def writeL (l : List Tx) (a : RAtom) : Tx := (if a.nt = true then [33] else []) ++ a.pred ++ wrTs l 0 a.terms ++ [41]
def short (a : RAtom) : Prop := a.pred.length ≤ 1000 ∧ a.terms.length ≤ 1000 ∧ ∀ t ∈ a.terms, t.length ≤ 1000
theorem wrT_len (l : List Tx) (t : Tx) (h : t.length ≤ 1000) : (wrT l t).length ≤ 1000 := by unfold wrT; split <;> simp [h]
theorem wrTs_len (l : List Tx) : ∀ (ts : List Tx) (k : Nat), (∀ t ∈ ts, t.length ≤ 1000) → (wrTs l k ts).length ≤ ts.length * 1001
 | [], k, h => by simp [wrTs]
 | t :: ts, k, h => by
  have h1 := wrT_len l t (h t (by simp))
  have h2 := wrTs_len l ts (k + 1) fun u hu => h u (by simp [hu])
  have h3 : (wrS k).length = 1 := by unfold wrS; split <;> rfl
  simp only [wrTs, List.length_append, List.length_cons]
  omega
/- The document's own answer: Print, whole. -/
def wrB (j : Nat) : Tx := if j = 0 then [58, 45] else [44]
def wrBs (l : List Tx) : Nat → List RAtom → Tx
 | _, [] => []
 | j, a :: ls => wrB j ++ writeL l a ++ wrBs l (j + 1) ls
theorem wrBs_snoc (l : List Tx) : ∀ (ls : List RAtom) (j : Nat) (a : RAtom), wrBs l j (ls ++ [a]) = wrBs l j ls ++ (wrB (j + ls.length) ++ writeL l a)
 | [], j, a => by simp [wrBs]
 | b :: ls, j, a => by
  rw [List.cons_append, wrBs, wrBs_snoc l ls (j + 1) a, wrBs]
  simp only [List.append_assoc, List.length_cons]
  rw [show j + 1 + ls.length = j + (ls.length + 1) by omega]
theorem writeL_len {l : List Tx} {a : RAtom} (h : short a) : (writeL l a).length ≤ 1002003 := by
 obtain ⟨h1, h2, h3⟩ := h
 have h4 := wrTs_len l a.terms 0 h3
 have h5 : (if a.nt = true then ([33] : Tx) else []).length ≤ 1 := by split <;> simp
 simp only [writeL, List.length_append, List.length_singleton]
 omega
theorem wrB_len (j : Nat) : (wrB j).length ≤ 2 := by unfold wrB; split <;> simp
def writtenL (x : RItem) : Tx := if x.out = true then 63 :: x.head.pred ++ [46] else writeL (ordL x) x.head ++ wrBs (ordL x) 0 x.body ++ [46]
def RItem.short (x : RItem) : Prop := Go.Proofs.YtmoeoppbmhfbpaaGreatDoorQ.short x.head ∧ ∀ a ∈ x.body, Go.Proofs.YtmoeoppbmhfbpaaGreatDoorQ.short a
theorem atoms_terms {x : RItem} (hx : x.fits) : ((atomsL x).flatMap (·.terms)).length ≤ 1001 * 1000 := by
 have h1 := hx.atoms
 have hat : ∀ a ∈ atomsL x, a.terms.length ≤ 1000 := by
  intro a ha
  unfold atomsL at ha
  rcases List.mem_append.1 ha with h | h
  ·split at h
   ·cases h
   ·simp at h; subst h; exact hx.2.1
  ·exact hx.2.2 a h
 generalize atomsL x = ls at h1 hat
 have : (ls.flatMap (·.terms)).length ≤ ls.length * 1000 := by
  clear h1
  induction ls with
  | nil => simp
  | cons a ls ih =>
   have h2 := ih fun b hb => hat b (by simp [hb])
   have h3 := hat a (by simp)
   simp only [List.flatMap_cons, List.length_append, List.length_cons]
   omega
 omega
theorem ordL_len {x : RItem} (hx : x.fits) : (ordL x).length ≤ 10000000 := by
 have h1 := ordT_len ((atomsL x).flatMap (·.terms)) []
 have h2 := atoms_terms hx
 unfold ordL
 rw [List.length_nil, Nat.zero_add] at h1
 omega
def wholeL (l : List RItem) : Tx := l.flatMap writtenL
theorem wrBs_len {l : List Tx} : ∀ (ls : List RAtom) (j : Nat), (∀ a ∈ ls, short a) → (wrBs l j ls).length ≤ ls.length * 1002010
 | [], j, h => by simp [wrBs]
 | a :: ls, j, h => by
  have h1 := writeL_len (l := l) (h a (by simp))
  have h2 := wrBs_len (l := l) ls (j + 1) fun b hb => h b (by simp [hb])
  have h3 := wrB_len j
  simp only [wrBs, List.length_append, List.length_cons]
  omega
theorem writtenL_len {x : RItem} (hx : x.fits) (hs : x.short) : (writtenL x).length ≤ 1100000000 := by
 have h1 := writeL_len (l := ordL x) hs.1
 have h2 := wrBs_len (l := ordL x) x.body 0 hs.2
 have h3 := hx.1
 have h4 := hs.1.1
 unfold writtenL
 split
 ·simp; omega
 ·simp only [List.length_append, List.length_singleton]; omega
/- The document's Print of a text. -/
theorem uMore_mem {ts : List Tx} {t : Tx} (h : t ∈ ts) : t.length ≤ (uMore ts).length := by
 induction ts with
 | nil => cases h
 | cons u ts ih =>
  unfold uMore at *
  simp only [List.flatMap_cons, List.length_append, List.length_cons]
  rcases List.mem_cons.1 h with rfl | h
  ·omega
  ·have := ih h; omega
theorem uList_mem {ts : List Tx} {t : Tx} (h : t ∈ ts) : t.length ≤ (uList ts).length := by
 cases ts with
 | nil => cases h
 | cons u ts =>
  unfold uList
  simp only [List.length_append]
  rcases List.mem_cons.1 h with rfl | h
  ·omega
  ·have := uMore_mem h; omega
theorem uAtom_short {a : RAtom} (hw : a.terms.length ≤ 3) (h : (uAtom a).length ≤ 1000) : short a := by
 unfold uAtom at h
 simp only [List.length_append, List.length_cons] at h
 refine ⟨by omega, by omega, fun t ht => ?_⟩
 have := uList_mem ht
 omega
theorem uItem_short {x : RItem} (hw : WItem x) (h : (uItem x).length ≤ 1000) : x.short := by
 obtain ⟨-, h2, h3⟩ := hw
 unfold uItem at h
 cases ho : x.out with
 | true =>
  rw [if_pos ho] at h
  obtain ⟨-, q1, q2⟩ := h2 ho
  simp only [List.length_cons] at h
  exact ⟨⟨by omega, by simp [q1], by simp [q1]⟩, by simp [q2]⟩
 | false =>
  rw [if_neg (by rw [ho]; simp)] at h
  obtain ⟨q1, -, q2, q3⟩ := h3 ho
  unfold uRule at h
  simp only [List.length_append] at h
  refine ⟨uAtom_short q1.2.2.1 (by omega), fun a ha => ?_⟩
  have hne : x.body ≠ [] := by intro e; rw [e] at ha; cases ha
  rw [if_neg hne] at h
  simp only [List.length_cons] at h
  have hm := uList_mem (List.mem_map_of_mem (f := uLit) ha)
  have hl : (uAtom a).length ≤ (uLit a).length := by unfold uLit; simp
  exact uAtom_short (q3 a ha).2.2.1 (by omega)
theorem uItems_mem {l : List RItem} {x : RItem} (h : x ∈ l) : (uItem x).length ≤ (uItems l).length := by
 induction l with
 | nil => cases h
 | cons y l ih =>
  unfold uItems at *
  simp only [List.flatMap_cons, List.length_append]
  rcases List.mem_cons.1 h with rfl | h
  ·omega
  ·have := ih h; omega
theorem parse_short {s : Tx} {l : List RItem} {r : Tx} (hs : s.length ≤ 1000) (h : pItems 16 s = .got l r) : ∀ x ∈ l, x.short := by
 obtain ⟨h1, -, -, h4⟩ := pItems_took _ _ _ _ h
 intro x hx
 have := uItems_mem hx
 rw [← h1] at this
 exact uItem_short (h4 x hx) (by omega)
/- The program: variables in their order. -/
def encI (t : Tx) : AV := sc (.int .i64 (encT t).2)
theorem map_enc_get {l : List Tx} {k : Nat} (h : k < l.length) : (l.map encI).drop k = sc (.int .i64 (encT l[k]).2) :: (l.map encI).drop (k + 1) := by
 rw [List.drop_eq_getElem_cons (by simpa using h)]; simp [encI]
def VL (l : List Tx) : Prop := ∀ t ∈ l, VT t ∧ variableB t = true
theorem enc_inj {t u : Tx} (ht : VT t) (hu : VT u) (vt : variableB t = true) (vu : variableB u = true) (h : (encT t).2 = (encT u).2) : t = u := by
 have := hit_eq ht hu vu
 unfold hitT at this
 rw [enc_var ht, vt, h] at this
 simpa using this.symm
set_option maxHeartbeats 4000000 in
theorem placeOf_spec (l : List Tx) (ids : Nat) (t : Tx) (hl : l.length ≤ 10000000) (hL : VL l) (ht : VT t) (hv : variableB t = true) (σ : St) : ACalls Tryz.prog 79 [sc (.int .i64 (encT t).2), sl ids l.length (l.map encI)] σ fun x σ' => x = sc (.int .i64 (whichL l t)) ∧ σ' = σ := by
 have hinj : ∀ u ∈ l, (encT u).2 = (encT t).2 → u = t := fun u hu h => enc_inj (hL u hu).1 ht (hL u hu).2 hv h
 generalize hte : (encT t).2 = v at hinj
 have HTE : Abs.Hid _ := hte
 clear hte
 refine acalls 19 [.tmp 4] Tryz.func79 rfl (by decide) rfl rfl (Nat.le_of_ble_eq_true rfl) ?_
 repeat' (first
 |with_reducible first|apply Xa|apply Xb|(refine Xc ?_;intro κ hκ)|(apply hκ.out;clear hκ κ)|apply Xd|apply Xe|apply Xf
 |((with_reducible first|refine Xl ?_ ?_|refine Xk ?_ ?_)<;> intro h hari<;> try exact Xp)
 |refine Xr ?_
 |exact True.intro
 |(apply hκ.out;clear hκ κ))
 refine awp_loop (fun m s' σ' => ∃ i : Nat, m = l.length - i ∧ i ≤ l.length ∧ s' 0 = sc (.int .i64 v) ∧ s' 7 = sl ids l.length (l.map encI) ∧ s' 8 = sc (.int .i64 l.length) ∧ s' 9 = sc (.int .i64 i) ∧ σ' = σ ∧ Abs.Hid (∀ a, a < i → l[a]? ≠ some t)) l.length
  ⟨0, by omega, by omega, rfl, rfl, rfl, rfl, rfl, fun a ha => by omega⟩ ?_
 rintro m s' σ' ⟨i, rfl, hi, h0, h7, h8, h9, hσ, hno⟩
 subst hσ
 by_cases hlt : i < l.length
 ·have hts := map_enc_get hlt
  have HX : Abs.Hid (l[i]? = some l[i]) := List.getElem?_eq_getElem hlt
  have hiw := hinj l[i] (List.getElem_mem hlt)
  generalize l[i] = w at hts HX hiw
  generalize hwe : (encT w).2 = vw at hts hiw
  have HWE : Abs.Hid _ := hwe
  have HIW : Abs.Hid _ := hiw
  clear hwe hiw hinj
  repeat' (first
 |with_reducible first|apply Xa|apply Xb|(refine Xc ?_;intro κ hκ)|(apply hκ.out;clear hκ κ)|apply Xd|apply Xe|apply Xf
 |((with_reducible first|refine Xl ?_ ?_|refine Xk ?_ ?_)<;> intro h hari<;> try exact Xp)
 |refine Xr ?_
 |exact True.intro
 |(apply hκ.out;clear hκ κ))
  ·have hw : w = t := HIW.out (by simpa using h)
   have hmem : t ∈ l := by rw [← hw]; exact List.mem_of_getElem? HX.out
   exact ⟨_, rfl, by rw [whichL, if_pos hmem, idx_first hno.out (by rw [HX.out, hw])]⟩
  ·have hw : w ≠ t := by
    rintro rfl
    have : vw = v := by rw [← HWE.out, ← HTE.out]
    simp [this] at h
   refine ⟨l.length - (i + 1), by omega, i + 1, rfl, by omega, by simp, ?_⟩
   intro a ha
   by_cases hai : a = i
   ·subst hai; rw [HX.out]; simpa using hw
   ·exact hno.out a (by omega)
 ·have hil : i = l.length := by omega
  subst hil
  have hnm := not_mem_of hno.out
  clear hinj
  repeat' (first
 |with_reducible first|apply Xa|apply Xb|(refine Xc ?_;intro κ hκ)|(apply hκ.out;clear hκ κ)|apply Xd|apply Xe|apply Xf
 |((with_reducible first|refine Xl ?_ ?_|refine Xk ?_ ?_)<;> intro h hari<;> try exact Xp)
 |refine Xr ?_
 |exact True.intro
 |(apply hκ.out;clear hκ κ))
  exact ⟨_, rfl, by rw [whichL, if_neg hnm]⟩
theorem VL_ordF {l : List Tx} {t : Tx} (h : VL l) (ht : VT t) : VL (ordF l t) := by
 unfold ordF
 split
 ·rename_i hc
  intro u hu
  rcases List.mem_append.1 hu with hu | hu
  ·exact h u hu
  ·simp at hu; subst hu; exact ⟨ht, hc.1⟩
 ·exact h
set_option maxHeartbeats 16000000 in
theorem variablesOf_spec (N : List Tx) (ls : List RAtom) (cs : List AV) (ida : Nat) (hE : EL (PC N) ls cs) (hV : ∀ a ∈ ls, VA a) (hn : ls.length ≤ 1001) (hat : ∀ a ∈ ls, a.terms.length ≤ 1000) (σ : St) :
  ACalls Tryz.prog 111 [sl ida ls.length cs] σ fun r σ' => ∃ id, r = sl id (ordT [] (ls.flatMap (·.terms))).length ((ordT [] (ls.flatMap (·.terms))).map encI) ∧ VL (ordT [] (ls.flatMap (·.terms))) ∧ Keep σ σ' := by
 have hcl := EL.length PC_len hE
 refine acalls 39 [.tmp 2] Tryz.func111 rfl (by decide) rfl rfl (Nat.le_of_ble_eq_true rfl) ?_
 repeat' (first
 |with_reducible first|apply Xa|apply Xb|(refine Xc ?_;intro κ hκ)|(apply hκ.out;clear hκ κ)|apply Xd|apply Xe|apply Xf
 |((with_reducible first|refine Xl ?_ ?_|refine Xk ?_ ?_)<;> intro h hari<;> try exact Xp)
 |((with_reducible refine aapp_go ?_);refine Xt ?_;intro idn σn hOn hKn eobj enobj ever entop)
 |((with_reducible refine aappn_go ?_);refine Xu ?_)
 |refine Xr ?_
 |exact True.intro
 |(apply hκ.out;clear hκ κ))
 refine awp_loop (fun m s σ' => ∃ (j i3 : Nat) (l : List Tx), m = ls.length - j ∧ j ≤ ls.length ∧ s 3 = sl i3 l.length (l.map encI) ∧ s 9 = sl ida ls.length cs ∧ s 10 = sc (.int .i64 ls.length) ∧ s 11 = sc (.int .i64 j) ∧ Keep σ σ' ∧ Own σ σ' i3 l.length ∧ l.length ≤ j * 1000 ∧ Abs.Hid (VL l) ∧ Abs.Hid (l = ordT [] ((ls.take j).flatMap (·.terms)))) ls.length
  ⟨0, 1, [], by omega, by omega, rfl, rfl, rfl, rfl, Keep.refl _, Own.nil _ _, by simp, (fun t ht => by cases ht), by simp [Abs.Hid, ordT]⟩ ?_
 rintro m s σ' ⟨j, i3, l, rfl, hj, h3, h9, h10, h11, hK, hO, hll, hVL, hL⟩
 by_cases hlt : j < ls.length
 ·have hget := List.getElem?_eq_getElem hlt
  have hta := hat ls[j] (List.getElem_mem hlt)
  have hva := hV ls[j] (List.getElem_mem hlt)
  obtain ⟨ha, ia, r, hd⟩ := EL_PC hE hget
  generalize ls[j] = a at hd hget hta ha hva
  have HG : Abs.Hid (ls[j]? = some a) := hget
  have HVA : Abs.Hid (VA a) := hva
  clear hget hva
  have htl := tcells_len a.terms
  have kno := hK.nobj
  repeat' (first
 |with_reducible first|apply Xa|apply Xb|(refine Xc ?_;intro κ hκ)|(apply hκ.out;clear hκ κ)|apply Xd|apply Xe|apply Xf
 |((with_reducible first|refine Xl ?_ ?_|refine Xk ?_ ?_)<;> intro h hari<;> try exact Xp)
 |((with_reducible refine aapp_go ?_);refine Xt ?_;intro idn σn hOn hKn eobj enobj ever entop)
 |((with_reducible refine aappn_go ?_);refine Xu ?_)
 |refine Xr ?_
 |exact True.intro
 |(apply hκ.out;clear hκ κ))
  refine awp_loop (fun m s σ' => ∃ (k i3 : Nat) (l : List Tx), m = a.terms.length - k ∧ k ≤ a.terms.length ∧ s 3 = sl i3 l.length (l.map encI) ∧ s 9 = sl ida ls.length cs ∧ s 10 = sc (.int .i64 ls.length) ∧ s 11 = sc (.int .i64 j) ∧ s 16 = sl ia a.terms.length (tcells a.terms) ∧ s 17 = sc (.int .i64 a.terms.length) ∧ s 18 = sc (.int .i64 k) ∧ Keep σ σ' ∧ Own σ σ' i3 l.length ∧ l.length ≤ j * 1000 + k ∧ Abs.Hid (VL l) ∧ Abs.Hid (l = ordT [] ((ls.take j).flatMap (·.terms) ++ a.terms.take k))) a.terms.length
   ⟨0, i3, l, by omega, by omega, by simp [upd, h3], by simp [upd, h9], by simp [upd, h10], by simp [upd, h11], by simp [upd], rfl, rfl, (hK.new _).put hK.nobj _, Own.put (Own.new hO _) _ _, by omega, hVL, by simpa using hL⟩ ?_
  clear hK hO hL hll hVL h3 h9 h10 h11 kno l
  rintro m s σ' ⟨k, i3, l, rfl, hk, h3, h9, h10, h11, h16, h17, h18, hK, hO, hll, hVL, hL⟩
  have kno := hK.nobj
  by_cases hlt2 : k < a.terms.length
  ·have hget := List.getElem?_eq_getElem hlt2
   have hvw := HVA.out a.terms[k] (List.getElem_mem hlt2)
   obtain ⟨r2, hd2⟩ := tcells_get hget
   generalize a.terms[k] = w at hd2 hget hvw
   have hstep : Abs.Hid (ordT [] ((ls.take j).flatMap (·.terms) ++ a.terms.take (k + 1)) = ordF l w) := by
    rw [Abs.Hid, List.take_add_one, hget, Option.toList_some, ← List.append_assoc, ordT_snoc, ← hL.out]
   have HVN : Abs.Hid (VL (ordF l w)) := VL_ordF hVL.out hvw
   clear hget
   have h1w := enc_var hvw
   cases hv : variableB w with
   | true =>
    rw [hv] at h1w
    rw [h1w] at hd2
    have hP := fun σ => placeOf_spec l i3 w (by omega) hVL.out hvw hv σ
    generalize hw2 : (encT w).2 = w2 at hd2 hP
    have HW2 : Abs.Hid _ := hw2
    clear hw2
    repeat' (first
 |with_reducible first|apply Xa|apply Xb|(refine Xc ?_;intro κ hκ)|(apply hκ.out;clear hκ κ)|apply Xd|apply Xe|apply Xf
 |((with_reducible first|refine Xl ?_ ?_|refine Xk ?_ ?_)<;> intro h hari<;> try exact Xp)
 |((with_reducible refine aapp_go ?_);refine Xt ?_;intro idn σn hOn hKn eobj enobj ever entop)
 |((with_reducible refine aappn_go ?_);refine Xu ?_)
 |((with_reducible refine Xh ?_);refine Xi (hP _) ?_;rintro _ _ ⟨rfl,rfl⟩)
 |refine Xr ?_
 |exact True.intro
 |(apply hκ.out;clear hκ κ))
    ·have hw1 : whichL l w = -1 := by simpa using h
     have hni : w ∉ l := fun hm => by rw [whichL, if_pos hm] at hw1; omega
     have hKx : Keep σ ((σ'.new [sc (.bool false), sc (.int .i64 0)]).put σ'.nobj [sc (.bool true), sc (.int .i64 w2)]) := (hK.new _).put hK.nobj _
     refine aApp_own (by first | exact tez_25) hKx (Own.put (Own.new hO _) _ _) (by decide) (by rfl) (by simp) (by rfl) (by rfl) (by decide) (by omega) (by omega) ?_
     intro idn σn hOn hKn eobj enobj ever entop
     refine Xr ?_
     repeat' (first
 |with_reducible first|apply Xa|apply Xb|(refine Xc ?_;intro κ hκ)|(apply hκ.out;clear hκ κ)|apply Xd|apply Xe|apply Xf
 |((with_reducible first|refine Xl ?_ ?_|refine Xk ?_ ?_)<;> intro h hari<;> try exact Xp)
 |((with_reducible refine aapp_go ?_);refine Xt ?_;intro idn σn hOn hKn eobj enobj ever entop)
 |((with_reducible refine aappn_go ?_);refine Xu ?_)
 |refine Xr ?_
 |exact True.intro
 |(apply hκ.out;clear hκ κ))
     have hof : ordF l w = l ++ [w] := by rw [ordF, if_pos ⟨hv, hni⟩]
     refine ⟨a.terms.length - (k + 1), by omega, k + 1, idn, l ++ [w], rfl, by omega, ?_, by simp, by simpa using hOn, by simp; omega, by rw [← hof]; exact HVN, by rw [Abs.Hid, hstep.out, hof]⟩
     simp [encI, HW2.out]
    ·have hw1 : whichL l w ≠ -1 := by simpa using h
     have hin : w ∈ l := by
      by_cases hm : w ∈ l
      ·exact hm
      ·rw [whichL, if_neg hm] at hw1; exact absurd rfl hw1
     refine ⟨a.terms.length - (k + 1), by omega, k + 1, i3, l, rfl, by omega, rfl, by simp, (hK.new _).put hK.nobj _, Own.put (Own.new hO _) _ _, by omega, hVL, ?_⟩
     rw [Abs.Hid, hstep.out, ordF, if_neg (fun h => h.2 hin)]
   | false =>
    rw [hv] at h1w
    rw [h1w] at hd2
    generalize (encT w).2 = w2 at hd2
    repeat' (first
 |with_reducible first|apply Xa|apply Xb|(refine Xc ?_;intro κ hκ)|(apply hκ.out;clear hκ κ)|apply Xd|apply Xe|apply Xf
 |((with_reducible first|refine Xl ?_ ?_|refine Xk ?_ ?_)<;> intro h hari<;> try exact Xp)
 |((with_reducible refine aapp_go ?_);refine Xt ?_;intro idn σn hOn hKn eobj enobj ever entop)
 |((with_reducible refine aappn_go ?_);refine Xu ?_)
 |refine Xr ?_
 |exact True.intro
 |(apply hκ.out;clear hκ κ))
    refine ⟨a.terms.length - (k + 1), by omega, k + 1, i3, l, rfl, by omega, rfl, by simp, (hK.new _).put hK.nobj _, Own.put (Own.new hO _) _ _, by omega, hVL, ?_⟩
    rw [Abs.Hid, hstep.out, ordF, if_neg (fun h => by rw [hv] at h; cases h.1)]
  ·have hkl : k = a.terms.length := by omega
   subst hkl
   rw [List.take_length] at hL
   repeat' (first
 |with_reducible first|apply Xa|apply Xb|(refine Xc ?_;intro κ hκ)|(apply hκ.out;clear hκ κ)|apply Xd|apply Xe|apply Xf
 |((with_reducible first|refine Xl ?_ ?_|refine Xk ?_ ?_)<;> intro h hari<;> try exact Xp)
 |((with_reducible refine aapp_go ?_);refine Xt ?_;intro idn σn hOn hKn eobj enobj ever entop)
 |((with_reducible refine aappn_go ?_);refine Xu ?_)
 |refine Xr ?_
 |exact True.intro
 |(apply hκ.out;clear hκ κ))
   exact ⟨ls.length - (j + 1), by omega, j + 1, i3, l, rfl, by omega, rfl, by simp, hO, by omega, hVL, by rw [Abs.Hid, List.take_add_one, HG.out]; simpa using hL.out⟩
 ·have hjl : j = ls.length := by omega
  subst hjl
  rw [List.take_length] at hL
  repeat' (first
 |with_reducible first|apply Xa|apply Xb|(refine Xc ?_;intro κ hκ)|(apply hκ.out;clear hκ κ)|apply Xd|apply Xe|apply Xf
 |((with_reducible first|refine Xl ?_ ?_|refine Xk ?_ ?_)<;> intro h hari<;> try exact Xp)
 |((with_reducible refine aapp_go ?_);refine Xt ?_;intro idn σn hOn hKn eobj enobj ever entop)
 |((with_reducible refine aappn_go ?_);refine Xu ?_)
 |refine Xr ?_
 |exact True.intro
 |(apply hκ.out;clear hκ κ))
  rw [← hL.out]
  first | exact ⟨_, rfl, i3, rfl, hVL.out, hK⟩ | exact ⟨_, rfl, i3, rfl, hVL.out⟩
/- The program: an atom with other variables. -/
def rcell (l : List Tx) (t : Tx) : List AV := [sc (.bool (variableB t)), sc (.int .i64 (if variableB t = true then whichL l t else (encT t).2))]
def rcells (l : List Tx) (ts : List Tx) : List AV := ts.flatMap (rcell l)
theorem rcells_len (l ts : List Tx) : (rcells l ts).length = ts.length * 2 := by
 induction ts with
 | nil => rfl
 | cons a ts ih => unfold rcells at *; rw [List.flatMap_cons, List.length_append, ih]; simp [rcell]; omega
theorem rcells_snoc (l ts : List Tx) (x : Tx) : rcells l (ts ++ [x]) = rcells l ts ++ rcell l x := by simp [rcells]
set_option maxHeartbeats 16000000 in
theorem renamed_spec (l : List Tx) (ido : Nat) (kp : Int) (ids : Nat) (a : RAtom) (hl : l.length ≤ 10000000) (hL : VL l) (hV : VA a) (hn : a.terms.length ≤ 1000) (σ : St) :
  ACalls Tryz.prog 105 [ag [sc (.int .i64 kp), sl ids a.terms.length (tcells a.terms)], sl ido l.length (l.map encI)] σ fun r σ' => ∃ id, r = ag [sc (.int .i64 kp), sl id a.terms.length (rcells l a.terms)] ∧ Keep σ σ' := by
 have htl := tcells_len a.terms
 have HVA : Abs.Hid (VA a) := hV
 clear hV
 refine acalls 33 [.cell 4 94] Tryz.func105 rfl (by decide) rfl rfl (Nat.le_of_ble_eq_true rfl) ?_
 repeat' (first
 |with_reducible first|apply Xa|apply Xb|(refine Xc ?_;intro κ hκ)|(apply hκ.out;clear hκ κ)|apply Xd|apply Xe|apply Xf
 |((with_reducible first|refine Xl ?_ ?_|refine Xk ?_ ?_)<;> intro h hari<;> try exact Xp)
 |((with_reducible refine aapp_go ?_);refine Xt ?_;intro idn σn hOn hKn eobj enobj ever entop)
 |((with_reducible refine aappn_go ?_);refine Xu ?_)
 |refine Xr ?_
 |exact True.intro
 |(apply hκ.out;clear hκ κ))
 refine awp_loop (fun m s σ' => ∃ (k i3 : Nat) (xs : List AV), m = a.terms.length - k ∧ k ≤ a.terms.length ∧ s 1 = sl ido l.length (l.map encI) ∧ s 4 = ptr (σ.nobj + 1) 0 ∧ s 5 = ptr (σ.nobj + 2) 0 ∧ s 12 = sl ids a.terms.length (tcells a.terms) ∧ s 13 = sc (.int .i64 a.terms.length) ∧ s 14 = sc (.int .i64 k) ∧ Keep σ σ' ∧ σ.nobj + 2 < σ'.nobj ∧ σ'.obj (σ.nobj + 1) = [sc (.int .i64 0), nilS] ∧ σ'.obj (σ.nobj + 2) = [sc (.int .i64 kp), sl i3 k xs] ∧ Own σ σ' i3 k ∧ xs.length = k * 2 ∧ Abs.Hid (xs = rcells l (a.terms.take k))) a.terms.length
  ⟨0, 1, [], by omega, by omega, by simp [upd, initS], by simp [upd], by simp [upd], by simp [upd], by simp [upd], rfl, ?_, ?_, ?_, ?_, Own.nil _ _, by simp, by simp [Abs.Hid, rcells]⟩ ?_
 ·exact ((((Keep.refl σ).new _).new _).new _).put (by omega) _
 ·simp only [put_nobj, new_nobj]; omega
 ·rw [put_ne (by omega), new_lt (by simp only [new_nobj]; omega), new_at (by rw [new_nobj]; omega) (by rw [new_nobj]; omega)]
 ·rw [show σ.nobj + 2 = σ.nobj + 1 + 1 by omega, put_same]
 rintro m s σ' ⟨k, i3, xs, rfl, hk, h1, h4, h5, h12, h13, h14, hK, hno, hob1, hob2, hO, hxl, hX⟩
 have kno := hK.nobj
 by_cases hlt : k < a.terms.length
 ·have hget := List.getElem?_eq_getElem hlt
  have hvw := HVA.out a.terms[k] (List.getElem_mem hlt)
  obtain ⟨r2, hd2⟩ := tcells_get hget
  generalize a.terms[k] = w at hd2 hget hvw
  have hstep : Abs.Hid (rcells l (a.terms.take (k + 1)) = xs ++ rcell l w) := by
   rw [Abs.Hid, List.take_add_one, hget, Option.toList_some, rcells_snoc, ← hX.out]
  clear hget
  have h1w := enc_var hvw
  cases hv : variableB w with
  | true =>
   rw [hv] at h1w
   rw [h1w] at hd2
   have hP := fun σ => placeOf_spec l ido w hl hL hvw hv σ
   have hrc : Abs.Hid (rcell l w = [sc (.bool true), sc (.int .i64 (whichL l w))]) := by simp [Abs.Hid, rcell, hv]
   generalize (encT w).2 = w2 at hd2 hP
   repeat' (first
 |with_reducible first|apply Xa|apply Xb|(refine Xc ?_;intro κ hκ)|(apply hκ.out;clear hκ κ)|apply Xd|apply Xe|apply Xf
 |((with_reducible first|refine Xl ?_ ?_|refine Xk ?_ ?_)<;> intro h hari<;> try exact Xp)
 |((with_reducible refine aapp_go ?_);refine Xt ?_;intro idn σn hOn hKn eobj enobj ever entop)
 |((with_reducible refine aappn_go ?_);refine Xu ?_)
 |((with_reducible refine Xh ?_);refine Xi (hP _) ?_;rintro _ _ ⟨rfl,rfl⟩)
 |refine Xr ?_
 |exact True.intro
 |(apply hκ.out;clear hκ κ))
   have hKx : Keep σ (((σ'.new [sc (.bool false), sc (.int .i64 0)]).put σ'.nobj [sc (.bool true), sc (.int .i64 w2)]).put σ'.nobj [sc (.bool true), sc (.int .i64 (whichL l w))]) := ((hK.new _).put hK.nobj _).put hK.nobj _
   refine aApp_own (by first | exact tez_92) hKx (Own.put (Own.put (Own.new hO _) _ _) _ _) (by decide) (by rfl) hxl (by rfl) (by rfl) (by decide) (by omega) (by omega) ?_
   intro idn σn hOn hKn eobj enobj ever entop
   simp only [put_nobj, new_nobj] at enobj
   refine Xr ?_
   repeat' (first
 |with_reducible first|apply Xa|apply Xb|(refine Xc ?_;intro κ hκ)|(apply hκ.out;clear hκ κ)|apply Xd|apply Xe|apply Xf
 |((with_reducible first|refine Xl ?_ ?_|refine Xk ?_ ?_)<;> intro h hari<;> try exact Xp)
 |((with_reducible refine aapp_go ?_);refine Xt ?_;intro idn σn hOn hKn eobj enobj ever entop)
 |((with_reducible refine aappn_go ?_);refine Xu ?_)
 |refine Xr ?_
 |exact True.intro
 |(apply hκ.out;clear hκ κ))
   refine ⟨a.terms.length - (k + 1), by omega, k + 1, idn, _, rfl, by omega, by simp, hKn.put (by omega) _, by omega, rfl, Own.put hOn _ _, by simp; omega, ?_⟩
   rw [Abs.Hid, hstep.out, hrc.out]
  | false =>
   rw [hv] at h1w
   rw [h1w] at hd2
   have hrc : Abs.Hid (rcell l w = [sc (.bool false), sc (.int .i64 (encT w).2)]) := by simp [Abs.Hid, rcell, hv]
   generalize (encT w).2 = w2 at hd2 hrc
   repeat' (first
 |with_reducible first|apply Xa|apply Xb|(refine Xc ?_;intro κ hκ)|(apply hκ.out;clear hκ κ)|apply Xd|apply Xe|apply Xf
 |((with_reducible first|refine Xl ?_ ?_|refine Xk ?_ ?_)<;> intro h hari<;> try exact Xp)
 |((with_reducible refine aapp_go ?_);refine Xt ?_;intro idn σn hOn hKn eobj enobj ever entop)
 |((with_reducible refine aappn_go ?_);refine Xu ?_)
 |refine Xr ?_
 |exact True.intro
 |(apply hκ.out;clear hκ κ))
   have hKx : Keep σ ((σ'.new [sc (.bool false), sc (.int .i64 0)]).put σ'.nobj [sc (.bool false), sc (.int .i64 w2)]) := (hK.new _).put hK.nobj _
   refine aApp_own (by first | exact tez_92) hKx (Own.put (Own.new hO _) _ _) (by decide) (by rfl) hxl (by rfl) (by rfl) (by decide) (by omega) (by omega) ?_
   intro idn σn hOn hKn eobj enobj ever entop
   simp only [put_nobj, new_nobj] at enobj
   refine Xr ?_
   repeat' (first
 |with_reducible first|apply Xa|apply Xb|(refine Xc ?_;intro κ hκ)|(apply hκ.out;clear hκ κ)|apply Xd|apply Xe|apply Xf
 |((with_reducible first|refine Xl ?_ ?_|refine Xk ?_ ?_)<;> intro h hari<;> try exact Xp)
 |((with_reducible refine aapp_go ?_);refine Xt ?_;intro idn σn hOn hKn eobj enobj ever entop)
 |((with_reducible refine aappn_go ?_);refine Xu ?_)
 |refine Xr ?_
 |exact True.intro
 |(apply hκ.out;clear hκ κ))
   refine ⟨a.terms.length - (k + 1), by omega, k + 1, idn, _, rfl, by omega, by simp, hKn.put (by omega) _, by omega, rfl, Own.put hOn _ _, by simp; omega, ?_⟩
   rw [Abs.Hid, hstep.out, hrc.out]
 ·have hkl : k = a.terms.length := by omega
  subst hkl
  rw [List.take_length] at hX
  repeat' (first
 |with_reducible first|apply Xa|apply Xb|(refine Xc ?_;intro κ hκ)|(apply hκ.out;clear hκ κ)|apply Xd|apply Xe|apply Xf
 |((with_reducible first|refine Xl ?_ ?_|refine Xk ?_ ?_)<;> intro h hari<;> try exact Xp)
 |((with_reducible refine aapp_go ?_);refine Xt ?_;intro idn σn hOn hKn eobj enobj ever entop)
 |((with_reducible refine aappn_go ?_);refine Xu ?_)
 |refine Xr ?_
 |exact True.intro
 |(apply hκ.out;clear hκ κ))
  exact ⟨_, rfl, i3, by rw [hX.out], hK.put (by omega) _⟩
set_option maxHeartbeats 4000000 in
theorem pvariables_spec (N : List Tx) (x : RItem) (c : List AV) (hc : PI N x c) (ho : x.out = true → x.body = []) (hx : x.fits) (hV : ∀ a ∈ atomsL x, VA a) (σ : St) : ACalls Tryz.prog 66 [ag c] σ fun r σ' => ∃ id, r = sl id (ordL x).length ((ordL x).map encI) ∧ VL (ordL x) ∧ Keep σ σ' := by
 have hA := patoms_spec N x c hc ho (by have := hx.1; omega)
 have hat : ∀ a ∈ atomsL x, a.terms.length ≤ 1000 := by
  intro a ha
  unfold atomsL at ha
  rcases List.mem_append.1 ha with h | h
  ·split at h
   ·cases h
   ·simp at h; subst h; exact hx.2.1
  ·exact hx.2.2 a h
 have hal := hx.atoms
 have hVO := fun cs ida hE σ => variablesOf_spec N (atomsL x) cs ida hE hV hal hat σ
 obtain ⟨hm, ih, id, b, hb, rfl⟩ := hc
 unfold ordL
 generalize ordT [] ((atomsL x).flatMap (·.terms)) = lo at hVO
 refine acalls 6 [.tmp 2] Tryz.func66 rfl (by decide) rfl rfl (Nat.le_of_ble_eq_true rfl) ?_
 repeat' (first
 |with_reducible first|apply Xa|apply Xb|(refine Xc ?_;intro κ hκ)|(apply hκ.out;clear hκ κ)|apply Xd|apply Xe|apply Xf
 |((with_reducible first|refine Xl ?_ ?_|refine Xk ?_ ?_)<;> intro h hari<;> try exact Xp)
 |((with_reducible refine Xh ?_);first|(refine Xi (hA _) ?_;rintro _ _ ⟨ida,cs,rfl,hE,hK1⟩)|(refine Xi (hVO _ _ (by assumption) _) ?_;rintro _ _ ⟨id2,rfl,hVL,hK2⟩))
 |refine Xr ?_
 |exact True.intro
 |(apply hκ.out;clear hκ κ))
 exact ⟨_, rfl, id2, rfl, by exact Xs⟩
end Go.Proofs.YtmoeoppbmhfbpaaGreatDoorQ
