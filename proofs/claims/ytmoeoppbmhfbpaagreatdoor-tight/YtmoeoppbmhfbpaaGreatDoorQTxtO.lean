import Derived.Test.YtmoeoppbmhfbpaaGreatDoorQAwk
import Derived.Test.YtmoeoppbmhfbpaaGreatDoorQCorA
/- Plain texts, walked: the outputs, how many rules a predicate has. -/
namespace Go.Proofs.YtmoeoppbmhfbpaaGreatDoorQ
open Go.Abs
set_option linter.unusedSimpArgs false
set_option linter.unusedVariables false
set_option maxRecDepth 100000
def outsL (P : List Tx) : Tx := (P.filter outB).flatten
theorem outs_step {P : List Tx} {i : Nat} {p : Tx} (h : P[i]? = some p) : outsL (P.take (i + 1)) = outsL (P.take i) ++ if outB p = true then p else [] := by
 unfold outsL
 rw [List.take_add_one, h, Option.toList_some, List.filter_append, List.flatten_append]
 cases hp : outB p <;> simp [hp]
theorem outs_len {P : List Tx} {B : Nat} (h : ∀ p ∈ P, p.length ≤ B) (i : Nat) : (outsL (P.take i)).length ≤ i * B := by
 induction i with
 | zero => simp [outsL]
 | succ i ih =>
  rw [Nat.succ_mul]
  cases hg : P[i]? with
  | none => rw [List.take_add_one, hg, Option.toList_none, List.append_nil]; omega
  | some p =>
   have := h p (List.mem_of_getElem? hg)
   rw [outs_step hg, List.length_append]
   split
   ·omega
   ·simp; omega
set_option maxHeartbeats 16000000 in
theorem koutputs_spec (t : Tx) (ht : t.length ≤ 100000) (hn : (pcsL t).length ≤ 1000) (hp : ∀ p ∈ pcsL t, p.length ≤ 100000) (σ : St) : ACalls Tryz.prog 33 [str t] σ fun r σ' => r = str (outsL (pcsL t)) ∧ Keep σ σ' := by
 have hPc := fun σ => kpieces_spec t ht σ
 have hOu := fun p σ => koutput_spec p σ
 have hc1 : ({ data := #[] } : ByteArray) = bs [] := rfl
 generalize pcsL t = P at *
 refine acalls 26 [.tmp 2] Tryz.func33 rfl (by decide) rfl rfl (Nat.le_of_ble_eq_true rfl) ?_
 repeat' (first
 |with_reducible first|apply Xa|apply Xb|(refine Xc ?_;intro κ hκ)|(apply hκ.out;clear hκ κ)|apply Xd|apply Xe|apply Xf
 |((with_reducible first|refine Xl ?_ ?_|refine Xk ?_ ?_)<;> intro h hari<;> try exact Xp)
 |((with_reducible refine Xh ?_);refine Xi (hPc _) ?_;rintro _ _ ⟨⟨idp,rfl⟩,hK1⟩;(have kno1:=hK1.nobj))
 |refine Xw ?_
 |exact True.intro
 |(apply hκ.out;clear hκ κ))
 rename_i σ1
 refine awp_loop (fun m s σ' => ∃ (i : Nat) (u : Tx), m = P.length - i ∧ i ≤ P.length ∧ s 3 = sl idp P.length (P.map str) ∧ s 4 = str u ∧ s 5 = sc (.int .i64 i) ∧ Keep σ σ' ∧ Abs.Hid (u = outsL (P.take i))) P.length
  ⟨0, [], by omega, by omega, rfl, rfl, rfl, hK1, by simp [Abs.Hid, outsL]⟩ ?_
 clear hK1 kno1
 rintro m s σ2 ⟨i, u, rfl, hi, h3, h4, h5, hK, hU⟩
 have kno := hK.nobj
 by_cases hlt : i < P.length
 ·have hget := List.getElem?_eq_getElem hlt
  have hdr := map_str_get hlt
  generalize P[i] = p at hget hdr
  have hOu := hOu p
  have hul : u.length + p.length ≤ 1099511627776 := by
   have h1 := outs_len hp i
   rw [← hU.out] at h1
   have h2 := hp p (List.mem_of_getElem? hget)
   omega
  have HS : Abs.Hid (outsL (P.take (i + 1)) = u ++ if outB p = true then p else []) := by
   rw [Abs.Hid, outs_step hget, ← hU.out]
  clear hp hget hU
  cases ho : outB p with
  | true =>
   rw [ho] at hOu HS
   have HU : Abs.Hid (u ++ p = outsL (P.take (i + 1))) := by rw [Abs.Hid, HS.out]; rfl
   clear HS
   repeat' (first
 |with_reducible first|apply Xa|apply Xb|(refine Xc ?_;intro κ hκ)|(apply hκ.out;clear hκ κ)|apply Xd|apply Xe|apply Xf
 |((with_reducible first|refine Xl ?_ ?_|refine Xk ?_ ?_)<;> intro h hari<;> try exact Xp)
 |((with_reducible refine Xh ?_);refine Xi (hOu _) ?_;rintro _ _ ⟨rfl,rfl⟩)
 |refine Xw ?_
 |exact True.intro
 |(apply hκ.out;clear hκ κ))
   refine ⟨P.length - (i + 1), by omega, i + 1, u ++ p, ?_⟩
   ((repeat' with_reducible refine And.intro ?_ ?_)<;> first|exact Xq|exact (HU)|exact Xs)
  | false =>
   rw [ho] at hOu HS
   have HU : Abs.Hid (u = outsL (P.take (i + 1))) := by rw [Abs.Hid, HS.out]; simp
   clear HS
   repeat' (first
 |with_reducible first|apply Xa|apply Xb|(refine Xc ?_;intro κ hκ)|(apply hκ.out;clear hκ κ)|apply Xd|apply Xe|apply Xf
 |((with_reducible first|refine Xl ?_ ?_|refine Xk ?_ ?_)<;> intro h hari<;> try exact Xp)
 |((with_reducible refine Xh ?_);refine Xi (hOu _) ?_;rintro _ _ ⟨rfl,rfl⟩)
 |refine Xw ?_
 |exact True.intro
 |(apply hκ.out;clear hκ κ))
   refine ⟨P.length - (i + 1), by omega, i + 1, u, ?_⟩
   ((repeat' with_reducible refine And.intro ?_ ?_)<;> first|exact Xq|exact (HU)|exact Xs)
 ·have hil : i = P.length := by omega
  have hu : u = outsL P := by rw [hU.out, hil, List.take_length]
  rw [hu] at h4
  clear hU hu hp
  generalize outsL P = v at *
  repeat' (first
 |with_reducible first|apply Xa|apply Xb|(refine Xc ?_;intro κ hκ)|(apply hκ.out;clear hκ κ)|apply Xd|apply Xe|apply Xf
 |((with_reducible first|refine Xl ?_ ?_|refine Xk ?_ ?_)<;> intro h hari<;> try exact Xp)
 |refine Xw ?_
 |exact True.intro
 |(apply hκ.out;clear hκ κ))
  first | exact ⟨_, rfl, rfl, hK⟩ | exact ⟨_, rfl, hK⟩ | exact ⟨_, rfl, rfl⟩
def rlsN (q : Tx) (P : List Tx) : Nat := (P.filter fun p => !outB p && hdL p == q).length
theorem rls_step {q : Tx} {P : List Tx} {i : Nat} {p : Tx} (h : P[i]? = some p) : rlsN q (P.take (i + 1)) = rlsN q (P.take i) + if (!outB p && hdL p == q) = true then 1 else 0 := by
 unfold rlsN
 rw [List.take_add_one, h, Option.toList_some, List.filter_append, List.length_append]
 congr 1
 cases hp : (!outB p && hdL p == q) <;> simp [List.filter, hp]
set_option maxHeartbeats 16000000 in
theorem krules_spec (P : List Tx) (ids : Nat) (q : Tx) (hn : P.length ≤ 1000) (hp : ∀ p ∈ P, p.length ≤ 100000 ∧ (prsL p).length ≤ 1000) (σ : St) : ACalls Tryz.prog 37 [sl ids P.length (P.map str), str q] σ fun r σ' => r = sc (.int .i64 (rlsN q P : Nat)) ∧ Keep σ σ' := by
 have hOu := fun p σ => koutput_spec p σ
 have hHe := fun p (hp' : p ∈ P) σ => khead_spec p (hp p hp').1 (by have := (hp p hp').2; omega) σ
 clear hp
 refine acalls 31 [.tmp 4] Tryz.func37 rfl (by decide) rfl rfl (Nat.le_of_ble_eq_true rfl) ?_
 repeat' (first
 |with_reducible first|apply Xa|apply Xb|(refine Xc ?_;intro κ hκ)|(apply hκ.out;clear hκ κ)|apply Xd|apply Xe|apply Xf
 |((with_reducible first|refine Xl ?_ ?_|refine Xk ?_ ?_)<;> intro h hari<;> try exact Xp)
 |refine Xw ?_
 |exact True.intro
 |(apply hκ.out;clear hκ κ))
 refine awp_loop (fun m s σ' => ∃ (i u : Nat), m = P.length - i ∧ i ≤ P.length ∧ u ≤ i ∧ s 0 = sl ids P.length (P.map str) ∧ s 1 = str q ∧ s 5 = sc (.int .i64 u) ∧ s 6 = sc (.int .i64 i) ∧ Keep σ σ' ∧ Abs.Hid (u = rlsN q (P.take i))) P.length
  ⟨0, 0, by omega, by omega, by omega, rfl, rfl, rfl, rfl, Keep.refl _, by simp [Abs.Hid, rlsN]⟩ ?_
 rintro m s σ2 ⟨i, u, rfl, hi, hri, h0, h1, h5, h6, hK, hU⟩
 have kno := hK.nobj
 by_cases hlt : i < P.length
 ·have hget := List.getElem?_eq_getElem hlt
  have hdr := map_str_get hlt
  have hmem := List.getElem_mem hlt
  generalize P[i] = p at hget hdr hmem
  have hOu := hOu p
  have hHe := hHe p hmem
  have HS : Abs.Hid (rlsN q (P.take (i + 1)) = u + if (!outB p && hdL p == q) = true then 1 else 0) := by rw [Abs.Hid, rls_step hget, ← hU.out]
  clear hget hmem hU
  cases ho : outB p with
  | true =>
   rw [ho] at hOu HS
   have HU : Abs.Hid (u = rlsN q (P.take (i + 1))) := by rw [Abs.Hid, HS.out]; simp
   clear HS hHe
   repeat' (first
 |with_reducible first|apply Xa|apply Xb|(refine Xc ?_;intro κ hκ)|(apply hκ.out;clear hκ κ)|apply Xd|apply Xe|apply Xf
 |((with_reducible first|refine Xl ?_ ?_|refine Xk ?_ ?_)<;> intro h hari<;> try exact Xp)
 |((with_reducible refine Xh ?_);refine Xi (hOu _) ?_;rintro _ _ ⟨rfl,rfl⟩)
 |refine Xw ?_
 |exact True.intro
 |(apply hκ.out;clear hκ κ))
   refine ⟨P.length - (i + 1), by omega, i + 1, u, ?_⟩
   ((repeat' with_reducible refine And.intro ?_ ?_)<;> first|exact Xq|exact (HU)|exact Xs)
  | false =>
   rw [ho] at hOu HS
   by_cases hh : hdL p = q
   ·have hhb : (hdL p == q) = true := by simpa using hh
    rw [hhb] at HS
    have HU : Abs.Hid (u + 1 = rlsN q (P.take (i + 1))) := by rw [Abs.Hid, HS.out]; rfl
    clear HS hh
    generalize hdL p = hd0 at *
    repeat' (first
 |with_reducible first|apply Xa|apply Xb|(refine Xc ?_;intro κ hκ)|(apply hκ.out;clear hκ κ)|apply Xd|apply Xe|apply Xf
 |((with_reducible first|refine Xl ?_ ?_|refine Xk ?_ ?_)<;> intro h hari<;> try exact Xp)
 |((with_reducible refine Xh ?_);first|(refine Xi (hOu _) ?_;rintro _ _ ⟨rfl,rfl⟩)|(refine Xi (hHe _) ?_;rintro _ _ ⟨rfl,hK2⟩;(have kno2:=hK2.nobj;have hKz:=hK.trans hK2)))
 |refine Xw ?_
 |exact True.intro
 |(apply hκ.out;clear hκ κ))
    refine ⟨P.length - (i + 1), by omega, i + 1, u + 1, ?_⟩
    ((repeat' with_reducible refine And.intro ?_ ?_)<;> first|exact Xq|exact (hKz)|exact (HU)|exact Xs)
   ·have hhb : (hdL p == q) = false := by simpa using hh
    rw [hhb] at HS
    have HU : Abs.Hid (u = rlsN q (P.take (i + 1))) := by rw [Abs.Hid, HS.out]; simp
    clear HS hh
    generalize hdL p = hd0 at *
    repeat' (first
 |with_reducible first|apply Xa|apply Xb|(refine Xc ?_;intro κ hκ)|(apply hκ.out;clear hκ κ)|apply Xd|apply Xe|apply Xf
 |((with_reducible first|refine Xl ?_ ?_|refine Xk ?_ ?_)<;> intro h hari<;> try exact Xp)
 |((with_reducible refine Xh ?_);first|(refine Xi (hOu _) ?_;rintro _ _ ⟨rfl,rfl⟩)|(refine Xi (hHe _) ?_;rintro _ _ ⟨rfl,hK2⟩;(have kno2:=hK2.nobj;have hKz:=hK.trans hK2)))
 |refine Xw ?_
 |exact True.intro
 |(apply hκ.out;clear hκ κ))
    refine ⟨P.length - (i + 1), by omega, i + 1, u, ?_⟩
    ((repeat' with_reducible refine And.intro ?_ ?_)<;> first|exact Xq|exact (hKz)|exact (HU)|exact Xs)
 ·have hil : i = P.length := by omega
  have hu : u = rlsN q P := by rw [hU.out, hil, List.take_length]
  subst hu
  clear hU
  generalize rlsN q P = v at *
  repeat' (first
 |with_reducible first|apply Xa|apply Xb|(refine Xc ?_;intro κ hκ)|(apply hκ.out;clear hκ κ)|apply Xd|apply Xe|apply Xf
 |((with_reducible first|refine Xl ?_ ?_|refine Xk ?_ ?_)<;> intro h hari<;> try exact Xp)
 |refine Xw ?_
 |exact True.intro
 |(apply hκ.out;clear hκ κ))
  first | exact ⟨_, rfl, rfl, hK⟩ | exact ⟨_, rfl, hK⟩ | exact ⟨_, rfl, rfl⟩
/- Tight: what the pass r leaves has no implied rule beside another of its predicate. Pure. -/
theorem chgR {N : List Tx} {b : Int} {l l' : List RItem} {m m' : Int} (h : Chg N 114 b l m l' m') : m' + l'.length = m + l.length ∧ l'.filter (·.out) = l.filter (·.out) := by
 induction h with
 | refl => exact ⟨rfl, rfl⟩
 | @snoc l1 l2 m1 _ _ hs ih =>
  rcases hs with ⟨h, -⟩ | ⟨h, -⟩ | ⟨-, h⟩
  ·exact absurd h (by decide)
  ·exact absurd h (by decide)
  ·rcases h with ⟨h, -⟩ | ⟨i, y, e, h1, h2, -, -, -⟩
   ·cases h
   ·cases e
    rw [rpl_erase]
    obtain ⟨hi, hy⟩ := List.getElem?_eq_some_iff.1 h1
    refine ⟨?_, ?_⟩
    ·rw [List.length_eraseIdx_of_lt hi]
     have := ih.1
     omega
    ·rw [← ih.2]
     have e : l1 = l1.take i ++ y :: l1.drop (i + 1) := by
      rw [← hy, List.getElem_cons_drop, List.take_append_drop]
     rw [List.eraseIdx_eq_take_drop_succ]
     conv => rhs; rw [e]
     rw [List.filter_append, List.filter_append, List.filter_cons_of_neg (by simp [h2])]
theorem count_items : ∀ {l : List RItem}, (∀ x ∈ l, WItem x) → (uItems l).count 46 = l.length
 | [], _ => rfl
 | x :: l, h => by
  have h1 := count_items (l := l) fun y hy => h y (by simp [hy])
  have h2 := List.count_eq_zero.2 (uItem_dot (h x (by simp)))
  rw [uItems_cons, List.count_append, h1]
  unfold pcT
  rw [List.count_append, h2]
  simp; omega
theorem outs_items {l : List RItem} (h : ∀ x ∈ l, WItem x) : outsL (l.map pcT) = ((l.filter (·.out)).map pcT).flatten := by
 unfold outsL
 congr 1
 exact filter_map_of fun x hx => pc_out (h x hx)
theorem pc_ren_out {x : RItem} (ho : x.out = true) : pcT (ren x) = pcT x := by
 unfold pcT uItem
 rw [if_pos (show (ren x).out = true from ho), if_pos ho]; rfl
theorem map_ren_out : ∀ {l : List RItem}, (∀ x ∈ l, x.out = true) → (l.map ren).map pcT = l.map pcT
 | [], _ => rfl
 | x :: l, h => by
  rw [List.map_cons, List.map_cons, List.map_cons, pc_ren_out (h x (by simp)), map_ren_out fun y hy => h y (by simp [hy])]
theorem filter_ren (l : List RItem) : (l.map ren).filter (·.out) = (l.filter (·.out)).map ren := by
 induction l with
 | nil => rfl
 | cons x l ih =>
  rw [List.map_cons, List.filter_cons, List.filter_cons, ih]
  have : (ren x).out = x.out := rfl
  rw [this]
  split <;> simp
theorem two_of {α : Type} {P : List α} {f : α → Bool} {i : Nat} {p : α} (hp : P[i]? = some p) (h : 1 < (P.filter f).length) : ∃ j q, j ≠ i ∧ P[j]? = some q ∧ f q = true := by
 obtain ⟨hi, hy⟩ := List.getElem?_eq_some_iff.1 hp
 have e : P = P.take i ++ p :: P.drop (i + 1) := by rw [← hy, List.getElem_cons_drop, List.take_append_drop]
 have hl : (P.filter f).length ≤ ((P.take i).filter f).length + (1 + ((P.drop (i + 1)).filter f).length) := by
  conv => lhs; rw [e]
  rw [List.filter_append, List.length_append, List.filter_cons]
  split <;> simp <;> omega
 rcases Nat.lt_or_ge 0 ((P.take i).filter f).length with h1 | h1
 ·obtain ⟨q, hq⟩ := List.exists_mem_of_length_pos h1
  obtain ⟨hq1, hq2⟩ := List.mem_filter.1 hq
  obtain ⟨j, hj⟩ := List.getElem?_of_mem hq1
  have hjl := (List.getElem?_eq_some_iff.1 hj).1
  rw [List.length_take] at hjl
  rw [List.getElem?_take, if_pos (by omega)] at hj
  exact ⟨j, q, by omega, hj, hq2⟩
 ·have h2 : 0 < ((P.drop (i + 1)).filter f).length := by omega
  obtain ⟨q, hq⟩ := List.exists_mem_of_length_pos h2
  obtain ⟨hq1, hq2⟩ := List.mem_filter.1 hq
  obtain ⟨j, hj⟩ := List.getElem?_of_mem hq1
  rw [List.getElem?_drop] at hj
  exact ⟨i + 1 + j, q, by omega, hj, hq2⟩
theorem oth_ren (l : List RItem) (i : Nat) : oth (l.map ren) i (l.map ren).length = (oth l i l.length).map ren := by
 unfold oth
 rw [List.take_length, List.take_length, erase_map]
 generalize l.eraseIdx i = k
 induction k with
 | nil => rfl
 | cons x k ih =>
  rw [List.map_cons, List.filter_cons, List.filter_cons, ih]
  have : (ren x).out = x.out := rfl
  rw [this]
  split <;> simp
theorem lack_less {N : List Tx} {l : List RItem} {i j : Nat} {x y : RItem} (hx : l[i]? = some x) (hy : l[j]? = some y) (hij : j ≠ i) (ho : y.out = false) (hh : y.head.pred = x.head.pred) : lackB N (rpl i [] l) l = false := by
 refine lack_same fun k h => ?_
 unfold ruledN at h ⊢
 obtain ⟨z, hz, h⟩ := List.any_eq_true.1 h
 rw [rpl_erase, List.any_eq_true]
 obtain ⟨n, hn⟩ := List.getElem?_of_mem hz
 by_cases hni : n = i
 ·subst hni
  rw [hx] at hn
  cases hn
  refine ⟨y, mem_erase hy hij, ?_⟩
  simp at h
  simp [ho, hh, h]
 ·exact ⟨z, mem_erase hn hni, h⟩
structure TiA (t T : Tx) (m : Int) : Prop where
 lt : t.length ≤ 600
 lT : T.length ≤ 600
 few : (pcsL t).length ≤ 16 ∧ (pcsL T).length ≤ 16
 sh : ∀ p ∈ pcsL T, p.length ≤ 100000 ∧ (prsL p).length ≤ 1000
 sht : ∀ p ∈ pcsL t, p.length ≤ 100000
 out : outsL (pcsL T) = outsL (pcsL t)
 cnt : ((T.count 46 : Nat) : Int) + m = ((t.count 46 : Nat) : Int)
 rng : 0 ≤ m ∧ m ≤ 1000
 no : ∀ (i : Nat) (p : Tx), (pcsL T)[i]? = some p → outB p = false → ∀ b e, pImpQ T i b e → e = 0 ∧ (b = true → rlsN (hdL p) (pcsL T) ≤ 1)
theorem opt_tight {t : Tx} {r : Tx × Int × Int} (h : pOptR t [114] 1000 r) : (r.1 = [] ∧ r.2.1 = 0 ∧ r.2.2 = (refCheck t).1 ∧ r.2.2 ≠ 0) ∨ (r.2.2 = 0 ∧ TiA t r.1 r.2.1) := by
 unfold pOptR at h
 split at h
 ·rename_i he
  exact .inl (by rw [h]; exact ⟨rfl, rfl, rfl, he⟩)
 ·rename_i he
  rw [if_neg (by decide), if_neg (by omega)] at h
  obtain ⟨N, l, cs, ar, l', m, hR, hA, hRl, hP, rfl⟩ := h
  refine .inr ⟨rfl, ?_⟩
  have htook := pItems_took _ _ _ _ hR.parse
  have ht : t = uItems l := htook.1
  have hs : ∀ x ∈ l, safeB x = true := fun x hx => right_safe hR.ok x (by rw [hR.items]; exact hx)
  have hPa := pss_one hP
  have hS := (hP.sd (hR.rt hA) (Sd.refl hs)).2
  have hc := chgR hPa.1
  have h16 := hR.bk.len
  have h16' := hRl.gl.len
  have hll := hS.len
  have hno : noRl N l' l'.length := by
   rcases hPa.2 with h | h
   ·have h3 := hc.1
    omega
   ·rcases h with ⟨h, -⟩ | ⟨h, -⟩ | ⟨-, h⟩
    ·exact absurd h (by decide)
    ·exact absurd h (by decide)
    ·rcases h with ⟨-, h⟩ | ⟨i, y, e, -⟩
     ·exact h
     ·cases e
  obtain ⟨hchk, hitm⟩ := again_right hR hA hS hRl
  have hpt : pcsL t = l.map pcT := by rw [ht]; exact pcs_items hR.wit
  have hu := whole_u hRl.wit
  have hwr : ∀ y ∈ l'.map ren, WItem y := fun y hy => by
   obtain ⟨z, hz, rfl⟩ := List.mem_map.1 hy
   exact ren_WItem (hRl.wit z hz) (hRl.wi z hz)
  have hpT : pcsL (wholeL l') = (l'.map ren).map pcT := by rw [hu]; exact pcs_items hwr
  have hlt := hR.len
  have hlT : (wholeL l').length ≤ 600 := by
   rw [hu]
   have h1 := uItems_le l' hRl.wit
   have h2 := hS.ulen
   have h3 := hR.len
   rw [ht] at h3
   omega
  have hc1 := hc.1
  refine ⟨hR.len, hlT, ⟨by rw [hpt, List.length_map]; exact h16, by simp only; rw [hpT]; simpa using h16'⟩, ?_, ?_, ?_, ?_, ⟨by simp only; omega, by simp only; omega⟩, ?_⟩
  ·simp only
   rw [hpT]
   intro p hp
   obtain ⟨y, hy, rfl⟩ := List.mem_map.1 hp
   have hle := piece_le _ y hy
   rw [← hu] at hle
   refine ⟨by omega, ?_⟩
   unfold pcT
   rw [prs_item (hwr y hy)]
   obtain ⟨x, hx, rfl⟩ := List.mem_map.1 hy
   have := hRl.b5 x hx
   simp [ren]; omega
  ·rw [hpt]
   intro p hp
   obtain ⟨y, hy, rfl⟩ := List.mem_map.1 hp
   have hle := piece_le _ y hy
   rw [← ht] at hle
   omega
  ·simp only
   rw [hpT, hpt, outs_items hwr, outs_items hR.wit, filter_ren, map_ren_out fun x hx => by simpa using (List.mem_filter.1 hx).2, hc.2]
  ·simp only
   rw [hu, ht, count_items hwr, count_items hR.wit, List.length_map]
   omega
  ·simp only
   intro i p hp hop b e hq
   rw [hpT] at hp
   simp only [List.getElem?_map, Option.map_eq_some_iff] at hp
   obtain ⟨y, ⟨x, hx, rfl⟩, rfl⟩ := hp
   have hxm := List.mem_of_getElem? hx
   have hrm : ren x ∈ l'.map ren := List.mem_map.2 ⟨x, hxm, rfl⟩
   have ho : x.out = false := by
    rw [pc_out (hwr _ hrm)] at hop; exact hop
   unfold pImpQ at hq
   rw [hchk, if_neg (by simp)] at hq
   obtain ⟨N2, l2, cs2, hR2, hq⟩ := hq
   have hl2 : l2 = l'.map ren := by rw [← hR2.items, hitm]
   have hx2 : l2[(i : Int).toNat]? = some (ren x) := by rw [hl2, Int.toNat_natCast, List.getElem?_map, hx]; rfl
   rcases hq with ⟨hq, -⟩ | ⟨y, -, hy, -, hi, he0⟩
   ·unfold hasRuleB at hq
    rw [if_pos (by omega), hx2] at hq
    simp [ren, ho] at hq
   ·refine ⟨he0, fun hb => ?_⟩
    subst hb
    rw [hx2] at hy
    cases hy
    refine Nat.le_of_not_lt fun hcnt => ?_
    rw [hpT, pc_hd (hwr _ hrm)] at hcnt
    obtain ⟨j, q, hji, hj, hq⟩ := two_of (P := (l'.map ren).map pcT) (i := i) (p := pcT (ren x)) (by simp [hx]) hcnt
    simp only [List.getElem?_map, Option.map_eq_some_iff] at hj
    obtain ⟨z', ⟨z, hz, rfl⟩, rfl⟩ := hj
    have hzm := List.mem_of_getElem? hz
    have hzr : ren z ∈ l'.map ren := List.mem_map.2 ⟨z, hzm, rfl⟩
    simp only [Bool.and_eq_true, Bool.not_eq_true', beq_iff_eq] at hq
    rw [pc_out (hwr _ hzr), pc_hd (hwr _ hzr)] at hq
    have hlk := lack_less (N := N) hx hz hji hq.1 hq.2
    have hRe := hRl.less i
    have hSe : Sd l (rpl i [] l') := hS.sub (fun x hx => by
     rcases rpl_mem hx with h | h
     ·exact h
     ·cases h) (rpl_none_len _) (by rw [rpl_erase]; exact uItems_erase _ _)
    have hbh := beh_sd (l1 := l') hR hA hRe hSe hlk
    have hf := hno i x (List.getElem?_eq_some_iff.1 hx).1 hx ho hbh
    obtain ⟨ar2, hA2⟩ := ar_ex hR2.ok
    rw [hR2.items] at hA2
    unfold impP at hf hi
    rw [Int.toNat_natCast, hl2, oth_ren] at hi
    have hS2 : SysI N2 ar2 ((oth l' i l'.length).map ren) (ren x) := ⟨fun y hy => by
     rw [← oth_ren, ← hl2] at hy
     exact ru_of hR2 hA2 (oth_mem hy).1 (oth_mem hy).2, ru_of hR2 hA2 (List.mem_of_getElem? hx2) ho⟩
    have := imp_ren (ar := ar) ⟨fun y hy => hRl.ru y (oth_mem hy).1 (oth_mem hy).2, hRl.ru x hxm ho⟩ hS2 (fun y hy => hRl.xr (oth_mem hy).1 (oth_mem hy).2) (hRl.xr hxm ho) hf hi
    cases this
/- Tight, walked. -/
set_option maxHeartbeats 32000000 in
theorem tight_spec (t : Tx) (σ : St) : ACalls Tryz.prog 12 [str t] σ fun r σ' => r = sc (.bool true) ∧ Keep σ σ' := by
 have hAw := fun σ => kawake_spec σ
 have hOp := fun σ => pOptimise_spec t [114] 1000 (by omega) (by intro c hc; simp at hc; exact .inr (.inr hc)) σ
 have hRf := fun σ => krefused_spec t σ
 have hc1 : ({ data := #[114] } : ByteArray) = bs [114] := rfl
 refine acalls 75 [.tmp 2] Tryz.func12 rfl (by decide) rfl rfl (Nat.le_of_ble_eq_true rfl) ?_
 repeat' (first
 |with_reducible first|apply Xa|apply Xb|(refine Xc ?_;intro κ hκ)|(apply hκ.out;clear hκ κ)|apply Xd|apply Xe|apply Xf
 |((with_reducible first|refine Xl ?_ ?_|refine Xk ?_ ?_)<;> intro h hari<;> try exact Xp)
 |((with_reducible refine Xh ?_);refine Xi (hAw _) ?_;rintro _ _ ⟨rfl,hK1⟩;(have kno1:=hK1.nobj))
 |refine Xr ?_
 |exact True.intro
 |(apply hκ.out;clear hκ κ))
 rename_i σ1
 refine ACalls.mono (hOp _) ?_
 rintro _ σ2 ⟨⟨T, m, e⟩, rfl, hp, hK2⟩
 have hKa := hK1.trans hK2
 clear hAw hOp hK1 hK2 kno1
 rcases opt_tight hp with ⟨hp1, hp2, hp3, hp4⟩ | ⟨hp2, hA⟩
 ·simp only at hp1 hp2 hp3 hp4
  subst hp1; subst hp2; subst hp3
  have heb : ((refCheck t).1 != 0) = true := by simpa using hp4
  clear hp hp4
  generalize (refCheck t).1 = e0 at *
  refine Xr ?_
  repeat' (first
 |with_reducible first|apply Xa|apply Xb|(refine Xc ?_;intro κ hκ)|(apply hκ.out;clear hκ κ)|apply Xd|apply Xe|apply Xf
 |((with_reducible first|refine Xl ?_ ?_|refine Xk ?_ ?_)<;> intro h hari<;> try exact Xp)
 |((with_reducible refine Xh ?_);refine Xi (hRf _) ?_;rintro _ _ ⟨rfl,hK3⟩;(have hKz:=hKa.trans hK3))
 |refine Xr ?_
 |exact True.intro
 |(apply hκ.out;clear hκ κ))
  first | exact ⟨_, rfl, rfl, hKz⟩ | exact ⟨_, rfl, rfl⟩ | exact ⟨_, rfl, hKz⟩
 ·simp only at hp2 hA
  subst hp2
  clear hp hRf
  have hlt := hA.lt
  have hlT := hA.lT
  have hPT := fun σ => kpieces_spec T (by omega) σ
  have hOT := fun σ => koutputs_spec T (by omega) (by have := hA.few; omega) (fun p hp => (hA.sh p hp).1) σ
  have hOt := fun σ => koutputs_spec t (by omega) (by have := hA.few; omega) hA.sht σ
  have hCT := fun σ => kcount_spec T 46 (by omega) σ
  have hCt := fun σ => kcount_spec t 46 (by omega) σ
  have hIm := fun (i : Nat) σ => pImpliedQ_spec T i σ
  rw [← hA.out] at hOt
  rw [← hA.cnt] at hCt
  have hno : Abs.Hid _ := hA.no
  have hsh := hA.sh
  have hRu := fun ids q σ => krules_spec (pcsL T) ids q (by have := hA.few; omega) hA.sh σ
  have hrng := hA.rng
  have hcT : T.count 46 ≤ T.length := List.count_le_length
  have hfew := hA.few.2
  clear hA
  generalize T.count 46 = cT at *
  generalize pcsL T = R at *
  generalize outsL R = oR at *
  have h46 : ((46 : UInt8).toNat : Int) = 46 := rfl
  simp only [h46] at hCT hCt
  have hkne : (((0 : Int)) != 0) = false := rfl
  have hoo : (oR != oR) = false := by simp
  have hcc : (((cT : Int) + m) != ((cT : Int) + m)) = false := by simp
  refine Xr ?_
  repeat' (first
 |with_reducible first|apply Xa|apply Xb|(refine Xc ?_;intro κ hκ)|(apply hκ.out;clear hκ κ)|apply Xd|apply Xe|apply Xf
 |((with_reducible first|refine Xl ?_ ?_|refine Xk ?_ ?_)<;> intro h hari<;> try exact Xp)
 |((with_reducible refine Xh ?_);first|(refine Xi (hOT _) ?_;rintro _ _ ⟨rfl,hK4⟩;(have kno4:=hK4.nobj))|(refine Xi (hOt _) ?_;rintro _ _ ⟨rfl,hK5⟩;(have kno5:=hK5.nobj))|(refine Xi (hCT _) ?_;rintro _ _ ⟨rfl,rfl⟩)|(refine Xi (hCt _) ?_;rintro _ _ ⟨rfl,rfl⟩)|(refine Xi (hPT _) ?_;rintro _ _ ⟨⟨idr,rfl⟩,hK6⟩;(have kno6:=hK6.nobj)))
 |refine Xr ?_
 |exact True.intro
 |(apply hκ.out;clear hκ κ))
  have hKb := ((hKa.trans hK4).trans hK5).trans hK6
  clear hKa hK4 hK5 hK6 hPT hOT hOt hCT hCt kno4 kno5 kno6
  refine awp_loop (fun m' s σ' => ∃ (i : Nat), m' = R.length - i ∧ i ≤ R.length ∧ s 4 = str T ∧ s 7 = sl idr R.length (R.map str) ∧ s 8 = sc (.int .i64 i) ∧ Keep σ σ') R.length
   ⟨0, by omega, by omega, rfl, rfl, rfl, hKb⟩ ?_
  clear hKb
  rintro m' s σ5 ⟨i, rfl, hi, h4, h7, h8, hK⟩
  have kno := hK.nobj
  by_cases hli : i < R.length
  ·have hdr := map_str_get hli
   have hget := List.getElem?_eq_getElem hli
   have hmem := List.getElem_mem hli
   generalize R[i] = p at hdr hget hmem
   have hOu := fun σ => koutput_spec p σ
   have hHe := fun σ => khead_spec p (hsh p hmem).1 (by have := (hsh p hmem).2; omega) σ
   have hIm := hIm i
   have hpp : Abs.Hid _ := hno.out i p hget
   clear hget hmem
   have hRu := fun ids => hRu ids (hdL p)
   generalize rlsN (hdL p) R = rn at *
   generalize hdL p = hd0 at *
   cases ho : outB p with
   | true =>
    rw [ho] at hOu
    clear hpp hIm hHe hRu
    repeat' (first
 |with_reducible first|apply Xa|apply Xb|(refine Xc ?_;intro κ hκ)|(apply hκ.out;clear hκ κ)|apply Xd|apply Xe|apply Xf
 |((with_reducible first|refine Xl ?_ ?_|refine Xk ?_ ?_)<;> intro h hari<;> try exact Xp)
 |((with_reducible refine Xh ?_);refine Xi (hOu _) ?_;rintro _ _ ⟨rfl,rfl⟩)
 |refine Xr ?_
 |exact True.intro
 |(apply hκ.out;clear hκ κ))
    refine ⟨R.length - (i + 1), by omega, i + 1, ?_⟩
    ((repeat' with_reducible refine And.intro ?_ ?_)<;> first|exact Xq|exact (hK)|exact Xs)
   | false =>
    rw [ho] at hOu
    have hpp := hpp.out ho
    repeat' (first
 |with_reducible first|apply Xa|apply Xb|(refine Xc ?_;intro κ hκ)|(apply hκ.out;clear hκ κ)|apply Xd|apply Xe|apply Xf
 |((with_reducible first|refine Xl ?_ ?_|refine Xk ?_ ?_)<;> intro h hari<;> try exact Xp)
 |((with_reducible refine Xh ?_);refine Xi (hOu _) ?_;rintro _ _ ⟨rfl,rfl⟩)
 |refine Xr ?_
 |exact True.intro
 |(apply hκ.out;clear hκ κ))
    refine ACalls.mono (hIm _) ?_
    rintro _ σ6 ⟨b, e, rfl, hq, hK6⟩
    obtain ⟨he, hbn⟩ := hpp b e hq
    subst he
    clear hq hpp hIm
    have hKz := hK.trans hK6
    have knoz := hKz.nobj
    clear hK hK6 kno
    have h00 : (((0 : Int)) != 0) = false := rfl
    cases b with
    | false =>
     clear hbn hRu hHe
     refine Xr ?_
     repeat' (first
 |with_reducible first|apply Xa|apply Xb|(refine Xc ?_;intro κ hκ)|(apply hκ.out;clear hκ κ)|apply Xd|apply Xe|apply Xf
 |((with_reducible first|refine Xl ?_ ?_|refine Xk ?_ ?_)<;> intro h hari<;> try exact Xp)
 |refine Xr ?_
 |exact True.intro
 |(apply hκ.out;clear hκ κ))
     refine ⟨R.length - (i + 1), by omega, i + 1, ?_⟩
     ((repeat' with_reducible refine And.intro ?_ ?_)<;> first|exact Xq|exact (hKz)|exact Xs)
    | true =>
     have hrb : decide ((1 : Int) < (rn : Int)) = false := by have := hbn rfl; simp; omega
     clear hbn
     refine Xr ?_
     repeat' (first
 |with_reducible first|apply Xa|apply Xb|(refine Xc ?_;intro κ hκ)|(apply hκ.out;clear hκ κ)|apply Xd|apply Xe|apply Xf
 |((with_reducible first|refine Xl ?_ ?_|refine Xk ?_ ?_)<;> intro h hari<;> try exact Xp)
 |((with_reducible refine Xh ?_);first|(refine Xi (hHe _) ?_;rintro _ _ ⟨rfl,hK7⟩;(have kno7:=hK7.nobj))|(refine Xi (hRu _ _) ?_;rintro _ _ ⟨rfl,hK8⟩;(have hKy:=(hKz.trans hK7).trans hK8;clear hKz hK7 hK8)))
 |refine Xr ?_
 |exact True.intro
 |(apply hκ.out;clear hκ κ))
     refine ⟨R.length - (i + 1), by omega, i + 1, ?_⟩
     ((repeat' with_reducible refine And.intro ?_ ?_)<;> first|exact Xq|exact (hKy)|exact Xs)
  ·repeat' (first
 |with_reducible first|apply Xa|apply Xb|(refine Xc ?_;intro κ hκ)|(apply hκ.out;clear hκ κ)|apply Xd|apply Xe|apply Xf
 |((with_reducible first|refine Xl ?_ ?_|refine Xk ?_ ?_)<;> intro h hari<;> try exact Xp)
 |refine Xr ?_
 |exact True.intro
 |(apply hκ.out;clear hκ κ))
   first | exact ⟨_, rfl, rfl, hK⟩ | exact ⟨_, rfl, hK⟩ | exact ⟨_, rfl, rfl⟩
end Go.Proofs.YtmoeoppbmhfbpaaGreatDoorQ
