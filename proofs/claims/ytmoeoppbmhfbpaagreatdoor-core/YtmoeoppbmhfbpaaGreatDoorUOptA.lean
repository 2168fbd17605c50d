import Derived.Test.YtmoeoppbmhfbpaaGreatDoorUSpaF
/- The program: how long a made program's text is. -/
namespace Go.Proofs.YtmoeoppbmhfbpaaGreatDoorU
open Go.Abs
set_option linter.unusedSimpArgs false
set_option linter.unusedVariables false
set_option maxRecDepth 100000
theorem ttextU_spec {w : Tx} (h : UT w) (σ : St) : ACalls Tryz.prog 110 [ag [sc (.bool (encT w).1), sc (.int .i64 (encT w).2)]] σ fun r σ' => r = str w ∧ Keep σ σ' := by
 have := ttextE_spec (encT w) h.dec.2 σ
 rwa [h.dec.1] at this
set_option maxHeartbeats 16000000 in
theorem alen_spec (N : List Tx) (idn ids : Nat) (a : RAtom) (ha : a.pred ∈ N) (hN : N.length ≤ 2000) (hn : a.terms.length ≤ 1000) (hpl : a.pred.length ≤ 1000) (hw : ∀ t ∈ a.terms, UT t) (σ : St) :
  ACalls Tryz.prog 270 [ag [sc (.int .i64 (N.idxOf a.pred : Nat)), sl ids a.terms.length (tcells a.terms)], sl idn N.length (N.map str)] σ fun r σ' => r = sc (.int .i64 ((uAtom a).length : Nat)) ∧ Keep σ σ' := by
 have htl := tcells_len a.terms
 have hix := List.idxOf_lt_length_of_mem ha
 have hge : (N.map str).drop (N.idxOf a.pred) = str a.pred :: (N.map str).drop (N.idxOf a.pred + 1) := by
  have := map_str_get hix
  rwa [List.getElem_idxOf hix] at this
 generalize N.idxOf a.pred = ix at hix hge
 refine acalls 34 [.tmp 4] Tryz.func270 rfl (by decide) rfl rfl (Nat.le_of_ble_eq_true rfl) ?_
 repeat' (first
 |with_reducible first|apply Xa|apply Xb|(refine Xc ?_;intro κ hκ)|(apply hκ.out;clear hκ κ)|apply Xd|apply Xe|apply Xf
 |((with_reducible first|refine Xl ?_ ?_|refine Xk ?_ ?_)<;> intro h hari<;> try exact Xp)
 |refine Xr ?_
 |exact True.intro
 |(apply hκ.out;clear hκ κ))
 refine awp_loop (fun m s σ' => ∃ (k n : Nat), m = a.terms.length - k ∧ k ≤ a.terms.length ∧ s 5 = sc (.int .i64 n) ∧ s 16 = sl ids a.terms.length (tcells a.terms) ∧ s 17 = sc (.int .i64 a.terms.length) ∧ s 18 = sc (.int .i64 k) ∧ Keep σ σ' ∧ n ≤ 1002 + k * 1001 ∧ Abs.Hid (n = a.pred.length + 2 + (uList (a.terms.take k)).length)) a.terms.length
  ⟨0, a.pred.length + 2, by omega, by omega, by simp [upd], by simp [upd], by simp [upd], rfl, by exact Xs, by omega, by simp [Abs.Hid, uList]⟩ ?_
 rintro m s σ' ⟨k, n, rfl, hk, h5, h16, h17, h18, hK, hnl, hA⟩
 have kno := hK.nobj
 by_cases hlt : k < a.terms.length
 ·have hget := List.getElem?_eq_getElem hlt
  have hu := hw a.terms[k] (List.getElem_mem hlt)
  obtain ⟨r, hd⟩ := tcells_get hget
  generalize a.terms[k] = w at hget hu hd
  have hst : Abs.Hid (a.pred.length + 2 + (uList (a.terms.take (k + 1))).length = n + ((if k = 0 then 0 else 1) + w.length)) := by
   rw [Abs.Hid, List.take_add_one, hget, Option.toList_some, uList_snoc, hA.out]
   have e : (a.terms.take k = []) ↔ k = 0 := by
    rw [List.take_eq_nil_iff]
    constructor
    ·rintro (h | h)
     ·exact h
     ·rw [h] at hlt; cases hlt
    ·exact .inl
   by_cases h0 : k = 0
   ·rw [if_pos (e.2 h0), if_pos h0]; simp; omega
   ·rw [if_neg (fun h => h0 (e.1 h)), if_neg h0]; simp; omega
  have hT := fun σ => ttextU_spec hu σ
  have hwl := hu.2.2.1
  clear hget hA hu
  by_cases hk0 : k = 0
  ·have hkb : decide ((0 : Int) < (k : Int)) = false := by simp [hk0]
   have hst : Abs.Hid (n + w.length = a.pred.length + 2 + (uList (a.terms.take (k + 1))).length) := by rw [Abs.Hid, hst.out, if_pos hk0]; omega
   clear hk0
   repeat' (first
 |with_reducible first|apply Xa|apply Xb|(refine Xc ?_;intro κ hκ)|(apply hκ.out;clear hκ κ)|apply Xd|apply Xe|apply Xf
 |((with_reducible first|refine Xl ?_ ?_|refine Xk ?_ ?_)<;> intro h hari<;> try exact Xp)
 |((with_reducible refine Xh ?_);refine Xi (hT _) ?_;rintro _ _ ⟨rfl,hK2⟩;(have kob2:=hK2.obj;have kno2:=hK2.nobj))
 |refine Xr ?_
 |exact True.intro
 |(apply hκ.out;clear hκ κ))
   refine ⟨a.terms.length - (k + 1), by omega, k + 1, n + w.length, ?_⟩
   ((repeat' with_reducible refine And.intro ?_ ?_)<;> first|exact Xq|exact (((hK.new _).put hK.nobj _).trans hK2)|exact (hst)|exact Xs)
  ·have hkb : decide ((0 : Int) < (k : Int)) = true := by simp; omega
   have hst : Abs.Hid (n + 1 + w.length = a.pred.length + 2 + (uList (a.terms.take (k + 1))).length) := by rw [Abs.Hid, hst.out, if_neg hk0]; omega
   clear hk0
   repeat' (first
 |with_reducible first|apply Xa|apply Xb|(refine Xc ?_;intro κ hκ)|(apply hκ.out;clear hκ κ)|apply Xd|apply Xe|apply Xf
 |((with_reducible first|refine Xl ?_ ?_|refine Xk ?_ ?_)<;> intro h hari<;> try exact Xp)
 |((with_reducible refine Xh ?_);refine Xi (hT _) ?_;rintro _ _ ⟨rfl,hK2⟩;(have kob2:=hK2.obj;have kno2:=hK2.nobj))
 |refine Xr ?_
 |exact True.intro
 |(apply hκ.out;clear hκ κ))
   refine ⟨a.terms.length - (k + 1), by omega, k + 1, n + 1 + w.length, ?_⟩
   ((repeat' with_reducible refine And.intro ?_ ?_)<;> first|exact Xq|exact (((hK.new _).put hK.nobj _).trans hK2)|exact (hst)|exact Xs)
 ·have hkl : k = a.terms.length := by omega
  subst hkl
  have HA : Abs.Hid ((uAtom a).length = n) := by
   rw [Abs.Hid, hA.out, List.take_length]; simp [uAtom]; omega
  clear hA
  repeat' (first
 |with_reducible first|apply Xa|apply Xb|(refine Xc ?_;intro κ hκ)|(apply hκ.out;clear hκ κ)|apply Xd|apply Xe|apply Xf
 |((with_reducible first|refine Xl ?_ ?_|refine Xk ?_ ?_)<;> intro h hari<;> try exact Xp)
 |refine Xr ?_
 |exact True.intro
 |(apply hκ.out;clear hκ κ))
  first
  | exact ⟨_, rfl, by rw [HA.out], hK⟩
  | exact ⟨_, rfl, by rw [HA.out]⟩
structure Msr (N : List Tx) (x : RItem) : Prop where
 out : x.out = true → x.body = []
 body : x.body.length ≤ 1000
 mem : x.head.pred ∈ N
 hpl : x.head.pred.length ≤ 1000
 at_ : ∀ a ∈ atomsL x, a.terms.length ≤ 3 ∧ a.pred.length ≤ 1000 ∧ ∀ t ∈ a.terms, UT t
theorem uList_len3 {ts : List Tx} (h : ts.length ≤ 3) (g : ∀ t ∈ ts, UT t) : (uList ts).length ≤ 4000 := by
 have key : ∀ ts : List Tx, (∀ t ∈ ts, UT t) → (uMore ts).length ≤ ts.length * 1001 := by
  intro ts
  induction ts with
  | nil => intro _; simp [uMore]
  | cons t ts ih =>
   intro h
   have h1 := ih fun u hu => h u (by simp [hu])
   have h2 := (h t (by simp)).2.2.1
   unfold uMore at *
   simp only [List.flatMap_cons, List.length_append, List.length_cons]
   omega
 cases ts with
 | nil => simp [uList]
 | cons t ts =>
  have h1 := key ts fun u hu => g u (by simp [hu])
  have h2 := (g t (by simp)).2.2.1
  simp only [List.length_cons] at h
  rw [uList, List.length_append]
  omega
theorem uAtom_len {a : RAtom} (h : a.terms.length ≤ 3 ∧ a.pred.length ≤ 1000 ∧ ∀ t ∈ a.terms, UT t) : (uAtom a).length ≤ 6000 := by
 have := uList_len3 h.1 h.2.2
 have := h.2.1
 simp [uAtom]
 omega
def litL (ls : List RAtom) (k : Nat) : Nat := if k = 0 then 0 else 2 + (uList ((ls.take k).map uLit)).length
theorem litL_step {ls : List RAtom} {k : Nat} {a : RAtom} (h : ls[k]? = some a) : litL ls (k + 1) = litL ls k + (if k = 0 then 1 else 0) + (if a.nt = true then 1 else 0) + (1 + (uAtom a).length) := by
 unfold litL
 rw [if_neg (by omega), List.take_add_one, h, Option.toList_some, List.map_append, List.map_singleton, uList_snoc]
 have hk := (List.getElem?_eq_some_iff.1 h).1
 have hlit : (uLit a).length = (if a.nt = true then 1 else 0) + (uAtom a).length := by unfold uLit; split <;> simp; omega
 by_cases h0 : k = 0
 ·subst h0; simp only [List.take_zero, List.map_nil, if_true, List.nil_append, uList, List.length_nil, hlit]; omega
 ·have e : (ls.take k).map uLit ≠ [] := fun e => by
   have := congrArg List.length e
   simp at this
   rcases this with h | h
   ·exact h0 h
   ·rw [h] at hk; cases hk
  rw [if_neg h0, if_neg h0, if_neg e]
  simp only [List.length_append, List.length_singleton, hlit]
  omega
set_option maxHeartbeats 32000000 in
theorem ilen_spec (N : List Tx) (idn : Nat) (x : RItem) (c : List AV) (hc : PI N x c) (hN : N.length ≤ 2000) (hm : Msr N x) (σ : St) :
  ACalls Tryz.prog 260 [ag c, sl idn N.length (N.map str)] σ fun r σ' => r = sc (.int .i64 ((uItem x ++ [46]).length : Nat)) ∧ Keep σ σ' := by
 obtain ⟨hm0, ih, id, b, hb, rfl⟩ := hc
 have hbl := EL.length PL_len hb
 have hb5 := hm.body
 have hhl := hm.hpl
 have hix := List.idxOf_lt_length_of_mem hm0
 have hge : (N.map str).drop (N.idxOf x.head.pred) = str x.head.pred :: (N.map str).drop (N.idxOf x.head.pred + 1) := by
  have := map_str_get hix
  rwa [List.getElem_idxOf hix] at this
 cases hxo : x.out with
 | true =>
  have HL : Abs.Hid (((uItem x ++ [46]).length : Nat) = 2 + x.head.pred.length) := by
   rw [Abs.Hid, uItem, if_pos hxo]; simp; omega
  clear hm
  generalize N.idxOf x.head.pred = ix at hix hge
  refine acalls 48 [.tmp 4] Tryz.func260 rfl (by decide) rfl rfl (Nat.le_of_ble_eq_true rfl) ?_
  repeat' (first
 |with_reducible first|apply Xa|apply Xb|(refine Xc ?_;intro κ hκ)|(apply hκ.out;clear hκ κ)|apply Xd|apply Xe|apply Xf
 |((with_reducible first|refine Xl ?_ ?_|refine Xk ?_ ?_)<;> intro h hari<;> try exact Xp)
 |refine Xr ?_
 |exact True.intro
 |(apply hκ.out;clear hκ κ))
  exact ⟨_, rfl, by rw [HL.out]; simp, by exact Xs⟩
 | false =>
  have hat := hm.at_
  have hh := hat x.head (atoms_mem (.inl ⟨hxo, rfl⟩))
  have hHd := fun ids σ => alen_spec N idn ids x.head hm0 hN (by omega) hh.2.1 hh.2.2 σ
  have hhl6 := uAtom_len hh
  have HL : Abs.Hid ((uItem x ++ [46]).length = (uAtom x.head).length + 1 + litL x.body x.body.length) := by
   rw [Abs.Hid, uItem, if_neg (by simp [hxo]), uRule, litL, List.take_length]
   by_cases he : x.body = []
   ·simp [he]
   ·have hne : x.body.length ≠ 0 := fun e => he (List.eq_nil_of_length_eq_zero e)
    rw [if_neg he, if_neg hne]; simp; omega
  have hbd : ∀ a ∈ x.body, a.terms.length ≤ 3 ∧ a.pred.length ≤ 1000 ∧ ∀ t ∈ a.terms, UT t := fun a ha => hat a (atoms_mem (.inr ha))
  clear hm hat hh
  generalize N.idxOf x.head.pred = ix at hix hge hHd
  generalize (uAtom x.head).length = hn at hHd hhl6 HL
  refine acalls 48 [.tmp 4] Tryz.func260 rfl (by decide) rfl rfl (Nat.le_of_ble_eq_true rfl) ?_
  repeat' (first
 |with_reducible first|apply Xa|apply Xb|(refine Xc ?_;intro κ hκ)|(apply hκ.out;clear hκ κ)|apply Xd|apply Xe|apply Xf
 |((with_reducible first|refine Xl ?_ ?_|refine Xk ?_ ?_)<;> intro h hari<;> try exact Xp)
 |((with_reducible refine Xh ?_);refine Xi (hHd _ _) ?_;rintro _ _ ⟨rfl,hK1⟩;(have kno1:=hK1.nobj;have kob1:=hK1.obj;simp only [new_nobj] at kno1 kob1))
 |refine Xr ?_
 |exact True.intro
 |(apply hκ.out;clear hκ κ))
  rename_i σ1
  refine awp_loop (fun m s σ' => ∃ (k n : Nat), m = x.body.length - k ∧ k ≤ x.body.length ∧ s 1 = sl idn N.length (N.map str) ∧ s 5 = sc (.int .i64 n) ∧ s 24 = sl id x.body.length b ∧ s 25 = sc (.int .i64 x.body.length) ∧ s 26 = sc (.int .i64 k) ∧ Keep σ σ' ∧ n ≤ 6001 + k * 7000 ∧ Abs.Hid (n = hn + 1 + litL x.body k)) x.body.length
   ⟨0, hn + 1, by omega, by omega, rfl, by simp [upd], by simp [upd], by simp [upd], rfl, by exact Xs, by omega, by simp [Abs.Hid, litL]⟩ ?_
  clear kno1 kob1 hK1 hHd
  rintro m s σ' ⟨k, n, rfl, hk, h1, h5, h24, h25, h26, hK, hnl, hA⟩
  have kno := hK.nobj
  by_cases hlt : k < x.body.length
  ·have hget := List.getElem?_eq_getElem hlt
   have hba := hbd x.body[k] (List.getElem_mem hlt)
   obtain ⟨c0, r, ⟨hap, ida, rfl⟩, hd⟩ := EL.get PL_len hb hget
   generalize x.body[k] = a at hget hba hd hap
   have hAl := fun ids σ => alen_spec N idn ids a hap hN (by omega) hba.2.1 hba.2.2 σ
   have hal6 := uAtom_len hba
   have hst : Abs.Hid (hn + 1 + litL x.body (k + 1) = n + ((if k = 0 then 1 else 0) + (if a.nt = true then 1 else 0) + (1 + (uAtom a).length))) := by
    rw [Abs.Hid, litL_step hget, hA.out]; omega
   clear hget hA hba
   generalize (uAtom a).length = la at hAl hal6 hst
   generalize N.idxOf a.pred = ia at hAl hd
   simp only [List.cons_append, List.nil_append] at hd
   by_cases hk0 : k = 0
   ·have hkb : ((k : Int) == 0) = true := by simp [hk0]
    cases hnt : a.nt with
    | true =>
     rw [hnt] at hd
     have hst : Abs.Hid (n + (1 + la) + 1 + 1 = hn + 1 + litL x.body (k + 1)) := by rw [Abs.Hid, hst.out, if_pos hk0, if_pos hnt]; omega
     clear hk0 hnt
     repeat' (first
 |with_reducible first|apply Xa|apply Xb|(refine Xc ?_;intro κ hκ)|(apply hκ.out;clear hκ κ)|apply Xd|apply Xe|apply Xf
 |((with_reducible first|refine Xl ?_ ?_|refine Xk ?_ ?_)<;> intro h hari<;> try exact Xp)
 |((with_reducible refine Xh ?_);refine Xi (hAl _ _) ?_;rintro _ _ ⟨rfl,hK2⟩;(have kob2:=hK2.obj;have kno2:=hK2.nobj;simp only [put_nobj,new_nobj] at kno2))
 |refine Xr ?_
 |exact True.intro
 |(apply hκ.out;clear hκ κ))
     refine ⟨x.body.length - (k + 1), by omega, k + 1, n + (1 + la) + 1 + 1, ?_⟩
     ((repeat' with_reducible refine And.intro ?_ ?_)<;> first|exact Xq|exact (((hK.new _).put hK.nobj _).trans hK2)|exact (hst)|exact Xs)
    | false =>
     rw [hnt] at hd
     have hst : Abs.Hid (n + (1 + la) + 1 = hn + 1 + litL x.body (k + 1)) := by rw [Abs.Hid, hst.out, if_pos hk0, if_neg (by simp [hnt])]; omega
     clear hk0 hnt
     repeat' (first
 |with_reducible first|apply Xa|apply Xb|(refine Xc ?_;intro κ hκ)|(apply hκ.out;clear hκ κ)|apply Xd|apply Xe|apply Xf
 |((with_reducible first|refine Xl ?_ ?_|refine Xk ?_ ?_)<;> intro h hari<;> try exact Xp)
 |((with_reducible refine Xh ?_);refine Xi (hAl _ _) ?_;rintro _ _ ⟨rfl,hK2⟩;(have kob2:=hK2.obj;have kno2:=hK2.nobj;simp only [put_nobj,new_nobj] at kno2))
 |refine Xr ?_
 |exact True.intro
 |(apply hκ.out;clear hκ κ))
     refine ⟨x.body.length - (k + 1), by omega, k + 1, n + (1 + la) + 1, ?_⟩
     ((repeat' with_reducible refine And.intro ?_ ?_)<;> first|exact Xq|exact (((hK.new _).put hK.nobj _).trans hK2)|exact (hst)|exact Xs)
   ·have hkb : ((k : Int) == 0) = false := by simp; omega
    cases hnt : a.nt with
    | true =>
     rw [hnt] at hd
     have hst : Abs.Hid (n + (1 + la) + 1 = hn + 1 + litL x.body (k + 1)) := by rw [Abs.Hid, hst.out, if_neg hk0, if_pos hnt]; omega
     clear hk0 hnt
     repeat' (first
 |with_reducible first|apply Xa|apply Xb|(refine Xc ?_;intro κ hκ)|(apply hκ.out;clear hκ κ)|apply Xd|apply Xe|apply Xf
 |((with_reducible first|refine Xl ?_ ?_|refine Xk ?_ ?_)<;> intro h hari<;> try exact Xp)
 |((with_reducible refine Xh ?_);refine Xi (hAl _ _) ?_;rintro _ _ ⟨rfl,hK2⟩;(have kob2:=hK2.obj;have kno2:=hK2.nobj;simp only [put_nobj,new_nobj] at kno2))
 |refine Xr ?_
 |exact True.intro
 |(apply hκ.out;clear hκ κ))
     refine ⟨x.body.length - (k + 1), by omega, k + 1, n + (1 + la) + 1, ?_⟩
     ((repeat' with_reducible refine And.intro ?_ ?_)<;> first|exact Xq|exact (((hK.new _).put hK.nobj _).trans hK2)|exact (hst)|exact Xs)
    | false =>
     rw [hnt] at hd
     have hst : Abs.Hid (n + (1 + la) = hn + 1 + litL x.body (k + 1)) := by rw [Abs.Hid, hst.out, if_neg hk0, if_neg (by simp [hnt])]; omega
     clear hk0 hnt
     repeat' (first
 |with_reducible first|apply Xa|apply Xb|(refine Xc ?_;intro κ hκ)|(apply hκ.out;clear hκ κ)|apply Xd|apply Xe|apply Xf
 |((with_reducible first|refine Xl ?_ ?_|refine Xk ?_ ?_)<;> intro h hari<;> try exact Xp)
 |((with_reducible refine Xh ?_);refine Xi (hAl _ _) ?_;rintro _ _ ⟨rfl,hK2⟩;(have kob2:=hK2.obj;have kno2:=hK2.nobj;simp only [put_nobj,new_nobj] at kno2))
 |refine Xr ?_
 |exact True.intro
 |(apply hκ.out;clear hκ κ))
     refine ⟨x.body.length - (k + 1), by omega, k + 1, n + (1 + la), ?_⟩
     ((repeat' with_reducible refine And.intro ?_ ?_)<;> first|exact Xq|exact (((hK.new _).put hK.nobj _).trans hK2)|exact (hst)|exact Xs)
  ·have hkl : k = x.body.length := by omega
   subst hkl
   have HA : Abs.Hid ((uItem x ++ [46]).length = n) := by rw [Abs.Hid, HL.out, hA.out]
   clear hA HL
   repeat' (first
 |with_reducible first|apply Xa|apply Xb|(refine Xc ?_;intro κ hκ)|(apply hκ.out;clear hκ κ)|apply Xd|apply Xe|apply Xf
 |((with_reducible first|refine Xl ?_ ?_|refine Xk ?_ ?_)<;> intro h hari<;> try exact Xp)
 |refine Xr ?_
 |exact True.intro
 |(apply hκ.out;clear hκ κ))
   first
   | exact ⟨_, rfl, by rw [HA.out], hK⟩
   | exact ⟨_, rfl, by rw [HA.out]⟩
end Go.Proofs.YtmoeoppbmhfbpaaGreatDoorU
