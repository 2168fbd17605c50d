import Derived.Test.YtmoeoppbmhfbpaaGreatDoorYDocH
import Derived.Test.YtmoeoppbmhfbpaaGreatDoorYCut
/- The document's own answer: frozen, implied. -/
namespace Go.Proofs.YtmoeoppbmhfbpaaGreatDoorY
open Go.Abs
set_option linter.unusedSimpArgs false
set_option linter.unusedVariables false
set_option maxRecDepth 100000
def frzD (t : Tx) : Tx := if variableB t = true then 35 :: t else t
def frzR (a : RAtom) : RAtom := ⟨a.nt, a.pred, a.terms.map frzD⟩
set_option maxHeartbeats 16000000 in
theorem rfrozen_spec (a : RAtom) (ia : Nat) (hn : a.terms.length ≤ 1000) (ht : ∀ t ∈ a.terms, t.length ≤ 1000) (σ : St) : ACalls Tryz.prog 148 [ag [sc (.bool a.nt), str a.pred, sl ia a.terms.length (a.terms.map str)]] σ fun r σ' => ∃ i, r = ag [sc (.bool a.nt), str a.pred, sl i a.terms.length ((frzR a).terms.map str)] ∧ Keep σ σ' := by
 have h35 : ({ data := #[35] } : ByteArray) = bs [35] := rfl
 refine acalls 34 [.cell 2 143] Tryz.func148 rfl (by decide) rfl rfl (Nat.le_of_ble_eq_true rfl) ?_
 repeat' (first
 |with_reducible first|apply Xa|apply Xb|(refine Xc ?_;intro κ hκ)|(apply hκ.out;clear hκ κ)|apply Xd|apply Xe|apply Xf
 |((with_reducible first|refine Xl ?_ ?_|refine Xk ?_ ?_)<;> intro h hari<;> try exact Xp)
 |((with_reducible refine aapp_go ?_);refine Xt ?_;intro idn σn hOn hKn eobj enobj ever entop)
 |((with_reducible refine aappn_go ?_);refine Xu ?_)
 |refine Xw ?_
 |exact True.intro
 |(apply hκ.out;clear hκ κ))
 refine awp_loop (fun m s σ' => ∃ (i i3 : Nat) (xs : List AV), m = a.terms.length - i ∧ i ≤ a.terms.length ∧ s 1 = ptr σ.nobj 0 ∧ s 2 = ptr (σ.nobj + 1) 0 ∧ s 3 = ptr (σ.nobj + 2) 0 ∧ s 4 = sc (.int .i64 i) ∧ Keep σ σ' ∧ σ.nobj + 2 < σ'.nobj ∧ σ'.obj σ.nobj = [sc (.bool a.nt), str a.pred, sl ia a.terms.length (a.terms.map str)] ∧ σ'.obj (σ.nobj + 1) = [sc (.bool false), str [], nilS] ∧ σ'.obj (σ.nobj + 2) = [sc (.bool a.nt), str a.pred, sl i3 i xs] ∧ Own σ σ' i3 i ∧ xs.length = i * 1 ∧ Abs.Hid (xs = ((a.terms.take i).map frzD).map str)) a.terms.length
  ⟨0, 1, [], by omega, by omega, by simp [upd], by simp [upd], by simp [upd], by simp [upd], by exact Xs, by simp only [put_nobj, new_nobj]; omega, ?_, ?_, ?_, Own.nil _ _, by simp, by simp [Abs.Hid]⟩ ?_
 ·rw [put_ne (by omega), new_lt (by simp only [new_nobj]; omega), new_lt (by simp only [new_nobj]; omega), new_same]
 ·rw [put_ne (by omega), new_lt (by simp only [new_nobj]; omega), new_at (by simp only [new_nobj]; omega) (by simp only [new_nobj]; omega)]
 ·rw [put_same]
 rintro m s σ' ⟨i, i3, xs, rfl, hi, h1, h2, h3, h4, hK, hno, ob0, ob1, ob2, hO, hxl, hX⟩
 have kno := hK.nobj
 by_cases hlt : i < a.terms.length
 ·have hget := List.getElem?_eq_getElem hlt
  have hd := map_str_get hlt
  have hul := ht _ (List.getElem_mem hlt)
  generalize a.terms[i] = u at hd hget hul
  have HC : Abs.Hid (((a.terms.take (i + 1)).map frzD).map str = ((a.terms.take i).map frzD).map str ++ [str (frzD u)]) := by
   rw [Abs.Hid, List.take_add_one, hget]; simp
  clear hget
  have hV := fun σ => variable_spec u σ
  cases hv : variableB u with
  | true =>
   rw [hv] at hV
   have he : frzD u = 35 :: u := by unfold frzD; rw [if_pos hv]
   rw [he] at HC
   clear he
   repeat' (first
 |with_reducible first|apply Xa|apply Xb|(refine Xc ?_;intro κ hκ)|(apply hκ.out;clear hκ κ)|apply Xd|apply Xe|apply Xf
 |((with_reducible first|refine Xl ?_ ?_|refine Xk ?_ ?_)<;> intro h hari<;> try exact Xp)
 |((with_reducible refine aapp_go ?_);refine Xt ?_;intro idn σn hOn hKn eobj enobj ever entop)
 |((with_reducible refine aappn_go ?_);refine Xu ?_)
 |((with_reducible refine Xh ?_);refine Xi (hV _) ?_;rintro _ _ ⟨rfl,rfl⟩)
 |refine Xw ?_
 |exact True.intro
 |(apply hκ.out;clear hκ κ))
   refine ⟨a.terms.length - (i + 1), by omega, i + 1, idn, xs ++ [str (35 :: u)], ?_⟩
   ((repeat' with_reducible refine And.intro ?_ ?_)<;> first|exact Xq|exact (hKn.put (by omega) _)|exact (Own.put hOn _ _)|exact (by rw [Abs.Hid, HC.out, hX.out])|exact Xs)
  | false =>
   rw [hv] at hV
   have he : frzD u = u := by unfold frzD; rw [if_neg (by simp [hv])]
   rw [he] at HC
   clear he
   repeat' (first
 |with_reducible first|apply Xa|apply Xb|(refine Xc ?_;intro κ hκ)|(apply hκ.out;clear hκ κ)|apply Xd|apply Xe|apply Xf
 |((with_reducible first|refine Xl ?_ ?_|refine Xk ?_ ?_)<;> intro h hari<;> try exact Xp)
 |((with_reducible refine aapp_go ?_);refine Xt ?_;intro idn σn hOn hKn eobj enobj ever entop)
 |((with_reducible refine aappn_go ?_);refine Xu ?_)
 |((with_reducible refine Xh ?_);refine Xi (hV _) ?_;rintro _ _ ⟨rfl,rfl⟩)
 |refine Xw ?_
 |exact True.intro
 |(apply hκ.out;clear hκ κ))
   refine ⟨a.terms.length - (i + 1), by omega, i + 1, idn, xs ++ [str u], ?_⟩
   ((repeat' with_reducible refine And.intro ?_ ?_)<;> first|exact Xq|exact (hKn.put (by omega) _)|exact (Own.put hOn _ _)|exact (by rw [Abs.Hid, HC.out, hX.out])|exact Xs)
 ·have hil : i = a.terms.length := by omega
  subst hil
  have hX := hX.out
  rw [List.take_length] at hX
  subst hX
  repeat' (first
 |with_reducible first|apply Xa|apply Xb|(refine Xc ?_;intro κ hκ)|(apply hκ.out;clear hκ κ)|apply Xd|apply Xe|apply Xf
 |((with_reducible first|refine Xl ?_ ?_|refine Xk ?_ ?_)<;> intro h hari<;> try exact Xp)
 |((with_reducible refine aapp_go ?_);refine Xt ?_;intro idn σn hOn hKn eobj enobj ever entop)
 |((with_reducible refine aappn_go ?_);refine Xu ?_)
 |refine Xw ?_
 |exact True.intro
 |(apply hκ.out;clear hκ κ))
  exact ⟨_, rfl, i3, rfl, hK.put (by omega) _⟩
def oth (li : List RItem) (n i : Nat) : List RItem := ((li.take i).eraseIdx n).filter fun y => !y.out
theorem oth_step {li : List RItem} {n i : Nat} {y : RItem} (h : li[i]? = some y) : oth li n (i + 1) = oth li n i ++ (if i = n ∨ y.out = true then [] else [y]) := by
 have hi := (List.getElem?_eq_some_iff.1 h).1
 have hl : (li.take i).length = i := by rw [List.length_take]; omega
 unfold oth
 rw [List.take_add_one, h, Option.toList_some]
 by_cases hn : i = n
 ·subst hn
  rw [List.eraseIdx_append_of_length_le (by omega), hl, Nat.sub_self, if_pos (.inl rfl), List.eraseIdx_of_length_le (l := li.take i) (by omega)]
  simp
 ·have : (li.take i ++ [y]).eraseIdx n = (li.take i).eraseIdx n ++ [y] := by
   rcases Nat.lt_or_gt_of_ne hn with h' | h'
   ·rw [List.eraseIdx_append_of_length_le (by omega), List.eraseIdx_of_length_le (l := li.take i) (by omega), List.eraseIdx_of_length_le (l := [y]) (by simp; omega)]
   ·rw [List.eraseIdx_append_of_lt_length (by omega)]
  rw [this, List.filter_append]
  cases hy : y.out with
  | true => rw [if_pos (.inr rfl)]; simp [hy]
  | false => rw [if_neg (by simp [hn])]; simp [hy]
theorem oth_mem {li : List RItem} {n i : Nat} {y : RItem} (h : y ∈ oth li n i) : y ∈ li ∧ y.out = false := by
 unfold oth at h
 rw [List.mem_filter] at h
 exact ⟨List.mem_of_mem_take (List.mem_of_mem_eraseIdx h.1), by simpa using h.2⟩
def ImpR (li : List RItem) (n : Nat) (x : RItem) (b : Bool) : Prop := (∃ A, SetOk true (oth li n li.length) (x.body.map frzR) 200 A ∧ (b = true ↔ frzR x.head ∈ A)) ∨ (SetNo true (oth li n li.length) (x.body.map frzR) 200 ∧ b = false)
theorem frz_gnd (a : RAtom) : Gnd (frzR a) := fun t ht => by
 obtain ⟨u, -, rfl⟩ := List.mem_map.1 ht
 unfold frzD
 split
 ·rfl
 ·rename_i h; simpa using h
theorem frz_cl {a : RAtom} (h : clA a) (ht : ∀ t ∈ a.terms, variableB t = true → t.length ≤ 999) : clA (frzR a) := by
 refine ⟨h.1, fun t hm => ?_, by show (a.terms.map _).length ≤ 1000; rw [List.length_map]; exact h.2.2⟩
 obtain ⟨u, hu, rfl⟩ := List.mem_map.1 hm
 have hc := h.2.1 u hu
 unfold frzD
 split
 ·rename_i hv
  refine ⟨fun b hb => ?_, by simp; have := ht u hu hv; omega⟩
  rcases List.mem_cons.1 hb with rfl | hb
  ·decide
  ·exact hc.1 b hb
 ·exact hc
set_option maxHeartbeats 64000000 in
theorem rimplied_spec (li : List RItem) (cs : List AV) (idl n : Nat) (x : RItem) (hl : EL EItem li cs) (hll : li.length ≤ 1000) (hx : li[n]? = some x) (hb5 : x.body.length ≤ 200) (hh : clA x.head) (hb : ∀ a ∈ x.body, clA a ∧ ∀ t ∈ a.terms, variableB t = true → t.length ≤ 999) (hr : ∀ y ∈ li, y.out = false → RuleOk true 200 y) (σ : St) :
  ACalls Tryz.prog 98 [sl idl li.length cs, sc (.int .i64 n)] σ fun r σ' => ∃ b, r = sc (.bool b) ∧ ImpR li n x b ∧ Keep σ σ' := by
 have hcl := EL.length EItem_len hl
 have hnl := (List.getElem?_eq_some_iff.1 hx).1
 obtain ⟨ih, id, b, r, hbc, hd⟩ := EL_item hl hx
 have hbl := EL.length EAtom_len hbc
 refine acalls 74 [.tmp 4] Tryz.func98 rfl (by decide) rfl rfl (Nat.le_of_ble_eq_true rfl) ?_
 repeat' (first
 |with_reducible first|apply Xa|apply Xb|(refine Xc ?_;intro κ hκ)|(apply hκ.out;clear hκ κ)|apply Xd|apply Xe|apply Xf
 |((with_reducible first|refine Xl ?_ ?_|refine Xk ?_ ?_)<;> intro h hari<;> try exact Xp)
 |((with_reducible refine aapp_go ?_);refine Xt ?_;intro idn σn hOn hKn eobj enobj ever entop)
 |((with_reducible refine aappn_go ?_);refine Xu ?_)
 |refine Xw ?_
 |exact True.intro
 |(apply hκ.out;clear hκ κ))
 refine awp_loop (fun m s σ' => ∃ (i i3 : Nat) (xs : List AV), m = x.body.length - i ∧ i ≤ x.body.length ∧ s 0 = sl idl li.length cs ∧ s 1 = sc (.int .i64 n) ∧ s 5 = sl i3 i xs ∧ s 6 = sc (.int .i64 i) ∧ Keep σ σ' ∧ Own σ σ' i3 i ∧ xs.length = i * 3 ∧ Abs.Hid (EL EAtom ((x.body.take i).map frzR) xs)) x.body.length
  ⟨0, 1, [], by omega, by omega, by simp [upd, initS], by simp [upd, initS], by simp [upd], by simp [upd], Keep.refl _, Own.nil _ _, rfl, by simp [Abs.Hid, EL]⟩ ?_
 rintro m s σ' ⟨i, i3, xs, rfl, hi, h0, h1, h5, h6, hK, hO, hxl, hX⟩
 by_cases hlt : i < x.body.length
 ·have hget := List.getElem?_eq_getElem hlt
  obtain ⟨ia, r2, hd2⟩ := EL_atom hbc hget
  obtain ⟨hw1, hw2⟩ := hb _ (List.getElem_mem hlt)
  generalize x.body[i] = w at hget hd2 hw1 hw2
  have hFr := fun σ => rfrozen_spec w ia hw1.2.2 (fun t ht => (hw1.2.1 t ht).2) σ
  have HG : Abs.Hid ((x.body.take (i + 1)).map frzR = (x.body.take i).map frzR ++ [frzR w]) := by
   rw [Abs.Hid, List.take_add_one, hget]; simp
  clear hget
  repeat' (first
 |with_reducible first|apply Xa|apply Xb|(refine Xc ?_;intro κ hκ)|(apply hκ.out;clear hκ κ)|apply Xd|apply Xe|apply Xf
 |((with_reducible first|refine Xl ?_ ?_|refine Xk ?_ ?_)<;> intro h hari<;> try exact Xp)
 |((with_reducible refine aapp_go ?_);refine Xt ?_;intro idn σn hOn hKn eobj enobj ever entop)
 |((with_reducible refine aappn_go ?_);refine Xu ?_)
 |((with_reducible refine Xh ?_);refine Xi (hFr _) ?_;rintro _ _ ⟨iw,rfl,hK2⟩;(have hKx:=hK.trans hK2;have hOx:=Own.keep hO hK2))
 |refine Xw ?_
 |exact True.intro
 |(apply hκ.out;clear hκ κ))
  have HN : Abs.Hid (EL EAtom ((x.body.take (i + 1)).map frzR) (xs ++ [sc (.bool w.nt), str w.pred, sl iw w.terms.length ((frzR w).terms.map str)])) := by
   rw [Abs.Hid, HG.out]
   exact EL.append hX.out (EL.single ⟨iw, by simp [frzR]⟩)
  refine ⟨x.body.length - (i + 1), by omega, i + 1, idn, xs ++ [sc (.bool w.nt), str w.pred, sl iw w.terms.length ((frzR w).terms.map str)], ?_⟩
  ((repeat' with_reducible refine And.intro ?_ ?_)<;> first|exact Xq|exact (HN)|exact Xs)
 ·have hil : i = x.body.length := by omega
  subst hil
  rw [List.take_length] at hX
  have HGV : Abs.Hid (TupsOk (x.body.map frzR) xs) := ⟨hX.out, by simp; omega, fun a ha => by obtain ⟨y, -, rfl⟩ := List.mem_map.1 ha; exact frz_gnd y, fun a ha => by obtain ⟨y, hy, rfl⟩ := List.mem_map.1 ha; exact frz_cl (hb y hy).1 (hb y hy).2⟩
  clear hX
  repeat' (first
 |with_reducible first|apply Xa|apply Xb|(refine Xc ?_;intro κ hκ)|(apply hκ.out;clear hκ κ)|apply Xd|apply Xe|apply Xf
 |((with_reducible first|refine Xl ?_ ?_|refine Xk ?_ ?_)<;> intro h hari<;> try exact Xp)
 |((with_reducible refine aapp_go ?_);refine Xt ?_;intro idn σn hOn hKn eobj enobj ever entop)
 |((with_reducible refine aappn_go ?_);refine Xu ?_)
 |refine Xw ?_
 |exact True.intro
 |(apply hκ.out;clear hκ κ))
  refine awp_loop (fun m s σ' => ∃ (q i4 : Nat) (L : List RItem) (ys : List AV), m = li.length - q ∧ q ≤ li.length ∧ s 0 = sl idl li.length cs ∧ s 1 = sc (.int .i64 n) ∧ s 5 = sl i3 x.body.length xs ∧ s 7 = sl i4 L.length ys ∧ s 8 = sc (.int .i64 q) ∧ Keep σ σ' ∧ Own σ σ' i4 L.length ∧ ys.length = L.length * 5 ∧ L.length ≤ q ∧ Abs.Hid (L = oth li n q ∧ EL EItem L ys)) li.length
   ⟨0, 1, [], [], by omega, by omega, by simp [upd, *], by simp [upd, *], by simp [upd, *], by simp [upd], by simp [upd], hK, Own.nil _ _, rfl, by simp, by simp [oth], rfl⟩ ?_
  clear h0 h1 h5 h6 hK hO hxl hlt hi
  rintro m s σ2 ⟨q, i4, L, ys, rfl, hq, h0, h1, h5, h7, h8, hK, hO, hyl, hLq, hL⟩
  by_cases hlt : q < li.length
  ·have hget := List.getElem?_eq_getElem hlt
   obtain ⟨jh, jd, jb, r2, hjb, hd2⟩ := EL_item hl hget
   generalize li[q] = y at hget hjb hd2
   have HST : Abs.Hid _ := oth_step (n := n) hget
   clear hget
   by_cases hqn : q = n
   ·have hne : ((q : Int) != (n : Int)) = false := by simp [hqn]
    have HN : Abs.Hid (L = oth li n (q + 1) ∧ EL EItem L ys) := ⟨by rw [HST.out, if_pos (.inl hqn), List.append_nil]; exact hL.out.1, hL.out.2⟩
    clear hqn HST
    repeat' (first
 |with_reducible first|apply Xa|apply Xb|(refine Xc ?_;intro κ hκ)|(apply hκ.out;clear hκ κ)|apply Xd|apply Xe|apply Xf
 |((with_reducible first|refine Xl ?_ ?_|refine Xk ?_ ?_)<;> intro h hari<;> try exact Xp)
 |((with_reducible refine aapp_go ?_);refine Xt ?_;intro idn σn hOn hKn eobj enobj ever entop)
 |((with_reducible refine aappn_go ?_);refine Xu ?_)
 |refine Xw ?_
 |exact True.intro
 |(apply hκ.out;clear hκ κ))
    refine ⟨li.length - (q + 1), by omega, q + 1, i4, L, ys, ?_⟩
    ((repeat' with_reducible refine And.intro ?_ ?_)<;> first|exact Xq|exact (HN)|exact Xs)
   ·have hne : ((q : Int) != (n : Int)) = true := by simp; omega
    cases hout : y.out with
    | true =>
     have HN : Abs.Hid (L = oth li n (q + 1) ∧ EL EItem L ys) := ⟨by rw [HST.out, if_pos (.inr hout), List.append_nil]; exact hL.out.1, hL.out.2⟩
     clear hqn HST
     repeat' (first
 |with_reducible first|apply Xa|apply Xb|(refine Xc ?_;intro κ hκ)|(apply hκ.out;clear hκ κ)|apply Xd|apply Xe|apply Xf
 |((with_reducible first|refine Xl ?_ ?_|refine Xk ?_ ?_)<;> intro h hari<;> try exact Xp)
 |((with_reducible refine aapp_go ?_);refine Xt ?_;intro idn σn hOn hKn eobj enobj ever entop)
 |((with_reducible refine aappn_go ?_);refine Xu ?_)
 |refine Xw ?_
 |exact True.intro
 |(apply hκ.out;clear hκ κ))
     refine ⟨li.length - (q + 1), by omega, q + 1, i4, L, ys, ?_⟩
     ((repeat' with_reducible refine And.intro ?_ ?_)<;> first|exact Xq|exact (HN)|exact Xs)
    | false =>
     have HN : Abs.Hid (L ++ [y] = oth li n (q + 1) ∧ EL EItem (L ++ [y]) (ys ++ [sc (.bool y.out), sc (.bool y.head.nt), str y.head.pred, sl jh y.head.terms.length (y.head.terms.map str), sl jd y.body.length jb])) := ⟨by rw [HST.out, if_neg (by simp [hqn, hout]), hL.out.1], EL.append hL.out.2 (EL.single ⟨[sc (.bool y.head.nt), str y.head.pred, sl jh y.head.terms.length (y.head.terms.map str)], jd, jb, ⟨jh, rfl⟩, hjb, rfl⟩)⟩
     rw [hout] at HN
     clear hqn HST
     repeat' (first
 |with_reducible first|apply Xa|apply Xb|(refine Xc ?_;intro κ hκ)|(apply hκ.out;clear hκ κ)|apply Xd|apply Xe|apply Xf
 |((with_reducible first|refine Xl ?_ ?_|refine Xk ?_ ?_)<;> intro h hari<;> try exact Xp)
 |((with_reducible refine aapp_go ?_);refine Xt ?_;intro idn σn hOn hKn eobj enobj ever entop)
 |((with_reducible refine aappn_go ?_);refine Xu ?_)
 |refine Xw ?_
 |exact True.intro
 |(apply hκ.out;clear hκ κ))
     refine ⟨li.length - (q + 1), by omega, q + 1, idn, L ++ [y], ys ++ [sc (.bool false), sc (.bool y.head.nt), str y.head.pred, sl jh y.head.terms.length (y.head.terms.map str), sl jd y.body.length jb], ?_⟩
     ((repeat' with_reducible refine And.intro ?_ ?_)<;> first|exact Xq|exact (HN)|exact (by rw [List.length_append]; exact hOn)|exact Xs)
  ·have hql : q = li.length := by omega
   subst hql
   obtain ⟨hLe, hLE⟩ := hL.out
   have hSe := fun σ => settled_spec true L ys i4 (x.body.map frzR) xs i3 200 hLE (by omega) HGV.out (by omega) (by simp; omega) (fun y hy => by rw [hLe] at hy; exact hr y (oth_mem hy).1 (oth_mem hy).2) σ
   rw [List.length_map] at hSe
   have hFh := fun σ => rfrozen_spec x.head ih hh.2.2 (fun t ht => (hh.2.1 t ht).2) σ
   have HLE : Abs.Hid _ := hLe
   have hSe2 : ∀ σ, ACalls Tryz.prog 141 [sl i4 L.length ys, sl i3 x.body.length xs, sc (.bool true), sc (.int .i64 200)] σ fun r σ' => ∃ A ida cA ok, r = tp [sl ida A.length cA, sc (.bool ok)] ∧ ((ok = true ∧ TupsOk A cA ∧ SetOk true L (x.body.map frzR) 200 A) ∨ (ok = false ∧ A = [] ∧ SetNo true L (x.body.map frzR) 200)) ∧ Keep σ σ' := fun σ => (hSe σ).mono fun r σ' ⟨h1, h2⟩ => by
    rcases h1 with ⟨A, ida, cA, e, h3, h4⟩ | ⟨e, h3⟩
    ·exact ⟨A, ida, cA, true, e, .inl ⟨rfl, h3, h4⟩, h2⟩
    ·exact ⟨[], 1, [], false, e, .inr ⟨rfl, rfl, h3⟩, h2⟩
   clear hLe hLE hSe hL
   have hWi0 : ∀ A cA ida, TupsOk A cA → ∀ iw σ, ACalls Tryz.prog 147 [sl ida A.length cA, ag [sc (.bool x.head.nt), str x.head.pred, sl iw x.head.terms.length ((frzR x.head).terms.map str)]] σ fun r σ' => ∃ b, r = sc (.bool b) ∧ (b = true ↔ frzR x.head ∈ A) ∧ Keep σ σ' := fun A cA ida hT iw σ => within_spec A cA ida (frzR x.head) _ hT.el ⟨iw, by simp [frzR]⟩ hT.len (fun a ha => (hT.cl a ha).2.2) σ
   repeat' (first
 |with_reducible first|apply Xa|apply Xb|(refine Xc ?_;intro κ hκ)|(apply hκ.out;clear hκ κ)|apply Xd|apply Xe|apply Xf
 |((with_reducible first|refine Xl ?_ ?_|refine Xk ?_ ?_)<;> intro h hari<;> try exact Xp)
 |((with_reducible refine aapp_go ?_);refine Xt ?_;intro idn σn hOn hKn eobj enobj ever entop)
 |((with_reducible refine aappn_go ?_);refine Xu ?_)
 |((with_reducible refine Xh ?_);first|(refine Xi (hSe2 _) ?_;rintro _ _ ⟨A,ida,cA,ok,rfl,hres,hK2⟩;(rcases hres with ⟨rfl,hT,hS⟩|⟨rfl,rfl,hS⟩<;>have HS : Abs.Hid _:=hS<;>clear hS))|(refine Xi (hFh _) ?_;rintro _ _ ⟨iw,rfl,hK3⟩)|(refine Xi (hWi0 _ _ _ hT _ _) ?_;rintro _ _ ⟨bo,rfl,hbo,hK4⟩;(have HBO : Abs.Hid _:=hbo;clear hbo)))
 |refine Xw ?_
 |exact True.intro
 |(apply hκ.out;clear hκ κ))
   ·have HR : ImpR li n x bo := .inl ⟨A, by rw [← HLE.out]; exact HS.out, HBO.out⟩
    exact ⟨_, rfl, bo, rfl, HR, ((hK.trans hK2).trans hK3).trans hK4⟩
   ·have HR : ImpR li n x false := .inr ⟨by rw [← HLE.out]; exact HS.out, rfl⟩
    exact ⟨_, rfl, false, rfl, HR, hK.trans hK2⟩
/- The document's own answer: Implied. -/
theorem right_safe {t : Tx} (h : (refCheck t).1 = 0) : ∀ x ∈ itemsL t, safeB x = true := by
 have hs : ∀ i, i < (itemsL t).length → unsafeP (itemsL t) i = false := by
  unfold refCheck at h
  split at h
  ·simp at h
  split at h
  ·simp at h
  unfold wrongM at h
  split at h
  ·simp at h
  split at h
  ·simp at h
  ·rename_i hk; exact firstM_neg hk
 intro x hx
 obtain ⟨i, hi⟩ := List.getElem?_of_mem hx
 have h1 := hs i (List.getElem?_eq_some_iff.1 hi).1
 unfold unsafeP at h1
 rw [hi] at h1
 simpa using h1
theorem clean_small {p : Tx} (h : WName p) (hl : p.length ≤ 1000) : Clean p := ⟨fun b hb => by
 have := h.2 b hb
 refine ⟨?_, ?_, ?_⟩ <;> (rintro rfl; revert this; decide), hl⟩
theorem clean_term {p : Tx} (h : WTerm p) (hl : p.length ≤ 1000) : Clean p := ⟨fun b hb => by
 have := h.2 b hb
 refine ⟨?_, ?_, ?_⟩ <;> (rintro rfl; revert this; decide), hl⟩
theorem cl_atom {a : RAtom} (h : WAtom a) (hs : short a) : clA a := ⟨clean_small h.1 hs.1, fun t ht => clean_term (h.2.2.2 t ht) (hs.2.2 t ht), hs.2.1⟩
theorem cost_small {a p : Nat} (ha : a ≤ 200) (hp : p ≤ 5) : costN 0 a p ≤ 10000000000 := by
 have h1 : ∀ p, costN 0 a p ≤ costN 0 200 p := by
  intro p
  induction p with
  | zero => exact Nat.le_refl _
  | succ p ih => exact Nat.add_le_add_left (Nat.mul_le_mul ha ih) _
 refine Nat.le_trans (h1 p) ?_
 have : p = 0 ∨ p = 1 ∨ p = 2 ∨ p = 3 ∨ p = 4 ∨ p = 5 := by omega
 rcases this with rfl | rfl | rfl | rfl | rfl | rfl <;> decide
structure Fine (x : RItem) : Prop where
 w : WItem x
 sh : x.short
 va : ∀ a ∈ atomsL x, VA a
 dt : ∀ a ∈ atomsL x, ∀ w ∈ a.terms, DT w
 safe : safeB x = true
theorem right_fine {t : Tx} (h : (refCheck t).1 = 0) : ∀ x ∈ itemsL t, Fine x := by
 obtain ⟨hlen, l, r, hp⟩ := right_items h
 obtain ⟨g1, g2, g3, g4⟩ := parse_good (by omega) hp
 intro x hx
 have hx' := hx
 rw [g2] at hx
 exact ⟨g4 x hx, parse_short (by omega) hp x hx, pItems_va 16 t l r hp x hx, pItems_all (T := DT) pTerm_dt 16 t l r hp x hx, right_safe h x hx'⟩
theorem Fine.cl {x : RItem} (h : Fine x) (ho : x.out = false) : clI x :=
 ⟨ho, cl_atom ((h.w.2.2 ho).1) h.sh.1, fun a ha => cl_atom ((h.w.2.2 ho).2.2.2 a ha) (h.sh.2 a ha)⟩
theorem Fine.rule {x : RItem} (h : Fine x) (ho : x.out = false) : RuleOk true 200 x := by
 have hb := (h.w.2.2 ho).2.2.1
 refine ⟨0, x.body.countP (Pos true), ⟨h.cl ho, by omega, fun v hv hm => ?_, rfl, .inr fun a _ => rfl⟩, fun a ha => ?_⟩
 ·rcases hm with hm | ⟨a, -, hp, -⟩
  ·have hs := h.safe
   unfold safeB at hs
   simp only [Bool.not_eq_true', List.any_eq_false] at hs
   have h1 := hs x.head (by simp [atomsL, ho])
   unfold badA at h1
   simp only [Bool.not_eq_true, List.any_eq_false] at h1
   have h2 : badT x v = false := by simpa using h1 v hm
   unfold badT at h2
   rw [hv, Bool.true_and] at h2
   have h3 : boundB x v = true := by simpa using h2
   unfold boundB at h3
   simp only [List.any_eq_true, Bool.and_eq_true, beq_iff_eq] at h3
   obtain ⟨a, ha, u, hu, -, rfl⟩ := h3
   exact ⟨a, ha, rfl, hu⟩
  ·cases hp
 ·have := cost_small (a := a) (p := x.body.countP (Pos true)) ha (Nat.le_trans List.countP_le_length hb)
  omega
theorem Fine.var {x : RItem} (h : Fine x) {a : RAtom} (ha : a ∈ atomsL x) : ∀ t ∈ a.terms, variableB t = true → t.length ≤ 999 := fun t ht hv => by
 rcases h.va a ha t ht with ⟨b, rfl, -⟩ | ⟨h1, h2⟩
 ·simp
 ·cases t with
  | nil => exact absurd rfl h1
  | cons b r =>
   have hd := h2 b (by simp)
   have hl : largeB b.toNat = true := hv
   unfold digitB at hd
   unfold largeB at hl
   simp at hd hl
   omega
def rImpR (t : Tx) (n : Int) (b : Bool) (e : Int) : Prop :=
 if (refCheck t).1 ≠ 0 then b = false ∧ e = (refCheck t).1 else
 if n < 0 ∨ ((itemsL t).length : Int) ≤ n ∨ (∀ x, (itemsL t)[n.toNat]? = some x → x.out = true) then b = false ∧ e = 6 else
 ∃ x, (itemsL t)[n.toNat]? = some x ∧ x.out = false ∧ ImpR (itemsL t) n.toNat x b ∧ e = 0
set_option maxHeartbeats 16000000 in
theorem rImplied_spec (t : Tx) (n : Int) (σ : St) : ACalls Tryz.prog 56 [str t, sc (.int .i64 n)] σ fun r σ' => ∃ b e, r = tp [sc (.bool b), sc (.int .i64 e)] ∧ rImpR t n b e ∧ Keep σ σ' := by
 have hC := fun σ => rcheck_spec t σ
 by_cases he : (refCheck t).1 = 0
 ·obtain ⟨hlen, l, r, hpi⟩ := right_items he
  obtain ⟨g1, g2, g3, g4⟩ := parse_good (by omega) hpi
  have hF := right_fine he
  have hI := fun σ => items_spec t (by omega) (by have := g1.1; omega) g1.2 σ
  rw [← g2] at g3
  have hN : Abs.Hid (∀ b e, (if n < 0 ∨ ((itemsL t).length : Int) ≤ n ∨ (∀ x, (itemsL t)[n.toNat]? = some x → x.out = true) then b = false ∧ e = 6 else ∃ x, (itemsL t)[n.toNat]? = some x ∧ x.out = false ∧ ImpR (itemsL t) n.toNat x b ∧ e = 0) → rImpR t n b e) := fun b e h => by
   unfold rImpR; rw [if_neg (by simp [he])]; exact h
  have heb : ((refCheck t).1 != 0) = false := by simp [he]
  clear he hpi g1 g2 g4 hlen
  generalize itemsL t = li at hI hF g3 hN
  by_cases hn : n < 0 ∨ (li.length : Int) ≤ n
  ·have HE : Abs.Hid (rImpR t n false 6) := hN.out _ _ (by
    rw [if_pos]
    ·exact ⟨rfl, rfl⟩
    rcases hn with h | h
    ·exact .inl h
    ·exact .inr (.inl h))
   clear hN hF
   refine acalls 37 [.tmp 4, .tmp 5] Tryz.func56 rfl (by decide) rfl rfl (Nat.le_of_ble_eq_true rfl) ?_
   repeat' (first
 |with_reducible first|apply Xa|apply Xb|(refine Xc ?_;intro κ hκ)|(apply hκ.out;clear hκ κ)|apply Xd|apply Xe|apply Xf
 |((with_reducible first|refine Xl ?_ ?_|refine Xk ?_ ?_)<;> intro h hari<;> try exact Xp)
 |((with_reducible refine Xh ?_);first|(refine Xi (hC _) ?_;rintro _ _ ⟨rfl,hK1⟩)|(refine Xi (hI _) ?_;rintro _ _ ⟨idl,cs,rfl,hE,hK2⟩))
 |refine Xr ?_
 |exact True.intro
 |(apply hκ.out;clear hκ κ))
   all_goals
    first
    | exact ⟨_, rfl, _, _, rfl, HE.out, by exact Xs⟩
    | (exfalso; simp only [decide_eq_true_eq, decide_eq_false_iff_not] at *; omega)
  ·have hn0 : 0 ≤ n := by omega
   have hn1 : n.toNat < li.length := by omega
   have hnn : ((n.toNat : Nat) : Int) = n := Int.toNat_of_nonneg hn0
   have hnl : n < (li.length : Int) := by omega
   have hd1 : decide (n < 0) = false := by simpa using hn0
   have hd2 : decide (n ≥ (li.length : Int)) = false := by simpa using hnl
   have hd3 : decide ((li.length : Int) ≤ n) = false := by simpa using hnl
   have hget := List.getElem?_eq_getElem hn1
   have hfx := hF _ (List.getElem_mem hn1)
   generalize hxe : li[n.toNat] = x at hget hfx
   have HX : Abs.Hid _ := hget
   cases hout : x.out with
   | true =>
    have HE : Abs.Hid (rImpR t n false 6) := hN.out _ _ (by
     rw [if_pos]
     ·exact ⟨rfl, rfl⟩
     exact .inr (.inr fun y hy => by rw [HX.out] at hy; cases hy; exact hout))
    clear hN hxe hget hF hn
    refine acalls 37 [.tmp 4, .tmp 5] Tryz.func56 rfl (by decide) rfl rfl (Nat.le_of_ble_eq_true rfl) ?_
    repeat' (first
 |with_reducible first|apply Xa|apply Xb|(refine Xc ?_;intro κ hκ)|(apply hκ.out;clear hκ κ)|apply Xd|apply Xe|apply Xf
 |((with_reducible first|refine Xl ?_ ?_|refine Xk ?_ ?_)<;> intro h hari<;> try exact Xp)
 |((with_reducible refine Xh ?_);first|(refine Xi (hC _) ?_;rintro _ _ ⟨rfl,hK1⟩)|(refine Xi (hI _) ?_;rintro _ _ ⟨idl,cs,rfl,hE,hK2⟩;(have hcl:=EL.length EItem_len hE;obtain ⟨ih,id,b,r,hb,hd⟩:=EL_item hE HX.out)))
 |refine Xr ?_
 |exact True.intro
 |(apply hκ.out;clear hκ κ))
    all_goals
     first
     | exact ⟨_, rfl, _, _, rfl, HE.out, by exact Xs⟩
     | (exfalso; simp only [decide_eq_true_eq, decide_eq_false_iff_not] at *; omega)
   | false =>
    have hcx := hfx.cl hout
    have hb5 := (hfx.w.2.2 hout).2.2.1
    have hIm := fun cs idl (hE : EL EItem li cs) σ => rimplied_spec li cs idl n.toNat x hE (by omega) HX.out (by omega) hcx.2.1 (fun a ha => ⟨hcx.2.2 a ha, hfx.var (by simp [atomsL, hout, ha])⟩) (fun y hy hyo => (hF y hy).rule hyo) σ
    rw [hnn] at hIm
    have HE : Abs.Hid (∀ b, ImpR li n.toNat x b → rImpR t n b 0) := fun b hb => hN.out b 0 (by
     rw [if_neg (fun h => by
      rcases h with h | h | h
      ·omega
      ·omega
      ·have := h x HX.out; rw [hout] at this; cases this)]
     exact ⟨x, HX.out, hout, hb, rfl⟩)
    clear hN hxe hget hF hn hcx
    refine acalls 37 [.tmp 4, .tmp 5] Tryz.func56 rfl (by decide) rfl rfl (Nat.le_of_ble_eq_true rfl) ?_
    repeat' (first
 |with_reducible first|apply Xa|apply Xb|(refine Xc ?_;intro κ hκ)|(apply hκ.out;clear hκ κ)|apply Xd|apply Xe|apply Xf
 |((with_reducible first|refine Xl ?_ ?_|refine Xk ?_ ?_)<;> intro h hari<;> try exact Xp)
 |((with_reducible refine Xh ?_);first|(refine Xi (hC _) ?_;rintro _ _ ⟨rfl,hK1⟩)|(refine Xi (hI _) ?_;rintro _ _ ⟨idl,cs,rfl,hE,hK2⟩;(have hcl:=EL.length EItem_len hE;obtain ⟨ih,id,b,r,hb,hd⟩:=EL_item hE HX.out;have hIm2:=hIm cs idl hE))|(refine Xi (hIm2 _) ?_;rintro _ _ ⟨b,rfl,hbi,hK3⟩;(have HBI : Abs.Hid _:=HE.out _ hbi;clear hbi)))
 |refine Xr ?_
 |exact True.intro
 |(apply hκ.out;clear hκ κ))
    all_goals
     first
     | exact ⟨_, rfl, _, _, rfl, HBI.out, by exact Xs⟩
     | (exfalso; simp only [decide_eq_true_eq, decide_eq_false_iff_not] at *; omega)
 ·have heb : ((refCheck t).1 != 0) = true := by simpa using he
  have HE : Abs.Hid (rImpR t n false (refCheck t).1) := by rw [Abs.Hid]; unfold rImpR; rw [if_pos he]; exact ⟨rfl, rfl⟩
  clear he
  refine acalls 37 [.tmp 4, .tmp 5] Tryz.func56 rfl (by decide) rfl rfl (Nat.le_of_ble_eq_true rfl) ?_
  repeat' (first
 |with_reducible first|apply Xa|apply Xb|(refine Xc ?_;intro κ hκ)|(apply hκ.out;clear hκ κ)|apply Xd|apply Xe|apply Xf
 |((with_reducible first|refine Xl ?_ ?_|refine Xk ?_ ?_)<;> intro h hari<;> try exact Xp)
 |((with_reducible refine Xh ?_);refine Xi (hC _) ?_;rintro _ _ ⟨rfl,hK1⟩)
 |refine Xr ?_
 |exact True.intro
 |(apply hκ.out;clear hκ κ))
  first | exact ⟨_, rfl, _, _, rfl, HE.out, by exact Xs⟩ | exact ⟨_, rfl, _, _, rfl, HE.out⟩
end Go.Proofs.YtmoeoppbmhfbpaaGreatDoorY
