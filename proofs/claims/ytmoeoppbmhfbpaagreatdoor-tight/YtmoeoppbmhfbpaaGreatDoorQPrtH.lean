import Derived.Test.YtmoeoppbmhfbpaaGreatDoorQPrtF
/- The program: texts of items. -/
namespace Go.Proofs.YtmoeoppbmhfbpaaGreatDoorQ
open Go.Abs
set_option linter.unusedSimpArgs false
set_option linter.unusedVariables false
set_option maxRecDepth 100000
def prA (l : List Tx) (a : RAtom) : Tx := a.pred ++ wrTs l 0 a.terms ++ [41]
theorem prA_len {N l : List Tx} {a : RAtom} (h : WA N l a) : (prA l a).length ≤ 1003000 := by
 obtain ⟨h1, h2, h3, h4, h5⟩ := h
 have := wrTs_len l a.terms 0 fun t ht => (h5 t ht).2.1
 simp only [prA, List.length_append, List.length_singleton]
 omega
def prN (a : RAtom) : Tx := if a.nt = true then [33] else []
theorem writeL_prA (l : List Tx) (a : RAtom) : writeL l a = prN a ++ prA l a := by simp [writeL, prN, prA]
set_option maxHeartbeats 16000000 in
theorem itext_spec (N l : List Tx) (idn : Nat) (x : RItem) (c : List AV) (hc : RI N l x c) (hN : N.length ≤ 2000) (hm : x.head.pred ∈ N) (hpl : x.head.pred.length ≤ 1000) (hb5 : x.body.length ≤ 5) (hh : x.out = false → x.head.nt = false ∧ WA N l x.head) (hb : ∀ a ∈ x.body, WA N l a) (σ : St) :
  ACalls Tryz.prog 160 [ag c, sl idn N.length (N.map str)] σ fun r σ' => r = str (if x.out = true then 63 :: x.head.pred ++ [46] else writeL l x.head ++ wrBs l 0 x.body ++ [46]) ∧ Keep σ σ' := by
 obtain ⟨ih, id, b, hbE, rfl⟩ := hc
 have hbl := EL.length RL_len hbE
 have h63 : ({ data := #[63] } : ByteArray) = bs [63] := rfl
 have h46 : ({ data := #[46] } : ByteArray) = bs [46] := rfl
 have h44 : ({ data := #[44] } : ByteArray) = bs [44] := rfl
 have h33 : ({ data := #[33] } : ByteArray) = bs [33] := rfl
 have h58 : ({ data := #[58, 45] } : ByteArray) = bs [58, 45] := rfl
 cases ho : x.out with
 | true =>
  have hix := List.idxOf_lt_length_of_mem hm
  have hge : (N.map str).drop (N.idxOf x.head.pred) = str x.head.pred :: (N.map str).drop (N.idxOf x.head.pred + 1) := by
   have := map_str_get hix
   rwa [List.getElem_idxOf hix] at this
  generalize N.idxOf x.head.pred = ix at hix hge
  clear hh hb
  refine acalls 49 [.tmp 4] Tryz.func160 rfl (by decide) rfl rfl (Nat.le_of_ble_eq_true rfl) ?_
  repeat' (first
 |with_reducible first|apply Xa|apply Xb|(refine Xc ?_;intro κ hκ)|(apply hκ.out;clear hκ κ)|apply Xd|apply Xe|apply Xf
 |((with_reducible first|refine Xl ?_ ?_|refine Xk ?_ ?_)<;> intro h hari<;> try exact Xp)
 |refine Xw ?_
 |exact True.intro
 |(apply hκ.out;clear hκ κ))
  exact ⟨_, rfl, by simp, by exact Xs⟩
 | false =>
  obtain ⟨hnt, hwh⟩ := hh ho
  have hhl := prA_len hwh
  have hAh := fun σ => atext_spec N l idn ih x.head hwh.1 hN hwh.2.1 hwh.2.2.1 hwh.2.2.2.1 hwh.2.2.2.2 σ
  have hwl : Abs.Hid (writeL l x.head = prA l x.head) := by rw [Abs.Hid, writeL_prA, prN, hnt]; simp
  have hAh : ∀ σ, ACalls Tryz.prog 198 [ag [sc (.int .i64 (N.idxOf x.head.pred : Nat)), sl ih x.head.terms.length (rcells l x.head.terms)], sl idn N.length (N.map str)] σ fun r σ' => r = str (prA l x.head) ∧ Keep σ σ' := hAh
  generalize prA l x.head = hd0 at hhl hAh hwl
  clear hh hwh hm hnt
  rw [if_neg (by simp), hwl.out]
  refine acalls 49 [.tmp 4] Tryz.func160 rfl (by decide) rfl rfl (Nat.le_of_ble_eq_true rfl) ?_
  repeat' (first
 |with_reducible first|apply Xa|apply Xb|(refine Xc ?_;intro κ hκ)|(apply hκ.out;clear hκ κ)|apply Xd|apply Xe|apply Xf
 |((with_reducible first|refine Xl ?_ ?_|refine Xk ?_ ?_)<;> intro h hari<;> try exact Xp)
 |((with_reducible refine Xh ?_);refine Xi (hAh _) ?_;rintro _ _ ⟨rfl,hK1⟩;(have kob1:=hK1.obj;have kno1:=hK1.nobj;simp only [new_nobj] at kno1))
 |refine Xw ?_
 |exact True.intro
 |(apply hκ.out;clear hκ κ))
  rename_i σ1
  refine awp_loop (fun m s σ' => ∃ (j : Nat) (acc : Tx), m = x.body.length - j ∧ j ≤ x.body.length ∧ s 1 = sl idn N.length (N.map str) ∧ s 5 = str acc ∧ s 23 = sl id x.body.length b ∧ s 24 = sc (.int .i64 x.body.length) ∧ s 25 = sc (.int .i64 j) ∧ Keep σ σ' ∧ acc.length ≤ 1003000 + j * 1003010 ∧ Abs.Hid (acc = hd0 ++ wrBs l 0 (x.body.take j))) x.body.length
   ⟨0, hd0, by omega, by omega, by simp [upd, initS], by simp [upd], by simp [upd], by simp [upd], rfl, by exact Xs, by omega, by simp [Abs.Hid, wrBs]⟩ ?_
  clear hK1 kob1 kno1
  rintro m s σ' ⟨j, acc, rfl, hj, h1, h5, h23, h24, h25, hK, hal, hA⟩
  have kno := hK.nobj
  by_cases hlt : j < x.body.length
  ·have hget := List.getElem?_eq_getElem hlt
   have hwa := hb x.body[j] (List.getElem_mem hlt)
   obtain ⟨ia, r, hd⟩ := EL_RL hbE hget
   have hst : Abs.Hid (hd0 ++ wrBs l 0 (x.body.take (j + 1)) = acc ++ (wrB j ++ (prN x.body[j] ++ prA l x.body[j]))) := by
    rw [Abs.Hid, List.take_add_one, hget, Option.toList_some, wrBs_snoc, writeL_prA, hA.out, List.length_take, Nat.min_eq_left (by omega), Nat.zero_add, List.append_assoc]
   have hwl := prA_len hwa
   have hAa : ∀ σ, ACalls Tryz.prog 198 [ag [sc (.int .i64 (N.idxOf x.body[j].pred : Nat)), sl ia x.body[j].terms.length (rcells l x.body[j].terms)], sl idn N.length (N.map str)] σ fun r σ' => r = str (prA l x.body[j]) ∧ Keep σ σ' := fun σ => atext_spec N l idn ia x.body[j] hwa.1 hN hwa.2.1 hwa.2.2.1 hwa.2.2.2.1 hwa.2.2.2.2 σ
   have hpN : Abs.Hid (prN x.body[j] = if x.body[j].nt = true then [33] else []) := rfl
   clear hget hwa
   generalize x.body[j] = a at hd hst hwl hAa hpN
   generalize prA l a = wa at hst hwl hAa
   cases hnt : a.nt with
   | true =>
    rw [hnt] at hd
    have hst : Abs.Hid (hd0 ++ wrBs l 0 (x.body.take (j + 1)) = acc ++ (wrB j ++ ([33] ++ wa))) := by rw [Abs.Hid, hst.out, hpN.out, if_pos hnt]
    clear hpN
    by_cases hj0 : j = 0
    ·have hjb : ((j : Int) == 0) = true := by simp [hj0]
     have hst : Abs.Hid (hd0 ++ wrBs l 0 (x.body.take (j + 1)) = acc ++ ([58, 45] ++ ([33] ++ wa))) := by rw [Abs.Hid, hst.out, wrB, if_pos hj0]
     clear hj0
     repeat' (first
 |with_reducible first|apply Xa|apply Xb|(refine Xc ?_;intro κ hκ)|(apply hκ.out;clear hκ κ)|apply Xd|apply Xe|apply Xf
 |((with_reducible first|refine Xl ?_ ?_|refine Xk ?_ ?_)<;> intro h hari<;> try exact Xp)
 |((with_reducible refine Xh ?_);refine Xi (hAa _) ?_;rintro _ _ ⟨rfl,hK2⟩;(have kob2:=hK2.obj;have kno2:=hK2.nobj))
 |refine Xw ?_
 |exact True.intro
 |(apply hκ.out;clear hκ κ))
     exact ⟨x.body.length - (j + 1), by omega, j + 1, acc ++ ([58, 45] ++ ([33] ++ wa)), rfl, by omega, by simp, by simp, ((hK.new _).put hK.nobj _).trans hK2, by simp; omega, by rw [Abs.Hid, hst.out]⟩
    ·have hjb : ((j : Int) == 0) = false := by simp; omega
     have hst : Abs.Hid (hd0 ++ wrBs l 0 (x.body.take (j + 1)) = acc ++ ([44] ++ ([33] ++ wa))) := by rw [Abs.Hid, hst.out, wrB, if_neg hj0]
     clear hj0
     repeat' (first
 |with_reducible first|apply Xa|apply Xb|(refine Xc ?_;intro κ hκ)|(apply hκ.out;clear hκ κ)|apply Xd|apply Xe|apply Xf
 |((with_reducible first|refine Xl ?_ ?_|refine Xk ?_ ?_)<;> intro h hari<;> try exact Xp)
 |((with_reducible refine Xh ?_);refine Xi (hAa _) ?_;rintro _ _ ⟨rfl,hK2⟩;(have kob2:=hK2.obj;have kno2:=hK2.nobj))
 |refine Xw ?_
 |exact True.intro
 |(apply hκ.out;clear hκ κ))
     exact ⟨x.body.length - (j + 1), by omega, j + 1, acc ++ ([44] ++ ([33] ++ wa)), rfl, by omega, by simp, by simp, ((hK.new _).put hK.nobj _).trans hK2, by simp; omega, by rw [Abs.Hid, hst.out]⟩
   | false =>
    rw [hnt] at hd
    have hst : Abs.Hid (hd0 ++ wrBs l 0 (x.body.take (j + 1)) = acc ++ (wrB j ++ ([] ++ wa))) := by rw [Abs.Hid, hst.out, hpN.out, if_neg (by rw [hnt]; simp)]
    clear hpN
    by_cases hj0 : j = 0
    ·have hjb : ((j : Int) == 0) = true := by simp [hj0]
     have hst : Abs.Hid (hd0 ++ wrBs l 0 (x.body.take (j + 1)) = acc ++ ([58, 45] ++ ([] ++ wa))) := by rw [Abs.Hid, hst.out, wrB, if_pos hj0]
     clear hj0
     repeat' (first
 |with_reducible first|apply Xa|apply Xb|(refine Xc ?_;intro κ hκ)|(apply hκ.out;clear hκ κ)|apply Xd|apply Xe|apply Xf
 |((with_reducible first|refine Xl ?_ ?_|refine Xk ?_ ?_)<;> intro h hari<;> try exact Xp)
 |((with_reducible refine Xh ?_);refine Xi (hAa _) ?_;rintro _ _ ⟨rfl,hK2⟩;(have kob2:=hK2.obj;have kno2:=hK2.nobj))
 |refine Xw ?_
 |exact True.intro
 |(apply hκ.out;clear hκ κ))
     exact ⟨x.body.length - (j + 1), by omega, j + 1, acc ++ ([58, 45] ++ ([] ++ wa)), rfl, by omega, by simp, by simp, ((hK.new _).put hK.nobj _).trans hK2, by simp; omega, by rw [Abs.Hid, hst.out]⟩
    ·have hjb : ((j : Int) == 0) = false := by simp; omega
     have hst : Abs.Hid (hd0 ++ wrBs l 0 (x.body.take (j + 1)) = acc ++ ([44] ++ ([] ++ wa))) := by rw [Abs.Hid, hst.out, wrB, if_neg hj0]
     clear hj0
     repeat' (first
 |with_reducible first|apply Xa|apply Xb|(refine Xc ?_;intro κ hκ)|(apply hκ.out;clear hκ κ)|apply Xd|apply Xe|apply Xf
 |((with_reducible first|refine Xl ?_ ?_|refine Xk ?_ ?_)<;> intro h hari<;> try exact Xp)
 |((with_reducible refine Xh ?_);refine Xi (hAa _) ?_;rintro _ _ ⟨rfl,hK2⟩;(have kob2:=hK2.obj;have kno2:=hK2.nobj))
 |refine Xw ?_
 |exact True.intro
 |(apply hκ.out;clear hκ κ))
     exact ⟨x.body.length - (j + 1), by omega, j + 1, acc ++ ([44] ++ ([] ++ wa)), rfl, by omega, by simp, by simp, ((hK.new _).put hK.nobj _).trans hK2, by simp; omega, by rw [Abs.Hid, hst.out]⟩
  ·have hjl : j = x.body.length := by omega
   subst hjl
   rw [List.take_length] at hA
   repeat' (first
 |with_reducible first|apply Xa|apply Xb|(refine Xc ?_;intro κ hκ)|(apply hκ.out;clear hκ κ)|apply Xd|apply Xe|apply Xf
 |((with_reducible first|refine Xl ?_ ?_|refine Xk ?_ ?_)<;> intro h hari<;> try exact Xp)
 |refine Xw ?_
 |exact True.intro
 |(apply hκ.out;clear hκ κ))
   first
   | exact ⟨_, rfl, by rw [hA.out], hK⟩
   | exact ⟨_, rfl, by rw [hA.out]⟩
/- The program: Print. -/
set_option maxHeartbeats 16000000 in
theorem itemText_spec (N : List Tx) (l : List RItem) (cs : List AV) (idn idi : Nat) (hB : Bk N l cs) (x : RItem) (c : List AV) (hx : PI N x c) (hw : WI N x) (σ : St) : ACalls Tryz.prog 104 [bookA N idn l idi cs, ag c] σ fun r σ' => r = str (writtenL x) ∧ Keep σ σ' := by
 have hN := hB.nm
 have hwl := writtenL_len hw.fits hw.short
 obtain ⟨hm, ih, id, b, hb, rfl⟩ := hx
 have hO := fun σ => inOrder_spec N x _ (PI.of (ih := ih) (id := id) hm hb) hw.out hw.fits hw.va hw.vh hw.vb σ
 have hT := fun c hc σ => itext_spec N (ordL x) idn x c hc hN hw.mem hw.short.1.1 hw.body hw.head hw.wa σ
 have hT : ∀ c, RI N (ordL x) x c → ∀ σ, ACalls Tryz.prog 160 [ag c, sl idn N.length (N.map str)] σ fun r σ' => r = str (writtenL x) ∧ Keep σ σ' := hT
 generalize hwe : writtenL x = wx at hT hwl ⊢
 clear hwe hw
 refine acalls 12 [.tmp 4] Tryz.func104 rfl (by decide) rfl rfl (Nat.le_of_ble_eq_true rfl) ?_
 repeat' (first
 |with_reducible first|apply Xa|apply Xb|(refine Xc ?_;intro κ hκ)|(apply hκ.out;clear hκ κ)|apply Xd|apply Xe|apply Xf
 |((with_reducible first|refine Xl ?_ ?_|refine Xk ?_ ?_)<;> intro h hari<;> try exact Xp)
 |((with_reducible refine Xh ?_);first|(refine Xi (hO _) ?_;rintro _ _ ⟨c2,rfl,hRI,hVL,hK2⟩;(have kob2:=hK2.obj;have kno2:=hK2.nobj;(try simp only [new_nobj,put_nobj,lay_nobj] at kno2);obtain ⟨ih2,id2,b2,hb2,rfl⟩:=hRI))|(refine Xi (hT _ ⟨_,_,_,hb2,rfl⟩ _) ?_;rintro _ _ ⟨rfl,hK3⟩))
 |refine Xw ?_
 |exact True.intro
 |(apply hκ.out;clear hκ κ))
 rename_i σ2 σ3
 have hKz := (((Keep.refl σ).new _).new _).trans hK2
 have hKy := ((hKz.new _).put (by omega) _).trans hK3
 first
  | exact ⟨_, rfl, rfl, hKy⟩
  | exact ⟨rfl, hKy⟩
  | exact hKy
set_option maxHeartbeats 16000000 in
theorem btext_spec (N : List Tx) (l : List RItem) (cs : List AV) (idn idi : Nat) (hB : Bk N l cs) (hW : ∀ x ∈ l, WI N x) (σ : St) : ACalls Tryz.prog 60 [bookA N idn l idi cs] σ fun r σ' => r = str (wholeL l) ∧ Keep σ σ' := by
 have hcl := EL.length PI_len hB.el
 have hl16 := hB.len
 have hN := hB.nm
 have hE := hB.el
 refine acalls 20 [.tmp 2] Tryz.func60 rfl (by decide) rfl rfl (Nat.le_of_ble_eq_true rfl) ?_
 repeat' (first
 |with_reducible first|apply Xa|apply Xb|(refine Xc ?_;intro κ hκ)|(apply hκ.out;clear hκ κ)|apply Xd|apply Xe|apply Xf
 |((with_reducible first|refine Xl ?_ ?_|refine Xk ?_ ?_)<;> intro h hari<;> try exact Xp)
 |refine Xw ?_
 |exact True.intro
 |(apply hκ.out;clear hκ κ))
 refine awp_loop (fun m s σ' => ∃ (i : Nat) (acc : Tx), m = l.length - i ∧ i ≤ l.length ∧ s 1 = ptr σ.nobj 0 ∧ s 3 = str acc ∧ s 7 = sl idi l.length cs ∧ s 8 = sc (.int .i64 l.length) ∧ s 9 = sc (.int .i64 i) ∧ Keep σ σ' ∧ σ.nobj < σ'.nobj ∧ σ'.obj σ.nobj = [sl idn N.length (N.map str), sl idi l.length cs] ∧ acc.length ≤ i * 1100000000 ∧ Abs.Hid (acc = wholeL (l.take i))) l.length
  ⟨0, [], by omega, by omega, by simp [upd], by simp [upd], by simp [upd], by simp [upd], rfl, by exact Xs, by simp only [new_nobj]; omega, new_same, by simp, by simp [Abs.Hid, wholeL]⟩ ?_
 rintro m s σ' ⟨i, acc, rfl, hi, h1, h3, h7, h8, h9, hK, hno, hob, hal, hA⟩
 have kno := hK.nobj
 by_cases hlt : i < l.length
 ·have hget := List.getElem?_eq_getElem hlt
  have hw := hW l[i] (List.getElem_mem hlt)
  obtain ⟨hm, ih, id, b, r, hb, hd⟩ := EL_PI hE hget
  generalize l[i] = x at hd hget hw hm hb
  have HG : Abs.Hid (l[i]? = some x) := hget
  clear hget
  have hwl := writtenL_len hw.fits hw.short
  have hT := fun σ => itemText_spec N l cs idn idi hB x _ (PI.of (ih := ih) (id := id) hm hb) hw σ
  generalize hwe : writtenL x = wx at hT hwl
  have HWE : Abs.Hid _ := hwe
  clear hwe hw
  repeat' (first
 |with_reducible first|apply Xa|apply Xb|(refine Xc ?_;intro κ hκ)|(apply hκ.out;clear hκ κ)|apply Xd|apply Xe|apply Xf
 |((with_reducible first|refine Xl ?_ ?_|refine Xk ?_ ?_)<;> intro h hari<;> try exact Xp)
 |((with_reducible refine Xh ?_);refine Xi (hT _) ?_;rintro _ _ ⟨rfl,hK3⟩;(have kob3:=hK3.obj;have kno3:=hK3.nobj;(try simp only [new_nobj,put_nobj,lay_nobj] at kno3)))
 |refine Xw ?_
 |exact True.intro
 |(apply hκ.out;clear hκ κ))
  rename_i σ3
  have hKy := ((hK.new _).put hK.nobj _).trans hK3
  have HA : Abs.Hid (acc ++ wx = wholeL (l.take (i + 1))) := by
   rw [Abs.Hid, List.take_add_one, HG.out, hA.out]
   simp [wholeL, HWE.out]
  have HL : List.length (acc ++ wx) ≤ (i + 1) * 1100000000 := by simp only [List.length_append]; omega
  refine ⟨l.length - (i + 1), by omega, i + 1, acc ++ wx, ?_⟩
  ((repeat' with_reducible refine And.intro ?_ ?_)<;> first|exact Xq|exact (hKy)|exact (HA)|exact (HL)|exact (by rw [hK3.obj _ (by simp only [put_nobj, new_nobj]; omega), put_ne (by omega), new_lt (by omega), hob])|exact Xs)
 ·have hil : i = l.length := by omega
  subst hil
  rw [List.take_length] at hA
  repeat' (first
 |with_reducible first|apply Xa|apply Xb|(refine Xc ?_;intro κ hκ)|(apply hκ.out;clear hκ κ)|apply Xd|apply Xe|apply Xf
 |((with_reducible first|refine Xl ?_ ?_|refine Xk ?_ ?_)<;> intro h hari<;> try exact Xp)
 |refine Xw ?_
 |exact True.intro
 |(apply hκ.out;clear hκ κ))
  first
  | exact ⟨_, rfl, by rw [hA.out], hK⟩
  | exact ⟨_, rfl, by rw [hA.out]⟩
end Go.Proofs.YtmoeoppbmhfbpaaGreatDoorQ
