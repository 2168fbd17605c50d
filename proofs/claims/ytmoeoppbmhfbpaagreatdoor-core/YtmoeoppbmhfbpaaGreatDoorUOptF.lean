import Derived.Test.YtmoeoppbmhfbpaaGreatDoorUOptD
import Derived.Test.YtmoeoppbmhfbpaaGreatDoorUImpC
import Derived.Test.YtmoeoppbmhfbpaaGreatDoorUAgrB
/- The program: the pass r. -/
namespace Go.Proofs.YtmoeoppbmhfbpaaGreatDoorU
open Go.Abs
set_option linter.unusedSimpArgs false
set_option linter.unusedVariables false
set_option maxRecDepth 100000
def impP (N : List Tx) (l : List RItem) (i : Nat) (x : RItem) (b : Bool) : Prop := PImp ((oth l i l.length).map (afP N)) (fctP N x) (afP N x).head.p.toNat (tupA (frzA (afP N x).head)) b
def noRl (N : List Tx) (l : List RItem) (n : Nat) : Prop := ∀ i y, i < n → l[i]? = some y → y.out = false → behB N l (rpl i [] l) = true → impP N l i y false
def chR (N : List Tx) (l : List RItem) (idn : Nat) (x : AV) (b : Bool) : Prop :=
 (b = false ∧ noRl N l l.length) ∨ (b = true ∧ ∃ i y, l[i]? = some y ∧ y.out = false ∧ behB N l (rpl i [] l) = true ∧ impP N l i y true ∧ noRl N l i ∧ ∃ id c', x = bookA N idn (rpl i [] l) id c' ∧ EL (PI N) (rpl i [] l) c')
theorem GL.less {N : List Tx} {l : List RItem} (h : GL N l) {i : Nat} : GL N (rpl i [] l) := by
 have hm : ∀ y ∈ rpl i [] l, y ∈ l := fun y hy => by
  rcases rpl_mem hy with h | h
  ·exact h
  ·cases h
 exact ⟨Nat.le_trans (rpl_none_len l) h.len, h.nm, fun y hy => h.msr y (hm y hy), fun y hy => h.fits y (hm y hy), fun y hy => h.pos y (hm y hy), fun y hy => h.va y (hm y hy), fun y hy => h.ar y (hm y hy)⟩
set_option maxHeartbeats 64000000 in
theorem withoutImplied_spec (N : List Tx) (l : List RItem) (cs : List AV) (idn idi : Nat) (ar : Nat → Nat) (hG : GL N l) (hI : BkI N l ar) (hE : EL (PI N) l cs) (σ : St) :
  ACalls Tryz.prog 157 [bookA N idn l idi cs] σ fun r σ' => (∃ x b, r = tp [x, sc (.bool b)] ∧ chR N l idn x b ∧ Two x) ∧ Keep σ σ' := by
 have hcl := EL.length PI_len hE
 have hl16 := hG.len
 have hBk : Bk N l cs := (hG.bkm hE).bk hl16
 have hWi := fun i σ => pwith_spec N l [] cs [] idn idi 1 i hE rfl (by omega) (by simp) σ
 have hBe := fun i c' id' (hc' : EL (PI N) (rpl i [] l) c') σ => behind_spec N l (rpl i [] l) cs c' idn idi id' (hG.bkm hE) (hG.less.bkm hc') σ
 simp only [List.length_nil] at hWi
 refine acalls 37 [.cell 2 66, .tmp 3] Tryz.func157 rfl (by decide) rfl rfl (Nat.le_of_ble_eq_true rfl) ?_
 repeat' (first
 |with_reducible first|apply Xa|apply Xb|(refine Xc ?_;intro κ hκ)|(apply hκ.out;clear hκ κ)|apply Xd|apply Xe|apply Xf
 |((with_reducible first|refine Xl ?_ ?_|refine Xk ?_ ?_)<;> intro h hari<;> try exact Xp)
 |refine Xr ?_
 |exact True.intro
 |(apply hκ.out;clear hκ κ))
 refine awp_loop (fun m s σ' => ∃ (i : Nat), m = l.length - i ∧ i ≤ l.length ∧ s 1 = ptr σ.nobj 0 ∧ s 2 = ptr (σ.nobj + 1) 0 ∧ s 10 = sl idi l.length cs ∧ s 11 = sc (.int .i64 l.length) ∧ s 12 = sc (.int .i64 i) ∧ Keep σ σ' ∧ σ.nobj + 1 < σ'.nobj ∧ σ'.obj σ.nobj = [sl idn N.length (N.map str), sl idi l.length cs] ∧ σ'.obj (σ.nobj + 1) = [nilS, nilS] ∧ Abs.Hid (noRl N l i)) l.length
  ⟨0, by omega, by omega, by simp [upd], by simp [upd], by simp [upd], by simp [upd], rfl, by exact Xs, by simp only [new_nobj]; omega, by rw [new_lt (by simp only [new_nobj]; omega), new_same], by first | exact new_same | simp [new_same], fun i y h => by omega⟩ ?_
 rintro m s σ' ⟨i, rfl, hi, h1, h2, h10, h11, h12, hK, hno, ob0, ob1, hA⟩
 have kno := hK.nobj
 by_cases hlt : i < l.length
 ·have hget := List.getElem?_eq_getElem hlt
  obtain ⟨hmm, ih, idb, b, r, hbd, hd⟩ := EL_PI hE hget
  generalize l[i] = x at hd hget hmm hbd
  have hnx : (x.out = false → behB N l (rpl i [] l) = true → impP N l i x false) → Abs.Hid (noRl N l (i + 1)) := fun h j y hj hy ho hb => by
   rcases Nat.lt_or_ge j i with h' | h'
   ·exact hA.out j y h' hy ho hb
   ·have : j = i := by omega
    subst this
    rw [hget] at hy
    cases hy
    exact h ho hb
  cases hxo : x.out with
  | true =>
   rw [hxo] at hd
   have HA := hnx (fun h => by rw [hxo] at h; cases h)
   clear hnx hA hget
   repeat' (first
 |with_reducible first|apply Xa|apply Xb|(refine Xc ?_;intro κ hκ)|(apply hκ.out;clear hκ κ)|apply Xd|apply Xe|apply Xf
 |((with_reducible first|refine Xl ?_ ?_|refine Xk ?_ ?_)<;> intro h hari<;> try exact Xp)
 |refine Xr ?_
 |exact True.intro
 |(apply hκ.out;clear hκ κ))
   refine ⟨l.length - (i + 1), by omega, i + 1, ?_⟩
   ((repeat' with_reducible refine And.intro ?_ ?_)<;> first|exact Xq|exact (HA)|exact Xs)
  | false =>
   have hIm := fun σ => pimplied_spec N l cs idn idi i ar x hBk hI hget hxo σ
   have hWi := hWi i
   have hBe := hBe i
   have HG : Abs.Hid (l[i]? = some x) := hget
   have HNX : Abs.Hid _ := hnx
   have HXO : Abs.Hid (x.out = false) := hxo
   rw [hxo] at hd
   cases hbk : behB N l (rpl i [] l) with
   | false =>
    rw [hbk] at hBe
    have HA := hnx (fun _ h => by rw [hbk] at h; cases h)
    clear hnx hA hget hbk HNX hIm
    repeat' (first
 |with_reducible first|apply Xa|apply Xb|(refine Xc ?_;intro κ hκ)|(apply hκ.out;clear hκ κ)|apply Xd|apply Xe|apply Xf
 |((with_reducible first|refine Xl ?_ ?_|refine Xk ?_ ?_)<;> intro h hari<;> try exact Xp)
 |((with_reducible refine Xh ?_);first|(refine Xi (hWi _) ?_;rintro _ _ ⟨⟨id6,c6,rfl,hE6⟩,hK6⟩;(have kno6:=hK6.nobj;have kob6:=hK6.obj;(try simp only [put_nobj,new_nobj,lay_nobj] at kno6 kob6)))|(refine Xi (hBe c6 id6 hE6 _) ?_;rintro _ _ ⟨⟨x7,rfl,hx7,⟨id71,n71,c71,id72,n72,c72,rfl⟩⟩,hK7⟩;(have kno7:=hK7.nobj;have kob7:=hK7.obj)))
 |refine Xr ?_
 |exact True.intro
 |(apply hκ.out;clear hκ κ))
    refine ⟨l.length - (i + 1), by omega, i + 1, ?_⟩
    ((repeat' with_reducible refine And.intro ?_ ?_)<;> first|exact Xq|exact (HA)|exact Xs)
   | true =>
    rw [hbk] at hBe
    have HBK : Abs.Hid (behB N l (rpl i [] l) = true) := hbk
    clear hnx hget hbk
    repeat' (first
 |with_reducible first|apply Xa|apply Xb|(refine Xc ?_;intro κ hκ)|(apply hκ.out;clear hκ κ)|apply Xd|apply Xe|apply Xf
 |((with_reducible first|refine Xl ?_ ?_|refine Xk ?_ ?_)<;> intro h hari<;> try exact Xp)
 |((with_reducible refine Xh ?_);first|(refine Xi (hWi _) ?_;rintro _ _ ⟨⟨id6,c6,rfl,hE6⟩,hK6⟩;(have kno6:=hK6.nobj;have kob6:=hK6.obj;(try simp only [put_nobj,new_nobj,lay_nobj] at kno6 kob6)))|(refine Xi (hBe c6 id6 hE6 _) ?_;rintro _ _ ⟨⟨x7,rfl,hx7,⟨id71,n71,c71,id72,n72,c72,rfl⟩⟩,hK7⟩;(have kno7:=hK7.nobj;have kob7:=hK7.obj))|(refine Xi (hIm _) ?_;rintro _ _ ⟨bi,rfl,hbi,hK8⟩;(have kno8:=hK8.nobj;have kob8:=hK8.obj;have HBI : Abs.Hid (impP N l i x bi):=hbi;clear hbi;(try simp only [put_nobj,new_nobj] at kno8 kob8))))
 |refine Xr ?_
 |exact True.intro
 |(apply hκ.out;clear hκ κ))
    ·have hbi := HBI.out
     rw [h] at hbi
     exact ⟨_, rfl, ⟨_, true, rfl, .inr ⟨rfl, i, x, HG.out, HXO.out, HBK.out, hbi, hA.out, id6, c6, hx7 rfl, hE6⟩, _, _, _, _, _, _, rfl⟩, by exact Xs⟩
    ·have hbi := HBI.out
     rw [h] at hbi
     have HA := HNX.out fun _ _ => hbi
     clear hbi HBI HNX HG HBK hA
     refine ⟨l.length - (i + 1), by omega, i + 1, ?_⟩
     ((repeat' with_reducible refine And.intro ?_ ?_)<;> first|exact Xq|exact (HA)|exact Xs)
 ·have hil : i = l.length := by omega
  subst hil
  repeat' (first
 |with_reducible first|apply Xa|apply Xb|(refine Xc ?_;intro κ hκ)|(apply hκ.out;clear hκ κ)|apply Xd|apply Xe|apply Xf
 |((with_reducible first|refine Xl ?_ ?_|refine Xk ?_ ?_)<;> intro h hari<;> try exact Xp)
 |refine Xr ?_
 |exact True.intro
 |(apply hκ.out;clear hκ κ))
  exact ⟨_, rfl, ⟨_, false, rfl, .inl ⟨rfl, hA.out⟩, _, _, _, _, _, _, rfl⟩, by exact Xs⟩
/- Right items, and what leaving out keeps. Pure. -/
structure RtL (N : List Tx) (ar : Tx → Nat) (l : List RItem) : Prop where
 gl : GL N l
 b5 : ∀ x ∈ l, x.body.length ≤ 5
 ru : ∀ x ∈ l, x.out = false → RuI N ar x
 wi : ∀ x ∈ l, WI N x
 wit : ∀ x ∈ l, WItem x
theorem bki_ru {N : List Tx} {l : List RItem} {ar : Tx → Nat} (h5 : ∀ y ∈ l, y.body.length ≤ 5) (h : ∀ y ∈ l, y.out = false → RuI N ar y) : BkI N l (arN N ar) := by
 refine ⟨h5, fun y hy ho => rw_of (h y hy ho) (h5 y hy), fun y hy ho => ?_, fun y hy ho a ha => ?_⟩
 ·have hr := h y hy ho
  refine ⟨sml_of hr.vt, fun k hk => ?_⟩
  rw [afP_body] at hk
  obtain ⟨b, hb, rfl⟩ := List.mem_map.1 hk
  rw [aff_ts]
  exact sml_of (hr.vb b hb)
 ·have hr := h y hy ho
  unfold fctP at ha
  rw [afP_body, List.map_map] at ha
  obtain ⟨b, hb, rfl⟩ := List.mem_map.1 ha
  have e := eA_frz (N := N) (b := b) fun t ht => (hr.vb b hb t ht).1
  have hg := ga_frz (hr.body b hb) (hr.vb b hb)
  unfold eA at e
  simp only [Prod.mk.injEq] at e
  have e1 : (frzA (affL (N.length : Int) (litP N b)).a).p.toNat = prdI N b := by
   show (affL (N.length : Int) (litP N b)).a.p.toNat = _
   rw [aff_p, Int.toNat_natCast]
  show Sh _ (frzA (affL (N.length : Int) (litP N b)).a).p.toNat (tupA (frzA (affL (N.length : Int) (litP N b)).a))
  rw [e1, ← e.2]
  refine ⟨_, rfl, ?_, fun z hz => ?_⟩
  ·rw [List.length_map, arN_eq (hr.body b hb).mem]; exact hg.len
  ·obtain ⟨u, hu, rfl⟩ := List.mem_map.1 hz
   exact encG_rng (hg.gt u hu)
theorem RtL.bki {N : List Tx} {ar : Tx → Nat} {l : List RItem} (h : RtL N ar l) : BkI N l (arN N ar) := bki_ru h.b5 h.ru
theorem ut_of {t : Tx} (h1 : DT t) (h2 : WTerm t) (h3 : t.length ≤ 1000) (h4 : VT t) : UT t := by
 refine ⟨h1, h2, h3, fun hv => ?_⟩
 rcases h4 with ⟨b, rfl, hb⟩ | ⟨h5, h6⟩
 ·simp only [largeB, Bool.and_eq_true, decide_eq_true_eq] at hb
  refine ⟨b.toNat - 65, by omega, ?_⟩
  have := let_toNat (k := ((b.toNat - 65 : Nat) : Int)) (by omega) (by omega)
  have e : (letB ((b.toNat - 65 : Nat) : Int)).toNat = b.toNat := by omega
  rw [UInt8.toNat_inj.1 e]
 ·cases t with
  | nil => exact absurd rfl h5
  | cons b r =>
   have h7 := h6 b (by simp)
   have h8 : largeB b.toNat = true := hv
   simp only [largeB, digitB, Bool.and_eq_true, decide_eq_true_eq] at h7 h8
   omega
theorem Right.rt {t : Tx} {N : List Tx} {l : List RItem} {cs : List AV} (h : Right t N l cs) {ar : Tx → Nat} (hA : ArOf l ar) : RtL N ar l := by
 have hf : ∀ x ∈ l, Fine x := fun x hx => right_fine h.ok x (by rw [h.items]; exact hx)
 have h5 : ∀ y ∈ l, y.body.length ≤ 5 := fun y hy => (h.wi y hy).body
 refine ⟨⟨h.bk.len, h.bk.nm, fun x hx => ?_, h.bk.fits, h.bk.pos, fun x hx => (hf x hx).va, fun x hx a ha b hb => right_len h.ok x (by rw [h.items]; exact hx) a (atoms_mem (.inr ha)) b (atoms_mem (.inr hb))⟩, h5, fun x hx ho => ru_of h hA hx ho, h.wi, h.wit⟩
 have hw := h.wi x hx
 have hs := hw.short
 refine ⟨hw.out, by have := hw.body; omega, hw.mem, hs.1.1, fun a ha => ?_⟩
 have hwi := h.wit x hx
 have ho : x.out = false := by
  cases ho : x.out with
  | false => rfl
  | true => simp [atomsL, ho, hw.out ho] at ha
 have ha' : a = x.head ∨ a ∈ x.body := by simpa [atomsL, ho] using ha
 obtain ⟨w1, w2, w3, w4⟩ := hwi.2.2 ho
 have hwa : WAtom a := by rcases ha' with rfl | ha'; exact w1; exact w4 a ha'
 have hsa : short a := by rcases ha' with rfl | ha'; exact hs.1; exact hs.2 a ha'
 exact ⟨hwa.2.2.1, hsa.1, fun t ht => ut_of ((hf x hx).dt a ha t ht) (hwa.2.2.2 t ht) (hsa.2.2 t ht) ((hf x hx).va a ha t ht)⟩
theorem RtL.sub {N : List Tx} {ar : Tx → Nat} {l l' : List RItem} (h : RtL N ar l) (hs : ∀ x ∈ l', x ∈ l) (hl : l'.length ≤ 16) : RtL N ar l' :=
 ⟨⟨hl, h.gl.nm, fun x hx => h.gl.msr x (hs x hx), fun x hx => h.gl.fits x (hs x hx), fun x hx => h.gl.pos x (hs x hx), fun x hx => h.gl.va x (hs x hx), fun x hx => h.gl.ar x (hs x hx)⟩, fun x hx => h.b5 x (hs x hx), fun x hx => h.ru x (hs x hx), fun x hx => h.wi x (hs x hx), fun x hx => h.wit x (hs x hx)⟩
theorem RtL.less {N : List Tx} {ar : Tx → Nat} {l : List RItem} (h : RtL N ar l) (i : Nat) : RtL N ar (rpl i [] l) :=
 h.sub (fun x hx => by rcases rpl_mem hx with h | h; exact h; cases h) (Nat.le_trans (rpl_none_len l) h.gl.len)
theorem wo_wit {x : RItem} {k : Nat} (h : WItem x) (ho : x.out = false) : WItem (woL x k) := by
 obtain ⟨w1, w2, w3, w4⟩ := h.2.2 ho
 exact ⟨h.1, (fun e => by cases e), fun _ => ⟨w1, w2, Nat.le_trans (List.length_eraseIdx_le _ _) w3, fun a ha => w4 a (List.mem_of_mem_eraseIdx ha)⟩⟩
theorem wo_wi {N : List Tx} {x : RItem} {k : Nat} (h : WI N x) (hw : WItem x) (ho : x.out = false) : WI N (woL x k) := by
 have hw' := wo_wit (k := k) hw ho
 have hWT : ∀ a, a ∈ atomsL (woL x k) → WA N (ordL x) a → WA N (ordL (woL x k)) a := fun a ha hA => ⟨hA.1, hA.2.1, hA.2.2.1, hA.2.2.2.1, fun w hm => ⟨(hA.2.2.2.2 w hm).1, (hA.2.2.2.2 w hm).2.1, fun hv => ord_small hw' ha hm hv⟩⟩
 have hsub : ∀ a ∈ (woL x k).body, a ∈ x.body := fun a ha => List.mem_of_mem_eraseIdx ha
 exact ⟨woL_fits h.fits, ⟨h.short.1, fun a ha => h.short.2 a (hsub a ha)⟩, fun a ha => h.va a (wo_atoms ho ha), h.vh, fun a ha => h.vb a (hsub a ha), h.mem, Nat.le_trans (List.length_eraseIdx_le _ _) h.body, (fun e => by cases e), fun _ => ⟨(h.head ho).1, hWT _ (atoms_mem (.inl ⟨rfl, rfl⟩)) (h.head ho).2⟩, fun a ha => hWT a (atoms_mem (.inr ha)) (h.wa a (hsub a ha))⟩
theorem safe_bound {y : RItem} (hs : psafeB y = true) (hu : ∀ a ∈ atomsL y, ∀ t ∈ a.terms, UT t) {a : RAtom} (ha : a ∈ atomsL y) {t : Tx} (ht : t ∈ a.terms) (hv : variableB t = true) : ∃ b ∈ y.body, b.nt = false ∧ t ∈ b.terms := by
 unfold psafeB at hs
 have := List.any_eq_false.1 (by simpa using hs : (atomsL y).any (fun a => a.terms.any fun w => (encT w).1 && !bindsB y (encT w).2) = false) a ha
 have := List.any_eq_false.1 (by simpa using this : a.terms.any (fun w => (encT w).1 && !bindsB y (encT w).2) = false) t ht
 rw [enc_fst, hv] at this
 have hb : bindsB y (encT t).2 = true := by simpa using this
 unfold bindsB at hb
 obtain ⟨b, hbm, hb⟩ := List.any_eq_true.1 hb
 simp only [Bool.and_eq_true, Bool.not_eq_true', List.any_eq_true] at hb
 obtain ⟨hnt, u, hum, hu2⟩ := hb
 refine ⟨b, hbm, hnt, ?_⟩
 unfold hitT at hu2
 simp only [Bool.and_eq_true, beq_iff_eq] at hu2
 have : t = u := tellU.inj _ _ (hu a ha t ht) (hu b (atoms_mem (.inr hbm)) u hum) (Prod.ext (by rw [enc_fst, hv, hu2.1]) hu2.2.symm)
 rw [this]; exact hum
theorem RtL.wo {N : List Tx} {ar : Tx → Nat} {l : List RItem} (h : RtL N ar l) {i k : Nat} {x : RItem} (hx : l[i]? = some x) (ho : x.out = false) (hs : psafeB (woL x k) = true) : RtL N ar (rpl i [woL x k] l) := by
 have hxm := List.mem_of_getElem? hx
 have hm : ∀ y ∈ rpl i [woL x k] l, y ∈ l ∨ y = woL x k := fun y hy => by
  rcases rpl_mem hy with h | h
  ·exact .inl h
  ·exact .inr (by simpa using h)
 have hsub : ∀ a ∈ (woL x k).body, a ∈ x.body := fun a ha => List.mem_of_mem_eraseIdx ha
 refine ⟨h.gl.wo hx ho, fun y hy => ?_, fun y hy hyo => ?_, fun y hy => ?_, fun y hy => ?_⟩
 ·rcases hm y hy with hy | rfl
  ·exact h.b5 y hy
  ·exact Nat.le_trans (List.length_eraseIdx_le _ _) (h.b5 x hxm)
 ·rcases hm y hy with hy | rfl
  ·exact h.ru y hy hyo
  ·have hr := h.ru x hxm ho
   refine ⟨hr.head, hr.hnt, fun b hb => hr.body b (hsub b hb), hr.vt, fun b hb => hr.vb b (hsub b hb), fun v hm hv => ?_⟩
   obtain ⟨b, hb, -, hbt⟩ := safe_bound hs (fun a ha => ((h.gl.msr x hxm).at_ a (wo_atoms ho ha)).2.2) (a := x.head) (atoms_mem (.inl ⟨rfl, rfl⟩)) hm hv
   exact ⟨b, hb, hbt⟩
 ·rcases hm y hy with hy | rfl
  ·exact h.wi y hy
  ·exact wo_wi (h.wi x hxm) (h.wit x hxm) ho
 ·rcases hm y hy with hy | rfl
  ·exact h.wit y hy
  ·exact wo_wit (h.wit x hxm) ho
end Go.Proofs.YtmoeoppbmhfbpaaGreatDoorU
