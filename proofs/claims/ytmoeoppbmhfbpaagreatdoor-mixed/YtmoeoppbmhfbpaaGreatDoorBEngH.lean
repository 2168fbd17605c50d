import Derived.Test.YtmoeoppbmhfbpaaGreatDoorBEngF
/- The program's engine: a number put in a part, in a query. -/
namespace Go.Proofs.YtmoeoppbmhfbpaaGreatDoorB
open Go.Abs
set_option linter.unusedSimpArgs false
set_option linter.unusedVariables false
set_option maxRecDepth 100000
theorem tcs_get3 {l : List Tup} {k : Nat} {t : Tup} (h3 : T3 l) (h : l[k]? = some t) : t.length = 3 ∧ ∃ r, (tcs l).drop (k * 3) = icells t ++ r := by
 obtain ⟨a, b, c, r, rfl, e⟩ := tcs_get h3 h
 exact ⟨rfl, r, by rw [e]; rfl⟩
def tat (t : Tup) (k : Int) : Int := (t[k.toNat]?).getD 0
theorem plc_bound {ts : List Tm} {v : Int} (h : hasV ts v = true) : ∃ k : Nat, k < ts.length ∧ eplc ts v = (k : Int) := by
 have hm : (true, v) ∈ ts := by simpa [hasV] using h
 exact ⟨ts.idxOf (true, v), List.idxOf_lt_length_iff.2 hm, if_pos hm⟩
def putP (v n : Int) (p : Part) : Part := if hasV p.a.ts v = true then ⟨⟨p.a.p, eputTs v n p.a.ts⟩, p.tups.filter fun t => tat t (eplc p.a.ts v) == n⟩ else p
theorem filter_snoc {α : Type} (f : α → Bool) (l : List α) (x : α) : (l ++ [x]).filter f = l.filter f ++ if f x = true then [x] else [] := by
 rw [List.filter_append]
 by_cases h : f x = true <;> simp [h]
set_option maxHeartbeats 16000000 in
theorem eputP_spec (p : Part) (id idt : Nat) (v n : Int) (ha : p.a.ts.length ≤ 3) (ht : p.tups.length ≤ 5000) (h3 : T3 p.tups) (σ : St) : ACalls Tryz.prog 220 [ag [ic p.a.p, sl id p.a.ts.length (ecells p.a.ts), sl idt p.tups.length (tcs p.tups)], ic v, ic n] σ fun r σ' => (∃ c', r = ag c' ∧ EPt (putP v n p) c') ∧ Keep σ σ' := by
 have htl := tcs_len h3
 have hn1 : p.a.ts.length ≤ 1000 := by omega
 have hPl := fun σ => eplace_spec p.a.p id p.a.ts v hn1 σ
 have hPu := fun σ => eput_spec p.a.p id p.a.ts v n hn1 σ
 cases hv : hasV p.a.ts v with
 | false =>
  have hp : eplc p.a.ts v = -1 := plc_none (by simpa [hasV] using hv)
  have HR : Abs.Hid (putP v n p = p) := if_neg (by rw [hv]; simp)
  rw [hp] at hPl
  clear hp
  refine acalls 44 [.cell 6 214] Tryz.func220 rfl (by decide) rfl rfl (Nat.le_of_ble_eq_true rfl) ?_
  repeat' (first
 |with_reducible first|apply Xa|apply Xb|(refine Xc ?_;intro κ hκ)|(apply hκ.out;clear hκ κ)|apply Xd|apply Xe|apply Xf
 |((with_reducible first|refine Xl ?_ ?_|refine Xk ?_ ?_)<;> intro h hari<;> try exact Xp)
 |((with_reducible refine aapp_go ?_);refine Xt ?_;intro idn σn hOn hKn eobj enobj ever entop)
 |((with_reducible refine aappn_go ?_);refine Xu ?_)
 |((with_reducible refine Xh ?_);refine Xi (hPl _) ?_;rintro _ _ ⟨rfl,hK2⟩;(have kno2:=hK2.nobj;have kob2:=hK2.obj;have hKx:=(((Keep.refl σ).new _).new _).trans hK2;simp only [new_nobj] at kno2 kob2))
 |refine Xr ?_
 |exact True.intro
 |(apply hκ.out;clear hκ κ))
  exact ⟨_, rfl, ⟨_, rfl, by rw [HR.out]; exact ⟨id, idt, rfl⟩⟩, hKx.put (by omega) _⟩
 | true =>
  obtain ⟨pl, hpl, hpe⟩ := plc_bound hv
  have HR : Abs.Hid (putP v n p = ⟨⟨p.a.p, eputTs v n p.a.ts⟩, p.tups.filter fun t => tat t pl == n⟩) := by rw [Abs.Hid, putP, if_pos hv, hpe]
  rw [hpe] at hPl
  clear hpe
  have hpl3 : pl < 3 := by omega
  have hneg : ((pl : Int) == -1) = false := by simp
  refine acalls 44 [.cell 6 214] Tryz.func220 rfl (by decide) rfl rfl (Nat.le_of_ble_eq_true rfl) ?_
  repeat' (first
 |with_reducible first|apply Xa|apply Xb|(refine Xc ?_;intro κ hκ)|(apply hκ.out;clear hκ κ)|apply Xd|apply Xe|apply Xf
 |((with_reducible first|refine Xl ?_ ?_|refine Xk ?_ ?_)<;> intro h hari<;> try exact Xp)
 |((with_reducible refine aapp_go ?_);refine Xt ?_;intro idn σn hOn hKn eobj enobj ever entop)
 |((with_reducible refine aappn_go ?_);refine Xu ?_)
 |((with_reducible refine Xh ?_);first|(refine Xi (hPl _) ?_;rintro _ _ ⟨rfl,hK2⟩;(have kno2:=hK2.nobj;have kob2:=hK2.obj;have hKx:=(((Keep.refl σ).new _).new _).trans hK2;simp only [new_nobj] at kno2 kob2))|(refine Xi (hPu _) ?_;rintro _ _ ⟨⟨idp,rfl⟩,hK4⟩;(have kno4:=hK4.nobj;have kob4:=hK4.obj;have hKy:=hKx.trans hK4)))
 |refine Xr ?_
 |exact True.intro
 |(apply hκ.out;clear hκ κ))
  rename_i σ1 σ2
  have o1 : σ2.obj (σ.nobj + 1) = [ic 0, nilS, nilS] := by rw [kob4 _ (by omega), kob2 _ (by omega), new_at (by simp only [new_nobj]; omega) (by simp only [new_nobj]; omega)]
  clear kob2 kob4 hKx hK2 hK4
  refine awp_loop (fun m s σ' => ∃ (i i3 : Nat) (o : List Tup) (xs : List AV), m = p.tups.length - i ∧ i ≤ p.tups.length ∧ s 2 = ic n ∧ s 6 = ptr (σ.nobj + 1) 0 ∧ s 7 = ic pl ∧ s 8 = ptr σ2.nobj 0 ∧ s 25 = sl idt p.tups.length (tcs p.tups) ∧ s 26 = ic p.tups.length ∧ s 27 = ic i ∧ Keep σ σ' ∧ σ2.nobj < σ'.nobj ∧ σ'.obj (σ.nobj + 1) = [ic 0, nilS, nilS] ∧ σ'.obj σ2.nobj = [ic p.a.p, sl idp (eputTs v n p.a.ts).length (ecells (eputTs v n p.a.ts)), sl i3 o.length xs] ∧ Own σ σ' i3 o.length ∧ o.length ≤ i ∧ xs.length = o.length * 3 ∧ Abs.Hid (xs = tcs o ∧ o = (p.tups.take i).filter fun t => tat t pl == n)) p.tups.length
   ⟨0, 1, [], [], by omega, by omega, by simp [upd, initS], by simp [upd], by simp [upd], by simp [upd], by simp [upd], by simp [upd], rfl, by exact Xs, by simp only [put_nobj, new_nobj]; omega, ?_, ?_, Own.nil _ _, by simp, by simp, ⟨rfl, by simp⟩⟩ ?_
  ·rw [put_ne (by omega), new_lt (by omega), o1]
  ·rw [put_same]; simp
  clear o1 hKy
  rintro m s σ' ⟨i, i3, o, xs, rfl, hi, h2, h6, h7, h8, h25, h26, h27, hK, hno, ob1, ob2, hO, hol, hxl, hX⟩
  have kno := hK.nobj
  by_cases hlt : i < p.tups.length
  ·have hget := List.getElem?_eq_getElem hlt
   obtain ⟨ht3, r, hd⟩ := tcs_get3 h3 hget
   generalize p.tups[i] = t at hd hget ht3
   have HF : Abs.Hid ((p.tups.take (i + 1)).filter (fun t => tat t pl == n) = (p.tups.take i).filter (fun t => tat t pl == n) ++ if (tat t pl == n) = true then [t] else []) := by
    rw [Abs.Hid, List.take_add_one, hget, Option.toList_some, filter_snoc]
   have hti : t[pl]? = some t[pl] := List.getElem?_eq_getElem (by omega)
   have hgi := i3_get hti
   have hta : Abs.Hid (tat t pl = t[pl]) := by simp [Abs.Hid, tat, hti]
   generalize t[pl] = x at hti hgi hta
   clear hget hti
   have f1 := i3_len ht3
   have f2 := i3_take ht3
   have f3 := i3_take0 ht3
   have f4 := i3_lsp ht3
   have f5 := icells_flat t
   have f6 := i3_le ht3
   by_cases hxn : x = n
   ·subst hxn
    have HX : Abs.Hid (xs ++ icells t = tcs (o ++ [t]) ∧ o ++ [t] = (p.tups.take (i + 1)).filter fun t => tat t pl == x) := by
     obtain ⟨x1, x2⟩ := hX.out
     refine ⟨by rw [x1, tcs_snoc], ?_⟩
     rw [HF.out, if_pos (by rw [hta.out]; simp), x2]
    clear hX HF hta
    repeat' (first
 |with_reducible first|apply Xa|apply Xb|(refine Xc ?_;intro κ hκ)|(apply hκ.out;clear hκ κ)|apply Xd|apply Xe|apply Xf
 |((with_reducible first|refine Xl ?_ ?_|refine Xk ?_ ?_)<;> intro h hari<;> try exact Xp)
 |((with_reducible refine aapp_go ?_);refine Xt ?_;intro idn σn hOn hKn eobj enobj ever entop)
 |((with_reducible refine aappn_go ?_);refine Xu ?_)
 |refine Xr ?_
 |exact True.intro
 |(apply hκ.out;clear hκ κ))
    refine aApp_own (by first | exact tez_122) ((hK.new _).put hK.nobj _) (Own.put (Own.new hO _) _ _) (by decide) (by rfl) (hxl) (by rw [f1]) (f5) (by decide) (by omega) (by omega) ?_
    intro idn σn hOn hKn eobj enobj ever entop
    simp only [put_nobj, new_nobj] at enobj
    have eob : ∀ p, p < σ'.nobj → σn.obj p = σ'.obj p := fun p hp => by rw [eobj, put_ne (by omega), new_lt (by omega)]
    refine Xr ?_
    repeat' (first
 |with_reducible first|apply Xa|apply Xb|(refine Xc ?_;intro κ hκ)|(apply hκ.out;clear hκ κ)|apply Xd|apply Xe|apply Xf
 |((with_reducible first|refine Xl ?_ ?_|refine Xk ?_ ?_)<;> intro h hari<;> try exact Xp)
 |((with_reducible refine aapp_go ?_);refine Xt ?_;intro idn σn hOn hKn eobj enobj ever entop)
 |((with_reducible refine aappn_go ?_);refine Xu ?_)
 |refine Xr ?_
 |exact True.intro
 |(apply hκ.out;clear hκ κ))
    refine ⟨p.tups.length - (i + 1), by omega, i + 1, idn, o ++ [t], xs ++ icells t, ?_⟩
    ((repeat' with_reducible refine And.intro ?_ ?_)<;> first|exact Xq|exact (hKn.put (by omega) _)|exact (by simpa using Own.put hOn _ _)|exact (HX)|exact Xs)
   ·have hxb : (x == n) = false := by simpa using hxn
    have HX : Abs.Hid (xs = tcs o ∧ o = (p.tups.take (i + 1)).filter fun t => tat t pl == n) := by
     obtain ⟨x1, x2⟩ := hX.out
     refine ⟨x1, ?_⟩
     rw [HF.out, if_neg (by rw [hta.out, hxb]; simp), x2, List.append_nil]
    clear hX HF hta hxn
    repeat' (first
 |with_reducible first|apply Xa|apply Xb|(refine Xc ?_;intro κ hκ)|(apply hκ.out;clear hκ κ)|apply Xd|apply Xe|apply Xf
 |((with_reducible first|refine Xl ?_ ?_|refine Xk ?_ ?_)<;> intro h hari<;> try exact Xp)
 |((with_reducible refine aapp_go ?_);refine Xt ?_;intro idn σn hOn hKn eobj enobj ever entop)
 |((with_reducible refine aappn_go ?_);refine Xu ?_)
 |refine Xr ?_
 |exact True.intro
 |(apply hκ.out;clear hκ κ))
    refine ⟨p.tups.length - (i + 1), by omega, i + 1, i3, o, xs, ?_⟩
    ((repeat' with_reducible refine And.intro ?_ ?_)<;> first|exact Xq|exact (Own.put (Own.new hO _) _ _)|exact (HX)|exact Xs)
  ·have hil : i = p.tups.length := by omega
   subst hil
   obtain ⟨x1, x2⟩ := hX.out
   rw [List.take_length] at x2
   repeat' (first
 |with_reducible first|apply Xa|apply Xb|(refine Xc ?_;intro κ hκ)|(apply hκ.out;clear hκ κ)|apply Xd|apply Xe|apply Xf
 |((with_reducible first|refine Xl ?_ ?_|refine Xk ?_ ?_)<;> intro h hari<;> try exact Xp)
 |((with_reducible refine aapp_go ?_);refine Xt ?_;intro idn σn hOn hKn eobj enobj ever entop)
 |((with_reducible refine aappn_go ?_);refine Xu ?_)
 |refine Xr ?_
 |exact True.intro
 |(apply hκ.out;clear hκ κ))
   exact ⟨_, rfl, ⟨_, rfl, by rw [HR.out, ← x2]; exact ⟨idp, i3, by first | rfl | rw [x1]⟩⟩, hK.put (by omega) _⟩
/- The program's engine: a number put in a query. -/
def eputA (v n : Int) (a : Atm) : Atm := ⟨a.p, eputTs v n a.ts⟩
def eputQ (v n : Int) (q : Qry) : Qry := ⟨eputA v n q.head, q.parts.map (putP v n), q.nots.map (eputA v n)⟩
theorem EPt_flat {p : Part} {c : List AV} (h : EPt p c) : ∃ x y z, c = [x, y, z] ∧ flat x = true ∧ flat y = true ∧ flat z = true := by
 obtain ⟨id, idt, rfl⟩ := h
 exact ⟨_, _, _, rfl, rfl, rfl, rfl⟩
set_option maxHeartbeats 16000000 in
theorem eputQ_spec (q : Qry) (c : List AV) (v n : Int) (hc : EQ q c) (hq : QOk q) (σ : St) : ACalls Tryz.prog 173 [ag c, ic v, ic n] σ fun r σ' => (∃ c', r = ag c' ∧ EQ (eputQ v n q) c') ∧ Keep σ σ' := by
 obtain ⟨ih, ip, inn, pc, nc, rfl, hP, hN⟩ := hc
 have hpl := EL.length EPt_len hP
 have hnl := EL.length EAt_len hN
 have hl := hq.pl
 have hl2 := hq.nl
 have hh := hq.hd
 have hn1 : q.head.ts.length ≤ 1000 := by omega
 have hPu := fun σ => eput_spec q.head.p ih q.head.ts v n hn1 σ
 refine acalls 53 [.cell 6 182] Tryz.func173 rfl (by decide) rfl rfl (Nat.le_of_ble_eq_true rfl) ?_
 repeat' (first
 |with_reducible first|apply Xa|apply Xb|(refine Xc ?_;intro κ hκ)|(apply hκ.out;clear hκ κ)|apply Xd|apply Xe|apply Xf
 |((with_reducible first|refine Xl ?_ ?_|refine Xm ?_ ?_|refine Xk ?_ ?_)<;> intro h hari<;> try exact Xp)
 |((with_reducible refine aapp_go ?_);refine Xt ?_;intro idn σn hOn hKn eobj enobj ever entop)
 |((with_reducible refine aappn_go ?_);refine Xu ?_)
 |((with_reducible refine Xh ?_);refine Xi (hPu _) ?_;rintro _ _ ⟨⟨idh,rfl⟩,hK2⟩;(have kno2:=hK2.nobj;have kob2:=hK2.obj;have hKx:=(((Keep.refl σ).new _).new _).trans hK2;simp only [new_nobj] at kno2 kob2))
 |refine Xr ?_
 |exact True.intro
 |((with_reducible refine Xg ?_);refine Xj ?_)
 |(apply hκ.out;clear hκ κ))
 rename_i σ1
 have o0 : σ1.obj σ.nobj = [ic q.head.p, sl ih q.head.ts.length (ecells q.head.ts), sl ip q.parts.length pc, sl inn q.nots.length nc] := by rw [kob2 _ (by omega), new_lt (by simp only [new_nobj]; omega), new_same]
 have o1 : σ1.obj (σ.nobj + 1) = [ic 0, nilS, nilS, nilS] := by rw [kob2 _ (by omega), new_at (by simp only [new_nobj]; omega) (by simp only [new_nobj]; omega)]
 clear kob2 hK2
 refine awp_loop (fun m s σ' => ∃ (i i3 : Nat) (xs : List AV), m = q.parts.length - i ∧ i ≤ q.parts.length ∧ s 1 = ic v ∧ s 2 = ic n ∧ s 3 = ptr σ.nobj 0 ∧ s 6 = ptr (σ.nobj + 1) 0 ∧ s 7 = ptr σ1.nobj 0 ∧ s 19 = sl ip q.parts.length pc ∧ s 20 = ic q.parts.length ∧ s 21 = ic i ∧ Keep σ σ' ∧ σ1.nobj < σ'.nobj ∧ σ'.obj σ.nobj = [ic q.head.p, sl ih q.head.ts.length (ecells q.head.ts), sl ip q.parts.length pc, sl inn q.nots.length nc] ∧ σ'.obj (σ.nobj + 1) = [ic 0, nilS, nilS, nilS] ∧ σ'.obj σ1.nobj = [ic q.head.p, sl idh (eputTs v n q.head.ts).length (ecells (eputTs v n q.head.ts)), sl i3 i xs, nilS] ∧ Own σ σ' i3 i ∧ xs.length = i * 3 ∧ Abs.Hid (EL EPt ((q.parts.take i).map (putP v n)) xs)) q.parts.length
  ⟨0, 1, [], by omega, by omega, by simp [upd, initS], by simp [upd, initS], by simp [upd], by simp [upd], by simp [upd], by simp [upd], by simp [upd], rfl, by exact Xs, by simp only [put_nobj, new_nobj]; omega, ?_, ?_, ?_, Own.nil _ _, by simp, by simp [Abs.Hid, EL]⟩ ?_
 ·rw [put_ne (by omega), new_lt (by omega), o0]
 ·rw [put_ne (by omega), new_lt (by omega), o1]
 ·rw [put_same]
 clear o0 o1 hKx
 rintro m s σ' ⟨i, i3, xs, rfl, hi, h1, h2, h3, h6, h7, h19, h20, h21, hK, hno, ob0, ob1, ob2, hO, hxl, hX⟩
 have kno := hK.nobj
 by_cases hlt : i < q.parts.length
 ·have hget := List.getElem?_eq_getElem hlt
  obtain ⟨id, idt, r, hd⟩ := EPt_get hP hget
  have hb1 := hq.pa _ (List.getElem_mem hlt)
  have hb2 := hq.pt _ (List.getElem_mem hlt)
  have hb3 := hq.p3 _ (List.getElem_mem hlt)
  generalize q.parts[i] = w at hd hget hb1 hb2 hb3
  have HG : Abs.Hid ((q.parts.take (i + 1)).map (putP v n) = (q.parts.take i).map (putP v n) ++ [putP v n w]) := by
   rw [Abs.Hid, List.take_add_one, hget]; simp
  clear hget
  have hPP := fun σ => eputP_spec w id idt v n hb1 hb2 hb3 σ
  have HX0 : Abs.Hid _ := hX
  have hxl0 : Abs.Hid _ := hxl
  repeat' (first
 |with_reducible first|apply Xa|apply Xb|(refine Xc ?_;intro κ hκ)|(apply hκ.out;clear hκ κ)|apply Xd|apply Xe|apply Xf
 |((with_reducible first|refine Xl ?_ ?_|refine Xm ?_ ?_|refine Xk ?_ ?_)<;> intro h hari<;> try exact Xp)
 |((with_reducible refine aapp_go ?_);refine Xt ?_;intro idn σn hOn hKn eobj enobj ever entop)
 |((with_reducible refine aappn_go ?_);refine Xu ?_)
 |refine Xr ?_
 |exact True.intro
 |((with_reducible refine Xg ?_);refine Xj ?_)
 |(apply hκ.out;clear hκ κ))
  have hK1 : Keep σ ((σ'.new [ic 0, nilS, nilS]).put σ'.nobj [ic w.a.p, sl id w.a.ts.length (ecells w.a.ts), sl idt w.tups.length (tcs w.tups)]) := (hK.new _).put hK.nobj _
  have kv : ∀ p, p < σ'.nobj → ((σ'.new [ic 0, nilS, nilS]).put σ'.nobj [ic w.a.p, sl id w.a.ts.length (ecells w.a.ts), sl idt w.tups.length (tcs w.tups)]).obj p = σ'.obj p := fun p hp => by rw [put_ne (by omega), new_lt (by omega)]
  refine awp_mono (Q := fun e s' σ'' => e = .normal ∧ s' 1 = ic v ∧ s' 2 = ic n ∧ s' 3 = ptr σ.nobj 0 ∧ s' 6 = ptr (σ.nobj + 1) 0 ∧ s' 7 = ptr σ1.nobj 0 ∧ s' 19 = sl ip q.parts.length pc ∧ s' 20 = ic q.parts.length ∧ s' 21 = ic i ∧ Keep σ σ'' ∧ σ1.nobj < σ''.nobj ∧ σ''.obj σ.nobj = [ic q.head.p, sl ih q.head.ts.length (ecells q.head.ts), sl ip q.parts.length pc, sl inn q.nots.length nc] ∧ σ''.obj (σ.nobj + 1) = [ic 0, nilS, nilS, nilS] ∧ ∃ idn c', σ''.obj σ1.nobj = [ic q.head.p, sl idh (eputTs v n q.head.ts).length (ecells (eputTs v n q.head.ts)), sl idn (i + 1) (xs ++ c'), nilS] ∧ Own σ σ'' idn (i + 1) ∧ EPt (putP v n w) c') ?_ ?_
  ·refine awp_draw_h follows_mixed (fun _ => True) [9] [0, 1, 2, 3, 4] 5 #[true, true, true, true, true, false, false, false, false, false] (by kernel_rfl) (fun _ _ _ h => by cases h.1) ?_; intro κ hκ; refine Xr ?_; refine hκ.out _ ?_; clear hκ κ
   refine uany_one (i := 5) (by kernel_rfl) ?_; refine aOne_k ?_; intro κ hκ; refine Xr ?_
   refine ACalls.mono (hPP _) ?_
   rintro _ σ5 ⟨⟨c', rfl, hc'⟩, hK5⟩
   refine Xr ?_
   refine hκ.out _ _ ⟨kept_keep hK5, ?_⟩; clear hκ κ
   obtain ⟨x, y, z, rfl, fx1, fx2, fx3⟩ := EPt_flat hc'
   have kno5 := hK5.nobj
   have kob5 := hK5.obj
   simp only [put_nobj, new_nobj] at kno5 kob5
   have hKy := hK1.trans hK5
   have hOy := Own.keep (Own.put (Own.new hO [ic 0, nilS, nilS]) σ'.nobj [ic w.a.p, sl id w.a.ts.length (ecells w.a.ts), sl idt w.tups.length (tcs w.tups)]) hK5
   refine uany_one (i := 6) (by kernel_rfl) ?_; refine aOne_k ?_; intro κ hκ; refine Xr ?_
   refine hκ.out _ _ ⟨kept_keep (hK5.lay 1), ?_⟩; clear hκ κ
   refine uany_one (i := 7) (by kernel_rfl) ?_; refine aOne_k ?_; intro κ hκ; refine Xr ?_
   refine aApp_own (by first | exact tez_69 | exact tez_180) hKy hOy (by decide) (by rfl) hxl (by rfl) (by simp [fx1, fx2, fx3]) (by decide) (by omega) (by omega) ?_
   intro idn σn hOn hKn eobj enobj ever entop
   refine Xr ?_
   refine hκ.out _ _ ⟨fun _ o ho _ => by rw [ever]; exact hK5.ver o ho, ?_⟩; clear hκ κ
   refine uany_one (i := 8) (by kernel_rfl) ?_; refine aOne_k ?_; intro κ hκ; refine Xr ?_
   refine hκ.out _ _ ⟨fun _ o ho _ => by rw [ever]; exact hK5.ver o ho, ?_⟩; clear hκ κ
   have en : ∀ p, p < σ'.nobj → σn.obj p = σ'.obj p := fun p hp => by rw [eobj, kob5 _ (by omega), kv _ hp]
   have en1 : σn.obj σ1.nobj = [ic q.head.p, sl idh (eputTs v n q.head.ts).length (ecells (eputTs v n q.head.ts)), sl i3 i xs, nilS] := by rw [en _ hno, ob2]
   refine uany_one (i := 9) (by kernel_rfl) ?_; refine aOne_k ?_; intro κ hκ; refine Xr ?_
   refine hκ.out _ _ ⟨kept_last rfl, ?_⟩; clear hκ κ
   refine uany_done (by kernel_rfl) ⟨rfl, ?_⟩
   simp only [upd, ↓reduceIte, Nat.reduceEqDiff, h1, h2, h3, h6, h7, h19, h20, h21, true_and]
   refine ⟨hKn.put (by omega) _, by simp only [put_nobj]; omega, ?_, ?_, idn, [x, y, z], ?_, Own.put hOn _ _, hc'⟩
   ·rw [put_ne (by omega), en _ (by omega), ob0]
   ·rw [put_ne (by omega), en _ (by omega), ob1]
   ·rw [put_same]
  ·clear kv hK1 hX hO hxl ob0 ob1 ob2 hno
   rintro e s' σ'' ⟨rfl, g1, g2, g3, g6, g7, g19, g20, g21, hK, hno, ob0, ob1, idn, c', ob2, hO, hc'⟩
   have HX : Abs.Hid (EL EPt ((q.parts.take (i + 1)).map (putP v n)) (xs ++ c')) := by rw [Abs.Hid, HG.out]; exact EL.append HX0.out (EL.single hc')
   have hcl := EPt_len _ _ hc'
   repeat' (first
 |with_reducible first|apply Xa|apply Xb|(refine Xc ?_;intro κ hκ)|(apply hκ.out;clear hκ κ)|apply Xd|apply Xe|apply Xf
 |((with_reducible first|refine Xl ?_ ?_|refine Xm ?_ ?_|refine Xk ?_ ?_)<;> intro h hari<;> try exact Xp)
 |((with_reducible refine aapp_go ?_);refine Xt ?_;intro idn σn hOn hKn eobj enobj ever entop)
 |((with_reducible refine aappn_go ?_);refine Xu ?_)
 |refine Xr ?_
 |exact True.intro
 |((with_reducible refine Xg ?_);refine Xj ?_)
 |(apply hκ.out;clear hκ κ))
   refine ⟨q.parts.length - (i + 1), by omega, i + 1, idn, xs ++ c', ?_⟩
   ((repeat' with_reducible refine And.intro ?_ ?_)<;> first|exact Xq|exact (HX)|exact (by rw [List.length_append, hcl, hxl0.out]; omega)|exact Xs)
 ·have hil : i = q.parts.length := by omega
  subst hil
  rw [List.take_length] at hX
  generalize hM : q.parts.length = M at *
  have HM : Abs.Hid _ := hM
  clear hM hlt hi
  repeat' (first
 |with_reducible first|apply Xa|apply Xb|(refine Xc ?_;intro κ hκ)|(apply hκ.out;clear hκ κ)|apply Xd|apply Xe|apply Xf
 |((with_reducible first|refine Xl ?_ ?_|refine Xm ?_ ?_|refine Xk ?_ ?_)<;> intro h hari<;> try exact Xp)
 |((with_reducible refine aapp_go ?_);refine Xt ?_;intro idn σn hOn hKn eobj enobj ever entop)
 |((with_reducible refine aappn_go ?_);refine Xu ?_)
 |refine Xr ?_
 |exact True.intro
 |((with_reducible refine Xg ?_);refine Xj ?_)
 |(apply hκ.out;clear hκ κ))
  refine awp_loop (fun m s σ' => ∃ (j i4 : Nat) (ys : List AV), m = q.nots.length - j ∧ j ≤ q.nots.length ∧ s 1 = ic v ∧ s 2 = ic n ∧ s 6 = ptr (σ.nobj + 1) 0 ∧ s 7 = ptr σ1.nobj 0 ∧ s 36 = sl inn q.nots.length nc ∧ s 37 = ic q.nots.length ∧ s 38 = ic j ∧ Keep σ σ' ∧ σ1.nobj < σ'.nobj ∧ σ'.obj (σ.nobj + 1) = [ic 0, nilS, nilS, nilS] ∧ σ'.obj σ1.nobj = [ic q.head.p, sl idh (eputTs v n q.head.ts).length (ecells (eputTs v n q.head.ts)), sl i3 M xs, sl i4 j ys] ∧ Own σ σ' i4 j ∧ ys.length = j * 2 ∧ Abs.Hid (EL EAt ((q.nots.take j).map (eputA v n)) ys)) q.nots.length
   ⟨0, 1, [], by omega, by omega, by simp [upd, *], by simp [upd, *], by simp [upd, *], by simp [upd, *], by simp [upd, *], by simp [upd, *], by simp [upd], hK, hno, ob1, by rw [ob2], Own.nil _ _, by simp, by simp [Abs.Hid, EL]⟩ ?_
  clear h1 h2 h3 h6 h7 h19 h20 h21 hK hno ob0 ob1 ob2 hO kno
  rintro m s σ' ⟨j, i4, ys, rfl, hj, h1, h2, h6, h7, h36, h37, h38, hK, hno, ob1, ob2, hO, hyl, hY⟩
  have kno := hK.nobj
  by_cases hlt : j < q.nots.length
  ·have hget := List.getElem?_eq_getElem hlt
   obtain ⟨id, r, hd⟩ := EAt_get hN hget
   have hb1 := hq.na _ (List.getElem_mem hlt)
   generalize q.nots[j] = w at hd hget hb1
   have HG : Abs.Hid ((q.nots.take (j + 1)).map (eputA v n) = (q.nots.take j).map (eputA v n) ++ [eputA v n w]) := by
    rw [Abs.Hid, List.take_add_one, hget]; simp
   clear hget
   have hw1 : w.ts.length ≤ 1000 := by omega
   have hPP := fun σ => eput_spec w.p id w.ts v n hw1 σ
   have HY0 : Abs.Hid _ := hY
   have hyl0 : Abs.Hid _ := hyl
   repeat' (first
 |with_reducible first|apply Xa|apply Xb|(refine Xc ?_;intro κ hκ)|(apply hκ.out;clear hκ κ)|apply Xd|apply Xe|apply Xf
 |((with_reducible first|refine Xl ?_ ?_|refine Xm ?_ ?_|refine Xk ?_ ?_)<;> intro h hari<;> try exact Xp)
 |((with_reducible refine aapp_go ?_);refine Xt ?_;intro idn σn hOn hKn eobj enobj ever entop)
 |((with_reducible refine aappn_go ?_);refine Xu ?_)
 |refine Xr ?_
 |exact True.intro
 |((with_reducible refine Xg ?_);refine Xj ?_)
 |(apply hκ.out;clear hκ κ))
   have hK1 : Keep σ ((σ'.new [ic 0, nilS]).put σ'.nobj [ic w.p, sl id w.ts.length (ecells w.ts)]) := (hK.new _).put hK.nobj _
   have kv : ∀ p, p < σ'.nobj → ((σ'.new [ic 0, nilS]).put σ'.nobj [ic w.p, sl id w.ts.length (ecells w.ts)]).obj p = σ'.obj p := fun p hp => by rw [put_ne (by omega), new_lt (by omega)]
   refine awp_mono (Q := fun e s' σ'' => e = .normal ∧ s' 1 = ic v ∧ s' 2 = ic n ∧ s' 6 = ptr (σ.nobj + 1) 0 ∧ s' 7 = ptr σ1.nobj 0 ∧ s' 36 = sl inn q.nots.length nc ∧ s' 37 = ic q.nots.length ∧ s' 38 = ic j ∧ Keep σ σ'' ∧ σ1.nobj < σ''.nobj ∧ σ''.obj (σ.nobj + 1) = [ic 0, nilS, nilS, nilS] ∧ ∃ idn id', σ''.obj σ1.nobj = [ic q.head.p, sl idh (eputTs v n q.head.ts).length (ecells (eputTs v n q.head.ts)), sl i3 M xs, sl idn (j + 1) (ys ++ [ic w.p, sl id' (eputTs v n w.ts).length (ecells (eputTs v n w.ts))])] ∧ Own σ σ'' idn (j + 1)) ?_ ?_
   ·refine awp_draw_h follows_mixed (fun _ => True) [9] [0, 1, 2, 3, 4] 5 #[true, true, true, true, true, false, false, false, false, false] (by kernel_rfl) (fun _ _ _ h => by cases h.1) ?_; intro κ hκ; refine Xr ?_; refine hκ.out _ ?_; clear hκ κ
    refine uany_one (i := 5) (by kernel_rfl) ?_; refine aOne_k ?_; intro κ hκ; refine Xr ?_
    refine ACalls.mono (hPP _) ?_
    rintro _ σ5 ⟨⟨id', rfl⟩, hK5⟩
    refine Xr ?_
    refine hκ.out _ _ ⟨kept_keep hK5, ?_⟩; clear hκ κ
    have kno5 := hK5.nobj
    have kob5 := hK5.obj
    simp only [put_nobj, new_nobj] at kno5 kob5
    have hKy := hK1.trans hK5
    have hOy := Own.keep (Own.put (Own.new hO [ic 0, nilS]) σ'.nobj [ic w.p, sl id w.ts.length (ecells w.ts)]) hK5
    refine uany_one (i := 6) (by kernel_rfl) ?_; refine aOne_k ?_; intro κ hκ; refine Xr ?_
    refine hκ.out _ _ ⟨kept_keep (hK5.lay 1), ?_⟩; clear hκ κ
    refine uany_one (i := 7) (by kernel_rfl) ?_; refine aOne_k ?_; intro κ hκ; refine Xr ?_
    refine aApp_own (by first | exact tez_69 | exact tez_180) hKy hOy (by decide) (by rfl) hyl (by rfl) (by rfl) (by decide) (by omega) (by omega) ?_
    intro idn σn hOn hKn eobj enobj ever entop
    refine Xr ?_
    refine hκ.out _ _ ⟨fun _ o ho _ => by rw [ever]; exact hK5.ver o ho, ?_⟩; clear hκ κ
    refine uany_one (i := 8) (by kernel_rfl) ?_; refine aOne_k ?_; intro κ hκ; refine Xr ?_
    refine hκ.out _ _ ⟨fun _ o ho _ => by rw [ever]; exact hK5.ver o ho, ?_⟩; clear hκ κ
    have en : ∀ p, p < σ'.nobj → σn.obj p = σ'.obj p := fun p hp => by rw [eobj, kob5 _ (by omega), kv _ hp]
    have en1 : σn.obj σ1.nobj = [ic q.head.p, sl idh (eputTs v n q.head.ts).length (ecells (eputTs v n q.head.ts)), sl i3 M xs, sl i4 j ys] := by rw [en _ hno, ob2]
    refine uany_one (i := 9) (by kernel_rfl) ?_; refine aOne_k ?_; intro κ hκ; refine Xr ?_
    refine hκ.out _ _ ⟨kept_last rfl, ?_⟩; clear hκ κ
    refine uany_done (by kernel_rfl) ⟨rfl, ?_⟩
    simp only [upd, ↓reduceIte, Nat.reduceEqDiff, h1, h2, h6, h7, h36, h37, h38, true_and]
    refine ⟨hKn.put (by omega) _, by simp only [put_nobj]; omega, ?_, idn, id', ?_, Own.put hOn _ _⟩
    ·rw [put_ne (by omega), en _ (by omega), ob1]
    ·rw [put_same]
   ·clear kv hK1 hY hO hyl ob1 ob2 hno
    rintro e s' σ'' ⟨rfl, g1, g2, g6, g7, g36, g37, g38, hK, hno, ob1, idn, id', ob2, hO⟩
    have HX : Abs.Hid (EL EAt ((q.nots.take (j + 1)).map (eputA v n)) (ys ++ [ic w.p, sl id' (eputTs v n w.ts).length (ecells (eputTs v n w.ts))])) := by rw [Abs.Hid, HG.out]; exact EL.append HY0.out (EL.single ⟨id', rfl⟩)
    repeat' (first
 |with_reducible first|apply Xa|apply Xb|(refine Xc ?_;intro κ hκ)|(apply hκ.out;clear hκ κ)|apply Xd|apply Xe|apply Xf
 |((with_reducible first|refine Xl ?_ ?_|refine Xm ?_ ?_|refine Xk ?_ ?_)<;> intro h hari<;> try exact Xp)
 |((with_reducible refine aapp_go ?_);refine Xt ?_;intro idn σn hOn hKn eobj enobj ever entop)
 |((with_reducible refine aappn_go ?_);refine Xu ?_)
 |refine Xr ?_
 |exact True.intro
 |((with_reducible refine Xg ?_);refine Xj ?_)
 |(apply hκ.out;clear hκ κ))
    refine ⟨q.nots.length - (j + 1), by omega, j + 1, idn, ys ++ [ic w.p, sl id' (eputTs v n w.ts).length (ecells (eputTs v n w.ts))], ?_⟩
    ((repeat' with_reducible refine And.intro ?_ ?_)<;> first|exact Xq|exact (HX)|exact (by rw [List.length_append, hyl0.out]; simp; omega)|exact Xs)
  ·have hjl : j = q.nots.length := by omega
   subst hjl
   rw [List.take_length] at hY
   have hL1 : (q.parts.map (putP v n)).length = M := by rw [List.length_map]; exact HM.out
   have hL2 : (q.nots.map (eputA v n)).length = q.nots.length := by rw [List.length_map]
   repeat' (first
 |with_reducible first|apply Xa|apply Xb|(refine Xc ?_;intro κ hκ)|(apply hκ.out;clear hκ κ)|apply Xd|apply Xe|apply Xf
 |((with_reducible first|refine Xl ?_ ?_|refine Xm ?_ ?_|refine Xk ?_ ?_)<;> intro h hari<;> try exact Xp)
 |((with_reducible refine aapp_go ?_);refine Xt ?_;intro idn σn hOn hKn eobj enobj ever entop)
 |((with_reducible refine aappn_go ?_);refine Xu ?_)
 |refine Xr ?_
 |exact True.intro
 |((with_reducible refine Xg ?_);refine Xj ?_)
 |(apply hκ.out;clear hκ κ))
   exact ⟨_, rfl, ⟨_, rfl, idh, i3, i4, xs, ys, by simp only [eputQ, eputA]; rw [hL1, hL2], hX.out, hY.out⟩, hK.put (by omega) _⟩
end Go.Proofs.YtmoeoppbmhfbpaaGreatDoorB
