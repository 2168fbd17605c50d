import Derived.Test.YtmoeoppbmhfbpaaGreatDoorUEngU
/- The program's engine: a query reduced (with nothing that must not be). -/
namespace Go.Proofs.YtmoeoppbmhfbpaaGreatDoorU
open Go.Abs
set_option linter.unusedSimpArgs false
set_option linter.unusedVariables false
set_option maxRecDepth 100000
structure QAll (q : Qry) : Prop where
 ok : QOk q
 n : QN q
 w : WP q
 nt : q.nots = []
 wf : WFv q
theorem TrimR.ok {q q' : Qry} (h : TrimR q q') (hq : QOk q) : QOk q' ∧ q'.nots = q.nots ∧ ∀ p ∈ q'.parts, p ∈ q.parts := by
 induction h with
 | refl => exact ⟨hq, rfl, fun p hp => hp⟩
 | tail h ih => exact ⟨trim1_ok ih.1, ih.2.1, fun p hp => ih.2.2 p (List.mem_of_mem_eraseP hp)⟩
theorem wfv_nar {q q' : Qry} (h : NarS q q') (hw : WFv q) : WFv q' := fun v hv => by
 obtain ⟨e1, e2, e3⟩ := h.atoms
 rw [e2, e3] at hv
 obtain ⟨p, hp, hpv⟩ := hw v hv
 have : p.a ∈ q'.parts.map (·.a) := by rw [e1]; exact List.mem_map.2 ⟨p, hp, rfl⟩
 obtain ⟨p', h1, h2⟩ := List.mem_map.1 this
 exact ⟨p', h1, by rw [h2]; exact hpv⟩
def RedA (neg : Int → Tup → Prop) (q : Qry) (x : AV) : Prop := ∃ c', (x = tp [ag c', sc (.bool false)] ∧ c'.length = 4 ∧ c'.all flat = true ∧ ∀ ν, ¬ Sol neg q ν) ∨ ∃ q', x = tp [ag c', sc (.bool true)] ∧ EQ q' c' ∧ QAll q' ∧ NE q' ∧ Red neg q q'
set_option maxHeartbeats 32000000 in
theorem ered_spec (neg : Int → Tup → Prop) (q : Qry) (c : List AV) (om : Nat) (hc : EQ q c) (hA : QAll q) (σ : St) : ACalls Tryz.prog 169 [ptr om 0, ag c] σ fun r σ' => RedA neg q r ∧ Keep σ σ' := by
 obtain ⟨ih, ip, inn, pc, nc, rfl, hP, hNn⟩ := hc
 have hpl := EL.length EPt_len hP
 have hl := hA.ok.pl
 have hnt := hA.nt
 rw [hnt] at hNn
 have hnc : nc = [] := hNn
 subst hnc
 rw [hnt]
 simp only [List.length_nil]
 clear hNn
 refine acalls 86 [.cell 4 182, .tmp 5] Tryz.func169 rfl (by decide) rfl rfl (Nat.le_of_ble_eq_true rfl) ?_
 repeat' (first
 |with_reducible first|apply Xa|apply Xb|(refine Xc ?_;intro κ hκ)|(apply hκ.out;clear hκ κ)|apply Xd|apply Xe|apply Xf
 |((with_reducible first|refine Xl ?_ ?_|refine Xm ?_ ?_|refine Xk ?_ ?_)<;> intro h hari<;> try exact Xp)
 |((with_reducible refine aapp_go ?_);refine Xt ?_;intro idn σn hOn hKn eobj enobj ever entop)
 |((with_reducible refine aappn_go ?_);refine Xu ?_)
 |refine Xr ?_
 |exact True.intro
 |((with_reducible refine Xg ?_);refine Xj ?_)
 |(apply hκ.out;clear hκ κ))
 refine awp_loop (fun m s σ' => ∃ (i i3 : Nat) (xs : List AV), m = q.parts.length - i ∧ i ≤ q.parts.length ∧ s 3 = ptr σ.nobj 0 ∧ s 4 = ptr (σ.nobj + 1) 0 ∧ s 6 = ptr (σ.nobj + 2) 0 ∧ s 18 = sl ip q.parts.length pc ∧ s 19 = ic q.parts.length ∧ s 20 = ic i ∧ Keep σ σ' ∧ σ.nobj + 2 < σ'.nobj ∧ σ'.obj σ.nobj = [ic q.head.p, sl ih q.head.ts.length (ecells q.head.ts), sl ip q.parts.length pc, sl inn 0 []] ∧ σ'.obj (σ.nobj + 1) = [ic 0, nilS, nilS, nilS] ∧ σ'.obj (σ.nobj + 2) = [ic q.head.p, sl ih q.head.ts.length (ecells q.head.ts), sl i3 i xs, nilS] ∧ Own σ σ' i3 i ∧ xs.length = i * 3 ∧ Abs.Hid (EL EPt (q.parts.take i) xs)) q.parts.length
  ⟨0, 1, [], by omega, by omega, by simp [upd], by simp [upd], by simp [upd], by simp [upd], by simp [upd], rfl, by exact Xs, by simp only [put_nobj, new_nobj]; omega, ?_, ?_, ?_, Own.nil _ _, by simp, rfl⟩ ?_
 ·rw [put_ne (by omega), new_lt (by simp only [new_nobj]; omega), new_lt (by simp only [new_nobj]; omega), new_same]
 ·rw [put_ne (by omega), new_lt (by simp only [new_nobj]; omega), new_at (by simp only [new_nobj]; omega) (by simp only [new_nobj]; omega)]
 ·rw [show σ.nobj + 2 = σ.nobj + 1 + 1 from rfl, put_same]
 rintro m s σ' ⟨i, i3, xs, rfl, hi, h3, h4, h6, h18, h19, h20, hK, hno, ob0, ob1, ob2, hO, hxl, hX⟩
 have kno := hK.nobj
 by_cases hlt : i < q.parts.length
 ·have hget := List.getElem?_eq_getElem hlt
  obtain ⟨id, idt, r, hd⟩ := EPt_get hP hget
  generalize q.parts[i] = w at hd hget
  have HX : Abs.Hid (EL EPt (q.parts.take (i + 1)) (xs ++ [ic w.a.p, sl id w.a.ts.length (ecells w.a.ts), sl idt w.tups.length (tcs w.tups)])) := by
   rw [Abs.Hid, List.take_add_one, hget, Option.toList_some]
   exact EL.append hX.out (EL.single ⟨id, idt, rfl⟩)
  clear hget hX
  repeat' (first
 |with_reducible first|apply Xa|apply Xb|(refine Xc ?_;intro κ hκ)|(apply hκ.out;clear hκ κ)|apply Xd|apply Xe|apply Xf
 |((with_reducible first|refine Xl ?_ ?_|refine Xm ?_ ?_|refine Xk ?_ ?_)<;> intro h hari<;> try exact Xp)
 |((with_reducible refine aapp_go ?_);refine Xt ?_;intro idn σn hOn hKn eobj enobj ever entop)
 |((with_reducible refine aappn_go ?_);refine Xu ?_)
 |refine Xr ?_
 |exact True.intro
 |((with_reducible refine Xg ?_);refine Xj ?_)
 |(apply hκ.out;clear hκ κ))
  refine aApp_own (by first | exact tez_69 | exact tez_180) ((hK.new _).put hK.nobj _) (Own.put (Own.new hO _) _ _) (by decide) (by rfl) (hxl) (by rfl) (by rfl) (by decide) (by omega) (by omega) ?_
  intro idn σn hOn hKn eobj enobj ever entop
  simp only [put_nobj, new_nobj] at enobj
  have eob : ∀ p, p < σ'.nobj → σn.obj p = σ'.obj p := fun p hp => by rw [eobj, put_ne (by omega), new_lt (by omega)]
  refine Xr ?_
  repeat' (first
 |with_reducible first|apply Xa|apply Xb|(refine Xc ?_;intro κ hκ)|(apply hκ.out;clear hκ κ)|apply Xd|apply Xe|apply Xf
 |((with_reducible first|refine Xl ?_ ?_|refine Xm ?_ ?_|refine Xk ?_ ?_)<;> intro h hari<;> try exact Xp)
 |((with_reducible refine aapp_go ?_);refine Xt ?_;intro idn σn hOn hKn eobj enobj ever entop)
 |((with_reducible refine aappn_go ?_);refine Xu ?_)
 |refine Xr ?_
 |exact True.intro
 |((with_reducible refine Xg ?_);refine Xj ?_)
 |(apply hκ.out;clear hκ κ))
  refine ⟨q.parts.length - (i + 1), by omega, i + 1, idn, xs ++ [ic w.a.p, sl id w.a.ts.length (ecells w.a.ts), sl idt w.tups.length (tcs w.tups)], ?_⟩
  ((repeat' with_reducible refine And.intro ?_ ?_)<;> first|exact Xq|exact (hKn.put (by omega) _)|exact (Own.put hOn _ _)|exact (HX)|exact Xs)
 ·have hil : i = q.parts.length := by omega
  subst hil
  rw [List.take_length] at hX
  have hEq : EQ q [ic q.head.p, sl ih q.head.ts.length (ecells q.head.ts), sl i3 q.parts.length xs, nilS] := ⟨ih, i3, 1, xs, [], by rw [hnt]; rfl, hX.out, by rw [hnt]; rfl⟩
  have hNar := fun σ => enar_spec q _ hEq hA.ok hA.n σ
  clear hEq hX hi
  repeat' (first
 |with_reducible first|apply Xa|apply Xb|(refine Xc ?_;intro κ hκ)|(apply hκ.out;clear hκ κ)|apply Xd|apply Xe|apply Xf
 |((with_reducible first|refine Xl ?_ ?_|refine Xm ?_ ?_|refine Xk ?_ ?_)<;> intro h hari<;> try exact Xp)
 |((with_reducible refine aapp_go ?_);refine Xt ?_;intro idn σn hOn hKn eobj enobj ever entop)
 |((with_reducible refine aappn_go ?_);refine Xu ?_)
 |refine Xr ?_
 |exact True.intro
 |((with_reducible refine Xg ?_);refine Xj ?_)
 |(apply hκ.out;clear hκ κ))
  refine awp_loop (fun m s σ' => m = 0 ∧ s 4 = ptr (σ.nobj + 1) 0 ∧ s 6 = ptr (σ.nobj + 2) 0 ∧ s 33 = ic 0 ∧ s 34 = ic 0 ∧ Keep σ σ' ∧ σ.nobj + 2 < σ'.nobj ∧ σ'.obj (σ.nobj + 1) = [ic 0, nilS, nilS, nilS] ∧ σ'.obj (σ.nobj + 2) = [ic q.head.p, sl ih q.head.ts.length (ecells q.head.ts), sl i3 q.parts.length xs, nilS]) 0
   ⟨rfl, by simp [upd, *], by simp [upd, *], by simp [upd, *], by simp [upd], hK, hno, ob1, ob2⟩ ?_
  clear h3 h4 h6 h18 h19 h20 hK hno ob0 ob1 ob2 hO hxl kno hlt
  rintro m s σ' ⟨rfl, h4, h6, h33, h34, hK, hno, ob1, ob2⟩
  have kno := hK.nobj
  repeat' (first
 |with_reducible first|apply Xa|apply Xb|(refine Xc ?_;intro κ hκ)|(apply hκ.out;clear hκ κ)|apply Xd|apply Xe|apply Xf
 |((with_reducible first|refine Xl ?_ ?_|refine Xm ?_ ?_|refine Xk ?_ ?_)<;> intro h hari<;> try exact Xp)
 |((with_reducible refine aapp_go ?_);refine Xt ?_;intro idn σn hOn hKn eobj enobj ever entop)
 |((with_reducible refine aappn_go ?_);refine Xu ?_)
 |((with_reducible refine Xh ?_);refine Xi (hNar _) ?_;rintro _ _ ⟨⟨_,q1,qp,rfl,⟨ih1,ip1,in1,pc1,nc1,rfl,hP1,hN1⟩,n1,n2,n3,n4⟩,hK2⟩;(have N3 : Abs.Hid (q1 = rnd qp (varsL (atomsQ qp))):=n3;clear n3;have kno2:=hK2.nobj;have kob2:=hK2.obj;have hKx:=hK.trans hK2))
 |refine Xr ?_
 |exact True.intro
 |((with_reducible refine Xg ?_);refine Xj ?_)
 |(apply hκ.out;clear hκ κ))
  rename_i σ1
  have o1 : σ1.obj (σ.nobj + 1) = [ic 0, nilS, nilS, nilS] := by rw [kob2 _ (by omega), ob1]
  have hw1 : WP q1 := n2.wp hA.w
  have hq1 : QOk q1 := n2.ok hA.ok
  have hn1 : QN q1 := n2.n hA.n
  have hnt1 : q1.nots = [] := n2.atoms.2.2.trans hnt
  have hr1 : Red neg q q1 := n2.red hA.w
  have hwf1 : WFv q1 := wfv_nar n2 hA.wf
  have hnr1 : Nrw q1 := by
   obtain ⟨g1, g2⟩ := (rnd_size (varsL (atomsQ qp)) qp).2 (by rw [← N3.out]; exact n4)
   rw [N3.out, g1]
   exact nrw_of g2
  have HQ1 : Abs.Hid (WP q1 ∧ QOk q1 ∧ QN q1 ∧ q1.nots = [] ∧ Red neg q q1 ∧ WFv q1 ∧ Nrw q1) := ⟨hw1, hq1, hn1, hnt1, hr1, hwf1, hnr1⟩
  clear hw1 hn1 hnt1 hr1 hwf1 hnr1 n1 n2 N3 n4 kob2 hK2 hNar
  have hl1 := hq1.pl
  have ht1 := hq1.pt
  clear hq1
  have hpl1 := EL.length EPt_len hP1
  refine awp_loop (fun m s σ2 => ∃ j : Nat, m = q1.parts.length - j ∧ j ≤ q1.parts.length ∧ s 4 = ptr (σ.nobj + 1) 0 ∧ s 6 = ptr (σ.nobj + 2) 0 ∧ s 72 = sl ip1 q1.parts.length pc1 ∧ s 73 = ic q1.parts.length ∧ s 74 = ic j ∧ Keep σ σ2 ∧ σ.nobj + 2 < σ2.nobj ∧ σ2.obj (σ.nobj + 1) = [ic 0, nilS, nilS, nilS] ∧ σ2.obj (σ.nobj + 2) = [ic q1.head.p, sl ih1 q1.head.ts.length (ecells q1.head.ts), sl ip1 q1.parts.length pc1, sl in1 q1.nots.length nc1] ∧ Abs.Hid (∀ p ∈ q1.parts.take j, p.tups ≠ [])) q1.parts.length
   ⟨0, by omega, by omega, by simp [upd, *], by simp [upd, *], by simp [upd], by simp [upd], rfl, hKx.put (by omega) _, by simp only [put_nobj]; omega, by rw [put_ne (by omega), o1], by rw [put_same], by simp [Abs.Hid]⟩ ?_
  clear h4 h6 h33 h34 hK hno ob1 ob2 o1 hKx kno kno2
  rintro m s σ2 ⟨j, rfl, hj, h4, h6, h72, h73, h74, hK, hno, ob1, ob2, hJ⟩
  have kno := hK.nobj
  by_cases hlt : j < q1.parts.length
  ·have hget := List.getElem?_eq_getElem hlt
   obtain ⟨id, idt, r, hd⟩ := EPt_get hP1 hget
   have hmem := List.getElem_mem hlt
   have htw := ht1 _ hmem
   generalize q1.parts[j] = w at hd hget hmem htw
   by_cases he : w.tups = []
   ·have hw0 : w.tups.length = 0 := by rw [he]; rfl
    have HF : Abs.Hid (∀ ν, ¬ Sol neg q ν) := fun ν hν => by
     have h1 := (HQ1.out.2.2.2.2.1.to ν hν).1 w hmem
     rw [he] at h1
     cases h1
    have hb : ((w.tups.length : Int) == 0) = true := by rw [hw0]; rfl
    clear hget hw0 he hJ
    repeat' (first
 |with_reducible first|apply Xa|apply Xb|(refine Xc ?_;intro κ hκ)|(apply hκ.out;clear hκ κ)|apply Xd|apply Xe|apply Xf
 |((with_reducible first|refine Xl ?_ ?_|refine Xm ?_ ?_|refine Xk ?_ ?_)<;> intro h hari<;> try exact Xp)
 |((with_reducible refine aapp_go ?_);refine Xt ?_;intro idn σn hOn hKn eobj enobj ever entop)
 |((with_reducible refine aappn_go ?_);refine Xu ?_)
 |refine Xr ?_
 |exact True.intro
 |((with_reducible refine Xg ?_);refine Xj ?_)
 |(apply hκ.out;clear hκ κ))
    exact ⟨_, rfl, ⟨_, .inl ⟨rfl, rfl, rfl, HF.out⟩⟩, ((hK.new _).put hK.nobj _).put (by omega) _⟩
   ·have hb : ((w.tups.length : Int) == 0) = false := by
     have : w.tups.length ≠ 0 := fun h => he (List.eq_nil_of_length_eq_zero h)
     simp; exact he
    have HJ : Abs.Hid (∀ p ∈ q1.parts.take (j + 1), p.tups ≠ []) := by
     rw [Abs.Hid, List.take_add_one, hget, Option.toList_some]
     intro p hp
     rcases List.mem_append.1 hp with h | h
     ·exact hJ.out p h
     ·simp at h; subst h; exact he
    clear hget he hJ
    repeat' (first
 |with_reducible first|apply Xa|apply Xb|(refine Xc ?_;intro κ hκ)|(apply hκ.out;clear hκ κ)|apply Xd|apply Xe|apply Xf
 |((with_reducible first|refine Xl ?_ ?_|refine Xm ?_ ?_|refine Xk ?_ ?_)<;> intro h hari<;> try exact Xp)
 |((with_reducible refine aapp_go ?_);refine Xt ?_;intro idn σn hOn hKn eobj enobj ever entop)
 |((with_reducible refine aappn_go ?_);refine Xu ?_)
 |refine Xr ?_
 |exact True.intro
 |((with_reducible refine Xg ?_);refine Xj ?_)
 |(apply hκ.out;clear hκ κ))
    refine ⟨q1.parts.length - (j + 1), by omega, j + 1, ?_⟩
    ((repeat' with_reducible refine And.intro ?_ ?_)<;> first|exact Xq|exact (HJ)|exact Xs)
  ·have hjl : j = q1.parts.length := by omega
   subst hjl
   rw [List.take_length] at hJ
   obtain ⟨a1, a2, a3, a4, a5, a6, a7⟩ := HQ1.out
   have hTr := fun σ => etrim_spec q1 _ ⟨ih1, ip1, in1, pc1, nc1, rfl, hP1, hN1⟩ a2 σ
   have HNE : Abs.Hid (NE q1) := hJ.out
   clear a1 a2 a3 a4 a5 a6 a7 hJ
   repeat' (first
 |with_reducible first|apply Xa|apply Xb|(refine Xc ?_;intro κ hκ)|(apply hκ.out;clear hκ κ)|apply Xd|apply Xe|apply Xf
 |((with_reducible first|refine Xl ?_ ?_|refine Xm ?_ ?_|refine Xk ?_ ?_)<;> intro h hari<;> try exact Xp)
 |((with_reducible refine aapp_go ?_);refine Xt ?_;intro idn σn hOn hKn eobj enobj ever entop)
 |((with_reducible refine aappn_go ?_);refine Xu ?_)
 |((with_reducible refine Xh ?_);refine Xi (hTr _) ?_;rintro _ _ ⟨⟨_,q2,rfl,⟨ih2,ip2,in2,pc2,nc2,rfl,hP2,hN2⟩,hq2,hR2⟩,hK2⟩;(have kno2:=hK2.nobj;have kob2:=hK2.obj;have hKx:=hK.trans hK2))
 |refine Xr ?_
 |exact True.intro
 |((with_reducible refine Xg ?_);refine Xj ?_)
 |(apply hκ.out;clear hκ κ))
   obtain ⟨a1, a2, a3, a4, a5, a6, a7⟩ := HQ1.out
   obtain ⟨t1, t2, t3⟩ := hR2.red (neg := neg) a1 HNE.out a7
   obtain ⟨-, u2, u3⟩ := hR2.ok a2
   exact ⟨_, rfl, ⟨_, .inr ⟨q2, rfl, ⟨ih2, ip2, in2, pc2, nc2, rfl, hP2, hN2⟩, ⟨hq2, fun p hp => a3 p (u3 p hp), fun p hp => a1 p (u3 p hp), u2.trans a4, t3 a6⟩, fun p hp => HNE.out p (u3 p hp), a5.trans t1⟩⟩, hKx.put (by omega) _⟩
/- The program's engine: does a query hold? -/
theorem putP_len (v n : Int) (p : Part) : (putP v n p).a.ts.length = p.a.ts.length ∧ (putP v n p).tups.length ≤ p.tups.length ∧ ∀ t ∈ (putP v n p).tups, t ∈ p.tups := by
 unfold putP
 split
 ·exact ⟨by simp [eputTs], List.length_filter_le _ _, fun t ht => (List.mem_filter.1 ht).1⟩
 ·exact ⟨rfl, Nat.le_refl _, fun t ht => ht⟩
theorem putP_has {v n : Int} {p : Part} {w : Int} : hasV (putP v n p).a.ts w = true ↔ hasV p.a.ts w = true ∧ w ≠ v := by
 unfold putP
 by_cases h : hasV p.a.ts v = true
 ·rw [if_pos h]; exact hasV_put (a := p.a)
 ·rw [if_neg h]
  exact ⟨fun hw => ⟨hw, fun e => h (e ▸ hw)⟩, fun hw => hw.1⟩
theorem inQ_put {q : Qry} {v n w : Int} (h : inQ (eputQ v n q) w) : inQ q w ∧ w ≠ v := by
 obtain ⟨a, ha, hw⟩ := h
 unfold atomsQ eputQ at ha
 simp only [List.mem_cons, List.mem_append, List.mem_map] at ha
 rcases ha with rfl | ⟨p', ⟨p, hp, rfl⟩, rfl⟩ | ⟨b, hb, rfl⟩
 ·have := hasV_put.1 hw
  exact ⟨⟨q.head, by simp [atomsQ], this.1⟩, this.2⟩
 ·have := putP_has.1 hw
  exact ⟨⟨p.a, part_in hp, this.1⟩, this.2⟩
 ·have := hasV_put.1 hw
  exact ⟨⟨b, by simp [atomsQ, hb], this.1⟩, this.2⟩
theorem qall_put {q : Qry} {v n : Int} (h : QAll q) : QAll (eputQ v n q) := by
 have hm : ∀ p ∈ (eputQ v n q).parts, ∃ p0 ∈ q.parts, putP v n p0 = p := fun p hp => List.mem_map.1 hp
 refine ⟨⟨by simp [eputQ, eputA, eputTs]; exact h.ok.hd, by simp [eputQ]; exact h.ok.pl, by simp [eputQ]; exact h.ok.nl, fun p hp => ?_, fun p hp => ?_, fun p hp => ?_, ?_⟩, fun p hp t ht => ?_, wp_put h.w, by simp [eputQ, h.nt], fun w hw => ?_⟩
 ·obtain ⟨p0, h0, rfl⟩ := hm p hp; rw [(putP_len v n p0).1]; exact h.ok.pa p0 h0
 ·obtain ⟨p0, h0, rfl⟩ := hm p hp; exact Nat.le_trans (putP_len v n p0).2.1 (h.ok.pt p0 h0)
 ·obtain ⟨p0, h0, rfl⟩ := hm p hp; exact fun t ht => h.ok.p3 p0 h0 t ((putP_len v n p0).2.2 t ht)
 ·intro a ha
  simp [eputQ, h.nt] at ha
 ·obtain ⟨p0, h0, rfl⟩ := hm p hp
  rw [(putP_len v n p0).1]
  exact h.n p0 h0 t ((putP_len v n p0).2.2 t ht)
 ·have hw' : hasV q.head.ts w = true ∧ w ≠ v := by
   rcases hw with hw | ⟨a, ha, hw⟩
   ·exact hasV_put.1 hw
   ·simp [eputQ, h.nt] at ha
  obtain ⟨p, hp, hpv⟩ := h.wf w (.inl hw'.1)
  exact ⟨putP v n p, List.mem_map.2 ⟨p, hp, rfl⟩, putP_has.2 ⟨hpv, hw'.2⟩⟩
theorem qall_sub {q q' : Qry} (h : QAll q) (hh : q'.head.ts.length ≤ 3) (hp : q'.parts.Sublist q.parts) (hn : q'.nots = []) (hw : WFv q') : QAll q' :=
 ⟨⟨hh, Nat.le_trans hp.length_le h.ok.pl, by rw [hn]; simp, fun p hp' => h.ok.pa p (hp.subset hp'), fun p hp' => h.ok.pt p (hp.subset hp'), fun p hp' => h.ok.p3 p (hp.subset hp'), fun a ha => by rw [hn] at ha; cases ha⟩,
  fun p hp' => h.n p (hp.subset hp'), fun p hp' => h.w p (hp.subset hp'), hn, hw⟩
theorem wfv_bare {q : Qry} (h1 : q.head.ts = []) (h2 : q.nots = []) : WFv q := fun v hv => by
 rcases hv with h | ⟨a, ha, -⟩
 ·rw [h1] at h; simp [hasV] at h
 ·rw [h2] at ha; cases ha
theorem inQ_bare {q : Qry} (h1 : q.head.ts = []) (h2 : q.nots = []) {v : Int} (h : inQ q v) : ∃ p ∈ q.parts, hasV p.a.ts v = true := by
 obtain ⟨a, ha, hv⟩ := h
 unfold atomsQ at ha
 simp only [List.mem_cons, List.mem_append, List.mem_map] at ha
 rcases ha with rfl | ⟨p, hp, rfl⟩ | ha
 ·rw [h1] at hv; simp [hasV] at hv
 ·exact ⟨p, hp, hv⟩
 ·rw [h2] at ha; cases ha
def HoldsAt (neg : Int → Tup → Prop) (om : Nat) (V : List Int) : Prop := ∀ (q : Qry) (c : List AV), EQ q c → QAll q → QV q → q.head.ts = [] → (∀ v, inQ q v → v ∈ V) → ∀ σ, ACalls Tryz.prog 170 [ptr om 0, ag c] σ fun r σ' => (∃ b, r = sc (.bool b) ∧ (b = true ↔ ∃ ν, Sol neg q ν)) ∧ Keep σ σ'
set_option maxHeartbeats 16000000 in
theorem eholdsFor_spec (neg : Int → Tup → Prop) (om : Nat) (V : List Int) (hH : HoldsAt neg om V) (q : Qry) (c : List AV) (v : Int) (hc : EQ q c) (hA : QAll q) (hV : QV q) (hh : q.head.ts = []) (hin : ∀ w, inQ q w → w ≠ v → w ∈ V) (σ : St) : ACalls Tryz.prog 216 [ptr om 0, ag c, ic v] σ fun r σ' => (∃ b, r = sc (.bool b) ∧ (b = true ↔ ∃ n ∈ valQ q v, ∃ ν, Sol neg (eputQ v n q) ν)) ∧ Keep σ σ' := by
 have hVl := fun σ => evalues_spec q c v hc hA.ok hA.n σ
 have hvl := valQ_len hA.n v
 have hPu := fun n σ => eputQ_spec q c v n hc hA.ok σ
 have hHo : ∀ (n : Int) (c2 : List AV), EQ (eputQ v n q) c2 → ∀ σ, ACalls Tryz.prog 170 [ptr om 0, ag c2] σ fun r σ' => (∃ b, r = sc (.bool b) ∧ (b = true ↔ ∃ ν, Sol neg (eputQ v n q) ν)) ∧ Keep σ σ' := fun n c2 h2 σ =>
  hH _ c2 h2 (qall_put hA) (fun a ha w hw => by
   obtain ⟨⟨b, hb, hbw⟩, -⟩ := inQ_put (q := q) (v := v) (n := n) (w := w) ⟨a, ha, hasV_iff.2 hw⟩
   exact hV b hb w (hasV_iff.1 hbw)) (by simp [eputQ, eputA, eputTs, hh]) (fun w hw => by
   obtain ⟨h1, h2⟩ := inQ_put hw
   exact hin w h1 h2) σ
 clear hh
 obtain ⟨ih, ip, inn, pc, nc, rfl, -, -⟩ := hc
 generalize valQ q v = vs at *
 have hvi := icells_len vs
 refine acalls 26 [.tmp 6] Tryz.func216 rfl (by decide) rfl rfl (Nat.le_of_ble_eq_true rfl) ?_
 repeat' (first
 |with_reducible first|apply Xa|apply Xb|(refine Xc ?_;intro κ hκ)|(apply hκ.out;clear hκ κ)|apply Xd|apply Xe|apply Xf
 |((with_reducible first|refine Xl ?_ ?_|refine Xk ?_ ?_)<;> intro h hari<;> try exact Xp)
 |((with_reducible refine Xh ?_);refine Xi (hVl _) ?_;rintro _ _ ⟨⟨idv,rfl⟩,hK2⟩;(have kno2:=hK2.nobj;have kob2:=hK2.obj;have hKx:=((Keep.refl σ).new _).trans hK2;simp only [new_nobj] at kno2 kob2))
 |refine Xr ?_
 |exact True.intro
 |(apply hκ.out;clear hκ κ))
 rename_i σ1
 have o0 : σ1.obj σ.nobj = [ic q.head.p, sl ih q.head.ts.length (ecells q.head.ts), sl ip q.parts.length pc, sl inn q.nots.length nc] := by rw [kob2 _ (by omega), new_same]
 clear kob2 hK2 hVl
 refine awp_loop (fun m s σ' => ∃ j : Nat, m = vs.length - j ∧ j ≤ vs.length ∧ s 0 = ptr om 0 ∧ s 2 = ic v ∧ s 4 = ptr σ.nobj 0 ∧ s 12 = sl idv vs.length (icells vs) ∧ s 13 = ic vs.length ∧ s 14 = ic j ∧ Keep σ σ' ∧ σ.nobj < σ'.nobj ∧ σ'.obj σ.nobj = [ic q.head.p, sl ih q.head.ts.length (ecells q.head.ts), sl ip q.parts.length pc, sl inn q.nots.length nc] ∧ Abs.Hid (∀ n ∈ vs.take j, ¬ ∃ ν, Sol neg (eputQ v n q) ν)) vs.length
  ⟨0, by omega, by omega, by simp [upd, initS], by simp [upd, initS], by simp [upd], by simp [upd], by simp [upd], rfl, hKx, by omega, o0, by simp [Abs.Hid]⟩ ?_
 clear hKx o0 kno2
 rintro m s σ' ⟨j, rfl, hj, h0, h2, h4, h12, h13, h14, hK, hno, ob, hN⟩
 have kno := hK.nobj
 by_cases hlt : j < vs.length
 ·have hget := List.getElem?_eq_getElem hlt
  obtain ⟨r, hd⟩ := icells_get hget
  have hmem := List.getElem_mem hlt
  generalize vs[j] = n at hd hget hmem
  have HG : Abs.Hid (n ∈ vs ∧ vs[j]? = some n) := ⟨hmem, hget⟩
  clear hget hmem
  have hPu := hPu n
  repeat' (first
 |with_reducible first|apply Xa|apply Xb|(refine Xc ?_;intro κ hκ)|(apply hκ.out;clear hκ κ)|apply Xd|apply Xe|apply Xf
 |((with_reducible first|refine Xl ?_ ?_|refine Xk ?_ ?_)<;> intro h hari<;> try exact Xp)
 |((with_reducible refine Xh ?_);first|(refine Xi (hPu _) ?_;rintro _ _ ⟨⟨_,rfl,ih2,ip2,in2,pc2,nc2,rfl,hP2,hN2⟩,hK3⟩;(have kno3:=hK3.nobj;have kob3:=hK3.obj;have hKx:=hK.trans hK3;have hHn:=hHo n _ ⟨ih2,ip2,in2,pc2,nc2,rfl,hP2,hN2⟩))|(refine Xi (hHn _) ?_;rintro _ _ ⟨⟨bb,rfl,hbb⟩,hK4⟩;(have kno4:=hK4.nobj;have kob4:=hK4.obj;have hKy:=((hKx.new _).put (by omega) _).trans hK4;have HBB : Abs.Hid _:=hbb;clear hbb;simp only [put_nobj,new_nobj] at kno4 kob4)))
 |refine Xr ?_
 |exact True.intro
 |(apply hκ.out;clear hκ κ))
  ·exact ⟨_, rfl, ⟨true, rfl, fun _ => ⟨n, HG.out.1, HBB.out.1 (by assumption)⟩, fun _ => rfl⟩⟩
  ·have HN : Abs.Hid (∀ n ∈ vs.take (j + 1), ¬ ∃ ν, Sol neg (eputQ v n q) ν) := by
    rw [Abs.Hid, List.take_add_one, HG.out.2, Option.toList_some]
    intro u hu
    rcases List.mem_append.1 hu with h' | h'
    ·exact hN.out u h'
    ·simp at h'
     subst h'
     intro hex
     have := HBB.out.2 hex
     rw [this] at h
     cases h
   refine ⟨vs.length - (j + 1), by omega, j + 1, ?_⟩
   ((repeat' with_reducible refine And.intro ?_ ?_)<;> first|exact Xq|exact (HN)|exact Xs)
 ·have hjl : j = vs.length := by omega
  subst hjl
  rw [List.take_length] at hN
  repeat' (first
 |with_reducible first|apply Xa|apply Xb|(refine Xc ?_;intro κ hκ)|(apply hκ.out;clear hκ κ)|apply Xd|apply Xe|apply Xf
 |((with_reducible first|refine Xl ?_ ?_|refine Xk ?_ ?_)<;> intro h hari<;> try exact Xp)
 |refine Xr ?_
 |exact True.intro
 |(apply hκ.out;clear hκ κ))
  first | exact ⟨_, rfl, ⟨false, rfl, (fun h => by cases h), fun ⟨n, h1, h2⟩ => absurd h2 (hN.out n h1)⟩, hK⟩ | exact ⟨_, rfl, ⟨false, rfl, (fun h => by cases h), fun ⟨n, h1, h2⟩ => absurd h2 (hN.out n h1)⟩⟩
theorem inQ_near {q : Qry} {rs : List Int} {v : Int} (h : inQ (nearQ q rs) v) : inQ q v := by
 obtain ⟨a, ha, hv⟩ := h
 refine ⟨a, ?_, hv⟩
 unfold atomsQ nearQ at ha
 unfold atomsQ
 simp only [List.mem_cons, List.mem_append, List.mem_map] at ha ⊢
 rcases ha with h | ⟨p, hp, h⟩ | h
 ·exact .inl h
 ·exact .inr (.inl ⟨p, (List.mem_filter.1 hp).1, h⟩)
 ·exact .inr (.inr (List.mem_filter.1 h).1)
theorem inQ_far {q : Qry} {rs : List Int} {v : Int} (h : inQ (farQ q rs) v) : inQ q v ∧ v ∉ rs := by
 obtain ⟨a, ha, hv⟩ := h
 unfold atomsQ farQ at ha
 simp only [List.mem_cons, List.mem_append, List.mem_map] at ha
 have key : ∀ b : Atm, b ∈ atomsQ q → (!inR rs b) = true → hasV b.ts v = true → inQ q v ∧ v ∉ rs := fun b hb hin hbv => ⟨⟨b, hb, hbv⟩, fun hm => by
  have : inR rs b = true := List.any_eq_true.2 ⟨v, hm, hbv⟩
  rw [this] at hin
  cases hin⟩
 rcases ha with rfl | ⟨p, hp, rfl⟩ | h
 ·simp [hasV] at hv
 ·exact key p.a (part_in (List.mem_filter.1 hp).1) (List.mem_filter.1 hp).2 hv
 ·exact key a (by unfold atomsQ; simp [(List.mem_filter.1 h).1]) (List.mem_filter.1 h).2 hv
set_option maxHeartbeats 32000000 in
theorem eholds_step (neg : Int → Tup → Prop) (om : Nat) (V : List Int) (IH : ∀ V' : List Int, V'.length < V.length → HoldsAt neg om V') : HoldsAt neg om V := by
 intro q c hc hA hV hh hin σ
 have hRd := fun σ => ered_spec neg q c om hc hA σ
 obtain ⟨ih, ip, inn, pc, nc, rfl, -, -⟩ := hc
 have HH : Abs.Hid (q.head.ts = []) := hh
 clear hh
 refine acalls 36 [.tmp 4] Tryz.func170 rfl (by decide) rfl rfl (Nat.le_of_ble_eq_true rfl) ?_
 repeat' (first
 |with_reducible first|apply Xa|apply Xb|(refine Xc ?_;intro κ hκ)|(apply hκ.out;clear hκ κ)|apply Xd|apply Xe|apply Xf
 |((with_reducible first|refine Xl ?_ ?_|refine Xk ?_ ?_)<;> intro h hari<;> try exact Xp)
 |((with_reducible refine Xh ?_);refine Xi (hRd _) ?_;rintro _ _ ⟨⟨c',(⟨rfl,hl4,hfl,hno⟩|⟨q',rfl,⟨ih2,ip2,in2,pc2,nc2,rfl,hP2,hN2⟩,hA2,hNE2,hR2⟩)⟩,hK2⟩)
 |refine Xr ?_
 |exact True.intro
 |(apply hκ.out;clear hκ κ))
 ·rename_i σ1
  have kno2 := hK2.nobj
  have o0 := hK2.obj σ.nobj (by simp only [new_nobj]; omega)
  rw [new_same] at o0
  simp only [new_nobj] at kno2
  have hK3 := (((Keep.refl σ).new _).trans hK2)
  have HNO : Abs.Hid (∀ ν, ¬ Sol neg q ν) := hno
  clear hno
  repeat' (first
 |with_reducible first|apply Xa|apply Xb|(refine Xc ?_;intro κ hκ)|(apply hκ.out;clear hκ κ)|apply Xd|apply Xe|apply Xf
 |((with_reducible first|refine Xl ?_ ?_|refine Xk ?_ ?_)<;> intro h hari<;> try exact Xp)
 |refine Xr ?_
 |exact True.intro
 |(apply hκ.out;clear hκ κ))
  exact ⟨_, rfl, ⟨false, rfl, (fun h => by cases h), fun ⟨ν, hν⟩ => absurd hν (HNO.out ν)⟩, hK3.put (by omega) _⟩
 ·have kno2 := hK2.nobj
  have kob2 := hK2.obj
  simp only [new_nobj] at kno2 kob2
  have hKx := ((Keep.refl σ).new _).trans hK2
  have hh2 : q'.head.ts = [] := by rw [hR2.hd]; exact HH.out
  have hV2 : QV q' := fun a ha v hv => hV a (hR2.at_ a ha) v hv
  have hin2 : ∀ v, inQ q' v → v ∈ V := fun v hv => hin v (hv.sub hR2.at_)
  have hCh := fun σ => echoice_spec q' _ ⟨ih2, ip2, in2, pc2, nc2, rfl, hP2, hN2⟩ hA2.ok hA2.n hV2 σ
  have HH2 : Abs.Hid _ := hh2
  clear hh2
  repeat' (first
 |with_reducible first|apply Xa|apply Xb|(refine Xc ?_;intro κ hκ)|(apply hκ.out;clear hκ κ)|apply Xd|apply Xe|apply Xf
 |((with_reducible first|refine Xl ?_ ?_|refine Xk ?_ ?_)<;> intro h hari<;> try exact Xp)
 |((with_reducible refine Xh ?_);refine Xi (hCh _) ?_;rintro _ _ ⟨⟨b,rfl,hb⟩,hK3⟩;(have HB : Abs.Hid _:=hb;clear hb;have kno3:=hK3.nobj;have kob3:=hK3.obj;have hKy:=(hKx.put (by omega) _).trans hK3))
 |refine Xr ?_
 |exact True.intro
 |(apply hκ.out;clear hκ κ))
  ·have hbn : b = -1 := by simpa using h
   have hlk : ∀ v ∈ varsL (atomsQ q'), linkB q' v = false := by
    rcases HB.out with ⟨-, h2⟩ | ⟨h1, -⟩
    ·exact h2
    ·obtain ⟨a, ha, hv⟩ := (varsL_mem _ _).1 h1
     have := hV2 a ha b hv
     omega
   have hc1 : ∀ v, cntV (q'.parts.map (·.a)) v ≤ 1 := fun v => by
    have hle : cntV (q'.parts.map (·.a)) v ≤ cntV (atomsQ q') v := by
     unfold atomsQ
     rw [cntV_cons, cntV_append]
     omega
    by_cases hm : v ∈ varsL (atomsQ q')
    ·have := hlk v hm
     unfold linkB at this
     rw [decide_eq_false_iff_not] at this
     omega
    ·have : cntV (atomsQ q') v = 0 := by
      rcases Nat.eq_zero_or_pos (cntV (atomsQ q') v) with h0 | h0
      ·exact h0
      ·obtain ⟨a, ha, hav⟩ := List.countP_pos_iff.1 h0
       exact absurd ((varsL_mem _ _).2 ⟨a, ha, hasV_iff.1 hav⟩) hm
     omega
   obtain ⟨ν, hν⟩ := met_free (l := q'.parts) (fun p hp => ⟨hNE2 p hp, (hA2.w p hp).2⟩) hc1
   have hS : Sol neg q' ν := ⟨hν, fun a ha => by rw [hA2.nt] at ha; cases ha⟩
   obtain ⟨ν', hν', -⟩ := hR2.back ν hS
   first | exact ⟨_, rfl, ⟨true, rfl, fun _ => ⟨ν', hν'⟩, fun _ => rfl⟩, hKy⟩ | exact ⟨_, rfl, ⟨true, rfl, fun _ => ⟨ν', hν'⟩, fun _ => rfl⟩⟩
  ·have hbn : b ≠ -1 := by simpa using h
   have hbv : b ∈ varsL (atomsQ q') := by
    rcases HB.out with ⟨h1, -⟩ | ⟨h1, -⟩
    ·exact absurd h1 hbn
    ·exact h1
   have hbi : inQ q' b := by
    obtain ⟨a, ha, hv⟩ := (varsL_mem _ _).1 hbv
    exact ⟨a, ha, hasV_iff.2 hv⟩
   have hbV := hin2 b hbi
   have hVl : (V.erase b).length < V.length := by
    rw [List.length_erase_of_mem hbV]
    have := List.length_pos_of_mem hbV
    omega
   have IHb := IH (V.erase b) hVl
   have hSp := fun (id : Nat) σ => esplit_spec q' _ [b] id ⟨ih2, ip2, in2, pc2, nc2, rfl, hP2, hN2⟩ hA2.ok (by simp) σ
   simp only [List.length_cons, List.length_nil, icells, List.map_cons, List.map_nil, Nat.zero_add] at hSp
   have HHF : Abs.Hid (∀ (rs : List Int) (c3 : List AV), EQ (nearQ q' rs) c3 → ∀ σ, ACalls Tryz.prog 216 [ptr om 0, ag c3, ic b] σ fun r σ' => (∃ bb, r = sc (.bool bb) ∧ (bb = true ↔ ∃ n ∈ valQ (nearQ q' rs) b, ∃ ν, Sol neg (eputQ b n (nearQ q' rs)) ν)) ∧ Keep σ σ') := fun rs c3 hE3 σ =>
    eholdsFor_spec neg om (V.erase b) IHb (nearQ q' rs) c3 b hE3 (qall_sub hA2 hA2.ok.hd List.filter_sublist (by simp [nearQ, hA2.nt]) (wfv_bare HH2.out (by simp [nearQ, hA2.nt])))
     (fun a ha w hw => by
      obtain ⟨a', ha', hw'⟩ := inQ_near (rs := rs) ⟨a, ha, hasV_iff.2 hw⟩
      exact hV2 a' ha' w (hasV_iff.1 hw')) HH2.out (fun w hw hne => (List.mem_erase_of_ne hne).2 (hin2 w (inQ_near hw))) σ
   have HFA : Abs.Hid (∀ (rs : List Int) (c4 : List AV), b ∈ rs → EQ (farQ q' rs) c4 → ∀ σ, ACalls Tryz.prog 170 [ptr om 0, ag c4] σ fun r σ' => (∃ bb, r = sc (.bool bb) ∧ (bb = true ↔ ∃ ν, Sol neg (farQ q' rs) ν)) ∧ Keep σ σ') := fun rs c4 hbr hE4 σ =>
    IHb (farQ q' rs) c4 hE4 (qall_sub hA2 (by simp [farQ]) List.filter_sublist (by simp [farQ, hA2.nt]) (wfv_bare rfl (by simp [farQ, hA2.nt])))
     (fun a ha w hw => by
      obtain ⟨⟨a', ha', hw'⟩, -⟩ := inQ_far (rs := rs) ⟨a, ha, hasV_iff.2 hw⟩
      exact hV2 a' ha' w (hasV_iff.1 hw')) rfl (fun w hw => by
      obtain ⟨h1, h2⟩ := inQ_far hw
      exact (List.mem_erase_of_ne (fun e => h2 (by rw [e]; exact hbr))).2 (hin2 w h1)) σ
   clear IHb IH hRd hCh hbV hVl
   have o3 := kob3 σ.nobj (by simp only [put_nobj]; omega)
   rw [put_same] at o3
   simp only [put_nobj] at kno3
   repeat' (first
 |with_reducible first|apply Xa|apply Xb|(refine Xc ?_;intro κ hκ)|(apply hκ.out;clear hκ κ)|apply Xd|apply Xe|apply Xf
 |((with_reducible first|refine Xl ?_ ?_|refine Xk ?_ ?_)<;> intro h hari<;> try exact Xp)
 |((with_reducible refine Xh ?_);first|(refine Xi (hSp _ _) ?_;rintro _ _ ⟨⟨_,_,rs,rfl,⟨ih3,ip3,in3,pc3,nc3,rfl,hP3,hN3⟩,⟨ih4,ip4,in4,pc4,nc4,rfl,hP4,hN4⟩,hG,hC⟩,hK5⟩;(have hbr : b ∈ rs:=(by obtain ⟨ad,e,-,-⟩:=hG;rw [e];simp);have hHF:=HHF.out rs _ ⟨ih3,ip3,in3,pc3,nc3,rfl,hP3,hN3⟩;have hFA:=HFA.out rs _ hbr ⟨ih4,ip4,in4,pc4,nc4,rfl,hP4,hN4⟩;have HC : Abs.Hid _:=hC;clear hC hG;have kno5:=hK5.nobj;simp only [lay_nobj] at kno5;have hKz:=(hKy.lay 1).trans hK5))|(refine Xi (hHF _) ?_;rintro _ _ ⟨⟨b5,rfl,hb5⟩,hK6⟩;(have HB5 : Abs.Hid _:=hb5;clear hb5;have kno6:=hK6.nobj;have kob6:=hK6.obj;simp only [put_nobj,new_nobj] at kno6 kob6;have hKw:=((((hKz.new _).new _).put (by omega) _).put (by omega) _).trans hK6))|(refine Xi (hFA _) ?_;rintro _ _ ⟨⟨b7,rfl,hb7⟩,hK7⟩;(have HB7 : Abs.Hid _:=hb7;clear hb7;have hKv:=hKw.trans hK7)))
 |refine Xr ?_
 |exact True.intro
 |(apply hκ.out;clear hκ κ))
   ·refine ⟨_, rfl, false, rfl, (fun h => by cases h), fun ⟨ν, hν⟩ => ?_⟩
    have h1 := hR2.to ν hν
    have h2 := sol_near (rs := rs) h1
    have hwn : WP (nearQ q' rs) := fun p hp => hA2.w p (List.mem_filter.1 hp).1
    obtain ⟨p, hp, hpv⟩ := inQ_bare HH2.out hA2.nt hbi
    have h3 := val_mem (v := b) hwn h2 ⟨p, List.mem_filter.2 ⟨hp, List.any_eq_true.2 ⟨b, hbr, hpv⟩⟩, hpv⟩
    have h4 : Sol neg (eputQ b (ν b) (nearQ q' rs)) ν := (sol_put hwn).2 (by
     have : updN ν b (ν b) = ν := by
      funext w
      unfold updN
      split
      ·rename_i e; rw [e]
      ·rfl
     rw [this]; exact h2)
    have := HB5.out.2 ⟨ν b, h3, ν, h4⟩
    rw [this] at h
    cases h
   ·refine ⟨_, rfl, b7, rfl, fun h7 => ?_, fun ⟨ν, hν⟩ => HB7.out.2 ⟨ν, sol_far (hR2.to ν hν)⟩⟩
    obtain ⟨n, -, ν1, hν1⟩ := HB5.out.1 h
    obtain ⟨ν2, hν2⟩ := HB7.out.1 h7
    have hwn : WP (nearQ q' rs) := fun p hp => hA2.w p (List.mem_filter.1 hp).1
    obtain ⟨ν', hν', -⟩ := hR2.back _ (sol_split HC.out ((sol_put hwn).1 hν1) hν2)
    exact ⟨ν', hν'⟩
theorem eholds_spec (neg : Int → Tup → Prop) (om : Nat) : ∀ (k : Nat) (V : List Int), V.length ≤ k → HoldsAt neg om V := by
 intro k
 induction k with
 | zero => exact fun V hV => eholds_step neg om V (fun V' h => by omega)
 | succ k IH => exact fun V hV => eholds_step neg om V (fun V' h => IH V' (by omega))
end Go.Proofs.YtmoeoppbmhfbpaaGreatDoorU
