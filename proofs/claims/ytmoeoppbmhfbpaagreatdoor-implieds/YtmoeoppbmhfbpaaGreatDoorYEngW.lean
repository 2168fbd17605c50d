import Derived.Test.YtmoeoppbmhfbpaaGreatDoorYEngU
/- The program's engine: a query reduced (with nothing that must not be). -/
namespace Go.Proofs.YtmoeoppbmhfbpaaGreatDoorY
open Go.Abs
set_option linter.unusedSimpArgs false
set_option linter.unusedVariables false
set_option maxRecDepth 100000
structure QAll (q : Qry) : Prop where
 ok : QOk q
 n : QN q
 w : WP q
 nt : q.nots = []
 wf : WFv q
theorem TrimR.ok {q q' : Qry} (h : TrimR q q') (hq : QOk q) : QOk q' ∧ q'.nots = q.nots ∧ ∀ p ∈ q'.parts, p ∈ q.parts := by
 induction h with
 | refl => exact ⟨hq, rfl, fun p hp => hp⟩
 | tail h ih => exact ⟨trim1_ok ih.1, ih.2.1, fun p hp => ih.2.2 p (List.mem_of_mem_eraseP hp)⟩
theorem wfv_nar {q q' : Qry} (h : NarS q q') (hw : WFv q) : WFv q' := fun v hv => by
 obtain ⟨e1, e2, e3⟩ := h.atoms
 rw [e2, e3] at hv
 obtain ⟨p, hp, hpv⟩ := hw v hv
 have : p.a ∈ q'.parts.map (·.a) := by rw [e1]; exact List.mem_map.2 ⟨p, hp, rfl⟩
 obtain ⟨p', h1, h2⟩ := List.mem_map.1 this
 exact ⟨p', h1, by rw [h2]; exact hpv⟩
def RedA (neg : Int → Tup → Prop) (q : Qry) (x : AV) : Prop := ∃ c', (x = tp [ag c', sc (.bool false)] ∧ c'.length = 4 ∧ c'.all flat = true ∧ ∀ ν, ¬ Sol neg q ν) ∨ ∃ q', x = tp [ag c', sc (.bool true)] ∧ EQ q' c' ∧ QAll q' ∧ NE q' ∧ Red neg q q'
set_option maxHeartbeats 32000000 in
theorem ered_spec (neg : Int → Tup → Prop) (q : Qry) (c : List AV) (om : Nat) (hc : EQ q c) (hA : QAll q) (σ : St) : ACalls Tryz.prog 169 [ptr om 0, ag c] σ fun r σ' => RedA neg q r ∧ Keep σ σ' := by
 obtain ⟨ih, ip, inn, pc, nc, rfl, hP, hNn⟩ := hc
 have hpl := EL.length EPt_len hP
 have hl := hA.ok.pl
 have hnt := hA.nt
 rw [hnt] at hNn
 have hnc : nc = [] := hNn
 subst hnc
 rw [hnt]
 simp only [List.length_nil]
 clear hNn
 refine acalls 86 [.cell 4 182, .tmp 5] Tryz.func169 rfl (by decide) rfl rfl (Nat.le_of_ble_eq_true rfl) ?_
 repeat' (first
 |with_reducible first|apply Xa|apply Xb|(refine Xc ?_;intro κ hκ)|(apply hκ.out;clear hκ κ)|apply Xd|apply Xe|apply Xf
 |((with_reducible first|refine Xl ?_ ?_|refine Xm ?_ ?_|refine Xk ?_ ?_)<;> intro h hari<;> try exact Xp)
 |((with_reducible refine aapp_go ?_);refine Xt ?_;intro idn σn hOn hKn eobj enobj ever entop)
 |((with_reducible refine aappn_go ?_);refine Xu ?_)
 |refine Xr ?_
 |exact True.intro
 |((with_reducible refine Xg ?_);refine Xj ?_)
 |(apply hκ.out;clear hκ κ))
 refine awp_loop (fun m s σ' => ∃ (i i3 : Nat) (xs : List AV), m = q.parts.length - i ∧ i ≤ q.parts.length ∧ s 3 = ptr σ.nobj 0 ∧ s 4 = ptr (σ.nobj + 1) 0 ∧ s 6 = ptr (σ.nobj + 2) 0 ∧ s 18 = sl ip q.parts.length pc ∧ s 19 = ic q.parts.length ∧ s 20 = ic i ∧ Keep σ σ' ∧ σ.nobj + 2 < σ'.nobj ∧ σ'.obj σ.nobj = [ic q.head.p, sl ih q.head.ts.length (ecells q.head.ts), sl ip q.parts.length pc, sl inn 0 []] ∧ σ'.obj (σ.nobj + 1) = [ic 0, nilS, nilS, nilS] ∧ σ'.obj (σ.nobj + 2) = [ic q.head.p, sl ih q.head.ts.length (ecells q.head.ts), sl i3 i xs, nilS] ∧ Own σ σ' i3 i ∧ xs.length = i * 3 ∧ Abs.Hid (EL EPt (q.parts.take i) xs)) q.parts.length
  ⟨0, 1, [], by omega, by omega, by simp [upd], by simp [upd], by simp [upd], by simp [upd], by simp [upd], rfl, by exact Xs, by simp only [put_nobj, new_nobj]; omega, ?_, ?_, ?_, Own.nil _ _, by simp, rfl⟩ ?_
 ·rw [put_ne (by omega), new_lt (by simp only [new_nobj]; omega), new_lt (by simp only [new_nobj]; omega), new_same]
 ·rw [put_ne (by omega), new_lt (by simp only [new_nobj]; omega), new_at (by simp only [new_nobj]; omega) (by simp only [new_nobj]; omega)]
 ·rw [show σ.nobj + 2 = σ.nobj + 1 + 1 from rfl, put_same]
 rintro m s σ' ⟨i, i3, xs, rfl, hi, h3, h4, h6, h18, h19, h20, hK, hno, ob0, ob1, ob2, hO, hxl, hX⟩
 have kno := hK.nobj
 by_cases hlt : i < q.parts.length
 ·have hget := List.getElem?_eq_getElem hlt
  obtain ⟨id, idt, r, hd⟩ := EPt_get hP hget
  generalize q.parts[i] = w at hd hget
  have HX : Abs.Hid (EL EPt (q.parts.take (i + 1)) (xs ++ [ic w.a.p, sl id w.a.ts.length (ecells w.a.ts), sl idt w.tups.length (tcs w.tups)])) := by
   rw [Abs.Hid, List.take_add_one, hget, Option.toList_some]
   exact EL.append hX.out (EL.single ⟨id, idt, rfl⟩)
  clear hget hX
  repeat' (first
 |with_reducible first|apply Xa|apply Xb|(refine Xc ?_;intro κ hκ)|(apply hκ.out;clear hκ κ)|apply Xd|apply Xe|apply Xf
 |((with_reducible first|refine Xl ?_ ?_|refine Xm ?_ ?_|refine Xk ?_ ?_)<;> intro h hari<;> try exact Xp)
 |((with_reducible refine aapp_go ?_);refine Xt ?_;intro idn σn hOn hKn eobj enobj ever entop)
 |((with_reducible refine aappn_go ?_);refine Xu ?_)
 |refine Xr ?_
 |exact True.intro
 |((with_reducible refine Xg ?_);refine Xj ?_)
 |(apply hκ.out;clear hκ κ))
  refine aApp_own (by first | exact tez_69 | exact tez_180) ((hK.new _).put hK.nobj _) (Own.put (Own.new hO _) _ _) (by decide) (by rfl) (hxl) (by rfl) (by rfl) (by decide) (by omega) (by omega) ?_
  intro idn σn hOn hKn eobj enobj ever entop
  simp only [put_nobj, new_nobj] at enobj
  have eob : ∀ p, p < σ'.nobj → σn.obj p = σ'.obj p := fun p hp => by rw [eobj, put_ne (by omega), new_lt (by omega)]
  refine Xr ?_
  repeat' (first
 |with_reducible first|apply Xa|apply Xb|(refine Xc ?_;intro κ hκ)|(apply hκ.out;clear hκ κ)|apply Xd|apply Xe|apply Xf
 |((with_reducible first|refine Xl ?_ ?_|refine Xm ?_ ?_|refine Xk ?_ ?_)<;> intro h hari<;> try exact Xp)
 |((with_reducible refine aapp_go ?_);refine Xt ?_;intro idn σn hOn hKn eobj enobj ever entop)
 |((with_reducible refine aappn_go ?_);refine Xu ?_)
 |refine Xr ?_
 |exact True.intro
 |((with_reducible refine Xg ?_);refine Xj ?_)
 |(apply hκ.out;clear hκ κ))
  refine ⟨q.parts.length - (i + 1), by omega, i + 1, idn, xs ++ [ic w.a.p, sl id w.a.ts.length (ecells w.a.ts), sl idt w.tups.length (tcs w.tups)], ?_⟩
  ((repeat' with_reducible refine And.intro ?_ ?_)<;> first|exact Xq|exact (hKn.put (by omega) _)|exact (Own.put hOn _ _)|exact (HX)|exact Xs)
 ·have hil : i = q.parts.length := by omega
  subst hil
  rw [List.take_length] at hX
  have hEq : EQ q [ic q.head.p, sl ih q.head.ts.length (ecells q.head.ts), sl i3 q.parts.length xs, nilS] := ⟨ih, i3, 1, xs, [], by rw [hnt]; rfl, hX.out, by rw [hnt]; rfl⟩
  have hNar := fun σ => enar_spec q _ hEq hA.ok hA.n σ
  clear hEq hX hi
  repeat' (first
 |with_reducible first|apply Xa|apply Xb|(refine Xc ?_;intro κ hκ)|(apply hκ.out;clear hκ κ)|apply Xd|apply Xe|apply Xf
 |((with_reducible first|refine Xl ?_ ?_|refine Xm ?_ ?_|refine Xk ?_ ?_)<;> intro h hari<;> try exact Xp)
 |((with_reducible refine aapp_go ?_);refine Xt ?_;intro idn σn hOn hKn eobj enobj ever entop)
 |((with_reducible refine aappn_go ?_);refine Xu ?_)
 |refine Xr ?_
 |exact True.intro
 |((with_reducible refine Xg ?_);refine Xj ?_)
 |(apply hκ.out;clear hκ κ))
  refine awp_loop (fun m s σ' => m = 0 ∧ s 4 = ptr (σ.nobj + 1) 0 ∧ s 6 = ptr (σ.nobj + 2) 0 ∧ s 33 = ic 0 ∧ s 34 = ic 0 ∧ Keep σ σ' ∧ σ.nobj + 2 < σ'.nobj ∧ σ'.obj (σ.nobj + 1) = [ic 0, nilS, nilS, nilS] ∧ σ'.obj (σ.nobj + 2) = [ic q.head.p, sl ih q.head.ts.length (ecells q.head.ts), sl i3 q.parts.length xs, nilS]) 0
   ⟨rfl, by simp [upd, *], by simp [upd, *], by simp [upd, *], by simp [upd], hK, hno, ob1, ob2⟩ ?_
  clear h3 h4 h6 h18 h19 h20 hK hno ob0 ob1 ob2 hO hxl kno hlt
  rintro m s σ' ⟨rfl, h4, h6, h33, h34, hK, hno, ob1, ob2⟩
  have kno := hK.nobj
  repeat' (first
 |with_reducible first|apply Xa|apply Xb|(refine Xc ?_;intro κ hκ)|(apply hκ.out;clear hκ κ)|apply Xd|apply Xe|apply Xf
 |((with_reducible first|refine Xl ?_ ?_|refine Xm ?_ ?_|refine Xk ?_ ?_)<;> intro h hari<;> try exact Xp)
 |((with_reducible refine aapp_go ?_);refine Xt ?_;intro idn σn hOn hKn eobj enobj ever entop)
 |((with_reducible refine aappn_go ?_);refine Xu ?_)
 |((with_reducible refine Xh ?_);refine Xi (hNar _) ?_;rintro _ _ ⟨⟨_,q1,qp,rfl,⟨ih1,ip1,in1,pc1,nc1,rfl,hP1,hN1⟩,n1,n2,n3,n4⟩,hK2⟩;(have N3 : Abs.Hid (q1 = rnd qp (varsL (atomsQ qp))):=n3;clear n3;have kno2:=hK2.nobj;have kob2:=hK2.obj;have hKx:=hK.trans hK2))
 |refine Xr ?_
 |exact True.intro
 |((with_reducible refine Xg ?_);refine Xj ?_)
 |(apply hκ.out;clear hκ κ))
  rename_i σ1
  have o1 : σ1.obj (σ.nobj + 1) = [ic 0, nilS, nilS, nilS] := by rw [kob2 _ (by omega), ob1]
  have hw1 : WP q1 := n2.wp hA.w
  have hq1 : QOk q1 := n2.ok hA.ok
  have hn1 : QN q1 := n2.n hA.n
  have hnt1 : q1.nots = [] := n2.atoms.2.2.trans hnt
  have hr1 : Red neg q q1 := n2.red hA.w
  have hwf1 : WFv q1 := wfv_nar n2 hA.wf
  have hnr1 : Nrw q1 := by
   obtain ⟨g1, g2⟩ := (rnd_size (varsL (atomsQ qp)) qp).2 (by rw [← N3.out]; exact n4)
   rw [N3.out, g1]
   exact nrw_of g2
  have HQ1 : Abs.Hid (WP q1 ∧ QOk q1 ∧ QN q1 ∧ q1.nots = [] ∧ Red neg q q1 ∧ WFv q1 ∧ Nrw q1) := ⟨hw1, hq1, hn1, hnt1, hr1, hwf1, hnr1⟩
  clear hw1 hn1 hnt1 hr1 hwf1 hnr1 n1 n2 N3 n4 kob2 hK2 hNar
  have hl1 := hq1.pl
  have ht1 := hq1.pt
  clear hq1
  have hpl1 := EL.length EPt_len hP1
  refine awp_loop (fun m s σ2 => ∃ j : Nat, m = q1.parts.length - j ∧ j ≤ q1.parts.length ∧ s 4 = ptr (σ.nobj + 1) 0 ∧ s 6 = ptr (σ.nobj + 2) 0 ∧ s 72 = sl ip1 q1.parts.length pc1 ∧ s 73 = ic q1.parts.length ∧ s 74 = ic j ∧ Keep σ σ2 ∧ σ.nobj + 2 < σ2.nobj ∧ σ2.obj (σ.nobj + 1) = [ic 0, nilS, nilS, nilS] ∧ σ2.obj (σ.nobj + 2) = [ic q1.head.p, sl ih1 q1.head.ts.length (ecells q1.head.ts), sl ip1 q1.parts.length pc1, sl in1 q1.nots.length nc1] ∧ Abs.Hid (∀ p ∈ q1.parts.take j, p.tups ≠ [])) q1.parts.length
   ⟨0, by omega, by omega, by simp [upd, *], by simp [upd, *], by simp [upd], by simp [upd], rfl, hKx.put (by omega) _, by simp only [put_nobj]; omega, by rw [put_ne (by omega), o1], by rw [put_same], by simp [Abs.Hid]⟩ ?_
  clear h4 h6 h33 h34 hK hno ob1 ob2 o1 hKx kno kno2
  rintro m s σ2 ⟨j, rfl, hj, h4, h6, h72, h73, h74, hK, hno, ob1, ob2, hJ⟩
  have kno := hK.nobj
  by_cases hlt : j < q1.parts.length
  ·have hget := List.getElem?_eq_getElem hlt
   obtain ⟨id, idt, r, hd⟩ := EPt_get hP1 hget
   have hmem := List.getElem_mem hlt
   have htw := ht1 _ hmem
   generalize q1.parts[j] = w at hd hget hmem htw
   by_cases he : w.tups = []
   ·have hw0 : w.tups.length = 0 := by rw [he]; rfl
    have HF : Abs.Hid (∀ ν, ¬ Sol neg q ν) := fun ν hν => by
     have h1 := (HQ1.out.2.2.2.2.1.to ν hν).1 w hmem
     rw [he] at h1
     cases h1
    have hb : ((w.tups.length : Int) == 0) = true := by rw [hw0]; rfl
    clear hget hw0 he hJ
    repeat' (first
 |with_reducible first|apply Xa|apply Xb|(refine Xc ?_;intro κ hκ)|(apply hκ.out;clear hκ κ)|apply Xd|apply Xe|apply Xf
 |((with_reducible first|refine Xl ?_ ?_|refine Xm ?_ ?_|refine Xk ?_ ?_)<;> intro h hari<;> try exact Xp)
 |((with_reducible refine aapp_go ?_);refine Xt ?_;intro idn σn hOn hKn eobj enobj ever entop)
 |((with_reducible refine aappn_go ?_);refine Xu ?_)
 |refine Xr ?_
 |exact True.intro
 |((with_reducible refine Xg ?_);refine Xj ?_)
 |(apply hκ.out;clear hκ κ))
    exact ⟨_, rfl, ⟨_, .inl ⟨rfl, rfl, rfl, HF.out⟩⟩, ((hK.new _).put hK.nobj _).put (by omega) _⟩
   ·have hb : ((w.tups.length : Int) == 0) = false := by
     have : w.tups.length ≠ 0 := fun h => he (List.eq_nil_of_length_eq_zero h)
     simp; exact he
    have HJ : Abs.Hid (∀ p ∈ q1.parts.take (j + 1), p.tups ≠ []) := by
     rw [Abs.Hid, List.take_add_one, hget, Option.toList_some]
     intro p hp
     rcases List.mem_append.1 hp with h | h
     ·exact hJ.out p h
     ·simp at h; subst h; exact he
    clear hget he hJ
    repeat' (first
 |with_reducible first|apply Xa|apply Xb|(refine Xc ?_;intro κ hκ)|(apply hκ.out;clear hκ κ)|apply Xd|apply Xe|apply Xf
 |((with_reducible first|refine Xl ?_ ?_|refine Xm ?_ ?_|refine Xk ?_ ?_)<;> intro h hari<;> try exact Xp)
 |((with_reducible refine aapp_go ?_);refine Xt ?_;intro idn σn hOn hKn eobj enobj ever entop)
 |((with_reducible refine aappn_go ?_);refine Xu ?_)
 |refine Xr ?_
 |exact True.intro
 |((with_reducible refine Xg ?_);refine Xj ?_)
 |(apply hκ.out;clear hκ κ))
    refine ⟨q1.parts.length - (j + 1), by omega, j + 1, ?_⟩
    ((repeat' with_reducible refine And.intro ?_ ?_)<;> first|exact Xq|exact (HJ)|exact Xs)
  ·have hjl : j = q1.parts.length := by omega
   subst hjl
   rw [List.take_length] at hJ
   obtain ⟨a1, a2, a3, a4, a5, a6, a7⟩ := HQ1.out
   have hTr := fun σ => etrim_spec q1 _ ⟨ih1, ip1, in1, pc1, nc1, rfl, hP1, hN1⟩ a2 σ
   have HNE : Abs.Hid (NE q1) := hJ.out
   clear a1 a2 a3 a4 a5 a6 a7 hJ
   repeat' (first
 |with_reducible first|apply Xa|apply Xb|(refine Xc ?_;intro κ hκ)|(apply hκ.out;clear hκ κ)|apply Xd|apply Xe|apply Xf
 |((with_reducible first|refine Xl ?_ ?_|refine Xm ?_ ?_|refine Xk ?_ ?_)<;> intro h hari<;> try exact Xp)
 |((with_reducible refine aapp_go ?_);refine Xt ?_;intro idn σn hOn hKn eobj enobj ever entop)
 |((with_reducible refine aappn_go ?_);refine Xu ?_)
 |((with_reducible refine Xh ?_);refine Xi (hTr _) ?_;rintro _ _ ⟨⟨_,q2,rfl,⟨ih2,ip2,in2,pc2,nc2,rfl,hP2,hN2⟩,hq2,hR2⟩,hK2⟩;(have kno2:=hK2.nobj;have kob2:=hK2.obj;have hKx:=hK.trans hK2))
 |refine Xr ?_
 |exact True.intro
 |((with_reducible refine Xg ?_);refine Xj ?_)
 |(apply hκ.out;clear hκ κ))
   obtain ⟨a1, a2, a3, a4, a5, a6, a7⟩ := HQ1.out
   obtain ⟨t1, t2, t3⟩ := hR2.red (neg := neg) a1 HNE.out a7
   obtain ⟨-, u2, u3⟩ := hR2.ok a2
   exact ⟨_, rfl, ⟨_, .inr ⟨q2, rfl, ⟨ih2, ip2, in2, pc2, nc2, rfl, hP2, hN2⟩, ⟨hq2, fun p hp => a3 p (u3 p hp), fun p hp => a1 p (u3 p hp), u2.trans a4, t3 a6⟩, fun p hp => HNE.out p (u3 p hp), a5.trans t1⟩⟩, hKx.put (by omega) _⟩
end Go.Proofs.YtmoeoppbmhfbpaaGreatDoorY
