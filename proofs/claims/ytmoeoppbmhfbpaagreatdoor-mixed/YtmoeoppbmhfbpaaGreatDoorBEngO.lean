import Derived.Test.YtmoeoppbmhfbpaaGreatDoorBEngN
/- The program's engine: a query split in two. -/
namespace Go.Proofs.YtmoeoppbmhfbpaaGreatDoorB
open Go.Abs
set_option linter.unusedSimpArgs false
set_option linter.unusedVariables false
set_option maxRecDepth 100000
def inR (rs : List Int) (a : Atm) : Bool := rs.any (hasV a.ts)
def nearQ (q : Qry) (rs : List Int) : Qry := ⟨q.head, q.parts.filter fun p => inR rs p.a, q.nots.filter (inR rs)⟩
def farQ (q : Qry) (rs : List Int) : Qry := ⟨⟨0, []⟩, q.parts.filter fun p => !inR rs p.a, q.nots.filter fun a => !inR rs a⟩
set_option maxHeartbeats 32000000 in
theorem esplit_spec (q : Qry) (c : List AV) (init : List Int) (idi : Nat) (hc : EQ q c) (hq : QOk q) (hil : init.length ≤ 200) (σ : St) : ACalls Tryz.prog 171 [ag c, sl idi init.length (icells init)] σ fun r σ' => (∃ c1 c2 rs, r = tp [ag c1, ag c2] ∧ EQ (nearQ q rs) c1 ∧ EQ (farQ q rs) c2 ∧ Grown init (varsL (atomsQ q)) rs ∧ ClosedR (atomsQ q) rs rs) ∧ Keep σ σ' := by
 have hRe := fun σ => ereached_spec q c init idi hc hq hil σ
 have hA3 := atomsQ_3 hq
 have hAl := atomsQ_len hq
 have hVn := varsL_len hA3
 obtain ⟨ih, ip, inn, pc, nc, rfl, hP, hN⟩ := hc
 have hpl := EL.length EPt_len hP
 have hnl := EL.length EAt_len hN
 have hl := hq.pl
 have hl2 := hq.nl
 refine acalls 69 [.cell 4 182, .cell 5 182] Tryz.func171 rfl (by decide) rfl rfl (Nat.le_of_ble_eq_true rfl) ?_
 repeat' (first
 |with_reducible first|apply Xa|apply Xb|(refine Xc ?_;intro κ hκ)|(apply hκ.out;clear hκ κ)|apply Xd|apply Xe|apply Xf
 |((with_reducible first|refine Xl ?_ ?_|refine Xm ?_ ?_|refine Xk ?_ ?_)<;> intro h hari<;> try exact Xp)
 |((with_reducible refine aapp_go ?_);refine Xt ?_;intro idn σn hOn hKn eobj enobj ever entop)
 |((with_reducible refine aappn_go ?_);refine Xu ?_)
 |((with_reducible refine Xh ?_);refine Xi (hRe _) ?_;rintro _ _ ⟨⟨idr,rs,rfl,hG,hC⟩,hK2⟩;(have kno2:=hK2.nobj;have kob2:=hK2.obj;have hKx:=((((Keep.refl σ).new _).new _).new _).trans hK2;simp only [new_nobj] at kno2 kob2))
 |refine Xr ?_
 |exact True.intro
 |((with_reducible refine Xg ?_);refine Xj ?_)
 |(apply hκ.out;clear hκ κ))
 rename_i σ1
 have hrl : rs.length ≤ 100000 := by have := hG.le; omega
 have HG : Abs.Hid _ := hG
 have HC : Abs.Hid _ := hC
 clear hG hC hRe hVn
 have o0 : σ1.obj σ.nobj = [ic q.head.p, sl ih q.head.ts.length (ecells q.head.ts), sl ip q.parts.length pc, sl inn q.nots.length nc] := by rw [kob2 _ (by omega), new_lt (by simp only [new_nobj]; omega), new_lt (by simp only [new_nobj]; omega), new_same]
 have o1 : σ1.obj (σ.nobj + 1) = [ic 0, nilS, nilS, nilS] := by rw [kob2 _ (by omega), new_lt (by simp only [new_nobj]; omega), new_at (by simp only [new_nobj]; omega) (by simp only [new_nobj]; omega)]
 have o2 : σ1.obj (σ.nobj + 2) = [ic 0, nilS, nilS, nilS] := by rw [kob2 _ (by omega), new_at (by simp only [new_nobj]; omega) (by simp only [new_nobj]; omega)]
 clear kob2 hK2
 generalize hO7 : σ1.nobj = o7 at *
 refine awp_loop (fun m s σ' => ∃ (k i3 i4 : Nat) (l1 l2 : List Part) (xs ys : List AV), m = q.parts.length - k ∧ k ≤ q.parts.length ∧ s 2 = ptr σ.nobj 0 ∧ s 4 = ptr (σ.nobj + 1) 0 ∧ s 5 = ptr (σ.nobj + 2) 0 ∧ s 6 = sl idr rs.length (icells rs) ∧ s 7 = ptr o7 0 ∧ s 8 = ptr (o7 + 1) 0 ∧ s 21 = sl ip q.parts.length pc ∧ s 22 = ic q.parts.length ∧ s 23 = ic k ∧ Keep σ σ' ∧ o7 + 1 < σ'.nobj ∧ σ'.obj σ.nobj = [ic q.head.p, sl ih q.head.ts.length (ecells q.head.ts), sl ip q.parts.length pc, sl inn q.nots.length nc] ∧ σ'.obj (σ.nobj + 1) = [ic 0, nilS, nilS, nilS] ∧ σ'.obj (σ.nobj + 2) = [ic 0, nilS, nilS, nilS] ∧ σ'.obj o7 = [ic q.head.p, sl ih q.head.ts.length (ecells q.head.ts), sl i3 l1.length xs, nilS] ∧ σ'.obj (o7 + 1) = [ic 0, nilS, sl i4 l2.length ys, nilS] ∧ Own σ σ' i3 l1.length ∧ Own σ σ' i4 l2.length ∧ (i3 = 1 ∨ i3 ≠ i4) ∧ l1.length ≤ k ∧ l2.length ≤ k ∧ xs.length = l1.length * 3 ∧ ys.length = l2.length * 3 ∧ Abs.Hid (EL EPt l1 xs ∧ EL EPt l2 ys ∧ l1 = (q.parts.take k).filter (fun p => inR rs p.a) ∧ l2 = (q.parts.take k).filter fun p => !inR rs p.a)) q.parts.length
  ⟨0, 1, 1, [], [], [], [], by omega, by omega, by simp [upd], by simp [upd], by simp [upd], by simp [upd], by simp [upd], by simp [upd], by simp [upd], by simp [upd], rfl, by exact Xs, by simp only [put_nobj, new_nobj]; omega, ?_, ?_, ?_, ?_, ?_, Own.nil _ _, Own.nil _ _, .inl rfl, by simp, by simp, by simp, by simp, ⟨rfl, rfl, by simp, by simp⟩⟩ ?_
 ·rw [put_ne (by omega), new_lt (by simp only [put_nobj, new_nobj]; omega), put_ne (by omega), new_lt (by omega), o0]
 ·rw [put_ne (by omega), new_lt (by simp only [put_nobj, new_nobj]; omega), put_ne (by omega), new_lt (by omega), o1]
 ·rw [put_ne (by omega), new_lt (by simp only [put_nobj, new_nobj]; omega), put_ne (by omega), new_lt (by omega), o2]
 ·rw [put_ne (by omega), new_lt (by simp only [put_nobj, new_nobj]; omega), put_same]; simp
 ·rw [put_same]; simp
 clear o0 o1 o2 hKx hO7
 rintro m s σ' ⟨k, i3, i4, l1, l2, xs, ys, rfl, hk, h2, h4, h5, h6, h7, h8, h21, h22, h23, hK, hno, ob0, ob1, ob2, ob7, ob8, hO3, hO4, hne, hl1, hl2', hxl, hyl, hX⟩
 have kno := hK.nobj
 by_cases hlt : k < q.parts.length
 ·have hget := List.getElem?_eq_getElem hlt
  obtain ⟨id, idt, r, hd⟩ := EPt_get hP hget
  have hb1 := hq.pa _ (List.getElem_mem hlt)
  generalize q.parts[k] = w at hd hget hb1
  have hn1 : w.a.ts.length ≤ 1000 := by omega
  have hHA := fun σ => ehasAny_spec w.a.p id w.a.ts rs idr hn1 hrl σ
  have hK1 : Keep σ ((σ'.new [ic 0, nilS, nilS]).put σ'.nobj [ic w.a.p, sl id w.a.ts.length (ecells w.a.ts), sl idt w.tups.length (tcs w.tups)]) := (hK.new _).put hK.nobj _
  have HF1 : Abs.Hid ((q.parts.take (k + 1)).filter (fun p => inR rs p.a) = (q.parts.take k).filter (fun p => inR rs p.a) ++ if inR rs w.a = true then [w] else []) := by
   rw [Abs.Hid, List.take_add_one, hget, Option.toList_some, filter_snoc]
  have HF2 : Abs.Hid ((q.parts.take (k + 1)).filter (fun p => !inR rs p.a) = (q.parts.take k).filter (fun p => !inR rs p.a) ++ if (!inR rs w.a) = true then [w] else []) := by
   rw [Abs.Hid, List.take_add_one, hget, Option.toList_some, filter_snoc]
  clear hget
  rw [show rs.any (hasV w.a.ts) = inR rs w.a from rfl] at hHA
  cases hin : inR rs w.a with
  | true =>
   rw [hin] at hHA
   have HX : Abs.Hid (EL EPt (l1 ++ [w]) (xs ++ [ic w.a.p, sl id w.a.ts.length (ecells w.a.ts), sl idt w.tups.length (tcs w.tups)]) ∧ EL EPt l2 ys ∧ l1 ++ [w] = (q.parts.take (k + 1)).filter (fun p => inR rs p.a) ∧ l2 = (q.parts.take (k + 1)).filter fun p => !inR rs p.a) := by
    obtain ⟨x1, x2, x3, x4⟩ := hX.out
    exact ⟨EL.append x1 (EL.single ⟨id, idt, rfl⟩), x2, by rw [HF1.out, if_pos hin, x3], by rw [HF2.out, hin, x4]; simp⟩
   clear hX HF1 HF2
   repeat' (first
 |with_reducible first|apply Xa|apply Xb|(refine Xc ?_;intro κ hκ)|(apply hκ.out;clear hκ κ)|apply Xd|apply Xe|apply Xf
 |((with_reducible first|refine Xl ?_ ?_|refine Xm ?_ ?_|refine Xk ?_ ?_)<;> intro h hari<;> try exact Xp)
 |((with_reducible refine aapp_go ?_);refine Xt ?_;intro idn σn hOn hKn eobj enobj ever entop)
 |((with_reducible refine aappn_go ?_);refine Xu ?_)
 |((with_reducible refine Xh ?_);refine Xi (hHA _) ?_;rintro _ _ ⟨rfl,hK5⟩;(have kno5:=hK5.nobj;have kob5:=hK5.obj;have hKy:=hK1.trans hK5;simp only [put_nobj,new_nobj] at kno5 kob5))
 |refine Xr ?_
 |exact True.intro
 |((with_reducible refine Xg ?_);refine Xj ?_)
 |(apply hκ.out;clear hκ κ))
   refine aApp_two (by first | exact tez_69 | exact tez_180) hKy (Own.keep (Own.put (Own.new hO3 _) _ _) hK5) (by decide) (by rfl) hxl (by rfl) (by rfl) (by decide) (by omega) (by omega) ?_
   intro idn σn hOn hKn eobj enobj ever entop hoth
   obtain ⟨hO4n, hne2⟩ := hoth i4 l2.length (Own.keep (Own.put (Own.new hO4 _) _ _) hK5) hne
   have eob : ∀ p, p < σ'.nobj → σn.obj p = σ'.obj p := fun p hp => by rw [eobj, kob5 _ (by omega), put_ne (by omega), new_lt (by omega)]
   refine Xr ?_
   repeat' (first
 |with_reducible first|apply Xa|apply Xb|(refine Xc ?_;intro κ hκ)|(apply hκ.out;clear hκ κ)|apply Xd|apply Xe|apply Xf
 |((with_reducible first|refine Xl ?_ ?_|refine Xm ?_ ?_|refine Xk ?_ ?_)<;> intro h hari<;> try exact Xp)
 |((with_reducible refine aapp_go ?_);refine Xt ?_;intro idn σn hOn hKn eobj enobj ever entop)
 |((with_reducible refine aappn_go ?_);refine Xu ?_)
 |refine Xr ?_
 |exact True.intro
 |((with_reducible refine Xg ?_);refine Xj ?_)
 |(apply hκ.out;clear hκ κ))
   refine ⟨q.parts.length - (k + 1), by omega, k + 1, idn, i4, l1 ++ [w], l2, xs ++ [ic w.a.p, sl id w.a.ts.length (ecells w.a.ts), sl idt w.tups.length (tcs w.tups)], ys, ?_⟩
   ((repeat' with_reducible refine And.intro ?_ ?_)<;> first|exact Xq|exact (hKn.put (by omega) _)|exact (by simpa using Own.put hOn _ _)|exact (Own.put hO4n _ _)|exact (HX)|exact Xs)
  | false =>
   rw [hin] at hHA
   have HX : Abs.Hid (EL EPt l1 xs ∧ EL EPt (l2 ++ [w]) (ys ++ [ic w.a.p, sl id w.a.ts.length (ecells w.a.ts), sl idt w.tups.length (tcs w.tups)]) ∧ l1 = (q.parts.take (k + 1)).filter (fun p => inR rs p.a) ∧ l2 ++ [w] = (q.parts.take (k + 1)).filter fun p => !inR rs p.a) := by
    obtain ⟨x1, x2, x3, x4⟩ := hX.out
    exact ⟨x1, EL.append x2 (EL.single ⟨id, idt, rfl⟩), by rw [HF1.out, hin, x3]; simp, by rw [HF2.out, hin, x4]; simp⟩
   clear hX HF1 HF2
   repeat' (first
 |with_reducible first|apply Xa|apply Xb|(refine Xc ?_;intro κ hκ)|(apply hκ.out;clear hκ κ)|apply Xd|apply Xe|apply Xf
 |((with_reducible first|refine Xl ?_ ?_|refine Xm ?_ ?_|refine Xk ?_ ?_)<;> intro h hari<;> try exact Xp)
 |((with_reducible refine aapp_go ?_);refine Xt ?_;intro idn σn hOn hKn eobj enobj ever entop)
 |((with_reducible refine aappn_go ?_);refine Xu ?_)
 |((with_reducible refine Xh ?_);refine Xi (hHA _) ?_;rintro _ _ ⟨rfl,hK5⟩;(have kno5:=hK5.nobj;have kob5:=hK5.obj;have hKy:=hK1.trans hK5;simp only [put_nobj,new_nobj] at kno5 kob5))
 |refine Xr ?_
 |exact True.intro
 |((with_reducible refine Xg ?_);refine Xj ?_)
 |(apply hκ.out;clear hκ κ))
   refine aApp_two (by first | exact tez_69 | exact tez_180) hKy (Own.keep (Own.put (Own.new hO4 _) _ _) hK5) (by decide) (by rfl) hyl (by rfl) (by rfl) (by decide) (by omega) (by omega) ?_
   intro idn σn hOn hKn eobj enobj ever entop hoth
   obtain ⟨hO3n, hne2⟩ := hoth i3 l1.length (Own.keep (Own.put (Own.new hO3 _) _ _) hK5) (by omega)
   have hne3 : i3 = 1 ∨ i3 ≠ idn := by omega
   have eob : ∀ p, p < σ'.nobj → σn.obj p = σ'.obj p := fun p hp => by rw [eobj, kob5 _ (by omega), put_ne (by omega), new_lt (by omega)]
   refine Xr ?_
   repeat' (first
 |with_reducible first|apply Xa|apply Xb|(refine Xc ?_;intro κ hκ)|(apply hκ.out;clear hκ κ)|apply Xd|apply Xe|apply Xf
 |((with_reducible first|refine Xl ?_ ?_|refine Xm ?_ ?_|refine Xk ?_ ?_)<;> intro h hari<;> try exact Xp)
 |((with_reducible refine aapp_go ?_);refine Xt ?_;intro idn σn hOn hKn eobj enobj ever entop)
 |((with_reducible refine aappn_go ?_);refine Xu ?_)
 |refine Xr ?_
 |exact True.intro
 |((with_reducible refine Xg ?_);refine Xj ?_)
 |(apply hκ.out;clear hκ κ))
   refine ⟨q.parts.length - (k + 1), by omega, k + 1, i3, idn, l1, l2 ++ [w], xs, ys ++ [ic w.a.p, sl id w.a.ts.length (ecells w.a.ts), sl idt w.tups.length (tcs w.tups)], ?_⟩
   ((repeat' with_reducible refine And.intro ?_ ?_)<;> first|exact Xq|exact (hKn.put (by omega) _)|exact (by simpa using Own.put hOn _ _)|exact (Own.put hO3n _ _)|exact (HX)|exact Xs)
 ·have hkl : k = q.parts.length := by omega
  subst hkl
  obtain ⟨x1, x2, x3, x4⟩ := hX.out
  rw [List.take_length] at x3 x4
  have HX : Abs.Hid (EL EPt (q.parts.filter fun p => inR rs p.a) xs ∧ EL EPt (q.parts.filter fun p => !inR rs p.a) ys ∧ l1.length = (q.parts.filter fun p => inR rs p.a).length ∧ l2.length = (q.parts.filter fun p => !inR rs p.a).length) := ⟨by rw [← x3]; exact x1, by rw [← x4]; exact x2, by rw [x3], by rw [x4]⟩
  clear x1 x2 x3 x4 hX hk
  generalize l1.length = n1 at *
  generalize l2.length = n2 at *
  repeat' (first
 |with_reducible first|apply Xa|apply Xb|(refine Xc ?_;intro κ hκ)|(apply hκ.out;clear hκ κ)|apply Xd|apply Xe|apply Xf
 |((with_reducible first|refine Xl ?_ ?_|refine Xm ?_ ?_|refine Xk ?_ ?_)<;> intro h hari<;> try exact Xp)
 |((with_reducible refine aapp_go ?_);refine Xt ?_;intro idn σn hOn hKn eobj enobj ever entop)
 |((with_reducible refine aappn_go ?_);refine Xu ?_)
 |refine Xr ?_
 |exact True.intro
 |((with_reducible refine Xg ?_);refine Xj ?_)
 |(apply hκ.out;clear hκ κ))
  refine awp_loop (fun m s σ' => ∃ (j i5 i6 : Nat) (m1 m2 : List Atm) (us vs : List AV), m = q.nots.length - j ∧ j ≤ q.nots.length ∧ s 4 = ptr (σ.nobj + 1) 0 ∧ s 5 = ptr (σ.nobj + 2) 0 ∧ s 6 = sl idr rs.length (icells rs) ∧ s 7 = ptr o7 0 ∧ s 8 = ptr (o7 + 1) 0 ∧ s 45 = sl inn q.nots.length nc ∧ s 46 = ic q.nots.length ∧ s 47 = ic j ∧ Keep σ σ' ∧ o7 + 1 < σ'.nobj ∧ σ'.obj (σ.nobj + 1) = [ic 0, nilS, nilS, nilS] ∧ σ'.obj (σ.nobj + 2) = [ic 0, nilS, nilS, nilS] ∧ σ'.obj o7 = [ic q.head.p, sl ih q.head.ts.length (ecells q.head.ts), sl i3 n1 xs, sl i5 m1.length us] ∧ σ'.obj (o7 + 1) = [ic 0, nilS, sl i4 n2 ys, sl i6 m2.length vs] ∧ Own σ σ' i5 m1.length ∧ Own σ σ' i6 m2.length ∧ (i5 = 1 ∨ i5 ≠ i6) ∧ m1.length ≤ j ∧ m2.length ≤ j ∧ us.length = m1.length * 2 ∧ vs.length = m2.length * 2 ∧ Abs.Hid (EL EAt m1 us ∧ EL EAt m2 vs ∧ m1 = (q.nots.take j).filter (inR rs) ∧ m2 = (q.nots.take j).filter fun a => !inR rs a)) q.nots.length
   ⟨0, 1, 1, [], [], [], [], by omega, by omega, by simp [upd, *], by simp [upd, *], by simp [upd, *], by simp [upd, *], by simp [upd, *], by simp [upd, *], by simp [upd, *], by simp [upd], hK, hno, ob1, ob2, by rw [ob7]; simp, by rw [ob8]; simp, Own.nil _ _, Own.nil _ _, .inl rfl, by simp, by simp, by simp, by simp, ⟨rfl, rfl, by simp, by simp⟩⟩ ?_
  clear h2 h4 h5 h6 h7 h8 h21 h22 h23 hK hno ob0 ob1 ob2 ob7 ob8 hO3 hO4 hne hl1 hl2' hxl hyl hlt kno
  rintro m s σ' ⟨j, i5, i6, m1, m2, us, vs, rfl, hj, h4, h5, h6, h7, h8, h45, h46, h47, hK, hno, ob1, ob2, ob7, ob8, hO5, hO6, hne, hm1, hm2, hul, hvl, hY⟩
  have kno := hK.nobj
  by_cases hlt : j < q.nots.length
  ·have hget := List.getElem?_eq_getElem hlt
   obtain ⟨id, r, hd⟩ := EAt_get hN hget
   have hb1 := hq.na _ (List.getElem_mem hlt)
   generalize q.nots[j] = w at hd hget hb1
   have hn1 : w.ts.length ≤ 1000 := by omega
   have hHA := fun σ => ehasAny_spec w.p id w.ts rs idr hn1 hrl σ
   have hK1 : Keep σ ((σ'.new [ic 0, nilS]).put σ'.nobj [ic w.p, sl id w.ts.length (ecells w.ts)]) := (hK.new _).put hK.nobj _
   have HF1 : Abs.Hid ((q.nots.take (j + 1)).filter (inR rs) = (q.nots.take j).filter (inR rs) ++ if inR rs w = true then [w] else []) := by
    rw [Abs.Hid, List.take_add_one, hget, Option.toList_some, filter_snoc]
   have HF2 : Abs.Hid ((q.nots.take (j + 1)).filter (fun a => !inR rs a) = (q.nots.take j).filter (fun a => !inR rs a) ++ if (!inR rs w) = true then [w] else []) := by
    rw [Abs.Hid, List.take_add_one, hget, Option.toList_some, filter_snoc]
   clear hget
   rw [show rs.any (hasV w.ts) = inR rs w from rfl] at hHA
   cases hin : inR rs w with
   | true =>
    rw [hin] at hHA
    have HY : Abs.Hid (EL EAt (m1 ++ [w]) (us ++ [ic w.p, sl id w.ts.length (ecells w.ts)]) ∧ EL EAt m2 vs ∧ m1 ++ [w] = (q.nots.take (j + 1)).filter (inR rs) ∧ m2 = (q.nots.take (j + 1)).filter fun a => !inR rs a) := by
     obtain ⟨x1, x2, x3, x4⟩ := hY.out
     exact ⟨EL.append x1 (EL.single ⟨id, rfl⟩), x2, by rw [HF1.out, if_pos hin, x3], by rw [HF2.out, hin, x4]; simp⟩
    clear hY HF1 HF2
    repeat' (first
 |with_reducible first|apply Xa|apply Xb|(refine Xc ?_;intro κ hκ)|(apply hκ.out;clear hκ κ)|apply Xd|apply Xe|apply Xf
 |((with_reducible first|refine Xl ?_ ?_|refine Xm ?_ ?_|refine Xk ?_ ?_)<;> intro h hari<;> try exact Xp)
 |((with_reducible refine aapp_go ?_);refine Xt ?_;intro idn σn hOn hKn eobj enobj ever entop)
 |((with_reducible refine aappn_go ?_);refine Xu ?_)
 |((with_reducible refine Xh ?_);refine Xi (hHA _) ?_;rintro _ _ ⟨rfl,hK5⟩;(have kno5:=hK5.nobj;have kob5:=hK5.obj;have hKy:=hK1.trans hK5;simp only [put_nobj,new_nobj] at kno5 kob5))
 |refine Xr ?_
 |exact True.intro
 |((with_reducible refine Xg ?_);refine Xj ?_)
 |(apply hκ.out;clear hκ κ))
    refine aApp_two (by first | exact tez_69 | exact tez_180) hKy (Own.keep (Own.put (Own.new hO5 _) _ _) hK5) (by decide) (by rfl) hul (by rfl) (by rfl) (by decide) (by omega) (by omega) ?_
    intro idn σn hOn hKn eobj enobj ever entop hoth
    obtain ⟨hO4n, hne2⟩ := hoth i6 m2.length (Own.keep (Own.put (Own.new hO6 _) _ _) hK5) hne
    have eob : ∀ p, p < σ'.nobj → σn.obj p = σ'.obj p := fun p hp => by rw [eobj, kob5 _ (by omega), put_ne (by omega), new_lt (by omega)]
    refine Xr ?_
    repeat' (first
 |with_reducible first|apply Xa|apply Xb|(refine Xc ?_;intro κ hκ)|(apply hκ.out;clear hκ κ)|apply Xd|apply Xe|apply Xf
 |((with_reducible first|refine Xl ?_ ?_|refine Xm ?_ ?_|refine Xk ?_ ?_)<;> intro h hari<;> try exact Xp)
 |((with_reducible refine aapp_go ?_);refine Xt ?_;intro idn σn hOn hKn eobj enobj ever entop)
 |((with_reducible refine aappn_go ?_);refine Xu ?_)
 |refine Xr ?_
 |exact True.intro
 |((with_reducible refine Xg ?_);refine Xj ?_)
 |(apply hκ.out;clear hκ κ))
    refine ⟨q.nots.length - (j + 1), by omega, j + 1, idn, i6, m1 ++ [w], m2, us ++ [ic w.p, sl id w.ts.length (ecells w.ts)], vs, ?_⟩
    ((repeat' with_reducible refine And.intro ?_ ?_)<;> first|exact Xq|exact (hKn.put (by omega) _)|exact (by simpa using Own.put hOn _ _)|exact (Own.put hO4n _ _)|exact (HY)|exact Xs)
   | false =>
    rw [hin] at hHA
    have HY : Abs.Hid (EL EAt m1 us ∧ EL EAt (m2 ++ [w]) (vs ++ [ic w.p, sl id w.ts.length (ecells w.ts)]) ∧ m1 = (q.nots.take (j + 1)).filter (inR rs) ∧ m2 ++ [w] = (q.nots.take (j + 1)).filter fun a => !inR rs a) := by
     obtain ⟨x1, x2, x3, x4⟩ := hY.out
     exact ⟨x1, EL.append x2 (EL.single ⟨id, rfl⟩), by rw [HF1.out, hin, x3]; simp, by rw [HF2.out, hin, x4]; simp⟩
    clear hY HF1 HF2
    repeat' (first
 |with_reducible first|apply Xa|apply Xb|(refine Xc ?_;intro κ hκ)|(apply hκ.out;clear hκ κ)|apply Xd|apply Xe|apply Xf
 |((with_reducible first|refine Xl ?_ ?_|refine Xm ?_ ?_|refine Xk ?_ ?_)<;> intro h hari<;> try exact Xp)
 |((with_reducible refine aapp_go ?_);refine Xt ?_;intro idn σn hOn hKn eobj enobj ever entop)
 |((with_reducible refine aappn_go ?_);refine Xu ?_)
 |((with_reducible refine Xh ?_);refine Xi (hHA _) ?_;rintro _ _ ⟨rfl,hK5⟩;(have kno5:=hK5.nobj;have kob5:=hK5.obj;have hKy:=hK1.trans hK5;simp only [put_nobj,new_nobj] at kno5 kob5))
 |refine Xr ?_
 |exact True.intro
 |((with_reducible refine Xg ?_);refine Xj ?_)
 |(apply hκ.out;clear hκ κ))
    refine aApp_two (by first | exact tez_69 | exact tez_180) hKy (Own.keep (Own.put (Own.new hO6 _) _ _) hK5) (by decide) (by rfl) hvl (by rfl) (by rfl) (by decide) (by omega) (by omega) ?_
    intro idn σn hOn hKn eobj enobj ever entop hoth
    obtain ⟨hO3n, hne2⟩ := hoth i5 m1.length (Own.keep (Own.put (Own.new hO5 _) _ _) hK5) (by omega)
    have hne3 : i5 = 1 ∨ i5 ≠ idn := by omega
    have eob : ∀ p, p < σ'.nobj → σn.obj p = σ'.obj p := fun p hp => by rw [eobj, kob5 _ (by omega), put_ne (by omega), new_lt (by omega)]
    refine Xr ?_
    repeat' (first
 |with_reducible first|apply Xa|apply Xb|(refine Xc ?_;intro κ hκ)|(apply hκ.out;clear hκ κ)|apply Xd|apply Xe|apply Xf
 |((with_reducible first|refine Xl ?_ ?_|refine Xm ?_ ?_|refine Xk ?_ ?_)<;> intro h hari<;> try exact Xp)
 |((with_reducible refine aapp_go ?_);refine Xt ?_;intro idn σn hOn hKn eobj enobj ever entop)
 |((with_reducible refine aappn_go ?_);refine Xu ?_)
 |refine Xr ?_
 |exact True.intro
 |((with_reducible refine Xg ?_);refine Xj ?_)
 |(apply hκ.out;clear hκ κ))
    refine ⟨q.nots.length - (j + 1), by omega, j + 1, i5, idn, m1, m2 ++ [w], us, vs ++ [ic w.p, sl id w.ts.length (ecells w.ts)], ?_⟩
    ((repeat' with_reducible refine And.intro ?_ ?_)<;> first|exact Xq|exact (hKn.put (by omega) _)|exact (by simpa using Own.put hOn _ _)|exact (Own.put hO3n _ _)|exact (HY)|exact Xs)
  ·have hjl : j = q.nots.length := by omega
   subst hjl
   obtain ⟨x1, x2, x3, x4⟩ := hY.out
   rw [List.take_length] at x3 x4
   have hL1 := HX.out.2.2.1
   have hL2 := HX.out.2.2.2
   have HN : Abs.Hid (EQ (nearQ q rs) [ic q.head.p, sl ih q.head.ts.length (ecells q.head.ts), sl i3 n1 xs, sl i5 m1.length us] ∧ EQ (farQ q rs) [ic 0, nilS, sl i4 n2 ys, sl i6 m2.length vs]) :=
    ⟨⟨ih, i3, i5, xs, us, by simp only [nearQ]; rw [hL1, x3], HX.out.1, by simp only [nearQ]; rw [← x3]; exact x1⟩, ⟨1, i4, i6, ys, vs, by simp only [farQ]; rw [hL2, x4]; rfl, HX.out.2.1, by simp only [farQ]; rw [← x4]; exact x2⟩⟩
   clear x1 x2 x3 x4 hY hL1 hL2
   repeat' (first
 |with_reducible first|apply Xa|apply Xb|(refine Xc ?_;intro κ hκ)|(apply hκ.out;clear hκ κ)|apply Xd|apply Xe|apply Xf
 |((with_reducible first|refine Xl ?_ ?_|refine Xm ?_ ?_|refine Xk ?_ ?_)<;> intro h hari<;> try exact Xp)
 |((with_reducible refine aapp_go ?_);refine Xt ?_;intro idn σn hOn hKn eobj enobj ever entop)
 |((with_reducible refine aappn_go ?_);refine Xu ?_)
 |refine Xr ?_
 |exact True.intro
 |((with_reducible refine Xg ?_);refine Xj ?_)
 |(apply hκ.out;clear hκ κ))
   have o7b : σ.nobj + 2 < o7 := by omega
   refine awp_mono (Q := fun e s' σ'' => e = .normal ∧ s' 4 = ptr (σ.nobj + 1) 0 ∧ s' 5 = ptr (σ.nobj + 2) 0 ∧ Keep σ σ'' ∧ σ''.obj (σ.nobj + 1) = [ic q.head.p, sl ih q.head.ts.length (ecells q.head.ts), sl i3 n1 xs, sl i5 m1.length us] ∧ σ''.obj (σ.nobj + 2) = [ic 0, nilS, sl i4 n2 ys, sl i6 m2.length vs]) ?_ ?_
   ·refine awp_draw_h follows_mixed (fun p => p = o7 ∨ p = o7 + 1) [3] [0] 3 #[true, false, false, false] (by kernel_rfl) (fun _ _ _ h => by cases h.1) ?_
    intro κ hκ
    refine Xr ?_
    refine ⟨fun p h => .inl (Option.some.inj h).symm, hκ.out _ ?_⟩
    clear hκ κ
    have hkp : ∀ (A : Nat → Bool) (i : Nat) (c : List AV), Kept A (fun p => p = o7 ∨ p = o7 + 1) σ' i (σ'.put (σ.nobj + 1) c) := fun A i c _ o ho hF => by
     have : o ≠ σ.nobj + 1 := by rcases hF with h | h <;> omega
     simp [St.put, this]
    refine uany_all (rs := [1, 2]) (by kernel_rfl) (by simp) ?_
    intro i hi
    simp only [List.mem_cons, List.not_mem_nil, or_false] at hi
    rcases hi with rfl | rfl
    ·refine aOne_k ?_
     intro κ hκ
     refine Xr ?_
     refine hκ.out _ _ ⟨kept_refl, ?_⟩; clear hκ κ
     refine uany_one (i := 2) (by kernel_rfl) ?_; refine aOne_k ?_; intro κ hκ; refine Xr ?_
     refine hκ.out _ _ ⟨hkp _ _ _, ?_⟩; clear hκ κ
     refine uany_one (i := 3) (by kernel_rfl) ?_; refine aOne_k ?_; intro κ hκ; refine Xr ?_
     refine hκ.out _ _ ⟨kept_last rfl, ?_⟩; clear hκ κ
     refine uany_done (by kernel_rfl) ⟨rfl, by simp [upd, h4], by simp [upd, h5], (hK.put (by omega) _).put (by omega) _, ?_, ?_⟩
     ·rw [put_ne (by omega), put_same]
     ·rw [put_same]
    ·refine aOne_k ?_
     intro κ hκ
     refine Xr ?_
     refine hκ.out _ _ ⟨hkp _ _ _, ?_⟩; clear hκ κ
     refine uany_one (i := 1) (by kernel_rfl) ?_; refine aOne_k ?_; intro κ hκ; refine Xr ?_
     refine hκ.out _ _ ⟨hkp _ _ _, ?_⟩; clear hκ κ
     refine uany_one (i := 3) (by kernel_rfl) ?_; refine aOne_k ?_; intro κ hκ; refine Xr ?_
     refine hκ.out _ _ ⟨kept_last rfl, ?_⟩; clear hκ κ
     refine uany_done (by kernel_rfl) ⟨rfl, by simp [upd, h4], by simp [upd, h5], (hK.put (by omega) _).put (by omega) _, ?_, ?_⟩
     ·rw [put_ne (by omega), put_same]
     ·rw [put_same]
   ·rintro e s' σ'' ⟨rfl, g4, g5, hK7, o71, o72⟩
    repeat' (first
 |with_reducible first|apply Xa|apply Xb|(refine Xc ?_;intro κ hκ)|(apply hκ.out;clear hκ κ)|apply Xd|apply Xe|apply Xf
 |((with_reducible first|refine Xl ?_ ?_|refine Xm ?_ ?_|refine Xk ?_ ?_)<;> intro h hari<;> try exact Xp)
 |((with_reducible refine aapp_go ?_);refine Xt ?_;intro idn σn hOn hKn eobj enobj ever entop)
 |((with_reducible refine aappn_go ?_);refine Xu ?_)
 |refine Xr ?_
 |exact True.intro
 |((with_reducible refine Xg ?_);refine Xj ?_)
 |(apply hκ.out;clear hκ κ))
    exact ⟨_, rfl, ⟨_, _, rs, rfl, HN.out.1, HN.out.2, HG.out, HC.out⟩⟩
/- The program's engine: the model in memory. -/
abbrev MM := List (Nat × List Tup)
def mcells (M : MM) : List AV := M.map fun x => sl x.1 x.2.length (tcs x.2)
def Live (σ : St) (id n : Nat) : Prop := (id = 1 ∧ n = 0) ∨ ∃ k, id = k + 2 ∧ k < σ.ntop ∧ σ.top k = n ∧ 0 < n
theorem Live.keep {σ σ' : St} {id n : Nat} (h : Live σ id n) (k : Keep σ σ') : Live σ' id n := by
 rcases h with h | ⟨j, h1, h2, h3, h4⟩
 ·exact .inl h
 ·exact .inr ⟨j, h1, Nat.lt_of_lt_of_le h2 k.ntop, (k.top j h2).trans h3, h4⟩
structure MOb (σ : St) (om ot : Nat) (M : MM) (d b : Int) : Prop where
 ob : σ.obj om = [fx ot 0 M.length, ic d, ic b]
 oc : σ.obj ot = mcells M
 lo : om < σ.nobj
 lt : ot < σ.nobj
 ne : om ≠ ot
 live : ∀ x ∈ M, Live σ x.1 x.2.length
 inj : ∀ (i j : Nat) (x y : Nat × List Tup), M[i]? = some x → M[j]? = some y → i ≠ j → x.1 = 1 ∨ x.1 ≠ y.1
 t3 : ∀ x ∈ M, T3 x.2
 ln : ∀ x ∈ M, x.2.length ≤ 5000
 pl : M.length ≤ 5000
theorem MOb.keep {σ σ' : St} {om ot : Nat} {M : MM} {d b : Int} (h : MOb σ om ot M d b) (k : Keep σ σ') : MOb σ' om ot M d b :=
 ⟨(k.obj _ h.lo).trans h.ob, (k.obj _ h.lt).trans h.oc, Nat.lt_of_lt_of_le h.lo k.nobj, Nat.lt_of_lt_of_le h.lt k.nobj, h.ne, fun x hx => (h.live x hx).keep k, h.inj, h.t3, h.ln, h.pl⟩
theorem mcells_get {M : MM} {k : Nat} {x : Nat × List Tup} (h : M[k]? = some x) : (mcells M)[k]? = some (sl x.1 x.2.length (tcs x.2)) := by simp [mcells, h]
theorem mcells_len (M : MM) : (mcells M).length = M.length := by simp [mcells]
set_option maxHeartbeats 4000000 in
theorem eover_spec (om ot : Nat) (M : MM) (d b : Int) (σ : St) (hM : MOb σ om ot M d b) : ACalls Tryz.prog 48 [ptr om 0] σ fun r σ' => r = sc (.bool (decide (b < d))) ∧ σ' = σ := by
 have ob := hM.ob
 have hgt : decide (d > b) = decide (b < d) := rfl
 refine acalls 12 [.tmp 2] Tryz.func48 rfl (by decide) rfl rfl (Nat.le_of_ble_eq_true rfl) ?_
 repeat' (first
 |with_reducible first|apply Xa|apply Xb|(refine Xc ?_;intro κ hκ)|(apply hκ.out;clear hκ κ)|apply Xd|apply Xe|apply Xf
 |((with_reducible first|refine Xl ?_ ?_|refine Xm ?_ ?_|refine Xk ?_ ?_)<;> intro h hari<;> try exact Xp)
 |refine Xr ?_
 |exact True.intro
 |((with_reducible refine Xg ?_);refine Xj ?_)
 |(apply hκ.out;clear hκ κ))
 refine awp_draw_k follows_mixed (fun _ => True) [9] [0, 1, 2, 3, 4, 5, 6, 7, 8] [9] (by kernel_rfl) (fun _ _ _ h => h) ?_
 intro κ hκ
 repeat' (first
 |with_reducible first|apply Xa|apply Xb|(refine Xc ?_;intro κ hκ)|(apply hκ.out;clear hκ κ)|apply Xd|apply Xe|apply Xf
 |((with_reducible first|refine Xl ?_ ?_|refine Xm ?_ ?_|refine Xk ?_ ?_)<;> intro h hari<;> try exact Xp)
 |refine Xr ?_
 |exact True.intro
 |((with_reducible refine Xg ?_);refine Xj ?_)
 |(apply hκ.out;clear hκ κ))
 first | exact ⟨_, rfl, rfl⟩ | exact ⟨_, rfl, rfl, rfl⟩ | exact ⟨_, rfl⟩
def tupA (a : Atm) : Tup := tupOf (a.ts.map (·.2))
set_option maxHeartbeats 16000000 in
theorem ehasM_spec (om ot : Nat) (M : MM) (d b : Int) (a : Atm) (id k : Nat) (x : Nat × List Tup) (ha : a.ts.length ≤ 3) (hk : a.p = (k : Int)) (hx : M[k]? = some x) (σ : St) (hM : MOb σ om ot M d b) : ACalls Tryz.prog 75 [ptr om 0, ag [ic a.p, sl id a.ts.length (ecells a.ts)]] σ fun r σ' => r = sc (.bool (decide (tupA a ∈ x.2))) ∧ Keep σ σ' := by
 have hn1 : a.ts.length ≤ 1000 := by omega
 have hTu := fun σ => etuple_spec a.p id a.ts hn1 σ
 have hxm := List.mem_of_getElem? hx
 have h3 := hM.t3 x hxm
 have hl5 := hM.ln x hxm
 have htl := tcs_len h3
 have hkl : k < M.length := (List.getElem?_eq_some_iff.1 hx).1
 have hpl := hM.pl
 have hml := mcells_len M
 have hgx := mcells_get hx
 have lo := hM.lo
 have lt := hM.lt
 have ob := hM.ob
 have oc := hM.oc
 rw [hk]
 rw [hk] at hTu
 have hwl : (tupOf (a.ts.map (·.2))).length = 3 := rfl
 have HT : Abs.Hid (tupA a = tupOf (a.ts.map (·.2))) := rfl
 generalize tupA a = ta at *
 generalize tupOf (a.ts.map (·.2)) = t0 at *
 obtain ⟨a0, b0, c0, rfl⟩ : ∃ a0 b0 c0, t0 = [a0, b0, c0] := by
  match t0, hwl with
  | [a0, b0, c0], _ => exact ⟨a0, b0, c0, rfl⟩
 simp only [icells, List.map_cons, List.map_nil] at hTu
 refine acalls 27 [.tmp 4] Tryz.func75 rfl (by decide) rfl rfl (Nat.le_of_ble_eq_true rfl) ?_
 repeat' (first
 |with_reducible first|apply Xa|apply Xb|(refine Xc ?_;intro κ hκ)|(apply hκ.out;clear hκ κ)|apply Xd|apply Xe|apply Xf
 |((with_reducible first|refine Xl ?_ ?_|refine Xm ?_ ?_|refine Xk ?_ ?_)<;> intro h hari<;> try exact Xp)
 |((with_reducible refine Xh ?_);refine Xi (hTu _) ?_;rintro _ _ ⟨rfl,hK2⟩;(have kno2:=hK2.nobj;have kob2:=hK2.obj;have hKx:=((Keep.refl σ).new _).trans hK2;simp only [new_nobj] at kno2 kob2))
 |refine Xr ?_
 |exact True.intro
 |((with_reducible refine Xg ?_);refine Xj ?_)
 |(apply hκ.out;clear hκ κ))
 rename_i σ1
 have hKy : Keep σ ((σ1.new [ic 0, ic 0, ic 0]).put σ1.nobj [ic a0, ic b0, ic c0]) := (hKx.new _).put (by omega) _
 have e0 : σ1.obj σ.nobj = [ic (k : Int), sl id a.ts.length (ecells a.ts)] := by rw [kob2 _ (by omega), new_same]
 have e1 : σ1.obj om = [fx ot 0 M.length, ic d, ic b] := by rw [hKx.obj _ lo, ob]
 have e2 : σ1.obj ot = mcells M := by rw [hKx.obj _ lt, oc]
 clear kob2 hK2
 refine awp_draw_k follows_mixed (fun _ => True) [] [0, 1, 2, 3, 4, 5, 6, 7, 8, 9] [] (by kernel_rfl) (fun _ _ _ h => h) ?_
 intro κ hκ
 repeat' (first
 |with_reducible first|apply Xa|apply Xb|(refine Xc ?_;intro κ hκ)|(apply hκ.out;clear hκ κ)|apply Xd|apply Xe|apply Xf
 |((with_reducible first|refine Xl ?_ ?_|refine Xm ?_ ?_|refine Xk ?_ ?_)<;> intro h hari<;> try exact Xp)
 |refine Xr ?_
 |exact True.intro
 |((with_reducible refine Xg ?_);refine Xj ?_)
 |(apply hκ.out;clear hκ κ))
 clear e0 e1 e2
 refine awp_loop (fun m s σ' => ∃ i : Nat, m = x.2.length - i ∧ i ≤ x.2.length ∧ s 5 = ptr σ1.nobj 0 ∧ s 17 = sl x.1 x.2.length (tcs x.2) ∧ s 18 = ic x.2.length ∧ s 19 = ic i ∧ Keep σ σ' ∧ σ1.nobj < σ'.nobj ∧ σ'.obj σ1.nobj = [ic a0, ic b0, ic c0] ∧ Abs.Hid ([a0, b0, c0] ∉ x.2.take i)) x.2.length
  ⟨0, by omega, by omega, by simp [upd], by simp [upd], by simp [upd], rfl, hKy, by simp only [put_nobj, new_nobj]; omega, by rw [put_same], by simp [Abs.Hid]⟩ ?_
 clear hKy
 rintro m s σ' ⟨i, rfl, hi, h5, h17, h18, h19, hK, hno, ob5, hno2⟩
 have kno := hK.nobj
 by_cases hlt : i < x.2.length
 ·have hget := List.getElem?_eq_getElem hlt
  obtain ⟨p, q, r, rr, he, hd⟩ := tcs_get h3 hget
  rw [he] at hget
  clear he
  have HG : Abs.Hid (x.2[i]? = some [p, q, r]) := hget
  clear hget
  by_cases hc : p = a0 ∧ q = b0 ∧ r = c0
  ·obtain ⟨rfl, rfl, rfl⟩ := hc
   have hm : decide (ta ∈ x.2) = true := by rw [HT.out]; simpa using List.mem_of_getElem? HG.out
   repeat' (first
 |with_reducible first|apply Xa|apply Xb|(refine Xc ?_;intro κ hκ)|(apply hκ.out;clear hκ κ)|apply Xd|apply Xe|apply Xf
 |((with_reducible first|refine Xl ?_ ?_|refine Xm ?_ ?_|refine Xk ?_ ?_)<;> intro h hari<;> try exact Xp)
 |refine Xr ?_
 |exact True.intro
 |((with_reducible refine Xg ?_);refine Xj ?_)
 |(apply hκ.out;clear hκ κ))
   first | exact ⟨_, rfl, rfl, by exact Xs⟩ | exact ⟨_, rfl, by rw [hm], by exact Xs⟩ | (refine ⟨_, rfl, ?_⟩; ((repeat' with_reducible refine And.intro ?_ ?_)<;> first|exact Xq|exact (by rw [hm])|exact Xs))
  ·have hcb : (p == a0 && q == b0 && r == c0) = false := by
    cases h : (p == a0 && q == b0 && r == c0) with
    | false => rfl
    | true => simp at h; exact absurd ⟨h.1.1, h.1.2, h.2⟩ hc
   have HN : Abs.Hid ([a0, b0, c0] ∉ x.2.take (i + 1)) := not_take hno2.out HG.out (fun e => by simp at e; exact hc ⟨e.1, e.2.1, e.2.2⟩)
   clear hc hno2
   repeat' (first
 |with_reducible first|apply Xa|apply Xb|(refine Xc ?_;intro κ hκ)|(apply hκ.out;clear hκ κ)|apply Xd|apply Xe|apply Xf
 |((with_reducible first|refine Xl ?_ ?_|refine Xm ?_ ?_|refine Xk ?_ ?_)<;> intro h hari<;> try exact Xp)
 |refine Xr ?_
 |exact True.intro
 |((with_reducible refine Xg ?_);refine Xj ?_)
 |(apply hκ.out;clear hκ κ))
   refine ⟨x.2.length - (i + 1), by omega, i + 1, ?_⟩
   ((repeat' with_reducible refine And.intro ?_ ?_)<;> first|exact Xq|exact (HN)|exact Xs)
 ·have hil : i = x.2.length := by omega
  subst hil
  rw [List.take_length] at hno2
  have hm : decide (ta ∈ x.2) = false := by rw [HT.out]; simpa using hno2.out
  repeat' (first
 |with_reducible first|apply Xa|apply Xb|(refine Xc ?_;intro κ hκ)|(apply hκ.out;clear hκ κ)|apply Xd|apply Xe|apply Xf
 |((with_reducible first|refine Xl ?_ ?_|refine Xm ?_ ?_|refine Xk ?_ ?_)<;> intro h hari<;> try exact Xp)
 |refine Xr ?_
 |exact True.intro
 |((with_reducible refine Xg ?_);refine Xj ?_)
 |(apply hκ.out;clear hκ κ))
  first | exact ⟨_, rfl, rfl, hK⟩ | exact ⟨_, rfl, rfl⟩ | exact ⟨_, rfl, by rw [hm], hK⟩ | exact ⟨_, rfl, by rw [hm]⟩
end Go.Proofs.YtmoeoppbmhfbpaaGreatDoorB
