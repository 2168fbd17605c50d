import Derived.Test.YtmoeoppbmhfbpaaGreatDoorBEngD
/- The program's engine: parts that are idle are left out. -/
namespace Go.Proofs.YtmoeoppbmhfbpaaGreatDoorB
open Go.Abs
set_option linter.unusedSimpArgs false
set_option linter.unusedVariables false
set_option maxRecDepth 100000
def trim1 (q : Qry) : Qry := { q with parts := q.parts.eraseP fun p => idleB q p.a }
theorem eraseP_snoc {α : Type} (f : α → Bool) (l : List α) (w : α) : (l ++ [w]).eraseP f = if l.any f = true then l.eraseP f ++ [w] else if f w = true then l else l ++ [w] := by
 by_cases h : l.any f = true
 ·rw [if_pos h]
  rw [List.any_eq_true] at h
  obtain ⟨x, hx, hf⟩ := h
  exact List.eraseP_append_left hf _ hx
 ·rw [if_neg h]
  have h' : ∀ b ∈ l, ¬ f b = true := fun b hb hf => h (List.any_eq_true.2 ⟨b, hb, hf⟩)
  rw [List.eraseP_append_right _ h']
  by_cases hw : f w = true
  ·simp [hw]
  ·simp [hw]
theorem eraseP_le {α : Type} (f : α → Bool) (l : List α) : (l.eraseP f).length ≤ l.length := List.length_eraseP_le
theorem trim1_ok {q : Qry} (h : QOk q) : QOk (trim1 q) := by
 have hs : ∀ p ∈ (trim1 q).parts, p ∈ q.parts := fun p hp => List.mem_of_mem_eraseP hp
 have hl : (trim1 q).parts.length ≤ q.parts.length := eraseP_le _ _
 exact ⟨h.hd, Nat.le_trans hl h.pl, h.nl, fun p hp => h.pa p (hs p hp), fun p hp => h.pt p (hs p hp), fun p hp => h.p3 p (hs p hp), h.na⟩
set_option maxHeartbeats 16000000 in
theorem etrim1_spec (q : Qry) (c : List AV) (hc : EQ q c) (hq : QOk q) (σ : St) : ACalls Tryz.prog 251 [ag c] σ fun r σ' => (∃ c', r = ag c' ∧ EQ (trim1 q) c') ∧ Keep σ σ' := by
 have hc0 := hc
 obtain ⟨ih, ip, inn, pc, nc, rfl, hP, hN⟩ := hc
 have hpl := EL.length EPt_len hP
 have hl := hq.pl
 have hID := fun (a : Atm) (id : Nat) (ha : a.ts.length ≤ 3) σ => eidle_spec q _ a id ha hc0 hq σ
 clear hc0
 refine acalls 35 [.cell 2 182] Tryz.func251 rfl (by decide) rfl rfl (Nat.le_of_ble_eq_true rfl) ?_
 repeat' (first
 |with_reducible first|apply Xa|apply Xb|(refine Xc ?_;intro κ hκ)|(apply hκ.out;clear hκ κ)|apply Xd|apply Xe|apply Xf
 |((with_reducible first|refine Xl ?_ ?_|refine Xk ?_ ?_)<;> intro h hari<;> try exact Xp)
 |((with_reducible refine aapp_go ?_);refine Xt ?_;intro idn σn hOn hKn eobj enobj ever entop)
 |((with_reducible refine aappn_go ?_);refine Xu ?_)
 |refine Xr ?_
 |exact True.intro
 |(apply hκ.out;clear hκ κ))
 refine awp_loop (fun m s σ' => ∃ (k i3 : Nat) (d : Bool) (o : List Part) (xs : List AV), m = q.parts.length - k ∧ k ≤ q.parts.length ∧ s 1 = ptr σ.nobj 0 ∧ s 2 = ptr (σ.nobj + 1) 0 ∧ s 3 = ptr (σ.nobj + 2) 0 ∧ s 4 = sc (.bool d) ∧ s 13 = sl ip q.parts.length pc ∧ s 14 = ic q.parts.length ∧ s 15 = ic k ∧ Keep σ σ' ∧ σ.nobj + 2 < σ'.nobj ∧ σ'.obj σ.nobj = [ic q.head.p, sl ih q.head.ts.length (ecells q.head.ts), sl ip q.parts.length pc, sl inn q.nots.length nc] ∧ σ'.obj (σ.nobj + 1) = [ic 0, nilS, nilS, nilS] ∧ σ'.obj (σ.nobj + 2) = [ic q.head.p, sl ih q.head.ts.length (ecells q.head.ts), sl i3 o.length xs, sl inn q.nots.length nc] ∧ Own σ σ' i3 o.length ∧ o.length ≤ k ∧ xs.length = o.length * 3 ∧ Abs.Hid (EL EPt o xs ∧ d = (q.parts.take k).any (fun p => idleB q p.a) ∧ o = (q.parts.take k).eraseP fun p => idleB q p.a)) q.parts.length
  ⟨0, 1, false, [], [], by omega, by omega, by simp [upd], by simp [upd], by simp [upd], by simp [upd], by simp [upd], by simp [upd], rfl, by exact Xs, by simp only [put_nobj, new_nobj]; omega, ?_, ?_, ?_, Own.nil _ _, by simp, by simp, ⟨rfl, by simp, by simp⟩⟩ ?_
 ·rw [put_ne (by omega), new_lt (by simp only [new_nobj]; omega), new_lt (by simp only [new_nobj]; omega), new_same]
 ·rw [put_ne (by omega), new_lt (by simp only [new_nobj]; omega), new_at (by simp only [new_nobj]; omega) (by simp only [new_nobj]; omega)]
 ·rw [show σ.nobj + 2 = σ.nobj + 1 + 1 by omega, put_same]; simp
 rintro m s σ' ⟨k, i3, d, o, xs, rfl, hk, h1, h2, h3, h4, h13, h14, h15, hK, hno, ob0, ob1, ob2, hO, hol, hxl, hX⟩
 have kno := hK.nobj
 by_cases hlt : k < q.parts.length
 ·have hget := List.getElem?_eq_getElem hlt
  obtain ⟨id, idt, r, hd⟩ := EPt_get hP hget
  have hb := hq.pa _ (List.getElem_mem hlt)
  generalize q.parts[k] = w at hd hget hb
  have HE : Abs.Hid ((q.parts.take (k + 1)).eraseP (fun p => idleB q p.a) = if (q.parts.take k).any (fun p => idleB q p.a) = true then (q.parts.take k).eraseP (fun p => idleB q p.a) ++ [w] else if idleB q w.a = true then q.parts.take k else q.parts.take k ++ [w]) := by
   rw [Abs.Hid, List.take_add_one, hget, Option.toList_some, eraseP_snoc]
  have HA : Abs.Hid ((q.parts.take (k + 1)).any (fun p => idleB q p.a) = ((q.parts.take k).any (fun p => idleB q p.a) || idleB q w.a)) := by
   rw [Abs.Hid, List.take_add_one, hget, Option.toList_some, List.any_append]; simp
  have HN : Abs.Hid ((q.parts.take k).any (fun p => idleB q p.a) = false → (q.parts.take k).eraseP (fun p => idleB q p.a) = q.parts.take k) := fun h => List.eraseP_of_forall_not (fun a ha hf => by
   rw [List.any_eq_false] at h
   exact h a ha hf)
  clear hget
  have hID := hID w.a id hb
  cases d with
  | true =>
   have HX : Abs.Hid (EL EPt (o ++ [w]) (xs ++ [ic w.a.p, sl id w.a.ts.length (ecells w.a.ts), sl idt w.tups.length (tcs w.tups)]) ∧ true = (q.parts.take (k + 1)).any (fun p => idleB q p.a) ∧ o ++ [w] = (q.parts.take (k + 1)).eraseP fun p => idleB q p.a) := by
    obtain ⟨x1, x2, x3⟩ := hX.out
    refine ⟨EL.append x1 (EL.single ⟨id, idt, rfl⟩), ?_, ?_⟩
    ·rw [HA.out, ← x2]; rfl
    ·rw [HE.out, if_pos x2.symm, x3]
   clear hX HE HA HN
   repeat' (first
 |with_reducible first|apply Xa|apply Xb|(refine Xc ?_;intro κ hκ)|(apply hκ.out;clear hκ κ)|apply Xd|apply Xe|apply Xf
 |((with_reducible first|refine Xl ?_ ?_|refine Xk ?_ ?_)<;> intro h hari<;> try exact Xp)
 |((with_reducible refine aapp_go ?_);refine Xt ?_;intro idn σn hOn hKn eobj enobj ever entop)
 |((with_reducible refine aappn_go ?_);refine Xu ?_)
 |refine Xr ?_
 |exact True.intro
 |(apply hκ.out;clear hκ κ))
   refine aApp_own (by first | exact tez_180) ((hK.new _).put hK.nobj _) (Own.put (Own.new hO _) _ _) (by decide) (by rfl) (hxl) (by rfl) (by rfl) (by decide) (by omega) (by omega) ?_
   intro idn σn hOn hKn eobj enobj ever entop
   simp only [put_nobj, new_nobj] at enobj
   have eob : ∀ p, p < σ'.nobj → σn.obj p = σ'.obj p := fun p hp => by rw [eobj, put_ne (by omega), new_lt (by omega)]
   refine Xr ?_
   repeat' (first
 |with_reducible first|apply Xa|apply Xb|(refine Xc ?_;intro κ hκ)|(apply hκ.out;clear hκ κ)|apply Xd|apply Xe|apply Xf
 |((with_reducible first|refine Xl ?_ ?_|refine Xk ?_ ?_)<;> intro h hari<;> try exact Xp)
 |((with_reducible refine aapp_go ?_);refine Xt ?_;intro idn σn hOn hKn eobj enobj ever entop)
 |((with_reducible refine aappn_go ?_);refine Xu ?_)
 |refine Xr ?_
 |exact True.intro
 |(apply hκ.out;clear hκ κ))
   refine ⟨q.parts.length - (k + 1), by omega, k + 1, idn, true, o ++ [w], xs ++ [ic w.a.p, sl id w.a.ts.length (ecells w.a.ts), sl idt w.tups.length (tcs w.tups)], ?_⟩
   ((repeat' with_reducible refine And.intro ?_ ?_)<;> first|exact Xq|exact (hKn.put (by omega) _)|exact (by simpa using Own.put hOn _ _)|exact (HX)|exact Xs)
  | false =>
   cases hib : idleB q w.a with
   | true =>
    have HX : Abs.Hid (EL EPt o xs ∧ true = (q.parts.take (k + 1)).any (fun p => idleB q p.a) ∧ o = (q.parts.take (k + 1)).eraseP fun p => idleB q p.a) := by
     obtain ⟨x1, x2, x3⟩ := hX.out
     refine ⟨x1, ?_, ?_⟩
     ·rw [HA.out, ← x2, hib]; rfl
     ·rw [HE.out, if_neg (by rw [← x2]; simp), if_pos hib, x3, HN.out x2.symm]
    clear hX HE HA HN
    rw [hib] at hID
    repeat' (first
 |with_reducible first|apply Xa|apply Xb|(refine Xc ?_;intro κ hκ)|(apply hκ.out;clear hκ κ)|apply Xd|apply Xe|apply Xf
 |((with_reducible first|refine Xl ?_ ?_|refine Xk ?_ ?_)<;> intro h hari<;> try exact Xp)
 |((with_reducible refine aapp_go ?_);refine Xt ?_;intro idn σn hOn hKn eobj enobj ever entop)
 |((with_reducible refine aappn_go ?_);refine Xu ?_)
 |((with_reducible refine Xh ?_);refine Xi (hID _) ?_;rintro _ _ ⟨rfl,hK2⟩;(have kno2:=hK2.nobj;have kob2:=hK2.obj;have hKx:=((hK.new _).put hK.nobj _).trans hK2;have hOx:=Own.keep (Own.put (Own.new hO _) _ _) hK2;simp only [put_nobj,new_nobj] at kno2 kob2))
 |refine Xr ?_
 |exact True.intro
 |(apply hκ.out;clear hκ κ))
    refine ⟨q.parts.length - (k + 1), by omega, k + 1, i3, true, o, xs, ?_⟩
    ((repeat' with_reducible refine And.intro ?_ ?_)<;> first|exact Xq|exact (HX)|exact Xs)
   | false =>
    have HX : Abs.Hid (EL EPt (o ++ [w]) (xs ++ [ic w.a.p, sl id w.a.ts.length (ecells w.a.ts), sl idt w.tups.length (tcs w.tups)]) ∧ false = (q.parts.take (k + 1)).any (fun p => idleB q p.a) ∧ o ++ [w] = (q.parts.take (k + 1)).eraseP fun p => idleB q p.a) := by
     obtain ⟨x1, x2, x3⟩ := hX.out
     refine ⟨EL.append x1 (EL.single ⟨id, idt, rfl⟩), ?_, ?_⟩
     ·rw [HA.out, ← x2, hib]; rfl
     ·rw [HE.out, if_neg (by rw [← x2]; simp), if_neg (by rw [hib]; simp), x3, HN.out x2.symm]
    clear hX HE HA HN
    rw [hib] at hID
    repeat' (first
 |with_reducible first|apply Xa|apply Xb|(refine Xc ?_;intro κ hκ)|(apply hκ.out;clear hκ κ)|apply Xd|apply Xe|apply Xf
 |((with_reducible first|refine Xl ?_ ?_|refine Xk ?_ ?_)<;> intro h hari<;> try exact Xp)
 |((with_reducible refine aapp_go ?_);refine Xt ?_;intro idn σn hOn hKn eobj enobj ever entop)
 |((with_reducible refine aappn_go ?_);refine Xu ?_)
 |((with_reducible refine Xh ?_);refine Xi (hID _) ?_;rintro _ _ ⟨rfl,hK2⟩;(have kno2:=hK2.nobj;have kob2:=hK2.obj;have hKx:=((hK.new _).put hK.nobj _).trans hK2;have hOx:=Own.keep (Own.put (Own.new hO _) _ _) hK2;simp only [put_nobj,new_nobj] at kno2 kob2))
 |refine Xr ?_
 |exact True.intro
 |(apply hκ.out;clear hκ κ))
    refine ⟨q.parts.length - (k + 1), by omega, k + 1, idn, false, o ++ [w], xs ++ [ic w.a.p, sl id w.a.ts.length (ecells w.a.ts), sl idt w.tups.length (tcs w.tups)], ?_⟩
    ((repeat' with_reducible refine And.intro ?_ ?_)<;> first|exact Xq|exact (hKn.put (by omega) _)|exact (by simpa using Own.put hOn _ _)|exact (HX)|exact Xs)
 ·have hkl : k = q.parts.length := by omega
  subst hkl
  obtain ⟨x1, -, x3⟩ := hX.out
  rw [List.take_length] at x3
  repeat' (first
 |with_reducible first|apply Xa|apply Xb|(refine Xc ?_;intro κ hκ)|(apply hκ.out;clear hκ κ)|apply Xd|apply Xe|apply Xf
 |((with_reducible first|refine Xl ?_ ?_|refine Xk ?_ ?_)<;> intro h hari<;> try exact Xp)
 |((with_reducible refine aapp_go ?_);refine Xt ?_;intro idn σn hOn hKn eobj enobj ever entop)
 |((with_reducible refine aappn_go ?_);refine Xu ?_)
 |refine Xr ?_
 |exact True.intro
 |(apply hκ.out;clear hκ κ))
  exact ⟨_, rfl, ⟨_, rfl, ih, i3, inn, xs, nc, by rw [trim1, ← x3], by rw [trim1, ← x3]; exact x1, hN⟩, hK.put (by omega) _⟩
/- The program's engine: idle parts, as long as there are; what a tuple must be to fit. -/
inductive TrimR (q : Qry) : Qry → Prop where
 | refl : TrimR q q
 | tail {q' : Qry} : TrimR q q' → TrimR q (trim1 q')
set_option maxHeartbeats 16000000 in
theorem etrim_spec (q : Qry) (c : List AV) (hc : EQ q c) (hq : QOk q) (σ : St) : ACalls Tryz.prog 214 [ag c] σ fun r σ' => (∃ c' q', r = ag c' ∧ EQ q' c' ∧ QOk q' ∧ TrimR q q') ∧ Keep σ σ' := by
 obtain ⟨ih, ip, inn, pc, nc, rfl, hP, hN⟩ := hc
 have hl := hq.pl
 refine acalls 19 [.cell 2 182] Tryz.func214 rfl (by decide) rfl rfl (Nat.le_of_ble_eq_true rfl) ?_
 repeat' (first
 |with_reducible first|apply Xa|apply Xb|(refine Xc ?_;intro κ hκ)|(apply hκ.out;clear hκ κ)|apply Xd|apply Xe|apply Xf
 |((with_reducible first|refine Xl ?_ ?_|refine Xk ?_ ?_)<;> intro h hari<;> try exact Xp)
 |refine Xr ?_
 |exact True.intro
 |(apply hκ.out;clear hκ κ))
 refine awp_loop (fun m s σ' => ∃ (qk : Qry) (ck : List AV), s 1 = ptr σ.nobj 0 ∧ s 2 = ptr (σ.nobj + 1) 0 ∧ s 3 = ic m ∧ m ≤ 65 ∧ Keep σ σ' ∧ σ.nobj + 1 < σ'.nobj ∧ σ'.obj σ.nobj = ck ∧ σ'.obj (σ.nobj + 1) = [ic 0, nilS, nilS, nilS] ∧ EQ qk ck ∧ Abs.Hid (QOk qk ∧ TrimR q qk)) (q.parts.length + 1)
  ⟨q, _, by simp [upd], by simp [upd], by simp [upd], by omega, by exact Xs, by simp only [new_nobj]; omega, rfl, ?_, ⟨ih, ip, inn, pc, nc, ?_, hP, hN⟩, hq, .refl⟩ ?_
 ·rw [new_at (by simp only [new_nobj]; omega) (by simp only [new_nobj]; omega)]
 ·rw [new_lt (by simp only [new_nobj]; omega), new_same]
 clear hP hN hl
 rintro m s σ' ⟨qk, ck, h1, h2, h3, hm, hK, hno, ob0, ob1, hE, hQ⟩
 have kno := hK.nobj
 have hE0 := hE
 obtain ⟨ih, ip, inn, pc, nc, rfl, hP, hN⟩ := hE
 have hT := fun σ => etrim1_spec qk _ hE0 hQ.out.1 σ
 have HE0 : Abs.Hid _ := hE0
 clear hE0
 have hl := hQ.out.1.pl
 by_cases hlt : qk.parts.length < m
 ·repeat' (first
 |with_reducible first|apply Xa|apply Xb|(refine Xc ?_;intro κ hκ)|(apply hκ.out;clear hκ κ)|apply Xd|apply Xe|apply Xf
 |((with_reducible first|refine Xl ?_ ?_|refine Xk ?_ ?_)<;> intro h hari<;> try exact Xp)
 |((with_reducible refine Xh ?_);refine Xi (hT _) ?_;rintro _ _ ⟨⟨_,rfl,ih2,ip2,inn2,pc2,nc2,rfl,hP2,hN2⟩,hK2⟩;(have kno2:=hK2.nobj;have kob2:=hK2.obj;have hKx:=hK.trans hK2))
 |refine Xr ?_
 |exact True.intro
 |(apply hκ.out;clear hκ κ))
  refine ⟨qk.parts.length, by omega, trim1 qk, [ic (trim1 qk).head.p, sl ih2 (trim1 qk).head.ts.length (ecells (trim1 qk).head.ts), sl ip2 (trim1 qk).parts.length pc2, sl inn2 (trim1 qk).nots.length nc2], ?_⟩
  ((repeat' with_reducible refine And.intro ?_ ?_)<;> first|exact Xq|exact (hKx.put (by omega) _)|exact (⟨ih2, ip2, inn2, pc2, nc2, rfl, hP2, hN2⟩)|exact (⟨trim1_ok hQ.out.1, .tail hQ.out.2⟩)|exact Xs)
 ·repeat' (first
 |with_reducible first|apply Xa|apply Xb|(refine Xc ?_;intro κ hκ)|(apply hκ.out;clear hκ κ)|apply Xd|apply Xe|apply Xf
 |((with_reducible first|refine Xl ?_ ?_|refine Xk ?_ ?_)<;> intro h hari<;> try exact Xp)
 |refine Xr ?_
 |exact True.intro
 |(apply hκ.out;clear hκ κ))
  exact ⟨_, rfl, ⟨_, qk, rfl, HE0.out, hQ.out.1, hQ.out.2⟩, hK.put (by omega) _⟩
/-! ### What fits -/
theorem i3_len {t : Tup} (h : t.length = 3) : (icells t).length = 3 := by rw [icells_len, h]
theorem i3_take {t : Tup} (h : t.length = 3) (r : List AV) : List.take 3 (icells t ++ r) = icells t := by rw [List.take_append_of_le_length (by rw [i3_len h]; exact Nat.le_refl _), List.take_of_length_le (by rw [i3_len h]; exact Nat.le_refl _)]
theorem i3_take0 {t : Tup} (h : t.length = 3) : List.take 3 (icells t) = icells t := List.take_of_length_le (by rw [i3_len h]; exact Nat.le_refl _)
theorem i3_lsp {t : Tup} (h : t.length = 3) (x y z : AV) : lsp [x, y, z] 0 (icells t) = icells t := by
 match t, h with
 | [a, b, c], _ => rfl
theorem i3_le {t : Tup} (h : t.length = 3) (r : List AV) : 3 ≤ (icells t ++ r).length := by rw [List.length_append, i3_len h]; omega
theorem i3_get {t : Tup} {i : Nat} {x : Int} (h : t[i]? = some x) : (icells t)[i]? = some (ic x) := by simp [icells, h]
def fit1 (ts : List Tm) (t : Tup) (i : Nat) : Bool := match ts[i]?, t[i]? with
 | some (false, n), some x => x == n
 | some (true, v), some x => x == (t[(eplc ts v).toNat]?).getD 0
 | _, _ => false
def fitB (ts : List Tm) (t : Tup) : Bool := (List.range ts.length).all (fit1 ts t)
set_option maxHeartbeats 16000000 in
theorem efits_spec (p : Int) (ids : Nat) (ts : List Tm) (t : Tup) (ht : t.length = 3) (hn : ts.length ≤ 3) (σ : St) : ACalls Tryz.prog 168 [ag [ic p, sl ids ts.length (ecells ts)], ag (icells t)] σ fun r σ' => r = sc (.bool (fitB ts t)) ∧ Keep σ σ' := by
 have htl := ecells_len ts
 have h3l := i3_len ht
 have h3t := i3_take0 ht
 have hn1 : ts.length ≤ 1000 := by omega
 have hbad : ∀ i, i < ts.length → fit1 ts t i = false → fitB ts t = false := fun i hi h => by
  unfold fitB
  rw [List.all_eq_false]
  exact ⟨i, by simpa using hi, by rw [h]; simp⟩
 refine acalls 41 [.tmp 4] Tryz.func168 rfl (by decide) rfl rfl (Nat.le_of_ble_eq_true rfl) ?_
 repeat' (first
 |with_reducible first|apply Xa|apply Xb|(refine Xc ?_;intro κ hκ)|(apply hκ.out;clear hκ κ)|apply Xd|apply Xe|apply Xf
 |((with_reducible first|refine Xl ?_ ?_|refine Xm ?_ ?_|refine Xk ?_ ?_)<;> intro h hari<;> try exact Xp)
 |refine Xr ?_
 |exact True.intro
 |((with_reducible refine Xg ?_);refine Xj ?_)
 |(apply hκ.out;clear hκ κ))
 refine awp_loop (fun m s σ' => ∃ i : Nat, m = ts.length - i ∧ i ≤ ts.length ∧ s 2 = ptr σ.nobj 0 ∧ s 3 = ptr (σ.nobj + 1) 0 ∧ s 8 = sl ids ts.length (ecells ts) ∧ s 9 = ic ts.length ∧ s 10 = ic i ∧ Keep σ σ' ∧ σ.nobj + 1 < σ'.nobj ∧ σ'.obj σ.nobj = [ic p, sl ids ts.length (ecells ts)] ∧ σ'.obj (σ.nobj + 1) = icells t ∧ Abs.Hid (∀ j, j < i → fit1 ts t j = true)) ts.length
  ⟨0, by omega, by omega, by simp [upd], by simp [upd], by simp [upd], by simp [upd], rfl, by exact Xs, by simp only [new_nobj]; omega, ?_, ?_, fun j hj => by omega⟩ ?_
 ·rw [new_lt (by simp only [new_nobj]; omega), new_same]
 ·rw [new_at (by simp only [new_nobj]; omega) (by simp only [new_nobj]; omega)]
 rintro m s σ' ⟨i, rfl, hi, h2, h3, h8, h9, h10, hK, hno, ob0, ob1, hA⟩
 have kno := hK.nobj
 by_cases hlt : i < ts.length
 ·have hget := List.getElem?_eq_getElem hlt
  obtain ⟨r, hd⟩ := ecells_get hget
  have hti : t[i]? = some t[i] := List.getElem?_eq_getElem (by omega)
  have hgi := i3_get hti
  generalize ts[i] = w at hd hget
  generalize t[i] = x at hti hgi
  obtain ⟨w1, w2⟩ := w
  have hSt : Abs.Hid (fit1 ts t i = true → ∀ j, j < i + 1 → fit1 ts t j = true) := fun h j hj => by
   by_cases e : j = i
   ·subst e; exact h
   ·exact hA.out j (by omega)
  have HB : Abs.Hid (fit1 ts t i = false → fitB ts t = false) := hbad i hlt
  cases w1 with
  | false =>
   have HF : Abs.Hid (fit1 ts t i = (x == w2)) := by rw [Abs.Hid, fit1, hget, hti]
   clear hget hti hA
   repeat' (first
 |with_reducible first|apply Xa|apply Xb|(refine Xc ?_;intro κ hκ)|(apply hκ.out;clear hκ κ)|apply Xd|apply Xe|apply Xf
 |((with_reducible first|refine Xl ?_ ?_|refine Xm ?_ ?_|refine Xk ?_ ?_)<;> intro h hari<;> try exact Xp)
 |refine Xr ?_
 |exact True.intro
 |((with_reducible refine Xg ?_);refine Xj ?_)
 |(apply hκ.out;clear hκ κ))
   refine awp_draw_k follows_mixed (fun _ => True) [] [0, 1, 2, 3, 4, 5, 6, 7, 8, 9, 10] [] (by kernel_rfl) (fun _ _ _ h => h) ?_
   intro κ hκ
   repeat' (first
 |with_reducible first|apply Xa|apply Xb|(refine Xc ?_;intro κ hκ)|(apply hκ.out;clear hκ κ)|apply Xd|apply Xe|apply Xf
 |((with_reducible first|refine Xl ?_ ?_|refine Xm ?_ ?_|refine Xk ?_ ?_)<;> intro h hari<;> try exact Xp)
 |refine Xr ?_
 |exact True.intro
 |((with_reducible refine Xg ?_);refine Xj ?_)
 |(apply hκ.out;clear hκ κ))
   ·exact ⟨_, rfl, by rw [HB.out (by rw [HF.out]; simp only [bne_iff_ne, ne_eq] at h; simp [h])], (hK.new _).put hK.nobj _⟩
   ·have hK1 : Keep σ ((σ'.new [sc (.bool false), ic 0]).put σ'.nobj [sc (.bool false), ic w2]) := (hK.new _).put hK.nobj _
    have kv : ∀ p, p < σ'.nobj → ((σ'.new [sc (.bool false), ic 0]).put σ'.nobj [sc (.bool false), ic w2]).obj p = σ'.obj p := fun p hp => by rw [put_ne (by omega), new_lt (by omega)]
    refine awp_mono (Q := fun e s' σ'' => e = .normal ∧ s' 39 = sc (.bool false) ∧ s' 2 = ptr σ.nobj 0 ∧ s' 3 = ptr (σ.nobj + 1) 0 ∧ s' 8 = sl ids ts.length (ecells ts) ∧ s' 9 = ic ts.length ∧ s' 10 = ic i ∧ σ'' = (σ'.new [sc (.bool false), ic 0]).put σ'.nobj [sc (.bool false), ic w2]) ?_ ?_
    ·refine awp_draw_h follows_mixed (fun _ => True) [] [0, 1, 2, 3, 4, 5, 6, 7, 8] 5 #[true, true, true, true, true, true, true, true, true, false, false, false, false, false] (by kernel_rfl) (fun _ _ _ h => by cases h.1) ?_; intro κ hκ; refine Xr ?_; refine hκ.out _ ?_; clear hκ κ
     refine uany_one (i := 9) (by kernel_rfl) ?_; refine aOne_k ?_; intro κ hκ; refine Xr ?_
     refine hκ.out _ _ ⟨kept_refl, ?_⟩; clear hκ κ
     refine uany_rest [10, 11, 12, 13] (by kernel_rfl) (by kernel_rfl) (fun _ _ _ h => by cases h.1) (Nat.le_refl _) (fun o ho _ => rfl) ?_
     intro κ hκ
     refine Xr ?_
     refine hκ.out _ _ ⟨rfl, ?_⟩
     simp [upd, *]
    ·rintro e s' σ'' ⟨rfl, g39, g2, g3, g8, g9, g10, rfl⟩
     refine awp_cond_f g39 ?_
     repeat' (first
 |with_reducible first|apply Xa|apply Xb|(refine Xc ?_;intro κ hκ)|(apply hκ.out;clear hκ κ)|apply Xd|apply Xe|apply Xf
 |((with_reducible first|refine Xl ?_ ?_|refine Xm ?_ ?_|refine Xk ?_ ?_)<;> intro h hari<;> try exact Xp)
 |refine Xr ?_
 |exact True.intro
 |((with_reducible refine Xg ?_);refine Xj ?_)
 |(apply hκ.out;clear hκ κ))
     refine ⟨ts.length - (i + 1), by omega, i + 1, ?_⟩
     ((repeat' with_reducible refine And.intro ?_ ?_)<;> first|exact Xq|exact (hSt.out (by rw [HF.out]; simpa using h))|exact Xs)
  | true =>
   obtain ⟨pl, hpl, hpe⟩ : ∃ k : Nat, k < ts.length ∧ eplc ts w2 = (k : Int) := by
    have hm := List.mem_of_getElem? hget
    exact ⟨ts.idxOf (true, w2), List.idxOf_lt_length_iff.2 hm, if_pos hm⟩
   have htp : t[pl]? = some t[pl] := List.getElem?_eq_getElem (by omega)
   have hgp := i3_get htp
   generalize t[pl] = y at htp hgp
   have HF : Abs.Hid (fit1 ts t i = (x == y)) := by rw [Abs.Hid, fit1, hget, hti]; simp [hpe, htp]
   clear hget hti hA htp
   have hPl := fun σ => eplace_spec p ids ts w2 hn1 σ
   rw [hpe] at hPl
   repeat' (first
 |with_reducible first|apply Xa|apply Xb|(refine Xc ?_;intro κ hκ)|(apply hκ.out;clear hκ κ)|apply Xd|apply Xe|apply Xf
 |((with_reducible first|refine Xl ?_ ?_|refine Xm ?_ ?_|refine Xk ?_ ?_)<;> intro h hari<;> try exact Xp)
 |refine Xr ?_
 |exact True.intro
 |((with_reducible refine Xg ?_);refine Xj ?_)
 |(apply hκ.out;clear hκ κ))
   refine awp_draw_k follows_mixed (fun _ => True) [] [0, 1, 2, 3, 4, 5, 6, 7, 8, 9, 10] [] (by kernel_rfl) (fun _ _ _ h => h) ?_
   intro κ hκ
   repeat' (first
 |with_reducible first|apply Xa|apply Xb|(refine Xc ?_;intro κ hκ)|(apply hκ.out;clear hκ κ)|apply Xd|apply Xe|apply Xf
 |((with_reducible first|refine Xl ?_ ?_|refine Xm ?_ ?_|refine Xk ?_ ?_)<;> intro h hari<;> try exact Xp)
 |refine Xr ?_
 |exact True.intro
 |((with_reducible refine Xg ?_);refine Xj ?_)
 |(apply hκ.out;clear hκ κ))
   have hK1 : Keep σ ((σ'.new [sc (.bool false), ic 0]).put σ'.nobj [sc (.bool true), ic w2]) := (hK.new _).put hK.nobj _
   have kv : ∀ p, p < σ'.nobj → ((σ'.new [sc (.bool false), ic 0]).put σ'.nobj [sc (.bool true), ic w2]).obj p = σ'.obj p := fun p hp => by rw [put_ne (by omega), new_lt (by omega)]
   refine awp_mono (Q := fun e s' σ'' => e = .normal ∧ s' 39 = sc (.bool (x != y)) ∧ s' 2 = ptr σ.nobj 0 ∧ s' 3 = ptr (σ.nobj + 1) 0 ∧ s' 8 = sl ids ts.length (ecells ts) ∧ s' 9 = ic ts.length ∧ s' 10 = ic i ∧ Keep ((σ'.new [sc (.bool false), ic 0]).put σ'.nobj [sc (.bool true), ic w2]) σ'') ?_ ?_
   ·refine awp_draw_h follows_mixed (fun _ => True) [] [0, 1, 2, 3, 4, 5, 6, 7, 8] 5 #[true, true, true, true, true, true, true, true, true, false, false, false, false, false] (by kernel_rfl) (fun _ _ _ h => by cases h.1) ?_; intro κ hκ; refine Xr ?_; refine hκ.out _ ?_; clear hκ κ
    refine uany_one (i := 9) (by kernel_rfl) ?_; refine aOne_k ?_; intro κ hκ; refine Xr ?_
    refine ACalls.mono (hPl _) ?_
    rintro _ σ5 ⟨rfl, hK2⟩
    refine Xr ?_
    refine hκ.out _ _ ⟨kept_keep hK2, ?_⟩; clear hκ κ
    have kno2 := hK2.nobj
    have kob2 := hK2.obj
    simp only [put_nobj, new_nobj] at kno2 kob2
    have o5 : σ5.obj (σ.nobj + 1) = icells t := by rw [kob2 _ (by omega), kv _ (by omega), ob1]
    refine uany_rest [10, 11, 12, 13] (by kernel_rfl) (by kernel_rfl) (fun _ _ _ h => by cases h.1) hK2.nobj (fun o ho _ => hK2.ver o ho) ?_
    intro κ hκ
    refine Xr ?_
    refine hκ.out _ _ ⟨rfl, ?_⟩
    simp [upd, *]
   ·rintro e s' σ'' ⟨rfl, g39, g2, g3, g8, g9, g10, hK2⟩
    have kno2 := hK2.nobj
    have kob2 := hK2.obj
    simp only [put_nobj, new_nobj] at kno2 kob2
    have hKx := hK1.trans hK2
    have o50 : σ''.obj σ.nobj = [ic p, sl ids ts.length (ecells ts)] := by rw [kob2 _ (by omega), kv _ (by omega), ob0]
    have o51 : σ''.obj (σ.nobj + 1) = icells t := by rw [kob2 _ (by omega), kv _ (by omega), ob1]
    clear kob2 kv
    cases hxy : x != y with
    | true =>
     rw [hxy] at g39
     refine awp_cond_t g39 ?_
     repeat' (first
 |with_reducible first|apply Xa|apply Xb|(refine Xc ?_;intro κ hκ)|(apply hκ.out;clear hκ κ)|apply Xd|apply Xe|apply Xf
 |((with_reducible first|refine Xl ?_ ?_|refine Xm ?_ ?_|refine Xk ?_ ?_)<;> intro h hari<;> try exact Xp)
 |refine Xr ?_
 |exact True.intro
 |((with_reducible refine Xg ?_);refine Xj ?_)
 |(apply hκ.out;clear hκ κ))
     exact ⟨_, rfl, by rw [HB.out (by rw [HF.out]; simp only [bne_iff_ne, ne_eq] at hxy; simp [hxy])]⟩
    | false =>
     rw [hxy] at g39
     refine awp_cond_f g39 ?_
     repeat' (first
 |with_reducible first|apply Xa|apply Xb|(refine Xc ?_;intro κ hκ)|(apply hκ.out;clear hκ κ)|apply Xd|apply Xe|apply Xf
 |((with_reducible first|refine Xl ?_ ?_|refine Xm ?_ ?_|refine Xk ?_ ?_)<;> intro h hari<;> try exact Xp)
 |refine Xr ?_
 |exact True.intro
 |((with_reducible refine Xg ?_);refine Xj ?_)
 |(apply hκ.out;clear hκ κ))
     refine ⟨ts.length - (i + 1), by omega, i + 1, ?_⟩
     ((repeat' with_reducible refine And.intro ?_ ?_)<;> first|exact Xq|exact (hSt.out (by rw [HF.out]; simpa using hxy))|exact Xs)
 ·have hil : i = ts.length := by omega
  subst hil
  have hR : fitB ts t = true := by
   unfold fitB
   rw [List.all_eq_true]
   intro j hj
   exact hA.out j (by simpa using hj)
  repeat' (first
 |with_reducible first|apply Xa|apply Xb|(refine Xc ?_;intro κ hκ)|(apply hκ.out;clear hκ κ)|apply Xd|apply Xe|apply Xf
 |((with_reducible first|refine Xl ?_ ?_|refine Xm ?_ ?_|refine Xk ?_ ?_)<;> intro h hari<;> try exact Xp)
 |refine Xr ?_
 |exact True.intro
 |((with_reducible refine Xg ?_);refine Xj ?_)
 |(apply hκ.out;clear hκ κ))
  first | exact ⟨_, rfl, by rw [hR], hK⟩ | exact ⟨_, rfl, by rw [hR]⟩ | exact ⟨_, rfl, hK⟩ | exact ⟨_, rfl, rfl⟩ | exact hK
end Go.Proofs.YtmoeoppbmhfbpaaGreatDoorB
