import Derived.Test.YtmoeoppbmhfbpaaGreatDoorBEngJ
/- The program's engine: narrowed, round by round. -/
namespace Go.Proofs.YtmoeoppbmhfbpaaGreatDoorB
open Go.Abs
set_option linter.unusedSimpArgs false
set_option linter.unusedVariables false
set_option maxRecDepth 100000
inductive NarS (q : Qry) : Qry → Prop where
 | refl : NarS q q
 | tail {q' : Qry} (v : Int) : NarS q q' → NarS q (narBy q' v)
theorem narP_a (l : List Part) (v : Int) (p : Part) : (narP l v p).a = p.a := by unfold narP; split <;> rfl
theorem narP_sub (l : List Part) (v : Int) (p : Part) : ∀ t ∈ (narP l v p).tups, t ∈ p.tups := by
 unfold narP
 split
 ·intro t ht; exact (List.mem_filter.1 ht).1
 ·exact fun t ht => ht
theorem narP_len (l : List Part) (v : Int) (p : Part) : (narP l v p).tups.length ≤ p.tups.length := by
 unfold narP
 split
 ·exact List.length_filter_le _ _
 ·exact Nat.le_refl _
theorem narBy_ok {q : Qry} {v : Int} (h : QOk q) : QOk (narBy q v) := by
 have hm : ∀ p ∈ (narBy q v).parts, ∃ p0 ∈ q.parts, narP q.parts v p0 = p := fun p hp => List.mem_map.1 hp
 refine ⟨h.hd, by simp [narBy]; exact h.pl, h.nl, fun p hp => ?_, fun p hp => ?_, fun p hp => ?_, h.na⟩
 ·obtain ⟨p0, h0, rfl⟩ := hm p hp; rw [narP_a]; exact h.pa p0 h0
 ·obtain ⟨p0, h0, rfl⟩ := hm p hp; exact Nat.le_trans (narP_len _ _ _) (h.pt p0 h0)
 ·obtain ⟨p0, h0, rfl⟩ := hm p hp; exact fun t ht => h.p3 p0 h0 t (narP_sub _ _ _ t ht)
theorem narBy_n {q : Qry} {v : Int} (h : QN q) : QN (narBy q v) := fun p hp t ht => by
 obtain ⟨p0, h0, rfl⟩ := List.mem_map.1 hp
 rw [narP_a]
 exact h p0 h0 t (narP_sub _ _ _ t ht)
theorem NarS.ok {q q' : Qry} (h : NarS q q') (hq : QOk q) : QOk q' := by
 induction h with
 | refl => exact hq
 | tail v _ ih => exact narBy_ok ih
theorem NarS.n {q q' : Qry} (h : NarS q q') (hq : QN q) : QN q' := by
 induction h with
 | refl => exact hq
 | tail v _ ih => exact narBy_n ih
def rndF (q : Qry) (v : Int) : Qry := if 1 < cntV (q.parts.map (·.a)) v then narBy q v else q
def rnd (q : Qry) (vs : List Int) : Qry := vs.foldl rndF q
theorem sizeQ_le {q : Qry} (h : QOk q) : sizeQ q.parts ≤ 320000 := by
 have h1 := h.pl
 have h2 := h.pt
 have : ∀ l : List Part, (∀ p ∈ l, p.tups.length ≤ 5000) → sizeQ l ≤ l.length * 5000 := by
  intro l
  induction l with
  | nil => intro _; simp [sizeQ]
  | cons a l ih =>
   intro h
   have h3 := h a (by simp)
   have h4 := ih (fun p hp => h p (by simp [hp]))
   simp only [sizeQ, List.map_cons, List.sum_cons, List.length_cons] at *
   omega
 have h5 := this q.parts h2
 omega
set_option maxHeartbeats 16000000 in
theorem enar_spec (q : Qry) (c : List AV) (hc : EQ q c) (hq : QOk q) (hN : QN q) (σ : St) : ACalls Tryz.prog 213 [ag c] σ fun r σ' => (∃ c' q' qp, r = ag c' ∧ EQ q' c' ∧ NarS q qp ∧ NarS q q' ∧ q' = rnd qp (varsL (atomsQ qp)) ∧ sizeQ qp.parts ≤ sizeQ q'.parts) ∧ Keep σ σ' := by
 have hS := fun σ => esize_spec q c hc hq σ
 have hsz := sizeQ_le hq
 have HC : Abs.Hid (EQ q c) := hc
 obtain ⟨ih0, ip0, in0, pc0, nc0, rfl, -, -⟩ := hc
 refine acalls 32 [.cell 2 182] Tryz.func213 rfl (by decide) rfl rfl (Nat.le_of_ble_eq_true rfl) ?_
 repeat' (first
 |with_reducible first|apply Xa|apply Xb|(refine Xc ?_;intro κ hκ)|(apply hκ.out;clear hκ κ)|apply Xd|apply Xe|apply Xf
 |((with_reducible first|refine Xl ?_ ?_|refine Xk ?_ ?_)<;> intro h hari<;> try exact Xp)
 |((with_reducible refine Xh ?_);refine Xi (hS _) ?_;rintro _ _ ⟨rfl,hK2⟩;(have kno2:=hK2.nobj;have kob2:=hK2.obj;have hKx:=(((Keep.refl σ).new _).new _).trans hK2;simp only [new_nobj] at kno2 kob2))
 |refine Xr ?_
 |exact True.intro
 |(apply hκ.out;clear hκ κ))
 rename_i σ1
 have o0 : σ1.obj σ.nobj = [ic q.head.p, sl ih0 q.head.ts.length (ecells q.head.ts), sl ip0 q.parts.length pc0, sl in0 q.nots.length nc0] := by rw [kob2 _ (by omega), new_lt (by simp only [new_nobj]; omega), new_same]
 have o1 : σ1.obj (σ.nobj + 1) = [ic 0, nilS, nilS, nilS] := by rw [kob2 _ (by omega), new_at (by simp only [new_nobj]; omega) (by simp only [new_nobj]; omega)]
 clear kob2 hK2
 refine awp_loop (fun m s σ' => ∃ (qk : Qry) (ck : List AV), s 1 = ptr σ.nobj 0 ∧ s 2 = ptr (σ.nobj + 1) 0 ∧ s 3 = ic m ∧ m ≤ 320001 ∧ Keep σ σ' ∧ σ.nobj + 1 < σ'.nobj ∧ σ'.obj σ.nobj = ck ∧ σ'.obj (σ.nobj + 1) = [ic 0, nilS, nilS, nilS] ∧ Abs.Hid (EQ qk ck ∧ NarS q qk ∧ (sizeQ qk.parts < m ∨ ∃ qp, NarS q qp ∧ qk = rnd qp (varsL (atomsQ qp)) ∧ sizeQ qp.parts = m))) (sizeQ q.parts + 1)
  ⟨q, _, by simp [upd], by simp [upd], by simp [upd], by omega, hKx, by omega, o0, o1, HC.out, .refl, .inl (by omega)⟩ ?_
 clear o0 o1 hKx kno2 hS hsz HC
 rintro m s σ' ⟨qk, ck, h1, h2, h3, hm, hK, hno, ob0, ob1, hQ⟩
 have kno := hK.nobj
 have hqk := hQ.out.2.1.ok hq
 have hnk := hQ.out.2.1.n hN
 have hS := fun σ => esize_spec qk ck hQ.out.1 hqk σ
 have hAt := fun σ => eatoms_spec qk ck hQ.out.1 hqk σ
 have hsz := sizeQ_le hqk
 obtain ⟨ihk, ipk, ink, pck, nck, rfl, -, -⟩ := hQ.out.1
 have hA3 := atomsQ_3 hqk
 have hAl := atomsQ_len hqk
 have hVs := fun (cs : List AV) (i : Nat) (hE : EL EAt (atomsQ qk) cs) (σ : St) => evars_spec (atomsQ qk) cs i hE hA3 (by omega) σ
 have hvl := varsL_len hA3
 have HQK : Abs.Hid (QOk qk ∧ QN qk) := ⟨hqk, hnk⟩
 by_cases hlt : sizeQ qk.parts < m
 ·generalize hvs : varsL (atomsQ qk) = vs at hVs hvl
  have HVS : Abs.Hid _ := hvs
  clear hvs hA3 hnk hqk
  generalize hsq : sizeQ qk.parts = sz at *
  have HSQ : Abs.Hid _ := hsq
  clear hsq
  repeat' (first
 |with_reducible first|apply Xa|apply Xb|(refine Xc ?_;intro κ hκ)|(apply hκ.out;clear hκ κ)|apply Xd|apply Xe|apply Xf
 |((with_reducible first|refine Xl ?_ ?_|refine Xk ?_ ?_)<;> intro h hari<;> try exact Xp)
 |((with_reducible refine Xh ?_);first|(refine Xi (hS _) ?_;rintro _ _ ⟨rfl,hK2⟩;(have kno2:=hK2.nobj;have kob2:=hK2.obj;have hKx:=hK.trans hK2;clear hK hK2;have hK:=hKx;clear hKx))|(refine Xi (hAt _) ?_;rintro _ _ ⟨ida,cs,rfl,hE,hK3⟩;(have kno3:=hK3.nobj;have kob3:=hK3.obj;have hKx:=hK.trans hK3;clear hK3 hK;have hK:=hKx;clear hKx;have hVs2:=hVs cs ida hE))|(refine Xi (hVs2 _) ?_;rintro _ _ ⟨⟨idv,rfl⟩,hK4⟩;(have kno4:=hK4.nobj;have kob4:=hK4.obj;have hKx:=hK.trans hK4;clear hK4 hK;have hK:=hKx;clear hKx)))
 |refine Xr ?_
 |exact True.intro
 |(apply hκ.out;clear hκ κ))
  rename_i σa kno2a kob2a σb σc σd
  have hvi := icells_len vs
  have ech : ∀ p, p < σ'.nobj → σd.obj p = σ'.obj p := fun p hp => by rw [kob4 _ (by omega), kob3 _ (by omega), kob2 _ (by omega), kob2a _ (by omega)]
  refine awp_loop (fun m' s σ2 => ∃ (j : Nat) (qj : Qry) (cj : List AV), m' = vs.length - j ∧ j ≤ vs.length ∧ s 1 = ptr σ.nobj 0 ∧ s 2 = ptr (σ.nobj + 1) 0 ∧ s 3 = ic sz ∧ s 17 = sl idv vs.length (icells vs) ∧ s 18 = ic vs.length ∧ s 19 = ic j ∧ Keep σ σ2 ∧ σ.nobj + 1 < σ2.nobj ∧ σ2.obj σ.nobj = cj ∧ σ2.obj (σ.nobj + 1) = [ic 0, nilS, nilS, nilS] ∧ Abs.Hid (EQ qj cj ∧ NarS q qj ∧ qj = rnd qk (vs.take j))) vs.length
   ⟨0, qk, _, by omega, by omega, by simp [upd, *], by simp [upd, *], by simp [upd, *], by simp [upd], by simp [upd], rfl, hK, by omega, rfl, by rw [ech _ (by omega), ob1], by rw [ech _ (by omega), ob0]; exact hQ.out.1, hQ.out.2.1, by simp [rnd]⟩ ?_
  clear ech kob4 kob3 kob2 kob2a hK ob0 ob1 h1 h2 h3 hno hS hAt hVs hVs2 hE kno4 kno3 kno2 kno2a
  rintro m' s σ2 ⟨j, qj, cj, rfl, hj, h1, h2, h3, h17, h18, h19, hK, hno, ob0, ob1, hJ⟩
  have kno2 := hK.nobj
  have hqj := hJ.out.2.1.ok hq
  have hnj := hJ.out.2.1.n hN
  have hPW := fun v σ => epartsWith_spec qj cj v hJ.out.1 hqj σ
  have hNB := fun v σ => enarBy_spec qj cj v hJ.out.1 hqj hnj σ
  have hcl : ∀ v, cntV (qj.parts.map (·.a)) v ≤ 64 := fun v => by
   have h1 := cntV_le (qj.parts.map (·.a)) v
   have h2 := hqj.pl
   simp at h1; omega
  have HJ0 : Abs.Hid (EQ qj cj) := hJ.out.1
  obtain ⟨ihj, ipj, inj, pcj, ncj, rfl, -, -⟩ := hJ.out.1
  by_cases hlt2 : j < vs.length
  ·have hget := List.getElem?_eq_getElem hlt2
   obtain ⟨r, hd⟩ := icells_get hget
   generalize vs[j] = v at hd hget
   have HR : Abs.Hid (rnd qk (vs.take (j + 1)) = rndF qj v) := by
    rw [Abs.Hid, List.take_add_one, hget, Option.toList_some, rnd, List.foldl_append, hJ.out.2.2]
    rfl
   clear hget
   have hPW := hPW v
   have hNB := hNB v
   have hcl := hcl v
   by_cases hcn : 1 < cntV (qj.parts.map (·.a)) v
   ·have HR : Abs.Hid (rnd qk (vs.take (j + 1)) = narBy qj v) := by rw [Abs.Hid, HR.out, rndF, if_pos hcn]
    generalize cntV (qj.parts.map (·.a)) v = cn at hPW hcn hcl
    have hb : decide ((cn : Int) > 1) = true := by simp; omega
    clear hcn
    repeat' (first
 |with_reducible first|apply Xa|apply Xb|(refine Xc ?_;intro κ hκ)|(apply hκ.out;clear hκ κ)|apply Xd|apply Xe|apply Xf
 |((with_reducible first|refine Xl ?_ ?_|refine Xk ?_ ?_)<;> intro h hari<;> try exact Xp)
 |((with_reducible refine Xh ?_);first|(refine Xi (hPW _) ?_;rintro _ _ ⟨rfl,hK5⟩;(have kno5:=hK5.nobj;have kob5:=hK5.obj;have hKx:=hK.trans hK5))|(refine Xi (hNB _) ?_;rintro _ _ ⟨⟨_,rfl,ih6,ip6,in6,pc6,nc6,rfl,hP6,hN6⟩,hK6⟩;(have kno6:=hK6.nobj;have kob6:=hK6.obj;have hKy:=hKx.trans hK6)))
 |refine Xr ?_
 |exact True.intro
 |(apply hκ.out;clear hκ κ))
    refine ⟨vs.length - (j + 1), by omega, j + 1, narBy qj v, [ic (narBy qj v).head.p, sl ih6 (narBy qj v).head.ts.length (ecells (narBy qj v).head.ts), sl ip6 (narBy qj v).parts.length pc6, sl in6 (narBy qj v).nots.length nc6], ?_⟩
    ((repeat' with_reducible refine And.intro ?_ ?_)<;> first|exact Xq|exact (hKy.put (by omega) _)|exact (⟨⟨ih6, ip6, in6, pc6, nc6, rfl, hP6, hN6⟩, .tail v hJ.out.2.1, HR.out.symm⟩)|exact Xs)
   ·have HR : Abs.Hid (rnd qk (vs.take (j + 1)) = qj) := by rw [Abs.Hid, HR.out, rndF, if_neg hcn]
    generalize cntV (qj.parts.map (·.a)) v = cn at hPW hcn hcl
    have hb : decide ((cn : Int) > 1) = false := by simp; omega
    clear hcn
    repeat' (first
 |with_reducible first|apply Xa|apply Xb|(refine Xc ?_;intro κ hκ)|(apply hκ.out;clear hκ κ)|apply Xd|apply Xe|apply Xf
 |((with_reducible first|refine Xl ?_ ?_|refine Xk ?_ ?_)<;> intro h hari<;> try exact Xp)
 |((with_reducible refine Xh ?_);refine Xi (hPW _) ?_;rintro _ _ ⟨rfl,hK5⟩;(have kno5:=hK5.nobj;have kob5:=hK5.obj;have hKx:=hK.trans hK5))
 |refine Xr ?_
 |exact True.intro
 |(apply hκ.out;clear hκ κ))
    refine ⟨vs.length - (j + 1), by omega, j + 1, qj, [ic qj.head.p, sl ihj qj.head.ts.length (ecells qj.head.ts), sl ipj qj.parts.length pcj, sl inj qj.nots.length ncj], ?_⟩
    ((repeat' with_reducible refine And.intro ?_ ?_)<;> first|exact Xq|exact (⟨HJ0.out, hJ.out.2.1, HR.out.symm⟩)|exact Xs)
  ·have hjl : j = vs.length := by omega
   subst hjl
   have hJ3 := hJ.out.2.2
   rw [List.take_length] at hJ3
   have HF : Abs.Hid (EQ qj [ic qj.head.p, sl ihj qj.head.ts.length (ecells qj.head.ts), sl ipj qj.parts.length pcj, sl inj qj.nots.length ncj] ∧ NarS q qj ∧ (sizeQ qj.parts < sz ∨ ∃ qp, NarS q qp ∧ qj = rnd qp (varsL (atomsQ qp)) ∧ sizeQ qp.parts = sz)) :=
    ⟨HJ0.out, hJ.out.2.1, .inr ⟨qk, hQ.out.2.1, by rw [HVS.out]; exact hJ3, HSQ.out⟩⟩
   clear hJ3
   repeat' (first
 |with_reducible first|apply Xa|apply Xb|(refine Xc ?_;intro κ hκ)|(apply hκ.out;clear hκ κ)|apply Xd|apply Xe|apply Xf
 |((with_reducible first|refine Xl ?_ ?_|refine Xk ?_ ?_)<;> intro h hari<;> try exact Xp)
 |refine Xr ?_
 |exact True.intro
 |(apply hκ.out;clear hκ κ))
   refine ⟨sz, by omega, qj, [ic qj.head.p, sl ihj qj.head.ts.length (ecells qj.head.ts), sl ipj qj.parts.length pcj, sl inj qj.nots.length ncj], ?_⟩
   ((repeat' with_reducible refine And.intro ?_ ?_)<;> first|exact Xq|exact (HF)|exact Xs)
 ·have hR : ∃ qp, NarS q qp ∧ qk = rnd qp (varsL (atomsQ qp)) ∧ sizeQ qp.parts ≤ sizeQ qk.parts := by
   rcases hQ.out.2.2 with h | ⟨qp, h1, h2, h3⟩
   ·exact absurd h hlt
   ·exact ⟨qp, h1, h2, by omega⟩
  have HR : Abs.Hid _ := hR
  clear hR
  generalize hsq : sizeQ qk.parts = sz at *
  repeat' (first
 |with_reducible first|apply Xa|apply Xb|(refine Xc ?_;intro κ hκ)|(apply hκ.out;clear hκ κ)|apply Xd|apply Xe|apply Xf
 |((with_reducible first|refine Xl ?_ ?_|refine Xk ?_ ?_)<;> intro h hari<;> try exact Xp)
 |((with_reducible refine Xh ?_);refine Xi (hS _) ?_;rintro _ _ ⟨rfl,hK2⟩;(have kno2:=hK2.nobj;have kob2:=hK2.obj;have hKx:=hK.trans hK2))
 |refine Xr ?_
 |exact True.intro
 |(apply hκ.out;clear hκ κ))
  obtain ⟨qp, r1, r2, r3⟩ := HR.out
  exact ⟨_, rfl, ⟨_, qk, qp, rfl, hQ.out.1, r1, hQ.out.2.1, r2, by omega⟩, hKx.put (by omega) _⟩
/- The program's engine: which variable next; what hangs together. -/
theorem nodup_le : ∀ {l m : List Int}, l.Nodup → (∀ x ∈ l, x ∈ m) → l.length ≤ m.length
 | [], m, _, _ => by simp
 | a :: l, m, hn, hs => by
  have hn' := List.nodup_cons.1 hn
  have ha := hs a (by simp)
  have h1 := nodup_le (l := l) (m := m.erase a) hn'.2 (fun x hx => by
   have hne : x ≠ a := fun e => hn'.1 (e ▸ hx)
   exact (List.mem_erase_of_ne hne).2 (hs x (by simp [hx])))
  rw [List.length_erase_of_mem ha] at h1
  have : 0 < m.length := List.length_pos_of_mem ha
  simp only [List.length_cons]
  omega
theorem valT_nodup : ∀ (l : List Tup) (pl : Int) (acc : List Int), acc.Nodup → (l.foldl (valF pl) acc).Nodup
 | [], pl, acc, h => h
 | t :: l, pl, acc, h => by
  rw [List.foldl_cons]
  apply valT_nodup
  unfold valF
  split
  ·exact h
  ·rename_i hc
   rw [List.nodup_append]
   exact ⟨h, by simp, fun a ha b hb => by simp at hb; subst hb; rintro rfl; exact hc ha⟩
theorem valT_mem : ∀ (l : List Tup) (pl : Int) (acc : List Int) (n : Int), n ∈ l.foldl (valF pl) acc ↔ n ∈ acc ∨ ∃ t ∈ l, tat t pl = n
 | [], pl, acc, n => by simp
 | t :: l, pl, acc, n => by
  rw [List.foldl_cons, valT_mem]
  unfold valF
  by_cases hc : tat t pl ∈ acc
  ·rw [if_pos hc]
   constructor
   ·rintro (h | ⟨u, hu, e⟩)
    ·exact .inl h
    ·exact .inr ⟨u, by simp [hu], e⟩
   ·rintro (h | ⟨u, hu, e⟩)
    ·exact .inl h
    ·rcases List.mem_cons.1 hu with rfl | hu
     ·exact .inl (e ▸ hc)
     ·exact .inr ⟨u, hu, e⟩
  ·rw [if_neg hc]
   constructor
   ·rintro (h | ⟨u, hu, e⟩)
    ·rcases List.mem_append.1 h with h | h
     ·exact .inl h
     ·simp at h; exact .inr ⟨t, by simp, h.symm⟩
    ·exact .inr ⟨u, by simp [hu], e⟩
   ·rintro (h | ⟨u, hu, e⟩)
    ·exact .inl (List.mem_append.2 (.inl h))
    ·rcases List.mem_cons.1 hu with rfl | hu
     ·exact .inl (List.mem_append.2 (.inr (by simp [e])))
     ·exact .inr ⟨u, hu, e⟩
theorem valQ_len {q : Qry} (hN : QN q) (v : Int) : (valQ q v).length ≤ 1026 := by
 have hr : ((List.range 1026).map fun k : Nat => (k : Int)).length = 1026 := by simp
 rw [← hr]
 unfold valQ
 split
 ·rename_i p hp
  have hpm := List.mem_of_find?_eq_some hp
  have hpv : hasV p.a.ts v = true := by simpa using List.find?_some hp
  obtain ⟨pl, hpl, hpe⟩ := plc_bound hpv
  rw [hpe]
  apply nodup_le (valT_nodup _ _ _ List.nodup_nil)
  intro n hn
  unfold valT at hn
  rw [valT_mem] at hn
  rcases hn with h | ⟨t, ht, e⟩
  ·cases h
  ·obtain ⟨x, hx, hlt⟩ := hN p hpm t ht pl hpl
   rw [List.mem_map]
   exact ⟨x, by simpa using hlt, by rw [← e]; simp [tat, hx]⟩
 ·simp
def QV (q : Qry) : Prop := ∀ a ∈ atomsQ q, ∀ v, (true, v) ∈ a.ts → 0 ≤ v
set_option maxHeartbeats 16000000 in
theorem echoice_spec (q : Qry) (c : List AV) (hc : EQ q c) (hq : QOk q) (hN : QN q) (hV : QV q) (σ : St) : ACalls Tryz.prog 215 [ag c] σ fun r σ' => (∃ b, r = ic b ∧ ((b = -1 ∧ ∀ v ∈ varsL (atomsQ q), linkB q v = false) ∨ (b ∈ varsL (atomsQ q) ∧ linkB q b = true))) ∧ Keep σ σ' := by
 have hAt := fun σ => eatoms_spec q c hc hq σ
 have hLk := fun v σ => elinked_spec q c v hc hq σ
 have hVl := fun v σ => evalues_spec q c v hc hq hN σ
 have hvl := fun v => valQ_len hN v
 have hA3 := atomsQ_3 hq
 have hAl := atomsQ_len hq
 have hVs := fun (cs : List AV) (i : Nat) (hE : EL EAt (atomsQ q) cs) (σ : St) => evars_spec (atomsQ q) cs i hE hA3 (by omega) σ
 have hvn := varsL_len hA3
 obtain ⟨ih, ip, inn, pc, nc, rfl, -, -⟩ := hc
 generalize varsL (atomsQ q) = vs at *
 have hvi := icells_len vs
 refine acalls 31 [.tmp 2] Tryz.func215 rfl (by decide) rfl rfl (Nat.le_of_ble_eq_true rfl) ?_
 repeat' (first
 |with_reducible first|apply Xa|apply Xb|(refine Xc ?_;intro κ hκ)|(apply hκ.out;clear hκ κ)|apply Xd|apply Xe|apply Xf
 |((with_reducible first|refine Xl ?_ ?_|refine Xk ?_ ?_)<;> intro h hari<;> try exact Xp)
 |((with_reducible refine Xh ?_);first|(refine Xi (hAt _) ?_;rintro _ _ ⟨ida,cs,rfl,hE,hK3⟩;(have kno3:=hK3.nobj;have kob3:=hK3.obj;have hK:=((Keep.refl σ).new _).trans hK3;have hVs2:=hVs cs ida hE;simp only [new_nobj] at kno3 kob3))|(refine Xi (hVs2 _) ?_;rintro _ _ ⟨⟨idv,rfl⟩,hK4⟩;(have kno4:=hK4.nobj;have kob4:=hK4.obj;have hKx:=hK.trans hK4;clear hK4 hK;have hK:=hKx;clear hKx)))
 |refine Xr ?_
 |exact True.intro
 |(apply hκ.out;clear hκ κ))
 rename_i σa σb
 have o0 : σb.obj σ.nobj = [ic q.head.p, sl ih q.head.ts.length (ecells q.head.ts), sl ip q.parts.length pc, sl inn q.nots.length nc] := by rw [kob4 _ (by omega), kob3 _ (by omega), new_same]
 clear kob3 kob4 hAt hVs hVs2 hE hK3
 refine awp_loop (fun m s σ' => ∃ (j w : Nat) (b : Int), m = vs.length - j ∧ j ≤ vs.length ∧ s 1 = ptr σ.nobj 0 ∧ s 3 = ic b ∧ s 4 = ic w ∧ s 10 = sl idv vs.length (icells vs) ∧ s 11 = ic vs.length ∧ s 12 = ic j ∧ Keep σ σ' ∧ σ.nobj < σ'.nobj ∧ σ'.obj σ.nobj = [ic q.head.p, sl ih q.head.ts.length (ecells q.head.ts), sl ip q.parts.length pc, sl inn q.nots.length nc] ∧ w ≤ 1027 ∧ Abs.Hid ((b = -1 ∧ w = 1027 ∧ ∀ v ∈ vs.take j, linkB q v = false) ∨ (b ∈ vs ∧ linkB q b = true))) vs.length
  ⟨0, 1027, -1, by omega, by omega, by simp [upd], by simp [upd], by simp [upd], by simp [upd], by simp [upd], rfl, hK, by omega, o0, by omega, .inl ⟨rfl, rfl, by simp⟩⟩ ?_
 clear hK o0 kno3 kno4
 rintro m s σ' ⟨j, w, b, rfl, hj, h1, h3, h4, h10, h11, h12, hK, hno, ob0, hw, hB⟩
 have kno := hK.nobj
 by_cases hlt : j < vs.length
 ·have hget := List.getElem?_eq_getElem hlt
  obtain ⟨r, hd⟩ := icells_get hget
  have hmem := List.getElem_mem hlt
  generalize vs[j] = v at hd hget hmem
  have hLk := hLk v
  have hVl := hVl v
  have hvl := hvl v
  have HM : Abs.Hid (v ∈ vs ∧ ∀ u ∈ vs.take (j + 1), u ∈ vs.take j ∨ u = v) := ⟨hmem, fun u hu => by
   rw [List.take_add_one, hget, Option.toList_some] at hu
   rcases List.mem_append.1 hu with h | h
   ·exact .inl h
   ·simp at h; exact .inr h⟩
  clear hget hmem
  cases hlk : linkB q v with
  | false =>
   rw [hlk] at hLk
   have HB : Abs.Hid ((b = -1 ∧ w = 1027 ∧ ∀ v ∈ vs.take (j + 1), linkB q v = false) ∨ (b ∈ vs ∧ linkB q b = true)) := by
    rcases hB.out with ⟨h1, h2, h3⟩ | h
    ·refine .inl ⟨h1, h2, fun u hu => ?_⟩
     rcases HM.out.2 u hu with h | rfl
     ·exact h3 u h
     ·exact hlk
    ·exact .inr h
   clear hB HM hlk
   repeat' (first
 |with_reducible first|apply Xa|apply Xb|(refine Xc ?_;intro κ hκ)|(apply hκ.out;clear hκ κ)|apply Xd|apply Xe|apply Xf
 |((with_reducible first|refine Xl ?_ ?_|refine Xk ?_ ?_)<;> intro h hari<;> try exact Xp)
 |((with_reducible refine Xh ?_);refine Xi (hLk _) ?_;rintro _ _ ⟨rfl,hK5⟩;(have kno5:=hK5.nobj;have kob5:=hK5.obj;have hKx:=hK.trans hK5))
 |refine Xr ?_
 |exact True.intro
 |(apply hκ.out;clear hκ κ))
   refine ⟨vs.length - (j + 1), by omega, j + 1, w, b, ?_⟩
   ((repeat' with_reducible refine And.intro ?_ ?_)<;> first|exact Xq|exact (HB)|exact Xs)
  | true =>
   rw [hlk] at hLk
   have HB1 : Abs.Hid ((v = -1 ∧ (valQ q v).length = 1027 ∧ ∀ v ∈ vs.take (j + 1), linkB q v = false) ∨ (v ∈ vs ∧ linkB q v = true)) := .inr ⟨HM.out.1, hlk⟩
   have HB2 : Abs.Hid (¬ (valQ q v).length < w → (b = -1 ∧ w = 1027 ∧ ∀ v ∈ vs.take (j + 1), linkB q v = false) ∨ (b ∈ vs ∧ linkB q b = true)) := fun hn => by
    rcases hB.out with ⟨h1, h2, h3⟩ | h
    ·omega
    ·exact .inr h
   clear hB HM hlk
   generalize hvq : valQ q v = vq at *
   have HVQ : Abs.Hid _ := hvq
   clear hvq
   have hqi := icells_len vq
   repeat' (first
 |with_reducible first|apply Xa|apply Xb|(refine Xc ?_;intro κ hκ)|(apply hκ.out;clear hκ κ)|apply Xd|apply Xe|apply Xf
 |((with_reducible first|refine Xl ?_ ?_|refine Xk ?_ ?_)<;> intro h hari<;> try exact Xp)
 |((with_reducible refine Xh ?_);first|(refine Xi (hLk _) ?_;rintro _ _ ⟨rfl,hK5⟩;(have kno5:=hK5.nobj;have kob5:=hK5.obj;have hKx:=hK.trans hK5))|(refine Xi (hVl _) ?_;rintro _ _ ⟨⟨idq,rfl⟩,hK6⟩;(have kno6:=hK6.nobj;have kob6:=hK6.obj;have hKy:=hKx.trans hK6)))
 |refine Xr ?_
 |exact True.intro
 |(apply hκ.out;clear hκ κ))
   ·refine ⟨vs.length - (j + 1), by omega, j + 1, vq.length, v, ?_⟩
    ((repeat' with_reducible refine And.intro ?_ ?_)<;> first|exact Xq|exact (HB1)|exact Xs)
   ·refine ⟨vs.length - (j + 1), by omega, j + 1, w, b, ?_⟩
    ((repeat' with_reducible refine And.intro ?_ ?_)<;> first|exact Xq|exact (HB2.out (by omega))|exact Xs)
 ·have hjl : j = vs.length := by omega
  subst hjl
  rw [List.take_length] at hB
  have HB : Abs.Hid ((b = -1 ∧ ∀ v ∈ vs, linkB q v = false) ∨ (b ∈ vs ∧ linkB q b = true)) := by
   rcases hB.out with ⟨h1, -, h3⟩ | h
   ·exact .inl ⟨h1, h3⟩
   ·exact .inr h
  repeat' (first
 |with_reducible first|apply Xa|apply Xb|(refine Xc ?_;intro κ hκ)|(apply hκ.out;clear hκ κ)|apply Xd|apply Xe|apply Xf
 |((with_reducible first|refine Xl ?_ ?_|refine Xk ?_ ?_)<;> intro h hari<;> try exact Xp)
 |refine Xr ?_
 |exact True.intro
 |(apply hκ.out;clear hκ κ))
  first | exact ⟨_, rfl, ⟨b, rfl, HB.out⟩, hK⟩ | exact ⟨_, rfl, b, rfl, HB.out⟩
end Go.Proofs.YtmoeoppbmhfbpaaGreatDoorB
