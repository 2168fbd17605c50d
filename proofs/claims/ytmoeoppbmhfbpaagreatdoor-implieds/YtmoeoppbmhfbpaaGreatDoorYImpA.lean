import Derived.Test.YtmoeoppbmhfbpaaGreatDoorYEngZ
/- The program's Implied: frozen atoms, affirmed rules, a model of facts. -/
namespace Go.Proofs.YtmoeoppbmhfbpaaGreatDoorY
open Go.Abs
set_option linter.unusedSimpArgs false
set_option linter.unusedVariables false
set_option maxRecDepth 100000
def frzT (t : Tm) : Tm := if t.1 = true then (false, 1000 + t.2) else t
def frzA (a : Atm) : Atm := ⟨a.p, a.ts.map frzT⟩
def Sml (ts : List Tm) : Prop := ∀ t ∈ ts, -1000000 ≤ t.2 ∧ t.2 ≤ 1000000
set_option maxHeartbeats 16000000 in
theorem efrozen_spec (p : Int) (ids : Nat) (ts : List Tm) (hn : ts.length ≤ 1000) (hs : Sml ts) (σ : St) : ACalls Tryz.prog 117 [ag [ic p, sl ids ts.length (ecells ts)]] σ fun r σ' => (∃ id, r = ag [ic p, sl id ts.length (ecells (ts.map frzT))]) ∧ Keep σ σ' := by
 have htl := ecells_len ts
 refine acalls 30 [.cell 2 94] Tryz.func117 rfl (by decide) rfl rfl (Nat.le_of_ble_eq_true rfl) ?_
 repeat' (first
 |with_reducible first|apply Xa|apply Xb|(refine Xc ?_;intro κ hκ)|(apply hκ.out;clear hκ κ)|apply Xd|apply Xe|apply Xf
 |((with_reducible first|refine Xl ?_ ?_|refine Xk ?_ ?_)<;> intro h hari<;> try exact Xp)
 |((with_reducible refine aapp_go ?_);refine Xt ?_;intro idn σn hOn hKn eobj enobj ever entop)
 |((with_reducible refine aappn_go ?_);refine Xu ?_)
 |refine Xr ?_
 |exact True.intro
 |(apply hκ.out;clear hκ κ))
 refine awp_loop (fun m s σ' => ∃ (i i3 : Nat) (xs : List AV), m = ts.length - i ∧ i ≤ ts.length ∧ s 2 = ptr (σ.nobj + 1) 0 ∧ s 3 = ptr (σ.nobj + 2) 0 ∧ s 10 = sl ids ts.length (ecells ts) ∧ s 11 = ic ts.length ∧ s 12 = ic i ∧ Keep σ σ' ∧ σ.nobj + 2 < σ'.nobj ∧ σ'.obj (σ.nobj + 1) = [ic 0, nilS] ∧ σ'.obj (σ.nobj + 2) = [ic p, sl i3 i xs] ∧ Own σ σ' i3 i ∧ xs.length = i * 2 ∧ Abs.Hid (xs = ecells ((ts.take i).map frzT))) ts.length
  ⟨0, 1, [], by omega, by omega, by simp [upd], by simp [upd], by simp [upd], by simp [upd], rfl, by exact Xs, by simp only [put_nobj, new_nobj]; omega, ?_, ?_, Own.nil _ _, by simp, by simp [Abs.Hid, ecells]⟩ ?_
 ·rw [put_ne (by omega), new_lt (by simp only [new_nobj]; omega), new_at (by simp only [new_nobj]; omega) (by simp only [new_nobj]; omega)]
 ·rw [show σ.nobj + 2 = σ.nobj + 1 + 1 from rfl, put_same]
 rintro m s σ' ⟨i, i3, xs, rfl, hi, h2, h3, h10, h11, h12, hK, hno, ob1, ob2, hO, hxl, hX⟩
 have kno := hK.nobj
 by_cases hlt : i < ts.length
 ·have hget := List.getElem?_eq_getElem hlt
  obtain ⟨r, hd⟩ := ecells_get hget
  have hb := hs _ (List.getElem_mem hlt)
  generalize ts[i] = w at hd hget hb
  obtain ⟨w1, w2⟩ := w
  have HG : Abs.Hid (ecells ((ts.take (i + 1)).map frzT) = ecells ((ts.take i).map frzT) ++ ecell (frzT (w1, w2))) := by
   rw [Abs.Hid, List.take_add_one, hget]; simp [ecells]
  clear hget
  cases w1 with
  | true =>
   repeat' (first
 |with_reducible first|apply Xa|apply Xb|(refine Xc ?_;intro κ hκ)|(apply hκ.out;clear hκ κ)|apply Xd|apply Xe|apply Xf
 |((with_reducible first|refine Xl ?_ ?_|refine Xk ?_ ?_)<;> intro h hari<;> try exact Xp)
 |((with_reducible refine aapp_go ?_);refine Xt ?_;intro idn σn hOn hKn eobj enobj ever entop)
 |((with_reducible refine aappn_go ?_);refine Xu ?_)
 |refine Xr ?_
 |exact True.intro
 |(apply hκ.out;clear hκ κ))
   refine aApp_own (by first | exact tez_92) (((hK.new _).put hK.nobj _).put hK.nobj _) (Own.put (Own.put (Own.new hO _) _ _) _ _) (by decide) (by rfl) (hxl) (by rfl) (by rfl) (by decide) (by omega) (by omega) ?_
   intro idn σn hOn hKn eobj enobj ever entop
   simp only [put_nobj, new_nobj] at enobj
   refine Xr ?_
   repeat' (first
 |with_reducible first|apply Xa|apply Xb|(refine Xc ?_;intro κ hκ)|(apply hκ.out;clear hκ κ)|apply Xd|apply Xe|apply Xf
 |((with_reducible first|refine Xl ?_ ?_|refine Xk ?_ ?_)<;> intro h hari<;> try exact Xp)
 |((with_reducible refine aapp_go ?_);refine Xt ?_;intro idn σn hOn hKn eobj enobj ever entop)
 |((with_reducible refine aappn_go ?_);refine Xu ?_)
 |refine Xr ?_
 |exact True.intro
 |(apply hκ.out;clear hκ κ))
   refine ⟨ts.length - (i + 1), by omega, i + 1, idn, xs ++ [sc (.bool false), ic (1000 + w2)], ?_⟩
   ((repeat' with_reducible refine And.intro ?_ ?_)<;> first|exact Xq|exact (hKn.put (by omega) _)|exact (Own.put hOn _ _)|exact (by rw [Abs.Hid, HG.out, hX.out]; rfl)|exact Xs)
  | false =>
   repeat' (first
 |with_reducible first|apply Xa|apply Xb|(refine Xc ?_;intro κ hκ)|(apply hκ.out;clear hκ κ)|apply Xd|apply Xe|apply Xf
 |((with_reducible first|refine Xl ?_ ?_|refine Xk ?_ ?_)<;> intro h hari<;> try exact Xp)
 |((with_reducible refine aapp_go ?_);refine Xt ?_;intro idn σn hOn hKn eobj enobj ever entop)
 |((with_reducible refine aappn_go ?_);refine Xu ?_)
 |refine Xr ?_
 |exact True.intro
 |(apply hκ.out;clear hκ κ))
   refine aApp_own (by first | exact tez_92) ((hK.new _).put hK.nobj _) (Own.put (Own.new hO _) _ _) (by decide) (by rfl) (hxl) (by rfl) (by rfl) (by decide) (by omega) (by omega) ?_
   intro idn σn hOn hKn eobj enobj ever entop
   simp only [put_nobj, new_nobj] at enobj
   refine Xr ?_
   repeat' (first
 |with_reducible first|apply Xa|apply Xb|(refine Xc ?_;intro κ hκ)|(apply hκ.out;clear hκ κ)|apply Xd|apply Xe|apply Xf
 |((with_reducible first|refine Xl ?_ ?_|refine Xk ?_ ?_)<;> intro h hari<;> try exact Xp)
 |((with_reducible refine aapp_go ?_);refine Xt ?_;intro idn σn hOn hKn eobj enobj ever entop)
 |((with_reducible refine aappn_go ?_);refine Xu ?_)
 |refine Xr ?_
 |exact True.intro
 |(apply hκ.out;clear hκ κ))
   refine ⟨ts.length - (i + 1), by omega, i + 1, idn, xs ++ [sc (.bool false), ic w2], ?_⟩
   ((repeat' with_reducible refine And.intro ?_ ?_)<;> first|exact Xq|exact (hKn.put (by omega) _)|exact (Own.put hOn _ _)|exact (by rw [Abs.Hid, HG.out, hX.out]; rfl)|exact Xs)
 ·have hil : i = ts.length := by omega
  subst hil
  have hX := hX.out
  rw [List.take_length] at hX
  repeat' (first
 |with_reducible first|apply Xa|apply Xb|(refine Xc ?_;intro κ hκ)|(apply hκ.out;clear hκ κ)|apply Xd|apply Xe|apply Xf
 |((with_reducible first|refine Xl ?_ ?_|refine Xk ?_ ?_)<;> intro h hari<;> try exact Xp)
 |((with_reducible refine aapp_go ?_);refine Xt ?_;intro idn σn hOn hKn eobj enobj ever entop)
 |((with_reducible refine aappn_go ?_);refine Xu ?_)
 |refine Xr ?_
 |exact True.intro
 |(apply hκ.out;clear hκ κ))
  exact ⟨_, rfl, ⟨i3, by first | rfl | rw [hX]⟩, hK.put (by omega) _⟩
set_option maxHeartbeats 16000000 in
theorem efrozenBody_spec (r : Rul) (c : List AV) (hc : ERu r c) (hl : r.body.length ≤ 64) (ha : ∀ l ∈ r.body, l.a.ts.length ≤ 3 ∧ Sml l.a.ts) (σ : St) : ACalls Tryz.prog 114 [ag c] σ fun x σ' => (∃ id cs, x = sl id r.body.length cs ∧ EL EAt (r.body.map fun l => frzA l.a) cs) ∧ Keep σ σ' := by
 obtain ⟨o, ih, ib, bc, rfl, hB⟩ := hc
 have hbl := EL.length ELt_len hB
 refine acalls 22 [.tmp 2] Tryz.func114 rfl (by decide) rfl rfl (Nat.le_of_ble_eq_true rfl) ?_
 repeat' (first
 |with_reducible first|apply Xa|apply Xb|(refine Xc ?_;intro κ hκ)|(apply hκ.out;clear hκ κ)|apply Xd|apply Xe|apply Xf
 |((with_reducible first|refine Xl ?_ ?_|refine Xk ?_ ?_)<;> intro h hari<;> try exact Xp)
 |((with_reducible refine aapp_go ?_);refine Xt ?_;intro idn σn hOn hKn eobj enobj ever entop)
 |((with_reducible refine aappn_go ?_);refine Xu ?_)
 |refine Xr ?_
 |exact True.intro
 |(apply hκ.out;clear hκ κ))
 refine awp_loop (fun m s σ' => ∃ (i i3 : Nat) (xs : List AV), m = r.body.length - i ∧ i ≤ r.body.length ∧ s 3 = sl i3 i xs ∧ s 8 = sl ib r.body.length bc ∧ s 9 = ic r.body.length ∧ s 10 = ic i ∧ Keep σ σ' ∧ Own σ σ' i3 i ∧ xs.length = i * 2 ∧ Abs.Hid (EL EAt ((r.body.take i).map fun l => frzA l.a) xs)) r.body.length
  ⟨0, 1, [], by omega, by omega, by simp [upd], by simp [upd], by simp [upd], rfl, by exact Xs, Own.nil _ _, by simp, rfl⟩ ?_
 rintro m s σ' ⟨i, i3, xs, rfl, hi, h3, h8, h9, h10, hK, hO, hxl, hX⟩
 have kno := hK.nobj
 by_cases hlt : i < r.body.length
 ·have hget := List.getElem?_eq_getElem hlt
  obtain ⟨id, rr, hd⟩ := ELt_get hB hget
  obtain ⟨ha1, ha2⟩ := ha _ (List.getElem_mem hlt)
  generalize r.body[i] = w at hd hget ha1 ha2
  have hw1 : w.a.ts.length ≤ 1000 := by omega
  have hFr := fun σ => efrozen_spec w.a.p id w.a.ts hw1 ha2 σ
  have HG : Abs.Hid ((r.body.take (i + 1)).map (fun l => frzA l.a) = (r.body.take i).map (fun l => frzA l.a) ++ [frzA w.a]) := by
   rw [Abs.Hid, List.take_add_one, hget]; simp
  clear hget
  repeat' (first
 |with_reducible first|apply Xa|apply Xb|(refine Xc ?_;intro κ hκ)|(apply hκ.out;clear hκ κ)|apply Xd|apply Xe|apply Xf
 |((with_reducible first|refine Xl ?_ ?_|refine Xk ?_ ?_)<;> intro h hari<;> try exact Xp)
 |((with_reducible refine aapp_go ?_);refine Xt ?_;intro idn σn hOn hKn eobj enobj ever entop)
 |((with_reducible refine aappn_go ?_);refine Xu ?_)
 |((with_reducible refine Xh ?_);refine Xi (hFr _) ?_;rintro _ _ ⟨⟨idf,rfl⟩,hK2⟩;(have hKx:=((hK.new _).put hK.nobj _).trans hK2;have hOx:=Own.keep (Own.put (Own.new hO _) _ _) hK2))
 |refine Xr ?_
 |exact True.intro
 |(apply hκ.out;clear hκ κ))
  refine ⟨r.body.length - (i + 1), by omega, i + 1, idn, xs ++ [ic w.a.p, sl idf w.a.ts.length (ecells (w.a.ts.map frzT))], ?_⟩
  ((repeat' with_reducible refine And.intro ?_ ?_)<;> first|exact Xq|exact (by rw [Abs.Hid, HG.out]; exact EL.append hX.out (EL.single ⟨idf, by simp [frzA]⟩))|exact Xs)
 ·have hil : i = r.body.length := by omega
  subst hil
  rw [List.take_length] at hX
  repeat' (first
 |with_reducible first|apply Xa|apply Xb|(refine Xc ?_;intro κ hκ)|(apply hκ.out;clear hκ κ)|apply Xd|apply Xe|apply Xf
 |((with_reducible first|refine Xl ?_ ?_|refine Xk ?_ ?_)<;> intro h hari<;> try exact Xp)
 |((with_reducible refine aapp_go ?_);refine Xt ?_;intro idn σn hOn hKn eobj enobj ever entop)
 |((with_reducible refine aappn_go ?_);refine Xu ?_)
 |refine Xr ?_
 |exact True.intro
 |(apply hκ.out;clear hκ κ))
  first | exact ⟨_, rfl, ⟨i3, xs, rfl, hX.out⟩, hK⟩ | exact ⟨_, rfl, i3, xs, rfl, hX.out⟩
def affL (n : Int) (l : Lit) : Lit := if l.neg = true then ⟨false, ⟨l.a.p + n, l.a.ts⟩⟩ else l
def affR (n : Int) (r : Rul) : Rul := ⟨r.head, r.body.map (affL n)⟩
set_option maxHeartbeats 16000000 in
theorem eaffirmed_spec (r : Rul) (c : List AV) (n : Int) (hc : ERu r c) (hl : r.body.length ≤ 64) (hp : ∀ l ∈ r.body, 0 ≤ l.a.p ∧ l.a.p ≤ 1000000) (hn0 : 0 ≤ n) (hn1 : n ≤ 1000000) (σ : St) : ACalls Tryz.prog 113 [ag c, ic n] σ fun x σ' => (∃ c', x = ag c' ∧ ERu (affR n r) c') ∧ Keep σ σ' := by
 obtain ⟨o, ih, ib, bc, rfl, hB⟩ := hc
 have hbl := EL.length ELt_len hB
 refine acalls 36 [.cell 4 97] Tryz.func113 rfl (by decide) rfl rfl (Nat.le_of_ble_eq_true rfl) ?_
 repeat' (first
 |with_reducible first|apply Xa|apply Xb|(refine Xc ?_;intro κ hκ)|(apply hκ.out;clear hκ κ)|apply Xd|apply Xe|apply Xf
 |((with_reducible first|refine Xl ?_ ?_|refine Xk ?_ ?_)<;> intro h hari<;> try exact Xp)
 |((with_reducible refine aapp_go ?_);refine Xt ?_;intro idn σn hOn hKn eobj enobj ever entop)
 |((with_reducible refine aappn_go ?_);refine Xu ?_)
 |refine Xr ?_
 |exact True.intro
 |(apply hκ.out;clear hκ κ))
 refine awp_loop (fun m s σ' => ∃ (i i3 : Nat) (xs : List AV), m = r.body.length - i ∧ i ≤ r.body.length ∧ s 1 = ic n ∧ s 4 = ptr (σ.nobj + 1) 0 ∧ s 5 = ptr (σ.nobj + 2) 0 ∧ s 12 = sl ib r.body.length bc ∧ s 13 = ic r.body.length ∧ s 14 = ic i ∧ Keep σ σ' ∧ σ.nobj + 2 < σ'.nobj ∧ σ'.obj (σ.nobj + 1) = [sc (.bool false), ic 0, nilS, nilS] ∧ σ'.obj (σ.nobj + 2) = [sc (.bool false), ic r.head.p, sl ih r.head.ts.length (ecells r.head.ts), sl i3 i xs] ∧ Own σ σ' i3 i ∧ xs.length = i * 3 ∧ Abs.Hid (EL ELt ((r.body.take i).map (affL n)) xs)) r.body.length
  ⟨0, 1, [], by omega, by omega, by simp [upd, initS], by simp [upd], by simp [upd], by simp [upd], by simp [upd], rfl, by exact Xs, by simp only [put_nobj, new_nobj]; omega, ?_, ?_, Own.nil _ _, by simp, rfl⟩ ?_
 ·rw [put_ne (by omega), new_lt (by simp only [new_nobj]; omega), new_at (by simp only [new_nobj]; omega) (by simp only [new_nobj]; omega)]
 ·rw [show σ.nobj + 2 = σ.nobj + 1 + 1 from rfl, put_same]
 rintro m s σ' ⟨i, i3, xs, rfl, hi, h1, h4, h5, h12, h13, h14, hK, hno, ob1, ob2, hO, hxl, hX⟩
 have kno := hK.nobj
 by_cases hlt : i < r.body.length
 ·have hget := List.getElem?_eq_getElem hlt
  obtain ⟨id, rr, hd⟩ := ELt_get hB hget
  have hpb := hp _ (List.getElem_mem hlt)
  generalize r.body[i] = w at hd hget hpb
  have HG : Abs.Hid ((r.body.take (i + 1)).map (affL n) = (r.body.take i).map (affL n) ++ [affL n w]) := by
   rw [Abs.Hid, List.take_add_one, hget]; simp
  clear hget
  cases hneg : w.neg with
  | true =>
   rw [hneg] at hd
   have HX : Abs.Hid (EL ELt ((r.body.take (i + 1)).map (affL n)) (xs ++ [sc (.bool false), ic (w.a.p + n), sl id w.a.ts.length (ecells w.a.ts)])) := by
    rw [Abs.Hid, HG.out]
    refine EL.append hX.out (EL.single ?_)
    rw [affL, if_pos hneg]
    exact ⟨id, rfl⟩
   clear hX HG
   repeat' (first
 |with_reducible first|apply Xa|apply Xb|(refine Xc ?_;intro κ hκ)|(apply hκ.out;clear hκ κ)|apply Xd|apply Xe|apply Xf
 |((with_reducible first|refine Xl ?_ ?_|refine Xk ?_ ?_)<;> intro h hari<;> try exact Xp)
 |((with_reducible refine aapp_go ?_);refine Xt ?_;intro idn σn hOn hKn eobj enobj ever entop)
 |((with_reducible refine aappn_go ?_);refine Xu ?_)
 |refine Xr ?_
 |exact True.intro
 |(apply hκ.out;clear hκ κ))
   refine aApp_own (by first | exact tez_95) ((((hK.new _).put hK.nobj _).put hK.nobj _).put hK.nobj _) (Own.put (Own.put (Own.put (Own.new hO _) _ _) _ _) _ _) (by decide) (by rfl) (hxl) (by rfl) (by rfl) (by decide) (by omega) (by omega) ?_
   intro idn σn hOn hKn eobj enobj ever entop
   simp only [put_nobj, new_nobj] at enobj
   refine Xr ?_
   repeat' (first
 |with_reducible first|apply Xa|apply Xb|(refine Xc ?_;intro κ hκ)|(apply hκ.out;clear hκ κ)|apply Xd|apply Xe|apply Xf
 |((with_reducible first|refine Xl ?_ ?_|refine Xk ?_ ?_)<;> intro h hari<;> try exact Xp)
 |((with_reducible refine aapp_go ?_);refine Xt ?_;intro idn σn hOn hKn eobj enobj ever entop)
 |((with_reducible refine aappn_go ?_);refine Xu ?_)
 |refine Xr ?_
 |exact True.intro
 |(apply hκ.out;clear hκ κ))
   refine ⟨r.body.length - (i + 1), by omega, i + 1, idn, xs ++ [sc (.bool false), ic (w.a.p + n), sl id w.a.ts.length (ecells w.a.ts)], ?_⟩
   ((repeat' with_reducible refine And.intro ?_ ?_)<;> first|exact Xq|exact (hKn.put (by omega) _)|exact (Own.put hOn _ _)|exact (HX)|exact Xs)
  | false =>
   rw [hneg] at hd
   have HX : Abs.Hid (EL ELt ((r.body.take (i + 1)).map (affL n)) (xs ++ [sc (.bool false), ic w.a.p, sl id w.a.ts.length (ecells w.a.ts)])) := by
    rw [Abs.Hid, HG.out]
    refine EL.append hX.out (EL.single ?_)
    rw [affL, if_neg (by rw [hneg]; simp)]
    exact ⟨id, by rw [hneg]⟩
   clear hX HG
   repeat' (first
 |with_reducible first|apply Xa|apply Xb|(refine Xc ?_;intro κ hκ)|(apply hκ.out;clear hκ κ)|apply Xd|apply Xe|apply Xf
 |((with_reducible first|refine Xl ?_ ?_|refine Xk ?_ ?_)<;> intro h hari<;> try exact Xp)
 |((with_reducible refine aapp_go ?_);refine Xt ?_;intro idn σn hOn hKn eobj enobj ever entop)
 |((with_reducible refine aappn_go ?_);refine Xu ?_)
 |refine Xr ?_
 |exact True.intro
 |(apply hκ.out;clear hκ κ))
   refine aApp_own (by first | exact tez_95) ((hK.new _).put hK.nobj _) (Own.put (Own.new hO _) _ _) (by decide) (by rfl) (hxl) (by rfl) (by rfl) (by decide) (by omega) (by omega) ?_
   intro idn σn hOn hKn eobj enobj ever entop
   simp only [put_nobj, new_nobj] at enobj
   refine Xr ?_
   repeat' (first
 |with_reducible first|apply Xa|apply Xb|(refine Xc ?_;intro κ hκ)|(apply hκ.out;clear hκ κ)|apply Xd|apply Xe|apply Xf
 |((with_reducible first|refine Xl ?_ ?_|refine Xk ?_ ?_)<;> intro h hari<;> try exact Xp)
 |((with_reducible refine aapp_go ?_);refine Xt ?_;intro idn σn hOn hKn eobj enobj ever entop)
 |((with_reducible refine aappn_go ?_);refine Xu ?_)
 |refine Xr ?_
 |exact True.intro
 |(apply hκ.out;clear hκ κ))
   refine ⟨r.body.length - (i + 1), by omega, i + 1, idn, xs ++ [sc (.bool false), ic w.a.p, sl id w.a.ts.length (ecells w.a.ts)], ?_⟩
   ((repeat' with_reducible refine And.intro ?_ ?_)<;> first|exact Xq|exact (hKn.put (by omega) _)|exact (Own.put hOn _ _)|exact (HX)|exact Xs)
 ·have hil : i = r.body.length := by omega
  subst hil
  rw [List.take_length] at hX
  have hL : (r.body.map (affL n)).length = r.body.length := by simp
  repeat' (first
 |with_reducible first|apply Xa|apply Xb|(refine Xc ?_;intro κ hκ)|(apply hκ.out;clear hκ κ)|apply Xd|apply Xe|apply Xf
 |((with_reducible first|refine Xl ?_ ?_|refine Xk ?_ ?_)<;> intro h hari<;> try exact Xp)
 |((with_reducible refine aapp_go ?_);refine Xt ?_;intro idn σn hOn hKn eobj enobj ever entop)
 |((with_reducible refine aappn_go ?_);refine Xu ?_)
 |refine Xr ?_
 |exact True.intro
 |(apply hκ.out;clear hκ κ))
  exact ⟨_, rfl, ⟨_, rfl, false, ih, i3, xs, by simp only [affR]; rw [hL], hX.out⟩, hK.put (by omega) _⟩
end Go.Proofs.YtmoeoppbmhfbpaaGreatDoorY
