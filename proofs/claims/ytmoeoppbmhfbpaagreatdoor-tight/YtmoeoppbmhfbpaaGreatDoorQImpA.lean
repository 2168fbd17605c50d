import Derived.Test.YtmoeoppbmhfbpaaGreatDoorQFolB
/- The program's Implied: frozen atoms, affirmed rules, a model of facts. -/
namespace Go.Proofs.YtmoeoppbmhfbpaaGreatDoorQ
open Go.Abs
set_option linter.unusedSimpArgs false
set_option linter.unusedVariables false
set_option maxRecDepth 100000
def frzT (t : Tm) : Tm := if t.1 = true then (false, 1000 + t.2) else t
def frzA (a : Atm) : Atm := ⟨a.p, a.ts.map frzT⟩
def Sml (ts : List Tm) : Prop := ∀ t ∈ ts, -1000000 ≤ t.2 ∧ t.2 ≤ 1000000
set_option maxHeartbeats 16000000 in
theorem efrozen_spec (p : Int) (ids : Nat) (ts : List Tm) (hn : ts.length ≤ 1000) (hs : Sml ts) (σ : St) : ACalls Tryz.prog 117 [ag [ic p, sl ids ts.length (ecells ts)]] σ fun r σ' => (∃ id, r = ag [ic p, sl id ts.length (ecells (ts.map frzT))]) ∧ Keep σ σ' := by
 have htl := ecells_len ts
 refine acalls 30 [.cell 2 94] Tryz.func117 rfl (by decide) rfl rfl (Nat.le_of_ble_eq_true rfl) ?_
 repeat' (first
 |with_reducible first|apply Xa|apply Xb|(refine Xc ?_;intro κ hκ)|(apply hκ.out;clear hκ κ)|apply Xd|apply Xe|apply Xf
 |((with_reducible first|refine Xl ?_ ?_|refine Xk ?_ ?_)<;> intro h hari<;> try exact Xp)
 |((with_reducible refine aapp_go ?_);refine Xt ?_;intro idn σn hOn hKn eobj enobj ever entop)
 |((with_reducible refine aappn_go ?_);refine Xu ?_)
 |refine Xr ?_
 |exact True.intro
 |(apply hκ.out;clear hκ κ))
 refine awp_loop (fun m s σ' => ∃ (i i3 : Nat) (xs : List AV), m = ts.length - i ∧ i ≤ ts.length ∧ s 2 = ptr (σ.nobj + 1) 0 ∧ s 3 = ptr (σ.nobj + 2) 0 ∧ s 10 = sl ids ts.length (ecells ts) ∧ s 11 = ic ts.length ∧ s 12 = ic i ∧ Keep σ σ' ∧ σ.nobj + 2 < σ'.nobj ∧ σ'.obj (σ.nobj + 1) = [ic 0, nilS] ∧ σ'.obj (σ.nobj + 2) = [ic p, sl i3 i xs] ∧ Own σ σ' i3 i ∧ xs.length = i * 2 ∧ Abs.Hid (xs = ecells ((ts.take i).map frzT))) ts.length
  ⟨0, 1, [], by omega, by omega, by simp [upd], by simp [upd], by simp [upd], by simp [upd], rfl, by exact Xs, by simp only [put_nobj, new_nobj]; omega, ?_, ?_, Own.nil _ _, by simp, by simp [Abs.Hid, ecells]⟩ ?_
 ·rw [put_ne (by omega), new_lt (by simp only [new_nobj]; omega), new_at (by simp only [new_nobj]; omega) (by simp only [new_nobj]; omega)]
 ·rw [show σ.nobj + 2 = σ.nobj + 1 + 1 from rfl, put_same]
 rintro m s σ' ⟨i, i3, xs, rfl, hi, h2, h3, h10, h11, h12, hK, hno, ob1, ob2, hO, hxl, hX⟩
 have kno := hK.nobj
 by_cases hlt : i < ts.length
 ·have hget := List.getElem?_eq_getElem hlt
  obtain ⟨r, hd⟩ := ecells_get hget
  have hb := hs _ (List.getElem_mem hlt)
  generalize ts[i] = w at hd hget hb
  obtain ⟨w1, w2⟩ := w
  have HG : Abs.Hid (ecells ((ts.take (i + 1)).map frzT) = ecells ((ts.take i).map frzT) ++ ecell (frzT (w1, w2))) := by
   rw [Abs.Hid, List.take_add_one, hget]; simp [ecells]
  clear hget
  cases w1 with
  | true =>
   repeat' (first
 |with_reducible first|apply Xa|apply Xb|(refine Xc ?_;intro κ hκ)|(apply hκ.out;clear hκ κ)|apply Xd|apply Xe|apply Xf
 |((with_reducible first|refine Xl ?_ ?_|refine Xk ?_ ?_)<;> intro h hari<;> try exact Xp)
 |((with_reducible refine aapp_go ?_);refine Xt ?_;intro idn σn hOn hKn eobj enobj ever entop)
 |((with_reducible refine aappn_go ?_);refine Xu ?_)
 |refine Xr ?_
 |exact True.intro
 |(apply hκ.out;clear hκ κ))
   refine aApp_own (by first | exact tez_92) (((hK.new _).put hK.nobj _).put hK.nobj _) (Own.put (Own.put (Own.new hO _) _ _) _ _) (by decide) (by rfl) (hxl) (by rfl) (by rfl) (by decide) (by omega) (by omega) ?_
   intro idn σn hOn hKn eobj enobj ever entop
   simp only [put_nobj, new_nobj] at enobj
   refine Xr ?_
   repeat' (first
 |with_reducible first|apply Xa|apply Xb|(refine Xc ?_;intro κ hκ)|(apply hκ.out;clear hκ κ)|apply Xd|apply Xe|apply Xf
 |((with_reducible first|refine Xl ?_ ?_|refine Xk ?_ ?_)<;> intro h hari<;> try exact Xp)
 |((with_reducible refine aapp_go ?_);refine Xt ?_;intro idn σn hOn hKn eobj enobj ever entop)
 |((with_reducible refine aappn_go ?_);refine Xu ?_)
 |refine Xr ?_
 |exact True.intro
 |(apply hκ.out;clear hκ κ))
   refine ⟨ts.length - (i + 1), by omega, i + 1, idn, xs ++ [sc (.bool false), ic (1000 + w2)], ?_⟩
   ((repeat' with_reducible refine And.intro ?_ ?_)<;> first|exact Xq|exact (hKn.put (by omega) _)|exact (Own.put hOn _ _)|exact (by rw [Abs.Hid, HG.out, hX.out]; rfl)|exact Xs)
  | false =>
   repeat' (first
 |with_reducible first|apply Xa|apply Xb|(refine Xc ?_;intro κ hκ)|(apply hκ.out;clear hκ κ)|apply Xd|apply Xe|apply Xf
 |((with_reducible first|refine Xl ?_ ?_|refine Xk ?_ ?_)<;> intro h hari<;> try exact Xp)
 |((with_reducible refine aapp_go ?_);refine Xt ?_;intro idn σn hOn hKn eobj enobj ever entop)
 |((with_reducible refine aappn_go ?_);refine Xu ?_)
 |refine Xr ?_
 |exact True.intro
 |(apply hκ.out;clear hκ κ))
   refine aApp_own (by first | exact tez_92) ((hK.new _).put hK.nobj _) (Own.put (Own.new hO _) _ _) (by decide) (by rfl) (hxl) (by rfl) (by rfl) (by decide) (by omega) (by omega) ?_
   intro idn σn hOn hKn eobj enobj ever entop
   simp only [put_nobj, new_nobj] at enobj
   refine Xr ?_
   repeat' (first
 |with_reducible first|apply Xa|apply Xb|(refine Xc ?_;intro κ hκ)|(apply hκ.out;clear hκ κ)|apply Xd|apply Xe|apply Xf
 |((with_reducible first|refine Xl ?_ ?_|refine Xk ?_ ?_)<;> intro h hari<;> try exact Xp)
 |((with_reducible refine aapp_go ?_);refine Xt ?_;intro idn σn hOn hKn eobj enobj ever entop)
 |((with_reducible refine aappn_go ?_);refine Xu ?_)
 |refine Xr ?_
 |exact True.intro
 |(apply hκ.out;clear hκ κ))
   refine ⟨ts.length - (i + 1), by omega, i + 1, idn, xs ++ [sc (.bool false), ic w2], ?_⟩
   ((repeat' with_reducible refine And.intro ?_ ?_)<;> first|exact Xq|exact (hKn.put (by omega) _)|exact (Own.put hOn _ _)|exact (by rw [Abs.Hid, HG.out, hX.out]; rfl)|exact Xs)
 ·have hil : i = ts.length := by omega
  subst hil
  have hX := hX.out
  rw [List.take_length] at hX
  repeat' (first
 |with_reducible first|apply Xa|apply Xb|(refine Xc ?_;intro κ hκ)|(apply hκ.out;clear hκ κ)|apply Xd|apply Xe|apply Xf
 |((with_reducible first|refine Xl ?_ ?_|refine Xk ?_ ?_)<;> intro h hari<;> try exact Xp)
 |((with_reducible refine aapp_go ?_);refine Xt ?_;intro idn σn hOn hKn eobj enobj ever entop)
 |((with_reducible refine aappn_go ?_);refine Xu ?_)
 |refine Xr ?_
 |exact True.intro
 |(apply hκ.out;clear hκ κ))
  exact ⟨_, rfl, ⟨i3, by first | rfl | rw [hX]⟩, hK.put (by omega) _⟩
set_option maxHeartbeats 16000000 in
theorem efrozenBody_spec (r : Rul) (c : List AV) (hc : ERu r c) (hl : r.body.length ≤ 64) (ha : ∀ l ∈ r.body, l.a.ts.length ≤ 3 ∧ Sml l.a.ts) (σ : St) : ACalls Tryz.prog 114 [ag c] σ fun x σ' => (∃ id cs, x = sl id r.body.length cs ∧ EL EAt (r.body.map fun l => frzA l.a) cs) ∧ Keep σ σ' := by
 obtain ⟨o, ih, ib, bc, rfl, hB⟩ := hc
 have hbl := EL.length ELt_len hB
 refine acalls 22 [.tmp 2] Tryz.func114 rfl (by decide) rfl rfl (Nat.le_of_ble_eq_true rfl) ?_
 repeat' (first
 |with_reducible first|apply Xa|apply Xb|(refine Xc ?_;intro κ hκ)|(apply hκ.out;clear hκ κ)|apply Xd|apply Xe|apply Xf
 |((with_reducible first|refine Xl ?_ ?_|refine Xk ?_ ?_)<;> intro h hari<;> try exact Xp)
 |((with_reducible refine aapp_go ?_);refine Xt ?_;intro idn σn hOn hKn eobj enobj ever entop)
 |((with_reducible refine aappn_go ?_);refine Xu ?_)
 |refine Xr ?_
 |exact True.intro
 |(apply hκ.out;clear hκ κ))
 refine awp_loop (fun m s σ' => ∃ (i i3 : Nat) (xs : List AV), m = r.body.length - i ∧ i ≤ r.body.length ∧ s 3 = sl i3 i xs ∧ s 8 = sl ib r.body.length bc ∧ s 9 = ic r.body.length ∧ s 10 = ic i ∧ Keep σ σ' ∧ Own σ σ' i3 i ∧ xs.length = i * 2 ∧ Abs.Hid (EL EAt ((r.body.take i).map fun l => frzA l.a) xs)) r.body.length
  ⟨0, 1, [], by omega, by omega, by simp [upd], by simp [upd], by simp [upd], rfl, by exact Xs, Own.nil _ _, by simp, rfl⟩ ?_
 rintro m s σ' ⟨i, i3, xs, rfl, hi, h3, h8, h9, h10, hK, hO, hxl, hX⟩
 have kno := hK.nobj
 by_cases hlt : i < r.body.length
 ·have hget := List.getElem?_eq_getElem hlt
  obtain ⟨id, rr, hd⟩ := ELt_get hB hget
  obtain ⟨ha1, ha2⟩ := ha _ (List.getElem_mem hlt)
  generalize r.body[i] = w at hd hget ha1 ha2
  have hw1 : w.a.ts.length ≤ 1000 := by omega
  have hFr := fun σ => efrozen_spec w.a.p id w.a.ts hw1 ha2 σ
  have HG : Abs.Hid ((r.body.take (i + 1)).map (fun l => frzA l.a) = (r.body.take i).map (fun l => frzA l.a) ++ [frzA w.a]) := by
   rw [Abs.Hid, List.take_add_one, hget]; simp
  clear hget
  repeat' (first
 |with_reducible first|apply Xa|apply Xb|(refine Xc ?_;intro κ hκ)|(apply hκ.out;clear hκ κ)|apply Xd|apply Xe|apply Xf
 |((with_reducible first|refine Xl ?_ ?_|refine Xk ?_ ?_)<;> intro h hari<;> try exact Xp)
 |((with_reducible refine aapp_go ?_);refine Xt ?_;intro idn σn hOn hKn eobj enobj ever entop)
 |((with_reducible refine aappn_go ?_);refine Xu ?_)
 |((with_reducible refine Xh ?_);refine Xi (hFr _) ?_;rintro _ _ ⟨⟨idf,rfl⟩,hK2⟩;(have hKx:=((hK.new _).put hK.nobj _).trans hK2;have hOx:=Own.keep (Own.put (Own.new hO _) _ _) hK2))
 |refine Xr ?_
 |exact True.intro
 |(apply hκ.out;clear hκ κ))
  refine ⟨r.body.length - (i + 1), by omega, i + 1, idn, xs ++ [ic w.a.p, sl idf w.a.ts.length (ecells (w.a.ts.map frzT))], ?_⟩
  ((repeat' with_reducible refine And.intro ?_ ?_)<;> first|exact Xq|exact (by rw [Abs.Hid, HG.out]; exact EL.append hX.out (EL.single ⟨idf, by simp [frzA]⟩))|exact Xs)
 ·have hil : i = r.body.length := by omega
  subst hil
  rw [List.take_length] at hX
  repeat' (first
 |with_reducible first|apply Xa|apply Xb|(refine Xc ?_;intro κ hκ)|(apply hκ.out;clear hκ κ)|apply Xd|apply Xe|apply Xf
 |((with_reducible first|refine Xl ?_ ?_|refine Xk ?_ ?_)<;> intro h hari<;> try exact Xp)
 |((with_reducible refine aapp_go ?_);refine Xt ?_;intro idn σn hOn hKn eobj enobj ever entop)
 |((with_reducible refine aappn_go ?_);refine Xu ?_)
 |refine Xr ?_
 |exact True.intro
 |(apply hκ.out;clear hκ κ))
  first | exact ⟨_, rfl, ⟨i3, xs, rfl, hX.out⟩, hK⟩ | exact ⟨_, rfl, i3, xs, rfl, hX.out⟩
def affL (n : Int) (l : Lit) : Lit := if l.neg = true then ⟨false, ⟨l.a.p + n, l.a.ts⟩⟩ else l
def affR (n : Int) (r : Rul) : Rul := ⟨r.head, r.body.map (affL n)⟩
set_option maxHeartbeats 16000000 in
theorem eaffirmed_spec (r : Rul) (c : List AV) (n : Int) (hc : ERu r c) (hl : r.body.length ≤ 64) (hp : ∀ l ∈ r.body, 0 ≤ l.a.p ∧ l.a.p ≤ 1000000) (hn0 : 0 ≤ n) (hn1 : n ≤ 1000000) (σ : St) : ACalls Tryz.prog 113 [ag c, ic n] σ fun x σ' => (∃ c', x = ag c' ∧ ERu (affR n r) c') ∧ Keep σ σ' := by
 obtain ⟨o, ih, ib, bc, rfl, hB⟩ := hc
 have hbl := EL.length ELt_len hB
 refine acalls 36 [.cell 4 97] Tryz.func113 rfl (by decide) rfl rfl (Nat.le_of_ble_eq_true rfl) ?_
 repeat' (first
 |with_reducible first|apply Xa|apply Xb|(refine Xc ?_;intro κ hκ)|(apply hκ.out;clear hκ κ)|apply Xd|apply Xe|apply Xf
 |((with_reducible first|refine Xl ?_ ?_|refine Xk ?_ ?_)<;> intro h hari<;> try exact Xp)
 |((with_reducible refine aapp_go ?_);refine Xt ?_;intro idn σn hOn hKn eobj enobj ever entop)
 |((with_reducible refine aappn_go ?_);refine Xu ?_)
 |refine Xr ?_
 |exact True.intro
 |(apply hκ.out;clear hκ κ))
 refine awp_loop (fun m s σ' => ∃ (i i3 : Nat) (xs : List AV), m = r.body.length - i ∧ i ≤ r.body.length ∧ s 1 = ic n ∧ s 4 = ptr (σ.nobj + 1) 0 ∧ s 5 = ptr (σ.nobj + 2) 0 ∧ s 12 = sl ib r.body.length bc ∧ s 13 = ic r.body.length ∧ s 14 = ic i ∧ Keep σ σ' ∧ σ.nobj + 2 < σ'.nobj ∧ σ'.obj (σ.nobj + 1) = [sc (.bool false), ic 0, nilS, nilS] ∧ σ'.obj (σ.nobj + 2) = [sc (.bool false), ic r.head.p, sl ih r.head.ts.length (ecells r.head.ts), sl i3 i xs] ∧ Own σ σ' i3 i ∧ xs.length = i * 3 ∧ Abs.Hid (EL ELt ((r.body.take i).map (affL n)) xs)) r.body.length
  ⟨0, 1, [], by omega, by omega, by simp [upd, initS], by simp [upd], by simp [upd], by simp [upd], by simp [upd], rfl, by exact Xs, by simp only [put_nobj, new_nobj]; omega, ?_, ?_, Own.nil _ _, by simp, rfl⟩ ?_
 ·rw [put_ne (by omega), new_lt (by simp only [new_nobj]; omega), new_at (by simp only [new_nobj]; omega) (by simp only [new_nobj]; omega)]
 ·rw [show σ.nobj + 2 = σ.nobj + 1 + 1 from rfl, put_same]
 rintro m s σ' ⟨i, i3, xs, rfl, hi, h1, h4, h5, h12, h13, h14, hK, hno, ob1, ob2, hO, hxl, hX⟩
 have kno := hK.nobj
 by_cases hlt : i < r.body.length
 ·have hget := List.getElem?_eq_getElem hlt
  obtain ⟨id, rr, hd⟩ := ELt_get hB hget
  have hpb := hp _ (List.getElem_mem hlt)
  generalize r.body[i] = w at hd hget hpb
  have HG : Abs.Hid ((r.body.take (i + 1)).map (affL n) = (r.body.take i).map (affL n) ++ [affL n w]) := by
   rw [Abs.Hid, List.take_add_one, hget]; simp
  clear hget
  cases hneg : w.neg with
  | true =>
   rw [hneg] at hd
   have HX : Abs.Hid (EL ELt ((r.body.take (i + 1)).map (affL n)) (xs ++ [sc (.bool false), ic (w.a.p + n), sl id w.a.ts.length (ecells w.a.ts)])) := by
    rw [Abs.Hid, HG.out]
    refine EL.append hX.out (EL.single ?_)
    rw [affL, if_pos hneg]
    exact ⟨id, rfl⟩
   clear hX HG
   repeat' (first
 |with_reducible first|apply Xa|apply Xb|(refine Xc ?_;intro κ hκ)|(apply hκ.out;clear hκ κ)|apply Xd|apply Xe|apply Xf
 |((with_reducible first|refine Xl ?_ ?_|refine Xk ?_ ?_)<;> intro h hari<;> try exact Xp)
 |((with_reducible refine aapp_go ?_);refine Xt ?_;intro idn σn hOn hKn eobj enobj ever entop)
 |((with_reducible refine aappn_go ?_);refine Xu ?_)
 |refine Xr ?_
 |exact True.intro
 |(apply hκ.out;clear hκ κ))
   refine aApp_own (by first | exact tez_95) ((((hK.new _).put hK.nobj _).put hK.nobj _).put hK.nobj _) (Own.put (Own.put (Own.put (Own.new hO _) _ _) _ _) _ _) (by decide) (by rfl) (hxl) (by rfl) (by rfl) (by decide) (by omega) (by omega) ?_
   intro idn σn hOn hKn eobj enobj ever entop
   simp only [put_nobj, new_nobj] at enobj
   refine Xr ?_
   repeat' (first
 |with_reducible first|apply Xa|apply Xb|(refine Xc ?_;intro κ hκ)|(apply hκ.out;clear hκ κ)|apply Xd|apply Xe|apply Xf
 |((with_reducible first|refine Xl ?_ ?_|refine Xk ?_ ?_)<;> intro h hari<;> try exact Xp)
 |((with_reducible refine aapp_go ?_);refine Xt ?_;intro idn σn hOn hKn eobj enobj ever entop)
 |((with_reducible refine aappn_go ?_);refine Xu ?_)
 |refine Xr ?_
 |exact True.intro
 |(apply hκ.out;clear hκ κ))
   refine ⟨r.body.length - (i + 1), by omega, i + 1, idn, xs ++ [sc (.bool false), ic (w.a.p + n), sl id w.a.ts.length (ecells w.a.ts)], ?_⟩
   ((repeat' with_reducible refine And.intro ?_ ?_)<;> first|exact Xq|exact (hKn.put (by omega) _)|exact (Own.put hOn _ _)|exact (HX)|exact Xs)
  | false =>
   rw [hneg] at hd
   have HX : Abs.Hid (EL ELt ((r.body.take (i + 1)).map (affL n)) (xs ++ [sc (.bool false), ic w.a.p, sl id w.a.ts.length (ecells w.a.ts)])) := by
    rw [Abs.Hid, HG.out]
    refine EL.append hX.out (EL.single ?_)
    rw [affL, if_neg (by rw [hneg]; simp)]
    exact ⟨id, by rw [hneg]⟩
   clear hX HG
   repeat' (first
 |with_reducible first|apply Xa|apply Xb|(refine Xc ?_;intro κ hκ)|(apply hκ.out;clear hκ κ)|apply Xd|apply Xe|apply Xf
 |((with_reducible first|refine Xl ?_ ?_|refine Xk ?_ ?_)<;> intro h hari<;> try exact Xp)
 |((with_reducible refine aapp_go ?_);refine Xt ?_;intro idn σn hOn hKn eobj enobj ever entop)
 |((with_reducible refine aappn_go ?_);refine Xu ?_)
 |refine Xr ?_
 |exact True.intro
 |(apply hκ.out;clear hκ κ))
   refine aApp_own (by first | exact tez_95) ((hK.new _).put hK.nobj _) (Own.put (Own.new hO _) _ _) (by decide) (by rfl) (hxl) (by rfl) (by rfl) (by decide) (by omega) (by omega) ?_
   intro idn σn hOn hKn eobj enobj ever entop
   simp only [put_nobj, new_nobj] at enobj
   refine Xr ?_
   repeat' (first
 |with_reducible first|apply Xa|apply Xb|(refine Xc ?_;intro κ hκ)|(apply hκ.out;clear hκ κ)|apply Xd|apply Xe|apply Xf
 |((with_reducible first|refine Xl ?_ ?_|refine Xk ?_ ?_)<;> intro h hari<;> try exact Xp)
 |((with_reducible refine aapp_go ?_);refine Xt ?_;intro idn σn hOn hKn eobj enobj ever entop)
 |((with_reducible refine aappn_go ?_);refine Xu ?_)
 |refine Xr ?_
 |exact True.intro
 |(apply hκ.out;clear hκ κ))
   refine ⟨r.body.length - (i + 1), by omega, i + 1, idn, xs ++ [sc (.bool false), ic w.a.p, sl id w.a.ts.length (ecells w.a.ts)], ?_⟩
   ((repeat' with_reducible refine And.intro ?_ ?_)<;> first|exact Xq|exact (hKn.put (by omega) _)|exact (Own.put hOn _ _)|exact (HX)|exact Xs)
 ·have hil : i = r.body.length := by omega
  subst hil
  rw [List.take_length] at hX
  have hL : (r.body.map (affL n)).length = r.body.length := by simp
  repeat' (first
 |with_reducible first|apply Xa|apply Xb|(refine Xc ?_;intro κ hκ)|(apply hκ.out;clear hκ κ)|apply Xd|apply Xe|apply Xf
 |((with_reducible first|refine Xl ?_ ?_|refine Xk ?_ ?_)<;> intro h hari<;> try exact Xp)
 |((with_reducible refine aapp_go ?_);refine Xt ?_;intro idn σn hOn hKn eobj enobj ever entop)
 |((with_reducible refine aappn_go ?_);refine Xu ?_)
 |refine Xr ?_
 |exact True.intro
 |(apply hκ.out;clear hκ κ))
  exact ⟨_, rfl, ⟨_, rfl, false, ih, i3, xs, by simp only [affR]; rw [hL], hX.out⟩, hK.put (by omega) _⟩
/- The program's Implied: a model of facts. -/
structure MkM (np : Nat) (F : List Atm) (M : MM) : Prop where
 len : M.length = np
 nd : ∀ x ∈ M, x.2.Nodup
 mem : ∀ (k : Nat) (t : Tup), MD M k t ↔ ∃ a ∈ F, a.p = (k : Int) ∧ t = tupA a
 tot : tot M ≤ F.length
theorem tupsOf_get' {M : MM} {k : Nat} {x : Nat × List Tup} (h : M[k]? = some x) : tupsOf M (k : Int) = x.2 := tupsOf_get h
theorem MkM.nil (np : Nat) : MkM np [] (List.replicate np (1, [])) := by
 refine ⟨by simp, fun x hx => ?_, fun k t => ⟨fun h => ?_, fun ⟨a, ha, _⟩ => by simp at ha⟩, ?_⟩
 ·rw [(List.mem_replicate.1 hx).2]; exact List.nodup_nil
 ·exfalso
  unfold MD at h
  by_cases hk : k < np
  ·rw [tupsOf_get' (x := (1, [])) (by rw [List.getElem?_replicate, if_pos hk])] at h
   simp at h
  ·unfold tupsOf at h
   simp [hk] at h
 ·have : ∀ n : Nat, Go.Proofs.YtmoeoppbmhfbpaaGreatDoorQ.tot (List.replicate n ((1 : Nat), ([] : List Tup))) = 0 := by
   intro n
   induction n with
   | zero => rfl
   | succ n ih => rw [List.replicate_succ, tot_cons, ih]; rfl
  rw [this]; simp
theorem MkM.has {np : Nat} {F : List Atm} {M : MM} {a : Atm} {k : Nat} {x : Nat × List Tup} (h : MkM np F M) (hk : a.p = (k : Int)) (hx : M[k]? = some x) (hm : tupA a ∈ x.2) : MkM np (F ++ [a]) M := by
 refine ⟨h.len, h.nd, fun j t => ?_, by have := h.tot; simp; omega⟩
 rw [h.mem j t]
 constructor
 ·rintro ⟨b, hb, h1, h2⟩; exact ⟨b, List.mem_append_left _ hb, h1, h2⟩
 ·rintro ⟨b, hb, h1, h2⟩
  rcases List.mem_append.1 hb with h' | h'
  ·exact ⟨b, h', h1, h2⟩
  ·rw [List.mem_singleton] at h'
   subst h'
   have hkj : j = k := by omega
   subst hkj
   refine (h.mem j t).1 ?_
   unfold MD
   rw [tupsOf_get hx, h2]; exact hm
theorem MkM.add {np : Nat} {F : List Atm} {M : MM} {a : Atm} {k id' : Nat} {x : Nat × List Tup} (h : MkM np F M) (hk : a.p = (k : Int)) (hx : M[k]? = some x) (hm : tupA a ∉ x.2) : MkM np (F ++ [a]) (M.set k (id', x.2 ++ [tupA a])) := by
 have hkl : k < M.length := (List.getElem?_eq_some_iff.1 hx).1
 have hk1 : tupsOf (M.set k (id', x.2 ++ [tupA a])) (k : Int) = x.2 ++ [tupA a] := tupsOf_get (x := (id', x.2 ++ [tupA a])) (by rw [List.getElem?_set, if_pos rfl, if_pos hkl])
 have hk2 : ∀ j : Nat, j ≠ k → (M.set k (id', x.2 ++ [tupA a]))[j]? = M[j]? := fun j hj => by rw [List.getElem?_set, if_neg (fun e => hj e.symm)]
 refine ⟨by simp [h.len], fun y hy => ?_, fun j t => ?_, ?_⟩
 ·rcases List.mem_or_eq_of_mem_set hy with h' | rfl
  ·exact h.nd y h'
  ·rw [List.nodup_append]
   exact ⟨h.nd x (List.mem_of_getElem? hx), by simp, fun u hu v hv e => hm (by rw [List.mem_singleton] at hv; rw [← hv, ← e]; exact hu)⟩
 ·by_cases hj : j = k
  ·subst hj
   unfold MD
   rw [hk1, List.mem_append, List.mem_singleton]
   have hM := h.mem j t
   unfold MD at hM
   rw [tupsOf_get hx] at hM
   rw [hM]
   constructor
   ·rintro (⟨b, hb, h1, h2⟩ | h')
    ·exact ⟨b, List.mem_append_left _ hb, h1, h2⟩
    ·exact ⟨a, by simp, hk, h'⟩
   ·rintro ⟨b, hb, h1, h2⟩
    rcases List.mem_append.1 hb with h' | h'
    ·exact .inl ⟨b, h', h1, h2⟩
    ·rw [List.mem_singleton] at h'; subst h'; exact .inr h2
  ·have hM := h.mem j t
   unfold MD tupsOf at hM ⊢
   rw [Int.toNat_natCast] at hM ⊢
   rw [hk2 j hj, hM]
   constructor
   ·rintro ⟨b, hb, h1, h2⟩; exact ⟨b, List.mem_append_left _ hb, h1, h2⟩
   ·rintro ⟨b, hb, h1, h2⟩
    rcases List.mem_append.1 hb with h' | h'
    ·exact ⟨b, h', h1, h2⟩
    ·rw [List.mem_singleton] at h'; subst h'; omega
 ·have := tot_diff M (M.set k (id', x.2 ++ [tupA a])) k 1 (by simp) (fun j hj => by rw [hk2 j hj]) (fun _ => by rw [hk1, tupsOf_get hx]; simp) (fun h' => by omega)
  have h2 := h.tot
  simp
  omega
structure MPt (σ : St) (ot : Nat) (M : MM) : Prop where
 oc : σ.obj ot = mcells M
 lt : ot < σ.nobj
 live : ∀ x ∈ M, Live σ x.1 x.2.length
 inj : ∀ (i j : Nat) (x y : Nat × List Tup), M[i]? = some x → M[j]? = some y → i ≠ j → x.1 = 1 ∨ x.1 ≠ y.1
 t3 : ∀ x ∈ M, T3 x.2
 ln : ∀ x ∈ M, x.2.length ≤ 5000
 pl : M.length ≤ 5000
theorem MPt.keep {σ σ' : St} {ot : Nat} {M : MM} (h : MPt σ ot M) (k : Keep σ σ') : MPt σ' ot M := ⟨(k.obj _ h.lt).trans h.oc, Nat.lt_of_lt_of_le h.lt k.nobj, fun x hx => (h.live x hx).keep k, h.inj, h.t3, h.ln, h.pl⟩
theorem MPt.mob {σ : St} {om ot : Nat} {M : MM} {d b : Int} (h : MPt σ ot M) (ho : σ.obj om = [fx ot 0 M.length, ic d, ic b]) (hl : om < σ.nobj) (hn : om ≠ ot) : MOb σ om ot M d b := ⟨ho, h.oc, hl, h.lt, hn, h.live, h.inj, h.t3, h.ln, h.pl⟩
theorem MOb.mpt {σ : St} {om ot : Nat} {M : MM} {d b : Int} (h : MOb σ om ot M d b) : MPt σ ot M := ⟨h.oc, h.lt, h.live, h.inj, h.t3, h.ln, h.pl⟩
theorem Keep.km {σ0 σ σ' : St} {om ot : Nat} {M M' : MM} (hK : Keep σ0 σ) (h : KM om ot M M' σ σ') (hm : σ0.nobj ≤ om) (ht : σ0.nobj ≤ ot) (hM : ∀ x ∈ M, x.1 = 1) : Keep σ0 σ' :=
 ⟨Nat.le_trans hK.nobj h.nobj, fun o ho => (h.obj o (Nat.lt_of_lt_of_le ho hK.nobj) (by omega) (by omega)).trans (hK.obj o ho), fun o ho => (h.ver o (Nat.lt_of_lt_of_le ho hK.nobj) (by omega) (by omega)).trans (hK.ver o ho), Nat.le_trans hK.ntop h.ntop, fun k hk => (h.top k (Nat.lt_of_lt_of_le hk hK.ntop) (fun x hx e => by rw [hM x hx] at e; omega)).trans (hK.top k hk)⟩
theorem mcells_zero (np : Nat) : mcells (List.replicate np (1, [])) = List.replicate np nilS := by
 unfold mcells
 rw [List.map_replicate]; rfl
set_option maxHeartbeats 32000000 in
theorem enewModel_spec (np : Nat) (F : List Atm) (cs : List AV) (idf : Nat) (b : Int) (hF : EL EAt F cs) (hn : np ≤ 5000) (hFl : F.length ≤ 1000) (hFa : ∀ a ∈ F, a.ts.length ≤ 3 ∧ ∃ k : Nat, a.p = (k : Int) ∧ k < np) (σ : St) :
  ACalls Tryz.prog 46 [ic np, sl idf F.length cs, ic b] σ fun r σ' => ∃ ot M, r = ag [fx ot 0 np, ic 0, ic b] ∧ MkM np F M ∧ Keep σ σ' ∧ σ.nobj ≤ ot ∧ MPt σ' ot M ∧ (∀ x ∈ M, x.1 = 1 ∨ σ.ntop + 2 ≤ x.1) := by
 have hfl := EL.length EAt_len hF
 refine acalls 27 [.cell 6 74] Tryz.func46 rfl (by decide) rfl rfl (Nat.le_of_ble_eq_true rfl) ?_
 repeat' (first
 |with_reducible first|apply Xa|apply Xb|(refine Xc ?_;intro κ hκ)|(apply hκ.out;clear hκ κ)|apply Xd|apply Xe|apply Xf
 |((with_reducible first|refine Xl ?_ ?_|refine Xk ?_ ?_)<;> intro h hari<;> try exact Xp)
 |refine Xr ?_
 |exact True.intro
 |(apply hκ.out;clear hκ κ))
 obtain ⟨σ0, hσ0⟩ : ∃ τ, τ = ((((σ.new [nilS, ic 0, ic 0]).new (List.replicate np nilS)).new [nilS, ic 0, ic 0]).put (σ.nobj + 1 + 1) [fx (σ.nobj + 1) 0 np, ic 0, ic b]) := ⟨_, rfl⟩
 rw [← hσ0]
 have hK0 : Keep σ σ0 := by rw [hσ0]; exact Xs
 have hn0 : σ0.nobj = σ.nobj + 3 := by rw [hσ0]; rfl
 have hq0 : σ0.obj σ.nobj = [nilS, ic 0, ic 0] := by rw [hσ0, put_ne (by omega), new_lt (by simp only [new_nobj]; omega), new_lt (by simp only [new_nobj]; omega), new_same]
 have hM0 : MOb σ0 (σ.nobj + 2) (σ.nobj + 1) (List.replicate np (1, [])) 0 b :=
  ⟨by rw [hσ0, put_same]; simp, by rw [mcells_zero, hσ0, put_ne (by omega), new_lt (by simp only [new_nobj]; omega), new_at (by simp only [new_nobj]; omega) (by simp only [new_nobj]; omega)], by omega, by omega, by omega, fun x hx => by rw [(List.mem_replicate.1 hx).2]; exact .inl ⟨rfl, rfl⟩, fun i j x y hx hy _ => .inl (by rw [(List.mem_replicate.1 (List.mem_of_getElem? hx)).2]), fun x hx => by rw [(List.mem_replicate.1 hx).2]; intro t ht; simp at ht, fun x hx => by rw [(List.mem_replicate.1 hx).2]; simp, by simpa using hn⟩
 refine awp_loop (fun m s σ' => ∃ (i : Nat) (M : MM), m = F.length - i ∧ i ≤ F.length ∧ s 6 = ptr σ.nobj 0 ∧ s 7 = ptr (σ.nobj + 2) 0 ∧ s 14 = sl idf F.length cs ∧ s 15 = ic F.length ∧ s 16 = ic i ∧ MOb σ' (σ.nobj + 2) (σ.nobj + 1) M 0 b ∧ KM (σ.nobj + 2) (σ.nobj + 1) (List.replicate np (1, [])) M σ0 σ' ∧ σ'.obj σ.nobj = [nilS, ic 0, ic 0] ∧ Abs.Hid (MkM np (F.take i) M)) F.length
  ⟨0, List.replicate np (1, []), by omega, by omega, by simp [upd], by simp [upd], by simp [upd], by simp [upd], by simp [upd], hM0, KM.ofKeep (Keep.refl _), hq0, MkM.nil np⟩ ?_
 clear hM0 hq0 hσ0
 rintro m s σ' ⟨i, M, rfl, hi, h6, h7, h14, h15, h16, hM, hKM, hq, hI⟩
 have hmn := hKM.nobj
 by_cases hlt : i < F.length
 ·have hget := List.getElem?_eq_getElem hlt
  obtain ⟨id, rr, hd⟩ := EAt_get hF hget
  obtain ⟨ha3, k, hak, hkn⟩ := hFa _ (List.getElem_mem hlt)
  generalize F[i] = a at hget hd ha3 hak
  have hML := hI.out.len
  have hx := List.getElem?_eq_getElem (l := M) (i := k) (by omega)
  generalize M[k]'(by omega) = x at hx
  have HTK : Abs.Hid (F.take (i + 1) = F.take i ++ [a]) := by rw [Abs.Hid, List.take_add_one, hget, Option.toList_some]
  clear hget
  have hxl : x.2.length < 5000 := by
   have h1 := hI.out.tot
   have h2 : (x.2.length : Int) ≤ Go.Proofs.YtmoeoppbmhfbpaaGreatDoorQ.tot M := by
    have hg : ∀ (M : MM) (k : Nat) (x : Nat × List Tup), M[k]? = some x → (x.2.length : Int) ≤ Go.Proofs.YtmoeoppbmhfbpaaGreatDoorQ.tot M := by
     intro M
     induction M with
     | nil => intro k x h; simp at h
     | cons y M ih =>
      intro k x h
      rw [tot_cons]
      have hp : ∀ M : MM, 0 ≤ Go.Proofs.YtmoeoppbmhfbpaaGreatDoorQ.tot M := by
       intro M
       induction M with
       | nil => exact Int.le_refl _
       | cons y M ih => rw [tot_cons]; omega
      cases k with
      | zero => simp at h; subst h; have := hp M; omega
      | succ k => have := ih k x (by simpa using h); omega
    exact hg M k x hx
   rw [List.length_take] at h1
   omega
  have hHa := fun σ (h : MOb σ (σ0.nobj - 1) (σ0.nobj - 2) M 0 b) => ehasM_spec (σ0.nobj - 1) (σ0.nobj - 2) M 0 b a id k x ha3 hak hx σ h
  have hKe := fun σ (h : MOb σ (σ0.nobj - 1) (σ0.nobj - 2) M 0 b) => ekeep_spec (σ0.nobj - 1) (σ0.nobj - 2) M 0 b a id k x ha3 hak hx hxl σ h
  rw [show σ0.nobj - 1 = σ.nobj + 2 by omega, show σ0.nobj - 2 = σ.nobj + 1 by omega] at hHa hKe
  have HX : Abs.Hid (M[k]? = some x) := hx
  have HAK : Abs.Hid (a.p = (k : Int)) := hak
  clear hx hak hML
  by_cases hmm : tupA a ∈ x.2
  ·rw [show decide (tupA a ∈ x.2) = true by simpa using hmm] at hHa
   have HN : Abs.Hid (MkM np (F.take (i + 1)) M) := by rw [Abs.Hid, HTK.out]; exact hI.out.has HAK.out HX.out hmm
   clear hmm hI
   have hKm : Keep σ' ((σ'.new [ic 0, nilS]).put σ'.nobj [ic a.p, sl id a.ts.length (ecells a.ts)]) := ((Keep.refl σ').new _).put (Nat.le_refl _) _
   repeat' (first
 |with_reducible first|apply Xa|apply Xb|(refine Xc ?_;intro κ hκ)|(apply hκ.out;clear hκ κ)|apply Xd|apply Xe|apply Xf
 |((with_reducible first|refine Xl ?_ ?_|refine Xk ?_ ?_)<;> intro h hari<;> try exact Xp)
 |((with_reducible refine Xh ?_);refine Xi (hHa _ (hM.keep hKm)) ?_;rintro _ _ ⟨rfl,hK2⟩;(have hKz:=hKm.trans hK2))
 |refine Xr ?_
 |exact True.intro
 |(apply hκ.out;clear hκ κ))
   refine ⟨F.length - (i + 1), by omega, i + 1, M, ?_⟩
   ((repeat' with_reducible refine And.intro ?_ ?_)<;> first|exact Xq|exact (HN)|exact (hM.keep hKz)|exact (hKM.trans (KM.ofKeep hKz))|exact (by rw [hKz.obj _ (by omega), hq])|exact Xs)
  ·rw [show decide (tupA a ∈ x.2) = false by simpa using hmm] at hHa
   have HN : Abs.Hid (∀ id', MkM np (F.take (i + 1)) (M.set k (id', x.2 ++ [tupA a]))) := fun id' => by rw [HTK.out]; exact hI.out.add HAK.out HX.out hmm
   clear hmm hI
   have hKm : Keep σ' ((σ'.new [ic 0, nilS]).put σ'.nobj [ic a.p, sl id a.ts.length (ecells a.ts)]) := ((Keep.refl σ').new _).put (Nat.le_refl _) _
   have hqv : ∀ p, p < σ'.nobj + 1 → ((σ'.new [ic 0, nilS]).put σ'.nobj [ic a.p, sl id a.ts.length (ecells a.ts)]).obj p = ((σ'.new [ic 0, nilS]).put σ'.nobj [ic a.p, sl id a.ts.length (ecells a.ts)]).obj p := fun p _ => rfl
   clear hqv
   repeat' (first
 |with_reducible first|apply Xa|apply Xb|(refine Xc ?_;intro κ hκ)|(apply hκ.out;clear hκ κ)|apply Xd|apply Xe|apply Xf
 |((with_reducible first|refine Xl ?_ ?_|refine Xk ?_ ?_)<;> intro h hari<;> try exact Xp)
 |((with_reducible refine Xh ?_);first|(refine Xi (hHa _ (hM.keep hKm)) ?_;rintro _ _ ⟨rfl,hK2⟩;(have hKz:=hKm.trans hK2;have kob2:=hK2.obj;have kno2:=hK2.nobj;simp only [put_nobj,new_nobj] at kno2 kob2))|(refine Xi (hKe _ (hM.keep hKz)) ?_;rintro _ _ ⟨id',hM3,hKM3⟩))
 |refine Xr ?_
 |exact True.intro
 |(apply hκ.out;clear hκ κ))
   rename_i σ2 σ3
   have hKM4 := (hKM.trans (KM.ofKeep hKz)).trans hKM3
   have hq3 : σ3.obj σ.nobj = [nilS, ic 0, ic 0] := by rw [hKM3.obj _ (by omega) (by omega) (by omega), hKz.obj _ (by omega), hq]
   refine ⟨F.length - (i + 1), by omega, i + 1, M.set k (id', x.2 ++ [tupA a]), ?_⟩
   ((repeat' with_reducible refine And.intro ?_ ?_)<;> first|exact Xq|exact (HN.out id')|exact (hM3)|exact (hKM4)|exact (hq3)|exact Xs)
 ·have hil : i = F.length := by omega
  subst hil
  have hI := hI.out
  rw [List.take_length] at hI
  have hML := hI.len
  have hob := hM.ob
  rw [hML] at hob
  have hlo := hM.lo
  have HI : Abs.Hid _ := hI
  have HM : Abs.Hid _ := hM
  have HKM : Abs.Hid _ := hKM
  clear hI hM hKM hML
  repeat' (first
 |with_reducible first|apply Xa|apply Xb|(refine Xc ?_;intro κ hκ)|(apply hκ.out;clear hκ κ)|apply Xd|apply Xe|apply Xf
 |((with_reducible first|refine Xl ?_ ?_|refine Xk ?_ ?_)<;> intro h hari<;> try exact Xp)
 |refine Xr ?_
 |exact True.intro
 |(apply hκ.out;clear hκ κ))
  have hKf := Keep.km hK0 HKM.out (by omega) (by omega) (fun x hx => by rw [(List.mem_replicate.1 hx).2])
  refine ⟨_, rfl, σ.nobj + 1, M, rfl, HI.out, hKf.put (by omega) _, by omega, ?_, fun x hx => ?_⟩
  ·have h := HM.out.mpt
   exact ⟨by rw [put_ne' (by omega)]; exact h.oc, h.lt, h.live, h.inj, h.t3, h.ln, h.pl⟩
  ·have hnt := hK0.ntop
   rcases HKM.out.mid x hx with ⟨y, hy, e⟩ | e | e
   ·rw [(List.mem_replicate.1 hy).2] at e; exact .inl e.symm
   ·exact .inl e
   ·exact .inr (by omega)
end Go.Proofs.YtmoeoppbmhfbpaaGreatDoorQ
