import Derived.Test.YtmoeoppbmhfbpaaGreatDoorBEngQ
/- The program's engine: how many; the query of a rule. -/
namespace Go.Proofs.YtmoeoppbmhfbpaaGreatDoorB
open Go.Abs
set_option linter.unusedSimpArgs false
set_option linter.unusedVariables false
set_option maxRecDepth 100000
def cnts (M : MM) : List Int := M.map fun x => (x.2.length : Int)
set_option maxHeartbeats 16000000 in
theorem ecounts_spec (om ot : Nat) (M : MM) (d b : Int) (σ : St) (hM : MOb σ om ot M d b) : ACalls Tryz.prog 116 [ptr om 0] σ fun r σ' => (∃ id, r = sl id M.length (icells (cnts M))) ∧ Keep σ σ' := by
 have hpl := hM.pl
 have hml := mcells_len M
 have lo := hM.lo
 have lt := hM.lt
 have ob := hM.ob
 have oc := hM.oc
 refine acalls 23 [.tmp 2] Tryz.func116 rfl (by decide) rfl rfl (Nat.le_of_ble_eq_true rfl) ?_
 repeat' (first
 |with_reducible first|apply Xa|apply Xb|(refine Xc ?_;intro κ hκ)|(apply hκ.out;clear hκ κ)|apply Xd|apply Xe|apply Xf
 |((with_reducible first|refine Xl ?_ ?_|refine Xk ?_ ?_)<;> intro h hari<;> try exact Xp)
 |((with_reducible refine aapp_go ?_);refine Xt ?_;intro idn σn hOn hKn eobj enobj ever entop)
 |((with_reducible refine aappn_go ?_);refine Xu ?_)
 |refine Xr ?_
 |exact True.intro
 |(apply hκ.out;clear hκ κ))
 refine awp_loop (fun m s σ' => ∃ (i i3 : Nat) (xs : List AV), m = M.length - i ∧ i ≤ M.length ∧ s 3 = sl i3 i xs ∧ s 10 = fx ot 0 M.length ∧ s 11 = ic M.length ∧ s 12 = ic i ∧ Keep σ σ' ∧ Own σ σ' i3 i ∧ xs.length = i ∧ Abs.Hid (xs = icells (cnts (M.take i)))) M.length
  ⟨0, 1, [], by omega, by omega, by simp [upd], by simp [upd], by simp [upd], rfl, by exact Xs, Own.nil _ _, by simp, by simp [Abs.Hid, cnts, icells]⟩ ?_
 rintro m s σ' ⟨i, i3, xs, rfl, hi, h3, h10, h11, h12, hK, hO, hxl, hX⟩
 have kno := hK.nobj
 have e2 : σ'.obj ot = mcells M := by rw [hK.obj _ lt, oc]
 by_cases hlt : i < M.length
 ·have hget := List.getElem?_eq_getElem hlt
  have hgx := mcells_get hget
  have hb := hM.ln _ (List.getElem_mem hlt)
  generalize M[i] = x at hget hgx hb
  have HX : Abs.Hid (xs ++ [ic (x.2.length : Int)] = icells (cnts (M.take (i + 1)))) := by
   rw [Abs.Hid, List.take_add_one, hget, hX.out]; simp [cnts, icells]
  clear hget hX
  have hxl' : xs.length = i * 1 := by omega
  repeat' (first
 |with_reducible first|apply Xa|apply Xb|(refine Xc ?_;intro κ hκ)|(apply hκ.out;clear hκ κ)|apply Xd|apply Xe|apply Xf
 |((with_reducible first|refine Xl ?_ ?_|refine Xk ?_ ?_)<;> intro h hari<;> try exact Xp)
 |((with_reducible refine aapp_go ?_);refine Xt ?_;intro idn σn hOn hKn eobj enobj ever entop)
 |((with_reducible refine aappn_go ?_);refine Xu ?_)
 |refine Xr ?_
 |exact True.intro
 |(apply hκ.out;clear hκ κ))
  refine ⟨M.length - (i + 1), by omega, i + 1, idn, xs ++ [ic (x.2.length : Int)], ?_⟩
  ((repeat' with_reducible refine And.intro ?_ ?_)<;> first|exact Xq|exact (HX)|exact Xs)
 ·have hil : i = M.length := by omega
  subst hil
  have hX := hX.out
  rw [List.take_length] at hX
  repeat' (first
 |with_reducible first|apply Xa|apply Xb|(refine Xc ?_;intro κ hκ)|(apply hκ.out;clear hκ κ)|apply Xd|apply Xe|apply Xf
 |((with_reducible first|refine Xl ?_ ?_|refine Xk ?_ ?_)<;> intro h hari<;> try exact Xp)
 |((with_reducible refine aapp_go ?_);refine Xt ?_;intro idn σn hOn hKn eobj enobj ever entop)
 |((with_reducible refine aappn_go ?_);refine Xu ?_)
 |refine Xr ?_
 |exact True.intro
 |(apply hκ.out;clear hκ κ))
  first | exact ⟨_, rfl, ⟨i3, by rw [hX]⟩, hK⟩ | exact ⟨_, rfl, i3, by rw [hX]⟩ | exact ⟨_, rfl, ⟨i3, rfl⟩⟩
/-! ### Rules -/
structure Lit where
 neg : Bool
 a : Atm
structure Rul where
 head : Atm
 body : List Lit
def ELt (l : Lit) (c : List AV) : Prop := ∃ id, c = [sc (.bool l.neg), ic l.a.p, sl id l.a.ts.length (ecells l.a.ts)]
theorem ELt_len (a : Lit) (c : List AV) (h : ELt a c) : c.length = 3 := by obtain ⟨id, rfl⟩ := h; rfl
theorem ELt_get {l : List Lit} {cs : List AV} {i : Nat} {p : Lit} (h : EL ELt l cs) (hi : l[i]? = some p) : ∃ id r, cs.drop (i * 3) = sc (.bool p.neg) :: ic p.a.p :: sl id p.a.ts.length (ecells p.a.ts) :: r := by
 obtain ⟨c, r, ⟨id, rfl⟩, e⟩ := EL.get ELt_len h hi
 exact ⟨id, r, e⟩
def ERu (r : Rul) (c : List AV) : Prop := ∃ o ih ib bc, c = [sc (.bool o), ic r.head.p, sl ih r.head.ts.length (ecells r.head.ts), sl ib r.body.length bc] ∧ EL ELt r.body bc
def tupsOf (M : MM) (p : Int) : List Tup := ((M[p.toNat]?).map (·.2)).getD []
def askT (M : MM) (nw : Int) (fr : Nat) (i : Nat) (l : Lit) : List Tup := if (i : Int) = nw then (tupsOf M l.a.p).drop fr else tupsOf M l.a.p
def askP (M : MM) (nw : Int) (fr : Nat) (x : Lit × Nat) : Part := ⟨x.1.a, (askT M nw fr x.2 x.1).filter (fitB x.1.a.ts)⟩
def askL (M : MM) (nw : Int) (fr : Nat) (l : List Lit) : List Part := (l.zipIdx.filter fun x => !x.1.neg).map (askP M nw fr)
def askN (l : List Lit) : List Atm := (l.filter (·.neg)).map (·.a)
def askQ (M : MM) (nw : Int) (fr : Nat) (r : Rul) : Qry := ⟨r.head, askL M nw fr r.body, askN r.body⟩
structure ROk (np : Nat) (r : Rul) : Prop where
 hd : r.head.ts.length ≤ 3
 hp : ∃ k : Nat, r.head.p = (k : Int) ∧ k < np
 bl : r.body.length ≤ 64
 ba : ∀ l ∈ r.body, l.a.ts.length ≤ 3
 bp : ∀ l ∈ r.body, ∃ k : Nat, l.a.p = (k : Int) ∧ k < np
theorem askL_snoc (M : MM) (nw : Int) (fr : Nat) (l : List Lit) (w : Lit) : askL M nw fr (l ++ [w]) = askL M nw fr l ++ if w.neg = true then [] else [askP M nw fr (w, l.length)] := by
 unfold askL
 rw [List.zipIdx_append, List.filter_append, List.map_append]
 congr 1
 cases h : w.neg <;> simp [h]
theorem askN_snoc (l : List Lit) (w : Lit) : askN (l ++ [w]) = askN l ++ if w.neg = true then [w.a] else [] := by
 unfold askN
 rw [List.filter_append, List.map_append]
 congr 1
 cases h : w.neg <;> simp [h]
theorem drop_take_snoc {α : Type} (l : List α) (fr k : Nat) {x : α} (hx : l[k]? = some x) : (l.take (k + 1)).drop fr = (l.take k).drop fr ++ if fr ≤ k then [x] else [] := by
 have hk := (List.getElem?_eq_some_iff.1 hx).1
 rw [List.take_add_one, hx, Option.toList_some, List.drop_append, List.length_take, Nat.min_eq_left (by omega)]
 congr 1
 by_cases h : fr ≤ k
 ·rw [if_pos h, show fr - k = 0 by omega]; rfl
 ·rw [if_neg h, List.drop_eq_nil_of_le (by simp; omega)]
def askJ (i : Nat) (nw : Int) (fr : Nat) (ts : List Tm) (l : List Tup) (j : Nat) : List Tup := (if (i : Int) = nw then (l.take j).drop fr else l.take j).filter (fitB ts)
theorem askJ_step {i : Nat} {nw : Int} {fr : Nat} {ts : List Tm} {l : List Tup} {j : Nat} {t : Tup} (hget : l[j]? = some t) : askJ i nw fr ts l (j + 1) = askJ i nw fr ts l j ++ if (((i : Int) ≠ nw ∨ fr ≤ j) ∧ fitB ts t = true) then [t] else [] := by
 unfold askJ
 by_cases e : (i : Int) = nw
 ·rw [if_pos e, if_pos e, drop_take_snoc _ _ _ hget, List.filter_append]
  congr 1
  by_cases h1 : fr ≤ j
  ·cases h2 : fitB ts t <;> simp [h1, h2]
  ·simp [h1, e]
 ·rw [if_neg e, if_neg e, List.take_add_one, hget, Option.toList_some, filter_snoc]
  congr 1
  cases h2 : fitB ts t <;> simp [e]
set_option maxHeartbeats 32000000 in
theorem eask_spec (om ot : Nat) (M : MM) (d b : Int) (r : Rul) (c : List AV) (nw : Int) (fr : Nat) (hc : ERu r c) (hr : ROk M.length r) (hfr : fr ≤ 100000) (σ : St) (hM : MOb σ om ot M d b) : ACalls Tryz.prog 130 [ptr om 0, ag c, ic nw, ic fr] σ fun x σ' => (∃ c', x = ag c' ∧ EQ (askQ M nw fr r) c') ∧ Keep σ σ' := by
 obtain ⟨o, ih, ib, bc, rfl, hB⟩ := hc
 have hbl := EL.length ELt_len hB
 have hl := hr.bl
 have hpl := hM.pl
 have hml := mcells_len M
 have lo := hM.lo
 have lt := hM.lt
 have obm := hM.ob
 have ocm := hM.oc
 refine acalls 82 [.cell 8 182] Tryz.func130 rfl (by decide) rfl rfl (Nat.le_of_ble_eq_true rfl) ?_
 repeat' (first
 |with_reducible first|apply Xa|apply Xb|(refine Xc ?_;intro κ hκ)|(apply hκ.out;clear hκ κ)|apply Xd|apply Xe|apply Xf
 |((with_reducible first|refine Xl ?_ ?_|refine Xm ?_ ?_|refine Xk ?_ ?_)<;> intro h hari<;> try exact Xp)
 |((with_reducible refine aapp_go ?_);refine Xt ?_;intro idn σn hOn hKn eobj enobj ever entop)
 |((with_reducible refine aappn_go ?_);refine Xu ?_)
 |refine Xr ?_
 |exact True.intro
 |((with_reducible refine Xg ?_);refine Xj ?_)
 |(apply hκ.out;clear hκ κ))
 refine awp_loop (fun m s σ' => ∃ (i i3 i5 : Nat) (l1 : List Part) (l2 : List Atm) (xs ys : List AV), m = r.body.length - i ∧ i ≤ r.body.length ∧ s 0 = ptr om 0 ∧ s 2 = ic nw ∧ s 3 = ic fr ∧ s 8 = ptr (σ.nobj + 1) 0 ∧ s 9 = ptr (σ.nobj + 2) 0 ∧ s 19 = sl ib r.body.length bc ∧ s 20 = ic r.body.length ∧ s 21 = ic i ∧ Keep σ σ' ∧ σ.nobj + 2 < σ'.nobj ∧ σ'.obj (σ.nobj + 1) = [ic 0, nilS, nilS, nilS] ∧ σ'.obj (σ.nobj + 2) = [ic r.head.p, sl ih r.head.ts.length (ecells r.head.ts), sl i3 l1.length xs, sl i5 l2.length ys] ∧ Own σ σ' i3 l1.length ∧ Own σ σ' i5 l2.length ∧ (i3 = 1 ∨ i3 ≠ i5) ∧ l1.length ≤ i ∧ l2.length ≤ i ∧ xs.length = l1.length * 3 ∧ ys.length = l2.length * 2 ∧ Abs.Hid (EL EPt l1 xs ∧ EL EAt l2 ys ∧ l1 = askL M nw fr (r.body.take i) ∧ l2 = askN (r.body.take i))) r.body.length
  ⟨0, 1, 1, [], [], [], [], by omega, by omega, by simp [upd, initS], by simp [upd, initS], by simp [upd, initS], by simp [upd], by simp [upd], by simp [upd], by simp [upd], rfl, by exact Xs, by simp only [put_nobj, new_nobj]; omega, ?_, ?_, Own.nil _ _, Own.nil _ _, .inl rfl, by simp, by simp, by simp, by simp, ⟨rfl, rfl, by simp [askL], by simp [askN]⟩⟩ ?_
 ·rw [put_ne (by omega), new_lt (by simp only [new_nobj]; omega), new_at (by simp only [new_nobj]; omega) (by simp only [new_nobj]; omega)]
 ·rw [show σ.nobj + 2 = σ.nobj + 1 + 1 from rfl, put_same]; simp
 rintro m s σ' ⟨i, i3, i5, l1, l2, xs, ys, rfl, hi, h0, h2, h3, h8, h9, h19, h20, h21, hK, hno, ob1, ob2, hO3, hO5, hne, hl1, hl2, hxl, hyl, hX⟩
 have kno := hK.nobj
 have em : σ'.obj om = [fx ot 0 M.length, ic d, ic b] := by rw [hK.obj _ lo, obm]
 have et : σ'.obj ot = mcells M := by rw [hK.obj _ lt, ocm]
 by_cases hlt : i < r.body.length
 ·have hget := List.getElem?_eq_getElem hlt
  obtain ⟨id, rr, hd⟩ := ELt_get hB hget
  have hb1 := hr.ba _ (List.getElem_mem hlt)
  obtain ⟨k, hk, hkn⟩ := hr.bp _ (List.getElem_mem hlt)
  generalize r.body[i] = w at hd hget hb1 hk
  have HA : Abs.Hid (askL M nw fr (r.body.take (i + 1)) = askL M nw fr (r.body.take i) ++ (if w.neg = true then [] else [askP M nw fr (w, i)]) ∧ askN (r.body.take (i + 1)) = askN (r.body.take i) ++ if w.neg = true then [w.a] else []) := by
   rw [Abs.Hid, List.take_add_one, hget, Option.toList_some, askL_snoc, askN_snoc, List.length_take, Nat.min_eq_left (by omega)]
   exact ⟨rfl, rfl⟩
  clear hget
  cases hneg : w.neg with
  | true =>
   rw [hneg] at hd
   have HX : Abs.Hid (EL EPt l1 xs ∧ EL EAt (l2 ++ [w.a]) (ys ++ [ic w.a.p, sl id w.a.ts.length (ecells w.a.ts)]) ∧ l1 = askL M nw fr (r.body.take (i + 1)) ∧ l2 ++ [w.a] = askN (r.body.take (i + 1))) := by
    obtain ⟨x1, x2, x3, x4⟩ := hX.out
    exact ⟨x1, EL.append x2 (EL.single ⟨id, rfl⟩), by rw [HA.out.1, if_pos hneg, List.append_nil, x3], by rw [HA.out.2, if_pos hneg, x4]⟩
   clear hX HA
   repeat' (first
 |with_reducible first|apply Xa|apply Xb|(refine Xc ?_;intro κ hκ)|(apply hκ.out;clear hκ κ)|apply Xd|apply Xe|apply Xf
 |((with_reducible first|refine Xl ?_ ?_|refine Xm ?_ ?_|refine Xk ?_ ?_)<;> intro h hari<;> try exact Xp)
 |((with_reducible refine aapp_go ?_);refine Xt ?_;intro idn σn hOn hKn eobj enobj ever entop)
 |((with_reducible refine aappn_go ?_);refine Xu ?_)
 |refine Xr ?_
 |exact True.intro
 |((with_reducible refine Xg ?_);refine Xj ?_)
 |(apply hκ.out;clear hκ κ))
   refine aApp_two (by first | exact tez_69 | exact tez_122 | exact tez_180) ((hK.new _).put hK.nobj _) (Own.put (Own.new hO5 _) _ _) (by decide) (by rfl) hyl (by rfl) (by rfl) (by decide) (by omega) (by omega) ?_
   intro idn σn hOn hKn eobj enobj ever entop hoth
   obtain ⟨hO3n, hne2⟩ := hoth i3 l1.length (Own.put (Own.new hO3 _) _ _) (by omega)
   have hne3 : i3 = 1 ∨ i3 ≠ idn := by omega
   simp only [put_nobj, new_nobj] at enobj
   have eob : ∀ p, p < σ'.nobj → σn.obj p = σ'.obj p := fun p hp => by rw [eobj, put_ne (by omega), new_lt (by omega)]
   refine Xr ?_
   repeat' (first
 |with_reducible first|apply Xa|apply Xb|(refine Xc ?_;intro κ hκ)|(apply hκ.out;clear hκ κ)|apply Xd|apply Xe|apply Xf
 |((with_reducible first|refine Xl ?_ ?_|refine Xm ?_ ?_|refine Xk ?_ ?_)<;> intro h hari<;> try exact Xp)
 |((with_reducible refine aapp_go ?_);refine Xt ?_;intro idn σn hOn hKn eobj enobj ever entop)
 |((with_reducible refine aappn_go ?_);refine Xu ?_)
 |refine Xr ?_
 |exact True.intro
 |((with_reducible refine Xg ?_);refine Xj ?_)
 |(apply hκ.out;clear hκ κ))
   refine ⟨r.body.length - (i + 1), by omega, i + 1, i3, idn, l1, l2 ++ [w.a], xs, ys ++ [ic w.a.p, sl id w.a.ts.length (ecells w.a.ts)], ?_⟩
   ((repeat' with_reducible refine And.intro ?_ ?_)<;> first|exact Xq|exact (hKn.put (by omega) _)|exact (by simpa using Own.put hOn _ _)|exact (Own.put hO3n _ _)|exact (HX)|exact Xs)
  | false =>
   rw [hneg] at hd
   have hgx0 : M[k]? = some M[k] := List.getElem?_eq_getElem hkn
   generalize M[k] = x at hgx0
   have hxm := List.mem_of_getElem? hgx0
   have hgx := mcells_get hgx0
   have h3x := hM.t3 x hxm
   have hlx := hM.ln x hxm
   have htl := tcs_len h3x
   have HT : Abs.Hid (tupsOf M w.a.p = x.2) := by rw [Abs.Hid, tupsOf, hk]; simp [hgx0]
   rw [hk] at hd
   have hX0 : Abs.Hid _ := hX
   repeat' (first
 |with_reducible first|apply Xa|apply Xb|(refine Xc ?_;intro κ hκ)|(apply hκ.out;clear hκ κ)|apply Xd|apply Xe|apply Xf
 |((with_reducible first|refine Xl ?_ ?_|refine Xm ?_ ?_|refine Xk ?_ ?_)<;> intro h hari<;> try exact Xp)
 |((with_reducible refine aapp_go ?_);refine Xt ?_;intro idn σn hOn hKn eobj enobj ever entop)
 |((with_reducible refine aappn_go ?_);refine Xu ?_)
 |refine Xr ?_
 |exact True.intro
 |((with_reducible refine Xg ?_);refine Xj ?_)
 |(apply hκ.out;clear hκ κ))
   refine awp_draw_k follows_mixed (fun _ => True) [] [0, 1, 2, 3, 4, 5, 6, 7, 8, 9, 10] [] (by kernel_rfl) (fun _ _ _ h => h) ?_
   intro κ hκ
   repeat' (first
 |with_reducible first|apply Xa|apply Xb|(refine Xc ?_;intro κ hκ)|(apply hκ.out;clear hκ κ)|apply Xd|apply Xe|apply Xf
 |((with_reducible first|refine Xl ?_ ?_|refine Xm ?_ ?_|refine Xk ?_ ?_)<;> intro h hari<;> try exact Xp)
 |((with_reducible refine aapp_go ?_);refine Xt ?_;intro idn σn hOn hKn eobj enobj ever entop)
 |((with_reducible refine aappn_go ?_);refine Xu ?_)
 |refine Xr ?_
 |exact True.intro
 |((with_reducible refine Xg ?_);refine Xj ?_)
 |(apply hκ.out;clear hκ κ))
   refine awp_loop (fun m s σ2 => ∃ (j i6 : Nat) (l3 : List Tup) (zs : List AV), m = x.2.length - j ∧ j ≤ x.2.length ∧ s 0 = ptr om 0 ∧ s 2 = ic nw ∧ s 3 = ic fr ∧ s 8 = ptr (σ.nobj + 1) 0 ∧ s 9 = ptr (σ.nobj + 2) 0 ∧ s 10 = ic i ∧ s 11 = ptr σ'.nobj 0 ∧ s 12 = ptr (σ'.nobj + 1) 0 ∧ s 19 = sl ib r.body.length bc ∧ s 20 = ic r.body.length ∧ s 21 = ic i ∧ s 46 = sl x.1 x.2.length (tcs x.2) ∧ s 47 = ic x.2.length ∧ s 48 = ic j ∧ Keep σ σ2 ∧ σ'.nobj + 1 < σ2.nobj ∧ σ2.obj (σ.nobj + 1) = [ic 0, nilS, nilS, nilS] ∧ σ2.obj (σ.nobj + 2) = [ic r.head.p, sl ih r.head.ts.length (ecells r.head.ts), sl i3 l1.length xs, sl i5 l2.length ys] ∧ σ2.obj σ'.nobj = [sc (.bool false), ic (k : Int), sl id w.a.ts.length (ecells w.a.ts)] ∧ σ2.obj (σ'.nobj + 1) = [ic (k : Int), sl id w.a.ts.length (ecells w.a.ts), sl i6 l3.length zs] ∧ Own σ σ2 i3 l1.length ∧ Own σ σ2 i5 l2.length ∧ Own σ σ2 i6 l3.length ∧ (i6 = 1 ∨ i6 ≠ i3) ∧ (i6 = 1 ∨ i6 ≠ i5) ∧ l3.length ≤ j ∧ zs.length = l3.length * 3 ∧ Abs.Hid (zs = tcs l3 ∧ l3 = askJ i nw fr w.a.ts x.2 j)) x.2.length
    ⟨0, 1, [], [], by omega, by omega, by simp [upd, *], by simp [upd, *], by simp [upd, *], by simp [upd, *], by simp [upd, *], by simp [upd, *], by simp [upd, *], by simp [upd, *], by simp [upd, *], by simp [upd, *], by simp [upd, *], by simp [upd, *], by simp [upd, *], by simp [upd], by exact Xs, by simp only [put_nobj, new_nobj]; omega, ?_, ?_, ?_, ?_, Own.put (Own.new (Own.put (Own.new hO3 _) _ _) _) _ _, Own.put (Own.new (Own.put (Own.new hO5 _) _ _) _) _ _, Own.nil _ _, .inl rfl, .inl rfl, by simp, by simp, ⟨rfl, by simp [askJ]⟩⟩ ?_
   ·rw [put_ne (by omega), new_lt (by simp only [put_nobj, new_nobj]; omega), put_ne (by omega), new_lt (by omega), ob1]
   ·rw [put_ne (by omega), new_lt (by simp only [put_nobj, new_nobj]; omega), put_ne (by omega), new_lt (by omega), ob2]
   ·rw [put_ne (by omega), new_lt (by simp only [put_nobj, new_nobj]; omega), put_same]
   ·rw [put_same]; simp
   generalize hO11 : σ'.nobj = o11 at *
   clear hO11 h0 h2 h3 h8 h9 h19 h20 h21 hK ob1 ob2 hO3 hO5 em et hX
   rintro m s σ2 ⟨j, i6, l3, zs, rfl, hj, h0, h2, h3, h8, h9, h10, h11, h12, h19, h20, h21, h46, h47, h48, hK, hno2, ob1, ob2, ob11, ob12, hO3, hO5, hO6, hn63, hn65, hl3, hzl, hZ⟩
   have kno2 := hK.nobj
   by_cases hlt2 : j < x.2.length
   ·have hget := List.getElem?_eq_getElem hlt2
    obtain ⟨ht3, r2, hd2⟩ := tcs_get3 h3x hget
    generalize x.2[j] = t at hd2 hget ht3
    have HD : Abs.Hid (askJ i nw fr w.a.ts x.2 (j + 1) = askJ i nw fr w.a.ts x.2 j ++ if (((i : Int) ≠ nw ∨ fr ≤ j) ∧ fitB w.a.ts t = true) then [t] else []) := askJ_step hget
    clear hget
    have f1 := i3_len ht3
    have f2 := i3_take ht3
    have f3 := i3_take0 ht3
    have f4 := i3_lsp ht3
    have f5 := icells_flat t
    have f6 := i3_le ht3
    have hFi := fun σ => efits_spec k id w.a.ts t ht3 hb1 σ
    by_cases hsel : (i : Int) ≠ nw ∨ fr ≤ j
    ·cases hf : fitB w.a.ts t with
     | true =>
      rw [hf] at hFi
      have HZ : Abs.Hid (zs ++ icells t = tcs (l3 ++ [t]) ∧ l3 ++ [t] = askJ i nw fr w.a.ts x.2 (j + 1)) := by
       obtain ⟨x1, x2⟩ := hZ.out
       exact ⟨by rw [x1, tcs_snoc], by rw [HD.out, if_pos ⟨hsel, hf⟩, x2]⟩
      clear hZ HD
      have hs : ((i : Int) != nw) = true ∨ (((i : Int) != nw) = false ∧ decide ((j : Int) ≥ (fr : Int)) = true) := by
       by_cases e : (i : Int) = nw
       ·right
        have : fr ≤ j := by rcases hsel with h | h; exact absurd e h; exact h
        exact ⟨by simp [e], by simp; omega⟩
       ·left; simpa using e
      clear hsel
      rcases hs with hs1 | ⟨hs1, hs2⟩
      all_goals
       repeat' (first
 |with_reducible first|apply Xa|apply Xb|(refine Xc ?_;intro κ hκ)|(apply hκ.out;clear hκ κ)|apply Xd|apply Xe|apply Xf
 |((with_reducible first|refine Xl ?_ ?_|refine Xm ?_ ?_|refine Xk ?_ ?_)<;> intro h hari<;> try exact Xp)
 |((with_reducible refine aapp_go ?_);refine Xt ?_;intro idn σn hOn hKn eobj enobj ever entop)
 |((with_reducible refine aappn_go ?_);refine Xu ?_)
 |((with_reducible refine Xh ?_);refine Xi (hFi _) ?_;rintro _ _ ⟨rfl,hK5⟩;(have kno5:=hK5.nobj;have kob5:=hK5.obj;have hKx:=((hK.new _).put hK.nobj _).trans hK5;have hO3x:=Own.keep (Own.put (Own.new hO3 _) _ _) hK5;have hO5x:=Own.keep (Own.put (Own.new hO5 _) _ _) hK5;have hO6x:=Own.keep (Own.put (Own.new hO6 _) _ _) hK5;simp only [put_nobj,new_nobj] at kno5 kob5;have kob6:=kob5 σ2.nobj (by omega);rw [put_same] at kob6))
 |refine Xr ?_
 |exact True.intro
 |((with_reducible refine Xg ?_);refine Xj ?_)
 |(apply hκ.out;clear hκ κ))
       refine aApp_two (by first | exact tez_69 | exact tez_122 | exact tez_180) hKx hO6x (by decide) (by rfl) hzl (by rw [f1]) f5 (by decide) (by omega) (by omega) ?_
       intro idn σn hOn hKn eobj enobj ever entop hoth
       obtain ⟨hO3n, hne3⟩ := hoth i3 l1.length hO3x hn63
       obtain ⟨hO5n, hne5⟩ := hoth i5 l2.length hO5x hn65
       have eob : ∀ p, p < σ2.nobj → σn.obj p = σ2.obj p := fun p hp => by rw [eobj, kob5 _ (by omega), put_ne (by omega), new_lt (by omega)]
       refine Xr ?_
       repeat' (first
 |with_reducible first|apply Xa|apply Xb|(refine Xc ?_;intro κ hκ)|(apply hκ.out;clear hκ κ)|apply Xd|apply Xe|apply Xf
 |((with_reducible first|refine Xl ?_ ?_|refine Xm ?_ ?_|refine Xk ?_ ?_)<;> intro h hari<;> try exact Xp)
 |((with_reducible refine aapp_go ?_);refine Xt ?_;intro idn σn hOn hKn eobj enobj ever entop)
 |((with_reducible refine aappn_go ?_);refine Xu ?_)
 |refine Xr ?_
 |exact True.intro
 |((with_reducible refine Xg ?_);refine Xj ?_)
 |(apply hκ.out;clear hκ κ))
       refine ⟨x.2.length - (j + 1), by omega, j + 1, idn, l3 ++ [t], zs ++ icells t, ?_⟩
       ((repeat' with_reducible refine And.intro ?_ ?_)<;> first|exact Xq|exact (hKn.put (by omega) _)|exact (by simpa using Own.put hOn _ _)|exact (Own.put hO3n _ _)|exact (Own.put hO5n _ _)|exact (HZ)|exact Xs)
     | false =>
      rw [hf] at hFi
      have HZ : Abs.Hid (zs = tcs l3 ∧ l3 = askJ i nw fr w.a.ts x.2 (j + 1)) := by
       obtain ⟨x1, x2⟩ := hZ.out
       exact ⟨x1, by rw [HD.out, if_neg (fun h => by rw [hf] at h; cases h.2), x2, List.append_nil]⟩
      clear hZ HD
      have hs : ((i : Int) != nw) = true ∨ (((i : Int) != nw) = false ∧ decide ((j : Int) ≥ (fr : Int)) = true) := by
       by_cases e : (i : Int) = nw
       ·right
        have : fr ≤ j := by rcases hsel with h | h; exact absurd e h; exact h
        exact ⟨by simp [e], by simp; omega⟩
       ·left; simpa using e
      clear hsel
      rcases hs with hs1 | ⟨hs1, hs2⟩
      all_goals
       repeat' (first
 |with_reducible first|apply Xa|apply Xb|(refine Xc ?_;intro κ hκ)|(apply hκ.out;clear hκ κ)|apply Xd|apply Xe|apply Xf
 |((with_reducible first|refine Xl ?_ ?_|refine Xm ?_ ?_|refine Xk ?_ ?_)<;> intro h hari<;> try exact Xp)
 |((with_reducible refine aapp_go ?_);refine Xt ?_;intro idn σn hOn hKn eobj enobj ever entop)
 |((with_reducible refine aappn_go ?_);refine Xu ?_)
 |((with_reducible refine Xh ?_);refine Xi (hFi _) ?_;rintro _ _ ⟨rfl,hK5⟩;(have kno5:=hK5.nobj;have kob5:=hK5.obj;have hKx:=((hK.new _).put hK.nobj _).trans hK5;have hO3x:=Own.keep (Own.put (Own.new hO3 _) _ _) hK5;have hO5x:=Own.keep (Own.put (Own.new hO5 _) _ _) hK5;have hO6x:=Own.keep (Own.put (Own.new hO6 _) _ _) hK5;simp only [put_nobj,new_nobj] at kno5 kob5))
 |refine Xr ?_
 |exact True.intro
 |((with_reducible refine Xg ?_);refine Xj ?_)
 |(apply hκ.out;clear hκ κ))
       refine ⟨x.2.length - (j + 1), by omega, j + 1, i6, l3, zs, ?_⟩
       ((repeat' with_reducible refine And.intro ?_ ?_)<;> first|exact Xq|exact (HZ)|exact Xs)
    ·have HZ : Abs.Hid (zs = tcs l3 ∧ l3 = askJ i nw fr w.a.ts x.2 (j + 1)) := by
      obtain ⟨x1, x2⟩ := hZ.out
      exact ⟨x1, by rw [HD.out, if_neg (fun h => hsel h.1), x2, List.append_nil]⟩
     have hs1 : ((i : Int) != nw) = false := by
      cases h : (i : Int) != nw with
      | false => rfl
      | true => exact absurd (.inl (by simpa using h)) hsel
     have hs2 : decide ((j : Int) ≥ (fr : Int)) = false := by
      have : ¬ fr ≤ j := fun h => hsel (.inr h)
      simp; omega
     clear hZ HD hsel
     repeat' (first
 |with_reducible first|apply Xa|apply Xb|(refine Xc ?_;intro κ hκ)|(apply hκ.out;clear hκ κ)|apply Xd|apply Xe|apply Xf
 |((with_reducible first|refine Xl ?_ ?_|refine Xm ?_ ?_|refine Xk ?_ ?_)<;> intro h hari<;> try exact Xp)
 |((with_reducible refine aapp_go ?_);refine Xt ?_;intro idn σn hOn hKn eobj enobj ever entop)
 |((with_reducible refine aappn_go ?_);refine Xu ?_)
 |refine Xr ?_
 |exact True.intro
 |((with_reducible refine Xg ?_);refine Xj ?_)
 |(apply hκ.out;clear hκ κ))
     refine ⟨x.2.length - (j + 1), by omega, j + 1, i6, l3, zs, ?_⟩
     ((repeat' with_reducible refine And.intro ?_ ?_)<;> first|exact Xq|exact (Own.put (Own.new hO3 _) _ _)|exact (Own.put (Own.new hO5 _) _ _)|exact (Own.put (Own.new hO6 _) _ _)|exact (HZ)|exact Xs)
   ·have hjl : j = x.2.length := by omega
    subst hjl
    have HX : Abs.Hid (EL EPt (l1 ++ [⟨w.a, l3⟩]) (xs ++ [ic (k : Int), sl id w.a.ts.length (ecells w.a.ts), sl i6 l3.length zs]) ∧ EL EAt l2 ys ∧ l1 ++ [⟨w.a, l3⟩] = askL M nw fr (r.body.take (i + 1)) ∧ l2 = askN (r.body.take (i + 1))) := by
     obtain ⟨x1, x2, x3, x4⟩ := hX0.out
     obtain ⟨z1, z2⟩ := hZ.out
     refine ⟨EL.append x1 (EL.single ⟨id, i6, by rw [hk, z1]⟩), x2, ?_, by rw [HA.out.2, if_neg (by rw [hneg]; simp), List.append_nil, x4]⟩
     rw [HA.out.1, if_neg (by rw [hneg]; simp), x3]
     congr 2
     unfold askP askT
     simp only [HT.out]
     rw [z2]
     unfold askJ
     rw [List.take_length]
    clear hZ hX0 HA
    have HO3 : True → Own σ σ2 i3 l1.length := fun _ => hO3
    clear hO3
    repeat' (first
 |with_reducible first|apply Xa|apply Xb|(refine Xc ?_;intro κ hκ)|(apply hκ.out;clear hκ κ)|apply Xd|apply Xe|apply Xf
 |((with_reducible first|refine Xl ?_ ?_|refine Xm ?_ ?_|refine Xk ?_ ?_)<;> intro h hari<;> try exact Xp)
 |((with_reducible refine aapp_go ?_);refine Xt ?_;intro idn σn hOn hKn eobj enobj ever entop)
 |((with_reducible refine aappn_go ?_);refine Xu ?_)
 |refine Xr ?_
 |exact True.intro
 |((with_reducible refine Xg ?_);refine Xj ?_)
 |(apply hκ.out;clear hκ κ))
    refine aApp_two (by first | exact tez_69 | exact tez_122 | exact tez_180) hK (HO3 trivial) (by decide) (by rfl) hxl (by rfl) (by rfl) (by decide) (by omega) (by omega) ?_
    intro idn σn hOn hKn eobj enobj ever entop hoth
    obtain ⟨hO5n, hne5⟩ := hoth i5 l2.length hO5 hne
    refine Xr ?_
    repeat' (first
 |with_reducible first|apply Xa|apply Xb|(refine Xc ?_;intro κ hκ)|(apply hκ.out;clear hκ κ)|apply Xd|apply Xe|apply Xf
 |((with_reducible first|refine Xl ?_ ?_|refine Xm ?_ ?_|refine Xk ?_ ?_)<;> intro h hari<;> try exact Xp)
 |((with_reducible refine aapp_go ?_);refine Xt ?_;intro idn σn hOn hKn eobj enobj ever entop)
 |((with_reducible refine aappn_go ?_);refine Xu ?_)
 |refine Xr ?_
 |exact True.intro
 |((with_reducible refine Xg ?_);refine Xj ?_)
 |(apply hκ.out;clear hκ κ))
    refine ⟨r.body.length - (i + 1), by omega, i + 1, idn, i5, l1 ++ [⟨w.a, l3⟩], l2, xs ++ [ic (k : Int), sl id w.a.ts.length (ecells w.a.ts), sl i6 l3.length zs], ys, ?_⟩
    ((repeat' with_reducible refine And.intro ?_ ?_)<;> first|exact Xq|exact (hKn.put (by omega) _)|exact (by simpa using Own.put hOn _ _)|exact (Own.put hO5n _ _)|exact (HX)|exact Xs)
 ·have hil : i = r.body.length := by omega
  subst hil
  obtain ⟨x1, x2, x3, x4⟩ := hX.out
  rw [List.take_length] at x3 x4
  repeat' (first
 |with_reducible first|apply Xa|apply Xb|(refine Xc ?_;intro κ hκ)|(apply hκ.out;clear hκ κ)|apply Xd|apply Xe|apply Xf
 |((with_reducible first|refine Xl ?_ ?_|refine Xm ?_ ?_|refine Xk ?_ ?_)<;> intro h hari<;> try exact Xp)
 |((with_reducible refine aapp_go ?_);refine Xt ?_;intro idn σn hOn hKn eobj enobj ever entop)
 |((with_reducible refine aappn_go ?_);refine Xu ?_)
 |refine Xr ?_
 |exact True.intro
 |((with_reducible refine Xg ?_);refine Xj ?_)
 |(apply hκ.out;clear hκ κ))
  exact ⟨_, rfl, ⟨_, rfl, ih, i3, i5, xs, ys, by first | (simp only [askQ]; done) | (simp only [askQ]; rw [x3, x4]), by simp only [askQ]; rw [← x3]; exact x1, by simp only [askQ]; rw [← x4]; exact x2⟩, hK.put (by omega) _⟩
end Go.Proofs.YtmoeoppbmhfbpaaGreatDoorB
