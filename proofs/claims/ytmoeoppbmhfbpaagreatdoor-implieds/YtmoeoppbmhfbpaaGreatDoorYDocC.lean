import Derived.Test.YtmoeoppbmhfbpaaGreatDoorYDocB
/- The document's own answer: put, become. -/
namespace Go.Proofs.YtmoeoppbmhfbpaaGreatDoorY
open Go.Abs
set_option linter.unusedSimpArgs false
set_option linter.unusedVariables false
set_option maxRecDepth 100000
theorem putAtom_cells (a : RAtom) (ia : Nat) (v t : Tx) (hn : a.terms.length ≤ 1000) (σ : St) : ACalls Tryz.prog 269 [ag [sc (.bool a.nt), str a.pred, sl ia a.terms.length (a.terms.map str)], str v, str t] σ fun r σ' => ∃ i, r = ag [sc (.bool a.nt), str a.pred, sl i a.terms.length ((putQ v t a).terms.map str)] ∧ Keep σ σ' :=
 (putAtom_spec a _ v t ⟨ia, rfl⟩ hn σ).mono fun r σ' ⟨c, h1, ⟨i, h2⟩, h3⟩ => ⟨i, by rw [h1, h2]; simp [putQ], h3⟩
set_option maxHeartbeats 16000000 in
theorem rput_spec (x : RItem) (c : List AV) (v t : Tx) (hc : EItem x c) (hx : x.fits) (σ : St) : ACalls Tryz.prog 259 [ag c, str v, str t] σ fun r σ' => ∃ c', r = ag c' ∧ EItem (putX v t x) c' ∧ Keep σ σ' := by
 obtain ⟨ih, id, b, hb, rfl⟩ := hc.cells
 have hbl := EL.length EAtom_len hb
 have hb5 := hx.1
 have hP0 := fun σ => putAtom_cells x.head ih v t hx.2.1 σ
 unfold itemCells
 refine acalls 36 [.cell 6 145] Tryz.func259 rfl (by decide) rfl rfl (Nat.le_of_ble_eq_true rfl) ?_
 repeat' (first
 |with_reducible first|apply Xa|apply Xb|(refine Xc ?_;intro κ hκ)|(apply hκ.out;clear hκ κ)|apply Xd|apply Xe|apply Xf
 |((with_reducible first|refine Xl ?_ ?_|refine Xm ?_ ?_|refine Xk ?_ ?_)<;> intro h hari<;> try exact Xp)
 |((with_reducible refine aapp_go ?_);refine Xt ?_;intro idn σn hOn hKn eobj enobj ever entop)
 |((with_reducible refine aappn_go ?_);refine Xu ?_)
 |((with_reducible refine Xh ?_);refine Xi (hP0 _) ?_;rintro _ _ ⟨ih2,rfl,hK0⟩;(have kno0:=hK0.nobj;have kob0:=hK0.obj;simp only [new_nobj] at kno0 kob0))
 |refine Xr ?_
 |exact True.intro
 |((with_reducible refine Xg ?_);refine Xj ?_)
 |(apply hκ.out;clear hκ κ))
 rename_i σ1
 have o0 : σ1.obj σ.nobj = [sc (.bool x.out), sc (.bool x.head.nt), str x.head.pred, sl ih x.head.terms.length (x.head.terms.map str), sl id x.body.length b] := by rw [kob0 _ (by omega), new_lt (by simp only [new_nobj]; omega), new_same]
 have o1 : σ1.obj (σ.nobj + 1) = [sc (.bool false), sc (.bool false), str [], nilS, nilS] := by rw [kob0 _ (by omega), new_at (by simp only [new_nobj]; omega) (by simp only [new_nobj]; omega)]
 have hKx : Keep σ σ1 := (((Keep.refl σ).new _).new _).trans hK0
 clear kob0 hK0
 refine awp_loop (fun m s σ' => ∃ (i i3 : Nat) (xs : List AV), m = x.body.length - i ∧ i ≤ x.body.length ∧ s 1 = str v ∧ s 2 = str t ∧ s 3 = ptr σ.nobj 0 ∧ s 6 = ptr (σ.nobj + 1) 0 ∧ s 7 = ptr σ1.nobj 0 ∧ s 8 = sc (.int .i64 i) ∧ Keep σ σ' ∧ σ1.nobj < σ'.nobj ∧ σ'.obj σ.nobj = [sc (.bool x.out), sc (.bool x.head.nt), str x.head.pred, sl ih x.head.terms.length (x.head.terms.map str), sl id x.body.length b] ∧ σ'.obj (σ.nobj + 1) = [sc (.bool false), sc (.bool false), str [], nilS, nilS] ∧ σ'.obj σ1.nobj = [sc (.bool false), sc (.bool x.head.nt), str x.head.pred, sl ih2 x.head.terms.length ((putQ v t x.head).terms.map str), sl i3 i xs] ∧ Own σ σ' i3 i ∧ xs.length = i * 3 ∧ Abs.Hid (EL EAtom ((x.body.take i).map (putQ v t)) xs)) x.body.length
  ⟨0, 1, [], by omega, by omega, by simp [upd, initS], by simp [upd, initS], by simp [upd], by simp [upd], by simp [upd], by simp [upd], by exact Xs, by simp only [put_nobj, new_nobj]; omega, ?_, ?_, ?_, Own.nil _ _, by simp, by simp [Abs.Hid, EL]⟩ ?_
 ·rw [put_ne (by omega), new_lt (by omega), o0]
 ·rw [put_ne (by omega), new_lt (by omega), o1]
 ·rw [put_same]
 clear o0 o1 hKx hP0
 rintro m s σ' ⟨i, i3, xs, rfl, hi, h1, h2, h3, h6, h7, h8, hK, hno, ob0, ob1, ob2, hO, hxl, hX⟩
 have kno := hK.nobj
 by_cases hlt : i < x.body.length
 ·have hget := List.getElem?_eq_getElem hlt
  obtain ⟨ia, r, hd⟩ := EL_atom hb hget
  have hwn := hx.2.2 _ (List.getElem_mem hlt)
  generalize x.body[i] = w at hd hget hwn
  have HG : Abs.Hid ((x.body.take (i + 1)).map (putQ v t) = (x.body.take i).map (putQ v t) ++ [putQ v t w]) := by
   rw [Abs.Hid, List.take_add_one, hget]; simp
  clear hget
  have hPP := fun σ => putAtom_cells w ia v t hwn σ
  have HX0 : Abs.Hid _ := hX
  have hxl0 : Abs.Hid _ := hxl
  repeat' (first
 |with_reducible first|apply Xa|apply Xb|(refine Xc ?_;intro κ hκ)|(apply hκ.out;clear hκ κ)|apply Xd|apply Xe|apply Xf
 |((with_reducible first|refine Xl ?_ ?_|refine Xm ?_ ?_|refine Xk ?_ ?_)<;> intro h hari<;> try exact Xp)
 |((with_reducible refine aapp_go ?_);refine Xt ?_;intro idn σn hOn hKn eobj enobj ever entop)
 |((with_reducible refine aappn_go ?_);refine Xu ?_)
 |refine Xr ?_
 |exact True.intro
 |((with_reducible refine Xg ?_);refine Xj ?_)
 |(apply hκ.out;clear hκ κ))
  refine awp_mono (Q := fun e s' σ'' => e = .normal ∧ s' 1 = str v ∧ s' 2 = str t ∧ s' 3 = ptr σ.nobj 0 ∧ s' 6 = ptr (σ.nobj + 1) 0 ∧ s' 7 = ptr σ1.nobj 0 ∧ s' 8 = sc (.int .i64 i) ∧ Keep σ σ'' ∧ σ1.nobj < σ''.nobj ∧ σ''.obj σ.nobj = [sc (.bool x.out), sc (.bool x.head.nt), str x.head.pred, sl ih x.head.terms.length (x.head.terms.map str), sl id x.body.length b] ∧ σ''.obj (σ.nobj + 1) = [sc (.bool false), sc (.bool false), str [], nilS, nilS] ∧ ∃ idn c', σ''.obj σ1.nobj = [sc (.bool false), sc (.bool x.head.nt), str x.head.pred, sl ih2 x.head.terms.length ((putQ v t x.head).terms.map str), sl idn (i + 1) (xs ++ c')] ∧ Own σ σ'' idn (i + 1) ∧ EAtom (putQ v t w) c') ?_ ?_
  ·refine awp_draw_h follows_mixed (fun _ => True) [13] [0, 1, 2, 3, 4, 5, 6, 7, 8] 5 #[true, true, true, true, true, true, true, true, true, false, false, false, false, false] (by kernel_rfl) (fun _ _ _ h => by cases h.1) ?_; intro κ hκ; refine Xr ?_; refine hκ.out _ ?_; clear hκ κ
   refine uany_one (i := 9) (by kernel_rfl) ?_; refine aOne_k ?_; intro κ hκ; refine Xr ?_
   refine ACalls.mono (hPP _) ?_
   rintro _ σ5 ⟨ij, rfl, hK5⟩
   refine Xr ?_
   refine hκ.out _ _ ⟨kept_keep hK5, ?_⟩; clear hκ κ
   have kno5 := hK5.nobj
   have kob5 := hK5.obj
   have hKy := hK.trans hK5
   have hOy := Own.keep hO hK5
   refine uany_one (i := 10) (by kernel_rfl) ?_; refine aOne_k ?_; intro κ hκ; refine Xr ?_
   refine hκ.out _ _ ⟨kept_keep (hK5.lay 1), ?_⟩; clear hκ κ
   refine uany_one (i := 11) (by kernel_rfl) ?_; refine aOne_k ?_; intro κ hκ; refine Xr ?_
   refine aApp_own (by first | exact tez_134) hKy hOy (by decide) (by rfl) hxl (by rfl) (by rfl) (by decide) (by omega) (by omega) ?_
   intro idn σn hOn hKn eobj enobj ever entop
   refine Xr ?_
   refine hκ.out _ _ ⟨fun _ o ho _ => by rw [ever]; exact hK5.ver o ho, ?_⟩; clear hκ κ
   refine uany_one (i := 12) (by kernel_rfl) ?_; refine aOne_k ?_; intro κ hκ; refine Xr ?_
   refine hκ.out _ _ ⟨fun _ o ho _ => by rw [ever]; exact hK5.ver o ho, ?_⟩; clear hκ κ
   have en : ∀ p, p < σ'.nobj → σn.obj p = σ'.obj p := fun p hp => by rw [eobj, kob5 _ (by omega)]
   have en1 : σn.obj σ1.nobj = [sc (.bool false), sc (.bool x.head.nt), str x.head.pred, sl ih2 x.head.terms.length ((putQ v t x.head).terms.map str), sl i3 i xs] := by rw [en _ hno, ob2]
   refine uany_one (i := 13) (by kernel_rfl) ?_; refine aOne_k ?_; intro κ hκ; refine Xr ?_
   refine hκ.out _ _ ⟨kept_last rfl, ?_⟩; clear hκ κ
   refine uany_done (by kernel_rfl) ⟨rfl, ?_⟩
   simp only [upd, ↓reduceIte, Nat.reduceEqDiff, h1, h2, h3, h6, h7, h8, true_and]
   refine ⟨hKn.put (by omega) _, by simp only [put_nobj]; omega, ?_, ?_, idn, _, ?_, Own.put hOn _ _, ⟨ij, by simp [putQ]; rfl⟩⟩
   ·rw [put_ne (by omega), en _ (by omega), ob0]
   ·rw [put_ne (by omega), en _ (by omega), ob1]
   ·rw [put_same]; simp [putQ]
  ·clear hX hO hxl ob0 ob1 ob2 hno hK kno
   rintro e s' σ'' ⟨rfl, g1, g2, g3, g6, g7, g8, hK, hno, ob0, ob1, idn, c', ob2, hO, hc'⟩
   have HX : Abs.Hid (EL EAtom ((x.body.take (i + 1)).map (putQ v t)) (xs ++ c')) := by rw [Abs.Hid, HG.out]; exact EL.append HX0.out (EL.single hc')
   have hcl := EAtom_len _ _ hc'
   repeat' (first
 |with_reducible first|apply Xa|apply Xb|(refine Xc ?_;intro κ hκ)|(apply hκ.out;clear hκ κ)|apply Xd|apply Xe|apply Xf
 |((with_reducible first|refine Xl ?_ ?_|refine Xm ?_ ?_|refine Xk ?_ ?_)<;> intro h hari<;> try exact Xp)
 |((with_reducible refine aapp_go ?_);refine Xt ?_;intro idn σn hOn hKn eobj enobj ever entop)
 |((with_reducible refine aappn_go ?_);refine Xu ?_)
 |refine Xr ?_
 |exact True.intro
 |((with_reducible refine Xg ?_);refine Xj ?_)
 |(apply hκ.out;clear hκ κ))
   refine ⟨x.body.length - (i + 1), by omega, i + 1, idn, xs ++ c', ?_⟩
   ((repeat' with_reducible refine And.intro ?_ ?_)<;> first|exact Xq|exact (HX)|exact (by rw [List.length_append, hcl, hxl0.out]; omega)|exact Xs)
 ·have hil : i = x.body.length := by omega
  subst hil
  rw [List.take_length] at hX
  have HE : EItem (putX v t x) [sc (.bool false), sc (.bool x.head.nt), str x.head.pred, sl ih2 x.head.terms.length ((putQ v t x.head).terms.map str), sl i3 x.body.length xs] :=
   ⟨[sc (.bool x.head.nt), str x.head.pred, sl ih2 x.head.terms.length ((putQ v t x.head).terms.map str)], i3, xs, ⟨ih2, by simp [putX, putQ]⟩, hX.out, by simp [putX]⟩
  repeat' (first
 |with_reducible first|apply Xa|apply Xb|(refine Xc ?_;intro κ hκ)|(apply hκ.out;clear hκ κ)|apply Xd|apply Xe|apply Xf
 |((with_reducible first|refine Xl ?_ ?_|refine Xm ?_ ?_|refine Xk ?_ ?_)<;> intro h hari<;> try exact Xp)
 |((with_reducible refine aapp_go ?_);refine Xt ?_;intro idn σn hOn hKn eobj enobj ever entop)
 |((with_reducible refine aappn_go ?_);refine Xu ?_)
 |refine Xr ?_
 |exact True.intro
 |((with_reducible refine Xg ?_);refine Xj ?_)
 |(apply hκ.out;clear hκ κ))
  exact ⟨_, rfl, _, rfl, HE, hK.put (by omega) _⟩
theorem putX_fits {v t : Tx} {x : RItem} (h : x.fits) : (putX v t x).fits :=
 ⟨by simp only [putX, List.length_map]; exact h.1, by simp only [putX, putQ, List.length_map]; exact h.2.1, fun a ha => by
  obtain ⟨b, hb, rfl⟩ := List.mem_map.1 ha
  simp only [putQ, List.length_map]; exact h.2.2 b hb⟩
theorem becK_step {j k : Nat} {ts : List Tx} {a u : Tx} {y : RItem} {b : RAtom} (ha : ts[k]? = some a) (hb : y.body[j]? = some b) (hu : b.terms[k]? = some u) : becK j (ts.drop k) k y = if u = a then becK j (ts.drop (k + 1)) (k + 1) y else if variableB u = true then becK j (ts.drop (k + 1)) (k + 1) (putX u a y) else none := by
 have hl := (List.getElem?_eq_some_iff.1 ha).1
 have he := (List.getElem?_eq_some_iff.1 ha).2
 rw [List.drop_eq_getElem_cons hl, he, becK, hb]
 simp only [Option.bind_some, hu]
def BecR (x : RItem) (j : Nat) (t : RAtom) (y : RItem) (ok : Bool) : Prop := y.fits ∧ ((ok = true ∧ becL x j t = some y) ∨ (ok = false ∧ becL x j t = none))
set_option maxHeartbeats 32000000 in
theorem rbecome_spec (x : RItem) (c : List AV) (j : Nat) (t : RAtom) (ct : List AV) (b0 : RAtom) (hc : EItem x c) (ht : EAtom t ct) (hx : x.fits) (hb0 : x.body[j]? = some b0) (htl : t.terms.length ≤ 1000) (σ : St) : ACalls Tryz.prog 257 [ag c, sc (.int .i64 j), ag ct] σ fun r σ' => ∃ y cy ok, r = tp [ag cy, sc (.bool ok)] ∧ EItem y cy ∧ BecR x j t y ok ∧ Keep σ σ' := by
 have hc0 := hc
 obtain ⟨ih, id, b, hb, rfl⟩ := hc.cells
 obtain ⟨it, rfl⟩ := ht
 have hbl := EL.length EAtom_len hb
 have hb5 := hx.1
 obtain ⟨ia, r, hd⟩ := EL_atom hb hb0
 have hjl := (List.getElem?_eq_some_iff.1 hb0).1
 unfold itemCells
 unfold itemCells at hc0
 by_cases hq : t.nt = b0.nt ∧ t.pred = b0.pred ∧ t.terms.length = b0.terms.length
 ·obtain ⟨q1, q2, q3⟩ := hq
  have HBL : Abs.Hid (becL x j t = becK j (t.terms.drop 0) 0 x) := by
   unfold becL; rw [Abs.Hid, hb0]; simp only; rw [if_pos ⟨q1, q2, q3⟩, List.drop_zero]
  have he1 : (t.nt == b0.nt) = true := by simp [q1]
  have he2 : (t.pred == b0.pred) = true := by simp [q2]
  have he3 : ((t.terms.length : Int) != (b0.terms.length : Int)) = false := by simp [q3]
  have HB0 : Abs.Hid (∃ b', x.body[j]? = some b' ∧ b'.terms.length = t.terms.length) := ⟨b0, hb0, q3.symm⟩
  clear q1 q2 q3 hb0
  refine acalls 74 [.cell 6 145, .tmp 7] Tryz.func257 rfl (by decide) rfl rfl (Nat.le_of_ble_eq_true rfl) ?_
  repeat' (first
 |with_reducible first|apply Xa|apply Xb|(refine Xc ?_;intro κ hκ)|(apply hκ.out;clear hκ κ)|apply Xd|apply Xe|apply Xf
 |((with_reducible first|refine Xl ?_ ?_|refine Xm ?_ ?_|refine Xk ?_ ?_)<;> intro h hari<;> try exact Xp)
 |refine Xr ?_
 |exact True.intro
 |((with_reducible refine Xg ?_);refine Xj ?_)
 |(apply hκ.out;clear hκ κ))
  refine awp_loop (fun m s σ' => ∃ (k : Nat) (y : RItem) (iy jy : Nat) (by' : List AV), m = t.terms.length - k ∧ k ≤ t.terms.length ∧ s 1 = sc (.int .i64 j) ∧ s 3 = ptr σ.nobj 0 ∧ s 5 = ptr (σ.nobj + 1) 0 ∧ s 6 = ptr (σ.nobj + 2) 0 ∧ s 9 = sc (.int .i64 k) ∧ Keep σ σ' ∧ σ.nobj + 3 < σ'.nobj ∧ σ'.obj σ.nobj = [sc (.bool y.out), sc (.bool y.head.nt), str y.head.pred, sl iy y.head.terms.length (y.head.terms.map str), sl jy y.body.length by'] ∧ σ'.obj (σ.nobj + 1) = [sc (.bool t.nt), str t.pred, sl it t.terms.length (t.terms.map str)] ∧ σ'.obj (σ.nobj + 2) = [sc (.bool false), sc (.bool false), str [], nilS, nilS] ∧ Abs.Hid (EL EAtom y.body by' ∧ y.fits ∧ (∃ b', y.body[j]? = some b' ∧ b'.terms.length = t.terms.length) ∧ becL x j t = becK j (t.terms.drop k) k y)) t.terms.length
   ⟨0, x, ih, id, b, by omega, by omega, by simp [upd, initS], by simp [upd], by simp [upd], by simp [upd], by simp [upd], by exact Xs, by simp only [put_nobj, new_nobj]; omega, ?_, ?_, ?_, hb, hx, HB0.out, HBL.out⟩ ?_
  ·rw [put_ne (by omega), new_lt (by simp only [new_nobj]; omega), new_lt (by simp only [new_nobj]; omega), new_lt (by simp only [new_nobj]; omega), new_same]
  ·rw [put_ne (by omega), new_lt (by simp only [new_nobj]; omega), new_lt (by simp only [new_nobj]; omega), new_at (by simp only [new_nobj]; omega) (by simp only [new_nobj]; omega)]
  ·rw [put_ne (by omega), new_lt (by simp only [new_nobj]; omega), new_at (by simp only [new_nobj]; omega) (by simp only [new_nobj]; omega)]
  clear he1 he2 he3 hd hb hbl hb5 hjl hc0 HB0
  rintro m s σ' ⟨k, y, iy, jy, by', rfl, hk, h1, h3, h5, h6, h9, hK, hno, ob0, ob1, ob2, hH⟩
  have kno := hK.nobj
  by_cases hlt : k < t.terms.length
  ·obtain ⟨hy, hyf, ⟨b', hb', hbt⟩, hbk⟩ := hH.out
   have hbl := EL.length EAtom_len hy
   have hb5 := hyf.1
   have hjl := (List.getElem?_eq_some_iff.1 hb').1
   obtain ⟨ia, r, hd⟩ := EL_atom hy hb'
   have hgu : b'.terms[k]? = some (b'.terms[k]'(by omega)) := List.getElem?_eq_getElem (by omega)
   have hdu := map_str_get (l := b'.terms) (k := k) (by omega)
   generalize b'.terms[k]'(by omega) = u at hgu hdu
   have hga := List.getElem?_eq_getElem hlt
   have hda := map_str_get hlt
   generalize t.terms[k] = a at hga hda
   have HST : Abs.Hid _ := becK_step hga hb' hgu
   have HB1 : Abs.Hid (∃ b', y.body[j]? = some b' ∧ b'.terms.length = t.terms.length) := ⟨b', hb', hbt⟩
   have HB2 : Abs.Hid (∃ b', (putX u a y).body[j]? = some b' ∧ b'.terms.length = t.terms.length) := ⟨putQ u a b', by simp [putX, hb'], by simp [putQ, hbt]⟩
   have HBK : Abs.Hid _ := hbk
   have hbt2 : (k : Int) < (b'.terms.length : Int) := by omega
   have HY : Abs.Hid _ := hy
   have HYF : Abs.Hid _ := hyf
   have hyc : EItem y [sc (.bool y.out), sc (.bool y.head.nt), str y.head.pred, sl iy y.head.terms.length (y.head.terms.map str), sl jy y.body.length by'] := ⟨[sc (.bool y.head.nt), str y.head.pred, sl iy y.head.terms.length (y.head.terms.map str)], jy, by', ⟨iy, rfl⟩, hy, rfl⟩
   clear hga hgu hb' hbk hy hH
   have hV := fun σ => variable_spec u σ
   by_cases hua : u = a
   ·have hua2 : (u == a) = true := by simp [hua]
    have HN : Abs.Hid (EL EAtom y.body by' ∧ y.fits ∧ (∃ b', y.body[j]? = some b' ∧ b'.terms.length = t.terms.length) ∧ becL x j t = becK j (t.terms.drop (k + 1)) (k + 1) y) := ⟨HY.out, HYF.out, HB1.out, by rw [HBK.out, HST.out, if_pos hua]⟩
    clear hua
    repeat' (first
 |with_reducible first|apply Xa|apply Xb|(refine Xc ?_;intro κ hκ)|(apply hκ.out;clear hκ κ)|apply Xd|apply Xe|apply Xf
 |((with_reducible first|refine Xl ?_ ?_|refine Xm ?_ ?_|refine Xk ?_ ?_)<;> intro h hari<;> try exact Xp)
 |refine Xr ?_
 |exact True.intro
 |((with_reducible refine Xg ?_);refine Xj ?_)
 |(apply hκ.out;clear hκ κ))
    refine ⟨t.terms.length - (k + 1), by omega, k + 1, y, iy, jy, by', ?_⟩
    ((repeat' with_reducible refine And.intro ?_ ?_)<;> first|exact Xq|exact (HN)|exact Xs)
   ·have hua2 : (u == a) = false := by simpa using hua
    cases hv : variableB u with
    | false =>
     rw [hv] at hV
     have HN : Abs.Hid (BecR x j t y false) := ⟨HYF.out, .inr ⟨rfl, by rw [HBK.out, HST.out, if_neg hua, if_neg (by simp [hv])]⟩⟩
     clear hua
     repeat' (first
 |with_reducible first|apply Xa|apply Xb|(refine Xc ?_;intro κ hκ)|(apply hκ.out;clear hκ κ)|apply Xd|apply Xe|apply Xf
 |((with_reducible first|refine Xl ?_ ?_|refine Xm ?_ ?_|refine Xk ?_ ?_)<;> intro h hari<;> try exact Xp)
 |((with_reducible refine Xh ?_);refine Xi (hV _) ?_;rintro _ _ ⟨rfl,rfl⟩)
 |refine Xr ?_
 |exact True.intro
 |((with_reducible refine Xg ?_);refine Xj ?_)
 |(apply hκ.out;clear hκ κ))
     exact ⟨_, rfl, y, _, false, rfl, hyc, HN.out, hK.put (by omega) _⟩
    | true =>
     rw [hv] at hV
     have HN : Abs.Hid (becL x j t = becK j (t.terms.drop (k + 1)) (k + 1) (putX u a y)) := by rw [Abs.Hid, HBK.out, HST.out, if_neg hua, if_pos hv]
     clear hua
     have hPu := fun σ => rput_spec y _ u a hyc HYF.out σ
     repeat' (first
 |with_reducible first|apply Xa|apply Xb|(refine Xc ?_;intro κ hκ)|(apply hκ.out;clear hκ κ)|apply Xd|apply Xe|apply Xf
 |((with_reducible first|refine Xl ?_ ?_|refine Xm ?_ ?_|refine Xk ?_ ?_)<;> intro h hari<;> try exact Xp)
 |((with_reducible refine Xh ?_);refine Xi (hV _) ?_;rintro _ _ ⟨rfl,rfl⟩)
 |refine Xr ?_
 |exact True.intro
 |((with_reducible refine Xg ?_);refine Xj ?_)
 |(apply hκ.out;clear hκ κ))
     refine awp_mono (Q := fun e s' σ'' => e = .normal ∧ s' 1 = sc (.int .i64 j) ∧ s' 3 = ptr σ.nobj 0 ∧ s' 5 = ptr (σ.nobj + 1) 0 ∧ s' 6 = ptr (σ.nobj + 2) 0 ∧ s' 9 = sc (.int .i64 k) ∧ Keep σ σ'' ∧ σ.nobj + 3 < σ''.nobj ∧ σ''.obj (σ.nobj + 1) = [sc (.bool t.nt), str t.pred, sl it t.terms.length (t.terms.map str)] ∧ σ''.obj (σ.nobj + 2) = [sc (.bool false), sc (.bool false), str [], nilS, nilS] ∧ ∃ iz jz bz, σ''.obj σ.nobj = [sc (.bool (putX u a y).out), sc (.bool (putX u a y).head.nt), str (putX u a y).head.pred, sl iz (putX u a y).head.terms.length ((putX u a y).head.terms.map str), sl jz (putX u a y).body.length bz] ∧ EL EAtom (putX u a y).body bz) ?_ ?_
     ·refine awp_draw_h follows_mixed (fun _ => True) [8] [0, 1, 2, 3, 4, 5, 6] 2 #[true, true, true, true, true, true, true, false, false] (by kernel_rfl) (fun _ _ _ h => by cases h.1) ?_; intro κ hκ; refine Xr ?_; refine hκ.out _ ?_; clear hκ κ
      refine uany_one (i := 7) (by kernel_rfl) ?_; refine aOne_k ?_; intro κ hκ; refine Xr ?_
      refine ACalls.mono (hPu _) ?_
      rintro _ σ5 ⟨c5, rfl, hc5, hK5⟩
      obtain ⟨iz, jz, bz, hbz, rfl⟩ := hc5.cells
      unfold itemCells
      refine Xr ?_
      refine hκ.out _ _ ⟨kept_keep hK5, ?_⟩; clear hκ κ
      have kno5 := hK5.nobj
      have kob5 := hK5.obj
      have ob5 : σ5.obj σ.nobj = [sc (.bool y.out), sc (.bool y.head.nt), str y.head.pred, sl iy y.head.terms.length (y.head.terms.map str), sl jy y.body.length by'] := by rw [kob5 _ (by omega), ob0]
      refine uany_one (i := 8) (by kernel_rfl) ?_; refine aOne_k ?_; intro κ hκ; refine Xr ?_
      refine hκ.out _ _ ⟨kept_last rfl, ?_⟩; clear hκ κ
      refine uany_done (by kernel_rfl) ⟨rfl, ?_⟩
      simp only [upd, ↓reduceIte, Nat.reduceEqDiff, h1, h3, h5, h6, h9, true_and]
      refine ⟨(hK.trans hK5).put (by omega) _, by simp only [put_nobj]; omega, ?_, ?_, iz, jz, bz, ?_, hbz⟩
      ·rw [put_ne' (show σ.nobj < σ.nobj + 1 by omega), kob5 _ (by omega), ob1]
      ·rw [put_ne' (show σ.nobj < σ.nobj + 2 by omega), kob5 _ (by omega), ob2]
      ·rw [put_same]
     ·clear hK hno ob0 ob1 ob2 kno
      rintro e s' σ'' ⟨rfl, g1, g3, g5, g6, g9, hK, hno, ob1, ob2, iz, jz, bz, ob0, hbz⟩
      have HN2 : Abs.Hid (EL EAtom (putX u a y).body bz ∧ (putX u a y).fits ∧ (∃ b', (putX u a y).body[j]? = some b' ∧ b'.terms.length = t.terms.length) ∧ becL x j t = becK j (t.terms.drop (k + 1)) (k + 1) (putX u a y)) := ⟨hbz, putX_fits HYF.out, HB2.out, HN.out⟩
      repeat' (first
 |with_reducible first|apply Xa|apply Xb|(refine Xc ?_;intro κ hκ)|(apply hκ.out;clear hκ κ)|apply Xd|apply Xe|apply Xf
 |((with_reducible first|refine Xl ?_ ?_|refine Xm ?_ ?_|refine Xk ?_ ?_)<;> intro h hari<;> try exact Xp)
 |refine Xr ?_
 |exact True.intro
 |((with_reducible refine Xg ?_);refine Xj ?_)
 |(apply hκ.out;clear hκ κ))
      refine ⟨t.terms.length - (k + 1), by omega, k + 1, putX u a y, iz, jz, bz, ?_⟩
      ((repeat' with_reducible refine And.intro ?_ ?_)<;> first|exact Xq|exact (HN2)|exact Xs)
  ·have hkl : k = t.terms.length := by omega
   subst hkl
   obtain ⟨hy, hyf, -, hbk⟩ := hH.out
   have HE : EItem y [sc (.bool y.out), sc (.bool y.head.nt), str y.head.pred, sl iy y.head.terms.length (y.head.terms.map str), sl jy y.body.length by'] := ⟨[sc (.bool y.head.nt), str y.head.pred, sl iy y.head.terms.length (y.head.terms.map str)], jy, by', ⟨iy, rfl⟩, hy, rfl⟩
   rw [List.drop_length, becK] at hbk
   have HR : Abs.Hid (BecR x j t y true) := ⟨hyf, .inl ⟨rfl, hbk⟩⟩
   clear hbk hH
   repeat' (first
 |with_reducible first|apply Xa|apply Xb|(refine Xc ?_;intro κ hκ)|(apply hκ.out;clear hκ κ)|apply Xd|apply Xe|apply Xf
 |((with_reducible first|refine Xl ?_ ?_|refine Xm ?_ ?_|refine Xk ?_ ?_)<;> intro h hari<;> try exact Xp)
 |refine Xr ?_
 |exact True.intro
 |((with_reducible refine Xg ?_);refine Xj ?_)
 |(apply hκ.out;clear hκ κ))
   exact ⟨_, rfl, y, _, true, rfl, HE, HR.out, hK.put (by omega) _⟩
 ·have HBL : Abs.Hid (BecR x j t x false) := ⟨hx, .inr ⟨rfl, by unfold becL; rw [hb0]; simp only; rw [if_neg hq]⟩⟩
  by_cases q1 : t.nt = b0.nt
  ·have he1 : (t.nt == b0.nt) = true := by simp [q1]
   by_cases q2 : t.pred = b0.pred
   ·have he2 : (t.pred == b0.pred) = true := by simp [q2]
    have he3 : ((t.terms.length : Int) != (b0.terms.length : Int)) = true := by
     simp only [bne_iff_ne, ne_eq]
     intro h
     exact hq ⟨q1, q2, by omega⟩
    clear hq q1 q2 hb0
    refine acalls 74 [.cell 6 145, .tmp 7] Tryz.func257 rfl (by decide) rfl rfl (Nat.le_of_ble_eq_true rfl) ?_
    repeat' (first
 |with_reducible first|apply Xa|apply Xb|(refine Xc ?_;intro κ hκ)|(apply hκ.out;clear hκ κ)|apply Xd|apply Xe|apply Xf
 |((with_reducible first|refine Xl ?_ ?_|refine Xm ?_ ?_|refine Xk ?_ ?_)<;> intro h hari<;> try exact Xp)
 |refine Xr ?_
 |exact True.intro
 |((with_reducible refine Xg ?_);refine Xj ?_)
 |(apply hκ.out;clear hκ κ))
    exact ⟨_, rfl, x, _, false, rfl, hc0, HBL.out, by exact Xs⟩
   ·have he2 : (t.pred == b0.pred) = false := by simpa using q2
    clear hq q1 q2 hb0
    refine acalls 74 [.cell 6 145, .tmp 7] Tryz.func257 rfl (by decide) rfl rfl (Nat.le_of_ble_eq_true rfl) ?_
    repeat' (first
 |with_reducible first|apply Xa|apply Xb|(refine Xc ?_;intro κ hκ)|(apply hκ.out;clear hκ κ)|apply Xd|apply Xe|apply Xf
 |((with_reducible first|refine Xl ?_ ?_|refine Xm ?_ ?_|refine Xk ?_ ?_)<;> intro h hari<;> try exact Xp)
 |refine Xr ?_
 |exact True.intro
 |((with_reducible refine Xg ?_);refine Xj ?_)
 |(apply hκ.out;clear hκ κ))
    exact ⟨_, rfl, x, _, false, rfl, hc0, HBL.out, by exact Xs⟩
  ·have he1 : (t.nt == b0.nt) = false := by simpa using q1
   clear hq q1 hb0
   refine acalls 74 [.cell 6 145, .tmp 7] Tryz.func257 rfl (by decide) rfl rfl (Nat.le_of_ble_eq_true rfl) ?_
   repeat' (first
 |with_reducible first|apply Xa|apply Xb|(refine Xc ?_;intro κ hκ)|(apply hκ.out;clear hκ κ)|apply Xd|apply Xe|apply Xf
 |((with_reducible first|refine Xl ?_ ?_|refine Xm ?_ ?_|refine Xk ?_ ?_)<;> intro h hari<;> try exact Xp)
 |refine Xr ?_
 |exact True.intro
 |((with_reducible refine Xg ?_);refine Xj ?_)
 |(apply hκ.out;clear hκ κ))
   exact ⟨_, rfl, x, _, false, rfl, hc0, HBL.out, by exact Xs⟩
end Go.Proofs.YtmoeoppbmhfbpaaGreatDoorY
