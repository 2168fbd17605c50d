import Derived.Test.YtmoeoppbmhfbpaaGreatDoorBAbsG
/- The program's engine: the first part that has all variables of an atom, of parts that are an object's. -/
namespace Go.Proofs.YtmoeoppbmhfbpaaGreatDoorB
open Go.Abs
set_option linter.unusedSimpArgs false
set_option linter.unusedVariables false
set_option maxRecDepth 100000
def pwB (a : Atm) (p : Part) : Bool := (varsL [a]).all (hasV p.a.ts)
theorem pwB_iff {a : Atm} {p : Part} : pwB a p = true ↔ ∀ v, hasV a.ts v = true → hasV p.a.ts v = true := by
 unfold pwB
 rw [List.all_eq_true]
 constructor
 ·intro h v hv
  exact h v ((varsL_mem _ _).2 ⟨a, by simp, hasV_iff.1 hv⟩)
 ·intro h v hv
  obtain ⟨b, hb, hbv⟩ := (varsL_mem _ _).1 hv
  simp at hb
  subst hb
  exact h v (hasV_iff.2 hbv)
set_option maxHeartbeats 32000000 in
theorem epart0_spec (h0 h1 h3 : AV) (hf : ([h0, h1, h3] : List AV).all flat = true) (a : Atm) (ida : Nat) (σ : St) : ACalls Tryz.prog 211 [ag [h0, h1, nilS, h3], ag [ic a.p, sl ida a.ts.length (ecells a.ts)]] σ fun r σ' => r = ic (-1) ∧ Keep σ σ' := by
 simp only [List.all_cons, List.all_nil, Bool.and_true, Bool.and_eq_true] at hf
 obtain ⟨f0, f1, f3⟩ := hf
 refine acalls 23 [.tmp 4] Tryz.func211 rfl (by decide) rfl rfl (Nat.le_of_ble_eq_true rfl) ?_
 repeat' (first
 |with_reducible first|apply Xa|apply Xb|(refine Xc ?_;intro κ hκ)|(apply hκ.out;clear hκ κ)|apply Xd|apply Xe|apply Xf
 |((with_reducible first|refine Xl ?_ ?_|refine Xm ?_ ?_|refine Xk ?_ ?_)<;> intro h hari<;> try exact Xp)
 |refine Xr ?_
 |exact True.intro
 |((with_reducible refine Xg ?_);refine Xj ?_)
 |(apply hκ.out;clear hκ κ))
 refine awp_loop (fun m s σ' => m = 0 ∧ s 9 = ic 0 ∧ s 10 = ic 0 ∧ Keep σ σ') 0
  ⟨rfl, by simp [upd], by simp [upd], by exact Xs⟩ ?_
 rintro m s σ' ⟨rfl, h9, h10, hK⟩
 repeat' (first
 |with_reducible first|apply Xa|apply Xb|(refine Xc ?_;intro κ hκ)|(apply hκ.out;clear hκ κ)|apply Xd|apply Xe|apply Xf
 |((with_reducible first|refine Xl ?_ ?_|refine Xm ?_ ?_|refine Xk ?_ ?_)<;> intro h hari<;> try exact Xp)
 |refine Xr ?_
 |exact True.intro
 |((with_reducible refine Xg ?_);refine Xj ?_)
 |(apply hκ.out;clear hκ κ))
 first | exact ⟨_, rfl, rfl⟩ | exact ⟨_, rfl, rfl, hK⟩
set_option maxHeartbeats 32000000 in
theorem epartG_spec (h0 h1 h3 : AV) (hf : ([h0, h1, h3] : List AV).all flat = true) (L : List Part) (hL : ∀ p ∈ L, p.a.ts.length ≤ 3) (hLl : L.length ≤ 64) (o cap : Nat) (pc : List AV) (hP : EL EPt L pc) (a : Atm) (ida : Nat) (ha : a.ts.length ≤ 3) (σ : St) (ho : o < σ.nobj) (hcap : L.length ≤ cap) (hcl : (σ.obj o).length = cap * 3) (htk : (σ.obj o).take (L.length * 3) = pc) : ACalls Tryz.prog 211 [ag [h0, h1, gx o L.length cap, h3], ag [ic a.p, sl ida a.ts.length (ecells a.ts)]] σ fun r σ' => ((∃ (i : Nat) (p : Part), r = ic i ∧ L[i]? = some p ∧ pwB a p = true) ∨ (r = ic (-1) ∧ ∀ p ∈ L, pwB a p = false)) ∧ Keep σ σ' := by
 simp only [List.all_cons, List.all_nil, Bool.and_true, Bool.and_eq_true] at hf
 obtain ⟨f0, f1, f3⟩ := hf
 have hvars := fun (i : Nat) (σ : St) => evars_spec [a] [ic a.p, sl ida a.ts.length (ecells a.ts)] i (EL.single ⟨ida, rfl⟩) (by simp; exact ha) (by simp) σ
 have hvl := varsL_len (l := [a]) (by simp; exact ha)
 have HV : Abs.Hid (∀ p, pwB a p = (varsL [a]).all (hasV p.a.ts)) := fun p => rfl
 generalize varsL [a] = vs at *
 simp only [List.length_cons, List.length_nil] at hvl hvars
 have hpl := EL.length EPt_len hP
 refine acalls 23 [.tmp 4] Tryz.func211 rfl (by decide) rfl rfl (Nat.le_of_ble_eq_true rfl) ?_
 repeat' (first
 |with_reducible first|apply Xa|apply Xb|(refine Xc ?_;intro κ hκ)|(apply hκ.out;clear hκ κ)|apply Xd|apply Xe|apply Xf
 |((with_reducible first|refine Xl ?_ ?_|refine Xm ?_ ?_|refine Xk ?_ ?_)<;> intro h hari<;> try exact Xp)
 |refine Xr ?_
 |exact True.intro
 |((with_reducible refine Xg ?_);refine Xj ?_)
 |(apply hκ.out;clear hκ κ))
 refine awp_loop (fun m s σ' => ∃ i : Nat, m = L.length - i ∧ i ≤ L.length ∧ s 2 = ptr σ.nobj 0 ∧ s 3 = ptr (σ.nobj + 1) 0 ∧ s 8 = gx o L.length cap ∧ s 9 = ic L.length ∧ s 10 = ic i ∧ Keep σ σ' ∧ σ.nobj + 1 < σ'.nobj ∧ σ'.obj (σ.nobj + 1) = [ic a.p, sl ida a.ts.length (ecells a.ts)] ∧ Abs.Hid (∀ p ∈ L.take i, pwB a p = false)) L.length
  ⟨0, by omega, by omega, by simp [upd], by simp [upd], by simp [upd], by simp [upd], rfl, by exact Xs, by simp only [put_nobj, new_nobj]; omega, ?_, by simp [Abs.Hid]⟩ ?_
 ·rw [new_at (by simp only [new_nobj]; omega) (by simp only [new_nobj]; omega)]
 rintro m s σ' ⟨i, rfl, hi, h2, h3', h8, h9, h10, hK, hno, ob1, hA⟩
 have kno := hK.nobj
 by_cases hlt : i < L.length
 ·have hget := List.getElem?_eq_getElem hlt
  obtain ⟨id, idt, r, hd⟩ := EPt_get hP hget
  have hw3 := hL _ (List.getElem_mem hlt)
  generalize L[i] = w at hd hget hw3
  have oo : σ'.obj o = σ.obj o := hK.obj o ho
  have hod : (σ'.obj o).drop (i * 3) = ic w.a.p :: sl id w.a.ts.length (ecells w.a.ts) :: sl idt w.tups.length (tcs w.tups) :: (r ++ (σ.obj o).drop (L.length * 3)) := by
   rw [oo]
   conv => lhs; rw [← List.take_append_drop (L.length * 3) (σ.obj o), htk]
   rw [List.drop_append_of_le_length (by rw [hpl]; omega), hd]; rfl
  have hob : o ≠ σ'.nobj := by omega
  have HA : Abs.Hid (pwB a w = false → ∀ p ∈ L.take (i + 1), pwB a p = false) := fun hw p hp => by
   rw [List.take_add_one, hget, Option.toList_some] at hp
   rcases List.mem_append.1 hp with h | h
   ·exact hA.out p h
   ·simp at h; subst h; exact hw
  have HW : Abs.Hid (L[i]? = some w) := hget
  have hAll := fun (i : Nat) (σ : St) => ehasAll_spec w.a.p id w.a.ts vs i (by omega) (by omega) σ
  rw [← HV.out w] at hAll
  have hoi : σ'.nobj ≠ o := fun e => hob e.symm
  clear hget hA oo
  repeat' (first
 |with_reducible first|apply Xa|apply Xb|(refine Xc ?_;intro κ hκ)|(apply hκ.out;clear hκ κ)|apply Xd|apply Xe|apply Xf
 |((with_reducible first|refine Xl ?_ ?_|refine Xm ?_ ?_|refine Xk ?_ ?_)<;> intro h hari<;> try exact Xp)
 |refine Xr ?_
 |exact True.intro
 |((with_reducible refine Xg ?_);refine Xj ?_)
 |(apply hκ.out;clear hκ κ))
  have hK1 : Keep σ ((σ'.new [ic 0, nilS, nilS]).put σ'.nobj [ic w.a.p, sl id w.a.ts.length (ecells w.a.ts), sl idt w.tups.length (tcs w.tups)]) := (hK.new _).put hK.nobj _
  have kv : ∀ p, p < σ'.nobj → ((σ'.new [ic 0, nilS, nilS]).put σ'.nobj [ic w.a.p, sl id w.a.ts.length (ecells w.a.ts), sl idt w.tups.length (tcs w.tups)]).obj p = σ'.obj p := fun p hp => by rw [put_ne (by omega), new_lt (by omega)]
  generalize hσb : (σ'.new [ic 0, nilS, nilS]).put σ'.nobj [ic w.a.p, sl id w.a.ts.length (ecells w.a.ts), sl idt w.tups.length (tcs w.tups)] = σb at *
  have nb : σb.nobj = σ'.nobj + 1 := by rw [← hσb]; rfl
  have o6 : σb.obj σ'.nobj = [ic w.a.p, sl id w.a.ts.length (ecells w.a.ts), sl idt w.tups.length (tcs w.tups)] := by rw [← hσb, put_same]
  have o3 : σb.obj (σ.nobj + 1) = [ic a.p, sl ida a.ts.length (ecells a.ts)] := by rw [kv _ (by omega), ob1]
  clear hσb
  refine awp_mono (Q := fun e s' σ'' => e = .normal ∧ s' 20 = sc (.bool (pwB a w)) ∧ s' 2 = ptr σ.nobj 0 ∧ s' 3 = ptr (σ.nobj + 1) 0 ∧ s' 5 = ic i ∧ s' 8 = gx o L.length cap ∧ s' 9 = ic L.length ∧ s' 10 = ic i ∧ Keep σb σ'') ?_ ?_
  ·refine awp_draw_h follows_mixed (fun _ => True) [] [0, 1, 2] 3 #[true, true, true, false, false, false] (by kernel_rfl) (fun _ _ _ h => by cases h.1) ?_; intro κ hκ; refine Xr ?_; refine hκ.out _ ?_; clear hκ κ
   refine uany_one (i := 3) (by kernel_rfl) ?_; refine aOne_k ?_; intro κ hκ; refine Xr ?_
   refine hκ.out _ _ ⟨kept_keep ((Keep.refl _).lay 1), ?_⟩; clear hκ κ
   refine uany_one (i := 4) (by kernel_rfl) ?_; refine aOne_k ?_; intro κ hκ; refine Xr ?_
   refine ACalls.mono (hvars _ _) ?_
   rintro _ σc ⟨⟨idv, rfl⟩, hKc⟩
   have knc := hKc.nobj
   refine Xr ?_
   refine hκ.out _ _ ⟨kept_keep (((Keep.refl _).lay 1).trans hKc), ?_⟩; clear hκ κ
   refine uany_one (i := 5) (by kernel_rfl) ?_; refine aOne_k ?_; intro κ hκ; refine Xr ?_
   refine ACalls.mono (hAll _ _) ?_
   rintro _ σd ⟨rfl, hKd⟩
   refine Xr ?_
   refine hκ.out _ _ ⟨kept_keep ((((Keep.refl _).lay 1).trans hKc).trans hKd), ?_⟩; clear hκ κ
   refine uany_done (by kernel_rfl) ⟨rfl, by simp [upd, *], by simp [upd, *], by simp [upd, *], by simp [upd, *], by simp [upd, *], by simp [upd, *], by simp [upd, *], (((Keep.refl _).lay 1).trans hKc).trans hKd⟩
  ·rintro e s' σd ⟨rfl, g20, g2, g3, g5, g8, g9, g10, hKd⟩
   have hKe := hK1.trans hKd
   have knd := hKd.nobj
   have oe : σd.obj (σ.nobj + 1) = [ic a.p, sl ida a.ts.length (ecells a.ts)] := by rw [hKd.obj _ (by omega), o3]
   clear h2 h3' h8 h9 h10 h hari ob1 hd hod
   cases hpw : pwB a w with
   | true =>
    have HP : Abs.Hid (pwB a w = true) := hpw
    rw [hpw] at g20
    clear hpw
    refine awp_cond_t g20 ?_
    repeat' (first
 |with_reducible first|apply Xa|apply Xb|(refine Xc ?_;intro κ hκ)|(apply hκ.out;clear hκ κ)|apply Xd|apply Xe|apply Xf
 |((with_reducible first|refine Xl ?_ ?_|refine Xm ?_ ?_|refine Xk ?_ ?_)<;> intro h hari<;> try exact Xp)
 |refine Xr ?_
 |exact True.intro
 |((with_reducible refine Xg ?_);refine Xj ?_)
 |(apply hκ.out;clear hκ κ))
    first | exact ⟨_, rfl, .inl ⟨i, w, rfl, HW.out, HP.out⟩⟩ | exact ⟨_, rfl, .inl ⟨i, w, rfl, HW.out, HP.out⟩, hKe⟩
   | false =>
    have HA2 : Abs.Hid (∀ p ∈ L.take (i + 1), pwB a p = false) := HA.out hpw
    rw [hpw] at g20
    clear hpw HA
    refine awp_cond_f g20 ?_
    repeat' (first
 |with_reducible first|apply Xa|apply Xb|(refine Xc ?_;intro κ hκ)|(apply hκ.out;clear hκ κ)|apply Xd|apply Xe|apply Xf
 |((with_reducible first|refine Xl ?_ ?_|refine Xm ?_ ?_|refine Xk ?_ ?_)<;> intro h hari<;> try exact Xp)
 |refine Xr ?_
 |exact True.intro
 |((with_reducible refine Xg ?_);refine Xj ?_)
 |(apply hκ.out;clear hκ κ))
    refine ⟨L.length - (i + 1), by omega, i + 1, ?_⟩
    ((repeat' with_reducible refine And.intro ?_ ?_)<;> first|exact Xq|exact (HA2)|exact Xs)
 ·have hil : i = L.length := by omega
  subst hil
  rw [List.take_length] at hA
  repeat' (first
 |with_reducible first|apply Xa|apply Xb|(refine Xc ?_;intro κ hκ)|(apply hκ.out;clear hκ κ)|apply Xd|apply Xe|apply Xf
 |((with_reducible first|refine Xl ?_ ?_|refine Xm ?_ ?_|refine Xk ?_ ?_)<;> intro h hari<;> try exact Xp)
 |refine Xr ?_
 |exact True.intro
 |((with_reducible refine Xg ?_);refine Xj ?_)
 |(apply hκ.out;clear hκ κ))
  first | exact ⟨_, rfl, .inr ⟨rfl, hA.out⟩, hK⟩ | exact .inr ⟨rfl, hA.out⟩ | exact ⟨_, rfl, .inr ⟨rfl, hA.out⟩⟩
/- Parts that are an object's; and, in words, what becomes of a query while what must not be is told apart. -/
def PS (lo : Nat) (σ : St) (x : AV) (n : Nat) (pc : List AV) : Prop := (x = nilS ∧ n = 0 ∧ pc = []) ∨ ∃ o cap, x = gx o n cap ∧ 0 < n ∧ n ≤ cap ∧ (σ.obj o).length = cap * 3 ∧ (σ.obj o).take (n * 3) = pc ∧ lo ≤ o ∧ o < σ.nobj
theorem put_other {σ : St} {p o : Nat} {c : List AV} (h : o ≠ p) : (σ.put p c).obj o = σ.obj o := by simp [St.put, h]
theorem PS.flat {lo : Nat} {σ : St} {x : AV} {n : Nat} {pc : List AV} (h : PS lo σ x n pc) : flat x = true := by
 rcases h with ⟨rfl, -, -⟩ | ⟨o, cap, rfl, -⟩ <;> rfl
theorem PS.keep {lo : Nat} {σ σ' : St} {x : AV} {n : Nat} {pc : List AV} (h : PS lo σ x n pc) (k : Keep σ σ') : PS lo σ' x n pc := by
 rcases h with h | ⟨o, cap, h1, h2, h3, h4, h5, h6, h7⟩
 ·exact .inl h
 ·have := k.obj o h7
  exact .inr ⟨o, cap, h1, h2, h3, by rw [this]; exact h4, by rw [this]; exact h5, h6, Nat.lt_of_lt_of_le h7 k.nobj⟩
theorem PS.put {lo : Nat} {σ : St} {x : AV} {n : Nat} {pc : List AV} (h : PS lo σ x n pc) {p : Nat} (hp : p < lo) (c : List AV) : PS lo (σ.put p c) x n pc := by
 rcases h with h | ⟨o, cap, h1, h2, h3, h4, h5, h6, h7⟩
 ·exact .inl h
 ·have : (σ.put p c).obj o = σ.obj o := put_other (by omega)
  exact .inr ⟨o, cap, h1, h2, h3, by rw [this]; exact h4, by rw [this]; exact h5, h6, h7⟩
theorem aApp_PS {P : Program} {t : TypeId} {b : Nat} {zc : List Value} {σ0 σ : St} {id2 n lo : Nat} {x : AV} {xs ys : List AV} {K : AV → St → Prop} (ht : tez P t = some (3, b, zc)) (hzc : zc.length = 3) (hy : ys.length = 3) (hf : ys.all Abs.flat = true) (hb : (n + 1) * b ≤ 140737488355328) (hl : n + 1 ≤ 1099511627776)
  (hlo : lo ≤ σ.nobj) (h0 : σ0.nobj ≤ lo) (hK : Keep σ0 σ) (hx : PS lo σ x n xs) (h : ∀ x' σ', PS lo σ' x' (n + 1) (xs ++ ys) → σ.nobj ≤ σ'.nobj → (∀ p, p < lo → σ'.obj p = σ.obj p) → Keep σ0 σ' → K x' σ') : aApp P t t x (sl id2 1 ys) σ K := by
 refine aApp_obj (xs := xs) ht (by omega) hzc (by omega) hf (by omega) hb hl ?_ ?_ ?_
 ·rcases hx with h | ⟨o, cap, h1, h2, h3, h4, h5, -, -⟩
  ·exact .inl h
  ·exact .inr ⟨o, cap, h1, h2, h3, h4, h5⟩
 ·rintro o cap cs ⟨c0, e1, e2, rfl⟩ hcl hct
  rcases hx with ⟨rfl, -, -⟩ | ⟨o', cap', rfl, h2, h3, h4, h5, h6, h7⟩
  ·simp at e1
  ·simp at e1
   obtain ⟨rfl, rfl⟩ := e1
   refine h _ _ (.inr ⟨_, _, rfl, by omega, e2, by rw [put_same]; exact hcl, by rw [put_same]; exact hct, h6, h7⟩) (Nat.le_refl _) (fun p hp => put_other (by omega)) (hK.put (by omega) _)
 ·intro cap cs hcl hc hct
  exact h _ _ (.inr ⟨_, _, rfl, by omega, hc, by rw [new_same]; exact hcl, by rw [new_same]; exact hct, hlo, by simp only [new_nobj]; omega⟩) (by simp only [new_nobj]; omega) (fun p hp => new_lt (by omega)) (hK.new _)
theorem awp_freezeP {P : Program} {N : Nat} {c : Code} {Q : Post} {s : Sl} {σ0 σ : St} {lo p j n : Nat} {ys pc : List AV} {x : AV} (hK : Keep σ0 σ) (h0 : σ0.nobj ≤ lo) (hp0 : σ0.nobj ≤ p) (hp : p < lo) (hlo : lo ≤ σ.nobj) (hx : PS lo σ x n pc) (hy : σ.obj p = ys) (hj : ys[j]? = some x)
  (h : ∀ (ip : Nat) (σ' : St), Keep σ0 σ' → σ'.nobj = σ.nobj → σ'.obj p = ys.set j (sl ip n pc) → (∀ o, o < lo → o ≠ p → σ'.obj o = σ.obj o) → AWp P N c Q s σ') : AWp P N c Q s σ := by
 rcases hx with ⟨rfl, rfl, rfl⟩ | ⟨o, cap, rfl, h2, h3, h4, h5, h6, h7⟩
 ·refine h 1 σ hK rfl ?_ (fun _ _ _ => rfl)
  rw [hy]
  apply List.ext_getElem?
  intro i
  by_cases e : j = i
  ·subst e
   rw [List.getElem?_set_self (List.getElem?_eq_some_iff.1 hj).1, hj]
  ·rw [List.getElem?_set_ne e]
 ·refine awp_freeze (o := o) (p := p) (k := n * 3) h7 (by omega) (by omega) hy hj (by rw [h4]; omega) ?_
  rw [h5]
  exact h 0 _ ((hK.put (by omega) _).put hp0 _) rfl put_same (fun q hq hqp => by rw [put_other hqp, put_other (by omega)])
theorem lsp_take {l c : List AV} {off m : Nat} (h1 : off + c.length ≤ m) (h2 : m ≤ l.length) : (lsp l off c).take m = lsp (l.take m) off c := by
 rw [lsp_eq _ _ _ (by omega), lsp_eq _ _ _ (by rw [List.length_take]; omega), List.take_take, Nat.min_eq_left (by omega), List.drop_take, List.take_append]
 rw [List.length_append, List.length_take, Nat.min_eq_left (by omega), List.take_of_length_le (by rw [List.length_append, List.length_take]; omega)]
theorem EL_set {α : Type} {E : α → List AV → Prop} {z : Nat} (hz : ∀ a c, E a c → c.length = z) : ∀ {l : List α} {cs : List AV} {i : Nat} {a : α} {c : List AV}, EL E l cs → i < l.length → E a c → EL E (l.set i a) (lsp cs (i * z) c)
 | [], _, i, _, _, _, hi, _ => by simp at hi
 | b :: l, cs, 0, a, c, ⟨d, r, h1, h2, e⟩, hi, ha => by
  subst e
  have e1 := hz _ _ h1
  have e2 := hz _ _ ha
  refine ⟨c, r, ha, h2, ?_⟩
  rw [Nat.zero_mul, lsp_eq _ _ _ (by simp; omega)]
  simp [show c.length = d.length by omega]
 | b :: l, cs, i + 1, a, c, ⟨d, r, h1, h2, e⟩, hi, ha => by
  subst e
  have e1 := hz _ _ h1
  have e2 := hz _ _ ha
  have hr := EL.length hz h2
  have hi' : i < l.length := by simpa using hi
  have hb : i * z + z ≤ r.length := by rw [hr, ← Nat.succ_mul]; exact Nat.mul_le_mul_right _ hi'
  refine ⟨d, lsp r (i * z) c, h1, EL_set hz h2 hi' ha, ?_⟩
  rw [lsp_eq c (d ++ r) _ (by rw [List.length_append, Nat.succ_mul, e1, e2]; omega), lsp_eq c r _ (by rw [e2]; omega)]
  rw [Nat.succ_mul, ← e1, Nat.add_comm (i * d.length), List.take_length_add_append, Nat.add_assoc, List.drop_length_add_append]
  simp
theorem PS.set {lo : Nat} {σ : St} {o cap n i : Nat} {pc c : List AV} (h : PS lo σ (gx o n cap) n pc) (hi : i < n) (hc : c.length = 3) : PS lo (σ.put o (lsp (σ.obj o) (i * 3) c)) (gx o n cap) n (lsp pc (i * 3) c) := by
 rcases h with ⟨h, -, -⟩ | ⟨o', cap', e, h2, h3, h4, h5, h6, h7⟩
 ·simp at h
 ·simp at e
  obtain ⟨rfl, rfl⟩ := e
  refine .inr ⟨o, cap, rfl, h2, h3, by rw [put_same, lsp_length]; exact h4, ?_, h6, h7⟩
  rw [put_same, lsp_take (by rw [hc]; omega) (by rw [h4]; omega), h5]
theorem epart_spec (lo : Nat) (h0 h1 h3 : AV) (hf : ([h0, h1, h3] : List AV).all flat = true) (L : List Part) (hL : ∀ p ∈ L, p.a.ts.length ≤ 3) (hLl : L.length ≤ 64) (X : AV) (pc : List AV) (hP : EL EPt L pc) (a : Atm) (ida : Nat) (ha : a.ts.length ≤ 3) (σ : St) (hX : PS lo σ X L.length pc) : ACalls Tryz.prog 211 [ag [h0, h1, X, h3], ag [ic a.p, sl ida a.ts.length (ecells a.ts)]] σ fun r σ' => ((∃ (i : Nat) (p : Part), r = ic i ∧ L[i]? = some p ∧ pwB a p = true) ∨ (r = ic (-1) ∧ ∀ p ∈ L, pwB a p = false)) ∧ Keep σ σ' := by
 rcases hX with ⟨rfl, hn, -⟩ | ⟨o, cap, rfl, h2, hc, h4, h5, h6, h7⟩
 ·refine ACalls.mono (epart0_spec h0 h1 h3 hf a ida σ) ?_
  rintro r σ' ⟨rfl, hK⟩
  have : L = [] := List.eq_nil_of_length_eq_zero hn
  subst this
  exact ⟨.inr ⟨rfl, by simp⟩, hK⟩
 ·exact epartG_spec h0 h1 h3 hf L hL hLl o cap pc hP a ida ha σ h7 hc h4 h5
structure RdS (neg : Int → Tup → Prop) (q : Qry) (k : Nat) (L : List Part) (Nn : List Atm) : Prop where
 atm : L.map (·.a) = q.parts.map (·.a)
 sub : ∀ p ∈ L, ∃ p0 ∈ q.parts, p.a = p0.a ∧ p.tups.Sublist p0.tups
 nsub : Nn.Sublist (q.nots.take k)
 uns : ∀ a ∈ Nn, setl a.ts = false
 sol : ∀ ν, ((∀ p ∈ q.parts, esub p.a ν ∈ p.tups) ∧ ∀ a ∈ q.nots.take k, ¬ neg a.p (esub a ν)) ↔ ((∀ p ∈ L, esub p.a ν ∈ p.tups) ∧ ∀ a ∈ Nn, ¬ neg a.p (esub a ν))
theorem RdS.start (neg : Int → Tup → Prop) (q : Qry) : RdS neg q 0 q.parts [] :=
 ⟨rfl, fun p hp => ⟨p, hp, rfl, List.Sublist.refl _⟩, by simp, by simp, fun ν => by simp⟩
theorem take_snoc {α : Type} {l : List α} {k : Nat} {a : α} (h : l[k]? = some a) : l.take (k + 1) = l.take k ++ [a] := by rw [List.take_add_one, h, Option.toList_some]
theorem RdS.keepN {neg : Int → Tup → Prop} {q : Qry} {k : Nat} {L : List Part} {Nn : List Atm} {a : Atm} (h : RdS neg q k L Nn) (ha : q.nots[k]? = some a) (hs : setl a.ts = false) : RdS neg q (k + 1) L (Nn ++ [a]) := by
 refine ⟨h.atm, h.sub, by rw [take_snoc ha]; exact h.nsub.append (List.Sublist.refl _), fun b hb => ?_, fun ν => ?_⟩
 ·rcases List.mem_append.1 hb with hb | hb
  ·exact h.uns b hb
  ·simp at hb; subst hb; exact hs
 ·have := h.sol ν
  rw [take_snoc ha]
  simp only [List.mem_append, List.mem_singleton, or_imp, forall_and, forall_eq]
  rw [← and_assoc, this, and_assoc]
theorem RdS.drop {neg : Int → Tup → Prop} {q : Qry} {k : Nat} {L : List Part} {Nn : List Atm} {a : Atm} (h : RdS neg q k L Nn) (ha : q.nots[k]? = some a) (hs : ∀ ν, ¬ neg a.p (esub a ν)) : RdS neg q (k + 1) L Nn := by
 refine ⟨h.atm, h.sub, by rw [take_snoc ha]; exact h.nsub.trans (List.sublist_append_left _ _), h.uns, fun ν => ?_⟩
 have := h.sol ν
 rw [take_snoc ha]
 simp only [List.mem_append, List.mem_singleton, or_imp, forall_and, forall_eq]
 rw [← and_assoc, this]
 exact and_iff_left (hs ν)
theorem RdS.bar {neg : Int → Tup → Prop} {q : Qry} {k i : Nat} {L : List Part} {Nn : List Atm} {a : Atm} {p : Part} {l : List Tup} (h : RdS neg q k L Nn) (ha : q.nots[k]? = some a) (hp : L[i]? = some p) (h3 : p.a.ts.length ≤ 3) (hw : pwB a p = true) (hn : ∀ t, neg a.p t ↔ t ∈ l) : RdS neg q (k + 1) (L.set i (barP l a p)) Nn := by
 have hi := (List.getElem?_eq_some_iff.1 hp).1
 have hpm := List.mem_of_getElem? hp
 refine ⟨?_, fun p' hp' => ?_, by rw [take_snoc ha]; exact h.nsub.trans (List.sublist_append_left _ _), h.uns, fun ν => ?_⟩
 ·rw [← h.atm]
  apply List.ext_getElem?
  intro n
  rw [List.getElem?_map, List.getElem?_map]
  by_cases e : i = n
  ·subst e
   rw [List.getElem?_set_self hi, hp]; rfl
  ·rw [List.getElem?_set_ne e]
 ·rcases List.mem_or_eq_of_mem_set hp' with h1 | rfl
  ·exact h.sub p' h1
  ·obtain ⟨p0, g1, g2, g3⟩ := h.sub p hpm
   exact ⟨p0, g1, g2, List.filter_sublist.trans g3⟩
 ·have hs := h.sol ν
  rw [take_snoc ha]
  simp only [List.mem_append, List.mem_singleton, or_imp, forall_and, forall_eq]
  rw [← and_assoc, hs, hn]
  have hb := bar_mem (l := l) (a := a) (p := p) (ν := ν) h3 (pwB_iff.1 hw)
  have hL : (∀ p' ∈ L.set i (barP l a p), esub p'.a ν ∈ p'.tups) ↔ (∀ p' ∈ L, esub p'.a ν ∈ p'.tups) ∧ esub a ν ∉ l := by
   constructor
   ·intro g
    have g1 := hb.1 (g (barP l a p) (List.mem_set hi _))
    refine ⟨fun p' hp' => ?_, g1.2⟩
    obtain ⟨n, hn'⟩ := List.getElem?_of_mem hp'
    by_cases e : i = n
    ·subst e
     rw [hp] at hn'
     cases hn'
     exact g1.1
    ·exact g p' (List.mem_of_getElem? (by rw [List.getElem?_set_ne e]; exact hn'))
   ·rintro ⟨g1, g2⟩ p' hp'
    rcases List.mem_or_eq_of_mem_set hp' with h1 | rfl
    ·exact g1 p' h1
    ·exact hb.2 ⟨g1 p hpm, g2⟩
  rw [hL]
  constructor
  ·rintro ⟨⟨x, y⟩, z⟩; exact ⟨⟨x, z⟩, y⟩
  ·rintro ⟨⟨x, z⟩, y⟩; exact ⟨⟨x, y⟩, z⟩
end Go.Proofs.YtmoeoppbmhfbpaaGreatDoorB
