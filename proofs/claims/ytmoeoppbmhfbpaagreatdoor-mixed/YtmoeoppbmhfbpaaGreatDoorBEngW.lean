import Derived.Test.YtmoeoppbmhfbpaaGreatDoorBNegB
/- The program's engine: a query reduced. -/
namespace Go.Proofs.YtmoeoppbmhfbpaaGreatDoorB
open Go.Abs
set_option linter.unusedSimpArgs false
set_option linter.unusedVariables false
set_option maxRecDepth 100000
structure QAll (q : Qry) : Prop where
 ok : QOk q
 n : QN q
 w : WP q
 wf : WFv q
theorem TrimR.ok {q q' : Qry} (h : TrimR q q') (hq : QOk q) : QOk q' ∧ q'.nots = q.nots ∧ ∀ p ∈ q'.parts, p ∈ q.parts := by
 induction h with
 | refl => exact ⟨hq, rfl, fun p hp => hp⟩
 | tail h ih => exact ⟨trim1_ok ih.1, ih.2.1, fun p hp => ih.2.2 p (List.mem_of_mem_eraseP hp)⟩
theorem wfv_nar {q q' : Qry} (h : NarS q q') (hw : WFv q) : WFv q' := fun v hv => by
 obtain ⟨e1, e2, e3⟩ := h.atoms
 rw [e2, e3] at hv
 obtain ⟨p, hp, hpv⟩ := hw v hv
 have : p.a ∈ q'.parts.map (·.a) := by rw [e1]; exact List.mem_map.2 ⟨p, hp, rfl⟩
 obtain ⟨p', h1, h2⟩ := List.mem_map.1 this
 exact ⟨p', h1, by rw [h2]; exact hpv⟩
theorem RdS.fin {neg : Int → Tup → Prop} {q : Qry} {L : List Part} {Nn : List Atm} (h : RdS neg q q.nots.length L Nn) (hA : QAll q) : QAll ⟨q.head, L, Nn⟩ ∧ Red neg q ⟨q.head, L, Nn⟩ := by
 have hns : ∀ a ∈ Nn, a ∈ q.nots := fun a ha => by
  have := h.nsub.subset ha
  rwa [List.take_length] at this
 have hsol := h.sol
 rw [List.take_length] at hsol
 have hat : ∀ p ∈ q.parts, ∃ p' ∈ L, p'.a = p.a := fun p hp => by
  have : p.a ∈ L.map (·.a) := by rw [h.atm]; exact List.mem_map.2 ⟨p, hp, rfl⟩
  obtain ⟨p', h1, h2⟩ := List.mem_map.1 this
  exact ⟨p', h1, h2⟩
 refine ⟨⟨⟨hA.ok.hd, ?_, ?_, fun p hp => ?_, fun p hp => ?_, fun p hp => ?_, fun a ha => hA.ok.na a (hns a ha)⟩, fun p hp t ht => ?_, fun p hp => ?_, fun v hv => ?_⟩, rfl, fun a ha => ?_, fun ν hν => (hsol ν).1 hν, fun ν hν => ⟨ν, (hsol ν).2 hν, fun _ _ => rfl⟩⟩
 ·have := congrArg List.length h.atm
  simp at this
  rw [this]; exact hA.ok.pl
 ·have := h.nsub.length_le
  rw [List.take_length] at this
  exact Nat.le_trans this hA.ok.nl
 ·obtain ⟨p0, g1, g2, g3⟩ := h.sub p hp; rw [g2]; exact hA.ok.pa p0 g1
 ·obtain ⟨p0, g1, g2, g3⟩ := h.sub p hp; exact Nat.le_trans g3.length_le (hA.ok.pt p0 g1)
 ·obtain ⟨p0, g1, g2, g3⟩ := h.sub p hp; exact fun t ht => hA.ok.p3 p0 g1 t (g3.subset ht)
 ·obtain ⟨p0, g1, g2, g3⟩ := h.sub p hp; rw [g2]; exact hA.n p0 g1 t (g3.subset ht)
 ·obtain ⟨p0, g1, g2, g3⟩ := h.sub p hp; rw [g2]; exact ⟨(hA.w p0 g1).1, fun t ht => (hA.w p0 g1).2 t (g3.subset ht)⟩
 ·obtain ⟨p, hp, hpv⟩ := hA.wf v (by
   rcases hv with hv | ⟨a, ha, hv⟩
   ·exact .inl hv
   ·exact .inr ⟨a, hns a ha, hv⟩)
  obtain ⟨p', h1, h2⟩ := hat p hp
  exact ⟨p', h1, by rw [h2]; exact hpv⟩
 ·unfold atomsQ at ha ⊢
  simp only [List.mem_cons, List.mem_append] at ha ⊢
  rcases ha with ha | ha | ha
  ·exact .inl ha
  ·rw [h.atm] at ha; exact .inr (.inl ha)
  ·exact .inr (.inr (hns a ha))
theorem PS.gx {lo : Nat} {σ : St} {x : AV} {n : Nat} {pc : List AV} (h : PS lo σ x n pc) (hn : 0 < n) : ∃ o cap, x = Abs.gx o n cap ∧ lo ≤ o ∧ o < σ.nobj ∧ (σ.obj o).length = cap * 3 ∧ n ≤ cap ∧ (σ.obj o).take (n * 3) = pc := by
 rcases h with ⟨-, h, -⟩ | ⟨o, cap, h1, h2, h3, h4, h5, h6, h7⟩
 ·omega
 ·exact ⟨o, cap, h1, h6, h7, h4, h3, h5⟩
def NegOk (neg : Int → Tup → Prop) (M : MM) (q : Qry) : Prop := ∀ a ∈ q.nots, ∃ (k : Nat) (x : Nat × List Tup), a.p = (k : Int) ∧ M[k]? = some x ∧ ∀ t, neg a.p t ↔ t ∈ x.2
def RedA (neg : Int → Tup → Prop) (q : Qry) (x : AV) : Prop := ∃ c', (x = tp [ag c', sc (.bool false)] ∧ c'.length = 4 ∧ c'.all flat = true ∧ ∀ ν, ¬ Sol neg q ν) ∨ ∃ q', x = tp [ag c', sc (.bool true)] ∧ EQ q' c' ∧ QAll q' ∧ NE q' ∧ Red neg q q' ∧ ∀ a ∈ q'.nots, a ∈ q.nots ∧ setl a.ts = false
set_option maxHeartbeats 64000000 in
theorem ered_spec (neg : Int → Tup → Prop) (q : Qry) (c : List AV) (om ot : Nat) (M : MM) (d b : Int) (hc : EQ q c) (hA : QAll q) (hNg : NegOk neg M q) (σ : St) (hM : MOb σ om ot M d b) : ACalls Tryz.prog 169 [ptr om 0, ag c] σ fun r σ' => RedA neg q r ∧ Keep σ σ' := by
 obtain ⟨ih, ip, inn, pc, nc, rfl, hP, hNn⟩ := hc
 have hpl := EL.length EPt_len hP
 have hnl := EL.length EAt_len hNn
 have hl := hA.ok.pl
 have hl2 := hA.ok.nl
 have hna := hA.ok.na
 have HM : Abs.Hid (MOb σ om ot M d b) := hM
 clear hM
 refine acalls 86 [.cell 4 182, .tmp 5] Tryz.func169 rfl (by decide) rfl rfl (Nat.le_of_ble_eq_true rfl) ?_
 repeat' (first
 |with_reducible first|apply Xa|apply Xb|(refine Xc ?_;intro κ hκ)|(apply hκ.out;clear hκ κ)|apply Xd|apply Xe|apply Xf
 |((with_reducible first|refine Xl ?_ ?_|refine Xm ?_ ?_|refine Xk ?_ ?_)<;> intro h hari<;> try exact Xp)
 |((with_reducible refine aapp_go ?_);refine Xt ?_;intro idn σn hOn hKn eobj enobj ever entop)
 |((with_reducible refine aappn_go ?_);refine Xu ?_)
 |refine Xr ?_
 |exact True.intro
 |((with_reducible refine Xg ?_);refine Xj ?_)
 |(apply hκ.out;clear hκ κ))
 refine awp_loop (fun m s σ' => ∃ (i : Nat) (X : AV) (xs : List AV), m = q.parts.length - i ∧ i ≤ q.parts.length ∧ s 0 = ptr om 0 ∧ s 3 = ptr σ.nobj 0 ∧ s 4 = ptr (σ.nobj + 1) 0 ∧ s 6 = ptr (σ.nobj + 2) 0 ∧ s 18 = sl ip q.parts.length pc ∧ s 19 = ic q.parts.length ∧ s 20 = ic i ∧ Keep σ σ' ∧ σ.nobj + 2 < σ'.nobj ∧ σ'.obj σ.nobj = [ic q.head.p, sl ih q.head.ts.length (ecells q.head.ts), sl ip q.parts.length pc, sl inn q.nots.length nc] ∧ σ'.obj (σ.nobj + 1) = [ic 0, nilS, nilS, nilS] ∧ σ'.obj (σ.nobj + 2) = [ic q.head.p, sl ih q.head.ts.length (ecells q.head.ts), X, nilS] ∧ PS (σ.nobj + 3) σ' X i xs ∧ Abs.Hid (EL EPt (q.parts.take i) xs)) q.parts.length
  ⟨0, nilS, [], by omega, by omega, by simp [upd, initS], by simp [upd], by simp [upd], by simp [upd], by simp [upd], by simp [upd], rfl, by exact Xs, by simp only [put_nobj, new_nobj]; omega, ?_, ?_, ?_, .inl ⟨rfl, rfl, rfl⟩, rfl⟩ ?_
 ·rw [put_ne (by omega), new_lt (by simp only [new_nobj]; omega), new_lt (by simp only [new_nobj]; omega), new_same]
 ·rw [put_ne (by omega), new_lt (by simp only [new_nobj]; omega), new_at (by simp only [new_nobj]; omega) (by simp only [new_nobj]; omega)]
 ·rw [show σ.nobj + 2 = σ.nobj + 1 + 1 from rfl, put_same]
 rintro m s σ' ⟨i, X, xs, rfl, hi, h0, h3, h4, h6, h18, h19, h20, hK, hno, ob0, ob1, ob2, hX, hE⟩
 have kno := hK.nobj
 have hfX := hX.flat
 by_cases hlt : i < q.parts.length
 ·have hget := List.getElem?_eq_getElem hlt
  obtain ⟨id, idt, r, hd⟩ := EPt_get hP hget
  generalize q.parts[i] = w at hd hget
  have HX : Abs.Hid (EL EPt (q.parts.take (i + 1)) (xs ++ [ic w.a.p, sl id w.a.ts.length (ecells w.a.ts), sl idt w.tups.length (tcs w.tups)])) := by
   rw [Abs.Hid, List.take_add_one, hget, Option.toList_some]
   exact EL.append hE.out (EL.single ⟨id, idt, rfl⟩)
  clear hget hE
  repeat' (first
 |with_reducible first|apply Xa|apply Xb|(refine Xc ?_;intro κ hκ)|(apply hκ.out;clear hκ κ)|apply Xd|apply Xe|apply Xf
 |((with_reducible first|refine Xl ?_ ?_|refine Xm ?_ ?_|refine Xk ?_ ?_)<;> intro h hari<;> try exact Xp)
 |((with_reducible refine aapp_go ?_);refine Xt ?_;intro idn σn hOn hKn eobj enobj ever entop)
 |((with_reducible refine aappn_go ?_);refine Xu ?_)
 |refine Xr ?_
 |exact True.intro
 |((with_reducible refine Xg ?_);refine Xj ?_)
 |(apply hκ.out;clear hκ κ))
  refine aApp_PS (lo := σ.nobj + 3) (σ0 := σ) (by first | exact tez_69 | exact tez_180) (by rfl) (by rfl) (by rfl) (by omega) (by omega) (by simp only [lay_nobj, put_nobj, new_nobj]; omega) (by omega) (((hK.new _).put hK.nobj _).lay 1) (hX.keep ((((Keep.refl _).new _).put (Nat.le_refl _) _).lay 1)) ?_
  intro X' σn hX' hn' hob' hKn
  simp only [lay_nobj, put_nobj, new_nobj] at hn'
  have eob : ∀ p, p < σ.nobj + 3 → σn.obj p = σ'.obj p := fun p hp => by rw [hob' p hp, lay_obj, put_ne (by omega), new_lt (by omega)]
  obtain ⟨og, cg, rfl, -⟩ := hX'.gx (by omega)
  clear hob' hX
  refine Xr ?_
  repeat' (first
 |with_reducible first|apply Xa|apply Xb|(refine Xc ?_;intro κ hκ)|(apply hκ.out;clear hκ κ)|apply Xd|apply Xe|apply Xf
 |((with_reducible first|refine Xl ?_ ?_|refine Xm ?_ ?_|refine Xk ?_ ?_)<;> intro h hari<;> try exact Xp)
 |((with_reducible refine aapp_go ?_);refine Xt ?_;intro idn σn hOn hKn eobj enobj ever entop)
 |((with_reducible refine aappn_go ?_);refine Xu ?_)
 |refine Xr ?_
 |exact True.intro
 |((with_reducible refine Xg ?_);refine Xj ?_)
 |(apply hκ.out;clear hκ κ))
  refine ⟨q.parts.length - (i + 1), by omega, i + 1, gx og (i + 1) cg, xs ++ [ic w.a.p, sl id w.a.ts.length (ecells w.a.ts), sl idt w.tups.length (tcs w.tups)], ?_⟩
  ((repeat' with_reducible refine And.intro ?_ ?_)<;> first|exact Xq|exact (hKn.put (by omega) _)|exact (hX'.put (by omega) _)|exact (HX)|exact Xs)
 ·have hil : i = q.parts.length := by omega
  subst hil
  rw [List.take_length] at hE
  have hPa := hA.ok.pa
  have hPt := hA.ok.pt
  have hP3 := hA.ok.p3
  have hst : Abs.Hid (EL EPt q.parts xs ∧ EL EAt [] [] ∧ RdS neg q 0 q.parts []) := ⟨hE.out, rfl, RdS.start neg q⟩
  clear hE hi
  repeat' (first
 |with_reducible first|apply Xa|apply Xb|(refine Xc ?_;intro κ hκ)|(apply hκ.out;clear hκ κ)|apply Xd|apply Xe|apply Xf
 |((with_reducible first|refine Xl ?_ ?_|refine Xm ?_ ?_|refine Xk ?_ ?_)<;> intro h hari<;> try exact Xp)
 |((with_reducible refine aapp_go ?_);refine Xt ?_;intro idn σn hOn hKn eobj enobj ever entop)
 |((with_reducible refine aappn_go ?_);refine Xu ?_)
 |refine Xr ?_
 |exact True.intro
 |((with_reducible refine Xg ?_);refine Xj ?_)
 |(apply hκ.out;clear hκ κ))
  refine awp_loop (fun m s σ' => ∃ (k i4 : Nat) (X : AV) (L : List Part) (Nn : List Atm) (xs nxs : List AV), m = q.nots.length - k ∧ k ≤ q.nots.length ∧ s 0 = ptr om 0 ∧ s 4 = ptr (σ.nobj + 1) 0 ∧ s 6 = ptr (σ.nobj + 2) 0 ∧ s 32 = sl inn q.nots.length nc ∧ s 33 = ic q.nots.length ∧ s 34 = ic k ∧ Keep σ σ' ∧ σ.nobj + 2 < σ'.nobj ∧ σ'.obj (σ.nobj + 1) = [ic 0, nilS, nilS, nilS] ∧ σ'.obj (σ.nobj + 2) = [ic q.head.p, sl ih q.head.ts.length (ecells q.head.ts), X, sl i4 Nn.length nxs] ∧ PS (σ.nobj + 3) σ' X L.length xs ∧ Own σ σ' i4 Nn.length ∧ nxs.length = Nn.length * 2 ∧ Nn.length ≤ k ∧ L.length ≤ 64 ∧ Abs.Hid (EL EPt L xs ∧ EL EAt Nn nxs ∧ RdS neg q k L Nn)) q.nots.length
   ⟨0, 1, X, q.parts, [], xs, [], by omega, by omega, by simp [upd, *], by simp [upd, *], by simp [upd, *], by simp [upd, *], by simp [upd, *], by simp [upd], hK, hno, ob1, ob2, hX, Own.nil _ _, by simp, by simp, hl, hst⟩ ?_
  clear h0 h3 h4 h6 h18 h19 h20 hK hno ob0 ob1 ob2 hX hfX kno hlt hst
  rintro m s σ' ⟨k, i4, X, L, Nn, xs, nxs, rfl, hk, h0, h4, h6, h32, h33, h34, hK, hno, ob1, ob2, hX, hO, hnx, hNk, hLl, hS⟩
  have kno := hK.nobj
  have hfX := hX.flat
  by_cases hlt : k < q.nots.length
  ·have hget := List.getElem?_eq_getElem hlt
   obtain ⟨ida, r, hd⟩ := EAt_get hNn hget
   have hmem := List.getElem_mem hlt
   have ha3 := hna _ hmem
   obtain ⟨ka, x, hka, hx, hng⟩ := hNg _ hmem
   generalize q.nots[k] = a at hd hget hmem ha3 hka hng
   have hL3 : ∀ p ∈ L, p.a.ts.length ≤ 3 ∧ p.tups.length ≤ 5000 ∧ T3 p.tups := fun p hp => by
    obtain ⟨p0, g1, g2, g3⟩ := hS.out.2.2.sub p hp
    exact ⟨by rw [g2]; exact hPa p0 g1, Nat.le_trans g3.length_le (hPt p0 g1), fun t ht => hP3 p0 g1 t (g3.subset ht)⟩
   have HG : Abs.Hid (q.nots[k]? = some a ∧ a ∈ q.nots ∧ a.p = (ka : Int) ∧ M[ka]? = some x ∧ ∀ t, neg a.p t ↔ t ∈ x.2) := ⟨hget, hmem, hka, hx, hng⟩
   have hPt := fun (σ1 : St) (hh : PS (σ.nobj + 3) σ1 X L.length xs) => epart_spec (σ.nobj + 3) (ic q.head.p) (sl ih q.head.ts.length (ecells q.head.ts)) (sl i4 Nn.length nxs) rfl L (fun p hp => (hL3 p hp).1) hLl X xs hS.out.1 a ida ha3 σ1 hh
   have hStl := fun (σ1 : St) => esettled_spec a.p ida a.ts (by omega) σ1
   have hHs := fun (σ1 : St) (hh : Keep σ σ1) => ehasM_spec om ot M d b a ida ka x ha3 hka hx σ1 (HM.out.keep hh)
   have hBar := fun (p : Part) (idp idtp : Nat) (g1 : p.a.ts.length ≤ 3) (g2 : p.tups.length ≤ 5000) (g3 : T3 p.tups) (σ1 : St) (hh : Keep σ σ1) => ebarred_spec om ot M d b p a idp idtp ida ka x g1 g2 g3 ha3 hka hx σ1 (HM.out.keep hh)
   have HBar : Abs.Hid _ := hBar
   clear hget hmem hka hx hng hBar
   repeat' (first
 |with_reducible first|apply Xa|apply Xb|(refine Xc ?_;intro κ hκ)|(apply hκ.out;clear hκ κ)|apply Xd|apply Xe|apply Xf
 |((with_reducible first|refine Xl ?_ ?_|refine Xm ?_ ?_|refine Xk ?_ ?_)<;> intro h hari<;> try exact Xp)
 |((with_reducible refine aapp_go ?_);refine Xt ?_;intro idn σn hOn hKn eobj enobj ever entop)
 |((with_reducible refine aappn_go ?_);refine Xu ?_)
 |((with_reducible refine Xh ?_);refine Xi (hPt _ (hX.keep (((Keep.refl _).new _).put (Nat.le_refl _) _))) ?_;rintro _ _ ⟨(⟨i,p,rfl,hp,hpw⟩|⟨rfl,hpn⟩),hK2⟩)
 |refine Xr ?_
 |exact True.intro
 |((with_reducible refine Xg ?_);refine Xj ?_)
 |(apply hκ.out;clear hκ κ))
   ·rename_i σ2
    have kno2 := hK2.nobj
    have kob2 := hK2.obj
    simp only [put_nobj, new_nobj] at kno2 kob2
    have hK3 := ((hK.new _).put hK.nobj _).trans hK2
    have o10 := kob2 σ'.nobj (by omega)
    rw [put_same] at o10
    have hi : i < L.length := (List.getElem?_eq_some_iff.1 hp).1
    obtain ⟨hp3, hpt5, hpT⟩ := hL3 p (List.mem_of_getElem? hp)
    have hX2 := (hX.keep (((Keep.refl _).new _).put (Nat.le_refl _) _)).keep hK2
    obtain ⟨o, cap, rfl, hlo, hhi, hcl, hcn, htk⟩ := hX2.gx (by omega)
    obtain ⟨idp, idtp, rp, hdp⟩ := EPt_get hS.out.1 hp
    have hxl := EL.length EPt_len hS.out.1
    have hod : (σ2.obj o).drop (i * 3) = ic p.a.p :: sl idp p.a.ts.length (ecells p.a.ts) :: sl idtp p.tups.length (tcs p.tups) :: (rp ++ (σ2.obj o).drop (L.length * 3)) := by
     conv => lhs; rw [← List.take_append_drop (L.length * 3) (σ2.obj o), htk]
     rw [List.drop_append_of_le_length (by rw [hxl]; omega), hdp]; rfl
    have o6 : σ2.obj (σ.nobj + 2) = [ic q.head.p, sl ih q.head.ts.length (ecells q.head.ts), gx o L.length cap, sl i4 Nn.length nxs] := by rw [kob2 _ (by omega), put_ne (by omega), new_lt (by omega), ob2]
    have o4 : σ2.obj (σ.nobj + 1) = [ic 0, nilS, nilS, nilS] := by rw [kob2 _ (by omega), put_ne (by omega), new_lt (by omega), ob1]
    have hO2 : Own σ σ2 i4 Nn.length := Own.keep (Own.put (Own.new hO _) _ _) hK2
    have hBr := HBar.out p idp idtp hp3 hpt5 hpT
    have HS2 : Abs.Hid (∀ idn, EL EPt (L.set i (barP x.2 a p)) (lsp xs (i * 3) [ic p.a.p, sl idp p.a.ts.length (ecells p.a.ts), sl idn (barP x.2 a p).tups.length (tcs (barP x.2 a p).tups)]) ∧ EL EAt Nn nxs ∧ RdS neg q (k + 1) (L.set i (barP x.2 a p)) Nn) := fun idn => ⟨EL_set EPt_len hS.out.1 hi ⟨idp, idn, rfl⟩, hS.out.2.1, hS.out.2.2.bar HG.out.1 hp hp3 hpw HG.out.2.2.2.2⟩
    have hi3 : i * 3 + 3 ≤ cap * 3 := by omega
    have hon : o ≠ σ.nobj + 2 := by omega
    have hon1 : o ≠ σ.nobj + 1 := by omega
    clear htk hdp hxl HBar hS ob1 ob2 hX hPt hStl hHs kob2 hK hno hO hpw hp h hari
    generalize barP x.2 a p = bp at *
    refine awp_mono (Q := fun e s' σ'' => e = .normal ∧ s' 0 = ptr om 0 ∧ s' 4 = ptr (σ.nobj + 1) 0 ∧ s' 6 = ptr (σ.nobj + 2) 0 ∧ s' 32 = sl inn q.nots.length nc ∧ s' 33 = ic q.nots.length ∧ s' 34 = ic k ∧ Keep σ σ'' ∧ σ.nobj + 2 < σ''.nobj ∧ σ''.obj (σ.nobj + 1) = [ic 0, nilS, nilS, nilS] ∧ σ''.obj (σ.nobj + 2) = [ic q.head.p, sl ih q.head.ts.length (ecells q.head.ts), gx o L.length cap, sl i4 Nn.length nxs] ∧ Own σ σ'' i4 Nn.length ∧ ∃ idn, PS (σ.nobj + 3) σ'' (gx o L.length cap) L.length (lsp xs (i * 3) [ic p.a.p, sl idp p.a.ts.length (ecells p.a.ts), sl idn bp.tups.length (tcs bp.tups)])) ?_ ?_
    ·refine awp_draw_h follows_mixed (fun _ => True) [12] [0, 1, 2, 3, 4, 5, 6, 7, 8, 9] 3 #[true, true, true, true, true, true, true, true, true, true, false, false, false] (by kernel_rfl) (fun _ _ _ h => by cases h.1) ?_; intro κ hκ; refine Xr ?_; refine hκ.out _ ?_; clear hκ κ
     refine uany_one (i := 10) (by kernel_rfl) ?_; refine aOne_k ?_; intro κ hκ; refine Xr ?_
     refine ACalls.mono (hBr _ hK3) ?_
     rintro _ σ5 ⟨⟨idn, rfl⟩, hK5⟩
     have knb := hK5.nobj
     have kob := hK5.obj
     have hcl5 : (σ5.obj o).length = cap * 3 := by rw [kob o hhi, hcl]
     refine Xr ?_
     refine hκ.out _ _ ⟨kept_keep hK5, ?_⟩; clear hκ κ
     refine uany_one (i := 11) (by kernel_rfl) ?_; refine aOne_k ?_; intro κ hκ; refine Xr ?_
     refine hκ.out _ _ ⟨kept_keep hK5, ?_⟩; clear hκ κ
     refine uany_one (i := 12) (by kernel_rfl) ?_; refine aOne_k ?_; intro κ hκ; refine Xr ?_
     refine hκ.out _ _ ⟨kept_last rfl, ?_⟩; clear hκ κ
     refine uany_done (by kernel_rfl) ⟨rfl, by simp [upd, *], by simp [upd, *], by simp [upd, *], by simp [upd, *], by simp [upd, *], by simp [upd, *], (hK3.trans hK5).put (by omega) _, by simp only [put_nobj]; omega, by rw [put_other hon1.symm, kob _ (by omega), o4], by rw [put_other hon.symm, kob _ (by omega), o6], Own.put (Own.keep hO2 hK5) _ _, idn, by rw [← kob o hhi]; exact PS.set (c := [ic p.a.p, sl idp p.a.ts.length (ecells p.a.ts), sl idn bp.tups.length (tcs bp.tups)]) (hX2.keep hK5) hi rfl⟩
    ·rintro e s2 σ3 ⟨rfl, g0, g4, g6, g32, g33, g34, hKc, hnc, oc1, oc2, hOc, idn, hPc⟩
     have HS3 := HS2.out idn
     have HS4 : Abs.Hid _ := HS3
     clear h0 h4 h6 h32 h33 h34 hX2 hO2 o6 o4 hod HS2 HS3 hBr hcl o10
     repeat' (first
 |with_reducible first|apply Xa|apply Xb|(refine Xc ?_;intro κ hκ)|(apply hκ.out;clear hκ κ)|apply Xd|apply Xe|apply Xf
 |((with_reducible first|refine Xl ?_ ?_|refine Xm ?_ ?_|refine Xk ?_ ?_)<;> intro h hari<;> try exact Xp)
 |((with_reducible refine aapp_go ?_);refine Xt ?_;intro idn σn hOn hKn eobj enobj ever entop)
 |((with_reducible refine aappn_go ?_);refine Xu ?_)
 |refine Xr ?_
 |exact True.intro
 |((with_reducible refine Xg ?_);refine Xj ?_)
 |(apply hκ.out;clear hκ κ))
     refine ⟨q.nots.length - (k + 1), by omega, k + 1, i4, gx o L.length cap, L.set i bp, Nn, lsp xs (i * 3) [ic p.a.p, sl idp p.a.ts.length (ecells p.a.ts), sl idn bp.tups.length (tcs bp.tups)], nxs, ?_⟩
     ((repeat' with_reducible refine And.intro ?_ ?_)<;> first|exact Xq|exact (by rw [List.length_set]; exact hPc)|exact (by rw [List.length_set]; exact hLl)|exact (HS4)|exact (hOc)|exact Xs)
   ·rename_i σ2
    have kno2 := hK2.nobj
    have kob2 := hK2.obj
    simp only [put_nobj, new_nobj] at kno2 kob2
    have hK3 := ((hK.new _).put hK.nobj _).trans hK2
    have o10 := kob2 σ'.nobj (by omega)
    rw [put_same] at o10
    have o6 : σ2.obj (σ.nobj + 2) = [ic q.head.p, sl ih q.head.ts.length (ecells q.head.ts), X, sl i4 Nn.length nxs] := by rw [kob2 _ (by omega), put_ne (by omega), new_lt (by omega), ob2]
    have o4 : σ2.obj (σ.nobj + 1) = [ic 0, nilS, nilS, nilS] := by rw [kob2 _ (by omega), put_ne (by omega), new_lt (by omega), ob1]
    have hO2 : Own σ σ2 i4 Nn.length := Own.keep (Own.put (Own.new hO _) _ _) hK2
    have hX2 := (hX.keep (((Keep.refl _).new _).put (Nat.le_refl _) _)).keep hK2
    clear HBar ob1 ob2 hX hPt kob2 hK hO hK2
    repeat' (first
 |with_reducible first|apply Xa|apply Xb|(refine Xc ?_;intro κ hκ)|(apply hκ.out;clear hκ κ)|apply Xd|apply Xe|apply Xf
 |((with_reducible first|refine Xl ?_ ?_|refine Xm ?_ ?_|refine Xk ?_ ?_)<;> intro h hari<;> try exact Xp)
 |((with_reducible refine aapp_go ?_);refine Xt ?_;intro idn σn hOn hKn eobj enobj ever entop)
 |((with_reducible refine aappn_go ?_);refine Xu ?_)
 |((with_reducible refine Xh ?_);first|(refine Xi (hStl _) ?_;rintro _ _ ⟨rfl,hK5⟩;(have kno5:=hK5.nobj;have kob5:=hK5.obj;have hK6:=hK3.trans hK5;have o11:=kob5 σ'.nobj (by omega);rw [o10] at o11;have o12:=kob5 (σ.nobj + 2) (by omega);rw [o6] at o12;have o13:=kob5 (σ.nobj + 1) (by omega);rw [o4] at o13;have hO5:=Own.keep hO2 hK5;have hX5:=hX2.keep hK5))|(refine Xi (hHs _ hK6) ?_;rintro _ _ ⟨rfl,hK7⟩;(have kno7:=hK7.nobj;have kob7:=hK7.obj;have hK8:=hK6.trans hK7)))
 |refine Xr ?_
 |exact True.intro
 |((with_reducible refine Xg ?_);refine Xj ?_)
 |(apply hκ.out;clear hκ κ))
    ·have HS2 : Abs.Hid (EL EPt L xs ∧ EL EAt (Nn ++ [a]) (nxs ++ [ic a.p, sl ida a.ts.length (ecells a.ts)]) ∧ RdS neg q (k + 1) L (Nn ++ [a])) := ⟨hS.out.1, EL.append hS.out.2.1 (EL.single ⟨ida, rfl⟩), hS.out.2.2.keepN HG.out.1 (by assumption)⟩
     have hXn : PS (σ.nobj + 3) σn X L.length xs := by
      have := hX5
      unfold PS at this ⊢
      rw [eobj, enobj]; exact this
     refine ⟨q.nots.length - (k + 1), by omega, k + 1, idn, X, L, Nn ++ [a], xs, nxs ++ [ic a.p, sl ida a.ts.length (ecells a.ts)], ?_⟩
     ((repeat' with_reducible refine And.intro ?_ ?_)<;> first|exact Xq|exact (hKn.put (by omega) _)|exact (hXn.put (by omega) _)|exact (by simpa using Own.put hOn _ _)|exact (HS2)|exact Xs)
    ·have hsl : setl a.ts = true := by assumption
     exact ⟨_, rfl, ⟨_, .inl ⟨rfl, rfl, rfl, fun ν hν => hν.2 a HG.out.2.1 ((HG.out.2.2.2.2 _).2 (by rw [setl_sub hsl]; simpa using h))⟩⟩, hK8.put (by omega) _⟩
    ·have hsl : setl a.ts = true := by assumption
     have HS2 : Abs.Hid (EL EPt L xs ∧ EL EAt Nn nxs ∧ RdS neg q (k + 1) L Nn) := ⟨hS.out.1, hS.out.2.1, hS.out.2.2.drop HG.out.1 (fun ν hn => by
      have := (HG.out.2.2.2.2 _).1 hn
      rw [setl_sub hsl] at this
      simp [this] at h)⟩
     refine ⟨q.nots.length - (k + 1), by omega, k + 1, i4, X, L, Nn, xs, nxs, ?_⟩
     ((repeat' with_reducible refine And.intro ?_ ?_)<;> first|exact Xq|exact (hX5.keep hK7)|exact (Own.keep hO5 hK7)|exact (HS2)|exact (by rw [kob7 _ (by omega)]; assumption)|exact Xs)
  ·have hkl : k = q.nots.length := by omega
   subst hkl
   obtain ⟨hA1, hR1⟩ := hS.out.2.2.fin hA
   have HU : Abs.Hid (∀ a ∈ Nn, a ∈ q.nots ∧ setl a.ts = false) := fun a ha => ⟨by have := hS.out.2.2.nsub.subset ha; rwa [List.take_length] at this, hS.out.2.2.uns a ha⟩
   refine awp_freezeP (lo := σ.nobj + 3) (p := σ.nobj + 2) (j := 2) hK (by omega) (by omega) (by omega) (by omega) hX ob2 rfl ?_
   intro ip1 σf hKf hnf obf hof
   have obf2 : σf.obj (σ.nobj + 2) = [ic q.head.p, sl ih q.head.ts.length (ecells q.head.ts), sl ip1 L.length xs, sl i4 Nn.length nxs] := obf
   have o1f : σf.obj (σ.nobj + 1) = [ic 0, nilS, nilS, nilS] := by rw [hof _ (by omega) (by omega), ob1]
   have hnof : σ.nobj + 2 < σf.nobj := by omega
   have hNar := fun σ => enar_spec ⟨q.head, L, Nn⟩ [ic q.head.p, sl ih q.head.ts.length (ecells q.head.ts), sl ip1 L.length xs, sl i4 Nn.length nxs] ⟨ih, ip1, i4, xs, nxs, rfl, hS.out.1, hS.out.2.1⟩ hA1.ok hA1.n σ
   clear hX ob1 ob2 hK hS hO hnx hk hof obf hno hlt kno
   have kno := hKf.nobj
   repeat' (first
 |with_reducible first|apply Xa|apply Xb|(refine Xc ?_;intro κ hκ)|(apply hκ.out;clear hκ κ)|apply Xd|apply Xe|apply Xf
 |((with_reducible first|refine Xl ?_ ?_|refine Xm ?_ ?_|refine Xk ?_ ?_)<;> intro h hari<;> try exact Xp)
 |((with_reducible refine aapp_go ?_);refine Xt ?_;intro idn σn hOn hKn eobj enobj ever entop)
 |((with_reducible refine aappn_go ?_);refine Xu ?_)
 |((with_reducible refine Xh ?_);refine Xi (hNar _) ?_;rintro _ _ ⟨⟨_,q1,qp,rfl,⟨ih1,ip1,in1,pc1,nc1,rfl,hP1,hN1⟩,n1,n2,n3,n4⟩,hK2⟩;(have N3 : Abs.Hid (q1 = rnd qp (varsL (atomsQ qp))):=n3;clear n3;have kno2:=hK2.nobj;have kob2:=hK2.obj;have hKx:=hKf.trans hK2))
 |refine Xr ?_
 |exact True.intro
 |((with_reducible refine Xg ?_);refine Xj ?_)
 |(apply hκ.out;clear hκ κ))
   rename_i σ1
   have o1 : σ1.obj (σ.nobj + 1) = [ic 0, nilS, nilS, nilS] := by rw [kob2 _ (by omega), o1f]
   have hw1 : WP q1 := n2.wp hA1.w
   have hq1 : QOk q1 := n2.ok hA1.ok
   have hn1 : QN q1 := n2.n hA1.n
   have hnt1 : q1.nots = Nn := n2.atoms.2.2
   have hr1 : Red neg q q1 := hR1.trans (n2.red hA1.w)
   have hwf1 : WFv q1 := wfv_nar n2 hA1.wf
   have hnr1 : Nrw q1 := by
    obtain ⟨g1, g2⟩ := (rnd_size (varsL (atomsQ qp)) qp).2 (by rw [← N3.out]; exact n4)
    rw [N3.out, g1]
    exact nrw_of g2
   have HQ1 : Abs.Hid (WP q1 ∧ QOk q1 ∧ QN q1 ∧ q1.nots = Nn ∧ Red neg q q1 ∧ WFv q1 ∧ Nrw q1) := ⟨hw1, hq1, hn1, hnt1, hr1, hwf1, hnr1⟩
   clear hw1 hn1 hnt1 hr1 hwf1 hnr1 n1 n2 N3 n4 kob2 hK2 hNar
   have hl1 := hq1.pl
   have ht1 := hq1.pt
   clear hq1
   have hpl1 := EL.length EPt_len hP1
   refine awp_loop (fun m s σ2 => ∃ j : Nat, m = q1.parts.length - j ∧ j ≤ q1.parts.length ∧ s 4 = ptr (σ.nobj + 1) 0 ∧ s 6 = ptr (σ.nobj + 2) 0 ∧ s 72 = sl ip1 q1.parts.length pc1 ∧ s 73 = ic q1.parts.length ∧ s 74 = ic j ∧ Keep σ σ2 ∧ σ.nobj + 2 < σ2.nobj ∧ σ2.obj (σ.nobj + 1) = [ic 0, nilS, nilS, nilS] ∧ σ2.obj (σ.nobj + 2) = [ic q1.head.p, sl ih1 q1.head.ts.length (ecells q1.head.ts), sl ip1 q1.parts.length pc1, sl in1 q1.nots.length nc1] ∧ Abs.Hid (∀ p ∈ q1.parts.take j, p.tups ≠ [])) q1.parts.length
    ⟨0, by omega, by omega, by simp [upd, *], by simp [upd, *], by simp [upd], by simp [upd], rfl, hKx.put (by omega) _, by simp only [put_nobj]; omega, by rw [put_ne (by omega), o1], by rw [put_same], by simp [Abs.Hid]⟩ ?_
   clear h4 h6 h33 h34 o1 hKx kno2 hKf
   rintro m s σ2 ⟨j, rfl, hj, h4, h6, h72, h73, h74, hK, hno, ob1, ob2, hJ⟩
   have kno := hK.nobj
   by_cases hlt : j < q1.parts.length
   ·have hget := List.getElem?_eq_getElem hlt
    obtain ⟨id, idt, r, hd⟩ := EPt_get hP1 hget
    have hmem := List.getElem_mem hlt
    have htw := ht1 _ hmem
    generalize q1.parts[j] = w at hd hget hmem htw
    by_cases he : w.tups = []
    ·have hw0 : w.tups.length = 0 := by rw [he]; rfl
     have HF : Abs.Hid (∀ ν, ¬ Sol neg q ν) := fun ν hν => by
      have h1 := (HQ1.out.2.2.2.2.1.to ν hν).1 w hmem
      rw [he] at h1
      cases h1
     have hb : ((w.tups.length : Int) == 0) = true := by rw [hw0]; rfl
     clear hget hw0 he hJ
     repeat' (first
 |with_reducible first|apply Xa|apply Xb|(refine Xc ?_;intro κ hκ)|(apply hκ.out;clear hκ κ)|apply Xd|apply Xe|apply Xf
 |((with_reducible first|refine Xl ?_ ?_|refine Xm ?_ ?_|refine Xk ?_ ?_)<;> intro h hari<;> try exact Xp)
 |((with_reducible refine aapp_go ?_);refine Xt ?_;intro idn σn hOn hKn eobj enobj ever entop)
 |((with_reducible refine aappn_go ?_);refine Xu ?_)
 |refine Xr ?_
 |exact True.intro
 |((with_reducible refine Xg ?_);refine Xj ?_)
 |(apply hκ.out;clear hκ κ))
     exact ⟨_, rfl, ⟨_, .inl ⟨rfl, rfl, rfl, HF.out⟩⟩, ((hK.new _).put hK.nobj _).put (by omega) _⟩
    ·have hb : ((w.tups.length : Int) == 0) = false := by
      have : w.tups.length ≠ 0 := fun h => he (List.eq_nil_of_length_eq_zero h)
      simp; exact he
     have HJ : Abs.Hid (∀ p ∈ q1.parts.take (j + 1), p.tups ≠ []) := by
      rw [Abs.Hid, List.take_add_one, hget, Option.toList_some]
      intro p hp
      rcases List.mem_append.1 hp with h | h
      ·exact hJ.out p h
      ·simp at h; subst h; exact he
     clear hget he hJ
     repeat' (first
 |with_reducible first|apply Xa|apply Xb|(refine Xc ?_;intro κ hκ)|(apply hκ.out;clear hκ κ)|apply Xd|apply Xe|apply Xf
 |((with_reducible first|refine Xl ?_ ?_|refine Xm ?_ ?_|refine Xk ?_ ?_)<;> intro h hari<;> try exact Xp)
 |((with_reducible refine aapp_go ?_);refine Xt ?_;intro idn σn hOn hKn eobj enobj ever entop)
 |((with_reducible refine aappn_go ?_);refine Xu ?_)
 |refine Xr ?_
 |exact True.intro
 |((with_reducible refine Xg ?_);refine Xj ?_)
 |(apply hκ.out;clear hκ κ))
     refine ⟨q1.parts.length - (j + 1), by omega, j + 1, ?_⟩
     ((repeat' with_reducible refine And.intro ?_ ?_)<;> first|exact Xq|exact (HJ)|exact Xs)
   ·have hjl : j = q1.parts.length := by omega
    subst hjl
    rw [List.take_length] at hJ
    obtain ⟨a1, a2, a3, a4, a5, a6, a7⟩ := HQ1.out
    have hTr := fun σ => etrim_spec q1 _ ⟨ih1, ip1, in1, pc1, nc1, rfl, hP1, hN1⟩ a2 σ
    have HNE : Abs.Hid (NE q1) := hJ.out
    clear a1 a2 a3 a4 a5 a6 a7 hJ
    repeat' (first
 |with_reducible first|apply Xa|apply Xb|(refine Xc ?_;intro κ hκ)|(apply hκ.out;clear hκ κ)|apply Xd|apply Xe|apply Xf
 |((with_reducible first|refine Xl ?_ ?_|refine Xm ?_ ?_|refine Xk ?_ ?_)<;> intro h hari<;> try exact Xp)
 |((with_reducible refine aapp_go ?_);refine Xt ?_;intro idn σn hOn hKn eobj enobj ever entop)
 |((with_reducible refine aappn_go ?_);refine Xu ?_)
 |((with_reducible refine Xh ?_);refine Xi (hTr _) ?_;rintro _ _ ⟨⟨_,q2,rfl,⟨ih2,ip2,in2,pc2,nc2,rfl,hP2,hN2⟩,hq2,hR2⟩,hK2⟩;(have kno2:=hK2.nobj;have kob2:=hK2.obj;have hKx:=hK.trans hK2))
 |refine Xr ?_
 |exact True.intro
 |((with_reducible refine Xg ?_);refine Xj ?_)
 |(apply hκ.out;clear hκ κ))
    obtain ⟨a1, a2, a3, a4, a5, a6, a7⟩ := HQ1.out
    obtain ⟨t1, t2, t3⟩ := hR2.red (neg := neg) a1 HNE.out a7
    obtain ⟨-, u2, u3⟩ := hR2.ok a2
    exact ⟨_, rfl, ⟨_, .inr ⟨q2, rfl, ⟨ih2, ip2, in2, pc2, nc2, rfl, hP2, hN2⟩, ⟨hq2, fun p hp => a3 p (u3 p hp), fun p hp => a1 p (u3 p hp), t3 a6⟩, fun p hp => HNE.out p (u3 p hp), a5.trans t1, fun a ha => HU.out a (by rw [← a4, ← u2]; exact ha)⟩⟩, hKx.put (by omega) _⟩
end Go.Proofs.YtmoeoppbmhfbpaaGreatDoorB
