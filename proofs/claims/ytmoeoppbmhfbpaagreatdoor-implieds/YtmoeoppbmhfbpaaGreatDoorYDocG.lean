import Derived.Test.YtmoeoppbmhfbpaaGreatDoorYDocE
/- The document's own answer: into. -/
namespace Go.Proofs.YtmoeoppbmhfbpaaGreatDoorY
open Go.Abs
set_option linter.unusedSimpArgs false
set_option linter.unusedVariables false
set_option maxRecDepth 100000
theorem wcells_setO {ida nA : Nat} {cA : List AV} {fz : Bool} {mo : Int} {ido nO ido' nO' : Nat} {oc oc' : List AV} {B : BK} : (wcells ida nA cA fz mo ido nO oc B).set 3 (sl ido' nO' oc') = wcells ida nA cA fz mo ido' nO' oc' B := rfl
theorem WOb.addO {σ σ' : St} {ow ida nA : Nat} {cA : List AV} {fz : Bool} {mo : Int} {ido : Nat} {O : List RAtom} {oc : List AV} {B : BK} {N id' : Nat} {a : RAtom} {ca : List AV} (h : WOb σ ow ida nA cA fz mo ido O oc B N) (ha : EAtom a ca)
  (hL : Live σ' id' (O.length + 1)) (hid : id' = ido ∨ σ.ntop + 2 ≤ id') (hid1 : id' ≠ 1)
  (eob : ∀ o, o < σ.nobj → o ≠ ow → σ'.obj o = σ.obj o) (ever : ∀ o, o < σ.nobj → o ≠ ow → σ'.ver o = σ.ver o) (eno : σ.nobj ≤ σ'.nobj) (ento : σ.ntop ≤ σ'.ntop)
  (etop : ∀ j, j < σ.ntop → j + 2 ≠ ido → σ'.top j = σ.top j) (eow : σ'.obj ow = (wcells ida nA cA fz mo ido O.length oc B).set 3 (sl id' (O.length + 1) (oc ++ ca))) :
  WOb σ' ow ida nA cA fz mo id' (O ++ [a]) (oc ++ ca) B N ∧ KW ow (rowsB ido O.length B) (rowsB id' (O ++ [a]).length B) σ σ' := by
 have hx : (rowsB ido O.length B)[0]? = some (ido, O.length) := rfl
 obtain ⟨g1, g2⟩ := Rws.grow (ow := ow) h.rw' hx hL hid hid1 eob ever eno ento etop
 have e : rowsB id' (O ++ [a]).length B = (rowsB ido O.length B).set 0 (id', O.length + 1) := by simp [rowsB]
 rw [e]
 refine ⟨⟨?_, Nat.lt_of_lt_of_le h.lo eno, h.bl, EL.append h.oe (EL.single ha), by rw [e]; exact g1, h.bn⟩, g2⟩
 rw [eow, wcells_setO]; simp
theorem sol_cl {fz : Bool} {A : List RAtom} {cA : List AV} {c0 p : Nat} {x : RItem} {h : RAtom} (hA : TupsOk A cA) (hH : HalfOk fz c0 p x) (hS : SolD fz A x h) : clA h := by
 obtain ⟨μ, h1, -, rfl⟩ := hS
 refine ⟨hH.cl.2.1.1, fun t ht => ?_, by show (x.head.terms.map _).length ≤ 1000; rw [List.length_map]; exact hH.cl.2.1.2.2⟩
 obtain ⟨u, hu, rfl⟩ := List.mem_map.1 ht
 cases hv : variableB u with
 | false => rw [tmM_gnd hv]; exact hH.cl.2.1.2.1 u hu
 | true =>
  obtain ⟨a, ha, hp, hm⟩ := hH.saf u hv (.inl hu)
  exact (hA.cl _ (h1 a ha hp)).2.1 _ (List.mem_map.2 ⟨u, hm, rfl⟩)
theorem into_cl {fz : Bool} {A : List RAtom} {cA : List AV} {mo : Int} {c0 p : Nat} {x : RItem} {O O' : List RAtom} {S S' : Tx → Prop} (hA : TupsOk A cA) (hH : HalfOk fz c0 p x) (hO : ∀ a ∈ O, clA a) (h : IntoR fz A mo x O S O' S') : ∀ a ∈ O', clA a := by
 obtain ⟨nw, rfl, h2⟩ := h.ext
 intro a ha
 rcases List.mem_append.1 ha with h' | h'
 ·exact hO a h'
 ·exact sol_cl hA hH (h2 a h').1
def IntoS (fz : Bool) (A : List RAtom) (cA : List AV) (ida : Nat) (mo : Int) (c0 p : Nat) : Prop := ∀ (x : RItem) (c : List AV), EItem x c → HalfOk fz c0 p x → ∀ (ow ido : Nat) (O : List RAtom) (oc : List AV) (B : BK) (N : Nat) (σ : St), WOb σ ow ida A.length cA fz mo ido O oc B N → N + costN c0 A.length p + 1001 ≤ 1000000000000 + O.length → O.Nodup → (O.length : Int) ≤ mo + 1 → (∀ a ∈ O, clA a) → SeenOk fz A O mo (InB B) x.body.length →
  ACalls Tryz.prog 225 [ptr ow 0, ag c] σ fun r σ' => IntoQ fz A cA ida mo c0 p x ow ido O B N σ σ'
set_option maxHeartbeats 64000000 in
theorem into_step (fz : Bool) (A : List RAtom) (cA : List AV) (ida : Nat) (mo : Int) (c0 : Nat) (hA : TupsOk A cA) (hm0 : 0 ≤ mo) (hm1 : mo ≤ 900) (p : Nat) (IH : ∀ q, p = q + 1 → IntoS fz A cA ida mo c0 q) : IntoS fz A cA ida mo c0 p := by
 intro x c hc hH ow ido O oc B N σ hW hN hnd hlen hOc hS
 have hcx := hc
 obtain ⟨ih, id, b, hb, rfl⟩ := hc.cells
 unfold itemCells
 unfold itemCells at hcx
 have hfit := hH.fits
 have hb5 := hfit.1
 have hlo := hW.lo
 have hAl := hA.len
 have hO1 : O.length ≤ 901 := by omega
 have hLo := fun σ => rloose_spec x.head _ ⟨ih, rfl⟩ hfit.2.1 σ
 have hWO := fun σ => within_spec O oc ido x.head [sc (.bool x.head.nt), str x.head.pred, sl ih x.head.terms.length (x.head.terms.map str)] hW.oe ⟨ih, rfl⟩ (by omega) (fun a ha => (hOc a ha).2.2) σ
 have hWA := fun σ => within_spec A cA ida x.head [sc (.bool x.head.nt), str x.head.pred, sl ih x.head.terms.length (x.head.terms.map str)] hA.el ⟨ih, rfl⟩ hAl (fun a ha => (hA.cl a ha).2.2) σ
 have hg0 : (wcells ida A.length cA fz mo ido O.length oc B)[0]? = some (sl ida A.length cA) := rfl
 have hgh : (wcells ida A.length cA fz mo ido O.length oc B).head? = some (sl ida A.length cA) := rfl
 have hg1 : (wcells ida A.length cA fz mo ido O.length oc B)[1]? = some (sc (.bool fz)) := rfl
 have hg2 : (wcells ida A.length cA fz mo ido O.length oc B)[2]? = some (sc (.int .i64 mo)) := rfl
 have hg3 : (wcells ida A.length cA fz mo ido O.length oc B)[3]? = some (sl ido O.length oc) := rfl
 have hwl := wcells_len (ida := ida) (nA := A.length) (cA := cA) (fz := fz) (mo := mo) (ido := ido) (nO := O.length) (oc := oc) hW.bl
 have hob := hW.ob
 generalize hwc : wcells ida A.length cA fz mo ido O.length oc B = wc at *
 have HWC : Abs.Hid _ := hwc
 clear hwc
 refine acalls 109 [] Tryz.func225 rfl (by decide) rfl rfl (Nat.le_of_ble_eq_true rfl) ?_
 repeat' (first
 |with_reducible first|apply Xa|apply Xb|(refine Xc ?_;intro κ hκ)|(apply hκ.out;clear hκ κ)|apply Xd|apply Xe|apply Xf
 |((with_reducible first|refine Xl ?_ ?_|refine Xm ?_ ?_|refine Xk ?_ ?_)<;> intro h hari<;> try exact Xp)
 |((with_reducible refine aapp_go ?_);refine Xt ?_;intro idn σn hOn hKn eobj enobj ever entop)
 |((with_reducible refine aappn_go ?_);refine Xu ?_)
 |refine Xr ?_
 |exact True.intro
 |((with_reducible refine Xg ?_);refine Xj ?_)
 |(apply hκ.out;clear hκ κ))
 obtain ⟨σ1, hσ1⟩ : ∃ σ1, σ1 = σ.new [sc (.bool x.out), sc (.bool x.head.nt), str x.head.pred, sl ih x.head.terms.length (x.head.terms.map str), sl id x.body.length b] := ⟨_, rfl⟩
 rw [← hσ1]
 have hK1 : Keep σ σ1 := by rw [hσ1]; exact (Keep.refl σ).new _
 have hn1 : σ1.nobj = σ.nobj + 1 := by rw [hσ1]; rfl
 have hob1 : σ1.obj ow = wc := by rw [hK1.obj _ hlo, hob]
 have hxb1 : σ1.obj σ.nobj = [sc (.bool x.out), sc (.bool x.head.nt), str x.head.pred, sl ih x.head.terms.length (x.head.terms.map str), sl id x.body.length b] := by rw [hσ1]; exact new_same
 clear hσ1
 refine awp_mono (Q := fun e s' σ'' => e = .normal ∧ ∃ th, s' 4 = sc (.bool th) ∧ s' 0 = ptr ow 0 ∧ s' 3 = ptr σ.nobj 0 ∧ Keep σ1 σ'' ∧ (th = true ↔ (Gnd x.head ∧ (x.head ∈ O ∨ x.head ∈ A)))) ?_ ?_
 ·by_cases hz : looseN x.head = 0
  ·rw [hz] at hLo
   have hzz : ((((0 : Nat) : Int)) == 0) = true := rfl
   have HGN : Abs.Hid (Gnd x.head) := looseN_zero.1 hz
   refine awp_draw_h follows_mixed (fun _ => True) [] [0, 1] 21 #[true, true, false, false, false, false, false, false, false, false, false, false, false, false, false, false, false, false, false, false, false, false, false] (by kernel_rfl) (fun _ _ _ h => by cases h.1) ?_; intro κ hκ; refine Xr ?_; refine hκ.out _ ?_; clear hκ κ
   refine uany_one (i := 2) (by kernel_rfl) ?_; refine aOne_k ?_; intro κ hκ; refine Xr ?_
   refine ACalls.mono (hLo _) ?_
   rintro _ σ2 ⟨rfl, hK2⟩
   refine Xr ?_
   refine hκ.out _ _ ⟨kept_keep hK2, ?_⟩; clear hκ κ
   have hob2 : σ2.obj ow = wc := by rw [hK2.obj _ (by omega), hob1]
   have hxb2 : σ2.obj σ.nobj = [sc (.bool x.out), sc (.bool x.head.nt), str x.head.pred, sl ih x.head.terms.length (x.head.terms.map str), sl id x.body.length b] := by rw [hK2.obj _ (by omega), hxb1]
   have kno2 := hK2.nobj
   refine uany_more [3, 4, 5, 6, 7, 8, 9, 10] 12 20 #[true, true, true, true, true, true, true, true, true, true, true, false, false, false, false, false, false, false, false, false, false, false, false] rfl (by kernel_rfl) (by kernel_rfl) (fun _ _ _ h => by cases h.1) (hK2).nobj (fun o ho _ => (hK2).ver o ho) ?_; intro κ hκ; refine Xr ?_; refine hκ.out _ ?_; clear hκ κ
   refine uany_one (i := 11) (by kernel_rfl) ?_; refine aOne_k ?_; intro κ hκ; refine Xr ?_
   refine ACalls.mono (hWO _) ?_
   rintro _ σ3 ⟨b1, rfl, hb1, hK3⟩
   refine Xr ?_
   refine hκ.out _ _ ⟨kept_keep hK3, ?_⟩; clear hκ κ
   have hob3 : σ3.obj ow = wc := by rw [hK3.obj _ (by omega), hob2]
   have hxb3 : σ3.obj σ.nobj = [sc (.bool x.out), sc (.bool x.head.nt), str x.head.pred, sl ih x.head.terms.length (x.head.terms.map str), sl id x.body.length b] := by rw [hK3.obj _ (by omega), hxb2]
   have kno3 := hK3.nobj
   cases b1 with
   | true =>
    refine uany_more [12, 13, 14, 15, 16, 17, 18] 4 11 #[true, true, true, true, true, true, true, true, true, true, true, true, true, true, true, true, true, true, true, false, false, false, false] rfl (by kernel_rfl) (by kernel_rfl) (fun _ _ _ h => by cases h.1) (hK3).nobj (fun o ho _ => (hK3).ver o ho) ?_; intro κ hκ; refine Xr ?_; refine hκ.out _ ?_; clear hκ κ
    refine uany_one (i := 19) (by kernel_rfl) ?_; refine aOne_k ?_; intro κ hκ; refine Xr ?_
    refine hκ.out _ _ ⟨kept_refl, ?_⟩; clear hκ κ
    refine uany_rest [20, 21, 22] (by kernel_rfl) (by kernel_rfl) (fun _ _ _ h => by cases h.1) (Nat.le_refl _) (fun o ho _ => rfl) ?_
    intro κ hκ
    refine Xr ?_
    refine hκ.out _ _ ⟨rfl, true, by simp [upd, *], by simp [upd, initS, *], by simp [upd, *], hK2.trans hK3, fun _ => ⟨HGN.out, .inl (hb1.1 rfl)⟩, fun _ => rfl⟩
   | false =>
    refine uany_more [12, 13, 14, 15, 16, 17, 18] 4 11 #[true, true, true, true, true, true, true, true, true, true, true, true, true, true, true, true, true, true, true, false, false, false, false] rfl (by kernel_rfl) (by kernel_rfl) (fun _ _ _ h => by cases h.1) (hK3).nobj (fun o ho _ => (hK3).ver o ho) ?_; intro κ hκ; refine Xr ?_; refine hκ.out _ ?_; clear hκ κ
    refine uany_one (i := 19) (by kernel_rfl) ?_; refine aOne_k ?_; intro κ hκ; refine Xr ?_
    refine ACalls.mono (hWA _) ?_
    rintro _ σ4 ⟨b2, rfl, hb2, hK4⟩
    refine Xr ?_
    refine hκ.out _ _ ⟨kept_keep hK4, ?_⟩; clear hκ κ
    refine uany_rest [20, 21, 22] (by kernel_rfl) (by kernel_rfl) (fun _ _ _ h => by cases h.1) hK4.nobj (fun o ho _ => hK4.ver o ho) ?_
    intro κ hκ
    refine Xr ?_
    refine hκ.out _ _ ⟨rfl, b2, by simp [upd], by simp [upd, initS, *], by simp [upd, *], (hK2.trans hK3).trans hK4, fun h => ⟨HGN.out, .inr (hb2.1 h)⟩, fun h => ?_⟩
    rcases h.2 with h' | h'
    ·exact absurd (hb1.2 h') (by simp)
    ·exact hb2.2 h'
  ·have hzz : (((looseN x.head : Nat) : Int) == 0) = false := by simp; omega
   have HGN : Abs.Hid (¬ Gnd x.head) := fun h => hz (looseN_zero.2 h)
   generalize looseN x.head = lz at *
   refine awp_draw_h follows_mixed (fun _ => True) [] [0, 1] 21 #[true, true, false, false, false, false, false, false, false, false, false, false, false, false, false, false, false, false, false, false, false, false, false] (by kernel_rfl) (fun _ _ _ h => by cases h.1) ?_; intro κ hκ; refine Xr ?_; refine hκ.out _ ?_; clear hκ κ
   refine uany_one (i := 2) (by kernel_rfl) ?_; refine aOne_k ?_; intro κ hκ; refine Xr ?_
   refine ACalls.mono (hLo _) ?_
   rintro _ σ2 ⟨rfl, hK2⟩
   refine Xr ?_
   refine hκ.out _ _ ⟨kept_keep hK2, ?_⟩; clear hκ κ
   refine uany_more [3, 4, 5, 6, 7, 8, 9, 10] 12 20 #[true, true, true, true, true, true, true, true, true, true, true, false, false, false, false, false, false, false, false, false, false, false, false] rfl (by kernel_rfl) (by kernel_rfl) (fun _ _ _ h => by cases h.1) (hK2).nobj (fun o ho _ => (hK2).ver o ho) ?_; intro κ hκ; refine Xr ?_; refine hκ.out _ ?_; clear hκ κ
   refine uany_one (i := 11) (by kernel_rfl) ?_; refine aOne_k ?_; intro κ hκ; refine Xr ?_
   refine hκ.out _ _ ⟨kept_refl, ?_⟩; clear hκ κ
   refine uany_more [12, 13, 14, 15, 16, 17, 18] 4 11 #[true, true, true, true, true, true, true, true, true, true, true, true, true, true, true, true, true, true, true, false, false, false, false] rfl (by kernel_rfl) (by kernel_rfl) (fun _ _ _ h => by cases h.1) (Nat.le_refl _) (fun o ho _ => rfl) ?_; intro κ hκ; refine Xr ?_; refine hκ.out _ ?_; clear hκ κ
   refine uany_one (i := 19) (by kernel_rfl) ?_; refine aOne_k ?_; intro κ hκ; refine Xr ?_
   refine hκ.out _ _ ⟨kept_refl, ?_⟩; clear hκ κ
   refine uany_rest [20, 21, 22] (by kernel_rfl) (by kernel_rfl) (fun _ _ _ h => by cases h.1) (Nat.le_refl _) (fun o ho _ => rfl) ?_
   intro κ hκ
   refine Xr ?_
   refine hκ.out _ _ ⟨rfl, false, by simp [upd, *], by simp [upd, initS, *], by simp [upd, *], hK2, fun h => (by cases h), fun h => absurd h.1 HGN.out⟩
 ·rintro e s' σ2 ⟨rfl, th, g4, g0, g3, hK2, hth⟩
  have hob2 : σ2.obj ow = wc := by rw [hK2.obj _ (by omega), hob1]
  have hxb2 : σ2.obj σ.nobj = [sc (.bool x.out), sc (.bool x.head.nt), str x.head.pred, sl ih x.head.terms.length (x.head.terms.map str), sl id x.body.length b] := by rw [hK2.obj _ (by omega), hxb1]
  have kno2 := hK2.nobj
  have HTH : Abs.Hid _ := hth
  clear hth hLo hWO hWA hob1 hxb1
  have hKx : Keep σ σ2 := hK1.trans hK2
  have hW2 := hW.keep hKx
  cases th with
  | true =>
   have HQ : Abs.Hid (IntoQ fz A cA ida mo c0 p x ow ido O B N σ σ2) := by
    refine ⟨ido, O, oc, B, N, hW2, KW.ofKeep hKx, into_stop hnd hlen hS (fun _ h hh => ?_), by omega⟩
    obtain ⟨hg, hm⟩ := HTH.out.1 rfl
    rw [sol_head hg hh]
    exact hm.symm
   clear HTH hW hS hW2
   repeat' (first
 |with_reducible first|apply Xa|apply Xb|(refine Xc ?_;intro κ hκ)|(apply hκ.out;clear hκ κ)|apply Xd|apply Xe|apply Xf
 |((with_reducible first|refine Xl ?_ ?_|refine Xm ?_ ?_|refine Xk ?_ ?_)<;> intro h hari<;> try exact Xp)
 |((with_reducible refine aapp_go ?_);refine Xt ?_;intro idn σn hOn hKn eobj enobj ever entop)
 |((with_reducible refine aappn_go ?_);refine Xu ?_)
 |refine Xr ?_
 |exact True.intro
 |((with_reducible refine Xg ?_);refine Xj ?_)
 |(apply hκ.out;clear hκ κ))
   refine awp_mono (Q := fun e s'' σ'' => e = .normal ∧ s'' 48 = sc (.bool true) ∧ σ'' = σ2) ?_ ?_
   ·refine awp_draw_h follows_mixed (fun _ => True) [16, 17] [0, 1, 2, 3, 4, 5, 6, 7, 8, 9, 10, 11, 12, 13, 14, 15] 2 #[true, true, true, true, true, true, true, true, true, true, true, true, true, true, true, true, false, false] (by kernel_rfl) (fun _ _ _ h => by cases h.1) ?_; intro κ hκ; refine Xr ?_; refine hκ.out _ ?_; clear hκ κ
    refine uany_one (i := 16) (by kernel_rfl) ?_; refine aOne_k ?_; intro κ hκ; refine Xr ?_
    refine hκ.out _ _ ⟨kept_last rfl, ?_⟩; clear hκ κ
    refine uany_one (i := 17) (by kernel_rfl) ?_; refine aOne_k ?_; intro κ hκ; refine Xr ?_
    refine hκ.out _ _ ⟨kept_last rfl, ?_⟩; clear hκ κ
    exact uany_done (by kernel_rfl) ⟨rfl, by simp [upd], rfl⟩
   ·rintro e s'' σ'' ⟨rfl, g48, rfl⟩
    first | refine awp_cond_t g48 ?_ | (refine awp_seq ?_; refine awp_cond_t g48 ?_)
    repeat' (first
 |with_reducible first|apply Xa|apply Xb|(refine Xc ?_;intro κ hκ)|(apply hκ.out;clear hκ κ)|apply Xd|apply Xe|apply Xf
 |((with_reducible first|refine Xl ?_ ?_|refine Xm ?_ ?_|refine Xk ?_ ?_)<;> intro h hari<;> try exact Xp)
 |((with_reducible refine aapp_go ?_);refine Xt ?_;intro idn σn hOn hKn eobj enobj ever entop)
 |((with_reducible refine aappn_go ?_);refine Xu ?_)
 |refine Xr ?_
 |exact True.intro
 |((with_reducible refine Xg ?_);refine Xj ?_)
 |(apply hκ.out;clear hκ κ))
    first | exact ⟨_, rfl, HQ.out⟩ | exact HQ.out
  | false =>
   by_cases hgt : mo < (O.length : Int)
   ·have hd1 : decide ((O.length : Int) > mo) = true := by simpa using hgt
    have hd2 : decide (mo < (O.length : Int)) = true := by simpa using hgt
    have HQ : Abs.Hid (IntoQ fz A cA ida mo c0 p x ow ido O B N σ σ2) :=
     ⟨ido, O, oc, B, N, hW2, KW.ofKeep hKx, into_stop hnd hlen hS (fun h => by omega), by omega⟩
    clear HTH hW hS hW2
    repeat' (first
 |with_reducible first|apply Xa|apply Xb|(refine Xc ?_;intro κ hκ)|(apply hκ.out;clear hκ κ)|apply Xd|apply Xe|apply Xf
 |((with_reducible first|refine Xl ?_ ?_|refine Xm ?_ ?_|refine Xk ?_ ?_)<;> intro h hari<;> try exact Xp)
 |((with_reducible refine aapp_go ?_);refine Xt ?_;intro idn σn hOn hKn eobj enobj ever entop)
 |((with_reducible refine aappn_go ?_);refine Xu ?_)
 |refine Xr ?_
 |exact True.intro
 |((with_reducible refine Xg ?_);refine Xj ?_)
 |(apply hκ.out;clear hκ κ))
    refine awp_mono (Q := fun e s'' σ'' => e = .normal ∧ s'' 48 = sc (.bool true) ∧ σ'' = σ2) ?_ ?_
    ·refine awp_draw_h follows_mixed (fun _ => True) [16, 17] [0, 1, 2, 3, 4, 5, 6, 7, 8, 9, 10, 11, 12, 13, 14, 15] 2 #[true, true, true, true, true, true, true, true, true, true, true, true, true, true, true, true, false, false] (by kernel_rfl) (fun _ _ _ h => by cases h.1) ?_; intro κ hκ; refine Xr ?_; refine hκ.out _ ?_; clear hκ κ
     refine uany_one (i := 16) (by kernel_rfl) ?_; refine aOne_k ?_; intro κ hκ; refine Xr ?_
     refine hκ.out _ _ ⟨kept_last rfl, ?_⟩; clear hκ κ
     refine uany_one (i := 17) (by kernel_rfl) ?_; refine aOne_k ?_; intro κ hκ; refine Xr ?_
     refine hκ.out _ _ ⟨kept_last rfl, ?_⟩; clear hκ κ
     exact uany_done (by kernel_rfl) ⟨rfl, by simp [upd], rfl⟩
    ·rintro e s'' σ'' ⟨rfl, g48, rfl⟩
     first | refine awp_cond_t g48 ?_ | (refine awp_seq ?_; refine awp_cond_t g48 ?_)
     repeat' (first
 |with_reducible first|apply Xa|apply Xb|(refine Xc ?_;intro κ hκ)|(apply hκ.out;clear hκ κ)|apply Xd|apply Xe|apply Xf
 |((with_reducible first|refine Xl ?_ ?_|refine Xm ?_ ?_|refine Xk ?_ ?_)<;> intro h hari<;> try exact Xp)
 |((with_reducible refine aapp_go ?_);refine Xt ?_;intro idn σn hOn hKn eobj enobj ever entop)
 |((with_reducible refine aappn_go ?_);refine Xu ?_)
 |refine Xr ?_
 |exact True.intro
 |((with_reducible refine Xg ?_);refine Xj ?_)
 |(apply hκ.out;clear hκ κ))
     first | exact ⟨_, rfl, HQ.out⟩ | exact HQ.out
   ·have hd1 : decide ((O.length : Int) > mo) = false := by simpa using hgt
    have hd2 : decide (mo < (O.length : Int)) = false := by simpa using hgt
    have hAg := fun σ h => again_spec x _ hcx hH.cl hb5 ow ida A.length cA fz mo ido O oc B N (by omega) σ h
    repeat' (first
 |with_reducible first|apply Xa|apply Xb|(refine Xc ?_;intro κ hκ)|(apply hκ.out;clear hκ κ)|apply Xd|apply Xe|apply Xf
 |((with_reducible first|refine Xl ?_ ?_|refine Xm ?_ ?_|refine Xk ?_ ?_)<;> intro h hari<;> try exact Xp)
 |((with_reducible refine aapp_go ?_);refine Xt ?_;intro idn σn hOn hKn eobj enobj ever entop)
 |((with_reducible refine aappn_go ?_);refine Xu ?_)
 |refine Xr ?_
 |exact True.intro
 |((with_reducible refine Xg ?_);refine Xj ?_)
 |(apply hκ.out;clear hκ κ))
    refine awp_mono (Q := fun e s'' σ'' => e = .normal ∧ s'' 0 = ptr ow 0 ∧ s'' 3 = ptr σ.nobj 0 ∧ ((InB B (keyL x) ∧ s'' 48 = sc (.bool true) ∧ Keep σ2 σ'') ∨ (¬ InB B (keyL x) ∧ s'' 48 = sc (.bool false) ∧ ∃ id' y, B[hashL (keyL x)]? = some y ∧ WOb σ'' ow ida A.length cA fz mo ido O oc (B.set (hashL (keyL x)) (id', y.2 ++ [keyL x])) (N + 1) ∧ KW ow (rowsB ido O.length B) (rowsB ido O.length (B.set (hashL (keyL x)) (id', y.2 ++ [keyL x]))) σ2 σ''))) ?_ ?_
    ·refine awp_draw_h follows_mixed (fun _ => True) [16, 17] [0, 1, 2, 3, 4, 5, 6, 7, 8, 9, 10, 11, 12, 13, 14, 15] 2 #[true, true, true, true, true, true, true, true, true, true, true, true, true, true, true, true, false, false] (by kernel_rfl) (fun _ _ _ h => by cases h.1) ?_; intro κ hκ; refine Xr ?_; refine hκ.out _ ?_; clear hκ κ
     refine uany_one (i := 16) (by kernel_rfl) ?_; refine aOne_k ?_; intro κ hκ; refine Xr ?_
     refine ACalls.mono (hAg _ hW2) ?_
     rintro r σ3 (⟨h1, rfl, hK3⟩ | ⟨h1, rfl, h3⟩)
     ·refine Xr ?_
      refine hκ.out _ _ ⟨kept_last rfl, ?_⟩; clear hκ κ
      refine uany_one (i := 17) (by kernel_rfl) ?_; refine aOne_k ?_; intro κ hκ; refine Xr ?_
      refine hκ.out _ _ ⟨kept_last rfl, ?_⟩; clear hκ κ
      exact uany_done (by kernel_rfl) ⟨rfl, by simp [upd, *], by simp [upd, *], .inl ⟨h1, by simp [upd], hK3⟩⟩
     ·refine Xr ?_
      refine hκ.out _ _ ⟨kept_last rfl, ?_⟩; clear hκ κ
      refine uany_one (i := 17) (by kernel_rfl) ?_; refine aOne_k ?_; intro κ hκ; refine Xr ?_
      refine hκ.out _ _ ⟨kept_last rfl, ?_⟩; clear hκ κ
      exact uany_done (by kernel_rfl) ⟨rfl, by simp [upd, *], by simp [upd, *], .inr ⟨h1, by simp [upd], h3⟩⟩
    ·rintro e s'' σ3 ⟨rfl, f0, f3, hcase⟩
     rcases hcase with ⟨hin, g48, hK3⟩ | ⟨hin, g48, id', y, hy, hW3, hKW3⟩
     ·have HQ : Abs.Hid (IntoQ fz A cA ida mo c0 p x ow ido O B N σ σ3) :=
       ⟨ido, O, oc, B, N, hW2.keep hK3, KW.ofKeep (hKx.trans hK3), into_stop hnd hlen hS (hS x hH.cl (Nat.le_refl _) hin), by omega⟩
      clear HTH hW hS hW2 hAg
      first | refine awp_cond_t g48 ?_ | (refine awp_seq ?_; refine awp_cond_t g48 ?_)
      repeat' (first
 |with_reducible first|apply Xa|apply Xb|(refine Xc ?_;intro κ hκ)|(apply hκ.out;clear hκ κ)|apply Xd|apply Xe|apply Xf
 |((with_reducible first|refine Xl ?_ ?_|refine Xm ?_ ?_|refine Xk ?_ ?_)<;> intro h hari<;> try exact Xp)
 |((with_reducible refine aapp_go ?_);refine Xt ?_;intro idn σn hOn hKn eobj enobj ever entop)
 |((with_reducible refine aappn_go ?_);refine Xu ?_)
 |refine Xr ?_
 |exact True.intro
 |((with_reducible refine Xg ?_);refine Xj ?_)
 |(apply hκ.out;clear hκ κ))
      first | exact ⟨_, rfl, HQ.out⟩ | exact HQ.out
     ·have hSet := fun s => InB_set (s := s) (id' := id') hy
      generalize hB1 : B.set (hashL (keyL x)) (id', y.2 ++ [keyL x]) = Bq at hW3 hKW3 hSet
      have HBq : Abs.Hid (InB Bq = fun s => InB B s ∨ s = keyL x) := funext fun s => propext (hSet s)
      have hxb3 : σ3.obj σ.nobj = [sc (.bool x.out), sc (.bool x.head.nt), str x.head.pred, sl ih x.head.terms.length (x.head.terms.map str), sl id x.body.length b] := by rw [hKW3.obj _ (by omega) (by omega), hxb2]
      have kno3 := hKW3.nobj
      have hKW4 := (KW.ofKeep hKx).trans hKW3
      have hob3 := hW3.ob
      have hq0 : (wcells ida A.length cA fz mo ido O.length oc Bq)[0]? = some (sl ida A.length cA) := rfl
      have hqh : (wcells ida A.length cA fz mo ido O.length oc Bq).head? = some (sl ida A.length cA) := rfl
      have hq1 : (wcells ida A.length cA fz mo ido O.length oc Bq)[1]? = some (sc (.bool fz)) := rfl
      have hq3 : (wcells ida A.length cA fz mo ido O.length oc Bq)[3]? = some (sl ido O.length oc) := rfl
      have hql := wcells_len (ida := ida) (nA := A.length) (cA := cA) (fz := fz) (mo := mo) (ido := ido) (nO := O.length) (oc := oc) hW3.bl
      clear hSet hB1 hy hAg hin hob2 hxb2 hg0 hgh hg1 hg2 hg3 hwl hob HWC hW hW2 hd1 hd2 g4 g0 g3 hK2
      generalize hwc : wcells ida A.length cA fz mo ido O.length oc Bq = wc1 at hob3 hq0 hqh hq1 hq3 hql
      have HWC : Abs.Hid _ := hwc
      clear hwc
      have hNx := fun σ => rnext_spec x _ fz hcx hfit σ
      first | refine awp_cond_f g48 ?_ | (refine awp_seq ?_; refine awp_cond_f g48 ?_)
      repeat' (first
 |with_reducible first|apply Xa|apply Xb|(refine Xc ?_;intro κ hκ)|(apply hκ.out;clear hκ κ)|apply Xd|apply Xe|apply Xf
 |((with_reducible first|refine Xl ?_ ?_|refine Xm ?_ ?_|refine Xk ?_ ?_)<;> intro h hari<;> try exact Xp)
 |((with_reducible refine aapp_go ?_);refine Xt ?_;intro idn σn hOn hKn eobj enobj ever entop)
 |((with_reducible refine aappn_go ?_);refine Xu ?_)
 |refine Xr ?_
 |exact True.intro
 |((with_reducible refine Xg ?_);refine Xj ?_)
 |(apply hκ.out;clear hκ κ))
      refine awp_mono (Q := fun e s3 σ'' => e = .normal ∧ ∃ n, NextR fz x n ∧ s3 5 = sc (.int .i64 n) ∧ s3 0 = ptr ow 0 ∧ s3 3 = ptr σ.nobj 0 ∧ Keep σ3 σ'') ?_ ?_
      ·refine awp_draw_h follows_mixed (fun _ => True) [] [0, 1, 2, 3, 4] 2 #[true, true, true, true, true, false, false] (by kernel_rfl) (fun _ _ _ h => by cases h.1) ?_; intro κ hκ; refine Xr ?_; refine hκ.out _ ?_; clear hκ κ
       refine uany_one (i := 5) (by kernel_rfl) ?_; refine aOne_k ?_; intro κ hκ; refine Xr ?_
       refine ACalls.mono (hNx _) ?_
       rintro _ σ4 ⟨n, rfl, hNR, hK4⟩
       refine Xr ?_
       refine hκ.out _ _ ⟨kept_keep hK4, ?_⟩; clear hκ κ
       refine uany_one (i := 6) (by kernel_rfl) ?_; refine aOne_k ?_; intro κ hκ; refine Xr ?_
       refine hκ.out _ _ ⟨kept_keep hK4, ?_⟩; clear hκ κ
       exact uany_done (by kernel_rfl) ⟨rfl, n, hNR, by simp [upd], by simp [upd, *], by simp [upd, *], hK4⟩
      ·rintro e s3 σ4 ⟨rfl, n, hNR, g5, e0, e3, hK4⟩
       have hW4 := hW3.keep hK4
       have hob4 : σ4.obj ow = wc1 := by rw [hK4.obj _ hW3.lo, hob3]
       have kno4 := hK4.nobj
       have hxb4 : σ4.obj σ.nobj = [sc (.bool x.out), sc (.bool x.head.nt), str x.head.pred, sl ih x.head.terms.length (x.head.terms.map str), sl id x.body.length b] := by rw [hK4.obj _ (by omega), hxb3]
       have hKW5 := hKW4.trans (KW.ofKeep hK4)
       clear hNx hob3 hxb3 hKW3 hKW4 f0 f3 g48
       rcases hNR with ⟨rfl, hleaf⟩ | ⟨j, b0, rfl, hb0, hp0⟩
       ·have hd0 : decide ((-1 : Int) < 0) = true := by decide
        have hDe := fun σ => denied_spec x _ A cA ida hcx hfit hA.el hAl (fun a ha => (hA.cl a ha).2.2) σ
        repeat' (first
 |with_reducible first|apply Xa|apply Xb|(refine Xc ?_;intro κ hκ)|(apply hκ.out;clear hκ κ)|apply Xd|apply Xe|apply Xf
 |((with_reducible first|refine Xl ?_ ?_|refine Xm ?_ ?_|refine Xk ?_ ?_)<;> intro h hari<;> try exact Xp)
 |((with_reducible refine aapp_go ?_);refine Xt ?_;intro idn σn hOn hKn eobj enobj ever entop)
 |((with_reducible refine aappn_go ?_);refine Xu ?_)
 |refine Xr ?_
 |exact True.intro
 |((with_reducible refine Xg ?_);refine Xj ?_)
 |(apply hκ.out;clear hκ κ))
        refine awp_mono (Q := fun e s4 σ'' => e = .normal ∧ ∃ q, s4 69 = sc (.bool q) ∧ (q = true ↔ ∀ a ∈ x.body, unN a ∉ A) ∧ s4 0 = ptr ow 0 ∧ s4 3 = ptr σ.nobj 0 ∧ Keep σ4 σ'') ?_ ?_
        ·cases fz with
         | true =>
          have HB : Abs.Hid (∀ a ∈ x.body, unN a ∉ A) := fun a ha => by have := hleaf a ha; simp [Pos] at this
          refine awp_draw_h follows_mixed (fun _ => True) [] [0, 1, 2, 3, 4, 5, 6, 7, 8, 9] 3 #[true, true, true, true, true, true, true, true, true, true, false, false, false] (by kernel_rfl) (fun _ _ _ h => by cases h.1) ?_; intro κ hκ; refine Xr ?_; refine hκ.out _ ?_; clear hκ κ
          refine uany_one (i := 10) (by kernel_rfl) ?_; refine aOne_k ?_; intro κ hκ; refine Xr ?_
          refine hκ.out _ _ ⟨kept_refl, ?_⟩; clear hκ κ
          refine uany_rest [11, 12] (by kernel_rfl) (by kernel_rfl) (fun _ _ _ h => by cases h.1) (Nat.le_refl _) (fun o ho _ => rfl) ?_
          intro κ hκ
          refine Xr ?_
          refine hκ.out _ _ ⟨rfl, true, by simp [upd, *], ⟨fun _ => HB.out, fun _ => rfl⟩, by simp [upd, *], by simp [upd, *], Keep.refl _⟩
         | false =>
          have hnt : ∀ a ∈ x.body, a.nt = true := fun a ha => by have := hleaf a ha; simpa [Pos] using this
          refine awp_draw_h follows_mixed (fun _ => True) [] [0, 1, 2, 3, 4, 5, 6, 7, 8, 9] 3 #[true, true, true, true, true, true, true, true, true, true, false, false, false] (by kernel_rfl) (fun _ _ _ h => by cases h.1) ?_; intro κ hκ; refine Xr ?_; refine hκ.out _ ?_; clear hκ κ
          refine uany_one (i := 10) (by kernel_rfl) ?_; refine aOne_k ?_; intro κ hκ; refine Xr ?_
          refine ACalls.mono (hDe _) ?_
          rintro _ σ5 ⟨bo, rfl, hbo, hK5⟩
          refine Xr ?_
          refine hκ.out _ _ ⟨kept_keep hK5, ?_⟩; clear hκ κ
          have HBO : Abs.Hid _ := hbo
          clear hbo
          refine uany_rest [11, 12] (by kernel_rfl) (by kernel_rfl) (fun _ _ _ h => by cases h.1) hK5.nobj (fun o ho _ => hK5.ver o ho) ?_
          intro κ hκ
          refine Xr ?_
          refine hκ.out _ _ ⟨rfl, !bo, by simp [upd, *], ?_, by simp [upd, *], by simp [upd, *], hK5⟩
          cases bo with
          | true =>
           obtain ⟨a, ha, -, hm⟩ := HBO.out.1 rfl
           exact ⟨fun h => (by cases h), fun h => absurd hm (h a ha)⟩
          | false => exact ⟨fun _ a ha hm => (by have := HBO.out.2 ⟨a, ha, hnt a ha, hm⟩; cases this), fun _ => rfl⟩
        ·rintro e s4 σ5 ⟨rfl, q, g69, hq, e0, e3, hK5⟩
         have hW5 := hW4.keep hK5
         have hob5 : σ5.obj ow = wc1 := by rw [hK5.obj _ hW4.lo, hob4]
         have kno5 := hK5.nobj
         have hxb5 : σ5.obj σ.nobj = [sc (.bool x.out), sc (.bool x.head.nt), str x.head.pred, sl ih x.head.terms.length (x.head.terms.map str), sl id x.body.length b] := by rw [hK5.obj _ (by omega), hxb4]
         have hKW6 := hKW5.trans (KW.ofKeep hK5)
         have hnew : x.head ∉ A ∧ x.head ∉ O := by
          have hg := (saf_head hH.saf hleaf).1
          exact ⟨fun h => (by have := HTH.out.2 ⟨hg, .inr h⟩; cases this), fun h => (by have := HTH.out.2 ⟨hg, .inl h⟩; cases this)⟩
         have hcost : ∀ k : Nat, (q = true ∧ k = 1 ∨ q = false ∧ k = 0) → N + 1 + O.length ≤ N + (O.length + k) + costN c0 A.length p := by
          intro k hk
          rcases hk with ⟨-, rfl⟩ | ⟨hqf, rfl⟩
          ·omega
          ·have hp0 : p = 0 := by
            rw [← hH.cnt, List.countP_eq_zero]
            intro a ha; rw [hleaf a ha]; simp
           rcases hH.neg with h' | h'
           ·rw [hp0, costN, h']; omega
           ·exfalso
            have : q = true := hq.2 fun a ha => by have h1 := h' a ha; rw [hleaf a ha] at h1; cases h1
            rw [this] at hqf; cases hqf
         clear hDe hd0 hK4 hK5 hW4 hob4 hxb4 hKW5
         cases q with
         | false =>
          have HQ : Abs.Hid (IntoQ fz A cA ida mo c0 p x ow ido O B N σ σ5) :=
           ⟨ido, O, oc, Bq, N + 1, hW5, hKW6, by rw [HBq.out]; exact into_leaf hH.cl hnd (by omega) hS hH.saf hleaf hnew (.inr ⟨fun h => (by have := hq.2 h; cases this), rfl⟩), by have := hcost 0 (.inr ⟨rfl, rfl⟩); omega⟩
          first | refine awp_cond_f g69 ?_ | (refine awp_seq ?_; refine awp_cond_f g69 ?_)
          repeat' (first
 |with_reducible first|apply Xa|apply Xb|(refine Xc ?_;intro κ hκ)|(apply hκ.out;clear hκ κ)|apply Xd|apply Xe|apply Xf
 |((with_reducible first|refine Xl ?_ ?_|refine Xm ?_ ?_|refine Xk ?_ ?_)<;> intro h hari<;> try exact Xp)
 |((with_reducible refine aapp_go ?_);refine Xt ?_;intro idn σn hOn hKn eobj enobj ever entop)
 |((with_reducible refine aappn_go ?_);refine Xu ?_)
 |refine Xr ?_
 |exact True.intro
 |((with_reducible refine Xg ?_);refine Xj ?_)
 |(apply hκ.out;clear hκ κ))
          first | exact ⟨_, rfl, HQ.out⟩ | exact HQ.out
         | true =>
          have HI : Abs.Hid (IntoR fz A mo x O (InB B) (O ++ [x.head]) (InB Bq)) := by
           rw [Abs.Hid, HBq.out]; exact into_leaf hH.cl hnd (by omega) hS hH.saf hleaf hnew (.inl ⟨hq.1 rfl, rfl⟩)
          have hcc := hcost 1 (.inl ⟨rfl, rfl⟩)
          have hLv : Live σ5 ido O.length := hW5.rw'.1 (ido, O.length) (by simp [rowsB])
          have hocl := EL.length EAtom_len hW5.oe
          clear hcost hq hnew
          first | refine awp_cond_t g69 ?_ | (refine awp_seq ?_; refine awp_cond_t g69 ?_)
          repeat' (first
 |with_reducible first|apply Xa|apply Xb|(refine Xc ?_;intro κ hκ)|(apply hκ.out;clear hκ κ)|apply Xd|apply Xe|apply Xf
 |((with_reducible first|refine Xl ?_ ?_|refine Xm ?_ ?_|refine Xk ?_ ?_)<;> intro h hari<;> try exact Xp)
 |((with_reducible refine aapp_go ?_);refine Xt ?_;intro idn σn hOn hKn eobj enobj ever entop)
 |((with_reducible refine aappn_go ?_);refine Xu ?_)
 |refine Xr ?_
 |exact True.intro
 |((with_reducible refine Xg ?_);refine Xj ?_)
 |(apply hκ.out;clear hκ κ))
          refine awp_mono (Q := fun e s5 σ'' => e = .normal ∧ IntoQ fz A cA ida mo c0 p x ow ido O B N σ σ'') ?_ ?_
          ·refine awp_draw_h follows_mixed (fun _ => True) [11] [0, 1, 2, 3, 4, 5, 6] 5 #[true, true, true, true, true, true, true, false, false, false, false, false] (by kernel_rfl) (fun _ _ _ h => by cases h.1) ?_; intro κ hκ; refine Xr ?_; refine hκ.out _ ?_; clear hκ κ
           refine uany_one (i := 7) (by kernel_rfl) ?_; refine aOne_k ?_; intro κ hκ; refine Xr ?_
           refine hκ.out _ _ ⟨kept_keep ((Keep.refl _).lay 1), ?_⟩; clear hκ κ
           refine uany_one (i := 8) (by kernel_rfl) ?_; refine aOne_k ?_; intro κ hκ; refine Xr ?_
           refine aApp_live (by first | exact tez_134) hLv (by decide) (by rfl) hocl (by rfl) (by rfl) (by decide) (by omega) (by omega) ?_
           intro idn σn hLn hidn hid1 eobj enobj ever entop etop
           refine Xr ?_
           refine hκ.out _ _ ⟨fun _ o ho _ => by rw [ever], ?_⟩; clear hκ κ
           have eow : σn.obj ow = wc1 := by rw [eobj, hob5]
           refine uany_one (i := 9) (by kernel_rfl) ?_; refine aOne_k ?_; intro κ hκ; refine Xr ?_
           refine hκ.out _ _ ⟨fun _ o ho _ => by rw [ever], ?_⟩; clear hκ κ
           refine uany_one (i := 10) (by kernel_rfl) ?_; refine aOne_k ?_; intro κ hκ; refine Xr ?_
           refine hκ.out _ _ ⟨fun _ o ho _ => by rw [ever], ?_⟩; clear hκ κ
           refine uany_one (i := 11) (by kernel_rfl) ?_; refine aOne_k ?_; intro κ hκ; refine Xr ?_
           refine hκ.out _ _ ⟨kept_last rfl, ?_⟩; clear hκ κ
           refine uany_done (by kernel_rfl) ⟨rfl, ?_⟩
           have hadd := WOb.addO (σ' := σn.put ow (wc1.set 3 (sl idn (O.length + 1) (oc ++ [sc (.bool x.head.nt), str x.head.pred, sl ih x.head.terms.length (x.head.terms.map str)])))) (id' := idn) hW5 (a := x.head) ⟨ih, rfl⟩ hLn hidn hid1 (fun o ho hne => by
            rw [show ∀ (S : St) c, (S.put ow c).obj o = S.obj o from fun S c => by simp [St.put, hne], eobj]) (fun o ho hne => by
            rw [show ∀ (S : St) c, (S.put ow c).ver o = S.ver o from fun S c => by simp [St.put, hne], ever]) (by simp only [put_nobj]; omega) (by simp only [put_ntop]; omega) (fun j hj hne => by rw [put_top]; exact etop j hj hne) (by rw [put_same, HWC.out])
           exact ⟨idn, O ++ [x.head], _, Bq, N + 1, hadd.1, hKW6.trans hadd.2, HI.out, by simp only [List.length_append, List.length_cons, List.length_nil]; omega⟩
          ·rintro e s5 σ6 ⟨rfl, HQ⟩
           have HQ : Abs.Hid _ := HQ
           repeat' (first
 |with_reducible first|apply Xa|apply Xb|(refine Xc ?_;intro κ hκ)|(apply hκ.out;clear hκ κ)|apply Xd|apply Xe|apply Xf
 |((with_reducible first|refine Xl ?_ ?_|refine Xm ?_ ?_|refine Xk ?_ ?_)<;> intro h hari<;> try exact Xp)
 |((with_reducible refine aapp_go ?_);refine Xt ?_;intro idn σn hOn hKn eobj enobj ever entop)
 |((with_reducible refine aappn_go ?_);refine Xu ?_)
 |refine Xr ?_
 |exact True.intro
 |((with_reducible refine Xg ?_);refine Xj ?_)
 |(apply hκ.out;clear hκ κ))
           first | exact ⟨_, rfl, HQ.out⟩ | exact HQ.out | exact ⟨_, rfl⟩
       ·have hd0 : decide ((j : Int) < 0) = false := by simp
        have hpos : 0 < p := by
         rw [← hH.cnt, List.countP_pos_iff]
         exact ⟨b0, List.mem_of_getElem? hb0, hp0⟩
        obtain ⟨q, rfl⟩ : ∃ q, p = q + 1 := ⟨p - 1, by omega⟩
        have hIH := IH q rfl
        have hbl0 : 0 < x.body.length := by have := (List.getElem?_eq_some_iff.1 hb0).1; omega
        have hcst : costN c0 A.length (q + 1) = 1 + A.length * costN c0 A.length q := rfl
        have HL0 : Abs.Hid (LoopR fz A mo x j O (InB B) 0 O (InB Bq)) := by rw [Abs.Hid, HBq.out]; exact loop_start hH.cl hbl0 hnd hlen hS
        have hAcl := EL.length EAtom_len hA.el
        repeat' (first
 |with_reducible first|apply Xa|apply Xb|(refine Xc ?_;intro κ hκ)|(apply hκ.out;clear hκ κ)|apply Xd|apply Xe|apply Xf
 |((with_reducible first|refine Xl ?_ ?_|refine Xm ?_ ?_|refine Xk ?_ ?_)<;> intro h hari<;> try exact Xp)
 |((with_reducible refine aapp_go ?_);refine Xt ?_;intro idn σn hOn hKn eobj enobj ever entop)
 |((with_reducible refine aappn_go ?_);refine Xu ?_)
 |refine Xr ?_
 |exact True.intro
 |((with_reducible refine Xg ?_);refine Xj ?_)
 |(apply hκ.out;clear hκ κ))
        refine awp_loop (fun m s σ' => ∃ (k ido' N' : Nat) (O' : List RAtom) (oc' : List AV) (B' : BK), m = A.length - k ∧ k ≤ A.length ∧ s 0 = ptr ow 0 ∧ s 3 = ptr σ.nobj 0 ∧ s 5 = sc (.int .i64 j) ∧ s 6 = sc (.int .i64 k) ∧ WOb σ' ow ida A.length cA fz mo ido' O' oc' B' N' ∧ KW ow (rowsB ido O.length B) (rowsB ido' O'.length B') σ σ' ∧ σ.nobj < σ'.nobj ∧ σ'.obj σ.nobj = [sc (.bool x.out), sc (.bool x.head.nt), str x.head.pred, sl ih x.head.terms.length (x.head.terms.map str), sl id x.body.length b] ∧ N' + O.length ≤ N + 1 + O'.length + k * costN c0 A.length q ∧ (O'.length : Int) ≤ mo + 1 ∧ Abs.Hid (LoopR fz A mo x j O (InB B) k O' (InB B') ∧ ∀ a ∈ O', clA a)) A.length
         ⟨0, ido, N + 1, O, oc, Bq, by omega, by omega, by simp [upd, *], by simp [upd, *], by simp [upd, *], by simp [upd], hW4, hKW5, by omega, hxb4, by omega, hlen, HL0.out, hOc⟩ ?_
        clear hd0 hK4 hW4 hob4 hxb4 hKW5 hW3 hq0 hqh hq1 hq3 hql HWC HL0 HTH hgt g5 e0 e3 kno4 kno3
        rintro m s σ5 ⟨k, ido', N', O', oc', B', rfl, hk, h0, h3, h5, h6, hW5, hKW5, hno5, hxb5, hcnt, hOl, hLp⟩
        have hob5 := hW5.ob
        have hlo5 := hW5.lo
        have hr0 : (wcells ida A.length cA fz mo ido' O'.length oc' B')[0]? = some (sl ida A.length cA) := rfl
        have hrh : (wcells ida A.length cA fz mo ido' O'.length oc' B').head? = some (sl ida A.length cA) := rfl
        have hrl := wcells_len (ida := ida) (nA := A.length) (cA := cA) (fz := fz) (mo := mo) (ido := ido') (nO := O'.length) (oc := oc') hW5.bl
        generalize hwc : wcells ida A.length cA fz mo ido' O'.length oc' B' = wc2 at hob5 hr0 hrh hrl
        clear hwc
        have kno5 := hKW5.nobj
        by_cases hlt : k < A.length
        ·have hget := List.getElem?_eq_getElem hlt
         have hgm := List.getElem_mem hlt
         obtain ⟨it, r, hd⟩ := EL_atom hA.el hget
         generalize A[k] = t at hget hgm hd
         have htl := (hA.cl t hgm).2.2
         have hBe := fun σ => rbecome_spec x _ j t _ b0 hcx ⟨it, rfl⟩ hfit hb0 htl σ
         have HG : Abs.Hid (A[k]? = some t) := hget
         clear hget
         repeat' (first
 |with_reducible first|apply Xa|apply Xb|(refine Xc ?_;intro κ hκ)|(apply hκ.out;clear hκ κ)|apply Xd|apply Xe|apply Xf
 |((with_reducible first|refine Xl ?_ ?_|refine Xm ?_ ?_|refine Xk ?_ ?_)<;> intro h hari<;> try exact Xp)
 |((with_reducible refine aapp_go ?_);refine Xt ?_;intro idn σn hOn hKn eobj enobj ever entop)
 |((with_reducible refine aappn_go ?_);refine Xu ?_)
 |refine Xr ?_
 |exact True.intro
 |((with_reducible refine Xg ?_);refine Xj ?_)
 |(apply hκ.out;clear hκ κ))
         refine awp_mono (Q := fun e s' σ'' => e = .normal ∧ s' 0 = ptr ow 0 ∧ s' 3 = ptr σ.nobj 0 ∧ s' 5 = sc (.int .i64 j) ∧ s' 6 = sc (.int .i64 k) ∧ Keep σ5 σ'' ∧ ∃ y iy jy cy ok o7, s' 7 = ptr o7 0 ∧ s' 8 = sc (.bool ok) ∧ EL EAtom y.body cy ∧ BecR x j t y ok ∧ σ5.nobj ≤ o7 ∧ o7 < σ''.nobj ∧ σ''.obj o7 = [sc (.bool y.out), sc (.bool y.head.nt), str y.head.pred, sl iy y.head.terms.length (y.head.terms.map str), sl jy y.body.length cy]) ?_ ?_
         ·refine awp_draw_h follows_mixed (fun _ => True) [] [0, 1, 2, 3, 4, 5, 6, 7, 8] 7 #[true, true, true, true, true, true, true, true, true, false, false, false, false, false, false, false] (by kernel_rfl) (fun _ _ _ h => by cases h.1) ?_; intro κ hκ; refine Xr ?_; refine hκ.out _ ?_; clear hκ κ
          refine uany_all (rs := [9, 13]) (by kernel_rfl) (by simp) ?_
          intro i hi
          simp only [List.mem_cons, List.not_mem_nil, or_false] at hi
          rcases hi with rfl | rfl
          ·refine aOne_k ?_
           intro κ hκ
           refine Xr ?_
           refine ACalls.mono (hBe _) ?_
           rintro _ σ6 ⟨y, cy0, ok, rfl, hcy, hbr, hK6⟩
           obtain ⟨iy, jy, cy, hcy2, rfl⟩ := hcy.cells
           unfold itemCells
           refine Xr ?_
           refine hκ.out _ _ ⟨kept_keep hK6, ?_⟩; clear hκ κ
           have kno6 := hK6.nobj
           refine uany_pure (i := 10) _ (tp [ag [sc (.bool y.out), sc (.bool y.head.nt), str y.head.pred, sl iy y.head.terms.length (y.head.terms.map str), sl jy y.body.length cy], sc (.bool ok)]) rfl rfl rfl rfl rfl (by kernel_rfl) (by kernel_rfl) (fun _ _ _ h => by cases h.1) (fun o ho _ => hK6.ver o ho) ?_
           refine uany_pure (i := 11) _ (ag [sc (.bool y.out), sc (.bool y.head.nt), str y.head.pred, sl iy y.head.terms.length (y.head.terms.map str), sl jy y.body.length cy]) rfl rfl rfl rfl rfl (by kernel_rfl) (by kernel_rfl) (fun _ _ _ h => by cases h.1) (fun o ho _ => hK6.ver o ho) ?_
           refine uany_pure (i := 12) _ (sc (.bool ok)) rfl rfl rfl rfl rfl (by kernel_rfl) (by kernel_rfl) (fun _ _ _ h => by cases h.1) (fun o ho _ => hK6.ver o ho) ?_
           refine uany_one (i := 13) (by kernel_rfl) ?_; refine aOne_k ?_; intro κ hκ; refine Xr ?_
           refine hκ.out _ _ ⟨kept_keep (hK6.new _), ?_⟩; clear hκ κ
           refine uany_one (i := 14) (by kernel_rfl) ?_; refine aOne_k ?_; intro κ hκ; refine Xr ?_
           refine hκ.out _ _ ⟨kept_keep ((hK6.new _).put (by omega) _), ?_⟩; clear hκ κ
           refine uany_one (i := 15) (by kernel_rfl) ?_; refine aOne_k ?_; intro κ hκ; refine Xr ?_
           refine hκ.out _ _ ⟨kept_keep ((hK6.new _).put (by omega) _), ?_⟩; clear hκ κ
           refine uany_done (by kernel_rfl) ⟨rfl, by simp [upd, *], by simp [upd, *], by simp [upd, *], by simp [upd, *], (hK6.new _).put (by omega) _, y, iy, jy, cy, ok, σ6.nobj, by simp [upd], by simp [upd], hcy2, hbr, by omega, by simp only [put_nobj, new_nobj]; omega, put_same⟩
          ·refine aOne_k ?_
           intro κ hκ
           refine Xr ?_
           refine hκ.out _ _ ⟨kept_keep ((Keep.refl _).new _), ?_⟩; clear hκ κ
           refine uany_one (i := 9) (by kernel_rfl) ?_; refine aOne_k ?_; intro κ hκ; refine Xr ?_
           refine ACalls.mono (hBe _) ?_
           rintro _ σ6 ⟨y, cy0, ok, rfl, hcy, hbr, hK6⟩
           obtain ⟨iy, jy, cy, hcy2, rfl⟩ := hcy.cells
           unfold itemCells
           have hK7 : Keep σ5 σ6 := ((Keep.refl σ5).new _).trans hK6
           have kno6 := hK6.nobj
           have kob6 := hK6.obj σ5.nobj (by simp only [new_nobj]; omega)
           rw [new_same] at kob6
           simp only [new_nobj] at kno6
           refine Xr ?_
           refine hκ.out _ _ ⟨kept_keep hK7, ?_⟩; clear hκ κ
           refine uany_pure (i := 10) _ (tp [ag [sc (.bool y.out), sc (.bool y.head.nt), str y.head.pred, sl iy y.head.terms.length (y.head.terms.map str), sl jy y.body.length cy], sc (.bool ok)]) rfl rfl rfl rfl rfl (by kernel_rfl) (by kernel_rfl) (fun _ _ _ h => by cases h.1) (fun o ho _ => hK7.ver o ho) ?_
           refine uany_pure (i := 11) _ (ag [sc (.bool y.out), sc (.bool y.head.nt), str y.head.pred, sl iy y.head.terms.length (y.head.terms.map str), sl jy y.body.length cy]) rfl rfl rfl rfl rfl (by kernel_rfl) (by kernel_rfl) (fun _ _ _ h => by cases h.1) (fun o ho _ => hK7.ver o ho) ?_
           refine uany_pure (i := 12) _ (sc (.bool ok)) rfl rfl rfl rfl rfl (by kernel_rfl) (by kernel_rfl) (fun _ _ _ h => by cases h.1) (fun o ho _ => hK7.ver o ho) ?_
           refine uany_one (i := 14) (by kernel_rfl) ?_; refine aOne_k ?_; intro κ hκ; refine Xr ?_
           refine hκ.out _ _ ⟨kept_keep (hK7.put (Nat.le_refl _) _), ?_⟩; clear hκ κ
           refine uany_one (i := 15) (by kernel_rfl) ?_; refine aOne_k ?_; intro κ hκ; refine Xr ?_
           refine hκ.out _ _ ⟨kept_keep (hK7.put (Nat.le_refl _) _), ?_⟩; clear hκ κ
           refine uany_done (by kernel_rfl) ⟨rfl, by simp [upd, *], by simp [upd, *], by simp [upd, *], by simp [upd, *], hK7.put (Nat.le_refl _) _, y, iy, jy, cy, ok, σ5.nobj, by simp [upd], by simp [upd], hcy2, hbr, by omega, by simp only [put_nobj]; omega, put_same⟩
         ·rintro e s' σ6 ⟨rfl, h0, h3, h5, h6, hK6, y, iy, jy, cy, ok, o7, h7, h8, hcy, hbr, hl7, hg7, hob7⟩
          have kno6 := hK6.nobj
          have hW6 := hW5.keep hK6
          have hKW6 := hKW5.trans (KW.ofKeep hK6)
          have hxb6 : σ6.obj σ.nobj = [sc (.bool x.out), sc (.bool x.head.nt), str x.head.pred, sl ih x.head.terms.length (x.head.terms.map str), sl id x.body.length b] := by rw [hK6.obj _ hno5, hxb5]
          obtain ⟨hyf, hok⟩ := hbr
          clear hBe hob5 hxb5 hW5 hKW5 hr0 hrh hrl hd hK6
          rcases hok with ⟨rfl, hbe⟩ | ⟨rfl, hbe⟩
          ·obtain ⟨hH2, hwl2⟩ := hH.step hb0 hp0 (hA.gnd t hgm) (hA.cl t hgm) hbe
           have hyc : EItem y [sc (.bool y.out), sc (.bool y.head.nt), str y.head.pred, sl iy y.head.terms.length (y.head.terms.map str), sl jy y.body.length cy] := ⟨[sc (.bool y.head.nt), str y.head.pred, sl iy y.head.terms.length (y.head.terms.map str)], jy, cy, ⟨iy, rfl⟩, hcy, rfl⟩
           have hWo := fun σ => rwithout_spec y _ j hyc hyf.1 σ
           have HLP : Abs.Hid (LoopR fz A mo x j O (InB B) k O' (InB B')) := hLp.out.1
           have HCL : Abs.Hid (∀ a ∈ O', clA a) := hLp.out.2
           have hmul : k * costN c0 A.length q + costN c0 A.length q ≤ A.length * costN c0 A.length q := by
            rw [← Nat.succ_mul]; exact Nat.mul_le_mul_right _ hlt
           have hIn : ∀ c', EItem (woL y j) c' → ∀ σ, WOb σ ow ida A.length cA fz mo ido' O' oc' B' N' → ACalls Tryz.prog 225 [ptr ow 0, ag c'] σ fun r σ' => IntoQ fz A cA ida mo c0 q (woL y j) ow ido' O' B' N' σ σ' := fun c' hc' σ hW => hIH (woL y j) c' hc' hH2 ow ido' O' oc' B' N' σ hW (by omega) HLP.out.nd hOl HCL.out (by rw [hwl2]; exact HLP.out.seen)
           clear hLp
           repeat' (first
 |with_reducible first|apply Xa|apply Xb|(refine Xc ?_;intro κ hκ)|(apply hκ.out;clear hκ κ)|apply Xd|apply Xe|apply Xf
 |((with_reducible first|refine Xl ?_ ?_|refine Xm ?_ ?_|refine Xk ?_ ?_)<;> intro h hari<;> try exact Xp)
 |((with_reducible refine aapp_go ?_);refine Xt ?_;intro idn σn hOn hKn eobj enobj ever entop)
 |((with_reducible refine aappn_go ?_);refine Xu ?_)
 |((with_reducible refine Xh ?_);first|(refine Xi (hWo _) ?_;rintro _ _ ⟨c',rfl,hc',hK7⟩;(have kno7:=hK7.nobj;have hI2:=hIn c' hc'))|(refine Xi (hI2 _ (hW6.keep (by exact Xs))) ?_;rintro _ _ ⟨ido2,O2,oc2,B2q,N2,hW7,hKW7,hI7,hc7⟩))
 |refine Xr ?_
 |exact True.intro
 |((with_reducible refine Xg ?_);refine Xj ?_)
 |(apply hκ.out;clear hκ κ))
           rename_i σ8 σ9
           have hKW8 := (hKW6.trans (KW.ofKeep hK7)).trans hKW7
           have hne : σ.nobj ≠ ow := by omega
           have hxb8 : σ9.obj σ.nobj = [sc (.bool x.out), sc (.bool x.head.nt), str x.head.pred, sl ih x.head.terms.length (x.head.terms.map str), sl id x.body.length b] := by rw [hKW7.obj _ (by omega) hne, hK7.obj _ (by omega), hxb6]
           have kno9 := hKW7.nobj
           have HN : Abs.Hid (LoopR fz A mo x j O (InB B) (k + 1) O2 (InB B2q) ∧ ∀ a ∈ O2, clA a) := ⟨loop_some hA.gnd hH.cl.1 hb0 hp0 HLP.out HG.out hbe hI7 hwl2, into_cl hA hH2 HCL.out hI7⟩
           have hle2 : N2 + O.length ≤ N + 1 + O2.length + (k + 1) * costN c0 A.length q := by rw [Nat.succ_mul]; omega
           have hO2 := hI7.len
           refine ⟨A.length - (k + 1), by omega, k + 1, ido2, N2, O2, oc2, B2q, ?_⟩
           ((repeat' with_reducible refine And.intro ?_ ?_)<;> first|exact Xq|exact (HN)|exact (hW7)|exact (hKW8)|exact (hle2)|exact Xs)
          ·have HN : Abs.Hid (LoopR fz A mo x j O (InB B) (k + 1) O' (InB B') ∧ ∀ a ∈ O', clA a) := ⟨loop_none hLp.out.1 HG.out hbe, hLp.out.2⟩
           have hle2 : N' + O.length ≤ N + 1 + O'.length + (k + 1) * costN c0 A.length q := by rw [Nat.succ_mul]; omega
           clear hbe
           repeat' (first
 |with_reducible first|apply Xa|apply Xb|(refine Xc ?_;intro κ hκ)|(apply hκ.out;clear hκ κ)|apply Xd|apply Xe|apply Xf
 |((with_reducible first|refine Xl ?_ ?_|refine Xm ?_ ?_|refine Xk ?_ ?_)<;> intro h hari<;> try exact Xp)
 |((with_reducible refine aapp_go ?_);refine Xt ?_;intro idn σn hOn hKn eobj enobj ever entop)
 |((with_reducible refine aappn_go ?_);refine Xu ?_)
 |refine Xr ?_
 |exact True.intro
 |((with_reducible refine Xg ?_);refine Xj ?_)
 |(apply hκ.out;clear hκ κ))
           refine ⟨A.length - (k + 1), by omega, k + 1, ido', N', O', oc', B', ?_⟩
           ((repeat' with_reducible refine And.intro ?_ ?_)<;> first|exact Xq|exact (HN)|exact (hW6)|exact (hKW6)|exact (hle2)|exact Xs)
        ·have hkl : k = A.length := by omega
         subst hkl
         have HQ : Abs.Hid (IntoQ fz A cA ida mo c0 (q + 1) x ow ido O B N σ σ5) :=
          ⟨ido', O', oc', B', N', hW5, hKW5, loop_end hA.gnd hH.cl hb0 hp0 hS hLp.out.1, by rw [hcst]; omega⟩
         clear hLp hW5 hKW5
         repeat' (first
 |with_reducible first|apply Xa|apply Xb|(refine Xc ?_;intro κ hκ)|(apply hκ.out;clear hκ κ)|apply Xd|apply Xe|apply Xf
 |((with_reducible first|refine Xl ?_ ?_|refine Xm ?_ ?_|refine Xk ?_ ?_)<;> intro h hari<;> try exact Xp)
 |((with_reducible refine aapp_go ?_);refine Xt ?_;intro idn σn hOn hKn eobj enobj ever entop)
 |((with_reducible refine aappn_go ?_);refine Xu ?_)
 |refine Xr ?_
 |exact True.intro
 |((with_reducible refine Xg ?_);refine Xj ?_)
 |(apply hκ.out;clear hκ κ))
         first | exact ⟨_, rfl, HQ.out⟩ | exact HQ.out | exact ⟨_, rfl⟩
end Go.Proofs.YtmoeoppbmhfbpaaGreatDoorY
