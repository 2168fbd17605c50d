import Derived.Test.YtmoeoppbmhfbpaaGreatDoorBEngW
/- The program's engine: does a query hold? -/
namespace Go.Proofs.YtmoeoppbmhfbpaaGreatDoorB
open Go.Abs
set_option linter.unusedSimpArgs false
set_option linter.unusedVariables false
set_option maxRecDepth 100000
theorem putP_len (v n : Int) (p : Part) : (putP v n p).a.ts.length = p.a.ts.length ∧ (putP v n p).tups.length ≤ p.tups.length ∧ ∀ t ∈ (putP v n p).tups, t ∈ p.tups := by
 unfold putP
 split
 ·exact ⟨by simp [eputTs], List.length_filter_le _ _, fun t ht => (List.mem_filter.1 ht).1⟩
 ·exact ⟨rfl, Nat.le_refl _, fun t ht => ht⟩
theorem putP_has {v n : Int} {p : Part} {w : Int} : hasV (putP v n p).a.ts w = true ↔ hasV p.a.ts w = true ∧ w ≠ v := by
 unfold putP
 by_cases h : hasV p.a.ts v = true
 ·rw [if_pos h]; exact hasV_put (a := p.a)
 ·rw [if_neg h]
  exact ⟨fun hw => ⟨hw, fun e => h (e ▸ hw)⟩, fun hw => hw.1⟩
theorem inQ_put {q : Qry} {v n w : Int} (h : inQ (eputQ v n q) w) : inQ q w ∧ w ≠ v := by
 obtain ⟨a, ha, hw⟩ := h
 unfold atomsQ eputQ at ha
 simp only [List.mem_cons, List.mem_append, List.mem_map] at ha
 rcases ha with rfl | ⟨p', ⟨p, hp, rfl⟩, rfl⟩ | ⟨b, hb, rfl⟩
 ·have := hasV_put.1 hw
  exact ⟨⟨q.head, by simp [atomsQ], this.1⟩, this.2⟩
 ·have := putP_has.1 hw
  exact ⟨⟨p.a, part_in hp, this.1⟩, this.2⟩
 ·have := hasV_put.1 hw
  exact ⟨⟨b, by simp [atomsQ, hb], this.1⟩, this.2⟩
theorem qall_put {q : Qry} {v n : Int} (h : QAll q) : QAll (eputQ v n q) := by
 have hm : ∀ p ∈ (eputQ v n q).parts, ∃ p0 ∈ q.parts, putP v n p0 = p := fun p hp => List.mem_map.1 hp
 have hmn : ∀ a ∈ (eputQ v n q).nots, ∃ a0 ∈ q.nots, eputA v n a0 = a := fun a ha => List.mem_map.1 ha
 refine ⟨⟨by simp [eputQ, eputA, eputTs]; exact h.ok.hd, by simp [eputQ]; exact h.ok.pl, by simp [eputQ]; exact h.ok.nl, fun p hp => ?_, fun p hp => ?_, fun p hp => ?_, ?_⟩, fun p hp t ht => ?_, wp_put h.w, fun w hw => ?_⟩
 ·obtain ⟨p0, h0, rfl⟩ := hm p hp; rw [(putP_len v n p0).1]; exact h.ok.pa p0 h0
 ·obtain ⟨p0, h0, rfl⟩ := hm p hp; exact Nat.le_trans (putP_len v n p0).2.1 (h.ok.pt p0 h0)
 ·obtain ⟨p0, h0, rfl⟩ := hm p hp; exact fun t ht => h.ok.p3 p0 h0 t ((putP_len v n p0).2.2 t ht)
 ·intro a ha
  obtain ⟨a0, h0, rfl⟩ := hmn a ha
  simp [eputA, eputTs]; exact h.ok.na a0 h0
 ·obtain ⟨p0, h0, rfl⟩ := hm p hp
  rw [(putP_len v n p0).1]
  exact h.n p0 h0 t ((putP_len v n p0).2.2 t ht)
 ·have hw' : (hasV q.head.ts w = true ∨ ∃ a ∈ q.nots, hasV a.ts w = true) ∧ w ≠ v := by
   rcases hw with hw | ⟨a, ha, hw⟩
   ·have := hasV_put.1 hw
    exact ⟨.inl this.1, this.2⟩
   ·obtain ⟨a0, h0, rfl⟩ := hmn a ha
    have := hasV_put.1 hw
    exact ⟨.inr ⟨a0, h0, this.1⟩, this.2⟩
  obtain ⟨p, hp, hpv⟩ := h.wf w hw'.1
  exact ⟨putP v n p, List.mem_map.2 ⟨p, hp, rfl⟩, putP_has.2 ⟨hpv, hw'.2⟩⟩
theorem qall_sub {q q' : Qry} (h : QAll q) (hh : q'.head.ts.length ≤ 3) (hp : q'.parts.Sublist q.parts) (hn : q'.nots.Sublist q.nots) (hw : WFv q') : QAll q' :=
 ⟨⟨hh, Nat.le_trans hp.length_le h.ok.pl, Nat.le_trans hn.length_le h.ok.nl, fun p hp' => h.ok.pa p (hp.subset hp'), fun p hp' => h.ok.pt p (hp.subset hp'), fun p hp' => h.ok.p3 p (hp.subset hp'), fun a ha => h.ok.na a (hn.subset ha)⟩,
  fun p hp' => h.n p (hp.subset hp'), fun p hp' => h.w p (hp.subset hp'), hw⟩
theorem inQ_part {q : Qry} (hw : WFv q) {v : Int} (h : inQ q v) : ∃ p ∈ q.parts, hasV p.a.ts v = true := by
 obtain ⟨a, ha, hv⟩ := h
 unfold atomsQ at ha
 simp only [List.mem_cons, List.mem_append, List.mem_map] at ha
 rcases ha with rfl | ⟨p, hp, rfl⟩ | ha
 ·exact hw v (.inl hv)
 ·exact ⟨p, hp, hv⟩
 ·exact hw v (.inr ⟨a, ha, hv⟩)
theorem wfv_near {q : Qry} {rs : List Int} (hw : WFv q) (hC : ClosedR (atomsQ q) rs rs) (hh : ∀ v, hasV q.head.ts v = true → v ∈ rs) : WFv (nearQ q rs) := fun v hv => by
 have hr : v ∈ rs ∧ ∃ p ∈ q.parts, hasV p.a.ts v = true := by
  rcases hv with h | ⟨a, ha, h⟩
  ·exact ⟨hh v h, hw v (.inl h)⟩
  ·obtain ⟨h1, h2⟩ := List.mem_filter.1 ha
   exact ⟨hC a (by unfold atomsQ; simp [h1]) h2 v (hasV_iff.1 h), hw v (.inr ⟨a, h1, h⟩)⟩
 obtain ⟨h1, p, hp, hpv⟩ := hr
 exact ⟨p, List.mem_filter.2 ⟨hp, List.any_eq_true.2 ⟨v, h1, hpv⟩⟩, hpv⟩
theorem wfv_far {q : Qry} {rs : List Int} (hw : WFv q) (hC : ClosedR (atomsQ q) rs rs) : WFv (farQ q rs) := fun v hv => by
 rcases hv with h | ⟨a, ha, h⟩
 ·simp [farQ, hasV] at h
 ·obtain ⟨h1, h2⟩ := List.mem_filter.1 ha
  obtain ⟨p, hp, hpv⟩ := hw v (.inr ⟨a, h1, h⟩)
  refine ⟨p, List.mem_filter.2 ⟨hp, ?_⟩, hpv⟩
  cases hb : inR rs p.a with
  | false => rfl
  | true =>
   have := hC p.a (part_in hp) hb v (hasV_iff.1 hpv)
   have : inR rs a = true := List.any_eq_true.2 ⟨v, this, h⟩
   rw [this] at h2
   cases h2
theorem NegOk.sub {neg : Int → Tup → Prop} {M : MM} {q q' : Qry} (h : NegOk neg M q) (hs : ∀ a ∈ q'.nots, ∃ b ∈ q.nots, a.p = b.p) : NegOk neg M q' := fun a ha => by
 obtain ⟨b, hb, e⟩ := hs a ha
 rw [e]
 exact h b hb
theorem NegOk.put {neg : Int → Tup → Prop} {M : MM} {q : Qry} (h : NegOk neg M q) (v n : Int) : NegOk neg M (eputQ v n q) := h.sub fun a ha => by
 obtain ⟨b, hb, rfl⟩ := List.mem_map.1 ha
 exact ⟨b, hb, rfl⟩
theorem NegOk.near {neg : Int → Tup → Prop} {M : MM} {q : Qry} (h : NegOk neg M q) (rs : List Int) : NegOk neg M (nearQ q rs) := h.sub fun a ha => ⟨a, (List.mem_filter.1 ha).1, rfl⟩
theorem NegOk.far {neg : Int → Tup → Prop} {M : MM} {q : Qry} (h : NegOk neg M q) (rs : List Int) : NegOk neg M (farQ q rs) := h.sub fun a ha => ⟨a, (List.mem_filter.1 ha).1, rfl⟩
theorem setl_var {a : Atm} (h : setl a.ts = false) : ∃ v, hasV a.ts v = true := by
 unfold setl at h
 rw [List.all_eq_false] at h
 obtain ⟨⟨b, w⟩, h1, h2⟩ := h
 cases b with
 | false => simp at h2
 | true => exact ⟨w, hasV_iff.2 h1⟩
def HoldsAt (neg : Int → Tup → Prop) (om ot : Nat) (M : MM) (d b : Int) (V : List Int) : Prop := ∀ (q : Qry) (c : List AV), EQ q c → QAll q → NegOk neg M q → QV q → q.head.ts = [] → (∀ v, inQ q v → v ∈ V) → ∀ σ, MOb σ om ot M d b → ACalls Tryz.prog 170 [ptr om 0, ag c] σ fun r σ' => (∃ b, r = sc (.bool b) ∧ (b = true ↔ ∃ ν, Sol neg q ν)) ∧ Keep σ σ'
set_option maxHeartbeats 16000000 in
theorem eholdsFor_spec (neg : Int → Tup → Prop) (om ot : Nat) (M : MM) (d b : Int) (V : List Int) (hH : HoldsAt neg om ot M d b V) (q : Qry) (c : List AV) (v : Int) (hc : EQ q c) (hA : QAll q) (hNg : NegOk neg M q) (hV : QV q) (hh : q.head.ts = []) (hin : ∀ w, inQ q w → w ≠ v → w ∈ V) (σ : St) (hM : MOb σ om ot M d b) : ACalls Tryz.prog 216 [ptr om 0, ag c, ic v] σ fun r σ' => (∃ b, r = sc (.bool b) ∧ (b = true ↔ ∃ n ∈ valQ q v, ∃ ν, Sol neg (eputQ v n q) ν)) ∧ Keep σ σ' := by
 have hVl := fun σ => evalues_spec q c v hc hA.ok hA.n σ
 have hvl := valQ_len hA.n v
 have hPu := fun n σ => eputQ_spec q c v n hc hA.ok σ
 have HM : Abs.Hid (MOb σ om ot M d b) := hM
 clear hM
 have hHo : ∀ (n : Int) (c2 : List AV), EQ (eputQ v n q) c2 → ∀ σ1, Keep σ σ1 → ACalls Tryz.prog 170 [ptr om 0, ag c2] σ1 fun r σ' => (∃ b, r = sc (.bool b) ∧ (b = true ↔ ∃ ν, Sol neg (eputQ v n q) ν)) ∧ Keep σ1 σ' := fun n c2 h2 σ1 hk1 =>
  hH _ c2 h2 (qall_put hA) (hNg.put v n) (fun a ha w hw => by
   obtain ⟨⟨b, hb, hbw⟩, -⟩ := inQ_put (q := q) (v := v) (n := n) (w := w) ⟨a, ha, hasV_iff.2 hw⟩
   exact hV b hb w (hasV_iff.1 hbw)) (by simp [eputQ, eputA, eputTs, hh]) (fun w hw => by
   obtain ⟨h1, h2⟩ := inQ_put hw
   exact hin w h1 h2) σ1 (HM.out.keep hk1)
 clear hh
 obtain ⟨ih, ip, inn, pc, nc, rfl, -, -⟩ := hc
 generalize valQ q v = vs at *
 have hvi := icells_len vs
 refine acalls 26 [.tmp 6] Tryz.func216 rfl (by decide) rfl rfl (Nat.le_of_ble_eq_true rfl) ?_
 repeat' (first
 |with_reducible first|apply Xa|apply Xb|(refine Xc ?_;intro κ hκ)|(apply hκ.out;clear hκ κ)|apply Xd|apply Xe|apply Xf
 |((with_reducible first|refine Xl ?_ ?_|refine Xk ?_ ?_)<;> intro h hari<;> try exact Xp)
 |((with_reducible refine Xh ?_);refine Xi (hVl _) ?_;rintro _ _ ⟨⟨idv,rfl⟩,hK2⟩;(have kno2:=hK2.nobj;have kob2:=hK2.obj;have hKx:=((Keep.refl σ).new _).trans hK2;simp only [new_nobj] at kno2 kob2))
 |refine Xr ?_
 |exact True.intro
 |(apply hκ.out;clear hκ κ))
 rename_i σ1
 have o0 : σ1.obj σ.nobj = [ic q.head.p, sl ih q.head.ts.length (ecells q.head.ts), sl ip q.parts.length pc, sl inn q.nots.length nc] := by rw [kob2 _ (by omega), new_same]
 clear kob2 hK2 hVl
 refine awp_loop (fun m s σ' => ∃ j : Nat, m = vs.length - j ∧ j ≤ vs.length ∧ s 0 = ptr om 0 ∧ s 2 = ic v ∧ s 4 = ptr σ.nobj 0 ∧ s 12 = sl idv vs.length (icells vs) ∧ s 13 = ic vs.length ∧ s 14 = ic j ∧ Keep σ σ' ∧ σ.nobj < σ'.nobj ∧ σ'.obj σ.nobj = [ic q.head.p, sl ih q.head.ts.length (ecells q.head.ts), sl ip q.parts.length pc, sl inn q.nots.length nc] ∧ Abs.Hid (∀ n ∈ vs.take j, ¬ ∃ ν, Sol neg (eputQ v n q) ν)) vs.length
  ⟨0, by omega, by omega, by simp [upd, initS], by simp [upd, initS], by simp [upd], by simp [upd], by simp [upd], rfl, hKx, by omega, o0, by simp [Abs.Hid]⟩ ?_
 clear hKx o0 kno2
 rintro m s σ' ⟨j, rfl, hj, h0, h2, h4, h12, h13, h14, hK, hno, ob, hN⟩
 have kno := hK.nobj
 by_cases hlt : j < vs.length
 ·have hget := List.getElem?_eq_getElem hlt
  obtain ⟨r, hd⟩ := icells_get hget
  have hmem := List.getElem_mem hlt
  generalize vs[j] = n at hd hget hmem
  have HG : Abs.Hid (n ∈ vs ∧ vs[j]? = some n) := ⟨hmem, hget⟩
  clear hget hmem
  have hPu := hPu n
  repeat' (first
 |with_reducible first|apply Xa|apply Xb|(refine Xc ?_;intro κ hκ)|(apply hκ.out;clear hκ κ)|apply Xd|apply Xe|apply Xf
 |((with_reducible first|refine Xl ?_ ?_|refine Xk ?_ ?_)<;> intro h hari<;> try exact Xp)
 |((with_reducible refine Xh ?_);first|(refine Xi (hPu _) ?_;rintro _ _ ⟨⟨_,rfl,ih2,ip2,in2,pc2,nc2,rfl,hP2,hN2⟩,hK3⟩;(have kno3:=hK3.nobj;have kob3:=hK3.obj;have hKx:=hK.trans hK3;have hHn:=hHo n _ ⟨ih2,ip2,in2,pc2,nc2,rfl,hP2,hN2⟩))|(refine Xi (hHn _ ((hKx.new _).put (by omega) _)) ?_;rintro _ _ ⟨⟨bb,rfl,hbb⟩,hK4⟩;(have kno4:=hK4.nobj;have kob4:=hK4.obj;have hKy:=((hKx.new _).put (by omega) _).trans hK4;have HBB : Abs.Hid _:=hbb;clear hbb;simp only [put_nobj,new_nobj] at kno4 kob4)))
 |refine Xr ?_
 |exact True.intro
 |(apply hκ.out;clear hκ κ))
  ·exact ⟨_, rfl, ⟨true, rfl, fun _ => ⟨n, HG.out.1, HBB.out.1 (by assumption)⟩, fun _ => rfl⟩⟩
  ·have HN : Abs.Hid (∀ n ∈ vs.take (j + 1), ¬ ∃ ν, Sol neg (eputQ v n q) ν) := by
    rw [Abs.Hid, List.take_add_one, HG.out.2, Option.toList_some]
    intro u hu
    rcases List.mem_append.1 hu with h' | h'
    ·exact hN.out u h'
    ·simp at h'
     subst h'
     intro hex
     have := HBB.out.2 hex
     rw [this] at h
     cases h
   refine ⟨vs.length - (j + 1), by omega, j + 1, ?_⟩
   ((repeat' with_reducible refine And.intro ?_ ?_)<;> first|exact Xq|exact (HN)|exact Xs)
 ·have hjl : j = vs.length := by omega
  subst hjl
  rw [List.take_length] at hN
  repeat' (first
 |with_reducible first|apply Xa|apply Xb|(refine Xc ?_;intro κ hκ)|(apply hκ.out;clear hκ κ)|apply Xd|apply Xe|apply Xf
 |((with_reducible first|refine Xl ?_ ?_|refine Xk ?_ ?_)<;> intro h hari<;> try exact Xp)
 |refine Xr ?_
 |exact True.intro
 |(apply hκ.out;clear hκ κ))
  first | exact ⟨_, rfl, ⟨false, rfl, (fun h => by cases h), fun ⟨n, h1, h2⟩ => absurd h2 (hN.out n h1)⟩, hK⟩ | exact ⟨_, rfl, ⟨false, rfl, (fun h => by cases h), fun ⟨n, h1, h2⟩ => absurd h2 (hN.out n h1)⟩⟩
theorem inQ_near {q : Qry} {rs : List Int} {v : Int} (h : inQ (nearQ q rs) v) : inQ q v := by
 obtain ⟨a, ha, hv⟩ := h
 refine ⟨a, ?_, hv⟩
 unfold atomsQ nearQ at ha
 unfold atomsQ
 simp only [List.mem_cons, List.mem_append, List.mem_map] at ha ⊢
 rcases ha with h | ⟨p, hp, h⟩ | h
 ·exact .inl h
 ·exact .inr (.inl ⟨p, (List.mem_filter.1 hp).1, h⟩)
 ·exact .inr (.inr (List.mem_filter.1 h).1)
theorem inQ_far {q : Qry} {rs : List Int} {v : Int} (h : inQ (farQ q rs) v) : inQ q v ∧ v ∉ rs := by
 obtain ⟨a, ha, hv⟩ := h
 unfold atomsQ farQ at ha
 simp only [List.mem_cons, List.mem_append, List.mem_map] at ha
 have key : ∀ b : Atm, b ∈ atomsQ q → (!inR rs b) = true → hasV b.ts v = true → inQ q v ∧ v ∉ rs := fun b hb hin hbv => ⟨⟨b, hb, hbv⟩, fun hm => by
  have : inR rs b = true := List.any_eq_true.2 ⟨v, hm, hbv⟩
  rw [this] at hin
  cases hin⟩
 rcases ha with rfl | ⟨p, hp, rfl⟩ | h
 ·simp [hasV] at hv
 ·exact key p.a (part_in (List.mem_filter.1 hp).1) (List.mem_filter.1 hp).2 hv
 ·exact key a (by unfold atomsQ; simp [(List.mem_filter.1 h).1]) (List.mem_filter.1 h).2 hv
set_option maxHeartbeats 32000000 in
theorem eholds_step (neg : Int → Tup → Prop) (om ot : Nat) (M : MM) (d bg : Int) (V : List Int) (IH : ∀ V' : List Int, V'.length < V.length → HoldsAt neg om ot M d bg V') : HoldsAt neg om ot M d bg V := by
 intro q c hc hA hNg hV hh hin σ hM
 have hRd := fun σ1 hk => ered_spec neg q c om ot M d bg hc hA hNg σ1 (MOb.keep (σ := σ) hM hk)
 have HM : Abs.Hid (MOb σ om ot M d bg) := hM
 clear hM
 obtain ⟨ih, ip, inn, pc, nc, rfl, -, -⟩ := hc
 have HH : Abs.Hid (q.head.ts = []) := hh
 clear hh
 refine acalls 36 [.tmp 4] Tryz.func170 rfl (by decide) rfl rfl (Nat.le_of_ble_eq_true rfl) ?_
 repeat' (first
 |with_reducible first|apply Xa|apply Xb|(refine Xc ?_;intro κ hκ)|(apply hκ.out;clear hκ κ)|apply Xd|apply Xe|apply Xf
 |((with_reducible first|refine Xl ?_ ?_|refine Xk ?_ ?_)<;> intro h hari<;> try exact Xp)
 |((with_reducible refine Xh ?_);refine Xi (hRd _ ((Keep.refl _).new _)) ?_;rintro _ _ ⟨⟨c',(⟨rfl,hl4,hfl,hno⟩|⟨q',rfl,⟨ih2,ip2,in2,pc2,nc2,rfl,hP2,hN2⟩,hA2,hNE2,hR2,hnt2⟩)⟩,hK2⟩)
 |refine Xr ?_
 |exact True.intro
 |(apply hκ.out;clear hκ κ))
 ·rename_i σ1
  have kno2 := hK2.nobj
  have o0 := hK2.obj σ.nobj (by simp only [new_nobj]; omega)
  rw [new_same] at o0
  simp only [new_nobj] at kno2
  have hK3 := (((Keep.refl σ).new _).trans hK2)
  have HNO : Abs.Hid (∀ ν, ¬ Sol neg q ν) := hno
  clear hno
  repeat' (first
 |with_reducible first|apply Xa|apply Xb|(refine Xc ?_;intro κ hκ)|(apply hκ.out;clear hκ κ)|apply Xd|apply Xe|apply Xf
 |((with_reducible first|refine Xl ?_ ?_|refine Xk ?_ ?_)<;> intro h hari<;> try exact Xp)
 |refine Xr ?_
 |exact True.intro
 |(apply hκ.out;clear hκ κ))
  exact ⟨_, rfl, ⟨false, rfl, (fun h => by cases h), fun ⟨ν, hν⟩ => absurd hν (HNO.out ν)⟩, hK3.put (by omega) _⟩
 ·have kno2 := hK2.nobj
  have kob2 := hK2.obj
  simp only [new_nobj] at kno2 kob2
  have hKx := ((Keep.refl σ).new _).trans hK2
  have hh2 : q'.head.ts = [] := by rw [hR2.hd]; exact HH.out
  have hNg2 : NegOk neg M q' := hNg.sub fun a ha => ⟨a, (hnt2 a ha).1, rfl⟩
  have hV2 : QV q' := fun a ha v hv => hV a (hR2.at_ a ha) v hv
  have hin2 : ∀ v, inQ q' v → v ∈ V := fun v hv => hin v (hv.sub hR2.at_)
  have hCh := fun σ => echoice_spec q' _ ⟨ih2, ip2, in2, pc2, nc2, rfl, hP2, hN2⟩ hA2.ok hA2.n hV2 σ
  have HH2 : Abs.Hid _ := hh2
  clear hh2
  repeat' (first
 |with_reducible first|apply Xa|apply Xb|(refine Xc ?_;intro κ hκ)|(apply hκ.out;clear hκ κ)|apply Xd|apply Xe|apply Xf
 |((with_reducible first|refine Xl ?_ ?_|refine Xk ?_ ?_)<;> intro h hari<;> try exact Xp)
 |((with_reducible refine Xh ?_);refine Xi (hCh _) ?_;rintro _ _ ⟨⟨b,rfl,hb⟩,hK3⟩;(have HB : Abs.Hid _:=hb;clear hb;have kno3:=hK3.nobj;have kob3:=hK3.obj;have hKy:=(hKx.put (by omega) _).trans hK3))
 |refine Xr ?_
 |exact True.intro
 |(apply hκ.out;clear hκ κ))
  ·have hbn : b = -1 := by simpa using h
   have hlk : ∀ v ∈ varsL (atomsQ q'), linkB q' v = false := by
    rcases HB.out with ⟨-, h2⟩ | ⟨h1, -⟩
    ·exact h2
    ·obtain ⟨a, ha, hv⟩ := (varsL_mem _ _).1 h1
     have := hV2 a ha b hv
     omega
   have hc1 : ∀ v, cntV (q'.parts.map (·.a)) v ≤ 1 := fun v => by
    have hle : cntV (q'.parts.map (·.a)) v ≤ cntV (atomsQ q') v := by
     unfold atomsQ
     rw [cntV_cons, cntV_append]
     omega
    by_cases hm : v ∈ varsL (atomsQ q')
    ·have := hlk v hm
     unfold linkB at this
     rw [decide_eq_false_iff_not] at this
     omega
    ·have : cntV (atomsQ q') v = 0 := by
      rcases Nat.eq_zero_or_pos (cntV (atomsQ q') v) with h0 | h0
      ·exact h0
      ·obtain ⟨a, ha, hav⟩ := List.countP_pos_iff.1 h0
       exact absurd ((varsL_mem _ _).2 ⟨a, ha, hasV_iff.1 hav⟩) hm
     omega
   obtain ⟨ν, hν⟩ := met_free (l := q'.parts) (fun p hp => ⟨hNE2 p hp, (hA2.w p hp).2⟩) hc1
   have hS : Sol neg q' ν := ⟨hν, fun a ha => by
    exfalso
    obtain ⟨v, hv⟩ := setl_var (hnt2 a ha).2
    obtain ⟨p, hp, hpv⟩ := hA2.wf v (.inr ⟨a, ha, hv⟩)
    have h1 : 0 < cntV (q'.parts.map (·.a)) v := cntV_pos (List.mem_map.2 ⟨p, hp, rfl⟩) hpv
    have h2 := cntV_pos ha hv
    have h3 : cntV (atomsQ q') v = cntV (q'.parts.map (·.a)) v + cntV q'.nots v + if hasV q'.head.ts v = true then 1 else 0 := by
     unfold atomsQ
     rw [cntV_cons, cntV_append]
    have hm : v ∈ varsL (atomsQ q') := (varsL_mem _ _).2 ⟨p.a, part_in hp, hasV_iff.1 hpv⟩
    have := hlk v hm
    unfold linkB at this
    rw [decide_eq_false_iff_not] at this
    omega⟩
   obtain ⟨ν', hν', -⟩ := hR2.back ν hS
   first | exact ⟨_, rfl, ⟨true, rfl, fun _ => ⟨ν', hν'⟩, fun _ => rfl⟩, hKy⟩ | exact ⟨_, rfl, ⟨true, rfl, fun _ => ⟨ν', hν'⟩, fun _ => rfl⟩⟩
  ·have hbn : b ≠ -1 := by simpa using h
   have hbv : b ∈ varsL (atomsQ q') := by
    rcases HB.out with ⟨h1, -⟩ | ⟨h1, -⟩
    ·exact absurd h1 hbn
    ·exact h1
   have hbi : inQ q' b := by
    obtain ⟨a, ha, hv⟩ := (varsL_mem _ _).1 hbv
    exact ⟨a, ha, hasV_iff.2 hv⟩
   have hbV := hin2 b hbi
   have hVl : (V.erase b).length < V.length := by
    rw [List.length_erase_of_mem hbV]
    have := List.length_pos_of_mem hbV
    omega
   have IHb := IH (V.erase b) hVl
   have hSp := fun (id : Nat) σ => esplit_spec q' _ [b] id ⟨ih2, ip2, in2, pc2, nc2, rfl, hP2, hN2⟩ hA2.ok (by simp) σ
   simp only [List.length_cons, List.length_nil, icells, List.map_cons, List.map_nil, Nat.zero_add] at hSp
   have HHF : Abs.Hid (∀ (rs : List Int) (c3 : List AV), ClosedR (atomsQ q') rs rs → EQ (nearQ q' rs) c3 → ∀ σ1, Keep σ σ1 → ACalls Tryz.prog 216 [ptr om 0, ag c3, ic b] σ1 fun r σ' => (∃ bb, r = sc (.bool bb) ∧ (bb = true ↔ ∃ n ∈ valQ (nearQ q' rs) b, ∃ ν, Sol neg (eputQ b n (nearQ q' rs)) ν)) ∧ Keep σ1 σ') := fun rs c3 hCl hE3 σ1 hk1 =>
    eholdsFor_spec neg om ot M d bg (V.erase b) IHb (nearQ q' rs) c3 b hE3 (qall_sub hA2 hA2.ok.hd List.filter_sublist List.filter_sublist (wfv_near hA2.wf hCl (fun v hv => by rw [HH2.out] at hv; simp [hasV] at hv))) (hNg2.near rs)
     (fun a ha w hw => by
      obtain ⟨a', ha', hw'⟩ := inQ_near (rs := rs) ⟨a, ha, hasV_iff.2 hw⟩
      exact hV2 a' ha' w (hasV_iff.1 hw')) HH2.out (fun w hw hne => (List.mem_erase_of_ne hne).2 (hin2 w (inQ_near hw))) σ1 (HM.out.keep hk1)
   have HFA : Abs.Hid (∀ (rs : List Int) (c4 : List AV), b ∈ rs → ClosedR (atomsQ q') rs rs → EQ (farQ q' rs) c4 → ∀ σ1, Keep σ σ1 → ACalls Tryz.prog 170 [ptr om 0, ag c4] σ1 fun r σ' => (∃ bb, r = sc (.bool bb) ∧ (bb = true ↔ ∃ ν, Sol neg (farQ q' rs) ν)) ∧ Keep σ1 σ') := fun rs c4 hbr hCl hE4 σ1 hk1 =>
    IHb (farQ q' rs) c4 hE4 (qall_sub hA2 (by simp [farQ]) List.filter_sublist List.filter_sublist (wfv_far hA2.wf hCl)) (hNg2.far rs)
     (fun a ha w hw => by
      obtain ⟨⟨a', ha', hw'⟩, -⟩ := inQ_far (rs := rs) ⟨a, ha, hasV_iff.2 hw⟩
      exact hV2 a' ha' w (hasV_iff.1 hw')) rfl (fun w hw => by
      obtain ⟨h1, h2⟩ := inQ_far hw
      exact (List.mem_erase_of_ne (fun e => h2 (by rw [e]; exact hbr))).2 (hin2 w h1)) σ1 (HM.out.keep hk1)
   clear IHb IH hRd hCh hbV hVl
   have o3 := kob3 σ.nobj (by simp only [put_nobj]; omega)
   rw [put_same] at o3
   simp only [put_nobj] at kno3
   repeat' (first
 |with_reducible first|apply Xa|apply Xb|(refine Xc ?_;intro κ hκ)|(apply hκ.out;clear hκ κ)|apply Xd|apply Xe|apply Xf
 |((with_reducible first|refine Xl ?_ ?_|refine Xk ?_ ?_)<;> intro h hari<;> try exact Xp)
 |((with_reducible refine Xh ?_);first|(refine Xi (hSp _ _) ?_;rintro _ _ ⟨⟨_,_,rs,rfl,⟨ih3,ip3,in3,pc3,nc3,rfl,hP3,hN3⟩,⟨ih4,ip4,in4,pc4,nc4,rfl,hP4,hN4⟩,hG,hC⟩,hK5⟩;(have hbr : b ∈ rs:=(by obtain ⟨ad,e,-,-⟩:=hG;rw [e];simp);have hHF:=HHF.out rs _ hC ⟨ih3,ip3,in3,pc3,nc3,rfl,hP3,hN3⟩;have hFA:=HFA.out rs _ hbr hC ⟨ih4,ip4,in4,pc4,nc4,rfl,hP4,hN4⟩;have HC : Abs.Hid _:=hC;clear hC hG;have kno5:=hK5.nobj;simp only [lay_nobj] at kno5;have hKz:=(hKy.lay 1).trans hK5))|(refine Xi (hHF _ ((((hKz.new _).new _).put (by omega) _).put (by omega) _)) ?_;rintro _ _ ⟨⟨b5,rfl,hb5⟩,hK6⟩;(have HB5 : Abs.Hid _:=hb5;clear hb5;have kno6:=hK6.nobj;have kob6:=hK6.obj;simp only [put_nobj,new_nobj] at kno6 kob6;have hKw:=((((hKz.new _).new _).put (by omega) _).put (by omega) _).trans hK6))|(refine Xi (hFA _ hKw) ?_;rintro _ _ ⟨⟨b7,rfl,hb7⟩,hK7⟩;(have HB7 : Abs.Hid _:=hb7;clear hb7;have hKv:=hKw.trans hK7)))
 |refine Xr ?_
 |exact True.intro
 |(apply hκ.out;clear hκ κ))
   ·refine ⟨_, rfl, false, rfl, (fun h => by cases h), fun ⟨ν, hν⟩ => ?_⟩
    have h1 := hR2.to ν hν
    have h2 := sol_near (rs := rs) h1
    have hwn : WP (nearQ q' rs) := fun p hp => hA2.w p (List.mem_filter.1 hp).1
    obtain ⟨p, hp, hpv⟩ := inQ_part hA2.wf hbi
    have h3 := val_mem (v := b) hwn h2 ⟨p, List.mem_filter.2 ⟨hp, List.any_eq_true.2 ⟨b, hbr, hpv⟩⟩, hpv⟩
    have h4 : Sol neg (eputQ b (ν b) (nearQ q' rs)) ν := (sol_put hwn).2 (by
     have : updN ν b (ν b) = ν := by
      funext w
      unfold updN
      split
      ·rename_i e; rw [e]
      ·rfl
     rw [this]; exact h2)
    have := HB5.out.2 ⟨ν b, h3, ν, h4⟩
    rw [this] at h
    cases h
   ·refine ⟨_, rfl, b7, rfl, fun h7 => ?_, fun ⟨ν, hν⟩ => HB7.out.2 ⟨ν, sol_far (hR2.to ν hν)⟩⟩
    obtain ⟨n, -, ν1, hν1⟩ := HB5.out.1 h
    obtain ⟨ν2, hν2⟩ := HB7.out.1 h7
    have hwn : WP (nearQ q' rs) := fun p hp => hA2.w p (List.mem_filter.1 hp).1
    obtain ⟨ν', hν', -⟩ := hR2.back _ (sol_split HC.out ((sol_put hwn).1 hν1) hν2)
    exact ⟨ν', hν'⟩
theorem eholds_spec (neg : Int → Tup → Prop) (om ot : Nat) (M : MM) (d b : Int) : ∀ (k : Nat) (V : List Int), V.length ≤ k → HoldsAt neg om ot M d b V := by
 intro k
 induction k with
 | zero => exact fun V hV => eholds_step neg om ot M d b V (fun V' h => by omega)
 | succ k IH => exact fun V hV => eholds_step neg om ot M d b V (fun V' h => IH V' (by omega))
end Go.Proofs.YtmoeoppbmhfbpaaGreatDoorB
