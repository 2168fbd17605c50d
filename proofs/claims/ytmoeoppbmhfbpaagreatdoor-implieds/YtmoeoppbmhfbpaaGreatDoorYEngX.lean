import Derived.Test.YtmoeoppbmhfbpaaGreatDoorYEngW
/- The program's engine: does a query hold? -/
namespace Go.Proofs.YtmoeoppbmhfbpaaGreatDoorY
open Go.Abs
set_option linter.unusedSimpArgs false
set_option linter.unusedVariables false
set_option maxRecDepth 100000
theorem putP_len (v n : Int) (p : Part) : (putP v n p).a.ts.length = p.a.ts.length ∧ (putP v n p).tups.length ≤ p.tups.length ∧ ∀ t ∈ (putP v n p).tups, t ∈ p.tups := by
 unfold putP
 split
 ·exact ⟨by simp [eputTs], List.length_filter_le _ _, fun t ht => (List.mem_filter.1 ht).1⟩
 ·exact ⟨rfl, Nat.le_refl _, fun t ht => ht⟩
theorem putP_has {v n : Int} {p : Part} {w : Int} : hasV (putP v n p).a.ts w = true ↔ hasV p.a.ts w = true ∧ w ≠ v := by
 unfold putP
 by_cases h : hasV p.a.ts v = true
 ·rw [if_pos h]; exact hasV_put (a := p.a)
 ·rw [if_neg h]
  exact ⟨fun hw => ⟨hw, fun e => h (e ▸ hw)⟩, fun hw => hw.1⟩
theorem inQ_put {q : Qry} {v n w : Int} (h : inQ (eputQ v n q) w) : inQ q w ∧ w ≠ v := by
 obtain ⟨a, ha, hw⟩ := h
 unfold atomsQ eputQ at ha
 simp only [List.mem_cons, List.mem_append, List.mem_map] at ha
 rcases ha with rfl | ⟨p', ⟨p, hp, rfl⟩, rfl⟩ | ⟨b, hb, rfl⟩
 ·have := hasV_put.1 hw
  exact ⟨⟨q.head, by simp [atomsQ], this.1⟩, this.2⟩
 ·have := putP_has.1 hw
  exact ⟨⟨p.a, part_in hp, this.1⟩, this.2⟩
 ·have := hasV_put.1 hw
  exact ⟨⟨b, by simp [atomsQ, hb], this.1⟩, this.2⟩
theorem qall_put {q : Qry} {v n : Int} (h : QAll q) : QAll (eputQ v n q) := by
 have hm : ∀ p ∈ (eputQ v n q).parts, ∃ p0 ∈ q.parts, putP v n p0 = p := fun p hp => List.mem_map.1 hp
 refine ⟨⟨by simp [eputQ, eputA, eputTs]; exact h.ok.hd, by simp [eputQ]; exact h.ok.pl, by simp [eputQ]; exact h.ok.nl, fun p hp => ?_, fun p hp => ?_, fun p hp => ?_, ?_⟩, fun p hp t ht => ?_, wp_put h.w, by simp [eputQ, h.nt], fun w hw => ?_⟩
 ·obtain ⟨p0, h0, rfl⟩ := hm p hp; rw [(putP_len v n p0).1]; exact h.ok.pa p0 h0
 ·obtain ⟨p0, h0, rfl⟩ := hm p hp; exact Nat.le_trans (putP_len v n p0).2.1 (h.ok.pt p0 h0)
 ·obtain ⟨p0, h0, rfl⟩ := hm p hp; exact fun t ht => h.ok.p3 p0 h0 t ((putP_len v n p0).2.2 t ht)
 ·intro a ha
  simp [eputQ, h.nt] at ha
 ·obtain ⟨p0, h0, rfl⟩ := hm p hp
  rw [(putP_len v n p0).1]
  exact h.n p0 h0 t ((putP_len v n p0).2.2 t ht)
 ·have hw' : hasV q.head.ts w = true ∧ w ≠ v := by
   rcases hw with hw | ⟨a, ha, hw⟩
   ·exact hasV_put.1 hw
   ·simp [eputQ, h.nt] at ha
  obtain ⟨p, hp, hpv⟩ := h.wf w (.inl hw'.1)
  exact ⟨putP v n p, List.mem_map.2 ⟨p, hp, rfl⟩, putP_has.2 ⟨hpv, hw'.2⟩⟩
theorem qall_sub {q q' : Qry} (h : QAll q) (hh : q'.head.ts.length ≤ 3) (hp : q'.parts.Sublist q.parts) (hn : q'.nots = []) (hw : WFv q') : QAll q' :=
 ⟨⟨hh, Nat.le_trans hp.length_le h.ok.pl, by rw [hn]; simp, fun p hp' => h.ok.pa p (hp.subset hp'), fun p hp' => h.ok.pt p (hp.subset hp'), fun p hp' => h.ok.p3 p (hp.subset hp'), fun a ha => by rw [hn] at ha; cases ha⟩,
  fun p hp' => h.n p (hp.subset hp'), fun p hp' => h.w p (hp.subset hp'), hn, hw⟩
theorem wfv_bare {q : Qry} (h1 : q.head.ts = []) (h2 : q.nots = []) : WFv q := fun v hv => by
 rcases hv with h | ⟨a, ha, -⟩
 ·rw [h1] at h; simp [hasV] at h
 ·rw [h2] at ha; cases ha
theorem inQ_bare {q : Qry} (h1 : q.head.ts = []) (h2 : q.nots = []) {v : Int} (h : inQ q v) : ∃ p ∈ q.parts, hasV p.a.ts v = true := by
 obtain ⟨a, ha, hv⟩ := h
 unfold atomsQ at ha
 simp only [List.mem_cons, List.mem_append, List.mem_map] at ha
 rcases ha with rfl | ⟨p, hp, rfl⟩ | ha
 ·rw [h1] at hv; simp [hasV] at hv
 ·exact ⟨p, hp, hv⟩
 ·rw [h2] at ha; cases ha
def HoldsAt (neg : Int → Tup → Prop) (om : Nat) (V : List Int) : Prop := ∀ (q : Qry) (c : List AV), EQ q c → QAll q → QV q → q.head.ts = [] → (∀ v, inQ q v → v ∈ V) → ∀ σ, ACalls Tryz.prog 170 [ptr om 0, ag c] σ fun r σ' => (∃ b, r = sc (.bool b) ∧ (b = true ↔ ∃ ν, Sol neg q ν)) ∧ Keep σ σ'
set_option maxHeartbeats 16000000 in
theorem eholdsFor_spec (neg : Int → Tup → Prop) (om : Nat) (V : List Int) (hH : HoldsAt neg om V) (q : Qry) (c : List AV) (v : Int) (hc : EQ q c) (hA : QAll q) (hV : QV q) (hh : q.head.ts = []) (hin : ∀ w, inQ q w → w ≠ v → w ∈ V) (σ : St) : ACalls Tryz.prog 216 [ptr om 0, ag c, ic v] σ fun r σ' => (∃ b, r = sc (.bool b) ∧ (b = true ↔ ∃ n ∈ valQ q v, ∃ ν, Sol neg (eputQ v n q) ν)) ∧ Keep σ σ' := by
 have hVl := fun σ => evalues_spec q c v hc hA.ok hA.n σ
 have hvl := valQ_len hA.n v
 have hPu := fun n σ => eputQ_spec q c v n hc hA.ok σ
 have hHo : ∀ (n : Int) (c2 : List AV), EQ (eputQ v n q) c2 → ∀ σ, ACalls Tryz.prog 170 [ptr om 0, ag c2] σ fun r σ' => (∃ b, r = sc (.bool b) ∧ (b = true ↔ ∃ ν, Sol neg (eputQ v n q) ν)) ∧ Keep σ σ' := fun n c2 h2 σ =>
  hH _ c2 h2 (qall_put hA) (fun a ha w hw => by
   obtain ⟨⟨b, hb, hbw⟩, -⟩ := inQ_put (q := q) (v := v) (n := n) (w := w) ⟨a, ha, hasV_iff.2 hw⟩
   exact hV b hb w (hasV_iff.1 hbw)) (by simp [eputQ, eputA, eputTs, hh]) (fun w hw => by
   obtain ⟨h1, h2⟩ := inQ_put hw
   exact hin w h1 h2) σ
 clear hh
 obtain ⟨ih, ip, inn, pc, nc, rfl, -, -⟩ := hc
 generalize valQ q v = vs at *
 have hvi := icells_len vs
 refine acalls 26 [.tmp 6] Tryz.func216 rfl (by decide) rfl rfl (Nat.le_of_ble_eq_true rfl) ?_
 repeat' (first
 |with_reducible first|apply Xa|apply Xb|(refine Xc ?_;intro κ hκ)|(apply hκ.out;clear hκ κ)|apply Xd|apply Xe|apply Xf
 |((with_reducible first|refine Xl ?_ ?_|refine Xk ?_ ?_)<;> intro h hari<;> try exact Xp)
 |((with_reducible refine Xh ?_);refine Xi (hVl _) ?_;rintro _ _ ⟨⟨idv,rfl⟩,hK2⟩;(have kno2:=hK2.nobj;have kob2:=hK2.obj;have hKx:=((Keep.refl σ).new _).trans hK2;simp only [new_nobj] at kno2 kob2))
 |refine Xr ?_
 |exact True.intro
 |(apply hκ.out;clear hκ κ))
 rename_i σ1
 have o0 : σ1.obj σ.nobj = [ic q.head.p, sl ih q.head.ts.length (ecells q.head.ts), sl ip q.parts.length pc, sl inn q.nots.length nc] := by rw [kob2 _ (by omega), new_same]
 clear kob2 hK2 hVl
 refine awp_loop (fun m s σ' => ∃ j : Nat, m = vs.length - j ∧ j ≤ vs.length ∧ s 0 = ptr om 0 ∧ s 2 = ic v ∧ s 4 = ptr σ.nobj 0 ∧ s 12 = sl idv vs.length (icells vs) ∧ s 13 = ic vs.length ∧ s 14 = ic j ∧ Keep σ σ' ∧ σ.nobj < σ'.nobj ∧ σ'.obj σ.nobj = [ic q.head.p, sl ih q.head.ts.length (ecells q.head.ts), sl ip q.parts.length pc, sl inn q.nots.length nc] ∧ Abs.Hid (∀ n ∈ vs.take j, ¬ ∃ ν, Sol neg (eputQ v n q) ν)) vs.length
  ⟨0, by omega, by omega, by simp [upd, initS], by simp [upd, initS], by simp [upd], by simp [upd], by simp [upd], rfl, hKx, by omega, o0, by simp [Abs.Hid]⟩ ?_
 clear hKx o0 kno2
 rintro m s σ' ⟨j, rfl, hj, h0, h2, h4, h12, h13, h14, hK, hno, ob, hN⟩
 have kno := hK.nobj
 by_cases hlt : j < vs.length
 ·have hget := List.getElem?_eq_getElem hlt
  obtain ⟨r, hd⟩ := icells_get hget
  have hmem := List.getElem_mem hlt
  generalize vs[j] = n at hd hget hmem
  have HG : Abs.Hid (n ∈ vs ∧ vs[j]? = some n) := ⟨hmem, hget⟩
  clear hget hmem
  have hPu := hPu n
  repeat' (first
 |with_reducible first|apply Xa|apply Xb|(refine Xc ?_;intro κ hκ)|(apply hκ.out;clear hκ κ)|apply Xd|apply Xe|apply Xf
 |((with_reducible first|refine Xl ?_ ?_|refine Xk ?_ ?_)<;> intro h hari<;> try exact Xp)
 |((with_reducible refine Xh ?_);first|(refine Xi (hPu _) ?_;rintro _ _ ⟨⟨_,rfl,ih2,ip2,in2,pc2,nc2,rfl,hP2,hN2⟩,hK3⟩;(have kno3:=hK3.nobj;have kob3:=hK3.obj;have hKx:=hK.trans hK3;have hHn:=hHo n _ ⟨ih2,ip2,in2,pc2,nc2,rfl,hP2,hN2⟩))|(refine Xi (hHn _) ?_;rintro _ _ ⟨⟨bb,rfl,hbb⟩,hK4⟩;(have kno4:=hK4.nobj;have kob4:=hK4.obj;have hKy:=((hKx.new _).put (by omega) _).trans hK4;have HBB : Abs.Hid _:=hbb;clear hbb;simp only [put_nobj,new_nobj] at kno4 kob4)))
 |refine Xr ?_
 |exact True.intro
 |(apply hκ.out;clear hκ κ))
  ·exact ⟨_, rfl, ⟨true, rfl, fun _ => ⟨n, HG.out.1, HBB.out.1 (by assumption)⟩, fun _ => rfl⟩⟩
  ·have HN : Abs.Hid (∀ n ∈ vs.take (j + 1), ¬ ∃ ν, Sol neg (eputQ v n q) ν) := by
    rw [Abs.Hid, List.take_add_one, HG.out.2, Option.toList_some]
    intro u hu
    rcases List.mem_append.1 hu with h' | h'
    ·exact hN.out u h'
    ·simp at h'
     subst h'
     intro hex
     have := HBB.out.2 hex
     rw [this] at h
     cases h
   refine ⟨vs.length - (j + 1), by omega, j + 1, ?_⟩
   ((repeat' with_reducible refine And.intro ?_ ?_)<;> first|exact Xq|exact (HN)|exact Xs)
 ·have hjl : j = vs.length := by omega
  subst hjl
  rw [List.take_length] at hN
  repeat' (first
 |with_reducible first|apply Xa|apply Xb|(refine Xc ?_;intro κ hκ)|(apply hκ.out;clear hκ κ)|apply Xd|apply Xe|apply Xf
 |((with_reducible first|refine Xl ?_ ?_|refine Xk ?_ ?_)<;> intro h hari<;> try exact Xp)
 |refine Xr ?_
 |exact True.intro
 |(apply hκ.out;clear hκ κ))
  first | exact ⟨_, rfl, ⟨false, rfl, (fun h => by cases h), fun ⟨n, h1, h2⟩ => absurd h2 (hN.out n h1)⟩, hK⟩ | exact ⟨_, rfl, ⟨false, rfl, (fun h => by cases h), fun ⟨n, h1, h2⟩ => absurd h2 (hN.out n h1)⟩⟩
theorem inQ_near {q : Qry} {rs : List Int} {v : Int} (h : inQ (nearQ q rs) v) : inQ q v := by
 obtain ⟨a, ha, hv⟩ := h
 refine ⟨a, ?_, hv⟩
 unfold atomsQ nearQ at ha
 unfold atomsQ
 simp only [List.mem_cons, List.mem_append, List.mem_map] at ha ⊢
 rcases ha with h | ⟨p, hp, h⟩ | h
 ·exact .inl h
 ·exact .inr (.inl ⟨p, (List.mem_filter.1 hp).1, h⟩)
 ·exact .inr (.inr (List.mem_filter.1 h).1)
theorem inQ_far {q : Qry} {rs : List Int} {v : Int} (h : inQ (farQ q rs) v) : inQ q v ∧ v ∉ rs := by
 obtain ⟨a, ha, hv⟩ := h
 unfold atomsQ farQ at ha
 simp only [List.mem_cons, List.mem_append, List.mem_map] at ha
 have key : ∀ b : Atm, b ∈ atomsQ q → (!inR rs b) = true → hasV b.ts v = true → inQ q v ∧ v ∉ rs := fun b hb hin hbv => ⟨⟨b, hb, hbv⟩, fun hm => by
  have : inR rs b = true := List.any_eq_true.2 ⟨v, hm, hbv⟩
  rw [this] at hin
  cases hin⟩
 rcases ha with rfl | ⟨p, hp, rfl⟩ | h
 ·simp [hasV] at hv
 ·exact key p.a (part_in (List.mem_filter.1 hp).1) (List.mem_filter.1 hp).2 hv
 ·exact key a (by unfold atomsQ; simp [(List.mem_filter.1 h).1]) (List.mem_filter.1 h).2 hv
set_option maxHeartbeats 32000000 in
theorem eholds_step (neg : Int → Tup → Prop) (om : Nat) (V : List Int) (IH : ∀ V' : List Int, V'.length < V.length → HoldsAt neg om V') : HoldsAt neg om V := by
 intro q c hc hA hV hh hin σ
 have hRd := fun σ => ered_spec neg q c om hc hA σ
 obtain ⟨ih, ip, inn, pc, nc, rfl, -, -⟩ := hc
 have HH : Abs.Hid (q.head.ts = []) := hh
 clear hh
 refine acalls 36 [.tmp 4] Tryz.func170 rfl (by decide) rfl rfl (Nat.le_of_ble_eq_true rfl) ?_
 repeat' (first
 |with_reducible first|apply Xa|apply Xb|(refine Xc ?_;intro κ hκ)|(apply hκ.out;clear hκ κ)|apply Xd|apply Xe|apply Xf
 |((with_reducible first|refine Xl ?_ ?_|refine Xk ?_ ?_)<;> intro h hari<;> try exact Xp)
 |((with_reducible refine Xh ?_);refine Xi (hRd _) ?_;rintro _ _ ⟨⟨c',(⟨rfl,hl4,hfl,hno⟩|⟨q',rfl,⟨ih2,ip2,in2,pc2,nc2,rfl,hP2,hN2⟩,hA2,hNE2,hR2⟩)⟩,hK2⟩)
 |refine Xr ?_
 |exact True.intro
 |(apply hκ.out;clear hκ κ))
 ·rename_i σ1
  have kno2 := hK2.nobj
  have o0 := hK2.obj σ.nobj (by simp only [new_nobj]; omega)
  rw [new_same] at o0
  simp only [new_nobj] at kno2
  have hK3 := (((Keep.refl σ).new _).trans hK2)
  have HNO : Abs.Hid (∀ ν, ¬ Sol neg q ν) := hno
  clear hno
  repeat' (first
 |with_reducible first|apply Xa|apply Xb|(refine Xc ?_;intro κ hκ)|(apply hκ.out;clear hκ κ)|apply Xd|apply Xe|apply Xf
 |((with_reducible first|refine Xl ?_ ?_|refine Xk ?_ ?_)<;> intro h hari<;> try exact Xp)
 |refine Xr ?_
 |exact True.intro
 |(apply hκ.out;clear hκ κ))
  exact ⟨_, rfl, ⟨false, rfl, (fun h => by cases h), fun ⟨ν, hν⟩ => absurd hν (HNO.out ν)⟩, hK3.put (by omega) _⟩
 ·have kno2 := hK2.nobj
  have kob2 := hK2.obj
  simp only [new_nobj] at kno2 kob2
  have hKx := ((Keep.refl σ).new _).trans hK2
  have hh2 : q'.head.ts = [] := by rw [hR2.hd]; exact HH.out
  have hV2 : QV q' := fun a ha v hv => hV a (hR2.at_ a ha) v hv
  have hin2 : ∀ v, inQ q' v → v ∈ V := fun v hv => hin v (hv.sub hR2.at_)
  have hCh := fun σ => echoice_spec q' _ ⟨ih2, ip2, in2, pc2, nc2, rfl, hP2, hN2⟩ hA2.ok hA2.n hV2 σ
  have HH2 : Abs.Hid _ := hh2
  clear hh2
  repeat' (first
 |with_reducible first|apply Xa|apply Xb|(refine Xc ?_;intro κ hκ)|(apply hκ.out;clear hκ κ)|apply Xd|apply Xe|apply Xf
 |((with_reducible first|refine Xl ?_ ?_|refine Xk ?_ ?_)<;> intro h hari<;> try exact Xp)
 |((with_reducible refine Xh ?_);refine Xi (hCh _) ?_;rintro _ _ ⟨⟨b,rfl,hb⟩,hK3⟩;(have HB : Abs.Hid _:=hb;clear hb;have kno3:=hK3.nobj;have kob3:=hK3.obj;have hKy:=(hKx.put (by omega) _).trans hK3))
 |refine Xr ?_
 |exact True.intro
 |(apply hκ.out;clear hκ κ))
  ·have hbn : b = -1 := by simpa using h
   have hlk : ∀ v ∈ varsL (atomsQ q'), linkB q' v = false := by
    rcases HB.out with ⟨-, h2⟩ | ⟨h1, -⟩
    ·exact h2
    ·obtain ⟨a, ha, hv⟩ := (varsL_mem _ _).1 h1
     have := hV2 a ha b hv
     omega
   have hc1 : ∀ v, cntV (q'.parts.map (·.a)) v ≤ 1 := fun v => by
    have hle : cntV (q'.parts.map (·.a)) v ≤ cntV (atomsQ q') v := by
     unfold atomsQ
     rw [cntV_cons, cntV_append]
     omega
    by_cases hm : v ∈ varsL (atomsQ q')
    ·have := hlk v hm
     unfold linkB at this
     rw [decide_eq_false_iff_not] at this
     omega
    ·have : cntV (atomsQ q') v = 0 := by
      rcases Nat.eq_zero_or_pos (cntV (atomsQ q') v) with h0 | h0
      ·exact h0
      ·obtain ⟨a, ha, hav⟩ := List.countP_pos_iff.1 h0
       exact absurd ((varsL_mem _ _).2 ⟨a, ha, hasV_iff.1 hav⟩) hm
     omega
   obtain ⟨ν, hν⟩ := met_free (l := q'.parts) (fun p hp => ⟨hNE2 p hp, (hA2.w p hp).2⟩) hc1
   have hS : Sol neg q' ν := ⟨hν, fun a ha => by rw [hA2.nt] at ha; cases ha⟩
   obtain ⟨ν', hν', -⟩ := hR2.back ν hS
   first | exact ⟨_, rfl, ⟨true, rfl, fun _ => ⟨ν', hν'⟩, fun _ => rfl⟩, hKy⟩ | exact ⟨_, rfl, ⟨true, rfl, fun _ => ⟨ν', hν'⟩, fun _ => rfl⟩⟩
  ·have hbn : b ≠ -1 := by simpa using h
   have hbv : b ∈ varsL (atomsQ q') := by
    rcases HB.out with ⟨h1, -⟩ | ⟨h1, -⟩
    ·exact absurd h1 hbn
    ·exact h1
   have hbi : inQ q' b := by
    obtain ⟨a, ha, hv⟩ := (varsL_mem _ _).1 hbv
    exact ⟨a, ha, hasV_iff.2 hv⟩
   have hbV := hin2 b hbi
   have hVl : (V.erase b).length < V.length := by
    rw [List.length_erase_of_mem hbV]
    have := List.length_pos_of_mem hbV
    omega
   have IHb := IH (V.erase b) hVl
   have hSp := fun (id : Nat) σ => esplit_spec q' _ [b] id ⟨ih2, ip2, in2, pc2, nc2, rfl, hP2, hN2⟩ hA2.ok (by simp) σ
   simp only [List.length_cons, List.length_nil, icells, List.map_cons, List.map_nil, Nat.zero_add] at hSp
   have HHF : Abs.Hid (∀ (rs : List Int) (c3 : List AV), EQ (nearQ q' rs) c3 → ∀ σ, ACalls Tryz.prog 216 [ptr om 0, ag c3, ic b] σ fun r σ' => (∃ bb, r = sc (.bool bb) ∧ (bb = true ↔ ∃ n ∈ valQ (nearQ q' rs) b, ∃ ν, Sol neg (eputQ b n (nearQ q' rs)) ν)) ∧ Keep σ σ') := fun rs c3 hE3 σ =>
    eholdsFor_spec neg om (V.erase b) IHb (nearQ q' rs) c3 b hE3 (qall_sub hA2 hA2.ok.hd List.filter_sublist (by simp [nearQ, hA2.nt]) (wfv_bare HH2.out (by simp [nearQ, hA2.nt])))
     (fun a ha w hw => by
      obtain ⟨a', ha', hw'⟩ := inQ_near (rs := rs) ⟨a, ha, hasV_iff.2 hw⟩
      exact hV2 a' ha' w (hasV_iff.1 hw')) HH2.out (fun w hw hne => (List.mem_erase_of_ne hne).2 (hin2 w (inQ_near hw))) σ
   have HFA : Abs.Hid (∀ (rs : List Int) (c4 : List AV), b ∈ rs → EQ (farQ q' rs) c4 → ∀ σ, ACalls Tryz.prog 170 [ptr om 0, ag c4] σ fun r σ' => (∃ bb, r = sc (.bool bb) ∧ (bb = true ↔ ∃ ν, Sol neg (farQ q' rs) ν)) ∧ Keep σ σ') := fun rs c4 hbr hE4 σ =>
    IHb (farQ q' rs) c4 hE4 (qall_sub hA2 (by simp [farQ]) List.filter_sublist (by simp [farQ, hA2.nt]) (wfv_bare rfl (by simp [farQ, hA2.nt])))
     (fun a ha w hw => by
      obtain ⟨⟨a', ha', hw'⟩, -⟩ := inQ_far (rs := rs) ⟨a, ha, hasV_iff.2 hw⟩
      exact hV2 a' ha' w (hasV_iff.1 hw')) rfl (fun w hw => by
      obtain ⟨h1, h2⟩ := inQ_far hw
      exact (List.mem_erase_of_ne (fun e => h2 (by rw [e]; exact hbr))).2 (hin2 w h1)) σ
   clear IHb IH hRd hCh hbV hVl
   have o3 := kob3 σ.nobj (by simp only [put_nobj]; omega)
   rw [put_same] at o3
   simp only [put_nobj] at kno3
   repeat' (first
 |with_reducible first|apply Xa|apply Xb|(refine Xc ?_;intro κ hκ)|(apply hκ.out;clear hκ κ)|apply Xd|apply Xe|apply Xf
 |((with_reducible first|refine Xl ?_ ?_|refine Xk ?_ ?_)<;> intro h hari<;> try exact Xp)
 |((with_reducible refine Xh ?_);first|(refine Xi (hSp _ _) ?_;rintro _ _ ⟨⟨_,_,rs,rfl,⟨ih3,ip3,in3,pc3,nc3,rfl,hP3,hN3⟩,⟨ih4,ip4,in4,pc4,nc4,rfl,hP4,hN4⟩,hG,hC⟩,hK5⟩;(have hbr : b ∈ rs:=(by obtain ⟨ad,e,-,-⟩:=hG;rw [e];simp);have hHF:=HHF.out rs _ ⟨ih3,ip3,in3,pc3,nc3,rfl,hP3,hN3⟩;have hFA:=HFA.out rs _ hbr ⟨ih4,ip4,in4,pc4,nc4,rfl,hP4,hN4⟩;have HC : Abs.Hid _:=hC;clear hC hG;have kno5:=hK5.nobj;simp only [lay_nobj] at kno5;have hKz:=(hKy.lay 1).trans hK5))|(refine Xi (hHF _) ?_;rintro _ _ ⟨⟨b5,rfl,hb5⟩,hK6⟩;(have HB5 : Abs.Hid _:=hb5;clear hb5;have kno6:=hK6.nobj;have kob6:=hK6.obj;simp only [put_nobj,new_nobj] at kno6 kob6;have hKw:=((((hKz.new _).new _).put (by omega) _).put (by omega) _).trans hK6))|(refine Xi (hFA _) ?_;rintro _ _ ⟨⟨b7,rfl,hb7⟩,hK7⟩;(have HB7 : Abs.Hid _:=hb7;clear hb7;have hKv:=hKw.trans hK7)))
 |refine Xr ?_
 |exact True.intro
 |(apply hκ.out;clear hκ κ))
   ·refine ⟨_, rfl, false, rfl, (fun h => by cases h), fun ⟨ν, hν⟩ => ?_⟩
    have h1 := hR2.to ν hν
    have h2 := sol_near (rs := rs) h1
    have hwn : WP (nearQ q' rs) := fun p hp => hA2.w p (List.mem_filter.1 hp).1
    obtain ⟨p, hp, hpv⟩ := inQ_bare HH2.out hA2.nt hbi
    have h3 := val_mem (v := b) hwn h2 ⟨p, List.mem_filter.2 ⟨hp, List.any_eq_true.2 ⟨b, hbr, hpv⟩⟩, hpv⟩
    have h4 : Sol neg (eputQ b (ν b) (nearQ q' rs)) ν := (sol_put hwn).2 (by
     have : updN ν b (ν b) = ν := by
      funext w
      unfold updN
      split
      ·rename_i e; rw [e]
      ·rfl
     rw [this]; exact h2)
    have := HB5.out.2 ⟨ν b, h3, ν, h4⟩
    rw [this] at h
    cases h
   ·refine ⟨_, rfl, b7, rfl, fun h7 => ?_, fun ⟨ν, hν⟩ => HB7.out.2 ⟨ν, sol_far (hR2.to ν hν)⟩⟩
    obtain ⟨n, -, ν1, hν1⟩ := HB5.out.1 h
    obtain ⟨ν2, hν2⟩ := HB7.out.1 h7
    have hwn : WP (nearQ q' rs) := fun p hp => hA2.w p (List.mem_filter.1 hp).1
    obtain ⟨ν', hν', -⟩ := hR2.back _ (sol_split HC.out ((sol_put hwn).1 hν1) hν2)
    exact ⟨ν', hν'⟩
theorem eholds_spec (neg : Int → Tup → Prop) (om : Nat) : ∀ (k : Nat) (V : List Int), V.length ≤ k → HoldsAt neg om V := by
 intro k
 induction k with
 | zero => exact fun V hV => eholds_step neg om V (fun V' h => by omega)
 | succ k IH => exact fun V hV => eholds_step neg om V (fun V' h => IH V' (by omega))
end Go.Proofs.YtmoeoppbmhfbpaaGreatDoorY
