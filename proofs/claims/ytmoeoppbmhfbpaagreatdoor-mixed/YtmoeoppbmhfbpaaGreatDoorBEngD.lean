import Derived.Test.YtmoeoppbmhfbpaaGreatDoorBEngA
/- The program's engine: the variables of atoms, and what is linked. -/
namespace Go.Proofs.YtmoeoppbmhfbpaaGreatDoorB
open Go.Abs
set_option linter.unusedSimpArgs false
set_option linter.unusedVariables false
set_option maxRecDepth 100000
def vF (acc : List Int) (t : Tm) : List Int := if t.1 = true ∧ t.2 ∉ acc then acc ++ [t.2] else acc
def varsL (l : List Atm) : List Int := (l.flatMap (·.ts)).foldl vF []
theorem vF_len (acc : List Int) (t : Tm) : (vF acc t).length ≤ acc.length + 1 := by unfold vF; split <;> simp
theorem vFs_len : ∀ (ts : List Tm) (acc : List Int), (ts.foldl vF acc).length ≤ acc.length + ts.length
 | [], acc => by simp
 | t :: ts, acc => by
  have h1 := vFs_len ts (vF acc t)
  have h2 := vF_len acc t
  simp only [List.foldl_cons, List.length_cons]
  omega
theorem vFs_mem : ∀ (ts : List Tm) (acc : List Int) (v : Int), v ∈ ts.foldl vF acc ↔ v ∈ acc ∨ (true, v) ∈ ts
 | [], acc, v => by simp
 | t :: ts, acc, v => by
  rw [List.foldl_cons, vFs_mem ts]
  obtain ⟨b, w⟩ := t
  unfold vF
  by_cases h : b = true ∧ w ∉ acc
  ·rw [if_pos h]
   obtain ⟨rfl, hw⟩ := h
   simp only [List.mem_append, List.mem_cons, List.not_mem_nil, or_false, Prod.mk.injEq, true_and]
   constructor
   ·rintro ((h | rfl) | h)
    ·exact .inl h
    ·exact .inr (.inl rfl)
    ·exact .inr (.inr h)
   ·rintro (h | rfl | h)
    ·exact .inl (.inl h)
    ·exact .inl (.inr rfl)
    ·exact .inr h
  ·rw [if_neg h]
   simp only [List.mem_cons, Prod.mk.injEq]
   constructor
   ·rintro (h | h)
    ·exact .inl h
    ·exact .inr (.inr h)
   ·rintro (h' | ⟨rfl, rfl⟩ | h')
    ·exact .inl h'
    ·by_cases hm : v ∈ acc
     ·exact .inl hm
     ·exact absurd ⟨rfl, hm⟩ h
    ·exact .inr h'
theorem varsL_mem (l : List Atm) (v : Int) : v ∈ varsL l ↔ ∃ a ∈ l, (true, v) ∈ a.ts := by
 unfold varsL
 rw [vFs_mem]
 simp [List.mem_flatMap]
theorem flat3_len : ∀ (l : List Atm), (∀ a ∈ l, a.ts.length ≤ 3) → (l.flatMap (·.ts)).length ≤ l.length * 3
 | [], _ => by simp
 | a :: l, h => by
  have h1 := h a (by simp)
  have h2 := flat3_len l (fun b hb => h b (by simp [hb]))
  simp only [List.flatMap_cons, List.length_append, List.length_cons]
  omega
theorem varsL_len {l : List Atm} (h : ∀ a ∈ l, a.ts.length ≤ 3) : (varsL l).length ≤ l.length * 3 := by
 have h1 := vFs_len (l.flatMap (·.ts)) []
 have h2 := flat3_len l h
 unfold varsL
 simp only [List.length_nil] at h1
 omega
set_option maxHeartbeats 16000000 in
theorem evars_spec (l : List Atm) (cs : List AV) (idl : Nat) (hE : EL EAt l cs) (h3 : ∀ a ∈ l, a.ts.length ≤ 3) (hl : l.length ≤ 200) (σ : St) : ACalls Tryz.prog 111 [sl idl l.length cs] σ fun r σ' => (∃ id, r = sl id (varsL l).length (icells (varsL l))) ∧ Keep σ σ' := by
 have hcl := EL.length EAt_len hE
 refine acalls 39 [.tmp 2] Tryz.func111 rfl (by decide) rfl rfl (Nat.le_of_ble_eq_true rfl) ?_
 repeat' (first
 |with_reducible first|apply Xa|apply Xb|(refine Xc ?_;intro κ hκ)|(apply hκ.out;clear hκ κ)|apply Xd|apply Xe|apply Xf
 |((with_reducible first|refine Xl ?_ ?_|refine Xk ?_ ?_)<;> intro h hari<;> try exact Xp)
 |((with_reducible refine aapp_go ?_);refine Xt ?_;intro idn σn hOn hKn eobj enobj ever entop)
 |((with_reducible refine aappn_go ?_);refine Xu ?_)
 |refine Xr ?_
 |exact True.intro
 |(apply hκ.out;clear hκ κ))
 refine awp_loop (fun m s σ' => ∃ (k i3 : Nat) (vs : List Int), m = l.length - k ∧ k ≤ l.length ∧ s 3 = sl i3 vs.length (icells vs) ∧ s 9 = sl idl l.length cs ∧ s 10 = ic l.length ∧ s 11 = ic k ∧ Keep σ σ' ∧ Own σ σ' i3 vs.length ∧ vs.length ≤ k * 3 ∧ Abs.Hid (vs = varsL (l.take k))) l.length
  ⟨0, 1, [], by omega, by omega, by simp [upd, icells], rfl, rfl, rfl, by exact Xs, Own.nil _ _, by simp, by simp [Abs.Hid, varsL]⟩ ?_
 rintro m s σ' ⟨k, i3, vs, rfl, hk, h3', h9, h10, h11, hK, hO, hvl, hV⟩
 have kno := hK.nobj
 by_cases hlt : k < l.length
 ·have hget := List.getElem?_eq_getElem hlt
  obtain ⟨ida, r, hd⟩ := EAt_get hE hget
  have hb := h3 _ (List.getElem_mem hlt)
  generalize l[k] = a at hd hget hb
  have HG : Abs.Hid (varsL (l.take (k + 1)) = a.ts.foldl vF (varsL (l.take k))) := by
   rw [Abs.Hid, List.take_add_one, hget]; simp [varsL]
  clear hget
  have htl := ecells_len a.ts
  repeat' (first
 |with_reducible first|apply Xa|apply Xb|(refine Xc ?_;intro κ hκ)|(apply hκ.out;clear hκ κ)|apply Xd|apply Xe|apply Xf
 |((with_reducible first|refine Xl ?_ ?_|refine Xk ?_ ?_)<;> intro h hari<;> try exact Xp)
 |((with_reducible refine aapp_go ?_);refine Xt ?_;intro idn σn hOn hKn eobj enobj ever entop)
 |((with_reducible refine aappn_go ?_);refine Xu ?_)
 |refine Xr ?_
 |exact True.intro
 |(apply hκ.out;clear hκ κ))
  refine awp_loop (fun m s σ'' => ∃ (j i4 : Nat) (ws : List Int), m = a.ts.length - j ∧ j ≤ a.ts.length ∧ s 3 = sl i4 ws.length (icells ws) ∧ s 9 = sl idl l.length cs ∧ s 10 = ic l.length ∧ s 11 = ic k ∧ s 16 = sl ida a.ts.length (ecells a.ts) ∧ s 17 = ic a.ts.length ∧ s 18 = ic j ∧ Keep σ σ'' ∧ Own σ σ'' i4 ws.length ∧ ws.length ≤ k * 3 + j ∧ Abs.Hid (ws = (a.ts.take j).foldl vF vs)) a.ts.length
   ⟨0, i3, vs, by omega, by omega, by simp [upd, *], by simp [upd, *], by simp [upd, *], by simp [upd, *], by simp [upd, *], by simp [upd, *], rfl, (hK.new _).put hK.nobj _, Own.put (Own.new hO _) _ _, by omega, by simp [Abs.Hid]⟩ ?_
  clear h3' h9 h10 h11 hK hO kno hvl
  rintro m s σ'' ⟨j, i4, ws, rfl, hj, h3', h9, h10, h11, h16, h17, h18, hK, hO, hvl, hW⟩
  have kno := hK.nobj
  have hil := icells_len ws
  by_cases hlt2 : j < a.ts.length
  ·have hget := List.getElem?_eq_getElem hlt2
   obtain ⟨r2, hd2⟩ := ecells_get hget
   generalize a.ts[j] = w at hd2 hget
   obtain ⟨w1, w2⟩ := w
   have HS : Abs.Hid ((a.ts.take (j + 1)).foldl vF vs = vF ((a.ts.take j).foldl vF vs) (w1, w2)) := by
    rw [Abs.Hid, List.take_add_one, hget]; simp
   clear hget
   have hpn := placeOf_neg w2 ws
   have hw5 : ws.length ≤ 100000 := by omega
   cases w1 with
   | false =>
    have HN : Abs.Hid (vF ws (false, w2) = ws) := by simp [Abs.Hid, vF]
    repeat' (first
 |with_reducible first|apply Xa|apply Xb|(refine Xc ?_;intro κ hκ)|(apply hκ.out;clear hκ κ)|apply Xd|apply Xe|apply Xf
 |((with_reducible first|refine Xl ?_ ?_|refine Xk ?_ ?_)<;> intro h hari<;> try exact Xp)
 |((with_reducible refine aapp_go ?_);refine Xt ?_;intro idn σn hOn hKn eobj enobj ever entop)
 |((with_reducible refine aappn_go ?_);refine Xu ?_)
 |refine Xr ?_
 |exact True.intro
 |(apply hκ.out;clear hκ κ))
    refine ⟨a.ts.length - (j + 1), by omega, j + 1, i4, ws, ?_⟩
    ((repeat' with_reducible refine And.intro ?_ ?_)<;> first|exact Xq|exact (Own.put (Own.new hO _) _ _)|exact (by rw [Abs.Hid, HS.out, ← hW.out, HN.out])|exact Xs)
   | true =>
    by_cases hm : w2 ∈ ws
    ·have HN : Abs.Hid (vF ws (true, w2) = ws) := by simp [Abs.Hid, vF, hm]
     have hdm : decide (w2 ∉ ws) = false := by simp [hm]
     rw [hdm] at hpn
     clear hdm hm
     repeat' (first
 |with_reducible first|apply Xa|apply Xb|(refine Xc ?_;intro κ hκ)|(apply hκ.out;clear hκ κ)|apply Xd|apply Xe|apply Xf
 |((with_reducible first|refine Xl ?_ ?_|refine Xk ?_ ?_)<;> intro h hari<;> try exact Xp)
 |((with_reducible refine aapp_go ?_);refine Xt ?_;intro idn σn hOn hKn eobj enobj ever entop)
 |((with_reducible refine aappn_go ?_);refine Xu ?_)
 |((with_reducible refine Xh ?_);refine Xi (eplaceOf_spec _ _ _ hw5 _) ?_;rintro _ _ ⟨rfl,hK2⟩;(have hKx:=((hK.new _).put hK.nobj _).trans hK2;have hOx:=Own.keep (Own.put (Own.new hO _) _ _) hK2))
 |refine Xr ?_
 |exact True.intro
 |(apply hκ.out;clear hκ κ))
     refine ⟨a.ts.length - (j + 1), by omega, j + 1, i4, ws, ?_⟩
     ((repeat' with_reducible refine And.intro ?_ ?_)<;> first|exact Xq|exact (hOx)|exact (by rw [Abs.Hid, HS.out, ← hW.out, HN.out])|exact Xs)
    ·have HN : Abs.Hid (vF ws (true, w2) = ws ++ [w2]) := by simp [Abs.Hid, vF, hm]
     have hdm : decide (w2 ∉ ws) = true := by simp [hm]
     rw [hdm] at hpn
     clear hdm hm
     repeat' (first
 |with_reducible first|apply Xa|apply Xb|(refine Xc ?_;intro κ hκ)|(apply hκ.out;clear hκ κ)|apply Xd|apply Xe|apply Xf
 |((with_reducible first|refine Xl ?_ ?_|refine Xk ?_ ?_)<;> intro h hari<;> try exact Xp)
 |((with_reducible refine aapp_go ?_);refine Xt ?_;intro idn σn hOn hKn eobj enobj ever entop)
 |((with_reducible refine aappn_go ?_);refine Xu ?_)
 |((with_reducible refine Xh ?_);refine Xi (eplaceOf_spec _ _ _ hw5 _) ?_;rintro _ _ ⟨rfl,hK2⟩;(have hKx:=((hK.new _).put hK.nobj _).trans hK2;have hOx:=Own.keep (Own.put (Own.new hO _) _ _) hK2;have kob2:=hK2.obj _ (show σ''.nobj < _ by simp only [put_nobj,new_nobj];omega);rw [put_same] at kob2))
 |refine Xr ?_
 |exact True.intro
 |(apply hκ.out;clear hκ κ))
     refine ⟨a.ts.length - (j + 1), by omega, j + 1, idn, ws ++ [w2], ?_⟩
     ((repeat' with_reducible refine And.intro ?_ ?_)<;> first|exact Xq|exact (by simpa using hOn)|exact (by rw [Abs.Hid, HS.out, ← hW.out, HN.out])|exact (by simp [icells])|exact Xs)
  ·have hjl : j = a.ts.length := by omega
   subst hjl
   rw [List.take_length] at hW
   repeat' (first
 |with_reducible first|apply Xa|apply Xb|(refine Xc ?_;intro κ hκ)|(apply hκ.out;clear hκ κ)|apply Xd|apply Xe|apply Xf
 |((with_reducible first|refine Xl ?_ ?_|refine Xk ?_ ?_)<;> intro h hari<;> try exact Xp)
 |((with_reducible refine aapp_go ?_);refine Xt ?_;intro idn σn hOn hKn eobj enobj ever entop)
 |((with_reducible refine aappn_go ?_);refine Xu ?_)
 |refine Xr ?_
 |exact True.intro
 |(apply hκ.out;clear hκ κ))
   refine ⟨l.length - (k + 1), by omega, k + 1, i4, ws, ?_⟩
   ((repeat' with_reducible refine And.intro ?_ ?_)<;> first|exact Xq|exact (by rw [Abs.Hid, HG.out, ← hV.out, hW.out])|exact Xs)
 ·have hkl : k = l.length := by omega
  subst hkl
  have hV := hV.out
  rw [List.take_length] at hV
  subst hV
  repeat' (first
 |with_reducible first|apply Xa|apply Xb|(refine Xc ?_;intro κ hκ)|(apply hκ.out;clear hκ κ)|apply Xd|apply Xe|apply Xf
 |((with_reducible first|refine Xl ?_ ?_|refine Xk ?_ ?_)<;> intro h hari<;> try exact Xp)
 |((with_reducible refine aapp_go ?_);refine Xt ?_;intro idn σn hOn hKn eobj enobj ever entop)
 |((with_reducible refine aappn_go ?_);refine Xu ?_)
 |refine Xr ?_
 |exact True.intro
 |(apply hκ.out;clear hκ κ))
  first | exact ⟨_, rfl, ⟨_, rfl⟩, hK⟩ | exact ⟨_, rfl, _, rfl⟩ | exact ⟨_, rfl, ⟨_, rfl⟩⟩
/- The program's engine: what is linked, what is idle. -/
theorem atomsQ_3 {q : Qry} (hq : QOk q) : ∀ a ∈ atomsQ q, a.ts.length ≤ 3 := by
 intro a ha
 simp only [atomsQ, List.mem_cons, List.mem_append, List.mem_map] at ha
 rcases ha with rfl | ⟨p, hp, rfl⟩ | ha
 ·exact hq.hd
 ·exact hq.pa p hp
 ·exact hq.na a ha
theorem atomsQ_len {q : Qry} (hq : QOk q) : (atomsQ q).length ≤ 129 := by
 have h1 := hq.pl
 have h2 := hq.nl
 simp [atomsQ]; omega
def linkB (q : Qry) (v : Int) : Bool := decide (1 < cntV (atomsQ q) v)
set_option maxHeartbeats 4000000 in
theorem elinked_spec (q : Qry) (c : List AV) (v : Int) (hc : EQ q c) (hq : QOk q) (σ : St) : ACalls Tryz.prog 252 [ag c, ic v] σ fun r σ' => r = sc (.bool (linkB q v)) ∧ Keep σ σ' := by
 have hA := fun σ => eatoms_spec q c hc hq σ
 have hAt3 := atomsQ_3 hq
 have hAl := atomsQ_len hq
 have hcc : ∃ x0 x1 x2 x3, c = [x0, x1, x2, x3] ∧ c.all flat = true := by
  obtain ⟨ih, ip, inn, pc, nc, rfl, -, -⟩ := hc
  exact ⟨_, _, _, _, rfl, rfl⟩
 obtain ⟨x0, x1, x2, x3, rfl, hfl⟩ := hcc
 have HL : Abs.Hid (linkB q v = decide (1 < cntV (atomsQ q) v)) := rfl
 generalize linkB q v = lb at *
 clear hc hq
 generalize atomsQ q = l at *
 refine acalls 23 [.tmp 4] Tryz.func252 rfl (by decide) rfl rfl (Nat.le_of_ble_eq_true rfl) ?_
 repeat' (first
 |with_reducible first|apply Xa|apply Xb|(refine Xc ?_;intro κ hκ)|(apply hκ.out;clear hκ κ)|apply Xd|apply Xe|apply Xf
 |((with_reducible first|refine Xl ?_ ?_|refine Xk ?_ ?_)<;> intro h hari<;> try exact Xp)
 |((with_reducible refine Xh ?_);refine Xi (hA _) ?_;rintro _ _ ⟨ida,cs,rfl,hE,hK2⟩;(have hcl:=EL.length EAt_len hE;have hKa:=((Keep.refl σ).new _).trans hK2))
 |refine Xr ?_
 |exact True.intro
 |(apply hκ.out;clear hκ κ))
 refine awp_loop (fun m s σ' => ∃ i a : Nat, m = l.length - i ∧ i ≤ l.length ∧ s 1 = ic v ∧ s 5 = ic a ∧ s 9 = sl ida l.length cs ∧ s 10 = ic l.length ∧ s 11 = ic i ∧ Keep σ σ' ∧ a ≤ i ∧ Abs.Hid (a = cntV (l.take i) v)) l.length
  ⟨0, 0, by omega, by omega, rfl, rfl, rfl, rfl, rfl, hKa, by simp, by simp [Abs.Hid, cntV]⟩ ?_
 clear hKa hK2
 rintro m s σ' ⟨i, a, rfl, hi, h1, h5, h9, h10, h11, hK, b1, hA⟩
 have kno := hK.nobj
 by_cases hlt : i < l.length
 ·have hget := List.getElem?_eq_getElem hlt
  obtain ⟨id, r, hd⟩ := EAt_get hE hget
  have hb := hAt3 _ (List.getElem_mem hlt)
  generalize l[i] = w at hd hget hb
  have HG : Abs.Hid (cntV (l.take (i + 1)) v = cntV (l.take i) v + if hasV w.ts v then 1 else 0) := by
   rw [Abs.Hid, List.take_add_one, hget, Option.toList_some, cntV, List.countP_append]; simp [cntV, List.countP_cons]
  clear hget
  have hw1000 : w.ts.length ≤ 1000 := by omega
  repeat' (first
 |with_reducible first|apply Xa|apply Xb|(refine Xc ?_;intro κ hκ)|(apply hκ.out;clear hκ κ)|apply Xd|apply Xe|apply Xf
 |((with_reducible first|refine Xl ?_ ?_|refine Xk ?_ ?_)<;> intro h hari<;> try exact Xp)
 |((with_reducible refine Xh ?_);refine Xi (ehas_spec _ _ _ _ hw1000 _) ?_;rintro _ _ ⟨rfl,hK2⟩;(have kno2:=hK2.nobj;have hK3:=((hK.new _).put hK.nobj _).trans hK2))
 |refine Xr ?_
 |exact True.intro
 |(apply hκ.out;clear hκ κ))
  ·refine ⟨l.length - (i + 1), by omega, i + 1, a + 1, ?_⟩
   ((repeat' with_reducible refine And.intro ?_ ?_)<;> first|exact Xq|exact (by rw [Abs.Hid, HG.out, hA.out, if_pos (by assumption)])|exact Xs)
  ·refine ⟨l.length - (i + 1), by omega, i + 1, a, ?_⟩
   ((repeat' with_reducible refine And.intro ?_ ?_)<;> first|exact Xq|exact (by rw [Abs.Hid, HG.out, hA.out, if_neg (by simp_all), Nat.add_zero])|exact Xs)
 ·have hil : i = l.length := by omega
  subst hil
  have hA := hA.out
  rw [List.take_length] at hA
  subst hA
  have hgt : decide ((cntV l v : Int) > 1) = lb := by rw [HL.out]; congr 1; apply propext; omega
  repeat' (first
 |with_reducible first|apply Xa|apply Xb|(refine Xc ?_;intro κ hκ)|(apply hκ.out;clear hκ κ)|apply Xd|apply Xe|apply Xf
 |((with_reducible first|refine Xl ?_ ?_|refine Xk ?_ ?_)<;> intro h hari<;> try exact Xp)
 |refine Xr ?_
 |exact True.intro
 |(apply hκ.out;clear hκ κ))
  first | exact ⟨_, rfl, rfl, hK⟩ | exact ⟨_, rfl, rfl⟩ | exact ⟨_, rfl, hK⟩ | exact hK | exact ⟨_, rfl, by rw [← hgt]⟩
def idleG (q : Qry) : Nat → List Int → Bool
 | _, [] => true
 | n, v :: vs => if linkB q v = true then (if 1 < n + 1 ∨ cntV (q.parts.map (·.a)) v = 1 then false else idleG q (n + 1) vs) else idleG q n vs
def idleB (q : Qry) (a : Atm) : Bool := idleG q 0 (varsL [a])
theorem cntV_le (l : List Atm) (v : Int) : cntV l v ≤ l.length := List.countP_le_length
set_option maxHeartbeats 16000000 in
theorem eidle_spec (q : Qry) (c : List AV) (a : Atm) (id : Nat) (ha : a.ts.length ≤ 3) (hc : EQ q c) (hq : QOk q) (σ : St) : ACalls Tryz.prog 267 [ag c, ag [ic a.p, sl id a.ts.length (ecells a.ts)]] σ fun r σ' => r = sc (.bool (idleB q a)) ∧ Keep σ σ' := by
 have hL := fun v σ => elinked_spec q c v hc hq σ
 have hPW := fun v σ => epartsWith_spec q c v hc hq σ
 have hcl : ∀ v, cntV (q.parts.map (·.a)) v ≤ 64 := fun v => by
  have h1 := cntV_le (q.parts.map (·.a)) v
  have h2 := hq.pl
  simp at h1; omega
 have hcc : ∃ x0 x1 x2 x3, c = [x0, x1, x2, x3] ∧ c.all flat = true := by
  obtain ⟨ih, ip, inn, pc, nc, rfl, -, -⟩ := hc
  exact ⟨_, _, _, _, rfl, rfl⟩
 obtain ⟨x0, x1, x2, x3, rfl, hfl⟩ := hcc
 have hvars := fun (i : Nat) (σ : St) => evars_spec [a] [ic a.p, sl id a.ts.length (ecells a.ts)] i (EL.single ⟨id, rfl⟩) (by simp; exact ha) (by simp) σ
 have hvl := varsL_len (l := [a]) (by simp; exact ha)
 have HI : Abs.Hid (idleB q a = idleG q 0 (varsL [a])) := rfl
 generalize idleB q a = ib at *
 generalize varsL [a] = vs at *
 have hvi := icells_len vs
 simp only [List.length_cons, List.length_nil] at hvl hvars
 refine acalls 31 [.tmp 4] Tryz.func267 rfl (by decide) rfl rfl (Nat.le_of_ble_eq_true rfl) ?_
 repeat' (first
 |with_reducible first|apply Xa|apply Xb|(refine Xc ?_;intro κ hκ)|(apply hκ.out;clear hκ κ)|apply Xd|apply Xe|apply Xf
 |((with_reducible first|refine Xl ?_ ?_|refine Xk ?_ ?_)<;> intro h hari<;> try exact Xp)
 |((with_reducible refine Xh ?_);refine Xi (hvars _ _) ?_;rintro _ _ ⟨⟨idv,rfl⟩,hK2⟩;(have hKa:=((((Keep.refl σ).new _).new _).lay 1).trans hK2;have kno2:=hK2.nobj;have kob2:=hK2.obj;(try simp only [lay_nobj,new_nobj] at kno2 kob2)))
 |refine Xr ?_
 |exact True.intro
 |(apply hκ.out;clear hκ κ))
 rename_i σ1
 have ob0 := kob2 σ.nobj (by omega)
 rw [lay_obj, new_lt (by simp only [new_nobj]; omega), new_same] at ob0
 clear kob2 hK2
 refine awp_loop (fun m s σ' => ∃ i n : Nat, m = vs.length - i ∧ i ≤ vs.length ∧ s 2 = ptr σ.nobj 0 ∧ s 5 = ic n ∧ s 10 = sl idv vs.length (icells vs) ∧ s 11 = ic vs.length ∧ s 12 = ic i ∧ Keep σ σ' ∧ σ.nobj < σ'.nobj ∧ σ'.obj σ.nobj = [x0, x1, x2, x3] ∧ n ≤ i ∧ Abs.Hid (ib = idleG q n (vs.drop i))) vs.length
  ⟨0, 0, by omega, by omega, by simp [upd], by simp [upd], by simp [upd], by simp [upd, *], rfl, hKa, by omega, ob0, by simp, by simpa [Abs.Hid] using HI.out⟩ ?_
 clear hKa ob0 kno2
 rintro m s σ' ⟨i, n, rfl, hi, h2, h5, h10, h11, h12, hK, hno, ob, b1, hI⟩
 have kno := hK.nobj
 by_cases hlt : i < vs.length
 ·have hget := List.getElem?_eq_getElem hlt
  obtain ⟨r, hd⟩ := icells_get hget
  have hdr : Abs.Hid (vs.drop i = vs[i] :: vs.drop (i + 1)) := List.drop_eq_getElem_cons hlt
  generalize vs[i] = v at hd hdr
  clear hget
  have hcv := hcl v
  have hIe : Abs.Hid (ib = if linkB q v = true then (if 1 < n + 1 ∨ cntV (q.parts.map (·.a)) v = 1 then false else idleG q (n + 1) (vs.drop (i + 1))) else idleG q n (vs.drop (i + 1))) := by
   rw [Abs.Hid, hI.out, hdr.out, idleG]
  clear hI hdr
  cases hlb : linkB q v with
  | false =>
   have hIe : Abs.Hid (ib = idleG q n (vs.drop (i + 1))) := by rw [Abs.Hid, hIe.out, hlb]; simp
   repeat' (first
 |with_reducible first|apply Xa|apply Xb|(refine Xc ?_;intro κ hκ)|(apply hκ.out;clear hκ κ)|apply Xd|apply Xe|apply Xf
 |((with_reducible first|refine Xl ?_ ?_|refine Xk ?_ ?_)<;> intro h hari<;> try exact Xp)
 |((with_reducible refine Xh ?_);refine Xi (hL _ _) ?_;rintro _ _ ⟨rfl,hK2⟩;(have kno2:=hK2.nobj;have kob2:=hK2.obj;have hK3:=hK.trans hK2))
 |refine Xr ?_
 |exact True.intro
 |(apply hκ.out;clear hκ κ))
   refine ⟨vs.length - (i + 1), by omega, i + 1, n, ?_⟩
   ((repeat' with_reducible refine And.intro ?_ ?_)<;> first|exact Xq|exact Xs)
  | true =>
   generalize hcn : cntV (q.parts.map (·.a)) v = cn at *
   have hIe : Abs.Hid (ib = if 1 < n + 1 ∨ cn = 1 then false else idleG q (n + 1) (vs.drop (i + 1))) := by rw [Abs.Hid, hIe.out, hlb]; simp
   repeat' (first
 |with_reducible first|apply Xa|apply Xb|(refine Xc ?_;intro κ hκ)|(apply hκ.out;clear hκ κ)|apply Xd|apply Xe|apply Xf
 |((with_reducible first|refine Xl ?_ ?_|refine Xk ?_ ?_)<;> intro h hari<;> try exact Xp)
 |((with_reducible refine Xh ?_);first|(refine Xi (hL _ _) ?_;rintro _ _ ⟨rfl,hK2⟩;(have kno2:=hK2.nobj;have kob2:=hK2.obj;have hK3:=hK.trans hK2))|(refine Xi (hPW _ _) ?_;rintro _ _ ⟨rfl,hK4⟩;(have kno4:=hK4.nobj;have kob4:=hK4.obj;have hK5:=hK3.trans hK4)))
 |refine Xr ?_
 |exact True.intro
 |(apply hκ.out;clear hκ κ))
   ·have : ib = false := by
     rw [hIe.out, if_pos]
     right; simp only [beq_iff_eq] at h; omega
    exact ⟨_, rfl, by rw [this]⟩
   ·have : ib = idleG q (n + 1) (vs.drop (i + 1)) := by
     rw [hIe.out, if_neg]
     simp only [beq_eq_false_iff_ne, ne_eq] at h
     omega
    refine ⟨vs.length - (i + 1), by omega, i + 1, n + 1, ?_⟩
    ((repeat' with_reducible refine And.intro ?_ ?_)<;> first|exact Xq|exact (this)|exact Xs)
   ·have : ib = false := by
     rw [hIe.out, if_pos]
     left; omega
    exact ⟨_, rfl, by rw [this]⟩
 ·have hil : i = vs.length := by omega
  subst hil
  have hI : ib = true := by rw [hI.out, List.drop_length]; rfl
  subst hI
  repeat' (first
 |with_reducible first|apply Xa|apply Xb|(refine Xc ?_;intro κ hκ)|(apply hκ.out;clear hκ κ)|apply Xd|apply Xe|apply Xf
 |((with_reducible first|refine Xl ?_ ?_|refine Xk ?_ ?_)<;> intro h hari<;> try exact Xp)
 |refine Xr ?_
 |exact True.intro
 |(apply hκ.out;clear hκ κ))
  first | exact ⟨_, rfl, rfl, hK⟩ | exact ⟨_, rfl, rfl⟩ | exact ⟨_, rfl, hK⟩ | exact hK
end Go.Proofs.YtmoeoppbmhfbpaaGreatDoorB
