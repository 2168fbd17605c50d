import Derived.Test.YtmoeoppbmhfbpaaGreatDoorBEngX
/- The program's engine: all that a query brings is derived. -/
namespace Go.Proofs.YtmoeoppbmhfbpaaGreatDoorB
open Go.Abs
set_option linter.unusedSimpArgs false
set_option linter.unusedVariables false
set_option maxRecDepth 100000
structure Gro (k : Nat) (S : Tup → Prop) (M M' : MM) (d d' : Int) : Prop where
 len : M'.length = M.length
 oth : ∀ j, j ≠ k → (M'[j]?).map (·.2) = (M[j]?).map (·.2)
 ext : ∃ new : List Tup, tupsOf M' k = tupsOf M k ++ new ∧ new.Nodup ∧ (∀ t ∈ new, S t ∧ t ∉ tupsOf M k) ∧ d' = d + new.length
theorem Gro.refl (k : Nat) (S : Tup → Prop) (M : MM) (d : Int) : Gro k S M M d d := ⟨rfl, fun _ _ => rfl, [], by simp, List.nodup_nil, by simp, by simp⟩
theorem Gro.trans {k : Nat} {S : Tup → Prop} {M M1 M2 : MM} {d d1 d2 : Int} (h : Gro k S M M1 d d1) (g : Gro k S M1 M2 d1 d2) : Gro k S M M2 d d2 := by
 obtain ⟨n1, a1, a2, a3, a4⟩ := h.ext
 obtain ⟨n2, b1, b2, b3, b4⟩ := g.ext
 refine ⟨g.len.trans h.len, fun j hj => (g.oth j hj).trans (h.oth j hj), n1 ++ n2, by rw [b1, a1, List.append_assoc], ?_, ?_, ?_⟩
 ·rw [List.nodup_append]
  exact ⟨a2, b2, fun x hx y hy e => (b3 y hy).2 (by rw [a1, ← e]; exact List.mem_append.2 (.inr hx))⟩
 ·intro t ht
  rcases List.mem_append.1 ht with ht | ht
  ·exact a3 t ht
  ·exact ⟨(b3 t ht).1, fun hm => (b3 t ht).2 (by rw [a1]; exact List.mem_append.2 (.inl hm))⟩
 ·rw [b4, a4]; simp; omega
theorem Gro.mono {k : Nat} {S S' : Tup → Prop} {M M' : MM} {d d' : Int} (h : Gro k S M M' d d') (hs : ∀ t, S t → S' t) : Gro k S' M M' d d' := by
 obtain ⟨n, a1, a2, a3, a4⟩ := h.ext
 exact ⟨h.len, h.oth, n, a1, a2, fun t ht => ⟨hs t (a3 t ht).1, (a3 t ht).2⟩, a4⟩
theorem Gro.sub {k : Nat} {S : Tup → Prop} {M M' : MM} {d d' : Int} (h : Gro k S M M' d d') {t : Tup} (ht : t ∈ tupsOf M k) : t ∈ tupsOf M' k := by
 obtain ⟨n, a1, -, -, -⟩ := h.ext
 rw [a1]; exact List.mem_append.2 (.inl ht)
theorem Gro.le {k : Nat} {S : Tup → Prop} {M M' : MM} {d d' : Int} (h : Gro k S M M' d d') : d ≤ d' := by
 obtain ⟨n, -, -, -, a4⟩ := h.ext
 omega
def Room (M : MM) (d b : Int) : Prop := ∀ x ∈ M, (x.2.length : Int) + (b - d) ≤ 4000
theorem Gro.room {k : Nat} {S : Tup → Prop} {M M' : MM} {d d' b : Int} (h : Gro k S M M' d d') (hr : Room M d b) : Room M' d' b := by
 intro x hx
 obtain ⟨j, hj⟩ := List.getElem?_of_mem hx
 obtain ⟨n, a1, -, -, a4⟩ := h.ext
 have hjl : j < M.length := by rw [← h.len]; exact (List.getElem?_eq_some_iff.1 hj).1
 have hy := List.getElem?_eq_getElem hjl
 have hb := hr _ (List.getElem_mem hjl)
 by_cases e : j = k
 ·subst e
  unfold tupsOf at a1
  simp only [Int.toNat_natCast, hj, hy, Option.map_some, Option.getD_some] at a1
  rw [a1]
  simp only [List.length_append]
  omega
 ·have := h.oth j e
  rw [hj, hy] at this
  simp at this
  rw [this]
  have := h.le
  omega
theorem tupsOf_get {M : MM} {k : Nat} {x : Nat × List Tup} (h : M[k]? = some x) : tupsOf M (k : Int) = x.2 := by simp [tupsOf, h]
theorem gro_set {M : MM} {k id : Nat} {x : Nat × List Tup} {t : Tup} {S : Tup → Prop} {d : Int} (hx : M[k]? = some x) (ht : t ∉ x.2) (hS : S t) : Gro k S M (M.set k (id, x.2 ++ [t])) d (d + 1) := by
 have hk := (List.getElem?_eq_some_iff.1 hx).1
 refine ⟨by simp, fun j hj => by rw [List.getElem?_set_ne (fun e => hj e.symm)], [t], ?_, by simp, ?_, by simp⟩
 ·rw [tupsOf_get hx, tupsOf_get (x := (id, x.2 ++ [t])) (by simp [hk])]
 ·intro u hu
  simp at hu
  subst hu
  rw [tupsOf_get hx]
  exact ⟨hS, ht⟩
theorem MOb.setd {σ : St} {om ot : Nat} {M : MM} {d d' b : Int} (h : MOb σ om ot M d b) : MOb (σ.put om [fx ot 0 M.length, ic d', ic b]) om ot M d' b where
 ob := put_same
 oc := by rw [show (σ.put om [fx ot 0 M.length, ic d', ic b]).obj ot = σ.obj ot from by simp [St.put]; intro e; exact absurd e.symm h.ne]; exact h.oc
 lo := h.lo
 lt := h.lt
 ne := h.ne
 live := h.live
 inj := h.inj
 t3 := h.t3
 ln := h.ln
 pl := h.pl
theorem KM.setd {om ot : Nat} {M M' : MM} {σ σ' : St} (h : KM om ot M M' σ σ') (c : List AV) : KM om ot M M' σ (σ'.put om c) :=
 ⟨h.nobj, fun o ho h1 h2 => by rw [show (σ'.put om c).obj o = σ'.obj o from by simp [St.put, h1]]; exact h.obj o ho h1 h2, fun o ho h1 h2 => by rw [show (σ'.put om c).ver o = σ'.ver o from by simp [St.put, h1]]; exact h.ver o ho h1 h2, h.ntop, h.top, h.mid⟩
def Hds (neg : Int → Tup → Prop) (q : Qry) (t : Tup) : Prop := ∃ ν, Sol neg q ν ∧ t = esub q.head ν
def DerAt (neg : Int → Tup → Prop) (om ot : Nat) (b : Int) (V : List Int) : Prop := ∀ (q : Qry) (c : List AV) (k : Nat) (M : MM) (d : Int), EQ q c → QAll q → NegOk neg M q → (∀ a ∈ q.nots, a.p ≠ (k : Int)) → QV q → q.head.p = (k : Int) → k < M.length → Room M d b → -1000000 ≤ d → d ≤ 1000000 → -1000000 ≤ b → b ≤ 900000 → (∀ v, inQ q v → v ∈ V) →
 ∀ σ, MOb σ om ot M d b → ACalls Tryz.prog 131 [ptr om 0, ag c] σ fun r σ' => ∃ M' d', MOb σ' om ot M' d' b ∧ KM om ot M M' σ σ' ∧ Gro k (Hds neg q) M M' d d' ∧ d' ≤ 1000000 ∧ (¬ b < d' → ∀ t, Hds neg q t → t ∈ tupsOf M' k)
theorem NegOk.gro {neg : Int → Tup → Prop} {M M' : MM} {q : Qry} {k : Nat} {S : Tup → Prop} {d d' : Int} (h : NegOk neg M q) (hne : ∀ a ∈ q.nots, a.p ≠ (k : Int)) (g : Gro k S M M' d d') : NegOk neg M' q := fun a ha => by
 obtain ⟨j, x, h1, h2, h3⟩ := h a ha
 have hj : j ≠ k := fun e => hne a ha (by rw [h1, e])
 have := g.oth j hj
 rw [h2] at this
 cases hy : M'[j]? with
 | none => rw [hy] at this; simp at this
 | some y =>
  rw [hy] at this
  simp at this
  exact ⟨j, y, h1, hy, fun t => by rw [this]; exact h3 t⟩
set_option maxHeartbeats 32000000 in
theorem ederive_step (neg : Int → Tup → Prop) (om ot : Nat) (b : Int) (V : List Int) (IH : ∀ V' : List Int, V'.length < V.length → DerAt neg om ot b V') : DerAt neg om ot b V := by
 intro q c k M d hc hA hNg hNe hV hk hkM hRoom hd1 hd2 hb1 hb2 hin σ hM
 have hOv := fun σ (h : MOb σ om ot M d b) => eover_spec om ot M d b σ h
 have hhd := hA.ok.hd
 have hh1 : q.head.ts.length ≤ 1000 := by omega
 have hSe := fun (id : Nat) σ => esettled_spec q.head.p id q.head.ts hh1 σ
 have hx0 : M[k]? = some M[k] := List.getElem?_eq_getElem hkM
 generalize M[k] = x at hx0
 have hHa := fun (id : Nat) σ (h : MOb σ om ot M d b) => ehasM_spec om ot M d b q.head id k x hhd hk hx0 σ h
 have hRd := fun σ (h : MOb σ om ot M d b) => ered_spec neg q c om ot M d b hc hA hNg σ h
 have hT : tupsOf M (k : Int) = x.2 := tupsOf_get hx0
 obtain ⟨ih, ip, inn, pc, nc, rfl, -, -⟩ := hc
 have hMn : ∀ cs, MOb (σ.new cs) om ot M d b := fun cs => hM.keep ((Keep.refl σ).new cs)
 by_cases hov : b < d
 ·rw [show decide (b < d) = true from by simpa using hov] at hOv
  rw [hk]
  clear hHa hSe hRd
  refine acalls 86 [] Tryz.func131 rfl (by decide) rfl rfl (Nat.le_of_ble_eq_true rfl) ?_
  repeat' (first
 |with_reducible first|apply Xa|apply Xb|(refine Xc ?_;intro κ hκ)|(apply hκ.out;clear hκ κ)|apply Xd|apply Xe|apply Xf
 |((with_reducible first|refine Xl ?_ ?_|refine Xm ?_ ?_|refine Xk ?_ ?_)<;> intro h hari<;> try exact Xp)
 |((with_reducible refine Xh ?_);refine Xi (hOv _ (hM.keep (by exact Xs))) ?_;rintro _ _ ⟨rfl,rfl⟩)
 |refine Xr ?_
 |exact True.intro
 |((with_reducible refine Xg ?_);refine Xj ?_)
 |(apply hκ.out;clear hκ κ))
  first | exact ⟨_, rfl, M, d, hMn _, KM.ofKeep ((Keep.refl σ).new _), Gro.refl _ _ _ _, hd2, fun h => absurd hov h⟩ | exact ⟨M, d, hMn _, KM.ofKeep ((Keep.refl σ).new _), Gro.refl _ _ _ _, hd2, fun h => absurd hov h⟩
 ·have hovb : decide (b < d) = false := by simpa using hov
  rw [hovb] at hOv
  have hSe1 := hSe ih
  have hHa1 := hHa ih
  rw [hk] at hSe1 hHa1 hRd
  rw [hk]
  have hret : ∀ σ', Keep σ σ' → (∀ t, Hds neg q t → t ∈ x.2) → ∃ M' d', MOb σ' om ot M' d' b ∧ KM om ot M M' σ σ' ∧ Gro k (Hds neg q) M M' d d' ∧ d' ≤ 1000000 ∧ (¬ b < d' → ∀ t, Hds neg q t → t ∈ tupsOf M' k) := fun σ' hKK hall =>
   ⟨M, d, hM.keep hKK, KM.ofKeep hKK, Gro.refl _ _ _ _, hd2, fun _ t ht => by rw [hT]; exact hall t ht⟩
  have HRET : Abs.Hid _ := hret
  clear hret hovb
  cases hs : setl q.head.ts with
  | true =>
   rw [hs] at hSe1
   have hsub := fun ν => setl_sub hs ν
   by_cases hm : tupA q.head ∈ x.2
   ·rw [show decide (tupA q.head ∈ x.2) = true from by simpa using hm] at hHa1
    have hall : ∀ t, Hds neg q t → t ∈ x.2 := fun t ⟨ν, _, e⟩ => by rw [e, hsub]; exact hm
    have HALL : Abs.Hid _ := hall
    clear hall hsub hHa hSe hRd
    refine acalls 86 [] Tryz.func131 rfl (by decide) rfl rfl (Nat.le_of_ble_eq_true rfl) ?_
    repeat' (first
 |with_reducible first|apply Xa|apply Xb|(refine Xc ?_;intro κ hκ)|(apply hκ.out;clear hκ κ)|apply Xd|apply Xe|apply Xf
 |((with_reducible first|refine Xl ?_ ?_|refine Xm ?_ ?_|refine Xk ?_ ?_)<;> intro h hari<;> try exact Xp)
 |((with_reducible refine Xh ?_);first|(refine Xi (hOv _ (hM.keep (by exact Xs))) ?_;rintro _ _ ⟨rfl,rfl⟩)|(refine Xi (hSe1 _) ?_;rintro _ _ ⟨rfl,hK2⟩;(have kno2:=hK2.nobj;have kob2:=hK2.obj;have hKx:=((Keep.refl σ).new _).trans hK2;simp only [new_nobj] at kno2 kob2))|(refine Xi (hHa1 _ (hM.keep (by exact Xs))) ?_;rintro _ _ ⟨rfl,hK3⟩;(have hKy:=hKx.trans hK3)))
 |refine Xr ?_
 |exact True.intro
 |((with_reducible refine Xg ?_);refine Xj ?_)
 |(apply hκ.out;clear hκ κ))
    first | exact ⟨_, rfl, HRET.out _ hKy HALL.out⟩ | exact HRET.out _ hKy HALL.out
   ·rw [show decide (tupA q.head ∈ x.2) = false from by simpa using hm] at hHa1
    have HM0 : Abs.Hid (tupA q.head ∉ x.2) := hm
    clear hm
    have hHd : ∀ (id : Nat) σ, ACalls Tryz.prog 125 [ag [ic (k : Int), sl id q.head.ts.length (ecells q.head.ts)]] σ fun r σ' => r = sc (.bool true) ∧ Keep σ σ' := fun id σ => by
     have := hSe id σ
     rw [hk, hs] at this
     exact this
    have hKp := fun (id : Nat) σ (h : MOb σ om ot M d b) => ekeep_spec om ot M d b q.head id k x hhd hk hx0 (by
     have := hRoom x (List.mem_of_getElem? hx0)
     omega) σ h
    rw [hk] at hKp
    have hHo := eholds_spec neg om ot M d b V.length V (Nat.le_refl _)
    clear hSe hHa hMn
    refine acalls 86 [] Tryz.func131 rfl (by decide) rfl rfl (Nat.le_of_ble_eq_true rfl) ?_
    repeat' (first
 |with_reducible first|apply Xa|apply Xb|(refine Xc ?_;intro κ hκ)|(apply hκ.out;clear hκ κ)|apply Xd|apply Xe|apply Xf
 |((with_reducible first|refine Xl ?_ ?_|refine Xm ?_ ?_|refine Xk ?_ ?_)<;> intro h hari<;> try exact Xp)
 |((with_reducible refine Xh ?_);first|(refine Xi (hOv _ (hM.keep (by exact Xs))) ?_;rintro _ _ ⟨rfl,rfl⟩)|(refine Xi (hSe1 _) ?_;rintro _ _ ⟨rfl,hK2⟩;(have kno2:=hK2.nobj;have kob2:=hK2.obj;have hKx:=((Keep.refl σ).new _).trans hK2;simp only [new_nobj] at kno2 kob2))|(refine Xi (hHa1 _ (hM.keep (by exact Xs))) ?_;rintro _ _ ⟨rfl,hK3⟩;(have kno3:=hK3.nobj;have kob3:=hK3.obj;have hKy:=hKx.trans hK3;clear hSe1))|(refine Xi (hRd _ (hM.keep (by exact Xs))) ?_;rintro _ _ ⟨⟨c',(⟨rfl,hl4,hfl,hno⟩|⟨q',rfl,⟨ih2,ip2,in2,pc2,nc2,rfl,hP2,hN2⟩,hA2,hNE2,hR2,hnt2⟩)⟩,hK4⟩))
 |refine Xr ?_
 |exact True.intro
 |((with_reducible refine Xg ?_);refine Xj ?_)
 |(apply hκ.out;clear hκ κ))
    ·have kno4 := hK4.nobj
     have o4 := hK4.obj σ.nobj (by omega)
     rw [kob3 _ (by omega), kob2 _ (by omega), new_same] at o4
     have hKz := hKy.trans hK4
     have HNO : Abs.Hid (∀ ν, ¬ Sol neg q ν) := hno
     clear hno
     repeat' (first
 |with_reducible first|apply Xa|apply Xb|(refine Xc ?_;intro κ hκ)|(apply hκ.out;clear hκ κ)|apply Xd|apply Xe|apply Xf
 |((with_reducible first|refine Xl ?_ ?_|refine Xm ?_ ?_|refine Xk ?_ ?_)<;> intro h hari<;> try exact Xp)
 |refine Xr ?_
 |exact True.intro
 |((with_reducible refine Xg ?_);refine Xj ?_)
 |(apply hκ.out;clear hκ κ))
     first | exact ⟨_, rfl, HRET.out _ (hKz.put (by omega) _) (fun t ⟨ν, h, _⟩ => absurd h (HNO.out ν))⟩ | exact HRET.out _ (hKz.put (by omega) _) (fun t ⟨ν, h, _⟩ => absurd h (HNO.out ν))
    ·have kno4 := hK4.nobj
     have o4 := hK4.obj σ.nobj (by omega)
     rw [kob3 _ (by omega), kob2 _ (by omega), new_same] at o4
     have hKz := hKy.trans hK4
     have he : q'.head = q.head := hR2.hd
     have hNg2 : NegOk neg M q' := hNg.sub fun a ha => ⟨a, (hnt2 a ha).1, rfl⟩
     have hwf0 : WFv ⟨⟨0, []⟩, q'.parts, q'.nots⟩ := fun v hv => hA2.wf v (.inr (hv.resolve_left (by simp [hasV])))
     have hHb := fun σ (h : MOb σ om ot M d b) => hHo ⟨⟨0, []⟩, q'.parts, q'.nots⟩ [ic 0, nilS, sl ip2 q'.parts.length pc2, sl in2 q'.nots.length nc2] ⟨1, ip2, in2, pc2, nc2, rfl, hP2, hN2⟩ (qall_sub hA2 (by simp) (List.Sublist.refl _) (List.Sublist.refl _) hwf0) (hNg2.sub fun a ha => ⟨a, ha, rfl⟩)
      (fun a ha v hv => by
       have : a ∈ atomsQ q' ∨ a = ⟨0, []⟩ := by
        unfold atomsQ at ha ⊢
        simp only [List.mem_cons, List.mem_append, List.mem_map] at ha ⊢
        rcases ha with h | h | h
        ·exact .inr h
        ·exact .inl (.inr (.inl h))
        ·exact .inl (.inr (.inr h))
       rcases this with h | rfl
       ·exact hV a (hR2.at_ a h) v hv
       ·cases hv) rfl (fun v hv => by
       obtain ⟨p, hp, hpv⟩ := inQ_part (q := ⟨⟨0, []⟩, q'.parts, q'.nots⟩) hwf0 hv
       exact hin v (inQ.sub hR2.at_ ⟨p.a, part_in hp, hpv⟩)) σ h
     have hSol : ∀ ν, Sol neg (⟨⟨0, []⟩, q'.parts, q'.nots⟩ : Qry) ν ↔ Sol neg q' ν := fun ν => Iff.rfl
     have HE : Abs.Hid (q'.head = q.head) := he
     simp only [he, hk]
     clear he hHo hRd hHa1 hOv
     repeat' (first
 |with_reducible first|apply Xa|apply Xb|(refine Xc ?_;intro κ hκ)|(apply hκ.out;clear hκ κ)|apply Xd|apply Xe|apply Xf
 |((with_reducible first|refine Xl ?_ ?_|refine Xm ?_ ?_|refine Xk ?_ ?_)<;> intro h hari<;> try exact Xp)
 |((with_reducible refine Xh ?_);first|(refine Xi (hHb _ (hM.keep (by exact Xs))) ?_;rintro _ _ ⟨⟨bb,rfl,hbb⟩,hK5⟩;(have HBB : Abs.Hid _:=hbb;clear hbb;have kno5:=hK5.nobj;have kob5:=hK5.obj;simp only [put_nobj] at kno5 kob5;have hKw:=(hKz.put (by omega) _).trans hK5))|(refine Xi (hHd _ _) ?_;rintro _ _ ⟨rfl,hK6⟩;(have kno6:=hK6.nobj;have kob6:=hK6.obj;have hKv:=hKw.trans hK6))|(refine Xi (hKp _ _ (hM.keep (by exact Xs))) ?_;rintro _ _ ⟨id',hM7,hKM7⟩;(generalize hM7e : M.set k (id',x.2 ++ [tupA q.head]) = M7 at hM7 hKM7;have HM7 : Abs.Hid _:=hM7e;clear hM7e;have ob7:=hM7.ob;have hKM8:=KM.trans (KM.ofKeep hKv) hKM7)))
 |refine Xr ?_
 |exact True.intro
 |((with_reducible refine Xg ?_);refine Xj ?_)
 |(apply hκ.out;clear hκ κ))
     ·exact ⟨_, rfl, HRET.out _ hKw (fun t ⟨ν, hν, _⟩ => absurd (HBB.out.2 ⟨ν, hR2.to ν hν⟩) (by rw [h]; simp))⟩
     ·have hbt : bb = true := by assumption
      obtain ⟨ν, hν⟩ := HBB.out.1 hbt
      obtain ⟨ν', hν', -⟩ := hR2.back ν hν
      have hHq : Hds neg q (tupA q.head) := ⟨ν', hν', (hsub ν').symm⟩
      have hG7 : Gro k (Hds neg q) M M7 d (d + 1) := by rw [← HM7.out]; exact gro_set hx0 HM0.out hHq
      have hT7 : tupA q.head ∈ tupsOf M7 k := by
       rw [← HM7.out, tupsOf_get (x := (id', x.2 ++ [tupA q.head])) (by simp [hkM])]
       simp
      exact ⟨_, rfl, M7, d + 1, hM7.setd, hKM8.setd _, hG7, by omega, fun _ t ⟨μ, _, e⟩ => by rw [e, hsub]; exact hT7⟩
  | false =>
   rw [hs] at hSe1
   have hHd : ∀ (id : Nat) σ, ACalls Tryz.prog 125 [ag [ic (k : Int), sl id q.head.ts.length (ecells q.head.ts)]] σ fun r σ' => r = sc (.bool false) ∧ Keep σ σ' := fun id σ => by
    have := hSe id σ
    rw [hk, hs] at this
    exact this
   have hHo := eholds_spec neg om ot M d b V.length V (Nat.le_refl _)
   obtain ⟨v0, vt, hvs⟩ : ∃ v0 vt, varsL [q.head] = v0 :: vt := by
    cases hv : varsL [q.head] with
    | nil =>
     exfalso
     have : setl q.head.ts = true := by
      unfold setl
      rw [List.all_eq_true]
      rintro ⟨t1, t2⟩ ht
      cases t1 with
      | false => rfl
      | true =>
       have : t2 ∈ varsL [q.head] := (varsL_mem _ _).2 ⟨q.head, by simp, ht⟩
       rw [hv] at this
       cases this
     rw [this] at hs
     cases hs
    | cons v0 vt => exact ⟨v0, vt, rfl⟩
   have hvars := fun (idh i : Nat) (σ : St) => evars_spec [q.head] [ic q.head.p, sl idh q.head.ts.length (ecells q.head.ts)] i (EL.single ⟨idh, rfl⟩) (by simp; exact hhd) (by simp) σ
   have hvl := varsL_len (l := [q.head]) (by simp; exact hhd)
   have hvm : ∀ v, hasV q.head.ts v = true → v ∈ v0 :: vt := fun v hv => by rw [← hvs]; exact (varsL_mem _ _).2 ⟨q.head, by simp, hasV_iff.1 hv⟩
   have hv0 : hasV q.head.ts v0 = true := by
    have : v0 ∈ varsL [q.head] := by rw [hvs]; simp
    obtain ⟨a, ha, h⟩ := (varsL_mem _ _).1 this
    simp at ha
    subst ha
    exact hasV_iff.2 h
   rw [hvs] at hvars hvl
   simp only [List.length_cons, List.length_nil, icells, List.map_cons, Nat.zero_add, hk] at hvars
   simp only [List.length_cons, List.length_nil, Nat.zero_add] at hvl
   have hvl2 : (v0 :: vt).length ≤ 200 := by simp; omega
   clear hSe hHa hMn hvs
   refine acalls 86 [] Tryz.func131 rfl (by decide) rfl rfl (Nat.le_of_ble_eq_true rfl) ?_
   repeat' (first
 |with_reducible first|apply Xa|apply Xb|(refine Xc ?_;intro κ hκ)|(apply hκ.out;clear hκ κ)|apply Xd|apply Xe|apply Xf
 |((with_reducible first|refine Xl ?_ ?_|refine Xm ?_ ?_|refine Xk ?_ ?_)<;> intro h hari<;> try exact Xp)
 |((with_reducible refine Xh ?_);first|(refine Xi (hOv _ (hM.keep (by exact Xs))) ?_;rintro _ _ ⟨rfl,rfl⟩)|(refine Xi (hSe1 _) ?_;rintro _ _ ⟨rfl,hK2⟩;(have kno2:=hK2.nobj;have kob2:=hK2.obj;have hKx:=((Keep.refl σ).new _).trans hK2;simp only [new_nobj] at kno2 kob2;clear hSe1))|(refine Xi (hRd _ (hM.keep (by exact Xs))) ?_;rintro _ _ ⟨⟨c',(⟨rfl,hl4,hfl,hno⟩|⟨q',rfl,⟨ih2,ip2,in2,pc2,nc2,rfl,hP2,hN2⟩,hA2,hNE2,hR2,hnt2⟩)⟩,hK4⟩))
 |refine Xr ?_
 |exact True.intro
 |((with_reducible refine Xg ?_);refine Xj ?_)
 |(apply hκ.out;clear hκ κ))
   ·have kno4 := hK4.nobj
    have o4 := hK4.obj σ.nobj (by omega)
    rw [kob2 _ (by omega), new_same] at o4
    have hKz := hKx.trans hK4
    have HNO : Abs.Hid (∀ ν, ¬ Sol neg q ν) := hno
    clear hno
    repeat' (first
 |with_reducible first|apply Xa|apply Xb|(refine Xc ?_;intro κ hκ)|(apply hκ.out;clear hκ κ)|apply Xd|apply Xe|apply Xf
 |((with_reducible first|refine Xl ?_ ?_|refine Xm ?_ ?_|refine Xk ?_ ?_)<;> intro h hari<;> try exact Xp)
 |refine Xr ?_
 |exact True.intro
 |((with_reducible refine Xg ?_);refine Xj ?_)
 |(apply hκ.out;clear hκ κ))
    first | exact ⟨_, rfl, HRET.out _ (hKz.put (by omega) _) (fun t ⟨ν, h, _⟩ => absurd h (HNO.out ν))⟩ | exact HRET.out _ (hKz.put (by omega) _) (fun t ⟨ν, h, _⟩ => absurd h (HNO.out ν))
   ·have kno4 := hK4.nobj
    have o4 := hK4.obj σ.nobj (by omega)
    rw [kob2 _ (by omega), new_same] at o4
    have hKz := hKx.trans hK4
    have he : q'.head = q.head := hR2.hd
    have hNg2 : NegOk neg M q' := hNg.sub fun a ha => ⟨a, (hnt2 a ha).1, rfl⟩
    have hwf0 : WFv ⟨⟨0, []⟩, q'.parts, q'.nots⟩ := fun v hv => hA2.wf v (.inr (hv.resolve_left (by simp [hasV])))
    have hHb := fun σ (h : MOb σ om ot M d b) => hHo ⟨⟨0, []⟩, q'.parts, q'.nots⟩ [ic 0, nilS, sl ip2 q'.parts.length pc2, sl in2 q'.nots.length nc2] ⟨1, ip2, in2, pc2, nc2, rfl, hP2, hN2⟩ (qall_sub hA2 (by simp) (List.Sublist.refl _) (List.Sublist.refl _) hwf0) (hNg2.sub fun a ha => ⟨a, ha, rfl⟩)
     (fun a ha v hv => by
      have : a ∈ atomsQ q' ∨ a = ⟨0, []⟩ := by
       unfold atomsQ at ha ⊢
       simp only [List.mem_cons, List.mem_append, List.mem_map] at ha ⊢
       rcases ha with h | h | h
       ·exact .inr h
       ·exact .inl (.inr (.inl h))
       ·exact .inl (.inr (.inr h))
      rcases this with h | rfl
      ·exact hV a (hR2.at_ a h) v hv
      ·cases hv) rfl (fun v hv => by
      obtain ⟨p, hp, hpv⟩ := inQ_part (q := ⟨⟨0, []⟩, q'.parts, q'.nots⟩) hwf0 hv
      exact hin v (inQ.sub hR2.at_ ⟨p.a, part_in hp, hpv⟩)) σ h
    have hEq' : EQ q' [ic (k : Int), sl ih2 q.head.ts.length (ecells q.head.ts), sl ip2 q'.parts.length pc2, sl in2 q'.nots.length nc2] := ⟨ih2, ip2, in2, pc2, nc2, by rw [he, hk], hP2, hN2⟩
    have hSp := fun (id : Nat) σ => esplit_spec q' _ (v0 :: vt) id hEq' hA2.ok hvl2 σ
    simp only [List.length_cons, icells, List.map_cons] at hSp
    have HE : Abs.Hid (q'.head = q.head) := he
    simp only [he, hk]
    clear he hHo hRd hOv hEq'
    have hvh := hvars ih2
    clear hvars
    repeat' (first
 |with_reducible first|apply Xa|apply Xb|(refine Xc ?_;intro κ hκ)|(apply hκ.out;clear hκ κ)|apply Xd|apply Xe|apply Xf
 |((with_reducible first|refine Xl ?_ ?_|refine Xm ?_ ?_|refine Xk ?_ ?_)<;> intro h hari<;> try exact Xp)
 |((with_reducible refine Xh ?_);first|(refine Xi (hHb _ (hM.keep (by exact Xs))) ?_;rintro _ _ ⟨⟨bb,rfl,hbb⟩,hK5⟩;(have HBB : Abs.Hid _:=hbb;clear hbb;have kno5:=hK5.nobj;have kob5:=hK5.obj;simp only [put_nobj] at kno5 kob5;have hKw:=(hKz.put (by omega) _).trans hK5))|(refine Xi (hHd _ _) ?_;rintro _ _ ⟨rfl,hK6⟩;(have kno6:=hK6.nobj;have kob6:=hK6.obj;have hKv:=hKw.trans hK6))|(refine Xi (hvh _ _) ?_;rintro _ _ ⟨⟨idv,rfl⟩,hK7⟩;(have kno7:=hK7.nobj;have kob7:=hK7.obj;simp only [lay_nobj,lay_obj] at kno7 kob7;have hKu:=(hKv.lay 1).trans hK7))|(refine Xi (hSp _ _) ?_;rintro _ _ ⟨⟨_,_,rs,rfl,⟨ih3,ip3,in3,pc3,nc3,rfl,hP3,hN3⟩,⟨ih4,ip4,in4,pc4,nc4,rfl,hP4,hN4⟩,hG,hC⟩,hK8⟩;(have kno8:=hK8.nobj;have HC : Abs.Hid _:=hC;have HG : Abs.Hid _:=hG;clear hC hG;have hKt:=hKu.trans hK8)))
 |refine Xr ?_
 |exact True.intro
 |((with_reducible refine Xg ?_);refine Xj ?_)
 |(apply hκ.out;clear hκ κ))
    ·exact ⟨_, rfl, HRET.out _ hKw (fun t ⟨ν, hν, _⟩ => absurd (HBB.out.2 ⟨ν, hR2.to ν hν⟩) (by rw [h]; simp))⟩
    ·rename_i σ8
     have hbt : bb = true := by assumption
     have hEn : EQ (nearQ q' rs) [ic (nearQ q' rs).head.p, sl ih3 (nearQ q' rs).head.ts.length (ecells (nearQ q' rs).head.ts), sl ip3 (nearQ q' rs).parts.length pc3, sl in3 (nearQ q' rs).nots.length nc3] := ⟨ih3, ip3, in3, pc3, nc3, rfl, hP3, hN3⟩
     have hrs : ∀ v ∈ v0 :: vt, v ∈ rs := fun v hv => by
      obtain ⟨ad, e, -, -⟩ := HG.out
      rw [e]
      exact List.mem_append.2 (.inl hv)
     have hAn : QAll (nearQ q' rs) := qall_sub hA2 hA2.ok.hd List.filter_sublist List.filter_sublist (wfv_near hA2.wf HC.out (fun v hv => hrs v (hvm v (by rw [← HE.out]; exact hv))))
     have hVn : QV (nearQ q' rs) := fun a ha w hw => by
      obtain ⟨a', ha', hw'⟩ := inQ_near (rs := rs) ⟨a, ha, hasV_iff.2 hw⟩
      exact hV a' (hR2.at_ a' ha') w (hasV_iff.1 hw')
     have hnk : (nearQ q' rs).head.p = (k : Int) := by show q'.head.p = _; rw [HE.out, hk]
     have hinn : ∀ w, inQ (nearQ q' rs) w → w ∈ V := fun w hw => hin w (inQ.sub hR2.at_ (inQ_near hw))
     have hv0V : v0 ∈ V := hin v0 ⟨q.head, by simp [atomsQ], hv0⟩
     have hVl : (V.erase v0).length < V.length := by
      rw [List.length_erase_of_mem hv0V]
      have := List.length_pos_of_mem hv0V
      omega
     have IHb := IH (V.erase v0) hVl
     obtain ⟨μ, hμ⟩ := HBB.out.1 hbt
     -- what the near part brings, the query brings
     have hSnd : ∀ n t, Hds neg (eputQ v0 n (nearQ q' rs)) t → Hds neg q t := fun n t ⟨ν, hν, e⟩ => by
      have h1 := (sol_put hAn.w).1 hν
      have h2 := sol_split HC.out h1 (sol_far (rs := rs) hμ)
      obtain ⟨ν', hν', hag⟩ := hR2.back _ h2
      refine ⟨ν', hν', ?_⟩
      rw [e]
      show esub (eputA v0 n (nearQ q' rs).head) ν = _
      rw [sub_put]
      show esub q'.head _ = _
      rw [HE.out]
      apply sub_congr
      intro v hv
      rw [hag v ⟨q'.head, by simp [atomsQ], by rw [HE.out]; exact hv⟩]
      rw [if_pos (hrs v (hvm v hv))]
     have hCmp : ∀ t, Hds neg q t → ∃ n ∈ valQ (nearQ q' rs) v0, Hds neg (eputQ v0 n (nearQ q' rs)) t := fun t ⟨ν, hν, e⟩ => by
      have h2 := sol_near (rs := rs) (hR2.to ν hν)
      obtain ⟨p, hp, hpv⟩ := hAn.wf v0 (.inl (by show hasV q'.head.ts v0 = true; rw [HE.out]; exact hv0))
      have hself : updN ν v0 (ν v0) = ν := by
       funext w
       unfold updN
       split
       ·rename_i e; rw [e]
       ·rfl
      refine ⟨ν v0, val_mem hAn.w h2 ⟨p, hp, hpv⟩, ν, (sol_put hAn.w).2 (by rw [hself]; exact h2), ?_⟩
      rw [e]
      show _ = esub (eputA v0 (ν v0) (nearQ q' rs).head) ν
      rw [sub_put, hself]
      show _ = esub q'.head ν
      rw [HE.out]
     have HSND : Abs.Hid _ := hSnd
     have HCMP : Abs.Hid _ := hCmp
     have hVq := fun σ => evalues_spec (nearQ q' rs) _ v0 hEn hAn.ok hAn.n σ
     have hql := valQ_len hAn.n v0
     have hPq := fun n σ => eputQ_spec (nearQ q' rs) _ v0 n hEn hAn.ok σ
     generalize hnse : valQ (nearQ q' rs) v0 = ns at hVq hql
     have HNS : Abs.Hid _ := hnse
     have hni := icells_len ns
     have hNeN : ∀ {n : Int}, ∀ a ∈ (eputQ v0 n (nearQ q' rs)).nots, a.p ≠ (k : Int) := fun {n} a ha => by
      obtain ⟨a0, h0, rfl⟩ := List.mem_map.1 ha
      exact hNe a0 (hnt2 a0 (List.mem_filter.1 h0).1).1
     have hIH : Abs.Hid (∀ (n : Int) (c5 : List AV) (Mj : MM) (dj : Int), EQ (eputQ v0 n (nearQ q' rs)) c5 → Gro k (Hds neg q) M Mj d dj → dj ≤ 1000000 → ∀ σ, MOb σ om ot Mj dj b → ACalls Tryz.prog 131 [ptr om 0, ag c5] σ fun r σ' => ∃ M' d', MOb σ' om ot M' d' b ∧ KM om ot Mj M' σ σ' ∧ Gro k (Hds neg (eputQ v0 n (nearQ q' rs))) Mj M' dj d' ∧ d' ≤ 1000000 ∧ (¬ b < d' → ∀ t, Hds neg (eputQ v0 n (nearQ q' rs)) t → t ∈ tupsOf M' k)) := fun n c5 Mj dj hE5 hGj hdj σ hMj =>
      IHb (eputQ v0 n (nearQ q' rs)) c5 k Mj dj hE5 (qall_put hAn) (((hNg2.near rs).put v0 n).gro hNeN hGj) hNeN (fun a ha w hw => by
       obtain ⟨⟨b', hb', hbw⟩, -⟩ := inQ_put (q := nearQ q' rs) (v := v0) (n := n) (w := w) ⟨a, ha, hasV_iff.2 hw⟩
       exact hVn b' hb' w (hasV_iff.1 hbw)) hnk (by rw [hGj.len]; exact hkM) (hGj.room hRoom) (by have := hGj.le; omega) hdj hb1 hb2 (fun w hw => by
       obtain ⟨h1, h2⟩ := inQ_put hw
       exact (List.mem_erase_of_ne h2).2 (hinn w h1)) σ hMj
     clear hnse hSnd hCmp IHb IH hVl hv0V hinn hHb hHd hvh hSp hAn hVn hEn hnk
     have hKr : Keep σ ((((σ8.new [ic 0, nilS, nilS, nilS]).new [ic 0, nilS, nilS, nilS]).put σ8.nobj [ic (nearQ q' rs).head.p, sl ih3 (nearQ q' rs).head.ts.length (ecells (nearQ q' rs).head.ts), sl ip3 (nearQ q' rs).parts.length pc3, sl in3 (nearQ q' rs).nots.length nc3]).put (σ8.nobj + 1) [ic (farQ q' rs).head.p, sl ih4 (farQ q' rs).head.ts.length (ecells (farQ q' rs).head.ts), sl ip4 (farQ q' rs).parts.length pc4, sl in4 (farQ q' rs).nots.length nc4]) := (((hKt.new _).new _).put (by omega) _).put (by omega) _
     generalize hσ9 : ((((σ8.new [ic 0, nilS, nilS, nilS]).new [ic 0, nilS, nilS, nilS]).put σ8.nobj [ic (nearQ q' rs).head.p, sl ih3 (nearQ q' rs).head.ts.length (ecells (nearQ q' rs).head.ts), sl ip3 (nearQ q' rs).parts.length pc3, sl in3 (nearQ q' rs).nots.length nc3]).put (σ8.nobj + 1) [ic (farQ q' rs).head.p, sl ih4 (farQ q' rs).head.ts.length (ecells (farQ q' rs).head.ts), sl ip4 (farQ q' rs).parts.length pc4, sl in4 (farQ q' rs).nots.length nc4]) = σ9 at *
     have n9 : σ9.nobj = σ8.nobj + 2 := by rw [← hσ9]; rfl
     have o9 : σ9.obj σ8.nobj = [ic (nearQ q' rs).head.p, sl ih3 (nearQ q' rs).head.ts.length (ecells (nearQ q' rs).head.ts), sl ip3 (nearQ q' rs).parts.length pc3, sl in3 (nearQ q' rs).nots.length nc3] := by rw [← hσ9, put_ne (by omega), put_same]
     clear hσ9
     refine awp_mono (Q := fun e s' σ'' => e = .normal ∧ s' 0 = ptr om 0 ∧ s' 5 = sl idv (vt.length + 1) (ic v0 :: List.map ic vt) ∧ s' 6 = ptr σ8.nobj 0 ∧ (∃ idn, s' 70 = sl idn ns.length (icells ns)) ∧ s' 71 = ic ns.length ∧ s' 72 = ic 0 ∧ Keep σ9 σ'') ?_ ?_
     ·refine awp_draw_h follows_mixed (fun _ => True) [] [0, 1, 2, 3, 6] 2 #[true, true, true, true, false, false, true] (by kernel_rfl) (fun _ _ _ h => by cases h.1) ?_; intro κ hκ; refine Xr ?_; refine hκ.out _ ?_; clear hκ κ
      refine uany_one (i := 4) (by kernel_rfl) ?_; refine aOne_k ?_; intro κ hκ; refine Xr ?_
      refine ACalls.mono (hVq _) ?_
      rintro _ σa ⟨⟨idn, rfl⟩, hKa⟩
      refine Xr ?_
      refine hκ.out _ _ ⟨kept_keep hKa, ?_⟩; clear hκ κ
      refine uany_rest [5] (by kernel_rfl) (by kernel_rfl) (fun _ _ _ h => by cases h.1) hKa.nobj (fun o ho _ => hKa.ver o ho) ?_
      intro κ hκ
      refine Xr ?_
      refine hκ.out _ _ ⟨rfl, ?_⟩
      refine ⟨by simp [upd, initS], by simp [upd], by simp [upd], ⟨idn, by simp [upd]⟩, by simp [upd, *], by simp [upd], hKa⟩
     ·rintro e s σ9' ⟨rfl, g0, g5, g6, ⟨idn, g70⟩, g71, g72, hKa⟩
      have kna := hKa.nobj
      have hKs := hKr.trans hKa
      have oa : σ9'.obj σ8.nobj = [ic (nearQ q' rs).head.p, sl ih3 (nearQ q' rs).head.ts.length (ecells (nearQ q' rs).head.ts), sl ip3 (nearQ q' rs).parts.length pc3, sl in3 (nearQ q' rs).nots.length nc3] := by rw [hKa.obj _ (by omega), o9]
      have hMa : MOb σ9' om ot M d b := hM.keep hKs
      have h8m : om ≠ σ8.nobj := by have := hM.lo; omega
      have h8t : ot ≠ σ8.nobj := by have := hM.lt; omega
      repeat' (first
 |with_reducible first|apply Xa|apply Xb|(refine Xc ?_;intro κ hκ)|(apply hκ.out;clear hκ κ)|apply Xd|apply Xe|apply Xf
 |((with_reducible first|refine Xl ?_ ?_|refine Xm ?_ ?_|refine Xk ?_ ?_)<;> intro h hari<;> try exact Xp)
 |refine Xr ?_
 |exact True.intro
 |((with_reducible refine Xg ?_);refine Xj ?_)
 |(apply hκ.out;clear hκ κ))
      refine awp_loop (fun m s σ' => ∃ (j : Nat) (Mj : MM) (dj : Int), m = ns.length - j ∧ j ≤ ns.length ∧ s 0 = ptr om 0 ∧ s 5 = sl idv (vt.length + 1) (ic v0 :: List.map ic vt) ∧ s 6 = ptr σ8.nobj 0 ∧ s 70 = sl idn ns.length (icells ns) ∧ s 71 = ic ns.length ∧ s 72 = ic j ∧ MOb σ' om ot Mj dj b ∧ KM om ot M Mj σ σ' ∧ σ8.nobj < σ'.nobj ∧ σ'.obj σ8.nobj = [ic (nearQ q' rs).head.p, sl ih3 (nearQ q' rs).head.ts.length (ecells (nearQ q' rs).head.ts), sl ip3 (nearQ q' rs).parts.length pc3, sl in3 (nearQ q' rs).nots.length nc3] ∧ dj ≤ 1000000 ∧ Abs.Hid (Gro k (Hds neg q) M Mj d dj ∧ (¬ b < dj → ∀ n ∈ ns.take j, ∀ t, Hds neg (eputQ v0 n (nearQ q' rs)) t → t ∈ tupsOf Mj k))) ns.length
       ⟨0, M, d, by omega, by omega, g0, g5, g6, g70, g71, g72, hMa, KM.ofKeep hKs, by omega, oa, hd2, Gro.refl _ _ _ _, fun _ n hn => by simp at hn⟩ ?_
      clear g0 g5 g6 g70 g71 g72 hMa hKs oa kna hKa o9 hKr
      rintro m s σ' ⟨j, Mj, dj, rfl, hj, g0, g5, g6, g70, g71, g72, hMj, hKMj, hno', ob', hdj, hGj⟩
      by_cases hlt : j < ns.length
      ·have hget := List.getElem?_eq_getElem hlt
       obtain ⟨r, hdd⟩ := icells_get hget
       generalize ns[j] = n at hdd hget
       have HTK : Abs.Hid (ns.take (j + 1) = ns.take j ++ [n]) := by rw [Abs.Hid, List.take_add_one, hget, Option.toList_some]
       clear hget
       have hPn := hPq n
       have hDn : Abs.Hid (∀ c5, EQ (eputQ v0 n (nearQ q' rs)) c5 → ∀ σ, MOb σ om ot Mj dj b → ACalls Tryz.prog 131 [ptr om 0, ag c5] σ fun r σ' => ∃ M' d', MOb σ' om ot M' d' b ∧ KM om ot Mj M' σ σ' ∧ Gro k (Hds neg (eputQ v0 n (nearQ q' rs))) Mj M' dj d' ∧ d' ≤ 1000000 ∧ (¬ b < d' → ∀ t, Hds neg (eputQ v0 n (nearQ q' rs)) t → t ∈ tupsOf M' k)) := fun c5 hE5 => hIH.out n c5 Mj dj hE5 hGj.out.1 hdj
       repeat' (first
 |with_reducible first|apply Xa|apply Xb|(refine Xc ?_;intro κ hκ)|(apply hκ.out;clear hκ κ)|apply Xd|apply Xe|apply Xf
 |((with_reducible first|refine Xl ?_ ?_|refine Xm ?_ ?_|refine Xk ?_ ?_)<;> intro h hari<;> try exact Xp)
 |refine Xr ?_
 |exact True.intro
 |((with_reducible refine Xg ?_);refine Xj ?_)
 |(apply hκ.out;clear hκ κ))
       refine awp_mono (Q := fun e s' σ'' => e = .normal ∧ s' 0 = ptr om 0 ∧ s' 5 = sl idv (vt.length + 1) (ic v0 :: List.map ic vt) ∧ s' 6 = ptr σ8.nobj 0 ∧ s' 70 = sl idn ns.length (icells ns) ∧ s' 71 = ic ns.length ∧ s' 72 = ic j ∧ ∃ o c5, s' 10 = ptr o 0 ∧ o < σ''.nobj ∧ σ''.obj o = c5 ∧ EQ (eputQ v0 n (nearQ q' rs)) c5 ∧ Keep σ' σ'') ?_ ?_
       ·refine awp_draw_h follows_mixed (fun _ => True) [7] [0, 1, 2, 3, 4] 3 #[true, true, true, true, true, false, false, false] (by kernel_rfl) (fun _ _ _ h => by cases h.1) ?_; intro κ hκ; refine Xr ?_; refine hκ.out _ ?_; clear hκ κ
        refine uany_all (rs := [5, 6]) (by kernel_rfl) (by simp) ?_
        intro i hi
        simp only [List.mem_cons, List.not_mem_nil, or_false] at hi
        rcases hi with rfl | rfl
        ·refine aOne_k ?_
         intro κ hκ
         refine Xr ?_
         refine ACalls.mono (hPn _) ?_
         rintro _ σb ⟨⟨_, rfl, ih5, ip5, in5, pc5, nc5, rfl, hP5, hN5⟩, hKb⟩
         have knb := hKb.nobj
         refine Xr ?_
         refine hκ.out _ _ ⟨kept_keep hKb, ?_⟩; clear hκ κ
         refine uany_one (i := 6) (by kernel_rfl) ?_; refine aOne_k ?_; intro κ hκ; refine Xr ?_
         refine hκ.out _ _ ⟨kept_keep (hKb.new _), ?_⟩; clear hκ κ
         refine uany_one (i := 7) (by kernel_rfl) ?_; refine aOne_k ?_; intro κ hκ; refine Xr ?_
         refine hκ.out _ _ ⟨kept_last rfl, ?_⟩; clear hκ κ
         refine uany_done (by kernel_rfl) ⟨rfl, by simp [upd, *], by simp [upd, *], by simp [upd, *], by simp [upd, *], by simp [upd, *], by simp [upd, *], σb.nobj, _, by simp [upd], by simp only [put_nobj, new_nobj]; omega, put_same, ⟨ih5, ip5, in5, pc5, nc5, rfl, hP5, hN5⟩, (hKb.new _).put knb _⟩
        ·refine aOne_k ?_
         intro κ hκ
         refine Xr ?_
         refine hκ.out _ _ ⟨kept_keep ((Keep.refl _).new _), ?_⟩; clear hκ κ
         refine uany_one (i := 5) (by kernel_rfl) ?_; refine aOne_k ?_; intro κ hκ; refine Xr ?_
         refine ACalls.mono (hPn _) ?_
         rintro _ σb ⟨⟨_, rfl, ih5, ip5, in5, pc5, nc5, rfl, hP5, hN5⟩, hKb⟩
         have knb := hKb.nobj
         simp only [new_nobj] at knb
         have obb := hKb.obj σ'.nobj (by simp only [new_nobj]; omega)
         rw [new_same] at obb
         refine Xr ?_
         refine hκ.out _ _ ⟨kept_keep (((Keep.refl _).new _).trans hKb), ?_⟩; clear hκ κ
         refine uany_one (i := 7) (by kernel_rfl) ?_; refine aOne_k ?_; intro κ hκ; refine Xr ?_
         refine hκ.out _ _ ⟨kept_last rfl, ?_⟩; clear hκ κ
         refine uany_done (by kernel_rfl) ⟨rfl, by simp [upd, *], by simp [upd, *], by simp [upd, *], by simp [upd, *], by simp [upd, *], by simp [upd, *], σ'.nobj, _, by simp [upd], by simp only [put_nobj]; omega, put_same, ⟨ih5, ip5, in5, pc5, nc5, rfl, hP5, hN5⟩, (((Keep.refl _).new _).trans hKb).put (Nat.le_refl _) _⟩
       ·rintro e s2 σc ⟨rfl, f0, f5, f6, f70, f71, f72, oo, c5, f10, hoo, oc5, hE5, hKc⟩
        have knc := hKc.nobj
        have hDc := fun σ => hDn.out c5 hE5 σ
        obtain ⟨ih5, ip5, in5, pc5, nc5, rfl, -, -⟩ := hE5
        have hoc : σc.obj σ8.nobj = [ic (nearQ q' rs).head.p, sl ih3 (nearQ q' rs).head.ts.length (ecells (nearQ q' rs).head.ts), sl ip3 (nearQ q' rs).parts.length pc3, sl in3 (nearQ q' rs).nots.length nc3] := by rw [hKc.obj _ hno', ob']
        clear hDn
        repeat' (first
 |with_reducible first|apply Xa|apply Xb|(refine Xc ?_;intro κ hκ)|(apply hκ.out;clear hκ κ)|apply Xd|apply Xe|apply Xf
 |((with_reducible first|refine Xl ?_ ?_|refine Xm ?_ ?_|refine Xk ?_ ?_)<;> intro h hari<;> try exact Xp)
 |((with_reducible refine Xh ?_);refine Xi (hDc _ (hMj.keep hKc)) ?_;rintro _ _ ⟨M2,d2,hM2,hKM2,hG2,hd22,hall2⟩;(have HG2 : Abs.Hid _:=hG2;have HA2 : Abs.Hid _:=hall2;clear hG2 hall2;have hKM3:=(hKMj.trans (KM.ofKeep hKc)).trans hKM2;have ob2:=hKM2.obj σ8.nobj (by omega) h8m.symm h8t.symm;have kn2:=hKM2.nobj))
 |refine Xr ?_
 |exact True.intro
 |((with_reducible refine Xg ?_);refine Xj ?_)
 |(apply hκ.out;clear hκ κ))
        have HN : Abs.Hid (Gro k (Hds neg q) M M2 d d2 ∧ (¬ b < d2 → ∀ n ∈ ns.take (j + 1), ∀ t, Hds neg (eputQ v0 n (nearQ q' rs)) t → t ∈ tupsOf M2 k)) := by
         refine ⟨hGj.out.1.trans (HG2.out.mono (HSND.out n)), fun hnb u hu t ht => ?_⟩
         rw [HTK.out] at hu
         rcases List.mem_append.1 hu with hu | hu
         ·have hle := HG2.out.le
          exact HG2.out.sub (hGj.out.2 (by omega) u hu t ht)
         ·simp at hu
          subst hu
          exact HA2.out hnb t ht
        refine ⟨ns.length - (j + 1), by omega, j + 1, M2, d2, ?_⟩
        ((repeat' with_reducible refine And.intro ?_ ?_)<;> first|exact Xq|exact (hM2)|exact (hKM3)|exact (HN)|exact (by rw [ob2, hoc])|exact Xs)
      ·have hjl : j = ns.length := by omega
       subst hjl
       repeat' (first
 |with_reducible first|apply Xa|apply Xb|(refine Xc ?_;intro κ hκ)|(apply hκ.out;clear hκ κ)|apply Xd|apply Xe|apply Xf
 |((with_reducible first|refine Xl ?_ ?_|refine Xm ?_ ?_|refine Xk ?_ ?_)<;> intro h hari<;> try exact Xp)
 |refine Xr ?_
 |exact True.intro
 |((with_reducible refine Xg ?_);refine Xj ?_)
 |(apply hκ.out;clear hκ κ))
       refine ⟨_, rfl, Mj, dj, hMj, hKMj, hGj.out.1, hdj, fun hnb t ht => ?_⟩
       obtain ⟨n, hn, h1⟩ := HCMP.out t ht
       rw [HNS.out] at hn
       exact hGj.out.2 hnb n (by rw [List.take_length]; exact hn) t h1
theorem ederive_spec (neg : Int → Tup → Prop) (om ot : Nat) (b : Int) : ∀ (n : Nat) (V : List Int), V.length ≤ n → DerAt neg om ot b V := by
 intro n
 induction n with
 | zero => exact fun V hV => ederive_step neg om ot b V (fun V' h => by omega)
 | succ n IH => exact fun V hV => ederive_step neg om ot b V (fun V' h => IH V' (by omega))
end Go.Proofs.YtmoeoppbmhfbpaaGreatDoorB
