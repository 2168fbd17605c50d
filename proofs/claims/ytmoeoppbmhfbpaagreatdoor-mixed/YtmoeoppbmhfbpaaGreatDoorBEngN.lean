import Derived.Test.YtmoeoppbmhfbpaaGreatDoorBEngL
/- The program's engine: what hangs together. -/
namespace Go.Proofs.YtmoeoppbmhfbpaaGreatDoorB
open Go.Abs
set_option linter.unusedSimpArgs false
set_option linter.unusedVariables false
set_option maxRecDepth 100000
def ClosedR (l : List Atm) (small big : List Int) : Prop := ∀ a ∈ l, small.any (hasV a.ts) = true → ∀ v, (true, v) ∈ a.ts → v ∈ big
def Grown (init V rs : List Int) : Prop := ∃ ad : List Int, rs = init ++ ad ∧ ad.Nodup ∧ ∀ v ∈ ad, v ∈ V
theorem Grown.le {init V rs : List Int} (h : Grown init V rs) : rs.length ≤ init.length + V.length := by
 obtain ⟨ad, rfl, h1, h2⟩ := h
 have := nodup_le h1 h2
 simp; omega
theorem Grown.snoc {init V rs : List Int} (h : Grown init V rs) {v : Int} (hv : v ∈ V) (hn : v ∉ rs) : Grown init V (rs ++ [v]) := by
 obtain ⟨ad, rfl, h1, h2⟩ := h
 refine ⟨ad ++ [v], by simp, ?_, ?_⟩
 ·rw [List.nodup_append]
  exact ⟨h1, by simp, fun a ha b hb => by simp at hb; subst hb; rintro rfl; exact hn (List.mem_append.2 (.inr ha))⟩
 ·intro u hu
  rcases List.mem_append.1 hu with h | h
  ·exact h2 u h
  ·simp at h; subst h; exact hv
set_option maxHeartbeats 32000000 in
theorem ereached_spec (q : Qry) (c : List AV) (init : List Int) (idi : Nat) (hc : EQ q c) (hq : QOk q) (hil : init.length ≤ 200) (σ : St) : ACalls Tryz.prog 217 [ag c, sl idi init.length (icells init)] σ fun r σ' => (∃ id rs, r = sl id rs.length (icells rs) ∧ Grown init (varsL (atomsQ q)) rs ∧ ClosedR (atomsQ q) rs rs) ∧ Keep σ σ' := by
 have hAt := fun σ => eatoms_spec q c hc hq σ
 have hA3 := atomsQ_3 hq
 have hAl := atomsQ_len hq
 have hVn := varsL_len hA3
 have hVm : ∀ a ∈ atomsQ q, ∀ v, (true, v) ∈ a.ts → v ∈ varsL (atomsQ q) := fun a ha v hv => (varsL_mem _ _).2 ⟨a, ha, hv⟩
 obtain ⟨ih, ip, inn, pc, nc, rfl, -, -⟩ := hc
 generalize varsL (atomsQ q) = V at *
 generalize atomsQ q = l at *
 have hii := icells_len init
 refine acalls 66 [.tmp 4] Tryz.func217 rfl (by decide) rfl rfl (Nat.le_of_ble_eq_true rfl) ?_
 repeat' (first
 |with_reducible first|apply Xa|apply Xb|(refine Xc ?_;intro κ hκ)|(apply hκ.out;clear hκ κ)|apply Xd|apply Xe|apply Xf
 |((with_reducible first|refine Xl ?_ ?_|refine Xk ?_ ?_)<;> intro h hari<;> try exact Xp)
 |((with_reducible refine aapp_go ?_);refine Xt ?_;intro idn σn hOn hKn eobj enobj ever entop)
 |((with_reducible refine aappn_go ?_);refine Xu ?_)
 |refine Xr ?_
 |exact True.intro
 |(apply hκ.out;clear hκ κ))
 refine awp_loop (fun m s σ' => ∃ (j i3 : Nat) (rs : List Int), m = init.length - j ∧ j ≤ init.length ∧ s 2 = ptr σ.nobj 0 ∧ s 5 = sl i3 rs.length (icells rs) ∧ s 14 = sl idi init.length (icells init) ∧ s 15 = ic init.length ∧ s 16 = ic j ∧ Keep σ σ' ∧ σ.nobj < σ'.nobj ∧ σ'.obj σ.nobj = [ic q.head.p, sl ih q.head.ts.length (ecells q.head.ts), sl ip q.parts.length pc, sl inn q.nots.length nc] ∧ Own σ σ' i3 rs.length ∧ rs.length ≤ j ∧ Abs.Hid (rs = init.take j)) init.length
  ⟨0, 1, [], by omega, by omega, by simp [upd], by simp [upd, icells], by simp [upd, initS], by simp [upd], rfl, by exact Xs, by simp only [new_nobj]; omega, by rw [new_same], Own.nil _ _, by simp, by simp [Abs.Hid]⟩ ?_
 rintro m s σ' ⟨j, i3, rs, rfl, hj, h2, h5, h14, h15, h16, hK, hno, ob0, hO, hrl, hR⟩
 have kno := hK.nobj
 by_cases hlt : j < init.length
 ·have hget := List.getElem?_eq_getElem hlt
  obtain ⟨r, hd⟩ := icells_get hget
  generalize init[j] = v at hd hget
  have HR : Abs.Hid (rs ++ [v] = init.take (j + 1)) := by rw [Abs.Hid, List.take_add_one, hget, Option.toList_some, hR.out]
  have hri := icells_len rs
  clear hget hR
  repeat' (first
 |with_reducible first|apply Xa|apply Xb|(refine Xc ?_;intro κ hκ)|(apply hκ.out;clear hκ κ)|apply Xd|apply Xe|apply Xf
 |((with_reducible first|refine Xl ?_ ?_|refine Xk ?_ ?_)<;> intro h hari<;> try exact Xp)
 |((with_reducible refine aapp_go ?_);refine Xt ?_;intro idn σn hOn hKn eobj enobj ever entop)
 |((with_reducible refine aappn_go ?_);refine Xu ?_)
 |refine Xr ?_
 |exact True.intro
 |(apply hκ.out;clear hκ κ))
  refine ⟨init.length - (j + 1), by omega, j + 1, idn, rs ++ [v], ?_⟩
  ((repeat' with_reducible refine And.intro ?_ ?_)<;> first|exact Xq|exact (by simpa using hOn)|exact (HR)|exact (by simp [icells])|exact Xs)
 ·have hjl : j = init.length := by omega
  subst hjl
  rw [List.take_length] at hR
  have hR := hR.out.symm
  subst hR
  clear hlt hj
  repeat' (first
 |with_reducible first|apply Xa|apply Xb|(refine Xc ?_;intro κ hκ)|(apply hκ.out;clear hκ κ)|apply Xd|apply Xe|apply Xf
 |((with_reducible first|refine Xl ?_ ?_|refine Xk ?_ ?_)<;> intro h hari<;> try exact Xp)
 |((with_reducible refine aapp_go ?_);refine Xt ?_;intro idn σn hOn hKn eobj enobj ever entop)
 |((with_reducible refine aappn_go ?_);refine Xu ?_)
 |refine Xr ?_
 |exact True.intro
 |(apply hκ.out;clear hκ κ))
  refine awp_loop (fun m s σ' => ∃ (B i3 : Nat) (Bi : Int) (rs : List Int), m = 2 * (init.length + V.length - rs.length) + (if Bi < (rs.length : Int) then 1 else 0) ∧ (Bi = B ∨ (Bi = -1 ∧ B = 0)) ∧ s 2 = ptr σ.nobj 0 ∧ s 5 = sl i3 rs.length (icells rs) ∧ s 8 = ic Bi ∧ Keep σ σ' ∧ σ.nobj < σ'.nobj ∧ σ'.obj σ.nobj = [ic q.head.p, sl ih q.head.ts.length (ecells q.head.ts), sl ip q.parts.length pc, sl inn q.nots.length nc] ∧ Own σ σ' i3 rs.length ∧ rs.length ≤ init.length + V.length ∧ B ≤ rs.length ∧ Abs.Hid (Grown init V rs ∧ ClosedR l (rs.take B) rs)) (2 * (init.length + V.length - init.length) + 1)
   ⟨0, i3, -1, init, by rw [if_pos (by omega)], .inr ⟨rfl, rfl⟩, by simp [upd, *], by simp [upd, *], by simp [upd], hK, hno, ob0, hO, by omega, by omega, ⟨[], by simp, List.nodup_nil, by simp⟩, fun a ha h => by simp at h⟩ ?_
  clear hK hno ob0 hO h2 h5 h14 h15 h16 kno
  rintro m s σ' ⟨B, i3, Bi, rs, rfl, hBi, h2, h5, h8, hK, hno, ob0, hO, hrl, hBl, hG⟩
  have kno := hK.nobj
  have hri := icells_len rs
  by_cases hlt : Bi < (rs.length : Int)
  ·rw [if_pos hlt]
   repeat' (first
 |with_reducible first|apply Xa|apply Xb|(refine Xc ?_;intro κ hκ)|(apply hκ.out;clear hκ κ)|apply Xd|apply Xe|apply Xf
 |((with_reducible first|refine Xl ?_ ?_|refine Xk ?_ ?_)<;> intro h hari<;> try exact Xp)
 |((with_reducible refine aapp_go ?_);refine Xt ?_;intro idn σn hOn hKn eobj enobj ever entop)
 |((with_reducible refine aappn_go ?_);refine Xu ?_)
 |((with_reducible refine Xh ?_);refine Xi (hAt _) ?_;rintro _ _ ⟨ida,cs,rfl,hE,hK3⟩;(have kno3:=hK3.nobj;have kob3:=hK3.obj;have hKx:=hK.trans hK3;have hOx:=Own.keep hO hK3))
 |refine Xr ?_
 |exact True.intro
 |(apply hκ.out;clear hκ κ))
   rename_i σa
   have hcl := EL.length EAt_len hE
   refine awp_loop (fun m s σ2 => ∃ (k i4 : Nat) (ws : List Int), m = l.length - k ∧ k ≤ l.length ∧ s 2 = ptr σ.nobj 0 ∧ s 5 = sl i4 ws.length (icells ws) ∧ s 8 = ic rs.length ∧ s 32 = sl ida l.length cs ∧ s 33 = ic l.length ∧ s 34 = ic k ∧ Keep σ σ2 ∧ σ.nobj < σ2.nobj ∧ σ2.obj σ.nobj = [ic q.head.p, sl ih q.head.ts.length (ecells q.head.ts), sl ip q.parts.length pc, sl inn q.nots.length nc] ∧ Own σ σ2 i4 ws.length ∧ ws.length ≤ init.length + V.length ∧ rs.length ≤ ws.length ∧ Abs.Hid (Grown init V ws ∧ ws.take rs.length = rs ∧ ClosedR (l.take k) rs ws)) l.length
    ⟨0, i3, rs, by omega, by omega, by simp [upd, *], by simp [upd, *], by simp [upd, *], by simp [upd], by simp [upd], rfl, hKx, by omega, by rw [kob3 _ (by omega), ob0], hOx, hrl, by omega, hG.out.1, by simp, fun a ha => by simp at ha⟩ ?_
   clear hKx hOx kob3 hK hO ob0 hno h2 h5 h8 kno hK3 kno3
   rintro m s σ2 ⟨k, i4, ws, rfl, hk, h2, h5, h8, h32, h33, h34, hK, hno, ob0, hO, hwl, hrw, hW⟩
   have kno := hK.nobj
   have hwi := icells_len ws
   by_cases hlt2 : k < l.length
   ·have hget := List.getElem?_eq_getElem hlt2
    obtain ⟨ida2, r2, hd2⟩ := EAt_get hE hget
    have hb := hA3 _ (List.getElem_mem hlt2)
    have hbv := hVm _ (List.getElem_mem hlt2)
    generalize l[k] = a at hd2 hget hb hbv
    have HT : Abs.Hid (l.take (k + 1) = l.take k ++ [a]) := by rw [Abs.Hid, List.take_add_one, hget, Option.toList_some]
    clear hget
    have hw5 : ws.length ≤ 100000 := by omega
    have ha1 : a.ts.length ≤ 1000 := by omega
    have hHA := fun σ => ehasAny_spec a.p ida2 a.ts ws i4 ha1 hw5 σ
    have hsub : ∀ v ∈ rs, v ∈ ws := fun v hv => by
     have := hW.out.2.1
     rw [← this] at hv
     exact List.mem_of_mem_take hv
    cases hany : ws.any (hasV a.ts) with
    | false =>
     have HW : Abs.Hid (Grown init V ws ∧ ws.take rs.length = rs ∧ ClosedR (l.take (k + 1)) rs ws) := by
      refine ⟨hW.out.1, hW.out.2.1, ?_⟩
      rw [HT.out]
      intro b hb h v hv
      rcases List.mem_append.1 hb with hb | hb
      ·exact hW.out.2.2 b hb h v hv
      ·simp at hb; subst hb
       rw [List.any_eq_true] at h
       obtain ⟨u, hu, he⟩ := h
       rw [List.any_eq_false] at hany
       exact absurd he (hany u (hsub u hu))
     rw [hany] at hHA
     clear hW HT hsub
     repeat' (first
 |with_reducible first|apply Xa|apply Xb|(refine Xc ?_;intro κ hκ)|(apply hκ.out;clear hκ κ)|apply Xd|apply Xe|apply Xf
 |((with_reducible first|refine Xl ?_ ?_|refine Xk ?_ ?_)<;> intro h hari<;> try exact Xp)
 |((with_reducible refine aapp_go ?_);refine Xt ?_;intro idn σn hOn hKn eobj enobj ever entop)
 |((with_reducible refine aappn_go ?_);refine Xu ?_)
 |((with_reducible refine Xh ?_);refine Xi (hHA _) ?_;rintro _ _ ⟨rfl,hK5⟩;(have kno5:=hK5.nobj;have kob5:=hK5.obj;have hKx:=((hK.new _).put hK.nobj _).trans hK5;have hOx:=Own.keep (Own.put (Own.new hO _) _ _) hK5;simp only [put_nobj,new_nobj] at kno5 kob5))
 |refine Xr ?_
 |exact True.intro
 |(apply hκ.out;clear hκ κ))
     refine ⟨l.length - (k + 1), by omega, k + 1, i4, ws, ?_⟩
     ((repeat' with_reducible refine And.intro ?_ ?_)<;> first|exact Xq|exact (HW)|exact Xs)
    | true =>
     rw [hany] at hHA
     have htl := ecells_len a.ts
     repeat' (first
 |with_reducible first|apply Xa|apply Xb|(refine Xc ?_;intro κ hκ)|(apply hκ.out;clear hκ κ)|apply Xd|apply Xe|apply Xf
 |((with_reducible first|refine Xl ?_ ?_|refine Xk ?_ ?_)<;> intro h hari<;> try exact Xp)
 |((with_reducible refine aapp_go ?_);refine Xt ?_;intro idn σn hOn hKn eobj enobj ever entop)
 |((with_reducible refine aappn_go ?_);refine Xu ?_)
 |((with_reducible refine Xh ?_);refine Xi (hHA _) ?_;rintro _ _ ⟨rfl,hK5⟩;(have kno5:=hK5.nobj;have kob5:=hK5.obj;have hKx:=((hK.new _).put hK.nobj _).trans hK5;have hOx:=Own.keep (Own.put (Own.new hO _) _ _) hK5;simp only [put_nobj,new_nobj] at kno5 kob5))
 |refine Xr ?_
 |exact True.intro
 |(apply hκ.out;clear hκ κ))
     rename_i σb
     have hob : σb.obj σ2.nobj = [ic a.p, sl ida2 a.ts.length (ecells a.ts)] := by rw [kob5 _ (by omega), put_same]
     refine awp_loop (fun m s σ3 => ∃ (j i5 : Nat) (us : List Int), m = a.ts.length - j ∧ j ≤ a.ts.length ∧ s 2 = ptr σ.nobj 0 ∧ s 5 = sl i5 us.length (icells us) ∧ s 8 = ic rs.length ∧ s 32 = sl ida l.length cs ∧ s 33 = ic l.length ∧ s 34 = ic k ∧ s 43 = sl ida2 a.ts.length (ecells a.ts) ∧ s 44 = ic a.ts.length ∧ s 45 = ic j ∧ Keep σ σ3 ∧ σ.nobj < σ3.nobj ∧ σ3.obj σ.nobj = [ic q.head.p, sl ih q.head.ts.length (ecells q.head.ts), sl ip q.parts.length pc, sl inn q.nots.length nc] ∧ Own σ σ3 i5 us.length ∧ us.length ≤ init.length + V.length ∧ rs.length ≤ us.length ∧ Abs.Hid (Grown init V us ∧ us.take rs.length = rs ∧ (∀ v ∈ ws, v ∈ us) ∧ ∀ v, (true, v) ∈ a.ts.take j → v ∈ us)) a.ts.length
      ⟨0, i4, ws, by omega, by omega, by simp [upd, *], by simp [upd, *], by simp [upd, *], by simp [upd, *], by simp [upd, *], by simp [upd, *], by simp [upd], by simp [upd], rfl, hKx, by omega, by rw [kob5 _ (by omega), put_ne (by omega), new_lt (by omega), ob0], hOx, hwl, hrw, hW.out.1, hW.out.2.1, fun v hv => hv, by simp⟩ ?_
     clear hKx hOx kob5 hK hO ob0 hno h2 h5 h8 h32 h33 h34 kno hK5 kno5 hob hHA
     rintro m s σ3 ⟨j, i5, us, rfl, hj, h2, h5, h8, h32, h33, h34, h43, h44, h45, hK, hno, ob0, hO, hul, hru, hU⟩
     have kno := hK.nobj
     have hui := icells_len us
     by_cases hlt3 : j < a.ts.length
     ·have hget := List.getElem?_eq_getElem hlt3
      obtain ⟨r3, hd3⟩ := ecells_get hget
      have htm := List.getElem_mem hlt3
      generalize a.ts[j] = w at hd3 hget htm
      obtain ⟨w1, w2⟩ := w
      have HTT : Abs.Hid (a.ts.take (j + 1) = a.ts.take j ++ [(w1, w2)]) := by rw [Abs.Hid, List.take_add_one, hget, Option.toList_some]
      clear hget
      have hu5 : us.length ≤ 100000 := by omega
      have hpn := placeOf_neg w2 us
      have hPO := fun σ => eplaceOf_spec w2 us i5 hu5 σ
      have HU : Abs.Hid ((w1 = true → w2 ∈ us) → (Grown init V us ∧ us.take rs.length = rs ∧ (∀ v ∈ ws, v ∈ us) ∧ ∀ v, (true, v) ∈ a.ts.take (j + 1) → v ∈ us)) := fun hw => by
       refine ⟨hU.out.1, hU.out.2.1, hU.out.2.2.1, fun v hv => ?_⟩
       rw [HTT.out] at hv
       rcases List.mem_append.1 hv with h | h
       ·exact hU.out.2.2.2 v h
       ·simp at h
        obtain ⟨h1, h2⟩ := h
        subst h2
        exact hw h1
      cases w1 with
      | false =>
       repeat' (first
 |with_reducible first|apply Xa|apply Xb|(refine Xc ?_;intro κ hκ)|(apply hκ.out;clear hκ κ)|apply Xd|apply Xe|apply Xf
 |((with_reducible first|refine Xl ?_ ?_|refine Xk ?_ ?_)<;> intro h hari<;> try exact Xp)
 |((with_reducible refine aapp_go ?_);refine Xt ?_;intro idn σn hOn hKn eobj enobj ever entop)
 |((with_reducible refine aappn_go ?_);refine Xu ?_)
 |refine Xr ?_
 |exact True.intro
 |(apply hκ.out;clear hκ κ))
       refine ⟨a.ts.length - (j + 1), by omega, j + 1, i5, us, ?_⟩
       ((repeat' with_reducible refine And.intro ?_ ?_)<;> first|exact Xq|exact (Own.put (Own.new hO _) _ _)|exact (HU.out (fun h => by cases h))|exact Xs)
      | true =>
       by_cases hm : w2 ∈ us
       ·have hdm : decide (w2 ∉ us) = false := by simp [hm]
        rw [hdm] at hpn
        have HU := HU.out (fun _ => hm)
        have HU : Abs.Hid _ := HU
        clear hdm hm
        repeat' (first
 |with_reducible first|apply Xa|apply Xb|(refine Xc ?_;intro κ hκ)|(apply hκ.out;clear hκ κ)|apply Xd|apply Xe|apply Xf
 |((with_reducible first|refine Xl ?_ ?_|refine Xk ?_ ?_)<;> intro h hari<;> try exact Xp)
 |((with_reducible refine aapp_go ?_);refine Xt ?_;intro idn σn hOn hKn eobj enobj ever entop)
 |((with_reducible refine aappn_go ?_);refine Xu ?_)
 |((with_reducible refine Xh ?_);refine Xi (hPO _) ?_;rintro _ _ ⟨rfl,hK6⟩;(have kno6:=hK6.nobj;have kob6:=hK6.obj;have hKx:=((hK.new _).put hK.nobj _).trans hK6;have hOx:=Own.keep (Own.put (Own.new hO _) _ _) hK6;simp only [put_nobj,new_nobj] at kno6 kob6))
 |refine Xr ?_
 |exact True.intro
 |(apply hκ.out;clear hκ κ))
        refine ⟨a.ts.length - (j + 1), by omega, j + 1, i5, us, ?_⟩
        ((repeat' with_reducible refine And.intro ?_ ?_)<;> first|exact Xq|exact (HU)|exact Xs)
       ·have hdm : decide (w2 ∉ us) = true := by simp [hm]
        rw [hdm] at hpn
        have HU : Abs.Hid (Grown init V (us ++ [w2]) ∧ (us ++ [w2]).take rs.length = rs ∧ (∀ v ∈ ws, v ∈ us ++ [w2]) ∧ ∀ v, (true, v) ∈ a.ts.take (j + 1) → v ∈ us ++ [w2]) := by
         refine ⟨hU.out.1.snoc (hbv w2 htm) hm, ?_, fun v hv => List.mem_append.2 (.inl (hU.out.2.2.1 v hv)), fun v hv => ?_⟩
         ·rw [List.take_append_of_le_length hru]; exact hU.out.2.1
         ·rw [HTT.out] at hv
          rcases List.mem_append.1 hv with h | h
          ·exact List.mem_append.2 (.inl (hU.out.2.2.2 v h))
          ·simp at h; subst h; simp
        have hul2 : us.length + 1 ≤ init.length + V.length := by
         have := HU.out.1.le
         simpa using this
        clear hdm hm
        repeat' (first
 |with_reducible first|apply Xa|apply Xb|(refine Xc ?_;intro κ hκ)|(apply hκ.out;clear hκ κ)|apply Xd|apply Xe|apply Xf
 |((with_reducible first|refine Xl ?_ ?_|refine Xk ?_ ?_)<;> intro h hari<;> try exact Xp)
 |((with_reducible refine aapp_go ?_);refine Xt ?_;intro idn σn hOn hKn eobj enobj ever entop)
 |((with_reducible refine aappn_go ?_);refine Xu ?_)
 |((with_reducible refine Xh ?_);refine Xi (hPO _) ?_;rintro _ _ ⟨rfl,hK6⟩;(have kno6:=hK6.nobj;have kob6:=hK6.obj;have hKx:=((hK.new _).put hK.nobj _).trans hK6;have hOx:=Own.keep (Own.put (Own.new hO _) _ _) hK6;simp only [put_nobj,new_nobj] at kno6 kob6;have kob7:=kob6 σ3.nobj (by omega);rw [put_same] at kob7))
 |refine Xr ?_
 |exact True.intro
 |(apply hκ.out;clear hκ κ))
        refine ⟨a.ts.length - (j + 1), by omega, j + 1, idn, us ++ [w2], ?_⟩
        ((repeat' with_reducible refine And.intro ?_ ?_)<;> first|exact Xq|exact (by simpa using hOn)|exact (HU)|exact (by simp [icells])|exact Xs)
     ·have hjl : j = a.ts.length := by omega
      subst hjl
      have HW : Abs.Hid (Grown init V us ∧ us.take rs.length = rs ∧ ClosedR (l.take (k + 1)) rs us) := by
       obtain ⟨u1, u2, u3, u4⟩ := hU.out
       rw [List.take_length] at u4
       refine ⟨u1, u2, ?_⟩
       rw [HT.out]
       intro b hb h v hv
       rcases List.mem_append.1 hb with hb | hb
       ·exact u3 v (hW.out.2.2 b hb h v hv)
       ·simp at hb; subst hb
        exact u4 v hv
      clear hU hW HT
      repeat' (first
 |with_reducible first|apply Xa|apply Xb|(refine Xc ?_;intro κ hκ)|(apply hκ.out;clear hκ κ)|apply Xd|apply Xe|apply Xf
 |((with_reducible first|refine Xl ?_ ?_|refine Xk ?_ ?_)<;> intro h hari<;> try exact Xp)
 |((with_reducible refine aapp_go ?_);refine Xt ?_;intro idn σn hOn hKn eobj enobj ever entop)
 |((with_reducible refine aappn_go ?_);refine Xu ?_)
 |refine Xr ?_
 |exact True.intro
 |(apply hκ.out;clear hκ κ))
      refine ⟨l.length - (k + 1), by omega, k + 1, i5, us, ?_⟩
      ((repeat' with_reducible refine And.intro ?_ ?_)<;> first|exact Xq|exact (HW)|exact Xs)
   ·have hkl : k = l.length := by omega
    subst hkl
    have HW : Abs.Hid (Grown init V ws ∧ ClosedR l (ws.take rs.length) ws) := by
     obtain ⟨u1, u2, u3⟩ := hW.out
     rw [List.take_length] at u3
     exact ⟨u1, by rw [u2]; exact u3⟩
    clear hW
    repeat' (first
 |with_reducible first|apply Xa|apply Xb|(refine Xc ?_;intro κ hκ)|(apply hκ.out;clear hκ κ)|apply Xd|apply Xe|apply Xf
 |((with_reducible first|refine Xl ?_ ?_|refine Xk ?_ ?_)<;> intro h hari<;> try exact Xp)
 |((with_reducible refine aapp_go ?_);refine Xt ?_;intro idn σn hOn hKn eobj enobj ever entop)
 |((with_reducible refine aappn_go ?_);refine Xu ?_)
 |refine Xr ?_
 |exact True.intro
 |(apply hκ.out;clear hκ κ))
    refine ⟨2 * (init.length + V.length - ws.length) + (if (rs.length : Int) < (ws.length : Int) then 1 else 0), by split <;> omega, rs.length, i4, rs.length, ws, ?_⟩
    ((repeat' with_reducible refine And.intro ?_ ?_)<;> first|exact Xq|exact (HW)|exact (.inl rfl)|exact Xs)
  ·have hF : Grown init V rs ∧ ClosedR l rs rs := by
    have hB : B = rs.length := by rcases hBi with h | ⟨h1, h2⟩ <;> omega
    obtain ⟨u1, u2⟩ := hG.out
    rw [hB, List.take_length] at u2
    exact ⟨u1, u2⟩
   have HF : Abs.Hid _ := hF
   clear hF
   have hgt : decide ((rs.length : Int) > Bi) = false := by simp; omega
   repeat' (first
 |with_reducible first|apply Xa|apply Xb|(refine Xc ?_;intro κ hκ)|(apply hκ.out;clear hκ κ)|apply Xd|apply Xe|apply Xf
 |((with_reducible first|refine Xl ?_ ?_|refine Xk ?_ ?_)<;> intro h hari<;> try exact Xp)
 |((with_reducible refine aapp_go ?_);refine Xt ?_;intro idn σn hOn hKn eobj enobj ever entop)
 |((with_reducible refine aappn_go ?_);refine Xu ?_)
 |refine Xr ?_
 |exact True.intro
 |(apply hκ.out;clear hκ κ))
   first | exact ⟨_, rfl, ⟨i3, rs, rfl, HF.out.1, HF.out.2⟩, hK⟩ | exact ⟨_, rfl, i3, rs, rfl, HF.out.1, HF.out.2⟩
end Go.Proofs.YtmoeoppbmhfbpaaGreatDoorB
