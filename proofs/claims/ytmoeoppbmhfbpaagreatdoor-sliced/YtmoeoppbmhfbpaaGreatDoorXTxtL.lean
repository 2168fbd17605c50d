import Derived.Test.YtmoeoppbmhfbpaaGreatDoorXAwk
import Derived.Test.YtmoeoppbmhfbpaaGreatDoorXFolB
/- Plain texts, walked: what is wanted. -/
namespace Go.Proofs.YtmoeoppbmhfbpaaGreatDoorX
open Go.Abs
set_option linter.unusedSimpArgs false
set_option linter.unusedVariables false
set_option maxRecDepth 100000
inductive WantT (l : List Tx) : Tx → Prop where
 | out {p : Tx} : p ∈ l → outB p = true → WantT l (hdL p)
 | rule {p q : Tx} : p ∈ l → outB p = false → WantT l (hdL p) → q ∈ prsL p → WantT l q
theorem nodup_leT : ∀ {l m : List Tx}, l.Nodup → (∀ x ∈ l, x ∈ m) → l.length ≤ m.length
 | [], m, _, _ => Nat.zero_le _
 | a :: l, m, h, hs => by
  obtain ⟨h1, h2⟩ := List.nodup_cons.1 h
  have hm := hs a (by simp)
  have := nodup_leT (l := l) (m := m.erase a) h2 fun x hx => (List.mem_erase_of_ne (fun (e : x = a) => h1 (e ▸ hx))).2 (hs x (by simp [hx]))
  rw [List.length_erase_of_mem hm] at this
  have hp : 0 < m.length := List.length_pos_of_mem hm
  simp only [List.length_cons]
  omega
structure GoodW (l w0 P wd : List Tx) : Prop where
 ad : ∃ ad, wd = w0 ++ ad ∧ ad.Nodup ∧ ∀ a ∈ ad, a ∈ P
 want : ∀ x ∈ wd, WantT l x
theorem GoodW.len {l w0 P wd : List Tx} (h : GoodW l w0 P wd) : wd.length ≤ w0.length + P.length := by
 obtain ⟨ad, rfl, h1, h2⟩ := h.ad
 have := nodup_leT h1 h2
 simp only [List.length_append]
 omega
theorem GoodW.snoc {l w0 P wd : List Tx} (h : GoodW l w0 P wd) {q : Tx} (hq : q ∈ P) (hn : q ∉ wd) (hw : WantT l q) : GoodW l w0 P (wd ++ [q]) := by
 obtain ⟨ad, rfl, h1, h2⟩ := h.ad
 refine ⟨⟨ad ++ [q], by simp, ?_, fun a ha => ?_⟩, fun x hx => ?_⟩
 ·rw [List.nodup_append]
  refine ⟨h1, by simp, fun a ha b hb e => ?_⟩
  simp at hb
  subst hb
  exact hn (List.mem_append_right _ (e ▸ ha))
 ·rcases List.mem_append.1 ha with ha | ha
  ·exact h2 a ha
  ·simp at ha; subst ha; exact hq
 ·rcases List.mem_append.1 hx with hx | hx
  ·exact h.want x hx
  ·simp at hx; subst hx; exact hw
def ClT (l wd : List Tx) (x : Tx) (i : Nat) : Prop := ∀ p ∈ l.take i, outB p = false → hdL p = x → ∀ q ∈ prsL p, q ∈ wd
theorem ClT.mono {l wd wd' : List Tx} {x : Tx} {i : Nat} (h : ClT l wd x i) (hs : ∀ q ∈ wd, q ∈ wd') : ClT l wd' x i := fun p hp ho he q hq => hs q (h p hp ho he q hq)
theorem ClT.next {l wd : List Tx} {x : Tx} {i : Nat} {p : Tx} (h : ClT l wd x i) (hp : l[i]? = some p) (hn : outB p = false → hdL p = x → ∀ q ∈ prsL p, q ∈ wd) : ClT l wd x (i + 1) := fun r hr => by
 rw [List.take_add_one, hp, Option.toList_some] at hr
 rcases List.mem_append.1 hr with hr | hr
 ·exact h r hr
 ·simp at hr; subst hr; exact hn
def PrvT (l wd : List Tx) (k : Nat) : Prop := ∀ j x, j < k → wd[j]? = some x → ClT l wd x l.length
theorem PrvT.mono {l wd : List Tx} {k : Nat} (h : PrvT l wd k) (hk : k ≤ wd.length) (ad : List Tx) : PrvT l (wd ++ ad) k := fun j x hj hx => by
 rw [List.getElem?_append_left (by omega)] at hx
 exact (h j x hj hx).mono fun q hq => List.mem_append_left _ hq
theorem want_done {l w0 P wd : List Tx} (h : GoodW l w0 P wd) (h0 : ∀ p ∈ l, outB p = true → hdL p ∈ w0) (hc : PrvT l wd wd.length) : ∀ q, q ∈ wd ↔ WantT l q := fun q => by
 refine ⟨h.want q, fun hq => ?_⟩
 induction hq with
 | out hp ho =>
  obtain ⟨ad, rfl, -⟩ := h.ad
  exact List.mem_append_left _ (h0 _ hp ho)
 | @rule p q hp ho _ hq ih =>
  obtain ⟨j, hj⟩ := List.getElem?_of_mem ih
  exact hc j _ (List.getElem?_eq_some_iff.1 hj).1 hj p (by rw [List.take_length]; exact hp) ho rfl q hq
set_option maxHeartbeats 64000000 in
theorem kwanted_spec (l : List Tx) (ids : Nat) (hl : l.length ≤ 1000) (hp : ∀ p ∈ l, p.length ≤ 100000 ∧ (prsL p).length ≤ 1000) (σ : St) : ACalls Tryz.prog 40 [sl ids l.length (l.map str)] σ fun r σ' => (∃ (id : Nat) (w : List Tx), r = sl id w.length (w.map str) ∧ w.length ≤ 2000000 ∧ ∀ q, q ∈ w ↔ WantT l q) ∧ Keep σ σ' := by
 have hOu := fun p σ => koutput_spec p σ
 have hHe := fun p (hp' : p ∈ l) σ => khead_spec p (hp p hp').1 (by have := (hp p hp').2; omega) σ
 have hPr := fun p (hp' : p ∈ l) σ => kpredicates_spec p (hp p hp').1 σ
 have hAm := fun (w : List Tx) id q (hw : w.length ≤ 2000000) σ => kamong_spec w id q hw σ
 have hPl : ∀ i, ((l.take i).flatMap prsL).length ≤ i * 1000 := by
  intro i
  induction i with
  | zero => simp
  | succ i ih =>
   cases h : l[i]? with
   | none => rw [List.take_add_one, h, Option.toList_none, List.append_nil]; omega
   | some p =>
    have := (hp p (List.mem_of_getElem? h)).2
    rw [List.take_add_one, h, Option.toList_some, List.flatMap_append, List.length_append, List.flatMap_singleton]
    omega
 have hPl := hPl l.length
 rw [List.take_length] at hPl
 generalize hPe : l.flatMap prsL = P at hPl
 have HPE : Abs.Hid (∀ p ∈ l, ∀ q ∈ prsL p, q ∈ P) := fun p hp q hq => by rw [← hPe]; exact List.mem_flatMap.2 ⟨p, hp, hq⟩
 clear hPe
 refine acalls 83 [.tmp 2] Tryz.func40 rfl (by decide) rfl rfl (Nat.le_of_ble_eq_true rfl) ?_
 repeat' (first
 |with_reducible first|apply Xa|apply Xb|(refine Xc ?_;intro κ hκ)|(apply hκ.out;clear hκ κ)|apply Xd|apply Xe|apply Xf
 |((with_reducible first|refine Xl ?_ ?_|refine Xm ?_ ?_|refine Xk ?_ ?_)<;> intro h hari<;> try exact Xp)
 |((with_reducible refine aapp_go ?_);refine Xt ?_;intro idn σn hOn hKn eobj enobj ever entop)
 |((with_reducible refine aappn_go ?_);refine Xu ?_)
 |refine Xr ?_
 |exact True.intro
 |((with_reducible refine Xg ?_);refine Xj ?_)
 |(apply hκ.out;clear hκ κ))
 refine awp_loop (fun m s σ' => ∃ (i id : Nat) (wd : List Tx), m = l.length - i ∧ i ≤ l.length ∧ s 0 = sl ids l.length (l.map str) ∧ s 3 = sl id wd.length (wd.map str) ∧ s 4 = sc (.int .i64 i) ∧ Keep σ σ' ∧ Own σ σ' id wd.length ∧ wd.length ≤ i ∧ Abs.Hid ((∀ x ∈ wd, WantT l x) ∧ ∀ p ∈ l.take i, outB p = true → hdL p ∈ wd)) l.length
  ⟨0, 1, [], by omega, by omega, rfl, rfl, rfl, Keep.refl _, Own.nil _ _, by simp, ⟨by simp, by simp⟩⟩ ?_
 rintro m s σ' ⟨i, id, wd, rfl, hi, h0, h3, h4, hK, hO, hwl, hA⟩
 have kno := hK.nobj
 by_cases hlt : i < l.length
 ·have hget := List.getElem?_eq_getElem hlt
  have hdr := map_str_get hlt
  have hmem := List.getElem_mem hlt
  generalize l[i] = p at hget hdr hmem
  have hOu := hOu p
  have hHe := hHe p hmem
  cases ho : outB p with
  | true =>
   rw [ho] at hOu
   have HA : Abs.Hid ((∀ x ∈ wd ++ [hdL p], WantT l x) ∧ ∀ r ∈ l.take (i + 1), outB r = true → hdL r ∈ wd ++ [hdL p]) := by
    refine ⟨fun x hx => ?_, fun r hr hro => ?_⟩
    ·rcases List.mem_append.1 hx with hx | hx
     ·exact hA.out.1 x hx
     ·simp at hx; subst hx; exact WantT.out hmem ho
    ·rw [List.take_add_one, hget, Option.toList_some] at hr
     rcases List.mem_append.1 hr with hr | hr
     ·exact List.mem_append_left _ (hA.out.2 r hr hro)
     ·simp at hr; subst hr; exact List.mem_append_right _ (by simp)
   clear hA hget ho
   generalize hdL p = hd0 at *
   repeat' (first
 |with_reducible first|apply Xa|apply Xb|(refine Xc ?_;intro κ hκ)|(apply hκ.out;clear hκ κ)|apply Xd|apply Xe|apply Xf
 |((with_reducible first|refine Xl ?_ ?_|refine Xm ?_ ?_|refine Xk ?_ ?_)<;> intro h hari<;> try exact Xp)
 |((with_reducible refine aapp_go ?_);refine Xt ?_;intro idn σn hOn hKn eobj enobj ever entop)
 |((with_reducible refine aappn_go ?_);refine Xu ?_)
 |((with_reducible refine Xh ?_);first|(refine Xi (hOu _) ?_;rintro _ _ ⟨rfl,rfl⟩)|(refine Xi (hHe _) ?_;rintro _ _ ⟨rfl,hK2⟩;(have kno2:=hK2.nobj;have hKz:=hK.trans hK2;have hOz:=hO.keep hK2)))
 |refine Xr ?_
 |exact True.intro
 |((with_reducible refine Xg ?_);refine Xj ?_)
 |(apply hκ.out;clear hκ κ))
   refine ⟨l.length - (i + 1), by omega, i + 1, idn, wd ++ [hd0], ?_⟩
   ((repeat' with_reducible refine And.intro ?_ ?_)<;> first|exact Xq|exact (HA)|exact ((by simpa using hOn))|exact Xs)
  | false =>
   rw [ho] at hOu
   have HA : Abs.Hid ((∀ x ∈ wd, WantT l x) ∧ ∀ r ∈ l.take (i + 1), outB r = true → hdL r ∈ wd) := by
    refine ⟨hA.out.1, fun r hr hro => ?_⟩
    rw [List.take_add_one, hget, Option.toList_some] at hr
    rcases List.mem_append.1 hr with hr | hr
    ·exact hA.out.2 r hr hro
    ·simp at hr; subst hr; rw [ho] at hro; cases hro
   clear hA hget ho hHe
   repeat' (first
 |with_reducible first|apply Xa|apply Xb|(refine Xc ?_;intro κ hκ)|(apply hκ.out;clear hκ κ)|apply Xd|apply Xe|apply Xf
 |((with_reducible first|refine Xl ?_ ?_|refine Xm ?_ ?_|refine Xk ?_ ?_)<;> intro h hari<;> try exact Xp)
 |((with_reducible refine aapp_go ?_);refine Xt ?_;intro idn σn hOn hKn eobj enobj ever entop)
 |((with_reducible refine aappn_go ?_);refine Xu ?_)
 |((with_reducible refine Xh ?_);refine Xi (hOu _) ?_;rintro _ _ ⟨rfl,rfl⟩)
 |refine Xr ?_
 |exact True.intro
 |((with_reducible refine Xg ?_);refine Xj ?_)
 |(apply hκ.out;clear hκ κ))
   refine ⟨l.length - (i + 1), by omega, i + 1, id, wd, ?_⟩
   ((repeat' with_reducible refine And.intro ?_ ?_)<;> first|exact Xq|exact (HA)|exact Xs)
 ·have hil : i = l.length := by omega
  subst hil
  rw [List.take_length] at hA
  have HG0 : Abs.Hid (GoodW l wd P wd) := ⟨⟨[], by simp, List.nodup_nil, by simp⟩, hA.out.1⟩
  have H0 : Abs.Hid (∀ p ∈ l, outB p = true → hdL p ∈ wd) := hA.out.2
  generalize hB0 : wd.length + P.length = B0n
  have hB1 : B0n ≤ 1001000 := by omega
  have HB : Abs.Hid (wd.length + P.length = B0n) := hB0
  generalize hw0 : wd = w0 at H0 HB
  rw [hw0] at HG0 h3 hO hwl
  clear hw0 hA hB0
  repeat' (first
 |with_reducible first|apply Xa|apply Xb|(refine Xc ?_;intro κ hκ)|(apply hκ.out;clear hκ κ)|apply Xd|apply Xe|apply Xf
 |((with_reducible first|refine Xl ?_ ?_|refine Xm ?_ ?_|refine Xk ?_ ?_)<;> intro h hari<;> try exact Xp)
 |((with_reducible refine aapp_go ?_);refine Xt ?_;intro idn σn hOn hKn eobj enobj ever entop)
 |((with_reducible refine aappn_go ?_);refine Xu ?_)
 |refine Xr ?_
 |exact True.intro
 |((with_reducible refine Xg ?_);refine Xj ?_)
 |(apply hκ.out;clear hκ κ))
  refine awp_loop (fun m s σ' => ∃ (k id : Nat) (wd : List Tx), m = B0n - k ∧ k ≤ wd.length ∧ wd.length ≤ B0n ∧ s 0 = sl ids l.length (l.map str) ∧ s 3 = sl id wd.length (wd.map str) ∧ s 5 = sc (.int .i64 k) ∧ Keep σ σ' ∧ Own σ σ' id wd.length ∧ Abs.Hid (GoodW l w0 P wd ∧ PrvT l wd k)) B0n
   ⟨0, id, w0, by omega, by omega, by have := HB.out; omega, by simp [upd, *], by simp [upd, *], by simp [upd], hK, hO, ⟨HG0.out, fun j x hj => by omega⟩⟩ ?_
  clear h0 h3 h4 hK hO hwl HG0 kno
  rintro m s σ2 ⟨k, id, wd, rfl, hk, hwB, h0, h3, h5, hK, hO, hA⟩
  have kno := hK.nobj
  by_cases hltk : k < wd.length
  ·have hgk := List.getElem?_eq_getElem hltk
   generalize wd[k] = x at hgk
   repeat' (first
 |with_reducible first|apply Xa|apply Xb|(refine Xc ?_;intro κ hκ)|(apply hκ.out;clear hκ κ)|apply Xd|apply Xe|apply Xf
 |((with_reducible first|refine Xl ?_ ?_|refine Xm ?_ ?_|refine Xk ?_ ?_)<;> intro h hari<;> try exact Xp)
 |((with_reducible refine aapp_go ?_);refine Xt ?_;intro idn σn hOn hKn eobj enobj ever entop)
 |((with_reducible refine aappn_go ?_);refine Xu ?_)
 |refine Xr ?_
 |exact True.intro
 |((with_reducible refine Xg ?_);refine Xj ?_)
 |(apply hκ.out;clear hκ κ))
   refine awp_loop (fun m s σ' => ∃ (i id : Nat) (wd : List Tx), m = l.length - i ∧ i ≤ l.length ∧ k < wd.length ∧ wd.length ≤ B0n ∧ s 0 = sl ids l.length (l.map str) ∧ s 3 = sl id wd.length (wd.map str) ∧ s 5 = sc (.int .i64 k) ∧ s 6 = sc (.int .i64 i) ∧ Keep σ σ' ∧ Own σ σ' id wd.length ∧ Abs.Hid (GoodW l w0 P wd ∧ PrvT l wd k ∧ wd[k]? = some x ∧ ClT l wd x i)) l.length
    ⟨0, id, wd, by omega, by omega, hltk, hwB, by simp [upd, *], by simp [upd, *], by simp [upd, *], by simp [upd], hK, hO, ⟨hA.out.1, hA.out.2, hgk, fun p hp => by simp at hp⟩⟩ ?_
   clear h0 h3 h5 hK hO hA kno hgk hltk hwB hk
   rintro m s σ3 ⟨i, id, wd, rfl, hi, hkl, hwB, h0, h3, h5, h6, hK, hO, hA⟩
   have kno := hK.nobj
   by_cases hlti : i < l.length
   ·have hget := List.getElem?_eq_getElem hlti
    have hdr := map_str_get hlti
    have hmem := List.getElem_mem hlti
    generalize l[i] = p at hget hdr hmem
    have hdk := map_str_get hkl
    rw [(List.getElem?_eq_some_iff.1 hA.out.2.2.1).2] at hdk
    have hOu := hOu p
    have hHe := hHe p hmem
    have hPr := hPr p hmem
    have HNX : Abs.Hid ((outB p = false → hdL p = x → ∀ q ∈ prsL p, q ∈ wd) → GoodW l w0 P wd ∧ PrvT l wd k ∧ wd[k]? = some x ∧ ClT l wd x (i + 1)) := fun h => ⟨hA.out.1, hA.out.2.1, hA.out.2.2.1, hA.out.2.2.2.next hget h⟩
    cases ho : outB p with
    | true =>
     rw [ho] at hOu
     have HZ : Abs.Hid (GoodW l w0 P wd ∧ PrvT l wd k ∧ wd[k]? = some x ∧ ClT l wd x (i + 1)) := HNX.out fun h => by rw [ho] at h; cases h
     clear HNX hA hget ho hHe hPr
     repeat' (first
 |with_reducible first|apply Xa|apply Xb|(refine Xc ?_;intro κ hκ)|(apply hκ.out;clear hκ κ)|apply Xd|apply Xe|apply Xf
 |((with_reducible first|refine Xl ?_ ?_|refine Xm ?_ ?_|refine Xk ?_ ?_)<;> intro h hari<;> try exact Xp)
 |((with_reducible refine aapp_go ?_);refine Xt ?_;intro idn σn hOn hKn eobj enobj ever entop)
 |((with_reducible refine aappn_go ?_);refine Xu ?_)
 |refine Xr ?_
 |exact True.intro
 |((with_reducible refine Xg ?_);refine Xj ?_)
 |(apply hκ.out;clear hκ κ))
     refine awp_mono (Q := fun e s' σ'' => e = .normal ∧ s' 56 = sc (.bool true) ∧ s' 0 = s 0 ∧ s' 3 = s 3 ∧ s' 5 = s 5 ∧ s' 6 = s 6 ∧ σ'' = σ3) ?_ ?_
     ·refine awp_draw_h follows_mixed (fun _ => True) [] [0, 1, 2, 3] 13 #[true, true, true, true, false, false, false, false, false, false, false, false, false, false, false, false, false] (by kernel_rfl) (fun _ _ _ h => by cases h.1) ?_; intro κ hκ; refine Xr ?_; refine hκ.out _ ?_; clear hκ κ
      refine uany_one (i := 4) (by kernel_rfl) ?_; refine aOne_k ?_; intro κ hκ; refine Xr ?_
      refine ACalls.mono (hOu _) ?_
      rintro _ _ ⟨rfl, rfl⟩
      refine Xr ?_
      refine hκ.out _ _ ⟨kept_refl, ?_⟩; clear hκ κ
      refine uany_more [5, 6, 7, 8, 9, 11, 12, 13, 14] 3 12 #[true, true, true, true, true, true, true, true, true, true, false, true, true, true, true, false, false] rfl (by kernel_rfl) (by kernel_rfl) (fun _ _ _ h => by cases h.1) (Nat.le_refl _) (fun o ho _ => rfl) ?_; intro κ hκ; refine Xr ?_; refine hκ.out _ ?_; clear hκ κ
      refine uany_one (i := 10) (by kernel_rfl) ?_; refine aOne_k ?_; intro κ hκ; refine Xr ?_
      refine hκ.out _ _ ⟨kept_refl, ?_⟩; clear hκ κ
      refine uany_rest [15, 16] (by kernel_rfl) (by kernel_rfl) (fun _ _ _ h => by cases h.1) (Nat.le_refl _) (fun o ho _ => rfl) ?_
      intro κ hκ
      refine Xr ?_
      refine hκ.out _ _ ⟨rfl, ?_⟩
      simp [upd]
     ·rintro e s' σ'' ⟨rfl, g56, g0, g3, g5, g6, rfl⟩
      rw [h0] at g0
      rw [h3] at g3
      rw [h5] at g5
      rw [h6] at g6
      clear h0 h3 h5 h6
      refine awp_cond_t g56 ?_
      repeat' (first
 |with_reducible first|apply Xa|apply Xb|(refine Xc ?_;intro κ hκ)|(apply hκ.out;clear hκ κ)|apply Xd|apply Xe|apply Xf
 |((with_reducible first|refine Xl ?_ ?_|refine Xm ?_ ?_|refine Xk ?_ ?_)<;> intro h hari<;> try exact Xp)
 |((with_reducible refine aapp_go ?_);refine Xt ?_;intro idn σn hOn hKn eobj enobj ever entop)
 |((with_reducible refine aappn_go ?_);refine Xu ?_)
 |refine Xr ?_
 |exact True.intro
 |((with_reducible refine Xg ?_);refine Xj ?_)
 |(apply hκ.out;clear hκ κ))
      refine ⟨l.length - (i + 1), by omega, i + 1, id, wd, ?_⟩
      ((repeat' with_reducible refine And.intro ?_ ?_)<;> first|exact Xq|exact (HZ)|exact Xs)
    | false =>
     rw [ho] at hOu
     by_cases hh : hdL p = x
     ·have hhb : (hdL p != x) = false := by simpa using hh
      have hhe : (hdL p == x) = true := by simpa using hh
      have hWx : WantT l (hdL p) := by rw [hh]; exact hA.out.1.want x (List.mem_of_getElem? hA.out.2.2.1)
      have HPQ : Abs.Hid (∀ q ∈ prsL p, q ∈ P ∧ WantT l q) := fun q hq => ⟨HPE.out p hmem q hq, WantT.rule hmem ho hWx hq⟩
      have hpl := (hp p hmem).2
      have HG : Abs.Hid (GoodW l w0 P wd ∧ PrvT l wd k ∧ wd[k]? = some x ∧ ClT l wd x i) := hA.out
      have HGET : Abs.Hid (l[i]? = some p) := hget
      clear HNX hA hget hWx ho
      generalize hdL p = hd0 at *
      generalize hpse : prsL p = ps at hPr HPQ hpl
      have HPS : Abs.Hid _ := hpse
      clear hpse
      repeat' (first
 |with_reducible first|apply Xa|apply Xb|(refine Xc ?_;intro κ hκ)|(apply hκ.out;clear hκ κ)|apply Xd|apply Xe|apply Xf
 |((with_reducible first|refine Xl ?_ ?_|refine Xm ?_ ?_|refine Xk ?_ ?_)<;> intro h hari<;> try exact Xp)
 |((with_reducible refine aapp_go ?_);refine Xt ?_;intro idn σn hOn hKn eobj enobj ever entop)
 |((with_reducible refine aappn_go ?_);refine Xu ?_)
 |refine Xr ?_
 |exact True.intro
 |((with_reducible refine Xg ?_);refine Xj ?_)
 |(apply hκ.out;clear hκ κ))
      refine awp_mono (Q := fun e s' σ'' => e = .normal ∧ s' 56 = sc (.bool false) ∧ s' 0 = s 0 ∧ s' 3 = s 3 ∧ s' 5 = s 5 ∧ s' 6 = s 6 ∧ Keep σ3 σ'') ?_ ?_
      ·refine awp_draw_h follows_mixed (fun _ => True) [] [0, 1, 2, 3] 13 #[true, true, true, true, false, false, false, false, false, false, false, false, false, false, false, false, false] (by kernel_rfl) (fun _ _ _ h => by cases h.1) ?_; intro κ hκ; refine Xr ?_; refine hκ.out _ ?_; clear hκ κ
       refine uany_one (i := 4) (by kernel_rfl) ?_; refine aOne_k ?_; intro κ hκ; refine Xr ?_
       refine ACalls.mono (hOu _) ?_
       rintro _ _ ⟨rfl, rfl⟩
       refine Xr ?_
       refine hκ.out _ _ ⟨kept_refl, ?_⟩; clear hκ κ
       refine uany_more [5, 6, 7, 8, 9, 11, 12, 13, 14] 3 12 #[true, true, true, true, true, true, true, true, true, true, false, true, true, true, true, false, false] rfl (by kernel_rfl) (by kernel_rfl) (fun _ _ _ h => by cases h.1) (Nat.le_refl _) (fun o ho _ => rfl) ?_; intro κ hκ; refine Xr ?_; refine hκ.out _ ?_; clear hκ κ
       refine uany_one (i := 10) (by kernel_rfl) ?_; refine aOne_k ?_; intro κ hκ; refine Xr ?_
       refine ACalls.mono (hHe _) ?_
       rintro _ σ5 ⟨rfl, hK5⟩
       refine Xr ?_
       refine hκ.out _ _ ⟨kept_keep hK5, ?_⟩; clear hκ κ
       refine uany_rest [15, 16] (by kernel_rfl) (by kernel_rfl) (fun _ _ _ h => by cases h.1) hK5.nobj (fun o ho _ => hK5.ver o ho) ?_
       intro κ hκ
       refine Xr ?_
       refine hκ.out _ _ ⟨rfl, ?_⟩
       simp [upd, hK5]
      ·rintro e s' σ'' ⟨rfl, g56, g0, g3, g5, g6, hK6⟩
       rw [h0] at g0
       rw [h3] at g3
       rw [h5] at g5
       rw [h6] at g6
       have hKz := hK.trans hK6
       have hOz := hO.keep hK6
       have knoz := hKz.nobj
       clear h0 h3 h5 h6 hK hO hK6 hHe hOu kno
       refine awp_cond_f g56 ?_
       repeat' (first
 |with_reducible first|apply Xa|apply Xb|(refine Xc ?_;intro κ hκ)|(apply hκ.out;clear hκ κ)|apply Xd|apply Xe|apply Xf
 |((with_reducible first|refine Xl ?_ ?_|refine Xm ?_ ?_|refine Xk ?_ ?_)<;> intro h hari<;> try exact Xp)
 |((with_reducible refine aapp_go ?_);refine Xt ?_;intro idn σn hOn hKn eobj enobj ever entop)
 |((with_reducible refine aappn_go ?_);refine Xu ?_)
 |((with_reducible refine Xh ?_);refine Xi (hPr _) ?_;rintro _ _ ⟨⟨idp,rfl⟩,hK7⟩;(have kno7:=hK7.nobj;have hKy:=hKz.trans hK7;have hOy:=hOz.keep hK7))
 |refine Xr ?_
 |exact True.intro
 |((with_reducible refine Xg ?_);refine Xj ?_)
 |(apply hκ.out;clear hκ κ))
       rename_i σ6
       refine awp_loop (fun m s σ' => ∃ (j id : Nat) (wd : List Tx), m = ps.length - j ∧ j ≤ ps.length ∧ k < wd.length ∧ wd.length ≤ B0n ∧ s 0 = sl ids l.length (l.map str) ∧ s 3 = sl id wd.length (wd.map str) ∧ s 5 = sc (.int .i64 k) ∧ s 6 = sc (.int .i64 i) ∧ s 7 = sl idp ps.length (ps.map str) ∧ s 8 = sc (.int .i64 j) ∧ Keep σ σ' ∧ Own σ σ' id wd.length ∧ Abs.Hid (GoodW l w0 P wd ∧ PrvT l wd k ∧ wd[k]? = some x ∧ ClT l wd x i ∧ ∀ q ∈ ps.take j, q ∈ wd)) ps.length
        ⟨0, id, wd, by omega, by omega, hkl, hwB, by simp [upd, *], by simp [upd, *], by simp [upd, *], by simp [upd, *], by simp [upd], by simp [upd], hKy, hOy, ⟨HG.out.1, HG.out.2.1, HG.out.2.2.1, HG.out.2.2.2, by simp⟩⟩ ?_
       clear g0 g3 g5 g6 g56 hKz hOz hKy hOy HG hK7 kno7 knoz hdk hkl hwB
       rintro m s σ7 ⟨j, id, wd, rfl, hj, hkl, hwB, h0, h3, h5, h6, h7, h8, hK, hO, hG⟩
       have kno := hK.nobj
       by_cases hltj : j < ps.length
       ·have hgj := List.getElem?_eq_getElem hltj
        have hdj := map_str_get hltj
        generalize ps[j] = q at hgj hdj
        have hq := HPQ.out q (by exact List.mem_of_getElem? hgj)
        have hAm := hAm wd id q (by omega)
        by_cases hqw : q ∈ wd
        ·rw [show decide (q ∈ wd) = true from by simpa using hqw] at hAm
         have HG : Abs.Hid (GoodW l w0 P wd ∧ PrvT l wd k ∧ wd[k]? = some x ∧ ClT l wd x i ∧ ∀ r ∈ ps.take (j + 1), r ∈ wd) := ⟨hG.out.1, hG.out.2.1, hG.out.2.2.1, hG.out.2.2.2.1, fun r hr => by
          rw [List.take_add_one, hgj, Option.toList_some] at hr
          rcases List.mem_append.1 hr with hr | hr
          ·exact hG.out.2.2.2.2 r hr
          ·simp at hr; subst hr; exact hqw⟩
         clear hG hgj hqw hq
         repeat' (first
 |with_reducible first|apply Xa|apply Xb|(refine Xc ?_;intro κ hκ)|(apply hκ.out;clear hκ κ)|apply Xd|apply Xe|apply Xf
 |((with_reducible first|refine Xl ?_ ?_|refine Xm ?_ ?_|refine Xk ?_ ?_)<;> intro h hari<;> try exact Xp)
 |((with_reducible refine aapp_go ?_);refine Xt ?_;intro idn σn hOn hKn eobj enobj ever entop)
 |((with_reducible refine aappn_go ?_);refine Xu ?_)
 |((with_reducible refine Xh ?_);refine Xi (hAm _) ?_;rintro _ _ ⟨rfl,rfl⟩)
 |refine Xr ?_
 |exact True.intro
 |((with_reducible refine Xg ?_);refine Xj ?_)
 |(apply hκ.out;clear hκ κ))
         refine ⟨ps.length - (j + 1), by omega, j + 1, id, wd, ?_⟩
         ((repeat' with_reducible refine And.intro ?_ ?_)<;> first|exact Xq|exact (HG)|exact Xs)
        ·rw [show decide (q ∈ wd) = false from by simpa using hqw] at hAm
         have hgw : GoodW l w0 P (wd ++ [q]) := hG.out.1.snoc hq.1 hqw hq.2
         have hlenw : wd.length + 1 ≤ B0n := by have := hgw.len; have := HB.out; simp at *; omega
         have HG : Abs.Hid (GoodW l w0 P (wd ++ [q]) ∧ PrvT l (wd ++ [q]) k ∧ (wd ++ [q])[k]? = some x ∧ ClT l (wd ++ [q]) x i ∧ ∀ r ∈ ps.take (j + 1), r ∈ wd ++ [q]) := ⟨hgw, hG.out.2.1.mono (by omega) _, by rw [List.getElem?_append_left hkl]; exact hG.out.2.2.1, hG.out.2.2.2.1.mono fun r hr => List.mem_append_left _ hr, fun r hr => by
          rw [List.take_add_one, hgj, Option.toList_some] at hr
          rcases List.mem_append.1 hr with hr | hr
          ·exact List.mem_append_left _ (hG.out.2.2.2.2 r hr)
          ·simp at hr; subst hr; exact List.mem_append_right _ (by simp)⟩
         clear hG hgj hqw hq hgw
         repeat' (first
 |with_reducible first|apply Xa|apply Xb|(refine Xc ?_;intro κ hκ)|(apply hκ.out;clear hκ κ)|apply Xd|apply Xe|apply Xf
 |((with_reducible first|refine Xl ?_ ?_|refine Xm ?_ ?_|refine Xk ?_ ?_)<;> intro h hari<;> try exact Xp)
 |((with_reducible refine aapp_go ?_);refine Xt ?_;intro idn σn hOn hKn eobj enobj ever entop)
 |((with_reducible refine aappn_go ?_);refine Xu ?_)
 |((with_reducible refine Xh ?_);refine Xi (hAm _) ?_;rintro _ _ ⟨rfl,rfl⟩)
 |refine Xr ?_
 |exact True.intro
 |((with_reducible refine Xg ?_);refine Xj ?_)
 |(apply hκ.out;clear hκ κ))
         refine ⟨ps.length - (j + 1), by omega, j + 1, idn, wd ++ [q], ?_⟩
         ((repeat' with_reducible refine And.intro ?_ ?_)<;> first|exact Xq|exact (HG)|exact ((by simpa using hOn))|exact Xs)
       ·have hjl : j = ps.length := by omega
        have HZ : Abs.Hid (GoodW l w0 P wd ∧ PrvT l wd k ∧ wd[k]? = some x ∧ ClT l wd x (i + 1)) := ⟨hG.out.1, hG.out.2.1, hG.out.2.2.1, hG.out.2.2.2.1.next HGET.out fun _ _ q hq => by
         have := hG.out.2.2.2.2
         rw [hjl, List.take_length] at this
         rw [HPS.out] at hq
         exact this q hq⟩
        clear hG
        repeat' (first
 |with_reducible first|apply Xa|apply Xb|(refine Xc ?_;intro κ hκ)|(apply hκ.out;clear hκ κ)|apply Xd|apply Xe|apply Xf
 |((with_reducible first|refine Xl ?_ ?_|refine Xm ?_ ?_|refine Xk ?_ ?_)<;> intro h hari<;> try exact Xp)
 |((with_reducible refine aapp_go ?_);refine Xt ?_;intro idn σn hOn hKn eobj enobj ever entop)
 |((with_reducible refine aappn_go ?_);refine Xu ?_)
 |refine Xr ?_
 |exact True.intro
 |((with_reducible refine Xg ?_);refine Xj ?_)
 |(apply hκ.out;clear hκ κ))
        refine ⟨l.length - (i + 1), by omega, i + 1, id, wd, ?_⟩
        ((repeat' with_reducible refine And.intro ?_ ?_)<;> first|exact Xq|exact (HZ)|exact Xs)
     ·have hhb : (hdL p != x) = true := by simpa using hh
      have hhe : (hdL p == x) = false := by simpa using hh
      have HZ : Abs.Hid (GoodW l w0 P wd ∧ PrvT l wd k ∧ wd[k]? = some x ∧ ClT l wd x (i + 1)) := HNX.out fun _ h => absurd h hh
      clear HNX hA hget ho hPr hh
      generalize hdL p = hd0 at *
      repeat' (first
 |with_reducible first|apply Xa|apply Xb|(refine Xc ?_;intro κ hκ)|(apply hκ.out;clear hκ κ)|apply Xd|apply Xe|apply Xf
 |((with_reducible first|refine Xl ?_ ?_|refine Xm ?_ ?_|refine Xk ?_ ?_)<;> intro h hari<;> try exact Xp)
 |((with_reducible refine aapp_go ?_);refine Xt ?_;intro idn σn hOn hKn eobj enobj ever entop)
 |((with_reducible refine aappn_go ?_);refine Xu ?_)
 |refine Xr ?_
 |exact True.intro
 |((with_reducible refine Xg ?_);refine Xj ?_)
 |(apply hκ.out;clear hκ κ))
      refine awp_mono (Q := fun e s' σ'' => e = .normal ∧ s' 56 = sc (.bool true) ∧ s' 0 = s 0 ∧ s' 3 = s 3 ∧ s' 5 = s 5 ∧ s' 6 = s 6 ∧ Keep σ3 σ'') ?_ ?_
      ·refine awp_draw_h follows_mixed (fun _ => True) [] [0, 1, 2, 3] 13 #[true, true, true, true, false, false, false, false, false, false, false, false, false, false, false, false, false] (by kernel_rfl) (fun _ _ _ h => by cases h.1) ?_; intro κ hκ; refine Xr ?_; refine hκ.out _ ?_; clear hκ κ
       refine uany_one (i := 4) (by kernel_rfl) ?_; refine aOne_k ?_; intro κ hκ; refine Xr ?_
       refine ACalls.mono (hOu _) ?_
       rintro _ _ ⟨rfl, rfl⟩
       refine Xr ?_
       refine hκ.out _ _ ⟨kept_refl, ?_⟩; clear hκ κ
       refine uany_more [5, 6, 7, 8, 9, 11, 12, 13, 14] 3 12 #[true, true, true, true, true, true, true, true, true, true, false, true, true, true, true, false, false] rfl (by kernel_rfl) (by kernel_rfl) (fun _ _ _ h => by cases h.1) (Nat.le_refl _) (fun o ho _ => rfl) ?_; intro κ hκ; refine Xr ?_; refine hκ.out _ ?_; clear hκ κ
       refine uany_one (i := 10) (by kernel_rfl) ?_; refine aOne_k ?_; intro κ hκ; refine Xr ?_
       refine ACalls.mono (hHe _) ?_
       rintro _ σ5 ⟨rfl, hK5⟩
       refine Xr ?_
       refine hκ.out _ _ ⟨kept_keep hK5, ?_⟩; clear hκ κ
       refine uany_rest [15, 16] (by kernel_rfl) (by kernel_rfl) (fun _ _ _ h => by cases h.1) hK5.nobj (fun o ho _ => hK5.ver o ho) ?_
       intro κ hκ
       refine Xr ?_
       refine hκ.out _ _ ⟨rfl, ?_⟩
       simp [upd, hK5]
      ·rintro e s' σ'' ⟨rfl, g56, g0, g3, g5, g6, hK6⟩
       rw [h0] at g0
       rw [h3] at g3
       rw [h5] at g5
       rw [h6] at g6
       have hKz := hK.trans hK6
       have hOz := hO.keep hK6
       clear h0 h3 h5 h6 hK hO hK6
       refine awp_cond_t g56 ?_
       repeat' (first
 |with_reducible first|apply Xa|apply Xb|(refine Xc ?_;intro κ hκ)|(apply hκ.out;clear hκ κ)|apply Xd|apply Xe|apply Xf
 |((with_reducible first|refine Xl ?_ ?_|refine Xm ?_ ?_|refine Xk ?_ ?_)<;> intro h hari<;> try exact Xp)
 |((with_reducible refine aapp_go ?_);refine Xt ?_;intro idn σn hOn hKn eobj enobj ever entop)
 |((with_reducible refine aappn_go ?_);refine Xu ?_)
 |refine Xr ?_
 |exact True.intro
 |((with_reducible refine Xg ?_);refine Xj ?_)
 |(apply hκ.out;clear hκ κ))
       refine ⟨l.length - (i + 1), by omega, i + 1, id, wd, ?_⟩
       ((repeat' with_reducible refine And.intro ?_ ?_)<;> first|exact Xq|exact (HZ)|exact Xs)
   ·have hil : i = l.length := by omega
    have HZ : Abs.Hid (GoodW l w0 P wd ∧ PrvT l wd (k + 1)) := ⟨hA.out.1, fun j y hj hy => by
     rcases Nat.lt_or_ge j k with h | h
     ·exact hA.out.2.1 j y h hy
     ·have : j = k := by omega
      subst this
      rw [hA.out.2.2.1] at hy
      cases hy
      rw [← hil]
      exact hA.out.2.2.2⟩
    clear hA
    repeat' (first
 |with_reducible first|apply Xa|apply Xb|(refine Xc ?_;intro κ hκ)|(apply hκ.out;clear hκ κ)|apply Xd|apply Xe|apply Xf
 |((with_reducible first|refine Xl ?_ ?_|refine Xm ?_ ?_|refine Xk ?_ ?_)<;> intro h hari<;> try exact Xp)
 |((with_reducible refine aapp_go ?_);refine Xt ?_;intro idn σn hOn hKn eobj enobj ever entop)
 |((with_reducible refine aappn_go ?_);refine Xu ?_)
 |refine Xr ?_
 |exact True.intro
 |((with_reducible refine Xg ?_);refine Xj ?_)
 |(apply hκ.out;clear hκ κ))
    refine ⟨B0n - (k + 1), by omega, k + 1, id, wd, ?_⟩
    ((repeat' with_reducible refine And.intro ?_ ?_)<;> first|exact Xq|exact (HZ)|exact Xs)
  ·have hkl : k = wd.length := by omega
   have HZ : Abs.Hid (∀ q, q ∈ wd ↔ WantT l q) := want_done hA.out.1 H0.out (by rw [← hkl]; exact hA.out.2)
   clear hA
   repeat' (first
 |with_reducible first|apply Xa|apply Xb|(refine Xc ?_;intro κ hκ)|(apply hκ.out;clear hκ κ)|apply Xd|apply Xe|apply Xf
 |((with_reducible first|refine Xl ?_ ?_|refine Xm ?_ ?_|refine Xk ?_ ?_)<;> intro h hari<;> try exact Xp)
 |((with_reducible refine aapp_go ?_);refine Xt ?_;intro idn σn hOn hKn eobj enobj ever entop)
 |((with_reducible refine aappn_go ?_);refine Xu ?_)
 |refine Xr ?_
 |exact True.intro
 |((with_reducible refine Xg ?_);refine Xj ?_)
 |(apply hκ.out;clear hκ κ))
   first | exact ⟨_, rfl, ⟨id, wd, rfl, by omega, HZ.out⟩, hK⟩ | exact ⟨_, rfl, id, wd, rfl, by omega, HZ.out⟩
end Go.Proofs.YtmoeoppbmhfbpaaGreatDoorX
