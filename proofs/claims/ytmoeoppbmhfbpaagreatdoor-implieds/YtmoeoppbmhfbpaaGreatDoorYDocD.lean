import Derived.Test.YtmoeoppbmhfbpaaGreatDoorYDocC
/- The document's own answer: next, key. -/
namespace Go.Proofs.YtmoeoppbmhfbpaaGreatDoorY
open Go.Abs
set_option linter.unusedSimpArgs false
set_option linter.unusedVariables false
set_option maxRecDepth 100000
def NextR (fz : Bool) (x : RItem) (n : Int) : Prop := (n = -1 ∧ ∀ a ∈ x.body, Pos fz a = false) ∨ ∃ (j : Nat) (b : RAtom), n = j ∧ x.body[j]? = some b ∧ Pos fz b = true
def NextI (fz : Bool) (x : RItem) (i : Nat) (n : Int) : Prop := (n = -1 ∧ ∀ a ∈ x.body.take i, Pos fz a = false) ∨ ∃ (j : Nat) (b : RAtom), n = j ∧ j < i ∧ x.body[j]? = some b ∧ Pos fz b = true
theorem NextI.skip {fz : Bool} {x : RItem} {i : Nat} {n : Int} {w : RAtom} (h : NextI fz x i n) (hw : x.body[i]? = some w) (hp : Pos fz w = false) : NextI fz x (i + 1) n := by
 rcases h with ⟨h1, h2⟩ | ⟨j, b, h1, h2, h3, h4⟩
 ·refine .inl ⟨h1, fun a ha => ?_⟩
  rw [List.take_add_one, hw] at ha
  rcases List.mem_append.1 ha with h' | h'
  ·exact h2 a h'
  ·simp at h'; subst h'; exact hp
 ·exact .inr ⟨j, b, h1, by omega, h3, h4⟩
set_option maxHeartbeats 32000000 in
theorem rnext_spec (x : RItem) (c : List AV) (fz : Bool) (hc : EItem x c) (hx : x.fits) (σ : St) : ACalls Tryz.prog 255 [ag c, sc (.bool fz)] σ fun r σ' => ∃ n, r = sc (.int .i64 n) ∧ NextR fz x n ∧ Keep σ σ' := by
 obtain ⟨ih, id, b, hb, rfl⟩ := hc.cells
 have hbl := EL.length EAtom_len hb
 have hb5 := hx.1
 unfold itemCells
 refine acalls 43 [.tmp 4] Tryz.func255 rfl (by decide) rfl rfl (Nat.le_of_ble_eq_true rfl) ?_
 repeat' (first
 |with_reducible first|apply Xa|apply Xb|(refine Xc ?_;intro κ hκ)|(apply hκ.out;clear hκ κ)|apply Xd|apply Xe|apply Xf
 |((with_reducible first|refine Xl ?_ ?_|refine Xm ?_ ?_|refine Xk ?_ ?_)<;> intro h hari<;> try exact Xp)
 |refine Xw ?_
 |exact True.intro
 |((with_reducible refine Xg ?_);refine Xj ?_)
 |(apply hκ.out;clear hκ κ))
 refine awp_loop (fun m s σ' => ∃ (i : Nat) (n : Int), m = x.body.length - i ∧ i ≤ x.body.length ∧ s 1 = sc (.bool fz) ∧ s 2 = ptr σ.nobj 0 ∧ s 5 = sc (.int .i64 n) ∧ s 6 = sc (.int .i64 i) ∧ Keep σ σ' ∧ σ.nobj < σ'.nobj ∧ σ'.obj σ.nobj = [sc (.bool x.out), sc (.bool x.head.nt), str x.head.pred, sl ih x.head.terms.length (x.head.terms.map str), sl id x.body.length b] ∧ Abs.Hid (NextI fz x i n)) x.body.length
  ⟨0, -1, by omega, by omega, by simp [upd, initS], by simp [upd], by simp [upd], by simp [upd], by exact Xs, by simp only [new_nobj]; omega, new_same, .inl ⟨rfl, fun a ha => by simp at ha⟩⟩ ?_
 rintro m s σ' ⟨i, n, rfl, hi, h1, h2, h5, h6, hK, hno, ob0, hN⟩
 have kno := hK.nobj
 by_cases hlt : i < x.body.length
 ·have hget := List.getElem?_eq_getElem hlt
  obtain ⟨ia, r, hd⟩ := EL_atom hb hget
  have hwn := hx.2.2 _ (List.getElem_mem hlt)
  generalize x.body[i] = w at hd hget hwn
  cases hp : Pos fz w with
  | false =>
   have HN : Abs.Hid (NextI fz x (i + 1) n) := hN.out.skip hget hp
   have hnt : w.nt = true := by unfold Pos at hp; simp at hp; exact hp.2
   have hfz : fz = false := by unfold Pos at hp; simp at hp; exact hp.1
   subst hfz
   clear hget hp
   repeat' (first
 |with_reducible first|apply Xa|apply Xb|(refine Xc ?_;intro κ hκ)|(apply hκ.out;clear hκ κ)|apply Xd|apply Xe|apply Xf
 |((with_reducible first|refine Xl ?_ ?_|refine Xm ?_ ?_|refine Xk ?_ ?_)<;> intro h hari<;> try exact Xp)
 |refine Xw ?_
 |exact True.intro
 |((with_reducible refine Xg ?_);refine Xj ?_)
 |(apply hκ.out;clear hκ κ))
   refine ⟨x.body.length - (i + 1), by omega, i + 1, n, ?_⟩
   ((repeat' with_reducible refine And.intro ?_ ?_)<;> first|exact Xq|exact (HN)|exact Xs)
  | true =>
   have HN : Abs.Hid (NextI fz x (i + 1) (i : Nat)) := .inr ⟨i, w, rfl, by omega, hget, hp⟩
   have hpp : w.nt = false ∨ (w.nt = true ∧ fz = true) := by
    unfold Pos at hp
    cases hw : w.nt with
    | false => exact .inl rfl
    | true => rw [hw] at hp; simp at hp; exact .inr ⟨rfl, hp⟩
   clear hp
   have HNX : Abs.Hid (NextI fz x (i + 1) n ∨ n = -1) := by
    rcases hN.out with ⟨h1, h2⟩ | ⟨j, b, h1, h2, h3, h4⟩
    ·exact .inr h1
    ·exact .inl (.inr ⟨j, b, h1, by omega, h3, h4⟩)
   have hLw := fun σ => rloose_spec w _ ⟨ia, rfl⟩ hwn σ
   have hlw := looseN_le w
   generalize looseN w = lw at hLw hlw
   clear hget
   have hcase : n = -1 ∨ ∃ (j : Nat) (b' : RAtom), n = j ∧ x.body[j]? = some b' := by
    rcases hN.out with ⟨h1, h2⟩ | ⟨j, b, h1, h2, h3, h4⟩
    ·exact .inl h1
    ·exact .inr ⟨j, b, h1, h3⟩
   rcases hcase with hn1 | ⟨j, b', hnj, hbj⟩
   ·subst hn1
    have hd1 : decide ((-1 : Int) < 0) = true := by decide
    rcases hpp with hnt | ⟨hnt, hfz⟩
    ·
     repeat' (first
 |with_reducible first|apply Xa|apply Xb|(refine Xc ?_;intro κ hκ)|(apply hκ.out;clear hκ κ)|apply Xd|apply Xe|apply Xf
 |((with_reducible first|refine Xl ?_ ?_|refine Xm ?_ ?_|refine Xk ?_ ?_)<;> intro h hari<;> try exact Xp)
 |refine Xw ?_
 |exact True.intro
 |((with_reducible refine Xg ?_);refine Xj ?_)
 |(apply hκ.out;clear hκ κ))
     refine awp_mono (Q := fun e s' σ'' => e = .normal ∧ s' 40 = sc (.bool true) ∧ s' 1 = s 1 ∧ s' 2 = s 2 ∧ s' 5 = s 5 ∧ s' 6 = s 6 ∧ σ'' = σ') ?_ ?_
     ·refine awp_draw_h follows_mixed (fun _ => True) [] [0, 1, 2, 3, 4, 5, 6, 7, 9, 10, 11, 12, 13] 4 #[true, true, true, true, true, true, true, true, false, true, true, true, true, true, false, false, false] (by kernel_rfl) (fun _ _ _ h => by cases h.1) ?_; intro κ hκ; refine Xw ?_; refine hκ.out _ ?_; clear hκ κ
      refine uany_one (i := 8) (by kernel_rfl) ?_; refine aOne_k ?_; intro κ hκ; refine Xw ?_
      refine hκ.out _ _ ⟨kept_refl, ?_⟩; clear hκ κ
      refine uany_one (i := 14) (by kernel_rfl) ?_; refine aOne_k ?_; intro κ hκ; refine Xw ?_
      refine hκ.out _ _ ⟨kept_refl, ?_⟩; clear hκ κ
      refine uany_rest [15, 16] (by kernel_rfl) (by kernel_rfl) (fun _ _ _ h => by cases h.1) (Nat.le_refl _) (fun o ho _ => rfl) ?_
      intro κ hκ
      refine Xw ?_
      refine hκ.out _ _ ⟨rfl, ?_⟩
      simp [upd]
     ·rintro e s' σ'' ⟨rfl, g40, g1, g2, g5, g6, rfl⟩
      rw [h1] at g1
      rw [h2] at g2
      rw [h5] at g5
      rw [h6] at g6
      refine awp_cond_t g40 ?_
      repeat' (first
 |with_reducible first|apply Xa|apply Xb|(refine Xc ?_;intro κ hκ)|(apply hκ.out;clear hκ κ)|apply Xd|apply Xe|apply Xf
 |((with_reducible first|refine Xl ?_ ?_|refine Xm ?_ ?_|refine Xk ?_ ?_)<;> intro h hari<;> try exact Xp)
 |refine Xw ?_
 |exact True.intro
 |((with_reducible refine Xg ?_);refine Xj ?_)
 |(apply hκ.out;clear hκ κ))
      refine ⟨x.body.length - (i + 1), by omega, i + 1, (i : Nat), ?_⟩
      ((repeat' with_reducible refine And.intro ?_ ?_)<;> first|exact Xq|exact (HN)|exact Xs)
    ·subst hfz
     repeat' (first
 |with_reducible first|apply Xa|apply Xb|(refine Xc ?_;intro κ hκ)|(apply hκ.out;clear hκ κ)|apply Xd|apply Xe|apply Xf
 |((with_reducible first|refine Xl ?_ ?_|refine Xm ?_ ?_|refine Xk ?_ ?_)<;> intro h hari<;> try exact Xp)
 |refine Xw ?_
 |exact True.intro
 |((with_reducible refine Xg ?_);refine Xj ?_)
 |(apply hκ.out;clear hκ κ))
     refine awp_mono (Q := fun e s' σ'' => e = .normal ∧ s' 40 = sc (.bool true) ∧ s' 1 = s 1 ∧ s' 2 = s 2 ∧ s' 5 = s 5 ∧ s' 6 = s 6 ∧ σ'' = σ') ?_ ?_
     ·refine awp_draw_h follows_mixed (fun _ => True) [] [0, 1, 2, 3, 4, 5, 6, 7, 9, 10, 11, 12, 13] 4 #[true, true, true, true, true, true, true, true, false, true, true, true, true, true, false, false, false] (by kernel_rfl) (fun _ _ _ h => by cases h.1) ?_; intro κ hκ; refine Xw ?_; refine hκ.out _ ?_; clear hκ κ
      refine uany_one (i := 8) (by kernel_rfl) ?_; refine aOne_k ?_; intro κ hκ; refine Xw ?_
      refine hκ.out _ _ ⟨kept_refl, ?_⟩; clear hκ κ
      refine uany_one (i := 14) (by kernel_rfl) ?_; refine aOne_k ?_; intro κ hκ; refine Xw ?_
      refine hκ.out _ _ ⟨kept_refl, ?_⟩; clear hκ κ
      refine uany_rest [15, 16] (by kernel_rfl) (by kernel_rfl) (fun _ _ _ h => by cases h.1) (Nat.le_refl _) (fun o ho _ => rfl) ?_
      intro κ hκ
      refine Xw ?_
      refine hκ.out _ _ ⟨rfl, ?_⟩
      simp [upd]
     ·rintro e s' σ'' ⟨rfl, g40, g1, g2, g5, g6, rfl⟩
      rw [h1] at g1
      rw [h2] at g2
      rw [h5] at g5
      rw [h6] at g6
      refine awp_cond_t g40 ?_
      repeat' (first
 |with_reducible first|apply Xa|apply Xb|(refine Xc ?_;intro κ hκ)|(apply hκ.out;clear hκ κ)|apply Xd|apply Xe|apply Xf
 |((with_reducible first|refine Xl ?_ ?_|refine Xm ?_ ?_|refine Xk ?_ ?_)<;> intro h hari<;> try exact Xp)
 |refine Xw ?_
 |exact True.intro
 |((with_reducible refine Xg ?_);refine Xj ?_)
 |(apply hκ.out;clear hκ κ))
      refine ⟨x.body.length - (i + 1), by omega, i + 1, (i : Nat), ?_⟩
      ((repeat' with_reducible refine And.intro ?_ ?_)<;> first|exact Xq|exact (HN)|exact Xs)
   ·subst hnj
    have hjl := (List.getElem?_eq_some_iff.1 hbj).1
    obtain ⟨ja, r2, hd2⟩ := EL_atom hb hbj
    have hbn := hx.2.2 _ (List.mem_of_getElem? hbj)
    have hLb := fun σ => rloose_spec b' _ ⟨ja, rfl⟩ hbn σ
    have hlb := looseN_le b'
    generalize looseN b' = lb at hLb hlb
    have hNX : Abs.Hid (NextI fz x (i + 1) (j : Nat)) := by
     rcases HNX.out with h | h
     ·exact h
     ·omega
    clear HNX hbj
    have hd1 : decide ((j : Int) < 0) = false := by simp
    rcases hpp with hnt | ⟨hnt, hfz⟩
    ·
     rw [hnt] at hLw
     repeat' (first
 |with_reducible first|apply Xa|apply Xb|(refine Xc ?_;intro κ hκ)|(apply hκ.out;clear hκ κ)|apply Xd|apply Xe|apply Xf
 |((with_reducible first|refine Xl ?_ ?_|refine Xm ?_ ?_|refine Xk ?_ ?_)<;> intro h hari<;> try exact Xp)
 |refine Xw ?_
 |exact True.intro
 |((with_reducible refine Xg ?_);refine Xj ?_)
 |(apply hκ.out;clear hκ κ))
     refine awp_mono (Q := fun e s' σ'' => e = .normal ∧ s' 40 = sc (.bool (decide ((lw : Int) < lb))) ∧ s' 1 = s 1 ∧ s' 2 = s 2 ∧ s' 5 = s 5 ∧ s' 6 = s 6 ∧ Keep σ' σ'') ?_ ?_
     ·refine awp_draw_h follows_mixed (fun _ => True) [] [0, 1, 2, 3, 4, 5, 6, 7, 9, 10, 11, 12, 13] 4 #[true, true, true, true, true, true, true, true, false, true, true, true, true, true, false, false, false] (by kernel_rfl) (fun _ _ _ h => by cases h.1) ?_; intro κ hκ; refine Xw ?_; refine hκ.out _ ?_; clear hκ κ
      refine uany_one (i := 8) (by kernel_rfl) ?_; refine aOne_k ?_; intro κ hκ; refine Xw ?_
      refine ACalls.mono (hLw _) ?_
      rintro _ σ5 ⟨rfl, hK5⟩
      refine Xw ?_
      refine hκ.out _ _ ⟨kept_keep hK5, ?_⟩; clear hκ κ
      refine uany_one (i := 14) (by kernel_rfl) ?_; refine aOne_k ?_; intro κ hκ; refine Xw ?_
      refine ACalls.mono (hLb _) ?_
      rintro _ σ6 ⟨rfl, hK6⟩
      refine Xw ?_
      refine hκ.out _ _ ⟨kept_keep (hK5.trans hK6), ?_⟩; clear hκ κ
      refine uany_rest [15, 16] (by kernel_rfl) (by kernel_rfl) (fun _ _ _ h => by cases h.1) (hK5.trans hK6).nobj (fun o ho _ => (hK5.trans hK6).ver o ho) ?_
      intro κ hκ
      refine Xw ?_
      refine hκ.out _ _ ⟨rfl, ?_⟩
      simp [upd, hK5.trans hK6]
     ·rintro e s' σ'' ⟨rfl, g40, g1, g2, g5, g6, hK6⟩
      rw [h1] at g1
      rw [h2] at g2
      rw [h5] at g5
      rw [h6] at g6
      have kno6 := hK6.nobj
      have kob6 := hK6.obj
      have ob6 : σ''.obj σ.nobj = [sc (.bool x.out), sc (.bool x.head.nt), str x.head.pred, sl ih x.head.terms.length (x.head.terms.map str), sl id x.body.length b] := by rw [kob6 _ hno, ob0]
      clear kob6
      by_cases hll : (lw : Int) < lb
      ·rw [show decide ((lw : Int) < lb) = true from by simpa using hll] at g40
       refine awp_cond_t g40 ?_
       repeat' (first
 |with_reducible first|apply Xa|apply Xb|(refine Xc ?_;intro κ hκ)|(apply hκ.out;clear hκ κ)|apply Xd|apply Xe|apply Xf
 |((with_reducible first|refine Xl ?_ ?_|refine Xm ?_ ?_|refine Xk ?_ ?_)<;> intro h hari<;> try exact Xp)
 |refine Xw ?_
 |exact True.intro
 |((with_reducible refine Xg ?_);refine Xj ?_)
 |(apply hκ.out;clear hκ κ))
       refine ⟨x.body.length - (i + 1), by omega, i + 1, (i : Nat), ?_⟩
       ((repeat' with_reducible refine And.intro ?_ ?_)<;> first|exact Xq|exact (HN)|exact (hK.trans hK6)|exact Xs)
      ·rw [show decide ((lw : Int) < lb) = false from by simpa using hll] at g40
       refine awp_cond_f g40 ?_
       repeat' (first
 |with_reducible first|apply Xa|apply Xb|(refine Xc ?_;intro κ hκ)|(apply hκ.out;clear hκ κ)|apply Xd|apply Xe|apply Xf
 |((with_reducible first|refine Xl ?_ ?_|refine Xm ?_ ?_|refine Xk ?_ ?_)<;> intro h hari<;> try exact Xp)
 |refine Xw ?_
 |exact True.intro
 |((with_reducible refine Xg ?_);refine Xj ?_)
 |(apply hκ.out;clear hκ κ))
       refine ⟨x.body.length - (i + 1), by omega, i + 1, (j : Nat), ?_⟩
       ((repeat' with_reducible refine And.intro ?_ ?_)<;> first|exact Xq|exact (hNX)|exact (hK.trans hK6)|exact Xs)
    ·subst hfz
     rw [hnt] at hLw
     repeat' (first
 |with_reducible first|apply Xa|apply Xb|(refine Xc ?_;intro κ hκ)|(apply hκ.out;clear hκ κ)|apply Xd|apply Xe|apply Xf
 |((with_reducible first|refine Xl ?_ ?_|refine Xm ?_ ?_|refine Xk ?_ ?_)<;> intro h hari<;> try exact Xp)
 |refine Xw ?_
 |exact True.intro
 |((with_reducible refine Xg ?_);refine Xj ?_)
 |(apply hκ.out;clear hκ κ))
     refine awp_mono (Q := fun e s' σ'' => e = .normal ∧ s' 40 = sc (.bool (decide ((lw : Int) < lb))) ∧ s' 1 = s 1 ∧ s' 2 = s 2 ∧ s' 5 = s 5 ∧ s' 6 = s 6 ∧ Keep σ' σ'') ?_ ?_
     ·refine awp_draw_h follows_mixed (fun _ => True) [] [0, 1, 2, 3, 4, 5, 6, 7, 9, 10, 11, 12, 13] 4 #[true, true, true, true, true, true, true, true, false, true, true, true, true, true, false, false, false] (by kernel_rfl) (fun _ _ _ h => by cases h.1) ?_; intro κ hκ; refine Xw ?_; refine hκ.out _ ?_; clear hκ κ
      refine uany_one (i := 8) (by kernel_rfl) ?_; refine aOne_k ?_; intro κ hκ; refine Xw ?_
      refine ACalls.mono (hLw _) ?_
      rintro _ σ5 ⟨rfl, hK5⟩
      refine Xw ?_
      refine hκ.out _ _ ⟨kept_keep hK5, ?_⟩; clear hκ κ
      refine uany_one (i := 14) (by kernel_rfl) ?_; refine aOne_k ?_; intro κ hκ; refine Xw ?_
      refine ACalls.mono (hLb _) ?_
      rintro _ σ6 ⟨rfl, hK6⟩
      refine Xw ?_
      refine hκ.out _ _ ⟨kept_keep (hK5.trans hK6), ?_⟩; clear hκ κ
      refine uany_rest [15, 16] (by kernel_rfl) (by kernel_rfl) (fun _ _ _ h => by cases h.1) (hK5.trans hK6).nobj (fun o ho _ => (hK5.trans hK6).ver o ho) ?_
      intro κ hκ
      refine Xw ?_
      refine hκ.out _ _ ⟨rfl, ?_⟩
      simp [upd, hK5.trans hK6]
     ·rintro e s' σ'' ⟨rfl, g40, g1, g2, g5, g6, hK6⟩
      rw [h1] at g1
      rw [h2] at g2
      rw [h5] at g5
      rw [h6] at g6
      have kno6 := hK6.nobj
      have kob6 := hK6.obj
      have ob6 : σ''.obj σ.nobj = [sc (.bool x.out), sc (.bool x.head.nt), str x.head.pred, sl ih x.head.terms.length (x.head.terms.map str), sl id x.body.length b] := by rw [kob6 _ hno, ob0]
      clear kob6
      by_cases hll : (lw : Int) < lb
      ·rw [show decide ((lw : Int) < lb) = true from by simpa using hll] at g40
       refine awp_cond_t g40 ?_
       repeat' (first
 |with_reducible first|apply Xa|apply Xb|(refine Xc ?_;intro κ hκ)|(apply hκ.out;clear hκ κ)|apply Xd|apply Xe|apply Xf
 |((with_reducible first|refine Xl ?_ ?_|refine Xm ?_ ?_|refine Xk ?_ ?_)<;> intro h hari<;> try exact Xp)
 |refine Xw ?_
 |exact True.intro
 |((with_reducible refine Xg ?_);refine Xj ?_)
 |(apply hκ.out;clear hκ κ))
       refine ⟨x.body.length - (i + 1), by omega, i + 1, (i : Nat), ?_⟩
       ((repeat' with_reducible refine And.intro ?_ ?_)<;> first|exact Xq|exact (HN)|exact (hK.trans hK6)|exact Xs)
      ·rw [show decide ((lw : Int) < lb) = false from by simpa using hll] at g40
       refine awp_cond_f g40 ?_
       repeat' (first
 |with_reducible first|apply Xa|apply Xb|(refine Xc ?_;intro κ hκ)|(apply hκ.out;clear hκ κ)|apply Xd|apply Xe|apply Xf
 |((with_reducible first|refine Xl ?_ ?_|refine Xm ?_ ?_|refine Xk ?_ ?_)<;> intro h hari<;> try exact Xp)
 |refine Xw ?_
 |exact True.intro
 |((with_reducible refine Xg ?_);refine Xj ?_)
 |(apply hκ.out;clear hκ κ))
       refine ⟨x.body.length - (i + 1), by omega, i + 1, (j : Nat), ?_⟩
       ((repeat' with_reducible refine And.intro ?_ ?_)<;> first|exact Xq|exact (hNX)|exact (hK.trans hK6)|exact Xs)
 ·have hil : i = x.body.length := by omega
  subst hil
  have HR : NextR fz x n := by
   rcases hN.out with ⟨h1, h2⟩ | ⟨j, b, h1, h2, h3, h4⟩
   ·rw [List.take_length] at h2; exact .inl ⟨h1, h2⟩
   ·exact .inr ⟨j, b, h1, h3, h4⟩
  repeat' (first
 |with_reducible first|apply Xa|apply Xb|(refine Xc ?_;intro κ hκ)|(apply hκ.out;clear hκ κ)|apply Xd|apply Xe|apply Xf
 |((with_reducible first|refine Xl ?_ ?_|refine Xm ?_ ?_|refine Xk ?_ ?_)<;> intro h hari<;> try exact Xp)
 |refine Xw ?_
 |exact True.intro
 |((with_reducible refine Xg ?_);refine Xj ?_)
 |(apply hκ.out;clear hκ κ))
  first | exact ⟨_, rfl, n, rfl, HR, hK⟩ | exact ⟨n, rfl, HR, hK⟩ | exact ⟨_, rfl, n, rfl, HR⟩
end Go.Proofs.YtmoeoppbmhfbpaaGreatDoorY
