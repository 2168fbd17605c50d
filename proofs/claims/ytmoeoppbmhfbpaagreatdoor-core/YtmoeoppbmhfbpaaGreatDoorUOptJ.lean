import Derived.Test.YtmoeoppbmhfbpaaGreatDoorUOptH
import Derived.Test.YtmoeoppbmhfbpaaGreatDoorUFolB
import Derived.Test.YtmoeoppbmhfbpaaGreatDoorUPrtH
/- The program: passes. -/
namespace Go.Proofs.YtmoeoppbmhfbpaaGreatDoorU
open Go.Abs
set_option linter.unusedSimpArgs false
set_option linter.unusedVariables false
set_option maxRecDepth 100000
def passesB (t : Tx) : Bool := decide (t.length ≤ 8) && t.all passB
set_option maxHeartbeats 4000000 in
theorem arePasses_spec (t : Tx) (σ : St) : ACalls Tryz.prog 58 [str t] σ fun r σ' => r = sc (.bool (passesB t)) ∧ σ' = σ := by
 have hI := fun c σ => isPass_spec c σ
 by_cases h8 : 8 < t.length
 ·have hb : decide ((8 : Int) < (t.length : Int)) = true := by simp; omega
  have HL : Abs.Hid (passesB t = false) := by rw [Abs.Hid, passesB, decide_eq_false (by omega)]; rfl
  refine acalls 18 [.tmp 2] Tryz.func58 rfl (by decide) rfl rfl (Nat.le_of_ble_eq_true rfl) ?_
  repeat' (first
 |with_reducible first|apply Xa|apply Xb|(refine Xc ?_;intro κ hκ)|(apply hκ.out;clear hκ κ)|apply Xd|apply Xe|apply Xf
 |((with_reducible first|refine Xl ?_ ?_|refine Xk ?_ ?_)<;> intro h hari<;> try exact Xp)
 |refine Xr ?_
 |exact True.intro
 |(apply hκ.out;clear hκ κ))
  exact ⟨_, rfl, by rw [HL.out]⟩
 ·have hb : decide ((8 : Int) < (t.length : Int)) = false := by simp; omega
  refine acalls 18 [.tmp 2] Tryz.func58 rfl (by decide) rfl rfl (Nat.le_of_ble_eq_true rfl) ?_
  repeat' (first
 |with_reducible first|apply Xa|apply Xb|(refine Xc ?_;intro κ hκ)|(apply hκ.out;clear hκ κ)|apply Xd|apply Xe|apply Xf
 |((with_reducible first|refine Xl ?_ ?_|refine Xk ?_ ?_)<;> intro h hari<;> try exact Xp)
 |refine Xr ?_
 |exact True.intro
 |(apply hκ.out;clear hκ κ))
  refine awp_loop (fun m s σ' => ∃ i : Nat, m = t.length - i ∧ i ≤ t.length ∧ s 0 = str t ∧ s 3 = sc (.int .i64 i) ∧ σ' = σ ∧ Abs.Hid (∀ c ∈ t.take i, passB c = true)) t.length
   ⟨0, by omega, by omega, rfl, rfl, rfl, by simp [Abs.Hid]⟩ ?_
  rintro m s σ' ⟨i, rfl, hi, h0, h3, hσ, hA⟩
  by_cases hlt : i < t.length
  ·have hget := List.getElem?_eq_getElem hlt
   generalize t[i] = c at hget
   have hI := hI c
   cases hc : passB c with
   | true =>
    rw [hc] at hI
    have HA : Abs.Hid (∀ c ∈ t.take (i + 1), passB c = true) := by
     rw [Abs.Hid, List.take_add_one, hget, Option.toList_some]
     intro d hd
     rcases List.mem_append.1 hd with hd | hd
     ·exact hA.out d hd
     ·simp at hd; subst hd; exact hc
    clear hA hc
    repeat' (first
 |with_reducible first|apply Xa|apply Xb|(refine Xc ?_;intro κ hκ)|(apply hκ.out;clear hκ κ)|apply Xd|apply Xe|apply Xf
 |((with_reducible first|refine Xl ?_ ?_|refine Xk ?_ ?_)<;> intro h hari<;> try exact Xp)
 |((with_reducible refine Xh ?_);refine Xi (hI _) ?_;rintro _ _ ⟨rfl,rfl⟩)
 |refine Xr ?_
 |exact True.intro
 |(apply hκ.out;clear hκ κ))
    refine ⟨t.length - (i + 1), by omega, i + 1, ?_⟩
    ((repeat' with_reducible refine And.intro ?_ ?_)<;> first|exact Xq|exact (HA)|exact Xs)
   | false =>
    rw [hc] at hI
    have HL : Abs.Hid (passesB t = false) := by
     have : t.all passB = false := List.all_eq_false.2 ⟨c, List.mem_of_getElem? hget, by simp [hc]⟩
     rw [Abs.Hid, passesB, this]; simp
    clear hA hc
    repeat' (first
 |with_reducible first|apply Xa|apply Xb|(refine Xc ?_;intro κ hκ)|(apply hκ.out;clear hκ κ)|apply Xd|apply Xe|apply Xf
 |((with_reducible first|refine Xl ?_ ?_|refine Xk ?_ ?_)<;> intro h hari<;> try exact Xp)
 |((with_reducible refine Xh ?_);refine Xi (hI _) ?_;rintro _ _ ⟨rfl,rfl⟩)
 |refine Xr ?_
 |exact True.intro
 |(apply hκ.out;clear hκ κ))
    exact ⟨_, rfl, by rw [HL.out]⟩
  ·have hil : i = t.length := by omega
   have HL : Abs.Hid (passesB t = true) := by
    have := hA.out
    rw [hil, List.take_length] at this
    rw [Abs.Hid, passesB, decide_eq_true (by omega), List.all_eq_true.2 this]; rfl
   clear hA
   repeat' (first
 |with_reducible first|apply Xa|apply Xb|(refine Xc ?_;intro κ hκ)|(apply hκ.out;clear hκ κ)|apply Xd|apply Xe|apply Xf
 |((with_reducible first|refine Xl ?_ ?_|refine Xk ?_ ?_)<;> intro h hari<;> try exact Xp)
 |refine Xr ?_
 |exact True.intro
 |(apply hκ.out;clear hκ κ))
   exact ⟨_, rfl, by rw [HL.out]⟩
inductive Chg (N : List Tx) (c : UInt8) (b : Int) (l : List RItem) (m : Int) : List RItem → Int → Prop where
 | refl : Chg N c b l m l m
 | snoc {l1 l2 : List RItem} {m1 : Int} : Chg N c b l m l1 m1 → m1 < b → Step N c l1 (some l2) → Chg N c b l m l2 (m1 + 1)
def Pass (N : List Tx) (c : UInt8) (b : Int) (l : List RItem) (m : Int) (l' : List RItem) (m' : Int) : Prop := Chg N c b l m l' m' ∧ (b ≤ m' ∨ Step N c l' none)
inductive Pss (N : List Tx) (b : Int) (l : List RItem) (m : Int) : Tx → List RItem → Int → Prop where
 | nil : Pss N b l m [] l m
 | snoc {ps : Tx} {c : UInt8} {l1 l2 : List RItem} {m1 m2 : Int} : Pss N b l m ps l1 m1 → Pass N c b l1 m1 l2 m2 → Pss N b l m (ps ++ [c]) l2 m2
set_option maxHeartbeats 64000000 in
theorem optimised_spec (N : List Tx) (ar : Tx → Nat) (l : List RItem) (cs : List AV) (idn idi : Nat) (t : Tx) (b : Int) (hb0 : 0 ≤ b) (hb1 : b ≤ 9223372036854775807) (htl : t.length ≤ 8) (ht : ∀ c ∈ t, c = 115 ∨ c = 97 ∨ c = 114) (hR : RtL N ar l) (hE : EL (PI N) l cs) (σ : St) :
  ACalls Tryz.prog 59 [bookA N idn l idi cs, str t, sc (.int .i64 b)] σ fun r σ' => (∃ l' id c' m, r = tp [bookA N idn l' id c', sc (.int .i64 m)] ∧ Pss N b l 0 t l' m ∧ RtL N ar l' ∧ EL (PI N) l' c') ∧ Keep σ σ' := by
 have hC := fun l cs idi c hc hR hE σ => changed_spec N ar l cs idn idi c hc hR hE σ
 refine acalls 36 [.cell 6 66, .tmp 7] Tryz.func59 rfl (by decide) rfl rfl (Nat.le_of_ble_eq_true rfl) ?_
 repeat' (first
 |with_reducible first|apply Xa|apply Xb|(refine Xc ?_;intro κ hκ)|(apply hκ.out;clear hκ κ)|apply Xd|apply Xe|apply Xf
 |((with_reducible first|refine Xl ?_ ?_|refine Xm ?_ ?_|refine Xk ?_ ?_)<;> intro h hari<;> try exact Xp)
 |refine Xr ?_
 |exact True.intro
 |((with_reducible refine Xg ?_);refine Xj ?_)
 |(apply hκ.out;clear hκ κ))
 refine awp_loop (fun k s σ' => ∃ (i : Nat) (m : Int) (l1 : List RItem) (id1 : Nat) (c1 : List AV), k = t.length - i ∧ i ≤ t.length ∧ 0 ≤ m ∧ m ≤ b ∧ s 1 = str t ∧ s 2 = sc (.int .i64 b) ∧ s 3 = ptr σ.nobj 0 ∧ s 6 = ptr (σ.nobj + 1) 0 ∧ s 8 = sc (.int .i64 m) ∧ s 9 = sc (.int .i64 i) ∧ Keep σ σ' ∧ σ.nobj + 1 < σ'.nobj ∧ σ'.obj σ.nobj = [sl idn N.length (N.map str), sl id1 l1.length c1] ∧ σ'.obj (σ.nobj + 1) = [nilS, nilS] ∧ Abs.Hid (Pss N b l 0 (t.take i) l1 m ∧ RtL N ar l1 ∧ EL (PI N) l1 c1)) t.length
  ⟨0, 0, l, idi, cs, by omega, by omega, by omega, by omega, rfl, rfl, by simp [upd], by simp [upd], by simp [upd], by simp [upd], by exact Xs, by simp only [new_nobj]; omega, by rw [new_lt (by simp only [new_nobj]; omega), new_same], by first | exact new_same | simp [new_same], ⟨Pss.nil, hR, hE⟩⟩ ?_
 rintro k s σ' ⟨i, m, l1, id1, c1, rfl, hi, hm0, hm1, h1, h2, h3, h6, h8, h9, hK, hno, ob0, ob1, hA⟩
 have kno := hK.nobj
 by_cases hlt : i < t.length
 ·have hget := List.getElem?_eq_getElem hlt
  have hct := ht t[i] (List.getElem_mem hlt)
  generalize t[i] = c at hget hct
  have HP : Abs.Hid (∀ l2 m2, Pass N c b l1 m l2 m2 → Pss N b l 0 (t.take (i + 1)) l2 m2) := fun l2 m2 h => by
   rw [List.take_add_one, hget, Option.toList_some]
   exact Pss.snoc hA.out.1 h
  have HR1 : Abs.Hid (RtL N ar l1) := hA.out.2.1
  have HE1 : Abs.Hid (EL (PI N) l1 c1) := hA.out.2.2
  clear hA
  repeat' (first
 |with_reducible first|apply Xa|apply Xb|(refine Xc ?_;intro κ hκ)|(apply hκ.out;clear hκ κ)|apply Xd|apply Xe|apply Xf
 |((with_reducible first|refine Xl ?_ ?_|refine Xm ?_ ?_|refine Xk ?_ ?_)<;> intro h hari<;> try exact Xp)
 |refine Xr ?_
 |exact True.intro
 |((with_reducible refine Xg ?_);refine Xj ?_)
 |(apply hκ.out;clear hκ κ))
  refine awp_loop (fun k s σ2 => ∃ (m2 : Int) (l2 : List RItem) (id2 : Nat) (c2 : List AV), k = (b - m2).toNat ∧ m ≤ m2 ∧ m2 ≤ b ∧ s 1 = str t ∧ s 2 = sc (.int .i64 b) ∧ s 3 = ptr σ.nobj 0 ∧ s 6 = ptr (σ.nobj + 1) 0 ∧ s 8 = sc (.int .i64 m2) ∧ s 9 = sc (.int .i64 i) ∧ Keep σ σ2 ∧ σ.nobj + 1 < σ2.nobj ∧ σ2.obj σ.nobj = [sl idn N.length (N.map str), sl id2 l2.length c2] ∧ σ2.obj (σ.nobj + 1) = [nilS, nilS] ∧ Abs.Hid (Chg N c b l1 m l2 m2 ∧ RtL N ar l2 ∧ EL (PI N) l2 c2)) (b - m).toNat
   ⟨m, l1, id1, c1, rfl, by omega, by omega, by simp [upd, *], by simp [upd, *], by simp [upd, *], by simp [upd, *], by simp [upd, *], by simp [upd, *], hK, hno, ob0, ob1, ⟨Chg.refl, HR1.out, HE1.out⟩⟩ ?_
  clear h1 h2 h3 h6 h8 h9 hK hno ob0 ob1 kno HR1 HE1
  rintro k s σ2 ⟨m2, l2, id2, c2, rfl, hmm, hm2, h1, h2, h3, h6, h8, h9, hK, hno, ob0, ob1, hA⟩
  have kno := hK.nobj
  by_cases hlb : m2 < b
  ·have hC := hC l2 c2 id2 c hct hA.out.2.1 hA.out.2.2
   have hlb2 : decide (m2 < b) = true := by simpa using hlb
   repeat' (first
 |with_reducible first|apply Xa|apply Xb|(refine Xc ?_;intro κ hκ)|(apply hκ.out;clear hκ κ)|apply Xd|apply Xe|apply Xf
 |((with_reducible first|refine Xl ?_ ?_|refine Xm ?_ ?_|refine Xk ?_ ?_)<;> intro h hari<;> try exact Xp)
 |refine Xr ?_
 |exact True.intro
 |((with_reducible refine Xg ?_);refine Xj ?_)
 |(apply hκ.out;clear hκ κ))
   refine awp_mono (Q := fun e s' σ'' => e = .normal ∧ ∃ (o10 t1 t2 : Nat) (t3 : List AV) (t4 t5 : Nat) (t6 : List AV) (b' : Bool), s' 10 = ptr o10 0 ∧ σ2.nobj ≤ o10 ∧ o10 < σ''.nobj ∧ σ''.obj o10 = [sl t1 t2 t3, sl t4 t5 t6] ∧ s' 11 = sc (.bool b') ∧ StepR N c l2 idn (ag [sl t1 t2 t3, sl t4 t5 t6]) b' ∧ s' 1 = s 1 ∧ s' 2 = s 2 ∧ s' 3 = s 3 ∧ s' 6 = s 6 ∧ s' 8 = s 8 ∧ s' 9 = s 9 ∧ Keep σ2 σ'') ?_ ?_
   ·have hF1 : (∀ p : Nat, some σ.nobj = some p → p < σ2.nobj) = True := eq_true fun p e => by cases e; omega
    have hFn : (∀ p : Nat, False → p < σ2.nobj) = True := eq_true fun p e => e.elim
    refine awp_draw_h follows_mixed (fun p => p < σ2.nobj) [] [0, 1, 2, 3] 7 #[true, true, true, true, false, false, false, false, false, false, false] (by kernel_rfl) (fun _ _ _ h => by cases h.1) ?_
    intro κ hκ
    refine Xr ?_
    refine hκ.out _ ?_
    clear hκ κ
    refine uany_all (rs := [4, 8]) (by kernel_rfl) (by simp) ?_
    intro j hj
    simp only [List.mem_cons, List.not_mem_nil, or_false] at hj
    rcases hj with rfl | rfl
    ·refine aOne_k ?_
     intro κ hκ
     refine Xr ?_
     refine ACalls.mono (hC _) ?_
     rintro _ σ5 ⟨⟨x5, b5, rfl, hS5⟩, hK5⟩
     obtain ⟨t1, t2, t3, t4, t5, t6, rfl⟩ := hS5.1
     have kno5 := hK5.nobj
     refine Xr ?_
     refine hκ.out _ _ ⟨kept_keep hK5, ?_⟩; clear hκ κ
     refine uany_more [5, 6, 7] 3 6 #[true, true, true, true, true, true, true, true, false, false, false] rfl (by kernel_rfl) (by kernel_rfl) (fun _ _ _ h => by cases h.1) (hK5).nobj (fun o ho _ => (hK5).ver o ho) ?_; intro κ hκ; refine Xr ?_; refine hκ.out _ ?_; clear hκ κ
     refine uany_one (i := 8) (by kernel_rfl) ?_; refine aOne_k ?_; intro κ hκ; refine Xr ?_
     refine hκ.out _ _ ⟨kept_keep ((Keep.refl _).new _), ?_⟩; clear hκ κ
     refine uany_one (i := 9) (by kernel_rfl) ?_; refine aOne_k ?_; intro κ hκ; refine Xr ?_
     refine hκ.out _ _ ⟨fun _ o ho _ => by simp [St.put, St.new]; omega, ?_⟩; clear hκ κ
     refine uany_rest [10] (by kernel_rfl) (by kernel_rfl) (fun _ _ _ h => by cases h.1) (by simp only [put_nobj, new_nobj]; omega) (fun o ho _ => by simp [St.put, St.new]; omega) ?_
     intro κ hκ
     refine Xr ?_
     refine hκ.out _ _ ⟨rfl, σ5.nobj, t1, t2, t3, t4, t5, t6, b5, by simp [upd], by omega, by simp only [put_nobj, new_nobj]; omega, by rw [put_same], by simp [upd], hS5, by simp [upd], by simp [upd], by simp [upd], by simp [upd], by simp [upd], by simp [upd], (hK5.new _).put (by omega) _⟩
    ·refine aOne_k ?_
     intro κ hκ
     refine Xr ?_
     refine hκ.out _ _ ⟨kept_keep ((Keep.refl _).new _), ?_⟩; clear hκ κ
     refine uany_one (i := 4) (by kernel_rfl) ?_; refine aOne_k ?_; intro κ hκ; refine Xr ?_
     refine ACalls.mono (hC _) ?_
     rintro _ σ5 ⟨⟨x5, b5, rfl, hS5⟩, hK5⟩
     obtain ⟨t1, t2, t3, t4, t5, t6, rfl⟩ := hS5.1
     have kno5 := hK5.nobj
     have kob5 := hK5.obj
     simp only [new_nobj] at kno5 kob5
     have hKz : Keep σ2 σ5 := ((Keep.refl _).new _).trans hK5
     have ob10 : σ5.obj σ2.nobj = [nilS, nilS] := by rw [kob5 _ (by omega), new_same]
     refine Xr ?_
     refine hκ.out _ _ ⟨kept_keep hKz, ?_⟩; clear hκ κ
     refine uany_more [5, 6, 7] 2 5 #[true, true, true, true, true, true, true, true, true, false, false] rfl (by kernel_rfl) (by kernel_rfl) (fun _ _ _ h => by cases h.1) (hKz).nobj (fun o ho _ => (hKz).ver o ho) ?_; intro κ hκ; refine Xr ?_; refine hκ.out _ ?_; clear hκ κ
     refine uany_one (i := 9) (by kernel_rfl) ?_; refine aOne_k ?_; intro κ hκ; refine Xr ?_
     refine hκ.out _ _ ⟨fun _ o ho hF => by simp [St.put]; omega, ?_⟩; clear hκ κ
     refine uany_rest [10] (by kernel_rfl) (by kernel_rfl) (fun _ _ _ h => by cases h.1) (by simp only [put_nobj]; omega) (fun o ho hF => by simp [St.put]; omega) ?_
     intro κ hκ
     refine Xr ?_
     refine hκ.out _ _ ⟨rfl, σ2.nobj, t1, t2, t3, t4, t5, t6, b5, by simp [upd], by omega, by simp only [put_nobj]; omega, by rw [put_same], by simp [upd], hS5, by simp [upd], by simp [upd], by simp [upd], by simp [upd], by simp [upd], by simp [upd], hKz.put (by omega) _⟩
   ·rintro e s' σ'' ⟨rfl, o10, t1, t2, t3, t4, t5, t6, b', g10, ho1, ho2, hob, g11, hSt, g1, g2, g3, g6, g8, g9, hK6⟩
    rw [h1] at g1
    rw [h2] at g2
    rw [h3] at g3
    rw [h6] at g6
    rw [h8] at g8
    rw [h9] at g9
    have hKz := hK.trans hK6
    have kno6 := hK6.nobj
    have oz0 : σ''.obj σ.nobj = [sl idn N.length (N.map str), sl id2 l2.length c2] := by rw [hK6.obj _ (by omega), ob0]
    have oz1 : σ''.obj (σ.nobj + 1) = [nilS, nilS] := by rw [hK6.obj _ (by omega), ob1]
    obtain ⟨-, o, hSo, hbo, hbk⟩ := hSt
    clear h1 h2 h3 h6 h8 h9 hK hK6 ob0 ob1 hC
    cases o with
    | none =>
     simp only [Option.isSome_none] at hbo
     subst hbo
     have HQ := HP.out l2 m2 ⟨hA.out.1, .inr hSo⟩
     have HZ : Abs.Hid (Pss N b l 0 (t.take (i + 1)) l2 m2 ∧ RtL N ar l2 ∧ EL (PI N) l2 c2) := ⟨HQ, hA.out.2⟩
     clear HQ HP hA hSo hbk
     repeat' (first
 |with_reducible first|apply Xa|apply Xb|(refine Xc ?_;intro κ hκ)|(apply hκ.out;clear hκ κ)|apply Xd|apply Xe|apply Xf
 |((with_reducible first|refine Xl ?_ ?_|refine Xm ?_ ?_|refine Xk ?_ ?_)<;> intro h hari<;> try exact Xp)
 |refine Xr ?_
 |exact True.intro
 |((with_reducible refine Xg ?_);refine Xj ?_)
 |(apply hκ.out;clear hκ κ))
     refine ⟨t.length - (i + 1), by omega, i + 1, m2, l2, id2, c2, ?_⟩
     ((repeat' with_reducible refine And.intro ?_ ?_)<;> first|exact Xq|exact (HZ)|exact Xs)
    | some l3 =>
     simp only [Option.isSome_some] at hbo
     subst hbo
     obtain ⟨id3, c3, hx3, hE3⟩ := hbk l3 rfl
     simp only [DataW.agg.injEq, List.cons.injEq, and_true] at hx3
     obtain ⟨e1, e2⟩ := hx3
     rw [e1, e2] at hob
     have HZ : Abs.Hid (Chg N c b l1 m l3 (m2 + 1) ∧ RtL N ar l3 ∧ EL (PI N) l3 c3) := ⟨Chg.snoc hA.out.1 hlb hSo, hSo.rt hA.out.2.1, hE3⟩
     clear HP hA hSo hbk hE3 e1 e2
     repeat' (first
 |with_reducible first|apply Xa|apply Xb|(refine Xc ?_;intro κ hκ)|(apply hκ.out;clear hκ κ)|apply Xd|apply Xe|apply Xf
 |((with_reducible first|refine Xl ?_ ?_|refine Xm ?_ ?_|refine Xk ?_ ?_)<;> intro h hari<;> try exact Xp)
 |refine Xr ?_
 |exact True.intro
 |((with_reducible refine Xg ?_);refine Xj ?_)
 |(apply hκ.out;clear hκ κ))
     refine ⟨(b - (m2 + 1)).toNat, by omega, m2 + 1, l3, id3, c3, ?_⟩
     ((repeat' with_reducible refine And.intro ?_ ?_)<;> first|exact Xq|exact (HZ)|exact Xs)
  ·have hmb : m2 = b := by omega
   have HQ := HP.out l2 m2 ⟨hA.out.1, .inl (by omega)⟩
   have HZ : Abs.Hid (Pss N b l 0 (t.take (i + 1)) l2 m2 ∧ RtL N ar l2 ∧ EL (PI N) l2 c2) := ⟨HQ, hA.out.2⟩
   clear HQ HP hA
   have hlb2 : decide (m2 < b) = false := by simpa using hlb
   repeat' (first
 |with_reducible first|apply Xa|apply Xb|(refine Xc ?_;intro κ hκ)|(apply hκ.out;clear hκ κ)|apply Xd|apply Xe|apply Xf
 |((with_reducible first|refine Xl ?_ ?_|refine Xm ?_ ?_|refine Xk ?_ ?_)<;> intro h hari<;> try exact Xp)
 |refine Xr ?_
 |exact True.intro
 |((with_reducible refine Xg ?_);refine Xj ?_)
 |(apply hκ.out;clear hκ κ))
   refine ⟨t.length - (i + 1), by omega, i + 1, m2, l2, id2, c2, ?_⟩
   ((repeat' with_reducible refine And.intro ?_ ?_)<;> first|exact Xq|exact (HZ)|exact Xs)
 ·have hil : i = t.length := by omega
  subst hil
  rw [List.take_length] at hA
  repeat' (first
 |with_reducible first|apply Xa|apply Xb|(refine Xc ?_;intro κ hκ)|(apply hκ.out;clear hκ κ)|apply Xd|apply Xe|apply Xf
 |((with_reducible first|refine Xl ?_ ?_|refine Xm ?_ ?_|refine Xk ?_ ?_)<;> intro h hari<;> try exact Xp)
 |refine Xr ?_
 |exact True.intro
 |((with_reducible refine Xg ?_);refine Xj ?_)
 |(apply hκ.out;clear hκ κ))
  exact ⟨_, rfl, ⟨l1, id1, c1, m, rfl, hA.out⟩, by exact Xs⟩
/- The program: Optimise, with the passes s, a and r. -/
abbrev threeS (p : Tx × Int × Int) : AV := tp [str p.1, sc (.int .i64 p.2.1), sc (.int .i64 p.2.2)]
def pOptR (t ps : Tx) (b : Int) (r : Tx × Int × Int) : Prop :=
 if (refCheck t).1 ≠ 0 then r = ([], 0, (refCheck t).1) else
 if passesB ps = false then r = ([], 0, 11) else
 if b < 0 then r = ([], 0, 6) else
 ∃ N l cs ar l' m, Right t N l cs ∧ ArOf l ar ∧ RtL N ar l' ∧ Pss N b l 0 ps l' m ∧ r = (wholeL l', m, 0)
set_option maxHeartbeats 32000000 in
theorem pOptimise_spec (t ps : Tx) (b : Int) (hb : b ≤ 9223372036854775807) (hps : ∀ c ∈ ps, c = 115 ∨ c = 97 ∨ c = 114) (σ : St) : ACalls Tryz.prog 29 [str t, str ps, sc (.int .i64 b)] σ fun r σ' => ∃ p, r = threeS p ∧ pOptR t ps b p ∧ Keep σ σ' := by
 have hL := fun σ => load_spec t σ
 have hA := fun σ => arePasses_spec ps σ
 by_cases he : (refCheck t).1 = 0
 ·have HE : Abs.Hid ((refCheck t).1 = 0) := he
  have heb : ((refCheck t).1 != 0) = false := by simpa using he
  have hlen : t.length ≤ 600 := by
   by_cases hl : 600 < t.length
   ·unfold refCheck at he; rw [if_pos hl] at he; simp at he
   ·omega
  have hpR : Abs.Hid (∀ r, (if passesB ps = false then r = ([], 0, 11) else if b < 0 then r = ([], 0, 6) else ∃ N l cs ar l' m, Right t N l cs ∧ ArOf l ar ∧ RtL N ar l' ∧ Pss N b l 0 ps l' m ∧ r = (wholeL l', m, 0)) → pOptR t ps b r) := fun r h => by
   unfold pOptR; rw [if_neg (by simp [HE.out])]; exact h
  clear he
  cases hp : passesB ps with
  | false =>
   rw [hp] at hA
   have HP : Abs.Hid (pOptR t ps b ([], 0, 11)) := hpR.out _ (by rw [if_pos hp])
   clear hpR hp
   refine acalls 38 [.tmp 6, .tmp 7, .tmp 8] Tryz.func29 rfl (by decide) rfl rfl (Nat.le_of_ble_eq_true rfl) ?_
   repeat' (first
 |with_reducible first|apply Xa|apply Xb|(refine Xc ?_;intro κ hκ)|(apply hκ.out;clear hκ κ)|apply Xd|apply Xe|apply Xf
 |((with_reducible first|refine Xl ?_ ?_|refine Xk ?_ ?_)<;> intro h hari<;> try exact Xp)
 |((with_reducible refine Xh ?_);first|(refine Xi (hL _) ?_;rintro _ _ ⟨idn,n1,c1,idi,n2,c2,rfl,hK1,hb1⟩;(have kno1:=hK1.nobj;clear hb1))|(refine Xi (hA _) ?_;rintro _ _ ⟨rfl,rfl⟩))
 |refine Xr ?_
 |exact True.intro
 |(apply hκ.out;clear hκ κ))
   exact ⟨_, rfl, _, rfl, HP.out, by exact Xs⟩
  | true =>
   rw [hp] at hA
   have hp8 : ps.length ≤ 8 := by
    unfold passesB at hp
    simp only [Bool.and_eq_true, decide_eq_true_eq] at hp
    exact hp.1
   by_cases hb0 : b < 0
   ·have hbb : decide (b < 0) = true := by simpa using hb0
    have HP : Abs.Hid (pOptR t ps b ([], 0, 6)) := hpR.out _ (by rw [if_neg (by simp [hp]), if_pos hb0])
    clear hpR hp
    refine acalls 38 [.tmp 6, .tmp 7, .tmp 8] Tryz.func29 rfl (by decide) rfl rfl (Nat.le_of_ble_eq_true rfl) ?_
    repeat' (first
 |with_reducible first|apply Xa|apply Xb|(refine Xc ?_;intro κ hκ)|(apply hκ.out;clear hκ κ)|apply Xd|apply Xe|apply Xf
 |((with_reducible first|refine Xl ?_ ?_|refine Xk ?_ ?_)<;> intro h hari<;> try exact Xp)
 |((with_reducible refine Xh ?_);first|(refine Xi (hL _) ?_;rintro _ _ ⟨idn,n1,c1,idi,n2,c2,rfl,hK1,hb1⟩;(have kno1:=hK1.nobj;clear hb1))|(refine Xi (hA _) ?_;rintro _ _ ⟨rfl,rfl⟩))
 |refine Xr ?_
 |exact True.intro
 |(apply hκ.out;clear hκ κ))
    exact ⟨_, rfl, _, rfl, HP.out, by exact Xs⟩
   ·have hbb : decide (b < 0) = false := by simpa using hb0
    have HP : Abs.Hid (∀ r, (∃ N l cs ar l' m, Right t N l cs ∧ ArOf l ar ∧ RtL N ar l' ∧ Pss N b l 0 ps l' m ∧ r = (wholeL l', m, 0)) → pOptR t ps b r) := fun r h => hpR.out _ (by rw [if_neg (by simp [hp]), if_neg hb0]; exact h)
    have HAR : Abs.Hid (∃ ar, ArOf (itemsL t) ar) := ar_ex HE.out
    clear hpR hp
    refine acalls 38 [.tmp 6, .tmp 7, .tmp 8] Tryz.func29 rfl (by decide) rfl rfl (Nat.le_of_ble_eq_true rfl) ?_
    repeat' (first
 |with_reducible first|apply Xa|apply Xb|(refine Xc ?_;intro κ hκ)|(apply hκ.out;clear hκ κ)|apply Xd|apply Xe|apply Xf
 |((with_reducible first|refine Xl ?_ ?_|refine Xk ?_ ?_)<;> intro h hari<;> try exact Xp)
 |((with_reducible refine Xh ?_);first|(refine Xi (hL _) ?_;rintro _ _ ⟨idn,n1,c1,idi,n2,c2,rfl,hK1,hb1⟩;(have kno1:=hK1.nobj;obtain ⟨N,l,hp,hBk,rfl,rfl,rfl,hva,hWI⟩:=hb1 HE.out;have hRt : Right t N l c2:=⟨HE.out,hlen,hp,hBk,hWI⟩;have hAr : ∃ ar,ArOf l ar:=(by rw [← hRt.items];exact HAR.out);obtain ⟨ar,hAr⟩:=hAr;have hOp:=fun σ => optimised_spec N ar l c2 idn idi ps b (by omega) hb hp8 hps (hRt.rt hAr) hBk.el σ;have HRt : Abs.Hid _:=hRt;have HAr : Abs.Hid _:=hAr;clear hp hb1 hva hWI hRt hAr))|(refine Xi (hA _) ?_;rintro _ _ ⟨rfl,rfl⟩)|(refine Xi (hOp _) ?_;rintro _ _ ⟨⟨l',id',c',m',rfl,hPs,hRl,hEl⟩,hK2⟩;(have kno2:=hK2.nobj;simp only [put_nobj,new_nobj] at kno2;have hTx:=fun σ => btext_spec N l' c' idn id' ((hRl.gl.bkm hEl).bk hRl.gl.len) hRl.wi σ;have HZ : Abs.Hid (pOptR t ps b (wholeL l',m',0)):=HP.out _ ⟨N,l,c2,ar,l',m',HRt.out,HAr.out,hRl,hPs,rfl⟩;clear hPs))|(refine Xi (hTx _) ?_;rintro _ _ ⟨rfl,hK3⟩;(have kno3:=hK3.nobj)))
 |refine Xr ?_
 |exact True.intro
 |(apply hκ.out;clear hκ κ))
    exact ⟨_, rfl, _, rfl, HZ.out, (((((hK1.new _).put (by omega) _).trans hK2).new _).put (by omega) _).trans hK3⟩
 ·have heb : ((refCheck t).1 != 0) = true := by simpa using he
  have HP : Abs.Hid (pOptR t ps b ([], 0, (refCheck t).1)) := by unfold pOptR; rw [if_pos he]; rfl
  clear he
  refine acalls 38 [.tmp 6, .tmp 7, .tmp 8] Tryz.func29 rfl (by decide) rfl rfl (Nat.le_of_ble_eq_true rfl) ?_
  repeat' (first
 |with_reducible first|apply Xa|apply Xb|(refine Xc ?_;intro κ hκ)|(apply hκ.out;clear hκ κ)|apply Xd|apply Xe|apply Xf
 |((with_reducible first|refine Xl ?_ ?_|refine Xk ?_ ?_)<;> intro h hari<;> try exact Xp)
 |((with_reducible refine Xh ?_);refine Xi (hL _) ?_;rintro _ _ ⟨idn,n1,c1,idi,n2,c2,rfl,hK1,hb1⟩;(have kno1:=hK1.nobj;clear hb1))
 |refine Xr ?_
 |exact True.intro
 |(apply hκ.out;clear hκ κ))
  exact ⟨_, rfl, _, rfl, HP.out, by exact Xs⟩
end Go.Proofs.YtmoeoppbmhfbpaaGreatDoorU
