import Derived.Test.YtmoeoppbmhfbpaaGreatDoorQOptJ
import Derived.KernelRfl
import Derived.Test.YtmoeoppbmhfbpaaGreatDoorQAgrB
import Derived.Test.YtmoeoppbmhfbpaaGreatDoorQFolB
import Derived.Test.YtmoeoppbmhfbpaaGreatDoorQTxtC
import Derived.Test.YtmoeoppbmhfbpaaGreatDoorQFacts
import Derived.Test.YtmoeoppbmhfbpaaGreatDoorQSpaE
/- The one answer of Optimise that is known, of the passes a and r. Pure. -/
namespace Go.Proofs.YtmoeoppbmhfbpaaGreatDoorQ
open Go.Abs
set_option linter.unusedSimpArgs false
set_option linter.unusedVariables false
set_option linter.unusedSectionVars false
def tAw : Tx := [112, 40, 65, 41, 58, 45, 101, 40, 65, 44, 66, 41, 44, 102, 40, 66, 41, 46, 112, 40, 88, 41, 58, 45, 101, 40, 88, 44, 89, 41, 44, 101, 40, 88, 44, 90, 41, 46, 63, 112, 46]
def xA0 : RItem := ⟨false, ⟨false, [112], [[65]]⟩, [⟨false, [101], [[65], [66]]⟩, ⟨false, [102], [[66]]⟩]⟩
def xA1 : RItem := ⟨false, ⟨false, [112], [[88]]⟩, [⟨false, [101], [[88], [89]]⟩, ⟨false, [101], [[88], [90]]⟩]⟩
def xA2 : RItem := ⟨true, ⟨false, [112], []⟩, []⟩
def yA1 : RItem := ⟨false, ⟨false, [112], [[88]]⟩, [⟨false, [101], [[88], [90]]⟩]⟩
theorem aw_check : (refCheck tAw).1 = 0 := by kernel_rfl
theorem aw_items : itemsL tAw = [xA0, xA1, xA2] := by kernel_rfl
theorem aw_text : wholeL [yA1, xA2] = [112, 40, 65, 41, 58, 45, 101, 40, 65, 44, 66, 41, 46, 63, 112, 46] := by kernel_rfl
theorem sp_unsafe {N : List Tx} {x : RItem} {k : Nat} (h : psafeB (woL x k) = false) : spE N x k = none := by
 unfold spE
 cases hw : withL sw0 (x.head.terms.map encT) (x.head.terms.map encT) with
 | none => rfl
 | some s0 => simp [spareE, h]
theorem idx_ne {N : List Tx} {p q : Tx} (hp : p ∈ N) (hq : q ∈ N) (h : p ≠ q) : N.idxOf p ≠ N.idxOf q := fun e => h (by
 have h1 := List.getElem_idxOf (List.idxOf_lt_length_of_mem hp)
 have h2 := List.getElem_idxOf (List.idxOf_lt_length_of_mem hq)
 rw [← h1, ← h2]
 congr 1)
theorem pimp_true {R : List Rul} {F : List Atm} {k : Nat} {h : Tup} {b : Bool} (A : List (Nat × Tup)) (hA : A.length ≤ 200) (hcl : ClD R (fun j t => (j, t) ∈ A)) (hF : ∀ a ∈ F, (a.p.toNat, tupA a) ∈ A) (hL : LstF R F k h) (hp : PImp R F k h b) : b = true := by
 obtain ⟨M, hn, hs, hp⟩ := hp
 have ht : tot M ≤ A.length := tot_le (e := fun x => x) hn fun j t hm => ⟨(j, t), hs j t hm _ hcl hF, rfl⟩
 rw [if_pos (by omega)] at hp
 exact hp.2.2 (hp.1 _ _ hL)
section
variable {N : List Tx} (hp : [112] ∈ N) (he : [101] ∈ N) (hf : [102] ∈ N)
theorem aw_sp01 (hne : N.idxOf [102] ≠ N.idxOf [101]) : spE N xA0 1 = none := by
 have e1 : encT [65] = (true, 0) := rfl
 have e2 : encT [66] = (true, 1) := rfl
 have hs : psafeB (woL xA0 1) = true := by kernel_rfl
 simp only [xA0] at hs
 unfold spE
 simp only [xA0, List.map_cons, List.map_nil, e1, withL, wStep, sw0, spareE, hs, if_true, List.eraseIdx, ltA, e2]
 generalize N.idxOf [101] = n at *
 generalize N.idxOf [102] = n' at *
 simp [ontoL, withL, wStep, hne]
theorem aw_sp10 : (spE N xA1 0).isSome = true := by
 have e1 : encT [88] = (true, 23) := rfl
 have e2 : encT [89] = (true, 24) := rfl
 have e3 : encT [90] = (true, 25) := rfl
 have hs : psafeB (woL xA1 0) = true := by kernel_rfl
 simp only [xA1] at hs
 unfold spE
 simp only [xA1, List.map_cons, List.map_nil, e1, withL, wStep, sw0, spareE, hs, if_true, List.eraseIdx, ltA, e2, e3]
 generalize N.idxOf [101] = n at *
 simp [ontoL, withL, wStep]
theorem lack_same {l l' : List RItem} (h : ∀ k, ruledN N l k = true → ruledN N l' k = true) : lackB N l' l = false := by
 unfold lackB
 rw [List.any_eq_false]
 intro k _
 cases h1 : ruledN N l k with
 | false => simp
 | true => simp [h k h1]
include hp he hf
theorem aw_step1 {o : Option (List RItem)} (h : Step N 97 [xA0, xA1, xA2] o) : o = some [xA0, yA1, xA2] := by
 have hne := idx_ne hf he (by decide)
 have k00 : okA N [xA0, xA1, xA2] 0 0 = false := by
  unfold okA
  simp only [List.getElem?_cons_zero, sp_unsafe (N := N) (x := xA0) (k := 0) (by kernel_rfl), Option.isSome_none, Bool.false_and]
 have k01 : okA N [xA0, xA1, xA2] 0 1 = false := by
  unfold okA
  simp only [List.getElem?_cons_zero, aw_sp01 hne, Option.isSome_none, Bool.false_and]
 have k10 : okA N [xA0, xA1, xA2] 1 0 = true := by
  show ((spE N xA1 0).isSome && behB N [xA0, xA1, xA2] [xA0, yA1, xA2]) = true
  rw [aw_sp10]
  unfold behB
  rw [show limB [xA0, yA1, xA2] = true by kernel_rfl, show (wrongM [xA0, yA1, xA2]).1 = 0 by kernel_rfl, lack_same (l := [xA0, xA1, xA2]) (l' := [xA0, yA1, xA2]) (fun k h => by
   unfold ruledN at h ⊢
   simpa [xA0, xA1, xA2, yA1] using h)]
  rfl
 rcases h with ⟨h, -⟩ | ⟨-, h⟩ | ⟨h, -⟩
 ·exact absurd h (by decide)
 ·rcases h with ⟨-, h⟩ | ⟨i, k, y, rfl, h1, h2, h3, h4, h5, h6⟩
  ·rw [h 1 xA1 (by decide) rfl 0 (by decide)] at k10; cases k10
  ·match i, h1 with
   | 0, h1 =>
    cases h1
    match k, h3 with
    | 0, _ => rw [k00] at h4; cases h4
    | 1, _ => rw [k01] at h4; cases h4
    | k + 2, h3 => simp [xA0] at h3; omega
   | 1, h1 =>
    cases h1
    match k with
    | 0 => rfl
    | k + 1 => rw [h6 0 (by omega)] at k10; cases k10
   | 2, h1 => cases h1; cases h2
   | i + 3, h1 => simp at h1
 ·exact absurd h (by decide)
theorem aw_step2 {o : Option (List RItem)} (h : Step N 97 [xA0, yA1, xA2] o) : o = none := by
 have hne := idx_ne hf he (by decide)
 have k00 : okA N [xA0, yA1, xA2] 0 0 = false := by
  unfold okA
  simp only [List.getElem?_cons_zero, sp_unsafe (N := N) (x := xA0) (k := 0) (by kernel_rfl), Option.isSome_none, Bool.false_and]
 have k01 : okA N [xA0, yA1, xA2] 0 1 = false := by
  unfold okA
  simp only [List.getElem?_cons_zero, aw_sp01 hne, Option.isSome_none, Bool.false_and]
 have k10 : okA N [xA0, yA1, xA2] 1 0 = false := by
  unfold okA
  simp only [List.getElem?_cons_succ, List.getElem?_cons_zero, sp_unsafe (N := N) (x := yA1) (k := 0) (by kernel_rfl), Option.isSome_none, Bool.false_and]
 rcases h with ⟨h, -⟩ | ⟨-, h⟩ | ⟨h, -⟩
 ·exact absurd h (by decide)
 ·rcases h with ⟨h, -⟩ | ⟨i, k, y, rfl, h1, h2, h3, h4, h5, h6⟩
  ·exact h
  ·match i, h1 with
   | 0, h1 =>
    cases h1
    match k, h3 with
    | 0, _ => rw [k00] at h4; cases h4
    | 1, _ => rw [k01] at h4; cases h4
    | k + 2, h3 => simp [xA0] at h3; omega
   | 1, h1 =>
    cases h1
    match k, h3 with
    | 0, _ => rw [k10] at h4; cases h4
    | k + 1, h3 => simp [yA1] at h3
   | 2, h1 => cases h1; cases h2
   | i + 3, h1 => simp at h1
 ·exact absurd h (by decide)
theorem aw_imp {b : Bool} (h : impP N [xA0, yA1, xA2] 0 xA0 b) : b = true := by
 have hep := idx_ne he hp (by decide)
 have hfe := idx_ne hf he (by decide)
 have hfp := idx_ne hf hp (by decide)
 have e65 : encT [65] = (true, 0) := rfl
 have e66 : encT [66] = (true, 1) := rfl
 have e88 : encT [88] = (true, 23) := rfl
 have e90 : encT [90] = (true, 25) := rfl
 unfold impP at h
 have ho : oth [xA0, yA1, xA2] 0 [xA0, yA1, xA2].length = [yA1] := rfl
 rw [ho] at h
 have hR : ([yA1].map (afP N)) = [⟨⟨(N.idxOf [112] : Nat), [(true, 23)]⟩, [⟨false, ⟨(N.idxOf [101] : Nat), [(true, 23), (true, 25)]⟩⟩]⟩] := rfl
 have hF : fctP N xA0 = [⟨(N.idxOf [101] : Nat), [(false, 1000), (false, 1001)]⟩, ⟨(N.idxOf [102] : Nat), [(false, 1001)]⟩] := rfl
 have hH : tupA (frzA (afP N xA0).head) = [1000, -1, -1] := rfl
 have hk : (afP N xA0).head.p.toNat = N.idxOf [112] := rfl
 rw [hR, hF, hH, hk] at h
 generalize N.idxOf [112] = ip at *
 generalize N.idxOf [101] = ie at *
 generalize N.idxOf [102] = i2 at *
 refine pimp_true [(ie, [1000, 1001, -1]), (i2, [1001, -1, -1]), (ip, [1000, -1, -1])] (by simp) ?_ ?_ ?_ h
 ·intro r hr ν hb
  simp only [List.mem_singleton] at hr
  subst hr
  have := hb _ (List.mem_singleton.2 rfl)
  simp only [Int.toNat_natCast, esub, tupOf, valN, List.map_cons, List.map_nil, if_true] at this ⊢
  simp at this ⊢
  rcases this with h | h | h
  ·exact .inr h.1
  ·exact absurd h.1.symm hfe
  ·exact absurd h.1 hep
 ·intro a ha
  simp only [List.mem_cons, List.not_mem_nil, or_false] at ha
  rcases ha with rfl | rfl
  ·simp [tupA, tupOf]
  ·simp [tupA, tupOf]
 ·intro D hD hF2
  have h1 := hF2 _ (List.mem_cons_self ..)
  have := hD _ (List.mem_singleton.2 rfl) (fun v => if v = 23 then 1000 else 1001) (fun l hl => by
   simp only [List.mem_singleton] at hl
   subst hl
   simpa [esub, tupOf, valN, tupA] using h1)
  simpa [esub, tupOf, valN] using this
theorem aw_beh3 : behB N [xA0, yA1, xA2] [yA1, xA2] = true := by
 unfold behB
 rw [show limB [yA1, xA2] = true by kernel_rfl, show (wrongM [yA1, xA2]).1 = 0 by kernel_rfl, lack_same (l := [xA0, yA1, xA2]) (l' := [yA1, xA2]) (fun k h => by
  unfold ruledN at h ⊢
  simpa [xA0, xA2, yA1] using h)]
 rfl
theorem aw_step3 {o : Option (List RItem)} (h : Step N 114 [xA0, yA1, xA2] o) : o = some [yA1, xA2] := by
 have hb : behB N [xA0, yA1, xA2] (rpl 0 [] [xA0, yA1, xA2]) = true := aw_beh3 hp he hf
 have hno : ¬ impP N [xA0, yA1, xA2] 0 xA0 false := fun h => by have := aw_imp hp he hf h; cases this
 rcases h with ⟨h, -⟩ | ⟨h, -⟩ | ⟨-, h⟩
 ·exact absurd h (by decide)
 ·exact absurd h (by decide)
 ·rcases h with ⟨-, h⟩ | ⟨i, y, rfl, h1, h2, h3, h4, h5⟩
  ·exact absurd (h 0 xA0 (by decide) rfl rfl hb) hno
  ·match i with
   | 0 => rfl
   | i + 1 => exact absurd (h5 0 xA0 (by omega) rfl rfl hb) hno
theorem aw_step4 {o : Option (List RItem)} (h : Step N 114 [yA1, xA2] o) : o = none := by
 have hb : behB N [yA1, xA2] [xA2] = false := by
  unfold behB
  have : lackB N [xA2] [yA1, xA2] = true := by
   unfold lackB
   rw [List.any_eq_true]
   exact ⟨N.idxOf [112], by simpa using List.idxOf_lt_length_of_mem hp, by simp [ruledN, namedN, xA2, yA1]⟩
  rw [this]; simp
 rcases h with ⟨h, -⟩ | ⟨h, -⟩ | ⟨-, h⟩
 ·exact absurd h (by decide)
 ·exact absurd h (by decide)
 ·rcases h with ⟨h, -⟩ | ⟨i, y, rfl, h1, h2, h3, h4, h5⟩
  ·exact h
  ·match i, h1, h3 with
   | 0, h1, h3 =>
    have : behB N [yA1, xA2] [xA2] = true := h3
    rw [hb] at this; cases this
   | 1, h1, _ => cases h1; cases h2
   | i + 2, h1, _ => simp at h1
theorem aw_runs {l' : List RItem} {m : Int} (h : Pss N 9 [xA0, xA1, xA2] 0 [97, 114] l' m) : l' = [yA1, xA2] ∧ m = 2 := by
 have hA : ∀ {l' : List RItem} {m : Int}, Chg N 97 9 [xA0, xA1, xA2] 0 l' m → (l' = [xA0, xA1, xA2] ∧ m = 0) ∨ (l' = [xA0, yA1, xA2] ∧ m = 1) := fun h => by
  induction h with
  | refl => exact .inl ⟨rfl, rfl⟩
  | snoc _ _ hs ih =>
   rcases ih with ⟨rfl, rfl⟩ | ⟨rfl, rfl⟩
   ·have := aw_step1 hp he hf hs
    cases this
    exact .inr ⟨rfl, rfl⟩
   ·have := aw_step2 hp he hf hs
    cases this
 have hB : ∀ {l' : List RItem} {m : Int}, Chg N 114 9 [xA0, yA1, xA2] 1 l' m → (l' = [xA0, yA1, xA2] ∧ m = 1) ∨ (l' = [yA1, xA2] ∧ m = 2) := fun h => by
  induction h with
  | refl => exact .inl ⟨rfl, rfl⟩
  | snoc _ _ hs ih =>
   rcases ih with ⟨rfl, rfl⟩ | ⟨rfl, rfl⟩
   ·have := aw_step3 hp he hf hs
    cases this
    exact .inr ⟨rfl, rfl⟩
   ·have := aw_step4 hp he hf hs
    cases this
 have key : ∀ {ps : Tx} {l' : List RItem} {m : Int}, Pss N 9 [xA0, xA1, xA2] 0 ps l' m → (ps = [] → l' = [xA0, xA1, xA2] ∧ m = 0) ∧ (ps = [97] → l' = [xA0, yA1, xA2] ∧ m = 1) ∧ (ps = [97, 114] → l' = [yA1, xA2] ∧ m = 2) := fun h => by
  induction h with
  | nil => exact ⟨fun _ => ⟨rfl, rfl⟩, (fun e => by cases e), (fun e => by cases e)⟩
  | @snoc ps c l1 l2 m1 m2 _ hP ih =>
   refine ⟨(fun e => by simp at e), fun e => ?_, fun e => ?_⟩
   ·have e' : ps = [] ∧ c = 97 := by
     cases ps with
     | nil => simpa using e
     | cons a r => simp at e
    obtain ⟨rfl, rfl⟩ := e'
    obtain ⟨rfl, rfl⟩ := ih.1 rfl
    rcases hA hP.1 with ⟨rfl, rfl⟩ | h
    ·rcases hP.2 with h | h
     ·exact absurd h (by decide)
     ·have := aw_step1 hp he hf h; cases this
    ·exact h
   ·have e' : ps = [97] ∧ c = 114 := by
     match ps, e with
     | [], e => simp at e
     | [a], e => simpa using e
     | a :: b :: r, e => simp at e
    obtain ⟨rfl, rfl⟩ := e'
    obtain ⟨rfl, rfl⟩ := ih.2.1 rfl
    rcases hB hP.1 with ⟨rfl, rfl⟩ | h
    ·rcases hP.2 with h | h
     ·exact absurd h (by decide)
     ·have := aw_step3 hp he hf h; cases this
    ·exact h
 exact (key h).2.2 rfl
end
theorem awake_known {r : Tx × Int × Int} (h : pOptR tAw [97, 114] 9 r) : r = ([112, 40, 65, 41, 58, 45, 101, 40, 65, 44, 66, 41, 46, 63, 112, 46], 2, 0) := by
 unfold pOptR at h
 rw [if_neg (by simp [aw_check]), if_neg (by decide), if_neg (by decide)] at h
 obtain ⟨N, l, cs, ar, l', m, hR, -, -, hP, rfl⟩ := h
 have hl := hR.items
 rw [aw_items] at hl
 subst hl
 have hm := EL_PI_mem hR.bk.el xA0 (by simp)
 obtain ⟨rfl, rfl⟩ := aw_runs (N := N) hm.1 (hm.2 ⟨false, [101], [[65], [66]]⟩ (by simp [xA0])) (hm.2 ⟨false, [102], [[66]]⟩ (by simp [xA0])) hP
 rw [aw_text]
/- Plain texts, walked: predicates, the head, a pick. -/
set_option maxRecDepth 100000
def outB (t : Tx) : Bool := decide (t.head? = some 63)
set_option maxHeartbeats 4000000 in
theorem koutput_spec (t : Tx) (σ : St) : ACalls Tryz.prog 35 [str t] σ fun r σ' => r = sc (.bool (outB t)) ∧ σ' = σ := by
 cases t with
 | nil =>
  have he : (([] : Tx) != []) = false := rfl
  refine acalls 10 [.tmp 2] Tryz.func35 rfl (by decide) rfl rfl (Nat.le_of_ble_eq_true rfl) ?_
  repeat' (first
 |with_reducible first|apply Xa|apply Xb|(refine Xc ?_;intro κ hκ)|(apply hκ.out;clear hκ κ)|apply Xd|apply Xe|apply Xf
 |((with_reducible first|refine Xl ?_ ?_|refine Xk ?_ ?_)<;> intro h hari<;> try exact Xp)
 |refine Xr ?_
 |exact True.intro
 |(apply hκ.out;clear hκ κ))
  exact ⟨_, rfl, rfl⟩
 | cons c r =>
  have he : ((c :: r : Tx) != []) = true := rfl
  have hee : ((c :: r : Tx) == []) = false := rfl
  have hg : (c :: r : Tx)[0]? = some c := rfl
  have HO : Abs.Hid (outB (c :: r) = ((c.toNat : Int) == 63)) := by
   rw [Abs.Hid, show (63 : Int) = ((63 : UInt8).toNat : Int) from rfl, byte_is, outB]; simp
  generalize hb : ((c.toNat : Int) == 63) = b at HO
  cases b with
  | true =>
   refine acalls 10 [.tmp 2] Tryz.func35 rfl (by decide) rfl rfl (Nat.le_of_ble_eq_true rfl) ?_
   repeat' (first
 |with_reducible first|apply Xa|apply Xb|(refine Xc ?_;intro κ hκ)|(apply hκ.out;clear hκ κ)|apply Xd|apply Xe|apply Xf
 |((with_reducible first|refine Xl ?_ ?_|refine Xk ?_ ?_)<;> intro h hari<;> try exact Xp)
 |refine Xr ?_
 |exact True.intro
 |(apply hκ.out;clear hκ κ))
   first | exact ⟨_, rfl, by rw [HO.out]⟩ | exact ⟨_, rfl, by rw [HO.out], rfl⟩
  | false =>
   refine acalls 10 [.tmp 2] Tryz.func35 rfl (by decide) rfl rfl (Nat.le_of_ble_eq_true rfl) ?_
   repeat' (first
 |with_reducible first|apply Xa|apply Xb|(refine Xc ?_;intro κ hκ)|(apply hκ.out;clear hκ κ)|apply Xd|apply Xe|apply Xf
 |((with_reducible first|refine Xl ?_ ?_|refine Xk ?_ ?_)<;> intro h hari<;> try exact Xp)
 |refine Xr ?_
 |exact True.intro
 |(apply hκ.out;clear hκ κ))
   first | exact ⟨_, rfl, by rw [HO.out]⟩ | exact ⟨_, rfl, by rw [HO.out], rfl⟩
theorem ksmall_spec (c : Int) (σ : St) : ACalls Tryz.prog 51 [sc (.int .u8 c)] σ fun x σ' => x = sc (.bool (smallB c)) ∧ σ' = σ := by
 refine acalls 9 [.tmp 2] Tryz.func51 rfl (by decide) rfl rfl (Nat.le_of_ble_eq_true rfl) ?_
 repeat' (first
 |with_reducible first|apply Xa|apply Xb|(refine Xc ?_;intro κ hκ)|(apply hκ.out;clear hκ κ)|apply Xd|apply Xe|apply Xf
 |((with_reducible first|refine Xl ?_ ?_|refine Xk ?_ ?_)<;> intro h hari<;> try exact Xp)
 |refine Xr ?_
 |exact True.intro
 |(apply hκ.out;clear hκ κ))
 all_goals exact ⟨_, rfl, by simp [smallB, *]⟩
/-! ### The predicates of a piece -/
def prF (x : List Tx × Tx) (c : UInt8) : List Tx × Tx := if smallB c.toNat = true then (x.1, x.2 ++ [c]) else (if x.2 = [] then x.1 else x.1 ++ [x.2], [])
def prsL (t : Tx) : List Tx := (t.foldl prF ([], [])).1
theorem prF_small {x : List Tx × Tx} {c : UInt8} (h : smallB c.toNat = true) : prF x c = (x.1, x.2 ++ [c]) := if_pos h
theorem prF_other {x : List Tx × Tx} {c : UInt8} (h : smallB c.toNat = false) : prF x c = (if x.2 = [] then x.1 else x.1 ++ [x.2], []) := if_neg (by simp [h])
theorem pr_name : ∀ (t : Tx) (d : List Tx) (u : Tx), (∀ b ∈ t, smallB b.toNat = true) → t.foldl prF (d, u) = (d, u ++ t)
 | [], d, u, _ => by simp
 | c :: t, d, u, h => by
  rw [List.foldl_cons, prF_small (h c (by simp)), pr_name t _ _ fun b hb => h b (by simp [hb])]
  simp
theorem pr_skip : ∀ (t : Tx) (d : List Tx), (∀ b ∈ t, smallB b.toNat = false) → t.foldl prF (d, []) = (d, [])
 | [], d, _ => rfl
 | c :: t, d, h => by
  rw [List.foldl_cons, prF_other (h c (by simp)), if_pos rfl, pr_skip t _ fun b hb => h b (by simp [hb])]
theorem term_small {t : Tx} (h : WTerm t) {b : UInt8} (hb : b ∈ t) : smallB b.toNat = false := by
 rcases h.2 b hb with h | h <;> simp only [smallB, largeB, digitB, Bool.and_eq_true, decide_eq_true_eq, Bool.and_eq_false_iff, decide_eq_false_iff_not] at h ⊢ <;> omega
theorem pr_lit {a : RAtom} (h : WAtom a) (d : List Tx) : (uLit a).foldl prF (d, []) = (d ++ [a.pred], []) := by
 have e : uLit a = (if a.nt = true then [33] else []) ++ (a.pred ++ (40 :: (uList a.terms ++ [41]))) := by simp [uLit, uAtom]
 have h1 : ∀ b ∈ (if a.nt = true then [33] else [] : Tx), smallB b.toNat = false := fun b hb => by
  split at hb
  ·simp at hb; subst hb; decide
  ·cases hb
 have h2 : ∀ b ∈ uList a.terms ++ [41], smallB b.toNat = false := fun b hb => by
  rcases List.mem_append.1 hb with hb | hb
  ·rcases uList_byte hb with rfl | ⟨t, ht, hb⟩
   ·decide
   ·exact term_small (h.2.2.2 t ht) hb
  ·simp at hb; subst hb; decide
 rw [e, List.foldl_append, pr_skip (if a.nt = true then [33] else []) _ h1, List.foldl_append, pr_name a.pred _ _ h.1.2, List.nil_append, List.foldl_cons, prF_other (by decide), if_neg h.1.1, pr_skip _ _ h2]
theorem pr_more : ∀ (ls : List RAtom) (d : List Tx), (∀ a ∈ ls, WAtom a) → (uMore (ls.map uLit)).foldl prF (d, []) = (d ++ ls.map (·.pred), [])
 | [], d, _ => by simp [uMore]
 | a :: ls, d, h => by
  have e : uMore ((a :: ls).map uLit) = 44 :: (uLit a ++ uMore (ls.map uLit)) := by simp [uMore]
  rw [e, List.foldl_cons, prF_other (by decide), if_pos rfl, List.foldl_append, pr_lit (h a (by simp)), pr_more ls _ fun b hb => h b (by simp [hb])]
  simp
theorem prs_item {x : RItem} (h : WItem x) : prsL (uItem x ++ [46]) = x.head.pred :: x.body.map (·.pred) := by
 unfold prsL
 cases ho : x.out with
 | true =>
  obtain ⟨-, -, h3⟩ := h.2.1 ho
  rw [uItem, if_pos ho, List.cons_append, List.foldl_cons, prF_other (by decide), if_pos rfl, List.foldl_append, pr_name _ _ _ h.1.2, h3]
  show (prF ([], [] ++ x.head.pred) 46).1 = _
  rw [prF_other (by decide), if_neg (by simpa using h.1.1)]
  simp
 | false =>
  obtain ⟨h1, h2, h3, h4⟩ := h.2.2 ho
  have e0 : uAtom x.head = uLit x.head := by simp [uLit, h2]
  rw [uItem, if_neg (by simp [ho]), uRule, e0, List.append_assoc, List.foldl_append, pr_lit h1]
  split
  ·rename_i hb
   rw [hb]
   show (prF ([] ++ [x.head.pred], []) 46).1 = _
   rw [prF_other (by decide), if_pos rfl]
   simp
  ·rename_i hb
   obtain ⟨l, ls, e⟩ := List.exists_cons_of_ne_nil hb
   rw [e, List.map_cons, uList]
   rw [e] at h4
   have e2 : (58 :: 45 :: (uLit l ++ uMore (ls.map uLit)) ++ [46] : Tx) = 58 :: 45 :: (uLit l ++ (uMore (ls.map uLit) ++ [46])) := by simp
   rw [e2, List.foldl_cons, prF_other (by decide), if_pos rfl, List.foldl_cons, prF_other (by decide), if_pos rfl, List.foldl_append, pr_lit (h4 l (by simp)), List.foldl_append, pr_more _ _ fun a ha => h4 a (by simp [ha])]
   show (prF _ 46).1 = _
   rw [prF_other (by decide), if_pos rfl]
   simp
set_option maxHeartbeats 8000000 in
theorem kpredicates_spec (t : Tx) (ht : t.length ≤ 100000) (σ : St) : ACalls Tryz.prog 23 [str t] σ fun r σ' => (∃ id, r = sl id (prsL t).length ((prsL t).map str)) ∧ Keep σ σ' := by
 have hSm := fun c σ => ksmall_spec c σ
 refine acalls 30 [.tmp 2] Tryz.func23 rfl (by decide) rfl rfl (Nat.le_of_ble_eq_true rfl) ?_
 repeat' (first
 |with_reducible first|apply Xa|apply Xb|(refine Xc ?_;intro κ hκ)|(apply hκ.out;clear hκ κ)|apply Xd|apply Xe|apply Xf
 |((with_reducible first|refine Xl ?_ ?_|refine Xk ?_ ?_)<;> intro h hari<;> try exact Xp)
 |((with_reducible refine aapp_go ?_);refine Xt ?_;intro idn σn hOn hKn eobj enobj ever entop)
 |((with_reducible refine aappn_go ?_);refine Xu ?_)
 |refine Xr ?_
 |exact True.intro
 |(apply hκ.out;clear hκ κ))
 refine awp_loop (fun m s σ' => ∃ (i f id : Nat) (d : List Tx), m = t.length - i ∧ i ≤ t.length ∧ f ≤ i ∧ s 0 = str t ∧ s 3 = sl id d.length (d.map str) ∧ s 4 = sc (.int .i64 f) ∧ s 5 = sc (.int .i64 i) ∧ Keep σ σ' ∧ Own σ σ' id d.length ∧ d.length ≤ i ∧ Abs.Hid ((t.take i).foldl prF ([], []) = (d, (t.drop f).take (i - f)))) t.length
  ⟨0, 0, 1, [], by omega, by omega, by omega, rfl, rfl, rfl, rfl, Keep.refl _, Own.nil _ _, by simp, by simp [Abs.Hid]⟩ ?_
 rintro m s σ' ⟨i, f, id, d, rfl, hi, hf, h0, h3, h4, h5, hK, hO, hdl, hF⟩
 by_cases hlt : i < t.length
 ·have hget := List.getElem?_eq_getElem hlt
  generalize t[i] = c at hget
  have hSm := hSm c.toNat
  cases hc : smallB c.toNat with
  | true =>
   rw [hc] at hSm
   have HF : Abs.Hid ((t.take (i + 1)).foldl prF ([], []) = (d, (t.drop f).take (i + 1 - f))) := by
    rw [Abs.Hid, fold_take hget, hF.out, cur_step hf hget, prF_small hc]
   clear hF hc
   repeat' (first
 |with_reducible first|apply Xa|apply Xb|(refine Xc ?_;intro κ hκ)|(apply hκ.out;clear hκ κ)|apply Xd|apply Xe|apply Xf
 |((with_reducible first|refine Xl ?_ ?_|refine Xk ?_ ?_)<;> intro h hari<;> try exact Xp)
 |((with_reducible refine aapp_go ?_);refine Xt ?_;intro idn σn hOn hKn eobj enobj ever entop)
 |((with_reducible refine aappn_go ?_);refine Xu ?_)
 |((with_reducible refine Xh ?_);refine Xi (hSm _) ?_;rintro _ _ ⟨rfl,rfl⟩)
 |refine Xr ?_
 |exact True.intro
 |(apply hκ.out;clear hκ κ))
   refine ⟨t.length - (i + 1), by omega, i + 1, f, id, d, ?_⟩
   ((repeat' with_reducible refine And.intro ?_ ?_)<;> first|exact Xq|exact (HF)|exact Xs)
  | false =>
   rw [hc] at hSm
   by_cases hfi : f < i
   ·have HF : Abs.Hid ((t.take (i + 1)).foldl prF ([], []) = (d ++ [(t.drop f).take (i - f)], (t.drop (i + 1)).take (i + 1 - (i + 1)))) := by
     rw [Abs.Hid, fold_take hget, hF.out, cur_nil, prF_other hc, if_neg]
     intro e
     have := congrArg List.length e
     simp at this
     omega
    have hfb : decide ((f : Int) < (i : Int)) = true := by simp; omega
    clear hF hc
    repeat' (first
 |with_reducible first|apply Xa|apply Xb|(refine Xc ?_;intro κ hκ)|(apply hκ.out;clear hκ κ)|apply Xd|apply Xe|apply Xf
 |((with_reducible first|refine Xl ?_ ?_|refine Xk ?_ ?_)<;> intro h hari<;> try exact Xp)
 |((with_reducible refine aapp_go ?_);refine Xt ?_;intro idn σn hOn hKn eobj enobj ever entop)
 |((with_reducible refine aappn_go ?_);refine Xu ?_)
 |((with_reducible refine Xh ?_);refine Xi (hSm _) ?_;rintro _ _ ⟨rfl,rfl⟩)
 |refine Xr ?_
 |exact True.intro
 |(apply hκ.out;clear hκ κ))
    refine ⟨t.length - (i + 1), by omega, i + 1, i + 1, idn, d ++ [(t.drop f).take (i - f)], ?_⟩
    ((repeat' with_reducible refine And.intro ?_ ?_)<;> first|exact Xq|exact (HF)|exact ((by simpa using hOn))|exact Xs)
   ·have hfe : f = i := by omega
    have HF : Abs.Hid ((t.take (i + 1)).foldl prF ([], []) = (d, (t.drop (i + 1)).take (i + 1 - (i + 1)))) := by
     rw [Abs.Hid, fold_take hget, hF.out, cur_nil, prF_other hc, if_pos (by rw [hfe]; exact cur_nil t i)]
    have hfb : decide ((f : Int) < (i : Int)) = false := by simp; omega
    clear hF hc hfe
    repeat' (first
 |with_reducible first|apply Xa|apply Xb|(refine Xc ?_;intro κ hκ)|(apply hκ.out;clear hκ κ)|apply Xd|apply Xe|apply Xf
 |((with_reducible first|refine Xl ?_ ?_|refine Xk ?_ ?_)<;> intro h hari<;> try exact Xp)
 |((with_reducible refine aapp_go ?_);refine Xt ?_;intro idn σn hOn hKn eobj enobj ever entop)
 |((with_reducible refine aappn_go ?_);refine Xu ?_)
 |((with_reducible refine Xh ?_);refine Xi (hSm _) ?_;rintro _ _ ⟨rfl,rfl⟩)
 |refine Xr ?_
 |exact True.intro
 |(apply hκ.out;clear hκ κ))
    refine ⟨t.length - (i + 1), by omega, i + 1, i + 1, id, d, ?_⟩
    ((repeat' with_reducible refine And.intro ?_ ?_)<;> first|exact Xq|exact (HF)|exact Xs)
 ·have hil : i = t.length := by omega
  have HP : Abs.Hid (prsL t = d) := by
   have := hF.out
   rw [hil, List.take_length] at this
   rw [Abs.Hid, prsL, this]
  clear hF hSm
  repeat' (first
 |with_reducible first|apply Xa|apply Xb|(refine Xc ?_;intro κ hκ)|(apply hκ.out;clear hκ κ)|apply Xd|apply Xe|apply Xf
 |((with_reducible first|refine Xl ?_ ?_|refine Xk ?_ ?_)<;> intro h hari<;> try exact Xp)
 |((with_reducible refine aapp_go ?_);refine Xt ?_;intro idn σn hOn hKn eobj enobj ever entop)
 |((with_reducible refine aappn_go ?_);refine Xu ?_)
 |refine Xr ?_
 |exact True.intro
 |(apply hκ.out;clear hκ κ))
  first | exact ⟨_, rfl, ⟨id, by rw [HP.out]⟩, hK⟩ | exact ⟨_, rfl, id, by rw [HP.out]⟩
def hdL (t : Tx) : Tx := (prsL t).head?.getD []
set_option maxHeartbeats 4000000 in
theorem khead_spec (t : Tx) (ht : t.length ≤ 100000) (hl : (prsL t).length ≤ 100000) (σ : St) : ACalls Tryz.prog 38 [str t] σ fun r σ' => r = str (hdL t) ∧ Keep σ σ' := by
 have hP := fun σ => kpredicates_spec t ht σ
 unfold hdL
 generalize prsL t = ps at hP hl
 cases ps with
 | nil =>
  have hz : ((([] : List Tx).length : Int) == 0) = true := rfl
  refine acalls 12 [.tmp 2] Tryz.func38 rfl (by decide) rfl rfl (Nat.le_of_ble_eq_true rfl) ?_
  repeat' (first
 |with_reducible first|apply Xa|apply Xb|(refine Xc ?_;intro κ hκ)|(apply hκ.out;clear hκ κ)|apply Xd|apply Xe|apply Xf
 |((with_reducible first|refine Xl ?_ ?_|refine Xk ?_ ?_)<;> intro h hari<;> try exact Xp)
 |((with_reducible refine Xh ?_);refine Xi (hP _) ?_;rintro _ _ ⟨⟨id1,rfl⟩,hK1⟩)
 |refine Xr ?_
 |exact True.intro
 |(apply hκ.out;clear hκ κ))
  first | exact ⟨_, rfl, rfl, by exact Xs⟩ | exact ⟨_, rfl, rfl⟩
 | cons p ps =>
  have hz : (((p :: ps).length : Int) == 0) = false := by simp; omega
  have hz2 : (((ps.length + 1 : Nat) : Int) == 0) = false := by simp; omega
  refine acalls 12 [.tmp 2] Tryz.func38 rfl (by decide) rfl rfl (Nat.le_of_ble_eq_true rfl) ?_
  repeat' (first
 |with_reducible first|apply Xa|apply Xb|(refine Xc ?_;intro κ hκ)|(apply hκ.out;clear hκ κ)|apply Xd|apply Xe|apply Xf
 |((with_reducible first|refine Xl ?_ ?_|refine Xk ?_ ?_)<;> intro h hari<;> try exact Xp)
 |((with_reducible refine Xh ?_);refine Xi (hP _) ?_;rintro _ _ ⟨⟨id1,rfl⟩,hK1⟩)
 |refine Xr ?_
 |exact True.intro
 |(apply hκ.out;clear hκ κ))
  first | exact ⟨_, rfl, rfl, by exact Xs⟩ | exact ⟨_, rfl, rfl⟩
/- Plain texts, walked: what is wanted. -/
/- Plain texts: a piece with its variables named in order. -/
/- Plain texts, walked: renames, renamed. -/
/- What the pass s leaves. Pure. -/
/-! ### Fewer items, or fewer literals: still right -/
theorem odd_none {l : List RItem} {ar : Tx → Nat} (h : ArOf l ar) (i : Nat) : oddP l i = false := by
 unfold oddP
 cases hx : l[i]? with
 | none => rfl
 | some x =>
  simp only
  rw [List.any_eq_false]
  intro j _
  unfold oddAt
  cases ha : (atomsL x)[j]? with
  | none => simp
  | some a =>
   simp only [Bool.not_eq_true]
   rw [List.any_eq_false]
   intro b hb
   have hxm := List.mem_of_getElem? hx
   have h1 := h x hxm a (List.mem_of_getElem? ha)
   have h2 : b.terms.length = ar b.pred := by
    rcases List.mem_append.1 hb with hb | hb
    ·obtain ⟨y, hy, hby⟩ := List.mem_flatMap.1 hb
     exact h y (List.mem_of_mem_take hy) b hby
    ·exact h x hxm b (List.mem_of_mem_take hb)
   unfold clash
   simp only [Bool.and_eq_true, beq_iff_eq, decide_eq_true_eq, not_and, ne_eq, Decidable.not_not]
   intro e
   rw [h1, h2, e]
/-! ### What is wanted -/
theorem uItems_filter (f : RItem → Bool) : ∀ l : List RItem, (uItems (l.filter f)).length ≤ (uItems l).length
 | [] => Nat.le_refl _
 | x :: l => by
  have ih := uItems_filter f l
  have e : ∀ l : List RItem, uItems (x :: l) = (uItem x ++ [46]) ++ uItems l := fun l => by simp [uItems]
  cases hf : f x with
  | true =>
   rw [List.filter_cons_of_pos hf]
   simp only [e, List.length_append]
   omega
  | false =>
   rw [List.filter_cons_of_neg (by simp [hf])]
   simp only [e, List.length_append]
   omega
end Go.Proofs.YtmoeoppbmhfbpaaGreatDoorQ
