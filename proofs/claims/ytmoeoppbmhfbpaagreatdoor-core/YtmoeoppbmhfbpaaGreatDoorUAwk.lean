import Derived.Test.YtmoeoppbmhfbpaaGreatDoorUOptJ
import Derived.KernelRfl
import Derived.Test.YtmoeoppbmhfbpaaGreatDoorUTxtB
import Derived.Test.YtmoeoppbmhfbpaaGreatDoorUFolB
import Derived.Test.YtmoeoppbmhfbpaaGreatDoorUFacts
import Derived.Test.YtmoeoppbmhfbpaaGreatDoorUSpaF
import Derived.Test.YtmoeoppbmhfbpaaGreatDoorUProgR
/- The one answer of Optimise that is known, of the passes a and r. Pure. -/
namespace Go.Proofs.YtmoeoppbmhfbpaaGreatDoorU
open Go.Abs
set_option linter.unusedSimpArgs false
set_option linter.unusedVariables false
set_option linter.unusedSectionVars false
def tAw : Tx := [112, 40, 65, 41, 58, 45, 101, 40, 65, 44, 66, 41, 44, 102, 40, 66, 41, 46, 112, 40, 88, 41, 58, 45, 101, 40, 88, 44, 89, 41, 44, 101, 40, 88, 44, 90, 41, 46, 63, 112, 46]
def xA0 : RItem := ⟨false, ⟨false, [112], [[65]]⟩, [⟨false, [101], [[65], [66]]⟩, ⟨false, [102], [[66]]⟩]⟩
def xA1 : RItem := ⟨false, ⟨false, [112], [[88]]⟩, [⟨false, [101], [[88], [89]]⟩, ⟨false, [101], [[88], [90]]⟩]⟩
def xA2 : RItem := ⟨true, ⟨false, [112], []⟩, []⟩
def yA1 : RItem := ⟨false, ⟨false, [112], [[88]]⟩, [⟨false, [101], [[88], [90]]⟩]⟩
theorem aw_check : (refCheck tAw).1 = 0 := by kernel_rfl
theorem aw_items : itemsL tAw = [xA0, xA1, xA2] := by kernel_rfl
theorem aw_text : wholeL [yA1, xA2] = [112, 40, 65, 41, 58, 45, 101, 40, 65, 44, 66, 41, 46, 63, 112, 46] := by kernel_rfl
theorem sp_unsafe {N : List Tx} {x : RItem} {k : Nat} (h : psafeB (woL x k) = false) : spE N x k = none := by
 unfold spE
 cases hw : withL sw0 (x.head.terms.map encT) (x.head.terms.map encT) with
 | none => rfl
 | some s0 => simp [spareE, h]
theorem idx_ne {N : List Tx} {p q : Tx} (hp : p ∈ N) (hq : q ∈ N) (h : p ≠ q) : N.idxOf p ≠ N.idxOf q := fun e => h (by
 have h1 := List.getElem_idxOf (List.idxOf_lt_length_of_mem hp)
 have h2 := List.getElem_idxOf (List.idxOf_lt_length_of_mem hq)
 rw [← h1, ← h2]
 congr 1)
theorem pimp_true {R : List Rul} {F : List Atm} {k : Nat} {h : Tup} {b : Bool} (A : List (Nat × Tup)) (hA : A.length ≤ 200) (hcl : ClD R (fun j t => (j, t) ∈ A)) (hF : ∀ a ∈ F, (a.p.toNat, tupA a) ∈ A) (hL : LstF R F k h) (hp : PImp R F k h b) : b = true := by
 obtain ⟨M, hn, hs, hp⟩ := hp
 have ht : tot M ≤ A.length := tot_le (e := fun x => x) hn fun j t hm => ⟨(j, t), hs j t hm _ hcl hF, rfl⟩
 rw [if_pos (by omega)] at hp
 exact hp.2.2 (hp.1 _ _ hL)
section
variable {N : List Tx} (hp : [112] ∈ N) (he : [101] ∈ N) (hf : [102] ∈ N)
theorem aw_sp01 (hne : N.idxOf [102] ≠ N.idxOf [101]) : spE N xA0 1 = none := by
 have e1 : encT [65] = (true, 0) := rfl
 have e2 : encT [66] = (true, 1) := rfl
 have hs : psafeB (woL xA0 1) = true := by kernel_rfl
 simp only [xA0] at hs
 unfold spE
 simp only [xA0, List.map_cons, List.map_nil, e1, withL, wStep, sw0, spareE, hs, if_true, List.eraseIdx, ltA, e2]
 generalize N.idxOf [101] = n at *
 generalize N.idxOf [102] = n' at *
 simp [ontoL, withL, wStep, hne]
theorem aw_sp10 : (spE N xA1 0).isSome = true := by
 have e1 : encT [88] = (true, 23) := rfl
 have e2 : encT [89] = (true, 24) := rfl
 have e3 : encT [90] = (true, 25) := rfl
 have hs : psafeB (woL xA1 0) = true := by kernel_rfl
 simp only [xA1] at hs
 unfold spE
 simp only [xA1, List.map_cons, List.map_nil, e1, withL, wStep, sw0, spareE, hs, if_true, List.eraseIdx, ltA, e2, e3]
 generalize N.idxOf [101] = n at *
 simp [ontoL, withL, wStep]
theorem lack_same {l l' : List RItem} (h : ∀ k, ruledN N l k = true → ruledN N l' k = true) : lackB N l' l = false := by
 unfold lackB
 rw [List.any_eq_false]
 intro k _
 cases h1 : ruledN N l k with
 | false => simp
 | true => simp [h k h1]
include hp he hf
theorem aw_step1 {o : Option (List RItem)} (h : Step N 97 [xA0, xA1, xA2] o) : o = some [xA0, yA1, xA2] := by
 have hne := idx_ne hf he (by decide)
 have k00 : okA N [xA0, xA1, xA2] 0 0 = false := by
  unfold okA
  simp only [List.getElem?_cons_zero, sp_unsafe (N := N) (x := xA0) (k := 0) (by kernel_rfl), Option.isSome_none, Bool.false_and]
 have k01 : okA N [xA0, xA1, xA2] 0 1 = false := by
  unfold okA
  simp only [List.getElem?_cons_zero, aw_sp01 hne, Option.isSome_none, Bool.false_and]
 have k10 : okA N [xA0, xA1, xA2] 1 0 = true := by
  show ((spE N xA1 0).isSome && behB N [xA0, xA1, xA2] [xA0, yA1, xA2]) = true
  rw [aw_sp10]
  unfold behB
  rw [show limB [xA0, yA1, xA2] = true by kernel_rfl, show (wrongM [xA0, yA1, xA2]).1 = 0 by kernel_rfl, lack_same (l := [xA0, xA1, xA2]) (l' := [xA0, yA1, xA2]) (fun k h => by
   unfold ruledN at h ⊢
   simpa [xA0, xA1, xA2, yA1] using h)]
  rfl
 rcases h with ⟨h, -⟩ | ⟨-, h⟩ | ⟨h, -⟩
 ·exact absurd h (by decide)
 ·rcases h with ⟨-, h⟩ | ⟨i, k, y, rfl, h1, h2, h3, h4, h5, h6⟩
  ·rw [h 1 xA1 (by decide) rfl 0 (by decide)] at k10; cases k10
  ·match i, h1 with
   | 0, h1 =>
    cases h1
    match k, h3 with
    | 0, _ => rw [k00] at h4; cases h4
    | 1, _ => rw [k01] at h4; cases h4
    | k + 2, h3 => simp [xA0] at h3; omega
   | 1, h1 =>
    cases h1
    match k with
    | 0 => rfl
    | k + 1 => rw [h6 0 (by omega)] at k10; cases k10
   | 2, h1 => cases h1; cases h2
   | i + 3, h1 => simp at h1
 ·exact absurd h (by decide)
theorem aw_step2 {o : Option (List RItem)} (h : Step N 97 [xA0, yA1, xA2] o) : o = none := by
 have hne := idx_ne hf he (by decide)
 have k00 : okA N [xA0, yA1, xA2] 0 0 = false := by
  unfold okA
  simp only [List.getElem?_cons_zero, sp_unsafe (N := N) (x := xA0) (k := 0) (by kernel_rfl), Option.isSome_none, Bool.false_and]
 have k01 : okA N [xA0, yA1, xA2] 0 1 = false := by
  unfold okA
  simp only [List.getElem?_cons_zero, aw_sp01 hne, Option.isSome_none, Bool.false_and]
 have k10 : okA N [xA0, yA1, xA2] 1 0 = false := by
  unfold okA
  simp only [List.getElem?_cons_succ, List.getElem?_cons_zero, sp_unsafe (N := N) (x := yA1) (k := 0) (by kernel_rfl), Option.isSome_none, Bool.false_and]
 rcases h with ⟨h, -⟩ | ⟨-, h⟩ | ⟨h, -⟩
 ·exact absurd h (by decide)
 ·rcases h with ⟨h, -⟩ | ⟨i, k, y, rfl, h1, h2, h3, h4, h5, h6⟩
  ·exact h
  ·match i, h1 with
   | 0, h1 =>
    cases h1
    match k, h3 with
    | 0, _ => rw [k00] at h4; cases h4
    | 1, _ => rw [k01] at h4; cases h4
    | k + 2, h3 => simp [xA0] at h3; omega
   | 1, h1 =>
    cases h1
    match k, h3 with
    | 0, _ => rw [k10] at h4; cases h4
    | k + 1, h3 => simp [yA1] at h3
   | 2, h1 => cases h1; cases h2
   | i + 3, h1 => simp at h1
 ·exact absurd h (by decide)
theorem aw_imp {b : Bool} (h : impP N [xA0, yA1, xA2] 0 xA0 b) : b = true := by
 have hep := idx_ne he hp (by decide)
 have hfe := idx_ne hf he (by decide)
 have hfp := idx_ne hf hp (by decide)
 have e65 : encT [65] = (true, 0) := rfl
 have e66 : encT [66] = (true, 1) := rfl
 have e88 : encT [88] = (true, 23) := rfl
 have e90 : encT [90] = (true, 25) := rfl
 unfold impP at h
 have ho : oth [xA0, yA1, xA2] 0 [xA0, yA1, xA2].length = [yA1] := rfl
 rw [ho] at h
 have hR : ([yA1].map (afP N)) = [⟨⟨(N.idxOf [112] : Nat), [(true, 23)]⟩, [⟨false, ⟨(N.idxOf [101] : Nat), [(true, 23), (true, 25)]⟩⟩]⟩] := rfl
 have hF : fctP N xA0 = [⟨(N.idxOf [101] : Nat), [(false, 1000), (false, 1001)]⟩, ⟨(N.idxOf [102] : Nat), [(false, 1001)]⟩] := rfl
 have hH : tupA (frzA (afP N xA0).head) = [1000, -1, -1] := rfl
 have hk : (afP N xA0).head.p.toNat = N.idxOf [112] := rfl
 rw [hR, hF, hH, hk] at h
 generalize N.idxOf [112] = ip at *
 generalize N.idxOf [101] = ie at *
 generalize N.idxOf [102] = i2 at *
 refine pimp_true [(ie, [1000, 1001, -1]), (i2, [1001, -1, -1]), (ip, [1000, -1, -1])] (by simp) ?_ ?_ ?_ h
 ·intro r hr ν hb
  simp only [List.mem_singleton] at hr
  subst hr
  have := hb _ (List.mem_singleton.2 rfl)
  simp only [Int.toNat_natCast, esub, tupOf, valN, List.map_cons, List.map_nil, if_true] at this ⊢
  simp at this ⊢
  rcases this with h | h | h
  ·exact .inr h.1
  ·exact absurd h.1.symm hfe
  ·exact absurd h.1 hep
 ·intro a ha
  simp only [List.mem_cons, List.not_mem_nil, or_false] at ha
  rcases ha with rfl | rfl
  ·simp [tupA, tupOf]
  ·simp [tupA, tupOf]
 ·intro D hD hF2
  have h1 := hF2 _ (List.mem_cons_self ..)
  have := hD _ (List.mem_singleton.2 rfl) (fun v => if v = 23 then 1000 else 1001) (fun l hl => by
   simp only [List.mem_singleton] at hl
   subst hl
   simpa [esub, tupOf, valN, tupA] using h1)
  simpa [esub, tupOf, valN] using this
theorem aw_beh3 : behB N [xA0, yA1, xA2] [yA1, xA2] = true := by
 unfold behB
 rw [show limB [yA1, xA2] = true by kernel_rfl, show (wrongM [yA1, xA2]).1 = 0 by kernel_rfl, lack_same (l := [xA0, yA1, xA2]) (l' := [yA1, xA2]) (fun k h => by
  unfold ruledN at h ⊢
  simpa [xA0, xA2, yA1] using h)]
 rfl
theorem aw_step3 {o : Option (List RItem)} (h : Step N 114 [xA0, yA1, xA2] o) : o = some [yA1, xA2] := by
 have hb : behB N [xA0, yA1, xA2] (rpl 0 [] [xA0, yA1, xA2]) = true := aw_beh3 hp he hf
 have hno : ¬ impP N [xA0, yA1, xA2] 0 xA0 false := fun h => by have := aw_imp hp he hf h; cases this
 rcases h with ⟨h, -⟩ | ⟨h, -⟩ | ⟨-, h⟩
 ·exact absurd h (by decide)
 ·exact absurd h (by decide)
 ·rcases h with ⟨-, h⟩ | ⟨i, y, rfl, h1, h2, h3, h4, h5⟩
  ·exact absurd (h 0 xA0 (by decide) rfl rfl hb) hno
  ·match i with
   | 0 => rfl
   | i + 1 => exact absurd (h5 0 xA0 (by omega) rfl rfl hb) hno
theorem aw_step4 {o : Option (List RItem)} (h : Step N 114 [yA1, xA2] o) : o = none := by
 have hb : behB N [yA1, xA2] [xA2] = false := by
  unfold behB
  have : lackB N [xA2] [yA1, xA2] = true := by
   unfold lackB
   rw [List.any_eq_true]
   exact ⟨N.idxOf [112], by simpa using List.idxOf_lt_length_of_mem hp, by simp [ruledN, namedN, xA2, yA1]⟩
  rw [this]; simp
 rcases h with ⟨h, -⟩ | ⟨h, -⟩ | ⟨-, h⟩
 ·exact absurd h (by decide)
 ·exact absurd h (by decide)
 ·rcases h with ⟨h, -⟩ | ⟨i, y, rfl, h1, h2, h3, h4, h5⟩
  ·exact h
  ·match i, h1, h3 with
   | 0, h1, h3 =>
    have : behB N [yA1, xA2] [xA2] = true := h3
    rw [hb] at this; cases this
   | 1, h1, _ => cases h1; cases h2
   | i + 2, h1, _ => simp at h1
theorem aw_runs {l' : List RItem} {m : Int} (h : Pss N 9 [xA0, xA1, xA2] 0 [97, 114] l' m) : l' = [yA1, xA2] ∧ m = 2 := by
 have hA : ∀ {l' : List RItem} {m : Int}, Chg N 97 9 [xA0, xA1, xA2] 0 l' m → (l' = [xA0, xA1, xA2] ∧ m = 0) ∨ (l' = [xA0, yA1, xA2] ∧ m = 1) := fun h => by
  induction h with
  | refl => exact .inl ⟨rfl, rfl⟩
  | snoc _ _ hs ih =>
   rcases ih with ⟨rfl, rfl⟩ | ⟨rfl, rfl⟩
   ·have := aw_step1 hp he hf hs
    cases this
    exact .inr ⟨rfl, rfl⟩
   ·have := aw_step2 hp he hf hs
    cases this
 have hB : ∀ {l' : List RItem} {m : Int}, Chg N 114 9 [xA0, yA1, xA2] 1 l' m → (l' = [xA0, yA1, xA2] ∧ m = 1) ∨ (l' = [yA1, xA2] ∧ m = 2) := fun h => by
  induction h with
  | refl => exact .inl ⟨rfl, rfl⟩
  | snoc _ _ hs ih =>
   rcases ih with ⟨rfl, rfl⟩ | ⟨rfl, rfl⟩
   ·have := aw_step3 hp he hf hs
    cases this
    exact .inr ⟨rfl, rfl⟩
   ·have := aw_step4 hp he hf hs
    cases this
 have key : ∀ {ps : Tx} {l' : List RItem} {m : Int}, Pss N 9 [xA0, xA1, xA2] 0 ps l' m → (ps = [] → l' = [xA0, xA1, xA2] ∧ m = 0) ∧ (ps = [97] → l' = [xA0, yA1, xA2] ∧ m = 1) ∧ (ps = [97, 114] → l' = [yA1, xA2] ∧ m = 2) := fun h => by
  induction h with
  | nil => exact ⟨fun _ => ⟨rfl, rfl⟩, (fun e => by cases e), (fun e => by cases e)⟩
  | @snoc ps c l1 l2 m1 m2 _ hP ih =>
   refine ⟨(fun e => by simp at e), fun e => ?_, fun e => ?_⟩
   ·have e' : ps = [] ∧ c = 97 := by
     cases ps with
     | nil => simpa using e
     | cons a r => simp at e
    obtain ⟨rfl, rfl⟩ := e'
    obtain ⟨rfl, rfl⟩ := ih.1 rfl
    rcases hA hP.1 with ⟨rfl, rfl⟩ | h
    ·rcases hP.2 with h | h
     ·exact absurd h (by decide)
     ·have := aw_step1 hp he hf h; cases this
    ·exact h
   ·have e' : ps = [97] ∧ c = 114 := by
     match ps, e with
     | [], e => simp at e
     | [a], e => simpa using e
     | a :: b :: r, e => simp at e
    obtain ⟨rfl, rfl⟩ := e'
    obtain ⟨rfl, rfl⟩ := ih.2.1 rfl
    rcases hB hP.1 with ⟨rfl, rfl⟩ | h
    ·rcases hP.2 with h | h
     ·exact absurd h (by decide)
     ·have := aw_step3 hp he hf h; cases this
    ·exact h
 exact (key h).2.2 rfl
end
theorem awake_known {r : Tx × Int × Int} (h : pOptR tAw [97, 114] 9 r) : r = ([112, 40, 65, 41, 58, 45, 101, 40, 65, 44, 66, 41, 46, 63, 112, 46], 2, 0) := by
 unfold pOptR at h
 rw [if_neg (by simp [aw_check]), if_neg (by decide), if_neg (by decide)] at h
 obtain ⟨N, l, cs, ar, l', m, hR, -, -, hP, rfl⟩ := h
 have hl := hR.items
 rw [aw_items] at hl
 subst hl
 have hm := EL_PI_mem hR.bk.el xA0 (by simp)
 obtain ⟨rfl, rfl⟩ := aw_runs (N := N) hm.1 (hm.2 ⟨false, [101], [[65], [66]]⟩ (by simp [xA0])) (hm.2 ⟨false, [102], [[66]]⟩ (by simp [xA0])) hP
 rw [aw_text]
/- Plain texts, walked: predicates, the head, a pick. -/
set_option maxRecDepth 100000
/-! ### The predicates of a piece -/
/- Plain texts, walked: what is wanted. -/
/- Plain texts: a piece with its variables named in order. -/
/- Plain texts, walked: renames, renamed. -/
/- What the pass s leaves. Pure. -/
/-! ### Fewer items, or fewer literals: still right -/
theorem odd_none {l : List RItem} {ar : Tx → Nat} (h : ArOf l ar) (i : Nat) : oddP l i = false := by
 unfold oddP
 cases hx : l[i]? with
 | none => rfl
 | some x =>
  simp only
  rw [List.any_eq_false]
  intro j _
  unfold oddAt
  cases ha : (atomsL x)[j]? with
  | none => simp
  | some a =>
   simp only [Bool.not_eq_true]
   rw [List.any_eq_false]
   intro b hb
   have hxm := List.mem_of_getElem? hx
   have h1 := h x hxm a (List.mem_of_getElem? ha)
   have h2 : b.terms.length = ar b.pred := by
    rcases List.mem_append.1 hb with hb | hb
    ·obtain ⟨y, hy, hby⟩ := List.mem_flatMap.1 hb
     exact h y (List.mem_of_mem_take hy) b hby
    ·exact h x hxm b (List.mem_of_mem_take hb)
   unfold clash
   simp only [Bool.and_eq_true, beq_iff_eq, decide_eq_true_eq, not_and, ne_eq, Decidable.not_not]
   intro e
   rw [h1, h2, e]
/-! ### What is wanted -/
theorem uItems_filter (f : RItem → Bool) : ∀ l : List RItem, (uItems (l.filter f)).length ≤ (uItems l).length
 | [] => Nat.le_refl _
 | x :: l => by
  have ih := uItems_filter f l
  have e : ∀ l : List RItem, uItems (x :: l) = (uItem x ++ [46]) ++ uItems l := fun l => by simp [uItems]
  cases hf : f x with
  | true =>
   rw [List.filter_cons_of_pos hf]
   simp only [e, List.length_append]
   omega
  | false =>
   rw [List.filter_cons_of_neg (by simp [hf])]
   simp only [e, List.length_append]
   omega
/- Sliced: what the pass s leaves, by the texts alone; refused and awake, walked. -/
def pcT (x : RItem) : Tx := uItem x ++ [46]
theorem piece_le : ∀ l : List RItem, ∀ y ∈ l, (pcT y).length ≤ (uItems l).length
 | [], y, hy => by cases hy
 | z :: l, y, hy => by
  have e : uItems (z :: l) = pcT z ++ uItems l := by simp [uItems, pcT]
  simp only [e, List.length_append]
  rcases List.mem_cons.1 hy with rfl | hy
  ·omega
  ·have := piece_le l y hy
   omega
set_option maxHeartbeats 8000000 in
theorem krefused_spec (t : Tx) (σ : St) : ACalls Tryz.prog 30 [str t, str [], sc (.int .i64 0), sc (.int .i64 (refCheck t).1)] σ fun r σ' => r = sc (.bool true) ∧ Keep σ σ' := by
 have hC := fun σ => check_spec t σ
 generalize refCheck t = r at *
 obtain ⟨e, pl⟩ := r
 have he : (([] : Tx) == []) = true := rfl
 have hee : (e == e) = true := by simp
 have hc1 : ({ data := #[] } : ByteArray) = bs [] := rfl
 simp only at *
 refine acalls 27 [.tmp 8] Tryz.func30 rfl (by decide) rfl rfl (Nat.le_of_ble_eq_true rfl) ?_
 repeat' (first
 |with_reducible first|apply Xa|apply Xb|(refine Xc ?_;intro κ hκ)|(apply hκ.out;clear hκ κ)|apply Xd|apply Xe|apply Xf
 |((with_reducible first|refine Xl ?_ ?_|refine Xk ?_ ?_)<;> intro h hari<;> try exact Xp)
 |((with_reducible refine Xh ?_);refine Xi (hC _) ?_;rintro _ _ ⟨rfl,hK1⟩;(have kno1:=hK1.nobj))
 |refine Xr ?_
 |exact True.intro
 |(apply hκ.out;clear hκ κ))
 first | exact ⟨_, rfl, rfl, hK1⟩ | exact ⟨_, rfl, hK1⟩ | exact ⟨_, rfl, rfl⟩
set_option maxHeartbeats 8000000 in
theorem kawake_spec (σ : St) : ACalls Tryz.prog 28 [] σ fun r σ' => r = sc (.bool true) ∧ Keep σ σ' := by
 have hO := fun σ => pOptimise_spec tAw [97, 114] 9 (by omega) (by intro c hc; simp at hc; rcases hc with rfl | rfl <;> simp) σ
 have hc1 : ({ data := #[112, 40, 65, 41, 58, 45, 101, 40, 65, 44, 66, 41, 44, 102, 40, 66, 41, 46, 112, 40, 88, 41, 58, 45, 101, 40, 88, 44, 89, 41, 44, 101, 40, 88, 44, 90, 41, 46, 63, 112, 46] } : ByteArray) = bs tAw := rfl
 have hc2 : ({ data := #[97, 114] } : ByteArray) = bs [97, 114] := rfl
 have hc3 : ({ data := #[112, 40, 65, 41, 58, 45, 101, 40, 65, 44, 66, 41, 46, 63, 112, 46] } : ByteArray) = bs [112, 40, 65, 41, 58, 45, 101, 40, 65, 44, 66, 41, 46, 63, 112, 46] := rfl
 have hkn : (([112, 40, 65, 41, 58, 45, 101, 40, 65, 44, 66, 41, 46, 63, 112, 46] : Tx) == [112, 40, 65, 41, 58, 45, 101, 40, 65, 44, 66, 41, 46, 63, 112, 46]) = true := rfl
 refine acalls 19 [.tmp 0] Tryz.func28 rfl (by decide) rfl rfl (Nat.le_of_ble_eq_true rfl) ?_
 repeat' (first
 |with_reducible first|apply Xa|apply Xb|(refine Xc ?_;intro κ hκ)|(apply hκ.out;clear hκ κ)|apply Xd|apply Xe|apply Xf
 |((with_reducible first|refine Xl ?_ ?_|refine Xk ?_ ?_)<;> intro h hari<;> try exact Xp)
 |((with_reducible refine Xh ?_);refine Xi (hO _) ?_;rintro _ _ ⟨p0,rfl,hp0,hK1⟩;(have e0:=awake_known hp0;subst e0;clear hp0;have kno1:=hK1.nobj))
 |refine Xr ?_
 |exact True.intro
 |(apply hκ.out;clear hκ κ))
 first | exact ⟨_, rfl, rfl, hK1⟩ | exact ⟨_, rfl, hK1⟩ | exact ⟨_, rfl, rfl⟩
/- What is written is read again. Pure. -/
def GNm (p : Tx) : Prop := WName p ∧ p.length ≤ 6
def GTm (t : Tx) : Prop := (∃ b, t = [b] ∧ largeB b.toNat = true) ∨ t = [48] ∨ ∃ b r, t = b :: r ∧ nineB b.toNat = true ∧ (∀ c ∈ r, digitB c.toNat = true) ∧ r.length ≤ 2
structure GA' (a : RAtom) : Prop where
 nm : GNm a.pred
 ne : a.terms ≠ []
 few : a.terms.length ≤ 3
 tm : ∀ t ∈ a.terms, GTm t
structure GIt (x : RItem) : Prop where
 nm : GNm x.head.pred
 out : x.out = true → x.head.nt = false ∧ x.head.terms = [] ∧ x.body = []
 rule : x.out = false → GA' x.head ∧ x.head.nt = false ∧ x.body.length ≤ 5 ∧ ∀ a ∈ x.body, GA' a
theorem pWhile_of (p : Int → Bool) : ∀ (n : Nat) (t r : Tx), (∀ b ∈ t, p b.toNat = true) → t.length ≤ n → (∀ b q, r = b :: q → p b.toNat = false) → pWhile p n (t ++ r) = (t, r)
 | n, [], r, _, _, hr => by
  cases n with
  | zero => rfl
  | succ n =>
   cases r with
   | nil => rfl
   | cons b q =>
    show pWhile p (n + 1) (b :: q) = _
    unfold pWhile
    rw [if_neg (by simp [hr b q rfl])]
 | 0, b :: t, r, _, hl, _ => by simp at hl
 | n + 1, b :: t, r, ht, hl, hr => by
  show pWhile p (n + 1) (b :: (t ++ r)) = _
  unfold pWhile
  rw [if_pos (ht b (by simp)), pWhile_of p n t r (fun c hc => ht c (by simp [hc])) (by simpa using hl) hr]
theorem pWhile_len (p : Int → Bool) : ∀ (n : Nat) (s : Tx), (pWhile p n s).1.length ≤ n
 | 0, s => by simp [pWhile]
 | n + 1, [] => by simp [pWhile]
 | n + 1, b :: r => by
  unfold pWhile
  split
  ·have := pWhile_len p n r; simp; omega
  ·simp
theorem pName_of {p r : Tx} (h : GNm p) (hr : ∀ b q, r = b :: q → smallB b.toNat = false) : pName (p ++ r) = .got p r := by
 unfold pName
 rw [pWhile_of smallB 6 p r h.1.2 h.2 hr]
 rw [if_neg h.1.1]
theorem pName_gn {s r p : Tx} (h : pName s = .got p r) : GNm p := by
 refine ⟨(pName_took h).2, ?_⟩
 unfold pName at h
 split at h
 ·cases h
 ·cases h; exact pWhile_len _ _ _
theorem pTerm_of {t r : Tx} (h : GTm t) (hr : ∀ b q, r = b :: q → digitB b.toNat = false) : pTerm (t ++ r) = .got t r := by
 rcases h with ⟨b, rfl, hb⟩ | rfl | ⟨b, q, rfl, hb, hq, hl⟩
 ·show pTerm (b :: r) = _
  unfold pTerm; dsimp only
  rw [if_pos hb]
 ·show pTerm (48 :: r) = _
  unfold pTerm; dsimp only
  rw [if_neg (by decide), if_pos (by decide)]
 ·show pTerm (b :: (q ++ r)) = _
  unfold pTerm; dsimp only
  rw [if_neg, if_neg, if_pos hb, pWhile_of digitB 2 q r hq hl hr]
  ·intro e; simp only [nineB, Bool.and_eq_true, decide_eq_true_eq] at hb; simp at e; omega
  ·intro e; rw [large_not_nine e] at hb; cases hb
theorem pTerm_gt {s r t : Tx} (h : pTerm s = .got t r) : GTm t := by
 cases s with
 | nil => cases h
 | cons b q =>
  unfold pTerm at h; dsimp only at h
  split at h
  ·rename_i hl; cases h; exact .inl ⟨b, rfl, hl⟩
  split at h
  ·rename_i h0
   cases h
   have : b = 48 := byte_eq 48 h0
   rw [this]; exact .inr (.inl rfl)
  split at h
  ·rename_i h9; cases h
   exact .inr (.inr ⟨b, _, rfl, h9, (pWhile_took digitB 2 q).2, pWhile_len _ _ _⟩)
  ·cases h
theorem got_bnd {α β : Type} (x : α) (r : Tx) (f : α → Tx → Rd β) : (Rd.got x r).bnd f = f x r := rfl
theorem pByte_of {c : UInt8} {r : Tx} : pByte c.toNat (c :: r) = .got () r := by unfold pByte; dsimp only; rw [if_pos (by simp)]
theorem uMore_cons (t : Tx) (ts : List Tx) : uMore (t :: ts) = 44 :: (t ++ uMore ts) := by simp [uMore]
theorem pMore_of {α : Type} {f : Tx → Rd α} {u : α → Tx} {c : UInt8} (hc : c ≠ 44) {P : α → Prop} (hf : ∀ x r, P x → (∀ b q, r = b :: q → b = 44 ∨ b = c) → f (u x ++ r) = .got x r) : ∀ (n : Nat) (xs : List α) (r : Tx), (∀ x ∈ xs, P x) → xs.length ≤ n → pMore f n (uMore (xs.map u) ++ c :: r) = .got xs (c :: r)
 | 0, [], r, _, _ => rfl
 | n + 1, [], r, _, _ => by
  show pMore f (n + 1) (c :: r) = _
  unfold pMore
  rw [if_neg (by
   intro h
   exact hc (byte_eq 44 h))]
 | 0, x :: xs, r, _, hl => by simp at hl
 | n + 1, x :: xs, r, hP, hl => by
  rw [List.map_cons, uMore_cons]
  show pMore f (n + 1) (44 :: ((u x ++ uMore (xs.map u)) ++ c :: r)) = _
  unfold pMore
  rw [if_pos (by decide), List.append_assoc, hf x _ (hP x (by simp)) ?_]
  ·rw [got_bnd, pMore_of hc hf n xs r (fun y hy => hP y (by simp [hy])) (by simpa using hl)]
   rfl
  ·intro b q e
   cases xs with
   | nil => simp [uMore] at e; exact .inr e.1.symm
   | cons y ys => rw [List.map_cons, uMore_cons] at e; simp at e; exact .inl e.1.symm
theorem nd {b : UInt8} (h : b = 44 ∨ b = 41) : digitB b.toNat = false := by rcases h with rfl | rfl <;> decide
theorem pAtom_of {a : RAtom} (h : GA' a) (r : Tx) : pAtom a.nt (uAtom a ++ r) = .got a r := by
 unfold pAtom uAtom
 rw [List.append_assoc, pName_of h.nm (fun b q e => by simp at e; rw [← e.1]; decide)]
 rw [got_bnd, List.cons_append]
 rw [show (40 : Int) = ((40 : UInt8).toNat : Int) from rfl, pByte_of]
 rw [got_bnd]
 obtain ⟨t, ts, e⟩ := List.exists_cons_of_ne_nil h.ne
 have htm := h.tm
 have hfew := h.few
 rw [e] at htm hfew
 rw [e, uList]
 unfold pArgs
 have e2 : ((t ++ uMore ts ++ [41]) ++ r : Tx) = t ++ (uMore (ts.map id) ++ 41 :: r) := by simp
 rw [e2, pTerm_of (htm t (by simp)) ?_]
 ·rw [got_bnd, pMore_of (u := id) (c := 41) (by decide) (P := GTm) (fun x r hx hr => pTerm_of hx fun b q e => nd (hr b q e)) 2 ts r (fun y hy => htm y (by simp [hy])) (by simpa using hfew)]
  rw [got_bnd, show (41 : Int) = ((41 : UInt8).toNat : Int) from rfl, pByte_of]
  rw [got_bnd, ← e]
 ·intro b q eb
  cases ts with
  | nil => simp [uMore] at eb; exact nd (.inr eb.1.symm)
  | cons y ys => rw [List.map_cons, uMore_cons] at eb; simp at eb; exact nd (.inl eb.1.symm)
theorem pLit_of {a : RAtom} (h : GA' a) (r : Tx) : pLit (uLit a ++ r) = .got a r := by
 have hp := pAtom_of h r
 cases hn : a.nt with
 | true =>
  rw [hn] at hp
  rw [show uLit a ++ r = 33 :: (uAtom a ++ r) by simp [uLit, hn]]
  unfold pLit
  dsimp only
  rw [if_pos (by decide)]; exact hp
 | false =>
  rw [hn] at hp
  rw [show uLit a ++ r = uAtom a ++ r by simp [uLit, hn]]
  obtain ⟨b, q, e, h1, h2⟩ := head_small h.nm.1
  have e2 : uAtom a ++ r = b :: (q ++ 40 :: (uList a.terms ++ [41]) ++ r) := by unfold uAtom; rw [e]; simp
  rw [e2] at hp ⊢
  unfold pLit
  dsimp only
  rw [if_neg (by simp; omega)]; exact hp
theorem pItem_of {x : RItem} (h : GIt x) (r : Tx) : pItem (uItem x ++ 46 :: r) = .got x r := by
 cases ho : x.out with
 | true =>
  obtain ⟨h1, h2, h3⟩ := h.out ho
  rw [uItem, if_pos ho]
  show pItem (63 :: (x.head.pred ++ 46 :: r)) = _
  unfold pItem
  dsimp only
  rw [if_pos (by decide)]
  unfold pOut
  rw [pName_of h.nm (fun b q e => by simp at e; rw [← e.1]; decide)]
  rw [got_bnd, show (46 : Int) = ((46 : UInt8).toNat : Int) from rfl, pByte_of]
  rw [got_bnd]
  obtain ⟨o, ⟨n, p, ts⟩, bd⟩ := x
  simp only at h1 h2 h3 ho
  subst h1; subst h2; subst h3; subst ho
  rfl
 | false =>
  obtain ⟨h1, h2, h3, h4⟩ := h.rule ho
  have hR : pItem (uItem x ++ 46 :: r) = pRule (uItem x ++ 46 :: r) := by
   obtain ⟨b, q, e, g1, g2⟩ := head_small h.nm.1
   have e2 : uItem x ++ 46 :: r = b :: (q ++ 40 :: (uList x.head.terms ++ [41]) ++ (if x.body = [] then [] else 58 :: 45 :: uList (x.body.map uLit)) ++ 46 :: r) := by
    unfold uItem uRule uAtom; rw [if_neg (by simp [ho]), e]; simp
   rw [e2]
   unfold pItem
   dsimp only
   rw [if_neg (by simp; omega)]
  rw [hR, uItem, if_neg (by simp [ho]), uRule, List.append_assoc]
  unfold pRule
  have hp := pAtom_of h1 ((if x.body = [] then [] else 58 :: 45 :: uList (x.body.map uLit)) ++ 46 :: r)
  rw [h2] at hp
  rw [hp, got_bnd]
  by_cases hb : x.body = []
  ·rw [if_pos hb]
   show pTail x.head (46 :: r) = _
   unfold pTail
   dsimp only
   rw [if_pos (by decide)]
   rw [← hb, ← ho]
  ·rw [if_neg hb]
   obtain ⟨l, ls, e⟩ := List.exists_cons_of_ne_nil hb
   rw [e] at h3 h4
   rw [e, List.map_cons, uList]
   have e2 : (58 :: 45 :: (uLit l ++ uMore (ls.map uLit)) ++ 46 :: r : Tx) = 58 :: 45 :: (uLit l ++ (uMore (ls.map uLit) ++ 46 :: r)) := by simp
   rw [e2]
   unfold pTail
   dsimp only
   rw [if_neg (by decide)]
   rw [show (58 : Int) = ((58 : UInt8).toNat : Int) from rfl, pByte_of]
   rw [got_bnd, show (45 : Int) = ((45 : UInt8).toNat : Int) from rfl, pByte_of]
   rw [got_bnd]
   unfold pBody
   rw [pLit_of (h4 l (by simp)), got_bnd, pMore_of (u := uLit) (c := 46) (by decide) (P := GA') (fun y q hy _ => pLit_of hy q) 4 ls r (fun y hy => h4 y (by simp [hy])) (by simpa using h3)]
   rw [got_bnd, show (46 : Int) = ((46 : UInt8).toNat : Int) from rfl, pByte_of]
   rw [got_bnd, ← e, ← ho]
theorem pItems_of : ∀ (n : Nat) (l : List RItem), (∀ x ∈ l, GIt x) → l.length ≤ n → pItems n (uItems l) = .got l []
 | n, [], _, _ => by cases n <;> rfl
 | 0, x :: l, _, hl => by simp at hl
 | n + 1, x :: l, h, hl => by
  have e : uItems (x :: l) = uItem x ++ 46 :: uItems l := by simp [uItems]
  have hne : uItem x ++ 46 :: uItems l ≠ [] := by simp
  obtain ⟨b, q, e2⟩ := List.exists_cons_of_ne_nil hne
  rw [e]
  have hp := pItem_of (h x (by simp)) (uItems l)
  rw [e2] at hp ⊢
  show ((pItem (b :: q)).bnd fun x r => (pItems n r).bnd fun xs r => .got (x :: xs) r) = _
  rw [hp, got_bnd, pItems_of n l (fun y hy => h y (by simp [hy])) (by simpa using hl)]
  rfl
/-! ### What was read is so -/
theorem pMore_ga {α : Type} {f : Tx → Rd α} {P : α → Prop} (hf : ∀ s x r, f s = .got x r → P x) {n : Nat} {s : Tx} {xs : List α} {r : Tx} (h : pMore f n s = .got xs r) : ∀ x ∈ xs, P x := pMore_all hf n s xs r h
theorem pAtom_ga {nt : Bool} {s r : Tx} {a : RAtom} (h : pAtom nt s = .got a r) : GA' a := by
 have hw := (pAtom_took h).2.1
 have ht := pAtom_all (T := GTm) (fun _ _ _ h => pTerm_gt h) h
 refine ⟨?_, hw.2.1, hw.2.2.1, ht⟩
 unfold pAtom at h
 obtain ⟨p, q, h1, h⟩ := bnd_got h
 obtain ⟨u, q2, h2, h⟩ := bnd_got h
 unfold pArgs at h
 obtain ⟨t, q3, h3, h⟩ := bnd_got h
 obtain ⟨ts, q4, h4, h⟩ := bnd_got h
 obtain ⟨u2, q5, h5, h⟩ := bnd_got h
 cases h
 exact pName_gn h1
theorem pLit_ga {s r : Tx} {a : RAtom} (h : pLit s = .got a r) : GA' a := by
 cases s with
 | nil => cases h
 | cons b q =>
  unfold pLit at h
  dsimp only at h
  split at h
  ·exact pAtom_ga h
  ·exact pAtom_ga h
theorem pItem_gi {s r : Tx} {x : RItem} (h : pItem s = .got x r) : GIt x := by
 have hw := (pItem_took h).2
 cases s with
 | nil => cases h
 | cons b q =>
  unfold pItem at h
  dsimp only at h
  split at h
  ·unfold pOut at h
   obtain ⟨p, q, h1, h⟩ := bnd_got h
   obtain ⟨u, q2, h2, h⟩ := bnd_got h
   cases h
   exact ⟨pName_gn h1, hw.2.1, (fun e => by cases e)⟩
  ·unfold pRule at h
   obtain ⟨hd, q, h1, h⟩ := bnd_got h
   have hg := pAtom_ga h1
   have key : x.head = hd ∧ x.out = false ∧ ∀ a ∈ x.body, GA' a := by
    cases q with
    | nil => cases h
    | cons c q =>
     unfold pTail at h
     dsimp only at h
     split at h
     ·cases h; exact ⟨rfl, rfl, by simp⟩
     ·obtain ⟨_, q2, _, h⟩ := bnd_got h
      obtain ⟨_, q3, _, h⟩ := bnd_got h
      unfold pBody at h
      obtain ⟨l, q4, h4, h⟩ := bnd_got h
      obtain ⟨ls, q5, h5, h⟩ := bnd_got h
      obtain ⟨_, q6, _, h⟩ := bnd_got h
      cases h
      refine ⟨rfl, rfl, fun a ha => ?_⟩
      rcases List.mem_cons.1 ha with rfl | ha
      ·exact pLit_ga h4
      ·exact pMore_ga (fun _ _ _ h => pLit_ga h) h5 a ha
   obtain ⟨e1, e2, e3⟩ := key
   refine ⟨by rw [e1]; exact hg.nm, hw.2.1, fun ho => ⟨by rw [e1]; exact hg, (hw.2.2 ho).2.1, (hw.2.2 ho).2.2.1, e3⟩⟩
theorem pItems_gi : ∀ (n : Nat) (s : Tx) (l : List RItem) (r : Tx), pItems n s = .got l r → ∀ x ∈ l, GIt x
 | n, [], l, r, h => by
  cases n <;> (cases h; intro x hx; cases hx)
 | 0, b :: s, l, r, h => by cases h
 | n + 1, b :: s, l, r, h => by
  have h' : ((pItem (b :: s)).bnd fun x r => (pItems n r).bnd fun xs r => .got (x :: xs) r) = .got l r := h
  obtain ⟨x, q, h1, h2⟩ := bnd_got h'
  obtain ⟨xs, q2, h3, h4⟩ := bnd_got h2
  cases h4
  intro y hy
  rcases List.mem_cons.1 hy with rfl | hy
  ·exact pItem_gi h1
  ·exact pItems_gi n _ _ _ h3 y hy
end Go.Proofs.YtmoeoppbmhfbpaaGreatDoorU
