import Derived.Test.YtmoeoppbmhfbpaaGreatDoorERunB
import Derived.Test.YtmoeoppbmhfbpaaGreatDoorERefA
import Derived.Test.YtmoeoppbmhfbpaaGreatDoorEGramD
import Derived.Test.YtmoeoppbmhfbpaaGreatDoorEFacts
/- Roads: its own functions, walked: facts, what is told. -/
namespace Go.Proofs.YtmoeoppbmhfbpaaGreatDoorE
open Go.Abs
set_option linter.unusedSimpArgs false
set_option linter.unusedVariables false
set_option maxRecDepth 100000
def edT (base x : Int) : Tx := pairT [101] base (pkI x 64 / 8) (pkI x 64 % 8)
def vT (base a : Int) : Tx := [118, 40] ++ numT base a ++ [41, 46]
def factsT (E : List Int) (base : Int) : Tx := (E.take 24).flatMap (edT base) ++ ([7, 6, 5, 4, 3, 2, 1, 0] : List Int).flatMap (vT base)
theorem pairT_len {p : Tx} (hp : p.length ≤ 100) (base : Int) {a b : Int} (ha0 : 0 ≤ a) (ha1 : a ≤ 7) (hb0 : 0 ≤ b) (hb1 : b ≤ 7) : (pairT p base a b).length ≤ 130 := by
 have := numT_len base ha0 ha1
 have := numT_len base hb0 hb1
 unfold pairT; simp; omega
def R64 (x : Int) : Prop := -9223372036854775808 ≤ x ∧ x ≤ 9223372036854775807
set_option maxHeartbeats 16000000 in
theorem kfacts_spec (E : List Int) (ide : Nat) (base : Int) (hE : ∀ x ∈ E, R64 x) (hb : R64 base) (σ : St) : ACalls Tryz.prog 17 [sl ide E.length (icells E), ic base] σ fun r σ' => r = str (factsT E base) ∧ σ' = σ := by
 have hel := icells_len E
 have hPk := fun (x : Int) (hx : x ∈ E) σ => kpickN_spec x 64 (hE x hx).1 (hE x hx).2 (by omega) (by omega) σ
 have hPr := fun (a b : Int) h1 h2 h3 h4 σ => kpair_spec [101] base a b (by simp) hb.1 hb.2 h1 h2 h3 h4 σ
 have hNu := fun (a : Int) h1 h2 σ => knumber_spec base a hb.1 hb.2 h1 h2 σ
 have hc0 : ({ data := #[] } : ByteArray) = bs [] := rfl
 have hc1 : ({ data := #[101] } : ByteArray) = bs [101] := rfl
 have hc2 : ({ data := #[118, 40] } : ByteArray) = bs [118, 40] := rfl
 have hc3 : ({ data := #[41, 46] } : ByteArray) = bs [41, 46] := rfl
 refine acalls 44 [.tmp 4] Tryz.func17 rfl (by decide) rfl rfl (Nat.le_of_ble_eq_true rfl) ?_
 repeat' (first
 |with_reducible first|apply Xa|apply Xb|(refine Xc ?_;intro κ hκ)|(apply hκ.out;clear hκ κ)|apply Xd|apply Xe|apply Xf
 |((with_reducible first|refine Xl ?_ ?_|refine Xk ?_ ?_)<;> intro h hari<;> try exact Xp)
 |refine Xw ?_
 |exact True.intro
 |(apply hκ.out;clear hκ κ))
 refine awp_loop (fun m s σ' => ∃ (i : Nat) (W : Tx), m = 24 - i ∧ i ≤ 24 ∧ i ≤ E.length ∧ s 0 = sl ide E.length (icells E) ∧ s 1 = ic base ∧ s 5 = str W ∧ s 6 = ic i ∧ σ' = σ ∧ W.length ≤ i * 200 ∧ Abs.Hid (W = (E.take i).flatMap (edT base))) 24
  ⟨0, [], by omega, by omega, by omega, by simp [upd, initS], by simp [upd, initS], by simp [upd], by simp [upd], rfl, by simp, by simp [Abs.Hid]⟩ ?_
 rintro m s σ' ⟨i, W, rfl, hi, hiE, h0, h1, h5, h6, rfl, hWl, hW⟩
 by_cases hlt : i < E.length ∧ i < 24
 ·obtain ⟨hl1, hl2⟩ := hlt
  have hget := List.getElem?_eq_getElem hl1
  obtain ⟨r, hd⟩ := icells_get hget
  have hxm := List.getElem_mem hl1
  generalize E[i] = x at hget hd hxm
  have hPx := hPk x hxm
  have hrx := pkI_rng x (n := 64) (by omega)
  have HT : Abs.Hid ((E.take (i + 1)).flatMap (edT base) = (E.take i).flatMap (edT base) ++ edT base x) := by rw [Abs.Hid, List.take_add_one, hget, Option.toList_some]; simp
  have hPx2 := hPr (pkI x 64 / 8) (pkI x 64 % 8) (by omega) (by omega) (by omega) (by omega)
  have hpl := pairT_len (p := [101]) (by simp) base (a := pkI x 64 / 8) (b := pkI x 64 % 8) (by omega) (by omega) (by omega) (by omega)
  have hq1 : (pkI x 64).tdiv 8 = pkI x 64 / 8 := Int.tdiv_eq_ediv_of_nonneg hrx.1
  have hq2 : (pkI x 64).tmod 8 = pkI x 64 % 8 := Int.tmod_eq_emod_of_nonneg hrx.1
  rw [show pairT [101] base (pkI x 64 / 8) (pkI x 64 % 8) = edT base x from rfl] at hPx2 hpl
  have hd1 : decide ((i : Int) < (E.length : Int)) = true := by rw [decide_eq_true_eq]; omega
  have hd2 : decide ((i : Int) < 24) = true := by rw [decide_eq_true_eq]; omega
  clear hget hPr hNu hPk
  generalize edT base x = px at *
  have hPx3 : ∀ σ, ACalls Tryz.prog 42 [sc (.string (bs [101])), ic base, ic (pkI x 64 / 8), ic (pkI x 64 % 8)] σ fun r σ' => r = str px ∧ σ' = σ := hPx2
  clear hPx2
  generalize pkI x 64 = q at *
  repeat' (first
 |with_reducible first|apply Xa|apply Xb|(refine Xc ?_;intro κ hκ)|(apply hκ.out;clear hκ κ)|apply Xd|apply Xe|apply Xf
 |((with_reducible first|refine Xl ?_ ?_|refine Xk ?_ ?_)<;> intro h hari<;> try exact Xp)
 |((with_reducible refine Xh ?_);refine Xi (hPx _) ?_;rintro _ _ ⟨rfl,rfl⟩)
 |refine Xw ?_
 |exact True.intro
 |(apply hκ.out;clear hκ κ))
  refine ACalls.mono (hPx3 _) ?_
  rintro _ _ ⟨rfl, rfl⟩
  refine Xw ?_
  repeat' (first
 |with_reducible first|apply Xa|apply Xb|(refine Xc ?_;intro κ hκ)|(apply hκ.out;clear hκ κ)|apply Xd|apply Xe|apply Xf
 |((with_reducible first|refine Xl ?_ ?_|refine Xk ?_ ?_)<;> intro h hari<;> try exact Xp)
 |refine Xw ?_
 |exact True.intro
 |(apply hκ.out;clear hκ κ))
  have HW : Abs.Hid (W ++ px = (E.take (i + 1)).flatMap (edT base)) := by rw [Abs.Hid, HT.out, hW.out]
  exact ⟨24 - (i + 1), by omega, i + 1, W ++ px, rfl, by omega, by omega, rfl, by simp, by simp; omega, HW⟩
 ·have HW : Abs.Hid (W = (E.take 24).flatMap (edT base)) := by
   rw [Abs.Hid, hW.out]
   by_cases e : i = 24
   ·rw [e]
   ·have : i = E.length := by omega
    rw [this, List.take_length, List.take_of_length_le (by omega)]
  have hNu2 : ∀ (a : Int), 0 ≤ a → a ≤ 7 → ∀ σ, ACalls Tryz.prog 43 [ic base, ic a] σ fun r σ' => r = str (numT base a) ∧ σ' = σ := hNu
  have hdn : (decide ((i : Int) < (E.length : Int)) = true → decide ((i : Int) < 24) = false) := fun h => by
   rw [decide_eq_true_eq] at h
   rw [decide_eq_false_iff_not]; omega
  have hW2 : W.length ≤ 4800 := by omega
  clear hPr hPk hNu hW
  have key : ∀ (k : Nat), k ≤ 8 → ([7, 6, 5, 4, 3, 2, 1, 0] : List Int).take k ++ (if k < 8 then [7 - (k : Int)] else []) = ([7, 6, 5, 4, 3, 2, 1, 0] : List Int).take (k + 1) := by
   intro k hk
   rcases (show k = 0 ∨ k = 1 ∨ k = 2 ∨ k = 3 ∨ k = 4 ∨ k = 5 ∨ k = 6 ∨ k = 7 ∨ k = 8 by omega) with rfl | rfl | rfl | rfl | rfl | rfl | rfl | rfl | rfl <;> rfl
  have KEY : Abs.Hid _ := key
  clear key
  cases hdc : decide ((i : Int) < (E.length : Int)) with
  | true =>
   have hdd := hdn hdc
   clear hdn hlt
   repeat' (first
 |with_reducible first|apply Xa|apply Xb|(refine Xc ?_;intro κ hκ)|(apply hκ.out;clear hκ κ)|apply Xd|apply Xe|apply Xf
 |((with_reducible first|refine Xl ?_ ?_|refine Xk ?_ ?_)<;> intro h hari<;> try exact Xp)
 |refine Xw ?_
 |exact True.intro
 |(apply hκ.out;clear hκ κ))
   refine awp_loop (fun m s σ2 => ∃ (k : Nat) (V : Tx), m = 8 - k ∧ k ≤ 8 ∧ s 1 = ic base ∧ s 5 = str V ∧ s 8 = ic (7 - (k : Int)) ∧ σ2 = σ' ∧ V.length ≤ 4800 + k * 200 ∧ Abs.Hid (V = W ++ (([7, 6, 5, 4, 3, 2, 1, 0] : List Int).take k).flatMap (vT base))) 8
    ⟨0, W, by omega, by omega, by simp [upd, *], by simp [upd, *], by simp [upd], rfl, by omega, by simp [Abs.Hid]⟩ ?_
   clear h0 h1 h5 h6
   rintro m s σ2 ⟨k, V, rfl, hk, h1, h5, h8, rfl, hVl, hV⟩
   by_cases hk8 : k < 8
   ·have hN7 := hNu2 (7 - (k : Int)) (by omega) (by omega)
    have hnl := numT_len base (a := 7 - (k : Int)) (by omega) (by omega)
    have HV : Abs.Hid (∀ V', V' = V ++ vT base (7 - (k : Int)) → V' = W ++ (([7, 6, 5, 4, 3, 2, 1, 0] : List Int).take (k + 1)).flatMap (vT base)) := fun V' e => by
     rw [e, hV.out, ← KEY.out k hk, if_pos hk8]; simp
    have hge : decide ((7 - (k : Int)) ≥ 0) = true := by rw [decide_eq_true_eq]; omega
    have HVT : Abs.Hid (vT base (7 - (k : Int)) = [118, 40] ++ numT base (7 - (k : Int)) ++ [41, 46]) := rfl
    clear hNu2 hV
    generalize numT base (7 - (k : Int)) = nx at *
    repeat' (first
 |with_reducible first|apply Xa|apply Xb|(refine Xc ?_;intro κ hκ)|(apply hκ.out;clear hκ κ)|apply Xd|apply Xe|apply Xf
 |((with_reducible first|refine Xl ?_ ?_|refine Xk ?_ ?_)<;> intro h hari<;> try exact Xp)
 |((with_reducible refine Xh ?_);refine Xi (hN7 _) ?_;rintro _ _ ⟨rfl,rfl⟩)
 |refine Xw ?_
 |exact True.intro
 |(apply hκ.out;clear hκ κ))
    refine ⟨8 - (k + 1), by omega, k + 1, V ++ [118, 40] ++ nx ++ [41, 46], rfl, by omega, rfl, by congr 1; congr 1; omega, by simp; omega, HV.out _ (by rw [HVT.out]; simp)⟩
   ·have hk88 : k = 8 := by omega
    subst hk88
    have hge : decide ((7 - ((8 : Nat) : Int)) ≥ 0) = false := rfl
    repeat' (first
 |with_reducible first|apply Xa|apply Xb|(refine Xc ?_;intro κ hκ)|(apply hκ.out;clear hκ κ)|apply Xd|apply Xe|apply Xf
 |((with_reducible first|refine Xl ?_ ?_|refine Xk ?_ ?_)<;> intro h hari<;> try exact Xp)
 |refine Xw ?_
 |exact True.intro
 |(apply hκ.out;clear hκ κ))
    exact ⟨_, rfl, by rw [hV.out, HW.out]; rfl⟩
  | false =>
   clear hdn hlt
   repeat' (first
 |with_reducible first|apply Xa|apply Xb|(refine Xc ?_;intro κ hκ)|(apply hκ.out;clear hκ κ)|apply Xd|apply Xe|apply Xf
 |((with_reducible first|refine Xl ?_ ?_|refine Xk ?_ ?_)<;> intro h hari<;> try exact Xp)
 |refine Xw ?_
 |exact True.intro
 |(apply hκ.out;clear hκ κ))
   refine awp_loop (fun m s σ2 => ∃ (k : Nat) (V : Tx), m = 8 - k ∧ k ≤ 8 ∧ s 1 = ic base ∧ s 5 = str V ∧ s 8 = ic (7 - (k : Int)) ∧ σ2 = σ' ∧ V.length ≤ 4800 + k * 200 ∧ Abs.Hid (V = W ++ (([7, 6, 5, 4, 3, 2, 1, 0] : List Int).take k).flatMap (vT base))) 8
    ⟨0, W, by omega, by omega, by simp [upd, *], by simp [upd, *], by simp [upd], rfl, by omega, by simp [Abs.Hid]⟩ ?_
   clear h0 h1 h5 h6
   rintro m s σ2 ⟨k, V, rfl, hk, h1, h5, h8, rfl, hVl, hV⟩
   by_cases hk8 : k < 8
   ·have hN7 := hNu2 (7 - (k : Int)) (by omega) (by omega)
    have hnl := numT_len base (a := 7 - (k : Int)) (by omega) (by omega)
    have HV : Abs.Hid (∀ V', V' = V ++ vT base (7 - (k : Int)) → V' = W ++ (([7, 6, 5, 4, 3, 2, 1, 0] : List Int).take (k + 1)).flatMap (vT base)) := fun V' e => by
     rw [e, hV.out, ← KEY.out k hk, if_pos hk8]; simp
    have hge : decide ((7 - (k : Int)) ≥ 0) = true := by rw [decide_eq_true_eq]; omega
    have HVT : Abs.Hid (vT base (7 - (k : Int)) = [118, 40] ++ numT base (7 - (k : Int)) ++ [41, 46]) := rfl
    clear hNu2 hV
    generalize numT base (7 - (k : Int)) = nx at *
    repeat' (first
 |with_reducible first|apply Xa|apply Xb|(refine Xc ?_;intro κ hκ)|(apply hκ.out;clear hκ κ)|apply Xd|apply Xe|apply Xf
 |((with_reducible first|refine Xl ?_ ?_|refine Xk ?_ ?_)<;> intro h hari<;> try exact Xp)
 |((with_reducible refine Xh ?_);refine Xi (hN7 _) ?_;rintro _ _ ⟨rfl,rfl⟩)
 |refine Xw ?_
 |exact True.intro
 |(apply hκ.out;clear hκ κ))
    refine ⟨8 - (k + 1), by omega, k + 1, V ++ [118, 40] ++ nx ++ [41, 46], rfl, by omega, rfl, by congr 1; congr 1; omega, by simp; omega, HV.out _ (by rw [HVT.out]; simp)⟩
   ·have hk88 : k = 8 := by omega
    subst hk88
    have hge : decide ((7 - ((8 : Nat) : Int)) ≥ 0) = false := rfl
    repeat' (first
 |with_reducible first|apply Xa|apply Xb|(refine Xc ?_;intro κ hκ)|(apply hκ.out;clear hκ κ)|apply Xd|apply Xe|apply Xf
 |((with_reducible first|refine Xl ?_ ?_|refine Xk ?_ ?_)<;> intro h hari<;> try exact Xp)
 |refine Xw ?_
 |exact True.intro
 |(apply hκ.out;clear hκ κ))
    exact ⟨_, rfl, by rw [hV.out, HW.out]; rfl⟩
/- Roads: its own functions, walked: the map. -/
def enc8 (M : Nat → Nat → Bool) : List AV := (List.range 64).map fun n => sc (.bool (M (n / 8) (n % 8)))
def encM (E W : Nat → Nat → Bool) : List AV := enc8 E ++ enc8 W
theorem enc8_len (M : Nat → Nat → Bool) : (enc8 M).length = 64 := by simp [enc8]
theorem encM_len (E W : Nat → Nat → Bool) : (encM E W).length = 128 := by simp [encM, enc8_len]
theorem enc8_get (M : Nat → Nat → Bool) {i k : Nat} (hi : i < 8) (hk : k < 8) : (enc8 M)[i * 8 + k]? = some (sc (.bool (M i k))) := by
 have h1 : i * 8 + k < 64 := by omega
 have h2 : (i * 8 + k) / 8 = i := by omega
 have h3 : (i * 8 + k) % 8 = k := by omega
 simp [enc8, h1, h2, h3]
theorem enc8_set (M : Nat → Nat → Bool) {i k : Nat} (hi : i < 8) (hk : k < 8) (v : Bool) : (enc8 M).set (i * 8 + k) (sc (.bool v)) = enc8 (set2 M i k v) := by
 apply List.ext_getElem?
 intro n
 rw [List.getElem?_set]
 by_cases hn : n < 64
 ·by_cases he : i * 8 + k = n
  ·subst he
   have h2 : (i * 8 + k) / 8 = i := by omega
   have h3 : (i * 8 + k) % 8 = k := by omega
   simp [enc8, hn, h2, h3, set2]
  ·have : ¬ (n / 8 = i ∧ n % 8 = k) := by omega
   simp [enc8, hn, he, set2, this]
 ·have : i * 8 + k ≠ n := by omega
  simp [enc8, hn, this]
theorem encM_getW (E W : Nat → Nat → Bool) {i k : Nat} (hi : i < 8) (hk : k < 8) : (encM E W)[64 + i * 8 + k]? = some (sc (.bool (W i k))) := by
 unfold encM
 rw [List.getElem?_append_right (by rw [enc8_len]; omega), enc8_len, show 64 + i * 8 + k - 64 = i * 8 + k by omega, enc8_get _ hi hk]
theorem encM_setE (E W : Nat → Nat → Bool) {i k : Nat} (hi : i < 8) (hk : k < 8) (v : Bool) : (encM E W).set (i * 8 + k) (sc (.bool v)) = encM (set2 E i k v) W := by
 unfold encM
 rw [List.set_append_left _ _ (by rw [enc8_len]; omega), enc8_set _ hi hk]
theorem encM_setW (E W : Nat → Nat → Bool) {i k : Nat} (hi : i < 8) (hk : k < 8) (v : Bool) : (encM E W).set (64 + i * 8 + k) (sc (.bool v)) = encM E (set2 W i k v) := by
 unfold encM
 rw [List.set_append_right _ _ (by rw [enc8_len]; omega), enc8_len, show 64 + i * 8 + k - 64 = i * 8 + k by omega, enc8_set _ hi hk]
theorem encM_zero : arep 128 (.bool false) = encM (fun _ _ => false) (fun _ _ => false) := by
 apply List.ext_getElem?
 intro n
 unfold encM
 by_cases hn : n < 64
 ·rw [List.getElem?_append_left (by rw [enc8_len]; exact hn)]
  simp only [enc8, arep, cst1, List.getElem?_replicate, List.getElem?_map, List.getElem?_range hn, Option.map_some, show n < 128 by omega, if_true]
 ·rw [List.getElem?_append_right (by rw [enc8_len]; omega), enc8_len]
  by_cases hn2 : n - 64 < 64
  ·simp only [enc8, arep, cst1, List.getElem?_replicate, List.getElem?_map, List.getElem?_range hn2, Option.map_some, show n < 128 by omega, if_true]
  ·simp only [arep, List.getElem?_replicate, if_neg (show ¬ n < 128 by omega)]
   rw [List.getElem?_eq_none (by rw [enc8_len]; omega)]
def edM (E : List Int) (a b : Nat) : Bool := E.any fun x => decide (pkI x 64 / 8 = (a : Int)) && decide (pkI x 64 % 8 = (b : Int))
theorem edM_snoc (E : List Int) (x : Int) (i k : Nat) (hi : pkI x 64 / 8 = (i : Int)) (hk : pkI x 64 % 8 = (k : Int)) : edM (E ++ [x]) = set2 (edM E) i k true := by
 funext a b
 unfold edM set2
 rw [List.any_append]
 simp only [List.any_cons, List.any_nil, Bool.or_false, hi, hk]
 by_cases h : a = i ∧ b = k
 ·rw [if_pos h]; obtain ⟨rfl, rfl⟩ := h; simp
 ·rw [if_neg h]
  have : (decide ((i : Int) = (a : Int)) && decide ((k : Int) = (b : Int))) = false := by
   rw [Bool.and_eq_false_iff]
   by_cases e : a = i
   ·right; rw [decide_eq_false_iff_not]; intro e2; exact h ⟨e, by omega⟩
   ·left; rw [decide_eq_false_iff_not]; omega
  rw [this, Bool.or_false]
def wyM (E : List Int) : Nat → Nat → Bool := fwR 8 (edM (E.take 24)) 8
theorem edM_supp (E : List Int) : Supp 8 (edM E) := fun a b h => by
 unfold edM at h
 rw [List.any_eq_true] at h
 obtain ⟨x, -, h⟩ := h
 simp only [Bool.and_eq_true, decide_eq_true_eq] at h
 have := pkI_rng x (n := 64) (by omega)
 omega
theorem wyM_iff (E : List Int) (a b : Nat) : wyM E a b = true ↔ Way (fun a b => edM (E.take 24) a b = true) a b := fwR_iff (edM_supp _) a b
set_option maxHeartbeats 32000000 in
theorem kread_spec (E : List Int) (ide : Nat) (hE : ∀ x ∈ E, R64 x) (σ : St) : ACalls Tryz.prog 15 [sl ide E.length (icells E)] σ fun r σ' => ∃ o, r = ptr o 0 ∧ σ.nobj ≤ o ∧ o < σ'.nobj ∧ σ'.obj o = encM (edM (E.take 24)) (wyM E) ∧ Keep σ σ' := by
 have hel := icells_len E
 have hPk := fun (x : Int) (hx : x ∈ E) σ => kpickN_spec x 64 (hE x hx).1 (hE x hx).2 (by omega) (by omega) σ
 have hml := encM_len
 have h80 : ¬ ((8 : Int) = 0) := by decide
 have htk : ∀ A B, List.take 64 (encM A B) = enc8 A := fun A B => by unfold encM; rw [← enc8_len A, List.take_left]
 have hlp : ∀ A B C, lsp (encM A B) 64 (enc8 C) = encM A C := fun A B C => by
  rw [lsp_eq _ _ _ (by rw [encM_len, enc8_len]; omega), enc8_len, List.drop_of_length_le (by rw [encM_len]; omega), htk, List.append_nil]; rfl
 have h8l := enc8_len
 have h8f : ∀ A, (enc8 A).all flat = true := fun A => by simp [enc8, List.all_eq_true, flat]; intro x _; rfl
 refine acalls 90 [.tmp 2] Tryz.func15 rfl (by decide) rfl rfl (Nat.le_of_ble_eq_true rfl) ?_
 repeat' (first
 |with_reducible first|apply Xa|apply Xb|(refine Xc ?_;intro κ hκ)|(apply hκ.out;clear hκ κ)|apply Xd|apply Xe|apply Xf
 |((with_reducible first|refine Xl ?_ ?_|refine Xm ?_ ?_|refine Xk ?_ ?_)<;> intro h hari<;> try exact Xp)
 |refine Xw ?_
 |exact True.intro
 |((with_reducible refine Xg ?_);refine Xj ?_)
 |(apply hκ.out;clear hκ κ))
 refine awp_loop (fun m s σ' => ∃ (i : Nat), m = 24 - i ∧ i ≤ 24 ∧ i ≤ E.length ∧ s 0 = sl ide E.length (icells E) ∧ s 3 = ptr σ.nobj 0 ∧ s 4 = ic i ∧ Keep σ σ' ∧ σ.nobj < σ'.nobj ∧ σ'.obj σ.nobj = encM (edM (E.take i)) (fun _ _ => false)) 24
  ⟨0, by omega, by omega, by omega, by simp [upd, initS], by simp [upd], by simp [upd], by exact Xs, by simp only [new_nobj]; omega, ?_⟩ ?_
 ·rw [new_same, encM_zero, List.take_zero]; rfl
 rintro m s σ' ⟨i, rfl, hi, hiE, h0, h3, h4, hK, hno, ob⟩
 have kno := hK.nobj
 by_cases hlt : i < E.length ∧ i < 24
 ·obtain ⟨hl1, hl2⟩ := hlt
  have hget := List.getElem?_eq_getElem hl1
  obtain ⟨r, hd⟩ := icells_get hget
  have hxm := List.getElem_mem hl1
  generalize E[i] = x at hget hd hxm
  have hPx := hPk x hxm
  have hrx := pkI_rng x (n := 64) (by omega)
  obtain ⟨ea, hea⟩ : ∃ a : Nat, pkI x 64 / 8 = (a : Int) := ⟨(pkI x 64 / 8).toNat, by omega⟩
  obtain ⟨eb, heb⟩ : ∃ b : Nat, pkI x 64 % 8 = (b : Int) := ⟨(pkI x 64 % 8).toNat, by omega⟩
  have hq1 : (pkI x 64).tdiv 8 = (ea : Int) := by rw [Int.tdiv_eq_ediv_of_nonneg hrx.1, hea]
  have hq2 : (pkI x 64).tmod 8 = (eb : Int) := by rw [Int.tmod_eq_emod_of_nonneg hrx.1, heb]
  have hS := encM_setE (edM (E.take i)) (fun _ _ => false) (i := ea) (k := eb) (by omega) (by omega) true
  have HT : Abs.Hid (edM (E.take (i + 1)) = set2 (edM (E.take i)) ea eb true) := by rw [Abs.Hid, List.take_add_one, hget, Option.toList_some, edM_snoc _ _ _ _ hea heb]
  have hea8 : ea < 8 := by omega
  have heb8 : eb < 8 := by omega
  have hd1 : decide ((i : Int) < (E.length : Int)) = true := by rw [decide_eq_true_eq]; omega
  have hd2 : decide ((i : Int) < 24) = true := by rw [decide_eq_true_eq]; omega
  clear hget hPk hea heb
  generalize pkI x 64 = q at *
  repeat' (first
 |with_reducible first|apply Xa|apply Xb|(refine Xc ?_;intro κ hκ)|(apply hκ.out;clear hκ κ)|apply Xd|apply Xe|apply Xf
 |((with_reducible first|refine Xl ?_ ?_|refine Xm ?_ ?_|refine Xk ?_ ?_)<;> intro h hari<;> try exact Xp)
 |((with_reducible refine Xh ?_);refine Xi (hPx _) ?_;rintro _ _ ⟨rfl,rfl⟩)
 |refine Xw ?_
 |exact True.intro
 |((with_reducible refine Xg ?_);refine Xj ?_)
 |(apply hκ.out;clear hκ κ))
  refine ⟨24 - (i + 1), by omega, i + 1, ?_⟩
  rw [HT.out]
  first | exact ⟨rfl, by omega, by omega, by simp, hK.put (Nat.le_refl _) _, by omega, rfl⟩ | exact ⟨rfl, by omega, by omega, by simp, hK.put (Nat.le_refl _) _, rfl⟩ | exact ⟨rfl, by omega, by omega, by simp, hK.put (Nat.le_refl _) _, by omega⟩ | exact ⟨rfl, by omega, by omega, by simp, hK.put (Nat.le_refl _) _⟩ | trace_state
 ·have HE : Abs.Hid (E.take i = E.take 24) := by
   rw [Abs.Hid]
   by_cases e : i = 24
   ·rw [e]
   ·have : i = E.length := by omega
    rw [this, List.take_length, List.take_of_length_le (by omega)]
  rw [HE.out] at ob
  have hWY : Abs.Hid (wyM E = fwR 8 (edM (E.take 24)) 8) := rfl
  have hdn : (decide ((i : Int) < (E.length : Int)) = true → decide ((i : Int) < 24) = false) := fun h => by
   rw [decide_eq_true_eq] at h
   rw [decide_eq_false_iff_not]; omega
  clear hPk HE
  generalize edM (E.take 24) = M0 at *
  cases hdc : decide ((i : Int) < (E.length : Int)) with
  | true =>
   have hdd := hdn hdc
   clear hdn hlt
   repeat' (first
 |with_reducible first|apply Xa|apply Xb|(refine Xc ?_;intro κ hκ)|(apply hκ.out;clear hκ κ)|apply Xd|apply Xe|apply Xf
 |((with_reducible first|refine Xl ?_ ?_|refine Xm ?_ ?_|refine Xk ?_ ?_)<;> intro h hari<;> try exact Xp)
 |refine Xw ?_
 |exact True.intro
 |((with_reducible refine Xg ?_);refine Xj ?_)
 |(apply hκ.out;clear hκ κ))
   refine awp_loop (fun q s σ2 => ∃ m : Nat, q = 8 - m ∧ m ≤ 8 ∧ s 3 = ptr σ.nobj 0 ∧ s 6 = ic m ∧ Keep σ σ2 ∧ σ.nobj < σ2.nobj ∧ σ2.obj σ.nobj = encM M0 (fwR 8 M0 m)) 8
    ⟨0, by omega, by omega, by simp [upd, *], by simp [upd], hK.put (Nat.le_refl _) _, by simp only [put_nobj]; omega, by rw [put_same]; rfl⟩ ?_
   clear h0 h3 h4 hK hno ob kno
   rintro q s σ2 ⟨m, rfl, hm, h3, h6, hK, hno, ob⟩
   by_cases hlm : m < 8
   ·generalize hMm : fwR 8 M0 m = M at ob
    have HMm : Abs.Hid _ := hMm
    clear hMm
    repeat' (first
 |with_reducible first|apply Xa|apply Xb|(refine Xc ?_;intro κ hκ)|(apply hκ.out;clear hκ κ)|apply Xd|apply Xe|apply Xf
 |((with_reducible first|refine Xl ?_ ?_|refine Xm ?_ ?_|refine Xk ?_ ?_)<;> intro h hari<;> try exact Xp)
 |refine Xw ?_
 |exact True.intro
 |((with_reducible refine Xg ?_);refine Xj ?_)
 |(apply hκ.out;clear hκ κ))
    refine awp_loop (fun q s σ2 => ∃ (a : Nat) (W : Nat → Nat → Bool), q = 8 - a ∧ a ≤ 8 ∧ s 3 = ptr σ.nobj 0 ∧ s 6 = ic m ∧ s 7 = ic a ∧ Keep σ σ2 ∧ σ.nobj < σ2.nobj ∧ σ2.obj σ.nobj = encM M0 W ∧ part 8 M m a 0 W) 8
     ⟨0, M, by omega, by omega, by simp [upd, *], by simp [upd, *], by simp [upd], hK, hno, ob, part_zero⟩ ?_
    clear hK hno ob h3 h6
    rintro q s σ2 ⟨a, W, rfl, ha, h3, h6, h7, hK, hno, ob, hW⟩
    by_cases hla : a < 8
    ·repeat' (first
 |with_reducible first|apply Xa|apply Xb|(refine Xc ?_;intro κ hκ)|(apply hκ.out;clear hκ κ)|apply Xd|apply Xe|apply Xf
 |((with_reducible first|refine Xl ?_ ?_|refine Xm ?_ ?_|refine Xk ?_ ?_)<;> intro h hari<;> try exact Xp)
 |refine Xw ?_
 |exact True.intro
 |((with_reducible refine Xg ?_);refine Xj ?_)
 |(apply hκ.out;clear hκ κ))
     refine awp_loop (fun q s σ2 => ∃ (b : Nat) (W : Nat → Nat → Bool), q = 8 - b ∧ b ≤ 8 ∧ s 3 = ptr σ.nobj 0 ∧ s 6 = ic m ∧ s 7 = ic a ∧ s 8 = ic b ∧ Keep σ σ2 ∧ σ.nobj < σ2.nobj ∧ σ2.obj σ.nobj = encM M0 W ∧ part 8 M m a b W) 8
      ⟨0, W, by omega, by omega, by simp [upd, *], by simp [upd, *], by simp [upd, *], by simp [upd], hK, hno, ob, hW⟩ ?_
     clear hK hno ob h3 h6 h7 hW
     rintro q s σ2 ⟨b, W, rfl, hb, h3, h6, h7, h8, hK, hno, ob, hW⟩
     by_cases hlb : b < 8
     ·obtain ⟨v1, v2, v3⟩ := part_val hW hlb hlm
      have g1 := encM_getW M0 W (i := a) (k := b) hla hlb
      have g2 := encM_getW M0 W (i := a) (k := m) hla hlm
      have g3 := encM_getW M0 W (i := m) (k := b) hlm hlb
      have HV : Abs.Hid (W a b = M a b ∧ W a m = M a m ∧ W m b = M m b) := ⟨v1, v2, v3⟩
      clear v1 v2 v3
      repeat' (first
 |with_reducible first|apply Xa|apply Xb|(refine Xc ?_;intro κ hκ)|(apply hκ.out;clear hκ κ)|apply Xd|apply Xe|apply Xf
 |((with_reducible first|refine Xl ?_ ?_|refine Xm ?_ ?_|refine Xk ?_ ?_)<;> intro h hari<;> try exact Xp)
 |refine Xw ?_
 |exact True.intro
 |((with_reducible refine Xg ?_);refine Xj ?_)
 |(apply hκ.out;clear hκ κ))
      refine awp_draw_k follows_mixed (fun _ => True) [35] [0, 1, 2, 3, 4, 5, 6, 7, 8, 9, 10, 11, 12, 13, 14, 15, 16, 17, 18, 19, 20, 21, 22, 23, 24, 25, 26, 27, 28, 29, 30, 31, 32, 33] [34, 35] (by kernel_rfl) (fun _ _ _ h => h) ?_
      intro κ hκ
      refine Xw ?_
      repeat' (first
 |with_reducible first|apply Xa|apply Xb|(refine Xc ?_;intro κ hκ)|(apply hκ.out;clear hκ κ)|apply Xd|apply Xe|apply Xf
 |((with_reducible first|refine Xl ?_ ?_|refine Xm ?_ ?_|refine Xk ?_ ?_)<;> intro h hari<;> try exact Xp)
 |refine Xw ?_
 |exact True.intro
 |((with_reducible refine Xg ?_);refine Xj ?_)
 |(apply hκ.out;clear hκ κ))
      all_goals exact ⟨8 - (b + 1), by omega, b + 1, _, rfl, by omega, by simp, hK.put (Nat.le_refl _) _, encM_setW M0 W hla hlb _, part_set hW (by obtain ⟨e1, e2, e3⟩ := HV.out; rw [fw, ← e1, ← e2, ← e3]; simp [*])⟩
     ·have hbl : b = 8 := by omega
      subst hbl
      repeat' (first
 |with_reducible first|apply Xa|apply Xb|(refine Xc ?_;intro κ hκ)|(apply hκ.out;clear hκ κ)|apply Xd|apply Xe|apply Xf
 |((with_reducible first|refine Xl ?_ ?_|refine Xm ?_ ?_|refine Xk ?_ ?_)<;> intro h hari<;> try exact Xp)
 |refine Xw ?_
 |exact True.intro
 |((with_reducible refine Xg ?_);refine Xj ?_)
 |(apply hκ.out;clear hκ κ))
      exact ⟨8 - (a + 1), by omega, a + 1, W, rfl, by omega, by simp, rfl, part_row hW⟩
    ·have hal : a = 8 := by omega
     subst hal
     repeat' (first
 |with_reducible first|apply Xa|apply Xb|(refine Xc ?_;intro κ hκ)|(apply hκ.out;clear hκ κ)|apply Xd|apply Xe|apply Xf
 |((with_reducible first|refine Xl ?_ ?_|refine Xm ?_ ?_|refine Xk ?_ ?_)<;> intro h hari<;> try exact Xp)
 |refine Xw ?_
 |exact True.intro
 |((with_reducible refine Xg ?_);refine Xj ?_)
 |(apply hκ.out;clear hκ κ))
     refine ⟨8 - (m + 1), by omega, m + 1, rfl, by omega, by simp, ?_⟩
     rw [part_all hW, ← HMm.out]; rfl
   ·have hml8 : m = 8 := by omega
    subst hml8
    repeat' (first
 |with_reducible first|apply Xa|apply Xb|(refine Xc ?_;intro κ hκ)|(apply hκ.out;clear hκ κ)|apply Xd|apply Xe|apply Xf
 |((with_reducible first|refine Xl ?_ ?_|refine Xm ?_ ?_|refine Xk ?_ ?_)<;> intro h hari<;> try exact Xp)
 |refine Xw ?_
 |exact True.intro
 |((with_reducible refine Xg ?_);refine Xj ?_)
 |(apply hκ.out;clear hκ κ))
    exact ⟨_, rfl, σ.nobj, rfl, Nat.le_refl _, hno, by rw [hWY.out]; exact ob⟩
  | false =>
   clear hdn hlt
   repeat' (first
 |with_reducible first|apply Xa|apply Xb|(refine Xc ?_;intro κ hκ)|(apply hκ.out;clear hκ κ)|apply Xd|apply Xe|apply Xf
 |((with_reducible first|refine Xl ?_ ?_|refine Xm ?_ ?_|refine Xk ?_ ?_)<;> intro h hari<;> try exact Xp)
 |refine Xw ?_
 |exact True.intro
 |((with_reducible refine Xg ?_);refine Xj ?_)
 |(apply hκ.out;clear hκ κ))
   refine awp_loop (fun q s σ2 => ∃ m : Nat, q = 8 - m ∧ m ≤ 8 ∧ s 3 = ptr σ.nobj 0 ∧ s 6 = ic m ∧ Keep σ σ2 ∧ σ.nobj < σ2.nobj ∧ σ2.obj σ.nobj = encM M0 (fwR 8 M0 m)) 8
    ⟨0, by omega, by omega, by simp [upd, *], by simp [upd], hK.put (Nat.le_refl _) _, by simp only [put_nobj]; omega, by rw [put_same]; rfl⟩ ?_
   clear h0 h3 h4 hK hno ob kno
   rintro q s σ2 ⟨m, rfl, hm, h3, h6, hK, hno, ob⟩
   by_cases hlm : m < 8
   ·generalize hMm : fwR 8 M0 m = M at ob
    have HMm : Abs.Hid _ := hMm
    clear hMm
    repeat' (first
 |with_reducible first|apply Xa|apply Xb|(refine Xc ?_;intro κ hκ)|(apply hκ.out;clear hκ κ)|apply Xd|apply Xe|apply Xf
 |((with_reducible first|refine Xl ?_ ?_|refine Xm ?_ ?_|refine Xk ?_ ?_)<;> intro h hari<;> try exact Xp)
 |refine Xw ?_
 |exact True.intro
 |((with_reducible refine Xg ?_);refine Xj ?_)
 |(apply hκ.out;clear hκ κ))
    refine awp_loop (fun q s σ2 => ∃ (a : Nat) (W : Nat → Nat → Bool), q = 8 - a ∧ a ≤ 8 ∧ s 3 = ptr σ.nobj 0 ∧ s 6 = ic m ∧ s 7 = ic a ∧ Keep σ σ2 ∧ σ.nobj < σ2.nobj ∧ σ2.obj σ.nobj = encM M0 W ∧ part 8 M m a 0 W) 8
     ⟨0, M, by omega, by omega, by simp [upd, *], by simp [upd, *], by simp [upd], hK, hno, ob, part_zero⟩ ?_
    clear hK hno ob h3 h6
    rintro q s σ2 ⟨a, W, rfl, ha, h3, h6, h7, hK, hno, ob, hW⟩
    by_cases hla : a < 8
    ·repeat' (first
 |with_reducible first|apply Xa|apply Xb|(refine Xc ?_;intro κ hκ)|(apply hκ.out;clear hκ κ)|apply Xd|apply Xe|apply Xf
 |((with_reducible first|refine Xl ?_ ?_|refine Xm ?_ ?_|refine Xk ?_ ?_)<;> intro h hari<;> try exact Xp)
 |refine Xw ?_
 |exact True.intro
 |((with_reducible refine Xg ?_);refine Xj ?_)
 |(apply hκ.out;clear hκ κ))
     refine awp_loop (fun q s σ2 => ∃ (b : Nat) (W : Nat → Nat → Bool), q = 8 - b ∧ b ≤ 8 ∧ s 3 = ptr σ.nobj 0 ∧ s 6 = ic m ∧ s 7 = ic a ∧ s 8 = ic b ∧ Keep σ σ2 ∧ σ.nobj < σ2.nobj ∧ σ2.obj σ.nobj = encM M0 W ∧ part 8 M m a b W) 8
      ⟨0, W, by omega, by omega, by simp [upd, *], by simp [upd, *], by simp [upd, *], by simp [upd], hK, hno, ob, hW⟩ ?_
     clear hK hno ob h3 h6 h7 hW
     rintro q s σ2 ⟨b, W, rfl, hb, h3, h6, h7, h8, hK, hno, ob, hW⟩
     by_cases hlb : b < 8
     ·obtain ⟨v1, v2, v3⟩ := part_val hW hlb hlm
      have g1 := encM_getW M0 W (i := a) (k := b) hla hlb
      have g2 := encM_getW M0 W (i := a) (k := m) hla hlm
      have g3 := encM_getW M0 W (i := m) (k := b) hlm hlb
      have HV : Abs.Hid (W a b = M a b ∧ W a m = M a m ∧ W m b = M m b) := ⟨v1, v2, v3⟩
      clear v1 v2 v3
      repeat' (first
 |with_reducible first|apply Xa|apply Xb|(refine Xc ?_;intro κ hκ)|(apply hκ.out;clear hκ κ)|apply Xd|apply Xe|apply Xf
 |((with_reducible first|refine Xl ?_ ?_|refine Xm ?_ ?_|refine Xk ?_ ?_)<;> intro h hari<;> try exact Xp)
 |refine Xw ?_
 |exact True.intro
 |((with_reducible refine Xg ?_);refine Xj ?_)
 |(apply hκ.out;clear hκ κ))
      refine awp_draw_k follows_mixed (fun _ => True) [35] [0, 1, 2, 3, 4, 5, 6, 7, 8, 9, 10, 11, 12, 13, 14, 15, 16, 17, 18, 19, 20, 21, 22, 23, 24, 25, 26, 27, 28, 29, 30, 31, 32, 33] [34, 35] (by kernel_rfl) (fun _ _ _ h => h) ?_
      intro κ hκ
      refine Xw ?_
      repeat' (first
 |with_reducible first|apply Xa|apply Xb|(refine Xc ?_;intro κ hκ)|(apply hκ.out;clear hκ κ)|apply Xd|apply Xe|apply Xf
 |((with_reducible first|refine Xl ?_ ?_|refine Xm ?_ ?_|refine Xk ?_ ?_)<;> intro h hari<;> try exact Xp)
 |refine Xw ?_
 |exact True.intro
 |((with_reducible refine Xg ?_);refine Xj ?_)
 |(apply hκ.out;clear hκ κ))
      all_goals exact ⟨8 - (b + 1), by omega, b + 1, _, rfl, by omega, by simp, hK.put (Nat.le_refl _) _, encM_setW M0 W hla hlb _, part_set hW (by obtain ⟨e1, e2, e3⟩ := HV.out; rw [fw, ← e1, ← e2, ← e3]; simp [*])⟩
     ·have hbl : b = 8 := by omega
      subst hbl
      repeat' (first
 |with_reducible first|apply Xa|apply Xb|(refine Xc ?_;intro κ hκ)|(apply hκ.out;clear hκ κ)|apply Xd|apply Xe|apply Xf
 |((with_reducible first|refine Xl ?_ ?_|refine Xm ?_ ?_|refine Xk ?_ ?_)<;> intro h hari<;> try exact Xp)
 |refine Xw ?_
 |exact True.intro
 |((with_reducible refine Xg ?_);refine Xj ?_)
 |(apply hκ.out;clear hκ κ))
      exact ⟨8 - (a + 1), by omega, a + 1, W, rfl, by omega, by simp, rfl, part_row hW⟩
    ·have hal : a = 8 := by omega
     subst hal
     repeat' (first
 |with_reducible first|apply Xa|apply Xb|(refine Xc ?_;intro κ hκ)|(apply hκ.out;clear hκ κ)|apply Xd|apply Xe|apply Xf
 |((with_reducible first|refine Xl ?_ ?_|refine Xm ?_ ?_|refine Xk ?_ ?_)<;> intro h hari<;> try exact Xp)
 |refine Xw ?_
 |exact True.intro
 |((with_reducible refine Xg ?_);refine Xj ?_)
 |(apply hκ.out;clear hκ κ))
     refine ⟨8 - (m + 1), by omega, m + 1, rfl, by omega, by simp, ?_⟩
     rw [part_all hW, ← HMm.out]; rfl
   ·have hml8 : m = 8 := by omega
    subst hml8
    repeat' (first
 |with_reducible first|apply Xa|apply Xb|(refine Xc ?_;intro κ hκ)|(apply hκ.out;clear hκ κ)|apply Xd|apply Xe|apply Xf
 |((with_reducible first|refine Xl ?_ ?_|refine Xm ?_ ?_|refine Xk ?_ ?_)<;> intro h hari<;> try exact Xp)
 |refine Xw ?_
 |exact True.intro
 |((with_reducible refine Xg ?_);refine Xj ?_)
 |(apply hκ.out;clear hκ κ))
    exact ⟨_, rfl, σ.nobj, rfl, Nat.le_refl _, hno, by rw [hWY.out]; exact ob⟩
end Go.Proofs.YtmoeoppbmhfbpaaGreatDoorE
