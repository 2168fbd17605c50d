import Derived.Test.YtmoeoppbmhfbpaaGreatDoorYRefE
/- The document's own answer: which rule comes to which. -/
namespace Go.Proofs.YtmoeoppbmhfbpaaGreatDoorY
open Go.Abs
set_option linter.unusedSimpArgs false
set_option linter.unusedVariables false
set_option maxRecDepth 100000
def encW (M : Nat → Nat → Bool) : List AV := (List.range 256).map fun n => sc (.bool (M (n / 16) (n % 16)))
def set2 (M : Nat → Nat → Bool) (i k : Nat) (v : Bool) : Nat → Nat → Bool := fun a b => if a = i ∧ b = k then v else M a b
theorem encW_len (M : Nat → Nat → Bool) : (encW M).length = 256 := by simp [encW]
theorem encW_get (M : Nat → Nat → Bool) {i k : Nat} (hi : i < 16) (hk : k < 16) : (encW M)[i * 16 + k]? = some (sc (.bool (M i k))) := by
 have h1 : i * 16 + k < 256 := by omega
 have h2 : (i * 16 + k) / 16 = i := by omega
 have h3 : (i * 16 + k) % 16 = k := by omega
 simp [encW, h1, h2, h3]
theorem encW_set (M : Nat → Nat → Bool) {i k : Nat} (hi : i < 16) (hk : k < 16) (v : Bool) : (encW M).set (i * 16 + k) (sc (.bool v)) = encW (set2 M i k v) := by
 apply List.ext_getElem?
 intro n
 rw [List.getElem?_set]
 by_cases hn : n < 256
 ·by_cases he : i * 16 + k = n
  ·subst he
   have h2 : (i * 16 + k) / 16 = i := by omega
   have h3 : (i * 16 + k) % 16 = k := by omega
   simp [encW, hn, h2, h3, set2]
  ·have : ¬ (n / 16 = i ∧ n % 16 = k) := by omega
   simp [encW, hn, he, set2, this]
 ·have : i * 16 + k ≠ n := by omega
  simp [encW, hn, this]
theorem encW_zero : arep 256 (.bool false) = encW fun _ _ => false := by
 apply List.ext_getElem?
 intro n
 by_cases hn : n < 256
 ·simp only [encW, arep, cst1, List.getElem?_replicate, List.getElem?_map, List.getElem?_range hn, Option.map_some, hn, if_true]
 ·simp only [arep, List.getElem?_replicate, if_neg hn]
  rw [List.getElem?_eq_none (by rw [encW_len]; omega)]
theorem EL_item {l : List RItem} {cs : List AV} {i : Nat} {x : RItem} (h : EL EItem l cs) (hi : l[i]? = some x) : ∃ ih id b r, EL EAtom x.body b ∧ cs.drop (i * 5) = sc (.bool x.out) :: sc (.bool x.head.nt) :: str x.head.pred :: sl ih x.head.terms.length (x.head.terms.map str) :: sl id x.body.length b :: r := by
 obtain ⟨c, r, hc, e⟩ := EL.get EItem_len h hi
 obtain ⟨ih, id, b, hb, rfl⟩ := hc.cells
 exact ⟨ih, id, b, r, hb, e⟩
def edge (l : List RItem) (i k : Nat) : Bool :=
 match l[i]?, l[k]? with
 | some x, some y => !y.out && x.body.any fun a => a.pred == y.head.pred
 | _, _ => false
def laid1 (l : List RItem) (i k : Nat) (M : Nat → Nat → Bool) : Prop := ∀ a b, M a b = if (a < i ∧ b < l.length) ∨ (a = i ∧ b < k) then edge l a b else false
theorem lsp_whole {l xs : List AV} (h : xs.length = l.length) : lsp l 0 xs = xs := by
 rw [lsp_eq _ _ _ (by omega), Nat.zero_add, h, List.drop_length]; simp
def fw (M : Nat → Nat → Bool) (m : Nat) : Nat → Nat → Bool := fun i k => M i k || (M i m && M m k)
def fwN (n : Nat) (M : Nat → Nat → Bool) (m : Nat) : Nat → Nat → Bool := fun i k => if i < n ∧ k < n then fw M m i k else M i k
def fwR (n : Nat) (M : Nat → Nat → Bool) : Nat → Nat → Nat → Bool
 | 0 => M
 | m + 1 => fwN n (fwR n M m) m
def part (n : Nat) (M : Nat → Nat → Bool) (m i k : Nat) (W : Nat → Nat → Bool) : Prop := ∀ a b, W a b = if (a < i ∧ b < n) ∨ (a = i ∧ b < k) then fw M m a b else M a b
def webM (l : List RItem) : Nat → Nat → Bool := fwR l.length (fun a b => if a < l.length ∧ b < l.length then edge l a b else false) l.length
theorem part_val {n : Nat} {M W : Nat → Nat → Bool} {m i k : Nat} (h : part n M m i k W) (hk : k < n) (hm : m < n) : W i k = M i k ∧ W i m = M i m ∧ W m k = M m k := by
 refine ⟨?_, ?_, ?_⟩
 ·rw [h, if_neg (by omega)]
 ·rw [h]; split
  ·unfold fw; cases M i m <;> simp
  ·rfl
 ·rw [h]; split
  ·unfold fw; cases M m k <;> simp
  ·rfl
theorem part_set {n : Nat} {M W : Nat → Nat → Bool} {m i k : Nat} (h : part n M m i k W) {v : Bool} (hv : v = fw M m i k) : part n M m i (k + 1) (set2 W i k v) := by
 intro a b
 unfold set2
 by_cases hab : a = i ∧ b = k
 ·obtain ⟨rfl, rfl⟩ := hab
  rw [if_pos ⟨rfl, rfl⟩, if_pos (by omega)]; exact hv
 ·rw [if_neg hab, h]
  by_cases hc : (a < i ∧ b < n) ∨ (a = i ∧ b < k)
  ·rw [if_pos hc, if_pos (by omega)]
  ·rw [if_neg hc, if_neg (by omega)]
theorem part_row {n : Nat} {M W : Nat → Nat → Bool} {m i : Nat} (h : part n M m i n W) : part n M m (i + 1) 0 W := by
 intro a b; rw [h]
 by_cases hc : (a < i ∧ b < n) ∨ (a = i ∧ b < n)
 ·rw [if_pos hc, if_pos (by omega)]
 ·rw [if_neg hc, if_neg (by omega)]
theorem part_zero {n : Nat} {M : Nat → Nat → Bool} {m : Nat} : part n M m 0 0 M := by intro a b; rw [if_neg (by omega)]
theorem part_all {n : Nat} {M W : Nat → Nat → Bool} {m : Nat} (h : part n M m n 0 W) : W = fwN n M m := by
 funext a b; rw [h]; unfold fwN
 by_cases hc : a < n ∧ b < n
 ·rw [if_pos (by omega), if_pos hc]
 ·rw [if_neg (by omega), if_neg hc]
theorem laid_set {l : List RItem} {M : Nat → Nat → Bool} {i k : Nat} (h : laid1 l i k M) (v : Bool) (hv : v = edge l i k) : laid1 l i (k + 1) (set2 M i k v) := by
 intro a b
 unfold set2
 by_cases hab : a = i ∧ b = k
 ·obtain ⟨rfl, rfl⟩ := hab
  rw [if_pos ⟨rfl, rfl⟩, if_pos (by omega)]; exact hv
 ·rw [if_neg hab, h]
  by_cases hc : (a < i ∧ b < l.length) ∨ (a = i ∧ b < k)
  ·rw [if_pos hc, if_pos (by omega)]
  ·rw [if_neg hc, if_neg (by omega)]
theorem laid_row {l : List RItem} {M : Nat → Nat → Bool} {i : Nat} (h : laid1 l i l.length M) : laid1 l (i + 1) 0 M := by
 intro a b; rw [h]
 by_cases hc : (a < i ∧ b < l.length) ∨ (a = i ∧ b < l.length)
 ·rw [if_pos hc, if_pos (by omega)]
 ·rw [if_neg hc, if_neg (by omega)]
theorem laid_all {l : List RItem} {M : Nat → Nat → Bool} (h : laid1 l l.length 0 M) : M = fun a b => if a < l.length ∧ b < l.length then edge l a b else false := by
 funext a b; rw [h]
 by_cases hc : a < l.length ∧ b < l.length
 ·rw [if_pos (by omega), if_pos hc]
 ·rw [if_neg (by omega), if_neg hc]
set_option maxHeartbeats 16000000 in
theorem web_spec (l : List RItem) (cs : List AV) (idl : Nat) (hE : EL EItem l cs) (hl : l.length ≤ 16) (hf : ∀ x ∈ l, x.fits) (σ : St) : ACalls Tryz.prog 178 [sl idl l.length cs] σ fun r σ' => r = ag (encW (webM l)) ∧ Keep σ σ' := by
 have hcl := EL.length EItem_len hE
 have hwl := encW_len
 refine acalls 86 [.cell 2 228] Tryz.func178 rfl (by decide) rfl rfl (Nat.le_of_ble_eq_true rfl) ?_
 repeat' (first
 |with_reducible first|apply Xa|apply Xb|(refine Xc ?_;intro κ hκ)|(apply hκ.out;clear hκ κ)|apply Xd|apply Xe|apply Xf
 |((with_reducible first|refine Xl ?_ ?_|refine Xm ?_ ?_|refine Xk ?_ ?_)<;> intro h hari<;> try exact Xp)
 |refine Xr ?_
 |exact True.intro
 |((with_reducible refine Xg ?_);refine Xj ?_)
 |(apply hκ.out;clear hκ κ))
 refine awp_loop (fun m s σ' => ∃ (i : Nat) (M : Nat → Nat → Bool), m = l.length - i ∧ i ≤ l.length ∧ s 0 = sl idl l.length cs ∧ s 2 = ptr σ.nobj 0 ∧ s 3 = ptr (σ.nobj + 1) 0 ∧ s 4 = sc (.int .i64 i) ∧ Keep σ σ' ∧ σ'.obj (σ.nobj + 1) = encW M ∧ σ.nobj + 1 < σ'.nobj ∧ (σ'.obj σ.nobj).length = 256 ∧ laid1 l i 0 M) l.length
  ⟨0, fun _ _ => false, by omega, by omega, rfl, rfl, rfl, rfl, by exact Xs, by rw [new_at (by rw [new_nobj]; exact Nat.le_refl _) (by rw [new_nobj]; exact Nat.le_refl _), encW_zero], by simp [new_nobj], by rw [new_lt (by rw [new_nobj]; omega), new_same, encW_zero, encW_len], by simp [laid1]⟩ ?_
 rintro m s σ' ⟨i, M, rfl, hi, h0, h2, h3, h4, hK, ho, hn, hr, hM⟩
 by_cases hlt : i < l.length
 ·repeat' (first
 |with_reducible first|apply Xa|apply Xb|(refine Xc ?_;intro κ hκ)|(apply hκ.out;clear hκ κ)|apply Xd|apply Xe|apply Xf
 |((with_reducible first|refine Xl ?_ ?_|refine Xm ?_ ?_|refine Xk ?_ ?_)<;> intro h hari<;> try exact Xp)
 |refine Xr ?_
 |exact True.intro
 |((with_reducible refine Xg ?_);refine Xj ?_)
 |(apply hκ.out;clear hκ κ))
  refine awp_loop (fun m s σ' => ∃ (k : Nat) (M : Nat → Nat → Bool), m = l.length - k ∧ k ≤ l.length ∧ s 0 = sl idl l.length cs ∧ s 2 = ptr σ.nobj 0 ∧ s 3 = ptr (σ.nobj + 1) 0 ∧ s 4 = sc (.int .i64 i) ∧ s 5 = sc (.int .i64 k) ∧ Keep σ σ' ∧ σ'.obj (σ.nobj + 1) = encW M ∧ σ.nobj + 1 < σ'.nobj ∧ (σ'.obj σ.nobj).length = 256 ∧ laid1 l i k M) l.length
   ⟨0, M, by omega, by omega, by simp [upd, h0], by simp [upd, h2], by simp [upd, h3], by simp [upd, h4], rfl, hK, ho, hn, hr, hM⟩ ?_
  clear hK ho hn hr hM
  rintro m s σ' ⟨k, M, rfl, hk, h0, h2, h3, h4, h5, hK, ho, hn, hr, hM⟩
  by_cases hlt2 : k < l.length
  ·obtain ⟨ih1, id1, b1, r1, hb1, hd1⟩ := EL_item hE (List.getElem?_eq_getElem hlt)
   obtain ⟨ih2, id2, b2, r2, hb2, hd2⟩ := EL_item hE (List.getElem?_eq_getElem hlt2)
   have hf1 := hf l[i] (List.getElem_mem hlt)
   repeat' (first
 |with_reducible first|apply Xa|apply Xb|(refine Xc ?_;intro κ hκ)|(apply hκ.out;clear hκ κ)|apply Xd|apply Xe|apply Xf
 |((with_reducible first|refine Xl ?_ ?_|refine Xm ?_ ?_|refine Xk ?_ ?_)<;> intro h hari<;> try exact Xp)
 |refine Xr ?_
 |exact True.intro
 |((with_reducible refine Xg ?_);refine Xj ?_)
 |(apply hκ.out;clear hκ κ))
   refine awp_draw_k follows_mixed (fun _ => True) [23] [0, 1, 2, 3, 4, 5, 6, 7, 8, 9, 10, 11, 12, 13, 14, 15, 16, 17, 18, 21] [19, 20, 22, 23] (by kernel_rfl) (fun _ _ _ h => h) ?_
   intro κ hκ
   refine Xr ?_
   repeat' (first
 |with_reducible first|apply Xa|apply Xb|(refine Xc ?_;intro κ hκ)|(apply hκ.out;clear hκ κ)|apply Xd|apply Xe|apply Xf
 |((with_reducible first|refine Xl ?_ ?_|refine Xm ?_ ?_|refine Xk ?_ ?_)<;> intro h hari<;> try exact Xp)
 |((with_reducible refine Xh ?_);refine Xi (names_spec _ _ _ (EItem.of hb1) (by have:=hf1.1;omega) _) ?_;rintro _ _ ⟨rfl,hKn⟩;(have kob:=hKn.obj;have kno:=hKn.nobj))
 |refine Xr ?_
 |exact True.intro
 |((with_reducible refine Xg ?_);refine Xj ?_)
 |(apply hκ.out;clear hκ κ))
   ·exact ⟨l.length - (k + 1), by omega, k + 1, _, rfl, by omega, by simp, (hK.trans hKn).put (by omega) _, encW_set M (by omega) (by omega) _, by omega, laid_set hM _ (by simp [edge, hlt, hlt2, *])⟩
   ·exact ⟨l.length - (k + 1), by omega, k + 1, _, rfl, by omega, by simp, hK.put (by omega) _, encW_set M (by omega) (by omega) _, laid_set hM _ (by simp [edge, hlt, hlt2, *])⟩
  ·have hkl : k = l.length := by omega
   subst hkl
   repeat' (first
 |with_reducible first|apply Xa|apply Xb|(refine Xc ?_;intro κ hκ)|(apply hκ.out;clear hκ κ)|apply Xd|apply Xe|apply Xf
 |((with_reducible first|refine Xl ?_ ?_|refine Xm ?_ ?_|refine Xk ?_ ?_)<;> intro h hari<;> try exact Xp)
 |refine Xr ?_
 |exact True.intro
 |((with_reducible refine Xg ?_);refine Xj ?_)
 |(apply hκ.out;clear hκ κ))
   exact ⟨l.length - (i + 1), by omega, i + 1, M, rfl, by omega, by simp, rfl, laid_row hM⟩
 ·have hil : i = l.length := by omega
  subst hil
  have hM' := laid_all hM
  subst hM'
  clear hM
  repeat' (first
 |with_reducible first|apply Xa|apply Xb|(refine Xc ?_;intro κ hκ)|(apply hκ.out;clear hκ κ)|apply Xd|apply Xe|apply Xf
 |((with_reducible first|refine Xl ?_ ?_|refine Xm ?_ ?_|refine Xk ?_ ?_)<;> intro h hari<;> try exact Xp)
 |refine Xr ?_
 |exact True.intro
 |((with_reducible refine Xg ?_);refine Xj ?_)
 |(apply hκ.out;clear hκ κ))
  generalize hM0 : (fun (a b : Nat) => if a < l.length ∧ b < l.length then edge l a b else false) = M0 at ho
  have HM0 : Abs.Hid _ := hM0
  clear hM0
  refine awp_loop (fun q s σ' => ∃ m : Nat, q = l.length - m ∧ m ≤ l.length ∧ s 0 = sl idl l.length cs ∧ s 2 = ptr σ.nobj 0 ∧ s 3 = ptr (σ.nobj + 1) 0 ∧ s 6 = sc (.int .i64 m) ∧ Keep σ σ' ∧ σ'.obj (σ.nobj + 1) = encW (fwR l.length M0 m) ∧ σ.nobj + 1 < σ'.nobj ∧ (σ'.obj σ.nobj).length = 256) l.length
   ⟨0, by omega, by omega, by simp [upd, h0], by simp [upd, h2], by simp [upd, h3], rfl, hK, ho, hn, hr⟩ ?_
  clear hK ho hn hr h0 h2 h3 h4 h hari hlt hi
  rintro q s σ' ⟨m, rfl, hm, h0, h2, h3, h6, hK, ho, hn, hr⟩
  by_cases hlt : m < l.length
  ·generalize hMm : fwR l.length M0 m = M at ho
   have HMm : Abs.Hid _ := hMm
   clear hMm
   repeat' (first
 |with_reducible first|apply Xa|apply Xb|(refine Xc ?_;intro κ hκ)|(apply hκ.out;clear hκ κ)|apply Xd|apply Xe|apply Xf
 |((with_reducible first|refine Xl ?_ ?_|refine Xm ?_ ?_|refine Xk ?_ ?_)<;> intro h hari<;> try exact Xp)
 |refine Xr ?_
 |exact True.intro
 |((with_reducible refine Xg ?_);refine Xj ?_)
 |(apply hκ.out;clear hκ κ))
   refine awp_loop (fun q s σ' => ∃ (i : Nat) (W : Nat → Nat → Bool), q = l.length - i ∧ i ≤ l.length ∧ s 0 = sl idl l.length cs ∧ s 2 = ptr σ.nobj 0 ∧ s 3 = ptr (σ.nobj + 1) 0 ∧ s 6 = sc (.int .i64 m) ∧ s 7 = sc (.int .i64 i) ∧ Keep σ σ' ∧ σ'.obj (σ.nobj + 1) = encW W ∧ σ.nobj + 1 < σ'.nobj ∧ (σ'.obj σ.nobj).length = 256 ∧ part l.length M m i 0 W) l.length
    ⟨0, M, by omega, by omega, by simp [upd, h0], by simp [upd, h2], by simp [upd, h3], by simp [upd, h6], rfl, hK, ho, hn, hr, part_zero⟩ ?_
   clear hK ho hn hr h0 h2 h3 h6
   rintro q s σ' ⟨i, W, rfl, hi, h0, h2, h3, h6, h7, hK, ho, hn, hr, hW⟩
   by_cases hlt2 : i < l.length
   ·repeat' (first
 |with_reducible first|apply Xa|apply Xb|(refine Xc ?_;intro κ hκ)|(apply hκ.out;clear hκ κ)|apply Xd|apply Xe|apply Xf
 |((with_reducible first|refine Xl ?_ ?_|refine Xm ?_ ?_|refine Xk ?_ ?_)<;> intro h hari<;> try exact Xp)
 |refine Xr ?_
 |exact True.intro
 |((with_reducible refine Xg ?_);refine Xj ?_)
 |(apply hκ.out;clear hκ κ))
    refine awp_loop (fun q s σ' => ∃ (k : Nat) (W : Nat → Nat → Bool), q = l.length - k ∧ k ≤ l.length ∧ s 0 = sl idl l.length cs ∧ s 2 = ptr σ.nobj 0 ∧ s 3 = ptr (σ.nobj + 1) 0 ∧ s 6 = sc (.int .i64 m) ∧ s 7 = sc (.int .i64 i) ∧ s 8 = sc (.int .i64 k) ∧ Keep σ σ' ∧ σ'.obj (σ.nobj + 1) = encW W ∧ σ.nobj + 1 < σ'.nobj ∧ (σ'.obj σ.nobj).length = 256 ∧ part l.length M m i k W) l.length
     ⟨0, W, by omega, by omega, by simp [upd, h0], by simp [upd, h2], by simp [upd, h3], by simp [upd, h6], by simp [upd, h7], rfl, hK, ho, hn, hr, hW⟩ ?_
    clear hK ho hn hr h0 h2 h3 h6 h7 hW
    rintro q s σ' ⟨k, W, rfl, hk, h0, h2, h3, h6, h7, h8, hK, ho, hn, hr, hW⟩
    by_cases hlt3 : k < l.length
    ·obtain ⟨v1, v2, v3⟩ := part_val hW hlt3 hlt
     have g1 := encW_get W (i := i) (k := k) (by omega) (by omega)
     have g2 := encW_get W (i := i) (k := m) (by omega) (by omega)
     have g3 := encW_get W (i := m) (k := k) (by omega) (by omega)
     have HV : Abs.Hid (W i k = M i k ∧ W i m = M i m ∧ W m k = M m k) := ⟨v1, v2, v3⟩
     clear v1 v2 v3
     repeat' (first
 |with_reducible first|apply Xa|apply Xb|(refine Xc ?_;intro κ hκ)|(apply hκ.out;clear hκ κ)|apply Xd|apply Xe|apply Xf
 |((with_reducible first|refine Xl ?_ ?_|refine Xm ?_ ?_|refine Xk ?_ ?_)<;> intro h hari<;> try exact Xp)
 |refine Xr ?_
 |exact True.intro
 |((with_reducible refine Xg ?_);refine Xj ?_)
 |(apply hκ.out;clear hκ κ))
     refine awp_draw_k follows_mixed (fun _ => True) [23] [0, 1, 2, 3, 4, 5, 6, 7, 8, 9, 10, 11, 12, 13, 14, 15, 16, 17, 18, 19, 20, 21] [22, 23] (by kernel_rfl) (fun _ _ _ h => h) ?_
     intro κ hκ
     refine Xr ?_
     repeat' (first
 |with_reducible first|apply Xa|apply Xb|(refine Xc ?_;intro κ hκ)|(apply hκ.out;clear hκ κ)|apply Xd|apply Xe|apply Xf
 |((with_reducible first|refine Xl ?_ ?_|refine Xm ?_ ?_|refine Xk ?_ ?_)<;> intro h hari<;> try exact Xp)
 |refine Xr ?_
 |exact True.intro
 |((with_reducible refine Xg ?_);refine Xj ?_)
 |(apply hκ.out;clear hκ κ))
     all_goals exact ⟨l.length - (k + 1), by omega, k + 1, _, rfl, by omega, by simp, hK.put (by omega) _, encW_set W (by omega) (by omega) _, part_set hW (by have hv := HV.out; simp_all [fw])⟩
    ·have hkl : k = l.length := by omega
     subst hkl
     repeat' (first
 |with_reducible first|apply Xa|apply Xb|(refine Xc ?_;intro κ hκ)|(apply hκ.out;clear hκ κ)|apply Xd|apply Xe|apply Xf
 |((with_reducible first|refine Xl ?_ ?_|refine Xm ?_ ?_|refine Xk ?_ ?_)<;> intro h hari<;> try exact Xp)
 |refine Xr ?_
 |exact True.intro
 |((with_reducible refine Xg ?_);refine Xj ?_)
 |(apply hκ.out;clear hκ κ))
     exact ⟨l.length - (i + 1), by omega, i + 1, W, rfl, by omega, by simp, rfl, part_row hW⟩
   ·have hil : i = l.length := by omega
    subst hil
    repeat' (first
 |with_reducible first|apply Xa|apply Xb|(refine Xc ?_;intro κ hκ)|(apply hκ.out;clear hκ κ)|apply Xd|apply Xe|apply Xf
 |((with_reducible first|refine Xl ?_ ?_|refine Xm ?_ ?_|refine Xk ?_ ?_)<;> intro h hari<;> try exact Xp)
 |refine Xr ?_
 |exact True.intro
 |((with_reducible refine Xg ?_);refine Xj ?_)
 |(apply hκ.out;clear hκ κ))
    refine ⟨l.length - (m + 1), by omega, m + 1, rfl, by omega, by simp, ?_⟩
    rw [part_all hW, ← HMm.out]; rfl
  ·have hml : m = l.length := by omega
   subst hml
   have htk : ∀ M, List.take 256 (encW M) = encW M := fun M => List.take_of_length_le (by rw [encW_len]; exact Nat.le_refl _)
   have hls : ∀ M, lsp (σ'.obj σ.nobj) 0 (encW M) = encW M := fun M => lsp_whole (by rw [encW_len, hr])
   repeat' (first
 |with_reducible first|apply Xa|apply Xb|(refine Xc ?_;intro κ hκ)|(apply hκ.out;clear hκ κ)|apply Xd|apply Xe|apply Xf
 |((with_reducible first|refine Xl ?_ ?_|refine Xm ?_ ?_|refine Xk ?_ ?_)<;> intro h hari<;> try exact Xp)
 |refine Xr ?_
 |exact True.intro
 |((with_reducible refine Xg ?_);refine Xj ?_)
 |(apply hκ.out;clear hκ κ))
   exact ⟨_, rfl, by rw [webM, HM0.out], hK.put (Nat.le_refl _) _⟩
end Go.Proofs.YtmoeoppbmhfbpaaGreatDoorY
