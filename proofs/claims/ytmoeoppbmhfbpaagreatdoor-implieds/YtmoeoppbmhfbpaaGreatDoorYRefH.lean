import Derived.Test.YtmoeoppbmhfbpaaGreatDoorYRefG
/- The document's own answer: uses, knots, odd numbers of terms, what is wrong. -/
namespace Go.Proofs.YtmoeoppbmhfbpaaGreatDoorY
open Go.Abs
set_option linter.unusedSimpArgs false
set_option linter.unusedVariables false
set_option maxRecDepth 100000
def headOf (l : List RItem) (i : Nat) : List UInt8 := match l[i]? with | some x => x.head.pred | none => []
def hitU (l : List RItem) (p q : List UInt8) (i k : Nat) : Bool := webM l i k && headOf l i == p && headOf l k == q
def usesB (l : List RItem) (p q : List UInt8) : Bool := (List.range l.length).any fun i => (List.range l.length).any fun k => hitU l p q i k
def noU1 (l : List RItem) (p q : List UInt8) (i : Nat) : Prop := ∀ a, a < i → ∀ b, b < l.length → hitU l p q a b = false
def noU2 (l : List RItem) (p q : List UInt8) (i k : Nat) : Prop := ∀ b, b < k → hitU l p q i b = false
set_option maxHeartbeats 8000000 in
theorem uses_spec (l : List RItem) (cs : List AV) (idl : Nat) (p q : List UInt8) (hE : EL EItem l cs) (hl : l.length ≤ 16) (hf : ∀ x ∈ l, x.fits) (σ : St) : ACalls Tryz.prog 190 [sl idl l.length cs, str p, str q] σ fun r σ' => r = sc (.bool (usesB l p q)) ∧ Keep σ σ' := by
 have hcl := EL.length EItem_len hE
 have hwl := encW_len
 have htk : ∀ M, List.take 256 (encW M) = encW M := fun M => List.take_of_length_le (by rw [encW_len]; exact Nat.le_refl _)
 have hls : ∀ M, lsp (arep 256 (.bool false)) 0 (encW M) = encW M := fun M => lsp_whole (by rw [encW_len]; simp [arep])
 have hal : (arep 256 (.bool false)).length = 256 := by simp [arep]
 have hfl : ∀ M, (encW M).all flat = true := fun M => by simp [encW, flat, Value.oneCell']
 refine acalls 49 [.tmp 6] Tryz.func190 rfl (by decide) rfl rfl (Nat.le_of_ble_eq_true rfl) ?_
 repeat' (first
 |with_reducible first|apply Xa|apply Xb|(refine Xc ?_;intro κ hκ)|(apply hκ.out;clear hκ κ)|apply Xd|apply Xe|apply Xf
 |((with_reducible first|refine Xl ?_ ?_|refine Xk ?_ ?_)<;> intro h hari<;> try exact Xp)
 |((with_reducible refine Xh ?_);refine Xi (web_spec l cs idl hE hl hf _) ?_;rintro _ _ ⟨rfl,hKw⟩)
 |refine Xr ?_
 |exact True.intro
 |(apply hκ.out;clear hκ κ))
 rename_i σ1
 have hτo : ((σ1.new (arep 256 (.bool false))).put σ1.nobj (encW (webM l))).obj σ1.nobj = encW (webM l) := put_same
 have hτK : Keep σ ((σ1.new (arep 256 (.bool false))).put σ1.nobj (encW (webM l))) := (hKw.new _).put hKw.nobj _
 generalize (σ1.new (arep 256 (.bool false))).put σ1.nobj (encW (webM l)) = τ at hτo hτK
 refine awp_loop (fun m s σ' => ∃ i : Nat, m = l.length - i ∧ i ≤ l.length ∧ s 0 = sl idl l.length cs ∧ s 1 = str p ∧ s 2 = str q ∧ s 7 = ptr σ1.nobj 0 ∧ s 8 = sc (.int .i64 i) ∧ σ' = τ ∧ noU1 l p q i) l.length
  ⟨0, by omega, by omega, rfl, rfl, rfl, rfl, rfl, rfl, fun a h => by omega⟩ ?_
 rintro m s σ' ⟨i, rfl, hi, h0, h1, h2, h7, h8, hσ, hno⟩
 replace hσ := hσ.symm
 subst hσ
 by_cases hlt : i < l.length
 ·repeat' (first
 |with_reducible first|apply Xa|apply Xb|(refine Xc ?_;intro κ hκ)|(apply hκ.out;clear hκ κ)|apply Xd|apply Xe|apply Xf
 |((with_reducible first|refine Xl ?_ ?_|refine Xk ?_ ?_)<;> intro h hari<;> try exact Xp)
 |refine Xr ?_
 |exact True.intro
 |(apply hκ.out;clear hκ κ))
  refine awp_loop (fun m s σ' => ∃ k : Nat, m = l.length - k ∧ k ≤ l.length ∧ s 0 = sl idl l.length cs ∧ s 1 = str p ∧ s 2 = str q ∧ s 7 = ptr σ1.nobj 0 ∧ s 8 = sc (.int .i64 i) ∧ s 9 = sc (.int .i64 k) ∧ σ' = τ ∧ noU2 l p q i k) l.length
   ⟨0, by omega, by omega, by simp [upd, h0], by simp [upd, h1], by simp [upd, h2], by simp [upd, h7], by simp [upd, h8], rfl, rfl, fun b h => by omega⟩ ?_
  clear h0 h1 h2 h7 h8
  rintro m s σ' ⟨k, rfl, hk, h0, h1, h2, h7, h8, h9, hσ, hno2⟩
  replace hσ := hσ.symm
  subst hσ
  by_cases hlt2 : k < l.length
  ·obtain ⟨ih1, id1, b1, r1, hb1, hd1⟩ := EL_item hE (List.getElem?_eq_getElem hlt)
   obtain ⟨ih2, id2, b2, r2, hb2, hd2⟩ := EL_item hE (List.getElem?_eq_getElem hlt2)
   have g1 := encW_get (webM l) (i := i) (k := k) (by omega) (by omega)
   have hh1 : headOf l i = l[i].head.pred := by simp [headOf, hlt]
   have hh2 : headOf l k = l[k].head.pred := by simp [headOf, hlt2]
   have HH : Abs.Hid (headOf l i = l[i].head.pred ∧ headOf l k = l[k].head.pred) := ⟨hh1, hh2⟩
   clear hh1 hh2
   repeat' (first
 |with_reducible first|apply Xa|apply Xb|(refine Xc ?_;intro κ hκ)|(apply hκ.out;clear hκ κ)|apply Xd|apply Xe|apply Xf
 |((with_reducible first|refine Xl ?_ ?_|refine Xk ?_ ?_)<;> intro h hari<;> try exact Xp)
 |refine Xr ?_
 |exact True.intro
 |(apply hκ.out;clear hκ κ))
   all_goals
    obtain ⟨hh1, hh2⟩ := HH.out
    first
    | exact ⟨_, rfl, by rw [usesB, any_hit (k := i) (a := i) _ (by simp [hlt]) (any_hit (k := k) (a := k) _ (by simp [hlt2]) (by simp only [hitU, hh1, hh2, *, Bool.and_self]))]⟩
    | exact ⟨l.length - (k + 1), by omega, k + 1, rfl, by omega, by simp, fun b hb => by
      by_cases hbk : b = k
      ·subst hbk; simp only [hitU, hh1, hh2, *, Bool.and_false, Bool.false_and, Bool.and_true]
      ·exact hno2 b (by omega)⟩
  ·have hkl : k = l.length := by omega
   subst hkl
   repeat' (first
 |with_reducible first|apply Xa|apply Xb|(refine Xc ?_;intro κ hκ)|(apply hκ.out;clear hκ κ)|apply Xd|apply Xe|apply Xf
 |((with_reducible first|refine Xl ?_ ?_|refine Xk ?_ ?_)<;> intro h hari<;> try exact Xp)
 |refine Xr ?_
 |exact True.intro
 |(apply hκ.out;clear hκ κ))
   exact ⟨l.length - (i + 1), by omega, i + 1, rfl, by omega, by simp, fun a ha => by
    by_cases hai : a = i
    ·subst hai; exact hno2
    ·exact hno a (by omega)⟩
 ·have hil : i = l.length := by omega
  subst hil
  repeat' (first
 |with_reducible first|apply Xa|apply Xb|(refine Xc ?_;intro κ hκ)|(apply hκ.out;clear hκ κ)|apply Xd|apply Xe|apply Xf
 |((with_reducible first|refine Xl ?_ ?_|refine Xk ?_ ?_)<;> intro h hari<;> try exact Xp)
 |refine Xr ?_
 |exact True.intro
 |(apply hκ.out;clear hκ κ))
  have hu : usesB l p q = false := by
   unfold usesB
   rw [List.any_eq_false]
   intro a ha
   rw [List.mem_range] at ha
   simp only [Bool.not_eq_true]
   rw [List.any_eq_false]
   intro b hb
   rw [List.mem_range] at hb
   simp [hno a ha b hb]
  first
  | exact ⟨_, rfl, by rw [hu], hτK⟩
  | exact ⟨_, rfl, by rw [hu]⟩
/- The document's own answer: the first number. -/
def firstN (p : Nat → Bool) (n : Nat) : Int := match (List.range n).find? p with | some i => (i : Int) | none => -1
theorem firstN_hit {p : Nat → Bool} {n i : Nat} (hi : i < n) (hp : p i = true) (hn : ∀ a, a < i → p a = false) : firstN p n = i := by
 unfold firstN
 have : (List.range n).find? p = some i := by
  rw [List.find?_range_eq_some]
  exact ⟨hp, by simpa using hi, fun a ha => by simp [hn a ha]⟩
 rw [this]
theorem firstN_none {p : Nat → Bool} {n : Nat} (hn : ∀ a, a < n → p a = false) : firstN p n = -1 := by
 unfold firstN
 have : (List.range n).find? p = none := by
  rw [List.find?_eq_none]
  intro a ha
  simp [hn a (by simpa using ha)]
 rw [this]
/- The document's own answer: knots. -/
def badK (l : List RItem) (h : List UInt8) (a : RAtom) : Bool := a.nt && (a.pred == h || usesB l a.pred h)
def knotP (l : List RItem) (i : Nat) : Bool := match l[i]? with | some x => x.body.any (badK l x.head.pred) | none => false
def noK (l : List RItem) (i : Nat) : Prop := ∀ a, a < i → knotP l a = false
def noKb (l : List RItem) (x : RItem) (j : Nat) : Prop := (x.body.take j).any (badK l x.head.pred) = false
set_option maxHeartbeats 16000000 in
theorem knot_spec (l : List RItem) (cs : List AV) (idl : Nat) (hE : EL EItem l cs) (hl : l.length ≤ 16) (hf : ∀ x ∈ l, x.fits) (σ : St) : ACalls Tryz.prog 177 [sl idl l.length cs] σ fun r σ' => r = sc (.int .i64 (firstN (knotP l) l.length)) ∧ Keep σ σ' := by
 have hcl := EL.length EItem_len hE
 refine acalls 56 [.tmp 2] Tryz.func177 rfl (by decide) rfl rfl (Nat.le_of_ble_eq_true rfl) ?_
 repeat' (first
 |with_reducible first|apply Xa|apply Xb|(refine Xc ?_;intro κ hκ)|(apply hκ.out;clear hκ κ)|apply Xd|apply Xe|apply Xf
 |((with_reducible first|refine Xl ?_ ?_|refine Xm ?_ ?_|refine Xk ?_ ?_)<;> intro h hari<;> try exact Xp)
 |refine Xr ?_
 |exact True.intro
 |((with_reducible refine Xg ?_);refine Xj ?_)
 |(apply hκ.out;clear hκ κ))
 refine awp_loop (fun m s σ' => ∃ i : Nat, m = l.length - i ∧ i ≤ l.length ∧ s 0 = sl idl l.length cs ∧ s 3 = sc (.int .i64 i) ∧ Keep σ σ' ∧ noK l i) l.length
  ⟨0, by omega, by omega, rfl, rfl, Keep.refl _, fun a h => by omega⟩ ?_
 rintro m s σ' ⟨i, rfl, hi, h0, h3, hK, hno⟩
 by_cases hlt : i < l.length
 ·obtain ⟨ih1, id1, b1, r1, hb1, hd1⟩ := EL_item hE (List.getElem?_eq_getElem hlt)
  have hf1 := hf l[i] (List.getElem_mem hlt)
  have HX : Abs.Hid (l[i]? = some l[i]) := List.getElem?_eq_getElem hlt
  generalize l[i] = x at hb1 hd1 hf1 HX
  have hbl := EL.length EAtom_len hb1
  have hxb := hf1.1
  repeat' (first
 |with_reducible first|apply Xa|apply Xb|(refine Xc ?_;intro κ hκ)|(apply hκ.out;clear hκ κ)|apply Xd|apply Xe|apply Xf
 |((with_reducible first|refine Xl ?_ ?_|refine Xm ?_ ?_|refine Xk ?_ ?_)<;> intro h hari<;> try exact Xp)
 |refine Xr ?_
 |exact True.intro
 |((with_reducible refine Xg ?_);refine Xj ?_)
 |(apply hκ.out;clear hκ κ))
  refine awp_loop (fun m s σ' => ∃ j : Nat, m = x.body.length - j ∧ j ≤ x.body.length ∧ s 0 = sl idl l.length cs ∧ s 3 = sc (.int .i64 i) ∧ s 4 = sc (.int .i64 j) ∧ Keep σ σ' ∧ noKb l x j) x.body.length
   ⟨0, by omega, by omega, by simp [upd, h0], by simp [upd, h3], rfl, hK, by simp [noKb]⟩ ?_
  clear hK h0 h3
  rintro m s σ' ⟨j, rfl, hj, h0, h3, h4, hK, hno2⟩
  by_cases hlt2 : j < x.body.length
  ·obtain ⟨ia, r, hd⟩ := EL_atom hb1 (List.getElem?_eq_getElem hlt2)
   have HG : Abs.Hid (x.body[j]? = some x.body[j]) := List.getElem?_eq_getElem hlt2
   generalize x.body[j] = a at hd HG
   repeat' (first
 |with_reducible first|apply Xa|apply Xb|(refine Xc ?_;intro κ hκ)|(apply hκ.out;clear hκ κ)|apply Xd|apply Xe|apply Xf
 |((with_reducible first|refine Xl ?_ ?_|refine Xm ?_ ?_|refine Xk ?_ ?_)<;> intro h hari<;> try exact Xp)
 |refine Xr ?_
 |exact True.intro
 |((with_reducible refine Xg ?_);refine Xj ?_)
 |(apply hκ.out;clear hκ κ))
   refine awp_draw_k follows_mixed (fun _ => True) [24] [0, 1, 2, 3, 4, 5, 6, 7, 8, 9, 10, 11, 12, 13, 14, 15, 16, 17, 18, 19, 20, 21] [22, 23, 24] (by kernel_rfl) (fun _ _ _ h => h) ?_
   intro κ hκ
   refine Xr ?_
   repeat' (first
 |with_reducible first|apply Xa|apply Xb|(refine Xc ?_;intro κ hκ)|(apply hκ.out;clear hκ κ)|apply Xd|apply Xe|apply Xf
 |((with_reducible first|refine Xl ?_ ?_|refine Xm ?_ ?_|refine Xk ?_ ?_)<;> intro h hari<;> try exact Xp)
 |((with_reducible refine Xh ?_);refine Xi (uses_spec l cs idl _ _ hE hl hf _) ?_;rintro _ _ ⟨rfl,hKn⟩;(have kno:=hKn.nobj))
 |refine Xr ?_
 |exact True.intro
 |((with_reducible refine Xg ?_);refine Xj ?_)
 |(apply hκ.out;clear hκ κ))
   all_goals
    first
    | exact ⟨_, rfl, by rw [firstN_hit (p := knotP l) hlt (by unfold knotP; rw [HX.out]; exact any_hit _ HG.out (by simp [badK, *])) hno], by first | exact ((hK.new _).put hK.nobj _).trans hKn | exact (hK.new _).put hK.nobj _⟩
    | exact ⟨x.body.length - (j + 1), by omega, j + 1, rfl, by omega, by simp, by first | exact ((hK.new _).put hK.nobj _).trans hKn | exact (hK.new _).put hK.nobj _, by unfold noKb at *; rw [any_take_succ _ HG.out, hno2]; simp [badK, *]⟩
  ·have hjl : j = x.body.length := by omega
   subst hjl
   repeat' (first
 |with_reducible first|apply Xa|apply Xb|(refine Xc ?_;intro κ hκ)|(apply hκ.out;clear hκ κ)|apply Xd|apply Xe|apply Xf
 |((with_reducible first|refine Xl ?_ ?_|refine Xm ?_ ?_|refine Xk ?_ ?_)<;> intro h hari<;> try exact Xp)
 |refine Xr ?_
 |exact True.intro
 |((with_reducible refine Xg ?_);refine Xj ?_)
 |(apply hκ.out;clear hκ κ))
   refine ⟨l.length - (i + 1), by omega, i + 1, rfl, by omega, by simp, ?_⟩
   intro a ha
   by_cases hai : a = i
   ·subst hai
    unfold noKb at hno2
    rw [List.take_length] at hno2
    unfold knotP
    rw [HX.out]
    exact hno2
   ·exact hno a (by omega)
 ·have hil : i = l.length := by omega
  subst hil
  repeat' (first
 |with_reducible first|apply Xa|apply Xb|(refine Xc ?_;intro κ hκ)|(apply hκ.out;clear hκ κ)|apply Xd|apply Xe|apply Xf
 |((with_reducible first|refine Xl ?_ ?_|refine Xm ?_ ?_|refine Xk ?_ ?_)<;> intro h hari<;> try exact Xp)
 |refine Xr ?_
 |exact True.intro
 |((with_reducible refine Xg ?_);refine Xj ?_)
 |(apply hκ.out;clear hκ κ))
  first
  | exact ⟨_, rfl, by rw [firstN_none hno], hK⟩
  | exact ⟨_, rfl, by rw [firstN_none hno]⟩
end Go.Proofs.YtmoeoppbmhfbpaaGreatDoorY
