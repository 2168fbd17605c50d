import Derived.Test.YtmoeoppbmhfbpaaGreatDoorUOptA
/- The program: which change is allowed. -/
namespace Go.Proofs.YtmoeoppbmhfbpaaGreatDoorU
open Go.Abs
set_option linter.unusedSimpArgs false
set_option linter.unusedVariables false
set_option maxRecDepth 100000
def limB (l : List RItem) : Bool := decide (l.length ≤ 16) && (l.all (fun x => decide (x.body.length ≤ 5)) && decide ((uItems l).length ≤ 600))
theorem uItem_len {N : List Tx} {x : RItem} (h : Msr N x) : (uItem x ++ [46]).length ≤ 8000000 := by
 have h1 := h.hpl
 cases hxo : x.out with
 | true => rw [uItem, if_pos hxo]; simp; omega
 | false =>
  have hh := uAtom_len (h.at_ x.head (atoms_mem (.inl ⟨hxo, rfl⟩)))
  have hl : ∀ ls : List RAtom, (∀ a ∈ ls, a.terms.length ≤ 3 ∧ a.pred.length ≤ 1000 ∧ ∀ t ∈ a.terms, UT t) → (uMore (ls.map uLit)).length ≤ ls.length * 6002 := by
   intro ls
   induction ls with
   | nil => intro _; simp [uMore]
   | cons a ls ih =>
    intro g
    have h1 := ih fun b hb => g b (by simp [hb])
    have h2 := uAtom_len (g a (by simp))
    have h3 : (uLit a).length ≤ 6001 := by unfold uLit; split <;> simp <;> omega
    unfold uMore at *
    simp only [List.map_cons, List.flatMap_cons, List.length_append, List.length_cons]
    omega
  have hu : (uList (x.body.map uLit)).length ≤ x.body.length * 6002 := by
   have := hl x.body fun a ha => h.at_ a (atoms_mem (.inr ha))
   cases hb : x.body with
   | nil => simp [uList]
   | cons a ls =>
    rw [hb] at this
    have e : uMore ((a :: ls).map uLit) = 44 :: uList ((a :: ls).map uLit) := by simp [uMore, uList]
    rw [e] at this
    simp only [List.length_cons] at this ⊢
    omega
  have hb := h.body
  rw [uItem, if_neg (by simp [hxo]), uRule]
  split <;> simp <;> omega
set_option maxHeartbeats 16000000 in
theorem inLimits_spec (N : List Tx) (l : List RItem) (cs : List AV) (idn idi : Nat) (hE : EL (PI N) l cs) (hN : N.length ≤ 2000) (hl : l.length ≤ 1000) (hm : ∀ x ∈ l, Msr N x) (σ : St) : ACalls Tryz.prog 230 [bookA N idn l idi cs] σ fun r σ' => r = sc (.bool (limB l)) ∧ Keep σ σ' := by
 have hcl := EL.length PI_len hE
 by_cases h16 : 16 < l.length
 ·have hb : decide ((16 : Int) < (l.length : Int)) = true := by simp; omega
  have HL : Abs.Hid (limB l = false) := by rw [Abs.Hid, limB, decide_eq_false (by omega)]; rfl
  refine acalls 30 [.tmp 2] Tryz.func230 rfl (by decide) rfl rfl (Nat.le_of_ble_eq_true rfl) ?_
  repeat' (first
 |with_reducible first|apply Xa|apply Xb|(refine Xc ?_;intro κ hκ)|(apply hκ.out;clear hκ κ)|apply Xd|apply Xe|apply Xf
 |((with_reducible first|refine Xl ?_ ?_|refine Xk ?_ ?_)<;> intro h hari<;> try exact Xp)
 |refine Xr ?_
 |exact True.intro
 |(apply hκ.out;clear hκ κ))
  exact ⟨_, rfl, by rw [HL.out], by exact Xs⟩
 ·have hb : decide ((16 : Int) < (l.length : Int)) = false := by simp; omega
  refine acalls 30 [.tmp 2] Tryz.func230 rfl (by decide) rfl rfl (Nat.le_of_ble_eq_true rfl) ?_
  repeat' (first
 |with_reducible first|apply Xa|apply Xb|(refine Xc ?_;intro κ hκ)|(apply hκ.out;clear hκ κ)|apply Xd|apply Xe|apply Xf
 |((with_reducible first|refine Xl ?_ ?_|refine Xk ?_ ?_)<;> intro h hari<;> try exact Xp)
 |refine Xr ?_
 |exact True.intro
 |(apply hκ.out;clear hκ κ))
  refine awp_loop (fun m s σ' => ∃ (i n : Nat), m = l.length - i ∧ i ≤ l.length ∧ s 1 = ptr σ.nobj 0 ∧ s 3 = sc (.int .i64 n) ∧ s 11 = sl idi l.length cs ∧ s 12 = sc (.int .i64 l.length) ∧ s 13 = sc (.int .i64 i) ∧ Keep σ σ' ∧ σ.nobj < σ'.nobj ∧ σ'.obj σ.nobj = [sl idn N.length (N.map str), sl idi l.length cs] ∧ n ≤ i * 8000000 ∧ Abs.Hid (n = (uItems (l.take i)).length ∧ ∀ x ∈ l.take i, x.body.length ≤ 5)) l.length
   ⟨0, 0, by omega, by omega, by simp [upd], by simp [upd], by simp [upd], by simp [upd], rfl, by exact Xs, by simp only [new_nobj]; omega, new_same, by simp, by simp [Abs.Hid, uItems]⟩ ?_
  rintro m s σ' ⟨i, n, rfl, hi, h1, h3, h11, h12, h13, hK, hno, hob, hnl, hA⟩
  have kno := hK.nobj
  by_cases hlt : i < l.length
  ·have hget := List.getElem?_eq_getElem hlt
   have hw := hm l[i] (List.getElem_mem hlt)
   obtain ⟨hmm, ih, id, b, r, hbd, hd⟩ := EL_PI hE hget
   generalize l[i] = x at hd hget hw hmm hbd
   have hLn := fun σ => ilen_spec N idn x _ (PI.of (ih := ih) (id := id) hmm hbd) hN hw σ
   have hul := uItem_len hw
   by_cases h5 : 5 < x.body.length
   ·have hb5 : decide ((5 : Int) < (x.body.length : Int)) = true := by simp; omega
    have HL : Abs.Hid (limB l = false) := by
     have : l.all (fun x => decide (x.body.length ≤ 5)) = false := by
      rw [List.all_eq_false]
      exact ⟨x, List.mem_of_getElem? hget, by simp; omega⟩
     rw [Abs.Hid, limB, this]; simp
    clear hget hA hLn hw
    repeat' (first
 |with_reducible first|apply Xa|apply Xb|(refine Xc ?_;intro κ hκ)|(apply hκ.out;clear hκ κ)|apply Xd|apply Xe|apply Xf
 |((with_reducible first|refine Xl ?_ ?_|refine Xk ?_ ?_)<;> intro h hari<;> try exact Xp)
 |refine Xr ?_
 |exact True.intro
 |(apply hκ.out;clear hκ κ))
    exact ⟨_, rfl, by rw [HL.out], by exact Xs⟩
   ·have hb5 : decide ((5 : Int) < (x.body.length : Int)) = false := by simp; omega
    have HA : Abs.Hid (n + (uItem x ++ [46]).length = (uItems (l.take (i + 1))).length ∧ ∀ x ∈ l.take (i + 1), x.body.length ≤ 5) := by
     rw [Abs.Hid, List.take_add_one, hget, Option.toList_some, hA.out.1]
     refine ⟨by simp [uItems], fun y hy => ?_⟩
     rcases List.mem_append.1 hy with hy | hy
     ·exact hA.out.2 y hy
     ·simp at hy; subst hy; omega
    clear hget hA hw h5
    generalize (uItem x ++ [46]).length = xl at hLn hul HA
    repeat' (first
 |with_reducible first|apply Xa|apply Xb|(refine Xc ?_;intro κ hκ)|(apply hκ.out;clear hκ κ)|apply Xd|apply Xe|apply Xf
 |((with_reducible first|refine Xl ?_ ?_|refine Xk ?_ ?_)<;> intro h hari<;> try exact Xp)
 |((with_reducible refine Xh ?_);refine Xi (hLn _) ?_;rintro _ _ ⟨rfl,hK2⟩;(have kno2:=hK2.nobj;have kob2:=hK2.obj;simp only [put_nobj,new_nobj] at kno2 kob2))
 |refine Xr ?_
 |exact True.intro
 |(apply hκ.out;clear hκ κ))
    refine ⟨l.length - (i + 1), by omega, i + 1, n + xl, ?_⟩
    ((repeat' with_reducible refine And.intro ?_ ?_)<;> first|exact Xq|exact (((hK.new _).put hK.nobj _).trans hK2)|exact (HA)|exact (by rw [kob2 _ (by omega), put_ne (by omega), new_lt (by omega), hob])|exact Xs)
  ·have hil : i = l.length := by omega
   subst hil
   have HL : Abs.Hid (limB l = decide ((n : Int) ≤ 600)) := by
    have h := hA.out
    rw [List.take_length] at h
    rw [Abs.Hid, limB, decide_eq_true (by omega), List.all_eq_true.2 (fun x hx => decide_eq_true (h.2 x hx)), ← h.1]
    simp only [Bool.true_and]
    congr 1
    apply propext
    omega
   clear hA
   repeat' (first
 |with_reducible first|apply Xa|apply Xb|(refine Xc ?_;intro κ hκ)|(apply hκ.out;clear hκ κ)|apply Xd|apply Xe|apply Xf
 |((with_reducible first|refine Xl ?_ ?_|refine Xk ?_ ?_)<;> intro h hari<;> try exact Xp)
 |refine Xr ?_
 |exact True.intro
 |(apply hκ.out;clear hκ κ))
   first
   | exact ⟨_, rfl, by rw [HL.out], hK⟩
   | exact ⟨_, rfl, by rw [HL.out]⟩
/-! ### Ruled, named -/
def ruledN (N : List Tx) (l : List RItem) (k : Nat) : Bool := l.any fun x => !x.out && decide (N.idxOf x.head.pred = k)
theorem any_take {α : Type} {l : List α} {f : α → Bool} {i : Nat} {x : α} (h : (l.take i).any f = false) (hi : l[i]? = some x) (hx : f x = false) : (l.take (i + 1)).any f = false := by
 rw [List.take_add_one, hi, Option.toList_some, List.any_append, h]; simp [hx]
theorem any_at {α : Type} {l : List α} {f : α → Bool} {i : Nat} {x : α} (hi : l[i]? = some x) (hx : f x = true) : l.any f = true := List.any_eq_true.2 ⟨x, List.mem_of_getElem? hi, hx⟩
set_option maxHeartbeats 16000000 in
theorem pruled_spec (N : List Tx) (l : List RItem) (cs : List AV) (idn idi k : Nat) (hE : EL (PI N) l cs) (hl : l.length ≤ 1000) (σ : St) : ACalls Tryz.prog 127 [bookA N idn l idi cs, sc (.int .i64 k)] σ fun r σ' => r = sc (.bool (ruledN N l k)) ∧ Keep σ σ' := by
 have hcl := EL.length PI_len hE
 refine acalls 25 [.tmp 4] Tryz.func127 rfl (by decide) rfl rfl (Nat.le_of_ble_eq_true rfl) ?_
 repeat' (first
 |with_reducible first|apply Xa|apply Xb|(refine Xc ?_;intro κ hκ)|(apply hκ.out;clear hκ κ)|apply Xd|apply Xe|apply Xf
 |((with_reducible first|refine Xl ?_ ?_|refine Xk ?_ ?_)<;> intro h hari<;> try exact Xp)
 |refine Xr ?_
 |exact True.intro
 |(apply hκ.out;clear hκ κ))
 refine awp_loop (fun m s σ' => ∃ (i : Nat), m = l.length - i ∧ i ≤ l.length ∧ s 1 = sc (.int .i64 k) ∧ s 8 = sl idi l.length cs ∧ s 9 = sc (.int .i64 l.length) ∧ s 10 = sc (.int .i64 i) ∧ Keep σ σ' ∧ Abs.Hid (ruledN N (l.take i) k = false)) l.length
  ⟨0, by omega, by omega, rfl, by simp [upd], by simp [upd], rfl, by exact Xs, by simp [Abs.Hid, ruledN]⟩ ?_
 rintro m s σ' ⟨i, rfl, hi, h1, h8, h9, h10, hK, hA⟩
 have kno := hK.nobj
 by_cases hlt : i < l.length
 ·have hget := List.getElem?_eq_getElem hlt
  obtain ⟨hmm, ih, id, b, r, hbd, hd⟩ := EL_PI hE hget
  generalize l[i] = x at hd hget hmm hbd
  cases hxo : x.out with
  | true =>
   rw [hxo] at hd
   have HA : Abs.Hid (ruledN N (l.take (i + 1)) k = false) := any_take hA.out hget (by simp [hxo])
   clear hget hA hxo
   repeat' (first
 |with_reducible first|apply Xa|apply Xb|(refine Xc ?_;intro κ hκ)|(apply hκ.out;clear hκ κ)|apply Xd|apply Xe|apply Xf
 |((with_reducible first|refine Xl ?_ ?_|refine Xk ?_ ?_)<;> intro h hari<;> try exact Xp)
 |refine Xr ?_
 |exact True.intro
 |(apply hκ.out;clear hκ κ))
   refine ⟨l.length - (i + 1), by omega, i + 1, ?_⟩
   ((repeat' with_reducible refine And.intro ?_ ?_)<;> first|exact Xq|exact (HA)|exact Xs)
  | false =>
   rw [hxo] at hd
   by_cases hk : N.idxOf x.head.pred = k
   ·have hkb : (((N.idxOf x.head.pred : Nat) : Int) == (k : Int)) = true := by simp [hk]
    have HA : Abs.Hid (ruledN N l k = true) := any_at hget (by simp [hxo, hk])
    clear hget hA hxo hk
    generalize N.idxOf x.head.pred = ix at hd hkb
    repeat' (first
 |with_reducible first|apply Xa|apply Xb|(refine Xc ?_;intro κ hκ)|(apply hκ.out;clear hκ κ)|apply Xd|apply Xe|apply Xf
 |((with_reducible first|refine Xl ?_ ?_|refine Xk ?_ ?_)<;> intro h hari<;> try exact Xp)
 |refine Xr ?_
 |exact True.intro
 |(apply hκ.out;clear hκ κ))
    exact ⟨_, rfl, by rw [HA.out], by exact Xs⟩
   ·have hkb : (((N.idxOf x.head.pred : Nat) : Int) == (k : Int)) = false := by simpa using (by omega : ¬ ((N.idxOf x.head.pred : Nat) : Int) = k)
    have HA : Abs.Hid (ruledN N (l.take (i + 1)) k = false) := any_take hA.out hget (by simp [hk])
    clear hget hA hxo hk
    generalize N.idxOf x.head.pred = ix at hd hkb
    repeat' (first
 |with_reducible first|apply Xa|apply Xb|(refine Xc ?_;intro κ hκ)|(apply hκ.out;clear hκ κ)|apply Xd|apply Xe|apply Xf
 |((with_reducible first|refine Xl ?_ ?_|refine Xk ?_ ?_)<;> intro h hari<;> try exact Xp)
 |refine Xr ?_
 |exact True.intro
 |(apply hκ.out;clear hκ κ))
    refine ⟨l.length - (i + 1), by omega, i + 1, ?_⟩
    ((repeat' with_reducible refine And.intro ?_ ?_)<;> first|exact Xq|exact (HA)|exact Xs)
 ·have hil : i = l.length := by omega
  subst hil
  rw [List.take_length] at hA
  repeat' (first
 |with_reducible first|apply Xa|apply Xb|(refine Xc ?_;intro κ hκ)|(apply hκ.out;clear hκ κ)|apply Xd|apply Xe|apply Xf
 |((with_reducible first|refine Xl ?_ ?_|refine Xk ?_ ?_)<;> intro h hari<;> try exact Xp)
 |refine Xr ?_
 |exact True.intro
 |(apply hκ.out;clear hκ κ))
  first
  | exact ⟨_, rfl, by rw [hA.out], hK⟩
  | exact ⟨_, rfl, by rw [hA.out]⟩
def namedN (N : List Tx) (l : List RItem) (k : Nat) : Bool := l.any fun x => decide (N.idxOf x.head.pred = k) || x.body.any fun a => decide (N.idxOf a.pred = k)
set_option maxHeartbeats 16000000 in
theorem pnamed_spec (N : List Tx) (l : List RItem) (cs : List AV) (idn idi k : Nat) (hE : EL (PI N) l cs) (hl : l.length ≤ 1000) (hbl : ∀ x ∈ l, x.body.length ≤ 1000) (σ : St) : ACalls Tryz.prog 261 [bookA N idn l idi cs, sc (.int .i64 k)] σ fun r σ' => r = sc (.bool (namedN N l k)) ∧ Keep σ σ' := by
 have hcl := EL.length PI_len hE
 refine acalls 35 [.tmp 4] Tryz.func261 rfl (by decide) rfl rfl (Nat.le_of_ble_eq_true rfl) ?_
 repeat' (first
 |with_reducible first|apply Xa|apply Xb|(refine Xc ?_;intro κ hκ)|(apply hκ.out;clear hκ κ)|apply Xd|apply Xe|apply Xf
 |((with_reducible first|refine Xl ?_ ?_|refine Xk ?_ ?_)<;> intro h hari<;> try exact Xp)
 |refine Xr ?_
 |exact True.intro
 |(apply hκ.out;clear hκ κ))
 refine awp_loop (fun m s σ' => ∃ (i : Nat), m = l.length - i ∧ i ≤ l.length ∧ s 1 = sc (.int .i64 k) ∧ s 10 = sl idi l.length cs ∧ s 11 = sc (.int .i64 l.length) ∧ s 12 = sc (.int .i64 i) ∧ Keep σ σ' ∧ Abs.Hid (namedN N (l.take i) k = false)) l.length
  ⟨0, by omega, by omega, rfl, by simp [upd], by simp [upd], rfl, by exact Xs, by simp [Abs.Hid, namedN]⟩ ?_
 rintro m s σ' ⟨i, rfl, hi, h1, h10, h11, h12, hK, hA⟩
 have kno := hK.nobj
 by_cases hlt : i < l.length
 ·have hget := List.getElem?_eq_getElem hlt
  have hb5 := hbl l[i] (List.getElem_mem hlt)
  obtain ⟨hmm, ih, id, b, r, hbd, hd⟩ := EL_PI hE hget
  generalize l[i] = x at hd hget hmm hbd hb5
  have hbdl := EL.length PL_len hbd
  by_cases hk : N.idxOf x.head.pred = k
  ·have hkb : (((N.idxOf x.head.pred : Nat) : Int) == (k : Int)) = true := by simp [hk]
   have HA : Abs.Hid (namedN N l k = true) := any_at hget (by simp [hk])
   clear hget hA hk
   generalize N.idxOf x.head.pred = ix at hd hkb
   repeat' (first
 |with_reducible first|apply Xa|apply Xb|(refine Xc ?_;intro κ hκ)|(apply hκ.out;clear hκ κ)|apply Xd|apply Xe|apply Xf
 |((with_reducible first|refine Xl ?_ ?_|refine Xk ?_ ?_)<;> intro h hari<;> try exact Xp)
 |refine Xr ?_
 |exact True.intro
 |(apply hκ.out;clear hκ κ))
   exact ⟨_, rfl, by rw [HA.out], by exact Xs⟩
  ·have hkb : (((N.idxOf x.head.pred : Nat) : Int) == (k : Int)) = false := by simpa using (by omega : ¬ ((N.idxOf x.head.pred : Nat) : Int) = k)
   have HG : Abs.Hid (l[i]? = some x ∧ ¬ N.idxOf x.head.pred = k) := ⟨hget, hk⟩
   clear hget hk
   generalize N.idxOf x.head.pred = ix at hd hkb
   repeat' (first
 |with_reducible first|apply Xa|apply Xb|(refine Xc ?_;intro κ hκ)|(apply hκ.out;clear hκ κ)|apply Xd|apply Xe|apply Xf
 |((with_reducible first|refine Xl ?_ ?_|refine Xk ?_ ?_)<;> intro h hari<;> try exact Xp)
 |refine Xr ?_
 |exact True.intro
 |(apply hκ.out;clear hκ κ))
   refine awp_loop (fun m s σ2 => ∃ (j : Nat), m = x.body.length - j ∧ j ≤ x.body.length ∧ s 1 = sc (.int .i64 k) ∧ s 10 = sl idi l.length cs ∧ s 11 = sc (.int .i64 l.length) ∧ s 12 = sc (.int .i64 i) ∧ s 22 = sl id x.body.length b ∧ s 23 = sc (.int .i64 x.body.length) ∧ s 24 = sc (.int .i64 j) ∧ Keep σ σ2 ∧ Abs.Hid ((x.body.take j).any (fun a => decide (N.idxOf a.pred = k)) = false)) x.body.length
    ⟨0, by omega, by omega, by simp [upd, *], by simp [upd, *], by simp [upd, *], by simp [upd, *], by simp [upd], by simp [upd], rfl, by exact Xs, by simp [Abs.Hid]⟩ ?_
   clear h1 h10 h11 h12 hK kno
   rintro m s σ2 ⟨j, rfl, hj, h1, h10, h11, h12, h22, h23, h24, hK, hJ⟩
   have kno := hK.nobj
   by_cases hltj : j < x.body.length
   ·have hgj := List.getElem?_eq_getElem hltj
    obtain ⟨c0, rr, ⟨hap, ida, rfl⟩, hdj⟩ := EL.get PL_len hbd hgj
    generalize x.body[j] = a at hgj hap hdj
    simp only [List.cons_append, List.nil_append] at hdj
    by_cases hk : N.idxOf a.pred = k
    ·have hkj : (((N.idxOf a.pred : Nat) : Int) == (k : Int)) = true := by simp [hk]
     have HA : Abs.Hid (namedN N l k = true) := any_at HG.out.1 (by
      have : x.body.any (fun a => decide (N.idxOf a.pred = k)) = true := any_at hgj (by simp [hk])
      simp only [this, Bool.or_true])
     clear hgj hk hJ hA HG
     generalize N.idxOf a.pred = ia at hdj hkj
     repeat' (first
 |with_reducible first|apply Xa|apply Xb|(refine Xc ?_;intro κ hκ)|(apply hκ.out;clear hκ κ)|apply Xd|apply Xe|apply Xf
 |((with_reducible first|refine Xl ?_ ?_|refine Xk ?_ ?_)<;> intro h hari<;> try exact Xp)
 |refine Xr ?_
 |exact True.intro
 |(apply hκ.out;clear hκ κ))
     exact ⟨_, rfl, by rw [HA.out], by exact Xs⟩
    ·have hkj : (((N.idxOf a.pred : Nat) : Int) == (k : Int)) = false := by simpa using (by omega : ¬ ((N.idxOf a.pred : Nat) : Int) = k)
     have HJ : Abs.Hid ((x.body.take (j + 1)).any (fun a => decide (N.idxOf a.pred = k)) = false) := any_take hJ.out hgj (by simp [hk])
     clear hgj hk hJ
     generalize N.idxOf a.pred = ia at hdj hkj
     repeat' (first
 |with_reducible first|apply Xa|apply Xb|(refine Xc ?_;intro κ hκ)|(apply hκ.out;clear hκ κ)|apply Xd|apply Xe|apply Xf
 |((with_reducible first|refine Xl ?_ ?_|refine Xk ?_ ?_)<;> intro h hari<;> try exact Xp)
 |refine Xr ?_
 |exact True.intro
 |(apply hκ.out;clear hκ κ))
     refine ⟨x.body.length - (j + 1), by omega, j + 1, ?_⟩
     ((repeat' with_reducible refine And.intro ?_ ?_)<;> first|exact Xq|exact (HJ)|exact Xs)
   ·have hjl : j = x.body.length := by omega
    subst hjl
    rw [List.take_length] at hJ
    have HA : Abs.Hid (namedN N (l.take (i + 1)) k = false) := any_take hA.out HG.out.1 (by simp only [hJ.out, Bool.or_false]; simpa using HG.out.2)
    clear hJ HG hA
    repeat' (first
 |with_reducible first|apply Xa|apply Xb|(refine Xc ?_;intro κ hκ)|(apply hκ.out;clear hκ κ)|apply Xd|apply Xe|apply Xf
 |((with_reducible first|refine Xl ?_ ?_|refine Xk ?_ ?_)<;> intro h hari<;> try exact Xp)
 |refine Xr ?_
 |exact True.intro
 |(apply hκ.out;clear hκ κ))
    refine ⟨l.length - (i + 1), by omega, i + 1, ?_⟩
    ((repeat' with_reducible refine And.intro ?_ ?_)<;> first|exact Xq|exact (HA)|exact Xs)
 ·have hil : i = l.length := by omega
  subst hil
  rw [List.take_length] at hA
  repeat' (first
 |with_reducible first|apply Xa|apply Xb|(refine Xc ?_;intro κ hκ)|(apply hκ.out;clear hκ κ)|apply Xd|apply Xe|apply Xf
 |((with_reducible first|refine Xl ?_ ?_|refine Xk ?_ ?_)<;> intro h hari<;> try exact Xp)
 |refine Xr ?_
 |exact True.intro
 |(apply hκ.out;clear hκ κ))
  first
  | exact ⟨_, rfl, by rw [hA.out], hK⟩
  | exact ⟨_, rfl, by rw [hA.out]⟩
/- The program: a change is made, if it is allowed. -/
def lackB (N : List Tx) (l' l : List RItem) : Bool := (List.range N.length).any fun k => (ruledN N l k && !ruledN N l' k) && namedN N l' k
theorem range_any_step (f : Nat → Bool) (k : Nat) : (List.range (k + 1)).any f = ((List.range k).any f || f k) := by
 rw [List.range_succ, List.any_append]; simp
set_option maxHeartbeats 16000000 in
theorem lacks_spec (N : List Tx) (l l' : List RItem) (cs cs' : List AV) (idn idn' idi idi' : Nat) (hE : EL (PI N) l cs) (hE' : EL (PI N) l' cs') (hN : N.length ≤ 2000) (hl : l.length ≤ 1000) (hl' : l'.length ≤ 1000) (hbl : ∀ x ∈ l', x.body.length ≤ 1000) (σ : St) :
  ACalls Tryz.prog 231 [bookA N idn' l' idi' cs', bookA N idn l idi cs] σ fun r σ' => r = sc (.bool (lackB N l' l)) ∧ Keep σ σ' := by
 have hR := fun k σ => pruled_spec N l cs idn idi k hE hl σ
 have hR' := fun k σ => pruled_spec N l' cs' idn' idi' k hE' hl' σ
 have hNm := fun k σ => pnamed_spec N l' cs' idn' idi' k hE' hl' hbl σ
 refine acalls 27 [.tmp 4] Tryz.func231 rfl (by decide) rfl rfl (Nat.le_of_ble_eq_true rfl) ?_
 repeat' (first
 |with_reducible first|apply Xa|apply Xb|(refine Xc ?_;intro κ hκ)|(apply hκ.out;clear hκ κ)|apply Xd|apply Xe|apply Xf
 |((with_reducible first|refine Xl ?_ ?_|refine Xk ?_ ?_)<;> intro h hari<;> try exact Xp)
 |refine Xr ?_
 |exact True.intro
 |(apply hκ.out;clear hκ κ))
 refine awp_loop (fun m s σ' => ∃ (k : Nat), m = N.length - k ∧ k ≤ N.length ∧ s 2 = ptr σ.nobj 0 ∧ s 3 = ptr (σ.nobj + 1) 0 ∧ s 7 = sl idn' N.length (N.map str) ∧ s 8 = sc (.int .i64 N.length) ∧ s 9 = sc (.int .i64 k) ∧ Keep σ σ' ∧ σ.nobj + 1 < σ'.nobj ∧ σ'.obj σ.nobj = [sl idn' N.length (N.map str), sl idi' l'.length cs'] ∧ σ'.obj (σ.nobj + 1) = [sl idn N.length (N.map str), sl idi l.length cs] ∧ Abs.Hid ((List.range k).any (fun k => (ruledN N l k && !ruledN N l' k) && namedN N l' k) = false)) N.length
  ⟨0, by omega, by omega, by simp [upd], by simp [upd], by simp [upd], by simp [upd], rfl, by exact Xs, by simp only [new_nobj]; omega, by rw [new_lt (by simp only [new_nobj]; omega), new_same], new_same, by simp [Abs.Hid]⟩ ?_
 rintro m s σ' ⟨k, rfl, hk, h2, h3, h7, h8, h9, hK, hno, ob0, ob1, hA⟩
 have kno := hK.nobj
 by_cases hlt : k < N.length
 ·have hR := hR k
  have hR' := hR' k
  have hNm := hNm k
  have hst := range_any_step (fun k => (ruledN N l k && !ruledN N l' k) && namedN N l' k) k
  rw [hA.out] at hst
  have hin : (ruledN N l k && !ruledN N l' k && namedN N l' k) = true → lackB N l' l = true := fun h => List.any_eq_true.2 ⟨k, by simpa using hlt, h⟩
  generalize ruledN N l k = r1 at *
  generalize ruledN N l' k = r2 at *
  generalize namedN N l' k = r3 at *
  have HS : Abs.Hid _ := hst
  have HI : Abs.Hid _ := hin
  clear hst hin hA
  cases r1 with
  | false =>
   have HA := HS.out
   simp only [Bool.false_and, Bool.or_false] at HA
   have HB : Abs.Hid _ := HA
   clear HA HS HI
   repeat' (first
 |with_reducible first|apply Xa|apply Xb|(refine Xc ?_;intro κ hκ)|(apply hκ.out;clear hκ κ)|apply Xd|apply Xe|apply Xf
 |((with_reducible first|refine Xl ?_ ?_|refine Xk ?_ ?_)<;> intro h hari<;> try exact Xp)
 |((with_reducible refine Xh ?_);refine Xi (hR _) ?_;rintro _ _ ⟨rfl,hK2⟩;(have kno2:=hK2.nobj;have kob2:=hK2.obj))
 |refine Xr ?_
 |exact True.intro
 |(apply hκ.out;clear hκ κ))
   refine ⟨N.length - (k + 1), by omega, k + 1, ?_⟩
   ((repeat' with_reducible refine And.intro ?_ ?_)<;> first|exact Xq|exact (HB)|exact (hK.trans hK2)|exact (by rw [kob2 _ (by omega), ob0])|exact (by rw [kob2 _ (by omega), ob1])|exact Xs)
  | true =>
   cases r2 with
   | true =>
    have HA := HS.out
    simp only [Bool.true_and, Bool.not_true, Bool.false_and, Bool.or_false] at HA
    have HB : Abs.Hid _ := HA
    clear HA HS HI
    repeat' (first
 |with_reducible first|apply Xa|apply Xb|(refine Xc ?_;intro κ hκ)|(apply hκ.out;clear hκ κ)|apply Xd|apply Xe|apply Xf
 |((with_reducible first|refine Xl ?_ ?_|refine Xk ?_ ?_)<;> intro h hari<;> try exact Xp)
 |((with_reducible refine Xh ?_);first|(refine Xi (hR _) ?_;rintro _ _ ⟨rfl,hK2⟩;(have kno2:=hK2.nobj;have kob2:=hK2.obj))|(refine Xi (hR' _) ?_;rintro _ _ ⟨rfl,hK3⟩;(have kno3:=hK3.nobj;have kob3:=hK3.obj)))
 |refine Xr ?_
 |exact True.intro
 |(apply hκ.out;clear hκ κ))
    refine ⟨N.length - (k + 1), by omega, k + 1, ?_⟩
    ((repeat' with_reducible refine And.intro ?_ ?_)<;> first|exact Xq|exact (HB)|exact ((hK.trans hK2).trans hK3)|exact (by rw [kob3 _ (by omega), kob2 _ (by omega), ob0])|exact (by rw [kob3 _ (by omega), kob2 _ (by omega), ob1])|exact Xs)
   | false =>
    cases r3 with
    | false =>
     have HA := HS.out
     simp only [Bool.true_and, Bool.not_false, Bool.and_false, Bool.or_false] at HA
     have HB : Abs.Hid _ := HA
     clear HA HS HI
     repeat' (first
 |with_reducible first|apply Xa|apply Xb|(refine Xc ?_;intro κ hκ)|(apply hκ.out;clear hκ κ)|apply Xd|apply Xe|apply Xf
 |((with_reducible first|refine Xl ?_ ?_|refine Xk ?_ ?_)<;> intro h hari<;> try exact Xp)
 |((with_reducible refine Xh ?_);first|(refine Xi (hR _) ?_;rintro _ _ ⟨rfl,hK2⟩;(have kno2:=hK2.nobj;have kob2:=hK2.obj))|(refine Xi (hR' _) ?_;rintro _ _ ⟨rfl,hK3⟩;(have kno3:=hK3.nobj;have kob3:=hK3.obj))|(refine Xi (hNm _) ?_;rintro _ _ ⟨rfl,hK4⟩;(have kno4:=hK4.nobj;have kob4:=hK4.obj)))
 |refine Xr ?_
 |exact True.intro
 |(apply hκ.out;clear hκ κ))
     refine ⟨N.length - (k + 1), by omega, k + 1, ?_⟩
     ((repeat' with_reducible refine And.intro ?_ ?_)<;> first|exact Xq|exact (HB)|exact (((hK.trans hK2).trans hK3).trans hK4)|exact (by rw [kob4 _ (by omega), kob3 _ (by omega), kob2 _ (by omega), ob0])|exact (by rw [kob4 _ (by omega), kob3 _ (by omega), kob2 _ (by omega), ob1])|exact Xs)
    | true =>
     have HL : Abs.Hid (lackB N l' l = true) := HI.out rfl
     clear HS HI
     repeat' (first
 |with_reducible first|apply Xa|apply Xb|(refine Xc ?_;intro κ hκ)|(apply hκ.out;clear hκ κ)|apply Xd|apply Xe|apply Xf
 |((with_reducible first|refine Xl ?_ ?_|refine Xk ?_ ?_)<;> intro h hari<;> try exact Xp)
 |((with_reducible refine Xh ?_);first|(refine Xi (hR _) ?_;rintro _ _ ⟨rfl,hK2⟩;(have kno2:=hK2.nobj;have kob2:=hK2.obj))|(refine Xi (hR' _) ?_;rintro _ _ ⟨rfl,hK3⟩;(have kno3:=hK3.nobj;have kob3:=hK3.obj))|(refine Xi (hNm _) ?_;rintro _ _ ⟨rfl,hK4⟩;(have kno4:=hK4.nobj;have kob4:=hK4.obj;have hKz:=((hK.trans hK2).trans hK3).trans hK4)))
 |refine Xr ?_
 |exact True.intro
 |(apply hκ.out;clear hκ κ))
     first | exact ⟨_, rfl, by rw [HL.out], hKz⟩ | exact ⟨_, rfl, by rw [HL.out]⟩
 ·have hkl : k = N.length := by omega
  have HL : Abs.Hid (lackB N l' l = false) := by
   have := hA.out
   rw [hkl] at this
   exact this
  clear hA
  repeat' (first
 |with_reducible first|apply Xa|apply Xb|(refine Xc ?_;intro κ hκ)|(apply hκ.out;clear hκ κ)|apply Xd|apply Xe|apply Xf
 |((with_reducible first|refine Xl ?_ ?_|refine Xk ?_ ?_)<;> intro h hari<;> try exact Xp)
 |refine Xr ?_
 |exact True.intro
 |(apply hκ.out;clear hκ κ))
  first | exact ⟨_, rfl, by rw [HL.out], hK⟩ | exact ⟨_, rfl, by rw [HL.out]⟩
structure BkM (N : List Tx) (l : List RItem) (cs : List AV) : Prop where
 el : EL (PI N) l cs
 len : l.length ≤ 1000
 nm : N.length ≤ 2000
 msr : ∀ x ∈ l, Msr N x
 fits : ∀ x ∈ l, x.fits
 pos : ∀ x ∈ l, ∀ a ∈ atomsL x, 0 < a.terms.length
 va : ∀ x ∈ l, ∀ a ∈ atomsL x, VA a
theorem BkM.bk {N : List Tx} {l : List RItem} {cs : List AV} (h : BkM N l cs) (hl : l.length ≤ 16) : Bk N l cs := ⟨h.el, hl, h.fits, fun x hx => (h.msr x hx).out, h.nm, h.pos⟩
def behB (N : List Tx) (l l' : List RItem) : Bool := limB l' && (!lackB N l' l && ((wrongM l').1 == 0))
set_option maxHeartbeats 16000000 in
theorem behind_spec (N : List Tx) (l l' : List RItem) (cs cs' : List AV) (idn idi idi' : Nat) (hB : BkM N l cs) (hB' : BkM N l' cs') (σ : St) :
  ACalls Tryz.prog 193 [bookA N idn l idi cs, sl idi' l'.length cs'] σ fun r σ' => (∃ x, r = tp [x, sc (.bool (behB N l l'))] ∧ (behB N l l' = true → x = bookA N idn l' idi' cs') ∧ (∃ id1 n1 c1 id2 n2 c2, x = ag [sl id1 n1 c1, sl id2 n2 c2])) ∧ Keep σ σ' := by
 have hLm := fun σ => inLimits_spec N l' cs' idn idi' hB'.el hB.nm hB'.len hB'.msr σ
 have hLk := fun σ => lacks_spec N l l' cs cs' idn idn idi idi' hB.el hB'.el hB.nm hB.len hB'.len (fun x hx => (hB'.msr x hx).body) σ
 cases hlm : limB l' with
 | false =>
  have hbh : behB N l l' = false := by unfold behB; rw [hlm]; rfl
  rw [hlm] at hLm
  rw [hbh]
  clear hLk
  refine acalls 30 [.cell 4 66, .tmp 5] Tryz.func193 rfl (by decide) rfl rfl (Nat.le_of_ble_eq_true rfl) ?_
  repeat' (first
 |with_reducible first|apply Xa|apply Xb|(refine Xc ?_;intro κ hκ)|(apply hκ.out;clear hκ κ)|apply Xd|apply Xe|apply Xf
 |((with_reducible first|refine Xl ?_ ?_|refine Xk ?_ ?_)<;> intro h hari<;> try exact Xp)
 |((with_reducible refine Xh ?_);refine Xi (hLm _) ?_;rintro _ _ ⟨rfl,hK1⟩;(have kno1:=hK1.nobj;have kob1:=hK1.obj;(try simp only [new_nobj,put_nobj] at kno1 kob1)))
 |refine Xr ?_
 |exact True.intro
 |(apply hκ.out;clear hκ κ))
  exact ⟨_, rfl, ⟨_, rfl, (fun h => by cases h), 1, 0, [], 1, 0, [], rfl⟩, by exact Xs⟩
 | true =>
  rw [hlm] at hLm
  have hl16 : l'.length ≤ 16 := by
   unfold limB at hlm
   simp only [Bool.and_eq_true, decide_eq_true_eq] at hlm
   exact hlm.1
  cases hlk : lackB N l' l with
  | true =>
   have hbh : behB N l l' = false := by unfold behB; rw [hlm, hlk]; rfl
   rw [hlk] at hLk
   rw [hbh]
   refine acalls 30 [.cell 4 66, .tmp 5] Tryz.func193 rfl (by decide) rfl rfl (Nat.le_of_ble_eq_true rfl) ?_
   repeat' (first
 |with_reducible first|apply Xa|apply Xb|(refine Xc ?_;intro κ hκ)|(apply hκ.out;clear hκ κ)|apply Xd|apply Xe|apply Xf
 |((with_reducible first|refine Xl ?_ ?_|refine Xk ?_ ?_)<;> intro h hari<;> try exact Xp)
 |((with_reducible refine Xh ?_);first|(refine Xi (hLm _) ?_;rintro _ _ ⟨rfl,hK1⟩;(have kno1:=hK1.nobj;have kob1:=hK1.obj;(try simp only [new_nobj,put_nobj] at kno1 kob1)))|(refine Xi (hLk _) ?_;rintro _ _ ⟨rfl,hK2⟩;(have kno2:=hK2.nobj;have kob2:=hK2.obj)))
 |refine Xr ?_
 |exact True.intro
 |(apply hκ.out;clear hκ κ))
   exact ⟨_, rfl, ⟨_, rfl, (fun h => by cases h), 1, 0, [], 1, 0, [], rfl⟩, by exact Xs⟩
  | false =>
   have hbh : behB N l l' = ((wrongM l').1 == 0) := by unfold behB; rw [hlm, hlk]; simp
   rw [hlk] at hLk
   rw [hbh]
   have hF := fun σ => fault_spec N l' cs' idn idi' (hB'.bk hl16) hB'.va σ
   generalize wrongM l' = wm at hF
   obtain ⟨w1, w2⟩ := wm
   clear hbh
   refine acalls 30 [.cell 4 66, .tmp 5] Tryz.func193 rfl (by decide) rfl rfl (Nat.le_of_ble_eq_true rfl) ?_
   repeat' (first
 |with_reducible first|apply Xa|apply Xb|(refine Xc ?_;intro κ hκ)|(apply hκ.out;clear hκ κ)|apply Xd|apply Xe|apply Xf
 |((with_reducible first|refine Xl ?_ ?_|refine Xk ?_ ?_)<;> intro h hari<;> try exact Xp)
 |((with_reducible refine Xh ?_);first|(refine Xi (hLm _) ?_;rintro _ _ ⟨rfl,hK1⟩;(have kno1:=hK1.nobj;have kob1:=hK1.obj;(try simp only [new_nobj,put_nobj] at kno1 kob1)))|(refine Xi (hLk _) ?_;rintro _ _ ⟨rfl,hK2⟩;(have kno2:=hK2.nobj;have kob2:=hK2.obj))|(refine Xi (hF _) ?_;rintro _ _ ⟨rfl,hK3⟩;(have kno3:=hK3.nobj;have kob3:=hK3.obj)))
 |refine Xr ?_
 |exact True.intro
 |(apply hκ.out;clear hκ κ))
   exact ⟨_, rfl, ⟨_, rfl, fun _ => rfl, _, _, _, _, _, _, rfl⟩, by exact Xs⟩
end Go.Proofs.YtmoeoppbmhfbpaaGreatDoorU
