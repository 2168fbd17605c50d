import Derived.Test.YtmoeoppbmhfbpaaGreatDoorYCut
/- The document's own answer: loose, within, putAtom, put. -/
namespace Go.Proofs.YtmoeoppbmhfbpaaGreatDoorY
open Go.Abs
set_option linter.unusedSimpArgs false
set_option linter.unusedVariables false
set_option maxRecDepth 100000
theorem sameP_iff {a b : RAtom} : sameP a b ↔ a = b := ⟨fun ⟨h1, h2, h3⟩ => RAtom.ext' h1 h2 h3, fun h => by subst h; exact ⟨rfl, rfl, rfl⟩⟩
def looseN (a : RAtom) : Nat := a.terms.countP variableB
theorem looseN_zero {a : RAtom} : looseN a = 0 ↔ Gnd a := by
 unfold looseN Gnd
 rw [List.countP_eq_zero]
 exact ⟨fun h t ht => by simpa using h t ht, fun h t ht => by simp [h t ht]⟩
theorem looseN_le (a : RAtom) : looseN a ≤ a.terms.length := List.countP_le_length
set_option maxHeartbeats 8000000 in
theorem rloose_spec (a : RAtom) (ca : List AV) (ha : EAtom a ca) (hn : a.terms.length ≤ 1000) (σ : St) : ACalls Tryz.prog 253 [ag ca] σ fun r σ' => r = sc (.int .i64 (looseN a : Nat)) ∧ Keep σ σ' := by
 obtain ⟨ia, rfl⟩ := ha
 refine acalls 21 [.tmp 2] Tryz.func253 rfl (by decide) rfl rfl (Nat.le_of_ble_eq_true rfl) ?_
 repeat' (first
 |with_reducible first|apply Xa|apply Xb|(refine Xc ?_;intro κ hκ)|(apply hκ.out;clear hκ κ)|apply Xd|apply Xe|apply Xf
 |((with_reducible first|refine Xl ?_ ?_|refine Xk ?_ ?_)<;> intro h hari<;> try exact Xp)
 |refine Xr ?_
 |exact True.intro
 |(apply hκ.out;clear hκ κ))
 refine awp_loop (fun m s σ' => ∃ i n : Nat, m = a.terms.length - i ∧ i ≤ a.terms.length ∧ s 1 = ptr σ.nobj 0 ∧ s 3 = sc (.int .i64 n) ∧ s 4 = sc (.int .i64 i) ∧ Keep σ σ' ∧ σ.nobj < σ'.nobj ∧ σ'.obj σ.nobj = [sc (.bool a.nt), str a.pred, sl ia a.terms.length (a.terms.map str)] ∧ n ≤ i ∧ Abs.Hid (n = (a.terms.take i).countP variableB)) a.terms.length
  ⟨0, 0, by omega, by omega, by simp [upd], by simp [upd], by simp [upd], by exact Xs, by simp [new_nobj], new_same, by omega, by simp [Abs.Hid]⟩ ?_
 rintro m s σ' ⟨i, n, rfl, hi, h1, h3, h4, hK, hno, hob, hni, hN⟩
 by_cases hlt : i < a.terms.length
 ·have hget := List.getElem?_eq_getElem hlt
  have hd := map_str_get hlt
  generalize a.terms[i] = t at hd hget
  have HC : Abs.Hid ((a.terms.take (i + 1)).countP variableB = (a.terms.take i).countP variableB + (if variableB t = true then 1 else 0)) := by
   rw [Abs.Hid, List.take_add_one, hget]; simp [List.countP_append, List.countP_cons]
  clear hget
  have hV := fun σ => variable_spec t σ
  cases hv : variableB t with
  | true =>
   rw [hv] at hV HC
   repeat' (first
 |with_reducible first|apply Xa|apply Xb|(refine Xc ?_;intro κ hκ)|(apply hκ.out;clear hκ κ)|apply Xd|apply Xe|apply Xf
 |((with_reducible first|refine Xl ?_ ?_|refine Xk ?_ ?_)<;> intro h hari<;> try exact Xp)
 |((with_reducible refine Xh ?_);refine Xi (hV _) ?_;rintro _ _ ⟨rfl,rfl⟩)
 |refine Xr ?_
 |exact True.intro
 |(apply hκ.out;clear hκ κ))
   refine ⟨a.terms.length - (i + 1), by omega, i + 1, n + 1, ?_⟩
   ((repeat' with_reducible refine And.intro ?_ ?_)<;> first|exact Xq|exact (by rw [Abs.Hid, HC.out, ← hN.out]; simp)|exact Xs)
  | false =>
   rw [hv] at hV HC
   repeat' (first
 |with_reducible first|apply Xa|apply Xb|(refine Xc ?_;intro κ hκ)|(apply hκ.out;clear hκ κ)|apply Xd|apply Xe|apply Xf
 |((with_reducible first|refine Xl ?_ ?_|refine Xk ?_ ?_)<;> intro h hari<;> try exact Xp)
 |((with_reducible refine Xh ?_);refine Xi (hV _) ?_;rintro _ _ ⟨rfl,rfl⟩)
 |refine Xr ?_
 |exact True.intro
 |(apply hκ.out;clear hκ κ))
   refine ⟨a.terms.length - (i + 1), by omega, i + 1, n, ?_⟩
   ((repeat' with_reducible refine And.intro ?_ ?_)<;> first|exact Xq|exact (by rw [Abs.Hid, HC.out, ← hN.out]; simp)|exact Xs)
 ·have hil : i = a.terms.length := by omega
  subst hil
  have hN := hN.out
  rw [List.take_length] at hN
  have hN : n = looseN a := hN
  subst hN
  repeat' (first
 |with_reducible first|apply Xa|apply Xb|(refine Xc ?_;intro κ hκ)|(apply hκ.out;clear hκ κ)|apply Xd|apply Xe|apply Xf
 |((with_reducible first|refine Xl ?_ ?_|refine Xk ?_ ?_)<;> intro h hari<;> try exact Xp)
 |refine Xr ?_
 |exact True.intro
 |(apply hκ.out;clear hκ κ))
  first | exact ⟨_, rfl, rfl, hK⟩ | exact ⟨rfl, hK⟩ | exact ⟨_, rfl, rfl⟩
set_option maxHeartbeats 16000000 in
theorem within_spec (ls : List RAtom) (cs : List AV) (id : Nat) (a : RAtom) (ca : List AV) (hE : EL EAtom ls cs) (ha : EAtom a ca) (hl : ls.length ≤ 1000) (hn : ∀ b ∈ ls, b.terms.length ≤ 1000) (σ : St) : ACalls Tryz.prog 147 [sl id ls.length cs, ag ca] σ fun r σ' => ∃ b, r = sc (.bool b) ∧ (b = true ↔ a ∈ ls) ∧ Keep σ σ' := by
 by_cases hm : a ∈ ls
 ·refine (within_true ls cs id a ca hE ha hl hn ⟨a, hm, rfl, rfl, rfl⟩ σ).mono fun r σ' h => ⟨true, h.1, by simp [hm], h.2⟩
 obtain ⟨ia, rfl⟩ := ha
 have hcl := EL.length EAtom_len hE
 have hSm := fun b ib hb σ => same_spec b a [sc (.bool b.nt), str b.pred, sl ib b.terms.length (b.terms.map str)] _ ⟨ib, rfl⟩ ⟨ia, rfl⟩ (hn b hb) σ
 have HM : Abs.Hid _ := hm
 clear hm
 refine acalls 18 [.tmp 4] Tryz.func147 rfl (by decide) rfl rfl (Nat.le_of_ble_eq_true rfl) ?_
 repeat' (first
 |with_reducible first|apply Xa|apply Xb|(refine Xc ?_;intro κ hκ)|(apply hκ.out;clear hκ κ)|apply Xd|apply Xe|apply Xf
 |((with_reducible first|refine Xl ?_ ?_|refine Xm ?_ ?_|refine Xk ?_ ?_)<;> intro h hari<;> try exact Xp)
 |refine Xr ?_
 |exact True.intro
 |((with_reducible refine Xg ?_);refine Xj ?_)
 |(apply hκ.out;clear hκ κ))
 refine awp_loop (fun m s σ' => ∃ i : Nat, m = ls.length - i ∧ i ≤ ls.length ∧ s 0 = sl id ls.length cs ∧ s 3 = ptr σ.nobj 0 ∧ s 5 = sc (.int .i64 i) ∧ Keep σ σ' ∧ σ.nobj < σ'.nobj ∧ σ'.obj σ.nobj = [sc (.bool a.nt), str a.pred, sl ia a.terms.length (a.terms.map str)]) ls.length
  ⟨0, by omega, by omega, rfl, rfl, rfl, by exact Xs, by simp [new_nobj], new_same⟩ ?_
 rintro m s σ' ⟨i, rfl, hi, h0, h3, h5, hK, hno, hob⟩
 have kno := hK.nobj
 by_cases hlt : i < ls.length
 ·have hget := List.getElem?_eq_getElem hlt
  obtain ⟨ib, r, hd⟩ := EL_atom hE hget
  have hS := fun σ => hSm ls[i] ib (List.getElem_mem hlt) σ
  have hne : ¬ sameP ls[i] a := fun h => HM.out (by rw [← sameP_iff.1 h]; exact List.getElem_mem hlt)
  generalize ls[i] = b at hd hget hS hne
  clear hget
  have hS : ∀ σ, ACalls Tryz.prog 186 [ag [sc (.bool b.nt), str b.pred, sl ib b.terms.length (b.terms.map str)], ag [sc (.bool a.nt), str a.pred, sl ia a.terms.length (a.terms.map str)]] σ fun r σ' => r = sc (.bool false) ∧ Keep σ σ' := fun σ => (hS σ).mono fun r σ' ⟨bo, h1, h2, h3⟩ => by
   have : bo = false := by
    cases bo with
    | false => rfl
    | true => exact absurd (h2.1 rfl) hne
   subst this
   exact ⟨h1, h3⟩
  clear hne
  repeat' (first
 |with_reducible first|apply Xa|apply Xb|(refine Xc ?_;intro κ hκ)|(apply hκ.out;clear hκ κ)|apply Xd|apply Xe|apply Xf
 |((with_reducible first|refine Xl ?_ ?_|refine Xm ?_ ?_|refine Xk ?_ ?_)<;> intro h hari<;> try exact Xp)
 |refine Xr ?_
 |exact True.intro
 |((with_reducible refine Xg ?_);refine Xj ?_)
 |(apply hκ.out;clear hκ κ))
  refine awp_draw_k follows_mixed (fun _ => True) [5] [0, 1, 2, 3, 4] [5] (by kernel_rfl) (fun _ _ _ h => h) ?_
  intro κ hκ
  repeat' (first
 |with_reducible first|apply Xa|apply Xb|(refine Xc ?_;intro κ hκ)|(apply hκ.out;clear hκ κ)|apply Xd|apply Xe|apply Xf
 |((with_reducible first|refine Xl ?_ ?_|refine Xm ?_ ?_|refine Xk ?_ ?_)<;> intro h hari<;> try exact Xp)
 |((with_reducible refine Xh ?_);refine Xi (hS _) ?_;rintro _ _ ⟨rfl,hK2⟩;(have kob2:=hK2.obj;have kno2:=hK2.nobj))
 |refine Xr ?_
 |exact True.intro
 |((with_reducible refine Xg ?_);refine Xj ?_)
 |(apply hκ.out;clear hκ κ))
  refine ⟨ls.length - (i + 1), by omega, i + 1, ?_⟩
  ((repeat' with_reducible refine And.intro ?_ ?_)<;> first|exact Xq|exact (hK.trans hK2)|exact Xs)
 ·repeat' (first
 |with_reducible first|apply Xa|apply Xb|(refine Xc ?_;intro κ hκ)|(apply hκ.out;clear hκ κ)|apply Xd|apply Xe|apply Xf
 |((with_reducible first|refine Xl ?_ ?_|refine Xm ?_ ?_|refine Xk ?_ ?_)<;> intro h hari<;> try exact Xp)
 |refine Xr ?_
 |exact True.intro
 |((with_reducible refine Xg ?_);refine Xj ?_)
 |(apply hκ.out;clear hκ κ))
  have hb : (false = true ↔ a ∈ ls) := ⟨fun h => (by cases h), fun h => absurd h HM.out⟩
  first | exact ⟨_, rfl, false, rfl, hb, hK⟩ | exact ⟨false, rfl, hb, hK⟩ | exact ⟨_, rfl, false, rfl, hb⟩
set_option maxHeartbeats 16000000 in
theorem putAtom_spec (a : RAtom) (ca : List AV) (v t : Tx) (ha : EAtom a ca) (hn : a.terms.length ≤ 1000) (σ : St) : ACalls Tryz.prog 269 [ag ca, str v, str t] σ fun r σ' => ∃ c, r = ag c ∧ EAtom (putQ v t a) c ∧ Keep σ σ' := by
 obtain ⟨ia, rfl⟩ := ha
 refine acalls 38 [.cell 6 143] Tryz.func269 rfl (by decide) rfl rfl (Nat.le_of_ble_eq_true rfl) ?_
 repeat' (first
 |with_reducible first|apply Xa|apply Xb|(refine Xc ?_;intro κ hκ)|(apply hκ.out;clear hκ κ)|apply Xd|apply Xe|apply Xf
 |((with_reducible first|refine Xl ?_ ?_|refine Xk ?_ ?_)<;> intro h hari<;> try exact Xp)
 |((with_reducible refine aapp_go ?_);refine Xt ?_;intro idn σn hOn hKn eobj enobj ever entop)
 |((with_reducible refine aappn_go ?_);refine Xu ?_)
 |refine Xr ?_
 |exact True.intro
 |(apply hκ.out;clear hκ κ))
 refine awp_loop (fun m s σ' => ∃ (i i3 : Nat) (xs : List AV), m = a.terms.length - i ∧ i ≤ a.terms.length ∧ s 1 = str v ∧ s 2 = str t ∧ s 3 = ptr σ.nobj 0 ∧ s 6 = ptr (σ.nobj + 1) 0 ∧ s 7 = ptr (σ.nobj + 2) 0 ∧ s 8 = sc (.int .i64 i) ∧ Keep σ σ' ∧ σ.nobj + 2 < σ'.nobj ∧ σ'.obj σ.nobj = [sc (.bool a.nt), str a.pred, sl ia a.terms.length (a.terms.map str)] ∧ σ'.obj (σ.nobj + 1) = [sc (.bool false), str [], nilS] ∧ σ'.obj (σ.nobj + 2) = [sc (.bool a.nt), str a.pred, sl i3 i xs] ∧ Own σ σ' i3 i ∧ xs.length = i * 1 ∧ Abs.Hid (xs = ((a.terms.take i).map fun u => if u = v then t else u).map str)) a.terms.length
  ⟨0, 1, [], by omega, by omega, by simp [upd, initS], by simp [upd, initS], by simp [upd], by simp [upd], by simp [upd], by simp [upd], by exact Xs, by simp only [put_nobj, new_nobj]; omega, ?_, ?_, ?_, Own.nil _ _, by simp, by simp [Abs.Hid]⟩ ?_
 ·rw [put_ne (by omega), new_lt (by simp only [new_nobj]; omega), new_lt (by simp only [new_nobj]; omega), new_same]
 ·rw [put_ne (by omega), new_lt (by simp only [new_nobj]; omega), new_at (by simp only [new_nobj]; omega) (by simp only [new_nobj]; omega)]
 ·rw [put_same]
 rintro m s σ' ⟨i, i3, xs, rfl, hi, h1, h2, h3, h6, h7, h8, hK, hno, ob0, ob1, ob2, hO, hxl, hX⟩
 have kno := hK.nobj
 by_cases hlt : i < a.terms.length
 ·have hget := List.getElem?_eq_getElem hlt
  have hd := map_str_get hlt
  generalize a.terms[i] = u at hd hget
  have HC : Abs.Hid (((a.terms.take (i + 1)).map fun u => if u = v then t else u).map str = ((a.terms.take i).map fun u => if u = v then t else u).map str ++ [str (if u = v then t else u)]) := by
   rw [Abs.Hid, List.take_add_one, hget]; simp
  clear hget
  by_cases he : u = v
  ·have he2 : (u == v) = true := by simp [he]
   rw [if_pos he] at HC
   clear he
   repeat' (first
 |with_reducible first|apply Xa|apply Xb|(refine Xc ?_;intro κ hκ)|(apply hκ.out;clear hκ κ)|apply Xd|apply Xe|apply Xf
 |((with_reducible first|refine Xl ?_ ?_|refine Xk ?_ ?_)<;> intro h hari<;> try exact Xp)
 |((with_reducible refine aapp_go ?_);refine Xt ?_;intro idn σn hOn hKn eobj enobj ever entop)
 |((with_reducible refine aappn_go ?_);refine Xu ?_)
 |refine Xr ?_
 |exact True.intro
 |(apply hκ.out;clear hκ κ))
   refine ⟨a.terms.length - (i + 1), by omega, i + 1, idn, xs ++ [str t], ?_⟩
   ((repeat' with_reducible refine And.intro ?_ ?_)<;> first|exact Xq|exact (hKn.put (by omega) _)|exact (Own.put hOn _ _)|exact (by rw [Abs.Hid, HC.out, hX.out])|exact Xs)
  ·have he2 : (u == v) = false := by simpa using he
   rw [if_neg he] at HC
   clear he
   repeat' (first
 |with_reducible first|apply Xa|apply Xb|(refine Xc ?_;intro κ hκ)|(apply hκ.out;clear hκ κ)|apply Xd|apply Xe|apply Xf
 |((with_reducible first|refine Xl ?_ ?_|refine Xk ?_ ?_)<;> intro h hari<;> try exact Xp)
 |((with_reducible refine aapp_go ?_);refine Xt ?_;intro idn σn hOn hKn eobj enobj ever entop)
 |((with_reducible refine aappn_go ?_);refine Xu ?_)
 |refine Xr ?_
 |exact True.intro
 |(apply hκ.out;clear hκ κ))
   refine ⟨a.terms.length - (i + 1), by omega, i + 1, idn, xs ++ [str u], ?_⟩
   ((repeat' with_reducible refine And.intro ?_ ?_)<;> first|exact Xq|exact (hKn.put (by omega) _)|exact (Own.put hOn _ _)|exact (by rw [Abs.Hid, HC.out, hX.out])|exact Xs)
 ·have hil : i = a.terms.length := by omega
  subst hil
  have hX := hX.out
  rw [List.take_length] at hX
  subst hX
  have HE : EAtom (putQ v t a) [sc (.bool a.nt), str a.pred, sl i3 a.terms.length ((a.terms.map fun u => if u = v then t else u).map str)] := ⟨i3, by simp [putQ]⟩
  repeat' (first
 |with_reducible first|apply Xa|apply Xb|(refine Xc ?_;intro κ hκ)|(apply hκ.out;clear hκ κ)|apply Xd|apply Xe|apply Xf
 |((with_reducible first|refine Xl ?_ ?_|refine Xk ?_ ?_)<;> intro h hari<;> try exact Xp)
 |((with_reducible refine aapp_go ?_);refine Xt ?_;intro idn σn hOn hKn eobj enobj ever entop)
 |((with_reducible refine aappn_go ?_);refine Xu ?_)
 |refine Xr ?_
 |exact True.intro
 |(apply hκ.out;clear hκ κ))
  exact ⟨_, rfl, _, rfl, HE, hK.put (by omega) _⟩
end Go.Proofs.YtmoeoppbmhfbpaaGreatDoorY
