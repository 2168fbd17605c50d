import Derived.Test.YtmoeoppbmhfbpaaGreatDoorBProgR
import Derived.Test.YtmoeoppbmhfbpaaGreatDoorBAbsWp
/- The program: variables in their order. -/
namespace Go.Proofs.YtmoeoppbmhfbpaaGreatDoorB
open Go.Abs
set_option linter.unusedSimpArgs false
set_option linter.unusedVariables false
set_option maxRecDepth 100000
/- The program: an atom with other variables. -/
/- The program: an item with its variables in order. -/
/- What can be written. -/
/- An item with its variables in order, as a text. -/
/-! ### Its text -/
/- The program: the least stratum that a body leaves. -/
def askS (N : List Tx) (cc : Nat → Int) (a : RAtom) : Int := if a.nt = true then cc (N.idxOf a.pred) + 1 else cc (N.idxOf a.pred)
def leastF (N : List Tx) (cc : Nat → Int) (m : Int) (a : RAtom) : Int := if m < askS N cc a then askS N cc a else m
def leastL (N : List Tx) (cc : Nat → Int) (ls : List RAtom) : Int := ls.foldl (leastF N cc) 0
theorem leastL_snoc (N : List Tx) (cc : Nat → Int) (ls : List RAtom) (a : RAtom) : leastL N cc (ls ++ [a]) = leastF N cc (leastL N cc ls) a := by simp [leastL]
theorem leastL_rng {N : List Tx} {cc : Nat → Int} {B : Int} (h : ∀ i, 0 ≤ cc i ∧ cc i ≤ B) (hB : 0 ≤ B) (ls : List RAtom) : 0 ≤ leastL N cc ls ∧ leastL N cc ls ≤ B + 1 := by
 have : ∀ (ls : List RAtom) (m : Int), 0 ≤ m → m ≤ B + 1 → 0 ≤ ls.foldl (leastF N cc) m ∧ ls.foldl (leastF N cc) m ≤ B + 1 := by
  intro ls
  induction ls with
  | nil => intro m h1 h2; exact ⟨h1, h2⟩
  | cons a ls ih =>
   intro m h1 h2
   have hc := h (N.idxOf a.pred)
   have ha : 0 ≤ askS N cc a ∧ askS N cc a ≤ B + 1 := by unfold askS; split <;> omega
   have : 0 ≤ leastF N cc m a ∧ leastF N cc m a ≤ B + 1 := by unfold leastF; split <;> omega
   exact ih _ this.1 this.2
 exact this ls 0 (by omega) (by omega)
set_option maxHeartbeats 16000000 in
theorem leastStratum_spec (N : List Tx) (x : RItem) (c : List AV) (cc : Nat → Int) (oc : Nat) (hc : PI N x c) (hn : x.body.length ≤ 1000) (hcc : ∀ i, 0 ≤ cc i ∧ cc i ≤ 1000000) (σ : St) (hob : σ.obj oc = cvec N.length cc) (hoc : oc < σ.nobj) :
  ACalls Tryz.prog 129 [ag c, fx oc 0 N.length] σ fun r σ' => r = sc (.int .i64 (leastL N cc x.body)) ∧ Keep σ σ' := by
 obtain ⟨hm, ih, id, b, hb, rfl⟩ := hc
 have hbl := EL.length PL_len hb
 have hvl := cvec_len N.length cc
 refine acalls 32 [.tmp 4] Tryz.func129 rfl (by decide) rfl rfl (Nat.le_of_ble_eq_true rfl) ?_
 repeat' (first
 |with_reducible first|apply Xa|apply Xb|(refine Xc ?_;intro κ hκ)|(apply hκ.out;clear hκ κ)|apply Xd|apply Xe|apply Xf
 |((with_reducible first|refine Xl ?_ ?_|refine Xk ?_ ?_)<;> intro h hari<;> try exact Xp)
 |refine Xr ?_
 |exact True.intro
 |(apply hκ.out;clear hκ κ))
 refine awp_loop (fun m s σ' => ∃ i : Nat, m = x.body.length - i ∧ i ≤ x.body.length ∧ s 1 = fx oc 0 N.length ∧ s 5 = sc (.int .i64 (leastL N cc (x.body.take i))) ∧ s 10 = sl id x.body.length b ∧ s 11 = sc (.int .i64 x.body.length) ∧ s 12 = sc (.int .i64 i) ∧ Keep σ σ') x.body.length
  ⟨0, by omega, by omega, rfl, rfl, rfl, rfl, rfl, by exact Xs⟩ ?_
 rintro m s σ' ⟨i, rfl, hi, h1, h5, h10, h11, h12, hK⟩
 have kno := hK.nobj
 have hob' : σ'.obj oc = cvec N.length cc := by rw [hK.obj _ hoc]; exact hob
 by_cases hlt : i < x.body.length
 ·have hget := List.getElem?_eq_getElem hlt
  obtain ⟨ha, ia, r, hd⟩ := EL_PL hb hget
  generalize x.body[i] = a at hd hget ha
  have hix := List.idxOf_lt_length_of_mem ha
  have hcg := cvec_get cc hix
  have hci := hcc (N.idxOf a.pred)
  have hst : Abs.Hid (leastL N cc (x.body.take (i + 1)) = leastF N cc (leastL N cc (x.body.take i)) a) := by
   rw [Abs.Hid, List.take_add_one, hget, Option.toList_some, leastL_snoc]
  have hask : Abs.Hid (askS N cc a = if a.nt = true then cc (N.idxOf a.pred) + 1 else cc (N.idxOf a.pred)) := rfl
  have hlr := leastL_rng (N := N) hcc (by decide) (x.body.take i)
  clear hget hcc
  generalize cc (N.idxOf a.pred) = ci at hcg hci hask
  generalize N.idxOf a.pred = ix at hd hix hcg
  generalize leastL N cc (x.body.take i) = lm at h5 hst hlr
  cases hnt : a.nt with
  | true =>
   rw [hnt] at hd
   have hask2 : Abs.Hid (askS N cc a = ci + 1) := by rw [Abs.Hid, hask.out, if_pos hnt]
   repeat' (first
 |with_reducible first|apply Xa|apply Xb|(refine Xc ?_;intro κ hκ)|(apply hκ.out;clear hκ κ)|apply Xd|apply Xe|apply Xf
 |((with_reducible first|refine Xl ?_ ?_|refine Xk ?_ ?_)<;> intro h hari<;> try exact Xp)
 |refine Xr ?_
 |exact True.intro
 |(apply hκ.out;clear hκ κ))
   ·refine ⟨x.body.length - (i + 1), by omega, i + 1, rfl, by omega, ?_, by simp, (hK.new _).put hK.nobj _⟩
    rw [hst.out, leastF, hask2.out, if_pos (by simpa using h)]
   ·refine ⟨x.body.length - (i + 1), by omega, i + 1, rfl, by omega, ?_, by simp, (hK.new _).put hK.nobj _⟩
    rw [hst.out, leastF, hask2.out, if_neg (by simpa using h)]
  | false =>
   rw [hnt] at hd
   have hask2 : Abs.Hid (askS N cc a = ci) := by rw [Abs.Hid, hask.out, if_neg (by rw [hnt]; simp)]
   repeat' (first
 |with_reducible first|apply Xa|apply Xb|(refine Xc ?_;intro κ hκ)|(apply hκ.out;clear hκ κ)|apply Xd|apply Xe|apply Xf
 |((with_reducible first|refine Xl ?_ ?_|refine Xk ?_ ?_)<;> intro h hari<;> try exact Xp)
 |refine Xr ?_
 |exact True.intro
 |(apply hκ.out;clear hκ κ))
   ·refine ⟨x.body.length - (i + 1), by omega, i + 1, rfl, by omega, ?_, by simp, (hK.new _).put hK.nobj _⟩
    rw [hst.out, leastF, hask2.out, if_pos (by simpa using h)]
   ·refine ⟨x.body.length - (i + 1), by omega, i + 1, rfl, by omega, ?_, by simp, (hK.new _).put hK.nobj _⟩
    rw [hst.out, leastF, hask2.out, if_neg (by simpa using h)]
 ·have hil : i = x.body.length := by omega
  subst hil
  rw [List.take_length] at h5
  repeat' (first
 |with_reducible first|apply Xa|apply Xb|(refine Xc ?_;intro κ hκ)|(apply hκ.out;clear hκ κ)|apply Xd|apply Xe|apply Xf
 |((with_reducible first|refine Xl ?_ ?_|refine Xk ?_ ?_)<;> intro h hari<;> try exact Xp)
 |refine Xr ?_
 |exact True.intro
 |(apply hκ.out;clear hκ κ))
  first | exact ⟨_, rfl, rfl, hK⟩ | exact ⟨_, rfl, rfl⟩
/- The program: strata. -/
def stepC (N : List Tx) (cc : Nat → Int) (x : RItem) : Nat → Int := fun j => if j = N.idxOf x.head.pred ∧ cc (N.idxOf x.head.pred) < leastL N cc x.body then leastL N cc x.body else cc j
def roundC (N : List Tx) (l : List RItem) (cc : Nat → Int) : Nat → Int := l.foldl (stepC N) cc
def iterC (N : List Tx) (l : List RItem) : Nat → Nat → Int
 | 0 => fun _ => 0
 | k + 1 => roundC N l (iterC N l k)
def rngC (cc : Nat → Int) (B : Int) : Prop := ∀ i, 0 ≤ cc i ∧ cc i ≤ B
theorem stepC_rng {N : List Tx} {cc : Nat → Int} {B : Int} (h : rngC cc B) (hB : 0 ≤ B) (x : RItem) : rngC (stepC N cc x) (B + 1) := by
 intro i
 have h1 := h i
 have h2 := leastL_rng (N := N) h hB x.body
 unfold stepC
 split <;> omega
theorem stepC_set {N : List Tx} {cc : Nat → Int} {x : RItem} (h : cc (N.idxOf x.head.pred) < leastL N cc x.body) : (fun j => if j = N.idxOf x.head.pred then leastL N cc x.body else cc j) = stepC N cc x := by
 funext j; unfold stepC; by_cases e : j = N.idxOf x.head.pred <;> simp [e, h]
theorem stepC_same {N : List Tx} {cc : Nat → Int} {x : RItem} (h : ¬ cc (N.idxOf x.head.pred) < leastL N cc x.body) : stepC N cc x = cc := by
 funext j; unfold stepC; rw [if_neg (fun e => h e.2)]
set_option maxHeartbeats 16000000 in
theorem strata_spec (N : List Tx) (l : List RItem) (cs : List AV) (idn idi : Nat) (hB : Bk N l cs) (σ : St) : ACalls Tryz.prog 77 [bookA N idn l idi cs] σ fun r σ' => ∃ o, r = fx o 0 N.length ∧ σ'.obj o = cvec N.length (iterC N l l.length) ∧ σ.nobj ≤ o ∧ o < σ'.nobj ∧ Keep σ σ' := by
 have hcl := EL.length PI_len hB.el
 have hl16 := hB.len
 have hN := hB.nm
 refine acalls 45 [.tmp 2] Tryz.func77 rfl (by decide) rfl rfl (Nat.le_of_ble_eq_true rfl) ?_
 repeat' (first
 |with_reducible first|apply Xa|apply Xb|(refine Xc ?_;intro κ hκ)|(apply hκ.out;clear hκ κ)|apply Xd|apply Xe|apply Xf
 |((with_reducible first|refine Xl ?_ ?_|refine Xk ?_ ?_)<;> intro h hari<;> try exact Xp)
 |refine Xr ?_
 |exact True.intro
 |(apply hκ.out;clear hκ κ))
 refine awp_loop (fun m s σ' => ∃ (r : Nat) (cc : Nat → Int), m = l.length - r ∧ r ≤ l.length ∧ s 1 = ptr σ.nobj 0 ∧ s 3 = fx (σ.nobj + 1) 0 N.length ∧ s 4 = sc (.int .i64 r) ∧ Keep σ σ' ∧ σ.nobj + 1 < σ'.nobj ∧ σ'.obj σ.nobj = [sl idn N.length (N.map str), sl idi l.length cs] ∧ σ'.obj (σ.nobj + 1) = cvec N.length cc ∧ Abs.Hid (rngC cc (r * 16 : Nat)) ∧ Abs.Hid (cc = iterC N l r)) l.length
  ⟨0, fun _ => 0, by omega, by omega, by simp [upd], by simp [upd], rfl, by exact Xs, by simp only [new_nobj]; omega, ?_, ?_, fun i => by simp, rfl⟩ ?_
 ·rw [new_lt (by rw [new_nobj]; omega), new_same]
 ·show (if σ.nobj + 1 = σ.nobj + 1 then _ else _) = _
  rw [if_pos rfl]; exact cvec_zero _
 rintro m s σ' ⟨r, cc, rfl, hr, h1, h3, h4, hK, hno1, hob0, hob, hG, hC⟩
 have kno := hK.nobj
 by_cases hlt : r < l.length
 ·repeat' (first
 |with_reducible first|apply Xa|apply Xb|(refine Xc ?_;intro κ hκ)|(apply hκ.out;clear hκ κ)|apply Xd|apply Xe|apply Xf
 |((with_reducible first|refine Xl ?_ ?_|refine Xk ?_ ?_)<;> intro h hari<;> try exact Xp)
 |refine Xr ?_
 |exact True.intro
 |(apply hκ.out;clear hκ κ))
  refine awp_loop (fun m s σ' => ∃ (i : Nat) (cc : Nat → Int), m = l.length - i ∧ i ≤ l.length ∧ s 1 = ptr σ.nobj 0 ∧ s 3 = fx (σ.nobj + 1) 0 N.length ∧ s 4 = sc (.int .i64 r) ∧ s 20 = sl idi l.length cs ∧ s 21 = sc (.int .i64 l.length) ∧ s 22 = sc (.int .i64 i) ∧ Keep σ σ' ∧ σ.nobj + 1 < σ'.nobj ∧ σ'.obj σ.nobj = [sl idn N.length (N.map str), sl idi l.length cs] ∧ σ'.obj (σ.nobj + 1) = cvec N.length cc ∧ Abs.Hid (rngC cc (r * 16 + i : Nat)) ∧ Abs.Hid (cc = (l.take i).foldl (stepC N) (iterC N l r))) l.length
   ⟨0, cc, by omega, by omega, by simp [upd, h1], by simp [upd, h3], by simp [upd, h4], by simp [upd], rfl, rfl, hK, hno1, hob0, hob, by simpa using hG, by simpa using hC⟩ ?_
  clear hK hno1 hob0 hob hG hC h1 h3 h4 kno cc
  rintro m s σ' ⟨i, cc, rfl, hi, h1, h3, h4, h20, h21, h22, hK, hno1, hob0, hob, hG, hC⟩
  have kno := hK.nobj
  by_cases hlt2 : i < l.length
  ·have hget := List.getElem?_eq_getElem hlt2
   have hf1 := hB.fits l[i] (List.getElem_mem hlt2)
   obtain ⟨hm, ih, id, b, rr, hb, hd⟩ := EL_PI hB.el hget
   generalize l[i] = x at hd hget hf1 hb hm
   have HX : Abs.Hid (l[i]? = some x) := hget
   clear hget
   have hix := List.idxOf_lt_length_of_mem hm
   have hcg := cvec_get cc hix
   have hvl := cvec_len N.length cc
   have hB0 : (0 : Int) ≤ ((r * 16 + i : Nat) : Int) := Int.natCast_nonneg _
   have hll := leastL_rng (N := N) hG.out hB0 x.body
   have hci := hG.out (N.idxOf x.head.pred)
   have hL := fun (τ : St) (h1 : τ.obj (σ.nobj + 1) = cvec N.length cc) (h2 : σ.nobj + 1 < τ.nobj) => leastStratum_spec N x _ cc (σ.nobj + 1) (PI.of (ih := ih) (id := id) hm hb) hf1.1 (fun j => by have := hG.out j; omega) τ h1 h2
   have HS : Abs.Hid (cc (N.idxOf x.head.pred) < leastL N cc x.body → (cvec N.length cc).set (N.idxOf x.head.pred) (sc (.int .i64 (leastL N cc x.body))) = cvec N.length (stepC N cc x)) := fun h => by rw [cvec_set, stepC_set h]
   have HN : Abs.Hid (¬ cc (N.idxOf x.head.pred) < leastL N cc x.body → stepC N cc x = cc) := stepC_same
   have HG2 := stepC_rng (N := N) hG.out hB0 x
   have HG3 : Abs.Hid _ := HG2
   have HC2 : Abs.Hid ((l.take (i + 1)).foldl (stepC N) (iterC N l r) = stepC N cc x) := by
    rw [Abs.Hid, List.take_add_one, HX.out, Option.toList_some, List.foldl_append, ← hC.out]; rfl
   clear HG2
   generalize leastL N cc x.body = lm at hL HS HN hll
   generalize cc (N.idxOf x.head.pred) = ci at hcg HS HN hci
   generalize N.idxOf x.head.pred = ix at hd hix hcg hL HS
   repeat' (first
 |with_reducible first|apply Xa|apply Xb|(refine Xc ?_;intro κ hκ)|(apply hκ.out;clear hκ κ)|apply Xd|apply Xe|apply Xf
 |((with_reducible first|refine Xl ?_ ?_|refine Xk ?_ ?_)<;> intro h hari<;> try exact Xp)
 |((with_reducible refine Xh ?_);refine Xi (hL _ (by rw [put_ne (by omega),new_lt (by omega)];exact hob) (by simp only [put_nobj,new_nobj];omega)) ?_;rintro _ _ ⟨rfl,hK1⟩;(have kob1:=hK1.obj;have kno1:=hK1.nobj;(try simp only [new_nobj,put_nobj,lay_nobj] at kno1)))
 |refine Xr ?_
 |exact True.intro
 |(apply hκ.out;clear hκ κ))
   ·have hKz := ((hK.new [sc (.bool false), sc (.int .i64 0), nilS, nilS]).put hK.nobj _).trans hK1
    exact ⟨l.length - (i + 1), by omega, i + 1, stepC N cc x, rfl, by omega, by simp, hKz.put (by omega) _, by omega, HS.out (by simpa using h), fun j => by have := HG3.out j; omega, HC2.out.symm⟩
   ·have hKz := ((hK.new [sc (.bool false), sc (.int .i64 0), nilS, nilS]).put hK.nobj _).trans hK1
    have hsame := HN.out (by simpa using h)
    exact ⟨l.length - (i + 1), by omega, i + 1, cc, rfl, by omega, by simp, hKz, by omega, rfl, fun j => by have := hG.out j; omega, by rw [Abs.Hid, HC2.out, hsame]⟩
  ·have hil : i = l.length := by omega
   subst hil
   rw [List.take_length] at hC
   repeat' (first
 |with_reducible first|apply Xa|apply Xb|(refine Xc ?_;intro κ hκ)|(apply hκ.out;clear hκ κ)|apply Xd|apply Xe|apply Xf
 |((with_reducible first|refine Xl ?_ ?_|refine Xk ?_ ?_)<;> intro h hari<;> try exact Xp)
 |refine Xr ?_
 |exact True.intro
 |(apply hκ.out;clear hκ κ))
   refine ⟨l.length - (r + 1), by omega, r + 1, cc, rfl, by omega, by simp, rfl, fun j => ?_, hC⟩
   have := hG.out j
   omega
 ·have hrl : r = l.length := by omega
  subst hrl
  repeat' (first
 |with_reducible first|apply Xa|apply Xb|(refine Xc ?_;intro κ hκ)|(apply hκ.out;clear hκ κ)|apply Xd|apply Xe|apply Xf
 |((with_reducible first|refine Xl ?_ ?_|refine Xk ?_ ?_)<;> intro h hari<;> try exact Xp)
 |refine Xr ?_
 |exact True.intro
 |(apply hκ.out;clear hκ κ))
  first
  | exact ⟨_, rfl, σ.nobj + 1, rfl, by rw [hob, hC.out], by omega, hno1, hK⟩
  | exact ⟨_, rfl, σ.nobj + 1, rfl, by rw [hob, hC.out], by omega, hno1⟩
end Go.Proofs.YtmoeoppbmhfbpaaGreatDoorB
