import Derived.Test.YtmoeoppbmhfbpaaGreatDoorYProgL
/- The program: the first item that is not safe, the first with another number of terms. -/
namespace Go.Proofs.YtmoeoppbmhfbpaaGreatDoorY
open Go.Abs
set_option linter.unusedSimpArgs false
set_option linter.unusedVariables false
set_option maxRecDepth 100000
abbrev bookA (N : List Tx) (idn : Nat) (l : List RItem) (idi : Nat) (cs : List AV) : AV := ag [sl idn N.length (N.map str), sl idi l.length cs]
structure Bk (N : List Tx) (l : List RItem) (cs : List AV) : Prop where
 el : EL (PI N) l cs
 len : l.length ≤ 16
 fits : ∀ x ∈ l, x.fits
 out : ∀ x ∈ l, x.out = true → x.body = []
 nm : N.length ≤ 2000
 pos : ∀ x ∈ l, ∀ a ∈ atomsL x, 0 < a.terms.length
def punsafe (l : List RItem) (i : Nat) : Bool := match l[i]? with | some x => !psafeB x | none => false
theorem PI.of {N : List Tx} {x : RItem} {ih id : Nat} {b : List AV} (hm : x.head.pred ∈ N) (h : EL (PL N) x.body b) : PI N x [sc (.bool x.out), sc (.int .i64 (N.idxOf x.head.pred : Nat)), sl ih x.head.terms.length (tcells x.head.terms), sl id x.body.length b] := ⟨hm, ih, id, b, h, rfl⟩
set_option maxHeartbeats 16000000 in
theorem firstUnsafe_spec (N : List Tx) (l : List RItem) (cs : List AV) (idn idi : Nat) (hB : Bk N l cs) (σ : St) : ACalls Tryz.prog 122 [bookA N idn l idi cs] σ fun r σ' => r = sc (.int .i64 (firstN (punsafe l) l.length)) ∧ Keep σ σ' := by
 have hcl := EL.length PI_len hB.el
 have hl16 := hB.len
 refine acalls 18 [.tmp 2] Tryz.func122 rfl (by decide) rfl rfl (Nat.le_of_ble_eq_true rfl) ?_
 repeat' (first
 |with_reducible first|apply Xa|apply Xb|(refine Xc ?_;intro κ hκ)|(apply hκ.out;clear hκ κ)|apply Xd|apply Xe|apply Xf
 |((with_reducible first|refine Xl ?_ ?_|refine Xk ?_ ?_)<;> intro h hari<;> try exact Xp)
 |refine Xr ?_
 |exact True.intro
 |(apply hκ.out;clear hκ κ))
 refine awp_loop (fun m s σ' => ∃ i : Nat, m = l.length - i ∧ i ≤ l.length ∧ s 6 = sl idi l.length cs ∧ s 7 = sc (.int .i64 l.length) ∧ s 8 = sc (.int .i64 i) ∧ Keep σ σ' ∧ Abs.Hid (∀ j, j < i → punsafe l j = false)) l.length
  ⟨0, by omega, by omega, rfl, rfl, rfl, by exact Xs, fun j hj => by omega⟩ ?_
 rintro m s σ' ⟨i, rfl, hi, h6, h7, h8, hK, hno⟩
 have kno := hK.nobj
 by_cases hlt : i < l.length
 ·have hget := List.getElem?_eq_getElem hlt
  have hf1 := hB.fits l[i] (List.getElem_mem hlt)
  have ho1 := hB.out l[i] (List.getElem_mem hlt)
  obtain ⟨hm, ih, id, b, r, hb, hd⟩ := EL_PI hB.el hget
  generalize l[i] = x at hd hget hf1 ho1 hb hm
  have hv : Abs.Hid (punsafe l i = !psafeB x) := by rw [Abs.Hid, punsafe, hget]
  clear hget
  repeat' (first
 |with_reducible first|apply Xa|apply Xb|(refine Xc ?_;intro κ hκ)|(apply hκ.out;clear hκ κ)|apply Xd|apply Xe|apply Xf
 |((with_reducible first|refine Xl ?_ ?_|refine Xk ?_ ?_)<;> intro h hari<;> try exact Xp)
 |((with_reducible refine Xh ?_);refine Xi (psafe_spec N x _ (PI.of hm hb) ho1 hf1 _) ?_;rintro _ _ ⟨rfl,hK1⟩)
 |refine Xr ?_
 |exact True.intro
 |(apply hκ.out;clear hκ κ))
  ·exact ⟨_, rfl, by rw [firstN_hit hlt (by rw [hv.out]; simp [*]) hno.out], by exact Xs⟩
  ·exact ⟨l.length - (i + 1), by omega, i + 1, rfl, by omega, by simp, by exact Xs, no_step hno.out (by rw [hv.out]; simp [*])⟩
 ·have hil : i = l.length := by omega
  subst hil
  repeat' (first
 |with_reducible first|apply Xa|apply Xb|(refine Xc ?_;intro κ hκ)|(apply hκ.out;clear hκ κ)|apply Xd|apply Xe|apply Xf
 |((with_reducible first|refine Xl ?_ ?_|refine Xk ?_ ?_)<;> intro h hari<;> try exact Xp)
 |refine Xr ?_
 |exact True.intro
 |(apply hκ.out;clear hκ κ))
  first | exact ⟨_, rfl, by rw [firstN_none hno.out], hK⟩ | exact ⟨_, rfl, by rw [firstN_none hno.out]⟩
/-! ### How many terms each predicate has -/
def cntL (S : List RAtom) (p : Tx) : Nat := match S.find? (fun a => a.pred == p) with | some a => a.terms.length | none => 0
def consS (S : List RAtom) : Prop := ∀ b ∈ S, 0 < b.terms.length ∧ b.terms.length = cntL S b.pred
theorem cnt_snoc (S : List RAtom) (a : RAtom) (p : Tx) : cntL (S ++ [a]) p = match S.find? (fun a => a.pred == p) with | some b => b.terms.length | none => if a.pred = p then a.terms.length else 0 := by
 unfold cntL
 rw [List.find?_append]
 cases hf : S.find? (fun a => a.pred == p) with
 | some b => simp
 | none => by_cases h : a.pred = p <;> simp [h]
theorem cnt_none {S : List RAtom} (h : consS S) (p : Tx) : cntL S p = 0 ↔ S.find? (fun a => a.pred == p) = none := by
 unfold cntL
 cases hf : S.find? (fun a => a.pred == p) with
 | none => simp
 | some b =>
  have hb := (h b (List.mem_of_find?_eq_some hf)).1
  constructor
  ·intro e
   have e : b.terms.length = 0 := e
   omega
  ·intro e; cases e
theorem clash_iff {S : List RAtom} (h : consS S) (a : RAtom) : S.any (clash a) = true ↔ (cntL S a.pred ≠ 0 ∧ cntL S a.pred ≠ a.terms.length) := by
 rw [List.any_eq_true]
 constructor
 ·rintro ⟨b, hb, hc⟩
  simp only [clash, Bool.and_eq_true, beq_iff_eq, decide_eq_true_eq] at hc
  have := h b hb
  rw [hc.1] at this
  omega
 ·rintro ⟨h1, h2⟩
  have h3 : S.find? (fun b => b.pred == a.pred) ≠ none := fun e => h1 ((cnt_none h _).2 e)
  cases hf : S.find? (fun b => b.pred == a.pred) with
  | none => exact absurd hf h3
  | some b =>
   have hp : (b.pred == a.pred) = true := List.find?_some (p := fun b : RAtom => b.pred == a.pred) hf
   have hcn : cntL S a.pred = b.terms.length := by unfold cntL; rw [hf]
   exact ⟨b, List.mem_of_find?_eq_some hf, by simp only [clash, hp, Bool.true_and, decide_eq_true_eq]; omega⟩
theorem cnt_step {S : List RAtom} (h : consS S) (a : RAtom) (p : Tx) : cntL (S ++ [a]) p = if p = a.pred ∧ cntL S a.pred = 0 then a.terms.length else cntL S p := by
 rw [cnt_snoc]
 cases hf : S.find? (fun b => b.pred == p) with
 | some b =>
  have h1 : cntL S p ≠ 0 := fun e => by rw [cnt_none h, hf] at e; cases e
  have hx : ¬ (p = a.pred ∧ cntL S a.pred = 0) := fun e => h1 (by rw [e.1]; exact e.2)
  have hy : cntL S p = b.terms.length := by unfold cntL; rw [hf]
  rw [if_neg hx, hy]
 | none =>
  have h1 : cntL S p = 0 := (cnt_none h _).2 hf
  by_cases e : p = a.pred
  ·subst e; rw [if_pos rfl, if_pos ⟨rfl, h1⟩]
  ·rw [if_neg (fun e' => e e'.symm), if_neg (by rintro ⟨e', -⟩; exact e e'), h1]
theorem cons_snoc {S : List RAtom} {a : RAtom} (h : consS S) (ha : 0 < a.terms.length) (hc : S.any (clash a) = false) : consS (S ++ [a]) := by
 have hn : ¬ (cntL S a.pred ≠ 0 ∧ cntL S a.pred ≠ a.terms.length) := fun e => by rw [← clash_iff h a, hc] at e; cases e
 intro b hb
 rw [cnt_step h]
 rcases List.mem_append.1 hb with hb | hb
 ·have := h b hb
  refine ⟨this.1, ?_⟩
  by_cases e : b.pred = a.pred ∧ cntL S a.pred = 0
  ·rw [e.1] at this; omega
  ·rw [if_neg e]; exact this.2
 ·simp at hb; subst hb
  refine ⟨ha, ?_⟩
  by_cases e : cntL S b.pred = 0
  ·rw [if_pos ⟨rfl, e⟩]
  ·rw [if_neg (by rintro ⟨-, e'⟩; exact e e')]; omega
theorem cons_nil : consS [] := fun b hb => by cases hb
def cvec (n : Nat) (cc : Nat → Int) : List AV := (List.range n).map fun i => sc (.int .i64 (cc i))
theorem cvec_len (n : Nat) (cc : Nat → Int) : (cvec n cc).length = n := by simp [cvec]
theorem cvec_get {n i : Nat} (cc : Nat → Int) (h : i < n) : (cvec n cc)[i]? = some (sc (.int .i64 (cc i))) := by simp [cvec, h]
theorem cvec_set {n i : Nat} (cc : Nat → Int) (v : Int) : (cvec n cc).set i (sc (.int .i64 v)) = cvec n (fun j => if j = i then v else cc j) := by
 apply List.ext_getElem?
 intro j
 rw [List.getElem?_set]
 by_cases hj : j < n
 ·rw [cvec_get (fun j => if j = i then v else cc j) hj]
  by_cases e : i = j
  ·subst e; rw [if_pos rfl, cvec_len, if_pos hj]; simp
  ·rw [if_neg e, cvec_get _ hj, if_neg (fun e' => e e'.symm)]
 ·have h1 : (cvec n fun j => if j = i then v else cc j)[j]? = none := by simp [cvec]; omega
  have h2 : (cvec n cc)[j]? = none := by simp [cvec]; omega
  rw [h1, h2]
  split
  ·rw [cvec_len]; rw [if_neg (by omega)]
  ·rfl
theorem cvec_zero (n : Nat) : List.replicate n (sc (.int .i64 0)) = cvec n fun _ => 0 := by
 apply List.ext_getElem?
 intro j
 by_cases hj : j < n
 ·rw [cvec_get _ hj]; simp [hj]
 ·simp [cvec, hj]
theorem idx_inj {N : List Tx} {p q : Tx} (hp : p ∈ N) (hq : q ∈ N) (h : N.idxOf p = N.idxOf q) : p = q := by
 have h1 := List.getElem_idxOf (List.idxOf_lt_length_of_mem hp)
 have h2 := List.getElem_idxOf (List.idxOf_lt_length_of_mem hq)
 rw [← h1, ← h2]
 congr 1
def cntsOk (N : List Tx) (S : List RAtom) (cc : Nat → Int) : Prop := ∀ p ∈ N, cc (N.idxOf p) = (cntL S p : Nat)
theorem cntsOk.step {N : List Tx} {S : List RAtom} {cc : Nat → Int} {a : RAtom} (h : cntsOk N S cc) (hc : consS S) (ha : a.pred ∈ N) :
  (cc (N.idxOf a.pred) = 0 → cntsOk N (S ++ [a]) (fun j => if j = N.idxOf a.pred then (a.terms.length : Int) else cc j)) ∧ (cc (N.idxOf a.pred) ≠ 0 → cntsOk N (S ++ [a]) cc) := by
 have h0 := h a.pred ha
 constructor
 ·intro e p hp
  rw [cnt_step hc]
  dsimp only
  by_cases ep : p = a.pred
  ·subst ep
   rw [if_pos rfl, if_pos ⟨rfl, by omega⟩]
  ·rw [if_neg (fun e' => ep (idx_inj hp ha e')), if_neg (by rintro ⟨e', -⟩; exact ep e')]
   exact h p hp
 ·intro e p hp
  rw [cnt_step hc, if_neg (by rintro ⟨-, e'⟩; omega)]
  exact h p hp
/- The program: the first item in which a predicate has another number of terms. -/
set_option maxHeartbeats 16000000 in
theorem firstOther_spec (N : List Tx) (l : List RItem) (cs : List AV) (idn idi : Nat) (hB : Bk N l cs) (σ : St) : ACalls Tryz.prog 121 [bookA N idn l idi cs] σ fun r σ' => r = sc (.int .i64 (firstN (oddP l) l.length)) ∧ Keep σ σ' := by
 have hcl := EL.length PI_len hB.el
 have hl16 := hB.len
 have hN := hB.nm
 refine acalls 52 [.tmp 2] Tryz.func121 rfl (by decide) rfl rfl (Nat.le_of_ble_eq_true rfl) ?_
 repeat' (first
 |with_reducible first|apply Xa|apply Xb|(refine Xc ?_;intro κ hκ)|(apply hκ.out;clear hκ κ)|apply Xd|apply Xe|apply Xf
 |((with_reducible first|refine Xl ?_ ?_|refine Xm ?_ ?_|refine Xk ?_ ?_)<;> intro h hari<;> try exact Xp)
 |refine Xr ?_
 |exact True.intro
 |((with_reducible refine Xg ?_);refine Xj ?_)
 |(apply hκ.out;clear hκ κ))
 refine awp_loop (fun m s σ' => ∃ (i : Nat) (cc : Nat → Int), m = l.length - i ∧ i ≤ l.length ∧ s 3 = fx (σ.nobj + 1) 0 N.length ∧ s 13 = sl idi l.length cs ∧ s 14 = sc (.int .i64 l.length) ∧ s 15 = sc (.int .i64 i) ∧ Keep σ σ' ∧ σ.nobj + 1 < σ'.nobj ∧ σ'.obj (σ.nobj + 1) = cvec N.length cc ∧ Abs.Hid (cntsOk N (priorL l i) cc) ∧ Abs.Hid (consS (priorL l i)) ∧ Abs.Hid (noO l i)) l.length
  ⟨0, fun _ => 0, by omega, by omega, ?_, rfl, rfl, rfl, by exact Xs, by simp only [new_nobj]; omega, ?_, ?_, by simp [Abs.Hid, priorL, cons_nil], fun a h => by omega⟩ ?_
 ·simp [upd]
 ·show (if σ.nobj + 1 = σ.nobj + 1 then _ else _) = _
  rw [if_pos rfl]; exact cvec_zero _
 ·intro p hp; simp [priorL, cntL]
 rintro m s σ' ⟨i, cc, rfl, hi, h3, h13, h14, h15, hK, hno1, hob, hC, hS, hno⟩
 have kno := hK.nobj
 by_cases hlt : i < l.length
 ·have hget := List.getElem?_eq_getElem hlt
  have hf1 := hB.fits l[i] (List.getElem_mem hlt)
  have ho1 := hB.out l[i] (List.getElem_mem hlt)
  have hp1 := hB.pos l[i] (List.getElem_mem hlt)
  obtain ⟨hm, ih, id, b, r, hb, hd⟩ := EL_PI hB.el hget
  generalize l[i] = x at hd hget hf1 ho1 hb hm hp1
  have HX : Abs.Hid (l[i]? = some x) := hget
  clear hget
  have hal := hf1.atoms
  repeat' (first
 |with_reducible first|apply Xa|apply Xb|(refine Xc ?_;intro κ hκ)|(apply hκ.out;clear hκ κ)|apply Xd|apply Xe|apply Xf
 |((with_reducible first|refine Xl ?_ ?_|refine Xm ?_ ?_|refine Xk ?_ ?_)<;> intro h hari<;> try exact Xp)
 |((with_reducible refine Xh ?_);refine Xi (patoms_spec N x _ (PI.of hm hb) ho1 (by have:=hf1.1;omega) _) ?_;rintro _ _ ⟨ida,cs2,rfl,hE2,hK2⟩;(have kob2:=hK2.obj;have kno2:=hK2.nobj;(try simp only [new_nobj,put_nobj,lay_nobj] at kno2)))
 |refine Xr ?_
 |exact True.intro
 |((with_reducible refine Xg ?_);refine Xj ?_)
 |(apply hκ.out;clear hκ κ))
  rename_i σ1
  have hcl2 := EL.length PC_len hE2
  have hKs : Keep σ σ1 := by exact Xs
  have hob1 : σ1.obj (σ.nobj + 1) = cvec N.length cc := by
   rw [kob2 _ (by simp only [new_nobj, put_nobj]; omega), put_ne (by omega), new_lt hno1]; exact hob
  clear kob2
  refine awp_loop (fun m s σ' => ∃ (j : Nat) (cc : Nat → Int), m = (atomsL x).length - j ∧ j ≤ (atomsL x).length ∧ s 3 = fx (σ.nobj + 1) 0 N.length ∧ s 4 = sc (.int .i64 i) ∧ s 13 = sl idi l.length cs ∧ s 14 = sc (.int .i64 l.length) ∧ s 15 = sc (.int .i64 i) ∧ s 21 = sl ida (atomsL x).length cs2 ∧ s 22 = sc (.int .i64 (atomsL x).length) ∧ s 23 = sc (.int .i64 j) ∧ Keep σ σ' ∧ σ.nobj + 1 < σ'.nobj ∧ σ'.obj (σ.nobj + 1) = cvec N.length cc ∧ Abs.Hid (cntsOk N (seenL l x i j) cc) ∧ Abs.Hid (consS (seenL l x i j)) ∧ Abs.Hid (noOj l x i j)) (atomsL x).length
   ⟨0, cc, by omega, by omega, by simp [upd, h3], by simp [upd], by simp [upd, h13], by simp [upd, h14], by simp [upd, h15], by simp [upd], rfl, rfl, hKs, by omega, hob1, by simpa [seenL] using hC, by simpa [seenL] using hS, fun b h => by omega⟩ ?_
  clear hob1 hK hob hC hS hK2 kno2 kno h3 h13 h14 h15 hno1 cc hKs
  rintro m s σ' ⟨j, cc, rfl, hj, h3, h4, h13, h14, h15, h21, h22, h23, hK, hno1, hob, hC, hS, hno2⟩
  have kno := hK.nobj
  by_cases hlt2 : j < (atomsL x).length
  ·have hget := List.getElem?_eq_getElem hlt2
   have hp2 := hp1 (atomsL x)[j] (List.getElem_mem hlt2)
   obtain ⟨ha, ia, r2, hd2⟩ := EL_PC hE2 hget
   generalize (atomsL x)[j] = a at hd2 hget ha hp2
   have HA : Abs.Hid ((atomsL x)[j]? = some a) := hget
   clear hget
   have hodd : Abs.Hid (oddAt l x i j = (seenL l x i j).any (clash a)) := by rw [Abs.Hid, oddAt, HA.out]
   have hix := List.idxOf_lt_length_of_mem ha
   have hst := hC.out.step hS.out ha
   have hcv := hC.out a.pred ha
   have hcg := cvec_get cc hix
   have hcs := fun v => cvec_set (n := N.length) (i := N.idxOf a.pred) cc v
   have hvl := cvec_len N.length cc
   generalize hce : cc (N.idxOf a.pred) = c at hcg hst hcv
   clear hce
   generalize N.idxOf a.pred = ix at hd2 hcg hix hst hcs
   have hcl := clash_iff hS.out a
   have HST : Abs.Hid _ := hst
   have HCV : Abs.Hid _ := hcv
   have HCL : Abs.Hid _ := hcl
   clear hst hcv hcl
   by_cases hc0 : (c == 0) = true
   ·have hgs : ((cvec N.length cc).set ix (sc (.int .i64 a.terms.length)))[ix]? = some (sc (.int .i64 a.terms.length)) := by rw [hcs, cvec_get _ hix]; simp
    have hne : ((a.terms.length : Int) != a.terms.length) = false := by simp
    have hcc : c = 0 := by simpa using hc0
    have HCS : Abs.Hid _ := hcs
    clear hcs
    repeat' (first
 |with_reducible first|apply Xa|apply Xb|(refine Xc ?_;intro κ hκ)|(apply hκ.out;clear hκ κ)|apply Xd|apply Xe|apply Xf
 |((with_reducible first|refine Xl ?_ ?_|refine Xm ?_ ?_|refine Xk ?_ ?_)<;> intro h hari<;> try exact Xp)
 |refine Xr ?_
 |exact True.intro
 |((with_reducible refine Xg ?_);refine Xj ?_)
 |(apply hκ.out;clear hκ κ))
    refine awp_draw_k follows_mixed (fun _ => True) [8] [0, 1, 2, 3, 4, 5, 6, 7] [8] (by kernel_rfl) (fun _ _ _ h => h) ?_
    intro κ hκ
    refine Xr ?_
    repeat' (first
 |with_reducible first|apply Xa|apply Xb|(refine Xc ?_;intro κ hκ)|(apply hκ.out;clear hκ κ)|apply Xd|apply Xe|apply Xf
 |((with_reducible first|refine Xl ?_ ?_|refine Xm ?_ ?_|refine Xk ?_ ?_)<;> intro h hari<;> try exact Xp)
 |refine Xr ?_
 |exact True.intro
 |((with_reducible refine Xg ?_);refine Xj ?_)
 |(apply hκ.out;clear hκ κ))
    have hnc : (seenL l x i j).any (clash a) = false := by
     cases hq : (seenL l x i j).any (clash a) with
     | false => rfl
     | true => exfalso; have h1 := (HCL.out.1 hq).1; have h2 := HCV.out; omega
    refine ⟨(atomsL x).length - (j + 1), by omega, j + 1, _, rfl, by omega, by simp, ((hK.new _).put hK.nobj _).put (by omega) _, by omega, HCS.out _, ?_, ?_, no_step hno2.out (by rw [hodd.out]; exact hnc)⟩
    ·rw [Abs.Hid, seen_succ HA.out]; exact HST.out.1 hcc
    ·rw [Abs.Hid, seen_succ HA.out]; exact cons_snoc hS.out hp2 hnc
   ·have hc0 : (c == 0) = false := by simpa using hc0
    clear hcs
    repeat' (first
 |with_reducible first|apply Xa|apply Xb|(refine Xc ?_;intro κ hκ)|(apply hκ.out;clear hκ κ)|apply Xd|apply Xe|apply Xf
 |((with_reducible first|refine Xl ?_ ?_|refine Xm ?_ ?_|refine Xk ?_ ?_)<;> intro h hari<;> try exact Xp)
 |refine Xr ?_
 |exact True.intro
 |((with_reducible refine Xg ?_);refine Xj ?_)
 |(apply hκ.out;clear hκ κ))
    refine awp_draw_k follows_mixed (fun _ => True) [8] [0, 1, 2, 3, 4, 5, 6, 7] [8] (by kernel_rfl) (fun _ _ _ h => h) ?_
    intro κ hκ
    refine Xr ?_
    repeat' (first
 |with_reducible first|apply Xa|apply Xb|(refine Xc ?_;intro κ hκ)|(apply hκ.out;clear hκ κ)|apply Xd|apply Xe|apply Xf
 |((with_reducible first|refine Xl ?_ ?_|refine Xm ?_ ?_|refine Xk ?_ ?_)<;> intro h hari<;> try exact Xp)
 |refine Xr ?_
 |exact True.intro
 |((with_reducible refine Xg ?_);refine Xj ?_)
 |(apply hκ.out;clear hκ κ))
    ·have hc2 : c ≠ 0 := by simpa using hc0
     have hc3 : c ≠ a.terms.length := by simpa using h
     have hcy := HCL.out.2 ⟨by have := HCV.out; omega, by have := HCV.out; omega⟩
     have hop : oddP l i = true := by
      unfold oddP; rw [HX.out]; dsimp only
      rw [List.any_eq_true]
      exact ⟨j, by simpa using hlt2, by rw [hodd.out]; exact hcy⟩
     exact ⟨_, rfl, by rw [firstN_hit hlt hop hno.out], (hK.new _).put hK.nobj _⟩
    ·have hc2 : c ≠ 0 := by simpa using hc0
     have hc3 : c = a.terms.length := by simpa using h
     have hnc : (seenL l x i j).any (clash a) = false := by
      cases hq : (seenL l x i j).any (clash a) with
      | false => rfl
      | true => exfalso; have h1 := (HCL.out.1 hq).2; have h2 := HCV.out; omega
     refine ⟨(atomsL x).length - (j + 1), by omega, j + 1, cc, rfl, by omega, by simp, (hK.new _).put hK.nobj _, by omega, rfl, ?_, ?_, no_step hno2.out (by rw [hodd.out]; exact hnc)⟩
     ·rw [Abs.Hid, seen_succ HA.out]; exact HST.out.2 hc2
     ·rw [Abs.Hid, seen_succ HA.out]; exact cons_snoc hS.out hp2 hnc
  ·have hjl : j = (atomsL x).length := by omega
   subst hjl
   repeat' (first
 |with_reducible first|apply Xa|apply Xb|(refine Xc ?_;intro κ hκ)|(apply hκ.out;clear hκ κ)|apply Xd|apply Xe|apply Xf
 |((with_reducible first|refine Xl ?_ ?_|refine Xm ?_ ?_|refine Xk ?_ ?_)<;> intro h hari<;> try exact Xp)
 |refine Xr ?_
 |exact True.intro
 |((with_reducible refine Xg ?_);refine Xj ?_)
 |(apply hκ.out;clear hκ κ))
   have hsn : seenL l x i (atomsL x).length = priorL l (i + 1) := by rw [seen_next HX.out]; simp [seenL]
   rw [hsn] at hC hS
   refine ⟨l.length - (i + 1), by omega, i + 1, cc, rfl, by omega, by simp, rfl, hC, hS, no_step hno.out ?_⟩
   unfold oddP; rw [HX.out]; dsimp only
   rw [List.any_eq_false]
   intro b hb
   have hb2 := hno2.out b (by simpa using hb)
   simp [hb2]
 ·have hil : i = l.length := by omega
  subst hil
  repeat' (first
 |with_reducible first|apply Xa|apply Xb|(refine Xc ?_;intro κ hκ)|(apply hκ.out;clear hκ κ)|apply Xd|apply Xe|apply Xf
 |((with_reducible first|refine Xl ?_ ?_|refine Xm ?_ ?_|refine Xk ?_ ?_)<;> intro h hari<;> try exact Xp)
 |refine Xr ?_
 |exact True.intro
 |((with_reducible refine Xg ?_);refine Xj ?_)
 |(apply hκ.out;clear hκ κ))
  first | exact ⟨_, rfl, by rw [firstN_none hno.out], hK⟩ | exact ⟨_, rfl, by rw [firstN_none hno.out]⟩
end Go.Proofs.YtmoeoppbmhfbpaaGreatDoorY
