import Derived.Test.YtmoeoppbmhfbpaaGreatDoorBProgL
/- The program: the first item in which a predicate has another number of terms. -/
namespace Go.Proofs.YtmoeoppbmhfbpaaGreatDoorB
open Go.Abs
set_option linter.unusedSimpArgs false
set_option linter.unusedVariables false
set_option maxRecDepth 100000
set_option maxHeartbeats 16000000 in
theorem firstOther_spec (N : List Tx) (l : List RItem) (cs : List AV) (idn idi : Nat) (hB : Bk N l cs) (σ : St) : ACalls Tryz.prog 121 [bookA N idn l idi cs] σ fun r σ' => r = sc (.int .i64 (firstN (oddP l) l.length)) ∧ Keep σ σ' := by
 have hcl := EL.length PI_len hB.el
 have hl16 := hB.len
 have hN := hB.nm
 refine acalls 52 [.tmp 2] Tryz.func121 rfl (by decide) rfl rfl (Nat.le_of_ble_eq_true rfl) ?_
 repeat' (first
 |with_reducible first|apply Xa|apply Xb|(refine Xc ?_;intro κ hκ)|(apply hκ.out;clear hκ κ)|apply Xd|apply Xe|apply Xf
 |((with_reducible first|refine Xl ?_ ?_|refine Xm ?_ ?_|refine Xk ?_ ?_)<;> intro h hari<;> try exact Xp)
 |refine Xr ?_
 |exact True.intro
 |((with_reducible refine Xg ?_);refine Xj ?_)
 |(apply hκ.out;clear hκ κ))
 refine awp_loop (fun m s σ' => ∃ (i : Nat) (cc : Nat → Int), m = l.length - i ∧ i ≤ l.length ∧ s 3 = fx (σ.nobj + 1) 0 N.length ∧ s 13 = sl idi l.length cs ∧ s 14 = sc (.int .i64 l.length) ∧ s 15 = sc (.int .i64 i) ∧ Keep σ σ' ∧ σ.nobj + 1 < σ'.nobj ∧ σ'.obj (σ.nobj + 1) = cvec N.length cc ∧ Abs.Hid (cntsOk N (priorL l i) cc) ∧ Abs.Hid (consS (priorL l i)) ∧ Abs.Hid (noO l i)) l.length
  ⟨0, fun _ => 0, by omega, by omega, ?_, rfl, rfl, rfl, by exact Xs, by simp only [new_nobj]; omega, ?_, ?_, by simp [Abs.Hid, priorL, cons_nil], fun a h => by omega⟩ ?_
 ·simp [upd]
 ·show (if σ.nobj + 1 = σ.nobj + 1 then _ else _) = _
  rw [if_pos rfl]; exact cvec_zero _
 ·intro p hp; simp [priorL, cntL]
 rintro m s σ' ⟨i, cc, rfl, hi, h3, h13, h14, h15, hK, hno1, hob, hC, hS, hno⟩
 have kno := hK.nobj
 by_cases hlt : i < l.length
 ·have hget := List.getElem?_eq_getElem hlt
  have hf1 := hB.fits l[i] (List.getElem_mem hlt)
  have ho1 := hB.out l[i] (List.getElem_mem hlt)
  have hp1 := hB.pos l[i] (List.getElem_mem hlt)
  obtain ⟨hm, ih, id, b, r, hb, hd⟩ := EL_PI hB.el hget
  generalize l[i] = x at hd hget hf1 ho1 hb hm hp1
  have HX : Abs.Hid (l[i]? = some x) := hget
  clear hget
  have hal := hf1.atoms
  repeat' (first
 |with_reducible first|apply Xa|apply Xb|(refine Xc ?_;intro κ hκ)|(apply hκ.out;clear hκ κ)|apply Xd|apply Xe|apply Xf
 |((with_reducible first|refine Xl ?_ ?_|refine Xm ?_ ?_|refine Xk ?_ ?_)<;> intro h hari<;> try exact Xp)
 |((with_reducible refine Xh ?_);refine Xi (patoms_spec N x _ (PI.of hm hb) ho1 (by have:=hf1.1;omega) _) ?_;rintro _ _ ⟨ida,cs2,rfl,hE2,hK2⟩;(have kob2:=hK2.obj;have kno2:=hK2.nobj;(try simp only [new_nobj,put_nobj,lay_nobj] at kno2)))
 |refine Xr ?_
 |exact True.intro
 |((with_reducible refine Xg ?_);refine Xj ?_)
 |(apply hκ.out;clear hκ κ))
  rename_i σ1
  have hcl2 := EL.length PC_len hE2
  have hKs : Keep σ σ1 := by exact Xs
  have hob1 : σ1.obj (σ.nobj + 1) = cvec N.length cc := by
   rw [kob2 _ (by simp only [new_nobj, put_nobj]; omega), put_ne (by omega), new_lt hno1]; exact hob
  clear kob2
  refine awp_loop (fun m s σ' => ∃ (j : Nat) (cc : Nat → Int), m = (atomsL x).length - j ∧ j ≤ (atomsL x).length ∧ s 3 = fx (σ.nobj + 1) 0 N.length ∧ s 4 = sc (.int .i64 i) ∧ s 13 = sl idi l.length cs ∧ s 14 = sc (.int .i64 l.length) ∧ s 15 = sc (.int .i64 i) ∧ s 21 = sl ida (atomsL x).length cs2 ∧ s 22 = sc (.int .i64 (atomsL x).length) ∧ s 23 = sc (.int .i64 j) ∧ Keep σ σ' ∧ σ.nobj + 1 < σ'.nobj ∧ σ'.obj (σ.nobj + 1) = cvec N.length cc ∧ Abs.Hid (cntsOk N (seenL l x i j) cc) ∧ Abs.Hid (consS (seenL l x i j)) ∧ Abs.Hid (noOj l x i j)) (atomsL x).length
   ⟨0, cc, by omega, by omega, by simp [upd, h3], by simp [upd], by simp [upd, h13], by simp [upd, h14], by simp [upd, h15], by simp [upd], rfl, rfl, hKs, by omega, hob1, by simpa [seenL] using hC, by simpa [seenL] using hS, fun b h => by omega⟩ ?_
  clear hob1 hK hob hC hS hK2 kno2 kno h3 h13 h14 h15 hno1 cc hKs
  rintro m s σ' ⟨j, cc, rfl, hj, h3, h4, h13, h14, h15, h21, h22, h23, hK, hno1, hob, hC, hS, hno2⟩
  have kno := hK.nobj
  by_cases hlt2 : j < (atomsL x).length
  ·have hget := List.getElem?_eq_getElem hlt2
   have hp2 := hp1 (atomsL x)[j] (List.getElem_mem hlt2)
   obtain ⟨ha, ia, r2, hd2⟩ := EL_PC hE2 hget
   generalize (atomsL x)[j] = a at hd2 hget ha hp2
   have HA : Abs.Hid ((atomsL x)[j]? = some a) := hget
   clear hget
   have hodd : Abs.Hid (oddAt l x i j = (seenL l x i j).any (clash a)) := by rw [Abs.Hid, oddAt, HA.out]
   have hix := List.idxOf_lt_length_of_mem ha
   have hst := hC.out.step hS.out ha
   have hcv := hC.out a.pred ha
   have hcg := cvec_get cc hix
   have hcs := fun v => cvec_set (n := N.length) (i := N.idxOf a.pred) cc v
   have hvl := cvec_len N.length cc
   generalize hce : cc (N.idxOf a.pred) = c at hcg hst hcv
   clear hce
   generalize N.idxOf a.pred = ix at hd2 hcg hix hst hcs
   have hcl := clash_iff hS.out a
   have HST : Abs.Hid _ := hst
   have HCV : Abs.Hid _ := hcv
   have HCL : Abs.Hid _ := hcl
   clear hst hcv hcl
   by_cases hc0 : (c == 0) = true
   ·have hgs : ((cvec N.length cc).set ix (sc (.int .i64 a.terms.length)))[ix]? = some (sc (.int .i64 a.terms.length)) := by rw [hcs, cvec_get _ hix]; simp
    have hne : ((a.terms.length : Int) != a.terms.length) = false := by simp
    have hcc : c = 0 := by simpa using hc0
    have HCS : Abs.Hid _ := hcs
    clear hcs
    repeat' (first
 |with_reducible first|apply Xa|apply Xb|(refine Xc ?_;intro κ hκ)|(apply hκ.out;clear hκ κ)|apply Xd|apply Xe|apply Xf
 |((with_reducible first|refine Xl ?_ ?_|refine Xm ?_ ?_|refine Xk ?_ ?_)<;> intro h hari<;> try exact Xp)
 |refine Xr ?_
 |exact True.intro
 |((with_reducible refine Xg ?_);refine Xj ?_)
 |(apply hκ.out;clear hκ κ))
    refine awp_draw_k follows_mixed (fun _ => True) [8] [0, 1, 2, 3, 4, 5, 6, 7] [8] (by kernel_rfl) (fun _ _ _ h => h) ?_
    intro κ hκ
    refine Xr ?_
    repeat' (first
 |with_reducible first|apply Xa|apply Xb|(refine Xc ?_;intro κ hκ)|(apply hκ.out;clear hκ κ)|apply Xd|apply Xe|apply Xf
 |((with_reducible first|refine Xl ?_ ?_|refine Xm ?_ ?_|refine Xk ?_ ?_)<;> intro h hari<;> try exact Xp)
 |refine Xr ?_
 |exact True.intro
 |((with_reducible refine Xg ?_);refine Xj ?_)
 |(apply hκ.out;clear hκ κ))
    have hnc : (seenL l x i j).any (clash a) = false := by
     cases hq : (seenL l x i j).any (clash a) with
     | false => rfl
     | true => exfalso; have h1 := (HCL.out.1 hq).1; have h2 := HCV.out; omega
    refine ⟨(atomsL x).length - (j + 1), by omega, j + 1, _, rfl, by omega, by simp, ((hK.new _).put hK.nobj _).put (by omega) _, by omega, HCS.out _, ?_, ?_, no_step hno2.out (by rw [hodd.out]; exact hnc)⟩
    ·rw [Abs.Hid, seen_succ HA.out]; exact HST.out.1 hcc
    ·rw [Abs.Hid, seen_succ HA.out]; exact cons_snoc hS.out hp2 hnc
   ·have hc0 : (c == 0) = false := by simpa using hc0
    clear hcs
    repeat' (first
 |with_reducible first|apply Xa|apply Xb|(refine Xc ?_;intro κ hκ)|(apply hκ.out;clear hκ κ)|apply Xd|apply Xe|apply Xf
 |((with_reducible first|refine Xl ?_ ?_|refine Xm ?_ ?_|refine Xk ?_ ?_)<;> intro h hari<;> try exact Xp)
 |refine Xr ?_
 |exact True.intro
 |((with_reducible refine Xg ?_);refine Xj ?_)
 |(apply hκ.out;clear hκ κ))
    refine awp_draw_k follows_mixed (fun _ => True) [8] [0, 1, 2, 3, 4, 5, 6, 7] [8] (by kernel_rfl) (fun _ _ _ h => h) ?_
    intro κ hκ
    refine Xr ?_
    repeat' (first
 |with_reducible first|apply Xa|apply Xb|(refine Xc ?_;intro κ hκ)|(apply hκ.out;clear hκ κ)|apply Xd|apply Xe|apply Xf
 |((with_reducible first|refine Xl ?_ ?_|refine Xm ?_ ?_|refine Xk ?_ ?_)<;> intro h hari<;> try exact Xp)
 |refine Xr ?_
 |exact True.intro
 |((with_reducible refine Xg ?_);refine Xj ?_)
 |(apply hκ.out;clear hκ κ))
    ·have hc2 : c ≠ 0 := by simpa using hc0
     have hc3 : c ≠ a.terms.length := by simpa using h
     have hcy := HCL.out.2 ⟨by have := HCV.out; omega, by have := HCV.out; omega⟩
     have hop : oddP l i = true := by
      unfold oddP; rw [HX.out]; dsimp only
      rw [List.any_eq_true]
      exact ⟨j, by simpa using hlt2, by rw [hodd.out]; exact hcy⟩
     exact ⟨_, rfl, by rw [firstN_hit hlt hop hno.out], (hK.new _).put hK.nobj _⟩
    ·have hc2 : c ≠ 0 := by simpa using hc0
     have hc3 : c = a.terms.length := by simpa using h
     have hnc : (seenL l x i j).any (clash a) = false := by
      cases hq : (seenL l x i j).any (clash a) with
      | false => rfl
      | true => exfalso; have h1 := (HCL.out.1 hq).2; have h2 := HCV.out; omega
     refine ⟨(atomsL x).length - (j + 1), by omega, j + 1, cc, rfl, by omega, by simp, (hK.new _).put hK.nobj _, by omega, rfl, ?_, ?_, no_step hno2.out (by rw [hodd.out]; exact hnc)⟩
     ·rw [Abs.Hid, seen_succ HA.out]; exact HST.out.2 hc2
     ·rw [Abs.Hid, seen_succ HA.out]; exact cons_snoc hS.out hp2 hnc
  ·have hjl : j = (atomsL x).length := by omega
   subst hjl
   repeat' (first
 |with_reducible first|apply Xa|apply Xb|(refine Xc ?_;intro κ hκ)|(apply hκ.out;clear hκ κ)|apply Xd|apply Xe|apply Xf
 |((with_reducible first|refine Xl ?_ ?_|refine Xm ?_ ?_|refine Xk ?_ ?_)<;> intro h hari<;> try exact Xp)
 |refine Xr ?_
 |exact True.intro
 |((with_reducible refine Xg ?_);refine Xj ?_)
 |(apply hκ.out;clear hκ κ))
   have hsn : seenL l x i (atomsL x).length = priorL l (i + 1) := by rw [seen_next HX.out]; simp [seenL]
   rw [hsn] at hC hS
   refine ⟨l.length - (i + 1), by omega, i + 1, cc, rfl, by omega, by simp, rfl, hC, hS, no_step hno.out ?_⟩
   unfold oddP; rw [HX.out]; dsimp only
   rw [List.any_eq_false]
   intro b hb
   have hb2 := hno2.out b (by simpa using hb)
   simp [hb2]
 ·have hil : i = l.length := by omega
  subst hil
  repeat' (first
 |with_reducible first|apply Xa|apply Xb|(refine Xc ?_;intro κ hκ)|(apply hκ.out;clear hκ κ)|apply Xd|apply Xe|apply Xf
 |((with_reducible first|refine Xl ?_ ?_|refine Xm ?_ ?_|refine Xk ?_ ?_)<;> intro h hari<;> try exact Xp)
 |refine Xr ?_
 |exact True.intro
 |((with_reducible refine Xg ?_);refine Xj ?_)
 |(apply hκ.out;clear hκ κ))
  first | exact ⟨_, rfl, by rw [firstN_none hno.out], hK⟩ | exact ⟨_, rfl, by rw [firstN_none hno.out]⟩
/- The program: what uses what, at once. -/
def bvec (n : Nat) (f : Nat → Bool) : List AV := (List.range n).map fun i => sc (.bool (f i))
theorem bvec_len (n : Nat) (f : Nat → Bool) : (bvec n f).length = n := by simp [bvec]
theorem bvec_get {n i : Nat} (f : Nat → Bool) (h : i < n) : (bvec n f)[i]? = some (sc (.bool (f i))) := by simp [bvec, h]
theorem bvec_set {n i : Nat} (f : Nat → Bool) (v : Bool) : (bvec n f).set i (sc (.bool v)) = bvec n (fun j => if j = i then v else f j) := by
 apply List.ext_getElem?
 intro j
 rw [List.getElem?_set]
 by_cases hj : j < n
 ·rw [bvec_get (fun j => if j = i then v else f j) hj]
  by_cases e : i = j
  ·subst e; rw [if_pos rfl, bvec_len, if_pos hj]; simp
  ·rw [if_neg e, bvec_get _ hj, if_neg (fun e' => e e'.symm)]
 ·have h1 : (bvec n fun j => if j = i then v else f j)[j]? = none := by simp [bvec]; omega
  have h2 : (bvec n f)[j]? = none := by simp [bvec]; omega
  rw [h1, h2]
  split
  ·rw [bvec_len]; rw [if_neg (by omega)]
  ·rfl
theorem bvec_zero (n : Nat) : List.replicate n (sc (.bool false)) = bvec n fun _ => false := by
 apply List.ext_getElem?
 intro j
 by_cases hj : j < n
 ·rw [bvec_get _ hj]; simp [hj]
 ·simp [bvec, hj]
def rowsC (B n k : Nat) : List AV := (List.range k).map fun i => fx (B + i) 0 n
theorem rowsC_len (B n k : Nat) : (rowsC B n k).length = k := by simp [rowsC]
theorem rowsC_snoc (B n k : Nat) : rowsC B n (k + 1) = rowsC B n k ++ [fx (B + k) 0 n] := by simp [rowsC, List.range_succ]
theorem rowsC_get {B n k i : Nat} (h : i < k) : (rowsC B n k).drop i = fx (B + i) 0 n :: (rowsC B n k).drop (i + 1) := by
 rw [List.drop_eq_getElem_cons (by rw [rowsC_len]; exact h)]; simp [rowsC]
def Mat (B n : Nat) (M : Nat → Nat → Bool) (σ : St) : Prop := ∀ i, i < n → σ.obj (B + i) = bvec n (M i)
theorem Mat.keep {B n : Nat} {M : Nat → Nat → Bool} {σ σ' : St} (h : Mat B n M σ) (k : Keep σ σ') (hn : B + n ≤ σ.nobj) : Mat B n M σ' := fun i hi => by rw [k.obj _ (by omega)]; exact h i hi
theorem Mat.new {B n : Nat} {M : Nat → Nat → Bool} {σ : St} (h : Mat B n M σ) (hn : B + n ≤ σ.nobj) (cs : List AV) : Mat B n M (σ.new cs) := fun i hi => by rw [new_lt (by omega)]; exact h i hi
theorem Mat.put {B n o : Nat} {M : Nat → Nat → Bool} {σ : St} (h : Mat B n M σ) (ho : B + n ≤ o) (cs : List AV) : Mat B n M (σ.put o cs) := fun i hi => by rw [put_ne (by omega)]; exact h i hi
theorem Mat.set {B n p q : Nat} {M : Nat → Nat → Bool} {σ : St} (h : Mat B n M σ) (hp : p < n) (v : Bool) : Mat B n (set2 M p q v) (σ.put (B + p) ((bvec n (M p)).set q (sc (.bool v)))) := fun i hi => by
 by_cases e : i = p
 ·subst e
  rw [put_same, bvec_set]
  congr 1; funext j; simp [set2]
 ·have hx : (σ.put (B + p) ((bvec n (M p)).set q (sc (.bool v)))).obj (B + i) = σ.obj (B + i) := by
   by_cases hl : i < p
   ·exact put_ne (by omega)
   ·exact put_ne' (by omega)
  rw [hx, h i hi]
  congr 1; funext j; simp [set2, e]
def onceP (N : List Tx) (l : List RItem) (p q : Nat) : Prop := ∃ x ∈ l, N.idxOf x.head.pred = p ∧ ∃ a ∈ x.body, N.idxOf a.pred = q
def onceQ (N : List Tx) (x : RItem) (b : List RAtom) (p q : Nat) : Prop := N.idxOf x.head.pred = p ∧ ∃ a ∈ b, N.idxOf a.pred = q
def isOnce (N : List Tx) (l : List RItem) (M : Nat → Nat → Bool) : Prop := ∀ p q, M p q = true ↔ onceP N l p q
def isOnceQ (N : List Tx) (l : List RItem) (x : RItem) (b : List RAtom) (M : Nat → Nat → Bool) : Prop := ∀ p q, M p q = true ↔ onceP N l p q ∨ onceQ N x b p q
theorem isOnceQ.step {N : List Tx} {l : List RItem} {x : RItem} {j : Nat} {a : RAtom} {M : Nat → Nat → Bool} (h : isOnceQ N l x (x.body.take j) M) (ha : x.body[j]? = some a) : isOnceQ N l x (x.body.take (j + 1)) (set2 M (N.idxOf x.head.pred) (N.idxOf a.pred) true) := by
 intro p q
 rw [List.take_add_one, ha]
 unfold set2
 by_cases e : p = N.idxOf x.head.pred ∧ q = N.idxOf a.pred
 ·rw [if_pos e]
  simp only [true_iff]
  exact .inr ⟨e.1.symm, a, by simp, e.2.symm⟩
 ·rw [if_neg e, h p q]
  constructor
  ·rintro (h | ⟨h1, b, hb, h2⟩)
   ·exact .inl h
   ·exact .inr ⟨h1, b, by simp [hb], h2⟩
  ·rintro (h | ⟨h1, b, hb, h2⟩)
   ·exact .inl h
   ·simp only [Option.toList_some, List.mem_append, List.mem_singleton] at hb
    rcases hb with hb | rfl
    ·exact .inr ⟨h1, b, hb, h2⟩
    ·exact absurd ⟨h1.symm, h2.symm⟩ e
theorem isOnceQ.zero {N : List Tx} {l : List RItem} {x : RItem} {M : Nat → Nat → Bool} (h : isOnce N l M) : isOnceQ N l x (x.body.take 0) M := by
 intro p q
 rw [h p q]
 constructor
 ·exact .inl
 ·rintro (h | ⟨-, b, hb, -⟩)
  ·exact h
  ·simp at hb
theorem isOnceQ.done {N : List Tx} {l : List RItem} {x : RItem} {i : Nat} {M : Nat → Nat → Bool} (h : isOnceQ N (l.take i) x x.body M) (hx : l[i]? = some x) : isOnce N (l.take (i + 1)) M := by
 intro p q
 rw [h p q, List.take_add_one, hx]
 constructor
 ·rintro (⟨y, hy, g⟩ | g)
  ·exact ⟨y, by simp [hy], g⟩
  ·exact ⟨x, by simp, g⟩
 ·rintro ⟨y, hy, g⟩
  simp only [Option.toList_some, List.mem_append, List.mem_singleton] at hy
  rcases hy with hy | rfl
  ·exact .inl ⟨y, hy, g⟩
  ·exact .inr g
set_option maxHeartbeats 16000000 in
theorem usesAtOnce_spec (N : List Tx) (l : List RItem) (cs : List AV) (idn idi : Nat) (hB : Bk N l cs) (σ : St) : ACalls Tryz.prog 206 [bookA N idn l idi cs] σ fun r σ' => ∃ idu B M, r = sl idu N.length (rowsC B N.length N.length) ∧ Keep σ σ' ∧ σ.nobj ≤ B ∧ B + N.length ≤ σ'.nobj ∧ Mat B N.length M σ' ∧ isOnce N l M := by
 have hcl := EL.length PI_len hB.el
 have hl16 := hB.len
 have hN := hB.nm
 refine acalls 51 [.tmp 2] Tryz.func206 rfl (by decide) rfl rfl (Nat.le_of_ble_eq_true rfl) ?_
 repeat' (first
 |with_reducible first|apply Xa|apply Xb|(refine Xc ?_;intro κ hκ)|(apply hκ.out;clear hκ κ)|apply Xd|apply Xe|apply Xf
 |((with_reducible first|refine Xl ?_ ?_|refine Xm ?_ ?_|refine Xk ?_ ?_)<;> intro h hari<;> try exact Xp)
 |((with_reducible refine aapp_go ?_);refine Xt ?_;intro idn σn hOn hKn eobj enobj ever entop)
 |((with_reducible refine aappn_go ?_);refine Xu ?_)
 |refine Xr ?_
 |exact True.intro
 |((with_reducible refine Xg ?_);refine Xj ?_)
 |(apply hκ.out;clear hκ κ))
 refine awp_loop (fun m s σ' => ∃ (k idu : Nat), m = N.length - k ∧ k ≤ N.length ∧ s 1 = ptr σ.nobj 0 ∧ s 3 = sl idu k (rowsC (σ.nobj + 1) N.length k) ∧ s 12 = sc (.int .i64 N.length) ∧ s 13 = sc (.int .i64 k) ∧ Keep σ σ' ∧ Own σ σ' idu k ∧ σ'.nobj = σ.nobj + 1 + k ∧ σ'.obj σ.nobj = [sl idn N.length (N.map str), sl idi l.length cs] ∧ Abs.Hid (∀ i, i < k → σ'.obj (σ.nobj + 1 + i) = bvec N.length fun _ => false)) N.length
  ⟨0, 1, by omega, by omega, rfl, rfl, rfl, rfl, by exact Xs, Own.nil _ _, rfl, new_same, fun i hi => by omega⟩ ?_
 rintro m s σ' ⟨k, idu, rfl, hk, h1, h3, h12, h13, hK, hO, hnob, hob, hM⟩
 have hrl := rowsC_len (σ.nobj + 1) N.length k
 by_cases hlt : k < N.length
 ·repeat' (first
 |with_reducible first|apply Xa|apply Xb|(refine Xc ?_;intro κ hκ)|(apply hκ.out;clear hκ κ)|apply Xd|apply Xe|apply Xf
 |((with_reducible first|refine Xl ?_ ?_|refine Xm ?_ ?_|refine Xk ?_ ?_)<;> intro h hari<;> try exact Xp)
 |((with_reducible refine aapp_go ?_);refine Xt ?_;intro idn σn hOn hKn eobj enobj ever entop)
 |((with_reducible refine aappn_go ?_);refine Xu ?_)
 |refine Xr ?_
 |exact True.intro
 |((with_reducible refine Xg ?_);refine Xj ?_)
 |(apply hκ.out;clear hκ κ))
  have hKx : Keep σ (σ'.new (List.replicate N.length (sc (.bool false)))) := hK.new _
  refine aApp_own (by first | exact tez_206) hKx (Own.new hO _) (by decide) (by rfl) (by rw [hrl, Nat.mul_one]) (by rfl) (by rfl) (by decide) (by omega) (by omega) ?_
  intro idn2 σn hOn hKn eobj enobj ever entop
  have hobn : σn.obj σ.nobj = [sl idn N.length (N.map str), sl idi l.length cs] := by rw [eobj, new_lt (by omega)]; exact hob
  rw [new_nobj, hnob] at enobj
  refine Xr ?_
  repeat' (first
 |with_reducible first|apply Xa|apply Xb|(refine Xc ?_;intro κ hκ)|(apply hκ.out;clear hκ κ)|apply Xd|apply Xe|apply Xf
 |((with_reducible first|refine Xl ?_ ?_|refine Xm ?_ ?_|refine Xk ?_ ?_)<;> intro h hari<;> try exact Xp)
 |((with_reducible refine aapp_go ?_);refine Xt ?_;intro idn σn hOn hKn eobj enobj ever entop)
 |((with_reducible refine aappn_go ?_);refine Xu ?_)
 |refine Xr ?_
 |exact True.intro
 |((with_reducible refine Xg ?_);refine Xj ?_)
 |(apply hκ.out;clear hκ κ))
  refine ⟨N.length - (k + 1), by omega, k + 1, idn2, rfl, by omega, by rw [rowsC_snoc], by simp, hOn, by omega, ?_⟩
  intro i hi
  try rw [eobj]
  by_cases e : i = k
  ·subst e; rw [← hnob, new_same, bvec_zero]
  ·rw [new_lt (by omega)]; exact hM.out i (by omega)
 ·have hkl : k = N.length := by omega
  subst hkl
  repeat' (first
 |with_reducible first|apply Xa|apply Xb|(refine Xc ?_;intro κ hκ)|(apply hκ.out;clear hκ κ)|apply Xd|apply Xe|apply Xf
 |((with_reducible first|refine Xl ?_ ?_|refine Xm ?_ ?_|refine Xk ?_ ?_)<;> intro h hari<;> try exact Xp)
 |((with_reducible refine aapp_go ?_);refine Xt ?_;intro idn σn hOn hKn eobj enobj ever entop)
 |((with_reducible refine aappn_go ?_);refine Xu ?_)
 |refine Xr ?_
 |exact True.intro
 |((with_reducible refine Xg ?_);refine Xj ?_)
 |(apply hκ.out;clear hκ κ))
  have hM0 : Mat (σ.nobj + 1) N.length (fun _ _ => false) σ' := hM.out
  have hnb : σ.nobj + 1 + N.length ≤ σ'.nobj := by omega
  clear hM hnob hO hob h13 h12 h1
  refine awp_loop (fun m s σ' => ∃ (i : Nat) (M : Nat → Nat → Bool), m = l.length - i ∧ i ≤ l.length ∧ s 3 = sl idu N.length (rowsC (σ.nobj + 1) N.length N.length) ∧ s 25 = sl idi l.length cs ∧ s 26 = sc (.int .i64 l.length) ∧ s 27 = sc (.int .i64 i) ∧ Keep σ σ' ∧ σ.nobj + 1 + N.length ≤ σ'.nobj ∧ Abs.Hid (Mat (σ.nobj + 1) N.length M σ') ∧ Abs.Hid (isOnce N (l.take i) M)) l.length
   ⟨0, fun _ _ => false, by omega, by omega, by simp [upd, h3], by simp [upd], by simp [upd], rfl, hK, hnb, hM0, fun p q => by simp [onceP]⟩ ?_
  clear hM0 hnb h3 hK h hari hlt hk
  rintro m s σ' ⟨i, M, rfl, hi, h3, h25, h26, h27, hK, hnb, hM, hI⟩
  have kno := hK.nobj
  by_cases hlt : i < l.length
  ·have hget := List.getElem?_eq_getElem hlt
   have hf1 := hB.fits l[i] (List.getElem_mem hlt)
   obtain ⟨hm, ih, id, b, r, hb, hd⟩ := EL_PI hB.el hget
   generalize l[i] = x at hd hget hf1 hb hm
   have HX : Abs.Hid (l[i]? = some x) := hget
   clear hget
   have hbl := EL.length PL_len hb
   have hx1 := hf1.1
   have hpx := List.idxOf_lt_length_of_mem hm
   repeat' (first
 |with_reducible first|apply Xa|apply Xb|(refine Xc ?_;intro κ hκ)|(apply hκ.out;clear hκ κ)|apply Xd|apply Xe|apply Xf
 |((with_reducible first|refine Xl ?_ ?_|refine Xm ?_ ?_|refine Xk ?_ ?_)<;> intro h hari<;> try exact Xp)
 |((with_reducible refine aapp_go ?_);refine Xt ?_;intro idn σn hOn hKn eobj enobj ever entop)
 |((with_reducible refine aappn_go ?_);refine Xu ?_)
 |refine Xr ?_
 |exact True.intro
 |((with_reducible refine Xg ?_);refine Xj ?_)
 |(apply hκ.out;clear hκ κ))
   have hKa : Keep σ ((σ'.new [sc (.bool false), sc (.int .i64 0), nilS, nilS]).put σ'.nobj [sc (.bool x.out), sc (.int .i64 (N.idxOf x.head.pred : Nat)), sl ih x.head.terms.length (tcells x.head.terms), sl id x.body.length b]) := (hK.new _).put hK.nobj _
   have hMa := (hM.out.new hnb [sc (.bool false), sc (.int .i64 0), nilS, nilS]).put hnb [sc (.bool x.out), sc (.int .i64 (N.idxOf x.head.pred : Nat)), sl ih x.head.terms.length (tcells x.head.terms), sl id x.body.length b]
   generalize ho6 : σ'.nobj = o6 at hKa hMa hnb
   refine awp_loop (fun m s σ'' => ∃ (j : Nat) (M : Nat → Nat → Bool), m = x.body.length - j ∧ j ≤ x.body.length ∧ s 3 = sl idu N.length (rowsC (σ.nobj + 1) N.length N.length) ∧ s 6 = ptr o6 0 ∧ s 25 = sl idi l.length cs ∧ s 26 = sc (.int .i64 l.length) ∧ s 27 = sc (.int .i64 i) ∧ s 32 = sl id x.body.length b ∧ s 33 = sc (.int .i64 x.body.length) ∧ s 34 = sc (.int .i64 j) ∧ Keep σ σ'' ∧ o6 < σ''.nobj ∧ σ''.obj o6 = [sc (.bool x.out), sc (.int .i64 (N.idxOf x.head.pred : Nat)), sl ih x.head.terms.length (tcells x.head.terms), sl id x.body.length b] ∧ Abs.Hid (Mat (σ.nobj + 1) N.length M σ'') ∧ Abs.Hid (isOnceQ N (l.take i) x (x.body.take j) M)) x.body.length
    ⟨0, M, by omega, by omega, by simp [upd, h3], by simp [upd, ho6], by simp [upd, h25], by simp [upd, h26], by simp [upd, h27], by simp [upd], rfl, rfl, ?_, ?_, ?_, ?_, isOnceQ.zero hI.out⟩ ?_
   ·exact hKa
   ·rw [put_nobj, new_nobj]; omega
   ·rw [put_same]
   ·exact hMa
   clear hMa hKa hK hM hI h3 h25 h26 h27 kno M ho6
   rintro m s σ'' ⟨j, M, rfl, hj, h3, h6, h25, h26, h27, h32, h33, h34, hK, ho6n, hob6, hM, hI⟩
   have kno := hK.nobj
   by_cases hlt2 : j < x.body.length
   ·have hget := List.getElem?_eq_getElem hlt2
    obtain ⟨ha, ia, r2, hd2⟩ := EL_PL hb hget
    generalize x.body[j] = a at hd2 hget ha
    have HA : Abs.Hid (x.body[j]? = some a) := hget
    clear hget
    have hpa := List.idxOf_lt_length_of_mem ha
    have hr1 := rowsC_get (B := σ.nobj + 1) (n := N.length) (k := N.length) hpx
    have hmo := hM.out _ hpx
    have hvl := bvec_len N.length (M (N.idxOf x.head.pred))
    have hst := isOnceQ.step hI.out HA.out
    have HST : Abs.Hid _ := hst
    have hms := fun (τ : St) (hτ : Mat (σ.nobj + 1) N.length M τ) => Mat.set (q := N.idxOf a.pred) hτ hpx true
    have HMS : Abs.Hid _ := hms
    clear hst hms
    generalize N.idxOf x.head.pred = ph at hob6 hpx hr1 hmo hvl HST HMS
    generalize N.idxOf a.pred = qa at hd2 hpa HST HMS
    repeat' (first
 |with_reducible first|apply Xa|apply Xb|(refine Xc ?_;intro κ hκ)|(apply hκ.out;clear hκ κ)|apply Xd|apply Xe|apply Xf
 |((with_reducible first|refine Xl ?_ ?_|refine Xm ?_ ?_|refine Xk ?_ ?_)<;> intro h hari<;> try exact Xp)
 |((with_reducible refine aapp_go ?_);refine Xt ?_;intro idn σn hOn hKn eobj enobj ever entop)
 |((with_reducible refine aappn_go ?_);refine Xu ?_)
 |refine Xr ?_
 |exact True.intro
 |((with_reducible refine Xg ?_);refine Xj ?_)
 |(apply hκ.out;clear hκ κ))
    refine awp_draw_k follows_mixed (fun _ => True) [10] [0, 1, 2, 3, 4, 5, 6, 7, 8, 9] [10] (by kernel_rfl) (fun _ _ _ h => h) ?_
    intro κ hκ
    refine Xr ?_
    repeat' (first
 |with_reducible first|apply Xa|apply Xb|(refine Xc ?_;intro κ hκ)|(apply hκ.out;clear hκ κ)|apply Xd|apply Xe|apply Xf
 |((with_reducible first|refine Xl ?_ ?_|refine Xm ?_ ?_|refine Xk ?_ ?_)<;> intro h hari<;> try exact Xp)
 |((with_reducible refine aapp_go ?_);refine Xt ?_;intro idn σn hOn hKn eobj enobj ever entop)
 |((with_reducible refine aappn_go ?_);refine Xu ?_)
 |refine Xr ?_
 |exact True.intro
 |((with_reducible refine Xg ?_);refine Xj ?_)
 |(apply hκ.out;clear hκ κ))
    exact ⟨x.body.length - (j + 1), by omega, j + 1, _, rfl, by omega, by simp, ((hK.new _).put hK.nobj _).put (by omega) _, by omega, HMS.out _ (Mat.put (Mat.new hM.out (by omega) _) (by omega) _), HST.out⟩
   ·have hjl : j = x.body.length := by omega
    subst hjl
    rw [List.take_length] at hI
    repeat' (first
 |with_reducible first|apply Xa|apply Xb|(refine Xc ?_;intro κ hκ)|(apply hκ.out;clear hκ κ)|apply Xd|apply Xe|apply Xf
 |((with_reducible first|refine Xl ?_ ?_|refine Xm ?_ ?_|refine Xk ?_ ?_)<;> intro h hari<;> try exact Xp)
 |((with_reducible refine aapp_go ?_);refine Xt ?_;intro idn σn hOn hKn eobj enobj ever entop)
 |((with_reducible refine aappn_go ?_);refine Xu ?_)
 |refine Xr ?_
 |exact True.intro
 |((with_reducible refine Xg ?_);refine Xj ?_)
 |(apply hκ.out;clear hκ κ))
    exact ⟨l.length - (i + 1), by omega, i + 1, M, rfl, by omega, by simp, by omega, hM, isOnceQ.done hI.out HX.out⟩
  ·have hil : i = l.length := by omega
   subst hil
   rw [List.take_length] at hI
   repeat' (first
 |with_reducible first|apply Xa|apply Xb|(refine Xc ?_;intro κ hκ)|(apply hκ.out;clear hκ κ)|apply Xd|apply Xe|apply Xf
 |((with_reducible first|refine Xl ?_ ?_|refine Xm ?_ ?_|refine Xk ?_ ?_)<;> intro h hari<;> try exact Xp)
 |((with_reducible refine aapp_go ?_);refine Xt ?_;intro idn σn hOn hKn eobj enobj ever entop)
 |((with_reducible refine aappn_go ?_);refine Xu ?_)
 |refine Xr ?_
 |exact True.intro
 |((with_reducible refine Xg ?_);refine Xj ?_)
 |(apply hκ.out;clear hκ κ))
   exact ⟨_, rfl, idu, σ.nobj + 1, M, rfl, by omega, hnb, hM.out, hI.out⟩
end Go.Proofs.YtmoeoppbmhfbpaaGreatDoorB
