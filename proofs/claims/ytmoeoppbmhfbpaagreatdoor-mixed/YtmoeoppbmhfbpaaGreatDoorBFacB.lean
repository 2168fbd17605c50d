import Derived.Test.YtmoeoppbmhfbpaaGreatDoorBFacA
import Derived.Test.YtmoeoppbmhfbpaaGreatDoorBProgN
/- The program's facts: has one another number of terms, or is its predicate ruled? -/
namespace Go.Proofs.YtmoeoppbmhfbpaaGreatDoorB
open Go.Abs
set_option linter.unusedSimpArgs false
set_option linter.unusedVariables false
set_option maxRecDepth 100000
def othF (A : List RAtom) : List RAtom → Bool
 | [] => false
 | a :: F => A.any (clash a) || othF (A ++ [a]) F
theorem othF_hit {F : List RAtom} : ∀ {A : List RAtom} {i : Nat} {a : RAtom}, F[i]? = some a → (A ++ F.take i).any (clash a) = true → othF A F = true := by
 induction F with
 | nil => intro A i a h; simp at h
 | cons b F ih =>
  intro A i a h hc
  unfold othF
  cases i with
  | zero =>
   simp at h hc
   subst h
   rw [Bool.or_eq_true]
   left
   rw [List.any_eq_true]
   exact hc
  | succ i =>
   rw [Bool.or_eq_true]
   right
   exact ih (A := A ++ [b]) (i := i) (by simpa using h) (by simpa using hc)
theorem othF_none {F : List RAtom} : ∀ {A : List RAtom}, (∀ (i : Nat) (a : RAtom), F[i]? = some a → (A ++ F.take i).any (clash a) = false) → othF A F = false := by
 induction F with
 | nil => intro A _; rfl
 | cons b F ih =>
  intro A h
  unfold othF
  rw [Bool.or_eq_false_iff]
  refine ⟨by simpa using h 0 b rfl, ih fun i a hi => ?_⟩
  have := h (i + 1) a (by simpa using hi)
  simpa using this
theorem cntsOk.put {N : List Tx} {S : List RAtom} {cc : Nat → Int} {a : RAtom} (h : cntsOk N S cc) (hc : consS S) (hn : S.any (clash a) = false) (ha : a.pred ∈ N) : cntsOk N (S ++ [a]) (fun j => if j = N.idxOf a.pred then (a.terms.length : Int) else cc j) := by
 have h0 := h a.pred ha
 by_cases e : cc (N.idxOf a.pred) = 0
 ·exact (h.step hc ha).1 e
 ·have h1 := (h.step hc ha).2 e
  have h2 : ¬ (cntL S a.pred ≠ 0 ∧ cntL S a.pred ≠ a.terms.length) := fun g => by rw [← clash_iff hc a, hn] at g; cases g
  intro p hp
  dsimp only
  by_cases ep : N.idxOf p = N.idxOf a.pred
  ·rw [if_pos ep, ← h1 p hp, ep]
   omega
  ·rw [if_neg ep]; exact h1 p hp
theorem prior_succ {l : List RItem} {i : Nat} {x : RItem} (h : l[i]? = some x) : priorL l (i + 1) = seenL l x i (atomsL x).length := by
 unfold priorL seenL
 rw [List.take_add_one, h, Option.toList_some, List.flatMap_append, List.take_length]
 simp [priorL]
theorem PF_get {N : List Tx} {l : List RAtom} {cs : List AV} {i : Nat} {a : RAtom} (h : EL (PF N) l cs) (hi : l[i]? = some a) : a.pred ∈ N ∧ ∃ ids r, cs.drop (i * 2) = ic (N.idxOf a.pred : Nat) :: sl ids a.terms.length (tcells a.terms) :: r := by
 obtain ⟨c, r, ⟨hm, ids, rfl⟩, e⟩ := EL.get PF_len h hi
 exact ⟨hm, ids, r, e⟩
set_option maxHeartbeats 64000000 in
theorem otherTerms_spec (N N' : List Tx) (hN : N <+: N') (l : List RItem) (cs : List AV) (idn idi : Nat) (hB : Bk N l cs) (hT : ∀ S, S <+: l.flatMap atomsL → ∀ a ∈ l.flatMap atomsL, S.any (clash a) = false) (F : List RAtom) (fc : List AV) (idf : Nat) (hF : EL (PF N') F fc) (hFl : F.length ≤ 1000) (hFp : ∀ a ∈ F, 0 < a.terms.length ∧ a.terms.length ≤ 3) (hN' : N'.length ≤ 2500) (σ : St) :
  ACalls Tryz.prog 73 [bookA N idn l idi cs, sl idf F.length fc, ic N'.length] σ fun r σ' => r = sc (.bool (othF (l.flatMap atomsL) F)) ∧ Keep σ σ' := by
 have hE : EL (PI N') l cs := hB.el.mono (PI.mono hN)
 have hcl := EL.length PI_len hE
 have hfl := EL.length PF_len hF
 have hl16 := hB.len
 unfold bookA
 refine acalls 68 [.tmp 6] Tryz.func73 rfl (by decide) rfl rfl (Nat.le_of_ble_eq_true rfl) ?_
 repeat' (first
 |with_reducible first|apply Xa|apply Xb|(refine Xc ?_;intro κ hκ)|(apply hκ.out;clear hκ κ)|apply Xd|apply Xe|apply Xf
 |((with_reducible first|refine Xl ?_ ?_|refine Xm ?_ ?_|refine Xk ?_ ?_)<;> intro h hari<;> try exact Xp)
 |refine Xr ?_
 |exact True.intro
 |((with_reducible refine Xg ?_);refine Xj ?_)
 |(apply hκ.out;clear hκ κ))
 refine awp_loop (fun m s σ' => ∃ (i : Nat) (cc : Nat → Int), m = l.length - i ∧ i ≤ l.length ∧ s 1 = sl idf F.length fc ∧ s 7 = fx (σ.nobj + 1) 0 N'.length ∧ s 17 = sl idi l.length cs ∧ s 18 = ic l.length ∧ s 19 = ic i ∧ Keep σ σ' ∧ σ.nobj + 1 < σ'.nobj ∧ σ'.obj (σ.nobj + 1) = cvec N'.length cc ∧ Abs.Hid (cntsOk N' (priorL l i) cc) ∧ Abs.Hid (consS (priorL l i))) l.length
  ⟨0, fun _ => 0, by omega, by omega, rfl, ?_, rfl, rfl, rfl, by exact Xs, by simp only [new_nobj]; omega, ?_, ?_, by simp [Abs.Hid, priorL, cons_nil]⟩ ?_
 ·simp [upd]
 ·show (if σ.nobj + 1 = σ.nobj + 1 then _ else _) = _
  rw [if_pos rfl]; exact cvec_zero _
 ·intro p hp; simp [priorL, cntL]
 rintro m s σ' ⟨i, cc, rfl, hi, h1, h7, h17, h18, h19, hK, hno1, hob, hC, hS⟩
 have kno := hK.nobj
 by_cases hlt : i < l.length
 ·have hget := List.getElem?_eq_getElem hlt
  have hf1 := hB.fits l[i] (List.getElem_mem hlt)
  have ho1 := hB.out l[i] (List.getElem_mem hlt)
  have hp1 := hB.pos l[i] (List.getElem_mem hlt)
  obtain ⟨hm, ih, id, b, r, hb, hd⟩ := EL_PI hE hget
  generalize l[i] = x at hd hget hf1 ho1 hb hm hp1
  have HX : Abs.Hid (l[i]? = some x) := hget
  clear hget
  have hal := hf1.atoms
  repeat' (first
 |with_reducible first|apply Xa|apply Xb|(refine Xc ?_;intro κ hκ)|(apply hκ.out;clear hκ κ)|apply Xd|apply Xe|apply Xf
 |((with_reducible first|refine Xl ?_ ?_|refine Xm ?_ ?_|refine Xk ?_ ?_)<;> intro h hari<;> try exact Xp)
 |((with_reducible refine Xh ?_);refine Xi (patoms_spec N' x _ (PI.of hm hb) ho1 (by have:=hf1.1;omega) _) ?_;rintro _ _ ⟨ida,cs2,rfl,hE2,hK2⟩;(have kob2:=hK2.obj;have kno2:=hK2.nobj;(try simp only [new_nobj,put_nobj,lay_nobj] at kno2)))
 |refine Xr ?_
 |exact True.intro
 |((with_reducible refine Xg ?_);refine Xj ?_)
 |(apply hκ.out;clear hκ κ))
  rename_i σ1
  have hcl2 := EL.length PC_len hE2
  have hKs : Keep σ σ1 := by exact Xs
  have hob1 : σ1.obj (σ.nobj + 1) = cvec N'.length cc := by
   rw [kob2 _ (by simp only [new_nobj, put_nobj]; omega), put_ne (by omega), new_lt hno1]; exact hob
  clear kob2
  refine awp_loop (fun m s σ' => ∃ (j : Nat) (cc : Nat → Int), m = (atomsL x).length - j ∧ j ≤ (atomsL x).length ∧ s 1 = sl idf F.length fc ∧ s 7 = fx (σ.nobj + 1) 0 N'.length ∧ s 17 = sl idi l.length cs ∧ s 18 = ic l.length ∧ s 19 = ic i ∧ s 24 = sl ida (atomsL x).length cs2 ∧ s 25 = ic (atomsL x).length ∧ s 26 = ic j ∧ Keep σ σ' ∧ σ.nobj + 1 < σ'.nobj ∧ σ'.obj (σ.nobj + 1) = cvec N'.length cc ∧ Abs.Hid (cntsOk N' (seenL l x i j) cc) ∧ Abs.Hid (consS (seenL l x i j))) (atomsL x).length
   ⟨0, cc, by omega, by omega, by simp [upd, *], by simp [upd, *], by simp [upd, *], by simp [upd, *], by simp [upd, *], by simp [upd], rfl, rfl, hKs, by omega, hob1, by simpa [seenL] using hC, by simpa [seenL] using hS⟩ ?_
  clear hob1 hK hob hC hS hK2 kno2 kno h1 h7 h17 h18 h19 hno1 cc hKs
  rintro m s σ' ⟨j, cc, rfl, hj, h1, h7, h17, h18, h19, h24, h25, h26, hK, hno1, hob, hC, hS⟩
  have kno := hK.nobj
  by_cases hlt2 : j < (atomsL x).length
  ·have hget := List.getElem?_eq_getElem hlt2
   have hp2 := hp1 (atomsL x)[j] (List.getElem_mem hlt2)
   have hmem := List.getElem_mem hlt2
   obtain ⟨ha, ia, r2, hd2⟩ := EL_PC hE2 hget
   generalize (atomsL x)[j] = a at hd2 hget ha hp2 hmem
   have hnc : (seenL l x i j).any (clash a) = false := hT _ (by
    unfold seenL priorL
    have e1 : l = l.take i ++ x :: l.drop (i + 1) := by
     obtain ⟨h1, h2⟩ := List.getElem?_eq_some_iff.1 HX.out
     rw [← h2]; exact (List.take_append_drop i l).symm.trans (by rw [List.drop_eq_getElem_cons h1])
    conv => rhs; rw [e1]
    rw [List.flatMap_append, List.flatMap_cons]
    exact (List.prefix_append_right_inj _).2 ((List.take_prefix j _).trans (List.prefix_append _ _))) a (List.mem_flatMap.2 ⟨x, List.mem_of_getElem? HX.out, hmem⟩)
   have HN : Abs.Hid (cntsOk N' (seenL l x i (j + 1)) (fun q => if q = N'.idxOf a.pred then (a.terms.length : Int) else cc q) ∧ consS (seenL l x i (j + 1))) := by
    rw [Abs.Hid, seen_succ hget]
    exact ⟨hC.out.put hS.out hnc ha, cons_snoc hS.out hp2 hnc⟩
   have hix := List.idxOf_lt_length_of_mem ha
   have hcs := fun v => cvec_set (n := N'.length) (i := N'.idxOf a.pred) cc v
   have hvl := cvec_len N'.length cc
   clear hget hnc hmem
   generalize N'.idxOf a.pred = ix at hd2 hix hcs HN
   repeat' (first
 |with_reducible first|apply Xa|apply Xb|(refine Xc ?_;intro κ hκ)|(apply hκ.out;clear hκ κ)|apply Xd|apply Xe|apply Xf
 |((with_reducible first|refine Xl ?_ ?_|refine Xm ?_ ?_|refine Xk ?_ ?_)<;> intro h hari<;> try exact Xp)
 |refine Xr ?_
 |exact True.intro
 |((with_reducible refine Xg ?_);refine Xj ?_)
 |(apply hκ.out;clear hκ κ))
   refine ⟨(atomsL x).length - (j + 1), by omega, j + 1, fun q => if q = ix then (a.terms.length : Int) else cc q, ?_⟩
   ((repeat' with_reducible refine And.intro ?_ ?_)<;> first|exact Xq|exact (HN.out.1)|exact (HN.out.2)|exact (((hK.new _).put hK.nobj _).put (by omega) _)|exact (hcs _)|exact Xs)
  ·have hjl : j = (atomsL x).length := by omega
   subst hjl
   have HN : Abs.Hid (cntsOk N' (priorL l (i + 1)) cc ∧ consS (priorL l (i + 1))) := by
    rw [Abs.Hid, prior_succ HX.out]; exact ⟨hC.out, hS.out⟩
   repeat' (first
 |with_reducible first|apply Xa|apply Xb|(refine Xc ?_;intro κ hκ)|(apply hκ.out;clear hκ κ)|apply Xd|apply Xe|apply Xf
 |((with_reducible first|refine Xl ?_ ?_|refine Xm ?_ ?_|refine Xk ?_ ?_)<;> intro h hari<;> try exact Xp)
 |refine Xr ?_
 |exact True.intro
 |((with_reducible refine Xg ?_);refine Xj ?_)
 |(apply hκ.out;clear hκ κ))
   refine ⟨l.length - (i + 1), by omega, i + 1, cc, ?_⟩
   ((repeat' with_reducible refine And.intro ?_ ?_)<;> first|exact Xq|exact (HN.out.1)|exact (HN.out.2)|exact Xs)
 ·have hil : i = l.length := by omega
  subst hil
  have e0 : priorL l l.length = l.flatMap atomsL := by simp [priorL]
  rw [e0] at hC hS
  generalize l.flatMap atomsL = A at hC hS
  repeat' (first
 |with_reducible first|apply Xa|apply Xb|(refine Xc ?_;intro κ hκ)|(apply hκ.out;clear hκ κ)|apply Xd|apply Xe|apply Xf
 |((with_reducible first|refine Xl ?_ ?_|refine Xm ?_ ?_|refine Xk ?_ ?_)<;> intro h hari<;> try exact Xp)
 |refine Xr ?_
 |exact True.intro
 |((with_reducible refine Xg ?_);refine Xj ?_)
 |(apply hκ.out;clear hκ κ))
  refine awp_loop (fun m s σ' => ∃ (k : Nat) (cc : Nat → Int), m = F.length - k ∧ k ≤ F.length ∧ s 7 = fx (σ.nobj + 1) 0 N'.length ∧ s 39 = sl idf F.length fc ∧ s 40 = ic F.length ∧ s 41 = ic k ∧ Keep σ σ' ∧ σ.nobj + 1 < σ'.nobj ∧ σ'.obj (σ.nobj + 1) = cvec N'.length cc ∧ Abs.Hid (cntsOk N' (A ++ F.take k) cc ∧ consS (A ++ F.take k) ∧ ∀ (i : Nat) (a : RAtom), i < k → F[i]? = some a → (A ++ F.take i).any (clash a) = false)) F.length
   ⟨0, cc, by omega, by omega, by simp [upd, *], by simp [upd, *], by simp [upd, *], by simp [upd], hK, hno1, hob, by simpa using hC.out, by simpa using hS.out, fun i a hi => by omega⟩ ?_
  clear h1 h7 h17 h18 h19 hK hno1 hob hC hS kno cc hlt
  rintro m s σ' ⟨k, cc, rfl, hk, h7, h39, h40, h41, hK, hno1, hob, hC⟩
  have kno := hK.nobj
  by_cases hlt : k < F.length
  ·have hget := List.getElem?_eq_getElem hlt
   obtain ⟨ha, ids, r, hd⟩ := PF_get hF hget
   have hp2 := hFp _ (List.getElem_mem hlt)
   generalize F[k] = a at hd hget ha hp2
   obtain ⟨c1, c2, c3⟩ := hC.out
   have HG : Abs.Hid (F[k]? = some a) := hget
   have HTK : Abs.Hid (A ++ F.take (k + 1) = A ++ F.take k ++ [a]) := by rw [Abs.Hid, List.take_add_one, hget, Option.toList_some, List.append_assoc]
   have hix := List.idxOf_lt_length_of_mem ha
   have hst := c1.step c2 ha
   have hcv := c1 a.pred ha
   have hcg := cvec_get cc hix
   have hcs := fun v => cvec_set (n := N'.length) (i := N'.idxOf a.pred) cc v
   have hvl := cvec_len N'.length cc
   have hcl := clash_iff c2 a
   have HNO : Abs.Hid (((A ++ F.take k).any (clash a) = false) → ∀ (i : Nat) (b : RAtom), i < k + 1 → F[i]? = some b → (A ++ F.take i).any (clash b) = false) := fun hh i b hi hb => by
    by_cases e : i = k
    ·subst e
     rw [HG.out] at hb
     cases hb
     exact hh
    ·exact c3 i b (by omega) hb
   generalize hce : cc (N'.idxOf a.pred) = c at hcg hst hcv
   clear hce hget c1 c3 hC
   generalize N'.idxOf a.pred = ix at hd hcg hix hst hcs
   have HS2 : Abs.Hid _ := c2
   have HST : Abs.Hid _ := hst
   have HCV : Abs.Hid _ := hcv
   have HCL : Abs.Hid _ := hcl
   clear hst hcv hcl c2
   by_cases hc0 : (c == 0) = true
   ·have hgs : ((cvec N'.length cc).set ix (sc (.int .i64 a.terms.length)))[ix]? = some (sc (.int .i64 a.terms.length)) := by rw [hcs, cvec_get _ hix]; simp
    have hne : ((a.terms.length : Int) != a.terms.length) = false := by simp
    have hcc : c = 0 := by simpa using hc0
    have HCS : Abs.Hid _ := hcs
    have hnc : (A ++ F.take k).any (clash a) = false := by
     cases hq : (A ++ F.take k).any (clash a) with
     | false => rfl
     | true => exfalso; have h1 := (HCL.out.1 hq).1; have h2 := HCV.out; omega
    have HN : Abs.Hid (cntsOk N' (A ++ F.take (k + 1)) (fun j => if j = ix then (a.terms.length : Int) else cc j) ∧ consS (A ++ F.take (k + 1)) ∧ ∀ (i : Nat) (b : RAtom), i < k + 1 → F[i]? = some b → (A ++ F.take i).any (clash b) = false) := by
     refine ⟨?_, ?_, HNO.out hnc⟩
     ·rw [HTK.out]; exact HST.out.1 hcc
     ·rw [HTK.out]; exact cons_snoc HS2.out hp2.1 hnc
    clear hcs hnc hcc
    repeat' (first
 |with_reducible first|apply Xa|apply Xb|(refine Xc ?_;intro κ hκ)|(apply hκ.out;clear hκ κ)|apply Xd|apply Xe|apply Xf
 |((with_reducible first|refine Xl ?_ ?_|refine Xm ?_ ?_|refine Xk ?_ ?_)<;> intro h hari<;> try exact Xp)
 |refine Xr ?_
 |exact True.intro
 |((with_reducible refine Xg ?_);refine Xj ?_)
 |(apply hκ.out;clear hκ κ))
    refine awp_draw_k follows_mixed (fun _ => True) [8] [0, 1, 2, 3, 4, 5, 6, 7] [8] (by kernel_rfl) (fun _ _ _ h => h) ?_
    intro κ hκ
    refine Xr ?_
    repeat' (first
 |with_reducible first|apply Xa|apply Xb|(refine Xc ?_;intro κ hκ)|(apply hκ.out;clear hκ κ)|apply Xd|apply Xe|apply Xf
 |((with_reducible first|refine Xl ?_ ?_|refine Xm ?_ ?_|refine Xk ?_ ?_)<;> intro h hari<;> try exact Xp)
 |refine Xr ?_
 |exact True.intro
 |((with_reducible refine Xg ?_);refine Xj ?_)
 |(apply hκ.out;clear hκ κ))
    refine ⟨F.length - (k + 1), by omega, k + 1, fun j => if j = ix then (a.terms.length : Int) else cc j, ?_⟩
    ((repeat' with_reducible refine And.intro ?_ ?_)<;> first|exact Xq|exact (HN)|exact (((hK.new _).put hK.nobj _).put (by omega) _)|exact (HCS.out _)|exact Xs)
   ·have hc0 : (c == 0) = false := by simpa using hc0
    clear hcs
    repeat' (first
 |with_reducible first|apply Xa|apply Xb|(refine Xc ?_;intro κ hκ)|(apply hκ.out;clear hκ κ)|apply Xd|apply Xe|apply Xf
 |((with_reducible first|refine Xl ?_ ?_|refine Xm ?_ ?_|refine Xk ?_ ?_)<;> intro h hari<;> try exact Xp)
 |refine Xr ?_
 |exact True.intro
 |((with_reducible refine Xg ?_);refine Xj ?_)
 |(apply hκ.out;clear hκ κ))
    refine awp_draw_k follows_mixed (fun _ => True) [8] [0, 1, 2, 3, 4, 5, 6, 7] [8] (by kernel_rfl) (fun _ _ _ h => h) ?_
    intro κ hκ
    refine Xr ?_
    repeat' (first
 |with_reducible first|apply Xa|apply Xb|(refine Xc ?_;intro κ hκ)|(apply hκ.out;clear hκ κ)|apply Xd|apply Xe|apply Xf
 |((with_reducible first|refine Xl ?_ ?_|refine Xm ?_ ?_|refine Xk ?_ ?_)<;> intro h hari<;> try exact Xp)
 |refine Xr ?_
 |exact True.intro
 |((with_reducible refine Xg ?_);refine Xj ?_)
 |(apply hκ.out;clear hκ κ))
    ·have hc2 : c ≠ 0 := by simpa using hc0
     have hc3 : c ≠ a.terms.length := by simpa using h
     have hcy := HCL.out.2 ⟨by have := HCV.out; omega, by have := HCV.out; omega⟩
     exact ⟨_, rfl, by rw [othF_hit HG.out hcy], (hK.new _).put hK.nobj _⟩
    ·have hc2 : c ≠ 0 := by simpa using hc0
     have hc3 : c = a.terms.length := by simpa using h
     have hnc : (A ++ F.take k).any (clash a) = false := by
      cases hq : (A ++ F.take k).any (clash a) with
      | false => rfl
      | true => exfalso; have h1 := (HCL.out.1 hq).2; have h2 := HCV.out; omega
     have HN : Abs.Hid (cntsOk N' (A ++ F.take (k + 1)) cc ∧ consS (A ++ F.take (k + 1)) ∧ ∀ (i : Nat) (b : RAtom), i < k + 1 → F[i]? = some b → (A ++ F.take i).any (clash b) = false) := by
      refine ⟨?_, ?_, HNO.out hnc⟩
      ·rw [HTK.out]; exact HST.out.2 hc2
      ·rw [HTK.out]; exact cons_snoc HS2.out hp2.1 hnc
     clear hc3 hc2 hnc
     refine ⟨F.length - (k + 1), by omega, k + 1, cc, ?_⟩
     ((repeat' with_reducible refine And.intro ?_ ?_)<;> first|exact Xq|exact (HN)|exact ((hK.new _).put hK.nobj _)|exact Xs)
  ·have hkl : k = F.length := by omega
   subst hkl
   have hz : othF A F = false := othF_none fun i a hi => hC.out.2.2 i a (List.getElem?_eq_some_iff.1 hi).1 hi
   rw [hz]
   repeat' (first
 |with_reducible first|apply Xa|apply Xb|(refine Xc ?_;intro κ hκ)|(apply hκ.out;clear hκ κ)|apply Xd|apply Xe|apply Xf
 |((with_reducible first|refine Xl ?_ ?_|refine Xm ?_ ?_|refine Xk ?_ ?_)<;> intro h hari<;> try exact Xp)
 |refine Xr ?_
 |exact True.intro
 |((with_reducible refine Xg ?_);refine Xj ?_)
 |(apply hκ.out;clear hκ κ))
   first | exact ⟨_, rfl, rfl, hK⟩ | exact ⟨_, rfl, rfl⟩
def rulN (N : List Tx) (l : List RItem) (k : Nat) : Bool := l.any fun x => !x.out && decide (N.idxOf x.head.pred = k)
theorem anyTake {α : Type} {l : List α} {f : α → Bool} {i : Nat} {x : α} (h : (l.take i).any f = false) (hi : l[i]? = some x) (hx : f x = false) : (l.take (i + 1)).any f = false := by
 rw [List.take_add_one, hi, Option.toList_some, List.any_append, h]; simp [hx]
theorem anyAt {α : Type} {l : List α} {f : α → Bool} {i : Nat} {x : α} (hi : l[i]? = some x) (hx : f x = true) : l.any f = true := List.any_eq_true.2 ⟨x, List.mem_of_getElem? hi, hx⟩
set_option maxHeartbeats 16000000 in
theorem ruledP_spec (N : List Tx) (l : List RItem) (cs : List AV) (nm : AV) (hnm : flat nm = true) (idi k : Nat) (hE : EL (PI N) l cs) (hl : l.length ≤ 1000) (σ : St) : ACalls Tryz.prog 127 [ag [nm, sl idi l.length cs], sc (.int .i64 k)] σ fun r σ' => r = sc (.bool (rulN N l k)) ∧ Keep σ σ' := by
 have hcl := EL.length PI_len hE
 refine acalls 25 [.tmp 4] Tryz.func127 rfl (by decide) rfl rfl (Nat.le_of_ble_eq_true rfl) ?_
 repeat' (first
 |with_reducible first|apply Xa|apply Xb|(refine Xc ?_;intro κ hκ)|(apply hκ.out;clear hκ κ)|apply Xd|apply Xe|apply Xf
 |((with_reducible first|refine Xl ?_ ?_|refine Xk ?_ ?_)<;> intro h hari<;> try exact Xp)
 |refine Xr ?_
 |exact True.intro
 |(apply hκ.out;clear hκ κ))
 refine awp_loop (fun m s σ' => ∃ (i : Nat), m = l.length - i ∧ i ≤ l.length ∧ s 1 = sc (.int .i64 k) ∧ s 8 = sl idi l.length cs ∧ s 9 = sc (.int .i64 l.length) ∧ s 10 = sc (.int .i64 i) ∧ Keep σ σ' ∧ Abs.Hid (rulN N (l.take i) k = false)) l.length
  ⟨0, by omega, by omega, rfl, by simp [upd], by simp [upd], rfl, by exact Xs, by simp [Abs.Hid, rulN]⟩ ?_
 rintro m s σ' ⟨i, rfl, hi, h1, h8, h9, h10, hK, hA⟩
 have kno := hK.nobj
 by_cases hlt : i < l.length
 ·have hget := List.getElem?_eq_getElem hlt
  obtain ⟨hmm, ih, id, b, r, hbd, hd⟩ := EL_PI hE hget
  generalize l[i] = x at hd hget hmm hbd
  cases hxo : x.out with
  | true =>
   rw [hxo] at hd
   have HA : Abs.Hid (rulN N (l.take (i + 1)) k = false) := anyTake hA.out hget (by simp [hxo])
   clear hget hA hxo
   repeat' (first
 |with_reducible first|apply Xa|apply Xb|(refine Xc ?_;intro κ hκ)|(apply hκ.out;clear hκ κ)|apply Xd|apply Xe|apply Xf
 |((with_reducible first|refine Xl ?_ ?_|refine Xk ?_ ?_)<;> intro h hari<;> try exact Xp)
 |refine Xr ?_
 |exact True.intro
 |(apply hκ.out;clear hκ κ))
   refine ⟨l.length - (i + 1), by omega, i + 1, ?_⟩
   ((repeat' with_reducible refine And.intro ?_ ?_)<;> first|exact Xq|exact (HA)|exact Xs)
  | false =>
   rw [hxo] at hd
   by_cases hk : N.idxOf x.head.pred = k
   ·have hkb : (((N.idxOf x.head.pred : Nat) : Int) == (k : Int)) = true := by simp [hk]
    have HA : Abs.Hid (rulN N l k = true) := anyAt hget (by simp [hxo, hk])
    clear hget hA hxo hk
    generalize N.idxOf x.head.pred = ix at hd hkb
    repeat' (first
 |with_reducible first|apply Xa|apply Xb|(refine Xc ?_;intro κ hκ)|(apply hκ.out;clear hκ κ)|apply Xd|apply Xe|apply Xf
 |((with_reducible first|refine Xl ?_ ?_|refine Xk ?_ ?_)<;> intro h hari<;> try exact Xp)
 |refine Xr ?_
 |exact True.intro
 |(apply hκ.out;clear hκ κ))
    exact ⟨_, rfl, by rw [HA.out], by exact Xs⟩
   ·have hkb : (((N.idxOf x.head.pred : Nat) : Int) == (k : Int)) = false := by simpa using (by omega : ¬ ((N.idxOf x.head.pred : Nat) : Int) = k)
    have HA : Abs.Hid (rulN N (l.take (i + 1)) k = false) := anyTake hA.out hget (by simp [hk])
    clear hget hA hxo hk
    generalize N.idxOf x.head.pred = ix at hd hkb
    repeat' (first
 |with_reducible first|apply Xa|apply Xb|(refine Xc ?_;intro κ hκ)|(apply hκ.out;clear hκ κ)|apply Xd|apply Xe|apply Xf
 |((with_reducible first|refine Xl ?_ ?_|refine Xk ?_ ?_)<;> intro h hari<;> try exact Xp)
 |refine Xr ?_
 |exact True.intro
 |(apply hκ.out;clear hκ κ))
    refine ⟨l.length - (i + 1), by omega, i + 1, ?_⟩
    ((repeat' with_reducible refine And.intro ?_ ?_)<;> first|exact Xq|exact (HA)|exact Xs)
 ·have hil : i = l.length := by omega
  subst hil
  have hA := hA.out
  rw [List.take_length] at hA
  rw [hA]
  repeat' (first
 |with_reducible first|apply Xa|apply Xb|(refine Xc ?_;intro κ hκ)|(apply hκ.out;clear hκ κ)|apply Xd|apply Xe|apply Xf
 |((with_reducible first|refine Xl ?_ ?_|refine Xk ?_ ?_)<;> intro h hari<;> try exact Xp)
 |refine Xr ?_
 |exact True.intro
 |(apply hκ.out;clear hκ κ))
  first | exact ⟨_, rfl, rfl, hK⟩ | exact ⟨_, rfl, rfl⟩
set_option maxHeartbeats 16000000 in
theorem anyRuled_spec (N N' : List Tx) (hN : N <+: N') (l : List RItem) (cs : List AV) (idn idi : Nat) (hB : Bk N l cs) (F : List RAtom) (fc : List AV) (idf : Nat) (hF : EL (PF N') F fc) (hFl : F.length ≤ 1000) (σ : St) :
  ACalls Tryz.prog 74 [bookA N idn l idi cs, sl idf F.length fc] σ fun r σ' => r = sc (.bool (F.any fun a => rulN N' l (N'.idxOf a.pred))) ∧ Keep σ σ' := by
 have hE : EL (PI N') l cs := hB.el.mono (PI.mono hN)
 have hfl := EL.length PF_len hF
 have hl16 := hB.len
 have hRu := fun (k : Nat) σ => ruledP_spec N' l cs (sl idn N.length (N.map str)) rfl idi k hE (by omega) σ
 unfold bookA
 refine acalls 18 [.tmp 4] Tryz.func74 rfl (by decide) rfl rfl (Nat.le_of_ble_eq_true rfl) ?_
 repeat' (first
 |with_reducible first|apply Xa|apply Xb|(refine Xc ?_;intro κ hκ)|(apply hκ.out;clear hκ κ)|apply Xd|apply Xe|apply Xf
 |((with_reducible first|refine Xl ?_ ?_|refine Xk ?_ ?_)<;> intro h hari<;> try exact Xp)
 |refine Xr ?_
 |exact True.intro
 |(apply hκ.out;clear hκ κ))
 refine awp_loop (fun m s σ' => ∃ (k : Nat), m = F.length - k ∧ k ≤ F.length ∧ s 2 = ptr σ.nobj 0 ∧ s 7 = sl idf F.length fc ∧ s 8 = ic F.length ∧ s 9 = ic k ∧ Keep σ σ' ∧ σ.nobj < σ'.nobj ∧ σ'.obj σ.nobj = [sl idn N.length (N.map str), sl idi l.length cs] ∧ Abs.Hid ((F.take k).any (fun a => rulN N' l (N'.idxOf a.pred)) = false)) F.length
  ⟨0, by omega, by omega, by simp [upd], by simp [upd, initS], by simp [upd], rfl, by exact Xs, by simp only [new_nobj]; omega, by rw [new_same], by simp [Abs.Hid]⟩ ?_
 rintro m s σ' ⟨k, rfl, hk, h2, h7, h8, h9, hK, hno, ob, hA⟩
 have kno := hK.nobj
 by_cases hlt : k < F.length
 ·have hget := List.getElem?_eq_getElem hlt
  obtain ⟨ha, ids, r, hd⟩ := PF_get hF hget
  generalize F[k] = a at hd hget ha
  have hRa := hRu (N'.idxOf a.pred)
  have HT : Abs.Hid (rulN N' l (N'.idxOf a.pred) = true → F.any (fun a => rulN N' l (N'.idxOf a.pred)) = true) := fun h => anyAt hget h
  have HF : Abs.Hid (rulN N' l (N'.idxOf a.pred) = false → (F.take (k + 1)).any (fun a => rulN N' l (N'.idxOf a.pred)) = false) := fun h => anyTake hA.out hget h
  clear hget hA
  generalize N'.idxOf a.pred = ix at hd hRa HT HF
  repeat' (first
 |with_reducible first|apply Xa|apply Xb|(refine Xc ?_;intro κ hκ)|(apply hκ.out;clear hκ κ)|apply Xd|apply Xe|apply Xf
 |((with_reducible first|refine Xl ?_ ?_|refine Xk ?_ ?_)<;> intro h hari<;> try exact Xp)
 |((with_reducible refine Xh ?_);refine Xi (hRa _) ?_;rintro _ _ ⟨rfl,hK2⟩;(have kno2:=hK2.nobj;have kob2:=hK2.obj;simp only [put_nobj,new_nobj] at kno2 kob2;have hKx:=((hK.new _).put hK.nobj _).trans hK2))
 |refine Xr ?_
 |exact True.intro
 |(apply hκ.out;clear hκ κ))
  ·exact ⟨_, rfl, by rw [HT.out (by assumption)]⟩
  ·have HA : Abs.Hid ((F.take (k + 1)).any (fun a => rulN N' l (N'.idxOf a.pred)) = false) := HF.out (by assumption)
   refine ⟨F.length - (k + 1), by omega, k + 1, ?_⟩
   ((repeat' with_reducible refine And.intro ?_ ?_)<;> first|exact Xq|exact (HA)|exact (by rw [kob2 _ (by omega), put_ne (by omega), new_lt (by omega), ob])|exact Xs)
 ·have hkl : k = F.length := by omega
  subst hkl
  have hA := hA.out
  rw [List.take_length] at hA
  rw [hA]
  repeat' (first
 |with_reducible first|apply Xa|apply Xb|(refine Xc ?_;intro κ hκ)|(apply hκ.out;clear hκ κ)|apply Xd|apply Xe|apply Xf
 |((with_reducible first|refine Xl ?_ ?_|refine Xk ?_ ?_)<;> intro h hari<;> try exact Xp)
 |refine Xr ?_
 |exact True.intro
 |(apply hκ.out;clear hκ κ))
  first | exact ⟨_, rfl, rfl, hK⟩ | exact ⟨_, rfl, rfl⟩
end Go.Proofs.YtmoeoppbmhfbpaaGreatDoorB
