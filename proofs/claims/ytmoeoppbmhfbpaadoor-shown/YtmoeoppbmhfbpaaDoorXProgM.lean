import Derived.Test.YtmoeoppbmhfbpaaDoorXProgL
/- The program: the first item that is not safe, the first with another number of terms. -/
namespace Go.Proofs.YtmoeoppbmhfbpaaDoorX
open Go.Abs
set_option linter.unusedSimpArgs false
set_option linter.unusedVariables false
set_option maxRecDepth 100000

abbrev bookA (N : List Tx) (idn : Nat) (l : List RItem) (idi : Nat) (cs : List AV) : AV := ag [sl idn N.length (N.map str), sl idi l.length cs]
structure Bk (N : List Tx) (l : List RItem) (cs : List AV) : Prop where
  el : EL (PI N) l cs
  len : l.length ≤ 16
  fits : ∀ x ∈ l, x.fits
  out : ∀ x ∈ l, x.out = true → x.body = []
  nm : N.length ≤ 2000
  pos : ∀ x ∈ l, ∀ a ∈ atomsL x, 0 < a.terms.length
def punsafe (l : List RItem) (i : Nat) : Bool := match l[i]? with | some x => !psafeB x | none => false
theorem PI.of {N : List Tx} {x : RItem} {ih id : Nat} {b : List AV} (hm : x.head.pred ∈ N) (h : EL (PL N) x.body b) : PI N x [sc (.bool x.out), sc (.int .i64 (N.idxOf x.head.pred : Nat)), sl ih x.head.terms.length (tcells x.head.terms), sl id x.body.length b] := ⟨hm, ih, id, b, h, rfl⟩

set_option maxHeartbeats 16000000 in
theorem firstUnsafe_spec (N : List Tx) (l : List RItem) (cs : List AV) (idn idi : Nat) (hB : Bk N l cs) (σ : St) : ACalls Tryd.prog 36 [bookA N idn l idi cs] σ fun r σ' => r = sc (.int .i64 (firstN (punsafe l) l.length)) ∧ Keep σ σ' := by
  have hcl := EL.length PI_len hB.el
  have hl16 := hB.len
  refine acalls 18 [.tmp 2] Tryd.func36 rfl (by decide) rfl rfl (Nat.le_of_ble_eq_true rfl) ?_
  repeat' (first
 |with_reducible (first|apply awp_seq|apply awp_block|(refine awp_region_k ?_;intro κ hκ)|(refine hκ.out _ _ ?_;clear hκ κ)|apply awp_skip|apply awp_exit|apply awp_ret)
 |((first|with_reducible apply gd_split|((with_reducible refine cond_go ?_);refine awp_cond_split rfl ?_ ?_))<;>intro h<;>(try simp only [upd, ↓reduceIte,Nat.reduceEqDiff,B2] at h)<;>(try simp only [*,reduceCtorEq,decide_true,decide_false] at h)<;>(try (have hari:=h;simp only [B3] at hari))<;>(try (first|contradiction|(exfalso;omega)|(exfalso;simp at h;done)))<;>(try simp only [B5]))
 |(simp (maxSteps:=3000000) (disch:=(first|omega|(simp only [B1, *];omega))) only [↓mapA_nil, ↓mapA_cons,B0,B4,awant,undef,aq,al,cst,cst1,acells,flat,behind,abin,aconv,aint,thenQ,blkQ,retQ,Value.cells,Value.oneCell',Int.reduceToNat, ↓reduceIte,Nat.reduceLT,Nat.reduceEqDiff,reduceCtorEq,Nat.reduceAdd,Nat.reduceMul,Nat.reduceLeDiff,u_3,u_30,telem_30,tfld_32_1,tsz_30,tsz_41,tzero_41, *])
 |(refine hκ.out _ _ ?_;clear hκ κ))
  refine awp_loop (fun m s σ' => ∃ i : Nat, m = l.length - i ∧ i ≤ l.length ∧ s 6 = sl idi l.length cs ∧ s 7 = sc (.int .i64 l.length) ∧ s 8 = sc (.int .i64 i) ∧ Keep σ σ' ∧ Abs.Hid (∀ j, j < i → punsafe l j = false)) l.length
    ⟨0, by omega, by omega, rfl, rfl, rfl, by repeat (first | exact Keep.refl _ | assumption | (refine Keep.put ?_ (by first | omega | (simp only [new_nobj, put_nobj, lay_nobj, *]; omega)) _) | (refine Keep.new ?_ _) | (refine Keep.lay ?_ _) | (refine Keep.trans ?_ (by assumption))), fun j hj => by omega⟩ ?_
  rintro m s σ' ⟨i, rfl, hi, h6, h7, h8, hK, hno⟩
  have kno := hK.nobj
  by_cases hlt : i < l.length
  · have hget := List.getElem?_eq_getElem hlt
    have hf1 := hB.fits l[i] (List.getElem_mem hlt)
    have ho1 := hB.out l[i] (List.getElem_mem hlt)
    obtain ⟨hm, ih, id, b, r, hb, hd⟩ := EL_PI hB.el hget
    generalize l[i] = x at hd hget hf1 ho1 hb hm
    have hv : Abs.Hid (punsafe l i = !psafeB x) := by rw [Abs.Hid, punsafe, hget]
    clear hget
    repeat' (first
 |with_reducible (first|apply awp_seq|apply awp_block|(refine awp_region_k ?_;intro κ hκ)|(refine hκ.out _ _ ?_;clear hκ κ)|apply awp_skip|apply awp_exit|apply awp_ret)
 |((first|with_reducible apply gd_split|((with_reducible refine cond_go ?_);refine awp_cond_split rfl ?_ ?_))<;>intro h<;>(try simp only [upd, ↓reduceIte,Nat.reduceEqDiff,B2] at h)<;>(try simp only [*,reduceCtorEq,decide_true,decide_false] at h)<;>(try (have hari:=h;simp only [B3] at hari))<;>(try (first|contradiction|(exfalso;omega)|(exfalso;simp at h;done)))<;>(try simp only [B5]))
 |((with_reducible refine acalls_go ?_);refine ACalls.mono (psafe_spec N x _ (PI.of hm hb) ho1 hf1 _) ?_;rintro _ _ ⟨rfl,hK1⟩)
 |(simp (maxSteps:=3000000) (disch:=(first|omega|(simp only [B1, *];omega))) only [↓mapA_nil, ↓mapA_cons,B0,B4,awant,undef,aq,al,cst,cst1,acells,flat,behind,abin,aconv,aint,thenQ,blkQ,retQ,Value.cells,Value.oneCell',Int.reduceToNat, ↓reduceIte,Nat.reduceLT,Nat.reduceEqDiff,reduceCtorEq,Nat.reduceAdd,Nat.reduceMul,Nat.reduceLeDiff,u_3,u_30,telem_30,tfld_32_1,tsz_30,tsz_41,tzero_41, *])
 |(refine hκ.out _ _ ?_;clear hκ κ))
    · exact ⟨_, rfl, by rw [firstN_hit hlt (by rw [hv.out]; simp [*]) hno.out], by repeat (first | exact Keep.refl _ | assumption | (refine Keep.put ?_ (by first | omega | (simp only [new_nobj, put_nobj, lay_nobj, *]; omega)) _) | (refine Keep.new ?_ _) | (refine Keep.lay ?_ _) | (refine Keep.trans ?_ (by assumption)))⟩
    · exact ⟨l.length - (i + 1), by omega, i + 1, rfl, by omega, by simp, by repeat (first | exact Keep.refl _ | assumption | (refine Keep.put ?_ (by first | omega | (simp only [new_nobj, put_nobj, lay_nobj, *]; omega)) _) | (refine Keep.new ?_ _) | (refine Keep.lay ?_ _) | (refine Keep.trans ?_ (by assumption))), no_step hno.out (by rw [hv.out]; simp [*])⟩
  · have hil : i = l.length := by omega
    subst hil
    repeat' (first
 |with_reducible (first|apply awp_seq|apply awp_block|(refine awp_region_k ?_;intro κ hκ)|(refine hκ.out _ _ ?_;clear hκ κ)|apply awp_skip|apply awp_exit|apply awp_ret)
 |((first|with_reducible apply gd_split|((with_reducible refine cond_go ?_);refine awp_cond_split rfl ?_ ?_))<;>intro h<;>(try simp only [upd, ↓reduceIte,Nat.reduceEqDiff,B2] at h)<;>(try simp only [*,reduceCtorEq,decide_true,decide_false] at h)<;>(try (have hari:=h;simp only [B3] at hari))<;>(try (first|contradiction|(exfalso;omega)|(exfalso;simp at h;done)))<;>(try simp only [B5]))
 |(simp (maxSteps:=3000000) (disch:=(first|omega|(simp only [B1, *];omega))) only [↓mapA_nil, ↓mapA_cons,B0,B4,awant,undef,aq,al,cst,cst1,acells,flat,behind,abin,aconv,aint,thenQ,blkQ,retQ,Value.cells,Value.oneCell',Int.reduceToNat, ↓reduceIte,Nat.reduceLT,Nat.reduceEqDiff,reduceCtorEq,Nat.reduceAdd,Nat.reduceMul,Nat.reduceLeDiff,u_3,u_30,telem_30,tfld_32_1,tsz_30,tsz_41,tzero_41, *])
 |(refine hκ.out _ _ ?_;clear hκ κ))
    first | exact ⟨_, rfl, by rw [firstN_none hno.out], hK⟩ | exact ⟨_, rfl, by rw [firstN_none hno.out]⟩

/-! ### How many terms each predicate has -/
def cntL (S : List RAtom) (p : Tx) : Nat := match S.find? (fun a => a.pred == p) with | some a => a.terms.length | none => 0
def consS (S : List RAtom) : Prop := ∀ b ∈ S, 0 < b.terms.length ∧ b.terms.length = cntL S b.pred
theorem cnt_snoc (S : List RAtom) (a : RAtom) (p : Tx) : cntL (S ++ [a]) p = match S.find? (fun a => a.pred == p) with | some b => b.terms.length | none => if a.pred = p then a.terms.length else 0 := by
  unfold cntL
  rw [List.find?_append]
  cases hf : S.find? (fun a => a.pred == p) with
  | some b => simp
  | none => by_cases h : a.pred = p <;> simp [h]
theorem cnt_none {S : List RAtom} (h : consS S) (p : Tx) : cntL S p = 0 ↔ S.find? (fun a => a.pred == p) = none := by
  unfold cntL
  cases hf : S.find? (fun a => a.pred == p) with
  | none => simp
  | some b =>
    have hb := (h b (List.mem_of_find?_eq_some hf)).1
    constructor
    · intro e
      have e : b.terms.length = 0 := e
      omega
    · intro e; cases e
theorem clash_iff {S : List RAtom} (h : consS S) (a : RAtom) : S.any (clash a) = true ↔ (cntL S a.pred ≠ 0 ∧ cntL S a.pred ≠ a.terms.length) := by
  rw [List.any_eq_true]
  constructor
  · rintro ⟨b, hb, hc⟩
    simp only [clash, Bool.and_eq_true, beq_iff_eq, decide_eq_true_eq] at hc
    have := h b hb
    rw [hc.1] at this
    omega
  · rintro ⟨h1, h2⟩
    have h3 : S.find? (fun b => b.pred == a.pred) ≠ none := fun e => h1 ((cnt_none h _).2 e)
    cases hf : S.find? (fun b => b.pred == a.pred) with
    | none => exact absurd hf h3
    | some b =>
      have hp : (b.pred == a.pred) = true := List.find?_some (p := fun b : RAtom => b.pred == a.pred) hf
      have hcn : cntL S a.pred = b.terms.length := by unfold cntL; rw [hf]
      exact ⟨b, List.mem_of_find?_eq_some hf, by simp only [clash, hp, Bool.true_and, decide_eq_true_eq]; omega⟩
theorem cnt_step {S : List RAtom} (h : consS S) (a : RAtom) (p : Tx) : cntL (S ++ [a]) p = if p = a.pred ∧ cntL S a.pred = 0 then a.terms.length else cntL S p := by
  rw [cnt_snoc]
  cases hf : S.find? (fun b => b.pred == p) with
  | some b =>
    have h1 : cntL S p ≠ 0 := fun e => by rw [cnt_none h, hf] at e; cases e
    have hx : ¬ (p = a.pred ∧ cntL S a.pred = 0) := fun e => h1 (by rw [e.1]; exact e.2)
    have hy : cntL S p = b.terms.length := by unfold cntL; rw [hf]
    rw [if_neg hx, hy]
  | none =>
    have h1 : cntL S p = 0 := (cnt_none h _).2 hf
    by_cases e : p = a.pred
    · subst e; rw [if_pos rfl, if_pos ⟨rfl, h1⟩]
    · rw [if_neg (fun e' => e e'.symm), if_neg (by rintro ⟨e', -⟩; exact e e'), h1]
theorem cons_snoc {S : List RAtom} {a : RAtom} (h : consS S) (ha : 0 < a.terms.length) (hc : S.any (clash a) = false) : consS (S ++ [a]) := by
  have hn : ¬ (cntL S a.pred ≠ 0 ∧ cntL S a.pred ≠ a.terms.length) := fun e => by rw [← clash_iff h a, hc] at e; cases e
  intro b hb
  rw [cnt_step h]
  rcases List.mem_append.1 hb with hb | hb
  · have := h b hb
    refine ⟨this.1, ?_⟩
    by_cases e : b.pred = a.pred ∧ cntL S a.pred = 0
    · rw [e.1] at this; omega
    · rw [if_neg e]; exact this.2
  · simp at hb; subst hb
    refine ⟨ha, ?_⟩
    by_cases e : cntL S b.pred = 0
    · rw [if_pos ⟨rfl, e⟩]
    · rw [if_neg (by rintro ⟨-, e'⟩; exact e e')]; omega
theorem cons_nil : consS [] := fun b hb => by cases hb

def cvec (n : Nat) (cc : Nat → Int) : List AV := (List.range n).map fun i => sc (.int .i64 (cc i))
theorem cvec_len (n : Nat) (cc : Nat → Int) : (cvec n cc).length = n := by simp [cvec]
theorem cvec_get {n i : Nat} (cc : Nat → Int) (h : i < n) : (cvec n cc)[i]? = some (sc (.int .i64 (cc i))) := by simp [cvec, h]
theorem cvec_set {n i : Nat} (cc : Nat → Int) (v : Int) : (cvec n cc).set i (sc (.int .i64 v)) = cvec n (fun j => if j = i then v else cc j) := by
  apply List.ext_getElem?
  intro j
  rw [List.getElem?_set]
  by_cases hj : j < n
  · rw [cvec_get (fun j => if j = i then v else cc j) hj]
    by_cases e : i = j
    · subst e; rw [if_pos rfl, cvec_len, if_pos hj]; simp
    · rw [if_neg e, cvec_get _ hj, if_neg (fun e' => e e'.symm)]
  · have h1 : (cvec n fun j => if j = i then v else cc j)[j]? = none := by simp [cvec]; omega
    have h2 : (cvec n cc)[j]? = none := by simp [cvec]; omega
    rw [h1, h2]
    split
    · rw [cvec_len]; rw [if_neg (by omega)]
    · rfl
theorem cvec_zero (n : Nat) : List.replicate n (sc (.int .i64 0)) = cvec n fun _ => 0 := by
  apply List.ext_getElem?
  intro j
  by_cases hj : j < n
  · rw [cvec_get _ hj]; simp [hj]
  · simp [cvec, hj]
theorem idx_inj {N : List Tx} {p q : Tx} (hp : p ∈ N) (hq : q ∈ N) (h : N.idxOf p = N.idxOf q) : p = q := by
  have h1 := List.getElem_idxOf (List.idxOf_lt_length_of_mem hp)
  have h2 := List.getElem_idxOf (List.idxOf_lt_length_of_mem hq)
  rw [← h1, ← h2]
  congr 1
def cntsOk (N : List Tx) (S : List RAtom) (cc : Nat → Int) : Prop := ∀ p ∈ N, cc (N.idxOf p) = (cntL S p : Nat)
theorem cntsOk.step {N : List Tx} {S : List RAtom} {cc : Nat → Int} {a : RAtom} (h : cntsOk N S cc) (hc : consS S) (ha : a.pred ∈ N) :
    (cc (N.idxOf a.pred) = 0 → cntsOk N (S ++ [a]) (fun j => if j = N.idxOf a.pred then (a.terms.length : Int) else cc j)) ∧ (cc (N.idxOf a.pred) ≠ 0 → cntsOk N (S ++ [a]) cc) := by
  have h0 := h a.pred ha
  constructor
  · intro e p hp
    rw [cnt_step hc]
    dsimp only
    by_cases ep : p = a.pred
    · subst ep
      rw [if_pos rfl, if_pos ⟨rfl, by omega⟩]
    · rw [if_neg (fun e' => ep (idx_inj hp ha e')), if_neg (by rintro ⟨e', -⟩; exact ep e')]
      exact h p hp
  · intro e p hp
    rw [cnt_step hc, if_neg (by rintro ⟨-, e'⟩; omega)]
    exact h p hp
end Go.Proofs.YtmoeoppbmhfbpaaDoorX
