import Derived.Test.YtmoeoppbmhfbpaaDoorXProgM
/- The program: what uses what, at once. -/
namespace Go.Proofs.YtmoeoppbmhfbpaaDoorX
open Go.Abs
set_option linter.unusedSimpArgs false
set_option linter.unusedVariables false
set_option maxRecDepth 100000

def bvec (n : Nat) (f : Nat → Bool) : List AV := (List.range n).map fun i => sc (.bool (f i))
theorem bvec_len (n : Nat) (f : Nat → Bool) : (bvec n f).length = n := by simp [bvec]
theorem bvec_get {n i : Nat} (f : Nat → Bool) (h : i < n) : (bvec n f)[i]? = some (sc (.bool (f i))) := by simp [bvec, h]
theorem bvec_set {n i : Nat} (f : Nat → Bool) (v : Bool) : (bvec n f).set i (sc (.bool v)) = bvec n (fun j => if j = i then v else f j) := by
  apply List.ext_getElem?
  intro j
  rw [List.getElem?_set]
  by_cases hj : j < n
  · rw [bvec_get (fun j => if j = i then v else f j) hj]
    by_cases e : i = j
    · subst e; rw [if_pos rfl, bvec_len, if_pos hj]; simp
    · rw [if_neg e, bvec_get _ hj, if_neg (fun e' => e e'.symm)]
  · have h1 : (bvec n fun j => if j = i then v else f j)[j]? = none := by simp [bvec]; omega
    have h2 : (bvec n f)[j]? = none := by simp [bvec]; omega
    rw [h1, h2]
    split
    · rw [bvec_len]; rw [if_neg (by omega)]
    · rfl
theorem bvec_zero (n : Nat) : List.replicate n (sc (.bool false)) = bvec n fun _ => false := by
  apply List.ext_getElem?
  intro j
  by_cases hj : j < n
  · rw [bvec_get _ hj]; simp [hj]
  · simp [bvec, hj]
def rowsC (B n k : Nat) : List AV := (List.range k).map fun i => fx (B + i) 0 n
theorem rowsC_len (B n k : Nat) : (rowsC B n k).length = k := by simp [rowsC]
theorem rowsC_snoc (B n k : Nat) : rowsC B n (k + 1) = rowsC B n k ++ [fx (B + k) 0 n] := by simp [rowsC, List.range_succ]
theorem rowsC_get {B n k i : Nat} (h : i < k) : (rowsC B n k).drop i = fx (B + i) 0 n :: (rowsC B n k).drop (i + 1) := by
  rw [List.drop_eq_getElem_cons (by rw [rowsC_len]; exact h)]; simp [rowsC]
def Mat (B n : Nat) (M : Nat → Nat → Bool) (σ : St) : Prop := ∀ i, i < n → σ.obj (B + i) = bvec n (M i)
theorem Mat.keep {B n : Nat} {M : Nat → Nat → Bool} {σ σ' : St} (h : Mat B n M σ) (k : Keep σ σ') (hn : B + n ≤ σ.nobj) : Mat B n M σ' := fun i hi => by rw [k.obj _ (by omega)]; exact h i hi
theorem Mat.new {B n : Nat} {M : Nat → Nat → Bool} {σ : St} (h : Mat B n M σ) (hn : B + n ≤ σ.nobj) (cs : List AV) : Mat B n M (σ.new cs) := fun i hi => by rw [new_lt (by omega)]; exact h i hi
theorem Mat.put {B n o : Nat} {M : Nat → Nat → Bool} {σ : St} (h : Mat B n M σ) (ho : B + n ≤ o) (cs : List AV) : Mat B n M (σ.put o cs) := fun i hi => by rw [put_ne (by omega)]; exact h i hi
theorem Mat.set {B n p q : Nat} {M : Nat → Nat → Bool} {σ : St} (h : Mat B n M σ) (hp : p < n) (v : Bool) : Mat B n (set2 M p q v) (σ.put (B + p) ((bvec n (M p)).set q (sc (.bool v)))) := fun i hi => by
  by_cases e : i = p
  · subst e
    rw [put_same, bvec_set]
    congr 1; funext j; simp [set2]
  · have hx : (σ.put (B + p) ((bvec n (M p)).set q (sc (.bool v)))).obj (B + i) = σ.obj (B + i) := by
      by_cases hl : i < p
      · exact put_ne (by omega)
      · exact put_ne' (by omega)
    rw [hx, h i hi]
    congr 1; funext j; simp [set2, e]

def onceP (N : List Tx) (l : List RItem) (p q : Nat) : Prop := ∃ x ∈ l, N.idxOf x.head.pred = p ∧ ∃ a ∈ x.body, N.idxOf a.pred = q
def onceQ (N : List Tx) (x : RItem) (b : List RAtom) (p q : Nat) : Prop := N.idxOf x.head.pred = p ∧ ∃ a ∈ b, N.idxOf a.pred = q
def isOnce (N : List Tx) (l : List RItem) (M : Nat → Nat → Bool) : Prop := ∀ p q, M p q = true ↔ onceP N l p q
def isOnceQ (N : List Tx) (l : List RItem) (x : RItem) (b : List RAtom) (M : Nat → Nat → Bool) : Prop := ∀ p q, M p q = true ↔ onceP N l p q ∨ onceQ N x b p q
theorem isOnceQ.step {N : List Tx} {l : List RItem} {x : RItem} {j : Nat} {a : RAtom} {M : Nat → Nat → Bool} (h : isOnceQ N l x (x.body.take j) M) (ha : x.body[j]? = some a) : isOnceQ N l x (x.body.take (j + 1)) (set2 M (N.idxOf x.head.pred) (N.idxOf a.pred) true) := by
  intro p q
  rw [List.take_add_one, ha]
  unfold set2
  by_cases e : p = N.idxOf x.head.pred ∧ q = N.idxOf a.pred
  · rw [if_pos e]
    simp only [true_iff]
    exact .inr ⟨e.1.symm, a, by simp, e.2.symm⟩
  · rw [if_neg e, h p q]
    constructor
    · rintro (h | ⟨h1, b, hb, h2⟩)
      · exact .inl h
      · exact .inr ⟨h1, b, by simp [hb], h2⟩
    · rintro (h | ⟨h1, b, hb, h2⟩)
      · exact .inl h
      · simp only [Option.toList_some, List.mem_append, List.mem_singleton] at hb
        rcases hb with hb | rfl
        · exact .inr ⟨h1, b, hb, h2⟩
        · exact absurd ⟨h1.symm, h2.symm⟩ e
theorem isOnceQ.zero {N : List Tx} {l : List RItem} {x : RItem} {M : Nat → Nat → Bool} (h : isOnce N l M) : isOnceQ N l x (x.body.take 0) M := by
  intro p q
  rw [h p q]
  constructor
  · exact .inl
  · rintro (h | ⟨-, b, hb, -⟩)
    · exact h
    · simp at hb
theorem isOnceQ.done {N : List Tx} {l : List RItem} {x : RItem} {i : Nat} {M : Nat → Nat → Bool} (h : isOnceQ N (l.take i) x x.body M) (hx : l[i]? = some x) : isOnce N (l.take (i + 1)) M := by
  intro p q
  rw [h p q, List.take_add_one, hx]
  constructor
  · rintro (⟨y, hy, g⟩ | g)
    · exact ⟨y, by simp [hy], g⟩
    · exact ⟨x, by simp, g⟩
  · rintro ⟨y, hy, g⟩
    simp only [Option.toList_some, List.mem_append, List.mem_singleton] at hy
    rcases hy with hy | rfl
    · exact .inl ⟨y, hy, g⟩
    · exact .inr g

set_option maxHeartbeats 16000000 in
theorem usesAtOnce_spec (N : List Tx) (l : List RItem) (cs : List AV) (idn idi : Nat) (hB : Bk N l cs) (σ : St) : ACalls Tryd.prog 53 [bookA N idn l idi cs] σ fun r σ' => ∃ idu B M, r = sl idu N.length (rowsC B N.length N.length) ∧ Keep σ σ' ∧ σ.nobj ≤ B ∧ B + N.length ≤ σ'.nobj ∧ Mat B N.length M σ' ∧ isOnce N l M := by
  have hcl := EL.length PI_len hB.el
  have hl16 := hB.len
  have hN := hB.nm
  refine acalls 51 [.tmp 2] Tryd.func53 rfl (by decide) rfl rfl (Nat.le_of_ble_eq_true rfl) ?_
  repeat' (first
 |with_reducible (first|apply awp_seq|apply awp_block|(refine awp_region_k ?_;intro κ hκ)|(refine hκ.out _ _ ?_;clear hκ κ)|apply awp_skip|apply awp_exit|apply awp_ret)
 |((first|with_reducible (first|apply gd_split|apply gt_split)|((with_reducible refine cond_go ?_);refine awp_cond_split rfl ?_ ?_))<;>intro h<;>(try simp only [upd, ↓reduceIte,Nat.reduceEqDiff,B2] at h)<;>(try simp only [*,reduceCtorEq,decide_true,decide_false] at h)<;>(try (have hari:=h;simp only [B3] at hari))<;>(try (first|contradiction|(exfalso;omega)|(exfalso;simp at h;done)))<;>(try simp only [B5]))
 |((with_reducible refine aapp_go ?_);refine aApp_own (by first|exact tez_85) (by assumption) (by assumption) (by decide) (by rfl) (by first|assumption|(simp;done)|(simp;omega)|omega) (by rfl) (by rfl) (by decide) (by omega) (by omega) ?_;intro idn σn hOn hKn eobj enobj ever entop)
 |((with_reducible refine aappn_go ?_);refine aApp_nil (by first|exact tez_85) (by rfl) (by decide) (by rfl) (by rfl) (by decide) (by omega) (by omega) ?_)
 |(simp (maxSteps:=3000000) (disch:=(first|omega|(simp only [B1, *];omega))) only [↓mapA_nil, ↓mapA_cons,B0,B4,awant,undef,aq,al,cst,cst1,acells,flat,behind,abin,aconv,aint,thenQ,blkQ,retQ,rdo,objOf,Value.cells,Value.oneCell',Int.reduceToNat, ↓reduceIte,Nat.reduceLT,Nat.reduceEqDiff,reduceCtorEq,Nat.reduceAdd,Nat.reduceMul,Nat.reduceLeDiff,u_26,u_3,u_30,u_39,telem_26,telem_30,telem_39,telem_85,telem_87,tez_85,tez_87,tfld_32_0,tfld_32_1,tfld_38_0,tfld_41_1,tfld_41_2,tfld_67_1,tsz_26,tsz_3,tsz_30,tsz_39,tsz_4,tsz_41,tsz_67,tsz_87,tzero_41,tzero_67, *])
 |((with_reducible refine and_go ?_);refine And.intro (by first|exact kept_refl|exact kept_last rfl|exact kept_keep (by assumption)) ?_)
 |(refine hκ.out _ _ ?_;clear hκ κ))
  refine awp_loop (fun m s σ' => ∃ (k idu : Nat), m = N.length - k ∧ k ≤ N.length ∧ s 1 = ptr σ.nobj 0 ∧ s 3 = sl idu k (rowsC (σ.nobj + 1) N.length k) ∧ s 12 = sc (.int .i64 N.length) ∧ s 13 = sc (.int .i64 k) ∧ Keep σ σ' ∧ Own σ σ' idu k ∧ σ'.nobj = σ.nobj + 1 + k ∧ σ'.obj σ.nobj = [sl idn N.length (N.map str), sl idi l.length cs] ∧ Abs.Hid (∀ i, i < k → σ'.obj (σ.nobj + 1 + i) = bvec N.length fun _ => false)) N.length
    ⟨0, 1, by omega, by omega, rfl, rfl, rfl, rfl, by repeat (first | exact Keep.refl _ | assumption | (refine Keep.put ?_ (by first | omega | (simp only [new_nobj, put_nobj, lay_nobj, *]; omega)) _) | (refine Keep.new ?_ _) | (refine Keep.lay ?_ _) | (refine Keep.trans ?_ (by assumption))), Own.nil _ _, rfl, new_same, fun i hi => by omega⟩ ?_
  rintro m s σ' ⟨k, idu, rfl, hk, h1, h3, h12, h13, hK, hO, hnob, hob, hM⟩
  have hrl := rowsC_len (σ.nobj + 1) N.length k
  by_cases hlt : k < N.length
  · repeat' (first
 |with_reducible (first|apply awp_seq|apply awp_block|(refine awp_region_k ?_;intro κ hκ)|(refine hκ.out _ _ ?_;clear hκ κ)|apply awp_skip|apply awp_exit|apply awp_ret)
 |((first|with_reducible (first|apply gd_split|apply gt_split)|((with_reducible refine cond_go ?_);refine awp_cond_split rfl ?_ ?_))<;>intro h<;>(try simp only [upd, ↓reduceIte,Nat.reduceEqDiff,B2] at h)<;>(try simp only [*,reduceCtorEq,decide_true,decide_false] at h)<;>(try (have hari:=h;simp only [B3] at hari))<;>(try (first|contradiction|(exfalso;omega)|(exfalso;simp at h;done)))<;>(try simp only [B5]))
 |((with_reducible refine aapp_go ?_);refine aApp_own (by first|exact tez_85) (by assumption) (by assumption) (by decide) (by rfl) (by first|assumption|(simp;done)|(simp;omega)|omega) (by rfl) (by rfl) (by decide) (by omega) (by omega) ?_;intro idn σn hOn hKn eobj enobj ever entop)
 |((with_reducible refine aappn_go ?_);refine aApp_nil (by first|exact tez_85) (by rfl) (by decide) (by rfl) (by rfl) (by decide) (by omega) (by omega) ?_)
 |(simp (maxSteps:=3000000) (disch:=(first|omega|(simp only [B1, *];omega))) only [↓mapA_nil, ↓mapA_cons,B0,B4,awant,undef,aq,al,cst,cst1,acells,flat,behind,abin,aconv,aint,thenQ,blkQ,retQ,rdo,objOf,Value.cells,Value.oneCell',Int.reduceToNat, ↓reduceIte,Nat.reduceLT,Nat.reduceEqDiff,reduceCtorEq,Nat.reduceAdd,Nat.reduceMul,Nat.reduceLeDiff,u_26,u_3,u_30,u_39,telem_26,telem_30,telem_39,telem_85,telem_87,tez_85,tez_87,tfld_32_0,tfld_32_1,tfld_38_0,tfld_41_1,tfld_41_2,tfld_67_1,tsz_26,tsz_3,tsz_30,tsz_39,tsz_4,tsz_41,tsz_67,tsz_87,tzero_41,tzero_67, *])
 |((with_reducible refine and_go ?_);refine And.intro (by first|exact kept_refl|exact kept_last rfl|exact kept_keep (by assumption)) ?_)
 |(refine hκ.out _ _ ?_;clear hκ κ))
    have hKx : Keep σ (σ'.new (List.replicate N.length (sc (.bool false)))) := hK.new _
    refine aApp_own (by first | exact tez_85) hKx (Own.new hO _) (by decide) (by rfl) (by rw [hrl, Nat.mul_one]) (by rfl) (by rfl) (by decide) (by omega) (by omega) ?_
    intro idn2 σn hOn hKn eobj enobj ever entop
    have hobn : σn.obj σ.nobj = [sl idn N.length (N.map str), sl idi l.length cs] := by rw [eobj, new_lt (by omega)]; exact hob
    rw [new_nobj, hnob] at enobj
    simp (maxSteps:=3000000) (disch:=(first|omega|(simp only [B1, *];omega))) only [↓mapA_nil, ↓mapA_cons,B0,B4,awant,undef,aq,al,cst,cst1,acells,flat,behind,abin,aconv,aint,thenQ,blkQ,retQ,rdo,objOf,Value.cells,Value.oneCell',Int.reduceToNat, ↓reduceIte,Nat.reduceLT,Nat.reduceEqDiff,reduceCtorEq,Nat.reduceAdd,Nat.reduceMul,Nat.reduceLeDiff,u_26,u_3,u_30,u_39,telem_26,telem_30,telem_39,telem_85,telem_87,tez_85,tez_87,tfld_32_0,tfld_32_1,tfld_38_0,tfld_41_1,tfld_41_2,tfld_67_1,tsz_26,tsz_3,tsz_30,tsz_39,tsz_4,tsz_41,tsz_67,tsz_87,tzero_41,tzero_67, *]
    repeat' (first
 |with_reducible (first|apply awp_seq|apply awp_block|(refine awp_region_k ?_;intro κ hκ)|(refine hκ.out _ _ ?_;clear hκ κ)|apply awp_skip|apply awp_exit|apply awp_ret)
 |((first|with_reducible (first|apply gd_split|apply gt_split)|((with_reducible refine cond_go ?_);refine awp_cond_split rfl ?_ ?_))<;>intro h<;>(try simp only [upd, ↓reduceIte,Nat.reduceEqDiff,B2] at h)<;>(try simp only [*,reduceCtorEq,decide_true,decide_false] at h)<;>(try (have hari:=h;simp only [B3] at hari))<;>(try (first|contradiction|(exfalso;omega)|(exfalso;simp at h;done)))<;>(try simp only [B5]))
 |((with_reducible refine aapp_go ?_);refine aApp_own (by first|exact tez_85) (by assumption) (by assumption) (by decide) (by rfl) (by first|assumption|(simp;done)|(simp;omega)|omega) (by rfl) (by rfl) (by decide) (by omega) (by omega) ?_;intro idn σn hOn hKn eobj enobj ever entop)
 |((with_reducible refine aappn_go ?_);refine aApp_nil (by first|exact tez_85) (by rfl) (by decide) (by rfl) (by rfl) (by decide) (by omega) (by omega) ?_)
 |(simp (maxSteps:=3000000) (disch:=(first|omega|(simp only [B1, *];omega))) only [↓mapA_nil, ↓mapA_cons,B0,B4,awant,undef,aq,al,cst,cst1,acells,flat,behind,abin,aconv,aint,thenQ,blkQ,retQ,rdo,objOf,Value.cells,Value.oneCell',Int.reduceToNat, ↓reduceIte,Nat.reduceLT,Nat.reduceEqDiff,reduceCtorEq,Nat.reduceAdd,Nat.reduceMul,Nat.reduceLeDiff,u_26,u_3,u_30,u_39,telem_26,telem_30,telem_39,telem_85,telem_87,tez_85,tez_87,tfld_32_0,tfld_32_1,tfld_38_0,tfld_41_1,tfld_41_2,tfld_67_1,tsz_26,tsz_3,tsz_30,tsz_39,tsz_4,tsz_41,tsz_67,tsz_87,tzero_41,tzero_67, *])
 |((with_reducible refine and_go ?_);refine And.intro (by first|exact kept_refl|exact kept_last rfl|exact kept_keep (by assumption)) ?_)
 |(refine hκ.out _ _ ?_;clear hκ κ))
    refine ⟨N.length - (k + 1), by omega, k + 1, idn2, rfl, by omega, by rw [rowsC_snoc], by simp, hOn, by omega, ?_⟩
    intro i hi
    try rw [eobj]
    by_cases e : i = k
    · subst e; rw [← hnob, new_same, bvec_zero]
    · rw [new_lt (by omega)]; exact hM.out i (by omega)
  · have hkl : k = N.length := by omega
    subst hkl
    repeat' (first
 |with_reducible (first|apply awp_seq|apply awp_block|(refine awp_region_k ?_;intro κ hκ)|(refine hκ.out _ _ ?_;clear hκ κ)|apply awp_skip|apply awp_exit|apply awp_ret)
 |((first|with_reducible (first|apply gd_split|apply gt_split)|((with_reducible refine cond_go ?_);refine awp_cond_split rfl ?_ ?_))<;>intro h<;>(try simp only [upd, ↓reduceIte,Nat.reduceEqDiff,B2] at h)<;>(try simp only [*,reduceCtorEq,decide_true,decide_false] at h)<;>(try (have hari:=h;simp only [B3] at hari))<;>(try (first|contradiction|(exfalso;omega)|(exfalso;simp at h;done)))<;>(try simp only [B5]))
 |((with_reducible refine aapp_go ?_);refine aApp_own (by first|exact tez_85) (by assumption) (by assumption) (by decide) (by rfl) (by first|assumption|(simp;done)|(simp;omega)|omega) (by rfl) (by rfl) (by decide) (by omega) (by omega) ?_;intro idn σn hOn hKn eobj enobj ever entop)
 |((with_reducible refine aappn_go ?_);refine aApp_nil (by first|exact tez_85) (by rfl) (by decide) (by rfl) (by rfl) (by decide) (by omega) (by omega) ?_)
 |(simp (maxSteps:=3000000) (disch:=(first|omega|(simp only [B1, *];omega))) only [↓mapA_nil, ↓mapA_cons,B0,B4,awant,undef,aq,al,cst,cst1,acells,flat,behind,abin,aconv,aint,thenQ,blkQ,retQ,rdo,objOf,Value.cells,Value.oneCell',Int.reduceToNat, ↓reduceIte,Nat.reduceLT,Nat.reduceEqDiff,reduceCtorEq,Nat.reduceAdd,Nat.reduceMul,Nat.reduceLeDiff,u_26,u_3,u_30,u_39,telem_26,telem_30,telem_39,telem_85,telem_87,tez_85,tez_87,tfld_32_0,tfld_32_1,tfld_38_0,tfld_41_1,tfld_41_2,tfld_67_1,tsz_26,tsz_3,tsz_30,tsz_39,tsz_4,tsz_41,tsz_67,tsz_87,tzero_41,tzero_67, *])
 |((with_reducible refine and_go ?_);refine And.intro (by first|exact kept_refl|exact kept_last rfl|exact kept_keep (by assumption)) ?_)
 |(refine hκ.out _ _ ?_;clear hκ κ))
    have hM0 : Mat (σ.nobj + 1) N.length (fun _ _ => false) σ' := hM.out
    have hnb : σ.nobj + 1 + N.length ≤ σ'.nobj := by omega
    clear hM hnob hO hob h13 h12 h1
    refine awp_loop (fun m s σ' => ∃ (i : Nat) (M : Nat → Nat → Bool), m = l.length - i ∧ i ≤ l.length ∧ s 3 = sl idu N.length (rowsC (σ.nobj + 1) N.length N.length) ∧ s 25 = sl idi l.length cs ∧ s 26 = sc (.int .i64 l.length) ∧ s 27 = sc (.int .i64 i) ∧ Keep σ σ' ∧ σ.nobj + 1 + N.length ≤ σ'.nobj ∧ Abs.Hid (Mat (σ.nobj + 1) N.length M σ') ∧ Abs.Hid (isOnce N (l.take i) M)) l.length
      ⟨0, fun _ _ => false, by omega, by omega, by simp [upd, h3], by simp [upd], by simp [upd], rfl, hK, hnb, hM0, fun p q => by simp [onceP]⟩ ?_
    clear hM0 hnb h3 hK h hari hlt hk
    rintro m s σ' ⟨i, M, rfl, hi, h3, h25, h26, h27, hK, hnb, hM, hI⟩
    have kno := hK.nobj
    by_cases hlt : i < l.length
    · have hget := List.getElem?_eq_getElem hlt
      have hf1 := hB.fits l[i] (List.getElem_mem hlt)
      obtain ⟨hm, ih, id, b, r, hb, hd⟩ := EL_PI hB.el hget
      generalize l[i] = x at hd hget hf1 hb hm
      have HX : Abs.Hid (l[i]? = some x) := hget
      clear hget
      have hbl := EL.length PL_len hb
      have hx1 := hf1.1
      have hpx := List.idxOf_lt_length_of_mem hm
      repeat' (first
 |with_reducible (first|apply awp_seq|apply awp_block|(refine awp_region_k ?_;intro κ hκ)|(refine hκ.out _ _ ?_;clear hκ κ)|apply awp_skip|apply awp_exit|apply awp_ret)
 |((first|with_reducible (first|apply gd_split|apply gt_split)|((with_reducible refine cond_go ?_);refine awp_cond_split rfl ?_ ?_))<;>intro h<;>(try simp only [upd, ↓reduceIte,Nat.reduceEqDiff,B2] at h)<;>(try simp only [*,reduceCtorEq,decide_true,decide_false] at h)<;>(try (have hari:=h;simp only [B3] at hari))<;>(try (first|contradiction|(exfalso;omega)|(exfalso;simp at h;done)))<;>(try simp only [B5]))
 |((with_reducible refine aapp_go ?_);refine aApp_own (by first|exact tez_85) (by assumption) (by assumption) (by decide) (by rfl) (by first|assumption|(simp;done)|(simp;omega)|omega) (by rfl) (by rfl) (by decide) (by omega) (by omega) ?_;intro idn σn hOn hKn eobj enobj ever entop)
 |((with_reducible refine aappn_go ?_);refine aApp_nil (by first|exact tez_85) (by rfl) (by decide) (by rfl) (by rfl) (by decide) (by omega) (by omega) ?_)
 |(simp (maxSteps:=3000000) (disch:=(first|omega|(simp only [B1, *];omega))) only [↓mapA_nil, ↓mapA_cons,B0,B4,awant,undef,aq,al,cst,cst1,acells,flat,behind,abin,aconv,aint,thenQ,blkQ,retQ,rdo,objOf,Value.cells,Value.oneCell',Int.reduceToNat, ↓reduceIte,Nat.reduceLT,Nat.reduceEqDiff,reduceCtorEq,Nat.reduceAdd,Nat.reduceMul,Nat.reduceLeDiff,u_26,u_3,u_30,u_39,telem_26,telem_30,telem_39,telem_85,telem_87,tez_85,tez_87,tfld_32_0,tfld_32_1,tfld_38_0,tfld_41_1,tfld_41_2,tfld_67_1,tsz_26,tsz_3,tsz_30,tsz_39,tsz_4,tsz_41,tsz_67,tsz_87,tzero_41,tzero_67, *])
 |((with_reducible refine and_go ?_);refine And.intro (by first|exact kept_refl|exact kept_last rfl|exact kept_keep (by assumption)) ?_)
 |(refine hκ.out _ _ ?_;clear hκ κ))
      have hKa : Keep σ ((σ'.new [sc (.bool false), sc (.int .i64 0), nilS, nilS]).put σ'.nobj [sc (.bool x.out), sc (.int .i64 (N.idxOf x.head.pred : Nat)), sl ih x.head.terms.length (tcells x.head.terms), sl id x.body.length b]) := (hK.new _).put hK.nobj _
      have hMa := (hM.out.new hnb [sc (.bool false), sc (.int .i64 0), nilS, nilS]).put hnb [sc (.bool x.out), sc (.int .i64 (N.idxOf x.head.pred : Nat)), sl ih x.head.terms.length (tcells x.head.terms), sl id x.body.length b]
      generalize ho6 : σ'.nobj = o6 at hKa hMa hnb
      refine awp_loop (fun m s σ'' => ∃ (j : Nat) (M : Nat → Nat → Bool), m = x.body.length - j ∧ j ≤ x.body.length ∧ s 3 = sl idu N.length (rowsC (σ.nobj + 1) N.length N.length) ∧ s 6 = ptr o6 0 ∧ s 25 = sl idi l.length cs ∧ s 26 = sc (.int .i64 l.length) ∧ s 27 = sc (.int .i64 i) ∧ s 32 = sl id x.body.length b ∧ s 33 = sc (.int .i64 x.body.length) ∧ s 34 = sc (.int .i64 j) ∧ Keep σ σ'' ∧ o6 < σ''.nobj ∧ σ''.obj o6 = [sc (.bool x.out), sc (.int .i64 (N.idxOf x.head.pred : Nat)), sl ih x.head.terms.length (tcells x.head.terms), sl id x.body.length b] ∧ Abs.Hid (Mat (σ.nobj + 1) N.length M σ'') ∧ Abs.Hid (isOnceQ N (l.take i) x (x.body.take j) M)) x.body.length
        ⟨0, M, by omega, by omega, by simp [upd, h3], by simp [upd, ho6], by simp [upd, h25], by simp [upd, h26], by simp [upd, h27], by simp [upd], rfl, rfl, ?_, ?_, ?_, ?_, isOnceQ.zero hI.out⟩ ?_
      · exact hKa
      · rw [put_nobj, new_nobj]; omega
      · rw [put_same]
      · exact hMa
      clear hMa hKa hK hM hI h3 h25 h26 h27 kno M ho6
      rintro m s σ'' ⟨j, M, rfl, hj, h3, h6, h25, h26, h27, h32, h33, h34, hK, ho6n, hob6, hM, hI⟩
      have kno := hK.nobj
      by_cases hlt2 : j < x.body.length
      · have hget := List.getElem?_eq_getElem hlt2
        obtain ⟨ha, ia, r2, hd2⟩ := EL_PL hb hget
        generalize x.body[j] = a at hd2 hget ha
        have HA : Abs.Hid (x.body[j]? = some a) := hget
        clear hget
        have hpa := List.idxOf_lt_length_of_mem ha
        have hr1 := rowsC_get (B := σ.nobj + 1) (n := N.length) (k := N.length) hpx
        have hmo := hM.out _ hpx
        have hvl := bvec_len N.length (M (N.idxOf x.head.pred))
        have hst := isOnceQ.step hI.out HA.out
        have HST : Abs.Hid _ := hst
        have hms := fun (τ : St) (hτ : Mat (σ.nobj + 1) N.length M τ) => Mat.set (q := N.idxOf a.pred) hτ hpx true
        have HMS : Abs.Hid _ := hms
        clear hst hms
        generalize N.idxOf x.head.pred = ph at hob6 hpx hr1 hmo hvl HST HMS
        generalize N.idxOf a.pred = qa at hd2 hpa HST HMS
        repeat' (first
 |with_reducible (first|apply awp_seq|apply awp_block|(refine awp_region_k ?_;intro κ hκ)|(refine hκ.out _ _ ?_;clear hκ κ)|apply awp_skip|apply awp_exit|apply awp_ret)
 |((first|with_reducible (first|apply gd_split|apply gt_split)|((with_reducible refine cond_go ?_);refine awp_cond_split rfl ?_ ?_))<;>intro h<;>(try simp only [upd, ↓reduceIte,Nat.reduceEqDiff,B2] at h)<;>(try simp only [*,reduceCtorEq,decide_true,decide_false] at h)<;>(try (have hari:=h;simp only [B3] at hari))<;>(try (first|contradiction|(exfalso;omega)|(exfalso;simp at h;done)))<;>(try simp only [B5]))
 |((with_reducible refine aapp_go ?_);refine aApp_own (by first|exact tez_85) (by assumption) (by assumption) (by decide) (by rfl) (by first|assumption|(simp;done)|(simp;omega)|omega) (by rfl) (by rfl) (by decide) (by omega) (by omega) ?_;intro idn σn hOn hKn eobj enobj ever entop)
 |((with_reducible refine aappn_go ?_);refine aApp_nil (by first|exact tez_85) (by rfl) (by decide) (by rfl) (by rfl) (by decide) (by omega) (by omega) ?_)
 |(simp (maxSteps:=3000000) (disch:=(first|omega|(simp only [B1, *];omega))) only [↓mapA_nil, ↓mapA_cons,B0,B4,awant,undef,aq,al,cst,cst1,acells,flat,behind,abin,aconv,aint,thenQ,blkQ,retQ,rdo,objOf,Value.cells,Value.oneCell',Int.reduceToNat, ↓reduceIte,Nat.reduceLT,Nat.reduceEqDiff,reduceCtorEq,Nat.reduceAdd,Nat.reduceMul,Nat.reduceLeDiff,u_26,u_3,u_30,u_39,telem_26,telem_30,telem_39,telem_85,telem_87,tez_85,tez_87,tfld_32_0,tfld_32_1,tfld_38_0,tfld_41_1,tfld_41_2,tfld_67_1,tsz_26,tsz_3,tsz_30,tsz_39,tsz_4,tsz_41,tsz_67,tsz_87,tzero_41,tzero_67, *])
 |((with_reducible refine and_go ?_);refine And.intro (by first|exact kept_refl|exact kept_last rfl|exact kept_keep (by assumption)) ?_)
 |(refine hκ.out _ _ ?_;clear hκ κ))
        refine awp_draw_k follows_mixed (fun _ => True) [10] [0, 1, 2, 3, 4, 5, 6, 7, 8, 9] [10] (by kernel_rfl) (fun _ _ _ h => h) ?_
        intro κ hκ
        simp (maxSteps:=3000000) (disch:=(first|omega|(simp only [B1, *];omega))) only [↓mapA_nil, ↓mapA_cons,B0,B4,awant,undef,aq,al,cst,cst1,acells,flat,behind,abin,aconv,aint,thenQ,blkQ,retQ,rdo,objOf,Value.cells,Value.oneCell',Int.reduceToNat, ↓reduceIte,Nat.reduceLT,Nat.reduceEqDiff,reduceCtorEq,Nat.reduceAdd,Nat.reduceMul,Nat.reduceLeDiff,u_26,u_3,u_30,u_39,telem_26,telem_30,telem_39,telem_85,telem_87,tez_85,tez_87,tfld_32_0,tfld_32_1,tfld_38_0,tfld_41_1,tfld_41_2,tfld_67_1,tsz_26,tsz_3,tsz_30,tsz_39,tsz_4,tsz_41,tsz_67,tsz_87,tzero_41,tzero_67, *]
        repeat' (first
 |with_reducible (first|apply awp_seq|apply awp_block|(refine awp_region_k ?_;intro κ hκ)|(refine hκ.out _ _ ?_;clear hκ κ)|apply awp_skip|apply awp_exit|apply awp_ret)
 |((first|with_reducible (first|apply gd_split|apply gt_split)|((with_reducible refine cond_go ?_);refine awp_cond_split rfl ?_ ?_))<;>intro h<;>(try simp only [upd, ↓reduceIte,Nat.reduceEqDiff,B2] at h)<;>(try simp only [*,reduceCtorEq,decide_true,decide_false] at h)<;>(try (have hari:=h;simp only [B3] at hari))<;>(try (first|contradiction|(exfalso;omega)|(exfalso;simp at h;done)))<;>(try simp only [B5]))
 |((with_reducible refine aapp_go ?_);refine aApp_own (by first|exact tez_85) (by assumption) (by assumption) (by decide) (by rfl) (by first|assumption|(simp;done)|(simp;omega)|omega) (by rfl) (by rfl) (by decide) (by omega) (by omega) ?_;intro idn σn hOn hKn eobj enobj ever entop)
 |((with_reducible refine aappn_go ?_);refine aApp_nil (by first|exact tez_85) (by rfl) (by decide) (by rfl) (by rfl) (by decide) (by omega) (by omega) ?_)
 |(simp (maxSteps:=3000000) (disch:=(first|omega|(simp only [B1, *];omega))) only [↓mapA_nil, ↓mapA_cons,B0,B4,awant,undef,aq,al,cst,cst1,acells,flat,behind,abin,aconv,aint,thenQ,blkQ,retQ,rdo,objOf,Value.cells,Value.oneCell',Int.reduceToNat, ↓reduceIte,Nat.reduceLT,Nat.reduceEqDiff,reduceCtorEq,Nat.reduceAdd,Nat.reduceMul,Nat.reduceLeDiff,u_26,u_3,u_30,u_39,telem_26,telem_30,telem_39,telem_85,telem_87,tez_85,tez_87,tfld_32_0,tfld_32_1,tfld_38_0,tfld_41_1,tfld_41_2,tfld_67_1,tsz_26,tsz_3,tsz_30,tsz_39,tsz_4,tsz_41,tsz_67,tsz_87,tzero_41,tzero_67, *])
 |((with_reducible refine and_go ?_);refine And.intro (by first|exact kept_refl|exact kept_last rfl|exact kept_keep (by assumption)) ?_)
 |(refine hκ.out _ _ ?_;clear hκ κ))
        exact ⟨x.body.length - (j + 1), by omega, j + 1, _, rfl, by omega, by simp, ((hK.new _).put hK.nobj _).put (by omega) _, by omega, HMS.out _ (Mat.put (Mat.new hM.out (by omega) _) (by omega) _), HST.out⟩
      · have hjl : j = x.body.length := by omega
        subst hjl
        rw [List.take_length] at hI
        repeat' (first
 |with_reducible (first|apply awp_seq|apply awp_block|(refine awp_region_k ?_;intro κ hκ)|(refine hκ.out _ _ ?_;clear hκ κ)|apply awp_skip|apply awp_exit|apply awp_ret)
 |((first|with_reducible (first|apply gd_split|apply gt_split)|((with_reducible refine cond_go ?_);refine awp_cond_split rfl ?_ ?_))<;>intro h<;>(try simp only [upd, ↓reduceIte,Nat.reduceEqDiff,B2] at h)<;>(try simp only [*,reduceCtorEq,decide_true,decide_false] at h)<;>(try (have hari:=h;simp only [B3] at hari))<;>(try (first|contradiction|(exfalso;omega)|(exfalso;simp at h;done)))<;>(try simp only [B5]))
 |((with_reducible refine aapp_go ?_);refine aApp_own (by first|exact tez_85) (by assumption) (by assumption) (by decide) (by rfl) (by first|assumption|(simp;done)|(simp;omega)|omega) (by rfl) (by rfl) (by decide) (by omega) (by omega) ?_;intro idn σn hOn hKn eobj enobj ever entop)
 |((with_reducible refine aappn_go ?_);refine aApp_nil (by first|exact tez_85) (by rfl) (by decide) (by rfl) (by rfl) (by decide) (by omega) (by omega) ?_)
 |(simp (maxSteps:=3000000) (disch:=(first|omega|(simp only [B1, *];omega))) only [↓mapA_nil, ↓mapA_cons,B0,B4,awant,undef,aq,al,cst,cst1,acells,flat,behind,abin,aconv,aint,thenQ,blkQ,retQ,rdo,objOf,Value.cells,Value.oneCell',Int.reduceToNat, ↓reduceIte,Nat.reduceLT,Nat.reduceEqDiff,reduceCtorEq,Nat.reduceAdd,Nat.reduceMul,Nat.reduceLeDiff,u_26,u_3,u_30,u_39,telem_26,telem_30,telem_39,telem_85,telem_87,tez_85,tez_87,tfld_32_0,tfld_32_1,tfld_38_0,tfld_41_1,tfld_41_2,tfld_67_1,tsz_26,tsz_3,tsz_30,tsz_39,tsz_4,tsz_41,tsz_67,tsz_87,tzero_41,tzero_67, *])
 |((with_reducible refine and_go ?_);refine And.intro (by first|exact kept_refl|exact kept_last rfl|exact kept_keep (by assumption)) ?_)
 |(refine hκ.out _ _ ?_;clear hκ κ))
        exact ⟨l.length - (i + 1), by omega, i + 1, M, rfl, by omega, by simp, by omega, hM, isOnceQ.done hI.out HX.out⟩
    · have hil : i = l.length := by omega
      subst hil
      rw [List.take_length] at hI
      repeat' (first
 |with_reducible (first|apply awp_seq|apply awp_block|(refine awp_region_k ?_;intro κ hκ)|(refine hκ.out _ _ ?_;clear hκ κ)|apply awp_skip|apply awp_exit|apply awp_ret)
 |((first|with_reducible (first|apply gd_split|apply gt_split)|((with_reducible refine cond_go ?_);refine awp_cond_split rfl ?_ ?_))<;>intro h<;>(try simp only [upd, ↓reduceIte,Nat.reduceEqDiff,B2] at h)<;>(try simp only [*,reduceCtorEq,decide_true,decide_false] at h)<;>(try (have hari:=h;simp only [B3] at hari))<;>(try (first|contradiction|(exfalso;omega)|(exfalso;simp at h;done)))<;>(try simp only [B5]))
 |((with_reducible refine aapp_go ?_);refine aApp_own (by first|exact tez_85) (by assumption) (by assumption) (by decide) (by rfl) (by first|assumption|(simp;done)|(simp;omega)|omega) (by rfl) (by rfl) (by decide) (by omega) (by omega) ?_;intro idn σn hOn hKn eobj enobj ever entop)
 |((with_reducible refine aappn_go ?_);refine aApp_nil (by first|exact tez_85) (by rfl) (by decide) (by rfl) (by rfl) (by decide) (by omega) (by omega) ?_)
 |(simp (maxSteps:=3000000) (disch:=(first|omega|(simp only [B1, *];omega))) only [↓mapA_nil, ↓mapA_cons,B0,B4,awant,undef,aq,al,cst,cst1,acells,flat,behind,abin,aconv,aint,thenQ,blkQ,retQ,rdo,objOf,Value.cells,Value.oneCell',Int.reduceToNat, ↓reduceIte,Nat.reduceLT,Nat.reduceEqDiff,reduceCtorEq,Nat.reduceAdd,Nat.reduceMul,Nat.reduceLeDiff,u_26,u_3,u_30,u_39,telem_26,telem_30,telem_39,telem_85,telem_87,tez_85,tez_87,tfld_32_0,tfld_32_1,tfld_38_0,tfld_41_1,tfld_41_2,tfld_67_1,tsz_26,tsz_3,tsz_30,tsz_39,tsz_4,tsz_41,tsz_67,tsz_87,tzero_41,tzero_67, *])
 |((with_reducible refine and_go ?_);refine And.intro (by first|exact kept_refl|exact kept_last rfl|exact kept_keep (by assumption)) ?_)
 |(refine hκ.out _ _ ?_;clear hκ κ))
      exact ⟨_, rfl, idu, σ.nobj + 1, M, rfl, by omega, hnb, hM.out, hI.out⟩
end Go.Proofs.YtmoeoppbmhfbpaaDoorX
