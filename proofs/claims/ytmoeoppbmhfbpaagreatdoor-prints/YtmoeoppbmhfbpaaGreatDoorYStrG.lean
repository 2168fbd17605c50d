import Derived.Test.YtmoeoppbmhfbpaaGreatDoorYStrC
/- The document's own answer: higher, stratum, Stratum. -/
namespace Go.Proofs.YtmoeoppbmhfbpaaGreatDoorY
open Go.Abs
set_option linter.unusedSimpArgs false
set_option linter.unusedVariables false
set_option maxRecDepth 100000

def hitA (l : List RItem) (f : Nat → Bool) (counts : Bool) (a : RAtom) : Bool := a.nt && (counts && !ruledL l a.pred || holdsL f l a.pred)
def hiF (l : List RItem) (f : Nat → Bool) (counts : Bool) (i j : Nat) : Bool := hitJ l f counts j && (i == j || webM l i j)
def hiP (l : List RItem) (f : Nat → Bool) (counts : Bool) (j : Nat) (i : Nat) : Bool := (List.range j).any (hiF l f counts i)
theorem hiP_succ (l : List RItem) (f : Nat → Bool) (counts : Bool) (j i : Nat) : hiP l f counts (j + 1) i = (hiP l f counts j i || hiF l f counts i j) := by
  unfold hiP
  rw [List.range_succ, List.any_append]
  simp
theorem hiP_all (l : List RItem) (f : Nat → Bool) (counts : Bool) : hiP l f counts l.length = higherL l f counts := rfl
theorem hiP_far {l : List RItem} {f : Nat → Bool} {counts : Bool} {j i : Nat} (hj : j ≤ l.length) (hi : l.length ≤ i) : hiP l f counts j i = false := by
  unfold hiP
  rw [List.any_eq_false]
  intro k hk
  rw [List.mem_range] at hk
  unfold hiF
  have h1 : (i == k) = false := by simp; omega
  have h2 : webM l i k = false := by
    cases h : webM l i k with
    | false => rfl
    | true =>
      obtain ⟨x, y, hx, -⟩ := way_rules ((webM_iff l i k).1 h)
      have := (List.getElem?_eq_some_iff.1 hx).1
      omega
  rw [h1, h2]; simp
def hiM (l : List RItem) (f : Nat → Bool) (counts : Bool) (j i : Nat) : Nat → Bool := fun a => if a < i then hiP l f counts (j + 1) a else hiP l f counts j a
theorem hiM_zero (l : List RItem) (f : Nat → Bool) (counts : Bool) (j : Nat) : hiM l f counts j 0 = hiP l f counts j := by funext a; simp [hiM]
theorem hiM_end {l : List RItem} {f : Nat → Bool} {counts : Bool} {j : Nat} (hj : j < l.length) : hiM l f counts j l.length = hiP l f counts (j + 1) := by
  funext a
  unfold hiM
  split
  · rfl
  · rw [hiP_far (by omega) (by omega), hiP_far (by omega) (by omega)]
theorem hiM_set {l : List RItem} {f : Nat → Bool} {counts : Bool} {j i : Nat} {v : Bool} (hv : v = (hiP l f counts j i || hiF l f counts i j)) : (bvec 16 (hiM l f counts j i)).set i (sc (.bool v)) = bvec 16 (hiM l f counts j (i + 1)) := by
  rw [bvec_set]
  congr 1
  funext a
  unfold hiM
  by_cases e : a = i
  · subst e; rw [if_pos rfl, if_pos (by omega), hiP_succ, hv]
  · rw [if_neg e]
    by_cases h : a < i
    · rw [if_pos h, if_pos (by omega)]
    · rw [if_neg h, if_neg (by omega)]

set_option maxHeartbeats 16000000 in
theorem higher_spec (l : List RItem) (cs : List AV) (idl : Nat) (f : Nat → Bool) (counts : Bool) (hE : EL EItem l cs) (hl : l.length ≤ 16) (hf : ∀ x ∈ l, x.fits) (σ : St) : ACalls Tryz.prog 179 [sl idl l.length cs, ag (encW (webM l)), ag (bvec 16 f), sc (.bool counts)] σ fun r σ' => r = ag (bvec 16 (higherL l f counts)) ∧ Keep σ σ' := by
  have hcl := EL.length EItem_len hE
  have hwl := encW_len
  have hvl := fun g => bvec_len 16 g
  have htk : ∀ g, List.take 16 (bvec 16 g) = bvec 16 g := fun g => List.take_of_length_le (by rw [bvec_len]; exact Nat.le_refl _)
  have hls : ∀ g h, lsp (bvec 16 g) 0 (bvec 16 h) = bvec 16 h := fun g h => lsp_whole (by rw [bvec_len, bvec_len])
  have hfl : ∀ g, (bvec 16 g).all flat = true := fun g => by simp [bvec, flat, Value.oneCell']
  refine acalls 88 [.cell 8 230] Tryz.func179 rfl (by decide) rfl rfl (Nat.le_of_ble_eq_true rfl) ?_
  repeat' (first
 |with_reducible (first|apply awp_seq|apply awp_block|(refine awp_region_k ?_;intro κ hκ)|(refine hκ.out _ _ ?_;clear hκ κ)|apply awp_skip|apply awp_exit|apply awp_ret)
 |((first|with_reducible apply gd_split|((with_reducible refine cond_go ?_);refine awp_cond_split rfl ?_ ?_))<;>intro h<;>(try simp only [upd, ↓reduceIte,Nat.reduceEqDiff,B2] at h)<;>(try simp only [*,reduceCtorEq,decide_true,decide_false] at h)<;>(try (have hari:=h;simp only [B3] at hari))<;>(try (first|contradiction|(exfalso;omega)|(exfalso;simp at h;done)))<;>(try simp only [B5]))
 |(simp (maxSteps:=3000000) (disch:=(first|omega|(simp only [B1, *];omega))) only [↓mapA_nil, ↓mapA_cons,B0,B4,awant,undef,aq,al,cst,cst1,acells,flat,behind,abin,aconv,aint,thenQ,blkQ,retQ,Value.cells,Value.oneCell',Int.reduceToNat, ↓reduceIte,Nat.reduceLT,Nat.reduceEqDiff,reduceCtorEq,Nat.reduceAdd,Nat.reduceMul,Nat.reduceLeDiff,u_134,u_137,u_3,tarr_226,tarr_228,tarr_230,telem_134,telem_137,tfld_143_0,tfld_143_1,tfld_145_2,tsz_134,tsz_143,tsz_230,tsz_4,tsz_9,tzero_143,tzero_230, *])
 |(refine hκ.out _ _ ?_;clear hκ κ))
  refine awp_loop (fun m s σ' => ∃ j : Nat, m = l.length - j ∧ j ≤ l.length ∧ s 0 = sl idl l.length cs ∧ s 3 = sc (.bool counts) ∧ s 5 = ptr σ.nobj 0 ∧ s 6 = ptr (σ.nobj + 1) 0 ∧ s 8 = ptr (σ.nobj + 2) 0 ∧ s 9 = ptr (σ.nobj + 3) 0 ∧ s 10 = sc (.int .i64 j) ∧ Keep σ σ' ∧ σ.nobj + 3 < σ'.nobj ∧ σ'.obj σ.nobj = encW (webM l) ∧ σ'.obj (σ.nobj + 1) = bvec 16 f ∧ σ'.obj (σ.nobj + 2) = bvec 16 (fun _ => false) ∧ σ'.obj (σ.nobj + 3) = bvec 16 (hiP l f counts j)) l.length
    ⟨0, by omega, by omega, by simp [upd, initS], by simp [upd, initS], by simp [upd], by simp [upd], by simp [upd], by simp [upd], rfl, by repeat (first | exact Keep.refl _ | assumption | (refine Keep.put ?_ (by first | omega | (simp only [new_nobj, put_nobj, lay_nobj, *]; omega)) _) | (refine Keep.new ?_ _) | (refine Keep.lay ?_ _) | (refine Keep.trans ?_ (by assumption))), by simp only [new_nobj]; omega, ?_, ?_, ?_, ?_⟩ ?_
  · rw [new_lt (by simp only [new_nobj]; omega), new_lt (by simp only [new_nobj]; omega), new_lt (by simp only [new_nobj]; omega), new_same]
  · rw [new_lt (by simp only [new_nobj]; omega), new_lt (by simp only [new_nobj]; omega), new_at (by simp only [new_nobj]; omega) (by simp only [new_nobj]; omega)]
  · rw [new_lt (by simp only [new_nobj]; omega), new_at (by simp only [new_nobj]; omega) (by simp only [new_nobj]; omega)]
    exact bvec_zero 16
  · rw [new_at (by simp only [new_nobj]; omega) (by simp only [new_nobj]; omega)]
    exact bvec_zero 16
  rintro m s σ' ⟨j, rfl, hj, h0, h3, h5, h6, h8, h9, h10, hK, hno, ob0, ob1, ob2, ob3⟩
  have kno := hK.nobj
  by_cases hlt : j < l.length
  · have hget := List.getElem?_eq_getElem hlt
    have hf1 := (hf l[j] (List.getElem_mem hlt)).1
    obtain ⟨ih, id, b, r, hb, hd⟩ := EL_item hE hget
    have hhJ : Abs.Hid (hitJ l f counts j = l[j].body.any (hitA l f counts)) := by rw [Abs.Hid, hitJ, hget]; rfl
    generalize l[j] = x at hd hget hf1 hb hhJ
    clear hget
    have hbl := EL.length EAtom_len hb
    repeat' (first
 |with_reducible (first|apply awp_seq|apply awp_block|(refine awp_region_k ?_;intro κ hκ)|(refine hκ.out _ _ ?_;clear hκ κ)|apply awp_skip|apply awp_exit|apply awp_ret)
 |((first|with_reducible apply gd_split|((with_reducible refine cond_go ?_);refine awp_cond_split rfl ?_ ?_))<;>intro h<;>(try simp only [upd, ↓reduceIte,Nat.reduceEqDiff,B2] at h)<;>(try simp only [*,reduceCtorEq,decide_true,decide_false] at h)<;>(try (have hari:=h;simp only [B3] at hari))<;>(try (first|contradiction|(exfalso;omega)|(exfalso;simp at h;done)))<;>(try simp only [B5]))
 |(simp (maxSteps:=3000000) (disch:=(first|omega|(simp only [B1, *];omega))) only [↓mapA_nil, ↓mapA_cons,B0,B4,awant,undef,aq,al,cst,cst1,acells,flat,behind,abin,aconv,aint,thenQ,blkQ,retQ,Value.cells,Value.oneCell',Int.reduceToNat, ↓reduceIte,Nat.reduceLT,Nat.reduceEqDiff,reduceCtorEq,Nat.reduceAdd,Nat.reduceMul,Nat.reduceLeDiff,u_134,u_137,u_3,tarr_226,tarr_228,tarr_230,telem_134,telem_137,tfld_143_0,tfld_143_1,tfld_145_2,tsz_134,tsz_143,tsz_230,tsz_4,tsz_9,tzero_143,tzero_230, *])
 |(refine hκ.out _ _ ?_;clear hκ κ))
    refine awp_loop (fun m s σ' => ∃ n : Nat, m = x.body.length - n ∧ n ≤ x.body.length ∧ s 0 = sl idl l.length cs ∧ s 3 = sc (.bool counts) ∧ s 5 = ptr σ.nobj 0 ∧ s 6 = ptr (σ.nobj + 1) 0 ∧ s 8 = ptr (σ.nobj + 2) 0 ∧ s 9 = ptr (σ.nobj + 3) 0 ∧ s 10 = sc (.int .i64 j) ∧ s 11 = sc (.bool ((x.body.take n).any (hitA l f counts))) ∧ s 12 = sc (.int .i64 n) ∧ Keep σ σ' ∧ σ.nobj + 3 < σ'.nobj ∧ σ'.obj σ.nobj = encW (webM l) ∧ σ'.obj (σ.nobj + 1) = bvec 16 f ∧ σ'.obj (σ.nobj + 2) = bvec 16 (fun _ => false) ∧ σ'.obj (σ.nobj + 3) = bvec 16 (hiP l f counts j)) x.body.length
      ⟨0, by omega, by omega, by simp [upd, h0], by simp [upd, h3], by simp [upd, h5], by simp [upd, h6], by simp [upd, h8], by simp [upd, h9], by simp [upd, h10], by simp [upd], rfl, hK, hno, ob0, ob1, ob2, ob3⟩ ?_
    clear h0 h3 h5 h6 h8 h9 h10 hK hno ob0 ob1 ob2 ob3 kno
    rintro m s σ' ⟨n, rfl, hn, h0, h3, h5, h6, h8, h9, h10, h11, h12, hK, hno, ob0, ob1, ob2, ob3⟩
    have kno := hK.nobj
    by_cases hlt2 : n < x.body.length
    · have hget := List.getElem?_eq_getElem hlt2
      obtain ⟨ia, r2, hd2⟩ := EL_atom hb hget
      have hstep : Abs.Hid ((x.body.take (n + 1)).any (hitA l f counts) = ((x.body.take n).any (hitA l f counts) || (x.body[n].nt && (counts && !ruledL l x.body[n].pred || holdsL f l x.body[n].pred)))) := by
        rw [Abs.Hid, List.take_add_one, hget, Option.toList_some, List.any_append]; simp [hitA]
      generalize x.body[n] = a at hd2 hget hstep
      clear hget
      generalize (x.body.take n).any (hitA l f counts) = hit at h11 hstep
      have hR := fun σ => ruled_spec l cs idl a.pred hE hl σ
      have hH := fun σ => holds_spec l cs idl f a.pred hE hl σ
      generalize ruledL l a.pred = ru at hR hstep
      generalize holdsL f l a.pred = hold at hH hstep
      repeat' (first
 |with_reducible (first|apply awp_seq|apply awp_block|(refine awp_region_k ?_;intro κ hκ)|(refine hκ.out _ _ ?_;clear hκ κ)|apply awp_skip|apply awp_exit|apply awp_ret)
 |((first|with_reducible apply gd_split|((with_reducible refine cond_go ?_);refine awp_cond_split rfl ?_ ?_))<;>intro h<;>(try simp only [upd, ↓reduceIte,Nat.reduceEqDiff,B2] at h)<;>(try simp only [*,reduceCtorEq,decide_true,decide_false] at h)<;>(try (have hari:=h;simp only [B3] at hari))<;>(try (first|contradiction|(exfalso;omega)|(exfalso;simp at h;done)))<;>(try simp only [B5]))
 |((with_reducible refine acalls_go ?_);refine ACalls.mono (hR _) ?_;rintro _ _ ⟨rfl,rfl⟩)
 |((with_reducible refine acalls_go ?_);refine ACalls.mono (hH _) ?_;rintro _ _ ⟨rfl,hK2⟩;(have kob2:=hK2.obj;have kno2:=hK2.nobj;(try simp only [new_nobj,put_nobj,lay_nobj] at kno2)))
 |(simp (maxSteps:=3000000) (disch:=(first|omega|(simp only [B1, *];omega))) only [↓mapA_nil, ↓mapA_cons,B0,B4,awant,undef,aq,al,cst,cst1,acells,flat,behind,abin,aconv,aint,thenQ,blkQ,retQ,Value.cells,Value.oneCell',Int.reduceToNat, ↓reduceIte,Nat.reduceLT,Nat.reduceEqDiff,reduceCtorEq,Nat.reduceAdd,Nat.reduceMul,Nat.reduceLeDiff,u_134,u_137,u_3,tarr_226,tarr_228,tarr_230,telem_134,telem_137,tfld_143_0,tfld_143_1,tfld_145_2,tsz_134,tsz_143,tsz_230,tsz_4,tsz_9,tzero_143,tzero_230, *])
 |(refine hκ.out _ _ ?_;clear hκ κ))
      all_goals
        have h2 := hstep.out
        simp only [*, Bool.false_or, Bool.true_and, Bool.not_true, Bool.true_or, Bool.false_and, Bool.or_false, Bool.not_false, Bool.and_false, Bool.and_true, Bool.or_true] at h2
        first
        | exact ⟨x.body.length - (n + 1), by omega, n + 1, rfl, by omega, by rw [h2], by simp, ((hK.new _).put hK.nobj _).trans hK2, by omega⟩
        | exact ⟨x.body.length - (n + 1), by omega, n + 1, rfl, by omega, by rw [h2], by simp, (hK.new _).put hK.nobj _, by omega⟩
    · have hnl : n = x.body.length := by omega
      subst hnl
      rw [List.take_length] at h11
      rw [← hhJ.out] at h11
      generalize hhj : hitJ l f counts j = hit at h11
      have HJ : Abs.Hid _ := hhj
      clear hhj
      repeat' (first
 |with_reducible (first|apply awp_seq|apply awp_block|(refine awp_region_k ?_;intro κ hκ)|(refine hκ.out _ _ ?_;clear hκ κ)|apply awp_skip|apply awp_exit|apply awp_ret)
 |((first|with_reducible apply gd_split|((with_reducible refine cond_go ?_);refine awp_cond_split rfl ?_ ?_))<;>intro h<;>(try simp only [upd, ↓reduceIte,Nat.reduceEqDiff,B2] at h)<;>(try simp only [*,reduceCtorEq,decide_true,decide_false] at h)<;>(try (have hari:=h;simp only [B3] at hari))<;>(try (first|contradiction|(exfalso;omega)|(exfalso;simp at h;done)))<;>(try simp only [B5]))
 |(simp (maxSteps:=3000000) (disch:=(first|omega|(simp only [B1, *];omega))) only [↓mapA_nil, ↓mapA_cons,B0,B4,awant,undef,aq,al,cst,cst1,acells,flat,behind,abin,aconv,aint,thenQ,blkQ,retQ,Value.cells,Value.oneCell',Int.reduceToNat, ↓reduceIte,Nat.reduceLT,Nat.reduceEqDiff,reduceCtorEq,Nat.reduceAdd,Nat.reduceMul,Nat.reduceLeDiff,u_134,u_137,u_3,tarr_226,tarr_228,tarr_230,telem_134,telem_137,tfld_143_0,tfld_143_1,tfld_145_2,tsz_134,tsz_143,tsz_230,tsz_4,tsz_9,tzero_143,tzero_230, *])
 |(refine hκ.out _ _ ?_;clear hκ κ))
      refine awp_loop (fun m s σ' => ∃ i : Nat, m = l.length - i ∧ i ≤ l.length ∧ s 0 = sl idl l.length cs ∧ s 3 = sc (.bool counts) ∧ s 5 = ptr σ.nobj 0 ∧ s 6 = ptr (σ.nobj + 1) 0 ∧ s 8 = ptr (σ.nobj + 2) 0 ∧ s 9 = ptr (σ.nobj + 3) 0 ∧ s 10 = sc (.int .i64 j) ∧ s 11 = sc (.bool hit) ∧ s 14 = sc (.int .i64 i) ∧ Keep σ σ' ∧ σ.nobj + 3 < σ'.nobj ∧ σ'.obj σ.nobj = encW (webM l) ∧ σ'.obj (σ.nobj + 1) = bvec 16 f ∧ σ'.obj (σ.nobj + 2) = bvec 16 (fun _ => false) ∧ σ'.obj (σ.nobj + 3) = bvec 16 (hiM l f counts j i)) l.length
        ⟨0, by omega, by omega, by simp [upd, h0], by simp [upd, h3], by simp [upd, h5], by simp [upd, h6], by simp [upd, h8], by simp [upd, h9], by simp [upd, h10], by simp [upd, h11], rfl, hK, hno, ob0, ob1, ob2, by rw [hiM_zero]; exact ob3⟩ ?_
      clear h0 h3 h5 h6 h8 h9 h10 h11 h12 hK hno ob0 ob1 ob2 ob3 kno
      rintro m s σ' ⟨i, rfl, hi, h0, h3, h5, h6, h8, h9, h10, h11, h14, hK, hno, ob0, ob1, ob2, ob3⟩
      have kno := hK.nobj
      by_cases hlt3 : i < l.length
      · have hbg := bvec_get (hiM l f counts j i) (show i < 16 by omega)
        have g1 := encW_get (webM l) (i := i) (k := j) (by omega) (by omega)
        have hcur : hiM l f counts j i i = hiP l f counts j i := by simp [hiM]
        have HSET : Abs.Hid (∀ v, v = (hiP l f counts j i || (hit && (i == j || webM l i j))) → (bvec 16 (hiM l f counts j i)).set i (sc (.bool v)) = bvec 16 (hiM l f counts j (i + 1))) := fun v hv => hiM_set (by rw [hv, hiF, HJ.out])
        rw [hcur] at hbg
        clear hcur
        generalize hiP l f counts j i = cur at hbg HSET
        generalize webM l i j = wv at g1 HSET
        by_cases hij : i = j
        · have hijb : ((i : Int) == (j : Int)) = true := by simp [hij]
          have HSET : Abs.Hid (∀ v, v = (cur || hit) → (bvec 16 (hiM l f counts j i)).set i (sc (.bool v)) = bvec 16 (hiM l f counts j (i + 1))) := fun v hv => HSET.out v (by rw [hv, show (i == j) = true from beq_iff_eq.2 hij]; cases cur <;> cases hit <;> rfl)
          clear hij
          repeat' (first
 |with_reducible (first|apply awp_seq|apply awp_block|(refine awp_region_k ?_;intro κ hκ)|(refine hκ.out _ _ ?_;clear hκ κ)|apply awp_skip|apply awp_exit|apply awp_ret)
 |((first|with_reducible apply gd_split|((with_reducible refine cond_go ?_);refine awp_cond_split rfl ?_ ?_))<;>intro h<;>(try simp only [upd, ↓reduceIte,Nat.reduceEqDiff,B2] at h)<;>(try simp only [*,reduceCtorEq,decide_true,decide_false] at h)<;>(try (have hari:=h;simp only [B3] at hari))<;>(try (first|contradiction|(exfalso;omega)|(exfalso;simp at h;done)))<;>(try simp only [B5]))
 |(simp (maxSteps:=3000000) (disch:=(first|omega|(simp only [B1, *];omega))) only [↓mapA_nil, ↓mapA_cons,B0,B4,awant,undef,aq,al,cst,cst1,acells,flat,behind,abin,aconv,aint,thenQ,blkQ,retQ,Value.cells,Value.oneCell',Int.reduceToNat, ↓reduceIte,Nat.reduceLT,Nat.reduceEqDiff,reduceCtorEq,Nat.reduceAdd,Nat.reduceMul,Nat.reduceLeDiff,u_134,u_137,u_3,tarr_226,tarr_228,tarr_230,telem_134,telem_137,tfld_143_0,tfld_143_1,tfld_145_2,tsz_134,tsz_143,tsz_230,tsz_4,tsz_9,tzero_143,tzero_230, *])
 |(refine hκ.out _ _ ?_;clear hκ κ))
          all_goals exact ⟨l.length - (i + 1), by omega, i + 1, rfl, by omega, by simp, hK.put (by omega) _, HSET.out _ (by simp [*])⟩
        · have hijb : ((i : Int) == (j : Int)) = false := by simp; omega
          have HSET : Abs.Hid (∀ v, v = (cur || (hit && wv)) → (bvec 16 (hiM l f counts j i)).set i (sc (.bool v)) = bvec 16 (hiM l f counts j (i + 1))) := fun v hv => HSET.out v (by rw [hv, show (i == j) = false from beq_eq_false_iff_ne.2 hij]; rfl)
          clear hij
          repeat' (first
 |with_reducible (first|apply awp_seq|apply awp_block|(refine awp_region_k ?_;intro κ hκ)|(refine hκ.out _ _ ?_;clear hκ κ)|apply awp_skip|apply awp_exit|apply awp_ret)
 |((first|with_reducible apply gd_split|((with_reducible refine cond_go ?_);refine awp_cond_split rfl ?_ ?_))<;>intro h<;>(try simp only [upd, ↓reduceIte,Nat.reduceEqDiff,B2] at h)<;>(try simp only [*,reduceCtorEq,decide_true,decide_false] at h)<;>(try (have hari:=h;simp only [B3] at hari))<;>(try (first|contradiction|(exfalso;omega)|(exfalso;simp at h;done)))<;>(try simp only [B5]))
 |(simp (maxSteps:=3000000) (disch:=(first|omega|(simp only [B1, *];omega))) only [↓mapA_nil, ↓mapA_cons,B0,B4,awant,undef,aq,al,cst,cst1,acells,flat,behind,abin,aconv,aint,thenQ,blkQ,retQ,Value.cells,Value.oneCell',Int.reduceToNat, ↓reduceIte,Nat.reduceLT,Nat.reduceEqDiff,reduceCtorEq,Nat.reduceAdd,Nat.reduceMul,Nat.reduceLeDiff,u_134,u_137,u_3,tarr_226,tarr_228,tarr_230,telem_134,telem_137,tfld_143_0,tfld_143_1,tfld_145_2,tsz_134,tsz_143,tsz_230,tsz_4,tsz_9,tzero_143,tzero_230, *])
 |(refine hκ.out _ _ ?_;clear hκ κ))
          all_goals exact ⟨l.length - (i + 1), by omega, i + 1, rfl, by omega, by simp, hK.put (by omega) _, HSET.out _ (by simp [*])⟩
      · have hil : i = l.length := by omega
        subst hil
        rw [hiM_end hlt] at ob3
        repeat' (first
 |with_reducible (first|apply awp_seq|apply awp_block|(refine awp_region_k ?_;intro κ hκ)|(refine hκ.out _ _ ?_;clear hκ κ)|apply awp_skip|apply awp_exit|apply awp_ret)
 |((first|with_reducible apply gd_split|((with_reducible refine cond_go ?_);refine awp_cond_split rfl ?_ ?_))<;>intro h<;>(try simp only [upd, ↓reduceIte,Nat.reduceEqDiff,B2] at h)<;>(try simp only [*,reduceCtorEq,decide_true,decide_false] at h)<;>(try (have hari:=h;simp only [B3] at hari))<;>(try (first|contradiction|(exfalso;omega)|(exfalso;simp at h;done)))<;>(try simp only [B5]))
 |(simp (maxSteps:=3000000) (disch:=(first|omega|(simp only [B1, *];omega))) only [↓mapA_nil, ↓mapA_cons,B0,B4,awant,undef,aq,al,cst,cst1,acells,flat,behind,abin,aconv,aint,thenQ,blkQ,retQ,Value.cells,Value.oneCell',Int.reduceToNat, ↓reduceIte,Nat.reduceLT,Nat.reduceEqDiff,reduceCtorEq,Nat.reduceAdd,Nat.reduceMul,Nat.reduceLeDiff,u_134,u_137,u_3,tarr_226,tarr_228,tarr_230,telem_134,telem_137,tfld_143_0,tfld_143_1,tfld_145_2,tsz_134,tsz_143,tsz_230,tsz_4,tsz_9,tzero_143,tzero_230, *])
 |(refine hκ.out _ _ ?_;clear hκ κ))
        exact ⟨l.length - (j + 1), by omega, j + 1, rfl, by omega, by simp, rfl⟩
  · have hjl : j = l.length := by omega
    subst hjl
    rw [hiP_all] at ob3
    repeat' (first
 |with_reducible (first|apply awp_seq|apply awp_block|(refine awp_region_k ?_;intro κ hκ)|(refine hκ.out _ _ ?_;clear hκ κ)|apply awp_skip|apply awp_exit|apply awp_ret)
 |((first|with_reducible apply gd_split|((with_reducible refine cond_go ?_);refine awp_cond_split rfl ?_ ?_))<;>intro h<;>(try simp only [upd, ↓reduceIte,Nat.reduceEqDiff,B2] at h)<;>(try simp only [*,reduceCtorEq,decide_true,decide_false] at h)<;>(try (have hari:=h;simp only [B3] at hari))<;>(try (first|contradiction|(exfalso;omega)|(exfalso;simp at h;done)))<;>(try simp only [B5]))
 |(simp (maxSteps:=3000000) (disch:=(first|omega|(simp only [B1, *];omega))) only [↓mapA_nil, ↓mapA_cons,B0,B4,awant,undef,aq,al,cst,cst1,acells,flat,behind,abin,aconv,aint,thenQ,blkQ,retQ,Value.cells,Value.oneCell',Int.reduceToNat, ↓reduceIte,Nat.reduceLT,Nat.reduceEqDiff,reduceCtorEq,Nat.reduceAdd,Nat.reduceMul,Nat.reduceLeDiff,u_134,u_137,u_3,tarr_226,tarr_228,tarr_230,telem_134,telem_137,tfld_143_0,tfld_143_1,tfld_145_2,tsz_134,tsz_143,tsz_230,tsz_4,tsz_9,tzero_143,tzero_230, *])
 |(refine hκ.out _ _ ?_;clear hκ κ))
    exact ⟨_, rfl, rfl, hK.put (by omega) _⟩

end Go.Proofs.YtmoeoppbmhfbpaaGreatDoorY
