import Derived.Test.YtmoeoppbmhfbpaaDoorXProgM
/- The program: the first item in which a predicate has another number of terms. -/
namespace Go.Proofs.YtmoeoppbmhfbpaaDoorX
open Go.Abs
set_option linter.unusedSimpArgs false
set_option linter.unusedVariables false
set_option maxRecDepth 100000

set_option maxHeartbeats 16000000 in
theorem firstOther_spec (N : List Tx) (l : List RItem) (cs : List AV) (idn idi : Nat) (hB : Bk N l cs) (σ : St) : ACalls Tryd.prog 35 [bookA N idn l idi cs] σ fun r σ' => r = sc (.int .i64 (firstN (oddP l) l.length)) ∧ Keep σ σ' := by
  have hcl := EL.length PI_len hB.el
  have hl16 := hB.len
  have hN := hB.nm
  refine acalls 52 [.tmp 2] Tryd.func35 rfl (by decide) rfl rfl (Nat.le_of_ble_eq_true rfl) ?_
  repeat' (first
 |with_reducible (first|apply awp_seq|apply awp_block|(refine awp_region_k ?_;intro κ hκ)|(refine hκ.out _ _ ?_;clear hκ κ)|apply awp_skip|apply awp_exit|apply awp_ret)
 |((first|with_reducible (first|apply gd_split|apply gt_split)|((with_reducible refine cond_go ?_);refine awp_cond_split rfl ?_ ?_))<;>intro h<;>(try simp only [upd, ↓reduceIte,Nat.reduceEqDiff,B2] at h)<;>(try simp only [*,reduceCtorEq,decide_true,decide_false] at h)<;>(try (have hari:=h;simp only [B3] at hari))<;>(try (first|contradiction|(exfalso;omega)|(exfalso;simp at h;done)))<;>(try simp only [B5]))
 |(simp (maxSteps:=3000000) (disch:=(first|omega|(simp only [B1, *];omega))) only [↓mapA_nil, ↓mapA_cons,B0,B4,awant,undef,aq,al,cst,cst1,acells,flat,behind,abin,aconv,aint,thenQ,blkQ,retQ,rdo,objOf,Value.cells,Value.oneCell',Int.reduceToNat, ↓reduceIte,Nat.reduceLT,Nat.reduceEqDiff,reduceCtorEq,Nat.reduceAdd,Nat.reduceMul,Nat.reduceLeDiff,u_26,u_3,u_30,u_36,u_73,telem_26,telem_30,telem_36,telem_52,telem_73,tez_52,tfld_32_0,tfld_32_1,tfld_38_0,tfld_38_1,tsz_26,tsz_3,tsz_30,tsz_36,tsz_38,tsz_41,tzero_38,tzero_41, *])
 |((with_reducible refine and_go ?_);refine And.intro (by first|exact kept_refl|exact kept_last rfl|exact kept_keep (by assumption)) ?_)
 |(refine hκ.out _ _ ?_;clear hκ κ))
  refine awp_loop (fun m s σ' => ∃ (i : Nat) (cc : Nat → Int), m = l.length - i ∧ i ≤ l.length ∧ s 3 = fx (σ.nobj + 1) 0 N.length ∧ s 13 = sl idi l.length cs ∧ s 14 = sc (.int .i64 l.length) ∧ s 15 = sc (.int .i64 i) ∧ Keep σ σ' ∧ σ.nobj + 1 < σ'.nobj ∧ σ'.obj (σ.nobj + 1) = cvec N.length cc ∧ Abs.Hid (cntsOk N (priorL l i) cc) ∧ Abs.Hid (consS (priorL l i)) ∧ Abs.Hid (noO l i)) l.length
    ⟨0, fun _ => 0, by omega, by omega, ?_, rfl, rfl, rfl, by repeat (first | exact Keep.refl _ | assumption | (refine Keep.put ?_ (by first | omega | (simp only [new_nobj, put_nobj, lay_nobj, *]; omega)) _) | (refine Keep.new ?_ _) | (refine Keep.lay ?_ _) | (refine Keep.trans ?_ (by assumption))), by simp only [new_nobj]; omega, ?_, ?_, by simp [Abs.Hid, priorL, cons_nil], fun a h => by omega⟩ ?_
  · simp [upd]
  · show (if σ.nobj + 1 = σ.nobj + 1 then _ else _) = _
    rw [if_pos rfl]; exact cvec_zero _
  · intro p hp; simp [priorL, cntL]
  rintro m s σ' ⟨i, cc, rfl, hi, h3, h13, h14, h15, hK, hno1, hob, hC, hS, hno⟩
  have kno := hK.nobj
  by_cases hlt : i < l.length
  · have hget := List.getElem?_eq_getElem hlt
    have hf1 := hB.fits l[i] (List.getElem_mem hlt)
    have ho1 := hB.out l[i] (List.getElem_mem hlt)
    have hp1 := hB.pos l[i] (List.getElem_mem hlt)
    obtain ⟨hm, ih, id, b, r, hb, hd⟩ := EL_PI hB.el hget
    generalize l[i] = x at hd hget hf1 ho1 hb hm hp1
    have HX : Abs.Hid (l[i]? = some x) := hget
    clear hget
    have hal := hf1.atoms
    repeat' (first
 |with_reducible (first|apply awp_seq|apply awp_block|(refine awp_region_k ?_;intro κ hκ)|(refine hκ.out _ _ ?_;clear hκ κ)|apply awp_skip|apply awp_exit|apply awp_ret)
 |((first|with_reducible (first|apply gd_split|apply gt_split)|((with_reducible refine cond_go ?_);refine awp_cond_split rfl ?_ ?_))<;>intro h<;>(try simp only [upd, ↓reduceIte,Nat.reduceEqDiff,B2] at h)<;>(try simp only [*,reduceCtorEq,decide_true,decide_false] at h)<;>(try (have hari:=h;simp only [B3] at hari))<;>(try (first|contradiction|(exfalso;omega)|(exfalso;simp at h;done)))<;>(try simp only [B5]))
 |((with_reducible refine acalls_go ?_);refine ACalls.mono (patoms_spec N x _ (PI.of hm hb) ho1 (by have:=hf1.1;omega) _) ?_;rintro _ _ ⟨ida,cs2,rfl,hE2,hK2⟩;(have kob2:=hK2.obj;have kno2:=hK2.nobj;(try simp only [new_nobj,put_nobj,lay_nobj] at kno2)))
 |(simp (maxSteps:=3000000) (disch:=(first|omega|(simp only [B1, *];omega))) only [↓mapA_nil, ↓mapA_cons,B0,B4,awant,undef,aq,al,cst,cst1,acells,flat,behind,abin,aconv,aint,thenQ,blkQ,retQ,rdo,objOf,Value.cells,Value.oneCell',Int.reduceToNat, ↓reduceIte,Nat.reduceLT,Nat.reduceEqDiff,reduceCtorEq,Nat.reduceAdd,Nat.reduceMul,Nat.reduceLeDiff,u_26,u_3,u_30,u_36,u_73,telem_26,telem_30,telem_36,telem_52,telem_73,tez_52,tfld_32_0,tfld_32_1,tfld_38_0,tfld_38_1,tsz_26,tsz_3,tsz_30,tsz_36,tsz_38,tsz_41,tzero_38,tzero_41, *])
 |((with_reducible refine and_go ?_);refine And.intro (by first|exact kept_refl|exact kept_last rfl|exact kept_keep (by assumption)) ?_)
 |(refine hκ.out _ _ ?_;clear hκ κ))
    rename_i σ1
    have hcl2 := EL.length PC_len hE2
    have hKs : Keep σ σ1 := by repeat (first | exact Keep.refl _ | assumption | (refine Keep.put ?_ (by first | omega | (simp only [new_nobj, put_nobj, lay_nobj, *]; omega)) _) | (refine Keep.new ?_ _) | (refine Keep.lay ?_ _) | (refine Keep.trans ?_ (by assumption)))
    have hob1 : σ1.obj (σ.nobj + 1) = cvec N.length cc := by
      rw [kob2 _ (by simp only [new_nobj, put_nobj]; omega), put_ne (by omega), new_lt hno1]; exact hob
    clear kob2
    refine awp_loop (fun m s σ' => ∃ (j : Nat) (cc : Nat → Int), m = (atomsL x).length - j ∧ j ≤ (atomsL x).length ∧ s 3 = fx (σ.nobj + 1) 0 N.length ∧ s 4 = sc (.int .i64 i) ∧ s 13 = sl idi l.length cs ∧ s 14 = sc (.int .i64 l.length) ∧ s 15 = sc (.int .i64 i) ∧ s 21 = sl ida (atomsL x).length cs2 ∧ s 22 = sc (.int .i64 (atomsL x).length) ∧ s 23 = sc (.int .i64 j) ∧ Keep σ σ' ∧ σ.nobj + 1 < σ'.nobj ∧ σ'.obj (σ.nobj + 1) = cvec N.length cc ∧ Abs.Hid (cntsOk N (seenL l x i j) cc) ∧ Abs.Hid (consS (seenL l x i j)) ∧ Abs.Hid (noOj l x i j)) (atomsL x).length
      ⟨0, cc, by omega, by omega, by simp [upd, h3], by simp [upd], by simp [upd, h13], by simp [upd, h14], by simp [upd, h15], by simp [upd], rfl, rfl, hKs, by omega, hob1, by simpa [seenL] using hC, by simpa [seenL] using hS, fun b h => by omega⟩ ?_
    clear hob1 hK hob hC hS hK2 kno2 kno h3 h13 h14 h15 hno1 cc hKs
    rintro m s σ' ⟨j, cc, rfl, hj, h3, h4, h13, h14, h15, h21, h22, h23, hK, hno1, hob, hC, hS, hno2⟩
    have kno := hK.nobj
    by_cases hlt2 : j < (atomsL x).length
    · have hget := List.getElem?_eq_getElem hlt2
      have hp2 := hp1 (atomsL x)[j] (List.getElem_mem hlt2)
      obtain ⟨ha, ia, r2, hd2⟩ := EL_PC hE2 hget
      generalize (atomsL x)[j] = a at hd2 hget ha hp2
      have HA : Abs.Hid ((atomsL x)[j]? = some a) := hget
      clear hget
      have hodd : Abs.Hid (oddAt l x i j = (seenL l x i j).any (clash a)) := by rw [Abs.Hid, oddAt, HA.out]
      have hix := List.idxOf_lt_length_of_mem ha
      have hst := hC.out.step hS.out ha
      have hcv := hC.out a.pred ha
      have hcg := cvec_get cc hix
      have hcs := fun v => cvec_set (n := N.length) (i := N.idxOf a.pred) cc v
      have hvl := cvec_len N.length cc
      generalize hce : cc (N.idxOf a.pred) = c at hcg hst hcv
      clear hce
      generalize N.idxOf a.pred = ix at hd2 hcg hix hst hcs
      have hcl := clash_iff hS.out a
      have HST : Abs.Hid _ := hst
      have HCV : Abs.Hid _ := hcv
      have HCL : Abs.Hid _ := hcl
      clear hst hcv hcl
      by_cases hc0 : (c == 0) = true
      · have hgs : ((cvec N.length cc).set ix (sc (.int .i64 a.terms.length)))[ix]? = some (sc (.int .i64 a.terms.length)) := by rw [hcs, cvec_get _ hix]; simp
        have hne : ((a.terms.length : Int) != a.terms.length) = false := by simp
        have hcc : c = 0 := by simpa using hc0
        have HCS : Abs.Hid _ := hcs
        clear hcs
        repeat' (first
 |with_reducible (first|apply awp_seq|apply awp_block|(refine awp_region_k ?_;intro κ hκ)|(refine hκ.out _ _ ?_;clear hκ κ)|apply awp_skip|apply awp_exit|apply awp_ret)
 |((first|with_reducible (first|apply gd_split|apply gt_split)|((with_reducible refine cond_go ?_);refine awp_cond_split rfl ?_ ?_))<;>intro h<;>(try simp only [upd, ↓reduceIte,Nat.reduceEqDiff,B2] at h)<;>(try simp only [*,reduceCtorEq,decide_true,decide_false] at h)<;>(try (have hari:=h;simp only [B3] at hari))<;>(try (first|contradiction|(exfalso;omega)|(exfalso;simp at h;done)))<;>(try simp only [B5]))
 |(simp (maxSteps:=3000000) (disch:=(first|omega|(simp only [B1, *];omega))) only [↓mapA_nil, ↓mapA_cons,B0,B4,awant,undef,aq,al,cst,cst1,acells,flat,behind,abin,aconv,aint,thenQ,blkQ,retQ,rdo,objOf,Value.cells,Value.oneCell',Int.reduceToNat, ↓reduceIte,Nat.reduceLT,Nat.reduceEqDiff,reduceCtorEq,Nat.reduceAdd,Nat.reduceMul,Nat.reduceLeDiff,u_26,u_3,u_30,u_36,u_73,telem_26,telem_30,telem_36,telem_52,telem_73,tez_52,tfld_32_0,tfld_32_1,tfld_38_0,tfld_38_1,tsz_26,tsz_3,tsz_30,tsz_36,tsz_38,tsz_41,tzero_38,tzero_41, *])
 |((with_reducible refine and_go ?_);refine And.intro (by first|exact kept_refl|exact kept_last rfl|exact kept_keep (by assumption)) ?_)
 |(refine hκ.out _ _ ?_;clear hκ κ))
        refine awp_draw_k follows_mixed (fun _ => True) [8] [0, 1, 2, 3, 4, 5, 6, 7] [8] (by kernel_rfl) (fun _ _ _ h => h) ?_
        intro κ hκ
        simp (maxSteps:=3000000) (disch:=(first|omega|(simp only [B1, *];omega))) only [↓mapA_nil, ↓mapA_cons,B0,B4,awant,undef,aq,al,cst,cst1,acells,flat,behind,abin,aconv,aint,thenQ,blkQ,retQ,rdo,objOf,Value.cells,Value.oneCell',Int.reduceToNat, ↓reduceIte,Nat.reduceLT,Nat.reduceEqDiff,reduceCtorEq,Nat.reduceAdd,Nat.reduceMul,Nat.reduceLeDiff,u_26,u_3,u_30,u_36,u_73,telem_26,telem_30,telem_36,telem_52,telem_73,tez_52,tfld_32_0,tfld_32_1,tfld_38_0,tfld_38_1,tsz_26,tsz_3,tsz_30,tsz_36,tsz_38,tsz_41,tzero_38,tzero_41, *]
        repeat' (first
 |with_reducible (first|apply awp_seq|apply awp_block|(refine awp_region_k ?_;intro κ hκ)|(refine hκ.out _ _ ?_;clear hκ κ)|apply awp_skip|apply awp_exit|apply awp_ret)
 |((first|with_reducible (first|apply gd_split|apply gt_split)|((with_reducible refine cond_go ?_);refine awp_cond_split rfl ?_ ?_))<;>intro h<;>(try simp only [upd, ↓reduceIte,Nat.reduceEqDiff,B2] at h)<;>(try simp only [*,reduceCtorEq,decide_true,decide_false] at h)<;>(try (have hari:=h;simp only [B3] at hari))<;>(try (first|contradiction|(exfalso;omega)|(exfalso;simp at h;done)))<;>(try simp only [B5]))
 |(simp (maxSteps:=3000000) (disch:=(first|omega|(simp only [B1, *];omega))) only [↓mapA_nil, ↓mapA_cons,B0,B4,awant,undef,aq,al,cst,cst1,acells,flat,behind,abin,aconv,aint,thenQ,blkQ,retQ,rdo,objOf,Value.cells,Value.oneCell',Int.reduceToNat, ↓reduceIte,Nat.reduceLT,Nat.reduceEqDiff,reduceCtorEq,Nat.reduceAdd,Nat.reduceMul,Nat.reduceLeDiff,u_26,u_3,u_30,u_36,u_73,telem_26,telem_30,telem_36,telem_52,telem_73,tez_52,tfld_32_0,tfld_32_1,tfld_38_0,tfld_38_1,tsz_26,tsz_3,tsz_30,tsz_36,tsz_38,tsz_41,tzero_38,tzero_41, *])
 |((with_reducible refine and_go ?_);refine And.intro (by first|exact kept_refl|exact kept_last rfl|exact kept_keep (by assumption)) ?_)
 |(refine hκ.out _ _ ?_;clear hκ κ))
        have hnc : (seenL l x i j).any (clash a) = false := by
          cases hq : (seenL l x i j).any (clash a) with
          | false => rfl
          | true => exfalso; have h1 := (HCL.out.1 hq).1; have h2 := HCV.out; omega
        refine ⟨(atomsL x).length - (j + 1), by omega, j + 1, _, rfl, by omega, by simp, ((hK.new _).put hK.nobj _).put (by omega) _, by omega, HCS.out _, ?_, ?_, no_step hno2.out (by rw [hodd.out]; exact hnc)⟩
        · rw [Abs.Hid, seen_succ HA.out]; exact HST.out.1 hcc
        · rw [Abs.Hid, seen_succ HA.out]; exact cons_snoc hS.out hp2 hnc
      · have hc0 : (c == 0) = false := by simpa using hc0
        clear hcs
        repeat' (first
 |with_reducible (first|apply awp_seq|apply awp_block|(refine awp_region_k ?_;intro κ hκ)|(refine hκ.out _ _ ?_;clear hκ κ)|apply awp_skip|apply awp_exit|apply awp_ret)
 |((first|with_reducible (first|apply gd_split|apply gt_split)|((with_reducible refine cond_go ?_);refine awp_cond_split rfl ?_ ?_))<;>intro h<;>(try simp only [upd, ↓reduceIte,Nat.reduceEqDiff,B2] at h)<;>(try simp only [*,reduceCtorEq,decide_true,decide_false] at h)<;>(try (have hari:=h;simp only [B3] at hari))<;>(try (first|contradiction|(exfalso;omega)|(exfalso;simp at h;done)))<;>(try simp only [B5]))
 |(simp (maxSteps:=3000000) (disch:=(first|omega|(simp only [B1, *];omega))) only [↓mapA_nil, ↓mapA_cons,B0,B4,awant,undef,aq,al,cst,cst1,acells,flat,behind,abin,aconv,aint,thenQ,blkQ,retQ,rdo,objOf,Value.cells,Value.oneCell',Int.reduceToNat, ↓reduceIte,Nat.reduceLT,Nat.reduceEqDiff,reduceCtorEq,Nat.reduceAdd,Nat.reduceMul,Nat.reduceLeDiff,u_26,u_3,u_30,u_36,u_73,telem_26,telem_30,telem_36,telem_52,telem_73,tez_52,tfld_32_0,tfld_32_1,tfld_38_0,tfld_38_1,tsz_26,tsz_3,tsz_30,tsz_36,tsz_38,tsz_41,tzero_38,tzero_41, *])
 |((with_reducible refine and_go ?_);refine And.intro (by first|exact kept_refl|exact kept_last rfl|exact kept_keep (by assumption)) ?_)
 |(refine hκ.out _ _ ?_;clear hκ κ))
        refine awp_draw_k follows_mixed (fun _ => True) [8] [0, 1, 2, 3, 4, 5, 6, 7] [8] (by kernel_rfl) (fun _ _ _ h => h) ?_
        intro κ hκ
        simp (maxSteps:=3000000) (disch:=(first|omega|(simp only [B1, *];omega))) only [↓mapA_nil, ↓mapA_cons,B0,B4,awant,undef,aq,al,cst,cst1,acells,flat,behind,abin,aconv,aint,thenQ,blkQ,retQ,rdo,objOf,Value.cells,Value.oneCell',Int.reduceToNat, ↓reduceIte,Nat.reduceLT,Nat.reduceEqDiff,reduceCtorEq,Nat.reduceAdd,Nat.reduceMul,Nat.reduceLeDiff,u_26,u_3,u_30,u_36,u_73,telem_26,telem_30,telem_36,telem_52,telem_73,tez_52,tfld_32_0,tfld_32_1,tfld_38_0,tfld_38_1,tsz_26,tsz_3,tsz_30,tsz_36,tsz_38,tsz_41,tzero_38,tzero_41, *]
        repeat' (first
 |with_reducible (first|apply awp_seq|apply awp_block|(refine awp_region_k ?_;intro κ hκ)|(refine hκ.out _ _ ?_;clear hκ κ)|apply awp_skip|apply awp_exit|apply awp_ret)
 |((first|with_reducible (first|apply gd_split|apply gt_split)|((with_reducible refine cond_go ?_);refine awp_cond_split rfl ?_ ?_))<;>intro h<;>(try simp only [upd, ↓reduceIte,Nat.reduceEqDiff,B2] at h)<;>(try simp only [*,reduceCtorEq,decide_true,decide_false] at h)<;>(try (have hari:=h;simp only [B3] at hari))<;>(try (first|contradiction|(exfalso;omega)|(exfalso;simp at h;done)))<;>(try simp only [B5]))
 |(simp (maxSteps:=3000000) (disch:=(first|omega|(simp only [B1, *];omega))) only [↓mapA_nil, ↓mapA_cons,B0,B4,awant,undef,aq,al,cst,cst1,acells,flat,behind,abin,aconv,aint,thenQ,blkQ,retQ,rdo,objOf,Value.cells,Value.oneCell',Int.reduceToNat, ↓reduceIte,Nat.reduceLT,Nat.reduceEqDiff,reduceCtorEq,Nat.reduceAdd,Nat.reduceMul,Nat.reduceLeDiff,u_26,u_3,u_30,u_36,u_73,telem_26,telem_30,telem_36,telem_52,telem_73,tez_52,tfld_32_0,tfld_32_1,tfld_38_0,tfld_38_1,tsz_26,tsz_3,tsz_30,tsz_36,tsz_38,tsz_41,tzero_38,tzero_41, *])
 |((with_reducible refine and_go ?_);refine And.intro (by first|exact kept_refl|exact kept_last rfl|exact kept_keep (by assumption)) ?_)
 |(refine hκ.out _ _ ?_;clear hκ κ))
        · have hc2 : c ≠ 0 := by simpa using hc0
          have hc3 : c ≠ a.terms.length := by simpa using h
          have hcy := HCL.out.2 ⟨by have := HCV.out; omega, by have := HCV.out; omega⟩
          have hop : oddP l i = true := by
            unfold oddP; rw [HX.out]; dsimp only
            rw [List.any_eq_true]
            exact ⟨j, by simpa using hlt2, by rw [hodd.out]; exact hcy⟩
          exact ⟨_, rfl, by rw [firstN_hit hlt hop hno.out], (hK.new _).put hK.nobj _⟩
        · have hc2 : c ≠ 0 := by simpa using hc0
          have hc3 : c = a.terms.length := by simpa using h
          have hnc : (seenL l x i j).any (clash a) = false := by
            cases hq : (seenL l x i j).any (clash a) with
            | false => rfl
            | true => exfalso; have h1 := (HCL.out.1 hq).2; have h2 := HCV.out; omega
          refine ⟨(atomsL x).length - (j + 1), by omega, j + 1, cc, rfl, by omega, by simp, (hK.new _).put hK.nobj _, by omega, rfl, ?_, ?_, no_step hno2.out (by rw [hodd.out]; exact hnc)⟩
          · rw [Abs.Hid, seen_succ HA.out]; exact HST.out.2 hc2
          · rw [Abs.Hid, seen_succ HA.out]; exact cons_snoc hS.out hp2 hnc
    · have hjl : j = (atomsL x).length := by omega
      subst hjl
      repeat' (first
 |with_reducible (first|apply awp_seq|apply awp_block|(refine awp_region_k ?_;intro κ hκ)|(refine hκ.out _ _ ?_;clear hκ κ)|apply awp_skip|apply awp_exit|apply awp_ret)
 |((first|with_reducible (first|apply gd_split|apply gt_split)|((with_reducible refine cond_go ?_);refine awp_cond_split rfl ?_ ?_))<;>intro h<;>(try simp only [upd, ↓reduceIte,Nat.reduceEqDiff,B2] at h)<;>(try simp only [*,reduceCtorEq,decide_true,decide_false] at h)<;>(try (have hari:=h;simp only [B3] at hari))<;>(try (first|contradiction|(exfalso;omega)|(exfalso;simp at h;done)))<;>(try simp only [B5]))
 |(simp (maxSteps:=3000000) (disch:=(first|omega|(simp only [B1, *];omega))) only [↓mapA_nil, ↓mapA_cons,B0,B4,awant,undef,aq,al,cst,cst1,acells,flat,behind,abin,aconv,aint,thenQ,blkQ,retQ,rdo,objOf,Value.cells,Value.oneCell',Int.reduceToNat, ↓reduceIte,Nat.reduceLT,Nat.reduceEqDiff,reduceCtorEq,Nat.reduceAdd,Nat.reduceMul,Nat.reduceLeDiff,u_26,u_3,u_30,u_36,u_73,telem_26,telem_30,telem_36,telem_52,telem_73,tez_52,tfld_32_0,tfld_32_1,tfld_38_0,tfld_38_1,tsz_26,tsz_3,tsz_30,tsz_36,tsz_38,tsz_41,tzero_38,tzero_41, *])
 |((with_reducible refine and_go ?_);refine And.intro (by first|exact kept_refl|exact kept_last rfl|exact kept_keep (by assumption)) ?_)
 |(refine hκ.out _ _ ?_;clear hκ κ))
      have hsn : seenL l x i (atomsL x).length = priorL l (i + 1) := by rw [seen_next HX.out]; simp [seenL]
      rw [hsn] at hC hS
      refine ⟨l.length - (i + 1), by omega, i + 1, cc, rfl, by omega, by simp, rfl, hC, hS, no_step hno.out ?_⟩
      unfold oddP; rw [HX.out]; dsimp only
      rw [List.any_eq_false]
      intro b hb
      have hb2 := hno2.out b (by simpa using hb)
      simp [hb2]
  · have hil : i = l.length := by omega
    subst hil
    repeat' (first
 |with_reducible (first|apply awp_seq|apply awp_block|(refine awp_region_k ?_;intro κ hκ)|(refine hκ.out _ _ ?_;clear hκ κ)|apply awp_skip|apply awp_exit|apply awp_ret)
 |((first|with_reducible (first|apply gd_split|apply gt_split)|((with_reducible refine cond_go ?_);refine awp_cond_split rfl ?_ ?_))<;>intro h<;>(try simp only [upd, ↓reduceIte,Nat.reduceEqDiff,B2] at h)<;>(try simp only [*,reduceCtorEq,decide_true,decide_false] at h)<;>(try (have hari:=h;simp only [B3] at hari))<;>(try (first|contradiction|(exfalso;omega)|(exfalso;simp at h;done)))<;>(try simp only [B5]))
 |(simp (maxSteps:=3000000) (disch:=(first|omega|(simp only [B1, *];omega))) only [↓mapA_nil, ↓mapA_cons,B0,B4,awant,undef,aq,al,cst,cst1,acells,flat,behind,abin,aconv,aint,thenQ,blkQ,retQ,rdo,objOf,Value.cells,Value.oneCell',Int.reduceToNat, ↓reduceIte,Nat.reduceLT,Nat.reduceEqDiff,reduceCtorEq,Nat.reduceAdd,Nat.reduceMul,Nat.reduceLeDiff,u_26,u_3,u_30,u_36,u_73,telem_26,telem_30,telem_36,telem_52,telem_73,tez_52,tfld_32_0,tfld_32_1,tfld_38_0,tfld_38_1,tsz_26,tsz_3,tsz_30,tsz_36,tsz_38,tsz_41,tzero_38,tzero_41, *])
 |((with_reducible refine and_go ?_);refine And.intro (by first|exact kept_refl|exact kept_last rfl|exact kept_keep (by assumption)) ?_)
 |(refine hκ.out _ _ ?_;clear hκ κ))
    first | exact ⟨_, rfl, by rw [firstN_none hno.out], hK⟩ | exact ⟨_, rfl, by rw [firstN_none hno.out]⟩
end Go.Proofs.YtmoeoppbmhfbpaaDoorX
