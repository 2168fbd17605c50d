import Derived.Test.YtmoeoppbmhfbpaaDoorXTxtG
/- Plain texts, walked: shows. -/
namespace Go.Proofs.YtmoeoppbmhfbpaaDoorX
open Go.Abs
set_option linter.unusedSimpArgs false
set_option linter.unusedVariables false
set_option maxRecDepth 100000

theorem er_add {α : Type} {ls : List α} {k n : Nat} {a : α} (h : ls[n]? = some a) (hk : n ≠ k) : (ls.take (n + 1)).eraseIdx k = (ls.take n).eraseIdx k ++ [a] := by
  have hn := (List.getElem?_eq_some_iff.1 h).1
  have hl : (ls.take n).length = n := by rw [List.length_take]; omega
  rw [List.take_add_one, h, Option.toList_some]
  by_cases hlt : k < n
  · rw [List.eraseIdx_append_of_lt_length (by omega)]
  · rw [List.eraseIdx_of_length_le (by rw [List.length_append, hl]; simp; omega), List.eraseIdx_of_length_le (by omega)]
theorem er_skip {α : Type} {ls : List α} {k : Nat} {a : α} (h : ls[k]? = some a) : (ls.take (k + 1)).eraseIdx k = (ls.take k).eraseIdx k := by
  have hn := (List.getElem?_eq_some_iff.1 h).1
  have hl : (ls.take k).length = k := by rw [List.length_take]; omega
  have e : (ls.take k).eraseIdx k = ls.take k := List.eraseIdx_of_length_le (by omega)
  rw [e, List.take_add_one, h, Option.toList_some, List.eraseIdx_append_of_length_le (by omega), hl, Nat.sub_self]
  simp
structure ShT (rule : Tx) (k : Nat) (ts : List Tx) (h : Tx) (ls : List Tx) : Prop where
  rl : rule.length ≤ 100000
  ats : atsL rule = h :: ls
  klt : k < ls.length
  few : ls.length ≤ 1000
  vr : vrsL rule = ts.length
  put : ts.length ≤ 1000 ∧ ∀ t ∈ ts, t.length ≤ 1000
  hl : h.length ≤ 100000 ∧ (tmsL h).length ≤ 100000
  bl : ∀ b ∈ ls, b ≠ [] ∧ b.length ≤ 100000 ∧ (tmsL b).length ≤ 100000
  hd : rpL ts h = h
  chd : cvB h (ls.eraseIdx k) = true
  cov : ∀ b ∈ ls.eraseIdx k, cvB b (ls.eraseIdx k) = true
  on : ∀ b ∈ ls, rpL ts b ∈ ls.eraseIdx k
set_option maxHeartbeats 64000000 in
theorem kshows_spec (rule : Tx) (k : Nat) (ts : List Tx) (idp : Nat) (hT : Tx) (ls : List Tx) (H : ShT rule k ts hT ls) (σ : St) : ACalls Tryd.prog 8 [str rule, sc (.int .i64 k), sl idp ts.length (ts.map str)] σ fun r σ' => r = sc (.bool true) ∧ Keep σ σ' := by
  obtain ⟨hrl, hats, hk, hfew, hvr, ⟨hp1, hp2⟩, ⟨hh1, hh2⟩, hbl, hhd, hchd, hcov, hon⟩ := H
  have hAt := fun σ => katoms_spec rule hrl σ
  have hVr := fun σ => kvariables_spec rule hrl σ
  have hHd := fun σ => kreplaced_spec hT ts idp hh1 hp1 hp2 σ
  have hRp := fun (w : Tx) (hw : w ∈ ls) σ => kreplaced_spec w ts idp (hbl w hw).2.1 hp1 hp2 σ
  rw [hats] at hAt
  rw [hvr] at hVr
  rw [hhd] at hHd
  generalize hAe : hT :: ls = A at hAt
  have hal1 : A.length ≤ ls.length + 1 := by rw [← hAe]; simp
  have hal2 : ls.length + 1 ≤ A.length := by rw [← hAe]; simp
  have HAI : Abs.Hid (∀ n, A[n + 1]? = ls[n]?) := fun n => by rw [← hAe]; simp
  have HA0 : Abs.Hid (A.map str = str hT :: ls.map str) := by rw [Abs.Hid, ← hAe]; rfl
  clear hAe hats hvr hhd
  have hkz : decide ((k : Int) < 0) = false := by simp
  have hkl : decide ((A.length : Int) ≤ (k : Int) + 1) = false := by simp; omega
  have hvv : ((ts.length : Int) != (ts.length : Int)) = false := by simp
  refine acalls 94 [.tmp 6] Tryd.func8 rfl (by decide) rfl rfl (Nat.le_of_ble_eq_true rfl) ?_
  repeat' (first
 |with_reducible (first|apply awp_seq|apply awp_block|(refine awp_region_k ?_;intro κ hκ)|(refine hκ.out _ _ ?_;clear hκ κ)|apply awp_skip|apply awp_exit|apply awp_ret)
 |((first|with_reducible (first|apply gd_split|apply gt_split)|((with_reducible refine cond_go ?_);refine awp_cond_split rfl ?_ ?_))<;>intro h<;>(try simp only [upd, ↓reduceIte,Nat.reduceEqDiff,B2] at h)<;>(try simp only [*,reduceCtorEq,decide_true,decide_false] at h)<;>(try (have hari:=h;simp only [B3] at hari))<;>(try (first|contradiction|(exfalso;omega)|(exfalso;simp at h;done)))<;>(try simp only [B5]))
 |((with_reducible refine aapp_go ?_);refine aApp_own (by first|exact tez_26) (by assumption) (by assumption) (by decide) (by rfl) (by first|assumption|(simp;done)|(simp;omega)|omega) (by rfl) (by rfl) (by decide) (by omega) (by omega) ?_;intro idn σn hOn hKn eobj enobj ever entop)
 |((with_reducible refine aappn_go ?_);refine aApp_nil (by first|exact tez_26) (by rfl) (by decide) (by rfl) (by rfl) (by decide) (by omega) (by omega) ?_)
 |((with_reducible refine acalls_go ?_);refine ACalls.mono (hAt _) ?_;rintro _ _ ⟨⟨ida,rfl⟩,hK1⟩;(have kno1:=hK1.nobj))
 |((with_reducible refine acalls_go ?_);refine ACalls.mono (hVr _) ?_;rintro _ _ ⟨rfl,hK2⟩;(have kno2:=hK2.nobj;have hKa:=hK1.trans hK2))
 |(simp (maxSteps:=3000000) (disch:=(first|omega|(simp only [List.length_append,B1, *];omega))) only [↓mapA_nil, ↓mapA_cons,List.length_append,B0,B4,awant,undef,aq,al,cst,cst1,acells,flat,behind,abin,aconv,aint,thenQ,blkQ,retQ,rdo,objOf,Value.cells,Value.oneCell',Int.reduceToNat, ↓reduceIte,Nat.reduceLT,Nat.reduceEqDiff,reduceCtorEq,Nat.reduceAdd,Nat.reduceMul,Nat.reduceLeDiff,u_26,u_3,u_9,telem_26,tez_26,tsz_9, *])
 |((with_reducible refine and_go ?_);refine And.intro (by first|exact kept_refl|exact kept_last rfl|exact kept_keep (by assumption)) ?_)
 |(refine hκ.out _ _ ?_;clear hκ κ))
  rename_i σ1
  refine awp_loop (fun m s σ' => ∃ (n i id : Nat) (R : List Tx), m = ls.length - n ∧ n ≤ ls.length ∧ i ≤ n + 1 ∧ n + 1 ≤ i ∧ s 1 = sc (.int .i64 k) ∧ s 2 = sl idp ts.length (ts.map str) ∧ s 7 = sl ida A.length (A.map str) ∧ s 8 = sl id R.length (R.map str) ∧ s 9 = sc (.int .i64 i) ∧ Keep σ σ' ∧ Own σ σ' id R.length ∧ R.length ≤ n ∧ Abs.Hid (R = (ls.take n).eraseIdx k)) ls.length
    ⟨0, 1, 1, [], by omega, by omega, by omega, by omega, rfl, rfl, by simp [upd], by simp [upd], by simp [upd], hKa, Own.nil _ _, by simp, by simp [Abs.Hid]⟩ ?_
  clear kno1 kno2 hK1 hK2 hKa hAt hVr
  rintro m s σ2 ⟨n, i, id, R, rfl, hn, hi1, hi2, h1, h2, h7, h8, h9, hK, hO, hRl, hR⟩
  have kno := hK.nobj
  by_cases hlt : n < ls.length
  · have hget := List.getElem?_eq_getElem hlt
    generalize ls[n] = w at hget
    have hiA : i < A.length := by omega
    have hdr := map_str_get hiA
    have hAw : A[i] = w := by
      have e := HAI.out n
      rw [hget, show n + 1 = i by omega, List.getElem?_eq_getElem hiA] at e
      exact Option.some.inj e
    rw [hAw] at hdr
    by_cases hnk : n = k
    · have hnb : ((i : Int) != (k : Int) + 1) = false := by simp; omega
      have HR : Abs.Hid (R = (ls.take (n + 1)).eraseIdx k) := by
        rw [Abs.Hid, hR.out, hnk, er_skip (by rw [← hnk]; exact hget)]
      clear hR hget hAw hnk
      repeat' (first
 |with_reducible (first|apply awp_seq|apply awp_block|(refine awp_region_k ?_;intro κ hκ)|(refine hκ.out _ _ ?_;clear hκ κ)|apply awp_skip|apply awp_exit|apply awp_ret)
 |((first|with_reducible (first|apply gd_split|apply gt_split)|((with_reducible refine cond_go ?_);refine awp_cond_split rfl ?_ ?_))<;>intro h<;>(try simp only [upd, ↓reduceIte,Nat.reduceEqDiff,B2] at h)<;>(try simp only [*,reduceCtorEq,decide_true,decide_false] at h)<;>(try (have hari:=h;simp only [B3] at hari))<;>(try (first|contradiction|(exfalso;omega)|(exfalso;simp at h;done)))<;>(try simp only [B5]))
 |((with_reducible refine aapp_go ?_);refine aApp_own (by first|exact tez_26) (by assumption) (by assumption) (by decide) (by rfl) (by first|assumption|(simp;done)|(simp;omega)|omega) (by rfl) (by rfl) (by decide) (by omega) (by omega) ?_;intro idn σn hOn hKn eobj enobj ever entop)
 |((with_reducible refine aappn_go ?_);refine aApp_nil (by first|exact tez_26) (by rfl) (by decide) (by rfl) (by rfl) (by decide) (by omega) (by omega) ?_)
 |(simp (maxSteps:=3000000) (disch:=(first|omega|(simp only [List.length_append,B1, *];omega))) only [↓mapA_nil, ↓mapA_cons,List.length_append,B0,B4,awant,undef,aq,al,cst,cst1,acells,flat,behind,abin,aconv,aint,thenQ,blkQ,retQ,rdo,objOf,Value.cells,Value.oneCell',Int.reduceToNat, ↓reduceIte,Nat.reduceLT,Nat.reduceEqDiff,reduceCtorEq,Nat.reduceAdd,Nat.reduceMul,Nat.reduceLeDiff,u_26,u_3,u_9,telem_26,tez_26,tsz_9, *])
 |((with_reducible refine and_go ?_);refine And.intro (by first|exact kept_refl|exact kept_last rfl|exact kept_keep (by assumption)) ?_)
 |(refine hκ.out _ _ ?_;clear hκ κ))
      refine ⟨ls.length - (n + 1), by omega, n + 1, i + 1, id, R, ?_⟩
      ((repeat' (with_reducible refine And.intro ?_ ?_)) <;> (first | rfl | assumption | omega | (simp only [new_nobj, put_nobj, lay_nobj]; omega) | (simp; omega) | (simp; done) | exact (HR) | ((repeat (first | exact Keep.refl _ | assumption | (refine Keep.put ?_ (by first | omega | (simp only [new_nobj, put_nobj, lay_nobj, *]; omega)) _) | (refine Keep.new ?_ _) | (refine Keep.lay ?_ _) | (refine Keep.trans ?_ (by assumption)))); done)))
    · have hnb : ((i : Int) != (k : Int) + 1) = true := by simp; omega
      have HR : Abs.Hid (R ++ [w] = (ls.take (n + 1)).eraseIdx k) := by
        rw [Abs.Hid, hR.out, er_add hget hnk]
      clear hR hget hAw hnk
      repeat' (first
 |with_reducible (first|apply awp_seq|apply awp_block|(refine awp_region_k ?_;intro κ hκ)|(refine hκ.out _ _ ?_;clear hκ κ)|apply awp_skip|apply awp_exit|apply awp_ret)
 |((first|with_reducible (first|apply gd_split|apply gt_split)|((with_reducible refine cond_go ?_);refine awp_cond_split rfl ?_ ?_))<;>intro h<;>(try simp only [upd, ↓reduceIte,Nat.reduceEqDiff,B2] at h)<;>(try simp only [*,reduceCtorEq,decide_true,decide_false] at h)<;>(try (have hari:=h;simp only [B3] at hari))<;>(try (first|contradiction|(exfalso;omega)|(exfalso;simp at h;done)))<;>(try simp only [B5]))
 |((with_reducible refine aapp_go ?_);refine aApp_own (by first|exact tez_26) (by assumption) (by assumption) (by decide) (by rfl) (by first|assumption|(simp;done)|(simp;omega)|omega) (by rfl) (by rfl) (by decide) (by omega) (by omega) ?_;intro idn σn hOn hKn eobj enobj ever entop)
 |((with_reducible refine aappn_go ?_);refine aApp_nil (by first|exact tez_26) (by rfl) (by decide) (by rfl) (by rfl) (by decide) (by omega) (by omega) ?_)
 |(simp (maxSteps:=3000000) (disch:=(first|omega|(simp only [List.length_append,B1, *];omega))) only [↓mapA_nil, ↓mapA_cons,List.length_append,B0,B4,awant,undef,aq,al,cst,cst1,acells,flat,behind,abin,aconv,aint,thenQ,blkQ,retQ,rdo,objOf,Value.cells,Value.oneCell',Int.reduceToNat, ↓reduceIte,Nat.reduceLT,Nat.reduceEqDiff,reduceCtorEq,Nat.reduceAdd,Nat.reduceMul,Nat.reduceLeDiff,u_26,u_3,u_9,telem_26,tez_26,tsz_9, *])
 |((with_reducible refine and_go ?_);refine And.intro (by first|exact kept_refl|exact kept_last rfl|exact kept_keep (by assumption)) ?_)
 |(refine hκ.out _ _ ?_;clear hκ κ))
      refine ⟨ls.length - (n + 1), by omega, n + 1, i + 1, idn, R ++ [w], ?_⟩
      ((repeat' (with_reducible refine And.intro ?_ ?_)) <;> (first | rfl | assumption | omega | (simp only [new_nobj, put_nobj, lay_nobj]; omega) | (simp; omega) | (simp; done) | exact (HR) | exact ((by simpa using hOn)) | ((repeat (first | exact Keep.refl _ | assumption | (refine Keep.put ?_ (by first | omega | (simp only [new_nobj, put_nobj, lay_nobj, *]; omega)) _) | (refine Keep.new ?_ _) | (refine Keep.lay ?_ _) | (refine Keep.trans ?_ (by assumption)))); done)))
  · have hnl : n = ls.length := by omega
    subst hnl
    rw [List.take_length] at hR
    have hR' := hR.out
    rw [← hR'] at hchd hcov hon
    have hbR : ∀ b ∈ R, b ≠ [] ∧ b.length ≤ 100000 ∧ (tmsL b).length ≤ 100000 := fun b hb => hbl b (List.mem_of_mem_eraseIdx (by rw [← hR']; exact hb))
    have hR1 : R.length ≤ 1000 := by omega
    have hCv := fun σ => kcovered_spec hT R id hh1 hR1 hh2 hbR σ
    rw [hchd] at hCv
    have hAm := fun (w : Tx) (hw : w ∈ ls) σ => kamong_spec R id (rpL ts w) (by omega) σ
    have hCr := fun (b : Tx) (hb : b ∈ R) σ => kcovered_spec b R id (hbR b hb).2.1 hR1 (hbR b hb).2.2 hbR σ
    clear hR hR' hchd
    have hhb : (hT == hT) = true := by simp
    have hhn : (hT != hT) = false := by simp
    rw [HA0.out] at h7
    clear hlt
    repeat' (first
 |with_reducible (first|apply awp_seq|apply awp_block|(refine awp_region_k ?_;intro κ hκ)|(refine hκ.out _ _ ?_;clear hκ κ)|apply awp_skip|apply awp_exit|apply awp_ret)
 |((first|with_reducible (first|apply gd_split|apply gt_split)|((with_reducible refine cond_go ?_);refine awp_cond_split rfl ?_ ?_))<;>intro h<;>(try simp only [upd, ↓reduceIte,Nat.reduceEqDiff,B2] at h)<;>(try simp only [*,reduceCtorEq,decide_true,decide_false] at h)<;>(try (have hari:=h;simp only [B3] at hari))<;>(try (first|contradiction|(exfalso;omega)|(exfalso;simp at h;done)))<;>(try simp only [B5]))
 |((with_reducible refine aapp_go ?_);refine aApp_own (by first|exact tez_26) (by assumption) (by assumption) (by decide) (by rfl) (by first|assumption|(simp;done)|(simp;omega)|omega) (by rfl) (by rfl) (by decide) (by omega) (by omega) ?_;intro idn σn hOn hKn eobj enobj ever entop)
 |((with_reducible refine aappn_go ?_);refine aApp_nil (by first|exact tez_26) (by rfl) (by decide) (by rfl) (by rfl) (by decide) (by omega) (by omega) ?_)
 |(simp (maxSteps:=3000000) (disch:=(first|omega|(simp only [List.length_append,B1, *];omega))) only [↓mapA_nil, ↓mapA_cons,List.length_append,B0,B4,awant,undef,aq,al,cst,cst1,acells,flat,behind,abin,aconv,aint,thenQ,blkQ,retQ,rdo,objOf,Value.cells,Value.oneCell',Int.reduceToNat, ↓reduceIte,Nat.reduceLT,Nat.reduceEqDiff,reduceCtorEq,Nat.reduceAdd,Nat.reduceMul,Nat.reduceLeDiff,u_26,u_3,u_9,telem_26,tez_26,tsz_9, *])
 |((with_reducible refine and_go ?_);refine And.intro (by first|exact kept_refl|exact kept_last rfl|exact kept_keep (by assumption)) ?_)
 |(refine hκ.out _ _ ?_;clear hκ κ))
    refine awp_mono (Q := fun e s' σ'' => e = .normal ∧ s' 64 = sc (.bool false) ∧ s' 2 = s 2 ∧ s' 7 = s 7 ∧ s' 8 = s 8 ∧ Keep σ2 σ'') ?_ ?_
    · refine awp_draw_h follows_mixed (fun _ => True) [] [0, 1, 2, 3, 5, 6, 7] 10 #[true, true, true, true, false, true, true, true, false, false, false, false, false, false, false, false, false] (by kernel_rfl) (fun _ _ _ h => by cases h.1) ?_; intro κ hκ; simp (maxSteps:=3000000) (disch:=(first|omega|(simp only [List.length_append,B1, *];omega))) only [↓mapA_nil, ↓mapA_cons,List.length_append,B0,B4,awant,undef,aq,al,cst,cst1,acells,flat,behind,abin,aconv,aint,thenQ,blkQ,retQ,rdo,objOf,Value.cells,Value.oneCell',Int.reduceToNat, ↓reduceIte,Nat.reduceLT,Nat.reduceEqDiff,reduceCtorEq,Nat.reduceAdd,Nat.reduceMul,Nat.reduceLeDiff,u_26,u_3,u_9,telem_26,tez_26,tsz_9, *]; refine hκ.out _ ?_; clear hκ κ
      refine uany_one (i := 4) (by kernel_rfl) ?_; refine aOne_k ?_; intro κ hκ; simp (maxSteps:=3000000) (disch:=(first|omega|(simp only [List.length_append,B1, *];omega))) only [↓mapA_nil, ↓mapA_cons,List.length_append,B0,B4,awant,undef,aq,al,cst,cst1,acells,flat,behind,abin,aconv,aint,thenQ,blkQ,retQ,rdo,objOf,Value.cells,Value.oneCell',Int.reduceToNat, ↓reduceIte,Nat.reduceLT,Nat.reduceEqDiff,reduceCtorEq,Nat.reduceAdd,Nat.reduceMul,Nat.reduceLeDiff,u_26,u_3,u_9,telem_26,tez_26,tsz_9, *]
      refine ACalls.mono (hHd _) ?_
      rintro _ σ5 ⟨rfl, hK5⟩
      simp (maxSteps:=3000000) (disch:=(first|omega|(simp only [List.length_append,B1, *];omega))) only [↓mapA_nil, ↓mapA_cons,List.length_append,B0,B4,awant,undef,aq,al,cst,cst1,acells,flat,behind,abin,aconv,aint,thenQ,blkQ,retQ,rdo,objOf,Value.cells,Value.oneCell',Int.reduceToNat, ↓reduceIte,Nat.reduceLT,Nat.reduceEqDiff,reduceCtorEq,Nat.reduceAdd,Nat.reduceMul,Nat.reduceLeDiff,u_26,u_3,u_9,telem_26,tez_26,tsz_9, *]
      refine hκ.out _ _ ⟨kept_keep hK5, ?_⟩; clear hκ κ
      refine uany_more [8, 9, 10, 11, 12, 13] 3 9 #[true, true, true, true, true, true, true, true, true, true, true, true, true, true, false, false, false] rfl (by kernel_rfl) (by kernel_rfl) (fun _ _ _ h => by cases h.1) (hK5).nobj (fun o ho _ => (hK5).ver o ho) ?_; intro κ hκ; simp (maxSteps:=3000000) (disch:=(first|omega|(simp only [List.length_append,B1, *];omega))) only [↓mapA_nil, ↓mapA_cons,List.length_append,B0,B4,awant,undef,aq,al,cst,cst1,acells,flat,behind,abin,aconv,aint,thenQ,blkQ,retQ,rdo,objOf,Value.cells,Value.oneCell',Int.reduceToNat, ↓reduceIte,Nat.reduceLT,Nat.reduceEqDiff,reduceCtorEq,Nat.reduceAdd,Nat.reduceMul,Nat.reduceLeDiff,u_26,u_3,u_9,telem_26,tez_26,tsz_9, *]; refine hκ.out _ ?_; clear hκ κ
      refine uany_one (i := 14) (by kernel_rfl) ?_; refine aOne_k ?_; intro κ hκ; simp (maxSteps:=3000000) (disch:=(first|omega|(simp only [List.length_append,B1, *];omega))) only [↓mapA_nil, ↓mapA_cons,List.length_append,B0,B4,awant,undef,aq,al,cst,cst1,acells,flat,behind,abin,aconv,aint,thenQ,blkQ,retQ,rdo,objOf,Value.cells,Value.oneCell',Int.reduceToNat, ↓reduceIte,Nat.reduceLT,Nat.reduceEqDiff,reduceCtorEq,Nat.reduceAdd,Nat.reduceMul,Nat.reduceLeDiff,u_26,u_3,u_9,telem_26,tez_26,tsz_9, *]
      refine ACalls.mono (hCv _) ?_
      rintro _ σ6 ⟨rfl, hK6⟩
      simp (maxSteps:=3000000) (disch:=(first|omega|(simp only [List.length_append,B1, *];omega))) only [↓mapA_nil, ↓mapA_cons,List.length_append,B0,B4,awant,undef,aq,al,cst,cst1,acells,flat,behind,abin,aconv,aint,thenQ,blkQ,retQ,rdo,objOf,Value.cells,Value.oneCell',Int.reduceToNat, ↓reduceIte,Nat.reduceLT,Nat.reduceEqDiff,reduceCtorEq,Nat.reduceAdd,Nat.reduceMul,Nat.reduceLeDiff,u_26,u_3,u_9,telem_26,tez_26,tsz_9, *]
      refine hκ.out _ _ ⟨kept_keep hK6, ?_⟩; clear hκ κ
      refine uany_rest [15, 16] (by kernel_rfl) (by kernel_rfl) (fun _ _ _ h => by cases h.1) hK6.nobj (fun o ho _ => hK6.ver o ho) ?_
      intro κ hκ
      simp (maxSteps:=3000000) (disch:=(first|omega|(simp only [List.length_append,B1, *];omega))) only [↓mapA_nil, ↓mapA_cons,List.length_append,B0,B4,awant,undef,aq,al,cst,cst1,acells,flat,behind,abin,aconv,aint,thenQ,blkQ,retQ,rdo,objOf,Value.cells,Value.oneCell',Int.reduceToNat, ↓reduceIte,Nat.reduceLT,Nat.reduceEqDiff,reduceCtorEq,Nat.reduceAdd,Nat.reduceMul,Nat.reduceLeDiff,u_26,u_3,u_9,telem_26,tez_26,tsz_9, *]
      refine hκ.out _ _ ⟨rfl, ?_⟩
      simp [upd, hK5.trans hK6]
    · rintro e s' σ'' ⟨rfl, g64, g2, g7, g8, hK6⟩
      rw [h2] at g2
      rw [h7, ← HA0.out] at g7
      rw [h8] at g8
      have hKz := hK.trans hK6
      clear h1 h2 h7 h8 h9 hK hK6 kno hO
      refine awp_cond_f g64 ?_
      repeat' (first
 |with_reducible (first|apply awp_seq|apply awp_block|(refine awp_region_k ?_;intro κ hκ)|(refine hκ.out _ _ ?_;clear hκ κ)|apply awp_skip|apply awp_exit|apply awp_ret)
 |((first|with_reducible (first|apply gd_split|apply gt_split)|((with_reducible refine cond_go ?_);refine awp_cond_split rfl ?_ ?_))<;>intro h<;>(try simp only [upd, ↓reduceIte,Nat.reduceEqDiff,B2] at h)<;>(try simp only [*,reduceCtorEq,decide_true,decide_false] at h)<;>(try (have hari:=h;simp only [B3] at hari))<;>(try (first|contradiction|(exfalso;omega)|(exfalso;simp at h;done)))<;>(try simp only [B5]))
 |((with_reducible refine aapp_go ?_);refine aApp_own (by first|exact tez_26) (by assumption) (by assumption) (by decide) (by rfl) (by first|assumption|(simp;done)|(simp;omega)|omega) (by rfl) (by rfl) (by decide) (by omega) (by omega) ?_;intro idn σn hOn hKn eobj enobj ever entop)
 |((with_reducible refine aappn_go ?_);refine aApp_nil (by first|exact tez_26) (by rfl) (by decide) (by rfl) (by rfl) (by decide) (by omega) (by omega) ?_)
 |(simp (maxSteps:=3000000) (disch:=(first|omega|(simp only [List.length_append,B1, *];omega))) only [↓mapA_nil, ↓mapA_cons,List.length_append,B0,B4,awant,undef,aq,al,cst,cst1,acells,flat,behind,abin,aconv,aint,thenQ,blkQ,retQ,rdo,objOf,Value.cells,Value.oneCell',Int.reduceToNat, ↓reduceIte,Nat.reduceLT,Nat.reduceEqDiff,reduceCtorEq,Nat.reduceAdd,Nat.reduceMul,Nat.reduceLeDiff,u_26,u_3,u_9,telem_26,tez_26,tsz_9, *])
 |((with_reducible refine and_go ?_);refine And.intro (by first|exact kept_refl|exact kept_last rfl|exact kept_keep (by assumption)) ?_)
 |(refine hκ.out _ _ ?_;clear hκ κ))
      refine awp_loop (fun m s σ' => ∃ (n i : Nat), m = ls.length - n ∧ n ≤ ls.length ∧ i ≤ n + 1 ∧ n + 1 ≤ i ∧ s 2 = sl idp ts.length (ts.map str) ∧ s 7 = sl ida A.length (A.map str) ∧ s 8 = sl id R.length (R.map str) ∧ s 10 = sc (.int .i64 i) ∧ Keep σ σ') ls.length
        ⟨0, 1, by omega, by omega, by omega, by omega, by simp [upd, *], by simp [upd, *], by simp [upd, *], by simp [upd], hKz⟩ ?_
      clear g2 g7 g8 g64 hKz hHd hCv hi1 hi2
      rintro m s σ3 ⟨n, i, rfl, hn, hi1, hi2, h2, h7, h8, h10, hK⟩
      have kno := hK.nobj
      by_cases hlt : n < ls.length
      · have hget := List.getElem?_eq_getElem hlt
        have hmem := List.getElem_mem hlt
        generalize ls[n] = w at hget hmem
        have hiA : i < A.length := by omega
        have hdr := map_str_get hiA
        have hAw : A[i] = w := by
          have e := HAI.out n
          rw [hget, show n + 1 = i by omega, List.getElem?_eq_getElem hiA] at e
          exact Option.some.inj e
        rw [hAw] at hdr
        have hRp := hRp w hmem
        have hAm := hAm w hmem
        rw [show decide (rpL ts w ∈ R) = true from by simpa using hon w hmem] at hAm
        generalize rpL ts w = rw0 at hRp hAm
        clear hget hAw hmem hon hCr hcov
        repeat' (first
 |with_reducible (first|apply awp_seq|apply awp_block|(refine awp_region_k ?_;intro κ hκ)|(refine hκ.out _ _ ?_;clear hκ κ)|apply awp_skip|apply awp_exit|apply awp_ret)
 |((first|with_reducible (first|apply gd_split|apply gt_split)|((with_reducible refine cond_go ?_);refine awp_cond_split rfl ?_ ?_))<;>intro h<;>(try simp only [upd, ↓reduceIte,Nat.reduceEqDiff,B2] at h)<;>(try simp only [*,reduceCtorEq,decide_true,decide_false] at h)<;>(try (have hari:=h;simp only [B3] at hari))<;>(try (first|contradiction|(exfalso;omega)|(exfalso;simp at h;done)))<;>(try simp only [B5]))
 |((with_reducible refine aapp_go ?_);refine aApp_own (by first|exact tez_26) (by assumption) (by assumption) (by decide) (by rfl) (by first|assumption|(simp;done)|(simp;omega)|omega) (by rfl) (by rfl) (by decide) (by omega) (by omega) ?_;intro idn σn hOn hKn eobj enobj ever entop)
 |((with_reducible refine aappn_go ?_);refine aApp_nil (by first|exact tez_26) (by rfl) (by decide) (by rfl) (by rfl) (by decide) (by omega) (by omega) ?_)
 |((with_reducible refine acalls_go ?_);refine ACalls.mono (hRp _) ?_;rintro _ _ ⟨rfl,hK4⟩;(have kno4:=hK4.nobj;have hKy:=hK.trans hK4))
 |((with_reducible refine acalls_go ?_);refine ACalls.mono (hAm _) ?_;rintro _ _ ⟨rfl,rfl⟩)
 |(simp (maxSteps:=3000000) (disch:=(first|omega|(simp only [List.length_append,B1, *];omega))) only [↓mapA_nil, ↓mapA_cons,List.length_append,B0,B4,awant,undef,aq,al,cst,cst1,acells,flat,behind,abin,aconv,aint,thenQ,blkQ,retQ,rdo,objOf,Value.cells,Value.oneCell',Int.reduceToNat, ↓reduceIte,Nat.reduceLT,Nat.reduceEqDiff,reduceCtorEq,Nat.reduceAdd,Nat.reduceMul,Nat.reduceLeDiff,u_26,u_3,u_9,telem_26,tez_26,tsz_9, *])
 |((with_reducible refine and_go ?_);refine And.intro (by first|exact kept_refl|exact kept_last rfl|exact kept_keep (by assumption)) ?_)
 |(refine hκ.out _ _ ?_;clear hκ κ))
        refine ⟨ls.length - (n + 1), by omega, n + 1, i + 1, ?_⟩
        ((repeat' (with_reducible refine And.intro ?_ ?_)) <;> (first | rfl | assumption | omega | (simp only [new_nobj, put_nobj, lay_nobj]; omega) | (simp; omega) | (simp; done) | exact (hKy) | ((repeat (first | exact Keep.refl _ | assumption | (refine Keep.put ?_ (by first | omega | (simp only [new_nobj, put_nobj, lay_nobj, *]; omega)) _) | (refine Keep.new ?_ _) | (refine Keep.lay ?_ _) | (refine Keep.trans ?_ (by assumption)))); done)))
      · clear hRp hAm hon
        repeat' (first
 |with_reducible (first|apply awp_seq|apply awp_block|(refine awp_region_k ?_;intro κ hκ)|(refine hκ.out _ _ ?_;clear hκ κ)|apply awp_skip|apply awp_exit|apply awp_ret)
 |((first|with_reducible (first|apply gd_split|apply gt_split)|((with_reducible refine cond_go ?_);refine awp_cond_split rfl ?_ ?_))<;>intro h<;>(try simp only [upd, ↓reduceIte,Nat.reduceEqDiff,B2] at h)<;>(try simp only [*,reduceCtorEq,decide_true,decide_false] at h)<;>(try (have hari:=h;simp only [B3] at hari))<;>(try (first|contradiction|(exfalso;omega)|(exfalso;simp at h;done)))<;>(try simp only [B5]))
 |((with_reducible refine aapp_go ?_);refine aApp_own (by first|exact tez_26) (by assumption) (by assumption) (by decide) (by rfl) (by first|assumption|(simp;done)|(simp;omega)|omega) (by rfl) (by rfl) (by decide) (by omega) (by omega) ?_;intro idn σn hOn hKn eobj enobj ever entop)
 |((with_reducible refine aappn_go ?_);refine aApp_nil (by first|exact tez_26) (by rfl) (by decide) (by rfl) (by rfl) (by decide) (by omega) (by omega) ?_)
 |(simp (maxSteps:=3000000) (disch:=(first|omega|(simp only [List.length_append,B1, *];omega))) only [↓mapA_nil, ↓mapA_cons,List.length_append,B0,B4,awant,undef,aq,al,cst,cst1,acells,flat,behind,abin,aconv,aint,thenQ,blkQ,retQ,rdo,objOf,Value.cells,Value.oneCell',Int.reduceToNat, ↓reduceIte,Nat.reduceLT,Nat.reduceEqDiff,reduceCtorEq,Nat.reduceAdd,Nat.reduceMul,Nat.reduceLeDiff,u_26,u_3,u_9,telem_26,tez_26,tsz_9, *])
 |((with_reducible refine and_go ?_);refine And.intro (by first|exact kept_refl|exact kept_last rfl|exact kept_keep (by assumption)) ?_)
 |(refine hκ.out _ _ ?_;clear hκ κ))
        refine awp_loop (fun m s σ' => ∃ (n : Nat), m = R.length - n ∧ n ≤ R.length ∧ s 8 = sl id R.length (R.map str) ∧ s 11 = sc (.int .i64 n) ∧ Keep σ σ') R.length
          ⟨0, by omega, by omega, by simp [upd, *], by simp [upd], hK⟩ ?_
        clear h2 h7 h8 h10 hK kno hi1 hi2 hlt hn
        rintro m s σ4 ⟨n, rfl, hn, h8, h11, hK⟩
        have kno := hK.nobj
        by_cases hlt : n < R.length
        · have hdr := map_str_get hlt
          have hmem := List.getElem_mem hlt
          generalize R[n] = b at hdr hmem
          have hCr := hCr b hmem
          rw [hcov b hmem] at hCr
          clear hcov hmem
          repeat' (first
 |with_reducible (first|apply awp_seq|apply awp_block|(refine awp_region_k ?_;intro κ hκ)|(refine hκ.out _ _ ?_;clear hκ κ)|apply awp_skip|apply awp_exit|apply awp_ret)
 |((first|with_reducible (first|apply gd_split|apply gt_split)|((with_reducible refine cond_go ?_);refine awp_cond_split rfl ?_ ?_))<;>intro h<;>(try simp only [upd, ↓reduceIte,Nat.reduceEqDiff,B2] at h)<;>(try simp only [*,reduceCtorEq,decide_true,decide_false] at h)<;>(try (have hari:=h;simp only [B3] at hari))<;>(try (first|contradiction|(exfalso;omega)|(exfalso;simp at h;done)))<;>(try simp only [B5]))
 |((with_reducible refine aapp_go ?_);refine aApp_own (by first|exact tez_26) (by assumption) (by assumption) (by decide) (by rfl) (by first|assumption|(simp;done)|(simp;omega)|omega) (by rfl) (by rfl) (by decide) (by omega) (by omega) ?_;intro idn σn hOn hKn eobj enobj ever entop)
 |((with_reducible refine aappn_go ?_);refine aApp_nil (by first|exact tez_26) (by rfl) (by decide) (by rfl) (by rfl) (by decide) (by omega) (by omega) ?_)
 |((with_reducible refine acalls_go ?_);refine ACalls.mono (hCr _) ?_;rintro _ _ ⟨rfl,hK4⟩;(have kno4:=hK4.nobj;have hKy:=hK.trans hK4))
 |(simp (maxSteps:=3000000) (disch:=(first|omega|(simp only [List.length_append,B1, *];omega))) only [↓mapA_nil, ↓mapA_cons,List.length_append,B0,B4,awant,undef,aq,al,cst,cst1,acells,flat,behind,abin,aconv,aint,thenQ,blkQ,retQ,rdo,objOf,Value.cells,Value.oneCell',Int.reduceToNat, ↓reduceIte,Nat.reduceLT,Nat.reduceEqDiff,reduceCtorEq,Nat.reduceAdd,Nat.reduceMul,Nat.reduceLeDiff,u_26,u_3,u_9,telem_26,tez_26,tsz_9, *])
 |((with_reducible refine and_go ?_);refine And.intro (by first|exact kept_refl|exact kept_last rfl|exact kept_keep (by assumption)) ?_)
 |(refine hκ.out _ _ ?_;clear hκ κ))
          refine ⟨R.length - (n + 1), by omega, n + 1, ?_⟩
          ((repeat' (with_reducible refine And.intro ?_ ?_)) <;> (first | rfl | assumption | omega | (simp only [new_nobj, put_nobj, lay_nobj]; omega) | (simp; omega) | (simp; done) | exact (hKy) | ((repeat (first | exact Keep.refl _ | assumption | (refine Keep.put ?_ (by first | omega | (simp only [new_nobj, put_nobj, lay_nobj, *]; omega)) _) | (refine Keep.new ?_ _) | (refine Keep.lay ?_ _) | (refine Keep.trans ?_ (by assumption)))); done)))
        · clear hCr hcov
          repeat' (first
 |with_reducible (first|apply awp_seq|apply awp_block|(refine awp_region_k ?_;intro κ hκ)|(refine hκ.out _ _ ?_;clear hκ κ)|apply awp_skip|apply awp_exit|apply awp_ret)
 |((first|with_reducible (first|apply gd_split|apply gt_split)|((with_reducible refine cond_go ?_);refine awp_cond_split rfl ?_ ?_))<;>intro h<;>(try simp only [upd, ↓reduceIte,Nat.reduceEqDiff,B2] at h)<;>(try simp only [*,reduceCtorEq,decide_true,decide_false] at h)<;>(try (have hari:=h;simp only [B3] at hari))<;>(try (first|contradiction|(exfalso;omega)|(exfalso;simp at h;done)))<;>(try simp only [B5]))
 |((with_reducible refine aapp_go ?_);refine aApp_own (by first|exact tez_26) (by assumption) (by assumption) (by decide) (by rfl) (by first|assumption|(simp;done)|(simp;omega)|omega) (by rfl) (by rfl) (by decide) (by omega) (by omega) ?_;intro idn σn hOn hKn eobj enobj ever entop)
 |((with_reducible refine aappn_go ?_);refine aApp_nil (by first|exact tez_26) (by rfl) (by decide) (by rfl) (by rfl) (by decide) (by omega) (by omega) ?_)
 |(simp (maxSteps:=3000000) (disch:=(first|omega|(simp only [List.length_append,B1, *];omega))) only [↓mapA_nil, ↓mapA_cons,List.length_append,B0,B4,awant,undef,aq,al,cst,cst1,acells,flat,behind,abin,aconv,aint,thenQ,blkQ,retQ,rdo,objOf,Value.cells,Value.oneCell',Int.reduceToNat, ↓reduceIte,Nat.reduceLT,Nat.reduceEqDiff,reduceCtorEq,Nat.reduceAdd,Nat.reduceMul,Nat.reduceLeDiff,u_26,u_3,u_9,telem_26,tez_26,tsz_9, *])
 |((with_reducible refine and_go ?_);refine And.intro (by first|exact kept_refl|exact kept_last rfl|exact kept_keep (by assumption)) ?_)
 |(refine hκ.out _ _ ?_;clear hκ κ))
          first | exact ⟨_, rfl, rfl, hK⟩ | exact ⟨_, rfl, hK⟩ | exact ⟨_, rfl, rfl⟩ | exact ⟨_, rfl⟩
end Go.Proofs.YtmoeoppbmhfbpaaDoorX
