import Derived.Test.YtmoeoppbmhfbpaaGreatDoorYRspD
/- The document's own answer: stands, same, within, lands. -/
namespace Go.Proofs.YtmoeoppbmhfbpaaGreatDoorY
open Go.Abs
set_option linter.unusedSimpArgs false
set_option linter.unusedVariables false
set_option maxRecDepth 100000

set_option maxHeartbeats 16000000 in
theorem stands_spec (a : RAtom) (c : List AV) (t : Tx) (hc : EAtom a c) (hn : a.terms.length ≤ 1000) (σ : St) : ACalls Tryz.prog 96 [ag c, str t] σ fun r σ' => ∃ b, r = sc (.bool b) ∧ (b = true ↔ t ∈ a.terms) ∧ Keep σ σ' := by
  obtain ⟨ia, rfl⟩ := hc
  refine acalls 20 [.tmp 4] Tryz.func96 rfl (by decide) rfl rfl (Nat.le_of_ble_eq_true rfl) ?_
  repeat' (first
 |with_reducible (first|apply awp_seq|apply awp_block|(refine awp_region_k ?_;intro κ hκ)|(refine hκ.out _ _ ?_;clear hκ κ)|apply awp_skip|apply awp_exit|apply awp_ret)
 |((first|with_reducible apply gd_split|((with_reducible refine cond_go ?_);refine awp_cond_split rfl ?_ ?_))<;>intro h<;>(try simp only [upd, ↓reduceIte,Nat.reduceEqDiff,B2] at h)<;>(try simp only [*,reduceCtorEq,decide_true,decide_false] at h)<;>(try (have hari:=h;simp only [B3] at hari))<;>(try (first|contradiction|(exfalso;omega)|(exfalso;simp at h;done)))<;>(try simp only [B5]))
 |(simp (maxSteps:=3000000) (disch:=(first|omega|(simp only [B1, *];omega))) only [↓mapA_nil, ↓mapA_cons,B0,B4,awant,undef,aq,al,cst,cst1,acells,flat,behind,abin,aconv,aint,thenQ,blkQ,retQ,Value.cells,Value.oneCell',Int.reduceToNat, ↓reduceIte,Nat.reduceLT,Nat.reduceEqDiff,reduceCtorEq,Nat.reduceAdd,Nat.reduceMul,Nat.reduceLeDiff,u_3,u_37,u_9,telem_37,tfld_143_2,tsz_37,tsz_9, *])
 |(refine hκ.out _ _ ?_;clear hκ κ))
  refine awp_loop (fun m s σ' => ∃ k : Nat, m = a.terms.length - k ∧ k ≤ a.terms.length ∧ s 1 = str t ∧ s 2 = ptr σ.nobj 0 ∧ s 5 = sc (.int .i64 k) ∧ Keep σ σ' ∧ σ.nobj < σ'.nobj ∧ σ'.obj σ.nobj = [sc (.bool a.nt), str a.pred, sl ia a.terms.length (a.terms.map str)] ∧ Abs.Hid (∀ j, j < k → a.terms[j]? ≠ some t)) a.terms.length
    ⟨0, by omega, by omega, rfl, rfl, rfl, by repeat (first | exact Keep.refl _ | assumption | (refine Keep.put ?_ (by first | omega | (simp only [new_nobj, put_nobj, lay_nobj, *]; omega)) _) | (refine Keep.new ?_ _) | (refine Keep.lay ?_ _) | (refine Keep.trans ?_ (by assumption))), by simp [new_nobj], new_same, fun j hj => by omega⟩ ?_
  rintro m s σ' ⟨k, rfl, hk, h1, h2, h5, hK, hno, hob, hN⟩
  by_cases hlt : k < a.terms.length
  · have g1 := map_str_get hlt
    have HX : Abs.Hid (a.terms[k]? = some a.terms[k]) := List.getElem?_eq_getElem hlt
    generalize a.terms[k] = u at g1 HX
    by_cases hu : u = t
    · have hub : (u == t) = true := by simp [hu]
      have HM : Abs.Hid (t ∈ a.terms) := by rw [Abs.Hid, ← hu]; exact List.mem_of_getElem? HX.out
      clear hu
      repeat' (first
 |with_reducible (first|apply awp_seq|apply awp_block|(refine awp_region_k ?_;intro κ hκ)|(refine hκ.out _ _ ?_;clear hκ κ)|apply awp_skip|apply awp_exit|apply awp_ret)
 |((first|with_reducible apply gd_split|((with_reducible refine cond_go ?_);refine awp_cond_split rfl ?_ ?_))<;>intro h<;>(try simp only [upd, ↓reduceIte,Nat.reduceEqDiff,B2] at h)<;>(try simp only [*,reduceCtorEq,decide_true,decide_false] at h)<;>(try (have hari:=h;simp only [B3] at hari))<;>(try (first|contradiction|(exfalso;omega)|(exfalso;simp at h;done)))<;>(try simp only [B5]))
 |(simp (maxSteps:=3000000) (disch:=(first|omega|(simp only [B1, *];omega))) only [↓mapA_nil, ↓mapA_cons,B0,B4,awant,undef,aq,al,cst,cst1,acells,flat,behind,abin,aconv,aint,thenQ,blkQ,retQ,Value.cells,Value.oneCell',Int.reduceToNat, ↓reduceIte,Nat.reduceLT,Nat.reduceEqDiff,reduceCtorEq,Nat.reduceAdd,Nat.reduceMul,Nat.reduceLeDiff,u_3,u_37,u_9,telem_37,tfld_143_2,tsz_37,tsz_9, *])
 |(refine hκ.out _ _ ?_;clear hκ κ))
      exact ⟨_, rfl, true, rfl, ⟨fun _ => HM.out, fun _ => rfl⟩⟩
    · have hub : (u == t) = false := by simpa using hu
      have HS : Abs.Hid (∀ j, j < k + 1 → a.terms[j]? ≠ some t) := fun j hj => by
        by_cases e : j = k
        · subst e; rw [HX.out]; simpa using hu
        · exact hN.out j (by omega)
      clear hu
      repeat' (first
 |with_reducible (first|apply awp_seq|apply awp_block|(refine awp_region_k ?_;intro κ hκ)|(refine hκ.out _ _ ?_;clear hκ κ)|apply awp_skip|apply awp_exit|apply awp_ret)
 |((first|with_reducible apply gd_split|((with_reducible refine cond_go ?_);refine awp_cond_split rfl ?_ ?_))<;>intro h<;>(try simp only [upd, ↓reduceIte,Nat.reduceEqDiff,B2] at h)<;>(try simp only [*,reduceCtorEq,decide_true,decide_false] at h)<;>(try (have hari:=h;simp only [B3] at hari))<;>(try (first|contradiction|(exfalso;omega)|(exfalso;simp at h;done)))<;>(try simp only [B5]))
 |(simp (maxSteps:=3000000) (disch:=(first|omega|(simp only [B1, *];omega))) only [↓mapA_nil, ↓mapA_cons,B0,B4,awant,undef,aq,al,cst,cst1,acells,flat,behind,abin,aconv,aint,thenQ,blkQ,retQ,Value.cells,Value.oneCell',Int.reduceToNat, ↓reduceIte,Nat.reduceLT,Nat.reduceEqDiff,reduceCtorEq,Nat.reduceAdd,Nat.reduceMul,Nat.reduceLeDiff,u_3,u_37,u_9,telem_37,tfld_143_2,tsz_37,tsz_9, *])
 |(refine hκ.out _ _ ?_;clear hκ κ))
      exact ⟨a.terms.length - (k + 1), by omega, k + 1, rfl, by omega, by simp, HS⟩
  · have hkl : k = a.terms.length := by omega
    subst hkl
    have hnm := not_mem_of hN.out
    repeat' (first
 |with_reducible (first|apply awp_seq|apply awp_block|(refine awp_region_k ?_;intro κ hκ)|(refine hκ.out _ _ ?_;clear hκ κ)|apply awp_skip|apply awp_exit|apply awp_ret)
 |((first|with_reducible apply gd_split|((with_reducible refine cond_go ?_);refine awp_cond_split rfl ?_ ?_))<;>intro h<;>(try simp only [upd, ↓reduceIte,Nat.reduceEqDiff,B2] at h)<;>(try simp only [*,reduceCtorEq,decide_true,decide_false] at h)<;>(try (have hari:=h;simp only [B3] at hari))<;>(try (first|contradiction|(exfalso;omega)|(exfalso;simp at h;done)))<;>(try simp only [B5]))
 |(simp (maxSteps:=3000000) (disch:=(first|omega|(simp only [B1, *];omega))) only [↓mapA_nil, ↓mapA_cons,B0,B4,awant,undef,aq,al,cst,cst1,acells,flat,behind,abin,aconv,aint,thenQ,blkQ,retQ,Value.cells,Value.oneCell',Int.reduceToNat, ↓reduceIte,Nat.reduceLT,Nat.reduceEqDiff,reduceCtorEq,Nat.reduceAdd,Nat.reduceMul,Nat.reduceLeDiff,u_3,u_37,u_9,telem_37,tfld_143_2,tsz_37,tsz_9, *])
 |(refine hκ.out _ _ ?_;clear hκ κ))
    exact ⟨_, rfl, false, rfl, by simp⟩
def sameP (a b : RAtom) : Prop := a.nt = b.nt ∧ a.pred = b.pred ∧ a.terms = b.terms
set_option maxHeartbeats 16000000 in
theorem same_spec (a b : RAtom) (ca cb : List AV) (ha : EAtom a ca) (hb : EAtom b cb) (hn : a.terms.length ≤ 1000) (σ : St) : ACalls Tryz.prog 186 [ag ca, ag cb] σ fun r σ' => ∃ bo, r = sc (.bool bo) ∧ (bo = true ↔ sameP a b) ∧ Keep σ σ' := by
  obtain ⟨ia, rfl⟩ := ha
  obtain ⟨ib, rfl⟩ := hb
  by_cases hnt : a.nt = b.nt
  · have hnb : (a.nt == b.nt) = true := by simp [hnt]
    by_cases hpr : a.pred = b.pred
    · have hpb : (a.pred == b.pred) = true := by simp [hpr]
      by_cases hle : a.terms.length = b.terms.length
      · have hlb : ((a.terms.length : Int) != (b.terms.length : Int)) = false := by simp [hle]
        have HS : Abs.Hid (sameP a b ↔ a.terms = b.terms) := ⟨fun h => h.2.2, fun h => ⟨hnt, hpr, h⟩⟩
        have HLE : Abs.Hid _ := hle
        generalize sameP a b = SP at HS
        clear hnt hpr hle
        refine acalls 45 [.tmp 4] Tryz.func186 rfl (by decide) rfl rfl (Nat.le_of_ble_eq_true rfl) ?_
        repeat' (first
 |with_reducible (first|apply awp_seq|apply awp_block|(refine awp_region_k ?_;intro κ hκ)|(refine hκ.out _ _ ?_;clear hκ κ)|apply awp_skip|apply awp_exit|apply awp_ret)
 |((first|with_reducible (first|apply gd_split|apply gt_split)|((with_reducible refine cond_go ?_);refine awp_cond_split rfl ?_ ?_))<;>intro h<;>(try simp only [upd, ↓reduceIte,Nat.reduceEqDiff,B2] at h)<;>(try simp only [*,reduceCtorEq,decide_true,decide_false] at h)<;>(try (have hari:=h;simp only [B3] at hari))<;>(try (first|contradiction|(exfalso;omega)|(exfalso;simp at h;done)))<;>(try simp only [B5]))
 |(simp (maxSteps:=3000000) (disch:=(first|omega|(simp only [B1, *];omega))) only [↓mapA_nil, ↓mapA_cons,B0,B4,awant,undef,aq,al,cst,cst1,acells,flat,behind,abin,aconv,aint,thenQ,blkQ,retQ,rdo,objOf,Value.cells,Value.oneCell',Int.reduceToNat, ↓reduceIte,Nat.reduceLT,Nat.reduceEqDiff,reduceCtorEq,Nat.reduceAdd,Nat.reduceMul,Nat.reduceLeDiff,u_3,u_37,u_4,u_9,telem_37,tfld_143_0,tfld_143_1,tfld_143_2,tsz_37,tsz_4,tsz_9, *])
 |((with_reducible refine and_go ?_);refine And.intro (by first|exact kept_refl|exact kept_last rfl|exact kept_keep (by assumption)) ?_)
 |(refine hκ.out _ _ ?_;clear hκ κ))
        refine awp_loop (fun m s σ' => ∃ k : Nat, m = a.terms.length - k ∧ k ≤ a.terms.length ∧ s 2 = ptr σ.nobj 0 ∧ s 3 = ptr (σ.nobj + 1) 0 ∧ s 5 = sc (.int .i64 k) ∧ Keep σ σ' ∧ σ.nobj + 1 < σ'.nobj ∧ σ'.obj σ.nobj = [sc (.bool a.nt), str a.pred, sl ia a.terms.length (a.terms.map str)] ∧ σ'.obj (σ.nobj + 1) = [sc (.bool b.nt), str b.pred, sl ib b.terms.length (b.terms.map str)] ∧ Abs.Hid (∀ j, j < k → a.terms[j]? = b.terms[j]?)) a.terms.length
          ⟨0, by omega, by omega, by simp [upd], by simp [upd], rfl, by repeat (first | exact Keep.refl _ | assumption | (refine Keep.put ?_ (by first | omega | (simp only [new_nobj, put_nobj, lay_nobj, *]; omega)) _) | (refine Keep.new ?_ _) | (refine Keep.lay ?_ _) | (refine Keep.trans ?_ (by assumption))), by simp only [new_nobj]; omega, ?_, ?_, fun j hj => by omega⟩ ?_
        · rw [new_lt (by simp only [new_nobj]; omega), new_same]
        · rw [new_at (by simp only [new_nobj]; omega) (by simp only [new_nobj]; omega)]
        rintro m s σ' ⟨k, rfl, hk, h2, h3, h5, hK, hno, ob0, ob1, hE⟩
        by_cases hlt : k < a.terms.length
        · have hlu : k < b.terms.length := by have := HLE.out; omega
          have g1 := map_str_get hlt
          have g2 := map_str_get hlu
          have HX : Abs.Hid (a.terms[k]? = some a.terms[k] ∧ b.terms[k]? = some b.terms[k]) := ⟨List.getElem?_eq_getElem hlt, List.getElem?_eq_getElem hlu⟩
          generalize a.terms[k] = t at g1 HX
          generalize b.terms[k] = u at g2 HX
          by_cases htu : t = u
          · have htb : (t == u) = true := by simp [htu]
            have HS2 : Abs.Hid (∀ j, j < k + 1 → a.terms[j]? = b.terms[j]?) := fun j hj => by
              by_cases e : j = k
              · subst e; rw [HX.out.1, HX.out.2, htu]
              · exact hE.out j (by omega)
            clear htu
            repeat' (first
 |with_reducible (first|apply awp_seq|apply awp_block|(refine awp_region_k ?_;intro κ hκ)|(refine hκ.out _ _ ?_;clear hκ κ)|apply awp_skip|apply awp_exit|apply awp_ret)
 |((first|with_reducible (first|apply gd_split|apply gt_split)|((with_reducible refine cond_go ?_);refine awp_cond_split rfl ?_ ?_))<;>intro h<;>(try simp only [upd, ↓reduceIte,Nat.reduceEqDiff,B2] at h)<;>(try simp only [*,reduceCtorEq,decide_true,decide_false] at h)<;>(try (have hari:=h;simp only [B3] at hari))<;>(try (first|contradiction|(exfalso;omega)|(exfalso;simp at h;done)))<;>(try simp only [B5]))
 |(simp (maxSteps:=3000000) (disch:=(first|omega|(simp only [B1, *];omega))) only [↓mapA_nil, ↓mapA_cons,B0,B4,awant,undef,aq,al,cst,cst1,acells,flat,behind,abin,aconv,aint,thenQ,blkQ,retQ,rdo,objOf,Value.cells,Value.oneCell',Int.reduceToNat, ↓reduceIte,Nat.reduceLT,Nat.reduceEqDiff,reduceCtorEq,Nat.reduceAdd,Nat.reduceMul,Nat.reduceLeDiff,u_3,u_37,u_4,u_9,telem_37,tfld_143_0,tfld_143_1,tfld_143_2,tsz_37,tsz_4,tsz_9, *])
 |((with_reducible refine and_go ?_);refine And.intro (by first|exact kept_refl|exact kept_last rfl|exact kept_keep (by assumption)) ?_)
 |(refine hκ.out _ _ ?_;clear hκ κ))
            refine awp_draw_k follows_mixed (fun _ => True) [] [0, 1, 2, 3, 4, 5, 6, 7, 8, 9, 10] [] (by kernel_rfl) (fun _ _ _ h => h) ?_
            intro κ hκ
            repeat' (first
 |with_reducible (first|apply awp_seq|apply awp_block|(refine awp_region_k ?_;intro κ hκ)|(refine hκ.out _ _ ?_;clear hκ κ)|apply awp_skip|apply awp_exit|apply awp_ret)
 |((first|with_reducible (first|apply gd_split|apply gt_split)|((with_reducible refine cond_go ?_);refine awp_cond_split rfl ?_ ?_))<;>intro h<;>(try simp only [upd, ↓reduceIte,Nat.reduceEqDiff,B2] at h)<;>(try simp only [*,reduceCtorEq,decide_true,decide_false] at h)<;>(try (have hari:=h;simp only [B3] at hari))<;>(try (first|contradiction|(exfalso;omega)|(exfalso;simp at h;done)))<;>(try simp only [B5]))
 |(simp (maxSteps:=3000000) (disch:=(first|omega|(simp only [B1, *];omega))) only [↓mapA_nil, ↓mapA_cons,B0,B4,awant,undef,aq,al,cst,cst1,acells,flat,behind,abin,aconv,aint,thenQ,blkQ,retQ,rdo,objOf,Value.cells,Value.oneCell',Int.reduceToNat, ↓reduceIte,Nat.reduceLT,Nat.reduceEqDiff,reduceCtorEq,Nat.reduceAdd,Nat.reduceMul,Nat.reduceLeDiff,u_3,u_37,u_4,u_9,telem_37,tfld_143_0,tfld_143_1,tfld_143_2,tsz_37,tsz_4,tsz_9, *])
 |((with_reducible refine and_go ?_);refine And.intro (by first|exact kept_refl|exact kept_last rfl|exact kept_keep (by assumption)) ?_)
 |(refine hκ.out _ _ ?_;clear hκ κ))
            exact ⟨a.terms.length - (k + 1), by omega, k + 1, rfl, by omega, by simp, HS2⟩
          · have htb : (t == u) = false := by simpa using htu
            have HF : Abs.Hid (¬ SP) := fun h => htu (by
              have h2 := HS.out.1 h
              have h3 := HX.out.1
              rw [h2, HX.out.2] at h3
              exact (Option.some.inj h3).symm)
            clear htu
            repeat' (first
 |with_reducible (first|apply awp_seq|apply awp_block|(refine awp_region_k ?_;intro κ hκ)|(refine hκ.out _ _ ?_;clear hκ κ)|apply awp_skip|apply awp_exit|apply awp_ret)
 |((first|with_reducible (first|apply gd_split|apply gt_split)|((with_reducible refine cond_go ?_);refine awp_cond_split rfl ?_ ?_))<;>intro h<;>(try simp only [upd, ↓reduceIte,Nat.reduceEqDiff,B2] at h)<;>(try simp only [*,reduceCtorEq,decide_true,decide_false] at h)<;>(try (have hari:=h;simp only [B3] at hari))<;>(try (first|contradiction|(exfalso;omega)|(exfalso;simp at h;done)))<;>(try simp only [B5]))
 |(simp (maxSteps:=3000000) (disch:=(first|omega|(simp only [B1, *];omega))) only [↓mapA_nil, ↓mapA_cons,B0,B4,awant,undef,aq,al,cst,cst1,acells,flat,behind,abin,aconv,aint,thenQ,blkQ,retQ,rdo,objOf,Value.cells,Value.oneCell',Int.reduceToNat, ↓reduceIte,Nat.reduceLT,Nat.reduceEqDiff,reduceCtorEq,Nat.reduceAdd,Nat.reduceMul,Nat.reduceLeDiff,u_3,u_37,u_4,u_9,telem_37,tfld_143_0,tfld_143_1,tfld_143_2,tsz_37,tsz_4,tsz_9, *])
 |((with_reducible refine and_go ?_);refine And.intro (by first|exact kept_refl|exact kept_last rfl|exact kept_keep (by assumption)) ?_)
 |(refine hκ.out _ _ ?_;clear hκ κ))
            refine awp_draw_k follows_mixed (fun _ => True) [] [0, 1, 2, 3, 4, 5, 6, 7, 8, 9, 10] [] (by kernel_rfl) (fun _ _ _ h => h) ?_
            intro κ hκ
            repeat' (first
 |with_reducible (first|apply awp_seq|apply awp_block|(refine awp_region_k ?_;intro κ hκ)|(refine hκ.out _ _ ?_;clear hκ κ)|apply awp_skip|apply awp_exit|apply awp_ret)
 |((first|with_reducible (first|apply gd_split|apply gt_split)|((with_reducible refine cond_go ?_);refine awp_cond_split rfl ?_ ?_))<;>intro h<;>(try simp only [upd, ↓reduceIte,Nat.reduceEqDiff,B2] at h)<;>(try simp only [*,reduceCtorEq,decide_true,decide_false] at h)<;>(try (have hari:=h;simp only [B3] at hari))<;>(try (first|contradiction|(exfalso;omega)|(exfalso;simp at h;done)))<;>(try simp only [B5]))
 |(simp (maxSteps:=3000000) (disch:=(first|omega|(simp only [B1, *];omega))) only [↓mapA_nil, ↓mapA_cons,B0,B4,awant,undef,aq,al,cst,cst1,acells,flat,behind,abin,aconv,aint,thenQ,blkQ,retQ,rdo,objOf,Value.cells,Value.oneCell',Int.reduceToNat, ↓reduceIte,Nat.reduceLT,Nat.reduceEqDiff,reduceCtorEq,Nat.reduceAdd,Nat.reduceMul,Nat.reduceLeDiff,u_3,u_37,u_4,u_9,telem_37,tfld_143_0,tfld_143_1,tfld_143_2,tsz_37,tsz_4,tsz_9, *])
 |((with_reducible refine and_go ?_);refine And.intro (by first|exact kept_refl|exact kept_last rfl|exact kept_keep (by assumption)) ?_)
 |(refine hκ.out _ _ ?_;clear hκ κ))
            exact ⟨_, rfl, false, rfl, ⟨(fun h => by cases h), fun h => absurd h HF.out⟩⟩
        · have hkl : k = a.terms.length := by omega
          subst hkl
          have HT : Abs.Hid SP := HS.out.2 (by
            apply List.ext_getElem?
            intro j
            by_cases hj : j < a.terms.length
            · exact hE.out j hj
            · rw [List.getElem?_eq_none (by omega), List.getElem?_eq_none (by have := HLE.out; omega)])
          repeat' (first
 |with_reducible (first|apply awp_seq|apply awp_block|(refine awp_region_k ?_;intro κ hκ)|(refine hκ.out _ _ ?_;clear hκ κ)|apply awp_skip|apply awp_exit|apply awp_ret)
 |((first|with_reducible (first|apply gd_split|apply gt_split)|((with_reducible refine cond_go ?_);refine awp_cond_split rfl ?_ ?_))<;>intro h<;>(try simp only [upd, ↓reduceIte,Nat.reduceEqDiff,B2] at h)<;>(try simp only [*,reduceCtorEq,decide_true,decide_false] at h)<;>(try (have hari:=h;simp only [B3] at hari))<;>(try (first|contradiction|(exfalso;omega)|(exfalso;simp at h;done)))<;>(try simp only [B5]))
 |(simp (maxSteps:=3000000) (disch:=(first|omega|(simp only [B1, *];omega))) only [↓mapA_nil, ↓mapA_cons,B0,B4,awant,undef,aq,al,cst,cst1,acells,flat,behind,abin,aconv,aint,thenQ,blkQ,retQ,rdo,objOf,Value.cells,Value.oneCell',Int.reduceToNat, ↓reduceIte,Nat.reduceLT,Nat.reduceEqDiff,reduceCtorEq,Nat.reduceAdd,Nat.reduceMul,Nat.reduceLeDiff,u_3,u_37,u_4,u_9,telem_37,tfld_143_0,tfld_143_1,tfld_143_2,tsz_37,tsz_4,tsz_9, *])
 |((with_reducible refine and_go ?_);refine And.intro (by first|exact kept_refl|exact kept_last rfl|exact kept_keep (by assumption)) ?_)
 |(refine hκ.out _ _ ?_;clear hκ κ))
          exact ⟨_, rfl, true, rfl, ⟨fun _ => HT.out, fun _ => rfl⟩⟩
      · have hlb : ((a.terms.length : Int) != (b.terms.length : Int)) = true := by simpa using (show ¬ (a.terms.length : Int) = (b.terms.length : Int) by omega)
        have HF : Abs.Hid (¬ sameP a b) := fun h => hle (by rw [h.2.2])
        generalize sameP a b = SP at HF
        clear hnt hpr hle
        refine acalls 45 [.tmp 4] Tryz.func186 rfl (by decide) rfl rfl (Nat.le_of_ble_eq_true rfl) ?_
        repeat' (first
 |with_reducible (first|apply awp_seq|apply awp_block|(refine awp_region_k ?_;intro κ hκ)|(refine hκ.out _ _ ?_;clear hκ κ)|apply awp_skip|apply awp_exit|apply awp_ret)
 |((first|with_reducible (first|apply gd_split|apply gt_split)|((with_reducible refine cond_go ?_);refine awp_cond_split rfl ?_ ?_))<;>intro h<;>(try simp only [upd, ↓reduceIte,Nat.reduceEqDiff,B2] at h)<;>(try simp only [*,reduceCtorEq,decide_true,decide_false] at h)<;>(try (have hari:=h;simp only [B3] at hari))<;>(try (first|contradiction|(exfalso;omega)|(exfalso;simp at h;done)))<;>(try simp only [B5]))
 |(simp (maxSteps:=3000000) (disch:=(first|omega|(simp only [B1, *];omega))) only [↓mapA_nil, ↓mapA_cons,B0,B4,awant,undef,aq,al,cst,cst1,acells,flat,behind,abin,aconv,aint,thenQ,blkQ,retQ,rdo,objOf,Value.cells,Value.oneCell',Int.reduceToNat, ↓reduceIte,Nat.reduceLT,Nat.reduceEqDiff,reduceCtorEq,Nat.reduceAdd,Nat.reduceMul,Nat.reduceLeDiff,u_3,u_37,u_4,u_9,telem_37,tfld_143_0,tfld_143_1,tfld_143_2,tsz_37,tsz_4,tsz_9, *])
 |((with_reducible refine and_go ?_);refine And.intro (by first|exact kept_refl|exact kept_last rfl|exact kept_keep (by assumption)) ?_)
 |(refine hκ.out _ _ ?_;clear hκ κ))
        exact ⟨_, rfl, false, rfl, ⟨(fun h => by cases h), fun h => absurd h HF.out⟩, by repeat (first | exact Keep.refl _ | assumption | (refine Keep.put ?_ (by first | omega | (simp only [new_nobj, put_nobj, lay_nobj, *]; omega)) _) | (refine Keep.new ?_ _) | (refine Keep.lay ?_ _) | (refine Keep.trans ?_ (by assumption)))⟩
    · have hpb : (a.pred == b.pred) = false := by simpa using hpr
      have HF : Abs.Hid (¬ sameP a b) := fun h => hpr h.2.1
      generalize sameP a b = SP at HF
      clear hnt hpr
      refine acalls 45 [.tmp 4] Tryz.func186 rfl (by decide) rfl rfl (Nat.le_of_ble_eq_true rfl) ?_
      repeat' (first
 |with_reducible (first|apply awp_seq|apply awp_block|(refine awp_region_k ?_;intro κ hκ)|(refine hκ.out _ _ ?_;clear hκ κ)|apply awp_skip|apply awp_exit|apply awp_ret)
 |((first|with_reducible (first|apply gd_split|apply gt_split)|((with_reducible refine cond_go ?_);refine awp_cond_split rfl ?_ ?_))<;>intro h<;>(try simp only [upd, ↓reduceIte,Nat.reduceEqDiff,B2] at h)<;>(try simp only [*,reduceCtorEq,decide_true,decide_false] at h)<;>(try (have hari:=h;simp only [B3] at hari))<;>(try (first|contradiction|(exfalso;omega)|(exfalso;simp at h;done)))<;>(try simp only [B5]))
 |(simp (maxSteps:=3000000) (disch:=(first|omega|(simp only [B1, *];omega))) only [↓mapA_nil, ↓mapA_cons,B0,B4,awant,undef,aq,al,cst,cst1,acells,flat,behind,abin,aconv,aint,thenQ,blkQ,retQ,rdo,objOf,Value.cells,Value.oneCell',Int.reduceToNat, ↓reduceIte,Nat.reduceLT,Nat.reduceEqDiff,reduceCtorEq,Nat.reduceAdd,Nat.reduceMul,Nat.reduceLeDiff,u_3,u_37,u_4,u_9,telem_37,tfld_143_0,tfld_143_1,tfld_143_2,tsz_37,tsz_4,tsz_9, *])
 |((with_reducible refine and_go ?_);refine And.intro (by first|exact kept_refl|exact kept_last rfl|exact kept_keep (by assumption)) ?_)
 |(refine hκ.out _ _ ?_;clear hκ κ))
      exact ⟨_, rfl, false, rfl, ⟨(fun h => by cases h), fun h => absurd h HF.out⟩, by repeat (first | exact Keep.refl _ | assumption | (refine Keep.put ?_ (by first | omega | (simp only [new_nobj, put_nobj, lay_nobj, *]; omega)) _) | (refine Keep.new ?_ _) | (refine Keep.lay ?_ _) | (refine Keep.trans ?_ (by assumption)))⟩
  · have hnb : (a.nt == b.nt) = false := by simpa using hnt
    have HF : Abs.Hid (¬ sameP a b) := fun h => hnt h.1
    generalize sameP a b = SP at HF
    clear hnt
    refine acalls 45 [.tmp 4] Tryz.func186 rfl (by decide) rfl rfl (Nat.le_of_ble_eq_true rfl) ?_
    repeat' (first
 |with_reducible (first|apply awp_seq|apply awp_block|(refine awp_region_k ?_;intro κ hκ)|(refine hκ.out _ _ ?_;clear hκ κ)|apply awp_skip|apply awp_exit|apply awp_ret)
 |((first|with_reducible (first|apply gd_split|apply gt_split)|((with_reducible refine cond_go ?_);refine awp_cond_split rfl ?_ ?_))<;>intro h<;>(try simp only [upd, ↓reduceIte,Nat.reduceEqDiff,B2] at h)<;>(try simp only [*,reduceCtorEq,decide_true,decide_false] at h)<;>(try (have hari:=h;simp only [B3] at hari))<;>(try (first|contradiction|(exfalso;omega)|(exfalso;simp at h;done)))<;>(try simp only [B5]))
 |(simp (maxSteps:=3000000) (disch:=(first|omega|(simp only [B1, *];omega))) only [↓mapA_nil, ↓mapA_cons,B0,B4,awant,undef,aq,al,cst,cst1,acells,flat,behind,abin,aconv,aint,thenQ,blkQ,retQ,rdo,objOf,Value.cells,Value.oneCell',Int.reduceToNat, ↓reduceIte,Nat.reduceLT,Nat.reduceEqDiff,reduceCtorEq,Nat.reduceAdd,Nat.reduceMul,Nat.reduceLeDiff,u_3,u_37,u_4,u_9,telem_37,tfld_143_0,tfld_143_1,tfld_143_2,tsz_37,tsz_4,tsz_9, *])
 |((with_reducible refine and_go ?_);refine And.intro (by first|exact kept_refl|exact kept_last rfl|exact kept_keep (by assumption)) ?_)
 |(refine hκ.out _ _ ?_;clear hκ κ))
    exact ⟨_, rfl, false, rfl, ⟨(fun h => by cases h), fun h => absurd h HF.out⟩, by repeat (first | exact Keep.refl _ | assumption | (refine Keep.put ?_ (by first | omega | (simp only [new_nobj, put_nobj, lay_nobj, *]; omega)) _) | (refine Keep.new ?_ _) | (refine Keep.lay ?_ _) | (refine Keep.trans ?_ (by assumption)))⟩
/- The document's own answer: within, lands. -/

set_option maxHeartbeats 16000000 in
theorem within_true (ls : List RAtom) (cs : List AV) (id : Nat) (a : RAtom) (ca : List AV) (hE : EL EAtom ls cs) (ha : EAtom a ca) (hl : ls.length ≤ 1000) (hn : ∀ b ∈ ls, b.terms.length ≤ 1000) (hm : ∃ b ∈ ls, sameP b a) (σ : St) : ACalls Tryz.prog 147 [sl id ls.length cs, ag ca] σ fun r σ' => r = sc (.bool true) ∧ Keep σ σ' := by
  obtain ⟨ia, rfl⟩ := ha
  have hcl := EL.length EAtom_len hE
  have hSm := fun b ib hb σ => same_spec b a [sc (.bool b.nt), str b.pred, sl ib b.terms.length (b.terms.map str)] _ ⟨ib, rfl⟩ ⟨ia, rfl⟩ (hn b hb) σ
  have HM : Abs.Hid _ := hm
  clear hm
  refine acalls 18 [.tmp 4] Tryz.func147 rfl (by decide) rfl rfl (Nat.le_of_ble_eq_true rfl) ?_
  repeat' (first
 |with_reducible (first|apply awp_seq|apply awp_block|(refine awp_region_k ?_;intro κ hκ)|(refine hκ.out _ _ ?_;clear hκ κ)|apply awp_skip|apply awp_exit|apply awp_ret)
 |((first|with_reducible (first|apply gd_split|apply gt_split)|((with_reducible refine cond_go ?_);refine awp_cond_split rfl ?_ ?_))<;>intro h<;>(try simp only [upd, ↓reduceIte,Nat.reduceEqDiff,B2] at h)<;>(try simp only [*,reduceCtorEq,decide_true,decide_false] at h)<;>(try (have hari:=h;simp only [B3] at hari))<;>(try (first|contradiction|(exfalso;omega)|(exfalso;simp at h;done)))<;>(try simp only [B5]))
 |(simp (maxSteps:=3000000) (disch:=(first|omega|(simp only [B1, *];omega))) only [↓mapA_nil, ↓mapA_cons,B0,B4,awant,undef,aq,al,cst,cst1,acells,flat,behind,abin,aconv,aint,thenQ,blkQ,retQ,rdo,objOf,Value.cells,Value.oneCell',Int.reduceToNat, ↓reduceIte,Nat.reduceLT,Nat.reduceEqDiff,reduceCtorEq,Nat.reduceAdd,Nat.reduceMul,Nat.reduceLeDiff,u_134,u_3,telem_134,tsz_143, *])
 |((with_reducible refine and_go ?_);refine And.intro (by first|exact kept_refl|exact kept_last rfl|exact kept_keep (by assumption)) ?_)
 |(refine hκ.out _ _ ?_;clear hκ κ))
  refine awp_loop (fun m s σ' => ∃ i : Nat, m = ls.length - i ∧ i ≤ ls.length ∧ s 0 = sl id ls.length cs ∧ s 3 = ptr σ.nobj 0 ∧ s 5 = sc (.int .i64 i) ∧ Keep σ σ' ∧ σ.nobj < σ'.nobj ∧ σ'.obj σ.nobj = [sc (.bool a.nt), str a.pred, sl ia a.terms.length (a.terms.map str)] ∧ Abs.Hid (∀ j, j < i → ∀ b, ls[j]? = some b → ¬ sameP b a)) ls.length
    ⟨0, by omega, by omega, rfl, rfl, rfl, by repeat (first | exact Keep.refl _ | assumption | (refine Keep.put ?_ (by first | omega | (simp only [new_nobj, put_nobj, lay_nobj, *]; omega)) _) | (refine Keep.new ?_ _) | (refine Keep.lay ?_ _) | (refine Keep.trans ?_ (by assumption))), by simp [new_nobj], new_same, fun j hj => by omega⟩ ?_
  rintro m s σ' ⟨i, rfl, hi, h0, h3, h5, hK, hno, hob, hN⟩
  have kno := hK.nobj
  by_cases hlt : i < ls.length
  · have hget := List.getElem?_eq_getElem hlt
    obtain ⟨ib, r, hd⟩ := EL_atom hE hget
    have hS := fun σ => hSm ls[i] ib (List.getElem_mem hlt) σ
    generalize ls[i] = b at hd hget hS
    have HG : Abs.Hid _ := hget
    clear hget
    generalize hsp : sameP b a = SP at hS
    have HSP : Abs.Hid _ := hsp
    clear hsp
    repeat' (first
 |with_reducible (first|apply awp_seq|apply awp_block|(refine awp_region_k ?_;intro κ hκ)|(refine hκ.out _ _ ?_;clear hκ κ)|apply awp_skip|apply awp_exit|apply awp_ret)
 |((first|with_reducible (first|apply gd_split|apply gt_split)|((with_reducible refine cond_go ?_);refine awp_cond_split rfl ?_ ?_))<;>intro h<;>(try simp only [upd, ↓reduceIte,Nat.reduceEqDiff,B2] at h)<;>(try simp only [*,reduceCtorEq,decide_true,decide_false] at h)<;>(try (have hari:=h;simp only [B3] at hari))<;>(try (first|contradiction|(exfalso;omega)|(exfalso;simp at h;done)))<;>(try simp only [B5]))
 |(simp (maxSteps:=3000000) (disch:=(first|omega|(simp only [B1, *];omega))) only [↓mapA_nil, ↓mapA_cons,B0,B4,awant,undef,aq,al,cst,cst1,acells,flat,behind,abin,aconv,aint,thenQ,blkQ,retQ,rdo,objOf,Value.cells,Value.oneCell',Int.reduceToNat, ↓reduceIte,Nat.reduceLT,Nat.reduceEqDiff,reduceCtorEq,Nat.reduceAdd,Nat.reduceMul,Nat.reduceLeDiff,u_134,u_3,telem_134,tsz_143, *])
 |((with_reducible refine and_go ?_);refine And.intro (by first|exact kept_refl|exact kept_last rfl|exact kept_keep (by assumption)) ?_)
 |(refine hκ.out _ _ ?_;clear hκ κ))
    refine awp_draw_k follows_mixed (fun _ => True) [5] [0, 1, 2, 3, 4] [5] (by kernel_rfl) (fun _ _ _ h => h) ?_
    intro κ hκ
    repeat' (first
 |with_reducible (first|apply awp_seq|apply awp_block|(refine awp_region_k ?_;intro κ hκ)|(refine hκ.out _ _ ?_;clear hκ κ)|apply awp_skip|apply awp_exit|apply awp_ret)
 |((first|with_reducible (first|apply gd_split|apply gt_split)|((with_reducible refine cond_go ?_);refine awp_cond_split rfl ?_ ?_))<;>intro h<;>(try simp only [upd, ↓reduceIte,Nat.reduceEqDiff,B2] at h)<;>(try simp only [*,reduceCtorEq,decide_true,decide_false] at h)<;>(try (have hari:=h;simp only [B3] at hari))<;>(try (first|contradiction|(exfalso;omega)|(exfalso;simp at h;done)))<;>(try simp only [B5]))
 |((with_reducible refine acalls_go ?_);refine ACalls.mono (hS _) ?_;rintro _ _ ⟨bo,rfl,hbo,hK2⟩;(have kob2:=hK2.obj;have kno2:=hK2.nobj))
 |(simp (maxSteps:=3000000) (disch:=(first|omega|(simp only [B1, *];omega))) only [↓mapA_nil, ↓mapA_cons,B0,B4,awant,undef,aq,al,cst,cst1,acells,flat,behind,abin,aconv,aint,thenQ,blkQ,retQ,rdo,objOf,Value.cells,Value.oneCell',Int.reduceToNat, ↓reduceIte,Nat.reduceLT,Nat.reduceEqDiff,reduceCtorEq,Nat.reduceAdd,Nat.reduceMul,Nat.reduceLeDiff,u_134,u_3,telem_134,tsz_143, *])
 |((with_reducible refine and_go ?_);refine And.intro (by first|exact kept_refl|exact kept_last rfl|exact kept_keep (by assumption)) ?_)
 |(refine hκ.out _ _ ?_;clear hκ κ))
    · exact ⟨_, rfl, rfl, hK.trans hK2⟩
    · refine ⟨ls.length - (i + 1), by omega, i + 1, rfl, by omega, by simp, hK.trans hK2, by omega, fun j hj c hc => ?_⟩
      by_cases e : j = i
      · subst e
        rw [HG.out] at hc
        cases hc
        rw [HSP.out]
        intro hs
        have h1 := hbo.2 hs
        have h2 : bo = false := by assumption
        rw [h2] at h1
        cases h1
      · exact hN.out j (by omega) c hc
  · exfalso
    obtain ⟨b, hb, hs⟩ := HM.out
    obtain ⟨j, hj⟩ := List.getElem?_of_mem hb
    exact hN.out j (by have := (List.getElem?_eq_some_iff.1 hj).1; omega) b hj hs
def lastF (t acc : Tx) (p : Tx × Tx) : Tx := if p.1 = t then p.2 else acc
def lastT (l : List (Tx × Tx)) (t : Tx) : Tx := l.foldl (lastF t) t
def putA (l : List (Tx × Tx)) (a : RAtom) : RAtom := { nt := a.nt, pred := a.pred, terms := a.terms.map (lastT l) }
set_option maxHeartbeats 16000000 in
theorem lands_true (x : RItem) (c : List AV) (j k : Nat) (l : List (Tx × Tx)) (id : Nat) (a : RAtom) (hc : EItem x c) (hx : x.fits) (ha : x.body[j]? = some a) (hl : l.length ≤ 1000) (hm : ∃ b ∈ x.body.eraseIdx k, sameP b (putA l a)) (σ : St) : ACalls Tryz.prog 97 [ag c, sc (.int .i64 j), sc (.int .i64 k), sl id l.length (pcells l)] σ fun r σ' => r = sc (.bool true) ∧ Keep σ σ' := by
  have hWo := fun σ => rwithout_spec x c k hc hx.1 σ
  have hjl := (List.getElem?_eq_some_iff.1 ha).1
  have hx1 := hx.1
  have hta := hx.2.2 a (List.mem_of_getElem? ha)
  have hWi := fun cs id ca hE hca σ => within_true (x.body.eraseIdx k) cs id (putA l a) ca hE hca (Nat.le_trans (List.length_eraseIdx_le _ _) hx1) (fun b hb => hx.2.2 b (List.mem_of_mem_eraseIdx hb)) hm σ
  have hpl := pcells_len l
  obtain ⟨ih, idb, b, hb, rfl⟩ := hc.cells
  unfold itemCells at hWo ⊢
  have hbl := EL.length EAtom_len hb
  obtain ⟨ia, r1, hd1⟩ := EL_atom hb ha
  clear ha hm
  refine acalls 72 [.tmp 8] Tryz.func97 rfl (by decide) rfl rfl (Nat.le_of_ble_eq_true rfl) ?_
  repeat' (first
 |with_reducible (first|apply awp_seq|apply awp_block|(refine awp_region_k ?_;intro κ hκ)|(refine hκ.out _ _ ?_;clear hκ κ)|apply awp_skip|apply awp_exit|apply awp_ret)
 |((first|with_reducible (first|apply gd_split|apply gt_split)|((with_reducible refine cond_go ?_);refine awp_cond_split rfl ?_ ?_))<;>intro h<;>(try simp only [upd, ↓reduceIte,Nat.reduceEqDiff,B2] at h)<;>(try simp only [*,reduceCtorEq,decide_true,decide_false] at h)<;>(try (have hari:=h;simp only [B3] at hari))<;>(try (first|contradiction|(exfalso;omega)|(exfalso;simp at h;done)))<;>(try simp only [B5]))
 |((with_reducible refine aapp_go ?_);refine aApp_own (by first|exact tez_37) (by assumption) (by assumption) (by decide) (by rfl) (by first|assumption|(simp;done)|(simp;omega)|omega) (by rfl) (by rfl) (by decide) (by omega) (by omega) ?_;intro idn σn hOn hKn eobj enobj ever entop)
 |((with_reducible refine aappn_go ?_);refine aApp_nil (by first|exact tez_37) (by rfl) (by decide) (by rfl) (by rfl) (by decide) (by omega) (by omega) ?_)
 |(simp (maxSteps:=3000000) (disch:=(first|omega|(simp only [B1, *];omega))) only [↓mapA_nil, ↓mapA_cons,B0,B4,awant,undef,aq,al,cst,cst1,acells,flat,behind,abin,aconv,aint,thenQ,blkQ,retQ,rdo,objOf,Value.cells,Value.oneCell',Int.reduceToNat, ↓reduceIte,Nat.reduceLT,Nat.reduceEqDiff,reduceCtorEq,Nat.reduceAdd,Nat.reduceMul,Nat.reduceLeDiff,u_150,u_3,u_37,u_9,telem_134,telem_150,telem_37,tez_37,tfld_143_0,tfld_143_1,tfld_143_2,tfld_145_2,tfld_152_0,tfld_152_1,tstr_143,tsz_134,tsz_143,tsz_145,tsz_37,tsz_4,tsz_9,tzero_143,tzero_145, *])
 |((with_reducible refine and_go ?_);refine And.intro (by first|exact kept_refl|exact kept_last rfl|exact kept_keep (by assumption)) ?_)
 |(refine hκ.out _ _ ?_;clear hκ κ))
  refine awp_loop (fun m s σ' => ∃ (q i3 : Nat), m = a.terms.length - q ∧ q ≤ a.terms.length ∧ s 2 = sc (.int .i64 k) ∧ s 3 = sl id l.length (pcells l) ∧ s 4 = ptr σ.nobj 0 ∧ s 9 = ptr (σ.nobj + 1) 0 ∧ s 10 = ptr (σ.nobj + 2) 0 ∧ s 11 = sc (.int .i64 q) ∧ Keep σ σ' ∧ σ.nobj + 2 < σ'.nobj ∧ σ'.obj σ.nobj = [sc (.bool x.out), sc (.bool x.head.nt), str x.head.pred, sl ih x.head.terms.length (x.head.terms.map str), sl idb x.body.length b] ∧ σ'.obj (σ.nobj + 1) = [sc (.bool a.nt), str a.pred, sl ia a.terms.length (a.terms.map str)] ∧ σ'.obj (σ.nobj + 2) = [sc (.bool a.nt), str a.pred, sl i3 q (((a.terms.take q).map (lastT l)).map str)] ∧ Own σ σ' i3 q) a.terms.length
    ⟨0, 1, by omega, by omega, by simp [upd, initS], by simp [upd, initS], by simp [upd], by simp [upd], by simp [upd], rfl, by repeat (first | exact Keep.refl _ | assumption | (refine Keep.put ?_ (by first | omega | (simp only [new_nobj, put_nobj, lay_nobj, *]; omega)) _) | (refine Keep.new ?_ _) | (refine Keep.lay ?_ _) | (refine Keep.trans ?_ (by assumption))), by simp only [put_nobj, new_nobj]; omega, ?_, ?_, ?_, Own.nil _ _⟩ ?_
  · rw [put_ne (by omega), new_lt (by simp only [put_nobj, new_nobj]; omega), put_ne (by omega), new_lt (by simp only [new_nobj]; omega), new_same]
  · rw [put_ne (by omega), new_lt (by simp only [put_nobj, new_nobj]; omega), put_same]
  · rw [show σ.nobj + 2 = σ.nobj + 1 + 1 by omega, put_same]; simp
  rintro m s σ' ⟨q, i3, rfl, hq, h2, h3, h4, h9, h10, h11, hK, hno, ob0, ob1, ob2, hO⟩
  have kno := hK.nobj
  by_cases hlt : q < a.terms.length
  · have g1 := map_str_get hlt
    have HX : Abs.Hid (a.terms[q]? = some a.terms[q]) := List.getElem?_eq_getElem hlt
    generalize a.terms[q] = t at g1 HX
    repeat' (first
 |with_reducible (first|apply awp_seq|apply awp_block|(refine awp_region_k ?_;intro κ hκ)|(refine hκ.out _ _ ?_;clear hκ κ)|apply awp_skip|apply awp_exit|apply awp_ret)
 |((first|with_reducible (first|apply gd_split|apply gt_split)|((with_reducible refine cond_go ?_);refine awp_cond_split rfl ?_ ?_))<;>intro h<;>(try simp only [upd, ↓reduceIte,Nat.reduceEqDiff,B2] at h)<;>(try simp only [*,reduceCtorEq,decide_true,decide_false] at h)<;>(try (have hari:=h;simp only [B3] at hari))<;>(try (first|contradiction|(exfalso;omega)|(exfalso;simp at h;done)))<;>(try simp only [B5]))
 |((with_reducible refine aapp_go ?_);refine aApp_own (by first|exact tez_37) (by assumption) (by assumption) (by decide) (by rfl) (by first|assumption|(simp;done)|(simp;omega)|omega) (by rfl) (by rfl) (by decide) (by omega) (by omega) ?_;intro idn σn hOn hKn eobj enobj ever entop)
 |((with_reducible refine aappn_go ?_);refine aApp_nil (by first|exact tez_37) (by rfl) (by decide) (by rfl) (by rfl) (by decide) (by omega) (by omega) ?_)
 |(simp (maxSteps:=3000000) (disch:=(first|omega|(simp only [B1, *];omega))) only [↓mapA_nil, ↓mapA_cons,B0,B4,awant,undef,aq,al,cst,cst1,acells,flat,behind,abin,aconv,aint,thenQ,blkQ,retQ,rdo,objOf,Value.cells,Value.oneCell',Int.reduceToNat, ↓reduceIte,Nat.reduceLT,Nat.reduceEqDiff,reduceCtorEq,Nat.reduceAdd,Nat.reduceMul,Nat.reduceLeDiff,u_150,u_3,u_37,u_9,telem_134,telem_150,telem_37,tez_37,tfld_143_0,tfld_143_1,tfld_143_2,tfld_145_2,tfld_152_0,tfld_152_1,tstr_143,tsz_134,tsz_143,tsz_145,tsz_37,tsz_4,tsz_9,tzero_143,tzero_145, *])
 |((with_reducible refine and_go ?_);refine And.intro (by first|exact kept_refl|exact kept_last rfl|exact kept_keep (by assumption)) ?_)
 |(refine hκ.out _ _ ?_;clear hκ κ))
    refine awp_loop (fun m s σ'' => ∃ (i : Nat) (tt : Tx), m = l.length - i ∧ i ≤ l.length ∧ s 2 = sc (.int .i64 k) ∧ s 3 = sl id l.length (pcells l) ∧ s 4 = ptr σ.nobj 0 ∧ s 9 = ptr (σ.nobj + 1) 0 ∧ s 10 = ptr (σ.nobj + 2) 0 ∧ s 11 = sc (.int .i64 q) ∧ s 12 = str tt ∧ s 13 = sc (.int .i64 i) ∧ σ'' = σ' ∧ Abs.Hid (tt = (l.take i).foldl (lastF t) t)) l.length
      ⟨0, t, by omega, by omega, by simp [upd, h2], by simp [upd, h3], by simp [upd, h4], by simp [upd, h9], by simp [upd, h10], by simp [upd, h11], by simp [upd], rfl, rfl, by simp [Abs.Hid]⟩ ?_
    clear h2 h3 h4 h9 h10 h11
    rintro m s σ'' ⟨i, tt, rfl, hi, h2, h3, h4, h9, h10, h11, h12, h13, hσ, hT⟩
    subst hσ
    by_cases hlt2 : i < l.length
    · have hget := List.getElem?_eq_getElem hlt2
      obtain ⟨r2, hd2⟩ := pcells_get hget
      have hst : Abs.Hid ((l.take (i + 1)).foldl (lastF t) t = lastF t tt l[i]) := by
        rw [Abs.Hid, List.take_add_one, hget, Option.toList_some, List.foldl_append, ← hT.out]; rfl
      generalize l[i] = p at hd2 hst
      obtain ⟨p1, p2⟩ := p
      dsimp only at hd2
      clear hget
      by_cases hp : p1 = t
      · have hpb : (p1 == t) = true := by simp [hp]
        have hst : Abs.Hid ((l.take (i + 1)).foldl (lastF t) t = p2) := by rw [Abs.Hid, hst.out, lastF, if_pos hp]
        clear hp
        repeat' (first
 |with_reducible (first|apply awp_seq|apply awp_block|(refine awp_region_k ?_;intro κ hκ)|(refine hκ.out _ _ ?_;clear hκ κ)|apply awp_skip|apply awp_exit|apply awp_ret)
 |((first|with_reducible (first|apply gd_split|apply gt_split)|((with_reducible refine cond_go ?_);refine awp_cond_split rfl ?_ ?_))<;>intro h<;>(try simp only [upd, ↓reduceIte,Nat.reduceEqDiff,B2] at h)<;>(try simp only [*,reduceCtorEq,decide_true,decide_false] at h)<;>(try (have hari:=h;simp only [B3] at hari))<;>(try (first|contradiction|(exfalso;omega)|(exfalso;simp at h;done)))<;>(try simp only [B5]))
 |((with_reducible refine aapp_go ?_);refine aApp_own (by first|exact tez_37) (by assumption) (by assumption) (by decide) (by rfl) (by first|assumption|(simp;done)|(simp;omega)|omega) (by rfl) (by rfl) (by decide) (by omega) (by omega) ?_;intro idn σn hOn hKn eobj enobj ever entop)
 |((with_reducible refine aappn_go ?_);refine aApp_nil (by first|exact tez_37) (by rfl) (by decide) (by rfl) (by rfl) (by decide) (by omega) (by omega) ?_)
 |(simp (maxSteps:=3000000) (disch:=(first|omega|(simp only [B1, *];omega))) only [↓mapA_nil, ↓mapA_cons,B0,B4,awant,undef,aq,al,cst,cst1,acells,flat,behind,abin,aconv,aint,thenQ,blkQ,retQ,rdo,objOf,Value.cells,Value.oneCell',Int.reduceToNat, ↓reduceIte,Nat.reduceLT,Nat.reduceEqDiff,reduceCtorEq,Nat.reduceAdd,Nat.reduceMul,Nat.reduceLeDiff,u_150,u_3,u_37,u_9,telem_134,telem_150,telem_37,tez_37,tfld_143_0,tfld_143_1,tfld_143_2,tfld_145_2,tfld_152_0,tfld_152_1,tstr_143,tsz_134,tsz_143,tsz_145,tsz_37,tsz_4,tsz_9,tzero_143,tzero_145, *])
 |((with_reducible refine and_go ?_);refine And.intro (by first|exact kept_refl|exact kept_last rfl|exact kept_keep (by assumption)) ?_)
 |(refine hκ.out _ _ ?_;clear hκ κ))
        refine awp_draw_k follows_mixed (fun _ => True) [] [0, 1, 2, 3, 4, 5, 6, 7, 8, 9, 10] [] (by kernel_rfl) (fun _ _ _ h => h) ?_
        intro κ hκ
        repeat' (first
 |with_reducible (first|apply awp_seq|apply awp_block|(refine awp_region_k ?_;intro κ hκ)|(refine hκ.out _ _ ?_;clear hκ κ)|apply awp_skip|apply awp_exit|apply awp_ret)
 |((first|with_reducible (first|apply gd_split|apply gt_split)|((with_reducible refine cond_go ?_);refine awp_cond_split rfl ?_ ?_))<;>intro h<;>(try simp only [upd, ↓reduceIte,Nat.reduceEqDiff,B2] at h)<;>(try simp only [*,reduceCtorEq,decide_true,decide_false] at h)<;>(try (have hari:=h;simp only [B3] at hari))<;>(try (first|contradiction|(exfalso;omega)|(exfalso;simp at h;done)))<;>(try simp only [B5]))
 |((with_reducible refine aapp_go ?_);refine aApp_own (by first|exact tez_37) (by assumption) (by assumption) (by decide) (by rfl) (by first|assumption|(simp;done)|(simp;omega)|omega) (by rfl) (by rfl) (by decide) (by omega) (by omega) ?_;intro idn σn hOn hKn eobj enobj ever entop)
 |((with_reducible refine aappn_go ?_);refine aApp_nil (by first|exact tez_37) (by rfl) (by decide) (by rfl) (by rfl) (by decide) (by omega) (by omega) ?_)
 |(simp (maxSteps:=3000000) (disch:=(first|omega|(simp only [B1, *];omega))) only [↓mapA_nil, ↓mapA_cons,B0,B4,awant,undef,aq,al,cst,cst1,acells,flat,behind,abin,aconv,aint,thenQ,blkQ,retQ,rdo,objOf,Value.cells,Value.oneCell',Int.reduceToNat, ↓reduceIte,Nat.reduceLT,Nat.reduceEqDiff,reduceCtorEq,Nat.reduceAdd,Nat.reduceMul,Nat.reduceLeDiff,u_150,u_3,u_37,u_9,telem_134,telem_150,telem_37,tez_37,tfld_143_0,tfld_143_1,tfld_143_2,tfld_145_2,tfld_152_0,tfld_152_1,tstr_143,tsz_134,tsz_143,tsz_145,tsz_37,tsz_4,tsz_9,tzero_143,tzero_145, *])
 |((with_reducible refine and_go ?_);refine And.intro (by first|exact kept_refl|exact kept_last rfl|exact kept_keep (by assumption)) ?_)
 |(refine hκ.out _ _ ?_;clear hκ κ))
        exact ⟨l.length - (i + 1), by omega, i + 1, p2, rfl, by omega, rfl, by simp, by rw [Abs.Hid, hst.out]⟩
      · have hpb : (p1 == t) = false := by simpa using hp
        have hst : Abs.Hid ((l.take (i + 1)).foldl (lastF t) t = tt) := by rw [Abs.Hid, hst.out, lastF, if_neg hp]
        clear hp
        repeat' (first
 |with_reducible (first|apply awp_seq|apply awp_block|(refine awp_region_k ?_;intro κ hκ)|(refine hκ.out _ _ ?_;clear hκ κ)|apply awp_skip|apply awp_exit|apply awp_ret)
 |((first|with_reducible (first|apply gd_split|apply gt_split)|((with_reducible refine cond_go ?_);refine awp_cond_split rfl ?_ ?_))<;>intro h<;>(try simp only [upd, ↓reduceIte,Nat.reduceEqDiff,B2] at h)<;>(try simp only [*,reduceCtorEq,decide_true,decide_false] at h)<;>(try (have hari:=h;simp only [B3] at hari))<;>(try (first|contradiction|(exfalso;omega)|(exfalso;simp at h;done)))<;>(try simp only [B5]))
 |((with_reducible refine aapp_go ?_);refine aApp_own (by first|exact tez_37) (by assumption) (by assumption) (by decide) (by rfl) (by first|assumption|(simp;done)|(simp;omega)|omega) (by rfl) (by rfl) (by decide) (by omega) (by omega) ?_;intro idn σn hOn hKn eobj enobj ever entop)
 |((with_reducible refine aappn_go ?_);refine aApp_nil (by first|exact tez_37) (by rfl) (by decide) (by rfl) (by rfl) (by decide) (by omega) (by omega) ?_)
 |(simp (maxSteps:=3000000) (disch:=(first|omega|(simp only [B1, *];omega))) only [↓mapA_nil, ↓mapA_cons,B0,B4,awant,undef,aq,al,cst,cst1,acells,flat,behind,abin,aconv,aint,thenQ,blkQ,retQ,rdo,objOf,Value.cells,Value.oneCell',Int.reduceToNat, ↓reduceIte,Nat.reduceLT,Nat.reduceEqDiff,reduceCtorEq,Nat.reduceAdd,Nat.reduceMul,Nat.reduceLeDiff,u_150,u_3,u_37,u_9,telem_134,telem_150,telem_37,tez_37,tfld_143_0,tfld_143_1,tfld_143_2,tfld_145_2,tfld_152_0,tfld_152_1,tstr_143,tsz_134,tsz_143,tsz_145,tsz_37,tsz_4,tsz_9,tzero_143,tzero_145, *])
 |((with_reducible refine and_go ?_);refine And.intro (by first|exact kept_refl|exact kept_last rfl|exact kept_keep (by assumption)) ?_)
 |(refine hκ.out _ _ ?_;clear hκ κ))
        refine awp_draw_k follows_mixed (fun _ => True) [] [0, 1, 2, 3, 4, 5, 6, 7, 8, 9, 10] [] (by kernel_rfl) (fun _ _ _ h => h) ?_
        intro κ hκ
        repeat' (first
 |with_reducible (first|apply awp_seq|apply awp_block|(refine awp_region_k ?_;intro κ hκ)|(refine hκ.out _ _ ?_;clear hκ κ)|apply awp_skip|apply awp_exit|apply awp_ret)
 |((first|with_reducible (first|apply gd_split|apply gt_split)|((with_reducible refine cond_go ?_);refine awp_cond_split rfl ?_ ?_))<;>intro h<;>(try simp only [upd, ↓reduceIte,Nat.reduceEqDiff,B2] at h)<;>(try simp only [*,reduceCtorEq,decide_true,decide_false] at h)<;>(try (have hari:=h;simp only [B3] at hari))<;>(try (first|contradiction|(exfalso;omega)|(exfalso;simp at h;done)))<;>(try simp only [B5]))
 |((with_reducible refine aapp_go ?_);refine aApp_own (by first|exact tez_37) (by assumption) (by assumption) (by decide) (by rfl) (by first|assumption|(simp;done)|(simp;omega)|omega) (by rfl) (by rfl) (by decide) (by omega) (by omega) ?_;intro idn σn hOn hKn eobj enobj ever entop)
 |((with_reducible refine aappn_go ?_);refine aApp_nil (by first|exact tez_37) (by rfl) (by decide) (by rfl) (by rfl) (by decide) (by omega) (by omega) ?_)
 |(simp (maxSteps:=3000000) (disch:=(first|omega|(simp only [B1, *];omega))) only [↓mapA_nil, ↓mapA_cons,B0,B4,awant,undef,aq,al,cst,cst1,acells,flat,behind,abin,aconv,aint,thenQ,blkQ,retQ,rdo,objOf,Value.cells,Value.oneCell',Int.reduceToNat, ↓reduceIte,Nat.reduceLT,Nat.reduceEqDiff,reduceCtorEq,Nat.reduceAdd,Nat.reduceMul,Nat.reduceLeDiff,u_150,u_3,u_37,u_9,telem_134,telem_150,telem_37,tez_37,tfld_143_0,tfld_143_1,tfld_143_2,tfld_145_2,tfld_152_0,tfld_152_1,tstr_143,tsz_134,tsz_143,tsz_145,tsz_37,tsz_4,tsz_9,tzero_143,tzero_145, *])
 |((with_reducible refine and_go ?_);refine And.intro (by first|exact kept_refl|exact kept_last rfl|exact kept_keep (by assumption)) ?_)
 |(refine hκ.out _ _ ?_;clear hκ κ))
        exact ⟨l.length - (i + 1), by omega, i + 1, tt, rfl, by omega, rfl, by simp, by rw [Abs.Hid, hst.out]⟩
    · have hil : i = l.length := by omega
      subst hil
      rw [List.take_length] at hT
      have hst : Abs.Hid (((a.terms.take (q + 1)).map (lastT l)).map str = ((a.terms.take q).map (lastT l)).map str ++ [str tt]) := by
        rw [Abs.Hid, List.take_add_one, HX.out, Option.toList_some, hT.out]; simp [lastT]
      have hxl : (((a.terms.take q).map (lastT l)).map str).length = q * 1 := by simp; omega
      generalize ((a.terms.take q).map (lastT l)).map str = xs at ob2 hst hxl
      repeat' (first
 |with_reducible (first|apply awp_seq|apply awp_block|(refine awp_region_k ?_;intro κ hκ)|(refine hκ.out _ _ ?_;clear hκ κ)|apply awp_skip|apply awp_exit|apply awp_ret)
 |((first|with_reducible (first|apply gd_split|apply gt_split)|((with_reducible refine cond_go ?_);refine awp_cond_split rfl ?_ ?_))<;>intro h<;>(try simp only [upd, ↓reduceIte,Nat.reduceEqDiff,B2] at h)<;>(try simp only [*,reduceCtorEq,decide_true,decide_false] at h)<;>(try (have hari:=h;simp only [B3] at hari))<;>(try (first|contradiction|(exfalso;omega)|(exfalso;simp at h;done)))<;>(try simp only [B5]))
 |((with_reducible refine aapp_go ?_);refine aApp_own (by first|exact tez_37) (by assumption) (by assumption) (by decide) (by rfl) (by first|assumption|(simp;done)|(simp;omega)|omega) (by rfl) (by rfl) (by decide) (by omega) (by omega) ?_;intro idn σn hOn hKn eobj enobj ever entop)
 |((with_reducible refine aappn_go ?_);refine aApp_nil (by first|exact tez_37) (by rfl) (by decide) (by rfl) (by rfl) (by decide) (by omega) (by omega) ?_)
 |(simp (maxSteps:=3000000) (disch:=(first|omega|(simp only [B1, *];omega))) only [↓mapA_nil, ↓mapA_cons,B0,B4,awant,undef,aq,al,cst,cst1,acells,flat,behind,abin,aconv,aint,thenQ,blkQ,retQ,rdo,objOf,Value.cells,Value.oneCell',Int.reduceToNat, ↓reduceIte,Nat.reduceLT,Nat.reduceEqDiff,reduceCtorEq,Nat.reduceAdd,Nat.reduceMul,Nat.reduceLeDiff,u_150,u_3,u_37,u_9,telem_134,telem_150,telem_37,tez_37,tfld_143_0,tfld_143_1,tfld_143_2,tfld_145_2,tfld_152_0,tfld_152_1,tstr_143,tsz_134,tsz_143,tsz_145,tsz_37,tsz_4,tsz_9,tzero_143,tzero_145, *])
 |((with_reducible refine and_go ?_);refine And.intro (by first|exact kept_refl|exact kept_last rfl|exact kept_keep (by assumption)) ?_)
 |(refine hκ.out _ _ ?_;clear hκ κ))
      exact ⟨a.terms.length - (q + 1), by omega, q + 1, idn, rfl, by omega, by simp, hKn.put (by omega) _, by rw [hst.out], Own.put hOn _ _⟩
  · have hql : q = a.terms.length := by omega
    subst hql
    rw [List.take_length] at ob2
    have hB : EAtom (putA l a) [sc (.bool a.nt), str a.pred, sl i3 a.terms.length ((a.terms.map (lastT l)).map str)] := ⟨i3, by simp [putA]⟩
    have hWi := fun cs id hE σ => hWi cs id _ hE hB σ
    generalize (a.terms.map (lastT l)).map str = xs at ob2 hB hWi
    clear hB
    repeat' (first
 |with_reducible (first|apply awp_seq|apply awp_block|(refine awp_region_k ?_;intro κ hκ)|(refine hκ.out _ _ ?_;clear hκ κ)|apply awp_skip|apply awp_exit|apply awp_ret)
 |((first|with_reducible (first|apply gd_split|apply gt_split)|((with_reducible refine cond_go ?_);refine awp_cond_split rfl ?_ ?_))<;>intro h<;>(try simp only [upd, ↓reduceIte,Nat.reduceEqDiff,B2] at h)<;>(try simp only [*,reduceCtorEq,decide_true,decide_false] at h)<;>(try (have hari:=h;simp only [B3] at hari))<;>(try (first|contradiction|(exfalso;omega)|(exfalso;simp at h;done)))<;>(try simp only [B5]))
 |((with_reducible refine aapp_go ?_);refine aApp_own (by first|exact tez_37) (by assumption) (by assumption) (by decide) (by rfl) (by first|assumption|(simp;done)|(simp;omega)|omega) (by rfl) (by rfl) (by decide) (by omega) (by omega) ?_;intro idn σn hOn hKn eobj enobj ever entop)
 |((with_reducible refine aappn_go ?_);refine aApp_nil (by first|exact tez_37) (by rfl) (by decide) (by rfl) (by rfl) (by decide) (by omega) (by omega) ?_)
 |((with_reducible refine acalls_go ?_);refine ACalls.mono (hWo _) ?_;rintro _ _ ⟨c2,rfl,hE2,hK1⟩;(have kob1:=hK1.obj;have kno1:=hK1.nobj;obtain ⟨ih2,id2,b2,hb2,rfl⟩:=hE2.cells;unfold itemCells woL;unfold woL at hb2;dsimp only at hb2 ⊢))
 |((with_reducible refine acalls_go ?_);refine ACalls.mono (hWi _ _ hb2 _) ?_;rintro _ _ ⟨rfl,hK2⟩)
 |(simp (maxSteps:=3000000) (disch:=(first|omega|(simp only [B1, *];omega))) only [↓mapA_nil, ↓mapA_cons,B0,B4,awant,undef,aq,al,cst,cst1,acells,flat,behind,abin,aconv,aint,thenQ,blkQ,retQ,rdo,objOf,Value.cells,Value.oneCell',Int.reduceToNat, ↓reduceIte,Nat.reduceLT,Nat.reduceEqDiff,reduceCtorEq,Nat.reduceAdd,Nat.reduceMul,Nat.reduceLeDiff,u_150,u_3,u_37,u_9,telem_134,telem_150,telem_37,tez_37,tfld_143_0,tfld_143_1,tfld_143_2,tfld_145_2,tfld_152_0,tfld_152_1,tstr_143,tsz_134,tsz_143,tsz_145,tsz_37,tsz_4,tsz_9,tzero_143,tzero_145, *])
 |((with_reducible refine and_go ?_);refine And.intro (by first|exact kept_refl|exact kept_last rfl|exact kept_keep (by assumption)) ?_)
 |(refine hκ.out _ _ ?_;clear hκ κ))
    exact ⟨_, rfl, rfl, by repeat (first | exact Keep.refl _ | assumption | (refine Keep.put ?_ (by first | omega | (simp only [new_nobj, put_nobj, lay_nobj, *]; omega)) _) | (refine Keep.new ?_ _) | (refine Keep.lay ?_ _) | (refine Keep.trans ?_ (by assumption)))⟩
end Go.Proofs.YtmoeoppbmhfbpaaGreatDoorY
