import Derived.Test.YtmoeoppbmhfbpaaDoorXTxtA
/- Plain texts, walked: pieces, among, count, atoms. -/
namespace Go.Proofs.YtmoeoppbmhfbpaaDoorX
open Go.Abs
set_option linter.unusedSimpArgs false
set_option linter.unusedVariables false
set_option maxRecDepth 100000

theorem byte_is {b c : UInt8} : ((b.toNat : Int) == (c.toNat : Int)) = decide (b = c) := by
  by_cases h : b = c
  · subst h; simp
  · rw [decide_eq_false h]
    have : b.toNat ≠ c.toNat := fun e => h (UInt8.toNat_inj.1 e)
    simpa using (by omega : ¬ (b.toNat : Int) = c.toNat)
theorem fold_take {α : Type} {f : α → UInt8 → α} {a : α} {t : Tx} {i : Nat} {c : UInt8} (h : t[i]? = some c) : (t.take (i + 1)).foldl f a = f ((t.take i).foldl f a) c := by
  rw [List.take_add_one, h, Option.toList_some, List.foldl_append]; rfl
theorem cur_step {t : Tx} {f i : Nat} {c : UInt8} (hf : f ≤ i) (h : t[i]? = some c) : (t.drop f).take (i + 1 - f) = (t.drop f).take (i - f) ++ [c] := by
  rw [show i + 1 - f = (i - f) + 1 by omega, List.take_add_one, List.getElem?_drop, show f + (i - f) = i by omega, h]
  rfl
theorem cur_nil (t : Tx) (i : Nat) : (t.drop i).take (i - i) = [] := by simp
set_option maxHeartbeats 8000000 in
theorem kpieces_spec (t : Tx) (ht : t.length ≤ 100000) (σ : St) : ACalls Tryd.prog 6 [str t] σ fun r σ' => (∃ id, r = sl id (pcsL t).length ((pcsL t).map str)) ∧ Keep σ σ' := by
  refine acalls 37 [.tmp 2] Tryd.func6 rfl (by decide) rfl rfl (Nat.le_of_ble_eq_true rfl) ?_
  repeat' (first
 |with_reducible (first|apply awp_seq|apply awp_block|(refine awp_region_k ?_;intro κ hκ)|(refine hκ.out _ _ ?_;clear hκ κ)|apply awp_skip|apply awp_exit|apply awp_ret)
 |((first|with_reducible apply gd_split|((with_reducible refine cond_go ?_);refine awp_cond_split rfl ?_ ?_))<;>intro h<;>(try simp only [upd, ↓reduceIte,Nat.reduceEqDiff,B2] at h)<;>(try simp only [*,reduceCtorEq,decide_true,decide_false] at h)<;>(try (have hari:=h;simp only [B3] at hari))<;>(try (first|contradiction|(exfalso;omega)|(exfalso;simp at h;done)))<;>(try simp only [B5]))
 |((with_reducible refine aapp_go ?_);refine aApp_own (by first|exact tez_26) (by assumption) (by assumption) (by decide) (by rfl) (by first|assumption|(simp;done)|(simp;omega)|omega) (by rfl) (by rfl) (by decide) (by omega) (by omega) ?_;intro idn σn hOn hKn eobj enobj ever entop)
 |((with_reducible refine aappn_go ?_);refine aApp_nil (by first|exact tez_26) (by rfl) (by decide) (by rfl) (by rfl) (by decide) (by omega) (by omega) ?_)
 |(simp (maxSteps:=3000000) (disch:=(first|omega|(simp only [B1, *];omega))) only [↓mapA_nil, ↓mapA_cons,B0,B4,awant,undef,aq,al,cst,cst1,acells,flat,behind,abin,aconv,aint,thenQ,blkQ,retQ,Value.cells,Value.oneCell',Int.reduceToNat, ↓reduceIte,Nat.reduceLT,Nat.reduceEqDiff,reduceCtorEq,Nat.reduceAdd,Nat.reduceMul,Nat.reduceLeDiff,u_3,u_5,u_9,telem_9,tez_26, *])
 |(refine hκ.out _ _ ?_;clear hκ κ))
  refine awp_loop (fun m s σ' => ∃ (i f id : Nat) (d : List Tx), m = t.length - i ∧ i ≤ t.length ∧ f ≤ i ∧ s 0 = str t ∧ s 3 = sl id d.length (d.map str) ∧ s 4 = sc (.int .i64 f) ∧ s 5 = sc (.int .i64 i) ∧ Keep σ σ' ∧ Own σ σ' id d.length ∧ d.length ≤ i ∧ Abs.Hid ((t.take i).foldl pcF ([], []) = (d, (t.drop f).take (i - f)))) t.length
    ⟨0, 0, 1, [], by omega, by omega, by omega, rfl, rfl, rfl, rfl, Keep.refl _, Own.nil _ _, by simp, by simp [Abs.Hid]⟩ ?_
  rintro m s σ' ⟨i, f, id, d, rfl, hi, hf, h0, h3, h4, h5, hK, hO, hdl, hF⟩
  by_cases hlt : i < t.length
  · have hget := List.getElem?_eq_getElem hlt
    generalize t[i] = c at hget
    by_cases hc : c = 46
    · have hb : ((c.toNat : Int) == 46) = true := by rw [hc]; rfl
      have HF : Abs.Hid ((t.take (i + 1)).foldl pcF ([], []) = (d ++ [(t.drop f).take (i + 1 - f)], (t.drop (i + 1)).take (i + 1 - (i + 1)))) := by
        rw [Abs.Hid, fold_take hget, hF.out, cur_step hf hget, cur_nil, hc]; rfl
      clear hF hc
      repeat' (first
 |with_reducible (first|apply awp_seq|apply awp_block|(refine awp_region_k ?_;intro κ hκ)|(refine hκ.out _ _ ?_;clear hκ κ)|apply awp_skip|apply awp_exit|apply awp_ret)
 |((first|with_reducible apply gd_split|((with_reducible refine cond_go ?_);refine awp_cond_split rfl ?_ ?_))<;>intro h<;>(try simp only [upd, ↓reduceIte,Nat.reduceEqDiff,B2] at h)<;>(try simp only [*,reduceCtorEq,decide_true,decide_false] at h)<;>(try (have hari:=h;simp only [B3] at hari))<;>(try (first|contradiction|(exfalso;omega)|(exfalso;simp at h;done)))<;>(try simp only [B5]))
 |((with_reducible refine aapp_go ?_);refine aApp_own (by first|exact tez_26) (by assumption) (by assumption) (by decide) (by rfl) (by first|assumption|(simp;done)|(simp;omega)|omega) (by rfl) (by rfl) (by decide) (by omega) (by omega) ?_;intro idn σn hOn hKn eobj enobj ever entop)
 |((with_reducible refine aappn_go ?_);refine aApp_nil (by first|exact tez_26) (by rfl) (by decide) (by rfl) (by rfl) (by decide) (by omega) (by omega) ?_)
 |(simp (maxSteps:=3000000) (disch:=(first|omega|(simp only [B1, *];omega))) only [↓mapA_nil, ↓mapA_cons,B0,B4,awant,undef,aq,al,cst,cst1,acells,flat,behind,abin,aconv,aint,thenQ,blkQ,retQ,Value.cells,Value.oneCell',Int.reduceToNat, ↓reduceIte,Nat.reduceLT,Nat.reduceEqDiff,reduceCtorEq,Nat.reduceAdd,Nat.reduceMul,Nat.reduceLeDiff,u_3,u_5,u_9,telem_9,tez_26, *])
 |(refine hκ.out _ _ ?_;clear hκ κ))
      refine ⟨t.length - (i + 1), by omega, i + 1, i + 1, idn, d ++ [(t.drop f).take (i + 1 - f)], ?_⟩
      ((repeat' (with_reducible refine And.intro ?_ ?_)) <;> (first | rfl | assumption | omega | (simp only [new_nobj, put_nobj, lay_nobj]; omega) | (simp; omega) | (simp; done) | exact (HF) | exact ((by simpa using hOn)) | ((repeat (first | exact Keep.refl _ | assumption | (refine Keep.put ?_ (by first | omega | (simp only [new_nobj, put_nobj, lay_nobj, *]; omega)) _) | (refine Keep.new ?_ _) | (refine Keep.lay ?_ _) | (refine Keep.trans ?_ (by assumption)))); done)))
    · have hb : ((c.toNat : Int) == 46) = false := by rw [show (46 : Int) = ((46 : UInt8).toNat : Int) from rfl, byte_is]; simpa using hc
      have HF : Abs.Hid ((t.take (i + 1)).foldl pcF ([], []) = (d, (t.drop f).take (i + 1 - f))) := by
        rw [Abs.Hid, fold_take hget, hF.out, cur_step hf hget, pcF, if_neg hc]
      clear hF hc
      repeat' (first
 |with_reducible (first|apply awp_seq|apply awp_block|(refine awp_region_k ?_;intro κ hκ)|(refine hκ.out _ _ ?_;clear hκ κ)|apply awp_skip|apply awp_exit|apply awp_ret)
 |((first|with_reducible apply gd_split|((with_reducible refine cond_go ?_);refine awp_cond_split rfl ?_ ?_))<;>intro h<;>(try simp only [upd, ↓reduceIte,Nat.reduceEqDiff,B2] at h)<;>(try simp only [*,reduceCtorEq,decide_true,decide_false] at h)<;>(try (have hari:=h;simp only [B3] at hari))<;>(try (first|contradiction|(exfalso;omega)|(exfalso;simp at h;done)))<;>(try simp only [B5]))
 |((with_reducible refine aapp_go ?_);refine aApp_own (by first|exact tez_26) (by assumption) (by assumption) (by decide) (by rfl) (by first|assumption|(simp;done)|(simp;omega)|omega) (by rfl) (by rfl) (by decide) (by omega) (by omega) ?_;intro idn σn hOn hKn eobj enobj ever entop)
 |((with_reducible refine aappn_go ?_);refine aApp_nil (by first|exact tez_26) (by rfl) (by decide) (by rfl) (by rfl) (by decide) (by omega) (by omega) ?_)
 |(simp (maxSteps:=3000000) (disch:=(first|omega|(simp only [B1, *];omega))) only [↓mapA_nil, ↓mapA_cons,B0,B4,awant,undef,aq,al,cst,cst1,acells,flat,behind,abin,aconv,aint,thenQ,blkQ,retQ,Value.cells,Value.oneCell',Int.reduceToNat, ↓reduceIte,Nat.reduceLT,Nat.reduceEqDiff,reduceCtorEq,Nat.reduceAdd,Nat.reduceMul,Nat.reduceLeDiff,u_3,u_5,u_9,telem_9,tez_26, *])
 |(refine hκ.out _ _ ?_;clear hκ κ))
      refine ⟨t.length - (i + 1), by omega, i + 1, f, id, d, ?_⟩
      ((repeat' (with_reducible refine And.intro ?_ ?_)) <;> (first | rfl | assumption | omega | (simp only [new_nobj, put_nobj, lay_nobj]; omega) | (simp; omega) | (simp; done) | exact (HF) | ((repeat (first | exact Keep.refl _ | assumption | (refine Keep.put ?_ (by first | omega | (simp only [new_nobj, put_nobj, lay_nobj, *]; omega)) _) | (refine Keep.new ?_ _) | (refine Keep.lay ?_ _) | (refine Keep.trans ?_ (by assumption)))); done)))
  · have hil : i = t.length := by omega
    subst hil
    have hF' := hF.out
    rw [List.take_length, List.take_of_length_le (by simp)] at hF'
    by_cases hfe : f < t.length
    · have HP : Abs.Hid (pcsL t = d ++ [t.drop f]) := by
        rw [Abs.Hid, pcsL, hF', if_neg (by intro e; have := congrArg List.length e; simp at this; omega)]
      clear hF hF'
      repeat' (first
 |with_reducible (first|apply awp_seq|apply awp_block|(refine awp_region_k ?_;intro κ hκ)|(refine hκ.out _ _ ?_;clear hκ κ)|apply awp_skip|apply awp_exit|apply awp_ret)
 |((first|with_reducible apply gd_split|((with_reducible refine cond_go ?_);refine awp_cond_split rfl ?_ ?_))<;>intro h<;>(try simp only [upd, ↓reduceIte,Nat.reduceEqDiff,B2] at h)<;>(try simp only [*,reduceCtorEq,decide_true,decide_false] at h)<;>(try (have hari:=h;simp only [B3] at hari))<;>(try (first|contradiction|(exfalso;omega)|(exfalso;simp at h;done)))<;>(try simp only [B5]))
 |((with_reducible refine aapp_go ?_);refine aApp_own (by first|exact tez_26) (by assumption) (by assumption) (by decide) (by rfl) (by first|assumption|(simp;done)|(simp;omega)|omega) (by rfl) (by rfl) (by decide) (by omega) (by omega) ?_;intro idn σn hOn hKn eobj enobj ever entop)
 |((with_reducible refine aappn_go ?_);refine aApp_nil (by first|exact tez_26) (by rfl) (by decide) (by rfl) (by rfl) (by decide) (by omega) (by omega) ?_)
 |(simp (maxSteps:=3000000) (disch:=(first|omega|(simp only [B1, *];omega))) only [↓mapA_nil, ↓mapA_cons,B0,B4,awant,undef,aq,al,cst,cst1,acells,flat,behind,abin,aconv,aint,thenQ,blkQ,retQ,Value.cells,Value.oneCell',Int.reduceToNat, ↓reduceIte,Nat.reduceLT,Nat.reduceEqDiff,reduceCtorEq,Nat.reduceAdd,Nat.reduceMul,Nat.reduceLeDiff,u_3,u_5,u_9,telem_9,tez_26, *])
 |(refine hκ.out _ _ ?_;clear hκ κ))
      first | refine ⟨_, rfl, ⟨idn, ?_⟩, hKn⟩ | refine ⟨_, rfl, idn, ?_⟩
      rw [HP.out]
      simp
      try rw [List.take_of_length_le (by simp)]
    · have HP : Abs.Hid (pcsL t = d) := by
        rw [Abs.Hid, pcsL, hF', if_pos (by apply List.eq_nil_of_length_eq_zero; simp; omega)]
      clear hF hF'
      repeat' (first
 |with_reducible (first|apply awp_seq|apply awp_block|(refine awp_region_k ?_;intro κ hκ)|(refine hκ.out _ _ ?_;clear hκ κ)|apply awp_skip|apply awp_exit|apply awp_ret)
 |((first|with_reducible apply gd_split|((with_reducible refine cond_go ?_);refine awp_cond_split rfl ?_ ?_))<;>intro h<;>(try simp only [upd, ↓reduceIte,Nat.reduceEqDiff,B2] at h)<;>(try simp only [*,reduceCtorEq,decide_true,decide_false] at h)<;>(try (have hari:=h;simp only [B3] at hari))<;>(try (first|contradiction|(exfalso;omega)|(exfalso;simp at h;done)))<;>(try simp only [B5]))
 |((with_reducible refine aapp_go ?_);refine aApp_own (by first|exact tez_26) (by assumption) (by assumption) (by decide) (by rfl) (by first|assumption|(simp;done)|(simp;omega)|omega) (by rfl) (by rfl) (by decide) (by omega) (by omega) ?_;intro idn σn hOn hKn eobj enobj ever entop)
 |((with_reducible refine aappn_go ?_);refine aApp_nil (by first|exact tez_26) (by rfl) (by decide) (by rfl) (by rfl) (by decide) (by omega) (by omega) ?_)
 |(simp (maxSteps:=3000000) (disch:=(first|omega|(simp only [B1, *];omega))) only [↓mapA_nil, ↓mapA_cons,B0,B4,awant,undef,aq,al,cst,cst1,acells,flat,behind,abin,aconv,aint,thenQ,blkQ,retQ,Value.cells,Value.oneCell',Int.reduceToNat, ↓reduceIte,Nat.reduceLT,Nat.reduceEqDiff,reduceCtorEq,Nat.reduceAdd,Nat.reduceMul,Nat.reduceLeDiff,u_3,u_5,u_9,telem_9,tez_26, *])
 |(refine hκ.out _ _ ?_;clear hκ κ))
      first | exact ⟨_, rfl, ⟨id, by rw [HP.out]⟩, hK⟩ | exact ⟨_, rfl, id, by rw [HP.out]⟩
set_option maxHeartbeats 4000000 in
theorem kamong_spec (l : List Tx) (ids : Nat) (u : Tx) (hl : l.length ≤ 100000) (σ : St) : ACalls Tryd.prog 20 [sl ids l.length (l.map str), str u] σ fun r σ' => r = sc (.bool (decide (u ∈ l))) ∧ σ' = σ := by
  refine acalls 18 [.tmp 4] Tryd.func20 rfl (by decide) rfl rfl (Nat.le_of_ble_eq_true rfl) ?_
  repeat' (first
 |with_reducible (first|apply awp_seq|apply awp_block|(refine awp_region_k ?_;intro κ hκ)|(refine hκ.out _ _ ?_;clear hκ κ)|apply awp_skip|apply awp_exit|apply awp_ret)
 |((first|with_reducible apply gd_split|((with_reducible refine cond_go ?_);refine awp_cond_split rfl ?_ ?_))<;>intro h<;>(try simp only [upd, ↓reduceIte,Nat.reduceEqDiff,B2] at h)<;>(try simp only [*,reduceCtorEq,decide_true,decide_false] at h)<;>(try (have hari:=h;simp only [B3] at hari))<;>(try (first|contradiction|(exfalso;omega)|(exfalso;simp at h;done)))<;>(try simp only [B5]))
 |(simp (maxSteps:=3000000) (disch:=(first|omega|(simp only [B1, *];omega))) only [↓mapA_nil, ↓mapA_cons,B0,B4,awant,undef,aq,al,cst,cst1,acells,flat,behind,abin,aconv,aint,thenQ,blkQ,retQ,Value.cells,Value.oneCell',Int.reduceToNat, ↓reduceIte,Nat.reduceLT,Nat.reduceEqDiff,reduceCtorEq,Nat.reduceAdd,Nat.reduceMul,Nat.reduceLeDiff,u_26,u_3,u_9,telem_26,tsz_9, *])
 |(refine hκ.out _ _ ?_;clear hκ κ))
  refine awp_loop (fun m s σ' => ∃ i : Nat, m = l.length - i ∧ i ≤ l.length ∧ s 0 = sl ids l.length (l.map str) ∧ s 1 = str u ∧ s 5 = sc (.int .i64 i) ∧ σ' = σ ∧ Abs.Hid (u ∉ l.take i)) l.length
    ⟨0, by omega, by omega, rfl, rfl, rfl, rfl, by simp [Abs.Hid]⟩ ?_
  rintro m s σ' ⟨i, rfl, hi, h0, h1, h5, hσ, hno⟩
  by_cases hlt : i < l.length
  · have hdr := map_str_get hlt
    have hget := List.getElem?_eq_getElem hlt
    generalize l[i] = w at hdr hget
    by_cases hw : w = u
    · subst hw
      have HM : Abs.Hid (decide (w ∈ l) = true) := by rw [Abs.Hid]; simpa using List.mem_of_getElem? hget
      clear hget hno
      have hb : (w == w) = true := by simp
      repeat' (first
 |with_reducible (first|apply awp_seq|apply awp_block|(refine awp_region_k ?_;intro κ hκ)|(refine hκ.out _ _ ?_;clear hκ κ)|apply awp_skip|apply awp_exit|apply awp_ret)
 |((first|with_reducible apply gd_split|((with_reducible refine cond_go ?_);refine awp_cond_split rfl ?_ ?_))<;>intro h<;>(try simp only [upd, ↓reduceIte,Nat.reduceEqDiff,B2] at h)<;>(try simp only [*,reduceCtorEq,decide_true,decide_false] at h)<;>(try (have hari:=h;simp only [B3] at hari))<;>(try (first|contradiction|(exfalso;omega)|(exfalso;simp at h;done)))<;>(try simp only [B5]))
 |(simp (maxSteps:=3000000) (disch:=(first|omega|(simp only [B1, *];omega))) only [↓mapA_nil, ↓mapA_cons,B0,B4,awant,undef,aq,al,cst,cst1,acells,flat,behind,abin,aconv,aint,thenQ,blkQ,retQ,Value.cells,Value.oneCell',Int.reduceToNat, ↓reduceIte,Nat.reduceLT,Nat.reduceEqDiff,reduceCtorEq,Nat.reduceAdd,Nat.reduceMul,Nat.reduceLeDiff,u_26,u_3,u_9,telem_26,tsz_9, *])
 |(refine hκ.out _ _ ?_;clear hκ κ))
      first | exact ⟨_, rfl, by rw [HM.out], by assumption⟩ | exact ⟨_, rfl, by rw [HM.out]⟩
    · have hb : (w == u) = false := by simpa using hw
      have HN : Abs.Hid (u ∉ l.take (i + 1)) := by
        rw [Abs.Hid, List.take_add_one, hget, Option.toList_some]
        simp only [List.mem_append, List.mem_singleton, not_or]
        exact ⟨hno.out, fun e => hw e.symm⟩
      clear hget hno hw
      repeat' (first
 |with_reducible (first|apply awp_seq|apply awp_block|(refine awp_region_k ?_;intro κ hκ)|(refine hκ.out _ _ ?_;clear hκ κ)|apply awp_skip|apply awp_exit|apply awp_ret)
 |((first|with_reducible apply gd_split|((with_reducible refine cond_go ?_);refine awp_cond_split rfl ?_ ?_))<;>intro h<;>(try simp only [upd, ↓reduceIte,Nat.reduceEqDiff,B2] at h)<;>(try simp only [*,reduceCtorEq,decide_true,decide_false] at h)<;>(try (have hari:=h;simp only [B3] at hari))<;>(try (first|contradiction|(exfalso;omega)|(exfalso;simp at h;done)))<;>(try simp only [B5]))
 |(simp (maxSteps:=3000000) (disch:=(first|omega|(simp only [B1, *];omega))) only [↓mapA_nil, ↓mapA_cons,B0,B4,awant,undef,aq,al,cst,cst1,acells,flat,behind,abin,aconv,aint,thenQ,blkQ,retQ,Value.cells,Value.oneCell',Int.reduceToNat, ↓reduceIte,Nat.reduceLT,Nat.reduceEqDiff,reduceCtorEq,Nat.reduceAdd,Nat.reduceMul,Nat.reduceLeDiff,u_26,u_3,u_9,telem_26,tsz_9, *])
 |(refine hκ.out _ _ ?_;clear hκ κ))
      refine ⟨l.length - (i + 1), by omega, i + 1, ?_⟩
      ((repeat' (with_reducible refine And.intro ?_ ?_)) <;> (first | rfl | assumption | omega | (simp only [new_nobj, put_nobj, lay_nobj]; omega) | (simp; omega) | (simp; done) | exact (HN) | ((repeat (first | exact Keep.refl _ | assumption | (refine Keep.put ?_ (by first | omega | (simp only [new_nobj, put_nobj, lay_nobj, *]; omega)) _) | (refine Keep.new ?_ _) | (refine Keep.lay ?_ _) | (refine Keep.trans ?_ (by assumption)))); done)))
  · have hil : i = l.length := by omega
    have HM : Abs.Hid (decide (u ∈ l) = false) := by
      rw [Abs.Hid]
      have := hno.out
      rw [hil, List.take_length] at this
      simpa using this
    clear hno
    repeat' (first
 |with_reducible (first|apply awp_seq|apply awp_block|(refine awp_region_k ?_;intro κ hκ)|(refine hκ.out _ _ ?_;clear hκ κ)|apply awp_skip|apply awp_exit|apply awp_ret)
 |((first|with_reducible apply gd_split|((with_reducible refine cond_go ?_);refine awp_cond_split rfl ?_ ?_))<;>intro h<;>(try simp only [upd, ↓reduceIte,Nat.reduceEqDiff,B2] at h)<;>(try simp only [*,reduceCtorEq,decide_true,decide_false] at h)<;>(try (have hari:=h;simp only [B3] at hari))<;>(try (first|contradiction|(exfalso;omega)|(exfalso;simp at h;done)))<;>(try simp only [B5]))
 |(simp (maxSteps:=3000000) (disch:=(first|omega|(simp only [B1, *];omega))) only [↓mapA_nil, ↓mapA_cons,B0,B4,awant,undef,aq,al,cst,cst1,acells,flat,behind,abin,aconv,aint,thenQ,blkQ,retQ,Value.cells,Value.oneCell',Int.reduceToNat, ↓reduceIte,Nat.reduceLT,Nat.reduceEqDiff,reduceCtorEq,Nat.reduceAdd,Nat.reduceMul,Nat.reduceLeDiff,u_26,u_3,u_9,telem_26,tsz_9, *])
 |(refine hκ.out _ _ ?_;clear hκ κ))
    first | exact ⟨_, rfl, by rw [HM.out], by assumption⟩ | exact ⟨_, rfl, by rw [HM.out]⟩
set_option maxHeartbeats 4000000 in
theorem kcount_spec (t : Tx) (c : UInt8) (ht : t.length ≤ 100000) (σ : St) : ACalls Tryd.prog 32 [str t, sc (.int .u8 c.toNat)] σ fun r σ' => r = sc (.int .i64 (t.count c : Nat)) ∧ σ' = σ := by
  refine acalls 21 [.tmp 4] Tryd.func32 rfl (by decide) rfl rfl (Nat.le_of_ble_eq_true rfl) ?_
  repeat' (first
 |with_reducible (first|apply awp_seq|apply awp_block|(refine awp_region_k ?_;intro κ hκ)|(refine hκ.out _ _ ?_;clear hκ κ)|apply awp_skip|apply awp_exit|apply awp_ret)
 |((first|with_reducible apply gd_split|((with_reducible refine cond_go ?_);refine awp_cond_split rfl ?_ ?_))<;>intro h<;>(try simp only [upd, ↓reduceIte,Nat.reduceEqDiff,B2] at h)<;>(try simp only [*,reduceCtorEq,decide_true,decide_false] at h)<;>(try (have hari:=h;simp only [B3] at hari))<;>(try (first|contradiction|(exfalso;omega)|(exfalso;simp at h;done)))<;>(try simp only [B5]))
 |(simp (maxSteps:=3000000) (disch:=(first|omega|(simp only [B1, *];omega))) only [↓mapA_nil, ↓mapA_cons,B0,B4,awant,undef,aq,al,cst,cst1,acells,flat,behind,abin,aconv,aint,thenQ,blkQ,retQ,Value.cells,Value.oneCell',Int.reduceToNat, ↓reduceIte,Nat.reduceLT,Nat.reduceEqDiff,reduceCtorEq,Nat.reduceAdd,Nat.reduceMul,Nat.reduceLeDiff,u_3,u_5,u_9,telem_9, *])
 |(refine hκ.out _ _ ?_;clear hκ κ))
  refine awp_loop (fun m s σ' => ∃ i n : Nat, m = t.length - i ∧ i ≤ t.length ∧ n ≤ i ∧ s 0 = str t ∧ s 1 = sc (.int .u8 c.toNat) ∧ s 5 = sc (.int .i64 n) ∧ s 6 = sc (.int .i64 i) ∧ σ' = σ ∧ Abs.Hid ((t.take i).count c = n)) t.length
    ⟨0, 0, by omega, by omega, by omega, rfl, rfl, rfl, rfl, rfl, by simp [Abs.Hid]⟩ ?_
  rintro m s σ' ⟨i, n, rfl, hi, hn, h0, h1, h5, h6, hσ, hC⟩
  by_cases hlt : i < t.length
  · have hget := List.getElem?_eq_getElem hlt
    generalize t[i] = b at hget
    have hstep : (t.take (i + 1)).count c = (t.take i).count c + if b = c then 1 else 0 := by
      rw [List.take_add_one, hget, Option.toList_some, List.count_append, List.count_singleton]
      simp
    by_cases hc : b = c
    · have hb : ((b.toNat : Int) == (c.toNat : Int)) = true := by rw [hc]; simp
      have HC : Abs.Hid ((t.take (i + 1)).count c = n + 1) := by rw [Abs.Hid, hstep, if_pos hc, hC.out]
      clear hC hc hstep
      repeat' (first
 |with_reducible (first|apply awp_seq|apply awp_block|(refine awp_region_k ?_;intro κ hκ)|(refine hκ.out _ _ ?_;clear hκ κ)|apply awp_skip|apply awp_exit|apply awp_ret)
 |((first|with_reducible apply gd_split|((with_reducible refine cond_go ?_);refine awp_cond_split rfl ?_ ?_))<;>intro h<;>(try simp only [upd, ↓reduceIte,Nat.reduceEqDiff,B2] at h)<;>(try simp only [*,reduceCtorEq,decide_true,decide_false] at h)<;>(try (have hari:=h;simp only [B3] at hari))<;>(try (first|contradiction|(exfalso;omega)|(exfalso;simp at h;done)))<;>(try simp only [B5]))
 |(simp (maxSteps:=3000000) (disch:=(first|omega|(simp only [B1, *];omega))) only [↓mapA_nil, ↓mapA_cons,B0,B4,awant,undef,aq,al,cst,cst1,acells,flat,behind,abin,aconv,aint,thenQ,blkQ,retQ,Value.cells,Value.oneCell',Int.reduceToNat, ↓reduceIte,Nat.reduceLT,Nat.reduceEqDiff,reduceCtorEq,Nat.reduceAdd,Nat.reduceMul,Nat.reduceLeDiff,u_3,u_5,u_9,telem_9, *])
 |(refine hκ.out _ _ ?_;clear hκ κ))
      refine ⟨t.length - (i + 1), by omega, i + 1, n + 1, ?_⟩
      ((repeat' (with_reducible refine And.intro ?_ ?_)) <;> (first | rfl | assumption | omega | (simp only [new_nobj, put_nobj, lay_nobj]; omega) | (simp; omega) | (simp; done) | exact (HC) | ((repeat (first | exact Keep.refl _ | assumption | (refine Keep.put ?_ (by first | omega | (simp only [new_nobj, put_nobj, lay_nobj, *]; omega)) _) | (refine Keep.new ?_ _) | (refine Keep.lay ?_ _) | (refine Keep.trans ?_ (by assumption)))); done)))
    · have hb : ((b.toNat : Int) == (c.toNat : Int)) = false := by rw [byte_is]; simpa using hc
      have HC : Abs.Hid ((t.take (i + 1)).count c = n) := by rw [Abs.Hid, hstep, if_neg hc, hC.out]; rfl
      clear hC hc hstep
      repeat' (first
 |with_reducible (first|apply awp_seq|apply awp_block|(refine awp_region_k ?_;intro κ hκ)|(refine hκ.out _ _ ?_;clear hκ κ)|apply awp_skip|apply awp_exit|apply awp_ret)
 |((first|with_reducible apply gd_split|((with_reducible refine cond_go ?_);refine awp_cond_split rfl ?_ ?_))<;>intro h<;>(try simp only [upd, ↓reduceIte,Nat.reduceEqDiff,B2] at h)<;>(try simp only [*,reduceCtorEq,decide_true,decide_false] at h)<;>(try (have hari:=h;simp only [B3] at hari))<;>(try (first|contradiction|(exfalso;omega)|(exfalso;simp at h;done)))<;>(try simp only [B5]))
 |(simp (maxSteps:=3000000) (disch:=(first|omega|(simp only [B1, *];omega))) only [↓mapA_nil, ↓mapA_cons,B0,B4,awant,undef,aq,al,cst,cst1,acells,flat,behind,abin,aconv,aint,thenQ,blkQ,retQ,Value.cells,Value.oneCell',Int.reduceToNat, ↓reduceIte,Nat.reduceLT,Nat.reduceEqDiff,reduceCtorEq,Nat.reduceAdd,Nat.reduceMul,Nat.reduceLeDiff,u_3,u_5,u_9,telem_9, *])
 |(refine hκ.out _ _ ?_;clear hκ κ))
      refine ⟨t.length - (i + 1), by omega, i + 1, n, ?_⟩
      ((repeat' (with_reducible refine And.intro ?_ ?_)) <;> (first | rfl | assumption | omega | (simp only [new_nobj, put_nobj, lay_nobj]; omega) | (simp; omega) | (simp; done) | exact (HC) | ((repeat (first | exact Keep.refl _ | assumption | (refine Keep.put ?_ (by first | omega | (simp only [new_nobj, put_nobj, lay_nobj, *]; omega)) _) | (refine Keep.new ?_ _) | (refine Keep.lay ?_ _) | (refine Keep.trans ?_ (by assumption)))); done)))
  · have hil : i = t.length := by omega
    have HC : Abs.Hid (t.count c = n) := by
      rw [Abs.Hid]
      have := hC.out
      rw [hil, List.take_length] at this
      exact this
    clear hC
    repeat' (first
 |with_reducible (first|apply awp_seq|apply awp_block|(refine awp_region_k ?_;intro κ hκ)|(refine hκ.out _ _ ?_;clear hκ κ)|apply awp_skip|apply awp_exit|apply awp_ret)
 |((first|with_reducible apply gd_split|((with_reducible refine cond_go ?_);refine awp_cond_split rfl ?_ ?_))<;>intro h<;>(try simp only [upd, ↓reduceIte,Nat.reduceEqDiff,B2] at h)<;>(try simp only [*,reduceCtorEq,decide_true,decide_false] at h)<;>(try (have hari:=h;simp only [B3] at hari))<;>(try (first|contradiction|(exfalso;omega)|(exfalso;simp at h;done)))<;>(try simp only [B5]))
 |(simp (maxSteps:=3000000) (disch:=(first|omega|(simp only [B1, *];omega))) only [↓mapA_nil, ↓mapA_cons,B0,B4,awant,undef,aq,al,cst,cst1,acells,flat,behind,abin,aconv,aint,thenQ,blkQ,retQ,Value.cells,Value.oneCell',Int.reduceToNat, ↓reduceIte,Nat.reduceLT,Nat.reduceEqDiff,reduceCtorEq,Nat.reduceAdd,Nat.reduceMul,Nat.reduceLeDiff,u_3,u_5,u_9,telem_9, *])
 |(refine hκ.out _ _ ?_;clear hκ κ))
    first | exact ⟨_, rfl, by rw [HC.out], by assumption⟩ | exact ⟨_, rfl, by rw [HC.out]⟩
set_option maxHeartbeats 16000000 in
theorem katoms_spec (t : Tx) (ht : t.length ≤ 100000) (σ : St) : ACalls Tryd.prog 16 [str t] σ fun r σ' => (∃ id, r = sl id (atsL t).length ((atsL t).map str)) ∧ Keep σ σ' := by
  have hCn := fun (f i : Nat) (hi : i ≤ t.length) (σ : St) => kcount_spec ((t.drop f).take (i - f)) 40 (by simp; omega) σ
  refine acalls 47 [.tmp 2] Tryd.func16 rfl (by decide) rfl rfl (Nat.le_of_ble_eq_true rfl) ?_
  repeat' (first
 |with_reducible (first|apply awp_seq|apply awp_block|(refine awp_region_k ?_;intro κ hκ)|(refine hκ.out _ _ ?_;clear hκ κ)|apply awp_skip|apply awp_exit|apply awp_ret)
 |((first|with_reducible apply gd_split|((with_reducible refine cond_go ?_);refine awp_cond_split rfl ?_ ?_))<;>intro h<;>(try simp only [upd, ↓reduceIte,Nat.reduceEqDiff,B2] at h)<;>(try simp only [*,reduceCtorEq,decide_true,decide_false] at h)<;>(try (have hari:=h;simp only [B3] at hari))<;>(try (first|contradiction|(exfalso;omega)|(exfalso;simp at h;done)))<;>(try simp only [B5]))
 |((with_reducible refine aapp_go ?_);refine aApp_own (by first|exact tez_26) (by assumption) (by assumption) (by decide) (by rfl) (by first|assumption|(simp;done)|(simp;omega)|omega) (by rfl) (by rfl) (by decide) (by omega) (by omega) ?_;intro idn σn hOn hKn eobj enobj ever entop)
 |((with_reducible refine aappn_go ?_);refine aApp_nil (by first|exact tez_26) (by rfl) (by decide) (by rfl) (by rfl) (by decide) (by omega) (by omega) ?_)
 |(simp (maxSteps:=3000000) (disch:=(first|omega|(simp only [B1, *];omega))) only [↓mapA_nil, ↓mapA_cons,B0,B4,awant,undef,aq,al,cst,cst1,acells,flat,behind,abin,aconv,aint,thenQ,blkQ,retQ,Value.cells,Value.oneCell',Int.reduceToNat, ↓reduceIte,Nat.reduceLT,Nat.reduceEqDiff,reduceCtorEq,Nat.reduceAdd,Nat.reduceMul,Nat.reduceLeDiff,u_3,u_5,u_9,telem_9,tez_26, *])
 |(refine hκ.out _ _ ?_;clear hκ κ))
  refine awp_loop (fun m s σ' => ∃ (i f id : Nat) (d : List Tx), m = t.length - i ∧ i ≤ t.length ∧ f ≤ i ∧ s 0 = str t ∧ s 3 = sl id d.length (d.map str) ∧ s 4 = sc (.int .i64 f) ∧ s 5 = sc (.int .i64 i) ∧ Keep σ σ' ∧ Own σ σ' id d.length ∧ d.length ≤ i ∧ Abs.Hid ((t.take i).foldl atF ([], []) = (d, (t.drop f).take (i - f)))) t.length
    ⟨0, 0, 1, [], by omega, by omega, by omega, rfl, rfl, rfl, rfl, Keep.refl _, Own.nil _ _, by simp, by simp [Abs.Hid]⟩ ?_
  rintro m s σ' ⟨i, f, id, d, rfl, hi, hf, h0, h3, h4, h5, hK, hO, hdl, hF⟩
  by_cases hlt : i < t.length
  · have hget := List.getElem?_eq_getElem hlt
    generalize t[i] = c at hget
    by_cases hc : c = 41
    · have hb : ((c.toNat : Int) == 41) = true := by rw [hc]; rfl
      have hb2 : ((c.toNat : Int) == 45) = false := by rw [hc]; rfl
      have hb3 : ((c.toNat : Int) == 44) = false := by rw [hc]; rfl
      have HF : Abs.Hid ((t.take (i + 1)).foldl atF ([], []) = (d ++ [(t.drop f).take (i + 1 - f)], (t.drop (i + 1)).take (i + 1 - (i + 1)))) := by
        rw [Abs.Hid, fold_take hget, hF.out, cur_step hf hget, cur_nil, hc]; rfl
      clear hF hc hCn
      repeat' (first
 |with_reducible (first|apply awp_seq|apply awp_block|(refine awp_region_k ?_;intro κ hκ)|(refine hκ.out _ _ ?_;clear hκ κ)|apply awp_skip|apply awp_exit|apply awp_ret)
 |((first|with_reducible apply gd_split|((with_reducible refine cond_go ?_);refine awp_cond_split rfl ?_ ?_))<;>intro h<;>(try simp only [upd, ↓reduceIte,Nat.reduceEqDiff,B2] at h)<;>(try simp only [*,reduceCtorEq,decide_true,decide_false] at h)<;>(try (have hari:=h;simp only [B3] at hari))<;>(try (first|contradiction|(exfalso;omega)|(exfalso;simp at h;done)))<;>(try simp only [B5]))
 |((with_reducible refine aapp_go ?_);refine aApp_own (by first|exact tez_26) (by assumption) (by assumption) (by decide) (by rfl) (by first|assumption|(simp;done)|(simp;omega)|omega) (by rfl) (by rfl) (by decide) (by omega) (by omega) ?_;intro idn σn hOn hKn eobj enobj ever entop)
 |((with_reducible refine aappn_go ?_);refine aApp_nil (by first|exact tez_26) (by rfl) (by decide) (by rfl) (by rfl) (by decide) (by omega) (by omega) ?_)
 |(simp (maxSteps:=3000000) (disch:=(first|omega|(simp only [B1, *];omega))) only [↓mapA_nil, ↓mapA_cons,B0,B4,awant,undef,aq,al,cst,cst1,acells,flat,behind,abin,aconv,aint,thenQ,blkQ,retQ,Value.cells,Value.oneCell',Int.reduceToNat, ↓reduceIte,Nat.reduceLT,Nat.reduceEqDiff,reduceCtorEq,Nat.reduceAdd,Nat.reduceMul,Nat.reduceLeDiff,u_3,u_5,u_9,telem_9,tez_26, *])
 |(refine hκ.out _ _ ?_;clear hκ κ))
      refine ⟨t.length - (i + 1), by omega, i + 1, i + 1, idn, d ++ [(t.drop f).take (i + 1 - f)], ?_⟩
      ((repeat' (with_reducible refine And.intro ?_ ?_)) <;> (first | rfl | assumption | omega | (simp only [new_nobj, put_nobj, lay_nobj]; omega) | (simp; omega) | (simp; done) | exact (HF) | exact ((by simpa using hOn)) | ((repeat (first | exact Keep.refl _ | assumption | (refine Keep.put ?_ (by first | omega | (simp only [new_nobj, put_nobj, lay_nobj, *]; omega)) _) | (refine Keep.new ?_ _) | (refine Keep.lay ?_ _) | (refine Keep.trans ?_ (by assumption)))); done)))
    · have hb : ((c.toNat : Int) == 41) = false := by rw [show (41 : Int) = ((41 : UInt8).toNat : Int) from rfl, byte_is]; simpa using hc
      have hCn := hCn f i hi
      by_cases hz : (c = 45 ∨ c = 44) ∧ ((t.drop f).take (i - f)).count 40 = 0
      · have HF : Abs.Hid ((t.take (i + 1)).foldl atF ([], []) = (d, (t.drop (i + 1)).take (i + 1 - (i + 1)))) := by
          rw [Abs.Hid, fold_take hget, hF.out, cur_nil, atF, if_neg hc, if_pos hz]
        obtain ⟨hz1, hz2⟩ := hz
        rw [hz2] at hCn
        clear hF hc hz2
        rcases hz1 with rfl | rfl
        · have e1 : (((45 : UInt8).toNat : Int) == 45) = true := rfl
          have e2 : (((45 : UInt8).toNat : Int) == 44) = false := rfl
          repeat' (first
 |with_reducible (first|apply awp_seq|apply awp_block|(refine awp_region_k ?_;intro κ hκ)|(refine hκ.out _ _ ?_;clear hκ κ)|apply awp_skip|apply awp_exit|apply awp_ret)
 |((first|with_reducible apply gd_split|((with_reducible refine cond_go ?_);refine awp_cond_split rfl ?_ ?_))<;>intro h<;>(try simp only [upd, ↓reduceIte,Nat.reduceEqDiff,B2] at h)<;>(try simp only [*,reduceCtorEq,decide_true,decide_false] at h)<;>(try (have hari:=h;simp only [B3] at hari))<;>(try (first|contradiction|(exfalso;omega)|(exfalso;simp at h;done)))<;>(try simp only [B5]))
 |((with_reducible refine aapp_go ?_);refine aApp_own (by first|exact tez_26) (by assumption) (by assumption) (by decide) (by rfl) (by first|assumption|(simp;done)|(simp;omega)|omega) (by rfl) (by rfl) (by decide) (by omega) (by omega) ?_;intro idn σn hOn hKn eobj enobj ever entop)
 |((with_reducible refine aappn_go ?_);refine aApp_nil (by first|exact tez_26) (by rfl) (by decide) (by rfl) (by rfl) (by decide) (by omega) (by omega) ?_)
 |((with_reducible refine acalls_go ?_);refine ACalls.mono (hCn _) ?_;rintro _ _ ⟨rfl,rfl⟩)
 |(simp (maxSteps:=3000000) (disch:=(first|omega|(simp only [B1, *];omega))) only [↓mapA_nil, ↓mapA_cons,B0,B4,awant,undef,aq,al,cst,cst1,acells,flat,behind,abin,aconv,aint,thenQ,blkQ,retQ,Value.cells,Value.oneCell',Int.reduceToNat, ↓reduceIte,Nat.reduceLT,Nat.reduceEqDiff,reduceCtorEq,Nat.reduceAdd,Nat.reduceMul,Nat.reduceLeDiff,u_3,u_5,u_9,telem_9,tez_26, *])
 |(refine hκ.out _ _ ?_;clear hκ κ))
          refine ⟨t.length - (i + 1), by omega, i + 1, i + 1, id, d, ?_⟩
          ((repeat' (with_reducible refine And.intro ?_ ?_)) <;> (first | rfl | assumption | omega | (simp only [new_nobj, put_nobj, lay_nobj]; omega) | (simp; omega) | (simp; done) | exact (HF) | ((repeat (first | exact Keep.refl _ | assumption | (refine Keep.put ?_ (by first | omega | (simp only [new_nobj, put_nobj, lay_nobj, *]; omega)) _) | (refine Keep.new ?_ _) | (refine Keep.lay ?_ _) | (refine Keep.trans ?_ (by assumption)))); done)))
        · have e1 : (((44 : UInt8).toNat : Int) == 45) = false := rfl
          have e2 : (((44 : UInt8).toNat : Int) == 44) = true := rfl
          repeat' (first
 |with_reducible (first|apply awp_seq|apply awp_block|(refine awp_region_k ?_;intro κ hκ)|(refine hκ.out _ _ ?_;clear hκ κ)|apply awp_skip|apply awp_exit|apply awp_ret)
 |((first|with_reducible apply gd_split|((with_reducible refine cond_go ?_);refine awp_cond_split rfl ?_ ?_))<;>intro h<;>(try simp only [upd, ↓reduceIte,Nat.reduceEqDiff,B2] at h)<;>(try simp only [*,reduceCtorEq,decide_true,decide_false] at h)<;>(try (have hari:=h;simp only [B3] at hari))<;>(try (first|contradiction|(exfalso;omega)|(exfalso;simp at h;done)))<;>(try simp only [B5]))
 |((with_reducible refine aapp_go ?_);refine aApp_own (by first|exact tez_26) (by assumption) (by assumption) (by decide) (by rfl) (by first|assumption|(simp;done)|(simp;omega)|omega) (by rfl) (by rfl) (by decide) (by omega) (by omega) ?_;intro idn σn hOn hKn eobj enobj ever entop)
 |((with_reducible refine aappn_go ?_);refine aApp_nil (by first|exact tez_26) (by rfl) (by decide) (by rfl) (by rfl) (by decide) (by omega) (by omega) ?_)
 |((with_reducible refine acalls_go ?_);refine ACalls.mono (hCn _) ?_;rintro _ _ ⟨rfl,rfl⟩)
 |(simp (maxSteps:=3000000) (disch:=(first|omega|(simp only [B1, *];omega))) only [↓mapA_nil, ↓mapA_cons,B0,B4,awant,undef,aq,al,cst,cst1,acells,flat,behind,abin,aconv,aint,thenQ,blkQ,retQ,Value.cells,Value.oneCell',Int.reduceToNat, ↓reduceIte,Nat.reduceLT,Nat.reduceEqDiff,reduceCtorEq,Nat.reduceAdd,Nat.reduceMul,Nat.reduceLeDiff,u_3,u_5,u_9,telem_9,tez_26, *])
 |(refine hκ.out _ _ ?_;clear hκ κ))
          refine ⟨t.length - (i + 1), by omega, i + 1, i + 1, id, d, ?_⟩
          ((repeat' (with_reducible refine And.intro ?_ ?_)) <;> (first | rfl | assumption | omega | (simp only [new_nobj, put_nobj, lay_nobj]; omega) | (simp; omega) | (simp; done) | exact (HF) | ((repeat (first | exact Keep.refl _ | assumption | (refine Keep.put ?_ (by first | omega | (simp only [new_nobj, put_nobj, lay_nobj, *]; omega)) _) | (refine Keep.new ?_ _) | (refine Keep.lay ?_ _) | (refine Keep.trans ?_ (by assumption)))); done)))
      · have HF : Abs.Hid ((t.take (i + 1)).foldl atF ([], []) = (d, (t.drop f).take (i + 1 - f))) := by
          rw [Abs.Hid, fold_take hget, hF.out, cur_step hf hget, atF, if_neg hc, if_neg hz]
        clear hF hc
        by_cases h45 : c = 45
        · subst h45
          have hz2 : ((((t.drop f).take (i - f)).count 40 : Nat) : Int) ≠ 0 := fun e => hz ⟨.inl rfl, by omega⟩
          have hz3 : (((((t.drop f).take (i - f)).count 40 : Nat) : Int) == 0) = false := by simpa using hz2
          have e1 : (((45 : UInt8).toNat : Int) == 45) = true := rfl
          clear hz2 hz
          generalize ((t.drop f).take (i - f)).count 40 = cn at hCn hz3
          repeat' (first
 |with_reducible (first|apply awp_seq|apply awp_block|(refine awp_region_k ?_;intro κ hκ)|(refine hκ.out _ _ ?_;clear hκ κ)|apply awp_skip|apply awp_exit|apply awp_ret)
 |((first|with_reducible apply gd_split|((with_reducible refine cond_go ?_);refine awp_cond_split rfl ?_ ?_))<;>intro h<;>(try simp only [upd, ↓reduceIte,Nat.reduceEqDiff,B2] at h)<;>(try simp only [*,reduceCtorEq,decide_true,decide_false] at h)<;>(try (have hari:=h;simp only [B3] at hari))<;>(try (first|contradiction|(exfalso;omega)|(exfalso;simp at h;done)))<;>(try simp only [B5]))
 |((with_reducible refine aapp_go ?_);refine aApp_own (by first|exact tez_26) (by assumption) (by assumption) (by decide) (by rfl) (by first|assumption|(simp;done)|(simp;omega)|omega) (by rfl) (by rfl) (by decide) (by omega) (by omega) ?_;intro idn σn hOn hKn eobj enobj ever entop)
 |((with_reducible refine aappn_go ?_);refine aApp_nil (by first|exact tez_26) (by rfl) (by decide) (by rfl) (by rfl) (by decide) (by omega) (by omega) ?_)
 |((with_reducible refine acalls_go ?_);refine ACalls.mono (hCn _) ?_;rintro _ _ ⟨rfl,rfl⟩)
 |(simp (maxSteps:=3000000) (disch:=(first|omega|(simp only [B1, *];omega))) only [↓mapA_nil, ↓mapA_cons,B0,B4,awant,undef,aq,al,cst,cst1,acells,flat,behind,abin,aconv,aint,thenQ,blkQ,retQ,Value.cells,Value.oneCell',Int.reduceToNat, ↓reduceIte,Nat.reduceLT,Nat.reduceEqDiff,reduceCtorEq,Nat.reduceAdd,Nat.reduceMul,Nat.reduceLeDiff,u_3,u_5,u_9,telem_9,tez_26, *])
 |(refine hκ.out _ _ ?_;clear hκ κ))
          refine ⟨t.length - (i + 1), by omega, i + 1, f, id, d, ?_⟩
          ((repeat' (with_reducible refine And.intro ?_ ?_)) <;> (first | rfl | assumption | omega | (simp only [new_nobj, put_nobj, lay_nobj]; omega) | (simp; omega) | (simp; done) | exact (HF) | ((repeat (first | exact Keep.refl _ | assumption | (refine Keep.put ?_ (by first | omega | (simp only [new_nobj, put_nobj, lay_nobj, *]; omega)) _) | (refine Keep.new ?_ _) | (refine Keep.lay ?_ _) | (refine Keep.trans ?_ (by assumption)))); done)))
        · have e1 : ((c.toNat : Int) == 45) = false := by rw [show (45 : Int) = ((45 : UInt8).toNat : Int) from rfl, byte_is]; simpa using h45
          by_cases h44 : c = 44
          · subst h44
            have hz2 : ((((t.drop f).take (i - f)).count 40 : Nat) : Int) ≠ 0 := fun e => hz ⟨.inr rfl, by omega⟩
            have hz3 : (((((t.drop f).take (i - f)).count 40 : Nat) : Int) == 0) = false := by simpa using hz2
            have e2 : (((44 : UInt8).toNat : Int) == 44) = true := rfl
            clear hz2 hz h45
            generalize ((t.drop f).take (i - f)).count 40 = cn at hCn hz3
            repeat' (first
 |with_reducible (first|apply awp_seq|apply awp_block|(refine awp_region_k ?_;intro κ hκ)|(refine hκ.out _ _ ?_;clear hκ κ)|apply awp_skip|apply awp_exit|apply awp_ret)
 |((first|with_reducible apply gd_split|((with_reducible refine cond_go ?_);refine awp_cond_split rfl ?_ ?_))<;>intro h<;>(try simp only [upd, ↓reduceIte,Nat.reduceEqDiff,B2] at h)<;>(try simp only [*,reduceCtorEq,decide_true,decide_false] at h)<;>(try (have hari:=h;simp only [B3] at hari))<;>(try (first|contradiction|(exfalso;omega)|(exfalso;simp at h;done)))<;>(try simp only [B5]))
 |((with_reducible refine aapp_go ?_);refine aApp_own (by first|exact tez_26) (by assumption) (by assumption) (by decide) (by rfl) (by first|assumption|(simp;done)|(simp;omega)|omega) (by rfl) (by rfl) (by decide) (by omega) (by omega) ?_;intro idn σn hOn hKn eobj enobj ever entop)
 |((with_reducible refine aappn_go ?_);refine aApp_nil (by first|exact tez_26) (by rfl) (by decide) (by rfl) (by rfl) (by decide) (by omega) (by omega) ?_)
 |((with_reducible refine acalls_go ?_);refine ACalls.mono (hCn _) ?_;rintro _ _ ⟨rfl,rfl⟩)
 |(simp (maxSteps:=3000000) (disch:=(first|omega|(simp only [B1, *];omega))) only [↓mapA_nil, ↓mapA_cons,B0,B4,awant,undef,aq,al,cst,cst1,acells,flat,behind,abin,aconv,aint,thenQ,blkQ,retQ,Value.cells,Value.oneCell',Int.reduceToNat, ↓reduceIte,Nat.reduceLT,Nat.reduceEqDiff,reduceCtorEq,Nat.reduceAdd,Nat.reduceMul,Nat.reduceLeDiff,u_3,u_5,u_9,telem_9,tez_26, *])
 |(refine hκ.out _ _ ?_;clear hκ κ))
            refine ⟨t.length - (i + 1), by omega, i + 1, f, id, d, ?_⟩
            ((repeat' (with_reducible refine And.intro ?_ ?_)) <;> (first | rfl | assumption | omega | (simp only [new_nobj, put_nobj, lay_nobj]; omega) | (simp; omega) | (simp; done) | exact (HF) | ((repeat (first | exact Keep.refl _ | assumption | (refine Keep.put ?_ (by first | omega | (simp only [new_nobj, put_nobj, lay_nobj, *]; omega)) _) | (refine Keep.new ?_ _) | (refine Keep.lay ?_ _) | (refine Keep.trans ?_ (by assumption)))); done)))
          · have e2 : ((c.toNat : Int) == 44) = false := by rw [show (44 : Int) = ((44 : UInt8).toNat : Int) from rfl, byte_is]; simpa using h44
            clear hz h45 h44 hCn
            repeat' (first
 |with_reducible (first|apply awp_seq|apply awp_block|(refine awp_region_k ?_;intro κ hκ)|(refine hκ.out _ _ ?_;clear hκ κ)|apply awp_skip|apply awp_exit|apply awp_ret)
 |((first|with_reducible apply gd_split|((with_reducible refine cond_go ?_);refine awp_cond_split rfl ?_ ?_))<;>intro h<;>(try simp only [upd, ↓reduceIte,Nat.reduceEqDiff,B2] at h)<;>(try simp only [*,reduceCtorEq,decide_true,decide_false] at h)<;>(try (have hari:=h;simp only [B3] at hari))<;>(try (first|contradiction|(exfalso;omega)|(exfalso;simp at h;done)))<;>(try simp only [B5]))
 |((with_reducible refine aapp_go ?_);refine aApp_own (by first|exact tez_26) (by assumption) (by assumption) (by decide) (by rfl) (by first|assumption|(simp;done)|(simp;omega)|omega) (by rfl) (by rfl) (by decide) (by omega) (by omega) ?_;intro idn σn hOn hKn eobj enobj ever entop)
 |((with_reducible refine aappn_go ?_);refine aApp_nil (by first|exact tez_26) (by rfl) (by decide) (by rfl) (by rfl) (by decide) (by omega) (by omega) ?_)
 |(simp (maxSteps:=3000000) (disch:=(first|omega|(simp only [B1, *];omega))) only [↓mapA_nil, ↓mapA_cons,B0,B4,awant,undef,aq,al,cst,cst1,acells,flat,behind,abin,aconv,aint,thenQ,blkQ,retQ,Value.cells,Value.oneCell',Int.reduceToNat, ↓reduceIte,Nat.reduceLT,Nat.reduceEqDiff,reduceCtorEq,Nat.reduceAdd,Nat.reduceMul,Nat.reduceLeDiff,u_3,u_5,u_9,telem_9,tez_26, *])
 |(refine hκ.out _ _ ?_;clear hκ κ))
            refine ⟨t.length - (i + 1), by omega, i + 1, f, id, d, ?_⟩
            ((repeat' (with_reducible refine And.intro ?_ ?_)) <;> (first | rfl | assumption | omega | (simp only [new_nobj, put_nobj, lay_nobj]; omega) | (simp; omega) | (simp; done) | exact (HF) | ((repeat (first | exact Keep.refl _ | assumption | (refine Keep.put ?_ (by first | omega | (simp only [new_nobj, put_nobj, lay_nobj, *]; omega)) _) | (refine Keep.new ?_ _) | (refine Keep.lay ?_ _) | (refine Keep.trans ?_ (by assumption)))); done)))
  · have hil : i = t.length := by omega
    have HP : Abs.Hid (atsL t = d) := by
      have := hF.out
      rw [hil, List.take_length] at this
      rw [Abs.Hid, atsL, this]
    clear hF hCn
    repeat' (first
 |with_reducible (first|apply awp_seq|apply awp_block|(refine awp_region_k ?_;intro κ hκ)|(refine hκ.out _ _ ?_;clear hκ κ)|apply awp_skip|apply awp_exit|apply awp_ret)
 |((first|with_reducible apply gd_split|((with_reducible refine cond_go ?_);refine awp_cond_split rfl ?_ ?_))<;>intro h<;>(try simp only [upd, ↓reduceIte,Nat.reduceEqDiff,B2] at h)<;>(try simp only [*,reduceCtorEq,decide_true,decide_false] at h)<;>(try (have hari:=h;simp only [B3] at hari))<;>(try (first|contradiction|(exfalso;omega)|(exfalso;simp at h;done)))<;>(try simp only [B5]))
 |((with_reducible refine aapp_go ?_);refine aApp_own (by first|exact tez_26) (by assumption) (by assumption) (by decide) (by rfl) (by first|assumption|(simp;done)|(simp;omega)|omega) (by rfl) (by rfl) (by decide) (by omega) (by omega) ?_;intro idn σn hOn hKn eobj enobj ever entop)
 |((with_reducible refine aappn_go ?_);refine aApp_nil (by first|exact tez_26) (by rfl) (by decide) (by rfl) (by rfl) (by decide) (by omega) (by omega) ?_)
 |(simp (maxSteps:=3000000) (disch:=(first|omega|(simp only [B1, *];omega))) only [↓mapA_nil, ↓mapA_cons,B0,B4,awant,undef,aq,al,cst,cst1,acells,flat,behind,abin,aconv,aint,thenQ,blkQ,retQ,Value.cells,Value.oneCell',Int.reduceToNat, ↓reduceIte,Nat.reduceLT,Nat.reduceEqDiff,reduceCtorEq,Nat.reduceAdd,Nat.reduceMul,Nat.reduceLeDiff,u_3,u_5,u_9,telem_9,tez_26, *])
 |(refine hκ.out _ _ ?_;clear hκ κ))
    first | exact ⟨_, rfl, ⟨id, by rw [HP.out]⟩, hK⟩ | exact ⟨_, rfl, id, by rw [HP.out]⟩
end Go.Proofs.YtmoeoppbmhfbpaaDoorX
