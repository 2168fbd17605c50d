import Derived.Test.YtmoeoppbmhfbpaaDoorXTxtB
import Derived.Test.YtmoeoppbmhfbpaaDoorXTxtC
import Derived.Test.YtmoeoppbmhfbpaaDoorXAbsWp
/- Plain texts, walked: terms, variables, what is put. -/
namespace Go.Proofs.YtmoeoppbmhfbpaaDoorX
open Go.Abs
set_option linter.unusedSimpArgs false
set_option linter.unusedVariables false
set_option maxRecDepth 100000

theorem klarge_spec (c : Int) (σ : St) : ACalls Tryd.prog 33 [sc (.int .u8 c)] σ fun x σ' => x = sc (.bool (largeB c)) ∧ σ' = σ := by
  refine acalls 9 [.tmp 2] Tryd.func33 rfl (by decide) rfl rfl (Nat.le_of_ble_eq_true rfl) ?_
  repeat' (first
 |with_reducible (first|apply awp_seq|apply awp_block|(refine awp_region_k ?_;intro κ hκ)|(refine hκ.out _ _ ?_;clear hκ κ)|apply awp_skip|apply awp_exit|apply awp_ret)
 |((first|with_reducible apply gd_split|((with_reducible refine cond_go ?_);refine awp_cond_split rfl ?_ ?_))<;>intro h<;>(try simp only [upd, ↓reduceIte,Nat.reduceEqDiff,B2] at h)<;>(try simp only [*,reduceCtorEq,decide_true,decide_false] at h)<;>(try (have hari:=h;simp only [B3] at hari))<;>(try (first|contradiction|(exfalso;omega)|(exfalso;simp at h;done)))<;>(try simp only [B5]))
 |(simp (maxSteps:=3000000) (disch:=(first|omega|(simp only [List.length_append,B1, *];omega))) only [↓mapA_nil, ↓mapA_cons,List.length_append,B0,B4,awant,undef,aq,al,cst,cst1,acells,flat,behind,abin,aconv,aint,thenQ,blkQ,retQ,Value.cells,Value.oneCell',Int.reduceToNat, ↓reduceIte,Nat.reduceLT,Nat.reduceEqDiff,reduceCtorEq,Nat.reduceAdd,Nat.reduceMul,Nat.reduceLeDiff,u_5, *])
 |(refine hκ.out _ _ ?_;clear hκ κ))
  all_goals exact ⟨_, rfl, by simp [largeB, *]⟩
theorem inP_at {t : Tx} {k : Nat} (h : ∀ b ∈ t.take k, b ≠ 40) (hk : t.length ≤ k ∨ t[k]? = some 40) : inP t = t.drop (k + 1) := by
  unfold inP
  have key : ∀ (t : Tx) (k : Nat), (∀ b ∈ t.take k, b ≠ 40) → (t.length ≤ k ∨ t[k]? = some 40) → t.dropWhile (· != 40) = t.drop k := by
    intro t
    induction t with
    | nil => intro k _ _; simp
    | cons c t ih =>
      intro k h hk
      cases k with
      | zero =>
        rcases hk with hk | hk
        · simp at hk
        · simp at hk; subst hk; simp
      | succ k =>
        rw [List.dropWhile_cons_of_pos (by simpa using h c (by simp)), List.drop_succ_cons]
        exact ih k (fun b hb => h b (by simp [hb])) (by simpa using hk)
  rw [key t k h hk, List.drop_drop]
theorem byte_ne {b : UInt8} {n : Int} (c : UInt8) (e : n = (c.toNat : Int)) (h : b ≠ c) : ((b.toNat : Int) == n) = false := by rw [e, byte_is]; simpa using h
set_option maxHeartbeats 16000000 in
theorem kterms_spec (t : Tx) (ht : t.length ≤ 100000) (σ : St) : ACalls Tryd.prog 7 [str t] σ fun r σ' => (∃ id, r = sl id (tmsL t).length ((tmsL t).map str)) ∧ Keep σ σ' := by
  refine acalls 47 [.tmp 2] Tryd.func7 rfl (by decide) rfl rfl (Nat.le_of_ble_eq_true rfl) ?_
  repeat' (first
 |with_reducible (first|apply awp_seq|apply awp_block|(refine awp_region_k ?_;intro κ hκ)|(refine hκ.out _ _ ?_;clear hκ κ)|apply awp_skip|apply awp_exit|apply awp_ret)
 |((first|with_reducible apply gd_split|((with_reducible refine cond_go ?_);refine awp_cond_split rfl ?_ ?_))<;>intro h<;>(try simp only [upd, ↓reduceIte,Nat.reduceEqDiff,B2] at h)<;>(try simp only [*,reduceCtorEq,decide_true,decide_false] at h)<;>(try (have hari:=h;simp only [B3] at hari))<;>(try (first|contradiction|(exfalso;omega)|(exfalso;simp at h;done)))<;>(try simp only [B5]))
 |((with_reducible refine aapp_go ?_);refine aApp_own (by first|exact tez_26) (by assumption) (by assumption) (by decide) (by rfl) (by first|assumption|(simp;done)|(simp;omega)|omega) (by rfl) (by rfl) (by decide) (by omega) (by omega) ?_;intro idn σn hOn hKn eobj enobj ever entop)
 |((with_reducible refine aappn_go ?_);refine aApp_nil (by first|exact tez_26) (by rfl) (by decide) (by rfl) (by rfl) (by decide) (by omega) (by omega) ?_)
 |(simp (maxSteps:=3000000) (disch:=(first|omega|(simp only [List.length_append,B1, *];omega))) only [↓mapA_nil, ↓mapA_cons,List.length_append,B0,B4,awant,undef,aq,al,cst,cst1,acells,flat,behind,abin,aconv,aint,thenQ,blkQ,retQ,Value.cells,Value.oneCell',Int.reduceToNat, ↓reduceIte,Nat.reduceLT,Nat.reduceEqDiff,reduceCtorEq,Nat.reduceAdd,Nat.reduceMul,Nat.reduceLeDiff,u_3,u_5,u_9,telem_9,tez_26, *])
 |(refine hκ.out _ _ ?_;clear hκ κ))
  refine awp_loop (fun m s σ' => ∃ k : Nat, m = t.length - k ∧ k ≤ t.length ∧ s 0 = str t ∧ s 3 = sc (.int .i64 k) ∧ σ' = σ ∧ Abs.Hid (∀ b ∈ t.take k, b ≠ 40)) t.length
    ⟨0, by omega, by omega, rfl, rfl, rfl, by simp [Abs.Hid]⟩ ?_
  rintro m s σ1 ⟨k, rfl, hk, h0, h3, hσ, hN⟩
  by_cases hhit : k < t.length ∧ t[k]? ≠ some 40
  · obtain ⟨hlt, hne⟩ := hhit
    have hget := List.getElem?_eq_getElem hlt
    generalize t[k] = c at hget
    have hc : c ≠ 40 := fun e => hne (by rw [hget, e])
    have hb := byte_ne (n := 40) 40 rfl hc
    have HN : Abs.Hid (∀ b ∈ t.take (k + 1), b ≠ 40) := by
      rw [Abs.Hid, List.take_add_one, hget, Option.toList_some]
      intro b hb
      rcases List.mem_append.1 hb with hb | hb
      · exact hN.out b hb
      · simp at hb; subst hb; exact hc
    have hbn : ((c.toNat : Int) != 40) = true := by simp only [bne, hb]; rfl
    clear hne hc hN hb
    repeat' (first
 |with_reducible (first|apply awp_seq|apply awp_block|(refine awp_region_k ?_;intro κ hκ)|(refine hκ.out _ _ ?_;clear hκ κ)|apply awp_skip|apply awp_exit|apply awp_ret)
 |((first|with_reducible apply gd_split|((with_reducible refine cond_go ?_);refine awp_cond_split rfl ?_ ?_))<;>intro h<;>(try simp only [upd, ↓reduceIte,Nat.reduceEqDiff,B2] at h)<;>(try simp only [*,reduceCtorEq,decide_true,decide_false] at h)<;>(try (have hari:=h;simp only [B3] at hari))<;>(try (first|contradiction|(exfalso;omega)|(exfalso;simp at h;done)))<;>(try simp only [B5]))
 |((with_reducible refine aapp_go ?_);refine aApp_own (by first|exact tez_26) (by assumption) (by assumption) (by decide) (by rfl) (by first|assumption|(simp;done)|(simp;omega)|omega) (by rfl) (by rfl) (by decide) (by omega) (by omega) ?_;intro idn σn hOn hKn eobj enobj ever entop)
 |((with_reducible refine aappn_go ?_);refine aApp_nil (by first|exact tez_26) (by rfl) (by decide) (by rfl) (by rfl) (by decide) (by omega) (by omega) ?_)
 |(simp (maxSteps:=3000000) (disch:=(first|omega|(simp only [List.length_append,B1, *];omega))) only [↓mapA_nil, ↓mapA_cons,List.length_append,B0,B4,awant,undef,aq,al,cst,cst1,acells,flat,behind,abin,aconv,aint,thenQ,blkQ,retQ,Value.cells,Value.oneCell',Int.reduceToNat, ↓reduceIte,Nat.reduceLT,Nat.reduceEqDiff,reduceCtorEq,Nat.reduceAdd,Nat.reduceMul,Nat.reduceLeDiff,u_3,u_5,u_9,telem_9,tez_26, *])
 |(refine hκ.out _ _ ?_;clear hκ κ))
    refine ⟨t.length - (k + 1), by omega, k + 1, ?_⟩
    ((repeat' (with_reducible refine And.intro ?_ ?_)) <;> (first | rfl | assumption | omega | (simp only [new_nobj, put_nobj, lay_nobj]; omega) | (simp; omega) | (simp; done) | exact (HN) | ((repeat (first | exact Keep.refl _ | assumption | (refine Keep.put ?_ (by first | omega | (simp only [new_nobj, put_nobj, lay_nobj, *]; omega)) _) | (refine Keep.new ?_ _) | (refine Keep.lay ?_ _) | (refine Keep.trans ?_ (by assumption)))); done)))
  · have hcase : (k < t.length ∧ t[k]? = some 40) ∨ k = t.length := by
      by_cases hlt : k < t.length
      · exact .inl ⟨hlt, Classical.byContradiction fun h => hhit ⟨hlt, h⟩⟩
      · exact .inr (by omega)
    have hin : Abs.Hid (inP t = t.drop (k + 1)) := inP_at hN.out (by
      rcases hcase with h | h
      · exact .inr h.2
      · exact .inl (by omega))
    clear hhit hN
    rcases hcase with ⟨hlt, hget⟩ | hke
    · have hb : ((((40 : UInt8).toNat : Nat) : Int) != 40) = false := rfl
      repeat' (first
 |with_reducible (first|apply awp_seq|apply awp_block|(refine awp_region_k ?_;intro κ hκ)|(refine hκ.out _ _ ?_;clear hκ κ)|apply awp_skip|apply awp_exit|apply awp_ret)
 |((first|with_reducible apply gd_split|((with_reducible refine cond_go ?_);refine awp_cond_split rfl ?_ ?_))<;>intro h<;>(try simp only [upd, ↓reduceIte,Nat.reduceEqDiff,B2] at h)<;>(try simp only [*,reduceCtorEq,decide_true,decide_false] at h)<;>(try (have hari:=h;simp only [B3] at hari))<;>(try (first|contradiction|(exfalso;omega)|(exfalso;simp at h;done)))<;>(try simp only [B5]))
 |((with_reducible refine aapp_go ?_);refine aApp_own (by first|exact tez_26) (by assumption) (by assumption) (by decide) (by rfl) (by first|assumption|(simp;done)|(simp;omega)|omega) (by rfl) (by rfl) (by decide) (by omega) (by omega) ?_;intro idn σn hOn hKn eobj enobj ever entop)
 |((with_reducible refine aappn_go ?_);refine aApp_nil (by first|exact tez_26) (by rfl) (by decide) (by rfl) (by rfl) (by decide) (by omega) (by omega) ?_)
 |(simp (maxSteps:=3000000) (disch:=(first|omega|(simp only [List.length_append,B1, *];omega))) only [↓mapA_nil, ↓mapA_cons,List.length_append,B0,B4,awant,undef,aq,al,cst,cst1,acells,flat,behind,abin,aconv,aint,thenQ,blkQ,retQ,Value.cells,Value.oneCell',Int.reduceToNat, ↓reduceIte,Nat.reduceLT,Nat.reduceEqDiff,reduceCtorEq,Nat.reduceAdd,Nat.reduceMul,Nat.reduceLeDiff,u_3,u_5,u_9,telem_9,tez_26, *])
 |(refine hκ.out _ _ ?_;clear hκ κ))
      refine awp_loop (fun m s σ' => ∃ (i f id : Nat) (d : List Tx), m = t.length + 1 - i ∧ i ≤ t.length + 1 ∧ k + 1 ≤ i ∧ f ≤ i ∧ s 0 = str t ∧ s 4 = sl id d.length (d.map str) ∧ s 3 = sc (.int .i64 f) ∧ s 5 = sc (.int .i64 i) ∧ Keep σ σ' ∧ Own σ σ' id d.length ∧ d.length ≤ i ∧ Abs.Hid (((t.drop (k + 1)).take (i - (k + 1))).foldl tmF ([], []) = (d, (t.drop f).take (i - f)))) (t.length + 1 - (k + 1))
        ⟨k + 1, k + 1, 1, [], rfl, by omega, by omega, by omega, by simp [upd, *], by simp [upd], by simp [upd, *], by simp [upd, *], Keep.refl _, Own.nil _ _, by simp, by simp [Abs.Hid]⟩ ?_
      clear h0 h3 hσ
      rintro m s σ2 ⟨i, f, id, d, rfl, hi, hki, hf, h0, h4, h3, h5, hK, hO, hdl, hF⟩
      have kno := hK.nobj
      by_cases hlt2 : i < t.length
      · have hget2 := List.getElem?_eq_getElem hlt2
        generalize t[i] = c at hget2
        by_cases hc : c = 44 ∨ c = 41
        · have HF : Abs.Hid (((t.drop (k + 1)).take (i + 1 - (k + 1))).foldl tmF ([], []) = (d ++ [(t.drop f).take (i - f)], (t.drop (i + 1)).take (i + 1 - (i + 1)))) := by
            rw [Abs.Hid, cur_step hki hget2, List.foldl_append, hF.out, cur_nil]
            show tmF _ c = _
            rw [tmF, if_pos hc]
          clear hF
          rcases hc with rfl | rfl
          · have e1 : ((((44 : UInt8).toNat : Nat) : Int) == 44) = true := rfl
            repeat' (first
 |with_reducible (first|apply awp_seq|apply awp_block|(refine awp_region_k ?_;intro κ hκ)|(refine hκ.out _ _ ?_;clear hκ κ)|apply awp_skip|apply awp_exit|apply awp_ret)
 |((first|with_reducible apply gd_split|((with_reducible refine cond_go ?_);refine awp_cond_split rfl ?_ ?_))<;>intro h<;>(try simp only [upd, ↓reduceIte,Nat.reduceEqDiff,B2] at h)<;>(try simp only [*,reduceCtorEq,decide_true,decide_false] at h)<;>(try (have hari:=h;simp only [B3] at hari))<;>(try (first|contradiction|(exfalso;omega)|(exfalso;simp at h;done)))<;>(try simp only [B5]))
 |((with_reducible refine aapp_go ?_);refine aApp_own (by first|exact tez_26) (by assumption) (by assumption) (by decide) (by rfl) (by first|assumption|(simp;done)|(simp;omega)|omega) (by rfl) (by rfl) (by decide) (by omega) (by omega) ?_;intro idn σn hOn hKn eobj enobj ever entop)
 |((with_reducible refine aappn_go ?_);refine aApp_nil (by first|exact tez_26) (by rfl) (by decide) (by rfl) (by rfl) (by decide) (by omega) (by omega) ?_)
 |(simp (maxSteps:=3000000) (disch:=(first|omega|(simp only [List.length_append,B1, *];omega))) only [↓mapA_nil, ↓mapA_cons,List.length_append,B0,B4,awant,undef,aq,al,cst,cst1,acells,flat,behind,abin,aconv,aint,thenQ,blkQ,retQ,Value.cells,Value.oneCell',Int.reduceToNat, ↓reduceIte,Nat.reduceLT,Nat.reduceEqDiff,reduceCtorEq,Nat.reduceAdd,Nat.reduceMul,Nat.reduceLeDiff,u_3,u_5,u_9,telem_9,tez_26, *])
 |(refine hκ.out _ _ ?_;clear hκ κ))
            all_goals (refine ⟨t.length + 1 - (i + 1), by omega, i + 1, i + 1, idn, d ++ [(t.drop f).take (i - f)], ?_⟩; ((repeat' (with_reducible refine And.intro ?_ ?_)) <;> (first | rfl | assumption | omega | (simp only [new_nobj, put_nobj, lay_nobj]; omega) | (simp; omega) | (simp; done) | exact (HF) | exact ((by simpa using hOn)) | ((repeat (first | exact Keep.refl _ | assumption | (refine Keep.put ?_ (by first | omega | (simp only [new_nobj, put_nobj, lay_nobj, *]; omega)) _) | (refine Keep.new ?_ _) | (refine Keep.lay ?_ _) | (refine Keep.trans ?_ (by assumption)))); done))))
          · have e1 : ((((41 : UInt8).toNat : Nat) : Int) == 44) = false := rfl
            have e2 : ((((41 : UInt8).toNat : Nat) : Int) == 41) = true := rfl
            repeat' (first
 |with_reducible (first|apply awp_seq|apply awp_block|(refine awp_region_k ?_;intro κ hκ)|(refine hκ.out _ _ ?_;clear hκ κ)|apply awp_skip|apply awp_exit|apply awp_ret)
 |((first|with_reducible apply gd_split|((with_reducible refine cond_go ?_);refine awp_cond_split rfl ?_ ?_))<;>intro h<;>(try simp only [upd, ↓reduceIte,Nat.reduceEqDiff,B2] at h)<;>(try simp only [*,reduceCtorEq,decide_true,decide_false] at h)<;>(try (have hari:=h;simp only [B3] at hari))<;>(try (first|contradiction|(exfalso;omega)|(exfalso;simp at h;done)))<;>(try simp only [B5]))
 |((with_reducible refine aapp_go ?_);refine aApp_own (by first|exact tez_26) (by assumption) (by assumption) (by decide) (by rfl) (by first|assumption|(simp;done)|(simp;omega)|omega) (by rfl) (by rfl) (by decide) (by omega) (by omega) ?_;intro idn σn hOn hKn eobj enobj ever entop)
 |((with_reducible refine aappn_go ?_);refine aApp_nil (by first|exact tez_26) (by rfl) (by decide) (by rfl) (by rfl) (by decide) (by omega) (by omega) ?_)
 |(simp (maxSteps:=3000000) (disch:=(first|omega|(simp only [List.length_append,B1, *];omega))) only [↓mapA_nil, ↓mapA_cons,List.length_append,B0,B4,awant,undef,aq,al,cst,cst1,acells,flat,behind,abin,aconv,aint,thenQ,blkQ,retQ,Value.cells,Value.oneCell',Int.reduceToNat, ↓reduceIte,Nat.reduceLT,Nat.reduceEqDiff,reduceCtorEq,Nat.reduceAdd,Nat.reduceMul,Nat.reduceLeDiff,u_3,u_5,u_9,telem_9,tez_26, *])
 |(refine hκ.out _ _ ?_;clear hκ κ))
            all_goals (refine ⟨t.length + 1 - (i + 1), by omega, i + 1, i + 1, idn, d ++ [(t.drop f).take (i - f)], ?_⟩; ((repeat' (with_reducible refine And.intro ?_ ?_)) <;> (first | rfl | assumption | omega | (simp only [new_nobj, put_nobj, lay_nobj]; omega) | (simp; omega) | (simp; done) | exact (HF) | exact ((by simpa using hOn)) | ((repeat (first | exact Keep.refl _ | assumption | (refine Keep.put ?_ (by first | omega | (simp only [new_nobj, put_nobj, lay_nobj, *]; omega)) _) | (refine Keep.new ?_ _) | (refine Keep.lay ?_ _) | (refine Keep.trans ?_ (by assumption)))); done))))
        · have HF : Abs.Hid (((t.drop (k + 1)).take (i + 1 - (k + 1))).foldl tmF ([], []) = (d, (t.drop f).take (i + 1 - f))) := by
            rw [Abs.Hid, cur_step hki hget2, List.foldl_append, hF.out, cur_step hf hget2]
            show tmF _ c = _
            rw [tmF, if_neg hc]
          have e1 := byte_ne (n := 44) 44 rfl (fun e => hc (.inl e))
          have e2 := byte_ne (n := 41) 41 rfl (fun e => hc (.inr e))
          clear hF hc
          repeat' (first
 |with_reducible (first|apply awp_seq|apply awp_block|(refine awp_region_k ?_;intro κ hκ)|(refine hκ.out _ _ ?_;clear hκ κ)|apply awp_skip|apply awp_exit|apply awp_ret)
 |((first|with_reducible apply gd_split|((with_reducible refine cond_go ?_);refine awp_cond_split rfl ?_ ?_))<;>intro h<;>(try simp only [upd, ↓reduceIte,Nat.reduceEqDiff,B2] at h)<;>(try simp only [*,reduceCtorEq,decide_true,decide_false] at h)<;>(try (have hari:=h;simp only [B3] at hari))<;>(try (first|contradiction|(exfalso;omega)|(exfalso;simp at h;done)))<;>(try simp only [B5]))
 |((with_reducible refine aapp_go ?_);refine aApp_own (by first|exact tez_26) (by assumption) (by assumption) (by decide) (by rfl) (by first|assumption|(simp;done)|(simp;omega)|omega) (by rfl) (by rfl) (by decide) (by omega) (by omega) ?_;intro idn σn hOn hKn eobj enobj ever entop)
 |((with_reducible refine aappn_go ?_);refine aApp_nil (by first|exact tez_26) (by rfl) (by decide) (by rfl) (by rfl) (by decide) (by omega) (by omega) ?_)
 |(simp (maxSteps:=3000000) (disch:=(first|omega|(simp only [List.length_append,B1, *];omega))) only [↓mapA_nil, ↓mapA_cons,List.length_append,B0,B4,awant,undef,aq,al,cst,cst1,acells,flat,behind,abin,aconv,aint,thenQ,blkQ,retQ,Value.cells,Value.oneCell',Int.reduceToNat, ↓reduceIte,Nat.reduceLT,Nat.reduceEqDiff,reduceCtorEq,Nat.reduceAdd,Nat.reduceMul,Nat.reduceLeDiff,u_3,u_5,u_9,telem_9,tez_26, *])
 |(refine hκ.out _ _ ?_;clear hκ κ))
          all_goals (refine ⟨t.length + 1 - (i + 1), by omega, i + 1, f, id, d, ?_⟩; ((repeat' (with_reducible refine And.intro ?_ ?_)) <;> (first | rfl | assumption | omega | (simp only [new_nobj, put_nobj, lay_nobj]; omega) | (simp; omega) | (simp; done) | exact (HF) | ((repeat (first | exact Keep.refl _ | assumption | (refine Keep.put ?_ (by first | omega | (simp only [new_nobj, put_nobj, lay_nobj, *]; omega)) _) | (refine Keep.new ?_ _) | (refine Keep.lay ?_ _) | (refine Keep.trans ?_ (by assumption)))); done))))
      · have HP : Abs.Hid (tmsL t = d) := by
          have := hF.out
          rw [List.take_of_length_le (by simp; omega)] at this
          rw [Abs.Hid, tmsL, hin.out, this]
        clear hF hin
        repeat' (first
 |with_reducible (first|apply awp_seq|apply awp_block|(refine awp_region_k ?_;intro κ hκ)|(refine hκ.out _ _ ?_;clear hκ κ)|apply awp_skip|apply awp_exit|apply awp_ret)
 |((first|with_reducible apply gd_split|((with_reducible refine cond_go ?_);refine awp_cond_split rfl ?_ ?_))<;>intro h<;>(try simp only [upd, ↓reduceIte,Nat.reduceEqDiff,B2] at h)<;>(try simp only [*,reduceCtorEq,decide_true,decide_false] at h)<;>(try (have hari:=h;simp only [B3] at hari))<;>(try (first|contradiction|(exfalso;omega)|(exfalso;simp at h;done)))<;>(try simp only [B5]))
 |((with_reducible refine aapp_go ?_);refine aApp_own (by first|exact tez_26) (by assumption) (by assumption) (by decide) (by rfl) (by first|assumption|(simp;done)|(simp;omega)|omega) (by rfl) (by rfl) (by decide) (by omega) (by omega) ?_;intro idn σn hOn hKn eobj enobj ever entop)
 |((with_reducible refine aappn_go ?_);refine aApp_nil (by first|exact tez_26) (by rfl) (by decide) (by rfl) (by rfl) (by decide) (by omega) (by omega) ?_)
 |(simp (maxSteps:=3000000) (disch:=(first|omega|(simp only [List.length_append,B1, *];omega))) only [↓mapA_nil, ↓mapA_cons,List.length_append,B0,B4,awant,undef,aq,al,cst,cst1,acells,flat,behind,abin,aconv,aint,thenQ,blkQ,retQ,Value.cells,Value.oneCell',Int.reduceToNat, ↓reduceIte,Nat.reduceLT,Nat.reduceEqDiff,reduceCtorEq,Nat.reduceAdd,Nat.reduceMul,Nat.reduceLeDiff,u_3,u_5,u_9,telem_9,tez_26, *])
 |(refine hκ.out _ _ ?_;clear hκ κ))
        first | exact ⟨_, rfl, ⟨id, by rw [HP.out]⟩, hK⟩ | exact ⟨_, rfl, id, by rw [HP.out]⟩
    · have hkb : decide ((k : Int) < (t.length : Int)) = false := by simp; omega
      repeat' (first
 |with_reducible (first|apply awp_seq|apply awp_block|(refine awp_region_k ?_;intro κ hκ)|(refine hκ.out _ _ ?_;clear hκ κ)|apply awp_skip|apply awp_exit|apply awp_ret)
 |((first|with_reducible apply gd_split|((with_reducible refine cond_go ?_);refine awp_cond_split rfl ?_ ?_))<;>intro h<;>(try simp only [upd, ↓reduceIte,Nat.reduceEqDiff,B2] at h)<;>(try simp only [*,reduceCtorEq,decide_true,decide_false] at h)<;>(try (have hari:=h;simp only [B3] at hari))<;>(try (first|contradiction|(exfalso;omega)|(exfalso;simp at h;done)))<;>(try simp only [B5]))
 |((with_reducible refine aapp_go ?_);refine aApp_own (by first|exact tez_26) (by assumption) (by assumption) (by decide) (by rfl) (by first|assumption|(simp;done)|(simp;omega)|omega) (by rfl) (by rfl) (by decide) (by omega) (by omega) ?_;intro idn σn hOn hKn eobj enobj ever entop)
 |((with_reducible refine aappn_go ?_);refine aApp_nil (by first|exact tez_26) (by rfl) (by decide) (by rfl) (by rfl) (by decide) (by omega) (by omega) ?_)
 |(simp (maxSteps:=3000000) (disch:=(first|omega|(simp only [List.length_append,B1, *];omega))) only [↓mapA_nil, ↓mapA_cons,List.length_append,B0,B4,awant,undef,aq,al,cst,cst1,acells,flat,behind,abin,aconv,aint,thenQ,blkQ,retQ,Value.cells,Value.oneCell',Int.reduceToNat, ↓reduceIte,Nat.reduceLT,Nat.reduceEqDiff,reduceCtorEq,Nat.reduceAdd,Nat.reduceMul,Nat.reduceLeDiff,u_3,u_5,u_9,telem_9,tez_26, *])
 |(refine hκ.out _ _ ?_;clear hκ κ))
      refine awp_loop (fun m s σ' => ∃ (i f id : Nat) (d : List Tx), m = t.length + 1 - i ∧ i ≤ t.length + 1 ∧ k + 1 ≤ i ∧ f ≤ i ∧ s 0 = str t ∧ s 4 = sl id d.length (d.map str) ∧ s 3 = sc (.int .i64 f) ∧ s 5 = sc (.int .i64 i) ∧ Keep σ σ' ∧ Own σ σ' id d.length ∧ d.length ≤ i ∧ Abs.Hid (((t.drop (k + 1)).take (i - (k + 1))).foldl tmF ([], []) = (d, (t.drop f).take (i - f)))) (t.length + 1 - (k + 1))
        ⟨k + 1, k + 1, 1, [], rfl, by omega, by omega, by omega, by simp [upd, *], by simp [upd], by simp [upd, *], by simp [upd, *], Keep.refl _, Own.nil _ _, by simp, by simp [Abs.Hid]⟩ ?_
      clear h0 h3 hσ
      rintro m s σ2 ⟨i, f, id, d, rfl, hi, hki, hf, h0, h4, h3, h5, hK, hO, hdl, hF⟩
      have kno := hK.nobj
      by_cases hlt2 : i < t.length
      · have hget2 := List.getElem?_eq_getElem hlt2
        generalize t[i] = c at hget2
        by_cases hc : c = 44 ∨ c = 41
        · have HF : Abs.Hid (((t.drop (k + 1)).take (i + 1 - (k + 1))).foldl tmF ([], []) = (d ++ [(t.drop f).take (i - f)], (t.drop (i + 1)).take (i + 1 - (i + 1)))) := by
            rw [Abs.Hid, cur_step hki hget2, List.foldl_append, hF.out, cur_nil]
            show tmF _ c = _
            rw [tmF, if_pos hc]
          clear hF
          rcases hc with rfl | rfl
          · have e1 : ((((44 : UInt8).toNat : Nat) : Int) == 44) = true := rfl
            repeat' (first
 |with_reducible (first|apply awp_seq|apply awp_block|(refine awp_region_k ?_;intro κ hκ)|(refine hκ.out _ _ ?_;clear hκ κ)|apply awp_skip|apply awp_exit|apply awp_ret)
 |((first|with_reducible apply gd_split|((with_reducible refine cond_go ?_);refine awp_cond_split rfl ?_ ?_))<;>intro h<;>(try simp only [upd, ↓reduceIte,Nat.reduceEqDiff,B2] at h)<;>(try simp only [*,reduceCtorEq,decide_true,decide_false] at h)<;>(try (have hari:=h;simp only [B3] at hari))<;>(try (first|contradiction|(exfalso;omega)|(exfalso;simp at h;done)))<;>(try simp only [B5]))
 |((with_reducible refine aapp_go ?_);refine aApp_own (by first|exact tez_26) (by assumption) (by assumption) (by decide) (by rfl) (by first|assumption|(simp;done)|(simp;omega)|omega) (by rfl) (by rfl) (by decide) (by omega) (by omega) ?_;intro idn σn hOn hKn eobj enobj ever entop)
 |((with_reducible refine aappn_go ?_);refine aApp_nil (by first|exact tez_26) (by rfl) (by decide) (by rfl) (by rfl) (by decide) (by omega) (by omega) ?_)
 |(simp (maxSteps:=3000000) (disch:=(first|omega|(simp only [List.length_append,B1, *];omega))) only [↓mapA_nil, ↓mapA_cons,List.length_append,B0,B4,awant,undef,aq,al,cst,cst1,acells,flat,behind,abin,aconv,aint,thenQ,blkQ,retQ,Value.cells,Value.oneCell',Int.reduceToNat, ↓reduceIte,Nat.reduceLT,Nat.reduceEqDiff,reduceCtorEq,Nat.reduceAdd,Nat.reduceMul,Nat.reduceLeDiff,u_3,u_5,u_9,telem_9,tez_26, *])
 |(refine hκ.out _ _ ?_;clear hκ κ))
            all_goals (refine ⟨t.length + 1 - (i + 1), by omega, i + 1, i + 1, idn, d ++ [(t.drop f).take (i - f)], ?_⟩; ((repeat' (with_reducible refine And.intro ?_ ?_)) <;> (first | rfl | assumption | omega | (simp only [new_nobj, put_nobj, lay_nobj]; omega) | (simp; omega) | (simp; done) | exact (HF) | exact ((by simpa using hOn)) | ((repeat (first | exact Keep.refl _ | assumption | (refine Keep.put ?_ (by first | omega | (simp only [new_nobj, put_nobj, lay_nobj, *]; omega)) _) | (refine Keep.new ?_ _) | (refine Keep.lay ?_ _) | (refine Keep.trans ?_ (by assumption)))); done))))
          · have e1 : ((((41 : UInt8).toNat : Nat) : Int) == 44) = false := rfl
            have e2 : ((((41 : UInt8).toNat : Nat) : Int) == 41) = true := rfl
            repeat' (first
 |with_reducible (first|apply awp_seq|apply awp_block|(refine awp_region_k ?_;intro κ hκ)|(refine hκ.out _ _ ?_;clear hκ κ)|apply awp_skip|apply awp_exit|apply awp_ret)
 |((first|with_reducible apply gd_split|((with_reducible refine cond_go ?_);refine awp_cond_split rfl ?_ ?_))<;>intro h<;>(try simp only [upd, ↓reduceIte,Nat.reduceEqDiff,B2] at h)<;>(try simp only [*,reduceCtorEq,decide_true,decide_false] at h)<;>(try (have hari:=h;simp only [B3] at hari))<;>(try (first|contradiction|(exfalso;omega)|(exfalso;simp at h;done)))<;>(try simp only [B5]))
 |((with_reducible refine aapp_go ?_);refine aApp_own (by first|exact tez_26) (by assumption) (by assumption) (by decide) (by rfl) (by first|assumption|(simp;done)|(simp;omega)|omega) (by rfl) (by rfl) (by decide) (by omega) (by omega) ?_;intro idn σn hOn hKn eobj enobj ever entop)
 |((with_reducible refine aappn_go ?_);refine aApp_nil (by first|exact tez_26) (by rfl) (by decide) (by rfl) (by rfl) (by decide) (by omega) (by omega) ?_)
 |(simp (maxSteps:=3000000) (disch:=(first|omega|(simp only [List.length_append,B1, *];omega))) only [↓mapA_nil, ↓mapA_cons,List.length_append,B0,B4,awant,undef,aq,al,cst,cst1,acells,flat,behind,abin,aconv,aint,thenQ,blkQ,retQ,Value.cells,Value.oneCell',Int.reduceToNat, ↓reduceIte,Nat.reduceLT,Nat.reduceEqDiff,reduceCtorEq,Nat.reduceAdd,Nat.reduceMul,Nat.reduceLeDiff,u_3,u_5,u_9,telem_9,tez_26, *])
 |(refine hκ.out _ _ ?_;clear hκ κ))
            all_goals (refine ⟨t.length + 1 - (i + 1), by omega, i + 1, i + 1, idn, d ++ [(t.drop f).take (i - f)], ?_⟩; ((repeat' (with_reducible refine And.intro ?_ ?_)) <;> (first | rfl | assumption | omega | (simp only [new_nobj, put_nobj, lay_nobj]; omega) | (simp; omega) | (simp; done) | exact (HF) | exact ((by simpa using hOn)) | ((repeat (first | exact Keep.refl _ | assumption | (refine Keep.put ?_ (by first | omega | (simp only [new_nobj, put_nobj, lay_nobj, *]; omega)) _) | (refine Keep.new ?_ _) | (refine Keep.lay ?_ _) | (refine Keep.trans ?_ (by assumption)))); done))))
        · have HF : Abs.Hid (((t.drop (k + 1)).take (i + 1 - (k + 1))).foldl tmF ([], []) = (d, (t.drop f).take (i + 1 - f))) := by
            rw [Abs.Hid, cur_step hki hget2, List.foldl_append, hF.out, cur_step hf hget2]
            show tmF _ c = _
            rw [tmF, if_neg hc]
          have e1 := byte_ne (n := 44) 44 rfl (fun e => hc (.inl e))
          have e2 := byte_ne (n := 41) 41 rfl (fun e => hc (.inr e))
          clear hF hc
          repeat' (first
 |with_reducible (first|apply awp_seq|apply awp_block|(refine awp_region_k ?_;intro κ hκ)|(refine hκ.out _ _ ?_;clear hκ κ)|apply awp_skip|apply awp_exit|apply awp_ret)
 |((first|with_reducible apply gd_split|((with_reducible refine cond_go ?_);refine awp_cond_split rfl ?_ ?_))<;>intro h<;>(try simp only [upd, ↓reduceIte,Nat.reduceEqDiff,B2] at h)<;>(try simp only [*,reduceCtorEq,decide_true,decide_false] at h)<;>(try (have hari:=h;simp only [B3] at hari))<;>(try (first|contradiction|(exfalso;omega)|(exfalso;simp at h;done)))<;>(try simp only [B5]))
 |((with_reducible refine aapp_go ?_);refine aApp_own (by first|exact tez_26) (by assumption) (by assumption) (by decide) (by rfl) (by first|assumption|(simp;done)|(simp;omega)|omega) (by rfl) (by rfl) (by decide) (by omega) (by omega) ?_;intro idn σn hOn hKn eobj enobj ever entop)
 |((with_reducible refine aappn_go ?_);refine aApp_nil (by first|exact tez_26) (by rfl) (by decide) (by rfl) (by rfl) (by decide) (by omega) (by omega) ?_)
 |(simp (maxSteps:=3000000) (disch:=(first|omega|(simp only [List.length_append,B1, *];omega))) only [↓mapA_nil, ↓mapA_cons,List.length_append,B0,B4,awant,undef,aq,al,cst,cst1,acells,flat,behind,abin,aconv,aint,thenQ,blkQ,retQ,Value.cells,Value.oneCell',Int.reduceToNat, ↓reduceIte,Nat.reduceLT,Nat.reduceEqDiff,reduceCtorEq,Nat.reduceAdd,Nat.reduceMul,Nat.reduceLeDiff,u_3,u_5,u_9,telem_9,tez_26, *])
 |(refine hκ.out _ _ ?_;clear hκ κ))
          all_goals (refine ⟨t.length + 1 - (i + 1), by omega, i + 1, f, id, d, ?_⟩; ((repeat' (with_reducible refine And.intro ?_ ?_)) <;> (first | rfl | assumption | omega | (simp only [new_nobj, put_nobj, lay_nobj]; omega) | (simp; omega) | (simp; done) | exact (HF) | ((repeat (first | exact Keep.refl _ | assumption | (refine Keep.put ?_ (by first | omega | (simp only [new_nobj, put_nobj, lay_nobj, *]; omega)) _) | (refine Keep.new ?_ _) | (refine Keep.lay ?_ _) | (refine Keep.trans ?_ (by assumption)))); done))))
      · have HP : Abs.Hid (tmsL t = d) := by
          have := hF.out
          rw [List.take_of_length_le (by simp; omega)] at this
          rw [Abs.Hid, tmsL, hin.out, this]
        clear hF hin
        repeat' (first
 |with_reducible (first|apply awp_seq|apply awp_block|(refine awp_region_k ?_;intro κ hκ)|(refine hκ.out _ _ ?_;clear hκ κ)|apply awp_skip|apply awp_exit|apply awp_ret)
 |((first|with_reducible apply gd_split|((with_reducible refine cond_go ?_);refine awp_cond_split rfl ?_ ?_))<;>intro h<;>(try simp only [upd, ↓reduceIte,Nat.reduceEqDiff,B2] at h)<;>(try simp only [*,reduceCtorEq,decide_true,decide_false] at h)<;>(try (have hari:=h;simp only [B3] at hari))<;>(try (first|contradiction|(exfalso;omega)|(exfalso;simp at h;done)))<;>(try simp only [B5]))
 |((with_reducible refine aapp_go ?_);refine aApp_own (by first|exact tez_26) (by assumption) (by assumption) (by decide) (by rfl) (by first|assumption|(simp;done)|(simp;omega)|omega) (by rfl) (by rfl) (by decide) (by omega) (by omega) ?_;intro idn σn hOn hKn eobj enobj ever entop)
 |((with_reducible refine aappn_go ?_);refine aApp_nil (by first|exact tez_26) (by rfl) (by decide) (by rfl) (by rfl) (by decide) (by omega) (by omega) ?_)
 |(simp (maxSteps:=3000000) (disch:=(first|omega|(simp only [List.length_append,B1, *];omega))) only [↓mapA_nil, ↓mapA_cons,List.length_append,B0,B4,awant,undef,aq,al,cst,cst1,acells,flat,behind,abin,aconv,aint,thenQ,blkQ,retQ,Value.cells,Value.oneCell',Int.reduceToNat, ↓reduceIte,Nat.reduceLT,Nat.reduceEqDiff,reduceCtorEq,Nat.reduceAdd,Nat.reduceMul,Nat.reduceLeDiff,u_3,u_5,u_9,telem_9,tez_26, *])
 |(refine hκ.out _ _ ?_;clear hκ κ))
        first | exact ⟨_, rfl, ⟨id, by rw [HP.out]⟩, hK⟩ | exact ⟨_, rfl, id, by rw [HP.out]⟩
theorem large_nat {c : UInt8} (h : largeB c.toNat = true) : 65 ≤ c.toNat ∧ c.toNat ≤ 90 := by
  simp only [largeB, Bool.and_eq_true, decide_eq_true_eq] at h
  omega
set_option maxHeartbeats 16000000 in
theorem kvariables_spec (t : Tx) (ht : t.length ≤ 100000) (σ : St) : ACalls Tryd.prog 17 [str t] σ fun r σ' => r = sc (.int .i64 (vrsL t : Nat)) ∧ Keep σ σ' := by
  have hLg := fun c σ => klarge_spec c σ
  refine acalls 31 [.tmp 2] Tryd.func17 rfl (by decide) rfl rfl (Nat.le_of_ble_eq_true rfl) ?_
  repeat' (first
 |with_reducible (first|apply awp_seq|apply awp_block|(refine awp_region_k ?_;intro κ hκ)|(refine hκ.out _ _ ?_;clear hκ κ)|apply awp_skip|apply awp_exit|apply awp_ret)
 |((first|with_reducible apply gd_split|((with_reducible refine cond_go ?_);refine awp_cond_split rfl ?_ ?_))<;>intro h<;>(try simp only [upd, ↓reduceIte,Nat.reduceEqDiff,B2] at h)<;>(try simp only [*,reduceCtorEq,decide_true,decide_false] at h)<;>(try (have hari:=h;simp only [B3] at hari))<;>(try (first|contradiction|(exfalso;omega)|(exfalso;simp at h;done)))<;>(try simp only [B5]))
 |(simp (maxSteps:=3000000) (disch:=(first|omega|(simp only [List.length_append,B1, *];omega))) only [↓mapA_nil, ↓mapA_cons,List.length_append,B0,B4,awant,undef,aq,al,cst,cst1,acells,flat,behind,abin,aconv,aint,thenQ,blkQ,retQ,Value.cells,Value.oneCell',Int.reduceToNat, ↓reduceIte,Nat.reduceLT,Nat.reduceEqDiff,reduceCtorEq,Nat.reduceAdd,Nat.reduceMul,Nat.reduceLeDiff,u_3,u_5,u_9,telem_9, *])
 |(refine hκ.out _ _ ?_;clear hκ κ))
  refine awp_loop (fun m s σ' => ∃ i n : Nat, m = t.length - i ∧ i ≤ t.length ∧ n ≤ 26 ∧ s 0 = str t ∧ s 3 = sc (.int .i64 n) ∧ s 4 = sc (.int .i64 i) ∧ σ' = σ ∧ Abs.Hid ((t.take i).foldl vrF 0 = n)) t.length
    ⟨0, 0, by omega, by omega, by omega, rfl, rfl, rfl, rfl, by simp [Abs.Hid]⟩ ?_
  rintro m s σ1 ⟨i, n, rfl, hi, hn, h0, h3, h4, hσ, hF⟩
  by_cases hlt : i < t.length
  · have hget := List.getElem?_eq_getElem hlt
    generalize t[i] = c at hget
    have hLg := hLg c.toNat
    have hst := fold_take (f := vrF) (a := 0) hget
    rw [hF.out, vrF] at hst
    cases hl : largeB c.toNat with
    | false =>
      rw [hl] at hLg hst
      have HF : Abs.Hid ((t.take (i + 1)).foldl vrF 0 = n) := by rw [Abs.Hid, hst]; simp
      clear hF hst hl
      repeat' (first
 |with_reducible (first|apply awp_seq|apply awp_block|(refine awp_region_k ?_;intro κ hκ)|(refine hκ.out _ _ ?_;clear hκ κ)|apply awp_skip|apply awp_exit|apply awp_ret)
 |((first|with_reducible apply gd_split|((with_reducible refine cond_go ?_);refine awp_cond_split rfl ?_ ?_))<;>intro h<;>(try simp only [upd, ↓reduceIte,Nat.reduceEqDiff,B2] at h)<;>(try simp only [*,reduceCtorEq,decide_true,decide_false] at h)<;>(try (have hari:=h;simp only [B3] at hari))<;>(try (first|contradiction|(exfalso;omega)|(exfalso;simp at h;done)))<;>(try simp only [B5]))
 |((with_reducible refine acalls_go ?_);refine ACalls.mono (hLg _) ?_;rintro _ _ ⟨rfl,rfl⟩)
 |(simp (maxSteps:=3000000) (disch:=(first|omega|(simp only [List.length_append,B1, *];omega))) only [↓mapA_nil, ↓mapA_cons,List.length_append,B0,B4,awant,undef,aq,al,cst,cst1,acells,flat,behind,abin,aconv,aint,thenQ,blkQ,retQ,Value.cells,Value.oneCell',Int.reduceToNat, ↓reduceIte,Nat.reduceLT,Nat.reduceEqDiff,reduceCtorEq,Nat.reduceAdd,Nat.reduceMul,Nat.reduceLeDiff,u_3,u_5,u_9,telem_9, *])
 |(refine hκ.out _ _ ?_;clear hκ κ))
      refine ⟨t.length - (i + 1), by omega, i + 1, n, ?_⟩
      ((repeat' (with_reducible refine And.intro ?_ ?_)) <;> (first | rfl | assumption | omega | (simp only [new_nobj, put_nobj, lay_nobj]; omega) | (simp; omega) | (simp; done) | exact (HF) | ((repeat (first | exact Keep.refl _ | assumption | (refine Keep.put ?_ (by first | omega | (simp only [new_nobj, put_nobj, lay_nobj, *]; omega)) _) | (refine Keep.new ?_ _) | (refine Keep.lay ?_ _) | (refine Keep.trans ?_ (by assumption)))); done)))
    | true =>
      obtain ⟨l1, l2⟩ := large_nat hl
      rw [hl] at hLg hst
      have hw8 : IntKind.u8.wrap ((c.toNat : Int) - 65) = ((c.toNat - 65 : Nat) : Int) := by rw [u8w (by omega) (by omega)]; omega
      by_cases hge : n ≤ c.toNat - 65
      · have HF : Abs.Hid ((t.take (i + 1)).foldl vrF 0 = c.toNat - 65 + 1) := by rw [Abs.Hid, hst, if_pos ⟨rfl, hge⟩]
        clear hF hst hl
        generalize hcm : c.toNat - 65 = cm at *
        have hgb : decide ((n : Int) ≤ (cm : Int)) = true := by simp; omega
        have hcm2 : cm ≤ 25 := by omega
        clear hcm hge
        repeat' (first
 |with_reducible (first|apply awp_seq|apply awp_block|(refine awp_region_k ?_;intro κ hκ)|(refine hκ.out _ _ ?_;clear hκ κ)|apply awp_skip|apply awp_exit|apply awp_ret)
 |((first|with_reducible apply gd_split|((with_reducible refine cond_go ?_);refine awp_cond_split rfl ?_ ?_))<;>intro h<;>(try simp only [upd, ↓reduceIte,Nat.reduceEqDiff,B2] at h)<;>(try simp only [*,reduceCtorEq,decide_true,decide_false] at h)<;>(try (have hari:=h;simp only [B3] at hari))<;>(try (first|contradiction|(exfalso;omega)|(exfalso;simp at h;done)))<;>(try simp only [B5]))
 |((with_reducible refine acalls_go ?_);refine ACalls.mono (hLg _) ?_;rintro _ _ ⟨rfl,rfl⟩)
 |(simp (maxSteps:=3000000) (disch:=(first|omega|(simp only [List.length_append,B1, *];omega))) only [↓mapA_nil, ↓mapA_cons,List.length_append,B0,B4,awant,undef,aq,al,cst,cst1,acells,flat,behind,abin,aconv,aint,thenQ,blkQ,retQ,Value.cells,Value.oneCell',Int.reduceToNat, ↓reduceIte,Nat.reduceLT,Nat.reduceEqDiff,reduceCtorEq,Nat.reduceAdd,Nat.reduceMul,Nat.reduceLeDiff,u_3,u_5,u_9,telem_9, *])
 |(refine hκ.out _ _ ?_;clear hκ κ))
        refine ⟨t.length - (i + 1), by omega, i + 1, cm + 1, ?_⟩
        ((repeat' (with_reducible refine And.intro ?_ ?_)) <;> (first | rfl | assumption | omega | (simp only [new_nobj, put_nobj, lay_nobj]; omega) | (simp; omega) | (simp; done) | exact (HF) | ((repeat (first | exact Keep.refl _ | assumption | (refine Keep.put ?_ (by first | omega | (simp only [new_nobj, put_nobj, lay_nobj, *]; omega)) _) | (refine Keep.new ?_ _) | (refine Keep.lay ?_ _) | (refine Keep.trans ?_ (by assumption)))); done)))
      · have HF : Abs.Hid ((t.take (i + 1)).foldl vrF 0 = n) := by rw [Abs.Hid, hst, if_neg (fun h => hge h.2)]
        clear hF hst hl
        generalize hcm : c.toNat - 65 = cm at *
        have hgb : decide ((n : Int) ≤ (cm : Int)) = false := by simp; omega
        have hcm2 : cm ≤ 25 := by omega
        clear hcm hge
        repeat' (first
 |with_reducible (first|apply awp_seq|apply awp_block|(refine awp_region_k ?_;intro κ hκ)|(refine hκ.out _ _ ?_;clear hκ κ)|apply awp_skip|apply awp_exit|apply awp_ret)
 |((first|with_reducible apply gd_split|((with_reducible refine cond_go ?_);refine awp_cond_split rfl ?_ ?_))<;>intro h<;>(try simp only [upd, ↓reduceIte,Nat.reduceEqDiff,B2] at h)<;>(try simp only [*,reduceCtorEq,decide_true,decide_false] at h)<;>(try (have hari:=h;simp only [B3] at hari))<;>(try (first|contradiction|(exfalso;omega)|(exfalso;simp at h;done)))<;>(try simp only [B5]))
 |((with_reducible refine acalls_go ?_);refine ACalls.mono (hLg _) ?_;rintro _ _ ⟨rfl,rfl⟩)
 |(simp (maxSteps:=3000000) (disch:=(first|omega|(simp only [List.length_append,B1, *];omega))) only [↓mapA_nil, ↓mapA_cons,List.length_append,B0,B4,awant,undef,aq,al,cst,cst1,acells,flat,behind,abin,aconv,aint,thenQ,blkQ,retQ,Value.cells,Value.oneCell',Int.reduceToNat, ↓reduceIte,Nat.reduceLT,Nat.reduceEqDiff,reduceCtorEq,Nat.reduceAdd,Nat.reduceMul,Nat.reduceLeDiff,u_3,u_5,u_9,telem_9, *])
 |(refine hκ.out _ _ ?_;clear hκ κ))
        refine ⟨t.length - (i + 1), by omega, i + 1, n, ?_⟩
        ((repeat' (with_reducible refine And.intro ?_ ?_)) <;> (first | rfl | assumption | omega | (simp only [new_nobj, put_nobj, lay_nobj]; omega) | (simp; omega) | (simp; done) | exact (HF) | ((repeat (first | exact Keep.refl _ | assumption | (refine Keep.put ?_ (by first | omega | (simp only [new_nobj, put_nobj, lay_nobj, *]; omega)) _) | (refine Keep.new ?_ _) | (refine Keep.lay ?_ _) | (refine Keep.trans ?_ (by assumption)))); done)))
  · have hil : i = t.length := by omega
    have HF : Abs.Hid (vrsL t = n) := by
      have := hF.out
      rw [hil, List.take_length] at this
      exact this
    clear hF
    repeat' (first
 |with_reducible (first|apply awp_seq|apply awp_block|(refine awp_region_k ?_;intro κ hκ)|(refine hκ.out _ _ ?_;clear hκ κ)|apply awp_skip|apply awp_exit|apply awp_ret)
 |((first|with_reducible apply gd_split|((with_reducible refine cond_go ?_);refine awp_cond_split rfl ?_ ?_))<;>intro h<;>(try simp only [upd, ↓reduceIte,Nat.reduceEqDiff,B2] at h)<;>(try simp only [*,reduceCtorEq,decide_true,decide_false] at h)<;>(try (have hari:=h;simp only [B3] at hari))<;>(try (first|contradiction|(exfalso;omega)|(exfalso;simp at h;done)))<;>(try simp only [B5]))
 |(simp (maxSteps:=3000000) (disch:=(first|omega|(simp only [List.length_append,B1, *];omega))) only [↓mapA_nil, ↓mapA_cons,List.length_append,B0,B4,awant,undef,aq,al,cst,cst1,acells,flat,behind,abin,aconv,aint,thenQ,blkQ,retQ,Value.cells,Value.oneCell',Int.reduceToNat, ↓reduceIte,Nat.reduceLT,Nat.reduceEqDiff,reduceCtorEq,Nat.reduceAdd,Nat.reduceMul,Nat.reduceLeDiff,u_3,u_5,u_9,telem_9, *])
 |(refine hκ.out _ _ ?_;clear hκ κ))
    first | exact ⟨_, rfl, by rw [HF.out], Keep.refl _⟩ | exact ⟨_, rfl, by rw [HF.out]⟩
set_option maxHeartbeats 16000000 in
theorem kreplaced_spec (t : Tx) (put : List Tx) (idp : Nat) (ht : t.length ≤ 100000) (hp : put.length ≤ 1000) (hs : ∀ u ∈ put, u.length ≤ 1000) (σ : St) : ACalls Tryd.prog 18 [str t, sl idp put.length (put.map str)] σ fun r σ' => r = str (rpL put t) ∧ Keep σ σ' := by
  have hLg := fun c σ => klarge_spec c σ
  refine acalls 43 [.tmp 4] Tryd.func18 rfl (by decide) rfl rfl (Nat.le_of_ble_eq_true rfl) ?_
  repeat' (first
 |with_reducible (first|apply awp_seq|apply awp_block|(refine awp_region_k ?_;intro κ hκ)|(refine hκ.out _ _ ?_;clear hκ κ)|apply awp_skip|apply awp_exit|apply awp_ret)
 |((first|with_reducible apply gd_split|((with_reducible refine cond_go ?_);refine awp_cond_split rfl ?_ ?_))<;>intro h<;>(try simp only [upd, ↓reduceIte,Nat.reduceEqDiff,B2] at h)<;>(try simp only [*,reduceCtorEq,decide_true,decide_false] at h)<;>(try (have hari:=h;simp only [B3] at hari))<;>(try (first|contradiction|(exfalso;omega)|(exfalso;simp at h;done)))<;>(try simp only [B5]))
 |(simp (maxSteps:=3000000) (disch:=(first|omega|(simp only [List.length_append,B1, *];omega))) only [↓mapA_nil, ↓mapA_cons,List.length_append,B0,B4,awant,undef,aq,al,cst,cst1,acells,flat,behind,abin,aconv,aint,thenQ,blkQ,retQ,Value.cells,Value.oneCell',Int.reduceToNat, ↓reduceIte,Nat.reduceLT,Nat.reduceEqDiff,reduceCtorEq,Nat.reduceAdd,Nat.reduceMul,Nat.reduceLeDiff,u_26,u_3,u_5,u_9,telem_26,telem_9,tsz_9, *])
 |(refine hκ.out _ _ ?_;clear hκ κ))
  refine awp_loop (fun m s σ' => ∃ (i : Nat) (acc : Tx), m = t.length - i ∧ i ≤ t.length ∧ acc.length ≤ i * 1001 ∧ s 0 = str t ∧ s 1 = sl idp put.length (put.map str) ∧ s 5 = str acc ∧ s 6 = sc (.int .i64 i) ∧ σ' = σ ∧ Abs.Hid (rpL put (t.take i) = acc)) t.length
    ⟨0, [], by omega, by omega, by simp, rfl, rfl, rfl, rfl, rfl, by simp [Abs.Hid, rpL]⟩ ?_
  rintro m s σ1 ⟨i, acc, rfl, hi, hal, h0, h1, h5, h6, hσ, hF⟩
  by_cases hlt : i < t.length
  · have hget := List.getElem?_eq_getElem hlt
    have hone : (t.drop i).take (((i : Int) + 1).toNat - i) = [t[i]] := by
      rw [show ((i : Int) + 1).toNat - i = 1 by omega, List.drop_eq_getElem_cons hlt]; rfl
    generalize t[i] = c at hget hone
    have hLg := hLg c.toNat
    have hst : rpL put (t.take (i + 1)) = acc ++ rpF put c := by
      rw [List.take_add_one, hget, Option.toList_some, rp_append, hF.out]; simp [rpL]
    rw [rpF] at hst
    cases hl : largeB c.toNat with
    | false =>
      rw [hl] at hLg hst
      have HF : Abs.Hid (rpL put (t.take (i + 1)) = acc ++ [c]) := by rw [Abs.Hid, hst]; simp
      have hcb := c.toNat_lt
      clear hF hst hl
      repeat' (first
 |with_reducible (first|apply awp_seq|apply awp_block|(refine awp_region_k ?_;intro κ hκ)|(refine hκ.out _ _ ?_;clear hκ κ)|apply awp_skip|apply awp_exit|apply awp_ret)
 |((first|with_reducible apply gd_split|((with_reducible refine cond_go ?_);refine awp_cond_split rfl ?_ ?_))<;>intro h<;>(try simp only [upd, ↓reduceIte,Nat.reduceEqDiff,B2] at h)<;>(try simp only [*,reduceCtorEq,decide_true,decide_false] at h)<;>(try (have hari:=h;simp only [B3] at hari))<;>(try (first|contradiction|(exfalso;omega)|(exfalso;simp at h;done)))<;>(try simp only [B5]))
 |((with_reducible refine acalls_go ?_);refine ACalls.mono (hLg _) ?_;rintro _ _ ⟨rfl,rfl⟩)
 |(simp (maxSteps:=3000000) (disch:=(first|omega|(simp only [List.length_append,B1, *];omega))) only [↓mapA_nil, ↓mapA_cons,List.length_append,B0,B4,awant,undef,aq,al,cst,cst1,acells,flat,behind,abin,aconv,aint,thenQ,blkQ,retQ,Value.cells,Value.oneCell',Int.reduceToNat, ↓reduceIte,Nat.reduceLT,Nat.reduceEqDiff,reduceCtorEq,Nat.reduceAdd,Nat.reduceMul,Nat.reduceLeDiff,u_26,u_3,u_5,u_9,telem_26,telem_9,tsz_9, *])
 |(refine hκ.out _ _ ?_;clear hκ κ))
      refine ⟨t.length - (i + 1), by omega, i + 1, acc ++ [c], ?_⟩
      ((repeat' (with_reducible refine And.intro ?_ ?_)) <;> (first | rfl | assumption | omega | (simp only [new_nobj, put_nobj, lay_nobj]; omega) | (simp; omega) | (simp; done) | exact (HF) | ((repeat (first | exact Keep.refl _ | assumption | (refine Keep.put ?_ (by first | omega | (simp only [new_nobj, put_nobj, lay_nobj, *]; omega)) _) | (refine Keep.new ?_ _) | (refine Keep.lay ?_ _) | (refine Keep.trans ?_ (by assumption)))); done)))
    | true =>
      obtain ⟨l1, l2⟩ := large_nat hl
      rw [hl] at hLg hst
      by_cases hge : c.toNat - 65 < put.length
      · have hgp := List.getElem?_eq_getElem hge
        have hdr := map_str_get hge
        have hul := hs put[c.toNat - 65] (List.getElem_mem hge)
        rw [if_pos ⟨rfl, hge⟩, hgp] at hst
        generalize put[c.toNat - 65] = u at hgp hdr hul hst
        have HF : Abs.Hid (rpL put (t.take (i + 1)) = acc ++ u) := by rw [Abs.Hid, hst]; simp
        clear hF hst hl hgp
        generalize hcm : c.toNat - 65 = cm at *
        have hcc : ((c.toNat : Nat) : Int) - 65 = (cm : Int) := by omega
        have hgb : decide ((cm : Int) < (put.length : Int)) = true := by simp; omega
        clear hcm
        repeat' (first
 |with_reducible (first|apply awp_seq|apply awp_block|(refine awp_region_k ?_;intro κ hκ)|(refine hκ.out _ _ ?_;clear hκ κ)|apply awp_skip|apply awp_exit|apply awp_ret)
 |((first|with_reducible apply gd_split|((with_reducible refine cond_go ?_);refine awp_cond_split rfl ?_ ?_))<;>intro h<;>(try simp only [upd, ↓reduceIte,Nat.reduceEqDiff,B2] at h)<;>(try simp only [*,reduceCtorEq,decide_true,decide_false] at h)<;>(try (have hari:=h;simp only [B3] at hari))<;>(try (first|contradiction|(exfalso;omega)|(exfalso;simp at h;done)))<;>(try simp only [B5]))
 |((with_reducible refine acalls_go ?_);refine ACalls.mono (hLg _) ?_;rintro _ _ ⟨rfl,rfl⟩)
 |(simp (maxSteps:=3000000) (disch:=(first|omega|(simp only [List.length_append,B1, *];omega))) only [↓mapA_nil, ↓mapA_cons,List.length_append,B0,B4,awant,undef,aq,al,cst,cst1,acells,flat,behind,abin,aconv,aint,thenQ,blkQ,retQ,Value.cells,Value.oneCell',Int.reduceToNat, ↓reduceIte,Nat.reduceLT,Nat.reduceEqDiff,reduceCtorEq,Nat.reduceAdd,Nat.reduceMul,Nat.reduceLeDiff,u_26,u_3,u_5,u_9,telem_26,telem_9,tsz_9, *])
 |(refine hκ.out _ _ ?_;clear hκ κ))
        refine ⟨t.length - (i + 1), by omega, i + 1, acc ++ u, ?_⟩
        ((repeat' (with_reducible refine And.intro ?_ ?_)) <;> (first | rfl | assumption | omega | (simp only [new_nobj, put_nobj, lay_nobj]; omega) | (simp; omega) | (simp; done) | exact (HF) | ((repeat (first | exact Keep.refl _ | assumption | (refine Keep.put ?_ (by first | omega | (simp only [new_nobj, put_nobj, lay_nobj, *]; omega)) _) | (refine Keep.new ?_ _) | (refine Keep.lay ?_ _) | (refine Keep.trans ?_ (by assumption)))); done)))
      · rw [if_neg (fun h => hge h.2)] at hst
        have HF : Abs.Hid (rpL put (t.take (i + 1)) = acc ++ [c]) := hst
        clear hF hst hl
        generalize hcm : c.toNat - 65 = cm at *
        have hcc : ((c.toNat : Nat) : Int) - 65 = (cm : Int) := by omega
        have hgb : decide ((cm : Int) < (put.length : Int)) = false := by simp; omega
        clear hcm
        repeat' (first
 |with_reducible (first|apply awp_seq|apply awp_block|(refine awp_region_k ?_;intro κ hκ)|(refine hκ.out _ _ ?_;clear hκ κ)|apply awp_skip|apply awp_exit|apply awp_ret)
 |((first|with_reducible apply gd_split|((with_reducible refine cond_go ?_);refine awp_cond_split rfl ?_ ?_))<;>intro h<;>(try simp only [upd, ↓reduceIte,Nat.reduceEqDiff,B2] at h)<;>(try simp only [*,reduceCtorEq,decide_true,decide_false] at h)<;>(try (have hari:=h;simp only [B3] at hari))<;>(try (first|contradiction|(exfalso;omega)|(exfalso;simp at h;done)))<;>(try simp only [B5]))
 |((with_reducible refine acalls_go ?_);refine ACalls.mono (hLg _) ?_;rintro _ _ ⟨rfl,rfl⟩)
 |(simp (maxSteps:=3000000) (disch:=(first|omega|(simp only [List.length_append,B1, *];omega))) only [↓mapA_nil, ↓mapA_cons,List.length_append,B0,B4,awant,undef,aq,al,cst,cst1,acells,flat,behind,abin,aconv,aint,thenQ,blkQ,retQ,Value.cells,Value.oneCell',Int.reduceToNat, ↓reduceIte,Nat.reduceLT,Nat.reduceEqDiff,reduceCtorEq,Nat.reduceAdd,Nat.reduceMul,Nat.reduceLeDiff,u_26,u_3,u_5,u_9,telem_26,telem_9,tsz_9, *])
 |(refine hκ.out _ _ ?_;clear hκ κ))
        refine ⟨t.length - (i + 1), by omega, i + 1, acc ++ [c], ?_⟩
        ((repeat' (with_reducible refine And.intro ?_ ?_)) <;> (first | rfl | assumption | omega | (simp only [new_nobj, put_nobj, lay_nobj]; omega) | (simp; omega) | (simp; done) | exact (HF) | ((repeat (first | exact Keep.refl _ | assumption | (refine Keep.put ?_ (by first | omega | (simp only [new_nobj, put_nobj, lay_nobj, *]; omega)) _) | (refine Keep.new ?_ _) | (refine Keep.lay ?_ _) | (refine Keep.trans ?_ (by assumption)))); done)))
  · have hil : i = t.length := by omega
    have HF : Abs.Hid (rpL put t = acc) := by
      have := hF.out
      rw [hil, List.take_length] at this
      exact this
    clear hF
    repeat' (first
 |with_reducible (first|apply awp_seq|apply awp_block|(refine awp_region_k ?_;intro κ hκ)|(refine hκ.out _ _ ?_;clear hκ κ)|apply awp_skip|apply awp_exit|apply awp_ret)
 |((first|with_reducible apply gd_split|((with_reducible refine cond_go ?_);refine awp_cond_split rfl ?_ ?_))<;>intro h<;>(try simp only [upd, ↓reduceIte,Nat.reduceEqDiff,B2] at h)<;>(try simp only [*,reduceCtorEq,decide_true,decide_false] at h)<;>(try (have hari:=h;simp only [B3] at hari))<;>(try (first|contradiction|(exfalso;omega)|(exfalso;simp at h;done)))<;>(try simp only [B5]))
 |(simp (maxSteps:=3000000) (disch:=(first|omega|(simp only [List.length_append,B1, *];omega))) only [↓mapA_nil, ↓mapA_cons,List.length_append,B0,B4,awant,undef,aq,al,cst,cst1,acells,flat,behind,abin,aconv,aint,thenQ,blkQ,retQ,Value.cells,Value.oneCell',Int.reduceToNat, ↓reduceIte,Nat.reduceLT,Nat.reduceEqDiff,reduceCtorEq,Nat.reduceAdd,Nat.reduceMul,Nat.reduceLeDiff,u_26,u_3,u_5,u_9,telem_26,telem_9,tsz_9, *])
 |(refine hκ.out _ _ ?_;clear hκ κ))
    first | exact ⟨_, rfl, by rw [HF.out], Keep.refl _⟩ | exact ⟨_, rfl, by rw [HF.out]⟩
end Go.Proofs.YtmoeoppbmhfbpaaDoorX
