import Derived.Test.YtmoeoppbmhfbpaaGreatDoorYRspA
import Derived.Test.YtmoeoppbmhfbpaaGreatDoorYSpaB
/- The document's own answer: shows; a rule without a literal. -/
namespace Go.Proofs.YtmoeoppbmhfbpaaGreatDoorY
open Go.Abs
set_option linter.unusedSimpArgs false
set_option linter.unusedVariables false
set_option maxRecDepth 100000

theorem gather_step {x : RItem} {k j way : Nat} {l : List (Tx × Tx)} {a b : RAtom} (ha : x.body[j]? = some a) (hb : x.body[atOf k (x.body.length - 1) way]? = some b) : gather x k (x.body.drop j) way l = (pairsL l a b).bind fun l' => gather x k (x.body.drop (j + 1)) (way / (x.body.length - 1)) l' := by
  obtain ⟨l1, e1⟩ := List.getElem?_eq_some_iff.1 ha
  rw [List.drop_eq_getElem_cons l1, e1]
  simp only [gather]
  rw [hb]
theorem atOf_lt {x : RItem} {k way : Nat} (hk : k < x.body.length) (hm : 0 < x.body.length - 1) : atOf k (x.body.length - 1) way < x.body.length := by
  have := Nat.mod_lt way hm
  unfold atOf
  split <;> omega
set_option maxHeartbeats 16000000 in
theorem shows_spec (x : RItem) (c : List AV) (k way : Nat) (hc : EItem x c) (hx : x.fits) (h5 : x.body.length ≤ 5) (hk : k < x.body.length) (hm : 0 < x.body.length - 1) (hway : way ≤ 1024) (σ : St) : ACalls Tryz.prog 184 [ag c, sc (.int .i64 k), sc (.int .i64 way)] σ fun r σ' => ∃ b, r = sc (.bool b) ∧ (b = true ↔ Shows x k way) ∧ Keep σ σ' := by
  obtain ⟨ih, id, b, hb, rfl⟩ := hc.cells
  unfold itemCells
  have hbl := EL.length EAtom_len hb
  have hht := hx.2.1
  have hbt := hx.2.2
  obtain ⟨M, hM⟩ : ∃ M : Nat, x.body.length - 1 = M := ⟨_, rfl⟩
  have hnm : (x.body.length : Int) - 1 = (M : Int) := by omega
  have hM0 : ¬ ((M : Int) = 0) := by omega
  have hmod : ∀ w : Nat, Int.tmod (w : Int) (M : Int) = ((w % M : Nat) : Int) := fun w => rfl
  have hdiv : ∀ w : Nat, Int.tdiv (w : Int) (M : Int) = ((w / M : Nat) : Int) := fun w => rfl
  have hPh := fun τ (hK : Keep σ τ) => pairs_spec σ [] 1 x.head x.head _ _ ⟨ih, rfl⟩ ⟨ih, rfl⟩ (by simp) hht τ hK (Own.nil σ τ)
  obtain ⟨l00, hl00, -⟩ := pairs_self (a := x.head)
  have HSH : Abs.Hid (Shows x k way ↔ ∃ l, gather x k x.body way l00 = some l ∧ Agree l) := by
    unfold Shows
    constructor
    · rintro ⟨l0, l, h1, h2, h3⟩; rw [hl00] at h1; cases h1; exact ⟨l, h2, h3⟩
    · rintro ⟨l, h2, h3⟩; exact ⟨l00, l, hl00, h2, h3⟩
  rw [hl00] at hPh
  clear hl00
  have hPh : ∀ τ, Keep σ τ → ACalls Tryz.prog 226 [nilS, ag [sc (.bool x.head.nt), str x.head.pred, sl ih x.head.terms.length (x.head.terms.map str)], ag [sc (.bool x.head.nt), str x.head.pred, sl ih x.head.terms.length (x.head.terms.map str)]] τ fun r σ' => ∃ id', r = tp [sl id' l00.length (pcells l00), sc (.bool true)] ∧ l00.length ≤ 1000 ∧ Own σ σ' id' l00.length ∧ Keep σ σ' ∧ KeepO τ σ' := fun τ hK => (hPh τ hK).mono fun r σ' ⟨id', l', ok, h1, ⟨h2, h3⟩, h4, h5, h6, h7⟩ => by
    subst h2 h3
    exact ⟨id', h1, by simpa using h4, h5, h6, h7⟩
  refine acalls 63 [.tmp 6] Tryz.func184 rfl (by decide) rfl rfl (Nat.le_of_ble_eq_true rfl) ?_
  repeat' (first
 |with_reducible (first|apply awp_seq|apply awp_block|(refine awp_region_k ?_;intro κ hκ)|(refine hκ.out _ _ ?_;clear hκ κ)|apply awp_skip|apply awp_exit|apply awp_ret)
 |((first|with_reducible (first|apply gd_split|apply gt_split)|((with_reducible refine cond_go ?_);refine awp_cond_split rfl ?_ ?_))<;>intro h<;>(try simp only [upd, ↓reduceIte,Nat.reduceEqDiff,B2] at h)<;>(try simp only [*,reduceCtorEq,decide_true,decide_false] at h)<;>(try (have hari:=h;simp only [B3] at hari))<;>(try (first|contradiction|(exfalso;omega)|(exfalso;simp at h;done)))<;>(try simp only [B5]))
 |((with_reducible refine acalls_go ?_);refine ACalls.mono (hPh _ ((Keep.refl σ).new _)) ?_;rintro _ _ ⟨id0,rfl,hL0,hO0,hK0,hKO0⟩;(have kob0:=hKO0.obj;have kno0:=hKO0.nobj;simp only [new_nobj] at kno0))
 |(simp (maxSteps:=3000000) (disch:=(first|omega|(simp only [B1, *];omega))) only [↓mapA_nil, ↓mapA_cons,B0,B4,awant,undef,aq,al,cst,cst1,acells,flat,behind,abin,aconv,aint,thenQ,blkQ,retQ,rdo,objOf,Value.cells,Value.oneCell',Int.reduceToNat, ↓reduceIte,Nat.reduceLT,Nat.reduceEqDiff,reduceCtorEq,Nat.reduceAdd,Nat.reduceMul,Nat.reduceLeDiff,u_134,u_3,telem_134,tfld_145_1,tfld_145_2,tsz_134,tsz_143, *])
 |((with_reducible refine and_go ?_);refine And.intro (by first|exact kept_refl|exact kept_last rfl|exact kept_keep (by assumption)) ?_)
 |(refine hκ.out _ _ ?_;clear hκ κ))
  rename_i σ1
  have hob1 : σ1.obj σ.nobj = [sc (.bool x.out), sc (.bool x.head.nt), str x.head.pred, sl ih x.head.terms.length (x.head.terms.map str), sl id x.body.length b] := by rw [kob0 _ (by rw [new_nobj]; omega), new_same]
  refine awp_loop (fun m s σ' => ∃ (j way' id' : Nat) (l' : List (Tx × Tx)), m = x.body.length - j ∧ j ≤ x.body.length ∧ way' ≤ 1024 ∧ s 1 = sc (.int .i64 k) ∧ s 2 = sc (.int .i64 way') ∧ s 3 = ptr σ.nobj 0 ∧ s 7 = sc (.int .i64 x.body.length) ∧ s 8 = sl id' l'.length (pcells l') ∧ s 10 = sc (.int .i64 j) ∧ Keep σ σ' ∧ σ.nobj < σ'.nobj ∧ σ'.obj σ.nobj = [sc (.bool x.out), sc (.bool x.head.nt), str x.head.pred, sl ih x.head.terms.length (x.head.terms.map str), sl id x.body.length b] ∧ Own σ σ' id' l'.length ∧ l'.length ≤ 1000 + j * 1000 ∧ Abs.Hid (gather x k x.body way l00 = gather x k (x.body.drop j) way' l')) x.body.length
    ⟨0, way, id0, l00, by omega, by omega, hway, by simp [upd, initS], by simp [upd, initS], by simp [upd], by simp [upd], by simp [upd], rfl, hK0, by omega, hob1, hO0, by omega, by simp [Abs.Hid]⟩ ?_
  clear hob1 hK0 hO0 hKO0 kob0 kno0 hL0 hPh
  rintro m s σ' ⟨j, way', id', l', rfl, hj, hw', h1, h2, h3, h7, h8, h10, hK, hno, hob, hO, hll, hG⟩
  have kno := hK.nobj
  by_cases hlt : j < x.body.length
  · have hget := List.getElem?_eq_getElem hlt
    have hatl := atOf_lt (x := x) (k := k) (way := way') hk hm
    have hgeb := List.getElem?_eq_getElem hatl
    have hst : Abs.Hid (gather x k x.body way l00 = (pairsL l' x.body[j] x.body[atOf k (x.body.length - 1) way']).bind fun l' => gather x k (x.body.drop (j + 1)) (way' / (x.body.length - 1)) l') := by
      rw [Abs.Hid, hG.out, gather_step hget hgeb]
    obtain ⟨ia, r1, hd1⟩ := EL_atom hb hget
    obtain ⟨ib, r2, hd2⟩ := EL_atom hb hgeb
    have hta := hbt x.body[j] (List.getElem_mem hlt)
    generalize x.body[j] = a at hd1 hst hta
    generalize x.body[atOf k (x.body.length - 1) way'] = a2 at hd2 hst
    have hPa := fun τ hK hO => pairs_spec σ l' id' a a2 _ _ ⟨ia, rfl⟩ ⟨ib, rfl⟩ (by omega) hta τ hK hO
    clear hG hget hgeb
    rw [hM] at hatl hst hd2
    have hwd : way' / M ≤ 1024 := Nat.le_trans (Nat.div_le_self _ _) hw'
    have hwm : way' % M < M := Nat.mod_lt _ (by omega)
    generalize hwe : way' / M = wd at hst hwd
    have hdiv' : Int.tdiv (way' : Int) (M : Int) = (wd : Int) := by rw [hdiv, hwe]
    have hmod' := hmod way'
    unfold atOf at hatl hd2
    generalize way' % M = wm at hatl hd2 hmod' hwm
    clear hwe hdiv hmod
    have hto : ((wm : Int) + 1).toNat = wm + 1 := by omega
    by_cases hge : k ≤ wm
    · rw [if_pos hge] at hatl hd2
      repeat' (first
 |with_reducible (first|apply awp_seq|apply awp_block|(refine awp_region_k ?_;intro κ hκ)|(refine hκ.out _ _ ?_;clear hκ κ)|apply awp_skip|apply awp_exit|apply awp_ret)
 |((first|with_reducible (first|apply gd_split|apply gt_split)|((with_reducible refine cond_go ?_);refine awp_cond_split rfl ?_ ?_))<;>intro h<;>(try simp only [upd, ↓reduceIte,Nat.reduceEqDiff,B2] at h)<;>(try simp only [*,reduceCtorEq,decide_true,decide_false] at h)<;>(try (have hari:=h;simp only [B3] at hari))<;>(try (first|contradiction|(exfalso;omega)|(exfalso;simp at h;done)))<;>(try simp only [B5]))
 |(simp (maxSteps:=3000000) (disch:=(first|omega|(simp only [B1, *];omega))) only [↓mapA_nil, ↓mapA_cons,B0,B4,awant,undef,aq,al,cst,cst1,acells,flat,behind,abin,aconv,aint,thenQ,blkQ,retQ,rdo,objOf,Value.cells,Value.oneCell',Int.reduceToNat, ↓reduceIte,Nat.reduceLT,Nat.reduceEqDiff,reduceCtorEq,Nat.reduceAdd,Nat.reduceMul,Nat.reduceLeDiff,u_134,u_3,telem_134,tfld_145_1,tfld_145_2,tsz_134,tsz_143, *])
 |((with_reducible refine and_go ?_);refine And.intro (by first|exact kept_refl|exact kept_last rfl|exact kept_keep (by assumption)) ?_)
 |(refine hκ.out _ _ ?_;clear hκ κ))
      refine awp_mono (Q := fun e s' σ'' => e = .normal ∧ ∃ (id2 : Nat) (l2 : List (Tx × Tx)) (ok2 : Bool), s' 1 = sc (.int .i64 k) ∧ s' 2 = sc (.int .i64 wd) ∧ s' 3 = ptr σ.nobj 0 ∧ s' 7 = sc (.int .i64 x.body.length) ∧ s' 10 = sc (.int .i64 j) ∧ s' 12 = sl id2 l2.length (pcells l2) ∧ s' 13 = sc (.bool ok2) ∧ pairsR l' (pairsL l' a a2) l2 ok2 ∧ l2.length ≤ l'.length + 1000 ∧ Own σ σ'' id2 l2.length ∧ Keep σ σ'' ∧ KeepO σ' σ'') ?_ ?_
      · refine awp_draw_h follows_mixed (fun _ => True) [] [0, 1, 2, 3, 4, 5, 6, 7, 8, 9, 10] 6 #[true, true, true, true, true, true, true, true, true, true, true, false, false, false, false, false, false] (by kernel_rfl) (fun _ _ _ h => by cases h.1) ?_
        intro κ hκ
        simp (maxSteps:=3000000) (disch:=(first|omega|(simp only [B1, *];omega))) only [↓mapA_nil, ↓mapA_cons,B0,B4,awant,undef,aq,al,cst,cst1,acells,flat,behind,abin,aconv,aint,thenQ,blkQ,retQ,rdo,objOf,Value.cells,Value.oneCell',Int.reduceToNat, ↓reduceIte,Nat.reduceLT,Nat.reduceEqDiff,reduceCtorEq,Nat.reduceAdd,Nat.reduceMul,Nat.reduceLeDiff,u_134,u_3,telem_134,tfld_145_1,tfld_145_2,tsz_134,tsz_143, *]
        refine hκ.out _ ?_
        clear hκ κ
        refine uany_one (i := 11) (by kernel_rfl) ?_
        refine aOne_k ?_
        intro κ hκ
        simp (maxSteps:=3000000) (disch:=(first|omega|(simp only [B1, *];omega))) only [↓mapA_nil, ↓mapA_cons,B0,B4,awant,undef,aq,al,cst,cst1,acells,flat,behind,abin,aconv,aint,thenQ,blkQ,retQ,rdo,objOf,Value.cells,Value.oneCell',Int.reduceToNat, ↓reduceIte,Nat.reduceLT,Nat.reduceEqDiff,reduceCtorEq,Nat.reduceAdd,Nat.reduceMul,Nat.reduceLeDiff,u_134,u_3,telem_134,tfld_145_1,tfld_145_2,tsz_134,tsz_143, *]
        refine ACalls.mono (hPa _ hK hO) ?_
        rintro _ σ5 ⟨id2, l2, ok2, rfl, hR2, hL2, hO2, hK2, hKO2⟩
        simp (maxSteps:=3000000) (disch:=(first|omega|(simp only [B1, *];omega))) only [↓mapA_nil, ↓mapA_cons,B0,B4,awant,undef,aq,al,cst,cst1,acells,flat,behind,abin,aconv,aint,thenQ,blkQ,retQ,rdo,objOf,Value.cells,Value.oneCell',Int.reduceToNat, ↓reduceIte,Nat.reduceLT,Nat.reduceEqDiff,reduceCtorEq,Nat.reduceAdd,Nat.reduceMul,Nat.reduceLeDiff,u_134,u_3,telem_134,tfld_145_1,tfld_145_2,tsz_134,tsz_143, *]
        refine hκ.out _ _ ⟨fun _ o ho _ => hKO2.ver o ho, ?_⟩
        clear hκ κ
        refine uany_pure (i := 12) _ (tp [sl id2 l2.length (pcells l2), sc (.bool ok2)]) rfl rfl rfl rfl rfl (by kernel_rfl) (by kernel_rfl) (fun _ _ _ h => by cases h.1) (fun o ho _ => hKO2.ver o ho) ?_
        refine uany_pure (i := 13) _ (sl id2 l2.length (pcells l2)) rfl rfl rfl rfl rfl (by kernel_rfl) (by kernel_rfl) (fun _ _ _ h => by cases h.1) (fun o ho _ => hKO2.ver o ho) ?_
        refine uany_pure (i := 14) _ (sc (.bool ok2)) rfl rfl rfl rfl rfl (by kernel_rfl) (by kernel_rfl) (fun _ _ _ h => by cases h.1) (fun o ho _ => hKO2.ver o ho) ?_
        refine uany_pure (i := 15) _ (sl id2 l2.length (pcells l2)) rfl rfl rfl rfl rfl (by kernel_rfl) (by kernel_rfl) (fun _ _ _ h => by cases h.1) (fun o ho _ => hKO2.ver o ho) ?_
        refine uany_pure (i := 16) _ (sc (.bool ok2)) rfl rfl rfl rfl rfl (by kernel_rfl) (by kernel_rfl) (fun _ _ _ h => by cases h.1) (fun o ho _ => hKO2.ver o ho) ?_
        refine uany_done (by kernel_rfl) ⟨rfl, id2, l2, ok2, by simp [upd, aput, h1], by simp [upd, aput], by simp [upd, aput, h3], by simp [upd, aput, h7], by simp [upd, aput, h10], by simp [upd, aput], by simp [upd, aput], hR2, hL2, hO2, hK2, hKO2⟩
      · clear h1 h2 h3 h7 h8 h10 hPa
        rintro e s' σ6 ⟨rfl, id2, l2, ok2, h1, h2, h3, h7, h10, h12, h13, hR2, hL2, hO2, hK2, hKO2⟩
        have kno6 := hKO2.nobj
        have hob6 : σ6.obj σ.nobj = [sc (.bool x.out), sc (.bool x.head.nt), str x.head.pred, sl ih x.head.terms.length (x.head.terms.map str), sl id x.body.length b] := by rw [hKO2.obj _ hno]; exact hob
        clear hob hK hO
        have HR2 : Abs.Hid _ := hR2
        clear hR2
        cases ok2 with
        | true =>
          have hst2 : Abs.Hid (gather x k x.body way l00 = gather x k (x.body.drop (j + 1)) wd l2) := by
            have h := HR2.out
            rw [Abs.Hid, hst.out]
            cases hp : pairsL l' a a2 with
            | none => rw [hp] at h; cases h
            | some l3 => rw [hp] at h; rw [← h.1]; rfl
          clear hst HR2
          repeat' (first
 |with_reducible (first|apply awp_seq|apply awp_block|(refine awp_region_k ?_;intro κ hκ)|(refine hκ.out _ _ ?_;clear hκ κ)|apply awp_skip|apply awp_exit|apply awp_ret)
 |((first|with_reducible (first|apply gd_split|apply gt_split)|((with_reducible refine cond_go ?_);refine awp_cond_split rfl ?_ ?_))<;>intro h<;>(try simp only [upd, ↓reduceIte,Nat.reduceEqDiff,B2] at h)<;>(try simp only [*,reduceCtorEq,decide_true,decide_false] at h)<;>(try (have hari:=h;simp only [B3] at hari))<;>(try (first|contradiction|(exfalso;omega)|(exfalso;simp at h;done)))<;>(try simp only [B5]))
 |(simp (maxSteps:=3000000) (disch:=(first|omega|(simp only [B1, *];omega))) only [↓mapA_nil, ↓mapA_cons,B0,B4,awant,undef,aq,al,cst,cst1,acells,flat,behind,abin,aconv,aint,thenQ,blkQ,retQ,rdo,objOf,Value.cells,Value.oneCell',Int.reduceToNat, ↓reduceIte,Nat.reduceLT,Nat.reduceEqDiff,reduceCtorEq,Nat.reduceAdd,Nat.reduceMul,Nat.reduceLeDiff,u_134,u_3,telem_134,tfld_145_1,tfld_145_2,tsz_134,tsz_143, *])
 |((with_reducible refine and_go ?_);refine And.intro (by first|exact kept_refl|exact kept_last rfl|exact kept_keep (by assumption)) ?_)
 |(refine hκ.out _ _ ?_;clear hκ κ))
          exact ⟨x.body.length - (j + 1), by omega, j + 1, wd, id2, l2, rfl, by omega, hwd, rfl, rfl, by simp, by omega, hO2, by omega, hst2⟩
        | false =>
          have hst2 : Abs.Hid (gather x k x.body way l00 = none) := by
            have h := HR2.out
            rw [Abs.Hid, hst.out]
            cases hp : pairsL l' a a2 with
            | none => rfl
            | some l3 => rw [hp] at h; cases h.2
          clear hst HR2
          repeat' (first
 |with_reducible (first|apply awp_seq|apply awp_block|(refine awp_region_k ?_;intro κ hκ)|(refine hκ.out _ _ ?_;clear hκ κ)|apply awp_skip|apply awp_exit|apply awp_ret)
 |((first|with_reducible (first|apply gd_split|apply gt_split)|((with_reducible refine cond_go ?_);refine awp_cond_split rfl ?_ ?_))<;>intro h<;>(try simp only [upd, ↓reduceIte,Nat.reduceEqDiff,B2] at h)<;>(try simp only [*,reduceCtorEq,decide_true,decide_false] at h)<;>(try (have hari:=h;simp only [B3] at hari))<;>(try (first|contradiction|(exfalso;omega)|(exfalso;simp at h;done)))<;>(try simp only [B5]))
 |(simp (maxSteps:=3000000) (disch:=(first|omega|(simp only [B1, *];omega))) only [↓mapA_nil, ↓mapA_cons,B0,B4,awant,undef,aq,al,cst,cst1,acells,flat,behind,abin,aconv,aint,thenQ,blkQ,retQ,rdo,objOf,Value.cells,Value.oneCell',Int.reduceToNat, ↓reduceIte,Nat.reduceLT,Nat.reduceEqDiff,reduceCtorEq,Nat.reduceAdd,Nat.reduceMul,Nat.reduceLeDiff,u_134,u_3,telem_134,tfld_145_1,tfld_145_2,tsz_134,tsz_143, *])
 |((with_reducible refine and_go ?_);refine And.intro (by first|exact kept_refl|exact kept_last rfl|exact kept_keep (by assumption)) ?_)
 |(refine hκ.out _ _ ?_;clear hκ κ))
          exact ⟨_, rfl, false, rfl, (fun h => by cases h), fun h => by rw [HSH.out] at h; obtain ⟨l, h, -⟩ := h; rw [hst2.out] at h; cases h⟩
    · rw [if_neg hge] at hatl hd2
      repeat' (first
 |with_reducible (first|apply awp_seq|apply awp_block|(refine awp_region_k ?_;intro κ hκ)|(refine hκ.out _ _ ?_;clear hκ κ)|apply awp_skip|apply awp_exit|apply awp_ret)
 |((first|with_reducible (first|apply gd_split|apply gt_split)|((with_reducible refine cond_go ?_);refine awp_cond_split rfl ?_ ?_))<;>intro h<;>(try simp only [upd, ↓reduceIte,Nat.reduceEqDiff,B2] at h)<;>(try simp only [*,reduceCtorEq,decide_true,decide_false] at h)<;>(try (have hari:=h;simp only [B3] at hari))<;>(try (first|contradiction|(exfalso;omega)|(exfalso;simp at h;done)))<;>(try simp only [B5]))
 |(simp (maxSteps:=3000000) (disch:=(first|omega|(simp only [B1, *];omega))) only [↓mapA_nil, ↓mapA_cons,B0,B4,awant,undef,aq,al,cst,cst1,acells,flat,behind,abin,aconv,aint,thenQ,blkQ,retQ,rdo,objOf,Value.cells,Value.oneCell',Int.reduceToNat, ↓reduceIte,Nat.reduceLT,Nat.reduceEqDiff,reduceCtorEq,Nat.reduceAdd,Nat.reduceMul,Nat.reduceLeDiff,u_134,u_3,telem_134,tfld_145_1,tfld_145_2,tsz_134,tsz_143, *])
 |((with_reducible refine and_go ?_);refine And.intro (by first|exact kept_refl|exact kept_last rfl|exact kept_keep (by assumption)) ?_)
 |(refine hκ.out _ _ ?_;clear hκ κ))
      refine awp_mono (Q := fun e s' σ'' => e = .normal ∧ ∃ (id2 : Nat) (l2 : List (Tx × Tx)) (ok2 : Bool), s' 1 = sc (.int .i64 k) ∧ s' 2 = sc (.int .i64 wd) ∧ s' 3 = ptr σ.nobj 0 ∧ s' 7 = sc (.int .i64 x.body.length) ∧ s' 10 = sc (.int .i64 j) ∧ s' 12 = sl id2 l2.length (pcells l2) ∧ s' 13 = sc (.bool ok2) ∧ pairsR l' (pairsL l' a a2) l2 ok2 ∧ l2.length ≤ l'.length + 1000 ∧ Own σ σ'' id2 l2.length ∧ Keep σ σ'' ∧ KeepO σ' σ'') ?_ ?_
      · refine awp_draw_h follows_mixed (fun _ => True) [] [0, 1, 2, 3, 4, 5, 6, 7, 8, 9, 10] 6 #[true, true, true, true, true, true, true, true, true, true, true, false, false, false, false, false, false] (by kernel_rfl) (fun _ _ _ h => by cases h.1) ?_
        intro κ hκ
        simp (maxSteps:=3000000) (disch:=(first|omega|(simp only [B1, *];omega))) only [↓mapA_nil, ↓mapA_cons,B0,B4,awant,undef,aq,al,cst,cst1,acells,flat,behind,abin,aconv,aint,thenQ,blkQ,retQ,rdo,objOf,Value.cells,Value.oneCell',Int.reduceToNat, ↓reduceIte,Nat.reduceLT,Nat.reduceEqDiff,reduceCtorEq,Nat.reduceAdd,Nat.reduceMul,Nat.reduceLeDiff,u_134,u_3,telem_134,tfld_145_1,tfld_145_2,tsz_134,tsz_143, *]
        refine hκ.out _ ?_
        clear hκ κ
        refine uany_one (i := 11) (by kernel_rfl) ?_
        refine aOne_k ?_
        intro κ hκ
        simp (maxSteps:=3000000) (disch:=(first|omega|(simp only [B1, *];omega))) only [↓mapA_nil, ↓mapA_cons,B0,B4,awant,undef,aq,al,cst,cst1,acells,flat,behind,abin,aconv,aint,thenQ,blkQ,retQ,rdo,objOf,Value.cells,Value.oneCell',Int.reduceToNat, ↓reduceIte,Nat.reduceLT,Nat.reduceEqDiff,reduceCtorEq,Nat.reduceAdd,Nat.reduceMul,Nat.reduceLeDiff,u_134,u_3,telem_134,tfld_145_1,tfld_145_2,tsz_134,tsz_143, *]
        refine ACalls.mono (hPa _ hK hO) ?_
        rintro _ σ5 ⟨id2, l2, ok2, rfl, hR2, hL2, hO2, hK2, hKO2⟩
        simp (maxSteps:=3000000) (disch:=(first|omega|(simp only [B1, *];omega))) only [↓mapA_nil, ↓mapA_cons,B0,B4,awant,undef,aq,al,cst,cst1,acells,flat,behind,abin,aconv,aint,thenQ,blkQ,retQ,rdo,objOf,Value.cells,Value.oneCell',Int.reduceToNat, ↓reduceIte,Nat.reduceLT,Nat.reduceEqDiff,reduceCtorEq,Nat.reduceAdd,Nat.reduceMul,Nat.reduceLeDiff,u_134,u_3,telem_134,tfld_145_1,tfld_145_2,tsz_134,tsz_143, *]
        refine hκ.out _ _ ⟨fun _ o ho _ => hKO2.ver o ho, ?_⟩
        clear hκ κ
        refine uany_pure (i := 12) _ (tp [sl id2 l2.length (pcells l2), sc (.bool ok2)]) rfl rfl rfl rfl rfl (by kernel_rfl) (by kernel_rfl) (fun _ _ _ h => by cases h.1) (fun o ho _ => hKO2.ver o ho) ?_
        refine uany_pure (i := 13) _ (sl id2 l2.length (pcells l2)) rfl rfl rfl rfl rfl (by kernel_rfl) (by kernel_rfl) (fun _ _ _ h => by cases h.1) (fun o ho _ => hKO2.ver o ho) ?_
        refine uany_pure (i := 14) _ (sc (.bool ok2)) rfl rfl rfl rfl rfl (by kernel_rfl) (by kernel_rfl) (fun _ _ _ h => by cases h.1) (fun o ho _ => hKO2.ver o ho) ?_
        refine uany_pure (i := 15) _ (sl id2 l2.length (pcells l2)) rfl rfl rfl rfl rfl (by kernel_rfl) (by kernel_rfl) (fun _ _ _ h => by cases h.1) (fun o ho _ => hKO2.ver o ho) ?_
        refine uany_pure (i := 16) _ (sc (.bool ok2)) rfl rfl rfl rfl rfl (by kernel_rfl) (by kernel_rfl) (fun _ _ _ h => by cases h.1) (fun o ho _ => hKO2.ver o ho) ?_
        refine uany_done (by kernel_rfl) ⟨rfl, id2, l2, ok2, by simp [upd, aput, h1], by simp [upd, aput], by simp [upd, aput, h3], by simp [upd, aput, h7], by simp [upd, aput, h10], by simp [upd, aput], by simp [upd, aput], hR2, hL2, hO2, hK2, hKO2⟩
      · clear h1 h2 h3 h7 h8 h10 hPa
        rintro e s' σ6 ⟨rfl, id2, l2, ok2, h1, h2, h3, h7, h10, h12, h13, hR2, hL2, hO2, hK2, hKO2⟩
        have kno6 := hKO2.nobj
        have hob6 : σ6.obj σ.nobj = [sc (.bool x.out), sc (.bool x.head.nt), str x.head.pred, sl ih x.head.terms.length (x.head.terms.map str), sl id x.body.length b] := by rw [hKO2.obj _ hno]; exact hob
        clear hob hK hO
        have HR2 : Abs.Hid _ := hR2
        clear hR2
        cases ok2 with
        | true =>
          have hst2 : Abs.Hid (gather x k x.body way l00 = gather x k (x.body.drop (j + 1)) wd l2) := by
            have h := HR2.out
            rw [Abs.Hid, hst.out]
            cases hp : pairsL l' a a2 with
            | none => rw [hp] at h; cases h
            | some l3 => rw [hp] at h; rw [← h.1]; rfl
          clear hst HR2
          repeat' (first
 |with_reducible (first|apply awp_seq|apply awp_block|(refine awp_region_k ?_;intro κ hκ)|(refine hκ.out _ _ ?_;clear hκ κ)|apply awp_skip|apply awp_exit|apply awp_ret)
 |((first|with_reducible (first|apply gd_split|apply gt_split)|((with_reducible refine cond_go ?_);refine awp_cond_split rfl ?_ ?_))<;>intro h<;>(try simp only [upd, ↓reduceIte,Nat.reduceEqDiff,B2] at h)<;>(try simp only [*,reduceCtorEq,decide_true,decide_false] at h)<;>(try (have hari:=h;simp only [B3] at hari))<;>(try (first|contradiction|(exfalso;omega)|(exfalso;simp at h;done)))<;>(try simp only [B5]))
 |(simp (maxSteps:=3000000) (disch:=(first|omega|(simp only [B1, *];omega))) only [↓mapA_nil, ↓mapA_cons,B0,B4,awant,undef,aq,al,cst,cst1,acells,flat,behind,abin,aconv,aint,thenQ,blkQ,retQ,rdo,objOf,Value.cells,Value.oneCell',Int.reduceToNat, ↓reduceIte,Nat.reduceLT,Nat.reduceEqDiff,reduceCtorEq,Nat.reduceAdd,Nat.reduceMul,Nat.reduceLeDiff,u_134,u_3,telem_134,tfld_145_1,tfld_145_2,tsz_134,tsz_143, *])
 |((with_reducible refine and_go ?_);refine And.intro (by first|exact kept_refl|exact kept_last rfl|exact kept_keep (by assumption)) ?_)
 |(refine hκ.out _ _ ?_;clear hκ κ))
          exact ⟨x.body.length - (j + 1), by omega, j + 1, wd, id2, l2, rfl, by omega, hwd, rfl, rfl, by simp, by omega, hO2, by omega, hst2⟩
        | false =>
          have hst2 : Abs.Hid (gather x k x.body way l00 = none) := by
            have h := HR2.out
            rw [Abs.Hid, hst.out]
            cases hp : pairsL l' a a2 with
            | none => rfl
            | some l3 => rw [hp] at h; cases h.2
          clear hst HR2
          repeat' (first
 |with_reducible (first|apply awp_seq|apply awp_block|(refine awp_region_k ?_;intro κ hκ)|(refine hκ.out _ _ ?_;clear hκ κ)|apply awp_skip|apply awp_exit|apply awp_ret)
 |((first|with_reducible (first|apply gd_split|apply gt_split)|((with_reducible refine cond_go ?_);refine awp_cond_split rfl ?_ ?_))<;>intro h<;>(try simp only [upd, ↓reduceIte,Nat.reduceEqDiff,B2] at h)<;>(try simp only [*,reduceCtorEq,decide_true,decide_false] at h)<;>(try (have hari:=h;simp only [B3] at hari))<;>(try (first|contradiction|(exfalso;omega)|(exfalso;simp at h;done)))<;>(try simp only [B5]))
 |(simp (maxSteps:=3000000) (disch:=(first|omega|(simp only [B1, *];omega))) only [↓mapA_nil, ↓mapA_cons,B0,B4,awant,undef,aq,al,cst,cst1,acells,flat,behind,abin,aconv,aint,thenQ,blkQ,retQ,rdo,objOf,Value.cells,Value.oneCell',Int.reduceToNat, ↓reduceIte,Nat.reduceLT,Nat.reduceEqDiff,reduceCtorEq,Nat.reduceAdd,Nat.reduceMul,Nat.reduceLeDiff,u_134,u_3,telem_134,tfld_145_1,tfld_145_2,tsz_134,tsz_143, *])
 |((with_reducible refine and_go ?_);refine And.intro (by first|exact kept_refl|exact kept_last rfl|exact kept_keep (by assumption)) ?_)
 |(refine hκ.out _ _ ?_;clear hκ κ))
          exact ⟨_, rfl, false, rfl, (fun h => by cases h), fun h => by rw [HSH.out] at h; obtain ⟨l, h, -⟩ := h; rw [hst2.out] at h; cases h⟩
  · have hjl : j = x.body.length := by omega
    subst hjl
    have hR : Abs.Hid (gather x k x.body way l00 = some l') := by rw [Abs.Hid, hG.out, List.drop_length]; simp [gather]
    have hAg := fun σ => agree_spec l' id' (by omega) σ
    repeat' (first
 |with_reducible (first|apply awp_seq|apply awp_block|(refine awp_region_k ?_;intro κ hκ)|(refine hκ.out _ _ ?_;clear hκ κ)|apply awp_skip|apply awp_exit|apply awp_ret)
 |((first|with_reducible (first|apply gd_split|apply gt_split)|((with_reducible refine cond_go ?_);refine awp_cond_split rfl ?_ ?_))<;>intro h<;>(try simp only [upd, ↓reduceIte,Nat.reduceEqDiff,B2] at h)<;>(try simp only [*,reduceCtorEq,decide_true,decide_false] at h)<;>(try (have hari:=h;simp only [B3] at hari))<;>(try (first|contradiction|(exfalso;omega)|(exfalso;simp at h;done)))<;>(try simp only [B5]))
 |((with_reducible refine acalls_go ?_);refine ACalls.mono (hAg _) ?_;rintro _ _ ⟨ba,rfl,hba,hσ⟩;(replace hσ:=hσ.symm;subst hσ))
 |(simp (maxSteps:=3000000) (disch:=(first|omega|(simp only [B1, *];omega))) only [↓mapA_nil, ↓mapA_cons,B0,B4,awant,undef,aq,al,cst,cst1,acells,flat,behind,abin,aconv,aint,thenQ,blkQ,retQ,rdo,objOf,Value.cells,Value.oneCell',Int.reduceToNat, ↓reduceIte,Nat.reduceLT,Nat.reduceEqDiff,reduceCtorEq,Nat.reduceAdd,Nat.reduceMul,Nat.reduceLeDiff,u_134,u_3,telem_134,tfld_145_1,tfld_145_2,tsz_134,tsz_143, *])
 |((with_reducible refine and_go ?_);refine And.intro (by first|exact kept_refl|exact kept_last rfl|exact kept_keep (by assumption)) ?_)
 |(refine hκ.out _ _ ?_;clear hκ κ))
    exact ⟨_, rfl, ba, rfl, by rw [HSH.out, hba]; exact ⟨fun h => ⟨l', hR.out, h⟩, fun ⟨l, h1, h2⟩ => by rw [hR.out] at h1; cases h1; exact h2⟩⟩
end Go.Proofs.YtmoeoppbmhfbpaaGreatDoorY
