import Derived.Test.YtmoeoppbmhfbpaaDoorXPrtD
import Derived.Test.YtmoeoppbmhfbpaaDoorXAbsWp
/- The program: an item with its variables in order. -/
namespace Go.Proofs.YtmoeoppbmhfbpaaDoorX
open Go.Abs
set_option linter.unusedSimpArgs false
set_option linter.unusedVariables false
set_option maxRecDepth 100000

def RL (N l : List Tx) (a : RAtom) (c : List AV) : Prop := ∃ ids, c = [sc (.bool a.nt), sc (.int .i64 (N.idxOf a.pred : Nat)), sl ids a.terms.length (rcells l a.terms)]
theorem RL_len {N l : List Tx} (a : RAtom) (c : List AV) (h : RL N l a c) : c.length = 3 := by obtain ⟨ids, rfl⟩ := h; rfl
theorem EL_RL {N l : List Tx} {ls : List RAtom} {cs : List AV} {i : Nat} {a : RAtom} (h : EL (RL N l) ls cs) (hi : ls[i]? = some a) : ∃ ia r, cs.drop (i * 3) = sc (.bool a.nt) :: sc (.int .i64 (N.idxOf a.pred : Nat)) :: sl ia a.terms.length (rcells l a.terms) :: r := by
  obtain ⟨c, r, ⟨ia, rfl⟩, e⟩ := EL.get RL_len h hi
  exact ⟨ia, r, e⟩
def RI (N l : List Tx) (x : RItem) (c : List AV) : Prop := ∃ ih id b, EL (RL N l) x.body b ∧ c = [sc (.bool x.out), sc (.int .i64 (N.idxOf x.head.pred : Nat)), sl ih x.head.terms.length (rcells l x.head.terms), sl id x.body.length b]

set_option maxHeartbeats 16000000 in
theorem inOrder_spec (N : List Tx) (x : RItem) (c : List AV) (hc : PI N x c) (ho : x.out = true → x.body = []) (hx : x.fits) (hV : ∀ a ∈ atomsL x, VA a) (hVh : VA x.head) (hVb : ∀ a ∈ x.body, VA a) (σ : St) :
    ACalls Tryd.prog 11 [ag c] σ fun r σ' => ∃ c', r = ag c' ∧ RI N (ordL x) x c' ∧ VL (ordL x) ∧ Keep σ σ' := by
  have hVs := fun σ => pvariables_spec N x c hc ho hx hV σ
  have hol := ordL_len hx
  have hx1 := hx.1
  have hxb := hx.2.2
  obtain ⟨hm, ih, id, b, hb, rfl⟩ := hc
  have hbl := EL.length PL_len hb
  have hRh := fun lo ido (hl : lo.length ≤ 10000000) hL σ => renamed_spec lo ido (N.idxOf x.head.pred : Nat) ih x.head hl hL hVh hx.2.1 σ
  have hRb := fun lo ido (a : RAtom) ia ha (hl : lo.length ≤ 10000000) hL hv σ => renamed_spec lo ido (N.idxOf a.pred : Nat) ia a hl hL hv (hxb a ha) σ
  generalize ordL x = lo at hVs hol
  have hRh := fun ido hL σ => hRh lo ido hol hL σ
  refine acalls 39 [.cell 2 41] Tryd.func11 rfl (by decide) rfl rfl (Nat.le_of_ble_eq_true rfl) ?_
  repeat' (first
 |with_reducible (first|apply awp_seq|apply awp_block|(refine awp_region_k ?_;intro κ hκ)|(refine hκ.out _ _ ?_;clear hκ κ)|apply awp_skip|apply awp_exit|apply awp_ret)
 |((first|with_reducible (first|apply gd_split|apply gt_split)|((with_reducible refine cond_go ?_);refine awp_cond_split rfl ?_ ?_))<;>intro h<;>(try simp only [upd, ↓reduceIte,Nat.reduceEqDiff,B2] at h)<;>(try simp only [*,reduceCtorEq,decide_true,decide_false] at h)<;>(try (have hari:=h;simp only [B3] at hari))<;>(try (first|contradiction|(exfalso;omega)|(exfalso;simp at h;done)))<;>(try simp only [B5]))
 |((with_reducible refine aapp_go ?_);refine aApp_own (by first|exact tez_39) (by assumption) (by assumption) (by decide) (by rfl) (by first|assumption|(simp;done)|(simp;omega)|omega) (by rfl) (by rfl) (by decide) (by omega) (by omega) ?_;intro idn σn hOn hKn eobj enobj ever entop)
 |((with_reducible refine aappn_go ?_);refine aApp_nil (by first|exact tez_39) (by rfl) (by decide) (by rfl) (by rfl) (by decide) (by omega) (by omega) ?_)
 |((with_reducible refine acalls_go ?_);refine ACalls.mono (hVs _) ?_;rintro _ _ ⟨ido,rfl,hVL,hK1⟩;(have kob1:=hK1.obj;have kno1:=hK1.nobj;simp only [new_nobj] at kno1))
 |(simp (maxSteps:=3000000) (disch:=(first|omega|(simp only [B1, *];omega))) only [↓mapA_nil, ↓mapA_cons,B0,B4,awant,undef,aq,al,cst,cst1,acells,flat,behind,abin,aconv,aint,thenQ,blkQ,retQ,rdo,objOf,Value.cells,Value.oneCell',Int.reduceToNat, ↓reduceIte,Nat.reduceLT,Nat.reduceEqDiff,reduceCtorEq,Nat.reduceAdd,Nat.reduceMul,Nat.reduceLeDiff,u_3,u_39,telem_39,tez_39,tfld_41_0,tfld_41_1,tfld_41_2,tfld_67_0,tfld_67_1,tstr_41,tstr_67,tsz_38,tsz_39,tsz_4,tsz_41,tsz_67,tzero_38,tzero_41,tzero_67, *])
 |((with_reducible refine and_go ?_);refine And.intro (by first|exact kept_refl|exact kept_last rfl|exact kept_keep (by assumption)) ?_)
 |(refine hκ.out _ _ ?_;clear hκ κ))
  rename_i σ1
  have ho0 : σ1.obj σ.nobj = [sc (.bool x.out), sc (.int .i64 (N.idxOf x.head.pred : Nat)), sl ih x.head.terms.length (tcells x.head.terms), sl id x.body.length b] := by
    rw [kob1 _ (by simp only [new_nobj]; omega), new_lt (by simp only [new_nobj]; omega), new_same]
  have ho1 : σ1.obj (σ.nobj + 1) = [sc (.bool false), sc (.int .i64 0), nilS, nilS] := by
    rw [kob1 _ (by simp only [new_nobj]; omega), new_at (by rw [new_nobj]; omega) (by rw [new_nobj]; omega)]
  have hK0 : Keep σ σ1 := by repeat (first | exact Keep.refl _ | assumption | (refine Keep.put ?_ (by first | omega | (simp only [new_nobj, put_nobj, lay_nobj, *]; omega)) _) | (refine Keep.new ?_ _) | (refine Keep.lay ?_ _) | (refine Keep.trans ?_ (by assumption)))
  clear kob1 hK1
  have HVL : Abs.Hid (VL lo) := hVL
  refine awp_mono (Q := fun e s σ' => e = .normal ∧ ∃ o i2 : Nat, s 1 = ptr σ.nobj 0 ∧ s 2 = ptr (σ.nobj + 1) 0 ∧ s 3 = sl ido lo.length (lo.map encI) ∧ s 4 = ptr o 0 ∧ σ.nobj + 1 < o ∧ o < σ'.nobj ∧ σ'.obj σ.nobj = [sc (.bool x.out), sc (.int .i64 (N.idxOf x.head.pred : Nat)), sl ih x.head.terms.length (tcells x.head.terms), sl id x.body.length b] ∧ σ'.obj (σ.nobj + 1) = [sc (.bool false), sc (.int .i64 0), nilS, nilS] ∧ σ'.obj o = [sc (.bool x.out), sc (.int .i64 (N.idxOf x.head.pred : Nat)), sl i2 x.head.terms.length (rcells lo x.head.terms), nilS] ∧ Keep σ σ') ?_ ?_
  · refine awp_draw_h follows_mixed (fun _ => True) [8] [0, 1, 2, 3, 4] 4 #[true, true, true, true, true, false, false, false, false] (by kernel_rfl) (fun _ _ _ h => by cases h.1) ?_
    intro κ hκ
    simp (maxSteps:=3000000) (disch:=(first|omega|(simp only [B1, *];omega))) only [↓mapA_nil, ↓mapA_cons,B0,B4,awant,undef,aq,al,cst,cst1,acells,flat,behind,abin,aconv,aint,thenQ,blkQ,retQ,rdo,objOf,Value.cells,Value.oneCell',Int.reduceToNat, ↓reduceIte,Nat.reduceLT,Nat.reduceEqDiff,reduceCtorEq,Nat.reduceAdd,Nat.reduceMul,Nat.reduceLeDiff,u_3,u_39,telem_39,tez_39,tfld_41_0,tfld_41_1,tfld_41_2,tfld_67_0,tfld_67_1,tstr_41,tstr_67,tsz_38,tsz_39,tsz_4,tsz_41,tsz_67,tzero_38,tzero_41,tzero_67, *]
    refine hκ.out _ ?_
    clear hκ κ
    have hR2 := fun σ => hRh ido HVL.out σ
    refine uany_all (rs := [5, 7]) (by kernel_rfl) (by simp) ?_
    intro i hi
    simp only [List.mem_cons, List.not_mem_nil, or_false] at hi
    rcases hi with rfl | rfl
    · refine aOne_k ?_
      intro κ hκ
      simp (maxSteps:=3000000) (disch:=(first|omega|(simp only [B1, *];omega))) only [↓mapA_nil, ↓mapA_cons,B0,B4,awant,undef,aq,al,cst,cst1,acells,flat,behind,abin,aconv,aint,thenQ,blkQ,retQ,rdo,objOf,Value.cells,Value.oneCell',Int.reduceToNat, ↓reduceIte,Nat.reduceLT,Nat.reduceEqDiff,reduceCtorEq,Nat.reduceAdd,Nat.reduceMul,Nat.reduceLeDiff,u_3,u_39,telem_39,tez_39,tfld_41_0,tfld_41_1,tfld_41_2,tfld_67_0,tfld_67_1,tstr_41,tstr_67,tsz_38,tsz_39,tsz_4,tsz_41,tsz_67,tzero_38,tzero_41,tzero_67, *]
      refine ACalls.mono (hR2 _) ?_
      rintro _ σ2 ⟨i2, rfl, hK2⟩
      have kob2 := hK2.obj
      have kno2 := hK2.nobj
      simp (maxSteps:=3000000) (disch:=(first|omega|(simp only [B1, *];omega))) only [↓mapA_nil, ↓mapA_cons,B0,B4,awant,undef,aq,al,cst,cst1,acells,flat,behind,abin,aconv,aint,thenQ,blkQ,retQ,rdo,objOf,Value.cells,Value.oneCell',Int.reduceToNat, ↓reduceIte,Nat.reduceLT,Nat.reduceEqDiff,reduceCtorEq,Nat.reduceAdd,Nat.reduceMul,Nat.reduceLeDiff,u_3,u_39,telem_39,tez_39,tfld_41_0,tfld_41_1,tfld_41_2,tfld_67_0,tfld_67_1,tstr_41,tstr_67,tsz_38,tsz_39,tsz_4,tsz_41,tsz_67,tzero_38,tzero_41,tzero_67, *]
      refine hκ.out _ _ ⟨kept_keep hK2, ?_⟩
      clear hκ κ
      refine uany_all (rs := [6, 7]) (by kernel_rfl) (by simp) ?_
      intro i hi
      simp only [List.mem_cons, List.not_mem_nil, or_false] at hi
      rcases hi with rfl | rfl
      · refine aOne_k ?_
        intro κ hκ
        simp (maxSteps:=3000000) (disch:=(first|omega|(simp only [B1, *];omega))) only [↓mapA_nil, ↓mapA_cons,B0,B4,awant,undef,aq,al,cst,cst1,acells,flat,behind,abin,aconv,aint,thenQ,blkQ,retQ,rdo,objOf,Value.cells,Value.oneCell',Int.reduceToNat, ↓reduceIte,Nat.reduceLT,Nat.reduceEqDiff,reduceCtorEq,Nat.reduceAdd,Nat.reduceMul,Nat.reduceLeDiff,u_3,u_39,telem_39,tez_39,tfld_41_0,tfld_41_1,tfld_41_2,tfld_67_0,tfld_67_1,tstr_41,tstr_67,tsz_38,tsz_39,tsz_4,tsz_41,tsz_67,tzero_38,tzero_41,tzero_67, *]
        refine hκ.out _ _ ⟨kept_keep hK2, ?_⟩
        clear hκ κ
        refine uany_one (i := 7) (by kernel_rfl) ?_
        refine aOne_k ?_
        intro κ hκ
        simp (maxSteps:=3000000) (disch:=(first|omega|(simp only [B1, *];omega))) only [↓mapA_nil, ↓mapA_cons,B0,B4,awant,undef,aq,al,cst,cst1,acells,flat,behind,abin,aconv,aint,thenQ,blkQ,retQ,rdo,objOf,Value.cells,Value.oneCell',Int.reduceToNat, ↓reduceIte,Nat.reduceLT,Nat.reduceEqDiff,reduceCtorEq,Nat.reduceAdd,Nat.reduceMul,Nat.reduceLeDiff,u_3,u_39,telem_39,tez_39,tfld_41_0,tfld_41_1,tfld_41_2,tfld_67_0,tfld_67_1,tstr_41,tstr_67,tsz_38,tsz_39,tsz_4,tsz_41,tsz_67,tzero_38,tzero_41,tzero_67, *]
        refine hκ.out _ _ ⟨kept_keep (hK2.new _), ?_⟩
        clear hκ κ
        refine uany_one (i := 8) (by kernel_rfl) ?_
        refine aOne_k ?_
        intro κ hκ
        simp (maxSteps:=3000000) (disch:=(first|omega|(simp only [B1, *];omega))) only [↓mapA_nil, ↓mapA_cons,B0,B4,awant,undef,aq,al,cst,cst1,acells,flat,behind,abin,aconv,aint,thenQ,blkQ,retQ,rdo,objOf,Value.cells,Value.oneCell',Int.reduceToNat, ↓reduceIte,Nat.reduceLT,Nat.reduceEqDiff,reduceCtorEq,Nat.reduceAdd,Nat.reduceMul,Nat.reduceLeDiff,u_3,u_39,telem_39,tez_39,tfld_41_0,tfld_41_1,tfld_41_2,tfld_67_0,tfld_67_1,tstr_41,tstr_67,tsz_38,tsz_39,tsz_4,tsz_41,tsz_67,tzero_38,tzero_41,tzero_67, *]
        refine hκ.out _ _ ⟨kept_last rfl, ?_⟩
        clear hκ κ
        refine uany_done (by kernel_rfl) ⟨rfl, σ2.nobj, i2, by simp [upd], by simp [upd], by simp [upd], by simp [upd], by omega, by simp only [put_nobj, new_nobj]; omega, ?_, ?_, put_same, ?_⟩
        · rw [put_ne (by omega), new_lt (by omega), kob2 _ (by omega), ho0]
        · rw [put_ne (by omega), new_lt (by omega), kob2 _ (by omega), ho1]
        · exact ((hK0.trans hK2).new _).put (by omega) _
      · refine aOne_k ?_
        intro κ hκ
        simp (maxSteps:=3000000) (disch:=(first|omega|(simp only [B1, *];omega))) only [↓mapA_nil, ↓mapA_cons,B0,B4,awant,undef,aq,al,cst,cst1,acells,flat,behind,abin,aconv,aint,thenQ,blkQ,retQ,rdo,objOf,Value.cells,Value.oneCell',Int.reduceToNat, ↓reduceIte,Nat.reduceLT,Nat.reduceEqDiff,reduceCtorEq,Nat.reduceAdd,Nat.reduceMul,Nat.reduceLeDiff,u_3,u_39,telem_39,tez_39,tfld_41_0,tfld_41_1,tfld_41_2,tfld_67_0,tfld_67_1,tstr_41,tstr_67,tsz_38,tsz_39,tsz_4,tsz_41,tsz_67,tzero_38,tzero_41,tzero_67, *]
        refine hκ.out _ _ ⟨kept_keep (hK2.new _), ?_⟩
        clear hκ κ
        refine uany_one (i := 6) (by kernel_rfl) ?_
        refine aOne_k ?_
        intro κ hκ
        simp (maxSteps:=3000000) (disch:=(first|omega|(simp only [B1, *];omega))) only [↓mapA_nil, ↓mapA_cons,B0,B4,awant,undef,aq,al,cst,cst1,acells,flat,behind,abin,aconv,aint,thenQ,blkQ,retQ,rdo,objOf,Value.cells,Value.oneCell',Int.reduceToNat, ↓reduceIte,Nat.reduceLT,Nat.reduceEqDiff,reduceCtorEq,Nat.reduceAdd,Nat.reduceMul,Nat.reduceLeDiff,u_3,u_39,telem_39,tez_39,tfld_41_0,tfld_41_1,tfld_41_2,tfld_67_0,tfld_67_1,tstr_41,tstr_67,tsz_38,tsz_39,tsz_4,tsz_41,tsz_67,tzero_38,tzero_41,tzero_67, *]
        refine hκ.out _ _ ⟨kept_keep (hK2.new _), ?_⟩
        clear hκ κ
        refine uany_one (i := 8) (by kernel_rfl) ?_
        refine aOne_k ?_
        intro κ hκ
        simp (maxSteps:=3000000) (disch:=(first|omega|(simp only [B1, *];omega))) only [↓mapA_nil, ↓mapA_cons,B0,B4,awant,undef,aq,al,cst,cst1,acells,flat,behind,abin,aconv,aint,thenQ,blkQ,retQ,rdo,objOf,Value.cells,Value.oneCell',Int.reduceToNat, ↓reduceIte,Nat.reduceLT,Nat.reduceEqDiff,reduceCtorEq,Nat.reduceAdd,Nat.reduceMul,Nat.reduceLeDiff,u_3,u_39,telem_39,tez_39,tfld_41_0,tfld_41_1,tfld_41_2,tfld_67_0,tfld_67_1,tstr_41,tstr_67,tsz_38,tsz_39,tsz_4,tsz_41,tsz_67,tzero_38,tzero_41,tzero_67, *]
        refine hκ.out _ _ ⟨kept_last rfl, ?_⟩
        clear hκ κ
        refine uany_done (by kernel_rfl) ⟨rfl, σ2.nobj, i2, by simp [upd], by simp [upd], by simp [upd], by simp [upd], by omega, by simp only [put_nobj, new_nobj]; omega, ?_, ?_, put_same, ?_⟩
        · rw [put_ne (by omega), new_lt (by omega), kob2 _ (by omega), ho0]
        · rw [put_ne (by omega), new_lt (by omega), kob2 _ (by omega), ho1]
        · exact ((hK0.trans hK2).new _).put (by omega) _
    · refine aOne_k ?_
      intro κ hκ
      simp (maxSteps:=3000000) (disch:=(first|omega|(simp only [B1, *];omega))) only [↓mapA_nil, ↓mapA_cons,B0,B4,awant,undef,aq,al,cst,cst1,acells,flat,behind,abin,aconv,aint,thenQ,blkQ,retQ,rdo,objOf,Value.cells,Value.oneCell',Int.reduceToNat, ↓reduceIte,Nat.reduceLT,Nat.reduceEqDiff,reduceCtorEq,Nat.reduceAdd,Nat.reduceMul,Nat.reduceLeDiff,u_3,u_39,telem_39,tez_39,tfld_41_0,tfld_41_1,tfld_41_2,tfld_67_0,tfld_67_1,tstr_41,tstr_67,tsz_38,tsz_39,tsz_4,tsz_41,tsz_67,tzero_38,tzero_41,tzero_67, *]
      refine hκ.out _ _ ⟨kept_keep ((Keep.refl _).new _), ?_⟩
      clear hκ κ
      refine uany_one (i := 5) (by kernel_rfl) ?_
      refine aOne_k ?_
      intro κ hκ
      simp (maxSteps:=3000000) (disch:=(first|omega|(simp only [B1, *];omega))) only [↓mapA_nil, ↓mapA_cons,B0,B4,awant,undef,aq,al,cst,cst1,acells,flat,behind,abin,aconv,aint,thenQ,blkQ,retQ,rdo,objOf,Value.cells,Value.oneCell',Int.reduceToNat, ↓reduceIte,Nat.reduceLT,Nat.reduceEqDiff,reduceCtorEq,Nat.reduceAdd,Nat.reduceMul,Nat.reduceLeDiff,u_3,u_39,telem_39,tez_39,tfld_41_0,tfld_41_1,tfld_41_2,tfld_67_0,tfld_67_1,tstr_41,tstr_67,tsz_38,tsz_39,tsz_4,tsz_41,tsz_67,tzero_38,tzero_41,tzero_67, *]
      refine ACalls.mono (hR2 _) ?_
      rintro _ σ2 ⟨i2, rfl, hK2⟩
      have kob2 := hK2.obj
      have kno2 := hK2.nobj
      simp only [new_nobj] at kno2
      simp (maxSteps:=3000000) (disch:=(first|omega|(simp only [B1, *];omega))) only [↓mapA_nil, ↓mapA_cons,B0,B4,awant,undef,aq,al,cst,cst1,acells,flat,behind,abin,aconv,aint,thenQ,blkQ,retQ,rdo,objOf,Value.cells,Value.oneCell',Int.reduceToNat, ↓reduceIte,Nat.reduceLT,Nat.reduceEqDiff,reduceCtorEq,Nat.reduceAdd,Nat.reduceMul,Nat.reduceLeDiff,u_3,u_39,telem_39,tez_39,tfld_41_0,tfld_41_1,tfld_41_2,tfld_67_0,tfld_67_1,tstr_41,tstr_67,tsz_38,tsz_39,tsz_4,tsz_41,tsz_67,tzero_38,tzero_41,tzero_67, *]
      refine hκ.out _ _ ⟨kept_keep (((Keep.refl _).new _).trans hK2), ?_⟩
      clear hκ κ
      refine uany_one (i := 6) (by kernel_rfl) ?_
      refine aOne_k ?_
      intro κ hκ
      simp (maxSteps:=3000000) (disch:=(first|omega|(simp only [B1, *];omega))) only [↓mapA_nil, ↓mapA_cons,B0,B4,awant,undef,aq,al,cst,cst1,acells,flat,behind,abin,aconv,aint,thenQ,blkQ,retQ,rdo,objOf,Value.cells,Value.oneCell',Int.reduceToNat, ↓reduceIte,Nat.reduceLT,Nat.reduceEqDiff,reduceCtorEq,Nat.reduceAdd,Nat.reduceMul,Nat.reduceLeDiff,u_3,u_39,telem_39,tez_39,tfld_41_0,tfld_41_1,tfld_41_2,tfld_67_0,tfld_67_1,tstr_41,tstr_67,tsz_38,tsz_39,tsz_4,tsz_41,tsz_67,tzero_38,tzero_41,tzero_67, *]
      refine hκ.out _ _ ⟨kept_keep (((Keep.refl _).new _).trans hK2), ?_⟩
      clear hκ κ
      refine uany_one (i := 8) (by kernel_rfl) ?_
      refine aOne_k ?_
      intro κ hκ
      simp (maxSteps:=3000000) (disch:=(first|omega|(simp only [B1, *];omega))) only [↓mapA_nil, ↓mapA_cons,B0,B4,awant,undef,aq,al,cst,cst1,acells,flat,behind,abin,aconv,aint,thenQ,blkQ,retQ,rdo,objOf,Value.cells,Value.oneCell',Int.reduceToNat, ↓reduceIte,Nat.reduceLT,Nat.reduceEqDiff,reduceCtorEq,Nat.reduceAdd,Nat.reduceMul,Nat.reduceLeDiff,u_3,u_39,telem_39,tez_39,tfld_41_0,tfld_41_1,tfld_41_2,tfld_67_0,tfld_67_1,tstr_41,tstr_67,tsz_38,tsz_39,tsz_4,tsz_41,tsz_67,tzero_38,tzero_41,tzero_67, *]
      refine hκ.out _ _ ⟨kept_last rfl, ?_⟩
      clear hκ κ
      refine uany_done (by kernel_rfl) ⟨rfl, σ1.nobj, i2, by simp [upd], by simp [upd], by simp [upd], by simp [upd], by omega, by simp only [put_nobj, new_nobj]; omega, ?_, ?_, put_same, ?_⟩
      · rw [put_ne (by omega), kob2 _ (by rw [new_nobj]; omega), new_lt (by omega), ho0]
      · rw [put_ne (by omega), kob2 _ (by rw [new_nobj]; omega), new_lt (by omega), ho1]
      · exact ((hK0.new _).trans hK2).put (by omega) _
  · rintro e s σ2 ⟨rfl, o, i2, h1, h2, h3, h4, hlo, hoo, ob0, ob1, ob, hK⟩
    have kno := hK.nobj
    clear hK0 ho0 ho1 kno1 hRh
    repeat' (first
 |with_reducible (first|apply awp_seq|apply awp_block|(refine awp_region_k ?_;intro κ hκ)|(refine hκ.out _ _ ?_;clear hκ κ)|apply awp_skip|apply awp_exit|apply awp_ret)
 |((first|with_reducible (first|apply gd_split|apply gt_split)|((with_reducible refine cond_go ?_);refine awp_cond_split rfl ?_ ?_))<;>intro h<;>(try simp only [upd, ↓reduceIte,Nat.reduceEqDiff,B2] at h)<;>(try simp only [*,reduceCtorEq,decide_true,decide_false] at h)<;>(try (have hari:=h;simp only [B3] at hari))<;>(try (first|contradiction|(exfalso;omega)|(exfalso;simp at h;done)))<;>(try simp only [B5]))
 |((with_reducible refine aapp_go ?_);refine aApp_own (by first|exact tez_39) (by assumption) (by assumption) (by decide) (by rfl) (by first|assumption|(simp;done)|(simp;omega)|omega) (by rfl) (by rfl) (by decide) (by omega) (by omega) ?_;intro idn σn hOn hKn eobj enobj ever entop)
 |((with_reducible refine aappn_go ?_);refine aApp_nil (by first|exact tez_39) (by rfl) (by decide) (by rfl) (by rfl) (by decide) (by omega) (by omega) ?_)
 |(simp (maxSteps:=3000000) (disch:=(first|omega|(simp only [B1, *];omega))) only [↓mapA_nil, ↓mapA_cons,B0,B4,awant,undef,aq,al,cst,cst1,acells,flat,behind,abin,aconv,aint,thenQ,blkQ,retQ,rdo,objOf,Value.cells,Value.oneCell',Int.reduceToNat, ↓reduceIte,Nat.reduceLT,Nat.reduceEqDiff,reduceCtorEq,Nat.reduceAdd,Nat.reduceMul,Nat.reduceLeDiff,u_3,u_39,telem_39,tez_39,tfld_41_0,tfld_41_1,tfld_41_2,tfld_67_0,tfld_67_1,tstr_41,tstr_67,tsz_38,tsz_39,tsz_4,tsz_41,tsz_67,tzero_38,tzero_41,tzero_67, *])
 |((with_reducible refine and_go ?_);refine And.intro (by first|exact kept_refl|exact kept_last rfl|exact kept_keep (by assumption)) ?_)
 |(refine hκ.out _ _ ?_;clear hκ κ))
    refine awp_loop (fun m s σ' => ∃ (k i3 : Nat) (xs : List AV), m = x.body.length - k ∧ k ≤ x.body.length ∧ s 2 = ptr (σ.nobj + 1) 0 ∧ s 3 = sl ido lo.length (lo.map encI) ∧ s 4 = ptr o 0 ∧ s 18 = sl id x.body.length b ∧ s 19 = sc (.int .i64 x.body.length) ∧ s 20 = sc (.int .i64 k) ∧ Keep σ σ' ∧ o < σ'.nobj ∧ σ'.obj (σ.nobj + 1) = [sc (.bool false), sc (.int .i64 0), nilS, nilS] ∧ σ'.obj o = [sc (.bool x.out), sc (.int .i64 (N.idxOf x.head.pred : Nat)), sl i2 x.head.terms.length (rcells lo x.head.terms), sl i3 k xs] ∧ Own σ σ' i3 k ∧ xs.length = k * 3 ∧ Abs.Hid (EL (RL N lo) (x.body.take k) xs)) x.body.length
      ⟨0, 1, [], by omega, by omega, by simp [upd, h2], by simp [upd, h3], by simp [upd, h4], by simp [upd], by simp [upd], rfl, hK, hoo, ob1, ob, Own.nil _ _, by simp, rfl⟩ ?_
    clear h1 h2 h3 h4 ob0 ob1 ob hK hoo kno
    rintro m s σ' ⟨k, i3, xs, rfl, hk, h2, h3, h4, h18, h19, h20, hK, hoo, ob1, ob, hO, hxl, hX⟩
    have kno := hK.nobj
    by_cases hlt : k < x.body.length
    · have hget := List.getElem?_eq_getElem hlt
      have hmb := List.getElem_mem hlt
      obtain ⟨ha, ia, r, hd⟩ := EL_PL hb hget
      have hR := fun σ => hRb lo ido x.body[k] ia hmb hol HVL.out (hVb _ hmb) σ
      generalize x.body[k] = a at hd hget ha hR hmb
      have HG : Abs.Hid (x.body[k]? = some a) := hget
      clear hget hmb
      repeat' (first
 |with_reducible (first|apply awp_seq|apply awp_block|(refine awp_region_k ?_;intro κ hκ)|(refine hκ.out _ _ ?_;clear hκ κ)|apply awp_skip|apply awp_exit|apply awp_ret)
 |((first|with_reducible (first|apply gd_split|apply gt_split)|((with_reducible refine cond_go ?_);refine awp_cond_split rfl ?_ ?_))<;>intro h<;>(try simp only [upd, ↓reduceIte,Nat.reduceEqDiff,B2] at h)<;>(try simp only [*,reduceCtorEq,decide_true,decide_false] at h)<;>(try (have hari:=h;simp only [B3] at hari))<;>(try (first|contradiction|(exfalso;omega)|(exfalso;simp at h;done)))<;>(try simp only [B5]))
 |((with_reducible refine aapp_go ?_);refine aApp_own (by first|exact tez_39) (by assumption) (by assumption) (by decide) (by rfl) (by first|assumption|(simp;done)|(simp;omega)|omega) (by rfl) (by rfl) (by decide) (by omega) (by omega) ?_;intro idn σn hOn hKn eobj enobj ever entop)
 |((with_reducible refine aappn_go ?_);refine aApp_nil (by first|exact tez_39) (by rfl) (by decide) (by rfl) (by rfl) (by decide) (by omega) (by omega) ?_)
 |((with_reducible refine acalls_go ?_);refine ACalls.mono (hR _) ?_;rintro _ _ ⟨i4,rfl,hK4⟩;(have kob4:=hK4.obj;have kno4:=hK4.nobj;simp only [new_nobj,put_nobj] at kno4))
 |(simp (maxSteps:=3000000) (disch:=(first|omega|(simp only [B1, *];omega))) only [↓mapA_nil, ↓mapA_cons,B0,B4,awant,undef,aq,al,cst,cst1,acells,flat,behind,abin,aconv,aint,thenQ,blkQ,retQ,rdo,objOf,Value.cells,Value.oneCell',Int.reduceToNat, ↓reduceIte,Nat.reduceLT,Nat.reduceEqDiff,reduceCtorEq,Nat.reduceAdd,Nat.reduceMul,Nat.reduceLeDiff,u_3,u_39,telem_39,tez_39,tfld_41_0,tfld_41_1,tfld_41_2,tfld_67_0,tfld_67_1,tstr_41,tstr_67,tsz_38,tsz_39,tsz_4,tsz_41,tsz_67,tzero_38,tzero_41,tzero_67, *])
 |((with_reducible refine and_go ?_);refine And.intro (by first|exact kept_refl|exact kept_last rfl|exact kept_keep (by assumption)) ?_)
 |(refine hκ.out _ _ ?_;clear hκ κ))
      rename_i σ4
      have hKz := ((hK.new [sc (.bool false), sc (.int .i64 0), nilS]).put hK.nobj _).trans hK4
      have hOz := Own.keep (Own.put (Own.new hO [sc (.bool false), sc (.int .i64 0), nilS]) σ'.nobj [sc (.bool a.nt), sc (.int .i64 (N.idxOf a.pred : Nat)), sl ia a.terms.length (tcells a.terms)]) hK4
      refine aApp_own (by first | exact tez_39) ((hKz.new _).put (by omega) _) (Own.put (Own.new hOz _) _ _) (by decide) (by rfl) hxl (by rfl) (by rfl) (by decide) (by omega) (by omega) ?_
      intro idn σn hOn hKn eobj enobj ever entop
      simp only [put_nobj, new_nobj] at enobj
      simp (maxSteps:=3000000) (disch:=(first|omega|(simp only [B1, *];omega))) only [↓mapA_nil, ↓mapA_cons,B0,B4,awant,undef,aq,al,cst,cst1,acells,flat,behind,abin,aconv,aint,thenQ,blkQ,retQ,rdo,objOf,Value.cells,Value.oneCell',Int.reduceToNat, ↓reduceIte,Nat.reduceLT,Nat.reduceEqDiff,reduceCtorEq,Nat.reduceAdd,Nat.reduceMul,Nat.reduceLeDiff,u_3,u_39,telem_39,tez_39,tfld_41_0,tfld_41_1,tfld_41_2,tfld_67_0,tfld_67_1,tstr_41,tstr_67,tsz_38,tsz_39,tsz_4,tsz_41,tsz_67,tzero_38,tzero_41,tzero_67, *]
      repeat' (first
 |with_reducible (first|apply awp_seq|apply awp_block|(refine awp_region_k ?_;intro κ hκ)|(refine hκ.out _ _ ?_;clear hκ κ)|apply awp_skip|apply awp_exit|apply awp_ret)
 |((first|with_reducible (first|apply gd_split|apply gt_split)|((with_reducible refine cond_go ?_);refine awp_cond_split rfl ?_ ?_))<;>intro h<;>(try simp only [upd, ↓reduceIte,Nat.reduceEqDiff,B2] at h)<;>(try simp only [*,reduceCtorEq,decide_true,decide_false] at h)<;>(try (have hari:=h;simp only [B3] at hari))<;>(try (first|contradiction|(exfalso;omega)|(exfalso;simp at h;done)))<;>(try simp only [B5]))
 |((with_reducible refine aapp_go ?_);refine aApp_own (by first|exact tez_39) (by assumption) (by assumption) (by decide) (by rfl) (by first|assumption|(simp;done)|(simp;omega)|omega) (by rfl) (by rfl) (by decide) (by omega) (by omega) ?_;intro idn σn hOn hKn eobj enobj ever entop)
 |((with_reducible refine aappn_go ?_);refine aApp_nil (by first|exact tez_39) (by rfl) (by decide) (by rfl) (by rfl) (by decide) (by omega) (by omega) ?_)
 |(simp (maxSteps:=3000000) (disch:=(first|omega|(simp only [B1, *];omega))) only [↓mapA_nil, ↓mapA_cons,B0,B4,awant,undef,aq,al,cst,cst1,acells,flat,behind,abin,aconv,aint,thenQ,blkQ,retQ,rdo,objOf,Value.cells,Value.oneCell',Int.reduceToNat, ↓reduceIte,Nat.reduceLT,Nat.reduceEqDiff,reduceCtorEq,Nat.reduceAdd,Nat.reduceMul,Nat.reduceLeDiff,u_3,u_39,telem_39,tez_39,tfld_41_0,tfld_41_1,tfld_41_2,tfld_67_0,tfld_67_1,tstr_41,tstr_67,tsz_38,tsz_39,tsz_4,tsz_41,tsz_67,tzero_38,tzero_41,tzero_67, *])
 |((with_reducible refine and_go ?_);refine And.intro (by first|exact kept_refl|exact kept_last rfl|exact kept_keep (by assumption)) ?_)
 |(refine hκ.out _ _ ?_;clear hκ κ))
      refine ⟨x.body.length - (k + 1), by omega, k + 1, idn, _, rfl, by omega, by simp, hKn.put (by omega) _, by omega, rfl, Own.put hOn _ _, by simp; omega, ?_⟩
      rw [Abs.Hid, List.take_add_one, HG.out]
      exact EL.append hX.out (EL.single ⟨i4, rfl⟩)
    · have hkl : k = x.body.length := by omega
      subst hkl
      rw [List.take_length] at hX
      repeat' (first
 |with_reducible (first|apply awp_seq|apply awp_block|(refine awp_region_k ?_;intro κ hκ)|(refine hκ.out _ _ ?_;clear hκ κ)|apply awp_skip|apply awp_exit|apply awp_ret)
 |((first|with_reducible (first|apply gd_split|apply gt_split)|((with_reducible refine cond_go ?_);refine awp_cond_split rfl ?_ ?_))<;>intro h<;>(try simp only [upd, ↓reduceIte,Nat.reduceEqDiff,B2] at h)<;>(try simp only [*,reduceCtorEq,decide_true,decide_false] at h)<;>(try (have hari:=h;simp only [B3] at hari))<;>(try (first|contradiction|(exfalso;omega)|(exfalso;simp at h;done)))<;>(try simp only [B5]))
 |((with_reducible refine aapp_go ?_);refine aApp_own (by first|exact tez_39) (by assumption) (by assumption) (by decide) (by rfl) (by first|assumption|(simp;done)|(simp;omega)|omega) (by rfl) (by rfl) (by decide) (by omega) (by omega) ?_;intro idn σn hOn hKn eobj enobj ever entop)
 |((with_reducible refine aappn_go ?_);refine aApp_nil (by first|exact tez_39) (by rfl) (by decide) (by rfl) (by rfl) (by decide) (by omega) (by omega) ?_)
 |(simp (maxSteps:=3000000) (disch:=(first|omega|(simp only [B1, *];omega))) only [↓mapA_nil, ↓mapA_cons,B0,B4,awant,undef,aq,al,cst,cst1,acells,flat,behind,abin,aconv,aint,thenQ,blkQ,retQ,rdo,objOf,Value.cells,Value.oneCell',Int.reduceToNat, ↓reduceIte,Nat.reduceLT,Nat.reduceEqDiff,reduceCtorEq,Nat.reduceAdd,Nat.reduceMul,Nat.reduceLeDiff,u_3,u_39,telem_39,tez_39,tfld_41_0,tfld_41_1,tfld_41_2,tfld_67_0,tfld_67_1,tstr_41,tstr_67,tsz_38,tsz_39,tsz_4,tsz_41,tsz_67,tzero_38,tzero_41,tzero_67, *])
 |((with_reducible refine and_go ?_);refine And.intro (by first|exact kept_refl|exact kept_last rfl|exact kept_keep (by assumption)) ?_)
 |(refine hκ.out _ _ ?_;clear hκ κ))
      exact ⟨_, rfl, _, rfl, ⟨i2, i3, xs, hX.out, rfl⟩, hK.put (by omega) _⟩
end Go.Proofs.YtmoeoppbmhfbpaaDoorX
