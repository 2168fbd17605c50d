import Derived.Test.YtmoeoppbmhfbpaaGreatDoorYRspC
import Derived.Test.YtmoeoppbmhfbpaaGreatDoorYSpaF
/- The document's own answer: a rule without a literal; whether it is spare; Needs. -/
namespace Go.Proofs.YtmoeoppbmhfbpaaGreatDoorY
open Go.Abs
set_option linter.unusedSimpArgs false
set_option linter.unusedVariables false
set_option maxRecDepth 100000

set_option maxHeartbeats 16000000 in
theorem rwithout_spec (x : RItem) (c : List AV) (k : Nat) (hc : EItem x c) (hn : x.body.length ≤ 1000) (σ : St) : ACalls Tryz.prog 146 [ag c, sc (.int .i64 k)] σ fun r σ' => ∃ c', r = ag c' ∧ EItem (woL x k) c' ∧ Keep σ σ' := by
  obtain ⟨ih, id, b, hb, rfl⟩ := hc.cells
  unfold itemCells
  have hbl := EL.length EAtom_len hb
  refine acalls 31 [.cell 4 145] Tryz.func146 rfl (by decide) rfl rfl (Nat.le_of_ble_eq_true rfl) ?_
  repeat' (first
 |with_reducible (first|apply awp_seq|apply awp_block|(refine awp_region_k ?_;intro κ hκ)|(refine hκ.out _ _ ?_;clear hκ κ)|apply awp_skip|apply awp_exit|apply awp_ret)
 |((first|with_reducible (first|apply gd_split|apply gt_split)|((with_reducible refine cond_go ?_);refine awp_cond_split rfl ?_ ?_))<;>intro h<;>(try simp only [upd, ↓reduceIte,Nat.reduceEqDiff,B2] at h)<;>(try simp only [*,reduceCtorEq,decide_true,decide_false] at h)<;>(try (have hari:=h;simp only [B3] at hari))<;>(try (first|contradiction|(exfalso;omega)|(exfalso;simp at h;done)))<;>(try simp only [B5]))
 |((with_reducible refine aapp_go ?_);refine aApp_own (by first|exact tez_134) (by assumption) (by assumption) (by decide) (by rfl) (by first|assumption|(simp;done)|(simp;omega)|omega) (by rfl) (by rfl) (by decide) (by omega) (by omega) ?_;intro idn σn hOn hKn eobj enobj ever entop)
 |((with_reducible refine aappn_go ?_);refine aApp_nil (by first|exact tez_134) (by rfl) (by decide) (by rfl) (by rfl) (by decide) (by omega) (by omega) ?_)
 |(simp (maxSteps:=3000000) (disch:=(first|omega|(simp only [B1, *];omega))) only [↓mapA_nil, ↓mapA_cons,B0,B4,awant,undef,aq,al,cst,cst1,acells,flat,behind,abin,aconv,aint,thenQ,blkQ,retQ,rdo,objOf,Value.cells,Value.oneCell',Int.reduceToNat, ↓reduceIte,Nat.reduceLT,Nat.reduceEqDiff,reduceCtorEq,Nat.reduceAdd,Nat.reduceMul,Nat.reduceLeDiff,u_134,u_3,telem_134,tez_134,tfld_145_1,tfld_145_2,tstr_145,tsz_134,tsz_143,tsz_145,tzero_145, *])
 |((with_reducible refine and_go ?_);refine And.intro (by first|exact kept_refl|exact kept_last rfl|exact kept_keep (by assumption)) ?_)
 |(refine hκ.out _ _ ?_;clear hκ κ))
  refine awp_loop (fun m s σ' => ∃ (n i3 : Nat) (xs : List AV), m = x.body.length - n ∧ n ≤ x.body.length ∧ s 1 = sc (.int .i64 k) ∧ s 2 = ptr σ.nobj 0 ∧ s 4 = ptr (σ.nobj + 1) 0 ∧ s 5 = ptr (σ.nobj + 2) 0 ∧ s 6 = sc (.int .i64 n) ∧ Keep σ σ' ∧ σ.nobj + 2 < σ'.nobj ∧ σ'.obj σ.nobj = [sc (.bool x.out), sc (.bool x.head.nt), str x.head.pred, sl ih x.head.terms.length (x.head.terms.map str), sl id x.body.length b] ∧ σ'.obj (σ.nobj + 1) = [sc (.bool false), sc (.bool false), str [], nilS, nilS] ∧ σ'.obj (σ.nobj + 2) = [sc (.bool false), sc (.bool x.head.nt), str x.head.pred, sl ih x.head.terms.length (x.head.terms.map str), sl i3 (woT x.body k n).length xs] ∧ Own σ σ' i3 (woT x.body k n).length ∧ xs.length = (woT x.body k n).length * 3 ∧ Abs.Hid (EL EAtom (woT x.body k n) xs)) x.body.length
    ⟨0, 1, [], by omega, by omega, by simp [upd, initS], by simp [upd], by simp [upd], by simp [upd], rfl, by repeat (first | exact Keep.refl _ | assumption | (refine Keep.put ?_ (by first | omega | (simp only [new_nobj, put_nobj, lay_nobj, *]; omega)) _) | (refine Keep.new ?_ _) | (refine Keep.lay ?_ _) | (refine Keep.trans ?_ (by assumption))), by simp only [put_nobj, new_nobj]; omega, ?_, ?_, ?_, Own.nil _ _, by simp [woT], by simp [Abs.Hid, woT, EL]⟩ ?_
  · rw [put_ne (by omega), new_lt (by simp only [new_nobj]; omega), new_lt (by simp only [new_nobj]; omega), new_same]
  · rw [put_ne (by omega), new_lt (by simp only [new_nobj]; omega), new_at (by simp only [new_nobj]; omega) (by simp only [new_nobj]; omega)]
  · rw [show σ.nobj + 2 = σ.nobj + 1 + 1 by omega, put_same]; simp [woT]
  rintro m s σ' ⟨n, i3, xs, rfl, hn', h1, h2, h4, h5, h6, hK, hno, ob0, ob1, ob2, hO, hxl, hX⟩
  have kno := hK.nobj
  have hwl := woT_len x.body k n
  by_cases hlt : n < x.body.length
  · have hget := List.getElem?_eq_getElem hlt
    obtain ⟨ia, r, hd⟩ := EL_atom hb hget
    generalize x.body[n] = a at hd hget
    have HG : Abs.Hid (x.body[n]? = some a) := hget
    clear hget
    generalize hwe : woT x.body k n = wl at ob2 hO hxl hX hwl
    have HWE : Abs.Hid _ := hwe
    clear hwe
    by_cases hnk : n = k
    · have hnb : ((n : Int) != (k : Int)) = false := by simp [hnk]
      have hst : Abs.Hid (woT x.body k (n + 1) = wl) := by
        rw [Abs.Hid, ← HWE.out, hnk]; exact woT_skip (by rw [← hnk]; exact HG.out)
      clear hnk
      repeat' (first
 |with_reducible (first|apply awp_seq|apply awp_block|(refine awp_region_k ?_;intro κ hκ)|(refine hκ.out _ _ ?_;clear hκ κ)|apply awp_skip|apply awp_exit|apply awp_ret)
 |((first|with_reducible (first|apply gd_split|apply gt_split)|((with_reducible refine cond_go ?_);refine awp_cond_split rfl ?_ ?_))<;>intro h<;>(try simp only [upd, ↓reduceIte,Nat.reduceEqDiff,B2] at h)<;>(try simp only [*,reduceCtorEq,decide_true,decide_false] at h)<;>(try (have hari:=h;simp only [B3] at hari))<;>(try (first|contradiction|(exfalso;omega)|(exfalso;simp at h;done)))<;>(try simp only [B5]))
 |((with_reducible refine aapp_go ?_);refine aApp_own (by first|exact tez_134) (by assumption) (by assumption) (by decide) (by rfl) (by first|assumption|(simp;done)|(simp;omega)|omega) (by rfl) (by rfl) (by decide) (by omega) (by omega) ?_;intro idn σn hOn hKn eobj enobj ever entop)
 |((with_reducible refine aappn_go ?_);refine aApp_nil (by first|exact tez_134) (by rfl) (by decide) (by rfl) (by rfl) (by decide) (by omega) (by omega) ?_)
 |(simp (maxSteps:=3000000) (disch:=(first|omega|(simp only [B1, *];omega))) only [↓mapA_nil, ↓mapA_cons,B0,B4,awant,undef,aq,al,cst,cst1,acells,flat,behind,abin,aconv,aint,thenQ,blkQ,retQ,rdo,objOf,Value.cells,Value.oneCell',Int.reduceToNat, ↓reduceIte,Nat.reduceLT,Nat.reduceEqDiff,reduceCtorEq,Nat.reduceAdd,Nat.reduceMul,Nat.reduceLeDiff,u_134,u_3,telem_134,tez_134,tfld_145_1,tfld_145_2,tstr_145,tsz_134,tsz_143,tsz_145,tzero_145, *])
 |((with_reducible refine and_go ?_);refine And.intro (by first|exact kept_refl|exact kept_last rfl|exact kept_keep (by assumption)) ?_)
 |(refine hκ.out _ _ ?_;clear hκ κ))
      exact ⟨x.body.length - (n + 1), by omega, n + 1, i3, xs, rfl, by omega, by simp, by rw [hst.out], by rw [hst.out]; exact hO, by rw [hst.out]; exact hxl, by rw [Abs.Hid, hst.out]; exact hX.out⟩
    · have hnb : ((n : Int) != (k : Int)) = true := by simp; omega
      have hst : Abs.Hid (woT x.body k (n + 1) = wl ++ [a]) := by
        rw [Abs.Hid, ← HWE.out]; exact woT_add HG.out hnk
      clear hnk
      repeat' (first
 |with_reducible (first|apply awp_seq|apply awp_block|(refine awp_region_k ?_;intro κ hκ)|(refine hκ.out _ _ ?_;clear hκ κ)|apply awp_skip|apply awp_exit|apply awp_ret)
 |((first|with_reducible (first|apply gd_split|apply gt_split)|((with_reducible refine cond_go ?_);refine awp_cond_split rfl ?_ ?_))<;>intro h<;>(try simp only [upd, ↓reduceIte,Nat.reduceEqDiff,B2] at h)<;>(try simp only [*,reduceCtorEq,decide_true,decide_false] at h)<;>(try (have hari:=h;simp only [B3] at hari))<;>(try (first|contradiction|(exfalso;omega)|(exfalso;simp at h;done)))<;>(try simp only [B5]))
 |((with_reducible refine aapp_go ?_);refine aApp_own (by first|exact tez_134) (by assumption) (by assumption) (by decide) (by rfl) (by first|assumption|(simp;done)|(simp;omega)|omega) (by rfl) (by rfl) (by decide) (by omega) (by omega) ?_;intro idn σn hOn hKn eobj enobj ever entop)
 |((with_reducible refine aappn_go ?_);refine aApp_nil (by first|exact tez_134) (by rfl) (by decide) (by rfl) (by rfl) (by decide) (by omega) (by omega) ?_)
 |(simp (maxSteps:=3000000) (disch:=(first|omega|(simp only [B1, *];omega))) only [↓mapA_nil, ↓mapA_cons,B0,B4,awant,undef,aq,al,cst,cst1,acells,flat,behind,abin,aconv,aint,thenQ,blkQ,retQ,rdo,objOf,Value.cells,Value.oneCell',Int.reduceToNat, ↓reduceIte,Nat.reduceLT,Nat.reduceEqDiff,reduceCtorEq,Nat.reduceAdd,Nat.reduceMul,Nat.reduceLeDiff,u_134,u_3,telem_134,tez_134,tfld_145_1,tfld_145_2,tstr_145,tsz_134,tsz_143,tsz_145,tzero_145, *])
 |((with_reducible refine and_go ?_);refine And.intro (by first|exact kept_refl|exact kept_last rfl|exact kept_keep (by assumption)) ?_)
 |(refine hκ.out _ _ ?_;clear hκ κ))
      refine awp_draw_k follows_mixed (fun _ => True) [8, 9, 10] [0, 1, 2, 3, 4, 5, 6] [7, 8, 9, 10] (by kernel_rfl) (fun _ _ _ h => h) ?_
      have hKl : Keep σ' (σ'.lay 1) := (Keep.refl _).lay 1
      have hl1 : Abs.Hid ((woT x.body k (n + 1)).length = wl.length + 1) := by rw [Abs.Hid, hst.out]; simp
      intro κ hκ
      repeat' (first
 |with_reducible (first|apply awp_seq|apply awp_block|(refine awp_region_k ?_;intro κ hκ)|(refine hκ.out _ _ ?_;clear hκ κ)|apply awp_skip|apply awp_exit|apply awp_ret)
 |((first|with_reducible (first|apply gd_split|apply gt_split)|((with_reducible refine cond_go ?_);refine awp_cond_split rfl ?_ ?_))<;>intro h<;>(try simp only [upd, ↓reduceIte,Nat.reduceEqDiff,B2] at h)<;>(try simp only [*,reduceCtorEq,decide_true,decide_false] at h)<;>(try (have hari:=h;simp only [B3] at hari))<;>(try (first|contradiction|(exfalso;omega)|(exfalso;simp at h;done)))<;>(try simp only [B5]))
 |((with_reducible refine aapp_go ?_);refine aApp_own (by first|exact tez_134) (by assumption) (by assumption) (by decide) (by rfl) (by first|assumption|(simp;done)|(simp;omega)|omega) (by rfl) (by rfl) (by decide) (by omega) (by omega) ?_;intro idn σn hOn hKn eobj enobj ever entop)
 |((with_reducible refine aappn_go ?_);refine aApp_nil (by first|exact tez_134) (by rfl) (by decide) (by rfl) (by rfl) (by decide) (by omega) (by omega) ?_)
 |(simp (maxSteps:=3000000) (disch:=(first|omega|(simp only [B1, *];omega))) only [↓mapA_nil, ↓mapA_cons,B0,B4,awant,undef,aq,al,cst,cst1,acells,flat,behind,abin,aconv,aint,thenQ,blkQ,retQ,rdo,objOf,Value.cells,Value.oneCell',Int.reduceToNat, ↓reduceIte,Nat.reduceLT,Nat.reduceEqDiff,reduceCtorEq,Nat.reduceAdd,Nat.reduceMul,Nat.reduceLeDiff,u_134,u_3,telem_134,tez_134,tfld_145_1,tfld_145_2,tstr_145,tsz_134,tsz_143,tsz_145,tzero_145, *])
 |((with_reducible refine and_go ?_);refine And.intro (by first|exact kept_refl|exact kept_last rfl|exact kept_keep (by assumption)) ?_)
 |(refine hκ.out _ _ ?_;clear hκ κ))
      refine ⟨x.body.length - (n + 1), by omega, n + 1, idn, xs ++ [sc (.bool a.nt), str a.pred, sl ia a.terms.length (a.terms.map str)], rfl, by omega, by simp, hKn.put (by omega) _, by rw [hl1.out], by rw [hl1.out]; exact Own.put hOn _ _, by rw [hl1.out]; simp; omega, ?_⟩
      rw [Abs.Hid, hst.out]
      exact EL.append hX.out (EL.single ⟨ia, rfl⟩)
  · have hnl : n = x.body.length := by omega
    subst hnl
    rw [woT_all] at ob2 hX
    repeat' (first
 |with_reducible (first|apply awp_seq|apply awp_block|(refine awp_region_k ?_;intro κ hκ)|(refine hκ.out _ _ ?_;clear hκ κ)|apply awp_skip|apply awp_exit|apply awp_ret)
 |((first|with_reducible (first|apply gd_split|apply gt_split)|((with_reducible refine cond_go ?_);refine awp_cond_split rfl ?_ ?_))<;>intro h<;>(try simp only [upd, ↓reduceIte,Nat.reduceEqDiff,B2] at h)<;>(try simp only [*,reduceCtorEq,decide_true,decide_false] at h)<;>(try (have hari:=h;simp only [B3] at hari))<;>(try (first|contradiction|(exfalso;omega)|(exfalso;simp at h;done)))<;>(try simp only [B5]))
 |((with_reducible refine aapp_go ?_);refine aApp_own (by first|exact tez_134) (by assumption) (by assumption) (by decide) (by rfl) (by first|assumption|(simp;done)|(simp;omega)|omega) (by rfl) (by rfl) (by decide) (by omega) (by omega) ?_;intro idn σn hOn hKn eobj enobj ever entop)
 |((with_reducible refine aappn_go ?_);refine aApp_nil (by first|exact tez_134) (by rfl) (by decide) (by rfl) (by rfl) (by decide) (by omega) (by omega) ?_)
 |(simp (maxSteps:=3000000) (disch:=(first|omega|(simp only [B1, *];omega))) only [↓mapA_nil, ↓mapA_cons,B0,B4,awant,undef,aq,al,cst,cst1,acells,flat,behind,abin,aconv,aint,thenQ,blkQ,retQ,rdo,objOf,Value.cells,Value.oneCell',Int.reduceToNat, ↓reduceIte,Nat.reduceLT,Nat.reduceEqDiff,reduceCtorEq,Nat.reduceAdd,Nat.reduceMul,Nat.reduceLeDiff,u_134,u_3,telem_134,tez_134,tfld_145_1,tfld_145_2,tstr_145,tsz_134,tsz_143,tsz_145,tzero_145, *])
 |((with_reducible refine and_go ?_);refine And.intro (by first|exact kept_refl|exact kept_last rfl|exact kept_keep (by assumption)) ?_)
 |(refine hκ.out _ _ ?_;clear hκ κ))
    exact ⟨_, rfl, _, rfl, EItem.of (x := woL x k) (ih := ih) (id := i3) hX.out, hK.put (by omega) _⟩
set_option maxHeartbeats 16000000 in
theorem rspare_spec (x : RItem) (c : List AV) (k : Nat) (hc : EItem x c) (hx : x.fits) (h5 : x.body.length ≤ 5) (hk : k < x.body.length) (σ : St) : ACalls Tryz.prog 144 [ag c, sc (.int .i64 k)] σ fun r σ' => ∃ b, r = sc (.bool b) ∧ (b = true ↔ (safeB (woL x k) = true ∧ SpareP x k)) ∧ Keep σ σ' := by
  have hWo := fun σ => rwithout_spec x c k hc hx.1 σ
  have hSa := fun c' hc' σ => safe_spec (woL x k) c' hc' (woL_fits hx) σ
  have hSh := fun way hm hw σ => shows_spec x c k way hc hx h5 hk hm hw σ
  have hsp := shows_iff (x := x) (k := k) hk
  have e1 : Abs.Hid (safeB (woL x k) = false → ¬ (safeB (woL x k) = true ∧ SpareP x k)) := fun h => by rw [h]; simp
  have e2 : Abs.Hid (¬ 0 < x.body.length - 1 → ¬ (safeB (woL x k) = true ∧ SpareP x k)) := fun h => by rw [← hsp]; simp [h]
  have e3 : Abs.Hid (safeB (woL x k) = true → 0 < x.body.length - 1 → ((safeB (woL x k) = true ∧ SpareP x k) ↔ ∃ way, way < (x.body.length - 1) ^ x.body.length ∧ Shows x k way)) := fun h hm => by
    rw [h, ← hsp]; exact ⟨fun h => h.2.2, fun h => ⟨rfl, hm, h⟩⟩
  clear hsp
  generalize (safeB (woL x k) = true ∧ SpareP x k) = PQ at e1 e2 e3
  obtain ⟨ih, id, b, hb, rfl⟩ := hc.cells
  unfold itemCells at hWo hSh ⊢
  by_cases hm : 0 < x.body.length - 1
  · have hn2 : ¬ ((x.body.length : Int) < 2) := by omega
    have hWa := fun σ => ways_spec x.body.length (by omega) h5 σ
    have hpw := pow_small (n := x.body.length) (i := x.body.length) (by omega) h5 (Nat.le_refl _)
    have hSh := fun way hw σ => hSh way hm hw σ
    cases hsa : safeB (woL x k) with
    | false =>
      have HR : Abs.Hid (¬ PQ) := e1.out hsa
      rw [hsa] at hSa
      clear hSh hWa e1 e2 e3
      refine acalls 29 [.tmp 4] Tryz.func144 rfl (by decide) rfl rfl (Nat.le_of_ble_eq_true rfl) ?_
      repeat' (first
 |with_reducible (first|apply awp_seq|apply awp_block|(refine awp_region_k ?_;intro κ hκ)|(refine hκ.out _ _ ?_;clear hκ κ)|apply awp_skip|apply awp_exit|apply awp_ret)
 |((first|with_reducible apply gd_split|((with_reducible refine cond_go ?_);refine awp_cond_split rfl ?_ ?_))<;>intro h<;>(try simp only [upd, ↓reduceIte,Nat.reduceEqDiff,B2] at h)<;>(try simp only [*,reduceCtorEq,decide_true,decide_false] at h)<;>(try (have hari:=h;simp only [B3] at hari))<;>(try (first|contradiction|(exfalso;omega)|(exfalso;simp at h;done)))<;>(try simp only [B5]))
 |((with_reducible refine acalls_go ?_);refine ACalls.mono (hWo _) ?_;rintro _ _ ⟨c2,rfl,hE2,hK1⟩;(have kob1:=hK1.obj;have kno1:=hK1.nobj;have hS2:=hSa c2 hE2;obtain ⟨ih2,id2,b2,hb2,rfl⟩:=hE2.cells;unfold itemCells at hS2))
 |((with_reducible refine acalls_go ?_);refine ACalls.mono (hS2 _) ?_;rintro _ _ ⟨rfl,hK2⟩)
 |(simp (maxSteps:=3000000) (disch:=(first|omega|(simp only [B1, *];omega))) only [↓mapA_nil, ↓mapA_cons,B0,B4,awant,undef,aq,al,cst,cst1,acells,flat,behind,abin,aconv,aint,thenQ,blkQ,retQ,Value.cells,Value.oneCell',Int.reduceToNat, ↓reduceIte,Nat.reduceLT,Nat.reduceEqDiff,reduceCtorEq,Nat.reduceAdd,Nat.reduceMul,Nat.reduceLeDiff,u_134,u_3,telem_134,tfld_145_2,tsz_134,tsz_145, *])
 |(refine hκ.out _ _ ?_;clear hκ κ))
      exact ⟨_, rfl, false, rfl, ⟨(fun h => by cases h), fun h => absurd h HR.out⟩, by repeat (first | exact Keep.refl _ | assumption | (refine Keep.put ?_ (by first | omega | (simp only [new_nobj, put_nobj, lay_nobj, *]; omega)) _) | (refine Keep.new ?_ _) | (refine Keep.lay ?_ _) | (refine Keep.trans ?_ (by assumption)))⟩
    | true =>
      have HR : Abs.Hid (PQ ↔ ∃ way, way < (x.body.length - 1) ^ x.body.length ∧ Shows x k way) := e3.out hsa hm
      rw [hsa] at hSa
      generalize (x.body.length - 1) ^ x.body.length = W at hWa hpw HR
      clear e1 e2 e3
      refine acalls 29 [.tmp 4] Tryz.func144 rfl (by decide) rfl rfl (Nat.le_of_ble_eq_true rfl) ?_
      repeat' (first
 |with_reducible (first|apply awp_seq|apply awp_block|(refine awp_region_k ?_;intro κ hκ)|(refine hκ.out _ _ ?_;clear hκ κ)|apply awp_skip|apply awp_exit|apply awp_ret)
 |((first|with_reducible apply gd_split|((with_reducible refine cond_go ?_);refine awp_cond_split rfl ?_ ?_))<;>intro h<;>(try simp only [upd, ↓reduceIte,Nat.reduceEqDiff,B2] at h)<;>(try simp only [*,reduceCtorEq,decide_true,decide_false] at h)<;>(try (have hari:=h;simp only [B3] at hari))<;>(try (first|contradiction|(exfalso;omega)|(exfalso;simp at h;done)))<;>(try simp only [B5]))
 |((with_reducible refine acalls_go ?_);refine ACalls.mono (hWo _) ?_;rintro _ _ ⟨c2,rfl,hE2,hK1⟩;(have kob1:=hK1.obj;have kno1:=hK1.nobj;simp only [new_nobj] at kno1;have hS2:=hSa c2 hE2;obtain ⟨ih2,id2,b2,hb2,rfl⟩:=hE2.cells;unfold itemCells at hS2))
 |((with_reducible refine acalls_go ?_);refine ACalls.mono (hS2 _) ?_;rintro _ _ ⟨rfl,hK2⟩;(have kob2:=hK2.obj;have kno2:=hK2.nobj))
 |(simp (maxSteps:=3000000) (disch:=(first|omega|(simp only [B1, *];omega))) only [↓mapA_nil, ↓mapA_cons,B0,B4,awant,undef,aq,al,cst,cst1,acells,flat,behind,abin,aconv,aint,thenQ,blkQ,retQ,Value.cells,Value.oneCell',Int.reduceToNat, ↓reduceIte,Nat.reduceLT,Nat.reduceEqDiff,reduceCtorEq,Nat.reduceAdd,Nat.reduceMul,Nat.reduceLeDiff,u_134,u_3,telem_134,tfld_145_2,tsz_134,tsz_145, *])
 |(refine hκ.out _ _ ?_;clear hκ κ))
      rename_i σ1 σ2
      have hK3 : Keep σ σ2 := by repeat (first | exact Keep.refl _ | assumption | (refine Keep.put ?_ (by first | omega | (simp only [new_nobj, put_nobj, lay_nobj, *]; omega)) _) | (refine Keep.new ?_ _) | (refine Keep.lay ?_ _) | (refine Keep.trans ?_ (by assumption)))
      have hob2 : σ2.obj σ.nobj = [sc (.bool x.out), sc (.bool x.head.nt), str x.head.pred, sl ih x.head.terms.length (x.head.terms.map str), sl id x.body.length b] := by rw [kob2 _ (by omega), kob1 _ (by rw [new_nobj]; omega), new_same]
      refine awp_loop (fun m s σ' => ∃ way : Nat, m = W - way ∧ way ≤ W ∧ s 1 = sc (.int .i64 k) ∧ s 2 = ptr σ.nobj 0 ∧ s 5 = sc (.int .i64 x.body.length) ∧ s 6 = sc (.int .i64 way) ∧ Keep σ σ' ∧ σ.nobj < σ'.nobj ∧ σ'.obj σ.nobj = [sc (.bool x.out), sc (.bool x.head.nt), str x.head.pred, sl ih x.head.terms.length (x.head.terms.map str), sl id x.body.length b] ∧ Abs.Hid (∀ w, w < way → ¬ Shows x k w)) W
        ⟨0, by omega, by omega, by simp [upd, initS], by simp [upd], by simp [upd], rfl, hK3, by omega, hob2, fun w hw => by omega⟩ ?_
      clear hK1 hK2 kob1 kob2 kno1 kno2 hob2 hK3 hS2 hSa hWo
      rintro m s σ' ⟨way, rfl, hw, h1, h2, h5', h6, hK, hno, hob, hNo⟩
      have kno := hK.nobj
      by_cases hlt : way < W
      · have hSw := fun σ => hSh way (by omega) σ
        repeat' (first
 |with_reducible (first|apply awp_seq|apply awp_block|(refine awp_region_k ?_;intro κ hκ)|(refine hκ.out _ _ ?_;clear hκ κ)|apply awp_skip|apply awp_exit|apply awp_ret)
 |((first|with_reducible apply gd_split|((with_reducible refine cond_go ?_);refine awp_cond_split rfl ?_ ?_))<;>intro h<;>(try simp only [upd, ↓reduceIte,Nat.reduceEqDiff,B2] at h)<;>(try simp only [*,reduceCtorEq,decide_true,decide_false] at h)<;>(try (have hari:=h;simp only [B3] at hari))<;>(try (first|contradiction|(exfalso;omega)|(exfalso;simp at h;done)))<;>(try simp only [B5]))
 |((with_reducible refine acalls_go ?_);refine ACalls.mono (hWa _) ?_;rintro _ _ ⟨rfl,hσ⟩;(replace hσ:=hσ.symm;subst hσ))
 |((with_reducible refine acalls_go ?_);refine ACalls.mono (hSw _) ?_;rintro _ _ ⟨bs,rfl,hbs,hK4⟩;(have kob4:=hK4.obj;have kno4:=hK4.nobj))
 |(simp (maxSteps:=3000000) (disch:=(first|omega|(simp only [B1, *];omega))) only [↓mapA_nil, ↓mapA_cons,B0,B4,awant,undef,aq,al,cst,cst1,acells,flat,behind,abin,aconv,aint,thenQ,blkQ,retQ,Value.cells,Value.oneCell',Int.reduceToNat, ↓reduceIte,Nat.reduceLT,Nat.reduceEqDiff,reduceCtorEq,Nat.reduceAdd,Nat.reduceMul,Nat.reduceLeDiff,u_134,u_3,telem_134,tfld_145_2,tsz_134,tsz_145, *])
 |(refine hκ.out _ _ ?_;clear hκ κ))
        · exact ⟨_, rfl, true, rfl, ⟨fun _ => HR.out.2 ⟨way, hlt, by assumption⟩, fun _ => rfl⟩, hK.trans hK4⟩
        · have hbf : bs = false := by assumption
          exact ⟨W - (way + 1), by omega, way + 1, rfl, by omega, by simp, hK.trans hK4, by omega, fun w hw' => by
            by_cases e : w = way
            · subst e
              intro hs
              have := hbs.2 hs
              rw [hbf] at this
              cases this
            · exact hNo.out w (by omega)⟩
      · have hwl : way = W := by omega
        subst hwl
        repeat' (first
 |with_reducible (first|apply awp_seq|apply awp_block|(refine awp_region_k ?_;intro κ hκ)|(refine hκ.out _ _ ?_;clear hκ κ)|apply awp_skip|apply awp_exit|apply awp_ret)
 |((first|with_reducible apply gd_split|((with_reducible refine cond_go ?_);refine awp_cond_split rfl ?_ ?_))<;>intro h<;>(try simp only [upd, ↓reduceIte,Nat.reduceEqDiff,B2] at h)<;>(try simp only [*,reduceCtorEq,decide_true,decide_false] at h)<;>(try (have hari:=h;simp only [B3] at hari))<;>(try (first|contradiction|(exfalso;omega)|(exfalso;simp at h;done)))<;>(try simp only [B5]))
 |((with_reducible refine acalls_go ?_);refine ACalls.mono (hWa _) ?_;rintro _ _ ⟨rfl,hσ⟩;(replace hσ:=hσ.symm;subst hσ))
 |(simp (maxSteps:=3000000) (disch:=(first|omega|(simp only [B1, *];omega))) only [↓mapA_nil, ↓mapA_cons,B0,B4,awant,undef,aq,al,cst,cst1,acells,flat,behind,abin,aconv,aint,thenQ,blkQ,retQ,Value.cells,Value.oneCell',Int.reduceToNat, ↓reduceIte,Nat.reduceLT,Nat.reduceEqDiff,reduceCtorEq,Nat.reduceAdd,Nat.reduceMul,Nat.reduceLeDiff,u_134,u_3,telem_134,tfld_145_2,tsz_134,tsz_145, *])
 |(refine hκ.out _ _ ?_;clear hκ κ))
        exact ⟨_, rfl, false, rfl, ⟨(fun h => by cases h), fun h => by obtain ⟨w, hw, hs⟩ := HR.out.1 h; exact absurd hs (hNo.out w hw)⟩⟩
  · have hn2 : (x.body.length : Int) < 2 := by omega
    have HR : Abs.Hid (¬ PQ) := e2.out hm
    clear hSh e1 e2 e3
    refine acalls 29 [.tmp 4] Tryz.func144 rfl (by decide) rfl rfl (Nat.le_of_ble_eq_true rfl) ?_
    repeat' (first
 |with_reducible (first|apply awp_seq|apply awp_block|(refine awp_region_k ?_;intro κ hκ)|(refine hκ.out _ _ ?_;clear hκ κ)|apply awp_skip|apply awp_exit|apply awp_ret)
 |((first|with_reducible apply gd_split|((with_reducible refine cond_go ?_);refine awp_cond_split rfl ?_ ?_))<;>intro h<;>(try simp only [upd, ↓reduceIte,Nat.reduceEqDiff,B2] at h)<;>(try simp only [*,reduceCtorEq,decide_true,decide_false] at h)<;>(try (have hari:=h;simp only [B3] at hari))<;>(try (first|contradiction|(exfalso;omega)|(exfalso;simp at h;done)))<;>(try simp only [B5]))
 |(simp (maxSteps:=3000000) (disch:=(first|omega|(simp only [B1, *];omega))) only [↓mapA_nil, ↓mapA_cons,B0,B4,awant,undef,aq,al,cst,cst1,acells,flat,behind,abin,aconv,aint,thenQ,blkQ,retQ,Value.cells,Value.oneCell',Int.reduceToNat, ↓reduceIte,Nat.reduceLT,Nat.reduceEqDiff,reduceCtorEq,Nat.reduceAdd,Nat.reduceMul,Nat.reduceLeDiff,u_134,u_3,telem_134,tfld_145_2,tsz_134,tsz_145, *])
 |(refine hκ.out _ _ ?_;clear hκ κ))
    exact ⟨_, rfl, false, rfl, ⟨(fun h => by cases h), fun h => absurd h HR.out⟩, by repeat (first | exact Keep.refl _ | assumption | (refine Keep.put ?_ (by first | omega | (simp only [new_nobj, put_nobj, lay_nobj, *]; omega)) _) | (refine Keep.new ?_ _) | (refine Keep.lay ?_ _) | (refine Keep.trans ?_ (by assumption)))⟩
/-- the error of Spare, as the document tells it -/
def rNeedsR (t : Tx) (n m e : Int) : Prop :=
  if (refCheck t).1 ≠ 0 then e = (refCheck t).1 else
  if n < 0 ∨ ((itemsL t).length : Int) ≤ n ∨ m < 0 ∨ (∀ x, (itemsL t)[n.toNat]? = some x → (x.body.length : Int) ≤ m) then e = 6 else
  ∃ x, (itemsL t)[n.toNat]? = some x ∧ ((safeB (woL x m.toNat) = true ∧ SpareP x m.toNat) ∧ e = 0 ∨ ¬ (safeB (woL x m.toNat) = true ∧ SpareP x m.toNat) ∧ e = 10)
/-- a text that is let through: its items -/
theorem right_items {t : Tx} (he : (refCheck t).1 = 0) : t.length ≤ 600 ∧ ∃ l r, pItems 16 t = .got l r := by
  have hlen : t.length ≤ 600 := by
    by_cases hl : 600 < t.length
    · unfold refCheck at he; rw [if_pos hl] at he; simp at he
    · omega
  refine ⟨hlen, ?_⟩
  have hp := placeL_parse t
  cases h : pItems 16 t with
  | got l r => exact ⟨l, r, rfl⟩
  | bad e =>
    rw [h] at hp
    have hp : placeL t = ((t.length - e.length : Nat) : Int) := hp
    unfold refCheck at he
    rw [if_neg (by omega), hp, if_pos (Int.natCast_nonneg _)] at he
    simp at he
set_option maxHeartbeats 16000000 in
theorem needs_spec (t : Tx) (n m : Int) (σ : St) : ACalls Tryz.prog 93 [str t, sc (.int .i64 n), sc (.int .i64 m)] σ fun r σ' => ∃ e, r = sc (.int .i64 e) ∧ rNeedsR t n m e ∧ Keep σ σ' := by
  have hC := fun σ => rcheck_spec t σ
  by_cases he : (refCheck t).1 = 0
  · obtain ⟨hlen, l, r, hpi⟩ := right_items he
    obtain ⟨g1, g2, g3, g4⟩ := parse_good (by omega) hpi
    have hfits : ∀ x ∈ itemsL t, x.fits := by
      intro x hx
      unfold itemsL at hx
      rw [List.mem_map] at hx
      obtain ⟨u, hu, rfl⟩ := hx
      exact itemL_fits (by have := cutL_piece hu; omega)
    have h5 : ∀ x ∈ itemsL t, x.body.length ≤ 5 := by
      intro x hx
      rw [g2] at hx
      have hw := g4 x hx
      cases ho : x.out with
      | true => rw [(hw.2.1 ho).2.2]; simp
      | false => exact (hw.2.2 ho).2.2.1
    have hI := fun σ => items_spec t (by omega) (by have := g1.1; omega) g1.2 σ
    rw [← g2] at g3
    have hN : Abs.Hid (∀ e, (if n < 0 ∨ ((itemsL t).length : Int) ≤ n ∨ m < 0 ∨ (∀ x, (itemsL t)[n.toNat]? = some x → (x.body.length : Int) ≤ m) then e = 6 else ∃ x, (itemsL t)[n.toNat]? = some x ∧ ((safeB (woL x m.toNat) = true ∧ SpareP x m.toNat) ∧ e = 0 ∨ ¬ (safeB (woL x m.toNat) = true ∧ SpareP x m.toNat) ∧ e = 10)) → rNeedsR t n m e) := fun e h => by
      unfold rNeedsR; rw [if_neg (by simp [he])]; exact h
    have heb : ((refCheck t).1 != 0) = false := by simp [he]
    clear he hpi g1 g2 g4 hlen
    generalize itemsL t = li at hI hfits h5 g3 hN
    by_cases hn : n < 0 ∨ (li.length : Int) ≤ n
    · have HE : Abs.Hid (rNeedsR t n m 6) := hN.out 6 (by
        rw [if_pos]
        rcases hn with h | h
        · exact .inl h
        · exact .inr (.inl h))
      clear hN
      refine acalls 49 [.tmp 6] Tryz.func93 rfl (by decide) rfl rfl (Nat.le_of_ble_eq_true rfl) ?_
      repeat' (first
 |with_reducible (first|apply awp_seq|apply awp_block|(refine awp_region_k ?_;intro κ hκ)|(refine hκ.out _ _ ?_;clear hκ κ)|apply awp_skip|apply awp_exit|apply awp_ret)
 |((first|with_reducible apply gd_split|((with_reducible refine cond_go ?_);refine awp_cond_split rfl ?_ ?_))<;>intro h<;>(try simp only [upd, ↓reduceIte,Nat.reduceEqDiff,B2] at h)<;>(try simp only [*,reduceCtorEq,decide_true,decide_false] at h)<;>(try (have hari:=h;simp only [B3] at hari))<;>(try (first|contradiction|(exfalso;omega)|(exfalso;simp at h;done)))<;>(try simp only [B5]))
 |((with_reducible refine acalls_go ?_);refine ACalls.mono (hC _) ?_;rintro _ _ ⟨rfl,hK1⟩)
 |((with_reducible refine acalls_go ?_);refine ACalls.mono (hI _) ?_;rintro _ _ ⟨idl,cs,rfl,hE,hK2⟩)
 |(simp (maxSteps:=3000000) (disch:=(first|omega|(simp only [B1, *];omega))) only [↓mapA_nil, ↓mapA_cons,B0,B4,awant,undef,aq,al,cst,cst1,acells,flat,behind,abin,aconv,aint,thenQ,blkQ,retQ,Value.cells,Value.oneCell',Int.reduceToNat, ↓reduceIte,Nat.reduceLT,Nat.reduceEqDiff,reduceCtorEq,Nat.reduceAdd,Nat.reduceMul,Nat.reduceLeDiff,u_134,u_137,u_3,telem_134,telem_137,tfld_145_2,tsz_134,tsz_145, *])
 |(refine hκ.out _ _ ?_;clear hκ κ))
      all_goals
        first
        | exact ⟨_, rfl, _, rfl, HE.out, by repeat (first | exact Keep.refl _ | assumption | (refine Keep.put ?_ (by first | omega | (simp only [new_nobj, put_nobj, lay_nobj, *]; omega)) _) | (refine Keep.new ?_ _) | (refine Keep.lay ?_ _) | (refine Keep.trans ?_ (by assumption)))⟩
        | (exfalso; simp only [decide_eq_true_eq, decide_eq_false_iff_not] at *; omega)
    · have hn0 : 0 ≤ n := by omega
      have hn1 : n.toNat < li.length := by omega
      have hnn : ((n.toNat : Nat) : Int) = n := Int.toNat_of_nonneg hn0
      have hnl : n < (li.length : Int) := by omega
      have hget := List.getElem?_eq_getElem hn1
      have hfx := hfits _ (List.getElem_mem hn1)
      have h5x := h5 _ (List.getElem_mem hn1)
      generalize hxe : li[n.toNat] = x at hget hfx h5x
      have HX : Abs.Hid _ := hget
      by_cases hm : m < 0 ∨ (x.body.length : Int) ≤ m
      · have HE : Abs.Hid (rNeedsR t n m 6) := hN.out 6 (by
          rw [if_pos]
          rcases hm with h | h
          · exact .inr (.inr (.inl h))
          · exact .inr (.inr (.inr fun y hy => by rw [HX.out] at hy; cases hy; exact h)))
        clear hN hxe hget hfits h5 hn
        refine acalls 49 [.tmp 6] Tryz.func93 rfl (by decide) rfl rfl (Nat.le_of_ble_eq_true rfl) ?_
        repeat' (first
 |with_reducible (first|apply awp_seq|apply awp_block|(refine awp_region_k ?_;intro κ hκ)|(refine hκ.out _ _ ?_;clear hκ κ)|apply awp_skip|apply awp_exit|apply awp_ret)
 |((first|with_reducible apply gd_split|((with_reducible refine cond_go ?_);refine awp_cond_split rfl ?_ ?_))<;>intro h<;>(try simp only [upd, ↓reduceIte,Nat.reduceEqDiff,B2] at h)<;>(try simp only [*,reduceCtorEq,decide_true,decide_false] at h)<;>(try (have hari:=h;simp only [B3] at hari))<;>(try (first|contradiction|(exfalso;omega)|(exfalso;simp at h;done)))<;>(try simp only [B5]))
 |((with_reducible refine acalls_go ?_);refine ACalls.mono (hC _) ?_;rintro _ _ ⟨rfl,hK1⟩)
 |((with_reducible refine acalls_go ?_);refine ACalls.mono (hI _) ?_;rintro _ _ ⟨idl,cs,rfl,hE,hK2⟩;(have hcl:=EL.length EItem_len hE;obtain ⟨ih,id,b,r,hb,hd⟩:=EL_item hE HX.out))
 |(simp (maxSteps:=3000000) (disch:=(first|omega|(simp only [B1, *];omega))) only [↓mapA_nil, ↓mapA_cons,B0,B4,awant,undef,aq,al,cst,cst1,acells,flat,behind,abin,aconv,aint,thenQ,blkQ,retQ,Value.cells,Value.oneCell',Int.reduceToNat, ↓reduceIte,Nat.reduceLT,Nat.reduceEqDiff,reduceCtorEq,Nat.reduceAdd,Nat.reduceMul,Nat.reduceLeDiff,u_134,u_137,u_3,telem_134,telem_137,tfld_145_2,tsz_134,tsz_145, *])
 |(refine hκ.out _ _ ?_;clear hκ κ))
        all_goals
          first
          | exact ⟨_, rfl, _, rfl, HE.out, by repeat (first | exact Keep.refl _ | assumption | (refine Keep.put ?_ (by first | omega | (simp only [new_nobj, put_nobj, lay_nobj, *]; omega)) _) | (refine Keep.new ?_ _) | (refine Keep.lay ?_ _) | (refine Keep.trans ?_ (by assumption)))⟩
          | (exfalso; simp only [decide_eq_true_eq, decide_eq_false_iff_not] at *; omega)
      · have hmn : ((m.toNat : Nat) : Int) = m := Int.toNat_of_nonneg (by omega)
        have hml : m.toNat < x.body.length := by omega
        have HE : Abs.Hid (∀ e, ((safeB (woL x m.toNat) = true ∧ SpareP x m.toNat) ∧ e = 0 ∨ ¬ (safeB (woL x m.toNat) = true ∧ SpareP x m.toNat) ∧ e = 10) → rNeedsR t n m e) := fun e h => hN.out e (by
          rw [if_neg (fun h' => by
            rcases h' with h' | h' | h' | h'
            · omega
            · omega
            · omega
            · have := h' x HX.out; omega)]
          exact ⟨x, HX.out, h⟩)
        have hSp := fun c hc σ => rspare_spec x c m.toNat hc hfx h5x hml σ
        rw [hmn] at hSp
        have hm0 : ¬ (m < 0) := by omega
        have hm1 : ¬ ((x.body.length : Int) ≤ m) := by omega
        generalize (safeB (woL x m.toNat) = true ∧ SpareP x m.toNat) = PQ at HE hSp
        clear hN hxe hget hfits h5 hn hm hml hmn
        refine acalls 49 [.tmp 6] Tryz.func93 rfl (by decide) rfl rfl (Nat.le_of_ble_eq_true rfl) ?_
        repeat' (first
 |with_reducible (first|apply awp_seq|apply awp_block|(refine awp_region_k ?_;intro κ hκ)|(refine hκ.out _ _ ?_;clear hκ κ)|apply awp_skip|apply awp_exit|apply awp_ret)
 |((first|with_reducible apply gd_split|((with_reducible refine cond_go ?_);refine awp_cond_split rfl ?_ ?_))<;>intro h<;>(try simp only [upd, ↓reduceIte,Nat.reduceEqDiff,B2] at h)<;>(try simp only [*,reduceCtorEq,decide_true,decide_false] at h)<;>(try (have hari:=h;simp only [B3] at hari))<;>(try (first|contradiction|(exfalso;omega)|(exfalso;simp at h;done)))<;>(try simp only [B5]))
 |((with_reducible refine acalls_go ?_);refine ACalls.mono (hC _) ?_;rintro _ _ ⟨rfl,hK1⟩)
 |((with_reducible refine acalls_go ?_);refine ACalls.mono (hI _) ?_;rintro _ _ ⟨idl,cs,rfl,hE,hK2⟩;(have hcl:=EL.length EItem_len hE;obtain ⟨ih,id,b,r,hb,hd⟩:=EL_item hE HX.out;have hSx:=hSp _ (EItem.of (ih:=ih) (id:=id) hb);unfold itemCells at hSx))
 |((with_reducible refine acalls_go ?_);refine ACalls.mono (hSx _) ?_;rintro _ _ ⟨bq,rfl,hbq,hK3⟩)
 |(simp (maxSteps:=3000000) (disch:=(first|omega|(simp only [B1, *];omega))) only [↓mapA_nil, ↓mapA_cons,B0,B4,awant,undef,aq,al,cst,cst1,acells,flat,behind,abin,aconv,aint,thenQ,blkQ,retQ,Value.cells,Value.oneCell',Int.reduceToNat, ↓reduceIte,Nat.reduceLT,Nat.reduceEqDiff,reduceCtorEq,Nat.reduceAdd,Nat.reduceMul,Nat.reduceLeDiff,u_134,u_137,u_3,telem_134,telem_137,tfld_145_2,tsz_134,tsz_145, *])
 |(refine hκ.out _ _ ?_;clear hκ κ))
        · refine ⟨_, rfl, 10, rfl, HE.out 10 (.inr ⟨fun hp => ?_, rfl⟩), by repeat (first | exact Keep.refl _ | assumption | (refine Keep.put ?_ (by first | omega | (simp only [new_nobj, put_nobj, lay_nobj, *]; omega)) _) | (refine Keep.new ?_ _) | (refine Keep.lay ?_ _) | (refine Keep.trans ?_ (by assumption)))⟩
          have h1 := hbq.2 hp
          have h2 : bq = false := by assumption
          rw [h2] at h1
          cases h1
        · exact ⟨_, rfl, 0, rfl, HE.out 0 (.inl ⟨by assumption, rfl⟩), by repeat (first | exact Keep.refl _ | assumption | (refine Keep.put ?_ (by first | omega | (simp only [new_nobj, put_nobj, lay_nobj, *]; omega)) _) | (refine Keep.new ?_ _) | (refine Keep.lay ?_ _) | (refine Keep.trans ?_ (by assumption)))⟩
  · have HE : Abs.Hid (rNeedsR t n m (refCheck t).1) := by rw [Abs.Hid, rNeedsR, if_pos he]
    have heb : ((refCheck t).1 != 0) = true := by simpa using he
    clear he
    refine acalls 49 [.tmp 6] Tryz.func93 rfl (by decide) rfl rfl (Nat.le_of_ble_eq_true rfl) ?_
    repeat' (first
 |with_reducible (first|apply awp_seq|apply awp_block|(refine awp_region_k ?_;intro κ hκ)|(refine hκ.out _ _ ?_;clear hκ κ)|apply awp_skip|apply awp_exit|apply awp_ret)
 |((first|with_reducible apply gd_split|((with_reducible refine cond_go ?_);refine awp_cond_split rfl ?_ ?_))<;>intro h<;>(try simp only [upd, ↓reduceIte,Nat.reduceEqDiff,B2] at h)<;>(try simp only [*,reduceCtorEq,decide_true,decide_false] at h)<;>(try (have hari:=h;simp only [B3] at hari))<;>(try (first|contradiction|(exfalso;omega)|(exfalso;simp at h;done)))<;>(try simp only [B5]))
 |((with_reducible refine acalls_go ?_);refine ACalls.mono (hC _) ?_;rintro _ _ ⟨rfl,hK1⟩)
 |(simp (maxSteps:=3000000) (disch:=(first|omega|(simp only [B1, *];omega))) only [↓mapA_nil, ↓mapA_cons,B0,B4,awant,undef,aq,al,cst,cst1,acells,flat,behind,abin,aconv,aint,thenQ,blkQ,retQ,Value.cells,Value.oneCell',Int.reduceToNat, ↓reduceIte,Nat.reduceLT,Nat.reduceEqDiff,reduceCtorEq,Nat.reduceAdd,Nat.reduceMul,Nat.reduceLeDiff,u_134,u_137,u_3,telem_134,telem_137,tfld_145_2,tsz_134,tsz_145, *])
 |(refine hκ.out _ _ ?_;clear hκ κ))
    first | exact ⟨_, rfl, _, rfl, HE.out, hK1⟩ | exact ⟨_, rfl, _, rfl, HE.out⟩
end Go.Proofs.YtmoeoppbmhfbpaaGreatDoorY
