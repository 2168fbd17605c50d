import Derived.Test.YtmoeoppbmhfbpaaDoorXTxtF
import Derived.Test.YtmoeoppbmhfbpaaDoorXAbsWp
/- Plain texts, walked: covered. -/
namespace Go.Proofs.YtmoeoppbmhfbpaaDoorX
open Go.Abs
set_option linter.unusedSimpArgs false
set_option linter.unusedVariables false
set_option maxRecDepth 100000

def cvF (t b : Tx) : Bool := (b.head? != some 33) && decide (t ∈ tmsL b)
def cvT (l : List Tx) (t : Tx) : Bool := !variableB t || l.any (cvF t)
theorem cvB_all (a : Tx) (l : List Tx) : cvB a l = (tmsL a).all (cvT l) := rfl
theorem any_step {α : Type} {l : List α} {f : α → Bool} {i : Nat} {x : α} (h : l[i]? = some x) : (l.take (i + 1)).any f = ((l.take i).any f || f x) := by
  rw [List.take_add_one, h, Option.toList_some, List.any_append]; simp
set_option maxHeartbeats 32000000 in
theorem kcovered_spec (a : Tx) (l : List Tx) (idl : Nat) (ha : a.length ≤ 100000) (hl : l.length ≤ 1000) (htn : (tmsL a).length ≤ 100000) (hb : ∀ b ∈ l, b ≠ [] ∧ b.length ≤ 100000 ∧ (tmsL b).length ≤ 100000) (σ : St) : ACalls Tryd.prog 19 [str a, sl idl l.length (l.map str)] σ fun r σ' => r = sc (.bool (cvB a l)) ∧ Keep σ σ' := by
  have hTa := fun σ => kterms_spec a ha σ
  have hLg := fun c σ => klarge_spec c σ
  rw [cvB_all]
  generalize tmsL a = ta at hTa htn
  refine acalls 60 [.tmp 4] Tryd.func19 rfl (by decide) rfl rfl (Nat.le_of_ble_eq_true rfl) ?_
  repeat' (first
 |with_reducible (first|apply awp_seq|apply awp_block|(refine awp_region_k ?_;intro κ hκ)|(refine hκ.out _ _ ?_;clear hκ κ)|apply awp_skip|apply awp_exit|apply awp_ret)
 |((first|with_reducible (first|apply gd_split|apply gt_split)|((with_reducible refine cond_go ?_);refine awp_cond_split rfl ?_ ?_))<;>intro h<;>(try simp only [upd, ↓reduceIte,Nat.reduceEqDiff,B2] at h)<;>(try simp only [*,reduceCtorEq,decide_true,decide_false] at h)<;>(try (have hari:=h;simp only [B3] at hari))<;>(try (first|contradiction|(exfalso;omega)|(exfalso;simp at h;done)))<;>(try simp only [B5]))
 |((with_reducible refine acalls_go ?_);refine ACalls.mono (hTa _) ?_;rintro _ _ ⟨⟨idt,rfl⟩,hK1⟩;(have kno1:=hK1.nobj))
 |(simp (maxSteps:=3000000) (disch:=(first|omega|(simp only [List.length_append,B1, *];omega))) only [↓mapA_nil, ↓mapA_cons,List.length_append,B0,B4,awant,undef,aq,al,cst,cst1,acells,flat,behind,abin,aconv,aint,thenQ,blkQ,retQ,rdo,objOf,Value.cells,Value.oneCell',Int.reduceToNat, ↓reduceIte,Nat.reduceLT,Nat.reduceEqDiff,reduceCtorEq,Nat.reduceAdd,Nat.reduceMul,Nat.reduceLeDiff,u_26,u_3,u_5,u_9,telem_26,tsz_9, *])
 |((with_reducible refine and_go ?_);refine And.intro (by first|exact kept_refl|exact kept_last rfl|exact kept_keep (by assumption)) ?_)
 |(refine hκ.out _ _ ?_;clear hκ κ))
  rename_i σ1
  refine awp_loop (fun m s σ' => ∃ k : Nat, m = ta.length - k ∧ k ≤ ta.length ∧ s 1 = sl idl l.length (l.map str) ∧ s 5 = sl idt ta.length (ta.map str) ∧ s 6 = sc (.int .i64 k) ∧ Keep σ σ' ∧ Abs.Hid (∀ t ∈ ta.take k, cvT l t = true)) ta.length
    ⟨0, by omega, by omega, rfl, by simp [upd], rfl, hK1, by simp [Abs.Hid]⟩ ?_
  clear kno1 hK1 hTa
  rintro m s σ2 ⟨k, rfl, hk, h1, h5, h6, hK, hA⟩
  have kno := hK.nobj
  by_cases hlt : k < ta.length
  · have hget := List.getElem?_eq_getElem hlt
    have hdr := map_str_get hlt
    generalize ta[k] = t at hget hdr
    have hnext : cvT l t = true → Abs.Hid (∀ t ∈ ta.take (k + 1), cvT l t = true) := fun ht => by
      rw [Abs.Hid, List.take_add_one, hget, Option.toList_some]
      intro u hu
      rcases List.mem_append.1 hu with hu | hu
      · exact hA.out u hu
      · simp at hu; subst hu; exact ht
    cases t with
    | nil =>
      have HA := hnext rfl
      clear hnext hget hA
      have he : (([] : Tx) == []) = true := rfl
      repeat' (first
 |with_reducible (first|apply awp_seq|apply awp_block|(refine awp_region_k ?_;intro κ hκ)|(refine hκ.out _ _ ?_;clear hκ κ)|apply awp_skip|apply awp_exit|apply awp_ret)
 |((first|with_reducible (first|apply gd_split|apply gt_split)|((with_reducible refine cond_go ?_);refine awp_cond_split rfl ?_ ?_))<;>intro h<;>(try simp only [upd, ↓reduceIte,Nat.reduceEqDiff,B2] at h)<;>(try simp only [*,reduceCtorEq,decide_true,decide_false] at h)<;>(try (have hari:=h;simp only [B3] at hari))<;>(try (first|contradiction|(exfalso;omega)|(exfalso;simp at h;done)))<;>(try simp only [B5]))
 |(simp (maxSteps:=3000000) (disch:=(first|omega|(simp only [List.length_append,B1, *];omega))) only [↓mapA_nil, ↓mapA_cons,List.length_append,B0,B4,awant,undef,aq,al,cst,cst1,acells,flat,behind,abin,aconv,aint,thenQ,blkQ,retQ,rdo,objOf,Value.cells,Value.oneCell',Int.reduceToNat, ↓reduceIte,Nat.reduceLT,Nat.reduceEqDiff,reduceCtorEq,Nat.reduceAdd,Nat.reduceMul,Nat.reduceLeDiff,u_26,u_3,u_5,u_9,telem_26,tsz_9, *])
 |((with_reducible refine and_go ?_);refine And.intro (by first|exact kept_refl|exact kept_last rfl|exact kept_keep (by assumption)) ?_)
 |(refine hκ.out _ _ ?_;clear hκ κ))
      refine ⟨ta.length - (k + 1), by omega, k + 1, ?_⟩
      ((repeat' (with_reducible refine And.intro ?_ ?_)) <;> (first | rfl | assumption | omega | (simp only [new_nobj, put_nobj, lay_nobj]; omega) | (simp; omega) | (simp; done) | exact (HA) | ((repeat (first | exact Keep.refl _ | assumption | (refine Keep.put ?_ (by first | omega | (simp only [new_nobj, put_nobj, lay_nobj, *]; omega)) _) | (refine Keep.new ?_ _) | (refine Keep.lay ?_ _) | (refine Keep.trans ?_ (by assumption)))); done)))
    | cons b r =>
      have he : ((b :: r : Tx) == []) = false := rfl
      have hg0 : (b :: r : Tx)[0]? = some b := rfl
      have hLg := hLg b.toNat
      cases hv : largeB b.toNat with
      | false =>
        rw [hv] at hLg
        have HA := hnext (by rw [cvT, show variableB (b :: r) = false from hv]; rfl)
        clear hnext hget hA hv
        repeat' (first
 |with_reducible (first|apply awp_seq|apply awp_block|(refine awp_region_k ?_;intro κ hκ)|(refine hκ.out _ _ ?_;clear hκ κ)|apply awp_skip|apply awp_exit|apply awp_ret)
 |((first|with_reducible (first|apply gd_split|apply gt_split)|((with_reducible refine cond_go ?_);refine awp_cond_split rfl ?_ ?_))<;>intro h<;>(try simp only [upd, ↓reduceIte,Nat.reduceEqDiff,B2] at h)<;>(try simp only [*,reduceCtorEq,decide_true,decide_false] at h)<;>(try (have hari:=h;simp only [B3] at hari))<;>(try (first|contradiction|(exfalso;omega)|(exfalso;simp at h;done)))<;>(try simp only [B5]))
 |((with_reducible refine acalls_go ?_);refine ACalls.mono (hLg _) ?_;rintro _ _ ⟨rfl,rfl⟩)
 |(simp (maxSteps:=3000000) (disch:=(first|omega|(simp only [List.length_append,B1, *];omega))) only [↓mapA_nil, ↓mapA_cons,List.length_append,B0,B4,awant,undef,aq,al,cst,cst1,acells,flat,behind,abin,aconv,aint,thenQ,blkQ,retQ,rdo,objOf,Value.cells,Value.oneCell',Int.reduceToNat, ↓reduceIte,Nat.reduceLT,Nat.reduceEqDiff,reduceCtorEq,Nat.reduceAdd,Nat.reduceMul,Nat.reduceLeDiff,u_26,u_3,u_5,u_9,telem_26,tsz_9, *])
 |((with_reducible refine and_go ?_);refine And.intro (by first|exact kept_refl|exact kept_last rfl|exact kept_keep (by assumption)) ?_)
 |(refine hκ.out _ _ ?_;clear hκ κ))
        refine ⟨ta.length - (k + 1), by omega, k + 1, ?_⟩
        ((repeat' (with_reducible refine And.intro ?_ ?_)) <;> (first | rfl | assumption | omega | (simp only [new_nobj, put_nobj, lay_nobj]; omega) | (simp; omega) | (simp; done) | exact (HA) | ((repeat (first | exact Keep.refl _ | assumption | (refine Keep.put ?_ (by first | omega | (simp only [new_nobj, put_nobj, lay_nobj, *]; omega)) _) | (refine Keep.new ?_ _) | (refine Keep.lay ?_ _) | (refine Keep.trans ?_ (by assumption)))); done)))
      | true =>
        rw [hv] at hLg
        have HV : Abs.Hid (cvT l (b :: r) = l.any (cvF (b :: r))) := by rw [Abs.Hid, cvT, show variableB (b :: r) = true from hv]; rfl
        have HG : Abs.Hid (ta[k]? = some (b :: r)) := hget
        have HNX : Abs.Hid (cvT l (b :: r) = true → Abs.Hid (∀ t ∈ ta.take (k + 1), cvT l t = true)) := hnext
        clear hnext hget hv
        repeat' (first
 |with_reducible (first|apply awp_seq|apply awp_block|(refine awp_region_k ?_;intro κ hκ)|(refine hκ.out _ _ ?_;clear hκ κ)|apply awp_skip|apply awp_exit|apply awp_ret)
 |((first|with_reducible (first|apply gd_split|apply gt_split)|((with_reducible refine cond_go ?_);refine awp_cond_split rfl ?_ ?_))<;>intro h<;>(try simp only [upd, ↓reduceIte,Nat.reduceEqDiff,B2] at h)<;>(try simp only [*,reduceCtorEq,decide_true,decide_false] at h)<;>(try (have hari:=h;simp only [B3] at hari))<;>(try (first|contradiction|(exfalso;omega)|(exfalso;simp at h;done)))<;>(try simp only [B5]))
 |((with_reducible refine acalls_go ?_);refine ACalls.mono (hLg _) ?_;rintro _ _ ⟨rfl,rfl⟩)
 |(simp (maxSteps:=3000000) (disch:=(first|omega|(simp only [List.length_append,B1, *];omega))) only [↓mapA_nil, ↓mapA_cons,List.length_append,B0,B4,awant,undef,aq,al,cst,cst1,acells,flat,behind,abin,aconv,aint,thenQ,blkQ,retQ,rdo,objOf,Value.cells,Value.oneCell',Int.reduceToNat, ↓reduceIte,Nat.reduceLT,Nat.reduceEqDiff,reduceCtorEq,Nat.reduceAdd,Nat.reduceMul,Nat.reduceLeDiff,u_26,u_3,u_5,u_9,telem_26,tsz_9, *])
 |((with_reducible refine and_go ?_);refine And.intro (by first|exact kept_refl|exact kept_last rfl|exact kept_keep (by assumption)) ?_)
 |(refine hκ.out _ _ ?_;clear hκ κ))
        refine awp_loop (fun m s σ' => ∃ (j : Nat) (fd : Bool), m = l.length - j ∧ j ≤ l.length ∧ s 1 = sl idl l.length (l.map str) ∧ s 5 = sl idt ta.length (ta.map str) ∧ s 6 = sc (.int .i64 k) ∧ s 7 = sc (.bool fd) ∧ s 8 = sc (.int .i64 j) ∧ Keep σ σ' ∧ Abs.Hid (fd = (l.take j).any (cvF (b :: r)))) l.length
          ⟨0, false, by omega, by omega, by simp [upd, *], by simp [upd, *], by simp [upd, *], by simp [upd], by simp [upd], hK, by simp [Abs.Hid]⟩ ?_
        clear h1 h5 h6 hK kno hLg
        rintro m s σ3 ⟨j, fd, rfl, hj, h1, h5, h6, h7, h8, hK, hJ⟩
        have kno := hK.nobj
        by_cases hltj : j < l.length
        · have hgj := List.getElem?_eq_getElem hltj
          have hdj := map_str_get hltj
          obtain ⟨hbne, hbl, htl⟩ := hb l[j] (List.getElem_mem hltj)
          generalize l[j] = w at hgj hdj hbne hbl htl
          have hTw := fun σ => kterms_spec w hbl σ
          obtain ⟨c, q, rfl⟩ := List.exists_cons_of_ne_nil hbne
          have hst := any_step (f := cvF (b :: r)) hgj
          rw [← hJ.out] at hst
          have hc0 : (c :: q : Tx)[0]? = some c := rfl
          have hAm := fun id σ => kamong_spec (tmsL (c :: q)) id (b :: r) htl σ
          cases fd with
          | true =>
            have HJ : Abs.Hid (true = (l.take (j + 1)).any (cvF (b :: r))) := by rw [Abs.Hid, hst]; rfl
            clear hst hJ hgj hTw hAm
            repeat' (first
 |with_reducible (first|apply awp_seq|apply awp_block|(refine awp_region_k ?_;intro κ hκ)|(refine hκ.out _ _ ?_;clear hκ κ)|apply awp_skip|apply awp_exit|apply awp_ret)
 |((first|with_reducible (first|apply gd_split|apply gt_split)|((with_reducible refine cond_go ?_);refine awp_cond_split rfl ?_ ?_))<;>intro h<;>(try simp only [upd, ↓reduceIte,Nat.reduceEqDiff,B2] at h)<;>(try simp only [*,reduceCtorEq,decide_true,decide_false] at h)<;>(try (have hari:=h;simp only [B3] at hari))<;>(try (first|contradiction|(exfalso;omega)|(exfalso;simp at h;done)))<;>(try simp only [B5]))
 |(simp (maxSteps:=3000000) (disch:=(first|omega|(simp only [List.length_append,B1, *];omega))) only [↓mapA_nil, ↓mapA_cons,List.length_append,B0,B4,awant,undef,aq,al,cst,cst1,acells,flat,behind,abin,aconv,aint,thenQ,blkQ,retQ,rdo,objOf,Value.cells,Value.oneCell',Int.reduceToNat, ↓reduceIte,Nat.reduceLT,Nat.reduceEqDiff,reduceCtorEq,Nat.reduceAdd,Nat.reduceMul,Nat.reduceLeDiff,u_26,u_3,u_5,u_9,telem_26,tsz_9, *])
 |((with_reducible refine and_go ?_);refine And.intro (by first|exact kept_refl|exact kept_last rfl|exact kept_keep (by assumption)) ?_)
 |(refine hκ.out _ _ ?_;clear hκ κ))
            refine awp_mono (Q := fun e s' σ'' => e = .normal ∧ s' 7 = sc (.bool true) ∧ s' 1 = s 1 ∧ s' 5 = s 5 ∧ s' 6 = s 6 ∧ s' 8 = s 8 ∧ Keep σ3 σ'') ?_ ?_
            · refine awp_draw_h follows_mixed (fun _ => True) [] [0, 1, 2, 3, 4, 5, 6, 7, 8, 9, 10, 11, 12, 14, 15, 16, 17] 5 #[true, true, true, true, true, true, true, true, true, true, true, true, true, false, true, true, true, true, false, false, false, false] (by kernel_rfl) (fun _ _ _ h => by cases h.1) ?_; intro κ hκ; simp (maxSteps:=3000000) (disch:=(first|omega|(simp only [List.length_append,B1, *];omega))) only [↓mapA_nil, ↓mapA_cons,List.length_append,B0,B4,awant,undef,aq,al,cst,cst1,acells,flat,behind,abin,aconv,aint,thenQ,blkQ,retQ,rdo,objOf,Value.cells,Value.oneCell',Int.reduceToNat, ↓reduceIte,Nat.reduceLT,Nat.reduceEqDiff,reduceCtorEq,Nat.reduceAdd,Nat.reduceMul,Nat.reduceLeDiff,u_26,u_3,u_5,u_9,telem_26,tsz_9, *]; refine hκ.out _ ?_; clear hκ κ
              refine uany_one (i := 13) (by kernel_rfl) ?_; refine aOne_k ?_; intro κ hκ; simp (maxSteps:=3000000) (disch:=(first|omega|(simp only [List.length_append,B1, *];omega))) only [↓mapA_nil, ↓mapA_cons,List.length_append,B0,B4,awant,undef,aq,al,cst,cst1,acells,flat,behind,abin,aconv,aint,thenQ,blkQ,retQ,rdo,objOf,Value.cells,Value.oneCell',Int.reduceToNat, ↓reduceIte,Nat.reduceLT,Nat.reduceEqDiff,reduceCtorEq,Nat.reduceAdd,Nat.reduceMul,Nat.reduceLeDiff,u_26,u_3,u_5,u_9,telem_26,tsz_9, *]
              refine hκ.out _ _ ⟨kept_refl, ?_⟩; clear hκ κ
              refine uany_one (i := 18) (by kernel_rfl) ?_; refine aOne_k ?_; intro κ hκ; simp (maxSteps:=3000000) (disch:=(first|omega|(simp only [List.length_append,B1, *];omega))) only [↓mapA_nil, ↓mapA_cons,List.length_append,B0,B4,awant,undef,aq,al,cst,cst1,acells,flat,behind,abin,aconv,aint,thenQ,blkQ,retQ,rdo,objOf,Value.cells,Value.oneCell',Int.reduceToNat, ↓reduceIte,Nat.reduceLT,Nat.reduceEqDiff,reduceCtorEq,Nat.reduceAdd,Nat.reduceMul,Nat.reduceLeDiff,u_26,u_3,u_5,u_9,telem_26,tsz_9, *]
              refine hκ.out _ _ ⟨kept_refl, ?_⟩; clear hκ κ
              refine uany_rest [19, 20, 21] (by kernel_rfl) (by kernel_rfl) (fun _ _ _ h => by cases h.1) (Nat.le_refl _) (fun o ho _ => rfl) ?_
              intro κ hκ
              simp (maxSteps:=3000000) (disch:=(first|omega|(simp only [List.length_append,B1, *];omega))) only [↓mapA_nil, ↓mapA_cons,List.length_append,B0,B4,awant,undef,aq,al,cst,cst1,acells,flat,behind,abin,aconv,aint,thenQ,blkQ,retQ,rdo,objOf,Value.cells,Value.oneCell',Int.reduceToNat, ↓reduceIte,Nat.reduceLT,Nat.reduceEqDiff,reduceCtorEq,Nat.reduceAdd,Nat.reduceMul,Nat.reduceLeDiff,u_26,u_3,u_5,u_9,telem_26,tsz_9, *]
              refine hκ.out _ _ ⟨rfl, ?_⟩
              simp [upd, Keep.refl]
            · rintro e s' σ'' ⟨rfl, g7, g1, g5, g6, g8, hK6⟩
              rw [h1] at g1
              rw [h5] at g5
              rw [h6] at g6
              rw [h8] at g8
              have kno6 := hK6.nobj
              have hKz := hK.trans hK6
              clear h1 h5 h6 h7 h8 hK hK6
              generalize hfe : (l.take (j + 1)).any (cvF (b :: r)) = fe at HJ
              have HFE : Abs.Hid (fe = (l.take (j + 1)).any (cvF (b :: r))) := hfe.symm
              rw [HJ.out] at g7
              clear hfe HJ
              repeat' (first
 |with_reducible (first|apply awp_seq|apply awp_block|(refine awp_region_k ?_;intro κ hκ)|(refine hκ.out _ _ ?_;clear hκ κ)|apply awp_skip|apply awp_exit|apply awp_ret)
 |((first|with_reducible (first|apply gd_split|apply gt_split)|((with_reducible refine cond_go ?_);refine awp_cond_split rfl ?_ ?_))<;>intro h<;>(try simp only [upd, ↓reduceIte,Nat.reduceEqDiff,B2] at h)<;>(try simp only [*,reduceCtorEq,decide_true,decide_false] at h)<;>(try (have hari:=h;simp only [B3] at hari))<;>(try (first|contradiction|(exfalso;omega)|(exfalso;simp at h;done)))<;>(try simp only [B5]))
 |(simp (maxSteps:=3000000) (disch:=(first|omega|(simp only [List.length_append,B1, *];omega))) only [↓mapA_nil, ↓mapA_cons,List.length_append,B0,B4,awant,undef,aq,al,cst,cst1,acells,flat,behind,abin,aconv,aint,thenQ,blkQ,retQ,rdo,objOf,Value.cells,Value.oneCell',Int.reduceToNat, ↓reduceIte,Nat.reduceLT,Nat.reduceEqDiff,reduceCtorEq,Nat.reduceAdd,Nat.reduceMul,Nat.reduceLeDiff,u_26,u_3,u_5,u_9,telem_26,tsz_9, *])
 |((with_reducible refine and_go ?_);refine And.intro (by first|exact kept_refl|exact kept_last rfl|exact kept_keep (by assumption)) ?_)
 |(refine hκ.out _ _ ?_;clear hκ κ))
              refine ⟨l.length - (j + 1), by omega, j + 1, fe, ?_⟩
              ((repeat' (with_reducible refine And.intro ?_ ?_)) <;> (first | rfl | assumption | omega | (simp only [new_nobj, put_nobj, lay_nobj]; omega) | (simp; omega) | (simp; done) | exact (hKz) | exact (HFE) | ((repeat (first | exact Keep.refl _ | assumption | (refine Keep.put ?_ (by first | omega | (simp only [new_nobj, put_nobj, lay_nobj, *]; omega)) _) | (refine Keep.new ?_ _) | (refine Keep.lay ?_ _) | (refine Keep.trans ?_ (by assumption)))); done)))
          | false =>
            by_cases hc : c = 33
            · have hcb : ((c.toNat : Int) != 33) = false := by rw [hc]; rfl
              have HJ : Abs.Hid (false = (l.take (j + 1)).any (cvF (b :: r))) := by rw [Abs.Hid, hst, cvF, hc]; rfl
              clear hst hJ hgj hTw hAm hc
              repeat' (first
 |with_reducible (first|apply awp_seq|apply awp_block|(refine awp_region_k ?_;intro κ hκ)|(refine hκ.out _ _ ?_;clear hκ κ)|apply awp_skip|apply awp_exit|apply awp_ret)
 |((first|with_reducible (first|apply gd_split|apply gt_split)|((with_reducible refine cond_go ?_);refine awp_cond_split rfl ?_ ?_))<;>intro h<;>(try simp only [upd, ↓reduceIte,Nat.reduceEqDiff,B2] at h)<;>(try simp only [*,reduceCtorEq,decide_true,decide_false] at h)<;>(try (have hari:=h;simp only [B3] at hari))<;>(try (first|contradiction|(exfalso;omega)|(exfalso;simp at h;done)))<;>(try simp only [B5]))
 |(simp (maxSteps:=3000000) (disch:=(first|omega|(simp only [List.length_append,B1, *];omega))) only [↓mapA_nil, ↓mapA_cons,List.length_append,B0,B4,awant,undef,aq,al,cst,cst1,acells,flat,behind,abin,aconv,aint,thenQ,blkQ,retQ,rdo,objOf,Value.cells,Value.oneCell',Int.reduceToNat, ↓reduceIte,Nat.reduceLT,Nat.reduceEqDiff,reduceCtorEq,Nat.reduceAdd,Nat.reduceMul,Nat.reduceLeDiff,u_26,u_3,u_5,u_9,telem_26,tsz_9, *])
 |((with_reducible refine and_go ?_);refine And.intro (by first|exact kept_refl|exact kept_last rfl|exact kept_keep (by assumption)) ?_)
 |(refine hκ.out _ _ ?_;clear hκ κ))
              refine awp_mono (Q := fun e s' σ'' => e = .normal ∧ s' 7 = sc (.bool false) ∧ s' 1 = s 1 ∧ s' 5 = s 5 ∧ s' 6 = s 6 ∧ s' 8 = s 8 ∧ Keep σ3 σ'') ?_ ?_
              · refine awp_draw_h follows_mixed (fun _ => True) [] [0, 1, 2, 3, 4, 5, 6, 7, 8, 9, 10, 11, 12, 14, 15, 16, 17] 5 #[true, true, true, true, true, true, true, true, true, true, true, true, true, false, true, true, true, true, false, false, false, false] (by kernel_rfl) (fun _ _ _ h => by cases h.1) ?_; intro κ hκ; simp (maxSteps:=3000000) (disch:=(first|omega|(simp only [List.length_append,B1, *];omega))) only [↓mapA_nil, ↓mapA_cons,List.length_append,B0,B4,awant,undef,aq,al,cst,cst1,acells,flat,behind,abin,aconv,aint,thenQ,blkQ,retQ,rdo,objOf,Value.cells,Value.oneCell',Int.reduceToNat, ↓reduceIte,Nat.reduceLT,Nat.reduceEqDiff,reduceCtorEq,Nat.reduceAdd,Nat.reduceMul,Nat.reduceLeDiff,u_26,u_3,u_5,u_9,telem_26,tsz_9, *]; refine hκ.out _ ?_; clear hκ κ
                refine uany_one (i := 13) (by kernel_rfl) ?_; refine aOne_k ?_; intro κ hκ; simp (maxSteps:=3000000) (disch:=(first|omega|(simp only [List.length_append,B1, *];omega))) only [↓mapA_nil, ↓mapA_cons,List.length_append,B0,B4,awant,undef,aq,al,cst,cst1,acells,flat,behind,abin,aconv,aint,thenQ,blkQ,retQ,rdo,objOf,Value.cells,Value.oneCell',Int.reduceToNat, ↓reduceIte,Nat.reduceLT,Nat.reduceEqDiff,reduceCtorEq,Nat.reduceAdd,Nat.reduceMul,Nat.reduceLeDiff,u_26,u_3,u_5,u_9,telem_26,tsz_9, *]
                refine hκ.out _ _ ⟨kept_refl, ?_⟩; clear hκ κ
                refine uany_one (i := 18) (by kernel_rfl) ?_; refine aOne_k ?_; intro κ hκ; simp (maxSteps:=3000000) (disch:=(first|omega|(simp only [List.length_append,B1, *];omega))) only [↓mapA_nil, ↓mapA_cons,List.length_append,B0,B4,awant,undef,aq,al,cst,cst1,acells,flat,behind,abin,aconv,aint,thenQ,blkQ,retQ,rdo,objOf,Value.cells,Value.oneCell',Int.reduceToNat, ↓reduceIte,Nat.reduceLT,Nat.reduceEqDiff,reduceCtorEq,Nat.reduceAdd,Nat.reduceMul,Nat.reduceLeDiff,u_26,u_3,u_5,u_9,telem_26,tsz_9, *]
                refine hκ.out _ _ ⟨kept_refl, ?_⟩; clear hκ κ
                refine uany_rest [19, 20, 21] (by kernel_rfl) (by kernel_rfl) (fun _ _ _ h => by cases h.1) (Nat.le_refl _) (fun o ho _ => rfl) ?_
                intro κ hκ
                simp (maxSteps:=3000000) (disch:=(first|omega|(simp only [List.length_append,B1, *];omega))) only [↓mapA_nil, ↓mapA_cons,List.length_append,B0,B4,awant,undef,aq,al,cst,cst1,acells,flat,behind,abin,aconv,aint,thenQ,blkQ,retQ,rdo,objOf,Value.cells,Value.oneCell',Int.reduceToNat, ↓reduceIte,Nat.reduceLT,Nat.reduceEqDiff,reduceCtorEq,Nat.reduceAdd,Nat.reduceMul,Nat.reduceLeDiff,u_26,u_3,u_5,u_9,telem_26,tsz_9, *]
                refine hκ.out _ _ ⟨rfl, ?_⟩
                simp [upd, Keep.refl]
              · rintro e s' σ'' ⟨rfl, g7, g1, g5, g6, g8, hK6⟩
                rw [h1] at g1
                rw [h5] at g5
                rw [h6] at g6
                rw [h8] at g8
                have kno6 := hK6.nobj
                have hKz := hK.trans hK6
                clear h1 h5 h6 h7 h8 hK hK6
                generalize hfe : (l.take (j + 1)).any (cvF (b :: r)) = fe at HJ
                have HFE : Abs.Hid (fe = (l.take (j + 1)).any (cvF (b :: r))) := hfe.symm
                rw [HJ.out] at g7
                clear hfe HJ
                repeat' (first
 |with_reducible (first|apply awp_seq|apply awp_block|(refine awp_region_k ?_;intro κ hκ)|(refine hκ.out _ _ ?_;clear hκ κ)|apply awp_skip|apply awp_exit|apply awp_ret)
 |((first|with_reducible (first|apply gd_split|apply gt_split)|((with_reducible refine cond_go ?_);refine awp_cond_split rfl ?_ ?_))<;>intro h<;>(try simp only [upd, ↓reduceIte,Nat.reduceEqDiff,B2] at h)<;>(try simp only [*,reduceCtorEq,decide_true,decide_false] at h)<;>(try (have hari:=h;simp only [B3] at hari))<;>(try (first|contradiction|(exfalso;omega)|(exfalso;simp at h;done)))<;>(try simp only [B5]))
 |(simp (maxSteps:=3000000) (disch:=(first|omega|(simp only [List.length_append,B1, *];omega))) only [↓mapA_nil, ↓mapA_cons,List.length_append,B0,B4,awant,undef,aq,al,cst,cst1,acells,flat,behind,abin,aconv,aint,thenQ,blkQ,retQ,rdo,objOf,Value.cells,Value.oneCell',Int.reduceToNat, ↓reduceIte,Nat.reduceLT,Nat.reduceEqDiff,reduceCtorEq,Nat.reduceAdd,Nat.reduceMul,Nat.reduceLeDiff,u_26,u_3,u_5,u_9,telem_26,tsz_9, *])
 |((with_reducible refine and_go ?_);refine And.intro (by first|exact kept_refl|exact kept_last rfl|exact kept_keep (by assumption)) ?_)
 |(refine hκ.out _ _ ?_;clear hκ κ))
                refine ⟨l.length - (j + 1), by omega, j + 1, fe, ?_⟩
                ((repeat' (with_reducible refine And.intro ?_ ?_)) <;> (first | rfl | assumption | omega | (simp only [new_nobj, put_nobj, lay_nobj]; omega) | (simp; omega) | (simp; done) | exact (hKz) | exact (HFE) | ((repeat (first | exact Keep.refl _ | assumption | (refine Keep.put ?_ (by first | omega | (simp only [new_nobj, put_nobj, lay_nobj, *]; omega)) _) | (refine Keep.new ?_ _) | (refine Keep.lay ?_ _) | (refine Keep.trans ?_ (by assumption)))); done)))
            · have hcb : ((c.toNat : Int) != 33) = true := by simp only [bne, byte_ne (n := 33) 33 rfl hc]; rfl
              have HJ : Abs.Hid (decide (b :: r ∈ tmsL (c :: q)) = (l.take (j + 1)).any (cvF (b :: r))) := by
                rw [Abs.Hid, hst, cvF, show ((c :: q : Tx).head? != some 33) = true from by simpa using hc]; rfl
              clear hst hJ hgj hc
              generalize tmsL (c :: q) = tw at hTw hAm HJ htl
              generalize decide (b :: r ∈ tw) = dd at hAm HJ
              repeat' (first
 |with_reducible (first|apply awp_seq|apply awp_block|(refine awp_region_k ?_;intro κ hκ)|(refine hκ.out _ _ ?_;clear hκ κ)|apply awp_skip|apply awp_exit|apply awp_ret)
 |((first|with_reducible (first|apply gd_split|apply gt_split)|((with_reducible refine cond_go ?_);refine awp_cond_split rfl ?_ ?_))<;>intro h<;>(try simp only [upd, ↓reduceIte,Nat.reduceEqDiff,B2] at h)<;>(try simp only [*,reduceCtorEq,decide_true,decide_false] at h)<;>(try (have hari:=h;simp only [B3] at hari))<;>(try (first|contradiction|(exfalso;omega)|(exfalso;simp at h;done)))<;>(try simp only [B5]))
 |(simp (maxSteps:=3000000) (disch:=(first|omega|(simp only [List.length_append,B1, *];omega))) only [↓mapA_nil, ↓mapA_cons,List.length_append,B0,B4,awant,undef,aq,al,cst,cst1,acells,flat,behind,abin,aconv,aint,thenQ,blkQ,retQ,rdo,objOf,Value.cells,Value.oneCell',Int.reduceToNat, ↓reduceIte,Nat.reduceLT,Nat.reduceEqDiff,reduceCtorEq,Nat.reduceAdd,Nat.reduceMul,Nat.reduceLeDiff,u_26,u_3,u_5,u_9,telem_26,tsz_9, *])
 |((with_reducible refine and_go ?_);refine And.intro (by first|exact kept_refl|exact kept_last rfl|exact kept_keep (by assumption)) ?_)
 |(refine hκ.out _ _ ?_;clear hκ κ))
              refine awp_mono (Q := fun e s' σ'' => e = .normal ∧ s' 7 = sc (.bool dd) ∧ s' 1 = s 1 ∧ s' 5 = s 5 ∧ s' 6 = s 6 ∧ s' 8 = s 8 ∧ Keep σ3 σ'') ?_ ?_
              · refine awp_draw_h follows_mixed (fun _ => True) [] [0, 1, 2, 3, 4, 5, 6, 7, 8, 9, 10, 11, 12, 14, 15, 16, 17] 5 #[true, true, true, true, true, true, true, true, true, true, true, true, true, false, true, true, true, true, false, false, false, false] (by kernel_rfl) (fun _ _ _ h => by cases h.1) ?_; intro κ hκ; simp (maxSteps:=3000000) (disch:=(first|omega|(simp only [List.length_append,B1, *];omega))) only [↓mapA_nil, ↓mapA_cons,List.length_append,B0,B4,awant,undef,aq,al,cst,cst1,acells,flat,behind,abin,aconv,aint,thenQ,blkQ,retQ,rdo,objOf,Value.cells,Value.oneCell',Int.reduceToNat, ↓reduceIte,Nat.reduceLT,Nat.reduceEqDiff,reduceCtorEq,Nat.reduceAdd,Nat.reduceMul,Nat.reduceLeDiff,u_26,u_3,u_5,u_9,telem_26,tsz_9, *]; refine hκ.out _ ?_; clear hκ κ
                refine uany_one (i := 13) (by kernel_rfl) ?_; refine aOne_k ?_; intro κ hκ; simp (maxSteps:=3000000) (disch:=(first|omega|(simp only [List.length_append,B1, *];omega))) only [↓mapA_nil, ↓mapA_cons,List.length_append,B0,B4,awant,undef,aq,al,cst,cst1,acells,flat,behind,abin,aconv,aint,thenQ,blkQ,retQ,rdo,objOf,Value.cells,Value.oneCell',Int.reduceToNat, ↓reduceIte,Nat.reduceLT,Nat.reduceEqDiff,reduceCtorEq,Nat.reduceAdd,Nat.reduceMul,Nat.reduceLeDiff,u_26,u_3,u_5,u_9,telem_26,tsz_9, *]
                refine ACalls.mono (hTw _) ?_
                rintro _ σ5 ⟨⟨idw, rfl⟩, hK5⟩
                simp (maxSteps:=3000000) (disch:=(first|omega|(simp only [List.length_append,B1, *];omega))) only [↓mapA_nil, ↓mapA_cons,List.length_append,B0,B4,awant,undef,aq,al,cst,cst1,acells,flat,behind,abin,aconv,aint,thenQ,blkQ,retQ,rdo,objOf,Value.cells,Value.oneCell',Int.reduceToNat, ↓reduceIte,Nat.reduceLT,Nat.reduceEqDiff,reduceCtorEq,Nat.reduceAdd,Nat.reduceMul,Nat.reduceLeDiff,u_26,u_3,u_5,u_9,telem_26,tsz_9, *]
                refine hκ.out _ _ ⟨kept_keep hK5, ?_⟩; clear hκ κ
                refine uany_one (i := 18) (by kernel_rfl) ?_; refine aOne_k ?_; intro κ hκ; simp (maxSteps:=3000000) (disch:=(first|omega|(simp only [List.length_append,B1, *];omega))) only [↓mapA_nil, ↓mapA_cons,List.length_append,B0,B4,awant,undef,aq,al,cst,cst1,acells,flat,behind,abin,aconv,aint,thenQ,blkQ,retQ,rdo,objOf,Value.cells,Value.oneCell',Int.reduceToNat, ↓reduceIte,Nat.reduceLT,Nat.reduceEqDiff,reduceCtorEq,Nat.reduceAdd,Nat.reduceMul,Nat.reduceLeDiff,u_26,u_3,u_5,u_9,telem_26,tsz_9, *]
                refine ACalls.mono (hAm _ _) ?_
                rintro _ σ6 ⟨rfl, rfl⟩
                simp (maxSteps:=3000000) (disch:=(first|omega|(simp only [List.length_append,B1, *];omega))) only [↓mapA_nil, ↓mapA_cons,List.length_append,B0,B4,awant,undef,aq,al,cst,cst1,acells,flat,behind,abin,aconv,aint,thenQ,blkQ,retQ,rdo,objOf,Value.cells,Value.oneCell',Int.reduceToNat, ↓reduceIte,Nat.reduceLT,Nat.reduceEqDiff,reduceCtorEq,Nat.reduceAdd,Nat.reduceMul,Nat.reduceLeDiff,u_26,u_3,u_5,u_9,telem_26,tsz_9, *]
                refine hκ.out _ _ ⟨kept_keep hK5, ?_⟩; clear hκ κ
                refine uany_rest [19, 20, 21] (by kernel_rfl) (by kernel_rfl) (fun _ _ _ h => by cases h.1) hK5.nobj (fun o ho _ => hK5.ver o ho) ?_
                intro κ hκ
                simp (maxSteps:=3000000) (disch:=(first|omega|(simp only [List.length_append,B1, *];omega))) only [↓mapA_nil, ↓mapA_cons,List.length_append,B0,B4,awant,undef,aq,al,cst,cst1,acells,flat,behind,abin,aconv,aint,thenQ,blkQ,retQ,rdo,objOf,Value.cells,Value.oneCell',Int.reduceToNat, ↓reduceIte,Nat.reduceLT,Nat.reduceEqDiff,reduceCtorEq,Nat.reduceAdd,Nat.reduceMul,Nat.reduceLeDiff,u_26,u_3,u_5,u_9,telem_26,tsz_9, *]
                refine hκ.out _ _ ⟨rfl, ?_⟩
                simp [upd, hK5]
              · rintro e s' σ'' ⟨rfl, g7, g1, g5, g6, g8, hK6⟩
                rw [h1] at g1
                rw [h5] at g5
                rw [h6] at g6
                rw [h8] at g8
                have kno6 := hK6.nobj
                have hKz := hK.trans hK6
                clear h1 h5 h6 h7 h8 hK hK6
                generalize hfe : (l.take (j + 1)).any (cvF (b :: r)) = fe at HJ
                have HFE : Abs.Hid (fe = (l.take (j + 1)).any (cvF (b :: r))) := hfe.symm
                rw [HJ.out] at g7
                clear hfe HJ
                repeat' (first
 |with_reducible (first|apply awp_seq|apply awp_block|(refine awp_region_k ?_;intro κ hκ)|(refine hκ.out _ _ ?_;clear hκ κ)|apply awp_skip|apply awp_exit|apply awp_ret)
 |((first|with_reducible (first|apply gd_split|apply gt_split)|((with_reducible refine cond_go ?_);refine awp_cond_split rfl ?_ ?_))<;>intro h<;>(try simp only [upd, ↓reduceIte,Nat.reduceEqDiff,B2] at h)<;>(try simp only [*,reduceCtorEq,decide_true,decide_false] at h)<;>(try (have hari:=h;simp only [B3] at hari))<;>(try (first|contradiction|(exfalso;omega)|(exfalso;simp at h;done)))<;>(try simp only [B5]))
 |(simp (maxSteps:=3000000) (disch:=(first|omega|(simp only [List.length_append,B1, *];omega))) only [↓mapA_nil, ↓mapA_cons,List.length_append,B0,B4,awant,undef,aq,al,cst,cst1,acells,flat,behind,abin,aconv,aint,thenQ,blkQ,retQ,rdo,objOf,Value.cells,Value.oneCell',Int.reduceToNat, ↓reduceIte,Nat.reduceLT,Nat.reduceEqDiff,reduceCtorEq,Nat.reduceAdd,Nat.reduceMul,Nat.reduceLeDiff,u_26,u_3,u_5,u_9,telem_26,tsz_9, *])
 |((with_reducible refine and_go ?_);refine And.intro (by first|exact kept_refl|exact kept_last rfl|exact kept_keep (by assumption)) ?_)
 |(refine hκ.out _ _ ?_;clear hκ κ))
                refine ⟨l.length - (j + 1), by omega, j + 1, fe, ?_⟩
                ((repeat' (with_reducible refine And.intro ?_ ?_)) <;> (first | rfl | assumption | omega | (simp only [new_nobj, put_nobj, lay_nobj]; omega) | (simp; omega) | (simp; done) | exact (hKz) | exact (HFE) | ((repeat (first | exact Keep.refl _ | assumption | (refine Keep.put ?_ (by first | omega | (simp only [new_nobj, put_nobj, lay_nobj, *]; omega)) _) | (refine Keep.new ?_ _) | (refine Keep.lay ?_ _) | (refine Keep.trans ?_ (by assumption)))); done)))
        · have hjl : j = l.length := by omega
          subst hjl
          rw [List.take_length] at hJ
          cases fd with
          | true =>
            have HA := HNX.out (by rw [HV.out, ← hJ.out])
            clear HNX HV hJ hA HG
            repeat' (first
 |with_reducible (first|apply awp_seq|apply awp_block|(refine awp_region_k ?_;intro κ hκ)|(refine hκ.out _ _ ?_;clear hκ κ)|apply awp_skip|apply awp_exit|apply awp_ret)
 |((first|with_reducible (first|apply gd_split|apply gt_split)|((with_reducible refine cond_go ?_);refine awp_cond_split rfl ?_ ?_))<;>intro h<;>(try simp only [upd, ↓reduceIte,Nat.reduceEqDiff,B2] at h)<;>(try simp only [*,reduceCtorEq,decide_true,decide_false] at h)<;>(try (have hari:=h;simp only [B3] at hari))<;>(try (first|contradiction|(exfalso;omega)|(exfalso;simp at h;done)))<;>(try simp only [B5]))
 |(simp (maxSteps:=3000000) (disch:=(first|omega|(simp only [List.length_append,B1, *];omega))) only [↓mapA_nil, ↓mapA_cons,List.length_append,B0,B4,awant,undef,aq,al,cst,cst1,acells,flat,behind,abin,aconv,aint,thenQ,blkQ,retQ,rdo,objOf,Value.cells,Value.oneCell',Int.reduceToNat, ↓reduceIte,Nat.reduceLT,Nat.reduceEqDiff,reduceCtorEq,Nat.reduceAdd,Nat.reduceMul,Nat.reduceLeDiff,u_26,u_3,u_5,u_9,telem_26,tsz_9, *])
 |((with_reducible refine and_go ?_);refine And.intro (by first|exact kept_refl|exact kept_last rfl|exact kept_keep (by assumption)) ?_)
 |(refine hκ.out _ _ ?_;clear hκ κ))
            refine ⟨ta.length - (k + 1), by omega, k + 1, ?_⟩
            ((repeat' (with_reducible refine And.intro ?_ ?_)) <;> (first | rfl | assumption | omega | (simp only [new_nobj, put_nobj, lay_nobj]; omega) | (simp; omega) | (simp; done) | exact (HA) | ((repeat (first | exact Keep.refl _ | assumption | (refine Keep.put ?_ (by first | omega | (simp only [new_nobj, put_nobj, lay_nobj, *]; omega)) _) | (refine Keep.new ?_ _) | (refine Keep.lay ?_ _) | (refine Keep.trans ?_ (by assumption)))); done)))
          | false =>
            have HF : Abs.Hid (ta.all (cvT l) = false) := by
              rw [Abs.Hid, List.all_eq_false]
              exact ⟨b :: r, List.mem_of_getElem? HG.out, by rw [HV.out, ← hJ.out]; simp⟩
            clear HNX HV hJ hA HG
            repeat' (first
 |with_reducible (first|apply awp_seq|apply awp_block|(refine awp_region_k ?_;intro κ hκ)|(refine hκ.out _ _ ?_;clear hκ κ)|apply awp_skip|apply awp_exit|apply awp_ret)
 |((first|with_reducible (first|apply gd_split|apply gt_split)|((with_reducible refine cond_go ?_);refine awp_cond_split rfl ?_ ?_))<;>intro h<;>(try simp only [upd, ↓reduceIte,Nat.reduceEqDiff,B2] at h)<;>(try simp only [*,reduceCtorEq,decide_true,decide_false] at h)<;>(try (have hari:=h;simp only [B3] at hari))<;>(try (first|contradiction|(exfalso;omega)|(exfalso;simp at h;done)))<;>(try simp only [B5]))
 |(simp (maxSteps:=3000000) (disch:=(first|omega|(simp only [List.length_append,B1, *];omega))) only [↓mapA_nil, ↓mapA_cons,List.length_append,B0,B4,awant,undef,aq,al,cst,cst1,acells,flat,behind,abin,aconv,aint,thenQ,blkQ,retQ,rdo,objOf,Value.cells,Value.oneCell',Int.reduceToNat, ↓reduceIte,Nat.reduceLT,Nat.reduceEqDiff,reduceCtorEq,Nat.reduceAdd,Nat.reduceMul,Nat.reduceLeDiff,u_26,u_3,u_5,u_9,telem_26,tsz_9, *])
 |((with_reducible refine and_go ?_);refine And.intro (by first|exact kept_refl|exact kept_last rfl|exact kept_keep (by assumption)) ?_)
 |(refine hκ.out _ _ ?_;clear hκ κ))
            first | exact ⟨_, rfl, by rw [HF.out], by repeat (first | exact Keep.refl _ | assumption | (refine Keep.put ?_ (by first | omega | (simp only [new_nobj, put_nobj, lay_nobj, *]; omega)) _) | (refine Keep.new ?_ _) | (refine Keep.lay ?_ _) | (refine Keep.trans ?_ (by assumption)))⟩ | exact ⟨_, rfl, by rw [HF.out]⟩
  · have hkl : k = ta.length := by omega
    have HF : Abs.Hid (ta.all (cvT l) = true) := by
      rw [Abs.Hid, List.all_eq_true]
      have := hA.out
      rw [hkl, List.take_length] at this
      exact this
    clear hA
    repeat' (first
 |with_reducible (first|apply awp_seq|apply awp_block|(refine awp_region_k ?_;intro κ hκ)|(refine hκ.out _ _ ?_;clear hκ κ)|apply awp_skip|apply awp_exit|apply awp_ret)
 |((first|with_reducible (first|apply gd_split|apply gt_split)|((with_reducible refine cond_go ?_);refine awp_cond_split rfl ?_ ?_))<;>intro h<;>(try simp only [upd, ↓reduceIte,Nat.reduceEqDiff,B2] at h)<;>(try simp only [*,reduceCtorEq,decide_true,decide_false] at h)<;>(try (have hari:=h;simp only [B3] at hari))<;>(try (first|contradiction|(exfalso;omega)|(exfalso;simp at h;done)))<;>(try simp only [B5]))
 |(simp (maxSteps:=3000000) (disch:=(first|omega|(simp only [List.length_append,B1, *];omega))) only [↓mapA_nil, ↓mapA_cons,List.length_append,B0,B4,awant,undef,aq,al,cst,cst1,acells,flat,behind,abin,aconv,aint,thenQ,blkQ,retQ,rdo,objOf,Value.cells,Value.oneCell',Int.reduceToNat, ↓reduceIte,Nat.reduceLT,Nat.reduceEqDiff,reduceCtorEq,Nat.reduceAdd,Nat.reduceMul,Nat.reduceLeDiff,u_26,u_3,u_5,u_9,telem_26,tsz_9, *])
 |((with_reducible refine and_go ?_);refine And.intro (by first|exact kept_refl|exact kept_last rfl|exact kept_keep (by assumption)) ?_)
 |(refine hκ.out _ _ ?_;clear hκ κ))
    first | exact ⟨_, rfl, by rw [HF.out], hK⟩ | exact ⟨_, rfl, by rw [HF.out]⟩
end Go.Proofs.YtmoeoppbmhfbpaaDoorX
