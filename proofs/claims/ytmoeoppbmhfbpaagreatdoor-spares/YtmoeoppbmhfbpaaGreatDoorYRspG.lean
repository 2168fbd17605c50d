import Derived.Test.YtmoeoppbmhfbpaaGreatDoorYRspE
import Derived.Test.YtmoeoppbmhfbpaaGreatDoorYAbsWp
/- The document's own answer: Spared. -/
namespace Go.Proofs.YtmoeoppbmhfbpaaGreatDoorY
open Go.Abs
set_option linter.unusedSimpArgs false
set_option linter.unusedVariables false
set_option maxRecDepth 100000

theorem needs_unique {t : Tx} {n m e e' : Int} (h : rNeedsR t n m e) (h' : rNeedsR t n m e') : e = e' := by
  unfold rNeedsR at h h'
  split at h
  · rename_i hc; rw [if_pos hc] at h'; rw [h, h']
  · rename_i hc
    rw [if_neg hc] at h'
    split at h
    · rename_i hd; rw [if_pos hd] at h'; rw [h, h']
    · rename_i hd
      rw [if_neg hd] at h'
      obtain ⟨x, hx, h⟩ := h
      obtain ⟨y, hy, h'⟩ := h'
      rw [hx] at hy
      cases hy
      rcases h with ⟨h1, h2⟩ | ⟨h1, h2⟩ <;> rcases h' with ⟨h3, h4⟩ | ⟨h3, h4⟩
      · rw [h2, h4]
      · exact absurd h1 h3
      · exact absurd h3 h1
      · rw [h2, h4]
set_option maxHeartbeats 16000000 in
theorem spared_err (t : Tx) (n m e : Int) (he : rNeedsR t n m e) (hne : e ≠ 0) (σ : St) : ACalls Tryz.prog 55 [str t, sc (.int .i64 n), sc (.int .i64 m), str [], sc (.int .i64 e)] σ fun r σ' => r = sc (.bool true) ∧ Keep σ σ' := by
  have hNe : ∀ σ, ACalls Tryz.prog 93 [str t, sc (.int .i64 n), sc (.int .i64 m)] σ fun r σ' => r = sc (.int .i64 e) ∧ Keep σ σ' := fun σ => (needs_spec t n m σ).mono fun r σ' ⟨e', h1, h2, h3⟩ => ⟨by rw [h1, needs_unique h2 he], h3⟩
  have hb1 : (e != e) = false := by simp
  have hb2 : (e != 0) = true := by simpa using hne
  clear he hne
  refine acalls 123 [.tmp 10] Tryz.func55 rfl (by decide) rfl rfl (Nat.le_of_ble_eq_true rfl) ?_
  repeat' (first
 |with_reducible (first|apply awp_seq|apply awp_block|(refine awp_region_k ?_;intro κ hκ)|(refine hκ.out _ _ ?_;clear hκ κ)|apply awp_skip|apply awp_exit|apply awp_ret)
 |((first|with_reducible (first|apply gd_split|apply gt_split)|((with_reducible refine cond_go ?_);refine awp_cond_split rfl ?_ ?_))<;>intro h<;>(try simp only [upd, ↓reduceIte,Nat.reduceEqDiff,B2] at h)<;>(try simp only [*,reduceCtorEq,decide_true,decide_false] at h)<;>(try (have hari:=h;simp only [B3] at hari))<;>(try (first|contradiction|(exfalso;omega)|(exfalso;simp at h;done)))<;>(try simp only [B5]))
 |((with_reducible refine aapp_go ?_);refine aApp_own (by first|exact tez_150) (by assumption) (by assumption) (by decide) (by rfl) (by first|assumption|(simp;done)|(simp;omega)|omega) (by rfl) (by rfl) (by decide) (by omega) (by omega) ?_;intro idn σn hOn hKn eobj enobj ever entop)
 |((with_reducible refine aappn_go ?_);refine aApp_nil (by first|exact tez_150) (by rfl) (by decide) (by rfl) (by rfl) (by decide) (by omega) (by omega) ?_)
 |((with_reducible refine acalls_go ?_);refine ACalls.mono (hNe _) ?_;rintro _ _ ⟨rfl,hK1⟩)
 |(simp (maxSteps:=3000000) (disch:=(first|omega|(simp only [List.length_append,B1, *];omega))) only [↓mapA_nil, ↓mapA_cons,List.length_append,B0,B4,awant,undef,aq,al,cst,cst1,acells,flat,behind,abin,aconv,aint,thenQ,blkQ,retQ,rdo,objOf,Value.cells,Value.oneCell',Int.reduceToNat, ↓reduceIte,Nat.reduceLT,Nat.reduceEqDiff,reduceCtorEq,Nat.reduceAdd,Nat.reduceMul,Nat.reduceLeDiff,u_134,u_150,u_3,u_37,u_9,telem_134,telem_137,telem_150,telem_37,tez_150,tfld_145_1,tfld_145_2,tfld_152_0,tfld_152_1,tstr_152,tsz_134,tsz_143,tsz_145,tsz_9,tzero_145, *])
 |((with_reducible refine and_go ?_);refine And.intro (by first|exact kept_refl|exact kept_last rfl|exact kept_keep (by assumption)) ?_)
 |(refine hκ.out _ _ ?_;clear hκ κ))
  first | exact ⟨_, rfl, rfl, by repeat (first | exact Keep.refl _ | assumption | (refine Keep.put ?_ (by first | omega | (simp only [new_nobj, put_nobj, lay_nobj, *]; omega)) _) | (refine Keep.new ?_ _) | (refine Keep.lay ?_ _) | (refine Keep.trans ?_ (by assumption)))⟩ | exact ⟨_, rfl, rfl⟩
/-- what Spared asks of what was put -/
structure Put (y : RItem) (k : Nat) (ts : List Tx) : Prop where
  fits : y.fits
  few : (ordL y).length ≤ 26
  len : ts.length = (ordL y).length
  solid : ∀ t ∈ ts, Solid 44 t ∧ t.length ≤ 1000
  head : ∀ p ∈ (ordL y).zip ts, p.1 ∈ y.head.terms → p.2 = p.1
  lands : ∀ (j : Nat) (a : RAtom), y.body[j]? = some a → ∃ b ∈ y.body.eraseIdx k, sameP b (putA ((ordL y).zip ts) a)
theorem uList_len {ts : List Tx} (h : ∀ t ∈ ts, t.length ≤ 1000) : (uList ts).length ≤ ts.length * 1001 := by
  have key : ∀ ts : List Tx, (∀ t ∈ ts, t.length ≤ 1000) → (uMore ts).length ≤ ts.length * 1001 := by
    intro ts
    induction ts with
    | nil => intro _; simp [uMore]
    | cons t ts ih =>
      intro h
      have h1 := ih fun u hu => h u (by simp [hu])
      have h2 := h t (by simp)
      unfold uMore at *
      simp only [List.flatMap_cons, List.length_append, List.length_cons]
      omega
  cases ts with
  | nil => simp [uList]
  | cons t ts =>
    have h1 := key ts fun u hu => h u (by simp [hu])
    have h2 := h t (by simp)
    unfold uList
    simp only [List.length_append, List.length_cons]
    omega
set_option maxHeartbeats 32000000 in
theorem spared_ok (t : Tx) (n m : Int) (T : Tx) (li : List RItem) (y : RItem) (ts : List Tx) (he : rNeedsR t n m 0) (hPr : refPrint t = (T, 0)) (hT : T.length ≤ 1000) (hg : goodText T) (hI : itemsL T = li) (hn0 : 0 ≤ n) (hn1 : li[n.toNat]? = some y) (hll : li.length ≤ 1000) (hm0 : 0 ≤ m) (hm1 : m < y.body.length) (hP : Put y m.toNat ts) (σ : St) :
    ACalls Tryz.prog 55 [str t, sc (.int .i64 n), sc (.int .i64 m), str (uList ts), sc (.int .i64 0)] σ fun r σ' => r = sc (.bool true) ∧ Keep σ σ' := by
  have hNe : ∀ σ, ACalls Tryz.prog 93 [str t, sc (.int .i64 n), sc (.int .i64 m)] σ fun r σ' => r = sc (.int .i64 0) ∧ Keep σ σ' := fun σ => (needs_spec t n m σ).mono fun r σ' ⟨e', h1, h2, h3⟩ => ⟨by rw [h1, needs_unique h2 he], h3⟩
  have hRp := fun σ => rprint_spec t σ
  rw [hPr] at hRp
  have hIt := fun σ => items_spec T hT (by have := hg.1; omega) hg.2 σ
  rw [hI] at hIt
  have hOr := fun c hc σ => ordered_spec y c hc hP.fits σ
  have hul := uList_len (fun u hu => (hP.solid u hu).2)
  have hCu := fun σ => cut_spec (uList ts) 44 (by have := hP.len; have := hP.few; omega) σ
  rw [cut_list (fun u hu => (hP.solid u hu).1)] at hCu
  have hnl := (List.getElem?_eq_some_iff.1 hn1).1
  have hnn : ((n.toNat : Nat) : Int) = n := Int.toNat_of_nonneg hn0
  have hmn : ((m.toNat : Nat) : Int) = m := Int.toNat_of_nonneg hm0
  have hnlt : n < (li.length : Int) := by omega
  have HN1 : Abs.Hid _ := hn1
  have HP : Abs.Hid _ := hP
  have hfew := hP.few
  have hlen := hP.len
  have HTL : Abs.Hid (∀ u ∈ ts, u.length ≤ 1000) := fun u hu => (hP.solid u hu).2
  have hyf := hP.fits.1
  clear he hPr hg hI hn1 hP
  generalize hoy : ordL y = oy at hOr hfew hlen
  have HOY : Abs.Hid _ := hoy
  clear hoy
  have hlb : ((ts.length : Int) != (oy.length : Int)) = false := by simp [hlen]
  have HLEN : Abs.Hid _ := hlen
  clear hlen
  refine acalls 123 [.tmp 10] Tryz.func55 rfl (by decide) rfl rfl (Nat.le_of_ble_eq_true rfl) ?_
  repeat' (first
 |with_reducible (first|apply awp_seq|apply awp_block|(refine awp_region_k ?_;intro κ hκ)|(refine hκ.out _ _ ?_;clear hκ κ)|apply awp_skip|apply awp_exit|apply awp_ret)
 |((first|with_reducible (first|apply gd_split|apply gt_split)|((with_reducible refine cond_go ?_);refine awp_cond_split rfl ?_ ?_))<;>intro h<;>(try simp only [upd, ↓reduceIte,Nat.reduceEqDiff,B2] at h)<;>(try simp only [*,reduceCtorEq,decide_true,decide_false] at h)<;>(try (have hari:=h;simp only [B3] at hari))<;>(try (first|contradiction|(exfalso;omega)|(exfalso;simp at h;done)))<;>(try simp only [B5]))
 |((with_reducible refine aapp_go ?_);refine aApp_own (by first|exact tez_150) (by assumption) (by assumption) (by decide) (by rfl) (by first|assumption|(simp;done)|(simp;omega)|omega) (by rfl) (by rfl) (by decide) (by omega) (by omega) ?_;intro idn σn hOn hKn eobj enobj ever entop)
 |((with_reducible refine aappn_go ?_);refine aApp_nil (by first|exact tez_150) (by rfl) (by decide) (by rfl) (by rfl) (by decide) (by omega) (by omega) ?_)
 |((with_reducible refine acalls_go ?_);refine ACalls.mono (hNe _) ?_;rintro _ _ ⟨rfl,hK1⟩;(have kno1:=hK1.nobj))
 |((with_reducible refine acalls_go ?_);refine ACalls.mono (hRp _) ?_;rintro _ _ ⟨rfl,hK2⟩;(have kno2:=hK2.nobj))
 |((with_reducible refine acalls_go ?_);refine ACalls.mono (hIt _) ?_;rintro _ _ ⟨idl,cs,rfl,hE,hK3⟩;(have kno3:=hK3.nobj;have hcl:=EL.length EItem_len hE;obtain ⟨ih,id,b,r,hb,hd⟩:=EL_item hE HN1.out;have hOx:=hOr _ (EItem.of (ih:=ih) (id:=id) hb);unfold itemCells at hOx))
 |((with_reducible refine acalls_go ?_);refine ACalls.mono (hOx _) ?_;rintro _ _ ⟨ido,rfl,hK4⟩;(have kob4:=hK4.obj;have kno4:=hK4.nobj;simp only [new_nobj,put_nobj] at kno4))
 |((with_reducible refine acalls_go ?_);refine ACalls.mono (hCu _) ?_;rintro _ _ ⟨idc,rfl,hK5⟩;(have kob5:=hK5.obj;have kno5:=hK5.nobj))
 |(simp (maxSteps:=3000000) (disch:=(first|omega|(simp only [List.length_append,B1, *];omega))) only [↓mapA_nil, ↓mapA_cons,List.length_append,B0,B4,awant,undef,aq,al,cst,cst1,acells,flat,behind,abin,aconv,aint,thenQ,blkQ,retQ,rdo,objOf,Value.cells,Value.oneCell',Int.reduceToNat, ↓reduceIte,Nat.reduceLT,Nat.reduceEqDiff,reduceCtorEq,Nat.reduceAdd,Nat.reduceMul,Nat.reduceLeDiff,u_134,u_150,u_3,u_37,u_9,telem_134,telem_137,telem_150,telem_37,tez_150,tfld_145_1,tfld_145_2,tfld_152_0,tfld_152_1,tstr_152,tsz_134,tsz_143,tsz_145,tsz_9,tzero_145, *])
 |((with_reducible refine and_go ?_);refine And.intro (by first|exact kept_refl|exact kept_last rfl|exact kept_keep (by assumption)) ?_)
 |(refine hκ.out _ _ ?_;clear hκ κ))
  rename_i σ3 σ4 σ5
  obtain ⟨o, ho⟩ : ∃ o, o = σ3.nobj := ⟨_, rfl⟩
  have hKs : Keep σ σ5 := by repeat (first | exact Keep.refl _ | assumption | (refine Keep.put ?_ (by first | omega | (simp only [new_nobj, put_nobj, lay_nobj, *]; omega)) _) | (refine Keep.new ?_ _) | (refine Keep.lay ?_ _) | (refine Keep.trans ?_ (by assumption)))
  have hob : σ5.obj o = [sc (.bool y.out), sc (.bool y.head.nt), str y.head.pred, sl ih y.head.terms.length (y.head.terms.map str), sl id y.body.length b] := by rw [ho, kob5 _ (by omega), kob4 _ (by simp only [put_nobj, new_nobj]; omega), put_same]
  have hoo : o < σ5.nobj := by omega
  have hso : σ.nobj ≤ o := by omega
  rw [← ho]
  clear hK1 hK2 hK3 hK4 hK5 kno1 kno2 kno3 kno4 kno5 kob4 kob5 hOx hOr hCu hIt hRp hNe ho
  have hl2 : ∀ i, (oy.zip ts).take (i + 1) = (oy.zip ts).take i ++ ((oy.zip ts)[i]?).toList := fun i => List.take_add_one
  have hz : (oy.zip ts).length = oy.length := by rw [List.length_zip, HLEN.out]; exact Nat.min_self _
  refine awp_loop (fun mm s σ' => ∃ (i id' : Nat) (acc : Tx), mm = oy.length - i ∧ i ≤ oy.length ∧ s 2 = sc (.int .i64 m) ∧ s 3 = str (uList ts) ∧ s 14 = ptr o 0 ∧ s 15 = sl ido oy.length (oy.map str) ∧ s 16 = sl idc ts.length (ts.map str) ∧ s 17 = str acc ∧ s 18 = sl id' i (pcells ((oy.zip ts).take i)) ∧ s 19 = sc (.int .i64 i) ∧ Keep σ σ' ∧ o < σ'.nobj ∧ σ'.obj o = [sc (.bool y.out), sc (.bool y.head.nt), str y.head.pred, sl ih y.head.terms.length (y.head.terms.map str), sl id y.body.length b] ∧ Own σ σ' id' i ∧ acc.length ≤ i * 1001 ∧ Abs.Hid (acc = uList (ts.take i))) oy.length
    ⟨0, 1, [], by omega, by omega, by simp [upd, initS], by simp [upd, initS], by simp [upd], by simp [upd], by simp [upd], by simp [upd], by simp [upd, pcells], rfl, hKs, hoo, hob, Own.nil _ _, by simp, by simp [Abs.Hid, uList]⟩ ?_
  clear hKs hoo hob
  rintro mm s σ' ⟨i, id', acc, rfl, hi, h2, h3, h14, h15, h16, h17, h18, h19, hK, hoo, hob, hO, hal, hA⟩
  have kno := hK.nobj
  by_cases hlt : i < oy.length
  · have hlt2 : i < ts.length := by have := HLEN.out; omega
    have g1 := map_str_get hlt
    have g2 := map_str_get hlt2
    have hul2 := HTL.out ts[i] (List.getElem_mem hlt2)
    have hpc : Abs.Hid (pcells ((oy.zip ts).take (i + 1)) = pcells ((oy.zip ts).take i) ++ [str oy[i], str ts[i]]) := by
      rw [Abs.Hid, hl2 i, List.getElem?_eq_getElem (by rw [hz]; exact hlt), Option.toList_some, pcells_snoc, List.getElem_zip]
    have hst : Abs.Hid (uList (ts.take (i + 1)) = acc ++ ((if i = 0 then [] else [44]) ++ ts[i])) := by
      rw [Abs.Hid, List.take_add_one, List.getElem?_eq_getElem hlt2, Option.toList_some, uList_snoc, hA.out]
      by_cases h0 : i = 0
      · subst h0; simp
      · have hne : ts.take i ≠ [] := by
          intro e
          have := congrArg List.length e
          rw [List.length_take, List.length_nil] at this
          omega
        rw [if_neg hne, if_neg h0]
    have hxl : (pcells ((oy.zip ts).take i)).length = i * 2 := by rw [pcells_len, List.length_take, hz]; omega
    generalize oy[i] = v at g1 hpc
    generalize ts[i] = u at g2 hpc hst hul2
    generalize pcells ((oy.zip ts).take i) = xs at h18 hpc hxl
    by_cases hi0 : i = 0
    · have hib : decide ((0 : Int) < (i : Int)) = false := by simp [hi0]
      have hst : Abs.Hid (uList (ts.take (i + 1)) = acc ++ u) := by rw [Abs.Hid, hst.out, if_pos hi0]; simp
      clear hi0
      repeat' (first
 |with_reducible (first|apply awp_seq|apply awp_block|(refine awp_region_k ?_;intro κ hκ)|(refine hκ.out _ _ ?_;clear hκ κ)|apply awp_skip|apply awp_exit|apply awp_ret)
 |((first|with_reducible (first|apply gd_split|apply gt_split)|((with_reducible refine cond_go ?_);refine awp_cond_split rfl ?_ ?_))<;>intro h<;>(try simp only [upd, ↓reduceIte,Nat.reduceEqDiff,B2] at h)<;>(try simp only [*,reduceCtorEq,decide_true,decide_false] at h)<;>(try (have hari:=h;simp only [B3] at hari))<;>(try (first|contradiction|(exfalso;omega)|(exfalso;simp at h;done)))<;>(try simp only [B5]))
 |((with_reducible refine aapp_go ?_);refine aApp_own (by first|exact tez_150) (by assumption) (by assumption) (by decide) (by rfl) (by first|assumption|(simp;done)|(simp;omega)|omega) (by rfl) (by rfl) (by decide) (by omega) (by omega) ?_;intro idn σn hOn hKn eobj enobj ever entop)
 |((with_reducible refine aappn_go ?_);refine aApp_nil (by first|exact tez_150) (by rfl) (by decide) (by rfl) (by rfl) (by decide) (by omega) (by omega) ?_)
 |(simp (maxSteps:=3000000) (disch:=(first|omega|(simp only [List.length_append,B1, *];omega))) only [↓mapA_nil, ↓mapA_cons,List.length_append,B0,B4,awant,undef,aq,al,cst,cst1,acells,flat,behind,abin,aconv,aint,thenQ,blkQ,retQ,rdo,objOf,Value.cells,Value.oneCell',Int.reduceToNat, ↓reduceIte,Nat.reduceLT,Nat.reduceEqDiff,reduceCtorEq,Nat.reduceAdd,Nat.reduceMul,Nat.reduceLeDiff,u_134,u_150,u_3,u_37,u_9,telem_134,telem_137,telem_150,telem_37,tez_150,tfld_145_1,tfld_145_2,tfld_152_0,tfld_152_1,tstr_152,tsz_134,tsz_143,tsz_145,tsz_9,tzero_145, *])
 |((with_reducible refine and_go ?_);refine And.intro (by first|exact kept_refl|exact kept_last rfl|exact kept_keep (by assumption)) ?_)
 |(refine hκ.out _ _ ?_;clear hκ κ))
      refine awp_draw_k follows_mixed (fun _ => True) [11, 12] [0, 1, 2, 3, 4, 5, 6, 7, 8, 9] [10, 11, 12] (by kernel_rfl) (fun _ _ _ h => h) ?_
      have hKl : Keep σ' (σ'.lay 1) := (Keep.refl _).lay 1
      intro κ hκ
      repeat' (first
 |with_reducible (first|apply awp_seq|apply awp_block|(refine awp_region_k ?_;intro κ hκ)|(refine hκ.out _ _ ?_;clear hκ κ)|apply awp_skip|apply awp_exit|apply awp_ret)
 |((first|with_reducible (first|apply gd_split|apply gt_split)|((with_reducible refine cond_go ?_);refine awp_cond_split rfl ?_ ?_))<;>intro h<;>(try simp only [upd, ↓reduceIte,Nat.reduceEqDiff,B2] at h)<;>(try simp only [*,reduceCtorEq,decide_true,decide_false] at h)<;>(try (have hari:=h;simp only [B3] at hari))<;>(try (first|contradiction|(exfalso;omega)|(exfalso;simp at h;done)))<;>(try simp only [B5]))
 |((with_reducible refine aapp_go ?_);refine aApp_own (by first|exact tez_150) (by assumption) (by assumption) (by decide) (by rfl) (by first|assumption|(simp;done)|(simp;omega)|omega) (by rfl) (by rfl) (by decide) (by omega) (by omega) ?_;intro idn σn hOn hKn eobj enobj ever entop)
 |((with_reducible refine aappn_go ?_);refine aApp_nil (by first|exact tez_150) (by rfl) (by decide) (by rfl) (by rfl) (by decide) (by omega) (by omega) ?_)
 |(simp (maxSteps:=3000000) (disch:=(first|omega|(simp only [List.length_append,B1, *];omega))) only [↓mapA_nil, ↓mapA_cons,List.length_append,B0,B4,awant,undef,aq,al,cst,cst1,acells,flat,behind,abin,aconv,aint,thenQ,blkQ,retQ,rdo,objOf,Value.cells,Value.oneCell',Int.reduceToNat, ↓reduceIte,Nat.reduceLT,Nat.reduceEqDiff,reduceCtorEq,Nat.reduceAdd,Nat.reduceMul,Nat.reduceLeDiff,u_134,u_150,u_3,u_37,u_9,telem_134,telem_137,telem_150,telem_37,tez_150,tfld_145_1,tfld_145_2,tfld_152_0,tfld_152_1,tstr_152,tsz_134,tsz_143,tsz_145,tsz_9,tzero_145, *])
 |((with_reducible refine and_go ?_);refine And.intro (by first|exact kept_refl|exact kept_last rfl|exact kept_keep (by assumption)) ?_)
 |(refine hκ.out _ _ ?_;clear hκ κ))
      exact ⟨oy.length - (i + 1), by omega, i + 1, idn, acc ++ u, rfl, by omega, rfl, by rw [hpc.out], by simp, hOn, by simp only [List.length_append, List.length_cons, List.length_nil]; omega, by rw [Abs.Hid, hst.out]⟩
    · have hib : decide ((0 : Int) < (i : Int)) = true := by simp; omega
      have hst : Abs.Hid (uList (ts.take (i + 1)) = acc ++ ([44] ++ u)) := by rw [Abs.Hid, hst.out, if_neg hi0]
      have h44 : ({ data := #[44] } : ByteArray) = bs [44] := rfl
      clear hi0
      repeat' (first
 |with_reducible (first|apply awp_seq|apply awp_block|(refine awp_region_k ?_;intro κ hκ)|(refine hκ.out _ _ ?_;clear hκ κ)|apply awp_skip|apply awp_exit|apply awp_ret)
 |((first|with_reducible (first|apply gd_split|apply gt_split)|((with_reducible refine cond_go ?_);refine awp_cond_split rfl ?_ ?_))<;>intro h<;>(try simp only [upd, ↓reduceIte,Nat.reduceEqDiff,B2] at h)<;>(try simp only [*,reduceCtorEq,decide_true,decide_false] at h)<;>(try (have hari:=h;simp only [B3] at hari))<;>(try (first|contradiction|(exfalso;omega)|(exfalso;simp at h;done)))<;>(try simp only [B5]))
 |((with_reducible refine aapp_go ?_);refine aApp_own (by first|exact tez_150) (by assumption) (by assumption) (by decide) (by rfl) (by first|assumption|(simp;done)|(simp;omega)|omega) (by rfl) (by rfl) (by decide) (by omega) (by omega) ?_;intro idn σn hOn hKn eobj enobj ever entop)
 |((with_reducible refine aappn_go ?_);refine aApp_nil (by first|exact tez_150) (by rfl) (by decide) (by rfl) (by rfl) (by decide) (by omega) (by omega) ?_)
 |(simp (maxSteps:=3000000) (disch:=(first|omega|(simp only [List.length_append,B1, *];omega))) only [↓mapA_nil, ↓mapA_cons,List.length_append,B0,B4,awant,undef,aq,al,cst,cst1,acells,flat,behind,abin,aconv,aint,thenQ,blkQ,retQ,rdo,objOf,Value.cells,Value.oneCell',Int.reduceToNat, ↓reduceIte,Nat.reduceLT,Nat.reduceEqDiff,reduceCtorEq,Nat.reduceAdd,Nat.reduceMul,Nat.reduceLeDiff,u_134,u_150,u_3,u_37,u_9,telem_134,telem_137,telem_150,telem_37,tez_150,tfld_145_1,tfld_145_2,tfld_152_0,tfld_152_1,tstr_152,tsz_134,tsz_143,tsz_145,tsz_9,tzero_145, *])
 |((with_reducible refine and_go ?_);refine And.intro (by first|exact kept_refl|exact kept_last rfl|exact kept_keep (by assumption)) ?_)
 |(refine hκ.out _ _ ?_;clear hκ κ))
      refine awp_draw_k follows_mixed (fun _ => True) [11, 12] [0, 1, 2, 3, 4, 5, 6, 7, 8, 9] [10, 11, 12] (by kernel_rfl) (fun _ _ _ h => h) ?_
      have hKl : Keep σ' (σ'.lay 1) := (Keep.refl _).lay 1
      intro κ hκ
      repeat' (first
 |with_reducible (first|apply awp_seq|apply awp_block|(refine awp_region_k ?_;intro κ hκ)|(refine hκ.out _ _ ?_;clear hκ κ)|apply awp_skip|apply awp_exit|apply awp_ret)
 |((first|with_reducible (first|apply gd_split|apply gt_split)|((with_reducible refine cond_go ?_);refine awp_cond_split rfl ?_ ?_))<;>intro h<;>(try simp only [upd, ↓reduceIte,Nat.reduceEqDiff,B2] at h)<;>(try simp only [*,reduceCtorEq,decide_true,decide_false] at h)<;>(try (have hari:=h;simp only [B3] at hari))<;>(try (first|contradiction|(exfalso;omega)|(exfalso;simp at h;done)))<;>(try simp only [B5]))
 |((with_reducible refine aapp_go ?_);refine aApp_own (by first|exact tez_150) (by assumption) (by assumption) (by decide) (by rfl) (by first|assumption|(simp;done)|(simp;omega)|omega) (by rfl) (by rfl) (by decide) (by omega) (by omega) ?_;intro idn σn hOn hKn eobj enobj ever entop)
 |((with_reducible refine aappn_go ?_);refine aApp_nil (by first|exact tez_150) (by rfl) (by decide) (by rfl) (by rfl) (by decide) (by omega) (by omega) ?_)
 |(simp (maxSteps:=3000000) (disch:=(first|omega|(simp only [List.length_append,B1, *];omega))) only [↓mapA_nil, ↓mapA_cons,List.length_append,B0,B4,awant,undef,aq,al,cst,cst1,acells,flat,behind,abin,aconv,aint,thenQ,blkQ,retQ,rdo,objOf,Value.cells,Value.oneCell',Int.reduceToNat, ↓reduceIte,Nat.reduceLT,Nat.reduceEqDiff,reduceCtorEq,Nat.reduceAdd,Nat.reduceMul,Nat.reduceLeDiff,u_134,u_150,u_3,u_37,u_9,telem_134,telem_137,telem_150,telem_37,tez_150,tfld_145_1,tfld_145_2,tfld_152_0,tfld_152_1,tstr_152,tsz_134,tsz_143,tsz_145,tsz_9,tzero_145, *])
 |((with_reducible refine and_go ?_);refine And.intro (by first|exact kept_refl|exact kept_last rfl|exact kept_keep (by assumption)) ?_)
 |(refine hκ.out _ _ ?_;clear hκ κ))
      exact ⟨oy.length - (i + 1), by omega, i + 1, idn, acc ++ [44] ++ u, rfl, by omega, rfl, by rw [hpc.out], by simp, hOn, by simp only [List.length_append, List.length_cons, List.length_nil]; omega, by rw [Abs.Hid, hst.out, List.append_assoc]⟩
  · have hil : i = oy.length := by omega
    subst hil
    have hA2 : acc = uList ts := by rw [hA.out, ← HLEN.out, List.take_length]
    subst hA2
    rw [show (oy.zip ts).take oy.length = oy.zip ts by rw [← hz, List.take_length]] at h18
    have hxl : (pcells (oy.zip ts)).length = oy.length * 2 := by rw [pcells_len, hz]
    have hge : ∀ i, i < oy.length → ∃ v u r, (pcells (oy.zip ts)).drop (i * 2) = str v :: str u :: r ∧ (v ∈ y.head.terms → u = v) := by
      intro i hi
      have hi2 : i < (oy.zip ts).length := by rw [hz]; exact hi
      obtain ⟨r, hr⟩ := pcells_get (List.getElem?_eq_getElem hi2)
      exact ⟨_, _, r, hr, HP.out.head _ (by rw [HOY.out]; exact List.getElem_mem _)⟩
    have hLa : ∀ (j : Nat) (a : RAtom), y.body[j]? = some a → ∀ σ, ACalls Tryz.prog 97 [ag [sc (.bool y.out), sc (.bool y.head.nt), str y.head.pred, sl ih y.head.terms.length (y.head.terms.map str), sl id y.body.length b], sc (.int .i64 j), sc (.int .i64 m), sl id' oy.length (pcells (oy.zip ts))] σ fun r σ' => r = sc (.bool true) ∧ Keep σ σ' := by
      intro j a ha σ
      have h := lands_true y _ j m.toNat (oy.zip ts) id' a (EItem.of (ih := ih) (id := id) hb) HP.out.fits ha (by rw [hz]; omega) (by have := HP.out.lands j a ha; rw [HOY.out] at this; exact this) σ
      rw [hz, hmn] at h
      exact h
    have hSt := fun v σ => stands_spec y.head _ v ⟨ih, rfl⟩ HP.out.fits.2.1 σ
    have hbl := EL.length EAtom_len hb
    generalize pcells (oy.zip ts) = xs at h18 hxl hge hLa
    clear hl2 hz HTL HOY HN1 HP hE hd
    repeat' (first
 |with_reducible (first|apply awp_seq|apply awp_block|(refine awp_region_k ?_;intro κ hκ)|(refine hκ.out _ _ ?_;clear hκ κ)|apply awp_skip|apply awp_exit|apply awp_ret)
 |((first|with_reducible (first|apply gd_split|apply gt_split)|((with_reducible refine cond_go ?_);refine awp_cond_split rfl ?_ ?_))<;>intro h<;>(try simp only [upd, ↓reduceIte,Nat.reduceEqDiff,B2] at h)<;>(try simp only [*,reduceCtorEq,decide_true,decide_false] at h)<;>(try (have hari:=h;simp only [B3] at hari))<;>(try (first|contradiction|(exfalso;omega)|(exfalso;simp at h;done)))<;>(try simp only [B5]))
 |((with_reducible refine aapp_go ?_);refine aApp_own (by first|exact tez_150) (by assumption) (by assumption) (by decide) (by rfl) (by first|assumption|(simp;done)|(simp;omega)|omega) (by rfl) (by rfl) (by decide) (by omega) (by omega) ?_;intro idn σn hOn hKn eobj enobj ever entop)
 |((with_reducible refine aappn_go ?_);refine aApp_nil (by first|exact tez_150) (by rfl) (by decide) (by rfl) (by rfl) (by decide) (by omega) (by omega) ?_)
 |(simp (maxSteps:=3000000) (disch:=(first|omega|(simp only [List.length_append,B1, *];omega))) only [↓mapA_nil, ↓mapA_cons,List.length_append,B0,B4,awant,undef,aq,al,cst,cst1,acells,flat,behind,abin,aconv,aint,thenQ,blkQ,retQ,rdo,objOf,Value.cells,Value.oneCell',Int.reduceToNat, ↓reduceIte,Nat.reduceLT,Nat.reduceEqDiff,reduceCtorEq,Nat.reduceAdd,Nat.reduceMul,Nat.reduceLeDiff,u_134,u_150,u_3,u_37,u_9,telem_134,telem_137,telem_150,telem_37,tez_150,tfld_145_1,tfld_145_2,tfld_152_0,tfld_152_1,tstr_152,tsz_134,tsz_143,tsz_145,tsz_9,tzero_145, *])
 |((with_reducible refine and_go ?_);refine And.intro (by first|exact kept_refl|exact kept_last rfl|exact kept_keep (by assumption)) ?_)
 |(refine hκ.out _ _ ?_;clear hκ κ))
    refine awp_loop (fun mm s σ' => ∃ i : Nat, mm = oy.length - i ∧ i ≤ oy.length ∧ s 2 = sc (.int .i64 m) ∧ s 14 = ptr o 0 ∧ s 18 = sl id' oy.length xs ∧ s 20 = sc (.int .i64 i) ∧ Keep σ σ' ∧ o < σ'.nobj ∧ σ'.obj o = [sc (.bool y.out), sc (.bool y.head.nt), str y.head.pred, sl ih y.head.terms.length (y.head.terms.map str), sl id y.body.length b]) oy.length
      ⟨0, by omega, by omega, by simp [upd, h2], by simp [upd, h14], by simp [upd, h18], rfl, hK, hoo, hob⟩ ?_
    clear hK hoo hob kno h2 h3 h14 h15 h16 h17 h18 h19 hO hal hA hlt
    rintro mm s σ' ⟨i, rfl, hi, h2, h14, h18, h20, hK, hoo, hob⟩
    have kno := hK.nobj
    by_cases hlt : i < oy.length
    · obtain ⟨v, u, r2, hd, hvu⟩ := hge i hlt
      have HVU : Abs.Hid _ := hvu
      clear hvu
      repeat' (first
 |with_reducible (first|apply awp_seq|apply awp_block|(refine awp_region_k ?_;intro κ hκ)|(refine hκ.out _ _ ?_;clear hκ κ)|apply awp_skip|apply awp_exit|apply awp_ret)
 |((first|with_reducible (first|apply gd_split|apply gt_split)|((with_reducible refine cond_go ?_);refine awp_cond_split rfl ?_ ?_))<;>intro h<;>(try simp only [upd, ↓reduceIte,Nat.reduceEqDiff,B2] at h)<;>(try simp only [*,reduceCtorEq,decide_true,decide_false] at h)<;>(try (have hari:=h;simp only [B3] at hari))<;>(try (first|contradiction|(exfalso;omega)|(exfalso;simp at h;done)))<;>(try simp only [B5]))
 |((with_reducible refine aapp_go ?_);refine aApp_own (by first|exact tez_150) (by assumption) (by assumption) (by decide) (by rfl) (by first|assumption|(simp;done)|(simp;omega)|omega) (by rfl) (by rfl) (by decide) (by omega) (by omega) ?_;intro idn σn hOn hKn eobj enobj ever entop)
 |((with_reducible refine aappn_go ?_);refine aApp_nil (by first|exact tez_150) (by rfl) (by decide) (by rfl) (by rfl) (by decide) (by omega) (by omega) ?_)
 |(simp (maxSteps:=3000000) (disch:=(first|omega|(simp only [List.length_append,B1, *];omega))) only [↓mapA_nil, ↓mapA_cons,List.length_append,B0,B4,awant,undef,aq,al,cst,cst1,acells,flat,behind,abin,aconv,aint,thenQ,blkQ,retQ,rdo,objOf,Value.cells,Value.oneCell',Int.reduceToNat, ↓reduceIte,Nat.reduceLT,Nat.reduceEqDiff,reduceCtorEq,Nat.reduceAdd,Nat.reduceMul,Nat.reduceLeDiff,u_134,u_150,u_3,u_37,u_9,telem_134,telem_137,telem_150,telem_37,tez_150,tfld_145_1,tfld_145_2,tfld_152_0,tfld_152_1,tstr_152,tsz_134,tsz_143,tsz_145,tsz_9,tzero_145, *])
 |((with_reducible refine and_go ?_);refine And.intro (by first|exact kept_refl|exact kept_last rfl|exact kept_keep (by assumption)) ?_)
 |(refine hκ.out _ _ ?_;clear hκ κ))
      refine awp_mono (Q := fun e s' σ'' => e = .normal ∧ s' 2 = sc (.int .i64 m) ∧ s' 14 = ptr o 0 ∧ s' 18 = sl id' oy.length xs ∧ s' 20 = sc (.int .i64 i) ∧ s' 109 = sc (.bool false) ∧ Keep σ' σ'') ?_ ?_
      · refine awp_draw_h follows_mixed (fun _ => True) [] [0, 1, 2, 3, 4, 5, 6] 14 #[true, true, true, true, true, true, true, false, false, false, false, false, false, false, false, false, false, false, false, false, false] (by kernel_rfl) (fun _ _ _ h => by cases h.1) ?_
        intro κ hκ
        simp (maxSteps:=3000000) (disch:=(first|omega|(simp only [List.length_append,B1, *];omega))) only [↓mapA_nil, ↓mapA_cons,List.length_append,B0,B4,awant,undef,aq,al,cst,cst1,acells,flat,behind,abin,aconv,aint,thenQ,blkQ,retQ,rdo,objOf,Value.cells,Value.oneCell',Int.reduceToNat, ↓reduceIte,Nat.reduceLT,Nat.reduceEqDiff,reduceCtorEq,Nat.reduceAdd,Nat.reduceMul,Nat.reduceLeDiff,u_134,u_150,u_3,u_37,u_9,telem_134,telem_137,telem_150,telem_37,tez_150,tfld_145_1,tfld_145_2,tfld_152_0,tfld_152_1,tstr_152,tsz_134,tsz_143,tsz_145,tsz_9,tzero_145, *]
        refine hκ.out _ ?_
        clear hκ κ
        refine uany_one (i := 7) (by kernel_rfl) ?_
        refine aOne_k ?_
        intro κ hκ
        simp (maxSteps:=3000000) (disch:=(first|omega|(simp only [List.length_append,B1, *];omega))) only [↓mapA_nil, ↓mapA_cons,List.length_append,B0,B4,awant,undef,aq,al,cst,cst1,acells,flat,behind,abin,aconv,aint,thenQ,blkQ,retQ,rdo,objOf,Value.cells,Value.oneCell',Int.reduceToNat, ↓reduceIte,Nat.reduceLT,Nat.reduceEqDiff,reduceCtorEq,Nat.reduceAdd,Nat.reduceMul,Nat.reduceLeDiff,u_134,u_150,u_3,u_37,u_9,telem_134,telem_137,telem_150,telem_37,tez_150,tfld_145_1,tfld_145_2,tfld_152_0,tfld_152_1,tstr_152,tsz_134,tsz_143,tsz_145,tsz_9,tzero_145, *]
        refine ACalls.mono (hSt v _) ?_
        rintro _ σ5 ⟨bo, rfl, hbo, hK2⟩
        simp (maxSteps:=3000000) (disch:=(first|omega|(simp only [List.length_append,B1, *];omega))) only [↓mapA_nil, ↓mapA_cons,List.length_append,B0,B4,awant,undef,aq,al,cst,cst1,acells,flat,behind,abin,aconv,aint,thenQ,blkQ,retQ,rdo,objOf,Value.cells,Value.oneCell',Int.reduceToNat, ↓reduceIte,Nat.reduceLT,Nat.reduceEqDiff,reduceCtorEq,Nat.reduceAdd,Nat.reduceMul,Nat.reduceLeDiff,u_134,u_150,u_3,u_37,u_9,telem_134,telem_137,telem_150,telem_37,tez_150,tfld_145_1,tfld_145_2,tfld_152_0,tfld_152_1,tstr_152,tsz_134,tsz_143,tsz_145,tsz_9,tzero_145, *]
        refine hκ.out _ _ ⟨kept_keep hK2, ?_⟩
        clear hκ κ
        have kno2 := hK2.nobj
        refine uany_rest [8, 9, 10, 11, 12, 13, 14, 15, 16, 17, 18, 19, 20] (by kernel_rfl) (by kernel_rfl) (fun _ _ _ h => by cases h.1) hK2.nobj (fun o ho _ => hK2.ver o ho) ?_
        intro κ hκ
        cases bo with
        | true =>
          have huv : u = v := HVU.out (hbo.1 rfl)
          subst huv
          have hbb : (u != u) = false := by simp
          simp (maxSteps:=3000000) (disch:=(first|omega|(simp only [List.length_append,B1, *];omega))) only [↓mapA_nil, ↓mapA_cons,List.length_append,B0,B4,awant,undef,aq,al,cst,cst1,acells,flat,behind,abin,aconv,aint,thenQ,blkQ,retQ,rdo,objOf,Value.cells,Value.oneCell',Int.reduceToNat, ↓reduceIte,Nat.reduceLT,Nat.reduceEqDiff,reduceCtorEq,Nat.reduceAdd,Nat.reduceMul,Nat.reduceLeDiff,u_134,u_150,u_3,u_37,u_9,telem_134,telem_137,telem_150,telem_37,tez_150,tfld_145_1,tfld_145_2,tfld_152_0,tfld_152_1,tstr_152,tsz_134,tsz_143,tsz_145,tsz_9,tzero_145, *]
          refine hκ.out _ _ ⟨rfl, ?_⟩
          simp [upd, h2, h14, h18, h20]
          exact hK2
        | false =>
          have hvn : v ∉ y.head.terms := fun h => by cases hbo.2 h
          simp (maxSteps:=3000000) (disch:=(first|omega|(simp only [List.length_append,B1, *];omega))) only [↓mapA_nil, ↓mapA_cons,List.length_append,B0,B4,awant,undef,aq,al,cst,cst1,acells,flat,behind,abin,aconv,aint,thenQ,blkQ,retQ,rdo,objOf,Value.cells,Value.oneCell',Int.reduceToNat, ↓reduceIte,Nat.reduceLT,Nat.reduceEqDiff,reduceCtorEq,Nat.reduceAdd,Nat.reduceMul,Nat.reduceLeDiff,u_134,u_150,u_3,u_37,u_9,telem_134,telem_137,telem_150,telem_37,tez_150,tfld_145_1,tfld_145_2,tfld_152_0,tfld_152_1,tstr_152,tsz_134,tsz_143,tsz_145,tsz_9,tzero_145, *]
          refine hκ.out _ _ ⟨rfl, ?_⟩
          simp [upd, h2, h14, h18, h20]
          first | exact hK2 | exact ⟨fun h => absurd h hvn, hK2⟩
      · clear h2 h14 h18 h20
        rintro e s' σ6 ⟨rfl, h2, h14, h18, h20, h109, hK6⟩
        have hob6 : σ6.obj o = [sc (.bool y.out), sc (.bool y.head.nt), str y.head.pred, sl ih y.head.terms.length (y.head.terms.map str), sl id y.body.length b] := by rw [hK6.obj _ hoo]; exact hob
        have kno6 := hK6.nobj
        clear hob
        repeat' (first
 |with_reducible (first|apply awp_seq|apply awp_block|(refine awp_region_k ?_;intro κ hκ)|(refine hκ.out _ _ ?_;clear hκ κ)|apply awp_skip|apply awp_exit|apply awp_ret)
 |((first|with_reducible (first|apply gd_split|apply gt_split)|((with_reducible refine cond_go ?_);refine awp_cond_split rfl ?_ ?_))<;>intro h<;>(try simp only [upd, ↓reduceIte,Nat.reduceEqDiff,B2] at h)<;>(try simp only [*,reduceCtorEq,decide_true,decide_false] at h)<;>(try (have hari:=h;simp only [B3] at hari))<;>(try (first|contradiction|(exfalso;omega)|(exfalso;simp at h;done)))<;>(try simp only [B5]))
 |((with_reducible refine aapp_go ?_);refine aApp_own (by first|exact tez_150) (by assumption) (by assumption) (by decide) (by rfl) (by first|assumption|(simp;done)|(simp;omega)|omega) (by rfl) (by rfl) (by decide) (by omega) (by omega) ?_;intro idn σn hOn hKn eobj enobj ever entop)
 |((with_reducible refine aappn_go ?_);refine aApp_nil (by first|exact tez_150) (by rfl) (by decide) (by rfl) (by rfl) (by decide) (by omega) (by omega) ?_)
 |(simp (maxSteps:=3000000) (disch:=(first|omega|(simp only [List.length_append,B1, *];omega))) only [↓mapA_nil, ↓mapA_cons,List.length_append,B0,B4,awant,undef,aq,al,cst,cst1,acells,flat,behind,abin,aconv,aint,thenQ,blkQ,retQ,rdo,objOf,Value.cells,Value.oneCell',Int.reduceToNat, ↓reduceIte,Nat.reduceLT,Nat.reduceEqDiff,reduceCtorEq,Nat.reduceAdd,Nat.reduceMul,Nat.reduceLeDiff,u_134,u_150,u_3,u_37,u_9,telem_134,telem_137,telem_150,telem_37,tez_150,tfld_145_1,tfld_145_2,tfld_152_0,tfld_152_1,tstr_152,tsz_134,tsz_143,tsz_145,tsz_9,tzero_145, *])
 |((with_reducible refine and_go ?_);refine And.intro (by first|exact kept_refl|exact kept_last rfl|exact kept_keep (by assumption)) ?_)
 |(refine hκ.out _ _ ?_;clear hκ κ))
        refine awp_cond_f h109 ?_
        repeat' (first
 |with_reducible (first|apply awp_seq|apply awp_block|(refine awp_region_k ?_;intro κ hκ)|(refine hκ.out _ _ ?_;clear hκ κ)|apply awp_skip|apply awp_exit|apply awp_ret)
 |((first|with_reducible (first|apply gd_split|apply gt_split)|((with_reducible refine cond_go ?_);refine awp_cond_split rfl ?_ ?_))<;>intro h<;>(try simp only [upd, ↓reduceIte,Nat.reduceEqDiff,B2] at h)<;>(try simp only [*,reduceCtorEq,decide_true,decide_false] at h)<;>(try (have hari:=h;simp only [B3] at hari))<;>(try (first|contradiction|(exfalso;omega)|(exfalso;simp at h;done)))<;>(try simp only [B5]))
 |((with_reducible refine aapp_go ?_);refine aApp_own (by first|exact tez_150) (by assumption) (by assumption) (by decide) (by rfl) (by first|assumption|(simp;done)|(simp;omega)|omega) (by rfl) (by rfl) (by decide) (by omega) (by omega) ?_;intro idn σn hOn hKn eobj enobj ever entop)
 |((with_reducible refine aappn_go ?_);refine aApp_nil (by first|exact tez_150) (by rfl) (by decide) (by rfl) (by rfl) (by decide) (by omega) (by omega) ?_)
 |(simp (maxSteps:=3000000) (disch:=(first|omega|(simp only [List.length_append,B1, *];omega))) only [↓mapA_nil, ↓mapA_cons,List.length_append,B0,B4,awant,undef,aq,al,cst,cst1,acells,flat,behind,abin,aconv,aint,thenQ,blkQ,retQ,rdo,objOf,Value.cells,Value.oneCell',Int.reduceToNat, ↓reduceIte,Nat.reduceLT,Nat.reduceEqDiff,reduceCtorEq,Nat.reduceAdd,Nat.reduceMul,Nat.reduceLeDiff,u_134,u_150,u_3,u_37,u_9,telem_134,telem_137,telem_150,telem_37,tez_150,tfld_145_1,tfld_145_2,tfld_152_0,tfld_152_1,tstr_152,tsz_134,tsz_143,tsz_145,tsz_9,tzero_145, *])
 |((with_reducible refine and_go ?_);refine And.intro (by first|exact kept_refl|exact kept_last rfl|exact kept_keep (by assumption)) ?_)
 |(refine hκ.out _ _ ?_;clear hκ κ))
        exact ⟨oy.length - (i + 1), by omega, i + 1, rfl, by omega, by simp, by repeat (first | exact Keep.refl _ | assumption | (refine Keep.put ?_ (by first | omega | (simp only [new_nobj, put_nobj, lay_nobj, *]; omega)) _) | (refine Keep.new ?_ _) | (refine Keep.lay ?_ _) | (refine Keep.trans ?_ (by assumption))), by omega⟩
    · have hil : i = oy.length := by omega
      subst hil
      repeat' (first
 |with_reducible (first|apply awp_seq|apply awp_block|(refine awp_region_k ?_;intro κ hκ)|(refine hκ.out _ _ ?_;clear hκ κ)|apply awp_skip|apply awp_exit|apply awp_ret)
 |((first|with_reducible (first|apply gd_split|apply gt_split)|((with_reducible refine cond_go ?_);refine awp_cond_split rfl ?_ ?_))<;>intro h<;>(try simp only [upd, ↓reduceIte,Nat.reduceEqDiff,B2] at h)<;>(try simp only [*,reduceCtorEq,decide_true,decide_false] at h)<;>(try (have hari:=h;simp only [B3] at hari))<;>(try (first|contradiction|(exfalso;omega)|(exfalso;simp at h;done)))<;>(try simp only [B5]))
 |((with_reducible refine aapp_go ?_);refine aApp_own (by first|exact tez_150) (by assumption) (by assumption) (by decide) (by rfl) (by first|assumption|(simp;done)|(simp;omega)|omega) (by rfl) (by rfl) (by decide) (by omega) (by omega) ?_;intro idn σn hOn hKn eobj enobj ever entop)
 |((with_reducible refine aappn_go ?_);refine aApp_nil (by first|exact tez_150) (by rfl) (by decide) (by rfl) (by rfl) (by decide) (by omega) (by omega) ?_)
 |(simp (maxSteps:=3000000) (disch:=(first|omega|(simp only [List.length_append,B1, *];omega))) only [↓mapA_nil, ↓mapA_cons,List.length_append,B0,B4,awant,undef,aq,al,cst,cst1,acells,flat,behind,abin,aconv,aint,thenQ,blkQ,retQ,rdo,objOf,Value.cells,Value.oneCell',Int.reduceToNat, ↓reduceIte,Nat.reduceLT,Nat.reduceEqDiff,reduceCtorEq,Nat.reduceAdd,Nat.reduceMul,Nat.reduceLeDiff,u_134,u_150,u_3,u_37,u_9,telem_134,telem_137,telem_150,telem_37,tez_150,tfld_145_1,tfld_145_2,tfld_152_0,tfld_152_1,tstr_152,tsz_134,tsz_143,tsz_145,tsz_9,tzero_145, *])
 |((with_reducible refine and_go ?_);refine And.intro (by first|exact kept_refl|exact kept_last rfl|exact kept_keep (by assumption)) ?_)
 |(refine hκ.out _ _ ?_;clear hκ κ))
      refine awp_loop (fun mm s σ' => ∃ j : Nat, mm = y.body.length - j ∧ j ≤ y.body.length ∧ s 2 = sc (.int .i64 m) ∧ s 14 = ptr o 0 ∧ s 18 = sl id' oy.length xs ∧ s 21 = sc (.int .i64 j) ∧ Keep σ σ' ∧ o < σ'.nobj ∧ σ'.obj o = [sc (.bool y.out), sc (.bool y.head.nt), str y.head.pred, sl ih y.head.terms.length (y.head.terms.map str), sl id y.body.length b]) y.body.length
        ⟨0, by omega, by omega, by simp [upd, h2], by simp [upd, h14], by simp [upd, h18], rfl, hK, hoo, hob⟩ ?_
      clear hK hoo hob kno h2 h14 h18 h20 hlt hi
      rintro mm s σ' ⟨j, rfl, hj, h2, h14, h18, h21, hK, hoo, hob⟩
      have kno := hK.nobj
      by_cases hlt : j < y.body.length
      · have hL := hLa j _ (List.getElem?_eq_getElem hlt)
        repeat' (first
 |with_reducible (first|apply awp_seq|apply awp_block|(refine awp_region_k ?_;intro κ hκ)|(refine hκ.out _ _ ?_;clear hκ κ)|apply awp_skip|apply awp_exit|apply awp_ret)
 |((first|with_reducible (first|apply gd_split|apply gt_split)|((with_reducible refine cond_go ?_);refine awp_cond_split rfl ?_ ?_))<;>intro h<;>(try simp only [upd, ↓reduceIte,Nat.reduceEqDiff,B2] at h)<;>(try simp only [*,reduceCtorEq,decide_true,decide_false] at h)<;>(try (have hari:=h;simp only [B3] at hari))<;>(try (first|contradiction|(exfalso;omega)|(exfalso;simp at h;done)))<;>(try simp only [B5]))
 |((with_reducible refine aapp_go ?_);refine aApp_own (by first|exact tez_150) (by assumption) (by assumption) (by decide) (by rfl) (by first|assumption|(simp;done)|(simp;omega)|omega) (by rfl) (by rfl) (by decide) (by omega) (by omega) ?_;intro idn σn hOn hKn eobj enobj ever entop)
 |((with_reducible refine aappn_go ?_);refine aApp_nil (by first|exact tez_150) (by rfl) (by decide) (by rfl) (by rfl) (by decide) (by omega) (by omega) ?_)
 |((with_reducible refine acalls_go ?_);refine ACalls.mono (hL _) ?_;rintro _ _ ⟨rfl,hK2⟩;(have kob2:=hK2.obj;have kno2:=hK2.nobj))
 |(simp (maxSteps:=3000000) (disch:=(first|omega|(simp only [List.length_append,B1, *];omega))) only [↓mapA_nil, ↓mapA_cons,List.length_append,B0,B4,awant,undef,aq,al,cst,cst1,acells,flat,behind,abin,aconv,aint,thenQ,blkQ,retQ,rdo,objOf,Value.cells,Value.oneCell',Int.reduceToNat, ↓reduceIte,Nat.reduceLT,Nat.reduceEqDiff,reduceCtorEq,Nat.reduceAdd,Nat.reduceMul,Nat.reduceLeDiff,u_134,u_150,u_3,u_37,u_9,telem_134,telem_137,telem_150,telem_37,tez_150,tfld_145_1,tfld_145_2,tfld_152_0,tfld_152_1,tstr_152,tsz_134,tsz_143,tsz_145,tsz_9,tzero_145, *])
 |((with_reducible refine and_go ?_);refine And.intro (by first|exact kept_refl|exact kept_last rfl|exact kept_keep (by assumption)) ?_)
 |(refine hκ.out _ _ ?_;clear hκ κ))
        exact ⟨y.body.length - (j + 1), by omega, j + 1, rfl, by omega, by simp, by repeat (first | exact Keep.refl _ | assumption | (refine Keep.put ?_ (by first | omega | (simp only [new_nobj, put_nobj, lay_nobj, *]; omega)) _) | (refine Keep.new ?_ _) | (refine Keep.lay ?_ _) | (refine Keep.trans ?_ (by assumption))), by omega⟩
      · repeat' (first
 |with_reducible (first|apply awp_seq|apply awp_block|(refine awp_region_k ?_;intro κ hκ)|(refine hκ.out _ _ ?_;clear hκ κ)|apply awp_skip|apply awp_exit|apply awp_ret)
 |((first|with_reducible (first|apply gd_split|apply gt_split)|((with_reducible refine cond_go ?_);refine awp_cond_split rfl ?_ ?_))<;>intro h<;>(try simp only [upd, ↓reduceIte,Nat.reduceEqDiff,B2] at h)<;>(try simp only [*,reduceCtorEq,decide_true,decide_false] at h)<;>(try (have hari:=h;simp only [B3] at hari))<;>(try (first|contradiction|(exfalso;omega)|(exfalso;simp at h;done)))<;>(try simp only [B5]))
 |((with_reducible refine aapp_go ?_);refine aApp_own (by first|exact tez_150) (by assumption) (by assumption) (by decide) (by rfl) (by first|assumption|(simp;done)|(simp;omega)|omega) (by rfl) (by rfl) (by decide) (by omega) (by omega) ?_;intro idn σn hOn hKn eobj enobj ever entop)
 |((with_reducible refine aappn_go ?_);refine aApp_nil (by first|exact tez_150) (by rfl) (by decide) (by rfl) (by rfl) (by decide) (by omega) (by omega) ?_)
 |(simp (maxSteps:=3000000) (disch:=(first|omega|(simp only [List.length_append,B1, *];omega))) only [↓mapA_nil, ↓mapA_cons,List.length_append,B0,B4,awant,undef,aq,al,cst,cst1,acells,flat,behind,abin,aconv,aint,thenQ,blkQ,retQ,rdo,objOf,Value.cells,Value.oneCell',Int.reduceToNat, ↓reduceIte,Nat.reduceLT,Nat.reduceEqDiff,reduceCtorEq,Nat.reduceAdd,Nat.reduceMul,Nat.reduceLeDiff,u_134,u_150,u_3,u_37,u_9,telem_134,telem_137,telem_150,telem_37,tez_150,tfld_145_1,tfld_145_2,tfld_152_0,tfld_152_1,tstr_152,tsz_134,tsz_143,tsz_145,tsz_9,tzero_145, *])
 |((with_reducible refine and_go ?_);refine And.intro (by first|exact kept_refl|exact kept_last rfl|exact kept_keep (by assumption)) ?_)
 |(refine hκ.out _ _ ?_;clear hκ κ))
        exact ⟨_, rfl, rfl⟩
end Go.Proofs.YtmoeoppbmhfbpaaGreatDoorY
