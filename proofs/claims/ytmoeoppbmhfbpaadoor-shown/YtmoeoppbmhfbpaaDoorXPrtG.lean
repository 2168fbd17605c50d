import Derived.Test.YtmoeoppbmhfbpaaDoorXPrtP
/- The program: texts of terms and atoms. -/
namespace Go.Proofs.YtmoeoppbmhfbpaaDoorX
open Go.Abs
set_option linter.unusedSimpArgs false
set_option linter.unusedVariables false
set_option maxRecDepth 100000

set_option maxHeartbeats 4000000 in
theorem ttext_spec (l : List Tx) (w : Tx) (hD : DT w) (hv : variableB w = true → 0 ≤ whichL l w ∧ whichL l w < 26) (σ : St) : ACalls Tryd.prog 28 [ag (rcell l w)] σ fun r σ' => r = str (wrT l w) ∧ Keep σ σ' := by
  have hone : ∀ z : UInt8, ({ data := #[z] } : ByteArray) = bs [z] := fun _ => rfl
  unfold rcell
  cases hb : variableB w with
  | true =>
    obtain ⟨h0, h1⟩ := hv hb
    have hL : Abs.Hid (wrT l w = [UInt8.ofNat (IntKind.u8.wrap (65 + whichL l w)).toNat]) := by rw [Abs.Hid, wrT, if_pos hb, letB_small h0 h1]
    rw [if_pos rfl]
    generalize whichL l w = k at h0 h1 hL
    clear hv
    refine acalls 14 [.tmp 2] Tryd.func28 rfl (by decide) rfl rfl (Nat.le_of_ble_eq_true rfl) ?_
    repeat' (first
 |with_reducible (first|apply awp_seq|apply awp_block|(refine awp_region_k ?_;intro κ hκ)|(refine hκ.out _ _ ?_;clear hκ κ)|apply awp_skip|apply awp_exit|apply awp_ret)
 |((first|with_reducible apply gd_split|((with_reducible refine cond_go ?_);refine awp_cond_split rfl ?_ ?_))<;>intro h<;>(try simp only [upd, ↓reduceIte,Nat.reduceEqDiff,B2] at h)<;>(try simp only [*,reduceCtorEq,decide_true,decide_false] at h)<;>(try (have hari:=h;simp only [B3] at hari))<;>(try (first|contradiction|(exfalso;omega)|(exfalso;simp at h;done)))<;>(try simp only [B5]))
 |(simp (maxSteps:=3000000) (disch:=(first|omega|(simp only [List.length_append,B1, *];omega))) only [↓mapA_nil, ↓mapA_cons,List.length_append,B0,B4,awant,undef,aq,al,cst,cst1,acells,flat,behind,abin,aconv,aint,thenQ,blkQ,retQ,Value.cells,Value.oneCell',Int.reduceToNat, ↓reduceIte,Nat.reduceLT,Nat.reduceEqDiff,reduceCtorEq,Nat.reduceAdd,Nat.reduceMul,Nat.reduceLeDiff,u_3,u_5,u_83,u_9,tez_83,tfld_45_0,tfld_45_1,tsz_3,tsz_4, *])
 |(refine hκ.out _ _ ?_;clear hκ κ))
    exact ⟨_, rfl, by rw [hL.out], by repeat (first | exact Keep.refl _ | assumption | (refine Keep.put ?_ (by first | omega | (simp only [new_nobj, put_nobj, lay_nobj, *]; omega)) _) | (refine Keep.new ?_ _) | (refine Keep.lay ?_ _) | (refine Keep.trans ?_ (by assumption)))⟩
  | false =>
    obtain ⟨d1, d2, d3⟩ : Lib.itoa (encT w).2 = w ∧ 0 ≤ (encT w).2 ∧ (encT w).2 ≤ 999 := by
      rcases hD with h | h
      · rw [hb] at h; cases h
      · exact h.2
    have hI := fun σ => itoa_spec (encT w).2 d2 (by omega) σ
    rw [if_neg (by simp)]
    rw [d1] at hI
    have hL : Abs.Hid (wrT l w = w) := by rw [Abs.Hid, wrT, if_neg (by rw [hb]; simp)]
    generalize (encT w).2 = v at hI
    clear hv hD
    refine acalls 14 [.tmp 2] Tryd.func28 rfl (by decide) rfl rfl (Nat.le_of_ble_eq_true rfl) ?_
    repeat' (first
 |with_reducible (first|apply awp_seq|apply awp_block|(refine awp_region_k ?_;intro κ hκ)|(refine hκ.out _ _ ?_;clear hκ κ)|apply awp_skip|apply awp_exit|apply awp_ret)
 |((first|with_reducible apply gd_split|((with_reducible refine cond_go ?_);refine awp_cond_split rfl ?_ ?_))<;>intro h<;>(try simp only [upd, ↓reduceIte,Nat.reduceEqDiff,B2] at h)<;>(try simp only [*,reduceCtorEq,decide_true,decide_false] at h)<;>(try (have hari:=h;simp only [B3] at hari))<;>(try (first|contradiction|(exfalso;omega)|(exfalso;simp at h;done)))<;>(try simp only [B5]))
 |((with_reducible refine acalls_go ?_);refine ACalls.mono (hI _) ?_;rintro _ _ ⟨rfl,rfl⟩)
 |(simp (maxSteps:=3000000) (disch:=(first|omega|(simp only [List.length_append,B1, *];omega))) only [↓mapA_nil, ↓mapA_cons,List.length_append,B0,B4,awant,undef,aq,al,cst,cst1,acells,flat,behind,abin,aconv,aint,thenQ,blkQ,retQ,Value.cells,Value.oneCell',Int.reduceToNat, ↓reduceIte,Nat.reduceLT,Nat.reduceEqDiff,reduceCtorEq,Nat.reduceAdd,Nat.reduceMul,Nat.reduceLeDiff,u_3,u_5,u_83,u_9,tez_83,tfld_45_0,tfld_45_1,tsz_3,tsz_4, *])
 |(refine hκ.out _ _ ?_;clear hκ κ))
    exact ⟨_, rfl, by rw [hL.out], by repeat (first | exact Keep.refl _ | assumption | (refine Keep.put ?_ (by first | omega | (simp only [new_nobj, put_nobj, lay_nobj, *]; omega)) _) | (refine Keep.new ?_ _) | (refine Keep.lay ?_ _) | (refine Keep.trans ?_ (by assumption)))⟩

theorem rcells_get {l ts : List Tx} {k : Nat} {w : Tx} (h : ts[k]? = some w) : ∃ r, (rcells l ts).drop (k * 2) = sc (.bool (variableB w)) :: sc (.int .i64 (if variableB w = true then whichL l w else (encT w).2)) :: r := by
  have hE : ∀ ts : List Tx, EL (fun w c => c = rcell l w) ts (rcells l ts) := by
    intro ts
    induction ts with
    | nil => rfl
    | cons a l ih => exact ⟨rcell _ a, rcells _ l, rfl, ih, by simp [rcells]⟩
  obtain ⟨c, r, rfl, e⟩ := EL.get (z := 2) (fun a c h => by rw [h]; rfl) (hE ts) h
  exact ⟨r, e⟩
def prT (l : List Tx) (k : Nat) (ts : List Tx) : Tx := if k = 0 then [40] else wrTs l 0 (ts.take k)
theorem prT_step {l ts : List Tx} {k : Nat} {w : Tx} (h : ts[k]? = some w) : prT l (k + 1) ts = prT l k ts ++ ((if k = 0 then [] else [44]) ++ wrT l w) := by
  have hk : k < ts.length := (List.getElem?_eq_some_iff.1 h).1
  unfold prT
  rw [if_neg (by omega), List.take_add_one, h, Option.toList_some, wrTs_snoc, List.length_take, Nat.min_eq_left (by omega), Nat.zero_add]
  by_cases h0 : k = 0
  · subst h0; simp [wrTs, wrS]
  · rw [if_neg h0, if_neg h0]; simp [wrS, h0]
set_option maxHeartbeats 16000000 in
theorem atext_spec (N l : List Tx) (idn ids : Nat) (a : RAtom) (ha : a.pred ∈ N) (hN : N.length ≤ 2000) (hp : 0 < a.terms.length) (hn : a.terms.length ≤ 1000) (hpl : a.pred.length ≤ 1000) (hw : WT l a) (σ : St) :
    ACalls Tryd.prog 48 [ag [sc (.int .i64 (N.idxOf a.pred : Nat)), sl ids a.terms.length (rcells l a.terms)], sl idn N.length (N.map str)] σ fun r σ' => r = str (a.pred ++ wrTs l 0 a.terms ++ [41]) ∧ Keep σ σ' := by
  have hrl := rcells_len l a.terms
  have h40 : ({ data := #[40] } : ByteArray) = bs [40] := rfl
  have h44 : ({ data := #[44] } : ByteArray) = bs [44] := rfl
  have h41 : ({ data := #[41] } : ByteArray) = bs [41] := rfl
  have hix := List.idxOf_lt_length_of_mem ha
  have hge : (N.map str).drop (N.idxOf a.pred) = str a.pred :: (N.map str).drop (N.idxOf a.pred + 1) := by
    have := map_str_get hix
    rwa [List.getElem_idxOf hix] at this
  generalize N.idxOf a.pred = ix at hix hge
  refine acalls 33 [.tmp 4] Tryd.func48 rfl (by decide) rfl rfl (Nat.le_of_ble_eq_true rfl) ?_
  repeat' (first
 |with_reducible (first|apply awp_seq|apply awp_block|(refine awp_region_k ?_;intro κ hκ)|(refine hκ.out _ _ ?_;clear hκ κ)|apply awp_skip|apply awp_exit|apply awp_ret)
 |((first|with_reducible apply gd_split|((with_reducible refine cond_go ?_);refine awp_cond_split rfl ?_ ?_))<;>intro h<;>(try simp only [upd, ↓reduceIte,Nat.reduceEqDiff,B2] at h)<;>(try simp only [*,reduceCtorEq,decide_true,decide_false] at h)<;>(try (have hari:=h;simp only [B3] at hari))<;>(try (first|contradiction|(exfalso;omega)|(exfalso;simp at h;done)))<;>(try simp only [B5]))
 |(simp (maxSteps:=3000000) (disch:=(first|omega|(simp only [List.length_append,B1, *];omega))) only [↓mapA_nil, ↓mapA_cons,List.length_append,B0,B4,awant,undef,aq,al,cst,cst1,acells,flat,behind,abin,aconv,aint,thenQ,blkQ,retQ,Value.cells,Value.oneCell',Int.reduceToNat, ↓reduceIte,Nat.reduceLT,Nat.reduceEqDiff,reduceCtorEq,Nat.reduceAdd,Nat.reduceMul,Nat.reduceLeDiff,u_3,u_36,u_9,telem_26,telem_36,tfld_38_0,tfld_38_1,tsz_3,tsz_36,tsz_45,tsz_9,tzero_45, *])
 |(refine hκ.out _ _ ?_;clear hκ κ))
  refine awp_loop (fun m s σ' => ∃ (k : Nat) (acc : Tx), m = a.terms.length - k ∧ k ≤ a.terms.length ∧ s 5 = str acc ∧ s 15 = sl ids a.terms.length (rcells l a.terms) ∧ s 16 = sc (.int .i64 a.terms.length) ∧ s 17 = sc (.int .i64 k) ∧ Keep σ σ' ∧ acc.length ≤ 1001 + k * 1001 ∧ Abs.Hid (acc = a.pred ++ prT l k a.terms)) a.terms.length
    ⟨0, a.pred ++ [40], by omega, by omega, by simp [upd], by simp [upd], by simp [upd], rfl, by repeat (first | exact Keep.refl _ | assumption | (refine Keep.put ?_ (by first | omega | (simp only [new_nobj, put_nobj, lay_nobj, *]; omega)) _) | (refine Keep.new ?_ _) | (refine Keep.lay ?_ _) | (refine Keep.trans ?_ (by assumption))), by simp; omega, by simp [Abs.Hid, prT]⟩ ?_
  rintro m s σ' ⟨k, acc, rfl, hk, h5, h15, h16, h17, hK, hal, hA⟩
  have kno := hK.nobj
  by_cases hlt : k < a.terms.length
  · have hget := List.getElem?_eq_getElem hlt
    obtain ⟨w1, w2, w3⟩ := hw a.terms[k] (List.getElem_mem hlt)
    obtain ⟨r, hd⟩ := rcells_get (l := l) hget
    have hst : Abs.Hid (a.pred ++ prT l (k + 1) a.terms = acc ++ ((if k = 0 then [] else [44]) ++ wrT l a.terms[k])) := by
      rw [Abs.Hid, prT_step hget, hA.out, List.append_assoc]
    have hwl := wrT_len l a.terms[k] w2
    have hT := fun σ => ttext_spec l a.terms[k] w1 w3 σ
    unfold rcell at hT
    generalize wrT l a.terms[k] = tw at hst hT hwl
    generalize (if variableB a.terms[k] = true then whichL l a.terms[k] else (encT a.terms[k]).2) = vw at hT hd
    generalize variableB a.terms[k] = bw at hT hd
    clear hget w1 w2 w3
    by_cases hk0 : k = 0
    · have hkb : decide ((0 : Int) < (k : Int)) = false := by simp [hk0]
      have hst : Abs.Hid (a.pred ++ prT l (k + 1) a.terms = acc ++ tw) := by rw [Abs.Hid, hst.out, if_pos hk0]; simp
      clear hk0
      repeat' (first
 |with_reducible (first|apply awp_seq|apply awp_block|(refine awp_region_k ?_;intro κ hκ)|(refine hκ.out _ _ ?_;clear hκ κ)|apply awp_skip|apply awp_exit|apply awp_ret)
 |((first|with_reducible apply gd_split|((with_reducible refine cond_go ?_);refine awp_cond_split rfl ?_ ?_))<;>intro h<;>(try simp only [upd, ↓reduceIte,Nat.reduceEqDiff,B2] at h)<;>(try simp only [*,reduceCtorEq,decide_true,decide_false] at h)<;>(try (have hari:=h;simp only [B3] at hari))<;>(try (first|contradiction|(exfalso;omega)|(exfalso;simp at h;done)))<;>(try simp only [B5]))
 |((with_reducible refine acalls_go ?_);refine ACalls.mono (hT _) ?_;rintro _ _ ⟨rfl,hK2⟩;(have kob2:=hK2.obj;have kno2:=hK2.nobj))
 |(simp (maxSteps:=3000000) (disch:=(first|omega|(simp only [List.length_append,B1, *];omega))) only [↓mapA_nil, ↓mapA_cons,List.length_append,B0,B4,awant,undef,aq,al,cst,cst1,acells,flat,behind,abin,aconv,aint,thenQ,blkQ,retQ,Value.cells,Value.oneCell',Int.reduceToNat, ↓reduceIte,Nat.reduceLT,Nat.reduceEqDiff,reduceCtorEq,Nat.reduceAdd,Nat.reduceMul,Nat.reduceLeDiff,u_3,u_36,u_9,telem_26,telem_36,tfld_38_0,tfld_38_1,tsz_3,tsz_36,tsz_45,tsz_9,tzero_45, *])
 |(refine hκ.out _ _ ?_;clear hκ κ))
      exact ⟨a.terms.length - (k + 1), by omega, k + 1, acc ++ tw, rfl, by omega, rfl, by simp, ((hK.new _).put hK.nobj _).trans hK2, by simp only [List.length_append]; omega, by rw [Abs.Hid, hst.out]⟩
    · have hkb : decide ((0 : Int) < (k : Int)) = true := by simp; omega
      have hst : Abs.Hid (a.pred ++ prT l (k + 1) a.terms = acc ++ ([44] ++ tw)) := by rw [Abs.Hid, hst.out, if_neg hk0]
      clear hk0
      repeat' (first
 |with_reducible (first|apply awp_seq|apply awp_block|(refine awp_region_k ?_;intro κ hκ)|(refine hκ.out _ _ ?_;clear hκ κ)|apply awp_skip|apply awp_exit|apply awp_ret)
 |((first|with_reducible apply gd_split|((with_reducible refine cond_go ?_);refine awp_cond_split rfl ?_ ?_))<;>intro h<;>(try simp only [upd, ↓reduceIte,Nat.reduceEqDiff,B2] at h)<;>(try simp only [*,reduceCtorEq,decide_true,decide_false] at h)<;>(try (have hari:=h;simp only [B3] at hari))<;>(try (first|contradiction|(exfalso;omega)|(exfalso;simp at h;done)))<;>(try simp only [B5]))
 |((with_reducible refine acalls_go ?_);refine ACalls.mono (hT _) ?_;rintro _ _ ⟨rfl,hK2⟩;(have kob2:=hK2.obj;have kno2:=hK2.nobj))
 |(simp (maxSteps:=3000000) (disch:=(first|omega|(simp only [List.length_append,B1, *];omega))) only [↓mapA_nil, ↓mapA_cons,List.length_append,B0,B4,awant,undef,aq,al,cst,cst1,acells,flat,behind,abin,aconv,aint,thenQ,blkQ,retQ,Value.cells,Value.oneCell',Int.reduceToNat, ↓reduceIte,Nat.reduceLT,Nat.reduceEqDiff,reduceCtorEq,Nat.reduceAdd,Nat.reduceMul,Nat.reduceLeDiff,u_3,u_36,u_9,telem_26,telem_36,tfld_38_0,tfld_38_1,tsz_3,tsz_36,tsz_45,tsz_9,tzero_45, *])
 |(refine hκ.out _ _ ?_;clear hκ κ))
      exact ⟨a.terms.length - (k + 1), by omega, k + 1, acc ++ ([44] ++ tw), rfl, by omega, by rw [List.append_assoc], by simp, ((hK.new _).put hK.nobj _).trans hK2, by simp only [List.length_append, List.length_singleton]; omega, by rw [Abs.Hid, hst.out]⟩
  · have hkl : k = a.terms.length := by omega
    subst hkl
    have hA2 : acc = a.pred ++ wrTs l 0 a.terms := by rw [hA.out, prT, if_neg (by omega), List.take_length]
    have HA : Abs.Hid _ := hA2
    clear hA hA2
    repeat' (first
 |with_reducible (first|apply awp_seq|apply awp_block|(refine awp_region_k ?_;intro κ hκ)|(refine hκ.out _ _ ?_;clear hκ κ)|apply awp_skip|apply awp_exit|apply awp_ret)
 |((first|with_reducible apply gd_split|((with_reducible refine cond_go ?_);refine awp_cond_split rfl ?_ ?_))<;>intro h<;>(try simp only [upd, ↓reduceIte,Nat.reduceEqDiff,B2] at h)<;>(try simp only [*,reduceCtorEq,decide_true,decide_false] at h)<;>(try (have hari:=h;simp only [B3] at hari))<;>(try (first|contradiction|(exfalso;omega)|(exfalso;simp at h;done)))<;>(try simp only [B5]))
 |(simp (maxSteps:=3000000) (disch:=(first|omega|(simp only [List.length_append,B1, *];omega))) only [↓mapA_nil, ↓mapA_cons,List.length_append,B0,B4,awant,undef,aq,al,cst,cst1,acells,flat,behind,abin,aconv,aint,thenQ,blkQ,retQ,Value.cells,Value.oneCell',Int.reduceToNat, ↓reduceIte,Nat.reduceLT,Nat.reduceEqDiff,reduceCtorEq,Nat.reduceAdd,Nat.reduceMul,Nat.reduceLeDiff,u_3,u_36,u_9,telem_26,telem_36,tfld_38_0,tfld_38_1,tsz_3,tsz_36,tsz_45,tsz_9,tzero_45, *])
 |(refine hκ.out _ _ ?_;clear hκ κ))
    first
    | exact ⟨_, rfl, by rw [HA.out], hK⟩
    | exact ⟨_, rfl, by rw [HA.out]⟩
end Go.Proofs.YtmoeoppbmhfbpaaDoorX
