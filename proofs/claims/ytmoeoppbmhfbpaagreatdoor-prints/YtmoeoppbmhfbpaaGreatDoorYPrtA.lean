import Derived.Test.YtmoeoppbmhfbpaaGreatDoorYLawA
/- The document's own answer: Print. -/
namespace Go.Proofs.YtmoeoppbmhfbpaaGreatDoorY
open Go.Abs
set_option linter.unusedSimpArgs false
set_option linter.unusedVariables false
set_option maxRecDepth 100000

def whichL (l : List Tx) (s : Tx) : Int := if s ∈ l then ((l.idxOf s : Nat) : Int) else -1
set_option maxHeartbeats 4000000 in
theorem which_spec (l : List Tx) (ids : Nat) (n : Tx) (hl : l.length ≤ 10000000) (σ : St) : ACalls Tryz.prog 91 [sl ids l.length (l.map str), str n] σ fun x σ' => x = sc (.int .i64 (whichL l n)) ∧ σ' = σ := by
  refine acalls 19 [.tmp 4] Tryz.func91 rfl (by decide) rfl rfl (Nat.le_of_ble_eq_true rfl) ?_
  repeat' (first
 |with_reducible (first|apply awp_seq|apply awp_block|(refine awp_region_k ?_;intro κ hκ)|(refine hκ.out _ _ ?_;clear hκ κ)|apply awp_skip|apply awp_exit|apply awp_ret)
 |((first|with_reducible apply gd_split|((with_reducible refine cond_go ?_);refine awp_cond_split rfl ?_ ?_))<;>intro h<;>(try simp only [upd, ↓reduceIte,Nat.reduceEqDiff,B2] at h)<;>(try simp only [*,reduceCtorEq,decide_true,decide_false] at h)<;>(try (have hari:=h;simp only [B3] at hari))<;>(try (first|contradiction|(exfalso;omega)|(exfalso;simp at h;done)))<;>(try simp only [B5]))
 |(simp (maxSteps:=3000000) (disch:=(first|omega|(simp only [List.length_append,B1, *];omega))) only [↓mapA_nil, ↓mapA_cons,List.length_append,B0,B4,awant,undef,aq,al,cst,cst1,acells,flat,behind,abin,aconv,aint,thenQ,blkQ,retQ,Value.cells,Value.oneCell',Int.reduceToNat, ↓reduceIte,Nat.reduceLT,Nat.reduceEqDiff,reduceCtorEq,Nat.reduceAdd,Nat.reduceMul,Nat.reduceLeDiff,u_3,u_37,u_9,telem_37,tsz_9, *])
 |(refine hκ.out _ _ ?_;clear hκ κ))
  refine awp_loop (fun m s' σ' => ∃ i : Nat, m = l.length - i ∧ i ≤ l.length ∧ s' 0 = sl ids l.length (l.map str) ∧ s' 1 = str n ∧ s' 5 = sc (.int .i64 i) ∧ σ' = σ ∧ Abs.Hid (∀ a, a < i → l[a]? ≠ some n)) l.length
    ⟨0, by omega, by omega, rfl, rfl, rfl, rfl, fun a ha => by omega⟩ ?_
  rintro m s' σ' ⟨i, rfl, hi, h0, h1, h5, hσ, hno⟩
  subst hσ
  by_cases hlt : i < l.length
  · have hts := map_str_get hlt
    have HX : Abs.Hid (l[i]? = some l[i]) := List.getElem?_eq_getElem hlt
    generalize l[i] = w at hts HX
    repeat' (first
 |with_reducible (first|apply awp_seq|apply awp_block|(refine awp_region_k ?_;intro κ hκ)|(refine hκ.out _ _ ?_;clear hκ κ)|apply awp_skip|apply awp_exit|apply awp_ret)
 |((first|with_reducible apply gd_split|((with_reducible refine cond_go ?_);refine awp_cond_split rfl ?_ ?_))<;>intro h<;>(try simp only [upd, ↓reduceIte,Nat.reduceEqDiff,B2] at h)<;>(try simp only [*,reduceCtorEq,decide_true,decide_false] at h)<;>(try (have hari:=h;simp only [B3] at hari))<;>(try (first|contradiction|(exfalso;omega)|(exfalso;simp at h;done)))<;>(try simp only [B5]))
 |(simp (maxSteps:=3000000) (disch:=(first|omega|(simp only [List.length_append,B1, *];omega))) only [↓mapA_nil, ↓mapA_cons,List.length_append,B0,B4,awant,undef,aq,al,cst,cst1,acells,flat,behind,abin,aconv,aint,thenQ,blkQ,retQ,Value.cells,Value.oneCell',Int.reduceToNat, ↓reduceIte,Nat.reduceLT,Nat.reduceEqDiff,reduceCtorEq,Nat.reduceAdd,Nat.reduceMul,Nat.reduceLeDiff,u_3,u_37,u_9,telem_37,tsz_9, *])
 |(refine hκ.out _ _ ?_;clear hκ κ))
    · have hw : w = n := by simpa using h
      subst hw
      have hmem : w ∈ l := List.mem_of_getElem? HX.out
      exact ⟨_, rfl, by rw [whichL, if_pos hmem, idx_first hno.out HX.out]⟩
    · have hw : w ≠ n := by simpa using h
      refine ⟨l.length - (i + 1), by omega, i + 1, rfl, by omega, by simp, ?_⟩
      intro a ha
      by_cases hai : a = i
      · subst hai; rw [HX.out]; simpa using hw
      · exact hno.out a (by omega)
  · have hil : i = l.length := by omega
    subst hil
    have hnm := not_mem_of hno.out
    repeat' (first
 |with_reducible (first|apply awp_seq|apply awp_block|(refine awp_region_k ?_;intro κ hκ)|(refine hκ.out _ _ ?_;clear hκ κ)|apply awp_skip|apply awp_exit|apply awp_ret)
 |((first|with_reducible apply gd_split|((with_reducible refine cond_go ?_);refine awp_cond_split rfl ?_ ?_))<;>intro h<;>(try simp only [upd, ↓reduceIte,Nat.reduceEqDiff,B2] at h)<;>(try simp only [*,reduceCtorEq,decide_true,decide_false] at h)<;>(try (have hari:=h;simp only [B3] at hari))<;>(try (first|contradiction|(exfalso;omega)|(exfalso;simp at h;done)))<;>(try simp only [B5]))
 |(simp (maxSteps:=3000000) (disch:=(first|omega|(simp only [List.length_append,B1, *];omega))) only [↓mapA_nil, ↓mapA_cons,List.length_append,B0,B4,awant,undef,aq,al,cst,cst1,acells,flat,behind,abin,aconv,aint,thenQ,blkQ,retQ,Value.cells,Value.oneCell',Int.reduceToNat, ↓reduceIte,Nat.reduceLT,Nat.reduceEqDiff,reduceCtorEq,Nat.reduceAdd,Nat.reduceMul,Nat.reduceLeDiff,u_3,u_37,u_9,telem_37,tsz_9, *])
 |(refine hκ.out _ _ ?_;clear hκ κ))
    exact ⟨_, rfl, by rw [whichL, if_neg hnm]⟩

def ordF (acc : List Tx) (t : Tx) : List Tx := if variableB t = true ∧ t ∉ acc then acc ++ [t] else acc
def ordT (acc : List Tx) (ts : List Tx) : List Tx := ts.foldl ordF acc
def ordL (x : RItem) : List Tx := ordT [] ((atomsL x).flatMap (·.terms))
theorem ordT_len (ts : List Tx) : ∀ acc, (ordT acc ts).length ≤ acc.length + ts.length := by
  induction ts with
  | nil => intro acc; simp [ordT]
  | cons t ts ih =>
    intro acc
    have := ih (ordF acc t)
    have h2 : (ordF acc t).length ≤ acc.length + 1 := by unfold ordF; split <;> simp
    simp only [ordT, List.foldl_cons, List.length_cons] at *
    omega
theorem ordT_snoc (acc ts : List Tx) (t : Tx) : ordT acc (ts ++ [t]) = ordF (ordT acc ts) t := by simp [ordT]
theorem ordT_app (acc ts us : List Tx) : ordT acc (ts ++ us) = ordT (ordT acc ts) us := by simp [ordT]

set_option maxHeartbeats 16000000 in
theorem ordered_spec (x : RItem) (c : List AV) (hc : EItem x c) (hx : x.fits) (σ : St) : ACalls Tryz.prog 94 [ag c] σ fun r σ' => ∃ id, r = sl id (ordL x).length ((ordL x).map str) ∧ Keep σ σ' := by
  have hA := atoms_spec x c hc (by have := hx.1; omega)
  obtain ⟨ih, id, b, hb, rfl⟩ := hc.cells
  have hal := hx.atoms
  have hat : ∀ a ∈ atomsL x, a.terms.length ≤ 1000 := by
    intro a ha
    unfold atomsL at ha
    rcases List.mem_append.1 ha with h | h
    · split at h
      · cases h
      · simp at h; subst h; exact hx.2.1
    · exact hx.2.2 a h
  refine acalls 47 [.tmp 2] Tryz.func94 rfl (by decide) rfl rfl (Nat.le_of_ble_eq_true rfl) ?_
  repeat' (first
 |with_reducible (first|apply awp_seq|apply awp_block|(refine awp_region_k ?_;intro κ hκ)|(refine hκ.out _ _ ?_;clear hκ κ)|apply awp_skip|apply awp_exit|apply awp_ret)
 |((first|with_reducible apply gd_split|((with_reducible refine cond_go ?_);refine awp_cond_split rfl ?_ ?_))<;>intro h<;>(try simp only [upd, ↓reduceIte,Nat.reduceEqDiff,B2] at h)<;>(try simp only [*,reduceCtorEq,decide_true,decide_false] at h)<;>(try (have hari:=h;simp only [B3] at hari))<;>(try (first|contradiction|(exfalso;omega)|(exfalso;simp at h;done)))<;>(try simp only [B5]))
 |((with_reducible refine aapp_go ?_);refine aApp_own (by first|exact tez_37) (by assumption) (by assumption) (by decide) (by rfl) (by first|assumption|(simp;done)|(simp;omega)|omega) (by rfl) (by rfl) (by decide) (by omega) (by omega) ?_;intro idn σn hOn hKn eobj enobj ever entop)
 |((with_reducible refine aappn_go ?_);refine aApp_nil (by first|exact tez_37) (by rfl) (by decide) (by rfl) (by rfl) (by decide) (by omega) (by omega) ?_)
 |((with_reducible refine acalls_go ?_);refine ACalls.mono (hA _) ?_;rintro _ _ ⟨ida,cs,rfl,hE,hK1⟩;(have kno1:=hK1.nobj;(try simp only [new_nobj,put_nobj,lay_nobj] at kno1)))
 |(simp (maxSteps:=3000000) (disch:=(first|omega|(simp only [List.length_append,B1, *];omega))) only [↓mapA_nil, ↓mapA_cons,List.length_append,B0,B4,awant,undef,aq,al,cst,cst1,acells,flat,behind,abin,aconv,aint,thenQ,blkQ,retQ,Value.cells,Value.oneCell',Int.reduceToNat, ↓reduceIte,Nat.reduceLT,Nat.reduceEqDiff,reduceCtorEq,Nat.reduceAdd,Nat.reduceMul,Nat.reduceLeDiff,u_134,u_3,u_37,telem_134,telem_37,tez_37,tfld_143_2,tsz_145,tsz_37,tsz_9, *])
 |(refine hκ.out _ _ ?_;clear hκ κ))
  rename_i σ1
  have hcl := EL.length EAtom_len hE
  have hKs : Keep σ σ1 := by repeat (first | exact Keep.refl _ | assumption | (refine Keep.put ?_ (by first | omega | (simp only [new_nobj, put_nobj, lay_nobj, *]; omega)) _) | (refine Keep.new ?_ _) | (refine Keep.lay ?_ _) | (refine Keep.trans ?_ (by assumption)))
  clear hK1
  refine awp_loop (fun m s σ' => ∃ (j i3 : Nat) (l : List Tx), m = (atomsL x).length - j ∧ j ≤ (atomsL x).length ∧ s 3 = sl i3 l.length (l.map str) ∧ s 4 = sl ida (atomsL x).length cs ∧ s 5 = sc (.int .i64 j) ∧ Keep σ σ' ∧ Own σ σ' i3 l.length ∧ l.length ≤ j * 1000 ∧ Abs.Hid (l = ordT [] (((atomsL x).take j).flatMap (·.terms)))) (atomsL x).length
    ⟨0, 1, [], by omega, by omega, rfl, rfl, rfl, hKs, Own.nil _ _, by simp, by simp [Abs.Hid, ordT]⟩ ?_
  clear hKs kno1
  rintro m s σ' ⟨j, i3, l, rfl, hj, h3, h4, h5, hK, hO, hll, hL⟩
  by_cases hlt : j < (atomsL x).length
  · have hget := List.getElem?_eq_getElem hlt
    have hta := hat (atomsL x)[j] (List.getElem_mem hlt)
    obtain ⟨ia, r, hd⟩ := EL_atom hE hget
    generalize (atomsL x)[j] = a at hd hget hta
    have HG : Abs.Hid ((atomsL x)[j]? = some a) := hget
    clear hget
    repeat' (first
 |with_reducible (first|apply awp_seq|apply awp_block|(refine awp_region_k ?_;intro κ hκ)|(refine hκ.out _ _ ?_;clear hκ κ)|apply awp_skip|apply awp_exit|apply awp_ret)
 |((first|with_reducible apply gd_split|((with_reducible refine cond_go ?_);refine awp_cond_split rfl ?_ ?_))<;>intro h<;>(try simp only [upd, ↓reduceIte,Nat.reduceEqDiff,B2] at h)<;>(try simp only [*,reduceCtorEq,decide_true,decide_false] at h)<;>(try (have hari:=h;simp only [B3] at hari))<;>(try (first|contradiction|(exfalso;omega)|(exfalso;simp at h;done)))<;>(try simp only [B5]))
 |((with_reducible refine aapp_go ?_);refine aApp_own (by first|exact tez_37) (by assumption) (by assumption) (by decide) (by rfl) (by first|assumption|(simp;done)|(simp;omega)|omega) (by rfl) (by rfl) (by decide) (by omega) (by omega) ?_;intro idn σn hOn hKn eobj enobj ever entop)
 |((with_reducible refine aappn_go ?_);refine aApp_nil (by first|exact tez_37) (by rfl) (by decide) (by rfl) (by rfl) (by decide) (by omega) (by omega) ?_)
 |(simp (maxSteps:=3000000) (disch:=(first|omega|(simp only [List.length_append,B1, *];omega))) only [↓mapA_nil, ↓mapA_cons,List.length_append,B0,B4,awant,undef,aq,al,cst,cst1,acells,flat,behind,abin,aconv,aint,thenQ,blkQ,retQ,Value.cells,Value.oneCell',Int.reduceToNat, ↓reduceIte,Nat.reduceLT,Nat.reduceEqDiff,reduceCtorEq,Nat.reduceAdd,Nat.reduceMul,Nat.reduceLeDiff,u_134,u_3,u_37,telem_134,telem_37,tez_37,tfld_143_2,tsz_145,tsz_37,tsz_9, *])
 |(refine hκ.out _ _ ?_;clear hκ κ))
    refine awp_loop (fun m s σ' => ∃ (k i3 : Nat) (l : List Tx), m = a.terms.length - k ∧ k ≤ a.terms.length ∧ s 3 = sl i3 l.length (l.map str) ∧ s 4 = sl ida (atomsL x).length cs ∧ s 5 = sc (.int .i64 j) ∧ s 6 = sc (.int .i64 k) ∧ Keep σ σ' ∧ Own σ σ' i3 l.length ∧ l.length ≤ j * 1000 + k ∧ Abs.Hid (l = ordT [] (((atomsL x).take j).flatMap (·.terms) ++ a.terms.take k))) a.terms.length
      ⟨0, i3, l, by omega, by omega, by simp [upd, h3], by simp [upd, h4], by simp [upd, h5], rfl, hK, hO, by omega, by simpa using hL⟩ ?_
    clear hK hO hL hll h3 h4 h5 l
    rintro m s σ' ⟨k, i3, l, rfl, hk, h3, h4, h5, h6, hK, hO, hll, hL⟩
    by_cases hlt2 : k < a.terms.length
    · have hts := map_str_get hlt2
      have HX : Abs.Hid (a.terms[k]? = some a.terms[k]) := List.getElem?_eq_getElem hlt2
      generalize a.terms[k] = w at hts HX
      have hstep : Abs.Hid (ordT [] (((atomsL x).take j).flatMap (·.terms) ++ a.terms.take (k + 1)) = ordF l w) := by
        rw [Abs.Hid, List.take_add_one, HX.out, Option.toList_some, ← List.append_assoc, ordT_snoc, ← hL.out]
      repeat' (first
 |with_reducible (first|apply awp_seq|apply awp_block|(refine awp_region_k ?_;intro κ hκ)|(refine hκ.out _ _ ?_;clear hκ κ)|apply awp_skip|apply awp_exit|apply awp_ret)
 |((first|with_reducible apply gd_split|((with_reducible refine cond_go ?_);refine awp_cond_split rfl ?_ ?_))<;>intro h<;>(try simp only [upd, ↓reduceIte,Nat.reduceEqDiff,B2] at h)<;>(try simp only [*,reduceCtorEq,decide_true,decide_false] at h)<;>(try (have hari:=h;simp only [B3] at hari))<;>(try (first|contradiction|(exfalso;omega)|(exfalso;simp at h;done)))<;>(try simp only [B5]))
 |((with_reducible refine aapp_go ?_);refine aApp_own (by first|exact tez_37) (by assumption) (by assumption) (by decide) (by rfl) (by first|assumption|(simp;done)|(simp;omega)|omega) (by rfl) (by rfl) (by decide) (by omega) (by omega) ?_;intro idn σn hOn hKn eobj enobj ever entop)
 |((with_reducible refine aappn_go ?_);refine aApp_nil (by first|exact tez_37) (by rfl) (by decide) (by rfl) (by rfl) (by decide) (by omega) (by omega) ?_)
 |((with_reducible refine acalls_go ?_);refine ACalls.mono (variable_spec _ _) ?_;rintro _ _ ⟨rfl,rfl⟩)
 |((with_reducible refine acalls_go ?_);refine ACalls.mono (which_spec l i3 w (by omega) _) ?_;rintro _ _ ⟨rfl,rfl⟩)
 |(simp (maxSteps:=3000000) (disch:=(first|omega|(simp only [List.length_append,B1, *];omega))) only [↓mapA_nil, ↓mapA_cons,List.length_append,B0,B4,awant,undef,aq,al,cst,cst1,acells,flat,behind,abin,aconv,aint,thenQ,blkQ,retQ,Value.cells,Value.oneCell',Int.reduceToNat, ↓reduceIte,Nat.reduceLT,Nat.reduceEqDiff,reduceCtorEq,Nat.reduceAdd,Nat.reduceMul,Nat.reduceLeDiff,u_134,u_3,u_37,telem_134,telem_37,tez_37,tfld_143_2,tsz_145,tsz_37,tsz_9, *])
 |(refine hκ.out _ _ ?_;clear hκ κ))
      · have hni : w ∉ l := fun hm => by
          rw [whichL, if_pos hm] at hari; omega
        have hva : variableB w = true := by assumption
        refine ⟨a.terms.length - (k + 1), by omega, k + 1, idn, l ++ [w], rfl, by omega, by simp, by simp, by simpa using hOn, by simp; omega, ?_⟩
        rw [Abs.Hid, hstep.out, ordF, if_pos ⟨hva, hni⟩]
      · have hin : w ∈ l := by
          by_cases hm : w ∈ l
          · exact hm
          · rw [whichL, if_neg hm] at hari; omega
        refine ⟨a.terms.length - (k + 1), by omega, k + 1, i3, l, rfl, by omega, rfl, by simp, hO, by omega, ?_⟩
        rw [Abs.Hid, hstep.out, ordF, if_neg (fun h => h.2 hin)]
      · have hva : variableB w = false := by assumption
        refine ⟨a.terms.length - (k + 1), by omega, k + 1, i3, l, rfl, by omega, rfl, by simp, hO, by omega, ?_⟩
        rw [Abs.Hid, hstep.out, ordF, if_neg (fun h => by rw [hva] at h; cases h.1)]
    · have hkl : k = a.terms.length := by omega
      subst hkl
      rw [List.take_length] at hL
      repeat' (first
 |with_reducible (first|apply awp_seq|apply awp_block|(refine awp_region_k ?_;intro κ hκ)|(refine hκ.out _ _ ?_;clear hκ κ)|apply awp_skip|apply awp_exit|apply awp_ret)
 |((first|with_reducible apply gd_split|((with_reducible refine cond_go ?_);refine awp_cond_split rfl ?_ ?_))<;>intro h<;>(try simp only [upd, ↓reduceIte,Nat.reduceEqDiff,B2] at h)<;>(try simp only [*,reduceCtorEq,decide_true,decide_false] at h)<;>(try (have hari:=h;simp only [B3] at hari))<;>(try (first|contradiction|(exfalso;omega)|(exfalso;simp at h;done)))<;>(try simp only [B5]))
 |((with_reducible refine aapp_go ?_);refine aApp_own (by first|exact tez_37) (by assumption) (by assumption) (by decide) (by rfl) (by first|assumption|(simp;done)|(simp;omega)|omega) (by rfl) (by rfl) (by decide) (by omega) (by omega) ?_;intro idn σn hOn hKn eobj enobj ever entop)
 |((with_reducible refine aappn_go ?_);refine aApp_nil (by first|exact tez_37) (by rfl) (by decide) (by rfl) (by rfl) (by decide) (by omega) (by omega) ?_)
 |(simp (maxSteps:=3000000) (disch:=(first|omega|(simp only [List.length_append,B1, *];omega))) only [↓mapA_nil, ↓mapA_cons,List.length_append,B0,B4,awant,undef,aq,al,cst,cst1,acells,flat,behind,abin,aconv,aint,thenQ,blkQ,retQ,Value.cells,Value.oneCell',Int.reduceToNat, ↓reduceIte,Nat.reduceLT,Nat.reduceEqDiff,reduceCtorEq,Nat.reduceAdd,Nat.reduceMul,Nat.reduceLeDiff,u_134,u_3,u_37,telem_134,telem_37,tez_37,tfld_143_2,tsz_145,tsz_37,tsz_9, *])
 |(refine hκ.out _ _ ?_;clear hκ κ))
      exact ⟨(atomsL x).length - (j + 1), by omega, j + 1, i3, l, rfl, by omega, rfl, by simp, hO, by omega, by rw [Abs.Hid, List.take_add_one, HG.out]; simpa using hL.out⟩
  · have hjl : j = (atomsL x).length := by omega
    subst hjl
    rw [List.take_length] at hL
    repeat' (first
 |with_reducible (first|apply awp_seq|apply awp_block|(refine awp_region_k ?_;intro κ hκ)|(refine hκ.out _ _ ?_;clear hκ κ)|apply awp_skip|apply awp_exit|apply awp_ret)
 |((first|with_reducible apply gd_split|((with_reducible refine cond_go ?_);refine awp_cond_split rfl ?_ ?_))<;>intro h<;>(try simp only [upd, ↓reduceIte,Nat.reduceEqDiff,B2] at h)<;>(try simp only [*,reduceCtorEq,decide_true,decide_false] at h)<;>(try (have hari:=h;simp only [B3] at hari))<;>(try (first|contradiction|(exfalso;omega)|(exfalso;simp at h;done)))<;>(try simp only [B5]))
 |((with_reducible refine aapp_go ?_);refine aApp_own (by first|exact tez_37) (by assumption) (by assumption) (by decide) (by rfl) (by first|assumption|(simp;done)|(simp;omega)|omega) (by rfl) (by rfl) (by decide) (by omega) (by omega) ?_;intro idn σn hOn hKn eobj enobj ever entop)
 |((with_reducible refine aappn_go ?_);refine aApp_nil (by first|exact tez_37) (by rfl) (by decide) (by rfl) (by rfl) (by decide) (by omega) (by omega) ?_)
 |(simp (maxSteps:=3000000) (disch:=(first|omega|(simp only [List.length_append,B1, *];omega))) only [↓mapA_nil, ↓mapA_cons,List.length_append,B0,B4,awant,undef,aq,al,cst,cst1,acells,flat,behind,abin,aconv,aint,thenQ,blkQ,retQ,Value.cells,Value.oneCell',Int.reduceToNat, ↓reduceIte,Nat.reduceLT,Nat.reduceEqDiff,reduceCtorEq,Nat.reduceAdd,Nat.reduceMul,Nat.reduceLeDiff,u_134,u_3,u_37,telem_134,telem_37,tez_37,tfld_143_2,tsz_145,tsz_37,tsz_9, *])
 |(refine hκ.out _ _ ?_;clear hκ κ))
    rw [ordL, ← hL.out]
    first | exact ⟨_, rfl, i3, rfl, hK⟩ | exact ⟨_, rfl, i3, rfl⟩

/-! ### Written -/
def letB (k : Int) : UInt8 := UInt8.ofNat (IntKind.u8.wrap (IntKind.i64.wrap (65 + Int.tmod k 26))).toNat
def wrT (l : List Tx) (t : Tx) : Tx := if variableB t = true then [letB (whichL l t)] else t
def wrS (k : Nat) : Tx := if k = 0 then [40] else [44]
def wrTs (l : List Tx) : Nat → List Tx → Tx
  | _, [] => []
  | k, t :: ts => wrS k ++ wrT l t ++ wrTs l (k + 1) ts
theorem wrTs_snoc (l : List Tx) : ∀ (ts : List Tx) (k : Nat) (t : Tx), wrTs l k (ts ++ [t]) = wrTs l k ts ++ (wrS (k + ts.length) ++ wrT l t)
  | [], k, t => by simp [wrTs]
  | u :: ts, k, t => by
    rw [List.cons_append, wrTs, wrTs_snoc l ts (k + 1) t, wrTs]
    simp only [List.append_assoc, List.length_cons]
    rw [show k + 1 + ts.length = k + (ts.length + 1) by omega]
def writeL (l : List Tx) (a : RAtom) : Tx := (if a.nt = true then [33] else []) ++ a.pred ++ wrTs l 0 a.terms ++ [41]
/-- not too long for a text -/
def short (a : RAtom) : Prop := a.pred.length ≤ 1000 ∧ a.terms.length ≤ 1000 ∧ ∀ t ∈ a.terms, t.length ≤ 1000
theorem wrT_len (l : List Tx) (t : Tx) (h : t.length ≤ 1000) : (wrT l t).length ≤ 1000 := by unfold wrT; split <;> simp [h]
theorem wrTs_len (l : List Tx) : ∀ (ts : List Tx) (k : Nat), (∀ t ∈ ts, t.length ≤ 1000) → (wrTs l k ts).length ≤ ts.length * 1001
  | [], k, h => by simp [wrTs]
  | t :: ts, k, h => by
    have h1 := wrT_len l t (h t (by simp))
    have h2 := wrTs_len l ts (k + 1) fun u hu => h u (by simp [hu])
    have h3 : (wrS k).length = 1 := by unfold wrS; split <;> rfl
    simp only [wrTs, List.length_append, List.length_cons]
    omega
def wrP (a : RAtom) : Tx := (if a.nt = true then [33] else []) ++ a.pred
set_option maxHeartbeats 16000000 in
theorem write_spec (l : List Tx) (ids : Nat) (a : RAtom) (c : List AV) (hc : EAtom a c) (hl : l.length ≤ 10000000) (hs : short a) (σ : St) : ACalls Tryz.prog 143 [ag c, sl ids l.length (l.map str)] σ fun r σ' => r = str (writeL l a) ∧ Keep σ σ' := by
  obtain ⟨ia, rfl⟩ := hc
  obtain ⟨hs1, hs2, hs3⟩ := hs
  have h33 : ({ data := #[33] } : ByteArray) = bs [33] := rfl
  refine acalls 47 [.tmp 4] Tryz.func143 rfl (by decide) rfl rfl (Nat.le_of_ble_eq_true rfl) ?_
  cases hnt : a.nt with
  | true =>
    repeat' (first
 |with_reducible (first|apply awp_seq|apply awp_block|(refine awp_region_k ?_;intro κ hκ)|(refine hκ.out _ _ ?_;clear hκ κ)|apply awp_skip|apply awp_exit|apply awp_ret)
 |((first|with_reducible apply gd_split|((with_reducible refine cond_go ?_);refine awp_cond_split rfl ?_ ?_))<;>intro h<;>(try simp only [upd, ↓reduceIte,Nat.reduceEqDiff,B2] at h)<;>(try simp only [*,reduceCtorEq,decide_true,decide_false] at h)<;>(try (have hari:=h;simp only [B3] at hari))<;>(try (first|contradiction|(exfalso;omega)|(exfalso;simp at h;done)))<;>(try simp only [B5]))
 |(simp (maxSteps:=3000000) (disch:=(first|omega|(simp only [List.length_append,B1, *];omega))) only [↓mapA_nil, ↓mapA_cons,List.length_append,B0,B4,awant,undef,aq,al,cst,cst1,acells,flat,behind,abin,aconv,aint,thenQ,blkQ,retQ,Value.cells,Value.oneCell',Int.reduceToNat, ↓reduceIte,Nat.reduceLT,Nat.reduceEqDiff,reduceCtorEq,Nat.reduceAdd,Nat.reduceMul,Nat.reduceLeDiff,u_204,u_3,u_37,u_5,u_9,telem_37,tez_204,tfld_143_0,tfld_143_1,tfld_143_2,tsz_37,tsz_4,tsz_9, *])
 |(refine hκ.out _ _ ?_;clear hκ κ))
    refine awp_loop (fun m s σ' => ∃ (k : Nat) (acc : Tx), m = a.terms.length - k ∧ k ≤ a.terms.length ∧ s 1 = sl ids l.length (l.map str) ∧ s 2 = ptr σ.nobj 0 ∧ s 5 = str acc ∧ s 6 = sc (.int .i64 k) ∧ Keep σ σ' ∧ σ'.obj σ.nobj = [sc (.bool a.nt), str a.pred, sl ia a.terms.length (a.terms.map str)] ∧ σ.nobj < σ'.nobj ∧ acc.length ≤ 1001 + k * 1001 ∧ Abs.Hid (acc = wrP a ++ wrTs l 0 (a.terms.take k))) a.terms.length
      ⟨0, wrP a, by omega, by omega, rfl, rfl, by simp [upd, wrP, hnt], rfl, by repeat (first | exact Keep.refl _ | assumption | (refine Keep.put ?_ (by first | omega | (simp only [new_nobj, put_nobj, lay_nobj, *]; omega)) _) | (refine Keep.new ?_ _) | (refine Keep.lay ?_ _) | (refine Keep.trans ?_ (by assumption))), by rw [hnt]; exact new_same, by simp [new_nobj], by simp [wrP, hnt]; omega, by simp [Abs.Hid, wrTs]⟩ ?_
    rintro m s σ' ⟨k, acc, rfl, hk, h1, h2, h5, h6, hK, hob, hno, hal, hA⟩
    have h40 : ({ data := #[40] } : ByteArray) = bs [40] := rfl
    have h44 : ({ data := #[44] } : ByteArray) = bs [44] := rfl
    have h41 : ({ data := #[41] } : ByteArray) = bs [41] := rfl
    have hone : ∀ z : UInt8, ({ data := #[z] } : ByteArray) = bs [z] := fun _ => rfl
    by_cases hlt : k < a.terms.length
    · have hts := map_str_get hlt
      have HX : Abs.Hid (a.terms[k]? = some a.terms[k]) := List.getElem?_eq_getElem hlt
      have hwl := hs3 a.terms[k] (List.getElem_mem hlt)
      generalize a.terms[k] = w at hts HX hwl
      have hstep : Abs.Hid (wrP a ++ wrTs l 0 (a.terms.take (k + 1)) = acc ++ (wrS k ++ wrT l w)) := by
        rw [Abs.Hid, List.take_add_one, HX.out, Option.toList_some, wrTs_snoc, hA.out, List.length_take, Nat.min_eq_left (by omega), Nat.zero_add, List.append_assoc]
      have hwT : (wrT l w).length ≤ 1000 := wrT_len l w hwl
      have hwS1 : (wrS k).length = 1 := by unfold wrS; split <;> rfl
      have HT : Abs.Hid ((wrT l w).length ≤ 1000) := hwT
      have HS1 : Abs.Hid ((wrS k).length = 1) := hwS1
      clear hwT hwS1
      by_cases hk0 : k = 0
      · have hkb : ((k : Int) == 0) = true := by simp [hk0]
        have hwS : Abs.Hid (wrS k = [40]) := by simp [Abs.Hid, wrS, hk0]
        clear hk0
        repeat' (first
 |with_reducible (first|apply awp_seq|apply awp_block|(refine awp_region_k ?_;intro κ hκ)|(refine hκ.out _ _ ?_;clear hκ κ)|apply awp_skip|apply awp_exit|apply awp_ret)
 |((first|with_reducible apply gd_split|((with_reducible refine cond_go ?_);refine awp_cond_split rfl ?_ ?_))<;>intro h<;>(try simp only [upd, ↓reduceIte,Nat.reduceEqDiff,B2] at h)<;>(try simp only [*,reduceCtorEq,decide_true,decide_false] at h)<;>(try (have hari:=h;simp only [B3] at hari))<;>(try (first|contradiction|(exfalso;omega)|(exfalso;simp at h;done)))<;>(try simp only [B5]))
 |((with_reducible refine acalls_go ?_);refine ACalls.mono (variable_spec _ _) ?_;rintro _ _ ⟨rfl,rfl⟩)
 |((with_reducible refine acalls_go ?_);refine ACalls.mono (which_spec l ids w hl _) ?_;rintro _ _ ⟨rfl,rfl⟩)
 |(simp (maxSteps:=3000000) (disch:=(first|omega|(simp only [List.length_append,B1, *];omega))) only [↓mapA_nil, ↓mapA_cons,List.length_append,B0,B4,awant,undef,aq,al,cst,cst1,acells,flat,behind,abin,aconv,aint,thenQ,blkQ,retQ,Value.cells,Value.oneCell',Int.reduceToNat, ↓reduceIte,Nat.reduceLT,Nat.reduceEqDiff,reduceCtorEq,Nat.reduceAdd,Nat.reduceMul,Nat.reduceLeDiff,u_204,u_3,u_37,u_5,u_9,telem_37,tez_204,tfld_143_0,tfld_143_1,tfld_143_2,tsz_37,tsz_4,tsz_9, *])
 |(refine hκ.out _ _ ?_;clear hκ κ))
        · have hv : variableB w = true := by assumption
          refine ⟨a.terms.length - (k + 1), by omega, k + 1, acc ++ (wrS k ++ wrT l w), rfl, by omega, by rw [hwS.out, wrT, if_pos hv]; simp [letB], by simp, by repeat (first | exact Keep.refl _ | assumption | (refine Keep.put ?_ (by first | omega | (simp only [new_nobj, put_nobj, lay_nobj, *]; omega)) _) | (refine Keep.new ?_ _) | (refine Keep.lay ?_ _) | (refine Keep.trans ?_ (by assumption))), by have := HT.out; have := HS1.out; simp only [List.length_append]; omega, by rw [Abs.Hid, hstep.out]⟩
        · have hv : variableB w = false := by assumption
          refine ⟨a.terms.length - (k + 1), by omega, k + 1, acc ++ (wrS k ++ wrT l w), rfl, by omega, by rw [hwS.out, wrT, if_neg (by rw [hv]; simp)]; simp, by simp, by have := HT.out; have := HS1.out; simp only [List.length_append]; omega, by rw [Abs.Hid, hstep.out]⟩
      · have hkb : ((k : Int) == 0) = false := by simp; omega
        have hwS : Abs.Hid (wrS k = [44]) := by simp [Abs.Hid, wrS, hk0]
        clear hk0
        repeat' (first
 |with_reducible (first|apply awp_seq|apply awp_block|(refine awp_region_k ?_;intro κ hκ)|(refine hκ.out _ _ ?_;clear hκ κ)|apply awp_skip|apply awp_exit|apply awp_ret)
 |((first|with_reducible apply gd_split|((with_reducible refine cond_go ?_);refine awp_cond_split rfl ?_ ?_))<;>intro h<;>(try simp only [upd, ↓reduceIte,Nat.reduceEqDiff,B2] at h)<;>(try simp only [*,reduceCtorEq,decide_true,decide_false] at h)<;>(try (have hari:=h;simp only [B3] at hari))<;>(try (first|contradiction|(exfalso;omega)|(exfalso;simp at h;done)))<;>(try simp only [B5]))
 |((with_reducible refine acalls_go ?_);refine ACalls.mono (variable_spec _ _) ?_;rintro _ _ ⟨rfl,rfl⟩)
 |((with_reducible refine acalls_go ?_);refine ACalls.mono (which_spec l ids w hl _) ?_;rintro _ _ ⟨rfl,rfl⟩)
 |(simp (maxSteps:=3000000) (disch:=(first|omega|(simp only [List.length_append,B1, *];omega))) only [↓mapA_nil, ↓mapA_cons,List.length_append,B0,B4,awant,undef,aq,al,cst,cst1,acells,flat,behind,abin,aconv,aint,thenQ,blkQ,retQ,Value.cells,Value.oneCell',Int.reduceToNat, ↓reduceIte,Nat.reduceLT,Nat.reduceEqDiff,reduceCtorEq,Nat.reduceAdd,Nat.reduceMul,Nat.reduceLeDiff,u_204,u_3,u_37,u_5,u_9,telem_37,tez_204,tfld_143_0,tfld_143_1,tfld_143_2,tsz_37,tsz_4,tsz_9, *])
 |(refine hκ.out _ _ ?_;clear hκ κ))
        · have hv : variableB w = true := by assumption
          refine ⟨a.terms.length - (k + 1), by omega, k + 1, acc ++ (wrS k ++ wrT l w), rfl, by omega, by rw [hwS.out, wrT, if_pos hv]; simp [letB], by simp, by repeat (first | exact Keep.refl _ | assumption | (refine Keep.put ?_ (by first | omega | (simp only [new_nobj, put_nobj, lay_nobj, *]; omega)) _) | (refine Keep.new ?_ _) | (refine Keep.lay ?_ _) | (refine Keep.trans ?_ (by assumption))), by have := HT.out; have := HS1.out; simp only [List.length_append]; omega, by rw [Abs.Hid, hstep.out]⟩
        · have hv : variableB w = false := by assumption
          refine ⟨a.terms.length - (k + 1), by omega, k + 1, acc ++ (wrS k ++ wrT l w), rfl, by omega, by rw [hwS.out, wrT, if_neg (by rw [hv]; simp)]; simp, by simp, by have := HT.out; have := HS1.out; simp only [List.length_append]; omega, by rw [Abs.Hid, hstep.out]⟩
    · have hkl : k = a.terms.length := by omega
      subst hkl
      rw [List.take_length] at hA
      repeat' (first
 |with_reducible (first|apply awp_seq|apply awp_block|(refine awp_region_k ?_;intro κ hκ)|(refine hκ.out _ _ ?_;clear hκ κ)|apply awp_skip|apply awp_exit|apply awp_ret)
 |((first|with_reducible apply gd_split|((with_reducible refine cond_go ?_);refine awp_cond_split rfl ?_ ?_))<;>intro h<;>(try simp only [upd, ↓reduceIte,Nat.reduceEqDiff,B2] at h)<;>(try simp only [*,reduceCtorEq,decide_true,decide_false] at h)<;>(try (have hari:=h;simp only [B3] at hari))<;>(try (first|contradiction|(exfalso;omega)|(exfalso;simp at h;done)))<;>(try simp only [B5]))
 |(simp (maxSteps:=3000000) (disch:=(first|omega|(simp only [List.length_append,B1, *];omega))) only [↓mapA_nil, ↓mapA_cons,List.length_append,B0,B4,awant,undef,aq,al,cst,cst1,acells,flat,behind,abin,aconv,aint,thenQ,blkQ,retQ,Value.cells,Value.oneCell',Int.reduceToNat, ↓reduceIte,Nat.reduceLT,Nat.reduceEqDiff,reduceCtorEq,Nat.reduceAdd,Nat.reduceMul,Nat.reduceLeDiff,u_204,u_3,u_37,u_5,u_9,telem_37,tez_204,tfld_143_0,tfld_143_1,tfld_143_2,tsz_37,tsz_4,tsz_9, *])
 |(refine hκ.out _ _ ?_;clear hκ κ))
      first
      | exact ⟨_, rfl, by rw [hA.out]; simp [writeL, wrP, hnt], hK⟩
      | exact ⟨_, rfl, by rw [hA.out]; simp [writeL, wrP, hnt]⟩
  | false =>
    repeat' (first
 |with_reducible (first|apply awp_seq|apply awp_block|(refine awp_region_k ?_;intro κ hκ)|(refine hκ.out _ _ ?_;clear hκ κ)|apply awp_skip|apply awp_exit|apply awp_ret)
 |((first|with_reducible apply gd_split|((with_reducible refine cond_go ?_);refine awp_cond_split rfl ?_ ?_))<;>intro h<;>(try simp only [upd, ↓reduceIte,Nat.reduceEqDiff,B2] at h)<;>(try simp only [*,reduceCtorEq,decide_true,decide_false] at h)<;>(try (have hari:=h;simp only [B3] at hari))<;>(try (first|contradiction|(exfalso;omega)|(exfalso;simp at h;done)))<;>(try simp only [B5]))
 |(simp (maxSteps:=3000000) (disch:=(first|omega|(simp only [List.length_append,B1, *];omega))) only [↓mapA_nil, ↓mapA_cons,List.length_append,B0,B4,awant,undef,aq,al,cst,cst1,acells,flat,behind,abin,aconv,aint,thenQ,blkQ,retQ,Value.cells,Value.oneCell',Int.reduceToNat, ↓reduceIte,Nat.reduceLT,Nat.reduceEqDiff,reduceCtorEq,Nat.reduceAdd,Nat.reduceMul,Nat.reduceLeDiff,u_204,u_3,u_37,u_5,u_9,telem_37,tez_204,tfld_143_0,tfld_143_1,tfld_143_2,tsz_37,tsz_4,tsz_9, *])
 |(refine hκ.out _ _ ?_;clear hκ κ))
    refine awp_loop (fun m s σ' => ∃ (k : Nat) (acc : Tx), m = a.terms.length - k ∧ k ≤ a.terms.length ∧ s 1 = sl ids l.length (l.map str) ∧ s 2 = ptr σ.nobj 0 ∧ s 5 = str acc ∧ s 6 = sc (.int .i64 k) ∧ Keep σ σ' ∧ σ'.obj σ.nobj = [sc (.bool a.nt), str a.pred, sl ia a.terms.length (a.terms.map str)] ∧ σ.nobj < σ'.nobj ∧ acc.length ≤ 1001 + k * 1001 ∧ Abs.Hid (acc = wrP a ++ wrTs l 0 (a.terms.take k))) a.terms.length
      ⟨0, wrP a, by omega, by omega, rfl, rfl, by simp [upd, wrP, hnt], rfl, by repeat (first | exact Keep.refl _ | assumption | (refine Keep.put ?_ (by first | omega | (simp only [new_nobj, put_nobj, lay_nobj, *]; omega)) _) | (refine Keep.new ?_ _) | (refine Keep.lay ?_ _) | (refine Keep.trans ?_ (by assumption))), by rw [hnt]; exact new_same, by simp [new_nobj], by simp [wrP, hnt]; omega, by simp [Abs.Hid, wrTs]⟩ ?_
    rintro m s σ' ⟨k, acc, rfl, hk, h1, h2, h5, h6, hK, hob, hno, hal, hA⟩
    have h40 : ({ data := #[40] } : ByteArray) = bs [40] := rfl
    have h44 : ({ data := #[44] } : ByteArray) = bs [44] := rfl
    have h41 : ({ data := #[41] } : ByteArray) = bs [41] := rfl
    have hone : ∀ z : UInt8, ({ data := #[z] } : ByteArray) = bs [z] := fun _ => rfl
    by_cases hlt : k < a.terms.length
    · have hts := map_str_get hlt
      have HX : Abs.Hid (a.terms[k]? = some a.terms[k]) := List.getElem?_eq_getElem hlt
      have hwl := hs3 a.terms[k] (List.getElem_mem hlt)
      generalize a.terms[k] = w at hts HX hwl
      have hstep : Abs.Hid (wrP a ++ wrTs l 0 (a.terms.take (k + 1)) = acc ++ (wrS k ++ wrT l w)) := by
        rw [Abs.Hid, List.take_add_one, HX.out, Option.toList_some, wrTs_snoc, hA.out, List.length_take, Nat.min_eq_left (by omega), Nat.zero_add, List.append_assoc]
      have hwT : (wrT l w).length ≤ 1000 := wrT_len l w hwl
      have hwS1 : (wrS k).length = 1 := by unfold wrS; split <;> rfl
      have HT : Abs.Hid ((wrT l w).length ≤ 1000) := hwT
      have HS1 : Abs.Hid ((wrS k).length = 1) := hwS1
      clear hwT hwS1
      by_cases hk0 : k = 0
      · have hkb : ((k : Int) == 0) = true := by simp [hk0]
        have hwS : Abs.Hid (wrS k = [40]) := by simp [Abs.Hid, wrS, hk0]
        clear hk0
        repeat' (first
 |with_reducible (first|apply awp_seq|apply awp_block|(refine awp_region_k ?_;intro κ hκ)|(refine hκ.out _ _ ?_;clear hκ κ)|apply awp_skip|apply awp_exit|apply awp_ret)
 |((first|with_reducible apply gd_split|((with_reducible refine cond_go ?_);refine awp_cond_split rfl ?_ ?_))<;>intro h<;>(try simp only [upd, ↓reduceIte,Nat.reduceEqDiff,B2] at h)<;>(try simp only [*,reduceCtorEq,decide_true,decide_false] at h)<;>(try (have hari:=h;simp only [B3] at hari))<;>(try (first|contradiction|(exfalso;omega)|(exfalso;simp at h;done)))<;>(try simp only [B5]))
 |((with_reducible refine acalls_go ?_);refine ACalls.mono (variable_spec _ _) ?_;rintro _ _ ⟨rfl,rfl⟩)
 |((with_reducible refine acalls_go ?_);refine ACalls.mono (which_spec l ids w hl _) ?_;rintro _ _ ⟨rfl,rfl⟩)
 |(simp (maxSteps:=3000000) (disch:=(first|omega|(simp only [List.length_append,B1, *];omega))) only [↓mapA_nil, ↓mapA_cons,List.length_append,B0,B4,awant,undef,aq,al,cst,cst1,acells,flat,behind,abin,aconv,aint,thenQ,blkQ,retQ,Value.cells,Value.oneCell',Int.reduceToNat, ↓reduceIte,Nat.reduceLT,Nat.reduceEqDiff,reduceCtorEq,Nat.reduceAdd,Nat.reduceMul,Nat.reduceLeDiff,u_204,u_3,u_37,u_5,u_9,telem_37,tez_204,tfld_143_0,tfld_143_1,tfld_143_2,tsz_37,tsz_4,tsz_9, *])
 |(refine hκ.out _ _ ?_;clear hκ κ))
        · have hv : variableB w = true := by assumption
          refine ⟨a.terms.length - (k + 1), by omega, k + 1, acc ++ (wrS k ++ wrT l w), rfl, by omega, by rw [hwS.out, wrT, if_pos hv]; simp [letB], by simp, by repeat (first | exact Keep.refl _ | assumption | (refine Keep.put ?_ (by first | omega | (simp only [new_nobj, put_nobj, lay_nobj, *]; omega)) _) | (refine Keep.new ?_ _) | (refine Keep.lay ?_ _) | (refine Keep.trans ?_ (by assumption))), by have := HT.out; have := HS1.out; simp only [List.length_append]; omega, by rw [Abs.Hid, hstep.out]⟩
        · have hv : variableB w = false := by assumption
          refine ⟨a.terms.length - (k + 1), by omega, k + 1, acc ++ (wrS k ++ wrT l w), rfl, by omega, by rw [hwS.out, wrT, if_neg (by rw [hv]; simp)]; simp, by simp, by have := HT.out; have := HS1.out; simp only [List.length_append]; omega, by rw [Abs.Hid, hstep.out]⟩
      · have hkb : ((k : Int) == 0) = false := by simp; omega
        have hwS : Abs.Hid (wrS k = [44]) := by simp [Abs.Hid, wrS, hk0]
        clear hk0
        repeat' (first
 |with_reducible (first|apply awp_seq|apply awp_block|(refine awp_region_k ?_;intro κ hκ)|(refine hκ.out _ _ ?_;clear hκ κ)|apply awp_skip|apply awp_exit|apply awp_ret)
 |((first|with_reducible apply gd_split|((with_reducible refine cond_go ?_);refine awp_cond_split rfl ?_ ?_))<;>intro h<;>(try simp only [upd, ↓reduceIte,Nat.reduceEqDiff,B2] at h)<;>(try simp only [*,reduceCtorEq,decide_true,decide_false] at h)<;>(try (have hari:=h;simp only [B3] at hari))<;>(try (first|contradiction|(exfalso;omega)|(exfalso;simp at h;done)))<;>(try simp only [B5]))
 |((with_reducible refine acalls_go ?_);refine ACalls.mono (variable_spec _ _) ?_;rintro _ _ ⟨rfl,rfl⟩)
 |((with_reducible refine acalls_go ?_);refine ACalls.mono (which_spec l ids w hl _) ?_;rintro _ _ ⟨rfl,rfl⟩)
 |(simp (maxSteps:=3000000) (disch:=(first|omega|(simp only [List.length_append,B1, *];omega))) only [↓mapA_nil, ↓mapA_cons,List.length_append,B0,B4,awant,undef,aq,al,cst,cst1,acells,flat,behind,abin,aconv,aint,thenQ,blkQ,retQ,Value.cells,Value.oneCell',Int.reduceToNat, ↓reduceIte,Nat.reduceLT,Nat.reduceEqDiff,reduceCtorEq,Nat.reduceAdd,Nat.reduceMul,Nat.reduceLeDiff,u_204,u_3,u_37,u_5,u_9,telem_37,tez_204,tfld_143_0,tfld_143_1,tfld_143_2,tsz_37,tsz_4,tsz_9, *])
 |(refine hκ.out _ _ ?_;clear hκ κ))
        · have hv : variableB w = true := by assumption
          refine ⟨a.terms.length - (k + 1), by omega, k + 1, acc ++ (wrS k ++ wrT l w), rfl, by omega, by rw [hwS.out, wrT, if_pos hv]; simp [letB], by simp, by repeat (first | exact Keep.refl _ | assumption | (refine Keep.put ?_ (by first | omega | (simp only [new_nobj, put_nobj, lay_nobj, *]; omega)) _) | (refine Keep.new ?_ _) | (refine Keep.lay ?_ _) | (refine Keep.trans ?_ (by assumption))), by have := HT.out; have := HS1.out; simp only [List.length_append]; omega, by rw [Abs.Hid, hstep.out]⟩
        · have hv : variableB w = false := by assumption
          refine ⟨a.terms.length - (k + 1), by omega, k + 1, acc ++ (wrS k ++ wrT l w), rfl, by omega, by rw [hwS.out, wrT, if_neg (by rw [hv]; simp)]; simp, by simp, by have := HT.out; have := HS1.out; simp only [List.length_append]; omega, by rw [Abs.Hid, hstep.out]⟩
    · have hkl : k = a.terms.length := by omega
      subst hkl
      rw [List.take_length] at hA
      repeat' (first
 |with_reducible (first|apply awp_seq|apply awp_block|(refine awp_region_k ?_;intro κ hκ)|(refine hκ.out _ _ ?_;clear hκ κ)|apply awp_skip|apply awp_exit|apply awp_ret)
 |((first|with_reducible apply gd_split|((with_reducible refine cond_go ?_);refine awp_cond_split rfl ?_ ?_))<;>intro h<;>(try simp only [upd, ↓reduceIte,Nat.reduceEqDiff,B2] at h)<;>(try simp only [*,reduceCtorEq,decide_true,decide_false] at h)<;>(try (have hari:=h;simp only [B3] at hari))<;>(try (first|contradiction|(exfalso;omega)|(exfalso;simp at h;done)))<;>(try simp only [B5]))
 |(simp (maxSteps:=3000000) (disch:=(first|omega|(simp only [List.length_append,B1, *];omega))) only [↓mapA_nil, ↓mapA_cons,List.length_append,B0,B4,awant,undef,aq,al,cst,cst1,acells,flat,behind,abin,aconv,aint,thenQ,blkQ,retQ,Value.cells,Value.oneCell',Int.reduceToNat, ↓reduceIte,Nat.reduceLT,Nat.reduceEqDiff,reduceCtorEq,Nat.reduceAdd,Nat.reduceMul,Nat.reduceLeDiff,u_204,u_3,u_37,u_5,u_9,telem_37,tez_204,tfld_143_0,tfld_143_1,tfld_143_2,tsz_37,tsz_4,tsz_9, *])
 |(refine hκ.out _ _ ?_;clear hκ κ))
      first
      | exact ⟨_, rfl, by rw [hA.out]; simp [writeL, wrP, hnt], hK⟩
      | exact ⟨_, rfl, by rw [hA.out]; simp [writeL, wrP, hnt]⟩
end Go.Proofs.YtmoeoppbmhfbpaaGreatDoorY
