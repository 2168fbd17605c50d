import Derived.Test.YtmoeoppbmhfbpaaGreatDoorURowHyp
import Derived.Test.YtmoeoppbmhfbpaaGreatDoorULawU
import Derived.Test.YtmoeoppbmhfbpaaGreatDoorRows
import Derived.Test.YtmoeoppbmhfbpaaGreatDoorCards
import Derived.Test.YtmoeoppbmhfbpaaGreatDoorTie
import Derived.LaidMore
import Derived.Stop.Joined
import Derived.SevenTiedAt
/- The row and the card of Core. -/
namespace Go.Proofs.YtmoeoppbmhfbpaaGreatDoor
open Go.ChangeShapes Go.WideShapes Go.ChangeAt Go.WideMaps Go.WideElems Go.RowKit
open Go.Proofs.YtmoeoppbmhfbpaaGreatDoorU (core_spec st0 gh0 inv0)
set_option linter.unusedVariables false

theorem calls_law1 {f : FuncId} {W : World} {s0 : ByteArray} (h : Abs.ACalls Tryz.prog f [Abs.str s0.data.toList] st0 fun r σ' => r = Abs.sc (.bool true) ∧ Abs.Keep st0 σ') (hy : Abs.Hyp W.heap.size W) :
    Calls Tryz.prog f #[.string s0] W fun e w' => e = .returned (.bool true) ∧ Below W.heap.size W w' := by
  have hv0 : Abs.VR (gh0 W) st0 W (.string s0) (Abs.str s0.data.toList) := by
    show Abs.VR (gh0 W) st0 W (.string s0) (Abs.sc (.string (Abs.bs s0.data.toList)))
    rw [show Abs.bs s0.data.toList = s0 by simp [Abs.bs]]; exact Abs.VR.sc _
  refine (h.2 (gh0 W) W #[.string s0] (inv0 W hy) (Abs.All2.cons hv0 (Abs.All2.nil _))).mono ?_
  rintro e w' ⟨v2, G', y, σ', rfl, I', E, hvr, rfl, -⟩
  have h2 : v2 = .bool true := hvr.unfold
  refine ⟨by rw [h2], ?_⟩
  have hb := I'.below
  rw [E.base, E.w0] at hb
  exact hb

theorem own : ownKnob Tryz.prog.godebug = none := by kernel_rfl
theorem laidOut : laidOutB Tryz.prog = true := by kernel_rfl
theorem door_met (os : Os) (args : Array Value) : laidMetH Tryz.prog laid3 ((World.doorLaid Tryz.prog 400 os).forCall (fun _ _ => 0) ⟨#[], args, []⟩).memory :=
  laidMetH_of_parts3 (fuel := 8) (laidMet_of_run' 8 (by kernel_rfl) (by kernel_rfl)) (by kernel_rfl) (by kernel_rfl)

set_option maxRecDepth 100000 in
theorem core_lifted (os : Os) (started : os.Started) (H : Type) (enc : TypeId × Value → H) :
    ReturnsInHanded {} Tryz.checked os 11 .any (fun w args => (Rows.coreSpec.pre enc Tryz.prog Tryz.f11 [] false w args ∧ laidMetH Tryz.prog laid3 w) ∧ sizedMet enc Tryz.prog Tryz.f11 (OpenSpec.ofChange Rows.coreSpec) false w args)
      (Rows.coreSpec.post enc Tryz.prog Tryz.f11 false true false false) := by
  refine returnsInHanded_of_change_and (C := Tryz.checked) (X := fun w _ => laidMetH Tryz.prog laid3 w) (fun _ _ _ hh h => h.of_heap hh) own started (by kernel_rfl) Tryz.func11
    (ChangeSpec.witness_shaped (enc := enc) (C := Tryz.checked) (os := os) (X := fun w _ => laidMetH Tryz.prog laid3 w) false (World.doorLaid Tryz.prog 400 os) #[.string ⟨#[]⟩] 8 rfl (World.shaped_of_RefB (by kernel_rfl) (by kernel_rfl)) (by kernel_rfl) (by kernel_rfl) (by kernel_rfl) (door_met os _)) ?_
  intro W base args ds gs before hval0 hW _ _ hL _
  have hval : ∀ (j : Nat) t v, Tryz.f11.params[j]? = some t → args[j]? = some v → Value.okWide Tryz.prog W .any base t v := hval0
  have hW' := hW
  obtain ⟨p, q, hA0, hV, rfl, hfz, hnd⟩ := hW
  have hA : DataW.TrodAll enc Tryz.prog W 0 (fun _ => true) true Tryz.f11.params.toList args.toList ds p := hA0
  rw [Tryz.params11] at hA hval
  obtain ⟨v0, vs0, d0, ds0, p0, q0, hargs, rfl, rfl, h0, r0⟩ := trodAll_cons hA
  obtain ⟨rfl, rfl, rfl⟩ := trodAll_nil r0
  obtain rfl : args = #[v0] := by cases args; simp_all
  obtain ⟨rfl, rfl⟩ := trodVars_none hV
  obtain ⟨s0, rfl⟩ := okWide_string Tryz.underlying9 (hval 0 9 v0 rfl rfl)
  have lt0 : ∀ x ∈ p0, x.block < W.heap.size := by obtain ⟨m, hm⟩ := h0; exact DataW.trod_lt m _ _ _ hm
  clear hA0 hval0
  refine (calls_law1 (core_spec s0.data.toList st0) (hyp_of hL)).mono fun e W' ⟨he, bel⟩ => ?_
  subst he
  exact ⟨_, rfl, _, _, _, [], _, [], hW', trodAll_mk1 (shut_bool Tryz.underlying4 _), (trodAll_cons_mk (Below.trod laidOut (by kernel_rfl) (of_decide_eq_true (by kernel_rfl)) h0 bel lt0) trodAll_mk0), rfl, bel.frame _, fun h => by cases h⟩

theorem andB {a b : Bool} (h : a = true) (k : b = true) : (a && b) = true := by rw [h, k]; rfl
theorem core_j0 : (Rows.coreRow.wf (OpenSpec.ofChange Rows.coreSpec)) = true := by kernel_rfl
theorem core_j1 : (laidOutB Tryz.prog) = true := by kernel_rfl
theorem core_j2 : (mapsRowed Tryz.prog) = true := by kernel_rfl
theorem core_j3 : (Tryz.f11.params.all (Tryz.prog.readableRec ·)) = true := by kernel_rfl
theorem core_j4 : (namedTie Tryz.prog Rows.coreRow.named Rows.coreSpec.vars) = true := by kernel_rfl
theorem core_j5 : ((Rows.coreRow.stops == [])) = true := by kernel_rfl
theorem core_j6 : ((Tryz.prog.stops == [])) = true := by kernel_rfl
theorem core_j7 : ((Rows.coreRow.knobs == [])) = true := by kernel_rfl
theorem core_j8 : ((Tryz.prog.stopKnobs == [])) = true := by kernel_rfl
theorem core_j9 : ((Rows.coreRow.inPlace == Tryz.prog.inPlace 11)) = true := by kernel_rfl
theorem core_j10 : ((Rows.coreRow.unfollowed == Tryz.prog.unfollowed 11)) = true := by kernel_rfl
theorem core_j11 : ((Rows.coreRow.recurses == Tryz.prog.recurses 11)) = true := by kernel_rfl
theorem core_j12 : ((Rows.coreRow.named == Tryz.prog.varsNamed 11)) = true := by kernel_rfl
theorem core_j13 : ((Rows.coreRow.maps == (Tryz.f11.params.toList ++ Rows.coreSpec.plain.varTypes Tryz.prog).any (Tryz.prog.mapsRec ·))) = true := by kernel_rfl
theorem core_j14 : ((Rows.coreRow.ifaces == (Tryz.f11.params.toList ++ Rows.coreSpec.plain.varTypes Tryz.prog).any (Tryz.prog.ifacesRec ·))) = true := by kernel_rfl
theorem core_j15 : ((Rows.coreRow.mapsOut == Tryz.prog.mapsAmong Tryz.f11.resultTypes.toList)) = true := by kernel_rfl
theorem core_j16 : ((Rows.coreRow.loops == (Tryz.f11.params.toList ++ Rows.coreSpec.plain.varTypes Tryz.prog).any (Tryz.prog.loopsFrom ·))) = true := by kernel_rfl
theorem core_j17 : ((Rows.coreRow.wideKeys == (Tryz.f11.params.toList ++ Rows.coreSpec.plain.varTypes Tryz.prog ++ Tryz.f11.resultTypes.toList).any (Tryz.prog.wideKeysFrom ·))) = true := by kernel_rfl
theorem core_j18 : (Rows.coreSpec.vars.all (Tryz.prog.varReadable ·)) = true := by kernel_rfl
theorem core_j19 : (Tryz.f11.resultTypes.all (fun t => Tryz.prog.readableRec t && decide (t < Tryz.prog.types.size))) = true := by kernel_rfl
theorem core_j20 : ((Rows.coreRow.ifacesOut == Tryz.f11.resultTypes.toList.any (Tryz.prog.ifacesRec ·))) = true := by kernel_rfl
theorem core_j21 : ((Rows.coreRow.loopsOut == Tryz.f11.resultTypes.toList.any (Tryz.prog.loopsFrom ·))) = true := by kernel_rfl
theorem core_j22 : ((Rows.coreRow.plainKeys == Tryz.prog.plainKeys)) = true := by kernel_rfl
theorem core_j23 : (Rows.coreRow.shortTexts.isNone) = true := by kernel_rfl
theorem core_j24 : (Tryz.prog.stopsHeard) = true := by kernel_rfl
theorem core_j25 : (Tryz.prog.mayEnter) = true := by kernel_rfl
theorem core_j26 : ((Rows.coreRow.lifted == Tryz.prog.liftsFinal)) = true := by kernel_rfl
theorem core_j27 : ((Tryz.prog.make == some Rows.coreRow.make)) = true := by kernel_rfl
theorem core_j28 : ((Rows.coreRow.kinds == (if Rows.coreRow.domain.isEmpty then [] else Tryz.f11.params.toList.map fun t => match Tryz.prog.underlying t with | some (.int k) => some k | _ => none))) = true := by kernel_rfl
theorem core_j29 : ((Rows.coreRow.pinned == Rows.coreRow.pinnedBy)) = true := by kernel_rfl
theorem core_j30 : ((Rows.coreRow.veiled == (Tryz.f11.params.toList ++ Rows.coreSpec.plain.varTypes Tryz.prog ++ Tryz.f11.resultTypes.toList).any (Tryz.prog.veiledRec ·))) = true := by kernel_rfl
theorem core_j31 : (Rows.coreRow.veiledFits Tryz.prog Tryz.f11.params.toList (Tryz.f11.params.toList ++ Rows.coreSpec.plain.varTypes Tryz.prog ++ Tryz.f11.resultTypes.toList)) = true := by kernel_rfl
set_option maxRecDepth 100000 in
theorem core_closed : joinedFacts Tryz.prog 11 Tryz.f11 Rows.coreSpec Rows.coreRow = true := by
  unfold joinedFacts
  exact (andB (andB (andB (andB (andB (andB (andB (andB (andB (andB (andB (andB (andB (andB (andB (andB (andB (andB (andB (andB (andB (andB (andB (andB (andB (andB (andB (andB (andB (andB (andB core_j0 core_j1) core_j2) core_j3) core_j4) core_j5) core_j6) core_j7) core_j8) core_j9) core_j10) core_j11) core_j12) core_j13) core_j14) core_j15) core_j16) core_j17) core_j18) core_j19) core_j20) core_j21) core_j22) core_j23) core_j24) core_j25) core_j26) core_j27) core_j28) core_j29) core_j30) core_j31)
theorem core_row : Rows.CoreSaid :=
  OpenClaim.holds_of_wide 11 Tryz.f11 rfl rfl rfl rfl rfl rfl rfl ⟨rfl, rfl, rfl, rfl, rfl⟩ rfl rfl rfl rfl rfl (by kernel_rfl) Tryz.func11 core_closed
    (of_decide_eq_true (by kernel_rfl)) (by unfold Func.isWrapper; first | (rw [if_pos (by decide +kernel)]; kernel_rfl) | (rw [if_neg (by decide +kernel)]; exact ⟨rfl, rfl⟩))
    (fun os started H enc _ => core_lifted os started H enc)

theorem core_card : Rows.CoreCardSaid :=
  Claim7.holds_tied_plain_at .later [] [.data, .data, .data] true (true, "c113fd8fa8dcdeb44cfe1f41cff3f08955f07751af47e4ecdc05dfca0cf1060e") false
    core_row (fun _ h => by cases h) (by kernel_rfl) (fun _ h => by cases h) core_row_tie rfl ⟨rfl, rfl⟩ (by kernel_rfl) rfl
    (fun f fn hf hfn => by
      obtain rfl : f = 11 := Option.some.inj ((show Tryz.prog.funcNamed "rulebook/rulebookkeep.Core" = some 11 by kernel_rfl).symm.trans hf) |>.symm
      obtain rfl : fn = Tryz.f11 := (Option.some.inj (Tryz.func11.symm.trans hfn)).symm
      exact ⟨by kernel_rfl, fun j t ht => by
        rw [Tryz.params11] at ht
        have hm : t ∈ [9] := by simpa using Array.mem_of_getElem? ht
        have hall : ([9].all fun u => !Tryz.prog.wantsStandIn u) = true := by kernel_rfl
        exact (show Tryz.prog.wantsStandIn t = false by simpa using List.all_eq_true.1 hall t hm)⟩)
    (by kernel_rfl)
end Go.Proofs.YtmoeoppbmhfbpaaGreatDoor
