import Derived.Test.YtmoeoppbmhfbpaaGreatDoorHRowHyp
import Derived.Test.YtmoeoppbmhfbpaaGreatDoorHDrnJ
import Derived.Test.YtmoeoppbmhfbpaaGreatDoorRows
import Derived.Test.YtmoeoppbmhfbpaaGreatDoorCards
import Derived.Test.YtmoeoppbmhfbpaaGreatDoorTie
import Derived.LaidMore
import Derived.Stop.Joined
import Derived.SevenTiedAt
/- The row and the card of Runs. -/
namespace Go.Proofs.YtmoeoppbmhfbpaaGreatDoor
open Go.ChangeShapes Go.WideShapes Go.ChangeAt Go.WideMaps Go.WideElems Go.RowKit
open Go.Proofs.YtmoeoppbmhfbpaaGreatDoorH (open_script calls_law runs_spec st0)
set_option linter.unusedVariables false

theorem own : ownKnob Tryz.prog.godebug = none := by kernel_rfl
theorem laidOut : laidOutB Tryz.prog = true := by kernel_rfl
theorem door_met (os : Os) (args : Array Value) : laidMetH Tryz.prog laid3 ((World.doorLaid Tryz.prog 400 os).forCall (fun _ _ => 0) ⟨#[], args, []⟩).memory :=
  laidMetH_of_parts3 (fuel := 8) (laidMet_of_run' 8 (by kernel_rfl) (by kernel_rfl)) (by kernel_rfl) (by kernel_rfl)

set_option maxRecDepth 100000 in
theorem runs_lifted (os : Os) (started : os.Started) (H : Type) (enc : TypeId × Value → H) :
    ReturnsInHanded {} Tryz.checked os 5 .any (fun w args => (Rows.runsSpec.pre enc Tryz.prog Tryz.f5 [] false w args ∧ laidMetH Tryz.prog laid3 w) ∧ sizedMet enc Tryz.prog Tryz.f5 (OpenSpec.ofChange Rows.runsSpec) false w args)
      (Rows.runsSpec.post enc Tryz.prog Tryz.f5 false true false false) := by
  refine returnsInHanded_of_change_and (C := Tryz.checked) (X := fun w _ => laidMetH Tryz.prog laid3 w) (fun _ _ _ hh h => h.of_heap hh) own started (by kernel_rfl) Tryz.func5
    (ChangeSpec.witness_shaped (enc := enc) (C := Tryz.checked) (os := os) (X := fun w _ => laidMetH Tryz.prog laid3 w) false (World.doorLaid Tryz.prog 400 os) #[.slice none 0 0] 8 rfl (World.shaped_of_RefB (by kernel_rfl) (by kernel_rfl)) (by kernel_rfl) (by kernel_rfl) (by kernel_rfl) (door_met os _)) ?_
  intro W base args ds gs before hval0 hW _ _ hL _
  have hval : ∀ (j : Nat) t v, Tryz.f5.params[j]? = some t → args[j]? = some v → Value.okWide Tryz.prog W .any base t v := hval0
  have hW' := hW
  obtain ⟨p, q, hA0, hV, rfl, hfz, hnd⟩ := hW
  have hA : DataW.TrodAll enc Tryz.prog W 0 (fun _ => true) true Tryz.f5.params.toList args.toList ds p := hA0
  rw [Tryz.params5] at hA hval
  obtain ⟨v0, vs0, d0, ds0, p0, q0, hargs, rfl, rfl, h0, r0⟩ := trodAll_cons hA
  obtain ⟨rfl, rfl, rfl⟩ := trodAll_nil r0
  obtain rfl : args = #[v0] := by cases args; simp_all
  obtain ⟨rfl, rfl⟩ := trodVars_none hV
  obtain ⟨a0, len0, cap0, rfl⟩ := okWide_slice Tryz.underlying22 (hval 0 22 v0 rfl rfl)
  have k0 := h0
  have lt0 : ∀ x ∈ p0, x.block < W.heap.size := by obtain ⟨m, hm⟩ := k0; exact DataW.trod_lt m _ _ _ hm
  obtain ⟨fuel, hf⟩ := h0
  obtain ⟨l, cs, hE, hl, hvr⟩ := open_script (by simpa [Value.cells] using hf)
  clear hA0 hval0
  refine (calls_law (runs_spec l cs 0 hE hl st0) hvr (hyp_of hL)).mono fun e W' ⟨he, bel⟩ => ?_
  subst he
  exact ⟨_, rfl, _, _, _, [], _, [], hW', trodAll_mk1 (shut_bool Tryz.underlying4 _), (trodAll_cons_mk (Below.trod laidOut (by kernel_rfl) (of_decide_eq_true (by kernel_rfl)) k0 bel lt0) trodAll_mk0), rfl, bel.frame _, fun h => by cases h⟩

theorem andB {a b : Bool} (h : a = true) (k : b = true) : (a && b) = true := by rw [h, k]; rfl
theorem runs_j0 : (Rows.runsRow.wf (OpenSpec.ofChange Rows.runsSpec)) = true := by kernel_rfl
theorem runs_j1 : (laidOutB Tryz.prog) = true := by kernel_rfl
theorem runs_j2 : (mapsRowed Tryz.prog) = true := by kernel_rfl
theorem runs_j3 : (Tryz.f5.params.all (Tryz.prog.readableRec ·)) = true := by kernel_rfl
theorem runs_j4 : (namedTie Tryz.prog Rows.runsRow.named Rows.runsSpec.vars) = true := by kernel_rfl
theorem runs_j5 : ((Rows.runsRow.stops == [])) = true := by kernel_rfl
theorem runs_j6 : ((Tryz.prog.stops == [])) = true := by kernel_rfl
theorem runs_j7 : ((Rows.runsRow.knobs == [])) = true := by kernel_rfl
theorem runs_j8 : ((Tryz.prog.stopKnobs == [])) = true := by kernel_rfl
theorem runs_j9 : ((Rows.runsRow.inPlace == Tryz.prog.inPlace 5)) = true := by kernel_rfl
theorem runs_j10 : ((Rows.runsRow.unfollowed == Tryz.prog.unfollowed 5)) = true := by kernel_rfl
theorem runs_j11 : ((Rows.runsRow.recurses == Tryz.prog.recurses 5)) = true := by kernel_rfl
theorem runs_j12 : ((Rows.runsRow.named == Tryz.prog.varsNamed 5)) = true := by kernel_rfl
theorem runs_j13 : ((Rows.runsRow.maps == (Tryz.f5.params.toList ++ Rows.runsSpec.plain.varTypes Tryz.prog).any (Tryz.prog.mapsRec ·))) = true := by kernel_rfl
theorem runs_j14 : ((Rows.runsRow.ifaces == (Tryz.f5.params.toList ++ Rows.runsSpec.plain.varTypes Tryz.prog).any (Tryz.prog.ifacesRec ·))) = true := by kernel_rfl
theorem runs_j15 : ((Rows.runsRow.mapsOut == Tryz.prog.mapsAmong Tryz.f5.resultTypes.toList)) = true := by kernel_rfl
theorem runs_j16 : ((Rows.runsRow.loops == (Tryz.f5.params.toList ++ Rows.runsSpec.plain.varTypes Tryz.prog).any (Tryz.prog.loopsFrom ·))) = true := by kernel_rfl
theorem runs_j17 : ((Rows.runsRow.wideKeys == (Tryz.f5.params.toList ++ Rows.runsSpec.plain.varTypes Tryz.prog ++ Tryz.f5.resultTypes.toList).any (Tryz.prog.wideKeysFrom ·))) = true := by kernel_rfl
theorem runs_j18 : (Rows.runsSpec.vars.all (Tryz.prog.varReadable ·)) = true := by kernel_rfl
theorem runs_j19 : (Tryz.f5.resultTypes.all (fun t => Tryz.prog.readableRec t && decide (t < Tryz.prog.types.size))) = true := by kernel_rfl
theorem runs_j20 : ((Rows.runsRow.ifacesOut == Tryz.f5.resultTypes.toList.any (Tryz.prog.ifacesRec ·))) = true := by kernel_rfl
theorem runs_j21 : ((Rows.runsRow.loopsOut == Tryz.f5.resultTypes.toList.any (Tryz.prog.loopsFrom ·))) = true := by kernel_rfl
theorem runs_j22 : ((Rows.runsRow.plainKeys == Tryz.prog.plainKeys)) = true := by kernel_rfl
theorem runs_j23 : (Rows.runsRow.shortTexts.isNone) = true := by kernel_rfl
theorem runs_j24 : (Tryz.prog.stopsHeard) = true := by kernel_rfl
theorem runs_j25 : (Tryz.prog.mayEnter) = true := by kernel_rfl
theorem runs_j26 : ((Rows.runsRow.lifted == Tryz.prog.liftsFinal)) = true := by kernel_rfl
theorem runs_j27 : ((Tryz.prog.make == some Rows.runsRow.make)) = true := by kernel_rfl
theorem runs_j28 : ((Rows.runsRow.kinds == (if Rows.runsRow.domain.isEmpty then [] else Tryz.f5.params.toList.map fun t => match Tryz.prog.underlying t with | some (.int k) => some k | _ => none))) = true := by kernel_rfl
theorem runs_j29 : ((Rows.runsRow.pinned == Rows.runsRow.pinnedBy)) = true := by kernel_rfl
theorem runs_j30 : ((Rows.runsRow.veiled == (Tryz.f5.params.toList ++ Rows.runsSpec.plain.varTypes Tryz.prog ++ Tryz.f5.resultTypes.toList).any (Tryz.prog.veiledRec ·))) = true := by kernel_rfl
theorem runs_j31 : (Rows.runsRow.veiledFits Tryz.prog Tryz.f5.params.toList (Tryz.f5.params.toList ++ Rows.runsSpec.plain.varTypes Tryz.prog ++ Tryz.f5.resultTypes.toList)) = true := by kernel_rfl
set_option maxRecDepth 100000 in
theorem runs_closed : joinedFacts Tryz.prog 5 Tryz.f5 Rows.runsSpec Rows.runsRow = true := by
  unfold joinedFacts
  exact (andB (andB (andB (andB (andB (andB (andB (andB (andB (andB (andB (andB (andB (andB (andB (andB (andB (andB (andB (andB (andB (andB (andB (andB (andB (andB (andB (andB (andB (andB (andB runs_j0 runs_j1) runs_j2) runs_j3) runs_j4) runs_j5) runs_j6) runs_j7) runs_j8) runs_j9) runs_j10) runs_j11) runs_j12) runs_j13) runs_j14) runs_j15) runs_j16) runs_j17) runs_j18) runs_j19) runs_j20) runs_j21) runs_j22) runs_j23) runs_j24) runs_j25) runs_j26) runs_j27) runs_j28) runs_j29) runs_j30) runs_j31)
theorem runs_row : Rows.RunsSaid :=
  OpenClaim.holds_of_wide 5 Tryz.f5 rfl rfl rfl rfl rfl rfl rfl ⟨rfl, rfl, rfl, rfl, rfl⟩ rfl rfl rfl rfl rfl (by kernel_rfl) Tryz.func5 runs_closed
    (of_decide_eq_true (by kernel_rfl)) (by unfold Func.isWrapper; first | (rw [if_pos (by decide +kernel)]; kernel_rfl) | (rw [if_neg (by decide +kernel)]; exact ⟨rfl, rfl⟩))
    (fun os started H enc _ => runs_lifted os started H enc)

theorem runs_card : Rows.RunsCardSaid :=
  Claim7.holds_tied_plain_at .later [] [.data, .data, .data] true (true, "c113fd8fa8dcdeb44cfe1f41cff3f08955f07751af47e4ecdc05dfca0cf1060e") false
    runs_row (fun _ h => by cases h) (by kernel_rfl) (fun _ h => by cases h) runs_row_tie rfl ⟨rfl, rfl⟩ (by kernel_rfl) rfl
    (fun f fn hf hfn => by
      obtain rfl : f = 5 := Option.some.inj ((show Tryz.prog.funcNamed "rulebook/rulebooklaw.Runs" = some 5 by kernel_rfl).symm.trans hf) |>.symm
      obtain rfl : fn = Tryz.f5 := (Option.some.inj (Tryz.func5.symm.trans hfn)).symm
      exact ⟨by kernel_rfl, fun j t ht => by
        rw [Tryz.params5] at ht
        have hm : t ∈ [22] := by simpa using Array.mem_of_getElem? ht
        have hall : ([22].all fun u => !Tryz.prog.wantsStandIn u) = true := by kernel_rfl
        exact (show Tryz.prog.wantsStandIn t = false by simpa using List.all_eq_true.1 hall t hm)⟩)
    (by kernel_rfl)
end Go.Proofs.YtmoeoppbmhfbpaaGreatDoor
