import Derived.Test.YtmoeoppbmhfbpaaGreatDoorYRowHyp
import Derived.Test.YtmoeoppbmhfbpaaGreatDoorYLawB
import Derived.Test.YtmoeoppbmhfbpaaGreatDoorRows
import Derived.Test.YtmoeoppbmhfbpaaGreatDoorCards
import Derived.Test.YtmoeoppbmhfbpaaGreatDoorTie
import Derived.LaidMore
import Derived.Stop.Joined
import Derived.SevenTiedAt
/- The row and the card of Prints. -/
namespace Go.Proofs.YtmoeoppbmhfbpaaGreatDoor
open Go.ChangeShapes Go.WideShapes Go.ChangeAt Go.WideMaps Go.WideElems Go.RowKit
open Go.Proofs.YtmoeoppbmhfbpaaGreatDoorY (open_script calls_law prints_spec st0)
set_option linter.unusedVariables false

theorem own : ownKnob Tryz.prog.godebug = none := by kernel_rfl
theorem laidOut : laidOutB Tryz.prog = true := by kernel_rfl
theorem door_met (os : Os) (args : Array Value) : laidMetH Tryz.prog laid3 ((World.doorLaid Tryz.prog 400 os).forCall (fun _ _ => 0) ⟨#[], args, []⟩).memory :=
  laidMetH_of_parts3 (fuel := 8) (laidMet_of_run' 8 (by kernel_rfl) (by kernel_rfl)) (by kernel_rfl) (by kernel_rfl)

set_option maxRecDepth 100000 in
theorem prints_lifted (os : Os) (started : os.Started) (H : Type) (enc : TypeId × Value → H) :
    ReturnsInHanded {} Tryz.checked os 4 .any (fun w args => (Rows.printsSpec.pre enc Tryz.prog Tryz.f4 [] false w args ∧ laidMetH Tryz.prog laid3 w) ∧ sizedMet enc Tryz.prog Tryz.f4 (OpenSpec.ofChange Rows.printsSpec) false w args)
      (Rows.printsSpec.post enc Tryz.prog Tryz.f4 false true false false) := by
  refine returnsInHanded_of_change_and (C := Tryz.checked) (X := fun w _ => laidMetH Tryz.prog laid3 w) (fun _ _ _ hh h => h.of_heap hh) own started (by kernel_rfl) Tryz.func4
    (ChangeSpec.witness_shaped (enc := enc) (C := Tryz.checked) (os := os) (X := fun w _ => laidMetH Tryz.prog laid3 w) false (World.doorLaid Tryz.prog 400 os) #[.slice none 0 0] 8 rfl (World.shaped_of_RefB (by kernel_rfl) (by kernel_rfl)) (by kernel_rfl) (by kernel_rfl) (by kernel_rfl) (door_met os _)) ?_
  intro W base args ds gs before hval0 hW _ _ hL _
  have hval : ∀ (j : Nat) t v, Tryz.f4.params[j]? = some t → args[j]? = some v → Value.okWide Tryz.prog W .any base t v := hval0
  have hW' := hW
  obtain ⟨p, q, hA0, hV, rfl, hfz, hnd⟩ := hW
  have hA : DataW.TrodAll enc Tryz.prog W 0 (fun _ => true) true Tryz.f4.params.toList args.toList ds p := hA0
  rw [Tryz.params4] at hA hval
  obtain ⟨v0, vs0, d0, ds0, p0, q0, hargs, rfl, rfl, h0, r0⟩ := trodAll_cons hA
  obtain ⟨rfl, rfl, rfl⟩ := trodAll_nil r0
  obtain rfl : args = #[v0] := by cases args; simp_all
  obtain ⟨rfl, rfl⟩ := trodVars_none hV
  obtain ⟨a0, len0, cap0, rfl⟩ := okWide_slice Tryz.underlying22 (hval 0 22 v0 rfl rfl)
  have k0 := h0
  have lt0 : ∀ x ∈ p0, x.block < W.heap.size := by obtain ⟨m, hm⟩ := k0; exact DataW.trod_lt m _ _ _ hm
  obtain ⟨fuel, hf⟩ := h0
  obtain ⟨l, cs, hE, hl, hvr⟩ := open_script (by simpa [Value.cells] using hf)
  clear hA0 hval0
  refine (calls_law (prints_spec l cs 0 hE hl st0) hvr (hyp_of hL)).mono fun e W' ⟨he, bel⟩ => ?_
  subst he
  exact ⟨_, rfl, _, _, _, [], _, [], hW', trodAll_mk1 (shut_bool Tryz.underlying4 _), (trodAll_cons_mk (Below.trod laidOut (by kernel_rfl) (of_decide_eq_true (by kernel_rfl)) k0 bel lt0) trodAll_mk0), rfl, bel.frame _, fun h => by cases h⟩

theorem andB {a b : Bool} (h : a = true) (k : b = true) : (a && b) = true := by rw [h, k]; rfl
theorem prints_j0 : (Rows.printsRow.wf (OpenSpec.ofChange Rows.printsSpec)) = true := by kernel_rfl
theorem prints_j1 : (laidOutB Tryz.prog) = true := by kernel_rfl
theorem prints_j2 : (mapsRowed Tryz.prog) = true := by kernel_rfl
theorem prints_j3 : (Tryz.f4.params.all (Tryz.prog.readableRec ·)) = true := by kernel_rfl
theorem prints_j4 : (namedTie Tryz.prog Rows.printsRow.named Rows.printsSpec.vars) = true := by kernel_rfl
theorem prints_j5 : ((Rows.printsRow.stops == [])) = true := by kernel_rfl
theorem prints_j6 : ((Tryz.prog.stops == [])) = true := by kernel_rfl
theorem prints_j7 : ((Rows.printsRow.knobs == [])) = true := by kernel_rfl
theorem prints_j8 : ((Tryz.prog.stopKnobs == [])) = true := by kernel_rfl
theorem prints_j9 : ((Rows.printsRow.inPlace == Tryz.prog.inPlace 4)) = true := by kernel_rfl
theorem prints_j10 : ((Rows.printsRow.unfollowed == Tryz.prog.unfollowed 4)) = true := by kernel_rfl
theorem prints_j11 : ((Rows.printsRow.recurses == Tryz.prog.recurses 4)) = true := by kernel_rfl
theorem prints_j12 : ((Rows.printsRow.named == Tryz.prog.varsNamed 4)) = true := by kernel_rfl
theorem prints_j13 : ((Rows.printsRow.maps == (Tryz.f4.params.toList ++ Rows.printsSpec.plain.varTypes Tryz.prog).any (Tryz.prog.mapsRec ·))) = true := by kernel_rfl
theorem prints_j14 : ((Rows.printsRow.ifaces == (Tryz.f4.params.toList ++ Rows.printsSpec.plain.varTypes Tryz.prog).any (Tryz.prog.ifacesRec ·))) = true := by kernel_rfl
theorem prints_j15 : ((Rows.printsRow.mapsOut == Tryz.prog.mapsAmong Tryz.f4.resultTypes.toList)) = true := by kernel_rfl
theorem prints_j16 : ((Rows.printsRow.loops == (Tryz.f4.params.toList ++ Rows.printsSpec.plain.varTypes Tryz.prog).any (Tryz.prog.loopsFrom ·))) = true := by kernel_rfl
theorem prints_j17 : ((Rows.printsRow.wideKeys == (Tryz.f4.params.toList ++ Rows.printsSpec.plain.varTypes Tryz.prog ++ Tryz.f4.resultTypes.toList).any (Tryz.prog.wideKeysFrom ·))) = true := by kernel_rfl
theorem prints_j18 : (Rows.printsSpec.vars.all (Tryz.prog.varReadable ·)) = true := by kernel_rfl
theorem prints_j19 : (Tryz.f4.resultTypes.all (fun t => Tryz.prog.readableRec t && decide (t < Tryz.prog.types.size))) = true := by kernel_rfl
theorem prints_j20 : ((Rows.printsRow.ifacesOut == Tryz.f4.resultTypes.toList.any (Tryz.prog.ifacesRec ·))) = true := by kernel_rfl
theorem prints_j21 : ((Rows.printsRow.loopsOut == Tryz.f4.resultTypes.toList.any (Tryz.prog.loopsFrom ·))) = true := by kernel_rfl
theorem prints_j22 : ((Rows.printsRow.plainKeys == Tryz.prog.plainKeys)) = true := by kernel_rfl
theorem prints_j23 : (Rows.printsRow.shortTexts.isNone) = true := by kernel_rfl
theorem prints_j24 : (Tryz.prog.stopsHeard) = true := by kernel_rfl
theorem prints_j25 : (Tryz.prog.mayEnter) = true := by kernel_rfl
theorem prints_j26 : ((Rows.printsRow.lifted == Tryz.prog.liftsFinal)) = true := by kernel_rfl
theorem prints_j27 : ((Tryz.prog.make == some Rows.printsRow.make)) = true := by kernel_rfl
theorem prints_j28 : ((Rows.printsRow.kinds == (if Rows.printsRow.domain.isEmpty then [] else Tryz.f4.params.toList.map fun t => match Tryz.prog.underlying t with | some (.int k) => some k | _ => none))) = true := by kernel_rfl
theorem prints_j29 : ((Rows.printsRow.pinned == Rows.printsRow.pinnedBy)) = true := by kernel_rfl
theorem prints_j30 : ((Rows.printsRow.veiled == (Tryz.f4.params.toList ++ Rows.printsSpec.plain.varTypes Tryz.prog ++ Tryz.f4.resultTypes.toList).any (Tryz.prog.veiledRec ·))) = true := by kernel_rfl
theorem prints_j31 : (Rows.printsRow.veiledFits Tryz.prog Tryz.f4.params.toList (Tryz.f4.params.toList ++ Rows.printsSpec.plain.varTypes Tryz.prog ++ Tryz.f4.resultTypes.toList)) = true := by kernel_rfl
set_option maxRecDepth 100000 in
theorem prints_closed : joinedFacts Tryz.prog 4 Tryz.f4 Rows.printsSpec Rows.printsRow = true := by
  unfold joinedFacts
  exact (andB (andB (andB (andB (andB (andB (andB (andB (andB (andB (andB (andB (andB (andB (andB (andB (andB (andB (andB (andB (andB (andB (andB (andB (andB (andB (andB (andB (andB (andB (andB prints_j0 prints_j1) prints_j2) prints_j3) prints_j4) prints_j5) prints_j6) prints_j7) prints_j8) prints_j9) prints_j10) prints_j11) prints_j12) prints_j13) prints_j14) prints_j15) prints_j16) prints_j17) prints_j18) prints_j19) prints_j20) prints_j21) prints_j22) prints_j23) prints_j24) prints_j25) prints_j26) prints_j27) prints_j28) prints_j29) prints_j30) prints_j31)
theorem prints_row : Rows.PrintsSaid :=
  OpenClaim.holds_of_wide 4 Tryz.f4 rfl rfl rfl rfl rfl rfl rfl ⟨rfl, rfl, rfl, rfl, rfl⟩ rfl rfl rfl rfl rfl (by kernel_rfl) Tryz.func4 prints_closed
    (of_decide_eq_true (by kernel_rfl)) (by unfold Func.isWrapper; first | (rw [if_pos (by decide +kernel)]; kernel_rfl) | (rw [if_neg (by decide +kernel)]; exact ⟨rfl, rfl⟩))
    (fun os started H enc _ => prints_lifted os started H enc)

theorem prints_card : Rows.PrintsCardSaid :=
  Claim7.holds_tied_plain_at .later [] [.data, .data, .data] true (true, "c113fd8fa8dcdeb44cfe1f41cff3f08955f07751af47e4ecdc05dfca0cf1060e") false
    prints_row (fun _ h => by cases h) (by kernel_rfl) (fun _ h => by cases h) prints_row_tie rfl ⟨rfl, rfl⟩ (by kernel_rfl) rfl
    (fun f fn hf hfn => by
      obtain rfl : f = 4 := Option.some.inj ((show Tryz.prog.funcNamed "rulebook/rulebooklaw.Prints" = some 4 by kernel_rfl).symm.trans hf) |>.symm
      obtain rfl : fn = Tryz.f4 := (Option.some.inj (Tryz.func4.symm.trans hfn)).symm
      exact ⟨by kernel_rfl, fun j t ht => by
        rw [Tryz.params4] at ht
        have hm : t ∈ [22] := by simpa using Array.mem_of_getElem? ht
        have hall : ([22].all fun u => !Tryz.prog.wantsStandIn u) = true := by kernel_rfl
        exact (show Tryz.prog.wantsStandIn t = false by simpa using List.all_eq_true.1 hall t hm)⟩)
    (by kernel_rfl)
end Go.Proofs.YtmoeoppbmhfbpaaGreatDoor
