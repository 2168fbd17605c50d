import Derived.Test.YtmoeoppbmhfbpaaGreatDoorYRowHyp
import Derived.Test.YtmoeoppbmhfbpaaGreatDoorYAgrA
import Derived.Test.YtmoeoppbmhfbpaaGreatDoorRows
import Derived.Test.YtmoeoppbmhfbpaaGreatDoorCards
import Derived.Test.YtmoeoppbmhfbpaaGreatDoorTie
import Derived.LaidMore
import Derived.Stop.Joined
import Derived.SevenTiedAt
/- The row and the card of Implieds. -/
namespace Go.Proofs.YtmoeoppbmhfbpaaGreatDoor
open Go.ChangeShapes Go.WideShapes Go.ChangeAt Go.WideMaps Go.WideElems Go.RowKit
open Go.Proofs.YtmoeoppbmhfbpaaGreatDoorY (open_script calls_law implieds_spec st0)
set_option linter.unusedVariables false

theorem own : ownKnob Tryz.prog.godebug = none := by kernel_rfl
theorem laidOut : laidOutB Tryz.prog = true := by kernel_rfl
theorem door_met (os : Os) (args : Array Value) : laidMetH Tryz.prog laid3 ((World.doorLaid Tryz.prog 400 os).forCall (fun _ _ => 0) ⟨#[], args, []⟩).memory :=
  laidMetH_of_parts3 (fuel := 8) (laidMet_of_run' 8 (by kernel_rfl) (by kernel_rfl)) (by kernel_rfl) (by kernel_rfl)

set_option maxRecDepth 100000 in
theorem implieds_lifted (os : Os) (started : os.Started) (H : Type) (enc : TypeId × Value → H) :
    ReturnsInHanded {} Tryz.checked os 9 .any (fun w args => (Rows.impliedsSpec.pre enc Tryz.prog Tryz.f9 [] false w args ∧ laidMetH Tryz.prog laid3 w) ∧ sizedMet enc Tryz.prog Tryz.f9 (OpenSpec.ofChange Rows.impliedsSpec) false w args)
      (Rows.impliedsSpec.post enc Tryz.prog Tryz.f9 false true false false) := by
  refine returnsInHanded_of_change_and (C := Tryz.checked) (X := fun w _ => laidMetH Tryz.prog laid3 w) (fun _ _ _ hh h => h.of_heap hh) own started (by kernel_rfl) Tryz.func9
    (ChangeSpec.witness_shaped (enc := enc) (C := Tryz.checked) (os := os) (X := fun w _ => laidMetH Tryz.prog laid3 w) false (World.doorLaid Tryz.prog 400 os) #[.slice none 0 0] 8 rfl (World.shaped_of_RefB (by kernel_rfl) (by kernel_rfl)) (by kernel_rfl) (by kernel_rfl) (by kernel_rfl) (door_met os _)) ?_
  intro W base args ds gs before hval0 hW _ _ hL _
  have hval : ∀ (j : Nat) t v, Tryz.f9.params[j]? = some t → args[j]? = some v → Value.okWide Tryz.prog W .any base t v := hval0
  have hW' := hW
  obtain ⟨p, q, hA0, hV, rfl, hfz, hnd⟩ := hW
  have hA : DataW.TrodAll enc Tryz.prog W 0 (fun _ => true) true Tryz.f9.params.toList args.toList ds p := hA0
  rw [Tryz.params9] at hA hval
  obtain ⟨v0, vs0, d0, ds0, p0, q0, hargs, rfl, rfl, h0, r0⟩ := trodAll_cons hA
  obtain ⟨rfl, rfl, rfl⟩ := trodAll_nil r0
  obtain rfl : args = #[v0] := by cases args; simp_all
  obtain ⟨rfl, rfl⟩ := trodVars_none hV
  obtain ⟨a0, len0, cap0, rfl⟩ := okWide_slice Tryz.underlying22 (hval 0 22 v0 rfl rfl)
  have k0 := h0
  have lt0 : ∀ x ∈ p0, x.block < W.heap.size := by obtain ⟨m, hm⟩ := k0; exact DataW.trod_lt m _ _ _ hm
  obtain ⟨fuel, hf⟩ := h0
  obtain ⟨l, cs, hE, hl, hvr⟩ := open_script (by simpa [Value.cells] using hf)
  clear hA0 hval0
  refine (calls_law (implieds_spec l cs 0 hE hl st0) hvr (hyp_of hL)).mono fun e W' ⟨he, bel⟩ => ?_
  subst he
  exact ⟨_, rfl, _, _, _, [], _, [], hW', trodAll_mk1 (shut_bool Tryz.underlying4 _), (trodAll_cons_mk (Below.trod laidOut (by kernel_rfl) (of_decide_eq_true (by kernel_rfl)) k0 bel lt0) trodAll_mk0), rfl, bel.frame _, fun h => by cases h⟩

theorem andB {a b : Bool} (h : a = true) (k : b = true) : (a && b) = true := by rw [h, k]; rfl
theorem implieds_j0 : (Rows.impliedsRow.wf (OpenSpec.ofChange Rows.impliedsSpec)) = true := by kernel_rfl
theorem implieds_j1 : (laidOutB Tryz.prog) = true := by kernel_rfl
theorem implieds_j2 : (mapsRowed Tryz.prog) = true := by kernel_rfl
theorem implieds_j3 : (Tryz.f9.params.all (Tryz.prog.readableRec ·)) = true := by kernel_rfl
theorem implieds_j4 : (namedTie Tryz.prog Rows.impliedsRow.named Rows.impliedsSpec.vars) = true := by kernel_rfl
theorem implieds_j5 : ((Rows.impliedsRow.stops == [])) = true := by kernel_rfl
theorem implieds_j6 : ((Tryz.prog.stops == [])) = true := by kernel_rfl
theorem implieds_j7 : ((Rows.impliedsRow.knobs == [])) = true := by kernel_rfl
theorem implieds_j8 : ((Tryz.prog.stopKnobs == [])) = true := by kernel_rfl
theorem implieds_j9 : ((Rows.impliedsRow.inPlace == Tryz.prog.inPlace 9)) = true := by kernel_rfl
theorem implieds_j10 : ((Rows.impliedsRow.unfollowed == Tryz.prog.unfollowed 9)) = true := by kernel_rfl
theorem implieds_j11 : ((Rows.impliedsRow.recurses == Tryz.prog.recurses 9)) = true := by kernel_rfl
theorem implieds_j12 : ((Rows.impliedsRow.named == Tryz.prog.varsNamed 9)) = true := by kernel_rfl
theorem implieds_j13 : ((Rows.impliedsRow.maps == (Tryz.f9.params.toList ++ Rows.impliedsSpec.plain.varTypes Tryz.prog).any (Tryz.prog.mapsRec ·))) = true := by kernel_rfl
theorem implieds_j14 : ((Rows.impliedsRow.ifaces == (Tryz.f9.params.toList ++ Rows.impliedsSpec.plain.varTypes Tryz.prog).any (Tryz.prog.ifacesRec ·))) = true := by kernel_rfl
theorem implieds_j15 : ((Rows.impliedsRow.mapsOut == Tryz.prog.mapsAmong Tryz.f9.resultTypes.toList)) = true := by kernel_rfl
theorem implieds_j16 : ((Rows.impliedsRow.loops == (Tryz.f9.params.toList ++ Rows.impliedsSpec.plain.varTypes Tryz.prog).any (Tryz.prog.loopsFrom ·))) = true := by kernel_rfl
theorem implieds_j17 : ((Rows.impliedsRow.wideKeys == (Tryz.f9.params.toList ++ Rows.impliedsSpec.plain.varTypes Tryz.prog ++ Tryz.f9.resultTypes.toList).any (Tryz.prog.wideKeysFrom ·))) = true := by kernel_rfl
theorem implieds_j18 : (Rows.impliedsSpec.vars.all (Tryz.prog.varReadable ·)) = true := by kernel_rfl
theorem implieds_j19 : (Tryz.f9.resultTypes.all (fun t => Tryz.prog.readableRec t && decide (t < Tryz.prog.types.size))) = true := by kernel_rfl
theorem implieds_j20 : ((Rows.impliedsRow.ifacesOut == Tryz.f9.resultTypes.toList.any (Tryz.prog.ifacesRec ·))) = true := by kernel_rfl
theorem implieds_j21 : ((Rows.impliedsRow.loopsOut == Tryz.f9.resultTypes.toList.any (Tryz.prog.loopsFrom ·))) = true := by kernel_rfl
theorem implieds_j22 : ((Rows.impliedsRow.plainKeys == Tryz.prog.plainKeys)) = true := by kernel_rfl
theorem implieds_j23 : (Rows.impliedsRow.shortTexts.isNone) = true := by kernel_rfl
theorem implieds_j24 : (Tryz.prog.stopsHeard) = true := by kernel_rfl
theorem implieds_j25 : (Tryz.prog.mayEnter) = true := by kernel_rfl
theorem implieds_j26 : ((Rows.impliedsRow.lifted == Tryz.prog.liftsFinal)) = true := by kernel_rfl
theorem implieds_j27 : ((Tryz.prog.make == some Rows.impliedsRow.make)) = true := by kernel_rfl
theorem implieds_j28 : ((Rows.impliedsRow.kinds == (if Rows.impliedsRow.domain.isEmpty then [] else Tryz.f9.params.toList.map fun t => match Tryz.prog.underlying t with | some (.int k) => some k | _ => none))) = true := by kernel_rfl
theorem implieds_j29 : ((Rows.impliedsRow.pinned == Rows.impliedsRow.pinnedBy)) = true := by kernel_rfl
theorem implieds_j30 : ((Rows.impliedsRow.veiled == (Tryz.f9.params.toList ++ Rows.impliedsSpec.plain.varTypes Tryz.prog ++ Tryz.f9.resultTypes.toList).any (Tryz.prog.veiledRec ·))) = true := by kernel_rfl
theorem implieds_j31 : (Rows.impliedsRow.veiledFits Tryz.prog Tryz.f9.params.toList (Tryz.f9.params.toList ++ Rows.impliedsSpec.plain.varTypes Tryz.prog ++ Tryz.f9.resultTypes.toList)) = true := by kernel_rfl
set_option maxRecDepth 100000 in
theorem implieds_closed : joinedFacts Tryz.prog 9 Tryz.f9 Rows.impliedsSpec Rows.impliedsRow = true := by
  unfold joinedFacts
  exact (andB (andB (andB (andB (andB (andB (andB (andB (andB (andB (andB (andB (andB (andB (andB (andB (andB (andB (andB (andB (andB (andB (andB (andB (andB (andB (andB (andB (andB (andB (andB implieds_j0 implieds_j1) implieds_j2) implieds_j3) implieds_j4) implieds_j5) implieds_j6) implieds_j7) implieds_j8) implieds_j9) implieds_j10) implieds_j11) implieds_j12) implieds_j13) implieds_j14) implieds_j15) implieds_j16) implieds_j17) implieds_j18) implieds_j19) implieds_j20) implieds_j21) implieds_j22) implieds_j23) implieds_j24) implieds_j25) implieds_j26) implieds_j27) implieds_j28) implieds_j29) implieds_j30) implieds_j31)
theorem implieds_row : Rows.ImpliedsSaid :=
  OpenClaim.holds_of_wide 9 Tryz.f9 rfl rfl rfl rfl rfl rfl rfl ⟨rfl, rfl, rfl, rfl, rfl⟩ rfl rfl rfl rfl rfl (by kernel_rfl) Tryz.func9 implieds_closed
    (of_decide_eq_true (by kernel_rfl)) (by unfold Func.isWrapper; first | (rw [if_pos (by decide +kernel)]; kernel_rfl) | (rw [if_neg (by decide +kernel)]; exact ⟨rfl, rfl⟩))
    (fun os started H enc _ => implieds_lifted os started H enc)

theorem implieds_card : Rows.ImpliedsCardSaid :=
  Claim7.holds_tied_plain_at .later [] [.data, .data, .data] true (true, "c113fd8fa8dcdeb44cfe1f41cff3f08955f07751af47e4ecdc05dfca0cf1060e") false
    implieds_row (fun _ h => by cases h) (by kernel_rfl) (fun _ h => by cases h) implieds_row_tie rfl ⟨rfl, rfl⟩ (by kernel_rfl) rfl
    (fun f fn hf hfn => by
      obtain rfl : f = 9 := Option.some.inj ((show Tryz.prog.funcNamed "rulebook/rulebooklaw.Implieds" = some 9 by kernel_rfl).symm.trans hf) |>.symm
      obtain rfl : fn = Tryz.f9 := (Option.some.inj (Tryz.func9.symm.trans hfn)).symm
      exact ⟨by kernel_rfl, fun j t ht => by
        rw [Tryz.params9] at ht
        have hm : t ∈ [22] := by simpa using Array.mem_of_getElem? ht
        have hall : ([22].all fun u => !Tryz.prog.wantsStandIn u) = true := by kernel_rfl
        exact (show Tryz.prog.wantsStandIn t = false by simpa using List.all_eq_true.1 hall t hm)⟩)
    (by kernel_rfl)
end Go.Proofs.YtmoeoppbmhfbpaaGreatDoor
