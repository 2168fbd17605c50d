import Derived.Test.YtmoeoppbmhfbpaaGreatDoorYRowHyp
import Derived.Test.YtmoeoppbmhfbpaaGreatDoorYRspH
import Derived.Test.YtmoeoppbmhfbpaaGreatDoorRows
import Derived.Test.YtmoeoppbmhfbpaaGreatDoorCards
import Derived.Test.YtmoeoppbmhfbpaaGreatDoorTie
import Derived.LaidMore
import Derived.Stop.Joined
import Derived.SevenTiedAt
/- The row and the card of Spares. -/
namespace Go.Proofs.YtmoeoppbmhfbpaaGreatDoor
open Go.ChangeShapes Go.WideShapes Go.ChangeAt Go.WideMaps Go.WideElems Go.RowKit
open Go.Proofs.YtmoeoppbmhfbpaaGreatDoorY (open_script calls_law spares_spec st0)
set_option linter.unusedVariables false

theorem own : ownKnob Tryz.prog.godebug = none := by kernel_rfl
theorem laidOut : laidOutB Tryz.prog = true := by kernel_rfl
theorem door_met (os : Os) (args : Array Value) : laidMetH Tryz.prog laid3 ((World.doorLaid Tryz.prog 400 os).forCall (fun _ _ => 0) ⟨#[], args, []⟩).memory :=
  laidMetH_of_parts3 (fuel := 8) (laidMet_of_run' 8 (by kernel_rfl) (by kernel_rfl)) (by kernel_rfl) (by kernel_rfl)

set_option maxRecDepth 100000 in
theorem spares_lifted (os : Os) (started : os.Started) (H : Type) (enc : TypeId × Value → H) :
    ReturnsInHanded {} Tryz.checked os 8 .any (fun w args => (Rows.sparesSpec.pre enc Tryz.prog Tryz.f8 [] false w args ∧ laidMetH Tryz.prog laid3 w) ∧ sizedMet enc Tryz.prog Tryz.f8 (OpenSpec.ofChange Rows.sparesSpec) false w args)
      (Rows.sparesSpec.post enc Tryz.prog Tryz.f8 false true false false) := by
  refine returnsInHanded_of_change_and (C := Tryz.checked) (X := fun w _ => laidMetH Tryz.prog laid3 w) (fun _ _ _ hh h => h.of_heap hh) own started (by kernel_rfl) Tryz.func8
    (ChangeSpec.witness_shaped (enc := enc) (C := Tryz.checked) (os := os) (X := fun w _ => laidMetH Tryz.prog laid3 w) false (World.doorLaid Tryz.prog 400 os) #[.slice none 0 0] 8 rfl (World.shaped_of_RefB (by kernel_rfl) (by kernel_rfl)) (by kernel_rfl) (by kernel_rfl) (by kernel_rfl) (door_met os _)) ?_
  intro W base args ds gs before hval0 hW _ _ hL _
  have hval : ∀ (j : Nat) t v, Tryz.f8.params[j]? = some t → args[j]? = some v → Value.okWide Tryz.prog W .any base t v := hval0
  have hW' := hW
  obtain ⟨p, q, hA0, hV, rfl, hfz, hnd⟩ := hW
  have hA : DataW.TrodAll enc Tryz.prog W 0 (fun _ => true) true Tryz.f8.params.toList args.toList ds p := hA0
  rw [Tryz.params8] at hA hval
  obtain ⟨v0, vs0, d0, ds0, p0, q0, hargs, rfl, rfl, h0, r0⟩ := trodAll_cons hA
  obtain ⟨rfl, rfl, rfl⟩ := trodAll_nil r0
  obtain rfl : args = #[v0] := by cases args; simp_all
  obtain ⟨rfl, rfl⟩ := trodVars_none hV
  obtain ⟨a0, len0, cap0, rfl⟩ := okWide_slice Tryz.underlying22 (hval 0 22 v0 rfl rfl)
  have k0 := h0
  have lt0 : ∀ x ∈ p0, x.block < W.heap.size := by obtain ⟨m, hm⟩ := k0; exact DataW.trod_lt m _ _ _ hm
  obtain ⟨fuel, hf⟩ := h0
  obtain ⟨l, cs, hE, hl, hvr⟩ := open_script (by simpa [Value.cells] using hf)
  clear hA0 hval0
  refine (calls_law (spares_spec l cs 0 hE hl st0) hvr (hyp_of hL)).mono fun e W' ⟨he, bel⟩ => ?_
  subst he
  exact ⟨_, rfl, _, _, _, [], _, [], hW', trodAll_mk1 (shut_bool Tryz.underlying4 _), (trodAll_cons_mk (Below.trod laidOut (by kernel_rfl) (of_decide_eq_true (by kernel_rfl)) k0 bel lt0) trodAll_mk0), rfl, bel.frame _, fun h => by cases h⟩

theorem andB {a b : Bool} (h : a = true) (k : b = true) : (a && b) = true := by rw [h, k]; rfl
theorem spares_j0 : (Rows.sparesRow.wf (OpenSpec.ofChange Rows.sparesSpec)) = true := by kernel_rfl
theorem spares_j1 : (laidOutB Tryz.prog) = true := by kernel_rfl
theorem spares_j2 : (mapsRowed Tryz.prog) = true := by kernel_rfl
theorem spares_j3 : (Tryz.f8.params.all (Tryz.prog.readableRec ·)) = true := by kernel_rfl
theorem spares_j4 : (namedTie Tryz.prog Rows.sparesRow.named Rows.sparesSpec.vars) = true := by kernel_rfl
theorem spares_j5 : ((Rows.sparesRow.stops == [])) = true := by kernel_rfl
theorem spares_j6 : ((Tryz.prog.stops == [])) = true := by kernel_rfl
theorem spares_j7 : ((Rows.sparesRow.knobs == [])) = true := by kernel_rfl
theorem spares_j8 : ((Tryz.prog.stopKnobs == [])) = true := by kernel_rfl
theorem spares_j9 : ((Rows.sparesRow.inPlace == Tryz.prog.inPlace 8)) = true := by kernel_rfl
theorem spares_j10 : ((Rows.sparesRow.unfollowed == Tryz.prog.unfollowed 8)) = true := by kernel_rfl
theorem spares_j11 : ((Rows.sparesRow.recurses == Tryz.prog.recurses 8)) = true := by kernel_rfl
theorem spares_j12 : ((Rows.sparesRow.named == Tryz.prog.varsNamed 8)) = true := by kernel_rfl
theorem spares_j13 : ((Rows.sparesRow.maps == (Tryz.f8.params.toList ++ Rows.sparesSpec.plain.varTypes Tryz.prog).any (Tryz.prog.mapsRec ·))) = true := by kernel_rfl
theorem spares_j14 : ((Rows.sparesRow.ifaces == (Tryz.f8.params.toList ++ Rows.sparesSpec.plain.varTypes Tryz.prog).any (Tryz.prog.ifacesRec ·))) = true := by kernel_rfl
theorem spares_j15 : ((Rows.sparesRow.mapsOut == Tryz.prog.mapsAmong Tryz.f8.resultTypes.toList)) = true := by kernel_rfl
theorem spares_j16 : ((Rows.sparesRow.loops == (Tryz.f8.params.toList ++ Rows.sparesSpec.plain.varTypes Tryz.prog).any (Tryz.prog.loopsFrom ·))) = true := by kernel_rfl
theorem spares_j17 : ((Rows.sparesRow.wideKeys == (Tryz.f8.params.toList ++ Rows.sparesSpec.plain.varTypes Tryz.prog ++ Tryz.f8.resultTypes.toList).any (Tryz.prog.wideKeysFrom ·))) = true := by kernel_rfl
theorem spares_j18 : (Rows.sparesSpec.vars.all (Tryz.prog.varReadable ·)) = true := by kernel_rfl
theorem spares_j19 : (Tryz.f8.resultTypes.all (fun t => Tryz.prog.readableRec t && decide (t < Tryz.prog.types.size))) = true := by kernel_rfl
theorem spares_j20 : ((Rows.sparesRow.ifacesOut == Tryz.f8.resultTypes.toList.any (Tryz.prog.ifacesRec ·))) = true := by kernel_rfl
theorem spares_j21 : ((Rows.sparesRow.loopsOut == Tryz.f8.resultTypes.toList.any (Tryz.prog.loopsFrom ·))) = true := by kernel_rfl
theorem spares_j22 : ((Rows.sparesRow.plainKeys == Tryz.prog.plainKeys)) = true := by kernel_rfl
theorem spares_j23 : (Rows.sparesRow.shortTexts.isNone) = true := by kernel_rfl
theorem spares_j24 : (Tryz.prog.stopsHeard) = true := by kernel_rfl
theorem spares_j25 : (Tryz.prog.mayEnter) = true := by kernel_rfl
theorem spares_j26 : ((Rows.sparesRow.lifted == Tryz.prog.liftsFinal)) = true := by kernel_rfl
theorem spares_j27 : ((Tryz.prog.make == some Rows.sparesRow.make)) = true := by kernel_rfl
theorem spares_j28 : ((Rows.sparesRow.kinds == (if Rows.sparesRow.domain.isEmpty then [] else Tryz.f8.params.toList.map fun t => match Tryz.prog.underlying t with | some (.int k) => some k | _ => none))) = true := by kernel_rfl
theorem spares_j29 : ((Rows.sparesRow.pinned == Rows.sparesRow.pinnedBy)) = true := by kernel_rfl
theorem spares_j30 : ((Rows.sparesRow.veiled == (Tryz.f8.params.toList ++ Rows.sparesSpec.plain.varTypes Tryz.prog ++ Tryz.f8.resultTypes.toList).any (Tryz.prog.veiledRec ·))) = true := by kernel_rfl
theorem spares_j31 : (Rows.sparesRow.veiledFits Tryz.prog Tryz.f8.params.toList (Tryz.f8.params.toList ++ Rows.sparesSpec.plain.varTypes Tryz.prog ++ Tryz.f8.resultTypes.toList)) = true := by kernel_rfl
set_option maxRecDepth 100000 in
theorem spares_closed : joinedFacts Tryz.prog 8 Tryz.f8 Rows.sparesSpec Rows.sparesRow = true := by
  unfold joinedFacts
  exact (andB (andB (andB (andB (andB (andB (andB (andB (andB (andB (andB (andB (andB (andB (andB (andB (andB (andB (andB (andB (andB (andB (andB (andB (andB (andB (andB (andB (andB (andB (andB spares_j0 spares_j1) spares_j2) spares_j3) spares_j4) spares_j5) spares_j6) spares_j7) spares_j8) spares_j9) spares_j10) spares_j11) spares_j12) spares_j13) spares_j14) spares_j15) spares_j16) spares_j17) spares_j18) spares_j19) spares_j20) spares_j21) spares_j22) spares_j23) spares_j24) spares_j25) spares_j26) spares_j27) spares_j28) spares_j29) spares_j30) spares_j31)
theorem spares_row : Rows.SparesSaid :=
  OpenClaim.holds_of_wide 8 Tryz.f8 rfl rfl rfl rfl rfl rfl rfl ⟨rfl, rfl, rfl, rfl, rfl⟩ rfl rfl rfl rfl rfl (by kernel_rfl) Tryz.func8 spares_closed
    (of_decide_eq_true (by kernel_rfl)) (by unfold Func.isWrapper; first | (rw [if_pos (by decide +kernel)]; kernel_rfl) | (rw [if_neg (by decide +kernel)]; exact ⟨rfl, rfl⟩))
    (fun os started H enc _ => spares_lifted os started H enc)

theorem spares_card : Rows.SparesCardSaid :=
  Claim7.holds_tied_plain_at .later [] [.data, .data, .data] true (true, "c113fd8fa8dcdeb44cfe1f41cff3f08955f07751af47e4ecdc05dfca0cf1060e") false
    spares_row (fun _ h => by cases h) (by kernel_rfl) (fun _ h => by cases h) spares_row_tie rfl ⟨rfl, rfl⟩ (by kernel_rfl) rfl
    (fun f fn hf hfn => by
      obtain rfl : f = 8 := Option.some.inj ((show Tryz.prog.funcNamed "rulebook/rulebooklaw.Spares" = some 8 by kernel_rfl).symm.trans hf) |>.symm
      obtain rfl : fn = Tryz.f8 := (Option.some.inj (Tryz.func8.symm.trans hfn)).symm
      exact ⟨by kernel_rfl, fun j t ht => by
        rw [Tryz.params8] at ht
        have hm : t ∈ [22] := by simpa using Array.mem_of_getElem? ht
        have hall : ([22].all fun u => !Tryz.prog.wantsStandIn u) = true := by kernel_rfl
        exact (show Tryz.prog.wantsStandIn t = false by simpa using List.all_eq_true.1 hall t hm)⟩)
    (by kernel_rfl)
end Go.Proofs.YtmoeoppbmhfbpaaGreatDoor
