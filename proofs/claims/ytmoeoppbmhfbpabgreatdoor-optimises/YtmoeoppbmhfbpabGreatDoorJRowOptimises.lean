import Derived.Test.YtmoeoppbmhfbpabGreatDoorJRowHyp
import Derived.Test.YtmoeoppbmhfbpabGreatDoorJOpsF
import Derived.Test.YtmoeoppbmhfbpabGreatDoorRows
import Derived.Test.YtmoeoppbmhfbpabGreatDoorCards
import Derived.Test.YtmoeoppbmhfbpabGreatDoorTie
import Derived.LaidMore
import Derived.Stop.Joined
import Derived.SevenTiedAt
namespace Go.Proofs.YtmoeoppbmhfbpabGreatDoor
open Go.ChangeShapes Go.WideShapes Go.ChangeAt Go.WideMaps Go.WideElems Go.RowKit
open Go.Proofs.YtmoeoppbmhfbpabGreatDoorJ (open_script2 calls_law optimises_spec st0)
set_option linter.unusedVariables false

theorem own : ownKnob Tryz.prog.godebug = none := by kernel_rfl
theorem laidOut : laidOutB Tryz.prog = true := by kernel_rfl
theorem door_met (os : Os) (args : Array Value) : laidMetH Tryz.prog laid3 ((World.doorLaid Tryz.prog 400 os).forCall (fun _ _ => 0) ⟨#[], args, []⟩).memory :=
  laidMetH_of_parts3 (fuel := 8) (laidMet_of_run' 8 (by kernel_rfl) (by kernel_rfl)) (by kernel_rfl) (by kernel_rfl)

set_option maxRecDepth 100000 in
theorem optimises_lifted (os : Os) (started : os.Started) (H : Type) (enc : TypeId × Value → H) :
    ReturnsInHanded {} Tryz.checked os 3 .any (fun w args => (Rows.optimisesSpec.pre enc Tryz.prog Tryz.f3 [] false w args ∧ laidMetH Tryz.prog laid3 w) ∧ sizedMet enc Tryz.prog Tryz.f3 (OpenSpec.ofChange Rows.optimisesSpec) false w args)
      (Rows.optimisesSpec.post enc Tryz.prog Tryz.f3 false true false false) := by
  refine returnsInHanded_of_change_and (C := Tryz.checked) (X := fun w _ => laidMetH Tryz.prog laid3 w) (fun _ _ _ hh h => h.of_heap hh) own started (by kernel_rfl) Tryz.func3
    (ChangeSpec.witness_shaped (enc := enc) (C := Tryz.checked) (os := os) (X := fun w _ => laidMetH Tryz.prog laid3 w) false (World.doorLaid Tryz.prog 400 os) #[.slice none 0 0] 8 rfl (World.shaped_of_RefB (by kernel_rfl) (by kernel_rfl)) (by kernel_rfl) (by kernel_rfl) (by kernel_rfl) (door_met os _)) ?_
  intro W base args ds gs before hval0 hW _ _ hL _
  have hval : ∀ (j : Nat) t v, Tryz.f3.params[j]? = some t → args[j]? = some v → Value.okWide Tryz.prog W .any base t v := hval0
  have hW' := hW
  obtain ⟨p, q, hA0, hV, rfl, hfz, hnd⟩ := hW
  have hA : DataW.TrodAll enc Tryz.prog W 0 (fun _ => true) true Tryz.f3.params.toList args.toList ds p := hA0
  rw [Tryz.params3] at hA hval
  obtain ⟨v0, vs0, d0, ds0, p0, q0, hargs, rfl, rfl, h0, r0⟩ := trodAll_cons hA
  obtain ⟨rfl, rfl, rfl⟩ := trodAll_nil r0
  obtain rfl : args = #[v0] := by cases args; simp_all
  obtain ⟨rfl, rfl⟩ := trodVars_none hV
  obtain ⟨a0, len0, cap0, rfl⟩ := okWide_slice Tryz.underlying22 (hval 0 22 v0 rfl rfl)
  have k0 := h0
  have lt0 : ∀ x ∈ p0, x.block < W.heap.size := by obtain ⟨m, hm⟩ := k0; exact DataW.trod_lt m _ _ _ hm
  obtain ⟨fuel, hf⟩ := h0
  obtain ⟨l, cs, hE, hl, hn, hvr⟩ := open_script2 (by simpa [Value.cells] using hf)
  clear hA0 hval0
  refine (calls_law (optimises_spec l cs 0 hE hl (fun o ho => (hn o ho).1) st0) hvr (hyp_of hL)).mono fun e W' ⟨he, bel⟩ => ?_
  subst he
  exact ⟨_, rfl, _, _, _, [], _, [], hW', trodAll_mk1 (shut_bool Tryz.underlying4 _), (trodAll_cons_mk (Below.trod laidOut (by kernel_rfl) (of_decide_eq_true (by kernel_rfl)) k0 bel lt0) trodAll_mk0), rfl, bel.frame _, fun h => by cases h⟩

theorem andB {a b : Bool} (h : a = true) (k : b = true) : (a && b) = true := by rw [h, k]; rfl
theorem optimises_j0 : (Rows.optimisesRow.wf (OpenSpec.ofChange Rows.optimisesSpec)) = true := by kernel_rfl
theorem optimises_j1 : (laidOutB Tryz.prog) = true := by kernel_rfl
theorem optimises_j2 : (mapsRowed Tryz.prog) = true := by kernel_rfl
theorem optimises_j3 : (Tryz.f3.params.all (Tryz.prog.readableRec ·)) = true := by kernel_rfl
theorem optimises_j4 : (namedTie Tryz.prog Rows.optimisesRow.named Rows.optimisesSpec.vars) = true := by kernel_rfl
theorem optimises_j5 : ((Rows.optimisesRow.stops == [])) = true := by kernel_rfl
theorem optimises_j6 : ((Tryz.prog.stops == [])) = true := by kernel_rfl
theorem optimises_j7 : ((Rows.optimisesRow.knobs == [])) = true := by kernel_rfl
theorem optimises_j8 : ((Tryz.prog.stopKnobs == [])) = true := by kernel_rfl
theorem optimises_j9 : ((Rows.optimisesRow.inPlace == Tryz.prog.inPlace 3)) = true := by kernel_rfl
theorem optimises_j10 : ((Rows.optimisesRow.unfollowed == Tryz.prog.unfollowed 3)) = true := by kernel_rfl
theorem optimises_j11 : ((Rows.optimisesRow.recurses == Tryz.prog.recurses 3)) = true := by kernel_rfl
theorem optimises_j12 : ((Rows.optimisesRow.named == Tryz.prog.varsNamed 3)) = true := by kernel_rfl
theorem optimises_j13 : ((Rows.optimisesRow.maps == (Tryz.f3.params.toList ++ Rows.optimisesSpec.plain.varTypes Tryz.prog).any (Tryz.prog.mapsRec ·))) = true := by kernel_rfl
theorem optimises_j14 : ((Rows.optimisesRow.ifaces == (Tryz.f3.params.toList ++ Rows.optimisesSpec.plain.varTypes Tryz.prog).any (Tryz.prog.ifacesRec ·))) = true := by kernel_rfl
theorem optimises_j15 : ((Rows.optimisesRow.mapsOut == Tryz.prog.mapsAmong Tryz.f3.resultTypes.toList)) = true := by kernel_rfl
theorem optimises_j16 : ((Rows.optimisesRow.loops == (Tryz.f3.params.toList ++ Rows.optimisesSpec.plain.varTypes Tryz.prog).any (Tryz.prog.loopsFrom ·))) = true := by kernel_rfl
theorem optimises_j17 : ((Rows.optimisesRow.wideKeys == (Tryz.f3.params.toList ++ Rows.optimisesSpec.plain.varTypes Tryz.prog ++ Tryz.f3.resultTypes.toList).any (Tryz.prog.wideKeysFrom ·))) = true := by kernel_rfl
theorem optimises_j18 : (Rows.optimisesSpec.vars.all (Tryz.prog.varReadable ·)) = true := by kernel_rfl
theorem optimises_j19 : (Tryz.f3.resultTypes.all (fun t => Tryz.prog.readableRec t && decide (t < Tryz.prog.types.size))) = true := by kernel_rfl
theorem optimises_j20 : ((Rows.optimisesRow.ifacesOut == Tryz.f3.resultTypes.toList.any (Tryz.prog.ifacesRec ·))) = true := by kernel_rfl
theorem optimises_j21 : ((Rows.optimisesRow.loopsOut == Tryz.f3.resultTypes.toList.any (Tryz.prog.loopsFrom ·))) = true := by kernel_rfl
theorem optimises_j22 : ((Rows.optimisesRow.plainKeys == Tryz.prog.plainKeys)) = true := by kernel_rfl
theorem optimises_j23 : (Rows.optimisesRow.shortTexts.isNone) = true := by kernel_rfl
theorem optimises_j24 : (Tryz.prog.stopsHeard) = true := by kernel_rfl
theorem optimises_j25 : (Tryz.prog.mayEnter) = true := by kernel_rfl
theorem optimises_j26 : ((Rows.optimisesRow.lifted == Tryz.prog.liftsFinal)) = true := by kernel_rfl
theorem optimises_j27 : ((Tryz.prog.make == some Rows.optimisesRow.make)) = true := by kernel_rfl
theorem optimises_j28 : ((Rows.optimisesRow.kinds == (if Rows.optimisesRow.domain.isEmpty then [] else Tryz.f3.params.toList.map fun t => match Tryz.prog.underlying t with | some (.int k) => some k | _ => none))) = true := by kernel_rfl
theorem optimises_j29 : ((Rows.optimisesRow.pinned == Rows.optimisesRow.pinnedBy)) = true := by kernel_rfl
theorem optimises_j30 : ((Rows.optimisesRow.veiled == (Tryz.f3.params.toList ++ Rows.optimisesSpec.plain.varTypes Tryz.prog ++ Tryz.f3.resultTypes.toList).any (Tryz.prog.veiledRec ·))) = true := by kernel_rfl
theorem optimises_j31 : (Rows.optimisesRow.veiledFits Tryz.prog Tryz.f3.params.toList (Tryz.f3.params.toList ++ Rows.optimisesSpec.plain.varTypes Tryz.prog ++ Tryz.f3.resultTypes.toList)) = true := by kernel_rfl
set_option maxRecDepth 100000 in
theorem optimises_closed : joinedFacts Tryz.prog 3 Tryz.f3 Rows.optimisesSpec Rows.optimisesRow = true := by
  unfold joinedFacts
  exact (andB (andB (andB (andB (andB (andB (andB (andB (andB (andB (andB (andB (andB (andB (andB (andB (andB (andB (andB (andB (andB (andB (andB (andB (andB (andB (andB (andB (andB (andB (andB optimises_j0 optimises_j1) optimises_j2) optimises_j3) optimises_j4) optimises_j5) optimises_j6) optimises_j7) optimises_j8) optimises_j9) optimises_j10) optimises_j11) optimises_j12) optimises_j13) optimises_j14) optimises_j15) optimises_j16) optimises_j17) optimises_j18) optimises_j19) optimises_j20) optimises_j21) optimises_j22) optimises_j23) optimises_j24) optimises_j25) optimises_j26) optimises_j27) optimises_j28) optimises_j29) optimises_j30) optimises_j31)
theorem optimises_row : Rows.OptimisesSaid :=
  OpenClaim.holds_of_wide 3 Tryz.f3 rfl rfl rfl rfl rfl rfl rfl ⟨rfl, rfl, rfl, rfl, rfl⟩ rfl rfl rfl rfl rfl (by kernel_rfl) Tryz.func3 optimises_closed
    (of_decide_eq_true (by kernel_rfl)) (by unfold Func.isWrapper; first | (rw [if_pos (by decide +kernel)]; kernel_rfl) | (rw [if_neg (by decide +kernel)]; exact ⟨rfl, rfl⟩))
    (fun os started H enc _ => optimises_lifted os started H enc)

theorem optimises_card : Rows.OptimisesCardSaid :=
  Claim7.holds_tied_plain_at .later [] [.data, .data, .data] true (true, "ce6d409c92cfb325493f23df0ee152d93fc58d4d47db794dd823abe930f9a0b8") false
    optimises_row (fun _ h => by cases h) (by kernel_rfl) (fun _ h => by cases h) optimises_row_tie rfl ⟨rfl, rfl⟩ (by kernel_rfl) rfl
    (fun f fn hf hfn => by
      obtain rfl : f = 3 := Option.some.inj ((show Tryz.prog.funcNamed "rulebook/rulebooklaw.Optimises" = some 3 by kernel_rfl).symm.trans hf) |>.symm
      obtain rfl : fn = Tryz.f3 := (Option.some.inj (Tryz.func3.symm.trans hfn)).symm
      exact ⟨by kernel_rfl, fun j t ht => by
        rw [Tryz.params3] at ht
        have hm : t ∈ [22] := by simpa using Array.mem_of_getElem? ht
        have hall : ([22].all fun u => !Tryz.prog.wantsStandIn u) = true := by kernel_rfl
        exact (show Tryz.prog.wantsStandIn t = false by simpa using List.all_eq_true.1 hall t hm)⟩)
    (by kernel_rfl)
end Go.Proofs.YtmoeoppbmhfbpabGreatDoor
