import Derived.Test.YtmoeoppbmhfbpaaGreatDoorQRowHyp
import Derived.Test.YtmoeoppbmhfbpaaGreatDoorQTxtO
import Derived.Test.YtmoeoppbmhfbpaaGreatDoorRows
import Derived.Test.YtmoeoppbmhfbpaaGreatDoorCards
import Derived.Test.YtmoeoppbmhfbpaaGreatDoorTie
import Derived.LaidMore
import Derived.Stop.Joined
import Derived.SevenTiedAt
/- The row and the card of Tight. -/
namespace Go.Proofs.YtmoeoppbmhfbpaaGreatDoor
open Go.ChangeShapes Go.WideShapes Go.ChangeAt Go.WideMaps Go.WideElems Go.RowKit
open Go.Proofs.YtmoeoppbmhfbpaaGreatDoorQ (tight_spec st0 gh0 inv0)
set_option linter.unusedVariables false

theorem calls_law1 {f : FuncId} {W : World} {s0 : ByteArray} (h : Abs.ACalls Tryz.prog f [Abs.str s0.data.toList] st0 fun r σ' => r = Abs.sc (.bool true) ∧ Abs.Keep st0 σ') (hy : Abs.Hyp W.heap.size W) :
    Calls Tryz.prog f #[.string s0] W fun e w' => e = .returned (.bool true) ∧ Below W.heap.size W w' := by
  have hv0 : Abs.VR (gh0 W) st0 W (.string s0) (Abs.str s0.data.toList) := by
    show Abs.VR (gh0 W) st0 W (.string s0) (Abs.sc (.string (Abs.bs s0.data.toList)))
    rw [show Abs.bs s0.data.toList = s0 by simp [Abs.bs]]; exact Abs.VR.sc _
  refine (h.2 (gh0 W) W #[.string s0] (inv0 W hy) (Abs.All2.cons hv0 (Abs.All2.nil _))).mono ?_
  rintro e w' ⟨v2, G', y, σ', rfl, I', E, hvr, rfl, -⟩
  have h2 : v2 = .bool true := hvr.unfold
  refine ⟨by rw [h2], ?_⟩
  have hb := I'.below
  rw [E.base, E.w0] at hb
  exact hb

theorem own : ownKnob Tryz.prog.godebug = none := by kernel_rfl
theorem laidOut : laidOutB Tryz.prog = true := by kernel_rfl
theorem door_met (os : Os) (args : Array Value) : laidMetH Tryz.prog laid3 ((World.doorLaid Tryz.prog 400 os).forCall (fun _ _ => 0) ⟨#[], args, []⟩).memory :=
  laidMetH_of_parts3 (fuel := 8) (laidMet_of_run' 8 (by kernel_rfl) (by kernel_rfl)) (by kernel_rfl) (by kernel_rfl)

set_option maxRecDepth 100000 in
theorem tight_lifted (os : Os) (started : os.Started) (H : Type) (enc : TypeId × Value → H) :
    ReturnsInHanded {} Tryz.checked os 12 .any (fun w args => (Rows.tightSpec.pre enc Tryz.prog Tryz.f12 [] false w args ∧ laidMetH Tryz.prog laid3 w) ∧ sizedMet enc Tryz.prog Tryz.f12 (OpenSpec.ofChange Rows.tightSpec) false w args)
      (Rows.tightSpec.post enc Tryz.prog Tryz.f12 false true false false) := by
  refine returnsInHanded_of_change_and (C := Tryz.checked) (X := fun w _ => laidMetH Tryz.prog laid3 w) (fun _ _ _ hh h => h.of_heap hh) own started (by kernel_rfl) Tryz.func12
    (ChangeSpec.witness_shaped (enc := enc) (C := Tryz.checked) (os := os) (X := fun w _ => laidMetH Tryz.prog laid3 w) false (World.doorLaid Tryz.prog 400 os) #[.string ⟨#[]⟩] 8 rfl (World.shaped_of_RefB (by kernel_rfl) (by kernel_rfl)) (by kernel_rfl) (by kernel_rfl) (by kernel_rfl) (door_met os _)) ?_
  intro W base args ds gs before hval0 hW _ _ hL _
  have hval : ∀ (j : Nat) t v, Tryz.f12.params[j]? = some t → args[j]? = some v → Value.okWide Tryz.prog W .any base t v := hval0
  have hW' := hW
  obtain ⟨p, q, hA0, hV, rfl, hfz, hnd⟩ := hW
  have hA : DataW.TrodAll enc Tryz.prog W 0 (fun _ => true) true Tryz.f12.params.toList args.toList ds p := hA0
  rw [Tryz.params12] at hA hval
  obtain ⟨v0, vs0, d0, ds0, p0, q0, hargs, rfl, rfl, h0, r0⟩ := trodAll_cons hA
  obtain ⟨rfl, rfl, rfl⟩ := trodAll_nil r0
  obtain rfl : args = #[v0] := by cases args; simp_all
  obtain ⟨rfl, rfl⟩ := trodVars_none hV
  obtain ⟨s0, rfl⟩ := okWide_string Tryz.underlying9 (hval 0 9 v0 rfl rfl)
  have lt0 : ∀ x ∈ p0, x.block < W.heap.size := by obtain ⟨m, hm⟩ := h0; exact DataW.trod_lt m _ _ _ hm
  clear hA0 hval0
  refine (calls_law1 (tight_spec s0.data.toList st0) (hyp_of hL)).mono fun e W' ⟨he, bel⟩ => ?_
  subst he
  exact ⟨_, rfl, _, _, _, [], _, [], hW', trodAll_mk1 (shut_bool Tryz.underlying4 _), (trodAll_cons_mk (Below.trod laidOut (by kernel_rfl) (of_decide_eq_true (by kernel_rfl)) h0 bel lt0) trodAll_mk0), rfl, bel.frame _, fun h => by cases h⟩

theorem andB {a b : Bool} (h : a = true) (k : b = true) : (a && b) = true := by rw [h, k]; rfl
theorem tight_j0 : (Rows.tightRow.wf (OpenSpec.ofChange Rows.tightSpec)) = true := by kernel_rfl
theorem tight_j1 : (laidOutB Tryz.prog) = true := by kernel_rfl
theorem tight_j2 : (mapsRowed Tryz.prog) = true := by kernel_rfl
theorem tight_j3 : (Tryz.f12.params.all (Tryz.prog.readableRec ·)) = true := by kernel_rfl
theorem tight_j4 : (namedTie Tryz.prog Rows.tightRow.named Rows.tightSpec.vars) = true := by kernel_rfl
theorem tight_j5 : ((Rows.tightRow.stops == [])) = true := by kernel_rfl
theorem tight_j6 : ((Tryz.prog.stops == [])) = true := by kernel_rfl
theorem tight_j7 : ((Rows.tightRow.knobs == [])) = true := by kernel_rfl
theorem tight_j8 : ((Tryz.prog.stopKnobs == [])) = true := by kernel_rfl
theorem tight_j9 : ((Rows.tightRow.inPlace == Tryz.prog.inPlace 12)) = true := by kernel_rfl
theorem tight_j10 : ((Rows.tightRow.unfollowed == Tryz.prog.unfollowed 12)) = true := by kernel_rfl
theorem tight_j11 : ((Rows.tightRow.recurses == Tryz.prog.recurses 12)) = true := by kernel_rfl
theorem tight_j12 : ((Rows.tightRow.named == Tryz.prog.varsNamed 12)) = true := by kernel_rfl
theorem tight_j13 : ((Rows.tightRow.maps == (Tryz.f12.params.toList ++ Rows.tightSpec.plain.varTypes Tryz.prog).any (Tryz.prog.mapsRec ·))) = true := by kernel_rfl
theorem tight_j14 : ((Rows.tightRow.ifaces == (Tryz.f12.params.toList ++ Rows.tightSpec.plain.varTypes Tryz.prog).any (Tryz.prog.ifacesRec ·))) = true := by kernel_rfl
theorem tight_j15 : ((Rows.tightRow.mapsOut == Tryz.prog.mapsAmong Tryz.f12.resultTypes.toList)) = true := by kernel_rfl
theorem tight_j16 : ((Rows.tightRow.loops == (Tryz.f12.params.toList ++ Rows.tightSpec.plain.varTypes Tryz.prog).any (Tryz.prog.loopsFrom ·))) = true := by kernel_rfl
theorem tight_j17 : ((Rows.tightRow.wideKeys == (Tryz.f12.params.toList ++ Rows.tightSpec.plain.varTypes Tryz.prog ++ Tryz.f12.resultTypes.toList).any (Tryz.prog.wideKeysFrom ·))) = true := by kernel_rfl
theorem tight_j18 : (Rows.tightSpec.vars.all (Tryz.prog.varReadable ·)) = true := by kernel_rfl
theorem tight_j19 : (Tryz.f12.resultTypes.all (fun t => Tryz.prog.readableRec t && decide (t < Tryz.prog.types.size))) = true := by kernel_rfl
theorem tight_j20 : ((Rows.tightRow.ifacesOut == Tryz.f12.resultTypes.toList.any (Tryz.prog.ifacesRec ·))) = true := by kernel_rfl
theorem tight_j21 : ((Rows.tightRow.loopsOut == Tryz.f12.resultTypes.toList.any (Tryz.prog.loopsFrom ·))) = true := by kernel_rfl
theorem tight_j22 : ((Rows.tightRow.plainKeys == Tryz.prog.plainKeys)) = true := by kernel_rfl
theorem tight_j23 : (Rows.tightRow.shortTexts.isNone) = true := by kernel_rfl
theorem tight_j24 : (Tryz.prog.stopsHeard) = true := by kernel_rfl
theorem tight_j25 : (Tryz.prog.mayEnter) = true := by kernel_rfl
theorem tight_j26 : ((Rows.tightRow.lifted == Tryz.prog.liftsFinal)) = true := by kernel_rfl
theorem tight_j27 : ((Tryz.prog.make == some Rows.tightRow.make)) = true := by kernel_rfl
theorem tight_j28 : ((Rows.tightRow.kinds == (if Rows.tightRow.domain.isEmpty then [] else Tryz.f12.params.toList.map fun t => match Tryz.prog.underlying t with | some (.int k) => some k | _ => none))) = true := by kernel_rfl
theorem tight_j29 : ((Rows.tightRow.pinned == Rows.tightRow.pinnedBy)) = true := by kernel_rfl
theorem tight_j30 : ((Rows.tightRow.veiled == (Tryz.f12.params.toList ++ Rows.tightSpec.plain.varTypes Tryz.prog ++ Tryz.f12.resultTypes.toList).any (Tryz.prog.veiledRec ·))) = true := by kernel_rfl
theorem tight_j31 : (Rows.tightRow.veiledFits Tryz.prog Tryz.f12.params.toList (Tryz.f12.params.toList ++ Rows.tightSpec.plain.varTypes Tryz.prog ++ Tryz.f12.resultTypes.toList)) = true := by kernel_rfl
set_option maxRecDepth 100000 in
theorem tight_closed : joinedFacts Tryz.prog 12 Tryz.f12 Rows.tightSpec Rows.tightRow = true := by
  unfold joinedFacts
  exact (andB (andB (andB (andB (andB (andB (andB (andB (andB (andB (andB (andB (andB (andB (andB (andB (andB (andB (andB (andB (andB (andB (andB (andB (andB (andB (andB (andB (andB (andB (andB tight_j0 tight_j1) tight_j2) tight_j3) tight_j4) tight_j5) tight_j6) tight_j7) tight_j8) tight_j9) tight_j10) tight_j11) tight_j12) tight_j13) tight_j14) tight_j15) tight_j16) tight_j17) tight_j18) tight_j19) tight_j20) tight_j21) tight_j22) tight_j23) tight_j24) tight_j25) tight_j26) tight_j27) tight_j28) tight_j29) tight_j30) tight_j31)
theorem tight_row : Rows.TightSaid :=
  OpenClaim.holds_of_wide 12 Tryz.f12 rfl rfl rfl rfl rfl rfl rfl ⟨rfl, rfl, rfl, rfl, rfl⟩ rfl rfl rfl rfl rfl (by kernel_rfl) Tryz.func12 tight_closed
    (of_decide_eq_true (by kernel_rfl)) (by unfold Func.isWrapper; first | (rw [if_pos (by decide +kernel)]; kernel_rfl) | (rw [if_neg (by decide +kernel)]; exact ⟨rfl, rfl⟩))
    (fun os started H enc _ => tight_lifted os started H enc)

theorem tight_card : Rows.TightCardSaid :=
  Claim7.holds_tied_plain_at .later [] [.data, .data, .data] true (true, "c113fd8fa8dcdeb44cfe1f41cff3f08955f07751af47e4ecdc05dfca0cf1060e") false
    tight_row (fun _ h => by cases h) (by kernel_rfl) (fun _ h => by cases h) tight_row_tie rfl ⟨rfl, rfl⟩ (by kernel_rfl) rfl
    (fun f fn hf hfn => by
      obtain rfl : f = 12 := Option.some.inj ((show Tryz.prog.funcNamed "rulebook/rulebookkeep.Tight" = some 12 by kernel_rfl).symm.trans hf) |>.symm
      obtain rfl : fn = Tryz.f12 := (Option.some.inj (Tryz.func12.symm.trans hfn)).symm
      exact ⟨by kernel_rfl, fun j t ht => by
        rw [Tryz.params12] at ht
        have hm : t ∈ [9] := by simpa using Array.mem_of_getElem? ht
        have hall : ([9].all fun u => !Tryz.prog.wantsStandIn u) = true := by kernel_rfl
        exact (show Tryz.prog.wantsStandIn t = false by simpa using List.all_eq_true.1 hall t hm)⟩)
    (by kernel_rfl)
end Go.Proofs.YtmoeoppbmhfbpaaGreatDoor
