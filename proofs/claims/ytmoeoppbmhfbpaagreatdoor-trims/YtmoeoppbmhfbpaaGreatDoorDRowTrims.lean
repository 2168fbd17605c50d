import Derived.Test.YtmoeoppbmhfbpaaGreatDoorDRowHyp
import Derived.Test.YtmoeoppbmhfbpaaGreatDoorDDpsD
import Derived.Test.YtmoeoppbmhfbpaaGreatDoorRows
import Derived.Test.YtmoeoppbmhfbpaaGreatDoorCards
import Derived.Test.YtmoeoppbmhfbpaaGreatDoorTie
import Derived.LaidMore
import Derived.Stop.Joined
import Derived.SevenTiedAt
/- The row and the card of Trims. -/
namespace Go.Proofs.YtmoeoppbmhfbpaaGreatDoor
open Go.ChangeShapes Go.WideShapes Go.ChangeAt Go.WideMaps Go.WideElems Go.RowKit
open Go.Proofs.YtmoeoppbmhfbpaaGreatDoorD (open_script2 gh0 Adb trims_spec st0)
set_option linter.unusedVariables false

theorem calls_law {f : FuncId} {x : Abs.AV} {W : World} {v : Value} (h : Abs.ACalls Tryz.prog f [x] st0 fun r σ' => r = Abs.sc (.bool true) ∧ Abs.Keep st0 σ') (hv : Abs.VR (gh0 W) st0 W v x) (hy : Abs.Hyp W.heap.size W) :
    Calls Tryz.prog f #[v] W fun e w' => e = .returned (.bool true) ∧ Below W.heap.size W w' := by
  refine (h.2 (gh0 W) W #[v] (Adb W hy) (Abs.All2.cons hv (Abs.All2.nil _))).mono ?_
  rintro e w' ⟨v2, G', y, σ', rfl, I', E, hvr, rfl, -⟩
  have h2 : v2 = .bool true := hvr.unfold
  refine ⟨by rw [h2], ?_⟩
  have hb := I'.below
  rw [E.base, E.w0] at hb
  exact hb
theorem own : ownKnob Tryz.prog.godebug = none := by kernel_rfl
theorem laidOut : laidOutB Tryz.prog = true := by kernel_rfl
theorem door_met (os : Os) (args : Array Value) : laidMetH Tryz.prog laid3 ((World.doorLaid Tryz.prog 400 os).forCall (fun _ _ => 0) ⟨#[], args, []⟩).memory :=
  laidMetH_of_parts3 (fuel := 8) (laidMet_of_run' 8 (by kernel_rfl) (by kernel_rfl)) (by kernel_rfl) (by kernel_rfl)

set_option maxRecDepth 100000 in
theorem trims_lifted (os : Os) (started : os.Started) (H : Type) (enc : TypeId × Value → H) :
    ReturnsInHanded {} Tryz.checked os 10 .any (fun w args => (Rows.trimsSpec.pre enc Tryz.prog Tryz.f10 [] false w args ∧ laidMetH Tryz.prog laid3 w) ∧ sizedMet enc Tryz.prog Tryz.f10 (OpenSpec.ofChange Rows.trimsSpec) false w args)
      (Rows.trimsSpec.post enc Tryz.prog Tryz.f10 false true false false) := by
  refine returnsInHanded_of_change_and (C := Tryz.checked) (X := fun w _ => laidMetH Tryz.prog laid3 w) (fun _ _ _ hh h => h.of_heap hh) own started (by kernel_rfl) Tryz.func10
    (ChangeSpec.witness_shaped (enc := enc) (C := Tryz.checked) (os := os) (X := fun w _ => laidMetH Tryz.prog laid3 w) false (World.doorLaid Tryz.prog 400 os) #[.slice none 0 0] 8 rfl (World.shaped_of_RefB (by kernel_rfl) (by kernel_rfl)) (by kernel_rfl) (by kernel_rfl) (by kernel_rfl) (door_met os _)) ?_
  intro W base args ds gs before hval0 hW _ _ hL _
  have hval : ∀ (j : Nat) t v, Tryz.f10.params[j]? = some t → args[j]? = some v → Value.okWide Tryz.prog W .any base t v := hval0
  have hW' := hW
  obtain ⟨p, q, hA0, hV, rfl, hfz, hnd⟩ := hW
  have hA : DataW.TrodAll enc Tryz.prog W 0 (fun _ => true) true Tryz.f10.params.toList args.toList ds p := hA0
  rw [Tryz.params10] at hA hval
  obtain ⟨v0, vs0, d0, ds0, p0, q0, hargs, rfl, rfl, h0, r0⟩ := trodAll_cons hA
  obtain ⟨rfl, rfl, rfl⟩ := trodAll_nil r0
  obtain rfl : args = #[v0] := by cases args; simp_all
  obtain ⟨rfl, rfl⟩ := trodVars_none hV
  obtain ⟨a0, len0, cap0, rfl⟩ := okWide_slice Tryz.underlying22 (hval 0 22 v0 rfl rfl)
  have k0 := h0
  have lt0 : ∀ x ∈ p0, x.block < W.heap.size := by obtain ⟨m, hm⟩ := k0; exact DataW.trod_lt m _ _ _ hm
  obtain ⟨fuel, hf⟩ := h0
  obtain ⟨l, cs, hE, hl, hn, hvr⟩ := open_script2 (by simpa [Value.cells] using hf)
  clear hA0 hval0
  refine (calls_law (trims_spec l cs 0 hE hl hn st0) hvr (hyp_of hL)).mono fun e W' ⟨he, bel⟩ => ?_
  subst he
  exact ⟨_, rfl, _, _, _, [], _, [], hW', trodAll_mk1 (shut_bool Tryz.underlying4 _), (trodAll_cons_mk (Below.trod laidOut (by kernel_rfl) (of_decide_eq_true (by kernel_rfl)) k0 bel lt0) trodAll_mk0), rfl, bel.frame _, fun h => by cases h⟩

theorem andB {a b : Bool} (h : a = true) (k : b = true) : (a && b) = true := by rw [h, k]; rfl
theorem trims_j0 : (Rows.trimsRow.wf (OpenSpec.ofChange Rows.trimsSpec)) = true := by kernel_rfl
theorem trims_j1 : (laidOutB Tryz.prog) = true := by kernel_rfl
theorem trims_j2 : (mapsRowed Tryz.prog) = true := by kernel_rfl
theorem trims_j3 : (Tryz.f10.params.all (Tryz.prog.readableRec ·)) = true := by kernel_rfl
theorem trims_j4 : (namedTie Tryz.prog Rows.trimsRow.named Rows.trimsSpec.vars) = true := by kernel_rfl
theorem trims_j5 : ((Rows.trimsRow.stops == [])) = true := by kernel_rfl
theorem trims_j6 : ((Tryz.prog.stops == [])) = true := by kernel_rfl
theorem trims_j7 : ((Rows.trimsRow.knobs == [])) = true := by kernel_rfl
theorem trims_j8 : ((Tryz.prog.stopKnobs == [])) = true := by kernel_rfl
theorem trims_j9 : ((Rows.trimsRow.inPlace == Tryz.prog.inPlace 10)) = true := by kernel_rfl
theorem trims_j10 : ((Rows.trimsRow.unfollowed == Tryz.prog.unfollowed 10)) = true := by kernel_rfl
theorem trims_j11 : ((Rows.trimsRow.recurses == Tryz.prog.recurses 10)) = true := by kernel_rfl
theorem trims_j12 : ((Rows.trimsRow.named == Tryz.prog.varsNamed 10)) = true := by kernel_rfl
theorem trims_j13 : ((Rows.trimsRow.maps == (Tryz.f10.params.toList ++ Rows.trimsSpec.plain.varTypes Tryz.prog).any (Tryz.prog.mapsRec ·))) = true := by kernel_rfl
theorem trims_j14 : ((Rows.trimsRow.ifaces == (Tryz.f10.params.toList ++ Rows.trimsSpec.plain.varTypes Tryz.prog).any (Tryz.prog.ifacesRec ·))) = true := by kernel_rfl
theorem trims_j15 : ((Rows.trimsRow.mapsOut == Tryz.prog.mapsAmong Tryz.f10.resultTypes.toList)) = true := by kernel_rfl
theorem trims_j16 : ((Rows.trimsRow.loops == (Tryz.f10.params.toList ++ Rows.trimsSpec.plain.varTypes Tryz.prog).any (Tryz.prog.loopsFrom ·))) = true := by kernel_rfl
theorem trims_j17 : ((Rows.trimsRow.wideKeys == (Tryz.f10.params.toList ++ Rows.trimsSpec.plain.varTypes Tryz.prog ++ Tryz.f10.resultTypes.toList).any (Tryz.prog.wideKeysFrom ·))) = true := by kernel_rfl
theorem trims_j18 : (Rows.trimsSpec.vars.all (Tryz.prog.varReadable ·)) = true := by kernel_rfl
theorem trims_j19 : (Tryz.f10.resultTypes.all (fun t => Tryz.prog.readableRec t && decide (t < Tryz.prog.types.size))) = true := by kernel_rfl
theorem trims_j20 : ((Rows.trimsRow.ifacesOut == Tryz.f10.resultTypes.toList.any (Tryz.prog.ifacesRec ·))) = true := by kernel_rfl
theorem trims_j21 : ((Rows.trimsRow.loopsOut == Tryz.f10.resultTypes.toList.any (Tryz.prog.loopsFrom ·))) = true := by kernel_rfl
theorem trims_j22 : ((Rows.trimsRow.plainKeys == Tryz.prog.plainKeys)) = true := by kernel_rfl
theorem trims_j23 : (Rows.trimsRow.shortTexts.isNone) = true := by kernel_rfl
theorem trims_j24 : (Tryz.prog.stopsHeard) = true := by kernel_rfl
theorem trims_j25 : (Tryz.prog.mayEnter) = true := by kernel_rfl
theorem trims_j26 : ((Rows.trimsRow.lifted == Tryz.prog.liftsFinal)) = true := by kernel_rfl
theorem trims_j27 : ((Tryz.prog.make == some Rows.trimsRow.make)) = true := by kernel_rfl
theorem trims_j28 : ((Rows.trimsRow.kinds == (if Rows.trimsRow.domain.isEmpty then [] else Tryz.f10.params.toList.map fun t => match Tryz.prog.underlying t with | some (.int k) => some k | _ => none))) = true := by kernel_rfl
theorem trims_j29 : ((Rows.trimsRow.pinned == Rows.trimsRow.pinnedBy)) = true := by kernel_rfl
theorem trims_j30 : ((Rows.trimsRow.veiled == (Tryz.f10.params.toList ++ Rows.trimsSpec.plain.varTypes Tryz.prog ++ Tryz.f10.resultTypes.toList).any (Tryz.prog.veiledRec ·))) = true := by kernel_rfl
theorem trims_j31 : (Rows.trimsRow.veiledFits Tryz.prog Tryz.f10.params.toList (Tryz.f10.params.toList ++ Rows.trimsSpec.plain.varTypes Tryz.prog ++ Tryz.f10.resultTypes.toList)) = true := by kernel_rfl
set_option maxRecDepth 100000 in
theorem trims_closed : joinedFacts Tryz.prog 10 Tryz.f10 Rows.trimsSpec Rows.trimsRow = true := by
  unfold joinedFacts
  exact (andB (andB (andB (andB (andB (andB (andB (andB (andB (andB (andB (andB (andB (andB (andB (andB (andB (andB (andB (andB (andB (andB (andB (andB (andB (andB (andB (andB (andB (andB (andB trims_j0 trims_j1) trims_j2) trims_j3) trims_j4) trims_j5) trims_j6) trims_j7) trims_j8) trims_j9) trims_j10) trims_j11) trims_j12) trims_j13) trims_j14) trims_j15) trims_j16) trims_j17) trims_j18) trims_j19) trims_j20) trims_j21) trims_j22) trims_j23) trims_j24) trims_j25) trims_j26) trims_j27) trims_j28) trims_j29) trims_j30) trims_j31)
theorem trims_row : Rows.TrimsSaid :=
  OpenClaim.holds_of_wide 10 Tryz.f10 rfl rfl rfl rfl rfl rfl rfl ⟨rfl, rfl, rfl, rfl, rfl⟩ rfl rfl rfl rfl rfl (by kernel_rfl) Tryz.func10 trims_closed
    (of_decide_eq_true (by kernel_rfl)) (by unfold Func.isWrapper; first | (rw [if_pos (by decide +kernel)]; kernel_rfl) | (rw [if_neg (by decide +kernel)]; exact ⟨rfl, rfl⟩))
    (fun os started H enc _ => trims_lifted os started H enc)

theorem trims_card : Rows.TrimsCardSaid :=
  Claim7.holds_tied_plain_at .later [] [.data, .data, .data] true (true, "c113fd8fa8dcdeb44cfe1f41cff3f08955f07751af47e4ecdc05dfca0cf1060e") false
    trims_row (fun _ h => by cases h) (by kernel_rfl) (fun _ h => by cases h) trims_row_tie rfl ⟨rfl, rfl⟩ (by kernel_rfl) rfl
    (fun f fn hf hfn => by
      obtain rfl : f = 10 := Option.some.inj ((show Tryz.prog.funcNamed "rulebook/rulebooklaw.Trims" = some 10 by kernel_rfl).symm.trans hf) |>.symm
      obtain rfl : fn = Tryz.f10 := (Option.some.inj (Tryz.func10.symm.trans hfn)).symm
      exact ⟨by kernel_rfl, fun j t ht => by
        rw [Tryz.params10] at ht
        have hm : t ∈ [22] := by simpa using Array.mem_of_getElem? ht
        have hall : ([22].all fun u => !Tryz.prog.wantsStandIn u) = true := by kernel_rfl
        exact (show Tryz.prog.wantsStandIn t = false by simpa using List.all_eq_true.1 hall t hm)⟩)
    (by kernel_rfl)
end Go.Proofs.YtmoeoppbmhfbpaaGreatDoor
