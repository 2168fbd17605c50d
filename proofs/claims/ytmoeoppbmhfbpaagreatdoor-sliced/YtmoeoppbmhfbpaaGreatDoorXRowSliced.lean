import Derived.Test.YtmoeoppbmhfbpaaGreatDoorXRowHyp
import Derived.Test.YtmoeoppbmhfbpaaGreatDoorXOptL
import Derived.Test.YtmoeoppbmhfbpaaGreatDoorRows
import Derived.Test.YtmoeoppbmhfbpaaGreatDoorCards
import Derived.Test.YtmoeoppbmhfbpaaGreatDoorTie
import Derived.LaidMore
import Derived.Stop.Joined
import Derived.SevenTiedAt
/- The row and the card of Sliced. -/
namespace Go.Proofs.YtmoeoppbmhfbpaaGreatDoor
open Go.ChangeShapes Go.WideShapes Go.ChangeAt Go.WideMaps Go.WideElems Go.RowKit
open Go.Proofs.YtmoeoppbmhfbpaaGreatDoorX (sliced_spec st0 gh0 inv0)
set_option linter.unusedVariables false

theorem calls_law2 {f : FuncId} {W : World} {s0 : ByteArray} {n1 : Int} (h : Abs.ACalls Tryz.prog f [Abs.str s0.data.toList, Abs.sc (.int .i64 n1)] st0 fun r σ' => r = Abs.sc (.bool true) ∧ Abs.Keep st0 σ') (hy : Abs.Hyp W.heap.size W) :
    Calls Tryz.prog f #[.string s0, .int .i64 n1] W fun e w' => e = .returned (.bool true) ∧ Below W.heap.size W w' := by
  have hv0 : Abs.VR (gh0 W) st0 W (.string s0) (Abs.str s0.data.toList) := by
    show Abs.VR (gh0 W) st0 W (.string s0) (Abs.sc (.string (Abs.bs s0.data.toList)))
    rw [show Abs.bs s0.data.toList = s0 by simp [Abs.bs]]; exact Abs.VR.sc _
  refine (h.2 (gh0 W) W #[.string s0, .int .i64 n1] (inv0 W hy) (Abs.All2.cons hv0 (Abs.All2.cons (Abs.VR.sc _) (Abs.All2.nil _)))).mono ?_
  rintro e w' ⟨v2, G', y, σ', rfl, I', E, hvr, rfl, -⟩
  have h2 : v2 = .bool true := hvr.unfold
  refine ⟨by rw [h2], ?_⟩
  have hb := I'.below
  rw [E.base, E.w0] at hb
  exact hb

theorem own : ownKnob Tryz.prog.godebug = none := by kernel_rfl
theorem laidOut : laidOutB Tryz.prog = true := by kernel_rfl
theorem door_met (os : Os) (args : Array Value) : laidMetH Tryz.prog laid3 ((World.doorLaid Tryz.prog 400 os).forCall (fun _ _ => 0) ⟨#[], args, []⟩).memory :=
  laidMetH_of_parts3 (fuel := 8) (laidMet_of_run' 8 (by kernel_rfl) (by kernel_rfl)) (by kernel_rfl) (by kernel_rfl)
theorem int_rng {P : Program} {w : World} {r : Reach} {base : Nat} {t : TypeId} {n : Int} (ht : P.underlying t = some (.int .i64)) (h : Value.okWide P w r base t (.int .i64 n)) : -9223372036854775808 ≤ n ∧ n ≤ 9223372036854775807 := by
  simp only [Value.okWide, ht, Cell.okWide, Cell.ok, IntKind.has] at h
  have h1 : IntKind.i64.min = -9223372036854775808 := by decide
  have h2 : IntKind.i64.max = 9223372036854775807 := by decide
  rw [h1, h2] at h
  omega

set_option maxRecDepth 100000 in
theorem sliced_lifted (os : Os) (started : os.Started) (H : Type) (enc : TypeId × Value → H) :
    ReturnsInHanded {} Tryz.checked os 13 .any (fun w args => (Rows.slicedSpec.pre enc Tryz.prog Tryz.f13 [] false w args ∧ laidMetH Tryz.prog laid3 w) ∧ sizedMet enc Tryz.prog Tryz.f13 (OpenSpec.ofChange Rows.slicedSpec) false w args)
      (Rows.slicedSpec.post enc Tryz.prog Tryz.f13 false true false false) := by
  refine returnsInHanded_of_change_and (C := Tryz.checked) (X := fun w _ => laidMetH Tryz.prog laid3 w) (fun _ _ _ hh h => h.of_heap hh) own started (by kernel_rfl) Tryz.func13
    (ChangeSpec.witness_shaped (enc := enc) (C := Tryz.checked) (os := os) (X := fun w _ => laidMetH Tryz.prog laid3 w) false (World.doorLaid Tryz.prog 400 os) #[.string ⟨#[]⟩, .int .i64 0] 8 rfl (World.shaped_of_RefB (by kernel_rfl) (by kernel_rfl)) (by kernel_rfl) (by kernel_rfl) (by kernel_rfl) (door_met os _)) ?_
  intro W base args ds gs before hval0 hW _ _ hL _
  have hval : ∀ (j : Nat) t v, Tryz.f13.params[j]? = some t → args[j]? = some v → Value.okWide Tryz.prog W .any base t v := hval0
  have hW' := hW
  obtain ⟨p, q, hA0, hV, rfl, hfz, hnd⟩ := hW
  have hA : DataW.TrodAll enc Tryz.prog W 0 (fun _ => true) true Tryz.f13.params.toList args.toList ds p := hA0
  rw [Tryz.params13] at hA hval
  obtain ⟨v0, vs0, d0, ds0, p0, q0, hargs, rfl, rfl, h0, r0⟩ := trodAll_cons hA
  obtain ⟨v1, vs1, d1, ds1, p1, q1, rfl, rfl, rfl, h1, r1⟩ := trodAll_cons r0
  obtain ⟨rfl, rfl, rfl⟩ := trodAll_nil r1
  obtain rfl : args = #[v0, v1] := by cases args; simp_all
  obtain ⟨rfl, rfl⟩ := trodVars_none hV
  obtain ⟨s0, rfl⟩ := okWide_string Tryz.underlying9 (hval 0 9 v0 rfl rfl)
  obtain ⟨n1, rfl⟩ := okWide_int Tryz.underlying3 (hval 1 3 v1 rfl rfl)
  obtain ⟨lo1, hi1⟩ := int_rng Tryz.underlying3 (hval 1 3 (.int .i64 n1) rfl rfl)
  have lt0 : ∀ x ∈ p0, x.block < W.heap.size := by obtain ⟨m, hm⟩ := h0; exact DataW.trod_lt m _ _ _ hm
  have lt1 : ∀ x ∈ p1, x.block < W.heap.size := by obtain ⟨m, hm⟩ := h1; exact DataW.trod_lt m _ _ _ hm
  clear hA0 hval0
  refine (calls_law2 (sliced_spec s0.data.toList n1 lo1 hi1 st0) (hyp_of hL)).mono fun e W' ⟨he, bel⟩ => ?_
  subst he
  exact ⟨_, rfl, _, _, _, [], _, [], hW', trodAll_mk1 (shut_bool Tryz.underlying4 _), (trodAll_cons_mk (Below.trod laidOut (by kernel_rfl) (of_decide_eq_true (by kernel_rfl)) h0 bel lt0) (trodAll_cons_mk (Below.trod laidOut (by kernel_rfl) (of_decide_eq_true (by kernel_rfl)) h1 bel lt1) trodAll_mk0)), rfl, bel.frame _, fun h => by cases h⟩

theorem andB {a b : Bool} (h : a = true) (k : b = true) : (a && b) = true := by rw [h, k]; rfl
theorem sliced_j0 : (Rows.slicedRow.wf (OpenSpec.ofChange Rows.slicedSpec)) = true := by kernel_rfl
theorem sliced_j1 : (laidOutB Tryz.prog) = true := by kernel_rfl
theorem sliced_j2 : (mapsRowed Tryz.prog) = true := by kernel_rfl
theorem sliced_j3 : (Tryz.f13.params.all (Tryz.prog.readableRec ·)) = true := by kernel_rfl
theorem sliced_j4 : (namedTie Tryz.prog Rows.slicedRow.named Rows.slicedSpec.vars) = true := by kernel_rfl
theorem sliced_j5 : ((Rows.slicedRow.stops == [])) = true := by kernel_rfl
theorem sliced_j6 : ((Tryz.prog.stops == [])) = true := by kernel_rfl
theorem sliced_j7 : ((Rows.slicedRow.knobs == [])) = true := by kernel_rfl
theorem sliced_j8 : ((Tryz.prog.stopKnobs == [])) = true := by kernel_rfl
theorem sliced_j9 : ((Rows.slicedRow.inPlace == Tryz.prog.inPlace 13)) = true := by kernel_rfl
theorem sliced_j10 : ((Rows.slicedRow.unfollowed == Tryz.prog.unfollowed 13)) = true := by kernel_rfl
theorem sliced_j11 : ((Rows.slicedRow.recurses == Tryz.prog.recurses 13)) = true := by kernel_rfl
theorem sliced_j12 : ((Rows.slicedRow.named == Tryz.prog.varsNamed 13)) = true := by kernel_rfl
theorem sliced_j13 : ((Rows.slicedRow.maps == (Tryz.f13.params.toList ++ Rows.slicedSpec.plain.varTypes Tryz.prog).any (Tryz.prog.mapsRec ·))) = true := by kernel_rfl
theorem sliced_j14 : ((Rows.slicedRow.ifaces == (Tryz.f13.params.toList ++ Rows.slicedSpec.plain.varTypes Tryz.prog).any (Tryz.prog.ifacesRec ·))) = true := by kernel_rfl
theorem sliced_j15 : ((Rows.slicedRow.mapsOut == Tryz.prog.mapsAmong Tryz.f13.resultTypes.toList)) = true := by kernel_rfl
theorem sliced_j16 : ((Rows.slicedRow.loops == (Tryz.f13.params.toList ++ Rows.slicedSpec.plain.varTypes Tryz.prog).any (Tryz.prog.loopsFrom ·))) = true := by kernel_rfl
theorem sliced_j17 : ((Rows.slicedRow.wideKeys == (Tryz.f13.params.toList ++ Rows.slicedSpec.plain.varTypes Tryz.prog ++ Tryz.f13.resultTypes.toList).any (Tryz.prog.wideKeysFrom ·))) = true := by kernel_rfl
theorem sliced_j18 : (Rows.slicedSpec.vars.all (Tryz.prog.varReadable ·)) = true := by kernel_rfl
theorem sliced_j19 : (Tryz.f13.resultTypes.all (fun t => Tryz.prog.readableRec t && decide (t < Tryz.prog.types.size))) = true := by kernel_rfl
theorem sliced_j20 : ((Rows.slicedRow.ifacesOut == Tryz.f13.resultTypes.toList.any (Tryz.prog.ifacesRec ·))) = true := by kernel_rfl
theorem sliced_j21 : ((Rows.slicedRow.loopsOut == Tryz.f13.resultTypes.toList.any (Tryz.prog.loopsFrom ·))) = true := by kernel_rfl
theorem sliced_j22 : ((Rows.slicedRow.plainKeys == Tryz.prog.plainKeys)) = true := by kernel_rfl
theorem sliced_j23 : (Rows.slicedRow.shortTexts.isNone) = true := by kernel_rfl
theorem sliced_j24 : (Tryz.prog.stopsHeard) = true := by kernel_rfl
theorem sliced_j25 : (Tryz.prog.mayEnter) = true := by kernel_rfl
theorem sliced_j26 : ((Rows.slicedRow.lifted == Tryz.prog.liftsFinal)) = true := by kernel_rfl
theorem sliced_j27 : ((Tryz.prog.make == some Rows.slicedRow.make)) = true := by kernel_rfl
theorem sliced_j28 : ((Rows.slicedRow.kinds == (if Rows.slicedRow.domain.isEmpty then [] else Tryz.f13.params.toList.map fun t => match Tryz.prog.underlying t with | some (.int k) => some k | _ => none))) = true := by kernel_rfl
theorem sliced_j29 : ((Rows.slicedRow.pinned == Rows.slicedRow.pinnedBy)) = true := by kernel_rfl
theorem sliced_j30 : ((Rows.slicedRow.veiled == (Tryz.f13.params.toList ++ Rows.slicedSpec.plain.varTypes Tryz.prog ++ Tryz.f13.resultTypes.toList).any (Tryz.prog.veiledRec ·))) = true := by kernel_rfl
theorem sliced_j31 : (Rows.slicedRow.veiledFits Tryz.prog Tryz.f13.params.toList (Tryz.f13.params.toList ++ Rows.slicedSpec.plain.varTypes Tryz.prog ++ Tryz.f13.resultTypes.toList)) = true := by kernel_rfl
set_option maxRecDepth 100000 in
theorem sliced_closed : joinedFacts Tryz.prog 13 Tryz.f13 Rows.slicedSpec Rows.slicedRow = true := by
  unfold joinedFacts
  exact (andB (andB (andB (andB (andB (andB (andB (andB (andB (andB (andB (andB (andB (andB (andB (andB (andB (andB (andB (andB (andB (andB (andB (andB (andB (andB (andB (andB (andB (andB (andB sliced_j0 sliced_j1) sliced_j2) sliced_j3) sliced_j4) sliced_j5) sliced_j6) sliced_j7) sliced_j8) sliced_j9) sliced_j10) sliced_j11) sliced_j12) sliced_j13) sliced_j14) sliced_j15) sliced_j16) sliced_j17) sliced_j18) sliced_j19) sliced_j20) sliced_j21) sliced_j22) sliced_j23) sliced_j24) sliced_j25) sliced_j26) sliced_j27) sliced_j28) sliced_j29) sliced_j30) sliced_j31)
theorem sliced_row : Rows.SlicedSaid :=
  OpenClaim.holds_of_wide 13 Tryz.f13 rfl rfl rfl rfl rfl rfl rfl ⟨rfl, rfl, rfl, rfl, rfl⟩ rfl rfl rfl rfl rfl (by kernel_rfl) Tryz.func13 sliced_closed
    (of_decide_eq_true (by kernel_rfl)) (by unfold Func.isWrapper; first | (rw [if_pos (by decide +kernel)]; kernel_rfl) | (rw [if_neg (by decide +kernel)]; exact ⟨rfl, rfl⟩))
    (fun os started H enc _ => sliced_lifted os started H enc)

theorem sliced_card : Rows.SlicedCardSaid :=
  Claim7.holds_tied_plain_at .later [] [.data, .data, .data] true (true, "c113fd8fa8dcdeb44cfe1f41cff3f08955f07751af47e4ecdc05dfca0cf1060e") false
    sliced_row (fun _ h => by cases h) (by kernel_rfl) (fun _ h => by cases h) sliced_row_tie rfl ⟨rfl, rfl⟩ (by kernel_rfl) rfl
    (fun f fn hf hfn => by
      obtain rfl : f = 13 := Option.some.inj ((show Tryz.prog.funcNamed "rulebook/rulebookkeep.Sliced" = some 13 by kernel_rfl).symm.trans hf) |>.symm
      obtain rfl : fn = Tryz.f13 := (Option.some.inj (Tryz.func13.symm.trans hfn)).symm
      exact ⟨by kernel_rfl, fun j t ht => by
        rw [Tryz.params13] at ht
        have hm : t ∈ [9, 3] := by simpa using Array.mem_of_getElem? ht
        have hall : ([9, 3].all fun u => !Tryz.prog.wantsStandIn u) = true := by kernel_rfl
        exact (show Tryz.prog.wantsStandIn t = false by simpa using List.all_eq_true.1 hall t hm)⟩)
    (by kernel_rfl)
end Go.Proofs.YtmoeoppbmhfbpaaGreatDoor
