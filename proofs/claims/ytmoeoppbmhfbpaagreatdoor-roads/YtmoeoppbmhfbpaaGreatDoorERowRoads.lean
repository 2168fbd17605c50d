import Derived.Test.YtmoeoppbmhfbpaaGreatDoorERowHyp
import Derived.Test.YtmoeoppbmhfbpaaGreatDoorERoaH
import Derived.Test.YtmoeoppbmhfbpaaGreatDoorERowB
import Derived.Test.YtmoeoppbmhfbpaaGreatDoorRows
import Derived.Test.YtmoeoppbmhfbpaaGreatDoorCards
import Derived.Test.YtmoeoppbmhfbpaaGreatDoorTie
import Derived.LaidMore
import Derived.Stop.Joined
import Derived.SevenTiedAt
/- The row and the card of Roads. -/
namespace Go.Proofs.YtmoeoppbmhfbpaaGreatDoor
open Go.ChangeShapes Go.WideShapes Go.ChangeAt Go.WideMaps Go.WideElems Go.RowKit
open Go.Proofs.YtmoeoppbmhfbpaaGreatDoorE (roads_spec open_ints icells st0 gh0 inv0)
set_option linter.unusedVariables false

theorem calls_law3 {f : FuncId} {W : World} {n0 : Int} {n1 : Int} {a2 : Option Addr} {len2 cap2 : Nat} {l2 : List Int} (h : Abs.ACalls Tryz.prog f [Abs.sc (.int .i64 n0), Abs.sc (.int .i64 n1), Abs.sl 0 l2.length (icells l2)] st0 fun r σ' => r = Abs.sc (.bool true) ∧ Abs.Keep st0 σ') (hy : Abs.Hyp W.heap.size W) (hv2 : Abs.VR (gh0 W) st0 W (.slice a2 len2 cap2) (Abs.sl 0 l2.length (icells l2))) :
    Calls Tryz.prog f #[.int .i64 n0, .int .i64 n1, .slice a2 len2 cap2] W fun e w' => e = .returned (.bool true) ∧ Below W.heap.size W w' := by
  refine (h.2 (gh0 W) W #[.int .i64 n0, .int .i64 n1, .slice a2 len2 cap2] (inv0 W hy) (Abs.All2.cons (Abs.VR.sc _) (Abs.All2.cons (Abs.VR.sc _) (Abs.All2.cons hv2 (Abs.All2.nil _))))).mono ?_
  rintro e w' ⟨v2, G', y, σ', rfl, I', E, hvr, rfl, -⟩
  have h2 : v2 = .bool true := hvr.unfold
  refine ⟨by rw [h2], ?_⟩
  have hb := I'.below
  rw [E.base, E.w0] at hb
  exact hb

theorem own : ownKnob Tryz.prog.godebug = none := by kernel_rfl
theorem laidOut : laidOutB Tryz.prog = true := by kernel_rfl
theorem door_met (os : Os) (args : Array Value) : laidMetH Tryz.prog laid3 ((World.doorLaid Tryz.prog 400 os).forCall (fun _ _ => 0) ⟨#[], args, []⟩).memory :=
  laidMetH_of_parts3 (fuel := 8) (laidMet_of_run' 8 (by kernel_rfl) (by kernel_rfl)) (by kernel_rfl) (by kernel_rfl)
theorem int_rng {P : Program} {w : World} {r : Reach} {base : Nat} {t : TypeId} {n : Int} (ht : P.underlying t = some (.int .i64)) (h : Value.okWide P w r base t (.int .i64 n)) : -9223372036854775808 ≤ n ∧ n ≤ 9223372036854775807 := by
  simp only [Value.okWide, ht, Cell.okWide, Cell.ok, IntKind.has] at h
  have h1 : IntKind.i64.min = -9223372036854775808 := by decide
  have h2 : IntKind.i64.max = 9223372036854775807 := by decide
  rw [h1, h2] at h
  omega

set_option maxRecDepth 100000 in
theorem roads_lifted (os : Os) (started : os.Started) (H : Type) (enc : TypeId × Value → H) :
    ReturnsInHanded {} Tryz.checked os 6 .any (fun w args => (Rows.roadsSpec.pre enc Tryz.prog Tryz.f6 [] false w args ∧ laidMetH Tryz.prog laid3 w) ∧ sizedMet enc Tryz.prog Tryz.f6 (OpenSpec.ofChange Rows.roadsSpec) false w args)
      (Rows.roadsSpec.post enc Tryz.prog Tryz.f6 false true false false) := by
  refine returnsInHanded_of_change_and (C := Tryz.checked) (X := fun w _ => laidMetH Tryz.prog laid3 w) (fun _ _ _ hh h => h.of_heap hh) own started (by kernel_rfl) Tryz.func6
    (ChangeSpec.witness_shaped (enc := enc) (C := Tryz.checked) (os := os) (X := fun w _ => laidMetH Tryz.prog laid3 w) false (World.doorLaid Tryz.prog 400 os) #[.int .i64 0, .int .i64 0, .slice none 0 0] 8 rfl (World.shaped_of_RefB (by kernel_rfl) (by kernel_rfl)) (by kernel_rfl) (by kernel_rfl) (by kernel_rfl) (door_met os _)) ?_
  intro W base args ds gs before hval0 hW _ _ hL _
  have hval : ∀ (j : Nat) t v, Tryz.f6.params[j]? = some t → args[j]? = some v → Value.okWide Tryz.prog W .any base t v := hval0
  have hW' := hW
  obtain ⟨p, q, hA0, hV, rfl, hfz, hnd⟩ := hW
  have hA : DataW.TrodAll enc Tryz.prog W 0 (fun _ => true) true Tryz.f6.params.toList args.toList ds p := hA0
  rw [Tryz.params6] at hA hval
  obtain ⟨v0, vs0, d0, ds0, p0, q0, hargs, rfl, rfl, h0, r0⟩ := trodAll_cons hA
  obtain ⟨v1, vs1, d1, ds1, p1, q1, rfl, rfl, rfl, h1, r1⟩ := trodAll_cons r0
  obtain ⟨v2, vs2, d2, ds2, p2, q2, rfl, rfl, rfl, h2, r2⟩ := trodAll_cons r1
  obtain ⟨rfl, rfl, rfl⟩ := trodAll_nil r2
  obtain rfl : args = #[v0, v1, v2] := by cases args; simp_all
  obtain ⟨rfl, rfl⟩ := trodVars_none hV
  obtain ⟨n0, rfl⟩ := okWide_int Tryz.underlying3 (hval 0 3 v0 rfl rfl)
  obtain ⟨lo0, hi0⟩ := int_rng Tryz.underlying3 (hval 0 3 (.int .i64 n0) rfl rfl)
  obtain ⟨n1, rfl⟩ := okWide_int Tryz.underlying3 (hval 1 3 v1 rfl rfl)
  obtain ⟨lo1, hi1⟩ := int_rng Tryz.underlying3 (hval 1 3 (.int .i64 n1) rfl rfl)
  obtain ⟨a2, len2, cap2, rfl⟩ := okWide_slice Tryz.underlying25 (hval 2 25 v2 rfl rfl)
  obtain ⟨fu2, hf2⟩ := id h2
  obtain ⟨l2, hE2, hvr2⟩ := open_ints (by simpa [Value.cells] using hf2)
  have lt0 : ∀ x ∈ p0, x.block < W.heap.size := by obtain ⟨m, hm⟩ := h0; exact DataW.trod_lt m _ _ _ hm
  have lt1 : ∀ x ∈ p1, x.block < W.heap.size := by obtain ⟨m, hm⟩ := h1; exact DataW.trod_lt m _ _ _ hm
  have lt2 : ∀ x ∈ p2, x.block < W.heap.size := by obtain ⟨m, hm⟩ := h2; exact DataW.trod_lt m _ _ _ hm
  clear hA0 hval0
  refine (calls_law3 (roads_spec n0 n1 ⟨lo0, hi0⟩ ⟨lo1, hi1⟩ l2 0 hE2 st0) (hyp_of hL) hvr2).mono fun e W' ⟨he, bel⟩ => ?_
  subst he
  exact ⟨_, rfl, _, _, _, [], _, [], hW', trodAll_mk1 (shut_bool Tryz.underlying4 _), (trodAll_cons_mk (Below.trod laidOut (by kernel_rfl) (of_decide_eq_true (by kernel_rfl)) h0 bel lt0) (trodAll_cons_mk (Below.trod laidOut (by kernel_rfl) (of_decide_eq_true (by kernel_rfl)) h1 bel lt1) (trodAll_cons_mk (Below.trod laidOut (by kernel_rfl) (of_decide_eq_true (by kernel_rfl)) h2 bel lt2) trodAll_mk0))), rfl, bel.frame _, fun h => by cases h⟩

theorem andB {a b : Bool} (h : a = true) (k : b = true) : (a && b) = true := by rw [h, k]; rfl
theorem roads_j0 : (Rows.roadsRow.wf (OpenSpec.ofChange Rows.roadsSpec)) = true := by kernel_rfl
theorem roads_j1 : (laidOutB Tryz.prog) = true := by kernel_rfl
theorem roads_j2 : (mapsRowed Tryz.prog) = true := by kernel_rfl
theorem roads_j3 : (Tryz.f6.params.all (Tryz.prog.readableRec ·)) = true := by kernel_rfl
theorem roads_j4 : (namedTie Tryz.prog Rows.roadsRow.named Rows.roadsSpec.vars) = true := by kernel_rfl
theorem roads_j5 : ((Rows.roadsRow.stops == [])) = true := by kernel_rfl
theorem roads_j6 : ((Tryz.prog.stops == [])) = true := by kernel_rfl
theorem roads_j7 : ((Rows.roadsRow.knobs == [])) = true := by kernel_rfl
theorem roads_j8 : ((Tryz.prog.stopKnobs == [])) = true := by kernel_rfl
theorem roads_j9 : ((Rows.roadsRow.inPlace == Tryz.prog.inPlace 6)) = true := by kernel_rfl
theorem roads_j10 : ((Rows.roadsRow.unfollowed == Tryz.prog.unfollowed 6)) = true := by kernel_rfl
theorem roads_j11 : ((Rows.roadsRow.recurses == Tryz.prog.recurses 6)) = true := by kernel_rfl
theorem roads_j12 : ((Rows.roadsRow.named == Tryz.prog.varsNamed 6)) = true := by kernel_rfl
theorem roads_j13 : ((Rows.roadsRow.maps == (Tryz.f6.params.toList ++ Rows.roadsSpec.plain.varTypes Tryz.prog).any (Tryz.prog.mapsRec ·))) = true := by kernel_rfl
theorem roads_j14 : ((Rows.roadsRow.ifaces == (Tryz.f6.params.toList ++ Rows.roadsSpec.plain.varTypes Tryz.prog).any (Tryz.prog.ifacesRec ·))) = true := by kernel_rfl
theorem roads_j15 : ((Rows.roadsRow.mapsOut == Tryz.prog.mapsAmong Tryz.f6.resultTypes.toList)) = true := by kernel_rfl
theorem roads_j16 : ((Rows.roadsRow.loops == (Tryz.f6.params.toList ++ Rows.roadsSpec.plain.varTypes Tryz.prog).any (Tryz.prog.loopsFrom ·))) = true := by kernel_rfl
theorem roads_j17 : ((Rows.roadsRow.wideKeys == (Tryz.f6.params.toList ++ Rows.roadsSpec.plain.varTypes Tryz.prog ++ Tryz.f6.resultTypes.toList).any (Tryz.prog.wideKeysFrom ·))) = true := by kernel_rfl
theorem roads_j18 : (Rows.roadsSpec.vars.all (Tryz.prog.varReadable ·)) = true := by kernel_rfl
theorem roads_j19 : (Tryz.f6.resultTypes.all (fun t => Tryz.prog.readableRec t && decide (t < Tryz.prog.types.size))) = true := by kernel_rfl
theorem roads_j20 : ((Rows.roadsRow.ifacesOut == Tryz.f6.resultTypes.toList.any (Tryz.prog.ifacesRec ·))) = true := by kernel_rfl
theorem roads_j21 : ((Rows.roadsRow.loopsOut == Tryz.f6.resultTypes.toList.any (Tryz.prog.loopsFrom ·))) = true := by kernel_rfl
theorem roads_j22 : ((Rows.roadsRow.plainKeys == Tryz.prog.plainKeys)) = true := by kernel_rfl
theorem roads_j23 : (Rows.roadsRow.shortTexts.isNone) = true := by kernel_rfl
theorem roads_j24 : (Tryz.prog.stopsHeard) = true := by kernel_rfl
theorem roads_j25 : (Tryz.prog.mayEnter) = true := by kernel_rfl
theorem roads_j26 : ((Rows.roadsRow.lifted == Tryz.prog.liftsFinal)) = true := by kernel_rfl
theorem roads_j27 : ((Tryz.prog.make == some Rows.roadsRow.make)) = true := by kernel_rfl
theorem roads_j28 : ((Rows.roadsRow.kinds == (if Rows.roadsRow.domain.isEmpty then [] else Tryz.f6.params.toList.map fun t => match Tryz.prog.underlying t with | some (.int k) => some k | _ => none))) = true := by kernel_rfl
theorem roads_j29 : ((Rows.roadsRow.pinned == Rows.roadsRow.pinnedBy)) = true := by kernel_rfl
theorem roads_j30 : ((Rows.roadsRow.veiled == (Tryz.f6.params.toList ++ Rows.roadsSpec.plain.varTypes Tryz.prog ++ Tryz.f6.resultTypes.toList).any (Tryz.prog.veiledRec ·))) = true := by kernel_rfl
theorem roads_j31 : (Rows.roadsRow.veiledFits Tryz.prog Tryz.f6.params.toList (Tryz.f6.params.toList ++ Rows.roadsSpec.plain.varTypes Tryz.prog ++ Tryz.f6.resultTypes.toList)) = true := by kernel_rfl
set_option maxRecDepth 100000 in
theorem roads_closed : joinedFacts Tryz.prog 6 Tryz.f6 Rows.roadsSpec Rows.roadsRow = true := by
  unfold joinedFacts
  exact (andB (andB (andB (andB (andB (andB (andB (andB (andB (andB (andB (andB (andB (andB (andB (andB (andB (andB (andB (andB (andB (andB (andB (andB (andB (andB (andB (andB (andB (andB (andB roads_j0 roads_j1) roads_j2) roads_j3) roads_j4) roads_j5) roads_j6) roads_j7) roads_j8) roads_j9) roads_j10) roads_j11) roads_j12) roads_j13) roads_j14) roads_j15) roads_j16) roads_j17) roads_j18) roads_j19) roads_j20) roads_j21) roads_j22) roads_j23) roads_j24) roads_j25) roads_j26) roads_j27) roads_j28) roads_j29) roads_j30) roads_j31)
theorem roads_row : Rows.RoadsSaid :=
  OpenClaim.holds_of_wide 6 Tryz.f6 rfl rfl rfl rfl rfl rfl rfl ⟨rfl, rfl, rfl, rfl, rfl⟩ rfl rfl rfl rfl rfl (by kernel_rfl) Tryz.func6 roads_closed
    (of_decide_eq_true (by kernel_rfl)) (by unfold Func.isWrapper; first | (rw [if_pos (by decide +kernel)]; kernel_rfl) | (rw [if_neg (by decide +kernel)]; exact ⟨rfl, rfl⟩))
    (fun os started H enc _ => roads_lifted os started H enc)

theorem roads_card : Rows.RoadsCardSaid :=
  Claim7.holds_tied_plain_at .later [] [.data, .data, .data] true (true, "c113fd8fa8dcdeb44cfe1f41cff3f08955f07751af47e4ecdc05dfca0cf1060e") false
    roads_row (fun _ h => by cases h) (by kernel_rfl) (fun _ h => by cases h) roads_row_tie rfl ⟨rfl, rfl⟩ (by kernel_rfl) rfl
    (fun f fn hf hfn => by
      obtain rfl : f = 6 := Option.some.inj ((show Tryz.prog.funcNamed "rulebook/rulebookkeep.Roads" = some 6 by kernel_rfl).symm.trans hf) |>.symm
      obtain rfl : fn = Tryz.f6 := (Option.some.inj (Tryz.func6.symm.trans hfn)).symm
      exact ⟨by kernel_rfl, fun j t ht => by
        rw [Tryz.params6] at ht
        have hm : t ∈ [3, 3, 25] := by simpa using Array.mem_of_getElem? ht
        have hall : ([3, 3, 25].all fun u => !Tryz.prog.wantsStandIn u) = true := by kernel_rfl
        exact (show Tryz.prog.wantsStandIn t = false by simpa using List.all_eq_true.1 hall t hm)⟩)
    (by kernel_rfl)
end Go.Proofs.YtmoeoppbmhfbpaaGreatDoor
