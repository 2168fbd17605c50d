import Derived.Test.YtmoeoppbmhfbpabGreatDoorGRowHyp
import Derived.Test.YtmoeoppbmhfbpabGreatDoorGLawP
import Derived.Test.YtmoeoppbmhfbpabGreatDoorRows
import Derived.Test.YtmoeoppbmhfbpabGreatDoorCards
import Derived.Test.YtmoeoppbmhfbpabGreatDoorTie
import Derived.LaidMore
import Derived.Stop.Joined
import Derived.SevenTiedAt
/- The row and the card of Spent. -/
namespace Go.Proofs.YtmoeoppbmhfbpabGreatDoor
open Go.ChangeShapes Go.WideShapes Go.ChangeAt Go.WideMaps Go.WideElems Go.RowKit
open Go.Proofs.YtmoeoppbmhfbpabGreatDoorG (spent_spec st0 gh0 inv0)
set_option linter.unusedVariables false

theorem calls_law4 {f : FuncId} {W : World} {s0 : ByteArray} {n1 : Int} {n2 : Int} {n3 : Int} (h : Abs.ACalls Tryz.prog f [Abs.str s0.data.toList, Abs.sc (.int .i64 n1), Abs.sc (.int .i64 n2), Abs.sc (.int .i64 n3)] st0 fun r σ' => r = Abs.sc (.bool true) ∧ Abs.Keep st0 σ') (hy : Abs.Hyp W.heap.size W) :
    Calls Tryz.prog f #[.string s0, .int .i64 n1, .int .i64 n2, .int .i64 n3] W fun e w' => e = .returned (.bool true) ∧ Below W.heap.size W w' := by
  have hv0 : Abs.VR (gh0 W) st0 W (.string s0) (Abs.str s0.data.toList) := by
    show Abs.VR (gh0 W) st0 W (.string s0) (Abs.sc (.string (Abs.bs s0.data.toList)))
    rw [show Abs.bs s0.data.toList = s0 by simp [Abs.bs]]; exact Abs.VR.sc _
  refine (h.2 (gh0 W) W #[.string s0, .int .i64 n1, .int .i64 n2, .int .i64 n3] (inv0 W hy) (Abs.All2.cons hv0 (Abs.All2.cons (Abs.VR.sc _) (Abs.All2.cons (Abs.VR.sc _) (Abs.All2.cons (Abs.VR.sc _) (Abs.All2.nil _)))))).mono ?_
  rintro e w' ⟨v2, G', y, σ', rfl, I', E, hvr, rfl, -⟩
  have h2 : v2 = .bool true := hvr.unfold
  refine ⟨by rw [h2], ?_⟩
  have hb := I'.below
  rw [E.base, E.w0] at hb
  exact hb

theorem own : ownKnob Tryz.prog.godebug = none := by kernel_rfl
theorem laidOut : laidOutB Tryz.prog = true := by kernel_rfl
theorem door_met (os : Os) (args : Array Value) : laidMetH Tryz.prog laid3 ((World.doorLaid Tryz.prog 400 os).forCall (fun _ _ => 0) ⟨#[], args, []⟩).memory :=
  laidMetH_of_parts3 (fuel := 8) (laidMet_of_run' 8 (by kernel_rfl) (by kernel_rfl)) (by kernel_rfl) (by kernel_rfl)
theorem int_rng {P : Program} {w : World} {r : Reach} {base : Nat} {t : TypeId} {n : Int} (ht : P.underlying t = some (.int .i64)) (h : Value.okWide P w r base t (.int .i64 n)) : -9223372036854775808 ≤ n ∧ n ≤ 9223372036854775807 := by
  simp only [Value.okWide, ht, Cell.okWide, Cell.ok, IntKind.has] at h
  have h1 : IntKind.i64.min = -9223372036854775808 := by decide
  have h2 : IntKind.i64.max = 9223372036854775807 := by decide
  rw [h1, h2] at h
  omega

set_option maxRecDepth 100000 in
theorem spent_lifted (os : Os) (started : os.Started) (H : Type) (enc : TypeId × Value → H) :
    ReturnsInHanded {} Tryz.checked os 5 .any (fun w args => (Rows.spentSpec.pre enc Tryz.prog Tryz.f5 [] false w args ∧ laidMetH Tryz.prog laid3 w) ∧ sizedMet enc Tryz.prog Tryz.f5 (OpenSpec.ofChange Rows.spentSpec) false w args)
      (Rows.spentSpec.post enc Tryz.prog Tryz.f5 false true false false) := by
  refine returnsInHanded_of_change_and (C := Tryz.checked) (X := fun w _ => laidMetH Tryz.prog laid3 w) (fun _ _ _ hh h => h.of_heap hh) own started (by kernel_rfl) Tryz.func5
    (ChangeSpec.witness_shaped (enc := enc) (C := Tryz.checked) (os := os) (X := fun w _ => laidMetH Tryz.prog laid3 w) false (World.doorLaid Tryz.prog 400 os) #[.string ⟨#[]⟩, .int .i64 0, .int .i64 0, .int .i64 0] 8 rfl (World.shaped_of_RefB (by kernel_rfl) (by kernel_rfl)) (by kernel_rfl) (by kernel_rfl) (by kernel_rfl) (door_met os _)) ?_
  intro W base args ds gs before hval0 hW _ _ hL _
  have hval : ∀ (j : Nat) t v, Tryz.f5.params[j]? = some t → args[j]? = some v → Value.okWide Tryz.prog W .any base t v := hval0
  have hW' := hW
  obtain ⟨p, q, hA0, hV, rfl, hfz, hnd⟩ := hW
  have hA : DataW.TrodAll enc Tryz.prog W 0 (fun _ => true) true Tryz.f5.params.toList args.toList ds p := hA0
  rw [Tryz.params5] at hA hval
  obtain ⟨v0, vs0, d0, ds0, p0, q0, hargs, rfl, rfl, h0, r0⟩ := trodAll_cons hA
  obtain ⟨v1, vs1, d1, ds1, p1, q1, rfl, rfl, rfl, h1, r1⟩ := trodAll_cons r0
  obtain ⟨v2, vs2, d2, ds2, p2, q2, rfl, rfl, rfl, h2, r2⟩ := trodAll_cons r1
  obtain ⟨v3, vs3, d3, ds3, p3, q3, rfl, rfl, rfl, h3, r3⟩ := trodAll_cons r2
  obtain ⟨rfl, rfl, rfl⟩ := trodAll_nil r3
  obtain rfl : args = #[v0, v1, v2, v3] := by cases args; simp_all
  obtain ⟨rfl, rfl⟩ := trodVars_none hV
  obtain ⟨s0, rfl⟩ := okWide_string Tryz.underlying9 (hval 0 9 v0 rfl rfl)
  obtain ⟨n1, rfl⟩ := okWide_int Tryz.underlying3 (hval 1 3 v1 rfl rfl)
  obtain ⟨lo1, hi1⟩ := int_rng Tryz.underlying3 (hval 1 3 (.int .i64 n1) rfl rfl)
  obtain ⟨n2, rfl⟩ := okWide_int Tryz.underlying3 (hval 2 3 v2 rfl rfl)
  obtain ⟨lo2, hi2⟩ := int_rng Tryz.underlying3 (hval 2 3 (.int .i64 n2) rfl rfl)
  obtain ⟨n3, rfl⟩ := okWide_int Tryz.underlying3 (hval 3 3 v3 rfl rfl)
  obtain ⟨lo3, hi3⟩ := int_rng Tryz.underlying3 (hval 3 3 (.int .i64 n3) rfl rfl)
  have lt0 : ∀ x ∈ p0, x.block < W.heap.size := by obtain ⟨m, hm⟩ := h0; exact DataW.trod_lt m _ _ _ hm
  have lt1 : ∀ x ∈ p1, x.block < W.heap.size := by obtain ⟨m, hm⟩ := h1; exact DataW.trod_lt m _ _ _ hm
  have lt2 : ∀ x ∈ p2, x.block < W.heap.size := by obtain ⟨m, hm⟩ := h2; exact DataW.trod_lt m _ _ _ hm
  have lt3 : ∀ x ∈ p3, x.block < W.heap.size := by obtain ⟨m, hm⟩ := h3; exact DataW.trod_lt m _ _ _ hm
  clear hA0 hval0
  refine (calls_law4 (spent_spec s0.data.toList n1 n2 n3 lo1 hi1 lo2 hi2 lo3 hi3 st0) (hyp_of hL)).mono fun e W' ⟨he, bel⟩ => ?_
  subst he
  exact ⟨_, rfl, _, _, _, [], _, [], hW', trodAll_mk1 (shut_bool Tryz.underlying4 _), (trodAll_cons_mk (Below.trod laidOut (by kernel_rfl) (of_decide_eq_true (by kernel_rfl)) h0 bel lt0) (trodAll_cons_mk (Below.trod laidOut (by kernel_rfl) (of_decide_eq_true (by kernel_rfl)) h1 bel lt1) (trodAll_cons_mk (Below.trod laidOut (by kernel_rfl) (of_decide_eq_true (by kernel_rfl)) h2 bel lt2) (trodAll_cons_mk (Below.trod laidOut (by kernel_rfl) (of_decide_eq_true (by kernel_rfl)) h3 bel lt3) trodAll_mk0)))), rfl, bel.frame _, fun h => by cases h⟩

theorem andB {a b : Bool} (h : a = true) (k : b = true) : (a && b) = true := by rw [h, k]; rfl
theorem spent_j0 : (Rows.spentRow.wf (OpenSpec.ofChange Rows.spentSpec)) = true := by kernel_rfl
theorem spent_j1 : (laidOutB Tryz.prog) = true := by kernel_rfl
theorem spent_j2 : (mapsRowed Tryz.prog) = true := by kernel_rfl
theorem spent_j3 : (Tryz.f5.params.all (Tryz.prog.readableRec ·)) = true := by kernel_rfl
theorem spent_j4 : (namedTie Tryz.prog Rows.spentRow.named Rows.spentSpec.vars) = true := by kernel_rfl
theorem spent_j5 : ((Rows.spentRow.stops == [])) = true := by kernel_rfl
theorem spent_j6 : ((Tryz.prog.stops == [])) = true := by kernel_rfl
theorem spent_j7 : ((Rows.spentRow.knobs == [])) = true := by kernel_rfl
theorem spent_j8 : ((Tryz.prog.stopKnobs == [])) = true := by kernel_rfl
theorem spent_j9 : ((Rows.spentRow.inPlace == Tryz.prog.inPlace 5)) = true := by kernel_rfl
theorem spent_j10 : ((Rows.spentRow.unfollowed == Tryz.prog.unfollowed 5)) = true := by kernel_rfl
theorem spent_j11 : ((Rows.spentRow.recurses == Tryz.prog.recurses 5)) = true := by kernel_rfl
theorem spent_j12 : ((Rows.spentRow.named == Tryz.prog.varsNamed 5)) = true := by kernel_rfl
theorem spent_j13 : ((Rows.spentRow.maps == (Tryz.f5.params.toList ++ Rows.spentSpec.plain.varTypes Tryz.prog).any (Tryz.prog.mapsRec ·))) = true := by kernel_rfl
theorem spent_j14 : ((Rows.spentRow.ifaces == (Tryz.f5.params.toList ++ Rows.spentSpec.plain.varTypes Tryz.prog).any (Tryz.prog.ifacesRec ·))) = true := by kernel_rfl
theorem spent_j15 : ((Rows.spentRow.mapsOut == Tryz.prog.mapsAmong Tryz.f5.resultTypes.toList)) = true := by kernel_rfl
theorem spent_j16 : ((Rows.spentRow.loops == (Tryz.f5.params.toList ++ Rows.spentSpec.plain.varTypes Tryz.prog).any (Tryz.prog.loopsFrom ·))) = true := by kernel_rfl
theorem spent_j17 : ((Rows.spentRow.wideKeys == (Tryz.f5.params.toList ++ Rows.spentSpec.plain.varTypes Tryz.prog ++ Tryz.f5.resultTypes.toList).any (Tryz.prog.wideKeysFrom ·))) = true := by kernel_rfl
theorem spent_j18 : (Rows.spentSpec.vars.all (Tryz.prog.varReadable ·)) = true := by kernel_rfl
theorem spent_j19 : (Tryz.f5.resultTypes.all (fun t => Tryz.prog.readableRec t && decide (t < Tryz.prog.types.size))) = true := by kernel_rfl
theorem spent_j20 : ((Rows.spentRow.ifacesOut == Tryz.f5.resultTypes.toList.any (Tryz.prog.ifacesRec ·))) = true := by kernel_rfl
theorem spent_j21 : ((Rows.spentRow.loopsOut == Tryz.f5.resultTypes.toList.any (Tryz.prog.loopsFrom ·))) = true := by kernel_rfl
theorem spent_j22 : ((Rows.spentRow.plainKeys == Tryz.prog.plainKeys)) = true := by kernel_rfl
theorem spent_j23 : (Rows.spentRow.shortTexts.isNone) = true := by kernel_rfl
theorem spent_j24 : (Tryz.prog.stopsHeard) = true := by kernel_rfl
theorem spent_j25 : (Tryz.prog.mayEnter) = true := by kernel_rfl
theorem spent_j26 : ((Rows.spentRow.lifted == Tryz.prog.liftsFinal)) = true := by kernel_rfl
theorem spent_j27 : ((Tryz.prog.make == some Rows.spentRow.make)) = true := by kernel_rfl
theorem spent_j28 : ((Rows.spentRow.kinds == (if Rows.spentRow.domain.isEmpty then [] else Tryz.f5.params.toList.map fun t => match Tryz.prog.underlying t with | some (.int k) => some k | _ => none))) = true := by kernel_rfl
theorem spent_j29 : ((Rows.spentRow.pinned == Rows.spentRow.pinnedBy)) = true := by kernel_rfl
theorem spent_j30 : ((Rows.spentRow.veiled == (Tryz.f5.params.toList ++ Rows.spentSpec.plain.varTypes Tryz.prog ++ Tryz.f5.resultTypes.toList).any (Tryz.prog.veiledRec ·))) = true := by kernel_rfl
theorem spent_j31 : (Rows.spentRow.veiledFits Tryz.prog Tryz.f5.params.toList (Tryz.f5.params.toList ++ Rows.spentSpec.plain.varTypes Tryz.prog ++ Tryz.f5.resultTypes.toList)) = true := by kernel_rfl
set_option maxRecDepth 100000 in
theorem spent_closed : joinedFacts Tryz.prog 5 Tryz.f5 Rows.spentSpec Rows.spentRow = true := by
  unfold joinedFacts
  exact (andB (andB (andB (andB (andB (andB (andB (andB (andB (andB (andB (andB (andB (andB (andB (andB (andB (andB (andB (andB (andB (andB (andB (andB (andB (andB (andB (andB (andB (andB (andB spent_j0 spent_j1) spent_j2) spent_j3) spent_j4) spent_j5) spent_j6) spent_j7) spent_j8) spent_j9) spent_j10) spent_j11) spent_j12) spent_j13) spent_j14) spent_j15) spent_j16) spent_j17) spent_j18) spent_j19) spent_j20) spent_j21) spent_j22) spent_j23) spent_j24) spent_j25) spent_j26) spent_j27) spent_j28) spent_j29) spent_j30) spent_j31)
theorem spent_row : Rows.SpentSaid :=
  OpenClaim.holds_of_wide 5 Tryz.f5 rfl rfl rfl rfl rfl rfl rfl ⟨rfl, rfl, rfl, rfl, rfl⟩ rfl rfl rfl rfl rfl (by kernel_rfl) Tryz.func5 spent_closed
    (of_decide_eq_true (by kernel_rfl)) (by unfold Func.isWrapper; first | (rw [if_pos (by decide +kernel)]; kernel_rfl) | (rw [if_neg (by decide +kernel)]; exact ⟨rfl, rfl⟩))
    (fun os started H enc _ => spent_lifted os started H enc)

theorem spent_card : Rows.SpentCardSaid :=
  Claim7.holds_tied_plain_at .later [] [.data, .data, .data] true (true, "ce6d409c92cfb325493f23df0ee152d93fc58d4d47db794dd823abe930f9a0b8") false
    spent_row (fun _ h => by cases h) (by kernel_rfl) (fun _ h => by cases h) spent_row_tie rfl ⟨rfl, rfl⟩ (by kernel_rfl) rfl
    (fun f fn hf hfn => by
      obtain rfl : f = 5 := Option.some.inj ((show Tryz.prog.funcNamed "rulebook/rulebookkeep.Spent" = some 5 by kernel_rfl).symm.trans hf) |>.symm
      obtain rfl : fn = Tryz.f5 := (Option.some.inj (Tryz.func5.symm.trans hfn)).symm
      exact ⟨by kernel_rfl, fun j t ht => by
        rw [Tryz.params5] at ht
        have hm : t ∈ [9, 3, 3, 3] := by simpa using Array.mem_of_getElem? ht
        have hall : ([9, 3, 3, 3].all fun u => !Tryz.prog.wantsStandIn u) = true := by kernel_rfl
        exact (show Tryz.prog.wantsStandIn t = false by simpa using List.all_eq_true.1 hall t hm)⟩)
    (by kernel_rfl)
end Go.Proofs.YtmoeoppbmhfbpabGreatDoor
