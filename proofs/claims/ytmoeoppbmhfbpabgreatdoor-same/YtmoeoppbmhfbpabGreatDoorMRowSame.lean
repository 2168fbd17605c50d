import Derived.Test.YtmoeoppbmhfbpabGreatDoorLRowHyp
import Derived.Test.YtmoeoppbmhfbpabGreatDoorMMdlC
import Derived.Test.YtmoeoppbmhfbpabGreatDoorRows
import Derived.Test.YtmoeoppbmhfbpabGreatDoorCards
import Derived.Test.YtmoeoppbmhfbpabGreatDoorTie
import Derived.LaidMore
import Derived.Stop.Joined
import Derived.SevenTiedAt
/- The row and the card of Same. -/
namespace Go.Proofs.YtmoeoppbmhfbpabGreatDoor
open Go.ChangeShapes Go.WideShapes Go.ChangeAt Go.WideMaps Go.WideElems Go.RowKit
open Go.Proofs.YtmoeoppbmhfbpabGreatDoorL (Same_spec st0 gh0 inv0)
set_option linter.unusedVariables false

theorem calls_law5 {f : FuncId} {W : World} {s0 : ByteArray} {s1 : ByteArray} {n2 : Int} {s3 : ByteArray} {n4 : Int} (h : Abs.ACalls Tryz.prog f [Abs.str s0.data.toList, Abs.str s1.data.toList, Abs.sc (.int .i64 n2), Abs.str s3.data.toList, Abs.sc (.int .i64 n4)] st0 fun r σ' => r = Abs.sc (.bool true) ∧ Abs.Keep st0 σ') (hy : Abs.Hyp W.heap.size W) :
    Calls Tryz.prog f #[.string s0, .string s1, .int .i64 n2, .string s3, .int .i64 n4] W fun e w' => e = .returned (.bool true) ∧ Below W.heap.size W w' := by
  have hv0 : Abs.VR (gh0 W) st0 W (.string s0) (Abs.str s0.data.toList) := by
    show Abs.VR (gh0 W) st0 W (.string s0) (Abs.sc (.string (Abs.bs s0.data.toList)))
    rw [show Abs.bs s0.data.toList = s0 by simp [Abs.bs]]; exact Abs.VR.sc _
  have hv1 : Abs.VR (gh0 W) st0 W (.string s1) (Abs.str s1.data.toList) := by
    show Abs.VR (gh0 W) st0 W (.string s1) (Abs.sc (.string (Abs.bs s1.data.toList)))
    rw [show Abs.bs s1.data.toList = s1 by simp [Abs.bs]]; exact Abs.VR.sc _
  have hv3 : Abs.VR (gh0 W) st0 W (.string s3) (Abs.str s3.data.toList) := by
    show Abs.VR (gh0 W) st0 W (.string s3) (Abs.sc (.string (Abs.bs s3.data.toList)))
    rw [show Abs.bs s3.data.toList = s3 by simp [Abs.bs]]; exact Abs.VR.sc _
  refine (h.2 (gh0 W) W #[.string s0, .string s1, .int .i64 n2, .string s3, .int .i64 n4] (inv0 W hy) (Abs.All2.cons hv0 (Abs.All2.cons hv1 (Abs.All2.cons (Abs.VR.sc _) (Abs.All2.cons hv3 (Abs.All2.cons (Abs.VR.sc _) (Abs.All2.nil _))))))).mono ?_
  rintro e w' ⟨v2, G', y, σ', rfl, I', E, hvr, rfl, -⟩
  have h2 : v2 = .bool true := hvr.unfold
  refine ⟨by rw [h2], ?_⟩
  have hb := I'.below
  rw [E.base, E.w0] at hb
  exact hb

theorem own : ownKnob Tryz.prog.godebug = none := by kernel_rfl
theorem laidOut : laidOutB Tryz.prog = true := by kernel_rfl
theorem door_met (os : Os) (args : Array Value) : laidMetH Tryz.prog laid3 ((World.doorLaid Tryz.prog 400 os).forCall (fun _ _ => 0) ⟨#[], args, []⟩).memory :=
  laidMetH_of_parts3 (fuel := 8) (laidMet_of_run' 8 (by kernel_rfl) (by kernel_rfl)) (by kernel_rfl) (by kernel_rfl)
theorem int_rng {P : Program} {w : World} {r : Reach} {base : Nat} {t : TypeId} {n : Int} (ht : P.underlying t = some (.int .i64)) (h : Value.okWide P w r base t (.int .i64 n)) : -9223372036854775808 ≤ n ∧ n ≤ 9223372036854775807 := by
  simp only [Value.okWide, ht, Cell.okWide, Cell.ok, IntKind.has] at h
  have h1 : IntKind.i64.min = -9223372036854775808 := by decide
  have h2 : IntKind.i64.max = 9223372036854775807 := by decide
  rw [h1, h2] at h
  omega

set_option maxRecDepth 100000 in
theorem same_lifted (os : Os) (started : os.Started) (H : Type) (enc : TypeId × Value → H) :
    ReturnsInHanded {} Tryz.checked os 7 .any (fun w args => (Rows.sameSpec.pre enc Tryz.prog Tryz.f7 [] false w args ∧ laidMetH Tryz.prog laid3 w) ∧ sizedMet enc Tryz.prog Tryz.f7 (OpenSpec.ofChange Rows.sameSpec) false w args)
      (Rows.sameSpec.post enc Tryz.prog Tryz.f7 false true false false) := by
  refine returnsInHanded_of_change_and (C := Tryz.checked) (X := fun w _ => laidMetH Tryz.prog laid3 w) (fun _ _ _ hh h => h.of_heap hh) own started (by kernel_rfl) Tryz.func7
    (ChangeSpec.witness_shaped (enc := enc) (C := Tryz.checked) (os := os) (X := fun w _ => laidMetH Tryz.prog laid3 w) false (World.doorLaid Tryz.prog 400 os) #[.string ⟨#[]⟩, .string ⟨#[]⟩, .int .i64 0, .string ⟨#[]⟩, .int .i64 0] 8 rfl (World.shaped_of_RefB (by kernel_rfl) (by kernel_rfl)) (by kernel_rfl) (by kernel_rfl) (by kernel_rfl) (door_met os _)) ?_
  intro W base args ds gs before hval0 hW _ _ hL _
  have hval : ∀ (j : Nat) t v, Tryz.f7.params[j]? = some t → args[j]? = some v → Value.okWide Tryz.prog W .any base t v := hval0
  have hW' := hW
  obtain ⟨p, q, hA0, hV, rfl, hfz, hnd⟩ := hW
  have hA : DataW.TrodAll enc Tryz.prog W 0 (fun _ => true) true Tryz.f7.params.toList args.toList ds p := hA0
  rw [Tryz.params7] at hA hval
  obtain ⟨v0, vs0, d0, ds0, p0, q0, hargs, rfl, rfl, h0, r0⟩ := trodAll_cons hA
  obtain ⟨v1, vs1, d1, ds1, p1, q1, rfl, rfl, rfl, h1, r1⟩ := trodAll_cons r0
  obtain ⟨v2, vs2, d2, ds2, p2, q2, rfl, rfl, rfl, h2, r2⟩ := trodAll_cons r1
  obtain ⟨v3, vs3, d3, ds3, p3, q3, rfl, rfl, rfl, h3, r3⟩ := trodAll_cons r2
  obtain ⟨v4, vs4, d4, ds4, p4, q4, rfl, rfl, rfl, h4, r4⟩ := trodAll_cons r3
  obtain ⟨rfl, rfl, rfl⟩ := trodAll_nil r4
  obtain rfl : args = #[v0, v1, v2, v3, v4] := by cases args; simp_all
  obtain ⟨rfl, rfl⟩ := trodVars_none hV
  obtain ⟨s0, rfl⟩ := okWide_string Tryz.underlying9 (hval 0 9 v0 rfl rfl)
  obtain ⟨s1, rfl⟩ := okWide_string Tryz.underlying9 (hval 1 9 v1 rfl rfl)
  obtain ⟨n2, rfl⟩ := okWide_int Tryz.underlying3 (hval 2 3 v2 rfl rfl)
  obtain ⟨lo2, hi2⟩ := int_rng Tryz.underlying3 (hval 2 3 (.int .i64 n2) rfl rfl)
  obtain ⟨s3, rfl⟩ := okWide_string Tryz.underlying9 (hval 3 9 v3 rfl rfl)
  obtain ⟨n4, rfl⟩ := okWide_int Tryz.underlying3 (hval 4 3 v4 rfl rfl)
  obtain ⟨lo4, hi4⟩ := int_rng Tryz.underlying3 (hval 4 3 (.int .i64 n4) rfl rfl)
  have lt0 : ∀ x ∈ p0, x.block < W.heap.size := by obtain ⟨m, hm⟩ := h0; exact DataW.trod_lt m _ _ _ hm
  have lt1 : ∀ x ∈ p1, x.block < W.heap.size := by obtain ⟨m, hm⟩ := h1; exact DataW.trod_lt m _ _ _ hm
  have lt2 : ∀ x ∈ p2, x.block < W.heap.size := by obtain ⟨m, hm⟩ := h2; exact DataW.trod_lt m _ _ _ hm
  have lt3 : ∀ x ∈ p3, x.block < W.heap.size := by obtain ⟨m, hm⟩ := h3; exact DataW.trod_lt m _ _ _ hm
  have lt4 : ∀ x ∈ p4, x.block < W.heap.size := by obtain ⟨m, hm⟩ := h4; exact DataW.trod_lt m _ _ _ hm
  clear hA0 hval0
  refine (calls_law5 (Same_spec s0.data.toList s1.data.toList n2 s3.data.toList n4 lo2 hi2 lo4 hi4 st0) (hyp_of hL)).mono fun e W' ⟨he, bel⟩ => ?_
  subst he
  exact ⟨_, rfl, _, _, _, [], _, [], hW', trodAll_mk1 (shut_bool Tryz.underlying4 _), (trodAll_cons_mk (Below.trod laidOut (by kernel_rfl) (of_decide_eq_true (by kernel_rfl)) h0 bel lt0) (trodAll_cons_mk (Below.trod laidOut (by kernel_rfl) (of_decide_eq_true (by kernel_rfl)) h1 bel lt1) (trodAll_cons_mk (Below.trod laidOut (by kernel_rfl) (of_decide_eq_true (by kernel_rfl)) h2 bel lt2) (trodAll_cons_mk (Below.trod laidOut (by kernel_rfl) (of_decide_eq_true (by kernel_rfl)) h3 bel lt3) (trodAll_cons_mk (Below.trod laidOut (by kernel_rfl) (of_decide_eq_true (by kernel_rfl)) h4 bel lt4) trodAll_mk0))))), rfl, bel.frame _, fun h => by cases h⟩

theorem andB {a b : Bool} (h : a = true) (k : b = true) : (a && b) = true := by rw [h, k]; rfl
theorem same_j0 : (Rows.sameRow.wf (OpenSpec.ofChange Rows.sameSpec)) = true := by kernel_rfl
theorem same_j1 : (laidOutB Tryz.prog) = true := by kernel_rfl
theorem same_j2 : (mapsRowed Tryz.prog) = true := by kernel_rfl
theorem same_j3 : (Tryz.f7.params.all (Tryz.prog.readableRec ·)) = true := by kernel_rfl
theorem same_j4 : (namedTie Tryz.prog Rows.sameRow.named Rows.sameSpec.vars) = true := by kernel_rfl
theorem same_j5 : ((Rows.sameRow.stops == [])) = true := by kernel_rfl
theorem same_j6 : ((Tryz.prog.stops == [])) = true := by kernel_rfl
theorem same_j7 : ((Rows.sameRow.knobs == [])) = true := by kernel_rfl
theorem same_j8 : ((Tryz.prog.stopKnobs == [])) = true := by kernel_rfl
theorem same_j9 : ((Rows.sameRow.inPlace == Tryz.prog.inPlace 7)) = true := by kernel_rfl
theorem same_j10 : ((Rows.sameRow.unfollowed == Tryz.prog.unfollowed 7)) = true := by kernel_rfl
theorem same_j11 : ((Rows.sameRow.recurses == Tryz.prog.recurses 7)) = true := by kernel_rfl
theorem same_j12 : ((Rows.sameRow.named == Tryz.prog.varsNamed 7)) = true := by kernel_rfl
theorem same_j13 : ((Rows.sameRow.maps == (Tryz.f7.params.toList ++ Rows.sameSpec.plain.varTypes Tryz.prog).any (Tryz.prog.mapsRec ·))) = true := by kernel_rfl
theorem same_j14 : ((Rows.sameRow.ifaces == (Tryz.f7.params.toList ++ Rows.sameSpec.plain.varTypes Tryz.prog).any (Tryz.prog.ifacesRec ·))) = true := by kernel_rfl
theorem same_j15 : ((Rows.sameRow.mapsOut == Tryz.prog.mapsAmong Tryz.f7.resultTypes.toList)) = true := by kernel_rfl
theorem same_j16 : ((Rows.sameRow.loops == (Tryz.f7.params.toList ++ Rows.sameSpec.plain.varTypes Tryz.prog).any (Tryz.prog.loopsFrom ·))) = true := by kernel_rfl
theorem same_j17 : ((Rows.sameRow.wideKeys == (Tryz.f7.params.toList ++ Rows.sameSpec.plain.varTypes Tryz.prog ++ Tryz.f7.resultTypes.toList).any (Tryz.prog.wideKeysFrom ·))) = true := by kernel_rfl
theorem same_j18 : (Rows.sameSpec.vars.all (Tryz.prog.varReadable ·)) = true := by kernel_rfl
theorem same_j19 : (Tryz.f7.resultTypes.all (fun t => Tryz.prog.readableRec t && decide (t < Tryz.prog.types.size))) = true := by kernel_rfl
theorem same_j20 : ((Rows.sameRow.ifacesOut == Tryz.f7.resultTypes.toList.any (Tryz.prog.ifacesRec ·))) = true := by kernel_rfl
theorem same_j21 : ((Rows.sameRow.loopsOut == Tryz.f7.resultTypes.toList.any (Tryz.prog.loopsFrom ·))) = true := by kernel_rfl
theorem same_j22 : ((Rows.sameRow.plainKeys == Tryz.prog.plainKeys)) = true := by kernel_rfl
theorem same_j23 : (Rows.sameRow.shortTexts.isNone) = true := by kernel_rfl
theorem same_j24 : (Tryz.prog.stopsHeard) = true := by kernel_rfl
theorem same_j25 : (Tryz.prog.mayEnter) = true := by kernel_rfl
theorem same_j26 : ((Rows.sameRow.lifted == Tryz.prog.liftsFinal)) = true := by kernel_rfl
theorem same_j27 : ((Tryz.prog.make == some Rows.sameRow.make)) = true := by kernel_rfl
theorem same_j28 : ((Rows.sameRow.kinds == (if Rows.sameRow.domain.isEmpty then [] else Tryz.f7.params.toList.map fun t => match Tryz.prog.underlying t with | some (.int k) => some k | _ => none))) = true := by kernel_rfl
theorem same_j29 : ((Rows.sameRow.pinned == Rows.sameRow.pinnedBy)) = true := by kernel_rfl
theorem same_j30 : ((Rows.sameRow.veiled == (Tryz.f7.params.toList ++ Rows.sameSpec.plain.varTypes Tryz.prog ++ Tryz.f7.resultTypes.toList).any (Tryz.prog.veiledRec ·))) = true := by kernel_rfl
theorem same_j31 : (Rows.sameRow.veiledFits Tryz.prog Tryz.f7.params.toList (Tryz.f7.params.toList ++ Rows.sameSpec.plain.varTypes Tryz.prog ++ Tryz.f7.resultTypes.toList)) = true := by kernel_rfl
set_option maxRecDepth 100000 in
theorem same_closed : joinedFacts Tryz.prog 7 Tryz.f7 Rows.sameSpec Rows.sameRow = true := by
  unfold joinedFacts
  exact (andB (andB (andB (andB (andB (andB (andB (andB (andB (andB (andB (andB (andB (andB (andB (andB (andB (andB (andB (andB (andB (andB (andB (andB (andB (andB (andB (andB (andB (andB (andB same_j0 same_j1) same_j2) same_j3) same_j4) same_j5) same_j6) same_j7) same_j8) same_j9) same_j10) same_j11) same_j12) same_j13) same_j14) same_j15) same_j16) same_j17) same_j18) same_j19) same_j20) same_j21) same_j22) same_j23) same_j24) same_j25) same_j26) same_j27) same_j28) same_j29) same_j30) same_j31)
theorem same_row : Rows.SameSaid :=
  OpenClaim.holds_of_wide 7 Tryz.f7 rfl rfl rfl rfl rfl rfl rfl ⟨rfl, rfl, rfl, rfl, rfl⟩ rfl rfl rfl rfl rfl (by kernel_rfl) Tryz.func7 same_closed
    (of_decide_eq_true (by kernel_rfl)) (by unfold Func.isWrapper; first | (rw [if_pos (by decide +kernel)]; kernel_rfl) | (rw [if_neg (by decide +kernel)]; exact ⟨rfl, rfl⟩))
    (fun os started H enc _ => same_lifted os started H enc)

theorem same_card : Rows.SameCardSaid :=
  Claim7.holds_tied_plain_at .later [] [.data, .data, .data] true (true, "ce6d409c92cfb325493f23df0ee152d93fc58d4d47db794dd823abe930f9a0b8") false
    same_row (fun _ h => by cases h) (by kernel_rfl) (fun _ h => by cases h) same_row_tie rfl ⟨rfl, rfl⟩ (by kernel_rfl) rfl
    (fun f fn hf hfn => by
      obtain rfl : f = 7 := Option.some.inj ((show Tryz.prog.funcNamed "rulebook/rulebookkeep.Same" = some 7 by kernel_rfl).symm.trans hf) |>.symm
      obtain rfl : fn = Tryz.f7 := (Option.some.inj (Tryz.func7.symm.trans hfn)).symm
      exact ⟨by kernel_rfl, fun j t ht => by
        rw [Tryz.params7] at ht
        have hm : t ∈ [9, 9, 3, 9, 3] := by simpa using Array.mem_of_getElem? ht
        have hall : ([9, 9, 3, 9, 3].all fun u => !Tryz.prog.wantsStandIn u) = true := by kernel_rfl
        exact (show Tryz.prog.wantsStandIn t = false by simpa using List.all_eq_true.1 hall t hm)⟩)
    (by kernel_rfl)
end Go.Proofs.YtmoeoppbmhfbpabGreatDoor
