import Derived.Test.YtmoeoppbmhfbpabGreatDoorJRowHyp
import Derived.Test.YtmoeoppbmhfbpabGreatDoorJSgtE
import Derived.Test.YtmoeoppbmhfbpabGreatDoorJRoaF
import Derived.Test.YtmoeoppbmhfbpabGreatDoorRows
import Derived.Test.YtmoeoppbmhfbpabGreatDoorCards
import Derived.Test.YtmoeoppbmhfbpabGreatDoorTie
import Derived.LaidMore
import Derived.Stop.Joined
import Derived.SevenTiedAt
/- The row and the card of Straight. -/
namespace Go.Proofs.YtmoeoppbmhfbpabGreatDoor
open Go.ChangeShapes Go.WideShapes Go.ChangeAt Go.WideMaps Go.WideElems Go.RowKit
open Go.Proofs.YtmoeoppbmhfbpabGreatDoorJ (straight_spec open_ints icells st0 gh0 inv0)
set_option linter.unusedVariables false

theorem calls_law5 {f : FuncId} {W : World} {n0 : Int} {n1 : Int} {a2 : Option Addr} {len2 cap2 : Nat} {l2 : List Int} {n3 : Int} {b4 : Bool} (h : Abs.ACalls Tryz.prog f [Abs.sc (.int .i64 n0), Abs.sc (.int .i64 n1), Abs.sl 0 l2.length (icells l2), Abs.sc (.int .i64 n3), Abs.sc (.bool b4)] st0 fun r σ' => r = Abs.sc (.bool true) ∧ Abs.Keep st0 σ') (hy : Abs.Hyp W.heap.size W) (hv2 : Abs.VR (gh0 W) st0 W (.slice a2 len2 cap2) (Abs.sl 0 l2.length (icells l2))) :
    Calls Tryz.prog f #[.int .i64 n0, .int .i64 n1, .slice a2 len2 cap2, .int .i64 n3, .bool b4] W fun e w' => e = .returned (.bool true) ∧ Below W.heap.size W w' := by
  refine (h.2 (gh0 W) W #[.int .i64 n0, .int .i64 n1, .slice a2 len2 cap2, .int .i64 n3, .bool b4] (inv0 W hy) (Abs.All2.cons (Abs.VR.sc _) (Abs.All2.cons (Abs.VR.sc _) (Abs.All2.cons hv2 (Abs.All2.cons (Abs.VR.sc _) (Abs.All2.cons (Abs.VR.sc _) (Abs.All2.nil _))))))).mono ?_
  rintro e w' ⟨v2, G', y, σ', rfl, I', E, hvr, rfl, -⟩
  have h2 : v2 = .bool true := hvr.unfold
  refine ⟨by rw [h2], ?_⟩
  have hb := I'.below
  rw [E.base, E.w0] at hb
  exact hb

theorem own : ownKnob Tryz.prog.godebug = none := by kernel_rfl
theorem laidOut : laidOutB Tryz.prog = true := by kernel_rfl
theorem door_met (os : Os) (args : Array Value) : laidMetH Tryz.prog laid3 ((World.doorLaid Tryz.prog 400 os).forCall (fun _ _ => 0) ⟨#[], args, []⟩).memory :=
  laidMetH_of_parts3 (fuel := 8) (laidMet_of_run' 8 (by kernel_rfl) (by kernel_rfl)) (by kernel_rfl) (by kernel_rfl)
theorem int_rng {P : Program} {w : World} {r : Reach} {base : Nat} {t : TypeId} {n : Int} (ht : P.underlying t = some (.int .i64)) (h : Value.okWide P w r base t (.int .i64 n)) : -9223372036854775808 ≤ n ∧ n ≤ 9223372036854775807 := by
  simp only [Value.okWide, ht, Cell.okWide, Cell.ok, IntKind.has] at h
  have h1 : IntKind.i64.min = -9223372036854775808 := by decide
  have h2 : IntKind.i64.max = 9223372036854775807 := by decide
  rw [h1, h2] at h
  omega

set_option maxRecDepth 100000 in
theorem straight_lifted (os : Os) (started : os.Started) (H : Type) (enc : TypeId × Value → H) :
    ReturnsInHanded {} Tryz.checked os 8 .any (fun w args => (Rows.straightSpec.pre enc Tryz.prog Tryz.f8 [] false w args ∧ laidMetH Tryz.prog laid3 w) ∧ sizedMet enc Tryz.prog Tryz.f8 (OpenSpec.ofChange Rows.straightSpec) false w args)
      (Rows.straightSpec.post enc Tryz.prog Tryz.f8 false true false false) := by
  refine returnsInHanded_of_change_and (C := Tryz.checked) (X := fun w _ => laidMetH Tryz.prog laid3 w) (fun _ _ _ hh h => h.of_heap hh) own started (by kernel_rfl) Tryz.func8
    (ChangeSpec.witness_shaped (enc := enc) (C := Tryz.checked) (os := os) (X := fun w _ => laidMetH Tryz.prog laid3 w) false (World.doorLaid Tryz.prog 400 os) #[.int .i64 0, .int .i64 0, .slice none 0 0, .int .i64 0, .bool false] 8 rfl (World.shaped_of_RefB (by kernel_rfl) (by kernel_rfl)) (by kernel_rfl) (by kernel_rfl) (by kernel_rfl) (door_met os _)) ?_
  intro W base args ds gs before hval0 hW _ _ hL _
  have hval : ∀ (j : Nat) t v, Tryz.f8.params[j]? = some t → args[j]? = some v → Value.okWide Tryz.prog W .any base t v := hval0
  have hW' := hW
  obtain ⟨p, q, hA0, hV, rfl, hfz, hnd⟩ := hW
  have hA : DataW.TrodAll enc Tryz.prog W 0 (fun _ => true) true Tryz.f8.params.toList args.toList ds p := hA0
  rw [Tryz.params8] at hA hval
  obtain ⟨v0, vs0, d0, ds0, p0, q0, hargs, rfl, rfl, h0, r0⟩ := trodAll_cons hA
  obtain ⟨v1, vs1, d1, ds1, p1, q1, rfl, rfl, rfl, h1, r1⟩ := trodAll_cons r0
  obtain ⟨v2, vs2, d2, ds2, p2, q2, rfl, rfl, rfl, h2, r2⟩ := trodAll_cons r1
  obtain ⟨v3, vs3, d3, ds3, p3, q3, rfl, rfl, rfl, h3, r3⟩ := trodAll_cons r2
  obtain ⟨v4, vs4, d4, ds4, p4, q4, rfl, rfl, rfl, h4, r4⟩ := trodAll_cons r3
  obtain ⟨rfl, rfl, rfl⟩ := trodAll_nil r4
  obtain rfl : args = #[v0, v1, v2, v3, v4] := by cases args; simp_all
  obtain ⟨rfl, rfl⟩ := trodVars_none hV
  obtain ⟨n0, rfl⟩ := okWide_int Tryz.underlying3 (hval 0 3 v0 rfl rfl)
  obtain ⟨lo0, hi0⟩ := int_rng Tryz.underlying3 (hval 0 3 (.int .i64 n0) rfl rfl)
  obtain ⟨n1, rfl⟩ := okWide_int Tryz.underlying3 (hval 1 3 v1 rfl rfl)
  obtain ⟨lo1, hi1⟩ := int_rng Tryz.underlying3 (hval 1 3 (.int .i64 n1) rfl rfl)
  obtain ⟨a2, len2, cap2, rfl⟩ := okWide_slice Tryz.underlying48 (hval 2 48 v2 rfl rfl)
  obtain ⟨fu2, hf2⟩ := id h2
  obtain ⟨l2, hE2, hvr2⟩ := open_ints (by simpa [Value.cells] using hf2)
  obtain ⟨n3, rfl⟩ := okWide_int Tryz.underlying3 (hval 3 3 v3 rfl rfl)
  obtain ⟨lo3, hi3⟩ := int_rng Tryz.underlying3 (hval 3 3 (.int .i64 n3) rfl rfl)
  obtain ⟨b4, rfl⟩ := okWide_bool Tryz.underlying4 (hval 4 4 v4 rfl rfl)
  have lt0 : ∀ x ∈ p0, x.block < W.heap.size := by obtain ⟨m, hm⟩ := h0; exact DataW.trod_lt m _ _ _ hm
  have lt1 : ∀ x ∈ p1, x.block < W.heap.size := by obtain ⟨m, hm⟩ := h1; exact DataW.trod_lt m _ _ _ hm
  have lt2 : ∀ x ∈ p2, x.block < W.heap.size := by obtain ⟨m, hm⟩ := h2; exact DataW.trod_lt m _ _ _ hm
  have lt3 : ∀ x ∈ p3, x.block < W.heap.size := by obtain ⟨m, hm⟩ := h3; exact DataW.trod_lt m _ _ _ hm
  have lt4 : ∀ x ∈ p4, x.block < W.heap.size := by obtain ⟨m, hm⟩ := h4; exact DataW.trod_lt m _ _ _ hm
  clear hA0 hval0
  refine (calls_law5 (straight_spec n0 n1 ⟨lo0, hi0⟩ ⟨lo1, hi1⟩ l2 0 hE2 n3 ⟨lo3, hi3⟩ b4 st0) (hyp_of hL) hvr2).mono fun e W' ⟨he, bel⟩ => ?_
  subst he
  exact ⟨_, rfl, _, _, _, [], _, [], hW', trodAll_mk1 (shut_bool Tryz.underlying4 _), (trodAll_cons_mk (Below.trod laidOut (by kernel_rfl) (of_decide_eq_true (by kernel_rfl)) h0 bel lt0) (trodAll_cons_mk (Below.trod laidOut (by kernel_rfl) (of_decide_eq_true (by kernel_rfl)) h1 bel lt1) (trodAll_cons_mk (Below.trod laidOut (by kernel_rfl) (of_decide_eq_true (by kernel_rfl)) h2 bel lt2) (trodAll_cons_mk (Below.trod laidOut (by kernel_rfl) (of_decide_eq_true (by kernel_rfl)) h3 bel lt3) (trodAll_cons_mk (Below.trod laidOut (by kernel_rfl) (of_decide_eq_true (by kernel_rfl)) h4 bel lt4) trodAll_mk0))))), rfl, bel.frame _, fun h => by cases h⟩

theorem andB {a b : Bool} (h : a = true) (k : b = true) : (a && b) = true := by rw [h, k]; rfl
theorem straight_j0 : (Rows.straightRow.wf (OpenSpec.ofChange Rows.straightSpec)) = true := by kernel_rfl
theorem straight_j1 : (laidOutB Tryz.prog) = true := by kernel_rfl
theorem straight_j2 : (mapsRowed Tryz.prog) = true := by kernel_rfl
theorem straight_j3 : (Tryz.f8.params.all (Tryz.prog.readableRec ·)) = true := by kernel_rfl
theorem straight_j4 : (namedTie Tryz.prog Rows.straightRow.named Rows.straightSpec.vars) = true := by kernel_rfl
theorem straight_j5 : ((Rows.straightRow.stops == [])) = true := by kernel_rfl
theorem straight_j6 : ((Tryz.prog.stops == [])) = true := by kernel_rfl
theorem straight_j7 : ((Rows.straightRow.knobs == [])) = true := by kernel_rfl
theorem straight_j8 : ((Tryz.prog.stopKnobs == [])) = true := by kernel_rfl
theorem straight_j9 : ((Rows.straightRow.inPlace == Tryz.prog.inPlace 8)) = true := by kernel_rfl
theorem straight_j10 : ((Rows.straightRow.unfollowed == Tryz.prog.unfollowed 8)) = true := by kernel_rfl
theorem straight_j11 : ((Rows.straightRow.recurses == Tryz.prog.recurses 8)) = true := by kernel_rfl
theorem straight_j12 : ((Rows.straightRow.named == Tryz.prog.varsNamed 8)) = true := by kernel_rfl
theorem straight_j13 : ((Rows.straightRow.maps == (Tryz.f8.params.toList ++ Rows.straightSpec.plain.varTypes Tryz.prog).any (Tryz.prog.mapsRec ·))) = true := by kernel_rfl
theorem straight_j14 : ((Rows.straightRow.ifaces == (Tryz.f8.params.toList ++ Rows.straightSpec.plain.varTypes Tryz.prog).any (Tryz.prog.ifacesRec ·))) = true := by kernel_rfl
theorem straight_j15 : ((Rows.straightRow.mapsOut == Tryz.prog.mapsAmong Tryz.f8.resultTypes.toList)) = true := by kernel_rfl
theorem straight_j16 : ((Rows.straightRow.loops == (Tryz.f8.params.toList ++ Rows.straightSpec.plain.varTypes Tryz.prog).any (Tryz.prog.loopsFrom ·))) = true := by kernel_rfl
theorem straight_j17 : ((Rows.straightRow.wideKeys == (Tryz.f8.params.toList ++ Rows.straightSpec.plain.varTypes Tryz.prog ++ Tryz.f8.resultTypes.toList).any (Tryz.prog.wideKeysFrom ·))) = true := by kernel_rfl
theorem straight_j18 : (Rows.straightSpec.vars.all (Tryz.prog.varReadable ·)) = true := by kernel_rfl
theorem straight_j19 : (Tryz.f8.resultTypes.all (fun t => Tryz.prog.readableRec t && decide (t < Tryz.prog.types.size))) = true := by kernel_rfl
theorem straight_j20 : ((Rows.straightRow.ifacesOut == Tryz.f8.resultTypes.toList.any (Tryz.prog.ifacesRec ·))) = true := by kernel_rfl
theorem straight_j21 : ((Rows.straightRow.loopsOut == Tryz.f8.resultTypes.toList.any (Tryz.prog.loopsFrom ·))) = true := by kernel_rfl
theorem straight_j22 : ((Rows.straightRow.plainKeys == Tryz.prog.plainKeys)) = true := by kernel_rfl
theorem straight_j23 : (Rows.straightRow.shortTexts.isNone) = true := by kernel_rfl
theorem straight_j24 : (Tryz.prog.stopsHeard) = true := by kernel_rfl
theorem straight_j25 : (Tryz.prog.mayEnter) = true := by kernel_rfl
theorem straight_j26 : ((Rows.straightRow.lifted == Tryz.prog.liftsFinal)) = true := by kernel_rfl
theorem straight_j27 : ((Tryz.prog.make == some Rows.straightRow.make)) = true := by kernel_rfl
theorem straight_j28 : ((Rows.straightRow.kinds == (if Rows.straightRow.domain.isEmpty then [] else Tryz.f8.params.toList.map fun t => match Tryz.prog.underlying t with | some (.int k) => some k | _ => none))) = true := by kernel_rfl
theorem straight_j29 : ((Rows.straightRow.pinned == Rows.straightRow.pinnedBy)) = true := by kernel_rfl
theorem straight_j30 : ((Rows.straightRow.veiled == (Tryz.f8.params.toList ++ Rows.straightSpec.plain.varTypes Tryz.prog ++ Tryz.f8.resultTypes.toList).any (Tryz.prog.veiledRec ·))) = true := by kernel_rfl
theorem straight_j31 : (Rows.straightRow.veiledFits Tryz.prog Tryz.f8.params.toList (Tryz.f8.params.toList ++ Rows.straightSpec.plain.varTypes Tryz.prog ++ Tryz.f8.resultTypes.toList)) = true := by kernel_rfl
set_option maxRecDepth 100000 in
theorem straight_closed : joinedFacts Tryz.prog 8 Tryz.f8 Rows.straightSpec Rows.straightRow = true := by
  unfold joinedFacts
  exact (andB (andB (andB (andB (andB (andB (andB (andB (andB (andB (andB (andB (andB (andB (andB (andB (andB (andB (andB (andB (andB (andB (andB (andB (andB (andB (andB (andB (andB (andB (andB straight_j0 straight_j1) straight_j2) straight_j3) straight_j4) straight_j5) straight_j6) straight_j7) straight_j8) straight_j9) straight_j10) straight_j11) straight_j12) straight_j13) straight_j14) straight_j15) straight_j16) straight_j17) straight_j18) straight_j19) straight_j20) straight_j21) straight_j22) straight_j23) straight_j24) straight_j25) straight_j26) straight_j27) straight_j28) straight_j29) straight_j30) straight_j31)
theorem straight_row : Rows.StraightSaid :=
  OpenClaim.holds_of_wide 8 Tryz.f8 rfl rfl rfl rfl rfl rfl rfl ⟨rfl, rfl, rfl, rfl, rfl⟩ rfl rfl rfl rfl rfl (by kernel_rfl) Tryz.func8 straight_closed
    (of_decide_eq_true (by kernel_rfl)) (by unfold Func.isWrapper; first | (rw [if_pos (by decide +kernel)]; kernel_rfl) | (rw [if_neg (by decide +kernel)]; exact ⟨rfl, rfl⟩))
    (fun os started H enc _ => straight_lifted os started H enc)

theorem straight_card : Rows.StraightCardSaid :=
  Claim7.holds_tied_plain_at .later [] [.data, .data, .data] true (true, "ce6d409c92cfb325493f23df0ee152d93fc58d4d47db794dd823abe930f9a0b8") false
    straight_row (fun _ h => by cases h) (by kernel_rfl) (fun _ h => by cases h) straight_row_tie rfl ⟨rfl, rfl⟩ (by kernel_rfl) rfl
    (fun f fn hf hfn => by
      obtain rfl : f = 8 := Option.some.inj ((show Tryz.prog.funcNamed "rulebook/rulebookkeep.Straight" = some 8 by kernel_rfl).symm.trans hf) |>.symm
      obtain rfl : fn = Tryz.f8 := (Option.some.inj (Tryz.func8.symm.trans hfn)).symm
      exact ⟨by kernel_rfl, fun j t ht => by
        rw [Tryz.params8] at ht
        have hm : t ∈ [3, 3, 48, 3, 4] := by simpa using Array.mem_of_getElem? ht
        have hall : ([3, 3, 48, 3, 4].all fun u => !Tryz.prog.wantsStandIn u) = true := by kernel_rfl
        exact (show Tryz.prog.wantsStandIn t = false by simpa using List.all_eq_true.1 hall t hm)⟩)
    (by kernel_rfl)
end Go.Proofs.YtmoeoppbmhfbpabGreatDoor
