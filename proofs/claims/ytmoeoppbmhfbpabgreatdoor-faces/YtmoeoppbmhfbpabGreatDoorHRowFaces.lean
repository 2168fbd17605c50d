import Derived.Test.YtmoeoppbmhfbpabGreatDoorHRowHyp
import Derived.Test.YtmoeoppbmhfbpabGreatDoorHFceJ
import Derived.Test.YtmoeoppbmhfbpabGreatDoorRows
import Derived.Test.YtmoeoppbmhfbpabGreatDoorCards
import Derived.Test.YtmoeoppbmhfbpabGreatDoorTie
import Derived.LaidMore
import Derived.Stop.Joined
import Derived.SevenTiedAt
/- The row and the card of Faces. -/
namespace Go.Proofs.YtmoeoppbmhfbpabGreatDoor
open Go.ChangeShapes Go.WideShapes Go.ChangeAt Go.WideMaps Go.WideElems Go.RowKit
open Go.Proofs.YtmoeoppbmhfbpabGreatDoorH (faces_spec st0 gh0 inv0)
set_option linter.unusedVariables false

theorem calls_law3 {f : FuncId} {W : World} {s0 : ByteArray} {s1 : ByteArray} {n2 : Int} (h : Abs.ACalls Tryz.prog f [Abs.str s0.data.toList, Abs.str s1.data.toList, Abs.sc (.int .i64 n2)] st0 fun r σ' => r = Abs.sc (.bool true) ∧ Abs.Keep st0 σ') (hy : Abs.Hyp W.heap.size W) :
    Calls Tryz.prog f #[.string s0, .string s1, .int .i64 n2] W fun e w' => e = .returned (.bool true) ∧ Below W.heap.size W w' := by
  have hv0 : Abs.VR (gh0 W) st0 W (.string s0) (Abs.str s0.data.toList) := by
    show Abs.VR (gh0 W) st0 W (.string s0) (Abs.sc (.string (Abs.bs s0.data.toList)))
    rw [show Abs.bs s0.data.toList = s0 by simp [Abs.bs]]; exact Abs.VR.sc _
  have hv1 : Abs.VR (gh0 W) st0 W (.string s1) (Abs.str s1.data.toList) := by
    show Abs.VR (gh0 W) st0 W (.string s1) (Abs.sc (.string (Abs.bs s1.data.toList)))
    rw [show Abs.bs s1.data.toList = s1 by simp [Abs.bs]]; exact Abs.VR.sc _
  refine (h.2 (gh0 W) W #[.string s0, .string s1, .int .i64 n2] (inv0 W hy) (Abs.All2.cons hv0 (Abs.All2.cons hv1 (Abs.All2.cons (Abs.VR.sc _) (Abs.All2.nil _))))).mono ?_
  rintro e w' ⟨v2, G', y, σ', rfl, I', E, hvr, rfl, -⟩
  have h2 : v2 = .bool true := hvr.unfold
  refine ⟨by rw [h2], ?_⟩
  have hb := I'.below
  rw [E.base, E.w0] at hb
  exact hb

theorem own : ownKnob Tryz.prog.godebug = none := by kernel_rfl
theorem laidOut : laidOutB Tryz.prog = true := by kernel_rfl
theorem door_met (os : Os) (args : Array Value) : laidMetH Tryz.prog laid3 ((World.doorLaid Tryz.prog 400 os).forCall (fun _ _ => 0) ⟨#[], args, []⟩).memory :=
  laidMetH_of_parts3 (fuel := 8) (laidMet_of_run' 8 (by kernel_rfl) (by kernel_rfl)) (by kernel_rfl) (by kernel_rfl)
theorem int_rng {P : Program} {w : World} {r : Reach} {base : Nat} {t : TypeId} {n : Int} (ht : P.underlying t = some (.int .i64)) (h : Value.okWide P w r base t (.int .i64 n)) : -9223372036854775808 ≤ n ∧ n ≤ 9223372036854775807 := by
  simp only [Value.okWide, ht, Cell.okWide, Cell.ok, IntKind.has] at h
  have h1 : IntKind.i64.min = -9223372036854775808 := by decide
  have h2 : IntKind.i64.max = 9223372036854775807 := by decide
  rw [h1, h2] at h
  omega

set_option maxRecDepth 100000 in
theorem faces_lifted (os : Os) (started : os.Started) (H : Type) (enc : TypeId × Value → H) :
    ReturnsInHanded {} Tryz.checked os 6 .any (fun w args => (Rows.facesSpec.pre enc Tryz.prog Tryz.f6 [] false w args ∧ laidMetH Tryz.prog laid3 w) ∧ sizedMet enc Tryz.prog Tryz.f6 (OpenSpec.ofChange Rows.facesSpec) false w args)
      (Rows.facesSpec.post enc Tryz.prog Tryz.f6 false true false false) := by
  refine returnsInHanded_of_change_and (C := Tryz.checked) (X := fun w _ => laidMetH Tryz.prog laid3 w) (fun _ _ _ hh h => h.of_heap hh) own started (by kernel_rfl) Tryz.func6
    (ChangeSpec.witness_shaped (enc := enc) (C := Tryz.checked) (os := os) (X := fun w _ => laidMetH Tryz.prog laid3 w) false (World.doorLaid Tryz.prog 400 os) #[.string ⟨#[]⟩, .string ⟨#[]⟩, .int .i64 0] 8 rfl (World.shaped_of_RefB (by kernel_rfl) (by kernel_rfl)) (by kernel_rfl) (by kernel_rfl) (by kernel_rfl) (door_met os _)) ?_
  intro W base args ds gs before hval0 hW _ _ hL _
  have hval : ∀ (j : Nat) t v, Tryz.f6.params[j]? = some t → args[j]? = some v → Value.okWide Tryz.prog W .any base t v := hval0
  have hW' := hW
  obtain ⟨p, q, hA0, hV, rfl, hfz, hnd⟩ := hW
  have hA : DataW.TrodAll enc Tryz.prog W 0 (fun _ => true) true Tryz.f6.params.toList args.toList ds p := hA0
  rw [Tryz.params6] at hA hval
  obtain ⟨v0, vs0, d0, ds0, p0, q0, hargs, rfl, rfl, h0, r0⟩ := trodAll_cons hA
  obtain ⟨v1, vs1, d1, ds1, p1, q1, rfl, rfl, rfl, h1, r1⟩ := trodAll_cons r0
  obtain ⟨v2, vs2, d2, ds2, p2, q2, rfl, rfl, rfl, h2, r2⟩ := trodAll_cons r1
  obtain ⟨rfl, rfl, rfl⟩ := trodAll_nil r2
  obtain rfl : args = #[v0, v1, v2] := by cases args; simp_all
  obtain ⟨rfl, rfl⟩ := trodVars_none hV
  obtain ⟨s0, rfl⟩ := okWide_string Tryz.underlying9 (hval 0 9 v0 rfl rfl)
  obtain ⟨s1, rfl⟩ := okWide_string Tryz.underlying9 (hval 1 9 v1 rfl rfl)
  obtain ⟨n2, rfl⟩ := okWide_int Tryz.underlying3 (hval 2 3 v2 rfl rfl)
  obtain ⟨lo2, hi2⟩ := int_rng Tryz.underlying3 (hval 2 3 (.int .i64 n2) rfl rfl)
  have lt0 : ∀ x ∈ p0, x.block < W.heap.size := by obtain ⟨m, hm⟩ := h0; exact DataW.trod_lt m _ _ _ hm
  have lt1 : ∀ x ∈ p1, x.block < W.heap.size := by obtain ⟨m, hm⟩ := h1; exact DataW.trod_lt m _ _ _ hm
  have lt2 : ∀ x ∈ p2, x.block < W.heap.size := by obtain ⟨m, hm⟩ := h2; exact DataW.trod_lt m _ _ _ hm
  clear hA0 hval0
  refine (calls_law3 (faces_spec s0.data.toList s1.data.toList n2 lo2 hi2 st0) (hyp_of hL)).mono fun e W' ⟨he, bel⟩ => ?_
  subst he
  exact ⟨_, rfl, _, _, _, [], _, [], hW', trodAll_mk1 (shut_bool Tryz.underlying4 _), (trodAll_cons_mk (Below.trod laidOut (by kernel_rfl) (of_decide_eq_true (by kernel_rfl)) h0 bel lt0) (trodAll_cons_mk (Below.trod laidOut (by kernel_rfl) (of_decide_eq_true (by kernel_rfl)) h1 bel lt1) (trodAll_cons_mk (Below.trod laidOut (by kernel_rfl) (of_decide_eq_true (by kernel_rfl)) h2 bel lt2) trodAll_mk0))), rfl, bel.frame _, fun h => by cases h⟩

theorem andB {a b : Bool} (h : a = true) (k : b = true) : (a && b) = true := by rw [h, k]; rfl
theorem faces_j0 : (Rows.facesRow.wf (OpenSpec.ofChange Rows.facesSpec)) = true := by kernel_rfl
theorem faces_j1 : (laidOutB Tryz.prog) = true := by kernel_rfl
theorem faces_j2 : (mapsRowed Tryz.prog) = true := by kernel_rfl
theorem faces_j3 : (Tryz.f6.params.all (Tryz.prog.readableRec ·)) = true := by kernel_rfl
theorem faces_j4 : (namedTie Tryz.prog Rows.facesRow.named Rows.facesSpec.vars) = true := by kernel_rfl
theorem faces_j5 : ((Rows.facesRow.stops == [])) = true := by kernel_rfl
theorem faces_j6 : ((Tryz.prog.stops == [])) = true := by kernel_rfl
theorem faces_j7 : ((Rows.facesRow.knobs == [])) = true := by kernel_rfl
theorem faces_j8 : ((Tryz.prog.stopKnobs == [])) = true := by kernel_rfl
theorem faces_j9 : ((Rows.facesRow.inPlace == Tryz.prog.inPlace 6)) = true := by kernel_rfl
theorem faces_j10 : ((Rows.facesRow.unfollowed == Tryz.prog.unfollowed 6)) = true := by kernel_rfl
theorem faces_j11 : ((Rows.facesRow.recurses == Tryz.prog.recurses 6)) = true := by kernel_rfl
theorem faces_j12 : ((Rows.facesRow.named == Tryz.prog.varsNamed 6)) = true := by kernel_rfl
theorem faces_j13 : ((Rows.facesRow.maps == (Tryz.f6.params.toList ++ Rows.facesSpec.plain.varTypes Tryz.prog).any (Tryz.prog.mapsRec ·))) = true := by kernel_rfl
theorem faces_j14 : ((Rows.facesRow.ifaces == (Tryz.f6.params.toList ++ Rows.facesSpec.plain.varTypes Tryz.prog).any (Tryz.prog.ifacesRec ·))) = true := by kernel_rfl
theorem faces_j15 : ((Rows.facesRow.mapsOut == Tryz.prog.mapsAmong Tryz.f6.resultTypes.toList)) = true := by kernel_rfl
theorem faces_j16 : ((Rows.facesRow.loops == (Tryz.f6.params.toList ++ Rows.facesSpec.plain.varTypes Tryz.prog).any (Tryz.prog.loopsFrom ·))) = true := by kernel_rfl
theorem faces_j17 : ((Rows.facesRow.wideKeys == (Tryz.f6.params.toList ++ Rows.facesSpec.plain.varTypes Tryz.prog ++ Tryz.f6.resultTypes.toList).any (Tryz.prog.wideKeysFrom ·))) = true := by kernel_rfl
theorem faces_j18 : (Rows.facesSpec.vars.all (Tryz.prog.varReadable ·)) = true := by kernel_rfl
theorem faces_j19 : (Tryz.f6.resultTypes.all (fun t => Tryz.prog.readableRec t && decide (t < Tryz.prog.types.size))) = true := by kernel_rfl
theorem faces_j20 : ((Rows.facesRow.ifacesOut == Tryz.f6.resultTypes.toList.any (Tryz.prog.ifacesRec ·))) = true := by kernel_rfl
theorem faces_j21 : ((Rows.facesRow.loopsOut == Tryz.f6.resultTypes.toList.any (Tryz.prog.loopsFrom ·))) = true := by kernel_rfl
theorem faces_j22 : ((Rows.facesRow.plainKeys == Tryz.prog.plainKeys)) = true := by kernel_rfl
theorem faces_j23 : (Rows.facesRow.shortTexts.isNone) = true := by kernel_rfl
theorem faces_j24 : (Tryz.prog.stopsHeard) = true := by kernel_rfl
theorem faces_j25 : (Tryz.prog.mayEnter) = true := by kernel_rfl
theorem faces_j26 : ((Rows.facesRow.lifted == Tryz.prog.liftsFinal)) = true := by kernel_rfl
theorem faces_j27 : ((Tryz.prog.make == some Rows.facesRow.make)) = true := by kernel_rfl
theorem faces_j28 : ((Rows.facesRow.kinds == (if Rows.facesRow.domain.isEmpty then [] else Tryz.f6.params.toList.map fun t => match Tryz.prog.underlying t with | some (.int k) => some k | _ => none))) = true := by kernel_rfl
theorem faces_j29 : ((Rows.facesRow.pinned == Rows.facesRow.pinnedBy)) = true := by kernel_rfl
theorem faces_j30 : ((Rows.facesRow.veiled == (Tryz.f6.params.toList ++ Rows.facesSpec.plain.varTypes Tryz.prog ++ Tryz.f6.resultTypes.toList).any (Tryz.prog.veiledRec ·))) = true := by kernel_rfl
theorem faces_j31 : (Rows.facesRow.veiledFits Tryz.prog Tryz.f6.params.toList (Tryz.f6.params.toList ++ Rows.facesSpec.plain.varTypes Tryz.prog ++ Tryz.f6.resultTypes.toList)) = true := by kernel_rfl
set_option maxRecDepth 100000 in
theorem faces_closed : joinedFacts Tryz.prog 6 Tryz.f6 Rows.facesSpec Rows.facesRow = true := by
  unfold joinedFacts
  exact (andB (andB (andB (andB (andB (andB (andB (andB (andB (andB (andB (andB (andB (andB (andB (andB (andB (andB (andB (andB (andB (andB (andB (andB (andB (andB (andB (andB (andB (andB (andB faces_j0 faces_j1) faces_j2) faces_j3) faces_j4) faces_j5) faces_j6) faces_j7) faces_j8) faces_j9) faces_j10) faces_j11) faces_j12) faces_j13) faces_j14) faces_j15) faces_j16) faces_j17) faces_j18) faces_j19) faces_j20) faces_j21) faces_j22) faces_j23) faces_j24) faces_j25) faces_j26) faces_j27) faces_j28) faces_j29) faces_j30) faces_j31)
theorem faces_row : Rows.FacesSaid :=
  OpenClaim.holds_of_wide 6 Tryz.f6 rfl rfl rfl rfl rfl rfl rfl ⟨rfl, rfl, rfl, rfl, rfl⟩ rfl rfl rfl rfl rfl (by kernel_rfl) Tryz.func6 faces_closed
    (of_decide_eq_true (by kernel_rfl)) (by unfold Func.isWrapper; first | (rw [if_pos (by decide +kernel)]; kernel_rfl) | (rw [if_neg (by decide +kernel)]; exact ⟨rfl, rfl⟩))
    (fun os started H enc _ => faces_lifted os started H enc)

theorem faces_card : Rows.FacesCardSaid :=
  Claim7.holds_tied_plain_at .later [] [.data, .data, .data] true (true, "ce6d409c92cfb325493f23df0ee152d93fc58d4d47db794dd823abe930f9a0b8") false
    faces_row (fun _ h => by cases h) (by kernel_rfl) (fun _ h => by cases h) faces_row_tie rfl ⟨rfl, rfl⟩ (by kernel_rfl) rfl
    (fun f fn hf hfn => by
      obtain rfl : f = 6 := Option.some.inj ((show Tryz.prog.funcNamed "rulebook/rulebookkeep.Faces" = some 6 by kernel_rfl).symm.trans hf) |>.symm
      obtain rfl : fn = Tryz.f6 := (Option.some.inj (Tryz.func6.symm.trans hfn)).symm
      exact ⟨by kernel_rfl, fun j t ht => by
        rw [Tryz.params6] at ht
        have hm : t ∈ [9, 9, 3] := by simpa using Array.mem_of_getElem? ht
        have hall : ([9, 9, 3].all fun u => !Tryz.prog.wantsStandIn u) = true := by kernel_rfl
        exact (show Tryz.prog.wantsStandIn t = false by simpa using List.all_eq_true.1 hall t hm)⟩)
    (by kernel_rfl)
end Go.Proofs.YtmoeoppbmhfbpabGreatDoor
