import Derived.Test.YtmoeoppbmhfbpaaDoorXRowHyp
import Derived.Test.YtmoeoppbmhfbpaaDoorXTxtI
import Derived.Test.YtmoeoppbmhfbpaaDoorRows
import Derived.Test.YtmoeoppbmhfbpaaDoorCards
import Derived.Test.YtmoeoppbmhfbpaaDoorTie
import Derived.LaidMore
import Derived.Stop.Joined
import Derived.SevenTiedAt
/- The row and the card of Shown. -/
namespace Go.Proofs.YtmoeoppbmhfbpaaDoor
open Go.ChangeShapes Go.WideShapes Go.ChangeAt Go.WideMaps Go.WideElems Go.RowKit
open Go.Proofs.YtmoeoppbmhfbpaaDoorX (shown_spec st0 gh0 inv0)
set_option linter.unusedVariables false

theorem calls_law3 {f : FuncId} {W : World} {s : ByteArray} {n m : Int} (h : Abs.ACalls Tryd.prog f [Abs.str s.data.toList, Abs.sc (.int .i64 n), Abs.sc (.int .i64 m)] st0 fun r σ' => r = Abs.sc (.bool true) ∧ Abs.Keep st0 σ') (hy : Abs.Hyp W.heap.size W) :
    Calls Tryd.prog f #[.string s, .int .i64 n, .int .i64 m] W fun e w' => e = .returned (.bool true) ∧ Below W.heap.size W w' := by
  have e : Abs.bs s.data.toList = s := by simp [Abs.bs]
  have hv : Abs.VR (gh0 W) st0 W (.string s) (Abs.str s.data.toList) := by
    show Abs.VR (gh0 W) st0 W (.string s) (Abs.sc (.string (Abs.bs s.data.toList)))
    rw [e]; exact Abs.VR.sc _
  refine (h.2 (gh0 W) W #[.string s, .int .i64 n, .int .i64 m] (inv0 W hy) (Abs.All2.cons hv (Abs.All2.cons (Abs.VR.sc _) (Abs.All2.cons (Abs.VR.sc _) (Abs.All2.nil _))))).mono ?_
  rintro e w' ⟨v2, G', y, σ', rfl, I', E, hvr, rfl, -⟩
  have h2 : v2 = .bool true := hvr.unfold
  refine ⟨by rw [h2], ?_⟩
  have hb := I'.below
  rw [E.base, E.w0] at hb
  exact hb

theorem own : ownKnob Tryd.prog.godebug = none := by kernel_rfl
theorem laidOut : laidOutB Tryd.prog = true := by kernel_rfl
theorem door_met (os : Os) (args : Array Value) : laidMetH Tryd.prog laid3 ((World.doorLaid Tryd.prog 400 os).forCall (fun _ _ => 0) ⟨#[], args, []⟩).memory :=
  laidMetH_of_parts3 (fuel := 8) (laidMet_of_run' 8 (by kernel_rfl) (by kernel_rfl)) (by kernel_rfl) (by kernel_rfl)

set_option maxRecDepth 100000 in
theorem shown_lifted (os : Os) (started : os.Started) (H : Type) (enc : TypeId × Value → H) :
    ReturnsInHanded {} Tryd.checked os 3 .any (fun w args => (Rows.shownSpec.pre enc Tryd.prog Tryd.f3 [] false w args ∧ laidMetH Tryd.prog laid3 w) ∧ sizedMet enc Tryd.prog Tryd.f3 (OpenSpec.ofChange Rows.shownSpec) false w args)
      (Rows.shownSpec.post enc Tryd.prog Tryd.f3 false true false false) := by
  refine returnsInHanded_of_change_and (C := Tryd.checked) (X := fun w _ => laidMetH Tryd.prog laid3 w) (fun _ _ _ hh h => h.of_heap hh) own started (by kernel_rfl) Tryd.func3
    (ChangeSpec.witness_shaped (enc := enc) (C := Tryd.checked) (os := os) (X := fun w _ => laidMetH Tryd.prog laid3 w) false (World.doorLaid Tryd.prog 400 os) #[.string ⟨#[]⟩, .int .i64 0, .int .i64 0] 8 rfl (World.shaped_of_RefB (by kernel_rfl) (by kernel_rfl)) (by kernel_rfl) (by kernel_rfl) (by kernel_rfl) (door_met os _)) ?_
  intro W base args ds gs before hval0 hW _ _ hL _
  have hval : ∀ (j : Nat) t v, Tryd.f3.params[j]? = some t → args[j]? = some v → Value.okWide Tryd.prog W .any base t v := hval0
  have hW' := hW
  obtain ⟨p, q, hA0, hV, rfl, hfz, hnd⟩ := hW
  have hA : DataW.TrodAll enc Tryd.prog W 0 (fun _ => true) true Tryd.f3.params.toList args.toList ds p := hA0
  rw [Tryd.params3] at hA hval
  obtain ⟨v0, vs0, d0, ds0, p0, q0, hargs, rfl, rfl, h0, r0⟩ := trodAll_cons hA
  obtain ⟨v1, vs1, d1, ds1, p1, q1, rfl, rfl, rfl, h1, r1⟩ := trodAll_cons r0
  obtain ⟨v2, vs2, d2, ds2, p2, q2, rfl, rfl, rfl, h2, r2⟩ := trodAll_cons r1
  obtain ⟨rfl, rfl, rfl⟩ := trodAll_nil r2
  obtain rfl : args = #[v0, v1, v2] := by cases args; simp_all
  obtain ⟨rfl, rfl⟩ := trodVars_none hV
  obtain ⟨s0, rfl⟩ := okWide_string Tryd.underlying9 (hval 0 9 v0 rfl rfl)
  obtain ⟨n0, rfl⟩ := okWide_int Tryd.underlying3 (hval 1 3 v1 rfl rfl)
  obtain ⟨m0, rfl⟩ := okWide_int Tryd.underlying3 (hval 2 3 v2 rfl rfl)
  have lt0 : ∀ x ∈ p0, x.block < W.heap.size := by obtain ⟨m, hm⟩ := h0; exact DataW.trod_lt m _ _ _ hm
  have lt1 : ∀ x ∈ p1, x.block < W.heap.size := by obtain ⟨m, hm⟩ := h1; exact DataW.trod_lt m _ _ _ hm
  have lt2 : ∀ x ∈ p2, x.block < W.heap.size := by obtain ⟨m, hm⟩ := h2; exact DataW.trod_lt m _ _ _ hm
  clear hA0 hval0
  refine (calls_law3 (shown_spec s0.data.toList n0 m0 st0) (hyp_of hL)).mono fun e W' ⟨he, bel⟩ => ?_
  subst he
  exact ⟨_, rfl, _, _, _, [], _, [], hW', trodAll_mk1 (shut_bool Tryd.underlying4 _), (trodAll_cons_mk (Below.trod laidOut (by kernel_rfl) (of_decide_eq_true (by kernel_rfl)) h0 bel lt0) (trodAll_cons_mk (Below.trod laidOut (by kernel_rfl) (of_decide_eq_true (by kernel_rfl)) h1 bel lt1) (trodAll_cons_mk (Below.trod laidOut (by kernel_rfl) (of_decide_eq_true (by kernel_rfl)) h2 bel lt2) trodAll_mk0))), rfl, bel.frame _, fun h => by cases h⟩

theorem andB {a b : Bool} (h : a = true) (k : b = true) : (a && b) = true := by rw [h, k]; rfl
theorem shown_j0 : (Rows.shownRow.wf (OpenSpec.ofChange Rows.shownSpec)) = true := by kernel_rfl
theorem shown_j1 : (laidOutB Tryd.prog) = true := by kernel_rfl
theorem shown_j2 : (mapsRowed Tryd.prog) = true := by kernel_rfl
theorem shown_j3 : (Tryd.f3.params.all (Tryd.prog.readableRec ·)) = true := by kernel_rfl
theorem shown_j4 : (namedTie Tryd.prog Rows.shownRow.named Rows.shownSpec.vars) = true := by kernel_rfl
theorem shown_j5 : ((Rows.shownRow.stops == [])) = true := by kernel_rfl
theorem shown_j6 : ((Tryd.prog.stops == [])) = true := by kernel_rfl
theorem shown_j7 : ((Rows.shownRow.knobs == [])) = true := by kernel_rfl
theorem shown_j8 : ((Tryd.prog.stopKnobs == [])) = true := by kernel_rfl
theorem shown_j9 : ((Rows.shownRow.inPlace == Tryd.prog.inPlace 3)) = true := by kernel_rfl
theorem shown_j10 : ((Rows.shownRow.unfollowed == Tryd.prog.unfollowed 3)) = true := by kernel_rfl
theorem shown_j11 : ((Rows.shownRow.recurses == Tryd.prog.recurses 3)) = true := by kernel_rfl
theorem shown_j12 : ((Rows.shownRow.named == Tryd.prog.varsNamed 3)) = true := by kernel_rfl
theorem shown_j13 : ((Rows.shownRow.maps == (Tryd.f3.params.toList ++ Rows.shownSpec.plain.varTypes Tryd.prog).any (Tryd.prog.mapsRec ·))) = true := by kernel_rfl
theorem shown_j14 : ((Rows.shownRow.ifaces == (Tryd.f3.params.toList ++ Rows.shownSpec.plain.varTypes Tryd.prog).any (Tryd.prog.ifacesRec ·))) = true := by kernel_rfl
theorem shown_j15 : ((Rows.shownRow.mapsOut == Tryd.prog.mapsAmong Tryd.f3.resultTypes.toList)) = true := by kernel_rfl
theorem shown_j16 : ((Rows.shownRow.loops == (Tryd.f3.params.toList ++ Rows.shownSpec.plain.varTypes Tryd.prog).any (Tryd.prog.loopsFrom ·))) = true := by kernel_rfl
theorem shown_j17 : ((Rows.shownRow.wideKeys == (Tryd.f3.params.toList ++ Rows.shownSpec.plain.varTypes Tryd.prog ++ Tryd.f3.resultTypes.toList).any (Tryd.prog.wideKeysFrom ·))) = true := by kernel_rfl
theorem shown_j18 : (Rows.shownSpec.vars.all (Tryd.prog.varReadable ·)) = true := by kernel_rfl
theorem shown_j19 : (Tryd.f3.resultTypes.all (fun t => Tryd.prog.readableRec t && decide (t < Tryd.prog.types.size))) = true := by kernel_rfl
theorem shown_j20 : ((Rows.shownRow.ifacesOut == Tryd.f3.resultTypes.toList.any (Tryd.prog.ifacesRec ·))) = true := by kernel_rfl
theorem shown_j21 : ((Rows.shownRow.loopsOut == Tryd.f3.resultTypes.toList.any (Tryd.prog.loopsFrom ·))) = true := by kernel_rfl
theorem shown_j22 : ((Rows.shownRow.plainKeys == Tryd.prog.plainKeys)) = true := by kernel_rfl
theorem shown_j23 : (Rows.shownRow.shortTexts.isNone) = true := by kernel_rfl
theorem shown_j24 : (Tryd.prog.stopsHeard) = true := by kernel_rfl
theorem shown_j25 : (Tryd.prog.mayEnter) = true := by kernel_rfl
theorem shown_j26 : ((Rows.shownRow.lifted == Tryd.prog.liftsFinal)) = true := by kernel_rfl
theorem shown_j27 : ((Tryd.prog.make == some Rows.shownRow.make)) = true := by kernel_rfl
theorem shown_j28 : ((Rows.shownRow.kinds == (if Rows.shownRow.domain.isEmpty then [] else Tryd.f3.params.toList.map fun t => match Tryd.prog.underlying t with | some (.int k) => some k | _ => none))) = true := by kernel_rfl
theorem shown_j29 : ((Rows.shownRow.pinned == Rows.shownRow.pinnedBy)) = true := by kernel_rfl
theorem shown_j30 : ((Rows.shownRow.veiled == (Tryd.f3.params.toList ++ Rows.shownSpec.plain.varTypes Tryd.prog ++ Tryd.f3.resultTypes.toList).any (Tryd.prog.veiledRec ·))) = true := by kernel_rfl
theorem shown_j31 : (Rows.shownRow.veiledFits Tryd.prog Tryd.f3.params.toList (Tryd.f3.params.toList ++ Rows.shownSpec.plain.varTypes Tryd.prog ++ Tryd.f3.resultTypes.toList)) = true := by kernel_rfl
set_option maxRecDepth 100000 in
theorem shown_closed : joinedFacts Tryd.prog 3 Tryd.f3 Rows.shownSpec Rows.shownRow = true := by
  unfold joinedFacts
  exact (andB (andB (andB (andB (andB (andB (andB (andB (andB (andB (andB (andB (andB (andB (andB (andB (andB (andB (andB (andB (andB (andB (andB (andB (andB (andB (andB (andB (andB (andB (andB shown_j0 shown_j1) shown_j2) shown_j3) shown_j4) shown_j5) shown_j6) shown_j7) shown_j8) shown_j9) shown_j10) shown_j11) shown_j12) shown_j13) shown_j14) shown_j15) shown_j16) shown_j17) shown_j18) shown_j19) shown_j20) shown_j21) shown_j22) shown_j23) shown_j24) shown_j25) shown_j26) shown_j27) shown_j28) shown_j29) shown_j30) shown_j31)
theorem shown_row : Rows.ShownSaid :=
  OpenClaim.holds_of_wide 3 Tryd.f3 rfl rfl rfl rfl rfl rfl rfl ⟨rfl, rfl, rfl, rfl, rfl⟩ rfl rfl rfl rfl rfl (by kernel_rfl) Tryd.func3 shown_closed
    (of_decide_eq_true (by kernel_rfl)) (by unfold Func.isWrapper; first | (rw [if_pos (by decide +kernel)]; kernel_rfl) | (rw [if_neg (by decide +kernel)]; exact ⟨rfl, rfl⟩))
    (fun os started H enc _ => shown_lifted os started H enc)

theorem shown_card : Rows.ShownCardSaid :=
  Claim7.holds_tied_plain_at .later [] [.data, .data, .data] true (true, "741ca47b7704d1da33509094b63733bf83ffc7742d68b2c20ae39b5b31870a26") false
    shown_row (fun _ h => by cases h) (by kernel_rfl) (fun _ h => by cases h) shown_row_tie rfl ⟨rfl, rfl⟩ (by kernel_rfl) rfl
    (fun f fn hf hfn => by
      obtain rfl : f = 3 := Option.some.inj ((show Tryd.prog.funcNamed "rulebook/rulebookkeep.Shown" = some 3 by kernel_rfl).symm.trans hf) |>.symm
      obtain rfl : fn = Tryd.f3 := (Option.some.inj (Tryd.func3.symm.trans hfn)).symm
      exact ⟨by kernel_rfl, fun j t ht => by
        rw [Tryd.params3] at ht
        have hm : t ∈ [9, 3, 3] := by simpa using Array.mem_of_getElem? ht
        have hall : ([9, 3, 3].all fun u => !Tryd.prog.wantsStandIn u) = true := by kernel_rfl
        exact (show Tryd.prog.wantsStandIn t = false by simpa using List.all_eq_true.1 hall t hm)⟩)
    (by kernel_rfl)
end Go.Proofs.YtmoeoppbmhfbpaaDoor
