import Derived.Test.YtmoeoppbmhfbpabGreatDoorIRowHyp
import Derived.Test.YtmoeoppbmhfbpabGreatDoorIKepA
import Derived.Test.YtmoeoppbmhfbpabGreatDoorRows
import Derived.Test.YtmoeoppbmhfbpabGreatDoorCards
import Derived.Test.YtmoeoppbmhfbpabGreatDoorTie
import Derived.LaidMore
import Derived.Stop.Joined
import Derived.SevenTiedAt
/- The row and the card of Keeps. -/
namespace Go.Proofs.YtmoeoppbmhfbpabGreatDoor
open Go.ChangeShapes Go.WideShapes Go.ChangeAt Go.WideMaps Go.WideElems Go.RowKit
open Go.Proofs.YtmoeoppbmhfbpabGreatDoorI (open_script2 UY pu keeps_spec st0)
set_option linter.unusedVariables false

theorem calls_law {f : FuncId} {x : Abs.AV} {W : World} {v : Value} (h : Abs.AF Tryz.prog f [x] st0 fun r σ' => r = Abs.sc (.bool true) ∧ Abs.AE st0 σ') (hv : Abs.VR (UY W) st0 W v x) (hy : Abs.Hyp W.heap.size W) :
    Calls Tryz.prog f #[v] W fun e w' => e = .returned (.bool true) ∧ Below W.heap.size W w' := by
  refine (h.2 (UY W) W #[v] (pu W hy) (Abs.AQ.cons hv (Abs.AQ.nil _))).mono ?_
  rintro e w' ⟨v2, G', y, σ', rfl, I', E, hvr, rfl, -⟩
  have h2 : v2 = .bool true := hvr.unfold
  refine ⟨by rw [h2], ?_⟩
  have hb := I'.below
  rw [E.base, E.w0] at hb
  exact hb
theorem own : ownKnob Tryz.prog.godebug = none := by kernel_rfl
theorem laidOut : laidOutB Tryz.prog = true := by kernel_rfl
theorem door_met (os : Os) (args : Array Value) : laidMetH Tryz.prog laid3 ((World.doorLaid Tryz.prog 400 os).forCall (fun _ _ => 0) ⟨#[], args, []⟩).memory :=
  laidMetH_of_parts3 (fuel := 8) (laidMet_of_run' 8 (by kernel_rfl) (by kernel_rfl)) (by kernel_rfl) (by kernel_rfl)

set_option maxRecDepth 100000 in
theorem keeps_lifted (os : Os) (started : os.Started) (H : Type) (enc : TypeId × Value → H) :
    ReturnsInHanded {} Tryz.checked os 4 .any (fun w args => (Rows.keepsSpec.pre enc Tryz.prog Tryz.f4 [] false w args ∧ laidMetH Tryz.prog laid3 w) ∧ sizedMet enc Tryz.prog Tryz.f4 (OpenSpec.ofChange Rows.keepsSpec) false w args)
      (Rows.keepsSpec.post enc Tryz.prog Tryz.f4 false true false false) := by
  refine returnsInHanded_of_change_and (C := Tryz.checked) (X := fun w _ => laidMetH Tryz.prog laid3 w) (fun _ _ _ hh h => h.of_heap hh) own started (by kernel_rfl) Tryz.func4
    (ChangeSpec.witness_shaped (enc := enc) (C := Tryz.checked) (os := os) (X := fun w _ => laidMetH Tryz.prog laid3 w) false (World.doorLaid Tryz.prog 400 os) #[.slice none 0 0] 8 rfl (World.shaped_of_RefB (by kernel_rfl) (by kernel_rfl)) (by kernel_rfl) (by kernel_rfl) (by kernel_rfl) (door_met os _)) ?_
  intro W base args ds gs before hval0 hW _ _ hL _
  have hval : ∀ (j : Nat) t v, Tryz.f4.params[j]? = some t → args[j]? = some v → Value.okWide Tryz.prog W .any base t v := hval0
  have hW' := hW
  obtain ⟨p, q, hA0, hV, rfl, hfz, hnd⟩ := hW
  have hA : DataW.TrodAll enc Tryz.prog W 0 (fun _ => true) true Tryz.f4.params.toList args.toList ds p := hA0
  rw [Tryz.params4] at hA hval
  obtain ⟨v0, vs0, d0, ds0, p0, q0, hargs, rfl, rfl, h0, r0⟩ := trodAll_cons hA
  obtain ⟨rfl, rfl, rfl⟩ := trodAll_nil r0
  obtain rfl : args = #[v0] := by cases args; simp_all
  obtain ⟨rfl, rfl⟩ := trodVars_none hV
  obtain ⟨a0, len0, cap0, rfl⟩ := okWide_slice Tryz.underlying22 (hval 0 22 v0 rfl rfl)
  have k0 := h0
  have lt0 : ∀ x ∈ p0, x.block < W.heap.size := by obtain ⟨m, hm⟩ := k0; exact DataW.trod_lt m _ _ _ hm
  obtain ⟨fuel, hf⟩ := h0
  obtain ⟨l, cs, hE, hl, hn, hvr⟩ := open_script2 (by simpa [Value.cells] using hf)
  clear hA0 hval0
  refine (calls_law (keeps_spec l cs 0 hE hl hn st0) hvr (hyp_of hL)).mono fun e W' ⟨he, bel⟩ => ?_
  subst he
  exact ⟨_, rfl, _, _, _, [], _, [], hW', trodAll_mk1 (shut_bool Tryz.underlying4 _), (trodAll_cons_mk (Below.trod laidOut (by kernel_rfl) (of_decide_eq_true (by kernel_rfl)) k0 bel lt0) trodAll_mk0), rfl, bel.frame _, fun h => by cases h⟩

theorem andB {a b : Bool} (h : a = true) (k : b = true) : (a && b) = true := by rw [h, k]; rfl
theorem keeps_j0 : (Rows.keepsRow.wf (OpenSpec.ofChange Rows.keepsSpec)) = true := by kernel_rfl
theorem keeps_j1 : (laidOutB Tryz.prog) = true := by kernel_rfl
theorem keeps_j2 : (mapsRowed Tryz.prog) = true := by kernel_rfl
theorem keeps_j3 : (Tryz.f4.params.all (Tryz.prog.readableRec ·)) = true := by kernel_rfl
theorem keeps_j4 : (namedTie Tryz.prog Rows.keepsRow.named Rows.keepsSpec.vars) = true := by kernel_rfl
theorem keeps_j5 : ((Rows.keepsRow.stops == [])) = true := by kernel_rfl
theorem keeps_j6 : ((Tryz.prog.stops == [])) = true := by kernel_rfl
theorem keeps_j7 : ((Rows.keepsRow.knobs == [])) = true := by kernel_rfl
theorem keeps_j8 : ((Tryz.prog.stopKnobs == [])) = true := by kernel_rfl
theorem keeps_j9 : ((Rows.keepsRow.inPlace == Tryz.prog.inPlace 4)) = true := by kernel_rfl
theorem keeps_j10 : ((Rows.keepsRow.unfollowed == Tryz.prog.unfollowed 4)) = true := by kernel_rfl
theorem keeps_j11 : ((Rows.keepsRow.recurses == Tryz.prog.recurses 4)) = true := by kernel_rfl
theorem keeps_j12 : ((Rows.keepsRow.named == Tryz.prog.varsNamed 4)) = true := by kernel_rfl
theorem keeps_j13 : ((Rows.keepsRow.maps == (Tryz.f4.params.toList ++ Rows.keepsSpec.plain.varTypes Tryz.prog).any (Tryz.prog.mapsRec ·))) = true := by kernel_rfl
theorem keeps_j14 : ((Rows.keepsRow.ifaces == (Tryz.f4.params.toList ++ Rows.keepsSpec.plain.varTypes Tryz.prog).any (Tryz.prog.ifacesRec ·))) = true := by kernel_rfl
theorem keeps_j15 : ((Rows.keepsRow.mapsOut == Tryz.prog.mapsAmong Tryz.f4.resultTypes.toList)) = true := by kernel_rfl
theorem keeps_j16 : ((Rows.keepsRow.loops == (Tryz.f4.params.toList ++ Rows.keepsSpec.plain.varTypes Tryz.prog).any (Tryz.prog.loopsFrom ·))) = true := by kernel_rfl
theorem keeps_j17 : ((Rows.keepsRow.wideKeys == (Tryz.f4.params.toList ++ Rows.keepsSpec.plain.varTypes Tryz.prog ++ Tryz.f4.resultTypes.toList).any (Tryz.prog.wideKeysFrom ·))) = true := by kernel_rfl
theorem keeps_j18 : (Rows.keepsSpec.vars.all (Tryz.prog.varReadable ·)) = true := by kernel_rfl
theorem keeps_j19 : (Tryz.f4.resultTypes.all (fun t => Tryz.prog.readableRec t && decide (t < Tryz.prog.types.size))) = true := by kernel_rfl
theorem keeps_j20 : ((Rows.keepsRow.ifacesOut == Tryz.f4.resultTypes.toList.any (Tryz.prog.ifacesRec ·))) = true := by kernel_rfl
theorem keeps_j21 : ((Rows.keepsRow.loopsOut == Tryz.f4.resultTypes.toList.any (Tryz.prog.loopsFrom ·))) = true := by kernel_rfl
theorem keeps_j22 : ((Rows.keepsRow.plainKeys == Tryz.prog.plainKeys)) = true := by kernel_rfl
theorem keeps_j23 : (Rows.keepsRow.shortTexts.isNone) = true := by kernel_rfl
theorem keeps_j24 : (Tryz.prog.stopsHeard) = true := by kernel_rfl
theorem keeps_j25 : (Tryz.prog.mayEnter) = true := by kernel_rfl
theorem keeps_j26 : ((Rows.keepsRow.lifted == Tryz.prog.liftsFinal)) = true := by kernel_rfl
theorem keeps_j27 : ((Tryz.prog.make == some Rows.keepsRow.make)) = true := by kernel_rfl
theorem keeps_j28 : ((Rows.keepsRow.kinds == (if Rows.keepsRow.domain.isEmpty then [] else Tryz.f4.params.toList.map fun t => match Tryz.prog.underlying t with | some (.int k) => some k | _ => none))) = true := by kernel_rfl
theorem keeps_j29 : ((Rows.keepsRow.pinned == Rows.keepsRow.pinnedBy)) = true := by kernel_rfl
theorem keeps_j30 : ((Rows.keepsRow.veiled == (Tryz.f4.params.toList ++ Rows.keepsSpec.plain.varTypes Tryz.prog ++ Tryz.f4.resultTypes.toList).any (Tryz.prog.veiledRec ·))) = true := by kernel_rfl
theorem keeps_j31 : (Rows.keepsRow.veiledFits Tryz.prog Tryz.f4.params.toList (Tryz.f4.params.toList ++ Rows.keepsSpec.plain.varTypes Tryz.prog ++ Tryz.f4.resultTypes.toList)) = true := by kernel_rfl
set_option maxRecDepth 100000 in
theorem keeps_closed : joinedFacts Tryz.prog 4 Tryz.f4 Rows.keepsSpec Rows.keepsRow = true := by
  unfold joinedFacts
  exact (andB (andB (andB (andB (andB (andB (andB (andB (andB (andB (andB (andB (andB (andB (andB (andB (andB (andB (andB (andB (andB (andB (andB (andB (andB (andB (andB (andB (andB (andB (andB keeps_j0 keeps_j1) keeps_j2) keeps_j3) keeps_j4) keeps_j5) keeps_j6) keeps_j7) keeps_j8) keeps_j9) keeps_j10) keeps_j11) keeps_j12) keeps_j13) keeps_j14) keeps_j15) keeps_j16) keeps_j17) keeps_j18) keeps_j19) keeps_j20) keeps_j21) keeps_j22) keeps_j23) keeps_j24) keeps_j25) keeps_j26) keeps_j27) keeps_j28) keeps_j29) keeps_j30) keeps_j31)
theorem keeps_row : Rows.KeepsSaid :=
  OpenClaim.holds_of_wide 4 Tryz.f4 rfl rfl rfl rfl rfl rfl rfl ⟨rfl, rfl, rfl, rfl, rfl⟩ rfl rfl rfl rfl rfl (by kernel_rfl) Tryz.func4 keeps_closed
    (of_decide_eq_true (by kernel_rfl)) (by unfold Func.isWrapper; first | (rw [if_pos (by decide +kernel)]; kernel_rfl) | (rw [if_neg (by decide +kernel)]; exact ⟨rfl, rfl⟩))
    (fun os started H enc _ => keeps_lifted os started H enc)

theorem keeps_card : Rows.KeepsCardSaid :=
  Claim7.holds_tied_plain_at .later [] [.data, .data, .data] true (true, "ce6d409c92cfb325493f23df0ee152d93fc58d4d47db794dd823abe930f9a0b8") false
    keeps_row (fun _ h => by cases h) (by kernel_rfl) (fun _ h => by cases h) keeps_row_tie rfl ⟨rfl, rfl⟩ (by kernel_rfl) rfl
    (fun f fn hf hfn => by
      obtain rfl : f = 4 := Option.some.inj ((show Tryz.prog.funcNamed "rulebook/rulebooklaw.Keeps" = some 4 by kernel_rfl).symm.trans hf) |>.symm
      obtain rfl : fn = Tryz.f4 := (Option.some.inj (Tryz.func4.symm.trans hfn)).symm
      exact ⟨by kernel_rfl, fun j t ht => by
        rw [Tryz.params4] at ht
        have hm : t ∈ [22] := by simpa using Array.mem_of_getElem? ht
        have hall : ([22].all fun u => !Tryz.prog.wantsStandIn u) = true := by kernel_rfl
        exact (show Tryz.prog.wantsStandIn t = false by simpa using List.all_eq_true.1 hall t hm)⟩)
    (by kernel_rfl)
end Go.Proofs.YtmoeoppbmhfbpabGreatDoor
