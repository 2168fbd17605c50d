/-
  DERIVED. GIVEN WITH THE SEED: THE CARDS: each row of YtmoeoppbmhfbpaaGreatDoorRows.lean that lists a variable, with what it lists TIED to the program's text (the seventh form; the later family's looks); each row that meets fmt, with fmt's text TOLD by the authors' own Lean function (tested against real Go, not proved from fmt's source: count such statements apart). THE CARD IS WHAT COUNTS. Prove the row's statement (the work); the ties are given (YtmoeoppbmhfbpaaGreatDoorTie.lean); close each card by the builder's one call (the guide's Derived/Test/ToyasCard.lean, 'card_holds'). Laid BY PROGRAM, IN A SANDBOX (cutbox-door.mjs). By AI agents, Wed Nov 11 2026. No macro, syntax, notation, axiom, sorry.
-/
import Derived.Test.YtmoeoppbmhfbpaaGreatDoorRows
import GoSem.ClaimSeven
namespace Go.Proofs.YtmoeoppbmhfbpaaGreatDoor
namespace Rows

/-- THE TIED CARD OF 'rulebooklaw.Checks'. -/
def checksCard : Claim7 := { stood := { row := checksRow, standIns := [], harness := (true, "c113fd8fa8dcdeb44cfe1f41cff3f08955f07751af47e4ecdc05dfca0cf1060e"), looks := false }, kinds := [], alts := [], laidByText := true, laidKinds := [.data, .data, .data], laidTests := true, laidLooks := .later }
def ChecksCardSaid : Prop := Claim7.holds Tryz.pinned (.plain (OpenSpec.ofChange checksSpec)) checksCard

/-- THE TIED CARD OF 'rulebooklaw.Prints'. -/
def printsCard : Claim7 := { stood := { row := printsRow, standIns := [], harness := (true, "c113fd8fa8dcdeb44cfe1f41cff3f08955f07751af47e4ecdc05dfca0cf1060e"), looks := false }, kinds := [], alts := [], laidByText := true, laidKinds := [.data, .data, .data], laidTests := true, laidLooks := .later }
def PrintsCardSaid : Prop := Claim7.holds Tryz.pinned (.plain (OpenSpec.ofChange printsSpec)) printsCard

/-- THE TIED CARD OF 'rulebooklaw.Runs'. -/
def runsCard : Claim7 := { stood := { row := runsRow, standIns := [], harness := (true, "c113fd8fa8dcdeb44cfe1f41cff3f08955f07751af47e4ecdc05dfca0cf1060e"), looks := false }, kinds := [], alts := [], laidByText := true, laidKinds := [.data, .data, .data], laidTests := true, laidLooks := .later }
def RunsCardSaid : Prop := Claim7.holds Tryz.pinned (.plain (OpenSpec.ofChange runsSpec)) runsCard

/-- THE TIED CARD OF 'rulebookkeep.Roads'. -/
def roadsCard : Claim7 := { stood := { row := roadsRow, standIns := [], harness := (true, "c113fd8fa8dcdeb44cfe1f41cff3f08955f07751af47e4ecdc05dfca0cf1060e"), looks := false }, kinds := [], alts := [], laidByText := true, laidKinds := [.data, .data, .data], laidTests := true, laidLooks := .later }
def RoadsCardSaid : Prop := Claim7.holds Tryz.pinned (.plain (OpenSpec.ofChange roadsSpec)) roadsCard

/-- THE TIED CARD OF 'rulebookkeep.Mixed'. -/
def mixedCard : Claim7 := { stood := { row := mixedRow, standIns := [], harness := (true, "c113fd8fa8dcdeb44cfe1f41cff3f08955f07751af47e4ecdc05dfca0cf1060e"), looks := false }, kinds := [], alts := [], laidByText := true, laidKinds := [.data, .data, .data], laidTests := true, laidLooks := .later }
def MixedCardSaid : Prop := Claim7.holds Tryz.pinned (.plain (OpenSpec.ofChange mixedSpec)) mixedCard

/-- THE TIED CARD OF 'rulebooklaw.Spares'. -/
def sparesCard : Claim7 := { stood := { row := sparesRow, standIns := [], harness := (true, "c113fd8fa8dcdeb44cfe1f41cff3f08955f07751af47e4ecdc05dfca0cf1060e"), looks := false }, kinds := [], alts := [], laidByText := true, laidKinds := [.data, .data, .data], laidTests := true, laidLooks := .later }
def SparesCardSaid : Prop := Claim7.holds Tryz.pinned (.plain (OpenSpec.ofChange sparesSpec)) sparesCard

/-- THE TIED CARD OF 'rulebooklaw.Implieds'. -/
def impliedsCard : Claim7 := { stood := { row := impliedsRow, standIns := [], harness := (true, "c113fd8fa8dcdeb44cfe1f41cff3f08955f07751af47e4ecdc05dfca0cf1060e"), looks := false }, kinds := [], alts := [], laidByText := true, laidKinds := [.data, .data, .data], laidTests := true, laidLooks := .later }
def ImpliedsCardSaid : Prop := Claim7.holds Tryz.pinned (.plain (OpenSpec.ofChange impliedsSpec)) impliedsCard

/-- THE TIED CARD OF 'rulebooklaw.Trims'. -/
def trimsCard : Claim7 := { stood := { row := trimsRow, standIns := [], harness := (true, "c113fd8fa8dcdeb44cfe1f41cff3f08955f07751af47e4ecdc05dfca0cf1060e"), looks := false }, kinds := [], alts := [], laidByText := true, laidKinds := [.data, .data, .data], laidTests := true, laidLooks := .later }
def TrimsCardSaid : Prop := Claim7.holds Tryz.pinned (.plain (OpenSpec.ofChange trimsSpec)) trimsCard

/-- THE TIED CARD OF 'rulebookkeep.Core'. -/
def coreCard : Claim7 := { stood := { row := coreRow, standIns := [], harness := (true, "c113fd8fa8dcdeb44cfe1f41cff3f08955f07751af47e4ecdc05dfca0cf1060e"), looks := false }, kinds := [], alts := [], laidByText := true, laidKinds := [.data, .data, .data], laidTests := true, laidLooks := .later }
def CoreCardSaid : Prop := Claim7.holds Tryz.pinned (.plain (OpenSpec.ofChange coreSpec)) coreCard

/-- THE TIED CARD OF 'rulebookkeep.Tight'. -/
def tightCard : Claim7 := { stood := { row := tightRow, standIns := [], harness := (true, "c113fd8fa8dcdeb44cfe1f41cff3f08955f07751af47e4ecdc05dfca0cf1060e"), looks := false }, kinds := [], alts := [], laidByText := true, laidKinds := [.data, .data, .data], laidTests := true, laidLooks := .later }
def TightCardSaid : Prop := Claim7.holds Tryz.pinned (.plain (OpenSpec.ofChange tightSpec)) tightCard

/-- THE TIED CARD OF 'rulebookkeep.Sliced'. -/
def slicedCard : Claim7 := { stood := { row := slicedRow, standIns := [], harness := (true, "c113fd8fa8dcdeb44cfe1f41cff3f08955f07751af47e4ecdc05dfca0cf1060e"), looks := false }, kinds := [], alts := [], laidByText := true, laidKinds := [.data, .data, .data], laidTests := true, laidLooks := .later }
def SlicedCardSaid : Prop := Claim7.holds Tryz.pinned (.plain (OpenSpec.ofChange slicedSpec)) slicedCard

/-- THE SECOND FORM's CARD OF 'rulebooklaw.Checks'. -/
def checksUptoCard : Claim7 := { stood := { row := checksUptoRow, standIns := [], harness := (true, "c113fd8fa8dcdeb44cfe1f41cff3f08955f07751af47e4ecdc05dfca0cf1060e"), looks := false }, kinds := [], alts := [], laidByText := true, laidKinds := [.data, .data, .data], laidTests := true, laidLooks := .later }
def ChecksUptoCardSaid : Prop := Claim7.holds Tryz.pinned (.plain (OpenSpec.upto checksSpec)) checksUptoCard

/-- THE SECOND FORM's CARD OF 'rulebooklaw.Prints'. -/
def printsUptoCard : Claim7 := { stood := { row := printsUptoRow, standIns := [], harness := (true, "c113fd8fa8dcdeb44cfe1f41cff3f08955f07751af47e4ecdc05dfca0cf1060e"), looks := false }, kinds := [], alts := [], laidByText := true, laidKinds := [.data, .data, .data], laidTests := true, laidLooks := .later }
def PrintsUptoCardSaid : Prop := Claim7.holds Tryz.pinned (.plain (OpenSpec.upto printsSpec)) printsUptoCard

/-- THE SECOND FORM's CARD OF 'rulebooklaw.Runs'. -/
def runsUptoCard : Claim7 := { stood := { row := runsUptoRow, standIns := [], harness := (true, "c113fd8fa8dcdeb44cfe1f41cff3f08955f07751af47e4ecdc05dfca0cf1060e"), looks := false }, kinds := [], alts := [], laidByText := true, laidKinds := [.data, .data, .data], laidTests := true, laidLooks := .later }
def RunsUptoCardSaid : Prop := Claim7.holds Tryz.pinned (.plain (OpenSpec.upto runsSpec)) runsUptoCard

/-- THE SECOND FORM's CARD OF 'rulebookkeep.Roads'. -/
def roadsUptoCard : Claim7 := { stood := { row := roadsUptoRow, standIns := [], harness := (true, "c113fd8fa8dcdeb44cfe1f41cff3f08955f07751af47e4ecdc05dfca0cf1060e"), looks := false }, kinds := [], alts := [], laidByText := true, laidKinds := [.data, .data, .data], laidTests := true, laidLooks := .later }
def RoadsUptoCardSaid : Prop := Claim7.holds Tryz.pinned (.plain (OpenSpec.upto roadsSpec)) roadsUptoCard

/-- THE SECOND FORM's CARD OF 'rulebookkeep.Mixed'. -/
def mixedUptoCard : Claim7 := { stood := { row := mixedUptoRow, standIns := [], harness := (true, "c113fd8fa8dcdeb44cfe1f41cff3f08955f07751af47e4ecdc05dfca0cf1060e"), looks := false }, kinds := [], alts := [], laidByText := true, laidKinds := [.data, .data, .data], laidTests := true, laidLooks := .later }
def MixedUptoCardSaid : Prop := Claim7.holds Tryz.pinned (.plain (OpenSpec.upto mixedSpec)) mixedUptoCard

/-- THE SECOND FORM's CARD OF 'rulebooklaw.Spares'. -/
def sparesUptoCard : Claim7 := { stood := { row := sparesUptoRow, standIns := [], harness := (true, "c113fd8fa8dcdeb44cfe1f41cff3f08955f07751af47e4ecdc05dfca0cf1060e"), looks := false }, kinds := [], alts := [], laidByText := true, laidKinds := [.data, .data, .data], laidTests := true, laidLooks := .later }
def SparesUptoCardSaid : Prop := Claim7.holds Tryz.pinned (.plain (OpenSpec.upto sparesSpec)) sparesUptoCard

/-- THE SECOND FORM's CARD OF 'rulebooklaw.Implieds'. -/
def impliedsUptoCard : Claim7 := { stood := { row := impliedsUptoRow, standIns := [], harness := (true, "c113fd8fa8dcdeb44cfe1f41cff3f08955f07751af47e4ecdc05dfca0cf1060e"), looks := false }, kinds := [], alts := [], laidByText := true, laidKinds := [.data, .data, .data], laidTests := true, laidLooks := .later }
def ImpliedsUptoCardSaid : Prop := Claim7.holds Tryz.pinned (.plain (OpenSpec.upto impliedsSpec)) impliedsUptoCard

/-- THE SECOND FORM's CARD OF 'rulebooklaw.Trims'. -/
def trimsUptoCard : Claim7 := { stood := { row := trimsUptoRow, standIns := [], harness := (true, "c113fd8fa8dcdeb44cfe1f41cff3f08955f07751af47e4ecdc05dfca0cf1060e"), looks := false }, kinds := [], alts := [], laidByText := true, laidKinds := [.data, .data, .data], laidTests := true, laidLooks := .later }
def TrimsUptoCardSaid : Prop := Claim7.holds Tryz.pinned (.plain (OpenSpec.upto trimsSpec)) trimsUptoCard

/-- THE SECOND FORM's CARD OF 'rulebookkeep.Core'. -/
def coreUptoCard : Claim7 := { stood := { row := coreUptoRow, standIns := [], harness := (true, "c113fd8fa8dcdeb44cfe1f41cff3f08955f07751af47e4ecdc05dfca0cf1060e"), looks := false }, kinds := [], alts := [], laidByText := true, laidKinds := [.data, .data, .data], laidTests := true, laidLooks := .later }
def CoreUptoCardSaid : Prop := Claim7.holds Tryz.pinned (.plain (OpenSpec.upto coreSpec)) coreUptoCard

/-- THE SECOND FORM's CARD OF 'rulebookkeep.Tight'. -/
def tightUptoCard : Claim7 := { stood := { row := tightUptoRow, standIns := [], harness := (true, "c113fd8fa8dcdeb44cfe1f41cff3f08955f07751af47e4ecdc05dfca0cf1060e"), looks := false }, kinds := [], alts := [], laidByText := true, laidKinds := [.data, .data, .data], laidTests := true, laidLooks := .later }
def TightUptoCardSaid : Prop := Claim7.holds Tryz.pinned (.plain (OpenSpec.upto tightSpec)) tightUptoCard

/-- THE SECOND FORM's CARD OF 'rulebookkeep.Sliced'. -/
def slicedUptoCard : Claim7 := { stood := { row := slicedUptoRow, standIns := [], harness := (true, "c113fd8fa8dcdeb44cfe1f41cff3f08955f07751af47e4ecdc05dfca0cf1060e"), looks := false }, kinds := [], alts := [], laidByText := true, laidKinds := [.data, .data, .data], laidTests := true, laidLooks := .later }
def SlicedUptoCardSaid : Prop := Claim7.holds Tryz.pinned (.plain (OpenSpec.upto slicedSpec)) slicedUptoCard
end Rows
end Go.Proofs.YtmoeoppbmhfbpaaGreatDoor
