/-
  DERIVED. GIVEN WITH THE SEED: THE CARDS: each row of YtmokifgkfcdldaaGreatDoorRows.lean that lists a variable, with what it lists TIED to the program's text (the seventh form; the later family's looks); each row that meets fmt, with fmt's text TOLD by the authors' own Lean function (tested against real Go, not proved from fmt's source: count such statements apart). THE CARD IS WHAT COUNTS. Prove the row's statement (the work); the ties are given (YtmokifgkfcdldaaGreatDoorTie.lean); close each card by the builder's one call (the guide's Derived/Test/ToyasCard.lean, 'card_holds'). Laid BY PROGRAM, IN A SANDBOX (cutbox-door.mjs). By AI agents, Wed Nov 11 2026. No macro, syntax, notation, axiom, sorry.
-/
import Derived.Test.YtmokifgkfcdldaaGreatDoorRows
import GoSem.ClaimSeven
namespace Go.Proofs.YtmokifgkfcdldaaGreatDoor
namespace Rows

/-- THE TIED CARD OF 'rulebooklaw.Checks'. -/
def checksCard : Claim7 := { stood := { row := checksRow, standIns := [], harness := (true, "b5d405482adf350ac27edc74bce75c00b6d2f400a925dcc1c546d7b9813a04c5"), looks := false }, kinds := [], alts := [], laidByText := true, laidKinds := [.data, .data, .data], laidTests := true, laidLooks := .later }
def ChecksCardSaid : Prop := Claim7.holds Tryz.pinned (.plain (OpenSpec.ofChange checksSpec)) checksCard

/-- THE TIED CARD OF 'rulebooklaw.Prints'. -/
def printsCard : Claim7 := { stood := { row := printsRow, standIns := [], harness := (true, "b5d405482adf350ac27edc74bce75c00b6d2f400a925dcc1c546d7b9813a04c5"), looks := false }, kinds := [], alts := [], laidByText := true, laidKinds := [.data, .data, .data], laidTests := true, laidLooks := .later }
def PrintsCardSaid : Prop := Claim7.holds Tryz.pinned (.plain (OpenSpec.ofChange printsSpec)) printsCard

/-- THE TIED CARD OF 'rulebooklaw.Runs'. -/
def runsCard : Claim7 := { stood := { row := runsRow, standIns := [], harness := (true, "b5d405482adf350ac27edc74bce75c00b6d2f400a925dcc1c546d7b9813a04c5"), looks := false }, kinds := [], alts := [], laidByText := true, laidKinds := [.data, .data, .data], laidTests := true, laidLooks := .later }
def RunsCardSaid : Prop := Claim7.holds Tryz.pinned (.plain (OpenSpec.ofChange runsSpec)) runsCard

/-- THE TIED CARD OF 'rulebookkeep.Roads'. -/
def roadsCard : Claim7 := { stood := { row := roadsRow, standIns := [], harness := (true, "b5d405482adf350ac27edc74bce75c00b6d2f400a925dcc1c546d7b9813a04c5"), looks := false }, kinds := [], alts := [], laidByText := true, laidKinds := [.data, .data, .data], laidTests := true, laidLooks := .later }
def RoadsCardSaid : Prop := Claim7.holds Tryz.pinned (.plain (OpenSpec.ofChange roadsSpec)) roadsCard

/-- THE TIED CARD OF 'rulebookkeep.Mixed'. -/
def mixedCard : Claim7 := { stood := { row := mixedRow, standIns := [], harness := (true, "b5d405482adf350ac27edc74bce75c00b6d2f400a925dcc1c546d7b9813a04c5"), looks := false }, kinds := [], alts := [], laidByText := true, laidKinds := [.data, .data, .data], laidTests := true, laidLooks := .later }
def MixedCardSaid : Prop := Claim7.holds Tryz.pinned (.plain (OpenSpec.ofChange mixedSpec)) mixedCard

/-- THE TIED CARD OF 'rulebooklaw.Spares'. -/
def sparesCard : Claim7 := { stood := { row := sparesRow, standIns := [], harness := (true, "b5d405482adf350ac27edc74bce75c00b6d2f400a925dcc1c546d7b9813a04c5"), looks := false }, kinds := [], alts := [], laidByText := true, laidKinds := [.data, .data, .data], laidTests := true, laidLooks := .later }
def SparesCardSaid : Prop := Claim7.holds Tryz.pinned (.plain (OpenSpec.ofChange sparesSpec)) sparesCard

/-- THE TIED CARD OF 'rulebooklaw.Implieds'. -/
def impliedsCard : Claim7 := { stood := { row := impliedsRow, standIns := [], harness := (true, "b5d405482adf350ac27edc74bce75c00b6d2f400a925dcc1c546d7b9813a04c5"), looks := false }, kinds := [], alts := [], laidByText := true, laidKinds := [.data, .data, .data], laidTests := true, laidLooks := .later }
def ImpliedsCardSaid : Prop := Claim7.holds Tryz.pinned (.plain (OpenSpec.ofChange impliedsSpec)) impliedsCard

/-- THE SECOND FORM's CARD OF 'rulebooklaw.Checks'. -/
def checksUptoCard : Claim7 := { stood := { row := checksUptoRow, standIns := [], harness := (true, "b5d405482adf350ac27edc74bce75c00b6d2f400a925dcc1c546d7b9813a04c5"), looks := false }, kinds := [], alts := [], laidByText := true, laidKinds := [.data, .data, .data], laidTests := true, laidLooks := .later }
def ChecksUptoCardSaid : Prop := Claim7.holds Tryz.pinned (.plain (OpenSpec.upto checksSpec)) checksUptoCard

/-- THE SECOND FORM's CARD OF 'rulebooklaw.Prints'. -/
def printsUptoCard : Claim7 := { stood := { row := printsUptoRow, standIns := [], harness := (true, "b5d405482adf350ac27edc74bce75c00b6d2f400a925dcc1c546d7b9813a04c5"), looks := false }, kinds := [], alts := [], laidByText := true, laidKinds := [.data, .data, .data], laidTests := true, laidLooks := .later }
def PrintsUptoCardSaid : Prop := Claim7.holds Tryz.pinned (.plain (OpenSpec.upto printsSpec)) printsUptoCard

/-- THE SECOND FORM's CARD OF 'rulebooklaw.Runs'. -/
def runsUptoCard : Claim7 := { stood := { row := runsUptoRow, standIns := [], harness := (true, "b5d405482adf350ac27edc74bce75c00b6d2f400a925dcc1c546d7b9813a04c5"), looks := false }, kinds := [], alts := [], laidByText := true, laidKinds := [.data, .data, .data], laidTests := true, laidLooks := .later }
def RunsUptoCardSaid : Prop := Claim7.holds Tryz.pinned (.plain (OpenSpec.upto runsSpec)) runsUptoCard

/-- THE SECOND FORM's CARD OF 'rulebookkeep.Roads'. -/
def roadsUptoCard : Claim7 := { stood := { row := roadsUptoRow, standIns := [], harness := (true, "b5d405482adf350ac27edc74bce75c00b6d2f400a925dcc1c546d7b9813a04c5"), looks := false }, kinds := [], alts := [], laidByText := true, laidKinds := [.data, .data, .data], laidTests := true, laidLooks := .later }
def RoadsUptoCardSaid : Prop := Claim7.holds Tryz.pinned (.plain (OpenSpec.upto roadsSpec)) roadsUptoCard

/-- THE SECOND FORM's CARD OF 'rulebookkeep.Mixed'. -/
def mixedUptoCard : Claim7 := { stood := { row := mixedUptoRow, standIns := [], harness := (true, "b5d405482adf350ac27edc74bce75c00b6d2f400a925dcc1c546d7b9813a04c5"), looks := false }, kinds := [], alts := [], laidByText := true, laidKinds := [.data, .data, .data], laidTests := true, laidLooks := .later }
def MixedUptoCardSaid : Prop := Claim7.holds Tryz.pinned (.plain (OpenSpec.upto mixedSpec)) mixedUptoCard

/-- THE SECOND FORM's CARD OF 'rulebooklaw.Spares'. -/
def sparesUptoCard : Claim7 := { stood := { row := sparesUptoRow, standIns := [], harness := (true, "b5d405482adf350ac27edc74bce75c00b6d2f400a925dcc1c546d7b9813a04c5"), looks := false }, kinds := [], alts := [], laidByText := true, laidKinds := [.data, .data, .data], laidTests := true, laidLooks := .later }
def SparesUptoCardSaid : Prop := Claim7.holds Tryz.pinned (.plain (OpenSpec.upto sparesSpec)) sparesUptoCard

/-- THE SECOND FORM's CARD OF 'rulebooklaw.Implieds'. -/
def impliedsUptoCard : Claim7 := { stood := { row := impliedsUptoRow, standIns := [], harness := (true, "b5d405482adf350ac27edc74bce75c00b6d2f400a925dcc1c546d7b9813a04c5"), looks := false }, kinds := [], alts := [], laidByText := true, laidKinds := [.data, .data, .data], laidTests := true, laidLooks := .later }
def ImpliedsUptoCardSaid : Prop := Claim7.holds Tryz.pinned (.plain (OpenSpec.upto impliedsSpec)) impliedsUptoCard
end Rows
end Go.Proofs.YtmokifgkfcdldaaGreatDoor
