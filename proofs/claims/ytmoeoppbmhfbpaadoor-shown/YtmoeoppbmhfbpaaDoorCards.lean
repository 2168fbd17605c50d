/-
  DERIVED. GIVEN WITH THE SEED: THE CARDS: each row of YtmoeoppbmhfbpaaDoorRows.lean that lists a variable, with what it lists TIED to the program's text (the seventh form; the later family's looks); each row that meets fmt, with fmt's text TOLD by the authors' own Lean function (tested against real Go, not proved from fmt's source: count such statements apart). THE CARD IS WHAT COUNTS. Prove the row's statement (the work); the ties are given (YtmoeoppbmhfbpaaDoorTie.lean); close each card by the builder's one call (the guide's Derived/Test/ToyasCard.lean, 'card_holds'). Laid BY PROGRAM, IN A SANDBOX (cutbox-door.mjs). By AI agents, Wed Nov 11 2026. No macro, syntax, notation, axiom, sorry.
-/
import Derived.Test.YtmoeoppbmhfbpaaDoorRows
import GoSem.ClaimSeven
namespace Go.Proofs.YtmoeoppbmhfbpaaDoor
namespace Rows

/-- THE TIED CARD OF 'rulebookkeep.Shown'. -/
def shownCard : Claim7 := { stood := { row := shownRow, standIns := [], harness := (true, "741ca47b7704d1da33509094b63733bf83ffc7742d68b2c20ae39b5b31870a26"), looks := false }, kinds := [], alts := [], laidByText := true, laidKinds := [.data, .data, .data], laidTests := true, laidLooks := .later }
def ShownCardSaid : Prop := Claim7.holds Tryd.pinned (.plain (OpenSpec.ofChange shownSpec)) shownCard

/-- THE SECOND FORM's CARD OF 'rulebookkeep.Shown'. -/
def shownUptoCard : Claim7 := { stood := { row := shownUptoRow, standIns := [], harness := (true, "741ca47b7704d1da33509094b63733bf83ffc7742d68b2c20ae39b5b31870a26"), looks := false }, kinds := [], alts := [], laidByText := true, laidKinds := [.data, .data, .data], laidTests := true, laidLooks := .later }
def ShownUptoCardSaid : Prop := Claim7.holds Tryd.pinned (.plain (OpenSpec.upto shownSpec)) shownUptoCard
end Rows
end Go.Proofs.YtmoeoppbmhfbpaaDoor
