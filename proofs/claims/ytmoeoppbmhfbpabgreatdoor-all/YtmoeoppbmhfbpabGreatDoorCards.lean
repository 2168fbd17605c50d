/-
  DERIVED. GIVEN WITH THE SEED: THE CARDS: each row of YtmoeoppbmhfbpabGreatDoorRows.lean that lists a variable, with what it lists TIED to the program's text (the seventh form; the later family's looks); each row that meets fmt, with fmt's text TOLD by the authors' own Lean function (tested against real Go, not proved from fmt's source: count such statements apart). THE CARD IS WHAT COUNTS. Prove the row's statement (the work); the ties are given (YtmoeoppbmhfbpabGreatDoorTie.lean); close each card by the builder's one call (the guide's Derived/Test/ToyasCard.lean, 'card_holds'). Laid BY PROGRAM, IN A SANDBOX (cutbox-door.mjs). By AI agents, Wed Nov 11 2026. No macro, syntax, notation, axiom, sorry.
-/
import Derived.Test.YtmoeoppbmhfbpabGreatDoorRows
import GoSem.ClaimSeven
namespace Go.Proofs.YtmoeoppbmhfbpabGreatDoor
namespace Rows

/-- THE TIED CARD OF 'rulebooklaw.Optimises'. -/
def optimisesCard : Claim7 := { stood := { row := optimisesRow, standIns := [], harness := (true, "ce6d409c92cfb325493f23df0ee152d93fc58d4d47db794dd823abe930f9a0b8"), looks := false }, kinds := [], alts := [], laidByText := true, laidKinds := [.data, .data, .data], laidTests := true, laidLooks := .later }
def OptimisesCardSaid : Prop := Claim7.holds Tryz.pinned (.plain (OpenSpec.ofChange optimisesSpec)) optimisesCard

/-- THE TIED CARD OF 'rulebooklaw.Keeps'. -/
def keepsCard : Claim7 := { stood := { row := keepsRow, standIns := [], harness := (true, "ce6d409c92cfb325493f23df0ee152d93fc58d4d47db794dd823abe930f9a0b8"), looks := false }, kinds := [], alts := [], laidByText := true, laidKinds := [.data, .data, .data], laidTests := true, laidLooks := .later }
def KeepsCardSaid : Prop := Claim7.holds Tryz.pinned (.plain (OpenSpec.ofChange keepsSpec)) keepsCard

/-- THE TIED CARD OF 'rulebookkeep.Spent'. -/
def spentCard : Claim7 := { stood := { row := spentRow, standIns := [], harness := (true, "ce6d409c92cfb325493f23df0ee152d93fc58d4d47db794dd823abe930f9a0b8"), looks := false }, kinds := [], alts := [], laidByText := true, laidKinds := [.data, .data, .data], laidTests := true, laidLooks := .later }
def SpentCardSaid : Prop := Claim7.holds Tryz.pinned (.plain (OpenSpec.ofChange spentSpec)) spentCard

/-- THE TIED CARD OF 'rulebookkeep.Faces'. -/
def facesCard : Claim7 := { stood := { row := facesRow, standIns := [], harness := (true, "ce6d409c92cfb325493f23df0ee152d93fc58d4d47db794dd823abe930f9a0b8"), looks := false }, kinds := [], alts := [], laidByText := true, laidKinds := [.data, .data, .data], laidTests := true, laidLooks := .later }
def FacesCardSaid : Prop := Claim7.holds Tryz.pinned (.plain (OpenSpec.ofChange facesSpec)) facesCard

/-- THE TIED CARD OF 'rulebookkeep.Same'. -/
def sameCard : Claim7 := { stood := { row := sameRow, standIns := [], harness := (true, "ce6d409c92cfb325493f23df0ee152d93fc58d4d47db794dd823abe930f9a0b8"), looks := false }, kinds := [], alts := [], laidByText := true, laidKinds := [.data, .data, .data], laidTests := true, laidLooks := .later }
def SameCardSaid : Prop := Claim7.holds Tryz.pinned (.plain (OpenSpec.ofChange sameSpec)) sameCard

/-- THE TIED CARD OF 'rulebookkeep.Straight'. -/
def straightCard : Claim7 := { stood := { row := straightRow, standIns := [], harness := (true, "ce6d409c92cfb325493f23df0ee152d93fc58d4d47db794dd823abe930f9a0b8"), looks := false }, kinds := [], alts := [], laidByText := true, laidKinds := [.data, .data, .data], laidTests := true, laidLooks := .later }
def StraightCardSaid : Prop := Claim7.holds Tryz.pinned (.plain (OpenSpec.ofChange straightSpec)) straightCard

/-- THE TIED CARD OF 'rulebooklaw.All'. -/
def allCard : Claim7 := { stood := { row := allRow, standIns := [], harness := (true, "ce6d409c92cfb325493f23df0ee152d93fc58d4d47db794dd823abe930f9a0b8"), looks := false }, kinds := [], alts := [], laidByText := true, laidKinds := [.data, .data, .data], laidTests := true, laidLooks := .later }
def AllCardSaid : Prop := Claim7.holds Tryz.pinned (.plain (OpenSpec.ofChange allSpec)) allCard

/-- THE SECOND FORM's CARD OF 'rulebooklaw.Optimises'. -/
def optimisesUptoCard : Claim7 := { stood := { row := optimisesUptoRow, standIns := [], harness := (true, "ce6d409c92cfb325493f23df0ee152d93fc58d4d47db794dd823abe930f9a0b8"), looks := false }, kinds := [], alts := [], laidByText := true, laidKinds := [.data, .data, .data], laidTests := true, laidLooks := .later }
def OptimisesUptoCardSaid : Prop := Claim7.holds Tryz.pinned (.plain (OpenSpec.upto optimisesSpec)) optimisesUptoCard

/-- THE SECOND FORM's CARD OF 'rulebooklaw.Keeps'. -/
def keepsUptoCard : Claim7 := { stood := { row := keepsUptoRow, standIns := [], harness := (true, "ce6d409c92cfb325493f23df0ee152d93fc58d4d47db794dd823abe930f9a0b8"), looks := false }, kinds := [], alts := [], laidByText := true, laidKinds := [.data, .data, .data], laidTests := true, laidLooks := .later }
def KeepsUptoCardSaid : Prop := Claim7.holds Tryz.pinned (.plain (OpenSpec.upto keepsSpec)) keepsUptoCard

/-- THE SECOND FORM's CARD OF 'rulebookkeep.Spent'. -/
def spentUptoCard : Claim7 := { stood := { row := spentUptoRow, standIns := [], harness := (true, "ce6d409c92cfb325493f23df0ee152d93fc58d4d47db794dd823abe930f9a0b8"), looks := false }, kinds := [], alts := [], laidByText := true, laidKinds := [.data, .data, .data], laidTests := true, laidLooks := .later }
def SpentUptoCardSaid : Prop := Claim7.holds Tryz.pinned (.plain (OpenSpec.upto spentSpec)) spentUptoCard

/-- THE SECOND FORM's CARD OF 'rulebookkeep.Faces'. -/
def facesUptoCard : Claim7 := { stood := { row := facesUptoRow, standIns := [], harness := (true, "ce6d409c92cfb325493f23df0ee152d93fc58d4d47db794dd823abe930f9a0b8"), looks := false }, kinds := [], alts := [], laidByText := true, laidKinds := [.data, .data, .data], laidTests := true, laidLooks := .later }
def FacesUptoCardSaid : Prop := Claim7.holds Tryz.pinned (.plain (OpenSpec.upto facesSpec)) facesUptoCard

/-- THE SECOND FORM's CARD OF 'rulebookkeep.Same'. -/
def sameUptoCard : Claim7 := { stood := { row := sameUptoRow, standIns := [], harness := (true, "ce6d409c92cfb325493f23df0ee152d93fc58d4d47db794dd823abe930f9a0b8"), looks := false }, kinds := [], alts := [], laidByText := true, laidKinds := [.data, .data, .data], laidTests := true, laidLooks := .later }
def SameUptoCardSaid : Prop := Claim7.holds Tryz.pinned (.plain (OpenSpec.upto sameSpec)) sameUptoCard

/-- THE SECOND FORM's CARD OF 'rulebookkeep.Straight'. -/
def straightUptoCard : Claim7 := { stood := { row := straightUptoRow, standIns := [], harness := (true, "ce6d409c92cfb325493f23df0ee152d93fc58d4d47db794dd823abe930f9a0b8"), looks := false }, kinds := [], alts := [], laidByText := true, laidKinds := [.data, .data, .data], laidTests := true, laidLooks := .later }
def StraightUptoCardSaid : Prop := Claim7.holds Tryz.pinned (.plain (OpenSpec.upto straightSpec)) straightUptoCard

/-- THE SECOND FORM's CARD OF 'rulebooklaw.All'. -/
def allUptoCard : Claim7 := { stood := { row := allUptoRow, standIns := [], harness := (true, "ce6d409c92cfb325493f23df0ee152d93fc58d4d47db794dd823abe930f9a0b8"), looks := false }, kinds := [], alts := [], laidByText := true, laidKinds := [.data, .data, .data], laidTests := true, laidLooks := .later }
def AllUptoCardSaid : Prop := Claim7.holds Tryz.pinned (.plain (OpenSpec.upto allSpec)) allUptoCard
end Rows
end Go.Proofs.YtmoeoppbmhfbpabGreatDoor
