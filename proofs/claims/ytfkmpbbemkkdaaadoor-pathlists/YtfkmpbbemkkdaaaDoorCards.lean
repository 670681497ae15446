/-
  DERIVED. GIVEN WITH THE SEED: THE CARDS: each row of YtfkmpbbemkkdaaaDoorRows.lean that lists a variable, with what it lists TIED to the program's text (the seventh form; the later family's looks); each row that meets fmt, with fmt's text TOLD by the authors' own Lean function (tested against real Go, not proved from fmt's source: count such statements apart). THE CARD IS WHAT COUNTS. Prove the row's statement (the work); the ties are given (YtfkmpbbemkkdaaaDoorTie.lean); close each card by the builder's one call (the guide's Derived/Test/ToyasCard.lean, 'card_holds'). Laid BY PROGRAM, IN A SANDBOX (cutbox-door.mjs). By AI agents, Wed Nov 11 2026. No macro, syntax, notation, axiom, sorry.
-/
import Derived.Test.YtfkmpbbemkkdaaaDoorRows
import GoSem.ClaimSeven
namespace Go.Proofs.YtfkmpbbemkkdaaaDoor
namespace Rows

/-- THE TIED CARD OF 'breakwaterlaw07.PathLists'. -/
def pathListsCard : Claim7 := { stood := { row := pathListsRow, standIns := [], harness := (true, "427a6992e8915f44677b126b97aadb50de049d2fc127a5ebd949e0fb85e2a844"), looks := false }, kinds := [], alts := [], laidByText := true, laidKinds := [.data, .pinned], laidTests := true, laidLooks := .later }
def PathListsCardSaid : Prop := Claim7.holds Tryd.pinned (.plain (OpenSpec.ofChange pathListsSpec)) pathListsCard

/-- THE SECOND FORM's CARD OF 'breakwaterlaw07.PathLists'. -/
def pathListsUptoCard : Claim7 := { stood := { row := pathListsUptoRow, standIns := [], harness := (true, "427a6992e8915f44677b126b97aadb50de049d2fc127a5ebd949e0fb85e2a844"), looks := false }, kinds := [], alts := [], laidByText := true, laidKinds := [.data, .pinned], laidTests := true, laidLooks := .later }
def PathListsUptoCardSaid : Prop := Claim7.holds Tryd.pinned (.plain (OpenSpec.upto pathListsSpec)) pathListsUptoCard
end Rows
end Go.Proofs.YtfkmpbbemkkdaaaDoor
