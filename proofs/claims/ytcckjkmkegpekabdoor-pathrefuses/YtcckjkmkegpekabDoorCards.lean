/-
  DERIVED. GIVEN WITH THE SEED: THE CARDS: each row of YtcckjkmkegpekabDoorRows.lean that lists a variable, with what it lists TIED to the program's text (the seventh form; the later family's looks); each row that meets fmt, with fmt's text TOLD by the authors' own Lean function (tested against real Go, not proved from fmt's source: count such statements apart). THE CARD IS WHAT COUNTS. Prove the row's statement (the work); the ties are given (YtcckjkmkegpekabDoorTie.lean); close each card by the builder's one call (the guide's Derived/Test/ToyasCard.lean, 'card_holds'). Laid BY PROGRAM, IN A SANDBOX (cutbox-door.mjs). By AI agents, Wed Nov 11 2026. No macro, syntax, notation, axiom, sorry.
-/
import Derived.Test.YtcckjkmkegpekabDoorRows
import GoSem.ClaimSeven
namespace Go.Proofs.YtcckjkmkegpekabDoor
namespace Rows

/-- THE TIED CARD OF 'breakwaterlaw07.PathRefuses'. -/
def pathRefusesCard : Claim7 := { stood := { row := pathRefusesRow, standIns := [], harness := (true, "c9be0342e3846281b412afec4aa2611436d862457b623216f4ede0e58a5a783d"), looks := false }, kinds := [], alts := [], laidByText := true, laidKinds := [.data, .pinned], laidTests := true, laidLooks := .later }
def PathRefusesCardSaid : Prop := Claim7.holds Tryd.pinned (.plain (OpenSpec.ofChange pathRefusesSpec)) pathRefusesCard

/-- THE TIED CARD OF 'breakwaterlaw07.PathLong'. -/
def pathLongCard : Claim7 := { stood := { row := pathLongRow, standIns := [], harness := (true, "c9be0342e3846281b412afec4aa2611436d862457b623216f4ede0e58a5a783d"), looks := false }, kinds := [], alts := [], laidByText := true, laidKinds := [.data, .pinned], laidTests := true, laidLooks := .later }
def PathLongCardSaid : Prop := Claim7.holds Tryd.pinned (.plain (OpenSpec.ofChange pathLongSpec)) pathLongCard

/-- THE SECOND FORM's CARD OF 'breakwaterlaw07.PathRefuses'. -/
def pathRefusesUptoCard : Claim7 := { stood := { row := pathRefusesUptoRow, standIns := [], harness := (true, "c9be0342e3846281b412afec4aa2611436d862457b623216f4ede0e58a5a783d"), looks := false }, kinds := [], alts := [], laidByText := true, laidKinds := [.data, .pinned], laidTests := true, laidLooks := .later }
def PathRefusesUptoCardSaid : Prop := Claim7.holds Tryd.pinned (.plain (OpenSpec.upto pathRefusesSpec)) pathRefusesUptoCard

/-- THE SECOND FORM's CARD OF 'breakwaterlaw07.PathLong'. -/
def pathLongUptoCard : Claim7 := { stood := { row := pathLongUptoRow, standIns := [], harness := (true, "c9be0342e3846281b412afec4aa2611436d862457b623216f4ede0e58a5a783d"), looks := false }, kinds := [], alts := [], laidByText := true, laidKinds := [.data, .pinned], laidTests := true, laidLooks := .later }
def PathLongUptoCardSaid : Prop := Claim7.holds Tryd.pinned (.plain (OpenSpec.upto pathLongSpec)) pathLongUptoCard
end Rows
end Go.Proofs.YtcckjkmkegpekabDoor
