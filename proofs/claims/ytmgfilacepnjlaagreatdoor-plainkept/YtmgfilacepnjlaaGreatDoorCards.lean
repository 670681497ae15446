/-
  DERIVED. GIVEN WITH THE SEED: THE CARDS: each row of YtmgfilacepnjlaaGreatDoorRows.lean that lists a variable, with what it lists TIED to the program's text (the seventh form; the later family's looks); each row that meets fmt, with fmt's text TOLD by the authors' own Lean function (tested against real Go, not proved from fmt's source: count such statements apart). THE CARD IS WHAT COUNTS. Prove the row's statement (the work); the ties are given (YtmgfilacepnjlaaGreatDoorTie.lean); close each card by the builder's one call (the guide's Derived/Test/ToyasCard.lean, 'card_holds'). Laid BY PROGRAM, IN A SANDBOX (cutbox-door.mjs). By AI agents, Wed Nov 11 2026. No macro, syntax, notation, axiom, sorry.
-/
import Derived.Test.YtmgfilacepnjlaaGreatDoorRows
import GoSem.ClaimSeven
namespace Go.Proofs.YtmgfilacepnjlaaGreatDoor
namespace Rows

/-- THE TIED CARD OF 'breakwaterlaw16.PlainKept'. -/
def plainKeptCard : Claim7 := { stood := { row := plainKeptRow, standIns := [], harness := (true, "8f99cae553d0c9e95a58adcea1dee91e7bb7461ba97e404f137715e3fbab67a2"), looks := false }, kinds := [], alts := [], laidByText := true, laidKinds := [.data, .data, .pinned], laidTests := true, laidLooks := .later }
def PlainKeptCardSaid : Prop := Claim7.holds Tryz.pinned (.plain (OpenSpec.ofChange plainKeptSpec)) plainKeptCard

/-- THE TIED CARD OF 'breakwaterlaw16.PlainRoom'. -/
def plainRoomCard : Claim7 := { stood := { row := plainRoomRow, standIns := [], harness := (true, "8f99cae553d0c9e95a58adcea1dee91e7bb7461ba97e404f137715e3fbab67a2"), looks := false }, kinds := [], alts := [], laidByText := true, laidKinds := [.data, .data, .pinned], laidTests := true, laidLooks := .later }
def PlainRoomCardSaid : Prop := Claim7.holds Tryz.pinned (.plain (OpenSpec.ofChange plainRoomSpec)) plainRoomCard

/-- THE TIED CARD OF 'breakwaterlaw16.PlainBack'. -/
def plainBackCard : Claim7 := { stood := { row := plainBackRow, standIns := [], harness := (true, "8f99cae553d0c9e95a58adcea1dee91e7bb7461ba97e404f137715e3fbab67a2"), looks := false }, kinds := [], alts := [], laidByText := true, laidKinds := [.data, .data, .pinned], laidTests := true, laidLooks := .later }
def PlainBackCardSaid : Prop := Claim7.holds Tryz.pinned (.plain (OpenSpec.ofChange plainBackSpec)) plainBackCard

/-- THE SECOND FORM's CARD OF 'breakwaterlaw16.PlainKept'. -/
def plainKeptUptoCard : Claim7 := { stood := { row := plainKeptUptoRow, standIns := [], harness := (true, "8f99cae553d0c9e95a58adcea1dee91e7bb7461ba97e404f137715e3fbab67a2"), looks := false }, kinds := [], alts := [], laidByText := true, laidKinds := [.data, .data, .pinned], laidTests := true, laidLooks := .later }
def PlainKeptUptoCardSaid : Prop := Claim7.holds Tryz.pinned (.plain (OpenSpec.upto plainKeptSpec)) plainKeptUptoCard

/-- THE SECOND FORM's CARD OF 'breakwaterlaw16.PlainRoom'. -/
def plainRoomUptoCard : Claim7 := { stood := { row := plainRoomUptoRow, standIns := [], harness := (true, "8f99cae553d0c9e95a58adcea1dee91e7bb7461ba97e404f137715e3fbab67a2"), looks := false }, kinds := [], alts := [], laidByText := true, laidKinds := [.data, .data, .pinned], laidTests := true, laidLooks := .later }
def PlainRoomUptoCardSaid : Prop := Claim7.holds Tryz.pinned (.plain (OpenSpec.upto plainRoomSpec)) plainRoomUptoCard

/-- THE SECOND FORM's CARD OF 'breakwaterlaw16.PlainBack'. -/
def plainBackUptoCard : Claim7 := { stood := { row := plainBackUptoRow, standIns := [], harness := (true, "8f99cae553d0c9e95a58adcea1dee91e7bb7461ba97e404f137715e3fbab67a2"), looks := false }, kinds := [], alts := [], laidByText := true, laidKinds := [.data, .data, .pinned], laidTests := true, laidLooks := .later }
def PlainBackUptoCardSaid : Prop := Claim7.holds Tryz.pinned (.plain (OpenSpec.upto plainBackSpec)) plainBackUptoCard
end Rows
end Go.Proofs.YtmgfilacepnjlaaGreatDoor
