/-
  DERIVED. GIVEN WITH THE SEED: THE CARDS: each row of YtbkddnibcpjkgaaDoorRows.lean that lists a variable, with what it lists TIED to the program's text (the seventh form; the later family's looks); each row that meets fmt, with fmt's text TOLD by the authors' own Lean function (tested against real Go, not proved from fmt's source: count such statements apart). THE CARD IS WHAT COUNTS. Prove the row's statement (the work); the ties are given (YtbkddnibcpjkgaaDoorTie.lean); close each card by the builder's one call (the guide's Derived/Test/ToyasCard.lean, 'card_holds'). Laid BY PROGRAM, IN A SANDBOX (cutbox-door.mjs). By AI agents, Wed Nov 11 2026. No macro, syntax, notation, axiom, sorry.
-/
import Derived.Test.YtbkddnibcpjkgaaDoorRows
import GoSem.ClaimSeven
namespace Go.Proofs.YtbkddnibcpjkgaaDoor
namespace Rows

/-- THE TIED CARD OF 'breakwaterlaw16.PlainNames'. -/
def plainNamesCard : Claim7 := { stood := { row := plainNamesRow, standIns := [], harness := (true, "b790ba9aab636b432fe59e62c1eadcf22b6954b358b8ce1554c84e6f99ffdbf2"), looks := false }, kinds := [], alts := [], laidByText := true, laidKinds := [.data, .data, .pinned], laidTests := true, laidLooks := .later }
def PlainNamesCardSaid : Prop := Claim7.holds Tryd.pinned (.plain (OpenSpec.ofChange plainNamesSpec)) plainNamesCard

/-- THE TIED CARD OF 'breakwaterlaw16.PlainSizes'. -/
def plainSizesCard : Claim7 := { stood := { row := plainSizesRow, standIns := [], harness := (true, "b790ba9aab636b432fe59e62c1eadcf22b6954b358b8ce1554c84e6f99ffdbf2"), looks := false }, kinds := [], alts := [], laidByText := true, laidKinds := [.data, .data, .pinned], laidTests := true, laidLooks := .later }
def PlainSizesCardSaid : Prop := Claim7.holds Tryd.pinned (.plain (OpenSpec.ofChange plainSizesSpec)) plainSizesCard

/-- THE SECOND FORM's CARD OF 'breakwaterlaw16.PlainNames'. -/
def plainNamesUptoCard : Claim7 := { stood := { row := plainNamesUptoRow, standIns := [], harness := (true, "b790ba9aab636b432fe59e62c1eadcf22b6954b358b8ce1554c84e6f99ffdbf2"), looks := false }, kinds := [], alts := [], laidByText := true, laidKinds := [.data, .data, .pinned], laidTests := true, laidLooks := .later }
def PlainNamesUptoCardSaid : Prop := Claim7.holds Tryd.pinned (.plain (OpenSpec.upto plainNamesSpec)) plainNamesUptoCard

/-- THE SECOND FORM's CARD OF 'breakwaterlaw16.PlainSizes'. -/
def plainSizesUptoCard : Claim7 := { stood := { row := plainSizesUptoRow, standIns := [], harness := (true, "b790ba9aab636b432fe59e62c1eadcf22b6954b358b8ce1554c84e6f99ffdbf2"), looks := false }, kinds := [], alts := [], laidByText := true, laidKinds := [.data, .data, .pinned], laidTests := true, laidLooks := .later }
def PlainSizesUptoCardSaid : Prop := Claim7.holds Tryd.pinned (.plain (OpenSpec.upto plainSizesSpec)) plainSizesUptoCard
end Rows
end Go.Proofs.YtbkddnibcpjkgaaDoor
