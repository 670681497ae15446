/-
  No cell of these rows narrows 'for every input' (looked for: loops, veiled, ifaces, maps, wideKeys, modest, calm, conditions, laid).
  DERIVED. THE GIVEN ROWS OF THIS SEAT. 6 by the template 'for every input the law returns true; each argument reads behind the call as it read before'; 0 by the template 'total and deterministic' (their statements: YtjlhmojofjkkdaaTotals.lean).
  GIVEN WITH THE SEED: the statements are not yours to turn. If you find one false, say at which input.
  Laid BY PROGRAM, IN A SANDBOX (cutbox-rows.mjs): the forced cells as the released guide's own fill.sh prints them over the translation 667aac5c42c0a690… (all of the seat's roots in one cut). By AI agents, Wed Nov 11 2026. No macro, syntax, notation, axiom, sorry.
-/
import Derived.Test.YtjlhmojofjkkdaaChecked
import GoSem.Claim
import GoSem.ClaimJoined
import GoSem.ClaimMapViews
import Derived.JoinedTies
import Derived.KernelRfl
namespace Go.Proofs.Ytjlhmojofjkkdaa
/- THE CELL 'sum', in the pinned program and in every row, IS THE sha256 OF THE DUMP (.gsa) THAT YtjlhmojofjkkdaaProg.lean LOADS. Nothing in Lean hashes anything: it is a label: what it is worth is what the hold of that sum in a sandbox is worth. -/
noncomputable def Try.pinned : Pinned := { name := "ytjlhmojofjkkdaa", sum := "667aac5c42c0a690d45ec43a9ef13026d203f1024a68d679fff703775a7c4721", checked := Try.checked }
namespace Rows
def none {H : Type} : Left H := { results := [], args := [] }

/-- 'breakwaterlaw09.BlocksWays': WHATEVER THE INPUT: true; the input reads as it did. -/
def blocksWaysSpec : ChangeSpec := { name := "blocksWays", fn := fun _ => fun
  | [d1, d2] => { results := [.lit (.bool true)], args := [d1, d2] }
  | _ => none }
def blocksWaysRow : OpenClaim := { program := "ytjlhmojofjkkdaa", sum := "667aac5c42c0a690d45ec43a9ef13026d203f1024a68d679fff703775a7c4721", func := "breakwater/breakwaterlaw09.BlocksWays", spec := "blocksWays", unfollowed := true, recurses := true, plainKeys := false, apart := false }
def BlocksWaysSaid : Prop := blocksWaysRow.holds Try.pinned (OpenSpec.ofChange blocksWaysSpec)

/-- ITS FALSE NEIGHBOUR: 'it returns false'. Refute it at one input. -/
def blocksWaysWrong : ChangeSpec := { name := "blocksWays", fn := fun _ => fun
  | [d1, d2] => { results := [.lit (.bool false)], args := [d1, d2] }
  | _ => none }
def BlocksWaysWrongFalsely : Prop := blocksWaysRow.holds Try.pinned (OpenSpec.ofChange blocksWaysWrong)

/-- 'breakwaterlaw09.BlocksFinds': WHATEVER THE INPUT: true; the input reads as it did. -/
def blocksFindsSpec : ChangeSpec := { name := "blocksFinds", fn := fun _ => fun
  | [d1, d2] => { results := [.lit (.bool true)], args := [d1, d2] }
  | _ => none }
def blocksFindsRow : OpenClaim := { program := "ytjlhmojofjkkdaa", sum := "667aac5c42c0a690d45ec43a9ef13026d203f1024a68d679fff703775a7c4721", func := "breakwater/breakwaterlaw09.BlocksFinds", spec := "blocksFinds", unfollowed := true, recurses := true, plainKeys := false, apart := false }
def BlocksFindsSaid : Prop := blocksFindsRow.holds Try.pinned (OpenSpec.ofChange blocksFindsSpec)

/-- ITS FALSE NEIGHBOUR: 'it returns false'. Refute it at one input. -/
def blocksFindsWrong : ChangeSpec := { name := "blocksFinds", fn := fun _ => fun
  | [d1, d2] => { results := [.lit (.bool false)], args := [d1, d2] }
  | _ => none }
def BlocksFindsWrongFalsely : Prop := blocksFindsRow.holds Try.pinned (OpenSpec.ofChange blocksFindsWrong)

/-- 'breakwaterlaw09.BlocksSpots': WHATEVER THE INPUT: true; the input reads as it did. -/
def blocksSpotsSpec : ChangeSpec := { name := "blocksSpots", fn := fun _ => fun
  | [d] => { results := [.lit (.bool true)], args := [d] }
  | _ => none }
def blocksSpotsRow : OpenClaim := { program := "ytjlhmojofjkkdaa", sum := "667aac5c42c0a690d45ec43a9ef13026d203f1024a68d679fff703775a7c4721", func := "breakwater/breakwaterlaw09.BlocksSpots", spec := "blocksSpots", unfollowed := true, recurses := true, plainKeys := false, apart := false }
def BlocksSpotsSaid : Prop := blocksSpotsRow.holds Try.pinned (OpenSpec.ofChange blocksSpotsSpec)

/-- ITS FALSE NEIGHBOUR: 'it returns false'. Refute it at one input. -/
def blocksSpotsWrong : ChangeSpec := { name := "blocksSpots", fn := fun _ => fun
  | [d] => { results := [.lit (.bool false)], args := [d] }
  | _ => none }
def BlocksSpotsWrongFalsely : Prop := blocksSpotsRow.holds Try.pinned (OpenSpec.ofChange blocksSpotsWrong)

/-- 'breakwaterlaw09.BlocksNeeds': WHATEVER THE INPUT: true; the input reads as it did. -/
def blocksNeedsSpec : ChangeSpec := { name := "blocksNeeds", fn := fun _ => fun
  | [d1, d2, d3] => { results := [.lit (.bool true)], args := [d1, d2, d3] }
  | _ => none }
def blocksNeedsRow : OpenClaim := { program := "ytjlhmojofjkkdaa", sum := "667aac5c42c0a690d45ec43a9ef13026d203f1024a68d679fff703775a7c4721", func := "breakwater/breakwaterlaw09.BlocksNeeds", spec := "blocksNeeds", unfollowed := true, recurses := true, plainKeys := false, apart := false }
def BlocksNeedsSaid : Prop := blocksNeedsRow.holds Try.pinned (OpenSpec.ofChange blocksNeedsSpec)

/-- ITS FALSE NEIGHBOUR: 'it returns false'. Refute it at one input. -/
def blocksNeedsWrong : ChangeSpec := { name := "blocksNeeds", fn := fun _ => fun
  | [d1, d2, d3] => { results := [.lit (.bool false)], args := [d1, d2, d3] }
  | _ => none }
def BlocksNeedsWrongFalsely : Prop := blocksNeedsRow.holds Try.pinned (OpenSpec.ofChange blocksNeedsWrong)

/-- 'breakwaterlaw09.BlocksOwns': WHATEVER THE INPUT: true; the input reads as it did. -/
def blocksOwnsSpec : ChangeSpec := { name := "blocksOwns", fn := fun _ => fun
  | [d1, d2] => { results := [.lit (.bool true)], args := [d1, d2] }
  | _ => none }
def blocksOwnsRow : OpenClaim := { program := "ytjlhmojofjkkdaa", sum := "667aac5c42c0a690d45ec43a9ef13026d203f1024a68d679fff703775a7c4721", func := "breakwater/breakwaterlaw09.BlocksOwns", spec := "blocksOwns", unfollowed := true, recurses := true, plainKeys := false, apart := false }
def BlocksOwnsSaid : Prop := blocksOwnsRow.holds Try.pinned (OpenSpec.ofChange blocksOwnsSpec)

/-- ITS FALSE NEIGHBOUR: 'it returns false'. Refute it at one input. -/
def blocksOwnsWrong : ChangeSpec := { name := "blocksOwns", fn := fun _ => fun
  | [d1, d2] => { results := [.lit (.bool false)], args := [d1, d2] }
  | _ => none }
def BlocksOwnsWrongFalsely : Prop := blocksOwnsRow.holds Try.pinned (OpenSpec.ofChange blocksOwnsWrong)

/-- 'breakwaterlaw09.BlocksNothing': WHATEVER THE INPUT: true; the input reads as it did. -/
def blocksNothingSpec : ChangeSpec := { name := "blocksNothing", fn := fun _ => fun
  | [d1, d2] => { results := [.lit (.bool true)], args := [d1, d2] }
  | _ => none }
def blocksNothingRow : OpenClaim := { program := "ytjlhmojofjkkdaa", sum := "667aac5c42c0a690d45ec43a9ef13026d203f1024a68d679fff703775a7c4721", func := "breakwater/breakwaterlaw09.BlocksNothing", spec := "blocksNothing", unfollowed := true, recurses := true, plainKeys := false, apart := false }
def BlocksNothingSaid : Prop := blocksNothingRow.holds Try.pinned (OpenSpec.ofChange blocksNothingSpec)

/-- ITS FALSE NEIGHBOUR: 'it returns false'. Refute it at one input. -/
def blocksNothingWrong : ChangeSpec := { name := "blocksNothing", fn := fun _ => fun
  | [d1, d2] => { results := [.lit (.bool false)], args := [d1, d2] }
  | _ => none }
def BlocksNothingWrongFalsely : Prop := blocksNothingRow.holds Try.pinned (OpenSpec.ofChange blocksNothingWrong)

/- THE SECOND FORM. 'bulk': how many values and letters a reading holds, each counted each time it is reached (what is shared counts as often as it is met; a slice's spare places count too). A statement '..UptoSaid' is the law's where the arguments, and the package variables that the reading takes, are together of bulk at most 1048576: NARROWER than '..Said'. Prove '..Said' where nothing that the law and all that it calls make is longer than what came in: it says more and counts as full. Else prove '..UptoSaid'. A law counts once. -/
mutual
def uptoBulk {H : Type} : DataW H → Nat
  | .lit (.string bytes) => bytes.length + 1
  | .lit _ => 1
  | .nil => 1
  | .ptr d => uptoBulk d + 1
  | .slice elems spare => uptoBulkAll elems + uptoBulkAll spare + 1
  | .agg parts => uptoBulkAll parts + 1
  | .iface _ d => uptoBulk d + 1
  | .map entries => uptoBulkEntries entries + 1
  | .held _ => 1
def uptoBulkAll {H : Type} : List (DataW H) → Nat
  | [] => 0
  | d :: r => uptoBulk d + uptoBulkAll r
def uptoBulkEntries {H : Type} : List (Lit × DataW H) → Nat
  | [] => 0
  | x :: r => uptoBulkEntry x + uptoBulkEntries r
def uptoBulkEntry {H : Type} : Lit × DataW H → Nat
  | (.string bytes, d) => bytes.length + uptoBulk d + 1
  | (_, d) => uptoBulk d + 1
 end
def uptoSmall : (H : Type) → List (DataW H) → Bool := fun _ ds => decide (uptoBulkAll ds ≤ 1048576)
def OpenSpec.upto (s : _root_.Go.ChangeSpec) : _root_.Go.OpenSpec := { _root_.Go.OpenSpec.ofChange s with cond := some uptoSmall }

/-- 'breakwaterlaw09.BlocksWays', WHERE WHAT IT READS IS OF BULK AT MOST 1048576: true; the input reads as it did. -/
def blocksWaysUptoRow : OpenClaim := { program := "ytjlhmojofjkkdaa", sum := "667aac5c42c0a690d45ec43a9ef13026d203f1024a68d679fff703775a7c4721", func := "breakwater/breakwaterlaw09.BlocksWays", spec := "blocksWays", unfollowed := true, recurses := true, plainKeys := false, apart := false, narrowed := true }
def BlocksWaysUptoSaid : Prop := blocksWaysUptoRow.holds Try.pinned (OpenSpec.upto blocksWaysSpec)

/-- 'breakwaterlaw09.BlocksFinds', WHERE WHAT IT READS IS OF BULK AT MOST 1048576: true; the input reads as it did. -/
def blocksFindsUptoRow : OpenClaim := { program := "ytjlhmojofjkkdaa", sum := "667aac5c42c0a690d45ec43a9ef13026d203f1024a68d679fff703775a7c4721", func := "breakwater/breakwaterlaw09.BlocksFinds", spec := "blocksFinds", unfollowed := true, recurses := true, plainKeys := false, apart := false, narrowed := true }
def BlocksFindsUptoSaid : Prop := blocksFindsUptoRow.holds Try.pinned (OpenSpec.upto blocksFindsSpec)

/-- 'breakwaterlaw09.BlocksSpots', WHERE WHAT IT READS IS OF BULK AT MOST 1048576: true; the input reads as it did. -/
def blocksSpotsUptoRow : OpenClaim := { program := "ytjlhmojofjkkdaa", sum := "667aac5c42c0a690d45ec43a9ef13026d203f1024a68d679fff703775a7c4721", func := "breakwater/breakwaterlaw09.BlocksSpots", spec := "blocksSpots", unfollowed := true, recurses := true, plainKeys := false, apart := false, narrowed := true }
def BlocksSpotsUptoSaid : Prop := blocksSpotsUptoRow.holds Try.pinned (OpenSpec.upto blocksSpotsSpec)

/-- 'breakwaterlaw09.BlocksNeeds', WHERE WHAT IT READS IS OF BULK AT MOST 1048576: true; the input reads as it did. -/
def blocksNeedsUptoRow : OpenClaim := { program := "ytjlhmojofjkkdaa", sum := "667aac5c42c0a690d45ec43a9ef13026d203f1024a68d679fff703775a7c4721", func := "breakwater/breakwaterlaw09.BlocksNeeds", spec := "blocksNeeds", unfollowed := true, recurses := true, plainKeys := false, apart := false, narrowed := true }
def BlocksNeedsUptoSaid : Prop := blocksNeedsUptoRow.holds Try.pinned (OpenSpec.upto blocksNeedsSpec)

/-- 'breakwaterlaw09.BlocksOwns', WHERE WHAT IT READS IS OF BULK AT MOST 1048576: true; the input reads as it did. -/
def blocksOwnsUptoRow : OpenClaim := { program := "ytjlhmojofjkkdaa", sum := "667aac5c42c0a690d45ec43a9ef13026d203f1024a68d679fff703775a7c4721", func := "breakwater/breakwaterlaw09.BlocksOwns", spec := "blocksOwns", unfollowed := true, recurses := true, plainKeys := false, apart := false, narrowed := true }
def BlocksOwnsUptoSaid : Prop := blocksOwnsUptoRow.holds Try.pinned (OpenSpec.upto blocksOwnsSpec)

/-- 'breakwaterlaw09.BlocksNothing', WHERE WHAT IT READS IS OF BULK AT MOST 1048576: true; the input reads as it did. -/
def blocksNothingUptoRow : OpenClaim := { program := "ytjlhmojofjkkdaa", sum := "667aac5c42c0a690d45ec43a9ef13026d203f1024a68d679fff703775a7c4721", func := "breakwater/breakwaterlaw09.BlocksNothing", spec := "blocksNothing", unfollowed := true, recurses := true, plainKeys := false, apart := false, narrowed := true }
def BlocksNothingUptoSaid : Prop := blocksNothingUptoRow.holds Try.pinned (OpenSpec.upto blocksNothingSpec)

end Rows
end Go.Proofs.Ytjlhmojofjkkdaa
