/-
  No cell of these rows narrows 'for every input' (looked for: loops, veiled, ifaces, maps, wideKeys, modest, calm, conditions, laid).
  DERIVED. THE GIVEN ROWS OF THIS SEAT. 6 by the template 'for every input the law returns true; each argument reads behind the call as it read before'; 0 by the template 'total and deterministic' (their statements: YtjnafcogdakbbaaTotals.lean).
  GIVEN WITH THE SEED: the statements are not yours to turn. If you find one false, say at which input.
  Laid BY PROGRAM, IN A SANDBOX (cutbox-rows.mjs): the forced cells as the released guide's own fill.sh prints them over the translation 6493a57046931334… (all of the seat's roots in one cut). By AI agents, Wed Nov 11 2026. No macro, syntax, notation, axiom, sorry.
-/
import Derived.Test.YtjnafcogdakbbaaChecked
import GoSem.Claim
import GoSem.ClaimJoined
import GoSem.ClaimMapViews
import Derived.JoinedTies
import Derived.KernelRfl
namespace Go.Proofs.Ytjnafcogdakbbaa
/- THE CELL 'sum', in the pinned program and in every row, IS THE sha256 OF THE DUMP (.gsa) THAT YtjnafcogdakbbaaProg.lean LOADS. Nothing in Lean hashes anything: it is a label: what it is worth is what the hold of that sum in a sandbox is worth. -/
noncomputable def Try.pinned : Pinned := { name := "ytjnafcogdakbbaa", sum := "6493a57046931334080635a36f3f1d7aaf66d3fe7ff812d3056ff4769b53e10e", checked := Try.checked }
namespace Rows
def none {H : Type} : Left H := { results := [], args := [] }

/-- 'breakwaterlaw03.GraphPlays': WHATEVER THE INPUT: true; the input reads as it did. -/
def graphPlaysSpec : ChangeSpec := { name := "graphPlays", fn := fun _ => fun
  | [d] => { results := [.lit (.bool true)], args := [d] }
  | _ => none }
def graphPlaysRow : OpenClaim := { program := "ytjnafcogdakbbaa", sum := "6493a57046931334080635a36f3f1d7aaf66d3fe7ff812d3056ff4769b53e10e", func := "breakwater/breakwaterlaw03.GraphPlays", spec := "graphPlays", unfollowed := true, recurses := true, apart := false }
def GraphPlaysSaid : Prop := graphPlaysRow.holds Try.pinned (OpenSpec.ofChange graphPlaysSpec)

/-- ITS FALSE NEIGHBOUR: 'it returns false'. Refute it at one input. -/
def graphPlaysWrong : ChangeSpec := { name := "graphPlays", fn := fun _ => fun
  | [d] => { results := [.lit (.bool false)], args := [d] }
  | _ => none }
def GraphPlaysWrongFalsely : Prop := graphPlaysRow.holds Try.pinned (OpenSpec.ofChange graphPlaysWrong)

/-- 'breakwaterlaw03.GraphOwns': WHATEVER THE INPUT: true; the input reads as it did. -/
def graphOwnsSpec : ChangeSpec := { name := "graphOwns", fn := fun _ => fun
  | [d] => { results := [.lit (.bool true)], args := [d] }
  | _ => none }
def graphOwnsRow : OpenClaim := { program := "ytjnafcogdakbbaa", sum := "6493a57046931334080635a36f3f1d7aaf66d3fe7ff812d3056ff4769b53e10e", func := "breakwater/breakwaterlaw03.GraphOwns", spec := "graphOwns", unfollowed := true, recurses := true, apart := false }
def GraphOwnsSaid : Prop := graphOwnsRow.holds Try.pinned (OpenSpec.ofChange graphOwnsSpec)

/-- ITS FALSE NEIGHBOUR: 'it returns false'. Refute it at one input. -/
def graphOwnsWrong : ChangeSpec := { name := "graphOwns", fn := fun _ => fun
  | [d] => { results := [.lit (.bool false)], args := [d] }
  | _ => none }
def GraphOwnsWrongFalsely : Prop := graphOwnsRow.holds Try.pinned (OpenSpec.ofChange graphOwnsWrong)

/-- 'breakwaterlaw03.GraphNoRing': WHATEVER THE INPUT: true; the input reads as it did. -/
def graphNoRingSpec : ChangeSpec := { name := "graphNoRing", fn := fun _ => fun
  | [d] => { results := [.lit (.bool true)], args := [d] }
  | _ => none }
def graphNoRingRow : OpenClaim := { program := "ytjnafcogdakbbaa", sum := "6493a57046931334080635a36f3f1d7aaf66d3fe7ff812d3056ff4769b53e10e", func := "breakwater/breakwaterlaw03.GraphNoRing", spec := "graphNoRing", unfollowed := true, recurses := true, apart := false }
def GraphNoRingSaid : Prop := graphNoRingRow.holds Try.pinned (OpenSpec.ofChange graphNoRingSpec)

/-- ITS FALSE NEIGHBOUR: 'it returns false'. Refute it at one input. -/
def graphNoRingWrong : ChangeSpec := { name := "graphNoRing", fn := fun _ => fun
  | [d] => { results := [.lit (.bool false)], args := [d] }
  | _ => none }
def GraphNoRingWrongFalsely : Prop := graphNoRingRow.holds Try.pinned (OpenSpec.ofChange graphNoRingWrong)

/-- 'breakwaterlaw03.GraphOrders': WHATEVER THE INPUT: true; the input reads as it did. -/
def graphOrdersSpec : ChangeSpec := { name := "graphOrders", fn := fun _ => fun
  | [d1, d2] => { results := [.lit (.bool true)], args := [d1, d2] }
  | _ => none }
def graphOrdersRow : OpenClaim := { program := "ytjnafcogdakbbaa", sum := "6493a57046931334080635a36f3f1d7aaf66d3fe7ff812d3056ff4769b53e10e", func := "breakwater/breakwaterlaw03.GraphOrders", spec := "graphOrders", unfollowed := true, recurses := true, apart := false }
def GraphOrdersSaid : Prop := graphOrdersRow.holds Try.pinned (OpenSpec.ofChange graphOrdersSpec)

/-- ITS FALSE NEIGHBOUR: 'it returns false'. Refute it at one input. -/
def graphOrdersWrong : ChangeSpec := { name := "graphOrders", fn := fun _ => fun
  | [d1, d2] => { results := [.lit (.bool false)], args := [d1, d2] }
  | _ => none }
def GraphOrdersWrongFalsely : Prop := graphOrdersRow.holds Try.pinned (OpenSpec.ofChange graphOrdersWrong)

/-- 'breakwaterlaw03.GraphWays': WHATEVER THE INPUT: true; the input reads as it did. -/
def graphWaysSpec : ChangeSpec := { name := "graphWays", fn := fun _ => fun
  | [d1, d2, d3] => { results := [.lit (.bool true)], args := [d1, d2, d3] }
  | _ => none }
def graphWaysRow : OpenClaim := { program := "ytjnafcogdakbbaa", sum := "6493a57046931334080635a36f3f1d7aaf66d3fe7ff812d3056ff4769b53e10e", func := "breakwater/breakwaterlaw03.GraphWays", spec := "graphWays", unfollowed := true, recurses := true, apart := false }
def GraphWaysSaid : Prop := graphWaysRow.holds Try.pinned (OpenSpec.ofChange graphWaysSpec)

/-- ITS FALSE NEIGHBOUR: 'it returns false'. Refute it at one input. -/
def graphWaysWrong : ChangeSpec := { name := "graphWays", fn := fun _ => fun
  | [d1, d2, d3] => { results := [.lit (.bool false)], args := [d1, d2, d3] }
  | _ => none }
def GraphWaysWrongFalsely : Prop := graphWaysRow.holds Try.pinned (OpenSpec.ofChange graphWaysWrong)

/-- 'breakwaterlaw03.GraphAdds': WHATEVER THE INPUT: true; the input reads as it did. -/
def graphAddsSpec : ChangeSpec := { name := "graphAdds", fn := fun _ => fun
  | [d1, d2, d3] => { results := [.lit (.bool true)], args := [d1, d2, d3] }
  | _ => none }
def graphAddsRow : OpenClaim := { program := "ytjnafcogdakbbaa", sum := "6493a57046931334080635a36f3f1d7aaf66d3fe7ff812d3056ff4769b53e10e", func := "breakwater/breakwaterlaw03.GraphAdds", spec := "graphAdds", unfollowed := true, recurses := true, apart := false }
def GraphAddsSaid : Prop := graphAddsRow.holds Try.pinned (OpenSpec.ofChange graphAddsSpec)

/-- ITS FALSE NEIGHBOUR: 'it returns false'. Refute it at one input. -/
def graphAddsWrong : ChangeSpec := { name := "graphAdds", fn := fun _ => fun
  | [d1, d2, d3] => { results := [.lit (.bool false)], args := [d1, d2, d3] }
  | _ => none }
def GraphAddsWrongFalsely : Prop := graphAddsRow.holds Try.pinned (OpenSpec.ofChange graphAddsWrong)

/- THE SECOND FORM. 'bulk': how many values and letters a reading holds, each counted each time it is reached (what is shared counts as often as it is met; a slice's spare places count too). A statement '..UptoSaid' is the law's where the arguments, and the package variables that the reading takes, are together of bulk at most 1048576: NARROWER than '..Said'. Prove '..Said' where nothing that the law and all that it calls make is longer than what came in: it says more and counts as full. Else prove '..UptoSaid'. A law counts once. -/
mutual
def uptoBulk {H : Type} : DataW H → Nat
  | .lit (.string bytes) => bytes.length + 1
  | .lit _ => 1
  | .nil => 1
  | .ptr d => uptoBulk d + 1
  | .slice elems spare => uptoBulkAll elems + uptoBulkAll spare + 1
  | .agg parts => uptoBulkAll parts + 1
  | .iface _ d => uptoBulk d + 1
  | .map entries => uptoBulkEntries entries + 1
  | .held _ => 1
def uptoBulkAll {H : Type} : List (DataW H) → Nat
  | [] => 0
  | d :: r => uptoBulk d + uptoBulkAll r
def uptoBulkEntries {H : Type} : List (Lit × DataW H) → Nat
  | [] => 0
  | x :: r => uptoBulkEntry x + uptoBulkEntries r
def uptoBulkEntry {H : Type} : Lit × DataW H → Nat
  | (.string bytes, d) => bytes.length + uptoBulk d + 1
  | (_, d) => uptoBulk d + 1
 end
def uptoSmall : (H : Type) → List (DataW H) → Bool := fun _ ds => decide (uptoBulkAll ds ≤ 1048576)
def OpenSpec.upto (s : _root_.Go.ChangeSpec) : _root_.Go.OpenSpec := { _root_.Go.OpenSpec.ofChange s with cond := some uptoSmall }

/-- 'breakwaterlaw03.GraphPlays', WHERE WHAT IT READS IS OF BULK AT MOST 1048576: true; the input reads as it did. -/
def graphPlaysUptoRow : OpenClaim := { program := "ytjnafcogdakbbaa", sum := "6493a57046931334080635a36f3f1d7aaf66d3fe7ff812d3056ff4769b53e10e", func := "breakwater/breakwaterlaw03.GraphPlays", spec := "graphPlays", unfollowed := true, recurses := true, apart := false, narrowed := true }
def GraphPlaysUptoSaid : Prop := graphPlaysUptoRow.holds Try.pinned (OpenSpec.upto graphPlaysSpec)

/-- 'breakwaterlaw03.GraphOwns', WHERE WHAT IT READS IS OF BULK AT MOST 1048576: true; the input reads as it did. -/
def graphOwnsUptoRow : OpenClaim := { program := "ytjnafcogdakbbaa", sum := "6493a57046931334080635a36f3f1d7aaf66d3fe7ff812d3056ff4769b53e10e", func := "breakwater/breakwaterlaw03.GraphOwns", spec := "graphOwns", unfollowed := true, recurses := true, apart := false, narrowed := true }
def GraphOwnsUptoSaid : Prop := graphOwnsUptoRow.holds Try.pinned (OpenSpec.upto graphOwnsSpec)

/-- 'breakwaterlaw03.GraphNoRing', WHERE WHAT IT READS IS OF BULK AT MOST 1048576: true; the input reads as it did. -/
def graphNoRingUptoRow : OpenClaim := { program := "ytjnafcogdakbbaa", sum := "6493a57046931334080635a36f3f1d7aaf66d3fe7ff812d3056ff4769b53e10e", func := "breakwater/breakwaterlaw03.GraphNoRing", spec := "graphNoRing", unfollowed := true, recurses := true, apart := false, narrowed := true }
def GraphNoRingUptoSaid : Prop := graphNoRingUptoRow.holds Try.pinned (OpenSpec.upto graphNoRingSpec)

/-- 'breakwaterlaw03.GraphOrders', WHERE WHAT IT READS IS OF BULK AT MOST 1048576: true; the input reads as it did. -/
def graphOrdersUptoRow : OpenClaim := { program := "ytjnafcogdakbbaa", sum := "6493a57046931334080635a36f3f1d7aaf66d3fe7ff812d3056ff4769b53e10e", func := "breakwater/breakwaterlaw03.GraphOrders", spec := "graphOrders", unfollowed := true, recurses := true, apart := false, narrowed := true }
def GraphOrdersUptoSaid : Prop := graphOrdersUptoRow.holds Try.pinned (OpenSpec.upto graphOrdersSpec)

/-- 'breakwaterlaw03.GraphWays', WHERE WHAT IT READS IS OF BULK AT MOST 1048576: true; the input reads as it did. -/
def graphWaysUptoRow : OpenClaim := { program := "ytjnafcogdakbbaa", sum := "6493a57046931334080635a36f3f1d7aaf66d3fe7ff812d3056ff4769b53e10e", func := "breakwater/breakwaterlaw03.GraphWays", spec := "graphWays", unfollowed := true, recurses := true, apart := false, narrowed := true }
def GraphWaysUptoSaid : Prop := graphWaysUptoRow.holds Try.pinned (OpenSpec.upto graphWaysSpec)

/-- 'breakwaterlaw03.GraphAdds', WHERE WHAT IT READS IS OF BULK AT MOST 1048576: true; the input reads as it did. -/
def graphAddsUptoRow : OpenClaim := { program := "ytjnafcogdakbbaa", sum := "6493a57046931334080635a36f3f1d7aaf66d3fe7ff812d3056ff4769b53e10e", func := "breakwater/breakwaterlaw03.GraphAdds", spec := "graphAdds", unfollowed := true, recurses := true, apart := false, narrowed := true }
def GraphAddsUptoSaid : Prop := graphAddsUptoRow.holds Try.pinned (OpenSpec.upto graphAddsSpec)

end Rows
end Go.Proofs.Ytjnafcogdakbbaa
