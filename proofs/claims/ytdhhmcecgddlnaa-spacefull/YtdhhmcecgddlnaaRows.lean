/-
  No cell of these rows narrows 'for every input' (looked for: loops, veiled, ifaces, maps, wideKeys, modest, calm, conditions, laid).
  DERIVED. THE GIVEN ROWS OF THIS SEAT. 6 by the template 'for every input the law returns true; each argument reads behind the call as it read before'; 0 by the template 'total and deterministic' (their statements: YtdhhmcecgddlnaaTotals.lean).
  GIVEN WITH THE SEED: the statements are not yours to turn. If you find one false, say at which input.
  Laid BY PROGRAM, IN A SANDBOX (cutbox-rows.mjs): the forced cells as the released guide's own fill.sh prints them over the translation 60479b596cb27c9e… (all of the seat's roots in one cut). By AI agents, Wed Nov 11 2026. No macro, syntax, notation, axiom, sorry.
-/
import Derived.Test.YtdhhmcecgddlnaaChecked
import GoSem.Claim
import GoSem.ClaimJoined
import GoSem.ClaimMapViews
import Derived.JoinedTies
import Derived.KernelRfl
namespace Go.Proofs.Ytdhhmcecgddlnaa
/- THE CELL 'sum', in the pinned program and in every row, IS THE sha256 OF THE DUMP (.gsa) THAT YtdhhmcecgddlnaaProg.lean LOADS. Nothing in Lean hashes anything: it is a label: what it is worth is what the hold of that sum in a sandbox is worth. -/
noncomputable def Try.pinned : Pinned := { name := "ytdhhmcecgddlnaa", sum := "60479b596cb27c9ec297d0de657b0bd8d64003d21edfcffa7d83267fc5c35653", checked := Try.checked }
namespace Rows
def none {H : Type} : Left H := { results := [], args := [] }

/-- 'breakwaterlaw08.SpaceNews': WHATEVER THE INPUT: true; the input reads as it did. -/
def spaceNewsSpec : ChangeSpec := { name := "spaceNews", fn := fun _ => fun
  | [d] => { results := [.lit (.bool true)], args := [d] }
  | _ => none }
def spaceNewsRow : OpenClaim := { program := "ytdhhmcecgddlnaa", sum := "60479b596cb27c9ec297d0de657b0bd8d64003d21edfcffa7d83267fc5c35653", func := "breakwater/breakwaterlaw08.SpaceNews", spec := "spaceNews", apart := false }
def SpaceNewsSaid : Prop := spaceNewsRow.holds Try.pinned (OpenSpec.ofChange spaceNewsSpec)

/-- ITS FALSE NEIGHBOUR: 'it returns false'. Refute it at one input. -/
def spaceNewsWrong : ChangeSpec := { name := "spaceNews", fn := fun _ => fun
  | [d] => { results := [.lit (.bool false)], args := [d] }
  | _ => none }
def SpaceNewsWrongFalsely : Prop := spaceNewsRow.holds Try.pinned (OpenSpec.ofChange spaceNewsWrong)

/-- 'breakwaterlaw08.SpacePlays': WHATEVER THE INPUT: true; the input reads as it did. -/
def spacePlaysSpec : ChangeSpec := { name := "spacePlays", fn := fun _ => fun
  | [d1, d2, d3] => { results := [.lit (.bool true)], args := [d1, d2, d3] }
  | _ => none }
def spacePlaysRow : OpenClaim := { program := "ytdhhmcecgddlnaa", sum := "60479b596cb27c9ec297d0de657b0bd8d64003d21edfcffa7d83267fc5c35653", func := "breakwater/breakwaterlaw08.SpacePlays", spec := "spacePlays", apart := false }
def SpacePlaysSaid : Prop := spacePlaysRow.holds Try.pinned (OpenSpec.ofChange spacePlaysSpec)

/-- ITS FALSE NEIGHBOUR: 'it returns false'. Refute it at one input. -/
def spacePlaysWrong : ChangeSpec := { name := "spacePlays", fn := fun _ => fun
  | [d1, d2, d3] => { results := [.lit (.bool false)], args := [d1, d2, d3] }
  | _ => none }
def SpacePlaysWrongFalsely : Prop := spacePlaysRow.holds Try.pinned (OpenSpec.ofChange spacePlaysWrong)

/-- 'breakwaterlaw08.SpaceGives': WHATEVER THE INPUT: true; the input reads as it did. -/
def spaceGivesSpec : ChangeSpec := { name := "spaceGives", fn := fun _ => fun
  | [d1, d2, d3] => { results := [.lit (.bool true)], args := [d1, d2, d3] }
  | _ => none }
def spaceGivesRow : OpenClaim := { program := "ytdhhmcecgddlnaa", sum := "60479b596cb27c9ec297d0de657b0bd8d64003d21edfcffa7d83267fc5c35653", func := "breakwater/breakwaterlaw08.SpaceGives", spec := "spaceGives", apart := false }
def SpaceGivesSaid : Prop := spaceGivesRow.holds Try.pinned (OpenSpec.ofChange spaceGivesSpec)

/-- ITS FALSE NEIGHBOUR: 'it returns false'. Refute it at one input. -/
def spaceGivesWrong : ChangeSpec := { name := "spaceGives", fn := fun _ => fun
  | [d1, d2, d3] => { results := [.lit (.bool false)], args := [d1, d2, d3] }
  | _ => none }
def SpaceGivesWrongFalsely : Prop := spaceGivesRow.holds Try.pinned (OpenSpec.ofChange spaceGivesWrong)

/-- 'breakwaterlaw08.SpaceInodes': WHATEVER THE INPUT: true; the input reads as it did. -/
def spaceInodesSpec : ChangeSpec := { name := "spaceInodes", fn := fun _ => fun
  | [d1, d2, d3] => { results := [.lit (.bool true)], args := [d1, d2, d3] }
  | _ => none }
def spaceInodesRow : OpenClaim := { program := "ytdhhmcecgddlnaa", sum := "60479b596cb27c9ec297d0de657b0bd8d64003d21edfcffa7d83267fc5c35653", func := "breakwater/breakwaterlaw08.SpaceInodes", spec := "spaceInodes", apart := false }
def SpaceInodesSaid : Prop := spaceInodesRow.holds Try.pinned (OpenSpec.ofChange spaceInodesSpec)

/-- ITS FALSE NEIGHBOUR: 'it returns false'. Refute it at one input. -/
def spaceInodesWrong : ChangeSpec := { name := "spaceInodes", fn := fun _ => fun
  | [d1, d2, d3] => { results := [.lit (.bool false)], args := [d1, d2, d3] }
  | _ => none }
def SpaceInodesWrongFalsely : Prop := spaceInodesRow.holds Try.pinned (OpenSpec.ofChange spaceInodesWrong)

/-- 'breakwaterlaw08.SpaceFull': WHATEVER THE INPUT: true; the input reads as it did. -/
def spaceFullSpec : ChangeSpec := { name := "spaceFull", fn := fun _ => fun
  | [d1, d2, d3] => { results := [.lit (.bool true)], args := [d1, d2, d3] }
  | _ => none }
def spaceFullRow : OpenClaim := { program := "ytdhhmcecgddlnaa", sum := "60479b596cb27c9ec297d0de657b0bd8d64003d21edfcffa7d83267fc5c35653", func := "breakwater/breakwaterlaw08.SpaceFull", spec := "spaceFull", apart := false }
def SpaceFullSaid : Prop := spaceFullRow.holds Try.pinned (OpenSpec.ofChange spaceFullSpec)

/-- ITS FALSE NEIGHBOUR: 'it returns false'. Refute it at one input. -/
def spaceFullWrong : ChangeSpec := { name := "spaceFull", fn := fun _ => fun
  | [d1, d2, d3] => { results := [.lit (.bool false)], args := [d1, d2, d3] }
  | _ => none }
def SpaceFullWrongFalsely : Prop := spaceFullRow.holds Try.pinned (OpenSpec.ofChange spaceFullWrong)

/-- 'breakwaterlaw08.SpaceRefused': WHATEVER THE INPUT: true; the input reads as it did. -/
def spaceRefusedSpec : ChangeSpec := { name := "spaceRefused", fn := fun _ => fun
  | [d] => { results := [.lit (.bool true)], args := [d] }
  | _ => none }
def spaceRefusedRow : OpenClaim := { program := "ytdhhmcecgddlnaa", sum := "60479b596cb27c9ec297d0de657b0bd8d64003d21edfcffa7d83267fc5c35653", func := "breakwater/breakwaterlaw08.SpaceRefused", spec := "spaceRefused", apart := false }
def SpaceRefusedSaid : Prop := spaceRefusedRow.holds Try.pinned (OpenSpec.ofChange spaceRefusedSpec)

/-- ITS FALSE NEIGHBOUR: 'it returns false'. Refute it at one input. -/
def spaceRefusedWrong : ChangeSpec := { name := "spaceRefused", fn := fun _ => fun
  | [d] => { results := [.lit (.bool false)], args := [d] }
  | _ => none }
def SpaceRefusedWrongFalsely : Prop := spaceRefusedRow.holds Try.pinned (OpenSpec.ofChange spaceRefusedWrong)

/- THE SECOND FORM. 'bulk': how many values and letters a reading holds, each counted each time it is reached (what is shared counts as often as it is met; a slice's spare places count too). A statement '..UptoSaid' is the law's where the arguments, and the package variables that the reading takes, are together of bulk at most 1048576: NARROWER than '..Said'. Prove '..Said' where nothing that the law and all that it calls make is longer than what came in: it says more and counts as full. Else prove '..UptoSaid'. A law counts once. -/
mutual
def uptoBulk {H : Type} : DataW H → Nat
  | .lit (.string bytes) => bytes.length + 1
  | .lit _ => 1
  | .nil => 1
  | .ptr d => uptoBulk d + 1
  | .slice elems spare => uptoBulkAll elems + uptoBulkAll spare + 1
  | .agg parts => uptoBulkAll parts + 1
  | .iface _ d => uptoBulk d + 1
  | .map entries => uptoBulkEntries entries + 1
  | .held _ => 1
def uptoBulkAll {H : Type} : List (DataW H) → Nat
  | [] => 0
  | d :: r => uptoBulk d + uptoBulkAll r
def uptoBulkEntries {H : Type} : List (Lit × DataW H) → Nat
  | [] => 0
  | x :: r => uptoBulkEntry x + uptoBulkEntries r
def uptoBulkEntry {H : Type} : Lit × DataW H → Nat
  | (.string bytes, d) => bytes.length + uptoBulk d + 1
  | (_, d) => uptoBulk d + 1
 end
def uptoSmall : (H : Type) → List (DataW H) → Bool := fun _ ds => decide (uptoBulkAll ds ≤ 1048576)
def OpenSpec.upto (s : _root_.Go.ChangeSpec) : _root_.Go.OpenSpec := { _root_.Go.OpenSpec.ofChange s with cond := some uptoSmall }

/-- 'breakwaterlaw08.SpaceNews', WHERE WHAT IT READS IS OF BULK AT MOST 1048576: true; the input reads as it did. -/
def spaceNewsUptoRow : OpenClaim := { program := "ytdhhmcecgddlnaa", sum := "60479b596cb27c9ec297d0de657b0bd8d64003d21edfcffa7d83267fc5c35653", func := "breakwater/breakwaterlaw08.SpaceNews", spec := "spaceNews", apart := false, narrowed := true }
def SpaceNewsUptoSaid : Prop := spaceNewsUptoRow.holds Try.pinned (OpenSpec.upto spaceNewsSpec)

/-- 'breakwaterlaw08.SpacePlays', WHERE WHAT IT READS IS OF BULK AT MOST 1048576: true; the input reads as it did. -/
def spacePlaysUptoRow : OpenClaim := { program := "ytdhhmcecgddlnaa", sum := "60479b596cb27c9ec297d0de657b0bd8d64003d21edfcffa7d83267fc5c35653", func := "breakwater/breakwaterlaw08.SpacePlays", spec := "spacePlays", apart := false, narrowed := true }
def SpacePlaysUptoSaid : Prop := spacePlaysUptoRow.holds Try.pinned (OpenSpec.upto spacePlaysSpec)

/-- 'breakwaterlaw08.SpaceGives', WHERE WHAT IT READS IS OF BULK AT MOST 1048576: true; the input reads as it did. -/
def spaceGivesUptoRow : OpenClaim := { program := "ytdhhmcecgddlnaa", sum := "60479b596cb27c9ec297d0de657b0bd8d64003d21edfcffa7d83267fc5c35653", func := "breakwater/breakwaterlaw08.SpaceGives", spec := "spaceGives", apart := false, narrowed := true }
def SpaceGivesUptoSaid : Prop := spaceGivesUptoRow.holds Try.pinned (OpenSpec.upto spaceGivesSpec)

/-- 'breakwaterlaw08.SpaceInodes', WHERE WHAT IT READS IS OF BULK AT MOST 1048576: true; the input reads as it did. -/
def spaceInodesUptoRow : OpenClaim := { program := "ytdhhmcecgddlnaa", sum := "60479b596cb27c9ec297d0de657b0bd8d64003d21edfcffa7d83267fc5c35653", func := "breakwater/breakwaterlaw08.SpaceInodes", spec := "spaceInodes", apart := false, narrowed := true }
def SpaceInodesUptoSaid : Prop := spaceInodesUptoRow.holds Try.pinned (OpenSpec.upto spaceInodesSpec)

/-- 'breakwaterlaw08.SpaceFull', WHERE WHAT IT READS IS OF BULK AT MOST 1048576: true; the input reads as it did. -/
def spaceFullUptoRow : OpenClaim := { program := "ytdhhmcecgddlnaa", sum := "60479b596cb27c9ec297d0de657b0bd8d64003d21edfcffa7d83267fc5c35653", func := "breakwater/breakwaterlaw08.SpaceFull", spec := "spaceFull", apart := false, narrowed := true }
def SpaceFullUptoSaid : Prop := spaceFullUptoRow.holds Try.pinned (OpenSpec.upto spaceFullSpec)

/-- 'breakwaterlaw08.SpaceRefused', WHERE WHAT IT READS IS OF BULK AT MOST 1048576: true; the input reads as it did. -/
def spaceRefusedUptoRow : OpenClaim := { program := "ytdhhmcecgddlnaa", sum := "60479b596cb27c9ec297d0de657b0bd8d64003d21edfcffa7d83267fc5c35653", func := "breakwater/breakwaterlaw08.SpaceRefused", spec := "spaceRefused", apart := false, narrowed := true }
def SpaceRefusedUptoSaid : Prop := spaceRefusedUptoRow.holds Try.pinned (OpenSpec.upto spaceRefusedSpec)

end Rows
end Go.Proofs.Ytdhhmcecgddlnaa
