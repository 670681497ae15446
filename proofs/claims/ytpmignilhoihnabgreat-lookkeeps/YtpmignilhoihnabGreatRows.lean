/-
  No cell of these rows narrows 'for every input' (looked for: loops, veiled, ifaces, maps, wideKeys, modest, calm, conditions, laid).
  DERIVED. THE GIVEN ROWS OF THIS SEAT. 3 by the template 'for every input the law returns true; each argument reads behind the call as it read before'; 0 by the template 'total and deterministic' (their statements: YtpmignilhoihnabGreatTotals.lean).
  GIVEN WITH THE SEED: the statements are not yours to turn. If you find one false, say at which input.
  Laid BY PROGRAM, IN A SANDBOX (cutbox-rows.mjs): the forced cells as the released guide's own fill.sh prints them over the translation 11cce0121d5e4136… (all of the seat's roots in one cut). By AI agents, Wed Nov 11 2026. No macro, syntax, notation, axiom, sorry.
-/
import Derived.Test.YtpmignilhoihnabGreatChecked
import GoSem.Claim
import GoSem.ClaimJoined
import GoSem.ClaimMapViews
import Derived.JoinedTies
import Derived.KernelRfl
namespace Go.Proofs.YtpmignilhoihnabGreat
/- THE CELL 'sum', in the pinned program and in every row, IS THE sha256 OF THE DUMP (.gsa) THAT YtpmignilhoihnabGreatProg.lean LOADS. Nothing in Lean hashes anything: it is a label: what it is worth is what the hold of that sum in a sandbox is worth. -/
noncomputable def Tryz.pinned : Pinned := { name := "ytpmignilhoihnabgreat", sum := "11cce0121d5e4136335ba367fdc2e29b699591b1957973626538d33973b709f0", checked := Tryz.checked }
namespace Rows
def none {H : Type} : Left H := { results := [], args := [] }

/-- 'breakwaterlaw12.LookKeeps': WHATEVER THE INPUT: true; the input reads as it did. -/
def lookKeepsSpec : ChangeSpec := { name := "lookKeeps", fn := fun _ => fun
  | [d] => { results := [.lit (.bool true)], args := [d] }
  | _ => none }
def lookKeepsRow : OpenClaim := { program := "ytpmignilhoihnabgreat", sum := "11cce0121d5e4136335ba367fdc2e29b699591b1957973626538d33973b709f0", func := "breakwater/breakwaterlaw12.LookKeeps", spec := "lookKeeps", inPlace := ["internal/bytealg.IndexByteString", "internal/bytealg.IndexString"], unfollowed := true, recurses := true, named := ["internal/bytealg.MaxLen"], apart := false }
def LookKeepsSaid : Prop := lookKeepsRow.holds Tryz.pinned (OpenSpec.ofChange lookKeepsSpec)

/-- ITS FALSE NEIGHBOUR: 'it returns false'. Refute it at one input. -/
def lookKeepsWrong : ChangeSpec := { name := "lookKeeps", fn := fun _ => fun
  | [d] => { results := [.lit (.bool false)], args := [d] }
  | _ => none }
def LookKeepsWrongFalsely : Prop := lookKeepsRow.holds Tryz.pinned (OpenSpec.ofChange lookKeepsWrong)

/-- 'breakwaterlaw12.LookUses': WHATEVER THE INPUT: true; the input reads as it did. -/
def lookUsesSpec : ChangeSpec := { name := "lookUses", fn := fun _ => fun
  | [d] => { results := [.lit (.bool true)], args := [d] }
  | _ => none }
def lookUsesRow : OpenClaim := { program := "ytpmignilhoihnabgreat", sum := "11cce0121d5e4136335ba367fdc2e29b699591b1957973626538d33973b709f0", func := "breakwater/breakwaterlaw12.LookUses", spec := "lookUses", inPlace := ["internal/bytealg.IndexByteString", "internal/bytealg.IndexString"], unfollowed := true, recurses := true, named := ["internal/bytealg.MaxLen"], apart := false }
def LookUsesSaid : Prop := lookUsesRow.holds Tryz.pinned (OpenSpec.ofChange lookUsesSpec)

/-- ITS FALSE NEIGHBOUR: 'it returns false'. Refute it at one input. -/
def lookUsesWrong : ChangeSpec := { name := "lookUses", fn := fun _ => fun
  | [d] => { results := [.lit (.bool false)], args := [d] }
  | _ => none }
def LookUsesWrongFalsely : Prop := lookUsesRow.holds Tryz.pinned (OpenSpec.ofChange lookUsesWrong)

/-- 'breakwaterlaw12.LookRefuses': WHATEVER THE INPUT: true; the input reads as it did. -/
def lookRefusesSpec : ChangeSpec := { name := "lookRefuses", fn := fun _ => fun
  | [d] => { results := [.lit (.bool true)], args := [d] }
  | _ => none }
def lookRefusesRow : OpenClaim := { program := "ytpmignilhoihnabgreat", sum := "11cce0121d5e4136335ba367fdc2e29b699591b1957973626538d33973b709f0", func := "breakwater/breakwaterlaw12.LookRefuses", spec := "lookRefuses", inPlace := ["internal/bytealg.IndexByteString", "internal/bytealg.IndexString"], unfollowed := true, recurses := true, named := ["internal/bytealg.MaxLen"], apart := false }
def LookRefusesSaid : Prop := lookRefusesRow.holds Tryz.pinned (OpenSpec.ofChange lookRefusesSpec)

/-- ITS FALSE NEIGHBOUR: 'it returns false'. Refute it at one input. -/
def lookRefusesWrong : ChangeSpec := { name := "lookRefuses", fn := fun _ => fun
  | [d] => { results := [.lit (.bool false)], args := [d] }
  | _ => none }
def LookRefusesWrongFalsely : Prop := lookRefusesRow.holds Tryz.pinned (OpenSpec.ofChange lookRefusesWrong)

/- THE SECOND FORM. 'bulk': how many values and letters a reading holds, each counted each time it is reached (what is shared counts as often as it is met; a slice's spare places count too). A statement '..UptoSaid' is the law's where the arguments, and the package variables that the reading takes, are together of bulk at most 1048576: NARROWER than '..Said'. Prove '..Said' where nothing that the law and all that it calls make is longer than what came in: it says more and counts as full. Else prove '..UptoSaid'. A law counts once. -/
mutual
def uptoBulk {H : Type} : DataW H → Nat
  | .lit (.string bytes) => bytes.length + 1
  | .lit _ => 1
  | .nil => 1
  | .ptr d => uptoBulk d + 1
  | .slice elems spare => uptoBulkAll elems + uptoBulkAll spare + 1
  | .agg parts => uptoBulkAll parts + 1
  | .iface _ d => uptoBulk d + 1
  | .map entries => uptoBulkEntries entries + 1
  | .held _ => 1
def uptoBulkAll {H : Type} : List (DataW H) → Nat
  | [] => 0
  | d :: r => uptoBulk d + uptoBulkAll r
def uptoBulkEntries {H : Type} : List (Lit × DataW H) → Nat
  | [] => 0
  | x :: r => uptoBulkEntry x + uptoBulkEntries r
def uptoBulkEntry {H : Type} : Lit × DataW H → Nat
  | (.string bytes, d) => bytes.length + uptoBulk d + 1
  | (_, d) => uptoBulk d + 1
 end
def uptoSmall : (H : Type) → List (DataW H) → Bool := fun _ ds => decide (uptoBulkAll ds ≤ 1048576)
def OpenSpec.upto (s : _root_.Go.ChangeSpec) : _root_.Go.OpenSpec := { _root_.Go.OpenSpec.ofChange s with cond := some uptoSmall }

/-- 'breakwaterlaw12.LookKeeps', WHERE WHAT IT READS IS OF BULK AT MOST 1048576: true; the input reads as it did. -/
def lookKeepsUptoRow : OpenClaim := { program := "ytpmignilhoihnabgreat", sum := "11cce0121d5e4136335ba367fdc2e29b699591b1957973626538d33973b709f0", func := "breakwater/breakwaterlaw12.LookKeeps", spec := "lookKeeps", inPlace := ["internal/bytealg.IndexByteString", "internal/bytealg.IndexString"], unfollowed := true, recurses := true, named := ["internal/bytealg.MaxLen"], apart := false, narrowed := true }
def LookKeepsUptoSaid : Prop := lookKeepsUptoRow.holds Tryz.pinned (OpenSpec.upto lookKeepsSpec)

/-- 'breakwaterlaw12.LookUses', WHERE WHAT IT READS IS OF BULK AT MOST 1048576: true; the input reads as it did. -/
def lookUsesUptoRow : OpenClaim := { program := "ytpmignilhoihnabgreat", sum := "11cce0121d5e4136335ba367fdc2e29b699591b1957973626538d33973b709f0", func := "breakwater/breakwaterlaw12.LookUses", spec := "lookUses", inPlace := ["internal/bytealg.IndexByteString", "internal/bytealg.IndexString"], unfollowed := true, recurses := true, named := ["internal/bytealg.MaxLen"], apart := false, narrowed := true }
def LookUsesUptoSaid : Prop := lookUsesUptoRow.holds Tryz.pinned (OpenSpec.upto lookUsesSpec)

/-- 'breakwaterlaw12.LookRefuses', WHERE WHAT IT READS IS OF BULK AT MOST 1048576: true; the input reads as it did. -/
def lookRefusesUptoRow : OpenClaim := { program := "ytpmignilhoihnabgreat", sum := "11cce0121d5e4136335ba367fdc2e29b699591b1957973626538d33973b709f0", func := "breakwater/breakwaterlaw12.LookRefuses", spec := "lookRefuses", inPlace := ["internal/bytealg.IndexByteString", "internal/bytealg.IndexString"], unfollowed := true, recurses := true, named := ["internal/bytealg.MaxLen"], apart := false, narrowed := true }
def LookRefusesUptoSaid : Prop := lookRefusesUptoRow.holds Tryz.pinned (OpenSpec.upto lookRefusesSpec)

end Rows
end Go.Proofs.YtpmignilhoihnabGreat
