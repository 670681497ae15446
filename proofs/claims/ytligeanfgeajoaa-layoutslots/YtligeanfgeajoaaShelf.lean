/-
  The library's sort and comparison at this program: which of its functions and types are meant, read off the bodies.
-/
import Derived.Shelf.Strings.IndexAnyAll
import Derived.Test.YtligeanfgeajoaaLaws
namespace Go.Proofs.Ytligeanfgeajoaa
open Go.Shelf
def layAny_ren : Go.Shelf.Ren := ⟨fun | 150 => 60 | 153 => 61 | 152 => 62 | 226 => 63 | 227 => 64 | 228 => 65 | 137 => 66 | 119 => 67 | 224 => 68 | 225 => 69 | 217 => 70 | 266 => 71 | n => n, fun | 9 => 9 | 4 => 4 | 3 => 3 | 5 => 5 | 21 => 21 | 117 => 87 | 116 => 86 | 0 => 0 | 46 => 92 | 124 => 93 | n => n, fun | n => n⟩
theorem layAny : Go.Proofs.Lays.n150 Try.prog layAny_ren := {
  mixed := by kernel_rfl
  f119 := Try.func67.trans (congrArg some (by kernel_rfl))
  f137 := Try.func66.trans (congrArg some (by kernel_rfl))
  f150 := Try.func60.trans (congrArg some (by kernel_rfl))
  f152 := Try.func62.trans (congrArg some (by kernel_rfl))
  f153 := Try.func61.trans (congrArg some (by kernel_rfl))
  f217 := Try.func70.trans (congrArg some (by kernel_rfl))
  f224 := Try.func68.trans (congrArg some (by kernel_rfl))
  f225 := Try.func69.trans (congrArg some (by kernel_rfl))
  f226 := Try.func63.trans (congrArg some (by kernel_rfl))
  f227 := Try.func64.trans (congrArg some (by kernel_rfl))
  f228 := Try.func65.trans (congrArg some (by kernel_rfl))
  f266 := Try.func71.trans (congrArg some (by kernel_rfl))
  t0 := Try.underlying0
  a0 := Try.isAgg0
  z0 := Try.sizeOf0
  v0 := Try.zeroValue0
  t3 := Try.underlying3
  a3 := Try.isAgg3
  z3 := Try.sizeOf3
  v3 := Try.zeroValue3
  t4 := Try.underlying4
  a4 := Try.isAgg4
  z4 := Try.sizeOf4
  v4 := Try.zeroValue4
  t5 := Try.underlying5
  a5 := Try.isAgg5
  z5 := Try.sizeOf5
  v5 := Try.zeroValue5
  t9 := Try.underlying9
  a9 := Try.isAgg9
  z9 := Try.sizeOf9
  v9 := Try.zeroValue9
  t21 := Try.underlying21
  a21 := Try.isAgg21
  z21 := Try.sizeOf21
  v21 := Try.zeroValue21
  t46 := Try.underlying92
  a46 := Try.isAgg92
  z46 := Try.sizeOf92
  v46 := Try.zeroValue92
  t116 := Try.underlying86
  a116 := Try.isAgg86
  z116 := Try.sizeOf86
  t117 := Try.underlying87
  a117 := Try.isAgg87
  z117 := Try.sizeOf87
  v117 := Try.zeroValue87
  t124 := Try.underlying93
  a124 := Try.isAgg93
  z124 := Try.sizeOf93
  v124 := Try.zeroValue93 }

end Go.Proofs.Ytligeanfgeajoaa
