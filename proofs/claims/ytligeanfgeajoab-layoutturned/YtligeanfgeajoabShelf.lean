/-
  The library's sort and comparison at this program: which of its functions and types are meant, read off the bodies.
-/
import Derived.Shelf.Strings.IndexAnyAll
import Derived.Test.YtligeanfgeajoabLaws
namespace Go.Proofs.Ytligeanfgeajoab
open Go.Shelf
def layAny_ren : Go.Shelf.Ren := ⟨fun | 150 => 43 | 153 => 44 | 152 => 45 | 226 => 46 | 227 => 47 | 228 => 48 | 137 => 49 | 119 => 50 | 224 => 51 | 225 => 52 | 217 => 53 | 266 => 54 | n => n, fun | 9 => 9 | 4 => 4 | 3 => 3 | 5 => 5 | 21 => 21 | 117 => 81 | 116 => 80 | 0 => 0 | 46 => 86 | 124 => 87 | n => n, fun | n => n⟩
theorem layAny : Go.Proofs.Lays.n150 Try.prog layAny_ren := {
  mixed := by kernel_rfl
  f119 := Try.func50.trans (congrArg some (by kernel_rfl))
  f137 := Try.func49.trans (congrArg some (by kernel_rfl))
  f150 := Try.func43.trans (congrArg some (by kernel_rfl))
  f152 := Try.func45.trans (congrArg some (by kernel_rfl))
  f153 := Try.func44.trans (congrArg some (by kernel_rfl))
  f217 := Try.func53.trans (congrArg some (by kernel_rfl))
  f224 := Try.func51.trans (congrArg some (by kernel_rfl))
  f225 := Try.func52.trans (congrArg some (by kernel_rfl))
  f226 := Try.func46.trans (congrArg some (by kernel_rfl))
  f227 := Try.func47.trans (congrArg some (by kernel_rfl))
  f228 := Try.func48.trans (congrArg some (by kernel_rfl))
  f266 := Try.func54.trans (congrArg some (by kernel_rfl))
  t0 := Try.underlying0
  a0 := Try.isAgg0
  z0 := Try.sizeOf0
  v0 := Try.zeroValue0
  t3 := Try.underlying3
  a3 := Try.isAgg3
  z3 := Try.sizeOf3
  v3 := Try.zeroValue3
  t4 := Try.underlying4
  a4 := Try.isAgg4
  z4 := Try.sizeOf4
  v4 := Try.zeroValue4
  t5 := Try.underlying5
  a5 := Try.isAgg5
  z5 := Try.sizeOf5
  v5 := Try.zeroValue5
  t9 := Try.underlying9
  a9 := Try.isAgg9
  z9 := Try.sizeOf9
  v9 := Try.zeroValue9
  t21 := Try.underlying21
  a21 := Try.isAgg21
  z21 := Try.sizeOf21
  v21 := Try.zeroValue21
  t46 := Try.underlying86
  a46 := Try.isAgg86
  z46 := Try.sizeOf86
  v46 := Try.zeroValue86
  t116 := Try.underlying80
  a116 := Try.isAgg80
  z116 := Try.sizeOf80
  t117 := Try.underlying81
  a117 := Try.isAgg81
  z117 := Try.sizeOf81
  v117 := Try.zeroValue81
  t124 := Try.underlying87
  a124 := Try.isAgg87
  z124 := Try.sizeOf87
  v124 := Try.zeroValue87 }

end Go.Proofs.Ytligeanfgeajoab
