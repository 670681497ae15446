/-
  The library's sort and comparison at this program: which of its functions and types are meant, read off the bodies.
-/
import Derived.Shelf.Strconv.Clone
import Derived.Test.YtmgfilacepnjlaaGreatDoorDrawn
namespace Go.Proofs.YtmgfilacepnjlaaGreatDoor
open Go.Shelf
def laySClone_ren:Go.Shelf.Ren:=⟨fun | 316=>77 | n=>n,fun | 9=>9 | 3=>3 | 4=>4 | 37=>32 | 0=>0 | 127=>142 | 5=>5 | n=>n,fun | n=>n⟩
theorem laySClone:Go.Proofs.LaysM.n316 Tryz.prog laySClone_ren:={
  mixed:=by kernel_rfl
  f316:=Tryz.func77.trans (congrArg some (by kernel_rfl))
  t0:=Tryz.underlying0
  a0:=Tryz.isAgg0
  z0:=Tryz.sizeOf0
  v0:=Tryz.zeroValue0
  t3:=Tryz.underlying3
  a3:=Tryz.isAgg3
  z3:=Tryz.sizeOf3
  v3:=Tryz.zeroValue3
  t4:=Tryz.underlying4
  a4:=Tryz.isAgg4
  z4:=Tryz.sizeOf4
  v4:=Tryz.zeroValue4
  t9:=Tryz.underlying9
  a9:=Tryz.isAgg9
  z9:=Tryz.sizeOf9
  v9:=Tryz.zeroValue9
  t37:=Tryz.underlying32
  a37:=Tryz.isAgg32
  z37:=Tryz.sizeOf32
  v37:=Tryz.zeroValue32
  t127:=Tryz.underlying142
  a127:=Tryz.isAgg142
  z127:=Tryz.sizeOf142
  v127:=Tryz.zeroValue142
  t5:=Tryz.underlying5
  a5:=Tryz.isAgg5
  z5:=Tryz.sizeOf5
  v5:=Tryz.zeroValue5
  i0:=by kernel_rfl
  i3:=by kernel_rfl
  i4:=by kernel_rfl
  i5:=by kernel_rfl
  i9:=by kernel_rfl
  i37:=by kernel_rfl
  i127:=by kernel_rfl }

end Go.Proofs.YtmgfilacepnjlaaGreatDoor
