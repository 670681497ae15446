/-
  The library's sort and comparison at this program: which of its functions and types are meant, read off the bodies.
-/
import Derived.Shelf.Strings.Prefix
import Derived.Shelf.Strings.SplitShaped
import Derived.Test.YtmgfilacepnjlaaGreatDoorDrawn
namespace Go.Proofs.YtmgfilacepnjlaaGreatDoor
open Go.Shelf
def laySplit_ren:Go.Shelf.Ren:=⟨fun | 146=>62 | 221=>75 | 268=>83 | 138=>84 | 143=>85 | 195=>89 | 197=>90 | 218=>91 | 219=>92 | 260=>104 | 217=>105 | 225=>106 | 224=>107 | 267=>108 | 266=>115 | 314=>116 | n=>n,fun | 9=>9 | 31=>61 | 3=>3 | 4=>4 | 0=>0 | 105=>147 | 21=>21 | 5=>5 | 46=>146 | 119=>167 | 139=>170 | 138=>169 | 146=>171 | 51=>158 | n=>n,fun | 1=>1 | 3=>2 | 4=>3 | n=>n⟩
theorem laySplit:Go.Proofs.LaysM.n146 Tryz.prog laySplit_ren:={
  mixed:=by kernel_rfl
  f138:=Tryz.func84.trans (congrArg some (by kernel_rfl))
  f143:=Tryz.func85.trans (congrArg some (by kernel_rfl))
  f146:=Tryz.func62.trans (congrArg some (by kernel_rfl))
  f195:=Tryz.func89.trans (congrArg some (by kernel_rfl))
  f197:=Tryz.func90.trans (congrArg some (by kernel_rfl))
  f217:=Tryz.func105.trans (congrArg some (by kernel_rfl))
  f218:=Tryz.func91.trans (congrArg some (by kernel_rfl))
  f219:=Tryz.func92.trans (congrArg some (by kernel_rfl))
  f221:=Tryz.func75.trans (congrArg some (by kernel_rfl))
  f224:=Tryz.func107.trans (congrArg some (by kernel_rfl))
  f225:=Tryz.func106.trans (congrArg some (by kernel_rfl))
  f260:=Tryz.func104.trans (congrArg some (by kernel_rfl))
  f266:=Tryz.func115.trans (congrArg some (by kernel_rfl))
  f267:=Tryz.func108.trans (congrArg some (by kernel_rfl))
  f268:=Tryz.func83.trans (congrArg some (by kernel_rfl))
  f314:=Tryz.func116.trans (congrArg some (by kernel_rfl))
  t0:=Tryz.underlying0
  a0:=Tryz.isAgg0
  z0:=Tryz.sizeOf0
  v0:=Tryz.zeroValue0
  t3:=Tryz.underlying3
  a3:=Tryz.isAgg3
  z3:=Tryz.sizeOf3
  v3:=Tryz.zeroValue3
  t4:=Tryz.underlying4
  a4:=Tryz.isAgg4
  z4:=Tryz.sizeOf4
  v4:=Tryz.zeroValue4
  t5:=Tryz.underlying5
  a5:=Tryz.isAgg5
  z5:=Tryz.sizeOf5
  v5:=Tryz.zeroValue5
  t9:=Tryz.underlying9
  a9:=Tryz.isAgg9
  z9:=Tryz.sizeOf9
  v9:=Tryz.zeroValue9
  t21:=Tryz.underlying21
  a21:=Tryz.isAgg21
  z21:=Tryz.sizeOf21
  v21:=Tryz.zeroValue21
  t31:=Tryz.underlying61
  a31:=Tryz.isAgg61
  z31:=Tryz.sizeOf61
  v31:=Tryz.zeroValue61
  t46:=Tryz.underlying146
  a46:=Tryz.isAgg146
  z46:=Tryz.sizeOf146
  v46:=Tryz.zeroValue146
  t51:=Tryz.underlying158
  a51:=Tryz.isAgg158
  z51:=Tryz.sizeOf158
  v51:=Tryz.zeroValue158
  t105:=Tryz.underlying147
  a105:=Tryz.isAgg147
  z105:=Tryz.sizeOf147
  v105:=Tryz.zeroValue147
  t119:=Tryz.underlying167
  a119:=Tryz.isAgg167
  z119:=Tryz.sizeOf167
  t138:=Tryz.underlying169
  a138:=Tryz.isAgg169
  z138:=Tryz.sizeOf169
  v138:=Tryz.zeroValue169
  t139:=Tryz.underlying170
  a139:=Tryz.isAgg170
  z139:=Tryz.sizeOf170
  v139:=Tryz.zeroValue170
  t146:=Tryz.underlying171
  a146:=Tryz.isAgg171
  z146:=Tryz.sizeOf171
  v146:=Tryz.zeroValue171
  g1:=by kernel_rfl
  g3:=by kernel_rfl
  g4:=by kernel_rfl
  i0:=by kernel_rfl
  i3:=by kernel_rfl
  i4:=by kernel_rfl
  i5:=by kernel_rfl
  i9:=by kernel_rfl
  i21:=by kernel_rfl
  i31:=by kernel_rfl
  i46:=by kernel_rfl
  i51:=by kernel_rfl
  i105:=by kernel_rfl
  i138:=by kernel_rfl
  i139:=by kernel_rfl
  i146:=by kernel_rfl
  m1:=by kernel_rfl
  s1_3:=fun w h=>Go.Proofs.cell_of_shapedOpen_int (zero:=#[.int .i64 0]) (t:=3) h (of_decide_eq_true (by kernel_rfl)) (by kernel_rfl) rfl (by kernel_rfl) (by kernel_rfl) Tryz.underlying3
  m3:=by kernel_rfl
  m4:=by kernel_rfl }
def layPrefix_ren:Go.Shelf.Ren:=⟨fun | 99=>74 | 206=>82 | n=>n,fun | 9=>9 | 4=>4 | 3=>3 | n=>n,fun | n=>n⟩
theorem layPrefix:Go.Proofs.Lays.n99 Tryz.prog layPrefix_ren:={
  mixed:=by kernel_rfl
  f99:=Tryz.func74.trans (congrArg some (by kernel_rfl))
  f206:=Tryz.func82.trans (congrArg some (by kernel_rfl))
  t3:=Tryz.underlying3
  a3:=Tryz.isAgg3
  z3:=Tryz.sizeOf3
  v3:=Tryz.zeroValue3
  t4:=Tryz.underlying4
  a4:=Tryz.isAgg4
  z4:=Tryz.sizeOf4
  v4:=Tryz.zeroValue4
  t9:=Tryz.underlying9
  a9:=Tryz.isAgg9
  z9:=Tryz.sizeOf9
  v9:=Tryz.zeroValue9 }

end Go.Proofs.YtmgfilacepnjlaaGreatDoor
