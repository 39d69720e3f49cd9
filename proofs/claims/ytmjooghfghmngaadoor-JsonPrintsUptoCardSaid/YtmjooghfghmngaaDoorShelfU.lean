/- Four contracts more of the library, laid at this program. -/
import Derived.Shelf.Spec.DecodeRune
import Derived.Test.YtmjooghfghmngaaDoorProg
namespace Go.Proofs
open Go.Shelf
def Tryd.layDR_ren : Go.Shelf.Ren := ⟨fun | 32 => 70 | 49 => 81 | n => n, fun | 30 => 26 | 21 => 21 | 3 => 3 | 0 => 0 | 5 => 5 | 4 => 4 | 33 => 97 | 66 => 73 | 25 => 77 | 69 => 76 | 68 => 75 | n => n, fun | 2 => 0 | 3 => 1 | n => n⟩
theorem Tryd.layDR : Go.Proofs.Lays7.n32 Tryd.prog Tryd.layDR_ren := {
  mixed := by kernel_rfl
  f32 := Tryd.func70.trans (congrArg some (by kernel_rfl))
  f49 := Tryd.func81.trans (congrArg some (by kernel_rfl))
  t0 := Tryd.underlying0
  a0 := Tryd.isAgg0
  z0 := Tryd.sizeOf0
  v0 := Tryd.zeroValue0
  i0 := by kernel_rfl
  t3 := Tryd.underlying3
  a3 := Tryd.isAgg3
  z3 := Tryd.sizeOf3
  v3 := Tryd.zeroValue3
  i3 := by kernel_rfl
  t4 := Tryd.underlying4
  a4 := Tryd.isAgg4
  z4 := Tryd.sizeOf4
  v4 := Tryd.zeroValue4
  i4 := by kernel_rfl
  t5 := Tryd.underlying5
  a5 := Tryd.isAgg5
  z5 := Tryd.sizeOf5
  v5 := Tryd.zeroValue5
  i5 := by kernel_rfl
  t21 := Tryd.underlying21
  a21 := Tryd.isAgg21
  z21 := Tryd.sizeOf21
  v21 := Tryd.zeroValue21
  i21 := by kernel_rfl
  t25 := Tryd.underlying77
  a25 := Tryd.isAgg77
  z25 := Tryd.sizeOf77
  v25 := Tryd.zeroValue77
  i25 := by kernel_rfl
  t30 := Tryd.underlying26
  a30 := Tryd.isAgg26
  z30 := Tryd.sizeOf26
  v30 := Tryd.zeroValue26
  i30 := by kernel_rfl
  t33 := Tryd.underlying97
  a33 := Tryd.isAgg97
  z33 := Tryd.sizeOf97
  v33 := Tryd.zeroValue97
  i33 := by kernel_rfl
  t66 := Tryd.underlying73
  a66 := Tryd.isAgg73
  z66 := Tryd.sizeOf73
  t68 := Tryd.underlying75
  a68 := Tryd.isAgg75
  z68 := Tryd.sizeOf75
  v68 := Tryd.zeroValue75
  i68 := by kernel_rfl
  t69 := Tryd.underlying76
  a69 := Tryd.isAgg76
  z69 := Tryd.sizeOf76
  v69 := Tryd.zeroValue76
  i69 := by kernel_rfl
  g2 := by kernel_rfl
  g3 := by kernel_rfl }
end Go.Proofs
