/-
  The library's contracts of slices.Insert at []int, laid at this program: no walk: the kernel compares each body with the one that the contracts were proved of.
-/
import Derived.Shelf.Spec.SlicesInsert
import Derived.Shelf.Spec.SlicesInsertGrow
import Derived.Test.YtflibcfecnhjgaaDoorProg
namespace Go.Proofs.YtflibcfecnhjgaaDoor
open Go.Shelf
def insRen : Go.Shelf.Ren := ⟨fun | 21 => 57 | 27 => 63 | 28 => 64 | 35 => 67 | 39 => 79 | n => n, fun | 22 => 39 | n => n, fun | n => n⟩

theorem ins_lays : Go.Proofs.Lays2.n21 Tryd.prog insRen := {
  mixed := by kernel_rfl
  f21 := Tryd.func57.trans (congrArg some (by kernel_rfl))
  f27 := Tryd.func63.trans (congrArg some (by kernel_rfl))
  f28 := Tryd.func64.trans (congrArg some (by kernel_rfl))
  f35 := Tryd.func67.trans (congrArg some (by kernel_rfl))
  f39 := Tryd.func79.trans (congrArg some (by kernel_rfl))
  t0 := Tryd.underlying0
  a0 := Tryd.isAgg0
  z0 := Tryd.sizeOf0
  v0 := Tryd.zeroValue0
  t3 := Tryd.underlying3
  a3 := Tryd.isAgg3
  z3 := Tryd.sizeOf3
  v3 := Tryd.zeroValue3
  t4 := Tryd.underlying4
  a4 := Tryd.isAgg4
  z4 := Tryd.sizeOf4
  v4 := Tryd.zeroValue4
  t22 := Tryd.underlying39
  a22 := Tryd.isAgg39
  z22 := Tryd.sizeOf39
  v22 := Tryd.zeroValue39
  i3 := by kernel_rfl }

end Go.Proofs.YtflibcfecnhjgaaDoor
