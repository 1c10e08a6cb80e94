/- The library's BinarySearch, Delete, Insert at this program: the numbers of its functions and types, and that its bodies are the library's. -/
import Derived.Shelf.Slices.SearchI
import Derived.Shelf.Slices.Delete
import Derived.Shelf.Spec.SlicesInsert
import Derived.Shelf.Spec.SlicesInsertGrow
import Derived.Ground.Names2Prog
import Derived.Test.YtnilgnnlobiojaaProg
namespace Go.Proofs.Ytnilgnnlobiojaa
open Go.Shelf
def Try.laySearch_ren : Go.Shelf.Ren := ⟨fun | 25 => 36 | 31 => 44 | 32 => 45 | 37 => 60 | n => n, fun | 22 => 40 | 3 => 3 | 4 => 4 | 40 => 39 | 0 => 0 | n => n, fun | n => n⟩
theorem Try.laySearch : Go.Proofs.Lays2.n25 Try.prog Try.laySearch_ren := {
  mixed := by kernel_rfl
  f25 := Try.func36.trans (congrArg some (by kernel_rfl))
  f31 := Try.func44.trans (congrArg some (by kernel_rfl))
  f32 := Try.func45.trans (congrArg some (by kernel_rfl))
  f37 := Try.func60.trans (congrArg some (by kernel_rfl))
  t0 := Try.underlying0
  a0 := Try.isAgg0
  z0 := Try.sizeOf0
  v0 := Try.zeroValue0
  t3 := Try.underlying3
  a3 := Try.isAgg3
  z3 := Try.sizeOf3
  v3 := Try.zeroValue3
  t4 := Try.underlying4
  a4 := Try.isAgg4
  z4 := Try.sizeOf4
  v4 := Try.zeroValue4
  t22 := Try.underlying40
  a22 := Try.isAgg40
  z22 := Try.sizeOf40
  v22 := Try.zeroValue40
  t40 := Try.underlying39
  a40 := Try.isAgg39
  z40 := Try.sizeOf39
  v40 := Try.zeroValue39 }
def Try.layDelete_ren : Go.Shelf.Ren := ⟨fun | 23 => 37 | n => n, fun | 22 => 40 | 3 => 3 | 4 => 4 | 0 => 0 | n => n, fun | n => n⟩
theorem Try.layDelete : Go.Proofs.Lays2.n23 Try.prog Try.layDelete_ren := {
  mixed := by kernel_rfl
  f23 := Try.func37.trans (congrArg some (by kernel_rfl))
  t0 := Try.underlying0
  a0 := Try.isAgg0
  z0 := Try.sizeOf0
  v0 := Try.zeroValue0
  t3 := Try.underlying3
  a3 := Try.isAgg3
  z3 := Try.sizeOf3
  v3 := Try.zeroValue3
  t4 := Try.underlying4
  a4 := Try.isAgg4
  z4 := Try.sizeOf4
  v4 := Try.zeroValue4
  t22 := Try.underlying40
  a22 := Try.isAgg40
  z22 := Try.sizeOf40
  v22 := Try.zeroValue40
  i3 := by kernel_rfl }
def Try.layInsert_ren : Go.Shelf.Ren := ⟨fun | 21 => 38 | 27 => 46 | 28 => 47 | 35 => 61 | 39 => 67 | n => n, fun | 22 => 40 | 3 => 3 | 4 => 4 | 0 => 0 | n => n, fun | n => n⟩
theorem Try.layInsert : Go.Proofs.Lays2.n21 Try.prog Try.layInsert_ren := {
  mixed := by kernel_rfl
  f21 := Try.func38.trans (congrArg some (by kernel_rfl))
  f27 := Try.func46.trans (congrArg some (by kernel_rfl))
  f28 := Try.func47.trans (congrArg some (by kernel_rfl))
  f35 := Try.func61.trans (congrArg some (by kernel_rfl))
  f39 := Try.func67.trans (congrArg some (by kernel_rfl))
  t0 := Try.underlying0
  a0 := Try.isAgg0
  z0 := Try.sizeOf0
  v0 := Try.zeroValue0
  t3 := Try.underlying3
  a3 := Try.isAgg3
  z3 := Try.sizeOf3
  v3 := Try.zeroValue3
  t4 := Try.underlying4
  a4 := Try.isAgg4
  z4 := Try.sizeOf4
  v4 := Try.zeroValue4
  t22 := Try.underlying40
  a22 := Try.isAgg40
  z22 := Try.sizeOf40
  v22 := Try.zeroValue40
  i3 := by kernel_rfl }
end Go.Proofs.Ytnilgnnlobiojaa
