/- BLib: the library's sort, search and look over numbers, laid at this program. -/
import Derived.Test.YtdbaghmjomdmbaaBPure
import Derived.Shelf.SlGeneric
import Derived.Shelf.SortG.Plain
import Derived.Shelf.SortG.SortNone
import Derived.Shelf.SlicesG.SearchI
import Derived.Shelf.SlicesG.Turned
import Derived.Ground.SlgnProg
import Derived.Sort.OwnSortedInts
namespace Go.Proofs
open Go.Shelf
def Try.lSort_ren : Go.Shelf.Ren := ⟨fun | 53 => 57 | 64 => 65 | 63 => 64 | 78 => 76 | 79 => 77 | 70 => 68 | 71 => 69 | 72 => 70 | 73 => 71 | 74 => 72 | 75 => 73 | 59 => 49 | 76 => 74 | 77 => 75 | 88 => 78 | 89 => 79 | 90 => 80 | 91 => 81 | 92 => 82 | 68 => 60 | 96 => 83 | n => n, fun | 22 => 33 | 23 => 2 | 3 => 3 | 51 => 82 | 0 => 0 | 67 => 99 | 69 => 102 | 4 => 4 | 61 => 107 | 60 => 106 | 44 => 51 | 5 => 5 | 9 => 9 | 75 => 114 | 79 => 118 | 83 => 120 | 84 => 121 | n => n, fun | n => n⟩
theorem Try.lSort : Go.Proofs.SlLaysN.n53 Try.prog Try.lSort_ren := {
  mixed := by kernel_rfl
  f53 := ⟨Try.f57.name, by decide, Try.func57.trans (congrArg some (by kernel_rfl))⟩
  f59 := ⟨Try.f49.name, by decide, Try.func49.trans (congrArg some (by kernel_rfl))⟩
  f63 := ⟨Try.f64.name, by decide, Try.func64.trans (congrArg some (by kernel_rfl))⟩
  f64 := Try.func65.trans (congrArg some (by kernel_rfl))
  f68 := ⟨Try.f60.name, by decide, Try.func60.trans (congrArg some (by kernel_rfl))⟩
  f70 := ⟨Try.f68.name, by decide, Try.func68.trans (congrArg some (by kernel_rfl))⟩
  f71 := ⟨Try.f69.name, by decide, Try.func69.trans (congrArg some (by kernel_rfl))⟩
  f72 := ⟨Try.f70.name, by decide, Try.func70.trans (congrArg some (by kernel_rfl))⟩
  f73 := ⟨Try.f71.name, by decide, Try.func71.trans (congrArg some (by kernel_rfl))⟩
  f74 := ⟨Try.f72.name, by decide, Try.func72.trans (congrArg some (by kernel_rfl))⟩
  f75 := ⟨Try.f73.name, by decide, Try.func73.trans (congrArg some (by kernel_rfl))⟩
  f76 := ⟨Try.f74.name, by decide, Try.func74.trans (congrArg some (by kernel_rfl))⟩
  f77 := ⟨Try.f75.name, by decide, Try.func75.trans (congrArg some (by kernel_rfl))⟩
  f78 := Try.func76.trans (congrArg some (by kernel_rfl))
  f79 := Try.func77.trans (congrArg some (by kernel_rfl))
  f88 := ⟨Try.f78.name, by decide, Try.func78.trans (congrArg some (by kernel_rfl))⟩
  f89 := Try.func79.trans (congrArg some (by kernel_rfl))
  f90 := Try.func80.trans (congrArg some (by kernel_rfl))
  f91 := ⟨Try.f81.name, by decide, Try.func81.trans (congrArg some (by kernel_rfl))⟩
  f92 := ⟨Try.f82.name, by decide, Try.func82.trans (congrArg some (by kernel_rfl))⟩
  f96 := ⟨Try.f83.name, by decide, Try.func83.trans (congrArg some (by kernel_rfl))⟩
  t0 := Try.underlying0
  a0 := Try.isAgg0
  z0 := Try.sizeOf0
  v0 := Try.zeroValue0
  t3 := Try.underlying3
  a3 := Try.isAgg3
  z3 := Try.sizeOf3
  v3 := Try.zeroValue3
  t4 := Try.underlying4
  a4 := Try.isAgg4
  z4 := Try.sizeOf4
  v4 := Try.zeroValue4
  t5 := Try.underlying5
  a5 := Try.isAgg5
  z5 := Try.sizeOf5
  v5 := Try.zeroValue5
  t9 := Try.underlying9
  a9 := Try.isAgg9
  z9 := Try.sizeOf9
  v9 := Try.zeroValue9
  t22 := Try.underlying33
  a22 := Try.isAgg33
  z22 := Try.sizeOf33
  v22 := Try.zeroValue33
  t23 := Try.underlying2
  a23 := Try.isAgg2
  z23 := Try.sizeOf2
  v23 := Try.zeroValue2
  t44 := Try.underlying51
  a44 := Try.isAgg51
  z44 := Try.sizeOf51
  v44 := Try.zeroValue51
  t51 := Try.underlying82
  a51 := Try.isAgg82
  z51 := Try.sizeOf82
  v51 := Try.zeroValue82
  t60 := Try.underlying106
  a60 := Try.isAgg106
  z60 := Try.sizeOf106
  v60 := Try.zeroValue106
  t61 := Try.underlying107
  a61 := Try.isAgg107
  z61 := Try.sizeOf107
  v61 := Try.zeroValue107
  t67 := Try.underlying99
  a67 := Try.isAgg99
  z67 := Try.sizeOf99
  v67 := Try.zeroValue99
  t69 := Try.underlying102
  a69 := Try.isAgg102
  z69 := Try.sizeOf102
  v69 := Try.zeroValue102
  t75 := Try.underlying114
  a75 := Try.isAgg114
  z75 := Try.sizeOf114
  v75 := Try.zeroValue114
  t79 := Try.underlying118
  a79 := Try.isAgg118
  z79 := Try.sizeOf118
  v79 := Try.zeroValue118
  t83 := Try.underlying120
  a83 := Try.isAgg120
  z83 := Try.sizeOf120
  v83 := Try.zeroValue120
  t84 := Try.underlying121
  a84 := Try.isAgg121
  z84 := Try.sizeOf121
  v84 := Try.zeroValue121 }
def Try.lSearch_ren : Go.Shelf.Ren := ⟨fun | 49 => 25 | 59 => 49 | 60 => 50 | 68 => 60 | n => n, fun | 22 => 33 | 23 => 2 | 3 => 3 | 4 => 4 | 51 => 82 | 0 => 0 | n => n, fun | n => n⟩
theorem Try.lSearch : Go.Proofs.SlLaysN.n49 Try.prog Try.lSearch_ren := {
  mixed := by kernel_rfl
  f49 := ⟨Try.f25.name, by decide, Try.func25.trans (congrArg some (by kernel_rfl))⟩
  f59 := ⟨Try.f49.name, by decide, Try.func49.trans (congrArg some (by kernel_rfl))⟩
  f60 := ⟨Try.f50.name, by decide, Try.func50.trans (congrArg some (by kernel_rfl))⟩
  f68 := ⟨Try.f60.name, by decide, Try.func60.trans (congrArg some (by kernel_rfl))⟩
  t0 := Try.underlying0
  a0 := Try.isAgg0
  z0 := Try.sizeOf0
  v0 := Try.zeroValue0
  t3 := Try.underlying3
  a3 := Try.isAgg3
  z3 := Try.sizeOf3
  v3 := Try.zeroValue3
  t4 := Try.underlying4
  a4 := Try.isAgg4
  z4 := Try.sizeOf4
  v4 := Try.zeroValue4
  t22 := Try.underlying33
  a22 := Try.isAgg33
  z22 := Try.sizeOf33
  v22 := Try.zeroValue33
  t23 := Try.underlying2
  a23 := Try.isAgg2
  z23 := Try.sizeOf2
  v23 := Try.zeroValue2
  t51 := Try.underlying82
  a51 := Try.isAgg82
  z51 := Try.sizeOf82
  v51 := Try.zeroValue82 }
def Try.lContains_ren : Go.Shelf.Ren := ⟨fun | 31 => 48 | 29 => 59 | n => n, fun | 22 => 33 | 23 => 2 | 4 => 4 | 3 => 3 | 0 => 0 | n => n, fun | n => n⟩
theorem Try.lContains : Go.Proofs.SlLaysN.n31 Try.prog Try.lContains_ren := {
  mixed := by kernel_rfl
  f29 := ⟨Try.f59.name, by decide, Try.func59.trans (congrArg some (by kernel_rfl))⟩
  f31 := ⟨Try.f48.name, by decide, Try.func48.trans (congrArg some (by kernel_rfl))⟩
  t0 := Try.underlying0
  a0 := Try.isAgg0
  z0 := Try.sizeOf0
  v0 := Try.zeroValue0
  t3 := Try.underlying3
  a3 := Try.isAgg3
  z3 := Try.sizeOf3
  v3 := Try.zeroValue3
  t4 := Try.underlying4
  a4 := Try.isAgg4
  z4 := Try.sizeOf4
  v4 := Try.zeroValue4
  t22 := Try.underlying33
  a22 := Try.isAgg33
  z22 := Try.sizeOf33
  v22 := Try.zeroValue33
  t23 := Try.underlying2
  a23 := Try.isAgg2
  z23 := Try.sizeOf2
  v23 := Try.zeroValue2 }
end Go.Proofs
namespace Go.Proofs.Ytdbaghmjomdmbaa
open Go.ChangeShapes Go.WideShapes Go.ChangeAt Go.RowKit
set_option linter.unusedVariables false
theorem sort_any (g cap : Nat) (zs : List Int) (w : World) (hH : Go.Sort.Holds (Value.int .i64) w g 0 zs.toArray) (hb : g < w.heap.size) (hl : zs.length < 4611686018427387904) :
    Calls Try.prog 57 #[.slice (some ⟨g, 0, none⟩) zs.length cap] w fun e w' => e = .returned (.tuple #[]) ∧ ∃ n os, w' = Go.Sort.grow (Go.Sort.putRow (Value.int .i64) (Go.Sort.ahead w n) g 0 (zs.mergeSort fun x y => decide (x ≤ y)).toArray) os := by
  have h := AnyG.slices_Sort_int Try.lSort g 0 cap zs w hH hb hl
  exact h
end Go.Proofs.Ytdbaghmjomdmbaa
