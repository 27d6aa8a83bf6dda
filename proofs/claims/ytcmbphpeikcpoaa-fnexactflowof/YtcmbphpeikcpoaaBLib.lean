/- BLib: the library's sort, search and look over numbers, laid at this program. -/
import Derived.Test.YtcmbphpeikcpoaaBPure
import Derived.Shelf.SlGeneric
import Derived.Shelf.SortG.Plain
import Derived.Shelf.SortG.SortNone
import Derived.Shelf.SlicesG.SearchI
import Derived.Shelf.SlicesG.Turned
import Derived.Ground.SlgnProg
import Derived.Sort.OwnSortedInts
namespace Go.Proofs
shelf_lay_g SlLaysN.n53 Slgn 53 at Try 57 as Try.lSort
shelf_lay_g SlLaysN.n49 Slgn 49 at Try 25 as Try.lSearch
shelf_lay_g SlLaysN.n31 Slgn 31 at Try 48 as Try.lContains
end Go.Proofs
namespace Go.Proofs.Ytcmbphpeikcpoaa
open Go.ChangeShapes Go.WideShapes Go.ChangeAt Go.RowKit
set_option linter.unusedVariables false
theorem sort_any (g cap : Nat) (zs : List Int) (w : World) (hH : Go.Sort.Holds (Value.int .i64) w g 0 zs.toArray) (hb : g < w.heap.size) (hl : zs.length < 4611686018427387904) :
    Calls Try.prog 57 #[.slice (some ⟨g, 0, none⟩) zs.length cap] w fun e w' => e = .returned (.tuple #[]) ∧ ∃ n os, w' = Go.Sort.grow (Go.Sort.putRow (Value.int .i64) (Go.Sort.ahead w n) g 0 (zs.mergeSort fun x y => decide (x ≤ y)).toArray) os := by
  have h := AnyG.slices_Sort_int Try.lSort g 0 cap zs w hH hb hl
  exact h
end Go.Proofs.Ytcmbphpeikcpoaa
