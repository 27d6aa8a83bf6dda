import Derived.Test.YthifelgdkmkdkaaGreatDoorFm9
namespace Go.Proofs.YthifelgdkmkdkaaGreatDoor
open Go.ChangeShapes Go.WideShapes Go.ChangeAt Go.RowKit
set_option linter.unusedVariables false
structure At3 (w : World) (b : Nat) (x y z : Value) : Prop where
  c0 : w.cell? ⟨b, 0, none⟩ = some x
  c1 : w.cell? ⟨b, 1, none⟩ = some y
  c2 : w.cell? ⟨b, 2, none⟩ = some z
theorem At3.lt {w : World} {b : Nat} {x y z : Value} (h : At3 w b x y z) : b < w.heap.size := block_lt_of_cell h.c0
theorem At3.keep {w w' : World} {b : Nat} {x y z : Value} (h : At3 w b x y z) (hb : Below w.heap.size w w') : At3 w' b x y z :=
  ⟨by rw [hb.cell h.lt]; exact h.c0, by rw [hb.cell h.lt]; exact h.c1, by rw [hb.cell h.lt]; exact h.c2⟩
theorem At3.new (w : World) (x y z : Value) (ty : TypeId) : At3 (w.alloc (.cells #[x, y, z] ty)) w.heap.size x y z := by
  have h := World.ownsRow_lit (base := w.heap.size) (e := ty) (size := 3) w #[x, y, z] 1 (Nat.le_refl _) (by unfold maxLen; omega) (by simp)
  exact ⟨h.cellAt 0 (by omega), h.cellAt 1 (by omega), h.cellAt 2 (by omega)⟩
end Go.Proofs.YthifelgdkmkdkaaGreatDoor
