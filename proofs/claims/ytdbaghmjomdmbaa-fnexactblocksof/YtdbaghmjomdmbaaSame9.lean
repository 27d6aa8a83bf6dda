/- Same9: four cells of a block that is there. -/
import Derived.Test.YtdbaghmjomdmbaaProg12
import Derived.Deep.Cut
import Derived.Deep.CutRange
namespace Go.Proofs.Ytdbaghmjomdmbaa
open Go.ChangeShapes Go.WideShapes Go.ChangeAt Go.RowKit
set_option linter.unusedVariables false
structure At4 (w : World) (b : Nat) (x y z t : Value) : Prop where
  c0 : w.cell? ⟨b, 0, none⟩ = some x
  c1 : w.cell? ⟨b, 1, none⟩ = some y
  c2 : w.cell? ⟨b, 2, none⟩ = some z
  c3 : w.cell? ⟨b, 3, none⟩ = some t
theorem At4.lt {w : World} {b : Nat} {x y z t : Value} (h : At4 w b x y z t) : b < w.heap.size := block_lt_of_cell h.c0
theorem At4.keep {w w' : World} {b : Nat} {x y z t : Value} (h : At4 w b x y z t) (hb : Below w.heap.size w w') : At4 w' b x y z t :=
  ⟨by rw [hb.cell h.lt]; exact h.c0, by rw [hb.cell h.lt]; exact h.c1, by rw [hb.cell h.lt]; exact h.c2, by rw [hb.cell h.lt]; exact h.c3⟩
theorem At4.new (w : World) (x y z t : Value) (ty : TypeId) : At4 (w.alloc (.cells #[x, y, z, t] ty)) w.heap.size x y z t := by
  have h := World.ownsRow_lit (base := w.heap.size) (e := ty) (size := 4) w #[x, y, z, t] 1 (Nat.le_refl _) (by unfold maxLen; omega) (by simp)
  exact ⟨h.cellAt 0 (by omega), h.cellAt 1 (by omega), h.cellAt 2 (by omega), h.cellAt 3 (by omega)⟩
theorem At4.alloc {w : World} {b : Nat} {x y z t : Value} (h : At4 w b x y z t) (o : Obj) : At4 (w.alloc o) b x y z t := h.keep ((Below.refl _ _).alloc (Nat.le_refl _) _)
theorem below_alloc (w : World) (o : Obj) : Below w.heap.size w (w.alloc o) := (Below.refl _ _).alloc (Nat.le_refl _) _
theorem below_drew1 (w : World) : Below w.heap.size w w.drew := ⟨rfl, rfl, rfl, Nat.le_refl _, fun _ _ => rfl⟩
theorem below_on {B : Nat} {w u u' : World} (h : Below B w u) (hB : B ≤ w.heap.size) (h' : Below u.heap.size u u') : Below B w u' := h.trans (h'.mono (Nat.le_trans hB h.size))
end Go.Proofs.Ytdbaghmjomdmbaa
