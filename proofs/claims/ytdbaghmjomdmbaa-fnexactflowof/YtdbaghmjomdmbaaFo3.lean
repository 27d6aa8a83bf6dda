import Derived.Test.YtdbaghmjomdmbaaFo1
import Derived.Deep.Cut
import Derived.Deep.CutRange
namespace Go.Proofs.Ytdbaghmjomdmbaa
open Go.ChangeShapes Go.WideShapes Go.ChangeAt Go.RowKit
set_option linter.unusedVariables false
structure At4 (w : World) (b : Nat) (x y z t : Value) : Prop where
  c0 : w.cell? ⟨b, 0, none⟩ = some x
  c1 : w.cell? ⟨b, 1, none⟩ = some y
  c2 : w.cell? ⟨b, 2, none⟩ = some z
  c3 : w.cell? ⟨b, 3, none⟩ = some t
theorem At4.lt {w : World} {b : Nat} {x y z t : Value} (h : At4 w b x y z t) : b < w.heap.size := block_lt_of_cell h.c0
theorem At4.keep {w w' : World} {b : Nat} {x y z t : Value} (h : At4 w b x y z t) (hb : Below w.heap.size w w') : At4 w' b x y z t :=
  ⟨by rw [hb.cell h.lt]; exact h.c0, by rw [hb.cell h.lt]; exact h.c1, by rw [hb.cell h.lt]; exact h.c2, by rw [hb.cell h.lt]; exact h.c3⟩
theorem At4.new (w : World) (x y z t : Value) (ty : TypeId) : At4 (w.alloc (.cells #[x, y, z, t] ty)) w.heap.size x y z t := by
  have h := World.ownsRow_lit (base := w.heap.size) (e := ty) (size := 4) w #[x, y, z, t] 1 (Nat.le_refl _) (by unfold maxLen; omega) (by simp)
  exact ⟨h.cellAt 0 (by omega), h.cellAt 1 (by omega), h.cellAt 2 (by omega), h.cellAt 3 (by omega)⟩
theorem At4.alloc {w : World} {b : Nat} {x y z t : Value} (h : At4 w b x y z t) (o : Obj) : At4 (w.alloc o) b x y z t := h.keep ((Below.refl _ _).alloc (Nat.le_refl _) _)
theorem below_alloc (w : World) (o : Obj) : Below w.heap.size w (w.alloc o) := (Below.refl _ _).alloc (Nat.le_refl _) _
theorem below_drew1 (w : World) : Below w.heap.size w w.drew := ⟨rfl, rfl, rfl, Nat.le_refl _, fun _ _ => rfl⟩
theorem below_on {B : Nat} {w u u' : World} (h : Below B w u) (hB : B ≤ w.heap.size) (h' : Below u.heap.size u u') : Below B w u' := h.trans (h'.mono (Nat.le_trans hB h.size))
end Go.Proofs.Ytdbaghmjomdmbaa
namespace Go.Proofs.Ytdbaghmjomdmbaa
open Go.ChangeShapes Go.WideShapes Go.ChangeAt Go.RowKit
set_option linter.unusedVariables false
def Blk (w : World) (b : Nat) (cur : Array Value) (t : TypeId) : Prop := w.heap[b]? = some (.cells cur t (0, 0))
theorem Blk.new (w : World) (cur : Array Value) (t : TypeId) : Blk (w.alloc (.cells cur t)) w.heap.size cur t := Array.getElem?_push_size
theorem Blk.lt {w : World} {b : Nat} {cur : Array Value} {t : TypeId} (h : Blk w b cur t) : b < w.heap.size := (Array.getElem?_eq_some_iff.1 h).1
theorem Blk.keep {w w' : World} {b : Nat} {cur : Array Value} {t : TypeId} (h : Blk w b cur t) (hb : Below w.heap.size w w') : Blk w' b cur t := by
  unfold Blk at *
  rw [hb.block b (Array.getElem?_eq_some_iff.1 h).1]
  exact h
theorem Blk.cell {w : World} {b : Nat} {cur : Array Value} {t : TypeId} (h : Blk w b cur t) (i : Nat) : w.cell? ⟨b, i, none⟩ = cur[i]? := cell_of_row w b i cur t _ h
theorem Blk.frozen {w : World} {b : Nat} {cur : Array Value} {t : TypeId} (h : Blk w b cur t) (i : Nat) : w.frozen? ⟨b, i, none⟩ = false := frozen_of_row w b i cur t h
theorem Blk.set {w : World} {b : Nat} {cur : Array Value} {t : TypeId} (h : Blk w b cur t) (i : Nat) (x : Value) : Blk (w.setCell ⟨b, i, none⟩ x) b (cur.setIfInBounds i x) t := heap_setCell_same w b i cur t x h
theorem Blk.other {w : World} {b : Nat} {cur : Array Value} {t : TypeId} (h : Blk w b cur t) {a : Addr} (ha : b ≠ a.block) (x : Value) : Blk (w.setCell a x) b cur t := by
  unfold Blk at *
  rw [heap_setCell_other w a b x ha]
  exact h
theorem Blk.grown {w w' : World} {b : Nat} {cur : Array Value} {t e : TypeId} (h : Blk w b cur t) {B k m : Nat} {v : Value} {bs : List Value} (hg : w.grownBy w' v.ownBlock) (ho : w.ownsRow B e k v m bs) (hne : t ≠ e) : Blk w' b cur t := by
  unfold Blk at *
  rw [hg.block b (Array.getElem?_eq_some_iff.1 h).1 ?_]
  · exact h
  · intro hv
    rcases ho.2 with ⟨rfl, _⟩ | ⟨g', cap', cur', rfl, _, hg', _⟩
    · cases hv
    · simp only [Value.ownBlock, Option.some.injEq] at hv
      subst hv
      rw [h] at hg'
      simp only [Option.some.injEq, Obj.cells.injEq] at hg'
      exact hne hg'.2.1
end Go.Proofs.Ytdbaghmjomdmbaa
