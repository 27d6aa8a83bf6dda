import Derived.Test.YtdbaghmjomdmbaaFo15
import Derived.Test.YtdbaghmjomdmbaaFo22
import Derived.Test.YtdbaghmjomdmbaaFo23
import Derived.Deep.LoopGhost
namespace Go.Proofs.Ytdbaghmjomdmbaa
open Go.ChangeShapes Go.WideShapes Go.ChangeAt Go.RowKit
set_option linter.unusedVariables false
def zv (I : Nat → Int) (n : Nat) : List Value := (List.range n).map fun i => Value.int .i64 (I i)
theorem zv_length (I : Nat → Int) (n : Nat) : (zv I n).length = n := by simp [zv]
theorem zv_at (I : Nat → Int) (n i : Nat) (h : i < n) : (zv I n)[i]? = some (.int .i64 (I i)) := by simp [zv, h]
theorem zv_set {I J : Nat → Int} {n i : Nat} {x : Int} (h : ∀ j, J j = if j = i then x else I j) : (zv I n).set i (.int .i64 x) = zv J n := by
  apply List.ext_getElem?
  intro j
  by_cases hj : j < n
  · rw [zv_at _ _ _ hj, h j]
    by_cases e : j = i
    · subst e
      rw [List.getElem?_set_self (by rw [zv_length]; exact hj), if_pos rfl]
    · rw [List.getElem?_set_ne (by omega), zv_at _ _ _ hj, if_neg e]
  · rw [List.getElem?_eq_none (by simp [zv_length]; omega), List.getElem?_eq_none (by rw [zv_length]; omega)]
theorem zv_rep (n : Nat) : List.replicate n (Value.int .i64 (-1)) = zv (fun _ => -1) n := by
  apply List.ext_getElem?
  intro j
  by_cases hj : j < n
  · rw [zv_at _ _ _ hj]
    simp [hj]
  · rw [List.getElem?_eq_none (by simp; omega), List.getElem?_eq_none (by rw [zv_length]; omega)]
theorem zv_flat (I : Nat → Int) (n : Nat) : zv I n = ((List.range n).map I).flatMap intCell := by
  unfold zv
  rw [List.flatMap_map]
  induction List.range n with
  | nil => rfl
  | cons x r ih => simp [intCell, ih]
/-- A graph whose idom turns: but for its own block, all that was there is as it was. -/
structure DW (w u : World) (G n : Nat) (A : Array Value) (gi : Nat) (I : Nat → Int) : Prop where
  blk : ∃ x0 x1 x2 x3, A = #[x0, x1, x2, x3] ∧ Blk u G #[x0, x1, x2, x3, .slice (some ⟨gi, 0, none⟩) n n] 72
  row : u.ownsRow w.heap.size 2 1 (.slice (some ⟨gi, 0, none⟩) n n) n (zv I n)
  fx : ∀ k, k < w.heap.size → k ≠ G → u.heap[k]? = w.heap[k]?
  bel : Below G w u
  size : w.heap.size ≤ u.heap.size
  lt : G < w.heap.size
theorem DW.keep {w u u' : World} {G n gi : Nat} {A : Array Value} {I : Nat → Int} (h : DW w u G n A gi I) (hb : Below u.heap.size u u') : DW w u' G n A gi I := by
  obtain ⟨x0, x1, x2, x3, e, k⟩ := h.blk
  exact ⟨⟨x0, x1, x2, x3, e, k.keep hb⟩, own_keep h.row hb (Nat.le_refl _), fun k hk hne => by rw [hb.block k (Nat.lt_of_lt_of_le hk h.size)]; exact h.fx k hk hne, h.bel.trans (hb.mono (by have := h.lt; have := h.size; omega)), Nat.le_trans h.size hb.size, h.lt⟩
theorem DW.cell {w u : World} {G n gi : Nat} {A : Array Value} {I : Nat → Int} (h : DW w u G n A gi I) {a : Addr} {x : Value} (hb : w.cell? a = some x) (hne : a.block ≠ G) : u.cell? a = some x := by
  have := h.fx a.block (block_lt_of_cell hb) hne
  unfold World.cell? at *
  rw [this]
  exact hb
theorem DW.set {w u : World} {G n gi : Nat} {A : Array Value} {I J : Nat → Int} (h : DW w u G n A gi I) (b : Nat) (x : Int) (hJ : ∀ j, J j = if j = b then x else I j) : DW w (u.setCell ⟨gi, b, none⟩ (.int .i64 x)) G n A gi J := by
  obtain ⟨x0, x1, x2, x3, e, k⟩ := h.blk
  have hge := (own_blk h.row).1
  have hlt := h.lt
  refine ⟨⟨x0, x1, x2, x3, e, k.other (by simp only []; omega) _⟩, ?_, fun k hk hne => ?_, h.bel.setCell (by simp only []; omega) _, by rw [World.size_setCell]; exact h.size, h.lt⟩
  · have := (h.row.stored b (.int .i64 x)).1
    rw [zv_set hJ] at this
    exact this
  · rw [heap_setCell_other u _ k _ (by simp only []; omega)]
    exact h.fx k hk hne
/-- What a pass over the order holds. -/
structure PassI (E : Nat → List Nat) (n : Nat) (pl : Nat → Nat) (k j : Nat) (I : Nat → Int) : Prop where
  dinv : DInv E n pl I
  uinv : UInv E n pl I k j
  kn : ∀ x, x < n → pl x < j → Kn I x
  all : k = 0 ∨ ∀ x, x < n → Kn I x
  z : I 0 = -1
theorem PassI.step {E : Nat → List Nat} {n : Nat} {pl : Nat → Nat} {k j b : Nat} {I J : Nat → Int} {z : Int} (hP : Place E n pl) (h : PassI E n pl k j I) (hb : b < n) (hb0 : b ≠ 0) (hj : pl b = j) (hc : CommonIs n I (fromL E n b) z) (hJ : ∀ y, J y = if y = b then z else I y) : PassI E n pl k (j + 1) J := by
  subst hj
  have hps := fromL_preds E n b
  obtain ⟨m, h1, h2, h3, h4, h5⟩ := common_up hP h.dinv hb hb0 hps h.kn hc
  have hJ1 : ∀ y, y ≠ b → I y = J y := fun y hy => by rw [hJ y, if_neg hy]
  have hJb : J b = (m : Int) := by rw [hJ b, if_pos rfl, h1]
  obtain ⟨d1, d2, d3, d4⟩ := h.dinv.set hP hb hb0 hps h.kn h2 h3 h4 h5 hJ1 hJb
  refine ⟨d1, h.uinv.set hP h.dinv hb hb0 hps h.kn h.all h2 h3 h4 h5 hJ1 hJb, fun x hx hl => ?_, h.all.imp id fun q x hx => d2 x (q x hx), ?_⟩
  · by_cases e : x = b
    · subst e; exact .inr (by rw [hJb]; omega)
    · refine d2 x (h.kn x hx ?_)
      have := hP.inj x b hx hb
      omega
  · rw [hJ 0, if_neg (Ne.symm hb0)]
    exact h.z
/-- What holds where nothing turns any more. -/
structure DoneI (E : Nat → List Nat) (n : Nat) (pl : Nat → Nat) (I : Nat → Int) : Prop where
  dinv : DInv E n pl I
  all : ∀ x, x < n → Kn I x
  dom : ∀ d x, x < n → (Anc I d x ↔ Dom E d x)
  z : I 0 = -1
end Go.Proofs.Ytdbaghmjomdmbaa
