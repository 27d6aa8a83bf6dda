/- BSpec3a: spec.BlocksOf: its rows in the first and the second loop. -/
import Derived.Test.YtdbaghmjomdmbaaBSpec2
namespace Go.Proofs.Ytdbaghmjomdmbaa
open Go.ChangeShapes Go.WideShapes Go.ChangeAt Go.RowKit
set_option linter.unusedVariables false
def bcell (b : Bool) : List Value := [.bool b]
/-- The rows, in the second loop. -/
structure SW (w u : World) (xs : List MI) (n k q : Nat) (V : Value) : Prop where
  lead : u.ownsRow w.heap.size 4 1 (.slice (some ⟨w.heap.size + 1, 0, none⟩) (n + 1) (n + 1)) (n + 1) (leadV xs n n)
  num : u.ownsRow w.heap.size 2 1 (.slice (some ⟨q, 0, none⟩) n n) n (flatTo (numC xs) [.int .i64 0] (List.range n) k n)
  out : u.ownsRow w.heap.size 46 3 V (outL xs k).length ((outL xs k).flatMap bc0)
  bel : Below w.heap.size w u
theorem row_ne {u : World} {B B' g g' k k' n n' c c' : Nat} {e e' : TypeId} {xs ys : List Value} (h : u.ownsRow B e k (.slice (some ⟨g, 0, none⟩) n c) n xs) (h' : u.ownsRow B' e' k' (.slice (some ⟨g', 0, none⟩) n' c') n' ys) (hne : e ≠ e') : ¬ g = g' := fun eq => by
  subst eq
  obtain ⟨_, cur, h1⟩ := own_blk h
  obtain ⟨_, cur', h2⟩ := own_blk h'
  rw [h1] at h2
  simp only [Option.some.injEq, Obj.cells.injEq] at h2
  exact hne h2.2.1
theorem own_set_ne {u : World} {B B' g k k' n n' c : Nat} {e e' : TypeId} {s : Value} {xs ys : List Value} (h : u.ownsRow B e k s n xs) (h' : u.ownsRow B' e' k' (.slice (some ⟨g, 0, none⟩) n' c) n' ys) (hne : e ≠ e') (i : Nat) (z : Value) : (u.setCell ⟨g, i, none⟩ z).ownsRow B e k s n xs := by
  obtain ⟨_, cur, h1⟩ := own_blk h'
  exact ownsRow_setCell_other h (a := ⟨g, i, none⟩) (fun q => type_apart h h1 hne _ q rfl) z
theorem SW.fin {w u : World} {xs : List MI} {n k q gg cap : Nat} {bs : List MB} {b : MB} (hk : k < n) (h1 : u.ownsRow w.heap.size 4 1 (.slice (some ⟨w.heap.size + 1, 0, none⟩) (n + 1) (n + 1)) (n + 1) (leadV xs n n)) (h2 : u.ownsRow w.heap.size 2 1 (.slice (some ⟨q, 0, none⟩) n n) n (flatTo (numC xs) [.int .i64 0] (List.range n) k n)) (h3 : u.ownsRow w.heap.size 46 3 (.slice (some ⟨gg, 0, none⟩) (bs.length + 1) cap) (bs.length + 1) ((bs ++ [b]).flatMap bc0)) (h4 : Below w.heap.size w u) (ho : outL xs (k + 1) = bs ++ [(⟨b.first, (k : Int), b.next⟩ : MB)]) (hm : numAt xs k = (bs.length : Int)) :
    SW w ((u.setCell ⟨q, k, none⟩ (.int .i64 bs.length)).setCell ⟨gg, bs.length * 3 + 1, none⟩ (.int .i64 k)) xs n (k + 1) q (.slice (some ⟨gg, 0, none⟩) (bs.length + 1) cap) := by
  have hq : w.heap.size ≤ q := (own_blk h2).1
  have hg : w.heap.size ≤ gg := (own_blk h3).1
  have g1 := own_set_ne h1 h2 (by decide) k (.int .i64 bs.length)
  have g3 := own_set_ne h3 h2 (by decide) k (.int .i64 bs.length)
  have g2 := (h2.stored k (.int .i64 bs.length)).1
  have e2 : (flatTo (numC xs) [.int .i64 0] (List.range n) k n).set k (.int .i64 bs.length) = flatTo (numC xs) [.int .i64 0] (List.range n) (k + 1) n := by
    rw [flatTo_parts _ _ _ _ _ hk, set1 _ _ _ _ k (by rw [flat_length (numC xs) 1 (numC_length xs), List.length_take, List.length_range]; omega), flatTo_next (numC xs) _ _ k n k (by simp [hk])]
    simp [numC, intCell, hm]
  rw [e2] at g2
  refine ⟨own_set_ne g1 g3 (by decide) _ _, own_set_ne g2 g3 (by decide) _ _, ?_, (h4.setCell hq _).setCell hg _⟩
  have g4 := (g3.stored (bs.length * 3 + 1) (.int .i64 k)).1
  rw [bc0_set] at g4
  rw [ho, List.length_append, List.length_singleton]
  exact g4
theorem begSW {w wr w3 : World} {xs : List MI} {k j q gg cap : Nat} {v : Value} (h : SW w wr xs k j q v) (ho : outL xs (j + 1) = outL xs j ++ [(⟨(j : Int), (j : Int), []⟩ : MB)]) (hm : numAt xs j = ((outL xs j).length : Int)) (hj : j < k) (hown : w3.ownsRow w.heap.size 46 3 (.slice (some ⟨gg, 0, none⟩) ((outL xs j).length + 1) cap) ((outL xs j).length + 1) ((outL xs j).flatMap bc0 ++ [.int .i64 j, .int .i64 0, .slice none 0 0])) (hg : (wr.alloc (.cells #[.int .i64 j, .int .i64 0, .slice none 0 0] 46)).grownBy w3 v.ownBlock) :
    Hid (SW w ((w3.setCell ⟨q, j, none⟩ (.int .i64 (outL xs j).length)).setCell ⟨gg, (outL xs j).length * 3 + 1, none⟩ (.int .i64 j)) xs k (j + 1) q (.slice (some ⟨gg, 0, none⟩) ((outL xs j).length + 1) cap)) ∧ ¬ gg = q ∧ ¬ q = gg ∧ w3.cell? ⟨q, j, none⟩ = some (.int .i64 0) ∧ w3.frozen? ⟨q, j, none⟩ = false ∧ w3.cell? ⟨gg, (outL xs j).length * 3 + 1, none⟩ = some (.int .i64 0) ∧ w3.frozen? ⟨gg, (outL xs j).length * 3 + 1, none⟩ = false := by
  have bA := below_alloc wr (.cells #[.int .i64 j, .int .i64 0, .slice none 0 0] 46)
  have r3 := own_keep h.out bA (Nat.le_refl _)
  have r1 := own_grown (own_keep h.lead bA (Nat.le_refl _)) hg r3 (by decide)
  have r2 := own_grown (own_keep h.num bA (Nat.le_refl _)) hg r3 (by decide)
  have bel := (below_on h.bel (Nat.le_refl _) bA).grown hg (Nat.le_trans h.bel.size bA.size) (fun i hi => (r3.lt i hi).1)
  have hne := row_ne hown r2 (by decide)
  have n0 := r2.cellAt j (by omega)
  have o0 := hown.cellAt ((outL xs j).length * 3 + 1) (by omega)
  rw [flatTo_parts _ _ _ _ _ hj, List.getElem?_append_right (by rw [flat_length (numC xs) 1 (numC_length xs), List.length_take, List.length_range]; omega), show j - (List.flatMap (numC xs) (List.take j (List.range k))).length = 0 by rw [flat_length (numC xs) 1 (numC_length xs), List.length_take, List.length_range]; omega] at n0
  simp only [List.cons_append, List.getElem?_cons_zero] at n0
  rw [List.getElem?_append_right (by rw [flat_length bc0 3 bc0_length]; omega), show (outL xs j).length * 3 + 1 - (List.flatMap bc0 (outL xs j)).length = 1 by rw [flat_length bc0 3 bc0_length]; omega] at o0
  simp only [List.getElem?_cons_succ, List.getElem?_cons_zero] at o0
  refine ⟨SW.fin (b := ⟨(j : Int), 0, []⟩) hj r1 r2 (by rw [List.flatMap_append]; exact hown) bel ho hm, hne, fun e => hne e.symm, n0, r2.frozenAt j, o0, hown.frozenAt _⟩
theorem made_bool (n : Nat) : (madeCells (Value.bool false).cells (n * 1)).toList = List.replicate n (.bool false) := by
  rw [flatTo_zero bcell [.bool false] [] n (.bool false) 1 rfl rfl (by omega)]
  simp [flatTo, List.flatten_replicate_singleton]
theorem made_int (n : Nat) (f : Nat → List Value) (ys : List Nat) : (madeCells (Value.int .i64 0).cells (n * 1)).toList = flatTo f [.int .i64 0] ys 0 n := by
  rw [flatTo_zero f [.int .i64 0] ys n (.int .i64 0) 1 rfl rfl (by omega)]
/-- The rows, in the first loop. -/
structure SV (w u : World) (xs : List MI) (n k : Nat) : Prop where
  lead : u.ownsRow w.heap.size 4 1 (.slice (some ⟨w.heap.size + 1, 0, none⟩) (n + 1) (n + 1)) (n + 1) (leadV xs k n)
  out : Blk u w.heap.size #[] 46
  bel : Below w.heap.size w u
theorem SV.set {w u : World} {xs : List MI} {n k k' : Nat} (h : SV w u xs n k) (j : Nat) (hl : (leadV xs k n).set j (.bool true) = leadV xs k' n) : SV w (u.setCell ⟨w.heap.size + 1, j, none⟩ (.bool true)) xs n k' := by
  refine ⟨?_, h.out.other (by simp only []; omega) _, h.bel.setCell (by simp only []; omega) _⟩
  have := (h.lead.stored j (.bool true)).1
  rw [hl] at this
  exact this
theorem SV.set2 {w u : World} {xs : List MI} {n k k' : Nat} (h : SV w u xs n k) (j j' : Nat) (hl : ((leadV xs k n).set j (.bool true)).set j' (.bool true) = leadV xs k' n) : SV w ((u.setCell ⟨w.heap.size + 1, j, none⟩ (.bool true)).setCell ⟨w.heap.size + 1, j', none⟩ (.bool true)) xs n k' := by
  refine ⟨?_, (h.out.other (by simp only []; omega) _).other (by simp only []; omega) _, (h.bel.setCell (by simp only []; omega) _).setCell (by simp only []; omega) _⟩
  have := ((h.lead.stored j (.bool true)).1.stored j' (.bool true)).1
  rw [hl] at this
  exact this
end Go.Proofs.Ytdbaghmjomdmbaa
