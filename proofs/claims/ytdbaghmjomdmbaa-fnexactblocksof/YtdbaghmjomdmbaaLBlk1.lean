/- LBlk1: what the law of BlocksOf needs beside its walk. -/
import Derived.Test.YtdbaghmjomdmbaaBImpl8
import Derived.Test.YtdbaghmjomdmbaaBSpec5
import Derived.Test.YtdbaghmjomdmbaaFMark
namespace Go.Proofs.Ytdbaghmjomdmbaa
open Go.ChangeShapes Go.WideShapes Go.ChangeAt Go.RowKit
set_option linter.unusedVariables false
/-- The blocks of code, or none. -/
def BlkIs (xs : List MI) (bs : List MB) : Prop := (¬ CodeGood xs ∧ bs = []) ∨ CodeGood xs ∧ bs = specL xs
theorem BlkIs.one {xs : List MI} {bs bs' : List MB} (h : BlkIs xs bs) (h' : BlkIs xs bs') : bs = bs' := by
  rcases h with ⟨h1, rfl⟩ | ⟨h1, rfl⟩ <;> rcases h' with ⟨h2, rfl⟩ | ⟨h2, rfl⟩
  · rfl
  · exact absurd h2 h1
  · exact absurd h1 h2
  · rfl
theorem BlkIs.small {xs : List MI} {bs : List MB} (h : BlkIs xs bs) : bs.length ≤ 1048576 ∧ ∀ f ∈ bs, f.small := by
  rcases h with ⟨h1, rfl⟩ | ⟨h1, rfl⟩
  · exact ⟨by simp, fun f hf => (by cases hf)⟩
  · refine ⟨?_, ?_⟩
    · unfold specL
      rw [List.length_map, outL_length]
      have := List.length_filter_le (leadB xs xs.length) (List.range xs.length)
      have h2 := h1.2.1
      simp only [List.length_range] at this
      exact Nat.le_trans this (by omega)
    · intro f hf
      unfold specL at hf
      obtain ⟨m, _, rfl⟩ := List.mem_map.1 hf
      show (specB xs m).next.length ≤ 1048576
      simp only [specB, nextS]
      split <;> split <;> simp
theorem OwnBE.rd {w : World} {base : Nat} {V : Value} {F : List (MB × Value)} (h : OwnBE w base V F) : RdBs w V (F.map Prod.fst) := by
  refine ⟨F, rfl, ?_, fun x hx => Rd.of_own (h.fam.own (x.2, x.1.next) (by unfold nrows; exact List.mem_map_of_mem (f := fun x => (x.2, x.1.next)) hx))⟩
  rw [List.length_map]
  exact Rd.of_own h.row
theorem OwnBE.keep {w w' : World} {base : Nat} {V : Value} {F : List (MB × Value)} (h : OwnBE w base V F) (hb : Below w.heap.size w w') : OwnBE w' base V F := ⟨own_keep h.row hb (Nat.le_refl _), h.fam.keep hb⟩
theorem OwnBE.marks {w w' : World} {base lo hi : Nat} {V : Value} {F : List (MB × Value)} (h : OwnBE w base V F) (mg : Marks lo hi w w') (hb : hi ≤ base) : OwnBE w' base V F := by
  have g := MarksG.of (Below.refl w.heap.size w) (Nat.le_refl _) mg
  exact ⟨g.own h.row hb, ⟨fun r hr => g.own (h.fam.own r hr) hb, h.fam.sep⟩⟩
theorem OwnBE.held {w : World} {base : Nat} {V : Value} {F : List (MB × Value)} (h1 : w.ownsRow base 46 3 V F.length ((markBs 1 F).flatMap bCells)) (h2 : Fam w base (nrows (markBs 1 F))) : Rd w 3 V F.length ((markBs 1 F).flatMap bCells) ∧ ∀ x ∈ nrows (markBs 1 F), Rd w 1 x.1 x.2.length (x.2.flatMap intCell) := ⟨Rd.of_own h1, fun x hx => Rd.of_own (h2.own x hx)⟩
end Go.Proofs.Ytdbaghmjomdmbaa
