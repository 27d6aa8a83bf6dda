/- Grown: a region that draws its order, reads what was there, and calls what makes new memory alone: one walk serves every order. -/
import Derived.Test.YtcmbphpeikcpoaaGreatSays
import Derived.Test.YtcmbphpeikcpoaaGreatSame9
namespace Go.Proofs.YtcmbphpeikcpoaaGreat
open Go.ChangeShapes Go.WideShapes Go.ChangeAt Go.RowKit
set_option linter.unusedVariables false
/-- A world that has come of w by growth alone. -/
structure Grown (w : World) where
  u : World
  h : Below w.heap.size w u
theorem Grown.some (w : World) : Nonempty (Grown w) := ⟨⟨w, Below.refl _ _⟩⟩
theorem wp_region_grown {P : Program} {id : Nat} {Q : Exit → Act → World → Prop} {a : Act} {w : World} {l : List Oper} (hm : P.follows .mixedOrders = true) (hB : Region.lexB .any l.toArray = true)
    (h : wpQuiet P l.toArray (fun w' => ∃ n : Grown w, w' = n.u) (fun a' => ∀ w', (∃ n : Grown w, w' = n.u) → Q .normal a' w') l a) : (Code.region id l.toArray true).wp P Q a w :=
  wp_region_quiet (C := fun w' => ∃ n : Grown w, w' = n.u) hm hB ⟨⟨_, below_drew1 w⟩, rfl⟩ (by simpa using h)
theorem SaysIff.true {e : Ending} {q : Prop} (h : SaysIff e q) (hq : q) : e = .returned (.bool true) := by
  obtain ⟨b, rfl, hb⟩ := h
  rw [hb.2 hq]
theorem SaysIff.false {e : Ending} {q : Prop} (h : SaysIff e q) (hq : ¬ q) : e = .returned (.bool false) := by
  obtain ⟨b, rfl, hb⟩ := h
  cases b
  · rfl
  · exact absurd (hb.1 rfl) hq
theorem Grown.cell {w : World} {a : Addr} {x : Value} (h : w.cell? a = Option.some x) (n : Grown w) : n.u.cell? a = Option.some x := by rw [n.h.cell (block_lt_of_cell h)]; exact h
end Go.Proofs.YtcmbphpeikcpoaaGreat
