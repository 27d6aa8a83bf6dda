/- OwnRow: what a slice that owns its row looks like. -/
import Derived.Test.YtdbaghmjomdmbaaProg12
namespace Go.Proofs.Ytdbaghmjomdmbaa
open Go.ChangeShapes Go.WideShapes Go.ChangeAt Go.RowKit
set_option linter.unusedVariables false
theorem own_row {w : World} {base : Nat} {e : TypeId} {s : Value} {k n : Nat} {xs : List Value} (h : w.ownsRow base e k s n xs) : (s = .slice none 0 0 ∧ n = 0) ∨ ∃ g c, s = .slice (some ⟨g, 0, none⟩) n c := by
  rcases h.2 with h | ⟨g, cap, cur, rfl, hb, _⟩
  · exact .inl h
  · exact .inr ⟨g, cap, rfl⟩
theorem own_slice {w : World} {base : Nat} {e : TypeId} {s : Value} {k n : Nat} {xs : List Value} (h : w.ownsRow base e k s n xs) : ∃ a c, s = .slice a n c := by
  rcases own_row h with ⟨rfl, rfl⟩ | ⟨g, c, rfl⟩ <;> exact ⟨_, _, rfl⟩
end Go.Proofs.Ytdbaghmjomdmbaa
