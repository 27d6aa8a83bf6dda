import Derived.Test.YthifelgdkmkdkaaGreatDoorFm46
namespace Go.Proofs.YthifelgdkmkdkaaGreatDoor
open Go.ChangeShapes Go.WideShapes Go.ChangeAt Go.RowKit
set_option linter.unusedVariables false
theorem own_capR {w : World} {base : Nat} {e : TypeId} {s : Value} {k n : Nat} {xs : List Value} (h : w.ownsRow base e k s n xs) : ∃ a c, s = .slice a n c ∧ n ≤ c := by
  rcases h.2 with ⟨rfl, rfl⟩ | ⟨g, cap, cur, rfl, _, _, hc, _⟩
  · exact ⟨_, _, rfl, Nat.le_refl _⟩
  · exact ⟨_, _, rfl, hc⟩
theorem own_placed {w : World} {base : Nat} {e : TypeId} {s : Value} {k n : Nat} {xs : List Value} (h : w.ownsRow base e k s n xs) : Placed s := by
  rcases h.2 with ⟨rfl, rfl⟩ | ⟨g, cap, cur, rfl, _⟩
  · exact .inl rfl
  · exact .inr ⟨_, _, _, rfl⟩
theorem OwnR.rdc {w : World} {base : Nat} {s : Value} {rs : List (List Int)} (h : OwnR w base s rs) : RdRc w s rs := by
  obtain ⟨xs, h1, h2, h3⟩ := h
  exact ⟨xs, h1, Rd.of_own h2, fun x hx => ⟨Rd.of_own (h3 x hx), own_capR (h3 x hx)⟩⟩
theorem OwnFs.rdp {w : World} {base : Nat} {s : Value} {fs : List MF} (h : OwnFs w base s fs) : RdFp w s fs := by
  obtain ⟨xs, h1, h2, h3⟩ := h
  exact ⟨xs, h1, Rd.of_own h2, fun x hx => ⟨(h3 x hx).rd, own_placed (h3 x hx).1, own_placed (h3 x hx).2.1⟩⟩
end Go.Proofs.YthifelgdkmkdkaaGreatDoor
