import Derived.Test.YtnemieeeappgnaaGreatDoorDc6
namespace Go.Proofs.YtnemieeeappgnaaGreatDoor
open Go.ChangeShapes Go.WideShapes Go.ChangeAt Go.RowKit
set_option linter.unusedVariables false
/-- It returns a bool, which is true just if q. -/
def SaysIff (e : Ending) (q : Prop) : Prop := ∃ b, e = .returned (.bool b) ∧ (b = true ↔ q)
theorem SaysIff.yes {q : Prop} (h : q) : SaysIff (.returned (.bool true)) q := ⟨_, rfl, by simp [h]⟩
theorem SaysIff.no {q : Prop} (h : ¬ q) : SaysIff (.returned (.bool false)) q := ⟨_, rfl, by simp [h]⟩
theorem SaysIff.of {q : Prop} {b : Bool} (h : b = true ↔ q) : SaysIff (.returned (.bool b)) q := ⟨_, rfl, h⟩
theorem SaysIff.iff {e : Ending} {q q' : Prop} (h : SaysIff e q) (hq : q ↔ q') : SaysIff e q' := by
  obtain ⟨b, rfl, hb⟩ := h
  exact ⟨b, rfl, hb.trans hq⟩
end Go.Proofs.YtnemieeeappgnaaGreatDoor
