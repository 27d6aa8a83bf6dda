/- Same2: slices.Equal over instructions, constants, certificates. -/
import Derived.Test.YtlhliibonpdpiaaSame1
import Derived.Laws.StructEq
namespace Go.Proofs.Ytlhliibonpdpiaa
open Go.ChangeShapes Go.WideShapes Go.ChangeAt Go.RowKit
set_option linter.unusedVariables false
theorem MI.neq (x y : MI) (w : World) : ∃ b : Bool, (b = true ↔ ¬ x = y) ∧ (binOp .neq 68 (.agg x.cells.toArray) (.agg y.cells.toArray)).run Try.prog w = .ok (.bool b) w := by
  have u64 := Try.underlying2
  have a64 := Try.isAgg2
  have z64 := Try.sizeOf2
  have u32 := Try.underlying43
  have a32 := Try.isAgg43
  have z32 := Try.sizeOf43
  have hS : Try.prog.underlying 68 = some (.struct (Try.prog.fieldsOf 68)) := by kernel_rfl
  have hp : Try.prog.stoodInHeld 68 = false := by kernel_rfl
  rcases x with ⟨op, a, b, c⟩
  rcases y with ⟨op', a', b', c'⟩
  simp only [MI.cells]
  rw [run_neq_struct, show (10000 : Nat) = 9999 + 1 from rfl, run_equalIn_agg w 9999 68 _ _ hS hp]
  simp only [Program.fieldsOf, Try.underlying68]
  go_simp
  by_cases h1 : op = op'
  · by_cases h2 : a = a'
    · by_cases h3 : b = b'
      · by_cases h4 : c = c' <;> simp [*]
      · simp [*]
    · simp [*]
  · simp [*]
theorem MT.neq (x y : MT) (w : World) : ∃ b : Bool, (b = true ↔ ¬ x = y) ∧ (binOp .neq 51 (.agg x.cells.toArray) (.agg y.cells.toArray)).run Try.prog w = .ok (.bool b) w := by
  have u64 := Try.underlying2
  have a64 := Try.isAgg2
  have z64 := Try.sizeOf2
  have u32 := Try.underlying43
  have a32 := Try.isAgg43
  have z32 := Try.sizeOf43
  have hS : Try.prog.underlying 51 = some (.struct (Try.prog.fieldsOf 51)) := by kernel_rfl
  have hp : Try.prog.stoodInHeld 51 = false := by kernel_rfl
  rcases x with ⟨op, a, b, c⟩
  rcases y with ⟨op', a', b', c'⟩
  simp only [MT.cells]
  rw [run_neq_struct, show (10000 : Nat) = 9999 + 1 from rfl, run_equalIn_agg w 9999 51 _ _ hS hp]
  simp only [Program.fieldsOf, Try.underlying51]
  go_simp
  by_cases h1 : op = op'
  · by_cases h2 : a = a'
    · by_cases h3 : b = b'
      · by_cases h4 : c = c' <;> simp [*]
      · simp [*]
    · simp [*]
  · simp [*]
theorem MC.neq (x y : MC) (w : World) : ∃ b : Bool, (b = true ↔ ¬ x = y) ∧ (binOp .neq 45 (.agg x.cells.toArray) (.agg y.cells.toArray)).run Try.prog w = .ok (.bool b) w := by
  have u64 := Try.underlying2
  have a64 := Try.isAgg2
  have z64 := Try.sizeOf2
  have u32 := Try.underlying43
  have a32 := Try.isAgg43
  have z32 := Try.sizeOf43
  have hS : Try.prog.underlying 45 = some (.struct (Try.prog.fieldsOf 45)) := by kernel_rfl
  have hp : Try.prog.stoodInHeld 45 = false := by kernel_rfl
  rcases x with ⟨a, b⟩
  rcases y with ⟨a', b'⟩
  simp only [MC.cells]
  rw [run_neq_struct, show (10000 : Nat) = 9999 + 1 from rfl, run_equalIn_agg w 9999 45 _ _ hS hp]
  simp only [Program.fieldsOf, Try.underlying45]
  go_simp
  by_cases h1 : a = a'
  · by_cases h2 : b = b' <;> simp [*]
  · simp [*]
end Go.Proofs.Ytlhliibonpdpiaa
