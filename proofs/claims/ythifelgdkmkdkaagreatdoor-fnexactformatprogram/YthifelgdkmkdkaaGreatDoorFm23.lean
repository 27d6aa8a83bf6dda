import Derived.Test.YthifelgdkmkdkaaGreatDoorFm15
import Derived.Laws.StructEq
namespace Go.Proofs.YthifelgdkmkdkaaGreatDoor
open Go.ChangeShapes Go.WideShapes Go.ChangeAt Go.RowKit
set_option linter.unusedVariables false
theorem W32_range {z : Int} (h : W32 z) : 0 ≤ z ∧ z ≤ 4294967295 := by simpa [W32, Lit.wf, IntKind.min, IntKind.max, IntKind.signed, IntKind.bits] using h
theorem value_eql (a b a' b' : Int) (w : World) : (binOp .eql 124 (.agg #[.int .i64 a, .int .u32 b]) (.agg #[.int .i64 a', .int .u32 b'])).run Tryz.prog w = .ok (.bool (decide (a = a' ∧ b = b'))) w := by
  have u64 := Tryz.underlying2
  have a64 := Tryz.isAgg2
  have z64 := Tryz.sizeOf2
  have u32 := Tryz.underlying47
  have a32 := Tryz.isAgg47
  have z32 := Tryz.sizeOf47
  have hS : Tryz.prog.underlying 124 = some (.struct (Tryz.prog.fieldsOf 124)) := by kernel_rfl
  have hp : Tryz.prog.stoodInHeld 124 = false := by kernel_rfl
  rw [run_eql_struct, show (10000 : Nat) = 9999 + 1 from rfl, run_equalIn_agg w 9999 124 _ _ hS hp]
  simp only [Program.fieldsOf, Tryz.underlying124]
  go_simp
  by_cases h1 : a = a'
  · by_cases h2 : b = b' <;> simp [*]
  · simp [*]
set_option maxHeartbeats 1000000 in
set_option maxRecDepth 100000 in
theorem isValue_any (t x : Int) (w : World) (hx : 0 ≤ x) :
    Calls Tryz.prog 67 #[.agg #[.int .i64 t, .int .u32 x]] w fun e w' => SaysIff e (ConstOk ⟨t, x⟩) ∧ Below w.heap.size w w' := by
  by_cases h1 : t = 1
  · subst h1
    have e0 : ∀ w, (binOp .eql 124 (.agg #[.int .i64 1, .int .u32 x]) (.agg #[.int .i64 1, .int .u32 0])).run Tryz.prog w = .ok (.bool (decide (1 = (1 : Int) ∧ x = 0))) w := value_eql 1 x 1 0
    have e1 : ∀ w, (binOp .eql 124 (.agg #[.int .i64 1, .int .u32 x]) (.agg #[.int .i64 1, .int .u32 1])).run Tryz.prog w = .ok (.bool (decide (1 = (1 : Int) ∧ x = 1))) w := value_eql 1 x 1 1
    by_cases h2 : x = 0
    · have e2 : decide (1 = (1 : Int) ∧ x = 0) = true := by simp [h2]
      have HY : Hid (ConstOk ⟨1, x⟩) := ⟨rfl, fun _ => by simp only []; omega⟩
      rw [e2] at e0
      clear h2 e2 e1 hx
      go_enter Tryz.func67, Tryz.ntmps67
      go_wp2
      go_ret
      exact ⟨.yes HY.out, below_alloc _ _⟩
    · have e2 : decide (1 = (1 : Int) ∧ x = 0) = false := by simp [h2]
      rw [e2] at e0
      by_cases h3 : x = 1
      · have e3 : decide (1 = (1 : Int) ∧ x = 1) = true := by simp [h3]
        have HY : Hid (ConstOk ⟨1, x⟩) := ⟨rfl, fun _ => by simp only []; omega⟩
        rw [e3] at e1
        clear h2 e2 h3 e3 hx
        go_enter Tryz.func67, Tryz.ntmps67
        go_wp2
        go_ret
        exact ⟨.yes HY.out, below_alloc _ _⟩
      · have e3 : decide (1 = (1 : Int) ∧ x = 1) = false := by simp [h3]
        have HN : Hid (¬ ConstOk ⟨1, x⟩) := fun e => by have := e.2 rfl; simp only [] at this; omega
        rw [e3] at e1
        clear h2 e2 h3 e3 hx
        go_enter Tryz.func67, Tryz.ntmps67
        go_wp2
        go_ret
        exact ⟨.no HN.out, below_alloc _ _⟩
  · have h1' : (t == 1) = false := by simpa using h1
    have HI : Hid (isT t = true ↔ ConstOk ⟨t, x⟩) := ⟨fun e => ⟨e, fun e => absurd e h1⟩, fun e => e.1⟩
    go_enter Tryz.func67, Tryz.ntmps67
    go_wp2_with fail
    refine (isType_any t _).mono ?_
    rintro e u ⟨rfl, rfl⟩
    go_wp2
    go_ret
    exact ⟨.of HI.out, below_alloc _ _⟩
end Go.Proofs.YthifelgdkmkdkaaGreatDoor
