/- Compute: impl.Compute. -/
import Derived.Test.YtkblcoiiloiohaaOps
import Derived.Test.YtkblcoiiloiohaaOpRows
namespace Go.Proofs.Ytkblcoiiloiohaa
open Go.ChangeShapes Go.WideShapes Go.ChangeAt Go.RowKit
set_option linter.unusedVariables false

/-- May an instruction of this form work on values of type t? -/
def takes (f t : Int) : Bool := if f == 5 then (t == 2 || t == 3) else if f == 6 then (t == 1 || t == 3) else if f == 7 then isT t else true

theorem formTakes_any (f t : Int) (w : World) : Calls Try.prog 12 #[.int .i64 f, .int .i64 t] w fun e w' => e = .returned (.bool (takes f t)) ∧ w' = w := by
  cases h5 : (f == 5)
  · cases h6 : (f == 6)
    · cases h7 : (f == 7)
      · have hr : takes f t = true := by simp only [takes, h5, h6, h7]; rfl
        rw [hr]
        go_enter Try.func12, Try.ntmps12
        go_wp2
        go_ret
        exact ⟨rfl, rfl⟩
      · have hr : takes f t = isT t := by simp only [takes, h5, h6, h7]; rfl
        rw [hr]
        go_enter Try.func12, Try.ntmps12
        go_wp2_with (go_at_call 13; refine (isType_any _ _).mono ?_; rintro e w' ⟨rfl, rfl⟩)
        go_ret
        exact ⟨rfl, rfl⟩
    · have hr : takes f t = (t == 1 || t == 3) := by simp only [takes, h5, h6]; rfl
      rw [hr]
      cases h1 : (t == 1)
      · go_enter Try.func12, Try.ntmps12
        go_wp2
        go_ret
        exact ⟨rfl, rfl⟩
      · go_enter Try.func12, Try.ntmps12
        go_wp2
        go_ret
        exact ⟨rfl, rfl⟩
  · have hr : takes f t = (t == 2 || t == 3) := by simp only [takes, h5]; rfl
    rw [hr]
    cases h1 : (t == 2)
    · go_enter Try.func12, Try.ntmps12
      go_wp2
      go_ret
      exact ⟨rfl, rfl⟩
    · go_enter Try.func12, Try.ntmps12
      go_wp2
      go_ret
      exact ⟨rfl, rfl⟩

theorem eql_func (n : Nat) (w : World) : (binOp .eql 37 (.func (.func n) #[] #[]) .nilFunc).run Try.prog w = .ok (.bool false) w := by kernel_rfl
theorem eql_nil (w : World) : (binOp .eql 37 .nilFunc .nilFunc).run Try.prog w = .ok (.bool true) w := by kernel_rfl

theorem Compute_nil (op c f : Int) (s : ByteArray) (hrow : ∀ w, Calls Try.prog 11 #[.int .i64 op] w fun e w' => e = .returned (.agg #[.string s, .int .i64 c, .int .i64 f, .nilFunc]) ∧ Below w.heap.size w w')
    (t x y : Int) (w : World) : Calls Try.prog 5 #[.int .i64 op, .int .i64 t, .int .u32 x, .int .u32 y] w fun e w' => e = .returned (.int .u32 0) ∧ Below w.heap.size w w' := by
  have hz := zero_row
  have he := eql_nil
  have H : Hid (∀ w, Calls Try.prog 11 #[.int .i64 op] w fun e w' => e = .returned (.agg #[.string s, .int .i64 c, .int .i64 f, .nilFunc]) ∧ Below w.heap.size w w') := hrow
  clear hrow
  go_enter Try.func5, Try.ntmps5
  go_wp2_with (go_at_call 11; refine (H.out _).mono ?_; rintro e w1 ⟨rfl, hb⟩)
  go_ret
  exact ⟨rfl, hb.alloc hb.size _⟩

theorem row_8 (w : World) : Calls Try.prog 11 #[.int .i64 8] w fun e w' => e = .returned (.agg #[.string ⟨#[97, 100, 100]⟩, .int .i64 1, .int .i64 5, .func (.func 16) #[] #[]]) ∧ Below w.heap.size w w' :=
  rowOf_in 8 (by omega) w
theorem Compute_8 (t x y : Int) (w : World) : Calls Try.prog 5 #[.int .i64 8, .int .i64 t, .int .u32 x, .int .u32 y] w fun e w' => e = .returned (.int .u32 (if takes 5 t then fAdd t x y else 0)) ∧ Below w.heap.size w w' := by
  have hz := zero_row
  have he := eql_func 16
  cases ht : takes 5 t
  · go_enter Try.func5, Try.ntmps5
    go_wp2_with (first
      | (go_at_call 11; refine (row_8 _).mono ?_; rintro e w1 ⟨rfl, hb⟩)
      | (go_at_call 12; refine (formTakes_any _ _ _).mono ?_; rintro e w' ⟨rfl, rfl⟩))
    go_ret
    exact ⟨rfl, hb.alloc hb.size _⟩
  · go_enter Try.func5, Try.ntmps5
    go_wp2_with (first
      | (go_at_call 11; refine (row_8 _).mono ?_; rintro e w1 ⟨rfl, hb⟩)
      | (go_at_call 12; refine (formTakes_any _ _ _).mono ?_; rintro e w' ⟨rfl, rfl⟩)
      | (go_at_call 16; refine (op_add _ _ _ _).mono ?_; rintro e w' ⟨rfl, rfl⟩))
    go_ret
    exact ⟨rfl, hb.alloc hb.size _⟩
theorem row_9 (w : World) : Calls Try.prog 11 #[.int .i64 9] w fun e w' => e = .returned (.agg #[.string ⟨#[115, 117, 98]⟩, .int .i64 1, .int .i64 5, .func (.func 17) #[] #[]]) ∧ Below w.heap.size w w' :=
  rowOf_in 9 (by omega) w
theorem Compute_9 (t x y : Int) (w : World) : Calls Try.prog 5 #[.int .i64 9, .int .i64 t, .int .u32 x, .int .u32 y] w fun e w' => e = .returned (.int .u32 (if takes 5 t then fSub t x y else 0)) ∧ Below w.heap.size w w' := by
  have hz := zero_row
  have he := eql_func 17
  cases ht : takes 5 t
  · go_enter Try.func5, Try.ntmps5
    go_wp2_with (first
      | (go_at_call 11; refine (row_9 _).mono ?_; rintro e w1 ⟨rfl, hb⟩)
      | (go_at_call 12; refine (formTakes_any _ _ _).mono ?_; rintro e w' ⟨rfl, rfl⟩))
    go_ret
    exact ⟨rfl, hb.alloc hb.size _⟩
  · go_enter Try.func5, Try.ntmps5
    go_wp2_with (first
      | (go_at_call 11; refine (row_9 _).mono ?_; rintro e w1 ⟨rfl, hb⟩)
      | (go_at_call 12; refine (formTakes_any _ _ _).mono ?_; rintro e w' ⟨rfl, rfl⟩)
      | (go_at_call 17; refine (op_subtract _ _ _ _).mono ?_; rintro e w' ⟨rfl, rfl⟩))
    go_ret
    exact ⟨rfl, hb.alloc hb.size _⟩
theorem row_10 (w : World) : Calls Try.prog 11 #[.int .i64 10] w fun e w' => e = .returned (.agg #[.string ⟨#[109, 117, 108]⟩, .int .i64 3, .int .i64 5, .func (.func 18) #[] #[]]) ∧ Below w.heap.size w w' :=
  rowOf_in 10 (by omega) w
theorem Compute_10 (t x y : Int) (w : World) : Calls Try.prog 5 #[.int .i64 10, .int .i64 t, .int .u32 x, .int .u32 y] w fun e w' => e = .returned (.int .u32 (if takes 5 t then fMul t x y else 0)) ∧ Below w.heap.size w w' := by
  have hz := zero_row
  have he := eql_func 18
  cases ht : takes 5 t
  · go_enter Try.func5, Try.ntmps5
    go_wp2_with (first
      | (go_at_call 11; refine (row_10 _).mono ?_; rintro e w1 ⟨rfl, hb⟩)
      | (go_at_call 12; refine (formTakes_any _ _ _).mono ?_; rintro e w' ⟨rfl, rfl⟩))
    go_ret
    exact ⟨rfl, hb.alloc hb.size _⟩
  · go_enter Try.func5, Try.ntmps5
    go_wp2_with (first
      | (go_at_call 11; refine (row_10 _).mono ?_; rintro e w1 ⟨rfl, hb⟩)
      | (go_at_call 12; refine (formTakes_any _ _ _).mono ?_; rintro e w' ⟨rfl, rfl⟩)
      | (go_at_call 18; refine (op_multiply _ _ _ _).mono ?_; rintro e w' ⟨rfl, rfl⟩))
    go_ret
    exact ⟨rfl, hb.alloc hb.size _⟩
theorem row_11 (w : World) : Calls Try.prog 11 #[.int .i64 11] w fun e w' => e = .returned (.agg #[.string ⟨#[100, 105, 118]⟩, .int .i64 8, .int .i64 5, .func (.func 19) #[] #[]]) ∧ Below w.heap.size w w' :=
  rowOf_in 11 (by omega) w
theorem Compute_11 (t x y : Int) (w : World) : Calls Try.prog 5 #[.int .i64 11, .int .i64 t, .int .u32 x, .int .u32 y] w fun e w' => e = .returned (.int .u32 (if takes 5 t then fDiv t x y else 0)) ∧ Below w.heap.size w w' := by
  have hz := zero_row
  have he := eql_func 19
  cases ht : takes 5 t
  · go_enter Try.func5, Try.ntmps5
    go_wp2_with (first
      | (go_at_call 11; refine (row_11 _).mono ?_; rintro e w1 ⟨rfl, hb⟩)
      | (go_at_call 12; refine (formTakes_any _ _ _).mono ?_; rintro e w' ⟨rfl, rfl⟩))
    go_ret
    exact ⟨rfl, hb.alloc hb.size _⟩
  · go_enter Try.func5, Try.ntmps5
    go_wp2_with (first
      | (go_at_call 11; refine (row_11 _).mono ?_; rintro e w1 ⟨rfl, hb⟩)
      | (go_at_call 12; refine (formTakes_any _ _ _).mono ?_; rintro e w' ⟨rfl, rfl⟩)
      | (go_at_call 19; refine (op_divide _ _ _ _).mono ?_; rintro e w' ⟨rfl, rfl⟩))
    go_ret
    exact ⟨rfl, hb.alloc hb.size _⟩
theorem row_12 (w : World) : Calls Try.prog 11 #[.int .i64 12] w fun e w' => e = .returned (.agg #[.string ⟨#[109, 111, 100]⟩, .int .i64 8, .int .i64 5, .func (.func 20) #[] #[]]) ∧ Below w.heap.size w w' :=
  rowOf_in 12 (by omega) w
theorem Compute_12 (t x y : Int) (w : World) : Calls Try.prog 5 #[.int .i64 12, .int .i64 t, .int .u32 x, .int .u32 y] w fun e w' => e = .returned (.int .u32 (if takes 5 t then fMod t x y else 0)) ∧ Below w.heap.size w w' := by
  have hz := zero_row
  have he := eql_func 20
  cases ht : takes 5 t
  · go_enter Try.func5, Try.ntmps5
    go_wp2_with (first
      | (go_at_call 11; refine (row_12 _).mono ?_; rintro e w1 ⟨rfl, hb⟩)
      | (go_at_call 12; refine (formTakes_any _ _ _).mono ?_; rintro e w' ⟨rfl, rfl⟩))
    go_ret
    exact ⟨rfl, hb.alloc hb.size _⟩
  · go_enter Try.func5, Try.ntmps5
    go_wp2_with (first
      | (go_at_call 11; refine (row_12 _).mono ?_; rintro e w1 ⟨rfl, hb⟩)
      | (go_at_call 12; refine (formTakes_any _ _ _).mono ?_; rintro e w' ⟨rfl, rfl⟩)
      | (go_at_call 20; refine (op_modulo _ _ _ _).mono ?_; rintro e w' ⟨rfl, rfl⟩))
    go_ret
    exact ⟨rfl, hb.alloc hb.size _⟩
theorem row_13 (w : World) : Calls Try.prog 11 #[.int .i64 13] w fun e w' => e = .returned (.agg #[.string ⟨#[97, 110, 100]⟩, .int .i64 1, .int .i64 6, .func (.func 21) #[] #[]]) ∧ Below w.heap.size w w' :=
  rowOf_in 13 (by omega) w
theorem Compute_13 (t x y : Int) (w : World) : Calls Try.prog 5 #[.int .i64 13, .int .i64 t, .int .u32 x, .int .u32 y] w fun e w' => e = .returned (.int .u32 (if takes 6 t then fAnd t x y else 0)) ∧ Below w.heap.size w w' := by
  have hz := zero_row
  have he := eql_func 21
  cases ht : takes 6 t
  · go_enter Try.func5, Try.ntmps5
    go_wp2_with (first
      | (go_at_call 11; refine (row_13 _).mono ?_; rintro e w1 ⟨rfl, hb⟩)
      | (go_at_call 12; refine (formTakes_any _ _ _).mono ?_; rintro e w' ⟨rfl, rfl⟩))
    go_ret
    exact ⟨rfl, hb.alloc hb.size _⟩
  · go_enter Try.func5, Try.ntmps5
    go_wp2_with (first
      | (go_at_call 11; refine (row_13 _).mono ?_; rintro e w1 ⟨rfl, hb⟩)
      | (go_at_call 12; refine (formTakes_any _ _ _).mono ?_; rintro e w' ⟨rfl, rfl⟩)
      | (go_at_call 21; refine (op_bitAnd _ _ _ _).mono ?_; rintro e w' ⟨rfl, rfl⟩))
    go_ret
    exact ⟨rfl, hb.alloc hb.size _⟩
theorem row_14 (w : World) : Calls Try.prog 11 #[.int .i64 14] w fun e w' => e = .returned (.agg #[.string ⟨#[111, 114]⟩, .int .i64 1, .int .i64 6, .func (.func 22) #[] #[]]) ∧ Below w.heap.size w w' :=
  rowOf_in 14 (by omega) w
theorem Compute_14 (t x y : Int) (w : World) : Calls Try.prog 5 #[.int .i64 14, .int .i64 t, .int .u32 x, .int .u32 y] w fun e w' => e = .returned (.int .u32 (if takes 6 t then fOr t x y else 0)) ∧ Below w.heap.size w w' := by
  have hz := zero_row
  have he := eql_func 22
  cases ht : takes 6 t
  · go_enter Try.func5, Try.ntmps5
    go_wp2_with (first
      | (go_at_call 11; refine (row_14 _).mono ?_; rintro e w1 ⟨rfl, hb⟩)
      | (go_at_call 12; refine (formTakes_any _ _ _).mono ?_; rintro e w' ⟨rfl, rfl⟩))
    go_ret
    exact ⟨rfl, hb.alloc hb.size _⟩
  · go_enter Try.func5, Try.ntmps5
    go_wp2_with (first
      | (go_at_call 11; refine (row_14 _).mono ?_; rintro e w1 ⟨rfl, hb⟩)
      | (go_at_call 12; refine (formTakes_any _ _ _).mono ?_; rintro e w' ⟨rfl, rfl⟩)
      | (go_at_call 22; refine (op_bitOr _ _ _ _).mono ?_; rintro e w' ⟨rfl, rfl⟩))
    go_ret
    exact ⟨rfl, hb.alloc hb.size _⟩
theorem row_15 (w : World) : Calls Try.prog 11 #[.int .i64 15] w fun e w' => e = .returned (.agg #[.string ⟨#[120, 111, 114]⟩, .int .i64 1, .int .i64 6, .func (.func 23) #[] #[]]) ∧ Below w.heap.size w w' :=
  rowOf_in 15 (by omega) w
theorem Compute_15 (t x y : Int) (w : World) : Calls Try.prog 5 #[.int .i64 15, .int .i64 t, .int .u32 x, .int .u32 y] w fun e w' => e = .returned (.int .u32 (if takes 6 t then fXor t x y else 0)) ∧ Below w.heap.size w w' := by
  have hz := zero_row
  have he := eql_func 23
  cases ht : takes 6 t
  · go_enter Try.func5, Try.ntmps5
    go_wp2_with (first
      | (go_at_call 11; refine (row_15 _).mono ?_; rintro e w1 ⟨rfl, hb⟩)
      | (go_at_call 12; refine (formTakes_any _ _ _).mono ?_; rintro e w' ⟨rfl, rfl⟩))
    go_ret
    exact ⟨rfl, hb.alloc hb.size _⟩
  · go_enter Try.func5, Try.ntmps5
    go_wp2_with (first
      | (go_at_call 11; refine (row_15 _).mono ?_; rintro e w1 ⟨rfl, hb⟩)
      | (go_at_call 12; refine (formTakes_any _ _ _).mono ?_; rintro e w' ⟨rfl, rfl⟩)
      | (go_at_call 23; refine (op_bitXor _ _ _ _).mono ?_; rintro e w' ⟨rfl, rfl⟩))
    go_ret
    exact ⟨rfl, hb.alloc hb.size _⟩
theorem row_16 (w : World) : Calls Try.prog 11 #[.int .i64 16] w fun e w' => e = .returned (.agg #[.string ⟨#[110, 111, 116]⟩, .int .i64 1, .int .i64 6, .func (.func 24) #[] #[]]) ∧ Below w.heap.size w w' :=
  rowOf_in 16 (by omega) w
theorem Compute_16 (t x y : Int) (w : World) : Calls Try.prog 5 #[.int .i64 16, .int .i64 t, .int .u32 x, .int .u32 y] w fun e w' => e = .returned (.int .u32 (if takes 6 t then fNot t x y else 0)) ∧ Below w.heap.size w w' := by
  have hz := zero_row
  have he := eql_func 24
  cases ht : takes 6 t
  · go_enter Try.func5, Try.ntmps5
    go_wp2_with (first
      | (go_at_call 11; refine (row_16 _).mono ?_; rintro e w1 ⟨rfl, hb⟩)
      | (go_at_call 12; refine (formTakes_any _ _ _).mono ?_; rintro e w' ⟨rfl, rfl⟩))
    go_ret
    exact ⟨rfl, hb.alloc hb.size _⟩
  · go_enter Try.func5, Try.ntmps5
    go_wp2_with (first
      | (go_at_call 11; refine (row_16 _).mono ?_; rintro e w1 ⟨rfl, hb⟩)
      | (go_at_call 12; refine (formTakes_any _ _ _).mono ?_; rintro e w' ⟨rfl, rfl⟩)
      | (go_at_call 24; refine (op_not _ _ _ _).mono ?_; rintro e w' ⟨rfl, rfl⟩))
    go_ret
    exact ⟨rfl, hb.alloc hb.size _⟩
theorem row_20 (w : World) : Calls Try.prog 11 #[.int .i64 20] w fun e w' => e = .returned (.agg #[.string ⟨#[101, 113]⟩, .int .i64 1, .int .i64 7, .func (.func 28) #[] #[]]) ∧ Below w.heap.size w w' :=
  rowOf_in 20 (by omega) w
theorem Compute_20 (t x y : Int) (w : World) : Calls Try.prog 5 #[.int .i64 20, .int .i64 t, .int .u32 x, .int .u32 y] w fun e w' => e = .returned (.int .u32 (if takes 7 t then fEq t x y else 0)) ∧ Below w.heap.size w w' := by
  have hz := zero_row
  have he := eql_func 28
  cases ht : takes 7 t
  · go_enter Try.func5, Try.ntmps5
    go_wp2_with (first
      | (go_at_call 11; refine (row_20 _).mono ?_; rintro e w1 ⟨rfl, hb⟩)
      | (go_at_call 12; refine (formTakes_any _ _ _).mono ?_; rintro e w' ⟨rfl, rfl⟩))
    go_ret
    exact ⟨rfl, hb.alloc hb.size _⟩
  · go_enter Try.func5, Try.ntmps5
    go_wp2_with (first
      | (go_at_call 11; refine (row_20 _).mono ?_; rintro e w1 ⟨rfl, hb⟩)
      | (go_at_call 12; refine (formTakes_any _ _ _).mono ?_; rintro e w' ⟨rfl, rfl⟩)
      | (go_at_call 28; refine (op_equal _ _ _ _).mono ?_; rintro e w' ⟨rfl, rfl⟩))
    go_ret
    exact ⟨rfl, hb.alloc hb.size _⟩
theorem row_21 (w : World) : Calls Try.prog 11 #[.int .i64 21] w fun e w' => e = .returned (.agg #[.string ⟨#[108, 101, 115, 115]⟩, .int .i64 1, .int .i64 5, .func (.func 29) #[] #[]]) ∧ Below w.heap.size w w' :=
  rowOf_in 21 (by omega) w
theorem Compute_21 (t x y : Int) (w : World) : Calls Try.prog 5 #[.int .i64 21, .int .i64 t, .int .u32 x, .int .u32 y] w fun e w' => e = .returned (.int .u32 (if takes 5 t then fLess t x y else 0)) ∧ Below w.heap.size w w' := by
  have hz := zero_row
  have he := eql_func 29
  cases ht : takes 5 t
  · go_enter Try.func5, Try.ntmps5
    go_wp2_with (first
      | (go_at_call 11; refine (row_21 _).mono ?_; rintro e w1 ⟨rfl, hb⟩)
      | (go_at_call 12; refine (formTakes_any _ _ _).mono ?_; rintro e w' ⟨rfl, rfl⟩))
    go_ret
    exact ⟨rfl, hb.alloc hb.size _⟩
  · go_enter Try.func5, Try.ntmps5
    go_wp2_with (first
      | (go_at_call 11; refine (row_21 _).mono ?_; rintro e w1 ⟨rfl, hb⟩)
      | (go_at_call 12; refine (formTakes_any _ _ _).mono ?_; rintro e w' ⟨rfl, rfl⟩)
      | (go_at_call 29; refine (op_less _ _ _ _).mono ?_; rintro e w' ⟨rfl, rfl⟩))
    go_ret
    exact ⟨rfl, hb.alloc hb.size _⟩
theorem row_17 (w : World) : Calls Try.prog 11 #[.int .i64 17] w fun e w' => e = .returned (.agg #[.string ⟨#[115, 104, 108]⟩, .int .i64 1, .int .i64 0, .func (.func 25) #[] #[]]) ∧ Below w.heap.size w w' :=
  rowOf_in 17 (by omega) w
theorem Compute_17 (t x y : Int) (w : World) : Calls Try.prog 5 #[.int .i64 17, .int .i64 t, .int .u32 x, .int .u32 y] w fun e w' => e = .returned (.int .u32 (if takes 0 t then fShl t x y else 0)) ∧ Below w.heap.size w w' := by
  have hz := zero_row
  have he := eql_func 25
  have ht : takes 0 t = true := rfl
  · go_enter Try.func5, Try.ntmps5
    go_wp2_with (first
      | (go_at_call 11; refine (row_17 _).mono ?_; rintro e w1 ⟨rfl, hb⟩)
      | (go_at_call 12; refine (formTakes_any _ _ _).mono ?_; rintro e w' ⟨rfl, rfl⟩)
      | (go_at_call 25; refine (op_shiftLeft _ _ _ _).mono ?_; rintro e w' ⟨rfl, rfl⟩))
    go_ret
    exact ⟨rfl, hb.alloc hb.size _⟩
theorem row_18 (w : World) : Calls Try.prog 11 #[.int .i64 18] w fun e w' => e = .returned (.agg #[.string ⟨#[115, 104, 114]⟩, .int .i64 1, .int .i64 0, .func (.func 26) #[] #[]]) ∧ Below w.heap.size w w' :=
  rowOf_in 18 (by omega) w
theorem Compute_18 (t x y : Int) (w : World) : Calls Try.prog 5 #[.int .i64 18, .int .i64 t, .int .u32 x, .int .u32 y] w fun e w' => e = .returned (.int .u32 (if takes 0 t then fShr t x y else 0)) ∧ Below w.heap.size w w' := by
  have hz := zero_row
  have he := eql_func 26
  have ht : takes 0 t = true := rfl
  · go_enter Try.func5, Try.ntmps5
    go_wp2_with (first
      | (go_at_call 11; refine (row_18 _).mono ?_; rintro e w1 ⟨rfl, hb⟩)
      | (go_at_call 12; refine (formTakes_any _ _ _).mono ?_; rintro e w' ⟨rfl, rfl⟩)
      | (go_at_call 26; refine (op_shiftRight _ _ _ _).mono ?_; rintro e w' ⟨rfl, rfl⟩))
    go_ret
    exact ⟨rfl, hb.alloc hb.size _⟩
theorem row_19 (w : World) : Calls Try.prog 11 #[.int .i64 19] w fun e w' => e = .returned (.agg #[.string ⟨#[110, 101, 103]⟩, .int .i64 1, .int .i64 0, .func (.func 27) #[] #[]]) ∧ Below w.heap.size w w' :=
  rowOf_in 19 (by omega) w
theorem Compute_19 (t x y : Int) (w : World) : Calls Try.prog 5 #[.int .i64 19, .int .i64 t, .int .u32 x, .int .u32 y] w fun e w' => e = .returned (.int .u32 (if takes 0 t then fNeg t x y else 0)) ∧ Below w.heap.size w w' := by
  have hz := zero_row
  have he := eql_func 27
  have ht : takes 0 t = true := rfl
  · go_enter Try.func5, Try.ntmps5
    go_wp2_with (first
      | (go_at_call 11; refine (row_19 _).mono ?_; rintro e w1 ⟨rfl, hb⟩)
      | (go_at_call 12; refine (formTakes_any _ _ _).mono ?_; rintro e w' ⟨rfl, rfl⟩)
      | (go_at_call 27; refine (op_negate _ _ _ _).mono ?_; rintro e w' ⟨rfl, rfl⟩))
    go_ret
    exact ⟨rfl, hb.alloc hb.size _⟩
end Go.Proofs.Ytkblcoiiloiohaa
