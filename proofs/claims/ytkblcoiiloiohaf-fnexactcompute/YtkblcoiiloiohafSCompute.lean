/- SCompute: spec.Compute. -/
import Derived.Test.YtkblcoiiloiohafSDiv
import Derived.Test.YtkblcoiiloiohafInfo
import Derived.Test.YtkblcoiiloiohafComputeAll
namespace Go.Proofs.Ytkblcoiiloiohaf
open Go.ChangeShapes Go.WideShapes Go.ChangeAt Go.RowKit
set_option linter.unusedVariables false
theorem field_form (s : ByteArray) (c f : Int) (w : World) : (Instr.field 23 (.agg #[.string s, .int .i64 c, .int .i64 f]) 2).run Try.prog w = .ok (.int .i64 f) w := by kernel_rfl
set_option maxHeartbeats 1000000 in
theorem SCompute_17 (t x y : Int) (w : World) : Calls Try.prog 15 #[.int .i64 17, .int .i64 t, .int .u32 x, .int .u32 y] w fun e w' => e = .returned (.int .u32 (fShl t x y)) ∧ Below w.heap.size w w' := by
  have h31 := and31 y
  go_enter Try.func15, Try.ntmps15
  go_wp2
  go_ret
  exact ⟨rfl, Below.refl _ _⟩
set_option maxHeartbeats 1000000 in
theorem SCompute_18 (t x y : Int) (w : World) : Calls Try.prog 15 #[.int .i64 18, .int .i64 t, .int .u32 x, .int .u32 y] w fun e w' => e = .returned (.int .u32 (fShr t x y)) ∧ Below w.heap.size w w' := by
  have h31 := and31 y
  go_enter Try.func15, Try.ntmps15
  go_wp2
  go_ret
  exact ⟨rfl, Below.refl _ _⟩
set_option maxHeartbeats 1000000 in
theorem SCompute_19 (t x y : Int) (w : World) : Calls Try.prog 15 #[.int .i64 19, .int .i64 t, .int .u32 x, .int .u32 y] w fun e w' => e = .returned (.int .u32 (fNeg t x y)) ∧ Below w.heap.size w w' := by
  have h31 := and31 y
  go_enter Try.func15, Try.ntmps15
  go_wp2
  go_ret
  exact ⟨rfl, Below.refl _ _⟩
set_option maxHeartbeats 1000000 in
theorem SCompute_no (op t x y : Int) (w : World) (s : ByteArray) (c f : Int) (hi : infoOf op = #[.string s, .int .i64 c, .int .i64 f]) (h1 : (op == 17) = false) (h2 : (op == 18) = false) (h3 : (op == 19) = false) (ht : stakes f t = false) :
    Calls Try.prog 15 #[.int .i64 op, .int .i64 t, .int .u32 x, .int .u32 y] w fun e w' => e = .returned (.int .u32 0) ∧ Below w.heap.size w w' := by
  have hfl := field_form
  have hS : Hid (∀ w, Calls Try.prog 8 #[.int .i64 op] w fun e w' => e = .returned (.agg #[.string s, .int .i64 c, .int .i64 f]) ∧ Below w.heap.size w w') := fun w => by rw [← hi]; exact SInfo_any op w
  clear hi
  go_enter Try.func15, Try.ntmps15
  go_wp2_with (first
    | (go_at_call 8; refine (hS.out _).mono ?_; rintro e w1 ⟨rfl, hb1⟩)
    | (go_at_call 23; refine (l2Takes_any _ _ _).mono ?_; rintro e w' ⟨rfl, rfl⟩))
  go_ret
  exact ⟨rfl, hb1⟩
set_option maxHeartbeats 1000000 in
theorem SCompute_8 (t x y : Int) (w : World) (ht : stakes 5 t = true) : Calls Try.prog 15 #[.int .i64 8, .int .i64 t, .int .u32 x, .int .u32 y] w fun e w' => e = .returned (.int .u32 (fAdd t x y)) ∧ Below w.heap.size w w' := by
  have hi : infoOf 8 = #[.string ⟨#[97, 100, 100]⟩, .int .i64 1, .int .i64 5] := by kernel_rfl
  have hfl := field_form
  have hS : Hid (∀ w, Calls Try.prog 8 #[.int .i64 8] w fun e w' => e = .returned (.agg #[.string ⟨#[97, 100, 100]⟩, .int .i64 1, .int .i64 5]) ∧ Below w.heap.size w w') := fun w => by rw [← hi]; exact SInfo_any 8 w
  clear hi
  go_enter Try.func15, Try.ntmps15
  go_wp2_with (first
    | (go_at_call 8; refine (hS.out _).mono ?_; rintro e w1 ⟨rfl, hb1⟩)
    | (go_at_call 23; refine (l2Takes_any _ _ _).mono ?_; rintro e w' ⟨rfl, rfl⟩)
    | (go_at_call 25; refine (l2Truth_any _ _).mono ?_; rintro e w' ⟨rfl, rfl⟩))
  go_ret
  exact ⟨rfl, hb1⟩
set_option maxHeartbeats 1000000 in
theorem SCompute_9 (t x y : Int) (w : World) (ht : stakes 5 t = true) : Calls Try.prog 15 #[.int .i64 9, .int .i64 t, .int .u32 x, .int .u32 y] w fun e w' => e = .returned (.int .u32 (fSub t x y)) ∧ Below w.heap.size w w' := by
  have hi : infoOf 9 = #[.string ⟨#[115, 117, 98]⟩, .int .i64 1, .int .i64 5] := by kernel_rfl
  have hfl := field_form
  have hS : Hid (∀ w, Calls Try.prog 8 #[.int .i64 9] w fun e w' => e = .returned (.agg #[.string ⟨#[115, 117, 98]⟩, .int .i64 1, .int .i64 5]) ∧ Below w.heap.size w w') := fun w => by rw [← hi]; exact SInfo_any 9 w
  clear hi
  go_enter Try.func15, Try.ntmps15
  go_wp2_with (first
    | (go_at_call 8; refine (hS.out _).mono ?_; rintro e w1 ⟨rfl, hb1⟩)
    | (go_at_call 23; refine (l2Takes_any _ _ _).mono ?_; rintro e w' ⟨rfl, rfl⟩)
    | (go_at_call 25; refine (l2Truth_any _ _).mono ?_; rintro e w' ⟨rfl, rfl⟩))
  go_ret
  exact ⟨rfl, hb1⟩
set_option maxHeartbeats 1000000 in
theorem SCompute_10 (t x y : Int) (w : World) (ht : stakes 5 t = true) : Calls Try.prog 15 #[.int .i64 10, .int .i64 t, .int .u32 x, .int .u32 y] w fun e w' => e = .returned (.int .u32 (fMul t x y)) ∧ Below w.heap.size w w' := by
  have hi : infoOf 10 = #[.string ⟨#[109, 117, 108]⟩, .int .i64 3, .int .i64 5] := by kernel_rfl
  have hfl := field_form
  have hS : Hid (∀ w, Calls Try.prog 8 #[.int .i64 10] w fun e w' => e = .returned (.agg #[.string ⟨#[109, 117, 108]⟩, .int .i64 3, .int .i64 5]) ∧ Below w.heap.size w w') := fun w => by rw [← hi]; exact SInfo_any 10 w
  clear hi
  go_enter Try.func15, Try.ntmps15
  go_wp2_with (first
    | (go_at_call 8; refine (hS.out _).mono ?_; rintro e w1 ⟨rfl, hb1⟩)
    | (go_at_call 23; refine (l2Takes_any _ _ _).mono ?_; rintro e w' ⟨rfl, rfl⟩)
    | (go_at_call 25; refine (l2Truth_any _ _).mono ?_; rintro e w' ⟨rfl, rfl⟩))
  go_ret
  exact ⟨rfl, hb1⟩
set_option maxHeartbeats 1000000 in
theorem SCompute_13 (t x y : Int) (w : World) (ht : stakes 6 t = true) : Calls Try.prog 15 #[.int .i64 13, .int .i64 t, .int .u32 x, .int .u32 y] w fun e w' => e = .returned (.int .u32 (fAnd t x y)) ∧ Below w.heap.size w w' := by
  have hi : infoOf 13 = #[.string ⟨#[97, 110, 100]⟩, .int .i64 1, .int .i64 6] := by kernel_rfl
  have hfl := field_form
  have hS : Hid (∀ w, Calls Try.prog 8 #[.int .i64 13] w fun e w' => e = .returned (.agg #[.string ⟨#[97, 110, 100]⟩, .int .i64 1, .int .i64 6]) ∧ Below w.heap.size w w') := fun w => by rw [← hi]; exact SInfo_any 13 w
  clear hi
  go_enter Try.func15, Try.ntmps15
  go_wp2_with (first
    | (go_at_call 8; refine (hS.out _).mono ?_; rintro e w1 ⟨rfl, hb1⟩)
    | (go_at_call 23; refine (l2Takes_any _ _ _).mono ?_; rintro e w' ⟨rfl, rfl⟩)
    | (go_at_call 25; refine (l2Truth_any _ _).mono ?_; rintro e w' ⟨rfl, rfl⟩))
  go_ret
  exact ⟨rfl, hb1⟩
set_option maxHeartbeats 1000000 in
theorem SCompute_14 (t x y : Int) (w : World) (ht : stakes 6 t = true) : Calls Try.prog 15 #[.int .i64 14, .int .i64 t, .int .u32 x, .int .u32 y] w fun e w' => e = .returned (.int .u32 (fOr t x y)) ∧ Below w.heap.size w w' := by
  have hi : infoOf 14 = #[.string ⟨#[111, 114]⟩, .int .i64 1, .int .i64 6] := by kernel_rfl
  have hfl := field_form
  have hS : Hid (∀ w, Calls Try.prog 8 #[.int .i64 14] w fun e w' => e = .returned (.agg #[.string ⟨#[111, 114]⟩, .int .i64 1, .int .i64 6]) ∧ Below w.heap.size w w') := fun w => by rw [← hi]; exact SInfo_any 14 w
  clear hi
  go_enter Try.func15, Try.ntmps15
  go_wp2_with (first
    | (go_at_call 8; refine (hS.out _).mono ?_; rintro e w1 ⟨rfl, hb1⟩)
    | (go_at_call 23; refine (l2Takes_any _ _ _).mono ?_; rintro e w' ⟨rfl, rfl⟩)
    | (go_at_call 25; refine (l2Truth_any _ _).mono ?_; rintro e w' ⟨rfl, rfl⟩))
  go_ret
  exact ⟨rfl, hb1⟩
set_option maxHeartbeats 1000000 in
theorem SCompute_15 (t x y : Int) (w : World) (ht : stakes 6 t = true) : Calls Try.prog 15 #[.int .i64 15, .int .i64 t, .int .u32 x, .int .u32 y] w fun e w' => e = .returned (.int .u32 (fXor t x y)) ∧ Below w.heap.size w w' := by
  have hi : infoOf 15 = #[.string ⟨#[120, 111, 114]⟩, .int .i64 1, .int .i64 6] := by kernel_rfl
  have hfl := field_form
  have hS : Hid (∀ w, Calls Try.prog 8 #[.int .i64 15] w fun e w' => e = .returned (.agg #[.string ⟨#[120, 111, 114]⟩, .int .i64 1, .int .i64 6]) ∧ Below w.heap.size w w') := fun w => by rw [← hi]; exact SInfo_any 15 w
  clear hi
  go_enter Try.func15, Try.ntmps15
  go_wp2_with (first
    | (go_at_call 8; refine (hS.out _).mono ?_; rintro e w1 ⟨rfl, hb1⟩)
    | (go_at_call 23; refine (l2Takes_any _ _ _).mono ?_; rintro e w' ⟨rfl, rfl⟩)
    | (go_at_call 25; refine (l2Truth_any _ _).mono ?_; rintro e w' ⟨rfl, rfl⟩))
  go_ret
  exact ⟨rfl, hb1⟩
set_option maxHeartbeats 1000000 in
theorem SCompute_20 (t x y : Int) (w : World) (ht : stakes 7 t = true) : Calls Try.prog 15 #[.int .i64 20, .int .i64 t, .int .u32 x, .int .u32 y] w fun e w' => e = .returned (.int .u32 (fEq t x y)) ∧ Below w.heap.size w w' := by
  have hi : infoOf 20 = #[.string ⟨#[101, 113]⟩, .int .i64 1, .int .i64 7] := by kernel_rfl
  have hfl := field_form
  have hS : Hid (∀ w, Calls Try.prog 8 #[.int .i64 20] w fun e w' => e = .returned (.agg #[.string ⟨#[101, 113]⟩, .int .i64 1, .int .i64 7]) ∧ Below w.heap.size w w') := fun w => by rw [← hi]; exact SInfo_any 20 w
  clear hi
  go_enter Try.func15, Try.ntmps15
  go_wp2_with (first
    | (go_at_call 8; refine (hS.out _).mono ?_; rintro e w1 ⟨rfl, hb1⟩)
    | (go_at_call 23; refine (l2Takes_any _ _ _).mono ?_; rintro e w' ⟨rfl, rfl⟩)
    | (go_at_call 25; refine (l2Truth_any _ _).mono ?_; rintro e w' ⟨rfl, rfl⟩))
  go_ret
  exact ⟨rfl, hb1⟩
set_option maxHeartbeats 1000000 in
theorem SCompute_16 (t x y : Int) (w : World) (ht : stakes 6 t = true) : Calls Try.prog 15 #[.int .i64 16, .int .i64 t, .int .u32 x, .int .u32 y] w fun e w' => e = .returned (.int .u32 (fNot t x y)) ∧ Below w.heap.size w w' := by
  have hi : infoOf 16 = #[.string ⟨#[110, 111, 116]⟩, .int .i64 1, .int .i64 6] := by kernel_rfl
  have hfl := field_form
  have hS : Hid (∀ w, Calls Try.prog 8 #[.int .i64 16] w fun e w' => e = .returned (.agg #[.string ⟨#[110, 111, 116]⟩, .int .i64 1, .int .i64 6]) ∧ Below w.heap.size w w') := fun w => by rw [← hi]; exact SInfo_any 16 w
  clear hi
  cases h2 : (t == 1)
  · have hr : fNot t x y = _ := if_neg (by rw [h2]; simp)
    rw [hr]
    clear hr
    go_enter Try.func15, Try.ntmps15
    go_wp2_with (first
      | (go_at_call 8; refine (hS.out _).mono ?_; rintro e w1 ⟨rfl, hb1⟩)
      | (go_at_call 23; refine (l2Takes_any _ _ _).mono ?_; rintro e w' ⟨rfl, rfl⟩)
      | (go_at_call 25; refine (l2Truth_any _ _).mono ?_; rintro e w' ⟨rfl, rfl⟩))
    go_ret
    exact ⟨rfl, hb1⟩
  · have hr : fNot t x y = _ := if_pos h2
    rw [hr]
    clear hr
    go_enter Try.func15, Try.ntmps15
    go_wp2_with (first
      | (go_at_call 8; refine (hS.out _).mono ?_; rintro e w1 ⟨rfl, hb1⟩)
      | (go_at_call 23; refine (l2Takes_any _ _ _).mono ?_; rintro e w' ⟨rfl, rfl⟩)
      | (go_at_call 25; refine (l2Truth_any _ _).mono ?_; rintro e w' ⟨rfl, rfl⟩))
    go_ret
    exact ⟨rfl, hb1⟩
set_option maxHeartbeats 1000000 in
theorem SCompute_21 (t x y : Int) (w : World) (ht : stakes 5 t = true) : Calls Try.prog 15 #[.int .i64 21, .int .i64 t, .int .u32 x, .int .u32 y] w fun e w' => e = .returned (.int .u32 (fLess t x y)) ∧ Below w.heap.size w w' := by
  have hi : infoOf 21 = #[.string ⟨#[108, 101, 115, 115]⟩, .int .i64 1, .int .i64 5] := by kernel_rfl
  have hfl := field_form
  have hS : Hid (∀ w, Calls Try.prog 8 #[.int .i64 21] w fun e w' => e = .returned (.agg #[.string ⟨#[108, 101, 115, 115]⟩, .int .i64 1, .int .i64 5]) ∧ Below w.heap.size w w') := fun w => by rw [← hi]; exact SInfo_any 21 w
  clear hi
  cases h2 : (t == 2)
  · have hr : fLess t x y = _ := if_neg (by rw [h2]; simp)
    rw [hr]
    clear hr
    go_enter Try.func15, Try.ntmps15
    go_wp2_with (first
      | (go_at_call 8; refine (hS.out _).mono ?_; rintro e w1 ⟨rfl, hb1⟩)
      | (go_at_call 23; refine (l2Takes_any _ _ _).mono ?_; rintro e w' ⟨rfl, rfl⟩)
      | (go_at_call 25; refine (l2Truth_any _ _).mono ?_; rintro e w' ⟨rfl, rfl⟩))
    go_ret
    exact ⟨rfl, hb1⟩
  · have hr : fLess t x y = _ := if_pos h2
    rw [hr]
    clear hr
    go_enter Try.func15, Try.ntmps15
    go_wp2_with (first
      | (go_at_call 8; refine (hS.out _).mono ?_; rintro e w1 ⟨rfl, hb1⟩)
      | (go_at_call 23; refine (l2Takes_any _ _ _).mono ?_; rintro e w' ⟨rfl, rfl⟩)
      | (go_at_call 25; refine (l2Truth_any _ _).mono ?_; rintro e w' ⟨rfl, rfl⟩))
    go_ret
    exact ⟨rfl, hb1⟩
set_option maxHeartbeats 1000000 in
theorem SCompute_11 (t x y : Int) (w : World) (ht : stakes 5 t = true) (hy : 0 ≤ y) (hy' : y < 4294967296) : Calls Try.prog 15 #[.int .i64 11, .int .i64 t, .int .u32 x, .int .u32 y] w fun e w' => e = .returned (.int .u32 (fDiv t x y)) ∧ Below w.heap.size w w' := by
  have hi : infoOf 11 = #[.string ⟨#[100, 105, 118]⟩, .int .i64 8, .int .i64 5] := by kernel_rfl
  have hfl := field_form
  have hS : Hid (∀ w, Calls Try.prog 8 #[.int .i64 11] w fun e w' => e = .returned (.agg #[.string ⟨#[100, 105, 118]⟩, .int .i64 8, .int .i64 5]) ∧ Below w.heap.size w w') := fun w => by rw [← hi]; exact SInfo_any 11 w
  have hD : Hid (∀ w, Calls Try.prog 24 #[.int .i64 t, .int .u32 x, .int .u32 y] w fun e w' => e = .returned (.tuple #[.int .u32 (fDiv t x y), .int .u32 (fMod t x y)]) ∧ Below w.heap.size w w') := fun w => l2Div_any t x y w (by
    have : (t == 2 || t == 3) = true := ht
    simpa using this) hy hy'
  clear hi
  go_enter Try.func15, Try.ntmps15
  go_wp2_with (first
    | (go_at_call 8; refine (hS.out _).mono ?_; rintro e w1 ⟨rfl, hb1⟩)
    | (go_at_call 23; refine (l2Takes_any _ _ _).mono ?_; rintro e w' ⟨rfl, rfl⟩)
    | (go_at_call 24; refine (hD.out _).mono ?_; rintro e w2 ⟨rfl, hb2⟩))
  go_ret
  exact ⟨rfl, hb1.trans (hb2.mono hb1.size)⟩
set_option maxHeartbeats 1000000 in
theorem SCompute_12 (t x y : Int) (w : World) (ht : stakes 5 t = true) (hy : 0 ≤ y) (hy' : y < 4294967296) : Calls Try.prog 15 #[.int .i64 12, .int .i64 t, .int .u32 x, .int .u32 y] w fun e w' => e = .returned (.int .u32 (fMod t x y)) ∧ Below w.heap.size w w' := by
  have hi : infoOf 12 = #[.string ⟨#[109, 111, 100]⟩, .int .i64 8, .int .i64 5] := by kernel_rfl
  have hfl := field_form
  have hS : Hid (∀ w, Calls Try.prog 8 #[.int .i64 12] w fun e w' => e = .returned (.agg #[.string ⟨#[109, 111, 100]⟩, .int .i64 8, .int .i64 5]) ∧ Below w.heap.size w w') := fun w => by rw [← hi]; exact SInfo_any 12 w
  have hD : Hid (∀ w, Calls Try.prog 24 #[.int .i64 t, .int .u32 x, .int .u32 y] w fun e w' => e = .returned (.tuple #[.int .u32 (fDiv t x y), .int .u32 (fMod t x y)]) ∧ Below w.heap.size w w') := fun w => l2Div_any t x y w (by
    have : (t == 2 || t == 3) = true := ht
    simpa using this) hy hy'
  clear hi
  go_enter Try.func15, Try.ntmps15
  go_wp2_with (first
    | (go_at_call 8; refine (hS.out _).mono ?_; rintro e w1 ⟨rfl, hb1⟩)
    | (go_at_call 23; refine (l2Takes_any _ _ _).mono ?_; rintro e w' ⟨rfl, rfl⟩)
    | (go_at_call 24; refine (hD.out _).mono ?_; rintro e w2 ⟨rfl, hb2⟩))
  go_ret
  exact ⟨rfl, hb1.trans (hb2.mono hb1.size)⟩
end Go.Proofs.Ytkblcoiiloiohaf
