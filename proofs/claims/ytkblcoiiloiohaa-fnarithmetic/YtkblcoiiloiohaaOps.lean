/- Ops: what the instructions compute: the functions of the table. -/
import Derived.Test.YtkblcoiiloiohaaTypes
import Derived.Outline
import Derived.WalkLawsBesides
namespace Go.Proofs.Ytkblcoiiloiohaa
open Go.ChangeShapes Go.WideShapes Go.ChangeAt Go.RowKit
set_option linter.unusedVariables false

theorem intDiv_quo {k : IntKind} {x y : Int} (h : (y == 0) = false) : Op.intDiv .quo k x y = pure (.int k (k.wrap (x.tdiv y))) := by
  have : y ≠ 0 := by simpa using h
  simp [Op.intDiv, this]
theorem intDiv_rem {k : IntKind} {x y : Int} (h : (y == 0) = false) : Op.intDiv .rem k x y = pure (.int k (x.tmod y)) := by
  have : y ≠ 0 := by simpa using h
  simp [Op.intDiv, this]
def quoI (x y : Int) : Int := if y == 0 then 0 else wrap32 (x.tdiv y)
def quoU (x y : Int) : Int := if y == 0 then 0 else IntKind.u32.wrap (x.tdiv y)
def rem (x y : Int) : Int := if y == 0 then 0 else x.tmod y

theorem quotient_i32 (x y : Int) (w : World) : Calls Try.prog 30 #[.int .i32 x, .int .i32 y] w fun e w' => e = .returned (.int .i32 (quoI x y)) ∧ w' = w := by
  cases hy : (y == 0)
  · have hn : ¬ y = 0 := by simpa using hy
    have hr : quoI x y = _ := if_neg (by rw [hy]; simp)
    rw [hr]
    clear hr
    go_enter Try.func30, Try.ntmps30
    go_wp2
    go_ret
    exact ⟨rfl, rfl⟩
  · have hr : quoI x y = _ := if_pos hy
    rw [hr]
    clear hr
    go_enter Try.func30, Try.ntmps30
    go_wp2
    go_ret
    exact ⟨rfl, rfl⟩
theorem quotient_u32 (x y : Int) (w : World) : Calls Try.prog 31 #[.int .u32 x, .int .u32 y] w fun e w' => e = .returned (.int .u32 (quoU x y)) ∧ w' = w := by
  cases hy : (y == 0)
  · have hn : ¬ y = 0 := by simpa using hy
    have hr : quoU x y = _ := if_neg (by rw [hy]; simp)
    rw [hr]
    clear hr
    go_enter Try.func31, Try.ntmps31
    go_wp2
    go_ret
    exact ⟨rfl, rfl⟩
  · have hr : quoU x y = _ := if_pos hy
    rw [hr]
    clear hr
    go_enter Try.func31, Try.ntmps31
    go_wp2
    go_ret
    exact ⟨rfl, rfl⟩
theorem remainder_i32 (x y : Int) (w : World) : Calls Try.prog 32 #[.int .i32 x, .int .i32 y] w fun e w' => e = .returned (.int .i32 (rem x y)) ∧ w' = w := by
  cases hy : (y == 0)
  · have hn : ¬ y = 0 := by simpa using hy
    have hr : rem x y = _ := if_neg (by rw [hy]; simp)
    rw [hr]
    clear hr
    go_enter Try.func32, Try.ntmps32
    go_wp2
    go_ret
    exact ⟨rfl, rfl⟩
  · have hr : rem x y = _ := if_pos hy
    rw [hr]
    clear hr
    go_enter Try.func32, Try.ntmps32
    go_wp2
    go_ret
    exact ⟨rfl, rfl⟩
theorem remainder_u32 (x y : Int) (w : World) : Calls Try.prog 33 #[.int .u32 x, .int .u32 y] w fun e w' => e = .returned (.int .u32 (rem x y)) ∧ w' = w := by
  cases hy : (y == 0)
  · have hn : ¬ y = 0 := by simpa using hy
    have hr : rem x y = _ := if_neg (by rw [hy]; simp)
    rw [hr]
    clear hr
    go_enter Try.func33, Try.ntmps33
    go_wp2
    go_ret
    exact ⟨rfl, rfl⟩
  · have hr : rem x y = _ := if_pos hy
    rw [hr]
    clear hr
    go_enter Try.func33, Try.ntmps33
    go_wp2
    go_ret
    exact ⟨rfl, rfl⟩

def fAdd (t x y : Int) : Int := (x + y) % 4294967296
def fSub (t x y : Int) : Int := (x - y) % 4294967296
def fMul (t x y : Int) : Int := x * y % 4294967296
def fDiv (t x y : Int) : Int := if t == 2 then IntKind.u32.wrap (quoI (wrap32 x) (wrap32 y)) else quoU x y
def fMod (t x y : Int) : Int := if t == 2 then IntKind.u32.wrap (rem (wrap32 x) (wrap32 y)) else rem x y
def fAnd (t x y : Int) : Int := bits .and .u32 x y
def fOr (t x y : Int) : Int := bits .or .u32 x y
def fXor (t x y : Int) : Int := bits .xor .u32 x y
def fNot (t x y : Int) : Int := if t == 1 then word (x == 0) else bits .xor .u32 IntKind.u32.max x
def fShl (t x y : Int) : Int := x * 2 ^ (bits .and .u32 y 31).toNat % 4294967296
def fShr (t x y : Int) : Int := x / 2 ^ (bits .and .u32 y 31).toNat
def fNeg (t x y : Int) : Int := -x % 4294967296
def fEq (t x y : Int) : Int := word (x == y)
def fLess (t x y : Int) : Int := if t == 2 then word (decide (wrap32 x < wrap32 y)) else word (decide (x < y))

theorem and31 (y : Int) : 0 ≤ bits .and .u32 y 31 ∧ bits .and .u32 y 31 ≤ 31 := by
  have h1 : (BitVec.ofInt 32 y &&& BitVec.ofInt 32 31).toNat ≤ 31 := by
    rw [BitVec.toNat_and]
    have : (BitVec.ofInt 32 31).toNat = 31 := by decide
    rw [this]
    exact Nat.and_le_right
  have h2 : bits .and .u32 y 31 = ((BitVec.ofInt 32 y &&& BitVec.ofInt 32 31).toNat : Int) % 4294967296 := by
    rfl
  rw [h2]
  omega

theorem op_add (t x y : Int) (w : World) : Calls Try.prog 16 #[.int .i64 t, .int .u32 x, .int .u32 y] w fun e w' => e = .returned (.int .u32 (fAdd t x y)) ∧ w' = w := by
  have h31 := and31 y
  go_enter Try.func16, Try.ntmps16
  go_wp2
  go_ret
  exact ⟨rfl, rfl⟩
theorem op_subtract (t x y : Int) (w : World) : Calls Try.prog 17 #[.int .i64 t, .int .u32 x, .int .u32 y] w fun e w' => e = .returned (.int .u32 (fSub t x y)) ∧ w' = w := by
  have h31 := and31 y
  go_enter Try.func17, Try.ntmps17
  go_wp2
  go_ret
  exact ⟨rfl, rfl⟩
theorem op_multiply (t x y : Int) (w : World) : Calls Try.prog 18 #[.int .i64 t, .int .u32 x, .int .u32 y] w fun e w' => e = .returned (.int .u32 (fMul t x y)) ∧ w' = w := by
  have h31 := and31 y
  go_enter Try.func18, Try.ntmps18
  go_wp2
  go_ret
  exact ⟨rfl, rfl⟩
theorem op_bitAnd (t x y : Int) (w : World) : Calls Try.prog 21 #[.int .i64 t, .int .u32 x, .int .u32 y] w fun e w' => e = .returned (.int .u32 (fAnd t x y)) ∧ w' = w := by
  have h31 := and31 y
  go_enter Try.func21, Try.ntmps21
  go_wp2
  go_ret
  exact ⟨rfl, rfl⟩
theorem op_bitOr (t x y : Int) (w : World) : Calls Try.prog 22 #[.int .i64 t, .int .u32 x, .int .u32 y] w fun e w' => e = .returned (.int .u32 (fOr t x y)) ∧ w' = w := by
  have h31 := and31 y
  go_enter Try.func22, Try.ntmps22
  go_wp2
  go_ret
  exact ⟨rfl, rfl⟩
theorem op_bitXor (t x y : Int) (w : World) : Calls Try.prog 23 #[.int .i64 t, .int .u32 x, .int .u32 y] w fun e w' => e = .returned (.int .u32 (fXor t x y)) ∧ w' = w := by
  have h31 := and31 y
  go_enter Try.func23, Try.ntmps23
  go_wp2
  go_ret
  exact ⟨rfl, rfl⟩
theorem op_shiftLeft (t x y : Int) (w : World) : Calls Try.prog 25 #[.int .i64 t, .int .u32 x, .int .u32 y] w fun e w' => e = .returned (.int .u32 (fShl t x y)) ∧ w' = w := by
  have h31 := and31 y
  go_enter Try.func25, Try.ntmps25
  go_wp2
  go_ret
  exact ⟨rfl, rfl⟩
theorem op_shiftRight (t x y : Int) (w : World) : Calls Try.prog 26 #[.int .i64 t, .int .u32 x, .int .u32 y] w fun e w' => e = .returned (.int .u32 (fShr t x y)) ∧ w' = w := by
  have h31 := and31 y
  go_enter Try.func26, Try.ntmps26
  go_wp2
  go_ret
  exact ⟨rfl, rfl⟩
theorem op_negate (t x y : Int) (w : World) : Calls Try.prog 27 #[.int .i64 t, .int .u32 x, .int .u32 y] w fun e w' => e = .returned (.int .u32 (fNeg t x y)) ∧ w' = w := by
  have h31 := and31 y
  go_enter Try.func27, Try.ntmps27
  go_wp2
  go_ret
  exact ⟨rfl, rfl⟩
theorem op_equal (t x y : Int) (w : World) : Calls Try.prog 28 #[.int .i64 t, .int .u32 x, .int .u32 y] w fun e w' => e = .returned (.int .u32 (fEq t x y)) ∧ w' = w := by
  go_enter Try.func28, Try.ntmps28
  go_wp2_with (go_at_call 14; refine (wordOf_any _ _).mono ?_; rintro e w' ⟨rfl, rfl⟩)
  go_ret
  exact ⟨rfl, rfl⟩
theorem op_less (t x y : Int) (w : World) : Calls Try.prog 29 #[.int .i64 t, .int .u32 x, .int .u32 y] w fun e w' => e = .returned (.int .u32 (fLess t x y)) ∧ w' = w := by
  cases ht : (t == 2)
  · have hr : fLess t x y = _ := if_neg (by rw [ht]; simp)
    rw [hr]
    clear hr
    go_enter Try.func29, Try.ntmps29
    go_wp2_with (go_at_call 14; refine (wordOf_any _ _).mono ?_; rintro e w' ⟨rfl, rfl⟩)
    go_ret
    exact ⟨rfl, rfl⟩
  · have hr : fLess t x y = _ := if_pos ht
    rw [hr]
    clear hr
    go_enter Try.func29, Try.ntmps29
    go_wp2_with (go_at_call 14; refine (wordOf_any _ _).mono ?_; rintro e w' ⟨rfl, rfl⟩)
    go_ret
    exact ⟨rfl, rfl⟩
theorem op_not (t x y : Int) (w : World) : Calls Try.prog 24 #[.int .i64 t, .int .u32 x, .int .u32 y] w fun e w' => e = .returned (.int .u32 (fNot t x y)) ∧ w' = w := by
  cases ht : (t == 1)
  · have hr : fNot t x y = _ := if_neg (by rw [ht]; simp)
    rw [hr]
    clear hr
    go_enter Try.func24, Try.ntmps24
    go_wp2_with (go_at_call 14; refine (wordOf_any _ _).mono ?_; rintro e w' ⟨rfl, rfl⟩)
    go_ret
    exact ⟨rfl, rfl⟩
  · have hr : fNot t x y = _ := if_pos ht
    rw [hr]
    clear hr
    go_enter Try.func24, Try.ntmps24
    go_wp2_with (go_at_call 14; refine (wordOf_any _ _).mono ?_; rintro e w' ⟨rfl, rfl⟩)
    go_ret
    exact ⟨rfl, rfl⟩
theorem op_divide (t x y : Int) (w : World) : Calls Try.prog 19 #[.int .i64 t, .int .u32 x, .int .u32 y] w fun e w' => e = .returned (.int .u32 (fDiv t x y)) ∧ w' = w := by
  cases ht : (t == 2)
  · have hr : fDiv t x y = _ := if_neg (by rw [ht]; simp)
    rw [hr]
    clear hr
    go_enter Try.func19, Try.ntmps19
    go_wp2_with (go_at_call 31; refine (quotient_u32 _ _ _).mono ?_; rintro e w' ⟨rfl, rfl⟩)
    go_ret
    exact ⟨rfl, rfl⟩
  · have hr : fDiv t x y = _ := if_pos ht
    rw [hr]
    clear hr
    go_enter Try.func19, Try.ntmps19
    go_wp2_with (go_at_call 30; refine (quotient_i32 _ _ _).mono ?_; rintro e w' ⟨rfl, rfl⟩)
    go_ret
    exact ⟨rfl, rfl⟩
theorem op_modulo (t x y : Int) (w : World) : Calls Try.prog 20 #[.int .i64 t, .int .u32 x, .int .u32 y] w fun e w' => e = .returned (.int .u32 (fMod t x y)) ∧ w' = w := by
  cases ht : (t == 2)
  · have hr : fMod t x y = _ := if_neg (by rw [ht]; simp)
    rw [hr]
    clear hr
    go_enter Try.func20, Try.ntmps20
    go_wp2_with (go_at_call 33; refine (remainder_u32 _ _ _).mono ?_; rintro e w' ⟨rfl, rfl⟩)
    go_ret
    exact ⟨rfl, rfl⟩
  · have hr : fMod t x y = _ := if_pos ht
    rw [hr]
    clear hr
    go_enter Try.func20, Try.ntmps20
    go_wp2_with (go_at_call 32; refine (remainder_i32 _ _ _).mono ?_; rintro e w' ⟨rfl, rfl⟩)
    go_ret
    exact ⟨rfl, rfl⟩
end Go.Proofs.Ytkblcoiiloiohaa
