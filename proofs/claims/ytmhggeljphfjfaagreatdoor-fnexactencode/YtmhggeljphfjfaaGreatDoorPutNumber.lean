/- PutNumber: both contracts. -/
import Derived.Test.YtmhggeljphfjfaaGreatDoorPut
namespace Go.Proofs.YtmhggeljphfjfaaGreatDoor
open Go.ChangeShapes Go.WideShapes Go.ChangeAt Go.RowKit
set_option linter.unusedVariables false

/-- The n bytes of v, the lowest first. -/
def numL (v : Int) (n : Nat) : List Value := (List.range n).map fun i => .int .u8 (v / 2 ^ (8 * i) % 256)
theorem numL_length (v : Int) (n : Nat) : (numL v n).length = n := by simp [numL]
theorem byte_mod (v : Int) (i M : Nat) (h : 8 * (i + 1) ≤ M) : v % 2 ^ M / 2 ^ (8 * i) % 256 = v / 2 ^ (8 * i) % 256 := by
  obtain ⟨d, rfl⟩ := Nat.exists_eq_add_of_le h
  have e1 : (2 : Int) ^ (8 * (i + 1) + d) = 2 ^ (8 * i) * (256 * 2 ^ d) := by
    rw [show 8 * (i + 1) + d = 8 * i + (8 + d) by omega, Int.pow_add, Int.pow_add]
    rfl
  have hp : (0 : Int) < 2 ^ (8 * i) := Int.pow_pos (by decide)
  rw [e1]
  have e2 : v % (2 ^ (8 * i) * (256 * 2 ^ d)) = v - 2 ^ (8 * i) * (256 * 2 ^ d * (v / (2 ^ (8 * i) * (256 * 2 ^ d)))) := by
    rw [Int.emod_def, Int.mul_assoc (2 ^ (8 * i)) (256 * 2 ^ d)]
  rw [e2, Int.sub_ediv_of_dvd _ (Int.dvd_mul_right _ _), Int.mul_ediv_cancel_left _ (by omega)]
  generalize v / 2 ^ (8 * i) = a
  generalize v / (2 ^ (8 * i) * (256 * 2 ^ d)) = b
  rw [Int.mul_assoc]
  generalize 2 ^ d * b = c
  omega
theorem putL_num (v : Int) (n M : Nat) (h : 8 * n ≤ M) : putL (v % 2 ^ M) n n = numL v n := by
  unfold putL numL
  apply List.map_congr_left
  intro i hi
  have hi' : i < n := by simpa using hi
  rw [if_pos hi', byte_mod v i M (by omega)]

theorem PutNumber_1 (v : Int) (w : World) :
    Calls Tryz.prog 72 #[.int .i64 v, .int .i64 1] w fun e w' => ∃ r, e = .returned r ∧ w'.ownsRow w.heap.size 5 1 r 1 (numL v 1) ∧ Below w.heap.size w w' := by
  have hp : Hid (∀ w, Calls Tryz.prog 105 #[.int .u8 (IntKind.u8.wrap v), .int .i64 1] w fun e w' => ∃ r, e = .returned r ∧ w'.ownsRow w.heap.size 5 1 r 1 (numL v 1) ∧ Below w.heap.size w w') := fun w => by
    have h := putWord_u8 (v % 2 ^ 8) 1 w (by omega) (Int.emod_nonneg _ (by decide)) (fun h => by first | (cases h; done) | (simp at h; done) | (have := Int.emod_lt_of_pos v (show (0 : Int) < 2 ^ 8 by decide); omega))
    rw [putL_num v 1 8 (by omega)] at h
    exact h
  go_enter Tryz.func72, Tryz.ntmps72
  go_wp2_with (go_at_call 105; refine (hp.out _).mono ?_; rintro e w1 ⟨r, rfl, hown, hb⟩)
  go_ret
  exact ⟨_, rfl, hown, hb⟩
theorem PutNumber_2 (v : Int) (w : World) :
    Calls Tryz.prog 72 #[.int .i64 v, .int .i64 2] w fun e w' => ∃ r, e = .returned r ∧ w'.ownsRow w.heap.size 5 1 r 2 (numL v 2) ∧ Below w.heap.size w w' := by
  have hp : Hid (∀ w, Calls Tryz.prog 106 #[.int .u16 (IntKind.u16.wrap v), .int .i64 2] w fun e w' => ∃ r, e = .returned r ∧ w'.ownsRow w.heap.size 5 1 r 2 (numL v 2) ∧ Below w.heap.size w w') := fun w => by
    have h := putWord_u16 (v % 2 ^ 16) 2 w (by omega) (Int.emod_nonneg _ (by decide)) (fun h => by first | (cases h; done) | (simp at h; done) | (have := Int.emod_lt_of_pos v (show (0 : Int) < 2 ^ 16 by decide); omega))
    rw [putL_num v 2 16 (by omega)] at h
    exact h
  go_enter Tryz.func72, Tryz.ntmps72
  go_wp2_with (go_at_call 106; refine (hp.out _).mono ?_; rintro e w1 ⟨r, rfl, hown, hb⟩)
  go_ret
  exact ⟨_, rfl, hown, hb⟩
theorem PutNumber_3 (v : Int) (w : World) :
    Calls Tryz.prog 72 #[.int .i64 v, .int .i64 3] w fun e w' => ∃ r, e = .returned r ∧ w'.ownsRow w.heap.size 5 1 r 3 (numL v 3) ∧ Below w.heap.size w w' := by
  have hp : Hid (∀ w, Calls Tryz.prog 107 #[.int .u32 (IntKind.u32.wrap v), .int .i64 3] w fun e w' => ∃ r, e = .returned r ∧ w'.ownsRow w.heap.size 5 1 r 3 (numL v 3) ∧ Below w.heap.size w w') := fun w => by
    have h := putWord_u32 (v % 2 ^ 32) 3 w (by omega) (Int.emod_nonneg _ (by decide)) (fun h => by first | (cases h; done) | (simp at h; done) | (have := Int.emod_lt_of_pos v (show (0 : Int) < 2 ^ 32 by decide); omega))
    rw [putL_num v 3 32 (by omega)] at h
    exact h
  go_enter Tryz.func72, Tryz.ntmps72
  go_wp2_with (go_at_call 107; refine (hp.out _).mono ?_; rintro e w1 ⟨r, rfl, hown, hb⟩)
  go_ret
  exact ⟨_, rfl, hown, hb⟩
theorem PutNumber_4 (v : Int) (w : World) :
    Calls Tryz.prog 72 #[.int .i64 v, .int .i64 4] w fun e w' => ∃ r, e = .returned r ∧ w'.ownsRow w.heap.size 5 1 r 4 (numL v 4) ∧ Below w.heap.size w w' := by
  have hp : Hid (∀ w, Calls Tryz.prog 107 #[.int .u32 (IntKind.u32.wrap v), .int .i64 4] w fun e w' => ∃ r, e = .returned r ∧ w'.ownsRow w.heap.size 5 1 r 4 (numL v 4) ∧ Below w.heap.size w w') := fun w => by
    have h := putWord_u32 (v % 2 ^ 32) 4 w (by omega) (Int.emod_nonneg _ (by decide)) (fun h => by first | (cases h; done) | (simp at h; done) | (have := Int.emod_lt_of_pos v (show (0 : Int) < 2 ^ 32 by decide); omega))
    rw [putL_num v 4 32 (by omega)] at h
    exact h
  go_enter Tryz.func72, Tryz.ntmps72
  go_wp2_with (go_at_call 107; refine (hp.out _).mono ?_; rintro e w1 ⟨r, rfl, hown, hb⟩)
  go_ret
  exact ⟨_, rfl, hown, hb⟩
theorem PutNumber_5 (v : Int) (w : World) :
    Calls Tryz.prog 72 #[.int .i64 v, .int .i64 5] w fun e w' => ∃ r, e = .returned r ∧ w'.ownsRow w.heap.size 5 1 r 5 (numL v 5) ∧ Below w.heap.size w w' := by
  have hp : Hid (∀ w, Calls Tryz.prog 108 #[.int .u64 (IntKind.u64.wrap v), .int .i64 5] w fun e w' => ∃ r, e = .returned r ∧ w'.ownsRow w.heap.size 5 1 r 5 (numL v 5) ∧ Below w.heap.size w w') := fun w => by
    have h := putWord_u64 (v % 2 ^ 64) 5 w (by omega) (Int.emod_nonneg _ (by decide)) (fun h => by first | (cases h; done) | (simp at h; done) | (have := Int.emod_lt_of_pos v (show (0 : Int) < 2 ^ 64 by decide); omega))
    rw [putL_num v 5 64 (by omega)] at h
    exact h
  go_enter Tryz.func72, Tryz.ntmps72
  go_wp2_with (go_at_call 108; refine (hp.out _).mono ?_; rintro e w1 ⟨r, rfl, hown, hb⟩)
  go_ret
  exact ⟨_, rfl, hown, hb⟩
theorem PutNumber_6 (v : Int) (w : World) :
    Calls Tryz.prog 72 #[.int .i64 v, .int .i64 6] w fun e w' => ∃ r, e = .returned r ∧ w'.ownsRow w.heap.size 5 1 r 6 (numL v 6) ∧ Below w.heap.size w w' := by
  have hp : Hid (∀ w, Calls Tryz.prog 108 #[.int .u64 (IntKind.u64.wrap v), .int .i64 6] w fun e w' => ∃ r, e = .returned r ∧ w'.ownsRow w.heap.size 5 1 r 6 (numL v 6) ∧ Below w.heap.size w w') := fun w => by
    have h := putWord_u64 (v % 2 ^ 64) 6 w (by omega) (Int.emod_nonneg _ (by decide)) (fun h => by first | (cases h; done) | (simp at h; done) | (have := Int.emod_lt_of_pos v (show (0 : Int) < 2 ^ 64 by decide); omega))
    rw [putL_num v 6 64 (by omega)] at h
    exact h
  go_enter Tryz.func72, Tryz.ntmps72
  go_wp2_with (go_at_call 108; refine (hp.out _).mono ?_; rintro e w1 ⟨r, rfl, hown, hb⟩)
  go_ret
  exact ⟨_, rfl, hown, hb⟩
theorem PutNumber_7 (v : Int) (w : World) :
    Calls Tryz.prog 72 #[.int .i64 v, .int .i64 7] w fun e w' => ∃ r, e = .returned r ∧ w'.ownsRow w.heap.size 5 1 r 7 (numL v 7) ∧ Below w.heap.size w w' := by
  have hp : Hid (∀ w, Calls Tryz.prog 108 #[.int .u64 (IntKind.u64.wrap v), .int .i64 7] w fun e w' => ∃ r, e = .returned r ∧ w'.ownsRow w.heap.size 5 1 r 7 (numL v 7) ∧ Below w.heap.size w w') := fun w => by
    have h := putWord_u64 (v % 2 ^ 64) 7 w (by omega) (Int.emod_nonneg _ (by decide)) (fun h => by first | (cases h; done) | (simp at h; done) | (have := Int.emod_lt_of_pos v (show (0 : Int) < 2 ^ 64 by decide); omega))
    rw [putL_num v 7 64 (by omega)] at h
    exact h
  go_enter Tryz.func72, Tryz.ntmps72
  go_wp2_with (go_at_call 108; refine (hp.out _).mono ?_; rintro e w1 ⟨r, rfl, hown, hb⟩)
  go_ret
  exact ⟨_, rfl, hown, hb⟩
theorem PutNumber_8 (v : Int) (w : World) :
    Calls Tryz.prog 72 #[.int .i64 v, .int .i64 8] w fun e w' => ∃ r, e = .returned r ∧ w'.ownsRow w.heap.size 5 1 r 8 (numL v 8) ∧ Below w.heap.size w w' := by
  have hp : Hid (∀ w, Calls Tryz.prog 108 #[.int .u64 (IntKind.u64.wrap v), .int .i64 8] w fun e w' => ∃ r, e = .returned r ∧ w'.ownsRow w.heap.size 5 1 r 8 (numL v 8) ∧ Below w.heap.size w w') := fun w => by
    have h := putWord_u64 (v % 2 ^ 64) 8 w (by omega) (Int.emod_nonneg _ (by decide)) (fun h => by first | (cases h; done) | (simp at h; done) | (have := Int.emod_lt_of_pos v (show (0 : Int) < 2 ^ 64 by decide); omega))
    rw [putL_num v 8 64 (by omega)] at h
    exact h
  go_enter Tryz.func72, Tryz.ntmps72
  go_wp2_with (go_at_call 108; refine (hp.out _).mono ?_; rintro e w1 ⟨r, rfl, hown, hb⟩)
  go_ret
  exact ⟨_, rfl, hown, hb⟩
theorem PutNumber_out (v n : Int) (w : World) (h : n < 1 ∨ 8 < n) :
    Calls Tryz.prog 72 #[.int .i64 v, .int .i64 n] w fun e w' => ∃ r, e = .returned r ∧ w'.ownsRow w.heap.size 5 1 r 0 (numL v 0) ∧ Below w.heap.size w w' := by
  have e1 : (n == 1) = false := by simp; omega
  have e2 : (n == 2) = false := by simp; omega
  have e3 : (n == 3) = false := by simp; omega
  have e4 : (n == 4) = false := by simp; omega
  have e5 : (n == 5) = false := by simp; omega
  have e6 : (n == 6) = false := by simp; omega
  have e7 : (n == 7) = false := by simp; omega
  have e8 : (n == 8) = false := by simp; omega
  clear h
  go_enter Tryz.func72, Tryz.ntmps72
  go_wp2
  go_ret
  exact ⟨_, rfl, World.ownsRow_nil _ _ _ _, Below.refl _ _⟩

/-- How many bytes. -/
def numN (n : Int) : Nat := if 1 ≤ n ∧ n ≤ 8 then n.toNat else 0
theorem PutNumber_any (v n : Int) (w : World) :
    Calls Tryz.prog 72 #[.int .i64 v, .int .i64 n] w fun e w' => ∃ r, e = .returned r ∧ w'.ownsRow w.heap.size 5 1 r (numN n) (numL v (numN n)) ∧ Below w.heap.size w w' := by
  by_cases h : 1 ≤ n ∧ n ≤ 8
  · have hc : n = 1 ∨ n = 2 ∨ n = 3 ∨ n = 4 ∨ n = 5 ∨ n = 6 ∨ n = 7 ∨ n = 8 := by omega
    rcases hc with rfl | rfl | rfl | rfl | rfl | rfl | rfl | rfl
    · exact PutNumber_1 v w
    · exact PutNumber_2 v w
    · exact PutNumber_3 v w
    · exact PutNumber_4 v w
    · exact PutNumber_5 v w
    · exact PutNumber_6 v w
    · exact PutNumber_7 v w
    · exact PutNumber_8 v w
  · have e : numN n = 0 := if_neg h
    rw [e]
    exact PutNumber_out v n w (by omega)
end Go.Proofs.YtmhggeljphfjfaaGreatDoor
