/- SPutNumber: spec.PutNumber. -/
import Derived.Test.YtmhggeljphfjfaaGreatDoorPutNumber
import Derived.WalkSpells
import Derived.Maps.AppendAt
namespace Go.Proofs.YtmhggeljphfjfaaGreatDoor
open Go.ChangeShapes Go.WideShapes Go.ChangeAt Go.RowKit
set_option linter.unusedVariables false
theorem numL_succ (v : Int) (k : Nat) (h : 8 * (k + 1) ≤ 64) : numL v k ++ [.int .u8 (IntKind.u64.wrap v / 2 ^ (8 * k) % 256)] = numL v (k + 1) := by
  have e : IntKind.u64.wrap v / 2 ^ (8 * k) % 256 = v / 2 ^ (8 * k) % 256 := byte_mod v k 64 h
  rw [e]
  simp [numL, List.range_succ]
set_option maxHeartbeats 1000000 in
theorem SPutNumber_in (v : Int) (n : Nat) (w : World) (h1 : 1 ≤ n) (h8 : n ≤ 8) :
    Calls Tryz.prog 25 #[.int .i64 v, .int .i64 n] w fun e w' => ∃ r, e = .returned r ∧ w'.ownsRow w.heap.size 5 1 r n (numL v n) ∧ Below w.heap.size w w' := by
  obtain ⟨i0, hi, hz0, hz1, hz2⟩ := info_parts infoB
  have hd1 : decide ((n : Int) < 1) = false := by simp; omega
  have hd8 : decide (8 < (n : Int)) = false := by simp; omega
  go_enter Tryz.func25, Tryz.ntmps25
  go_wp2
  go_loopw [5, 6] (fun s i wr => ∃ k : Nat, k ≤ n ∧ i = .int .i64 k ∧ wr.ownsRow w.heap.size 5 1 s k (numL v k) ∧ Below w.heap.size w wr) (fun _ i _ => n - (intOf i).toNat)
  case atStart => exact ⟨0, by omega, rfl, ⟨by simp [numL], .inr ⟨w.heap.size, 0, #[], rfl, Nat.le_refl _, heap_alloc_new _ _, Nat.le_refl _, Nat.zero_le _, rfl, rfl⟩⟩, (Below.refl _ _).alloc (Nat.le_refl _) _⟩
  case round =>
    obtain ⟨k, hk, rfl, hown, hbel⟩ := hrel
    by_cases hlt : k < n
    · go_wp2_with (at_builtin; refine wpList_append_own _ rfl _ _ 29 rfl w.heap.size 5 i0 (.int .u8 0) 1 1 Tryz.underlying29 hi hz0 hz1 hz2 rfl (by decide) _ _ _ rfl (hown.alloc _) ⟨wr.heap.size, 0, none⟩ 1 1 [_] rfl rfl (cell_one_new _ _ _) (ints_oneCell .u8 [_]) (by unfold maxLen; omega) (by omega) (by have := hbel.size; simp; omega) ?_; intro v' w1 hown' hgrow hnil)
      rw [numL_succ v k (by omega)] at hown'
      have HO : Hid (w1.ownsRow w.heap.size 5 1 v' (k + 1) (numL v (k + 1))) := hown'
      have HB : Hid (Below w.heap.size w w1) := (hbel.alloc hbel.size _).grown hgrow (by have := hbel.size; simp; omega) (fun j hj => (hown.lt j hj).1)
      clear hown hown' hgrow hnil
      go_wp2
      go_roundw
      case rel => exact ⟨k + 1, by omega, by go_num, HO.out, HB.out⟩
      case measure => simp [intOf]; omega
    · have hkn : k = n := by omega
      subst hkn
      have HO : Hid (wr.ownsRow w.heap.size 5 1 u5 k (numL v k)) := hown
      clear hown
      go_wp2
      go_ret
      exact ⟨_, rfl, HO.out, hbel⟩
theorem SPutNumber_out (v n : Int) (w : World) (h : n < 1 ∨ 8 < n) :
    Calls Tryz.prog 25 #[.int .i64 v, .int .i64 n] w fun e w' => ∃ r, e = .returned r ∧ w'.ownsRow w.heap.size 5 1 r 0 (numL v 0) ∧ Below w.heap.size w w' := by
  have fin : Hid ((w.alloc (.cells #[] 5)).ownsRow w.heap.size 5 1 (.slice (some ⟨w.heap.size, 0, none⟩) 0 0) 0 (numL v 0)) := ⟨by simp [numL], .inr ⟨w.heap.size, 0, #[], rfl, Nat.le_refl _, heap_alloc_new _ _, Nat.le_refl _, Nat.zero_le _, rfl, rfl⟩⟩
  rcases h with h | h
  · go_enter Tryz.func25, Tryz.ntmps25
    go_wp2
    go_ret
    exact ⟨_, rfl, fin.out, (Below.refl _ _).alloc (Nat.le_refl _) _⟩
  · have hd1 : decide (n < 1) = false := by simp; omega
    have hd8 : decide (8 < n) = true := by simp; omega
    go_enter Tryz.func25, Tryz.ntmps25
    go_wp2
    go_ret
    exact ⟨_, rfl, fin.out, (Below.refl _ _).alloc (Nat.le_refl _) _⟩
theorem SPutNumber_any (v n : Int) (w : World) :
    Calls Tryz.prog 25 #[.int .i64 v, .int .i64 n] w fun e w' => ∃ r, e = .returned r ∧ w'.ownsRow w.heap.size 5 1 r (numN n) (numL v (numN n)) ∧ Below w.heap.size w w' := by
  by_cases h : 1 ≤ n ∧ n ≤ 8
  · obtain ⟨k, rfl⟩ := Int.eq_ofNat_of_zero_le (show 0 ≤ n by omega)
    have e : numN (k : Int) = k := if_pos h
    rw [e]
    exact SPutNumber_in v k w (by omega) (by omega)
  · have e : numN n = 0 := if_neg h
    rw [e]
    exact SPutNumber_out v n w (by omega)
end Go.Proofs.YtmhggeljphfjfaaGreatDoor
