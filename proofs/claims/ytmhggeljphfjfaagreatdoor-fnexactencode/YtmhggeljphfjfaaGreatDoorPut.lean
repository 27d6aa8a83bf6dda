/- Put: putWord, PutNumber. -/
import Derived.Test.YtmhggeljphfjfaaGreatDoorRows
import Derived.WalkKit
import Derived.ProofKit
import Derived.OpenShut
import Derived.Below
import Derived.Outline
import Derived.WalkLawsBesides
import Derived.Laws.Rows
import Derived.Laws.OwnMore
namespace Go.Proofs.YtmhggeljphfjfaaGreatDoor
open Go.ChangeShapes Go.WideShapes Go.ChangeAt Go.RowKit
set_option linter.unusedVariables false

theorem infoB : (Tryz.prog.info? 5).map (fun i => (i.zero, i.size, i.bytes)) = some (some (.int .u8 0), 1, 1) := by kernel_rfl
/-- The bytes of a word from the lowest on, k of n. -/
def putL (m : Int) (k n : Nat) : List Value := (List.range n).map fun i => .int .u8 (if i < k then m / 2 ^ (8 * i) % 256 else 0)
theorem putL_length (m : Int) (k n : Nat) : (putL m k n).length = n := by simp [putL]
theorem putL_zero (m : Int) (n : Nat) : (madeCells (Value.int .u8 0).cells (n * 1)).toList = putL m 0 n := by
  apply List.ext_getElem
  · simp [madeCells, putL]
  · intro i h1 h2
    simp [madeCells, putL, Value.cells, Nat.mod_one]
theorem putL_succ (m : Int) (k n : Nat) (hk : k < n) : (putL m k n).set k (.int .u8 (m / 2 ^ (8 * k) % 256)) = putL m (k + 1) n := by
  apply List.ext_getElem
  · simp [putL]
  · intro i h1 h2
    rw [List.getElem_set]
    by_cases e : k = i
    · subst e
      simp [putL]
    · simp only [e, if_false, putL, List.getElem_map, List.getElem_range]
      by_cases hi : i < k
      · rw [if_pos hi, if_pos (by omega)]
      · rw [if_neg hi, if_neg (by omega)]

set_option maxHeartbeats 1000000 in
theorem putWord_u16 (m : Int) (n : Nat) (w : World) (hn : n ≤ 2) (h0 : 0 ≤ m) (h255 : 2 = 1 → m ≤ 255) :
    Calls Tryz.prog 106 #[.int .u16 m, .int .i64 n] w fun e w' => ∃ v, e = .returned v ∧ w'.ownsRow w.heap.size 5 1 v n (putL m n n) ∧ Below w.heap.size w w' := by
  obtain ⟨i0, hi, hz0, hz1, hz2⟩ := info_parts infoB
  have H255 : Hid (2 = 1 → m ≤ 255) := h255
  clear h255
  go_enter Tryz.func106, Tryz.ntmps106
  go_wp2_with (at_make; refine wpList_make_full _ rfl _ _ 29 rfl w.heap.size 5 i0 (.int .u8 0) 1 Tryz.underlying29 hi hz0 hz1 .i64 .i64 _ _ n rfl rfl rfl rfl (by rw [hz2]; omega) (by unfold maxLen; omega) (Nat.le_refl _) ?_; intro w1 hown hgrow)
  rw [putL_zero m n] at hown
  have hB : Below w.heap.size w w1 := (Below.refl _ _).grown hgrow (Nat.le_refl _) (fun k hk => by cases hk)
  clear hgrow
  go_loopw [11] (fun i wr => ∃ k : Nat, k ≤ n ∧ i = .int .i64 k ∧ wr.ownsRow w.heap.size 5 1 (.slice (some ⟨w.heap.size, 0, none⟩) n n) n (putL m k n) ∧ Below w.heap.size w wr) (fun i _ => n - (intOf i).toNat)
  case atStart => exact ⟨0, by omega, rfl, hown, hB⟩
  case round =>
    clear hown hB
    obtain ⟨k, hk, rfl, hown, hbel⟩ := hrel
    by_cases hlt : k < n
    · have hcell := hown.cellAt k (by omega)
      have hfr := hown.frozenAt k
      have HO : Hid (wr.ownsRow w.heap.size 5 1 (.slice (some ⟨w.heap.size, 0, none⟩) n n) n (putL m k n)) := hown
      clear hown
      obtain ⟨old, hold⟩ : ∃ old, (putL m k n)[k]? = some old := ⟨_, List.getElem?_eq_getElem (by simp [putL]; omega)⟩
      rw [hold] at hcell
      clear hold
      go_wp2
      go_roundw
      case rel =>
        refine ⟨k + 1, by omega, by go_num, ?_, hbel.setCell (Nat.le_refl _) _⟩
        have hs := (HO.out.stored k (.int .u8 (m / 2 ^ (8 * k) % 256))).1
        rw [putL_succ m k n hlt] at hs
        have he : m / 2 ^ (8 * k) % 256 = m / 2 ^ (8 * k) % 256 := by
          first
            | rfl
            | (have h1 := H255.out (by first | rfl | trivial)
               have hk0 : k = 0 := by omega
               subst hk0
               simp; omega)
        rw [he]
        exact hs
      case measure => simp [intOf]; omega
    · have hkn : k = n := by omega
      subst hkn
      have HO : Hid (wr.ownsRow w.heap.size 5 1 (.slice (some ⟨w.heap.size, 0, none⟩) k k) k (putL m k k)) := hown
      clear hown
      go_wp2
      go_ret
      exact ⟨_, rfl, HO.out, hbel⟩

set_option maxHeartbeats 1000000 in
theorem putWord_u32 (m : Int) (n : Nat) (w : World) (hn : n ≤ 4) (h0 : 0 ≤ m) (h255 : 4 = 1 → m ≤ 255) :
    Calls Tryz.prog 107 #[.int .u32 m, .int .i64 n] w fun e w' => ∃ v, e = .returned v ∧ w'.ownsRow w.heap.size 5 1 v n (putL m n n) ∧ Below w.heap.size w w' := by
  obtain ⟨i0, hi, hz0, hz1, hz2⟩ := info_parts infoB
  have H255 : Hid (4 = 1 → m ≤ 255) := h255
  clear h255
  go_enter Tryz.func107, Tryz.ntmps107
  go_wp2_with (at_make; refine wpList_make_full _ rfl _ _ 29 rfl w.heap.size 5 i0 (.int .u8 0) 1 Tryz.underlying29 hi hz0 hz1 .i64 .i64 _ _ n rfl rfl rfl rfl (by rw [hz2]; omega) (by unfold maxLen; omega) (Nat.le_refl _) ?_; intro w1 hown hgrow)
  rw [putL_zero m n] at hown
  have hB : Below w.heap.size w w1 := (Below.refl _ _).grown hgrow (Nat.le_refl _) (fun k hk => by cases hk)
  clear hgrow
  go_loopw [11] (fun i wr => ∃ k : Nat, k ≤ n ∧ i = .int .i64 k ∧ wr.ownsRow w.heap.size 5 1 (.slice (some ⟨w.heap.size, 0, none⟩) n n) n (putL m k n) ∧ Below w.heap.size w wr) (fun i _ => n - (intOf i).toNat)
  case atStart => exact ⟨0, by omega, rfl, hown, hB⟩
  case round =>
    clear hown hB
    obtain ⟨k, hk, rfl, hown, hbel⟩ := hrel
    by_cases hlt : k < n
    · have hcell := hown.cellAt k (by omega)
      have hfr := hown.frozenAt k
      have HO : Hid (wr.ownsRow w.heap.size 5 1 (.slice (some ⟨w.heap.size, 0, none⟩) n n) n (putL m k n)) := hown
      clear hown
      obtain ⟨old, hold⟩ : ∃ old, (putL m k n)[k]? = some old := ⟨_, List.getElem?_eq_getElem (by simp [putL]; omega)⟩
      rw [hold] at hcell
      clear hold
      go_wp2
      go_roundw
      case rel =>
        refine ⟨k + 1, by omega, by go_num, ?_, hbel.setCell (Nat.le_refl _) _⟩
        have hs := (HO.out.stored k (.int .u8 (m / 2 ^ (8 * k) % 256))).1
        rw [putL_succ m k n hlt] at hs
        have he : m / 2 ^ (8 * k) % 256 = m / 2 ^ (8 * k) % 256 := by
          first
            | rfl
            | (have h1 := H255.out (by first | rfl | trivial)
               have hk0 : k = 0 := by omega
               subst hk0
               simp; omega)
        rw [he]
        exact hs
      case measure => simp [intOf]; omega
    · have hkn : k = n := by omega
      subst hkn
      have HO : Hid (wr.ownsRow w.heap.size 5 1 (.slice (some ⟨w.heap.size, 0, none⟩) k k) k (putL m k k)) := hown
      clear hown
      go_wp2
      go_ret
      exact ⟨_, rfl, HO.out, hbel⟩

set_option maxHeartbeats 1000000 in
theorem putWord_u64 (m : Int) (n : Nat) (w : World) (hn : n ≤ 8) (h0 : 0 ≤ m) (h255 : 8 = 1 → m ≤ 255) :
    Calls Tryz.prog 108 #[.int .u64 m, .int .i64 n] w fun e w' => ∃ v, e = .returned v ∧ w'.ownsRow w.heap.size 5 1 v n (putL m n n) ∧ Below w.heap.size w w' := by
  obtain ⟨i0, hi, hz0, hz1, hz2⟩ := info_parts infoB
  have H255 : Hid (8 = 1 → m ≤ 255) := h255
  clear h255
  go_enter Tryz.func108, Tryz.ntmps108
  go_wp2_with (at_make; refine wpList_make_full _ rfl _ _ 29 rfl w.heap.size 5 i0 (.int .u8 0) 1 Tryz.underlying29 hi hz0 hz1 .i64 .i64 _ _ n rfl rfl rfl rfl (by rw [hz2]; omega) (by unfold maxLen; omega) (Nat.le_refl _) ?_; intro w1 hown hgrow)
  rw [putL_zero m n] at hown
  have hB : Below w.heap.size w w1 := (Below.refl _ _).grown hgrow (Nat.le_refl _) (fun k hk => by cases hk)
  clear hgrow
  go_loopw [11] (fun i wr => ∃ k : Nat, k ≤ n ∧ i = .int .i64 k ∧ wr.ownsRow w.heap.size 5 1 (.slice (some ⟨w.heap.size, 0, none⟩) n n) n (putL m k n) ∧ Below w.heap.size w wr) (fun i _ => n - (intOf i).toNat)
  case atStart => exact ⟨0, by omega, rfl, hown, hB⟩
  case round =>
    clear hown hB
    obtain ⟨k, hk, rfl, hown, hbel⟩ := hrel
    by_cases hlt : k < n
    · have hcell := hown.cellAt k (by omega)
      have hfr := hown.frozenAt k
      have HO : Hid (wr.ownsRow w.heap.size 5 1 (.slice (some ⟨w.heap.size, 0, none⟩) n n) n (putL m k n)) := hown
      clear hown
      obtain ⟨old, hold⟩ : ∃ old, (putL m k n)[k]? = some old := ⟨_, List.getElem?_eq_getElem (by simp [putL]; omega)⟩
      rw [hold] at hcell
      clear hold
      go_wp2
      go_roundw
      case rel =>
        refine ⟨k + 1, by omega, by go_num, ?_, hbel.setCell (Nat.le_refl _) _⟩
        have hs := (HO.out.stored k (.int .u8 (m / 2 ^ (8 * k) % 256))).1
        rw [putL_succ m k n hlt] at hs
        have he : m / 2 ^ (8 * k) % 256 = m / 2 ^ (8 * k) % 256 := by
          first
            | rfl
            | (have h1 := H255.out (by first | rfl | trivial)
               have hk0 : k = 0 := by omega
               subst hk0
               simp; omega)
        rw [he]
        exact hs
      case measure => simp [intOf]; omega
    · have hkn : k = n := by omega
      subst hkn
      have HO : Hid (wr.ownsRow w.heap.size 5 1 (.slice (some ⟨w.heap.size, 0, none⟩) k k) k (putL m k k)) := hown
      clear hown
      go_wp2
      go_ret
      exact ⟨_, rfl, HO.out, hbel⟩

set_option maxHeartbeats 1000000 in
theorem putWord_u8 (m : Int) (n : Nat) (w : World) (hn : n ≤ 1) (h0 : 0 ≤ m) (h255 : 1 = 1 → m ≤ 255) :
    Calls Tryz.prog 105 #[.int .u8 m, .int .i64 n] w fun e w' => ∃ v, e = .returned v ∧ w'.ownsRow w.heap.size 5 1 v n (putL m n n) ∧ Below w.heap.size w w' := by
  obtain ⟨i0, hi, hz0, hz1, hz2⟩ := info_parts infoB
  have H255 : Hid (1 = 1 → m ≤ 255) := h255
  clear h255
  go_enter Tryz.func105, Tryz.ntmps105
  go_wp2_with (at_make; refine wpList_make_full _ rfl _ _ 29 rfl w.heap.size 5 i0 (.int .u8 0) 1 Tryz.underlying29 hi hz0 hz1 .i64 .i64 _ _ n rfl rfl rfl rfl (by rw [hz2]; omega) (by unfold maxLen; omega) (Nat.le_refl _) ?_; intro w1 hown hgrow)
  rw [putL_zero m n] at hown
  have hB : Below w.heap.size w w1 := (Below.refl _ _).grown hgrow (Nat.le_refl _) (fun k hk => by cases hk)
  clear hgrow
  go_loopw [11] (fun i wr => ∃ k : Nat, k ≤ n ∧ i = .int .i64 k ∧ wr.ownsRow w.heap.size 5 1 (.slice (some ⟨w.heap.size, 0, none⟩) n n) n (putL m k n) ∧ Below w.heap.size w wr) (fun i _ => n - (intOf i).toNat)
  case atStart => exact ⟨0, by omega, rfl, hown, hB⟩
  case round =>
    clear hown hB
    obtain ⟨k, hk, rfl, hown, hbel⟩ := hrel
    by_cases hlt : k < n
    · have hcell := hown.cellAt k (by omega)
      have hfr := hown.frozenAt k
      have HO : Hid (wr.ownsRow w.heap.size 5 1 (.slice (some ⟨w.heap.size, 0, none⟩) n n) n (putL m k n)) := hown
      clear hown
      obtain ⟨old, hold⟩ : ∃ old, (putL m k n)[k]? = some old := ⟨_, List.getElem?_eq_getElem (by simp [putL]; omega)⟩
      rw [hold] at hcell
      clear hold
      go_wp2
      go_roundw
      case rel =>
        refine ⟨k + 1, by omega, by go_num, ?_, hbel.setCell (Nat.le_refl _) _⟩
        have hs := (HO.out.stored k (.int .u8 (m / 2 ^ (8 * k) % 256))).1
        rw [putL_succ m k n hlt] at hs
        have he : m / 2 ^ (8 * k) = m / 2 ^ (8 * k) % 256 := by
          first
            | rfl
            | (have h1 := H255.out (by first | rfl | trivial)
               have hk0 : k = 0 := by omega
               subst hk0
               simp; omega)
        rw [he]
        exact hs
      case measure => simp [intOf]; omega
    · have hkn : k = n := by omega
      subst hkn
      have HO : Hid (wr.ownsRow w.heap.size 5 1 (.slice (some ⟨w.heap.size, 0, none⟩) k k) k (putL m k k)) := hown
      clear hown
      go_wp2
      go_ret
      exact ⟨_, rfl, HO.out, hbel⟩
end Go.Proofs.YtmhggeljphfjfaaGreatDoor
