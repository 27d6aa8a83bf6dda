/- BImpl1: impl.namesPlace, impl.goesOn, impl.isOneOf, impl.placesHold, (impl.set).add of one number. -/
import Derived.Test.YtdbaghmjomdmbaaBPure
import Derived.Test.YtdbaghmjomdmbaaSays
import Derived.Maps.OwnSet
namespace Go.Proofs.Ytdbaghmjomdmbaa
open Go.ChangeShapes Go.WideShapes Go.ChangeAt Go.RowKit
set_option linter.unusedVariables false
set_option maxHeartbeats 1000000 in
theorem namesPlace_any (x : MI) (w : World) : Calls Try.prog 44 #[.agg #[.int .i64 x.op, .int .i64 x.a, .int .i64 x.b, .int .i64 x.c]] w fun e w' => e = .returned (.bool (goesB x)) ∧ Below w.heap.size w w' := by
  by_cases h1 : x.op = 25
  · have e : goesB x = true := by simp [goesB, h1]
    rw [e, h1]
    go_enter Try.func44, Try.ntmps44
    go_wp2
    go_ret
    exact ⟨rfl, (Below.refl _ _).alloc (Nat.le_refl _) _⟩
  · by_cases h2 : x.op = 26
    · have e : goesB x = true := by simp [goesB, h2]
      rw [e, h2]
      go_enter Try.func44, Try.ntmps44
      go_wp2
      go_ret
      exact ⟨rfl, (Below.refl _ _).alloc (Nat.le_refl _) _⟩
    · by_cases h3 : x.op = 27
      · have e : goesB x = true := by simp [goesB, h3]
        rw [e, h3]
        go_enter Try.func44, Try.ntmps44
        go_wp2
        go_ret
        exact ⟨rfl, (Below.refl _ _).alloc (Nat.le_refl _) _⟩
      · have e : goesB x = false := by simp [goesB, h1, h2, h3]
        have q1 : (x.op == 25) = false := by simpa using h1
        have q2 : (x.op == 26) = false := by simpa using h2
        have q3 : (x.op == 27) = false := by simpa using h3
        rw [e]
        generalize x.op = op at h1 h2 h3 q1 q2 q3
        go_enter Try.func44, Try.ntmps44
        go_wp2
        go_ret
        exact ⟨rfl, (Below.refl _ _).alloc (Nat.le_refl _) _⟩
set_option maxHeartbeats 1000000 in
theorem goesOn_any (x : MI) (w : World) : Calls Try.prog 34 #[.agg #[.int .i64 x.op, .int .i64 x.a, .int .i64 x.b, .int .i64 x.c]] w fun e w' => e = .returned (.bool (onB x)) ∧ Below w.heap.size w w' := by
  by_cases h1 : x.op = 25
  · have e : onB x = false := by simp [onB, h1]
    rw [e, h1]
    go_enter Try.func34, Try.ntmps34
    go_wp2
    go_ret
    exact ⟨rfl, (Below.refl _ _).alloc (Nat.le_refl _) _⟩
  · by_cases h2 : x.op = 29
    · have e : onB x = false := by simp [onB, h2]
      rw [e, h2]
      go_enter Try.func34, Try.ntmps34
      go_wp2
      go_ret
      exact ⟨rfl, (Below.refl _ _).alloc (Nat.le_refl _) _⟩
    · have e : onB x = true := by simp [onB, h1, h2]
      have q1 : (x.op != 25) = true := by simpa using h1
      have q2 : (x.op != 29) = true := by simpa using h2
      rw [e]
      generalize x.op = op at h1 h2 q1 q2
      go_enter Try.func34, Try.ntmps34
      go_wp2
      go_ret
      exact ⟨rfl, (Below.refl _ _).alloc (Nat.le_refl _) _⟩
set_option maxHeartbeats 1000000 in
theorem isOneOf_any (z : Int) (c : Nat) (w : World) (hc : (c : Int) ≤ 1048576) : Calls Try.prog 45 #[.int .i64 z, .int .i64 (c : Int)] w fun e w' => e = .returned (.bool (decide (0 ≤ z ∧ z < (c : Int)))) ∧ w' = w := by
  by_cases h1 : 0 ≤ z
  · by_cases h2 : z < (c : Int)
    · have e : decide (0 ≤ z ∧ z < (c : Int)) = true := by simp [h1, h2]
      rw [e]
      go_enter Try.func45, Try.ntmps45
      go_wp2
      go_ret
      exact ⟨rfl, rfl⟩
    · have e : decide (0 ≤ z ∧ z < (c : Int)) = false := by simp [h1, h2]
      rw [e]
      go_enter Try.func45, Try.ntmps45
      go_wp2
      go_ret
      exact ⟨rfl, rfl⟩
  · have e : decide (0 ≤ z ∧ z < (c : Int)) = false := by simp [h1]
    rw [e]
    go_enter Try.func45, Try.ntmps45
    go_wp2
    go_ret
    exact ⟨rfl, rfl⟩
theorem law64 : Go.Maps.Keyed Try.prog 2 := Go.Maps.int_keyed Try.underlying2
/-- A set of numbers, in block b. -/
def SetAt (w : World) (b cnt : Nat) (D : DataW Unit) : Prop := w.ownsMap Try.prog 2 (unitElem (H := Unit)) b cnt D
set_option maxHeartbeats 2000000 in
set_option maxRecDepth 100000 in
theorem add_one (b cnt g c : Nat) (D : DataW Unit) (z : Int) (w : World) (hz : W64 z) (hcnt : cnt ≤ 1048576) (hc : w.cell? ⟨g, 0, none⟩ = some (.int .i64 z)) (hgb : ¬ g = b) (h : SetAt w b cnt D) :
    Calls Try.prog 46 #[.map (some b), .slice (some ⟨g, 0, none⟩) 1 c] w fun e w' => e = .returned (.tuple #[]) ∧ SetAt w' b (cnt + 1) (D.put (.int .i64 z) (.agg [])) ∧ w.grownBy w' (some b) := by
  have H : Hid (SetAt w b cnt D) := h
  clear h
  go_enter Try.func46, Try.ntmps46
  go_wp2
  go_loopw [8] (fun i wr => ∃ k : Nat, k ≤ 1 ∧ i = .int .i64 k ∧ ((k = 0 ∧ wr = w) ∨ (k = 1 ∧ Hid (SetAt wr b (cnt + 1) (D.put (.int .i64 z) (.agg [])) ∧ w.grownBy wr (some b))))) (fun i _ => 1 - (intOf i).toNat)
  case atStart => exact ⟨0, by omega, rfl, .inl ⟨rfl, rfl⟩⟩
  case round =>
    obtain ⟨k, hk, rfl, hh⟩ := hrel
    rcases hh with ⟨rfl, rfl⟩ | ⟨rfl, HE⟩
    · rw [show ((0 : Nat) : Int) = 0 from rfl]
      go_wp2_with (at_mapUpdate; refine wpList_mapUpdate_own _ rfl _ _ _ 79 rfl 2 91 law64 Try.underlying79 (unitElem (H := Unit)) b cnt D rfl H.out (by unfold maxLen; omega) _ _ _ rfl rfl (Go.Maps.keyOf_int_mk Try.underlying2 hz) _ [] unitElem_mk ?_; intro w1 hown1 hgrow1)
      have HN : Hid (SetAt w1 b (cnt + 1) (D.put (.int .i64 z) (.agg [])) ∧ _) := ⟨hown1, hgrow1⟩
      clear hown1 hgrow1
      go_wp2
      go_roundw
      case rel => exact ⟨1, by omega, by go_num, .inr ⟨rfl, HN⟩⟩
      case measure => simp [intOf]
    · rw [show ((1 : Nat) : Int) = 1 from rfl]
      go_wp2
      go_end0
      exact ⟨rfl, HE.out.1, HE.out.2⟩
end Go.Proofs.Ytdbaghmjomdmbaa
