import Derived.Test.YtdbaghmjomdmbaaFo7
import Derived.Test.YtdbaghmjomdmbaaFo9
namespace Go.Proofs.Ytdbaghmjomdmbaa
open Go.ChangeShapes Go.WideShapes Go.ChangeAt Go.RowKit
set_option linter.unusedVariables false
set_option maxHeartbeats 1000000 in
theorem l5Goes_any (x : MI) (w : World) : Calls Try.prog 20 #[.int .i64 x.op] w fun e w' => e = .returned (.bool (goesB x)) ∧ w' = w := by
  by_cases h1 : x.op = 25
  · have e : goesB x = true := by simp [goesB, h1]
    rw [e, h1]
    go_enter Try.func20, Try.ntmps20
    go_wp2
    go_ret
    exact ⟨rfl, rfl⟩
  · by_cases h2 : x.op = 26
    · have e : goesB x = true := by simp [goesB, h2]
      rw [e, h2]
      go_enter Try.func20, Try.ntmps20
      go_wp2
      go_ret
      exact ⟨rfl, rfl⟩
    · by_cases h3 : x.op = 27
      · have e : goesB x = true := by simp [goesB, h3]
        rw [e, h3]
        go_enter Try.func20, Try.ntmps20
        go_wp2
        go_ret
        exact ⟨rfl, rfl⟩
      · have e : goesB x = false := by simp [goesB, h1, h2, h3]
        have q1 : (x.op == 25) = false := by simpa using h1
        have q2 : (x.op == 26) = false := by simpa using h2
        have q3 : (x.op == 27) = false := by simpa using h3
        rw [e]
        generalize x.op = op at h1 h2 h3 q1 q2 q3
        go_enter Try.func20, Try.ntmps20
        go_wp2
        go_ret
        exact ⟨rfl, rfl⟩
set_option maxHeartbeats 2000000 in
set_option maxRecDepth 100000 in
theorem l5Good_any (s : Value) (xs : List MI) (w : World) (hn : xs.length ≤ 1048576) (h : Rd w 4 s xs.length (xs.flatMap MI.cells)) :
    Calls Try.prog 19 #[s] w fun e w' => SaysIff e (CodeGood xs) ∧ w' = w := by
  have H : Hid (Rd w 4 s xs.length (xs.flatMap MI.cells)) := h
  obtain ⟨a1, c1, rfl⟩ := h.is_slice
  clear h
  generalize hLL : xs.length = n at hn H
  have HL : Hid (xs.length = n) := hLL
  clear hLL
  by_cases q0 : n < 1
  · have HN : Hid (¬ CodeGood xs) := fun e => by have := e.1; rw [HL.out] at this; omega
    have q0' : (n : Int) < 1 := by omega
    go_enter Try.func19, Try.ntmps19
    go_wp2
    go_ret
    exact ⟨.no HN.out, rfl⟩
  have q0' : ¬ (n : Int) < 1 := by omega
  by_cases q1 : 1024 < n
  · have HN : Hid (¬ CodeGood xs) := fun e => by have := e.2.1; rw [HL.out] at this; omega
    have q1' : (1024 : Int) < (n : Int) := by omega
    go_enter Try.func19, Try.ntmps19
    go_wp2
    go_ret
    exact ⟨.no HN.out, rfl⟩
  have q1' : ¬ (1024 : Int) < (n : Int) := by omega
  go_enter Try.func19, Try.ntmps19
  go_wp2
  go_loopw [4] (fun i wr => ∃ k : Nat, k ≤ n ∧ i = .int .i64 k ∧ Hid (∀ j, j < k → ∀ x, xs[j]? = some x → goesB x = true → 0 ≤ x.c ∧ x.c < (n : Int)) ∧ wr = w) (fun i _ => n - (intOf i).toNat)
  case atStart => exact ⟨0, by omega, rfl, fun j hj => by omega, rfl⟩
  case round =>
    obtain ⟨k, hk, rfl, HT, rfl⟩ := hrel
    by_cases hlt : k < n
    · obtain ⟨x, hx⟩ : ∃ x, xs[k]? = some x := ⟨_, List.getElem?_eq_getElem (by rw [HL.out]; exact hlt)⟩
      have HX : Hid (xs[k]? = some x) := hx
      rcases H.out.2 with ⟨e0, _⟩ | ⟨g, o, c, e1, hc1⟩
      · omega
      simp only [Value.slice.injEq, true_and] at e1
      obtain ⟨rfl, rfl⟩ := e1
      have i0 := Rd.elem MI.cells_length hc1 k _ hx 0 _ rfl
      have i3 := Rd.elem MI.cells_length hc1 k _ hx 3 _ rfl
      rw [Nat.add_zero] at i0
      clear hc1 hx
      have hkL : (k : Int) < (n : Int) := by omega
      go_wp2_with fail
      refine (l5Goes_any x _).mono ?_
      rintro e u ⟨rfl, rfl⟩
      cases hgo : goesB x
      · have HN : Hid (∀ j, j < k + 1 → ∀ x, xs[j]? = some x → goesB x = true → 0 ≤ x.c ∧ x.c < (n : Int)) := fun j hj y hy hg => by
          by_cases e : j = k
          · subst e
            rw [HX.out] at hy
            cases hy
            rw [hgo] at hg
            cases hg
          · exact HT.out j (by omega) y hy hg
        go_wp2
        go_roundw
        case rel => exact ⟨k + 1, by omega, by go_num, HN, by trivial⟩
        case measure => simp [intOf]; omega
      · by_cases r0 : x.c < 0
        · have HN : Hid (¬ CodeGood xs) := fun e => by have := e.2.2 k x HX.out hgo; omega
          go_wp2
          go_ret
          exact ⟨.no HN.out, rfl⟩
        · by_cases r1 : (n : Int) ≤ x.c
          · have HN : Hid (¬ CodeGood xs) := fun e => by have := e.2.2 k x HX.out hgo; rw [HL.out] at this; omega
            go_wp2
            go_ret
            exact ⟨.no HN.out, rfl⟩
          · have HN : Hid (∀ j, j < k + 1 → ∀ x, xs[j]? = some x → goesB x = true → 0 ≤ x.c ∧ x.c < (n : Int)) := fun j hj y hy hg => by
              by_cases e : j = k
              · subst e
                rw [HX.out] at hy
                cases hy
                omega
              · exact HT.out j (by omega) y hy hg
            go_wp2
            go_roundw
            case rel => exact ⟨k + 1, by omega, by go_num, HN, by trivial⟩
            case measure => simp [intOf]; omega
    · have HY : Hid (CodeGood xs) := ⟨by rw [HL.out]; omega, by rw [HL.out]; omega, fun i x hi hg => by
        have hlt := (List.getElem?_eq_some_iff.1 hi).1
        rw [HL.out] at hlt ⊢
        exact HT.out i (by omega) x hi hg⟩
      go_wp2
      go_ret
      exact ⟨.yes HY.out, rfl⟩
end Go.Proofs.Ytdbaghmjomdmbaa
