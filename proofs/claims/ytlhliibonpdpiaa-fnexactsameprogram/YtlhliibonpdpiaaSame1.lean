/- Same1: l3Same, slices.Equal over int64. -/
import Derived.Test.YtlhliibonpdpiaaProg12
namespace Go.Proofs.Ytlhliibonpdpiaa
open Go.ChangeShapes Go.WideShapes Go.ChangeAt Go.RowKit
set_option linter.unusedVariables false
/-- It returns a bool, which is true just if q. -/
def SaysIff (e : Ending) (q : Prop) : Prop := ∃ b, e = .returned (.bool b) ∧ (b = true ↔ q)
theorem SaysIff.yes {q : Prop} (h : q) : SaysIff (.returned (.bool true)) q := ⟨_, rfl, by simp [h]⟩
theorem SaysIff.no {q : Prop} (h : ¬ q) : SaysIff (.returned (.bool false)) q := ⟨_, rfl, by simp [h]⟩
theorem SaysIff.of {q : Prop} {b : Bool} (h : b = true ↔ q) : SaysIff (.returned (.bool b)) q := ⟨_, rfl, h⟩
theorem same_ne {α : Type} {xs ys : List α} {k : Nat} {x y : α} (h1 : xs[k]? = some x) (h2 : ys[k]? = some y) (h : ¬ x = y) : ¬ xs = ys := by
  rintro rfl
  rw [h1] at h2
  exact h (Option.some.inj h2)
theorem same_next {α : Type} {xs ys : List α} {k : Nat} {x : α} (h1 : xs[k]? = some x) (h2 : ys[k]? = some x) (h : ∀ j, j < k → xs[j]? = ys[j]?) : ∀ j, j < k + 1 → xs[j]? = ys[j]? := by
  intro j hj
  by_cases e : j = k
  · subst e
    rw [h1, h2]
  · exact h j (by omega)
theorem same_all {α : Type} {xs ys : List α} {n : Nat} (h1 : xs.length = n) (h2 : ys.length = n) (h : ∀ j, j < n → xs[j]? = ys[j]?) : xs = ys := by
  apply List.ext_getElem?
  intro j
  by_cases hj : j < n
  · exact h j hj
  · rw [List.getElem?_eq_none (by omega), List.getElem?_eq_none (by omega)]
set_option maxHeartbeats 1000000 in
theorem l3Same_any (s s' : Value) (xs ys : List Int) (w : World) (hn : xs.length ≤ 1048576) (hn' : ys.length ≤ 1048576) (h : Rd w 1 s xs.length (xs.flatMap intCell)) (h' : Rd w 1 s' ys.length (ys.flatMap intCell)) :
    Calls Try.prog 13 #[s, s'] w fun e w' => SaysIff e (xs = ys) ∧ ∃ m, w' = w.drewN m := by
  have H1 : Hid (Rd w 1 s xs.length (xs.flatMap intCell)) := h
  have H2 : Hid (Rd w 1 s' ys.length (ys.flatMap intCell)) := h'
  obtain ⟨a1, c1, rfl⟩ := h.is_slice
  obtain ⟨a2, c2, rfl⟩ := h'.is_slice
  clear h h'
  by_cases hll : xs.length = ys.length
  · rw [← hll] at H2
    rw [← hll]
    clear hn'
    generalize hLL : xs.length = n at hn H1 H2
    have HL : Hid (xs.length = n ∧ ys.length = n) := ⟨hLL, hll ▸ hLL⟩
    clear hLL hll
    go_enter Try.func13, Try.ntmps13
    go_wp2
    go_loopw [5] (fun i wr => ∃ k : Nat, k ≤ n ∧ i = .int .i64 k ∧ Hid (∀ j, j < k → xs[j]? = ys[j]?) ∧ ∃ m, wr = w.drewN m) (fun i _ => n - (intOf i).toNat)
    case atStart => exact ⟨0, by omega, rfl, fun j hj => by omega, 0, rfl⟩
    case round =>
      obtain ⟨k, hk, rfl, HT, m, rfl⟩ := hrel
      by_cases hlt : k < n
      · obtain ⟨x, hx⟩ : ∃ x, xs[k]? = some x := ⟨_, List.getElem?_eq_getElem (by rw [HL.out.1]; exact hlt)⟩
        obtain ⟨y, hy⟩ : ∃ y, ys[k]? = some y := ⟨_, List.getElem?_eq_getElem (by rw [HL.out.2]; exact hlt)⟩
        rcases H1.out.2 with ⟨e0, _⟩ | ⟨g, o, c, e1, hc1⟩
        · omega
        · rcases H2.out.2 with ⟨e0, _⟩ | ⟨g', o', c', e2, hc2⟩
          · omega
          · simp only [Value.slice.injEq, true_and] at e1 e2
            obtain ⟨rfl, rfl⟩ := e1
            obtain ⟨rfl, rfl⟩ := e2
            have i0 := Rd.elem intCell_length hc1 k x hx 0 _ rfl
            have j0 := Rd.elem intCell_length hc2 k y hy 0 _ rfl
            rw [Nat.mul_one, Nat.add_zero] at i0 j0
            have HX : Hid (xs[k]? = some x ∧ ys[k]? = some y) := ⟨hx, hy⟩
            clear hc1 hc2 hx hy
            by_cases hxy : x = y
            · subst hxy
              go_wp2
              go_quiet (fail)
              go_wp2
              go_roundw
              case rel => exact ⟨k + 1, by omega, by go_num, same_next HX.out.1 HX.out.2 HT.out, _, rfl⟩
              case measure => simp [intOf]; omega
            · go_wp2
              go_quiet (fail)
              go_wp2
              go_ret
              exact ⟨.no (same_ne HX.out.1 HX.out.2 hxy), m + nq, World.drewN_drewN _ _ _⟩
      · have hkn : k = n := by omega
        subst hkn
        go_wp2
        go_ret
        exact ⟨.yes (same_all HL.out.1 HL.out.2 HT.out), _, rfl⟩
  · have hne : ¬ xs = ys := fun e => hll (by rw [e])
    clear H1 H2
    generalize xs.length = n at *
    generalize ys.length = n' at *
    have HN : Hid (¬ xs = ys) := hne
    clear hne
    have hi : ¬ (n : Int) = (n' : Int) := by omega
    go_enter Try.func13, Try.ntmps13
    go_wp2
    go_ret
    exact ⟨.no HN.out, 0, rfl⟩
set_option maxHeartbeats 1000000 in
theorem slicesEq64_any (s s' : Value) (xs ys : List Int) (w : World) (hn : xs.length ≤ 1048576) (hn' : ys.length ≤ 1048576) (h : Rd w 1 s xs.length (xs.flatMap intCell)) (h' : Rd w 1 s' ys.length (ys.flatMap intCell)) :
    Calls Try.prog 20 #[s, s'] w fun e w' => SaysIff e (xs = ys) ∧ ∃ m, w' = w.drewN m := by
  have H1 : Hid (Rd w 1 s xs.length (xs.flatMap intCell)) := h
  have H2 : Hid (Rd w 1 s' ys.length (ys.flatMap intCell)) := h'
  obtain ⟨a1, c1, rfl⟩ := h.is_slice
  obtain ⟨a2, c2, rfl⟩ := h'.is_slice
  clear h h'
  by_cases hll : xs.length = ys.length
  · rw [← hll] at H2
    rw [← hll]
    clear hn'
    generalize hLL : xs.length = n at hn H1 H2
    have HL : Hid (xs.length = n ∧ ys.length = n) := ⟨hLL, hll ▸ hLL⟩
    clear hLL hll
    go_enter Try.func20, Try.ntmps20
    go_wp2
    go_loopw [13] (fun i wr => ∃ k : Nat, k ≤ n ∧ i = .int .i64 k ∧ Hid (∀ j, j < k → xs[j]? = ys[j]?) ∧ ∃ m, wr = w.drewN m) (fun i _ => n - (intOf i).toNat)
    case atStart => exact ⟨0, by omega, rfl, fun j hj => by omega, 0, rfl⟩
    case round =>
      obtain ⟨k, hk, rfl, HT, m, rfl⟩ := hrel
      by_cases hlt : k < n
      · obtain ⟨x, hx⟩ : ∃ x, xs[k]? = some x := ⟨_, List.getElem?_eq_getElem (by rw [HL.out.1]; exact hlt)⟩
        obtain ⟨y, hy⟩ : ∃ y, ys[k]? = some y := ⟨_, List.getElem?_eq_getElem (by rw [HL.out.2]; exact hlt)⟩
        rcases H1.out.2 with ⟨e0, _⟩ | ⟨g, o, c, e1, hc1⟩
        · omega
        · rcases H2.out.2 with ⟨e0, _⟩ | ⟨g', o', c', e2, hc2⟩
          · omega
          · simp only [Value.slice.injEq, true_and] at e1 e2
            obtain ⟨rfl, rfl⟩ := e1
            obtain ⟨rfl, rfl⟩ := e2
            have i0 := Rd.elem intCell_length hc1 k x hx 0 _ rfl
            have j0 := Rd.elem intCell_length hc2 k y hy 0 _ rfl
            rw [Nat.mul_one, Nat.add_zero] at i0 j0
            have HX : Hid (xs[k]? = some x ∧ ys[k]? = some y) := ⟨hx, hy⟩
            clear hc1 hc2 hx hy
            by_cases hxy : x = y
            · subst hxy
              go_wp2
              go_quiet (fail)
              go_wp2
              go_roundw
              case rel => exact ⟨k + 1, by omega, by go_num, same_next HX.out.1 HX.out.2 HT.out, _, rfl⟩
              case measure => simp [intOf]; omega
            · go_wp2
              go_quiet (fail)
              go_wp2
              go_ret
              exact ⟨.no (same_ne HX.out.1 HX.out.2 hxy), m + nq, World.drewN_drewN _ _ _⟩
      · have hkn : k = n := by omega
        subst hkn
        go_wp2
        go_ret
        exact ⟨.yes (same_all HL.out.1 HL.out.2 HT.out), _, rfl⟩
  · have hne : ¬ xs = ys := fun e => hll (by rw [e])
    clear H1 H2
    generalize xs.length = n at *
    generalize ys.length = n' at *
    have HN : Hid (¬ xs = ys) := hne
    clear hne
    have hi : ¬ (n : Int) = (n' : Int) := by omega
    go_enter Try.func20, Try.ntmps20
    go_wp2
    go_ret
    exact ⟨.no HN.out, 0, rfl⟩
end Go.Proofs.Ytlhliibonpdpiaa
