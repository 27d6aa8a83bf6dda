import Derived.Test.YtdbaghmjomdmbaaGreatRows
import Derived.WalkKit
import Derived.ProofKit
import Derived.OpenShut
import Derived.Test.YtdbaghmjomdmbaaGreatCo9
namespace Go.Proofs.YtdbaghmjomdmbaaGreat
open Go.ChangeShapes Go.WideShapes Go.ChangeAt Go.RowKit
set_option linter.unusedVariables false

def isT (t : Int) : Bool := decide (1 ≤ t ∧ t ≤ 3)
theorem isT_true {t : Int} (h : 1 ≤ t) (h' : t ≤ 3) : isT t = true := by unfold isT; simp; omega
theorem isT_false {t : Int} (h : t < 1 ∨ 3 < t) : isT t = false := by unfold isT; simp; omega
def word (b : Bool) : Int := if b then 1 else 0
theorem isType_any (t : Int) (w : World) : Calls Tryz.prog 73 #[.int .i64 t] w fun e w' => e = .returned (.bool (isT t)) ∧ w' = w := by
  by_cases h1 : 1 ≤ t
  · by_cases h3 : t ≤ 3
    · rw [isT_true h1 h3]
      go_enter Tryz.func73, Tryz.ntmps73
      go_wp2
      go_ret
      exact ⟨rfl, rfl⟩
    · rw [isT_false (by omega)]
      go_enter Tryz.func73, Tryz.ntmps73
      go_wp2
      go_ret
      exact ⟨rfl, rfl⟩
  · rw [isT_false (by omega)]
    go_enter Tryz.func73, Tryz.ntmps73
    go_wp2
    go_ret
    exact ⟨rfl, rfl⟩
theorem l2Type_any (t : Int) (w : World) : Calls Tryz.prog 56 #[.int .i64 t] w fun e w' => e = .returned (.bool (isT t)) ∧ w' = w := by
  by_cases h1 : 1 ≤ t
  · by_cases h3 : t ≤ 3
    · rw [isT_true h1 h3]
      go_enter Tryz.func56, Tryz.ntmps56
      go_wp2
      go_ret
      exact ⟨rfl, rfl⟩
    · rw [isT_false (by omega)]
      go_enter Tryz.func56, Tryz.ntmps56
      go_wp2
      go_ret
      exact ⟨rfl, rfl⟩
  · rw [isT_false (by omega)]
    go_enter Tryz.func56, Tryz.ntmps56
    go_wp2
    go_ret
    exact ⟨rfl, rfl⟩
theorem wordOf_any (b : Bool) (w : World) : Calls Tryz.prog 122 #[.bool b] w fun e w' => e = .returned (.int .u32 (word b)) ∧ w' = w := by
  cases b <;>
  · go_enter Tryz.func122, Tryz.ntmps122
    go_wp2
    go_ret
    exact ⟨rfl, rfl⟩
end Go.Proofs.YtdbaghmjomdmbaaGreat
namespace Go.Proofs.YtdbaghmjomdmbaaGreat
open Go.ChangeShapes Go.WideShapes Go.ChangeAt Go.RowKit
set_option linter.unusedVariables false
theorem all_next {α : Type} (q : α → Bool) (ys : List α) (k : Nat) (x : α) (hx : ys[k]? = some x) (h : (ys.take k).all q = true) : (ys.take (k + 1)).all q = q x := by
  obtain ⟨hlt, rfl⟩ := List.getElem?_eq_some_iff.1 hx
  rw [List.take_succ_eq_append_getElem hlt, List.all_append, h]
  simp
theorem all_not {α : Type} (q : α → Bool) (ys : List α) (x : α) (hx : x ∈ ys) (h : q x = false) : ys.all q = false := by
  rw [List.all_eq_false]
  exact ⟨x, hx, by simp [h]⟩
set_option maxHeartbeats 1000000 in
theorem l3Types_any (s : Value) (ys : List Int) (w : World) (hn : ys.length ≤ 1048576) (h : Rd w 1 s ys.length (ys.flatMap intCell)) :
    Calls Tryz.prog 35 #[s] w fun e w' => e = .returned (.bool (ys.all isT)) ∧ w' = w := by
  have H1 : Hid (Rd w 1 s ys.length (ys.flatMap intCell)) := h
  obtain ⟨a1, c1, rfl⟩ := h.is_slice
  clear h
  generalize hLL : ys.length = n at hn H1
  have HL : Hid (ys.length = n) := hLL
  clear hLL
  generalize hR : ys.all isT = R
  have HR : Hid (ys.all isT = R) := hR
  clear hR
  go_enter Tryz.func35, Tryz.ntmps35
  go_wp2
  go_loopw [3] (fun i wr => ∃ k : Nat, k ≤ n ∧ i = .int .i64 k ∧ Hid ((ys.take k).all isT = true) ∧ wr = w) (fun i _ => n - (intOf i).toNat)
  case atStart => exact ⟨0, by omega, rfl, by simp [Hid], rfl⟩
  case round =>
    obtain ⟨k, hk, rfl, HT, rfl⟩ := hrel
    by_cases hlt : k < n
    · obtain ⟨x, hx⟩ : ∃ x, ys[k]? = some x := ⟨_, List.getElem?_eq_getElem (by rw [HL.out]; exact hlt)⟩
      rcases H1.out.2 with ⟨e0, _⟩ | ⟨g, o, c, e1, hc1⟩
      · omega
      · simp only [Value.slice.injEq, true_and] at e1
        obtain ⟨rfl, rfl⟩ := e1
        have i0 := Rd.elem intCell_length hc1 k x hx 0 _ rfl
        rw [Nat.mul_one, Nat.add_zero] at i0
        have HX : Hid (ys[k]? = some x) := hx
        clear hc1 hx
        go_wp2_with fail
        refine (l2Type_any x wr).mono ?_
        rintro e u ⟨rfl, rfl⟩
        cases hq : isT x with
        | false =>
          have hR : R = false := by
            rw [← HR.out]
            exact all_not _ _ _ (List.mem_of_getElem? HX.out) hq
          subst hR
          clear hq
          go_wp2
          go_ret
          exact ⟨rfl, rfl⟩
        | true =>
          have HN : Hid ((ys.take (k + 1)).all isT = true) := by
            show _ = _
            rw [all_next _ _ _ _ HX.out HT.out]
            exact hq
          clear hq
          go_wp2
          go_roundw
          case rel => exact ⟨k + 1, by omega, by go_num, HN, by trivial⟩
          case measure => simp [intOf]; omega
    · have hkn : k = n := by omega
      subst hkn
      have hR : R = true := by
        rw [← HR.out, ← HT.out, ← HL.out, List.take_length]
      subst hR
      go_wp2
      go_ret
      exact ⟨rfl, rfl⟩
end Go.Proofs.YtdbaghmjomdmbaaGreat
