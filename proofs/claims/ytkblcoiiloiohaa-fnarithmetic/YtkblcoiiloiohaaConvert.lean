/- Convert: both contracts. -/
import Derived.Test.YtkblcoiiloiohaaTypes
namespace Go.Proofs.Ytkblcoiiloiohaa
open Go.ChangeShapes Go.WideShapes Go.ChangeAt Go.RowKit
set_option linter.unusedVariables false

def cvt (f t v : Int) : Int := if isT f && (isT t && !(f == t)) then (if t == 1 then word (v != 0) else v) else 0

set_option maxHeartbeats 400000 in
theorem Convert_any (f t v : Int) (w : World) : Calls Try.prog 6 #[.int .i64 f, .int .i64 t, .int .u32 v] w fun e w' => e = .returned (.int .u32 (cvt f t v)) ∧ w' = w := by
  cases hf : isT f
  · have hc : cvt f t v = 0 := by simp [cvt, hf]
    rw [hc]
    go_enter Try.func6, Try.ntmps6
    go_wp2_with (go_at_call 13; refine (isType_any _ _).mono ?_; rintro e w' ⟨rfl, rfl⟩)
    go_ret
    exact ⟨rfl, rfl⟩
  · cases ht : isT t
    · have hc : cvt f t v = 0 := by simp [cvt, ht]
      rw [hc]
      go_enter Try.func6, Try.ntmps6
      go_wp2_with (go_at_call 13; refine (isType_any _ _).mono ?_; rintro e w' ⟨rfl, rfl⟩)
      go_ret
      exact ⟨rfl, rfl⟩
    · cases he : (f == t)
      · cases h1 : (t == 1)
        · have hc : cvt f t v = v := by simp only [cvt, hf, ht, he, h1]; rfl
          rw [hc]
          go_enter Try.func6, Try.ntmps6
          go_wp2_with (go_at_call 13; refine (isType_any _ _).mono ?_; rintro e w' ⟨rfl, rfl⟩)
          go_ret
          exact ⟨rfl, rfl⟩
        · have hc : cvt f t v = word (v != 0) := by simp only [cvt, hf, ht, he, h1]; rfl
          rw [hc]
          go_enter Try.func6, Try.ntmps6
          go_wp2_with (first | (go_at_call 13; refine (isType_any _ _).mono ?_; rintro e w' ⟨rfl, rfl⟩) | (go_at_call 14; refine (wordOf_any _ _).mono ?_; rintro e w' ⟨rfl, rfl⟩))
          go_ret
          exact ⟨rfl, rfl⟩
      · have hc : cvt f t v = 0 := by simp only [cvt, hf, ht, he]; rfl
        rw [hc]
        go_enter Try.func6, Try.ntmps6
        go_wp2_with (go_at_call 13; refine (isType_any _ _).mono ?_; rintro e w' ⟨rfl, rfl⟩)
        go_ret
        exact ⟨rfl, rfl⟩
end Go.Proofs.Ytkblcoiiloiohaa
