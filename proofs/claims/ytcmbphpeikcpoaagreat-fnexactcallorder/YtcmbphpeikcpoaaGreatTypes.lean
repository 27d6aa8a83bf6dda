/- Types: isType, wordOf, l2Type, l2Truth: contracts. -/
import Derived.Test.YtcmbphpeikcpoaaGreatRows
import Derived.WalkKit
import Derived.ProofKit
import Derived.OpenShut
namespace Go.Proofs.YtcmbphpeikcpoaaGreat
open Go.ChangeShapes Go.WideShapes Go.ChangeAt Go.RowKit
set_option linter.unusedVariables false

def isT (t : Int) : Bool := decide (1 ≤ t ∧ t ≤ 3)
theorem isT_true {t : Int} (h : 1 ≤ t) (h' : t ≤ 3) : isT t = true := by unfold isT; simp; omega
theorem isT_false {t : Int} (h : t < 1 ∨ 3 < t) : isT t = false := by unfold isT; simp; omega
def word (b : Bool) : Int := if b then 1 else 0
theorem isType_any (t : Int) (w : World) : Calls Tryz.prog 119 #[.int .i64 t] w fun e w' => e = .returned (.bool (isT t)) ∧ w' = w := by
  by_cases h1 : 1 ≤ t
  · by_cases h3 : t ≤ 3
    · rw [isT_true h1 h3]
      go_enter Tryz.func119, Tryz.ntmps119
      go_wp2
      go_ret
      exact ⟨rfl, rfl⟩
    · rw [isT_false (by omega)]
      go_enter Tryz.func119, Tryz.ntmps119
      go_wp2
      go_ret
      exact ⟨rfl, rfl⟩
  · rw [isT_false (by omega)]
    go_enter Tryz.func119, Tryz.ntmps119
    go_wp2
    go_ret
    exact ⟨rfl, rfl⟩
theorem l2Type_any (t : Int) (w : World) : Calls Tryz.prog 91 #[.int .i64 t] w fun e w' => e = .returned (.bool (isT t)) ∧ w' = w := by
  by_cases h1 : 1 ≤ t
  · by_cases h3 : t ≤ 3
    · rw [isT_true h1 h3]
      go_enter Tryz.func91, Tryz.ntmps91
      go_wp2
      go_ret
      exact ⟨rfl, rfl⟩
    · rw [isT_false (by omega)]
      go_enter Tryz.func91, Tryz.ntmps91
      go_wp2
      go_ret
      exact ⟨rfl, rfl⟩
  · rw [isT_false (by omega)]
    go_enter Tryz.func91, Tryz.ntmps91
    go_wp2
    go_ret
    exact ⟨rfl, rfl⟩
theorem wordOf_any (b : Bool) (w : World) : Calls Tryz.prog 202 #[.bool b] w fun e w' => e = .returned (.int .u32 (word b)) ∧ w' = w := by
  cases b <;>
  · go_enter Tryz.func202, Tryz.ntmps202
    go_wp2
    go_ret
    exact ⟨rfl, rfl⟩
end Go.Proofs.YtcmbphpeikcpoaaGreat
