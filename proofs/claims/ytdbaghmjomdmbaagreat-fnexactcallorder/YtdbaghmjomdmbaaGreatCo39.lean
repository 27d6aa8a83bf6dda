import Derived.Test.YtdbaghmjomdmbaaGreatCo38
namespace Go.Proofs.YtdbaghmjomdmbaaGreat
open Go.ChangeShapes Go.WideShapes Go.ChangeAt Go.RowKit
set_option linter.unusedVariables false
/-- A slice that is nil, or has a place. -/
def Placed (v : Value) : Prop := v = .slice none 0 0 ∨ ∃ ad n c, v = .slice (some ad) n c
set_option maxHeartbeats 1000000 in
theorem rises_any (x y : MT) (w : World) :
    Calls Tryz.prog 68 #[.agg #[.int .i64 x.func, .int .i64 x.head, .int .i64 x.counter, .int .u32 x.init], .agg #[.int .i64 y.func, .int .i64 y.head, .int .i64 y.counter, .int .u32 y.init]] w fun e w' => SaysIff e (Rises x y) ∧ Below w.heap.size w w' := by
  have HB : Hid (Below w.heap.size w ((w.alloc (.cells #[.int .i64 x.func, .int .i64 x.head, .int .i64 x.counter, .int .u32 x.init] 88)).alloc (.cells #[.int .i64 y.func, .int .i64 y.head, .int .i64 y.counter, .int .u32 y.init] 88))) := below_on (below_alloc _ _) (Nat.le_refl _) (below_alloc _ _)
  go_enter Tryz.func68, Tryz.ntmps68
  go_wp2
  all_goals (go_ret; refine ⟨SaysIff.of ?_, by first | exact HB.out | (rw [‹x.func = y.func›] at HB; exact HB.out)⟩; go_light; unfold Rises; simp_all <;> omega)
end Go.Proofs.YtdbaghmjomdmbaaGreat
