/- IFault9: impl.rises, slices.Grow, slices.Concat. -/
import Derived.Test.YtlhliibonpdpiaaGreatDoorIFault8
import Derived.Lib.AppendZerosOnto
import Derived.Lib.AppendZeros
import Derived.Laws.Append
namespace Go.Proofs.YtlhliibonpdpiaaGreatDoor
open Go.ChangeShapes Go.WideShapes Go.ChangeAt Go.RowKit
set_option linter.unusedVariables false
set_option maxHeartbeats 1000000 in
theorem rises_any (x y : MT) (w : World) :
    Calls Tryz.prog 111 #[.agg #[.int .i64 x.func, .int .i64 x.head, .int .i64 x.counter, .int .u32 x.init], .agg #[.int .i64 y.func, .int .i64 y.head, .int .i64 y.counter, .int .u32 y.init]] w fun e w' => SaysIff e (Rises x y) ∧ Below w.heap.size w w' := by
  have HB : Hid (Below w.heap.size w ((w.alloc (.cells #[.int .i64 x.func, .int .i64 x.head, .int .i64 x.counter, .int .u32 x.init] 82)).alloc (.cells #[.int .i64 y.func, .int .i64 y.head, .int .i64 y.counter, .int .u32 y.init] 82))) := below_on (below_alloc _ _) (Nat.le_refl _) (below_alloc _ _)
  go_enter Tryz.func111, Tryz.ntmps111
  go_wp2
  all_goals (go_ret; refine ⟨SaysIff.of ?_, by first | exact HB.out | (rw [‹x.func = y.func›] at HB; exact HB.out)⟩; go_light; unfold Rises; simp_all <;> omega)
theorem own_empty (w : World) (cur : Array Value) (e : TypeId) (G : Nat) (h : cur.size = G) (hG : G ≤ maxLen) : (w.alloc (.cells cur e)).drew.ownsRow w.heap.size e 1 (.slice (some ⟨w.heap.size, 0, none⟩) 0 G) 0 [] :=
  ⟨rfl, .inr ⟨w.heap.size, G, cur, rfl, Nat.le_refl _, Array.getElem?_push_size, Nat.zero_le _, hG, by omega, by simp⟩⟩
set_option maxHeartbeats 1000000 in
set_option maxRecDepth 100000 in
theorem grow_nil (n : Nat) (w : World) (hn : n ≤ 4194304) :
    Calls Tryz.prog 152 #[.slice none 0 0, .int .i64 n] w fun e w' => ∃ v, e = .returned v ∧ w'.ownsRow w.heap.size 2 1 v 0 [] ∧ Below w.heap.size w w' := by
  obtain ⟨i0, hi, hz0, hz1, hz2⟩ := info_parts info64
  by_cases q0 : n = 0
  · subst q0
    go_enter Tryz.func152, Tryz.ntmps152
    go_wp2
    go_ret
    exact ⟨_, rfl, World.ownsRow_nil _ _ _ _, Below.refl _ _⟩
  · have q1 : (0 : Int) < (n : Int) := by omega
    have hold : (Builtin.firstCells i0.size 0 (.slice none 0 0)).run Tryz.prog w.drew = .ok (([] : List Value).toArray) w.drew := run_firstCells_none w.drew i0.size 0 0 0
    have hrz : ∀ ty, (Builtin.append_ #[54, 3] ty #[.slice none 0 0, .int .i64 n]).run Tryz.prog w = .ok (.slice (some ⟨w.heap.size, 0, none⟩) (0 + n) (grownCap w (0 + n) 0 2)) (w.drew.alloc (.cells (([] : List Value).toArray ++ Builtin.zeroCells (Value.int .i64 0).cells n ++ Builtin.zeroCells (Value.int .i64 0).cells (grownCap w (0 + n) 0 2 - (0 + n))) 2)) := fun ty =>
      Lib.run_append_grow_zeros w 54 3 ty 2 i0 (.int .i64 0) .i64 .i64 Tryz.underlying54 Tryz.underlying3 hi hz0 none 0 0 [] hold n (by omega) (by rw [hz1]; omega) (by omega) (by omega) (by rw [hz2]; omega) (growslice_fits (by omega) (by rw [hz2]; omega))
    have hG1 := grownCap_ge w (0 + n) 0 2
    have hG2 := grownCap_le_maxLen w (0 + n) 0 2 (by unfold maxLen; omega)
    generalize grownCap w (0 + n) 0 2 = G at hrz hG1 hG2
    have HG : Hid (G ≤ maxLen) := hG2
    unfold maxLen at hG2
    go_enter Tryz.func152, Tryz.ntmps152
    go_wp2_with (at_builtin; refine Lib.wpList_append_run _ rfl _ _ _ _ rfl _ _ rfl rfl _ _ (hrz _) ?_)
    all_goals
      go_ret
      exact ⟨_, rfl, own_empty w _ _ G (by simp [Builtin.zeroCells]; omega) HG.out, below_on (below_alloc _ _) (Nat.le_refl _) (below_drew1 _)⟩
end Go.Proofs.YtlhliibonpdpiaaGreatDoor
