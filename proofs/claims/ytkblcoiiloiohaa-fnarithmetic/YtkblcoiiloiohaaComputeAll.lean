/- ComputeAll: impl.Compute at every op. -/
import Derived.Test.YtkblcoiiloiohaaCompute
namespace Go.Proofs.Ytkblcoiiloiohaa
open Go.ChangeShapes Go.WideShapes Go.ChangeAt Go.RowKit
set_option linter.unusedVariables false

/-- What impl.Compute answers. -/
def implC (op t x y : Int) : Int :=
  if op = 8 then (if takes 5 t then fAdd t x y else 0) else
  if op = 9 then (if takes 5 t then fSub t x y else 0) else
  if op = 10 then (if takes 5 t then fMul t x y else 0) else
  if op = 11 then (if takes 5 t then fDiv t x y else 0) else
  if op = 12 then (if takes 5 t then fMod t x y else 0) else
  if op = 13 then (if takes 6 t then fAnd t x y else 0) else
  if op = 14 then (if takes 6 t then fOr t x y else 0) else
  if op = 15 then (if takes 6 t then fXor t x y else 0) else
  if op = 16 then (if takes 6 t then fNot t x y else 0) else
  if op = 17 then (if takes 0 t then fShl t x y else 0) else
  if op = 18 then (if takes 0 t then fShr t x y else 0) else
  if op = 19 then (if takes 0 t then fNeg t x y else 0) else
  if op = 20 then (if takes 7 t then fEq t x y else 0) else
  if op = 21 then (if takes 5 t then fLess t x y else 0) else
  0

theorem implC_out {op : Int} (h : op < 8 ∨ 21 < op) (t x y : Int) : implC op t x y = 0 := by
  unfold implC
  repeat rw [if_neg (by omega)]

set_option maxRecDepth 100000 in
theorem Compute_any (op t x y : Int) (w : World) : Calls Try.prog 5 #[.int .i64 op, .int .i64 t, .int .u32 x, .int .u32 y] w fun e w' => e = .returned (.int .u32 (implC op t x y)) ∧ Below w.heap.size w w' := by
  by_cases ho : op < 0 ∨ 29 < op
  · rw [implC_out (by omega)]
    exact Compute_nil op 0 0 ⟨#[]⟩ (fun w => rowOf_out op w ho) t x y w
  · have h : op = 0 ∨ op = 1 ∨ op = 2 ∨ op = 3 ∨ op = 4 ∨ op = 5 ∨ op = 6 ∨ op = 7 ∨ op = 8 ∨ op = 9 ∨ op = 10 ∨ op = 11 ∨ op = 12 ∨ op = 13 ∨ op = 14 ∨ op = 15 ∨ op = 16 ∨ op = 17 ∨ op = 18 ∨ op = 19 ∨ op = 20 ∨ op = 21 ∨ op = 22 ∨ op = 23 ∨ op = 24 ∨ op = 25 ∨ op = 26 ∨ op = 27 ∨ op = 28 ∨ op = 29 := by omega
    clear ho
    rcases h with rfl | rfl | rfl | rfl | rfl | rfl | rfl | rfl | rfl | rfl | rfl | rfl | rfl | rfl | rfl | rfl | rfl | rfl | rfl | rfl | rfl | rfl | rfl | rfl | rfl | rfl | rfl | rfl | rfl | rfl
    · exact Compute_nil 0 1 0 ⟨#[110, 111, 112]⟩ (fun w => rowOf_in 0 (by omega) w) t x y w
    · exact Compute_nil 1 1 1 ⟨#[99, 111, 110, 115, 116]⟩ (fun w => rowOf_in 1 (by omega) w) t x y w
    · exact Compute_nil 2 1 2 ⟨#[108, 111, 97, 100, 108, 111, 99, 97, 108]⟩ (fun w => rowOf_in 2 (by omega) w) t x y w
    · exact Compute_nil 3 1 2 ⟨#[115, 116, 111, 114, 101, 108, 111, 99, 97, 108]⟩ (fun w => rowOf_in 3 (by omega) w) t x y w
    · exact Compute_nil 4 2 3 ⟨#[108, 111, 97, 100]⟩ (fun w => rowOf_in 4 (by omega) w) t x y w
    · exact Compute_nil 5 2 3 ⟨#[115, 116, 111, 114, 101]⟩ (fun w => rowOf_in 5 (by omega) w) t x y w
    · exact Compute_nil 6 3 4 ⟨#[108, 111, 97, 100, 97, 116]⟩ (fun w => rowOf_in 6 (by omega) w) t x y w
    · exact Compute_nil 7 3 4 ⟨#[115, 116, 111, 114, 101, 97, 116]⟩ (fun w => rowOf_in 7 (by omega) w) t x y w
    · exact Compute_8 t x y w
    · exact Compute_9 t x y w
    · exact Compute_10 t x y w
    · exact Compute_11 t x y w
    · exact Compute_12 t x y w
    · exact Compute_13 t x y w
    · exact Compute_14 t x y w
    · exact Compute_15 t x y w
    · exact Compute_16 t x y w
    · exact Compute_17 t x y w
    · exact Compute_18 t x y w
    · exact Compute_19 t x y w
    · exact Compute_20 t x y w
    · exact Compute_21 t x y w
    · exact Compute_nil 22 1 8 ⟨#[99, 111, 110, 118]⟩ (fun w => rowOf_in 22 (by omega) w) t x y w
    · exact Compute_nil 23 1 0 ⟨#[100, 117, 112]⟩ (fun w => rowOf_in 23 (by omega) w) t x y w
    · exact Compute_nil 24 1 0 ⟨#[100, 114, 111, 112]⟩ (fun w => rowOf_in 24 (by omega) w) t x y w
    · exact Compute_nil 25 2 9 ⟨#[106, 117, 109, 112]⟩ (fun w => rowOf_in 25 (by omega) w) t x y w
    · exact Compute_nil 26 2 9 ⟨#[106, 117, 109, 112, 122, 101, 114, 111]⟩ (fun w => rowOf_in 26 (by omega) w) t x y w
    · exact Compute_nil 27 2 10 ⟨#[103, 117, 97, 114, 100]⟩ (fun w => rowOf_in 27 (by omega) w) t x y w
    · exact Compute_nil 28 4 11 ⟨#[99, 97, 108, 108]⟩ (fun w => rowOf_in 28 (by omega) w) t x y w
    · exact Compute_nil 29 2 0 ⟨#[114, 101, 116, 117, 114, 110]⟩ (fun w => rowOf_in 29 (by omega) w) t x y w
end Go.Proofs.Ytkblcoiiloiohaa
