/- SComputeAll: spec.Compute at every op. -/
import Derived.Test.YtkblcoiiloiohafSCompute
namespace Go.Proofs.Ytkblcoiiloiohaf
open Go.ChangeShapes Go.WideShapes Go.ChangeAt Go.RowKit
set_option linter.unusedVariables false
set_option maxRecDepth 100000 in
theorem SCompute_any (op t x y : Int) (w : World) (hy : 0 ≤ y) (hy' : y < 4294967296) : Calls Try.prog 15 #[.int .i64 op, .int .i64 t, .int .u32 x, .int .u32 y] w fun e w' => e = .returned (.int .u32 (implC op t x y)) ∧ Below w.heap.size w w' := by
  by_cases ho : op < 0 ∨ 29 < op
  · rw [implC_out (by omega)]
    exact SCompute_no op t x y w _ _ _ (infoOf_out ho) (by simp; omega) (by simp; omega) (by simp; omega) rfl
  · have h : op = 0 ∨ op = 1 ∨ op = 2 ∨ op = 3 ∨ op = 4 ∨ op = 5 ∨ op = 6 ∨ op = 7 ∨ op = 8 ∨ op = 9 ∨ op = 10 ∨ op = 11 ∨ op = 12 ∨ op = 13 ∨ op = 14 ∨ op = 15 ∨ op = 16 ∨ op = 17 ∨ op = 18 ∨ op = 19 ∨ op = 20 ∨ op = 21 ∨ op = 22 ∨ op = 23 ∨ op = 24 ∨ op = 25 ∨ op = 26 ∨ op = 27 ∨ op = 28 ∨ op = 29 := by omega
    clear ho
    rcases h with rfl | rfl | rfl | rfl | rfl | rfl | rfl | rfl | rfl | rfl | rfl | rfl | rfl | rfl | rfl | rfl | rfl | rfl | rfl | rfl | rfl | rfl | rfl | rfl | rfl | rfl | rfl | rfl | rfl | rfl
    · exact SCompute_no 0 t x y w ⟨#[110, 111, 112]⟩ 1 0 (by kernel_rfl) rfl rfl rfl rfl
    · exact SCompute_no 1 t x y w ⟨#[99, 111, 110, 115, 116]⟩ 1 1 (by kernel_rfl) rfl rfl rfl rfl
    · exact SCompute_no 2 t x y w ⟨#[108, 111, 97, 100, 108, 111, 99, 97, 108]⟩ 1 2 (by kernel_rfl) rfl rfl rfl rfl
    · exact SCompute_no 3 t x y w ⟨#[115, 116, 111, 114, 101, 108, 111, 99, 97, 108]⟩ 1 2 (by kernel_rfl) rfl rfl rfl rfl
    · exact SCompute_no 4 t x y w ⟨#[108, 111, 97, 100]⟩ 2 3 (by kernel_rfl) rfl rfl rfl rfl
    · exact SCompute_no 5 t x y w ⟨#[115, 116, 111, 114, 101]⟩ 2 3 (by kernel_rfl) rfl rfl rfl rfl
    · exact SCompute_no 6 t x y w ⟨#[108, 111, 97, 100, 97, 116]⟩ 3 4 (by kernel_rfl) rfl rfl rfl rfl
    · exact SCompute_no 7 t x y w ⟨#[115, 116, 111, 114, 101, 97, 116]⟩ 3 4 (by kernel_rfl) rfl rfl rfl rfl
    · show Calls _ _ _ _ fun e w' => e = .returned (.int .u32 (if stakes 5 t then fAdd t x y else 0)) ∧ Below w.heap.size w w'
      cases ht : stakes 5 t
      · exact SCompute_no 8 t x y w ⟨#[97, 100, 100]⟩ 1 5 (by kernel_rfl) rfl rfl rfl ht
      · exact SCompute_8 t x y w ht
    · show Calls _ _ _ _ fun e w' => e = .returned (.int .u32 (if stakes 5 t then fSub t x y else 0)) ∧ Below w.heap.size w w'
      cases ht : stakes 5 t
      · exact SCompute_no 9 t x y w ⟨#[115, 117, 98]⟩ 1 5 (by kernel_rfl) rfl rfl rfl ht
      · exact SCompute_9 t x y w ht
    · show Calls _ _ _ _ fun e w' => e = .returned (.int .u32 (if stakes 5 t then fMul t x y else 0)) ∧ Below w.heap.size w w'
      cases ht : stakes 5 t
      · exact SCompute_no 10 t x y w ⟨#[109, 117, 108]⟩ 3 5 (by kernel_rfl) rfl rfl rfl ht
      · exact SCompute_10 t x y w ht
    · show Calls _ _ _ _ fun e w' => e = .returned (.int .u32 (if stakes 5 t then fDiv t x y else 0)) ∧ Below w.heap.size w w'
      cases ht : stakes 5 t
      · exact SCompute_no 11 t x y w ⟨#[100, 105, 118]⟩ 8 5 (by kernel_rfl) rfl rfl rfl ht
      · exact SCompute_11 t x y w ht hy hy'
    · show Calls _ _ _ _ fun e w' => e = .returned (.int .u32 (if stakes 5 t then fMod t x y else 0)) ∧ Below w.heap.size w w'
      cases ht : stakes 5 t
      · exact SCompute_no 12 t x y w ⟨#[109, 111, 100]⟩ 8 5 (by kernel_rfl) rfl rfl rfl ht
      · exact SCompute_12 t x y w ht hy hy'
    · show Calls _ _ _ _ fun e w' => e = .returned (.int .u32 (if stakes 6 t then fAnd t x y else 0)) ∧ Below w.heap.size w w'
      cases ht : stakes 6 t
      · exact SCompute_no 13 t x y w ⟨#[97, 110, 100]⟩ 1 6 (by kernel_rfl) rfl rfl rfl ht
      · exact SCompute_13 t x y w ht
    · show Calls _ _ _ _ fun e w' => e = .returned (.int .u32 (if stakes 6 t then fOr t x y else 0)) ∧ Below w.heap.size w w'
      cases ht : stakes 6 t
      · exact SCompute_no 14 t x y w ⟨#[111, 114]⟩ 1 6 (by kernel_rfl) rfl rfl rfl ht
      · exact SCompute_14 t x y w ht
    · show Calls _ _ _ _ fun e w' => e = .returned (.int .u32 (if stakes 6 t then fXor t x y else 0)) ∧ Below w.heap.size w w'
      cases ht : stakes 6 t
      · exact SCompute_no 15 t x y w ⟨#[120, 111, 114]⟩ 1 6 (by kernel_rfl) rfl rfl rfl ht
      · exact SCompute_15 t x y w ht
    · show Calls _ _ _ _ fun e w' => e = .returned (.int .u32 (if stakes 6 t then fNot t x y else 0)) ∧ Below w.heap.size w w'
      cases ht : stakes 6 t
      · exact SCompute_no 16 t x y w ⟨#[110, 111, 116]⟩ 1 6 (by kernel_rfl) rfl rfl rfl ht
      · exact SCompute_16 t x y w ht
    · exact SCompute_17 t x y w
    · exact SCompute_18 t x y w
    · exact SCompute_19 t x y w
    · show Calls _ _ _ _ fun e w' => e = .returned (.int .u32 (if stakes 7 t then fEq t x y else 0)) ∧ Below w.heap.size w w'
      cases ht : stakes 7 t
      · exact SCompute_no 20 t x y w ⟨#[101, 113]⟩ 1 7 (by kernel_rfl) rfl rfl rfl ht
      · exact SCompute_20 t x y w ht
    · show Calls _ _ _ _ fun e w' => e = .returned (.int .u32 (if stakes 5 t then fLess t x y else 0)) ∧ Below w.heap.size w w'
      cases ht : stakes 5 t
      · exact SCompute_no 21 t x y w ⟨#[108, 101, 115, 115]⟩ 1 5 (by kernel_rfl) rfl rfl rfl ht
      · exact SCompute_21 t x y w ht
    · exact SCompute_no 22 t x y w ⟨#[99, 111, 110, 118]⟩ 1 8 (by kernel_rfl) rfl rfl rfl rfl
    · exact SCompute_no 23 t x y w ⟨#[100, 117, 112]⟩ 1 0 (by kernel_rfl) rfl rfl rfl rfl
    · exact SCompute_no 24 t x y w ⟨#[100, 114, 111, 112]⟩ 1 0 (by kernel_rfl) rfl rfl rfl rfl
    · exact SCompute_no 25 t x y w ⟨#[106, 117, 109, 112]⟩ 2 9 (by kernel_rfl) rfl rfl rfl rfl
    · exact SCompute_no 26 t x y w ⟨#[106, 117, 109, 112, 122, 101, 114, 111]⟩ 2 9 (by kernel_rfl) rfl rfl rfl rfl
    · exact SCompute_no 27 t x y w ⟨#[103, 117, 97, 114, 100]⟩ 2 10 (by kernel_rfl) rfl rfl rfl rfl
    · exact SCompute_no 28 t x y w ⟨#[99, 97, 108, 108]⟩ 4 11 (by kernel_rfl) rfl rfl rfl rfl
    · exact SCompute_no 29 t x y w ⟨#[114, 101, 116, 117, 114, 110]⟩ 2 0 (by kernel_rfl) rfl rfl rfl rfl
end Go.Proofs.Ytkblcoiiloiohaf
