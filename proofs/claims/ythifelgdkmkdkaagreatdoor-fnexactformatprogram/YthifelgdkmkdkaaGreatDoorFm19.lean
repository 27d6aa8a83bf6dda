import Derived.Test.YthifelgdkmkdkaaGreatDoorFm12
import Derived.Test.YthifelgdkmkdkaaGreatDoorFm18
import Derived.Outline
import Derived.Laws.CopyOwn
import Derived.Laws.EntriesVeiled
namespace Go.Proofs.YthifelgdkmkdkaaGreatDoor
open Go.ChangeShapes Go.WideShapes Go.ChangeAt Go.RowKit
set_option linter.unusedVariables false
def zeroRows : Array Value := #[.string ⟨#[]⟩, .int .i64 0, .int .i64 0, .nilFunc,
  .string ⟨#[]⟩, .int .i64 0, .int .i64 0, .nilFunc,
  .string ⟨#[]⟩, .int .i64 0, .int .i64 0, .nilFunc,
  .string ⟨#[]⟩, .int .i64 0, .int .i64 0, .nilFunc,
  .string ⟨#[]⟩, .int .i64 0, .int .i64 0, .nilFunc,
  .string ⟨#[]⟩, .int .i64 0, .int .i64 0, .nilFunc,
  .string ⟨#[]⟩, .int .i64 0, .int .i64 0, .nilFunc,
  .string ⟨#[]⟩, .int .i64 0, .int .i64 0, .nilFunc,
  .string ⟨#[]⟩, .int .i64 0, .int .i64 0, .nilFunc,
  .string ⟨#[]⟩, .int .i64 0, .int .i64 0, .nilFunc,
  .string ⟨#[]⟩, .int .i64 0, .int .i64 0, .nilFunc,
  .string ⟨#[]⟩, .int .i64 0, .int .i64 0, .nilFunc,
  .string ⟨#[]⟩, .int .i64 0, .int .i64 0, .nilFunc,
  .string ⟨#[]⟩, .int .i64 0, .int .i64 0, .nilFunc,
  .string ⟨#[]⟩, .int .i64 0, .int .i64 0, .nilFunc,
  .string ⟨#[]⟩, .int .i64 0, .int .i64 0, .nilFunc,
  .string ⟨#[]⟩, .int .i64 0, .int .i64 0, .nilFunc,
  .string ⟨#[]⟩, .int .i64 0, .int .i64 0, .nilFunc,
  .string ⟨#[]⟩, .int .i64 0, .int .i64 0, .nilFunc,
  .string ⟨#[]⟩, .int .i64 0, .int .i64 0, .nilFunc,
  .string ⟨#[]⟩, .int .i64 0, .int .i64 0, .nilFunc,
  .string ⟨#[]⟩, .int .i64 0, .int .i64 0, .nilFunc,
  .string ⟨#[]⟩, .int .i64 0, .int .i64 0, .nilFunc,
  .string ⟨#[]⟩, .int .i64 0, .int .i64 0, .nilFunc,
  .string ⟨#[]⟩, .int .i64 0, .int .i64 0, .nilFunc,
  .string ⟨#[]⟩, .int .i64 0, .int .i64 0, .nilFunc,
  .string ⟨#[]⟩, .int .i64 0, .int .i64 0, .nilFunc,
  .string ⟨#[]⟩, .int .i64 0, .int .i64 0, .nilFunc,
  .string ⟨#[]⟩, .int .i64 0, .int .i64 0, .nilFunc,
  .string ⟨#[]⟩, .int .i64 0, .int .i64 0, .nilFunc]
def opCells : Array Value := #[.string ⟨#[110, 111, 112]⟩, .int .i64 1, .int .i64 0, .nilFunc,
  .string ⟨#[99, 111, 110, 115, 116]⟩, .int .i64 1, .int .i64 1, .nilFunc,
  .string ⟨#[108, 111, 97, 100, 108, 111, 99, 97, 108]⟩, .int .i64 1, .int .i64 2, .nilFunc,
  .string ⟨#[115, 116, 111, 114, 101, 108, 111, 99, 97, 108]⟩, .int .i64 1, .int .i64 2, .nilFunc,
  .string ⟨#[108, 111, 97, 100]⟩, .int .i64 2, .int .i64 3, .nilFunc,
  .string ⟨#[115, 116, 111, 114, 101]⟩, .int .i64 2, .int .i64 3, .nilFunc,
  .string ⟨#[108, 111, 97, 100, 97, 116]⟩, .int .i64 3, .int .i64 4, .nilFunc,
  .string ⟨#[115, 116, 111, 114, 101, 97, 116]⟩, .int .i64 3, .int .i64 4, .nilFunc,
  .string ⟨#[97, 100, 100]⟩, .int .i64 1, .int .i64 5, .func (.func 101) #[] #[],
  .string ⟨#[115, 117, 98]⟩, .int .i64 1, .int .i64 5, .func (.func 102) #[] #[],
  .string ⟨#[109, 117, 108]⟩, .int .i64 3, .int .i64 5, .func (.func 103) #[] #[],
  .string ⟨#[100, 105, 118]⟩, .int .i64 8, .int .i64 5, .func (.func 104) #[] #[],
  .string ⟨#[109, 111, 100]⟩, .int .i64 8, .int .i64 5, .func (.func 105) #[] #[],
  .string ⟨#[97, 110, 100]⟩, .int .i64 1, .int .i64 6, .func (.func 106) #[] #[],
  .string ⟨#[111, 114]⟩, .int .i64 1, .int .i64 6, .func (.func 107) #[] #[],
  .string ⟨#[120, 111, 114]⟩, .int .i64 1, .int .i64 6, .func (.func 108) #[] #[],
  .string ⟨#[110, 111, 116]⟩, .int .i64 1, .int .i64 6, .func (.func 109) #[] #[],
  .string ⟨#[115, 104, 108]⟩, .int .i64 1, .int .i64 0, .func (.func 110) #[] #[],
  .string ⟨#[115, 104, 114]⟩, .int .i64 1, .int .i64 0, .func (.func 111) #[] #[],
  .string ⟨#[110, 101, 103]⟩, .int .i64 1, .int .i64 0, .func (.func 112) #[] #[],
  .string ⟨#[101, 113]⟩, .int .i64 1, .int .i64 7, .func (.func 113) #[] #[],
  .string ⟨#[108, 101, 115, 115]⟩, .int .i64 1, .int .i64 5, .func (.func 114) #[] #[],
  .string ⟨#[99, 111, 110, 118]⟩, .int .i64 1, .int .i64 8, .nilFunc,
  .string ⟨#[100, 117, 112]⟩, .int .i64 1, .int .i64 0, .nilFunc,
  .string ⟨#[100, 114, 111, 112]⟩, .int .i64 1, .int .i64 0, .nilFunc,
  .string ⟨#[106, 117, 109, 112]⟩, .int .i64 2, .int .i64 9, .nilFunc,
  .string ⟨#[106, 117, 109, 112, 122, 101, 114, 111]⟩, .int .i64 2, .int .i64 9, .nilFunc,
  .string ⟨#[103, 117, 97, 114, 100]⟩, .int .i64 2, .int .i64 10, .nilFunc,
  .string ⟨#[99, 97, 108, 108]⟩, .int .i64 4, .int .i64 11, .nilFunc,
  .string ⟨#[114, 101, 116, 117, 114, 110]⟩, .int .i64 2, .int .i64 0, .nilFunc]
set_option maxRecDepth 100000 in
theorem zero_rows (w : World) : (zeroValue 160).run Tryz.prog w = .ok (.agg zeroRows) w := by kernel_rfl
set_option maxRecDepth 100000 in
set_option maxHeartbeats 1000000 in
theorem opRows_any (w : World) : Calls Tryz.prog 98 #[] w fun e w' => e = .returned (.agg opCells) ∧ Below w.heap.size w w' := by
  have hz := zero_rows
  go_enter Tryz.func98, Tryz.ntmps98
  go_wp2_with (show wpList _ _ _ ({ dst := some 1, op := Op.build _ _, type := _, pos := _, after := _, guard := _ } :: _) _ _; refine wpList_table 61 160 160 (.tmp 0) (.tmp 61) w.heap.size opCells zeroRows 0 (by kernel_rfl) rfl (heap_alloc_new _ _) (by kernel_rfl) (by kernel_rfl) (by kernel_rfl) ?_; intro a' hp hd)
  rw [World.setRow_alloc_new]
  exact bodyPost_ret (v := .agg opCells) (results_cell_row Tryz.results98 _ _ w.heap.size 160 opCells (0, 0) _ hp (heap_alloc_new _ _) Tryz.underlying160 rfl (by kernel_rfl)) hd ⟨rfl, (Below.refl _ _).alloc (Nat.le_refl _) _⟩

/-- The row of op k: four cells. -/
def rowCells (k : Nat) : Array Value := opCells.extract (4 * k) (4 * k + 4)
set_option maxRecDepth 100000 in
theorem index_rows (k : Nat) (hk : k < 30) (w : World) : (Instr.index 160 (.agg opCells) (.int .i64 (k : Int))).run Tryz.prog w = .ok (.agg (rowCells k)) w := by
  have h : k = 0 ∨ k = 1 ∨ k = 2 ∨ k = 3 ∨ k = 4 ∨ k = 5 ∨ k = 6 ∨ k = 7 ∨ k = 8 ∨ k = 9 ∨ k = 10 ∨ k = 11 ∨ k = 12 ∨ k = 13 ∨ k = 14 ∨ k = 15 ∨ k = 16 ∨ k = 17 ∨ k = 18 ∨ k = 19 ∨ k = 20 ∨ k = 21 ∨ k = 22 ∨ k = 23 ∨ k = 24 ∨ k = 25 ∨ k = 26 ∨ k = 27 ∨ k = 28 ∨ k = 29 := by omega
  clear hk
  rcases h with rfl | rfl | rfl | rfl | rfl | rfl | rfl | rfl | rfl | rfl | rfl | rfl | rfl | rfl | rfl | rfl | rfl | rfl | rfl | rfl | rfl | rfl | rfl | rfl | rfl | rfl | rfl | rfl | rfl | rfl <;> (show Sem.run _ _ _ = Result.ok _ _; kernel_rfl)

theorem rowCells_size (k : Nat) (hk : k < 30) : (rowCells k).size = 4 := by
  have h0 : opCells.size = 120 := by kernel_rfl
  simp [rowCells, h0]; omega
set_option maxRecDepth 100000 in
theorem rowCells_one (k : Nat) (hk : k < 30) : (rowCells k).all (·.oneCell') = true := by
  have h0 : opCells.all (·.oneCell') = true := by kernel_rfl
  rw [Array.all_eq_true_iff_forall_mem] at h0 ⊢
  intro v hv
  unfold rowCells at hv
  obtain ⟨i, hi, rfl⟩ := Array.mem_iff_getElem.1 hv
  rw [Array.getElem_extract]
  exact h0 _ (Array.getElem_mem _)
theorem zero_row (w : World) : (zeroValue 150).run Tryz.prog w = .ok (.agg #[.string ⟨#[]⟩, .int .i64 0, .int .i64 0, .nilFunc]) w := by kernel_rfl

set_option maxRecDepth 100000 in
theorem rowOf_out (op : Int) (w : World) (h : op < 0 ∨ 29 < op) : Calls Tryz.prog 91 #[.int .i64 op] w fun e w' => e = .returned (.agg #[.string ⟨#[]⟩, .int .i64 0, .int .i64 0, .nilFunc]) ∧ Below w.heap.size w w' := by
  have hz := zero_row
  rcases h with h | h
  · go_enter Tryz.func91, Tryz.ntmps91
    go_wp2
    exact bodyPost_ret (v := .agg #[.string ⟨#[]⟩, .int .i64 0, .int .i64 0, .nilFunc]) (by simp [results, Tryz.results91, go_sem]) rfl ⟨rfl, (Below.refl _ _).alloc (Nat.le_refl _) _⟩
  · have h0 : decide (op < 0) = false := by simp; omega
    have h1 : decide (29 < op) = true := by simp; omega
    go_enter Tryz.func91, Tryz.ntmps91
    go_wp2
    exact bodyPost_ret (v := .agg #[.string ⟨#[]⟩, .int .i64 0, .int .i64 0, .nilFunc]) (by simp [results, Tryz.results91, go_sem]) rfl ⟨rfl, (Below.refl _ _).alloc (Nat.le_refl _) _⟩

set_option maxRecDepth 100000 in
theorem rowOf_in (k : Nat) (hk : k < 30) (w : World) : Calls Tryz.prog 91 #[.int .i64 (k : Int)] w fun e w' => e = .returned (.agg (rowCells k)) ∧ Below w.heap.size w w' := by
  have hz := zero_row
  have h0 : decide ((k : Int) < 0) = false := by simp
  have h1 : decide (29 < (k : Int)) = false := by simp; omega
  have hi := index_rows k hk
  have hs := rowCells_size k hk
  have hone := rowCells_one k hk
  have HS : Hid ((rowCells k).size = 4 ∧ (rowCells k).all (·.oneCell') = true) := ⟨hs, hone⟩
  clear hs hone
  go_enter Tryz.func91, Tryz.ntmps91
  go_wp2_with (first
    | (go_at_call 98; refine (opRows_any _).mono ?_; rintro e w1 ⟨rfl, hb⟩; have hrow : w1.heap[w.heap.size]? = some (.cells #[.string ⟨#[]⟩, .int .i64 0, .int .i64 0, .nilFunc] 150) := (hb.block _ (by simp)).trans (heap_alloc_new _ _))
    | (show wpList _ _ _ ({ dst := none, op := Op.store 150 _ _, type := _, pos := _, after := _, guard := _ } :: _) _ _; refine wpList_store_row rfl 150 (.tmp 2) (.tmp 12) rfl w.heap.size (rowCells k) rfl rfl 150 #[.string ⟨#[]⟩, .int .i64 0, .int .i64 0, .nilFunc] hrow (by rw [HS.out.1]; kernel_rfl) (by rw [HS.out.1]; rfl) HS.out.2 ?_))
  refine bodyPost_ret (v := .agg (rowCells k)) (results_cell_row Tryz.results91 _ _ w.heap.size 150 (rowCells k) (0, 0) _ rfl (setRow_heap _ _ _ _ _ _ hrow) Tryz.underlying150 rfl (by rw [HS.out.1]; kernel_rfl)) rfl ⟨rfl, ?_⟩
  exact below_setRow (((Below.refl _ _).alloc (Nat.le_refl _) _).trans (hb.mono (by simp))) (Nat.le_refl _) _
end Go.Proofs.YthifelgdkmkdkaaGreatDoor
