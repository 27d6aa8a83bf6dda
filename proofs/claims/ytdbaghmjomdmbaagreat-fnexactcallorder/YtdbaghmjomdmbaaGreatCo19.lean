import Derived.Test.YtdbaghmjomdmbaaGreatCo18
import Derived.Deep.MidRow
import Derived.Outline
import Derived.Laws.CopyOwn
namespace Go.Proofs.YtdbaghmjomdmbaaGreat
open Go.ChangeShapes Go.WideShapes Go.ChangeAt Go.RowKit
set_option linter.unusedVariables false
def infoCells : Array Value := #[.string ⟨#[110, 111, 112]⟩, .int .i64 1, .int .i64 0,
  .string ⟨#[99, 111, 110, 115, 116]⟩, .int .i64 1, .int .i64 1,
  .string ⟨#[108, 111, 97, 100, 108, 111, 99, 97, 108]⟩, .int .i64 1, .int .i64 2,
  .string ⟨#[115, 116, 111, 114, 101, 108, 111, 99, 97, 108]⟩, .int .i64 1, .int .i64 2,
  .string ⟨#[108, 111, 97, 100]⟩, .int .i64 2, .int .i64 3,
  .string ⟨#[115, 116, 111, 114, 101]⟩, .int .i64 2, .int .i64 3,
  .string ⟨#[108, 111, 97, 100, 97, 116]⟩, .int .i64 3, .int .i64 4,
  .string ⟨#[115, 116, 111, 114, 101, 97, 116]⟩, .int .i64 3, .int .i64 4,
  .string ⟨#[97, 100, 100]⟩, .int .i64 1, .int .i64 5,
  .string ⟨#[115, 117, 98]⟩, .int .i64 1, .int .i64 5,
  .string ⟨#[109, 117, 108]⟩, .int .i64 3, .int .i64 5,
  .string ⟨#[100, 105, 118]⟩, .int .i64 8, .int .i64 5,
  .string ⟨#[109, 111, 100]⟩, .int .i64 8, .int .i64 5,
  .string ⟨#[97, 110, 100]⟩, .int .i64 1, .int .i64 6,
  .string ⟨#[111, 114]⟩, .int .i64 1, .int .i64 6,
  .string ⟨#[120, 111, 114]⟩, .int .i64 1, .int .i64 6,
  .string ⟨#[110, 111, 116]⟩, .int .i64 1, .int .i64 6,
  .string ⟨#[115, 104, 108]⟩, .int .i64 1, .int .i64 0,
  .string ⟨#[115, 104, 114]⟩, .int .i64 1, .int .i64 0,
  .string ⟨#[110, 101, 103]⟩, .int .i64 1, .int .i64 0,
  .string ⟨#[101, 113]⟩, .int .i64 1, .int .i64 7,
  .string ⟨#[108, 101, 115, 115]⟩, .int .i64 1, .int .i64 5,
  .string ⟨#[99, 111, 110, 118]⟩, .int .i64 1, .int .i64 8,
  .string ⟨#[100, 117, 112]⟩, .int .i64 1, .int .i64 0,
  .string ⟨#[100, 114, 111, 112]⟩, .int .i64 1, .int .i64 0,
  .string ⟨#[106, 117, 109, 112]⟩, .int .i64 2, .int .i64 9,
  .string ⟨#[106, 117, 109, 112, 122, 101, 114, 111]⟩, .int .i64 2, .int .i64 9,
  .string ⟨#[103, 117, 97, 114, 100]⟩, .int .i64 2, .int .i64 10,
  .string ⟨#[99, 97, 108, 108]⟩, .int .i64 4, .int .i64 11,
  .string ⟨#[114, 101, 116, 117, 114, 110]⟩, .int .i64 2, .int .i64 0]
set_option maxRecDepth 100000 in
set_option maxHeartbeats 1000000 in
theorem l2Infos_any (w : World) : Calls Tryz.prog 71 #[] w fun e w' => e = .returned (.slice (some ⟨w.heap.size, 0, none⟩) 30 30) ∧ w' = w.alloc (.cells infoCells 104) := by
  go_enter Tryz.func71, Tryz.ntmps71
  go_wp2_with (show wpList _ _ _ ({ dst := some 1, op := Op.build _ _, type := _, pos := _, after := _, guard := _ } :: _) _ _; refine wpList_tableSlice 30 121 104 30 #[(0, .tmp 1), (1, .tmp 2), (2, .tmp 3), (3, .tmp 4), (4, .tmp 5), (5, .tmp 6), (6, .tmp 7), (7, .tmp 8), (8, .tmp 9), (9, .tmp 10), (10, .tmp 11), (11, .tmp 12), (12, .tmp 13), (13, .tmp 14), (14, .tmp 15), (15, .tmp 16), (16, .tmp 17), (17, .tmp 18), (18, .tmp 19), (19, .tmp 20), (20, .tmp 21), (21, .tmp 22), (22, .tmp 23), (23, .tmp 24), (24, .tmp 25), (25, .tmp 26), (26, .tmp 27), (27, .tmp 28), (28, .tmp 29), (29, .tmp 30)] 31 0 32 infoCells ((Tryz.prog.info? 104).getD default) (.agg #[.string ⟨#[]⟩, .int .i64 0, .int .i64 0]) (by kernel_rfl) rfl (by decide) (by decide) Tryz.underlying121 (by kernel_rfl) (by kernel_rfl) (of_decide_eq_true (by kernel_rfl)) (of_decide_eq_true (by kernel_rfl)) ?_; intro a' hp hd)
  refine bodyPost_ret (v := .slice (some ⟨w.heap.size, 0, none⟩) 30 30) ?_ hd ⟨rfl, rfl⟩
  rw [← hp]
  exact results_tmp Tryz.results71 _ _ _

/-- The three cells of row k. -/
def infoRow (k : Nat) : List Value := (infoCells.extract (3 * k) (3 * k + 3)).toList
theorem infoRow_length (k : Nat) (hk : k < 30) : (infoRow k).length = 3 := by
  have h0 : infoCells.size = 90 := by kernel_rfl
  simp [infoRow, h0]; omega
theorem infoRow_one (k : Nat) (hk : k < 30) : (infoRow k).toArray.all (·.oneCell') = true := by
  have h0 : infoCells.all (·.oneCell') = true := by kernel_rfl
  rw [Array.all_eq_true_iff_forall_mem] at h0 ⊢
  intro v hv
  simp only [infoRow, Array.toArray_toList] at hv
  obtain ⟨i, hi, rfl⟩ := Array.mem_iff_getElem.1 hv
  rw [Array.getElem_extract]
  exact h0 _ (Array.getElem_mem _)
theorem infoRow_range (w : World) (b k : Nat) (hk : k < 30) (h : w.heap[b]? = some (.cells infoCells 104)) : w.rangeAt b (k * 3) (infoRow k) := by
  intro j v hv
  have h0 : infoCells.size = 90 := by kernel_rfl
  rw [cell_of_row w b _ infoCells _ _ h]
  simp only [infoRow, Array.getElem?_toList] at hv
  rw [Array.getElem?_extract] at hv
  split at hv
  · rw [← hv, Nat.mul_comm]
  · cases hv
theorem zero_info (w : World) : (zeroValue 104).run Tryz.prog w = .ok (.agg #[.string ⟨#[]⟩, .int .i64 0, .int .i64 0]) w := by kernel_rfl

set_option maxRecDepth 100000 in
theorem SInfo_out (op : Int) (w : World) (h : op < 0 ∨ 29 < op) : Calls Tryz.prog 57 #[.int .i64 op] w fun e w' => e = .returned (.agg #[.string ⟨#[]⟩, .int .i64 0, .int .i64 0]) ∧ Below w.heap.size w w' := by
  have hz := zero_info
  rcases h with h | h
  · go_enter Tryz.func57, Tryz.ntmps57
    go_wp2
    exact bodyPost_ret (v := .agg #[.string ⟨#[]⟩, .int .i64 0, .int .i64 0]) (by simp [results, Tryz.results57, go_sem]) rfl ⟨rfl, (Below.refl _ _).alloc (Nat.le_refl _) _⟩
  · have h0 : decide (op < 0) = false := by simp; omega
    have h1 : decide (29 < op) = true := by simp; omega
    go_enter Tryz.func57, Tryz.ntmps57
    go_wp2
    exact bodyPost_ret (v := .agg #[.string ⟨#[]⟩, .int .i64 0, .int .i64 0]) (by simp [results, Tryz.results57, go_sem]) rfl ⟨rfl, (Below.refl _ _).alloc (Nat.le_refl _) _⟩

set_option maxRecDepth 100000 in
theorem SInfo_in (k : Nat) (hk : k < 30) (w : World) : Calls Tryz.prog 57 #[.int .i64 (k : Int)] w fun e w' => e = .returned (.agg (infoRow k).toArray) ∧ Below w.heap.size w w' := by
  have hz := zero_info
  have h0 : decide ((k : Int) < 0) = false := by simp
  have h1 : decide (29 < (k : Int)) = false := by simp; omega
  have HS : Hid ((infoRow k).length = 3 ∧ (infoRow k).toArray.all (·.oneCell') = true) := ⟨infoRow_length k hk, infoRow_one k hk⟩
  go_enter Tryz.func57, Tryz.ntmps57
  go_wp2_with (first
    | (go_at_call 71; refine (l2Infos_any _).mono ?_; rintro e w1 ⟨rfl, rfl⟩)
    | (show wpList _ _ _ ({ dst := some 13, op := Op.load 104 _, type := _, pos := _, after := _, guard := _ } :: _) _ _; refine wpList_load_mid rfl 104 (.tmp 12) rfl (w.heap.size + 1) (k * 3) rfl (infoRow k) _ (infoRow_range _ _ _ hk (heap_alloc2_new _ _ _)) Tryz.underlying104 rfl (by rw [HS.out.1]; kernel_rfl) ?_)
    | (show wpList _ _ _ ({ dst := none, op := Op.store 104 _ _, type := _, pos := _, after := _, guard := _ } :: _) _ _; refine wpList_store_row rfl 104 (.tmp 2) (.tmp 13) rfl w.heap.size (infoRow k).toArray rfl rfl 104 #[.string ⟨#[]⟩, .int .i64 0, .int .i64 0] (heap_alloc2_old _ _ _) (by rw [List.size_toArray, HS.out.1]; kernel_rfl) (by show 3 = (infoRow k).length; rw [HS.out.1]) HS.out.2 ?_))
  refine bodyPost_ret (v := .agg (infoRow k).toArray) (results_cell_row Tryz.results57 _ _ w.heap.size 104 (infoRow k).toArray (0, 0) _ rfl (setRow_heap _ _ _ _ _ _ (heap_alloc2_old _ _ _)) Tryz.underlying104 rfl (by rw [List.size_toArray, HS.out.1]; kernel_rfl)) rfl ⟨rfl, ?_⟩
  exact below_setRow (((Below.refl _ _).alloc (Nat.le_refl _) _).alloc (by simp) _) (Nat.le_refl _) _
end Go.Proofs.YtdbaghmjomdmbaaGreat
