import Derived.Test.YtdfmdgbolmbffaaGreatLf6
import Derived.Test.YtdfmdgbolmbffaaGreatLf14
import Derived.Outline
import Derived.Laws.CopyOwn
import Derived.Laws.EntriesVeiled
import Derived.Test.YtdfmdgbolmbffaaGreatLf4
import Derived.Test.YtdfmdgbolmbffaaGreatLf5
namespace Go.Proofs.YtdfmdgbolmbffaaGreat
open Go.ChangeShapes Go.WideShapes Go.ChangeAt Go.RowKit
set_option linter.unusedVariables false
def zeroRows : Array Value := #[.string ⟨#[]⟩, .int .i64 0, .int .i64 0, .nilFunc,
  .string ⟨#[]⟩, .int .i64 0, .int .i64 0, .nilFunc,
  .string ⟨#[]⟩, .int .i64 0, .int .i64 0, .nilFunc,
  .string ⟨#[]⟩, .int .i64 0, .int .i64 0, .nilFunc,
  .string ⟨#[]⟩, .int .i64 0, .int .i64 0, .nilFunc,
  .string ⟨#[]⟩, .int .i64 0, .int .i64 0, .nilFunc,
  .string ⟨#[]⟩, .int .i64 0, .int .i64 0, .nilFunc,
  .string ⟨#[]⟩, .int .i64 0, .int .i64 0, .nilFunc,
  .string ⟨#[]⟩, .int .i64 0, .int .i64 0, .nilFunc,
  .string ⟨#[]⟩, .int .i64 0, .int .i64 0, .nilFunc,
  .string ⟨#[]⟩, .int .i64 0, .int .i64 0, .nilFunc,
  .string ⟨#[]⟩, .int .i64 0, .int .i64 0, .nilFunc,
  .string ⟨#[]⟩, .int .i64 0, .int .i64 0, .nilFunc,
  .string ⟨#[]⟩, .int .i64 0, .int .i64 0, .nilFunc,
  .string ⟨#[]⟩, .int .i64 0, .int .i64 0, .nilFunc,
  .string ⟨#[]⟩, .int .i64 0, .int .i64 0, .nilFunc,
  .string ⟨#[]⟩, .int .i64 0, .int .i64 0, .nilFunc,
  .string ⟨#[]⟩, .int .i64 0, .int .i64 0, .nilFunc,
  .string ⟨#[]⟩, .int .i64 0, .int .i64 0, .nilFunc,
  .string ⟨#[]⟩, .int .i64 0, .int .i64 0, .nilFunc,
  .string ⟨#[]⟩, .int .i64 0, .int .i64 0, .nilFunc,
  .string ⟨#[]⟩, .int .i64 0, .int .i64 0, .nilFunc,
  .string ⟨#[]⟩, .int .i64 0, .int .i64 0, .nilFunc,
  .string ⟨#[]⟩, .int .i64 0, .int .i64 0, .nilFunc,
  .string ⟨#[]⟩, .int .i64 0, .int .i64 0, .nilFunc,
  .string ⟨#[]⟩, .int .i64 0, .int .i64 0, .nilFunc,
  .string ⟨#[]⟩, .int .i64 0, .int .i64 0, .nilFunc,
  .string ⟨#[]⟩, .int .i64 0, .int .i64 0, .nilFunc,
  .string ⟨#[]⟩, .int .i64 0, .int .i64 0, .nilFunc,
  .string ⟨#[]⟩, .int .i64 0, .int .i64 0, .nilFunc]
def opCells : Array Value := #[.string ⟨#[110, 111, 112]⟩, .int .i64 1, .int .i64 0, .nilFunc,
  .string ⟨#[99, 111, 110, 115, 116]⟩, .int .i64 1, .int .i64 1, .nilFunc,
  .string ⟨#[108, 111, 97, 100, 108, 111, 99, 97, 108]⟩, .int .i64 1, .int .i64 2, .nilFunc,
  .string ⟨#[115, 116, 111, 114, 101, 108, 111, 99, 97, 108]⟩, .int .i64 1, .int .i64 2, .nilFunc,
  .string ⟨#[108, 111, 97, 100]⟩, .int .i64 2, .int .i64 3, .nilFunc,
  .string ⟨#[115, 116, 111, 114, 101]⟩, .int .i64 2, .int .i64 3, .nilFunc,
  .string ⟨#[108, 111, 97, 100, 97, 116]⟩, .int .i64 3, .int .i64 4, .nilFunc,
  .string ⟨#[115, 116, 111, 114, 101, 97, 116]⟩, .int .i64 3, .int .i64 4, .nilFunc,
  .string ⟨#[97, 100, 100]⟩, .int .i64 1, .int .i64 5, .func (.func 194) #[] #[],
  .string ⟨#[115, 117, 98]⟩, .int .i64 1, .int .i64 5, .func (.func 195) #[] #[],
  .string ⟨#[109, 117, 108]⟩, .int .i64 3, .int .i64 5, .func (.func 196) #[] #[],
  .string ⟨#[100, 105, 118]⟩, .int .i64 8, .int .i64 5, .func (.func 197) #[] #[],
  .string ⟨#[109, 111, 100]⟩, .int .i64 8, .int .i64 5, .func (.func 198) #[] #[],
  .string ⟨#[97, 110, 100]⟩, .int .i64 1, .int .i64 6, .func (.func 199) #[] #[],
  .string ⟨#[111, 114]⟩, .int .i64 1, .int .i64 6, .func (.func 200) #[] #[],
  .string ⟨#[120, 111, 114]⟩, .int .i64 1, .int .i64 6, .func (.func 201) #[] #[],
  .string ⟨#[110, 111, 116]⟩, .int .i64 1, .int .i64 6, .func (.func 202) #[] #[],
  .string ⟨#[115, 104, 108]⟩, .int .i64 1, .int .i64 0, .func (.func 203) #[] #[],
  .string ⟨#[115, 104, 114]⟩, .int .i64 1, .int .i64 0, .func (.func 204) #[] #[],
  .string ⟨#[110, 101, 103]⟩, .int .i64 1, .int .i64 0, .func (.func 205) #[] #[],
  .string ⟨#[101, 113]⟩, .int .i64 1, .int .i64 7, .func (.func 206) #[] #[],
  .string ⟨#[108, 101, 115, 115]⟩, .int .i64 1, .int .i64 5, .func (.func 207) #[] #[],
  .string ⟨#[99, 111, 110, 118]⟩, .int .i64 1, .int .i64 8, .nilFunc,
  .string ⟨#[100, 117, 112]⟩, .int .i64 1, .int .i64 0, .nilFunc,
  .string ⟨#[100, 114, 111, 112]⟩, .int .i64 1, .int .i64 0, .nilFunc,
  .string ⟨#[106, 117, 109, 112]⟩, .int .i64 2, .int .i64 9, .nilFunc,
  .string ⟨#[106, 117, 109, 112, 122, 101, 114, 111]⟩, .int .i64 2, .int .i64 9, .nilFunc,
  .string ⟨#[103, 117, 97, 114, 100]⟩, .int .i64 2, .int .i64 10, .nilFunc,
  .string ⟨#[99, 97, 108, 108]⟩, .int .i64 4, .int .i64 11, .nilFunc,
  .string ⟨#[114, 101, 116, 117, 114, 110]⟩, .int .i64 2, .int .i64 0, .nilFunc]
set_option maxRecDepth 100000 in
theorem zero_rows (w : World) : (zeroValue 240).run Tryz.prog w = .ok (.agg zeroRows) w := by kernel_rfl
set_option maxRecDepth 100000 in
set_option maxHeartbeats 1000000 in
theorem opRows_any (w : World) : Calls Tryz.prog 188 #[] w fun e w' => e = .returned (.agg opCells) ∧ Below w.heap.size w w' := by
  have hz := zero_rows
  go_enter Tryz.func188, Tryz.ntmps188
  go_wp2_with (show wpList _ _ _ ({ dst := some 1, op := Op.build _ _, type := _, pos := _, after := _, guard := _ } :: _) _ _; refine wpList_table 61 240 240 (.tmp 0) (.tmp 61) w.heap.size opCells zeroRows 0 (by kernel_rfl) rfl (heap_alloc_new _ _) (by kernel_rfl) (by kernel_rfl) (by kernel_rfl) ?_; intro a' hp hd)
  rw [World.setRow_alloc_new]
  exact bodyPost_ret (v := .agg opCells) (results_cell_row Tryz.results188 _ _ w.heap.size 240 opCells (0, 0) _ hp (heap_alloc_new _ _) Tryz.underlying240 rfl (by kernel_rfl)) hd ⟨rfl, (Below.refl _ _).alloc (Nat.le_refl _) _⟩

/-- The row of op k: four cells. -/
def rowCells (k : Nat) : Array Value := opCells.extract (4 * k) (4 * k + 4)
set_option maxRecDepth 100000 in
theorem index_rows (k : Nat) (hk : k < 30) (w : World) : (Instr.index 240 (.agg opCells) (.int .i64 (k : Int))).run Tryz.prog w = .ok (.agg (rowCells k)) w := by
  have h : k = 0 ∨ k = 1 ∨ k = 2 ∨ k = 3 ∨ k = 4 ∨ k = 5 ∨ k = 6 ∨ k = 7 ∨ k = 8 ∨ k = 9 ∨ k = 10 ∨ k = 11 ∨ k = 12 ∨ k = 13 ∨ k = 14 ∨ k = 15 ∨ k = 16 ∨ k = 17 ∨ k = 18 ∨ k = 19 ∨ k = 20 ∨ k = 21 ∨ k = 22 ∨ k = 23 ∨ k = 24 ∨ k = 25 ∨ k = 26 ∨ k = 27 ∨ k = 28 ∨ k = 29 := by omega
  clear hk
  rcases h with rfl | rfl | rfl | rfl | rfl | rfl | rfl | rfl | rfl | rfl | rfl | rfl | rfl | rfl | rfl | rfl | rfl | rfl | rfl | rfl | rfl | rfl | rfl | rfl | rfl | rfl | rfl | rfl | rfl | rfl <;> (show Sem.run _ _ _ = Result.ok _ _; kernel_rfl)

theorem rowCells_size (k : Nat) (hk : k < 30) : (rowCells k).size = 4 := by
  have h0 : opCells.size = 120 := by kernel_rfl
  simp [rowCells, h0]; omega
set_option maxRecDepth 100000 in
theorem rowCells_one (k : Nat) (hk : k < 30) : (rowCells k).all (·.oneCell') = true := by
  have h0 : opCells.all (·.oneCell') = true := by kernel_rfl
  rw [Array.all_eq_true_iff_forall_mem] at h0 ⊢
  intro v hv
  unfold rowCells at hv
  obtain ⟨i, hi, rfl⟩ := Array.mem_iff_getElem.1 hv
  rw [Array.getElem_extract]
  exact h0 _ (Array.getElem_mem _)
theorem zero_row (w : World) : (zeroValue 224).run Tryz.prog w = .ok (.agg #[.string ⟨#[]⟩, .int .i64 0, .int .i64 0, .nilFunc]) w := by kernel_rfl

set_option maxRecDepth 100000 in
theorem rowOf_out (op : Int) (w : World) (h : op < 0 ∨ 29 < op) : Calls Tryz.prog 174 #[.int .i64 op] w fun e w' => e = .returned (.agg #[.string ⟨#[]⟩, .int .i64 0, .int .i64 0, .nilFunc]) ∧ Below w.heap.size w w' := by
  have hz := zero_row
  rcases h with h | h
  · go_enter Tryz.func174, Tryz.ntmps174
    go_wp2
    exact bodyPost_ret (v := .agg #[.string ⟨#[]⟩, .int .i64 0, .int .i64 0, .nilFunc]) (by simp [results, Tryz.results174, go_sem]) rfl ⟨rfl, (Below.refl _ _).alloc (Nat.le_refl _) _⟩
  · have h0 : decide (op < 0) = false := by simp; omega
    have h1 : decide (29 < op) = true := by simp; omega
    go_enter Tryz.func174, Tryz.ntmps174
    go_wp2
    exact bodyPost_ret (v := .agg #[.string ⟨#[]⟩, .int .i64 0, .int .i64 0, .nilFunc]) (by simp [results, Tryz.results174, go_sem]) rfl ⟨rfl, (Below.refl _ _).alloc (Nat.le_refl _) _⟩

set_option maxRecDepth 100000 in
theorem rowOf_in (k : Nat) (hk : k < 30) (w : World) : Calls Tryz.prog 174 #[.int .i64 (k : Int)] w fun e w' => e = .returned (.agg (rowCells k)) ∧ Below w.heap.size w w' := by
  have hz := zero_row
  have h0 : decide ((k : Int) < 0) = false := by simp
  have h1 : decide (29 < (k : Int)) = false := by simp; omega
  have hi := index_rows k hk
  have hs := rowCells_size k hk
  have hone := rowCells_one k hk
  have HS : Hid ((rowCells k).size = 4 ∧ (rowCells k).all (·.oneCell') = true) := ⟨hs, hone⟩
  clear hs hone
  go_enter Tryz.func174, Tryz.ntmps174
  go_wp2_with (first
    | (go_at_call 188; refine (opRows_any _).mono ?_; rintro e w1 ⟨rfl, hb⟩; have hrow : w1.heap[w.heap.size]? = some (.cells #[.string ⟨#[]⟩, .int .i64 0, .int .i64 0, .nilFunc] 224) := (hb.block _ (by simp)).trans (heap_alloc_new _ _))
    | (show wpList _ _ _ ({ dst := none, op := Op.store 224 _ _, type := _, pos := _, after := _, guard := _ } :: _) _ _; refine wpList_store_row rfl 224 (.tmp 2) (.tmp 12) rfl w.heap.size (rowCells k) rfl rfl 224 #[.string ⟨#[]⟩, .int .i64 0, .int .i64 0, .nilFunc] hrow (by rw [HS.out.1]; kernel_rfl) (by rw [HS.out.1]; rfl) HS.out.2 ?_))
  refine bodyPost_ret (v := .agg (rowCells k)) (results_cell_row Tryz.results174 _ _ w.heap.size 224 (rowCells k) (0, 0) _ rfl (setRow_heap _ _ _ _ _ _ hrow) Tryz.underlying224 rfl (by rw [HS.out.1]; kernel_rfl)) rfl ⟨rfl, ?_⟩
  exact below_setRow (((Below.refl _ _).alloc (Nat.le_refl _) _).trans (hb.mono (by simp))) (Nat.le_refl _) _
end Go.Proofs.YtdfmdgbolmbffaaGreat
namespace Go.Proofs.YtdfmdgbolmbffaaGreat
open Go.ChangeShapes Go.WideShapes Go.ChangeAt Go.RowKit
set_option linter.unusedVariables false

/-- What Info answers. -/
def infoOf (op : Int) : Array Value := if 0 ≤ op ∧ op ≤ 29 then (infoRow op.toNat).toArray else #[.string ⟨#[]⟩, .int .i64 0, .int .i64 0]
theorem infoOf_in (k : Nat) (hk : k < 30) : infoOf (k : Int) = (infoRow k).toArray := by
  unfold infoOf
  rw [if_pos (by omega)]
  rfl
theorem infoOf_out {op : Int} (h : op < 0 ∨ 29 < op) : infoOf op = #[.string ⟨#[]⟩, .int .i64 0, .int .i64 0] := by
  unfold infoOf
  rw [if_neg (by omega)]
set_option maxRecDepth 100000 in
theorem infoRow_form (k : Nat) (hk : k < 30) : ∃ (s : ByteArray) (c f : Int), (infoRow k).toArray = #[.string s, .int .i64 c, .int .i64 f] := by
  have h : k = 0 ∨ k = 1 ∨ k = 2 ∨ k = 3 ∨ k = 4 ∨ k = 5 ∨ k = 6 ∨ k = 7 ∨ k = 8 ∨ k = 9 ∨ k = 10 ∨ k = 11 ∨ k = 12 ∨ k = 13 ∨ k = 14 ∨ k = 15 ∨ k = 16 ∨ k = 17 ∨ k = 18 ∨ k = 19 ∨ k = 20 ∨ k = 21 ∨ k = 22 ∨ k = 23 ∨ k = 24 ∨ k = 25 ∨ k = 26 ∨ k = 27 ∨ k = 28 ∨ k = 29 := by omega
  clear hk
  rcases h with rfl | rfl | rfl | rfl | rfl | rfl | rfl | rfl | rfl | rfl | rfl | rfl | rfl | rfl | rfl | rfl | rfl | rfl | rfl | rfl | rfl | rfl | rfl | rfl | rfl | rfl | rfl | rfl | rfl | rfl <;> exact ⟨_, _, _, rfl⟩
theorem infoOf_form (op : Int) : ∃ (s : ByteArray) (c f : Int), infoOf op = #[.string s, .int .i64 c, .int .i64 f] := by
  by_cases h : 0 ≤ op ∧ op ≤ 29
  · unfold infoOf
    rw [if_pos h]
    exact infoRow_form _ (by omega)
  · unfold infoOf
    rw [if_neg h]
    exact ⟨_, _, _, rfl⟩

theorem SInfo_any (op : Int) (w : World) : Calls Tryz.prog 98 #[.int .i64 op] w fun e w' => e = .returned (.agg (infoOf op)) ∧ Below w.heap.size w w' := by
  by_cases h : op < 0 ∨ 29 < op
  · rw [infoOf_out h]
    exact SInfo_out op w h
  · obtain ⟨k, rfl⟩ := Int.eq_ofNat_of_zero_le (show 0 ≤ op by omega)
    rw [infoOf_in k (by omega)]
    exact SInfo_in k (by omega) w

set_option maxRecDepth 100000 in
theorem field_rows (k : Nat) (hk : k < 30) (w : World) : (Instr.field 224 (.agg (rowCells k)) 0).run Tryz.prog w = .ok (.agg (infoRow k).toArray) w := by
  have h : k = 0 ∨ k = 1 ∨ k = 2 ∨ k = 3 ∨ k = 4 ∨ k = 5 ∨ k = 6 ∨ k = 7 ∨ k = 8 ∨ k = 9 ∨ k = 10 ∨ k = 11 ∨ k = 12 ∨ k = 13 ∨ k = 14 ∨ k = 15 ∨ k = 16 ∨ k = 17 ∨ k = 18 ∨ k = 19 ∨ k = 20 ∨ k = 21 ∨ k = 22 ∨ k = 23 ∨ k = 24 ∨ k = 25 ∨ k = 26 ∨ k = 27 ∨ k = 28 ∨ k = 29 := by omega
  clear hk
  rcases h with rfl | rfl | rfl | rfl | rfl | rfl | rfl | rfl | rfl | rfl | rfl | rfl | rfl | rfl | rfl | rfl | rfl | rfl | rfl | rfl | rfl | rfl | rfl | rfl | rfl | rfl | rfl | rfl | rfl | rfl <;> (show Sem.run _ _ _ = Result.ok _ _; kernel_rfl)
theorem field_zero (w : World) : (Instr.field 224 (.agg #[.string ⟨#[]⟩, .int .i64 0, .int .i64 0, .nilFunc]) 0).run Tryz.prog w = .ok (.agg #[.string ⟨#[]⟩, .int .i64 0, .int .i64 0]) w := by kernel_rfl

theorem Info_of (op : Int) (row : Value) (s : ByteArray) (c f : Int) (hi : infoOf op = #[.string s, .int .i64 c, .int .i64 f])
    (hrow : ∀ w, Calls Tryz.prog 174 #[.int .i64 op] w fun e w' => e = .returned row ∧ Below w.heap.size w w')
    (hf : ∀ w, (Instr.field 224 row 0).run Tryz.prog w = .ok (.agg #[.string s, .int .i64 c, .int .i64 f]) w) (w : World) :
    Calls Tryz.prog 156 #[.int .i64 op] w fun e w' => e = .returned (.agg (infoOf op)) ∧ Below w.heap.size w w' := by
  have hz := zero_info
  rw [hi]
  clear hi
  have H : Hid (∀ w, Calls Tryz.prog 174 #[.int .i64 op] w fun e w' => e = .returned row ∧ Below w.heap.size w w') := hrow
  clear hrow
  go_enter Tryz.func156, Tryz.ntmps156
  go_wp2_with (go_at_call 174; refine (H.out _).mono ?_; rintro e w1 ⟨rfl, hb⟩; have hrow : w1.heap[w.heap.size]? = some (.cells #[.string ⟨#[]⟩, .int .i64 0, .int .i64 0] 158) := (hb.block _ (by simp)).trans (heap_alloc_new _ _); have hc0 := cell_of_row w1 _ 0 _ _ _ hrow; have hc1 := cell_of_row w1 _ 1 _ _ _ hrow; have hc2 := cell_of_row w1 _ 2 _ _ _ hrow; have hz0 := frozen_of_row w1 _ 0 _ _ hrow; have hz1 := frozen_of_row w1 _ 1 _ _ hrow; have hz2 := frozen_of_row w1 _ 2 _ _ hrow; simp at hc0 hc1 hc2)
  refine bodyPost_ret (v := .agg #[.string s, .int .i64 c, .int .i64 f]) (by simp [results, Tryz.results156, go_sem, hc0, hc1, hc2]) rfl ⟨rfl, ?_⟩
  exact ((((((Below.refl _ _).alloc (Nat.le_refl _) _).trans (hb.mono (by simp))).setCell (by simp) _).setCell (by simp) _).setCell (by simp) _)
theorem Info_any (op : Int) (w : World) : Calls Tryz.prog 156 #[.int .i64 op] w fun e w' => e = .returned (.agg (infoOf op)) ∧ Below w.heap.size w w' := by
  by_cases h : op < 0 ∨ 29 < op
  · exact Info_of op _ _ _ _ (infoOf_out h) (fun w => rowOf_out op w h) field_zero w
  · obtain ⟨k, rfl⟩ := Int.eq_ofNat_of_zero_le (show 0 ≤ op by omega)
    obtain ⟨s, c, f, hs⟩ := infoRow_form k (by omega)
    exact Info_of _ _ s c f ((infoOf_in k (by omega)).trans hs) (fun w => rowOf_in k (by omega) w) (fun w => by rw [← hs]; exact field_rows k (by omega) w) w

end Go.Proofs.YtdfmdgbolmbffaaGreat
namespace Go.Proofs.YtdfmdgbolmbffaaGreat
open Go.ChangeShapes Go.WideShapes Go.ChangeAt Go.RowKit
set_option linter.unusedVariables false
theorem block_new (w : World) (cs : Array Value) (t : TypeId) : (w.alloc (.cells cs t)).heap[w.heap.size]? = some (.cells cs t (0, 0)) := Array.getElem?_push_size
theorem field_form (s : ByteArray) (c f : Int) (w : World) : (Instr.field 158 (.agg #[.string s, .int .i64 c, .int .i64 f]) 2).run Tryz.prog w = .ok (.int .i64 f) w := by kernel_rfl
/-- What is read of a function of the program. -/
theorem fn_at {w : World} {s : Value} {fs : List MF} {q : Nat} {f : MF} (h : RdFs w s fs) (hq : fs[q]? = some f) : ∃ gk ok ck, s = .slice (some ⟨gk, ok, none⟩) fs.length ck ∧ ∃ g : VF, RdF w g f ∧ w.cell? ⟨gk, ok + q * 4, none⟩ = some g.p ∧ w.cell? ⟨gk, ok + q * 4 + 1, none⟩ = some (.int .i64 f.result) ∧ w.cell? ⟨gk, ok + q * 4 + 2, none⟩ = some g.l ∧ w.cell? ⟨gk, ok + q * 4 + 3, none⟩ = some g.c := by
  obtain ⟨xs, h1, h2, h3⟩ := h
  have hlt := (List.getElem?_eq_some_iff.1 hq).1
  rcases h2.2 with ⟨e, _⟩ | ⟨gk, ok, ck, e, hc⟩
  · omega
  · obtain ⟨x, hx, hx1⟩ : ∃ x, xs[q]? = some x ∧ x.1 = f := by
      rw [← h1, List.getElem?_map] at hq
      cases hx : xs[q]? with
      | none => rw [hx] at hq; cases hq
      | some x => rw [hx] at hq; exact ⟨x, rfl, Option.some.inj hq⟩
    subst hx1
    exact ⟨gk, ok, ck, e, x.2, h3 x (List.mem_of_getElem? hx), Rd.elem fCells_length hc q x hx 0 _ rfl, Rd.elem fCells_length hc q x hx 1 _ rfl, Rd.elem fCells_length hc q x hx 2 _ rfl, Rd.elem fCells_length hc q x hx 3 _ rfl⟩
theorem in_at {w : World} {s : Value} {is : List MI} {q : Nat} {x : MI} (h : Rd w 4 s is.length (is.flatMap MI.cells)) (hq : is[q]? = some x) : ∃ gk ok ck, s = .slice (some ⟨gk, ok, none⟩) is.length ck ∧ w.cell? ⟨gk, ok + q * 4, none⟩ = some (.int .i64 x.op) ∧ w.cell? ⟨gk, ok + q * 4 + 1, none⟩ = some (.int .i64 x.a) ∧ w.cell? ⟨gk, ok + q * 4 + 2, none⟩ = some (.int .i64 x.b) ∧ w.cell? ⟨gk, ok + q * 4 + 3, none⟩ = some (.int .i64 x.c) := by
  have hlt := (List.getElem?_eq_some_iff.1 hq).1
  rcases h.2 with ⟨e, _⟩ | ⟨gk, ok, ck, e, hc⟩
  · omega
  · exact ⟨gk, ok, ck, e, Rd.elem MI.cells_length hc q x hq 0 _ rfl, Rd.elem MI.cells_length hc q x hq 1 _ rfl, Rd.elem MI.cells_length hc q x hq 2 _ rfl, Rd.elem MI.cells_length hc q x hq 3 _ rfl⟩
end Go.Proofs.YtdfmdgbolmbffaaGreat
namespace Go.Proofs.YtdfmdgbolmbffaaGreat
open Go.ChangeShapes Go.WideShapes Go.ChangeAt Go.RowKit
set_option linter.unusedVariables false
/-- A world that has come of w by growth alone. -/
structure Grown (w : World) where
  u : World
  h : Below w.heap.size w u
theorem Grown.some (w : World) : Nonempty (Grown w) := ⟨⟨w, Below.refl _ _⟩⟩
theorem wp_region_grown {P : Program} {id : Nat} {Q : Exit → Act → World → Prop} {a : Act} {w : World} {l : List Oper} (hm : P.follows .mixedOrders = true) (hB : Region.lexB .any l.toArray = true)
    (h : wpQuiet P l.toArray (fun w' => ∃ n : Grown w, w' = n.u) (fun a' => ∀ w', (∃ n : Grown w, w' = n.u) → Q .normal a' w') l a) : (Code.region id l.toArray true).wp P Q a w :=
  wp_region_quiet (C := fun w' => ∃ n : Grown w, w' = n.u) hm hB ⟨⟨_, below_drew1 w⟩, rfl⟩ (by simpa using h)
theorem SaysIff.true {e : Ending} {q : Prop} (h : SaysIff e q) (hq : q) : e = .returned (.bool true) := by
  obtain ⟨b, rfl, hb⟩ := h
  rw [hb.2 hq]
theorem SaysIff.false {e : Ending} {q : Prop} (h : SaysIff e q) (hq : ¬ q) : e = .returned (.bool false) := by
  obtain ⟨b, rfl, hb⟩ := h
  cases b
  · rfl
  · exact absurd (hb.1 rfl) hq
theorem Grown.cell {w : World} {a : Addr} {x : Value} (h : w.cell? a = Option.some x) (n : Grown w) : n.u.cell? a = Option.some x := by rw [n.h.cell (block_lt_of_cell h)]; exact h
end Go.Proofs.YtdfmdgbolmbffaaGreat
