import Derived.Test.YtalkpddhpmjgcaaGreatCm29
namespace Go.Proofs.YtalkpddhpmjgcaaGreat
open Go.ChangeShapes Go.WideShapes Go.ChangeAt Go.RowKit
set_option linter.unusedVariables false

/-- What Info answers. -/
def infoOf (op : Int) : Array Value := if 0 ≤ op ∧ op ≤ 29 then (infoRow op.toNat).toArray else #[.string ⟨#[]⟩, .int .i64 0, .int .i64 0]
theorem infoOf_in (k : Nat) (hk : k < 30) : infoOf (k : Int) = (infoRow k).toArray := by
  unfold infoOf
  rw [if_pos (by omega)]
  rfl
theorem infoOf_out {op : Int} (h : op < 0 ∨ 29 < op) : infoOf op = #[.string ⟨#[]⟩, .int .i64 0, .int .i64 0] := by
  unfold infoOf
  rw [if_neg (by omega)]
set_option maxRecDepth 100000 in
theorem infoRow_form (k : Nat) (hk : k < 30) : ∃ (s : ByteArray) (c f : Int), (infoRow k).toArray = #[.string s, .int .i64 c, .int .i64 f] := by
  have h : k = 0 ∨ k = 1 ∨ k = 2 ∨ k = 3 ∨ k = 4 ∨ k = 5 ∨ k = 6 ∨ k = 7 ∨ k = 8 ∨ k = 9 ∨ k = 10 ∨ k = 11 ∨ k = 12 ∨ k = 13 ∨ k = 14 ∨ k = 15 ∨ k = 16 ∨ k = 17 ∨ k = 18 ∨ k = 19 ∨ k = 20 ∨ k = 21 ∨ k = 22 ∨ k = 23 ∨ k = 24 ∨ k = 25 ∨ k = 26 ∨ k = 27 ∨ k = 28 ∨ k = 29 := by omega
  clear hk
  rcases h with rfl | rfl | rfl | rfl | rfl | rfl | rfl | rfl | rfl | rfl | rfl | rfl | rfl | rfl | rfl | rfl | rfl | rfl | rfl | rfl | rfl | rfl | rfl | rfl | rfl | rfl | rfl | rfl | rfl | rfl <;> exact ⟨_, _, _, rfl⟩
theorem infoOf_form (op : Int) : ∃ (s : ByteArray) (c f : Int), infoOf op = #[.string s, .int .i64 c, .int .i64 f] := by
  by_cases h : 0 ≤ op ∧ op ≤ 29
  · unfold infoOf
    rw [if_pos h]
    exact infoRow_form _ (by omega)
  · unfold infoOf
    rw [if_neg h]
    exact ⟨_, _, _, rfl⟩

theorem SInfo_any (op : Int) (w : World) : Calls Tryz.prog 71 #[.int .i64 op] w fun e w' => e = .returned (.agg (infoOf op)) ∧ Below w.heap.size w w' := by
  by_cases h : op < 0 ∨ 29 < op
  · rw [infoOf_out h]
    exact SInfo_out op w h
  · obtain ⟨k, rfl⟩ := Int.eq_ofNat_of_zero_le (show 0 ≤ op by omega)
    rw [infoOf_in k (by omega)]
    exact SInfo_in k (by omega) w

set_option maxRecDepth 100000 in
theorem field_rows (k : Nat) (hk : k < 30) (w : World) : (Instr.field 168 (.agg (rowCells k)) 0).run Tryz.prog w = .ok (.agg (infoRow k).toArray) w := by
  have h : k = 0 ∨ k = 1 ∨ k = 2 ∨ k = 3 ∨ k = 4 ∨ k = 5 ∨ k = 6 ∨ k = 7 ∨ k = 8 ∨ k = 9 ∨ k = 10 ∨ k = 11 ∨ k = 12 ∨ k = 13 ∨ k = 14 ∨ k = 15 ∨ k = 16 ∨ k = 17 ∨ k = 18 ∨ k = 19 ∨ k = 20 ∨ k = 21 ∨ k = 22 ∨ k = 23 ∨ k = 24 ∨ k = 25 ∨ k = 26 ∨ k = 27 ∨ k = 28 ∨ k = 29 := by omega
  clear hk
  rcases h with rfl | rfl | rfl | rfl | rfl | rfl | rfl | rfl | rfl | rfl | rfl | rfl | rfl | rfl | rfl | rfl | rfl | rfl | rfl | rfl | rfl | rfl | rfl | rfl | rfl | rfl | rfl | rfl | rfl | rfl <;> (show Sem.run _ _ _ = Result.ok _ _; kernel_rfl)
theorem field_zero (w : World) : (Instr.field 168 (.agg #[.string ⟨#[]⟩, .int .i64 0, .int .i64 0, .nilFunc]) 0).run Tryz.prog w = .ok (.agg #[.string ⟨#[]⟩, .int .i64 0, .int .i64 0]) w := by kernel_rfl

theorem Info_of (op : Int) (row : Value) (s : ByteArray) (c f : Int) (hi : infoOf op = #[.string s, .int .i64 c, .int .i64 f])
    (hrow : ∀ w, Calls Tryz.prog 103 #[.int .i64 op] w fun e w' => e = .returned row ∧ Below w.heap.size w w')
    (hf : ∀ w, (Instr.field 168 row 0).run Tryz.prog w = .ok (.agg #[.string s, .int .i64 c, .int .i64 f]) w) (w : World) :
    Calls Tryz.prog 95 #[.int .i64 op] w fun e w' => e = .returned (.agg (infoOf op)) ∧ Below w.heap.size w w' := by
  have hz := zero_info
  rw [hi]
  clear hi
  have H : Hid (∀ w, Calls Tryz.prog 103 #[.int .i64 op] w fun e w' => e = .returned row ∧ Below w.heap.size w w') := hrow
  clear hrow
  go_enter Tryz.func95, Tryz.ntmps95
  go_wp2_with (go_at_call 103; refine (H.out _).mono ?_; rintro e w1 ⟨rfl, hb⟩; have hrow : w1.heap[w.heap.size]? = some (.cells #[.string ⟨#[]⟩, .int .i64 0, .int .i64 0] 118) := (hb.block _ (by simp)).trans (heap_alloc_new _ _); have hc0 := cell_of_row w1 _ 0 _ _ _ hrow; have hc1 := cell_of_row w1 _ 1 _ _ _ hrow; have hc2 := cell_of_row w1 _ 2 _ _ _ hrow; have hz0 := frozen_of_row w1 _ 0 _ _ hrow; have hz1 := frozen_of_row w1 _ 1 _ _ hrow; have hz2 := frozen_of_row w1 _ 2 _ _ hrow; simp at hc0 hc1 hc2)
  refine bodyPost_ret (v := .agg #[.string s, .int .i64 c, .int .i64 f]) (by simp [results, Tryz.results95, go_sem, hc0, hc1, hc2]) rfl ⟨rfl, ?_⟩
  exact ((((((Below.refl _ _).alloc (Nat.le_refl _) _).trans (hb.mono (by simp))).setCell (by simp) _).setCell (by simp) _).setCell (by simp) _)
theorem Info_any (op : Int) (w : World) : Calls Tryz.prog 95 #[.int .i64 op] w fun e w' => e = .returned (.agg (infoOf op)) ∧ Below w.heap.size w w' := by
  by_cases h : op < 0 ∨ 29 < op
  · exact Info_of op _ _ _ _ (infoOf_out h) (fun w => rowOf_out op w h) field_zero w
  · obtain ⟨k, rfl⟩ := Int.eq_ofNat_of_zero_le (show 0 ≤ op by omega)
    obtain ⟨s, c, f, hs⟩ := infoRow_form k (by omega)
    exact Info_of _ _ s c f ((infoOf_in k (by omega)).trans hs) (fun w => rowOf_in k (by omega) w) (fun w => by rw [← hs]; exact field_rows k (by omega) w) w

end Go.Proofs.YtalkpddhpmjgcaaGreat
