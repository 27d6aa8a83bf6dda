import Derived.Test.YthifelgdkmkdkaaGreatDoorFm29
import Derived.Test.YthifelgdkmkdkaaGreatDoorFm32
import Derived.Test.YthifelgdkmkdkaaGreatDoorFm10
namespace Go.Proofs.YthifelgdkmkdkaaGreatDoor
open Go.ChangeShapes Go.WideShapes Go.ChangeAt Go.RowKit
set_option linter.unusedVariables false
/-- The places of an instruction's cells that a form names. -/
def offsL (F : Int) : List Nat :=
  if F = 1 ∨ F = 2 ∨ F = 5 ∨ F = 6 ∨ F = 7 ∨ F = 11 then [1] else if F = 3 ∨ F = 8 then [1, 2] else if F = 4 then [1, 2, 3] else if F = 9 then [3] else if F = 10 then [1, 3] else []
def ptrCell (b o : Nat) : List Value := [.pointer (some ⟨b, o, none⟩)]
theorem ptrCell_length (b o : Nat) : (ptrCell b o).length = 1 := rfl
def offAt (op a b c : Int) (o : Nat) : Int := if o = 0 then op else if o = 1 then a else if o = 2 then b else c
theorem named_offs (F op a b c : Int) : namedL F a b c = (offsL F).map (offAt op a b c) := by
  unfold namedL offsL
  repeat' split
  all_goals rfl
theorem offs_le (F : Int) : (offsL F).length ≤ 3 := by
  unfold offsL
  repeat' split
  all_goals simp
theorem offs_in (F : Int) : ∀ o ∈ offsL F, o ≤ 3 := by
  unfold offsL
  repeat' split
  all_goals simp
theorem formOf_in {op : Int} (h : 0 ≤ op ∧ op ≤ 29) : 0 ≤ formOf op ∧ formOf op ≤ 11 := by
  obtain ⟨k, rfl⟩ := Int.eq_ofNat_of_zero_le h.1
  exact (formOf_nat k (by omega)).1
set_option maxHeartbeats 2000000 in
set_option maxRecDepth 100000 in
theorem named_any (X : Nat) (op a b c : Int) (w : World) (hop : 0 ≤ op ∧ op ≤ 29) (h : Blk w X #[.int .i64 op, .int .i64 a, .int .i64 b, .int .i64 c] 55) :
    Calls Tryz.prog 74 #[.pointer (some ⟨X, 0, none⟩)] w fun e w' => ∃ V, e = .returned V ∧ w'.ownsRow w.heap.size 133 1 V (offsL (formOf op)).length ((offsL (formOf op)).flatMap (ptrCell X)) ∧ Below w.heap.size w w' := by
  obtain ⟨co, hinf⟩ := infoOf_all op
  have hF := formOf_in hop
  have i0 : w.cell? ⟨X, 0, none⟩ = some (.int .i64 op) := h.cell 0
  have hfi := info_field
  clear h hop
  go_enter Tryz.func74, Tryz.ntmps74
  go_wp2_with fail
  refine (Info_any op _).mono ?_
  rintro e u ⟨rfl, bl⟩
  rw [hinf]
  clear hinf i0
  have HB : Hid (Below w.heap.size w u) := bl
  have hsz := bl.size
  clear bl
  unfold strV
  generalize hFF : formOf op = F at *
  have HF : Hid (formOf op = F) := hFF
  clear hFF
  have hFF : F = 0 ∨ F = 1 ∨ F = 2 ∨ F = 3 ∨ F = 4 ∨ F = 5 ∨ F = 6 ∨ F = 7 ∨ F = 8 ∨ F = 9 ∨ F = 10 ∨ F = 11 := by omega
  clear hF
  rcases hFF with rfl | rfl | rfl | rfl | rfl | rfl | rfl | rfl | rfl | rfl | rfl | rfl
  · go_wp2
    go_ret
    exact ⟨_, rfl, by rw [HF.out]; exact World.ownsRow_nil _ _ _ _, HB.out⟩
  · go_wp2
    go_ret
    exact ⟨_, rfl, by rw [HF.out]; exact World.ownsRow_lit (base := w.heap.size) (e := 133) (size := 1) u #[.pointer (some ⟨X, 1, none⟩)] 1 hsz (by unfold maxLen; omega) (by simp), below_on HB.out (Nat.le_refl _) (below_alloc _ _)⟩
  · go_wp2
    go_ret
    exact ⟨_, rfl, by rw [HF.out]; exact World.ownsRow_lit (base := w.heap.size) (e := 133) (size := 1) u #[.pointer (some ⟨X, 1, none⟩)] 1 hsz (by unfold maxLen; omega) (by simp), below_on HB.out (Nat.le_refl _) (below_alloc _ _)⟩
  · go_wp2
    go_region
    all_goals
      go_wp2
      go_ret
      exact ⟨_, rfl, by rw [HF.out]; exact World.ownsRow_lit (base := w.heap.size) (e := 133) (size := 1) u #[.pointer (some ⟨X, 1, none⟩), .pointer (some ⟨X, 2, none⟩)] 2 hsz (by unfold maxLen; omega) (by simp), below_on (below_on HB.out (Nat.le_refl _) (below_alloc _ _)) (Nat.le_refl _) (below_drew1 _)⟩
  · go_wp2
    go_region
    all_goals
      go_wp2
      go_ret
      exact ⟨_, rfl, by rw [HF.out]; exact World.ownsRow_lit (base := w.heap.size) (e := 133) (size := 1) u #[.pointer (some ⟨X, 1, none⟩), .pointer (some ⟨X, 2, none⟩), .pointer (some ⟨X, 3, none⟩)] 3 hsz (by unfold maxLen; omega) (by simp), below_on (below_on HB.out (Nat.le_refl _) (below_alloc _ _)) (Nat.le_refl _) (below_drew1 _)⟩
  · go_wp2
    go_ret
    exact ⟨_, rfl, by rw [HF.out]; exact World.ownsRow_lit (base := w.heap.size) (e := 133) (size := 1) u #[.pointer (some ⟨X, 1, none⟩)] 1 hsz (by unfold maxLen; omega) (by simp), below_on HB.out (Nat.le_refl _) (below_alloc _ _)⟩
  · go_wp2
    go_ret
    exact ⟨_, rfl, by rw [HF.out]; exact World.ownsRow_lit (base := w.heap.size) (e := 133) (size := 1) u #[.pointer (some ⟨X, 1, none⟩)] 1 hsz (by unfold maxLen; omega) (by simp), below_on HB.out (Nat.le_refl _) (below_alloc _ _)⟩
  · go_wp2
    go_ret
    exact ⟨_, rfl, by rw [HF.out]; exact World.ownsRow_lit (base := w.heap.size) (e := 133) (size := 1) u #[.pointer (some ⟨X, 1, none⟩)] 1 hsz (by unfold maxLen; omega) (by simp), below_on HB.out (Nat.le_refl _) (below_alloc _ _)⟩
  · go_wp2
    go_region
    all_goals
      go_wp2
      go_ret
      exact ⟨_, rfl, by rw [HF.out]; exact World.ownsRow_lit (base := w.heap.size) (e := 133) (size := 1) u #[.pointer (some ⟨X, 1, none⟩), .pointer (some ⟨X, 2, none⟩)] 2 hsz (by unfold maxLen; omega) (by simp), below_on (below_on HB.out (Nat.le_refl _) (below_alloc _ _)) (Nat.le_refl _) (below_drew1 _)⟩
  · go_wp2
    go_ret
    exact ⟨_, rfl, by rw [HF.out]; exact World.ownsRow_lit (base := w.heap.size) (e := 133) (size := 1) u #[.pointer (some ⟨X, 3, none⟩)] 1 hsz (by unfold maxLen; omega) (by simp), below_on HB.out (Nat.le_refl _) (below_alloc _ _)⟩
  · go_wp2
    go_region
    all_goals
      go_wp2
      go_ret
      exact ⟨_, rfl, by rw [HF.out]; exact World.ownsRow_lit (base := w.heap.size) (e := 133) (size := 1) u #[.pointer (some ⟨X, 1, none⟩), .pointer (some ⟨X, 3, none⟩)] 2 hsz (by unfold maxLen; omega) (by simp), below_on (below_on HB.out (Nat.le_refl _) (below_alloc _ _)) (Nat.le_refl _) (below_drew1 _)⟩
  · go_wp2
    go_ret
    exact ⟨_, rfl, by rw [HF.out]; exact World.ownsRow_lit (base := w.heap.size) (e := 133) (size := 1) u #[.pointer (some ⟨X, 1, none⟩)] 1 hsz (by unfold maxLen; omega) (by simp), below_on HB.out (Nat.le_refl _) (below_alloc _ _)⟩
set_option maxHeartbeats 2000000 in
set_option maxRecDepth 100000 in
theorem namesTypes_any (op a b c : Int) (w : World) (hop : 0 ≤ op ∧ op ≤ 29) :
    Calls Tryz.prog 75 #[.agg #[.int .i64 op, .int .i64 a, .int .i64 b, .int .i64 c]] w fun e w' => e = .returned (.bool (namesT (formOf op))) ∧ Below w.heap.size w w' := by
  obtain ⟨co, hinf⟩ := infoOf_all op
  have hF := formOf_in hop
  have I0 := At4.new w (.int .i64 op) (.int .i64 a) (.int .i64 b) (.int .i64 c) 55
  have i0 := I0.c0
  have hfi := info_field
  clear hop I0
  go_enter Tryz.func75, Tryz.ntmps75
  go_wp2_with fail
  refine (Info_any op _).mono ?_
  rintro e u ⟨rfl, bl⟩
  rw [hinf]
  clear hinf i0
  have HB : Hid (Below w.heap.size w u) := below_on (below_alloc _ _) (Nat.le_refl _) bl
  clear bl
  unfold strV
  generalize hFF : formOf op = F at *
  have HF : Hid (formOf op = F) := hFF
  clear hFF
  have hFF : F = 0 ∨ F = 1 ∨ F = 2 ∨ F = 3 ∨ F = 4 ∨ F = 5 ∨ F = 6 ∨ F = 7 ∨ F = 8 ∨ F = 9 ∨ F = 10 ∨ F = 11 := by omega
  clear hF
  rcases hFF with rfl | rfl | rfl | rfl | rfl | rfl | rfl | rfl | rfl | rfl | rfl | rfl
  all_goals
    go_wp2
    go_ret
    exact ⟨by rw [HF.out]; rfl, HB.out⟩
end Go.Proofs.YthifelgdkmkdkaaGreatDoor
