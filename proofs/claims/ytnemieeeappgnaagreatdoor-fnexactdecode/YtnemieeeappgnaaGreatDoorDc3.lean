import Derived.Test.YtnemieeeappgnaaGreatDoorDc2
import Derived.Deep.RegionWith
namespace Go.Proofs.YtnemieeeappgnaaGreatDoor
open Go.ChangeShapes Go.WideShapes Go.ChangeAt Go.RowKit
set_option linter.unusedVariables false
theorem below_drewN (B : Nat) (w : World) (nq : Nat) : Below B w (w.drewN nq) := ⟨rfl, rfl, rfl, Nat.le_refl _, fun _ _ => rfl⟩
theorem below_drew_trans {w u : World} (h : Below w.drew.heap.size w.drew u) {B : Nat} (hB : B ≤ w.heap.size) : Below B w u := ⟨h.os, h.tape, h.output, h.size, fun k hk => h.block k (Nat.lt_of_lt_of_le hk hB)⟩
set_option maxHeartbeats 1000000 in
theorem eqInt64S_quiet (s s' : Value) (ys : List Int) (w : World) (hn : ys.length ≤ 140737488355328) (h : Rd w 1 s ys.length (ys.flatMap intCell)) (h' : Rd w 1 s' ys.length (ys.flatMap intCell)) :
    Calls Tryz.prog 66 #[s, s'] w fun e w' => e = .returned (.bool true) ∧ ∃ m, w' = w.drewN m := by
  have H1 : Hid (Rd w 1 s ys.length (ys.flatMap intCell)) := h
  have H2 : Hid (Rd w 1 s' ys.length (ys.flatMap intCell)) := h'
  obtain ⟨a1, c1, rfl⟩ := h.is_slice
  obtain ⟨a2, c2, rfl⟩ := h'.is_slice
  clear h h'
  generalize hLL : ys.length = n at hn H1 H2
  have HL : Hid (ys.length = n) := hLL
  clear hLL
  go_enter Tryz.func66, Tryz.ntmps66
  go_wp2
  go_loopw [5] (fun i wr => ∃ k : Nat, k ≤ n ∧ i = .int .i64 k ∧ ∃ m, wr = w.drewN m) (fun i _ => n - (intOf i).toNat)
  case atStart => exact ⟨0, by omega, rfl, 0, rfl⟩
  case round =>
    obtain ⟨k, hk, rfl, m, rfl⟩ := hrel
    by_cases hlt : k < n
    · obtain ⟨x, hx⟩ : ∃ x, ys[k]? = some x := ⟨_, List.getElem?_eq_getElem (by rw [HL.out]; exact hlt)⟩
      rcases H1.out.2 with ⟨e0, _⟩ | ⟨g, o, c, e1, hc1⟩
      · omega
      · rcases H2.out.2 with ⟨e0, _⟩ | ⟨g', o', c', e2, hc2⟩
        · omega
        · simp only [Value.slice.injEq, true_and] at e1 e2
          obtain ⟨rfl, rfl⟩ := e1
          obtain ⟨rfl, rfl⟩ := e2
          have i0 := Rd.elem intCell_length hc1 k x hx 0 _ rfl
          have j0 := Rd.elem intCell_length hc2 k x hx 0 _ rfl
          rw [Nat.mul_one, Nat.add_zero] at i0 j0
          clear hc1 hc2 hx
          go_wp2
          go_quiet (fail)
          go_wp2
          go_roundw
          case rel => exact ⟨k + 1, by omega, by go_num, _, rfl⟩
          case measure => simp [intOf]; omega
    · go_wp2
      go_ret
      exact ⟨rfl, _, rfl⟩
theorem eqInt64S_same (s s' : Value) (ys : List Int) (w : World) (hn : ys.length ≤ 140737488355328) (h : Rd w 1 s ys.length (ys.flatMap intCell)) (h' : Rd w 1 s' ys.length (ys.flatMap intCell)) :
    Calls Tryz.prog 66 #[s, s'] w fun e w' => e = .returned (.bool true) ∧ Below w.heap.size w w' :=
  (eqInt64S_quiet s s' ys w hn h h').mono fun e w' ⟨h1, m, h2⟩ => ⟨h1, h2 ▸ below_drewN _ _ _⟩
set_option maxHeartbeats 1000000 in
theorem eqInstr_same (x : MI) (w : World) :
    Calls Tryz.prog 98 #[.agg #[.int .i64 x.op, .int .i64 x.a, .int .i64 x.b, .int .i64 x.c], .agg #[.int .i64 x.op, .int .i64 x.a, .int .i64 x.b, .int .i64 x.c]] w fun e w' => e = .returned (.bool true) ∧ Below w.heap.size w w' := by
  go_enter Tryz.func98, Tryz.ntmps98
  go_wp2
  go_ret
  exact ⟨rfl, (((Below.refl _ _).alloc (Nat.le_refl _) _).alloc (by simp) _)⟩
set_option maxHeartbeats 1000000 in
theorem eqConst_same (x : MC) (w : World) :
    Calls Tryz.prog 67 #[.agg #[.int .i64 x.type, .int .u32 x.word], .agg #[.int .i64 x.type, .int .u32 x.word]] w fun e w' => e = .returned (.bool true) ∧ Below w.heap.size w w' := by
  go_enter Tryz.func67, Tryz.ntmps67
  go_wp2
  go_ret
  exact ⟨rfl, (((Below.refl _ _).alloc (Nat.le_refl _) _).alloc (by simp) _)⟩
set_option maxHeartbeats 1000000 in
theorem eqCert_same (x : MT) (w : World) :
    Calls Tryz.prog 69 #[.agg #[.int .i64 x.func, .int .i64 x.head, .int .i64 x.counter, .int .u32 x.init], .agg #[.int .i64 x.func, .int .i64 x.head, .int .i64 x.counter, .int .u32 x.init]] w fun e w' => e = .returned (.bool true) ∧ Below w.heap.size w w' := by
  go_enter Tryz.func69, Tryz.ntmps69
  go_wp2
  go_ret
  exact ⟨rfl, (((Below.refl _ _).alloc (Nat.le_refl _) _).alloc (by simp) _)⟩
set_option maxHeartbeats 1000000 in
theorem eqInstrS_same (s s' : Value) (ys : List MI) (w : World) (hn : ys.length ≤ 1048576) (h : Rd w 4 s ys.length (ys.flatMap MI.cells)) (h' : Rd w 4 s' ys.length (ys.flatMap MI.cells)) :
    Calls Tryz.prog 90 #[s, s'] w fun e w' => e = .returned (.bool true) ∧ Below w.heap.size w w' := by
  have H1 : Hid (Rd w 4 s ys.length (ys.flatMap MI.cells)) := h
  have H2 : Hid (Rd w 4 s' ys.length (ys.flatMap MI.cells)) := h'
  obtain ⟨a1, c1, rfl⟩ := h.is_slice
  obtain ⟨a2, c2, rfl⟩ := h'.is_slice
  clear h h'
  generalize hLL : ys.length = n at hn H1 H2
  have HL : Hid (ys.length = n) := hLL
  clear hLL
  go_enter Tryz.func90, Tryz.ntmps90
  go_wp2
  go_loopw [5] (fun i wr => ∃ k : Nat, k ≤ n ∧ i = .int .i64 k ∧ Below w.heap.size w wr) (fun i _ => n - (intOf i).toNat)
  case atStart => exact ⟨0, by omega, rfl, Below.refl _ _⟩
  case round =>
    obtain ⟨k, hk, rfl, hbel⟩ := hrel
    have HB : Hid (Below w.heap.size w wr) := hbel
    clear hbel
    by_cases hlt : k < n
    · obtain ⟨x, hx⟩ : ∃ x, ys[k]? = some x := ⟨_, List.getElem?_eq_getElem (by rw [HL.out]; exact hlt)⟩
      rcases H1.out.2 with ⟨e0, _⟩ | ⟨g, o, c, e1, hc1⟩
      · omega
      · rcases H2.out.2 with ⟨e0, _⟩ | ⟨g', o', c', e2, hc2⟩
        · omega
        · simp only [Value.slice.injEq, true_and] at e1 e2
          obtain ⟨rfl, rfl⟩ := e1
          obtain ⟨rfl, rfl⟩ := e2
          have i0 := Rd.elem MI.cells_length hc1 k x hx 0 _ rfl
          have i1 := Rd.elem MI.cells_length hc1 k x hx 1 _ rfl
          have i2 := Rd.elem MI.cells_length hc1 k x hx 2 _ rfl
          have i3 := Rd.elem MI.cells_length hc1 k x hx 3 _ rfl
          have j0 := Rd.elem MI.cells_length hc2 k x hx 0 _ rfl
          have j1 := Rd.elem MI.cells_length hc2 k x hx 1 _ rfl
          have j2 := Rd.elem MI.cells_length hc2 k x hx 2 _ rfl
          have j3 := Rd.elem MI.cells_length hc2 k x hx 3 _ rfl
          rw [← HB.out.cell (block_lt_of_cell i0), Nat.add_zero] at i0
          rw [← HB.out.cell (block_lt_of_cell i1)] at i1
          rw [← HB.out.cell (block_lt_of_cell i2)] at i2
          rw [← HB.out.cell (block_lt_of_cell i3)] at i3
          rw [← HB.out.cell (block_lt_of_cell j0), Nat.add_zero] at j0
          rw [← HB.out.cell (block_lt_of_cell j1)] at j1
          rw [← HB.out.cell (block_lt_of_cell j2)] at j2
          rw [← HB.out.cell (block_lt_of_cell j3)] at j3
          clear hc1 hc2 hx
          go_wp2_with fail
          go_region_with (go_at_call 98; refine (eqInstr_same x _).mono ?_; rintro e u ⟨rfl, hbu⟩)
          all_goals
            have HB2 : Hid (Below w.heap.size w u) := HB.out.trans (below_drew_trans hbu HB.out.size)
            clear hbu HB i0 i1 i2 i3 j0 j1 j2 j3
            go_wp2
            go_roundw
            case rel => exact ⟨k + 1, by omega, by go_num, HB2.out⟩
            case measure => simp [intOf]; omega
    · go_wp2
      go_ret
      exact ⟨rfl, HB.out⟩
set_option maxHeartbeats 1000000 in
theorem eqCertS_same (s s' : Value) (ys : List MT) (w : World) (hn : ys.length ≤ 1048576) (h : Rd w 4 s ys.length (ys.flatMap MT.cells)) (h' : Rd w 4 s' ys.length (ys.flatMap MT.cells)) :
    Calls Tryz.prog 35 #[s, s'] w fun e w' => e = .returned (.bool true) ∧ Below w.heap.size w w' := by
  have H1 : Hid (Rd w 4 s ys.length (ys.flatMap MT.cells)) := h
  have H2 : Hid (Rd w 4 s' ys.length (ys.flatMap MT.cells)) := h'
  obtain ⟨a1, c1, rfl⟩ := h.is_slice
  obtain ⟨a2, c2, rfl⟩ := h'.is_slice
  clear h h'
  generalize hLL : ys.length = n at hn H1 H2
  have HL : Hid (ys.length = n) := hLL
  clear hLL
  go_enter Tryz.func35, Tryz.ntmps35
  go_wp2
  go_loopw [5] (fun i wr => ∃ k : Nat, k ≤ n ∧ i = .int .i64 k ∧ Below w.heap.size w wr) (fun i _ => n - (intOf i).toNat)
  case atStart => exact ⟨0, by omega, rfl, Below.refl _ _⟩
  case round =>
    obtain ⟨k, hk, rfl, hbel⟩ := hrel
    have HB : Hid (Below w.heap.size w wr) := hbel
    clear hbel
    by_cases hlt : k < n
    · obtain ⟨x, hx⟩ : ∃ x, ys[k]? = some x := ⟨_, List.getElem?_eq_getElem (by rw [HL.out]; exact hlt)⟩
      rcases H1.out.2 with ⟨e0, _⟩ | ⟨g, o, c, e1, hc1⟩
      · omega
      · rcases H2.out.2 with ⟨e0, _⟩ | ⟨g', o', c', e2, hc2⟩
        · omega
        · simp only [Value.slice.injEq, true_and] at e1 e2
          obtain ⟨rfl, rfl⟩ := e1
          obtain ⟨rfl, rfl⟩ := e2
          have i0 := Rd.elem MT.cells_length hc1 k x hx 0 _ rfl
          have i1 := Rd.elem MT.cells_length hc1 k x hx 1 _ rfl
          have i2 := Rd.elem MT.cells_length hc1 k x hx 2 _ rfl
          have i3 := Rd.elem MT.cells_length hc1 k x hx 3 _ rfl
          have j0 := Rd.elem MT.cells_length hc2 k x hx 0 _ rfl
          have j1 := Rd.elem MT.cells_length hc2 k x hx 1 _ rfl
          have j2 := Rd.elem MT.cells_length hc2 k x hx 2 _ rfl
          have j3 := Rd.elem MT.cells_length hc2 k x hx 3 _ rfl
          rw [← HB.out.cell (block_lt_of_cell i0), Nat.add_zero] at i0
          rw [← HB.out.cell (block_lt_of_cell i1)] at i1
          rw [← HB.out.cell (block_lt_of_cell i2)] at i2
          rw [← HB.out.cell (block_lt_of_cell i3)] at i3
          rw [← HB.out.cell (block_lt_of_cell j0), Nat.add_zero] at j0
          rw [← HB.out.cell (block_lt_of_cell j1)] at j1
          rw [← HB.out.cell (block_lt_of_cell j2)] at j2
          rw [← HB.out.cell (block_lt_of_cell j3)] at j3
          clear hc1 hc2 hx
          go_wp2_with fail
          go_region_with (go_at_call 69; refine (eqCert_same x _).mono ?_; rintro e u ⟨rfl, hbu⟩)
          all_goals
            have HB2 : Hid (Below w.heap.size w u) := HB.out.trans (below_drew_trans hbu HB.out.size)
            clear hbu HB i0 i1 i2 i3 j0 j1 j2 j3
            go_wp2
            go_roundw
            case rel => exact ⟨k + 1, by omega, by go_num, HB2.out⟩
            case measure => simp [intOf]; omega
    · go_wp2
      go_ret
      exact ⟨rfl, HB.out⟩
set_option maxHeartbeats 1000000 in
theorem eqConstS_same (s s' : Value) (ys : List MC) (w : World) (hn : ys.length ≤ 1048576) (h : Rd w 2 s ys.length (ys.flatMap MC.cells)) (h' : Rd w 2 s' ys.length (ys.flatMap MC.cells)) :
    Calls Tryz.prog 33 #[s, s'] w fun e w' => e = .returned (.bool true) ∧ Below w.heap.size w w' := by
  have H1 : Hid (Rd w 2 s ys.length (ys.flatMap MC.cells)) := h
  have H2 : Hid (Rd w 2 s' ys.length (ys.flatMap MC.cells)) := h'
  obtain ⟨a1, c1, rfl⟩ := h.is_slice
  obtain ⟨a2, c2, rfl⟩ := h'.is_slice
  clear h h'
  generalize hLL : ys.length = n at hn H1 H2
  have HL : Hid (ys.length = n) := hLL
  clear hLL
  go_enter Tryz.func33, Tryz.ntmps33
  go_wp2
  go_loopw [5] (fun i wr => ∃ k : Nat, k ≤ n ∧ i = .int .i64 k ∧ Below w.heap.size w wr) (fun i _ => n - (intOf i).toNat)
  case atStart => exact ⟨0, by omega, rfl, Below.refl _ _⟩
  case round =>
    obtain ⟨k, hk, rfl, hbel⟩ := hrel
    have HB : Hid (Below w.heap.size w wr) := hbel
    clear hbel
    by_cases hlt : k < n
    · obtain ⟨x, hx⟩ : ∃ x, ys[k]? = some x := ⟨_, List.getElem?_eq_getElem (by rw [HL.out]; exact hlt)⟩
      rcases H1.out.2 with ⟨e0, _⟩ | ⟨g, o, c, e1, hc1⟩
      · omega
      · rcases H2.out.2 with ⟨e0, _⟩ | ⟨g', o', c', e2, hc2⟩
        · omega
        · simp only [Value.slice.injEq, true_and] at e1 e2
          obtain ⟨rfl, rfl⟩ := e1
          obtain ⟨rfl, rfl⟩ := e2
          have i0 := Rd.elem MC.cells_length hc1 k x hx 0 _ rfl
          have i1 := Rd.elem MC.cells_length hc1 k x hx 1 _ rfl
          have j0 := Rd.elem MC.cells_length hc2 k x hx 0 _ rfl
          have j1 := Rd.elem MC.cells_length hc2 k x hx 1 _ rfl
          rw [← HB.out.cell (block_lt_of_cell i0), Nat.add_zero] at i0
          rw [← HB.out.cell (block_lt_of_cell i1)] at i1
          rw [← HB.out.cell (block_lt_of_cell j0), Nat.add_zero] at j0
          rw [← HB.out.cell (block_lt_of_cell j1)] at j1
          clear hc1 hc2 hx
          go_wp2_with fail
          go_region_with (go_at_call 67; refine (eqConst_same x _).mono ?_; rintro e u ⟨rfl, hbu⟩)
          all_goals
            have HB2 : Hid (Below w.heap.size w u) := HB.out.trans (below_drew_trans hbu HB.out.size)
            clear hbu HB i0 i1 j0 j1
            go_wp2
            go_roundw
            case rel => exact ⟨k + 1, by omega, by go_num, HB2.out⟩
            case measure => simp [intOf]; omega
    · go_wp2
      go_ret
      exact ⟨rfl, HB.out⟩
end Go.Proofs.YtnemieeeappgnaaGreatDoor
