import Derived.Test.YthifelgdkmkdkaaGreatDoorFm1
namespace Go.Proofs.YthifelgdkmkdkaaGreatDoor
open Go.ChangeShapes Go.WideShapes Go.ChangeAt Go.RowKit
set_option linter.unusedVariables false
set_option maxHeartbeats 2000000 in
set_option maxRecDepth 100000 in
theorem toInstrS_any (s : Value) (L : Nat) (ys : List MI) (w : World) (hL : L ≤ 1048576) (h : Rd w 4 s L (ys.flatMap MI.cells)) (hlen : ys.length = L) :
    Calls Tryz.prog 65 #[s] w fun e w' => e = .returned (.slice (some ⟨w.heap.size, 0, none⟩) L L) ∧ w'.ownsRow w.heap.size 55 4 (.slice (some ⟨w.heap.size, 0, none⟩) L L) L (ys.flatMap MI.cells) ∧ Below w.heap.size w w' := by
  obtain ⟨i0, hi, hz0, hz1, hz2⟩ := info_parts infoI
  have H1 : Hid (Rd w 4 s L (ys.flatMap MI.cells) ∧ ys.length = L) := ⟨h, hlen⟩
  obtain ⟨a1, c1, rfl⟩ := h.is_slice
  clear h hlen
  go_enter Tryz.func65, Tryz.ntmps65
  go_wp2_with (at_make; refine wpList_make_full _ rfl _ _ 50 rfl w.heap.size 55 i0 (.agg #[.int .i64 0, .int .i64 0, .int .i64 0, .int .i64 0]) 4 Tryz.underlying50 hi hz0 hz1 .i64 .i64 _ _ L rfl rfl rfl rfl (by rw [hz2]; omega) (by unfold maxLen; omega) (Nat.le_refl _) ?_; intro w1 hown hgrow)
  rw [flatTo_zero MI.cells [.int .i64 0, .int .i64 0, .int .i64 0, .int .i64 0] ys L (.agg #[.int .i64 0, .int .i64 0, .int .i64 0, .int .i64 0]) 4 rfl rfl (by omega)] at hown
  have hB : Below w.heap.size w w1 := (Below.refl _ _).grown hgrow (Nat.le_refl _) (fun k hk => by cases hk)
  clear hgrow
  go_loopw [4] (fun i wr => ∃ k : Nat, k ≤ L ∧ i = .int .i64 k ∧ wr.ownsRow w.heap.size 55 4 (.slice (some ⟨w.heap.size, 0, none⟩) L L) L (flatTo MI.cells [.int .i64 0, .int .i64 0, .int .i64 0, .int .i64 0] ys k L) ∧ Below w.heap.size w wr) (fun i _ => L - (intOf i).toNat)
  case atStart => exact ⟨0, by omega, rfl, hown, hB⟩
  case round =>
    clear hown hB
    obtain ⟨k, hk, rfl, hown, hbel⟩ := hrel
    by_cases hlt : k < L
    · obtain ⟨x, hx⟩ : ∃ x, ys[k]? = some x := ⟨_, List.getElem?_eq_getElem (by rw [H1.out.2]; exact hlt)⟩
      have hnext := flatTo_next MI.cells [.int .i64 0, .int .i64 0, .int .i64 0, .int .i64 0] ys k L x hx
      rw [flatTo_parts MI.cells [.int .i64 0, .int .i64 0, .int .i64 0, .int .i64 0] ys k L hlt] at hown
      have hA : ((ys.take k).flatMap MI.cells).length = k * 4 := by rw [flat_length MI.cells 4 MI.cells_length, List.length_take, H1.out.2, Nat.min_eq_left hk]
      generalize (ys.take k).flatMap MI.cells = A at hown hnext hA
      generalize (List.replicate (L - (k + 1)) ([.int .i64 0, .int .i64 0, .int .i64 0, .int .i64 0] : List Value)).flatten = R at hown hnext
      rcases H1.out.1.2 with ⟨e0, _⟩ | ⟨g, o, c, e1, hc1⟩
      · omega
      · simp only [Value.slice.injEq, true_and] at e1
        obtain ⟨rfl, rfl⟩ := e1
        have i0 := Rd.elem MI.cells_length hc1 k x hx 0 _ rfl
        have i1 := Rd.elem MI.cells_length hc1 k x hx 1 _ rfl
        have i2 := Rd.elem MI.cells_length hc1 k x hx 2 _ rfl
        have i3 := Rd.elem MI.cells_length hc1 k x hx 3 _ rfl
        rw [← hbel.cell (block_lt_of_cell i0)] at i0
        rw [← hbel.cell (block_lt_of_cell i1)] at i1
        rw [← hbel.cell (block_lt_of_cell i2)] at i2
        rw [← hbel.cell (block_lt_of_cell i3)] at i3
        rw [Nat.add_zero] at i0
        have HO : Hid (wr.ownsRow w.heap.size 55 4 (.slice (some ⟨w.heap.size, 0, none⟩) L L) L (A ++ ([.int .i64 0, .int .i64 0, .int .i64 0, .int .i64 0] ++ R)) ∧ A.length = k * 4 ∧ flatTo MI.cells [.int .i64 0, .int .i64 0, .int .i64 0, .int .i64 0] ys (k + 1) L = A ++ (MI.cells x ++ R)) := ⟨hown, hA, hnext⟩
        clear hown hA hnext hc1 hx
        go_wp2_with fail
        refine (toInstr_any x wr).mono ?_
        rintro e u ⟨rfl, hbu⟩
        have hown := own_keep HO.out.1 hbu (Nat.le_refl _)
        have hA := HO.out.2.1
        have f0 := hown.frozenAt (k * 4)
        have f1 := hown.frozenAt (k * 4 + 1)
        have f2 := hown.frozenAt (k * 4 + 2)
        have f3 := hown.frozenAt (k * 4 + 3)
        have d0 := hown.cellAt (k * 4) (by omega)
        have d1 := hown.cellAt (k * 4 + 1) (by omega)
        have d2 := hown.cellAt (k * 4 + 2) (by omega)
        have d3 := hown.cellAt (k * 4 + 3) (by omega)
        rw [List.getElem?_append_right (by omega), hA] at d0 d1 d2 d3
        rw [Nat.sub_self] at d0
        rw [Nat.add_sub_cancel_left] at d1 d2 d3
        simp only [List.cons_append, List.getElem?_cons_zero, List.getElem?_cons_succ] at d0 d1 d2 d3
        have HB : Hid (Below w.heap.size w u ∧ u.ownsRow w.heap.size 55 4 (.slice (some ⟨w.heap.size, 0, none⟩) L L) L (A ++ ([.int .i64 0, .int .i64 0, .int .i64 0, .int .i64 0] ++ R))) := ⟨hbel.trans (hbu.mono hbel.size), hown⟩
        clear hown hA hbu hbel i0 i1 i2 i3
        go_wp2
        go_roundw
        case rel =>
          refine ⟨k + 1, by omega, by go_num, ?_, (((HB.out.1.setCell (Nat.le_refl _) _).setCell (Nat.le_refl _) _).setCell (Nat.le_refl _) _).setCell (Nat.le_refl _) _⟩
          have s0 := (HB.out.2.stored (k * 4) (.int .i64 x.op)).1
          have s1 := (s0.stored (k * 4 + 1) (.int .i64 x.a)).1
          have s2 := (s1.stored (k * 4 + 2) (.int .i64 x.b)).1
          have s3 := (s2.stored (k * 4 + 3) (.int .i64 x.c)).1
          rw [set4 A R _ _ _ _ _ _ _ _ (k * 4) HO.out.2.1] at s3
          rw [HO.out.2.2]
          exact s3
        case measure => simp [intOf]; omega
    · have hkn : k = L := by omega
      subst hkn
      rw [flatTo_all _ _ _ _ H1.out.2] at hown
      have HO : Hid (wr.ownsRow w.heap.size 55 4 (.slice (some ⟨w.heap.size, 0, none⟩) k k) k (ys.flatMap MI.cells)) := hown
      clear hown
      go_wp2
      go_ret
      exact ⟨rfl, HO.out, hbel⟩
set_option maxHeartbeats 2000000 in
set_option maxRecDepth 100000 in
theorem toCertS_any (s : Value) (L : Nat) (ys : List MT) (w : World) (hL : L ≤ 1048576) (h : Rd w 4 s L (ys.flatMap MT.cells)) (hlen : ys.length = L) :
    Calls Tryz.prog 21 #[s] w fun e w' => e = .returned (.slice (some ⟨w.heap.size, 0, none⟩) L L) ∧ w'.ownsRow w.heap.size 57 4 (.slice (some ⟨w.heap.size, 0, none⟩) L L) L (ys.flatMap MT.cells) ∧ Below w.heap.size w w' := by
  obtain ⟨i0, hi, hz0, hz1, hz2⟩ := info_parts infoT
  have H1 : Hid (Rd w 4 s L (ys.flatMap MT.cells) ∧ ys.length = L) := ⟨h, hlen⟩
  obtain ⟨a1, c1, rfl⟩ := h.is_slice
  clear h hlen
  go_enter Tryz.func21, Tryz.ntmps21
  go_wp2_with (at_make; refine wpList_make_full _ rfl _ _ 32 rfl w.heap.size 57 i0 (.agg #[.int .i64 0, .int .i64 0, .int .i64 0, .int .u32 0]) 4 Tryz.underlying32 hi hz0 hz1 .i64 .i64 _ _ L rfl rfl rfl rfl (by rw [hz2]; omega) (by unfold maxLen; omega) (Nat.le_refl _) ?_; intro w1 hown hgrow)
  rw [flatTo_zero MT.cells [.int .i64 0, .int .i64 0, .int .i64 0, .int .u32 0] ys L (.agg #[.int .i64 0, .int .i64 0, .int .i64 0, .int .u32 0]) 4 rfl rfl (by omega)] at hown
  have hB : Below w.heap.size w w1 := (Below.refl _ _).grown hgrow (Nat.le_refl _) (fun k hk => by cases hk)
  clear hgrow
  go_loopw [4] (fun i wr => ∃ k : Nat, k ≤ L ∧ i = .int .i64 k ∧ wr.ownsRow w.heap.size 57 4 (.slice (some ⟨w.heap.size, 0, none⟩) L L) L (flatTo MT.cells [.int .i64 0, .int .i64 0, .int .i64 0, .int .u32 0] ys k L) ∧ Below w.heap.size w wr) (fun i _ => L - (intOf i).toNat)
  case atStart => exact ⟨0, by omega, rfl, hown, hB⟩
  case round =>
    clear hown hB
    obtain ⟨k, hk, rfl, hown, hbel⟩ := hrel
    by_cases hlt : k < L
    · obtain ⟨x, hx⟩ : ∃ x, ys[k]? = some x := ⟨_, List.getElem?_eq_getElem (by rw [H1.out.2]; exact hlt)⟩
      have hnext := flatTo_next MT.cells [.int .i64 0, .int .i64 0, .int .i64 0, .int .u32 0] ys k L x hx
      rw [flatTo_parts MT.cells [.int .i64 0, .int .i64 0, .int .i64 0, .int .u32 0] ys k L hlt] at hown
      have hA : ((ys.take k).flatMap MT.cells).length = k * 4 := by rw [flat_length MT.cells 4 MT.cells_length, List.length_take, H1.out.2, Nat.min_eq_left hk]
      generalize (ys.take k).flatMap MT.cells = A at hown hnext hA
      generalize (List.replicate (L - (k + 1)) ([.int .i64 0, .int .i64 0, .int .i64 0, .int .u32 0] : List Value)).flatten = R at hown hnext
      rcases H1.out.1.2 with ⟨e0, _⟩ | ⟨g, o, c, e1, hc1⟩
      · omega
      · simp only [Value.slice.injEq, true_and] at e1
        obtain ⟨rfl, rfl⟩ := e1
        have i0 := Rd.elem MT.cells_length hc1 k x hx 0 _ rfl
        have i1 := Rd.elem MT.cells_length hc1 k x hx 1 _ rfl
        have i2 := Rd.elem MT.cells_length hc1 k x hx 2 _ rfl
        have i3 := Rd.elem MT.cells_length hc1 k x hx 3 _ rfl
        rw [← hbel.cell (block_lt_of_cell i0)] at i0
        rw [← hbel.cell (block_lt_of_cell i1)] at i1
        rw [← hbel.cell (block_lt_of_cell i2)] at i2
        rw [← hbel.cell (block_lt_of_cell i3)] at i3
        rw [Nat.add_zero] at i0
        have HO : Hid (wr.ownsRow w.heap.size 57 4 (.slice (some ⟨w.heap.size, 0, none⟩) L L) L (A ++ ([.int .i64 0, .int .i64 0, .int .i64 0, .int .u32 0] ++ R)) ∧ A.length = k * 4 ∧ flatTo MT.cells [.int .i64 0, .int .i64 0, .int .i64 0, .int .u32 0] ys (k + 1) L = A ++ (MT.cells x ++ R)) := ⟨hown, hA, hnext⟩
        clear hown hA hnext hc1 hx
        go_wp2_with fail
        refine (toCert_any x wr).mono ?_
        rintro e u ⟨rfl, hbu⟩
        have hown := own_keep HO.out.1 hbu (Nat.le_refl _)
        have hA := HO.out.2.1
        have f0 := hown.frozenAt (k * 4)
        have f1 := hown.frozenAt (k * 4 + 1)
        have f2 := hown.frozenAt (k * 4 + 2)
        have f3 := hown.frozenAt (k * 4 + 3)
        have d0 := hown.cellAt (k * 4) (by omega)
        have d1 := hown.cellAt (k * 4 + 1) (by omega)
        have d2 := hown.cellAt (k * 4 + 2) (by omega)
        have d3 := hown.cellAt (k * 4 + 3) (by omega)
        rw [List.getElem?_append_right (by omega), hA] at d0 d1 d2 d3
        rw [Nat.sub_self] at d0
        rw [Nat.add_sub_cancel_left] at d1 d2 d3
        simp only [List.cons_append, List.getElem?_cons_zero, List.getElem?_cons_succ] at d0 d1 d2 d3
        have HB : Hid (Below w.heap.size w u ∧ u.ownsRow w.heap.size 57 4 (.slice (some ⟨w.heap.size, 0, none⟩) L L) L (A ++ ([.int .i64 0, .int .i64 0, .int .i64 0, .int .u32 0] ++ R))) := ⟨hbel.trans (hbu.mono hbel.size), hown⟩
        clear hown hA hbu hbel i0 i1 i2 i3
        go_wp2
        go_roundw
        case rel =>
          refine ⟨k + 1, by omega, by go_num, ?_, (((HB.out.1.setCell (Nat.le_refl _) _).setCell (Nat.le_refl _) _).setCell (Nat.le_refl _) _).setCell (Nat.le_refl _) _⟩
          have s0 := (HB.out.2.stored (k * 4) (.int .i64 x.func)).1
          have s1 := (s0.stored (k * 4 + 1) (.int .i64 x.head)).1
          have s2 := (s1.stored (k * 4 + 2) (.int .i64 x.counter)).1
          have s3 := (s2.stored (k * 4 + 3) (.int .u32 x.init)).1
          rw [set4 A R _ _ _ _ _ _ _ _ (k * 4) HO.out.2.1] at s3
          rw [HO.out.2.2]
          exact s3
        case measure => simp [intOf]; omega
    · have hkn : k = L := by omega
      subst hkn
      rw [flatTo_all _ _ _ _ H1.out.2] at hown
      have HO : Hid (wr.ownsRow w.heap.size 57 4 (.slice (some ⟨w.heap.size, 0, none⟩) k k) k (ys.flatMap MT.cells)) := hown
      clear hown
      go_wp2
      go_ret
      exact ⟨rfl, HO.out, hbel⟩
set_option maxHeartbeats 2000000 in
set_option maxRecDepth 100000 in
theorem toConstS_any (s : Value) (L : Nat) (ys : List MC) (w : World) (hL : L ≤ 1048576) (h : Rd w 2 s L (ys.flatMap MC.cells)) (hlen : ys.length = L) :
    Calls Tryz.prog 19 #[s] w fun e w' => e = .returned (.slice (some ⟨w.heap.size, 0, none⟩) L L) ∧ w'.ownsRow w.heap.size 49 2 (.slice (some ⟨w.heap.size, 0, none⟩) L L) L (ys.flatMap MC.cells) ∧ Below w.heap.size w w' := by
  obtain ⟨i0, hi, hz0, hz1, hz2⟩ := info_parts infoC
  have H1 : Hid (Rd w 2 s L (ys.flatMap MC.cells) ∧ ys.length = L) := ⟨h, hlen⟩
  obtain ⟨a1, c1, rfl⟩ := h.is_slice
  clear h hlen
  go_enter Tryz.func19, Tryz.ntmps19
  go_wp2_with (at_make; refine wpList_make_full _ rfl _ _ 30 rfl w.heap.size 49 i0 (.agg #[.int .i64 0, .int .u32 0]) 2 Tryz.underlying30 hi hz0 hz1 .i64 .i64 _ _ L rfl rfl rfl rfl (by rw [hz2]; omega) (by unfold maxLen; omega) (Nat.le_refl _) ?_; intro w1 hown hgrow)
  rw [flatTo_zero MC.cells [.int .i64 0, .int .u32 0] ys L (.agg #[.int .i64 0, .int .u32 0]) 2 rfl rfl (by omega)] at hown
  have hB : Below w.heap.size w w1 := (Below.refl _ _).grown hgrow (Nat.le_refl _) (fun k hk => by cases hk)
  clear hgrow
  go_loopw [4] (fun i wr => ∃ k : Nat, k ≤ L ∧ i = .int .i64 k ∧ wr.ownsRow w.heap.size 49 2 (.slice (some ⟨w.heap.size, 0, none⟩) L L) L (flatTo MC.cells [.int .i64 0, .int .u32 0] ys k L) ∧ Below w.heap.size w wr) (fun i _ => L - (intOf i).toNat)
  case atStart => exact ⟨0, by omega, rfl, hown, hB⟩
  case round =>
    clear hown hB
    obtain ⟨k, hk, rfl, hown, hbel⟩ := hrel
    by_cases hlt : k < L
    · obtain ⟨x, hx⟩ : ∃ x, ys[k]? = some x := ⟨_, List.getElem?_eq_getElem (by rw [H1.out.2]; exact hlt)⟩
      have hnext := flatTo_next MC.cells [.int .i64 0, .int .u32 0] ys k L x hx
      rw [flatTo_parts MC.cells [.int .i64 0, .int .u32 0] ys k L hlt] at hown
      have hA : ((ys.take k).flatMap MC.cells).length = k * 2 := by rw [flat_length MC.cells 2 MC.cells_length, List.length_take, H1.out.2, Nat.min_eq_left hk]
      generalize (ys.take k).flatMap MC.cells = A at hown hnext hA
      generalize (List.replicate (L - (k + 1)) [Value.int .i64 0, Value.int .u32 0]).flatten = R at hown hnext
      rcases H1.out.1.2 with ⟨e0, _⟩ | ⟨g, o, c, e1, hc1⟩
      · omega
      · simp only [Value.slice.injEq, true_and] at e1
        obtain ⟨rfl, rfl⟩ := e1
        have i0 := Rd.elem MC.cells_length hc1 k x hx 0 _ rfl
        have i1 := Rd.elem MC.cells_length hc1 k x hx 1 _ rfl
        rw [← hbel.cell (block_lt_of_cell i0)] at i0
        rw [← hbel.cell (block_lt_of_cell i1)] at i1
        rw [Nat.add_zero] at i0
        have HO : Hid (wr.ownsRow w.heap.size 49 2 (.slice (some ⟨w.heap.size, 0, none⟩) L L) L (A ++ ([.int .i64 0, .int .u32 0] ++ R)) ∧ A.length = k * 2 ∧ flatTo MC.cells [.int .i64 0, .int .u32 0] ys (k + 1) L = A ++ (MC.cells x ++ R)) := ⟨hown, hA, hnext⟩
        clear hown hA hnext hc1 hx
        go_wp2_with fail
        refine (toConst_any x wr).mono ?_
        rintro e u ⟨rfl, hbu⟩
        have hown := own_keep HO.out.1 hbu (Nat.le_refl _)
        have hA := HO.out.2.1
        have f0 := hown.frozenAt (k * 2)
        have f1 := hown.frozenAt (k * 2 + 1)
        have d0 := hown.cellAt (k * 2) (by omega)
        have d1 := hown.cellAt (k * 2 + 1) (by omega)
        rw [List.getElem?_append_right (by omega), hA] at d0 d1
        rw [Nat.sub_self] at d0
        rw [Nat.add_sub_cancel_left] at d1
        simp only [List.cons_append, List.getElem?_cons_zero, List.getElem?_cons_succ] at d0 d1
        have HB : Hid (Below w.heap.size w u ∧ u.ownsRow w.heap.size 49 2 (.slice (some ⟨w.heap.size, 0, none⟩) L L) L (A ++ ([.int .i64 0, .int .u32 0] ++ R))) := ⟨hbel.trans (hbu.mono hbel.size), hown⟩
        clear hown hA hbu hbel i0 i1
        go_wp2
        go_roundw
        case rel =>
          refine ⟨k + 1, by omega, by go_num, ?_, (HB.out.1.setCell (Nat.le_refl _) _).setCell (Nat.le_refl _) _⟩
          have s0 := (HB.out.2.stored (k * 2) (.int .i64 x.type)).1
          have s1 := (s0.stored (k * 2 + 1) (.int .u32 x.word)).1
          rw [set2 A R _ _ _ _ (k * 2) HO.out.2.1] at s1
          rw [HO.out.2.2]
          exact s1
        case measure => simp [intOf]; omega
    · have hkn : k = L := by omega
      subst hkn
      rw [flatTo_all _ _ _ _ H1.out.2] at hown
      have HO : Hid (wr.ownsRow w.heap.size 49 2 (.slice (some ⟨w.heap.size, 0, none⟩) k k) k (ys.flatMap MC.cells)) := hown
      clear hown
      go_wp2
      go_ret
      exact ⟨rfl, HO.out, hbel⟩
end Go.Proofs.YthifelgdkmkdkaaGreatDoor
