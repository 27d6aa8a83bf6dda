/- Beg1: the cells of a beginning: spec.l4Cells, impl.cellsOf, impl.zerosOf. -/
import Derived.Test.YtkpajiahpmdobaaGreatMSt5
import Derived.Test.YtkpajiahpmdobaaGreatVal1
import Derived.WalkSpells
import Derived.Maps.AppendAt
namespace Go.Proofs.YtkpajiahpmdobaaGreat
open Go.ChangeShapes Go.WideShapes Go.ChangeAt Go.RowKit
set_option linter.unusedVariables false
/-- A word of a type, as a value: a truth is made of what is not 0. -/
def cellV (t x : Int) : MC := ⟨t, if t = 1 then word (decide (¬ x = 0)) else x⟩
def cellsL (ts ws : List Int) : List MC := List.zipWith cellV ts ws
theorem cellsL_length (ts ws : List Int) (h : ws.length = ts.length) : (cellsL ts ws).length = ts.length := by simp [cellsL, h]
theorem cellsL_at (ts ws : List Int) (k : Nat) (t x : Int) (ht : ts[k]? = some t) (hx : ws[k]? = some x) : (cellsL ts ws)[k]? = some (cellV t x) := by simp [cellsL, List.getElem?_zipWith, ht, hx]
theorem take_snoc {α : Type} (xs : List α) (k : Nat) (x : α) (h : xs[k]? = some x) : xs.take (k + 1) = xs.take k ++ [x] := by
  obtain ⟨hlt, rfl⟩ := List.getElem?_eq_some_iff.1 h
  exact List.take_succ_eq_append_getElem hlt
theorem cells_oneCell (x : MC) : ∀ u ∈ x.cells, u.oneCell' = true := by
  intro u hu
  simp [MC.cells] at hu
  rcases hu with rfl | rfl <;> rfl
theorem block_new (w : World) (cs : Array Value) (t : TypeId) : (w.alloc (.cells cs t)).heap[w.heap.size]? = some (.cells cs t (0, 0)) := Array.getElem?_push_size
theorem cells_new (w : World) (x : MC) (t : TypeId) : ∀ j u, x.cells[j]? = some u → (w.alloc (.cells x.cells.toArray t)).cell? ((⟨w.heap.size, 0, none⟩ : Addr).add j) = some u := fun j u hj => by
  rw [add_at, Nat.zero_add, cell_of_row _ _ _ _ _ _ (block_new w x.cells.toArray t)]
  simpa using hj
set_option maxHeartbeats 2000000 in
set_option maxRecDepth 100000 in
theorem l4Cells_any (s t : Value) (ws ts : List Int) (w : World) (hn : ws.length ≤ 1048576) (hl : ws.length = ts.length) (h : Rd w 1 s ws.length (ws.flatMap wCell)) (h' : Rd w 1 t ts.length (ts.flatMap intCell)) :
    Calls Tryz.prog 23 #[s, t] w fun e w' => ∃ a c, e = .returned (.slice a ws.length c) ∧ w'.ownsRow w.heap.size 102 2 (.slice a ws.length c) ws.length ((cellsL ts ws).flatMap MC.cells) ∧ Below w.heap.size w w' := by
  obtain ⟨i0, hi, hz0, hz1, hz2⟩ := info_parts infoV
  rw [← hl] at h'
  have H : Hid (Rd w 1 s ws.length (ws.flatMap wCell) ∧ Rd w 1 t ws.length (ts.flatMap intCell) ∧ ws.length = ts.length) := ⟨h, h', hl⟩
  obtain ⟨a1, c1, rfl⟩ := h.is_slice
  obtain ⟨a2, c2, rfl⟩ := h'.is_slice
  clear h h' hl
  generalize hLL : ws.length = n at hn H ⊢
  have HL : Hid (ws.length = n) := hLL
  clear hLL
  go_enter Tryz.func23, Tryz.ntmps23
  go_wp2
  go_loopw [5, 6] (fun s i wr => ∃ k : Nat, k ≤ n ∧ i = .int .i64 k ∧ wr.ownsRow w.heap.size 102 2 s k (((cellsL ts ws).take k).flatMap MC.cells) ∧ Below w.heap.size w wr) (fun _ i _ => n - (intOf i).toNat)
  case atStart => exact ⟨0, by omega, rfl, ⟨by simp, .inr ⟨w.heap.size, 0, #[], rfl, Nat.le_refl _, heap_alloc_new _ _, Nat.le_refl _, Nat.zero_le _, rfl, by simp⟩⟩, (Below.refl _ _).alloc (Nat.le_refl _) _⟩
  case round =>
    obtain ⟨k, hk, rfl, hown, hbel⟩ := hrel
    by_cases hlt : k < n
    · obtain ⟨x, hx⟩ : ∃ x, ws[k]? = some x := ⟨_, List.getElem?_eq_getElem (by rw [HL.out]; exact hlt)⟩
      obtain ⟨t, ht⟩ : ∃ t, ts[k]? = some t := ⟨_, List.getElem?_eq_getElem (by rw [← H.out.2.2]; exact hlt)⟩
      rcases H.out.1.2 with ⟨e0, _⟩ | ⟨g, o, c, e1, hc1⟩
      · omega
      rcases H.out.2.1.2 with ⟨e0, _⟩ | ⟨g', o', c', e2, hc2⟩
      · omega
      simp only [Value.slice.injEq, true_and] at e1 e2
      obtain ⟨rfl, rfl⟩ := e1
      obtain ⟨rfl, rfl⟩ := e2
      have i0' := Rd.elem wCell_length hc1 k x hx 0 _ rfl
      have j0 := Rd.elem intCell_length hc2 k t ht 0 _ rfl
      rw [Nat.mul_one, Nat.add_zero] at i0' j0
      rw [← hbel.cell (block_lt_of_cell i0')] at i0'
      rw [← hbel.cell (block_lt_of_cell j0)] at j0
      have HX : Hid (((cellsL ts ws).take (k + 1)).flatMap MC.cells = ((cellsL ts ws).take k).flatMap MC.cells ++ (cellV t x).cells) := by
        show _ = _
        rw [take_snoc _ k _ (cellsL_at ts ws k t x ht hx), List.flatMap_append]
        simp
      have HC : Hid (wr.ownsRow w.heap.size 102 2 u5 k (((cellsL ts ws).take k).flatMap MC.cells) ∧ Below w.heap.size w wr) := ⟨hown, hbel⟩
      clear hc1 hc2 hx ht hown hbel
      have fin : ∀ (cv : MC), cv = cellV t x → ∀ v' w1, w1.ownsRow w.heap.size 102 2 v' (k + 1) (((cellsL ts ws).take k).flatMap MC.cells ++ cv.cells) → (wr.alloc (.cells cv.cells.toArray 102)).grownBy w1 u5.ownBlock → w1.ownsRow w.heap.size 102 2 v' (k + 1) (((cellsL ts ws).take (k + 1)).flatMap MC.cells) ∧ Below w.heap.size w w1 := fun cv e v' w1 h1 hg => by
        subst e
        exact ⟨by rw [HX.out]; exact h1, (HC.out.2.alloc HC.out.2.size _).grown hg (by have := HC.out.2.size; simp; omega) (fun j hj => (HC.out.1.lt j hj).1)⟩
      have HFin : Hid _ := fin
      clear fin
      by_cases q : t = 1
      · subst q
        by_cases q2 : x = 0
        · subst q2
          have HCV : Hid ((⟨1, 0⟩ : MC) = cellV 1 0) := rfl
          go_wp2_with fail
          refine (l2Truth_any false _).mono ?_
          rintro e u ⟨rfl, rfl⟩
          rw [show word false = 0 from rfl]
          go_wp2_with (at_builtin; refine wpList_append_own _ rfl _ _ 34 rfl w.heap.size 102 i0 (.agg #[.int .i64 0, .int .u32 0]) 2 16 Tryz.underlying34 hi hz0 hz1 hz2 rfl (by decide) _ _ _ rfl (HC.out.1.alloc _) ⟨u.heap.size, 0, none⟩ 1 1 (MC.cells ⟨1, 0⟩) rfl rfl (cells_new u ⟨1, 0⟩ _) (cells_oneCell ⟨1, 0⟩) (by unfold maxLen; omega) (by omega) (by have := HC.out.2.size; simp; omega) ?_; intro v' w1 hown' hgrow hnil)
          have HN : Hid (w1.ownsRow w.heap.size 102 2 v' (k + 1) (((cellsL ts ws).take (k + 1)).flatMap MC.cells) ∧ Below w.heap.size w w1) := HFin.out _ HCV.out v' w1 hown' hgrow
          clear hown' hgrow hnil i0' j0
          go_wp2
          go_roundw
          case rel => exact ⟨k + 1, by omega, by go_num, HN.out.1, HN.out.2⟩
          case measure => simp [intOf]; omega
        · have HCV : Hid ((⟨1, 1⟩ : MC) = cellV 1 x) := by show _ = _; unfold cellV; simp [q2, word]
          have q2' : (x != 0) = true := by simpa using q2
          go_wp2_with fail
          refine (l2Truth_any true _).mono ?_
          rintro e u ⟨rfl, rfl⟩
          rw [show word true = 1 from rfl]
          go_wp2_with (at_builtin; refine wpList_append_own _ rfl _ _ 34 rfl w.heap.size 102 i0 (.agg #[.int .i64 0, .int .u32 0]) 2 16 Tryz.underlying34 hi hz0 hz1 hz2 rfl (by decide) _ _ _ rfl (HC.out.1.alloc _) ⟨u.heap.size, 0, none⟩ 1 1 (MC.cells ⟨1, 1⟩) rfl rfl (cells_new u ⟨1, 1⟩ _) (cells_oneCell ⟨1, 1⟩) (by unfold maxLen; omega) (by omega) (by have := HC.out.2.size; simp; omega) ?_; intro v' w1 hown' hgrow hnil)
          have HN : Hid (w1.ownsRow w.heap.size 102 2 v' (k + 1) (((cellsL ts ws).take (k + 1)).flatMap MC.cells) ∧ Below w.heap.size w w1) := HFin.out _ HCV.out v' w1 hown' hgrow
          clear hown' hgrow hnil i0' j0
          go_wp2
          go_roundw
          case rel => exact ⟨k + 1, by omega, by go_num, HN.out.1, HN.out.2⟩
          case measure => simp [intOf]; omega
      · have q' : (t == 1) = false := by simpa using q
        have HCV : Hid ((⟨t, x⟩ : MC) = cellV t x) := by show _ = _; unfold cellV; rw [if_neg q]
        clear q
        go_wp2_with (at_builtin; refine wpList_append_own _ rfl _ _ 34 rfl w.heap.size 102 i0 (.agg #[.int .i64 0, .int .u32 0]) 2 16 Tryz.underlying34 hi hz0 hz1 hz2 rfl (by decide) _ _ _ rfl (HC.out.1.alloc _) ⟨wr.heap.size, 0, none⟩ 1 1 (MC.cells ⟨t, x⟩) rfl rfl (cells_new wr ⟨t, x⟩ _) (cells_oneCell ⟨t, x⟩) (by unfold maxLen; omega) (by omega) (by have := HC.out.2.size; simp; omega) ?_; intro v' w1 hown' hgrow hnil)
        have HN : Hid (w1.ownsRow w.heap.size 102 2 v' (k + 1) (((cellsL ts ws).take (k + 1)).flatMap MC.cells) ∧ Below w.heap.size w w1) := HFin.out _ HCV.out v' w1 hown' hgrow
        clear hown' hgrow hnil i0' j0
        go_wp2
        go_roundw
        case rel => exact ⟨k + 1, by omega, by go_num, HN.out.1, HN.out.2⟩
        case measure => simp [intOf]; omega
    · have hkn : k = n := by omega
      subst hkn
      rw [show (cellsL ts ws).take k = cellsL ts ws from List.take_of_length_le (by rw [cellsL_length ts ws (HL.out.trans H.out.2.2), ← H.out.2.2]; omega)] at hown
      obtain ⟨a3, c3, rfl⟩ : ∃ a c, u5 = .slice a k c := (Rd.of_own hown).is_slice
      have HO : Hid (wr.ownsRow w.heap.size 102 2 (.slice a3 k c3) k ((cellsL ts ws).flatMap MC.cells)) := hown
      clear hown
      go_wp2
      go_ret
      exact ⟨_, _, rfl, HO.out, hbel⟩
set_option maxHeartbeats 2000000 in
set_option maxRecDepth 100000 in
theorem cellsOf_any (t s : Value) (ws ts : List Int) (w : World) (hn : ts.length ≤ 1048576) (hl : ws.length = ts.length) (h : Rd w 1 s ws.length (ws.flatMap wCell)) (h' : Rd w 1 t ts.length (ts.flatMap intCell)) :
    Calls Tryz.prog 34 #[t, s] w fun e w' => ∃ a c, e = .returned (.slice a ts.length c) ∧ w'.ownsRow w.heap.size 102 2 (.slice a ts.length c) ts.length ((cellsL ts ws).flatMap MC.cells) ∧ Below w.heap.size w w' := by
  obtain ⟨i0, hi, hz0, hz1, hz2⟩ := info_parts infoV
  rw [hl] at h
  have H : Hid (Rd w 1 s ts.length (ws.flatMap wCell) ∧ Rd w 1 t ts.length (ts.flatMap intCell) ∧ (cellsL ts ws).length = ts.length ∧ ws.length = ts.length) := ⟨h, h', cellsL_length ts ws hl, hl⟩
  obtain ⟨a1, c1, rfl⟩ := h.is_slice
  obtain ⟨a2, c2, rfl⟩ := h'.is_slice
  clear h h' hl
  generalize hLL : ts.length = L at hn H ⊢
  have HL : Hid (ts.length = L) := hLL
  clear hLL
  go_enter Tryz.func34, Tryz.ntmps34
  go_wp2_with (at_make; refine wpList_make_full _ rfl _ _ 34 rfl w.heap.size 102 i0 (.agg #[.int .i64 0, .int .u32 0]) 2 Tryz.underlying34 hi hz0 hz1 .i64 .i64 _ _ L rfl rfl rfl rfl (by rw [hz2]; omega) (by unfold maxLen; omega) (Nat.le_refl _) ?_; intro w1 hown hgrow)
  rw [flatTo_zero MC.cells [.int .i64 0, .int .u32 0] (cellsL ts ws) L (.agg #[.int .i64 0, .int .u32 0]) 2 rfl rfl (by omega)] at hown
  have hB : Below w.heap.size w w1 := (Below.refl _ _).grown hgrow (Nat.le_refl _) (fun k hk => by cases hk)
  clear hgrow
  go_loopw [13] (fun i wr => ∃ k : Nat, k ≤ L ∧ i = .int .i64 k ∧ wr.ownsRow w.heap.size 102 2 (.slice (some ⟨w.heap.size, 0, none⟩) L L) L (flatTo MC.cells [.int .i64 0, .int .u32 0] (cellsL ts ws) k L) ∧ Below w.heap.size w wr) (fun i _ => L - (intOf i).toNat)
  case atStart => exact ⟨0, by omega, rfl, hown, hB⟩
  case round =>
    clear hown hB
    obtain ⟨k, hk, rfl, hown, hbel⟩ := hrel
    by_cases hlt : k < L
    · obtain ⟨x, hx⟩ : ∃ x, ws[k]? = some x := ⟨_, List.getElem?_eq_getElem (by rw [H.out.2.2.2]; exact hlt)⟩
      obtain ⟨t, ht⟩ : ∃ t, ts[k]? = some t := ⟨_, List.getElem?_eq_getElem (by rw [HL.out]; exact hlt)⟩
      have hcx := cellsL_at ts ws k t x ht hx
      have hnext := flatTo_next MC.cells [.int .i64 0, .int .u32 0] (cellsL ts ws) k L _ hcx
      rw [flatTo_parts MC.cells [.int .i64 0, .int .u32 0] (cellsL ts ws) k L hlt] at hown
      have hA : (((cellsL ts ws).take k).flatMap MC.cells).length = k * 2 := by rw [flat_length MC.cells 2 MC.cells_length, List.length_take, H.out.2.2.1, Nat.min_eq_left hk]
      generalize ((cellsL ts ws).take k).flatMap MC.cells = A at hown hnext hA
      generalize (List.replicate (L - (k + 1)) [Value.int .i64 0, Value.int .u32 0]).flatten = R at hown hnext
      rcases H.out.1.2 with ⟨e0, _⟩ | ⟨g, o, c, e1, hc1⟩
      · omega
      rcases H.out.2.1.2 with ⟨e0, _⟩ | ⟨g', o', c', e2, hc2⟩
      · omega
      simp only [Value.slice.injEq, true_and] at e1 e2
      obtain ⟨rfl, rfl⟩ := e1
      obtain ⟨rfl, rfl⟩ := e2
      have i0' := Rd.elem wCell_length hc1 k x hx 0 _ rfl
      have j0 := Rd.elem intCell_length hc2 k t ht 0 _ rfl
      rw [Nat.mul_one, Nat.add_zero] at i0' j0
      have NB : ¬ g = w.heap.size := Nat.ne_of_lt (block_lt_of_cell i0')
      rw [← hbel.cell (block_lt_of_cell i0')] at i0'
      rw [← hbel.cell (block_lt_of_cell j0)] at j0
      have hkL : (k : Int) < (L : Int) := by omega
      have f0 := hown.frozenAt (k * 2)
      have f1 := hown.frozenAt (k * 2 + 1)
      have d0 := hown.cellAt (k * 2) (by omega)
      have d1 := hown.cellAt (k * 2 + 1) (by omega)
      rw [List.getElem?_append_right (by omega), hA] at d0 d1
      rw [Nat.sub_self] at d0
      rw [Nat.add_sub_cancel_left] at d1
      simp only [List.cons_append, List.getElem?_cons_zero, List.getElem?_cons_succ] at d0 d1
      have HO : Hid (wr.ownsRow w.heap.size 102 2 (.slice (some ⟨w.heap.size, 0, none⟩) L L) L (A ++ ([.int .i64 0, .int .u32 0] ++ R)) ∧ A.length = k * 2 ∧ flatTo MC.cells [.int .i64 0, .int .u32 0] (cellsL ts ws) (k + 1) L = A ++ ((cellV t x).cells ++ R) ∧ Below w.heap.size w wr) := ⟨hown, hA, hnext, hbel⟩
      clear hown hA hnext hc1 hc2 hx ht hcx
      have nb : ¬ g = w.heap.size := NB
      have nb' : ¬ w.heap.size = g := fun e => NB e.symm
      clear NB
      by_cases q : t = 1
      · subst q
        by_cases q2 : x = 0
        · subst q2
          have q2' : ((0 : Int) != 0) = false := rfl
          have HCV : Hid ((cellV 1 0).cells = [.int .i64 1, .int .u32 0]) := rfl
          go_wp2_with fail
          refine (wordOf_any false _).mono ?_
          rintro e u ⟨rfl, hu⟩
          rw [show word false = 0 from rfl]
          subst hu
          go_wp2
          go_roundw
          case rel =>
            refine ⟨k + 1, by omega, by go_num, ?_, ((HO.out.2.2.2.setCell (Nat.le_refl _) _).setCell (Nat.le_refl _) _).setCell (Nat.le_refl _) _⟩
            have s0 := (HO.out.1.stored (k * 2) (.int .i64 1)).1
            have s1 := (s0.stored (k * 2 + 1) (.int .u32 0)).1
            rw [set2 A R _ _ _ _ (k * 2) HO.out.2.1] at s1
            have s2 := (s1.stored (k * 2 + 1) (.int .u32 0)).1
            rw [HO.out.2.2.1, HCV.out]
            simpa [← HO.out.2.1] using s2
          case measure => simp [intOf]; omega
        · have q2' : (x != 0) = true := by simpa using q2
          have HCV : Hid ((cellV 1 x).cells = [.int .i64 1, .int .u32 1]) := by show _ = _; unfold cellV; simp [q2, word, MC.cells]
          go_wp2_with fail
          refine (wordOf_any true _).mono ?_
          rintro e u ⟨rfl, hu⟩
          rw [show word true = 1 from rfl]
          subst hu
          go_wp2
          go_roundw
          case rel =>
            refine ⟨k + 1, by omega, by go_num, ?_, ((HO.out.2.2.2.setCell (Nat.le_refl _) _).setCell (Nat.le_refl _) _).setCell (Nat.le_refl _) _⟩
            have s0 := (HO.out.1.stored (k * 2) (.int .i64 1)).1
            have s1 := (s0.stored (k * 2 + 1) (.int .u32 x)).1
            rw [set2 A R _ _ _ _ (k * 2) HO.out.2.1] at s1
            have s2 := (s1.stored (k * 2 + 1) (.int .u32 1)).1
            rw [HO.out.2.2.1, HCV.out]
            simpa [← HO.out.2.1] using s2
          case measure => simp [intOf]; omega
      · have q' : (t == 1) = false := by simpa using q
        have HCV : Hid ((cellV t x).cells = [.int .i64 t, .int .u32 x]) := by show _ = _; unfold cellV; rw [if_neg q]; rfl
        clear q
        go_wp2
        go_roundw
        case rel =>
          refine ⟨k + 1, by omega, by go_num, ?_, (HO.out.2.2.2.setCell (Nat.le_refl _) _).setCell (Nat.le_refl _) _⟩
          have s0 := (HO.out.1.stored (k * 2) (.int .i64 t)).1
          have s1 := (s0.stored (k * 2 + 1) (.int .u32 x)).1
          rw [set2 A R _ _ _ _ (k * 2) HO.out.2.1] at s1
          rw [HO.out.2.2.1, HCV.out]
          exact s1
        case measure => simp [intOf]; omega
    · have hkn : k = L := by omega
      subst hkn
      rw [flatTo_all _ _ _ _ H.out.2.2.1] at hown
      have HO : Hid (wr.ownsRow w.heap.size 102 2 (.slice (some ⟨w.heap.size, 0, none⟩) k k) k ((cellsL ts ws).flatMap MC.cells)) := hown
      clear hown
      go_wp2
      go_ret
      exact ⟨_, _, rfl, HO.out, hbel⟩
set_option maxHeartbeats 1000000 in
theorem zeroOf_any (t : Int) (w : World) : Calls Tryz.prog 65 #[.int .i64 t] w fun e w' => e = .returned (.agg #[.int .i64 t, .int .u32 0]) ∧ Below w.heap.size w w' := by
  go_enter Tryz.func65, Tryz.ntmps65
  go_wp2
  exact bodyPost_ret (v := .agg #[.int .i64 t, .int .u32 0]) (by simp [results, Tryz.results65, go_sem]) rfl ⟨rfl, (Below.refl _ _).alloc (Nat.le_refl _) _⟩
set_option maxHeartbeats 2000000 in
set_option maxRecDepth 100000 in
theorem zerosOf_any (t : Value) (ts : List Int) (w : World) (hn : ts.length ≤ 4194304) (h' : Rd w 1 t ts.length (ts.flatMap intCell)) :
    Calls Tryz.prog 31 #[t] w fun e w' => ∃ a c, e = .returned (.slice a ts.length c) ∧ w'.ownsRow w.heap.size 102 2 (.slice a ts.length c) ts.length ((ts.map fun t => (⟨t, 0⟩ : MC)).flatMap MC.cells) ∧ Below w.heap.size w w' := by
  obtain ⟨i0, hi, hz0, hz1, hz2⟩ := info_parts infoV
  have H : Hid (Rd w 1 t ts.length (ts.flatMap intCell)) := h'
  obtain ⟨a2, c2, rfl⟩ := h'.is_slice
  clear h'
  generalize hLL : ts.length = L at hn H ⊢
  have HL : Hid (ts.length = L) := hLL
  clear hLL
  go_enter Tryz.func31, Tryz.ntmps31
  go_wp2_with (at_make; refine wpList_make_full _ rfl _ _ 34 rfl w.heap.size 102 i0 (.agg #[.int .i64 0, .int .u32 0]) 2 Tryz.underlying34 hi hz0 hz1 .i64 .i64 _ _ L rfl rfl rfl rfl (by rw [hz2]; omega) (by unfold maxLen; omega) (Nat.le_refl _) ?_; intro w1 hown hgrow)
  rw [flatTo_zero MC.cells [.int .i64 0, .int .u32 0] (ts.map fun t => (⟨t, 0⟩ : MC)) L (.agg #[.int .i64 0, .int .u32 0]) 2 rfl rfl (by omega)] at hown
  have hB : Below w.heap.size w w1 := (Below.refl _ _).grown hgrow (Nat.le_refl _) (fun k hk => by cases hk)
  clear hgrow
  go_loopw [11] (fun i wr => ∃ k : Nat, k ≤ L ∧ i = .int .i64 k ∧ wr.ownsRow w.heap.size 102 2 (.slice (some ⟨w.heap.size, 0, none⟩) L L) L (flatTo MC.cells [.int .i64 0, .int .u32 0] (ts.map fun t => (⟨t, 0⟩ : MC)) k L) ∧ Below w.heap.size w wr) (fun i _ => L - (intOf i).toNat)
  case atStart => exact ⟨0, by omega, rfl, hown, hB⟩
  case round =>
    clear hown hB
    obtain ⟨k, hk, rfl, hown, hbel⟩ := hrel
    by_cases hlt : k < L
    · obtain ⟨t, ht⟩ : ∃ t, ts[k]? = some t := ⟨_, List.getElem?_eq_getElem (by rw [HL.out]; exact hlt)⟩
      have hcx : (ts.map fun t => (⟨t, 0⟩ : MC))[k]? = some ⟨t, 0⟩ := by simp [ht]
      have hnext := flatTo_next MC.cells [.int .i64 0, .int .u32 0] (ts.map fun t => (⟨t, 0⟩ : MC)) k L _ hcx
      rw [flatTo_parts MC.cells [.int .i64 0, .int .u32 0] (ts.map fun t => (⟨t, 0⟩ : MC)) k L hlt] at hown
      have hA : (((ts.map fun t => (⟨t, 0⟩ : MC)).take k).flatMap MC.cells).length = k * 2 := by rw [flat_length MC.cells 2 MC.cells_length, List.length_take, List.length_map, HL.out, Nat.min_eq_left hk]
      generalize ((ts.map fun t => (⟨t, 0⟩ : MC)).take k).flatMap MC.cells = A at hown hnext hA
      generalize (List.replicate (L - (k + 1)) [Value.int .i64 0, Value.int .u32 0]).flatten = R at hown hnext
      rcases H.out.2 with ⟨e0, _⟩ | ⟨g', o', c', e2, hc2⟩
      · omega
      simp only [Value.slice.injEq, true_and] at e2
      obtain ⟨rfl, rfl⟩ := e2
      have j0 := Rd.elem intCell_length hc2 k t ht 0 _ rfl
      rw [Nat.mul_one, Nat.add_zero] at j0
      rw [← hbel.cell (block_lt_of_cell j0)] at j0
      have hkL : (k : Int) < (L : Int) := by omega
      have HO : Hid (wr.ownsRow w.heap.size 102 2 (.slice (some ⟨w.heap.size, 0, none⟩) L L) L (A ++ ([.int .i64 0, .int .u32 0] ++ R)) ∧ A.length = k * 2 ∧ flatTo MC.cells [.int .i64 0, .int .u32 0] (ts.map fun t => (⟨t, 0⟩ : MC)) (k + 1) L = A ++ ([.int .i64 t, .int .u32 0] ++ R) ∧ Below w.heap.size w wr) := ⟨hown, hA, hnext, hbel⟩
      clear hown hA hnext hc2 ht hcx hbel
      go_wp2_with fail
      refine (zeroOf_any t _).mono ?_
      rintro e u ⟨rfl, hbu⟩
      have hown := own_keep HO.out.1 hbu (Nat.le_refl _)
      have hA := HO.out.2.1
      have f0 := hown.frozenAt (k * 2)
      have f1 := hown.frozenAt (k * 2 + 1)
      have d0 := hown.cellAt (k * 2) (by omega)
      have d1 := hown.cellAt (k * 2 + 1) (by omega)
      rw [List.getElem?_append_right (by omega), hA] at d0 d1
      rw [Nat.sub_self] at d0
      rw [Nat.add_sub_cancel_left] at d1
      simp only [List.cons_append, List.getElem?_cons_zero, List.getElem?_cons_succ] at d0 d1
      have HB : Hid (Below w.heap.size w u ∧ u.ownsRow w.heap.size 102 2 (.slice (some ⟨w.heap.size, 0, none⟩) L L) L (A ++ ([.int .i64 0, .int .u32 0] ++ R))) := ⟨HO.out.2.2.2.trans (hbu.mono HO.out.2.2.2.size), hown⟩
      clear hown hA hbu j0
      go_wp2
      go_roundw
      case rel =>
        refine ⟨k + 1, by omega, by go_num, ?_, (HB.out.1.setCell (Nat.le_refl _) _).setCell (Nat.le_refl _) _⟩
        have s0 := (HB.out.2.stored (k * 2) (.int .i64 t)).1
        have s1 := (s0.stored (k * 2 + 1) (.int .u32 0)).1
        rw [set2 A R _ _ _ _ (k * 2) HO.out.2.1] at s1
        rw [HO.out.2.2.1]
        exact s1
      case measure => simp [intOf]; omega
    · have hkn : k = L := by omega
      subst hkn
      rw [flatTo_all _ _ _ _ (by rw [List.length_map]; exact HL.out)] at hown
      have HO : Hid (wr.ownsRow w.heap.size 102 2 (.slice (some ⟨w.heap.size, 0, none⟩) k k) k ((ts.map fun t => (⟨t, 0⟩ : MC)).flatMap MC.cells)) := hown
      clear hown
      go_wp2
      go_ret
      exact ⟨_, _, rfl, HO.out, hbel⟩
end Go.Proofs.YtkpajiahpmdobaaGreat
