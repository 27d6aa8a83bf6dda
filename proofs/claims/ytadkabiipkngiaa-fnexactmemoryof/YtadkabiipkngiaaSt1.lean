/- St1: values of a state: toValue, toValueS, eqValue, eqValueS, szValueS. -/
import Derived.Test.YtadkabiipkngiaaMem2
namespace Go.Proofs.Ytadkabiipkngiaa
open Go.ChangeShapes Go.WideShapes Go.ChangeAt Go.RowKit
set_option linter.unusedVariables false
theorem infoV : (Try.prog.info? 104).map (fun i => (i.zero, i.size, i.bytes)) = some (some (.agg #[.int .i64 0, .int .u32 0]), 2, 16) := by kernel_rfl
set_option maxHeartbeats 1000000 in
theorem toValue_any (x : MC) (w : World) :
    Calls Try.prog 58 #[.agg #[.int .i64 x.type, .int .u32 x.word]] w fun e w' => e = .returned (.agg #[.int .i64 x.type, .int .u32 x.word]) ∧ Below w.heap.size w w' := by
  go_enter Try.func58, Try.ntmps58
  go_wp2
  exact bodyPost_ret (v := .agg #[.int .i64 x.type, .int .u32 x.word]) (by simp [results, Try.results58, go_sem]) rfl ⟨rfl, (((Below.refl _ _).alloc (Nat.le_refl _) _).alloc (by simp) _).alloc (by simp; omega) _⟩
set_option maxHeartbeats 1000000 in
theorem eqValue_same (x : MC) (w : World) :
    Calls Try.prog 60 #[.agg #[.int .i64 x.type, .int .u32 x.word], .agg #[.int .i64 x.type, .int .u32 x.word]] w fun e w' => e = .returned (.bool true) ∧ Below w.heap.size w w' := by
  go_enter Try.func60, Try.ntmps60
  go_wp2
  go_ret
  exact ⟨rfl, (((Below.refl _ _).alloc (Nat.le_refl _) _).alloc (by simp) _)⟩
set_option maxHeartbeats 2000000 in
set_option maxRecDepth 100000 in
theorem toValueS_any (s : Value) (L : Nat) (ys : List MC) (w : World) (hL : L ≤ 1048576) (h : Rd w 2 s L (ys.flatMap MC.cells)) (hlen : ys.length = L) :
    Calls Try.prog 26 #[s] w fun e w' => e = .returned (.slice (some ⟨w.heap.size, 0, none⟩) L L) ∧ w'.ownsRow w.heap.size 104 2 (.slice (some ⟨w.heap.size, 0, none⟩) L L) L (ys.flatMap MC.cells) ∧ Below w.heap.size w w' := by
  obtain ⟨i0, hi, hz0, hz1, hz2⟩ := info_parts infoV
  have H1 : Hid (Rd w 2 s L (ys.flatMap MC.cells) ∧ ys.length = L) := ⟨h, hlen⟩
  obtain ⟨a1, c1, rfl⟩ := h.is_slice
  clear h hlen
  go_enter Try.func26, Try.ntmps26
  go_wp2_with (at_make; refine wpList_make_full _ rfl _ _ 33 rfl w.heap.size 104 i0 (.agg #[.int .i64 0, .int .u32 0]) 2 Try.underlying33 hi hz0 hz1 .i64 .i64 _ _ L rfl rfl rfl rfl (by rw [hz2]; omega) (by unfold maxLen; omega) (Nat.le_refl _) ?_; intro w1 hown hgrow)
  rw [flatTo_zero MC.cells [.int .i64 0, .int .u32 0] ys L (.agg #[.int .i64 0, .int .u32 0]) 2 rfl rfl (by omega)] at hown
  have hB : Below w.heap.size w w1 := (Below.refl _ _).grown hgrow (Nat.le_refl _) (fun k hk => by cases hk)
  clear hgrow
  go_loopw [4] (fun i wr => ∃ k : Nat, k ≤ L ∧ i = .int .i64 k ∧ wr.ownsRow w.heap.size 104 2 (.slice (some ⟨w.heap.size, 0, none⟩) L L) L (flatTo MC.cells [.int .i64 0, .int .u32 0] ys k L) ∧ Below w.heap.size w wr) (fun i _ => L - (intOf i).toNat)
  case atStart => exact ⟨0, by omega, rfl, hown, hB⟩
  case round =>
    clear hown hB
    obtain ⟨k, hk, rfl, hown, hbel⟩ := hrel
    by_cases hlt : k < L
    · obtain ⟨x, hx⟩ : ∃ x, ys[k]? = some x := ⟨_, List.getElem?_eq_getElem (by rw [H1.out.2]; exact hlt)⟩
      have hnext := flatTo_next MC.cells [.int .i64 0, .int .u32 0] ys k L x hx
      rw [flatTo_parts MC.cells [.int .i64 0, .int .u32 0] ys k L hlt] at hown
      have hA : ((ys.take k).flatMap MC.cells).length = k * 2 := by rw [flat_length MC.cells 2 MC.cells_length, List.length_take, H1.out.2, Nat.min_eq_left hk]
      generalize (ys.take k).flatMap MC.cells = A at hown hnext hA
      generalize (List.replicate (L - (k + 1)) [Value.int .i64 0, Value.int .u32 0]).flatten = R at hown hnext
      rcases H1.out.1.2 with ⟨e0, _⟩ | ⟨g, o, c, e1, hc1⟩
      · omega
      · simp only [Value.slice.injEq, true_and] at e1
        obtain ⟨rfl, rfl⟩ := e1
        have i0 := Rd.elem MC.cells_length hc1 k x hx 0 _ rfl
        have i1 := Rd.elem MC.cells_length hc1 k x hx 1 _ rfl
        rw [← hbel.cell (block_lt_of_cell i0)] at i0
        rw [← hbel.cell (block_lt_of_cell i1)] at i1
        rw [Nat.add_zero] at i0
        have HO : Hid (wr.ownsRow w.heap.size 104 2 (.slice (some ⟨w.heap.size, 0, none⟩) L L) L (A ++ ([.int .i64 0, .int .u32 0] ++ R)) ∧ A.length = k * 2 ∧ flatTo MC.cells [.int .i64 0, .int .u32 0] ys (k + 1) L = A ++ (MC.cells x ++ R)) := ⟨hown, hA, hnext⟩
        clear hown hA hnext hc1 hx
        go_wp2_with fail
        refine (toValue_any x wr).mono ?_
        rintro e u ⟨rfl, hbu⟩
        have hown := own_keep HO.out.1 hbu (Nat.le_refl _)
        have hA := HO.out.2.1
        have f0 := hown.frozenAt (k * 2)
        have f1 := hown.frozenAt (k * 2 + 1)
        have d0 := hown.cellAt (k * 2) (by omega)
        have d1 := hown.cellAt (k * 2 + 1) (by omega)
        rw [List.getElem?_append_right (by omega), hA] at d0 d1
        rw [Nat.sub_self] at d0
        rw [Nat.add_sub_cancel_left] at d1
        simp only [List.cons_append, List.getElem?_cons_zero, List.getElem?_cons_succ] at d0 d1
        have HB : Hid (Below w.heap.size w u ∧ u.ownsRow w.heap.size 104 2 (.slice (some ⟨w.heap.size, 0, none⟩) L L) L (A ++ ([.int .i64 0, .int .u32 0] ++ R))) := ⟨hbel.trans (hbu.mono hbel.size), hown⟩
        clear hown hA hbu hbel i0 i1
        go_wp2
        go_roundw
        case rel =>
          refine ⟨k + 1, by omega, by go_num, ?_, (HB.out.1.setCell (Nat.le_refl _) _).setCell (Nat.le_refl _) _⟩
          have s0 := (HB.out.2.stored (k * 2) (.int .i64 x.type)).1
          have s1 := (s0.stored (k * 2 + 1) (.int .u32 x.word)).1
          rw [set2 A R _ _ _ _ (k * 2) HO.out.2.1] at s1
          rw [HO.out.2.2]
          exact s1
        case measure => simp [intOf]; omega
    · have hkn : k = L := by omega
      subst hkn
      rw [flatTo_all _ _ _ _ H1.out.2] at hown
      have HO : Hid (wr.ownsRow w.heap.size 104 2 (.slice (some ⟨w.heap.size, 0, none⟩) k k) k (ys.flatMap MC.cells)) := hown
      clear hown
      go_wp2
      go_ret
      exact ⟨rfl, HO.out, hbel⟩
theorem toValueS_new (s : Value) (ys : List MC) (w : World) (hL : ys.length ≤ 1048576) (h : Rd w 2 s ys.length (ys.flatMap MC.cells)) :
    Calls Try.prog 26 #[s] w fun e w' => ∃ a c, e = .returned (.slice a ys.length c) ∧ w'.ownsRow w.heap.size 104 2 (.slice a ys.length c) ys.length (ys.flatMap MC.cells) ∧ Below w.heap.size w w' :=
  (toValueS_any s ys.length ys w hL h rfl).mono fun e w' h => ⟨_, _, h.1, h.2.1, h.2.2⟩
set_option maxHeartbeats 1000000 in
theorem eqValueS_same (s s' : Value) (ys : List MC) (w : World) (hn : ys.length ≤ 1048576) (h : Rd w 2 s ys.length (ys.flatMap MC.cells)) (h' : Rd w 2 s' ys.length (ys.flatMap MC.cells)) :
    Calls Try.prog 31 #[s, s'] w fun e w' => e = .returned (.bool true) ∧ Below w.heap.size w w' := by
  have H1 : Hid (Rd w 2 s ys.length (ys.flatMap MC.cells)) := h
  have H2 : Hid (Rd w 2 s' ys.length (ys.flatMap MC.cells)) := h'
  obtain ⟨a1, c1, rfl⟩ := h.is_slice
  obtain ⟨a2, c2, rfl⟩ := h'.is_slice
  clear h h'
  generalize hLL : ys.length = n at hn H1 H2
  have HL : Hid (ys.length = n) := hLL
  clear hLL
  go_enter Try.func31, Try.ntmps31
  go_wp2
  go_loopw [5] (fun i wr => ∃ k : Nat, k ≤ n ∧ i = .int .i64 k ∧ Below w.heap.size w wr) (fun i _ => n - (intOf i).toNat)
  case atStart => exact ⟨0, by omega, rfl, Below.refl _ _⟩
  case round =>
    obtain ⟨k, hk, rfl, hbel⟩ := hrel
    have HB : Hid (Below w.heap.size w wr) := hbel
    clear hbel
    by_cases hlt : k < n
    · obtain ⟨x, hx⟩ : ∃ x, ys[k]? = some x := ⟨_, List.getElem?_eq_getElem (by rw [HL.out]; exact hlt)⟩
      rcases H1.out.2 with ⟨e0, _⟩ | ⟨g, o, c, e1, hc1⟩
      · omega
      · rcases H2.out.2 with ⟨e0, _⟩ | ⟨g', o', c', e2, hc2⟩
        · omega
        · simp only [Value.slice.injEq, true_and] at e1 e2
          obtain ⟨rfl, rfl⟩ := e1
          obtain ⟨rfl, rfl⟩ := e2
          have i0 := Rd.elem MC.cells_length hc1 k x hx 0 _ rfl
          have i1 := Rd.elem MC.cells_length hc1 k x hx 1 _ rfl
          have j0 := Rd.elem MC.cells_length hc2 k x hx 0 _ rfl
          have j1 := Rd.elem MC.cells_length hc2 k x hx 1 _ rfl
          rw [← HB.out.cell (block_lt_of_cell i0), Nat.add_zero] at i0
          rw [← HB.out.cell (block_lt_of_cell i1)] at i1
          rw [← HB.out.cell (block_lt_of_cell j0), Nat.add_zero] at j0
          rw [← HB.out.cell (block_lt_of_cell j1)] at j1
          clear hc1 hc2 hx
          go_wp2_with fail
          go_region_with (go_at_call 60; refine (eqValue_same x _).mono ?_; rintro e u ⟨rfl, hbu⟩)
          all_goals
            have HB2 : Hid (Below w.heap.size w u) := HB.out.trans (below_drew_trans hbu HB.out.size)
            clear hbu HB i0 i1 j0 j1
            go_wp2
            go_roundw
            case rel => exact ⟨k + 1, by omega, by go_num, HB2.out⟩
            case measure => simp [intOf]; omega
    · go_wp2
      go_ret
      exact ⟨rfl, HB.out⟩
set_option maxHeartbeats 1000000 in
theorem szValueS_any (a : Option Addr) (n c : Nat) (left : Int) (w : World) (hn : n ≤ 9223372036854775807) (h0 : 0 ≤ left) (h1 : left ≤ 1048576) :
    Calls Try.prog 22 #[.slice a n c, .int .i64 left] w fun e w' => e = .returned (.int .i64 (szv left n)) ∧ w' = w := by
  by_cases hb : left - n < 0
  · have e : szv left n = -1 := if_pos hb
    rw [e]
    go_enter Try.func22, Try.ntmps22
    go_wp2
    go_ret
    exact ⟨rfl, rfl⟩
  · have e : szv left n = left - n := if_neg hb
    rw [e]
    go_enter Try.func22, Try.ntmps22
    go_wp2
    go_ret
    exact ⟨rfl, rfl⟩
end Go.Proofs.Ytadkabiipkngiaa
