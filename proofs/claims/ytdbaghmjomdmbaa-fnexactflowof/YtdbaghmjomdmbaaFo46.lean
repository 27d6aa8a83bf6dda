import Derived.Test.YtdbaghmjomdmbaaFo45
namespace Go.Proofs.Ytdbaghmjomdmbaa
open Go.ChangeShapes Go.WideShapes Go.ChangeAt Go.RowKit
set_option linter.unusedVariables false
def ML.small (f : ML) : Prop := f.back.length ≤ 1048576 ∧ f.blocks.length ≤ 1048576
theorem RdL.keep {w w' : World} {y : ML × Value × Value} (h : RdL w y) {B : Nat} (hb : Below B w w') (hB : w.heap.size ≤ B) : RdL w' y := ⟨h.1.keep hb hB, h.2.keep hb hB⟩
/-- Two arguments, each in a block of its own. -/
structure Two (w u : World) (x y : Array Value) (t : TypeId) : Prop where
  a : Blk u w.heap.size x t
  b : Blk u (w.heap.size + 1) y t
theorem Two.new (w : World) (x y : Array Value) (t : TypeId) : Two w ((w.alloc (.cells x t)).alloc (.cells y t)) x y t := by
  have h := Blk.new (w.alloc (.cells x t)) y t
  rw [show (w.alloc (.cells x t)).heap.size = w.heap.size + 1 from Array.size_push _] at h
  exact ⟨(Blk.new w x t).keep (below_alloc _ _), h⟩
theorem Two.keep {w u u' : World} {x y : Array Value} {t : TypeId} (h : Two w u x y t) (hb : Below u.heap.size u u') : Two w u' x y t := ⟨h.a.keep hb, h.b.keep hb⟩
set_option maxHeartbeats 2000000 in
set_option maxRecDepth 100000 in
theorem eqLoop_same (v1 v2 v1' v2' : Value) (f : ML) (w : World) (hs : f.small) (h : RdL w (f, v1, v2)) (h' : RdL w (f, v1', v2')) :
    Calls Try.prog 58 #[.agg #[.int .i64 f.head, v1, v2], .agg #[.int .i64 f.head, v1', v2']] w fun e w' => e = .returned (.bool true) ∧ Below w.heap.size w w' := by
  have B0 : Hid (Below w.heap.size w ((w.alloc (.cells #[.int .i64 f.head, v1, v2] 62)).alloc (.cells #[.int .i64 f.head, v1', v2'] 62))) := below_on (below_alloc _ _) (Nat.le_refl _) (below_alloc _ _)
  have T0 : Hid (Two w ((w.alloc (.cells #[.int .i64 f.head, v1, v2] 62)).alloc (.cells #[.int .i64 f.head, v1', v2'] 62)) #[.int .i64 f.head, v1, v2] #[.int .i64 f.head, v1', v2'] 62) := Two.new _ _ _ _
  have H : Hid (RdL w (f, v1, v2) ∧ RdL w (f, v1', v2') ∧ f.small) := ⟨h, h', hs⟩
  clear h h' hs
  go_enter Try.func58, Try.ntmps58
  go_wp2_with fail
  refine (eqInt64S_same v1 v1' f.back _ (Nat.le_trans H.out.2.2.1 (by omega)) (Rd.keep H.out.1.1 B0.out (Nat.le_refl _)) (Rd.keep H.out.2.1.1 B0.out (Nat.le_refl _))).mono ?_
  rintro e u1 ⟨rfl, b1⟩
  have B1 : Hid (Below w.heap.size w u1) := below_on B0.out (Nat.le_refl _) b1
  have T1 := T0.out.keep b1
  have c1 : u1.cell? ⟨w.heap.size, 2, none⟩ = some v2 := T1.a.cell 2
  have c2 : u1.cell? ⟨w.heap.size + 1, 2, none⟩ = some v2' := T1.b.cell 2
  clear b1 B0 T0 T1
  go_wp2_with fail
  refine (eqInt64S_same v2 v2' f.blocks _ (Nat.le_trans H.out.2.2.2 (by omega)) (Rd.keep H.out.1.2 B1.out (Nat.le_refl _)) (Rd.keep H.out.2.1.2 B1.out (Nat.le_refl _))).mono ?_
  rintro e u2 ⟨rfl, b2⟩
  have B2 : Hid (Below w.heap.size w u2) := below_on B1.out (Nat.le_refl _) b2
  clear b2 B1
  go_wp2
  go_ret
  exact ⟨rfl, B2.out⟩
set_option maxHeartbeats 2000000 in
set_option maxRecDepth 100000 in
theorem eqLoopS_same (s s' : Value) (fs : List ML) (w : World) (hL : fs.length ≤ 1048576) (hs : ∀ f ∈ fs, f.small) (h : RdLs w s fs) (h' : RdLs w s' fs) :
    Calls Try.prog 41 #[s, s'] w fun e w' => e = .returned (.bool true) ∧ Below w.heap.size w w' := by
  obtain ⟨xs, hxs, hrd, hel⟩ := h
  obtain ⟨xs', hxs', hrd', hel'⟩ := h'
  have hxl : xs.length = fs.length := by rw [← hxs]; simp
  have hxl' : xs'.length = fs.length := by rw [← hxs']; simp
  have H1 : Hid (Rd w 3 s fs.length (xs.flatMap lCells) ∧ xs.map Prod.fst = fs ∧ (∀ x ∈ xs, RdL w x) ∧ (∀ f ∈ fs, f.small) ∧ xs.length = fs.length) := ⟨hrd, hxs, hel, hs, hxl⟩
  have H2 : Hid (Rd w 3 s' fs.length (xs'.flatMap lCells) ∧ xs'.map Prod.fst = fs ∧ (∀ x ∈ xs', RdL w x) ∧ (∀ f ∈ fs, f.small) ∧ xs'.length = fs.length) := ⟨hrd', hxs', hel', hs, hxl'⟩
  obtain ⟨a1, c1, rfl⟩ := hrd.is_slice
  obtain ⟨a2, c2, rfl⟩ := hrd'.is_slice
  clear hrd hxs hel hs hxl hrd' hxs' hel' hxl'
  generalize hLL : fs.length = n at hL H1 H2
  clear hLL
  go_enter Try.func41, Try.ntmps41
  go_wp2
  go_loopw [5] (fun i wr => ∃ k : Nat, k ≤ n ∧ i = .int .i64 k ∧ Below w.heap.size w wr) (fun i _ => n - (intOf i).toNat)
  case atStart => exact ⟨0, by omega, rfl, Below.refl _ _⟩
  case round =>
    obtain ⟨k, hk, rfl, hbel⟩ := hrel
    have HB : Hid (Below w.heap.size w wr) := hbel
    clear hbel
    by_cases hlt : k < n
    · obtain ⟨⟨f, v1, v2⟩, hx⟩ : ∃ x, xs[k]? = some x := ⟨_, List.getElem?_eq_getElem (by rw [H1.out.2.2.2.2]; exact hlt)⟩
      obtain ⟨⟨f', v1', v2'⟩, hx'⟩ : ∃ x, xs'[k]? = some x := ⟨_, List.getElem?_eq_getElem (by rw [H2.out.2.2.2.2]; exact hlt)⟩
      have e1 := fst_at H1.out.2.1 hx
      have e2 := fst_at H2.out.2.1 hx'
      have hff : f' = f := by
        rw [e1] at e2
        exact (Option.some.inj e2).symm
      subst hff
      have HX : Hid (RdL wr (f', v1, v2) ∧ RdL wr (f', v1', v2') ∧ f'.small) := ⟨(H1.out.2.2.1 _ (List.mem_of_getElem? hx)).keep HB.out (Nat.le_refl _), (H2.out.2.2.1 _ (List.mem_of_getElem? hx')).keep HB.out (Nat.le_refl _), H1.out.2.2.2.1 _ (List.mem_of_getElem? e1)⟩
      clear e1 e2
      rcases H1.out.1.2 with ⟨e0, _⟩ | ⟨g, o, c, e1, hc1⟩
      · omega
      · rcases H2.out.1.2 with ⟨e0, _⟩ | ⟨g', o', c', e2, hc2⟩
        · omega
        · simp only [Value.slice.injEq, true_and] at e1 e2
          obtain ⟨rfl, rfl⟩ := e1
          obtain ⟨rfl, rfl⟩ := e2
          have i0 := Rd.elem lCells_length hc1 k _ hx 0 _ rfl
          have i1 := Rd.elem lCells_length hc1 k _ hx 1 _ rfl
          have i2 := Rd.elem lCells_length hc1 k _ hx 2 _ rfl
          have j0 := Rd.elem lCells_length hc2 k _ hx' 0 _ rfl
          have j1 := Rd.elem lCells_length hc2 k _ hx' 1 _ rfl
          have j2 := Rd.elem lCells_length hc2 k _ hx' 2 _ rfl
          rw [← HB.out.cell (block_lt_of_cell i0), Nat.add_zero] at i0
          rw [← HB.out.cell (block_lt_of_cell i1)] at i1
          rw [← HB.out.cell (block_lt_of_cell i2)] at i2
          rw [← HB.out.cell (block_lt_of_cell j0), Nat.add_zero] at j0
          rw [← HB.out.cell (block_lt_of_cell j1)] at j1
          rw [← HB.out.cell (block_lt_of_cell j2)] at j2
          clear hc1 hc2 hx hx'
          simp only [] at i0 i1 i2 j0 j1 j2
          go_wp2_with fail
          go_region_with (go_at_call 58; refine (eqLoop_same v1 v2 v1' v2' f' _ HX.out.2.2 (by exact HX.out.1) (by exact HX.out.2.1)).mono ?_; rintro e u ⟨rfl, hbu⟩)
          all_goals
            have HB2 : Hid (Below w.heap.size w u) := HB.out.trans (below_drew_trans hbu HB.out.size)
            clear hbu HB i0 i1 i2 j0 j1 j2
            go_wp2
            go_roundw
            case rel => exact ⟨k + 1, by omega, by go_num, HB2.out⟩
            case measure => simp [intOf]; omega
    · go_wp2
      go_ret
      exact ⟨rfl, HB.out⟩
def MFl.small (r : MFl) : Prop := r.blocks.length ≤ 1048576 ∧ (∀ f ∈ r.blocks, f.small) ∧ r.order.length ≤ 1048576 ∧ r.idom.length ≤ 1048576 ∧ r.loops.length ≤ 1048576 ∧ ∀ f ∈ r.loops, f.small
theorem RdFl.keep {w w' : World} {vb vo vi vl : Value} {r : MFl} (h : RdFl w vb vo vi vl r) {B : Nat} (hb : Below B w w') (hB : w.heap.size ≤ B) : RdFl w' vb vo vi vl r := ⟨h.blocks.keep hb hB, h.order.keep hb hB, h.idom.keep hb hB, h.loops.keep hb hB⟩
def flV (r : MFl) (vb vo vi vl : Value) : Value := .agg #[.int .i64 r.code, .int .i64 r.at_, vb, vo, vi, vl]
set_option maxHeartbeats 2000000 in
set_option maxRecDepth 100000 in
theorem eqFlow_same (vb vo vi vl vb' vo' vi' vl' : Value) (r : MFl) (w : World) (hs : r.small) (h : RdFl w vb vo vi vl r) (h' : RdFl w vb' vo' vi' vl' r) :
    Calls Try.prog 16 #[.agg #[.int .i64 r.code, .int .i64 r.at_, vb, vo, vi, vl], .agg #[.int .i64 r.code, .int .i64 r.at_, vb', vo', vi', vl']] w fun e w' => e = .returned (.bool true) ∧ Below w.heap.size w w' := by
  have B0 : Hid (Below w.heap.size w ((w.alloc (.cells #[.int .i64 r.code, .int .i64 r.at_, vb, vo, vi, vl] 36)).alloc (.cells #[.int .i64 r.code, .int .i64 r.at_, vb', vo', vi', vl'] 36))) := below_on (below_alloc _ _) (Nat.le_refl _) (below_alloc _ _)
  have T0 : Hid (Two w ((w.alloc (.cells #[.int .i64 r.code, .int .i64 r.at_, vb, vo, vi, vl] 36)).alloc (.cells #[.int .i64 r.code, .int .i64 r.at_, vb', vo', vi', vl'] 36)) #[.int .i64 r.code, .int .i64 r.at_, vb, vo, vi, vl] #[.int .i64 r.code, .int .i64 r.at_, vb', vo', vi', vl'] 36) := Two.new _ _ _ _
  have H : Hid (RdFl w vb vo vi vl r ∧ RdFl w vb' vo' vi' vl' r ∧ r.small) := ⟨h, h', hs⟩
  clear h h' hs
  go_enter Try.func16, Try.ntmps16
  go_wp2_with fail
  refine (eqBlockS_same vb vb' r.blocks _ H.out.2.2.1 H.out.2.2.2.1 (H.out.1.blocks.keep B0.out (Nat.le_refl _)) (H.out.2.1.blocks.keep B0.out (Nat.le_refl _))).mono ?_
  rintro e u1 ⟨rfl, b1⟩
  have B1 : Hid (Below w.heap.size w u1) := below_on B0.out (Nat.le_refl _) b1
  have T1 : Hid _ := T0.out.keep b1
  have c1 : u1.cell? ⟨w.heap.size, 3, none⟩ = some vo := T1.out.a.cell 3
  have d1 : u1.cell? ⟨w.heap.size + 1, 3, none⟩ = some vo' := T1.out.b.cell 3
  clear b1 B0 T0
  go_wp2_with fail
  refine (eqInt64S_same vo vo' r.order _ (Nat.le_trans H.out.2.2.2.2.1 (by omega)) (H.out.1.order.keep B1.out (Nat.le_refl _)) (H.out.2.1.order.keep B1.out (Nat.le_refl _))).mono ?_
  rintro e u2 ⟨rfl, b2⟩
  have B2 : Hid (Below w.heap.size w u2) := below_on B1.out (Nat.le_refl _) b2
  have T2 : Hid _ := T1.out.keep b2
  have c2 : u2.cell? ⟨w.heap.size, 4, none⟩ = some vi := T2.out.a.cell 4
  have d2 : u2.cell? ⟨w.heap.size + 1, 4, none⟩ = some vi' := T2.out.b.cell 4
  clear b2 B1 T1
  go_wp2_with fail
  refine (eqInt64S_same vi vi' r.idom _ (Nat.le_trans H.out.2.2.2.2.2.1 (by omega)) (H.out.1.idom.keep B2.out (Nat.le_refl _)) (H.out.2.1.idom.keep B2.out (Nat.le_refl _))).mono ?_
  rintro e u3 ⟨rfl, b3⟩
  have B3 : Hid (Below w.heap.size w u3) := below_on B2.out (Nat.le_refl _) b3
  have T3 : Hid _ := T2.out.keep b3
  have c3 : u3.cell? ⟨w.heap.size, 5, none⟩ = some vl := T3.out.a.cell 5
  have d3 : u3.cell? ⟨w.heap.size + 1, 5, none⟩ = some vl' := T3.out.b.cell 5
  clear b3 B2 T2
  go_wp2_with fail
  refine (eqLoopS_same vl vl' r.loops _ H.out.2.2.2.2.2.2.1 H.out.2.2.2.2.2.2.2 (H.out.1.loops.keep B3.out (Nat.le_refl _)) (H.out.2.1.loops.keep B3.out (Nat.le_refl _))).mono ?_
  rintro e u4 ⟨rfl, b4⟩
  have B4 : Hid (Below w.heap.size w u4) := below_on B3.out (Nat.le_refl _) b4
  clear b4 B3
  go_wp2
  go_ret
  exact ⟨rfl, B4.out⟩
end Go.Proofs.Ytdbaghmjomdmbaa
