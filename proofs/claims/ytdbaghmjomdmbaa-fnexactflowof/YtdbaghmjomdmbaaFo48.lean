import Derived.Test.YtdbaghmjomdmbaaFo47
namespace Go.Proofs.Ytdbaghmjomdmbaa
open Go.ChangeShapes Go.WideShapes Go.ChangeAt Go.RowKit
set_option linter.unusedVariables false
theorem Wb.own {base b : Nat} {w w' : World} (h : Wb base w w') {e : TypeId} {s : Value} {k n : Nat} {xs : List Value} (ho : w.ownsRow b e k s n xs) (h1 : e ≠ 2) (h2 : e ≠ 46) : w'.ownsRow b e k s n xs := by
  refine ⟨ho.1, ?_⟩
  rcases ho.2 with h' | ⟨g, cap, cur, e1, hb1, hg, hr⟩
  · exact .inl h'
  · exact .inr ⟨g, cap, cur, e1, hb1, h.blk g cur e hg h1 h2, hr⟩
theorem OwFl.keep {w w' : World} {base : Nat} {vb vo vi vl : Value} {F : List (MB × Value)} {ys : List (ML × Value × Value)} {r : MFl} (h : OwFl w base vb vo vi vl F ys r) (hb : Below w.heap.size w w') : OwFl w' base vb vo vi vl F ys r := ⟨own_keep h.brow hb (Nat.le_refl _), own_keep h.lrow hb (Nat.le_refl _), h.fam.keep hb, h.eb, h.el⟩
theorem OwFl.marks {w w' : World} {base lo hi : Nat} {vb vo vi vl : Value} {F : List (MB × Value)} {ys : List (ML × Value × Value)} {r : MFl} (h : OwFl w base vb vo vi vl F ys r) (mg : Marks lo hi w w') (hb : hi ≤ base) : OwFl w' base vb vo vi vl F ys r := by
  have g := MarksG.of (Below.refl w.heap.size w) (Nat.le_refl _) mg
  exact ⟨g.own h.brow hb, g.own h.lrow hb, ⟨fun r hr => g.own (h.fam.own r hr) hb, h.fam.sep⟩, h.eb, h.el⟩
theorem lrows_mem {ys : List (ML × Value × Value)} {y : ML × Value × Value} (h : y ∈ ys) : (y.2.1, y.1.back) ∈ lrows ys ∧ (y.2.2, y.1.blocks) ∈ lrows ys := ⟨List.mem_flatMap.2 ⟨y, h, by simp⟩, List.mem_flatMap.2 ⟨y, h, by simp⟩⟩
theorem OwFl.rd {w : World} {base : Nat} {vb vo vi vl : Value} {F : List (MB × Value)} {ys : List (ML × Value × Value)} {r : MFl} (h : OwFl w base vb vo vi vl F ys r) : RdFl w vb vo vi vl r := by
  have hbl : F.length = r.blocks.length := by rw [← h.eb, List.length_map]
  have hll : ys.length = r.loops.length := by rw [← h.el, List.length_map]
  refine ⟨⟨F, h.eb, ?_, fun x hx => ?_⟩, Rd.of_own (h.fam.own (vo, r.order) (by simp)), Rd.of_own (h.fam.own (vi, r.idom) (by simp)), ⟨ys, h.el, ?_, fun y hy => ?_⟩⟩
  · rw [← hbl]
    exact Rd.of_own h.brow
  · exact Rd.of_own (h.fam.own (x.2, x.1.next) (by
      refine List.mem_append.2 (.inl ?_)
      unfold nrows
      exact List.mem_map_of_mem (f := fun x => (x.2, x.1.next)) hx))
  · rw [← hll]
    exact Rd.of_own h.lrow
  · have := lrows_mem hy
    exact ⟨Rd.of_own (h.fam.own (y.2.1, y.1.back) (List.mem_append.2 (.inr (by simp [this.1])))), Rd.of_own (h.fam.own (y.2.2, y.1.blocks) (List.mem_append.2 (.inr (by simp [this.2]))))⟩
/-- A flow that is marked from k on. -/
structure MkFl (w : World) (base : Nat) (vb vo vi vl : Value) (F : List (MB × Value)) (a b : Nat) (ys : List (ML × Value × Value)) (k : Int) : Prop where
  brow : w.ownsRow base 46 3 vb F.length ((markBs k F).flatMap bCells)
  lrow : w.ownsRow base 62 3 vl ys.length ((markLs (endB k F + (a : Int) + (b : Int)) ys).flatMap lCells)
  fam : Fam w base ((nrows (markBs k F) ++ [(vo, markIs (endB k F) a), (vi, markIs (endB k F + (a : Int)) b)]) ++ lrows (markLs (endB k F + (a : Int) + (b : Int)) ys))
theorem MkFl.keep {w w' : World} {base : Nat} {vb vo vi vl : Value} {F : List (MB × Value)} {a b : Nat} {ys : List (ML × Value × Value)} {k : Int} (h : MkFl w base vb vo vi vl F a b ys k) (hb : Below w.heap.size w w') : MkFl w' base vb vo vi vl F a b ys k := ⟨own_keep h.brow hb (Nat.le_refl _), own_keep h.lrow hb (Nat.le_refl _), h.fam.keep hb⟩
def flSmall (F : List (MB × Value)) (a b : Nat) (ys : List (ML × Value × Value)) : Prop := F.length ≤ 1048576 ∧ (∀ x ∈ F, x.1.next.length ≤ 1048576) ∧ a ≤ 1048576 ∧ b ≤ 1048576 ∧ ys.length ≤ 1048576 ∧ ∀ y ∈ ys, y.1.small
theorem flSmall.of {w : World} {base : Nat} {vb vo vi vl : Value} {F : List (MB × Value)} {ys : List (ML × Value × Value)} {r : MFl} (h : OwFl w base vb vo vi vl F ys r) (hs : r.small) : flSmall F r.order.length r.idom.length ys := by
  refine ⟨?_, fun x hx => hs.2.1 x.1 ?_, hs.2.2.1, hs.2.2.2.1, ?_, fun y hy => hs.2.2.2.2.2 y.1 ?_⟩
  · have := hs.1
    rw [← h.eb, List.length_map] at this
    exact this
  · rw [← h.eb]
    exact List.mem_map_of_mem hx
  · have := hs.2.2.2.2.1
    rw [← h.el, List.length_map] at this
    exact this
  · rw [← h.el]
    exact List.mem_map_of_mem hy
set_option maxHeartbeats 4000000 in
set_option maxRecDepth 100000 in
theorem markFlow_ex (base : Nat) (c0 c1 : Int) (vb vo vi vl : Value) (F : List (MB × Value)) (ys : List (ML × Value × Value)) (r : MFl) (w : World) (hB : base ≤ w.heap.size) (hs : flSmall F r.order.length r.idom.length ys) (h : OwFl w base vb vo vi vl F ys r) :
    Calls Try.prog 17 #[.agg #[.int .i64 c0, .int .i64 c1, vb, vo, vi, vl], .int .i64 1] w fun e w' => e = .returned (.int .i64 (endL (endB 1 F + (r.order.length : Int) + (r.idom.length : Int)) ys)) ∧ MkFl w' base vb vo vi vl F r.order.length r.idom.length ys 1 ∧ Below base w w' ∧ ∀ k cur, Blk w k cur 36 → Blk w' k cur 36 := by
  have B0 : Below w.heap.size w (w.alloc (.cells #[.int .i64 c0, .int .i64 c1, vb, vo, vi, vl] 36)) := below_alloc _ _
  have K0 : Blk (w.alloc (.cells #[.int .i64 c0, .int .i64 c1, vb, vo, vi, vl] 36)) w.heap.size #[.int .i64 c0, .int .i64 c1, vb, vo, vi, vl] 36 := Blk.new _ _ _
  have O0 := h.keep B0
  have hS0 : base ≤ (w.alloc (.cells #[.int .i64 c0, .int .i64 c1, vb, vo, vi, vl] 36)).heap.size := Nat.le_trans hB B0.size
  have H : Hid (Below base w (w.alloc (.cells #[.int .i64 c0, .int .i64 c1, vb, vo, vi, vl] 36)) ∧ Blk (w.alloc (.cells #[.int .i64 c0, .int .i64 c1, vb, vo, vi, vl] 36)) w.heap.size #[.int .i64 c0, .int .i64 c1, vb, vo, vi, vl] 36 ∧ OwFl (w.alloc (.cells #[.int .i64 c0, .int .i64 c1, vb, vo, vi, vl] 36)) base vb vo vi vl F ys r ∧ base ≤ (w.alloc (.cells #[.int .i64 c0, .int .i64 c1, vb, vo, vi, vl] 36)).heap.size) := ⟨B0.mono hB, K0, O0, hS0⟩
  have Z0 : Hid (∀ k cur, Blk w k cur 36 → Blk (w.alloc (.cells #[.int .i64 c0, .int .i64 c1, vb, vo, vi, vl] 36)) k cur 36) := fun k cur hk => hk.keep B0
  have HS : Hid (flSmall F r.order.length r.idom.length ys) := hs
  have hEB := endB_le 1 F hs.2.1
  have hEF := hs.1
  have hEa := hs.2.2.1
  have hEb := hs.2.2.2.1
  clear B0 K0 O0 hS0 h hs
  go_enter Try.func17, Try.ntmps17
  go_wp2_with fail
  refine (markBlockS_ex base vb [] ((vo, r.order) :: (vi, r.idom) :: lrows ys) F 1 _ H.out.2.2.2 HS.out.1 HS.out.2.1 (by omega) (by omega) H.out.2.2.1.brow (by simpa using H.out.2.2.1.fam)).mono ?_
  rintro e u1 ⟨rfl, row1, fam1, wb1⟩
  have K1 : Blk u1 w.heap.size #[.int .i64 c0, .int .i64 c1, vb, vo, vi, vl] 36 := wb1.blk _ _ _ H.out.2.1 (by decide) (by decide)
  have H1 : Hid (Below base w u1 ∧ Blk u1 w.heap.size #[.int .i64 c0, .int .i64 c1, vb, vo, vi, vl] 36 ∧ u1.ownsRow base 46 3 vb F.length ((markBs 1 F).flatMap bCells) ∧ u1.ownsRow base 62 3 vl ys.length (ys.flatMap lCells) ∧ Fam u1 base (nrows (markBs 1 F) ++ (vo, r.order) :: (vi, r.idom) :: lrows ys)) := ⟨H.out.1.trans wb1.bel, K1, row1, wb1.own H.out.2.2.1.lrow (by decide) (by decide), by simpa using fam1⟩
  have Z1 : Hid (∀ k cur, Blk w k cur 36 → Blk u1 k cur 36) := fun k cur hk => wb1.blk _ _ _ (Z0.out k cur hk) (by decide) (by decide)
  clear row1 fam1 wb1 H Z0
  have q1 : u1.cell? ⟨w.heap.size, 3, none⟩ = some vo := K1.cell 3
  clear K1
  go_wp2_with fail
  refine (markInt64S_ex base vo r.order (endB 1 F) _ HS.out.2.2.1 (by omega) (by omega) (H1.out.2.2.2.2.own (vo, r.order) (by simp))).mono ?_
  rintro e u2 ⟨rfl, ho, hg⟩
  have hwv := Wv.of_row (H1.out.2.2.2.2.own (vo, r.order) (by simp)) hg (Nat.le_trans hB H1.out.1.size)
  have K2 : Blk u2 w.heap.size #[.int .i64 c0, .int .i64 c1, vb, vo, vi, vl] 36 := hwv.blk _ _ _ H1.out.2.1 (by decide)
  have H2 : Hid (Below base w u2 ∧ Blk u2 w.heap.size #[.int .i64 c0, .int .i64 c1, vb, vo, vi, vl] 36 ∧ u2.ownsRow base 46 3 vb F.length ((markBs 1 F).flatMap bCells) ∧ u2.ownsRow base 62 3 vl ys.length (ys.flatMap lCells) ∧ Fam u2 base ((nrows (markBs 1 F) ++ [(vo, markIs (endB 1 F) r.order.length)]) ++ (vi, r.idom) :: lrows ys)) := by
    refine ⟨H1.out.1.trans hwv.bel, K2, hwv.own H1.out.2.2.1 (by decide), hwv.own H1.out.2.2.2.1 (by decide), ?_⟩
    have := Fam.put (c' := markIs (endB 1 F) r.order.length) H1.out.2.2.2.2 (markIs_length _ _) ho hg
    simpa [List.append_assoc] using this
  have Z2 : Hid (∀ k cur, Blk w k cur 36 → Blk u2 k cur 36) := fun k cur hk => hwv.blk _ _ _ (Z1.out k cur hk) (by decide)
  clear ho hg hwv H1 q1 Z1
  have q2 : u2.cell? ⟨w.heap.size, 4, none⟩ = some vi := K2.cell 4
  clear K2
  go_wp2_with fail
  refine (markInt64S_ex base vi r.idom (endB 1 F + (r.order.length : Int)) _ HS.out.2.2.2.1 (by omega) (by omega) (H2.out.2.2.2.2.own (vi, r.idom) (by simp))).mono ?_
  rintro e u3 ⟨rfl, ho, hg⟩
  have hwv := Wv.of_row (H2.out.2.2.2.2.own (vi, r.idom) (by simp)) hg (Nat.le_trans hB H2.out.1.size)
  have K3 : Blk u3 w.heap.size #[.int .i64 c0, .int .i64 c1, vb, vo, vi, vl] 36 := hwv.blk _ _ _ H2.out.2.1 (by decide)
  have H3 : Hid (Below base w u3 ∧ u3.ownsRow base 46 3 vb F.length ((markBs 1 F).flatMap bCells) ∧ u3.ownsRow base 62 3 vl ys.length (ys.flatMap lCells) ∧ Fam u3 base ((nrows (markBs 1 F) ++ [(vo, markIs (endB 1 F) r.order.length), (vi, markIs (endB 1 F + (r.order.length : Int)) r.idom.length)]) ++ lrows ys)) := by
    refine ⟨H2.out.1.trans hwv.bel, hwv.own H2.out.2.2.1 (by decide), hwv.own H2.out.2.2.2.1 (by decide), ?_⟩
    have := Fam.put (c' := markIs (endB 1 F + (r.order.length : Int)) r.idom.length) H2.out.2.2.2.2 (markIs_length _ _) ho hg
    simpa [List.append_assoc] using this
  have Z3 : Hid (∀ k cur, Blk w k cur 36 → Blk u3 k cur 36) := fun k cur hk => hwv.blk _ _ _ (Z2.out k cur hk) (by decide)
  clear ho hg hwv H2 q2 Z2
  have q3 : u3.cell? ⟨w.heap.size, 5, none⟩ = some vl := K3.cell 5
  clear K3
  go_wp2_with fail
  refine (markLoopS_ex base vl (nrows (markBs 1 F) ++ [(vo, markIs (endB 1 F) r.order.length), (vi, markIs (endB 1 F + (r.order.length : Int)) r.idom.length)]) ys (endB 1 F + (r.order.length : Int) + (r.idom.length : Int)) _ (Nat.le_trans hB H3.out.1.size) HS.out.2.2.2.2.1 HS.out.2.2.2.2.2 (by omega) (by omega) H3.out.2.2.1 H3.out.2.2.2).mono ?_
  rintro e u4 ⟨rfl, row4, fam4, wl4⟩
  have H4 : Hid (MkFl u4 base vb vo vi vl F r.order.length r.idom.length ys 1 ∧ Below base w u4) := ⟨⟨wl4.own H3.out.2.1 (by decide) (by decide), row4, fam4⟩, H3.out.1.trans wl4.bel⟩
  have Z4 : Hid (∀ k cur, Blk w k cur 36 → Blk u4 k cur 36) := fun k cur hk => wl4.blk _ _ _ (Z3.out k cur hk) (by decide) (by decide)
  clear row4 fam4 wl4 H3 q3 Z3
  go_wp2
  go_ret
  exact ⟨rfl, H4.out.1, H4.out.2, Z4.out⟩
set_option maxHeartbeats 4000000 in
set_option maxRecDepth 100000 in
theorem heldFlow_ex (base : Nat) (c0 c1 : Int) (vb vo vi vl : Value) (F : List (MB × Value)) (a b : Nat) (ys : List (ML × Value × Value)) (w : World) (hs : flSmall F a b ys) (h : MkFl w base vb vo vi vl F a b ys 1) :
    Calls Try.prog 18 #[.agg #[.int .i64 c0, .int .i64 c1, vb, vo, vi, vl], .int .i64 1] w fun e w' => e = .returned (.int .i64 (endL (endB 1 F + (a : Int) + (b : Int)) ys)) ∧ Below w.heap.size w w' := by
  have B0 : Hid (Below w.heap.size w (w.alloc (.cells #[.int .i64 c0, .int .i64 c1, vb, vo, vi, vl] 36))) := below_alloc _ _
  have O0 := h.keep B0.out
  have H : Hid ((Rd (w.alloc (.cells #[.int .i64 c0, .int .i64 c1, vb, vo, vi, vl] 36)) 3 vb F.length ((markBs 1 F).flatMap bCells) ∧ ∀ x ∈ nrows (markBs 1 F), Rd (w.alloc (.cells #[.int .i64 c0, .int .i64 c1, vb, vo, vi, vl] 36)) 1 x.1 x.2.length (x.2.flatMap intCell)) ∧ Rd (w.alloc (.cells #[.int .i64 c0, .int .i64 c1, vb, vo, vi, vl] 36)) 1 vo a ((markIs (endB 1 F) a).flatMap intCell) ∧ Rd (w.alloc (.cells #[.int .i64 c0, .int .i64 c1, vb, vo, vi, vl] 36)) 1 vi b ((markIs (endB 1 F + (a : Int)) b).flatMap intCell) ∧ Rd (w.alloc (.cells #[.int .i64 c0, .int .i64 c1, vb, vo, vi, vl] 36)) 3 vl ys.length ((markLs (endB 1 F + (a : Int) + (b : Int)) ys).flatMap lCells) ∧ ∀ x ∈ lrows (markLs (endB 1 F + (a : Int) + (b : Int)) ys), Rd (w.alloc (.cells #[.int .i64 c0, .int .i64 c1, vb, vo, vi, vl] 36)) 1 x.1 x.2.length (x.2.flatMap intCell)) := by
    refine ⟨⟨Rd.of_own O0.brow, fun x hx => Rd.of_own (O0.fam.own x (by simp [hx]))⟩, ?_, ?_, Rd.of_own O0.lrow, fun x hx => Rd.of_own (O0.fam.own x (by simp [hx]))⟩
    · have := O0.fam.own (vo, markIs (endB 1 F) a) (by simp)
      simp only [markIs_length] at this
      exact Rd.of_own this
    · have := O0.fam.own (vi, markIs (endB 1 F + (a : Int)) b) (by simp)
      simp only [markIs_length] at this
      exact Rd.of_own this
  have HS : Hid (flSmall F a b ys) := hs
  have hEB := endB_le 1 F hs.2.1
  have hEF := hs.1
  have hEa := hs.2.2.1
  have hEb := hs.2.2.2.1
  have hEL := endL_le (endB 1 F + (a : Int) + (b : Int)) ys hs.2.2.2.2.2
  have n1 : ¬ endB 1 F < 0 := by omega
  have n2 : ¬ endB 1 F + (a : Int) < 0 := by omega
  have n3 : ¬ endB 1 F + (a : Int) + (b : Int) < 0 := by omega
  have n4 : ¬ endL (endB 1 F + (a : Int) + (b : Int)) ys < 0 := by omega
  clear O0 h hs
  go_enter Try.func18, Try.ntmps18
  go_wp2_with fail
  refine (heldBlockS_ex vb F 1 _ HS.out.1 HS.out.2.1 (by omega) (by omega) H.out.1.1 H.out.1.2).mono ?_
  rintro e u1 ⟨rfl, rfl⟩
  go_wp2_with fail
  refine (heldInt64S_ex vo a (endB 1 F) _ HS.out.2.2.1 (by omega) (by omega) H.out.2.1).mono ?_
  rintro e u2 ⟨rfl, rfl⟩
  go_wp2_with fail
  refine (heldInt64S_ex vi b (endB 1 F + (a : Int)) _ HS.out.2.2.2.1 (by omega) (by omega) H.out.2.2.1).mono ?_
  rintro e u3 ⟨rfl, rfl⟩
  go_wp2_with fail
  refine (heldLoopS_ex vl ys (endB 1 F + (a : Int) + (b : Int)) _ HS.out.2.2.2.2.1 HS.out.2.2.2.2.2 (by omega) (by omega) H.out.2.2.2.1 H.out.2.2.2.2).mono ?_
  rintro e u4 ⟨rfl, rfl⟩
  go_wp2
  go_ret
  exact ⟨rfl, B0.out⟩
/-- A flow in a block, and what it reads. -/
structure FlB (u : World) (X : Nat) (r : MFl) (vb vo vi vl : Value) : Prop where
  blk : Blk u X #[.int .i64 r.code, .int .i64 r.at_, vb, vo, vi, vl] 36
  rd : RdFl u vb vo vi vl r
theorem FlB.new {u : World} {r : MFl} {vb vo vi vl : Value} (h : RdFl u vb vo vi vl r) : FlB (u.alloc (.cells #[.int .i64 r.code, .int .i64 r.at_, vb, vo, vi, vl] 36)) u.heap.size r vb vo vi vl := ⟨Blk.new _ _ _, h.keep (below_alloc _ _) (Nat.le_refl _)⟩
theorem FlB.keep {u u' : World} {X : Nat} {r : MFl} {vb vo vi vl : Value} (h : FlB u X r vb vo vi vl) (hb : Below u.heap.size u u') : FlB u' X r vb vo vi vl := ⟨h.blk.keep hb, h.rd.keep hb (Nat.le_refl _)⟩
/-- A flow of one's own, in a block. -/
structure GB (u : World) (base Y : Nat) (r : MFl) (vb vo vi vl : Value) (F : List (MB × Value)) (ys : List (ML × Value × Value)) : Prop where
  own : OwFl u base vb vo vi vl F ys r
  blk : Blk u Y #[.int .i64 r.code, .int .i64 r.at_, vb, vo, vi, vl] 36
  ge : base ≤ Y
theorem GB.new {u : World} {base : Nat} {r : MFl} {vb vo vi vl : Value} {F : List (MB × Value)} {ys : List (ML × Value × Value)} (h : OwFl u base vb vo vi vl F ys r) (hb : base ≤ u.heap.size) : GB (u.alloc (.cells #[.int .i64 r.code, .int .i64 r.at_, vb, vo, vi, vl] 36)) base u.heap.size r vb vo vi vl F ys := ⟨h.keep (below_alloc _ _), Blk.new _ _ _, hb⟩
theorem GB.keep {u u' : World} {base Y : Nat} {r : MFl} {vb vo vi vl : Value} {F : List (MB × Value)} {ys : List (ML × Value × Value)} (h : GB u base Y r vb vo vi vl F ys) (hb : Below u.heap.size u u') : GB u' base Y r vb vo vi vl F ys := ⟨h.own.keep hb, h.blk.keep hb, h.ge⟩
theorem GB.marks {u u' : World} {base Y lo hi : Nat} {r : MFl} {vb vo vi vl : Value} {F : List (MB × Value)} {ys : List (ML × Value × Value)} (h : GB u base Y r vb vo vi vl F ys) (mg : Marks lo hi u u') (hb : hi ≤ base) : GB u' base Y r vb vo vi vl F ys := by
  refine ⟨h.own.marks mg hb, ?_, h.ge⟩
  have := h.blk
  unfold Blk at *
  rw [mg.out Y (.inr (Nat.le_trans hb h.ge))]
  exact this
/-- A flow that is marked, in a block. -/
structure HB (u : World) (base Y : Nat) (r : MFl) (vb vo vi vl : Value) (F : List (MB × Value)) (ys : List (ML × Value × Value)) : Prop where
  mkd : MkFl u base vb vo vi vl F r.order.length r.idom.length ys 1
  blk : Blk u Y #[.int .i64 r.code, .int .i64 r.at_, vb, vo, vi, vl] 36
theorem HB.keep {u u' : World} {base Y : Nat} {r : MFl} {vb vo vi vl : Value} {F : List (MB × Value)} {ys : List (ML × Value × Value)} (h : HB u base Y r vb vo vi vl F ys) (hb : Below u.heap.size u u') : HB u' base Y r vb vo vi vl F ys := ⟨h.mkd.keep hb, h.blk.keep hb⟩
theorem blk6 {u : World} {X : Nat} {x0 x1 x2 x3 x4 x5 : Value} {t : TypeId} (h : Blk u X #[x0, x1, x2, x3, x4, x5] t) : u.cell? ⟨X, 0, none⟩ = some x0 ∧ u.cell? ⟨X, 1, none⟩ = some x1 ∧ u.cell? ⟨X, 2, none⟩ = some x2 ∧ u.cell? ⟨X, 3, none⟩ = some x3 ∧ u.cell? ⟨X, 4, none⟩ = some x4 ∧ u.cell? ⟨X, 5, none⟩ = some x5 :=
  ⟨h.cell 0, h.cell 1, h.cell 2, h.cell 3, h.cell 4, h.cell 5⟩
theorem RdFl.slices {w : World} {vb vo vi vl : Value} {r : MFl} (h : RdFl w vb vo vi vl r) : ∃ a1 c1 a2 c2 a3 c3 a4 c4, vb = .slice a1 r.blocks.length c1 ∧ vo = .slice a2 r.order.length c2 ∧ vi = .slice a3 r.idom.length c3 ∧ vl = .slice a4 r.loops.length c4 := by
  obtain ⟨xs, _, h1, _⟩ := h.blocks
  obtain ⟨ys, _, h4, _⟩ := h.loops
  obtain ⟨a1, c1, rfl⟩ := h1.is_slice
  obtain ⟨a2, c2, rfl⟩ := h.order.is_slice
  obtain ⟨a3, c3, rfl⟩ := h.idom.is_slice
  obtain ⟨a4, c4, rfl⟩ := h4.is_slice
  exact ⟨a1, c1, a2, c2, a3, c3, a4, c4, rfl, rfl, rfl, rfl⟩
theorem back_small (E : Nat → List Nat) (D : Nat → Nat → Bool) (n h : Nat) (hE : ∀ b, (E b).length ≤ 2) : (backL E D n h).length ≤ 2 * n := by
  unfold backL
  induction n with
  | zero => simp
  | succ m ih =>
    rw [List.range_succ, List.flatMap_append, List.length_append]
    have := List.length_filter_le (fun x => decide (x = h) && D h m) (E m)
    have := hE m
    simp only [List.flatMap_cons, List.flatMap_nil, List.append_nil, List.length_map]
    omega
theorem noFl_small (c a : Int) : (noFl c a).small := ⟨by simp [noFl], by simp [noFl], by simp [noFl], by simp [noFl], by simp [noFl], by simp [noFl]⟩
theorem FlowOk.small {xs : List MI} {r : MFl} (h : FlowOk xs r) : r.small := by
  cases h with
  | none _ => exact noFl_small _ _
  | off _ _ _ => exact noFl_small _ _
  | lost _ _ _ _ _ _ _ _ => exact noFl_small _ _
  | two _ _ _ _ _ _ _ _ => exact noFl_small _ _
  | good g _ _ vs _ _ _ _ _ =>
    have hl := specL_le g
    have hf := vs_facts (lds_pos g) (nx_lt g) vs
    refine ⟨?_, fun f hf => ?_, ?_, ?_, ?_, fun f hf => ?_⟩
    · exact Nat.le_trans hl (by omega)
    · exact Nat.le_trans (specL_two xs f hf) (by omega)
    · simp only [ints_length, List.length_reverse]
      omega
    · simp only [List.length_map, List.length_range]
      omega
    · simp only [loopsTo]
      refine Nat.le_trans (List.length_filterMap_le _ _) ?_
      simp only [List.length_range]
      omega
    · simp only [loopsTo, List.mem_filterMap] at hf
      obtain ⟨h, _, q⟩ := hf
      split at q
      · cases q
      · simp only [Option.some.injEq] at q
        subst q
        refine ⟨?_, ?_⟩
        · simp only [ints_length]
          exact Nat.le_trans (back_small (nx (specL xs)) _ (specL xs).length h (nx_small _ (specL_two xs))) (by omega)
        · simp only [ints_length]
          refine Nat.le_trans (List.length_filter_le _ _) ?_
          simp only [List.length_range]
          omega
end Go.Proofs.Ytdbaghmjomdmbaa
