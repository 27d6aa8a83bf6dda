/- FnExactMemoryOf: the walk, the row. -/
import Derived.Test.YtadkabiipkngiaaRows
import Derived.Test.YtadkabiipkngiaaMem5
import Derived.Test.YtadkabiipkngiaaMark2
import Derived.Test.YtadkabiipkngiaaSt6
import Derived.WalkKit
import Derived.ProofKit
import Derived.OpenShut
import Derived.ShutString
import Derived.ChangeOld
import Derived.Below
namespace Go.Proofs.Ytadkabiipkngiaa.fnExactMemoryOf
open Go.ChangeShapes Go.WideShapes Go.ChangeAt Go.RowKit
set_option linter.unusedVariables false

theorem own : ownKnob Try.prog.godebug = none := by kernel_rfl
theorem laidOut : laidOutB Try.prog = true := by kernel_rfl

set_option maxRecDepth 100000 in
set_option maxHeartbeats 8000000 in
theorem walk (v0 : VS) (p0 : MS) (w : World) (h0 : RdS w v0 p0) (b0 : p0.fits) (f0 : p0.wf) :
    Calls Try.prog 3 #[.agg #[.int .i64 p0.trap, .bool p0.done, .int .i64 p0.cost, .int .i64 p0.steps, v0.c, v0.k, v0.f]] w fun e w' => e = .returned (.bool true) ∧ Below w.heap.size w w' := by
  have B0 : Below w.heap.size w (w.alloc (.cells #[.int .i64 p0.trap, .bool p0.done, .int .i64 p0.cost, .int .i64 p0.steps, v0.c, v0.k, v0.f] 26)) := below_alloc _ _
  have A0 : At7 (w.alloc (.cells #[.int .i64 p0.trap, .bool p0.done, .int .i64 p0.cost, .int .i64 p0.steps, v0.c, v0.k, v0.f] 26)) w.heap.size (.int .i64 p0.trap) (.bool p0.done) (.int .i64 p0.cost) (.int .i64 p0.steps) v0.c v0.k v0.f := At7.new w _ _ _ _ _ _ _ _
  have HF : Hid (p0.fits ∧ p0.wf ∧ RdS w v0 p0) := ⟨b0, f0, h0⟩
  clear b0 f0 h0
  go_enter Try.func3, Try.ntmps3
  go_wp2_with fail
  refine (szState_any v0 p0 1048576 _ HF.out.1 (HF.out.2.2.keep B0 (Nat.le_refl _)) (by omega) (by omega)).mono ?_
  rintro e u1 ⟨r1, rfl, hr1, bl1⟩
  have B1 : Hid (Below w.heap.size w u1) := below_on B0 (Nat.le_refl _) bl1
  have Q0 : Hid (At7 u1 w.heap.size (.int .i64 p0.trap) (.bool p0.done) (.int .i64 p0.cost) (.int .i64 p0.steps) v0.c v0.k v0.f) := A0.keep bl1
  clear B0 A0 bl1
  rcases hr1 with rfl | ⟨hr0, hr1, hs0⟩
  · go_wp2
    go_ret
    exact ⟨rfl, B1.out⟩
  have HS : Hid p0.small := hs0
  clear hs0
  have hrn : ¬ r1 < 0 := by omega
  obtain ⟨i0, i1, i2, i3, i4, i5, i6⟩ := Q0.out
  go_wp2_with fail
  have HMS : Hid (memOf p0).small := memOf_small HS.out
  refine (toState_any v0 p0 _ HS.out (HF.out.2.2.keep B1.out (Nat.le_refl _))).mono ?_
  rintro e u2 ⟨y1, f1, y2, f2, y3, f3, rfl, own2, bl2⟩
  have B2 : Hid (Below w.heap.size w u2) := below_on B1.out (Nat.le_refl _) bl2
  have Q2 : Hid (At7 u2 w.heap.size (.int .i64 p0.trap) (.bool p0.done) (.int .i64 p0.cost) (.int .i64 p0.steps) v0.c v0.k v0.f) := Q0.out.keep bl2
  have R2 : Hid (RdS u2 ⟨.slice y1 p0.cells.length f1, .slice y2 p0.stack.length f2, .slice y3 p0.frames.length f3⟩ p0) := own2.rd
  clear own2 bl2 B1 Q0 i0 i1 i2 i3 i4 i5 i6
  go_wp2_with fail
  refine (specMemoryOf_any ⟨.slice y1 p0.cells.length f1, .slice y2 p0.stack.length f2, .slice y3 p0.frames.length f3⟩ p0 _ HS.out R2.out).mono ?_
  rintro e u3 ⟨a1, n1, c1, a2, n2, c2, a3, n3, c3, rfl, own3, _, bl3⟩
  have B3 : Hid (Below w.heap.size w u3) := below_on B2.out (Nat.le_refl _) bl3
  have Q3 : Hid (At7 u3 w.heap.size (.int .i64 p0.trap) (.bool p0.done) (.int .i64 p0.cost) (.int .i64 p0.steps) v0.c v0.k v0.f) := Q2.out.keep bl3
  have R3 : Hid (RdM u3 ⟨.slice a1 n1 c1, .slice a2 n2 c2, .slice a3 n3 c3⟩ (memOf p0)) := own3.rd
  clear own3 bl3 B2 Q2 R2
  obtain ⟨i0, i1, i2, i3, i4, i5, i6⟩ := Q3.out
  have nb : ¬ w.heap.size = u3.heap.size := Nat.ne_of_lt Q3.out.lt
  have mb : w.heap.size < u3.heap.size := Q3.out.lt
  go_wp2_with fail
  have bA := below_alloc u3 (.cells #[.slice a1 n1 c1, .slice a2 n2 c2, .slice a3 n3 c3] 30)
  refine (toState_any v0 p0 _ HS.out (HF.out.2.2.keep (below_on B3.out (Nat.le_refl _) bA) (Nat.le_refl _))).mono ?_
  rintro e u4 ⟨x1, e1, x2, e2, x3, e3, rfl, own4, bl4⟩
  have bB : Below u3.heap.size u3 u4 := below_on bA (Nat.le_refl _) bl4
  have B4 : Hid (Below w.heap.size w u4) := below_on B3.out (Nat.le_refl _) bB
  have Q4 : Hid (At7 u4 w.heap.size (.int .i64 p0.trap) (.bool p0.done) (.int .i64 p0.cost) (.int .i64 p0.steps) v0.c v0.k v0.f) := Q3.out.keep bB
  have QW : Hid (At3 u4 u3.heap.size (.slice a1 n1 c1) (.slice a2 n2 c2) (.slice a3 n3 c3)) := (At3.new u3 _ _ _ _).keep bl4
  have R4 : Hid (RdM u4 ⟨.slice a1 n1 c1, .slice a2 n2 c2, .slice a3 n3 c3⟩ (memOf p0)) := R3.out.keep bB (Nat.le_refl _)
  have X4 : Hid (OwnS u4 (u3.heap.size + 1) ⟨.slice x1 p0.cells.length e1, .slice x2 p0.stack.length e2, .slice x3 p0.frames.length e3⟩ p0) := by
    have := own4
    rw [show (u3.alloc (.cells #[.slice a1 n1 c1, .slice a2 n2 c2, .slice a3 n3 c3] 30)).heap.size = u3.heap.size + 1 by simp] at this
    exact this
  have HB34 : Hid (Below u3.heap.size u3 u4) := bB
  have HL3 : Hid (w.heap.size < u3.heap.size) := mb
  have HL4 : Hid (u3.heap.size < u4.heap.size) := QW.out.lt
  clear own4 bl4 bA bB B3 Q3 i0 i1 i2 i3 i4 i5 i6 nb mb
  go_wp2_with fail
  have bA := below_alloc u4 (.cells #[.int .i64 p0.trap, .bool p0.done, .int .i64 p0.cost, .int .i64 p0.steps, .slice x1 p0.cells.length e1, .slice x2 p0.stack.length e2, .slice x3 p0.frames.length e3] 36)
  refine (implMemoryOf_any ⟨.slice x1 p0.cells.length e1, .slice x2 p0.stack.length e2, .slice x3 p0.frames.length e3⟩ p0 _ HS.out (X4.out.rd.keep bA (Nat.le_refl _))).mono ?_
  rintro e u5 ⟨b1, l1, d1, b2, l2, d2, b3, l3, d3, rfl, own5, sep5, bl5⟩
  have bB : Below u4.heap.size u4 u5 := below_on bA (Nat.le_refl _) bl5
  have B5 : Hid (Below w.heap.size w u5) := below_on B4.out (Nat.le_refl _) bB
  have Q5 : Hid (At7 u5 w.heap.size (.int .i64 p0.trap) (.bool p0.done) (.int .i64 p0.cost) (.int .i64 p0.steps) v0.c v0.k v0.f) := Q4.out.keep bB
  have QW5 : Hid (At3 u5 u3.heap.size (.slice a1 n1 c1) (.slice a2 n2 c2) (.slice a3 n3 c3)) := QW.out.keep bB
  have QX5 : Hid (At7 u5 u4.heap.size (.int .i64 p0.trap) (.bool p0.done) (.int .i64 p0.cost) (.int .i64 p0.steps) (.slice x1 p0.cells.length e1) (.slice x2 p0.stack.length e2) (.slice x3 p0.frames.length e3)) := (At7.new u4 _ _ _ _ _ _ _ _).keep bl5
  have R5 : Hid (RdM u5 ⟨.slice a1 n1 c1, .slice a2 n2 c2, .slice a3 n3 c3⟩ (memOf p0)) := R4.out.keep bB (Nat.le_refl _)
  have G5 : Hid (OwnM u5 (u4.heap.size + 1) ⟨.slice b1 l1 d1, .slice b2 l2 d2, .slice b3 l3 d3⟩ (memOf p0) ∧ Sep3 ⟨.slice b1 l1 d1, .slice b2 l2 d2, .slice b3 l3 d3⟩) := by
    have := own5
    rw [show (u4.alloc (.cells #[.int .i64 p0.trap, .bool p0.done, .int .i64 p0.cost, .int .i64 p0.steps, .slice x1 p0.cells.length e1, .slice x2 p0.stack.length e2, .slice x3 p0.frames.length e3] 36)).heap.size = u4.heap.size + 1 by simp] at this
    exact ⟨this, sep5⟩
  have X5 : Hid (RdS u5 ⟨.slice x1 p0.cells.length e1, .slice x2 p0.stack.length e2, .slice x3 p0.frames.length e3⟩ p0) := X4.out.rd.keep bB (Nat.le_refl _)
  have HB45 : Hid (Below u4.heap.size u4 u5) := bB
  have HL5 : Hid (u4.heap.size < u5.heap.size) := QX5.out.lt
  have HGL : Hid (∀ g, (some g = (Value.slice b1 l1 d1).ownBlock ∨ some g = (Value.slice b2 l2 d2).ownBlock ∨ some g = (Value.slice b3 l3 d3).ownBlock) → g < u5.heap.size) := fun g hg => by
    rcases hg with hg | hg | hg
    · exact (own_block G5.out.1.ins hg.symm).2
    · exact (own_block G5.out.1.outs hg.symm).2
    · exact (own_block G5.out.1.keeps hg.symm).2
  clear own5 sep5 bl5 bA bB B4 Q4 QW R4
  have nb1 : ¬ u3.heap.size = u5.heap.size := Nat.ne_of_lt QW5.out.lt
  have mb1 : u3.heap.size < u5.heap.size := QW5.out.lt
  obtain ⟨j0, j1, j2⟩ := QW5.out
  go_wp2_with fail
  have bA := below_alloc u5 (.cells #[.slice b1 l1 d1, .slice b2 l2 d2, .slice b3 l3 d3] 30)
  refine (eqMemory_same ⟨.slice b1 l1 d1, .slice b2 l2 d2, .slice b3 l3 d3⟩ ⟨.slice a1 n1 c1, .slice a2 n2 c2, .slice a3 n3 c3⟩ (memOf p0) _ HMS.out (G5.out.1.rd.keep bA (Nat.le_refl _)) (R5.out.keep bA (Nat.le_refl _))).mono ?_
  rintro e u6 ⟨rfl, bl6⟩
  have bB : Below u5.heap.size u5 u6 := below_on bA (Nat.le_refl _) bl6
  have B6 : Hid (Below w.heap.size w u6) := below_on B5.out (Nat.le_refl _) bB
  have Q6 : Hid (At7 u6 w.heap.size (.int .i64 p0.trap) (.bool p0.done) (.int .i64 p0.cost) (.int .i64 p0.steps) v0.c v0.k v0.f) := Q5.out.keep bB
  have QW6 : Hid (At3 u6 u3.heap.size (.slice a1 n1 c1) (.slice a2 n2 c2) (.slice a3 n3 c3)) := QW5.out.keep bB
  have QX6 : Hid (At7 u6 u4.heap.size (.int .i64 p0.trap) (.bool p0.done) (.int .i64 p0.cost) (.int .i64 p0.steps) (.slice x1 p0.cells.length e1) (.slice x2 p0.stack.length e2) (.slice x3 p0.frames.length e3)) := QX5.out.keep bB
  have QG6 : Hid (At3 u6 u5.heap.size (.slice b1 l1 d1) (.slice b2 l2 d2) (.slice b3 l3 d3)) := (At3.new u5 _ _ _ _).keep bl6
  have R6 : Hid (RdM u6 ⟨.slice a1 n1 c1, .slice a2 n2 c2, .slice a3 n3 c3⟩ (memOf p0)) := R5.out.keep bB (Nat.le_refl _)
  have G6 : Hid (OwnM u6 (u4.heap.size + 1) ⟨.slice b1 l1 d1, .slice b2 l2 d2, .slice b3 l3 d3⟩ (memOf p0) ∧ Sep3 ⟨.slice b1 l1 d1, .slice b2 l2 d2, .slice b3 l3 d3⟩) := ⟨G5.out.1.keep bB (Nat.le_refl _), G5.out.2⟩
  have X6 : Hid (RdS u6 ⟨.slice x1 p0.cells.length e1, .slice x2 p0.stack.length e2, .slice x3 p0.frames.length e3⟩ p0) := X5.out.keep bB (Nat.le_refl _)
  have HB46 : Hid (Below u4.heap.size u4 u6) := below_on HB45.out (Nat.le_refl _) bB
  have RS6 : Hid (RdS u6 v0 p0) := HF.out.2.2.keep B6.out (Nat.le_refl _)
  clear bl6 bA bB B5 Q5 QW5 QX5 R5 G5 X5 HB45 nb1 mb1 j0 j1 j2
  obtain ⟨i0, i1, i2, i3, i4, i5, i6⟩ := Q6.out
  obtain ⟨j0, j1, j2, j3, j4, j5, j6⟩ := QX6.out
  go_wp2_with fail
  clear i0 i1 i2 i3 i4 i5 i6 j0 j1 j2 j3 j4 j5 j6
  have KX := (QX6.out.keep (below_drew1 _)).all
  have KV := (Q6.out.keep (below_drew1 _)).all
  go_region_held (fun w' => (w'.cell? ⟨u4.heap.size, 0, none⟩ = some (.int .i64 p0.trap) ∧ w'.cell? ⟨u4.heap.size, 1, none⟩ = some (.bool p0.done) ∧ w'.cell? ⟨u4.heap.size, 2, none⟩ = some (.int .i64 p0.cost) ∧ w'.cell? ⟨u4.heap.size, 3, none⟩ = some (.int .i64 p0.steps) ∧ w'.cell? ⟨u4.heap.size, 4, none⟩ = some (.slice x1 p0.cells.length e1) ∧ w'.cell? ⟨u4.heap.size, 5, none⟩ = some (.slice x2 p0.stack.length e2) ∧ w'.cell? ⟨u4.heap.size, 6, none⟩ = some (.slice x3 p0.frames.length e3)) ∧ (w'.cell? ⟨w.heap.size, 0, none⟩ = some (.int .i64 p0.trap) ∧ w'.cell? ⟨w.heap.size, 1, none⟩ = some (.bool p0.done) ∧ w'.cell? ⟨w.heap.size, 2, none⟩ = some (.int .i64 p0.cost) ∧ w'.cell? ⟨w.heap.size, 3, none⟩ = some (.int .i64 p0.steps) ∧ w'.cell? ⟨w.heap.size, 4, none⟩ = some v0.c ∧ w'.cell? ⟨w.heap.size, 5, none⟩ = some v0.k ∧ w'.cell? ⟨w.heap.size, 6, none⟩ = some v0.f)) (first | exact ⟨KX, KV⟩ | go_keep) (first
    | (go_at_call 7; refine (toState_any v0 p0 _ HS.out ?_).mono ?_; exact RS6.out.keep (below_drew1 _) (Nat.le_refl _); rintro e u7 ⟨y4, f4, y5, f5, y6, f6, rfl, own7, bl7⟩; have B7 : Hid (Below u6.heap.size u6 u7) := below_drew_trans bl7 (Nat.le_refl _); have O7 : Hid (RdS u7 ⟨.slice y4 p0.cells.length f4, .slice y5 p0.stack.length f5, .slice y6 p0.frames.length f6⟩ p0) := own7.rd; have KX := (QX6.out.keep B7.out).all; have KV := (Q6.out.keep B7.out).all; clear own7 bl7)
    | (go_at_call 10; refine (eqState_same ⟨.slice x1 p0.cells.length e1, .slice x2 p0.stack.length e2, .slice x3 p0.frames.length e3⟩ ⟨.slice y4 p0.cells.length f4, .slice y5 p0.stack.length f5, .slice y6 p0.frames.length f6⟩ p0 _ HS.out ?_ ?_).mono ?_; exact X6.out.keep B7.out (Nat.le_refl _); exact O7.out; rintro e u8 ⟨rfl, bl8⟩; have B8 : Hid (Below u6.heap.size u6 u8) := below_on B7.out (Nat.le_refl _) bl8; have KX := (QX6.out.keep B8.out).all; have KV := (Q6.out.keep B8.out).all; clear bl8))
  have B9 : Hid (Below w.heap.size w u8) := below_on B6.out (Nat.le_refl _) B8.out
  have Q9 : Hid (At7 u8 w.heap.size (.int .i64 p0.trap) (.bool p0.done) (.int .i64 p0.cost) (.int .i64 p0.steps) v0.c v0.k v0.f) := Q6.out.keep B8.out
  have QW9 : Hid (At3 u8 u3.heap.size (.slice a1 n1 c1) (.slice a2 n2 c2) (.slice a3 n3 c3)) := QW6.out.keep B8.out
  have QX9 : Hid (At7 u8 u4.heap.size (.int .i64 p0.trap) (.bool p0.done) (.int .i64 p0.cost) (.int .i64 p0.steps) (.slice x1 p0.cells.length e1) (.slice x2 p0.stack.length e2) (.slice x3 p0.frames.length e3)) := QX6.out.keep B8.out
  have QG9 : Hid (At3 u8 u5.heap.size (.slice b1 l1 d1) (.slice b2 l2 d2) (.slice b3 l3 d3)) := QG6.out.keep B8.out
  have R9 : Hid (RdM u8 ⟨.slice a1 n1 c1, .slice a2 n2 c2, .slice a3 n3 c3⟩ (memOf p0)) := R6.out.keep B8.out (Nat.le_refl _)
  have G9 : Hid (OwnM u8 (u4.heap.size + 1) ⟨.slice b1 l1 d1, .slice b2 l2 d2, .slice b3 l3 d3⟩ (memOf p0) ∧ Sep3 ⟨.slice b1 l1 d1, .slice b2 l2 d2, .slice b3 l3 d3⟩) := ⟨G6.out.1.keep B8.out (Nat.le_refl _), G6.out.2⟩
  have HB49 : Hid (Below u4.heap.size u4 u8) := below_on HB46.out (Nat.le_refl _) B8.out
  clear B6 Q6 QW6 QX6 QG6 R6 G6 X6 HB46 RS6 B7 B8 O7 KX KV
  obtain ⟨j0, j1, j2, j3, j4, j5, j6⟩ := QX9.out
  go_wp2_with fail
  refine (markState_any u4 (u3.heap.size + 1) ⟨.slice x1 p0.cells.length e1, .slice x2 p0.stack.length e2, .slice x3 p0.frames.length e3⟩ p0 u8 HS.out X4.out HB49.out).mono ?_
  rintro e u9 ⟨⟨k1, rfl, hk1⟩, mg⟩
  have hBm : Below (u3.heap.size + 1) u8 u9 := mg.below (by have := HB49.out.size; have := HL4.out; omega)
  have B10 : Hid (Below w.heap.size w u9) := B9.out.trans (hBm.mono (by have := HL3.out; omega))
  have H38 : Below u3.heap.size u3 u8 := below_on HB34.out (Nat.le_refl _) HB49.out
  have HB39 : Hid (Below u3.heap.size u3 u9) := H38.trans (hBm.mono (by omega))
  have R10 : Hid (RdM u9 ⟨.slice a1 n1 c1, .slice a2 n2 c2, .slice a3 n3 c3⟩ (memOf p0)) := R3.out.keep (H38.trans (hBm.mono (by omega))) (Nat.le_refl _)
  have G10 : Hid (OwnM u9 (u4.heap.size + 1) ⟨.slice b1 l1 d1, .slice b2 l2 d2, .slice b3 l3 d3⟩ (memOf p0) ∧ Sep3 ⟨.slice b1 l1 d1, .slice b2 l2 d2, .slice b3 l3 d3⟩) := ⟨⟨mg.own G9.out.1.ins (by omega), mg.own G9.out.1.outs (by omega), mg.own G9.out.1.keeps (by omega)⟩, G9.out.2⟩
  have lo3 : ∀ b, b ≤ u3.heap.size → ∀ (i : Nat) x, u8.cell? ⟨b, i, none⟩ = some x → u9.cell? ⟨b, i, none⟩ = some x := fun b hb i x hx => mg.cell hx (.inl (by simp only []; omega))
  have hi5 : ∀ (i : Nat) x, u8.cell? ⟨u5.heap.size, i, none⟩ = some x → u9.cell? ⟨u5.heap.size, i, none⟩ = some x := fun i x hx => mg.cell hx (.inr (by have := HL5.out; simp only []; omega))
  have hw3 := HL3.out
  have Q10 : Hid (At7 u9 w.heap.size (.int .i64 p0.trap) (.bool p0.done) (.int .i64 p0.cost) (.int .i64 p0.steps) v0.c v0.k v0.f) := ⟨lo3 _ (by omega) _ _ Q9.out.c0, lo3 _ (by omega) _ _ Q9.out.c1, lo3 _ (by omega) _ _ Q9.out.c2, lo3 _ (by omega) _ _ Q9.out.c3, lo3 _ (by omega) _ _ Q9.out.c4, lo3 _ (by omega) _ _ Q9.out.c5, lo3 _ (by omega) _ _ Q9.out.c6⟩
  have QW10 : Hid (At3 u9 u3.heap.size (.slice a1 n1 c1) (.slice a2 n2 c2) (.slice a3 n3 c3)) := ⟨lo3 _ (by omega) _ _ QW9.out.c0, lo3 _ (by omega) _ _ QW9.out.c1, lo3 _ (by omega) _ _ QW9.out.c2⟩
  have QG10 : Hid (At3 u9 u5.heap.size (.slice b1 l1 d1) (.slice b2 l2 d2) (.slice b3 l3 d3)) := ⟨hi5 _ _ QG9.out.c0, hi5 _ _ QG9.out.c1, hi5 _ _ QG9.out.c2⟩
  clear mg hBm H38 lo3 hi5 hw3 B9 Q9 QW9 QX9 QG9 R9 G9 HB49 X4 j0 j1 j2 j3 j4 j5 j6
  have hk1' : ¬ k1 < 0 := by omega
  have hkd : decide (k1 < 0) = false := by simp; omega
  obtain ⟨i0, i1, i2⟩ := QW10.out
  obtain ⟨j0, j1, j2⟩ := QG10.out
  go_wp2_with fail
  refine (eqMemory_same ⟨.slice b1 l1 d1, .slice b2 l2 d2, .slice b3 l3 d3⟩ ⟨.slice a1 n1 c1, .slice a2 n2 c2, .slice a3 n3 c3⟩ (memOf p0) _ HMS.out G10.out.1.rd R10.out).mono ?_
  rintro e u10 ⟨rfl, bl⟩
  have B11 : Hid (Below w.heap.size w u10) := below_on B10.out (Nat.le_refl _) bl
  have Q11 : Hid (At7 u10 w.heap.size (.int .i64 p0.trap) (.bool p0.done) (.int .i64 p0.cost) (.int .i64 p0.steps) v0.c v0.k v0.f) := Q10.out.keep bl
  have QW11 : Hid (At3 u10 u3.heap.size (.slice a1 n1 c1) (.slice a2 n2 c2) (.slice a3 n3 c3)) := QW10.out.keep bl
  have QG11 : Hid (At3 u10 u5.heap.size (.slice b1 l1 d1) (.slice b2 l2 d2) (.slice b3 l3 d3)) := QG10.out.keep bl
  have R11 : Hid (RdM u10 ⟨.slice a1 n1 c1, .slice a2 n2 c2, .slice a3 n3 c3⟩ (memOf p0)) := R10.out.keep bl (Nat.le_refl _)
  have G11 : Hid (OwnM u10 (u4.heap.size + 1) ⟨.slice b1 l1 d1, .slice b2 l2 d2, .slice b3 l3 d3⟩ (memOf p0) ∧ Sep3 ⟨.slice b1 l1 d1, .slice b2 l2 d2, .slice b3 l3 d3⟩) := ⟨G10.out.1.keep bl (Nat.le_refl _), G10.out.2⟩
  have HB310 : Hid (Below u3.heap.size u3 u10) := below_on HB39.out (Nat.le_refl _) bl
  clear bl B10 Q10 QW10 QG10 R10 G10 i0 i1 i2 j0 j1 j2
  obtain ⟨j0, j1, j2⟩ := QG11.out
  go_wp2_with fail
  have hsz10 : u4.heap.size + 1 ≤ u10.heap.size := by have := QG11.out.lt; have := HL5.out; omega
  have H310 : Hid (Below u3.heap.size u3 u10) := HB310.out
  refine (markMemory_any ⟨.slice b1 l1 d1, .slice b2 l2 d2, .slice b3 l3 d3⟩ (memOf p0) (u4.heap.size + 1) u10 HMS.out G11.out.1 G11.out.2 hsz10).mono ?_
  rintro e u11 ⟨rfl, own11, bl11, rest11⟩
  have B12 : Hid (Below w.heap.size w u11) := B11.out.trans (bl11.mono (by have := HL3.out; have := HL4.out; omega))
  have R12 : Hid (RdM u11 ⟨.slice a1 n1 c1, .slice a2 n2 c2, .slice a3 n3 c3⟩ (memOf p0)) := R3.out.keep (H310.out.trans (bl11.mono (by have := HL4.out; omega))) (Nat.le_refl _)
  have lo : ∀ b, b ≤ u3.heap.size → ∀ (i : Nat) x, u10.cell? ⟨b, i, none⟩ = some x → u11.cell? ⟨b, i, none⟩ = some x := fun b hb i x hx => by rw [bl11.cell (by simp only []; have := HL4.out; omega)]; exact hx
  have hi5 : ∀ (i : Nat) x, u10.cell? ⟨u5.heap.size, i, none⟩ = some x → u11.cell? ⟨u5.heap.size, i, none⟩ = some x := fun i x hx => by
    have hr := rest11 u5.heap.size (block_lt_of_cell hx) (fun e => absurd (HGL.out _ (.inl e)) (by omega)) (fun e => absurd (HGL.out _ (.inr (.inl e))) (by omega)) (fun e => absurd (HGL.out _ (.inr (.inr e))) (by omega))
    unfold World.cell? at *
    rw [hr]
    exact hx
  have hw3 := HL3.out
  have Q12 : Hid (At7 u11 w.heap.size (.int .i64 p0.trap) (.bool p0.done) (.int .i64 p0.cost) (.int .i64 p0.steps) v0.c v0.k v0.f) := ⟨lo _ (by omega) _ _ Q11.out.c0, lo _ (by omega) _ _ Q11.out.c1, lo _ (by omega) _ _ Q11.out.c2, lo _ (by omega) _ _ Q11.out.c3, lo _ (by omega) _ _ Q11.out.c4, lo _ (by omega) _ _ Q11.out.c5, lo _ (by omega) _ _ Q11.out.c6⟩
  have QW12 : Hid (At3 u11 u3.heap.size (.slice a1 n1 c1) (.slice a2 n2 c2) (.slice a3 n3 c3)) := ⟨lo _ (by omega) _ _ QW11.out.c0, lo _ (by omega) _ _ QW11.out.c1, lo _ (by omega) _ _ QW11.out.c2⟩
  have QG12 : Hid (At3 u11 u5.heap.size (.slice b1 l1 d1) (.slice b2 l2 d2) (.slice b3 l3 d3)) := ⟨hi5 _ _ QG11.out.c0, hi5 _ _ QG11.out.c1, hi5 _ _ QG11.out.c2⟩
  have G12 : Hid (RdM u11 ⟨.slice b1 l1 d1, .slice b2 l2 d2, .slice b3 l3 d3⟩ (markM (memOf p0))) := own11.rd
  clear own11 bl11 rest11 lo hi5 hw3 B11 Q11 QW11 QG11 R11 G11 H310 HB310 hsz10 j0 j1 j2 hk1 hk1' hkd
  have hm1 := HMS.out.ins
  have hm2 := HMS.out.outs
  have hm3 := HMS.out.keeps
  obtain ⟨j0, j1, j2⟩ := QG12.out
  go_wp2_with fail
  refine (heldMemory_any ⟨.slice b1 l1 d1, .slice b2 l2 d2, .slice b3 l3 d3⟩ (memOf p0) _ HMS.out G12.out).mono ?_
  rintro e u12 ⟨rfl, bl⟩
  have B13 : Hid (Below w.heap.size w u12) := below_on B12.out (Nat.le_refl _) bl
  have Q13 : Hid (At7 u12 w.heap.size (.int .i64 p0.trap) (.bool p0.done) (.int .i64 p0.cost) (.int .i64 p0.steps) v0.c v0.k v0.f) := Q12.out.keep bl
  have QW13 : Hid (At3 u12 u3.heap.size (.slice a1 n1 c1) (.slice a2 n2 c2) (.slice a3 n3 c3)) := QW12.out.keep bl
  have QG13 : Hid (At3 u12 u5.heap.size (.slice b1 l1 d1) (.slice b2 l2 d2) (.slice b3 l3 d3)) := QG12.out.keep bl
  have R13 : Hid (RdM u12 ⟨.slice a1 n1 c1, .slice a2 n2 c2, .slice a3 n3 c3⟩ (memOf p0)) := R12.out.keep bl (Nat.le_refl _)
  have G13 : Hid (RdM u12 ⟨.slice b1 l1 d1, .slice b2 l2 d2, .slice b3 l3 d3⟩ (markM (memOf p0))) := G12.out.keep bl (Nat.le_refl _)
  clear bl B12 Q12 QW12 QG12 R12 G12 j0 j1 j2
  obtain ⟨i0, i1, i2, i3, i4, i5, i6⟩ := Q13.out
  generalize hT : (1 + ((memOf p0).ins.length : Int) + ((memOf p0).outs.length : Int) + ((memOf p0).keeps.length : Int)) = T at *
  have hT0 : ¬ T < 0 := by omega
  go_wp2_with fail
  refine (toState_any v0 p0 _ HS.out (HF.out.2.2.keep B13.out (Nat.le_refl _))).mono ?_
  rintro e u13 ⟨y4, f4, y5, f5, y6, f6, rfl, own13, bl⟩
  have B14 : Hid (Below w.heap.size w u13) := below_on B13.out (Nat.le_refl _) bl
  have QW14 : Hid (At3 u13 u3.heap.size (.slice a1 n1 c1) (.slice a2 n2 c2) (.slice a3 n3 c3)) := QW13.out.keep bl
  have QG14 : Hid (At3 u13 u5.heap.size (.slice b1 l1 d1) (.slice b2 l2 d2) (.slice b3 l3 d3)) := QG13.out.keep bl
  have R14 : Hid (RdM u13 ⟨.slice a1 n1 c1, .slice a2 n2 c2, .slice a3 n3 c3⟩ (memOf p0)) := R13.out.keep bl (Nat.le_refl _)
  have G14 : Hid (RdM u13 ⟨.slice b1 l1 d1, .slice b2 l2 d2, .slice b3 l3 d3⟩ (markM (memOf p0))) := G13.out.keep bl (Nat.le_refl _)
  have X14 : Hid (RdS u13 ⟨.slice y4 p0.cells.length f4, .slice y5 p0.stack.length f5, .slice y6 p0.frames.length f6⟩ p0) := own13.rd
  clear own13 bl B13 Q13 QW13 QG13 R13 G13 i0 i1 i2 i3 i4 i5 i6
  go_wp2_with fail
  refine (implMemoryOf_any ⟨.slice y4 p0.cells.length f4, .slice y5 p0.stack.length f5, .slice y6 p0.frames.length f6⟩ p0 _ HS.out X14.out).mono ?_
  rintro e u14 ⟨g1, o1, q1, g2, o2, q2, g3, o3, q3, rfl, own14, _, bl⟩
  have B15 : Hid (Below w.heap.size w u14) := below_on B14.out (Nat.le_refl _) bl
  have QW15 : Hid (At3 u14 u3.heap.size (.slice a1 n1 c1) (.slice a2 n2 c2) (.slice a3 n3 c3)) := QW14.out.keep bl
  have QG15 : Hid (At3 u14 u5.heap.size (.slice b1 l1 d1) (.slice b2 l2 d2) (.slice b3 l3 d3)) := QG14.out.keep bl
  have R15 : Hid (RdM u14 ⟨.slice a1 n1 c1, .slice a2 n2 c2, .slice a3 n3 c3⟩ (memOf p0)) := R14.out.keep bl (Nat.le_refl _)
  have G15 : Hid (RdM u14 ⟨.slice b1 l1 d1, .slice b2 l2 d2, .slice b3 l3 d3⟩ (markM (memOf p0))) := G14.out.keep bl (Nat.le_refl _)
  have L15 : Hid (RdM u14 ⟨.slice g1 o1 q1, .slice g2 o2 q2, .slice g3 o3 q3⟩ (memOf p0)) := own14.rd
  clear own14 bl B14 QW14 QG14 R14 G14 X14
  have nb1 : ¬ u3.heap.size = u14.heap.size := Nat.ne_of_lt QW15.out.lt
  have mb1 : u3.heap.size < u14.heap.size := QW15.out.lt
  obtain ⟨j0, j1, j2⟩ := QW15.out
  go_wp2_with fail
  have bA := below_alloc u14 (.cells #[.slice g1 o1 q1, .slice g2 o2 q2, .slice g3 o3 q3] 30)
  refine (eqMemory_same ⟨.slice g1 o1 q1, .slice g2 o2 q2, .slice g3 o3 q3⟩ ⟨.slice a1 n1 c1, .slice a2 n2 c2, .slice a3 n3 c3⟩ (memOf p0) _ HMS.out (L15.out.keep bA (Nat.le_refl _)) (R15.out.keep bA (Nat.le_refl _))).mono ?_
  rintro e u15 ⟨rfl, bl⟩
  have bB : Below u14.heap.size u14 u15 := below_on bA (Nat.le_refl _) bl
  have B16 : Hid (Below w.heap.size w u15) := below_on B15.out (Nat.le_refl _) bB
  have QG16 : Hid (At3 u15 u5.heap.size (.slice b1 l1 d1) (.slice b2 l2 d2) (.slice b3 l3 d3)) := QG15.out.keep bB
  have G16 : Hid (RdM u15 ⟨.slice b1 l1 d1, .slice b2 l2 d2, .slice b3 l3 d3⟩ (markM (memOf p0))) := G15.out.keep bB (Nat.le_refl _)
  clear bl bA bB B15 QW15 QG15 R15 G15 L15 nb1 mb1 j0 j1 j2
  obtain ⟨j0, j1, j2⟩ := QG16.out
  go_wp2_with fail
  refine (heldMemory_any ⟨.slice b1 l1 d1, .slice b2 l2 d2, .slice b3 l3 d3⟩ (memOf p0) _ HMS.out G16.out).mono ?_
  rw [hT]
  rintro e u16 ⟨rfl, bl⟩
  have B17 : Hid (Below w.heap.size w u16) := below_on B16.out (Nat.le_refl _) bl
  clear bl j0 j1 j2
  go_wp2
  go_ret
  exact ⟨rfl, B17.out⟩

set_option maxRecDepth 100000 in
theorem lifted (os : Os) (started : os.Started) (H : Type) (enc : TypeId × Value → H) :
    ReturnsInHanded {} Try.checked os 3 .any (Rows.fnExactMemoryOfSpec.pre6 enc Try.prog Try.f3 Rows.fnExactMemoryOfRow.domain false) (Rows.fnExactMemoryOfSpec.post enc Try.prog Try.f3 false true false false) := by
  refine returnsInHanded_of_change (C := Try.checked) own started (by kernel_rfl) Try.func3
    (ChangeSpec.witness6 (enc := enc) (C := Try.checked) false ⟨#[], #[.agg #[.int .i64 0, .bool false, .int .i64 0, .int .i64 0, .slice none 0 0, .slice none 0 0, .slice none 0 0]], []⟩ 8 (by kernel_rfl) (by kernel_rfl) (by kernel_rfl) (by kernel_rfl)) ?_
  intro W base args ds gs before hval0 hW hcnd _
  have hval : ∀ (j : Nat) t v, Try.f3.params[j]? = some t → args[j]? = some v → Value.okWide Try.prog W .any base t v := hval0
  have hW' := hW
  obtain ⟨p, q, hA0, hV, rfl, hfz, hnd⟩ := hW
  have hA : DataW.TrodAll enc Try.prog W 0 (fun _ => true) true Try.f3.params.toList args.toList ds p := hA0
  rw [Try.params3] at hA hval
  obtain ⟨x0, xs0, d0, ds0, q0, r0, hargs, rfl, rfl, t0, u0⟩ := trodAll_cons hA
  obtain ⟨rfl, rfl, rfl⟩ := trodAll_nil u0
  obtain rfl : args = #[x0] := by cases args; simp_all
  obtain ⟨rfl, rfl⟩ := trodVars_none hV
  obtain ⟨cs0, rfl, _⟩ := okWide_struct Try.underlying26 (hval 0 26 x0 rfl rfl)
  have k0 := t0
  have lt0 : ∀ x ∈ q0, x.block < W.heap.size := by obtain ⟨m, hm⟩ := k0; exact DataW.trod_lt m _ _ _ hm
  obtain ⟨p0, v0, e0, h0, b0, f0⟩ : ∃ (p : MS) (v : VS), cs0 = #[.int .i64 p.trap, .bool p.done, .int .i64 p.cost, .int .i64 p.steps, v.c, v.k, v.f] ∧ RdS W v p ∧ p.fits ∧ p.wf := by
    obtain ⟨fuel, hf⟩ := t0
    obtain ⟨p, v, e, h, b, f⟩ := open_state hf
    exact ⟨p, v, by apply Array.toList_inj.1; exact e, h, b, f⟩
  subst e0
  clear hA0 hval0
  refine (walk v0 p0 W h0 b0 f0).mono fun e W' ⟨he, bel⟩ => ?_
  subst he
  exact ⟨_, rfl, _, _, _, [], _, [], hW', trodAll_mk1 (shut_bool Try.underlying4 _), (trodAll_cons_mk (Below.trod laidOut (by kernel_rfl) (of_decide_eq_true (by kernel_rfl)) k0 bel lt0) trodAll_mk0), rfl, bel.frame _, fun h => by cases h⟩

theorem over : Rows.fnExactMemoryOfRow.holds Try.pinned (OpenSpec.ofChange Rows.fnExactMemoryOfSpec) :=
  OpenClaim.holds_of_wide 3 Try.f3 rfl rfl rfl rfl rfl rfl rfl ⟨rfl, rfl, rfl, rfl, rfl⟩ rfl rfl rfl rfl rfl (by kernel_rfl) Try.func3 (by kernel_rfl)
    (of_decide_eq_true (by kernel_rfl)) (by unfold Func.isWrapper; first | (rw [if_pos (by decide +kernel)]; kernel_rfl) | (rw [if_neg (by decide +kernel)]; exact ⟨rfl, rfl⟩))
    (fun os started H enc _ => lifted os started H enc)

theorem proved : Rows.FnExactMemoryOfSaid := over
#print axioms proved
end Go.Proofs.Ytadkabiipkngiaa.fnExactMemoryOf
namespace Go.Proofs.Ytadkabiipkngiaa
theorem fnExactMemoryOf_holds : Rows.FnExactMemoryOfSaid := fnExactMemoryOf.proved
end Go.Proofs.Ytadkabiipkngiaa
