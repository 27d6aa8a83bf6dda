/- FnExactFlowOf: the walk, the row. -/
import Derived.Test.YtdbaghmjomdmbaaRows
import Derived.Test.YtdbaghmjomdmbaaFo48
import Derived.WalkKit
import Derived.ProofKit
import Derived.OpenShut
import Derived.ShutString
import Derived.ChangeOld
import Derived.Below
namespace Go.Proofs.Ytdbaghmjomdmbaa.fnExactFlowOf
open Go.ChangeShapes Go.WideShapes Go.ChangeAt Go.RowKit
set_option linter.unusedVariables false

theorem own : ownKnob Try.prog.godebug = none := by kernel_rfl
theorem laidOut : laidOutB Try.prog = true := by kernel_rfl

set_option maxRecDepth 100000 in
set_option maxHeartbeats 8000000 in
theorem walk (s0 : Value) (p0 : List MI) (w : World) (h0 : Rd w 4 s0 p0.length (p0.flatMap MI.cells)) (b0 : p0.length ≤ 9223372036854775807) :
    Calls Try.prog 4 #[s0] w fun e w' => e = .returned (.bool true) ∧ Below w.heap.size w w' := by
  have H : Hid (Rd w 4 s0 p0.length (p0.flatMap MI.cells)) := h0
  obtain ⟨a0, c0, rfl⟩ := h0.is_slice
  clear h0
  go_enter Try.func4, Try.ntmps4
  go_wp2_with fail
  refine (szInstrS_any a0 p0.length c0 1048576 _ b0 (by omega) (by omega)).mono ?_
  rintro e u ⟨rfl, rfl⟩
  by_cases hb : (1048576 : Int) - (p0.length : Int) < 0
  · rw [show szv 1048576 (p0.length : Int) = -1 from if_pos hb]
    go_wp2
    go_ret
    exact ⟨rfl, Below.refl _ _⟩
  rw [show szv 1048576 (p0.length : Int) = 1048576 - (p0.length : Int) from if_neg hb]
  have hl : p0.length ≤ 1048576 := by omega
  have hnn : ¬ (1048576 - (p0.length : Int)) < 0 := hb
  obtain ⟨w0, hw0⟩ : ∃ W, W = u := ⟨_, rfl⟩
  subst hw0
  go_wp2_with fail
  refine (toInstrS_any (.slice a0 p0.length c0) p0.length p0 _ hl H.out rfl).mono ?_
  rintro e u1 ⟨rfl, own1, b1⟩
  have B1 : Hid (Below w0.heap.size w0 u1) := b1
  have R1 : Hid (Rd u1 4 (.slice (some ⟨w0.heap.size, 0, none⟩) p0.length p0.length) p0.length (p0.flatMap MI.cells)) := Rd.of_own own1
  clear own1 b1
  go_wp2_with fail
  refine (specFlow_any (.slice (some ⟨w0.heap.size, 0, none⟩) p0.length p0.length) p0 _ hl R1.out).mono ?_
  rintro e u2 ⟨r, sb, so, si, sl, rfl, his, hrd, b2⟩
  obtain ⟨m1, n1, m2, n2, m3, n3, m4, n4, rfl, rfl, rfl, rfl⟩ := hrd.slices
  have HO : Hid (FlowOk p0 r ∧ r.small) := ⟨his, his.small⟩
  have Q2 : Hid (FlB (u2.alloc (.cells #[.int .i64 r.code, .int .i64 r.at_, (.slice m1 r.blocks.length n1), (.slice m2 r.order.length n2), (.slice m3 r.idom.length n3), (.slice m4 r.loops.length n4)] 36)) u2.heap.size r (.slice m1 r.blocks.length n1) (.slice m2 r.order.length n2) (.slice m3 r.idom.length n3) (.slice m4 r.loops.length n4) ∧ Below w0.heap.size w0 (u2.alloc (.cells #[.int .i64 r.code, .int .i64 r.at_, (.slice m1 r.blocks.length n1), (.slice m2 r.order.length n2), (.slice m3 r.idom.length n3), (.slice m4 r.loops.length n4)] 36))) := ⟨FlB.new hrd, below_on (below_on B1.out (Nat.le_refl _) b2) (Nat.le_refl _) (below_alloc _ _)⟩
  clear his hrd b2 B1 R1
  go_wp2_with fail
  revert Q2
  generalize (u2.alloc (.cells #[.int .i64 r.code, .int .i64 r.at_, (.slice m1 r.blocks.length n1), (.slice m2 r.order.length n2), (.slice m3 r.idom.length n3), (.slice m4 r.loops.length n4)] 36)) = U2
  generalize u2.heap.size = X
  intro Q2
  refine (toInstrS_any (.slice a0 p0.length c0) p0.length p0 _ hl (H.out.keep Q2.out.2 (Nat.le_refl _)) rfl).mono ?_
  rintro e u3 ⟨rfl, own3, b3⟩
  have X3 : Hid (u3.ownsRow U2.heap.size 44 4 (.slice (some ⟨U2.heap.size, 0, none⟩) p0.length p0.length) p0.length (p0.flatMap MI.cells) ∧ Below U2.heap.size U2 u3) := ⟨own3, b3⟩
  clear own3 b3
  go_wp2_with fail
  refine (implFlow_any (.slice (some ⟨U2.heap.size, 0, none⟩) p0.length p0.length) p0 _ hl (Rd.of_own X3.out.1)).mono ?_
  rintro e u4 ⟨r', vb, vo, vi, vl, F, ys, rfl, his, hown, b4⟩
  obtain rfl : r = r' := HO.out.1.one his
  obtain ⟨j1, k1, j2, k2, j3, k3, j4, k4, rfl, rfl, rfl, rfl⟩ := hown.rd.slices
  have HF : Hid (flSmall F r.order.length r.idom.length ys) := flSmall.of hown HO.out.2
  have b34 : Below u3.heap.size u3 (u4.alloc (.cells #[.int .i64 r.code, .int .i64 r.at_, (.slice j1 r.blocks.length k1), (.slice j2 r.order.length k2), (.slice j3 r.idom.length k3), (.slice j4 r.loops.length k4)] 36)) := below_on b4 (Nat.le_refl _) (below_alloc _ _)
  have G4 : Hid (GB (u4.alloc (.cells #[.int .i64 r.code, .int .i64 r.at_, (.slice j1 r.blocks.length k1), (.slice j2 r.order.length k2), (.slice j3 r.idom.length k3), (.slice j4 r.loops.length k4)] 36)) u3.heap.size u4.heap.size r (.slice j1 r.blocks.length k1) (.slice j2 r.order.length k2) (.slice j3 r.idom.length k3) (.slice j4 r.loops.length k4) F ys ∧ Below U2.heap.size U2 (u4.alloc (.cells #[.int .i64 r.code, .int .i64 r.at_, (.slice j1 r.blocks.length k1), (.slice j2 r.order.length k2), (.slice j3 r.idom.length k3), (.slice j4 r.loops.length k4)] 36)) ∧ Below u3.heap.size u3 (u4.alloc (.cells #[.int .i64 r.code, .int .i64 r.at_, (.slice j1 r.blocks.length k1), (.slice j2 r.order.length k2), (.slice j3 r.idom.length k3), (.slice j4 r.loops.length k4)] 36))) := ⟨GB.new hown b4.size, below_on X3.out.2 (Nat.le_refl _) b34, b34⟩
  have q4 := Q2.out.1.keep (below_on X3.out.2 (Nat.le_refl _) b4)
  obtain ⟨i0, i1, i2, i3, i4, i5⟩ := blk6 q4.blk
  have nb : ¬ X = u4.heap.size := Nat.ne_of_lt q4.blk.lt
  have mb : X < u4.heap.size := q4.blk.lt
  clear hown his b4 b34 q4
  go_wp2_with fail
  clear i0 i1 i2 i3 i4 i5 nb mb
  revert G4
  generalize (u4.alloc (.cells #[.int .i64 r.code, .int .i64 r.at_, (.slice j1 r.blocks.length k1), (.slice j2 r.order.length k2), (.slice j3 r.idom.length k3), (.slice j4 r.loops.length k4)] 36)) = U4
  generalize u4.heap.size = Y
  intro G4
  refine (eqFlow_same (.slice j1 r.blocks.length k1) (.slice j2 r.order.length k2) (.slice j3 r.idom.length k3) (.slice j4 r.loops.length k4) (.slice m1 r.blocks.length n1) (.slice m2 r.order.length n2) (.slice m3 r.idom.length n3) (.slice m4 r.loops.length n4) r _ HO.out.2 G4.out.1.own.rd (Q2.out.1.keep G4.out.2.1).rd).mono ?_
  rintro e u5 ⟨rfl, b5⟩
  have G5 : Hid (GB u5 u3.heap.size Y r (.slice j1 r.blocks.length k1) (.slice j2 r.order.length k2) (.slice j3 r.idom.length k3) (.slice j4 r.loops.length k4) F ys ∧ Below U2.heap.size U2 u5 ∧ Below u3.heap.size u3 u5) := ⟨G4.out.1.keep b5, below_on G4.out.2.1 (Nat.le_refl _) b5, below_on G4.out.2.2 (Nat.le_refl _) b5⟩
  clear b5 G4
  go_wp2_with fail
  refine (toInstrS_any (.slice a0 p0.length c0) p0.length p0 _ hl (H.out.keep (below_on Q2.out.2 (Nat.le_refl _) G5.out.2.1) (Nat.le_refl _)) rfl).mono ?_
  rintro e u6 ⟨rfl, own6, b6⟩
  have G6 : Hid (GB u6 u3.heap.size Y r (.slice j1 r.blocks.length k1) (.slice j2 r.order.length k2) (.slice j3 r.idom.length k3) (.slice j4 r.loops.length k4) F ys ∧ Below U2.heap.size U2 u6 ∧ Below u3.heap.size u3 u6) := ⟨G5.out.1.keep b6, below_on G5.out.2.1 (Nat.le_refl _) b6, below_on G5.out.2.2 (Nat.le_refl _) b6⟩
  have R6 : Hid (Rd u6 4 (.slice (some ⟨u5.heap.size, 0, none⟩) p0.length p0.length) p0.length (p0.flatMap MI.cells)) := Rd.of_own own6
  clear own6 b6 G5
  go_wp2_with fail
  refine (eqInstrS_same (.slice (some ⟨U2.heap.size, 0, none⟩) p0.length p0.length) (.slice (some ⟨u5.heap.size, 0, none⟩) p0.length p0.length) p0 _ hl (Rd.of_own (own_keep X3.out.1 G6.out.2.2 (Nat.le_refl _))) R6.out).mono ?_
  rintro e u7 ⟨rfl, b7⟩
  have G7 : Hid (GB u7 u3.heap.size Y r (.slice j1 r.blocks.length k1) (.slice j2 r.order.length k2) (.slice j3 r.idom.length k3) (.slice j4 r.loops.length k4) F ys ∧ Below U2.heap.size U2 u7 ∧ Below u3.heap.size u3 u7) := ⟨G6.out.1.keep b7, below_on G6.out.2.1 (Nat.le_refl _) b7, below_on G6.out.2.2 (Nat.le_refl _) b7⟩
  clear b7 G6 R6
  go_wp2_with fail
  refine (markInstrS_any u3 U2.heap.size (.slice (some ⟨U2.heap.size, 0, none⟩) p0.length p0.length) p0 1 u7 hl (by omega) (by omega) X3.out.1 (Shaped.of_below G7.out.2.2)).mono ?_
  rintro e u8 ⟨rfl, mk⟩
  have G8 : Hid (GB u8 u3.heap.size Y r (.slice j1 r.blocks.length k1) (.slice j2 r.order.length k2) (.slice j3 r.idom.length k3) (.slice j4 r.loops.length k4) F ys ∧ Below U2.heap.size U2 u8 ∧ u3.heap.size ≤ u8.heap.size) := ⟨G7.out.1.marks mk (Nat.le_refl _), G7.out.2.1.trans mk.below, by have := G7.out.2.2.size; have := mk.size; omega⟩
  clear mk G7
  have hk0 : ¬ (1 + 4 * (p0.length : Int)) < 0 := by omega
  have hkd : decide ((1 + 4 * (p0.length : Int)) < 0) = false := by simp; omega
  have q8 := Q2.out.1.keep G8.out.2.1
  obtain ⟨i0, i1, i2, i3, i4, i5⟩ := blk6 q8.blk
  obtain ⟨g0, g1, g2, g3, g4, g5⟩ := blk6 G8.out.1.blk
  clear q8
  go_wp2_with fail
  refine (eqFlow_same (.slice j1 r.blocks.length k1) (.slice j2 r.order.length k2) (.slice j3 r.idom.length k3) (.slice j4 r.loops.length k4) (.slice m1 r.blocks.length n1) (.slice m2 r.order.length n2) (.slice m3 r.idom.length n3) (.slice m4 r.loops.length n4) r _ HO.out.2 G8.out.1.own.rd (Q2.out.1.keep G8.out.2.1).rd).mono ?_
  rintro e u9 ⟨rfl, b9⟩
  have G9 : Hid (GB u9 u3.heap.size Y r (.slice j1 r.blocks.length k1) (.slice j2 r.order.length k2) (.slice j3 r.idom.length k3) (.slice j4 r.loops.length k4) F ys ∧ Below U2.heap.size U2 u9 ∧ u3.heap.size ≤ u9.heap.size) := ⟨G8.out.1.keep b9, below_on G8.out.2.1 (Nat.le_refl _) b9, Nat.le_trans G8.out.2.2 b9.size⟩
  clear b9 G8 hk0 hkd i0 i1 i2 i3 i4 i5 g0 g1 g2 g3 g4 g5
  obtain ⟨g0, g1, g2, g3, g4, g5⟩ := blk6 G9.out.1.blk
  go_wp2_with fail
  refine (markFlow_ex u3.heap.size r.code r.at_ (.slice j1 r.blocks.length k1) (.slice j2 r.order.length k2) (.slice j3 r.idom.length k3) (.slice j4 r.loops.length k4) F ys r u9 G9.out.2.2 HF.out G9.out.1.own).mono ?_
  rintro e u10 ⟨rfl, mk10, b10, z10⟩
  have M10 : Hid (HB u10 u3.heap.size Y r (.slice j1 r.blocks.length k1) (.slice j2 r.order.length k2) (.slice j3 r.idom.length k3) (.slice j4 r.loops.length k4) F ys ∧ Below U2.heap.size U2 u10) := ⟨⟨mk10, z10 _ _ G9.out.1.blk⟩, G9.out.2.1.trans (b10.mono X3.out.2.size)⟩
  clear mk10 b10 z10 G9 g0 g1 g2 g3 g4 g5
  have hE0 : ¬ endL (endB 1 F + (r.order.length : Int) + (r.idom.length : Int)) ys < 0 := by
    have h1 := endB_le 1 F HF.out.2.1
    have h2 := endL_le (endB 1 F + (r.order.length : Int) + (r.idom.length : Int)) ys HF.out.2.2.2.2.2
    omega
  obtain ⟨g0, g1, g2, g3, g4, g5⟩ := blk6 M10.out.1.blk
  go_wp2_with fail
  refine (heldFlow_ex u3.heap.size r.code r.at_ (.slice j1 r.blocks.length k1) (.slice j2 r.order.length k2) (.slice j3 r.idom.length k3) (.slice j4 r.loops.length k4) F r.order.length r.idom.length ys u10 HF.out M10.out.1.mkd).mono ?_
  rintro e u11 ⟨rfl, b11⟩
  have M11 : Hid (HB u11 u3.heap.size Y r (.slice j1 r.blocks.length k1) (.slice j2 r.order.length k2) (.slice j3 r.idom.length k3) (.slice j4 r.loops.length k4) F ys ∧ Below U2.heap.size U2 u11) := ⟨M10.out.1.keep b11, below_on M10.out.2 (Nat.le_refl _) b11⟩
  clear b11 M10 g0 g1 g2 g3 g4 g5
  go_wp2_with fail
  refine (toInstrS_any (.slice a0 p0.length c0) p0.length p0 _ hl (H.out.keep (below_on Q2.out.2 (Nat.le_refl _) M11.out.2) (Nat.le_refl _)) rfl).mono ?_
  rintro e u12 ⟨rfl, own12, b12⟩
  have M12 : Hid (HB u12 u3.heap.size Y r (.slice j1 r.blocks.length k1) (.slice j2 r.order.length k2) (.slice j3 r.idom.length k3) (.slice j4 r.loops.length k4) F ys ∧ Below U2.heap.size U2 u12) := ⟨M11.out.1.keep b12, below_on M11.out.2 (Nat.le_refl _) b12⟩
  have R12 : Hid (Rd u12 4 (.slice (some ⟨u11.heap.size, 0, none⟩) p0.length p0.length) p0.length (p0.flatMap MI.cells)) := Rd.of_own own12
  clear own12 b12 M11
  go_wp2_with fail
  refine (implFlow_any (.slice (some ⟨u11.heap.size, 0, none⟩) p0.length p0.length) p0 _ hl R12.out).mono ?_
  rintro e u13 ⟨r3, hb3, ho3, hi3, hl3, F3, ys3, rfl, his, hown, b13⟩
  obtain rfl : r = r3 := HO.out.1.one his
  obtain ⟨d1, f1, d2, f2, d3, f3, d4, f4, rfl, rfl, rfl, rfl⟩ := hown.rd.slices
  have M13 : Hid (HB (u13.alloc (.cells #[.int .i64 r.code, .int .i64 r.at_, (.slice d1 r.blocks.length f1), (.slice d2 r.order.length f2), (.slice d3 r.idom.length f3), (.slice d4 r.loops.length f4)] 36)) u3.heap.size Y r (.slice j1 r.blocks.length k1) (.slice j2 r.order.length k2) (.slice j3 r.idom.length k3) (.slice j4 r.loops.length k4) F ys ∧ Below U2.heap.size U2 (u13.alloc (.cells #[.int .i64 r.code, .int .i64 r.at_, (.slice d1 r.blocks.length f1), (.slice d2 r.order.length f2), (.slice d3 r.idom.length f3), (.slice d4 r.loops.length f4)] 36)) ∧ RdFl (u13.alloc (.cells #[.int .i64 r.code, .int .i64 r.at_, (.slice d1 r.blocks.length f1), (.slice d2 r.order.length f2), (.slice d3 r.idom.length f3), (.slice d4 r.loops.length f4)] 36)) (.slice d1 r.blocks.length f1) (.slice d2 r.order.length f2) (.slice d3 r.idom.length f3) (.slice d4 r.loops.length f4) r) := ⟨(M12.out.1.keep b13).keep (below_alloc _ _), below_on (below_on M12.out.2 (Nat.le_refl _) b13) (Nat.le_refl _) (below_alloc _ _), hown.rd.keep (below_alloc _ _) (Nat.le_refl _)⟩
  have q13 := Q2.out.1.keep (below_on M12.out.2 (Nat.le_refl _) b13)
  obtain ⟨i0, i1, i2, i3, i4, i5⟩ := blk6 q13.blk
  have nb : ¬ X = u13.heap.size := Nat.ne_of_lt q13.blk.lt
  have mb : X < u13.heap.size := q13.blk.lt
  clear hown his b13 M12 R12 q13
  go_wp2_with fail
  clear i0 i1 i2 i3 i4 i5 nb mb
  revert M13
  generalize (u13.alloc (.cells #[.int .i64 r.code, .int .i64 r.at_, (.slice d1 r.blocks.length f1), (.slice d2 r.order.length f2), (.slice d3 r.idom.length f3), (.slice d4 r.loops.length f4)] 36)) = U13
  intro M13
  refine (eqFlow_same (.slice d1 r.blocks.length f1) (.slice d2 r.order.length f2) (.slice d3 r.idom.length f3) (.slice d4 r.loops.length f4) (.slice m1 r.blocks.length n1) (.slice m2 r.order.length n2) (.slice m3 r.idom.length n3) (.slice m4 r.loops.length n4) r _ HO.out.2 M13.out.2.2 (Q2.out.1.keep M13.out.2.1).rd).mono ?_
  rintro e u14 ⟨rfl, b14⟩
  have M14 : Hid (HB u14 u3.heap.size Y r (.slice j1 r.blocks.length k1) (.slice j2 r.order.length k2) (.slice j3 r.idom.length k3) (.slice j4 r.loops.length k4) F ys ∧ Below U2.heap.size U2 u14) := ⟨M13.out.1.keep b14, below_on M13.out.2.1 (Nat.le_refl _) b14⟩
  clear b14 M13
  obtain ⟨g0, g1, g2, g3, g4, g5⟩ := blk6 M14.out.1.blk
  go_wp2_with fail
  refine (heldFlow_ex u3.heap.size r.code r.at_ (.slice j1 r.blocks.length k1) (.slice j2 r.order.length k2) (.slice j3 r.idom.length k3) (.slice j4 r.loops.length k4) F r.order.length r.idom.length ys u14 HF.out M14.out.1.mkd).mono ?_
  rintro e u15 ⟨rfl, b15⟩
  have BE : Hid (Below w0.heap.size w0 u15) := below_on Q2.out.2 (Nat.le_refl _) (below_on M14.out.2 (Nat.le_refl _) b15)
  clear b15 g0 g1 g2 g3 g4 g5
  go_wp2
  go_ret
  exact ⟨rfl, BE.out⟩

set_option maxRecDepth 100000 in
theorem lifted (os : Os) (started : os.Started) (H : Type) (enc : TypeId × Value → H) :
    ReturnsInHanded {} Try.checked os 4 .any (Rows.fnExactFlowOfSpec.pre6 enc Try.prog Try.f4 Rows.fnExactFlowOfRow.domain false) (Rows.fnExactFlowOfSpec.post enc Try.prog Try.f4 false true false false) := by
  refine returnsInHanded_of_change (C := Try.checked) own started (by kernel_rfl) Try.func4
    (ChangeSpec.witness6 (enc := enc) (C := Try.checked) false ⟨#[], #[.slice none 0 0], []⟩ 8 (by kernel_rfl) (by kernel_rfl) (by kernel_rfl) (by kernel_rfl)) ?_
  intro W base args ds gs before hval0 hW hcnd _
  have hval : ∀ (j : Nat) t v, Try.f4.params[j]? = some t → args[j]? = some v → Value.okWide Try.prog W .any base t v := hval0
  have hW' := hW
  obtain ⟨p, q, hA0, hV, rfl, hfz, hnd⟩ := hW
  have hA : DataW.TrodAll enc Try.prog W 0 (fun _ => true) true Try.f4.params.toList args.toList ds p := hA0
  rw [Try.params4] at hA hval
  obtain ⟨x0, xs0, d0, ds0, q0, r0, hargs, rfl, rfl, t0, u0⟩ := trodAll_cons hA
  obtain ⟨rfl, rfl, rfl⟩ := trodAll_nil u0
  obtain rfl : args = #[x0] := by cases args; simp_all
  obtain ⟨rfl, rfl⟩ := trodVars_none hV
  obtain ⟨ax, nx, cx, rfl⟩ := okWide_slice Try.underlying22 (hval 0 22 x0 rfl rfl)
  have k0 := t0
  have lt0 : ∀ x ∈ q0, x.block < W.heap.size := by obtain ⟨m, hm⟩ := k0; exact DataW.trod_lt m _ _ _ hm
  obtain ⟨p0, h0, b0⟩ : ∃ p : List MI, Rd W 4 (.slice ax nx cx) p.length (p.flatMap MI.cells) ∧ p.length ≤ 9223372036854775807 := by
    obtain ⟨fuel, hf⟩ := t0
    obtain ⟨s, ys, e, h, b, f⟩ := open_code hf
    have es : s = .slice ax nx cx := by
      have e2 : [(.slice ax nx cx : Value)] = [s] := e
      exact (List.cons.inj e2).1.symm
    subst es
    exact ⟨ys, h, b⟩
  clear hA0 hval0
  refine (walk (.slice ax nx cx) p0 W h0 b0).mono fun e W' ⟨he, bel⟩ => ?_
  subst he
  exact ⟨_, rfl, _, _, _, [], _, [], hW', trodAll_mk1 (shut_bool Try.underlying4 _), (trodAll_cons_mk (Below.trod laidOut (by kernel_rfl) (of_decide_eq_true (by kernel_rfl)) k0 bel lt0) trodAll_mk0), rfl, bel.frame _, fun h => by cases h⟩

theorem over : Rows.fnExactFlowOfRow.holds Try.pinned (OpenSpec.ofChange Rows.fnExactFlowOfSpec) :=
  OpenClaim.holds_of_wide 4 Try.f4 rfl rfl rfl rfl rfl rfl rfl ⟨rfl, rfl, rfl, rfl, rfl⟩ rfl rfl rfl rfl rfl (by kernel_rfl) Try.func4 (by kernel_rfl)
    (of_decide_eq_true (by kernel_rfl)) (by unfold Func.isWrapper; first | (rw [if_pos (by decide +kernel)]; kernel_rfl) | (rw [if_neg (by decide +kernel)]; exact ⟨rfl, rfl⟩))
    (fun os started H enc _ => lifted os started H enc)

theorem proved : Rows.FnExactFlowOfSaid := over
#print axioms proved
end Go.Proofs.Ytdbaghmjomdmbaa.fnExactFlowOf
namespace Go.Proofs.Ytdbaghmjomdmbaa
theorem fnExactFlowOf_holds : Rows.FnExactFlowOfSaid := fnExactFlowOf.proved
end Go.Proofs.Ytdbaghmjomdmbaa
