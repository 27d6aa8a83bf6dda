/- St6: the size of a state; a state that came in. -/
import Derived.Test.YtadkabiipkngiaaSt5
namespace Go.Proofs.Ytadkabiipkngiaa
open Go.ChangeShapes Go.WideShapes Go.ChangeAt Go.RowKit
set_option linter.unusedVariables false
set_option maxHeartbeats 2000000 in
set_option maxRecDepth 100000 in
theorem szState_any (v : VS) (s : MS) (left : Int) (w : World) (hf : s.fits) (h : RdS w v s) (h0 : 0 ≤ left) (h1 : left ≤ 1048576) :
    Calls Try.prog 5 #[.agg #[.int .i64 s.trap, .bool s.done, .int .i64 s.cost, .int .i64 s.steps, v.c, v.k, v.f], .int .i64 left] w fun e w' => ∃ r : Int, e = .returned (.int .i64 r) ∧ (r = -1 ∨ 0 ≤ r ∧ r ≤ left ∧ s.small) ∧ Below w.heap.size w w' := by
  obtain ⟨a2, c2, e2⟩ := h.stack.is_slice
  obtain ⟨vc, vk, vf⟩ := v
  simp only [] at e2
  subst e2
  have F0 : w.alloc (.cells #[.int .i64 s.trap, .bool s.done, .int .i64 s.cost, .int .i64 s.steps, vc, .slice a2 s.stack.length c2, vf] 26) |>.ownsRow w.heap.size 26 7 (.slice (some ⟨w.heap.size, 0, none⟩) 1 1) 1 [.int .i64 s.trap, .bool s.done, .int .i64 s.cost, .int .i64 s.steps, vc, .slice a2 s.stack.length c2, vf] := World.ownsRow_lit (base := w.heap.size) (e := 26) (size := 7) w #[.int .i64 s.trap, .bool s.done, .int .i64 s.cost, .int .i64 s.steps, vc, .slice a2 s.stack.length c2, vf] 1 (Nat.le_refl _) (by unfold maxLen; omega) (by simp)
  have HB : Hid (Below w.heap.size w (w.alloc (.cells #[.int .i64 s.trap, .bool s.done, .int .i64 s.cost, .int .i64 s.steps, vc, .slice a2 s.stack.length c2, vf] 26))) := (Below.refl _ _).alloc (Nat.le_refl _) _
  have HF : Hid (s.fits ∧ RdS w ⟨vc, .slice a2 s.stack.length c2, vf⟩ s) := ⟨hf, h⟩
  clear hf h
  go_enter Try.func5, Try.ntmps5
  go_wp2_with fail
  refine (szValueSS_any vc s.cells left _ HF.out.1.cells HF.out.1.cell (HF.out.2.cells.keep HB.out (Nat.le_refl _)) h0 h1).mono ?_
  rintro e u1 ⟨r1, rfl, hr, rfl⟩
  rcases hr with rfl | ⟨r10, r11, r12, r13⟩
  · go_wp2
    go_ret
    exact ⟨-1, rfl, .inl rfl, HB.out⟩
  have HR : Hid (∀ f ∈ s.cells, (f.length : Int) ≤ left) := r13
  clear r13
  go_wp2_with fail
  refine (szValueS_any a2 s.stack.length c2 r1 _ HF.out.1.stack r10 (by omega)).mono ?_
  rintro e u2 ⟨rfl, rfl⟩
  have hz := szv_cases (n := s.stack.length) r10 (by omega)
  generalize szv r1 s.stack.length = r2 at hz
  rcases hz with rfl | ⟨r20, r21, r22⟩
  · go_wp2
    go_ret
    exact ⟨-1, rfl, .inl rfl, HB.out⟩
  go_wp2_with fail
  refine (szFrameS_any vf s.frames r2 _ HF.out.1.frames HF.out.1.frame (HF.out.2.frames.keep HB.out (Nat.le_refl _)) r20 (by omega)).mono ?_
  rintro e u3 ⟨r3, rfl, hr, b3⟩
  have HB3 : Hid (Below w.heap.size w u3) := HB.out.trans (b3.mono HB.out.size)
  clear b3
  rcases hr with rfl | ⟨r30, r31, r32, r33⟩
  · go_wp2
    go_ret
    exact ⟨-1, rfl, .inl rfl, HB3.out⟩
  have HS : Hid (∀ f ∈ s.frames, f.small) := r33
  clear r33
  go_wp2
  go_ret
  refine ⟨r3, rfl, .inr ⟨r30, by omega, ⟨by omega, fun f hf => ?_, by omega, by omega, HS.out⟩⟩, HB3.out⟩
  have := HR.out f hf
  omega
instance : Inhabited MG := ⟨⟨0, 0, 0, []⟩⟩
instance : Inhabited Value := ⟨.bool true⟩
theorem cellsLV : Try.prog.cellsOf 106 = 2 := by kernel_rfl
theorem cellsLG : Try.prog.cellsOf 101 = 4 := by kernel_rfl
theorem cellsLS : Try.prog.cellsOf 26 = 7 := by kernel_rfl
theorem cellsB : Try.prog.cellsOf 4 = 1 := by kernel_rfl
theorem cellsSV : Try.prog.cellsOf 23 = 1 := by kernel_rfl
theorem cellsSSV : Try.prog.cellsOf 22 = 1 := by kernel_rfl
theorem cellsSG : Try.prog.cellsOf 24 = 1 := by kernel_rfl
section
variable {H : Type} {enc : TypeId × Value → H} {w : World} {spare : Nat → Bool} {held : Bool} {fuel : Nat} {cs : List Value} {x : DataW H × List MemPlace}
theorem seven {cs : List Value} (h : cs.length = 7) : ∃ a b c d e f g, cs = [a, b, c, d, e, f, g] := by
  match cs, h with
  | [a, b, c, d, e, f, g], _ => exact ⟨a, b, c, d, e, f, g, rfl⟩
theorem trod_struct7 {P : Program} {base : Nat} {t : TypeId} {f0 f1 f2 f3 f4 f5 f6 : Field} (ht : P.underlying t = some (.struct #[f0, f1, f2, f3, f4, f5, f6])) (h : DataW.trod enc P w base spare held fuel t cs = some x) :
    ∃ y0 y1 y2 y3 y4 y5 y6 n, cs.length = P.cellsOf t ∧ DataW.trod enc P w base spare held n f0.type ((cs.drop f0.offset).take (P.cellsOf f0.type)) = some y0 ∧ DataW.trod enc P w base spare held n f1.type ((cs.drop f1.offset).take (P.cellsOf f1.type)) = some y1 ∧ DataW.trod enc P w base spare held n f2.type ((cs.drop f2.offset).take (P.cellsOf f2.type)) = some y2 ∧
      DataW.trod enc P w base spare held n f3.type ((cs.drop f3.offset).take (P.cellsOf f3.type)) = some y3 ∧ DataW.trod enc P w base spare held n f4.type ((cs.drop f4.offset).take (P.cellsOf f4.type)) = some y4 ∧ DataW.trod enc P w base spare held n f5.type ((cs.drop f5.offset).take (P.cellsOf f5.type)) = some y5 ∧ DataW.trod enc P w base spare held n f6.type ((cs.drop f6.offset).take (P.cellsOf f6.type)) = some y6 := by
  obtain ⟨xs, n, _, rfl, hl, hlen, hf⟩ := DataW.trod_struct ht h
  match xs, hlen with
  | [y0, y1, y2, y3, y4, y5, y6], _ => exact ⟨y0, y1, y2, y3, y4, y5, y6, n, hl, by simpa using hf 0 f0 rfl, by simpa using hf 1 f1 rfl, by simpa using hf 2 f2 rfl, by simpa using hf 3 f3 rfl, by simpa using hf 4 f4 rfl, by simpa using hf 5 f5 rfl, by simpa using hf 6 f6 rfl⟩
theorem open_bool (h : DataW.trod enc Try.prog w 0 spare held fuel 4 cs = some x) : ∃ b, cs = [.bool b] := by
  obtain ⟨b, h1, _⟩ := DataW.trod_bool Try.underlying4 h
  exact ⟨b, h1⟩
theorem open_value (h : DataW.trod enc Try.prog w 0 spare held fuel 106 cs = some x) : ∃ y : MC, cs = y.cells ∧ y.wf := by
  obtain ⟨y0, y1, n, _, hl, g0, g1⟩ := trod_struct2 Try.underlying106 h
  rw [cellsLV] at hl
  obtain ⟨a, b, rfl⟩ := two hl
  simp only [cells64, cells32, List.drop_zero, List.drop_succ_cons, List.take_succ_cons, List.take_zero] at g0 g1
  obtain ⟨z0, e0, w0⟩ := open_i64 g0
  obtain ⟨z1, e1, w1⟩ := open_u32 g1
  simp only [intCell, List.cons.injEq, and_true] at e0 e1
  subst e0 e1
  exact ⟨⟨z0, z1⟩, rfl, w0, w1⟩
theorem open_values (h : DataW.trod enc Try.prog w 0 spare held fuel 23 cs = some x) : ∃ y : List MC × Value, cs = vCells y ∧ Rd w 2 y.2 y.1.length (y.1.flatMap MC.cells) ∧ y.1.length ≤ 9223372036854775807 ∧ ∀ z ∈ y.1, z.wf := by
  obtain ⟨s, ys, e, h1, h2, h3⟩ := open_rows MC.cells MC.wf 2 MC.cells_length (by omega) Try.underlying23 cellsLV (fun _ _ _ => open_value) h
  exact ⟨(ys, s), e, h1, by simp [maxLen] at h2; exact h2, h3⟩
theorem open_frame (h : DataW.trod enc Try.prog w 0 spare held fuel 101 cs = some x) : ∃ y : MG × Value, cs = gCells y ∧ RdG w y.2 y.1 ∧ y.1.fits ∧ y.1.wf := by
  obtain ⟨y0, y1, y2, y3, n, _, hl, g0, g1, g2, g3⟩ := Go.Joins.trod_struct4 Try.underlying101 h
  rw [cellsLG] at hl
  obtain ⟨a, b, c, d, rfl⟩ := four hl
  simp only [cells64, cellsSV, List.drop_zero, List.drop_succ_cons, List.take_succ_cons, List.take_zero] at g0 g1 g2 g3
  obtain ⟨z0, e0, w0⟩ := open_i64 g0
  obtain ⟨z1, e1, w1⟩ := open_i64 g1
  obtain ⟨z2, e2, w2⟩ := open_i64 g2
  obtain ⟨⟨l3, s3⟩, e3, w3, m3, k3⟩ := open_values g3
  simp only [intCell, vCells, List.cons.injEq, and_true] at e0 e1 e2 e3
  subst e0 e1 e2 e3
  exact ⟨(⟨z0, z1, z2, l3⟩, d), rfl, w3, m3, ⟨w0, w1, w2, k3⟩⟩
theorem open_state (h : DataW.trod enc Try.prog w 0 spare held fuel 26 cs = some x) : ∃ (p : MS) (v : VS), cs = [.int .i64 p.trap, .bool p.done, .int .i64 p.cost, .int .i64 p.steps, v.c, v.k, v.f] ∧ RdS w v p ∧ p.fits ∧ p.wf := by
  obtain ⟨y0, y1, y2, y3, y4, y5, y6, n, hl, g0, g1, g2, g3, g4, g5, g6⟩ := trod_struct7 Try.underlying26 h
  rw [cellsLS] at hl
  obtain ⟨c0, c1, c2, c3, c4, c5, c6, rfl⟩ := seven hl
  simp only [cells64, cellsB, cellsSSV, cellsSV, cellsSG, List.drop_zero, List.drop_succ_cons, List.take_succ_cons, List.take_zero] at g0 g1 g2 g3 g4 g5 g6
  obtain ⟨z0, e0, w0⟩ := open_i64 g0
  obtain ⟨z1, e1⟩ := open_bool g1
  obtain ⟨z2, e2, w2⟩ := open_i64 g2
  obtain ⟨z3, e3, w3⟩ := open_i64 g3
  obtain ⟨s4, l4, e4, w4, m4, k4⟩ := open_rows vCells (fun y => Rd w 2 y.2 y.1.length (y.1.flatMap MC.cells) ∧ y.1.length ≤ 9223372036854775807 ∧ ∀ z ∈ y.1, z.wf) 1 vCells_length (by omega) Try.underlying22 cellsSV (fun _ _ _ => open_values) g4
  obtain ⟨⟨l5, s5⟩, e5, w5, m5, k5⟩ := open_values g5
  obtain ⟨s6, l6, e6, w6, m6, k6⟩ := open_rows gCells (fun y => RdG w y.2 y.1 ∧ y.1.fits ∧ y.1.wf) 4 gCells_length (by omega) Try.underlying24 cellsLG (fun _ _ _ => open_frame) g6
  simp only [intCell, vCells, List.cons.injEq, and_true] at e0 e1 e2 e3 e4 e5 e6
  subst e0 e1 e2 e3 e4 e5 e6
  have hm : ∀ n : Nat, n ≤ maxLen → n ≤ 9223372036854775807 := fun n h => by simp [maxLen] at h; exact h
  refine ⟨⟨z0, z1, z2, z3, l4.map Prod.fst, l5, l6.map Prod.fst⟩, ⟨c4, c5, c6⟩, rfl, ⟨⟨l4, rfl, by simpa using w4, fun y hy => (k4 y hy).1⟩, w5, ⟨l6, rfl, by simpa using w6, fun y hy => (k6 y hy).1⟩⟩, ⟨by simpa using hm _ m4, ?_, m5, by simpa using hm _ m6, ?_⟩, ⟨w0, w2, w3, ?_, k5, ?_⟩⟩
  · intro r hr
    obtain ⟨y, hy, rfl⟩ := List.mem_map.1 hr
    exact (k4 y hy).2.1
  · intro r hr
    obtain ⟨y, hy, rfl⟩ := List.mem_map.1 hr
    exact (k6 y hy).2.1
  · intro r hr
    obtain ⟨y, hy, rfl⟩ := List.mem_map.1 hr
    exact (k4 y hy).2.2
  · intro r hr
    obtain ⟨y, hy, rfl⟩ := List.mem_map.1 hr
    exact (k6 y hy).2.2
end
end Go.Proofs.Ytadkabiipkngiaa
