/- Prog12: a program that came in. -/
import Derived.Test.YtadkabiipkngiaaProg11
namespace Go.Proofs.Ytadkabiipkngiaa
open Go.ChangeShapes Go.WideShapes Go.ChangeAt Go.RowKit
set_option linter.unusedVariables false
instance : Inhabited MI := ⟨⟨0, 0, 0, 0⟩⟩
instance : Inhabited MC := ⟨⟨0, 0⟩⟩
instance : Inhabited MT := ⟨⟨0, 0, 0, 0⟩⟩
instance : Inhabited MF := ⟨⟨[], 0, [], []⟩⟩
instance : Inhabited VF := ⟨⟨.bool true, .bool true, .bool true⟩⟩
def W64 (z : Int) : Prop := (Lit.int .i64 z).wf = true
def W32 (z : Int) : Prop := (Lit.int .u32 z).wf = true
def MI.wf (x : MI) : Prop := W64 x.op ∧ W64 x.a ∧ W64 x.b ∧ W64 x.c
def MC.wf (x : MC) : Prop := W64 x.type ∧ W32 x.word
def MT.wf (x : MT) : Prop := W64 x.func ∧ W64 x.head ∧ W64 x.counter ∧ W32 x.init
structure MF.wf (f : MF) : Prop where
  params : ∀ z ∈ f.params, W64 z
  result : W64 f.result
  locals : ∀ z ∈ f.locals, W64 z
  code : ∀ x ∈ f.code, x.wf
structure MP.wf (p : MP) : Prop where
  regions : ∀ r ∈ p.regions, ∀ z ∈ r, W64 z
  consts : ∀ x ∈ p.consts, x.wf
  funcs : ∀ f ∈ p.funcs, f.wf
  certs : ∀ x ∈ p.certs, x.wf
theorem cells64 : Try.prog.cellsOf 2 = 1 := by kernel_rfl
theorem cells32 : Try.prog.cellsOf 102 = 1 := by kernel_rfl
theorem cellsS64 : Try.prog.cellsOf 82 = 1 := by kernel_rfl
theorem cellsSS64 : Try.prog.cellsOf 43 = 1 := by kernel_rfl
theorem cellsLI : Try.prog.cellsOf 163 = 4 := by kernel_rfl
theorem cellsLC : Try.prog.cellsOf 129 = 2 := by kernel_rfl
theorem cellsLT : Try.prog.cellsOf 134 = 4 := by kernel_rfl
theorem cellsLF : Try.prog.cellsOf 116 = 4 := by kernel_rfl
theorem cellsLP : Try.prog.cellsOf 48 = 4 := by kernel_rfl
theorem cellsSI : Try.prog.cellsOf 114 = 1 := by kernel_rfl
theorem cellsSC : Try.prog.cellsOf 44 = 1 := by kernel_rfl
theorem cellsST : Try.prog.cellsOf 46 = 1 := by kernel_rfl
theorem cellsSF : Try.prog.cellsOf 45 = 1 := by kernel_rfl
section
variable {H : Type} {enc : TypeId × Value → H} {w : World} {spare : Nat → Bool} {held : Bool} {fuel : Nat} {cs : List Value} {x : DataW H × List MemPlace}
theorem four {cs : List Value} (h : cs.length = 4) : ∃ a b c d, cs = [a, b, c, d] := by
  match cs, h with
  | [a, b, c, d], _ => exact ⟨a, b, c, d, rfl⟩
theorem two {cs : List Value} (h : cs.length = 2) : ∃ a b, cs = [a, b] := by
  match cs, h with
  | [a, b], _ => exact ⟨a, b, rfl⟩
theorem open_i64 (h : DataW.trod enc Try.prog w 0 spare held fuel 2 cs = some x) : ∃ z, cs = intCell z ∧ W64 z := by
  obtain ⟨n, h1, _, h2⟩ := DataW.trod_int Try.underlying2 h
  exact ⟨n, h1, h2⟩
theorem open_u32 (h : DataW.trod enc Try.prog w 0 spare held fuel 102 cs = some x) : ∃ z, cs = [.int .u32 z] ∧ W32 z := by
  obtain ⟨n, h1, _, h2⟩ := DataW.trod_int Try.underlying102 h
  exact ⟨n, h1, h2⟩
theorem open_instr (h : DataW.trod enc Try.prog w 0 spare held fuel 163 cs = some x) : ∃ y : MI, cs = y.cells ∧ y.wf := by
  obtain ⟨y0, y1, y2, y3, n, _, hl, g0, g1, g2, g3⟩ := Go.Joins.trod_struct4 Try.underlying163 h
  rw [cellsLI] at hl
  obtain ⟨a, b, c, d, rfl⟩ := four hl
  simp only [cells64, List.drop_zero, List.drop_succ_cons, List.take_succ_cons, List.take_zero] at g0 g1 g2 g3
  obtain ⟨z0, e0, w0⟩ := open_i64 g0
  obtain ⟨z1, e1, w1⟩ := open_i64 g1
  obtain ⟨z2, e2, w2⟩ := open_i64 g2
  obtain ⟨z3, e3, w3⟩ := open_i64 g3
  simp only [intCell, List.cons.injEq, and_true] at e0 e1 e2 e3
  subst e0 e1 e2 e3
  exact ⟨⟨z0, z1, z2, z3⟩, rfl, w0, w1, w2, w3⟩
theorem open_cert (h : DataW.trod enc Try.prog w 0 spare held fuel 134 cs = some x) : ∃ y : MT, cs = y.cells ∧ y.wf := by
  obtain ⟨y0, y1, y2, y3, n, _, hl, g0, g1, g2, g3⟩ := Go.Joins.trod_struct4 Try.underlying134 h
  rw [cellsLT] at hl
  obtain ⟨a, b, c, d, rfl⟩ := four hl
  simp only [cells64, cells32, List.drop_zero, List.drop_succ_cons, List.take_succ_cons, List.take_zero] at g0 g1 g2 g3
  obtain ⟨z0, e0, w0⟩ := open_i64 g0
  obtain ⟨z1, e1, w1⟩ := open_i64 g1
  obtain ⟨z2, e2, w2⟩ := open_i64 g2
  obtain ⟨z3, e3, w3⟩ := open_u32 g3
  simp only [intCell, List.cons.injEq, and_true] at e0 e1 e2 e3
  subst e0 e1 e2 e3
  exact ⟨⟨z0, z1, z2, z3⟩, rfl, w0, w1, w2, w3⟩
theorem open_const (h : DataW.trod enc Try.prog w 0 spare held fuel 129 cs = some x) : ∃ y : MC, cs = y.cells ∧ y.wf := by
  obtain ⟨y0, y1, n, _, hl, g0, g1⟩ := trod_struct2 Try.underlying129 h
  rw [cellsLC] at hl
  obtain ⟨a, b, rfl⟩ := two hl
  simp only [cells64, cells32, List.drop_zero, List.drop_succ_cons, List.take_succ_cons, List.take_zero] at g0 g1
  obtain ⟨z0, e0, w0⟩ := open_i64 g0
  obtain ⟨z1, e1, w1⟩ := open_u32 g1
  simp only [intCell, List.cons.injEq, and_true] at e0 e1
  subst e0 e1
  exact ⟨⟨z0, z1⟩, rfl, w0, w1⟩
theorem open_ints64 (h : DataW.trod enc Try.prog w 0 spare held fuel 82 cs = some x) : ∃ y : List Int × Value, cs = rCells y ∧ Rd w 1 y.2 y.1.length (y.1.flatMap intCell) ∧ y.1.length ≤ maxLen ∧ ∀ z ∈ y.1, W64 z := by
  obtain ⟨s, ys, e, h1, h2, h3⟩ := open_rows intCell W64 1 intCell_length (by omega) Try.underlying82 cells64 (fun _ _ _ => open_i64) h
  exact ⟨(ys, s), e, h1, h2, h3⟩
theorem open_func (h : DataW.trod enc Try.prog w 0 spare held fuel 116 cs = some x) : ∃ y : MF × VF, cs = fCells y ∧ RdF w y.2 y.1 ∧ y.1.fits ∧ y.1.wf := by
  obtain ⟨y0, y1, y2, y3, n, _, hl, g0, g1, g2, g3⟩ := Go.Joins.trod_struct4 Try.underlying116 h
  rw [cellsLF] at hl
  obtain ⟨a, b, c, d, rfl⟩ := four hl
  simp only [cells64, cellsS64, cellsSI, List.drop_zero, List.drop_succ_cons, List.take_succ_cons, List.take_zero] at g0 g1 g2 g3
  obtain ⟨⟨l0, s0⟩, e0, w0, m0, k0⟩ := open_ints64 g0
  obtain ⟨z1, e1, w1⟩ := open_i64 g1
  obtain ⟨⟨l2, s2⟩, e2, w2, m2, k2⟩ := open_ints64 g2
  obtain ⟨s3, l3, e3, w3, m3, k3⟩ := open_rows MI.cells MI.wf 4 MI.cells_length (by omega) Try.underlying114 cellsLI (fun _ _ _ => open_instr) g3
  simp only [intCell, rCells, List.cons.injEq, and_true] at e0 e1 e2 e3
  subst e0 e1 e2 e3
  exact ⟨(⟨l0, z1, l2, l3⟩, ⟨a, c, d⟩), rfl, ⟨w0, w2, w3⟩, ⟨by simp [maxLen] at m0; exact m0, by simp [maxLen] at m2; exact m2, by simp [maxLen] at m3; exact m3⟩, ⟨k0, w1, k2, k3⟩⟩
theorem open_program (h : DataW.trod enc Try.prog w 0 spare held fuel 48 cs = some x) : ∃ (p : MP) (v : VP), cs = [v.r, v.k, v.f, v.t] ∧ RdP w v p ∧ p.fits ∧ p.wf := by
  obtain ⟨y0, y1, y2, y3, n, _, hl, g0, g1, g2, g3⟩ := Go.Joins.trod_struct4 Try.underlying48 h
  rw [cellsLP] at hl
  obtain ⟨a, b, c, d, rfl⟩ := four hl
  simp only [cellsSS64, cellsSC, cellsSF, cellsST, List.drop_zero, List.drop_succ_cons, List.take_succ_cons, List.take_zero] at g0 g1 g2 g3
  obtain ⟨s0, l0, e0, w0, m0, k0⟩ := open_rows rCells (fun y => Rd w 1 y.2 y.1.length (y.1.flatMap intCell) ∧ y.1.length ≤ maxLen ∧ ∀ z ∈ y.1, W64 z) 1 rCells_length (by omega) Try.underlying43 cellsS64 (fun _ _ _ => open_ints64) g0
  obtain ⟨s1, l1, e1, w1, m1, k1⟩ := open_rows MC.cells MC.wf 2 MC.cells_length (by omega) Try.underlying44 cellsLC (fun _ _ _ => open_const) g1
  obtain ⟨s2, l2, e2, w2, m2, k2⟩ := open_rows fCells (fun y => RdF w y.2 y.1 ∧ y.1.fits ∧ y.1.wf) 4 fCells_length (by omega) Try.underlying45 cellsLF (fun _ _ _ => open_func) g2
  obtain ⟨s3, l3, e3, w3, m3, k3⟩ := open_rows MT.cells MT.wf 4 MT.cells_length (by omega) Try.underlying46 cellsLT (fun _ _ _ => open_cert) g3
  simp only [List.cons.injEq, and_true] at e0 e1 e2 e3
  subst e0 e1 e2 e3
  have hm : ∀ n : Nat, n ≤ maxLen → n ≤ 9223372036854775807 := fun n h => by simp [maxLen] at h; exact h
  refine ⟨⟨l0.map Prod.fst, l1, l2.map Prod.fst, l3⟩, ⟨a, b, c, d⟩, rfl, ⟨⟨l0, rfl, by simpa using w0, fun y hy => (k0 y hy).1⟩, w1, ⟨l2, rfl, by simpa using w2, fun y hy => (k2 y hy).1⟩, w3⟩, ⟨by simpa using hm _ m0, ?_, hm _ m1, by simpa using hm _ m2, ?_, hm _ m3⟩, ⟨?_, k1, ?_, k3⟩⟩
  · intro r hr
    obtain ⟨y, hy, rfl⟩ := List.mem_map.1 hr
    exact hm _ (k0 y hy).2.1
  · intro r hr
    obtain ⟨y, hy, rfl⟩ := List.mem_map.1 hr
    exact (k2 y hy).2.1
  · intro r hr
    obtain ⟨y, hy, rfl⟩ := List.mem_map.1 hr
    exact (k0 y hy).2.2
  · intro r hr
    obtain ⟨y, hy, rfl⟩ := List.mem_map.1 hr
    exact (k2 y hy).2.2
end
end Go.Proofs.Ytadkabiipkngiaa
