import Derived.Test.YthifelgdkmkdkaaGreatDoorFm8
import Derived.Lib.SmallJoins
import Derived.Deep.Slices
import Derived.Deep.Cut
import Derived.Deep.CutRange
namespace Go.Proofs.YthifelgdkmkdkaaGreatDoor
open Go.ChangeShapes Go.WideShapes Go.ChangeAt Go.RowKit
set_option linter.unusedVariables false
structure MP.fits (p : MP) : Prop where
  regions : p.regions.length ≤ 9223372036854775807
  region : ∀ r ∈ p.regions, r.length ≤ 9223372036854775807
  consts : p.consts.length ≤ 9223372036854775807
  funcs : p.funcs.length ≤ 9223372036854775807
  func : ∀ f ∈ p.funcs, f.fits
  certs : p.certs.length ≤ 9223372036854775807
theorem szv_cases {left : Int} {n : Nat} (h0 : 0 ≤ left) (h1 : left ≤ 1048576) : szv left n = -1 ∨ 0 ≤ szv left n ∧ szv left n ≤ left ∧ (n : Int) ≤ left := by
  unfold szv
  by_cases h : left - n < 0
  · rw [if_pos h]; exact .inl rfl
  · rw [if_neg h]; exact .inr ⟨by omega, by omega, by omega⟩
/-- A call's one argument of four cells. -/
structure Fr1 (w u : World) (tp : TypeId) (p : List Value) : Prop where
  par : u.ownsRow w.heap.size tp 4 (.slice (some ⟨w.heap.size, 0, none⟩) 1 1) 1 p
  bel : Below w.heap.size w u
theorem Fr1.of (w : World) (tp : TypeId) (p : Array Value) (hp : p.size = 4) : Fr1 w (w.alloc (.cells p tp)) tp p.toList :=
  ⟨World.ownsRow_lit (base := w.heap.size) (e := tp) (size := 4) w p 1 (Nat.le_refl _) (by unfold maxLen; omega) (by omega), (Below.refl _ _).alloc (Nat.le_refl _) _⟩
theorem Fr1.keep {w u u' : World} {tp : TypeId} {p : List Value} (h : Fr1 w u tp p) (hb : Below u.heap.size u u') : Fr1 w u' tp p :=
  ⟨own_keep h.par hb (Nat.le_refl _), h.bel.trans (hb.mono h.bel.size)⟩

set_option maxHeartbeats 2000000 in
set_option maxRecDepth 100000 in
theorem szProgram_any (v : VP) (p : MP) (left : Int) (w : World) (hf : p.fits) (h : RdP w v p) (h0 : 0 ≤ left) (h1 : left ≤ 1048576) :
    Calls Tryz.prog 4 #[.agg #[v.r, v.k, v.f, v.t], .int .i64 left] w fun e w' => ∃ r : Int, e = .returned (.int .i64 r) ∧ (r = -1 ∨ 0 ≤ r ∧ r ≤ left ∧ p.small) ∧ Below w.heap.size w w' := by
  obtain ⟨a2, c2, e2⟩ := h.consts.is_slice
  obtain ⟨a4, c4, e4⟩ := h.certs.is_slice
  obtain ⟨vr, vk, vf, vt⟩ := v
  simp only [] at e2 e4
  subst e2
  subst e4
  have F0 := Fr1.of w 27 #[vr, .slice a2 p.consts.length c2, vf, .slice a4 p.certs.length c4] rfl
  have HF : Hid p.fits := hf
  clear hf
  go_enter Tryz.func4, Tryz.ntmps4
  go_wp2_with fail
  refine (szInt64SS_any vr p.regions left _ HF.out.regions HF.out.region (h.regions.keep F0.bel (Nat.le_refl _)) h0 h1).mono ?_
  rintro e u1 ⟨r1, rfl, hr, rfl⟩
  rcases hr with rfl | ⟨r10, r11, r12, r13⟩
  · go_wp2
    go_ret
    exact ⟨-1, rfl, .inl rfl, F0.bel⟩
  have HR : Hid (∀ f ∈ p.regions, (f.length : Int) ≤ left) := r13
  clear r13
  obtain ⟨p0, p1, p2, p3, _⟩ := row4 F0.par
  go_wp2_with fail
  refine (szConstS_any a2 p.consts.length c2 r1 _ HF.out.consts r10 (by omega)).mono ?_
  rintro e u2 ⟨rfl, rfl⟩
  have hz := szv_cases (n := p.consts.length) r10 (by omega)
  generalize szv r1 p.consts.length = r2 at hz
  rcases hz with rfl | ⟨r20, r21, r22⟩
  · go_wp2
    go_ret
    exact ⟨-1, rfl, .inl rfl, F0.bel⟩
  go_wp2_with fail
  refine (szFuncS_any vf p.funcs r2 _ HF.out.funcs HF.out.func (h.funcs.keep F0.bel (Nat.le_refl _)) r20 (by omega)).mono ?_
  rintro e u3 ⟨r3, rfl, hr, b3⟩
  have F3 := F0.keep b3
  clear b3 p0 p1 p2 p3
  rcases hr with rfl | ⟨r30, r31, r32, r33⟩
  · go_wp2
    go_ret
    exact ⟨-1, rfl, .inl rfl, F3.bel⟩
  have HS : Hid (∀ f ∈ p.funcs, f.small) := r33
  clear r33
  obtain ⟨p0, p1, p2, p3, _⟩ := row4 F3.par
  go_wp2_with fail
  refine (szCertS_any a4 p.certs.length c4 r3 _ HF.out.certs r30 (by omega)).mono ?_
  rintro e u4 ⟨rfl, rfl⟩
  have hz := szv_cases (n := p.certs.length) r30 (by omega)
  generalize szv r3 p.certs.length = r4 at hz
  rcases hz with rfl | ⟨r40, r41, r42⟩
  · go_wp2
    go_ret
    exact ⟨-1, rfl, .inl rfl, F3.bel⟩
  go_wp2
  go_ret
  refine ⟨r4, rfl, .inr ⟨r40, by omega, ⟨by omega, fun f hf => ?_, by omega, by omega, HS.out, by omega⟩⟩, F3.bel⟩
  have := HR.out f hf
  omega
end Go.Proofs.YthifelgdkmkdkaaGreatDoor
namespace Go.Proofs.YthifelgdkmkdkaaGreatDoor
open Go.ChangeShapes Go.WideShapes Go.ChangeAt Go.RowKit
set_option linter.unusedVariables false
section
variable {H : Type} {enc : TypeId × Value → H} {P : Program} {w : World} {spare : Nat → Bool} {held : Bool}
theorem add_at (b off : Nat) (i : Nat) : (⟨b, off, none⟩ : Addr).add i = ⟨b, off + i, none⟩ := by unfold Addr.add; split <;> simp_all
/-- A slice whose elements read each as one of a family. -/
theorem open_rows {α : Type} [Inhabited α] (f : α → List Value) (G : α → Prop) (m : Nat) (hf : ∀ y, (f y).length = m) (h0 : 0 < m) {t e : TypeId} (ht : P.underlying t = some (.slice e)) (hm : P.cellsOf e = m)
    (hel : ∀ fuel cs x, DataW.trod enc P w 0 spare held fuel e cs = some x → ∃ y, cs = f y ∧ G y) {fuel : Nat} {cs : List Value} {x : DataW H × List MemPlace} (h : DataW.trod enc P w 0 spare held fuel t cs = some x) :
    ∃ (s : Value) (ys : List α), cs = [s] ∧ Rd w m s ys.length (ys.flatMap f) ∧ ys.length ≤ maxLen ∧ ∀ y ∈ ys, G y := by
  rcases DataW.trod_slice ht h with ⟨rfl, _⟩ | ⟨a, len, cap, elems, rest, n, _, rfl, _, _, hl, hmx, hlen, hE, _, _⟩
  · exact ⟨_, [], rfl, ⟨by simp, .inl ⟨rfl, _, _, rfl⟩⟩, by simp, fun y hy => by cases hy⟩
  · rw [hm] at hE
    have hy : ∀ i, i < len → ∃ y, w.cells? 0 (a.add (i * m)) m = some (f y) ∧ G y := by
      intro i hi
      have h1 := hE i hi
      rw [List.getElem?_eq_getElem (by omega)] at h1
      obtain ⟨cs', hc, hx⟩ := Option.bind_eq_some_iff.1 h1
      obtain ⟨y, rfl, hg⟩ := hel _ _ _ hx
      exact ⟨y, hc, hg⟩
    obtain ⟨F, hF⟩ := Go.Deep.choose_lt hy
    refine ⟨_, (List.range len).map F, rfl, ⟨?_, ?_⟩, by simp; omega, ?_⟩
    · rw [flat_length f m hf]
    · by_cases hz : len = 0
      · subst hz
        exact .inl ⟨by simp, _, _, rfl⟩
      · obtain ⟨b, off, spot⟩ := a
        have hc0 := (World.cells?_some (hF 0 (by omega)).1).2.2 0 h0
        have hfl : 0 < (f (F 0)).length := by rw [hf]; exact h0
        rw [List.getElem?_eq_getElem hfl] at hc0
        have hspot : spot = none := by simpa [Addr.add] using World.cell?_spot hc0
        subst hspot
        refine .inr ⟨b, off, cap, by simp, fun j u hj => ?_⟩
        have hjl : j < len * m := by
          have := (List.getElem?_eq_some_iff.1 hj).1
          rw [flat_length f m hf] at this
          simpa using this
        have hq : j / m < len := (Nat.div_lt_iff_lt_mul h0).2 hjl
        have hr := Nat.mod_lt j h0
        have ej : j = j / m * m + j % m := by rw [Nat.mul_comm]; exact (Nat.div_add_mod j m).symm
        have hk : ((List.range len).map F)[j / m]? = some (F (j / m)) := by simp [hq]
        have hcell := (World.cells?_some (hF (j / m) hq).1).2.2 (j % m) hr
        have hat := flat_at f m hf _ (j / m) (j % m) _ hk hr
        rw [← ej, hj] at hat
        rw [add_at, add_at, Nat.add_assoc, ← ej] at hcell
        rw [hcell, ← hat]
    · intro y hy'
      obtain ⟨i, hi, rfl⟩ := List.mem_map.1 hy'
      exact (hF i (List.mem_range.1 hi)).2
end
end Go.Proofs.YthifelgdkmkdkaaGreatDoor
namespace Go.Proofs.YthifelgdkmkdkaaGreatDoor
open Go.ChangeShapes Go.WideShapes Go.ChangeAt Go.RowKit
set_option linter.unusedVariables false
instance : Inhabited MI := ⟨⟨0, 0, 0, 0⟩⟩
instance : Inhabited MC := ⟨⟨0, 0⟩⟩
instance : Inhabited MT := ⟨⟨0, 0, 0, 0⟩⟩
instance : Inhabited MF := ⟨⟨[], 0, [], []⟩⟩
instance : Inhabited VF := ⟨⟨.bool true, .bool true, .bool true⟩⟩
def W64 (z : Int) : Prop := (Lit.int .i64 z).wf = true
def W32 (z : Int) : Prop := (Lit.int .u32 z).wf = true
def MI.wf (x : MI) : Prop := W64 x.op ∧ W64 x.a ∧ W64 x.b ∧ W64 x.c
def MC.wf (x : MC) : Prop := W64 x.type ∧ W32 x.word
def MT.wf (x : MT) : Prop := W64 x.func ∧ W64 x.head ∧ W64 x.counter ∧ W32 x.init
structure MF.wf (f : MF) : Prop where
  params : ∀ z ∈ f.params, W64 z
  result : W64 f.result
  locals : ∀ z ∈ f.locals, W64 z
  code : ∀ x ∈ f.code, x.wf
structure MP.wf (p : MP) : Prop where
  regions : ∀ r ∈ p.regions, ∀ z ∈ r, W64 z
  consts : ∀ x ∈ p.consts, x.wf
  funcs : ∀ f ∈ p.funcs, f.wf
  certs : ∀ x ∈ p.certs, x.wf
theorem cells64 : Tryz.prog.cellsOf 2 = 1 := by kernel_rfl
theorem cells32 : Tryz.prog.cellsOf 47 = 1 := by kernel_rfl
theorem cellsS64 : Tryz.prog.cellsOf 45 = 1 := by kernel_rfl
theorem cellsSS64 : Tryz.prog.cellsOf 22 = 1 := by kernel_rfl
theorem cellsLI : Tryz.prog.cellsOf 136 = 4 := by kernel_rfl
theorem cellsLC : Tryz.prog.cellsOf 97 = 2 := by kernel_rfl
theorem cellsLT : Tryz.prog.cellsOf 100 = 4 := by kernel_rfl
theorem cellsLF : Tryz.prog.cellsOf 85 = 4 := by kernel_rfl
theorem cellsLP : Tryz.prog.cellsOf 27 = 4 := by kernel_rfl
theorem cellsSI : Tryz.prog.cellsOf 83 = 1 := by kernel_rfl
theorem cellsSC : Tryz.prog.cellsOf 23 = 1 := by kernel_rfl
theorem cellsST : Tryz.prog.cellsOf 25 = 1 := by kernel_rfl
theorem cellsSF : Tryz.prog.cellsOf 24 = 1 := by kernel_rfl
section
variable {H : Type} {enc : TypeId × Value → H} {w : World} {spare : Nat → Bool} {held : Bool} {fuel : Nat} {cs : List Value} {x : DataW H × List MemPlace}
theorem four {cs : List Value} (h : cs.length = 4) : ∃ a b c d, cs = [a, b, c, d] := by
  match cs, h with
  | [a, b, c, d], _ => exact ⟨a, b, c, d, rfl⟩
theorem two {cs : List Value} (h : cs.length = 2) : ∃ a b, cs = [a, b] := by
  match cs, h with
  | [a, b], _ => exact ⟨a, b, rfl⟩
theorem open_i64 (h : DataW.trod enc Tryz.prog w 0 spare held fuel 2 cs = some x) : ∃ z, cs = intCell z ∧ W64 z := by
  obtain ⟨n, h1, _, h2⟩ := DataW.trod_int Tryz.underlying2 h
  exact ⟨n, h1, h2⟩
theorem open_u32 (h : DataW.trod enc Tryz.prog w 0 spare held fuel 47 cs = some x) : ∃ z, cs = [.int .u32 z] ∧ W32 z := by
  obtain ⟨n, h1, _, h2⟩ := DataW.trod_int Tryz.underlying47 h
  exact ⟨n, h1, h2⟩
theorem open_instr (h : DataW.trod enc Tryz.prog w 0 spare held fuel 136 cs = some x) : ∃ y : MI, cs = y.cells ∧ y.wf := by
  obtain ⟨y0, y1, y2, y3, n, _, hl, g0, g1, g2, g3⟩ := Go.Joins.trod_struct4 Tryz.underlying136 h
  rw [cellsLI] at hl
  obtain ⟨a, b, c, d, rfl⟩ := four hl
  simp only [cells64, List.drop_zero, List.drop_succ_cons, List.take_succ_cons, List.take_zero] at g0 g1 g2 g3
  obtain ⟨z0, e0, w0⟩ := open_i64 g0
  obtain ⟨z1, e1, w1⟩ := open_i64 g1
  obtain ⟨z2, e2, w2⟩ := open_i64 g2
  obtain ⟨z3, e3, w3⟩ := open_i64 g3
  simp only [intCell, List.cons.injEq, and_true] at e0 e1 e2 e3
  subst e0 e1 e2 e3
  exact ⟨⟨z0, z1, z2, z3⟩, rfl, w0, w1, w2, w3⟩
theorem open_cert (h : DataW.trod enc Tryz.prog w 0 spare held fuel 100 cs = some x) : ∃ y : MT, cs = y.cells ∧ y.wf := by
  obtain ⟨y0, y1, y2, y3, n, _, hl, g0, g1, g2, g3⟩ := Go.Joins.trod_struct4 Tryz.underlying100 h
  rw [cellsLT] at hl
  obtain ⟨a, b, c, d, rfl⟩ := four hl
  simp only [cells64, cells32, List.drop_zero, List.drop_succ_cons, List.take_succ_cons, List.take_zero] at g0 g1 g2 g3
  obtain ⟨z0, e0, w0⟩ := open_i64 g0
  obtain ⟨z1, e1, w1⟩ := open_i64 g1
  obtain ⟨z2, e2, w2⟩ := open_i64 g2
  obtain ⟨z3, e3, w3⟩ := open_u32 g3
  simp only [intCell, List.cons.injEq, and_true] at e0 e1 e2 e3
  subst e0 e1 e2 e3
  exact ⟨⟨z0, z1, z2, z3⟩, rfl, w0, w1, w2, w3⟩
theorem open_const (h : DataW.trod enc Tryz.prog w 0 spare held fuel 97 cs = some x) : ∃ y : MC, cs = y.cells ∧ y.wf := by
  obtain ⟨y0, y1, n, _, hl, g0, g1⟩ := trod_struct2 Tryz.underlying97 h
  rw [cellsLC] at hl
  obtain ⟨a, b, rfl⟩ := two hl
  simp only [cells64, cells32, List.drop_zero, List.drop_succ_cons, List.take_succ_cons, List.take_zero] at g0 g1
  obtain ⟨z0, e0, w0⟩ := open_i64 g0
  obtain ⟨z1, e1, w1⟩ := open_u32 g1
  simp only [intCell, List.cons.injEq, and_true] at e0 e1
  subst e0 e1
  exact ⟨⟨z0, z1⟩, rfl, w0, w1⟩
theorem open_ints64 (h : DataW.trod enc Tryz.prog w 0 spare held fuel 45 cs = some x) : ∃ y : List Int × Value, cs = rCells y ∧ Rd w 1 y.2 y.1.length (y.1.flatMap intCell) ∧ y.1.length ≤ maxLen ∧ ∀ z ∈ y.1, W64 z := by
  obtain ⟨s, ys, e, h1, h2, h3⟩ := open_rows intCell W64 1 intCell_length (by omega) Tryz.underlying45 cells64 (fun _ _ _ => open_i64) h
  exact ⟨(ys, s), e, h1, h2, h3⟩
theorem open_func (h : DataW.trod enc Tryz.prog w 0 spare held fuel 85 cs = some x) : ∃ y : MF × VF, cs = fCells y ∧ RdF w y.2 y.1 ∧ y.1.fits ∧ y.1.wf := by
  obtain ⟨y0, y1, y2, y3, n, _, hl, g0, g1, g2, g3⟩ := Go.Joins.trod_struct4 Tryz.underlying85 h
  rw [cellsLF] at hl
  obtain ⟨a, b, c, d, rfl⟩ := four hl
  simp only [cells64, cellsS64, cellsSI, List.drop_zero, List.drop_succ_cons, List.take_succ_cons, List.take_zero] at g0 g1 g2 g3
  obtain ⟨⟨l0, s0⟩, e0, w0, m0, k0⟩ := open_ints64 g0
  obtain ⟨z1, e1, w1⟩ := open_i64 g1
  obtain ⟨⟨l2, s2⟩, e2, w2, m2, k2⟩ := open_ints64 g2
  obtain ⟨s3, l3, e3, w3, m3, k3⟩ := open_rows MI.cells MI.wf 4 MI.cells_length (by omega) Tryz.underlying83 cellsLI (fun _ _ _ => open_instr) g3
  simp only [intCell, rCells, List.cons.injEq, and_true] at e0 e1 e2 e3
  subst e0 e1 e2 e3
  exact ⟨(⟨l0, z1, l2, l3⟩, ⟨a, c, d⟩), rfl, ⟨w0, w2, w3⟩, ⟨by simp [maxLen] at m0; exact m0, by simp [maxLen] at m2; exact m2, by simp [maxLen] at m3; exact m3⟩, ⟨k0, w1, k2, k3⟩⟩
theorem open_program (h : DataW.trod enc Tryz.prog w 0 spare held fuel 27 cs = some x) : ∃ (p : MP) (v : VP), cs = [v.r, v.k, v.f, v.t] ∧ RdP w v p ∧ p.fits ∧ p.wf := by
  obtain ⟨y0, y1, y2, y3, n, _, hl, g0, g1, g2, g3⟩ := Go.Joins.trod_struct4 Tryz.underlying27 h
  rw [cellsLP] at hl
  obtain ⟨a, b, c, d, rfl⟩ := four hl
  simp only [cellsSS64, cellsSC, cellsSF, cellsST, List.drop_zero, List.drop_succ_cons, List.take_succ_cons, List.take_zero] at g0 g1 g2 g3
  obtain ⟨s0, l0, e0, w0, m0, k0⟩ := open_rows rCells (fun y => Rd w 1 y.2 y.1.length (y.1.flatMap intCell) ∧ y.1.length ≤ maxLen ∧ ∀ z ∈ y.1, W64 z) 1 rCells_length (by omega) Tryz.underlying22 cellsS64 (fun _ _ _ => open_ints64) g0
  obtain ⟨s1, l1, e1, w1, m1, k1⟩ := open_rows MC.cells MC.wf 2 MC.cells_length (by omega) Tryz.underlying23 cellsLC (fun _ _ _ => open_const) g1
  obtain ⟨s2, l2, e2, w2, m2, k2⟩ := open_rows fCells (fun y => RdF w y.2 y.1 ∧ y.1.fits ∧ y.1.wf) 4 fCells_length (by omega) Tryz.underlying24 cellsLF (fun _ _ _ => open_func) g2
  obtain ⟨s3, l3, e3, w3, m3, k3⟩ := open_rows MT.cells MT.wf 4 MT.cells_length (by omega) Tryz.underlying25 cellsLT (fun _ _ _ => open_cert) g3
  simp only [List.cons.injEq, and_true] at e0 e1 e2 e3
  subst e0 e1 e2 e3
  have hm : ∀ n : Nat, n ≤ maxLen → n ≤ 9223372036854775807 := fun n h => by simp [maxLen] at h; exact h
  refine ⟨⟨l0.map Prod.fst, l1, l2.map Prod.fst, l3⟩, ⟨a, b, c, d⟩, rfl, ⟨⟨l0, rfl, by simpa using w0, fun y hy => (k0 y hy).1⟩, w1, ⟨l2, rfl, by simpa using w2, fun y hy => (k2 y hy).1⟩, w3⟩, ⟨by simpa using hm _ m0, ?_, hm _ m1, by simpa using hm _ m2, ?_, hm _ m3⟩, ⟨?_, k1, ?_, k3⟩⟩
  · intro r hr
    obtain ⟨y, hy, rfl⟩ := List.mem_map.1 hr
    exact hm _ (k0 y hy).2.1
  · intro r hr
    obtain ⟨y, hy, rfl⟩ := List.mem_map.1 hr
    exact (k2 y hy).2.1
  · intro r hr
    obtain ⟨y, hy, rfl⟩ := List.mem_map.1 hr
    exact (k0 y hy).2.2
  · intro r hr
    obtain ⟨y, hy, rfl⟩ := List.mem_map.1 hr
    exact (k2 y hy).2.2
end
end Go.Proofs.YthifelgdkmkdkaaGreatDoor
namespace Go.Proofs.YthifelgdkmkdkaaGreatDoor
open Go.ChangeShapes Go.WideShapes Go.ChangeAt Go.RowKit
set_option linter.unusedVariables false
structure At4 (w : World) (b : Nat) (x y z t : Value) : Prop where
  c0 : w.cell? ⟨b, 0, none⟩ = some x
  c1 : w.cell? ⟨b, 1, none⟩ = some y
  c2 : w.cell? ⟨b, 2, none⟩ = some z
  c3 : w.cell? ⟨b, 3, none⟩ = some t
theorem At4.lt {w : World} {b : Nat} {x y z t : Value} (h : At4 w b x y z t) : b < w.heap.size := block_lt_of_cell h.c0
theorem At4.keep {w w' : World} {b : Nat} {x y z t : Value} (h : At4 w b x y z t) (hb : Below w.heap.size w w') : At4 w' b x y z t :=
  ⟨by rw [hb.cell h.lt]; exact h.c0, by rw [hb.cell h.lt]; exact h.c1, by rw [hb.cell h.lt]; exact h.c2, by rw [hb.cell h.lt]; exact h.c3⟩
theorem At4.new (w : World) (x y z t : Value) (ty : TypeId) : At4 (w.alloc (.cells #[x, y, z, t] ty)) w.heap.size x y z t := by
  have h := World.ownsRow_lit (base := w.heap.size) (e := ty) (size := 4) w #[x, y, z, t] 1 (Nat.le_refl _) (by unfold maxLen; omega) (by simp)
  exact ⟨h.cellAt 0 (by omega), h.cellAt 1 (by omega), h.cellAt 2 (by omega), h.cellAt 3 (by omega)⟩
theorem At4.alloc {w : World} {b : Nat} {x y z t : Value} (h : At4 w b x y z t) (o : Obj) : At4 (w.alloc o) b x y z t := h.keep ((Below.refl _ _).alloc (Nat.le_refl _) _)
theorem below_alloc (w : World) (o : Obj) : Below w.heap.size w (w.alloc o) := (Below.refl _ _).alloc (Nat.le_refl _) _
theorem below_drew1 (w : World) : Below w.heap.size w w.drew := ⟨rfl, rfl, rfl, Nat.le_refl _, fun _ _ => rfl⟩
theorem below_on {B : Nat} {w u u' : World} (h : Below B w u) (hB : B ≤ w.heap.size) (h' : Below u.heap.size u u') : Below B w u' := h.trans (h'.mono (Nat.le_trans hB h.size))
end Go.Proofs.YthifelgdkmkdkaaGreatDoor
