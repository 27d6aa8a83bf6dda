import Derived.Test.YtifpjgdnikkekaaGreatSh4
import Derived.Test.YtifpjgdnikkekaaGreatRows
import Derived.WalkKit
import Derived.ProofKit
import Derived.OpenShut
namespace Go.Proofs.YtifpjgdnikkekaaGreat
open Go.ChangeShapes Go.WideShapes Go.ChangeAt Go.RowKit
set_option linter.unusedVariables false
instance : Inhabited MI := ⟨⟨0, 0, 0, 0⟩⟩
instance : Inhabited MC := ⟨⟨0, 0⟩⟩
instance : Inhabited MT := ⟨⟨0, 0, 0, 0⟩⟩
instance : Inhabited MF := ⟨⟨[], 0, [], []⟩⟩
instance : Inhabited VF := ⟨⟨.bool true, .bool true, .bool true⟩⟩
def W64 (z : Int) : Prop := (Lit.int .i64 z).wf = true
def W32 (z : Int) : Prop := (Lit.int .u32 z).wf = true
def MI.wf (x : MI) : Prop := W64 x.op ∧ W64 x.a ∧ W64 x.b ∧ W64 x.c
def MC.wf (x : MC) : Prop := W64 x.type ∧ W32 x.word
def MT.wf (x : MT) : Prop := W64 x.func ∧ W64 x.head ∧ W64 x.counter ∧ W32 x.init
structure MF.wf (f : MF) : Prop where
  params : ∀ z ∈ f.params, W64 z
  result : W64 f.result
  locals : ∀ z ∈ f.locals, W64 z
  code : ∀ x ∈ f.code, x.wf
structure MP.wf (p : MP) : Prop where
  regions : ∀ r ∈ p.regions, ∀ z ∈ r, W64 z
  consts : ∀ x ∈ p.consts, x.wf
  funcs : ∀ f ∈ p.funcs, f.wf
  certs : ∀ x ∈ p.certs, x.wf
theorem cells64 : Tryz.prog.cellsOf 2 = 1 := by kernel_rfl
theorem cells32 : Tryz.prog.cellsOf 98 = 1 := by kernel_rfl
theorem cellsS64 : Tryz.prog.cellsOf 48 = 1 := by kernel_rfl
theorem cellsSS64 : Tryz.prog.cellsOf 22 = 1 := by kernel_rfl
theorem cellsLI : Tryz.prog.cellsOf 192 = 4 := by kernel_rfl
theorem cellsLC : Tryz.prog.cellsOf 130 = 2 := by kernel_rfl
theorem cellsLT : Tryz.prog.cellsOf 133 = 4 := by kernel_rfl
theorem cellsLF : Tryz.prog.cellsOf 112 = 4 := by kernel_rfl
theorem cellsLP : Tryz.prog.cellsOf 27 = 4 := by kernel_rfl
theorem cellsSI : Tryz.prog.cellsOf 110 = 1 := by kernel_rfl
theorem cellsSC : Tryz.prog.cellsOf 23 = 1 := by kernel_rfl
theorem cellsST : Tryz.prog.cellsOf 25 = 1 := by kernel_rfl
theorem cellsSF : Tryz.prog.cellsOf 24 = 1 := by kernel_rfl
section
variable {H : Type} {enc : TypeId × Value → H} {w : World} {spare : Nat → Bool} {held : Bool} {fuel : Nat} {cs : List Value} {x : DataW H × List MemPlace}
theorem four {cs : List Value} (h : cs.length = 4) : ∃ a b c d, cs = [a, b, c, d] := by
  match cs, h with
  | [a, b, c, d], _ => exact ⟨a, b, c, d, rfl⟩
theorem two {cs : List Value} (h : cs.length = 2) : ∃ a b, cs = [a, b] := by
  match cs, h with
  | [a, b], _ => exact ⟨a, b, rfl⟩
theorem open_i64 (h : DataW.trod enc Tryz.prog w 0 spare held fuel 2 cs = some x) : ∃ z, cs = intCell z ∧ W64 z := by
  obtain ⟨n, h1, _, h2⟩ := DataW.trod_int Tryz.underlying2 h
  exact ⟨n, h1, h2⟩
theorem open_u32 (h : DataW.trod enc Tryz.prog w 0 spare held fuel 98 cs = some x) : ∃ z, cs = [.int .u32 z] ∧ W32 z := by
  obtain ⟨n, h1, _, h2⟩ := DataW.trod_int Tryz.underlying98 h
  exact ⟨n, h1, h2⟩
theorem open_instr (h : DataW.trod enc Tryz.prog w 0 spare held fuel 192 cs = some x) : ∃ y : MI, cs = y.cells ∧ y.wf := by
  obtain ⟨y0, y1, y2, y3, n, _, hl, g0, g1, g2, g3⟩ := Go.Joins.trod_struct4 Tryz.underlying192 h
  rw [cellsLI] at hl
  obtain ⟨a, b, c, d, rfl⟩ := four hl
  simp only [cells64, List.drop_zero, List.drop_succ_cons, List.take_succ_cons, List.take_zero] at g0 g1 g2 g3
  obtain ⟨z0, e0, w0⟩ := open_i64 g0
  obtain ⟨z1, e1, w1⟩ := open_i64 g1
  obtain ⟨z2, e2, w2⟩ := open_i64 g2
  obtain ⟨z3, e3, w3⟩ := open_i64 g3
  simp only [intCell, List.cons.injEq, and_true] at e0 e1 e2 e3
  subst e0 e1 e2 e3
  exact ⟨⟨z0, z1, z2, z3⟩, rfl, w0, w1, w2, w3⟩
theorem open_cert (h : DataW.trod enc Tryz.prog w 0 spare held fuel 133 cs = some x) : ∃ y : MT, cs = y.cells ∧ y.wf := by
  obtain ⟨y0, y1, y2, y3, n, _, hl, g0, g1, g2, g3⟩ := Go.Joins.trod_struct4 Tryz.underlying133 h
  rw [cellsLT] at hl
  obtain ⟨a, b, c, d, rfl⟩ := four hl
  simp only [cells64, cells32, List.drop_zero, List.drop_succ_cons, List.take_succ_cons, List.take_zero] at g0 g1 g2 g3
  obtain ⟨z0, e0, w0⟩ := open_i64 g0
  obtain ⟨z1, e1, w1⟩ := open_i64 g1
  obtain ⟨z2, e2, w2⟩ := open_i64 g2
  obtain ⟨z3, e3, w3⟩ := open_u32 g3
  simp only [intCell, List.cons.injEq, and_true] at e0 e1 e2 e3
  subst e0 e1 e2 e3
  exact ⟨⟨z0, z1, z2, z3⟩, rfl, w0, w1, w2, w3⟩
theorem open_const (h : DataW.trod enc Tryz.prog w 0 spare held fuel 130 cs = some x) : ∃ y : MC, cs = y.cells ∧ y.wf := by
  obtain ⟨y0, y1, n, _, hl, g0, g1⟩ := trod_struct2 Tryz.underlying130 h
  rw [cellsLC] at hl
  obtain ⟨a, b, rfl⟩ := two hl
  simp only [cells64, cells32, List.drop_zero, List.drop_succ_cons, List.take_succ_cons, List.take_zero] at g0 g1
  obtain ⟨z0, e0, w0⟩ := open_i64 g0
  obtain ⟨z1, e1, w1⟩ := open_u32 g1
  simp only [intCell, List.cons.injEq, and_true] at e0 e1
  subst e0 e1
  exact ⟨⟨z0, z1⟩, rfl, w0, w1⟩
theorem open_ints64 (h : DataW.trod enc Tryz.prog w 0 spare held fuel 48 cs = some x) : ∃ y : List Int × Value, cs = rCells y ∧ Rd w 1 y.2 y.1.length (y.1.flatMap intCell) ∧ y.1.length ≤ maxLen ∧ ∀ z ∈ y.1, W64 z := by
  obtain ⟨s, ys, e, h1, h2, h3⟩ := open_rows intCell W64 1 intCell_length (by omega) Tryz.underlying48 cells64 (fun _ _ _ => open_i64) h
  exact ⟨(ys, s), e, h1, h2, h3⟩
theorem open_func (h : DataW.trod enc Tryz.prog w 0 spare held fuel 112 cs = some x) : ∃ y : MF × VF, cs = fCells y ∧ RdF w y.2 y.1 ∧ y.1.fits ∧ y.1.wf := by
  obtain ⟨y0, y1, y2, y3, n, _, hl, g0, g1, g2, g3⟩ := Go.Joins.trod_struct4 Tryz.underlying112 h
  rw [cellsLF] at hl
  obtain ⟨a, b, c, d, rfl⟩ := four hl
  simp only [cells64, cellsS64, cellsSI, List.drop_zero, List.drop_succ_cons, List.take_succ_cons, List.take_zero] at g0 g1 g2 g3
  obtain ⟨⟨l0, s0⟩, e0, w0, m0, k0⟩ := open_ints64 g0
  obtain ⟨z1, e1, w1⟩ := open_i64 g1
  obtain ⟨⟨l2, s2⟩, e2, w2, m2, k2⟩ := open_ints64 g2
  obtain ⟨s3, l3, e3, w3, m3, k3⟩ := open_rows MI.cells MI.wf 4 MI.cells_length (by omega) Tryz.underlying110 cellsLI (fun _ _ _ => open_instr) g3
  simp only [intCell, rCells, List.cons.injEq, and_true] at e0 e1 e2 e3
  subst e0 e1 e2 e3
  exact ⟨(⟨l0, z1, l2, l3⟩, ⟨a, c, d⟩), rfl, ⟨w0, w2, w3⟩, ⟨by simp [maxLen] at m0; exact m0, by simp [maxLen] at m2; exact m2, by simp [maxLen] at m3; exact m3⟩, ⟨k0, w1, k2, k3⟩⟩
theorem open_program (h : DataW.trod enc Tryz.prog w 0 spare held fuel 27 cs = some x) : ∃ (p : MP) (v : VP), cs = [v.r, v.k, v.f, v.t] ∧ RdP w v p ∧ p.fits ∧ p.wf := by
  obtain ⟨y0, y1, y2, y3, n, _, hl, g0, g1, g2, g3⟩ := Go.Joins.trod_struct4 Tryz.underlying27 h
  rw [cellsLP] at hl
  obtain ⟨a, b, c, d, rfl⟩ := four hl
  simp only [cellsSS64, cellsSC, cellsSF, cellsST, List.drop_zero, List.drop_succ_cons, List.take_succ_cons, List.take_zero] at g0 g1 g2 g3
  obtain ⟨s0, l0, e0, w0, m0, k0⟩ := open_rows rCells (fun y => Rd w 1 y.2 y.1.length (y.1.flatMap intCell) ∧ y.1.length ≤ maxLen ∧ ∀ z ∈ y.1, W64 z) 1 rCells_length (by omega) Tryz.underlying22 cellsS64 (fun _ _ _ => open_ints64) g0
  obtain ⟨s1, l1, e1, w1, m1, k1⟩ := open_rows MC.cells MC.wf 2 MC.cells_length (by omega) Tryz.underlying23 cellsLC (fun _ _ _ => open_const) g1
  obtain ⟨s2, l2, e2, w2, m2, k2⟩ := open_rows fCells (fun y => RdF w y.2 y.1 ∧ y.1.fits ∧ y.1.wf) 4 fCells_length (by omega) Tryz.underlying24 cellsLF (fun _ _ _ => open_func) g2
  obtain ⟨s3, l3, e3, w3, m3, k3⟩ := open_rows MT.cells MT.wf 4 MT.cells_length (by omega) Tryz.underlying25 cellsLT (fun _ _ _ => open_cert) g3
  simp only [List.cons.injEq, and_true] at e0 e1 e2 e3
  subst e0 e1 e2 e3
  have hm : ∀ n : Nat, n ≤ maxLen → n ≤ 9223372036854775807 := fun n h => by simp [maxLen] at h; exact h
  refine ⟨⟨l0.map Prod.fst, l1, l2.map Prod.fst, l3⟩, ⟨a, b, c, d⟩, rfl, ⟨⟨l0, rfl, by simpa using w0, fun y hy => (k0 y hy).1⟩, w1, ⟨l2, rfl, by simpa using w2, fun y hy => (k2 y hy).1⟩, w3⟩, ⟨by simpa using hm _ m0, ?_, hm _ m1, by simpa using hm _ m2, ?_, hm _ m3⟩, ⟨?_, k1, ?_, k3⟩⟩
  · intro r hr
    obtain ⟨y, hy, rfl⟩ := List.mem_map.1 hr
    exact hm _ (k0 y hy).2.1
  · intro r hr
    obtain ⟨y, hy, rfl⟩ := List.mem_map.1 hr
    exact (k2 y hy).2.1
  · intro r hr
    obtain ⟨y, hy, rfl⟩ := List.mem_map.1 hr
    exact (k0 y hy).2.2
  · intro r hr
    obtain ⟨y, hy, rfl⟩ := List.mem_map.1 hr
    exact (k2 y hy).2.2
end
end Go.Proofs.YtifpjgdnikkekaaGreat
namespace Go.Proofs.YtifpjgdnikkekaaGreat
open Go.ChangeShapes Go.WideShapes Go.ChangeAt Go.RowKit
set_option linter.unusedVariables false

def isT (t : Int) : Bool := decide (1 ≤ t ∧ t ≤ 3)
theorem isT_true {t : Int} (h : 1 ≤ t) (h' : t ≤ 3) : isT t = true := by unfold isT; simp; omega
theorem isT_false {t : Int} (h : t < 1 ∨ 3 < t) : isT t = false := by unfold isT; simp; omega
def word (b : Bool) : Int := if b then 1 else 0
theorem isType_any (t : Int) (w : World) : Calls Tryz.prog 154 #[.int .i64 t] w fun e w' => e = .returned (.bool (isT t)) ∧ w' = w := by
  by_cases h1 : 1 ≤ t
  · by_cases h3 : t ≤ 3
    · rw [isT_true h1 h3]
      go_enter Tryz.func154, Tryz.ntmps154
      go_wp2
      go_ret
      exact ⟨rfl, rfl⟩
    · rw [isT_false (by omega)]
      go_enter Tryz.func154, Tryz.ntmps154
      go_wp2
      go_ret
      exact ⟨rfl, rfl⟩
  · rw [isT_false (by omega)]
    go_enter Tryz.func154, Tryz.ntmps154
    go_wp2
    go_ret
    exact ⟨rfl, rfl⟩
theorem l2Type_any (t : Int) (w : World) : Calls Tryz.prog 87 #[.int .i64 t] w fun e w' => e = .returned (.bool (isT t)) ∧ w' = w := by
  by_cases h1 : 1 ≤ t
  · by_cases h3 : t ≤ 3
    · rw [isT_true h1 h3]
      go_enter Tryz.func87, Tryz.ntmps87
      go_wp2
      go_ret
      exact ⟨rfl, rfl⟩
    · rw [isT_false (by omega)]
      go_enter Tryz.func87, Tryz.ntmps87
      go_wp2
      go_ret
      exact ⟨rfl, rfl⟩
  · rw [isT_false (by omega)]
    go_enter Tryz.func87, Tryz.ntmps87
    go_wp2
    go_ret
    exact ⟨rfl, rfl⟩
theorem wordOf_any (b : Bool) (w : World) : Calls Tryz.prog 213 #[.bool b] w fun e w' => e = .returned (.int .u32 (word b)) ∧ w' = w := by
  cases b <;>
  · go_enter Tryz.func213, Tryz.ntmps213
    go_wp2
    go_ret
    exact ⟨rfl, rfl⟩
end Go.Proofs.YtifpjgdnikkekaaGreat
namespace Go.Proofs.YtifpjgdnikkekaaGreat
open Go.ChangeShapes Go.WideShapes Go.ChangeAt Go.RowKit
set_option linter.unusedVariables false
theorem all_next {α : Type} (q : α → Bool) (ys : List α) (k : Nat) (x : α) (hx : ys[k]? = some x) (h : (ys.take k).all q = true) : (ys.take (k + 1)).all q = q x := by
  obtain ⟨hlt, rfl⟩ := List.getElem?_eq_some_iff.1 hx
  rw [List.take_succ_eq_append_getElem hlt, List.all_append, h]
  simp
theorem all_not {α : Type} (q : α → Bool) (ys : List α) (x : α) (hx : x ∈ ys) (h : q x = false) : ys.all q = false := by
  rw [List.all_eq_false]
  exact ⟨x, hx, by simp [h]⟩
set_option maxHeartbeats 1000000 in
theorem l3Types_any (s : Value) (ys : List Int) (w : World) (hn : ys.length ≤ 1048576) (h : Rd w 1 s ys.length (ys.flatMap intCell)) :
    Calls Tryz.prog 47 #[s] w fun e w' => e = .returned (.bool (ys.all isT)) ∧ w' = w := by
  have H1 : Hid (Rd w 1 s ys.length (ys.flatMap intCell)) := h
  obtain ⟨a1, c1, rfl⟩ := h.is_slice
  clear h
  generalize hLL : ys.length = n at hn H1
  have HL : Hid (ys.length = n) := hLL
  clear hLL
  generalize hR : ys.all isT = R
  have HR : Hid (ys.all isT = R) := hR
  clear hR
  go_enter Tryz.func47, Tryz.ntmps47
  go_wp2
  go_loopw [3] (fun i wr => ∃ k : Nat, k ≤ n ∧ i = .int .i64 k ∧ Hid ((ys.take k).all isT = true) ∧ wr = w) (fun i _ => n - (intOf i).toNat)
  case atStart => exact ⟨0, by omega, rfl, by simp [Hid], rfl⟩
  case round =>
    obtain ⟨k, hk, rfl, HT, rfl⟩ := hrel
    by_cases hlt : k < n
    · obtain ⟨x, hx⟩ : ∃ x, ys[k]? = some x := ⟨_, List.getElem?_eq_getElem (by rw [HL.out]; exact hlt)⟩
      rcases H1.out.2 with ⟨e0, _⟩ | ⟨g, o, c, e1, hc1⟩
      · omega
      · simp only [Value.slice.injEq, true_and] at e1
        obtain ⟨rfl, rfl⟩ := e1
        have i0 := Rd.elem intCell_length hc1 k x hx 0 _ rfl
        rw [Nat.mul_one, Nat.add_zero] at i0
        have HX : Hid (ys[k]? = some x) := hx
        clear hc1 hx
        go_wp2_with fail
        refine (l2Type_any x wr).mono ?_
        rintro e u ⟨rfl, rfl⟩
        cases hq : isT x with
        | false =>
          have hR : R = false := by
            rw [← HR.out]
            exact all_not _ _ _ (List.mem_of_getElem? HX.out) hq
          subst hR
          clear hq
          go_wp2
          go_ret
          exact ⟨rfl, rfl⟩
        | true =>
          have HN : Hid ((ys.take (k + 1)).all isT = true) := by
            show _ = _
            rw [all_next _ _ _ _ HX.out HT.out]
            exact hq
          clear hq
          go_wp2
          go_roundw
          case rel => exact ⟨k + 1, by omega, by go_num, HN, by trivial⟩
          case measure => simp [intOf]; omega
    · have hkn : k = n := by omega
      subst hkn
      have hR : R = true := by
        rw [← HR.out, ← HT.out, ← HL.out, List.take_length]
      subst hR
      go_wp2
      go_ret
      exact ⟨rfl, rfl⟩
end Go.Proofs.YtifpjgdnikkekaaGreat
namespace Go.Proofs.YtifpjgdnikkekaaGreat
open Go.ChangeShapes Go.WideShapes Go.ChangeAt Go.RowKit
set_option linter.unusedVariables false
/-- The type of a local; 0: there is none. -/
def localOf (f : MF) (k : Int) : Int := if k < 0 then 0 else (f.params ++ f.locals).getD k.toNat 0
theorem localOf_neg {f : MF} {k : Int} (h : k < 0) : localOf f k = 0 := if_pos h
theorem localOf_par {f : MF} {k : Nat} {x : Int} (h : f.params[k]? = some x) : localOf f k = x := by
  obtain ⟨hlt, rfl⟩ := List.getElem?_eq_some_iff.1 h
  unfold localOf
  rw [if_neg (by omega), List.getD_eq_getElem?_getD, Int.toNat_natCast, List.getElem?_append_left hlt, List.getElem?_eq_getElem hlt]
  rfl
theorem localOf_loc {f : MF} {k : Nat} {x : Int} (h : f.locals[k]? = some x) : localOf f ((f.params.length : Int) + k) = x := by
  obtain ⟨hlt, rfl⟩ := List.getElem?_eq_some_iff.1 h
  unfold localOf
  have e : ((f.params.length : Int) + k).toNat = f.params.length + k := by omega
  rw [if_neg (by omega), List.getD_eq_getElem?_getD, e, List.getElem?_append_right (by omega), Nat.add_sub_cancel_left, List.getElem?_eq_getElem hlt]
  rfl
theorem localOf_out {f : MF} {k : Int} (h : (f.params.length : Int) + f.locals.length ≤ k) : localOf f k = 0 := by
  unfold localOf
  rw [if_neg (by omega), List.getD_eq_getElem?_getD, List.getElem?_eq_none (by rw [List.length_append]; omega)]
  rfl
set_option maxHeartbeats 2000000 in
set_option maxRecDepth 100000 in
theorem l3Local_any (v : VF) (f : MF) (k : Int) (w : World) (hs : f.small) (hk : W64 k) (h : RdF w v f) :
    Calls Tryz.prog 72 #[.agg #[v.p, .int .i64 f.result, v.l, v.c], .int .i64 k] w fun e w' => e = .returned (.int .i64 (localOf f k)) ∧ Below w.heap.size w w' := by
  have hk' : -9223372036854775808 ≤ k ∧ k ≤ 9223372036854775807 := by simpa [W64, Lit.wf, IntKind.min, IntKind.max, IntKind.signed, IntKind.bits] using hk
  obtain ⟨k0, k1⟩ := hk'
  obtain ⟨s1, s2, s3⟩ := hs
  have H1 : Hid (RdF w v f) := h
  obtain ⟨a1, c1, e1⟩ := h.1.is_slice
  obtain ⟨a2, c2, e2⟩ := h.2.1.is_slice
  obtain ⟨vp, vl, vc⟩ := v
  simp only [] at e1 e2
  subst e1
  subst e2
  clear h hk s3
  have F0 := Fr1.of w 63 #[.slice a1 f.params.length c1, .int .i64 f.result, .slice a2 f.locals.length c2, vc] rfl
  have HB : Hid _ := F0.bel
  clear F0
  generalize hn1 : f.params.length = n1 at *
  generalize hn2 : f.locals.length = n2 at *
  have HN : Hid (f.params.length = n1 ∧ f.locals.length = n2) := ⟨hn1, hn2⟩
  clear hn1 hn2
  by_cases q0 : k < 0
  · rw [localOf_neg q0]
    go_enter Tryz.func72, Tryz.ntmps72
    go_wp2
    go_ret
    exact ⟨rfl, HB.out⟩
  · obtain ⟨j, rfl⟩ := Int.eq_ofNat_of_zero_le (show 0 ≤ k by omega)
    by_cases q1 : j < n1
    · obtain ⟨x, hx⟩ : ∃ x, f.params[j]? = some x := ⟨_, List.getElem?_eq_getElem (by rw [HN.out.1]; exact q1)⟩
      rw [localOf_par hx]
      rcases H1.out.1.2 with ⟨e0, _⟩ | ⟨g, o, c, e1, hc1⟩
      · rw [HN.out.1] at e0
        omega
      · simp only [Value.slice.injEq] at e1
        obtain ⟨rfl, hh, rfl⟩ := e1; clear hh
        have i0 := Rd.elem intCell_length hc1 j x hx 0 _ rfl
        rw [Nat.mul_one, Nat.add_zero] at i0
        have i1 := (HB.out.cell (block_lt_of_cell i0)).trans i0
        clear hc1 hx i0
        go_enter Tryz.func72, Tryz.ntmps72
        go_wp2
        go_ret
        exact ⟨rfl, HB.out⟩
    · by_cases q2 : j < n1 + n2
      · obtain ⟨x, hx⟩ : ∃ x, f.locals[j - n1]? = some x := ⟨_, List.getElem?_eq_getElem (by rw [HN.out.2]; omega)⟩
        have hl := localOf_loc hx
        rw [HN.out.1] at hl
        have ej : ((n1 : Int) + ((j - n1 : Nat) : Int)) = (j : Int) := by omega
        rw [ej] at hl
        rw [hl]
        rcases H1.out.2.1.2 with ⟨e0, _⟩ | ⟨g, o, c, e1, hc1⟩
        · rw [HN.out.2] at e0
          omega
        · simp only [Value.slice.injEq] at e1
          obtain ⟨rfl, hh, rfl⟩ := e1; clear hh
          have i0 := Rd.elem intCell_length hc1 (j - n1) x hx 0 _ rfl
          rw [Nat.mul_one, Nat.add_zero] at i0
          have i1 := (HB.out.cell (block_lt_of_cell i0)).trans i0
          clear hc1 hx i0 hl ej
          go_enter Tryz.func72, Tryz.ntmps72
          go_wp2
          go_ret
          exact ⟨rfl, HB.out⟩
      · rw [localOf_out (by rw [HN.out.1, HN.out.2]; omega)]
        go_enter Tryz.func72, Tryz.ntmps72
        go_wp2
        go_ret
        exact ⟨rfl, HB.out⟩
end Go.Proofs.YtifpjgdnikkekaaGreat
