import Derived.Test.YtifpjgdnikkekaaGreatSh17
import Derived.Test.YtifpjgdnikkekaaGreatSh10
import Derived.Test.YtifpjgdnikkekaaGreatSh5
import Derived.Test.YtifpjgdnikkekaaGreatSh12
import Derived.Test.YtifpjgdnikkekaaGreatSh9
namespace Go.Proofs.YtifpjgdnikkekaaGreat
open Go.ChangeShapes Go.WideShapes Go.ChangeAt Go.RowKit
set_option linter.unusedVariables false
theorem gives_nz {p : MP} {f : MF} {x : MI} (hp : FaultIs p 0) (hx : InstrOk p f x) : ∀ t ∈ givesL p f x, t = 0 → x.op = 23 := by
  have hpp := hp.parts
  have one : ∀ t : Int, t ≠ 0 → (∀ u ∈ [t], u = 0 → x.op = 23) := fun t ht u hu e => by simp only [List.mem_singleton] at hu; exact absurd (hu.symm.trans e) ht
  unfold givesL
  by_cases c1 : x.op = 1
  · rw [if_pos c1]
    obtain ⟨q, z, e1, e2⟩ := hx.const c1
    have hc := hpp.2.1.2 q (List.getElem?_eq_some_iff.1 e2).1 z e2
    have e3 : vAt p.consts x.a.toNat = z := by unfold vAt; rw [e1, Int.toNat_natCast, e2]; rfl
    rw [e3]
    exact one _ (isT_ne hc.1)
  rw [if_neg c1]
  by_cases c2 : x.op = 2
  · rw [if_pos c2]; exact one _ (hx.loc0 c2)
  rw [if_neg c2]
  by_cases c4 : x.op = 4 ∨ x.op = 6
  · rw [if_pos c4]
    obtain ⟨q, z, r, e1, e2, e3, e4⟩ := hx.cell hpp.1.1 (by omega)
    have := (hpp.1.2 q (List.getElem?_eq_some_iff.1 e3).1 r e3).2
    exact one _ (isT_ne (List.all_eq_true.1 this _ (List.mem_of_getElem? e4)))
  rw [if_neg c4]
  by_cases c8 : 8 ≤ x.op ∧ x.op ≤ 16
  · rw [if_pos c8]; exact one _ (isT_ne (hx.type (by omega)))
  rw [if_neg c8]
  by_cases c17 : x.op = 17 ∨ x.op = 18
  · rw [if_pos c17]; exact one _ (by decide)
  rw [if_neg c17]
  by_cases c19 : x.op = 19
  · rw [if_pos c19]; exact one _ (by decide)
  rw [if_neg c19]
  by_cases c20 : x.op = 20 ∨ x.op = 21
  · rw [if_pos c20]; exact one _ (by decide)
  rw [if_neg c20]
  by_cases c22 : x.op = 22
  · rw [if_pos c22]; exact one _ (isT_ne (hx.conv c22).2)
  rw [if_neg c22]
  by_cases c23 : x.op = 23
  · rw [if_pos c23]; exact fun _ _ _ => c23
  rw [if_neg c23]
  by_cases c28 : x.op = 28
  · rw [if_pos c28]
    obtain ⟨q, fq, e1, e2⟩ := hx.callee c28
    have hfq : FuncOk fq := hpp.2.2.1.2.2.1 q (List.getElem?_eq_some_iff.1 e2).1 fq e2
    rw [e1, Int.toNat_natCast, e2]
    simp only []
    unfold resultL
    by_cases hr : fq.result = 0
    · rw [if_pos hr]; exact fun t ht => (by cases ht)
    · rw [if_neg hr]; exact one _ hr
  · rw [if_neg c28]; exact fun t ht => (by cases ht)
end Go.Proofs.YtifpjgdnikkekaaGreat
namespace Go.Proofs.YtifpjgdnikkekaaGreat
open Go.ChangeShapes Go.WideShapes Go.ChangeAt Go.RowKit
set_option linter.unusedVariables false
set_option maxHeartbeats 1000000 in
set_option maxRecDepth 100000 in
theorem localType_any (x0 x1 x2 x3 : Value) (g : VF) (f : MF) (n : Nat) (z : Int) (w : World) (hs : f.small) (h : RdF w g f) (hz : (f.params ++ f.locals)[n]? = some z) :
    Calls Tryz.prog 161 #[.agg #[x0, x1, x2, x3, g.p, .int .i64 f.result, g.l, g.c], .int .i64 (n : Int)] w fun e w' => e = .returned (.int .i64 z) ∧ Below w.heap.size w w' := by
  obtain ⟨a1, c1, e1⟩ := h.1.is_slice
  obtain ⟨a2, c2, e2⟩ := h.2.1.is_slice
  obtain ⟨vp, vl, vc⟩ := g
  obtain ⟨s1, s2, s3⟩ := hs
  simp only [] at e1 e2
  subst e1 e2
  have HB : Hid (Below w.heap.size w (w.alloc (.cells #[x0, x1, x2, x3, .slice a1 f.params.length c1, .int .i64 f.result, .slice a2 f.locals.length c2, vc] 85))) := below_alloc _ _
  by_cases q : n < f.params.length
  · rw [List.getElem?_append_left q] at hz
    have hq : (n : Int) < (f.params.length : Int) := by omega
    rcases h.1.2 with ⟨e0, _⟩ | ⟨gr, gor, gcr, e1, hc2⟩
    · omega
    simp only [Value.slice.injEq, true_and] at e1
    obtain ⟨rfl, rfl⟩ := e1
    have l0 := Rd.elem intCell_length hc2 n z hz 0 _ rfl
    rw [Nat.mul_one, Nat.add_zero] at l0
    have l1 := (HB.out.cell (block_lt_of_cell l0)).trans l0
    have nb : ¬ gr = w.heap.size := Nat.ne_of_lt (block_lt_of_cell l0)
    clear h hz hc2
    generalize f.params.length = N at *
    generalize f.locals.length = M at *
    go_enter Tryz.func161, Tryz.ntmps161
    go_wp2
    go_ret
    exact ⟨rfl, HB.out⟩
  · rw [List.getElem?_append_right (by omega)] at hz
    have hlt := (List.getElem?_eq_some_iff.1 hz).1
    obtain ⟨d, rfl⟩ : ∃ d, n = f.params.length + d := ⟨n - f.params.length, by omega⟩
    rw [Nat.add_sub_cancel_left] at hz
    have hq : ¬ ((f.params.length + d : Nat) : Int) < (f.params.length : Int) := by omega
    rcases h.2.1.2 with ⟨e0, _⟩ | ⟨gr, gor, gcr, e1, hc2⟩
    · omega
    simp only [Value.slice.injEq, true_and] at e1
    obtain ⟨rfl, rfl⟩ := e1
    have l0 := Rd.elem intCell_length hc2 d z hz 0 _ rfl
    rw [Nat.mul_one, Nat.add_zero] at l0
    have l1 := (HB.out.cell (block_lt_of_cell l0)).trans l0
    have nb : ¬ gr = w.heap.size := Nat.ne_of_lt (block_lt_of_cell l0)
    have hd : d < f.locals.length := by omega
    clear h hz hc2 q hlt
    generalize f.params.length = N at *
    generalize f.locals.length = M at *
    have hsub : ((N + d : Nat) : Int) - (N : Int) = (d : Int) := by omega
    go_enter Tryz.func161, Tryz.ntmps161
    go_wp2
    go_ret
    exact ⟨rfl, HB.out⟩
end Go.Proofs.YtifpjgdnikkekaaGreat
namespace Go.Proofs.YtifpjgdnikkekaaGreat
open Go.ChangeShapes Go.WideShapes Go.ChangeAt Go.RowKit
set_option linter.unusedVariables false
theorem block_new (w : World) (cs : Array Value) (t : TypeId) : (w.alloc (.cells cs t)).heap[w.heap.size]? = some (.cells cs t (0, 0)) := Array.getElem?_push_size
theorem field_form (s : ByteArray) (c f : Int) (w : World) : (Instr.field 158 (.agg #[.string s, .int .i64 c, .int .i64 f]) 2).run Tryz.prog w = .ok (.int .i64 f) w := by kernel_rfl
/-- What is read of a function of the program. -/
theorem fn_at {w : World} {s : Value} {fs : List MF} {q : Nat} {f : MF} (h : RdFs w s fs) (hq : fs[q]? = some f) : ∃ gk ok ck, s = .slice (some ⟨gk, ok, none⟩) fs.length ck ∧ ∃ g : VF, RdF w g f ∧ w.cell? ⟨gk, ok + q * 4, none⟩ = some g.p ∧ w.cell? ⟨gk, ok + q * 4 + 1, none⟩ = some (.int .i64 f.result) ∧ w.cell? ⟨gk, ok + q * 4 + 2, none⟩ = some g.l ∧ w.cell? ⟨gk, ok + q * 4 + 3, none⟩ = some g.c := by
  obtain ⟨xs, h1, h2, h3⟩ := h
  have hlt := (List.getElem?_eq_some_iff.1 hq).1
  rcases h2.2 with ⟨e, _⟩ | ⟨gk, ok, ck, e, hc⟩
  · omega
  · obtain ⟨x, hx, hx1⟩ : ∃ x, xs[q]? = some x ∧ x.1 = f := by
      rw [← h1, List.getElem?_map] at hq
      cases hx : xs[q]? with
      | none => rw [hx] at hq; cases hq
      | some x => rw [hx] at hq; exact ⟨x, rfl, Option.some.inj hq⟩
    subst hx1
    exact ⟨gk, ok, ck, e, x.2, h3 x (List.mem_of_getElem? hx), Rd.elem fCells_length hc q x hx 0 _ rfl, Rd.elem fCells_length hc q x hx 1 _ rfl, Rd.elem fCells_length hc q x hx 2 _ rfl, Rd.elem fCells_length hc q x hx 3 _ rfl⟩
theorem in_at {w : World} {s : Value} {is : List MI} {q : Nat} {x : MI} (h : Rd w 4 s is.length (is.flatMap MI.cells)) (hq : is[q]? = some x) : ∃ gk ok ck, s = .slice (some ⟨gk, ok, none⟩) is.length ck ∧ w.cell? ⟨gk, ok + q * 4, none⟩ = some (.int .i64 x.op) ∧ w.cell? ⟨gk, ok + q * 4 + 1, none⟩ = some (.int .i64 x.a) ∧ w.cell? ⟨gk, ok + q * 4 + 2, none⟩ = some (.int .i64 x.b) ∧ w.cell? ⟨gk, ok + q * 4 + 3, none⟩ = some (.int .i64 x.c) := by
  have hlt := (List.getElem?_eq_some_iff.1 hq).1
  rcases h.2 with ⟨e, _⟩ | ⟨gk, ok, ck, e, hc⟩
  · omega
  · exact ⟨gk, ok, ck, e, Rd.elem MI.cells_length hc q x hq 0 _ rfl, Rd.elem MI.cells_length hc q x hq 1 _ rfl, Rd.elem MI.cells_length hc q x hq 2 _ rfl, Rd.elem MI.cells_length hc q x hq 3 _ rfl⟩
end Go.Proofs.YtifpjgdnikkekaaGreat
