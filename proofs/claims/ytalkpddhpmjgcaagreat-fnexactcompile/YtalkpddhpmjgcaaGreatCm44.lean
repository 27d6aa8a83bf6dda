import Derived.Test.YtalkpddhpmjgcaaGreatCm32
namespace Go.Proofs.YtalkpddhpmjgcaaGreat
open Go.ChangeShapes Go.WideShapes Go.ChangeAt Go.RowKit
set_option linter.unusedVariables false
set_option maxHeartbeats 1000000 in
set_option maxRecDepth 100000 in
theorem localType_any (x0 x1 x2 x3 : Value) (g : VF) (f : MF) (n : Nat) (z : Int) (w : World) (hs : f.small) (h : RdF w g f) (hz : (f.params ++ f.locals)[n]? = some z) :
    Calls Tryz.prog 100 #[.agg #[x0, x1, x2, x3, g.p, .int .i64 f.result, g.l, g.c], .int .i64 (n : Int)] w fun e w' => e = .returned (.int .i64 z) ∧ Below w.heap.size w w' := by
  obtain ⟨a1, c1, e1⟩ := h.1.is_slice
  obtain ⟨a2, c2, e2⟩ := h.2.1.is_slice
  obtain ⟨vp, vl, vc⟩ := g
  obtain ⟨s1, s2, s3⟩ := hs
  simp only [] at e1 e2
  subst e1 e2
  have HB : Hid (Below w.heap.size w (w.alloc (.cells #[x0, x1, x2, x3, .slice a1 f.params.length c1, .int .i64 f.result, .slice a2 f.locals.length c2, vc] 144))) := below_alloc _ _
  by_cases q : n < f.params.length
  · rw [List.getElem?_append_left q] at hz
    have hq : (n : Int) < (f.params.length : Int) := by omega
    rcases h.1.2 with ⟨e0, _⟩ | ⟨gr, gor, gcr, e1, hc2⟩
    · omega
    simp only [Value.slice.injEq, true_and] at e1
    obtain ⟨rfl, rfl⟩ := e1
    have l0 := Rd.elem intCell_length hc2 n z hz 0 _ rfl
    rw [Nat.mul_one, Nat.add_zero] at l0
    have l1 := (HB.out.cell (block_lt_of_cell l0)).trans l0
    have nb : ¬ gr = w.heap.size := Nat.ne_of_lt (block_lt_of_cell l0)
    clear h hz hc2
    generalize f.params.length = N at *
    generalize f.locals.length = M at *
    go_enter Tryz.func100, Tryz.ntmps100
    go_wp2
    go_ret
    exact ⟨rfl, HB.out⟩
  · rw [List.getElem?_append_right (by omega)] at hz
    have hlt := (List.getElem?_eq_some_iff.1 hz).1
    obtain ⟨d, rfl⟩ : ∃ d, n = f.params.length + d := ⟨n - f.params.length, by omega⟩
    rw [Nat.add_sub_cancel_left] at hz
    have hq : ¬ ((f.params.length + d : Nat) : Int) < (f.params.length : Int) := by omega
    rcases h.2.1.2 with ⟨e0, _⟩ | ⟨gr, gor, gcr, e1, hc2⟩
    · omega
    simp only [Value.slice.injEq, true_and] at e1
    obtain ⟨rfl, rfl⟩ := e1
    have l0 := Rd.elem intCell_length hc2 d z hz 0 _ rfl
    rw [Nat.mul_one, Nat.add_zero] at l0
    have l1 := (HB.out.cell (block_lt_of_cell l0)).trans l0
    have nb : ¬ gr = w.heap.size := Nat.ne_of_lt (block_lt_of_cell l0)
    have hd : d < f.locals.length := by omega
    clear h hz hc2 q hlt
    generalize f.params.length = N at *
    generalize f.locals.length = M at *
    have hsub : ((N + d : Nat) : Int) - (N : Int) = (d : Int) := by omega
    go_enter Tryz.func100, Tryz.ntmps100
    go_wp2
    go_ret
    exact ⟨rfl, HB.out⟩
end Go.Proofs.YtalkpddhpmjgcaaGreat
