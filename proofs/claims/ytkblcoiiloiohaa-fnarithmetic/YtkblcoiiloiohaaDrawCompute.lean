/- DrawCompute: what is drawn are two words. -/
import Derived.Test.YtkblcoiiloiohaaDraw3
namespace Go.Proofs.Ytkblcoiiloiohaa
open Go.ChangeShapes Go.WideShapes Go.ChangeAt Go.RowKit
set_option linter.unusedVariables false

def typeCells : Array Value := #[.int .i64 1, .int .i64 2, .int .i64 3, .int .i64 2, .int .i64 3, .int .i64 3, .int .i64 0, .int .i64 4]
theorem typeCells_at (r : Int) (h0 : 0 ≤ r) (h1 : r < 8) : ∃ v : Int, typeCells[r.toNat]? = some (.int .i64 v) := by
  have h : r = 0 ∨ r = 1 ∨ r = 2 ∨ r = 3 ∨ r = 4 ∨ r = 5 ∨ r = 6 ∨ r = 7 := by omega
  rcases h with rfl | rfl | rfl | rfl | rfl | rfl | rfl | rfl <;> exact ⟨_, rfl⟩

/-- The last part of the draw: a type, two words. -/
def DrawEnd (w : World) (e : Ending) (w' : World) : Prop :=
  ∃ op t x y : Int, 0 ≤ x ∧ x < 4294967296 ∧ 0 ≤ y ∧ y < 4294967296 ∧ e = .returned (.tuple #[.int .i64 op, .int .i64 t, .int .u32 x, .int .u32 y]) ∧ Below w.heap.size w w'

set_option maxHeartbeats 2000000 in
theorem DrawCompute_any (a : Option Addr) (len cap : Nat) (w : World) (hl : len ≤ 140737488355328) (hc : CodeAt w w.heap.size a len) :
    Calls Try.prog 4 #[.slice a len cap] w fun e w' => DrawEnd w e w' := by
  have HC : Hid (CodeAt w w.heap.size a len) := hc
  clear hc
  go_enter Try.func4, Try.ntmps4
  go_wp2_with fail
  refine (l1Source_any a len cap w hl HC.out).mono ?_
  rintro e w0 ⟨rfl, hs0, hb0⟩
  have H0 : Hid (Src w0 w.heap.size a len cap 0 ∧ Below w.heap.size w w0) := ⟨hs0, hb0⟩
  clear hs0 hb0
  go_wp2_with fail
  refine (l1Next_any H0.out.1 (by omega) (by omega) (by omega)).mono ?_
  rintro e w1 ⟨r1, h0, h1, rfl, hs1, hd1⟩
  have H1 : Hid (Src w1 w.heap.size a len cap (0 + 1) ∧ Below w.heap.size w w1) := ⟨hs1, H0.out.2.trans (hd1.below (Nat.le_refl _) H0.out.2.size)⟩
  clear hs1 hd1 H0
  go_wp2_with fail
  refine (l1Chance_any H1.out.1 (by omega) (by omega) (by omega)).mono ?_
  rintro e w2 ⟨b, rfl, hs2, hd2⟩
  have H2 : Hid (Src w2 w.heap.size a len cap (0 + 1 + 1) ∧ Below w.heap.size w w2) := ⟨hs2, H1.out.2.trans (hd2.below (Nat.le_refl _) H1.out.2.size)⟩
  clear hs2 hd2 H1
  have fin : ∀ (w3 : World) (p : Int), 0 ≤ p → p ≤ 3 → Src w3 w.heap.size a len cap p → Below w.heap.size w w3 → True := fun _ _ _ _ _ _ => trivial
  clear fin
  cases b
  · go_wp2_with fail
    refine (l1Next_any (H2.out.1.alloc _) (by omega) (by omega) (by omega)).mono ?_
    rintro e w4 ⟨r, hr0, hr1, rfl, hs, hd⟩
    obtain ⟨v, hv⟩ := typeCells_at r hr0 hr1
    have hg : w.heap.size ≠ w2.heap.size := by have := H2.out.1.lt; omega
    have hcell : w4.cell? ⟨w2.heap.size, r.toNat, none⟩ = some (.int .i64 v) := by
      rw [hd.cell (by simp) (by simpa using hg.symm), cell_of_row _ _ _ _ _ _ (heap_alloc_new _ _)]
      exact hv
    have H4 : Hid (Src w4 w.heap.size a len cap (0 + 1 + 1 + 1) ∧ Below w.heap.size w w4) := ⟨hs, (H2.out.2.alloc H2.out.2.size _).trans (hd.below (Nat.le_refl _) (by have := H2.out.2.size; simp; omega))⟩
    clear hs hd hv H2
    go_wp2_with fail
    refine (l1Word_any H4.out.1 (by omega)).mono ?_
    rintro e w5 ⟨x, p5, x0, x1, rfl, q0, q1, hs5, hd5⟩
    have H5 : Hid (Src w5 w.heap.size a len cap p5 ∧ Below w.heap.size w w5) := ⟨hs5, H4.out.2.trans (hd5.below (Nat.le_refl _) H4.out.2.size)⟩
    clear hs5 hd5
    go_wp2_with fail
    refine (l1Word_any H5.out.1 (by omega)).mono ?_
    rintro e w6 ⟨y, p6, y0, y1, rfl, q2, q3, hs6, hd6⟩
    have H6 : Hid (Below w.heap.size w w6) := H5.out.2.trans (hd6.below (Nat.le_refl _) H5.out.2.size)
    clear hs6 hd6
    go_wp2
    refine bodyPost_ret (v := .tuple #[.int .i64 (8 + r1), .int .i64 v, .int .u32 x, .int .u32 y]) (by simp [results, Try.results4, go_sem]) rfl ⟨_, _, x, y, x0, x1, y0, y1, rfl, H6.out⟩
  · go_wp2_with fail
    refine (l1Next_any H2.out.1 (by omega) (by omega) (by omega)).mono ?_
    rintro e w3 ⟨r3, g0, g1, rfl, hs3, hd3⟩
    have H3 : Hid (Src w3 w.heap.size a len cap (0 + 1 + 1 + 1) ∧ Below w.heap.size w w3) := ⟨hs3, H2.out.2.trans (hd3.below (Nat.le_refl _) H2.out.2.size)⟩
    clear hs3 hd3 H2
    go_wp2_with fail
    refine (l1Next_any (H3.out.1.alloc _) (by omega) (by omega) (by omega)).mono ?_
    rintro e w4 ⟨r, hr0, hr1, rfl, hs, hd⟩
    obtain ⟨v, hv⟩ := typeCells_at r hr0 hr1
    have hg : w.heap.size ≠ w3.heap.size := by have := H3.out.1.lt; omega
    have hcell : w4.cell? ⟨w3.heap.size, r.toNat, none⟩ = some (.int .i64 v) := by
      rw [hd.cell (by simp) (by simpa using hg.symm), cell_of_row _ _ _ _ _ _ (heap_alloc_new _ _)]
      exact hv
    have H4 : Hid (Src w4 w.heap.size a len cap (0 + 1 + 1 + 1 + 1) ∧ Below w.heap.size w w4) := ⟨hs, (H3.out.2.alloc H3.out.2.size _).trans (hd.below (Nat.le_refl _) (by have := H3.out.2.size; simp; omega))⟩
    clear hs hd hv H3
    go_wp2_with fail
    refine (l1Word_any H4.out.1 (by omega)).mono ?_
    rintro e w5 ⟨x, p5, x0, x1, rfl, q0, q1, hs5, hd5⟩
    have H5 : Hid (Src w5 w.heap.size a len cap p5 ∧ Below w.heap.size w w5) := ⟨hs5, H4.out.2.trans (hd5.below (Nat.le_refl _) H4.out.2.size)⟩
    clear hs5 hd5
    go_wp2_with fail
    refine (l1Word_any H5.out.1 (by omega)).mono ?_
    rintro e w6 ⟨y, p6, y0, y1, rfl, q2, q3, hs6, hd6⟩
    have H6 : Hid (Below w.heap.size w w6) := H5.out.2.trans (hd6.below (Nat.le_refl _) H5.out.2.size)
    clear hs6 hd6
    go_wp2
    refine bodyPost_ret (v := .tuple #[.int .i64 (r3 - 1), .int .i64 v, .int .u32 x, .int .u32 y]) (by simp [results, Try.results4, go_sem]) rfl ⟨_, _, x, y, x0, x1, y0, y1, rfl, H6.out⟩
end Go.Proofs.Ytkblcoiiloiohaa
