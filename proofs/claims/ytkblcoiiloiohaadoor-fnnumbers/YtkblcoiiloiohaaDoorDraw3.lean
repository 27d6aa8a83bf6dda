/- Draw3: l1Word. -/
import Derived.Test.YtkblcoiiloiohaaDoorDraw2
namespace Go.Proofs.YtkblcoiiloiohaaDoor
open Go.ChangeShapes Go.WideShapes Go.ChangeAt Go.RowKit
set_option linter.unusedVariables false

def wordCells : Array Value := #[.int .u32 0, .int .u32 1, .int .u32 2, .int .u32 4294967295, .int .u32 2147483648, .int .u32 2147483647, .int .u32 31, .int .u32 32]
theorem wordCells_at (r : Int) (h0 : 0 ≤ r) (h1 : r < 8) : ∃ v : Int, 0 ≤ v ∧ v < 4294967296 ∧ wordCells[r.toNat]? = some (.int .u32 v) := by
  have h : r = 0 ∨ r = 1 ∨ r = 2 ∨ r = 3 ∨ r = 4 ∨ r = 5 ∨ r = 6 ∨ r = 7 := by omega
  rcases h with rfl | rfl | rfl | rfl | rfl | rfl | rfl | rfl <;> exact ⟨_, by omega, by omega, rfl⟩
theorem bits_u32 (op : BinOp) (x y : Int) : 0 ≤ bits op .u32 x y ∧ bits op .u32 x y < 4294967296 := by
  have : ∀ n : Nat, IntKind.u32.wrap (n : Int) = (n : Int) % 4294967296 := fun _ => rfl
  unfold bits
  simp only [this]
  omega

set_option maxHeartbeats 2000000 in
theorem l1Word_any {w : World} {g : Nat} {a : Option Addr} {len cap : Nat} {p : Int} (h : Src w g a len cap p) (hp : p + 4 ≤ 1000000000000) :
    Calls Tryd.prog 11 #[.pointer (some ⟨g, 0, none⟩)] w fun e w' => ∃ x p' : Int, 0 ≤ x ∧ x < 4294967296 ∧ e = .returned (.int .u32 x) ∧ p ≤ p' ∧ p' ≤ p + 4 ∧ Src w' g a len cap p' ∧ Drawn g w w' := by
  have hlow := h.low
  have H : Hid (Src w g a len cap p) := h
  clear h
  go_enter Tryd.func11, Tryd.ntmps11
  go_wp2_with fail
  refine (l1Next_any H.out (by omega) (by omega) (by omega)).mono ?_
  rintro e w1 ⟨r, h0, h1, rfl, hs, hd⟩
  have HS : Hid (Src w1 g a len cap (p + 1) ∧ Drawn g w w1) := ⟨hs, hd⟩
  clear hs hd
  cases e0 : (r == 0)
  · cases e1 : (r == 1)
    · go_wp2_with fail
      refine (l1Next_any HS.out.1 (by omega) (by omega) (by omega)).mono ?_
      rintro e w2 ⟨r2, h2, h3, rfl, hs2, hd2⟩
      have HS2 : Hid (Src w2 g a len cap (p + 1 + 1) ∧ Drawn g w w2) := ⟨hs2, HS.out.2.trans hd2⟩
      clear hs2 hd2
      go_wp2
      go_ret
      exact ⟨r2, p + 1 + 1, by omega, by omega, rfl, by omega, by omega, HS2.out.1, HS2.out.2⟩
    · go_wp2_with fail
      refine (l1Next_any HS.out.1 (by omega) (by omega) (by omega)).mono ?_
      rintro e w2 ⟨r2, h2, h3, rfl, hs2, hd2⟩
      have HS2 : Hid (Src w2 g a len cap (p + 1 + 1) ∧ Drawn g w w2) := ⟨hs2, HS.out.2.trans hd2⟩
      clear hs2 hd2
      go_wp2_with fail
      refine (l1Next_any HS2.out.1 (by omega) (by omega) (by omega)).mono ?_
      rintro e w3 ⟨r3, h4, h5, rfl, hs3, hd3⟩
      have HS3 : Hid (Src w3 g a len cap (p + 1 + 1 + 1) ∧ Drawn g w w3) := ⟨hs3, HS2.out.2.trans hd3⟩
      clear hs3 hd3
      go_wp2_with fail
      refine (l1Next_any HS3.out.1 (by omega) (by omega) (by omega)).mono ?_
      rintro e w4 ⟨r4, h6, h7, rfl, hs4, hd4⟩
      have HS4 : Hid (Src w4 g a len cap (p + 1 + 1 + 1 + 1) ∧ Drawn g w w4) := ⟨hs4, HS3.out.2.trans hd4⟩
      clear hs4 hd4
      go_wp2
      go_ret
      exact ⟨_, p + 1 + 1 + 1 + 1, (bits_u32 _ _ _).1, (bits_u32 _ _ _).2, rfl, by omega, by omega, HS4.out.1, HS4.out.2⟩
  · go_wp2_with fail
    refine (l1Next_any (HS.out.1.alloc _) (by omega) (by omega) (by omega)).mono ?_
    rintro e w2 ⟨r2, h2, h3, rfl, hs2, hd2⟩
    obtain ⟨v, v0, v1, hv⟩ := wordCells_at r2 h2 h3
    have hg : g ≠ w1.heap.size := by have := HS.out.1.lt; omega
    have hcell : w2.cell? ⟨w1.heap.size, r2.toNat, none⟩ = some (.int .u32 v) := by
      rw [hd2.cell (by simp) (by simpa using hg.symm), cell_of_row _ _ _ _ _ _ (heap_alloc_new _ _)]
      exact hv
    have HS2 : Hid (Src w2 g a len cap (p + 1 + 1) ∧ Drawn g w w2) := ⟨hs2, (HS.out.2.trans (Drawn.alloc g w1 _)).trans hd2⟩
    clear hs2 hd2 hv
    go_wp2
    go_ret
    exact ⟨v, p + 1 + 1, v0, v1, rfl, by omega, by omega, HS2.out.1, HS2.out.2⟩
end Go.Proofs.YtkblcoiiloiohaaDoor
