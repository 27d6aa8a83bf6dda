/- SDiv: spec.l2Div, spec.l2Takes. -/
import Derived.Test.YtkblcoiiloiohafOps
import Derived.Below
namespace Go.Proofs.Ytkblcoiiloiohaf
open Go.ChangeShapes Go.WideShapes Go.ChangeAt Go.RowKit
set_option linter.unusedVariables false
theorem l2Div_0 (t x y : Int) (w : World) (hy : (y == 0) = true) : Calls Try.prog 24 #[.int .i64 t, .int .u32 x, .int .u32 y] w fun e w' => e = .returned (.tuple #[.int .u32 0, .int .u32 0]) ∧ w' = w := by
  go_enter Try.func24, Try.ntmps24
  go_wp2
  go_ret2
  exact ⟨rfl, rfl⟩
theorem l2Div_u (t x y : Int) (w : World) (hy : (y == 0) = false) (ht : (t == 3) = true) : Calls Try.prog 24 #[.int .i64 t, .int .u32 x, .int .u32 y] w fun e w' => e = .returned (.tuple #[.int .u32 (quoU x y), .int .u32 (rem x y)]) ∧ Below w.heap.size w w' := by
  have hn : ¬ y = 0 := by simpa using hy
  have hq : quoU x y = x.tdiv y % 4294967296 := by unfold quoU; rw [hy]; rfl
  have hr : rem x y = x.tmod y := by unfold rem; rw [hy]; rfl
  have HQ : Hid (quoU x y = x.tdiv y % 4294967296 ∧ rem x y = x.tmod y) := ⟨hq, hr⟩
  clear hq hr
  go_enter Try.func24, Try.ntmps24
  go_wp2
  go_region
  go_wp2
  go_ret2
  exact ⟨by rw [HQ.out.1, HQ.out.2]; rfl, (Below.refl _ _).drew⟩

theorem w64 {n : Int} (h : -9223372036854775808 ≤ n) (h' : n < 9223372036854775808) : wrap64 n = n := by unfold wrap64; omega
theorem w32b (n : Int) : -2147483648 ≤ wrap32 n ∧ wrap32 n < 2147483648 := by unfold wrap32; omega
theorem tdiv_bd {a b : Int} (h : -2147483648 ≤ a) (h' : a < 2147483648) : -2147483648 ≤ a.tdiv b ∧ a.tdiv b ≤ 2147483648 := by
  have h1 : (a.tdiv b).natAbs ≤ a.natAbs := by rw [Int.natAbs_tdiv]; exact Nat.div_le_self _ _
  omega
theorem tmod_bd {a b : Int} (h : -2147483648 ≤ a) (h' : a < 2147483648) : -2147483648 ≤ a.tmod b ∧ a.tmod b ≤ 2147483648 := by
  have h1 : (a.tmod b).natAbs ≤ a.natAbs := by rw [Int.natAbs_tmod]; exact Nat.mod_le _ _
  omega
theorem u32w (n : Int) : IntKind.u32.wrap n = n % 4294967296 := rfl
theorem fDiv_2 (x y : Int) (hy : (y == 0) = false) (h : 0 ≤ y) (h' : y < 4294967296) : fDiv 2 x y = wrap64 ((wrap64 (wrap32 x)).tdiv (wrap64 (wrap32 y))) % 4294967296 := by
  have hx := w32b x
  have hy2 := w32b y
  have hn : y ≠ 0 := by simpa using hy
  have hw : (wrap32 y == 0) = false := by unfold wrap32; simp; omega
  have hd := tdiv_bd (b := wrap32 y) hx.1 hx.2
  show IntKind.u32.wrap (quoI (wrap32 x) (wrap32 y)) = _
  unfold quoI
  rw [hw, u32w, w64 (n := wrap32 x) (by omega) (by omega), w64 (n := wrap32 y) (by omega) (by omega), w64 (by omega) (by omega)]
  show wrap32 _ % _ = _
  generalize (wrap32 x).tdiv (wrap32 y) = q
  unfold wrap32; omega
theorem fMod_2 (x y : Int) (hy : (y == 0) = false) (h : 0 ≤ y) (h' : y < 4294967296) : fMod 2 x y = (wrap64 (wrap32 x)).tmod (wrap64 (wrap32 y)) % 4294967296 := by
  have hx := w32b x
  have hy2 := w32b y
  have hn : y ≠ 0 := by simpa using hy
  have hw : (wrap32 y == 0) = false := by unfold wrap32; simp; omega
  show IntKind.u32.wrap (rem (wrap32 x) (wrap32 y)) = _
  unfold rem
  rw [hw, u32w, w64 (n := wrap32 x) (by omega) (by omega), w64 (n := wrap32 y) (by omega) (by omega)]
  rfl
theorem l2Div_i (x y : Int) (w : World) (hy : (y == 0) = false) (hb : 0 ≤ y) (hb' : y < 4294967296) : Calls Try.prog 24 #[.int .i64 2, .int .u32 x, .int .u32 y] w fun e w' => e = .returned (.tuple #[.int .u32 (fDiv 2 x y), .int .u32 (fMod 2 x y)]) ∧ Below w.heap.size w w' := by
  have hn : ¬ wrap64 (wrap32 y) = 0 := by
    have hy2 := w32b y
    have hn : y ≠ 0 := by simpa using hy
    rw [w64 (by omega) (by omega)]; unfold wrap32; omega
  have HQ : Hid (fDiv 2 x y = wrap64 ((wrap64 (wrap32 x)).tdiv (wrap64 (wrap32 y))) % 4294967296 ∧ fMod 2 x y = (wrap64 (wrap32 x)).tmod (wrap64 (wrap32 y)) % 4294967296) := ⟨fDiv_2 x y hy hb hb', fMod_2 x y hy hb hb'⟩
  clear hb hb'
  go_enter Try.func24, Try.ntmps24
  go_wp2
  go_region
  go_wp2
  go_ret2
  exact ⟨by rw [HQ.out.1, HQ.out.2]; rfl, (Below.refl _ _).drew⟩

theorem l2Div_any (t x y : Int) (w : World) (ht : t = 2 ∨ t = 3) (hb : 0 ≤ y) (hb' : y < 4294967296) : Calls Try.prog 24 #[.int .i64 t, .int .u32 x, .int .u32 y] w fun e w' => e = .returned (.tuple #[.int .u32 (fDiv t x y), .int .u32 (fMod t x y)]) ∧ Below w.heap.size w w' := by
  cases hy : (y == 0)
  · rcases ht with rfl | rfl
    · exact l2Div_i x y w hy hb hb'
    · exact l2Div_u 3 x y w hy rfl
  · have h0 : y = 0 := by simpa using hy
    subst h0
    have hw : wrap32 0 = 0 := by unfold wrap32; omega
    have h1 : fDiv t x 0 = 0 := by
      rcases ht with rfl | rfl
      · show IntKind.u32.wrap (quoI (wrap32 x) (wrap32 0)) = 0
        rw [hw]; rfl
      · rfl
    have h2 : fMod t x 0 = 0 := by
      rcases ht with rfl | rfl
      · show IntKind.u32.wrap (rem (wrap32 x) (wrap32 0)) = 0
        rw [hw]; rfl
      · rfl
    rw [h1, h2]
    refine (l2Div_0 t x 0 w hy).mono ?_
    rintro e w' ⟨rfl, rfl⟩
    exact ⟨rfl, Below.refl _ _⟩

/-- spec.l2Takes. -/
def stakes (f t : Int) : Bool := if f == 5 then (t == 2 || t == 3) else if f == 6 then (t == 1 || t == 3) else if f == 7 then isT t else false

theorem l2Takes_any (f t : Int) (w : World) : Calls Try.prog 23 #[.int .i64 f, .int .i64 t] w fun e w' => e = .returned (.bool (stakes f t)) ∧ w' = w := by
  cases h5 : (f == 5)
  · cases h6 : (f == 6)
    · cases h7 : (f == 7)
      · have hr : stakes f t = false := by simp only [stakes, h5, h6, h7]; rfl
        rw [hr]
        go_enter Try.func23, Try.ntmps23
        go_wp2
        go_ret
        exact ⟨rfl, rfl⟩
      · have hr : stakes f t = isT t := by simp only [stakes, h5, h6, h7]; rfl
        rw [hr]
        go_enter Try.func23, Try.ntmps23
        go_wp2_with (go_at_call 22; refine (l2Type_any _ _).mono ?_; rintro e w' ⟨rfl, rfl⟩)
        go_ret
        exact ⟨rfl, rfl⟩
    · have hr : stakes f t = (t == 1 || t == 3) := by simp only [stakes, h5, h6]; rfl
      rw [hr]
      cases h1 : (t == 1) <;>
      · go_enter Try.func23, Try.ntmps23
        go_wp2
        go_ret
        exact ⟨rfl, rfl⟩
  · have hr : stakes f t = (t == 2 || t == 3) := by simp only [stakes, h5]; rfl
    rw [hr]
    cases h1 : (t == 2) <;>
    · go_enter Try.func23, Try.ntmps23
      go_wp2
      go_ret
      exact ⟨rfl, rfl⟩
end Go.Proofs.Ytkblcoiiloiohaf
