import Derived.Test.YtdbaghmjomdmbaaFo2
namespace Go.Proofs.Ytdbaghmjomdmbaa
open Go.ChangeShapes Go.WideShapes Go.ChangeAt Go.RowKit
set_option linter.unusedVariables false
set_option maxHeartbeats 2000000 in
set_option maxRecDepth 100000 in
theorem markInstrS_any (W0 : World) (base : Nat) (s : Value) (cs : List MI) (k0 : Int) (w : World) (hn : cs.length ≤ 1048576) (h0 : 0 ≤ k0) (h1 : k0 ≤ 1152921504606846976) (h : W0.ownsRow base 44 4 s cs.length (cs.flatMap MI.cells)) (hs : Shaped W0 w) :
    Calls Try.prog 11 #[s, .int .i64 k0] w fun e w' => e = .returned (.int .i64 (k0 + 4 * (cs.length : Int))) ∧ Marks base W0.heap.size w w' := by
  have H : Hid (W0.ownsRow base 44 4 s cs.length (cs.flatMap MI.cells) ∧ Shaped W0 w) := ⟨h, hs⟩
  rcases own_row h with ⟨rfl, hz⟩ | ⟨g, c, rfl⟩
  · clear h hs
    rw [hz]
    go_enter Try.func11, Try.ntmps11
    go_wp2
    go_loopw [1, 5] (fun q i wr => q = .int .i64 k0 ∧ i = .int .i64 0 ∧ wr = w) (fun _ _ _ => 0)
    case atStart => exact ⟨rfl, rfl, rfl⟩
    case round =>
      obtain ⟨rfl, rfl, rfl⟩ := hrel
      go_wp2
      go_ret
      exact ⟨by simp, Marks.refl _ _ _⟩
  · clear h hs
    generalize hLL : cs.length = n at hn H ⊢
    have HL : Hid (cs.length = n) := hLL
    clear hLL
    go_enter Try.func11, Try.ntmps11
    go_wp2
    go_loopw [1, 5] (fun q i wr => ∃ k : Nat, k ≤ n ∧ q = .int .i64 (k0 + 4 * k) ∧ i = .int .i64 k ∧ Hid (Marks base W0.heap.size w wr)) (fun _ i _ => n - (intOf i).toNat)
    case atStart => exact ⟨0, by omega, by simp, rfl, Marks.refl _ _ _⟩
    case round =>
      obtain ⟨k, hk, rfl, rfl, HM⟩ := hrel
      by_cases hlt : k < n
      · obtain ⟨x, hx⟩ : ∃ x, cs[k]? = some x := ⟨_, List.getElem?_eq_getElem (by rw [HL.out]; exact hlt)⟩
        have S0 := H.out.2.trans HM.out.shaped
        have f0 := flat_at MI.cells 4 MI.cells_length cs k 0 x hx (by omega)
        rw [Nat.add_zero] at f0
        obtain ⟨y0, c0, a0, z0, m0⟩ := shape_at H.out.1 (S0) f0
        have M0 := m0 base W0.heap.size (.int .i64 (k0 + 4 * k)) (Nat.le_refl _) (Nat.le_refl _) (.inr ⟨.i64, x.op, _, rfl, rfl⟩)
        have f1 := flat_at MI.cells 4 MI.cells_length cs k 1 x hx (by omega)
        obtain ⟨y1, c1, a1, z1, m1⟩ := shape_at H.out.1 ((S0).trans M0.shaped) f1
        have M1 := m1 base W0.heap.size (.int .i64 (k0 + 4 * k + 1)) (Nat.le_refl _) (Nat.le_refl _) (.inr ⟨.i64, x.a, _, rfl, rfl⟩)
        obtain ⟨d1, e1, _⟩ := shape_at H.out.1 S0 f1
        have f2 := flat_at MI.cells 4 MI.cells_length cs k 2 x hx (by omega)
        obtain ⟨y2, c2, a2, z2, m2⟩ := shape_at H.out.1 (((S0).trans M0.shaped).trans M1.shaped) f2
        have M2 := m2 base W0.heap.size (.int .i64 (k0 + 4 * k + 1 + 1)) (Nat.le_refl _) (Nat.le_refl _) (.inr ⟨.i64, x.b, _, rfl, rfl⟩)
        obtain ⟨d2, e2, _⟩ := shape_at H.out.1 S0 f2
        have f3 := flat_at MI.cells 4 MI.cells_length cs k 3 x hx (by omega)
        obtain ⟨y3, c3, a3, z3, m3⟩ := shape_at H.out.1 ((((S0).trans M0.shaped).trans M1.shaped).trans M2.shaped) f3
        have M3 := m3 base W0.heap.size (.int .i64 (k0 + 4 * k + 1 + 1 + 1)) (Nat.le_refl _) (Nat.le_refl _) (.inr ⟨.i64, x.c, _, rfl, rfl⟩)
        obtain ⟨d3, e3, _⟩ := shape_at H.out.1 S0 f3
        have HN : Hid (Marks base W0.heap.size w _) := ((((HM.out).trans M0).trans M1).trans M2).trans M3
        clear a0 m0 M0 f0 a1 m1 M1 f1 a2 m2 M2 f2 a3 m3 M3 f3 hx S0
        go_wp2
        go_roundw
        case rel => exact ⟨k + 1, by omega, by go_num, by go_num, HN⟩
        case measure => simp [intOf]; omega
      · have hkn : k = n := by omega
        subst hkn
        go_wp2
        go_ret
        exact ⟨rfl, HM.out⟩
end Go.Proofs.Ytdbaghmjomdmbaa
