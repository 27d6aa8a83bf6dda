/- IFault5: impl.maskHolds. -/
import Derived.Test.YtadkabiipkngiaaGreatDoorIFault4
namespace Go.Proofs.YtadkabiipkngiaaGreatDoor
open Go.ChangeShapes Go.WideShapes Go.ChangeAt Go.RowKit
set_option linter.unusedVariables false
/-- A mask that may choose among the first of these cells. -/
structure MaskIn (xs : List Int) (c : Int) : Prop where
  low : 0 ≤ c
  high : c < (xs.length : Int)
  mask : bits .and .i64 c (c + 1) = 0
  one : ∀ j : Nat, (j : Int) ≤ c → xs[j]? = xs[0]?
set_option maxHeartbeats 2000000 in
set_option maxRecDepth 100000 in
theorem maskHolds_any (a1 : Option Addr) (c1 : Nat) (xs : List Int) (c : Int) (w : World) (hn : xs.length ≤ 1048576) (hcap : xs.length ≤ c1) (h : Rd w 1 (.slice a1 xs.length c1) xs.length (xs.flatMap intCell)) :
    Calls Tryz.prog 73 #[.slice a1 xs.length c1, .int .i64 c] w fun e w' => SaysIff e (MaskIn xs c) ∧ Below w.heap.size w w' := by
  have H1 : Hid (Rd w 1 (.slice a1 xs.length c1) xs.length (xs.flatMap intCell)) := h
  clear h
  generalize hLL : xs.length = n at hn hcap H1
  have HL : Hid (xs.length = n) := hLL
  clear hLL
  by_cases q0 : 0 ≤ c ∧ c < (n : Int)
  · have hit : decide (0 ≤ c ∧ c < (n : Int)) = true := decide_eq_true q0
    obtain ⟨c, rfl⟩ := Int.eq_ofNat_of_zero_le q0.1
    have hcn : c < n := by omega
    clear q0
    by_cases q1 : bits .and .i64 (c : Int) ((c : Int) + 1) = 0
    · have HM : Hid (bits .and .i64 (c : Int) ((c : Int) + 1) = 0) := q1
      obtain ⟨y, hy⟩ : ∃ y, xs[0]? = some y := ⟨_, List.getElem?_eq_getElem (by rw [HL.out]; omega)⟩
      rcases H1.out.2 with ⟨e0, _⟩ | ⟨g, o, cc, e1, hc1⟩
      · omega
      simp only [Value.slice.injEq, true_and] at e1
      obtain ⟨rfl, rfl⟩ := e1
      have j0 := Rd.elem intCell_length hc1 0 y hy 0 _ rfl
      simp only [Nat.zero_mul, Nat.add_zero] at j0
      have HC : Hid (∀ j u, (xs.flatMap intCell)[j]? = some u → w.cell? ⟨g, o + j, none⟩ = some u) := hc1
      have HY : Hid (xs[0]? = some y) := hy
      clear hc1 hy
      go_enter Tryz.func73, Tryz.ntmps73
      go_wp2_with fail
      refine (isOneOf_any (c : Int) (n : Int) _).mono ?_
      rintro e u ⟨rfl, rfl⟩
      rw [hit]
      have k1 : (c : Int) + 1 ≤ (c1 : Int) := by omega
      have k2 : (0 : Int) ≤ (c : Int) + 1 := by omega
      have k3 : (0 : Int) < (n : Int) := by omega
      have k4 : ((c : Int) + 1).toNat = c + 1 := by omega
      go_wp2
      clear k1 k2 hit q1
      go_loopw [24] (fun i wr => ∃ k : Nat, k ≤ c + 1 ∧ i = .int .i64 k ∧ Hid (∀ j, j < k → xs[j]? = some y) ∧ ∃ m, wr = u.drewN m) (fun i _ => c + 1 - (intOf i).toNat)
      case atStart => exact ⟨0, by omega, rfl, fun j hj => by omega, 0, rfl⟩
      case round =>
        obtain ⟨k, hk, rfl, HT, m, rfl⟩ := hrel
        by_cases hlt : k < c + 1
        · obtain ⟨x, hx⟩ : ∃ x, xs[k]? = some x := ⟨_, List.getElem?_eq_getElem (by rw [HL.out]; omega)⟩
          have i0 := Rd.elem intCell_length HC.out k x hx 0 _ rfl
          rw [Nat.mul_one, Nat.add_zero] at i0
          have HX : Hid (xs[k]? = some x) := hx
          clear hx
          have hlt' : (k : Int) < (c : Int) + 1 := by omega
          by_cases hxy : x = y
          · subst hxy
            have HT2 : Hid (∀ j, j < k + 1 → xs[j]? = some x) := fun j hj => by
              by_cases e : j = k
              · rw [e]; exact HX.out
              · exact HT.out j (by omega)
            go_wp2
            go_roundw
            case rel => exact ⟨k + 1, by omega, by go_num, HT2, _, rfl⟩
            case measure => simp [intOf]; omega
          · have HN : Hid (¬ MaskIn xs c) := fun e => by
              have := e.one k (by omega)
              rw [HX.out, HY.out] at this
              exact hxy (Option.some.inj this)
            have hxy' : (x == y) = false := by simpa using hxy
            have hxy'' : (x != y) = true := by simpa using hxy
            go_wp2
            go_ret
            exact ⟨.no HN.out, below_drewN _ _ _⟩
        · have hkn : k = c + 1 := by omega
          subst hkn
          have HY2 : Hid (MaskIn xs c) := ⟨by omega, by rw [HL.out]; omega, HM.out, fun j hj => by rw [HY.out]; exact HT.out j (by omega)⟩
          go_wp2
          go_ret
          exact ⟨.yes HY2.out, below_drewN _ _ _⟩
    · have HN : Hid (¬ MaskIn xs c) := fun e => q1 e.mask
      have q1' : (bits .and .i64 (c : Int) ((c : Int) + 1) == 0) = false := by simpa using q1
      clear H1
      go_enter Tryz.func73, Tryz.ntmps73
      go_wp2_with fail
      refine (isOneOf_any (c : Int) (n : Int) _).mono ?_
      rintro e u ⟨rfl, rfl⟩
      rw [hit]
      go_wp2
      go_ret
      exact ⟨.no HN.out, Below.refl _ _⟩
  · have HN : Hid (¬ MaskIn xs c) := fun e => q0 ⟨e.low, by have := e.high; rw [HL.out] at this; exact this⟩
    have hit : decide (0 ≤ c ∧ c < (n : Int)) = false := decide_eq_false q0
    clear H1
    go_enter Tryz.func73, Tryz.ntmps73
    go_wp2_with fail
    refine (isOneOf_any c (n : Int) _).mono ?_
    rintro e u ⟨rfl, rfl⟩
    rw [hit]
    go_wp2
    go_ret
    exact ⟨.no HN.out, Below.refl _ _⟩
end Go.Proofs.YtadkabiipkngiaaGreatDoor
