import Derived.Test.YthifelgdkmkdkaaGreatDoorRows
import Derived.WalkKit
import Derived.ProofKit
import Derived.OpenShut
import Derived.Test.YthifelgdkmkdkaaGreatDoorFm9
namespace Go.Proofs.YthifelgdkmkdkaaGreatDoor
open Go.ChangeShapes Go.WideShapes Go.ChangeAt Go.RowKit
set_option linter.unusedVariables false

def isT (t : Int) : Bool := decide (1 ≤ t ∧ t ≤ 3)
theorem isT_true {t : Int} (h : 1 ≤ t) (h' : t ≤ 3) : isT t = true := by unfold isT; simp; omega
theorem isT_false {t : Int} (h : t < 1 ∨ 3 < t) : isT t = false := by unfold isT; simp; omega
def word (b : Bool) : Int := if b then 1 else 0
theorem isType_any (t : Int) (w : World) : Calls Tryz.prog 79 #[.int .i64 t] w fun e w' => e = .returned (.bool (isT t)) ∧ w' = w := by
  by_cases h1 : 1 ≤ t
  · by_cases h3 : t ≤ 3
    · rw [isT_true h1 h3]
      go_enter Tryz.func79, Tryz.ntmps79
      go_wp2
      go_ret
      exact ⟨rfl, rfl⟩
    · rw [isT_false (by omega)]
      go_enter Tryz.func79, Tryz.ntmps79
      go_wp2
      go_ret
      exact ⟨rfl, rfl⟩
  · rw [isT_false (by omega)]
    go_enter Tryz.func79, Tryz.ntmps79
    go_wp2
    go_ret
    exact ⟨rfl, rfl⟩
theorem l2Type_any (t : Int) (w : World) : Calls Tryz.prog 40 #[.int .i64 t] w fun e w' => e = .returned (.bool (isT t)) ∧ w' = w := by
  by_cases h1 : 1 ≤ t
  · by_cases h3 : t ≤ 3
    · rw [isT_true h1 h3]
      go_enter Tryz.func40, Tryz.ntmps40
      go_wp2
      go_ret
      exact ⟨rfl, rfl⟩
    · rw [isT_false (by omega)]
      go_enter Tryz.func40, Tryz.ntmps40
      go_wp2
      go_ret
      exact ⟨rfl, rfl⟩
  · rw [isT_false (by omega)]
    go_enter Tryz.func40, Tryz.ntmps40
    go_wp2
    go_ret
    exact ⟨rfl, rfl⟩
theorem wordOf_any (b : Bool) (w : World) : Calls Tryz.prog 119 #[.bool b] w fun e w' => e = .returned (.int .u32 (word b)) ∧ w' = w := by
  cases b <;>
  · go_enter Tryz.func119, Tryz.ntmps119
    go_wp2
    go_ret
    exact ⟨rfl, rfl⟩
end Go.Proofs.YthifelgdkmkdkaaGreatDoor
namespace Go.Proofs.YthifelgdkmkdkaaGreatDoor
open Go.ChangeShapes Go.WideShapes Go.ChangeAt Go.RowKit
set_option linter.unusedVariables false
theorem all_next {α : Type} (q : α → Bool) (ys : List α) (k : Nat) (x : α) (hx : ys[k]? = some x) (h : (ys.take k).all q = true) : (ys.take (k + 1)).all q = q x := by
  obtain ⟨hlt, rfl⟩ := List.getElem?_eq_some_iff.1 hx
  rw [List.take_succ_eq_append_getElem hlt, List.all_append, h]
  simp
theorem all_not {α : Type} (q : α → Bool) (ys : List α) (x : α) (hx : x ∈ ys) (h : q x = false) : ys.all q = false := by
  rw [List.all_eq_false]
  exact ⟨x, hx, by simp [h]⟩
set_option maxHeartbeats 1000000 in
theorem l3Types_any (s : Value) (ys : List Int) (w : World) (hn : ys.length ≤ 1048576) (h : Rd w 1 s ys.length (ys.flatMap intCell)) :
    Calls Tryz.prog 35 #[s] w fun e w' => e = .returned (.bool (ys.all isT)) ∧ w' = w := by
  have H1 : Hid (Rd w 1 s ys.length (ys.flatMap intCell)) := h
  obtain ⟨a1, c1, rfl⟩ := h.is_slice
  clear h
  generalize hLL : ys.length = n at hn H1
  have HL : Hid (ys.length = n) := hLL
  clear hLL
  generalize hR : ys.all isT = R
  have HR : Hid (ys.all isT = R) := hR
  clear hR
  go_enter Tryz.func35, Tryz.ntmps35
  go_wp2
  go_loopw [3] (fun i wr => ∃ k : Nat, k ≤ n ∧ i = .int .i64 k ∧ Hid ((ys.take k).all isT = true) ∧ wr = w) (fun i _ => n - (intOf i).toNat)
  case atStart => exact ⟨0, by omega, rfl, by simp [Hid], rfl⟩
  case round =>
    obtain ⟨k, hk, rfl, HT, rfl⟩ := hrel
    by_cases hlt : k < n
    · obtain ⟨x, hx⟩ : ∃ x, ys[k]? = some x := ⟨_, List.getElem?_eq_getElem (by rw [HL.out]; exact hlt)⟩
      rcases H1.out.2 with ⟨e0, _⟩ | ⟨g, o, c, e1, hc1⟩
      · omega
      · simp only [Value.slice.injEq, true_and] at e1
        obtain ⟨rfl, rfl⟩ := e1
        have i0 := Rd.elem intCell_length hc1 k x hx 0 _ rfl
        rw [Nat.mul_one, Nat.add_zero] at i0
        have HX : Hid (ys[k]? = some x) := hx
        clear hc1 hx
        go_wp2_with fail
        refine (l2Type_any x wr).mono ?_
        rintro e u ⟨rfl, rfl⟩
        cases hq : isT x with
        | false =>
          have hR : R = false := by
            rw [← HR.out]
            exact all_not _ _ _ (List.mem_of_getElem? HX.out) hq
          subst hR
          clear hq
          go_wp2
          go_ret
          exact ⟨rfl, rfl⟩
        | true =>
          have HN : Hid ((ys.take (k + 1)).all isT = true) := by
            show _ = _
            rw [all_next _ _ _ _ HX.out HT.out]
            exact hq
          clear hq
          go_wp2
          go_roundw
          case rel => exact ⟨k + 1, by omega, by go_num, HN, by trivial⟩
          case measure => simp [intOf]; omega
    · have hkn : k = n := by omega
      subst hkn
      have hR : R = true := by
        rw [← HR.out, ← HT.out, ← HL.out, List.take_length]
      subst hR
      go_wp2
      go_ret
      exact ⟨rfl, rfl⟩
end Go.Proofs.YthifelgdkmkdkaaGreatDoor
namespace Go.Proofs.YthifelgdkmkdkaaGreatDoor
open Go.ChangeShapes Go.WideShapes Go.ChangeAt Go.RowKit
set_option linter.unusedVariables false
/-- The type of a local; 0: there is none. -/
def localOf (f : MF) (k : Int) : Int := if k < 0 then 0 else (f.params ++ f.locals).getD k.toNat 0
theorem localOf_neg {f : MF} {k : Int} (h : k < 0) : localOf f k = 0 := if_pos h
theorem localOf_par {f : MF} {k : Nat} {x : Int} (h : f.params[k]? = some x) : localOf f k = x := by
  obtain ⟨hlt, rfl⟩ := List.getElem?_eq_some_iff.1 h
  unfold localOf
  rw [if_neg (by omega), List.getD_eq_getElem?_getD, Int.toNat_natCast, List.getElem?_append_left hlt, List.getElem?_eq_getElem hlt]
  rfl
theorem localOf_loc {f : MF} {k : Nat} {x : Int} (h : f.locals[k]? = some x) : localOf f ((f.params.length : Int) + k) = x := by
  obtain ⟨hlt, rfl⟩ := List.getElem?_eq_some_iff.1 h
  unfold localOf
  have e : ((f.params.length : Int) + k).toNat = f.params.length + k := by omega
  rw [if_neg (by omega), List.getD_eq_getElem?_getD, e, List.getElem?_append_right (by omega), Nat.add_sub_cancel_left, List.getElem?_eq_getElem hlt]
  rfl
theorem localOf_out {f : MF} {k : Int} (h : (f.params.length : Int) + f.locals.length ≤ k) : localOf f k = 0 := by
  unfold localOf
  rw [if_neg (by omega), List.getD_eq_getElem?_getD, List.getElem?_eq_none (by rw [List.length_append]; omega)]
  rfl
set_option maxHeartbeats 2000000 in
set_option maxRecDepth 100000 in
theorem l3Local_any (v : VF) (f : MF) (k : Int) (w : World) (hs : f.small) (hk : W64 k) (h : RdF w v f) :
    Calls Tryz.prog 60 #[.agg #[v.p, .int .i64 f.result, v.l, v.c], .int .i64 k] w fun e w' => e = .returned (.int .i64 (localOf f k)) ∧ Below w.heap.size w w' := by
  have hk' : -9223372036854775808 ≤ k ∧ k ≤ 9223372036854775807 := by simpa [W64, Lit.wf, IntKind.min, IntKind.max, IntKind.signed, IntKind.bits] using hk
  obtain ⟨k0, k1⟩ := hk'
  obtain ⟨s1, s2, s3⟩ := hs
  have H1 : Hid (RdF w v f) := h
  obtain ⟨a1, c1, e1⟩ := h.1.is_slice
  obtain ⟨a2, c2, e2⟩ := h.2.1.is_slice
  obtain ⟨vp, vl, vc⟩ := v
  simp only [] at e1 e2
  subst e1
  subst e2
  clear h hk s3
  have F0 := Fr1.of w 52 #[.slice a1 f.params.length c1, .int .i64 f.result, .slice a2 f.locals.length c2, vc] rfl
  have HB : Hid _ := F0.bel
  clear F0
  generalize hn1 : f.params.length = n1 at *
  generalize hn2 : f.locals.length = n2 at *
  have HN : Hid (f.params.length = n1 ∧ f.locals.length = n2) := ⟨hn1, hn2⟩
  clear hn1 hn2
  by_cases q0 : k < 0
  · rw [localOf_neg q0]
    go_enter Tryz.func60, Tryz.ntmps60
    go_wp2
    go_ret
    exact ⟨rfl, HB.out⟩
  · obtain ⟨j, rfl⟩ := Int.eq_ofNat_of_zero_le (show 0 ≤ k by omega)
    by_cases q1 : j < n1
    · obtain ⟨x, hx⟩ : ∃ x, f.params[j]? = some x := ⟨_, List.getElem?_eq_getElem (by rw [HN.out.1]; exact q1)⟩
      rw [localOf_par hx]
      rcases H1.out.1.2 with ⟨e0, _⟩ | ⟨g, o, c, e1, hc1⟩
      · rw [HN.out.1] at e0
        omega
      · simp only [Value.slice.injEq] at e1
        obtain ⟨rfl, hh, rfl⟩ := e1; clear hh
        have i0 := Rd.elem intCell_length hc1 j x hx 0 _ rfl
        rw [Nat.mul_one, Nat.add_zero] at i0
        have i1 := (HB.out.cell (block_lt_of_cell i0)).trans i0
        clear hc1 hx i0
        go_enter Tryz.func60, Tryz.ntmps60
        go_wp2
        go_ret
        exact ⟨rfl, HB.out⟩
    · by_cases q2 : j < n1 + n2
      · obtain ⟨x, hx⟩ : ∃ x, f.locals[j - n1]? = some x := ⟨_, List.getElem?_eq_getElem (by rw [HN.out.2]; omega)⟩
        have hl := localOf_loc hx
        rw [HN.out.1] at hl
        have ej : ((n1 : Int) + ((j - n1 : Nat) : Int)) = (j : Int) := by omega
        rw [ej] at hl
        rw [hl]
        rcases H1.out.2.1.2 with ⟨e0, _⟩ | ⟨g, o, c, e1, hc1⟩
        · rw [HN.out.2] at e0
          omega
        · simp only [Value.slice.injEq] at e1
          obtain ⟨rfl, hh, rfl⟩ := e1; clear hh
          have i0 := Rd.elem intCell_length hc1 (j - n1) x hx 0 _ rfl
          rw [Nat.mul_one, Nat.add_zero] at i0
          have i1 := (HB.out.cell (block_lt_of_cell i0)).trans i0
          clear hc1 hx i0 hl ej
          go_enter Tryz.func60, Tryz.ntmps60
          go_wp2
          go_ret
          exact ⟨rfl, HB.out⟩
      · rw [localOf_out (by rw [HN.out.1, HN.out.2]; omega)]
        go_enter Tryz.func60, Tryz.ntmps60
        go_wp2
        go_ret
        exact ⟨rfl, HB.out⟩
end Go.Proofs.YthifelgdkmkdkaaGreatDoor
