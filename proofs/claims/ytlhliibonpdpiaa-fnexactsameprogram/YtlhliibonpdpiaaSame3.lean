/- Same3: slices.Equal over instructions, constants, certificates: the walks. -/
import Derived.Test.YtlhliibonpdpiaaSame2
namespace Go.Proofs.Ytlhliibonpdpiaa
open Go.ChangeShapes Go.WideShapes Go.ChangeAt Go.RowKit
set_option linter.unusedVariables false
theorem MI.neq_same (x : MI) (w : World) : (binOp .neq 68 (.agg x.cells.toArray) (.agg x.cells.toArray)).run Try.prog w = .ok (.bool false) w := by
  obtain ⟨b, hb, h⟩ := MI.neq x x w
  cases b
  · exact h
  · simp at hb
theorem MI.neq_ne (x y : MI) (hxy : ¬ x = y) (w : World) : (binOp .neq 68 (.agg x.cells.toArray) (.agg y.cells.toArray)).run Try.prog w = .ok (.bool true) w := by
  obtain ⟨b, hb, h⟩ := MI.neq x y w
  cases b
  · simp [hxy] at hb
  · exact h
theorem MT.neq_same (x : MT) (w : World) : (binOp .neq 51 (.agg x.cells.toArray) (.agg x.cells.toArray)).run Try.prog w = .ok (.bool false) w := by
  obtain ⟨b, hb, h⟩ := MT.neq x x w
  cases b
  · exact h
  · simp at hb
theorem MT.neq_ne (x y : MT) (hxy : ¬ x = y) (w : World) : (binOp .neq 51 (.agg x.cells.toArray) (.agg y.cells.toArray)).run Try.prog w = .ok (.bool true) w := by
  obtain ⟨b, hb, h⟩ := MT.neq x y w
  cases b
  · simp [hxy] at hb
  · exact h
theorem MC.neq_same (x : MC) (w : World) : (binOp .neq 45 (.agg x.cells.toArray) (.agg x.cells.toArray)).run Try.prog w = .ok (.bool false) w := by
  obtain ⟨b, hb, h⟩ := MC.neq x x w
  cases b
  · exact h
  · simp at hb
theorem MC.neq_ne (x y : MC) (hxy : ¬ x = y) (w : World) : (binOp .neq 45 (.agg x.cells.toArray) (.agg y.cells.toArray)).run Try.prog w = .ok (.bool true) w := by
  obtain ⟨b, hb, h⟩ := MC.neq x y w
  cases b
  · simp [hxy] at hb
  · exact h
set_option maxHeartbeats 1000000 in
theorem slicesEqI_any (s s' : Value) (xs ys : List MI) (w : World) (hn : xs.length ≤ 1048576) (hn' : ys.length ≤ 1048576) (h : Rd w 4 s xs.length (xs.flatMap MI.cells)) (h' : Rd w 4 s' ys.length (ys.flatMap MI.cells)) :
    Calls Try.prog 35 #[s, s'] w fun e w' => SaysIff e (xs = ys) ∧ ∃ m, w' = w.drewN m := by
  have H1 : Hid (Rd w 4 s xs.length (xs.flatMap MI.cells)) := h
  have H2 : Hid (Rd w 4 s' ys.length (ys.flatMap MI.cells)) := h'
  obtain ⟨a1, c1, rfl⟩ := h.is_slice
  obtain ⟨a2, c2, rfl⟩ := h'.is_slice
  clear h h'
  by_cases hll : xs.length = ys.length
  · rw [← hll] at H2
    rw [← hll]
    clear hn'
    generalize hLL : xs.length = n at hn H1 H2
    have HL : Hid (xs.length = n ∧ ys.length = n) := ⟨hLL, hll ▸ hLL⟩
    clear hLL hll
    have hm : Try.prog.eqGuardType Try.prog.depth 68 = false := by kernel_rfl
    go_enter Try.func35, Try.ntmps35
    go_wp2
    go_loopw [13] (fun i wr => ∃ k : Nat, k ≤ n ∧ i = .int .i64 k ∧ Hid (∀ j, j < k → xs[j]? = ys[j]?) ∧ ∃ m, wr = w.drewN m) (fun i _ => n - (intOf i).toNat)
    case atStart => exact ⟨0, by omega, rfl, fun j hj => by omega, 0, rfl⟩
    case round =>
      obtain ⟨k, hk, rfl, HT, m, rfl⟩ := hrel
      by_cases hlt : k < n
      · obtain ⟨x, hx⟩ : ∃ x, xs[k]? = some x := ⟨_, List.getElem?_eq_getElem (by rw [HL.out.1]; exact hlt)⟩
        obtain ⟨y, hy⟩ : ∃ y, ys[k]? = some y := ⟨_, List.getElem?_eq_getElem (by rw [HL.out.2]; exact hlt)⟩
        rcases H1.out.2 with ⟨e0, _⟩ | ⟨g, o, c, e1, hc1⟩
        · omega
        · rcases H2.out.2 with ⟨e0, _⟩ | ⟨g', o', c', e2, hc2⟩
          · omega
          · simp only [Value.slice.injEq, true_and] at e1 e2
            obtain ⟨rfl, rfl⟩ := e1
            obtain ⟨rfl, rfl⟩ := e2
            have i0 := Rd.elem MI.cells_length hc1 k x hx 0 _ rfl
            have i1 := Rd.elem MI.cells_length hc1 k x hx 1 _ rfl
            have i2 := Rd.elem MI.cells_length hc1 k x hx 2 _ rfl
            have i3 := Rd.elem MI.cells_length hc1 k x hx 3 _ rfl
            have j0 := Rd.elem MI.cells_length hc2 k y hy 0 _ rfl
            have j1 := Rd.elem MI.cells_length hc2 k y hy 1 _ rfl
            have j2 := Rd.elem MI.cells_length hc2 k y hy 2 _ rfl
            have j3 := Rd.elem MI.cells_length hc2 k y hy 3 _ rfl
            rw [Nat.add_zero] at i0 j0
            have HX : Hid (xs[k]? = some x ∧ ys[k]? = some y) := ⟨hx, hy⟩
            clear hc1 hc2 hx hy
            by_cases hxy : x = y
            · subst hxy
              have hq : ∀ w, (binOp .neq 68 (.agg #[.int .i64 x.op, .int .i64 x.a, .int .i64 x.b, .int .i64 x.c]) (.agg #[.int .i64 x.op, .int .i64 x.a, .int .i64 x.b, .int .i64 x.c])).run Try.prog w = .ok (.bool false) w := MI.neq_same x
              go_wp2
              go_quiet (fail)
              go_wp2
              go_roundw
              case rel => exact ⟨k + 1, by omega, by go_num, same_next HX.out.1 HX.out.2 HT.out, _, rfl⟩
              case measure => simp [intOf]; omega
            · have hq : ∀ w, (binOp .neq 68 (.agg #[.int .i64 x.op, .int .i64 x.a, .int .i64 x.b, .int .i64 x.c]) (.agg #[.int .i64 y.op, .int .i64 y.a, .int .i64 y.b, .int .i64 y.c])).run Try.prog w = .ok (.bool true) w := MI.neq_ne x y hxy
              go_wp2
              go_quiet (fail)
              go_wp2
              go_ret
              exact ⟨.no (same_ne HX.out.1 HX.out.2 hxy), m + nq, World.drewN_drewN _ _ _⟩
      · have hkn : k = n := by omega
        subst hkn
        go_wp2
        go_ret
        exact ⟨.yes (same_all HL.out.1 HL.out.2 HT.out), _, rfl⟩
  · have hne : ¬ xs = ys := fun e => hll (by rw [e])
    clear H1 H2
    generalize xs.length = n at *
    generalize ys.length = n' at *
    have HN : Hid (¬ xs = ys) := hne
    clear hne
    have hi : ¬ (n : Int) = (n' : Int) := by omega
    go_enter Try.func35, Try.ntmps35
    go_wp2
    go_ret
    exact ⟨.no HN.out, 0, rfl⟩
set_option maxHeartbeats 1000000 in
theorem slicesEqT_any (s s' : Value) (xs ys : List MT) (w : World) (hn : xs.length ≤ 1048576) (hn' : ys.length ≤ 1048576) (h : Rd w 4 s xs.length (xs.flatMap MT.cells)) (h' : Rd w 4 s' ys.length (ys.flatMap MT.cells)) :
    Calls Try.prog 24 #[s, s'] w fun e w' => SaysIff e (xs = ys) ∧ ∃ m, w' = w.drewN m := by
  have H1 : Hid (Rd w 4 s xs.length (xs.flatMap MT.cells)) := h
  have H2 : Hid (Rd w 4 s' ys.length (ys.flatMap MT.cells)) := h'
  obtain ⟨a1, c1, rfl⟩ := h.is_slice
  obtain ⟨a2, c2, rfl⟩ := h'.is_slice
  clear h h'
  by_cases hll : xs.length = ys.length
  · rw [← hll] at H2
    rw [← hll]
    clear hn'
    generalize hLL : xs.length = n at hn H1 H2
    have HL : Hid (xs.length = n ∧ ys.length = n) := ⟨hLL, hll ▸ hLL⟩
    clear hLL hll
    have hm : Try.prog.eqGuardType Try.prog.depth 51 = false := by kernel_rfl
    go_enter Try.func24, Try.ntmps24
    go_wp2
    go_loopw [13] (fun i wr => ∃ k : Nat, k ≤ n ∧ i = .int .i64 k ∧ Hid (∀ j, j < k → xs[j]? = ys[j]?) ∧ ∃ m, wr = w.drewN m) (fun i _ => n - (intOf i).toNat)
    case atStart => exact ⟨0, by omega, rfl, fun j hj => by omega, 0, rfl⟩
    case round =>
      obtain ⟨k, hk, rfl, HT, m, rfl⟩ := hrel
      by_cases hlt : k < n
      · obtain ⟨x, hx⟩ : ∃ x, xs[k]? = some x := ⟨_, List.getElem?_eq_getElem (by rw [HL.out.1]; exact hlt)⟩
        obtain ⟨y, hy⟩ : ∃ y, ys[k]? = some y := ⟨_, List.getElem?_eq_getElem (by rw [HL.out.2]; exact hlt)⟩
        rcases H1.out.2 with ⟨e0, _⟩ | ⟨g, o, c, e1, hc1⟩
        · omega
        · rcases H2.out.2 with ⟨e0, _⟩ | ⟨g', o', c', e2, hc2⟩
          · omega
          · simp only [Value.slice.injEq, true_and] at e1 e2
            obtain ⟨rfl, rfl⟩ := e1
            obtain ⟨rfl, rfl⟩ := e2
            have i0 := Rd.elem MT.cells_length hc1 k x hx 0 _ rfl
            have i1 := Rd.elem MT.cells_length hc1 k x hx 1 _ rfl
            have i2 := Rd.elem MT.cells_length hc1 k x hx 2 _ rfl
            have i3 := Rd.elem MT.cells_length hc1 k x hx 3 _ rfl
            have j0 := Rd.elem MT.cells_length hc2 k y hy 0 _ rfl
            have j1 := Rd.elem MT.cells_length hc2 k y hy 1 _ rfl
            have j2 := Rd.elem MT.cells_length hc2 k y hy 2 _ rfl
            have j3 := Rd.elem MT.cells_length hc2 k y hy 3 _ rfl
            rw [Nat.add_zero] at i0 j0
            have HX : Hid (xs[k]? = some x ∧ ys[k]? = some y) := ⟨hx, hy⟩
            clear hc1 hc2 hx hy
            by_cases hxy : x = y
            · subst hxy
              have hq : ∀ w, (binOp .neq 51 (.agg #[.int .i64 x.func, .int .i64 x.head, .int .i64 x.counter, .int .u32 x.init]) (.agg #[.int .i64 x.func, .int .i64 x.head, .int .i64 x.counter, .int .u32 x.init])).run Try.prog w = .ok (.bool false) w := MT.neq_same x
              go_wp2
              go_quiet (fail)
              go_wp2
              go_roundw
              case rel => exact ⟨k + 1, by omega, by go_num, same_next HX.out.1 HX.out.2 HT.out, _, rfl⟩
              case measure => simp [intOf]; omega
            · have hq : ∀ w, (binOp .neq 51 (.agg #[.int .i64 x.func, .int .i64 x.head, .int .i64 x.counter, .int .u32 x.init]) (.agg #[.int .i64 y.func, .int .i64 y.head, .int .i64 y.counter, .int .u32 y.init])).run Try.prog w = .ok (.bool true) w := MT.neq_ne x y hxy
              go_wp2
              go_quiet (fail)
              go_wp2
              go_ret
              exact ⟨.no (same_ne HX.out.1 HX.out.2 hxy), m + nq, World.drewN_drewN _ _ _⟩
      · have hkn : k = n := by omega
        subst hkn
        go_wp2
        go_ret
        exact ⟨.yes (same_all HL.out.1 HL.out.2 HT.out), _, rfl⟩
  · have hne : ¬ xs = ys := fun e => hll (by rw [e])
    clear H1 H2
    generalize xs.length = n at *
    generalize ys.length = n' at *
    have HN : Hid (¬ xs = ys) := hne
    clear hne
    have hi : ¬ (n : Int) = (n' : Int) := by omega
    go_enter Try.func24, Try.ntmps24
    go_wp2
    go_ret
    exact ⟨.no HN.out, 0, rfl⟩
set_option maxHeartbeats 1000000 in
theorem slicesEqC_any (s s' : Value) (xs ys : List MC) (w : World) (hn : xs.length ≤ 1048576) (hn' : ys.length ≤ 1048576) (h : Rd w 2 s xs.length (xs.flatMap MC.cells)) (h' : Rd w 2 s' ys.length (ys.flatMap MC.cells)) :
    Calls Try.prog 21 #[s, s'] w fun e w' => SaysIff e (xs = ys) ∧ ∃ m, w' = w.drewN m := by
  have H1 : Hid (Rd w 2 s xs.length (xs.flatMap MC.cells)) := h
  have H2 : Hid (Rd w 2 s' ys.length (ys.flatMap MC.cells)) := h'
  obtain ⟨a1, c1, rfl⟩ := h.is_slice
  obtain ⟨a2, c2, rfl⟩ := h'.is_slice
  clear h h'
  by_cases hll : xs.length = ys.length
  · rw [← hll] at H2
    rw [← hll]
    clear hn'
    generalize hLL : xs.length = n at hn H1 H2
    have HL : Hid (xs.length = n ∧ ys.length = n) := ⟨hLL, hll ▸ hLL⟩
    clear hLL hll
    have hm : Try.prog.eqGuardType Try.prog.depth 45 = false := by kernel_rfl
    go_enter Try.func21, Try.ntmps21
    go_wp2
    go_loopw [13] (fun i wr => ∃ k : Nat, k ≤ n ∧ i = .int .i64 k ∧ Hid (∀ j, j < k → xs[j]? = ys[j]?) ∧ ∃ m, wr = w.drewN m) (fun i _ => n - (intOf i).toNat)
    case atStart => exact ⟨0, by omega, rfl, fun j hj => by omega, 0, rfl⟩
    case round =>
      obtain ⟨k, hk, rfl, HT, m, rfl⟩ := hrel
      by_cases hlt : k < n
      · obtain ⟨x, hx⟩ : ∃ x, xs[k]? = some x := ⟨_, List.getElem?_eq_getElem (by rw [HL.out.1]; exact hlt)⟩
        obtain ⟨y, hy⟩ : ∃ y, ys[k]? = some y := ⟨_, List.getElem?_eq_getElem (by rw [HL.out.2]; exact hlt)⟩
        rcases H1.out.2 with ⟨e0, _⟩ | ⟨g, o, c, e1, hc1⟩
        · omega
        · rcases H2.out.2 with ⟨e0, _⟩ | ⟨g', o', c', e2, hc2⟩
          · omega
          · simp only [Value.slice.injEq, true_and] at e1 e2
            obtain ⟨rfl, rfl⟩ := e1
            obtain ⟨rfl, rfl⟩ := e2
            have i0 := Rd.elem MC.cells_length hc1 k x hx 0 _ rfl
            have i1 := Rd.elem MC.cells_length hc1 k x hx 1 _ rfl
            have j0 := Rd.elem MC.cells_length hc2 k y hy 0 _ rfl
            have j1 := Rd.elem MC.cells_length hc2 k y hy 1 _ rfl
            rw [Nat.add_zero] at i0 j0
            have HX : Hid (xs[k]? = some x ∧ ys[k]? = some y) := ⟨hx, hy⟩
            clear hc1 hc2 hx hy
            by_cases hxy : x = y
            · subst hxy
              have hq : ∀ w, (binOp .neq 45 (.agg #[.int .i64 x.type, .int .u32 x.word]) (.agg #[.int .i64 x.type, .int .u32 x.word])).run Try.prog w = .ok (.bool false) w := MC.neq_same x
              go_wp2
              go_quiet (fail)
              go_wp2
              go_roundw
              case rel => exact ⟨k + 1, by omega, by go_num, same_next HX.out.1 HX.out.2 HT.out, _, rfl⟩
              case measure => simp [intOf]; omega
            · have hq : ∀ w, (binOp .neq 45 (.agg #[.int .i64 x.type, .int .u32 x.word]) (.agg #[.int .i64 y.type, .int .u32 y.word])).run Try.prog w = .ok (.bool true) w := MC.neq_ne x y hxy
              go_wp2
              go_quiet (fail)
              go_wp2
              go_ret
              exact ⟨.no (same_ne HX.out.1 HX.out.2 hxy), m + nq, World.drewN_drewN _ _ _⟩
      · have hkn : k = n := by omega
        subst hkn
        go_wp2
        go_ret
        exact ⟨.yes (same_all HL.out.1 HL.out.2 HT.out), _, rfl⟩
  · have hne : ¬ xs = ys := fun e => hll (by rw [e])
    clear H1 H2
    generalize xs.length = n at *
    generalize ys.length = n' at *
    have HN : Hid (¬ xs = ys) := hne
    clear hne
    have hi : ¬ (n : Int) = (n' : Int) := by omega
    go_enter Try.func21, Try.ntmps21
    go_wp2
    go_ret
    exact ⟨.no HN.out, 0, rfl⟩
end Go.Proofs.Ytlhliibonpdpiaa
