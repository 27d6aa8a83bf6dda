/- Val3: words of types: spec.l4Words, impl.areValues. -/
import Derived.Test.YtkpajiahpmdobaaGreatVal1
import Derived.Test.YtkpajiahpmdobaaGreatMMem2
namespace Go.Proofs.YtkpajiahpmdobaaGreat
open Go.ChangeShapes Go.WideShapes Go.ChangeAt Go.RowKit
set_option linter.unusedVariables false
/-- Words of these types: as many, and bools are 0 or 1. -/
def WordsOk (ws ts : List Int) : Prop := ws.length = ts.length ∧ ∀ j, j < ws.length → ∀ x, ws[j]? = some x → ts[j]? = some 1 → x ≤ 1
set_option maxHeartbeats 2000000 in
set_option maxRecDepth 100000 in
theorem l4Words_any (s t : Value) (ws ts : List Int) (w : World) (hn : ws.length ≤ 1048576) (hm : ts.length ≤ 1048576) (h : Rd w 1 s ws.length (ws.flatMap wCell)) (h' : Rd w 1 t ts.length (ts.flatMap intCell)) :
    Calls Tryz.prog 57 #[s, t] w fun e w' => SaysIff e (WordsOk ws ts) ∧ w' = w := by
  have H1 : Hid (Rd w 1 s ws.length (ws.flatMap wCell)) := h
  have H2 : Hid (Rd w 1 t ts.length (ts.flatMap intCell)) := h'
  obtain ⟨a1, c1, rfl⟩ := h.is_slice
  obtain ⟨a2, c2, rfl⟩ := h'.is_slice
  clear h h'
  generalize hLL : ws.length = n at hn H1
  generalize hMM : ts.length = m at hm H2
  have HL : Hid (ws.length = n) := hLL
  have HM : Hid (ts.length = m) := hMM
  clear hLL hMM
  by_cases q0 : n = m
  · subst q0
    go_enter Tryz.func57, Tryz.ntmps57
    go_wp2
    go_loopw [5] (fun i wr => ∃ k : Nat, k ≤ n ∧ i = .int .i64 k ∧ Hid (∀ j, j < k → ∀ x, ws[j]? = some x → ts[j]? = some 1 → x ≤ 1) ∧ wr = w) (fun i _ => n - (intOf i).toNat)
    case atStart => exact ⟨0, by omega, rfl, fun j hj => by omega, rfl⟩
    case round =>
      obtain ⟨k, hk, rfl, HT, rfl⟩ := hrel
      by_cases hlt : k < n
      · obtain ⟨x, hx⟩ : ∃ x, ws[k]? = some x := ⟨_, List.getElem?_eq_getElem (by rw [HL.out]; exact hlt)⟩
        obtain ⟨t, ht⟩ : ∃ t, ts[k]? = some t := ⟨_, List.getElem?_eq_getElem (by rw [HM.out]; exact hlt)⟩
        rcases H1.out.2 with ⟨e0, _⟩ | ⟨g, o, c, e1, hc1⟩
        · omega
        rcases H2.out.2 with ⟨e0, _⟩ | ⟨g', o', c', e2, hc2⟩
        · omega
        simp only [Value.slice.injEq, true_and] at e1 e2
        obtain ⟨rfl, rfl⟩ := e1
        obtain ⟨rfl, rfl⟩ := e2
        have i0 := Rd.elem wCell_length hc1 k x hx 0 _ rfl
        have j0 := Rd.elem intCell_length hc2 k t ht 0 _ rfl
        rw [Nat.mul_one, Nat.add_zero] at i0 j0
        have HX : Hid (ws[k]? = some x ∧ ts[k]? = some t) := ⟨hx, ht⟩
        clear hc1 hc2 hx ht
        have next : (t = 1 → x ≤ 1) → ∀ j, j < k + 1 → ∀ x, ws[j]? = some x → ts[j]? = some 1 → x ≤ 1 := fun hh j hj y hy hz => by
          by_cases e : j = k
          · subst e
            rw [HX.out.1] at hy
            rw [HX.out.2] at hz
            obtain rfl := Option.some.inj hy
            exact hh (Option.some.inj hz)
          · exact HT.out j (by omega) y hy hz
        have HN : Hid (t = 1 → ¬ x ≤ 1 → ¬ WordsOk ws ts) := fun h1 h2 e => h2 (e.2 k (by rw [HL.out]; exact hlt) x HX.out.1 (by rw [HX.out.2, h1]))
        by_cases q1 : t = 1
        · subst q1
          by_cases q2 : 1 < x
          · clear next
            go_wp2
            go_ret
            exact ⟨.no (HN.out (by trivial) (by omega)), rfl⟩
          · have NX : Hid _ := next (fun _ => by omega)
            clear next
            go_wp2
            go_roundw
            case rel => exact ⟨k + 1, by omega, by go_num, NX, by trivial⟩
            case measure => simp [intOf]; omega
        · have q1' : (t == 1) = false := by simpa using q1
          have NX : Hid _ := next (fun e => absurd e q1)
          clear next q1
          go_wp2
          go_roundw
          case rel => exact ⟨k + 1, by omega, by go_num, NX, by trivial⟩
          case measure => simp [intOf]; omega
      · have hkn : n = k := by omega
        subst hkn
        have HY : Hid (WordsOk ws ts) := ⟨by rw [HL.out, HM.out], by rw [HL.out]; exact HT.out⟩
        go_wp2
        go_ret
        exact ⟨.yes HY.out, rfl⟩
  · have HN : Hid (¬ WordsOk ws ts) := fun e => q0 (by have := e.1; rw [HL.out, HM.out] at this; exact this)
    have q0' : ((n : Int) == (m : Int)) = false := by simp; omega
    clear H1 H2
    go_enter Tryz.func57, Tryz.ntmps57
    go_wp2
    go_ret
    exact ⟨.no HN.out, rfl⟩
/-- Values of types. -/
def ValuesOk (ws ts : List Int) : Prop := ∀ j, j < ws.length → ∀ x, ws[j]? = some x → ∀ t, ts[j]? = some t → ConstOk ⟨t, x⟩
set_option maxHeartbeats 2000000 in
set_option maxRecDepth 100000 in
theorem areValues_any (t s : Value) (ws ts : List Int) (w : World) (hn : ws.length ≤ 1048576) (hw : ∀ z ∈ ws, 0 ≤ z) (hm : ts.length = ws.length) (h : Rd w 1 s ws.length (ws.flatMap wCell)) (h' : Rd w 1 t ts.length (ts.flatMap intCell)) :
    Calls Tryz.prog 64 #[t, s] w fun e w' => SaysIff e (ValuesOk ws ts) ∧ Below w.heap.size w w' := by
  rw [hm] at h'
  have H1 : Hid (Rd w 1 s ws.length (ws.flatMap wCell)) := h
  have H2 : Hid (Rd w 1 t ws.length (ts.flatMap intCell)) := h'
  have HZ : Hid (∀ z ∈ ws, 0 ≤ z) := hw
  clear hw
  obtain ⟨a1, c1, rfl⟩ := h.is_slice
  obtain ⟨a2, c2, rfl⟩ := h'.is_slice
  clear h h'
  generalize hLL : ws.length = n at hn hm H1 H2
  have HL : Hid (ws.length = n) := hLL
  have HM : Hid (ts.length = n) := hm
  clear hLL hm
  go_enter Tryz.func64, Tryz.ntmps64
  go_wp2
  go_loopw [9] (fun i wr => ∃ k : Nat, k ≤ n ∧ i = .int .i64 k ∧ Hid (∀ j, j < k → ∀ x, ws[j]? = some x → ∀ t, ts[j]? = some t → ConstOk ⟨t, x⟩) ∧ Hid (Below w.heap.size w wr)) (fun i _ => n - (intOf i).toNat)
  case atStart => exact ⟨0, by omega, rfl, fun j hj => by omega, Below.refl _ _⟩
  case round =>
    obtain ⟨k, hk, rfl, HT, HW⟩ := hrel
    by_cases hlt : k < n
    · obtain ⟨x, hx⟩ : ∃ x, ws[k]? = some x := ⟨_, List.getElem?_eq_getElem (by rw [HL.out]; exact hlt)⟩
      obtain ⟨t, ht⟩ : ∃ t, ts[k]? = some t := ⟨_, List.getElem?_eq_getElem (by rw [HM.out]; exact hlt)⟩
      rcases H1.out.2 with ⟨e0, _⟩ | ⟨g, o, c, e1, hc1⟩
      · omega
      rcases H2.out.2 with ⟨e0, _⟩ | ⟨g', o', c', e2, hc2⟩
      · omega
      simp only [Value.slice.injEq, true_and] at e1 e2
      obtain ⟨rfl, rfl⟩ := e1
      obtain ⟨rfl, rfl⟩ := e2
      have i0 := Rd.elem wCell_length hc1 k x hx 0 _ rfl
      have j0 := Rd.elem intCell_length hc2 k t ht 0 _ rfl
      rw [Nat.mul_one, Nat.add_zero] at i0 j0
      rw [← HW.out.cell (block_lt_of_cell i0)] at i0
      rw [← HW.out.cell (block_lt_of_cell j0)] at j0
      have HX : Hid (ws[k]? = some x ∧ ts[k]? = some t) := ⟨hx, ht⟩
      clear hc1 hc2 hx ht
      go_wp2_with fail
      refine (isValue_any t x _ (HZ.out x (List.mem_of_getElem? HX.out.1))).mono ?_
      rintro e u ⟨⟨b1, rfl, hb1⟩, blu⟩
      have HW3 : Hid (Below w.heap.size w u) := below_on HW.out (Nat.le_refl _) blu
      clear i0 j0 blu
      cases b1
      · have HN : Hid (¬ ValuesOk ws ts) := fun e => absurd (hb1.2 (e k (by rw [HL.out]; exact hlt) x HX.out.1 t HX.out.2)) Bool.false_ne_true
        clear hb1
        go_wp2
        go_ret
        exact ⟨.no HN.out, HW3.out⟩
      · have NX : Hid (∀ j, j < k + 1 → ∀ x, ws[j]? = some x → ∀ t, ts[j]? = some t → ConstOk ⟨t, x⟩) := fun j hj y hy t' ht' => by
          by_cases e : j = k
          · subst e
            rw [HX.out.1] at hy
            rw [HX.out.2] at ht'
            obtain rfl := Option.some.inj hy
            obtain rfl := Option.some.inj ht'
            exact hb1.1 rfl
          · exact HT.out j (by omega) y hy t' ht'
        clear hb1
        go_wp2
        go_roundw
        case rel => exact ⟨k + 1, by omega, by go_num, NX, HW3⟩
        case measure => simp [intOf]; omega
    · have hkn : n = k := by omega
      subst hkn
      have HY : Hid (ValuesOk ws ts) := by show ValuesOk ws ts; unfold ValuesOk; rw [HL.out]; exact HT.out
      go_wp2
      go_ret
      exact ⟨.yes HY.out, HW.out⟩
end Go.Proofs.YtkpajiahpmdobaaGreat
