/- Mark2: markValueS, markValueSS, markFrameS, markState: they write numbers into the state's own rows, and nothing else. -/
import Derived.Test.YtkpajiahpmdobaaGreatOwnRow
import Derived.Test.YtkpajiahpmdobaaGreatMark1
import Derived.Test.YtkpajiahpmdobaaGreatMSt5
namespace Go.Proofs.YtkpajiahpmdobaaGreat
open Go.ChangeShapes Go.WideShapes Go.ChangeAt Go.RowKit
set_option linter.unusedVariables false
set_option maxHeartbeats 2000000 in
set_option maxRecDepth 100000 in
theorem markValueS_any (W0 : World) (base : Nat) (s : Value) (cs : List MC) (k0 : Int) (w : World) (hn : cs.length ≤ 1048576) (h0 : 0 ≤ k0) (h1 : k0 ≤ 1152921504606846976) (h : W0.ownsRow base 102 2 s cs.length (cs.flatMap MC.cells)) (hs : Shaped W0 w) :
    Calls Tryz.prog 49 #[s, .int .i64 k0] w fun e w' => e = .returned (.int .i64 (k0 + 2 * (cs.length : Int))) ∧ Marks base W0.heap.size w w' := by
  have H : Hid (W0.ownsRow base 102 2 s cs.length (cs.flatMap MC.cells) ∧ Shaped W0 w) := ⟨h, hs⟩
  rcases own_row h with ⟨rfl, hz⟩ | ⟨g, c, rfl⟩
  · clear h hs
    rw [hz]
    go_enter Tryz.func49, Tryz.ntmps49
    go_wp2
    go_loopw [1, 5] (fun q i wr => q = .int .i64 k0 ∧ i = .int .i64 0 ∧ wr = w) (fun _ _ _ => 0)
    case atStart => exact ⟨rfl, rfl, rfl⟩
    case round =>
      obtain ⟨rfl, rfl, rfl⟩ := hrel
      go_wp2
      go_ret
      exact ⟨by simp, Marks.refl _ _ _⟩
  · clear h hs
    generalize hLL : cs.length = n at hn H ⊢
    have HL : Hid (cs.length = n) := hLL
    clear hLL
    go_enter Tryz.func49, Tryz.ntmps49
    go_wp2
    go_loopw [1, 5] (fun q i wr => ∃ k : Nat, k ≤ n ∧ q = .int .i64 (k0 + 2 * k) ∧ i = .int .i64 k ∧ Hid (Marks base W0.heap.size w wr)) (fun _ i _ => n - (intOf i).toNat)
    case atStart => exact ⟨0, by omega, by simp, rfl, Marks.refl _ _ _⟩
    case round =>
      obtain ⟨k, hk, rfl, rfl, HM⟩ := hrel
      by_cases hlt : k < n
      · obtain ⟨x, hx⟩ : ∃ x, cs[k]? = some x := ⟨_, List.getElem?_eq_getElem (by rw [HL.out]; exact hlt)⟩
        have f0 := flat_at MC.cells 2 MC.cells_length cs k 0 x hx (by omega)
        have f1 := flat_at MC.cells 2 MC.cells_length cs k 1 x hx (by omega)
        rw [Nat.add_zero] at f0
        obtain ⟨y0, c0, a0, z0, m0⟩ := shape_at H.out.1 (H.out.2.trans HM.out.shaped) f0
        have M1 := m0 base W0.heap.size (.int .i64 (k0 + 2 * k)) (Nat.le_refl _) (Nat.le_refl _) (.inr ⟨.i64, x.type, _, rfl, rfl⟩)
        obtain ⟨y1, c1, a1, z1, m1⟩ := shape_at H.out.1 ((H.out.2.trans HM.out.shaped).trans M1.shaped) f1
        have M2 := m1 base W0.heap.size (.int .u32 ((k0 + 2 * k + 1) % 4294967296)) (Nat.le_refl _) (Nat.le_refl _) (.inr ⟨.u32, x.word, _, rfl, rfl⟩)
        have HN : Hid (Marks base W0.heap.size w _) := (HM.out.trans M1).trans M2
        obtain ⟨d1, e1, _⟩ := shape_at H.out.1 (H.out.2.trans HM.out.shaped) f1
        clear a0 m0 a1 m1 M1 M2 f0 f1 hx
        go_wp2
        go_roundw
        case rel => exact ⟨k + 1, by omega, by go_num, by go_num, HN⟩
        case measure => simp [intOf]; omega
      · have hkn : k = n := by omega
        subst hkn
        go_wp2
        go_ret
        exact ⟨rfl, HM.out⟩
set_option maxHeartbeats 2000000 in
set_option maxRecDepth 100000 in
theorem markValueSS_any (W0 : World) (base : Nat) (s : Value) (rs : List (List MC)) (k0 : Int) (w : World) (hn : rs.length ≤ 1048576) (hr : ∀ r ∈ rs, r.length ≤ 1048576) (h0 : 0 ≤ k0) (h1 : k0 ≤ 281474976710656) (h : OwnVV W0 base s rs) (hs : Shaped W0 w) :
    Calls Tryz.prog 48 #[s, .int .i64 k0] w fun e w' => (∃ k1, e = .returned (.int .i64 k1) ∧ k0 ≤ k1 ∧ k1 ≤ k0 + 2097152 * (rs.length : Int)) ∧ Marks base W0.heap.size w w' := by
  obtain ⟨xs, hxs, hrow, hel⟩ := h
  have hxl : xs.length = rs.length := by rw [← hxs]; simp
  have H : Hid (W0.ownsRow base 34 1 s rs.length (xs.flatMap vCells) ∧ Shaped W0 w ∧ xs.map Prod.fst = rs ∧ (∀ x ∈ xs, W0.ownsRow base 102 2 x.2 x.1.length (x.1.flatMap MC.cells)) ∧ (∀ r ∈ rs, r.length ≤ 1048576) ∧ xs.length = rs.length) := ⟨hrow, hs, hxs, hel, hr, hxl⟩
  clear hs hxs hel hr hxl
  rcases own_row hrow with ⟨rfl, hz⟩ | ⟨g, c, rfl⟩
  · clear hrow
    go_enter Tryz.func48, Tryz.ntmps48
    go_wp2
    go_loopw [1, 5] (fun q i wr => q = .int .i64 k0 ∧ i = .int .i64 0 ∧ wr = w) (fun _ _ _ => 0)
    case atStart => exact ⟨rfl, rfl, rfl⟩
    case round =>
      obtain ⟨rfl, rfl, rfl⟩ := hrel
      go_wp2
      go_ret
      exact ⟨⟨k0, rfl, by omega, by omega⟩, Marks.refl _ _ _⟩
  · clear hrow
    generalize hLL : rs.length = n at hn H ⊢
    have HL : Hid (rs.length = n) := hLL
    clear hLL
    go_enter Tryz.func48, Tryz.ntmps48
    go_wp2
    go_loopw [1, 5] (fun q i wr => ∃ (k : Nat) (kk : Int), k ≤ n ∧ q = .int .i64 kk ∧ k0 ≤ kk ∧ kk ≤ k0 + 2097152 * k ∧ i = .int .i64 k ∧ Hid (Marks base W0.heap.size w wr)) (fun _ i _ => n - (intOf i).toNat)
    case atStart => exact ⟨0, k0, by omega, rfl, by omega, by omega, rfl, Marks.refl _ _ _⟩
    case round =>
      obtain ⟨k, kk, hk, rfl, q0, q1, rfl, HM⟩ := hrel
      by_cases hlt : k < n
      · obtain ⟨⟨r, v⟩, hx⟩ : ∃ x, xs[k]? = some x := ⟨_, List.getElem?_eq_getElem (by rw [H.out.2.2.2.2.2]; exact hlt)⟩
        have e1 := fst_at H.out.2.2.1 hx
        have hrl := H.out.2.2.2.2.1 _ (List.mem_of_getElem? e1)
        have hrr := H.out.2.2.2.1 _ (List.mem_of_getElem? hx)
        simp only [] at hrl hrr
        have f0 := flat_at vCells 1 vCells_length xs k 0 _ hx (by omega)
        rw [Nat.mul_one, Nat.add_zero] at f0
        obtain ⟨y0, c0, a0, z0, _⟩ := shape_at H.out.1 (H.out.2.1.trans HM.out.shaped) f0
        obtain ⟨av, cv, rfl⟩ := own_slice hrr
        obtain rfl := Alike.slice a0
        have HR : Hid (W0.ownsRow base 102 2 (.slice av r.length cv) r.length (r.flatMap MC.cells) ∧ r.length ≤ 1048576) := ⟨hrr, hrl⟩
        clear e1 hrr f0 hx a0
        go_wp2_with fail
        refine (markValueS_any W0 base (.slice av r.length cv) r kk _ HR.out.2 (by omega) (by omega) HR.out.1 (H.out.2.1.trans HM.out.shaped)).mono ?_
        rintro e u ⟨rfl, hm⟩
        have HN : Hid (Marks base W0.heap.size w u) := HM.out.trans hm
        clear hm c0 z0
        go_wp2
        go_roundw
        case rel => exact ⟨k + 1, kk + 2 * (r.length : Int), by omega, rfl, by omega, by omega, by go_num, HN⟩
        case measure => simp [intOf]; omega
      · have hkn : k = n := by omega
        subst hkn
        go_wp2
        go_ret
        exact ⟨⟨kk, rfl, by omega, by omega⟩, HM.out⟩
set_option maxHeartbeats 2000000 in
set_option maxRecDepth 100000 in
theorem markFrameS_any (W0 : World) (base : Nat) (s : Value) (rs : List MG) (k0 : Int) (w : World) (hn : rs.length ≤ 1048576) (hr : ∀ r ∈ rs, r.small) (h0 : 0 ≤ k0) (h1 : k0 ≤ 281474976710656) (h : OwnGs W0 base s rs) (hs : Shaped W0 w) :
    Calls Tryz.prog 50 #[s, .int .i64 k0] w fun e w' => (∃ k1, e = .returned (.int .i64 k1) ∧ k0 ≤ k1 ∧ k1 ≤ k0 + 2097155 * (rs.length : Int)) ∧ Marks base W0.heap.size w w' := by
  obtain ⟨xs, hxs, hrow, hel⟩ := h
  have hxl : xs.length = rs.length := by rw [← hxs]; simp
  have H : Hid (W0.ownsRow base 63 4 s rs.length (xs.flatMap gCells) ∧ Shaped W0 w ∧ xs.map Prod.fst = rs ∧ (∀ x ∈ xs, OwnG W0 base x.2 x.1) ∧ (∀ r ∈ rs, r.small) ∧ xs.length = rs.length) := ⟨hrow, hs, hxs, hel, hr, hxl⟩
  clear hs hxs hel hr hxl
  rcases own_row hrow with ⟨rfl, hz⟩ | ⟨g, c, rfl⟩
  · clear hrow
    go_enter Tryz.func50, Tryz.ntmps50
    go_wp2
    go_loopw [1, 5] (fun q i wr => q = .int .i64 k0 ∧ i = .int .i64 0 ∧ wr = w) (fun _ _ _ => 0)
    case atStart => exact ⟨rfl, rfl, rfl⟩
    case round =>
      obtain ⟨rfl, rfl, rfl⟩ := hrel
      go_wp2
      go_ret
      exact ⟨⟨k0, rfl, by omega, by omega⟩, Marks.refl _ _ _⟩
  · clear hrow
    generalize hLL : rs.length = n at hn H ⊢
    have HL : Hid (rs.length = n) := hLL
    clear hLL
    go_enter Tryz.func50, Tryz.ntmps50
    go_wp2
    go_loopw [1, 5] (fun q i wr => ∃ (k : Nat) (kk : Int), k ≤ n ∧ q = .int .i64 kk ∧ k0 ≤ kk ∧ kk ≤ k0 + 2097155 * k ∧ i = .int .i64 k ∧ Hid (Marks base W0.heap.size w wr)) (fun _ i _ => n - (intOf i).toNat)
    case atStart => exact ⟨0, k0, by omega, rfl, by omega, by omega, rfl, Marks.refl _ _ _⟩
    case round =>
      obtain ⟨k, kk, hk, rfl, q0, q1, rfl, HM⟩ := hrel
      by_cases hlt : k < n
      · obtain ⟨⟨r, v⟩, hx⟩ : ∃ x, xs[k]? = some x := ⟨_, List.getElem?_eq_getElem (by rw [H.out.2.2.2.2.2]; exact hlt)⟩
        have e1 := fst_at H.out.2.2.1 hx
        have hrl := H.out.2.2.2.2.1 _ (List.mem_of_getElem? e1)
        have hrr := H.out.2.2.2.1 _ (List.mem_of_getElem? hx)
        simp only [] at hrl hrr
        unfold MG.small at hrl
        have f0 := flat_at gCells 4 gCells_length xs k 0 _ hx (by omega)
        have f1 := flat_at gCells 4 gCells_length xs k 1 _ hx (by omega)
        have f2 := flat_at gCells 4 gCells_length xs k 2 _ hx (by omega)
        have f3 := flat_at gCells 4 gCells_length xs k 3 _ hx (by omega)
        rw [Nat.add_zero] at f0
        have S0 := H.out.2.1.trans HM.out.shaped
        obtain ⟨y0, c0, a0, z0, m0⟩ := shape_at H.out.1 S0 f0
        have M1 := m0 base W0.heap.size (.int .i64 kk) (Nat.le_refl _) (Nat.le_refl _) (.inr ⟨.i64, r.func, _, rfl, rfl⟩)
        obtain ⟨y1, c1, a1, z1, m1⟩ := shape_at H.out.1 (S0.trans M1.shaped) f1
        have M2 := m1 base W0.heap.size (.int .i64 (kk + 1)) (Nat.le_refl _) (Nat.le_refl _) (.inr ⟨.i64, r.at_, _, rfl, rfl⟩)
        obtain ⟨y2, c2, a2, z2, m2⟩ := shape_at H.out.1 ((S0.trans M1.shaped).trans M2.shaped) f2
        have M3 := m2 base W0.heap.size (.int .i64 (kk + 1 + 1)) (Nat.le_refl _) (Nat.le_refl _) (.inr ⟨.i64, r.base, _, rfl, rfl⟩)
        obtain ⟨y3, c3, a3, z3, _⟩ := shape_at H.out.1 (((S0.trans M1.shaped).trans M2.shaped).trans M3.shaped) f3
        obtain ⟨x1, b1, _⟩ := shape_at H.out.1 S0 f1
        obtain ⟨x2, b2, _⟩ := shape_at H.out.1 S0 f2
        obtain ⟨x3, b3, w3, _⟩ := shape_at H.out.1 S0 f3
        obtain ⟨av, cv, rfl⟩ := own_slice hrr
        obtain rfl := Alike.slice a3
        obtain rfl := Alike.slice w3
        have HA : Hid (Marks base W0.heap.size w (((wr.setCell ⟨g, k * 4, none⟩ (.int .i64 kk)).setCell ⟨g, k * 4 + 1, none⟩ (.int .i64 (kk + 1))).setCell ⟨g, k * 4 + 2, none⟩ (.int .i64 (kk + 1 + 1)))) := ((HM.out.trans M1).trans M2).trans M3
        have HR : Hid (OwnG W0 base (.slice av r.locals.length cv) r) := hrr
        clear e1 hrr f0 f1 f2 f3 hx a0 a1 a2 a3 m0 m1 m2 M1 M2 M3 S0
        go_wp2_with fail
        refine (markValueS_any W0 base (.slice av r.locals.length cv) r.locals (kk + 1 + 1 + 1) _ hrl (by omega) (by omega) HR.out (H.out.2.1.trans HA.out.shaped)).mono ?_
        rintro e u ⟨rfl, hm⟩
        have HN : Hid (Marks base W0.heap.size w u) := HA.out.trans hm
        clear hm c0 c1 c2 c3 z0 z1 z2 z3 b1 b2 b3
        go_wp2
        go_roundw
        case rel => exact ⟨k + 1, kk + 1 + 1 + 1 + 2 * (r.locals.length : Int), by omega, rfl, by omega, by omega, by go_num, HN⟩
        case measure => simp [intOf]; omega
      · have hkn : k = n := by omega
        subst hkn
        go_wp2
        go_ret
        exact ⟨⟨kk, rfl, by omega, by omega⟩, HM.out⟩
set_option maxHeartbeats 2000000 in
set_option maxRecDepth 100000 in
theorem markState_any (W0 : World) (base : Nat) (v : VS) (s : MS) (w : World) (hn : s.small) (h : OwnS W0 base v s) (hb : Below W0.heap.size W0 w) :
    Calls Tryz.prog 15 #[.agg #[.int .i64 s.trap, .bool s.done, .int .i64 s.cost, .int .i64 s.steps, v.c, v.k, v.f], .int .i64 1] w fun e w' => (∃ k1 : Int, e = .returned (.int .i64 k1) ∧ 0 ≤ k1) ∧ MarksG base W0.heap.size w w' := by
  have H : Hid (s.small ∧ OwnS W0 base v s) := ⟨hn, h⟩
  clear hn h
  have hA : (w.alloc (.cells #[.int .i64 s.trap, .bool s.done, .int .i64 s.cost, .int .i64 s.steps, v.c, v.k, v.f] 37)).ownsRow w.heap.size 37 7 (.slice (some ⟨w.heap.size, 0, none⟩) 1 1) 1 [.int .i64 s.trap, .bool s.done, .int .i64 s.cost, .int .i64 s.steps, v.c, v.k, v.f] := World.ownsRow_lit (base := w.heap.size) (e := 37) (size := 7) w #[.int .i64 s.trap, .bool s.done, .int .i64 s.cost, .int .i64 s.steps, v.c, v.k, v.f] 1 (Nat.le_refl _) (by unfold maxLen; omega) (by simp)
  have HS : Hid (Shaped W0 (w.alloc (.cells #[.int .i64 s.trap, .bool s.done, .int .i64 s.cost, .int .i64 s.steps, v.c, v.k, v.f] 37))) := (Shaped.of_below hb).trans (Shaped.of_below ((Below.refl _ _).alloc (Nat.le_refl _) _))
  have hWs := hb.size
  have HB : Hid (Below w.heap.size w (w.alloc (.cells #[.int .i64 s.trap, .bool s.done, .int .i64 s.cost, .int .i64 s.steps, v.c, v.k, v.f] 37))) := (Below.refl _ _).alloc (Nat.le_refl _) _
  go_enter Tryz.func15, Tryz.ntmps15
  go_wp2_with fail
  generalize w.alloc (.cells #[.int .i64 s.trap, .bool s.done, .int .i64 s.cost, .int .i64 s.steps, v.c, v.k, v.f] 37) = W1 at hA HS HB ⊢
  refine (markValueSS_any W0 base v.c s.cells 1 _ H.out.1.cells H.out.1.cell (by omega) (by omega) H.out.2.cells HS.out).mono ?_
  rintro e u1 ⟨⟨k1, rfl, k10, k11⟩, m1⟩
  have HM1 : Hid (Marks base W0.heap.size W1 u1) := m1
  have hl1 := H.out.1.cells
  have hl2 := H.out.1.stack
  have hl3 := H.out.1.frames
  have keep : ∀ {u : World}, Marks base W0.heap.size W1 u → ∀ (i : Nat) x, W1.cell? ⟨w.heap.size, i, none⟩ = some x → u.cell? ⟨w.heap.size, i, none⟩ = some x := fun hm i x hx => by
    have := hm.out w.heap.size (.inr hWs)
    unfold World.cell? at *
    rw [this]
    exact hx
  have HK : Hid (∀ {u : World}, Marks base W0.heap.size W1 u → u.cell? ⟨w.heap.size, 4, none⟩ = some v.c ∧ u.cell? ⟨w.heap.size, 5, none⟩ = some v.k ∧ u.cell? ⟨w.heap.size, 6, none⟩ = some v.f) := fun hm => ⟨keep hm 4 _ (hA.cellAt 4 (by omega)), keep hm 5 _ (hA.cellAt 5 (by omega)), keep hm 6 _ (hA.cellAt 6 (by omega))⟩
  clear m1 keep hA
  obtain ⟨p4, p5, p6⟩ := HK.out HM1.out
  go_wp2_with fail
  refine (markValueS_any W0 base v.k s.stack k1 _ hl2 (by omega) (by omega) H.out.2.stack (HS.out.trans HM1.out.shaped)).mono ?_
  rintro e u2 ⟨rfl, m2⟩
  have HM2 : Hid (Marks base W0.heap.size W1 u2) := HM1.out.trans m2
  clear m2 p4 p5 p6
  obtain ⟨p4, p5, p6⟩ := HK.out HM2.out
  go_wp2_with fail
  refine (markFrameS_any W0 base v.f s.frames (k1 + 2 * (s.stack.length : Int)) _ hl3 H.out.1.frame (by omega) (by omega) H.out.2.frames (HS.out.trans HM2.out.shaped)).mono ?_
  rintro e u3 ⟨⟨k3, rfl, k30, k31⟩, m3⟩
  have HM3 : Hid (Marks base W0.heap.size W1 u3) := HM2.out.trans m3
  clear m3 p4 p5 p6
  go_wp2
  go_ret
  exact ⟨⟨k3, rfl, by omega⟩, MarksG.of HB.out (Nat.le_refl _) HM3.out⟩
end Go.Proofs.YtkpajiahpmdobaaGreat
