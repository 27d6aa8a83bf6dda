/- Mark5: markUint32S, markMemory of an argument. -/
import Derived.Test.YtkpajiahpmdobaaGreatMark3
import Derived.Test.YtkpajiahpmdobaaGreatMMem2
namespace Go.Proofs.YtkpajiahpmdobaaGreat
open Go.ChangeShapes Go.WideShapes Go.ChangeAt Go.RowKit
set_option linter.unusedVariables false
set_option maxHeartbeats 2000000 in
set_option maxRecDepth 100000 in
theorem markUint32S_any (W0 : World) (base : Nat) (s : Value) (cs : List Int) (k0 : Int) (w : World) (hn : cs.length ≤ 1048576) (h0 : 0 ≤ k0) (h1 : k0 ≤ 1152921504606846976) (h : W0.ownsRow base 99 1 s cs.length (cs.flatMap wCell)) (hs : Shaped W0 w) :
    Calls Tryz.prog 47 #[s, .int .i64 k0] w fun e w' => e = .returned (.int .i64 (k0 + (cs.length : Int))) ∧ Marks base W0.heap.size w w' := by
  have H : Hid (W0.ownsRow base 99 1 s cs.length (cs.flatMap wCell) ∧ Shaped W0 w) := ⟨h, hs⟩
  rcases own_row h with ⟨rfl, hz⟩ | ⟨g, c, rfl⟩
  · clear h hs
    rw [hz]
    go_enter Tryz.func47, Tryz.ntmps47
    go_wp2
    go_loopw [1, 5] (fun q i wr => q = .int .i64 k0 ∧ i = .int .i64 0 ∧ wr = w) (fun _ _ _ => 0)
    case atStart => exact ⟨rfl, rfl, rfl⟩
    case round =>
      obtain ⟨rfl, rfl, rfl⟩ := hrel
      go_wp2
      go_ret
      exact ⟨by simp, Marks.refl _ _ _⟩
  · clear h hs
    generalize hLL : cs.length = n at hn H ⊢
    have HL : Hid (cs.length = n) := hLL
    clear hLL
    go_enter Tryz.func47, Tryz.ntmps47
    go_wp2
    go_loopw [1, 5] (fun q i wr => ∃ k : Nat, k ≤ n ∧ q = .int .i64 (k0 + k) ∧ i = .int .i64 k ∧ Hid (Marks base W0.heap.size w wr)) (fun _ i _ => n - (intOf i).toNat)
    case atStart => exact ⟨0, by omega, by simp, rfl, Marks.refl _ _ _⟩
    case round =>
      obtain ⟨k, hk, rfl, rfl, HM⟩ := hrel
      by_cases hlt : k < n
      · obtain ⟨x, hx⟩ : ∃ x, cs[k]? = some x := ⟨_, List.getElem?_eq_getElem (by rw [HL.out]; exact hlt)⟩
        have S0 := H.out.2.trans HM.out.shaped
        have f0 := flat_at wCell 1 wCell_length cs k 0 x hx (by omega)
        rw [Nat.mul_one, Nat.add_zero] at f0
        obtain ⟨y0, c0, a0, z0, m0⟩ := shape_at H.out.1 (S0) f0
        have M0 := m0 base W0.heap.size (.int .u32 ((k0 + k) % 4294967296)) (Nat.le_refl _) (Nat.le_refl _) (.inr ⟨.u32, x, _, rfl, rfl⟩)
        have HN : Hid (Marks base W0.heap.size w _) := (HM.out).trans M0
        clear a0 m0 M0 f0 hx S0
        go_wp2
        go_roundw
        case rel => exact ⟨k + 1, by omega, by go_num, by go_num, HN⟩
        case measure => simp [intOf]; omega
      · have hkn : k = n := by omega
        subst hkn
        go_wp2
        go_ret
        exact ⟨rfl, HM.out⟩
set_option maxHeartbeats 2000000 in
set_option maxRecDepth 100000 in
theorem markMemArg_any (W0 : World) (base : Nat) (v : VM) (m : MM) (k0 : Int) (w : World) (hn : m.small) (h0 : 0 ≤ k0) (h1 : k0 ≤ 281474976710656) (h : OwnM W0 base v m) (hs : Shaped W0 w) :
    Calls Tryz.prog 14 #[.agg #[v.i, v.o, v.k], .int .i64 k0] w fun e w' => (∃ k1 : Int, e = .returned (.int .i64 k1) ∧ 0 ≤ k1) ∧ MarksG base W0.heap.size w w' := by
  have H : Hid (m.small ∧ OwnM W0 base v m) := ⟨hn, h⟩
  clear hn h
  have hA : (w.alloc (.cells #[v.i, v.o, v.k] 45)).ownsRow w.heap.size 45 3 (.slice (some ⟨w.heap.size, 0, none⟩) 1 1) 1 [v.i, v.o, v.k] := World.ownsRow_lit (base := w.heap.size) (e := 45) (size := 3) w #[v.i, v.o, v.k] 1 (Nat.le_refl _) (by unfold maxLen; omega) (by simp)
  have HS : Hid (Shaped W0 (w.alloc (.cells #[v.i, v.o, v.k] 45))) := hs.trans (Shaped.of_below ((Below.refl _ _).alloc (Nat.le_refl _) _))
  have hWs := hs.size
  have HB : Hid (Below w.heap.size w (w.alloc (.cells #[v.i, v.o, v.k] 45))) := (Below.refl _ _).alloc (Nat.le_refl _) _
  go_enter Tryz.func14, Tryz.ntmps14
  go_wp2_with fail
  generalize w.alloc (.cells #[v.i, v.o, v.k] 45) = W1 at hA HS HB ⊢
  have hl1 := H.out.1.ins
  have hl2 := H.out.1.outs
  have hl3 := H.out.1.keeps
  refine (markUint32S_any W0 base v.i m.ins k0 _ hl1 (by omega) (by omega) H.out.2.ins HS.out).mono ?_
  rintro e u1 ⟨rfl, m1⟩
  have HM1 : Hid (Marks base W0.heap.size W1 u1) := m1
  have keep : ∀ {u : World}, Marks base W0.heap.size W1 u → ∀ (i : Nat) x, W1.cell? ⟨w.heap.size, i, none⟩ = some x → u.cell? ⟨w.heap.size, i, none⟩ = some x := fun hm i x hx => by
    have := hm.out w.heap.size (.inr hWs)
    unfold World.cell? at *
    rw [this]
    exact hx
  have HK : Hid (∀ {u : World}, Marks base W0.heap.size W1 u → u.cell? ⟨w.heap.size, 0, none⟩ = some v.i ∧ u.cell? ⟨w.heap.size, 1, none⟩ = some v.o ∧ u.cell? ⟨w.heap.size, 2, none⟩ = some v.k) := fun hm => ⟨keep hm 0 _ (hA.cellAt 0 (by omega)), keep hm 1 _ (hA.cellAt 1 (by omega)), keep hm 2 _ (hA.cellAt 2 (by omega))⟩
  clear m1 keep hA
  obtain ⟨p0, p1, p2⟩ := HK.out HM1.out
  go_wp2_with fail
  refine (markUint32S_any W0 base v.o m.outs (k0 + (m.ins.length : Int)) _ hl2 (by omega) (by omega) H.out.2.outs (HS.out.trans HM1.out.shaped)).mono ?_
  rintro e u2 ⟨rfl, m2⟩
  have HM2 : Hid (Marks base W0.heap.size W1 u2) := HM1.out.trans m2
  clear m2 p0 p1 p2
  obtain ⟨p0, p1, p2⟩ := HK.out HM2.out
  go_wp2_with fail
  refine (markUint32S_any W0 base v.k m.keeps (k0 + (m.ins.length : Int) + (m.outs.length : Int)) _ hl3 (by omega) (by omega) H.out.2.keeps (HS.out.trans HM2.out.shaped)).mono ?_
  rintro e u3 ⟨rfl, m3⟩
  have HM3 : Hid (Marks base W0.heap.size W1 u3) := HM2.out.trans m3
  clear m3 p0 p1 p2
  go_wp2
  go_ret
  exact ⟨⟨_, rfl, by omega⟩, MarksG.of HB.out (Nat.le_refl _) HM3.out⟩
end Go.Proofs.YtkpajiahpmdobaaGreat
