import Derived.Test.YtnemieeeappgnaaGreatDoorDc24
namespace Go.Proofs.YtnemieeeappgnaaGreatDoor
open Go.ChangeShapes Go.WideShapes Go.ChangeAt Go.RowKit
set_option linter.unusedVariables false
/-- A mask that may choose among cells. -/
structure MaskOk (p : MP) (a b c : Int) : Prop where
  low : 0 ≤ c
  high : c < 256
  mask : bits .and .i64 c (c + 1) = 0
  there : ¬ cellOf p a b = 0
  one : ∀ j : Nat, (j : Int) ≤ c → cellOf p a (b + j) = cellOf p a b
theorem cellOf_ne {p : MP} {r c : Int} (hs : ∀ l ∈ p.regions, l.length ≤ 1048576) (h : ¬ cellOf p r c = 0) : 0 ≤ c ∧ c < 1048576 := by
  unfold cellOf at h
  split at h
  · exact absurd rfl h
  · rename_i hq
    refine ⟨by omega, ?_⟩
    by_cases hr : r.toNat < p.regions.length
    · have hm := hs _ (List.getElem_mem hr)
      have e : p.regions.getD r.toNat [] = p.regions[r.toNat] := by rw [List.getD_eq_getElem?_getD, List.getElem?_eq_getElem hr]; rfl
      rw [e] at h
      by_cases hc : c.toNat < p.regions[r.toNat].length
      · omega
      · exact absurd (by rw [List.getD_eq_getElem?_getD, List.getElem?_eq_none (by omega)]; rfl) h
    · have e : p.regions.getD r.toNat [] = [] := by rw [List.getD_eq_getElem?_getD, List.getElem?_eq_none (by omega)]; rfl
      rw [e] at h
      exact absurd rfl h
theorem W64_of {z : Int} (h0 : -9223372036854775808 ≤ z) (h1 : z ≤ 9223372036854775807) : W64 z := by simp [W64, Lit.wf, IntKind.min, IntKind.max, IntKind.signed, IntKind.bits]; omega
theorem W64_in {z : Int} (h : W64 z) : -9223372036854775808 ≤ z ∧ z ≤ 9223372036854775807 := by simpa [W64, Lit.wf, IntKind.min, IntKind.max, IntKind.signed, IntKind.bits] using h
set_option maxHeartbeats 2000000 in
set_option maxRecDepth 100000 in
theorem l3Mask_any (v : VP) (p : MP) (op a b c : Int) (w : World) (hs : p.small) (h3 : p.regions.length = 3) (ha : W64 a) (hb : W64 b) (hc : W64 c) (h : RdP w v p) :
    Calls Tryz.prog 48 #[.agg #[v.r, v.k, v.f, v.t], .agg #[.int .i64 op, .int .i64 a, .int .i64 b, .int .i64 c]] w fun e w' => SaysIff e (MaskOk p a b c) ∧ Below w.heap.size w w' := by
  have HB : Hid (Below w.heap.size w ((w.alloc (.cells #[v.r, v.k, v.f, v.t] 28)).alloc (.cells #[.int .i64 op, .int .i64 a, .int .i64 b, .int .i64 c] 73))) := below_on (below_alloc _ _) (Nat.le_refl _) (below_alloc _ _)
  have HP : Hid (At4 ((w.alloc (.cells #[v.r, v.k, v.f, v.t] 28)).alloc (.cells #[.int .i64 op, .int .i64 a, .int .i64 b, .int .i64 c] 73)) w.heap.size v.r v.k v.f v.t) := (At4.new w _ _ _ _ _).alloc _
  have HX : Hid (At4 ((w.alloc (.cells #[v.r, v.k, v.f, v.t] 28)).alloc (.cells #[.int .i64 op, .int .i64 a, .int .i64 b, .int .i64 c] 73)) (w.heap.size + 1) (.int .i64 op) (.int .i64 a) (.int .i64 b) (.int .i64 c)) := by
    have := At4.new (w.alloc (.cells #[v.r, v.k, v.f, v.t] 28)) (.int .i64 op) (.int .i64 a) (.int .i64 b) (.int .i64 c) 73
    simpa [Hid] using this
  have H : Hid (p.small ∧ p.regions.length = 3 ∧ W64 a ∧ W64 b ∧ RdP w v p) := ⟨hs, h3, ha, hb, h⟩
  obtain ⟨c0, c1⟩ := W64_in hc
  clear hs h3 ha hb h hc
  by_cases q0 : c < 0
  · have HN : Hid (¬ MaskOk p a b c) := fun e => absurd e.low (by omega)
    clear H HP HX
    go_enter Tryz.func48, Tryz.ntmps48
    go_wp2
    go_ret
    exact ⟨.no HN.out, HB.out⟩
  by_cases q1 : 256 ≤ c
  · have HN : Hid (¬ MaskOk p a b c) := fun e => absurd e.high (by omega)
    clear H HP HX
    go_enter Tryz.func48, Tryz.ntmps48
    go_wp2
    go_ret
    exact ⟨.no HN.out, HB.out⟩
  obtain ⟨c, rfl⟩ := Int.eq_ofNat_of_zero_le (show 0 ≤ c by omega)
  have hcn : c < 256 := by omega
  clear c0 c1 q0 q1
  have q0 : ¬ (c : Int) < 0 := by omega
  have q1 : ¬ (256 : Int) ≤ (c : Int) := by omega
  by_cases q2 : bits .and .i64 (c : Int) ((c : Int) + 1) = 0
  · have HM : Hid (bits .and .i64 (c : Int) ((c : Int) + 1) = 0) := q2
    go_enter Tryz.func48, Tryz.ntmps48
    go_wp2_with fail
    clear q2 q0 q1
    refine (l3Cell_any v p a b _ H.out.1 H.out.2.1 H.out.2.2.1 H.out.2.2.2.1 (H.out.2.2.2.2.keep HB.out (Nat.le_refl _))).mono ?_
    rintro e u0 ⟨rfl, bl0⟩
    have HB1 : Hid (Below w.heap.size w u0 ∧ At4 u0 w.heap.size v.r v.k v.f v.t ∧ At4 u0 (w.heap.size + 1) (.int .i64 op) (.int .i64 a) (.int .i64 b) (.int .i64 (c : Int))) := ⟨below_on HB.out (Nat.le_refl _) bl0, HP.out.keep bl0, HX.out.keep bl0⟩
    clear bl0 HB HP HX
    generalize hT : cellOf p a b = T
    have HT : Hid (cellOf p a b = T) := hT
    clear hT
    go_wp2
    go_loopw [6] (fun i wr => ∃ k : Nat, k ≤ c + 1 ∧ i = .int .i64 k ∧ Hid ((0 < k → ¬ T = 0) ∧ ∀ j : Nat, j < k → cellOf p a (b + j) = T) ∧ Hid (Below w.heap.size w wr ∧ At4 wr w.heap.size v.r v.k v.f v.t ∧ At4 wr (w.heap.size + 1) (.int .i64 op) (.int .i64 a) (.int .i64 b) (.int .i64 (c : Int)))) (fun i _ => c + 1 - (intOf i).toNat)
    case atStart => exact ⟨0, by omega, rfl, ⟨fun h => by omega, fun j hj => by omega⟩, HB1⟩
    case round =>
      clear HB1
      obtain ⟨k, hk, rfl, HI, HW⟩ := hrel
      obtain ⟨p0, p1, p2, p3⟩ := HW.out.2.1
      obtain ⟨i0, i1, i2, i3⟩ := HW.out.2.2
      by_cases hlt : k < c + 1
      · have hlt' : (k : Int) ≤ (c : Int) := by omega
        by_cases q3 : T = 0
        · have q3' : (T == 0) = true := by simpa using q3
          have HN : Hid (¬ MaskOk p a b c) := fun e => e.there (HT.out.trans q3)
          clear q3
          go_wp2
          go_ret
          exact ⟨.no HN.out, HW.out.1⟩
        · have q3' : (T == 0) = false := by simpa using q3
          have hbb := cellOf_ne H.out.1.region (by rw [HT.out]; exact q3)
          obtain ⟨b0, b1⟩ := hbb
          have HQ3 : Hid (¬ T = 0) := q3
          clear q3
          go_wp2_with fail
          refine (l3Cell_any v p a (b + k) _ H.out.1 H.out.2.1 H.out.2.2.1 (W64_of (by omega) (by omega)) (H.out.2.2.2.2.keep HW.out.1 (Nat.le_refl _))).mono ?_
          rintro e u1 ⟨rfl, bl1⟩
          have HW2 : Hid (Below w.heap.size w u1 ∧ At4 u1 w.heap.size v.r v.k v.f v.t ∧ At4 u1 (w.heap.size + 1) (.int .i64 op) (.int .i64 a) (.int .i64 b) (.int .i64 (c : Int))) := ⟨below_on HW.out.1 (Nat.le_refl _) bl1, HW.out.2.1.keep bl1, HW.out.2.2.keep bl1⟩
          clear bl1 HW p0 p1 p2 p3 i0 i1 i2 i3
          by_cases q4 : cellOf p a (b + k) = T
          · rw [q4]
            have HI2 : Hid ((0 < k + 1 → ¬ T = 0) ∧ ∀ j : Nat, j < k + 1 → cellOf p a (b + j) = T) := ⟨fun _ => HQ3.out, fun j hj => by
              by_cases e : j = k
              · rw [e]; exact q4
              · exact HI.out.2 j (by omega)⟩
            clear q4
            go_wp2
            go_roundw
            case rel => exact ⟨k + 1, by omega, by go_num, HI2, HW2⟩
            case measure => simp [intOf]; omega
          · have HN : Hid (¬ MaskOk p a b c) := fun e => q4 ((e.one k hlt').trans HT.out)
            have q4' : (cellOf p a (b + k) == T) = false := by simpa using q4
            have q4'' : (cellOf p a (b + k) != T) = true := by simpa using q4
            go_wp2
            go_ret
            exact ⟨.no HN.out, HW2.out.1⟩
      · have hkn : k = c + 1 := by omega
        subst hkn
        have HY : Hid (MaskOk p a b c) := ⟨by omega, by omega, HM.out, by rw [HT.out]; exact HI.out.1 (by omega), fun j hj => by rw [HT.out]; exact HI.out.2 j (by omega)⟩
        have hle : ¬ ((c : Int) + 1) ≤ (c : Int) := by omega
        go_wp2
        go_ret
        exact ⟨.yes HY.out, HW.out.1⟩
  · have HN : Hid (¬ MaskOk p a b c) := fun e => q2 e.mask
    have q2' : (bits .and .i64 (c : Int) ((c : Int) + 1) == 0) = false := by simpa using q2
    clear H HP HX
    go_enter Tryz.func48, Tryz.ntmps48
    go_wp2
    go_ret
    exact ⟨.no HN.out, HB.out⟩
end Go.Proofs.YtnemieeeappgnaaGreatDoor
