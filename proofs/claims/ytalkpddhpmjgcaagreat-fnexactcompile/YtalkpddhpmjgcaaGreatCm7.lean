import Derived.Test.YtalkpddhpmjgcaaGreatCm6
namespace Go.Proofs.YtalkpddhpmjgcaaGreat
open Go.ChangeShapes Go.WideShapes Go.ChangeAt Go.RowKit
set_option linter.unusedVariables false
/-- What l10Levels is asked for. -/
def LvIs (n : Nat) : Prop := ∀ (v : Value) (t : TL n) (w : World), RdT w n v t → sizeT n t ≤ 1048576 → Calls Tryz.prog 41 #[v] w fun e w' => e = .returned (.int .i64 (levT n t : Int)) ∧ Below w.heap.size w w'
set_option maxHeartbeats 2000000 in
set_option maxRecDepth 100000 in
theorem l10Levels_none (a : Option Addr) (c : Nat) (w : World) : Calls Tryz.prog 41 #[.slice a 0 c] w fun e w' => e = .returned (.int .i64 0) ∧ Below w.heap.size w w' := by
  go_enter Tryz.func41, Tryz.ntmps41
  go_wp2_with fail
  go_loopw [3, 4, 5, 6] (fun m i _ _ wr => m = .int .i64 0 ∧ i = .int .i64 0 ∧ wr = w) (fun _ _ _ _ _ => 0)
  case atStart => exact ⟨rfl, rfl, rfl⟩
  case round =>
    obtain ⟨rfl, rfl, rfl⟩ := hrel
    go_wp2_with fail
    go_ret
    exact ⟨rfl, Below.refl _ _⟩
set_option maxHeartbeats 4000000 in
set_option maxRecDepth 100000 in
theorem l10Levels_succ (n : Nat) (ih : LvIs n) (v : Value) (l : List (SS (TL n))) (w : World) (h : RdT w (n + 1) v l) (hsz : sizeT (n + 1) l ≤ 1048576) : Calls Tryz.prog 41 #[v] w fun e w' => e = .returned (.int .i64 (levT (n + 1) l : Int)) ∧ Below w.heap.size w w' := by
  have HI : Hid (LvIs n) := ih
  obtain ⟨a1, c1, e1⟩ : ∃ a c, v = .slice a l.length c := h.is_slice
  subst e1
  have H : Hid (RdT w (n + 1) (.slice a1 l.length c1) l ∧ sizeT (n + 1) l ≤ 1048576) := ⟨h, hsz⟩
  have hL : l.length ≤ 1048576 := by have := len_le_size (n + 1) l; have e : lenT (n + 1) l = l.length := rfl; omega
  clear h ih hsz
  generalize hLL : l.length = L at H hL ⊢
  have HL : Hid (l.length = L) := hLL
  clear hLL
  go_enter Tryz.func41, Tryz.ntmps41
  go_wp2_with fail
  go_loopw [3, 4, 5, 6] (fun m i _ _ wr => ∃ k : Nat, k ≤ L ∧ i = .int .i64 k ∧ m = .int .i64 (levN n l k : Int) ∧ Hid (Below w.heap.size w wr)) (fun _ i _ _ _ => L - (intOf i).toNat)
  case atStart => exact ⟨0, by omega, rfl, rfl, Below.refl _ _⟩
  case round =>
    obtain ⟨k, hk, rfl, rfl, HB⟩ := hrel
    by_cases hlt : k < L
    · obtain ⟨x, hx⟩ : ∃ x, l[k]? = some x := ⟨_, List.getElem?_eq_getElem (by rw [HL.out]; exact hlt)⟩
      obtain ⟨g, o, c, vb, ve, e1, i0, i1, i2, i3, i4, rb, re⟩ := (H.out.1.keep HB.out (Nat.le_refl _)).elem hx
      rw [HL.out] at e1
      simp only [Value.slice.injEq, true_and] at e1
      obtain ⟨rfl, rfl⟩ := e1
      have hsm := Nat.le_trans (size_mem (List.mem_of_getElem? hx)) H.out.2
      have HX : Hid (l[k]? = some x ∧ RdT wr n vb x.body ∧ RdT wr n ve x.els ∧ 1 + sizeT n x.body + sizeT n x.els ≤ 1048576) := ⟨hx, rb, re, hsm⟩
      have hb1 := lev_le_size n x.body
      have hb2 := lev_le_size n x.els
      have HN : Hid (levN n l (k + 1) = max (levN n l k) (levS n (levT n) x)) := levN_next hx
      obtain ⟨ab, cb, rfl⟩ := rb.is_slice
      obtain ⟨ae, ce, rfl⟩ := re.is_slice
      have HLV : Hid (levT n x.body ≤ 1048576 ∧ levT n x.els ≤ 1048576) := ⟨by omega, by omega⟩
      clear rb re hx hb1 hb2 hsm
      go_wp2_with fail
      refine (HI.out _ x.body wr HX.out.2.1 (by have := HX.out.2.2.2; omega)).mono ?_
      rintro e u1 ⟨rfl, b1⟩
      have j0 := bcell_lt b1 i0
      have j4 := bcell_lt b1 i4
      have HB1 : Hid (Below w.heap.size w u1 ∧ Below wr.heap.size wr u1) := ⟨below_on HB.out (Nat.le_refl _) b1, b1⟩
      clear i0 i1 i2 i3 i4 b1 HB
      by_cases h3 : x.k = 3
      · have h3' : (x.k == 3) = true := by simpa using h3
        have HS : Hid (levS n (levT n) x = max (levT n x.body + 1) (levT n x.els)) := by show levS n (levT n) x = _; unfold levS; rw [if_pos h3]
        clear h3
        have hv1 := HLV.out.1
        have hv2 := HLV.out.2
        go_wp2_with fail
        refine (HI.out _ x.els u1 (HX.out.2.2.1.keep HB1.out.2 (Nat.le_refl _)) (by have := HX.out.2.2.2; omega)).mono ?_
        rintro e u2 ⟨rfl, b2⟩
        have HB2 : Hid (Below w.heap.size w u2) := below_on HB1.out.1 (Nat.le_refl _) b2
        clear b2 HB1 j0 j4 h3'
        go_wp2_with fail
        all_goals
          go_roundw
          case rel => exact ⟨k + 1, by omega, by go_num, by rw [HN.out, HS.out]; congr 1; omega, HB2⟩
          case measure => simp [intOf]; omega
      · have h3' : (x.k == 3) = false := by simpa using h3
        have HS : Hid (levS n (levT n) x = max (levT n x.body) (levT n x.els)) := by show levS n (levT n) x = _; unfold levS; rw [if_neg h3]
        clear h3
        have hv1 := HLV.out.1
        have hv2 := HLV.out.2
        go_wp2_with fail
        refine (HI.out _ x.els u1 (HX.out.2.2.1.keep HB1.out.2 (Nat.le_refl _)) (by have := HX.out.2.2.2; omega)).mono ?_
        rintro e u2 ⟨rfl, b2⟩
        have HB2 : Hid (Below w.heap.size w u2) := below_on HB1.out.1 (Nat.le_refl _) b2
        clear b2 HB1 j0 j4 h3'
        go_wp2_with fail
        all_goals
          go_roundw
          case rel => exact ⟨k + 1, by omega, by go_num, by rw [HN.out, HS.out]; congr 1; omega, HB2⟩
          case measure => simp [intOf]; omega
    · have hkn : k = L := by omega
      subst hkn
      have HY : Hid (levT (n + 1) l = levN n l k) := (levN_all (by rw [HL.out]; exact Nat.le_refl _)).symm
      go_wp2_with fail
      go_ret
      exact ⟨by rw [HY.out]; rfl, HB.out⟩
theorem l10Levels_any (n : Nat) : LvIs n := by
  induction n with
  | zero =>
    intro v t w h hs
    obtain ⟨a, c, rfl⟩ := h
    exact l10Levels_none a c w
  | succ n ih => exact fun v t w h hs => l10Levels_succ n ih v t w h hs
/-- The code of a list. -/
def CodeIs (n : Nat) (t : TL n) (z : Int) : Prop := (z = 1 ∧ ¬ allOkT n t) ∨ (z = 2 ∧ allOkT n t ∧ 60 < sizeT n t) ∨ (z = 3 ∧ allOkT n t ∧ sizeT n t ≤ 60 ∧ 8 < levT n t) ∨ (z = 0 ∧ allOkT n t ∧ sizeT n t ≤ 60 ∧ levT n t ≤ 8)
theorem CodeIs.one {n : Nat} {t : TL n} {z z' : Int} (h : CodeIs n t z) (h' : CodeIs n t z') : z = z' := by
  rcases h with ⟨rfl, h⟩ | ⟨rfl, h, h2⟩ | ⟨rfl, h, h2, h3⟩ | ⟨rfl, h, h2, h3⟩ <;> rcases h' with ⟨rfl, k⟩ | ⟨rfl, k, k2⟩ | ⟨rfl, k, k2, k3⟩ | ⟨rfl, k, k2, k3⟩ <;> first | rfl | (exact absurd h k) | (exact absurd k h) | omega
set_option maxHeartbeats 2000000 in
set_option maxRecDepth 100000 in
theorem specStmt_any (n : Nat) (v : Value) (t : TL n) (w : World) (h : RdT w n v t) (hs : sizeT n t ≤ 1048576) : Calls Tryz.prog 18 #[v] w fun e w' => ∃ z : Int, e = .returned (.int .i64 z) ∧ CodeIs n t z ∧ Below w.heap.size w w' := by
  obtain ⟨a1, c1, rfl⟩ := h.is_slice
  have H : Hid (RdT w n (.slice a1 (lenT n t) c1) t ∧ sizeT n t ≤ 1048576) := ⟨h, hs⟩
  clear h hs
  have E0 : Hid (Blk ((w.alloc (.cells #[.int .i64 0] 2)).setCell ⟨w.heap.size, 0, none⟩ (.int .i64 60)) w.heap.size #[.int .i64 60] 2 ∧ Below w.heap.size w ((w.alloc (.cells #[.int .i64 0] 2)).setCell ⟨w.heap.size, 0, none⟩ (.int .i64 60))) := ⟨by have := (Blk.new w #[.int .i64 0] 2).set 0 (.int .i64 60); simpa using this, (below_alloc _ _).setCell (Nat.le_refl _) _⟩
  have E0' : Hid (Blk (w.alloc (.cells #[.int .i64 60] 2)) w.heap.size #[.int .i64 60] 2 ∧ Below w.heap.size w (w.alloc (.cells #[.int .i64 60] 2))) := ⟨Blk.new _ _ _, below_alloc _ _⟩
  go_enter Tryz.func18, Tryz.ntmps18
  go_upto_region 2 with fail
  refine wp_world (fun u => Hid (Blk u w.heap.size #[.int .i64 60] 2 ∧ Below w.heap.size w u)) (by first | exact E0 | exact E0') ?_
  rintro U E1
  clear E0 E0'
  go_wp2_with fail
  refine (l10Walk_any n _ t w.heap.size 60 w U H.out.1 H.out.2 (Nat.le_refl _) E1.out.2 E1.out.1 (by omega) (by have := H.out.2; omega)).mono ?_
  rintro e u1 ⟨⟨b1, rfl, hb1⟩, hc1, c', hl1, hq1, _, _⟩
  have E2 : Hid (Blk u1 w.heap.size #[.int .i64 c'] 2 ∧ Below w.heap.size w u1) := ⟨hl1, E1.out.2.trans (hc1.below E1.out.2.size (fun j hj e => by omega))⟩
  have HQ : Hid ((b1 = true ↔ allOkT n t) ∧ (allOkT n t → c' = 60 - (sizeT n t : Int))) := ⟨hb1, hq1⟩
  clear hc1 hl1 hq1 hb1 E1
  cases b1
  · have HN : Hid (¬ allOkT n t) := fun e => by have := HQ.out.1.2 e; cases this
    go_wp2_with fail
    go_ret
    exact ⟨1, rfl, .inl ⟨rfl, HN.out⟩, E2.out.2⟩
  · have HY : Hid (allOkT n t ∧ c' = 60 - (sizeT n t : Int)) := ⟨HQ.out.1.1 rfl, HQ.out.2 (HQ.out.1.1 rfl)⟩
    clear HQ
    have c0 := E2.out.1.cell 0
    simp only [List.getElem?_toArray, List.getElem?_cons_zero] at c0
    by_cases hc : c' < 0
    · have HZ : Hid (60 < sizeT n t) := by show 60 < sizeT n t; have := HY.out.2; omega
      go_wp2_with fail
      go_ret
      exact ⟨2, rfl, .inr (.inl ⟨rfl, HY.out.1, HZ.out⟩), E2.out.2⟩
    · have HZ : Hid (sizeT n t ≤ 60) := by show sizeT n t ≤ 60; have := HY.out.2; omega
      go_wp2_with fail
      refine (l10Levels_any n _ t u1 (H.out.1.keep E2.out.2 (Nat.le_refl _)) H.out.2).mono ?_
      rintro e u2 ⟨rfl, b2⟩
      have E3 : Hid (Below w.heap.size w u2) := below_on E2.out.2 (Nat.le_refl _) b2
      clear b2 E2 c0 hc
      by_cases hv : 8 < levT n t
      · have hv' : (8 : Int) < (levT n t : Int) := by omega
        have HV : Hid (8 < levT n t) := hv
        clear hv
        go_wp2_with fail
        go_ret
        exact ⟨3, rfl, .inr (.inr (.inl ⟨rfl, HY.out.1, HZ.out, HV.out⟩)), E3.out⟩
      · have hv' : ¬ (8 : Int) < (levT n t : Int) := by omega
        have HV : Hid (levT n t ≤ 8) := by show levT n t ≤ 8; omega
        clear hv
        go_wp2_with fail
        go_ret
        exact ⟨0, rfl, .inr (.inr (.inr ⟨rfl, HY.out.1, HZ.out, HV.out⟩)), E3.out⟩
end Go.Proofs.YtalkpddhpmjgcaaGreat
namespace Go.Proofs.YtalkpddhpmjgcaaGreat
open Go.ChangeShapes Go.WideShapes Go.ChangeAt Go.RowKit
set_option linter.unusedVariables false
theorem isOneOf_anyK (n c : Int) (w : World) : Calls Tryz.prog 94 #[.int .i64 n, .int .i64 c] w fun e w' => e = .returned (.bool (decide (0 ≤ n ∧ n < c))) ∧ w' = w := by
  by_cases q0 : n < 0
  · rw [decide_eq_false (by omega : ¬ (0 ≤ n ∧ n < c))]
    have q0' : ¬ 0 ≤ n := by omega
    go_enter Tryz.func94, Tryz.ntmps94
    go_wp2
    go_ret
    exact ⟨rfl, rfl⟩
  have q0' : 0 ≤ n := by omega
  by_cases q1 : n < c
  · rw [decide_eq_true (by omega : 0 ≤ n ∧ n < c)]
    go_enter Tryz.func94, Tryz.ntmps94
    go_wp2
    go_ret
    exact ⟨rfl, rfl⟩
  · rw [decide_eq_false (by omega : ¬ (0 ≤ n ∧ n < c))]
    go_enter Tryz.func94, Tryz.ntmps94
    go_wp2
    go_ret
    exact ⟨rfl, rfl⟩
theorem isOneOf_says (n c : Int) (w : World) : Calls Tryz.prog 94 #[.int .i64 n, .int .i64 c] w fun e w' => SaysIff e (0 ≤ n ∧ n < c) ∧ w' = w := (isOneOf_anyK n c w).mono fun e w' h => ⟨⟨_, h.1, by simp⟩, h.2⟩
theorem isVariable_any (n : Int) (w : World) : Calls Tryz.prog 102 #[.int .i64 n] w fun e w' => SaysIff e (0 ≤ n ∧ n < 8) ∧ w' = w := by
  go_enter Tryz.func102, Tryz.ntmps102
  go_wp2_with fail
  refine (isOneOf_says n 8 w).mono ?_
  rintro e u ⟨⟨b, rfl, hb⟩, rfl⟩
  have HB : Hid (b = true ↔ (0 ≤ n ∧ n < 8)) := hb
  clear hb
  go_wp2
  go_ret
  exact ⟨⟨b, rfl, HB.out⟩, rfl⟩
set_option maxHeartbeats 1000000 in
theorem isSingle_any (k a b : Int) (a1 a2 : Option Addr) (lb le c1 c2 : Nat) (w : World) : Calls Tryz.prog 90 #[.agg #[.int .i64 k, .int .i64 a, .int .i64 b, .slice a1 lb c1, .slice a2 le c2]] w fun e w' => SaysIff e (lb = 0 ∧ le = 0) ∧ Below w.heap.size w w' := by
  have E0 : Hid (Below w.heap.size w (w.alloc (.cells #[.int .i64 k, .int .i64 a, .int .i64 b, .slice a1 lb c1, .slice a2 le c2] 54))) := below_alloc _ _
  by_cases h1 : lb = 0
  · have h1' : ((lb : Int) == 0) = true := by simp; omega
    by_cases h2 : le = 0
    · have h2' : ((le : Int) == 0) = true := by simp; omega
      have HQ : Hid (lb = 0 ∧ le = 0) := ⟨h1, h2⟩
      clear h1 h2
      go_enter Tryz.func90, Tryz.ntmps90
      go_wp2
      go_ret
      exact ⟨.yes HQ.out, E0.out⟩
    · have h2' : ((le : Int) == 0) = false := by simp; omega
      have HQ : Hid (¬ (lb = 0 ∧ le = 0)) := fun e => h2 e.2
      clear h1 h2
      go_enter Tryz.func90, Tryz.ntmps90
      go_wp2
      go_ret
      exact ⟨.no HQ.out, E0.out⟩
  · have h1' : ((lb : Int) == 0) = false := by simp; omega
    have HQ : Hid (¬ (lb = 0 ∧ le = 0)) := fun e => h1 e.1
    clear h1
    go_enter Tryz.func90, Tryz.ntmps90
    go_wp2
    go_ret
    exact ⟨.no HQ.out, E0.out⟩
set_option maxHeartbeats 4000000 in
set_option maxRecDepth 100000 in
theorem stmtHolds_any (k a b : Int) (a1 a2 : Option Addr) (lb le c1 c2 : Nat) (w : World) : Calls Tryz.prog 89 #[.agg #[.int .i64 k, .int .i64 a, .int .i64 b, .slice a1 lb c1, .slice a2 le c2]] w fun e w' => SaysIff e (okS k a b lb le) ∧ Below w.heap.size w w' := by
  have E0 : Hid (Blk (w.alloc (.cells #[.int .i64 k, .int .i64 a, .int .i64 b, .slice a1 lb c1, .slice a2 le c2] 54)) w.heap.size #[.int .i64 k, .int .i64 a, .int .i64 b, .slice a1 lb c1, .slice a2 le c2] 54 ∧ Below w.heap.size w (w.alloc (.cells #[.int .i64 k, .int .i64 a, .int .i64 b, .slice a1 lb c1, .slice a2 le c2] 54))) := ⟨Blk.new _ _ _, below_alloc _ _⟩
  have K : (k = 1) ∨ (k = 2) ∨ (k = 3) ∨ (k = 4) ∨ (k ≠ 1 ∧ k ≠ 2 ∧ k ≠ 3 ∧ k ≠ 4) := by omega
  go_enter Tryz.func89, Tryz.ntmps89
  go_upto_region 1 with fail
  refine wp_world (fun u => Hid (Blk u w.heap.size #[.int .i64 k, .int .i64 a, .int .i64 b, .slice a1 lb c1, .slice a2 le c2] 54 ∧ Below w.heap.size w u)) E0 ?_
  rintro U E1
  clear E0
  obtain ⟨x0, x1, x2, x3, x4⟩ := blk5 E1.out.1
  rcases K with rfl | rfl | rfl | rfl | kn
  · go_wp2_with fail
    refine (isVariable_any a _).mono ?_
    rintro e u ⟨⟨b1, rfl, hb1⟩, rfl⟩
    have H1 : Hid (b1 = true ↔ (0 ≤ a ∧ a < 8)) := hb1
    clear hb1
    cases b1
    · go_wp2_with fail
      go_ret
      exact ⟨.no (fun e => by have h1 := H1.out; unfold okS at e; simp at h1; omega), E1.out.2⟩
    go_wp2_with fail
    refine (isVariable_any b _).mono ?_
    rintro e u' ⟨⟨b2, rfl, hb2⟩, rfl⟩
    have H2 : Hid (b2 = true ↔ (0 ≤ b ∧ b < 8)) := hb2
    clear hb2
    cases b2
    · go_wp2_with fail
      go_ret
      exact ⟨.no (fun e => by have h1 := H2.out; unfold okS at e; simp at h1; omega), E1.out.2⟩
    go_wp2_with fail
    refine (isSingle_any _ a b a1 a2 lb le c1 c2 _).mono ?_
    rintro e u3 ⟨⟨b3, rfl, hb3⟩, hu3⟩
    have H3 : Hid ((b3 = true ↔ (lb = 0 ∧ le = 0)) ∧ Below w.heap.size w u3) := ⟨hb3, below_on E1.out.2 (Nat.le_refl _) hu3⟩
    clear hb3 hu3
    cases b3
    · go_wp2_with fail
      go_ret
      exact ⟨.no (fun e => by have h1 := H3.out.1; unfold okS at e; simp at h1; omega), H3.out.2⟩
    · go_wp2_with fail
      go_ret
      exact ⟨.yes (by have h1 := H1.out; have h2 := H2.out; have h3 := H3.out.1; unfold okS; simp at h1 h2 h3; omega), H3.out.2⟩
  · go_wp2_with fail
    refine (isVariable_any a _).mono ?_
    rintro e u ⟨⟨b1, rfl, hb1⟩, rfl⟩
    have H1 : Hid (b1 = true ↔ (0 ≤ a ∧ a < 8)) := hb1
    clear hb1
    cases b1
    · go_wp2_with fail
      go_ret
      exact ⟨.no (fun e => by have h1 := H1.out; unfold okS at e; simp at h1; omega), E1.out.2⟩
    go_wp2_with fail
    refine (isVariable_any b _).mono ?_
    rintro e u' ⟨⟨b2, rfl, hb2⟩, rfl⟩
    have H2 : Hid (b2 = true ↔ (0 ≤ b ∧ b < 8)) := hb2
    clear hb2
    cases b2
    · go_wp2_with fail
      go_ret
      exact ⟨.no (fun e => by have h1 := H2.out; unfold okS at e; simp at h1; omega), E1.out.2⟩
    · go_wp2_with fail
      go_ret
      exact ⟨.yes (by have h1 := H1.out; have h2 := H2.out; unfold okS; simp at h1 h2; omega), E1.out.2⟩
  · by_cases ha : a = 0
    · have ha' : (a == 0) = true := by simpa using ha
      have HA : Hid (a = 0) := ha
      clear ha
      go_wp2_with fail
      refine (isOneOf_says b 256 _).mono ?_
      rintro e u' ⟨⟨b2, rfl, hb2⟩, rfl⟩
      have H2 : Hid (b2 = true ↔ (0 ≤ b ∧ b < 256)) := hb2
      clear hb2
      cases b2
      · go_wp2_with fail
        go_ret
        exact ⟨.no (fun e => by have h1 := H2.out; unfold okS at e; simp at h1; omega), E1.out.2⟩
      by_cases hl : le = 0
      · have hl' : ((le : Int) == 0) = true := by simp; omega
        have HL : Hid (le = 0) := hl
        clear hl
        go_wp2_with fail
        go_ret
        exact ⟨.yes (by have h0 := HA.out; have h1 := HL.out; have h2 := H2.out; unfold okS; simp at h2; omega), E1.out.2⟩
      · have hl' : ((le : Int) == 0) = false := by simp; omega
        have HL : Hid (¬ le = 0) := hl
        clear hl
        go_wp2_with fail
        go_ret
        exact ⟨.no (fun e => by have h1 := HL.out; unfold okS at e; omega), E1.out.2⟩
    · have ha' : (a == 0) = false := by simpa using ha
      have HA : Hid (¬ a = 0) := ha
      clear ha
      go_wp2_with fail
      go_ret
      exact ⟨.no (fun e => by have h1 := HA.out; unfold okS at e; omega), E1.out.2⟩
  · go_wp2_with fail
    refine (isOneOf_says a 8 _).mono ?_
    rintro e u ⟨⟨b1, rfl, hb1⟩, rfl⟩
    have H1 : Hid (b1 = true ↔ (0 ≤ a ∧ a < 8)) := hb1
    clear hb1
    cases b1
    · go_wp2_with fail
      go_ret
      exact ⟨.no (fun e => by have h1 := H1.out; unfold okS at e; simp at h1; omega), E1.out.2⟩
    by_cases hb : b = 0
    · have hb' : (b == 0) = true := by simpa using hb
      have HB : Hid (b = 0) := hb
      clear hb
      go_wp2_with fail
      refine (isSingle_any _ a b a1 a2 lb le c1 c2 _).mono ?_
      rintro e u3 ⟨⟨b3, rfl, hb3⟩, hu3⟩
      have H3 : Hid ((b3 = true ↔ (lb = 0 ∧ le = 0)) ∧ Below w.heap.size w u3) := ⟨hb3, below_on E1.out.2 (Nat.le_refl _) hu3⟩
      clear hb3 hu3
      cases b3
      · go_wp2_with fail
        go_ret
        exact ⟨.no (fun e => by have h1 := H3.out.1; unfold okS at e; simp at h1; omega), H3.out.2⟩
      · go_wp2_with fail
        go_ret
        exact ⟨.yes (by have h0 := HB.out; have h1 := H1.out; have h3 := H3.out.1; unfold okS; simp at h1 h3; omega), H3.out.2⟩
    · have hb' : (b == 0) = false := by simpa using hb
      have HB : Hid (¬ b = 0) := hb
      clear hb
      go_wp2_with fail
      go_ret
      exact ⟨.no (fun e => by have h1 := HB.out; unfold okS at e; omega), E1.out.2⟩
  · have KK : Hid (k ≠ 1 ∧ k ≠ 2 ∧ k ≠ 3 ∧ k ≠ 4) := kn
    have e1 : (k == 1) = false := by simpa using kn.1
    have e2 : (k == 2) = false := by simpa using kn.2.1
    have e3 : (k == 3) = false := by simpa using kn.2.2.1
    have e4 : (k == 4) = false := by simpa using kn.2.2.2
    clear kn
    go_wp2_with fail
    go_ret
    exact ⟨.no (fun e => by have h1 := KK.out; unfold okS at e; omega), E1.out.2⟩
end Go.Proofs.YtalkpddhpmjgcaaGreat
