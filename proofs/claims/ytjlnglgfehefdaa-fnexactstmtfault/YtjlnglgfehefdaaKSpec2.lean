/- KSpec2: spec.l10Levels, spec.StmtFault. -/
import Derived.Test.YtjlnglgfehefdaaKSpec1
namespace Go.Proofs.Ytjlnglgfehefdaa
open Go.ChangeShapes Go.WideShapes Go.ChangeAt Go.RowKit
set_option linter.unusedVariables false
/-- What l10Levels is asked for. -/
def LvIs (n : Nat) : Prop := ∀ (v : Value) (t : TL n) (w : World), RdT w n v t → sizeT n t ≤ 1048576 → Calls Try.prog 11 #[v] w fun e w' => e = .returned (.int .i64 (levT n t : Int)) ∧ Below w.heap.size w w'
set_option maxHeartbeats 2000000 in
set_option maxRecDepth 100000 in
theorem l10Levels_none (a : Option Addr) (c : Nat) (w : World) : Calls Try.prog 11 #[.slice a 0 c] w fun e w' => e = .returned (.int .i64 0) ∧ Below w.heap.size w w' := by
  go_enter Try.func11, Try.ntmps11
  go_wp2_with fail
  go_loopw [3, 4, 5, 6] (fun m i _ _ wr => m = .int .i64 0 ∧ i = .int .i64 0 ∧ wr = w) (fun _ _ _ _ _ => 0)
  case atStart => exact ⟨rfl, rfl, rfl⟩
  case round =>
    obtain ⟨rfl, rfl, rfl⟩ := hrel
    go_wp2_with fail
    go_ret
    exact ⟨rfl, Below.refl _ _⟩
set_option maxHeartbeats 4000000 in
set_option maxRecDepth 100000 in
theorem l10Levels_succ (n : Nat) (ih : LvIs n) (v : Value) (l : List (SS (TL n))) (w : World) (h : RdT w (n + 1) v l) (hsz : sizeT (n + 1) l ≤ 1048576) : Calls Try.prog 11 #[v] w fun e w' => e = .returned (.int .i64 (levT (n + 1) l : Int)) ∧ Below w.heap.size w w' := by
  have HI : Hid (LvIs n) := ih
  obtain ⟨a1, c1, e1⟩ : ∃ a c, v = .slice a l.length c := h.is_slice
  subst e1
  have H : Hid (RdT w (n + 1) (.slice a1 l.length c1) l ∧ sizeT (n + 1) l ≤ 1048576) := ⟨h, hsz⟩
  have hL : l.length ≤ 1048576 := by have := len_le_size (n + 1) l; have e : lenT (n + 1) l = l.length := rfl; omega
  clear h ih hsz
  generalize hLL : l.length = L at H hL ⊢
  have HL : Hid (l.length = L) := hLL
  clear hLL
  go_enter Try.func11, Try.ntmps11
  go_wp2_with fail
  go_loopw [3, 4, 5, 6] (fun m i _ _ wr => ∃ k : Nat, k ≤ L ∧ i = .int .i64 k ∧ m = .int .i64 (levN n l k : Int) ∧ Hid (Below w.heap.size w wr)) (fun _ i _ _ _ => L - (intOf i).toNat)
  case atStart => exact ⟨0, by omega, rfl, rfl, Below.refl _ _⟩
  case round =>
    obtain ⟨k, hk, rfl, rfl, HB⟩ := hrel
    by_cases hlt : k < L
    · obtain ⟨x, hx⟩ : ∃ x, l[k]? = some x := ⟨_, List.getElem?_eq_getElem (by rw [HL.out]; exact hlt)⟩
      obtain ⟨g, o, c, vb, ve, e1, i0, i1, i2, i3, i4, rb, re⟩ := (H.out.1.keep HB.out (Nat.le_refl _)).elem hx
      rw [HL.out] at e1
      simp only [Value.slice.injEq, true_and] at e1
      obtain ⟨rfl, rfl⟩ := e1
      have hsm := Nat.le_trans (size_mem (List.mem_of_getElem? hx)) H.out.2
      have HX : Hid (l[k]? = some x ∧ RdT wr n vb x.body ∧ RdT wr n ve x.els ∧ 1 + sizeT n x.body + sizeT n x.els ≤ 1048576) := ⟨hx, rb, re, hsm⟩
      have hb1 := lev_le_size n x.body
      have hb2 := lev_le_size n x.els
      have HN : Hid (levN n l (k + 1) = max (levN n l k) (levS n (levT n) x)) := levN_next hx
      obtain ⟨ab, cb, rfl⟩ := rb.is_slice
      obtain ⟨ae, ce, rfl⟩ := re.is_slice
      have HLV : Hid (levT n x.body ≤ 1048576 ∧ levT n x.els ≤ 1048576) := ⟨by omega, by omega⟩
      clear rb re hx hb1 hb2 hsm
      go_wp2_with fail
      refine (HI.out _ x.body wr HX.out.2.1 (by have := HX.out.2.2.2; omega)).mono ?_
      rintro e u1 ⟨rfl, b1⟩
      have j0 := bcell_lt b1 i0
      have j4 := bcell_lt b1 i4
      have HB1 : Hid (Below w.heap.size w u1 ∧ Below wr.heap.size wr u1) := ⟨below_on HB.out (Nat.le_refl _) b1, b1⟩
      clear i0 i1 i2 i3 i4 b1 HB
      by_cases h3 : x.k = 3
      · have h3' : (x.k == 3) = true := by simpa using h3
        have HS : Hid (levS n (levT n) x = max (levT n x.body + 1) (levT n x.els)) := by show levS n (levT n) x = _; unfold levS; rw [if_pos h3]
        clear h3
        have hv1 := HLV.out.1
        have hv2 := HLV.out.2
        go_wp2_with fail
        refine (HI.out _ x.els u1 (HX.out.2.2.1.keep HB1.out.2 (Nat.le_refl _)) (by have := HX.out.2.2.2; omega)).mono ?_
        rintro e u2 ⟨rfl, b2⟩
        have HB2 : Hid (Below w.heap.size w u2) := below_on HB1.out.1 (Nat.le_refl _) b2
        clear b2 HB1 j0 j4 h3'
        go_wp2_with fail
        all_goals
          go_roundw
          case rel => exact ⟨k + 1, by omega, by go_num, by rw [HN.out, HS.out]; congr 1; omega, HB2⟩
          case measure => simp [intOf]; omega
      · have h3' : (x.k == 3) = false := by simpa using h3
        have HS : Hid (levS n (levT n) x = max (levT n x.body) (levT n x.els)) := by show levS n (levT n) x = _; unfold levS; rw [if_neg h3]
        clear h3
        have hv1 := HLV.out.1
        have hv2 := HLV.out.2
        go_wp2_with fail
        refine (HI.out _ x.els u1 (HX.out.2.2.1.keep HB1.out.2 (Nat.le_refl _)) (by have := HX.out.2.2.2; omega)).mono ?_
        rintro e u2 ⟨rfl, b2⟩
        have HB2 : Hid (Below w.heap.size w u2) := below_on HB1.out.1 (Nat.le_refl _) b2
        clear b2 HB1 j0 j4 h3'
        go_wp2_with fail
        all_goals
          go_roundw
          case rel => exact ⟨k + 1, by omega, by go_num, by rw [HN.out, HS.out]; congr 1; omega, HB2⟩
          case measure => simp [intOf]; omega
    · have hkn : k = L := by omega
      subst hkn
      have HY : Hid (levT (n + 1) l = levN n l k) := (levN_all (by rw [HL.out]; exact Nat.le_refl _)).symm
      go_wp2_with fail
      go_ret
      exact ⟨by rw [HY.out]; rfl, HB.out⟩
theorem l10Levels_any (n : Nat) : LvIs n := by
  induction n with
  | zero =>
    intro v t w h hs
    obtain ⟨a, c, rfl⟩ := h
    exact l10Levels_none a c w
  | succ n ih => exact fun v t w h hs => l10Levels_succ n ih v t w h hs
/-- The code of a list. -/
def CodeIs (n : Nat) (t : TL n) (z : Int) : Prop := (z = 1 ∧ ¬ allOkT n t) ∨ (z = 2 ∧ allOkT n t ∧ 60 < sizeT n t) ∨ (z = 3 ∧ allOkT n t ∧ sizeT n t ≤ 60 ∧ 8 < levT n t) ∨ (z = 0 ∧ allOkT n t ∧ sizeT n t ≤ 60 ∧ levT n t ≤ 8)
theorem CodeIs.one {n : Nat} {t : TL n} {z z' : Int} (h : CodeIs n t z) (h' : CodeIs n t z') : z = z' := by
  rcases h with ⟨rfl, h⟩ | ⟨rfl, h, h2⟩ | ⟨rfl, h, h2, h3⟩ | ⟨rfl, h, h2, h3⟩ <;> rcases h' with ⟨rfl, k⟩ | ⟨rfl, k, k2⟩ | ⟨rfl, k, k2, k3⟩ | ⟨rfl, k, k2, k3⟩ <;> first | rfl | (exact absurd h k) | (exact absurd k h) | omega
set_option maxHeartbeats 2000000 in
set_option maxRecDepth 100000 in
theorem specStmt_any (n : Nat) (v : Value) (t : TL n) (w : World) (h : RdT w n v t) (hs : sizeT n t ≤ 1048576) : Calls Try.prog 5 #[v] w fun e w' => ∃ z : Int, e = .returned (.int .i64 z) ∧ CodeIs n t z ∧ Below w.heap.size w w' := by
  obtain ⟨a1, c1, rfl⟩ := h.is_slice
  have H : Hid (RdT w n (.slice a1 (lenT n t) c1) t ∧ sizeT n t ≤ 1048576) := ⟨h, hs⟩
  clear h hs
  have E0 : Hid (Blk ((w.alloc (.cells #[.int .i64 0] 2)).setCell ⟨w.heap.size, 0, none⟩ (.int .i64 60)) w.heap.size #[.int .i64 60] 2 ∧ Below w.heap.size w ((w.alloc (.cells #[.int .i64 0] 2)).setCell ⟨w.heap.size, 0, none⟩ (.int .i64 60))) := ⟨by have := (Blk.new w #[.int .i64 0] 2).set 0 (.int .i64 60); simpa using this, (below_alloc _ _).setCell (Nat.le_refl _) _⟩
  have E0' : Hid (Blk (w.alloc (.cells #[.int .i64 60] 2)) w.heap.size #[.int .i64 60] 2 ∧ Below w.heap.size w (w.alloc (.cells #[.int .i64 60] 2))) := ⟨Blk.new _ _ _, below_alloc _ _⟩
  go_enter Try.func5, Try.ntmps5
  go_upto_region 2 with fail
  refine wp_world (fun u => Hid (Blk u w.heap.size #[.int .i64 60] 2 ∧ Below w.heap.size w u)) (by first | exact E0 | exact E0') ?_
  rintro U E1
  clear E0 E0'
  go_wp2_with fail
  refine (l10Walk_any n _ t w.heap.size 60 w U H.out.1 H.out.2 (Nat.le_refl _) E1.out.2 E1.out.1 (by omega) (by have := H.out.2; omega)).mono ?_
  rintro e u1 ⟨⟨b1, rfl, hb1⟩, hc1, c', hl1, hq1, _, _⟩
  have E2 : Hid (Blk u1 w.heap.size #[.int .i64 c'] 2 ∧ Below w.heap.size w u1) := ⟨hl1, E1.out.2.trans (hc1.below E1.out.2.size (fun j hj e => by omega))⟩
  have HQ : Hid ((b1 = true ↔ allOkT n t) ∧ (allOkT n t → c' = 60 - (sizeT n t : Int))) := ⟨hb1, hq1⟩
  clear hc1 hl1 hq1 hb1 E1
  cases b1
  · have HN : Hid (¬ allOkT n t) := fun e => by have := HQ.out.1.2 e; cases this
    go_wp2_with fail
    go_ret
    exact ⟨1, rfl, .inl ⟨rfl, HN.out⟩, E2.out.2⟩
  · have HY : Hid (allOkT n t ∧ c' = 60 - (sizeT n t : Int)) := ⟨HQ.out.1.1 rfl, HQ.out.2 (HQ.out.1.1 rfl)⟩
    clear HQ
    have c0 := E2.out.1.cell 0
    simp only [List.getElem?_toArray, List.getElem?_cons_zero] at c0
    by_cases hc : c' < 0
    · have HZ : Hid (60 < sizeT n t) := by show 60 < sizeT n t; have := HY.out.2; omega
      go_wp2_with fail
      go_ret
      exact ⟨2, rfl, .inr (.inl ⟨rfl, HY.out.1, HZ.out⟩), E2.out.2⟩
    · have HZ : Hid (sizeT n t ≤ 60) := by show sizeT n t ≤ 60; have := HY.out.2; omega
      go_wp2_with fail
      refine (l10Levels_any n _ t u1 (H.out.1.keep E2.out.2 (Nat.le_refl _)) H.out.2).mono ?_
      rintro e u2 ⟨rfl, b2⟩
      have E3 : Hid (Below w.heap.size w u2) := below_on E2.out.2 (Nat.le_refl _) b2
      clear b2 E2 c0 hc
      by_cases hv : 8 < levT n t
      · have hv' : (8 : Int) < (levT n t : Int) := by omega
        have HV : Hid (8 < levT n t) := hv
        clear hv
        go_wp2_with fail
        go_ret
        exact ⟨3, rfl, .inr (.inr (.inl ⟨rfl, HY.out.1, HZ.out, HV.out⟩)), E3.out⟩
      · have hv' : ¬ (8 : Int) < (levT n t : Int) := by omega
        have HV : Hid (levT n t ≤ 8) := by show levT n t ≤ 8; omega
        clear hv
        go_wp2_with fail
        go_ret
        exact ⟨0, rfl, .inr (.inr (.inr ⟨rfl, HY.out.1, HZ.out, HV.out⟩)), E3.out⟩
end Go.Proofs.Ytjlnglgfehefdaa
