/- KSz: szStmt, szStmtS. -/
import Derived.Test.YtjlnglgfehefdaaKPure
import Derived.Test.YtjlnglgfehefdaaBelow0
namespace Go.Proofs.Ytjlnglgfehefdaa
open Go.ChangeShapes Go.WideShapes Go.ChangeAt Go.RowKit
set_option linter.unusedVariables false
/-- What szStmtS is asked for. -/
def SzIs (n : Nat) : Prop := ∀ (v : Value) (t : TL n) (left : Int) (w : World), RdT w n v t → fitT n t → 0 ≤ left → left ≤ 1048576 → Calls Try.prog 4 #[v, .int .i64 left] w fun e w' => e = .returned (.int .i64 (szK left (sizeT n t))) ∧ Below w.heap.size w w'
set_option maxHeartbeats 2000000 in
theorem szStmt_any (n : Nat) (hS : SzIs n) (x : SS (TL n)) (vb ve : Value) (left : Int) (w : World) (hb : RdT w n vb x.body) (he : RdT w n ve x.els) (fb : fitT n x.body) (fe : fitT n x.els) (h0 : 0 ≤ left) (h1 : left ≤ 1048576) :
    Calls Try.prog 9 #[.agg #[.int .i64 x.k, .int .i64 x.a, .int .i64 x.b, vb, ve], .int .i64 left] w fun e w' => e = .returned (.int .i64 (szK left (sizeT n x.body + sizeT n x.els))) ∧ Below w.heap.size w w' := by
  have HS : Hid (SzIs n) := hS
  obtain ⟨a1, c1, rfl⟩ := hb.is_slice
  obtain ⟨a2, c2, rfl⟩ := he.is_slice
  have H : Hid (RdT w n (.slice a1 (lenT n x.body) c1) x.body ∧ RdT w n (.slice a2 (lenT n x.els) c2) x.els ∧ fitT n x.body ∧ fitT n x.els) := ⟨hb, he, fb, fe⟩
  clear hb he fb fe hS
  have E0 : Hid (Blk (w.alloc (.cells #[.int .i64 x.k, .int .i64 x.a, .int .i64 x.b, .slice a1 (lenT n x.body) c1, .slice a2 (lenT n x.els) c2] 31)) w.heap.size #[.int .i64 x.k, .int .i64 x.a, .int .i64 x.b, .slice a1 (lenT n x.body) c1, .slice a2 (lenT n x.els) c2] 31 ∧ Below w.heap.size w (w.alloc (.cells #[.int .i64 x.k, .int .i64 x.a, .int .i64 x.b, .slice a1 (lenT n x.body) c1, .slice a2 (lenT n x.els) c2] 31))) := ⟨Blk.new _ _ _, below_alloc _ _⟩
  go_enter Try.func9, Try.ntmps9
  go_upto_region 1 with fail
  refine wp_world (fun u => Hid (Blk u w.heap.size #[.int .i64 x.k, .int .i64 x.a, .int .i64 x.b, .slice a1 (lenT n x.body) c1, .slice a2 (lenT n x.els) c2] 31 ∧ Below w.heap.size w u)) E0 ?_
  rintro U E1
  clear E0
  have p3 := E1.out.1.cell 3
  simp only [List.getElem?_toArray, List.getElem?_cons_zero, List.getElem?_cons_succ] at p3
  go_wp2_with fail
  refine (HS.out _ x.body left U (H.out.1.keep E1.out.2 (Nat.le_refl _)) H.out.2.2.1 h0 h1).mono ?_
  rintro e u1 ⟨rfl, b1⟩
  have E2 : Hid (Blk u1 w.heap.size #[.int .i64 x.k, .int .i64 x.a, .int .i64 x.b, .slice a1 (lenT n x.body) c1, .slice a2 (lenT n x.els) c2] 31 ∧ Below w.heap.size w u1) := ⟨E1.out.1.keep b1, below_on E1.out.2 (Nat.le_refl _) b1⟩
  clear b1 E1 p3
  by_cases hn : left < (sizeT n x.body : Int)
  · have HR : Hid (szK left (sizeT n x.body + sizeT n x.els) = -1) := szK_neg (by omega)
    rw [szK_neg hn]
    clear hn
    go_wp2_with fail
    go_ret
    exact ⟨(by rw [HR.out]; rfl), E2.out.2⟩
  rw [szK_pos (show (sizeT n x.body : Int) ≤ left by omega)]
  have hn0 : ¬ (left - (sizeT n x.body : Int)) < 0 := by omega
  have p4 := E2.out.1.cell 4
  simp only [List.getElem?_toArray, List.getElem?_cons_zero, List.getElem?_cons_succ] at p4
  go_wp2_with fail
  refine (HS.out _ x.els (left - (sizeT n x.body : Int)) u1 (H.out.2.1.keep E2.out.2 (Nat.le_refl _)) H.out.2.2.2 (by omega) (by omega)).mono ?_
  rintro e u2 ⟨rfl, b2⟩
  have E3 : Hid (Below w.heap.size w u2) := below_on E2.out.2 (Nat.le_refl _) b2
  clear b2 E2 p4
  by_cases hm : left - (sizeT n x.body : Int) < (sizeT n x.els : Int)
  · have HR : Hid (szK left (sizeT n x.body + sizeT n x.els) = -1) := szK_neg (by omega)
    rw [szK_neg hm]
    clear hm
    go_wp2_with fail
    go_ret
    exact ⟨(by rw [HR.out]; rfl), E3.out⟩
  have HR : Hid (szK left (sizeT n x.body + sizeT n x.els) = left - (sizeT n x.body : Int) - (sizeT n x.els : Int)) := by show szK left (sizeT n x.body + sizeT n x.els) = left - (sizeT n x.body : Int) - (sizeT n x.els : Int); rw [szK_pos (by omega)]; omega
  rw [szK_pos (show (sizeT n x.els : Int) ≤ left - (sizeT n x.body : Int) by omega)]
  have hm0 : ¬ (left - (sizeT n x.body : Int) - (sizeT n x.els : Int)) < 0 := by omega
  go_wp2_with fail
  go_ret
  exact ⟨(by rw [HR.out]; rfl), E3.out⟩
theorem fit_len {n : Nat} {t : TL n} (h : fitT n t) : lenT n t ≤ 9223372036854775807 := by
  cases n with
  | zero => exact Nat.zero_le _
  | succ n => exact h.1
theorem size_len0 {n : Nat} {t : TL n} (h : lenT n t = 0) : sizeT n t = 0 := by
  cases n with
  | zero => rfl
  | succ n =>
    have : t = ([] : List (SS (TL n))) := List.eq_nil_of_length_eq_zero h
    subst this
    rfl
set_option maxHeartbeats 2000000 in
set_option maxRecDepth 100000 in
theorem szStmtS_none (n : Nat) (a : Option Addr) (c : Nat) (left : Int) (w : World) (h0 : 0 ≤ left) (h1 : left ≤ 1048576) : Calls Try.prog 4 #[.slice a 0 c, .int .i64 left] w fun e w' => e = .returned (.int .i64 left) ∧ Below w.heap.size w w' := by
  have hn : ¬ left < 0 := by omega
  go_enter Try.func4, Try.ntmps4
  go_wp2_with fail
  go_loopw [1, 5] (fun l i wr => l = .int .i64 left ∧ i = .int .i64 0 ∧ wr = w) (fun _ _ _ => 0)
  case atStart => exact ⟨rfl, rfl, rfl⟩
  case round =>
    obtain ⟨rfl, rfl, rfl⟩ := hrel
    go_wp2_with fail
    go_ret
    exact ⟨rfl, Below.refl _ _⟩
set_option maxHeartbeats 2000000 in
set_option maxRecDepth 100000 in
theorem szStmtS_succ (n : Nat) (ih : SzIs n) (v : Value) (l : List (SS (TL n))) (left : Int) (w : World) (h : RdT w (n + 1) v l) (hf : fitT (n + 1) l) (h0 : 0 ≤ left) (h1 : left ≤ 1048576) : Calls Try.prog 4 #[v, .int .i64 left] w fun e w' => e = .returned (.int .i64 (szK left (sizeT (n + 1) l))) ∧ Below w.heap.size w w' := by
  have HI : Hid (SzIs n) := ih
  obtain ⟨a1, c1, e1⟩ : ∃ a c, v = .slice a l.length c := h.is_slice
  subst e1
  have hfl : l.length ≤ 9223372036854775807 := hf.1
  have H : Hid (RdT w (n + 1) (.slice a1 l.length c1) l ∧ ∀ s : SS (TL n), List.Mem s l → fitT n s.body ∧ fitT n s.els) := ⟨h, hf.2⟩
  clear h hf ih
  by_cases hn : left < (l.length : Int)
  · have HR : Hid (szK left (sizeT (n + 1) l) = -1) := szK_neg (by have := len_le_size (n + 1) l; have e : lenT (n + 1) l = l.length := rfl; omega)
    have hneg : left - (l.length : Int) < 0 := by omega
    go_enter Try.func4, Try.ntmps4
    go_wp2_with fail
    go_ret
    exact ⟨(by rw [HR.out]; rfl), Below.refl _ _⟩
  · have hnn : ¬ left - (l.length : Int) < 0 := by omega
    go_enter Try.func4, Try.ntmps4
    go_wp2_with fail
    go_loopw [1, 5] (fun lf i wr => ∃ k : Nat, k ≤ l.length ∧ i = .int .i64 k ∧ lf = .int .i64 (left - (l.length : Int) - (sumT n l k : Int)) ∧ 0 ≤ left - (l.length : Int) - (sumT n l k : Int) ∧ Hid (Below w.heap.size w wr)) (fun _ i _ => l.length - (intOf i).toNat)
    case atStart => exact ⟨0, by omega, rfl, by rw [sumT_zero]; simp, by rw [sumT_zero]; omega, Below.refl _ _⟩
    case round =>
      obtain ⟨k, hk, rfl, rfl, hge, HB⟩ := hrel
      by_cases hlt : k < l.length
      · obtain ⟨x, hx⟩ : ∃ x, l[k]? = some x := ⟨_, List.getElem?_eq_getElem hlt⟩
        obtain ⟨g, o, c, vb, ve, e1, i0, i1, i2, i3, i4, rb, re⟩ := (H.out.1.keep HB.out (Nat.le_refl _)).elem hx
        simp only [Value.slice.injEq, true_and] at e1
        obtain ⟨rfl, rfl⟩ := e1
        have HX : Hid (l[k]? = some x ∧ RdT wr n vb x.body ∧ RdT wr n ve x.els ∧ fitT n x.body ∧ fitT n x.els) := ⟨hx, rb, re, H.out.2 x (List.mem_of_getElem? hx)⟩
        obtain ⟨ab, cb, rfl⟩ := rb.is_slice
        obtain ⟨ae, ce, rfl⟩ := re.is_slice
        clear rb re hx
        go_wp2_with fail
        refine (szStmt_any n HI.out x _ _ _ wr HX.out.2.1 HX.out.2.2.1 HX.out.2.2.2.1 HX.out.2.2.2.2 hge (by omega)).mono ?_
        rintro e u ⟨rfl, hbu⟩
        have HB2 : Hid (Below w.heap.size w u) := below_on HB.out (Nat.le_refl _) hbu
        have hsn := sumT_next HX.out.1
        have hsl := sumT_le (n := n) (l := l) (k + 1)
        clear hbu HB i0 i1 i2 i3 i4
        by_cases hm : left - (l.length : Int) - (sumT n l k : Int) < ((sizeT n x.body + sizeT n x.els : Nat) : Int)
        · rw [szK_neg hm]
          have HR : Hid (szK left (sizeT (n + 1) l) = -1) := szK_neg (by omega)
          clear hsn hsl hm
          go_wp2_with fail
          go_ret
          exact ⟨(by rw [HR.out]; rfl), HB2.out⟩
        · rw [szK_pos (by omega)]
          have hq : left - (l.length : Int) - (sumT n l k : Int) - ((sizeT n x.body + sizeT n x.els : Nat) : Int) = left - (l.length : Int) - (sumT n l (k + 1) : Int) := by omega
          rw [hq]
          have hq0 : ¬ left - (l.length : Int) - (sumT n l (k + 1) : Int) < 0 := by omega
          have HS : Hid (0 ≤ left - (l.length : Int) - (sumT n l (k + 1) : Int)) := by show 0 ≤ left - (l.length : Int) - (sumT n l (k + 1) : Int); omega
          clear hsn hsl hm hq hge
          go_wp2_with fail
          go_roundw
          case rel => exact ⟨k + 1, by omega, by go_num, rfl, HS.out, HB2⟩
          case measure => simp [intOf]; omega
      · have hkn : k = l.length := by omega
        have HR : Hid (szK left (sizeT (n + 1) l) = left - (l.length : Int) - (sumT n l k : Int)) := by show szK left (sizeT (n + 1) l) = left - (l.length : Int) - (sumT n l k : Int); rw [sumT_all (i := k) (by omega), szK_pos (by omega)]; omega
        clear hge
        go_wp2_with fail
        go_ret
        exact ⟨(by rw [HR.out]; rfl), HB.out⟩
theorem szStmtS_any (n : Nat) : SzIs n := by
  induction n with
  | zero =>
    intro v t left w h hf h0 h1
    obtain ⟨a, c, rfl⟩ := h
    rw [show szK left (sizeT 0 t) = left from by rw [szK_pos (by simp [sizeT]; omega)]; simp [sizeT]]
    exact szStmtS_none 0 a c left w h0 h1
  | succ n ih => exact fun v t left w h hf h0 h1 => szStmtS_succ n ih v t left w h hf h0 h1
end Go.Proofs.Ytjlnglgfehefdaa
