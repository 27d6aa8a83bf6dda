import Derived.Test.YtalkpddhpmjgcaaGreatCm27
import Derived.Test.YtalkpddhpmjgcaaGreatCm36
namespace Go.Proofs.YtalkpddhpmjgcaaGreat
open Go.ChangeShapes Go.WideShapes Go.ChangeAt Go.RowKit
set_option linter.unusedVariables false
theorem ta_h_assignment (v : Value) (w : World) : (Instr.typeAssert (.iface 156 v) 129 131 true).run Tryz.prog w = .ok (.tuple #[.agg #[.int .i64 0], .bool false]) w := by kernel_rfl
theorem ta_h_choice (v : Value) (w : World) : (Instr.typeAssert (.iface 135 v) 129 131 true).run Tryz.prog w = .ok (.tuple #[.agg #[.int .i64 0], .bool false]) w := by kernel_rfl
theorem ta_h_repetition (v : Value) (w : World) : (Instr.typeAssert (.iface 133 v) 129 131 true).run Tryz.prog w = .ok (.tuple #[.agg #[.int .i64 0], .bool false]) w := by kernel_rfl
theorem ta_h (v : Value) (w : World) : (Instr.typeAssert (.iface 131 v) 129 131 true).run Tryz.prog w = .ok (.tuple #[v, .bool true]) w := by kernel_rfl
theorem calls_len0 {n : Nat} {t : TL n} (h : lenT n t = 0) (a b : Int) : callsT n t a b := by
  cases n with
  | zero => trivial
  | succ n =>
    have e : List.length t = 0 := h
    have e2 : t = ([] : List (SS (TL n))) := List.length_eq_zero_iff.1 e
    subst e2
    exact fun s hs => (by cases hs)
theorem calls_items (n : Nat) (t : TL n) (a b : Int) : callsT n t a b ↔ ∀ x ∈ itemsT n t, (x.k = 4 → a ≤ x.a ∧ x.a < b) ∧ callsT (n - 1) x.body a b ∧ callsT (n - 1) x.els a b := by
  cases n with
  | zero => exact ⟨fun _ x hx => (by cases hx), fun _ => trivial⟩
  | succ n => exact Iff.rfl
theorem ClTo.items {n : Nat} {t : TL n} {a b : Int} {k : Nat} (h : ClTo (n - 1) (itemsT n t) a b k) (hk : lenT n t ≤ k) : callsT n t a b := (calls_items n t a b).2 fun x hx => by
  obtain ⟨i, hi⟩ := List.getElem?_of_mem hx
  have := (List.getElem?_eq_some_iff.1 hi).1
  rw [items_len] at this
  exact h i x (by omega) hi
/-- What callsHold is asked for. -/
def ChIs (n : Nat) : Prop := ∀ (V : Value) (t : TL n) (a b : Int) (A : Nat → Prop) (w : World), RdI w A n V t → allOkT n t → sizeT n t ≤ 1048576 → Calls Tryz.prog 51 #[V, .int .i64 a, .int .i64 b] w fun e w' => SaysIff e (callsT n t a b) ∧ Below w.heap.size w w'
set_option maxHeartbeats 8000000 in
set_option maxRecDepth 100000 in
theorem callsHold_step (n : Nat) (ih : n = 0 ∨ ChIs (n - 1)) (V : Value) (t : TL n) (a b : Int) (A : Nat → Prop) (w : World) (h : RdI w A n V t) (hok : allOkT n t) (hsz : sizeT n t ≤ 1048576) : Calls Tryz.prog 51 #[V, .int .i64 a, .int .i64 b] w fun e w' => SaysIff e (callsT n t a b) ∧ Below w.heap.size w w' := by
  have HI : Hid (n = 0 ∨ ChIs (n - 1)) := ih
  obtain ⟨a1, c1, e1⟩ := h.is_slice
  subst e1
  have H : Hid (RdI w A n (.slice a1 (lenT n t) c1) t ∧ allOkT n t ∧ sizeT n t ≤ 1048576) := ⟨h, hok, hsz⟩
  have hL : lenT n t ≤ 1048576 := Nat.le_trans (len_le_size n t) hsz
  clear h ih hsz hok
  generalize hLL : lenT n t = L at H hL ⊢
  have HL : Hid (lenT n t = L) := hLL
  clear hLL
  go_enter Tryz.func51, Tryz.ntmps51
  go_wp2_with fail
  go_loopw [8, 9, 10, 11, 12, 15] (fun _ _ _ _ _ i wr => ∃ k : Nat, k ≤ L ∧ i = .int .i64 k ∧ Hid (Below w.heap.size w wr ∧ ClTo (n - 1) (itemsT n t) a b k)) (fun _ _ _ _ _ i _ => L - (intOf i).toNat)
  case atStart => exact ⟨0, by omega, rfl, Below.refl _ _, fun j x hj => absurd hj (by omega)⟩
  case round =>
    obtain ⟨k, hk, rfl, HK⟩ := hrel
    by_cases hlt : k < L
    · obtain ⟨x, hx⟩ : ∃ x, (itemsT n t)[k]? = some x := ⟨_, List.getElem?_eq_getElem (by rw [items_len, HL.out]; exact hlt)⟩
      obtain ⟨g, o, c, vb, ve, e1, i0, r2, r3⟩ := (H.out.1.keep HK.out.1).item hx
      rw [HL.out] at e1
      simp only [Value.slice.injEq, true_and] at e1
      obtain ⟨rfl, rfl⟩ := e1
      have hso := (items_ok n t).1 H.out.2.1 x (List.mem_of_getElem? hx)
      have hsm := Nat.le_trans (item_size hx) H.out.2.2
      have hIH : ChIs (n - 1) := by
        rcases HI.out with e | e
        · subst e; cases hx
        · exact e
      have HX : Hid ((itemsT n t)[k]? = some x ∧ allOkT (n - 1) x.body ∧ allOkT (n - 1) x.els ∧ 1 + sizeT (n - 1) x.body + sizeT (n - 1) x.els ≤ 1048576 ∧ ChIs (n - 1) ∧ (x.k = 2 → RdI wr A (n - 1) vb x.body ∧ RdI wr A (n - 1) ve x.els) ∧ (x.k = 3 → RdI wr A (n - 1) vb x.body)) := ⟨hx, hso.2.1, hso.2.2, hsm, hIH, r2, r3⟩
      have HK2 : Hid (((x.k = 4 → a ≤ x.a ∧ x.a < b) ∧ callsT (n - 1) x.body a b ∧ callsT (n - 1) x.els a b) → ClTo (n - 1) (itemsT n t) a b (k + 1)) := fun e => HK.out.2.next hx e
      have HNO : Hid (¬ ((x.k = 4 → a ≤ x.a ∧ x.a < b) ∧ callsT (n - 1) x.body a b ∧ callsT (n - 1) x.els a b) → ¬ callsT n t a b) := fun e e2 => e ((calls_items n t a b).1 e2 x (List.mem_of_getElem? hx))
      have HB : Hid (Below w.heap.size w wr) := HK.out.1
      have hK := hso.1
      clear hso hsm hIH r2 r3 hx HK
      have hcase : (x.k = 1 ∧ lenT (n - 1) x.body = 0 ∧ lenT (n - 1) x.els = 0) ∨ x.k = 2 ∨ (x.k = 3 ∧ lenT (n - 1) x.els = 0) ∨ (x.k = 4 ∧ lenT (n - 1) x.body = 0 ∧ lenT (n - 1) x.els = 0) := by
        unfold okS at hK
        omega
      clear hK
      rcases hcase with ⟨hk1, hz1, hz2⟩ | hk2 | ⟨hk3, hz2⟩ | ⟨hk4, hz1, hz2⟩
      · rw [iVal_1 hk1] at i0
        have HY : Hid (ClTo (n - 1) (itemsT n t) a b (k + 1)) := HK2.out ⟨fun e => by omega, calls_len0 hz1 a b, calls_len0 hz2 a b⟩
        have th := ta_h_assignment
        have ta := ta_r_assignment
        have tc := ta_c_assignment
        clear hk1 hz1 hz2
        go_wp2_with fail
        go_roundw
        case rel => exact ⟨k + 1, by omega, by go_num, HB.out, HY.out⟩
        case measure => simp [intOf]; omega
      · rw [iVal_2 hk2] at i0
        have th := ta_h_choice
        have ta := ta_r_choice
        have tc := ta_c
        obtain ⟨rb, re⟩ := HX.out.2.2.2.2.2.1 hk2
        obtain ⟨ab, cb, eb⟩ := rb.is_slice
        obtain ⟨ae, ce, ee⟩ := re.is_slice
        subst eb ee
        have HR : Hid (RdI wr A (n - 1) (.slice ab (lenT (n - 1) x.body) cb) x.body ∧ RdI wr A (n - 1) (.slice ae (lenT (n - 1) x.els) ce) x.els) := ⟨rb, re⟩
        have HKK : Hid (x.k = 2) := hk2
        clear rb re hk2
        generalize lenT (n - 1) x.body = lb at HR i0 ⊢
        generalize lenT (n - 1) x.els = le at HR i0 ⊢
        have E0 : Hid (Blk (wr.alloc (.cells #[.int .i64 x.a, .int .i64 x.b, .slice ab lb cb, .slice ae le ce] 135)) wr.heap.size #[.int .i64 x.a, .int .i64 x.b, .slice ab lb cb, .slice ae le ce] 135 ∧ Below wr.heap.size wr (wr.alloc (.cells #[.int .i64 x.a, .int .i64 x.b, .slice ab lb cb, .slice ae le ce] 135))) := ⟨Blk.new _ _ _, below_alloc _ _⟩
        go_upto_region 14 with fail
        clear th ta tc i0
        generalize hX : wr.heap.size = X at E0 ⊢
        have HXX : Hid (wr.heap.size = X) := hX
        clear hX
        refine wp_world (fun u => Hid (Blk u X #[.int .i64 x.a, .int .i64 x.b, .slice ab lb cb, .slice ae le ce] 135 ∧ Below X wr u)) E0 ?_
        rintro U E1
        clear E0
        have HU : Hid (Below wr.heap.size wr U) := by rw [HXX.out]; exact E1.out.2
        have j2 := E1.out.1.cell 2
        simp only [List.getElem?_toArray, List.getElem?_cons_zero, List.getElem?_cons_succ] at j2
        go_wp2_with fail
        refine (HX.out.2.2.2.2.1 _ x.body a b A U (HR.out.1.keep HU.out) HX.out.2.1 (by have := HX.out.2.2.2.1; omega)).mono ?_
        rintro e u1 ⟨⟨b1, rfl, hb1⟩, bl1⟩
        have HB1 : Hid ((b1 = true ↔ callsT (n - 1) x.body a b) ∧ Below U.heap.size U u1) := ⟨hb1, bl1⟩
        clear hb1 bl1 j2
        cases b1
        · have HN : Hid (¬ callsT n t a b) := HNO.out fun e => by have := HB1.out.1.2 e.2.1; cases this
          have HB2 : Hid (Below w.heap.size w u1) := below_on (below_on HB.out (Nat.le_refl _) HU.out) (Nat.le_refl _) HB1.out.2
          clear HB1 E1
          go_wp2_with fail
          go_ret
          exact ⟨.no HN.out, HB2.out⟩
        · have HC1 : Hid (callsT (n - 1) x.body a b ∧ Below U.heap.size U u1) := ⟨HB1.out.1.1 rfl, HB1.out.2⟩
          clear HB1
          have j3 := (E1.out.1.keep HC1.out.2).cell 3
          simp only [List.getElem?_toArray, List.getElem?_cons_zero, List.getElem?_cons_succ] at j3
          go_wp2_with fail
          refine (HX.out.2.2.2.2.1 _ x.els a b A u1 ((HR.out.2.keep HU.out).keep HC1.out.2) HX.out.2.2.1 (by have := HX.out.2.2.2.1; omega)).mono ?_
          rintro e u2 ⟨⟨b2, rfl, hb2⟩, bl2⟩
          have HB2 : Hid (Below w.heap.size w u2) := below_on (below_on (below_on HB.out (Nat.le_refl _) HU.out) (Nat.le_refl _) HC1.out.2) (Nat.le_refl _) bl2
          have HQ2 : Hid (b2 = true ↔ callsT (n - 1) x.els a b) := hb2
          clear hb2 bl2 j3 E1
          cases b2
          · have HN : Hid (¬ callsT n t a b) := HNO.out fun e => by have := HQ2.out.2 e.2.2; cases this
            clear HQ2
            go_wp2_with fail
            go_ret
            exact ⟨.no HN.out, HB2.out⟩
          · have HY : Hid (ClTo (n - 1) (itemsT n t) a b (k + 1)) := HK2.out ⟨fun e => (by have := HKK.out; omega), HC1.out.1, HQ2.out.1 rfl⟩
            clear HQ2
            go_wp2_with fail
            go_roundw
            case rel => exact ⟨k + 1, by omega, by go_num, HB2.out, HY.out⟩
            case measure => simp [intOf]; omega
      · rw [iVal_3 hk3] at i0
        have th := ta_h_repetition
        have ta := ta_r
        have rb := HX.out.2.2.2.2.2.2 hk3
        obtain ⟨ab, cb, eb⟩ := rb.is_slice
        subst eb
        have HR : Hid (RdI wr A (n - 1) (.slice ab (lenT (n - 1) x.body) cb) x.body) := rb
        have HKK : Hid (x.k = 3 ∧ callsT (n - 1) x.els a b) := ⟨hk3, calls_len0 hz2 a b⟩
        clear rb hk3 hz2
        generalize lenT (n - 1) x.body = lb at HR i0 ⊢
        have E0 : Hid (Blk (wr.alloc (.cells #[.int .i64 x.b, .slice ab lb cb] 133)) wr.heap.size #[.int .i64 x.b, .slice ab lb cb] 133 ∧ Below wr.heap.size wr (wr.alloc (.cells #[.int .i64 x.b, .slice ab lb cb] 133))) := ⟨Blk.new _ _ _, below_alloc _ _⟩
        go_upto_region 11 with fail
        clear th ta i0
        generalize hX : wr.heap.size = X at E0 ⊢
        have HXX : Hid (wr.heap.size = X) := hX
        clear hX
        refine wp_world (fun u => Hid (Blk u X #[.int .i64 x.b, .slice ab lb cb] 133 ∧ Below X wr u)) E0 ?_
        rintro U E1
        clear E0
        have HU : Hid (Below wr.heap.size wr U) := by rw [HXX.out]; exact E1.out.2
        have j1 := E1.out.1.cell 1
        simp only [List.getElem?_toArray, List.getElem?_cons_zero, List.getElem?_cons_succ] at j1
        go_wp2_with fail
        refine (HX.out.2.2.2.2.1 _ x.body a b A U (HR.out.keep HU.out) HX.out.2.1 (by have := HX.out.2.2.2.1; omega)).mono ?_
        rintro e u1 ⟨⟨b1, rfl, hb1⟩, bl1⟩
        have HB2 : Hid (Below w.heap.size w u1) := below_on (below_on HB.out (Nat.le_refl _) HU.out) (Nat.le_refl _) bl1
        have HQ2 : Hid (b1 = true ↔ callsT (n - 1) x.body a b) := hb1
        clear hb1 bl1 j1 E1
        cases b1
        · have HN : Hid (¬ callsT n t a b) := HNO.out fun e => by have := HQ2.out.2 e.2.1; cases this
          clear HQ2
          go_wp2_with fail
          go_ret
          exact ⟨.no HN.out, HB2.out⟩
        · have HY : Hid (ClTo (n - 1) (itemsT n t) a b (k + 1)) := HK2.out ⟨fun e => (by have := HKK.out.1; omega), HQ2.out.1 rfl, HKK.out.2⟩
          clear HQ2
          go_wp2_with fail
          go_roundw
          case rel => exact ⟨k + 1, by omega, by go_num, HB2.out, HY.out⟩
          case measure => simp [intOf]; omega
      · rw [iVal_4 hk4] at i0
        have th := ta_h
        have HKK : Hid (x.k = 4 ∧ callsT (n - 1) x.body a b ∧ callsT (n - 1) x.els a b) := ⟨hk4, calls_len0 hz1 a b, calls_len0 hz2 a b⟩
        clear hk4 hz1 hz2
        have E0 : Hid (Blk (wr.alloc (.cells #[.int .i64 x.a] 131)) wr.heap.size #[.int .i64 x.a] 131 ∧ Below wr.heap.size wr (wr.alloc (.cells #[.int .i64 x.a] 131))) := ⟨Blk.new _ _ _, below_alloc _ _⟩
        go_upto_region 8 with fail
        clear th i0
        generalize hX : wr.heap.size = X at E0 ⊢
        have HXX : Hid (wr.heap.size = X) := hX
        clear hX
        refine wp_world (fun u => Hid (Blk u X #[.int .i64 x.a] 131 ∧ Below X wr u)) E0 ?_
        rintro U E1
        clear E0
        have HU : Hid (Below w.heap.size w U) := below_on HB.out (Nat.le_refl _) (by rw [HXX.out]; exact E1.out.2)
        have j0 := E1.out.1.cell 0
        simp only [List.getElem?_toArray, List.getElem?_cons_zero] at j0
        by_cases hg : a ≤ x.a
        · have hg' : decide (x.a ≥ a) = true := by simpa using hg
          have hgg : x.a ≥ a := hg
          by_cases hg2 : x.a < b
          · have hg2' : decide (x.a < b) = true := by simpa using hg2
            have HY : Hid (ClTo (n - 1) (itemsT n t) a b (k + 1)) := HK2.out ⟨fun e => ⟨hg, hg2⟩, HKK.out.2⟩
            clear E1
            go_wp2_with fail
            go_roundw
            case rel => exact ⟨k + 1, by omega, by go_num, HU.out, HY.out⟩
            case measure => simp [intOf]; omega
          · have hg2' : decide (x.a < b) = false := by simpa using hg2
            have HN : Hid (¬ callsT n t a b) := HNO.out fun e => hg2 (e.1 HKK.out.1).2
            clear E1
            go_wp2_with fail
            go_ret
            exact ⟨.no HN.out, HU.out⟩
        · have hg' : decide (x.a ≥ a) = false := by simpa using hg
          have hgg : ¬ x.a ≥ a := hg
          have HN : Hid (¬ callsT n t a b) := HNO.out fun e => hg (e.1 HKK.out.1).1
          clear E1
          go_wp2_with fail
          go_ret
          exact ⟨.no HN.out, HU.out⟩
    · have hkn : k = L := by omega
      subst hkn
      have HY : Hid (callsT n t a b) := HK.out.2.items (by rw [HL.out]; exact Nat.le_refl _)
      go_wp2_with fail
      go_ret
      exact ⟨.yes HY.out, HK.out.1⟩
theorem callsHold_any (n : Nat) : ChIs n := by
  induction n with
  | zero => exact fun V t a b A w h hok hs => callsHold_step 0 (.inl rfl) V t a b A w h hok hs
  | succ n ih => exact fun V t a b A w h hok hs => callsHold_step (n + 1) (.inr ih) V t a b A w h hok hs
end Go.Proofs.YtalkpddhpmjgcaaGreat
