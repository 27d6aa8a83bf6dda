import Derived.Test.YtalkpddhpmjgcaaGreatCm9
import Derived.Deep.RegionHeld3
namespace Go.Proofs.YtalkpddhpmjgcaaGreat
open Go.ChangeShapes Go.WideShapes Go.ChangeAt Go.RowKit
set_option linter.unusedVariables false
/-- As Rd, in a block of which A holds. -/
def RdA (w : World) (A : Nat → Prop) (s : Value) (n : Nat) (xs : List Value) : Prop :=
  xs.length = n ∧ ((n = 0 ∧ ∃ a c, s = .slice a 0 c) ∨ ∃ g o c, s = .slice (some ⟨g, o, none⟩) n c ∧ A g ∧ ∀ j u, xs[j]? = some u → w.cell? ⟨g, o + j, none⟩ = some u)
/-- A statement as a value. -/
def iVal {α : Type} (y : SS α × Value × Value) : Value :=
  if y.1.k = 1 then .iface 156 (.agg #[.int .i64 y.1.a, .int .i64 y.1.b])
  else if y.1.k = 2 then .iface 135 (.agg #[.int .i64 y.1.a, .int .i64 y.1.b, y.2.1, y.2.2])
  else if y.1.k = 3 then .iface 133 (.agg #[.int .i64 y.1.b, y.2.1])
  else .iface 131 (.agg #[.int .i64 y.1.a])
/-- A value reads as a list of statements, in blocks of which A holds. -/
def RdI (w : World) (A : Nat → Prop) : (n : Nat) → Value → TL n → Prop
  | 0, s, _ => ∃ a c, s = .slice a 0 c
  | n + 1, s, l => ∃ xs : List (SS (TL n) × Value × Value), List.map Prod.fst xs = l ∧ RdA w A s (List.length l) (xs.map iVal) ∧ ∀ x, List.Mem x xs → (x.1.k = 2 → RdI w A n x.2.1 x.1.body ∧ RdI w A n x.2.2 x.1.els) ∧ (x.1.k = 3 → RdI w A n x.2.1 x.1.body)
theorem RdA.is_slice {w : World} {A : Nat → Prop} {s : Value} {n : Nat} {xs : List Value} (h : RdA w A s n xs) : ∃ a c, s = .slice a n c := by
  rcases h.2 with ⟨rfl, a, c, rfl⟩ | ⟨g, o, c, rfl, _⟩ <;> exact ⟨_, _, rfl⟩
theorem RdI.is_slice {w : World} {A : Nat → Prop} {n : Nat} {s : Value} {t : TL n} (h : RdI w A n s t) : ∃ a c, s = .slice a (lenT n t) c := by
  cases n with
  | zero => exact h
  | succ n => obtain ⟨xs, h1, h2, h3⟩ := h; exact h2.is_slice
theorem RdA.step {w w' : World} {A A' : Nat → Prop} {s : Value} {n : Nat} {xs : List Value} (h : RdA w A s n xs) (hc : ∀ b, A b → b < w.heap.size → w'.heap[b]? = w.heap[b]?) (hA : ∀ b, A b → b < w.heap.size → A' b) : RdA w' A' s n xs := by
  obtain ⟨hl, h | ⟨g, o, c, rfl, ha, hcs⟩⟩ := h
  · exact ⟨hl, .inl h⟩
  · by_cases hn : n = 0
    · subst hn
      exact ⟨hl, .inl ⟨rfl, _, _, rfl⟩⟩
    have hlt : g < w.heap.size := by
      obtain ⟨u, hu⟩ : ∃ u, xs[0]? = some u := ⟨_, List.getElem?_eq_getElem (by omega)⟩
      exact block_lt_of_cell (hcs 0 u hu)
    refine ⟨hl, .inr ⟨g, o, c, rfl, hA g ha hlt, fun j u hj => ?_⟩⟩
    have h1 := hcs j u hj
    unfold World.cell? at h1 ⊢
    simp only [hc g ha hlt] at h1 ⊢
    exact h1
theorem RdI.step {w w' : World} {A A' : Nat → Prop} {n : Nat} {s : Value} {t : TL n} (h : RdI w A n s t) (hc : ∀ b, A b → b < w.heap.size → w'.heap[b]? = w.heap[b]?) (hA : ∀ b, A b → b < w.heap.size → A' b) : RdI w' A' n s t := by
  induction n generalizing s with
  | zero => exact h
  | succ n ih =>
    obtain ⟨xs, h1, h2, h3⟩ := h
    exact ⟨xs, h1, h2.step hc hA, fun x hx => ⟨fun e => ⟨ih ((h3 x hx).1 e).1, ih ((h3 x hx).1 e).2⟩, fun e => ih ((h3 x hx).2 e)⟩⟩
theorem RdI.keep {w w' : World} {A : Nat → Prop} {n : Nat} {s : Value} {t : TL n} (h : RdI w A n s t) (hb : Below w.heap.size w w') : RdI w' A n s t := h.step (fun b _ hb' => hb.block b hb') (fun b ha _ => ha)
/-- One of the statements. -/
theorem RdI.item {w : World} {A : Nat → Prop} {n : Nat} {s : Value} {t : TL n} (h : RdI w A n s t) {i : Nat} {x : SS (TL (n - 1))} (hx : (itemsT n t)[i]? = some x) :
    ∃ g o c vb ve, s = .slice (some ⟨g, o, none⟩) (lenT n t) c ∧ w.cell? ⟨g, o + i, none⟩ = some (iVal (x, vb, ve)) ∧ (x.k = 2 → RdI w A (n - 1) vb x.body ∧ RdI w A (n - 1) ve x.els) ∧ (x.k = 3 → RdI w A (n - 1) vb x.body) := by
  cases n with
  | zero => cases hx
  | succ n =>
    obtain ⟨xs, h1, h2, h3⟩ := h
    have hlt := (List.getElem?_eq_some_iff.1 hx).1
    have hx' : (List.map Prod.fst xs)[i]? = some x := by rw [h1]; exact hx
    obtain ⟨y, hy, hy1⟩ : ∃ y, xs[i]? = some y ∧ y.1 = x := by
      rw [List.getElem?_map] at hx'
      cases hy : xs[i]? with
      | none => rw [hy] at hx'; cases hx'
      | some y => rw [hy] at hx'; exact ⟨y, rfl, Option.some.inj hx'⟩
    subst hy1
    rcases h2.2 with ⟨e, _⟩ | ⟨g, o, c, e, _, hc⟩
    · exact absurd e (by have : (itemsT (n + 1) t).length = List.length t := rfl; omega)
    · have hm := h3 y (List.mem_of_getElem? hy)
      exact ⟨g, o, c, y.2.1, y.2.2, e, hc i _ (by rw [List.getElem?_map, hy]; rfl), hm.1, hm.2⟩
theorem lev_items (n : Nat) (t : TL n) : levT n t = levN (n - 1) (itemsT n t) (lenT n t) := by
  cases n with
  | zero => rfl
  | succ n => exact (levN_all (Nat.le_refl _)).symm
theorem iVal_1 {α : Type} {x : SS α} (h : x.k = 1) (vb ve : Value) : iVal (x, vb, ve) = .iface 156 (.agg #[.int .i64 x.a, .int .i64 x.b]) := by simp [iVal, h]
theorem iVal_2 {α : Type} {x : SS α} (h : x.k = 2) (vb ve : Value) : iVal (x, vb, ve) = .iface 135 (.agg #[.int .i64 x.a, .int .i64 x.b, vb, ve]) := by simp [iVal, h]
theorem iVal_3 {α : Type} {x : SS α} (h : x.k = 3) (vb ve : Value) : iVal (x, vb, ve) = .iface 133 (.agg #[.int .i64 x.b, vb]) := by simp [iVal, h]
theorem iVal_4 {α : Type} {x : SS α} (h : x.k = 4) (vb ve : Value) : iVal (x, vb, ve) = .iface 131 (.agg #[.int .i64 x.a]) := by simp [iVal, h]
theorem ta_r_assignment (v : Value) (w : World) : (Instr.typeAssert (.iface 156 v) 129 133 true).run Tryz.prog w = .ok (.tuple #[.agg #[.int .i64 0, .slice none 0 0], .bool false]) w := by kernel_rfl
theorem ta_r_choice (v : Value) (w : World) : (Instr.typeAssert (.iface 135 v) 129 133 true).run Tryz.prog w = .ok (.tuple #[.agg #[.int .i64 0, .slice none 0 0], .bool false]) w := by kernel_rfl
theorem ta_r_helperCall (v : Value) (w : World) : (Instr.typeAssert (.iface 131 v) 129 133 true).run Tryz.prog w = .ok (.tuple #[.agg #[.int .i64 0, .slice none 0 0], .bool false]) w := by kernel_rfl
theorem ta_c_assignment (v : Value) (w : World) : (Instr.typeAssert (.iface 156 v) 129 135 true).run Tryz.prog w = .ok (.tuple #[.agg #[.int .i64 0, .int .i64 0, .slice none 0 0, .slice none 0 0], .bool false]) w := by kernel_rfl
theorem ta_c_repetition (v : Value) (w : World) : (Instr.typeAssert (.iface 133 v) 129 135 true).run Tryz.prog w = .ok (.tuple #[.agg #[.int .i64 0, .int .i64 0, .slice none 0 0, .slice none 0 0], .bool false]) w := by kernel_rfl
theorem ta_c_helperCall (v : Value) (w : World) : (Instr.typeAssert (.iface 131 v) 129 135 true).run Tryz.prog w = .ok (.tuple #[.agg #[.int .i64 0, .int .i64 0, .slice none 0 0, .slice none 0 0], .bool false]) w := by kernel_rfl
theorem ta_r (v : Value) (w : World) : (Instr.typeAssert (.iface 133 v) 129 133 true).run Tryz.prog w = .ok (.tuple #[v, .bool true]) w := by kernel_rfl
theorem ta_c (v : Value) (w : World) : (Instr.typeAssert (.iface 135 v) 129 135 true).run Tryz.prog w = .ok (.tuple #[v, .bool true]) w := by kernel_rfl
/-- What levelsOf is asked for. -/
def LoIs (n : Nat) : Prop := ∀ (v : Value) (t : TL n) (A : Nat → Prop) (w : World), RdI w A n v t → allOkT n t → sizeT n t ≤ 1048576 → Calls Tryz.prog 55 #[v] w fun e w' => e = .returned (.int .i64 (levT n t : Int)) ∧ Below w.heap.size w w'
theorem lev_len0 {n : Nat} {t : TL n} (h : lenT n t = 0) : levT n t = 0 := by
  have h1 := lev_le_size n t
  have h2 := size_len0 h
  omega
set_option maxHeartbeats 8000000 in
set_option maxRecDepth 100000 in
theorem levelsOf_step (n : Nat) (ih : n = 0 ∨ LoIs (n - 1)) (v : Value) (t : TL n) (A : Nat → Prop) (w : World) (h : RdI w A n v t) (hok : allOkT n t) (hsz : sizeT n t ≤ 1048576) : Calls Tryz.prog 55 #[v] w fun e w' => e = .returned (.int .i64 (levT n t : Int)) ∧ Below w.heap.size w w' := by
  have HI : Hid (n = 0 ∨ LoIs (n - 1)) := ih
  obtain ⟨a1, c1, e1⟩ := h.is_slice
  subst e1
  have H : Hid (RdI w A n (.slice a1 (lenT n t) c1) t ∧ allOkT n t ∧ sizeT n t ≤ 1048576) := ⟨h, hok, hsz⟩
  have hL : lenT n t ≤ 1048576 := Nat.le_trans (len_le_size n t) hsz
  clear h ih hsz hok
  generalize hLL : lenT n t = L at H hL ⊢
  have HL : Hid (lenT n t = L) := hLL
  clear hLL
  go_enter Tryz.func55, Tryz.ntmps55
  go_wp2_with fail
  go_loopw [3, 5, 6, 7, 10] (fun m _ _ _ i wr => ∃ k : Nat, k ≤ L ∧ i = .int .i64 k ∧ m = .int .i64 (levN (n - 1) (itemsT n t) k : Int) ∧ Hid (Below w.heap.size w wr)) (fun _ _ _ _ i _ => L - (intOf i).toNat)
  case atStart => exact ⟨0, by omega, rfl, rfl, Below.refl _ _⟩
  case round =>
    obtain ⟨k, hk, rfl, rfl, HB⟩ := hrel
    by_cases hlt : k < L
    · obtain ⟨x, hx⟩ : ∃ x, (itemsT n t)[k]? = some x := ⟨_, List.getElem?_eq_getElem (by rw [items_len, HL.out]; exact hlt)⟩
      obtain ⟨g, o, c, vb, ve, e1, i0, r2, r3⟩ := (H.out.1.keep HB.out).item hx
      rw [HL.out] at e1
      simp only [Value.slice.injEq, true_and] at e1
      obtain ⟨rfl, rfl⟩ := e1
      have hso := (items_ok n t).1 H.out.2.1 x (List.mem_of_getElem? hx)
      have hsm := Nat.le_trans (item_size hx) H.out.2.2
      have hIH : LoIs (n - 1) := by
        rcases HI.out with e | e
        · subst e; cases hx
        · exact e
      have HX : Hid (allOkT (n - 1) x.body ∧ allOkT (n - 1) x.els ∧ 1 + sizeT (n - 1) x.body + sizeT (n - 1) x.els ≤ 1048576 ∧ LoIs (n - 1) ∧ (x.k = 2 → RdI wr A (n - 1) vb x.body ∧ RdI wr A (n - 1) ve x.els) ∧ (x.k = 3 → RdI wr A (n - 1) vb x.body)) := ⟨hso.2.1, hso.2.2, hsm, hIH, r2, r3⟩
      have HN : Hid (levN (n - 1) (itemsT n t) (k + 1) = max (levN (n - 1) (itemsT n t) k) (levS (n - 1) (levT (n - 1)) x)) := levN_next hx
      have hb1 := lev_le_size (n - 1) x.body
      have hb2 := lev_le_size (n - 1) x.els
      have HLV : Hid (levT (n - 1) x.body ≤ 1048576 ∧ levT (n - 1) x.els ≤ 1048576) := ⟨by omega, by omega⟩
      have hK := hso.1
      clear hso hsm hIH r2 r3 hb1 hb2 hx
      have hcase : (x.k = 1 ∧ levS (n - 1) (levT (n - 1)) x = 0) ∨ x.k = 2 ∨ x.k = 3 ∨ (x.k = 4 ∧ levS (n - 1) (levT (n - 1)) x = 0) := by
        unfold okS at hK
        rcases hK with ⟨e, _, _, h1, h2⟩ | ⟨e, _⟩ | ⟨e, _⟩ | ⟨e, _, _, h1, h2⟩
        · refine .inl ⟨e, ?_⟩; unfold levS; rw [if_neg (by omega), lev_len0 h1, lev_len0 h2]; rfl
        · exact .inr (.inl e)
        · exact .inr (.inr (.inl e))
        · refine .inr (.inr (.inr ⟨e, ?_⟩)); unfold levS; rw [if_neg (by omega), lev_len0 h1, lev_len0 h2]; rfl
      have HKL : Hid (x.k = 3 → levT (n - 1) x.els = 0) := fun e => by
        unfold okS at hK
        rcases hK with ⟨e', _⟩ | ⟨e', _⟩ | ⟨_, _, _, h2⟩ | ⟨e', _⟩
        · omega
        · omega
        · exact lev_len0 h2
        · omega
      clear hK
      rcases hcase with ⟨hk1, hz⟩ | hk2 | hk3 | ⟨hk4, hz⟩
      · rw [iVal_1 hk1] at i0
        have HZ : Hid (levS (n - 1) (levT (n - 1)) x = 0) := hz
        have ta := ta_r_assignment
        have tc := ta_c_assignment
        clear hk1 hz
        go_wp2_with fail
        go_roundw
        case rel => exact ⟨k + 1, by omega, by go_num, by rw [HN.out, HZ.out]; simp, HB⟩
        case measure => simp [intOf]; omega
      · rw [iVal_2 hk2] at i0
        have ta := ta_r_choice
        have tc := ta_c
        obtain ⟨rb, re⟩ := HX.out.2.2.2.2.1 hk2
        obtain ⟨ab, cb, eb⟩ := rb.is_slice
        obtain ⟨ae, ce, ee⟩ := re.is_slice
        subst eb ee
        have HR : Hid (RdI wr A (n - 1) (.slice ab (lenT (n - 1) x.body) cb) x.body ∧ RdI wr A (n - 1) (.slice ae (lenT (n - 1) x.els) ce) x.els) := ⟨rb, re⟩
        have HS : Hid (levS (n - 1) (levT (n - 1)) x = max (levT (n - 1) x.body) (levT (n - 1) x.els)) := by show levS (n - 1) (levT (n - 1)) x = _; unfold levS; rw [if_neg (by omega)]
        clear rb re hk2
        generalize lenT (n - 1) x.body = lb at HR i0 ⊢
        generalize lenT (n - 1) x.els = le at HR i0 ⊢
        have E0 : Hid (Blk (wr.alloc (.cells #[.int .i64 x.a, .int .i64 x.b, .slice ab lb cb, .slice ae le ce] 135)) wr.heap.size #[.int .i64 x.a, .int .i64 x.b, .slice ab lb cb, .slice ae le ce] 135 ∧ Below wr.heap.size wr (wr.alloc (.cells #[.int .i64 x.a, .int .i64 x.b, .slice ab lb cb, .slice ae le ce] 135))) := ⟨Blk.new _ _ _, below_alloc _ _⟩
        go_upto_region 11 with fail
        clear ta tc i0
        generalize hX : wr.heap.size = X at E0 ⊢
        have HXX : Hid (wr.heap.size = X) := hX
        clear hX
        refine wp_world (fun u => Hid (Blk u X #[.int .i64 x.a, .int .i64 x.b, .slice ab lb cb, .slice ae le ce] 135 ∧ Below X wr u)) E0 ?_
        rintro U E1
        clear E0
        have HU : Hid (Below wr.heap.size wr U) := by rw [HXX.out]; exact E1.out.2
        have HRU : Hid (RdI U A (n - 1) (.slice ab lb cb) x.body ∧ RdI U A (n - 1) (.slice ae le ce) x.els) := ⟨HR.out.1.keep HU.out, HR.out.2.keep HU.out⟩
        have HCU : Hid (∀ u, Below U.heap.size U u → u.cell? ⟨X, 2, none⟩ = some (.slice ab lb cb) ∧ u.cell? ⟨X, 3, none⟩ = some (.slice ae le ce)) := fun u hu => ⟨(E1.out.1.keep hu).cell 2, (E1.out.1.keep hu).cell 3⟩
        have HBU : Hid (Below w.heap.size w U) := below_on HB.out (Nat.le_refl _) HU.out
        clear HR HU E1 HXX
        have hv1 := HLV.out.1
        have hv2 := HLV.out.2
        have D1 : Hid (Below U.heap.size U U) := Below.refl _ _
        have D0 : Hid (Below U.heap.size U U.drew) := below_drew1 _
        have KS := HCU.out U.drew D0.out
        go_region_held3 (fun w' => w'.cell? ⟨X, 2, none⟩ = some (.slice ab lb cb) ∧ w'.cell? ⟨X, 3, none⟩ = some (.slice ae le ce)) (first | with_reducible exact KS | exact HCU.out _ (by (repeat' (first | with_reducible exact Hid.out (by assumption) | (with_reducible refine below_on ?_ (Nat.le_refl _) (below_alloc _ _)) | (with_reducible refine below_on ?_ (Nat.le_refl _) (below_drew1 _)))))) (first
          | (go_at_call 55; have hh := B3; clear hh; refine (HX.out.2.2.2.1 (.slice ae le ce) x.els A _ ?_ HX.out.2.1 ?_).mono ?_; exact HRU.out.2.keep (by (repeat' (first | with_reducible exact Hid.out (by assumption) | (with_reducible refine below_on ?_ (Nat.le_refl _) (below_alloc _ _)) | (with_reducible refine below_on ?_ (Nat.le_refl _) (below_drew1 _))))); (have := HX.out.2.2.1; omega); rintro e k4 ⟨rfl, bb1⟩; have B4 : Hid (Below U.heap.size U k4) := below_on (by (repeat' (first | with_reducible exact Hid.out (by assumption) | (with_reducible refine below_on ?_ (Nat.le_refl _) (below_alloc _ _)) | (with_reducible refine below_on ?_ (Nat.le_refl _) (below_drew1 _))))) (Nat.le_refl _) bb1; have KS := HCU.out k4 B4.out; clear bb1)
          | (go_at_call 55; refine (HX.out.2.2.2.1 (.slice ab lb cb) x.body A _ ?_ HX.out.1 ?_).mono ?_; exact HRU.out.1.keep (by (repeat' (first | with_reducible exact Hid.out (by assumption) | (with_reducible refine below_on ?_ (Nat.le_refl _) (below_alloc _ _)) | (with_reducible refine below_on ?_ (Nat.le_refl _) (below_drew1 _))))); (have := HX.out.2.2.1; omega); rintro e k3 ⟨rfl, bb1⟩; have B3 : Hid (Below U.heap.size U k3) := below_on (by (repeat' (first | with_reducible exact Hid.out (by assumption) | (with_reducible refine below_on ?_ (Nat.le_refl _) (below_alloc _ _)) | (with_reducible refine below_on ?_ (Nat.le_refl _) (below_drew1 _))))) (Nat.le_refl _) bb1; have KS := HCU.out k3 B3.out; clear bb1))
        all_goals
          have HB2 : Hid (Below w.heap.size w k4) := below_on HBU.out (Nat.le_refl _) B4.out
          clear KS D0 D1 B3 B4
          go_wp2_with fail
          go_roundw
          case rel => exact ⟨k + 1, by omega, by go_num, (by rw [HN.out, HS.out]; congr 1; repeat' split; all_goals omega), HB2⟩
          case measure => simp [intOf]; omega
      · rw [iVal_3 hk3] at i0
        have ta := ta_r
        have rb := HX.out.2.2.2.2.2 hk3
        obtain ⟨ab, cb, eb⟩ := rb.is_slice
        subst eb
        have HR : Hid (RdI wr A (n - 1) (.slice ab (lenT (n - 1) x.body) cb) x.body) := rb
        have HS : Hid (levS (n - 1) (levT (n - 1)) x = levT (n - 1) x.body + 1) := by
          show levS (n - 1) (levT (n - 1)) x = _
          unfold levS
          rw [if_pos hk3, HKL.out hk3]
          simp
        clear rb hk3
        generalize lenT (n - 1) x.body = lb at HR i0 ⊢
        have E0 : Hid (Blk (wr.alloc (.cells #[.int .i64 x.b, .slice ab lb cb] 133)) wr.heap.size #[.int .i64 x.b, .slice ab lb cb] 133 ∧ Below wr.heap.size wr (wr.alloc (.cells #[.int .i64 x.b, .slice ab lb cb] 133))) := ⟨Blk.new _ _ _, below_alloc _ _⟩
        go_upto_region 8 with fail
        clear ta i0
        generalize hX : wr.heap.size = X at E0 ⊢
        have HXX : Hid (wr.heap.size = X) := hX
        clear hX
        refine wp_world (fun u => Hid (Blk u X #[.int .i64 x.b, .slice ab lb cb] 133 ∧ Below X wr u)) E0 ?_
        rintro U E1
        clear E0
        have j1 := E1.out.1.cell 1
        simp only [List.getElem?_toArray, List.getElem?_cons_zero, List.getElem?_cons_succ] at j1
        have hv1 := HLV.out.1
        go_wp2_with fail
        refine (HX.out.2.2.2.1 _ x.body A U (HR.out.keep (by rw [HXX.out]; exact E1.out.2)) HX.out.1 (by have := HX.out.2.2.1; omega)).mono ?_
        rintro e u2 ⟨rfl, b2⟩
        have HB2 : Hid (Below w.heap.size w u2) := below_on (below_on HB.out (Nat.le_refl _) (by rw [HXX.out]; exact E1.out.2)) (Nat.le_refl _) b2
        clear b2 E1 j1
        go_wp2_with fail
        go_roundw
        case rel => exact ⟨k + 1, by omega, by go_num, (by rw [HN.out, HS.out]; congr 1; split <;> omega), HB2⟩
        case measure => simp [intOf]; omega
      · rw [iVal_4 hk4] at i0
        have HZ : Hid (levS (n - 1) (levT (n - 1)) x = 0) := hz
        have ta := ta_r_helperCall
        have tc := ta_c_helperCall
        clear hk4 hz
        go_wp2_with fail
        go_roundw
        case rel => exact ⟨k + 1, by omega, by go_num, by rw [HN.out, HZ.out]; simp, HB⟩
        case measure => simp [intOf]; omega
    · have hkn : k = L := by omega
      subst hkn
      have HY : Hid (levT n t = levN (n - 1) (itemsT n t) k) := by show levT n t = _; rw [lev_items, HL.out]
      go_wp2_with fail
      go_ret
      exact ⟨by rw [HY.out]; rfl, HB.out⟩
theorem levelsOf_any (n : Nat) : LoIs n := by
  induction n with
  | zero => exact fun v t A w h hok hs => levelsOf_step 0 (.inl rfl) v t A w h hok hs
  | succ n ih => exact fun v t A w h hok hs => levelsOf_step (n + 1) (.inr ih) v t A w h hok hs
end Go.Proofs.YtalkpddhpmjgcaaGreat
namespace Go.Proofs.YtalkpddhpmjgcaaGreat
open Go.ChangeShapes Go.WideShapes Go.ChangeAt Go.RowKit
set_option linter.unusedVariables false
theorem infoIK : (Tryz.prog.info? 129).map (fun i => (i.zero, i.size, i.bytes)) = some (some .nilIface, 1, 16) := by kernel_rfl
/-- Where the reading of statements stands. -/
structure SoAt (w u : World) (m : Nat) (V : Value) (xs : List (SS (TL m) × Value × Value)) : Prop where
  row : u.ownsRow w.heap.size 129 1 V xs.length (xs.map iVal)
  els : ∀ x ∈ xs, (x.1.k = 2 → RdI u (fun b => w.heap.size ≤ b ∧ V.ownBlock ≠ some b) m x.2.1 x.1.body ∧ RdI u (fun b => w.heap.size ≤ b ∧ V.ownBlock ≠ some b) m x.2.2 x.1.els) ∧ (x.1.k = 3 → RdI u (fun b => w.heap.size ≤ b ∧ V.ownBlock ≠ some b) m x.2.1 x.1.body)
  bel : Below w.heap.size w u
theorem SoAt.keep {w u u' : World} {m : Nat} {V : Value} {xs : List (SS (TL m) × Value × Value)} (h : SoAt w u m V xs) (hb : Below u.heap.size u u') : SoAt w u' m V xs := ⟨own_keep h.row hb (Nat.le_refl _), fun x hx => ⟨fun e => ⟨((h.els x hx).1 e).1.keep hb, ((h.els x hx).1 e).2.keep hb⟩, fun e => ((h.els x hx).2 e).keep hb⟩, below_on h.bel (Nat.le_refl _) hb⟩
theorem SoAt.app {w u z u' : World} {m : Nat} {V : Value} {xs : List (SS (TL m) × Value × Value)} (h : SoAt w u m V xs) (hz : Below u.heap.size u z) {y : SS (TL m) × Value × Value} (hy : (y.1.k = 2 → RdI z (fun b => u.heap.size ≤ b) m y.2.1 y.1.body ∧ RdI z (fun b => u.heap.size ≤ b) m y.2.2 y.1.els) ∧ (y.1.k = 3 → RdI z (fun b => u.heap.size ≤ b) m y.2.1 y.1.body))
    {g cap : Nat} (hown : u'.ownsRow w.heap.size 129 1 (.slice (some ⟨g, 0, none⟩) (xs.length + 1) cap) (xs.length + 1) (xs.map iVal ++ [iVal y])) (hg : z.grownBy u' V.ownBlock) (hat : V.ownBlock = some g ∨ g = z.heap.size) : SoAt w u' m (.slice (some ⟨g, 0, none⟩) (xs.length + 1) cap) (xs ++ [y]) := by
  have hsz := hz.size
  have hwu := h.bel.size
  have hVlt : ∀ b, V.ownBlock = some b → b < u.heap.size := fun b hb => (h.row.lt b hb).2
  have h1 : ∀ {v : Value} {t : TL m}, RdI u (fun b => w.heap.size ≤ b ∧ V.ownBlock ≠ some b) m v t → RdI u' (fun b => w.heap.size ≤ b ∧ (Value.slice (some ⟨g, 0, none⟩) (xs.length + 1) cap).ownBlock ≠ some b) m v t := fun hr => hr.step (fun b hb hlt => by
      rw [hg.block b (by omega) (fun e => hb.2 e.symm), hz.block b hlt]) (fun b hb hlt => ⟨hb.1, fun e => by
      simp only [Value.ownBlock, Option.some.injEq] at e
      subst e
      rcases hat with e | e
      · exact hb.2 e
      · omega⟩)
  have h2 : ∀ {v : Value} {t : TL m}, RdI z (fun b => u.heap.size ≤ b) m v t → RdI u' (fun b => w.heap.size ≤ b ∧ (Value.slice (some ⟨g, 0, none⟩) (xs.length + 1) cap).ownBlock ≠ some b) m v t := fun hr => hr.step (fun b hb hlt => by
      rw [hg.block b hlt (fun e => by have := hVlt b e.symm; omega)]) (fun b hb hlt => ⟨by omega, fun e => by
      simp only [Value.ownBlock, Option.some.injEq] at e
      subst e
      rcases hat with e | e
      · have := hVlt _ e; omega
      · omega⟩)
  refine ⟨?_, fun x hx => ?_, (below_on h.bel (Nat.le_refl _) hz).grown hg (Nat.le_trans h.bel.size hz.size) (fun j hj => (h.row.lt j hj).1)⟩
  · rw [List.map_append, show (xs ++ [y]).length = xs.length + 1 by simp]
    exact hown
  · rcases List.mem_append.1 hx with hx | hx
    · exact ⟨fun e => ⟨h1 ((h.els x hx).1 e).1, h1 ((h.els x hx).1 e).2⟩, fun e => h1 ((h.els x hx).2 e)⟩
    · simp only [List.mem_singleton] at hx
      subst hx
      exact ⟨fun e => ⟨h2 (hy.1 e).1, h2 (hy.1 e).2⟩, fun e => h2 (hy.2 e)⟩
theorem one_new (u : World) (a : Value) : ∀ j v, [a][j]? = some v → (u.alloc (.cells #[a] 129)).cell? ((⟨u.heap.size, 0, none⟩ : Addr).add j) = some v := fun j v hj => by
  have hb := Blk.new u #[a] 129
  have : (⟨u.heap.size, 0, none⟩ : Addr).add j = ⟨u.heap.size, j, none⟩ := by unfold Addr.add; split <;> simp_all
  rw [this, hb.cell j]
  simpa using hj
theorem SoAt.all {w u : World} {n : Nat} {t : TL n} {V : Value} {xs : List (SS (TL (n - 1)) × Value × Value)} (h : SoAt w u (n - 1) V xs) (hx : xs.map Prod.fst = itemsT n t) : RdI u (fun b => w.heap.size ≤ b) n V t := by
  cases n with
  | zero =>
    have hz : xs = [] := List.map_eq_nil_iff.1 hx
    subst hz
    exact (Rd.of_own h.row).is_slice
  | succ n =>
    have hl : xs.length = List.length t := by
      have h1 := congrArg List.length hx
      rw [List.length_map] at h1
      exact h1
    refine ⟨xs, hx, ⟨by rw [List.length_map]; exact hl, ?_⟩, fun x hx' => ⟨fun e => ⟨((h.els x hx').1 e).1.step (fun _ _ _ => rfl) (fun b hb _ => hb.1), ((h.els x hx').1 e).2.step (fun _ _ _ => rfl) (fun b hb _ => hb.1)⟩, fun e => ((h.els x hx').2 e).step (fun _ _ _ => rfl) (fun b hb _ => hb.1)⟩⟩
    rcases (Rd.of_own h.row).2 with ⟨e, a, c, e2⟩ | ⟨g, o, c, e, hc⟩
    · exact .inl ⟨by rw [← hl]; exact e, a, c, e2⟩
    · rcases h.row.2 with ⟨e', _⟩ | ⟨g', cap, cur, e', hb, _⟩
      · rw [e] at e'; cases e'
      · rw [e] at e'
        simp only [Value.slice.injEq, Option.some.injEq, Addr.mk.injEq, true_and, and_true] at e'
        refine .inr ⟨g, o, c, ?_, ?_, hc⟩
        · rw [← hl]; exact e
        · rw [e'.1.1]; exact hb
theorem SoAt.far {w u : World} {m : Nat} {V : Value} {xs : List (SS (TL m) × Value × Value)} (h : SoAt w u m V xs) {X : Nat} {cs : Array Value} (hb : Blk u X cs 54) : some X ≠ V.ownBlock := fun e => by
  rcases h.row.2 with ⟨e1, _⟩ | ⟨g', cap, cur, e1, _, hg', _⟩
  · rw [e1] at e; cases e
  · rw [e1] at e
    simp only [Value.ownBlock, Option.some.injEq] at e
    subst e
    unfold Blk at hb
    rw [hb] at hg'
    simp at hg'
theorem far_cell {u z u' : World} {X : Nat} {cs : Array Value} {V : Value} (hb : Blk u X cs 54) (hz : Below u.heap.size u z) (hg : z.grownBy u' V.ownBlock) (hn : some X ≠ V.ownBlock) (i : Nat) : u'.cell? ⟨X, i, none⟩ = cs[i]? := by
  rw [hg.cell_far ⟨X, i, none⟩ (hb.keep hz).lt hn]
  exact (hb.keep hz).cell i
/-- What statementsOf is asked for. -/
def SoIs (n : Nat) : Prop := ∀ (v : Value) (t : TL n) (w : World), OwnT w 0 n v t → allOkT n t → sizeT n t ≤ 1048576 → Calls Tryz.prog 79 #[v] w fun e w' => ∃ v', e = .returned v' ∧ RdI w' (fun b => w.heap.size ≤ b) n v' t ∧ Below w.heap.size w w'
end Go.Proofs.YtalkpddhpmjgcaaGreat
