import Derived.Test.YtalkpddhpmjgcaaGreatCm10
namespace Go.Proofs.YtalkpddhpmjgcaaGreat
open Go.ChangeShapes Go.WideShapes Go.ChangeAt Go.RowKit
set_option linter.unusedVariables false
set_option maxHeartbeats 8000000 in
set_option maxRecDepth 100000 in
theorem statementsOf_step (n : Nat) (ih : n = 0 ∨ SoIs (n - 1)) (v : Value) (t : TL n) (w : World) (h : OwnT w 0 n v t) (hok : allOkT n t) (hsz : sizeT n t ≤ 1048576) : Calls Tryz.prog 79 #[v] w fun e w' => ∃ v', e = .returned v' ∧ RdI w' (fun b => w.heap.size ≤ b) n v' t ∧ Below w.heap.size w w' := by
  obtain ⟨iI, hi, hz0, hz1, hz2⟩ := info_parts infoIK
  have HI : Hid (n = 0 ∨ SoIs (n - 1)) := ih
  obtain ⟨a1, c1, e1⟩ := h.is_slice
  subst e1
  have H : Hid (OwnT w 0 n (.slice a1 (lenT n t) c1) t ∧ allOkT n t ∧ sizeT n t ≤ 1048576) := ⟨h, hok, hsz⟩
  have hL : lenT n t ≤ 1048576 := Nat.le_trans (len_le_size n t) hsz
  clear h ih hsz hok
  generalize hLL : lenT n t = L at H hL ⊢
  have HL : Hid (lenT n t = L) := hLL
  clear hLL
  have E0 : Hid (SoAt w w (n - 1) (.slice none 0 0) []) := ⟨World.ownsRow_nil _ _ _ _, fun x hx => (by cases hx), Below.refl _ _⟩
  go_enter Tryz.func79, Tryz.ntmps79
  go_wp2_with fail
  go_loopw [3, 5, 8] (fun rd _ i wr => ∃ (k : Nat) (V : Value) (xs : List (SS (TL (n - 1)) × Value × Value)), k ≤ L ∧ i = .int .i64 k ∧ rd = V ∧ Hid (SoAt w wr (n - 1) V xs ∧ xs.map Prod.fst = (itemsT n t).take k)) (fun _ _ i _ => L - (intOf i).toNat)
  case atStart => exact ⟨0, _, [], by omega, rfl, rfl, E0.out, rfl⟩
  case round =>
    clear E0
    obtain ⟨k, V, xs, hk, rfl, rfl, HK⟩ := hrel
    by_cases hlt : k < L
    · obtain ⟨x, hx⟩ : ∃ x, (itemsT n t)[k]? = some x := ⟨_, List.getElem?_eq_getElem (by rw [items_len, HL.out]; exact hlt)⟩
      obtain ⟨g', c', ab, lb, cb, ae, le, ce, e1, i0, i1, i2, i3, i4, rb, re, hlb, hle, _⟩ := H.out.1.item hx
      rw [HL.out] at e1
      simp only [Value.slice.injEq, true_and] at e1
      obtain ⟨rfl, rfl⟩ := e1
      have hbw := HK.out.1.bel
      rw [← hbw.cell (block_lt_of_cell i0)] at i0
      rw [← hbw.cell (block_lt_of_cell i1)] at i1
      rw [← hbw.cell (block_lt_of_cell i2)] at i2
      rw [← hbw.cell (block_lt_of_cell i3)] at i3
      rw [← hbw.cell (block_lt_of_cell i4)] at i4
      have hso := (items_ok n t).1 H.out.2.1 x (List.mem_of_getElem? hx)
      have hsm := Nat.le_trans (item_size hx) H.out.2.2
      have hIH : SoIs (n - 1) := by
        rcases HI.out with e | e
        · subst e; cases hx
        · exact e
      have HX : Hid (OwnT w 0 (n - 1) (.slice ab lb cb) x.body ∧ OwnT w 0 (n - 1) (.slice ae le ce) x.els ∧ allOkT (n - 1) x.body ∧ allOkT (n - 1) x.els ∧ sizeT (n - 1) x.body ≤ 1048576 ∧ sizeT (n - 1) x.els ≤ 1048576 ∧ SoIs (n - 1)) := ⟨rb, re, hso.2.1, hso.2.2, by omega, by omega, hIH⟩
      have HFN : Hid (∀ vb ve, (xs ++ [(x, vb, ve)]).map Prod.fst = (itemsT n t).take (k + 1)) := fun vb ve => fst_nextK HK.out.2 hx (vb, ve)
      have hK := hso.1
      have hxl : xs.length = k := by
        have h1 := congrArg List.length HK.out.2
        rw [List.length_map, List.length_take, items_len, HL.out] at h1
        omega
      clear hso hsm hIH rb re hlb hle hbw hx
      have hcase : x.k = 1 ∨ x.k = 2 ∨ x.k = 3 ∨ x.k = 4 := by
        unfold okS at hK
        rcases hK with ⟨e, _⟩ | ⟨e, _⟩ | ⟨e, _⟩ | ⟨e, _⟩
        · exact .inl e
        · exact .inr (.inl e)
        · exact .inr (.inr (.inl e))
        · exact .inr (.inr (.inr e))
      clear hK
      obtain ⟨aV, cV, eV⟩ := (Rd.of_own HK.out.1.row).is_slice
      rw [hxl] at eV
      subst eV
      have HXL : Hid (xs.length = k) := hxl
      clear hxl
      have hE : Hid (SoAt w (wr.alloc (.cells #[.int .i64 x.k, .int .i64 x.a, .int .i64 x.b, .slice ab lb cb, .slice ae le ce] 54)) (n - 1) (.slice aV k cV) xs ∧ Blk (wr.alloc (.cells #[.int .i64 x.k, .int .i64 x.a, .int .i64 x.b, .slice ab lb cb, .slice ae le ce] 54)) wr.heap.size #[.int .i64 x.k, .int .i64 x.a, .int .i64 x.b, .slice ab lb cb, .slice ae le ce] 54) := ⟨HK.out.1.keep (below_alloc _ _), Blk.new _ _ _⟩
      go_upto_region 5 with fail
      clear i0 i1 i2 i3 i4 HK
      generalize wr.heap.size = X at hE ⊢
      refine wp_world (fun u => Hid (SoAt w u (n - 1) (.slice aV k cV) xs ∧ Blk u X #[.int .i64 x.k, .int .i64 x.a, .int .i64 x.b, .slice ab lb cb, .slice ae le ce] 54)) hE ?_
      rintro U E1
      clear hE
      rcases hcase with hk1 | hk2 | hk3 | hk4
      · have KK : Hid (x.k = 1) := hk1
        have e1 : (x.k == 1) = true := by rw [hk1]; rfl
        clear hk1
        obtain ⟨x0, x1, x2, x3, x4⟩ := blk5 E1.out.2
        have E2 : Hid (SoAt w (U.alloc (.cells #[.iface 156 (.agg #[.int .i64 x.a, .int .i64 x.b])] 129)) (n - 1) (.slice aV k cV) xs) := E1.out.1.keep (below_alloc _ _)
        go_wp2_with (at_builtin; refine wpList_append_lies _ rfl _ _ 64 rfl w.heap.size 129 iI .nilIface 1 16 Tryz.underlying64 hi hz0 hz1 hz2 rfl (by decide) _ k (xs.map iVal) rfl (by have := E2.out.row; rw [HXL.out] at this; exact this) ⟨U.heap.size, 0, none⟩ 1 1 [.iface 156 (.agg #[.int .i64 x.a, .int .i64 x.b])] rfl rfl (one_new U _) (fun u hu => by simp at hu; subst hu; rfl) (by omega) (by simp [maxLen]; omega) (by omega) E2.out.bel.size _ rfl ?_; intro g5 cap5 w5 hown hgrow hat hlt5; have HU : Hid (SoAt w w5 (n - 1) (.slice (some ⟨g5, 0, none⟩) (k + 1) cap5) (xs ++ [(x, .slice none 0 0, .slice none 0 0)])) := (by have h9 := E1.out.1.app (y := (x, .slice none 0 0, .slice none 0 0)) (below_alloc _ _) ⟨fun e => (by have := KK.out; simp only [] at e; omega), fun e => (by have := KK.out; simp only [] at e; omega)⟩ (g := g5) (cap := cap5) (by rw [HXL.out, iVal_1 KK.out]; exact hown) hgrow hat; rw [HXL.out] at h9; exact h9); clear hown hgrow hat hlt5)
        clear E1 E2 x0 x1 x2 x3 x4
        go_roundw
        case rel => exact ⟨k + 1, _, _, by omega, by go_num, rfl, HU.out, HFN.out _ _⟩
        case measure => simp [intOf]; omega
      · have KK : Hid (x.k = 2) := hk2
        have e1 : (x.k == 1) = false := by rw [hk2]; rfl
        have e2 : (x.k == 2) = true := by rw [hk2]; rfl
        clear hk2
        obtain ⟨x0, x1, x2, x3, x4⟩ := blk5 E1.out.2
        have HCU : Hid (∀ u, Below U.heap.size U u → u.cell? ⟨X, 1, none⟩ = some (.int .i64 x.a) ∧ u.cell? ⟨X, 2, none⟩ = some (.int .i64 x.b) ∧ u.cell? ⟨X, 3, none⟩ = some (.slice ab lb cb) ∧ u.cell? ⟨X, 4, none⟩ = some (.slice ae le ce)) := fun u hu => ⟨(E1.out.2.keep hu).cell 1, (E1.out.2.keep hu).cell 2, (E1.out.2.keep hu).cell 3, (E1.out.2.keep hu).cell 4⟩
        have HCG : Hid (∀ z u', Below U.heap.size U z → z.grownBy u' (Value.slice aV k cV).ownBlock → u'.cell? ⟨X, 1, none⟩ = some (.int .i64 x.a) ∧ u'.cell? ⟨X, 2, none⟩ = some (.int .i64 x.b) ∧ u'.cell? ⟨X, 3, none⟩ = some (.slice ab lb cb) ∧ u'.cell? ⟨X, 4, none⟩ = some (.slice ae le ce)) := fun z u' hz hg => ⟨far_cell E1.out.2 hz hg (E1.out.1.far E1.out.2) 1, far_cell E1.out.2 hz hg (E1.out.1.far E1.out.2) 2, far_cell E1.out.2 hz hg (E1.out.1.far E1.out.2) 3, far_cell E1.out.2 hz hg (E1.out.1.far E1.out.2) 4⟩
        have HOU : Hid (OwnT U 0 (n - 1) (.slice ab lb cb) x.body ∧ OwnT U 0 (n - 1) (.slice ae le ce) x.els) := ⟨HX.out.1.keep E1.out.1.bel (Nat.le_refl _), HX.out.2.1.keep E1.out.1.bel (Nat.le_refl _)⟩
        go_upto_region 9 with fail
        clear x0 x1 x2 x3 x4
        have D1 : Hid (Below U.heap.size U U) := Below.refl _ _
        have D0 : Hid (Below U.heap.size U U.drew) := below_drew1 _
        have KS := HCU.out U.drew D0.out
        go_region_held3 (fun w' => w'.cell? ⟨X, 1, none⟩ = some (.int .i64 x.a) ∧ w'.cell? ⟨X, 2, none⟩ = some (.int .i64 x.b) ∧ w'.cell? ⟨X, 3, none⟩ = some (.slice ab lb cb) ∧ w'.cell? ⟨X, 4, none⟩ = some (.slice ae le ce)) (first | with_reducible exact KS | exact HCU.out _ (by (repeat' (first | with_reducible exact Hid.out (by assumption) | (with_reducible refine below_on ?_ (Nat.le_refl _) (below_alloc _ _)) | (with_reducible refine below_on ?_ (Nat.le_refl _) (below_drew1 _)))))) (first
          | (go_at_call 79; have hh := B3; clear hh; refine (HX.out.2.2.2.2.2.2 (.slice ae le ce) x.els _ ?_ HX.out.2.2.2.1 HX.out.2.2.2.2.2.1).mono ?_; exact HOU.out.2.keep (B := U.heap.size) (by (repeat' (first | with_reducible exact Hid.out (by assumption) | (with_reducible refine below_on ?_ (Nat.le_refl _) (below_alloc _ _)) | (with_reducible refine below_on ?_ (Nat.le_refl _) (below_drew1 _))))) (Nat.le_refl _); rintro e k4 ⟨v4, rfl, r4, bb1⟩; obtain ⟨a4, c4, ev4⟩ := r4.is_slice; subst ev4; generalize lenT (n - 1) x.els = l4 at r4 ⊢; have B4 : Hid (Below U.heap.size U k4) := below_on (by (repeat' (first | with_reducible exact Hid.out (by assumption) | (with_reducible refine below_on ?_ (Nat.le_refl _) (below_alloc _ _)) | (with_reducible refine below_on ?_ (Nat.le_refl _) (below_drew1 _))))) (Nat.le_refl _) bb1; have O4 : Hid (SoAt w (k4.alloc (.cells #[.iface 135 (.agg #[.int .i64 x.a, .int .i64 x.b, .slice a3 l3 c3, .slice a4 l4 c4])] 129)) (n - 1) (.slice aV k cV) xs ∧ RdI (k4.alloc (.cells #[.iface 135 (.agg #[.int .i64 x.a, .int .i64 x.b, .slice a3 l3 c3, .slice a4 l4 c4])] 129)) (fun b => U.heap.size ≤ b) (n - 1) (.slice a3 l3 c3) x.body ∧ RdI (k4.alloc (.cells #[.iface 135 (.agg #[.int .i64 x.a, .int .i64 x.b, .slice a3 l3 c3, .slice a4 l4 c4])] 129)) (fun b => U.heap.size ≤ b) (n - 1) (.slice a4 l4 c4) x.els ∧ Below U.heap.size U (k4.alloc (.cells #[.iface 135 (.agg #[.int .i64 x.a, .int .i64 x.b, .slice a3 l3 c3, .slice a4 l4 c4])] 129))) := ⟨(E1.out.1.keep B4.out).keep (below_alloc _ _), RdI.keep (RdI.keep O3.out bb1) (below_alloc _ _), RdI.keep (r4.step (fun _ _ _ => rfl) (fun b hb _ => Nat.le_trans B3.out.size hb)) (below_alloc _ _), below_on B4.out (Nat.le_refl _) (below_alloc _ _)⟩; have KS := HCU.out k4 B4.out; clear bb1 r4)
          | (go_at_call 79; refine (HX.out.2.2.2.2.2.2 (.slice ab lb cb) x.body _ ?_ HX.out.2.2.1 HX.out.2.2.2.2.1).mono ?_; exact HOU.out.1.keep (B := U.heap.size) (by (repeat' (first | with_reducible exact Hid.out (by assumption) | (with_reducible refine below_on ?_ (Nat.le_refl _) (below_alloc _ _)) | (with_reducible refine below_on ?_ (Nat.le_refl _) (below_drew1 _))))) (Nat.le_refl _); rintro e k3 ⟨v3, rfl, r3, bb1⟩; obtain ⟨a3, c3, ev3⟩ := r3.is_slice; subst ev3; generalize lenT (n - 1) x.body = l3 at r3 ⊢; have B3 : Hid (Below U.heap.size U k3) := below_on (by (repeat' (first | with_reducible exact Hid.out (by assumption) | (with_reducible refine below_on ?_ (Nat.le_refl _) (below_alloc _ _)) | (with_reducible refine below_on ?_ (Nat.le_refl _) (below_drew1 _))))) (Nat.le_refl _) bb1; have O3 : Hid (RdI k3 (fun b => U.heap.size ≤ b) (n - 1) (.slice a3 l3 c3) x.body) := r3; have KS := HCU.out k3 B3.out; clear bb1 r3)
          | (have hh := O4; clear hh; refine step_append_lies _ rfl (.tmp 27) (.tmp 40) 64 rfl w.heap.size 129 iI .nilIface 1 16 Tryz.underlying64 hi hz0 hz1 hz2 rfl (by decide) (.slice aV k cV) k (xs.map iVal) (by simp [Act.eval]) (by have := O4.out.1.row; rw [HXL.out] at this; exact this) ⟨k4.heap.size, 0, none⟩ 1 1 [.iface 135 (.agg #[.int .i64 x.a, .int .i64 x.b, .slice a3 l3 c3, .slice a4 l4 c4])] (by simp [Act.eval]) rfl (one_new k4 _) (fun u hu => by simp at hu; subst hu; rfl) (by omega) (by unfold maxLen; omega) (by omega) O4.out.1.bel.size _ rfl ?_; intro g5 cap5 w5 hown hgrow hat hlt5; have HU : Hid (SoAt w w5 (n - 1) (.slice (some ⟨g5, 0, none⟩) (k + 1) cap5) (xs ++ [(x, .slice a3 l3 c3, .slice a4 l4 c4)])) := (by have h9 := E1.out.1.app (y := (x, .slice a3 l3 c3, .slice a4 l4 c4)) O4.out.2.2.2 ⟨fun e => ⟨O4.out.2.1, O4.out.2.2.1⟩, fun e => (by have := KK.out; simp only [] at e; omega)⟩ (g := g5) (cap := cap5) (by rw [HXL.out, iVal_2 KK.out]; exact hown) hgrow hat; rw [HXL.out] at h9; exact h9); have KS := HCG.out _ w5 O4.out.2.2.2 hgrow; clear hown hgrow hat hlt5))
        all_goals
          clear KS D0 D1 B3 B4 O3 O4 E1 HCU HOU HCG
          go_wp2_with fail
          go_roundw
          case rel => exact ⟨k + 1, _, _, by omega, by go_num, rfl, HU.out, HFN.out _ _⟩
          case measure => simp [intOf]; omega
      · have KK : Hid (x.k = 3) := hk3
        have e1 : (x.k == 1) = false := by rw [hk3]; rfl
        have e2 : (x.k == 2) = false := by rw [hk3]; rfl
        have e3 : (x.k == 3) = true := by rw [hk3]; rfl
        clear hk3
        obtain ⟨x0, x1, x2, x3, x4⟩ := blk5 E1.out.2
        have HCU : Hid (∀ u, Below U.heap.size U u → u.cell? ⟨X, 2, none⟩ = some (.int .i64 x.b) ∧ u.cell? ⟨X, 3, none⟩ = some (.slice ab lb cb)) := fun u hu => ⟨(E1.out.2.keep hu).cell 2, (E1.out.2.keep hu).cell 3⟩
        have HCG : Hid (∀ z u', Below U.heap.size U z → z.grownBy u' (Value.slice aV k cV).ownBlock → u'.cell? ⟨X, 2, none⟩ = some (.int .i64 x.b) ∧ u'.cell? ⟨X, 3, none⟩ = some (.slice ab lb cb)) := fun z u' hz hg => ⟨far_cell E1.out.2 hz hg (E1.out.1.far E1.out.2) 2, far_cell E1.out.2 hz hg (E1.out.1.far E1.out.2) 3⟩
        have HOU : Hid (OwnT U 0 (n - 1) (.slice ab lb cb) x.body) := HX.out.1.keep E1.out.1.bel (Nat.le_refl _)
        go_upto_region 11 with fail
        clear x0 x1 x2 x3 x4
        have D1 : Hid (Below U.heap.size U U) := Below.refl _ _
        have D0 : Hid (Below U.heap.size U U.drew) := below_drew1 _
        have KS := HCU.out U.drew D0.out
        go_region_held3 (fun w' => w'.cell? ⟨X, 2, none⟩ = some (.int .i64 x.b) ∧ w'.cell? ⟨X, 3, none⟩ = some (.slice ab lb cb)) (first | with_reducible exact KS | exact HCU.out _ (by (repeat' (first | with_reducible exact Hid.out (by assumption) | (with_reducible refine below_on ?_ (Nat.le_refl _) (below_alloc _ _)) | (with_reducible refine below_on ?_ (Nat.le_refl _) (below_drew1 _)))))) (first
          | (go_at_call 79; refine (HX.out.2.2.2.2.2.2 (.slice ab lb cb) x.body _ ?_ HX.out.2.2.1 HX.out.2.2.2.2.1).mono ?_; exact HOU.out.keep (B := U.heap.size) (by (repeat' (first | with_reducible exact Hid.out (by assumption) | (with_reducible refine below_on ?_ (Nat.le_refl _) (below_alloc _ _)) | (with_reducible refine below_on ?_ (Nat.le_refl _) (below_drew1 _))))) (Nat.le_refl _); rintro e k3 ⟨v3, rfl, r3, bb1⟩; obtain ⟨a3, c3, ev3⟩ := r3.is_slice; subst ev3; generalize lenT (n - 1) x.body = l3 at r3 ⊢; have B3 : Hid (Below U.heap.size U k3) := below_on (by (repeat' (first | with_reducible exact Hid.out (by assumption) | (with_reducible refine below_on ?_ (Nat.le_refl _) (below_alloc _ _)) | (with_reducible refine below_on ?_ (Nat.le_refl _) (below_drew1 _))))) (Nat.le_refl _) bb1; have O3 : Hid (SoAt w (k3.alloc (.cells #[.iface 133 (.agg #[.int .i64 x.b, .slice a3 l3 c3])] 129)) (n - 1) (.slice aV k cV) xs ∧ RdI (k3.alloc (.cells #[.iface 133 (.agg #[.int .i64 x.b, .slice a3 l3 c3])] 129)) (fun b => U.heap.size ≤ b) (n - 1) (.slice a3 l3 c3) x.body ∧ Below U.heap.size U (k3.alloc (.cells #[.iface 133 (.agg #[.int .i64 x.b, .slice a3 l3 c3])] 129))) := ⟨(E1.out.1.keep B3.out).keep (below_alloc _ _), RdI.keep r3 (below_alloc _ _), below_on B3.out (Nat.le_refl _) (below_alloc _ _)⟩; have KS := HCU.out k3 B3.out; clear bb1 r3)
          | (have hh := O3; clear hh; refine step_append_lies _ rfl (.tmp 44) (.tmp 52) 64 rfl w.heap.size 129 iI .nilIface 1 16 Tryz.underlying64 hi hz0 hz1 hz2 rfl (by decide) (.slice aV k cV) k (xs.map iVal) (by simp [Act.eval]) (by have := O3.out.1.row; rw [HXL.out] at this; exact this) ⟨k3.heap.size, 0, none⟩ 1 1 [.iface 133 (.agg #[.int .i64 x.b, .slice a3 l3 c3])] (by simp [Act.eval]) rfl (one_new k3 _) (fun u hu => by simp at hu; subst hu; rfl) (by omega) (by unfold maxLen; omega) (by omega) O3.out.1.bel.size _ rfl ?_; intro g5 cap5 w5 hown hgrow hat hlt5; have HU : Hid (SoAt w w5 (n - 1) (.slice (some ⟨g5, 0, none⟩) (k + 1) cap5) (xs ++ [(x, .slice a3 l3 c3, .slice none 0 0)])) := (by have h9 := E1.out.1.app (y := (x, .slice a3 l3 c3, .slice none 0 0)) O3.out.2.2 ⟨fun e => (by have := KK.out; simp only [] at e; omega), fun e => O3.out.2.1⟩ (g := g5) (cap := cap5) (by rw [HXL.out, iVal_3 KK.out]; exact hown) hgrow hat; rw [HXL.out] at h9; exact h9); have KS := HCG.out _ w5 O3.out.2.2 hgrow; clear hown hgrow hat hlt5))
        all_goals
          clear KS D0 D1 B3 O3 E1 HCU HOU HCG
          go_wp2_with fail
          go_roundw
          case rel => exact ⟨k + 1, _, _, by omega, by go_num, rfl, HU.out, HFN.out _ _⟩
          case measure => simp [intOf]; omega
      · have KK : Hid (x.k = 4) := hk4
        have e1 : (x.k == 1) = false := by rw [hk4]; rfl
        have e2 : (x.k == 2) = false := by rw [hk4]; rfl
        have e3 : (x.k == 3) = false := by rw [hk4]; rfl
        have e4 : (x.k == 4) = true := by rw [hk4]; rfl
        clear hk4
        obtain ⟨x0, x1, x2, x3, x4⟩ := blk5 E1.out.2
        have E2 : Hid (SoAt w (U.alloc (.cells #[.iface 131 (.agg #[.int .i64 x.a])] 129)) (n - 1) (.slice aV k cV) xs) := E1.out.1.keep (below_alloc _ _)
        go_wp2_with (at_builtin; refine wpList_append_lies _ rfl _ _ 64 rfl w.heap.size 129 iI .nilIface 1 16 Tryz.underlying64 hi hz0 hz1 hz2 rfl (by decide) _ k (xs.map iVal) rfl (by have := E2.out.row; rw [HXL.out] at this; exact this) ⟨U.heap.size, 0, none⟩ 1 1 [.iface 131 (.agg #[.int .i64 x.a])] rfl rfl (one_new U _) (fun u hu => by simp at hu; subst hu; rfl) (by omega) (by simp [maxLen]; omega) (by omega) E2.out.bel.size _ rfl ?_; intro g5 cap5 w5 hown hgrow hat hlt5; have HU : Hid (SoAt w w5 (n - 1) (.slice (some ⟨g5, 0, none⟩) (k + 1) cap5) (xs ++ [(x, .slice none 0 0, .slice none 0 0)])) := (by have h9 := E1.out.1.app (y := (x, .slice none 0 0, .slice none 0 0)) (below_alloc _ _) ⟨fun e => (by have := KK.out; simp only [] at e; omega), fun e => (by have := KK.out; simp only [] at e; omega)⟩ (g := g5) (cap := cap5) (by rw [HXL.out, iVal_4 KK.out]; exact hown) hgrow hat; rw [HXL.out] at h9; exact h9); clear hown hgrow hat hlt5)
        clear E1 E2 x0 x1 x2 x3 x4
        go_roundw
        case rel => exact ⟨k + 1, _, _, by omega, by go_num, rfl, HU.out, HFN.out _ _⟩
        case measure => simp [intOf]; omega
    · have hkn : k = L := by omega
      subst hkn
      have HY : Hid (RdI wr (fun b => w.heap.size ≤ b) n _ t) := HK.out.1.all (by rw [HK.out.2, ← HL.out, ← items_len, List.take_length])
      go_wp2_with fail
      go_ret
      exact ⟨_, rfl, HY.out, HK.out.1.bel⟩
theorem statementsOf_any (n : Nat) : SoIs n := by
  induction n with
  | zero => exact fun v t w h hok hs => statementsOf_step 0 (.inl rfl) v t w h hok hs
  | succ n ih => exact fun v t w h hok hs => statementsOf_step (n + 1) (.inr ih) v t w h hok hs
end Go.Proofs.YtalkpddhpmjgcaaGreat
