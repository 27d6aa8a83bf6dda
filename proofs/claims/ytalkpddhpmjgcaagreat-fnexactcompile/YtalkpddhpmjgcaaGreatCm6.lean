import Derived.Test.YtalkpddhpmjgcaaGreatCm5
import Derived.Deep.DeepCutAuto
import Derived.Deep.CutBlock
namespace Go.Proofs.YtalkpddhpmjgcaaGreat
open Go.ChangeShapes Go.WideShapes Go.ChangeAt Go.RowKit
set_option linter.unusedVariables false
/-- What the walk leaves. -/
def WkRes (w0 w : World) (Lb : Nat) (c : Int) (m : Nat) (q : Prop) (e : Ending) (w' : World) : Prop := SaysIff e q ∧ Chg (fun j => j = Lb) w w' ∧ ∃ c' : Int, Blk w' Lb #[.int .i64 c'] 2 ∧ (q → c' = c - m) ∧ c - m ≤ c' ∧ c' ≤ c
/-- What l10Walk is asked for. -/
def WkIs (n : Nat) : Prop := ∀ (v : Value) (t : TL n) (Lb : Nat) (c : Int) (w0 w : World), RdT w0 n v t → sizeT n t ≤ 1048576 → w0.heap.size ≤ Lb → Below w0.heap.size w0 w → Blk w Lb #[.int .i64 c] 2 → c ≤ 60 → -1048576 ≤ c - sizeT n t → Calls Tryz.prog 40 #[v, .pointer (some ⟨Lb, 0, none⟩)] w (WkRes w0 w Lb c (sizeT n t) (allOkT n t))
/-- Where the walk stands at a statement. -/
structure WkAt (w0 w u : World) (Lb : Nat) (c : Int) (X : Nat) (cs : Array Value) : Prop where
  chg : Chg (fun j => j = Lb) w u
  lb : Blk u Lb #[.int .i64 c] 2
  xb : Blk u X cs 54
  ne : X ≠ Lb
theorem WkAt.step {w0 w u u' : World} {Lb : Nat} {c c' : Int} {X : Nat} {cs : Array Value} (h : WkAt w0 w u Lb c X cs) (hc : Chg (fun j => j = Lb) u u') (hl : Blk u' Lb #[.int .i64 c'] 2) : WkAt w0 w u' Lb c' X cs := ⟨h.chg.trans hc (fun _ _ e => e), hl, hc.blk h.xb h.ne, h.ne⟩
theorem WkAt.store {w0 w u : World} {Lb : Nat} {c : Int} {X : Nat} {cs : Array Value} (h : WkAt w0 w u Lb c X cs) (c' : Int) : WkAt w0 w (u.setCell ⟨Lb, 0, none⟩ (.int .i64 c')) Lb c' X cs := ⟨h.chg.setCell (.inl rfl) _, by have := h.lb.set 0 (.int .i64 c'); simpa using this, h.xb.other h.ne _, h.ne⟩
/-- The first k are in order. -/
def OkTo (n : Nat) (l : List (SS (TL n))) (k : Nat) : Prop := ∀ j x, j < k → l[j]? = some x → okS x.k x.a x.b (lenT n x.body) (lenT n x.els) ∧ allOkT n x.body ∧ allOkT n x.els
theorem OkTo.next {n : Nat} {l : List (SS (TL n))} {k : Nat} (h : OkTo n l k) {x : SS (TL n)} (hx : l[k]? = some x) (hk : okS x.k x.a x.b (lenT n x.body) (lenT n x.els) ∧ allOkT n x.body ∧ allOkT n x.els) : OkTo n l (k + 1) := fun j y hj hy => by
  by_cases e : j = k
  · subst e
    rw [hx] at hy
    obtain rfl := Option.some.inj hy
    exact hk
  · exact h j y (by omega) hy
theorem OkTo.all {n : Nat} {l : List (SS (TL n))} {k : Nat} (h : OkTo n l k) (hk : l.length ≤ k) : allOkT (n + 1) l := fun s hs => by
  obtain ⟨i, hi⟩ := List.getElem?_of_mem hs
  exact h i s (by have := (List.getElem?_eq_some_iff.1 hi).1; omega) hi
theorem okTo_of {n : Nat} {l : List (SS (TL n))} (h : allOkT (n + 1) l) {k : Nat} {x : SS (TL n)} (hx : l[k]? = some x) : okS x.k x.a x.b (lenT n x.body) (lenT n x.els) ∧ allOkT n x.body ∧ allOkT n x.els := h x (List.mem_of_getElem? hx)
set_option maxHeartbeats 2000000 in
set_option maxRecDepth 100000 in
theorem l10Walk_none (a : Option Addr) (cc : Nat) (Lb : Nat) (c : Int) (w0 w : World) (hl : Blk w Lb #[.int .i64 c] 2) : Calls Tryz.prog 40 #[.slice a 0 cc, .pointer (some ⟨Lb, 0, none⟩)] w (WkRes w0 w Lb c 0 True) := by
  have HL : Hid (Blk w Lb #[.int .i64 c] 2) := hl
  clear hl
  go_enter Tryz.func40, Tryz.ntmps40
  go_wp2_with fail
  go_loopw [5, 6, 7] (fun i _ _ wr => i = .int .i64 0 ∧ wr = w) (fun _ _ _ _ => 0)
  case atStart => exact ⟨rfl, rfl⟩
  case round =>
    obtain ⟨rfl, rfl⟩ := hrel
    go_wp2_with fail
    go_ret
    exact ⟨.yes trivial, Chg.refl _ _, c, HL.out, fun _ => by simp, by simp, by omega⟩
set_option maxHeartbeats 8000000 in
set_option maxRecDepth 100000 in
theorem l10Walk_succ (n : Nat) (ih : WkIs n) (v : Value) (l : List (SS (TL n))) (Lb : Nat) (c : Int) (w0 w : World) (h : RdT w0 (n + 1) v l) (hsz : sizeT (n + 1) l ≤ 1048576) (hw : w0.heap.size ≤ Lb) (hb : Below w0.heap.size w0 w) (hl : Blk w Lb #[.int .i64 c] 2) (hc : c ≤ 60) (hc2 : -1048576 ≤ c - sizeT (n + 1) l) : Calls Tryz.prog 40 #[v, .pointer (some ⟨Lb, 0, none⟩)] w (WkRes w0 w Lb c (sizeT (n + 1) l) (allOkT (n + 1) l)) := by
  have HI : Hid (WkIs n) := ih
  obtain ⟨a1, c1, e1⟩ : ∃ a c, v = .slice a l.length c := h.is_slice
  subst e1
  have H : Hid (RdT w0 (n + 1) (.slice a1 l.length c1) l ∧ sizeT (n + 1) l ≤ 1048576 ∧ w0.heap.size ≤ Lb ∧ Below w0.heap.size w0 w ∧ Blk w Lb #[.int .i64 c] 2 ∧ c ≤ 60 ∧ -1048576 ≤ c - sizeT (n + 1) l) := ⟨h, hsz, hw, hb, hl, hc, hc2⟩
  have hL : l.length ≤ 1048576 := by have := len_le_size (n + 1) l; have e : lenT (n + 1) l = l.length := rfl; omega
  clear h ih hsz hw hb hl hc hc2
  generalize hLL : l.length = L at H hL ⊢
  have HL : Hid (l.length = L) := hLL
  clear hLL
  go_enter Tryz.func40, Tryz.ntmps40
  go_wp2_with fail
  go_loopw [5, 6, 7] (fun i _ _ wr => ∃ k : Nat, k ≤ L ∧ i = .int .i64 k ∧ Hid (OkTo n l k ∧ Chg (fun j => j = Lb) w wr ∧ Blk wr Lb #[.int .i64 (c - (k : Int) - (sumT n l k : Int))] 2)) (fun i _ _ _ => L - (intOf i).toNat)
  case atStart => exact ⟨0, by omega, rfl, fun j x hj => absurd hj (by omega), Chg.refl _ _, by rw [sumT_zero]; simpa using H.out.2.2.2.2.1⟩
  case round =>
    obtain ⟨k, hk, rfl, HK⟩ := hrel
    by_cases hlt : k < L
    · obtain ⟨x, hx⟩ : ∃ x, l[k]? = some x := ⟨_, List.getElem?_eq_getElem (by rw [HL.out]; exact hlt)⟩
      have hbw : Below w0.heap.size w0 wr := H.out.2.2.2.1.trans (HK.out.2.1.below H.out.2.2.2.1.size (fun j hj e => by have := H.out.2.2.1; omega))
      obtain ⟨g, o, cc, vb, ve, e1, i0, i1, i2, i3, i4, rb, re⟩ := H.out.1.elem hx
      rw [HL.out] at e1
      simp only [Value.slice.injEq, true_and] at e1
      obtain ⟨rfl, rfl⟩ := e1
      rw [← hbw.cell (block_lt_of_cell i0)] at i0
      rw [← hbw.cell (block_lt_of_cell i1)] at i1
      rw [← hbw.cell (block_lt_of_cell i2)] at i2
      rw [← hbw.cell (block_lt_of_cell i3)] at i3
      rw [← hbw.cell (block_lt_of_cell i4)] at i4
      obtain ⟨ab, cb, eb⟩ := rb.is_slice
      obtain ⟨ae, ce, ee⟩ := re.is_slice
      subst eb ee
      have hsn := sumT_next hx
      have hsl := sumT_le (n := n) (l := l) (k + 1)
      have HX : Hid (l[k]? = some x ∧ RdT w0 n (.slice ab (lenT n x.body) cb) x.body ∧ RdT w0 n (.slice ae (lenT n x.els) ce) x.els ∧ sumT n l (k + 1) = sumT n l k + (sizeT n x.body + sizeT n x.els) ∧ l.length + sumT n l (k + 1) ≤ sizeT (n + 1) l) := ⟨hx, rb, re, hsn, hsl⟩
      have hE : Hid (WkAt w0 w (wr.alloc (.cells #[.int .i64 x.k, .int .i64 x.a, .int .i64 x.b, .slice ab (lenT n x.body) cb, .slice ae (lenT n x.els) ce] 54)) Lb (c - (k : Int) - (sumT n l k : Int)) wr.heap.size #[.int .i64 x.k, .int .i64 x.a, .int .i64 x.b, .slice ab (lenT n x.body) cb, .slice ae (lenT n x.els) ce]) := ⟨HK.out.2.1.onB (below_alloc _ _), HK.out.2.2.keep (below_alloc _ _), Blk.new _ _ _, by have := HK.out.2.2.lt; omega⟩
      have HO : Hid (OkTo n l k) := HK.out.1
      clear rb re hx hsn hsl hbw
      generalize hlb : lenT n x.body = lb at HX hE i3 ⊢
      generalize hle : lenT n x.els = le at HX hE i4 ⊢
      have HLN : Hid (lenT n x.body = lb ∧ lenT n x.els = le) := ⟨hlb, hle⟩
      clear hlb hle
      go_upto_region 5 with fail
      clear i0 i1 i2 i3 i4 HK
      generalize wr.heap.size = X at hE ⊢
      generalize hck : c - (k : Int) - (sumT n l k : Int) = ck at hE
      have HCK : Hid (c - (k : Int) - (sumT n l k : Int) = ck) := hck
      clear hck
      refine wp_world (fun u => Hid (WkAt w0 w u Lb ck X #[.int .i64 x.k, .int .i64 x.a, .int .i64 x.b, .slice ab lb cb, .slice ae le ce])) hE ?_
      rintro U E1
      clear hE
      have hcb : -1048575 ≤ ck ∧ ck ≤ 60 := by
        have h1 := HCK.out
        have h2 := HX.out.2.2.2
        have h3 := H.out.2.2.2.2.2
        have h4 := HL.out
        omega
      have c0 := E1.out.lb.cell 0
      have z0 := E1.out.lb.frozen 0
      simp only [List.getElem?_toArray, List.getElem?_cons_zero] at c0
      go_upto_region 6 with fail
      have E2 : Hid _ := E1.out.store (ck - 1)
      clear c0 z0 E1
      refine wp_world (fun u => Hid (WkAt w0 w u Lb (ck - 1) X #[.int .i64 x.k, .int .i64 x.a, .int .i64 x.b, .slice ab lb cb, .slice ae le ce])) E2 ?_
      rintro U1 E3
      clear E2
      clear U
      obtain ⟨x0, x1, x2, x3, x4⟩ := blk5 E3.out.xb
      go_upto_block 2 with fail
      go_cut [7] (fun s wx => ∃ bb : Bool, s = .bool bb ∧ Hid (bb = true ↔ okS x.k x.a x.b lb le) ∧ wx = U1)
      case first =>
        have K : (x.k = 1) ∨ (x.k = 2) ∨ (x.k = 3) ∨ (x.k = 4) ∨ (x.k ≠ 1 ∧ x.k ≠ 2 ∧ x.k ≠ 3 ∧ x.k ≠ 4) := by omega
        rcases K with k1 | k2 | k3 | k4 | kn
        · have KK : Hid (x.k = 1) := k1
          have e1 : (x.k == 1) = true := by rw [k1]; rfl
          clear k1
          go_wp2_with fail
          all_goals
            go_meet
            refine ⟨_, rfl, ?_, rfl⟩
            have kk := KK.out
            show (_ = true ↔ okS x.k x.a x.b lb le)
            unfold okS
            simp
            omega
        · have KK : Hid (x.k = 2) := k2
          have e1 : (x.k == 1) = false := by rw [k2]; rfl
          have e2 : (x.k == 2) = true := by rw [k2]; rfl
          clear k2
          go_wp2_with fail
          all_goals
            go_meet
            refine ⟨_, rfl, ?_, rfl⟩
            have kk := KK.out
            show (_ = true ↔ okS x.k x.a x.b lb le)
            unfold okS
            simp
            omega
        · have KK : Hid (x.k = 3) := k3
          have e1 : (x.k == 1) = false := by rw [k3]; rfl
          have e2 : (x.k == 2) = false := by rw [k3]; rfl
          have e3 : (x.k == 3) = true := by rw [k3]; rfl
          clear k3
          go_wp2_with fail
          all_goals
            go_meet
            refine ⟨_, rfl, ?_, rfl⟩
            have kk := KK.out
            show (_ = true ↔ okS x.k x.a x.b lb le)
            unfold okS
            simp
            omega
        · have KK : Hid (x.k = 4) := k4
          have e1 : (x.k == 1) = false := by rw [k4]; rfl
          have e2 : (x.k == 2) = false := by rw [k4]; rfl
          have e3 : (x.k == 3) = false := by rw [k4]; rfl
          have e4 : (x.k == 4) = true := by rw [k4]; rfl
          clear k4
          go_wp2_with fail
          all_goals
            go_meet
            refine ⟨_, rfl, ?_, rfl⟩
            have kk := KK.out
            show (_ = true ↔ okS x.k x.a x.b lb le)
            unfold okS
            simp
            omega
        · have KK : Hid (x.k ≠ 1 ∧ x.k ≠ 2 ∧ x.k ≠ 3 ∧ x.k ≠ 4) := kn
          have e1 : (x.k == 1) = false := by simpa using kn.1
          have e2 : (x.k == 2) = false := by simpa using kn.2.1
          have e3 : (x.k == 3) = false := by simpa using kn.2.2.1
          have e4 : (x.k == 4) = false := by simpa using kn.2.2.2
          clear kn
          go_wp2_with fail
          go_meet
          refine ⟨_, rfl, ?_, rfl⟩
          have kk := KK.out
          show (_ = true ↔ okS x.k x.a x.b lb le)
          unfold okS
          simp
          omega
      case rest =>
        obtain ⟨bb, rfl, HBB, rfl⟩ := hcut
        clear x0 x1 x2 x3 x4
        cases bb
        · have HN : Hid (¬ allOkT (n + 1) l) := fun e => by
            have h1 := (okTo_of e HX.out.1).1
            rw [HLN.out.1, HLN.out.2] at h1
            have := HBB.out.2 h1
            cases this
          go_wp2_with fail
          go_ret
          exact ⟨.no HN.out, E3.out.chg, _, E3.out.lb, fun e => absurd e HN.out, by have h1 := HCK.out; have h2 := HX.out.2.2.2; have h4 := HL.out; omega, by have h1 := HCK.out; omega⟩
        · have HOK : Hid (okS x.k x.a x.b (lenT n x.body) (lenT n x.els)) := by
            show okS x.k x.a x.b (lenT n x.body) (lenT n x.els)
            rw [HLN.out.1, HLN.out.2]
            exact HBB.out.1 rfl
          clear HBB
          obtain ⟨x0, x1, x2, x3, x4⟩ := blk5 E3.out.xb
          go_wp2_with fail
          refine (HI.out _ x.body Lb (ck - 1) w0 wc HX.out.2.1 (by have h2 := HX.out.2.2.2; have := H.out.2.1; omega) H.out.2.2.1 (H.out.2.2.2.1.trans (E3.out.chg.below H.out.2.2.2.1.size (fun j hj e => by have := H.out.2.2.1; omega))) E3.out.lb (by omega) (by have h1 := HCK.out; have h2 := HX.out.2.2.2; have h3 := H.out.2.2.2.2.2; have h4 := HL.out; omega)).mono ?_
          rintro e u1 ⟨⟨b1, rfl, hb1⟩, hc1, cb1, hl1, hq1, hg1, hg2⟩
          have E4 : Hid _ := E3.out.step hc1 hl1
          have HQ1 : Hid ((b1 = true ↔ allOkT n x.body) ∧ (allOkT n x.body → cb1 = ck - 1 - (sizeT n x.body : Int)) ∧ ck - 1 - (sizeT n x.body : Int) ≤ cb1 ∧ cb1 ≤ ck - 1) := ⟨hb1, hq1, hg1, hg2⟩
          clear hc1 hl1 hq1 hg1 hg2 hb1 x0 x1 x2 x3 x4 E3
          cases b1
          · have HN : Hid (¬ allOkT (n + 1) l) := fun e => by
              have := HQ1.out.1.2 (okTo_of e HX.out.1).2.1
              cases this
            go_wp2_with fail
            go_ret
            exact ⟨.no HN.out, E4.out.chg, _, E4.out.lb, fun e => absurd e HN.out, by have h1 := HCK.out; have h2 := HX.out.2.2.2; have h4 := HL.out; have h5 := HQ1.out.2.2; omega, by have h1 := HCK.out; have h5 := HQ1.out.2.2; omega⟩
          · have HB1 : Hid (allOkT n x.body ∧ cb1 = ck - 1 - (sizeT n x.body : Int)) := ⟨HQ1.out.1.1 rfl, HQ1.out.2.1 (HQ1.out.1.1 rfl)⟩
            clear HQ1
            obtain ⟨x0, x1, x2, x3, x4⟩ := blk5 E4.out.xb
            go_wp2_with fail
            refine (HI.out _ x.els Lb cb1 w0 u1 HX.out.2.2.1 (by have h2 := HX.out.2.2.2; have := H.out.2.1; omega) H.out.2.2.1 (H.out.2.2.2.1.trans (E4.out.chg.below H.out.2.2.2.1.size (fun j hj e => by have := H.out.2.2.1; omega))) E4.out.lb (by have := HB1.out.2; omega) (by have h0 := HB1.out.2; have h1 := HCK.out; have h2 := HX.out.2.2.2; have h3 := H.out.2.2.2.2.2; have h4 := HL.out; omega)).mono ?_
            rintro e u2 ⟨⟨b2, rfl, hb2⟩, hc2, cb2, hl2, hq2, hg1, hg2⟩
            have E5 : Hid _ := E4.out.step hc2 hl2
            have HQ2 : Hid ((b2 = true ↔ allOkT n x.els) ∧ (allOkT n x.els → cb2 = cb1 - (sizeT n x.els : Int)) ∧ cb1 - (sizeT n x.els : Int) ≤ cb2 ∧ cb2 ≤ cb1) := ⟨hb2, hq2, hg1, hg2⟩
            clear hc2 hl2 hq2 hg1 hg2 hb2 x0 x1 x2 x3 x4 E4
            cases b2
            · have HN : Hid (¬ allOkT (n + 1) l) := fun e => by
                have := HQ2.out.1.2 (okTo_of e HX.out.1).2.2
                cases this
              go_wp2_with fail
              go_ret
              exact ⟨.no HN.out, E5.out.chg, _, E5.out.lb, fun e => absurd e HN.out, by have h0 := HB1.out.2; have h1 := HCK.out; have h2 := HX.out.2.2.2; have h4 := HL.out; have h5 := HQ2.out.2.2; omega, by have h0 := HB1.out.2; have h1 := HCK.out; have h5 := HQ2.out.2.2; omega⟩
            · have HK2 : Hid (OkTo n l (k + 1) ∧ Chg (fun j => j = Lb) w u2 ∧ Blk u2 Lb #[.int .i64 (c - ((k + 1 : Nat) : Int) - (sumT n l (k + 1) : Int))] 2) := by
                refine ⟨HO.out.next HX.out.1 ⟨HOK.out, HB1.out.1, HQ2.out.1.1 rfl⟩, E5.out.chg, ?_⟩
                have h6 := HQ2.out.2.1 (HQ2.out.1.1 rfl)
                have h0 := HB1.out.2
                have h1 := HCK.out
                have h2 := HX.out.2.2.2.1
                have e : c - ((k + 1 : Nat) : Int) - (sumT n l (k + 1) : Int) = cb2 := by omega
                rw [e]
                exact E5.out.lb
              clear HQ2 E5 HOK
              go_wp2_with fail
              go_roundw
              case rel => exact ⟨k + 1, by omega, by go_num, HK2⟩
              case measure => simp [intOf]; omega
    · have hkn : k = L := by omega
      subst hkn
      have HY : Hid (allOkT (n + 1) l) := HK.out.1.all (by rw [HL.out]; exact Nat.le_refl _)
      have HSZ : Hid (sizeT (n + 1) l = k + sumT n l k) := by
        show sizeT (n + 1) l = k + sumT n l k
        rw [sumT_all (i := k) (by rw [HL.out]; exact Nat.le_refl _), HL.out]
      go_wp2_with fail
      go_ret
      exact ⟨.yes HY.out, HK.out.2.1, _, HK.out.2.2, fun _ => by rw [HSZ.out]; omega, by rw [HSZ.out]; omega, by omega⟩
theorem l10Walk_any (n : Nat) : WkIs n := by
  induction n with
  | zero =>
    intro v t Lb c w0 w h hs hw hb hl hc hc2
    obtain ⟨a, cc, rfl⟩ := h
    exact l10Walk_none a cc Lb c w0 w hl
  | succ n ih => exact fun v t Lb c w0 w h hs hw hb hl hc hc2 => l10Walk_succ n ih v t Lb c w0 w h hs hw hb hl hc hc2
end Go.Proofs.YtalkpddhpmjgcaaGreat
