import Derived.Test.YtifpjgdnikkekaaGreatSh16
import Derived.Deep.DeepCutAuto
import Derived.Test.YtifpjgdnikkekaaGreatSh11
import Derived.Test.YtifpjgdnikkekaaGreatSh14
namespace Go.Proofs.YtifpjgdnikkekaaGreat
open Go.ChangeShapes Go.WideShapes Go.ChangeAt Go.RowKit
set_option linter.unusedVariables false
/-- What pop leaves. -/
def PopT (w : World) (S : Nat) (V : Value) (sh ts : List Int) (V2 : Value) (c : Int) (w' : World) : Prop :=
  (sh.length < ts.length ∧ c = 1 ∧ Below w.heap.size w w') ∨ (ts.length ≤ sh.length ∧ fitsT (sh.drop (sh.length - ts.length)) ts = false ∧ c = 2 ∧ Below w.heap.size w w') ∨
  (ts.length ≤ sh.length ∧ fitsT (sh.drop (sh.length - ts.length)) ts = true ∧ c = 0 ∧ (∃ V', Stk w' S V' (sh.take (sh.length - ts.length)) ∧ V'.ownBlock = V.ownBlock) ∧ w'.ownsRow w.heap.size 2 1 V2 ts.length ((sh.drop (sh.length - ts.length)).flatMap intCell) ∧ Chg (fun j => j = S) w w')
theorem Stk.short {w : World} {S : Nat} {a : Option Addr} {n c m : Nat} {xs : List Int} (h : Stk w S (.slice a n c) xs) (hm : m ≤ xs.length) (hn : n = xs.length) : w.ownsRow (S + 1) 2 1 (.slice a m c) m ((xs.take m).flatMap intCell) := by
  subst hn
  have h1 := h.own
  have hmk : m * 1 ≤ xs.length * 1 := by omega
  refine ⟨by rw [flat_length intCell 1 intCell_length, List.length_take, Nat.min_eq_left hm], ?_⟩
  rcases h1.2 with ⟨e1, e2⟩ | ⟨g, cap, cur, e1, hb, hg, hnc, hcm, hcs, ht⟩
  · have hz : m = 0 := by omega
    subst hz
    simp only [Value.slice.injEq] at e1
    obtain ⟨rfl, _, rfl⟩ := e1
    exact .inl ⟨rfl, rfl⟩
  · simp only [Value.slice.injEq, true_and] at e1
    obtain ⟨rfl, rfl⟩ := e1
    refine .inr ⟨g, c, cur, rfl, hb, hg, by omega, hcm, hcs, ?_⟩
    have e : (xs.take m).flatMap intCell = (xs.flatMap intCell).take (m * 1) := by
      rw [← ht, List.take_take, Nat.min_eq_left hmk]
      have h2 : xs.flatMap intCell = (xs.take m).flatMap intCell ++ (xs.drop m).flatMap intCell := by rw [← List.flatMap_append, List.take_append_drop]
      have h3 : cur.toList.take (m * 1) = (xs.flatMap intCell).take (m * 1) := by rw [← ht, List.take_take, Nat.min_eq_left hmk]
      rw [h3, h2]
      exact (List.take_left' (by rw [flat_length intCell 1 intCell_length, List.length_take, Nat.min_eq_left hm])).symm
    rw [e, ← ht, List.take_take, Nat.min_eq_left hmk]
theorem Stk.tail {w : World} {S g n c : Nat} {xs : List Int} (h : Stk w S (.slice (some ⟨g, 0, none⟩) n c) xs) (lo : Nat) (c' : Nat) (hn : lo ≤ xs.length) : Rd w 1 (.slice (some ⟨g, lo, none⟩) (xs.length - lo) c') (xs.length - lo) ((xs.drop lo).flatMap intCell) := by
  refine ⟨by rw [flat_length intCell 1 intCell_length, List.length_drop], .inr ⟨g, lo, c', rfl, fun j u hj => ?_⟩⟩
  rcases (Rd.of_own h.own).2 with ⟨e, _, _, e2⟩ | ⟨g', o, c2, e, hc⟩
  · have : xs = [] := List.eq_nil_of_length_eq_zero e
    subst this
    simp at hj
  · simp only [Value.slice.injEq, Option.some.injEq, Addr.mk.injEq] at e
    obtain ⟨⟨rfl, rfl, _⟩, _⟩ := e
    have h2 : xs.flatMap intCell = (xs.take lo).flatMap intCell ++ (xs.drop lo).flatMap intCell := by rw [← List.flatMap_append, List.take_append_drop]
    have h3 : (xs.flatMap intCell)[lo + j]? = some u := by
      rw [h2, List.getElem?_append_right (by rw [flat_length intCell 1 intCell_length, List.length_take, Nat.min_eq_left hn]; omega), flat_length intCell 1 intCell_length, List.length_take, Nat.min_eq_left hn]
      rw [show lo + j - lo * 1 = j by omega]
      exact hj
    have := hc (lo + j) u h3
    rw [Nat.zero_add] at this
    exact this
theorem Stk.shrink {w : World} {S : Nat} {a : Option Addr} {n c m : Nat} {xs : List Int} (h : Stk w S (.slice a n c) xs) (hm : m ≤ xs.length) (hn : n = xs.length) : Stk (w.setCell ⟨S, 0, none⟩ (.slice a m c)) S (.slice a m c) (xs.take m) := by
  refine ⟨by have := h.blk.set 0 (.slice a m c); simpa using this, ?_⟩
  rw [List.length_take, Nat.min_eq_left hm]
  exact ownsRow_setCell_below (h.short hm hn) (by simp only []; omega) _
set_option maxHeartbeats 4000000 in
set_option maxRecDepth 100000 in
theorem popT_any (S : Nat) (V vw : Value) (sh ts : List Int) (w : World) (h : Stk w S V sh) (hw : Rd w 1 vw ts.length (ts.flatMap intCell)) (hx : sh.length ≤ 1048576) (hy : ts.length ≤ 1048576) : Calls Tryz.prog 148 #[.pointer (some ⟨S, 0, none⟩), vw] w fun e w' => ∃ V2 c, e = .returned (.tuple #[V2, .int .i64 c]) ∧ PopT w S V sh ts V2 c w' := by
  obtain ⟨a2, c2, rfl⟩ := hw.is_slice
  have H : Hid (Stk w S V sh ∧ Rd w 1 (.slice a2 ts.length c2) ts.length (ts.flatMap intCell) ∧ sh.length ≤ 1048576 ∧ ts.length ≤ 1048576) := ⟨h, hw, hx, hy⟩
  clear h hw
  by_cases hlt : sh.length < ts.length
  · have HL : Hid (sh.length < ts.length) := hlt
    have hneg : (sh.length : Int) - (ts.length : Int) < 0 := by omega
    clear hlt
    go_enter Tryz.func148, Tryz.ntmps148
    go_wp2_with fail
    refine (height_any S V sh w H.out.1).mono ?_
    rintro e u ⟨rfl, rfl⟩
    go_wp2_with fail
    go_ret2
    exact ⟨_, 1, rfl, .inl ⟨HL.out, rfl, Below.refl _ _⟩⟩
  · obtain ⟨lo, hlo⟩ : ∃ lo, sh.length = lo + ts.length := ⟨sh.length - ts.length, by omega⟩
    have HLO : Hid (sh.length = lo + ts.length) := hlo
    have hnn : ¬ (lo : Int) < 0 := by omega
    have HSL : Hid (sh.length - ts.length = lo) := by show sh.length - ts.length = lo; omega
    rcases own_row H.out.1.own with ⟨e, e0⟩ | ⟨g, c, e⟩
    · subst e
      have hsh : sh = [] := List.eq_nil_of_length_eq_zero e0
      subst hsh
      have hts : ts = [] := List.eq_nil_of_length_eq_zero (by simp at hlt; omega)
      subst hts
      clear hlo hlt hnn e0 HLO HSL hx hy
      rw [List.length_nil]
      have c0 := H.out.1.blk.cell 0
      have f0 := H.out.1.blk.frozen 0
      simp only [List.getElem?_toArray, List.getElem?_cons_zero] at c0
      go_enter Tryz.func148, Tryz.ntmps148
      go_wp2_with fail
      refine (height_any S _ [] w H.out.1).mono ?_
      rintro e u ⟨rfl, rfl⟩
      rw [List.length_nil]
      go_wp2_with fail
      refine (clone64_any _ 0 [] u (by omega) (fun u hu => by cases hu) ⟨rfl, .inl ⟨rfl, _, _, rfl⟩⟩).mono ?_
      rintro e u1 ⟨a3, c3, rfl, ho, hb⟩
      have HO : Hid (u1.ownsRow u.heap.size 2 1 (.slice a3 0 c3) 0 [] ∧ Below u.heap.size u u1) := ⟨ho, hb⟩
      clear ho hb c0 f0
      go_wp2_with fail
      refine (eqFits_any _ _ [] [] u1 (by simp) (by simp) ⟨rfl, .inl ⟨rfl, _, _, rfl⟩⟩ ⟨rfl, .inl ⟨rfl, _, _, rfl⟩⟩).mono ?_
      rintro e u2 ⟨⟨b2, rfl, hb2⟩, bl2⟩
      have hbt : b2 = true := hb2.2 rfl
      subst hbt
      have H2 : Hid (u2.ownsRow u.heap.size 2 1 (.slice a3 0 c3) 0 [] ∧ Below u.heap.size u u2) := ⟨own_keep HO.out.1 bl2 (Nat.le_refl _), below_on HO.out.2 (Nat.le_refl _) bl2⟩
      clear hb2 bl2 HO
      have HK := (H.out.1.keep H2.out.2).blk
      have c0 := HK.cell 0
      have f0 := HK.frozen 0
      simp only [List.getElem?_toArray, List.getElem?_cons_zero] at c0
      have HP : Hid (Stk (u2.setCell ⟨S, 0, none⟩ (.slice none 0 0)) S (.slice none 0 0) [] ∧ (u2.setCell ⟨S, 0, none⟩ (.slice none 0 0)).ownsRow u.heap.size 2 1 (.slice a3 0 c3) 0 [] ∧ Chg (fun j => j = S) u (u2.setCell ⟨S, 0, none⟩ (.slice none 0 0))) := ⟨(H.out.1.keep H2.out.2).shrink (m := 0) (by simp) rfl, ownsRow_setCell_below H2.out.1 H.out.1.blk.lt _, (Chg.of (R := fun j => j = S) H2.out.2).setCell (.inl rfl) _⟩
      clear HK
      go_wp2_with fail
      go_ret2
      exact ⟨_, 0, rfl, .inr (.inr ⟨Nat.le_refl _, rfl, rfl, ⟨.slice none 0 0, HP.out.1, rfl⟩, HP.out.2.1, HP.out.2.2⟩)⟩
    · subst e
      have hcp : sh.length ≤ c := by
        rcases H.out.1.own.2 with ⟨e, _⟩ | ⟨g', cap, cur, e, _, _, hnc, _⟩
        · cases e
        · simp only [Value.slice.injEq, Option.some.injEq, Addr.mk.injEq] at e
          obtain ⟨_, _, rfl⟩ := e
          exact hnc
      have c0 := H.out.1.blk.cell 0
      have f0 := H.out.1.blk.frozen 0
      simp only [List.getElem?_toArray, List.getElem?_cons_zero] at c0
      rw [hlo] at c0 hcp hx
      have HT : Hid (∀ c', Rd w 1 (.slice (some ⟨g, lo, none⟩) ts.length c') ts.length ((sh.drop lo).flatMap intCell)) := fun c' => by
        have := H.out.1.tail lo c' (by omega)
        rw [show sh.length - lo = ts.length by omega] at this
        exact this
      clear hlo hlt
      generalize htl : ts.length = m at c0 hcp hx hy HT ⊢
      have HTL : Hid (ts.length = m) := htl
      clear htl
      have hcI : (lo : Int) ≤ (c : Int) := by omega
      have hcI2 : (lo : Int) + (m : Int) ≤ (c : Int) := by omega
      go_enter Tryz.func148, Tryz.ntmps148
      go_wp2_with fail
      refine (height_any S _ sh w H.out.1).mono ?_
      rintro e u ⟨rfl, rfl⟩
      rw [HLO.out, HTL.out]
      have HDL : Hid ((sh.drop lo).length = m) := by show (sh.drop lo).length = m; rw [List.length_drop, HLO.out, HTL.out]; omega
      go_upto_region 4 with fail
      go_cut [7] (fun s wx => ∃ a c', s = .slice a m c' ∧ Hid (wx.ownsRow u.heap.size 2 1 (.slice a m c') m ((sh.drop lo).flatMap intCell) ∧ Below u.heap.size u wx))
      case first =>
        go_wp2_with fail
        all_goals
          refine (clone64_any _ m ((sh.drop lo).flatMap intCell) u (by omega) (ints_oneCell _) (by
            first
              | exact HT.out _
              | exact ⟨by rw [flat_length intCell 1 intCell_length, HDL.out], .inl ⟨by omega, _, _, by rw [show m = 0 by omega]⟩⟩)).mono ?_
          rintro e u1 ⟨a3, c3, rfl, ho, hb⟩
          have HO : Hid (u1.ownsRow u.heap.size 2 1 (.slice a3 m c3) m ((sh.drop lo).flatMap intCell) ∧ Below u.heap.size u u1) := ⟨ho, hb⟩
          clear ho hb
          go_wp2_with fail
          go_meet
          exact ⟨_, _, rfl, HO⟩
      case rest =>
        obtain ⟨a3, c3, rfl, HO⟩ := hcut
        clear c0 f0
        obtain ⟨W1, hW1⟩ : ∃ W, W = wc := ⟨_, rfl⟩
        subst hW1
        go_wp2_with fail
        refine (eqFits_any _ _ (sh.drop lo) ts W1 (by rw [HDL.out]; omega) H.out.2.2.2 (by rw [HDL.out]; exact Rd.of_own HO.out.1) (by have := H.out.2.1.keep HO.out.2 (Nat.le_refl _); rw [HTL.out] at this ⊢; exact this)).mono ?_
        rintro e u2 ⟨⟨b2, rfl, hb2⟩, bl2⟩
        have H2 : Hid ((b2 = true ↔ fitsT (sh.drop lo) ts = true) ∧ u2.ownsRow u.heap.size 2 1 (.slice a3 m c3) m ((sh.drop lo).flatMap intCell) ∧ Below u.heap.size u u2) := ⟨hb2, own_keep HO.out.1 bl2 (Nat.le_refl _), below_on HO.out.2 (Nat.le_refl _) bl2⟩
        clear hb2 bl2 HO
        cases b2
        · have HN : Hid (fitsT (sh.drop lo) ts = false) := by
            cases hf : fitsT (sh.drop lo) ts with
            | false => rfl
            | true => have := H2.out.1.2 hf; cases this
          go_wp2_with fail
          go_ret2
          exact ⟨_, 2, rfl, .inr (.inl ⟨by have := HLO.out; omega, by rw [HSL.out]; exact HN.out, rfl, H2.out.2.2⟩)⟩
        · have HY : Hid (fitsT (sh.drop lo) ts = true) := H2.out.1.1 rfl
          have HK := (H.out.1.keep H2.out.2.2).blk
          have c0 := HK.cell 0
          have f0 := HK.frozen 0
          simp only [List.getElem?_toArray, List.getElem?_cons_zero] at c0
          rw [HLO.out, HTL.out] at c0
          have HP : Hid (Stk (u2.setCell ⟨S, 0, none⟩ (.slice (some ⟨g, 0, none⟩) lo c)) S (.slice (some ⟨g, 0, none⟩) lo c) (sh.take lo) ∧ (u2.setCell ⟨S, 0, none⟩ (.slice (some ⟨g, 0, none⟩) lo c)).ownsRow u.heap.size 2 1 (.slice a3 m c3) m ((sh.drop lo).flatMap intCell) ∧ Chg (fun j => j = S) u (u2.setCell ⟨S, 0, none⟩ (.slice (some ⟨g, 0, none⟩) lo c))) := ⟨(H.out.1.keep H2.out.2.2).shrink (by have := HLO.out; omega) rfl, ownsRow_setCell_below H2.out.2.1 H.out.1.blk.lt _, (Chg.of (R := fun j => j = S) H2.out.2.2).setCell (.inl rfl) _⟩
          clear HK
          go_wp2_with fail
          go_ret2
          refine ⟨_, 0, rfl, .inr (.inr ⟨by have := HLO.out; omega, by rw [HSL.out]; exact HY.out, rfl, ⟨.slice (some ⟨g, 0, none⟩) lo c, ?_, rfl⟩, ?_, HP.out.2.2⟩)⟩
          · rw [HSL.out]
            exact HP.out.1
          · rw [HSL.out, HTL.out]
            exact HP.out.2.1
end Go.Proofs.YtifpjgdnikkekaaGreat
namespace Go.Proofs.YtifpjgdnikkekaaGreat
open Go.ChangeShapes Go.WideShapes Go.ChangeAt Go.RowKit
set_option linter.unusedVariables false
theorem FaultIs.parts {p : MP} (h : FaultIs p 0) : RegionsOk p.regions ∧ ConstsOk p.consts ∧ FuncsOk p.funcs ∧ CodeOk p ∧ CertsOk p := by
  unfold FaultIs at h
  rcases h with h | h | h | h | h | h
  · exact absurd h.1 (by decide)
  · exact absurd h.1 (by decide)
  · exact absurd h.1 (by decide)
  · exact absurd h.1 (by decide)
  · exact absurd h.1 (by decide)
  · exact h.2
theorem FaultIs.instr {p : MP} (h : FaultIs p 0) {i j : Nat} {f : MF} {x : MI} (hf : p.funcs[i]? = some f) (hx : f.code[j]? = some x) : InstrOk p f x := h.parts.2.2.2.1 i (List.getElem?_eq_some_iff.1 hf).1 f hf j (List.getElem?_eq_some_iff.1 hx).1 x hx
theorem formK : formOf 1 = 1 ∧ formOf 2 = 2 ∧ formOf 3 = 2 ∧ formOf 4 = 3 ∧ formOf 5 = 3 ∧ formOf 6 = 4 ∧ formOf 7 = 4 ∧ formOf 27 = 10 ∧ formOf 28 = 11 := by decide +kernel
theorem InstrOk.const {p : MP} {f : MF} {x : MI} (h : InstrOk p f x) (e : x.op = 1) : ∃ (q : Nat) (z : MC), x.a = q ∧ p.consts[q]? = some z := by
  obtain ⟨_, _, h⟩ := h
  rw [e, formK.1] at h
  unfold FormOk takes at h
  have h1 : 0 ≤ x.a ∧ x.a < p.consts.length := by
    rcases h with h | h | h | h | h | h | h | h | h | h <;> first | (exfalso; omega) | exact ⟨h.2.1, h.2.2.1⟩
  obtain ⟨q, hq⟩ := Int.eq_ofNat_of_zero_le h1.1
  rw [hq] at h1
  exact ⟨q, _, hq, List.getElem?_eq_getElem (by omega)⟩
theorem localOf_at {f : MF} {a : Int} (h : ¬ localOf f a = 0) : ∃ q : Nat, a = q ∧ (f.params ++ f.locals)[q]? = some (localOf f a) := by
  by_cases h0 : a < 0
  · exact absurd (localOf_neg h0) h
  · obtain ⟨q, hq⟩ := Int.eq_ofNat_of_zero_le (by omega : 0 ≤ a)
    refine ⟨q, hq, ?_⟩
    subst hq
    unfold localOf at h ⊢
    rw [if_neg h0] at h ⊢
    rw [List.getD_eq_getElem?_getD] at h ⊢
    simp only [Int.toNat_natCast] at h ⊢
    cases e : (f.params ++ f.locals)[q]? with
    | none => rw [e] at h; exact absurd rfl h
    | some z => rfl
theorem InstrOk.local {p : MP} {f : MF} {x : MI} (h : InstrOk p f x) (e : x.op = 2 ∨ x.op = 3 ∨ x.op = 27) : ∃ q : Nat, x.a = q ∧ (f.params ++ f.locals)[q]? = some (localOf f x.a) := by
  apply localOf_at
  obtain ⟨_, _, h⟩ := h
  have hf : formOf x.op = 2 ∨ formOf x.op = 10 := by
    rcases e with e | e | e <;> rw [e]
    · exact .inl formK.2.1
    · exact .inl formK.2.2.1
    · exact .inr formK.2.2.2.2.2.2.2.1
  unfold FormOk takes at h
  rcases h with h | h | h | h | h | h | h | h | h | h <;> first | (exfalso; omega) | exact h.2.1
theorem cellOf_at {p : MP} {a b : Int} (h3 : p.regions.length = 3) (h : ¬ cellOf p a b = 0) : ∃ (q z : Nat) (r : List Int), a = q ∧ b = z ∧ p.regions[q]? = some r ∧ r[z]? = some (cellOf p a b) := by
  by_cases h0 : a < 0 ∨ 2 < a ∨ b < 0
  · exact absurd (cellOf_bad h0) h
  · obtain ⟨q, hq⟩ := Int.eq_ofNat_of_zero_le (by omega : 0 ≤ a)
    obtain ⟨z, hz⟩ := Int.eq_ofNat_of_zero_le (by omega : 0 ≤ b)
    subst hq hz
    have hr : p.regions[q]? = some (p.regions[q]'(by omega)) := List.getElem?_eq_getElem (by omega)
    refine ⟨q, z, _, rfl, rfl, hr, ?_⟩
    have e := cellOf_in (p := p) (r := q) (c := z) (by omega) hr
    rw [e] at h ⊢
    rw [List.getD_eq_getElem?_getD] at h ⊢
    cases e2 : (p.regions[q]'(by omega))[z]? with
    | none => rw [e2] at h; exact absurd rfl h
    | some t => rfl
theorem cellTy_at {p : MP} {x : MI} {q z : Nat} {r : List Int} {t : Int} (h1 : x.a = q) (h2 : x.b = z) (hr : p.regions[q]? = some r) (ht : r[z]? = some t) : cellTy p x = t := by
  unfold cellTy
  rw [h1, h2]
  simp only [Int.toNat_natCast, hr, ht]
  rfl
theorem InstrOk.cell {p : MP} {f : MF} {x : MI} (h3 : p.regions.length = 3) (h : InstrOk p f x) (e : x.op = 4 ∨ x.op = 5 ∨ x.op = 6 ∨ x.op = 7) : ∃ (q z : Nat) (r : List Int), x.a = q ∧ x.b = z ∧ p.regions[q]? = some r ∧ r[z]? = some (cellTy p x) := by
  obtain ⟨_, _, h⟩ := h
  have hf : formOf x.op = 3 ∨ formOf x.op = 4 := by
    rcases e with e | e | e | e <;> rw [e]
    · exact .inl formK.2.2.2.1
    · exact .inl formK.2.2.2.2.1
    · exact .inr formK.2.2.2.2.2.1
    · exact .inr formK.2.2.2.2.2.2.1
  unfold FormOk takes at h
  have hc : ¬ cellOf p x.a x.b = 0 := by
    rcases h with h | h | h | h | h | h | h | h | h | h <;> first | (exfalso; omega) | exact h.2.1 | exact h.2.1.there
  obtain ⟨q, z, r, h1, h2, hr, ht⟩ := cellOf_at h3 hc
  refine ⟨q, z, r, h1, h2, hr, ?_⟩
  rw [cellTy_at h1 h2 hr ht]
  exact ht
theorem InstrOk.mask {p : MP} {f : MF} {x : MI} (h : InstrOk p f x) (e : x.op = 6 ∨ x.op = 7) : MaskOk p x.a x.b x.c := by
  obtain ⟨_, _, h⟩ := h
  have hf : formOf x.op = 4 := by
    rcases e with e | e <;> rw [e]
    · exact formK.2.2.2.2.2.1
    · exact formK.2.2.2.2.2.2.1
  unfold FormOk takes at h
  rcases h with h | h | h | h | h | h | h | h | h | h <;> first | (exfalso; omega) | exact h.2.1
theorem InstrOk.callee {p : MP} {f : MF} {x : MI} (h : InstrOk p f x) (e : x.op = 28) : ∃ (q : Nat) (fq : MF), x.a = q ∧ p.funcs[q]? = some fq := by
  obtain ⟨_, _, h⟩ := h
  rw [e, formK.2.2.2.2.2.2.2.2] at h
  unfold FormOk takes at h
  have h1 : 0 ≤ x.a ∧ x.a < p.funcs.length := by
    rcases h with h | h | h | h | h | h | h | h | h | h <;> first | (exfalso; omega) | exact ⟨h.2.1, h.2.2.1⟩
  obtain ⟨q, hq⟩ := Int.eq_ofNat_of_zero_le h1.1
  rw [hq] at h1
  exact ⟨q, _, hq, List.getElem?_eq_getElem (by omega)⟩
theorem InstrOk.target {p : MP} {f : MF} {x : MI} (h : InstrOk p f x) (e : x.op = 25 ∨ x.op = 26 ∨ x.op = 27) : 0 ≤ x.c ∧ x.c < f.code.length := by
  obtain ⟨_, _, h⟩ := h
  have hk : formOf 25 = 9 ∧ formOf 26 = 9 ∧ formOf 27 = 10 := by decide +kernel
  have hf : formOf x.op = 9 ∨ formOf x.op = 10 := by
    rcases e with e | e | e <;> rw [e]
    · exact .inl hk.1
    · exact .inl hk.2.1
    · exact .inr hk.2.2
  unfold FormOk takes at h
  rcases h with h | h | h | h | h | h | h | h | h | h <;> first | (exfalso; omega) | exact h.2.2.2
end Go.Proofs.YtifpjgdnikkekaaGreat
namespace Go.Proofs.YtifpjgdnikkekaaGreat
open Go.ChangeShapes Go.WideShapes Go.ChangeAt Go.RowKit
set_option linter.unusedVariables false
theorem formL : formOf 8 = 5 ∧ formOf 9 = 5 ∧ formOf 10 = 5 ∧ formOf 11 = 5 ∧ formOf 12 = 5 ∧ formOf 13 = 6 ∧ formOf 14 = 6 ∧ formOf 15 = 6 ∧ formOf 16 = 6 ∧ formOf 20 = 7 ∧ formOf 21 = 5 ∧ formOf 22 = 8 := by decide +kernel
theorem InstrOk.type {p : MP} {f : MF} {x : MI} (h : InstrOk p f x) (e : (8 ≤ x.op ∧ x.op ≤ 16) ∨ x.op = 20 ∨ x.op = 21) : isT x.a = true := by
  obtain ⟨_, _, h⟩ := h
  have hf : formOf x.op = 5 ∨ formOf x.op = 6 ∨ formOf x.op = 7 := by
    have h3 : x.op = 8 ∨ x.op = 9 ∨ x.op = 10 ∨ x.op = 11 ∨ x.op = 12 ∨ x.op = 13 ∨ x.op = 14 ∨ x.op = 15 ∨ x.op = 16 ∨ x.op = 20 ∨ x.op = 21 := by omega
    obtain ⟨k0, k1, k2, k3, k4, k5, k6, k7, k8, k9, kA, kB⟩ := formL
    rcases h3 with e | e | e | e | e | e | e | e | e | e | e <;> rw [e] <;> omega
  unfold FormOk takes at h
  rcases h with h | h | h | h | h | h | h | h | h | h <;> first | (exfalso; omega) | (rcases h.1 with h | h | h <;> first | exact h.2 | (rcases h.2 with e | e <;> rw [e] <;> rfl))
theorem InstrOk.conv {p : MP} {f : MF} {x : MI} (h : InstrOk p f x) (e : x.op = 22) : isT x.a = true ∧ isT x.b = true := by
  obtain ⟨_, _, h⟩ := h
  have hf : formOf x.op = 8 := by rw [e]; exact formL.2.2.2.2.2.2.2.2.2.2.2
  unfold FormOk takes at h
  rcases h with h | h | h | h | h | h | h | h | h | h <;> first | (exfalso; omega) | exact ⟨h.2.1, h.2.2.1⟩
theorem InstrOk.loc0 {p : MP} {f : MF} {x : MI} (h : InstrOk p f x) (e : x.op = 2) : localOf f x.a ≠ 0 := fun e0 => by
  have h5 := h.2.2
  have hf2 : formOf x.op = 2 := by rw [e]; exact formK.2.1
  unfold FormOk takes at h5
  rcases h5 with h | h | h | h | h | h | h | h | h | h <;> first | (exfalso; omega) | exact h.2.1 e0
theorem gives_ok {p : MP} {f : MF} {x : MI} (hp : FaultIs p 0) (hx : InstrOk p f x) : (∀ t ∈ givesL p f x, t = 0 → 0 < (takesL p f x).length) ∧ (givesL p f x).length ≤ 2 := by
  have hpp := hp.parts
  have one : ∀ t : Int, t ≠ 0 → (∀ u ∈ [t], u = 0 → 0 < (takesL p f x).length) ∧ [t].length ≤ 2 := fun t ht => ⟨fun u hu e => by simp only [List.mem_singleton] at hu; exact absurd (hu.symm.trans e) ht, by simp⟩
  unfold givesL
  by_cases c1 : x.op = 1
  · rw [if_pos c1]
    obtain ⟨q, z, e1, e2⟩ := hx.const c1
    have hc := hpp.2.1.2 q (List.getElem?_eq_some_iff.1 e2).1 z e2
    have e3 : vAt p.consts x.a.toNat = z := by unfold vAt; rw [e1, Int.toNat_natCast, e2]; rfl
    rw [e3]
    exact one _ (isT_ne hc.1)
  rw [if_neg c1]
  by_cases c2 : x.op = 2
  · rw [if_pos c2]; exact one _ (hx.loc0 c2)
  rw [if_neg c2]
  by_cases c4 : x.op = 4 ∨ x.op = 6
  · rw [if_pos c4]
    obtain ⟨q, z, r, e1, e2, e3, e4⟩ := hx.cell hpp.1.1 (by omega)
    have := (hpp.1.2 q (List.getElem?_eq_some_iff.1 e3).1 r e3).2
    exact one _ (isT_ne (List.all_eq_true.1 this _ (List.mem_of_getElem? e4)))
  rw [if_neg c4]
  by_cases c8 : 8 ≤ x.op ∧ x.op ≤ 16
  · rw [if_pos c8]; exact one _ (isT_ne (hx.type (by omega)))
  rw [if_neg c8]
  by_cases c17 : x.op = 17 ∨ x.op = 18
  · rw [if_pos c17]; exact one _ (by decide)
  rw [if_neg c17]
  by_cases c19 : x.op = 19
  · rw [if_pos c19]; exact one _ (by decide)
  rw [if_neg c19]
  by_cases c20 : x.op = 20 ∨ x.op = 21
  · rw [if_pos c20]; exact one _ (by decide)
  rw [if_neg c20]
  by_cases c22 : x.op = 22
  · rw [if_pos c22]; exact one _ (isT_ne (hx.conv c22).2)
  rw [if_neg c22]
  by_cases c23 : x.op = 23
  · rw [if_pos c23]
    have e1 : takesL p f x = [0] := by unfold takesL; rw [if_neg (by omega), if_neg (by omega), if_neg (by omega), if_neg (by omega), if_neg (by omega), if_neg (by omega), if_neg (by omega), if_neg (by omega), if_pos (by omega)]
    rw [e1]
    exact ⟨fun _ _ _ => by simp, by simp⟩
  rw [if_neg c23]
  by_cases c28 : x.op = 28
  · rw [if_pos c28]
    obtain ⟨q, fq, e1, e2⟩ := hx.callee c28
    have hfq : FuncOk fq := hpp.2.2.1.2.2.1 q (List.getElem?_eq_some_iff.1 e2).1 fq e2
    rw [e1, Int.toNat_natCast, e2]
    simp only []
    unfold resultL
    by_cases hr : fq.result = 0
    · rw [if_pos hr]; exact ⟨fun t ht => (by cases ht), by simp⟩
    · rw [if_neg hr]; exact one _ hr
  · rw [if_neg c28]; exact ⟨fun t ht => (by cases ht), by simp⟩
end Go.Proofs.YtifpjgdnikkekaaGreat
