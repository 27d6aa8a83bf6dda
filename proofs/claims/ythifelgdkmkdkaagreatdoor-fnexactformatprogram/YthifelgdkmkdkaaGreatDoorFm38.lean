import Derived.Test.YthifelgdkmkdkaaGreatDoorFm36
import Derived.Deep.DeepCutAuto
import Derived.Test.YthifelgdkmkdkaaGreatDoorFm37
namespace Go.Proofs.YthifelgdkmkdkaaGreatDoor
open Go.ChangeShapes Go.WideShapes Go.ChangeAt Go.RowKit
set_option linter.unusedVariables false
theorem words_one (ws : List (List UInt8)) : ∀ u ∈ ws.flatMap wordCell, u.oneCell' = true := by
  intro u hu
  obtain ⟨x, _, hx⟩ := List.mem_flatMap.1 hu
  simp [wordCell] at hx
  subst hx
  rfl
theorem words_flat (ws : List (List UInt8)) : (ws.flatMap wordCell).length = ws.length := by rw [flat_length wordCell 1 wordCell_length, Nat.mul_one]
/-- Ahead of the line: the function's copy, and words. -/
structure FuAt (w u : World) (g : VF) (f : MF) (V : Value) (ws : List (List UInt8)) : Prop where
  bel : Below w.heap.size w u
  fn : Blk u w.heap.size #[g.p, .int .i64 f.result, g.l, g.c] 52
  own : u.ownsRow (w.heap.size + 1) 9 1 V ws.length (ws.flatMap wordCell)
theorem FuAt.call {w u u' : World} {g : VF} {f : MF} {V : Value} {ws : List (List UInt8)} (h : FuAt w u g f V ws) (hb : Below u.heap.size u u') : FuAt w u' g f V ws := ⟨below_on h.bel (Nat.le_refl _) hb, h.fn.keep hb, own_keep h.own hb (Nat.le_refl _)⟩
theorem FuAt.more {w u u' : World} {g : VF} {f : MF} {V V' : Value} {ws ns : List (List UInt8)} (h : FuAt w u g f V ws) (m : Nat) (hm : ns.length = m) (ho : u'.ownsRow (w.heap.size + 1) 9 1 V' (ws.length + m) (ws.flatMap wordCell ++ ns.flatMap wordCell)) (hg : u.grownBy u' V.ownBlock) : FuAt w u' g f V' (ws ++ ns) := by
  refine ⟨h.bel.grown hg h.bel.size (fun k hk => by have := (h.own.lt k hk).1; omega), h.fn.grown hg h.own (by decide), ?_⟩
  rw [List.length_append, List.flatMap_append, hm]
  exact ho
theorem FuAt.size {w u : World} {g : VF} {f : MF} {V : Value} {ws : List (List UInt8)} (h : FuAt w u g f V ws) : w.heap.size + 1 ≤ u.heap.size := h.fn.lt
set_option maxHeartbeats 4000000 in
set_option maxRecDepth 100000 in
theorem function_any (w0 : World) (b : Nat) (l : List UInt8) (g : VF) (f : MF) (w : World) (hw : Below w0.heap.size w0 w) (h : PAt w0.heap.size w b l) (hr : RdF w0 g f) (ht : PowTab w0) (hfs : f.small) (hff : f.wf) (hok : ∀ x ∈ f.code, (0 ≤ x.op ∧ x.op ≤ 29) ∧ 0 ≤ x.a ∧ 0 ≤ x.b ∧ 0 ≤ x.c) (hl : l.length ≤ 10000000000) :
    Calls Tryz.prog 26 #[.pointer (some ⟨b, 0, none⟩), .agg #[g.p, .int .i64 f.result, g.l, g.c]] w fun e w' => e = .returned (.tuple #[]) ∧ PAt w0.heap.size w' b (l ++ funcL f) ∧ Wg w0.heap.size w w' := by
  obtain ⟨j0, hj0, hz0, hz1, hz2⟩ := info_parts infoStr
  have HG : Hid (Below w0.heap.size w0 w ∧ PAt w0.heap.size w b l ∧ RdF w0 g f ∧ PowTab w0 ∧ f.small ∧ f.wf ∧ ∀ x ∈ f.code, (0 ≤ x.op ∧ x.op ≤ 29) ∧ 0 ≤ x.a ∧ 0 ≤ x.b ∧ 0 ≤ x.c) := ⟨hw, h, hr, ht, hfs, hff, hok⟩
  obtain ⟨gp, gl, gc⟩ := g
  obtain ⟨a1, c1, e1⟩ : ∃ a c, gp = .slice a f.params.length c := hr.1.is_slice
  obtain ⟨a2, c2, e2⟩ : ∃ a c, gl = .slice a f.locals.length c := hr.2.1.is_slice
  obtain ⟨a3, c3, e3⟩ : ∃ a c, gc = .slice a f.code.length c := hr.2.2.is_slice
  subst e1 e2 e3
  have hs1 := hfs.1
  have hs2 := hfs.2.1
  have hs3 := hfs.2.2
  clear hw h hr ht hfs hff hok
  have HB0 : Hid (Blk (w.alloc (.cells #[.slice a1 f.params.length c1, .int .i64 f.result, .slice a2 f.locals.length c2, .slice a3 f.code.length c3] 52)) w.heap.size #[.slice a1 f.params.length c1, .int .i64 f.result, .slice a2 f.locals.length c2, .slice a3 f.code.length c3] 52) := Blk.new _ _ _
  have i0 := HB0.out.cell 0
  simp only [List.getElem?_toArray, List.getElem?_cons_zero] at i0
  go_enter Tryz.func26, Tryz.ntmps26
  go_wp2_with fail
  refine (typeNames_any (.slice a1 f.params.length c1) f.params.length f.params _ hs1 (HG.out.2.2.1.1.keep (below_on HG.out.1 (Nat.le_refl _) (below_alloc _ _)) (Nat.le_refl _)) rfl).mono ?_
  rintro e u1 ⟨rfl, ho, b1⟩
  have e0 : (w.alloc (.cells #[.slice a1 f.params.length c1, .int .i64 f.result, .slice a2 f.locals.length c2, .slice a3 f.code.length c3] 52)).heap.size = w.heap.size + 1 := by simp
  rw [e0] at ho ⊢
  have H1 : Hid (FuAt w u1 ⟨.slice a1 f.params.length c1, .slice a2 f.locals.length c2, .slice a3 f.code.length c3⟩ f (.slice (some ⟨w.heap.size + 1, 0, none⟩) f.params.length f.params.length) (f.params.map tyName)) := by
    refine ⟨below_on (below_alloc _ _) (Nat.le_refl _) b1, HB0.out.keep b1, ?_⟩
    rw [tyCell_flat] at ho
    rw [List.length_map]
    exact ho
  clear HB0 ho b1 i0 e0
  have hpl : (f.params.map tyName).length ≤ 1048576 := by rw [List.length_map]; exact hs1
  have hs4 := H1.out.size
  go_upto_if 14 with (at_builtin; refine wpList_append_own _ rfl _ _ 72 rfl (w.heap.size + 1) 9 j0 (.string ⟨#[]⟩) 1 16 Tryz.underlying72 hj0 hz0 hz1 hz2 rfl (by decide) _ _ _ rfl (H1.out.call (below_alloc _ _)).own ⟨u1.heap.size, 0, none⟩ 1 1 ([[58]].flatMap wordCell) rfl rfl (lit_cells u1 ([[58]].flatMap wordCell) 9) (words_one _) (by unfold maxLen; omega) (by omega) (by simp; omega) ?_; intro V' u3 ho hg _; have H2 : Hid (FuAt w u3 ⟨.slice a1 f.params.length c1, .slice a2 f.locals.length c2, .slice a3 f.code.length c3⟩ f V' (f.params.map tyName ++ [[58]])) := (H1.out.call (below_alloc _ _)).more 1 rfl ho hg; clear ho hg; have i1 : u3.cell? ⟨w.heap.size, 1, none⟩ = some (.int .i64 f.result) := H2.out.fn.cell 1)
  have hs5 := H2.out.size
  go_cut [4] (fun s wx => Hid (FuAt w wx ⟨.slice a1 f.params.length c1, .slice a2 f.locals.length c2, .slice a3 f.code.length c3⟩ f s (f.params.map tyName ++ [[58]] ++ [resW f.result, [58]])))
  case first =>
    by_cases hr : f.result = 0
    · have hr' : (f.result == 0) = true := by simpa using hr
      have HR : Hid (resW f.result = [110, 111, 110, 101]) := by show _ = _; rw [resW, if_pos hr]
      clear hr i1
      go_wp2_with (at_builtin; refine wpList_append_own _ rfl _ _ 72 rfl (w.heap.size + 1) 9 j0 (.string ⟨#[]⟩) 1 16 Tryz.underlying72 hj0 hz0 hz1 hz2 rfl (by decide) _ _ _ rfl (H2.out.call (below_alloc _ _)).own ⟨u3.heap.size, 0, none⟩ 2 2 ([[110, 111, 110, 101], [58]].flatMap wordCell) rfl rfl (lit_cells u3 ([[110, 111, 110, 101], [58]].flatMap wordCell) 9) (words_one _) (by simp only [List.length_append, List.length_cons, List.length_nil]; unfold maxLen; omega) (by simp only [List.length_append, List.length_cons, List.length_nil]; omega) (by simp; omega) ?_; intro V' u3 ho hg _; have H3 : Hid (FuAt w u3 ⟨.slice a1 f.params.length c1, .slice a2 f.locals.length c2, .slice a3 f.code.length c3⟩ f V' (f.params.map tyName ++ [[58]] ++ [[110, 111, 110, 101], [58]])) := (H2.out.call (below_alloc _ _)).more 2 rfl ho hg; clear ho hg)
      go_meet
      rw [HR.out]
      exact H3.out
    · have hr' : (f.result == 0) = false := by simpa using hr
      have HR : Hid (resW f.result = tyName f.result) := by show _ = _; rw [resW, if_neg hr]
      clear hr
      go_wp2_with fail
      refine (ITypeName_any f.result _).mono ?_
      rintro e u4 ⟨rfl, rfl⟩
      unfold strV
      generalize tyName f.result = tr at *
      clear i1
      go_wp2_with (at_builtin; refine wpList_append_own _ rfl _ _ 72 rfl (w.heap.size + 1) 9 j0 (.string ⟨#[]⟩) 1 16 Tryz.underlying72 hj0 hz0 hz1 hz2 rfl (by decide) _ _ _ rfl (H2.out.call (below_alloc _ _)).own ⟨u4.heap.size, 0, none⟩ 2 2 ([tr, [58]].flatMap wordCell) rfl rfl (lit_cells u4 ([tr, [58]].flatMap wordCell) 9) (words_one _) (by simp only [List.length_append, List.length_cons, List.length_nil]; unfold maxLen; omega) (by simp only [List.length_append, List.length_cons, List.length_nil]; omega) (by simp; omega) ?_; intro V' u3 ho hg _; have H3 : Hid (FuAt w u3 ⟨.slice a1 f.params.length c1, .slice a2 f.locals.length c2, .slice a3 f.code.length c3⟩ f V' (f.params.map tyName ++ [[58]] ++ [tr, [58]])) := (H2.out.call (below_alloc _ _)).more 2 rfl ho hg; clear ho hg)
      go_meet
      rw [HR.out]
      exact H3.out
  case rest =>
  have H4 := hcut
  clear hcut H1 H2 i1 hs4 hs5
  generalize u4 = V4 at *
  have hwl : (f.params.map tyName ++ [[58]] ++ [resW f.result, [58]]).length ≤ 1048579 := by simp only [List.length_append, List.length_cons, List.length_nil]; omega
  generalize hwd : f.params.map tyName ++ [[58]] ++ [resW f.result, [58]] = ws at *
  have HWD : Hid (f.params.map tyName ++ [[58]] ++ [resW f.result, [58]] = ws) := hwd
  clear hwd hpl
  have i2 : wc.cell? ⟨w.heap.size, 2, none⟩ = some (.slice a2 f.locals.length c2) := H4.out.fn.cell 2
  go_wp2_with fail
  refine (typeNames_any (.slice a2 f.locals.length c2) f.locals.length f.locals _ hs2 (HG.out.2.2.1.2.1.keep (below_on HG.out.1 (Nat.le_refl _) (H4.out.bel.mono (Nat.le_refl _))) (Nat.le_refl _)) rfl).mono ?_
  rintro e u5 ⟨rfl, ho, b5⟩
  have H5 : Hid (FuAt w u5 ⟨.slice a1 f.params.length c1, .slice a2 f.locals.length c2, .slice a3 f.code.length c3⟩ f V4 ws ∧ u5.ownsRow wc.heap.size 9 1 (.slice (some ⟨wc.heap.size, 0, none⟩) f.locals.length f.locals.length) f.locals.length ((f.locals.map tyName).flatMap wordCell)) := ⟨H4.out.call b5, by rw [tyCell_flat] at ho; exact ho⟩
  clear H4 ho b5 i2
  generalize wc.heap.size = Y at *
  have hs6 := H5.out.1.size
  have HC5 : Hid (∀ j u, ((f.locals.map tyName).flatMap wordCell)[j]? = some u → u5.cell? ((⟨Y, 0, none⟩ : Addr).add j) = some u) := fun j u hj => by
    rw [add_at, Nat.zero_add]
    rcases (Rd.of_own H5.out.2).2 with ⟨e0, _⟩ | ⟨g', o', c', e', hc'⟩
    · have := List.eq_nil_of_length_eq_zero e0
      rw [this] at hj
      simp at hj
    · simp only [Value.slice.injEq, Option.some.injEq, Addr.mk.injEq] at e'
      obtain ⟨⟨rfl, rfl, _⟩, _⟩ := e'
      have := hc' j u hj
      rw [Nat.zero_add] at this
      exact this
  go_wp2_with (at_builtin; refine wpList_append_own _ rfl _ _ 72 rfl (w.heap.size + 1) 9 j0 (.string ⟨#[]⟩) 1 16 Tryz.underlying72 hj0 hz0 hz1 hz2 rfl (by decide) _ _ _ rfl H5.out.1.own ⟨Y, 0, none⟩ f.locals.length f.locals.length ((f.locals.map tyName).flatMap wordCell) rfl (by rw [words_flat, List.length_map, Nat.mul_one]) HC5.out (words_one _) (by unfold maxLen; omega) (by omega) hs6 ?_; intro V' u6 ho hg _; have H6 : Hid (FuAt w u6 ⟨.slice a1 f.params.length c1, .slice a2 f.locals.length c2, .slice a3 f.code.length c3⟩ f V' (ws ++ f.locals.map tyName)) := H5.out.1.more f.locals.length (List.length_map _) ho hg; clear ho hg)
  have HFW : Hid (ws ++ f.locals.map tyName = funcW f) := by show _ = _; rw [← HWD.out, funcW]
  have hhl := funcH_le f HG.out.2.2.2.2.1
  have hws : (funcW f).length ≤ 4194304 := by rw [← HFW.out, List.length_append, List.length_map]; omega
  refine (line_any w0.heap.size b l [102, 117, 110, 99] _ (funcW f) (w.heap.size + 1) _ (HG.out.2.1.call H6.out.bel) (by rw [← HFW.out]; exact H6.out.own) (Nat.le_trans HG.out.1.size H6.out.bel.size) hws (by omega)).mono ?_
  rintro e u7 ⟨rfl, hp, hg⟩
  have H7 : Hid (Blk u7 w.heap.size #[.slice a1 f.params.length c1, .int .i64 f.result, .slice a2 f.locals.length c2, .slice a3 f.code.length c3] 52 ∧ PAt w0.heap.size u7 b (l ++ lineT [102, 117, 110, 99] (funcW f)) ∧ Wg w0.heap.size w u7) := ⟨hg.block H6.out.fn (by decide) (by decide), hp, (Wg.of_below H6.out.bel HG.out.1.size).trans hg⟩
  have i3 : u7.cell? ⟨w.heap.size, 3, none⟩ = some (.slice a3 f.code.length c3) := H7.out.1.cell 3
  clear H5 H6 hp hg HC5 HFW HWD hwl hws hs6
  have hlh : (l ++ lineT [102, 117, 110, 99] (funcW f)).length ≤ 10016777216 := by rw [List.length_append]; omega
  generalize hhd : l ++ lineT [102, 117, 110, 99] (funcW f) = lh at *
  have HH : Hid (l ++ lineT [102, 117, 110, 99] (funcW f) = lh) := hhd
  clear hhd hhl
  generalize hcl : f.code.length = nc at *
  have HC : Hid (f.code.length = nc) := hcl
  clear hcl
  go_wp2_with fail
  clear i3
  go_loopw [34] (fun i wr => ∃ q : Nat, i = .int .i64 q ∧ q ≤ nc ∧ Hid (PAt w0.heap.size wr b (lh ++ (f.code.take q).flatMap instrL) ∧ Wg w0.heap.size w wr)) (fun i _ => nc - (intOf i).toNat)
  case atStart => exact ⟨0, rfl, by omega, by simpa [Hid] using H7.out.2⟩
  case round =>
    clear H7
    obtain ⟨q, rfl, hq, H8⟩ := hrel
    have hll : (lh ++ (f.code.take q).flatMap instrL).length ≤ 1099511627776 := by
      rw [List.length_append]
      have := flat_take_le instrL 128 f.code q fun x hx => instrL_le x (HG.out.2.2.2.2.2.1.code x hx)
      rw [HC.out] at this
      omega
    by_cases hlq : q < nc
    · obtain ⟨x, hx⟩ : ∃ x, f.code[q]? = some x := ⟨_, List.getElem?_eq_getElem (by rw [HC.out]; exact hlq)⟩
      have HBW : Hid (Below w0.heap.size w0 wr) := HG.out.1.trans H8.out.2.bel
      obtain ⟨gi, oi, ci, e1, y0, y1, y2, y3⟩ := in_at HG.out.2.2.1.2.2 hx
      rw [HC.out] at e1
      simp only [Value.slice.injEq, true_and] at e1
      obtain ⟨rfl, rfl⟩ := e1
      rw [← HBW.out.cell (block_lt_of_cell y0)] at y0
      rw [← HBW.out.cell (block_lt_of_cell y1)] at y1
      rw [← HBW.out.cell (block_lt_of_cell y2)] at y2
      rw [← HBW.out.cell (block_lt_of_cell y3)] at y3
      have HX : Hid (((0 ≤ x.op ∧ x.op ≤ 29) ∧ 0 ≤ x.a ∧ 0 ≤ x.b ∧ 0 ≤ x.c) ∧ x.wf) := ⟨HG.out.2.2.2.2.2.2 x (List.mem_of_getElem? hx), HG.out.2.2.2.2.2.1.code x (List.mem_of_getElem? hx)⟩
      have HN : Hid ((f.code.take (q + 1)).flatMap instrL = (f.code.take q).flatMap instrL ++ instrL x) := flat_next instrL f.code q x hx
      clear hx
      obtain ⟨xo, xa, xb, xc⟩ := x
      simp only [] at y0 y1 y2 y3
      obtain ⟨k0, k1, k2, k3⟩ := At4.new wr (.int .i64 xo) (.int .i64 xa) (.int .i64 xb) (.int .i64 xc) 55
      go_wp2_with fail
      refine (instruction_any w0.heap.size b _ xo xa xb xc _ (H8.out.1.call (below_alloc _ _)) (by have := HBW.out.size; simp; omega) (HG.out.2.2.2.1.keep (below_on HBW.out (Nat.le_refl _) (below_alloc _ _)) (Nat.le_refl _)) HX.out.1.1 ⟨HX.out.1.2.1, (W64_in HX.out.2.2.1).2⟩ ⟨HX.out.1.2.2.1, (W64_in HX.out.2.2.2.1).2⟩ ⟨HX.out.1.2.2.2, (W64_in HX.out.2.2.2.2).2⟩ hll).mono ?_
      rintro e u9 ⟨rfl, hp, hg⟩
      have H9 : Hid (PAt w0.heap.size u9 b (lh ++ (f.code.take (q + 1)).flatMap instrL) ∧ Wg w0.heap.size w u9) := ⟨by rw [HN.out, ← List.append_assoc]; exact hp, (H8.out.2.trans (Wg.of_below (below_alloc _ _) HBW.out.size)).trans hg⟩
      clear hp hg k0 k1 k2 k3 y0 y1 y2 y3
      go_wp2
      go_roundw
      case rel => exact ⟨q + 1, by go_num, by omega, H9.out⟩
      case measure => simp [intOf]; omega
    · have hqn : nc = q := by omega
      subst hqn
      have HE : Hid (PAt w0.heap.size wr b (l ++ funcL f) ∧ Wg w0.heap.size w wr) := by
        refine ⟨?_, H8.out.2⟩
        have := H8.out.1
        rw [List.take_of_length_le (by rw [HC.out]; exact Nat.le_refl _), ← HH.out, List.append_assoc] at this
        exact this
      go_wp2
      go_end0
      exact ⟨rfl, HE.out⟩
end Go.Proofs.YthifelgdkmkdkaaGreatDoor
