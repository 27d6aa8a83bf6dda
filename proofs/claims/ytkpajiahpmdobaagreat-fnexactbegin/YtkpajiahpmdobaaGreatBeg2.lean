/- Beg2: spec.l4Frame. -/
import Derived.Test.YtkpajiahpmdobaaGreatBeg1
import Derived.Test.YtkpajiahpmdobaaGreatBlk
import Derived.Test.YtkpajiahpmdobaaGreatMMarkZ
import Derived.Deep.RegionLaw
import Derived.Deep.AppendLies
namespace Go.Proofs.YtkpajiahpmdobaaGreat
open Go.ChangeShapes Go.WideShapes Go.ChangeAt Go.RowKit
set_option linter.unusedVariables false
/-- Zeros of types. -/
def zerosL (ts : List Int) : List MC := ts.map fun t => (⟨t, 0⟩ : MC)
theorem zerosL_length (ts : List Int) : (zerosL ts).length = ts.length := by simp [zerosL]
/-- Where the making of a frame stands: the function, the result's place, the frame, its locals so far. -/
structure FrAt (w u : World) (vp : Value) (f : MF) (al : Option Addr) (cl : Nat) (vc : Value) (V : Value) (k : Nat) : Prop where
  fn : Blk u w.heap.size #[vp, .int .i64 f.result, .slice al f.locals.length cl, vc] 67
  res : Blk u (w.heap.size + 1) #[.int .i64 0, .int .i64 0, .int .i64 0, .slice none 0 0] 63
  out : Blk u (w.heap.size + 1 + 1 + 1) #[.int .i64 0, .int .i64 0, .int .i64 0, V] 63
  row : u.ownsRow w.heap.size 102 2 V k (((zerosL f.locals).take k).flatMap MC.cells)
  bel : Below w.heap.size w u
structure FrKeep (w u : World) (vp : Value) (f : MF) (al : Option Addr) (cl : Nat) (vc : Value) (V : Value) : Prop where
  fn : Blk u w.heap.size #[vp, .int .i64 f.result, .slice al f.locals.length cl, vc] 67
  res : Blk u (w.heap.size + 1) #[.int .i64 0, .int .i64 0, .int .i64 0, .slice none 0 0] 63
  out : Blk u (w.heap.size + 1 + 1 + 1) #[.int .i64 0, .int .i64 0, .int .i64 0, V] 63
  bel : Below w.heap.size w u
theorem FrAt.grown {w u u' : World} {vp : Value} {f : MF} {al : Option Addr} {cl : Nat} {vc V : Value} {k : Nat} (h : FrAt w u vp f al cl vc V k) (hg : u.grownBy u' V.ownBlock) : FrKeep w u' vp f al cl vc V :=
  ⟨h.fn.grown hg h.row (by decide), h.res.grown hg h.row (by decide), h.out.grown hg h.row (by decide), h.bel.grown hg h.bel.size (fun j hj => (h.row.lt j hj).1)⟩
set_option maxHeartbeats 4000000 in
set_option maxRecDepth 100000 in
theorem l4Frame_any (g : VF) (f : MF) (w : World) (hs : f.small) (h : RdF w g f) :
    Calls Tryz.prog 24 #[.agg #[g.p, .int .i64 f.result, g.l, g.c], .int .i64 0, .int .i64 0, .slice none 0 0] w fun e w' => ∃ a c, e = .returned (.agg #[.int .i64 0, .int .i64 0, .int .i64 0, .slice a f.locals.length c]) ∧ w'.ownsRow w.heap.size 102 2 (.slice a f.locals.length c) f.locals.length ((zerosL f.locals).flatMap MC.cells) ∧ Below w.heap.size w w' := by
  obtain ⟨i0, hi, hz0, hz1, hz2⟩ := info_parts infoV
  have H : Hid (RdF w g f ∧ f.small) := ⟨h, hs⟩
  obtain ⟨al, cl, el⟩ := h.2.1.is_slice
  obtain ⟨vp, vl, vc⟩ := g
  simp only [] at el
  subst el
  obtain ⟨_, s2, _⟩ := hs
  clear h
  have E0 : Hid (FrAt w ((((w.alloc (.cells #[vp, .int .i64 f.result, .slice al f.locals.length cl, vc] 67)).alloc (.cells #[.int .i64 0, .int .i64 0, .int .i64 0, .slice none 0 0] 63)).alloc (.cells #[] 102)).alloc (.cells #[.int .i64 0, .int .i64 0, .int .i64 0, .slice (some ⟨w.heap.size + 1 + 1, 0, none⟩) 0 0] 63)) vp f al cl vc (.slice (some ⟨w.heap.size + 1 + 1, 0, none⟩) 0 0) 0) := by
    have b1 := below_alloc w (.cells #[vp, .int .i64 f.result, .slice al f.locals.length cl, vc] 67)
    have k1 := Blk.new w #[vp, .int .i64 f.result, .slice al f.locals.length cl, vc] 67
    generalize hU1 : w.alloc (.cells #[vp, .int .i64 f.result, .slice al f.locals.length cl, vc] 67) = U1 at b1 k1 ⊢
    have z1 : U1.heap.size = w.heap.size + 1 := by rw [← hU1]; simp
    have b2 := below_alloc U1 (.cells #[.int .i64 0, .int .i64 0, .int .i64 0, .slice none 0 0] 63)
    have k2 := Blk.new U1 #[.int .i64 0, .int .i64 0, .int .i64 0, .slice none 0 0] 63
    generalize hU2 : U1.alloc (.cells #[.int .i64 0, .int .i64 0, .int .i64 0, .slice none 0 0] 63) = U2 at b2 k2 ⊢
    have z2 : U2.heap.size = w.heap.size + 1 + 1 := by rw [← hU2]; simp [z1]
    have b3 := below_alloc U2 (.cells #[] 102)
    have k3 := Blk.new U2 #[] 102
    generalize hU3 : U2.alloc (.cells #[] 102) = U3 at b3 k3 ⊢
    have z3 : U3.heap.size = w.heap.size + 1 + 1 + 1 := by rw [← hU3]; simp [z2]
    have b4 := below_alloc U3 (.cells #[.int .i64 0, .int .i64 0, .int .i64 0, .slice (some ⟨w.heap.size + 1 + 1, 0, none⟩) 0 0] 63)
    have k4 := Blk.new U3 #[.int .i64 0, .int .i64 0, .int .i64 0, .slice (some ⟨w.heap.size + 1 + 1, 0, none⟩) 0 0] 63
    rw [z1] at k2
    rw [z2] at k3
    rw [z3] at k4
    refine ⟨((k1.keep b2).keep b3).keep b4, (k2.keep b3).keep b4, k4, ?_, below_on (below_on (below_on b1 (Nat.le_refl _) b2) (Nat.le_refl _) b3) (Nat.le_refl _) b4⟩
    exact ⟨by simp, .inr ⟨w.heap.size + 1 + 1, 0, #[], rfl, by omega, k3.keep b4, Nat.le_refl _, Nat.zero_le _, rfl, by simp [zerosL]⟩⟩
  go_enter Tryz.func24, Tryz.ntmps24
  go_wp2_with fail
  go_loopw [10] (fun i wr => ∃ (k : Nat) (V : Value), k ≤ f.locals.length ∧ i = .int .i64 k ∧ Hid (FrAt w wr vp f al cl vc V k)) (fun i _ => f.locals.length - (intOf i).toNat)
  case atStart => exact ⟨0, _, by omega, rfl, E0⟩
  case round =>
    clear E0
    obtain ⟨k, V, hk, rfl, HI⟩ := hrel
    have e2 : wr.cell? ⟨w.heap.size, 2, none⟩ = some (.slice al f.locals.length cl) := HI.out.fn.cell 2
    by_cases hlt : k < f.locals.length
    · obtain ⟨t, ht⟩ : ∃ t, f.locals[k]? = some t := ⟨_, List.getElem?_eq_getElem hlt⟩
      rcases H.out.1.2.1.2 with ⟨e0, _⟩ | ⟨g', o', c', e1, hc2⟩
      · omega
      simp only [Value.slice.injEq, true_and] at e1
      obtain ⟨rfl, rfl⟩ := e1
      have j0 := Rd.elem intCell_length hc2 k t ht 0 _ rfl
      rw [Nat.mul_one, Nat.add_zero] at j0
      rw [← HI.out.bel.cell (block_lt_of_cell j0)] at j0
      have hkL : (k : Int) < (f.locals.length : Int) := by omega
      have bE : Below wr.heap.size wr (wr.alloc (.cells #[.int .i64 t, .int .u32 0] 102)).drew := below_on (below_alloc _ _) (Nat.le_refl _) (below_drew1 _)
      have bD := below_drew1 wr
      have x0 := (HI.out.out.keep bD).cell 3
      have x1 := (HI.out.out.keep bE).cell 3
      have x2 : wr.drew.cell? ⟨g', o' + k, none⟩ = some (.int .i64 t) := by rw [bD.cell (block_lt_of_cell j0)]; exact j0
      have x3 : wr.drew.cell? ⟨w.heap.size, 2, none⟩ = some (.slice (some ⟨g', o', none⟩) f.locals.length cl) := (HI.out.fn.keep bD).cell 2
      simp only [List.getElem?_toArray, List.getElem?_cons_zero, List.getElem?_cons_succ] at x0 x1
      have HX : Hid (f.locals[k]? = some t) := ht
      have HC : Hid (((wr.alloc (.cells #[.int .i64 t, .int .u32 0] 102)).drew).ownsRow w.heap.size 102 2 V k (((zerosL f.locals).take k).flatMap MC.cells) ∧ (∀ j u, (MC.cells ⟨t, 0⟩)[j]? = some u → (wr.alloc (.cells #[.int .i64 t, .int .u32 0] 102)).drew.cell? ((⟨wr.heap.size, 0, none⟩ : Addr).add j) = some u) ∧ FrAt w (wr.alloc (.cells #[.int .i64 t, .int .u32 0] 102)).drew vp f (some ⟨g', o', none⟩) cl vc V k) := ⟨own_keep HI.out.row bE (Nat.le_refl _), fun j u hj => cells_new wr ⟨t, 0⟩ 102 j u hj, ⟨HI.out.fn.keep bE, HI.out.res.keep bE, HI.out.out.keep bE, own_keep HI.out.row bE (Nat.le_refl _), below_on HI.out.bel (Nat.le_refl _) bE⟩⟩
      clear hc2 ht bE bD
      go_wp2_with fail
      go_region_law (first
        | (refine step_append_lies _ rfl (.tmp 25) (.tmp 32) 34 rfl w.heap.size 102 i0 (.agg #[.int .i64 0, .int .u32 0]) 2 16 Tryz.underlying34 hi hz0 hz1 hz2 rfl (by decide) V k (((zerosL f.locals).take k).flatMap MC.cells) (by simp [Act.eval]) HC.out.1 ⟨wr.heap.size, 0, none⟩ 1 1 (MC.cells ⟨t, 0⟩) (by simp [Act.eval]) rfl HC.out.2.1 (cells_oneCell ⟨t, 0⟩) (by omega) (by unfold maxLen; omega) (by omega) HC.out.2.2.bel.size _ rfl ?_; intro gg cap u2 hown hgrow hat hlt2; have HN0 : Hid (u2.ownsRow w.heap.size 102 2 (.slice (some ⟨gg, 0, none⟩) (k + 1) cap) (k + 1) (((zerosL f.locals).take k).flatMap MC.cells ++ MC.cells ⟨t, 0⟩) ∧ FrKeep w u2 vp f (some ⟨g', o', none⟩) cl vc V) := ⟨hown, HC.out.2.2.grown hgrow⟩; have y0 := HN0.out.2.out.cell 3; have y1 := HN0.out.2.out.frozen 3; simp only [List.getElem?_toArray, List.getElem?_cons_zero, List.getElem?_cons_succ] at y0; clear hown hgrow hat hlt2))
      all_goals
        have HN : Hid (FrAt w (u2.setCell ⟨w.heap.size + 1 + 1 + 1, 3, none⟩ (.slice (some ⟨gg, 0, none⟩) (k + 1) cap)) vp f (some ⟨g', o', none⟩) cl vc (.slice (some ⟨gg, 0, none⟩) (k + 1) cap) (k + 1)) := by
          refine ⟨HN0.out.2.fn.other (by simp only []; omega) _, HN0.out.2.res.other (by simp only []; omega) _, HN0.out.2.out.set 3 _, ?_, HN0.out.2.bel.setCell (by simp only []; omega) _⟩
          have hzz : ((zerosL f.locals).take (k + 1)).flatMap MC.cells = ((zerosL f.locals).take k).flatMap MC.cells ++ MC.cells ⟨t, 0⟩ := by
            rw [take_snoc (zerosL f.locals) k ⟨t, 0⟩ (by simp [zerosL, HX.out]), List.flatMap_append]
            simp
          rw [hzz]
          exact ownsRow_setCell_other HN0.out.1 (a := ⟨w.heap.size + 1 + 1 + 1, 3, none⟩) (fun e => type_apart HN0.out.1 HN0.out.2.out (by decide) _ e rfl) _
        clear x0 x1 x2 x3 y0 y1 j0 e2
        go_wp2
        go_roundw
        case rel => exact ⟨k + 1, _, by omega, by go_num, HN⟩
        case measure => simp [intOf]; omega
    · have hkn : k = f.locals.length := by omega
      have hz : (zerosL f.locals).take k = zerosL f.locals := List.take_of_length_le (by rw [zerosL_length]; omega)
      have hrow := HI.out.row
      rw [hz, hkn] at hrow
      obtain ⟨a3, c3, rfl⟩ : ∃ a c, V = .slice a f.locals.length c := (Rd.of_own hrow).is_slice
      have r0 := HI.out.res.cell 0
      have r1 := HI.out.res.cell 1
      have r2 := HI.out.res.cell 2
      have r3 := HI.out.res.cell 3
      have o0 := HI.out.out.cell 0
      have o1 := HI.out.out.cell 1
      have o2 := HI.out.out.cell 2
      have o3 := HI.out.out.cell 3
      have p0 := HI.out.res.frozen 0
      have p1 := HI.out.res.frozen 1
      have p2 := HI.out.res.frozen 2
      have p3 := HI.out.res.frozen 3
      simp only [List.getElem?_toArray, List.getElem?_cons_zero, List.getElem?_cons_succ] at r0 r1 r2 r3 o0 o1 o2 o3
      have HR : Hid (wr.ownsRow w.heap.size 102 2 (.slice a3 f.locals.length c3) f.locals.length ((zerosL f.locals).flatMap MC.cells)) := hrow
      clear hrow hz
      go_wp2_with fail
      have R4 := (((HI.out.res.set 0 (.int .i64 0)).set 1 (.int .i64 0)).set 2 (.int .i64 0)).set 3 (.slice a3 f.locals.length c3)
      have q0 := R4.cell 0
      have q1 := R4.cell 1
      have q2 := R4.cell 2
      have q3 := R4.cell 3
      simp at q0 q1 q2 q3
      have ne : ∀ {u : World} {cur : Array Value}, u.ownsRow w.heap.size 102 2 (.slice a3 f.locals.length c3) f.locals.length ((zerosL f.locals).flatMap MC.cells) → Blk u (w.heap.size + 1) cur 63 → ∀ (i : Nat) (x : Value), (u.setCell ⟨w.heap.size + 1, i, none⟩ x).ownsRow w.heap.size 102 2 (.slice a3 f.locals.length c3) f.locals.length ((zerosL f.locals).flatMap MC.cells) := fun ho hb i x => ownsRow_setCell_other ho (a := ⟨w.heap.size + 1, i, none⟩) (fun e => type_apart ho hb (by decide) _ e rfl) x
      have o4 := ne (ne (ne (ne HR.out HI.out.res 0 (.int .i64 0)) (HI.out.res.set 0 (.int .i64 0)) 1 (.int .i64 0)) ((HI.out.res.set 0 (.int .i64 0)).set 1 (.int .i64 0)) 2 (.int .i64 0)) (((HI.out.res.set 0 (.int .i64 0)).set 1 (.int .i64 0)).set 2 (.int .i64 0)) 3 (.slice a3 f.locals.length c3)
      have b4 : Below w.heap.size w ((((wr.setCell ⟨w.heap.size + 1, 0, none⟩ (.int .i64 0)).setCell ⟨w.heap.size + 1, 1, none⟩ (.int .i64 0)).setCell ⟨w.heap.size + 1, 2, none⟩ (.int .i64 0)).setCell ⟨w.heap.size + 1, 3, none⟩ (.slice a3 f.locals.length c3)) := (((HI.out.bel.setCell (by simp) _).setCell (by simp) _).setCell (by simp) _).setCell (by simp) _
      exact bodyPost_ret (v := .agg #[.int .i64 0, .int .i64 0, .int .i64 0, .slice a3 f.locals.length c3]) (by simp [results, Tryz.results24, go_sem, q0, q1, q2, q3]) rfl ⟨a3, c3, rfl, o4, b4⟩
end Go.Proofs.YtkpajiahpmdobaaGreat
