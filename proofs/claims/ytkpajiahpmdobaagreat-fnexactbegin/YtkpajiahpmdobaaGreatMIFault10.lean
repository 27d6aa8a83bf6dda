/- IFault9, IFault10 -/
import Derived.Test.YtkpajiahpmdobaaGreatRises
import Derived.Lib.AppendZerosOnto
import Derived.Lib.AppendZeros
import Derived.Laws.Append
/- IFault9: slices.Grow. -/
namespace Go.Proofs.YtkpajiahpmdobaaGreat
open Go.ChangeShapes Go.WideShapes Go.ChangeAt Go.RowKit
set_option linter.unusedVariables false
theorem own_empty (w : World) (cur : Array Value) (e : TypeId) (G : Nat) (h : cur.size = G) (hG : G ≤ maxLen) : (w.alloc (.cells cur e)).drew.ownsRow w.heap.size e 1 (.slice (some ⟨w.heap.size, 0, none⟩) 0 G) 0 [] :=
  ⟨rfl, .inr ⟨w.heap.size, G, cur, rfl, Nat.le_refl _, Array.getElem?_push_size, Nat.zero_le _, hG, by omega, by simp⟩⟩
set_option maxHeartbeats 1000000 in
set_option maxRecDepth 100000 in
theorem grow_nil (n : Nat) (w : World) (hn : n ≤ 4194304) :
    Calls Tryz.prog 89 #[.slice none 0 0, .int .i64 n] w fun e w' => ∃ v, e = .returned v ∧ w'.ownsRow w.heap.size 2 1 v 0 [] ∧ Below w.heap.size w w' := by
  obtain ⟨i0, hi, hz0, hz1, hz2⟩ := info_parts info64
  by_cases q0 : n = 0
  · subst q0
    go_enter Tryz.func89, Tryz.ntmps89
    go_wp2
    go_ret
    exact ⟨_, rfl, World.ownsRow_nil _ _ _ _, Below.refl _ _⟩
  · have q1 : (0 : Int) < (n : Int) := by omega
    have hold : (Builtin.firstCells i0.size 0 (.slice none 0 0)).run Tryz.prog w.drew = .ok (([] : List Value).toArray) w.drew := run_firstCells_none w.drew i0.size 0 0 0
    have hrz : ∀ ty, (Builtin.append_ #[61, 3] ty #[.slice none 0 0, .int .i64 n]).run Tryz.prog w = .ok (.slice (some ⟨w.heap.size, 0, none⟩) (0 + n) (grownCap w (0 + n) 0 2)) (w.drew.alloc (.cells (([] : List Value).toArray ++ Builtin.zeroCells (Value.int .i64 0).cells n ++ Builtin.zeroCells (Value.int .i64 0).cells (grownCap w (0 + n) 0 2 - (0 + n))) 2)) := fun ty =>
      Lib.run_append_grow_zeros w 61 3 ty 2 i0 (.int .i64 0) .i64 .i64 Tryz.underlying61 Tryz.underlying3 hi hz0 none 0 0 [] hold n (by omega) (by rw [hz1]; omega) (by omega) (by omega) (by rw [hz2]; omega) (growslice_fits (by omega) (by rw [hz2]; omega))
    have hG1 := grownCap_ge w (0 + n) 0 2
    have hG2 := grownCap_le_maxLen w (0 + n) 0 2 (by unfold maxLen; omega)
    generalize grownCap w (0 + n) 0 2 = G at hrz hG1 hG2
    have HG : Hid (G ≤ maxLen) := hG2
    unfold maxLen at hG2
    go_enter Tryz.func89, Tryz.ntmps89
    go_wp2_with (at_builtin; refine Lib.wpList_append_run _ rfl _ _ _ _ rfl _ _ rfl rfl _ _ (hrz _) ?_)
    all_goals
      go_ret
      exact ⟨_, rfl, own_empty w _ _ G (by simp [Builtin.zeroCells]; omega) HG.out, below_on (below_alloc _ _) (Nat.le_refl _) (below_drew1 _)⟩
end Go.Proofs.YtkpajiahpmdobaaGreat
/- IFault10: slices.Concat, impl.localsOf. -/
namespace Go.Proofs.YtkpajiahpmdobaaGreat
open Go.ChangeShapes Go.WideShapes Go.ChangeAt Go.RowKit
set_option linter.unusedVariables false
theorem Rd.placed {w : World} {ad : Addr} {n c : Nat} {xs : List Int} (h : Rd w 1 (.slice (some ad) n c) n (xs.flatMap intCell)) : ∀ j u, (xs.flatMap intCell)[j]? = some u → w.cell? (ad.add j) = some u := by
  intro j u hj
  rcases h.2 with ⟨rfl, _⟩ | ⟨g, o, c', e, hc⟩
  · have := (List.getElem?_eq_some_iff.1 hj).1
    rw [h.1] at this
    omega
  · simp only [Value.slice.injEq, Option.some.injEq, true_and] at e
    obtain ⟨rfl, rfl⟩ := e
    rw [Addr.add_lit]
    exact hc j u hj
theorem at2_new (w : World) (x y : Value) (ty : TypeId) : (w.alloc (.cells #[x, y] ty)).cell? ⟨w.heap.size, 0, none⟩ = some x ∧ (w.alloc (.cells #[x, y] ty)).cell? ⟨w.heap.size, 1, none⟩ = some y := by
  have h := World.ownsRow_lit (base := w.heap.size) (e := ty) (size := 2) w #[x, y] 1 (Nat.le_refl _) (by unfold maxLen; omega) (by simp)
  exact ⟨h.cellAt 0 (by omega), h.cellAt 1 (by omega)⟩
theorem ints_oneCell (xs : List Int) : ∀ u ∈ xs.flatMap intCell, u.oneCell' = true := by
  intro u hu
  obtain ⟨x, _, hx⟩ := List.mem_flatMap.1 hu
  simp [intCell] at hx
  subst hx
  rfl
theorem own_none {w : World} {base : Nat} {e : TypeId} {v : Value} {xs : List Int} {n : Nat} (h : w.ownsRow base e 1 v n (xs.flatMap intCell)) (ys : List Int) (hy : ys.length = 0) : w.ownsRow base e 1 v (n + ys.length) ((xs ++ ys).flatMap intCell) := by
  obtain rfl := List.eq_nil_of_length_eq_zero hy
  simpa using h
theorem below_row {B : Nat} {w u u' : World} {e : TypeId} {v : Value} {n : Nat} {xs : List Value} (h : Below B w u) (ho : u.ownsRow w.heap.size e 1 v n xs) (hB : B ≤ w.heap.size) (hg : u.grownBy u' v.ownBlock) : Below B w u' :=
  h.grown hg (Nat.le_trans hB h.size) (fun k hk => Nat.le_trans hB (ho.lt k hk).1)
set_option maxHeartbeats 2000000 in
set_option maxRecDepth 100000 in
theorem concat2_any (g : Nat) (s1 s2 : Value) (xs ys : List Int) (w : World) (hx : xs.length ≤ 1048576) (hy : ys.length ≤ 1048576) (h1 : Rd w 1 s1 xs.length (xs.flatMap intCell)) (h2 : Rd w 1 s2 ys.length (ys.flatMap intCell)) (k1 : Placed s1) (k2 : Placed s2)
    (g0 : w.cell? ⟨g, 0, none⟩ = some s1) (g1 : w.cell? ⟨g, 1, none⟩ = some s2) :
    Calls Tryz.prog 66 #[.slice (some ⟨g, 0, none⟩) 2 2] w fun e w' => ∃ v, e = .returned v ∧ w'.ownsRow w.heap.size 2 1 v (xs.length + ys.length) ((xs ++ ys).flatMap intCell) ∧ Below w.heap.size w w' := by
  have H : Hid (xs.length ≤ 1048576 ∧ ys.length ≤ 1048576 ∧ Rd w 1 s1 xs.length (xs.flatMap intCell) ∧ Rd w 1 s2 ys.length (ys.flatMap intCell) ∧ Placed s1 ∧ Placed s2) := ⟨hx, hy, h1, h2, k1, k2⟩
  obtain ⟨a1, c1, rfl⟩ := h1.is_slice
  obtain ⟨a2, c2, rfl⟩ := h2.is_slice
  clear h1 h2 k1 k2
  obtain ⟨i0, hi, hz0, hz1, hz2⟩ := info_parts info64
  have HG : Hid (w.cell? ⟨g, 0, none⟩ = some (.slice a1 xs.length c1) ∧ w.cell? ⟨g, 1, none⟩ = some (.slice a2 ys.length c2)) := ⟨g0, g1⟩
  go_enter Tryz.func66, Tryz.ntmps66
  go_wp2
  go_loopw [3, 11] (fun s c wr => ((c = .int .i64 0 ∧ s = .int .i64 0) ∨ (c = .int .i64 1 ∧ s = .int .i64 (xs.length : Int)) ∨ (c = .int .i64 2 ∧ s = .int .i64 ((xs.length + ys.length : Nat) : Int))) ∧ wr = w) (fun _ c _ => 2 - (intOf c).toNat)
  case atStart => exact ⟨.inl ⟨rfl, rfl⟩, rfl⟩
  case round =>
    obtain ⟨hc, rfl⟩ := hrel
    rcases hc with ⟨rfl, rfl⟩ | ⟨rfl, rfl⟩ | ⟨rfl, rfl⟩
    · go_wp2
      go_roundw
      case rel => exact ⟨.inr (.inl ⟨rfl, by simp⟩), by trivial⟩
      case measure => simp [intOf]
    · go_wp2
      go_roundw
      case rel => exact ⟨.inr (.inr ⟨rfl, by simp⟩), by trivial⟩
      case measure => simp [intOf]
    · go_wp2_with fail
      refine (grow_nil (xs.length + ys.length) _ (by omega)).mono ?_
      rintro e u1 ⟨v0, rfl, own0, bl0⟩
      have HO : Hid (u1.ownsRow wr.heap.size 2 1 v0 0 [] ∧ Below wr.heap.size wr u1) := ⟨own0, bl0⟩
      clear own0 bl0 g0 g1
      obtain ⟨W, hWe⟩ : ∃ W, W = wr := ⟨_, rfl⟩
      subst hWe
      go_wp2
      go_loopw [6, 27] (fun v c wr => ((c = .int .i64 0 ∧ Hid (wr.ownsRow W.heap.size 2 1 v 0 ([] : List Value))) ∨ (c = .int .i64 1 ∧ Hid (wr.ownsRow W.heap.size 2 1 v (0 + xs.length) (([] ++ xs).flatMap intCell))) ∨ (c = .int .i64 2 ∧ Hid (wr.ownsRow W.heap.size 2 1 v (xs.length + ys.length) ((xs ++ ys).flatMap intCell)))) ∧ Hid (Below W.heap.size W wr)) (fun _ c _ => 2 - (intOf c).toNat)
      case atStart => exact ⟨.inl ⟨rfl, HO.out.1⟩, HO.out.2⟩
      case round =>
        clear HO
        obtain ⟨hc, HB⟩ := hrel
        have g0 := HG.out.1
        have g1 := HG.out.2
        rw [← HB.out.cell (block_lt_of_cell g0)] at g0
        rw [← HB.out.cell (block_lt_of_cell g1)] at g1
        rcases hc with ⟨rfl, HO⟩ | ⟨rfl, HO⟩ | ⟨rfl, HO⟩
        · rcases H.out.2.2.2.2.1 with e | ⟨ad, n', c', e⟩
          · simp only [Value.slice.injEq] at e
            obtain ⟨rfl, e2, rfl⟩ := e
            have hN : Hid (xs.length = 0) := e2
            rw [e2] at g0
            have hr : ∀ ty, (Builtin.append_ #[61, 61] ty #[u6, .slice none 0 0]).run Tryz.prog wr = .ok u6 wr := fun ty => run_append_owned_none (P := Tryz.prog) wr W.heap.size 61 ty 2 i0 1 Tryz.underlying61 hi u6 _ _ HO.out
            clear e2
            go_wp2_with (at_builtin; refine Lib.wpList_append_run _ rfl _ _ _ _ rfl _ _ rfl rfl _ _ (hr _) ?_)
            go_roundw
            case rel => exact ⟨.inr (.inl ⟨rfl, own_none (xs := []) HO.out xs hN.out⟩), HB⟩
            case measure => simp [intOf]
          · simp only [Value.slice.injEq] at e
            obtain ⟨rfl, e2, rfl⟩ := e
            have HR : Hid (Rd wr 1 (.slice (some ad) xs.length c1) xs.length (xs.flatMap intCell)) := H.out.2.2.1.keep HB.out (Nat.le_refl _)
            clear e2
            go_wp2_with (at_builtin; refine wpList_append_own _ rfl _ _ 61 rfl W.heap.size 2 i0 (.int .i64 0) 1 8 Tryz.underlying61 hi hz0 hz1 hz2 rfl (by decide) _ _ _ rfl HO.out ad xs.length c1 (xs.flatMap intCell) rfl ?c1 ?c2 ?c3 ?c4 ?c5 ?c6 ?_)
            case c1 => rw [flat_length intCell 1 intCell_length]
            case c2 => exact HR.out.placed
            case c3 => exact ints_oneCell _
            case c4 => unfold maxLen; omega
            case c5 => omega
            case c6 => exact HB.out.size
            intro v' w' hown' hgrow' hnil'
            have HO2 : Hid (w'.ownsRow W.heap.size 2 1 v' (0 + xs.length) (([] ++ xs).flatMap intCell)) := by show World.ownsRow _ _ _ _ _ _ _; simpa using hown'
            have HB2 : Hid (Below W.heap.size W w') := below_row HB.out HO.out (Nat.le_refl _) hgrow'
            clear hown' hgrow' hnil'
            go_wp2
            go_roundw
            case rel => exact ⟨.inr (.inl ⟨rfl, HO2⟩), HB2⟩
            case measure => simp [intOf]
        · rcases H.out.2.2.2.2.2 with e | ⟨ad, n', c', e⟩
          · simp only [Value.slice.injEq] at e
            obtain ⟨rfl, e2, rfl⟩ := e
            have hN : Hid (ys.length = 0) := e2
            rw [e2] at g1
            have hr : ∀ ty, (Builtin.append_ #[61, 61] ty #[u6, .slice none 0 0]).run Tryz.prog wr = .ok u6 wr := fun ty => run_append_owned_none (P := Tryz.prog) wr W.heap.size 61 ty 2 i0 1 Tryz.underlying61 hi u6 _ _ HO.out
            clear e2
            go_wp2_with (at_builtin; refine Lib.wpList_append_run _ rfl _ _ _ _ rfl _ _ rfl rfl _ _ (hr _) ?_)
            go_roundw
            case rel => exact ⟨.inr (.inr ⟨rfl, by have := own_none (xs := [] ++ xs) HO.out ys hN.out; simpa [Hid] using this⟩), HB⟩
            case measure => simp [intOf]
          · simp only [Value.slice.injEq] at e
            obtain ⟨rfl, e2, rfl⟩ := e
            have HR : Hid (Rd wr 1 (.slice (some ad) ys.length c2) ys.length (ys.flatMap intCell)) := H.out.2.2.2.1.keep HB.out (Nat.le_refl _)
            clear e2
            go_wp2_with (at_builtin; refine wpList_append_own _ rfl _ _ 61 rfl W.heap.size 2 i0 (.int .i64 0) 1 8 Tryz.underlying61 hi hz0 hz1 hz2 rfl (by decide) _ _ _ rfl HO.out ad ys.length c2 (ys.flatMap intCell) rfl ?c1 ?c2 ?c3 ?c4 ?c5 ?c6 ?_)
            case c1 => rw [flat_length intCell 1 intCell_length]
            case c2 => exact HR.out.placed
            case c3 => exact ints_oneCell _
            case c4 => unfold maxLen; omega
            case c5 => omega
            case c6 => exact HB.out.size
            intro v' w' hown' hgrow' hnil'
            have HO2 : Hid (w'.ownsRow W.heap.size 2 1 v' (xs.length + ys.length) ((xs ++ ys).flatMap intCell)) := by show World.ownsRow _ _ _ _ _ _ _; simpa using hown'
            have HB2 : Hid (Below W.heap.size W w') := below_row HB.out HO.out (Nat.le_refl _) hgrow'
            clear hown' hgrow' hnil'
            go_wp2
            go_roundw
            case rel => exact ⟨.inr (.inr ⟨rfl, HO2⟩), HB2⟩
            case measure => simp [intOf]
        · go_wp2
          go_ret
          exact ⟨_, rfl, HO.out, HB.out⟩
set_option maxHeartbeats 2000000 in
set_option maxRecDepth 100000 in
theorem localsOf_any (v : VF) (f : MF) (w : World) (hs : f.small) (h : RdF w v f) (k1 : Placed v.p) (k2 : Placed v.l) :
    Calls Tryz.prog 32 #[.agg #[v.p, .int .i64 f.result, v.l, v.c]] w fun e w' => ∃ r, e = .returned r ∧ w'.ownsRow w.heap.size 2 1 r (f.params.length + f.locals.length) ((f.params ++ f.locals).flatMap intCell) ∧ Below w.heap.size w w' := by
  have H : Hid (f.small ∧ RdF w v f ∧ Placed v.p ∧ Placed v.l) := ⟨hs, h, k1, k2⟩
  obtain ⟨a1, c1, e1⟩ := h.1.is_slice
  obtain ⟨a2, c2, e2⟩ := h.2.1.is_slice
  obtain ⟨vp, vl, vc⟩ := v
  simp only [] at e1 e2
  subst e1 e2
  clear hs h k1 k2
  go_enter Tryz.func32, Tryz.ntmps32
  go_wp2_with fail
  have B0 : Below w.heap.size w ((w.alloc (.cells #[.slice a1 f.params.length c1, .int .i64 f.result, .slice a2 f.locals.length c2, vc] 67)).alloc (.cells #[.slice a1 f.params.length c1, .slice a2 f.locals.length c2] 61)) := below_on (below_alloc _ _) (Nat.le_refl _) (below_alloc _ _)
  have C0 := at2_new (w.alloc (.cells #[.slice a1 f.params.length c1, .int .i64 f.result, .slice a2 f.locals.length c2, vc] 67)) (.slice a1 f.params.length c1) (.slice a2 f.locals.length c2) 61
  have hsz : (w.alloc (.cells #[.slice a1 f.params.length c1, .int .i64 f.result, .slice a2 f.locals.length c2, vc] 67)).heap.size = w.heap.size + 1 := by simp
  rw [hsz] at C0
  refine (concat2_any (w.heap.size + 1) (.slice a1 f.params.length c1) (.slice a2 f.locals.length c2) f.params f.locals _ H.out.1.1 H.out.1.2.1 (H.out.2.1.1.keep B0 (Nat.le_refl _)) (H.out.2.1.2.1.keep B0 (Nat.le_refl _)) H.out.2.2.1 H.out.2.2.2 C0.1 C0.2).mono ?_
  rintro e u ⟨r, rfl, own, bl⟩
  have HO : Hid (u.ownsRow w.heap.size 2 1 r (f.params.length + f.locals.length) ((f.params ++ f.locals).flatMap intCell) ∧ Below w.heap.size w u) := ⟨own_base own B0.size, below_on B0 (Nat.le_refl _) bl⟩
  clear own bl B0 C0 hsz
  go_wp2
  go_ret
  exact ⟨_, rfl, HO.out.1, HO.out.2⟩
end Go.Proofs.YtkpajiahpmdobaaGreat
