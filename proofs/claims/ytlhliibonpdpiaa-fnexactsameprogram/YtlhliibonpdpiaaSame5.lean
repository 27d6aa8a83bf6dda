/- Same5: slices.EqualFunc over lists of lists and over functions. -/
import Derived.Test.YtlhliibonpdpiaaSame4
namespace Go.Proofs.Ytlhliibonpdpiaa
open Go.ChangeShapes Go.WideShapes Go.ChangeAt Go.RowKit
set_option linter.unusedVariables false
set_option maxHeartbeats 2000000 in
set_option maxRecDepth 100000 in
theorem slicesEqR_any (s s' : Value) (fs gs : List (List Int)) (w : World) (hL : fs.length ≤ 1048576) (hL' : gs.length ≤ 1048576) (hs : ∀ f ∈ fs, f.length ≤ 1048576) (hs' : ∀ f ∈ gs, f.length ≤ 1048576) (h : RdR w s fs) (h' : RdR w s' gs) :
    Calls Try.prog 19 #[s, s', .func (.func 20) #[] #[]] w fun e w' => SaysIff e (fs = gs) ∧ Below w.heap.size w w' := by
  obtain ⟨xs, hxs, hrd, hel⟩ := h
  obtain ⟨ys, hys, hrd', hel'⟩ := h'
  have hxl : xs.length = fs.length := by rw [← hxs]; simp
  have hyl : ys.length = gs.length := by rw [← hys]; simp
  have H1 : Hid (Rd w 1 s fs.length (xs.flatMap rCells) ∧ xs.map Prod.fst = fs ∧ (∀ x ∈ xs, Rd w 1 x.2 x.1.length (x.1.flatMap intCell)) ∧ (∀ f ∈ fs, f.length ≤ 1048576) ∧ xs.length = fs.length) := ⟨hrd, hxs, hel, hs, hxl⟩
  have H2 : Hid (Rd w 1 s' gs.length (ys.flatMap rCells) ∧ ys.map Prod.fst = gs ∧ (∀ x ∈ ys, Rd w 1 x.2 x.1.length (x.1.flatMap intCell)) ∧ (∀ f ∈ gs, f.length ≤ 1048576) ∧ ys.length = gs.length) := ⟨hrd', hys, hel', hs', hyl⟩
  obtain ⟨a1, c1, rfl⟩ := hrd.is_slice
  obtain ⟨a2, c2, rfl⟩ := hrd'.is_slice
  clear hrd hxs hel hs hxl hrd' hys hel' hs' hyl
  by_cases hll : fs.length = gs.length
  · rw [← hll] at H2
    rw [← hll]
    clear hL'
    generalize hLL : fs.length = n at hL H1 H2
    have HL : Hid (fs.length = n ∧ gs.length = n) := ⟨hLL, hll ▸ hLL⟩
    clear hLL hll
    go_enter Try.func19, Try.ntmps19
    go_wp2
    go_loopw [17] (fun i wr => ∃ k : Nat, k ≤ n ∧ i = .int .i64 k ∧ Hid (∀ j, j < k → fs[j]? = gs[j]?) ∧ Hid (Below w.heap.size w wr)) (fun i _ => n - (intOf i).toNat)
    case atStart => exact ⟨0, by omega, rfl, fun j hj => by omega, Below.refl _ _⟩
    case round =>
      obtain ⟨k, hk, rfl, HT, HB⟩ := hrel
      by_cases hlt : k < n
      · obtain ⟨⟨f, v⟩, hx⟩ : ∃ x, xs[k]? = some x := ⟨_, List.getElem?_eq_getElem (by rw [H1.out.2.2.2.2]; exact hlt)⟩
        obtain ⟨⟨g, v'⟩, hy⟩ : ∃ x, ys[k]? = some x := ⟨_, List.getElem?_eq_getElem (by rw [H2.out.2.2.2.2]; exact hlt)⟩
        have e1 := fst_at H1.out.2.1 hx
        have e2 := fst_at H2.out.2.1 hy
        have HX : Hid (Rd wr 1 v f.length (f.flatMap intCell) ∧ Rd wr 1 v' g.length (g.flatMap intCell) ∧ f.length ≤ 1048576 ∧ g.length ≤ 1048576 ∧ fs[k]? = some f ∧ gs[k]? = some g) := ⟨(H1.out.2.2.1 _ (List.mem_of_getElem? hx)).keep HB.out (Nat.le_refl _), (H2.out.2.2.1 _ (List.mem_of_getElem? hy)).keep HB.out (Nat.le_refl _), H1.out.2.2.2.1 _ (List.mem_of_getElem? e1), H2.out.2.2.2.1 _ (List.mem_of_getElem? e2), e1, e2⟩
        clear e1 e2
        rcases H1.out.1.2 with ⟨e0, _⟩ | ⟨b, o, c, e1, hc1⟩
        · omega
        · rcases H2.out.1.2 with ⟨e0, _⟩ | ⟨b', o', c', e2, hc2⟩
          · omega
          · simp only [Value.slice.injEq, true_and] at e1 e2
            obtain ⟨rfl, rfl⟩ := e1
            obtain ⟨rfl, rfl⟩ := e2
            have i0 := Rd.elem rCells_length hc1 k _ hx 0 _ rfl
            have j0 := Rd.elem rCells_length hc2 k _ hy 0 _ rfl
            rw [← HB.out.cell (block_lt_of_cell i0)] at i0
            rw [← HB.out.cell (block_lt_of_cell j0)] at j0
            rw [Nat.mul_one, Nat.add_zero] at i0 j0
            clear hc1 hc2 hx hy
            simp only [] at i0 j0
            go_wp2_with fail
            refine (slicesEq64_any v v' f g _ HX.out.2.2.1 HX.out.2.2.2.1 (by exact HX.out.1) (by exact HX.out.2.1)).mono ?_
            rintro e u ⟨⟨b0, rfl, hb0⟩, hbu⟩
            have HB2 : Hid (Below w.heap.size w u) := HB.out.trans (by obtain ⟨m, rfl⟩ := hbu; exact below_drewN _ _ _)
            clear hbu HB i0 j0
            cases b0
            · have HN : Hid (¬ fs = gs) := same_ne HX.out.2.2.2.2.1 HX.out.2.2.2.2.2 fun e => by simp [e] at hb0
              clear hb0
              go_wp2
              go_ret
              exact ⟨.no HN.out, HB2.out⟩
            · obtain rfl := hb0.1 rfl
              clear hb0
              go_wp2
              go_roundw
              case rel => exact ⟨k + 1, by omega, by go_num, same_next HX.out.2.2.2.2.1 HX.out.2.2.2.2.2 HT.out, HB2⟩
              case measure => simp [intOf]; omega
      · have hkn : k = n := by omega
        subst hkn
        go_wp2
        go_ret
        exact ⟨.yes (same_all HL.out.1 HL.out.2 HT.out), HB.out⟩
  · have HN : Hid (¬ fs = gs) := fun e => hll (by rw [e])
    clear H1 H2
    generalize fs.length = n at *
    generalize gs.length = n' at *
    have hi : ¬ (n : Int) = (n' : Int) := by omega
    go_enter Try.func19, Try.ntmps19
    go_wp2
    go_ret
    exact ⟨.no HN.out, Below.refl _ _⟩
set_option maxHeartbeats 2000000 in
set_option maxRecDepth 100000 in
theorem slicesEqF_any (s s' : Value) (fs gs : List MF) (w : World) (hL : fs.length ≤ 1048576) (hL' : gs.length ≤ 1048576) (hs : ∀ f ∈ fs, f.small) (hs' : ∀ f ∈ gs, f.small) (h : RdFs w s fs) (h' : RdFs w s' gs) :
    Calls Try.prog 22 #[s, s', .func (.func 23) #[] #[]] w fun e w' => SaysIff e (fs = gs) ∧ Below w.heap.size w w' := by
  obtain ⟨xs, hxs, hrd, hel⟩ := h
  obtain ⟨ys, hys, hrd', hel'⟩ := h'
  have hxl : xs.length = fs.length := by rw [← hxs]; simp
  have hyl : ys.length = gs.length := by rw [← hys]; simp
  have H1 : Hid (Rd w 4 s fs.length (xs.flatMap fCells) ∧ xs.map Prod.fst = fs ∧ (∀ x ∈ xs, RdF w x.2 x.1) ∧ (∀ f ∈ fs, f.small) ∧ xs.length = fs.length) := ⟨hrd, hxs, hel, hs, hxl⟩
  have H2 : Hid (Rd w 4 s' gs.length (ys.flatMap fCells) ∧ ys.map Prod.fst = gs ∧ (∀ x ∈ ys, RdF w x.2 x.1) ∧ (∀ f ∈ gs, f.small) ∧ ys.length = gs.length) := ⟨hrd', hys, hel', hs', hyl⟩
  obtain ⟨a1, c1, rfl⟩ := hrd.is_slice
  obtain ⟨a2, c2, rfl⟩ := hrd'.is_slice
  clear hrd hxs hel hs hxl hrd' hys hel' hs' hyl
  by_cases hll : fs.length = gs.length
  · rw [← hll] at H2
    rw [← hll]
    clear hL'
    generalize hLL : fs.length = n at hL H1 H2
    have HL : Hid (fs.length = n ∧ gs.length = n) := ⟨hLL, hll ▸ hLL⟩
    clear hLL hll
    go_enter Try.func22, Try.ntmps22
    go_wp2
    go_loopw [17] (fun i wr => ∃ k : Nat, k ≤ n ∧ i = .int .i64 k ∧ Hid (∀ j, j < k → fs[j]? = gs[j]?) ∧ Hid (Below w.heap.size w wr)) (fun i _ => n - (intOf i).toNat)
    case atStart => exact ⟨0, by omega, rfl, fun j hj => by omega, Below.refl _ _⟩
    case round =>
      obtain ⟨k, hk, rfl, HT, HB⟩ := hrel
      by_cases hlt : k < n
      · obtain ⟨⟨f, v⟩, hx⟩ : ∃ x, xs[k]? = some x := ⟨_, List.getElem?_eq_getElem (by rw [H1.out.2.2.2.2]; exact hlt)⟩
        obtain ⟨⟨g, v'⟩, hy⟩ : ∃ x, ys[k]? = some x := ⟨_, List.getElem?_eq_getElem (by rw [H2.out.2.2.2.2]; exact hlt)⟩
        have e1 := fst_at H1.out.2.1 hx
        have e2 := fst_at H2.out.2.1 hy
        have HX : Hid (RdF wr v f ∧ RdF wr v' g ∧ f.small ∧ g.small ∧ fs[k]? = some f ∧ gs[k]? = some g) := ⟨(H1.out.2.2.1 _ (List.mem_of_getElem? hx)).keep HB.out (Nat.le_refl _), (H2.out.2.2.1 _ (List.mem_of_getElem? hy)).keep HB.out (Nat.le_refl _), H1.out.2.2.2.1 _ (List.mem_of_getElem? e1), H2.out.2.2.2.1 _ (List.mem_of_getElem? e2), e1, e2⟩
        clear e1 e2
        rcases H1.out.1.2 with ⟨e0, _⟩ | ⟨b, o, c, e1, hc1⟩
        · omega
        · rcases H2.out.1.2 with ⟨e0, _⟩ | ⟨b', o', c', e2, hc2⟩
          · omega
          · simp only [Value.slice.injEq, true_and] at e1 e2
            obtain ⟨rfl, rfl⟩ := e1
            obtain ⟨rfl, rfl⟩ := e2
            have i0 := Rd.elem fCells_length hc1 k _ hx 0 _ rfl
            have i1 := Rd.elem fCells_length hc1 k _ hx 1 _ rfl
            have i2 := Rd.elem fCells_length hc1 k _ hx 2 _ rfl
            have i3 := Rd.elem fCells_length hc1 k _ hx 3 _ rfl
            have j0 := Rd.elem fCells_length hc2 k _ hy 0 _ rfl
            have j1 := Rd.elem fCells_length hc2 k _ hy 1 _ rfl
            have j2 := Rd.elem fCells_length hc2 k _ hy 2 _ rfl
            have j3 := Rd.elem fCells_length hc2 k _ hy 3 _ rfl
            rw [← HB.out.cell (block_lt_of_cell i0), Nat.add_zero] at i0
            rw [← HB.out.cell (block_lt_of_cell i1)] at i1
            rw [← HB.out.cell (block_lt_of_cell i2)] at i2
            rw [← HB.out.cell (block_lt_of_cell i3)] at i3
            rw [← HB.out.cell (block_lt_of_cell j0), Nat.add_zero] at j0
            rw [← HB.out.cell (block_lt_of_cell j1)] at j1
            rw [← HB.out.cell (block_lt_of_cell j2)] at j2
            rw [← HB.out.cell (block_lt_of_cell j3)] at j3
            clear hc1 hc2 hx hy
            simp only [] at i0 i1 i2 i3 j0 j1 j2 j3
            obtain ⟨ap, cp, ep⟩ := HX.out.1.1.is_slice
            obtain ⟨al, cl, el⟩ := HX.out.1.2.1.is_slice
            obtain ⟨ac, cc, ec⟩ := HX.out.1.2.2.is_slice
            obtain ⟨ap', cp', ep'⟩ := HX.out.2.1.1.is_slice
            obtain ⟨al', cl', el'⟩ := HX.out.2.1.2.1.is_slice
            obtain ⟨ac', cc', ec'⟩ := HX.out.2.1.2.2.is_slice
            obtain ⟨vp, vl, vc⟩ := v
            obtain ⟨vp', vl', vc'⟩ := v'
            simp only [] at ep el ec ep' el' ec' i0 i1 i2 i3 j0 j1 j2 j3
            subst ep el ec ep' el' ec'
            have nb : ¬ b = wr.heap.size := Nat.ne_of_lt (block_lt_of_cell i0)
            have nb' : ¬ b' = wr.heap.size := Nat.ne_of_lt (block_lt_of_cell j0)
            have mb : b < wr.heap.size := block_lt_of_cell i0
            have mb' : b' < wr.heap.size := block_lt_of_cell j0
            go_wp2_with fail
            have A1 := fun W (hW : Below wr.heap.size wr W) => sameFunc_any ⟨.slice ap f.params.length cp, .slice al f.locals.length cl, .slice ac f.code.length cc⟩ ⟨.slice ap' g.params.length cp', .slice al' g.locals.length cl', .slice ac' g.code.length cc'⟩ f g W HX.out.2.2.1 HX.out.2.2.2.1 (HX.out.1.keep hW (Nat.le_refl _)) (HX.out.2.1.keep hW (Nat.le_refl _))
            refine (A1 _ (((Below.refl _ _).alloc (Nat.le_refl _) _).alloc (by simp) _)).mono ?_
            rintro e u ⟨⟨b0, rfl, hb0⟩, hbu⟩
            have HB2 : Hid (Below w.heap.size w u) := HB.out.trans (((((Below.refl _ _).alloc (Nat.le_refl _) _).alloc (by simp) _).trans (hbu.mono (by simp <;> omega))).mono HB.out.size)
            clear A1 nb nb' mb mb'
            clear hbu HB i0 i1 i2 i3 j0 j1 j2 j3
            cases b0
            · have HN : Hid (¬ fs = gs) := same_ne HX.out.2.2.2.2.1 HX.out.2.2.2.2.2 fun e => by simp [e] at hb0
              clear hb0
              go_wp2
              go_ret
              exact ⟨.no HN.out, HB2.out⟩
            · obtain rfl := hb0.1 rfl
              clear hb0
              go_wp2
              go_roundw
              case rel => exact ⟨k + 1, by omega, by go_num, same_next HX.out.2.2.2.2.1 HX.out.2.2.2.2.2 HT.out, HB2⟩
              case measure => simp [intOf]; omega
      · have hkn : k = n := by omega
        subst hkn
        go_wp2
        go_ret
        exact ⟨.yes (same_all HL.out.1 HL.out.2 HT.out), HB.out⟩
  · have HN : Hid (¬ fs = gs) := fun e => hll (by rw [e])
    clear H1 H2
    generalize fs.length = n at *
    generalize gs.length = n' at *
    have hi : ¬ (n : Int) = (n' : Int) := by omega
    go_enter Try.func22, Try.ntmps22
    go_wp2
    go_ret
    exact ⟨.no HN.out, Below.refl _ _⟩
end Go.Proofs.Ytlhliibonpdpiaa
