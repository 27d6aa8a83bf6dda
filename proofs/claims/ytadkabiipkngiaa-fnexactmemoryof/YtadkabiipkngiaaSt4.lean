/- St4: frames: eqFrame, eqFrameS, szFrame, szFrameS. -/
import Derived.Test.YtadkabiipkngiaaSt3
namespace Go.Proofs.Ytadkabiipkngiaa
open Go.ChangeShapes Go.WideShapes Go.ChangeAt Go.RowKit
set_option linter.unusedVariables false
set_option maxHeartbeats 2000000 in
set_option maxRecDepth 100000 in
theorem eqFrame_same (v v' : Value) (f : MG) (w : World) (hs : f.small) (h : RdG w v f) (h' : RdG w v' f) :
    Calls Try.prog 61 #[.agg #[.int .i64 f.func, .int .i64 f.at_, .int .i64 f.base, v], .agg #[.int .i64 f.func, .int .i64 f.at_, .int .i64 f.base, v']] w fun e w' => e = .returned (.bool true) ∧ Below w.heap.size w w' := by
  have F0 := Fr2.of w 108 #[.int .i64 f.func, .int .i64 f.at_, .int .i64 f.base, v] #[.int .i64 f.func, .int .i64 f.at_, .int .i64 f.base, v'] rfl rfl
  have H : Hid (RdG w v f ∧ RdG w v' f ∧ f.small) := ⟨h, h', hs⟩
  clear h h' hs
  go_enter Try.func61, Try.ntmps61
  go_wp2_with fail
  refine (eqValueS_same v v' f.locals _ H.out.2.2 (H.out.1.keep F0.bel (Nat.le_refl _)) (H.out.2.1.keep F0.bel (Nat.le_refl _))).mono ?_
  rintro e u1 ⟨rfl, b1⟩
  have F1 := F0.keep b1
  clear b1 F0
  go_wp2
  go_ret
  exact ⟨rfl, F1.bel⟩
set_option maxHeartbeats 2000000 in
set_option maxRecDepth 100000 in
theorem eqFrameS_same (s s' : Value) (fs : List MG) (w : World) (hL : fs.length ≤ 1048576) (hs : ∀ f ∈ fs, f.small) (h : RdGs w s fs) (h' : RdGs w s' fs) :
    Calls Try.prog 32 #[s, s'] w fun e w' => e = .returned (.bool true) ∧ Below w.heap.size w w' := by
  obtain ⟨xs, hxs, hrd, hel⟩ := h
  obtain ⟨xs', hxs', hrd', hel'⟩ := h'
  have hxl : xs.length = fs.length := by rw [← hxs]; simp
  have hxl' : xs'.length = fs.length := by rw [← hxs']; simp
  have H1 : Hid (Rd w 4 s fs.length (xs.flatMap gCells) ∧ xs.map Prod.fst = fs ∧ (∀ x ∈ xs, RdG w x.2 x.1) ∧ (∀ f ∈ fs, f.small) ∧ xs.length = fs.length) := ⟨hrd, hxs, hel, hs, hxl⟩
  have H2 : Hid (Rd w 4 s' fs.length (xs'.flatMap gCells) ∧ xs'.map Prod.fst = fs ∧ (∀ x ∈ xs', RdG w x.2 x.1) ∧ (∀ f ∈ fs, f.small) ∧ xs'.length = fs.length) := ⟨hrd', hxs', hel', hs, hxl'⟩
  obtain ⟨a1, c1, rfl⟩ := hrd.is_slice
  obtain ⟨a2, c2, rfl⟩ := hrd'.is_slice
  clear hrd hxs hel hs hxl hrd' hxs' hel' hxl'
  generalize hLL : fs.length = n at hL H1 H2
  clear hLL
  go_enter Try.func32, Try.ntmps32
  go_wp2
  go_loopw [5] (fun i wr => ∃ k : Nat, k ≤ n ∧ i = .int .i64 k ∧ Below w.heap.size w wr) (fun i _ => n - (intOf i).toNat)
  case atStart => exact ⟨0, by omega, rfl, Below.refl _ _⟩
  case round =>
    obtain ⟨k, hk, rfl, hbel⟩ := hrel
    have HB : Hid (Below w.heap.size w wr) := hbel
    clear hbel
    by_cases hlt : k < n
    · obtain ⟨⟨f, v⟩, hx⟩ : ∃ x, xs[k]? = some x := ⟨_, List.getElem?_eq_getElem (by rw [H1.out.2.2.2.2]; exact hlt)⟩
      obtain ⟨⟨f', v'⟩, hx'⟩ : ∃ x, xs'[k]? = some x := ⟨_, List.getElem?_eq_getElem (by rw [H2.out.2.2.2.2]; exact hlt)⟩
      have e1 := fst_at H1.out.2.1 hx
      have e2 := fst_at H2.out.2.1 hx'
      have hff : f' = f := by
        rw [e1] at e2
        exact (Option.some.inj e2).symm
      subst hff
      have HX : Hid (RdG wr v f' ∧ RdG wr v' f' ∧ f'.small) := ⟨(H1.out.2.2.1 _ (List.mem_of_getElem? hx)).keep HB.out (Nat.le_refl _), (H2.out.2.2.1 _ (List.mem_of_getElem? hx')).keep HB.out (Nat.le_refl _), H1.out.2.2.2.1 _ (List.mem_of_getElem? e1)⟩
      clear e1 e2
      rcases H1.out.1.2 with ⟨e0, _⟩ | ⟨g, o, c, e1, hc1⟩
      · omega
      · rcases H2.out.1.2 with ⟨e0, _⟩ | ⟨g', o', c', e2, hc2⟩
        · omega
        · simp only [Value.slice.injEq, true_and] at e1 e2
          obtain ⟨rfl, rfl⟩ := e1
          obtain ⟨rfl, rfl⟩ := e2
          have i0 := Rd.elem gCells_length hc1 k _ hx 0 _ rfl
          have i1 := Rd.elem gCells_length hc1 k _ hx 1 _ rfl
          have i2 := Rd.elem gCells_length hc1 k _ hx 2 _ rfl
          have i3 := Rd.elem gCells_length hc1 k _ hx 3 _ rfl
          have j0 := Rd.elem gCells_length hc2 k _ hx' 0 _ rfl
          have j1 := Rd.elem gCells_length hc2 k _ hx' 1 _ rfl
          have j2 := Rd.elem gCells_length hc2 k _ hx' 2 _ rfl
          have j3 := Rd.elem gCells_length hc2 k _ hx' 3 _ rfl
          rw [← HB.out.cell (block_lt_of_cell i0), Nat.add_zero] at i0
          rw [← HB.out.cell (block_lt_of_cell i1)] at i1
          rw [← HB.out.cell (block_lt_of_cell i2)] at i2
          rw [← HB.out.cell (block_lt_of_cell i3)] at i3
          rw [← HB.out.cell (block_lt_of_cell j0), Nat.add_zero] at j0
          rw [← HB.out.cell (block_lt_of_cell j1)] at j1
          rw [← HB.out.cell (block_lt_of_cell j2)] at j2
          rw [← HB.out.cell (block_lt_of_cell j3)] at j3
          clear hc1 hc2 hx hx'
          simp only [] at i0 i1 i2 i3 j0 j1 j2 j3
          go_wp2_with fail
          go_region_with (go_at_call 61; refine (eqFrame_same v v' f' _ HX.out.2.2 (by exact HX.out.1) (by exact HX.out.2.1)).mono ?_; rintro e u ⟨rfl, hbu⟩)
          all_goals
            have HB2 : Hid (Below w.heap.size w u) := HB.out.trans (below_drew_trans hbu HB.out.size)
            clear hbu HB i0 i1 i2 i3 j0 j1 j2 j3
            go_wp2
            go_roundw
            case rel => exact ⟨k + 1, by omega, by go_num, HB2.out⟩
            case measure => simp [intOf]; omega
    · go_wp2
      go_ret
      exact ⟨rfl, HB.out⟩
set_option maxHeartbeats 2000000 in
set_option maxRecDepth 100000 in
theorem szFrame_any (v : Value) (f : MG) (left : Int) (w : World) (hf : f.fits) (h : RdG w v f) (h0 : 0 ≤ left) (h1 : left ≤ 1048576) :
    Calls Try.prog 57 #[.agg #[.int .i64 f.func, .int .i64 f.at_, .int .i64 f.base, v], .int .i64 left] w fun e w' => ∃ r : Int, e = .returned (.int .i64 r) ∧ (r = -1 ∨ 0 ≤ r ∧ r ≤ left ∧ f.small) ∧ Below w.heap.size w w' := by
  obtain ⟨a1, c1, e1⟩ := h.is_slice
  rw [e1]
  have HB : Hid (Below w.heap.size w (w.alloc (.cells #[.int .i64 f.func, .int .i64 f.at_, .int .i64 f.base, .slice a1 f.locals.length c1] 101))) := (Below.refl _ _).alloc (Nat.le_refl _) _
  clear h e1
  unfold MG.fits at hf
  go_enter Try.func57, Try.ntmps57
  go_wp2_with fail
  refine (szValueS_any a1 f.locals.length c1 left _ hf h0 h1).mono ?_
  rintro e u2 ⟨rfl, rfl⟩
  have hz := szv_cases (n := f.locals.length) h0 h1
  generalize szv left f.locals.length = r1 at hz
  rcases hz with rfl | ⟨r10, r11, r12⟩
  · go_wp2
    go_ret
    exact ⟨-1, rfl, .inl rfl, HB.out⟩
  go_wp2
  go_ret
  exact ⟨r1, rfl, .inr ⟨r10, by omega, by unfold MG.small; omega⟩, HB.out⟩
set_option maxHeartbeats 2000000 in
set_option maxRecDepth 100000 in
theorem szFrameS_any (s : Value) (fs : List MG) (left : Int) (w : World) (hL : fs.length ≤ 9223372036854775807) (hs : ∀ f ∈ fs, f.fits) (h : RdGs w s fs) (h0 : 0 ≤ left) (h1 : left ≤ 1048576) :
    Calls Try.prog 23 #[s, .int .i64 left] w fun e w' => ∃ r : Int, e = .returned (.int .i64 r) ∧ (r = -1 ∨ 0 ≤ r ∧ r ≤ left ∧ (fs.length : Int) ≤ left ∧ ∀ f ∈ fs, f.small) ∧ Below w.heap.size w w' := by
  obtain ⟨xs, hxs, hrd, hel⟩ := h
  have hxl : xs.length = fs.length := by rw [← hxs]; simp
  have H1 : Hid (Rd w 4 s fs.length (xs.flatMap gCells) ∧ xs.map Prod.fst = fs ∧ (∀ x ∈ xs, RdG w x.2 x.1) ∧ (∀ f ∈ fs, f.fits) ∧ xs.length = fs.length) := ⟨hrd, hxs, hel, hs, hxl⟩
  obtain ⟨a1, c1, rfl⟩ := hrd.is_slice
  clear hrd hxs hel hs hxl
  generalize hLL : fs.length = n at hL H1 ⊢
  have HL : Hid (fs.length = n) := hLL
  clear hLL
  by_cases hb : left - n < 0
  · go_enter Try.func23, Try.ntmps23
    go_wp2
    go_ret
    exact ⟨-1, rfl, .inl rfl, Below.refl _ _⟩
  · go_enter Try.func23, Try.ntmps23
    go_wp2
    go_loopw [1, 5] (fun l i wr => ∃ (k : Nat) (q : Int), k ≤ n ∧ l = .int .i64 q ∧ i = .int .i64 k ∧ 0 ≤ q ∧ q ≤ left ∧ Hid (∀ f ∈ fs.take k, f.small) ∧ Below w.heap.size w wr) (fun _ i _ => n - (intOf i).toNat)
    case atStart => exact ⟨0, left - n, by omega, rfl, rfl, by omega, by omega, (fun f hf => by simp at hf), Below.refl _ _⟩
    case round =>
      obtain ⟨k, q, hk, rfl, rfl, q0, q1, HQ, hbel⟩ := hrel
      have HB : Hid (Below w.heap.size w wr) := hbel
      clear hbel
      by_cases hlt : k < n
      · obtain ⟨⟨f, v⟩, hx⟩ : ∃ x, xs[k]? = some x := ⟨_, List.getElem?_eq_getElem (by rw [H1.out.2.2.2.2]; exact hlt)⟩
        have e1 := fst_at H1.out.2.1 hx
        have hv := H1.out.2.2.1 _ (List.mem_of_getElem? hx)
        have hfl := H1.out.2.2.2.1 _ (List.mem_of_getElem? e1)
        simp only [] at hv hfl e1
        rcases H1.out.1.2 with ⟨e0, _⟩ | ⟨g, o, c, e2, hc1⟩
        · omega
        · simp only [Value.slice.injEq, true_and] at e2
          obtain ⟨rfl, rfl⟩ := e2
          have i0 := Rd.elem gCells_length hc1 k _ hx 0 _ rfl
          have i1 := Rd.elem gCells_length hc1 k _ hx 1 _ rfl
          have i2 := Rd.elem gCells_length hc1 k _ hx 2 _ rfl
          have i3 := Rd.elem gCells_length hc1 k _ hx 3 _ rfl
          rw [← HB.out.cell (block_lt_of_cell i0), Nat.add_zero] at i0
          rw [← HB.out.cell (block_lt_of_cell i1)] at i1
          rw [← HB.out.cell (block_lt_of_cell i2)] at i2
          rw [← HB.out.cell (block_lt_of_cell i3)] at i3
          simp only [] at i0 i1 i2 i3
          have HE : Hid (fs[k]? = some f ∧ RdG wr v f ∧ f.fits) := ⟨e1, hv.keep HB.out (Nat.le_refl _), hfl⟩
          clear hc1 hx hv e1 hfl
          go_wp2_with fail
          refine (szFrame_any v f q wr HE.out.2.2 HE.out.2.1 q0 (by omega)).mono ?_
          rintro e u ⟨r, rfl, hr, hbu⟩
          have HB2 : Hid (Below w.heap.size w u) := HB.out.trans (hbu.mono HB.out.size)
          clear hbu HB i0 i1 i2 i3
          rcases hr with rfl | ⟨r0, r1, hsm⟩
          · go_wp2
            go_ret
            exact ⟨-1, rfl, .inl rfl, HB2.out⟩
          · have HS : Hid f.small := hsm
            clear hsm
            go_wp2
            go_roundw
            case rel =>
              refine ⟨k + 1, r, by omega, rfl, by go_num, by omega, by omega, ?_, HB2.out⟩
              intro y hy
              obtain ⟨hlt', hf'⟩ := List.getElem?_eq_some_iff.1 HE.out.1
              rw [List.take_succ_eq_append_getElem hlt', hf'] at hy
              rcases List.mem_append.1 hy with hy | hy
              · exact HQ.out y hy
              · simp only [List.mem_singleton] at hy
                subst hy
                exact HS.out
            case measure => simp [intOf]; omega
      · have hkn : k = n := by omega
        subst hkn
        have HA : Hid (∀ f ∈ fs, f.small) := by
          have := HQ.out
          rw [← HL.out, List.take_length] at this
          exact this
        clear HQ
        go_wp2
        go_ret
        exact ⟨q, rfl, .inr ⟨q0, q1, by omega, HA.out⟩, HB.out⟩
end Go.Proofs.Ytadkabiipkngiaa
