import Derived.Test.YtdbaghmjomdmbaaFo5
namespace Go.Proofs.Ytdbaghmjomdmbaa
open Go.ChangeShapes Go.WideShapes Go.ChangeAt Go.RowKit
set_option linter.unusedVariables false
def RdB (w : World) (v : Value) (f : MB) : Prop := Rd w 1 v f.next.length (f.next.flatMap intCell)
def MB.small (f : MB) : Prop := f.next.length ≤ 1048576
theorem RdB.keep {w w' : World} {v : Value} {f : MB} (h : RdB w v f) {B : Nat} (hb : Below B w w') (hB : w.heap.size ≤ B) : RdB w' v f := Rd.keep h hb hB
/-- A list of blocks. -/
def RdBs (w : World) (s : Value) (fs : List MB) : Prop := ∃ xs : List (MB × Value), xs.map Prod.fst = fs ∧ Rd w 3 s fs.length (xs.flatMap bCells) ∧ ∀ x ∈ xs, RdB w x.2 x.1
theorem RdBs.keep {w w' : World} {s : Value} {fs : List MB} (h : RdBs w s fs) {B : Nat} (hb : Below B w w') (hB : w.heap.size ≤ B) : RdBs w' s fs := by
  obtain ⟨xs, h1, h2, h3⟩ := h
  exact ⟨xs, h1, h2.keep hb hB, fun x hx => (h3 x hx).keep hb hB⟩
theorem fst_at {α β : Type} {xs : List (α × β)} {fs : List α} {k : Nat} {f : α} {v : β} (h : xs.map Prod.fst = fs) (hx : xs[k]? = some (f, v)) : fs[k]? = some f := by
  rw [← h, List.getElem?_map, hx]
  rfl
set_option maxHeartbeats 2000000 in
set_option maxRecDepth 100000 in
theorem eqBlock_same (v v' : Value) (f : MB) (w : World) (hs : f.small) (h : RdB w v f) (h' : RdB w v' f) :
    Calls Try.prog 26 #[.agg #[.int .i64 f.first, .int .i64 f.last, v], .agg #[.int .i64 f.first, .int .i64 f.last, v']] w fun e w' => e = .returned (.bool true) ∧ Below w.heap.size w w' := by
  have B0 : Hid (Below w.heap.size w ((w.alloc (.cells #[.int .i64 f.first, .int .i64 f.last, v] 46)).alloc (.cells #[.int .i64 f.first, .int .i64 f.last, v'] 46))) := below_on (below_alloc _ _) (Nat.le_refl _) (below_alloc _ _)
  have H : Hid (RdB w v f ∧ RdB w v' f ∧ f.small) := ⟨h, h', hs⟩
  clear h h' hs
  go_enter Try.func26, Try.ntmps26
  go_wp2_with fail
  refine (eqInt64S_same v v' f.next _ (Nat.le_trans H.out.2.2 (by omega)) (Rd.keep H.out.1 B0.out (Nat.le_refl _)) (Rd.keep H.out.2.1 B0.out (Nat.le_refl _))).mono ?_
  rintro e u1 ⟨rfl, b1⟩
  have B1 : Hid (Below w.heap.size w u1) := below_on B0.out (Nat.le_refl _) b1
  clear b1 B0
  go_wp2
  go_ret
  exact ⟨rfl, B1.out⟩
set_option maxHeartbeats 2000000 in
set_option maxRecDepth 100000 in
theorem eqBlockS_same (s s' : Value) (fs : List MB) (w : World) (hL : fs.length ≤ 1048576) (hs : ∀ f ∈ fs, f.small) (h : RdBs w s fs) (h' : RdBs w s' fs) :
    Calls Try.prog 9 #[s, s'] w fun e w' => e = .returned (.bool true) ∧ Below w.heap.size w w' := by
  obtain ⟨xs, hxs, hrd, hel⟩ := h
  obtain ⟨xs', hxs', hrd', hel'⟩ := h'
  have hxl : xs.length = fs.length := by rw [← hxs]; simp
  have hxl' : xs'.length = fs.length := by rw [← hxs']; simp
  have H1 : Hid (Rd w 3 s fs.length (xs.flatMap bCells) ∧ xs.map Prod.fst = fs ∧ (∀ x ∈ xs, RdB w x.2 x.1) ∧ (∀ f ∈ fs, f.small) ∧ xs.length = fs.length) := ⟨hrd, hxs, hel, hs, hxl⟩
  have H2 : Hid (Rd w 3 s' fs.length (xs'.flatMap bCells) ∧ xs'.map Prod.fst = fs ∧ (∀ x ∈ xs', RdB w x.2 x.1) ∧ (∀ f ∈ fs, f.small) ∧ xs'.length = fs.length) := ⟨hrd', hxs', hel', hs, hxl'⟩
  obtain ⟨a1, c1, rfl⟩ := hrd.is_slice
  obtain ⟨a2, c2, rfl⟩ := hrd'.is_slice
  clear hrd hxs hel hs hxl hrd' hxs' hel' hxl'
  generalize hLL : fs.length = n at hL H1 H2
  clear hLL
  go_enter Try.func9, Try.ntmps9
  go_wp2
  go_loopw [5] (fun i wr => ∃ k : Nat, k ≤ n ∧ i = .int .i64 k ∧ Below w.heap.size w wr) (fun i _ => n - (intOf i).toNat)
  case atStart => exact ⟨0, by omega, rfl, Below.refl _ _⟩
  case round =>
    obtain ⟨k, hk, rfl, hbel⟩ := hrel
    have HB : Hid (Below w.heap.size w wr) := hbel
    clear hbel
    by_cases hlt : k < n
    · obtain ⟨⟨f, v⟩, hx⟩ : ∃ x, xs[k]? = some x := ⟨_, List.getElem?_eq_getElem (by rw [H1.out.2.2.2.2]; exact hlt)⟩
      obtain ⟨⟨f', v'⟩, hx'⟩ : ∃ x, xs'[k]? = some x := ⟨_, List.getElem?_eq_getElem (by rw [H2.out.2.2.2.2]; exact hlt)⟩
      have e1 := fst_at H1.out.2.1 hx
      have e2 := fst_at H2.out.2.1 hx'
      have hff : f' = f := by
        rw [e1] at e2
        exact (Option.some.inj e2).symm
      subst hff
      have HX : Hid (RdB wr v f' ∧ RdB wr v' f' ∧ f'.small) := ⟨(H1.out.2.2.1 _ (List.mem_of_getElem? hx)).keep HB.out (Nat.le_refl _), (H2.out.2.2.1 _ (List.mem_of_getElem? hx')).keep HB.out (Nat.le_refl _), H1.out.2.2.2.1 _ (List.mem_of_getElem? e1)⟩
      clear e1 e2
      rcases H1.out.1.2 with ⟨e0, _⟩ | ⟨g, o, c, e1, hc1⟩
      · omega
      · rcases H2.out.1.2 with ⟨e0, _⟩ | ⟨g', o', c', e2, hc2⟩
        · omega
        · simp only [Value.slice.injEq, true_and] at e1 e2
          obtain ⟨rfl, rfl⟩ := e1
          obtain ⟨rfl, rfl⟩ := e2
          have i0 := Rd.elem bCells_length hc1 k _ hx 0 _ rfl
          have i1 := Rd.elem bCells_length hc1 k _ hx 1 _ rfl
          have i2 := Rd.elem bCells_length hc1 k _ hx 2 _ rfl
          have j0 := Rd.elem bCells_length hc2 k _ hx' 0 _ rfl
          have j1 := Rd.elem bCells_length hc2 k _ hx' 1 _ rfl
          have j2 := Rd.elem bCells_length hc2 k _ hx' 2 _ rfl
          rw [← HB.out.cell (block_lt_of_cell i0), Nat.add_zero] at i0
          rw [← HB.out.cell (block_lt_of_cell i1)] at i1
          rw [← HB.out.cell (block_lt_of_cell i2)] at i2
          rw [← HB.out.cell (block_lt_of_cell j0), Nat.add_zero] at j0
          rw [← HB.out.cell (block_lt_of_cell j1)] at j1
          rw [← HB.out.cell (block_lt_of_cell j2)] at j2
          clear hc1 hc2 hx hx'
          simp only [] at i0 i1 i2 j0 j1 j2
          go_wp2_with fail
          go_region_with (go_at_call 26; refine (eqBlock_same v v' f' _ HX.out.2.2 (by exact HX.out.1) (by exact HX.out.2.1)).mono ?_; rintro e u ⟨rfl, hbu⟩)
          all_goals
            have HB2 : Hid (Below w.heap.size w u) := HB.out.trans (below_drew_trans hbu HB.out.size)
            clear hbu HB i0 i1 i2 j0 j1 j2
            go_wp2
            go_roundw
            case rel => exact ⟨k + 1, by omega, by go_num, HB2.out⟩
            case measure => simp [intOf]; omega
    · go_wp2
      go_ret
      exact ⟨rfl, HB.out⟩
end Go.Proofs.Ytdbaghmjomdmbaa
