import Derived.Test.YtalkpddhpmjgcaaGreatCm1
namespace Go.Proofs.YtalkpddhpmjgcaaGreat
open Go.ChangeShapes Go.WideShapes Go.ChangeAt Go.RowKit
set_option linter.unusedVariables false
/-- A call's two arguments of four cells. -/
structure Fr2 (w u : World) (tp : TypeId) (p r : List Value) : Prop where
  par : u.ownsRow w.heap.size tp 4 (.slice (some ⟨w.heap.size, 0, none⟩) 1 1) 1 p
  par' : u.ownsRow w.heap.size tp 4 (.slice (some ⟨w.heap.size + 1, 0, none⟩) 1 1) 1 r
  bel : Below w.heap.size w u
theorem Fr2.of (w : World) (tp : TypeId) (p r : Array Value) (hp : p.size = 4) (hr : r.size = 4) :
    Fr2 w ((w.alloc (.cells p tp)).alloc (.cells r tp)) tp p.toList r.toList := by
  have b1 : Below w.heap.size w (w.alloc (.cells p tp)) := (Below.refl _ _).alloc (Nat.le_refl _) _
  have c2 : Below (w.alloc (.cells p tp)).heap.size (w.alloc (.cells p tp)) ((w.alloc (.cells p tp)).alloc (.cells r tp)) := (Below.refl _ _).alloc (Nat.le_refl _) _
  have r1 := World.ownsRow_lit (base := w.heap.size) (e := tp) (size := 4) w p 1 (Nat.le_refl _) (by unfold maxLen; omega) (by omega)
  have r2 := World.ownsRow_lit (base := w.heap.size) (e := tp) (size := 4) (w.alloc (.cells p tp)) r 1 (by simp) (by unfold maxLen; omega) (by omega)
  refine ⟨own_keep r1 c2 (Nat.le_refl _), ?_, b1.trans (c2.mono (by simp))⟩
  simpa using r2
theorem Fr2.keep {w u u' : World} {tp : TypeId} {p r : List Value} (h : Fr2 w u tp p r) (hb : Below u.heap.size u u') : Fr2 w u' tp p r :=
  ⟨own_keep h.par hb (Nat.le_refl _), own_keep h.par' hb (Nat.le_refl _), h.bel.trans (hb.mono h.bel.size)⟩

set_option maxHeartbeats 2000000 in
set_option maxRecDepth 100000 in
theorem eqFunc_same (v v' : VF) (f : MF) (w : World) (hs : f.small) (h : RdF w v f) (h' : RdF w v' f) :
    Calls Tryz.prog 63 #[.agg #[v.p, .int .i64 f.result, v.l, v.c], .agg #[v'.p, .int .i64 f.result, v'.l, v'.c]] w fun e w' => e = .returned (.bool true) ∧ Below w.heap.size w w' := by
  have F0 := Fr2.of w 86 #[v.p, .int .i64 f.result, v.l, v.c] #[v'.p, .int .i64 f.result, v'.l, v'.c] rfl rfl
  have H : Hid (RdF w v f ∧ RdF w v' f ∧ f.small) := ⟨h, h', hs⟩
  clear h h' hs
  go_enter Tryz.func63, Tryz.ntmps63
  go_wp2_with fail
  refine (eqInt64S_same v.p v'.p f.params _ (Nat.le_trans H.out.2.2.1 (by omega)) (H.out.1.1.keep F0.bel (Nat.le_refl _)) (H.out.2.1.1.keep F0.bel (Nat.le_refl _))).mono ?_
  rintro e u1 ⟨rfl, b1⟩
  have F1 := F0.keep b1
  clear b1 F0
  obtain ⟨p0, p1, p2, p3, _⟩ := row4 F1.par
  obtain ⟨o0, o1, o2, o3, _⟩ := row4 F1.par'
  go_wp2_with fail
  refine (eqInt64S_same v.l v'.l f.locals _ (Nat.le_trans H.out.2.2.2.1 (by omega)) (H.out.1.2.1.keep F1.bel (Nat.le_refl _)) (H.out.2.1.2.1.keep F1.bel (Nat.le_refl _))).mono ?_
  rintro e u2 ⟨rfl, b2⟩
  have F2 := F1.keep b2
  clear b2 F1 p0 p1 p2 p3 o0 o1 o2 o3
  obtain ⟨p0, p1, p2, p3, _⟩ := row4 F2.par
  obtain ⟨o0, o1, o2, o3, _⟩ := row4 F2.par'
  go_wp2_with fail
  refine (eqInstrS_same v.c v'.c f.code _ H.out.2.2.2.2 (H.out.1.2.2.keep F2.bel (Nat.le_refl _)) (H.out.2.1.2.2.keep F2.bel (Nat.le_refl _))).mono ?_
  rintro e u3 ⟨rfl, b3⟩
  have F3 := F2.keep b3
  clear b3 F2 p0 p1 p2 p3 o0 o1 o2 o3
  go_wp2
  go_ret
  exact ⟨rfl, F3.bel⟩

set_option maxHeartbeats 2000000 in
set_option maxRecDepth 100000 in
theorem eqFuncS_same (s s' : Value) (fs : List MF) (w : World) (hL : fs.length ≤ 1048576) (hs : ∀ f ∈ fs, f.small) (h : RdFs w s fs) (h' : RdFs w s' fs) :
    Calls Tryz.prog 29 #[s, s'] w fun e w' => e = .returned (.bool true) ∧ Below w.heap.size w w' := by
  obtain ⟨xs, hxs, hrd, hel⟩ := h
  obtain ⟨xs', hxs', hrd', hel'⟩ := h'
  have hxl : xs.length = fs.length := by rw [← hxs]; simp
  have hxl' : xs'.length = fs.length := by rw [← hxs']; simp
  have H1 : Hid (Rd w 4 s fs.length (xs.flatMap fCells) ∧ xs.map Prod.fst = fs ∧ (∀ x ∈ xs, RdF w x.2 x.1) ∧ (∀ f ∈ fs, f.small) ∧ xs.length = fs.length) := ⟨hrd, hxs, hel, hs, hxl⟩
  have H2 : Hid (Rd w 4 s' fs.length (xs'.flatMap fCells) ∧ xs'.map Prod.fst = fs ∧ (∀ x ∈ xs', RdF w x.2 x.1) ∧ (∀ f ∈ fs, f.small) ∧ xs'.length = fs.length) := ⟨hrd', hxs', hel', hs, hxl'⟩
  obtain ⟨a1, c1, rfl⟩ := hrd.is_slice
  obtain ⟨a2, c2, rfl⟩ := hrd'.is_slice
  clear hrd hxs hel hs hxl hrd' hxs' hel' hxl'
  generalize hLL : fs.length = n at hL H1 H2
  clear hLL
  go_enter Tryz.func29, Tryz.ntmps29
  go_wp2
  go_loopw [5] (fun i wr => ∃ k : Nat, k ≤ n ∧ i = .int .i64 k ∧ Below w.heap.size w wr) (fun i _ => n - (intOf i).toNat)
  case atStart => exact ⟨0, by omega, rfl, Below.refl _ _⟩
  case round =>
    obtain ⟨k, hk, rfl, hbel⟩ := hrel
    have HB : Hid (Below w.heap.size w wr) := hbel
    clear hbel
    by_cases hlt : k < n
    · obtain ⟨⟨f, v⟩, hx⟩ : ∃ x, xs[k]? = some x := ⟨_, List.getElem?_eq_getElem (by rw [H1.out.2.2.2.2]; exact hlt)⟩
      obtain ⟨⟨f', v'⟩, hx'⟩ : ∃ x, xs'[k]? = some x := ⟨_, List.getElem?_eq_getElem (by rw [H2.out.2.2.2.2]; exact hlt)⟩
      have e1 := fst_at H1.out.2.1 hx
      have e2 := fst_at H2.out.2.1 hx'
      have hff : f' = f := by
        rw [e1] at e2
        exact (Option.some.inj e2).symm
      subst hff
      have HX : Hid (RdF wr v f' ∧ RdF wr v' f' ∧ f'.small) := ⟨(H1.out.2.2.1 _ (List.mem_of_getElem? hx)).keep HB.out (Nat.le_refl _), (H2.out.2.2.1 _ (List.mem_of_getElem? hx')).keep HB.out (Nat.le_refl _), H1.out.2.2.2.1 _ (List.mem_of_getElem? e1)⟩
      clear e1 e2
      rcases H1.out.1.2 with ⟨e0, _⟩ | ⟨g, o, c, e1, hc1⟩
      · omega
      · rcases H2.out.1.2 with ⟨e0, _⟩ | ⟨g', o', c', e2, hc2⟩
        · omega
        · simp only [Value.slice.injEq, true_and] at e1 e2
          obtain ⟨rfl, rfl⟩ := e1
          obtain ⟨rfl, rfl⟩ := e2
          have i0 := Rd.elem fCells_length hc1 k _ hx 0 _ rfl
          have i1 := Rd.elem fCells_length hc1 k _ hx 1 _ rfl
          have i2 := Rd.elem fCells_length hc1 k _ hx 2 _ rfl
          have i3 := Rd.elem fCells_length hc1 k _ hx 3 _ rfl
          have j0 := Rd.elem fCells_length hc2 k _ hx' 0 _ rfl
          have j1 := Rd.elem fCells_length hc2 k _ hx' 1 _ rfl
          have j2 := Rd.elem fCells_length hc2 k _ hx' 2 _ rfl
          have j3 := Rd.elem fCells_length hc2 k _ hx' 3 _ rfl
          rw [← HB.out.cell (block_lt_of_cell i0), Nat.add_zero] at i0
          rw [← HB.out.cell (block_lt_of_cell i1)] at i1
          rw [← HB.out.cell (block_lt_of_cell i2)] at i2
          rw [← HB.out.cell (block_lt_of_cell i3)] at i3
          rw [← HB.out.cell (block_lt_of_cell j0), Nat.add_zero] at j0
          rw [← HB.out.cell (block_lt_of_cell j1)] at j1
          rw [← HB.out.cell (block_lt_of_cell j2)] at j2
          rw [← HB.out.cell (block_lt_of_cell j3)] at j3
          clear hc1 hc2 hx hx'
          simp only [] at i0 i1 i2 i3 j0 j1 j2 j3
          go_wp2_with fail
          go_region_with (go_at_call 63; refine (eqFunc_same v v' f' _ HX.out.2.2 (by exact HX.out.1) (by exact HX.out.2.1)).mono ?_; rintro e u ⟨rfl, hbu⟩)
          all_goals
            have HB2 : Hid (Below w.heap.size w u) := HB.out.trans (below_drew_trans hbu HB.out.size)
            clear hbu HB i0 i1 i2 i3 j0 j1 j2 j3
            go_wp2
            go_roundw
            case rel => exact ⟨k + 1, by omega, by go_num, HB2.out⟩
            case measure => simp [intOf]; omega
    · go_wp2
      go_ret
      exact ⟨rfl, HB.out⟩
end Go.Proofs.YtalkpddhpmjgcaaGreat
namespace Go.Proofs.YtalkpddhpmjgcaaGreat
open Go.ChangeShapes Go.WideShapes Go.ChangeAt Go.RowKit
set_option linter.unusedVariables false
set_option maxHeartbeats 2000000 in
set_option maxRecDepth 100000 in
theorem eqInt64SS_same (s s' : Value) (fs : List (List Int)) (w : World) (hL : fs.length ≤ 1048576) (hs : ∀ f ∈ fs, f.length ≤ 1048576) (h : RdR w s fs) (h' : RdR w s' fs) :
    Calls Tryz.prog 27 #[s, s'] w fun e w' => e = .returned (.bool true) ∧ Below w.heap.size w w' := by
  obtain ⟨xs, hxs, hrd, hel⟩ := h
  obtain ⟨xs', hxs', hrd', hel'⟩ := h'
  have hxl : xs.length = fs.length := by rw [← hxs]; simp
  have hxl' : xs'.length = fs.length := by rw [← hxs']; simp
  have H1 : Hid (Rd w 1 s fs.length (xs.flatMap rCells) ∧ xs.map Prod.fst = fs ∧ (∀ x ∈ xs, Rd w 1 x.2 x.1.length (x.1.flatMap intCell)) ∧ (∀ f ∈ fs, f.length ≤ 1048576) ∧ xs.length = fs.length) := ⟨hrd, hxs, hel, hs, hxl⟩
  have H2 : Hid (Rd w 1 s' fs.length (xs'.flatMap rCells) ∧ xs'.map Prod.fst = fs ∧ (∀ x ∈ xs', Rd w 1 x.2 x.1.length (x.1.flatMap intCell)) ∧ (∀ f ∈ fs, f.length ≤ 1048576) ∧ xs'.length = fs.length) := ⟨hrd', hxs', hel', hs, hxl'⟩
  obtain ⟨a1, c1, rfl⟩ := hrd.is_slice
  obtain ⟨a2, c2, rfl⟩ := hrd'.is_slice
  clear hrd hxs hel hs hxl hrd' hxs' hel' hxl'
  generalize hLL : fs.length = n at hL H1 H2
  clear hLL
  go_enter Tryz.func27, Tryz.ntmps27
  go_wp2
  go_loopw [5] (fun i wr => ∃ k : Nat, k ≤ n ∧ i = .int .i64 k ∧ Below w.heap.size w wr) (fun i _ => n - (intOf i).toNat)
  case atStart => exact ⟨0, by omega, rfl, Below.refl _ _⟩
  case round =>
    obtain ⟨k, hk, rfl, hbel⟩ := hrel
    have HB : Hid (Below w.heap.size w wr) := hbel
    clear hbel
    by_cases hlt : k < n
    · obtain ⟨⟨f, v⟩, hx⟩ : ∃ x, xs[k]? = some x := ⟨_, List.getElem?_eq_getElem (by rw [H1.out.2.2.2.2]; exact hlt)⟩
      obtain ⟨⟨f', v'⟩, hx'⟩ : ∃ x, xs'[k]? = some x := ⟨_, List.getElem?_eq_getElem (by rw [H2.out.2.2.2.2]; exact hlt)⟩
      have e1 := fst_at H1.out.2.1 hx
      have e2 := fst_at H2.out.2.1 hx'
      have hff : f' = f := by
        rw [e1] at e2
        exact (Option.some.inj e2).symm
      subst hff
      have HX : Hid (Rd wr 1 v f'.length (f'.flatMap intCell) ∧ Rd wr 1 v' f'.length (f'.flatMap intCell) ∧ f'.length ≤ 140737488355328) := ⟨(H1.out.2.2.1 _ (List.mem_of_getElem? hx)).keep HB.out (Nat.le_refl _), (H2.out.2.2.1 _ (List.mem_of_getElem? hx')).keep HB.out (Nat.le_refl _), Nat.le_trans (H1.out.2.2.2.1 _ (List.mem_of_getElem? e1)) (by omega)⟩
      clear e1 e2
      rcases H1.out.1.2 with ⟨e0, _⟩ | ⟨g, o, c, e1, hc1⟩
      · omega
      · rcases H2.out.1.2 with ⟨e0, _⟩ | ⟨g', o', c', e2, hc2⟩
        · omega
        · simp only [Value.slice.injEq, true_and] at e1 e2
          obtain ⟨rfl, rfl⟩ := e1
          obtain ⟨rfl, rfl⟩ := e2
          have i0 := Rd.elem rCells_length hc1 k _ hx 0 _ rfl
          have j0 := Rd.elem rCells_length hc2 k _ hx' 0 _ rfl
          rw [← HB.out.cell (block_lt_of_cell i0)] at i0
          rw [← HB.out.cell (block_lt_of_cell j0)] at j0
          rw [Nat.mul_one, Nat.add_zero] at i0 j0
          clear hc1 hc2 hx hx'
          simp only [] at i0 j0
          go_wp2_with fail
          go_region_with (go_at_call 61; refine (eqInt64S_same v v' f' _ HX.out.2.2 (by exact HX.out.1) (by exact HX.out.2.1)).mono ?_; rintro e u ⟨rfl, hbu⟩)
          all_goals
            have HB2 : Hid (Below w.heap.size w u) := HB.out.trans (below_drew_trans hbu HB.out.size)
            clear hbu HB i0 j0
            go_wp2
            go_roundw
            case rel => exact ⟨k + 1, by omega, by go_num, HB2.out⟩
            case measure => simp [intOf]; omega
    · go_wp2
      go_ret
      exact ⟨rfl, HB.out⟩

set_option maxHeartbeats 2000000 in
set_option maxRecDepth 100000 in
theorem eqProgram_same (v v' : VP) (p : MP) (w : World) (hs : p.small) (h : RdP w v p) (h' : RdP w v' p) :
    Calls Tryz.prog 10 #[.agg #[v.r, v.k, v.f, v.t], .agg #[v'.r, v'.k, v'.f, v'.t]] w fun e w' => e = .returned (.bool true) ∧ Below w.heap.size w w' := by
  have F0 := Fr2.of w 31 #[v.r, v.k, v.f, v.t] #[v'.r, v'.k, v'.f, v'.t] rfl rfl
  go_enter Tryz.func10, Tryz.ntmps10
  go_wp2_with fail
  refine (eqInt64SS_same v.r v'.r p.regions _ hs.regions hs.region (h.regions.keep F0.bel (Nat.le_refl _)) (h'.regions.keep F0.bel (Nat.le_refl _))).mono ?_
  rintro e u1 ⟨rfl, b1⟩
  have F1 := F0.keep b1
  clear b1 F0
  obtain ⟨p0, p1, p2, p3, _⟩ := row4 F1.par
  obtain ⟨o0, o1, o2, o3, _⟩ := row4 F1.par'
  go_wp2_with fail
  refine (eqConstS_same v.k v'.k p.consts _ hs.consts (h.consts.keep F1.bel (Nat.le_refl _)) (h'.consts.keep F1.bel (Nat.le_refl _))).mono ?_
  rintro e u2 ⟨rfl, b2⟩
  have F2 := F1.keep b2
  clear b2 F1 p0 p1 p2 p3 o0 o1 o2 o3
  obtain ⟨p0, p1, p2, p3, _⟩ := row4 F2.par
  obtain ⟨o0, o1, o2, o3, _⟩ := row4 F2.par'
  go_wp2_with fail
  refine (eqFuncS_same v.f v'.f p.funcs _ hs.funcs hs.func (h.funcs.keep F2.bel (Nat.le_refl _)) (h'.funcs.keep F2.bel (Nat.le_refl _))).mono ?_
  rintro e u3 ⟨rfl, b3⟩
  have F3 := F2.keep b3
  clear b3 F2 p0 p1 p2 p3 o0 o1 o2 o3
  obtain ⟨p0, p1, p2, p3, _⟩ := row4 F3.par
  obtain ⟨o0, o1, o2, o3, _⟩ := row4 F3.par'
  go_wp2_with fail
  refine (eqCertS_same v.t v'.t p.certs _ hs.certs (h.certs.keep F3.bel (Nat.le_refl _)) (h'.certs.keep F3.bel (Nat.le_refl _))).mono ?_
  rintro e u4 ⟨rfl, b4⟩
  have F4 := F3.keep b4
  clear b4 F3 p0 p1 p2 p3 o0 o1 o2 o3
  go_wp2
  go_ret
  exact ⟨rfl, F4.bel⟩
end Go.Proofs.YtalkpddhpmjgcaaGreat
namespace Go.Proofs.YtalkpddhpmjgcaaGreat
open Go.ChangeShapes Go.WideShapes Go.ChangeAt Go.RowKit
set_option linter.unusedVariables false
/-- What is left. -/
def szv (left n : Int) : Int := if left - n < 0 then -1 else left - n
def MF.fits (f : MF) : Prop := f.params.length ≤ 9223372036854775807 ∧ f.locals.length ≤ 9223372036854775807 ∧ f.code.length ≤ 9223372036854775807
end Go.Proofs.YtalkpddhpmjgcaaGreat
namespace Go.Proofs.YtalkpddhpmjgcaaGreat
open Go.ChangeShapes Go.WideShapes Go.ChangeAt Go.RowKit
set_option linter.unusedVariables false
structure MP.fits (p : MP) : Prop where
  regions : p.regions.length ≤ 9223372036854775807
  region : ∀ r ∈ p.regions, r.length ≤ 9223372036854775807
  consts : p.consts.length ≤ 9223372036854775807
  funcs : p.funcs.length ≤ 9223372036854775807
  func : ∀ f ∈ p.funcs, f.fits
  certs : p.certs.length ≤ 9223372036854775807
theorem szv_cases {left : Int} {n : Nat} (h0 : 0 ≤ left) (h1 : left ≤ 1048576) : szv left n = -1 ∨ 0 ≤ szv left n ∧ szv left n ≤ left ∧ (n : Int) ≤ left := by
  unfold szv
  by_cases h : left - n < 0
  · rw [if_pos h]; exact .inl rfl
  · rw [if_neg h]; exact .inr ⟨by omega, by omega, by omega⟩
/-- A call's one argument of four cells. -/
structure Fr1 (w u : World) (tp : TypeId) (p : List Value) : Prop where
  par : u.ownsRow w.heap.size tp 4 (.slice (some ⟨w.heap.size, 0, none⟩) 1 1) 1 p
  bel : Below w.heap.size w u
theorem Fr1.of (w : World) (tp : TypeId) (p : Array Value) (hp : p.size = 4) : Fr1 w (w.alloc (.cells p tp)) tp p.toList :=
  ⟨World.ownsRow_lit (base := w.heap.size) (e := tp) (size := 4) w p 1 (Nat.le_refl _) (by unfold maxLen; omega) (by omega), (Below.refl _ _).alloc (Nat.le_refl _) _⟩
theorem Fr1.keep {w u u' : World} {tp : TypeId} {p : List Value} (h : Fr1 w u tp p) (hb : Below u.heap.size u u') : Fr1 w u' tp p :=
  ⟨own_keep h.par hb (Nat.le_refl _), h.bel.trans (hb.mono h.bel.size)⟩

end Go.Proofs.YtalkpddhpmjgcaaGreat
