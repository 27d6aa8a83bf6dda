/- St1, St2, St3, St4, St5 -/
import Derived.Test.YtkpajiahpmdobaaGreatMMem2
/- St1: values of a state: toValue, toValueS, eqValue, eqValueS, szValueS. -/
namespace Go.Proofs.YtkpajiahpmdobaaGreat
open Go.ChangeShapes Go.WideShapes Go.ChangeAt Go.RowKit
set_option linter.unusedVariables false
theorem infoV : (Tryz.prog.info? 102).map (fun i => (i.zero, i.size, i.bytes)) = some (some (.agg #[.int .i64 0, .int .u32 0]), 2, 16) := by kernel_rfl
set_option maxHeartbeats 1000000 in
theorem eqValue_same (x : MC) (w : World) :
    Calls Tryz.prog 68 #[.agg #[.int .i64 x.type, .int .u32 x.word], .agg #[.int .i64 x.type, .int .u32 x.word]] w fun e w' => e = .returned (.bool true) ∧ Below w.heap.size w w' := by
  go_enter Tryz.func68, Tryz.ntmps68
  go_wp2
  go_ret
  exact ⟨rfl, (((Below.refl _ _).alloc (Nat.le_refl _) _).alloc (by simp) _)⟩
set_option maxHeartbeats 1000000 in
theorem eqValueS_same (s s' : Value) (ys : List MC) (w : World) (hn : ys.length ≤ 1048576) (h : Rd w 2 s ys.length (ys.flatMap MC.cells)) (h' : Rd w 2 s' ys.length (ys.flatMap MC.cells)) :
    Calls Tryz.prog 36 #[s, s'] w fun e w' => e = .returned (.bool true) ∧ Below w.heap.size w w' := by
  have H1 : Hid (Rd w 2 s ys.length (ys.flatMap MC.cells)) := h
  have H2 : Hid (Rd w 2 s' ys.length (ys.flatMap MC.cells)) := h'
  obtain ⟨a1, c1, rfl⟩ := h.is_slice
  obtain ⟨a2, c2, rfl⟩ := h'.is_slice
  clear h h'
  generalize hLL : ys.length = n at hn H1 H2
  have HL : Hid (ys.length = n) := hLL
  clear hLL
  go_enter Tryz.func36, Tryz.ntmps36
  go_wp2
  go_loopw [5] (fun i wr => ∃ k : Nat, k ≤ n ∧ i = .int .i64 k ∧ Below w.heap.size w wr) (fun i _ => n - (intOf i).toNat)
  case atStart => exact ⟨0, by omega, rfl, Below.refl _ _⟩
  case round =>
    obtain ⟨k, hk, rfl, hbel⟩ := hrel
    have HB : Hid (Below w.heap.size w wr) := hbel
    clear hbel
    by_cases hlt : k < n
    · obtain ⟨x, hx⟩ : ∃ x, ys[k]? = some x := ⟨_, List.getElem?_eq_getElem (by rw [HL.out]; exact hlt)⟩
      rcases H1.out.2 with ⟨e0, _⟩ | ⟨g, o, c, e1, hc1⟩
      · omega
      · rcases H2.out.2 with ⟨e0, _⟩ | ⟨g', o', c', e2, hc2⟩
        · omega
        · simp only [Value.slice.injEq, true_and] at e1 e2
          obtain ⟨rfl, rfl⟩ := e1
          obtain ⟨rfl, rfl⟩ := e2
          have i0 := Rd.elem MC.cells_length hc1 k x hx 0 _ rfl
          have i1 := Rd.elem MC.cells_length hc1 k x hx 1 _ rfl
          have j0 := Rd.elem MC.cells_length hc2 k x hx 0 _ rfl
          have j1 := Rd.elem MC.cells_length hc2 k x hx 1 _ rfl
          rw [← HB.out.cell (block_lt_of_cell i0), Nat.add_zero] at i0
          rw [← HB.out.cell (block_lt_of_cell i1)] at i1
          rw [← HB.out.cell (block_lt_of_cell j0), Nat.add_zero] at j0
          rw [← HB.out.cell (block_lt_of_cell j1)] at j1
          clear hc1 hc2 hx
          go_wp2_with fail
          go_region_with (go_at_call 68; refine (eqValue_same x _).mono ?_; rintro e u ⟨rfl, hbu⟩)
          all_goals
            have HB2 : Hid (Below w.heap.size w u) := HB.out.trans (below_drew_trans hbu HB.out.size)
            clear hbu HB i0 i1 j0 j1
            go_wp2
            go_roundw
            case rel => exact ⟨k + 1, by omega, by go_num, HB2.out⟩
            case measure => simp [intOf]; omega
    · go_wp2
      go_ret
      exact ⟨rfl, HB.out⟩
end Go.Proofs.YtkpajiahpmdobaaGreat
/- St2: lists of lists of values: toValueSS, eqValueSS, szValueSS. -/
namespace Go.Proofs.YtkpajiahpmdobaaGreat
open Go.ChangeShapes Go.WideShapes Go.ChangeAt Go.RowKit
set_option linter.unusedVariables false
theorem infoVV : (Tryz.prog.info? 34).map (fun i => (i.zero, i.size, i.bytes)) = some (some (.slice none 0 0), 1, 24) := by kernel_rfl
def vCells (x : List MC × Value) : List Value := [x.2]
theorem vCells_length (x : List MC × Value) : (vCells x).length = 1 := rfl
def RdVV (w : World) (s : Value) (rs : List (List MC)) : Prop := ∃ xs : List (List MC × Value), xs.map Prod.fst = rs ∧ Rd w 1 s rs.length (xs.flatMap vCells) ∧ ∀ x ∈ xs, Rd w 2 x.2 x.1.length (x.1.flatMap MC.cells)
def OwnVV (w : World) (base : Nat) (s : Value) (rs : List (List MC)) : Prop := ∃ xs : List (List MC × Value), xs.map Prod.fst = rs ∧ w.ownsRow base 34 1 s rs.length (xs.flatMap vCells) ∧ ∀ x ∈ xs, w.ownsRow base 102 2 x.2 x.1.length (x.1.flatMap MC.cells)
theorem OwnVV.rd {w : World} {base : Nat} {s : Value} {rs : List (List MC)} (h : OwnVV w base s rs) : RdVV w s rs := by
  obtain ⟨xs, h1, h2, h3⟩ := h
  exact ⟨xs, h1, Rd.of_own h2, fun x hx => Rd.of_own (h3 x hx)⟩
theorem RdVV.keep {w w' : World} {s : Value} {rs : List (List MC)} (h : RdVV w s rs) {B : Nat} (hb : Below B w w') (hB : w.heap.size ≤ B) : RdVV w' s rs := by
  obtain ⟨xs, h1, h2, h3⟩ := h
  exact ⟨xs, h1, h2.keep hb hB, fun x hx => (h3 x hx).keep hb hB⟩
theorem OwnVV.keep {w w' : World} {base : Nat} {s : Value} {rs : List (List MC)} (h : OwnVV w base s rs) {B : Nat} (hb : Below B w w') (hB : w.heap.size ≤ B) : OwnVV w' base s rs := by
  obtain ⟨xs, h1, h2, h3⟩ := h
  exact ⟨xs, h1, own_keep h2 hb hB, fun x hx => own_keep (h3 x hx) hb hB⟩
theorem OwnVV.base {w : World} {base base' : Nat} {s : Value} {rs : List (List MC)} (h : OwnVV w base s rs) (hb : base' ≤ base) : OwnVV w base' s rs := by
  obtain ⟨xs, h1, h2, h3⟩ := h
  exact ⟨xs, h1, own_base h2 hb, fun x hx => own_base (h3 x hx) hb⟩
theorem OwnVV.below {w : World} {base : Nat} {s : Value} {rs : List (List MC)} (h : OwnVV w base s rs) {a : Addr} (ha : a.block < base) (u : Value) : OwnVV (w.setCell a u) base s rs := by
  obtain ⟨xs, h1, h2, h3⟩ := h
  exact ⟨xs, h1, ownsRow_setCell_below h2 ha u, fun x hx => ownsRow_setCell_below (h3 x hx) ha u⟩
/-- Where the copying of lists stands. -/
structure VSt (w wr : World) (fs : List (List MC)) (L k : Nat) (ys : List (List MC × Value)) : Prop where
  fst : ys.map Prod.fst = fs.take k
  len : ys.length = k
  row : wr.ownsRow w.heap.size 34 1 (.slice (some ⟨w.heap.size, 0, none⟩) L L) L (newTo vCells [.slice none 0 0] ys L)
  els : ∀ y ∈ ys, wr.ownsRow (w.heap.size + 1) 102 2 y.2 y.1.length (y.1.flatMap MC.cells)
  bel : Below w.heap.size w wr
  siz : w.heap.size + 1 ≤ wr.heap.size
theorem VSt.places {w wr : World} {fs : List (List MC)} {L k : Nat} {ys : List (List MC × Value)} (h : VSt w wr fs L k ys) (hk : k < L) {u : World} (hb : Below wr.heap.size wr u) :
    u.cell? ⟨w.heap.size, k, none⟩ = some (.slice none 0 0) ∧ u.frozen? ⟨w.heap.size, k, none⟩ = false := by
  have hown := own_keep h.row hb (Nat.le_refl _)
  rw [newTo_parts vCells _ ys k L hk h.len] at hown
  have hA : (ys.flatMap vCells).length = k := by rw [flat_length vCells 1 vCells_length, h.len, Nat.mul_one]
  have d0 := hown.cellAt k (by omega)
  rw [List.getElem?_append_right (by omega), hA] at d0
  rw [Nat.sub_self] at d0
  exact ⟨d0, hown.frozenAt _⟩
theorem VSt.next {w wr : World} {fs : List (List MC)} {L k : Nat} {ys : List (List MC × Value)} (h : VSt w wr fs L k ys) (hk : k < L) {u : World} (hb : Below wr.heap.size wr u) {f : List MC} (hf : fs[k]? = some f) {v : Value} (ho : u.ownsRow wr.heap.size 102 2 v f.length (f.flatMap MC.cells)) :
    VSt w (u.setCell ⟨w.heap.size, k, none⟩ v) fs L (k + 1) (ys ++ [(f, v)]) := by
  have hown := own_keep h.row hb (Nat.le_refl _)
  rw [newTo_parts vCells _ ys k L hk h.len] at hown
  have hA : (ys.flatMap vCells).length = k := by rw [flat_length vCells 1 vCells_length, h.len, Nat.mul_one]
  have s0 := (hown.stored k v).1
  rw [set1 _ _ _ _ k hA] at s0
  refine ⟨fst_next h.fst hf v, by simp [h.len], ?_, ?_, ?_, ?_⟩
  · rw [newTo_next vCells _ ys k L (f, v) h.len]
    exact s0
  · intro y hy
    have hy' : u.ownsRow (w.heap.size + 1) 102 2 y.2 y.1.length (y.1.flatMap MC.cells) := by
      rcases List.mem_append.1 hy with hy | hy
      · exact own_keep (h.els y hy) hb (Nat.le_refl _)
      · simp only [List.mem_singleton] at hy
        subst hy
        exact own_base ho h.siz
    exact ownsRow_setCell_below hy' (by simp) _
  · exact (h.bel.trans (hb.mono (by have := h.siz; omega))).setCell (Nat.le_refl _) _
  · have := hb.size
    have := h.siz
    simp
    omega
set_option maxHeartbeats 2000000 in
set_option maxRecDepth 100000 in
theorem eqValueSS_same (s s' : Value) (fs : List (List MC)) (w : World) (hL : fs.length ≤ 1048576) (hs : ∀ f ∈ fs, f.length ≤ 1048576) (h : RdVV w s fs) (h' : RdVV w s' fs) :
    Calls Tryz.prog 35 #[s, s'] w fun e w' => e = .returned (.bool true) ∧ Below w.heap.size w w' := by
  obtain ⟨xs, hxs, hrd, hel⟩ := h
  obtain ⟨xs', hxs', hrd', hel'⟩ := h'
  have hxl : xs.length = fs.length := by rw [← hxs]; simp
  have hxl' : xs'.length = fs.length := by rw [← hxs']; simp
  have H1 : Hid (Rd w 1 s fs.length (xs.flatMap vCells) ∧ xs.map Prod.fst = fs ∧ (∀ x ∈ xs, Rd w 2 x.2 x.1.length (x.1.flatMap MC.cells)) ∧ (∀ f ∈ fs, f.length ≤ 1048576) ∧ xs.length = fs.length) := ⟨hrd, hxs, hel, hs, hxl⟩
  have H2 : Hid (Rd w 1 s' fs.length (xs'.flatMap vCells) ∧ xs'.map Prod.fst = fs ∧ (∀ x ∈ xs', Rd w 2 x.2 x.1.length (x.1.flatMap MC.cells)) ∧ (∀ f ∈ fs, f.length ≤ 1048576) ∧ xs'.length = fs.length) := ⟨hrd', hxs', hel', hs, hxl'⟩
  obtain ⟨a1, c1, rfl⟩ := hrd.is_slice
  obtain ⟨a2, c2, rfl⟩ := hrd'.is_slice
  clear hrd hxs hel hs hxl hrd' hxs' hel' hxl'
  generalize hLL : fs.length = n at hL H1 H2
  clear hLL
  go_enter Tryz.func35, Tryz.ntmps35
  go_wp2
  go_loopw [5] (fun i wr => ∃ k : Nat, k ≤ n ∧ i = .int .i64 k ∧ Below w.heap.size w wr) (fun i _ => n - (intOf i).toNat)
  case atStart => exact ⟨0, by omega, rfl, Below.refl _ _⟩
  case round =>
    obtain ⟨k, hk, rfl, hbel⟩ := hrel
    have HB : Hid (Below w.heap.size w wr) := hbel
    clear hbel
    by_cases hlt : k < n
    · obtain ⟨⟨f, v⟩, hx⟩ : ∃ x, xs[k]? = some x := ⟨_, List.getElem?_eq_getElem (by rw [H1.out.2.2.2.2]; exact hlt)⟩
      obtain ⟨⟨f', v'⟩, hx'⟩ : ∃ x, xs'[k]? = some x := ⟨_, List.getElem?_eq_getElem (by rw [H2.out.2.2.2.2]; exact hlt)⟩
      have e1 := fst_at H1.out.2.1 hx
      have e2 := fst_at H2.out.2.1 hx'
      have hff : f' = f := by
        rw [e1] at e2
        exact (Option.some.inj e2).symm
      subst hff
      have HX : Hid (Rd wr 2 v f'.length (f'.flatMap MC.cells) ∧ Rd wr 2 v' f'.length (f'.flatMap MC.cells) ∧ f'.length ≤ 1048576) := ⟨(H1.out.2.2.1 _ (List.mem_of_getElem? hx)).keep HB.out (Nat.le_refl _), (H2.out.2.2.1 _ (List.mem_of_getElem? hx')).keep HB.out (Nat.le_refl _), Nat.le_trans (H1.out.2.2.2.1 _ (List.mem_of_getElem? e1)) (by omega)⟩
      clear e1 e2
      rcases H1.out.1.2 with ⟨e0, _⟩ | ⟨g, o, c, e1, hc1⟩
      · omega
      · rcases H2.out.1.2 with ⟨e0, _⟩ | ⟨g', o', c', e2, hc2⟩
        · omega
        · simp only [Value.slice.injEq, true_and] at e1 e2
          obtain ⟨rfl, rfl⟩ := e1
          obtain ⟨rfl, rfl⟩ := e2
          have i0 := Rd.elem vCells_length hc1 k _ hx 0 _ rfl
          have j0 := Rd.elem vCells_length hc2 k _ hx' 0 _ rfl
          rw [← HB.out.cell (block_lt_of_cell i0)] at i0
          rw [← HB.out.cell (block_lt_of_cell j0)] at j0
          rw [Nat.mul_one, Nat.add_zero] at i0 j0
          clear hc1 hc2 hx hx'
          simp only [] at i0 j0
          go_wp2_with fail
          go_region_with (go_at_call 36; refine (eqValueS_same v v' f' _ HX.out.2.2 (by exact HX.out.1) (by exact HX.out.2.1)).mono ?_; rintro e u ⟨rfl, hbu⟩)
          all_goals
            have HB2 : Hid (Below w.heap.size w u) := HB.out.trans (below_drew_trans hbu HB.out.size)
            clear hbu HB i0 j0
            go_wp2
            go_roundw
            case rel => exact ⟨k + 1, by omega, by go_num, HB2.out⟩
            case measure => simp [intOf]; omega
    · go_wp2
      go_ret
      exact ⟨rfl, HB.out⟩

end Go.Proofs.YtkpajiahpmdobaaGreat
/- St3: frames: toFrame, toFrameS. -/
namespace Go.Proofs.YtkpajiahpmdobaaGreat
open Go.ChangeShapes Go.WideShapes Go.ChangeAt Go.RowKit
set_option linter.unusedVariables false
/-- A frame. -/
structure MG where
  func : Int
  at_ : Int
  base : Int
  locals : List MC
def RdG (w : World) (v : Value) (f : MG) : Prop := Rd w 2 v f.locals.length (f.locals.flatMap MC.cells)
def OwnG (w : World) (base : Nat) (v : Value) (f : MG) : Prop := w.ownsRow base 102 2 v f.locals.length (f.locals.flatMap MC.cells)
def MG.small (f : MG) : Prop := f.locals.length ≤ 1048576
def MG.fits (f : MG) : Prop := f.locals.length ≤ 9223372036854775807
theorem OwnG.rd {w : World} {base : Nat} {v : Value} {f : MG} (h : OwnG w base v f) : RdG w v f := Rd.of_own h
theorem RdG.keep {w w' : World} {v : Value} {f : MG} (h : RdG w v f) {B : Nat} (hb : Below B w w') (hB : w.heap.size ≤ B) : RdG w' v f := Rd.keep h hb hB
theorem OwnG.keep {w w' : World} {base : Nat} {v : Value} {f : MG} (h : OwnG w base v f) {B : Nat} (hb : Below B w w') (hB : w.heap.size ≤ B) : OwnG w' base v f := own_keep h hb hB
theorem OwnG.base {w : World} {base base' : Nat} {v : Value} {f : MG} (h : OwnG w base v f) (hb : base' ≤ base) : OwnG w base' v f := own_base h hb
theorem OwnG.below {w : World} {base : Nat} {v : Value} {f : MG} (h : OwnG w base v f) {a : Addr} (ha : a.block < base) (u : Value) : OwnG (w.setCell a u) base v f := ownsRow_setCell_below h ha u
/-- The cells of a frame in its row. -/
def gCells (x : MG × Value) : List Value := [.int .i64 x.1.func, .int .i64 x.1.at_, .int .i64 x.1.base, x.2]
theorem gCells_length (x : MG × Value) : (gCells x).length = 4 := rfl
/-- A list of frames. -/
def RdGs (w : World) (s : Value) (fs : List MG) : Prop := ∃ xs : List (MG × Value), xs.map Prod.fst = fs ∧ Rd w 4 s fs.length (xs.flatMap gCells) ∧ ∀ x ∈ xs, RdG w x.2 x.1
def OwnGs (w : World) (base : Nat) (s : Value) (fs : List MG) : Prop := ∃ xs : List (MG × Value), xs.map Prod.fst = fs ∧ w.ownsRow base 63 4 s fs.length (xs.flatMap gCells) ∧ ∀ x ∈ xs, OwnG w base x.2 x.1
theorem OwnGs.rd {w : World} {base : Nat} {s : Value} {fs : List MG} (h : OwnGs w base s fs) : RdGs w s fs := by
  obtain ⟨xs, h1, h2, h3⟩ := h
  exact ⟨xs, h1, Rd.of_own h2, fun x hx => (h3 x hx).rd⟩
theorem RdGs.keep {w w' : World} {s : Value} {fs : List MG} (h : RdGs w s fs) {B : Nat} (hb : Below B w w') (hB : w.heap.size ≤ B) : RdGs w' s fs := by
  obtain ⟨xs, h1, h2, h3⟩ := h
  exact ⟨xs, h1, h2.keep hb hB, fun x hx => (h3 x hx).keep hb hB⟩
theorem OwnGs.keep {w w' : World} {base : Nat} {s : Value} {fs : List MG} (h : OwnGs w base s fs) {B : Nat} (hb : Below B w w') (hB : w.heap.size ≤ B) : OwnGs w' base s fs := by
  obtain ⟨xs, h1, h2, h3⟩ := h
  exact ⟨xs, h1, own_keep h2 hb hB, fun x hx => (h3 x hx).keep hb hB⟩
theorem OwnGs.base {w : World} {base base' : Nat} {s : Value} {fs : List MG} (h : OwnGs w base s fs) (hb : base' ≤ base) : OwnGs w base' s fs := by
  obtain ⟨xs, h1, h2, h3⟩ := h
  exact ⟨xs, h1, own_base h2 hb, fun x hx => (h3 x hx).base hb⟩
theorem OwnGs.below {w : World} {base : Nat} {s : Value} {fs : List MG} (h : OwnGs w base s fs) {a : Addr} (ha : a.block < base) (u : Value) : OwnGs (w.setCell a u) base s fs := by
  obtain ⟨xs, h1, h2, h3⟩ := h
  exact ⟨xs, h1, ownsRow_setCell_below h2 ha u, fun x hx => (h3 x hx).below ha u⟩
theorem infoG : (Tryz.prog.info? 63).map (fun i => (i.zero, i.size, i.bytes)) = some (some (.agg #[.int .i64 0, .int .i64 0, .int .i64 0, .slice none 0 0]), 4, 48) := by kernel_rfl
theorem gfst_next {fs : List MG} {ys : List (MG × Value)} {k : Nat} {f : MG} (h : ys.map Prod.fst = fs.take k) (hf : fs[k]? = some f) (v : Value) : (ys ++ [(f, v)]).map Prod.fst = fs.take (k + 1) := by
  obtain ⟨hlt, rfl⟩ := List.getElem?_eq_some_iff.1 hf
  rw [List.map_append, h, List.take_succ_eq_append_getElem hlt]
  rfl
/-- Where the copying of frames stands. -/
structure GSt (w wr : World) (fs : List MG) (L k : Nat) (ys : List (MG × Value)) : Prop where
  fst : ys.map Prod.fst = fs.take k
  len : ys.length = k
  row : wr.ownsRow w.heap.size 63 4 (.slice (some ⟨w.heap.size, 0, none⟩) L L) L (newTo gCells [.int .i64 0, .int .i64 0, .int .i64 0, .slice none 0 0] ys L)
  els : ∀ y ∈ ys, OwnG wr (w.heap.size + 1) y.2 y.1
  bel : Below w.heap.size w wr
  siz : w.heap.size + 1 ≤ wr.heap.size
theorem GSt.places {w wr : World} {fs : List MG} {L k : Nat} {ys : List (MG × Value)} (h : GSt w wr fs L k ys) (hk : k < L) {u : World} (hb : Below wr.heap.size wr u) :
    u.cell? ⟨w.heap.size, k * 4, none⟩ = some (.int .i64 0) ∧ u.cell? ⟨w.heap.size, k * 4 + 1, none⟩ = some (.int .i64 0) ∧ u.cell? ⟨w.heap.size, k * 4 + 2, none⟩ = some (.int .i64 0) ∧ u.cell? ⟨w.heap.size, k * 4 + 3, none⟩ = some (.slice none 0 0) ∧ u.frozen? ⟨w.heap.size, k * 4, none⟩ = false ∧ u.frozen? ⟨w.heap.size, k * 4 + 1, none⟩ = false ∧ u.frozen? ⟨w.heap.size, k * 4 + 2, none⟩ = false ∧ u.frozen? ⟨w.heap.size, k * 4 + 3, none⟩ = false := by
  have hown := own_keep h.row hb (Nat.le_refl _)
  rw [newTo_parts gCells _ ys k L hk h.len] at hown
  have hA : (ys.flatMap gCells).length = k * 4 := by rw [flat_length gCells 4 gCells_length, h.len]
  have d0 := hown.cellAt (k * 4) (by omega)
  have d1 := hown.cellAt (k * 4 + 1) (by omega)
  have d2 := hown.cellAt (k * 4 + 2) (by omega)
  have d3 := hown.cellAt (k * 4 + 3) (by omega)
  rw [List.getElem?_append_right (by omega), hA] at d0 d1 d2 d3
  rw [Nat.sub_self] at d0
  rw [Nat.add_sub_cancel_left] at d1 d2 d3
  exact ⟨d0, d1, d2, d3, hown.frozenAt _, hown.frozenAt _, hown.frozenAt _, hown.frozenAt _⟩
theorem GSt.next {w wr : World} {fs : List MG} {L k : Nat} {ys : List (MG × Value)} (h : GSt w wr fs L k ys) (hk : k < L) {u : World} (hb : Below wr.heap.size wr u) {f : MG} (hf : fs[k]? = some f) {v : Value} (ho : OwnG u wr.heap.size v f) :
    GSt w ((((u.setCell ⟨w.heap.size, k * 4, none⟩ (.int .i64 f.func)).setCell ⟨w.heap.size, k * 4 + 1, none⟩ (.int .i64 f.at_)).setCell ⟨w.heap.size, k * 4 + 2, none⟩ (.int .i64 f.base)).setCell ⟨w.heap.size, k * 4 + 3, none⟩ v) fs L (k + 1) (ys ++ [(f, v)]) := by
  have hown := own_keep h.row hb (Nat.le_refl _)
  rw [newTo_parts gCells _ ys k L hk h.len] at hown
  have hA : (ys.flatMap gCells).length = k * 4 := by rw [flat_length gCells 4 gCells_length, h.len]
  have s0 := (hown.stored (k * 4) (.int .i64 f.func)).1
  have s1 := (s0.stored (k * 4 + 1) (.int .i64 f.at_)).1
  have s2 := (s1.stored (k * 4 + 2) (.int .i64 f.base)).1
  have s3 := (s2.stored (k * 4 + 3) v).1
  rw [set4 _ _ _ _ _ _ _ _ _ _ (k * 4) hA] at s3
  refine ⟨gfst_next h.fst hf v, by simp [h.len], ?_, ?_, ?_, ?_⟩
  · rw [newTo_next gCells _ ys k L (f, v) h.len]
    exact s3
  · intro y hy
    have hy' : OwnG u (w.heap.size + 1) y.2 y.1 := by
      rcases List.mem_append.1 hy with hy | hy
      · exact (h.els y hy).keep hb (Nat.le_refl _)
      · simp only [List.mem_singleton] at hy
        subst hy
        exact ho.base h.siz
    exact (((hy'.below (by simp) _).below (by simp) _).below (by simp) _).below (by simp) _
  · exact ((((h.bel.trans (hb.mono (by have := h.siz; omega))).setCell (Nat.le_refl _) _).setCell (Nat.le_refl _) _).setCell (Nat.le_refl _) _).setCell (Nat.le_refl _) _
  · have := hb.size
    have := h.siz
    simp
    omega

end Go.Proofs.YtkpajiahpmdobaaGreat
/- St4: frames: eqFrame, eqFrameS, szFrame, szFrameS. -/
namespace Go.Proofs.YtkpajiahpmdobaaGreat
open Go.ChangeShapes Go.WideShapes Go.ChangeAt Go.RowKit
set_option linter.unusedVariables false
set_option maxHeartbeats 2000000 in
set_option maxRecDepth 100000 in
theorem eqFrame_same (v v' : Value) (f : MG) (w : World) (hs : f.small) (h : RdG w v f) (h' : RdG w v' f) :
    Calls Tryz.prog 69 #[.agg #[.int .i64 f.func, .int .i64 f.at_, .int .i64 f.base, v], .agg #[.int .i64 f.func, .int .i64 f.at_, .int .i64 f.base, v']] w fun e w' => e = .returned (.bool true) ∧ Below w.heap.size w w' := by
  have F0 := Fr2.of w 63 #[.int .i64 f.func, .int .i64 f.at_, .int .i64 f.base, v] #[.int .i64 f.func, .int .i64 f.at_, .int .i64 f.base, v'] rfl rfl
  have H : Hid (RdG w v f ∧ RdG w v' f ∧ f.small) := ⟨h, h', hs⟩
  clear h h' hs
  go_enter Tryz.func69, Tryz.ntmps69
  go_wp2_with fail
  refine (eqValueS_same v v' f.locals _ H.out.2.2 (H.out.1.keep F0.bel (Nat.le_refl _)) (H.out.2.1.keep F0.bel (Nat.le_refl _))).mono ?_
  rintro e u1 ⟨rfl, b1⟩
  have F1 := F0.keep b1
  clear b1 F0
  go_wp2
  go_ret
  exact ⟨rfl, F1.bel⟩
set_option maxHeartbeats 2000000 in
set_option maxRecDepth 100000 in
theorem eqFrameS_same (s s' : Value) (fs : List MG) (w : World) (hL : fs.length ≤ 1048576) (hs : ∀ f ∈ fs, f.small) (h : RdGs w s fs) (h' : RdGs w s' fs) :
    Calls Tryz.prog 37 #[s, s'] w fun e w' => e = .returned (.bool true) ∧ Below w.heap.size w w' := by
  obtain ⟨xs, hxs, hrd, hel⟩ := h
  obtain ⟨xs', hxs', hrd', hel'⟩ := h'
  have hxl : xs.length = fs.length := by rw [← hxs]; simp
  have hxl' : xs'.length = fs.length := by rw [← hxs']; simp
  have H1 : Hid (Rd w 4 s fs.length (xs.flatMap gCells) ∧ xs.map Prod.fst = fs ∧ (∀ x ∈ xs, RdG w x.2 x.1) ∧ (∀ f ∈ fs, f.small) ∧ xs.length = fs.length) := ⟨hrd, hxs, hel, hs, hxl⟩
  have H2 : Hid (Rd w 4 s' fs.length (xs'.flatMap gCells) ∧ xs'.map Prod.fst = fs ∧ (∀ x ∈ xs', RdG w x.2 x.1) ∧ (∀ f ∈ fs, f.small) ∧ xs'.length = fs.length) := ⟨hrd', hxs', hel', hs, hxl'⟩
  obtain ⟨a1, c1, rfl⟩ := hrd.is_slice
  obtain ⟨a2, c2, rfl⟩ := hrd'.is_slice
  clear hrd hxs hel hs hxl hrd' hxs' hel' hxl'
  generalize hLL : fs.length = n at hL H1 H2
  clear hLL
  go_enter Tryz.func37, Tryz.ntmps37
  go_wp2
  go_loopw [5] (fun i wr => ∃ k : Nat, k ≤ n ∧ i = .int .i64 k ∧ Below w.heap.size w wr) (fun i _ => n - (intOf i).toNat)
  case atStart => exact ⟨0, by omega, rfl, Below.refl _ _⟩
  case round =>
    obtain ⟨k, hk, rfl, hbel⟩ := hrel
    have HB : Hid (Below w.heap.size w wr) := hbel
    clear hbel
    by_cases hlt : k < n
    · obtain ⟨⟨f, v⟩, hx⟩ : ∃ x, xs[k]? = some x := ⟨_, List.getElem?_eq_getElem (by rw [H1.out.2.2.2.2]; exact hlt)⟩
      obtain ⟨⟨f', v'⟩, hx'⟩ : ∃ x, xs'[k]? = some x := ⟨_, List.getElem?_eq_getElem (by rw [H2.out.2.2.2.2]; exact hlt)⟩
      have e1 := fst_at H1.out.2.1 hx
      have e2 := fst_at H2.out.2.1 hx'
      have hff : f' = f := by
        rw [e1] at e2
        exact (Option.some.inj e2).symm
      subst hff
      have HX : Hid (RdG wr v f' ∧ RdG wr v' f' ∧ f'.small) := ⟨(H1.out.2.2.1 _ (List.mem_of_getElem? hx)).keep HB.out (Nat.le_refl _), (H2.out.2.2.1 _ (List.mem_of_getElem? hx')).keep HB.out (Nat.le_refl _), H1.out.2.2.2.1 _ (List.mem_of_getElem? e1)⟩
      clear e1 e2
      rcases H1.out.1.2 with ⟨e0, _⟩ | ⟨g, o, c, e1, hc1⟩
      · omega
      · rcases H2.out.1.2 with ⟨e0, _⟩ | ⟨g', o', c', e2, hc2⟩
        · omega
        · simp only [Value.slice.injEq, true_and] at e1 e2
          obtain ⟨rfl, rfl⟩ := e1
          obtain ⟨rfl, rfl⟩ := e2
          have i0 := Rd.elem gCells_length hc1 k _ hx 0 _ rfl
          have i1 := Rd.elem gCells_length hc1 k _ hx 1 _ rfl
          have i2 := Rd.elem gCells_length hc1 k _ hx 2 _ rfl
          have i3 := Rd.elem gCells_length hc1 k _ hx 3 _ rfl
          have j0 := Rd.elem gCells_length hc2 k _ hx' 0 _ rfl
          have j1 := Rd.elem gCells_length hc2 k _ hx' 1 _ rfl
          have j2 := Rd.elem gCells_length hc2 k _ hx' 2 _ rfl
          have j3 := Rd.elem gCells_length hc2 k _ hx' 3 _ rfl
          rw [← HB.out.cell (block_lt_of_cell i0), Nat.add_zero] at i0
          rw [← HB.out.cell (block_lt_of_cell i1)] at i1
          rw [← HB.out.cell (block_lt_of_cell i2)] at i2
          rw [← HB.out.cell (block_lt_of_cell i3)] at i3
          rw [← HB.out.cell (block_lt_of_cell j0), Nat.add_zero] at j0
          rw [← HB.out.cell (block_lt_of_cell j1)] at j1
          rw [← HB.out.cell (block_lt_of_cell j2)] at j2
          rw [← HB.out.cell (block_lt_of_cell j3)] at j3
          clear hc1 hc2 hx hx'
          simp only [] at i0 i1 i2 i3 j0 j1 j2 j3
          go_wp2_with fail
          go_region_with (go_at_call 69; refine (eqFrame_same v v' f' _ HX.out.2.2 (by exact HX.out.1) (by exact HX.out.2.1)).mono ?_; rintro e u ⟨rfl, hbu⟩)
          all_goals
            have HB2 : Hid (Below w.heap.size w u) := HB.out.trans (below_drew_trans hbu HB.out.size)
            clear hbu HB i0 i1 i2 i3 j0 j1 j2 j3
            go_wp2
            go_roundw
            case rel => exact ⟨k + 1, by omega, by go_num, HB2.out⟩
            case measure => simp [intOf]; omega
    · go_wp2
      go_ret
      exact ⟨rfl, HB.out⟩
end Go.Proofs.YtkpajiahpmdobaaGreat
/- St5: a state: toState, eqState, szState, one that came in. -/
namespace Go.Proofs.YtkpajiahpmdobaaGreat
open Go.ChangeShapes Go.WideShapes Go.ChangeAt Go.RowKit
set_option linter.unusedVariables false
/-- A state. -/
structure MS where
  trap : Int
  done : Bool
  cost : Int
  steps : Int
  cells : List (List MC)
  stack : List MC
  frames : List MG
/-- Its three lists, as values. -/
structure VS where
  c : Value
  k : Value
  f : Value
structure RdS (w : World) (v : VS) (s : MS) : Prop where
  cells : RdVV w v.c s.cells
  stack : Rd w 2 v.k s.stack.length (s.stack.flatMap MC.cells)
  frames : RdGs w v.f s.frames
structure OwnS (w : World) (base : Nat) (v : VS) (s : MS) : Prop where
  cells : OwnVV w base v.c s.cells
  stack : w.ownsRow base 102 2 v.k s.stack.length (s.stack.flatMap MC.cells)
  frames : OwnGs w base v.f s.frames
structure MS.small (s : MS) : Prop where
  cells : s.cells.length ≤ 1048576
  cell : ∀ r ∈ s.cells, r.length ≤ 1048576
  stack : s.stack.length ≤ 1048576
  frames : s.frames.length ≤ 1048576
  frame : ∀ f ∈ s.frames, f.small
structure MS.fits (s : MS) : Prop where
  cells : s.cells.length ≤ 9223372036854775807
  cell : ∀ r ∈ s.cells, r.length ≤ 9223372036854775807
  stack : s.stack.length ≤ 9223372036854775807
  frames : s.frames.length ≤ 9223372036854775807
  frame : ∀ f ∈ s.frames, f.fits
structure MG.wf (f : MG) : Prop where
  func : W64 f.func
  at_ : W64 f.at_
  base : W64 f.base
  locals : ∀ x ∈ f.locals, x.wf
structure MS.wf (s : MS) : Prop where
  trap : W64 s.trap
  cost : W64 s.cost
  steps : W64 s.steps
  cells : ∀ r ∈ s.cells, ∀ x ∈ r, x.wf
  stack : ∀ x ∈ s.stack, x.wf
  frames : ∀ f ∈ s.frames, f.wf
theorem OwnS.rd {w : World} {base : Nat} {v : VS} {s : MS} (h : OwnS w base v s) : RdS w v s := ⟨h.cells.rd, Rd.of_own h.stack, h.frames.rd⟩
theorem RdS.keep {w w' : World} {v : VS} {s : MS} (h : RdS w v s) {B : Nat} (hb : Below B w w') (hB : w.heap.size ≤ B) : RdS w' v s := ⟨h.cells.keep hb hB, h.stack.keep hb hB, h.frames.keep hb hB⟩
theorem OwnS.keep {w w' : World} {base : Nat} {v : VS} {s : MS} (h : OwnS w base v s) {B : Nat} (hb : Below B w w') (hB : w.heap.size ≤ B) : OwnS w' base v s := ⟨h.cells.keep hb hB, own_keep h.stack hb hB, h.frames.keep hb hB⟩
theorem OwnS.base {w : World} {base base' : Nat} {v : VS} {s : MS} (h : OwnS w base v s) (hb : base' ≤ base) : OwnS w base' v s := ⟨h.cells.base hb, own_base h.stack hb, h.frames.base hb⟩
theorem OwnS.below {w : World} {base : Nat} {v : VS} {s : MS} (h : OwnS w base v s) {a : Addr} (ha : a.block < base) (u : Value) : OwnS (w.setCell a u) base v s := ⟨h.cells.below ha u, ownsRow_setCell_below h.stack ha u, h.frames.below ha u⟩
/-- A block of seven cells. -/
theorem row7 {w : World} {base : Nat} {e : TypeId} {g : Nat} {a b c d x y z : Value} (h : w.ownsRow base e 7 (.slice (some ⟨g, 0, none⟩) 1 1) 1 [a, b, c, d, x, y, z]) :
    w.cell? ⟨g, 0, none⟩ = some a ∧ w.cell? ⟨g, 1, none⟩ = some b ∧ w.cell? ⟨g, 2, none⟩ = some c ∧ w.cell? ⟨g, 3, none⟩ = some d ∧ w.cell? ⟨g, 4, none⟩ = some x ∧ w.cell? ⟨g, 5, none⟩ = some y ∧ w.cell? ⟨g, 6, none⟩ = some z ∧ w.frozen? ⟨g, 0, none⟩ = false ∧ w.frozen? ⟨g, 1, none⟩ = false ∧ w.frozen? ⟨g, 2, none⟩ = false ∧ w.frozen? ⟨g, 3, none⟩ = false ∧ w.frozen? ⟨g, 4, none⟩ = false ∧ w.frozen? ⟨g, 5, none⟩ = false ∧ w.frozen? ⟨g, 6, none⟩ = false :=
  ⟨h.cellAt 0 (by omega), h.cellAt 1 (by omega), h.cellAt 2 (by omega), h.cellAt 3 (by omega), h.cellAt 4 (by omega), h.cellAt 5 (by omega), h.cellAt 6 (by omega), h.frozenAt 0, h.frozenAt 1, h.frozenAt 2, h.frozenAt 3, h.frozenAt 4, h.frozenAt 5, h.frozenAt 6⟩
/-- A call's two arguments of k cells. -/
structure FrK2 (k : Nat) (w u : World) (tp : TypeId) (p r : List Value) : Prop where
  par : u.ownsRow w.heap.size tp k (.slice (some ⟨w.heap.size, 0, none⟩) 1 1) 1 p
  par' : u.ownsRow w.heap.size tp k (.slice (some ⟨w.heap.size + 1, 0, none⟩) 1 1) 1 r
  bel : Below w.heap.size w u
theorem FrK2.of (k : Nat) (w : World) (tp : TypeId) (p r : Array Value) (hp : p.size = k) (hr : r.size = k) :
    FrK2 k w ((w.alloc (.cells p tp)).alloc (.cells r tp)) tp p.toList r.toList := by
  have b1 : Below w.heap.size w (w.alloc (.cells p tp)) := (Below.refl _ _).alloc (Nat.le_refl _) _
  have c2 : Below (w.alloc (.cells p tp)).heap.size (w.alloc (.cells p tp)) ((w.alloc (.cells p tp)).alloc (.cells r tp)) := (Below.refl _ _).alloc (Nat.le_refl _) _
  have r1 := World.ownsRow_lit (base := w.heap.size) (e := tp) (size := k) w p 1 (Nat.le_refl _) (by unfold maxLen; omega) (by omega)
  have r2 := World.ownsRow_lit (base := w.heap.size) (e := tp) (size := k) (w.alloc (.cells p tp)) r 1 (by simp) (by unfold maxLen; omega) (by omega)
  refine ⟨own_keep r1 c2 (Nat.le_refl _), ?_, b1.trans (c2.mono (by simp))⟩
  simpa using r2
theorem FrK2.keep {k : Nat} {w u u' : World} {tp : TypeId} {p r : List Value} (h : FrK2 k w u tp p r) (hb : Below u.heap.size u u') : FrK2 k w u' tp p r :=
  ⟨own_keep h.par hb (Nat.le_refl _), own_keep h.par' hb (Nat.le_refl _), h.bel.trans (hb.mono h.bel.size)⟩
set_option maxHeartbeats 2000000 in
set_option maxRecDepth 100000 in
theorem eqState_same (v v' : VS) (s : MS) (w : World) (hs : s.small) (h : RdS w v s) (h' : RdS w v' s) :
    Calls Tryz.prog 10 #[.agg #[.int .i64 s.trap, .bool s.done, .int .i64 s.cost, .int .i64 s.steps, v.c, v.k, v.f], .agg #[.int .i64 s.trap, .bool s.done, .int .i64 s.cost, .int .i64 s.steps, v'.c, v'.k, v'.f]] w fun e w' => e = .returned (.bool true) ∧ Below w.heap.size w w' := by
  have F0 := FrK2.of 7 w 37 #[.int .i64 s.trap, .bool s.done, .int .i64 s.cost, .int .i64 s.steps, v.c, v.k, v.f] #[.int .i64 s.trap, .bool s.done, .int .i64 s.cost, .int .i64 s.steps, v'.c, v'.k, v'.f] rfl rfl
  have H : Hid (RdS w v s ∧ RdS w v' s ∧ s.small) := ⟨h, h', hs⟩
  clear h h' hs
  go_enter Tryz.func10, Tryz.ntmps10
  go_wp2_with fail
  refine (eqValueSS_same v.c v'.c s.cells _ H.out.2.2.cells H.out.2.2.cell (H.out.1.cells.keep F0.bel (Nat.le_refl _)) (H.out.2.1.cells.keep F0.bel (Nat.le_refl _))).mono ?_
  rintro e u1 ⟨rfl, b1⟩
  have F1 := F0.keep b1
  clear b1 F0
  obtain ⟨p0, p1, p2, p3, p4, p5, p6, _⟩ := row7 F1.par
  obtain ⟨o0, o1, o2, o3, o4, o5, o6, _⟩ := row7 F1.par'
  go_wp2_with fail
  refine (eqValueS_same v.k v'.k s.stack _ H.out.2.2.stack (H.out.1.stack.keep F1.bel (Nat.le_refl _)) (H.out.2.1.stack.keep F1.bel (Nat.le_refl _))).mono ?_
  rintro e u2 ⟨rfl, b2⟩
  have F2 := F1.keep b2
  clear b2 F1 p0 p1 p2 p3 p4 p5 p6 o0 o1 o2 o3 o4 o5 o6
  obtain ⟨p0, p1, p2, p3, p4, p5, p6, _⟩ := row7 F2.par
  obtain ⟨o0, o1, o2, o3, o4, o5, o6, _⟩ := row7 F2.par'
  go_wp2_with fail
  refine (eqFrameS_same v.f v'.f s.frames _ H.out.2.2.frames H.out.2.2.frame (H.out.1.frames.keep F2.bel (Nat.le_refl _)) (H.out.2.1.frames.keep F2.bel (Nat.le_refl _))).mono ?_
  rintro e u3 ⟨rfl, b3⟩
  have F3 := F2.keep b3
  clear b3 F2 p0 p1 p2 p3 p4 p5 p6 o0 o1 o2 o3 o4 o5 o6
  go_wp2
  go_ret
  exact ⟨rfl, F3.bel⟩
end Go.Proofs.YtkpajiahpmdobaaGreat
