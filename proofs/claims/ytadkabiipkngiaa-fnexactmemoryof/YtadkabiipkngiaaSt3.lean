/- St3: frames: toFrame, toFrameS. -/
import Derived.Test.YtadkabiipkngiaaSt2
namespace Go.Proofs.Ytadkabiipkngiaa
open Go.ChangeShapes Go.WideShapes Go.ChangeAt Go.RowKit
set_option linter.unusedVariables false
/-- A frame. -/
structure MG where
  func : Int
  at_ : Int
  base : Int
  locals : List MC
def RdG (w : World) (v : Value) (f : MG) : Prop := Rd w 2 v f.locals.length (f.locals.flatMap MC.cells)
def OwnG (w : World) (base : Nat) (v : Value) (f : MG) : Prop := w.ownsRow base 104 2 v f.locals.length (f.locals.flatMap MC.cells)
def MG.small (f : MG) : Prop := f.locals.length ≤ 1048576
def MG.fits (f : MG) : Prop := f.locals.length ≤ 9223372036854775807
theorem OwnG.rd {w : World} {base : Nat} {v : Value} {f : MG} (h : OwnG w base v f) : RdG w v f := Rd.of_own h
theorem RdG.keep {w w' : World} {v : Value} {f : MG} (h : RdG w v f) {B : Nat} (hb : Below B w w') (hB : w.heap.size ≤ B) : RdG w' v f := Rd.keep h hb hB
theorem OwnG.keep {w w' : World} {base : Nat} {v : Value} {f : MG} (h : OwnG w base v f) {B : Nat} (hb : Below B w w') (hB : w.heap.size ≤ B) : OwnG w' base v f := own_keep h hb hB
theorem OwnG.base {w : World} {base base' : Nat} {v : Value} {f : MG} (h : OwnG w base v f) (hb : base' ≤ base) : OwnG w base' v f := own_base h hb
theorem OwnG.below {w : World} {base : Nat} {v : Value} {f : MG} (h : OwnG w base v f) {a : Addr} (ha : a.block < base) (u : Value) : OwnG (w.setCell a u) base v f := ownsRow_setCell_below h ha u
/-- The cells of a frame in its row. -/
def gCells (x : MG × Value) : List Value := [.int .i64 x.1.func, .int .i64 x.1.at_, .int .i64 x.1.base, x.2]
theorem gCells_length (x : MG × Value) : (gCells x).length = 4 := rfl
/-- A list of frames. -/
def RdGs (w : World) (s : Value) (fs : List MG) : Prop := ∃ xs : List (MG × Value), xs.map Prod.fst = fs ∧ Rd w 4 s fs.length (xs.flatMap gCells) ∧ ∀ x ∈ xs, RdG w x.2 x.1
def OwnGs (w : World) (base : Nat) (s : Value) (fs : List MG) : Prop := ∃ xs : List (MG × Value), xs.map Prod.fst = fs ∧ w.ownsRow base 108 4 s fs.length (xs.flatMap gCells) ∧ ∀ x ∈ xs, OwnG w base x.2 x.1
theorem OwnGs.rd {w : World} {base : Nat} {s : Value} {fs : List MG} (h : OwnGs w base s fs) : RdGs w s fs := by
  obtain ⟨xs, h1, h2, h3⟩ := h
  exact ⟨xs, h1, Rd.of_own h2, fun x hx => (h3 x hx).rd⟩
theorem RdGs.keep {w w' : World} {s : Value} {fs : List MG} (h : RdGs w s fs) {B : Nat} (hb : Below B w w') (hB : w.heap.size ≤ B) : RdGs w' s fs := by
  obtain ⟨xs, h1, h2, h3⟩ := h
  exact ⟨xs, h1, h2.keep hb hB, fun x hx => (h3 x hx).keep hb hB⟩
theorem OwnGs.keep {w w' : World} {base : Nat} {s : Value} {fs : List MG} (h : OwnGs w base s fs) {B : Nat} (hb : Below B w w') (hB : w.heap.size ≤ B) : OwnGs w' base s fs := by
  obtain ⟨xs, h1, h2, h3⟩ := h
  exact ⟨xs, h1, own_keep h2 hb hB, fun x hx => (h3 x hx).keep hb hB⟩
theorem OwnGs.base {w : World} {base base' : Nat} {s : Value} {fs : List MG} (h : OwnGs w base s fs) (hb : base' ≤ base) : OwnGs w base' s fs := by
  obtain ⟨xs, h1, h2, h3⟩ := h
  exact ⟨xs, h1, own_base h2 hb, fun x hx => (h3 x hx).base hb⟩
theorem OwnGs.below {w : World} {base : Nat} {s : Value} {fs : List MG} (h : OwnGs w base s fs) {a : Addr} (ha : a.block < base) (u : Value) : OwnGs (w.setCell a u) base s fs := by
  obtain ⟨xs, h1, h2, h3⟩ := h
  exact ⟨xs, h1, ownsRow_setCell_below h2 ha u, fun x hx => (h3 x hx).below ha u⟩
theorem infoG : (Try.prog.info? 108).map (fun i => (i.zero, i.size, i.bytes)) = some (some (.agg #[.int .i64 0, .int .i64 0, .int .i64 0, .slice none 0 0]), 4, 48) := by kernel_rfl
theorem gfst_next {fs : List MG} {ys : List (MG × Value)} {k : Nat} {f : MG} (h : ys.map Prod.fst = fs.take k) (hf : fs[k]? = some f) (v : Value) : (ys ++ [(f, v)]).map Prod.fst = fs.take (k + 1) := by
  obtain ⟨hlt, rfl⟩ := List.getElem?_eq_some_iff.1 hf
  rw [List.map_append, h, List.take_succ_eq_append_getElem hlt]
  rfl
set_option maxHeartbeats 4000000 in
set_option maxRecDepth 100000 in
theorem toFrame_any (v : Value) (f : MG) (w : World) (hs : f.small) (h : RdG w v f) :
    Calls Try.prog 59 #[.agg #[.int .i64 f.func, .int .i64 f.at_, .int .i64 f.base, v]] w fun e w' => ∃ a1 c1, e = .returned (.agg #[.int .i64 f.func, .int .i64 f.at_, .int .i64 f.base, .slice a1 f.locals.length c1]) ∧ OwnG w' w.heap.size (.slice a1 f.locals.length c1) f ∧ Below w.heap.size w w' := by
  have H : Hid (RdG w v f ∧ f.small) := ⟨h, hs⟩
  clear h hs
  have F0 := Fr.of w 101 108 #[.int .i64 f.func, .int .i64 f.at_, .int .i64 f.base, v] #[.int .i64 0, .int .i64 0, .int .i64 0, .slice none 0 0] #[.int .i64 f.func, .int .i64 f.at_, .int .i64 f.base, .slice none 0 0] rfl rfl rfl
  go_enter Try.func59, Try.ntmps59
  go_wp2_with fail
  refine (toValueS_new v f.locals _ H.out.2 (H.out.1.keep F0.bel (Nat.le_refl _))).mono ?_
  rintro e u1 ⟨a1, c1, rfl, own1, b1⟩
  have O1 : Hid (u1.ownsRow (w.heap.size + 3) 104 2 (.slice a1 f.locals.length c1) f.locals.length (f.locals.flatMap MC.cells)) := own_base own1 F0.siz
  have F5 := F0.keep b1
  clear own1 b1 F0
  obtain ⟨p0, p1, p2, p3, _⟩ := row4 F5.par
  obtain ⟨o0, o1, o2, o3, z0, z1, z2, z3⟩ := row4 F5.loc
  obtain ⟨q0, q1, q2, q3, y0, y1, y2, y3⟩ := row4 F5.res
  go_wp2_with fail
  clear p0 p1 p2 p3 o0 o1 o2 o3 z0 z1 z2 z3 q0 q1 q2 q3 y0 y1 y2 y3
  have F6 := ((((F5.set 3 (.slice a1 f.locals.length c1)).set' 0 (.int .i64 f.func)).set' 1 (.int .i64 f.at_)).set' 2 (.int .i64 f.base)).set' 3 (.slice a1 f.locals.length c1)
  simp only [List.set_cons_zero, List.set_cons_succ] at F6
  obtain ⟨q0, q1, q2, q3, _⟩ := row4 F6.res
  have hall : ∀ {e : TypeId} {s : Value} {k n : Nat} {xs : List Value}, u1.ownsRow (w.heap.size + 3) e k s n xs → (((((u1.setCell ⟨w.heap.size + 1 + 1, 3, none⟩ (.slice a1 f.locals.length c1)).setCell ⟨w.heap.size + 1, 0, none⟩ (.int .i64 f.func)).setCell ⟨w.heap.size + 1, 1, none⟩ (.int .i64 f.at_)).setCell ⟨w.heap.size + 1, 2, none⟩ (.int .i64 f.base)).setCell ⟨w.heap.size + 1, 3, none⟩ (.slice a1 f.locals.length c1)).ownsRow w.heap.size e k s n xs := fun h =>
    own_base (own_set (own_set (own_set (own_set (own_set h _ _ (by omega) _) _ _ (by omega) _) _ _ (by omega) _) _ _ (by omega) _) _ _ (by omega) _) (by omega)
  exact bodyPost_ret (v := .agg #[.int .i64 f.func, .int .i64 f.at_, .int .i64 f.base, .slice a1 f.locals.length c1]) (by simp [results, Try.results59, go_sem, q0, q1, q2, q3]) rfl ⟨a1, c1, rfl, hall O1.out, F6.bel⟩
/-- Where the copying of frames stands. -/
structure GSt (w wr : World) (fs : List MG) (L k : Nat) (ys : List (MG × Value)) : Prop where
  fst : ys.map Prod.fst = fs.take k
  len : ys.length = k
  row : wr.ownsRow w.heap.size 108 4 (.slice (some ⟨w.heap.size, 0, none⟩) L L) L (newTo gCells [.int .i64 0, .int .i64 0, .int .i64 0, .slice none 0 0] ys L)
  els : ∀ y ∈ ys, OwnG wr (w.heap.size + 1) y.2 y.1
  bel : Below w.heap.size w wr
  siz : w.heap.size + 1 ≤ wr.heap.size
theorem GSt.places {w wr : World} {fs : List MG} {L k : Nat} {ys : List (MG × Value)} (h : GSt w wr fs L k ys) (hk : k < L) {u : World} (hb : Below wr.heap.size wr u) :
    u.cell? ⟨w.heap.size, k * 4, none⟩ = some (.int .i64 0) ∧ u.cell? ⟨w.heap.size, k * 4 + 1, none⟩ = some (.int .i64 0) ∧ u.cell? ⟨w.heap.size, k * 4 + 2, none⟩ = some (.int .i64 0) ∧ u.cell? ⟨w.heap.size, k * 4 + 3, none⟩ = some (.slice none 0 0) ∧ u.frozen? ⟨w.heap.size, k * 4, none⟩ = false ∧ u.frozen? ⟨w.heap.size, k * 4 + 1, none⟩ = false ∧ u.frozen? ⟨w.heap.size, k * 4 + 2, none⟩ = false ∧ u.frozen? ⟨w.heap.size, k * 4 + 3, none⟩ = false := by
  have hown := own_keep h.row hb (Nat.le_refl _)
  rw [newTo_parts gCells _ ys k L hk h.len] at hown
  have hA : (ys.flatMap gCells).length = k * 4 := by rw [flat_length gCells 4 gCells_length, h.len]
  have d0 := hown.cellAt (k * 4) (by omega)
  have d1 := hown.cellAt (k * 4 + 1) (by omega)
  have d2 := hown.cellAt (k * 4 + 2) (by omega)
  have d3 := hown.cellAt (k * 4 + 3) (by omega)
  rw [List.getElem?_append_right (by omega), hA] at d0 d1 d2 d3
  rw [Nat.sub_self] at d0
  rw [Nat.add_sub_cancel_left] at d1 d2 d3
  exact ⟨d0, d1, d2, d3, hown.frozenAt _, hown.frozenAt _, hown.frozenAt _, hown.frozenAt _⟩
theorem GSt.next {w wr : World} {fs : List MG} {L k : Nat} {ys : List (MG × Value)} (h : GSt w wr fs L k ys) (hk : k < L) {u : World} (hb : Below wr.heap.size wr u) {f : MG} (hf : fs[k]? = some f) {v : Value} (ho : OwnG u wr.heap.size v f) :
    GSt w ((((u.setCell ⟨w.heap.size, k * 4, none⟩ (.int .i64 f.func)).setCell ⟨w.heap.size, k * 4 + 1, none⟩ (.int .i64 f.at_)).setCell ⟨w.heap.size, k * 4 + 2, none⟩ (.int .i64 f.base)).setCell ⟨w.heap.size, k * 4 + 3, none⟩ v) fs L (k + 1) (ys ++ [(f, v)]) := by
  have hown := own_keep h.row hb (Nat.le_refl _)
  rw [newTo_parts gCells _ ys k L hk h.len] at hown
  have hA : (ys.flatMap gCells).length = k * 4 := by rw [flat_length gCells 4 gCells_length, h.len]
  have s0 := (hown.stored (k * 4) (.int .i64 f.func)).1
  have s1 := (s0.stored (k * 4 + 1) (.int .i64 f.at_)).1
  have s2 := (s1.stored (k * 4 + 2) (.int .i64 f.base)).1
  have s3 := (s2.stored (k * 4 + 3) v).1
  rw [set4 _ _ _ _ _ _ _ _ _ _ (k * 4) hA] at s3
  refine ⟨gfst_next h.fst hf v, by simp [h.len], ?_, ?_, ?_, ?_⟩
  · rw [newTo_next gCells _ ys k L (f, v) h.len]
    exact s3
  · intro y hy
    have hy' : OwnG u (w.heap.size + 1) y.2 y.1 := by
      rcases List.mem_append.1 hy with hy | hy
      · exact (h.els y hy).keep hb (Nat.le_refl _)
      · simp only [List.mem_singleton] at hy
        subst hy
        exact ho.base h.siz
    exact (((hy'.below (by simp) _).below (by simp) _).below (by simp) _).below (by simp) _
  · exact ((((h.bel.trans (hb.mono (by have := h.siz; omega))).setCell (Nat.le_refl _) _).setCell (Nat.le_refl _) _).setCell (Nat.le_refl _) _).setCell (Nat.le_refl _) _
  · have := hb.size
    have := h.siz
    simp
    omega

set_option maxHeartbeats 4000000 in
set_option maxRecDepth 100000 in
theorem toFrameS_any (s : Value) (fs : List MG) (w : World) (hL : fs.length ≤ 1048576) (hs : ∀ f ∈ fs, f.small) (h : RdGs w s fs) :
    Calls Try.prog 27 #[s] w fun e w' => ∃ a c, e = .returned (.slice a fs.length c) ∧ OwnGs w' w.heap.size (.slice a fs.length c) fs ∧ Below w.heap.size w w' := by
  obtain ⟨i0, hi, hz0, hz1, hz2⟩ := info_parts infoG
  obtain ⟨xs, hxs, hrd, hel⟩ := h
  have hxl : xs.length = fs.length := by rw [← hxs]; simp
  have H1 : Hid (Rd w 4 s fs.length (xs.flatMap gCells) ∧ xs.map Prod.fst = fs ∧ (∀ x ∈ xs, RdG w x.2 x.1) ∧ (∀ f ∈ fs, f.small) ∧ xs.length = fs.length) := ⟨hrd, hxs, hel, hs, hxl⟩
  obtain ⟨a1, c1, rfl⟩ := hrd.is_slice
  clear hrd hxs hel hs hxl
  generalize hLL : fs.length = L at hL H1
  have HL : Hid (fs.length = L) := hLL
  clear hLL
  go_enter Try.func27, Try.ntmps27
  go_wp2_with (at_make; refine wpList_make_full _ rfl _ _ 34 rfl w.heap.size 108 i0 (.agg #[.int .i64 0, .int .i64 0, .int .i64 0, .slice none 0 0]) 4 Try.underlying34 hi hz0 hz1 .i64 .i64 _ _ L rfl rfl rfl rfl (by rw [hz2]; omega) (by unfold maxLen; omega) (Nat.le_refl _) ?_; intro w1 hown hgrow)
  rw [newTo_zero gCells [.int .i64 0, .int .i64 0, .int .i64 0, .slice none 0 0] L (.agg #[.int .i64 0, .int .i64 0, .int .i64 0, .slice none 0 0]) 4 rfl rfl (by omega)] at hown
  have hB : Below w.heap.size w w1 := (Below.refl _ _).grown hgrow (Nat.le_refl _) (fun k hk => by cases hk)
  have hst : GSt w w1 fs L 0 [] := ⟨by simp, rfl, hown, (fun y hy => by cases hy), hB, own_lt hown⟩
  clear hgrow hown hB
  go_loopw [4] (fun i wr => ∃ k : Nat, k ≤ L ∧ i = .int .i64 k ∧ ∃ ys, GSt w wr fs L k ys) (fun i _ => L - (intOf i).toNat)
  case atStart => exact ⟨0, by omega, rfl, _, hst⟩
  case round =>
    clear hst
    obtain ⟨k, hk, rfl, ys, hst⟩ := hrel
    by_cases hlt : k < L
    · obtain ⟨x, hx⟩ : ∃ x, xs[k]? = some x := ⟨_, List.getElem?_eq_getElem (by rw [H1.out.2.2.2.2]; exact hlt)⟩
      have hfx := fst_at H1.out.2.1 hx
      have hrx := H1.out.2.2.1 x (List.mem_of_getElem? hx)
      have hsm := H1.out.2.2.2.1 x.1 (List.mem_of_getElem? hfx)
      rcases H1.out.1.2 with ⟨e0, _⟩ | ⟨g, o, c, e1, hc1⟩
      · omega
      · simp only [Value.slice.injEq, true_and] at e1
        obtain ⟨rfl, rfl⟩ := e1
        have i0 := Rd.elem gCells_length hc1 k x hx 0 _ rfl
        have i1 := Rd.elem gCells_length hc1 k x hx 1 _ rfl
        have i2 := Rd.elem gCells_length hc1 k x hx 2 _ rfl
        have i3 := Rd.elem gCells_length hc1 k x hx 3 _ rfl
        rw [← hst.bel.cell (block_lt_of_cell i0)] at i0
        rw [← hst.bel.cell (block_lt_of_cell i1)] at i1
        rw [← hst.bel.cell (block_lt_of_cell i2)] at i2
        rw [← hst.bel.cell (block_lt_of_cell i3)] at i3
        rw [Nat.add_zero] at i0
        obtain ⟨f, v⟩ := x
        have HX : Hid (fs[k]? = some f ∧ RdG wr v f ∧ f.small) := ⟨hfx, hrx.keep hst.bel (Nat.le_refl _), hsm⟩
        clear hfx hrx hsm hx hc1
        simp only [] at i0 i1 i2 i3
        go_wp2_with fail
        refine (toFrame_any v f wr HX.out.2.2 HX.out.2.1).mono ?_
        rintro e u ⟨b1, d1, rfl, hou, hbu⟩
        obtain ⟨q0, q1, q2, q3, f0, f1, f2, f3⟩ := hst.places hlt hbu
        have HN : Hid _ := hst.next hlt hbu HX.out.1 hou
        clear hou hbu i0 i1 i2 i3 hst HX
        go_wp2
        go_roundw
        case rel => exact ⟨k + 1, by omega, by go_num, _, HN.out⟩
        case measure => simp [intOf]; omega
    · have hkn : k = L := by omega
      subst hkn
      go_wp2
      go_ret
      refine ⟨some ⟨w.heap.size, 0, none⟩, k, rfl, ⟨ys, ?_, ?_, fun y hy => (hst.els y hy).base (by omega)⟩, hst.bel⟩
      · rw [hst.fst, ← HL.out, List.take_length]
      · have hrow := hst.row
        rw [newTo_all _ _ _ _ hst.len] at hrow
        rw [HL.out]
        exact hrow

end Go.Proofs.Ytadkabiipkngiaa
