import Derived.Test.YtnemieeeappgnaaGreatDoorDc1
import Derived.OneCell
namespace Go.Proofs.YtnemieeeappgnaaGreatDoor
open Go.ChangeShapes Go.WideShapes Go.ChangeAt Go.RowKit
set_option linter.unusedVariables false
/-- An instruction. -/
structure MI where
  op : Int
  a : Int
  b : Int
  c : Int
/-- A constant. -/
structure MC where
  type : Int
  word : Int
/-- A certificate. -/
structure MT where
  func : Int
  head : Int
  counter : Int
  init : Int
def MI.cells (x : MI) : List Value := [.int .i64 x.op, .int .i64 x.a, .int .i64 x.b, .int .i64 x.c]
def MC.cells (x : MC) : List Value := [.int .i64 x.type, .int .u32 x.word]
def MT.cells (x : MT) : List Value := [.int .i64 x.func, .int .i64 x.head, .int .i64 x.counter, .int .u32 x.init]
theorem MI.cells_length (x : MI) : x.cells.length = 4 := rfl
theorem MC.cells_length (x : MC) : x.cells.length = 2 := rfl
theorem MT.cells_length (x : MT) : x.cells.length = 4 := rfl
def intCell (z : Int) : List Value := [.int .i64 z]
theorem intCell_length (z : Int) : (intCell z).length = 1 := rfl
theorem info64 : (Tryz.prog.info? 2).map (fun i => (i.zero, i.size, i.bytes)) = some (some (.int .i64 0), 1, 8) := by kernel_rfl
theorem infoI : (Tryz.prog.info? 73).map (fun i => (i.zero, i.size, i.bytes)) = some (some (.agg #[.int .i64 0, .int .i64 0, .int .i64 0, .int .i64 0]), 4, 32) := by kernel_rfl
theorem infoC : (Tryz.prog.info? 61).map (fun i => (i.zero, i.size, i.bytes)) = some (some (.agg #[.int .i64 0, .int .u32 0]), 2, 16) := by kernel_rfl
theorem infoT : (Tryz.prog.info? 67).map (fun i => (i.zero, i.size, i.bytes)) = some (some (.agg #[.int .i64 0, .int .i64 0, .int .i64 0, .int .u32 0]), 4, 32) := by kernel_rfl


end Go.Proofs.YtnemieeeappgnaaGreatDoor
namespace Go.Proofs.YtnemieeeappgnaaGreatDoor
open Go.ChangeShapes Go.WideShapes Go.ChangeAt Go.RowKit
set_option linter.unusedVariables false
end Go.Proofs.YtnemieeeappgnaaGreatDoor
namespace Go.Proofs.YtnemieeeappgnaaGreatDoor
open Go.ChangeShapes Go.WideShapes Go.ChangeAt Go.RowKit
set_option linter.unusedVariables false
/-- A function of a program. -/
structure MF where
  params : List Int
  result : Int
  locals : List Int
  code : List MI
/-- Its three lists, as values. -/
structure VF where
  p : Value
  l : Value
  c : Value
def RdF (w : World) (v : VF) (f : MF) : Prop := Rd w 1 v.p f.params.length (f.params.flatMap intCell) ∧ Rd w 1 v.l f.locals.length (f.locals.flatMap intCell) ∧ Rd w 4 v.c f.code.length (f.code.flatMap MI.cells)
def OwnF (w : World) (base : Nat) (v : VF) (f : MF) : Prop := w.ownsRow base 2 1 v.p f.params.length (f.params.flatMap intCell) ∧ w.ownsRow base 2 1 v.l f.locals.length (f.locals.flatMap intCell) ∧ w.ownsRow base 73 4 v.c f.code.length (f.code.flatMap MI.cells)
def MF.small (f : MF) : Prop := f.params.length ≤ 1048576 ∧ f.locals.length ≤ 1048576 ∧ f.code.length ≤ 1048576
theorem OwnF.rd {w : World} {base : Nat} {v : VF} {f : MF} (h : OwnF w base v f) : RdF w v f := ⟨Rd.of_own h.1, Rd.of_own h.2.1, Rd.of_own h.2.2⟩
theorem RdF.keep {w w' : World} {v : VF} {f : MF} (h : RdF w v f) {B : Nat} (hb : Below B w w') (hB : w.heap.size ≤ B) : RdF w' v f := ⟨h.1.keep hb hB, h.2.1.keep hb hB, h.2.2.keep hb hB⟩
theorem OwnF.keep {w w' : World} {base : Nat} {v : VF} {f : MF} (h : OwnF w base v f) {B : Nat} (hb : Below B w w') (hB : w.heap.size ≤ B) : OwnF w' base v f := ⟨own_keep h.1 hb hB, own_keep h.2.1 hb hB, own_keep h.2.2 hb hB⟩
theorem own_base {w : World} {base base' : Nat} {e : TypeId} {s : Value} {k n : Nat} {xs : List Value} (h : w.ownsRow base e k s n xs) (hb : base' ≤ base) : w.ownsRow base' e k s n xs := by
  refine ⟨h.1, ?_⟩
  rcases h.2 with h | ⟨g, cap, cur, e1, hb1, hg, hr⟩
  · exact .inl h
  · exact .inr ⟨g, cap, cur, e1, Nat.le_trans hb hb1, hg, hr⟩
/-- A block of four cells. -/
theorem row4 {w : World} {base : Nat} {e : TypeId} {g : Nat} {a b c d : Value} (h : w.ownsRow base e 4 (.slice (some ⟨g, 0, none⟩) 1 1) 1 [a, b, c, d]) :
    w.cell? ⟨g, 0, none⟩ = some a ∧ w.cell? ⟨g, 1, none⟩ = some b ∧ w.cell? ⟨g, 2, none⟩ = some c ∧ w.cell? ⟨g, 3, none⟩ = some d ∧ w.frozen? ⟨g, 0, none⟩ = false ∧ w.frozen? ⟨g, 1, none⟩ = false ∧ w.frozen? ⟨g, 2, none⟩ = false ∧ w.frozen? ⟨g, 3, none⟩ = false :=
  ⟨h.cellAt 0 (by omega), h.cellAt 1 (by omega), h.cellAt 2 (by omega), h.cellAt 3 (by omega), h.frozenAt 0, h.frozenAt 1, h.frozenAt 2, h.frozenAt 3⟩

/-- A call's three blocks of four cells: the argument, the result, the local. -/
structure Fr (w u : World) (tp tr : TypeId) (p r o : List Value) : Prop where
  par : u.ownsRow w.heap.size tp 4 (.slice (some ⟨w.heap.size, 0, none⟩) 1 1) 1 p
  res : u.ownsRow w.heap.size tr 4 (.slice (some ⟨w.heap.size + 1, 0, none⟩) 1 1) 1 r
  loc : u.ownsRow w.heap.size tr 4 (.slice (some ⟨w.heap.size + 1 + 1, 0, none⟩) 1 1) 1 o
  bel : Below w.heap.size w u
  siz : w.heap.size + 3 ≤ u.heap.size
theorem Fr.of (w : World) (tp tr : TypeId) (p r o : Array Value) (hp : p.size = 4) (hr : r.size = 4) (ho : o.size = 4) :
    Fr w (((w.alloc (.cells p tp)).alloc (.cells r tr)).alloc (.cells o tr)) tp tr p.toList r.toList o.toList := by
  have b1 : Below w.heap.size w (w.alloc (.cells p tp)) := (Below.refl _ _).alloc (Nat.le_refl _) _
  have c2 : Below (w.alloc (.cells p tp)).heap.size (w.alloc (.cells p tp)) ((w.alloc (.cells p tp)).alloc (.cells r tr)) := (Below.refl _ _).alloc (Nat.le_refl _) _
  have c3 : Below ((w.alloc (.cells p tp)).alloc (.cells r tr)).heap.size ((w.alloc (.cells p tp)).alloc (.cells r tr)) (((w.alloc (.cells p tp)).alloc (.cells r tr)).alloc (.cells o tr)) := (Below.refl _ _).alloc (Nat.le_refl _) _
  have r1 := World.ownsRow_lit (base := w.heap.size) (e := tp) (size := 4) w p 1 (Nat.le_refl _) (by unfold maxLen; omega) (by omega)
  have r2 := World.ownsRow_lit (base := w.heap.size) (e := tr) (size := 4) (w.alloc (.cells p tp)) r 1 (by simp) (by unfold maxLen; omega) (by omega)
  have r3 := World.ownsRow_lit (base := w.heap.size) (e := tr) (size := 4) ((w.alloc (.cells p tp)).alloc (.cells r tr)) o 1 (by simp <;> omega) (by unfold maxLen; omega) (by omega)
  refine ⟨own_keep (own_keep r1 c2 (Nat.le_refl _)) c3 (Nat.le_refl _), ?_, ?_, (b1.trans (c2.mono (by simp))).trans (c3.mono (by simp <;> omega)), by simp <;> omega⟩
  · have := own_keep r2 c3 (Nat.le_refl _)
    simpa using this
  · simpa using r3
theorem Fr.keep {w u u' : World} {tp tr : TypeId} {p r o : List Value} (h : Fr w u tp tr p r o) (hb : Below u.heap.size u u') : Fr w u' tp tr p r o :=
  ⟨own_keep h.par hb (Nat.le_refl _), own_keep h.res hb (Nat.le_refl _), own_keep h.loc hb (Nat.le_refl _), h.bel.trans (hb.mono (by have := h.siz; omega)), Nat.le_trans h.siz hb.size⟩
theorem Fr.set {w u : World} {tp tr : TypeId} {p r o : List Value} (h : Fr w u tp tr p r o) (j : Nat) (x : Value) : Fr w (u.setCell ⟨w.heap.size + 1 + 1, j, none⟩ x) tp tr p r (o.set j x) :=
  ⟨ownsRow_setCell_other h.par (by simp [Value.ownBlock] <;> omega) x, ownsRow_setCell_other h.res (by simp [Value.ownBlock]) x, (h.loc.stored j x).1, h.bel.setCell (by simp <;> omega) x, by have := h.siz; simpa using this⟩
theorem Fr.set' {w u : World} {tp tr : TypeId} {p r o : List Value} (h : Fr w u tp tr p r o) (j : Nat) (x : Value) : Fr w (u.setCell ⟨w.heap.size + 1, j, none⟩ x) tp tr p (r.set j x) o :=
  ⟨ownsRow_setCell_other h.par (by simp [Value.ownBlock] <;> omega) x, (h.res.stored j x).1, ownsRow_setCell_other h.loc (by simp [Value.ownBlock]) x, h.bel.setCell (by simp) x, by have := h.siz; simpa using this⟩
/-- A store into the call's own blocks leaves what lies behind them. -/
theorem own_set {w u : World} {e : TypeId} {s : Value} {k n : Nat} {xs : List Value} (h : u.ownsRow (w.heap.size + 3) e k s n xs) (g j : Nat) (hg : g < w.heap.size + 3) (x : Value) : (u.setCell ⟨g, j, none⟩ x).ownsRow (w.heap.size + 3) e k s n xs := ownsRow_setCell_below h hg x


end Go.Proofs.YtnemieeeappgnaaGreatDoor
namespace Go.Proofs.YtnemieeeappgnaaGreatDoor
open Go.ChangeShapes Go.WideShapes Go.ChangeAt Go.RowKit
set_option linter.unusedVariables false
/-- The cells of a function in its row. -/
def fCells (x : MF × VF) : List Value := [x.2.p, .int .i64 x.1.result, x.2.l, x.2.c]
theorem fCells_length (x : MF × VF) : (fCells x).length = 4 := rfl
def rCells (x : List Int × Value) : List Value := [x.2]
theorem rCells_length (x : List Int × Value) : (rCells x).length = 1 := rfl
/-- A list of functions. -/
def RdFs (w : World) (s : Value) (fs : List MF) : Prop := ∃ xs : List (MF × VF), xs.map Prod.fst = fs ∧ Rd w 4 s fs.length (xs.flatMap fCells) ∧ ∀ x ∈ xs, RdF w x.2 x.1
def OwnFs (w : World) (base : Nat) (s : Value) (fs : List MF) : Prop := ∃ xs : List (MF × VF), xs.map Prod.fst = fs ∧ w.ownsRow base 64 4 s fs.length (xs.flatMap fCells) ∧ ∀ x ∈ xs, OwnF w base x.2 x.1
/-- A list of lists. -/
def RdR (w : World) (s : Value) (rs : List (List Int)) : Prop := ∃ xs : List (List Int × Value), xs.map Prod.fst = rs ∧ Rd w 1 s rs.length (xs.flatMap rCells) ∧ ∀ x ∈ xs, Rd w 1 x.2 x.1.length (x.1.flatMap intCell)
def OwnR (w : World) (base : Nat) (s : Value) (rs : List (List Int)) : Prop := ∃ xs : List (List Int × Value), xs.map Prod.fst = rs ∧ w.ownsRow base 57 1 s rs.length (xs.flatMap rCells) ∧ ∀ x ∈ xs, w.ownsRow base 2 1 x.2 x.1.length (x.1.flatMap intCell)
theorem OwnFs.rd {w : World} {base : Nat} {s : Value} {fs : List MF} (h : OwnFs w base s fs) : RdFs w s fs := by
  obtain ⟨xs, h1, h2, h3⟩ := h
  exact ⟨xs, h1, Rd.of_own h2, fun x hx => (h3 x hx).rd⟩
theorem OwnR.rd {w : World} {base : Nat} {s : Value} {rs : List (List Int)} (h : OwnR w base s rs) : RdR w s rs := by
  obtain ⟨xs, h1, h2, h3⟩ := h
  exact ⟨xs, h1, Rd.of_own h2, fun x hx => Rd.of_own (h3 x hx)⟩
theorem RdFs.keep {w w' : World} {s : Value} {fs : List MF} (h : RdFs w s fs) {B : Nat} (hb : Below B w w') (hB : w.heap.size ≤ B) : RdFs w' s fs := by
  obtain ⟨xs, h1, h2, h3⟩ := h
  exact ⟨xs, h1, h2.keep hb hB, fun x hx => (h3 x hx).keep hb hB⟩
theorem RdR.keep {w w' : World} {s : Value} {rs : List (List Int)} (h : RdR w s rs) {B : Nat} (hb : Below B w w') (hB : w.heap.size ≤ B) : RdR w' s rs := by
  obtain ⟨xs, h1, h2, h3⟩ := h
  exact ⟨xs, h1, h2.keep hb hB, fun x hx => (h3 x hx).keep hb hB⟩
theorem OwnFs.keep {w w' : World} {base : Nat} {s : Value} {fs : List MF} (h : OwnFs w base s fs) {B : Nat} (hb : Below B w w') (hB : w.heap.size ≤ B) : OwnFs w' base s fs := by
  obtain ⟨xs, h1, h2, h3⟩ := h
  exact ⟨xs, h1, own_keep h2 hb hB, fun x hx => (h3 x hx).keep hb hB⟩
theorem OwnR.keep {w w' : World} {base : Nat} {s : Value} {rs : List (List Int)} (h : OwnR w base s rs) {B : Nat} (hb : Below B w w') (hB : w.heap.size ≤ B) : OwnR w' base s rs := by
  obtain ⟨xs, h1, h2, h3⟩ := h
  exact ⟨xs, h1, own_keep h2 hb hB, fun x hx => own_keep (h3 x hx) hb hB⟩
theorem OwnF.base {w : World} {base base' : Nat} {v : VF} {f : MF} (h : OwnF w base v f) (hb : base' ≤ base) : OwnF w base' v f := ⟨own_base h.1 hb, own_base h.2.1 hb, own_base h.2.2 hb⟩
theorem OwnFs.base {w : World} {base base' : Nat} {s : Value} {fs : List MF} (h : OwnFs w base s fs) (hb : base' ≤ base) : OwnFs w base' s fs := by
  obtain ⟨xs, h1, h2, h3⟩ := h
  exact ⟨xs, h1, own_base h2 hb, fun x hx => (h3 x hx).base hb⟩
theorem OwnR.base {w : World} {base base' : Nat} {s : Value} {rs : List (List Int)} (h : OwnR w base s rs) (hb : base' ≤ base) : OwnR w base' s rs := by
  obtain ⟨xs, h1, h2, h3⟩ := h
  exact ⟨xs, h1, own_base h2 hb, fun x hx => own_base (h3 x hx) hb⟩
theorem OwnF.below {w : World} {base : Nat} {v : VF} {f : MF} (h : OwnF w base v f) {a : Addr} (ha : a.block < base) (u : Value) : OwnF (w.setCell a u) base v f := ⟨ownsRow_setCell_below h.1 ha u, ownsRow_setCell_below h.2.1 ha u, ownsRow_setCell_below h.2.2 ha u⟩
theorem OwnFs.below {w : World} {base : Nat} {s : Value} {fs : List MF} (h : OwnFs w base s fs) {a : Addr} (ha : a.block < base) (u : Value) : OwnFs (w.setCell a u) base s fs := by
  obtain ⟨xs, h1, h2, h3⟩ := h
  exact ⟨xs, h1, ownsRow_setCell_below h2 ha u, fun x hx => (h3 x hx).below ha u⟩
theorem OwnR.below {w : World} {base : Nat} {s : Value} {rs : List (List Int)} (h : OwnR w base s rs) {a : Addr} (ha : a.block < base) (u : Value) : OwnR (w.setCell a u) base s rs := by
  obtain ⟨xs, h1, h2, h3⟩ := h
  exact ⟨xs, h1, ownsRow_setCell_below h2 ha u, fun x hx => ownsRow_setCell_below (h3 x hx) ha u⟩
theorem infoF : (Tryz.prog.info? 64).map (fun i => (i.zero, i.size, i.bytes)) = some (some (.agg #[.slice none 0 0, .int .i64 0, .slice none 0 0, .slice none 0 0]), 4, 80) := by kernel_rfl
theorem infoR : (Tryz.prog.info? 57).map (fun i => (i.zero, i.size, i.bytes)) = some (some (.slice none 0 0), 1, 24) := by kernel_rfl
theorem fst_at {α β : Type} {xs : List (α × β)} {fs : List α} (h : xs.map Prod.fst = fs) {k : Nat} {x : α × β} (hx : xs[k]? = some x) : fs[k]? = some x.1 := by
  rw [← h, List.getElem?_map, hx]
  rfl
theorem fst_next {α β : Type} {ys : List (α × β)} {fs : List α} {k : Nat} (h : ys.map Prod.fst = fs.take k) {f : α} (hf : fs[k]? = some f) (b : β) : (ys ++ [(f, b)]).map Prod.fst = fs.take (k + 1) := by
  obtain ⟨hlt, rfl⟩ := List.getElem?_eq_some_iff.1 hf
  rw [List.map_append, h, List.take_succ_eq_append_getElem hlt]
  rfl
/-- Copied so far: the cells of the new elements, then empty ones. -/
def newTo {α : Type} (f : α → List Value) (z : List Value) (ys : List α) (n : Nat) : List Value := ys.flatMap f ++ (List.replicate (n - ys.length) z).flatten
theorem newTo_zero {α : Type} (f : α → List Value) (z : List Value) (n : Nat) (v : Value) (m : Nat) (hv : v.cells = z.toArray) (hm : z.length = m) (h0 : 0 < m) : (madeCells v.cells (n * m)).toList = newTo f z [] n := by
  rw [flatTo_zero f z [] n v m hv hm h0]
  simp [flatTo, newTo]
theorem newTo_parts {α : Type} (f : α → List Value) (z : List Value) (ys : List α) (k n : Nat) (hk : k < n) (hl : ys.length = k) : newTo f z ys n = ys.flatMap f ++ (z ++ (List.replicate (n - (k + 1)) z).flatten) := by
  unfold newTo
  have e : n - ys.length = (n - (k + 1)) + 1 := by omega
  rw [e, List.replicate_succ, List.flatten_cons]
theorem newTo_next {α : Type} (f : α → List Value) (z : List Value) (ys : List α) (k n : Nat) (y : α) (hl : ys.length = k) : newTo f z (ys ++ [y]) n = ys.flatMap f ++ (f y ++ (List.replicate (n - (k + 1)) z).flatten) := by
  unfold newTo
  rw [List.flatMap_append, List.append_assoc]
  simp [hl]
theorem newTo_all {α : Type} (f : α → List Value) (z : List Value) (ys : List α) (n : Nat) (h : ys.length = n) : newTo f z ys n = ys.flatMap f := by simp [newTo, ← h]

theorem own_lt {w : World} {base : Nat} {e : TypeId} {g k n c : Nat} {xs : List Value} (h : w.ownsRow base e k (.slice (some ⟨g, 0, none⟩) n c) n xs) : g + 1 ≤ w.heap.size := by
  rcases h.2 with ⟨h', _⟩ | ⟨g', cap', cur, h', _, hg, _⟩
  · cases h'
  · cases h'
    exact (Array.getElem?_eq_some_iff.1 hg).1
/-- Where the copying of functions stands. -/
structure FSt (w wr : World) (fs : List MF) (L k : Nat) (ys : List (MF × VF)) : Prop where
  fst : ys.map Prod.fst = fs.take k
  len : ys.length = k
  row : wr.ownsRow w.heap.size 64 4 (.slice (some ⟨w.heap.size, 0, none⟩) L L) L (newTo fCells [.slice none 0 0, .int .i64 0, .slice none 0 0, .slice none 0 0] ys L)
  els : ∀ y ∈ ys, OwnF wr (w.heap.size + 1) y.2 y.1
  bel : Below w.heap.size w wr
  siz : w.heap.size + 1 ≤ wr.heap.size
theorem FSt.places {w wr : World} {fs : List MF} {L k : Nat} {ys : List (MF × VF)} (h : FSt w wr fs L k ys) (hk : k < L) {u : World} (hb : Below wr.heap.size wr u) :
    u.cell? ⟨w.heap.size, k * 4, none⟩ = some (.slice none 0 0) ∧ u.cell? ⟨w.heap.size, k * 4 + 1, none⟩ = some (.int .i64 0) ∧ u.cell? ⟨w.heap.size, k * 4 + 2, none⟩ = some (.slice none 0 0) ∧ u.cell? ⟨w.heap.size, k * 4 + 3, none⟩ = some (.slice none 0 0) ∧ u.frozen? ⟨w.heap.size, k * 4, none⟩ = false ∧ u.frozen? ⟨w.heap.size, k * 4 + 1, none⟩ = false ∧ u.frozen? ⟨w.heap.size, k * 4 + 2, none⟩ = false ∧ u.frozen? ⟨w.heap.size, k * 4 + 3, none⟩ = false := by
  have hown := own_keep h.row hb (Nat.le_refl _)
  rw [newTo_parts fCells _ ys k L hk h.len] at hown
  have hA : (ys.flatMap fCells).length = k * 4 := by rw [flat_length fCells 4 fCells_length, h.len]
  have d0 := hown.cellAt (k * 4) (by omega)
  have d1 := hown.cellAt (k * 4 + 1) (by omega)
  have d2 := hown.cellAt (k * 4 + 2) (by omega)
  have d3 := hown.cellAt (k * 4 + 3) (by omega)
  rw [List.getElem?_append_right (by omega), hA] at d0 d1 d2 d3
  rw [Nat.sub_self] at d0
  rw [Nat.add_sub_cancel_left] at d1 d2 d3
  exact ⟨d0, d1, d2, d3, hown.frozenAt _, hown.frozenAt _, hown.frozenAt _, hown.frozenAt _⟩
theorem FSt.next {w wr : World} {fs : List MF} {L k : Nat} {ys : List (MF × VF)} (h : FSt w wr fs L k ys) (hk : k < L) {u : World} (hb : Below wr.heap.size wr u) {f : MF} (hf : fs[k]? = some f) {v : VF} (ho : OwnF u wr.heap.size v f) :
    FSt w ((((u.setCell ⟨w.heap.size, k * 4, none⟩ v.p).setCell ⟨w.heap.size, k * 4 + 1, none⟩ (.int .i64 f.result)).setCell ⟨w.heap.size, k * 4 + 2, none⟩ v.l).setCell ⟨w.heap.size, k * 4 + 3, none⟩ v.c) fs L (k + 1) (ys ++ [(f, v)]) := by
  have hown := own_keep h.row hb (Nat.le_refl _)
  rw [newTo_parts fCells _ ys k L hk h.len] at hown
  have hA : (ys.flatMap fCells).length = k * 4 := by rw [flat_length fCells 4 fCells_length, h.len]
  have s0 := (hown.stored (k * 4) v.p).1
  have s1 := (s0.stored (k * 4 + 1) (.int .i64 f.result)).1
  have s2 := (s1.stored (k * 4 + 2) v.l).1
  have s3 := (s2.stored (k * 4 + 3) v.c).1
  rw [set4 _ _ _ _ _ _ _ _ _ _ (k * 4) hA] at s3
  refine ⟨fst_next h.fst hf v, by simp [h.len], ?_, ?_, ?_, ?_⟩
  · rw [newTo_next fCells _ ys k L (f, v) h.len]
    exact s3
  · intro y hy
    have hy' : OwnF u (w.heap.size + 1) y.2 y.1 := by
      rcases List.mem_append.1 hy with hy | hy
      · exact (h.els y hy).keep hb (Nat.le_refl _)
      · simp only [List.mem_singleton] at hy
        subst hy
        exact ho.base h.siz
    exact (((hy'.below (by simp) _).below (by simp) _).below (by simp) _).below (by simp) _
  · exact ((((h.bel.trans (hb.mono (by have := h.siz; omega))).setCell (Nat.le_refl _) _).setCell (Nat.le_refl _) _).setCell (Nat.le_refl _) _).setCell (Nat.le_refl _) _
  · have := hb.size
    have := h.siz
    simp
    omega

/-- Where the copying of lists stands. -/
structure RSt (w wr : World) (fs : List (List Int)) (L k : Nat) (ys : List (List Int × Value)) : Prop where
  fst : ys.map Prod.fst = fs.take k
  len : ys.length = k
  row : wr.ownsRow w.heap.size 57 1 (.slice (some ⟨w.heap.size, 0, none⟩) L L) L (newTo rCells [.slice none 0 0] ys L)
  els : ∀ y ∈ ys, wr.ownsRow (w.heap.size + 1) 2 1 y.2 y.1.length (y.1.flatMap intCell)
  bel : Below w.heap.size w wr
  siz : w.heap.size + 1 ≤ wr.heap.size
theorem RSt.places {w wr : World} {fs : List (List Int)} {L k : Nat} {ys : List (List Int × Value)} (h : RSt w wr fs L k ys) (hk : k < L) {u : World} (hb : Below wr.heap.size wr u) :
    u.cell? ⟨w.heap.size, k, none⟩ = some (.slice none 0 0) ∧ u.frozen? ⟨w.heap.size, k, none⟩ = false := by
  have hown := own_keep h.row hb (Nat.le_refl _)
  rw [newTo_parts rCells _ ys k L hk h.len] at hown
  have hA : (ys.flatMap rCells).length = k := by rw [flat_length rCells 1 rCells_length, h.len, Nat.mul_one]
  have d0 := hown.cellAt k (by omega)
  rw [List.getElem?_append_right (by omega), hA] at d0
  rw [Nat.sub_self] at d0
  exact ⟨d0, hown.frozenAt _⟩
theorem RSt.next {w wr : World} {fs : List (List Int)} {L k : Nat} {ys : List (List Int × Value)} (h : RSt w wr fs L k ys) (hk : k < L) {u : World} (hb : Below wr.heap.size wr u) {f : List Int} (hf : fs[k]? = some f) {v : Value} (ho : u.ownsRow wr.heap.size 2 1 v f.length (f.flatMap intCell)) :
    RSt w (u.setCell ⟨w.heap.size, k, none⟩ v) fs L (k + 1) (ys ++ [(f, v)]) := by
  have hown := own_keep h.row hb (Nat.le_refl _)
  rw [newTo_parts rCells _ ys k L hk h.len] at hown
  have hA : (ys.flatMap rCells).length = k := by rw [flat_length rCells 1 rCells_length, h.len, Nat.mul_one]
  have s0 := (hown.stored k v).1
  rw [set1 _ _ _ _ k hA] at s0
  refine ⟨fst_next h.fst hf v, by simp [h.len], ?_, ?_, ?_, ?_⟩
  · rw [newTo_next rCells _ ys k L (f, v) h.len]
    exact s0
  · intro y hy
    have hy' : u.ownsRow (w.heap.size + 1) 2 1 y.2 y.1.length (y.1.flatMap intCell) := by
      rcases List.mem_append.1 hy with hy | hy
      · exact own_keep (h.els y hy) hb (Nat.le_refl _)
      · simp only [List.mem_singleton] at hy
        subst hy
        exact own_base ho h.siz
    exact ownsRow_setCell_below hy' (by simp) _
  · exact (h.bel.trans (hb.mono (by have := h.siz; omega))).setCell (Nat.le_refl _) _
  · have := hb.size
    have := h.siz
    simp
    omega
end Go.Proofs.YtnemieeeappgnaaGreatDoor
namespace Go.Proofs.YtnemieeeappgnaaGreatDoor
open Go.ChangeShapes Go.WideShapes Go.ChangeAt Go.RowKit
set_option linter.unusedVariables false
/-- A program. -/
structure MP where
  regions : List (List Int)
  consts : List MC
  funcs : List MF
  certs : List MT
/-- Its four lists, as values. -/
structure VP where
  r : Value
  k : Value
  f : Value
  t : Value
def VP.val (v : VP) : Value := .agg #[v.r, v.k, v.f, v.t]
structure RdP (w : World) (v : VP) (p : MP) : Prop where
  regions : RdR w v.r p.regions
  consts : Rd w 2 v.k p.consts.length (p.consts.flatMap MC.cells)
  funcs : RdFs w v.f p.funcs
  certs : Rd w 4 v.t p.certs.length (p.certs.flatMap MT.cells)
structure OwnP (w : World) (base : Nat) (v : VP) (p : MP) : Prop where
  regions : OwnR w base v.r p.regions
  consts : w.ownsRow base 61 2 v.k p.consts.length (p.consts.flatMap MC.cells)
  funcs : OwnFs w base v.f p.funcs
  certs : w.ownsRow base 67 4 v.t p.certs.length (p.certs.flatMap MT.cells)
structure MP.small (p : MP) : Prop where
  regions : p.regions.length ≤ 1048576
  region : ∀ r ∈ p.regions, r.length ≤ 1048576
  consts : p.consts.length ≤ 1048576
  funcs : p.funcs.length ≤ 1048576
  func : ∀ f ∈ p.funcs, f.small
  certs : p.certs.length ≤ 1048576
theorem OwnP.rd {w : World} {base : Nat} {v : VP} {p : MP} (h : OwnP w base v p) : RdP w v p := ⟨h.regions.rd, Rd.of_own h.consts, h.funcs.rd, Rd.of_own h.certs⟩
theorem RdP.keep {w w' : World} {v : VP} {p : MP} (h : RdP w v p) {B : Nat} (hb : Below B w w') (hB : w.heap.size ≤ B) : RdP w' v p := ⟨h.regions.keep hb hB, h.consts.keep hb hB, h.funcs.keep hb hB, h.certs.keep hb hB⟩
theorem OwnP.keep {w w' : World} {base : Nat} {v : VP} {p : MP} (h : OwnP w base v p) {B : Nat} (hb : Below B w w') (hB : w.heap.size ≤ B) : OwnP w' base v p := ⟨h.regions.keep hb hB, own_keep h.consts hb hB, h.funcs.keep hb hB, own_keep h.certs hb hB⟩
theorem OwnP.base {w : World} {base base' : Nat} {v : VP} {p : MP} (h : OwnP w base v p) (hb : base' ≤ base) : OwnP w base' v p := ⟨h.regions.base hb, own_base h.consts hb, h.funcs.base hb, own_base h.certs hb⟩
theorem OwnP.below {w : World} {base : Nat} {v : VP} {p : MP} (h : OwnP w base v p) {a : Addr} (ha : a.block < base) (u : Value) : OwnP (w.setCell a u) base v p := ⟨h.regions.below ha u, ownsRow_setCell_below h.consts ha u, h.funcs.below ha u, ownsRow_setCell_below h.certs ha u⟩

end Go.Proofs.YtnemieeeappgnaaGreatDoor
