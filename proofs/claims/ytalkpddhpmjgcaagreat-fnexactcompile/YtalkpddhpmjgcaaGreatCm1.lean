import Derived.Test.YtalkpddhpmjgcaaGreatCm0
import Derived.Deep.RegionWith
namespace Go.Proofs.YtalkpddhpmjgcaaGreat
open Go.ChangeShapes Go.WideShapes Go.ChangeAt Go.RowKit
set_option linter.unusedVariables false
/-- The cells of a function in its row. -/
def fCells (x : MF × VF) : List Value := [x.2.p, .int .i64 x.1.result, x.2.l, x.2.c]
theorem fCells_length (x : MF × VF) : (fCells x).length = 4 := rfl
def rCells (x : List Int × Value) : List Value := [x.2]
theorem rCells_length (x : List Int × Value) : (rCells x).length = 1 := rfl
/-- A list of functions. -/
def RdFs (w : World) (s : Value) (fs : List MF) : Prop := ∃ xs : List (MF × VF), xs.map Prod.fst = fs ∧ Rd w 4 s fs.length (xs.flatMap fCells) ∧ ∀ x ∈ xs, RdF w x.2 x.1
def OwnFs (w : World) (base : Nat) (s : Value) (fs : List MF) : Prop := ∃ xs : List (MF × VF), xs.map Prod.fst = fs ∧ w.ownsRow base 86 4 s fs.length (xs.flatMap fCells) ∧ ∀ x ∈ xs, OwnF w base x.2 x.1
/-- A list of lists. -/
def RdR (w : World) (s : Value) (rs : List (List Int)) : Prop := ∃ xs : List (List Int × Value), xs.map Prod.fst = rs ∧ Rd w 1 s rs.length (xs.flatMap rCells) ∧ ∀ x ∈ xs, Rd w 1 x.2 x.1.length (x.1.flatMap intCell)
def OwnR (w : World) (base : Nat) (s : Value) (rs : List (List Int)) : Prop := ∃ xs : List (List Int × Value), xs.map Prod.fst = rs ∧ w.ownsRow base 49 1 s rs.length (xs.flatMap rCells) ∧ ∀ x ∈ xs, w.ownsRow base 2 1 x.2 x.1.length (x.1.flatMap intCell)
theorem OwnFs.rd {w : World} {base : Nat} {s : Value} {fs : List MF} (h : OwnFs w base s fs) : RdFs w s fs := by
  obtain ⟨xs, h1, h2, h3⟩ := h
  exact ⟨xs, h1, Rd.of_own h2, fun x hx => (h3 x hx).rd⟩
theorem OwnR.rd {w : World} {base : Nat} {s : Value} {rs : List (List Int)} (h : OwnR w base s rs) : RdR w s rs := by
  obtain ⟨xs, h1, h2, h3⟩ := h
  exact ⟨xs, h1, Rd.of_own h2, fun x hx => Rd.of_own (h3 x hx)⟩
theorem RdFs.keep {w w' : World} {s : Value} {fs : List MF} (h : RdFs w s fs) {B : Nat} (hb : Below B w w') (hB : w.heap.size ≤ B) : RdFs w' s fs := by
  obtain ⟨xs, h1, h2, h3⟩ := h
  exact ⟨xs, h1, h2.keep hb hB, fun x hx => (h3 x hx).keep hb hB⟩
theorem RdR.keep {w w' : World} {s : Value} {rs : List (List Int)} (h : RdR w s rs) {B : Nat} (hb : Below B w w') (hB : w.heap.size ≤ B) : RdR w' s rs := by
  obtain ⟨xs, h1, h2, h3⟩ := h
  exact ⟨xs, h1, h2.keep hb hB, fun x hx => (h3 x hx).keep hb hB⟩
theorem OwnFs.keep {w w' : World} {base : Nat} {s : Value} {fs : List MF} (h : OwnFs w base s fs) {B : Nat} (hb : Below B w w') (hB : w.heap.size ≤ B) : OwnFs w' base s fs := by
  obtain ⟨xs, h1, h2, h3⟩ := h
  exact ⟨xs, h1, own_keep h2 hb hB, fun x hx => (h3 x hx).keep hb hB⟩
theorem OwnR.keep {w w' : World} {base : Nat} {s : Value} {rs : List (List Int)} (h : OwnR w base s rs) {B : Nat} (hb : Below B w w') (hB : w.heap.size ≤ B) : OwnR w' base s rs := by
  obtain ⟨xs, h1, h2, h3⟩ := h
  exact ⟨xs, h1, own_keep h2 hb hB, fun x hx => own_keep (h3 x hx) hb hB⟩
theorem OwnF.base {w : World} {base base' : Nat} {v : VF} {f : MF} (h : OwnF w base v f) (hb : base' ≤ base) : OwnF w base' v f := ⟨own_base h.1 hb, own_base h.2.1 hb, own_base h.2.2 hb⟩
theorem OwnFs.base {w : World} {base base' : Nat} {s : Value} {fs : List MF} (h : OwnFs w base s fs) (hb : base' ≤ base) : OwnFs w base' s fs := by
  obtain ⟨xs, h1, h2, h3⟩ := h
  exact ⟨xs, h1, own_base h2 hb, fun x hx => (h3 x hx).base hb⟩
theorem OwnR.base {w : World} {base base' : Nat} {s : Value} {rs : List (List Int)} (h : OwnR w base s rs) (hb : base' ≤ base) : OwnR w base' s rs := by
  obtain ⟨xs, h1, h2, h3⟩ := h
  exact ⟨xs, h1, own_base h2 hb, fun x hx => own_base (h3 x hx) hb⟩
theorem OwnF.below {w : World} {base : Nat} {v : VF} {f : MF} (h : OwnF w base v f) {a : Addr} (ha : a.block < base) (u : Value) : OwnF (w.setCell a u) base v f := ⟨ownsRow_setCell_below h.1 ha u, ownsRow_setCell_below h.2.1 ha u, ownsRow_setCell_below h.2.2 ha u⟩
theorem OwnFs.below {w : World} {base : Nat} {s : Value} {fs : List MF} (h : OwnFs w base s fs) {a : Addr} (ha : a.block < base) (u : Value) : OwnFs (w.setCell a u) base s fs := by
  obtain ⟨xs, h1, h2, h3⟩ := h
  exact ⟨xs, h1, ownsRow_setCell_below h2 ha u, fun x hx => (h3 x hx).below ha u⟩
theorem OwnR.below {w : World} {base : Nat} {s : Value} {rs : List (List Int)} (h : OwnR w base s rs) {a : Addr} (ha : a.block < base) (u : Value) : OwnR (w.setCell a u) base s rs := by
  obtain ⟨xs, h1, h2, h3⟩ := h
  exact ⟨xs, h1, ownsRow_setCell_below h2 ha u, fun x hx => ownsRow_setCell_below (h3 x hx) ha u⟩
theorem infoF : (Tryz.prog.info? 86).map (fun i => (i.zero, i.size, i.bytes)) = some (some (.agg #[.slice none 0 0, .int .i64 0, .slice none 0 0, .slice none 0 0]), 4, 80) := by kernel_rfl
theorem infoR : (Tryz.prog.info? 49).map (fun i => (i.zero, i.size, i.bytes)) = some (some (.slice none 0 0), 1, 24) := by kernel_rfl
theorem fst_at {α β : Type} {xs : List (α × β)} {fs : List α} (h : xs.map Prod.fst = fs) {k : Nat} {x : α × β} (hx : xs[k]? = some x) : fs[k]? = some x.1 := by
  rw [← h, List.getElem?_map, hx]
  rfl
theorem fst_next {α β : Type} {ys : List (α × β)} {fs : List α} {k : Nat} (h : ys.map Prod.fst = fs.take k) {f : α} (hf : fs[k]? = some f) (b : β) : (ys ++ [(f, b)]).map Prod.fst = fs.take (k + 1) := by
  obtain ⟨hlt, rfl⟩ := List.getElem?_eq_some_iff.1 hf
  rw [List.map_append, h, List.take_succ_eq_append_getElem hlt]
  rfl
/-- Copied so far: the cells of the new elements, then empty ones. -/
def newTo {α : Type} (f : α → List Value) (z : List Value) (ys : List α) (n : Nat) : List Value := ys.flatMap f ++ (List.replicate (n - ys.length) z).flatten
theorem newTo_zero {α : Type} (f : α → List Value) (z : List Value) (n : Nat) (v : Value) (m : Nat) (hv : v.cells = z.toArray) (hm : z.length = m) (h0 : 0 < m) : (madeCells v.cells (n * m)).toList = newTo f z [] n := by
  rw [flatTo_zero f z [] n v m hv hm h0]
  simp [flatTo, newTo]
theorem newTo_parts {α : Type} (f : α → List Value) (z : List Value) (ys : List α) (k n : Nat) (hk : k < n) (hl : ys.length = k) : newTo f z ys n = ys.flatMap f ++ (z ++ (List.replicate (n - (k + 1)) z).flatten) := by
  unfold newTo
  have e : n - ys.length = (n - (k + 1)) + 1 := by omega
  rw [e, List.replicate_succ, List.flatten_cons]
theorem newTo_next {α : Type} (f : α → List Value) (z : List Value) (ys : List α) (k n : Nat) (y : α) (hl : ys.length = k) : newTo f z (ys ++ [y]) n = ys.flatMap f ++ (f y ++ (List.replicate (n - (k + 1)) z).flatten) := by
  unfold newTo
  rw [List.flatMap_append, List.append_assoc]
  simp [hl]
theorem newTo_all {α : Type} (f : α → List Value) (z : List Value) (ys : List α) (n : Nat) (h : ys.length = n) : newTo f z ys n = ys.flatMap f := by simp [newTo, ← h]

theorem own_lt {w : World} {base : Nat} {e : TypeId} {g k n c : Nat} {xs : List Value} (h : w.ownsRow base e k (.slice (some ⟨g, 0, none⟩) n c) n xs) : g + 1 ≤ w.heap.size := by
  rcases h.2 with ⟨h', _⟩ | ⟨g', cap', cur, h', _, hg, _⟩
  · cases h'
  · cases h'
    exact (Array.getElem?_eq_some_iff.1 hg).1
/-- Where the copying of functions stands. -/
structure FSt (w wr : World) (fs : List MF) (L k : Nat) (ys : List (MF × VF)) : Prop where
  fst : ys.map Prod.fst = fs.take k
  len : ys.length = k
  row : wr.ownsRow w.heap.size 86 4 (.slice (some ⟨w.heap.size, 0, none⟩) L L) L (newTo fCells [.slice none 0 0, .int .i64 0, .slice none 0 0, .slice none 0 0] ys L)
  els : ∀ y ∈ ys, OwnF wr (w.heap.size + 1) y.2 y.1
  bel : Below w.heap.size w wr
  siz : w.heap.size + 1 ≤ wr.heap.size
theorem FSt.places {w wr : World} {fs : List MF} {L k : Nat} {ys : List (MF × VF)} (h : FSt w wr fs L k ys) (hk : k < L) {u : World} (hb : Below wr.heap.size wr u) :
    u.cell? ⟨w.heap.size, k * 4, none⟩ = some (.slice none 0 0) ∧ u.cell? ⟨w.heap.size, k * 4 + 1, none⟩ = some (.int .i64 0) ∧ u.cell? ⟨w.heap.size, k * 4 + 2, none⟩ = some (.slice none 0 0) ∧ u.cell? ⟨w.heap.size, k * 4 + 3, none⟩ = some (.slice none 0 0) ∧ u.frozen? ⟨w.heap.size, k * 4, none⟩ = false ∧ u.frozen? ⟨w.heap.size, k * 4 + 1, none⟩ = false ∧ u.frozen? ⟨w.heap.size, k * 4 + 2, none⟩ = false ∧ u.frozen? ⟨w.heap.size, k * 4 + 3, none⟩ = false := by
  have hown := own_keep h.row hb (Nat.le_refl _)
  rw [newTo_parts fCells _ ys k L hk h.len] at hown
  have hA : (ys.flatMap fCells).length = k * 4 := by rw [flat_length fCells 4 fCells_length, h.len]
  have d0 := hown.cellAt (k * 4) (by omega)
  have d1 := hown.cellAt (k * 4 + 1) (by omega)
  have d2 := hown.cellAt (k * 4 + 2) (by omega)
  have d3 := hown.cellAt (k * 4 + 3) (by omega)
  rw [List.getElem?_append_right (by omega), hA] at d0 d1 d2 d3
  rw [Nat.sub_self] at d0
  rw [Nat.add_sub_cancel_left] at d1 d2 d3
  exact ⟨d0, d1, d2, d3, hown.frozenAt _, hown.frozenAt _, hown.frozenAt _, hown.frozenAt _⟩
theorem FSt.next {w wr : World} {fs : List MF} {L k : Nat} {ys : List (MF × VF)} (h : FSt w wr fs L k ys) (hk : k < L) {u : World} (hb : Below wr.heap.size wr u) {f : MF} (hf : fs[k]? = some f) {v : VF} (ho : OwnF u wr.heap.size v f) :
    FSt w ((((u.setCell ⟨w.heap.size, k * 4, none⟩ v.p).setCell ⟨w.heap.size, k * 4 + 1, none⟩ (.int .i64 f.result)).setCell ⟨w.heap.size, k * 4 + 2, none⟩ v.l).setCell ⟨w.heap.size, k * 4 + 3, none⟩ v.c) fs L (k + 1) (ys ++ [(f, v)]) := by
  have hown := own_keep h.row hb (Nat.le_refl _)
  rw [newTo_parts fCells _ ys k L hk h.len] at hown
  have hA : (ys.flatMap fCells).length = k * 4 := by rw [flat_length fCells 4 fCells_length, h.len]
  have s0 := (hown.stored (k * 4) v.p).1
  have s1 := (s0.stored (k * 4 + 1) (.int .i64 f.result)).1
  have s2 := (s1.stored (k * 4 + 2) v.l).1
  have s3 := (s2.stored (k * 4 + 3) v.c).1
  rw [set4 _ _ _ _ _ _ _ _ _ _ (k * 4) hA] at s3
  refine ⟨fst_next h.fst hf v, by simp [h.len], ?_, ?_, ?_, ?_⟩
  · rw [newTo_next fCells _ ys k L (f, v) h.len]
    exact s3
  · intro y hy
    have hy' : OwnF u (w.heap.size + 1) y.2 y.1 := by
      rcases List.mem_append.1 hy with hy | hy
      · exact (h.els y hy).keep hb (Nat.le_refl _)
      · simp only [List.mem_singleton] at hy
        subst hy
        exact ho.base h.siz
    exact (((hy'.below (by simp) _).below (by simp) _).below (by simp) _).below (by simp) _
  · exact ((((h.bel.trans (hb.mono (by have := h.siz; omega))).setCell (Nat.le_refl _) _).setCell (Nat.le_refl _) _).setCell (Nat.le_refl _) _).setCell (Nat.le_refl _) _
  · have := hb.size
    have := h.siz
    simp
    omega

/-- Where the copying of lists stands. -/
structure RSt (w wr : World) (fs : List (List Int)) (L k : Nat) (ys : List (List Int × Value)) : Prop where
  fst : ys.map Prod.fst = fs.take k
  len : ys.length = k
  row : wr.ownsRow w.heap.size 49 1 (.slice (some ⟨w.heap.size, 0, none⟩) L L) L (newTo rCells [.slice none 0 0] ys L)
  els : ∀ y ∈ ys, wr.ownsRow (w.heap.size + 1) 2 1 y.2 y.1.length (y.1.flatMap intCell)
  bel : Below w.heap.size w wr
  siz : w.heap.size + 1 ≤ wr.heap.size
theorem RSt.places {w wr : World} {fs : List (List Int)} {L k : Nat} {ys : List (List Int × Value)} (h : RSt w wr fs L k ys) (hk : k < L) {u : World} (hb : Below wr.heap.size wr u) :
    u.cell? ⟨w.heap.size, k, none⟩ = some (.slice none 0 0) ∧ u.frozen? ⟨w.heap.size, k, none⟩ = false := by
  have hown := own_keep h.row hb (Nat.le_refl _)
  rw [newTo_parts rCells _ ys k L hk h.len] at hown
  have hA : (ys.flatMap rCells).length = k := by rw [flat_length rCells 1 rCells_length, h.len, Nat.mul_one]
  have d0 := hown.cellAt k (by omega)
  rw [List.getElem?_append_right (by omega), hA] at d0
  rw [Nat.sub_self] at d0
  exact ⟨d0, hown.frozenAt _⟩
theorem RSt.next {w wr : World} {fs : List (List Int)} {L k : Nat} {ys : List (List Int × Value)} (h : RSt w wr fs L k ys) (hk : k < L) {u : World} (hb : Below wr.heap.size wr u) {f : List Int} (hf : fs[k]? = some f) {v : Value} (ho : u.ownsRow wr.heap.size 2 1 v f.length (f.flatMap intCell)) :
    RSt w (u.setCell ⟨w.heap.size, k, none⟩ v) fs L (k + 1) (ys ++ [(f, v)]) := by
  have hown := own_keep h.row hb (Nat.le_refl _)
  rw [newTo_parts rCells _ ys k L hk h.len] at hown
  have hA : (ys.flatMap rCells).length = k := by rw [flat_length rCells 1 rCells_length, h.len, Nat.mul_one]
  have s0 := (hown.stored k v).1
  rw [set1 _ _ _ _ k hA] at s0
  refine ⟨fst_next h.fst hf v, by simp [h.len], ?_, ?_, ?_, ?_⟩
  · rw [newTo_next rCells _ ys k L (f, v) h.len]
    exact s0
  · intro y hy
    have hy' : u.ownsRow (w.heap.size + 1) 2 1 y.2 y.1.length (y.1.flatMap intCell) := by
      rcases List.mem_append.1 hy with hy | hy
      · exact own_keep (h.els y hy) hb (Nat.le_refl _)
      · simp only [List.mem_singleton] at hy
        subst hy
        exact own_base ho h.siz
    exact ownsRow_setCell_below hy' (by simp) _
  · exact (h.bel.trans (hb.mono (by have := h.siz; omega))).setCell (Nat.le_refl _) _
  · have := hb.size
    have := h.siz
    simp
    omega
end Go.Proofs.YtalkpddhpmjgcaaGreat
namespace Go.Proofs.YtalkpddhpmjgcaaGreat
open Go.ChangeShapes Go.WideShapes Go.ChangeAt Go.RowKit
set_option linter.unusedVariables false
/-- A program. -/
structure MP where
  regions : List (List Int)
  consts : List MC
  funcs : List MF
  certs : List MT
/-- Its four lists, as values. -/
structure VP where
  r : Value
  k : Value
  f : Value
  t : Value
def VP.val (v : VP) : Value := .agg #[v.r, v.k, v.f, v.t]
structure RdP (w : World) (v : VP) (p : MP) : Prop where
  regions : RdR w v.r p.regions
  consts : Rd w 2 v.k p.consts.length (p.consts.flatMap MC.cells)
  funcs : RdFs w v.f p.funcs
  certs : Rd w 4 v.t p.certs.length (p.certs.flatMap MT.cells)
structure OwnP (w : World) (base : Nat) (v : VP) (p : MP) : Prop where
  regions : OwnR w base v.r p.regions
  consts : w.ownsRow base 108 2 v.k p.consts.length (p.consts.flatMap MC.cells)
  funcs : OwnFs w base v.f p.funcs
  certs : w.ownsRow base 112 4 v.t p.certs.length (p.certs.flatMap MT.cells)
structure MP.small (p : MP) : Prop where
  regions : p.regions.length ≤ 1048576
  region : ∀ r ∈ p.regions, r.length ≤ 1048576
  consts : p.consts.length ≤ 1048576
  funcs : p.funcs.length ≤ 1048576
  func : ∀ f ∈ p.funcs, f.small
  certs : p.certs.length ≤ 1048576
theorem OwnP.rd {w : World} {base : Nat} {v : VP} {p : MP} (h : OwnP w base v p) : RdP w v p := ⟨h.regions.rd, Rd.of_own h.consts, h.funcs.rd, Rd.of_own h.certs⟩
theorem RdP.keep {w w' : World} {v : VP} {p : MP} (h : RdP w v p) {B : Nat} (hb : Below B w w') (hB : w.heap.size ≤ B) : RdP w' v p := ⟨h.regions.keep hb hB, h.consts.keep hb hB, h.funcs.keep hb hB, h.certs.keep hb hB⟩
theorem OwnP.keep {w w' : World} {base : Nat} {v : VP} {p : MP} (h : OwnP w base v p) {B : Nat} (hb : Below B w w') (hB : w.heap.size ≤ B) : OwnP w' base v p := ⟨h.regions.keep hb hB, own_keep h.consts hb hB, h.funcs.keep hb hB, own_keep h.certs hb hB⟩
theorem OwnP.base {w : World} {base base' : Nat} {v : VP} {p : MP} (h : OwnP w base v p) (hb : base' ≤ base) : OwnP w base' v p := ⟨h.regions.base hb, own_base h.consts hb, h.funcs.base hb, own_base h.certs hb⟩
theorem OwnP.below {w : World} {base : Nat} {v : VP} {p : MP} (h : OwnP w base v p) {a : Addr} (ha : a.block < base) (u : Value) : OwnP (w.setCell a u) base v p := ⟨h.regions.below ha u, ownsRow_setCell_below h.consts ha u, h.funcs.below ha u, ownsRow_setCell_below h.certs ha u⟩

end Go.Proofs.YtalkpddhpmjgcaaGreat
namespace Go.Proofs.YtalkpddhpmjgcaaGreat
open Go.ChangeShapes Go.WideShapes Go.ChangeAt Go.RowKit
set_option linter.unusedVariables false
theorem below_drewN (B : Nat) (w : World) (nq : Nat) : Below B w (w.drewN nq) := ⟨rfl, rfl, rfl, Nat.le_refl _, fun _ _ => rfl⟩
theorem below_drew_trans {w u : World} (h : Below w.drew.heap.size w.drew u) {B : Nat} (hB : B ≤ w.heap.size) : Below B w u := ⟨h.os, h.tape, h.output, h.size, fun k hk => h.block k (Nat.lt_of_lt_of_le hk hB)⟩
set_option maxHeartbeats 1000000 in
theorem eqInt64S_quiet (s s' : Value) (ys : List Int) (w : World) (hn : ys.length ≤ 140737488355328) (h : Rd w 1 s ys.length (ys.flatMap intCell)) (h' : Rd w 1 s' ys.length (ys.flatMap intCell)) :
    Calls Tryz.prog 61 #[s, s'] w fun e w' => e = .returned (.bool true) ∧ ∃ m, w' = w.drewN m := by
  have H1 : Hid (Rd w 1 s ys.length (ys.flatMap intCell)) := h
  have H2 : Hid (Rd w 1 s' ys.length (ys.flatMap intCell)) := h'
  obtain ⟨a1, c1, rfl⟩ := h.is_slice
  obtain ⟨a2, c2, rfl⟩ := h'.is_slice
  clear h h'
  generalize hLL : ys.length = n at hn H1 H2
  have HL : Hid (ys.length = n) := hLL
  clear hLL
  go_enter Tryz.func61, Tryz.ntmps61
  go_wp2
  go_loopw [5] (fun i wr => ∃ k : Nat, k ≤ n ∧ i = .int .i64 k ∧ ∃ m, wr = w.drewN m) (fun i _ => n - (intOf i).toNat)
  case atStart => exact ⟨0, by omega, rfl, 0, rfl⟩
  case round =>
    obtain ⟨k, hk, rfl, m, rfl⟩ := hrel
    by_cases hlt : k < n
    · obtain ⟨x, hx⟩ : ∃ x, ys[k]? = some x := ⟨_, List.getElem?_eq_getElem (by rw [HL.out]; exact hlt)⟩
      rcases H1.out.2 with ⟨e0, _⟩ | ⟨g, o, c, e1, hc1⟩
      · omega
      · rcases H2.out.2 with ⟨e0, _⟩ | ⟨g', o', c', e2, hc2⟩
        · omega
        · simp only [Value.slice.injEq, true_and] at e1 e2
          obtain ⟨rfl, rfl⟩ := e1
          obtain ⟨rfl, rfl⟩ := e2
          have i0 := Rd.elem intCell_length hc1 k x hx 0 _ rfl
          have j0 := Rd.elem intCell_length hc2 k x hx 0 _ rfl
          rw [Nat.mul_one, Nat.add_zero] at i0 j0
          clear hc1 hc2 hx
          go_wp2
          go_quiet (fail)
          go_wp2
          go_roundw
          case rel => exact ⟨k + 1, by omega, by go_num, _, rfl⟩
          case measure => simp [intOf]; omega
    · go_wp2
      go_ret
      exact ⟨rfl, _, rfl⟩
theorem eqInt64S_same (s s' : Value) (ys : List Int) (w : World) (hn : ys.length ≤ 140737488355328) (h : Rd w 1 s ys.length (ys.flatMap intCell)) (h' : Rd w 1 s' ys.length (ys.flatMap intCell)) :
    Calls Tryz.prog 61 #[s, s'] w fun e w' => e = .returned (.bool true) ∧ Below w.heap.size w w' :=
  (eqInt64S_quiet s s' ys w hn h h').mono fun e w' ⟨h1, m, h2⟩ => ⟨h1, h2 ▸ below_drewN _ _ _⟩
set_option maxHeartbeats 1000000 in
theorem eqInstr_same (x : MI) (w : World) :
    Calls Tryz.prog 101 #[.agg #[.int .i64 x.op, .int .i64 x.a, .int .i64 x.b, .int .i64 x.c], .agg #[.int .i64 x.op, .int .i64 x.a, .int .i64 x.b, .int .i64 x.c]] w fun e w' => e = .returned (.bool true) ∧ Below w.heap.size w w' := by
  go_enter Tryz.func101, Tryz.ntmps101
  go_wp2
  go_ret
  exact ⟨rfl, (((Below.refl _ _).alloc (Nat.le_refl _) _).alloc (by simp) _)⟩
set_option maxHeartbeats 1000000 in
theorem eqConst_same (x : MC) (w : World) :
    Calls Tryz.prog 62 #[.agg #[.int .i64 x.type, .int .u32 x.word], .agg #[.int .i64 x.type, .int .u32 x.word]] w fun e w' => e = .returned (.bool true) ∧ Below w.heap.size w w' := by
  go_enter Tryz.func62, Tryz.ntmps62
  go_wp2
  go_ret
  exact ⟨rfl, (((Below.refl _ _).alloc (Nat.le_refl _) _).alloc (by simp) _)⟩
set_option maxHeartbeats 1000000 in
theorem eqCert_same (x : MT) (w : World) :
    Calls Tryz.prog 64 #[.agg #[.int .i64 x.func, .int .i64 x.head, .int .i64 x.counter, .int .u32 x.init], .agg #[.int .i64 x.func, .int .i64 x.head, .int .i64 x.counter, .int .u32 x.init]] w fun e w' => e = .returned (.bool true) ∧ Below w.heap.size w w' := by
  go_enter Tryz.func64, Tryz.ntmps64
  go_wp2
  go_ret
  exact ⟨rfl, (((Below.refl _ _).alloc (Nat.le_refl _) _).alloc (by simp) _)⟩
set_option maxHeartbeats 1000000 in
theorem eqInstrS_same (s s' : Value) (ys : List MI) (w : World) (hn : ys.length ≤ 1048576) (h : Rd w 4 s ys.length (ys.flatMap MI.cells)) (h' : Rd w 4 s' ys.length (ys.flatMap MI.cells)) :
    Calls Tryz.prog 87 #[s, s'] w fun e w' => e = .returned (.bool true) ∧ Below w.heap.size w w' := by
  have H1 : Hid (Rd w 4 s ys.length (ys.flatMap MI.cells)) := h
  have H2 : Hid (Rd w 4 s' ys.length (ys.flatMap MI.cells)) := h'
  obtain ⟨a1, c1, rfl⟩ := h.is_slice
  obtain ⟨a2, c2, rfl⟩ := h'.is_slice
  clear h h'
  generalize hLL : ys.length = n at hn H1 H2
  have HL : Hid (ys.length = n) := hLL
  clear hLL
  go_enter Tryz.func87, Tryz.ntmps87
  go_wp2
  go_loopw [5] (fun i wr => ∃ k : Nat, k ≤ n ∧ i = .int .i64 k ∧ Below w.heap.size w wr) (fun i _ => n - (intOf i).toNat)
  case atStart => exact ⟨0, by omega, rfl, Below.refl _ _⟩
  case round =>
    obtain ⟨k, hk, rfl, hbel⟩ := hrel
    have HB : Hid (Below w.heap.size w wr) := hbel
    clear hbel
    by_cases hlt : k < n
    · obtain ⟨x, hx⟩ : ∃ x, ys[k]? = some x := ⟨_, List.getElem?_eq_getElem (by rw [HL.out]; exact hlt)⟩
      rcases H1.out.2 with ⟨e0, _⟩ | ⟨g, o, c, e1, hc1⟩
      · omega
      · rcases H2.out.2 with ⟨e0, _⟩ | ⟨g', o', c', e2, hc2⟩
        · omega
        · simp only [Value.slice.injEq, true_and] at e1 e2
          obtain ⟨rfl, rfl⟩ := e1
          obtain ⟨rfl, rfl⟩ := e2
          have i0 := Rd.elem MI.cells_length hc1 k x hx 0 _ rfl
          have i1 := Rd.elem MI.cells_length hc1 k x hx 1 _ rfl
          have i2 := Rd.elem MI.cells_length hc1 k x hx 2 _ rfl
          have i3 := Rd.elem MI.cells_length hc1 k x hx 3 _ rfl
          have j0 := Rd.elem MI.cells_length hc2 k x hx 0 _ rfl
          have j1 := Rd.elem MI.cells_length hc2 k x hx 1 _ rfl
          have j2 := Rd.elem MI.cells_length hc2 k x hx 2 _ rfl
          have j3 := Rd.elem MI.cells_length hc2 k x hx 3 _ rfl
          rw [← HB.out.cell (block_lt_of_cell i0), Nat.add_zero] at i0
          rw [← HB.out.cell (block_lt_of_cell i1)] at i1
          rw [← HB.out.cell (block_lt_of_cell i2)] at i2
          rw [← HB.out.cell (block_lt_of_cell i3)] at i3
          rw [← HB.out.cell (block_lt_of_cell j0), Nat.add_zero] at j0
          rw [← HB.out.cell (block_lt_of_cell j1)] at j1
          rw [← HB.out.cell (block_lt_of_cell j2)] at j2
          rw [← HB.out.cell (block_lt_of_cell j3)] at j3
          clear hc1 hc2 hx
          go_wp2_with fail
          go_region_with (go_at_call 101; refine (eqInstr_same x _).mono ?_; rintro e u ⟨rfl, hbu⟩)
          all_goals
            have HB2 : Hid (Below w.heap.size w u) := HB.out.trans (below_drew_trans hbu HB.out.size)
            clear hbu HB i0 i1 i2 i3 j0 j1 j2 j3
            go_wp2
            go_roundw
            case rel => exact ⟨k + 1, by omega, by go_num, HB2.out⟩
            case measure => simp [intOf]; omega
    · go_wp2
      go_ret
      exact ⟨rfl, HB.out⟩
set_option maxHeartbeats 1000000 in
theorem eqCertS_same (s s' : Value) (ys : List MT) (w : World) (hn : ys.length ≤ 1048576) (h : Rd w 4 s ys.length (ys.flatMap MT.cells)) (h' : Rd w 4 s' ys.length (ys.flatMap MT.cells)) :
    Calls Tryz.prog 30 #[s, s'] w fun e w' => e = .returned (.bool true) ∧ Below w.heap.size w w' := by
  have H1 : Hid (Rd w 4 s ys.length (ys.flatMap MT.cells)) := h
  have H2 : Hid (Rd w 4 s' ys.length (ys.flatMap MT.cells)) := h'
  obtain ⟨a1, c1, rfl⟩ := h.is_slice
  obtain ⟨a2, c2, rfl⟩ := h'.is_slice
  clear h h'
  generalize hLL : ys.length = n at hn H1 H2
  have HL : Hid (ys.length = n) := hLL
  clear hLL
  go_enter Tryz.func30, Tryz.ntmps30
  go_wp2
  go_loopw [5] (fun i wr => ∃ k : Nat, k ≤ n ∧ i = .int .i64 k ∧ Below w.heap.size w wr) (fun i _ => n - (intOf i).toNat)
  case atStart => exact ⟨0, by omega, rfl, Below.refl _ _⟩
  case round =>
    obtain ⟨k, hk, rfl, hbel⟩ := hrel
    have HB : Hid (Below w.heap.size w wr) := hbel
    clear hbel
    by_cases hlt : k < n
    · obtain ⟨x, hx⟩ : ∃ x, ys[k]? = some x := ⟨_, List.getElem?_eq_getElem (by rw [HL.out]; exact hlt)⟩
      rcases H1.out.2 with ⟨e0, _⟩ | ⟨g, o, c, e1, hc1⟩
      · omega
      · rcases H2.out.2 with ⟨e0, _⟩ | ⟨g', o', c', e2, hc2⟩
        · omega
        · simp only [Value.slice.injEq, true_and] at e1 e2
          obtain ⟨rfl, rfl⟩ := e1
          obtain ⟨rfl, rfl⟩ := e2
          have i0 := Rd.elem MT.cells_length hc1 k x hx 0 _ rfl
          have i1 := Rd.elem MT.cells_length hc1 k x hx 1 _ rfl
          have i2 := Rd.elem MT.cells_length hc1 k x hx 2 _ rfl
          have i3 := Rd.elem MT.cells_length hc1 k x hx 3 _ rfl
          have j0 := Rd.elem MT.cells_length hc2 k x hx 0 _ rfl
          have j1 := Rd.elem MT.cells_length hc2 k x hx 1 _ rfl
          have j2 := Rd.elem MT.cells_length hc2 k x hx 2 _ rfl
          have j3 := Rd.elem MT.cells_length hc2 k x hx 3 _ rfl
          rw [← HB.out.cell (block_lt_of_cell i0), Nat.add_zero] at i0
          rw [← HB.out.cell (block_lt_of_cell i1)] at i1
          rw [← HB.out.cell (block_lt_of_cell i2)] at i2
          rw [← HB.out.cell (block_lt_of_cell i3)] at i3
          rw [← HB.out.cell (block_lt_of_cell j0), Nat.add_zero] at j0
          rw [← HB.out.cell (block_lt_of_cell j1)] at j1
          rw [← HB.out.cell (block_lt_of_cell j2)] at j2
          rw [← HB.out.cell (block_lt_of_cell j3)] at j3
          clear hc1 hc2 hx
          go_wp2_with fail
          go_region_with (go_at_call 64; refine (eqCert_same x _).mono ?_; rintro e u ⟨rfl, hbu⟩)
          all_goals
            have HB2 : Hid (Below w.heap.size w u) := HB.out.trans (below_drew_trans hbu HB.out.size)
            clear hbu HB i0 i1 i2 i3 j0 j1 j2 j3
            go_wp2
            go_roundw
            case rel => exact ⟨k + 1, by omega, by go_num, HB2.out⟩
            case measure => simp [intOf]; omega
    · go_wp2
      go_ret
      exact ⟨rfl, HB.out⟩
set_option maxHeartbeats 1000000 in
theorem eqConstS_same (s s' : Value) (ys : List MC) (w : World) (hn : ys.length ≤ 1048576) (h : Rd w 2 s ys.length (ys.flatMap MC.cells)) (h' : Rd w 2 s' ys.length (ys.flatMap MC.cells)) :
    Calls Tryz.prog 28 #[s, s'] w fun e w' => e = .returned (.bool true) ∧ Below w.heap.size w w' := by
  have H1 : Hid (Rd w 2 s ys.length (ys.flatMap MC.cells)) := h
  have H2 : Hid (Rd w 2 s' ys.length (ys.flatMap MC.cells)) := h'
  obtain ⟨a1, c1, rfl⟩ := h.is_slice
  obtain ⟨a2, c2, rfl⟩ := h'.is_slice
  clear h h'
  generalize hLL : ys.length = n at hn H1 H2
  have HL : Hid (ys.length = n) := hLL
  clear hLL
  go_enter Tryz.func28, Tryz.ntmps28
  go_wp2
  go_loopw [5] (fun i wr => ∃ k : Nat, k ≤ n ∧ i = .int .i64 k ∧ Below w.heap.size w wr) (fun i _ => n - (intOf i).toNat)
  case atStart => exact ⟨0, by omega, rfl, Below.refl _ _⟩
  case round =>
    obtain ⟨k, hk, rfl, hbel⟩ := hrel
    have HB : Hid (Below w.heap.size w wr) := hbel
    clear hbel
    by_cases hlt : k < n
    · obtain ⟨x, hx⟩ : ∃ x, ys[k]? = some x := ⟨_, List.getElem?_eq_getElem (by rw [HL.out]; exact hlt)⟩
      rcases H1.out.2 with ⟨e0, _⟩ | ⟨g, o, c, e1, hc1⟩
      · omega
      · rcases H2.out.2 with ⟨e0, _⟩ | ⟨g', o', c', e2, hc2⟩
        · omega
        · simp only [Value.slice.injEq, true_and] at e1 e2
          obtain ⟨rfl, rfl⟩ := e1
          obtain ⟨rfl, rfl⟩ := e2
          have i0 := Rd.elem MC.cells_length hc1 k x hx 0 _ rfl
          have i1 := Rd.elem MC.cells_length hc1 k x hx 1 _ rfl
          have j0 := Rd.elem MC.cells_length hc2 k x hx 0 _ rfl
          have j1 := Rd.elem MC.cells_length hc2 k x hx 1 _ rfl
          rw [← HB.out.cell (block_lt_of_cell i0), Nat.add_zero] at i0
          rw [← HB.out.cell (block_lt_of_cell i1)] at i1
          rw [← HB.out.cell (block_lt_of_cell j0), Nat.add_zero] at j0
          rw [← HB.out.cell (block_lt_of_cell j1)] at j1
          clear hc1 hc2 hx
          go_wp2_with fail
          go_region_with (go_at_call 62; refine (eqConst_same x _).mono ?_; rintro e u ⟨rfl, hbu⟩)
          all_goals
            have HB2 : Hid (Below w.heap.size w u) := HB.out.trans (below_drew_trans hbu HB.out.size)
            clear hbu HB i0 i1 j0 j1
            go_wp2
            go_roundw
            case rel => exact ⟨k + 1, by omega, by go_num, HB2.out⟩
            case measure => simp [intOf]; omega
    · go_wp2
      go_ret
      exact ⟨rfl, HB.out⟩
end Go.Proofs.YtalkpddhpmjgcaaGreat
