import Derived.Test.YthifelgdkmkdkaaGreatDoorFm2
import Derived.OneCell
namespace Go.Proofs.YthifelgdkmkdkaaGreatDoor
open Go.ChangeShapes Go.WideShapes Go.ChangeAt Go.RowKit
set_option linter.unusedVariables false
/-- A function of a program. -/
structure MF where
  params : List Int
  result : Int
  locals : List Int
  code : List MI
/-- Its three lists, as values. -/
structure VF where
  p : Value
  l : Value
  c : Value
def RdF (w : World) (v : VF) (f : MF) : Prop := Rd w 1 v.p f.params.length (f.params.flatMap intCell) ∧ Rd w 1 v.l f.locals.length (f.locals.flatMap intCell) ∧ Rd w 4 v.c f.code.length (f.code.flatMap MI.cells)
def OwnF (w : World) (base : Nat) (v : VF) (f : MF) : Prop := w.ownsRow base 2 1 v.p f.params.length (f.params.flatMap intCell) ∧ w.ownsRow base 2 1 v.l f.locals.length (f.locals.flatMap intCell) ∧ w.ownsRow base 55 4 v.c f.code.length (f.code.flatMap MI.cells)
def MF.small (f : MF) : Prop := f.params.length ≤ 1048576 ∧ f.locals.length ≤ 1048576 ∧ f.code.length ≤ 1048576
theorem OwnF.rd {w : World} {base : Nat} {v : VF} {f : MF} (h : OwnF w base v f) : RdF w v f := ⟨Rd.of_own h.1, Rd.of_own h.2.1, Rd.of_own h.2.2⟩
theorem RdF.keep {w w' : World} {v : VF} {f : MF} (h : RdF w v f) {B : Nat} (hb : Below B w w') (hB : w.heap.size ≤ B) : RdF w' v f := ⟨h.1.keep hb hB, h.2.1.keep hb hB, h.2.2.keep hb hB⟩
theorem OwnF.keep {w w' : World} {base : Nat} {v : VF} {f : MF} (h : OwnF w base v f) {B : Nat} (hb : Below B w w') (hB : w.heap.size ≤ B) : OwnF w' base v f := ⟨own_keep h.1 hb hB, own_keep h.2.1 hb hB, own_keep h.2.2 hb hB⟩
theorem own_base {w : World} {base base' : Nat} {e : TypeId} {s : Value} {k n : Nat} {xs : List Value} (h : w.ownsRow base e k s n xs) (hb : base' ≤ base) : w.ownsRow base' e k s n xs := by
  refine ⟨h.1, ?_⟩
  rcases h.2 with h | ⟨g, cap, cur, e1, hb1, hg, hr⟩
  · exact .inl h
  · exact .inr ⟨g, cap, cur, e1, Nat.le_trans hb hb1, hg, hr⟩
/-- A block of four cells. -/
theorem row4 {w : World} {base : Nat} {e : TypeId} {g : Nat} {a b c d : Value} (h : w.ownsRow base e 4 (.slice (some ⟨g, 0, none⟩) 1 1) 1 [a, b, c, d]) :
    w.cell? ⟨g, 0, none⟩ = some a ∧ w.cell? ⟨g, 1, none⟩ = some b ∧ w.cell? ⟨g, 2, none⟩ = some c ∧ w.cell? ⟨g, 3, none⟩ = some d ∧ w.frozen? ⟨g, 0, none⟩ = false ∧ w.frozen? ⟨g, 1, none⟩ = false ∧ w.frozen? ⟨g, 2, none⟩ = false ∧ w.frozen? ⟨g, 3, none⟩ = false :=
  ⟨h.cellAt 0 (by omega), h.cellAt 1 (by omega), h.cellAt 2 (by omega), h.cellAt 3 (by omega), h.frozenAt 0, h.frozenAt 1, h.frozenAt 2, h.frozenAt 3⟩

/-- A call's three blocks of four cells: the argument, the result, the local. -/
structure Fr (w u : World) (tp tr : TypeId) (p r o : List Value) : Prop where
  par : u.ownsRow w.heap.size tp 4 (.slice (some ⟨w.heap.size, 0, none⟩) 1 1) 1 p
  res : u.ownsRow w.heap.size tr 4 (.slice (some ⟨w.heap.size + 1, 0, none⟩) 1 1) 1 r
  loc : u.ownsRow w.heap.size tr 4 (.slice (some ⟨w.heap.size + 1 + 1, 0, none⟩) 1 1) 1 o
  bel : Below w.heap.size w u
  siz : w.heap.size + 3 ≤ u.heap.size
theorem Fr.of (w : World) (tp tr : TypeId) (p r o : Array Value) (hp : p.size = 4) (hr : r.size = 4) (ho : o.size = 4) :
    Fr w (((w.alloc (.cells p tp)).alloc (.cells r tr)).alloc (.cells o tr)) tp tr p.toList r.toList o.toList := by
  have b1 : Below w.heap.size w (w.alloc (.cells p tp)) := (Below.refl _ _).alloc (Nat.le_refl _) _
  have c2 : Below (w.alloc (.cells p tp)).heap.size (w.alloc (.cells p tp)) ((w.alloc (.cells p tp)).alloc (.cells r tr)) := (Below.refl _ _).alloc (Nat.le_refl _) _
  have c3 : Below ((w.alloc (.cells p tp)).alloc (.cells r tr)).heap.size ((w.alloc (.cells p tp)).alloc (.cells r tr)) (((w.alloc (.cells p tp)).alloc (.cells r tr)).alloc (.cells o tr)) := (Below.refl _ _).alloc (Nat.le_refl _) _
  have r1 := World.ownsRow_lit (base := w.heap.size) (e := tp) (size := 4) w p 1 (Nat.le_refl _) (by unfold maxLen; omega) (by omega)
  have r2 := World.ownsRow_lit (base := w.heap.size) (e := tr) (size := 4) (w.alloc (.cells p tp)) r 1 (by simp) (by unfold maxLen; omega) (by omega)
  have r3 := World.ownsRow_lit (base := w.heap.size) (e := tr) (size := 4) ((w.alloc (.cells p tp)).alloc (.cells r tr)) o 1 (by simp <;> omega) (by unfold maxLen; omega) (by omega)
  refine ⟨own_keep (own_keep r1 c2 (Nat.le_refl _)) c3 (Nat.le_refl _), ?_, ?_, (b1.trans (c2.mono (by simp))).trans (c3.mono (by simp <;> omega)), by simp <;> omega⟩
  · have := own_keep r2 c3 (Nat.le_refl _)
    simpa using this
  · simpa using r3
theorem Fr.keep {w u u' : World} {tp tr : TypeId} {p r o : List Value} (h : Fr w u tp tr p r o) (hb : Below u.heap.size u u') : Fr w u' tp tr p r o :=
  ⟨own_keep h.par hb (Nat.le_refl _), own_keep h.res hb (Nat.le_refl _), own_keep h.loc hb (Nat.le_refl _), h.bel.trans (hb.mono (by have := h.siz; omega)), Nat.le_trans h.siz hb.size⟩
theorem Fr.set {w u : World} {tp tr : TypeId} {p r o : List Value} (h : Fr w u tp tr p r o) (j : Nat) (x : Value) : Fr w (u.setCell ⟨w.heap.size + 1 + 1, j, none⟩ x) tp tr p r (o.set j x) :=
  ⟨ownsRow_setCell_other h.par (by simp [Value.ownBlock] <;> omega) x, ownsRow_setCell_other h.res (by simp [Value.ownBlock]) x, (h.loc.stored j x).1, h.bel.setCell (by simp <;> omega) x, by have := h.siz; simpa using this⟩
theorem Fr.set' {w u : World} {tp tr : TypeId} {p r o : List Value} (h : Fr w u tp tr p r o) (j : Nat) (x : Value) : Fr w (u.setCell ⟨w.heap.size + 1, j, none⟩ x) tp tr p (r.set j x) o :=
  ⟨ownsRow_setCell_other h.par (by simp [Value.ownBlock] <;> omega) x, (h.res.stored j x).1, ownsRow_setCell_other h.loc (by simp [Value.ownBlock]) x, h.bel.setCell (by simp) x, by have := h.siz; simpa using this⟩
/-- A store into the call's own blocks leaves what lies behind them. -/
theorem own_set {w u : World} {e : TypeId} {s : Value} {k n : Nat} {xs : List Value} (h : u.ownsRow (w.heap.size + 3) e k s n xs) (g j : Nat) (hg : g < w.heap.size + 3) (x : Value) : (u.setCell ⟨g, j, none⟩ x).ownsRow (w.heap.size + 3) e k s n xs := ownsRow_setCell_below h hg x

theorem toInt64S_new (s : Value) (ys : List Int) (w : World) (hL : ys.length ≤ 1048576) (h : Rd w 1 s ys.length (ys.flatMap intCell)) :
    Calls Tryz.prog 42 #[s] w fun e w' => ∃ a c, e = .returned (.slice a ys.length c) ∧ w'.ownsRow w.heap.size 2 1 (.slice a ys.length c) ys.length (ys.flatMap intCell) ∧ Below w.heap.size w w' :=
  (toInt64S_any s ys.length ys w hL h rfl).mono fun e w' h => ⟨_, _, h.1, h.2.1, h.2.2⟩
theorem toInstrS_new (s : Value) (ys : List MI) (w : World) (hL : ys.length ≤ 1048576) (h : Rd w 4 s ys.length (ys.flatMap MI.cells)) :
    Calls Tryz.prog 65 #[s] w fun e w' => ∃ a c, e = .returned (.slice a ys.length c) ∧ w'.ownsRow w.heap.size 55 4 (.slice a ys.length c) ys.length (ys.flatMap MI.cells) ∧ Below w.heap.size w w' :=
  (toInstrS_any s ys.length ys w hL h rfl).mono fun e w' h => ⟨_, _, h.1, h.2.1, h.2.2⟩
theorem toConstS_new (s : Value) (ys : List MC) (w : World) (hL : ys.length ≤ 1048576) (h : Rd w 2 s ys.length (ys.flatMap MC.cells)) :
    Calls Tryz.prog 19 #[s] w fun e w' => ∃ a c, e = .returned (.slice a ys.length c) ∧ w'.ownsRow w.heap.size 49 2 (.slice a ys.length c) ys.length (ys.flatMap MC.cells) ∧ Below w.heap.size w w' :=
  (toConstS_any s ys.length ys w hL h rfl).mono fun e w' h => ⟨_, _, h.1, h.2.1, h.2.2⟩
theorem toCertS_new (s : Value) (ys : List MT) (w : World) (hL : ys.length ≤ 1048576) (h : Rd w 4 s ys.length (ys.flatMap MT.cells)) :
    Calls Tryz.prog 21 #[s] w fun e w' => ∃ a c, e = .returned (.slice a ys.length c) ∧ w'.ownsRow w.heap.size 57 4 (.slice a ys.length c) ys.length (ys.flatMap MT.cells) ∧ Below w.heap.size w w' :=
  (toCertS_any s ys.length ys w hL h rfl).mono fun e w' h => ⟨_, _, h.1, h.2.1, h.2.2⟩

set_option maxHeartbeats 4000000 in
set_option maxRecDepth 100000 in
theorem toFunc_any (v : VF) (f : MF) (w : World) (hs : f.small) (h : RdF w v f) :
    Calls Tryz.prog 44 #[.agg #[v.p, .int .i64 f.result, v.l, v.c]] w fun e w' => ∃ a1 c1 a2 c2 a3 c3, e = .returned (.agg #[.slice a1 f.params.length c1, .int .i64 f.result, .slice a2 f.locals.length c2, .slice a3 f.code.length c3]) ∧ OwnF w' w.heap.size ⟨.slice a1 f.params.length c1, .slice a2 f.locals.length c2, .slice a3 f.code.length c3⟩ f ∧ Below w.heap.size w w' := by
  have H : Hid (RdF w v f ∧ f.small) := ⟨h, hs⟩
  clear h hs
  have F0 := Fr.of w 85 52 #[v.p, .int .i64 f.result, v.l, v.c] #[.slice none 0 0, .int .i64 0, .slice none 0 0, .slice none 0 0] #[.slice none 0 0, .int .i64 0, .slice none 0 0, .slice none 0 0] rfl rfl rfl
  go_enter Tryz.func44, Tryz.ntmps44
  go_wp2_with fail
  refine (toInt64S_new v.p f.params _ H.out.2.1 (H.out.1.1.keep F0.bel (Nat.le_refl _))).mono ?_
  rintro e u1 ⟨a1, c1, rfl, own1, b1⟩
  have O1 : Hid (u1.ownsRow (w.heap.size + 3) 2 1 (.slice a1 f.params.length c1) f.params.length (f.params.flatMap intCell)) := own_base own1 F0.siz
  have F1 := F0.keep b1
  clear own1 b1 F0
  obtain ⟨p0, p1, p2, p3, _⟩ := row4 F1.par
  obtain ⟨o0, o1, o2, o3, z0, z1, z2, z3⟩ := row4 F1.loc
  go_wp2_with fail
  have F2 := (F1.set 0 (.slice a1 f.params.length c1)).set 1 (.int .i64 f.result)
  have O2 : Hid _ := own_set (w := w) (own_set (w := w) O1.out (w.heap.size + 1 + 1) 0 (by omega) (.slice a1 f.params.length c1)) (w.heap.size + 1 + 1) 1 (by omega) (.int .i64 f.result)
  clear O1 F1 p0 p1 p2 p3 o0 o1 o2 o3 z0 z1 z2 z3
  simp only [List.set_cons_zero, List.set_cons_succ] at F2
  refine (toInt64S_new v.l f.locals _ H.out.2.2.1 (H.out.1.2.1.keep F2.bel (Nat.le_refl _))).mono ?_
  rintro e u2 ⟨a2, c2, rfl, own2, b2⟩
  have O3 : Hid (u2.ownsRow (w.heap.size + 3) 2 1 (.slice a1 f.params.length c1) f.params.length (f.params.flatMap intCell) ∧ u2.ownsRow (w.heap.size + 3) 2 1 (.slice a2 f.locals.length c2) f.locals.length (f.locals.flatMap intCell)) := ⟨own_keep O2.out b2 (Nat.le_refl _), own_base own2 F2.siz⟩
  have F3 := F2.keep b2
  clear own2 b2 F2 O2
  obtain ⟨p0, p1, p2, p3, _⟩ := row4 F3.par
  obtain ⟨o0, o1, o2, o3, z0, z1, z2, z3⟩ := row4 F3.loc
  go_wp2_with fail
  have F4 := F3.set 2 (.slice a2 f.locals.length c2)
  have O4 : Hid _ := And.intro (own_set (w := w) O3.out.1 (w.heap.size + 1 + 1) 2 (by omega) (.slice a2 f.locals.length c2)) (own_set (w := w) O3.out.2 (w.heap.size + 1 + 1) 2 (by omega) (.slice a2 f.locals.length c2))
  clear O3 F3 p0 p1 p2 p3 o0 o1 o2 o3 z0 z1 z2 z3
  simp only [List.set_cons_zero, List.set_cons_succ] at F4
  refine (toInstrS_new v.c f.code _ H.out.2.2.2 (H.out.1.2.2.keep F4.bel (Nat.le_refl _))).mono ?_
  rintro e u3 ⟨a3, c3, rfl, own3, b3⟩
  have O5 : Hid (u3.ownsRow (w.heap.size + 3) 2 1 (.slice a1 f.params.length c1) f.params.length (f.params.flatMap intCell) ∧ u3.ownsRow (w.heap.size + 3) 2 1 (.slice a2 f.locals.length c2) f.locals.length (f.locals.flatMap intCell) ∧ u3.ownsRow (w.heap.size + 3) 55 4 (.slice a3 f.code.length c3) f.code.length (f.code.flatMap MI.cells)) := ⟨own_keep O4.out.1 b3 (Nat.le_refl _), own_keep O4.out.2 b3 (Nat.le_refl _), own_base own3 F4.siz⟩
  have F5 := F4.keep b3
  clear own3 b3 F4 O4
  obtain ⟨p0, p1, p2, p3, _⟩ := row4 F5.par
  obtain ⟨o0, o1, o2, o3, z0, z1, z2, z3⟩ := row4 F5.loc
  obtain ⟨q0, q1, q2, q3, y0, y1, y2, y3⟩ := row4 F5.res
  go_wp2_with fail
  clear p0 p1 p2 p3 o0 o1 o2 o3 z0 z1 z2 z3 q0 q1 q2 q3 y0 y1 y2 y3
  have F6 := ((((F5.set 3 (.slice a3 f.code.length c3)).set' 0 (.slice a1 f.params.length c1)).set' 1 (.int .i64 f.result)).set' 2 (.slice a2 f.locals.length c2)).set' 3 (.slice a3 f.code.length c3)
  simp only [List.set_cons_zero, List.set_cons_succ] at F6
  obtain ⟨q0, q1, q2, q3, _⟩ := row4 F6.res
  have hall : ∀ {e : TypeId} {s : Value} {k n : Nat} {xs : List Value}, u3.ownsRow (w.heap.size + 3) e k s n xs → (((((u3.setCell ⟨w.heap.size + 1 + 1, 3, none⟩ (.slice a3 f.code.length c3)).setCell ⟨w.heap.size + 1, 0, none⟩ (.slice a1 f.params.length c1)).setCell ⟨w.heap.size + 1, 1, none⟩ (.int .i64 f.result)).setCell ⟨w.heap.size + 1, 2, none⟩ (.slice a2 f.locals.length c2)).setCell ⟨w.heap.size + 1, 3, none⟩ (.slice a3 f.code.length c3)).ownsRow w.heap.size e k s n xs := fun h =>
    own_base (own_set (own_set (own_set (own_set (own_set h _ _ (by omega) _) _ _ (by omega) _) _ _ (by omega) _) _ _ (by omega) _) _ _ (by omega) _) (by omega)
  exact bodyPost_ret (v := .agg #[.slice a1 f.params.length c1, .int .i64 f.result, .slice a2 f.locals.length c2, .slice a3 f.code.length c3]) (by simp [results, Tryz.results44, go_sem, q0, q1, q2, q3]) rfl ⟨a1, c1, a2, c2, a3, c3, rfl, ⟨hall O5.out.1, hall O5.out.2.1, hall O5.out.2.2⟩, F6.bel⟩
end Go.Proofs.YthifelgdkmkdkaaGreatDoor
namespace Go.Proofs.YthifelgdkmkdkaaGreatDoor
open Go.ChangeShapes Go.WideShapes Go.ChangeAt Go.RowKit
set_option linter.unusedVariables false
/-- The cells of a function in its row. -/
def fCells (x : MF × VF) : List Value := [x.2.p, .int .i64 x.1.result, x.2.l, x.2.c]
theorem fCells_length (x : MF × VF) : (fCells x).length = 4 := rfl
def rCells (x : List Int × Value) : List Value := [x.2]
theorem rCells_length (x : List Int × Value) : (rCells x).length = 1 := rfl
/-- A list of functions. -/
def RdFs (w : World) (s : Value) (fs : List MF) : Prop := ∃ xs : List (MF × VF), xs.map Prod.fst = fs ∧ Rd w 4 s fs.length (xs.flatMap fCells) ∧ ∀ x ∈ xs, RdF w x.2 x.1
def OwnFs (w : World) (base : Nat) (s : Value) (fs : List MF) : Prop := ∃ xs : List (MF × VF), xs.map Prod.fst = fs ∧ w.ownsRow base 52 4 s fs.length (xs.flatMap fCells) ∧ ∀ x ∈ xs, OwnF w base x.2 x.1
/-- A list of lists. -/
def RdR (w : World) (s : Value) (rs : List (List Int)) : Prop := ∃ xs : List (List Int × Value), xs.map Prod.fst = rs ∧ Rd w 1 s rs.length (xs.flatMap rCells) ∧ ∀ x ∈ xs, Rd w 1 x.2 x.1.length (x.1.flatMap intCell)
def OwnR (w : World) (base : Nat) (s : Value) (rs : List (List Int)) : Prop := ∃ xs : List (List Int × Value), xs.map Prod.fst = rs ∧ w.ownsRow base 45 1 s rs.length (xs.flatMap rCells) ∧ ∀ x ∈ xs, w.ownsRow base 2 1 x.2 x.1.length (x.1.flatMap intCell)
theorem OwnFs.rd {w : World} {base : Nat} {s : Value} {fs : List MF} (h : OwnFs w base s fs) : RdFs w s fs := by
  obtain ⟨xs, h1, h2, h3⟩ := h
  exact ⟨xs, h1, Rd.of_own h2, fun x hx => (h3 x hx).rd⟩
theorem OwnR.rd {w : World} {base : Nat} {s : Value} {rs : List (List Int)} (h : OwnR w base s rs) : RdR w s rs := by
  obtain ⟨xs, h1, h2, h3⟩ := h
  exact ⟨xs, h1, Rd.of_own h2, fun x hx => Rd.of_own (h3 x hx)⟩
theorem RdFs.keep {w w' : World} {s : Value} {fs : List MF} (h : RdFs w s fs) {B : Nat} (hb : Below B w w') (hB : w.heap.size ≤ B) : RdFs w' s fs := by
  obtain ⟨xs, h1, h2, h3⟩ := h
  exact ⟨xs, h1, h2.keep hb hB, fun x hx => (h3 x hx).keep hb hB⟩
theorem RdR.keep {w w' : World} {s : Value} {rs : List (List Int)} (h : RdR w s rs) {B : Nat} (hb : Below B w w') (hB : w.heap.size ≤ B) : RdR w' s rs := by
  obtain ⟨xs, h1, h2, h3⟩ := h
  exact ⟨xs, h1, h2.keep hb hB, fun x hx => (h3 x hx).keep hb hB⟩
theorem OwnFs.keep {w w' : World} {base : Nat} {s : Value} {fs : List MF} (h : OwnFs w base s fs) {B : Nat} (hb : Below B w w') (hB : w.heap.size ≤ B) : OwnFs w' base s fs := by
  obtain ⟨xs, h1, h2, h3⟩ := h
  exact ⟨xs, h1, own_keep h2 hb hB, fun x hx => (h3 x hx).keep hb hB⟩
theorem OwnR.keep {w w' : World} {base : Nat} {s : Value} {rs : List (List Int)} (h : OwnR w base s rs) {B : Nat} (hb : Below B w w') (hB : w.heap.size ≤ B) : OwnR w' base s rs := by
  obtain ⟨xs, h1, h2, h3⟩ := h
  exact ⟨xs, h1, own_keep h2 hb hB, fun x hx => own_keep (h3 x hx) hb hB⟩
theorem OwnF.base {w : World} {base base' : Nat} {v : VF} {f : MF} (h : OwnF w base v f) (hb : base' ≤ base) : OwnF w base' v f := ⟨own_base h.1 hb, own_base h.2.1 hb, own_base h.2.2 hb⟩
theorem OwnFs.base {w : World} {base base' : Nat} {s : Value} {fs : List MF} (h : OwnFs w base s fs) (hb : base' ≤ base) : OwnFs w base' s fs := by
  obtain ⟨xs, h1, h2, h3⟩ := h
  exact ⟨xs, h1, own_base h2 hb, fun x hx => (h3 x hx).base hb⟩
theorem OwnR.base {w : World} {base base' : Nat} {s : Value} {rs : List (List Int)} (h : OwnR w base s rs) (hb : base' ≤ base) : OwnR w base' s rs := by
  obtain ⟨xs, h1, h2, h3⟩ := h
  exact ⟨xs, h1, own_base h2 hb, fun x hx => own_base (h3 x hx) hb⟩
theorem OwnF.below {w : World} {base : Nat} {v : VF} {f : MF} (h : OwnF w base v f) {a : Addr} (ha : a.block < base) (u : Value) : OwnF (w.setCell a u) base v f := ⟨ownsRow_setCell_below h.1 ha u, ownsRow_setCell_below h.2.1 ha u, ownsRow_setCell_below h.2.2 ha u⟩
theorem OwnFs.below {w : World} {base : Nat} {s : Value} {fs : List MF} (h : OwnFs w base s fs) {a : Addr} (ha : a.block < base) (u : Value) : OwnFs (w.setCell a u) base s fs := by
  obtain ⟨xs, h1, h2, h3⟩ := h
  exact ⟨xs, h1, ownsRow_setCell_below h2 ha u, fun x hx => (h3 x hx).below ha u⟩
theorem OwnR.below {w : World} {base : Nat} {s : Value} {rs : List (List Int)} (h : OwnR w base s rs) {a : Addr} (ha : a.block < base) (u : Value) : OwnR (w.setCell a u) base s rs := by
  obtain ⟨xs, h1, h2, h3⟩ := h
  exact ⟨xs, h1, ownsRow_setCell_below h2 ha u, fun x hx => ownsRow_setCell_below (h3 x hx) ha u⟩
theorem infoF : (Tryz.prog.info? 52).map (fun i => (i.zero, i.size, i.bytes)) = some (some (.agg #[.slice none 0 0, .int .i64 0, .slice none 0 0, .slice none 0 0]), 4, 80) := by kernel_rfl
theorem infoR : (Tryz.prog.info? 45).map (fun i => (i.zero, i.size, i.bytes)) = some (some (.slice none 0 0), 1, 24) := by kernel_rfl
theorem fst_at {α β : Type} {xs : List (α × β)} {fs : List α} (h : xs.map Prod.fst = fs) {k : Nat} {x : α × β} (hx : xs[k]? = some x) : fs[k]? = some x.1 := by
  rw [← h, List.getElem?_map, hx]
  rfl
theorem fst_next {α β : Type} {ys : List (α × β)} {fs : List α} {k : Nat} (h : ys.map Prod.fst = fs.take k) {f : α} (hf : fs[k]? = some f) (b : β) : (ys ++ [(f, b)]).map Prod.fst = fs.take (k + 1) := by
  obtain ⟨hlt, rfl⟩ := List.getElem?_eq_some_iff.1 hf
  rw [List.map_append, h, List.take_succ_eq_append_getElem hlt]
  rfl
/-- Copied so far: the cells of the new elements, then empty ones. -/
def newTo {α : Type} (f : α → List Value) (z : List Value) (ys : List α) (n : Nat) : List Value := ys.flatMap f ++ (List.replicate (n - ys.length) z).flatten
theorem newTo_zero {α : Type} (f : α → List Value) (z : List Value) (n : Nat) (v : Value) (m : Nat) (hv : v.cells = z.toArray) (hm : z.length = m) (h0 : 0 < m) : (madeCells v.cells (n * m)).toList = newTo f z [] n := by
  rw [flatTo_zero f z [] n v m hv hm h0]
  simp [flatTo, newTo]
theorem newTo_parts {α : Type} (f : α → List Value) (z : List Value) (ys : List α) (k n : Nat) (hk : k < n) (hl : ys.length = k) : newTo f z ys n = ys.flatMap f ++ (z ++ (List.replicate (n - (k + 1)) z).flatten) := by
  unfold newTo
  have e : n - ys.length = (n - (k + 1)) + 1 := by omega
  rw [e, List.replicate_succ, List.flatten_cons]
theorem newTo_next {α : Type} (f : α → List Value) (z : List Value) (ys : List α) (k n : Nat) (y : α) (hl : ys.length = k) : newTo f z (ys ++ [y]) n = ys.flatMap f ++ (f y ++ (List.replicate (n - (k + 1)) z).flatten) := by
  unfold newTo
  rw [List.flatMap_append, List.append_assoc]
  simp [hl]
theorem newTo_all {α : Type} (f : α → List Value) (z : List Value) (ys : List α) (n : Nat) (h : ys.length = n) : newTo f z ys n = ys.flatMap f := by simp [newTo, ← h]

theorem own_lt {w : World} {base : Nat} {e : TypeId} {g k n c : Nat} {xs : List Value} (h : w.ownsRow base e k (.slice (some ⟨g, 0, none⟩) n c) n xs) : g + 1 ≤ w.heap.size := by
  rcases h.2 with ⟨h', _⟩ | ⟨g', cap', cur, h', _, hg, _⟩
  · cases h'
  · cases h'
    exact (Array.getElem?_eq_some_iff.1 hg).1
/-- Where the copying of functions stands. -/
structure FSt (w wr : World) (fs : List MF) (L k : Nat) (ys : List (MF × VF)) : Prop where
  fst : ys.map Prod.fst = fs.take k
  len : ys.length = k
  row : wr.ownsRow w.heap.size 52 4 (.slice (some ⟨w.heap.size, 0, none⟩) L L) L (newTo fCells [.slice none 0 0, .int .i64 0, .slice none 0 0, .slice none 0 0] ys L)
  els : ∀ y ∈ ys, OwnF wr (w.heap.size + 1) y.2 y.1
  bel : Below w.heap.size w wr
  siz : w.heap.size + 1 ≤ wr.heap.size
theorem FSt.places {w wr : World} {fs : List MF} {L k : Nat} {ys : List (MF × VF)} (h : FSt w wr fs L k ys) (hk : k < L) {u : World} (hb : Below wr.heap.size wr u) :
    u.cell? ⟨w.heap.size, k * 4, none⟩ = some (.slice none 0 0) ∧ u.cell? ⟨w.heap.size, k * 4 + 1, none⟩ = some (.int .i64 0) ∧ u.cell? ⟨w.heap.size, k * 4 + 2, none⟩ = some (.slice none 0 0) ∧ u.cell? ⟨w.heap.size, k * 4 + 3, none⟩ = some (.slice none 0 0) ∧ u.frozen? ⟨w.heap.size, k * 4, none⟩ = false ∧ u.frozen? ⟨w.heap.size, k * 4 + 1, none⟩ = false ∧ u.frozen? ⟨w.heap.size, k * 4 + 2, none⟩ = false ∧ u.frozen? ⟨w.heap.size, k * 4 + 3, none⟩ = false := by
  have hown := own_keep h.row hb (Nat.le_refl _)
  rw [newTo_parts fCells _ ys k L hk h.len] at hown
  have hA : (ys.flatMap fCells).length = k * 4 := by rw [flat_length fCells 4 fCells_length, h.len]
  have d0 := hown.cellAt (k * 4) (by omega)
  have d1 := hown.cellAt (k * 4 + 1) (by omega)
  have d2 := hown.cellAt (k * 4 + 2) (by omega)
  have d3 := hown.cellAt (k * 4 + 3) (by omega)
  rw [List.getElem?_append_right (by omega), hA] at d0 d1 d2 d3
  rw [Nat.sub_self] at d0
  rw [Nat.add_sub_cancel_left] at d1 d2 d3
  exact ⟨d0, d1, d2, d3, hown.frozenAt _, hown.frozenAt _, hown.frozenAt _, hown.frozenAt _⟩
theorem FSt.next {w wr : World} {fs : List MF} {L k : Nat} {ys : List (MF × VF)} (h : FSt w wr fs L k ys) (hk : k < L) {u : World} (hb : Below wr.heap.size wr u) {f : MF} (hf : fs[k]? = some f) {v : VF} (ho : OwnF u wr.heap.size v f) :
    FSt w ((((u.setCell ⟨w.heap.size, k * 4, none⟩ v.p).setCell ⟨w.heap.size, k * 4 + 1, none⟩ (.int .i64 f.result)).setCell ⟨w.heap.size, k * 4 + 2, none⟩ v.l).setCell ⟨w.heap.size, k * 4 + 3, none⟩ v.c) fs L (k + 1) (ys ++ [(f, v)]) := by
  have hown := own_keep h.row hb (Nat.le_refl _)
  rw [newTo_parts fCells _ ys k L hk h.len] at hown
  have hA : (ys.flatMap fCells).length = k * 4 := by rw [flat_length fCells 4 fCells_length, h.len]
  have s0 := (hown.stored (k * 4) v.p).1
  have s1 := (s0.stored (k * 4 + 1) (.int .i64 f.result)).1
  have s2 := (s1.stored (k * 4 + 2) v.l).1
  have s3 := (s2.stored (k * 4 + 3) v.c).1
  rw [set4 _ _ _ _ _ _ _ _ _ _ (k * 4) hA] at s3
  refine ⟨fst_next h.fst hf v, by simp [h.len], ?_, ?_, ?_, ?_⟩
  · rw [newTo_next fCells _ ys k L (f, v) h.len]
    exact s3
  · intro y hy
    have hy' : OwnF u (w.heap.size + 1) y.2 y.1 := by
      rcases List.mem_append.1 hy with hy | hy
      · exact (h.els y hy).keep hb (Nat.le_refl _)
      · simp only [List.mem_singleton] at hy
        subst hy
        exact ho.base h.siz
    exact (((hy'.below (by simp) _).below (by simp) _).below (by simp) _).below (by simp) _
  · exact ((((h.bel.trans (hb.mono (by have := h.siz; omega))).setCell (Nat.le_refl _) _).setCell (Nat.le_refl _) _).setCell (Nat.le_refl _) _).setCell (Nat.le_refl _) _
  · have := hb.size
    have := h.siz
    simp
    omega

set_option maxHeartbeats 4000000 in
set_option maxRecDepth 100000 in
theorem toFuncS_any (s : Value) (fs : List MF) (w : World) (hL : fs.length ≤ 1048576) (hs : ∀ f ∈ fs, f.small) (h : RdFs w s fs) :
    Calls Tryz.prog 20 #[s] w fun e w' => ∃ a c, e = .returned (.slice a fs.length c) ∧ OwnFs w' w.heap.size (.slice a fs.length c) fs ∧ Below w.heap.size w w' := by
  obtain ⟨i0, hi, hz0, hz1, hz2⟩ := info_parts infoF
  obtain ⟨xs, hxs, hrd, hel⟩ := h
  have hxl : xs.length = fs.length := by rw [← hxs]; simp
  have H1 : Hid (Rd w 4 s fs.length (xs.flatMap fCells) ∧ xs.map Prod.fst = fs ∧ (∀ x ∈ xs, RdF w x.2 x.1) ∧ (∀ f ∈ fs, f.small) ∧ xs.length = fs.length) := ⟨hrd, hxs, hel, hs, hxl⟩
  obtain ⟨a1, c1, rfl⟩ := hrd.is_slice
  clear hrd hxs hel hs hxl
  generalize hLL : fs.length = L at hL H1
  have HL : Hid (fs.length = L) := hLL
  clear hLL
  go_enter Tryz.func20, Tryz.ntmps20
  go_wp2_with (at_make; refine wpList_make_full _ rfl _ _ 31 rfl w.heap.size 52 i0 (.agg #[.slice none 0 0, .int .i64 0, .slice none 0 0, .slice none 0 0]) 4 Tryz.underlying31 hi hz0 hz1 .i64 .i64 _ _ L rfl rfl rfl rfl (by rw [hz2]; omega) (by unfold maxLen; omega) (Nat.le_refl _) ?_; intro w1 hown hgrow)
  rw [newTo_zero fCells [.slice none 0 0, .int .i64 0, .slice none 0 0, .slice none 0 0] L (.agg #[.slice none 0 0, .int .i64 0, .slice none 0 0, .slice none 0 0]) 4 rfl rfl (by omega)] at hown
  have hB : Below w.heap.size w w1 := (Below.refl _ _).grown hgrow (Nat.le_refl _) (fun k hk => by cases hk)
  have hst : FSt w w1 fs L 0 [] := ⟨by simp, rfl, hown, (fun y hy => by cases hy), hB, own_lt hown⟩
  clear hgrow hown hB
  go_loopw [4] (fun i wr => ∃ k : Nat, k ≤ L ∧ i = .int .i64 k ∧ ∃ ys, FSt w wr fs L k ys) (fun i _ => L - (intOf i).toNat)
  case atStart => exact ⟨0, by omega, rfl, _, hst⟩
  case round =>
    clear hst
    obtain ⟨k, hk, rfl, ys, hst⟩ := hrel
    by_cases hlt : k < L
    · obtain ⟨x, hx⟩ : ∃ x, xs[k]? = some x := ⟨_, List.getElem?_eq_getElem (by rw [H1.out.2.2.2.2]; exact hlt)⟩
      have hfx := fst_at H1.out.2.1 hx
      have hrx := H1.out.2.2.1 x (List.mem_of_getElem? hx)
      have hsm := H1.out.2.2.2.1 x.1 (List.mem_of_getElem? hfx)
      rcases H1.out.1.2 with ⟨e0, _⟩ | ⟨g, o, c, e1, hc1⟩
      · omega
      · simp only [Value.slice.injEq, true_and] at e1
        obtain ⟨rfl, rfl⟩ := e1
        have i0 := Rd.elem fCells_length hc1 k x hx 0 _ rfl
        have i1 := Rd.elem fCells_length hc1 k x hx 1 _ rfl
        have i2 := Rd.elem fCells_length hc1 k x hx 2 _ rfl
        have i3 := Rd.elem fCells_length hc1 k x hx 3 _ rfl
        rw [← hst.bel.cell (block_lt_of_cell i0)] at i0
        rw [← hst.bel.cell (block_lt_of_cell i1)] at i1
        rw [← hst.bel.cell (block_lt_of_cell i2)] at i2
        rw [← hst.bel.cell (block_lt_of_cell i3)] at i3
        rw [Nat.add_zero] at i0
        obtain ⟨f, v⟩ := x
        have HX : Hid (fs[k]? = some f ∧ RdF wr v f ∧ f.small) := ⟨hfx, hrx.keep hst.bel (Nat.le_refl _), hsm⟩
        clear hfx hrx hsm hx hc1
        simp only [] at i0 i1 i2 i3
        go_wp2_with fail
        refine (toFunc_any v f wr HX.out.2.2 HX.out.2.1).mono ?_
        rintro e u ⟨b1, d1, b2, d2, b3, d3, rfl, hou, hbu⟩
        obtain ⟨q0, q1, q2, q3, f0, f1, f2, f3⟩ := hst.places hlt hbu
        have HN : Hid _ := hst.next hlt hbu HX.out.1 hou
        clear hou hbu i0 i1 i2 i3 hst HX
        go_wp2
        go_roundw
        case rel => exact ⟨k + 1, by omega, by go_num, _, HN.out⟩
        case measure => simp [intOf]; omega
    · have hkn : k = L := by omega
      subst hkn
      go_wp2
      go_ret
      refine ⟨some ⟨w.heap.size, 0, none⟩, k, rfl, ⟨ys, ?_, ?_, fun y hy => (hst.els y hy).base (by omega)⟩, hst.bel⟩
      · rw [hst.fst, ← HL.out, List.take_length]
      · have hrow := hst.row
        rw [newTo_all _ _ _ _ hst.len] at hrow
        rw [HL.out]
        exact hrow

/-- Where the copying of lists stands. -/
structure RSt (w wr : World) (fs : List (List Int)) (L k : Nat) (ys : List (List Int × Value)) : Prop where
  fst : ys.map Prod.fst = fs.take k
  len : ys.length = k
  row : wr.ownsRow w.heap.size 45 1 (.slice (some ⟨w.heap.size, 0, none⟩) L L) L (newTo rCells [.slice none 0 0] ys L)
  els : ∀ y ∈ ys, wr.ownsRow (w.heap.size + 1) 2 1 y.2 y.1.length (y.1.flatMap intCell)
  bel : Below w.heap.size w wr
  siz : w.heap.size + 1 ≤ wr.heap.size
theorem RSt.places {w wr : World} {fs : List (List Int)} {L k : Nat} {ys : List (List Int × Value)} (h : RSt w wr fs L k ys) (hk : k < L) {u : World} (hb : Below wr.heap.size wr u) :
    u.cell? ⟨w.heap.size, k, none⟩ = some (.slice none 0 0) ∧ u.frozen? ⟨w.heap.size, k, none⟩ = false := by
  have hown := own_keep h.row hb (Nat.le_refl _)
  rw [newTo_parts rCells _ ys k L hk h.len] at hown
  have hA : (ys.flatMap rCells).length = k := by rw [flat_length rCells 1 rCells_length, h.len, Nat.mul_one]
  have d0 := hown.cellAt k (by omega)
  rw [List.getElem?_append_right (by omega), hA] at d0
  rw [Nat.sub_self] at d0
  exact ⟨d0, hown.frozenAt _⟩
theorem RSt.next {w wr : World} {fs : List (List Int)} {L k : Nat} {ys : List (List Int × Value)} (h : RSt w wr fs L k ys) (hk : k < L) {u : World} (hb : Below wr.heap.size wr u) {f : List Int} (hf : fs[k]? = some f) {v : Value} (ho : u.ownsRow wr.heap.size 2 1 v f.length (f.flatMap intCell)) :
    RSt w (u.setCell ⟨w.heap.size, k, none⟩ v) fs L (k + 1) (ys ++ [(f, v)]) := by
  have hown := own_keep h.row hb (Nat.le_refl _)
  rw [newTo_parts rCells _ ys k L hk h.len] at hown
  have hA : (ys.flatMap rCells).length = k := by rw [flat_length rCells 1 rCells_length, h.len, Nat.mul_one]
  have s0 := (hown.stored k v).1
  rw [set1 _ _ _ _ k hA] at s0
  refine ⟨fst_next h.fst hf v, by simp [h.len], ?_, ?_, ?_, ?_⟩
  · rw [newTo_next rCells _ ys k L (f, v) h.len]
    exact s0
  · intro y hy
    have hy' : u.ownsRow (w.heap.size + 1) 2 1 y.2 y.1.length (y.1.flatMap intCell) := by
      rcases List.mem_append.1 hy with hy | hy
      · exact own_keep (h.els y hy) hb (Nat.le_refl _)
      · simp only [List.mem_singleton] at hy
        subst hy
        exact own_base ho h.siz
    exact ownsRow_setCell_below hy' (by simp) _
  · exact (h.bel.trans (hb.mono (by have := h.siz; omega))).setCell (Nat.le_refl _) _
  · have := hb.size
    have := h.siz
    simp
    omega
set_option maxHeartbeats 4000000 in
set_option maxRecDepth 100000 in
theorem toInt64SS_any (s : Value) (fs : List (List Int)) (w : World) (hL : fs.length ≤ 1048576) (hs : ∀ f ∈ fs, f.length ≤ 1048576) (h : RdR w s fs) :
    Calls Tryz.prog 18 #[s] w fun e w' => ∃ a c, e = .returned (.slice a fs.length c) ∧ OwnR w' w.heap.size (.slice a fs.length c) fs ∧ Below w.heap.size w w' := by
  obtain ⟨i0, hi, hz0, hz1, hz2⟩ := info_parts infoR
  obtain ⟨xs, hxs, hrd, hel⟩ := h
  have hxl : xs.length = fs.length := by rw [← hxs]; simp
  have H1 : Hid (Rd w 1 s fs.length (xs.flatMap rCells) ∧ xs.map Prod.fst = fs ∧ (∀ x ∈ xs, Rd w 1 x.2 x.1.length (x.1.flatMap intCell)) ∧ (∀ f ∈ fs, f.length ≤ 1048576) ∧ xs.length = fs.length) := ⟨hrd, hxs, hel, hs, hxl⟩
  obtain ⟨a1, c1, rfl⟩ := hrd.is_slice
  clear hrd hxs hel hs hxl
  generalize hLL : fs.length = L at hL H1
  have HL : Hid (fs.length = L) := hLL
  clear hLL
  go_enter Tryz.func18, Tryz.ntmps18
  go_wp2_with (at_make; refine wpList_make_full _ rfl _ _ 22 rfl w.heap.size 45 i0 (.slice none 0 0) 1 Tryz.underlying22 hi hz0 hz1 .i64 .i64 _ _ L rfl rfl rfl rfl (by rw [hz2]; omega) (by unfold maxLen; omega) (Nat.le_refl _) ?_; intro w1 hown hgrow)
  rw [newTo_zero rCells [.slice none 0 0] L (.slice none 0 0) 1 rfl rfl (by omega)] at hown
  have hB : Below w.heap.size w w1 := (Below.refl _ _).grown hgrow (Nat.le_refl _) (fun k hk => by cases hk)
  have hst : RSt w w1 fs L 0 [] := ⟨by simp, rfl, hown, (fun y hy => by cases hy), hB, own_lt hown⟩
  clear hgrow hown hB
  go_loopw [4] (fun i wr => ∃ k : Nat, k ≤ L ∧ i = .int .i64 k ∧ ∃ ys, RSt w wr fs L k ys) (fun i _ => L - (intOf i).toNat)
  case atStart => exact ⟨0, by omega, rfl, _, hst⟩
  case round =>
    clear hst
    obtain ⟨k, hk, rfl, ys, hst⟩ := hrel
    by_cases hlt : k < L
    · obtain ⟨x, hx⟩ : ∃ x, xs[k]? = some x := ⟨_, List.getElem?_eq_getElem (by rw [H1.out.2.2.2.2]; exact hlt)⟩
      have hfx := fst_at H1.out.2.1 hx
      have hrx := H1.out.2.2.1 x (List.mem_of_getElem? hx)
      have hsm := H1.out.2.2.2.1 x.1 (List.mem_of_getElem? hfx)
      rcases H1.out.1.2 with ⟨e0, _⟩ | ⟨g, o, c, e1, hc1⟩
      · omega
      · simp only [Value.slice.injEq, true_and] at e1
        obtain ⟨rfl, rfl⟩ := e1
        have i0 := Rd.elem rCells_length hc1 k x hx 0 _ rfl
        rw [← hst.bel.cell (block_lt_of_cell i0)] at i0
        rw [Nat.mul_one, Nat.add_zero] at i0
        obtain ⟨f, v⟩ := x
        have HX : Hid (fs[k]? = some f ∧ Rd wr 1 v f.length (f.flatMap intCell) ∧ f.length ≤ 1048576) := ⟨hfx, hrx.keep hst.bel (Nat.le_refl _), hsm⟩
        clear hfx hrx hsm hx hc1
        simp only [] at i0
        go_wp2_with fail
        refine (toInt64S_new v f wr HX.out.2.2 HX.out.2.1).mono ?_
        rintro e u ⟨b1, d1, rfl, hou, hbu⟩
        obtain ⟨q0, f0⟩ := hst.places hlt hbu
        have HN : Hid _ := hst.next hlt hbu HX.out.1 hou
        clear hou hbu i0 hst HX
        go_wp2
        go_roundw
        case rel => exact ⟨k + 1, by omega, by go_num, _, HN.out⟩
        case measure => simp [intOf]; omega
    · have hkn : k = L := by omega
      subst hkn
      go_wp2
      go_ret
      refine ⟨some ⟨w.heap.size, 0, none⟩, k, rfl, ⟨ys, ?_, ?_, fun y hy => own_base (hst.els y hy) (by omega)⟩, hst.bel⟩
      · rw [hst.fst, ← HL.out, List.take_length]
      · have hrow := hst.row
        rw [newTo_all _ _ _ _ hst.len] at hrow
        rw [HL.out]
        exact hrow
end Go.Proofs.YthifelgdkmkdkaaGreatDoor
