/- St5: a state: toState, eqState, szState, one that came in. -/
import Derived.Test.YtadkabiipkngiaaSt4
namespace Go.Proofs.Ytadkabiipkngiaa
open Go.ChangeShapes Go.WideShapes Go.ChangeAt Go.RowKit
set_option linter.unusedVariables false
/-- A state. -/
structure MS where
  trap : Int
  done : Bool
  cost : Int
  steps : Int
  cells : List (List MC)
  stack : List MC
  frames : List MG
/-- Its three lists, as values. -/
structure VS where
  c : Value
  k : Value
  f : Value
structure RdS (w : World) (v : VS) (s : MS) : Prop where
  cells : RdVV w v.c s.cells
  stack : Rd w 2 v.k s.stack.length (s.stack.flatMap MC.cells)
  frames : RdGs w v.f s.frames
structure OwnS (w : World) (base : Nat) (v : VS) (s : MS) : Prop where
  cells : OwnVV w base v.c s.cells
  stack : w.ownsRow base 104 2 v.k s.stack.length (s.stack.flatMap MC.cells)
  frames : OwnGs w base v.f s.frames
structure MS.small (s : MS) : Prop where
  cells : s.cells.length ≤ 1048576
  cell : ∀ r ∈ s.cells, r.length ≤ 1048576
  stack : s.stack.length ≤ 1048576
  frames : s.frames.length ≤ 1048576
  frame : ∀ f ∈ s.frames, f.small
structure MS.fits (s : MS) : Prop where
  cells : s.cells.length ≤ 9223372036854775807
  cell : ∀ r ∈ s.cells, r.length ≤ 9223372036854775807
  stack : s.stack.length ≤ 9223372036854775807
  frames : s.frames.length ≤ 9223372036854775807
  frame : ∀ f ∈ s.frames, f.fits
structure MG.wf (f : MG) : Prop where
  func : W64 f.func
  at_ : W64 f.at_
  base : W64 f.base
  locals : ∀ x ∈ f.locals, x.wf
structure MS.wf (s : MS) : Prop where
  trap : W64 s.trap
  cost : W64 s.cost
  steps : W64 s.steps
  cells : ∀ r ∈ s.cells, ∀ x ∈ r, x.wf
  stack : ∀ x ∈ s.stack, x.wf
  frames : ∀ f ∈ s.frames, f.wf
theorem OwnS.rd {w : World} {base : Nat} {v : VS} {s : MS} (h : OwnS w base v s) : RdS w v s := ⟨h.cells.rd, Rd.of_own h.stack, h.frames.rd⟩
theorem RdS.keep {w w' : World} {v : VS} {s : MS} (h : RdS w v s) {B : Nat} (hb : Below B w w') (hB : w.heap.size ≤ B) : RdS w' v s := ⟨h.cells.keep hb hB, h.stack.keep hb hB, h.frames.keep hb hB⟩
theorem OwnS.keep {w w' : World} {base : Nat} {v : VS} {s : MS} (h : OwnS w base v s) {B : Nat} (hb : Below B w w') (hB : w.heap.size ≤ B) : OwnS w' base v s := ⟨h.cells.keep hb hB, own_keep h.stack hb hB, h.frames.keep hb hB⟩
theorem OwnS.base {w : World} {base base' : Nat} {v : VS} {s : MS} (h : OwnS w base v s) (hb : base' ≤ base) : OwnS w base' v s := ⟨h.cells.base hb, own_base h.stack hb, h.frames.base hb⟩
theorem OwnS.below {w : World} {base : Nat} {v : VS} {s : MS} (h : OwnS w base v s) {a : Addr} (ha : a.block < base) (u : Value) : OwnS (w.setCell a u) base v s := ⟨h.cells.below ha u, ownsRow_setCell_below h.stack ha u, h.frames.below ha u⟩
/-- A block of seven cells. -/
theorem row7 {w : World} {base : Nat} {e : TypeId} {g : Nat} {a b c d x y z : Value} (h : w.ownsRow base e 7 (.slice (some ⟨g, 0, none⟩) 1 1) 1 [a, b, c, d, x, y, z]) :
    w.cell? ⟨g, 0, none⟩ = some a ∧ w.cell? ⟨g, 1, none⟩ = some b ∧ w.cell? ⟨g, 2, none⟩ = some c ∧ w.cell? ⟨g, 3, none⟩ = some d ∧ w.cell? ⟨g, 4, none⟩ = some x ∧ w.cell? ⟨g, 5, none⟩ = some y ∧ w.cell? ⟨g, 6, none⟩ = some z ∧ w.frozen? ⟨g, 0, none⟩ = false ∧ w.frozen? ⟨g, 1, none⟩ = false ∧ w.frozen? ⟨g, 2, none⟩ = false ∧ w.frozen? ⟨g, 3, none⟩ = false ∧ w.frozen? ⟨g, 4, none⟩ = false ∧ w.frozen? ⟨g, 5, none⟩ = false ∧ w.frozen? ⟨g, 6, none⟩ = false :=
  ⟨h.cellAt 0 (by omega), h.cellAt 1 (by omega), h.cellAt 2 (by omega), h.cellAt 3 (by omega), h.cellAt 4 (by omega), h.cellAt 5 (by omega), h.cellAt 6 (by omega), h.frozenAt 0, h.frozenAt 1, h.frozenAt 2, h.frozenAt 3, h.frozenAt 4, h.frozenAt 5, h.frozenAt 6⟩
set_option maxHeartbeats 4000000 in
set_option maxRecDepth 100000 in
theorem toState_any (v : VS) (s : MS) (w : World) (hs : s.small) (h : RdS w v s) :
    Calls Try.prog 7 #[.agg #[.int .i64 s.trap, .bool s.done, .int .i64 s.cost, .int .i64 s.steps, v.c, v.k, v.f]] w fun e w' => ∃ a1 c1 a2 c2 a3 c3, e = .returned (.agg #[.int .i64 s.trap, .bool s.done, .int .i64 s.cost, .int .i64 s.steps, .slice a1 s.cells.length c1, .slice a2 s.stack.length c2, .slice a3 s.frames.length c3]) ∧ OwnS w' w.heap.size ⟨.slice a1 s.cells.length c1, .slice a2 s.stack.length c2, .slice a3 s.frames.length c3⟩ s ∧ Below w.heap.size w w' := by
  have F0 := FrK.of 7 w 26 36 #[.int .i64 s.trap, .bool s.done, .int .i64 s.cost, .int .i64 s.steps, v.c, v.k, v.f] #[.int .i64 0, .bool false, .int .i64 0, .int .i64 0, .slice none 0 0, .slice none 0 0, .slice none 0 0] #[.int .i64 s.trap, .bool s.done, .int .i64 s.cost, .int .i64 s.steps, .slice none 0 0, .slice none 0 0, .slice none 0 0] rfl rfl rfl
  have H : Hid (RdS w v s ∧ s.small) := ⟨h, hs⟩
  clear h hs
  go_enter Try.func7, Try.ntmps7
  go_wp2_with fail
  refine (toValueSS_any v.c s.cells _ H.out.2.cells H.out.2.cell (H.out.1.cells.keep F0.bel (Nat.le_refl _))).mono ?_
  rintro e u1 ⟨a1, c1, rfl, own1, b1⟩
  have O1 : Hid (OwnVV u1 (w.heap.size + 3) (.slice a1 s.cells.length c1) s.cells) := own1.base F0.siz
  have F1 := F0.keep b1
  clear own1 b1 F0
  obtain ⟨p0, p1, p2, p3, p4, p5, p6, _⟩ := row7 F1.par
  obtain ⟨o0, o1, o2, o3, o4, o5, o6, z0, z1, z2, z3, z4, z5, z6⟩ := row7 F1.loc
  go_wp2_with fail
  have F2 := F1.set 4 (.slice a1 s.cells.length c1)
  have O2 : Hid (OwnVV (u1.setCell ⟨w.heap.size + 1 + 1, 4, none⟩ (.slice a1 s.cells.length c1)) (w.heap.size + 3) (.slice a1 s.cells.length c1) s.cells) := O1.out.below (by simp) _
  clear O1 F1 p0 p1 p2 p3 p4 p5 p6 o0 o1 o2 o3 o4 o5 o6 z0 z1 z2 z3 z4 z5 z6
  simp only [List.set_cons_zero, List.set_cons_succ] at F2
  refine (toValueS_new v.k s.stack _ H.out.2.stack (H.out.1.stack.keep F2.bel (Nat.le_refl _))).mono ?_
  rintro e u2 ⟨a2, c2, rfl, own2, b2⟩
  have O3 : Hid (OwnVV u2 (w.heap.size + 3) (.slice a1 s.cells.length c1) s.cells ∧ u2.ownsRow (w.heap.size + 3) 104 2 (.slice a2 s.stack.length c2) s.stack.length (s.stack.flatMap MC.cells)) := ⟨O2.out.keep b2 (Nat.le_refl _), own_base own2 F2.siz⟩
  have F3 := F2.keep b2
  clear own2 b2 F2 O2
  obtain ⟨p0, p1, p2, p3, p4, p5, p6, _⟩ := row7 F3.par
  obtain ⟨o0, o1, o2, o3, o4, o5, o6, z0, z1, z2, z3, z4, z5, z6⟩ := row7 F3.loc
  go_wp2_with fail
  have F4 := F3.set 5 (.slice a2 s.stack.length c2)
  have O4 : Hid _ := And.intro (O3.out.1.below (a := ⟨w.heap.size + 1 + 1, 5, none⟩) (by simp) (.slice a2 s.stack.length c2)) (own_set (w := w) O3.out.2 (w.heap.size + 1 + 1) 5 (by omega) (.slice a2 s.stack.length c2))
  clear O3 F3 p0 p1 p2 p3 p4 p5 p6 o0 o1 o2 o3 o4 o5 o6 z0 z1 z2 z3 z4 z5 z6
  simp only [List.set_cons_zero, List.set_cons_succ] at F4
  refine (toFrameS_any v.f s.frames _ H.out.2.frames H.out.2.frame (H.out.1.frames.keep F4.bel (Nat.le_refl _))).mono ?_
  rintro e u3 ⟨a3, c3, rfl, own3, b3⟩
  have O7 : Hid (OwnS u3 (w.heap.size + 3) ⟨.slice a1 s.cells.length c1, .slice a2 s.stack.length c2, .slice a3 s.frames.length c3⟩ s) := ⟨O4.out.1.keep b3 (Nat.le_refl _), own_keep O4.out.2 b3 (Nat.le_refl _), own3.base F4.siz⟩
  have F7 := F4.keep b3
  clear own3 b3 F4 O4
  obtain ⟨p0, p1, p2, p3, p4, p5, p6, _⟩ := row7 F7.par
  obtain ⟨o0, o1, o2, o3, o4, o5, o6, z0, z1, z2, z3, z4, z5, z6⟩ := row7 F7.loc
  obtain ⟨q0, q1, q2, q3, q4, q5, q6, y0, y1, y2, y3, y4, y5, y6⟩ := row7 F7.res
  go_wp2_with fail
  clear p0 p1 p2 p3 p4 p5 p6 o0 o1 o2 o3 o4 o5 o6 z0 z1 z2 z3 z4 z5 z6 q0 q1 q2 q3 q4 q5 q6 y0 y1 y2 y3 y4 y5 y6
  have F8 := (((((((F7.set 6 (.slice a3 s.frames.length c3)).set' 0 (.int .i64 s.trap)).set' 1 (.bool s.done)).set' 2 (.int .i64 s.cost)).set' 3 (.int .i64 s.steps)).set' 4 (.slice a1 s.cells.length c1)).set' 5 (.slice a2 s.stack.length c2)).set' 6 (.slice a3 s.frames.length c3)
  simp only [List.set_cons_zero, List.set_cons_succ] at F8
  obtain ⟨q0, q1, q2, q3, q4, q5, q6, _⟩ := row7 F8.res
  have hall := (((((((O7.out.below (a := ⟨w.heap.size + 1 + 1, 6, none⟩) (by simp) (.slice a3 s.frames.length c3)).below (a := ⟨w.heap.size + 1, 0, none⟩) (by simp <;> omega) (.int .i64 s.trap)).below (a := ⟨w.heap.size + 1, 1, none⟩) (by simp <;> omega) (.bool s.done)).below (a := ⟨w.heap.size + 1, 2, none⟩) (by simp <;> omega) (.int .i64 s.cost)).below (a := ⟨w.heap.size + 1, 3, none⟩) (by simp <;> omega) (.int .i64 s.steps)).below (a := ⟨w.heap.size + 1, 4, none⟩) (by simp <;> omega) (.slice a1 s.cells.length c1)).below (a := ⟨w.heap.size + 1, 5, none⟩) (by simp <;> omega) (.slice a2 s.stack.length c2)).below (a := ⟨w.heap.size + 1, 6, none⟩) (by simp <;> omega) (.slice a3 s.frames.length c3)
  exact bodyPost_ret (v := .agg #[.int .i64 s.trap, .bool s.done, .int .i64 s.cost, .int .i64 s.steps, .slice a1 s.cells.length c1, .slice a2 s.stack.length c2, .slice a3 s.frames.length c3]) (by simp [results, Try.results7, go_sem, q0, q1, q2, q3, q4, q5, q6]) rfl ⟨a1, c1, a2, c2, a3, c3, rfl, hall.base (by omega), F8.bel⟩
/-- A call's two arguments of k cells. -/
structure FrK2 (k : Nat) (w u : World) (tp : TypeId) (p r : List Value) : Prop where
  par : u.ownsRow w.heap.size tp k (.slice (some ⟨w.heap.size, 0, none⟩) 1 1) 1 p
  par' : u.ownsRow w.heap.size tp k (.slice (some ⟨w.heap.size + 1, 0, none⟩) 1 1) 1 r
  bel : Below w.heap.size w u
theorem FrK2.of (k : Nat) (w : World) (tp : TypeId) (p r : Array Value) (hp : p.size = k) (hr : r.size = k) :
    FrK2 k w ((w.alloc (.cells p tp)).alloc (.cells r tp)) tp p.toList r.toList := by
  have b1 : Below w.heap.size w (w.alloc (.cells p tp)) := (Below.refl _ _).alloc (Nat.le_refl _) _
  have c2 : Below (w.alloc (.cells p tp)).heap.size (w.alloc (.cells p tp)) ((w.alloc (.cells p tp)).alloc (.cells r tp)) := (Below.refl _ _).alloc (Nat.le_refl _) _
  have r1 := World.ownsRow_lit (base := w.heap.size) (e := tp) (size := k) w p 1 (Nat.le_refl _) (by unfold maxLen; omega) (by omega)
  have r2 := World.ownsRow_lit (base := w.heap.size) (e := tp) (size := k) (w.alloc (.cells p tp)) r 1 (by simp) (by unfold maxLen; omega) (by omega)
  refine ⟨own_keep r1 c2 (Nat.le_refl _), ?_, b1.trans (c2.mono (by simp))⟩
  simpa using r2
theorem FrK2.keep {k : Nat} {w u u' : World} {tp : TypeId} {p r : List Value} (h : FrK2 k w u tp p r) (hb : Below u.heap.size u u') : FrK2 k w u' tp p r :=
  ⟨own_keep h.par hb (Nat.le_refl _), own_keep h.par' hb (Nat.le_refl _), h.bel.trans (hb.mono h.bel.size)⟩
set_option maxHeartbeats 2000000 in
set_option maxRecDepth 100000 in
theorem eqState_same (v v' : VS) (s : MS) (w : World) (hs : s.small) (h : RdS w v s) (h' : RdS w v' s) :
    Calls Try.prog 10 #[.agg #[.int .i64 s.trap, .bool s.done, .int .i64 s.cost, .int .i64 s.steps, v.c, v.k, v.f], .agg #[.int .i64 s.trap, .bool s.done, .int .i64 s.cost, .int .i64 s.steps, v'.c, v'.k, v'.f]] w fun e w' => e = .returned (.bool true) ∧ Below w.heap.size w w' := by
  have F0 := FrK2.of 7 w 36 #[.int .i64 s.trap, .bool s.done, .int .i64 s.cost, .int .i64 s.steps, v.c, v.k, v.f] #[.int .i64 s.trap, .bool s.done, .int .i64 s.cost, .int .i64 s.steps, v'.c, v'.k, v'.f] rfl rfl
  have H : Hid (RdS w v s ∧ RdS w v' s ∧ s.small) := ⟨h, h', hs⟩
  clear h h' hs
  go_enter Try.func10, Try.ntmps10
  go_wp2_with fail
  refine (eqValueSS_same v.c v'.c s.cells _ H.out.2.2.cells H.out.2.2.cell (H.out.1.cells.keep F0.bel (Nat.le_refl _)) (H.out.2.1.cells.keep F0.bel (Nat.le_refl _))).mono ?_
  rintro e u1 ⟨rfl, b1⟩
  have F1 := F0.keep b1
  clear b1 F0
  obtain ⟨p0, p1, p2, p3, p4, p5, p6, _⟩ := row7 F1.par
  obtain ⟨o0, o1, o2, o3, o4, o5, o6, _⟩ := row7 F1.par'
  go_wp2_with fail
  refine (eqValueS_same v.k v'.k s.stack _ H.out.2.2.stack (H.out.1.stack.keep F1.bel (Nat.le_refl _)) (H.out.2.1.stack.keep F1.bel (Nat.le_refl _))).mono ?_
  rintro e u2 ⟨rfl, b2⟩
  have F2 := F1.keep b2
  clear b2 F1 p0 p1 p2 p3 p4 p5 p6 o0 o1 o2 o3 o4 o5 o6
  obtain ⟨p0, p1, p2, p3, p4, p5, p6, _⟩ := row7 F2.par
  obtain ⟨o0, o1, o2, o3, o4, o5, o6, _⟩ := row7 F2.par'
  go_wp2_with fail
  refine (eqFrameS_same v.f v'.f s.frames _ H.out.2.2.frames H.out.2.2.frame (H.out.1.frames.keep F2.bel (Nat.le_refl _)) (H.out.2.1.frames.keep F2.bel (Nat.le_refl _))).mono ?_
  rintro e u3 ⟨rfl, b3⟩
  have F3 := F2.keep b3
  clear b3 F2 p0 p1 p2 p3 p4 p5 p6 o0 o1 o2 o3 o4 o5 o6
  go_wp2
  go_ret
  exact ⟨rfl, F3.bel⟩
end Go.Proofs.Ytadkabiipkngiaa
