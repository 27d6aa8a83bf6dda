import Derived.Test.YtdfmdgbolmbffaaGreatLf12
import Derived.Test.YtdfmdgbolmbffaaGreatLf4
import Derived.Deep.RegionHeld3
import Derived.Test.YtdfmdgbolmbffaaGreatRows
import Derived.WalkKit
import Derived.ProofKit
import Derived.OpenShut
import Derived.Below
import Derived.Laws.Tables
import Derived.Laws.Rows
import Derived.Deep.WholeRow
import Derived.Great.BuildSlice
import Derived.Deep.MidRow
import Derived.Outline
import Derived.Laws.CopyOwn
namespace Go.Proofs.YtdfmdgbolmbffaaGreat
open Go.ChangeShapes Go.WideShapes Go.ChangeAt Go.RowKit
set_option linter.unusedVariables false
structure FrK (k : Nat) (w u : World) (tp tr : TypeId) (p r o : List Value) : Prop where
  par : u.ownsRow w.heap.size tp k (.slice (some ⟨w.heap.size, 0, none⟩) 1 1) 1 p
  res : u.ownsRow w.heap.size tr k (.slice (some ⟨w.heap.size + 1, 0, none⟩) 1 1) 1 r
  loc : u.ownsRow w.heap.size tr k (.slice (some ⟨w.heap.size + 1 + 1, 0, none⟩) 1 1) 1 o
  bel : Below w.heap.size w u
  siz : w.heap.size + 3 ≤ u.heap.size
theorem FrK.of (k : Nat) (w : World) (tp tr : TypeId) (p r o : Array Value) (hp : p.size = k) (hr : r.size = k) (ho : o.size = k) :
    FrK k w (((w.alloc (.cells p tp)).alloc (.cells r tr)).alloc (.cells o tr)) tp tr p.toList r.toList o.toList := by
  have b1 : Below w.heap.size w (w.alloc (.cells p tp)) := (Below.refl _ _).alloc (Nat.le_refl _) _
  have c2 : Below (w.alloc (.cells p tp)).heap.size (w.alloc (.cells p tp)) ((w.alloc (.cells p tp)).alloc (.cells r tr)) := (Below.refl _ _).alloc (Nat.le_refl _) _
  have c3 : Below ((w.alloc (.cells p tp)).alloc (.cells r tr)).heap.size ((w.alloc (.cells p tp)).alloc (.cells r tr)) (((w.alloc (.cells p tp)).alloc (.cells r tr)).alloc (.cells o tr)) := (Below.refl _ _).alloc (Nat.le_refl _) _
  have r1 := World.ownsRow_lit (base := w.heap.size) (e := tp) (size := k) w p 1 (Nat.le_refl _) (by unfold maxLen; omega) (by omega)
  have r2 := World.ownsRow_lit (base := w.heap.size) (e := tr) (size := k) (w.alloc (.cells p tp)) r 1 (by simp) (by unfold maxLen; omega) (by omega)
  have r3 := World.ownsRow_lit (base := w.heap.size) (e := tr) (size := k) ((w.alloc (.cells p tp)).alloc (.cells r tr)) o 1 (by simp <;> omega) (by unfold maxLen; omega) (by omega)
  refine ⟨own_keep (own_keep r1 c2 (Nat.le_refl _)) c3 (Nat.le_refl _), ?_, ?_, (b1.trans (c2.mono (by simp))).trans (c3.mono (by simp <;> omega)), by simp <;> omega⟩
  · have := own_keep r2 c3 (Nat.le_refl _)
    simpa using this
  · simpa using r3
theorem FrK.keep {k : Nat} {w u u' : World} {tp tr : TypeId} {p r o : List Value} (h : FrK k w u tp tr p r o) (hb : Below u.heap.size u u') : FrK k w u' tp tr p r o :=
  ⟨own_keep h.par hb (Nat.le_refl _), own_keep h.res hb (Nat.le_refl _), own_keep h.loc hb (Nat.le_refl _), h.bel.trans (hb.mono (by have := h.siz; omega)), Nat.le_trans h.siz hb.size⟩
theorem FrK.set {k : Nat} {w u : World} {tp tr : TypeId} {p r o : List Value} (h : FrK k w u tp tr p r o) (j : Nat) (x : Value) : FrK k w (u.setCell ⟨w.heap.size + 1 + 1, j, none⟩ x) tp tr p r (o.set j x) :=
  ⟨ownsRow_setCell_other h.par (by simp [Value.ownBlock] <;> omega) x, ownsRow_setCell_other h.res (by simp [Value.ownBlock]) x, (h.loc.stored j x).1, h.bel.setCell (by simp <;> omega) x, by have := h.siz; simpa using this⟩
theorem FrK.set' {k : Nat} {w u : World} {tp tr : TypeId} {p r o : List Value} (h : FrK k w u tp tr p r o) (j : Nat) (x : Value) : FrK k w (u.setCell ⟨w.heap.size + 1, j, none⟩ x) tp tr p (r.set j x) o :=
  ⟨ownsRow_setCell_other h.par (by simp [Value.ownBlock] <;> omega) x, (h.res.stored j x).1, ownsRow_setCell_other h.loc (by simp [Value.ownBlock]) x, h.bel.setCell (by simp) x, by have := h.siz; simpa using this⟩
/-- A loop's lists, as values. -/
structure VL where
  b : Value
  k : Value
def RdLv (w : World) (v : VL) (m : ML) : Prop := RdL w (m, v.b, v.k)
def ML.small (m : ML) : Prop := m.back.length ≤ 1048576 ∧ m.blocks.length ≤ 1048576
def ML.fits (m : ML) : Prop := m.back.length ≤ 9223372036854775807 ∧ m.blocks.length ≤ 9223372036854775807
def ML.wf (m : ML) : Prop := W64 m.head
theorem RdLv.keep {w w' : World} {v : VL} {m : ML} (h : RdLv w v m) {B : Nat} (hb : Below B w w') (hB : w.heap.size ≤ B) : RdLv w' v m := ⟨Rd.keep h.1 hb hB, Rd.keep h.2 hb hB⟩
/-- A block of three cells. -/
theorem row3 {w : World} {base : Nat} {e : TypeId} {g : Nat} {a b c : Value} (h : w.ownsRow base e 3 (.slice (some ⟨g, 0, none⟩) 1 1) 1 [a, b, c]) :
    w.cell? ⟨g, 0, none⟩ = some a ∧ w.cell? ⟨g, 1, none⟩ = some b ∧ w.cell? ⟨g, 2, none⟩ = some c ∧ w.frozen? ⟨g, 0, none⟩ = false ∧ w.frozen? ⟨g, 1, none⟩ = false ∧ w.frozen? ⟨g, 2, none⟩ = false :=
  ⟨h.cellAt 0 (by omega), h.cellAt 1 (by omega), h.cellAt 2 (by omega), h.frozenAt 0, h.frozenAt 1, h.frozenAt 2⟩
set_option maxHeartbeats 4000000 in
set_option maxRecDepth 100000 in
theorem toLoop_any (v : VL) (m : ML) (w : World) (hs : m.small) (h : RdLv w v m) :
    Calls Tryz.prog 22 #[.agg #[.int .i64 m.head, v.b, v.k]] w fun e w' => ∃ a1 c1 a2 c2, e = .returned (.agg #[.int .i64 m.head, .slice a1 m.back.length c1, .slice a2 m.blocks.length c2]) ∧ RdLv w' ⟨.slice a1 m.back.length c1, .slice a2 m.blocks.length c2⟩ m ∧ Below w.heap.size w w' := by
  have F0 := FrK.of 3 w 50 53 #[.int .i64 m.head, v.b, v.k] #[.int .i64 0, .slice none 0 0, .slice none 0 0] #[.int .i64 0, .slice none 0 0, .slice none 0 0] rfl rfl rfl
  have H : Hid (RdLv w v m ∧ m.small) := ⟨h, hs⟩
  clear h hs
  go_enter Tryz.func22, Tryz.ntmps22
  go_upto_region 2 with fail
  refine wp_world (fun u => Hid (FrK 3 w u 50 53 [.int .i64 m.head, v.b, v.k] [.int .i64 0, .slice none 0 0, .slice none 0 0] [.int .i64 0, .slice none 0 0, .slice none 0 0])) F0 ?_
  rintro U E0
  clear F0
  obtain ⟨p0, p1, p2, _⟩ := row3 E0.out.par
  obtain ⟨o0, o1, o2, z0, z1, z2⟩ := row3 E0.out.loc
  go_upto_region 3 with fail
  have E1 : Hid _ := E0.out.set 0 (.int .i64 m.head)
  simp only [List.set_cons_zero] at E1
  clear E0 p0 p1 p2 o0 o1 o2 z0 z1 z2
  refine wp_world (fun u => Hid (FrK 3 w u 50 53 [.int .i64 m.head, v.b, v.k] [.int .i64 0, .slice none 0 0, .slice none 0 0] [.int .i64 m.head, .slice none 0 0, .slice none 0 0])) E1 ?_
  clear E1
  rintro U1 E1
  obtain ⟨p0, p1, p2, _⟩ := row3 E1.out.par
  go_wp2_with fail
  refine (toInt64S_new v.b m.back U1 H.out.2.1 (Rd.keep H.out.1.1 E1.out.bel (Nat.le_refl _))).mono ?_
  rintro e u1 ⟨a1, e1, rfl, own1, b1⟩
  have E2 : Hid (FrK 3 w u1 50 53 [.int .i64 m.head, v.b, v.k] [.int .i64 0, .slice none 0 0, .slice none 0 0] [.int .i64 m.head, .slice none 0 0, .slice none 0 0]) := E1.out.keep b1
  have O2 : Hid (u1.ownsRow (w.heap.size + 3) 2 1 (.slice a1 m.back.length e1) m.back.length (m.back.flatMap intCell)) := own_base own1 E1.out.siz
  clear own1 b1 E1 p0 p1 p2
  obtain ⟨o0, o1, o2, z0, z1, z2⟩ := row3 E2.out.loc
  go_upto_region 4 with fail
  have E3 : Hid _ := E2.out.set 1 (.slice a1 m.back.length e1)
  have O3 : Hid _ := own_set (w := w) O2.out (w.heap.size + 1 + 1) 1 (by omega) (.slice a1 m.back.length e1)
  simp only [List.set_cons_zero, List.set_cons_succ] at E3
  clear E2 O2 o0 o1 o2 z0 z1 z2
  refine wp_world (fun u => Hid (FrK 3 w u 50 53 [.int .i64 m.head, v.b, v.k] [.int .i64 0, .slice none 0 0, .slice none 0 0] [.int .i64 m.head, .slice a1 m.back.length e1, .slice none 0 0] ∧ u.ownsRow (w.heap.size + 3) 2 1 (.slice a1 m.back.length e1) m.back.length (m.back.flatMap intCell))) ⟨E3.out, O3.out⟩ ?_
  clear E3 O3
  rintro U3 E3
  obtain ⟨p0, p1, p2, _⟩ := row3 E3.out.1.par
  go_wp2_with fail
  refine (toInt64S_new v.k m.blocks U3 H.out.2.2 (Rd.keep H.out.1.2 E3.out.1.bel (Nat.le_refl _))).mono ?_
  rintro e u4 ⟨a2, e2, rfl, own4, b4⟩
  have E4 : Hid (FrK 3 w u4 50 53 [.int .i64 m.head, v.b, v.k] [.int .i64 0, .slice none 0 0, .slice none 0 0] [.int .i64 m.head, .slice a1 m.back.length e1, .slice none 0 0]) := E3.out.1.keep b4
  have O4 : Hid (u4.ownsRow (w.heap.size + 3) 2 1 (.slice a1 m.back.length e1) m.back.length (m.back.flatMap intCell) ∧ u4.ownsRow (w.heap.size + 3) 2 1 (.slice a2 m.blocks.length e2) m.blocks.length (m.blocks.flatMap intCell)) := ⟨own_keep E3.out.2 b4 (Nat.le_refl _), own_base own4 E3.out.1.siz⟩
  clear own4 b4 E3 p0 p1 p2
  obtain ⟨o0, o1, o2, z0, z1, z2⟩ := row3 E4.out.loc
  obtain ⟨q0, q1, q2, y0, y1, y2⟩ := row3 E4.out.res
  go_wp2_with fail
  clear o0 o1 o2 z0 z1 z2 q0 q1 q2 y0 y1 y2
  have F6 := (((E4.out.set 2 (.slice a2 m.blocks.length e2)).set' 0 (.int .i64 m.head)).set' 1 (.slice a1 m.back.length e1)).set' 2 (.slice a2 m.blocks.length e2)
  simp only [List.set_cons_zero, List.set_cons_succ] at F6
  obtain ⟨q0, q1, q2, _⟩ := row3 F6.res
  have R : ∀ {xs : List Value} {V : Value} {n : Nat}, u4.ownsRow (w.heap.size + 3) 2 1 V n xs → Rd ((((u4.setCell ⟨w.heap.size + 1 + 1, 2, none⟩ (.slice a2 m.blocks.length e2)).setCell ⟨w.heap.size + 1, 0, none⟩ (.int .i64 m.head)).setCell ⟨w.heap.size + 1, 1, none⟩ (.slice a1 m.back.length e1)).setCell ⟨w.heap.size + 1, 2, none⟩ (.slice a2 m.blocks.length e2)) 1 V n xs := fun h =>
    Rd.of_own (own_set (w := w) (own_set (w := w) (own_set (w := w) (own_set (w := w) h (w.heap.size + 1 + 1) 2 (by omega) _) (w.heap.size + 1) 0 (by omega) _) (w.heap.size + 1) 1 (by omega) _) (w.heap.size + 1) 2 (by omega) _)
  exact bodyPost_ret (v := .agg #[.int .i64 m.head, .slice a1 m.back.length e1, .slice a2 m.blocks.length e2]) (by simp [results, Tryz.results22, go_sem, q0, q1, q2]) rfl ⟨a1, e1, a2, e2, rfl, ⟨R O4.out.1, R O4.out.2⟩, F6.bel⟩
set_option maxHeartbeats 2000000 in
set_option maxRecDepth 100000 in
theorem eqLoop_same (v v' : VL) (f : ML) (w : World) (hs : f.small) (h : RdLv w v f) (h' : RdLv w v' f) :
    Calls Tryz.prog 24 #[.agg #[.int .i64 f.head, v.b, v.k], .agg #[.int .i64 f.head, v'.b, v'.k]] w fun e w' => e = .returned (.bool true) ∧ Below w.heap.size w w' := by
  have E0 := two_new w #[.int .i64 f.head, v.b, v.k] #[.int .i64 f.head, v'.b, v'.k] 53 53
  have H : Hid (RdLv w v f ∧ RdLv w v' f ∧ f.small) := ⟨h, h', hs⟩
  clear h h' hs
  go_enter Tryz.func24, Tryz.ntmps24
  go_upto_region 1 with fail
  refine wp_world (fun u => Hid (Blk u w.heap.size #[.int .i64 f.head, v.b, v.k] 53 ∧ Blk u (w.heap.size + 1) #[.int .i64 f.head, v'.b, v'.k] 53 ∧ Below w.heap.size w u)) E0 ?_
  rintro U E1
  clear E0
  obtain ⟨p0, p1, p2⟩ := blk3 E1.out.1
  obtain ⟨o0, o1, o2⟩ := blk3 E1.out.2.1
  go_wp2_with fail
  refine (eqInt64S_same v.b v'.b f.back _ (Nat.le_trans H.out.2.2.1 (by omega)) (Rd.keep H.out.1.1 E1.out.2.2 (Nat.le_refl _)) (Rd.keep H.out.2.1.1 E1.out.2.2 (Nat.le_refl _))).mono ?_
  rintro e u1 ⟨rfl, b1⟩
  have E2 : Hid (Blk u1 w.heap.size #[.int .i64 f.head, v.b, v.k] 53 ∧ Blk u1 (w.heap.size + 1) #[.int .i64 f.head, v'.b, v'.k] 53 ∧ Below w.heap.size w u1) := ⟨E1.out.1.keep b1, E1.out.2.1.keep b1, below_on E1.out.2.2 (Nat.le_refl _) b1⟩
  clear b1 E1 p0 p1 p2 o0 o1 o2
  obtain ⟨p0, p1, p2⟩ := blk3 E2.out.1
  obtain ⟨o0, o1, o2⟩ := blk3 E2.out.2.1
  go_wp2_with fail
  refine (eqInt64S_same v.k v'.k f.blocks _ (Nat.le_trans H.out.2.2.2 (by omega)) (Rd.keep H.out.1.2 E2.out.2.2 (Nat.le_refl _)) (Rd.keep H.out.2.1.2 E2.out.2.2 (Nat.le_refl _))).mono ?_
  rintro e u2 ⟨rfl, b2⟩
  have B2 : Hid (Below w.heap.size w u2) := below_on E2.out.2.2 (Nat.le_refl _) b2
  clear b2 E2
  go_wp2
  go_ret
  exact ⟨rfl, B2.out⟩
set_option maxHeartbeats 2000000 in
set_option maxRecDepth 100000 in
theorem szLoop_any (v : VL) (m : ML) (left : Int) (w : World) (hf : m.fits) (h : RdLv w v m) (h0 : 0 ≤ left) (h1 : left ≤ 1048576) :
    Calls Tryz.prog 20 #[.agg #[.int .i64 m.head, v.b, v.k], .int .i64 left] w fun e w' => ∃ r : Int, e = .returned (.int .i64 r) ∧ (r = -1 ∨ 0 ≤ r ∧ r ≤ left ∧ m.small) ∧ Below w.heap.size w w' := by
  obtain ⟨a1, c1, e1⟩ := Rd.is_slice h.1
  obtain ⟨a2, c2, e2⟩ := Rd.is_slice h.2
  obtain ⟨vb, vk⟩ := v
  simp only [] at e1 e2
  subst e1 e2
  have HB0 : Hid (Below w.heap.size w (w.alloc (.cells #[.int .i64 m.head, .slice a1 m.back.length c1, .slice a2 m.blocks.length c2] 50))) := (Below.refl _ _).alloc (Nat.le_refl _) _
  have HF : Hid m.fits := hf
  clear hf h
  go_enter Tryz.func20, Tryz.ntmps20
  go_wp2_with fail
  refine (szInt64S_any a1 m.back.length c1 left _ HF.out.1 h0 h1).mono ?_
  rintro e u2 ⟨rfl, rfl⟩
  have hz := szv_cases (n := m.back.length) h0 h1
  generalize szv left m.back.length = r1 at hz
  rcases hz with rfl | ⟨r10, r11, r12⟩
  · go_wp2
    go_ret
    exact ⟨-1, rfl, .inl rfl, HB0.out⟩
  go_wp2_with fail
  refine (szInt64S_any a2 m.blocks.length c2 r1 _ HF.out.2 r10 (by omega)).mono ?_
  rintro e u2 ⟨rfl, rfl⟩
  have hz := szv_cases (n := m.blocks.length) r10 (by omega)
  generalize szv r1 m.blocks.length = r2 at hz
  rcases hz with rfl | ⟨r20, r21, r22⟩
  · go_wp2
    go_ret
    exact ⟨-1, rfl, .inl rfl, HB0.out⟩
  go_wp2
  go_ret
  exact ⟨r2, rfl, .inr ⟨r20, by omega, by omega, by omega⟩, HB0.out⟩
theorem cellsLL : Tryz.prog.cellsOf 50 = 3 := by kernel_rfl
theorem threeL {cs : List Value} (h : cs.length = 3) : ∃ a b c, cs = [a, b, c] := by
  match cs, h with
  | [a, b, c], _ => exact ⟨a, b, c, rfl⟩
theorem open_loop {H : Type} {enc : TypeId × Value → H} {w : World} {spare : Nat → Bool} {held : Bool} {fuel : Nat} {cs : List Value} {x : DataW H × List MemPlace} (h : DataW.trod enc Tryz.prog w 0 spare held fuel 50 cs = some x) : ∃ (m : ML) (v : VL), cs = [.int .i64 m.head, v.b, v.k] ∧ RdLv w v m ∧ m.fits ∧ m.wf := by
  obtain ⟨y0, y1, y2, n, _, hl, g0, g1, g2⟩ := Go.Deep.trod_struct3 Tryz.underlying50 h
  rw [cellsLL] at hl
  obtain ⟨a, b, c, rfl⟩ := threeL hl
  simp only [cells64, cellsS64, List.drop_zero, List.drop_succ_cons, List.take_succ_cons, List.take_zero] at g0 g1 g2
  obtain ⟨z0, e0, w0⟩ := open_i64 g0
  obtain ⟨⟨l1, s1⟩, e1, w1, m1, k1⟩ := open_ints64 g1
  obtain ⟨⟨l2, s2⟩, e2, w2, m2, k2⟩ := open_ints64 g2
  simp only [intCell, rCells, List.cons.injEq, and_true] at e0 e1 e2
  subst e0 e1 e2
  exact ⟨⟨z0, l1, l2⟩, ⟨b, c⟩, rfl, ⟨w1, w2⟩, ⟨by simp [maxLen] at m1; exact m1, by simp [maxLen] at m2; exact m2⟩, w0⟩
end Go.Proofs.YtdfmdgbolmbffaaGreat
namespace Go.Proofs.YtdfmdgbolmbffaaGreat
set_option linter.unusedVariables false

def buildsRun (P : Program) : List Oper → Act → Option Act
  | [], a => some a
  | o :: r, a =>
    match o.guard, o.op with
    | none, .build t parts =>
      match P.built t (parts.map fun (i, x) => (i, a.eval x)).toList with
      | some cells => buildsRun P r (a.put o.dst (.agg cells))
      | none => none
    | _, _ => none

theorem wpList_builds {P : Program} {ops : Array Oper} {Q : Exit → Act → World → Prop} {w : World} {a' : Act} (rest : List Oper) (h : wpList P ops Q rest a' w) :
    ∀ (l : List Oper) (a : Act), buildsRun P l a = some a' → wpList P ops Q (l ++ rest) a w
  | [], a, hb => by
    simp only [buildsRun, Option.some.injEq] at hb
    subst hb
    exact h
  | o :: r, a, hb => by
    unfold buildsRun at hb
    split at hb
    · next t parts hg ho =>
      split at hb
      · next cells hc =>
        refine wpList_build hg t parts ho (by rw [hc]; rfl) ?_
        rw [hc]
        exact wpList_builds rest h r _ hb
      · cases hb
    · cases hb

theorem wpList_table {P : Program} {ops : Array Oper} {Q : Exit → Act → World → Prop} {w : World} {l : List Oper} {a : Act} (n : Nat) (ty t : TypeId) (x y : Operand) (g : Nat) (cells old : Array Value) (p : Tmp)
    (hb : (buildsRun P (l.take n) a).map (fun a' => (a'.eval x, a'.eval y, a'.tmps.getD p undef, a'.defers)) = some (.pointer (some ⟨g, 0, none⟩), .agg cells, .pointer (some ⟨g, 0, none⟩), []))
    (hd : (l.drop n).map (fun o => (o.guard, o.op, o.dst)) = [(none, .store ty x y, none)])
    (hg : w.heap[g]? = some (.cells old t (0, 0))) (hi : (P.info? ty).map (·.size) = some cells.size)
    (hold : old.size = cells.size) (h1 : cells.all (·.oneCell') = true)
    (h : ∀ a', a'.tmps.getD p undef = .pointer (some ⟨g, 0, none⟩) → a'.defers = [] → Q .normal a' (w.setRow g cells)) : wpList P ops Q l a w := by
  rw [← List.take_append_drop n l]
  obtain ⟨a', ha, he⟩ := Option.map_eq_some_iff.1 hb
  simp only [Prod.mk.injEq] at he
  refine wpList_builds (a' := a') _ ?_ _ _ ha
  generalize l.drop n = l2 at hd
  rcases l2 with _ | ⟨o, _ | ⟨o2, l3⟩⟩
  · cases hd
  · simp only [List.map_cons, List.map_nil, List.cons.injEq, Prod.mk.injEq, and_true] at hd
    refine wpList_store_row hd.1 ty x y hd.2.1 g cells he.1 he.2.1 t old hg hi hold h1 ?_
    rw [hd.2.2]
    exact wpList_nil (h _ he.2.2.1 he.2.2.2)
  · simp at hd
end Go.Proofs.YtdfmdgbolmbffaaGreat
namespace Go.Proofs.YtdfmdgbolmbffaaGreat
set_option linter.unusedVariables false

/-- A region of builds, one slice of them, and its assignment to the result's slot. -/
theorem wpList_tableSlice {P : Program} {ops : Array Oper} {Q : Exit → Act → World → Prop} {w : World} {l : List Oper} {a : Act} (n : Nat) (t e : TypeId) (len : Nat) (parts : Array (Nat × Operand)) (s p m : Nat) (cells : Array Value) (ie : TypeInfo) (z : Value)
    (hb : (buildsRun P (l.take n) a).map (fun a' => (Instr.fill (fun i => some (i * ie.size, ie.size)) ((Array.range (len * ie.size)).map (z.cells[· % z.cells.size]!)) (parts.map fun (i, x) => (i, a'.eval x)).toList, a'.tmps.size, a'.defers)) = some (some cells, m, []))
    (hd : (l.drop n).map (fun o => (o.guard, o.op, o.dst)) = [(none, .buildSlice t len parts, some s), (none, .assign (.tmp s), some p)])
    (hs : s < m) (hp : p < m)
    (hu : P.underlying t = some (.slice e)) (hie : P.info? e = some ie) (hz : ie.zero = some z) (hsmall : ¬ len * ie.size > 2 ^ 24) (hpos : ¬ len * ie.size = 0)
    (h : ∀ a', a'.tmps.getD p undef = .slice (some ⟨w.heap.size, 0, none⟩) len len → a'.defers = [] → Q .normal a' (w.alloc (.cells cells e))) : wpList P ops Q l a w := by
  rw [← List.take_append_drop n l]
  obtain ⟨a', ha, he⟩ := Option.map_eq_some_iff.1 hb
  simp only [Prod.mk.injEq] at he
  refine wpList_builds (a' := a') _ ?_ _ _ ha
  generalize l.drop n = l2 at hd
  rcases l2 with _ | ⟨o, _ | ⟨o2, _ | ⟨o3, l3⟩⟩⟩
  · cases hd
  · simp at hd
  · simp only [List.map_cons, List.map_nil, List.cons.injEq, Prod.mk.injEq, and_true] at hd
    obtain ⟨⟨g1, o1, d1⟩, g2, o2', d2⟩ := hd
    refine wpList_buildSlice g1 t e len parts o1 cells ie z hu hie hz hsmall hpos he.1 ?_
    rw [d1]
    refine wpList_plain g2 fun K hK => ?_
    unfold Oper.wp execOp
    simp only [o2', Sem.run_pure]
    refine hK _ _ (wpList_nil (h _ ?_ ?_))
    · simp [Act.put, Act.eval, hp, hs, he.2.1, d2]
    · simp [Act.put, he.2.2, d2]
  · simp at hd
end Go.Proofs.YtdfmdgbolmbffaaGreat
namespace Go.Proofs.YtdfmdgbolmbffaaGreat
open Go.ChangeShapes Go.WideShapes Go.ChangeAt Go.RowKit
set_option linter.unusedVariables false
def infoCells : Array Value := #[.string ⟨#[110, 111, 112]⟩, .int .i64 1, .int .i64 0,
  .string ⟨#[99, 111, 110, 115, 116]⟩, .int .i64 1, .int .i64 1,
  .string ⟨#[108, 111, 97, 100, 108, 111, 99, 97, 108]⟩, .int .i64 1, .int .i64 2,
  .string ⟨#[115, 116, 111, 114, 101, 108, 111, 99, 97, 108]⟩, .int .i64 1, .int .i64 2,
  .string ⟨#[108, 111, 97, 100]⟩, .int .i64 2, .int .i64 3,
  .string ⟨#[115, 116, 111, 114, 101]⟩, .int .i64 2, .int .i64 3,
  .string ⟨#[108, 111, 97, 100, 97, 116]⟩, .int .i64 3, .int .i64 4,
  .string ⟨#[115, 116, 111, 114, 101, 97, 116]⟩, .int .i64 3, .int .i64 4,
  .string ⟨#[97, 100, 100]⟩, .int .i64 1, .int .i64 5,
  .string ⟨#[115, 117, 98]⟩, .int .i64 1, .int .i64 5,
  .string ⟨#[109, 117, 108]⟩, .int .i64 3, .int .i64 5,
  .string ⟨#[100, 105, 118]⟩, .int .i64 8, .int .i64 5,
  .string ⟨#[109, 111, 100]⟩, .int .i64 8, .int .i64 5,
  .string ⟨#[97, 110, 100]⟩, .int .i64 1, .int .i64 6,
  .string ⟨#[111, 114]⟩, .int .i64 1, .int .i64 6,
  .string ⟨#[120, 111, 114]⟩, .int .i64 1, .int .i64 6,
  .string ⟨#[110, 111, 116]⟩, .int .i64 1, .int .i64 6,
  .string ⟨#[115, 104, 108]⟩, .int .i64 1, .int .i64 0,
  .string ⟨#[115, 104, 114]⟩, .int .i64 1, .int .i64 0,
  .string ⟨#[110, 101, 103]⟩, .int .i64 1, .int .i64 0,
  .string ⟨#[101, 113]⟩, .int .i64 1, .int .i64 7,
  .string ⟨#[108, 101, 115, 115]⟩, .int .i64 1, .int .i64 5,
  .string ⟨#[99, 111, 110, 118]⟩, .int .i64 1, .int .i64 8,
  .string ⟨#[100, 117, 112]⟩, .int .i64 1, .int .i64 0,
  .string ⟨#[100, 114, 111, 112]⟩, .int .i64 1, .int .i64 0,
  .string ⟨#[106, 117, 109, 112]⟩, .int .i64 2, .int .i64 9,
  .string ⟨#[106, 117, 109, 112, 122, 101, 114, 111]⟩, .int .i64 2, .int .i64 9,
  .string ⟨#[103, 117, 97, 114, 100]⟩, .int .i64 2, .int .i64 10,
  .string ⟨#[99, 97, 108, 108]⟩, .int .i64 4, .int .i64 11,
  .string ⟨#[114, 101, 116, 117, 114, 110]⟩, .int .i64 2, .int .i64 0]
set_option maxRecDepth 100000 in
set_option maxHeartbeats 1000000 in
theorem l2Infos_any (w : World) : Calls Tryz.prog 129 #[] w fun e w' => e = .returned (.slice (some ⟨w.heap.size, 0, none⟩) 30 30) ∧ w' = w.alloc (.cells infoCells 158) := by
  go_enter Tryz.func129, Tryz.ntmps129
  go_wp2_with (show wpList _ _ _ ({ dst := some 1, op := Op.build _ _, type := _, pos := _, after := _, guard := _ } :: _) _ _; refine wpList_tableSlice 30 189 158 30 #[(0, .tmp 1), (1, .tmp 2), (2, .tmp 3), (3, .tmp 4), (4, .tmp 5), (5, .tmp 6), (6, .tmp 7), (7, .tmp 8), (8, .tmp 9), (9, .tmp 10), (10, .tmp 11), (11, .tmp 12), (12, .tmp 13), (13, .tmp 14), (14, .tmp 15), (15, .tmp 16), (16, .tmp 17), (17, .tmp 18), (18, .tmp 19), (19, .tmp 20), (20, .tmp 21), (21, .tmp 22), (22, .tmp 23), (23, .tmp 24), (24, .tmp 25), (25, .tmp 26), (26, .tmp 27), (27, .tmp 28), (28, .tmp 29), (29, .tmp 30)] 31 0 32 infoCells ((Tryz.prog.info? 158).getD default) (.agg #[.string ⟨#[]⟩, .int .i64 0, .int .i64 0]) (by kernel_rfl) rfl (by decide) (by decide) Tryz.underlying189 (by kernel_rfl) (by kernel_rfl) (of_decide_eq_true (by kernel_rfl)) (of_decide_eq_true (by kernel_rfl)) ?_; intro a' hp hd)
  refine bodyPost_ret (v := .slice (some ⟨w.heap.size, 0, none⟩) 30 30) ?_ hd ⟨rfl, rfl⟩
  rw [← hp]
  exact results_tmp Tryz.results129 _ _ _

/-- The three cells of row k. -/
def infoRow (k : Nat) : List Value := (infoCells.extract (3 * k) (3 * k + 3)).toList
theorem infoRow_length (k : Nat) (hk : k < 30) : (infoRow k).length = 3 := by
  have h0 : infoCells.size = 90 := by kernel_rfl
  simp [infoRow, h0]; omega
theorem infoRow_one (k : Nat) (hk : k < 30) : (infoRow k).toArray.all (·.oneCell') = true := by
  have h0 : infoCells.all (·.oneCell') = true := by kernel_rfl
  rw [Array.all_eq_true_iff_forall_mem] at h0 ⊢
  intro v hv
  simp only [infoRow, Array.toArray_toList] at hv
  obtain ⟨i, hi, rfl⟩ := Array.mem_iff_getElem.1 hv
  rw [Array.getElem_extract]
  exact h0 _ (Array.getElem_mem _)
theorem infoRow_range (w : World) (b k : Nat) (hk : k < 30) (h : w.heap[b]? = some (.cells infoCells 158)) : w.rangeAt b (k * 3) (infoRow k) := by
  intro j v hv
  have h0 : infoCells.size = 90 := by kernel_rfl
  rw [cell_of_row w b _ infoCells _ _ h]
  simp only [infoRow, Array.getElem?_toList] at hv
  rw [Array.getElem?_extract] at hv
  split at hv
  · rw [← hv, Nat.mul_comm]
  · cases hv
theorem zero_info (w : World) : (zeroValue 158).run Tryz.prog w = .ok (.agg #[.string ⟨#[]⟩, .int .i64 0, .int .i64 0]) w := by kernel_rfl

set_option maxRecDepth 100000 in
theorem SInfo_out (op : Int) (w : World) (h : op < 0 ∨ 29 < op) : Calls Tryz.prog 98 #[.int .i64 op] w fun e w' => e = .returned (.agg #[.string ⟨#[]⟩, .int .i64 0, .int .i64 0]) ∧ Below w.heap.size w w' := by
  have hz := zero_info
  rcases h with h | h
  · go_enter Tryz.func98, Tryz.ntmps98
    go_wp2
    exact bodyPost_ret (v := .agg #[.string ⟨#[]⟩, .int .i64 0, .int .i64 0]) (by simp [results, Tryz.results98, go_sem]) rfl ⟨rfl, (Below.refl _ _).alloc (Nat.le_refl _) _⟩
  · have h0 : decide (op < 0) = false := by simp; omega
    have h1 : decide (29 < op) = true := by simp; omega
    go_enter Tryz.func98, Tryz.ntmps98
    go_wp2
    exact bodyPost_ret (v := .agg #[.string ⟨#[]⟩, .int .i64 0, .int .i64 0]) (by simp [results, Tryz.results98, go_sem]) rfl ⟨rfl, (Below.refl _ _).alloc (Nat.le_refl _) _⟩

set_option maxRecDepth 100000 in
theorem SInfo_in (k : Nat) (hk : k < 30) (w : World) : Calls Tryz.prog 98 #[.int .i64 (k : Int)] w fun e w' => e = .returned (.agg (infoRow k).toArray) ∧ Below w.heap.size w w' := by
  have hz := zero_info
  have h0 : decide ((k : Int) < 0) = false := by simp
  have h1 : decide (29 < (k : Int)) = false := by simp; omega
  have HS : Hid ((infoRow k).length = 3 ∧ (infoRow k).toArray.all (·.oneCell') = true) := ⟨infoRow_length k hk, infoRow_one k hk⟩
  go_enter Tryz.func98, Tryz.ntmps98
  go_wp2_with (first
    | (go_at_call 129; refine (l2Infos_any _).mono ?_; rintro e w1 ⟨rfl, rfl⟩)
    | (show wpList _ _ _ ({ dst := some 13, op := Op.load 158 _, type := _, pos := _, after := _, guard := _ } :: _) _ _; refine wpList_load_mid rfl 158 (.tmp 12) rfl (w.heap.size + 1) (k * 3) rfl (infoRow k) _ (infoRow_range _ _ _ hk (heap_alloc2_new _ _ _)) Tryz.underlying158 rfl (by rw [HS.out.1]; kernel_rfl) ?_)
    | (show wpList _ _ _ ({ dst := none, op := Op.store 158 _ _, type := _, pos := _, after := _, guard := _ } :: _) _ _; refine wpList_store_row rfl 158 (.tmp 2) (.tmp 13) rfl w.heap.size (infoRow k).toArray rfl rfl 158 #[.string ⟨#[]⟩, .int .i64 0, .int .i64 0] (heap_alloc2_old _ _ _) (by rw [List.size_toArray, HS.out.1]; kernel_rfl) (by show 3 = (infoRow k).length; rw [HS.out.1]) HS.out.2 ?_))
  refine bodyPost_ret (v := .agg (infoRow k).toArray) (results_cell_row Tryz.results98 _ _ w.heap.size 158 (infoRow k).toArray (0, 0) _ rfl (setRow_heap _ _ _ _ _ _ (heap_alloc2_old _ _ _)) Tryz.underlying158 rfl (by rw [List.size_toArray, HS.out.1]; kernel_rfl)) rfl ⟨rfl, ?_⟩
  exact below_setRow (((Below.refl _ _).alloc (Nat.le_refl _) _).alloc (by simp) _) (Nat.le_refl _) _
end Go.Proofs.YtdfmdgbolmbffaaGreat
