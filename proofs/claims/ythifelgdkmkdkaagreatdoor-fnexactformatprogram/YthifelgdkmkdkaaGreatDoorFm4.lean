import Derived.Test.YthifelgdkmkdkaaGreatDoorFm3
namespace Go.Proofs.YthifelgdkmkdkaaGreatDoor
open Go.ChangeShapes Go.WideShapes Go.ChangeAt Go.RowKit
set_option linter.unusedVariables false
/-- A program. -/
structure MP where
  regions : List (List Int)
  consts : List MC
  funcs : List MF
  certs : List MT
/-- Its four lists, as values. -/
structure VP where
  r : Value
  k : Value
  f : Value
  t : Value
def VP.val (v : VP) : Value := .agg #[v.r, v.k, v.f, v.t]
structure RdP (w : World) (v : VP) (p : MP) : Prop where
  regions : RdR w v.r p.regions
  consts : Rd w 2 v.k p.consts.length (p.consts.flatMap MC.cells)
  funcs : RdFs w v.f p.funcs
  certs : Rd w 4 v.t p.certs.length (p.certs.flatMap MT.cells)
structure OwnP (w : World) (base : Nat) (v : VP) (p : MP) : Prop where
  regions : OwnR w base v.r p.regions
  consts : w.ownsRow base 49 2 v.k p.consts.length (p.consts.flatMap MC.cells)
  funcs : OwnFs w base v.f p.funcs
  certs : w.ownsRow base 57 4 v.t p.certs.length (p.certs.flatMap MT.cells)
structure MP.small (p : MP) : Prop where
  regions : p.regions.length ≤ 1048576
  region : ∀ r ∈ p.regions, r.length ≤ 1048576
  consts : p.consts.length ≤ 1048576
  funcs : p.funcs.length ≤ 1048576
  func : ∀ f ∈ p.funcs, f.small
  certs : p.certs.length ≤ 1048576
theorem OwnP.rd {w : World} {base : Nat} {v : VP} {p : MP} (h : OwnP w base v p) : RdP w v p := ⟨h.regions.rd, Rd.of_own h.consts, h.funcs.rd, Rd.of_own h.certs⟩
theorem RdP.keep {w w' : World} {v : VP} {p : MP} (h : RdP w v p) {B : Nat} (hb : Below B w w') (hB : w.heap.size ≤ B) : RdP w' v p := ⟨h.regions.keep hb hB, h.consts.keep hb hB, h.funcs.keep hb hB, h.certs.keep hb hB⟩
theorem OwnP.keep {w w' : World} {base : Nat} {v : VP} {p : MP} (h : OwnP w base v p) {B : Nat} (hb : Below B w w') (hB : w.heap.size ≤ B) : OwnP w' base v p := ⟨h.regions.keep hb hB, own_keep h.consts hb hB, h.funcs.keep hb hB, own_keep h.certs hb hB⟩
theorem OwnP.base {w : World} {base base' : Nat} {v : VP} {p : MP} (h : OwnP w base v p) (hb : base' ≤ base) : OwnP w base' v p := ⟨h.regions.base hb, own_base h.consts hb, h.funcs.base hb, own_base h.certs hb⟩
theorem OwnP.below {w : World} {base : Nat} {v : VP} {p : MP} (h : OwnP w base v p) {a : Addr} (ha : a.block < base) (u : Value) : OwnP (w.setCell a u) base v p := ⟨h.regions.below ha u, ownsRow_setCell_below h.consts ha u, h.funcs.below ha u, ownsRow_setCell_below h.certs ha u⟩

set_option maxHeartbeats 4000000 in
set_option maxRecDepth 100000 in
theorem toProgram_any (v : VP) (p : MP) (w : World) (hs : p.small) (h : RdP w v p) :
    Calls Tryz.prog 6 #[.agg #[v.r, v.k, v.f, v.t]] w fun e w' => ∃ a1 c1 a2 c2 a3 c3 a4 c4, e = .returned (.agg #[.slice a1 p.regions.length c1, .slice a2 p.consts.length c2, .slice a3 p.funcs.length c3, .slice a4 p.certs.length c4]) ∧ OwnP w' w.heap.size ⟨.slice a1 p.regions.length c1, .slice a2 p.consts.length c2, .slice a3 p.funcs.length c3, .slice a4 p.certs.length c4⟩ p ∧ Below w.heap.size w w' := by
  have F0 := Fr.of w 27 34 #[v.r, v.k, v.f, v.t] #[.slice none 0 0, .slice none 0 0, .slice none 0 0, .slice none 0 0] #[.slice none 0 0, .slice none 0 0, .slice none 0 0, .slice none 0 0] rfl rfl rfl
  go_enter Tryz.func6, Tryz.ntmps6
  go_wp2_with fail
  refine (toInt64SS_any v.r p.regions _ hs.regions hs.region (h.regions.keep F0.bel (Nat.le_refl _))).mono ?_
  rintro e u1 ⟨a1, c1, rfl, own1, b1⟩
  have O1 : Hid (OwnR u1 (w.heap.size + 3) (.slice a1 p.regions.length c1) p.regions) := own1.base F0.siz
  have F1 := F0.keep b1
  clear own1 b1 F0
  obtain ⟨p0, p1, p2, p3, _⟩ := row4 F1.par
  obtain ⟨o0, o1, o2, o3, z0, z1, z2, z3⟩ := row4 F1.loc
  go_wp2_with fail
  have F2 := F1.set 0 (.slice a1 p.regions.length c1)
  have O2 : Hid (OwnR (u1.setCell ⟨w.heap.size + 1 + 1, 0, none⟩ (.slice a1 p.regions.length c1)) (w.heap.size + 3) (.slice a1 p.regions.length c1) p.regions) := O1.out.below (by simp) _
  clear O1 F1 p0 p1 p2 p3 o0 o1 o2 o3 z0 z1 z2 z3
  simp only [List.set_cons_zero] at F2
  refine (toConstS_new v.k p.consts _ hs.consts (h.consts.keep F2.bel (Nat.le_refl _))).mono ?_
  rintro e u2 ⟨a2, c2, rfl, own2, b2⟩
  have O3 : Hid (OwnR u2 (w.heap.size + 3) (.slice a1 p.regions.length c1) p.regions ∧ u2.ownsRow (w.heap.size + 3) 49 2 (.slice a2 p.consts.length c2) p.consts.length (p.consts.flatMap MC.cells)) := ⟨O2.out.keep b2 (Nat.le_refl _), own_base own2 F2.siz⟩
  have F3 := F2.keep b2
  clear own2 b2 F2 O2
  obtain ⟨p0, p1, p2, p3, _⟩ := row4 F3.par
  obtain ⟨o0, o1, o2, o3, z0, z1, z2, z3⟩ := row4 F3.loc
  go_wp2_with fail
  have F4 := F3.set 1 (.slice a2 p.consts.length c2)
  have O4 : Hid _ := And.intro (O3.out.1.below (a := ⟨w.heap.size + 1 + 1, 1, none⟩) (by simp) (.slice a2 p.consts.length c2)) (own_set (w := w) O3.out.2 (w.heap.size + 1 + 1) 1 (by omega) (.slice a2 p.consts.length c2))
  clear O3 F3 p0 p1 p2 p3 o0 o1 o2 o3 z0 z1 z2 z3
  simp only [List.set_cons_zero, List.set_cons_succ] at F4
  refine (toFuncS_any v.f p.funcs _ hs.funcs hs.func (h.funcs.keep F4.bel (Nat.le_refl _))).mono ?_
  rintro e u3 ⟨a3, c3, rfl, own3, b3⟩
  have O5 : Hid (OwnR u3 (w.heap.size + 3) (.slice a1 p.regions.length c1) p.regions ∧ u3.ownsRow (w.heap.size + 3) 49 2 (.slice a2 p.consts.length c2) p.consts.length (p.consts.flatMap MC.cells) ∧ OwnFs u3 (w.heap.size + 3) (.slice a3 p.funcs.length c3) p.funcs) := ⟨O4.out.1.keep b3 (Nat.le_refl _), own_keep O4.out.2 b3 (Nat.le_refl _), own3.base F4.siz⟩
  have F5 := F4.keep b3
  clear own3 b3 F4 O4
  obtain ⟨p0, p1, p2, p3, _⟩ := row4 F5.par
  obtain ⟨o0, o1, o2, o3, z0, z1, z2, z3⟩ := row4 F5.loc
  go_wp2_with fail
  have F6 := F5.set 2 (.slice a3 p.funcs.length c3)
  have O6 : Hid _ := And.intro (O5.out.1.below (a := ⟨w.heap.size + 1 + 1, 2, none⟩) (by simp) (.slice a3 p.funcs.length c3)) (And.intro (own_set (w := w) O5.out.2.1 (w.heap.size + 1 + 1) 2 (by omega) (.slice a3 p.funcs.length c3)) (O5.out.2.2.below (a := ⟨w.heap.size + 1 + 1, 2, none⟩) (by simp) (.slice a3 p.funcs.length c3)))
  clear O5 F5 p0 p1 p2 p3 o0 o1 o2 o3 z0 z1 z2 z3
  simp only [List.set_cons_zero, List.set_cons_succ] at F6
  refine (toCertS_new v.t p.certs _ hs.certs (h.certs.keep F6.bel (Nat.le_refl _))).mono ?_
  rintro e u4 ⟨a4, c4, rfl, own4, b4⟩
  have O7 : Hid (OwnP u4 (w.heap.size + 3) ⟨.slice a1 p.regions.length c1, .slice a2 p.consts.length c2, .slice a3 p.funcs.length c3, .slice a4 p.certs.length c4⟩ p) := ⟨O6.out.1.keep b4 (Nat.le_refl _), own_keep O6.out.2.1 b4 (Nat.le_refl _), O6.out.2.2.keep b4 (Nat.le_refl _), own_base own4 F6.siz⟩
  have F7 := F6.keep b4
  clear own4 b4 F6 O6
  obtain ⟨p0, p1, p2, p3, _⟩ := row4 F7.par
  obtain ⟨o0, o1, o2, o3, z0, z1, z2, z3⟩ := row4 F7.loc
  obtain ⟨q0, q1, q2, q3, y0, y1, y2, y3⟩ := row4 F7.res
  go_wp2_with fail
  clear p0 p1 p2 p3 o0 o1 o2 o3 z0 z1 z2 z3 q0 q1 q2 q3 y0 y1 y2 y3
  have F8 := ((((F7.set 3 (.slice a4 p.certs.length c4)).set' 0 (.slice a1 p.regions.length c1)).set' 1 (.slice a2 p.consts.length c2)).set' 2 (.slice a3 p.funcs.length c3)).set' 3 (.slice a4 p.certs.length c4)
  simp only [List.set_cons_zero, List.set_cons_succ] at F8
  obtain ⟨q0, q1, q2, q3, _⟩ := row4 F8.res
  have hall := ((((O7.out.below (a := ⟨w.heap.size + 1 + 1, 3, none⟩) (by simp) (.slice a4 p.certs.length c4)).below (a := ⟨w.heap.size + 1, 0, none⟩) (by simp <;> omega) (.slice a1 p.regions.length c1)).below (a := ⟨w.heap.size + 1, 1, none⟩) (by simp <;> omega) (.slice a2 p.consts.length c2)).below (a := ⟨w.heap.size + 1, 2, none⟩) (by simp <;> omega) (.slice a3 p.funcs.length c3)).below (a := ⟨w.heap.size + 1, 3, none⟩) (by simp <;> omega) (.slice a4 p.certs.length c4)
  exact bodyPost_ret (v := .agg #[.slice a1 p.regions.length c1, .slice a2 p.consts.length c2, .slice a3 p.funcs.length c3, .slice a4 p.certs.length c4]) (by simp [results, Tryz.results6, go_sem, q0, q1, q2, q3]) rfl ⟨a1, c1, a2, c2, a3, c3, a4, c4, rfl, hall.base (by omega), F8.bel⟩
end Go.Proofs.YthifelgdkmkdkaaGreatDoor
