/- Mem2: a memory: toMemory, eqMemory, szMemory, one that came in. -/
import Derived.Test.YtadkabiipkngiaaMem1
namespace Go.Proofs.Ytadkabiipkngiaa
open Go.ChangeShapes Go.WideShapes Go.ChangeAt Go.RowKit
set_option linter.unusedVariables false
/-- A memory. -/
structure MM where
  ins : List Int
  outs : List Int
  keeps : List Int
/-- Its three lists, as values. -/
structure VM where
  i : Value
  o : Value
  k : Value
structure RdM (w : World) (v : VM) (m : MM) : Prop where
  ins : Rd w 1 v.i m.ins.length (m.ins.flatMap wCell)
  outs : Rd w 1 v.o m.outs.length (m.outs.flatMap wCell)
  keeps : Rd w 1 v.k m.keeps.length (m.keeps.flatMap wCell)
structure OwnM (w : World) (base : Nat) (v : VM) (m : MM) : Prop where
  ins : w.ownsRow base 102 1 v.i m.ins.length (m.ins.flatMap wCell)
  outs : w.ownsRow base 102 1 v.o m.outs.length (m.outs.flatMap wCell)
  keeps : w.ownsRow base 102 1 v.k m.keeps.length (m.keeps.flatMap wCell)
structure MM.small (m : MM) : Prop where
  ins : m.ins.length ≤ 1048576
  outs : m.outs.length ≤ 1048576
  keeps : m.keeps.length ≤ 1048576
structure MM.fits (m : MM) : Prop where
  ins : m.ins.length ≤ 9223372036854775807
  outs : m.outs.length ≤ 9223372036854775807
  keeps : m.keeps.length ≤ 9223372036854775807
structure MM.wf (m : MM) : Prop where
  ins : ∀ z ∈ m.ins, W32 z
  outs : ∀ z ∈ m.outs, W32 z
  keeps : ∀ z ∈ m.keeps, W32 z
theorem OwnM.rd {w : World} {base : Nat} {v : VM} {m : MM} (h : OwnM w base v m) : RdM w v m := ⟨Rd.of_own h.ins, Rd.of_own h.outs, Rd.of_own h.keeps⟩
theorem RdM.keep {w w' : World} {v : VM} {m : MM} (h : RdM w v m) {B : Nat} (hb : Below B w w') (hB : w.heap.size ≤ B) : RdM w' v m := ⟨h.ins.keep hb hB, h.outs.keep hb hB, h.keeps.keep hb hB⟩
theorem OwnM.keep {w w' : World} {base : Nat} {v : VM} {m : MM} (h : OwnM w base v m) {B : Nat} (hb : Below B w w') (hB : w.heap.size ≤ B) : OwnM w' base v m := ⟨own_keep h.ins hb hB, own_keep h.outs hb hB, own_keep h.keeps hb hB⟩
theorem OwnM.base {w : World} {base base' : Nat} {v : VM} {m : MM} (h : OwnM w base v m) (hb : base' ≤ base) : OwnM w base' v m := ⟨own_base h.ins hb, own_base h.outs hb, own_base h.keeps hb⟩
theorem OwnM.below {w : World} {base : Nat} {v : VM} {m : MM} (h : OwnM w base v m) {a : Addr} (ha : a.block < base) (u : Value) : OwnM (w.setCell a u) base v m := ⟨ownsRow_setCell_below h.ins ha u, ownsRow_setCell_below h.outs ha u, ownsRow_setCell_below h.keeps ha u⟩
/-- A block of three cells. -/
theorem row3 {w : World} {base : Nat} {e : TypeId} {g : Nat} {a b c : Value} (h : w.ownsRow base e 3 (.slice (some ⟨g, 0, none⟩) 1 1) 1 [a, b, c]) :
    w.cell? ⟨g, 0, none⟩ = some a ∧ w.cell? ⟨g, 1, none⟩ = some b ∧ w.cell? ⟨g, 2, none⟩ = some c ∧ w.frozen? ⟨g, 0, none⟩ = false ∧ w.frozen? ⟨g, 1, none⟩ = false ∧ w.frozen? ⟨g, 2, none⟩ = false :=
  ⟨h.cellAt 0 (by omega), h.cellAt 1 (by omega), h.cellAt 2 (by omega), h.frozenAt 0, h.frozenAt 1, h.frozenAt 2⟩
set_option maxHeartbeats 4000000 in
set_option maxRecDepth 100000 in
theorem toMemory_any (v : VM) (m : MM) (w : World) (hs : m.small) (h : RdM w v m) :
    Calls Try.prog 18 #[.agg #[v.i, v.o, v.k]] w fun e w' => ∃ a1 c1 a2 c2 a3 c3, e = .returned (.agg #[.slice a1 m.ins.length c1, .slice a2 m.outs.length c2, .slice a3 m.keeps.length c3]) ∧ OwnM w' w.heap.size ⟨.slice a1 m.ins.length c1, .slice a2 m.outs.length c2, .slice a3 m.keeps.length c3⟩ m ∧ Below w.heap.size w w' := by
  have F0 := FrK.of 3 w 49 30 #[v.i, v.o, v.k] #[.slice none 0 0, .slice none 0 0, .slice none 0 0] #[.slice none 0 0, .slice none 0 0, .slice none 0 0] rfl rfl rfl
  go_enter Try.func18, Try.ntmps18
  go_wp2_with fail
  refine (toUint32S_new v.i m.ins _ hs.ins (h.ins.keep F0.bel (Nat.le_refl _))).mono ?_
  rintro e u1 ⟨a1, c1, rfl, own1, b1⟩
  have O1 : Hid (u1.ownsRow (w.heap.size + 3) 102 1 (.slice a1 m.ins.length c1) m.ins.length (m.ins.flatMap wCell)) := own_base own1 F0.siz
  have F1 := F0.keep b1
  clear own1 b1 F0
  obtain ⟨p0, p1, p2, _⟩ := row3 F1.par
  obtain ⟨o0, o1, o2, z0, z1, z2⟩ := row3 F1.loc
  go_wp2_with fail
  have F2 := F1.set 0 (.slice a1 m.ins.length c1)
  have O2 : Hid _ := own_set (w := w) O1.out (w.heap.size + 1 + 1) 0 (by omega) (.slice a1 m.ins.length c1)
  clear O1 F1 p0 p1 p2 o0 o1 o2 z0 z1 z2
  simp only [List.set_cons_zero] at F2
  refine (toUint32S_new v.o m.outs _ hs.outs (h.outs.keep F2.bel (Nat.le_refl _))).mono ?_
  rintro e u2 ⟨a2, c2, rfl, own2, b2⟩
  have O3 : Hid (u2.ownsRow (w.heap.size + 3) 102 1 (.slice a1 m.ins.length c1) m.ins.length (m.ins.flatMap wCell) ∧ u2.ownsRow (w.heap.size + 3) 102 1 (.slice a2 m.outs.length c2) m.outs.length (m.outs.flatMap wCell)) := ⟨own_keep O2.out b2 (Nat.le_refl _), own_base own2 F2.siz⟩
  have F3 := F2.keep b2
  clear own2 b2 F2 O2
  obtain ⟨p0, p1, p2, _⟩ := row3 F3.par
  obtain ⟨o0, o1, o2, z0, z1, z2⟩ := row3 F3.loc
  go_wp2_with fail
  have F4 := F3.set 1 (.slice a2 m.outs.length c2)
  have O4 : Hid _ := And.intro (own_set (w := w) O3.out.1 (w.heap.size + 1 + 1) 1 (by omega) (.slice a2 m.outs.length c2)) (own_set (w := w) O3.out.2 (w.heap.size + 1 + 1) 1 (by omega) (.slice a2 m.outs.length c2))
  clear O3 F3 p0 p1 p2 o0 o1 o2 z0 z1 z2
  simp only [List.set_cons_zero, List.set_cons_succ] at F4
  refine (toUint32S_new v.k m.keeps _ hs.keeps (h.keeps.keep F4.bel (Nat.le_refl _))).mono ?_
  rintro e u3 ⟨a3, c3, rfl, own3, b3⟩
  have O5 : Hid (OwnM u3 (w.heap.size + 3) ⟨.slice a1 m.ins.length c1, .slice a2 m.outs.length c2, .slice a3 m.keeps.length c3⟩ m) := ⟨own_keep O4.out.1 b3 (Nat.le_refl _), own_keep O4.out.2 b3 (Nat.le_refl _), own_base own3 F4.siz⟩
  have F5 := F4.keep b3
  clear own3 b3 F4 O4
  obtain ⟨p0, p1, p2, _⟩ := row3 F5.par
  obtain ⟨o0, o1, o2, z0, z1, z2⟩ := row3 F5.loc
  obtain ⟨q0, q1, q2, y0, y1, y2⟩ := row3 F5.res
  go_wp2_with fail
  clear p0 p1 p2 o0 o1 o2 z0 z1 z2 q0 q1 q2 y0 y1 y2
  have F6 := (((F5.set 2 (.slice a3 m.keeps.length c3)).set' 0 (.slice a1 m.ins.length c1)).set' 1 (.slice a2 m.outs.length c2)).set' 2 (.slice a3 m.keeps.length c3)
  simp only [List.set_cons_zero, List.set_cons_succ] at F6
  obtain ⟨q0, q1, q2, _⟩ := row3 F6.res
  have hall := (((O5.out.below (a := ⟨w.heap.size + 1 + 1, 2, none⟩) (by simp) (.slice a3 m.keeps.length c3)).below (a := ⟨w.heap.size + 1, 0, none⟩) (by simp <;> omega) (.slice a1 m.ins.length c1)).below (a := ⟨w.heap.size + 1, 1, none⟩) (by simp <;> omega) (.slice a2 m.outs.length c2)).below (a := ⟨w.heap.size + 1, 2, none⟩) (by simp <;> omega) (.slice a3 m.keeps.length c3)
  exact bodyPost_ret (v := .agg #[.slice a1 m.ins.length c1, .slice a2 m.outs.length c2, .slice a3 m.keeps.length c3]) (by simp [results, Try.results18, go_sem, q0, q1, q2]) rfl ⟨a1, c1, a2, c2, a3, c3, rfl, hall.base (by omega), F6.bel⟩
set_option maxHeartbeats 2000000 in
set_option maxRecDepth 100000 in
theorem eqMemory_same (v v' : VM) (m : MM) (w : World) (hs : m.small) (h : RdM w v m) (h' : RdM w v' m) :
    Calls Try.prog 9 #[.agg #[v.i, v.o, v.k], .agg #[v'.i, v'.o, v'.k]] w fun e w' => e = .returned (.bool true) ∧ Below w.heap.size w w' := by
  have HB0 : Hid (Below w.heap.size w ((w.alloc (.cells #[v.i, v.o, v.k] 30)).alloc (.cells #[v'.i, v'.o, v'.k] 30))) := ((Below.refl _ _).alloc (Nat.le_refl _) _).alloc (by simp) _
  go_enter Try.func9, Try.ntmps9
  go_wp2_with fail
  refine (eqUint32S_quiet v.i v'.i m.ins _ (Nat.le_trans hs.ins (by omega)) (h.ins.keep HB0.out (Nat.le_refl _)) (h'.ins.keep HB0.out (Nat.le_refl _))).mono ?_
  rintro e u1 ⟨rfl, n1, rfl⟩
  have HB1 : Hid _ := HB0.out.trans (below_drewN _ _ n1)
  go_wp2_with fail
  refine (eqUint32S_quiet v.o v'.o m.outs _ (Nat.le_trans hs.outs (by omega)) (h.outs.keep HB1.out (Nat.le_refl _)) (h'.outs.keep HB1.out (Nat.le_refl _))).mono ?_
  rintro e u1 ⟨rfl, n2, rfl⟩
  have HB2 : Hid _ := HB0.out.trans (below_drewN _ _ (n1 + n2))
  go_wp2_with fail
  refine (eqUint32S_quiet v.k v'.k m.keeps _ (Nat.le_trans hs.keeps (by omega)) (h.keeps.keep HB2.out (Nat.le_refl _)) (h'.keeps.keep HB2.out (Nat.le_refl _))).mono ?_
  rintro e u1 ⟨rfl, n3, rfl⟩
  have HB3 : Hid _ := HB0.out.trans (below_drewN _ _ (n1 + n2 + n3))
  go_wp2
  go_ret
  exact ⟨rfl, HB3.out⟩
set_option maxHeartbeats 2000000 in
set_option maxRecDepth 100000 in
theorem szMemory_any (v : VM) (m : MM) (left : Int) (w : World) (hf : m.fits) (h : RdM w v m) (h0 : 0 ≤ left) (h1 : left ≤ 1048576) :
    Calls Try.prog 15 #[.agg #[v.i, v.o, v.k], .int .i64 left] w fun e w' => ∃ r : Int, e = .returned (.int .i64 r) ∧ (r = -1 ∨ 0 ≤ r ∧ r ≤ left ∧ m.small) ∧ Below w.heap.size w w' := by
  obtain ⟨a1, c1, e1⟩ := h.ins.is_slice
  obtain ⟨a2, c2, e2⟩ := h.outs.is_slice
  obtain ⟨a3, c3, e3⟩ := h.keeps.is_slice
  obtain ⟨vi, vo, vk⟩ := v
  simp only [] at e1 e2 e3
  subst e1 e2 e3
  have HB0 : Hid (Below w.heap.size w (w.alloc (.cells #[.slice a1 m.ins.length c1, .slice a2 m.outs.length c2, .slice a3 m.keeps.length c3] 49))) := (Below.refl _ _).alloc (Nat.le_refl _) _
  have HF : Hid m.fits := hf
  clear hf h
  go_enter Try.func15, Try.ntmps15
  go_wp2_with fail
  refine (szUint32S_any a1 m.ins.length c1 left _ HF.out.ins h0 h1).mono ?_
  rintro e u2 ⟨rfl, rfl⟩
  have hz := szv_cases (n := m.ins.length) h0 h1
  generalize szv left m.ins.length = r1 at hz
  rcases hz with rfl | ⟨r10, r11, r12⟩
  · go_wp2
    go_ret
    exact ⟨-1, rfl, .inl rfl, HB0.out⟩
  go_wp2_with fail
  refine (szUint32S_any a2 m.outs.length c2 r1 _ HF.out.outs r10 (by omega)).mono ?_
  rintro e u2 ⟨rfl, rfl⟩
  have hz := szv_cases (n := m.outs.length) r10 (by omega)
  generalize szv r1 m.outs.length = r2 at hz
  rcases hz with rfl | ⟨r20, r21, r22⟩
  · go_wp2
    go_ret
    exact ⟨-1, rfl, .inl rfl, HB0.out⟩
  go_wp2_with fail
  refine (szUint32S_any a3 m.keeps.length c3 r2 _ HF.out.keeps r20 (by omega)).mono ?_
  rintro e u2 ⟨rfl, rfl⟩
  have hz := szv_cases (n := m.keeps.length) r20 (by omega)
  generalize szv r2 m.keeps.length = r3 at hz
  rcases hz with rfl | ⟨r30, r31, r32⟩
  · go_wp2
    go_ret
    exact ⟨-1, rfl, .inl rfl, HB0.out⟩
  go_wp2
  go_ret
  exact ⟨r3, rfl, .inr ⟨r30, by omega, ⟨by omega, by omega, by omega⟩⟩, HB0.out⟩
theorem cellsLM : Try.prog.cellsOf 49 = 3 := by kernel_rfl
theorem cellsSW : Try.prog.cellsOf 28 = 1 := by kernel_rfl
section
variable {H : Type} {enc : TypeId × Value → H} {w : World} {spare : Nat → Bool} {held : Bool} {fuel : Nat} {cs : List Value} {x : DataW H × List MemPlace}
theorem three {cs : List Value} (h : cs.length = 3) : ∃ a b c, cs = [a, b, c] := by
  match cs, h with
  | [a, b, c], _ => exact ⟨a, b, c, rfl⟩
theorem open_words (h : DataW.trod enc Try.prog w 0 spare held fuel 28 cs = some x) : ∃ (s : Value) (l : List Int), cs = [s] ∧ Rd w 1 s l.length (l.flatMap wCell) ∧ l.length ≤ 9223372036854775807 ∧ ∀ z ∈ l, W32 z := by
  obtain ⟨s, ys, e, h1, h2, h3⟩ := open_rows wCell W32 1 wCell_length (by omega) Try.underlying28 cells32 (fun _ _ _ => open_u32) h
  exact ⟨s, ys, e, h1, by simp [maxLen] at h2; exact h2, h3⟩
theorem open_memory (h : DataW.trod enc Try.prog w 0 spare held fuel 49 cs = some x) : ∃ (m : MM) (v : VM), cs = [v.i, v.o, v.k] ∧ RdM w v m ∧ m.fits ∧ m.wf := by
  obtain ⟨y0, y1, y2, n, _, hl, g0, g1, g2⟩ := Go.Deep.trod_struct3 Try.underlying49 h
  rw [cellsLM] at hl
  obtain ⟨a, b, c, rfl⟩ := three hl
  simp only [cellsSW, List.drop_zero, List.drop_succ_cons, List.take_succ_cons, List.take_zero] at g0 g1 g2
  obtain ⟨s0, l0, e0, w0, m0, k0⟩ := open_words g0
  obtain ⟨s1, l1, e1, w1, m1, k1⟩ := open_words g1
  obtain ⟨s2, l2, e2, w2, m2, k2⟩ := open_words g2
  simp only [List.cons.injEq, and_true] at e0 e1 e2
  subst e0 e1 e2
  exact ⟨⟨l0, l1, l2⟩, ⟨a, b, c⟩, rfl, ⟨w0, w1, w2⟩, ⟨m0, m1, m2⟩, ⟨k0, k1, k2⟩⟩
end
end Go.Proofs.Ytadkabiipkngiaa
