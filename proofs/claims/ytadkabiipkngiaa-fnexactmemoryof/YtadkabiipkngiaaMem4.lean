/- Mem4: spec.MemoryOf, impl.MemoryOf. -/
import Derived.Test.YtadkabiipkngiaaMem3
import Derived.Deep.RegionHeld
namespace Go.Proofs.Ytadkabiipkngiaa
open Go.ChangeShapes Go.WideShapes Go.ChangeAt Go.RowKit
set_option linter.unusedVariables false
/-- The memory of a state. -/
def memOf (s : MS) : MM :=
  match s.cells with
  | [a, b, c] => ⟨wordsL a, wordsL b, wordsL c⟩
  | _ => ⟨[], [], []⟩
/-- No two of the three lists are one. -/
def Sep3 (v : VM) : Prop := (∀ g, v.i.ownBlock = some g → v.o.ownBlock ≠ some g ∧ v.k.ownBlock ≠ some g) ∧ ∀ g, v.o.ownBlock = some g → v.k.ownBlock ≠ some g
theorem own_block {w : World} {base : Nat} {e : TypeId} {s : Value} {k n : Nat} {xs : List Value} (h : w.ownsRow base e k s n xs) {g : Nat} (hg : s.ownBlock = some g) : base ≤ g ∧ g < w.heap.size := h.lt g hg
theorem Sep3.of {w1 w2 w3 : World} {B : Nat} {v : VM} {n1 n2 n3 : Nat} {x1 x2 x3 : List Value} (h1 : w1.ownsRow B 102 1 v.i n1 x1) (h2 : w2.ownsRow w1.heap.size 102 1 v.o n2 x2) (h3 : w3.ownsRow w2.heap.size 102 1 v.k n3 x3) (h12 : w1.heap.size ≤ w2.heap.size) : Sep3 v := by
  refine ⟨fun g hg => ⟨fun e => ?_, fun e => ?_⟩, fun g hg e => ?_⟩
  · have := (own_block h1 hg).2
    have := (own_block h2 e).1
    omega
  · have := (own_block h1 hg).2
    have := (own_block h3 e).1
    omega
  · have := (own_block h2 hg).2
    have := (own_block h3 e).1
    omega
/-- Seven cells of a block. -/
structure At7 (w : World) (b : Nat) (x0 x1 x2 x3 x4 x5 x6 : Value) : Prop where
  c0 : w.cell? ⟨b, 0, none⟩ = some x0
  c1 : w.cell? ⟨b, 1, none⟩ = some x1
  c2 : w.cell? ⟨b, 2, none⟩ = some x2
  c3 : w.cell? ⟨b, 3, none⟩ = some x3
  c4 : w.cell? ⟨b, 4, none⟩ = some x4
  c5 : w.cell? ⟨b, 5, none⟩ = some x5
  c6 : w.cell? ⟨b, 6, none⟩ = some x6
theorem At7.lt {w : World} {b : Nat} {x0 x1 x2 x3 x4 x5 x6 : Value} (h : At7 w b x0 x1 x2 x3 x4 x5 x6) : b < w.heap.size := block_lt_of_cell h.c0
theorem At7.keep {w w' : World} {b : Nat} {x0 x1 x2 x3 x4 x5 x6 : Value} (h : At7 w b x0 x1 x2 x3 x4 x5 x6) (hb : Below w.heap.size w w') : At7 w' b x0 x1 x2 x3 x4 x5 x6 :=
  ⟨by rw [hb.cell h.lt]; exact h.c0, by rw [hb.cell h.lt]; exact h.c1, by rw [hb.cell h.lt]; exact h.c2, by rw [hb.cell h.lt]; exact h.c3, by rw [hb.cell h.lt]; exact h.c4, by rw [hb.cell h.lt]; exact h.c5, by rw [hb.cell h.lt]; exact h.c6⟩
theorem At7.new (w : World) (x0 x1 x2 x3 x4 x5 x6 : Value) (ty : TypeId) : At7 (w.alloc (.cells #[x0, x1, x2, x3, x4, x5, x6] ty)) w.heap.size x0 x1 x2 x3 x4 x5 x6 := by
  have h := World.ownsRow_lit (base := w.heap.size) (e := ty) (size := 7) w #[x0, x1, x2, x3, x4, x5, x6] 1 (Nat.le_refl _) (by unfold maxLen; omega) (by simp)
  exact ⟨h.cellAt 0 (by omega), h.cellAt 1 (by omega), h.cellAt 2 (by omega), h.cellAt 3 (by omega), h.cellAt 4 (by omega), h.cellAt 5 (by omega), h.cellAt 6 (by omega)⟩
/-- The three lists of a state's cells. -/
structure Cel3 (w : World) (vc : Value) (s : MS) (g o c : Nat) (r0 r1 r2 : List MC) (y0 y1 y2 : Value) : Prop where
  rows : vc = .slice (some ⟨g, o, none⟩) 3 c
  eq : s.cells = [r0, r1, r2]
  i0 : w.cell? ⟨g, o, none⟩ = some y0
  i1 : w.cell? ⟨g, o + 1, none⟩ = some y1
  i2 : w.cell? ⟨g, o + 2, none⟩ = some y2
  k0 : Rd w 2 y0 r0.length (r0.flatMap MC.cells)
  k1 : Rd w 2 y1 r1.length (r1.flatMap MC.cells)
  k2 : Rd w 2 y2 r2.length (r2.flatMap MC.cells)
theorem Cel3.of {w : World} {v : VS} {s : MS} (h : RdS w v s) (h3 : s.cells.length = 3) : ∃ g o c r0 r1 r2 y0 y1 y2, Cel3 w v.c s g o c r0 r1 r2 y0 y1 y2 := by
  obtain ⟨xs, hxs, hrd, hel⟩ := h.cells
  have hxl : xs.length = 3 := by rw [← h3, ← hxs]; simp
  obtain ⟨⟨r0, y0⟩, ⟨r1, y1⟩, ⟨r2, y2⟩, rfl⟩ : ∃ a b c, xs = [a, b, c] := by
    match xs, hxl with
    | [a, b, c], _ => exact ⟨a, b, c, rfl⟩
  rcases hrd.2 with ⟨e0, _⟩ | ⟨g, o, c, e1, hc⟩
  · omega
  · rw [h3] at e1
    exact ⟨g, o, c, r0, r1, r2, y0, y1, y2, e1, by rw [← hxs]; rfl, by simpa using hc 0 y0 rfl, hc 1 y1 rfl, hc 2 y2 rfl, hel (r0, y0) (by simp), hel (r1, y1) (by simp), hel (r2, y2) (by simp)⟩
theorem cell_keep {W u : World} (hb : Below W.heap.size W u) {a : Addr} {x : Value} (h : W.cell? a = some x) : u.cell? a = some x := by rw [hb.cell (block_lt_of_cell h)]; exact h
theorem frozen_keep {W u : World} (hb : Below W.heap.size W u) {a : Addr} (ha : a.block < W.heap.size) (h : W.frozen? a = false) : u.frozen? a = false := by
  unfold World.frozen? at *
  rw [hb.block _ ha]
  exact h
/-- What a call that reads a state's three lists finds, and where it puts its answer. -/
structure MemIn (w W : World) (g o c : Nat) (y0 y1 y2 : Value) : Prop where
  st : W.cell? ⟨w.heap.size, 4, none⟩ = some (.slice (some ⟨g, o, none⟩) 3 c)
  i0 : W.cell? ⟨g, o, none⟩ = some y0
  i1 : W.cell? ⟨g, o + 1, none⟩ = some y1
  i2 : W.cell? ⟨g, o + 2, none⟩ = some y2
  q0 : W.cell? ⟨w.heap.size + 1, 0, none⟩ = some (.slice none 0 0)
  q1 : W.cell? ⟨w.heap.size + 1, 1, none⟩ = some (.slice none 0 0)
  q2 : W.cell? ⟨w.heap.size + 1, 2, none⟩ = some (.slice none 0 0)
  z0 : W.frozen? ⟨w.heap.size + 1, 0, none⟩ = false
  z1 : W.frozen? ⟨w.heap.size + 1, 1, none⟩ = false
  z2 : W.frozen? ⟨w.heap.size + 1, 2, none⟩ = false
theorem MemIn.keep {w W u : World} {g o c : Nat} {y0 y1 y2 : Value} (h : MemIn w W g o c y0 y1 y2) (hb : Below W.heap.size W u) : MemIn w u g o c y0 y1 y2 :=
  have hq := block_lt_of_cell h.q0
  ⟨cell_keep hb h.st, cell_keep hb h.i0, cell_keep hb h.i1, cell_keep hb h.i2, cell_keep hb h.q0, cell_keep hb h.q1, cell_keep hb h.q2, frozen_keep hb hq h.z0, frozen_keep hb hq h.z1, frozen_keep hb hq h.z2⟩
theorem MemIn.all {w W : World} {g o c : Nat} {y0 y1 y2 : Value} (h : MemIn w W g o c y0 y1 y2) : W.cell? ⟨w.heap.size, 4, none⟩ = some (.slice (some ⟨g, o, none⟩) 3 c) ∧ W.cell? ⟨g, o, none⟩ = some y0 ∧ W.cell? ⟨g, o + 1, none⟩ = some y1 ∧ W.cell? ⟨g, o + 2, none⟩ = some y2 ∧ W.cell? ⟨w.heap.size + 1, 0, none⟩ = some (.slice none 0 0) ∧ W.cell? ⟨w.heap.size + 1, 1, none⟩ = some (.slice none 0 0) ∧ W.cell? ⟨w.heap.size + 1, 2, none⟩ = some (.slice none 0 0) ∧ W.frozen? ⟨w.heap.size + 1, 0, none⟩ = false ∧ W.frozen? ⟨w.heap.size + 1, 1, none⟩ = false ∧ W.frozen? ⟨w.heap.size + 1, 2, none⟩ = false :=
  ⟨h.st, h.i0, h.i1, h.i2, h.q0, h.q1, h.q2, h.z0, h.z1, h.z2⟩
set_option maxHeartbeats 4000000 in
set_option maxRecDepth 100000 in
theorem specMemoryOf_any (v : VS) (s : MS) (w : World) (hs : s.small) (h : RdS w v s) :
    Calls Try.prog 6 #[.agg #[.int .i64 s.trap, .bool s.done, .int .i64 s.cost, .int .i64 s.steps, v.c, v.k, v.f]] w fun e w' => ∃ a1 n1 c1 a2 n2 c2 a3 n3 c3, e = .returned (.agg #[.slice a1 n1 c1, .slice a2 n2 c2, .slice a3 n3 c3]) ∧ OwnM w' w.heap.size ⟨.slice a1 n1 c1, .slice a2 n2 c2, .slice a3 n3 c3⟩ (memOf s) ∧ Sep3 ⟨.slice a1 n1 c1, .slice a2 n2 c2, .slice a3 n3 c3⟩ ∧ Below w.heap.size w w' := by
  obtain ⟨rc1, cc1, ec1⟩ : ∃ a c, v.c = .slice a s.cells.length c := by
    obtain ⟨_, _, hq, _⟩ := h.cells
    exact hq.is_slice
  by_cases h3 : s.cells.length = 3
  · obtain ⟨g, o, c, r0, r1, r2, y0, y1, y2, hC⟩ := Cel3.of h h3
    have hm : memOf s = ⟨wordsL r0, wordsL r1, wordsL r2⟩ := by unfold memOf; rw [hC.eq]
    rw [hm]
    have hsm : r0.length ≤ 1048576 ∧ r1.length ≤ 1048576 ∧ r2.length ≤ 1048576 := by
      have := hs.cell
      rw [hC.eq] at this
      exact ⟨this r0 (by simp), this r1 (by simp), this r2 (by simp)⟩
    obtain ⟨vc, vk, vf⟩ := v
    have hrows := hC.rows
    simp only [] at hrows
    subst hrows
    have H : Hid (Cel3 w (.slice (some ⟨g, o, none⟩) 3 c) s g o c r0 r1 r2 y0 y1 y2 ∧ r0.length ≤ 1048576 ∧ r1.length ≤ 1048576 ∧ r2.length ≤ 1048576) := ⟨hC, hsm⟩
    have hA := At7.new w (.int .i64 s.trap) (.bool s.done) (.int .i64 s.cost) (.int .i64 s.steps) (.slice (some ⟨g, o, none⟩) 3 c) vk vf 36
    have hB := below_alloc w (.cells #[.int .i64 s.trap, .bool s.done, .int .i64 s.cost, .int .i64 s.steps, .slice (some ⟨g, o, none⟩) 3 c, vk, vf] 36)
    clear h hs hC hsm hm ec1
    go_enter Try.func6, Try.ntmps6
    go_wp2_with fail
    have HB : Hid (Below w.heap.size w ((w.alloc (.cells #[.int .i64 s.trap, .bool s.done, .int .i64 s.cost, .int .i64 s.steps, .slice (some ⟨g, o, none⟩) 3 c, vk, vf] 36)).alloc (.cells #[.slice none 0 0, .slice none 0 0, .slice none 0 0] 30))) := below_on hB (Nat.le_refl _) (below_alloc _ _)
    have hR := World.ownsRow_lit (base := 0) (e := 30) (size := 3) (w.alloc (.cells #[.int .i64 s.trap, .bool s.done, .int .i64 s.cost, .int .i64 s.steps, .slice (some ⟨g, o, none⟩) 3 c, vk, vf] 36)) #[.slice none 0 0, .slice none 0 0, .slice none 0 0] 1 (Nat.zero_le _) (by unfold maxLen; omega) (by simp)
    rw [show (w.alloc (.cells #[.int .i64 s.trap, .bool s.done, .int .i64 s.cost, .int .i64 s.steps, .slice (some ⟨g, o, none⟩) 3 c, vk, vf] 36)).heap.size = w.heap.size + 1 by simp] at hR
    have HM : Hid (MemIn w ((w.alloc (.cells #[.int .i64 s.trap, .bool s.done, .int .i64 s.cost, .int .i64 s.steps, .slice (some ⟨g, o, none⟩) 3 c, vk, vf] 36)).alloc (.cells #[.slice none 0 0, .slice none 0 0, .slice none 0 0] 30)) g o c y0 y1 y2) := ⟨cell_keep (below_alloc _ _) hA.c4, by rw [HB.out.cell (block_lt_of_cell H.out.1.i0)]; exact H.out.1.i0, by rw [HB.out.cell (block_lt_of_cell H.out.1.i1)]; exact H.out.1.i1, by rw [HB.out.cell (block_lt_of_cell H.out.1.i2)]; exact H.out.1.i2, hR.cellAt 0 (by omega), hR.cellAt 1 (by omega), hR.cellAt 2 (by omega), hR.frozenAt 0, hR.frozenAt 1, hR.frozenAt 2⟩
    have hsz : w.heap.size + 1 < ((w.alloc (.cells #[.int .i64 s.trap, .bool s.done, .int .i64 s.cost, .int .i64 s.steps, .slice (some ⟨g, o, none⟩) 3 c, vk, vf] 36)).alloc (.cells #[.slice none 0 0, .slice none 0 0, .slice none 0 0] 30)).heap.size := by simp
    have HR : Hid _ := hR
    clear hA hB hR
    generalize ((w.alloc (.cells #[.int .i64 s.trap, .bool s.done, .int .i64 s.cost, .int .i64 s.steps, .slice (some ⟨g, o, none⟩) 3 c, vk, vf] 36)).alloc (.cells #[.slice none 0 0, .slice none 0 0, .slice none 0 0] 30)) = W1 at HB HM HR hsz ⊢
    have KS := (HM.out.keep (below_drew1 _)).all
    have ng : ¬ g = w.heap.size + 1 := by have := block_lt_of_cell H.out.1.i0; simp only [] at this; omega
    have ng' : ¬ w.heap.size + 1 = g := fun e => ng e.symm
    go_region_held (fun w' => w'.cell? ⟨w.heap.size, 4, none⟩ = some (.slice (some ⟨g, o, none⟩) 3 c) ∧ w'.cell? ⟨g, o, none⟩ = some y0 ∧ w'.cell? ⟨g, o + 1, none⟩ = some y1 ∧ w'.cell? ⟨g, o + 2, none⟩ = some y2) (first | exact ⟨KS.1, KS.2.1, KS.2.2.1, KS.2.2.2.1⟩ | go_keep) (first | (go_at_call_of 24 y0; refine (l4WordsOf_any y0 r0 _ H.out.2.1 ?_).mono ?_; exact H.out.1.k0.keep (below_on HB.out (Nat.le_refl _) (below_drew1 _)) (Nat.le_refl _); rintro e u1 ⟨a1, c1, rfl, own1, b1⟩; have B1 : Hid (Below W1.heap.size W1 u1) := below_drew_trans b1 (Nat.le_refl _); have O1 : Hid (u1.ownsRow W1.heap.size 102 1 (.slice a1 r0.length c1) r0.length ((wordsL r0).flatMap wCell)) := own1; have KS := (HM.out.keep B1.out).all; clear own1 b1) | (go_at_call_of 24 y1; have hh := B1; clear hh; refine (l4WordsOf_any y1 r1 _ H.out.2.2.1 ?_).mono ?_; exact H.out.1.k1.keep (below_on HB.out (Nat.le_refl _) B1.out) (Nat.le_refl _); rintro e u2 ⟨a2, c2, rfl, own2, b2⟩; have B2 : Hid (Below W1.heap.size W1 u2) := below_on B1.out (Nat.le_refl _) b2; have O2 : Hid (u2.ownsRow u1.heap.size 102 1 (.slice a2 r1.length c2) r1.length ((wordsL r1).flatMap wCell)) := own2; have KS := (HM.out.keep B2.out).all; have C2 : Hid (Below u1.heap.size u1 u2) := b2; clear own2 b2) | (go_at_call_of 24 y2; have hh := B2; clear hh; refine (l4WordsOf_any y2 r2 _ H.out.2.2.2 ?_).mono ?_; exact H.out.1.k2.keep (below_on HB.out (Nat.le_refl _) B2.out) (Nat.le_refl _); rintro e u3 ⟨a3, c3, rfl, own3, b3⟩; have B3 : Hid (Below W1.heap.size W1 u3) := below_on B2.out (Nat.le_refl _) b3; have O3 : Hid (u3.ownsRow u2.heap.size 102 1 (.slice a3 r2.length c3) r2.length ((wordsL r2).flatMap wCell)) := own3; have KS := (HM.out.keep B3.out).all; obtain ⟨s0, s1, s2, s3, s4, s5, s6, s7, s8, s9⟩ := (HM.out.keep B3.out).all; have C3 : Hid (Below u2.heap.size u2 u3) := b3; clear own3 b3))
    go_wp2_with fail
    have R3 := own_keep HR.out B3.out (Nat.le_refl _)
    have R4 := (((R3.stored 0 (.slice a1 r0.length c1)).1.stored 1 (.slice a2 r1.length c2)).1.stored 2 (.slice a3 r2.length c3)).1
    simp only [List.set_cons_zero, List.set_cons_succ] at R4
    obtain ⟨t0, t1, t2, _⟩ := row3 R4
    have hbF : Below w.heap.size w (((u3.setCell ⟨w.heap.size + 1, 0, none⟩ (.slice a1 r0.length c1)).setCell ⟨w.heap.size + 1, 1, none⟩ (.slice a2 r1.length c2)).setCell ⟨w.heap.size + 1, 2, none⟩ (.slice a3 r2.length c3)) := (((below_on HB.out (Nat.le_refl _) B3.out).setCell (by simp) _).setCell (by simp) _).setCell (by simp) _
    have hall : ∀ {B : Nat} {e : TypeId} {s : Value} {k n : Nat} {xs : List Value}, W1.heap.size ≤ B → u3.ownsRow B e k s n xs → (((u3.setCell ⟨w.heap.size + 1, 0, none⟩ (.slice a1 r0.length c1)).setCell ⟨w.heap.size + 1, 1, none⟩ (.slice a2 r1.length c2)).setCell ⟨w.heap.size + 1, 2, none⟩ (.slice a3 r2.length c3)).ownsRow w.heap.size e k s n xs := fun hB h =>
      own_base (ownsRow_setCell_below (ownsRow_setCell_below (ownsRow_setCell_below h (by simp only []; omega) _) (by simp only []; omega) _) (by simp only []; omega) _) (by have := HB.out.size; omega)
    have l12 := B1.out.size
    have l13 := B2.out.size
    have P1 := hall (Nat.le_refl _) (own_keep (own_keep O1.out C2.out (Nat.le_refl _)) C3.out (Nat.le_refl _))
    have P2 := hall l12 (own_keep O2.out C3.out (Nat.le_refl _))
    have P3 := hall l13 O3.out
    rw [← wordsL_length] at P1 P2 P3
    refine bodyPost_ret (v := .agg #[.slice a1 r0.length c1, .slice a2 r1.length c2, .slice a3 r2.length c3]) (by simp [results, Try.results6, go_sem, t0, t1, t2]) rfl ⟨a1, _, c1, a2, _, c2, a3, _, c3, rfl, ⟨?_, ?_, ?_⟩, Sep3.of (v := ⟨.slice a1 r0.length c1, .slice a2 r1.length c2, .slice a3 r2.length c3⟩) O1.out O2.out O3.out C2.out.size, hbF⟩
    · simpa [wordsL_length] using P1
    · simpa [wordsL_length] using P2
    · simpa [wordsL_length] using P3
  · have hm : memOf s = ⟨[], [], []⟩ := by
      unfold memOf
      split
      · rename_i e
        rw [e] at h3
        exact absurd rfl h3
      · rfl
    rw [hm]
    obtain ⟨vc, vk, vf⟩ := v
    simp only [] at ec1
    subst ec1
    have q0 : ¬ (s.cells.length : Int) = 3 := by omega
    have hq : s.cells.length ≤ 1048576 := hs.cells
    have hB := below_on (below_alloc w (.cells #[.int .i64 s.trap, .bool s.done, .int .i64 s.cost, .int .i64 s.steps, .slice rc1 s.cells.length cc1, vk, vf] 36)) (Nat.le_refl _) (below_alloc _ (.cells #[.slice none 0 0, .slice none 0 0, .slice none 0 0] 30))
    clear h hs hm
    go_enter Try.func6, Try.ntmps6
    go_wp2_with fail
    exact bodyPost_ret (v := .agg #[.slice none 0 0, .slice none 0 0, .slice none 0 0]) (by simp [results, Try.results6, go_sem]) rfl ⟨none, 0, 0, none, 0, 0, none, 0, 0, rfl, ⟨World.ownsRow_nil _ _ _ _, World.ownsRow_nil _ _ _ _, World.ownsRow_nil _ _ _ _⟩, ⟨fun g hg => (by cases hg), fun g hg => (by cases hg)⟩, hB⟩
set_option maxHeartbeats 4000000 in
set_option maxRecDepth 100000 in
theorem implMemoryOf_any (v : VS) (s : MS) (w : World) (hs : s.small) (h : RdS w v s) :
    Calls Try.prog 8 #[.agg #[.int .i64 s.trap, .bool s.done, .int .i64 s.cost, .int .i64 s.steps, v.c, v.k, v.f]] w fun e w' => ∃ a1 n1 c1 a2 n2 c2 a3 n3 c3, e = .returned (.agg #[.slice a1 n1 c1, .slice a2 n2 c2, .slice a3 n3 c3]) ∧ OwnM w' w.heap.size ⟨.slice a1 n1 c1, .slice a2 n2 c2, .slice a3 n3 c3⟩ (memOf s) ∧ Sep3 ⟨.slice a1 n1 c1, .slice a2 n2 c2, .slice a3 n3 c3⟩ ∧ Below w.heap.size w w' := by
  obtain ⟨rc1, cc1, ec1⟩ : ∃ a c, v.c = .slice a s.cells.length c := by
    obtain ⟨_, _, hq, _⟩ := h.cells
    exact hq.is_slice
  by_cases h3 : s.cells.length = 3
  · obtain ⟨g, o, c, r0, r1, r2, y0, y1, y2, hC⟩ := Cel3.of h h3
    have hm : memOf s = ⟨wordsL r0, wordsL r1, wordsL r2⟩ := by unfold memOf; rw [hC.eq]
    rw [hm]
    have hsm : r0.length ≤ 1048576 ∧ r1.length ≤ 1048576 ∧ r2.length ≤ 1048576 := by
      have := hs.cell
      rw [hC.eq] at this
      exact ⟨this r0 (by simp), this r1 (by simp), this r2 (by simp)⟩
    obtain ⟨vc, vk, vf⟩ := v
    have hrows := hC.rows
    simp only [] at hrows
    subst hrows
    have H : Hid (Cel3 w (.slice (some ⟨g, o, none⟩) 3 c) s g o c r0 r1 r2 y0 y1 y2 ∧ r0.length ≤ 1048576 ∧ r1.length ≤ 1048576 ∧ r2.length ≤ 1048576) := ⟨hC, hsm⟩
    have hA := At7.new w (.int .i64 s.trap) (.bool s.done) (.int .i64 s.cost) (.int .i64 s.steps) (.slice (some ⟨g, o, none⟩) 3 c) vk vf 36
    have hB := below_alloc w (.cells #[.int .i64 s.trap, .bool s.done, .int .i64 s.cost, .int .i64 s.steps, .slice (some ⟨g, o, none⟩) 3 c, vk, vf] 36)
    clear h hs hC hsm hm ec1
    go_enter Try.func8, Try.ntmps8
    go_wp2_with fail
    have HB : Hid (Below w.heap.size w ((w.alloc (.cells #[.int .i64 s.trap, .bool s.done, .int .i64 s.cost, .int .i64 s.steps, .slice (some ⟨g, o, none⟩) 3 c, vk, vf] 36)).alloc (.cells #[.slice none 0 0, .slice none 0 0, .slice none 0 0] 30))) := below_on hB (Nat.le_refl _) (below_alloc _ _)
    have hR := World.ownsRow_lit (base := 0) (e := 30) (size := 3) (w.alloc (.cells #[.int .i64 s.trap, .bool s.done, .int .i64 s.cost, .int .i64 s.steps, .slice (some ⟨g, o, none⟩) 3 c, vk, vf] 36)) #[.slice none 0 0, .slice none 0 0, .slice none 0 0] 1 (Nat.zero_le _) (by unfold maxLen; omega) (by simp)
    rw [show (w.alloc (.cells #[.int .i64 s.trap, .bool s.done, .int .i64 s.cost, .int .i64 s.steps, .slice (some ⟨g, o, none⟩) 3 c, vk, vf] 36)).heap.size = w.heap.size + 1 by simp] at hR
    have HM : Hid (MemIn w ((w.alloc (.cells #[.int .i64 s.trap, .bool s.done, .int .i64 s.cost, .int .i64 s.steps, .slice (some ⟨g, o, none⟩) 3 c, vk, vf] 36)).alloc (.cells #[.slice none 0 0, .slice none 0 0, .slice none 0 0] 30)) g o c y0 y1 y2) := ⟨cell_keep (below_alloc _ _) hA.c4, by rw [HB.out.cell (block_lt_of_cell H.out.1.i0)]; exact H.out.1.i0, by rw [HB.out.cell (block_lt_of_cell H.out.1.i1)]; exact H.out.1.i1, by rw [HB.out.cell (block_lt_of_cell H.out.1.i2)]; exact H.out.1.i2, hR.cellAt 0 (by omega), hR.cellAt 1 (by omega), hR.cellAt 2 (by omega), hR.frozenAt 0, hR.frozenAt 1, hR.frozenAt 2⟩
    have hsz : w.heap.size + 1 < ((w.alloc (.cells #[.int .i64 s.trap, .bool s.done, .int .i64 s.cost, .int .i64 s.steps, .slice (some ⟨g, o, none⟩) 3 c, vk, vf] 36)).alloc (.cells #[.slice none 0 0, .slice none 0 0, .slice none 0 0] 30)).heap.size := by simp
    have HR : Hid _ := hR
    clear hA hB hR
    generalize ((w.alloc (.cells #[.int .i64 s.trap, .bool s.done, .int .i64 s.cost, .int .i64 s.steps, .slice (some ⟨g, o, none⟩) 3 c, vk, vf] 36)).alloc (.cells #[.slice none 0 0, .slice none 0 0, .slice none 0 0] 30)) = W1 at HB HM HR hsz ⊢
    have KS := (HM.out.keep (below_drew1 _)).all
    have ng : ¬ g = w.heap.size + 1 := by have := block_lt_of_cell H.out.1.i0; simp only [] at this; omega
    have ng' : ¬ w.heap.size + 1 = g := fun e => ng e.symm
    go_region_held (fun w' => w'.cell? ⟨w.heap.size, 4, none⟩ = some (.slice (some ⟨g, o, none⟩) 3 c) ∧ w'.cell? ⟨g, o, none⟩ = some y0 ∧ w'.cell? ⟨g, o + 1, none⟩ = some y1 ∧ w'.cell? ⟨g, o + 2, none⟩ = some y2) (first | exact ⟨KS.1, KS.2.1, KS.2.2.1, KS.2.2.2.1⟩ | go_keep) (first | (go_at_call_of 28 y0; refine (wordsOf_any y0 r0 _ H.out.2.1 ?_).mono ?_; exact H.out.1.k0.keep (below_on HB.out (Nat.le_refl _) (below_drew1 _)) (Nat.le_refl _); rintro e u1 ⟨a1, c1, rfl, own1, b1⟩; have B1 : Hid (Below W1.heap.size W1 u1) := below_drew_trans b1 (Nat.le_refl _); have O1 : Hid (u1.ownsRow W1.heap.size 102 1 (.slice a1 r0.length c1) r0.length ((wordsL r0).flatMap wCell)) := own1; have KS := (HM.out.keep B1.out).all; clear own1 b1) | (go_at_call_of 28 y1; have hh := B1; clear hh; refine (wordsOf_any y1 r1 _ H.out.2.2.1 ?_).mono ?_; exact H.out.1.k1.keep (below_on HB.out (Nat.le_refl _) B1.out) (Nat.le_refl _); rintro e u2 ⟨a2, c2, rfl, own2, b2⟩; have B2 : Hid (Below W1.heap.size W1 u2) := below_on B1.out (Nat.le_refl _) b2; have O2 : Hid (u2.ownsRow u1.heap.size 102 1 (.slice a2 r1.length c2) r1.length ((wordsL r1).flatMap wCell)) := own2; have KS := (HM.out.keep B2.out).all; have C2 : Hid (Below u1.heap.size u1 u2) := b2; clear own2 b2) | (go_at_call_of 28 y2; have hh := B2; clear hh; refine (wordsOf_any y2 r2 _ H.out.2.2.2 ?_).mono ?_; exact H.out.1.k2.keep (below_on HB.out (Nat.le_refl _) B2.out) (Nat.le_refl _); rintro e u3 ⟨a3, c3, rfl, own3, b3⟩; have B3 : Hid (Below W1.heap.size W1 u3) := below_on B2.out (Nat.le_refl _) b3; have O3 : Hid (u3.ownsRow u2.heap.size 102 1 (.slice a3 r2.length c3) r2.length ((wordsL r2).flatMap wCell)) := own3; have KS := (HM.out.keep B3.out).all; obtain ⟨s0, s1, s2, s3, s4, s5, s6, s7, s8, s9⟩ := (HM.out.keep B3.out).all; have C3 : Hid (Below u2.heap.size u2 u3) := b3; clear own3 b3))
    go_wp2_with fail
    have R3 := own_keep HR.out B3.out (Nat.le_refl _)
    have R4 := (((R3.stored 0 (.slice a1 r0.length c1)).1.stored 1 (.slice a2 r1.length c2)).1.stored 2 (.slice a3 r2.length c3)).1
    simp only [List.set_cons_zero, List.set_cons_succ] at R4
    obtain ⟨t0, t1, t2, _⟩ := row3 R4
    have hbF : Below w.heap.size w (((u3.setCell ⟨w.heap.size + 1, 0, none⟩ (.slice a1 r0.length c1)).setCell ⟨w.heap.size + 1, 1, none⟩ (.slice a2 r1.length c2)).setCell ⟨w.heap.size + 1, 2, none⟩ (.slice a3 r2.length c3)) := (((below_on HB.out (Nat.le_refl _) B3.out).setCell (by simp) _).setCell (by simp) _).setCell (by simp) _
    have hall : ∀ {B : Nat} {e : TypeId} {s : Value} {k n : Nat} {xs : List Value}, W1.heap.size ≤ B → u3.ownsRow B e k s n xs → (((u3.setCell ⟨w.heap.size + 1, 0, none⟩ (.slice a1 r0.length c1)).setCell ⟨w.heap.size + 1, 1, none⟩ (.slice a2 r1.length c2)).setCell ⟨w.heap.size + 1, 2, none⟩ (.slice a3 r2.length c3)).ownsRow w.heap.size e k s n xs := fun hB h =>
      own_base (ownsRow_setCell_below (ownsRow_setCell_below (ownsRow_setCell_below h (by simp only []; omega) _) (by simp only []; omega) _) (by simp only []; omega) _) (by have := HB.out.size; omega)
    have l12 := B1.out.size
    have l13 := B2.out.size
    have P1 := hall (Nat.le_refl _) (own_keep (own_keep O1.out C2.out (Nat.le_refl _)) C3.out (Nat.le_refl _))
    have P2 := hall l12 (own_keep O2.out C3.out (Nat.le_refl _))
    have P3 := hall l13 O3.out
    rw [← wordsL_length] at P1 P2 P3
    refine bodyPost_ret (v := .agg #[.slice a1 r0.length c1, .slice a2 r1.length c2, .slice a3 r2.length c3]) (by simp [results, Try.results8, go_sem, t0, t1, t2]) rfl ⟨a1, _, c1, a2, _, c2, a3, _, c3, rfl, ⟨?_, ?_, ?_⟩, Sep3.of (v := ⟨.slice a1 r0.length c1, .slice a2 r1.length c2, .slice a3 r2.length c3⟩) O1.out O2.out O3.out C2.out.size, hbF⟩
    · simpa [wordsL_length] using P1
    · simpa [wordsL_length] using P2
    · simpa [wordsL_length] using P3
  · have hm : memOf s = ⟨[], [], []⟩ := by
      unfold memOf
      split
      · rename_i e
        rw [e] at h3
        exact absurd rfl h3
      · rfl
    rw [hm]
    obtain ⟨vc, vk, vf⟩ := v
    simp only [] at ec1
    subst ec1
    have q0 : ¬ (s.cells.length : Int) = 3 := by omega
    have hq : s.cells.length ≤ 1048576 := hs.cells
    have hB := below_on (below_alloc w (.cells #[.int .i64 s.trap, .bool s.done, .int .i64 s.cost, .int .i64 s.steps, .slice rc1 s.cells.length cc1, vk, vf] 36)) (Nat.le_refl _) (below_alloc _ (.cells #[.slice none 0 0, .slice none 0 0, .slice none 0 0] 30))
    clear h hs hm
    go_enter Try.func8, Try.ntmps8
    go_wp2_with fail
    exact bodyPost_ret (v := .agg #[.slice none 0 0, .slice none 0 0, .slice none 0 0]) (by simp [results, Try.results8, go_sem]) rfl ⟨none, 0, 0, none, 0, 0, none, 0, 0, rfl, ⟨World.ownsRow_nil _ _ _ _, World.ownsRow_nil _ _ _ _, World.ownsRow_nil _ _ _ _⟩, ⟨fun g hg => (by cases hg), fun g hg => (by cases hg)⟩, hB⟩
end Go.Proofs.Ytadkabiipkngiaa
