/- Draw2: l1Next at every source; l1Source, l1Chance, l1Word. -/
import Derived.Test.YtkblcoiiloiohaaDoorDraw
import Derived.Laws.Rows
namespace Go.Proofs.YtkblcoiiloiohaaDoor
open Go.ChangeShapes Go.WideShapes Go.ChangeAt Go.RowKit
set_option linter.unusedVariables false

/-- Nothing that was there has turned but block g. -/
structure Drawn (g : Nat) (w w' : World) : Prop where
  os : w'.os = w.os
  tape : w'.tape = w.tape
  output : w'.output = w.output
  size : w.heap.size ≤ w'.heap.size
  block : ∀ k, k < w.heap.size → k ≠ g → w'.heap[k]? = w.heap[k]?

theorem Drawn.refl (g : Nat) (w : World) : Drawn g w w := ⟨rfl, rfl, rfl, Nat.le_refl _, fun _ _ _ => rfl⟩
theorem Drawn.trans {g : Nat} {a b c : World} (h : Drawn g a b) (k : Drawn g b c) : Drawn g a c :=
  ⟨k.os.trans h.os, k.tape.trans h.tape, k.output.trans h.output, Nat.le_trans h.size k.size, fun i hi hg => (k.block i (Nat.lt_of_lt_of_le hi h.size) hg).trans (h.block i hi hg)⟩
theorem Drawn.alloc (g : Nat) (w : World) (o : Obj) : Drawn g w (w.alloc o) :=
  ⟨rfl, rfl, rfl, by simp, fun k hk _ => Below.heap_alloc w o k hk⟩
theorem Drawn.set (g : Nat) (w : World) (o : Nat) (v : Value) (nq : Nat) : Drawn g w ((w.setCell ⟨g, o, none⟩ v).drewN nq) :=
  ⟨rfl, rfl, rfl, by show _ ≤ (w.setCell _ _).heap.size; simp, fun k hk hg => Below.heap_setCell w _ v k hg⟩
theorem Drawn.below {g B : Nat} {w w' : World} (h : Drawn g w w') (hB : B ≤ g) (hs : B ≤ w.heap.size) : Below B w w' :=
  ⟨h.os, h.tape, h.output, h.size, fun k hk => h.block k (Nat.lt_of_lt_of_le hk hs) (by omega)⟩
theorem Drawn.of_below {g : Nat} {w w' : World} (h : Below w.heap.size w w') : Drawn g w w' :=
  ⟨h.os, h.tape, h.output, h.size, fun k hk _ => h.block k hk⟩
theorem Drawn.cell {g : Nat} {w w' : World} (h : Drawn g w w') {p : Addr} (hp : p.block < w.heap.size) (hg : p.block ≠ g) : w'.cell? p = w.cell? p := World.cell?_of_block (w := w) (h.block p.block hp hg)
theorem Drawn.frozen {g : Nat} {w w' : World} (h : Drawn g w w') {p : Addr} (hp : p.block < w.heap.size) (hg : p.block ≠ g) : w'.frozen? p = w.frozen? p := World.frozen?_of_block (w := w) (h.block p.block hp hg)

theorem Src.lt {w : World} {g : Nat} {a : Option Addr} {len cap : Nat} {p : Int} (h : Src w g a len cap p) : g < w.heap.size := block_lt_of_cell h.code
theorem CodeAt.of_drawn {w w' : World} {g g' : Nat} {a : Option Addr} {len : Nat} (h : CodeAt w g a len) (hg : g ≤ g') (hs : g ≤ w.heap.size) (hd : ∀ k, k < g → w'.heap[k]? = w.heap[k]?) : CodeAt w' g' a len := by
  rcases h with h | ⟨b, off, rfl, hb, hc⟩
  · exact .inl h
  · refine .inr ⟨b, off, rfl, by omega, fun i hi => ?_⟩
    obtain ⟨v, h0, h1, h2⟩ := hc i hi
    exact ⟨v, h0, h1, (World.cell?_of_block (w := w) (a := ⟨b, off + i, none⟩) (hd b hb)).trans h2⟩
/-- A source over what leaves its block alone. -/
theorem Src.keep {w w' : World} {g : Nat} {a : Option Addr} {len cap : Nat} {p : Int} (h : Src w g a len cap p) (hd : ∀ k, k ≤ g → w'.heap[k]? = w.heap[k]?) : Src w' g a len cap p := by
  obtain ⟨h1, h2, ⟨sz, h3, h4, h5⟩, h6, h7, h8, h9, h10⟩ := h
  have hgg := hd g (Nat.le_refl _)
  refine ⟨(World.cell?_of_block (w := w) (a := ⟨g, 0, none⟩) hgg).trans h1, (World.cell?_of_block (w := w) (a := ⟨g, 1, none⟩) hgg).trans h2, ⟨sz, h3, h4, (World.cell?_of_block (w := w) (a := ⟨g, 2, none⟩) hgg).trans h5⟩, (World.frozen?_of_block (w := w) (a := ⟨g, 1, none⟩) hgg).trans h6, h7, h8, h9, ?_⟩
  exact h10.of_drawn (Nat.le_refl _) (Nat.le_of_lt (block_lt_of_cell h1)) fun k hk => hd k (Nat.le_of_lt hk)
theorem Src.alloc {w : World} {g : Nat} {a : Option Addr} {len cap : Nat} {p : Int} (h : Src w g a len cap p) (o : Obj) : Src (w.alloc o) g a len cap p :=
  h.keep fun k hk => Below.heap_alloc w o k (Nat.lt_of_le_of_lt hk h.lt)
theorem Src.below {w w' : World} {g : Nat} {a : Option Addr} {len cap : Nat} {p : Int} (h : Src w g a len cap p) (hb : Below w.heap.size w w') : Src w' g a len cap p :=
  h.keep fun k hk => hb.block k (Nat.lt_of_le_of_lt hk h.lt)
theorem Src.next {w : World} {g : Nat} {a : Option Addr} {len cap : Nat} {p : Int} (h : Src w g a len cap p) (hp : p + 1 ≤ 1000000000000) (nq : Nat) : Src ((w.setCell ⟨g, 1, none⟩ (.int .i64 (p + 1))).drewN nq) g a len cap (p + 1) := by
  obtain ⟨h1, h2, ⟨sz, h3, h4, h5⟩, h6, h7, h8, h9, h10⟩ := h
  refine ⟨?_, ?_, ⟨sz, h3, h4, ?_⟩, ?_, by omega, hp, h9, ?_⟩
  · show (w.setCell _ _).cell? _ = _
    rw [World.cell?_setCell_other _ _ _ _ (by simp)]; exact h1
  · show (w.setCell _ _).cell? _ = _
    exact World.cell?_setCell_same w _ _ h2
  · show (w.setCell _ _).cell? _ = _
    rw [World.cell?_setCell_other _ _ _ _ (by simp)]; exact h5
  · show (w.setCell _ _).frozen? _ = _
    simpa using h6
  · exact h10.of_drawn (Nat.le_refl _) (Nat.le_of_lt (block_lt_of_cell h1)) fun k hk => Below.heap_setCell w _ _ k (by show k ≠ g; omega)

/-- ONE DRAW. -/
theorem l1Next_any {w : World} {g : Nat} {a : Option Addr} {len cap : Nat} {p n : Int} (h : Src w g a len cap p) (hp : p + 1 ≤ 1000000000000) (hn : 1 ≤ n) (hn' : n ≤ 1000000) :
    Calls Tryd.prog 12 #[.pointer (some ⟨g, 0, none⟩), .int .i64 n] w fun e w' => ∃ r : Int, 0 ≤ r ∧ r < n ∧ e = .returned (.int .i64 r) ∧ Src w' g a len cap (p + 1) ∧ Drawn g w w' := by
  have fin : ∀ (e : Ending) (w' : World), (∃ (r : Int) (nq : Nat), 0 ≤ r ∧ r < n ∧ e = .returned (.int .i64 r) ∧ w' = (w.setCell ⟨g, 1, none⟩ (.int .i64 (p + 1))).drewN nq) → ∃ r : Int, 0 ≤ r ∧ r < n ∧ e = .returned (.int .i64 r) ∧ Src w' g a len cap (p + 1) ∧ Drawn g w w' := by
    rintro e w' ⟨r, nq, h0, h1, he, rfl⟩
    exact ⟨r, h0, h1, he, h.next hp nq, Drawn.set g w 1 _ nq⟩
  rcases Nat.eq_zero_or_pos len with rfl | hl
  · exact (l1Next_0 h hn hn').mono fin
  · rcases h.bytes with h0 | ⟨b, off, rfl, hb, hc⟩
    · omega
    · have hm (q : Int) : ∃ v : Int, 0 ≤ v ∧ v ≤ 255 ∧ w.cell? ⟨b, off + (q % len).toNat, none⟩ = some (.int .u8 v) := hc _ (by
        have := Int.emod_nonneg q (show (len : Int) ≠ 0 by omega)
        have := Int.emod_lt_of_pos q (show 0 < (len : Int) by omega)
        omega)
      obtain ⟨v, v0, v1, v2⟩ := hm p
      by_cases h200 : n ≤ 200
      · exact (l1Next_1 h hl hb hn h200 v0 v1 v2).mono fin
      · obtain ⟨u, u0, u1, u2⟩ := hm (p + 1)
        exact (l1Next_2 h hl hb (by omega) hn' v0 v1 v2 u0 u1 u2).mono fin

theorem zero_src (w : World) : (zeroValue 49).run Tryd.prog w = .ok (.agg #[.slice none 0 0, .int .i64 0, .int .i64 0]) w := by kernel_rfl
set_option maxHeartbeats 1000000 in
theorem l1Source_any (a : Option Addr) (len cap : Nat) (w : World) (hl : len ≤ 140737488355328) (hc : CodeAt w w.heap.size a len) :
    Calls Tryd.prog 10 #[.slice a len cap] w fun e w' => e = .returned (.pointer (some ⟨w.heap.size, 0, none⟩)) ∧ Src w' w.heap.size a len cap 0 ∧ Below w.heap.size w w' := by
  have hz := zero_src
  have fin : ∀ sz : Int, 0 ≤ sz → sz ≤ 12 → Src (w.alloc (.cells #[.slice a len cap, .int .i64 0, .int .i64 sz] 49)) w.heap.size a len cap 0 := fun sz h0 h1 => by
    have hb := heap_alloc_new w (.cells #[.slice a len cap, .int .i64 0, .int .i64 sz] 49)
    refine ⟨?_, ?_, ⟨sz, h0, h1, ?_⟩, frozen_of_row _ _ _ _ _ hb, by omega, by omega, hl, ?_⟩
    · rw [cell_of_row _ _ _ _ _ _ hb]; rfl
    · rw [cell_of_row _ _ _ _ _ _ hb]; rfl
    · rw [cell_of_row _ _ _ _ _ _ hb]; rfl
    · exact hc.of_drawn (Nat.le_refl _) (Nat.le_refl _) fun k hk => Below.heap_alloc w _ k hk
  have HF : Hid (∀ sz : Int, 0 ≤ sz → sz ≤ 12 → Src (w.alloc (.cells #[.slice a len cap, .int .i64 0, .int .i64 sz] 49)) w.heap.size a len cap 0) := fin
  clear fin hc
  have hq0 : 0 ≤ (len : Int) / 16 := by omega
  by_cases h12 : 12 < (len : Int) / 16
  · go_enter Tryd.func10, Tryd.ntmps10
    go_wp2
    go_ret
    exact ⟨rfl, HF.out _ (by omega) (by omega), (Below.refl _ _).alloc (Nat.le_refl _) _⟩
  · go_enter Tryd.func10, Tryd.ntmps10
    go_wp2
    go_ret
    exact ⟨rfl, HF.out _ (by omega) (by omega), (Below.refl _ _).alloc (Nat.le_refl _) _⟩

theorem l1Chance_any {w : World} {g : Nat} {a : Option Addr} {len cap : Nat} {p n : Int} (h : Src w g a len cap p) (hp : p + 1 ≤ 1000000000000) (hn : 1 ≤ n) (hn' : n ≤ 1000000) :
    Calls Tryd.prog 17 #[.pointer (some ⟨g, 0, none⟩), .int .i64 n] w fun e w' => ∃ b : Bool, e = .returned (.bool b) ∧ Src w' g a len cap (p + 1) ∧ Drawn g w w' := by
  have H : Hid (Src w g a len cap p) := h
  clear h
  go_enter Tryd.func17, Tryd.ntmps17
  go_wp2_with fail
  refine (l1Next_any H.out hp hn hn').mono ?_
  rintro e w1 ⟨r, h0, h1, rfl, hs, hd⟩
  have HS : Hid (Src w1 g a len cap (p + 1) ∧ Drawn g w w1) := ⟨hs, hd⟩
  clear hs hd
  go_wp2
  go_ret
  exact ⟨_, rfl, HS.out.1, HS.out.2⟩
end Go.Proofs.YtkblcoiiloiohaaDoor
