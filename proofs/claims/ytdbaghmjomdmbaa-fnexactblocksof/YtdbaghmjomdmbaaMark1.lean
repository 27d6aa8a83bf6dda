/- Mark1: calls that write numbers into rows that are there, and nothing else. -/
import Derived.Test.YtdbaghmjomdmbaaProg12
namespace Go.Proofs.Ytdbaghmjomdmbaa
open Go.ChangeShapes Go.WideShapes Go.ChangeAt Go.RowKit
set_option linter.unusedVariables false
/-- The same, or two numbers of one kind. -/
def Alike (x y : Value) : Prop := x = y ∨ ∃ k a b, x = .int k a ∧ y = .int k b
theorem Alike.refl (x : Value) : Alike x x := .inl rfl
theorem Alike.trans {x y z : Value} (h : Alike x y) (h' : Alike y z) : Alike x z := by
  rcases h with rfl | ⟨k, a, b, rfl, rfl⟩
  · exact h'
  · rcases h' with rfl | ⟨k', a', b', e, rfl⟩
    · exact .inr ⟨k, a, b, rfl, rfl⟩
    · cases e
      exact .inr ⟨k, a, b', rfl, rfl⟩
theorem Alike.int {k : IntKind} {a : Int} {y : Value} (h : Alike (.int k a) y) : ∃ b, y = .int k b := by
  rcases h with rfl | ⟨k', a', b', e, rfl⟩
  · exact ⟨_, rfl⟩
  · cases e
    exact ⟨_, rfl⟩
theorem Alike.slice {a : Option Addr} {n c : Nat} {y : Value} (h : Alike (.slice a n c) y) : y = .slice a n c := by
  rcases h with rfl | ⟨k', a', b', e, rfl⟩
  · rfl
  · cases e
def AlikeA (xs ys : Array Value) : Prop := xs.size = ys.size ∧ ∀ (i : Nat) x y, xs[i]? = some x → ys[i]? = some y → Alike x y
theorem AlikeA.refl (xs : Array Value) : AlikeA xs xs := ⟨rfl, fun i x y h1 h2 => by rw [h1] at h2; exact .inl (Option.some.inj h2)⟩
theorem AlikeA.at {xs ys : Array Value} (h : AlikeA xs ys) {i : Nat} {x : Value} (hx : xs[i]? = some x) : ∃ y, ys[i]? = some y ∧ Alike x y := by
  have hi : i < ys.size := by rw [← h.1]; exact (Array.getElem?_eq_some_iff.1 hx).1
  exact ⟨_, Array.getElem?_eq_getElem hi, h.2 i x _ hx (Array.getElem?_eq_getElem hi)⟩
theorem AlikeA.trans {xs ys zs : Array Value} (h : AlikeA xs ys) (h' : AlikeA ys zs) : AlikeA xs zs := by
  refine ⟨h.1.trans h'.1, fun i x z hx hz => ?_⟩
  obtain ⟨y, hy, a1⟩ := h.at hx
  exact a1.trans (h'.2 i y z hy hz)
/-- All blocks of w are there in w', of the same types, with cells alike. -/
structure Shaped (w w' : World) : Prop where
  size : w.heap.size ≤ w'.heap.size
  block : ∀ (k : Nat) (cur : Array Value) (t : TypeId), w.heap[k]? = some (Obj.cells cur t (0, 0)) → ∃ cur', w'.heap[k]? = some (Obj.cells cur' t (0, 0)) ∧ AlikeA cur cur'
theorem Shaped.refl (w : World) : Shaped w w := ⟨Nat.le_refl _, fun k cur t h => ⟨cur, h, .refl _⟩⟩
theorem Shaped.trans {w u v : World} (h : Shaped w u) (h' : Shaped u v) : Shaped w v := by
  refine ⟨Nat.le_trans h.size h'.size, fun k cur t hk => ?_⟩
  obtain ⟨c1, h1, a1⟩ := h.block k cur t hk
  obtain ⟨c2, h2, a2⟩ := h'.block k c1 t h1
  exact ⟨c2, h2, a1.trans a2⟩
theorem Shaped.of_below {w w' : World} (h : Below w.heap.size w w') : Shaped w w' :=
  ⟨h.size, fun k cur t hk => ⟨cur, by rw [h.block k (Array.getElem?_eq_some_iff.1 hk).1]; exact hk, .refl _⟩⟩
/-- Numbers were written into blocks from lo on, below hi: nothing else was done. -/
structure Marks (lo hi : Nat) (w w' : World) : Prop where
  os : w'.os = w.os
  tape : w'.tape = w.tape
  output : w'.output = w.output
  size : w'.heap.size = w.heap.size
  out : ∀ (k : Nat), k < lo ∨ hi ≤ k → w'.heap[k]? = w.heap[k]?
  shaped : Shaped w w'
theorem Marks.refl (lo hi : Nat) (w : World) : Marks lo hi w w := ⟨rfl, rfl, rfl, rfl, fun _ _ => rfl, .refl _⟩
theorem Marks.trans {lo hi : Nat} {w u v : World} (h : Marks lo hi w u) (h' : Marks lo hi u v) : Marks lo hi w v :=
  ⟨h'.os.trans h.os, h'.tape.trans h.tape, h'.output.trans h.output, h'.size.trans h.size, fun k hk => (h'.out k hk).trans (h.out k hk), h.shaped.trans h'.shaped⟩
theorem Marks.below {lo hi : Nat} {w w' : World} (h : Marks lo hi w w') : Below lo w w' := ⟨h.os, h.tape, h.output, Nat.le_of_eq h.size.symm, fun k hk => h.out k (.inl hk)⟩
theorem Marks.drew {lo hi : Nat} {w w' : World} (h : Marks lo hi w w') (n : Nat) : Marks lo hi w (w'.drewN n) := ⟨h.os, h.tape, h.output, h.size, h.out, ⟨h.shaped.size, h.shaped.block⟩⟩
theorem Marks.set {lo hi : Nat} {w : World} {g i : Nat} {cur : Array Value} {t : TypeId} {v x : Value} (hb : w.heap[g]? = some (Obj.cells cur t (0, 0))) (hx : cur[i]? = some x) (ha : Alike x v) (hg : lo ≤ g) (hh : g < hi) : Marks lo hi w (w.setCell ⟨g, i, none⟩ v) := by
  refine ⟨rfl, rfl, rfl, by simp, fun k hk => heap_setCell_other w _ k v (by simp only []; omega), by simp, fun k c' t' hk => ?_⟩
  by_cases e : k = g
  · subst e
    rw [hb] at hk
    simp only [Option.some.injEq, Obj.cells.injEq, and_true] at hk
    obtain ⟨rfl, rfl⟩ := hk
    refine ⟨_, heap_setCell_same w k i cur t v hb, by simp, fun j a b h1 h2 => ?_⟩
    by_cases ej : j = i
    · subst ej
      rw [hx] at h1
      obtain rfl := Option.some.inj h1
      have hlt := (Array.getElem?_eq_some_iff.1 hx).1
      rw [Array.getElem?_setIfInBounds_self_of_lt hlt] at h2
      obtain rfl := Option.some.inj h2
      exact ha
    · rw [Array.getElem?_setIfInBounds_ne (Ne.symm ej), h1] at h2
      exact .inl (Option.some.inj h2)
  · exact ⟨c', by rw [heap_setCell_other w _ k v e]; exact hk, .refl _⟩
/-- A place of a row, in a world of the same shape. -/
theorem shape_at {w wr : World} {base : Nat} {e : TypeId} {k n c g : Nat} {xs : List Value} (h : w.ownsRow base e k (.slice (some ⟨g, 0, none⟩) n c) n xs) (hs : Shaped w wr) {i : Nat} {x : Value} (hx : xs[i]? = some x) :
    ∃ y, wr.cell? ⟨g, i, none⟩ = some y ∧ Alike x y ∧ wr.frozen? ⟨g, i, none⟩ = false ∧ ∀ lo hi v, lo ≤ base → w.heap.size ≤ hi → Alike x v → Marks lo hi wr (wr.setCell ⟨g, i, none⟩ v) := by
  rcases h.2 with ⟨h', _⟩ | ⟨g', cap, cur, e1, hb, hg, hnc, hcm, hcs, ht⟩
  · cases h'
  · cases e1
    obtain ⟨cur', h1, ha⟩ := hs.block _ _ _ hg
    have hc : cur[i]? = some x := by
      rw [← ht] at hx
      have := (List.getElem?_eq_some_iff.1 hx).1
      rw [List.getElem?_take_of_lt (by simp at this; omega)] at hx
      simpa using hx
    obtain ⟨y, hy, al⟩ := ha.at hc
    refine ⟨y, by rw [cell_of_row wr g i cur' e _ h1]; exact hy, al, by simp [World.frozen?, h1], fun lo hi v h2 h3 hv => ?_⟩
    refine Marks.set h1 hy ?_ (Nat.le_trans h2 hb) (Nat.lt_of_lt_of_le (Array.getElem?_eq_some_iff.1 hg).1 h3)
    rcases al with rfl | ⟨k', a, b, rfl, rfl⟩
    · exact hv
    · obtain ⟨z, rfl⟩ := hv.int
      exact .inr ⟨k', b, z, rfl, rfl⟩
/-- A row, in a world of the same shape. -/
theorem own_shaped {w wr : World} {base : Nat} {e : TypeId} {k n : Nat} {s : Value} {xs : List Value} (h : w.ownsRow base e k s n xs) (hs : Shaped w wr) : ∃ ys, wr.ownsRow base e k s n ys ∧ ∀ (i : Nat) x, xs[i]? = some x → ∃ y, ys[i]? = some y ∧ Alike x y := by
  rcases h.2 with ⟨rfl, hx⟩ | ⟨g, cap, cur, rfl, hb, hg, hnc, hcm, hcs, ht⟩
  · exact ⟨xs, ⟨h.1, .inl ⟨rfl, hx⟩⟩, fun i x hi => ⟨x, hi, .refl _⟩⟩
  · obtain ⟨cur', h1, ha⟩ := hs.block _ _ _ hg
    refine ⟨cur'.toList.take (n * k), ⟨?_, .inr ⟨g, cap, cur', rfl, hb, h1, hnc, hcm, by rw [← ha.1]; exact hcs, rfl⟩⟩, fun i x hx => ?_⟩
    · have := h.1
      rw [← ht] at this
      simp only [List.length_take, Array.length_toList] at this ⊢
      rw [← ha.1]
      exact this
    · rw [← ht] at hx
      have hlt := (List.getElem?_eq_some_iff.1 hx).1
      simp only [List.length_take, Array.length_toList] at hlt
      rw [List.getElem?_take_of_lt (by omega)] at hx
      obtain ⟨y, hy, al⟩ := ha.at (by simpa using hx)
      exact ⟨y, by rw [List.getElem?_take_of_lt (by omega)]; simpa using hy, al⟩
/-- Numbers were written into blocks from lo on, below hi, and new blocks were made. -/
structure MarksG (lo hi : Nat) (w w' : World) : Prop where
  os : w'.os = w.os
  tape : w'.tape = w.tape
  output : w'.output = w.output
  size : w.heap.size ≤ w'.heap.size
  out : ∀ (k : Nat), k < w.heap.size → k < lo ∨ hi ≤ k → w'.heap[k]? = w.heap[k]?
  shaped : Shaped w w'
theorem MarksG.of {lo hi B : Nat} {w u w' : World} (hb : Below B w u) (hB : w.heap.size ≤ B) (h : Marks lo hi u w') : MarksG lo hi w w' :=
  ⟨h.os.trans hb.os, h.tape.trans hb.tape, h.output.trans hb.output, by rw [h.size]; exact hb.size, fun k hk hh => (h.out k hh).trans (hb.block k (Nat.lt_of_lt_of_le hk hB)), (Shaped.of_below (hb.mono hB)).trans h.shaped⟩
theorem MarksG.below {lo hi : Nat} {w w' : World} (h : MarksG lo hi w w') (hl : lo ≤ w.heap.size) : Below lo w w' := ⟨h.os, h.tape, h.output, h.size, fun k hk => h.out k (Nat.lt_of_lt_of_le hk hl) (.inl hk)⟩
theorem MarksG.cell {lo hi : Nat} {w w' : World} (h : MarksG lo hi w w') {a : Addr} {x : Value} (hx : w.cell? a = some x) (ha : a.block < lo ∨ hi ≤ a.block) : w'.cell? a = some x := by
  have := h.out a.block (block_lt_of_cell hx) ha
  unfold World.cell? at *
  rw [this]
  exact hx
theorem MarksG.own {lo hi : Nat} {w w' : World} (h : MarksG lo hi w w') {B : Nat} {e : TypeId} {s : Value} {k n : Nat} {xs : List Value} (ho : w.ownsRow B e k s n xs) (hB : hi ≤ B) : w'.ownsRow B e k s n xs := by
  refine ⟨ho.1, ?_⟩
  rcases ho.2 with h' | ⟨g, cap, cur, e1, hb1, hg, hr⟩
  · exact .inl h'
  · refine .inr ⟨g, cap, cur, e1, hb1, ?_, hr⟩
    rw [h.out g (Array.getElem?_eq_some_iff.1 hg).1 (.inr (Nat.le_trans hB hb1))]
    exact hg
end Go.Proofs.Ytdbaghmjomdmbaa
