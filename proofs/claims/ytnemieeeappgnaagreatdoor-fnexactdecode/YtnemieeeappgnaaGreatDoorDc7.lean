import Derived.Test.YtnemieeeappgnaaGreatDoorDc6
namespace Go.Proofs.YtnemieeeappgnaaGreatDoor
open Go.ChangeShapes Go.WideShapes Go.ChangeAt Go.RowKit
set_option linter.unusedVariables false
theorem own_row {w : World} {base : Nat} {e : TypeId} {s : Value} {k n : Nat} {xs : List Value} (h : w.ownsRow base e k s n xs) : (s = .slice none 0 0 ∧ n = 0) ∨ ∃ g c, s = .slice (some ⟨g, 0, none⟩) n c := by
  rcases h.2 with h | ⟨g, cap, cur, rfl, hb, _⟩
  · exact .inl h
  · exact .inr ⟨g, cap, rfl⟩
theorem own_slice {w : World} {base : Nat} {e : TypeId} {s : Value} {k n : Nat} {xs : List Value} (h : w.ownsRow base e k s n xs) : ∃ a c, s = .slice a n c := by
  rcases own_row h with ⟨rfl, rfl⟩ | ⟨g, c, rfl⟩ <;> exact ⟨_, _, rfl⟩
end Go.Proofs.YtnemieeeappgnaaGreatDoor
namespace Go.Proofs.YtnemieeeappgnaaGreatDoor
open Go.ChangeShapes Go.WideShapes Go.ChangeAt Go.RowKit
set_option linter.unusedVariables false
/-- What mark leaves of n numbers, from k on. -/
def markIs (k : Int) (n : Nat) : List Int := (List.range n).map fun (i : Nat) => k + (i : Int)
theorem markIs_length (k : Int) (n : Nat) : (markIs k n).length = n := by simp [markIs]
theorem markIs_succ (k : Int) (n : Nat) : markIs k (n + 1) = markIs k n ++ [k + (n : Int)] := by simp [markIs, List.range_succ]
/-- Marked up to j. -/
def markITo (k : Int) (cs : List Int) (j : Nat) : List Int := markIs k j ++ cs.drop j
theorem markITo_zero (k : Int) (cs : List Int) : markITo k cs 0 = cs := by simp [markITo, markIs]
theorem markITo_all (k : Int) (cs : List Int) (n : Nat) (h : cs.length = n) : markITo k cs n = markIs k n := by simp [markITo, ← h]
theorem markITo_parts (k : Int) (cs : List Int) (j : Nat) (x : Int) (h : cs[j]? = some x) : (markITo k cs j).flatMap intCell = (markIs k j).flatMap intCell ++ (intCell x ++ (cs.drop (j + 1)).flatMap intCell) := by
  obtain ⟨hlt, rfl⟩ := List.getElem?_eq_some_iff.1 h
  unfold markITo
  rw [List.flatMap_append, List.drop_eq_getElem_cons hlt, List.flatMap_cons]
theorem markITo_next (k : Int) (cs : List Int) (j : Nat) (x : Int) (h : cs[j]? = some x) : ((markITo k cs j).flatMap intCell).set j (.int .i64 (k + (j : Int))) = (markITo k cs (j + 1)).flatMap intCell := by
  have hA : ((markIs k j).flatMap intCell).length = j := by rw [flat_length intCell 1 intCell_length, markIs_length, Nat.mul_one]
  rw [markITo_parts k cs j x h]
  have := set1 ((markIs k j).flatMap intCell) ((cs.drop (j + 1)).flatMap intCell) (.int .i64 x) (.int .i64 (k + (j : Int))) j hA
  refine this.trans ?_
  unfold markITo
  rw [markIs_succ, List.flatMap_append, List.flatMap_append, List.append_assoc]
  simp [intCell]
theorem grown_set' {w wr : World} {g : Nat} (h : w.grownBy wr (some g)) (i : Nat) (x : Value) : w.grownBy (wr.setCell ⟨g, i, none⟩ x) (some g) :=
  ⟨h.os, h.tape, h.output, by rw [World.size_setCell]; exact h.size, fun k hk hne => (heap_setCell_other wr _ k x (fun e => hne (by rw [e]))).trans (h.block k hk hne)⟩
theorem own_apart' {w w' : World} {base : Nat} {e : TypeId} {s : Value} {k n : Nat} {xs : List Value} {row : Option Nat} (h : w.ownsRow base e k s n xs) (hg : w.grownBy w' row) (hne : ∀ g, s.ownBlock = some g → some g ≠ row) : w'.ownsRow base e k s n xs := by
  refine ⟨h.1, ?_⟩
  rcases h.2 with h | ⟨g, cap, cur, rfl, hb1, hgg, hr⟩
  · exact .inl h
  · refine .inr ⟨g, cap, cur, rfl, hb1, ?_, hr⟩
    rw [hg.block g (Array.getElem?_eq_some_iff.1 hgg).1 (hne g rfl)]
    exact hgg
/-- Two rows that are not one. -/
def Apart (x y : Value × List Int) : Prop := ∀ g, x.1.ownBlock = some g → y.1.ownBlock ≠ some g
theorem Apart.symm {x y : Value × List Int} (h : Apart x y) : Apart y x := fun g hg e => h g e hg
/-- Rows of values, no two of them one. -/
structure Fam (w : World) (base : Nat) (L : List (Value × List Int)) : Prop where
  own : ∀ x ∈ L, w.ownsRow base 2 1 x.1 x.2.length (x.2.flatMap intCell)
  sep : L.Pairwise Apart
/-- Rows of values from base on have turned; all else is as it was. -/
structure Wv (base : Nat) (w w' : World) : Prop where
  bel : Below base w w'
  blk : ∀ (k : Nat) (cur : Array Value) (t : TypeId), w.heap[k]? = some (Obj.cells cur t (0, 0)) → t ≠ 2 → w'.heap[k]? = some (Obj.cells cur t (0, 0))
theorem Wv.refl (base : Nat) (w : World) : Wv base w w := ⟨Below.refl _ _, fun _ _ _ h _ => h⟩
theorem Wv.trans {base : Nat} {u v w : World} (h : Wv base u v) (h' : Wv base v w) : Wv base u w := ⟨h.bel.trans h'.bel, fun k cur t hk h1 => h'.blk k cur t (h.blk k cur t hk h1) h1⟩
theorem Wv.of_row {base n : Nat} {w w' : World} {s : Value} {xs : List Value} (ho : w.ownsRow base 2 1 s n xs) (hg : w.grownBy w' s.ownBlock) (hB : base ≤ w.heap.size) : Wv base w w' := by
  refine ⟨⟨hg.os, hg.tape, hg.output, hg.size, fun k hk => hg.block k (by omega) (fun e => by have := (ho.lt k e.symm).1; omega)⟩, fun k cur t hk h1 => ?_⟩
  rw [hg.block k (Array.getElem?_eq_some_iff.1 hk).1 ?_]
  · exact hk
  · intro e
    rcases ho.2 with ⟨rfl, _⟩ | ⟨g', cap', cur', rfl, _, hg', _⟩
    · cases e
    · simp only [Value.ownBlock, Option.some.injEq] at e
      subst e
      rw [hk] at hg'
      simp only [Option.some.injEq, Obj.cells.injEq] at hg'
      exact h1 hg'.2.1
theorem Wv.own {base b : Nat} {w w' : World} (h : Wv base w w') {e : TypeId} {s : Value} {k n : Nat} {xs : List Value} (ho : w.ownsRow b e k s n xs) (h1 : e ≠ 2) : w'.ownsRow b e k s n xs := by
  refine ⟨ho.1, ?_⟩
  rcases ho.2 with h' | ⟨g, cap, cur, e1, hb1, hg, hr⟩
  · exact .inl h'
  · exact .inr ⟨g, cap, cur, e1, hb1, h.blk g cur e hg h1, hr⟩
theorem Fam.put {w w' : World} {base : Nat} {A B : List (Value × List Int)} {v : Value} {c c' : List Int} (h : Fam w base (A ++ (v, c) :: B)) (hl : c'.length = c.length) (ho : w'.ownsRow base 2 1 v c.length (c'.flatMap intCell)) (hg : w.grownBy w' v.ownBlock) : Fam w' base (A ++ (v, c') :: B) := by
  obtain ⟨pA, pB, pAB⟩ := List.pairwise_append.1 h.sep
  obtain ⟨pv, pB'⟩ := List.pairwise_cons.1 pB
  refine ⟨fun x hx => ?_, List.pairwise_append.2 ⟨pA, List.pairwise_cons.2 ⟨fun y hy => pv y hy, pB'⟩, fun a ha b hb => ?_⟩⟩
  · rcases List.mem_append.1 hx with hx | hx
    · exact own_apart' (h.own x (List.mem_append.2 (.inl hx))) hg (fun g hgx e => pAB x hx (v, c) (by simp) g hgx e.symm)
    · rcases List.mem_cons.1 hx with rfl | hx
      · simp only []
        rw [hl]
        exact ho
      · exact own_apart' (h.own x (List.mem_append.2 (.inr (List.mem_cons_of_mem _ hx)))) hg (fun g hgx e => pv x hx g e.symm hgx)
  · rcases List.mem_cons.1 hb with rfl | hb
    · exact fun g hga => pAB a ha (v, c) (by simp) g hga
    · exact pAB a ha b (List.mem_cons_of_mem _ hb)
end Go.Proofs.YtnemieeeappgnaaGreatDoor
namespace Go.Proofs.YtnemieeeappgnaaGreatDoor
open Go.ChangeShapes Go.WideShapes Go.ChangeAt Go.RowKit
set_option linter.unusedVariables false
/-- The same, or two numbers of one kind. -/
def Alike (x y : Value) : Prop := x = y ∨ ∃ k a b, x = .int k a ∧ y = .int k b
theorem Alike.refl (x : Value) : Alike x x := .inl rfl
theorem Alike.trans {x y z : Value} (h : Alike x y) (h' : Alike y z) : Alike x z := by
  rcases h with rfl | ⟨k, a, b, rfl, rfl⟩
  · exact h'
  · rcases h' with rfl | ⟨k', a', b', e, rfl⟩
    · exact .inr ⟨k, a, b, rfl, rfl⟩
    · cases e
      exact .inr ⟨k, a, b', rfl, rfl⟩
theorem Alike.int {k : IntKind} {a : Int} {y : Value} (h : Alike (.int k a) y) : ∃ b, y = .int k b := by
  rcases h with rfl | ⟨k', a', b', e, rfl⟩
  · exact ⟨_, rfl⟩
  · cases e
    exact ⟨_, rfl⟩
theorem Alike.slice {a : Option Addr} {n c : Nat} {y : Value} (h : Alike (.slice a n c) y) : y = .slice a n c := by
  rcases h with rfl | ⟨k', a', b', e, rfl⟩
  · rfl
  · cases e
def AlikeA (xs ys : Array Value) : Prop := xs.size = ys.size ∧ ∀ (i : Nat) x y, xs[i]? = some x → ys[i]? = some y → Alike x y
theorem AlikeA.refl (xs : Array Value) : AlikeA xs xs := ⟨rfl, fun i x y h1 h2 => by rw [h1] at h2; exact .inl (Option.some.inj h2)⟩
theorem AlikeA.at {xs ys : Array Value} (h : AlikeA xs ys) {i : Nat} {x : Value} (hx : xs[i]? = some x) : ∃ y, ys[i]? = some y ∧ Alike x y := by
  have hi : i < ys.size := by rw [← h.1]; exact (Array.getElem?_eq_some_iff.1 hx).1
  exact ⟨_, Array.getElem?_eq_getElem hi, h.2 i x _ hx (Array.getElem?_eq_getElem hi)⟩
theorem AlikeA.trans {xs ys zs : Array Value} (h : AlikeA xs ys) (h' : AlikeA ys zs) : AlikeA xs zs := by
  refine ⟨h.1.trans h'.1, fun i x z hx hz => ?_⟩
  obtain ⟨y, hy, a1⟩ := h.at hx
  exact a1.trans (h'.2 i y z hy hz)
/-- All blocks of w are there in w', of the same types, with cells alike. -/
structure Shaped (w w' : World) : Prop where
  size : w.heap.size ≤ w'.heap.size
  block : ∀ (k : Nat) (cur : Array Value) (t : TypeId), w.heap[k]? = some (Obj.cells cur t (0, 0)) → ∃ cur', w'.heap[k]? = some (Obj.cells cur' t (0, 0)) ∧ AlikeA cur cur'
theorem Shaped.refl (w : World) : Shaped w w := ⟨Nat.le_refl _, fun k cur t h => ⟨cur, h, .refl _⟩⟩
theorem Shaped.trans {w u v : World} (h : Shaped w u) (h' : Shaped u v) : Shaped w v := by
  refine ⟨Nat.le_trans h.size h'.size, fun k cur t hk => ?_⟩
  obtain ⟨c1, h1, a1⟩ := h.block k cur t hk
  obtain ⟨c2, h2, a2⟩ := h'.block k c1 t h1
  exact ⟨c2, h2, a1.trans a2⟩
theorem Shaped.of_below {w w' : World} (h : Below w.heap.size w w') : Shaped w w' :=
  ⟨h.size, fun k cur t hk => ⟨cur, by rw [h.block k (Array.getElem?_eq_some_iff.1 hk).1]; exact hk, .refl _⟩⟩
/-- Numbers were written into blocks from lo on, below hi: nothing else was done. -/
structure Marks (lo hi : Nat) (w w' : World) : Prop where
  os : w'.os = w.os
  tape : w'.tape = w.tape
  output : w'.output = w.output
  size : w'.heap.size = w.heap.size
  out : ∀ (k : Nat), k < lo ∨ hi ≤ k → w'.heap[k]? = w.heap[k]?
  shaped : Shaped w w'
theorem Marks.refl (lo hi : Nat) (w : World) : Marks lo hi w w := ⟨rfl, rfl, rfl, rfl, fun _ _ => rfl, .refl _⟩
theorem Marks.trans {lo hi : Nat} {w u v : World} (h : Marks lo hi w u) (h' : Marks lo hi u v) : Marks lo hi w v :=
  ⟨h'.os.trans h.os, h'.tape.trans h.tape, h'.output.trans h.output, h'.size.trans h.size, fun k hk => (h'.out k hk).trans (h.out k hk), h.shaped.trans h'.shaped⟩
theorem Marks.below {lo hi : Nat} {w w' : World} (h : Marks lo hi w w') : Below lo w w' := ⟨h.os, h.tape, h.output, Nat.le_of_eq h.size.symm, fun k hk => h.out k (.inl hk)⟩
theorem Marks.drew {lo hi : Nat} {w w' : World} (h : Marks lo hi w w') (n : Nat) : Marks lo hi w (w'.drewN n) := ⟨h.os, h.tape, h.output, h.size, h.out, ⟨h.shaped.size, h.shaped.block⟩⟩
theorem Marks.set {lo hi : Nat} {w : World} {g i : Nat} {cur : Array Value} {t : TypeId} {v x : Value} (hb : w.heap[g]? = some (Obj.cells cur t (0, 0))) (hx : cur[i]? = some x) (ha : Alike x v) (hg : lo ≤ g) (hh : g < hi) : Marks lo hi w (w.setCell ⟨g, i, none⟩ v) := by
  refine ⟨rfl, rfl, rfl, by simp, fun k hk => heap_setCell_other w _ k v (by simp only []; omega), by simp, fun k c' t' hk => ?_⟩
  by_cases e : k = g
  · subst e
    rw [hb] at hk
    simp only [Option.some.injEq, Obj.cells.injEq, and_true] at hk
    obtain ⟨rfl, rfl⟩ := hk
    refine ⟨_, heap_setCell_same w k i cur t v hb, by simp, fun j a b h1 h2 => ?_⟩
    by_cases ej : j = i
    · subst ej
      rw [hx] at h1
      obtain rfl := Option.some.inj h1
      have hlt := (Array.getElem?_eq_some_iff.1 hx).1
      rw [Array.getElem?_setIfInBounds_self_of_lt hlt] at h2
      obtain rfl := Option.some.inj h2
      exact ha
    · rw [Array.getElem?_setIfInBounds_ne (Ne.symm ej), h1] at h2
      exact .inl (Option.some.inj h2)
  · exact ⟨c', by rw [heap_setCell_other w _ k v e]; exact hk, .refl _⟩
/-- A place of a row, in a world of the same shape. -/
theorem shape_at {w wr : World} {base : Nat} {e : TypeId} {k n c g : Nat} {xs : List Value} (h : w.ownsRow base e k (.slice (some ⟨g, 0, none⟩) n c) n xs) (hs : Shaped w wr) {i : Nat} {x : Value} (hx : xs[i]? = some x) :
    ∃ y, wr.cell? ⟨g, i, none⟩ = some y ∧ Alike x y ∧ wr.frozen? ⟨g, i, none⟩ = false ∧ ∀ lo hi v, lo ≤ base → w.heap.size ≤ hi → Alike x v → Marks lo hi wr (wr.setCell ⟨g, i, none⟩ v) := by
  rcases h.2 with ⟨h', _⟩ | ⟨g', cap, cur, e1, hb, hg, hnc, hcm, hcs, ht⟩
  · cases h'
  · cases e1
    obtain ⟨cur', h1, ha⟩ := hs.block _ _ _ hg
    have hc : cur[i]? = some x := by
      rw [← ht] at hx
      have := (List.getElem?_eq_some_iff.1 hx).1
      rw [List.getElem?_take_of_lt (by simp at this; omega)] at hx
      simpa using hx
    obtain ⟨y, hy, al⟩ := ha.at hc
    refine ⟨y, by rw [cell_of_row wr g i cur' e _ h1]; exact hy, al, by simp [World.frozen?, h1], fun lo hi v h2 h3 hv => ?_⟩
    refine Marks.set h1 hy ?_ (Nat.le_trans h2 hb) (Nat.lt_of_lt_of_le (Array.getElem?_eq_some_iff.1 hg).1 h3)
    rcases al with rfl | ⟨k', a, b, rfl, rfl⟩
    · exact hv
    · obtain ⟨z, rfl⟩ := hv.int
      exact .inr ⟨k', b, z, rfl, rfl⟩
/-- A row, in a world of the same shape. -/
theorem own_shaped {w wr : World} {base : Nat} {e : TypeId} {k n : Nat} {s : Value} {xs : List Value} (h : w.ownsRow base e k s n xs) (hs : Shaped w wr) : ∃ ys, wr.ownsRow base e k s n ys ∧ ∀ (i : Nat) x, xs[i]? = some x → ∃ y, ys[i]? = some y ∧ Alike x y := by
  rcases h.2 with ⟨rfl, hx⟩ | ⟨g, cap, cur, rfl, hb, hg, hnc, hcm, hcs, ht⟩
  · exact ⟨xs, ⟨h.1, .inl ⟨rfl, hx⟩⟩, fun i x hi => ⟨x, hi, .refl _⟩⟩
  · obtain ⟨cur', h1, ha⟩ := hs.block _ _ _ hg
    refine ⟨cur'.toList.take (n * k), ⟨?_, .inr ⟨g, cap, cur', rfl, hb, h1, hnc, hcm, by rw [← ha.1]; exact hcs, rfl⟩⟩, fun i x hx => ?_⟩
    · have := h.1
      rw [← ht] at this
      simp only [List.length_take, Array.length_toList] at this ⊢
      rw [← ha.1]
      exact this
    · rw [← ht] at hx
      have hlt := (List.getElem?_eq_some_iff.1 hx).1
      simp only [List.length_take, Array.length_toList] at hlt
      rw [List.getElem?_take_of_lt (by omega)] at hx
      obtain ⟨y, hy, al⟩ := ha.at (by simpa using hx)
      exact ⟨y, by rw [List.getElem?_take_of_lt (by omega)]; simpa using hy, al⟩
/-- Numbers were written into blocks from lo on, below hi, and new blocks were made. -/
structure MarksG (lo hi : Nat) (w w' : World) : Prop where
  os : w'.os = w.os
  tape : w'.tape = w.tape
  output : w'.output = w.output
  size : w.heap.size ≤ w'.heap.size
  out : ∀ (k : Nat), k < w.heap.size → k < lo ∨ hi ≤ k → w'.heap[k]? = w.heap[k]?
  shaped : Shaped w w'
theorem MarksG.of {lo hi B : Nat} {w u w' : World} (hb : Below B w u) (hB : w.heap.size ≤ B) (h : Marks lo hi u w') : MarksG lo hi w w' :=
  ⟨h.os.trans hb.os, h.tape.trans hb.tape, h.output.trans hb.output, by rw [h.size]; exact hb.size, fun k hk hh => (h.out k hh).trans (hb.block k (Nat.lt_of_lt_of_le hk hB)), (Shaped.of_below (hb.mono hB)).trans h.shaped⟩
theorem MarksG.below {lo hi : Nat} {w w' : World} (h : MarksG lo hi w w') (hl : lo ≤ w.heap.size) : Below lo w w' := ⟨h.os, h.tape, h.output, h.size, fun k hk => h.out k (Nat.lt_of_lt_of_le hk hl) (.inl hk)⟩
theorem MarksG.cell {lo hi : Nat} {w w' : World} (h : MarksG lo hi w w') {a : Addr} {x : Value} (hx : w.cell? a = some x) (ha : a.block < lo ∨ hi ≤ a.block) : w'.cell? a = some x := by
  have := h.out a.block (block_lt_of_cell hx) ha
  unfold World.cell? at *
  rw [this]
  exact hx
theorem MarksG.own {lo hi : Nat} {w w' : World} (h : MarksG lo hi w w') {B : Nat} {e : TypeId} {s : Value} {k n : Nat} {xs : List Value} (ho : w.ownsRow B e k s n xs) (hB : hi ≤ B) : w'.ownsRow B e k s n xs := by
  refine ⟨ho.1, ?_⟩
  rcases ho.2 with h' | ⟨g, cap, cur, e1, hb1, hg, hr⟩
  · exact .inl h'
  · refine .inr ⟨g, cap, cur, e1, hb1, ?_, hr⟩
    rw [h.out g (Array.getElem?_eq_some_iff.1 hg).1 (.inr (Nat.le_trans hB hb1))]
    exact hg
end Go.Proofs.YtnemieeeappgnaaGreatDoor
