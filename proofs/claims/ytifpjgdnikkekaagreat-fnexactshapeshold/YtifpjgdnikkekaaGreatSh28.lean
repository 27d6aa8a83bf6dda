import Derived.Test.YtifpjgdnikkekaaGreatSh12
import Derived.Test.YtifpjgdnikkekaaGreatSh5
import Derived.Test.YtifpjgdnikkekaaGreatSh6
namespace Go.Proofs.YtifpjgdnikkekaaGreat
open Go.ChangeShapes Go.WideShapes Go.ChangeAt Go.RowKit
set_option linter.unusedVariables false
/-- What mark leaves of n numbers, from k on. -/
def markIs (k : Int) (n : Nat) : List Int := (List.range n).map fun (i : Nat) => k + (i : Int)
theorem markIs_length (k : Int) (n : Nat) : (markIs k n).length = n := by simp [markIs]
theorem markIs_succ (k : Int) (n : Nat) : markIs k (n + 1) = markIs k n ++ [k + (n : Int)] := by simp [markIs, List.range_succ]
/-- Marked up to j. -/
def markITo (k : Int) (cs : List Int) (j : Nat) : List Int := markIs k j ++ cs.drop j
theorem markITo_zero (k : Int) (cs : List Int) : markITo k cs 0 = cs := by simp [markITo, markIs]
theorem markITo_all (k : Int) (cs : List Int) (n : Nat) (h : cs.length = n) : markITo k cs n = markIs k n := by simp [markITo, ← h]
theorem markITo_parts (k : Int) (cs : List Int) (j : Nat) (x : Int) (h : cs[j]? = some x) : (markITo k cs j).flatMap intCell = (markIs k j).flatMap intCell ++ (intCell x ++ (cs.drop (j + 1)).flatMap intCell) := by
  obtain ⟨hlt, rfl⟩ := List.getElem?_eq_some_iff.1 h
  unfold markITo
  rw [List.flatMap_append, List.drop_eq_getElem_cons hlt, List.flatMap_cons]
theorem markITo_next (k : Int) (cs : List Int) (j : Nat) (x : Int) (h : cs[j]? = some x) : ((markITo k cs j).flatMap intCell).set j (.int .i64 (k + (j : Int))) = (markITo k cs (j + 1)).flatMap intCell := by
  have hA : ((markIs k j).flatMap intCell).length = j := by rw [flat_length intCell 1 intCell_length, markIs_length, Nat.mul_one]
  rw [markITo_parts k cs j x h]
  have := set1 ((markIs k j).flatMap intCell) ((cs.drop (j + 1)).flatMap intCell) (.int .i64 x) (.int .i64 (k + (j : Int))) j hA
  refine this.trans ?_
  unfold markITo
  rw [markIs_succ, List.flatMap_append, List.flatMap_append, List.append_assoc]
  simp [intCell]
theorem grown_set' {w wr : World} {g : Nat} (h : w.grownBy wr (some g)) (i : Nat) (x : Value) : w.grownBy (wr.setCell ⟨g, i, none⟩ x) (some g) :=
  ⟨h.os, h.tape, h.output, by rw [World.size_setCell]; exact h.size, fun k hk hne => (heap_setCell_other wr _ k x (fun e => hne (by rw [e]))).trans (h.block k hk hne)⟩
theorem own_apart' {w w' : World} {base : Nat} {e : TypeId} {s : Value} {k n : Nat} {xs : List Value} {row : Option Nat} (h : w.ownsRow base e k s n xs) (hg : w.grownBy w' row) (hne : ∀ g, s.ownBlock = some g → some g ≠ row) : w'.ownsRow base e k s n xs := by
  refine ⟨h.1, ?_⟩
  rcases h.2 with h | ⟨g, cap, cur, rfl, hb1, hgg, hr⟩
  · exact .inl h
  · refine .inr ⟨g, cap, cur, rfl, hb1, ?_, hr⟩
    rw [hg.block g (Array.getElem?_eq_some_iff.1 hgg).1 (hne g rfl)]
    exact hgg
/-- Two rows that are not one. -/
def Apart (x y : Value × List Int) : Prop := ∀ g, x.1.ownBlock = some g → y.1.ownBlock ≠ some g
theorem Apart.symm {x y : Value × List Int} (h : Apart x y) : Apart y x := fun g hg e => h g e hg
/-- Rows of values, no two of them one. -/
structure Fam (w : World) (base : Nat) (L : List (Value × List Int)) : Prop where
  own : ∀ x ∈ L, w.ownsRow base 2 1 x.1 x.2.length (x.2.flatMap intCell)
  sep : L.Pairwise Apart
/-- Rows of values from base on have turned; all else is as it was. -/
structure Wv (base : Nat) (w w' : World) : Prop where
  bel : Below base w w'
  blk : ∀ (k : Nat) (cur : Array Value) (t : TypeId), w.heap[k]? = some (Obj.cells cur t (0, 0)) → t ≠ 2 → w'.heap[k]? = some (Obj.cells cur t (0, 0))
theorem Wv.refl (base : Nat) (w : World) : Wv base w w := ⟨Below.refl _ _, fun _ _ _ h _ => h⟩
theorem Wv.trans {base : Nat} {u v w : World} (h : Wv base u v) (h' : Wv base v w) : Wv base u w := ⟨h.bel.trans h'.bel, fun k cur t hk h1 => h'.blk k cur t (h.blk k cur t hk h1) h1⟩
theorem Wv.of_row {base n : Nat} {w w' : World} {s : Value} {xs : List Value} (ho : w.ownsRow base 2 1 s n xs) (hg : w.grownBy w' s.ownBlock) (hB : base ≤ w.heap.size) : Wv base w w' := by
  refine ⟨⟨hg.os, hg.tape, hg.output, hg.size, fun k hk => hg.block k (by omega) (fun e => by have := (ho.lt k e.symm).1; omega)⟩, fun k cur t hk h1 => ?_⟩
  rw [hg.block k (Array.getElem?_eq_some_iff.1 hk).1 ?_]
  · exact hk
  · intro e
    rcases ho.2 with ⟨rfl, _⟩ | ⟨g', cap', cur', rfl, _, hg', _⟩
    · cases e
    · simp only [Value.ownBlock, Option.some.injEq] at e
      subst e
      rw [hk] at hg'
      simp only [Option.some.injEq, Obj.cells.injEq] at hg'
      exact h1 hg'.2.1
theorem Wv.own {base b : Nat} {w w' : World} (h : Wv base w w') {e : TypeId} {s : Value} {k n : Nat} {xs : List Value} (ho : w.ownsRow b e k s n xs) (h1 : e ≠ 2) : w'.ownsRow b e k s n xs := by
  refine ⟨ho.1, ?_⟩
  rcases ho.2 with h' | ⟨g, cap, cur, e1, hb1, hg, hr⟩
  · exact .inl h'
  · exact .inr ⟨g, cap, cur, e1, hb1, h.blk g cur e hg h1, hr⟩
theorem Fam.put {w w' : World} {base : Nat} {A B : List (Value × List Int)} {v : Value} {c c' : List Int} (h : Fam w base (A ++ (v, c) :: B)) (hl : c'.length = c.length) (ho : w'.ownsRow base 2 1 v c.length (c'.flatMap intCell)) (hg : w.grownBy w' v.ownBlock) : Fam w' base (A ++ (v, c') :: B) := by
  obtain ⟨pA, pB, pAB⟩ := List.pairwise_append.1 h.sep
  obtain ⟨pv, pB'⟩ := List.pairwise_cons.1 pB
  refine ⟨fun x hx => ?_, List.pairwise_append.2 ⟨pA, List.pairwise_cons.2 ⟨fun y hy => pv y hy, pB'⟩, fun a ha b hb => ?_⟩⟩
  · rcases List.mem_append.1 hx with hx | hx
    · exact own_apart' (h.own x (List.mem_append.2 (.inl hx))) hg (fun g hgx e => pAB x hx (v, c) (by simp) g hgx e.symm)
    · rcases List.mem_cons.1 hx with rfl | hx
      · simp only []
        rw [hl]
        exact ho
      · exact own_apart' (h.own x (List.mem_append.2 (.inr (List.mem_cons_of_mem _ hx)))) hg (fun g hgx e => pv x hx g e.symm hgx)
  · rcases List.mem_cons.1 hb with rfl | hb
    · exact fun g hga => pAB a ha (v, c) (by simp) g hga
    · exact pAB a ha b (List.mem_cons_of_mem _ hb)
end Go.Proofs.YtifpjgdnikkekaaGreat
namespace Go.Proofs.YtifpjgdnikkekaaGreat
open Go.ChangeShapes Go.WideShapes Go.ChangeAt Go.RowKit
set_option linter.unusedVariables false
/-- A block. -/
structure MB where
  first : Int
  last : Int
  next : List Int
def bCells (x : MB × Value) : List Value := [.int .i64 x.1.first, .int .i64 x.1.last, x.2]
theorem bCells_length (x : MB × Value) : (bCells x).length = 3 := rfl
theorem infoB : (Tryz.prog.info? 71).map (fun i => (i.zero, i.size, i.bytes)) = some (some (.agg #[.int .i64 0, .int .i64 0, .slice none 0 0]), 3, 40) := by kernel_rfl
/-- The rows of frames' locals. -/
def nrows (F : List (MB × Value)) : List (Value × List Int) := F.map fun x => (x.2, x.1.next)
def markB (k : Int) (x : MB × Value) : MB × Value := (⟨k, k + 1, markIs (k + 1 + 1) x.1.next.length⟩, x.2)
def nextB (k : Int) (x : MB × Value) : Int := k + 1 + 1 + (x.1.next.length : Int)
def markBs : Int → List (MB × Value) → List (MB × Value)
  | _, [] => []
  | k, x :: r => markB k x :: markBs (nextB k x) r
def endB : Int → List (MB × Value) → Int
  | k, [] => k
  | k, x :: r => endB (nextB k x) r
theorem endB_snoc (k : Int) (L : List (MB × Value)) (x : MB × Value) : endB k (L ++ [x]) = nextB (endB k L) x := by
  induction L generalizing k with
  | nil => rfl
  | cons y r ih => simp only [List.cons_append, endB]; exact ih _
theorem markBs_app (k : Int) (L M : List (MB × Value)) : markBs k (L ++ M) = markBs k L ++ markBs (endB k L) M := by
  induction L generalizing k with
  | nil => rfl
  | cons y r ih => simp only [List.cons_append, markBs, endB]; rw [ih]
theorem markBs_snoc (k : Int) (L : List (MB × Value)) (x : MB × Value) : markBs k (L ++ [x]) = markBs k L ++ [markB (endB k L) x] := by rw [markBs_app]; rfl
theorem markBs_length (k : Int) (L : List (MB × Value)) : (markBs k L).length = L.length := by
  induction L generalizing k with
  | nil => rfl
  | cons x r ih => simp [markBs, ih]
theorem endB_le (k : Int) (L : List (MB × Value)) (h : ∀ x ∈ L, x.1.next.length ≤ 1048576) : k ≤ endB k L ∧ endB k L ≤ k + 1048578 * (L.length : Int) := by
  induction L generalizing k with
  | nil => simp [endB]
  | cons x r ih =>
    have h1 := h x (by simp)
    have h2 := ih (nextB k x) (fun y hy => h y (by simp [hy]))
    simp only [endB, List.length_cons]
    unfold nextB at h2 ⊢
    omega
theorem type_apart {w : World} {base g k n : Nat} {e t : TypeId} {s : Value} {xs : List Value} {cur : Array Value} {fr : Nat × Nat} (h : w.ownsRow base e k s n xs) (hg : w.heap[g]? = some (Obj.cells cur t fr)) (hne : e ≠ t) : ∀ j, s.ownBlock = some j → j ≠ g := by
  intro j hj e1
  subst e1
  rcases h.2 with ⟨rfl, _⟩ | ⟨g', cap', cur', rfl, _, hg', _⟩
  · cases hj
  · simp only [Value.ownBlock, Option.some.injEq] at hj
    subst hj
    rw [hg] at hg'
    simp only [Option.some.injEq, Obj.cells.injEq] at hg'
    exact hne hg'.2.1.symm
theorem Fam.set {w : World} {base g : Nat} {L : List (Value × List Int)} (h : Fam w base L) {cur : Array Value} {t : TypeId} {fr : Nat × Nat} (hg : w.heap[g]? = some (Obj.cells cur t fr)) (hne : 2 ≠ t) (i : Nat) (x : Value) : Fam (w.setCell ⟨g, i, none⟩ x) base L :=
  ⟨fun y hy => ownsRow_setCell_other (h.own y hy) (a := ⟨g, i, none⟩) (fun e => type_apart (h.own y hy) hg hne g e rfl) x, h.sep⟩
/-- Rows of values and of frames from base on have turned; all else is as it was. -/
structure Wb (base : Nat) (w w' : World) : Prop where
  bel : Below base w w'
  blk : ∀ (k : Nat) (cur : Array Value) (t : TypeId), w.heap[k]? = some (Obj.cells cur t (0, 0)) → t ≠ 2 → t ≠ 71 → w'.heap[k]? = some (Obj.cells cur t (0, 0))
theorem Wb.refl (base : Nat) (w : World) : Wb base w w := ⟨Below.refl _ _, fun _ _ _ h _ _ => h⟩
theorem Wb.trans {base : Nat} {u v w : World} (h : Wb base u v) (h' : Wb base v w) : Wb base u w := ⟨h.bel.trans h'.bel, fun k cur t hk h1 h2 => h'.blk k cur t (h.blk k cur t hk h1 h2) h1 h2⟩
theorem Wv.wb {base : Nat} {w w' : World} (h : Wv base w w') : Wb base w w' := ⟨h.bel, fun k cur t hk h1 _ => h.blk k cur t hk h1⟩
theorem Wb.of_set {base g : Nat} {w : World} {cur : Array Value} (hg : w.heap[g]? = some (Obj.cells cur 71 (0, 0))) (hb : base ≤ g) (i : Nat) (x : Value) : Wb base w (w.setCell ⟨g, i, none⟩ x) := by
  refine ⟨(Below.refl _ _).setCell hb _, fun k c t hk h1 h2 => ?_⟩
  rw [heap_setCell_other w _ k x ?_]
  · exact hk
  · intro e
    simp only [] at e
    subst e
    rw [hk] at hg
    simp only [Option.some.injEq, Obj.cells.injEq] at hg
    exact h2 hg.2.1
theorem own_blk {w : World} {base g k n c : Nat} {e : TypeId} {xs : List Value} (h : w.ownsRow base e k (.slice (some ⟨g, 0, none⟩) n c) n xs) : base ≤ g ∧ ∃ cur, w.heap[g]? = some (Obj.cells cur e (0, 0)) := by
  rcases h.2 with ⟨h', _⟩ | ⟨g', cap', cur, h', hb, hg, _⟩
  · cases h'
  · cases h'
    exact ⟨hb, cur, hg⟩
theorem set2of3 (A R : List Value) (z0 z1 z2 c0 c1 : Value) (i : Nat) (h : A.length = i) : ((A ++ ([z0, z1, z2] ++ R)).set i c0).set (i + 1) c1 = A ++ ([c0, c1, z2] ++ R) := by
  subst h
  simp [List.set_append_right]
end Go.Proofs.YtifpjgdnikkekaaGreat
namespace Go.Proofs.YtifpjgdnikkekaaGreat
open Go.ChangeShapes Go.WideShapes Go.ChangeAt Go.RowKit
set_option linter.unusedVariables false
def RdB (w : World) (v : Value) (f : MB) : Prop := Rd w 1 v f.next.length (f.next.flatMap intCell)
def MB.small (f : MB) : Prop := f.next.length ≤ 1048576
theorem RdB.keep {w w' : World} {v : Value} {f : MB} (h : RdB w v f) {B : Nat} (hb : Below B w w') (hB : w.heap.size ≤ B) : RdB w' v f := Rd.keep h hb hB
/-- A list of blocks. -/
def RdBs (w : World) (s : Value) (fs : List MB) : Prop := ∃ xs : List (MB × Value), xs.map Prod.fst = fs ∧ Rd w 3 s fs.length (xs.flatMap bCells) ∧ ∀ x ∈ xs, RdB w x.2 x.1
theorem RdBs.keep {w w' : World} {s : Value} {fs : List MB} (h : RdBs w s fs) {B : Nat} (hb : Below B w w') (hB : w.heap.size ≤ B) : RdBs w' s fs := by
  obtain ⟨xs, h1, h2, h3⟩ := h
  exact ⟨xs, h1, h2.keep hb hB, fun x hx => (h3 x hx).keep hb hB⟩
end Go.Proofs.YtifpjgdnikkekaaGreat
namespace Go.Proofs.YtifpjgdnikkekaaGreat
open Go.ChangeShapes Go.WideShapes Go.ChangeAt Go.RowKit
set_option linter.unusedVariables false
def goesB (x : MI) : Bool := decide (x.op = 25) || decide (x.op = 26) || decide (x.op = 27)
def onB (x : MI) : Bool := decide (¬ x.op = 25) && decide (¬ x.op = 29)
def CodeGood (xs : List MI) : Prop := 1 ≤ xs.length ∧ xs.length ≤ 1024 ∧ ∀ (i : Nat) (x : MI), xs[i]? = some x → goesB x = true → 0 ≤ x.c ∧ x.c < (xs.length : Int)
/-- Does an instruction make j a leader? -/
def leads (x : MI) (i j : Nat) : Bool := (goesB x && decide (x.c = (j : Int))) || ((goesB x || decide (x.op = 29)) && decide (j = i + 1))
/-- Is j a leader by the first k instructions? -/
def leadB (xs : List MI) (k j : Nat) : Bool := decide (j = 0) || (List.range k).any fun i => match xs[i]? with | some x => leads x i j | none => false
theorem leadB_zero (xs : List MI) (k : Nat) : leadB xs k 0 = true := by simp [leadB]
theorem leadB_start (xs : List MI) (j : Nat) : leadB xs 0 j = decide (j = 0) := by simp [leadB]
theorem leadB_succ (xs : List MI) (k j : Nat) (x : MI) (hx : xs[k]? = some x) : leadB xs (k + 1) j = (leadB xs k j || leads x k j) := by
  simp [leadB, List.range_succ, hx, Bool.or_assoc]
theorem leadB_of (xs : List MI) (k i j : Nat) (x : MI) (hi : i < k) (hx : xs[i]? = some x) (h : leads x i j = true) : leadB xs k j = true := by
  simp only [leadB, Bool.or_eq_true, List.any_eq_true, List.mem_range]
  exact .inr ⟨i, hi, by rw [hx]; exact h⟩
/-- The leaders below i. -/
def lds (xs : List MI) (i : Nat) : List Nat := (List.range i).filter (leadB xs xs.length)
theorem lds_succ (xs : List MI) (i : Nat) : lds xs (i + 1) = if leadB xs xs.length i = true then lds xs i ++ [i] else lds xs i := by
  unfold lds
  rw [List.range_succ, List.filter_append]
  by_cases h : leadB xs xs.length i = true
  · simp [h]
  · simp [h]
theorem lds_mem (xs : List MI) (i j : Nat) : j ∈ lds xs i ↔ j < i ∧ leadB xs xs.length j = true := by simp [lds]
theorem lds_sorted (xs : List MI) (i : Nat) : (lds xs i).Pairwise (· < ·) := List.Pairwise.filter _ List.pairwise_lt_range
theorem lds_ne (xs : List MI) (i : Nat) (h : 0 < i) : lds xs i ≠ [] := fun e => by
  have := (lds_mem xs i 0).2 ⟨h, leadB_zero _ _⟩
  rw [e] at this
  cases this
theorem lds_split (xs : List MI) (i n : Nat) (h : i ≤ n) : ∃ r, lds xs n = lds xs i ++ r := by
  induction n with
  | zero =>
    obtain rfl : i = 0 := by omega
    exact ⟨[], by simp⟩
  | succ n ih =>
    by_cases hi : i = n + 1
    · subst hi
      exact ⟨[], by simp⟩
    · obtain ⟨r, hr⟩ := ih (by omega)
      rw [lds_succ, hr]
      split
      · exact ⟨r ++ [n], by simp⟩
      · exact ⟨r, rfl⟩
/-- Where a leader stands among them. -/
theorem lds_idx (xs : List MI) (p n : Nat) (hp : p < n) (hl : leadB xs xs.length p = true) : (lds xs n).idxOf p = (lds xs p).length ∧ (lds xs (p + 1)).length = (lds xs p).length + 1 := by
  have h1 := lds_succ xs p
  rw [if_pos hl] at h1
  obtain ⟨r, hr⟩ := lds_split xs (p + 1) n hp
  refine ⟨?_, by rw [h1]; simp⟩
  rw [hr, h1, List.append_assoc, List.idxOf_append, if_neg (by rw [lds_mem]; omega)]
  simp
theorem lds_inj (xs : List MI) (p q n : Nat) (hp : p < n) (hq : q < n) (hlp : leadB xs xs.length p = true) (hlq : leadB xs xs.length q = true) (h : (lds xs n).idxOf p = (lds xs n).idxOf q) : p = q := by
  have h1 : p ∈ lds xs n := (lds_mem _ _ _).2 ⟨hp, hlp⟩
  have h2 : q ∈ lds xs n := (lds_mem _ _ _).2 ⟨hq, hlq⟩
  have e1 := List.getElem_idxOf (List.idxOf_lt_length_iff.2 h1)
  have e2 := List.getElem_idxOf (List.idxOf_lt_length_iff.2 h2)
  rw [← e1, ← e2]
  congr 1
/-- The last block's end. -/
def setLast (bs : List MB) (i : Int) : List MB := match bs.getLast? with | some b => bs.dropLast ++ [⟨b.first, i, b.next⟩] | none => []
theorem setLast_snoc (bs : List MB) (b : MB) (i : Int) : setLast (bs ++ [b]) i = bs ++ [⟨b.first, i, b.next⟩] := by simp [setLast]
/-- The specification's blocks, as they grow. -/
def outL (xs : List MI) : Nat → List MB
  | 0 => []
  | i + 1 => setLast (if leadB xs xs.length i = true then outL xs i ++ [⟨i, 0, []⟩] else outL xs i) i
def build (L : List Nat) (e : Nat) : List MB := List.zipWith (fun (a b : Nat) => (⟨(a : Int), (b : Int) - 1, []⟩ : MB)) L (L.tail ++ [e])
theorem build_snoc (L : List Nat) (i e : Nat) (h : L ≠ []) : build (L ++ [i]) e = build L i ++ [⟨(i : Int), (e : Int) - 1, []⟩] := by
  unfold build
  rw [List.tail_append_of_ne_nil h, List.append_assoc, show (L.tail ++ ([i] ++ [e])) = (L.tail ++ [i]) ++ [e] by simp, List.zipWith_append (by
    cases L with
    | nil => exact absurd rfl h
    | cons a r => simp)]
  rfl
theorem outL_build (xs : List MI) (i : Nat) : outL xs i = build (lds xs i) i := by
  induction i with
  | zero => rfl
  | succ i ih =>
    simp only [outL]
    rw [lds_succ]
    by_cases h : leadB xs xs.length i = true
    · rw [if_pos h, if_pos h, setLast_snoc]
      by_cases h0 : i = 0
      · subst h0
        simp [outL, lds, build]
      · rw [build_snoc _ _ _ (lds_ne xs i (by omega)), ih]
        simp
    · rw [if_neg h, if_neg h]
      have h0 : 0 < i := by
        cases i with
        | zero => exact absurd (leadB_zero _ _) h
        | succ i => omega
      obtain ⟨M, a, hM⟩ : ∃ M a, lds xs i = M ++ [a] := ⟨_, _, (List.dropLast_concat_getLast (lds_ne xs i h0)).symm⟩
      rw [ih, hM]
      cases M with
      | nil => simp [build, setLast]
      | cons m M =>
        rw [build_snoc _ _ _ (by simp), build_snoc _ _ _ (by simp), setLast_snoc]
        simp
theorem build_length (L : List Nat) (e : Nat) : (build L e).length = L.length := by
  unfold build
  cases L with
  | nil => rfl
  | cons a r => simp
theorem outL_length (xs : List MI) (i : Nat) : (outL xs i).length = (lds xs i).length := by rw [outL_build, build_length]
/-- The number of the block of an instruction. -/
def numAt (xs : List MI) (i : Nat) : Int := ((lds xs (i + 1)).length : Int) - 1
theorem numAt_lead (xs : List MI) (p n : Nat) (hp : p < n) (hl : leadB xs xs.length p = true) : numAt xs p = ((lds xs n).idxOf p : Int) := by
  have := lds_idx xs p n hp hl
  unfold numAt
  omega
theorem numAt_eq (xs : List MI) (p q n : Nat) (hp : p < n) (hq : q < n) (hlp : leadB xs xs.length p = true) (hlq : leadB xs xs.length q = true) : numAt xs p = numAt xs q ↔ p = q := by
  rw [numAt_lead xs p n hp hlp, numAt_lead xs q n hq hlq]
  exact ⟨fun h => lds_inj xs p q n hp hq hlp hlq (by omega), fun h => by rw [h]⟩
/-- The places to which one can go from e. -/
def placesL (xs : List MI) (x : MI) (e : Nat) : List Int :=
  (if onB x = true ∧ e + 1 < xs.length then [((e + 1 : Nat) : Int)] else []) ++ (if goesB x = true ∧ ¬ (onB x = true ∧ e + 1 < xs.length ∧ x.c = ((e + 1 : Nat) : Int)) then [x.c] else [])
/-- As the specification writes them: by numbers. -/
def nextS (xs : List MI) (x : MI) (e : Nat) : List Int :=
  let n1 := if onB x = true ∧ e + 1 < xs.length then [numAt xs (e + 1)] else []
  n1 ++ (if goesB x = true ∧ (n1 = [] ∨ ¬ n1 = [numAt xs x.c.toNat]) then [numAt xs x.c.toNat] else [])
/-- The leaders' blocks end ahead of a leader. -/
theorem end_lead (L : List Nat) (n b e : Nat) (m : MB) (h : (build L n)[b]? = some m) (he : m.last = (e : Int)) (hn : e + 1 < n) : e + 1 ∈ L := by
  unfold build at h
  rw [List.getElem?_zipWith] at h
  cases h1 : L[b]? with
  | none => rw [h1] at h; simp at h
  | some a =>
    cases h2 : (L.tail ++ [n])[b]? with
    | none => rw [h1, h2] at h; simp at h
    | some q =>
      rw [h1, h2] at h
      simp only [Option.some.injEq] at h
      subst h
      simp only [] at he
      have hq : q = e + 1 := by omega
      subst hq
      have := List.mem_of_getElem? h2
      rcases List.mem_append.1 this with h3 | h3
      · exact List.mem_of_mem_tail h3
      · simp at h3
        omega
/-- By numbers, or by places: one and the same. -/
theorem next_same (xs : List MI) (b e : Nat) (x : MI) (m : MB) (hg : CodeGood xs) (hb : (outL xs xs.length)[b]? = some m) (he : m.last = (e : Int)) (hx : xs[e]? = some x) : nextS xs x e = (placesL xs x e).map fun p => ((lds xs xs.length).idxOf p.toNat : Int) := by
  have hen : e < xs.length := (List.getElem?_eq_some_iff.1 hx).1
  rw [outL_build] at hb
  have hl1 : e + 1 < xs.length → leadB xs xs.length (e + 1) = true := fun h => ((lds_mem _ _ _).1 (end_lead _ _ _ _ _ hb he h)).2
  have hl2 : goesB x = true → x.c.toNat < xs.length ∧ leadB xs xs.length x.c.toNat = true ∧ (x.c.toNat : Int) = x.c := fun h => by
    obtain ⟨h1, h2⟩ := hg.2.2 e x hx h
    have h3 : (x.c.toNat : Int) = x.c := Int.toNat_of_nonneg h1
    exact ⟨by omega, leadB_of xs _ e _ x hen hx (by simp [leads, h, h3]), h3⟩
  unfold nextS placesL
  by_cases h1 : onB x = true ∧ e + 1 < xs.length
  · have n1 := numAt_lead xs (e + 1) xs.length h1.2 (hl1 h1.2)
    simp only [if_pos h1]
    by_cases h2 : goesB x = true
    · obtain ⟨c1, c2, c3⟩ := hl2 h2
      have n2 := numAt_lead xs x.c.toNat xs.length c1 c2
      have n3 := numAt_eq xs (e + 1) x.c.toNat xs.length h1.2 c1 (hl1 h1.2) c2
      by_cases h3 : x.c = ((e + 1 : Nat) : Int)
      · have k1 : ¬ (goesB x = true ∧ ([numAt xs (e + 1)] = [] ∨ ¬ [numAt xs (e + 1)] = [numAt xs x.c.toNat])) := fun h => h.2.elim (fun q => by cases q) (fun q => q (by rw [n3.2 (by omega)]))
        simp only [if_neg k1]
        rw [if_neg (fun h => h.2 ⟨h1.1, h1.2, h3⟩)]
        simp [n1]
      · have k1 : (goesB x = true ∧ ([numAt xs (e + 1)] = [] ∨ ¬ [numAt xs (e + 1)] = [numAt xs x.c.toNat])) := ⟨h2, .inr (fun q => h3 (by have := n3.1 (by simpa using q); omega))⟩
        simp only [if_pos k1]
        rw [if_pos ⟨h2, fun h => h3 h.2.2⟩]
        simp [n1, n2]
    · simp only [h2, false_and, if_false, Bool.false_eq_true]
      simp [n1]
  · simp only [if_neg h1]
    by_cases h2 : goesB x = true
    · obtain ⟨c1, c2, c3⟩ := hl2 h2
      have n2 := numAt_lead xs x.c.toNat xs.length c1 c2
      have k1 : (goesB x = true ∧ (True ∨ ¬ ([] : List Int) = [numAt xs x.c.toNat])) := ⟨h2, .inl trivial⟩
      rw [if_pos k1, if_pos ⟨h2, fun h => h1 ⟨h.1, h.2.1⟩⟩]
      simp [n2]
    · simp only [h2, false_and, if_false, Bool.false_eq_true]
      rfl
end Go.Proofs.YtifpjgdnikkekaaGreat
