import Derived.Test.YtalkpddhpmjgcaaGreatRows
import Derived.WalkKit
import Derived.ProofKit
import Derived.OpenShut
import Derived.Below
import Derived.Outline
import Derived.WalkLawsBesides
import Derived.Laws.Rows
import Derived.Laws.OwnMore
import Derived.OwnWalk
import Derived.Deep.QuietTactic
import Derived.BigQuiet
import Derived.OneCell
namespace Go.Proofs.YtalkpddhpmjgcaaGreat
open Go.ChangeShapes Go.WideShapes Go.ChangeAt Go.RowKit
set_option linter.unusedVariables false

/-- The slice s has n elements of k cells each, in a row: xs. -/
def Rd (w : World) (k : Nat) (s : Value) (n : Nat) (xs : List Value) : Prop :=
  xs.length = n * k ∧ ((n = 0 ∧ ∃ a c, s = .slice a 0 c) ∨ ∃ g o c, s = .slice (some ⟨g, o, none⟩) n c ∧ ∀ j u, xs[j]? = some u → w.cell? ⟨g, o + j, none⟩ = some u)
theorem Rd.of_own {w : World} {base : Nat} {e : TypeId} {s : Value} {k n : Nat} {xs : List Value} (h : w.ownsRow base e k s n xs) : Rd w k s n xs := by
  refine ⟨by simpa using h.1, ?_⟩
  rcases h.2 with ⟨rfl, rfl⟩ | ⟨g, cap, cur, rfl, hb, hg, hnc, hcm, hcs, ht⟩
  · exact .inl ⟨rfl, _, _, rfl⟩
  · refine .inr ⟨g, 0, cap, rfl, fun j u hj => ?_⟩
    rw [cell_of_row w g _ cur e _ hg, Nat.zero_add]
    rw [← ht] at hj
    obtain ⟨hlt, hj⟩ := List.getElem?_eq_some_iff.1 hj
    rw [List.getElem_take] at hj
    rw [← hj]
    simp at hlt
    rw [Array.getElem?_eq_getElem (by omega)]
    simp
theorem Rd.keep {w w' : World} {s : Value} {k n : Nat} {xs : List Value} (h : Rd w k s n xs) {B : Nat} (hb : Below B w w') (hB : w.heap.size ≤ B) : Rd w' k s n xs := by
  obtain ⟨hl, h | ⟨g, o, c, rfl, hc⟩⟩ := h
  · exact ⟨hl, .inl h⟩
  · refine ⟨hl, .inr ⟨g, o, c, rfl, fun j u hj => ?_⟩⟩
    have h1 := hc j u hj
    rw [hb.cell (Nat.lt_of_lt_of_le (block_lt_of_cell h1) hB)]
    exact h1
theorem Rd.is_slice {w : World} {k : Nat} {s : Value} {n : Nat} {xs : List Value} (h : Rd w k s n xs) : ∃ a c, s = .slice a n c := by
  rcases h.2 with ⟨rfl, a, c, rfl⟩ | ⟨g, o, c, rfl, _⟩ <;> exact ⟨_, _, rfl⟩

theorem own_keep {w w' : World} {base : Nat} {e : TypeId} {s : Value} {k n : Nat} {xs : List Value} (h : w.ownsRow base e k s n xs) {B : Nat} (hb : Below B w w') (hB : w.heap.size ≤ B) : w'.ownsRow base e k s n xs := by
  refine ⟨h.1, ?_⟩
  rcases h.2 with h | ⟨g, cap, cur, e1, hb1, hg, hr⟩
  · exact .inl h
  · refine .inr ⟨g, cap, cur, e1, hb1, ?_, hr⟩
    rw [hb.block g (Nat.lt_of_lt_of_le (Array.getElem?_eq_some_iff.1 hg).1 hB)]
    exact hg
theorem flat_length {α : Type} (f : α → List Value) (m : Nat) (hf : ∀ y, (f y).length = m) (ys : List α) : (ys.flatMap f).length = ys.length * m := by
  induction ys with
  | nil => simp
  | cons y r ih => rw [List.flatMap_cons, List.length_append, ih, hf, List.length_cons, Nat.add_mul]; omega
theorem flat_at {α : Type} (f : α → List Value) (m : Nat) (hf : ∀ y, (f y).length = m) (ys : List α) (k j : Nat) (y : α) (hk : ys[k]? = some y) (hj : j < m) : (ys.flatMap f)[k * m + j]? = (f y)[j]? := by
  induction ys generalizing k with
  | nil => cases hk
  | cons x r ih =>
    rw [List.flatMap_cons]
    cases k with
    | zero =>
      simp only [List.getElem?_cons_zero, Option.some.injEq] at hk
      subst hk
      rw [Nat.zero_mul, Nat.zero_add, List.getElem?_append_left (by rw [hf]; exact hj)]
    | succ k =>
      rw [List.getElem?_cons_succ] at hk
      rw [List.getElem?_append_right (by rw [hf, Nat.add_mul]; omega), hf, ← ih k hk]
      congr 1
      rw [Nat.add_mul]
      omega
/-- Copied up to k, in elements of whatever cells. -/
def flatTo {α : Type} (f : α → List Value) (z : List Value) (ys : List α) (k n : Nat) : List Value := (ys.take k).flatMap f ++ (List.replicate (n - k) z).flatten
theorem flatTo_all {α : Type} (f : α → List Value) (z : List Value) (ys : List α) (n : Nat) (h : ys.length = n) : flatTo f z ys n n = ys.flatMap f := by simp [flatTo, ← h]
theorem flatTo_zero {α : Type} (f : α → List Value) (z : List Value) (ys : List α) (n : Nat) (v : Value) (m : Nat) (hv : v.cells = z.toArray) (hm : z.length = m) (h0 : 0 < m) : (madeCells v.cells (n * m)).toList = flatTo f z ys 0 n := by
  subst hm
  rw [hv]
  unfold flatTo
  rw [List.take_zero, List.flatMap_nil, List.nil_append, Nat.sub_zero]
  apply List.ext_getElem?
  intro i
  have hl : (List.replicate n z).flatten = (List.replicate n z).flatMap id := by simp [List.flatMap_id]
  by_cases hi : i < n * z.length
  · have hq : i / z.length < n := (Nat.div_lt_iff_lt_mul h0).2 hi
    have hr := Nat.mod_lt i h0
    have e : i = i / z.length * z.length + i % z.length := by rw [Nat.mul_comm]; exact (Nat.div_add_mod i z.length).symm
    have hx : (List.replicate n z).flatten[i]? = z[i % z.length]? := by
      conv => lhs; rw [e]
      clear e
      generalize i / z.length = q at hq
      generalize i % z.length = r at hr
      clear hi hl
      induction n generalizing q with
      | zero => omega
      | succ n ih =>
        rw [List.replicate_succ, List.flatten_cons]
        cases q with
        | zero => rw [Nat.zero_mul, Nat.zero_add, List.getElem?_append_left hr]
        | succ q =>
          rw [List.getElem?_append_right (by rw [Nat.add_mul]; omega), ← ih q (by omega)]
          congr 1
          rw [Nat.add_mul]
          omega
    rw [hx]
    have hi' : i < (madeCells z.toArray (n * z.length)).toList.length := by simp [madeCells]; exact hi
    rw [List.getElem?_eq_getElem hi', List.getElem?_eq_getElem hr]
    simp [madeCells]
    rw [List.getElem?_eq_getElem hr]
    rfl
  · have h1 : (madeCells z.toArray (n * z.length)).toList.length ≤ i := by simp [madeCells]; omega
    have h2 : (List.replicate n z).flatten.length ≤ i := by
      rw [List.length_flatten]
      simp
      omega
    rw [List.getElem?_eq_none h1, List.getElem?_eq_none h2]
theorem flatTo_parts {α : Type} (f : α → List Value) (z : List Value) (ys : List α) (k n : Nat) (hk : k < n) : flatTo f z ys k n = (ys.take k).flatMap f ++ (z ++ (List.replicate (n - (k + 1)) z).flatten) := by
  unfold flatTo
  have e : n - k = (n - (k + 1)) + 1 := by omega
  rw [e, List.replicate_succ, List.flatten_cons]
theorem flatTo_next {α : Type} (f : α → List Value) (z : List Value) (ys : List α) (k n : Nat) (y : α) (hy : ys[k]? = some y) : flatTo f z ys (k + 1) n = (ys.take k).flatMap f ++ (f y ++ (List.replicate (n - (k + 1)) z).flatten) := by
  unfold flatTo
  obtain ⟨hlt, rfl⟩ := List.getElem?_eq_some_iff.1 hy
  rw [List.take_succ_eq_append_getElem hlt, List.flatMap_append, List.append_assoc]
  simp
theorem set1 (A R : List Value) (z0 c0 : Value) (i : Nat) (h : A.length = i) : (A ++ ([z0] ++ R)).set i c0 = A ++ ([c0] ++ R) := by
  subst h
  simp
theorem set2 (A R : List Value) (z0 z1 c0 c1 : Value) (i : Nat) (h : A.length = i) : ((A ++ ([z0, z1] ++ R)).set i c0).set (i + 1) c1 = A ++ ([c0, c1] ++ R) := by
  subst h
  simp [List.set_append_right]
theorem set4 (A R : List Value) (z0 z1 z2 z3 c0 c1 c2 c3 : Value) (i : Nat) (h : A.length = i) : ((((A ++ ([z0, z1, z2, z3] ++ R)).set i c0).set (i + 1) c1).set (i + 2) c2).set (i + 3) c3 = A ++ ([c0, c1, c2, c3] ++ R) := by
  subst h
  simp [List.set_append_right]
theorem flatTo_length {α : Type} (f : α → List Value) (z : List Value) (ys : List α) (k n m : Nat) (hf : ∀ y, (f y).length = m) (hz : z.length = m) (hk : k ≤ n) (hy : ys.length = n) : (flatTo f z ys k n).length = n * m := by
  unfold flatTo
  rw [List.length_append, flat_length f m hf, List.length_flatten]
  simp [hz, hy]
  rw [Nat.min_eq_left hk, ← Nat.add_mul]
  congr 1
  omega
/-- A place of one of the elements. -/
theorem Rd.elem {α : Type} {f : α → List Value} {m : Nat} {w : World} {ys : List α} {g o : Nat} (hf : ∀ y, (f y).length = m) (h : ∀ j u, (ys.flatMap f)[j]? = some u → w.cell? ⟨g, o + j, none⟩ = some u) (k : Nat) (y : α) (hy : ys[k]? = some y) (j : Nat) (u : Value) (hj : (f y)[j]? = some u) : w.cell? ⟨g, o + k * m + j, none⟩ = some u := by
  have hjm : j < m := by rw [← hf y]; exact (List.getElem?_eq_some_iff.1 hj).1
  rw [Nat.add_assoc]
  exact h _ u ((flat_at f m hf ys k j y hy hjm).trans hj)
end Go.Proofs.YtalkpddhpmjgcaaGreat
namespace Go.Proofs.YtalkpddhpmjgcaaGreat
open Go.ChangeShapes Go.WideShapes Go.ChangeAt Go.RowKit
set_option linter.unusedVariables false
/-- A statement whose lists are of α. -/
structure SS (α : Type) where
  k : Int
  a : Int
  b : Int
  body : α
  els : α
/-- Lists of statements within which others stand at most n deep. -/
def TL : Nat → Type
  | 0 => Unit
  | n + 1 => List (SS (TL n))
def lenT : (n : Nat) → TL n → Nat
  | 0, _ => 0
  | _ + 1, l => List.length l
def sizeT : (n : Nat) → TL n → Nat
  | 0, _ => 0
  | n + 1, l => List.length l + (List.map (fun s : SS (TL n) => sizeT n s.body + sizeT n s.els) l).sum
/-- What a kind asks for. -/
def okS (k a b : Int) (n m : Nat) : Prop :=
  (k = 1 ∧ (0 ≤ a ∧ a < 8) ∧ (0 ≤ b ∧ b < 8) ∧ n = 0 ∧ m = 0) ∨ (k = 2 ∧ (0 ≤ a ∧ a < 8) ∧ (0 ≤ b ∧ b < 8)) ∨ (k = 3 ∧ a = 0 ∧ (0 ≤ b ∧ b < 256) ∧ m = 0) ∨ (k = 4 ∧ (0 ≤ a ∧ a < 8) ∧ b = 0 ∧ n = 0 ∧ m = 0)
def allOkT : (n : Nat) → TL n → Prop
  | 0, _ => True
  | n + 1, l => ∀ s : SS (TL n), List.Mem s l → okS s.k s.a s.b (lenT n s.body) (lenT n s.els) ∧ allOkT n s.body ∧ allOkT n s.els
def levS (n : Nat) (lev : TL n → Nat) (s : SS (TL n)) : Nat := max (if s.k = 3 then lev s.body + 1 else lev s.body) (lev s.els)
def levT : (n : Nat) → TL n → Nat
  | 0, _ => 0
  | n + 1, l => List.foldl (fun m s => max m (levS n (levT n) s)) 0 l
/-- All lists have lengths. -/
def fitT : (n : Nat) → TL n → Prop
  | 0, _ => True
  | n + 1, l => List.length l ≤ 9223372036854775807 ∧ ∀ s : SS (TL n), List.Mem s l → fitT n s.body ∧ fitT n s.els
/-- The five cells of a statement. -/
def sCells {α : Type} (y : SS α × Value × Value) : List Value := [.int .i64 y.1.k, .int .i64 y.1.a, .int .i64 y.1.b, y.2.1, y.2.2]
theorem sCells_length {α : Type} (y : SS α × Value × Value) : (sCells y).length = 5 := rfl
/-- A value reads as a list of statements. -/
def RdT (w : World) : (n : Nat) → Value → TL n → Prop
  | 0, s, _ => ∃ a c, s = .slice a 0 c
  | n + 1, s, l => ∃ xs : List (SS (TL n) × Value × Value), List.map Prod.fst xs = l ∧ Rd w 5 s (List.length l) (xs.flatMap sCells) ∧ ∀ x, List.Mem x xs → RdT w n x.2.1 x.1.body ∧ RdT w n x.2.2 x.1.els
theorem RdT.keep {w w' : World} {n : Nat} {s : Value} {t : TL n} (h : RdT w n s t) {B : Nat} (hb : Below B w w') (hB : w.heap.size ≤ B) : RdT w' n s t := by
  induction n generalizing s with
  | zero => exact h
  | succ n ih =>
    obtain ⟨xs, h1, h2, h3⟩ := h
    exact ⟨xs, h1, h2.keep hb hB, fun x hx => ⟨ih (h3 x hx).1, ih (h3 x hx).2⟩⟩
theorem RdT.is_slice {w : World} {n : Nat} {s : Value} {t : TL n} (h : RdT w n s t) : ∃ a c, s = .slice a (lenT n t) c := by
  cases n with
  | zero => exact h
  | succ n => obtain ⟨xs, h1, h2, h3⟩ := h; exact h2.is_slice
/-- One of the statements. -/
theorem RdT.elem {w : World} {n : Nat} {s : Value} {l : List (SS (TL n))} (h : RdT w (n + 1) s l) {i : Nat} {x : SS (TL n)} (hx : l[i]? = some x) :
    ∃ g o c vb ve, s = .slice (some ⟨g, o, none⟩) l.length c ∧ w.cell? ⟨g, o + i * 5, none⟩ = some (.int .i64 x.k) ∧ w.cell? ⟨g, o + i * 5 + 1, none⟩ = some (.int .i64 x.a) ∧ w.cell? ⟨g, o + i * 5 + 2, none⟩ = some (.int .i64 x.b) ∧ w.cell? ⟨g, o + i * 5 + 3, none⟩ = some vb ∧ w.cell? ⟨g, o + i * 5 + 4, none⟩ = some ve ∧ RdT w n vb x.body ∧ RdT w n ve x.els := by
  obtain ⟨xs, h1, h2, h3⟩ := h
  have hlt := (List.getElem?_eq_some_iff.1 hx).1
  rcases h2.2 with ⟨e, _⟩ | ⟨g, o, c, e, hc⟩
  · exact absurd e (by omega)
  · obtain ⟨y, hy, hy1⟩ : ∃ y, xs[i]? = some y ∧ y.1 = x := by
      rw [← h1, List.getElem?_map] at hx
      cases hy : xs[i]? with
      | none => rw [hy] at hx; cases hx
      | some y => rw [hy] at hx; exact ⟨y, rfl, Option.some.inj hx⟩
    subst hy1
    have hm := h3 y (List.mem_of_getElem? hy)
    exact ⟨g, o, c, y.2.1, y.2.2, e, Rd.elem sCells_length hc i y hy 0 _ rfl, Rd.elem sCells_length hc i y hy 1 _ rfl, Rd.elem sCells_length hc i y hy 2 _ rfl, Rd.elem sCells_length hc i y hy 3 _ rfl, Rd.elem sCells_length hc i y hy 4 _ rfl, hm.1, hm.2⟩
/-- How many stand in the first i, beside these. -/
def sumT (n : Nat) (l : List (SS (TL n))) (i : Nat) : Nat := ((l.take i).map (fun s : SS (TL n) => sizeT n s.body + sizeT n s.els)).sum
theorem sumT_zero (n : Nat) (l : List (SS (TL n))) : sumT n l 0 = 0 := rfl
theorem sumT_next {n : Nat} {l : List (SS (TL n))} {i : Nat} {x : SS (TL n)} (hx : l[i]? = some x) : sumT n l (i + 1) = sumT n l i + (sizeT n x.body + sizeT n x.els) := by
  unfold sumT
  obtain ⟨hlt, rfl⟩ := List.getElem?_eq_some_iff.1 hx
  rw [List.take_succ_eq_append_getElem hlt, List.map_append, List.sum_append]
  simp
theorem sumT_all {n : Nat} {l : List (SS (TL n))} {i : Nat} (h : l.length ≤ i) : sizeT (n + 1) l = l.length + sumT n l i := by
  unfold sumT
  rw [List.take_of_length_le h]
  rfl
theorem sum_take_le (l : List Nat) (i : Nat) : (l.take i).sum ≤ l.sum := by
  induction l generalizing i with
  | nil => simp
  | cons x r ih =>
    cases i with
    | zero => simp
    | succ i => simp only [List.take_succ_cons, List.sum_cons]; have := ih i; omega
theorem sumT_le {n : Nat} {l : List (SS (TL n))} (i : Nat) : l.length + sumT n l i ≤ sizeT (n + 1) l := by
  have h := sum_take_le (l.map (fun s : SS (TL n) => sizeT n s.body + sizeT n s.els)) i
  rw [← List.map_take] at h
  exact Nat.add_le_add_left h _
theorem len_le_size (n : Nat) (t : TL n) : lenT n t ≤ sizeT n t := by
  cases n with
  | zero => exact Nat.le_refl _
  | succ n => exact Nat.le_add_right _ _
theorem size_mem {n : Nat} {l : List (SS (TL n))} {x : SS (TL n)} (hx : x ∈ l) : 1 + sizeT n x.body + sizeT n x.els ≤ sizeT (n + 1) l := by
  obtain ⟨i, hi⟩ := List.getElem?_of_mem hx
  have h1 := sumT_le (n := n) (l := l) (i + 1)
  rw [sumT_next hi] at h1
  have := (List.getElem?_eq_some_iff.1 hi).1
  omega
/-- The greatest level among the first i. -/
def levN (n : Nat) (l : List (SS (TL n))) (i : Nat) : Nat := (l.take i).foldl (fun m s => max m (levS n (levT n) s)) 0
theorem levN_next {n : Nat} {l : List (SS (TL n))} {i : Nat} {x : SS (TL n)} (hx : l[i]? = some x) : levN n l (i + 1) = max (levN n l i) (levS n (levT n) x) := by
  unfold levN
  obtain ⟨hlt, rfl⟩ := List.getElem?_eq_some_iff.1 hx
  rw [List.take_succ_eq_append_getElem hlt, List.foldl_append]
  rfl
theorem levN_all {n : Nat} {l : List (SS (TL n))} {i : Nat} (h : l.length ≤ i) : levN n l i = levT (n + 1) l := by
  unfold levN
  rw [List.take_of_length_le h]
  rfl
theorem levN_le {n : Nat} (ih : ∀ t : TL n, levT n t ≤ sizeT n t) (l : List (SS (TL n))) (i : Nat) : levN n l i ≤ sizeT (n + 1) l := by
  induction i with
  | zero => exact Nat.zero_le _
  | succ i ih2 =>
    cases hx : l[i]? with
    | none =>
      have e : levN n l (i + 1) = levN n l i := by
        unfold levN
        rw [List.take_of_length_le (by have := List.getElem?_eq_none_iff.1 hx; omega), List.take_of_length_le (List.getElem?_eq_none_iff.1 hx)]
      rw [e]; exact ih2
    | some x =>
      rw [levN_next hx]
      have h1 := size_mem (List.mem_of_getElem? hx)
      have h2 := ih x.body
      have h3 := ih x.els
      unfold levS
      split <;> omega
/-- There are no more levels than statements. -/
theorem lev_le_size (n : Nat) (t : TL n) : levT n t ≤ sizeT n t := by
  induction n with
  | zero => exact Nat.le_refl _
  | succ n ih =>
    have h := levN_le ih t (lenT (n + 1) t)
    have e : levN n t (lenT (n + 1) t) = levT (n + 1) t := levN_all (Nat.le_refl _)
    exact e ▸ h
/-- What a size leaves. -/
def szK (left : Int) (m : Nat) : Int := if left - (m : Int) < 0 then -1 else left - m
theorem szK_neg {left : Int} {m : Nat} (h : left < (m : Int)) : szK left m = -1 := if_pos (by omega)
theorem szK_pos {left : Int} {m : Nat} (h : (m : Int) ≤ left) : szK left m = left - m := if_neg (by omega)
end Go.Proofs.YtalkpddhpmjgcaaGreat
namespace Go.Proofs.YtalkpddhpmjgcaaGreat
open Go.ChangeShapes Go.WideShapes Go.ChangeAt Go.RowKit
set_option linter.unusedVariables false
/-- An instruction. -/
structure MI where
  op : Int
  a : Int
  b : Int
  c : Int
/-- A constant. -/
structure MC where
  type : Int
  word : Int
/-- A certificate. -/
structure MT where
  func : Int
  head : Int
  counter : Int
  init : Int
def MI.cells (x : MI) : List Value := [.int .i64 x.op, .int .i64 x.a, .int .i64 x.b, .int .i64 x.c]
def MC.cells (x : MC) : List Value := [.int .i64 x.type, .int .u32 x.word]
def MT.cells (x : MT) : List Value := [.int .i64 x.func, .int .i64 x.head, .int .i64 x.counter, .int .u32 x.init]
theorem MI.cells_length (x : MI) : x.cells.length = 4 := rfl
theorem MC.cells_length (x : MC) : x.cells.length = 2 := rfl
theorem MT.cells_length (x : MT) : x.cells.length = 4 := rfl
def intCell (z : Int) : List Value := [.int .i64 z]
theorem intCell_length (z : Int) : (intCell z).length = 1 := rfl
theorem info64 : (Tryz.prog.info? 2).map (fun i => (i.zero, i.size, i.bytes)) = some (some (.int .i64 0), 1, 8) := by kernel_rfl
theorem infoI : (Tryz.prog.info? 92).map (fun i => (i.zero, i.size, i.bytes)) = some (some (.agg #[.int .i64 0, .int .i64 0, .int .i64 0, .int .i64 0]), 4, 32) := by kernel_rfl
theorem infoC : (Tryz.prog.info? 108).map (fun i => (i.zero, i.size, i.bytes)) = some (some (.agg #[.int .i64 0, .int .u32 0]), 2, 16) := by kernel_rfl
theorem infoT : (Tryz.prog.info? 112).map (fun i => (i.zero, i.size, i.bytes)) = some (some (.agg #[.int .i64 0, .int .i64 0, .int .i64 0, .int .u32 0]), 4, 32) := by kernel_rfl


end Go.Proofs.YtalkpddhpmjgcaaGreat
namespace Go.Proofs.YtalkpddhpmjgcaaGreat
open Go.ChangeShapes Go.WideShapes Go.ChangeAt Go.RowKit
set_option linter.unusedVariables false
end Go.Proofs.YtalkpddhpmjgcaaGreat
namespace Go.Proofs.YtalkpddhpmjgcaaGreat
open Go.ChangeShapes Go.WideShapes Go.ChangeAt Go.RowKit
set_option linter.unusedVariables false
/-- A function of a program. -/
structure MF where
  params : List Int
  result : Int
  locals : List Int
  code : List MI
/-- Its three lists, as values. -/
structure VF where
  p : Value
  l : Value
  c : Value
def RdF (w : World) (v : VF) (f : MF) : Prop := Rd w 1 v.p f.params.length (f.params.flatMap intCell) ∧ Rd w 1 v.l f.locals.length (f.locals.flatMap intCell) ∧ Rd w 4 v.c f.code.length (f.code.flatMap MI.cells)
def OwnF (w : World) (base : Nat) (v : VF) (f : MF) : Prop := w.ownsRow base 2 1 v.p f.params.length (f.params.flatMap intCell) ∧ w.ownsRow base 2 1 v.l f.locals.length (f.locals.flatMap intCell) ∧ w.ownsRow base 92 4 v.c f.code.length (f.code.flatMap MI.cells)
def MF.small (f : MF) : Prop := f.params.length ≤ 1048576 ∧ f.locals.length ≤ 1048576 ∧ f.code.length ≤ 1048576
theorem OwnF.rd {w : World} {base : Nat} {v : VF} {f : MF} (h : OwnF w base v f) : RdF w v f := ⟨Rd.of_own h.1, Rd.of_own h.2.1, Rd.of_own h.2.2⟩
theorem RdF.keep {w w' : World} {v : VF} {f : MF} (h : RdF w v f) {B : Nat} (hb : Below B w w') (hB : w.heap.size ≤ B) : RdF w' v f := ⟨h.1.keep hb hB, h.2.1.keep hb hB, h.2.2.keep hb hB⟩
theorem OwnF.keep {w w' : World} {base : Nat} {v : VF} {f : MF} (h : OwnF w base v f) {B : Nat} (hb : Below B w w') (hB : w.heap.size ≤ B) : OwnF w' base v f := ⟨own_keep h.1 hb hB, own_keep h.2.1 hb hB, own_keep h.2.2 hb hB⟩
theorem own_base {w : World} {base base' : Nat} {e : TypeId} {s : Value} {k n : Nat} {xs : List Value} (h : w.ownsRow base e k s n xs) (hb : base' ≤ base) : w.ownsRow base' e k s n xs := by
  refine ⟨h.1, ?_⟩
  rcases h.2 with h | ⟨g, cap, cur, e1, hb1, hg, hr⟩
  · exact .inl h
  · exact .inr ⟨g, cap, cur, e1, Nat.le_trans hb hb1, hg, hr⟩
/-- A block of four cells. -/
theorem row4 {w : World} {base : Nat} {e : TypeId} {g : Nat} {a b c d : Value} (h : w.ownsRow base e 4 (.slice (some ⟨g, 0, none⟩) 1 1) 1 [a, b, c, d]) :
    w.cell? ⟨g, 0, none⟩ = some a ∧ w.cell? ⟨g, 1, none⟩ = some b ∧ w.cell? ⟨g, 2, none⟩ = some c ∧ w.cell? ⟨g, 3, none⟩ = some d ∧ w.frozen? ⟨g, 0, none⟩ = false ∧ w.frozen? ⟨g, 1, none⟩ = false ∧ w.frozen? ⟨g, 2, none⟩ = false ∧ w.frozen? ⟨g, 3, none⟩ = false :=
  ⟨h.cellAt 0 (by omega), h.cellAt 1 (by omega), h.cellAt 2 (by omega), h.cellAt 3 (by omega), h.frozenAt 0, h.frozenAt 1, h.frozenAt 2, h.frozenAt 3⟩

/-- A call's three blocks of four cells: the argument, the result, the local. -/
structure Fr (w u : World) (tp tr : TypeId) (p r o : List Value) : Prop where
  par : u.ownsRow w.heap.size tp 4 (.slice (some ⟨w.heap.size, 0, none⟩) 1 1) 1 p
  res : u.ownsRow w.heap.size tr 4 (.slice (some ⟨w.heap.size + 1, 0, none⟩) 1 1) 1 r
  loc : u.ownsRow w.heap.size tr 4 (.slice (some ⟨w.heap.size + 1 + 1, 0, none⟩) 1 1) 1 o
  bel : Below w.heap.size w u
  siz : w.heap.size + 3 ≤ u.heap.size
theorem Fr.of (w : World) (tp tr : TypeId) (p r o : Array Value) (hp : p.size = 4) (hr : r.size = 4) (ho : o.size = 4) :
    Fr w (((w.alloc (.cells p tp)).alloc (.cells r tr)).alloc (.cells o tr)) tp tr p.toList r.toList o.toList := by
  have b1 : Below w.heap.size w (w.alloc (.cells p tp)) := (Below.refl _ _).alloc (Nat.le_refl _) _
  have c2 : Below (w.alloc (.cells p tp)).heap.size (w.alloc (.cells p tp)) ((w.alloc (.cells p tp)).alloc (.cells r tr)) := (Below.refl _ _).alloc (Nat.le_refl _) _
  have c3 : Below ((w.alloc (.cells p tp)).alloc (.cells r tr)).heap.size ((w.alloc (.cells p tp)).alloc (.cells r tr)) (((w.alloc (.cells p tp)).alloc (.cells r tr)).alloc (.cells o tr)) := (Below.refl _ _).alloc (Nat.le_refl _) _
  have r1 := World.ownsRow_lit (base := w.heap.size) (e := tp) (size := 4) w p 1 (Nat.le_refl _) (by unfold maxLen; omega) (by omega)
  have r2 := World.ownsRow_lit (base := w.heap.size) (e := tr) (size := 4) (w.alloc (.cells p tp)) r 1 (by simp) (by unfold maxLen; omega) (by omega)
  have r3 := World.ownsRow_lit (base := w.heap.size) (e := tr) (size := 4) ((w.alloc (.cells p tp)).alloc (.cells r tr)) o 1 (by simp <;> omega) (by unfold maxLen; omega) (by omega)
  refine ⟨own_keep (own_keep r1 c2 (Nat.le_refl _)) c3 (Nat.le_refl _), ?_, ?_, (b1.trans (c2.mono (by simp))).trans (c3.mono (by simp <;> omega)), by simp <;> omega⟩
  · have := own_keep r2 c3 (Nat.le_refl _)
    simpa using this
  · simpa using r3
theorem Fr.keep {w u u' : World} {tp tr : TypeId} {p r o : List Value} (h : Fr w u tp tr p r o) (hb : Below u.heap.size u u') : Fr w u' tp tr p r o :=
  ⟨own_keep h.par hb (Nat.le_refl _), own_keep h.res hb (Nat.le_refl _), own_keep h.loc hb (Nat.le_refl _), h.bel.trans (hb.mono (by have := h.siz; omega)), Nat.le_trans h.siz hb.size⟩
theorem Fr.set {w u : World} {tp tr : TypeId} {p r o : List Value} (h : Fr w u tp tr p r o) (j : Nat) (x : Value) : Fr w (u.setCell ⟨w.heap.size + 1 + 1, j, none⟩ x) tp tr p r (o.set j x) :=
  ⟨ownsRow_setCell_other h.par (by simp [Value.ownBlock] <;> omega) x, ownsRow_setCell_other h.res (by simp [Value.ownBlock]) x, (h.loc.stored j x).1, h.bel.setCell (by simp <;> omega) x, by have := h.siz; simpa using this⟩
theorem Fr.set' {w u : World} {tp tr : TypeId} {p r o : List Value} (h : Fr w u tp tr p r o) (j : Nat) (x : Value) : Fr w (u.setCell ⟨w.heap.size + 1, j, none⟩ x) tp tr p (r.set j x) o :=
  ⟨ownsRow_setCell_other h.par (by simp [Value.ownBlock] <;> omega) x, (h.res.stored j x).1, ownsRow_setCell_other h.loc (by simp [Value.ownBlock]) x, h.bel.setCell (by simp) x, by have := h.siz; simpa using this⟩
/-- A store into the call's own blocks leaves what lies behind them. -/
theorem own_set {w u : World} {e : TypeId} {s : Value} {k n : Nat} {xs : List Value} (h : u.ownsRow (w.heap.size + 3) e k s n xs) (g j : Nat) (hg : g < w.heap.size + 3) (x : Value) : (u.setCell ⟨g, j, none⟩ x).ownsRow (w.heap.size + 3) e k s n xs := ownsRow_setCell_below h hg x


end Go.Proofs.YtalkpddhpmjgcaaGreat
