/- KPure: lists of statements, as deep as n; what they read as. -/
import Derived.Test.YtjlnglgfehefdaaProg0
namespace Go.Proofs.Ytjlnglgfehefdaa
open Go.ChangeShapes Go.WideShapes Go.ChangeAt Go.RowKit
set_option linter.unusedVariables false
/-- A statement whose lists are of α. -/
structure SS (α : Type) where
  k : Int
  a : Int
  b : Int
  body : α
  els : α
/-- Lists of statements within which others stand at most n deep. -/
def TL : Nat → Type
  | 0 => Unit
  | n + 1 => List (SS (TL n))
def lenT : (n : Nat) → TL n → Nat
  | 0, _ => 0
  | _ + 1, l => List.length l
def sizeT : (n : Nat) → TL n → Nat
  | 0, _ => 0
  | n + 1, l => List.length l + (List.map (fun s : SS (TL n) => sizeT n s.body + sizeT n s.els) l).sum
/-- What a kind asks for. -/
def okS (k a b : Int) (n m : Nat) : Prop :=
  (k = 1 ∧ (0 ≤ a ∧ a < 8) ∧ (0 ≤ b ∧ b < 8) ∧ n = 0 ∧ m = 0) ∨ (k = 2 ∧ (0 ≤ a ∧ a < 8) ∧ (0 ≤ b ∧ b < 8)) ∨ (k = 3 ∧ a = 0 ∧ (0 ≤ b ∧ b < 256) ∧ m = 0) ∨ (k = 4 ∧ (0 ≤ a ∧ a < 8) ∧ b = 0 ∧ n = 0 ∧ m = 0)
def allOkT : (n : Nat) → TL n → Prop
  | 0, _ => True
  | n + 1, l => ∀ s : SS (TL n), List.Mem s l → okS s.k s.a s.b (lenT n s.body) (lenT n s.els) ∧ allOkT n s.body ∧ allOkT n s.els
def levS (n : Nat) (lev : TL n → Nat) (s : SS (TL n)) : Nat := max (if s.k = 3 then lev s.body + 1 else lev s.body) (lev s.els)
def levT : (n : Nat) → TL n → Nat
  | 0, _ => 0
  | n + 1, l => List.foldl (fun m s => max m (levS n (levT n) s)) 0 l
/-- All lists have lengths. -/
def fitT : (n : Nat) → TL n → Prop
  | 0, _ => True
  | n + 1, l => List.length l ≤ 9223372036854775807 ∧ ∀ s : SS (TL n), List.Mem s l → fitT n s.body ∧ fitT n s.els
/-- The five cells of a statement. -/
def sCells {α : Type} (y : SS α × Value × Value) : List Value := [.int .i64 y.1.k, .int .i64 y.1.a, .int .i64 y.1.b, y.2.1, y.2.2]
theorem sCells_length {α : Type} (y : SS α × Value × Value) : (sCells y).length = 5 := rfl
/-- A value reads as a list of statements. -/
def RdT (w : World) : (n : Nat) → Value → TL n → Prop
  | 0, s, _ => ∃ a c, s = .slice a 0 c
  | n + 1, s, l => ∃ xs : List (SS (TL n) × Value × Value), List.map Prod.fst xs = l ∧ Rd w 5 s (List.length l) (xs.flatMap sCells) ∧ ∀ x, List.Mem x xs → RdT w n x.2.1 x.1.body ∧ RdT w n x.2.2 x.1.els
theorem RdT.keep {w w' : World} {n : Nat} {s : Value} {t : TL n} (h : RdT w n s t) {B : Nat} (hb : Below B w w') (hB : w.heap.size ≤ B) : RdT w' n s t := by
  induction n generalizing s with
  | zero => exact h
  | succ n ih =>
    obtain ⟨xs, h1, h2, h3⟩ := h
    exact ⟨xs, h1, h2.keep hb hB, fun x hx => ⟨ih (h3 x hx).1, ih (h3 x hx).2⟩⟩
theorem RdT.is_slice {w : World} {n : Nat} {s : Value} {t : TL n} (h : RdT w n s t) : ∃ a c, s = .slice a (lenT n t) c := by
  cases n with
  | zero => exact h
  | succ n => obtain ⟨xs, h1, h2, h3⟩ := h; exact h2.is_slice
/-- One of the statements. -/
theorem RdT.elem {w : World} {n : Nat} {s : Value} {l : List (SS (TL n))} (h : RdT w (n + 1) s l) {i : Nat} {x : SS (TL n)} (hx : l[i]? = some x) :
    ∃ g o c vb ve, s = .slice (some ⟨g, o, none⟩) l.length c ∧ w.cell? ⟨g, o + i * 5, none⟩ = some (.int .i64 x.k) ∧ w.cell? ⟨g, o + i * 5 + 1, none⟩ = some (.int .i64 x.a) ∧ w.cell? ⟨g, o + i * 5 + 2, none⟩ = some (.int .i64 x.b) ∧ w.cell? ⟨g, o + i * 5 + 3, none⟩ = some vb ∧ w.cell? ⟨g, o + i * 5 + 4, none⟩ = some ve ∧ RdT w n vb x.body ∧ RdT w n ve x.els := by
  obtain ⟨xs, h1, h2, h3⟩ := h
  have hlt := (List.getElem?_eq_some_iff.1 hx).1
  rcases h2.2 with ⟨e, _⟩ | ⟨g, o, c, e, hc⟩
  · exact absurd e (by omega)
  · obtain ⟨y, hy, hy1⟩ : ∃ y, xs[i]? = some y ∧ y.1 = x := by
      rw [← h1, List.getElem?_map] at hx
      cases hy : xs[i]? with
      | none => rw [hy] at hx; cases hx
      | some y => rw [hy] at hx; exact ⟨y, rfl, Option.some.inj hx⟩
    subst hy1
    have hm := h3 y (List.mem_of_getElem? hy)
    exact ⟨g, o, c, y.2.1, y.2.2, e, Rd.elem sCells_length hc i y hy 0 _ rfl, Rd.elem sCells_length hc i y hy 1 _ rfl, Rd.elem sCells_length hc i y hy 2 _ rfl, Rd.elem sCells_length hc i y hy 3 _ rfl, Rd.elem sCells_length hc i y hy 4 _ rfl, hm.1, hm.2⟩
/-- How many stand in the first i, beside these. -/
def sumT (n : Nat) (l : List (SS (TL n))) (i : Nat) : Nat := ((l.take i).map (fun s : SS (TL n) => sizeT n s.body + sizeT n s.els)).sum
theorem sumT_zero (n : Nat) (l : List (SS (TL n))) : sumT n l 0 = 0 := rfl
theorem sumT_next {n : Nat} {l : List (SS (TL n))} {i : Nat} {x : SS (TL n)} (hx : l[i]? = some x) : sumT n l (i + 1) = sumT n l i + (sizeT n x.body + sizeT n x.els) := by
  unfold sumT
  obtain ⟨hlt, rfl⟩ := List.getElem?_eq_some_iff.1 hx
  rw [List.take_succ_eq_append_getElem hlt, List.map_append, List.sum_append]
  simp
theorem sumT_all {n : Nat} {l : List (SS (TL n))} {i : Nat} (h : l.length ≤ i) : sizeT (n + 1) l = l.length + sumT n l i := by
  unfold sumT
  rw [List.take_of_length_le h]
  rfl
theorem sum_take_le (l : List Nat) (i : Nat) : (l.take i).sum ≤ l.sum := by
  induction l generalizing i with
  | nil => simp
  | cons x r ih =>
    cases i with
    | zero => simp
    | succ i => simp only [List.take_succ_cons, List.sum_cons]; have := ih i; omega
theorem sumT_le {n : Nat} {l : List (SS (TL n))} (i : Nat) : l.length + sumT n l i ≤ sizeT (n + 1) l := by
  have h := sum_take_le (l.map (fun s : SS (TL n) => sizeT n s.body + sizeT n s.els)) i
  rw [← List.map_take] at h
  exact Nat.add_le_add_left h _
theorem len_le_size (n : Nat) (t : TL n) : lenT n t ≤ sizeT n t := by
  cases n with
  | zero => exact Nat.le_refl _
  | succ n => exact Nat.le_add_right _ _
theorem size_mem {n : Nat} {l : List (SS (TL n))} {x : SS (TL n)} (hx : x ∈ l) : 1 + sizeT n x.body + sizeT n x.els ≤ sizeT (n + 1) l := by
  obtain ⟨i, hi⟩ := List.getElem?_of_mem hx
  have h1 := sumT_le (n := n) (l := l) (i + 1)
  rw [sumT_next hi] at h1
  have := (List.getElem?_eq_some_iff.1 hi).1
  omega
/-- The greatest level among the first i. -/
def levN (n : Nat) (l : List (SS (TL n))) (i : Nat) : Nat := (l.take i).foldl (fun m s => max m (levS n (levT n) s)) 0
theorem levN_next {n : Nat} {l : List (SS (TL n))} {i : Nat} {x : SS (TL n)} (hx : l[i]? = some x) : levN n l (i + 1) = max (levN n l i) (levS n (levT n) x) := by
  unfold levN
  obtain ⟨hlt, rfl⟩ := List.getElem?_eq_some_iff.1 hx
  rw [List.take_succ_eq_append_getElem hlt, List.foldl_append]
  rfl
theorem levN_all {n : Nat} {l : List (SS (TL n))} {i : Nat} (h : l.length ≤ i) : levN n l i = levT (n + 1) l := by
  unfold levN
  rw [List.take_of_length_le h]
  rfl
theorem levN_le {n : Nat} (ih : ∀ t : TL n, levT n t ≤ sizeT n t) (l : List (SS (TL n))) (i : Nat) : levN n l i ≤ sizeT (n + 1) l := by
  induction i with
  | zero => exact Nat.zero_le _
  | succ i ih2 =>
    cases hx : l[i]? with
    | none =>
      have e : levN n l (i + 1) = levN n l i := by
        unfold levN
        rw [List.take_of_length_le (by have := List.getElem?_eq_none_iff.1 hx; omega), List.take_of_length_le (List.getElem?_eq_none_iff.1 hx)]
      rw [e]; exact ih2
    | some x =>
      rw [levN_next hx]
      have h1 := size_mem (List.mem_of_getElem? hx)
      have h2 := ih x.body
      have h3 := ih x.els
      unfold levS
      split <;> omega
/-- There are no more levels than statements. -/
theorem lev_le_size (n : Nat) (t : TL n) : levT n t ≤ sizeT n t := by
  induction n with
  | zero => exact Nat.le_refl _
  | succ n ih =>
    have h := levN_le ih t (lenT (n + 1) t)
    have e : levN n t (lenT (n + 1) t) = levT (n + 1) t := levN_all (Nat.le_refl _)
    exact e ▸ h
/-- What a size leaves. -/
def szK (left : Int) (m : Nat) : Int := if left - (m : Int) < 0 then -1 else left - m
theorem szK_neg {left : Int} {m : Nat} (h : left < (m : Int)) : szK left m = -1 := if_pos (by omega)
theorem szK_pos {left : Int} {m : Nat} (h : (m : Int) ≤ left) : szK left m = left - m := if_neg (by omega)
end Go.Proofs.Ytjlnglgfehefdaa
