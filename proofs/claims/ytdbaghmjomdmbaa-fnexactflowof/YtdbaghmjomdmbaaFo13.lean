import Derived.Test.YtdbaghmjomdmbaaFo12
namespace Go.Proofs.Ytdbaghmjomdmbaa
open Go.ChangeShapes Go.WideShapes Go.ChangeAt Go.RowKit
set_option linter.unusedVariables false
def nv (l : List Nat) : List Value := l.map fun (k : Nat) => Value.int .i64 (k : Int)
theorem nv_length (l : List Nat) : (nv l).length = l.length := by simp [nv]
theorem nv_app (l m : List Nat) : nv (l ++ m) = nv l ++ nv m := by simp [nv]
theorem nv_flat (l : List Nat) : nv l = (ints l).flatMap intCell := by
  induction l with
  | nil => rfl
  | cons x r ih =>
    simp only [nv, ints, List.map_cons, List.flatMap_cons] at ih ⊢
    rw [ih]
    rfl
theorem nv_at {l : List Nat} {k x : Nat} (h : l[k]? = some x) : (nv l)[k]? = some (.int .i64 (x : Int)) := by simp [nv, h]
def RdN (w : World) (s : Value) (l : List Nat) : Prop := Rd w 1 s l.length (nv l)
def OwN (w : World) (base : Nat) (s : Value) (l : List Nat) : Prop := w.ownsRow base 2 1 s l.length (nv l)
theorem OwN.rd {w : World} {base : Nat} {s : Value} {l : List Nat} (h : OwN w base s l) : RdN w s l := Rd.of_own h
theorem OwN.keep {w w' : World} {base : Nat} {s : Value} {l : List Nat} (h : OwN w base s l) (hb : Below w.heap.size w w') : OwN w' base s l := own_keep h hb (Nat.le_refl _)
theorem RdN.keep {w w' : World} {s : Value} {l : List Nat} (h : RdN w s l) (hb : Below w.heap.size w w') : RdN w' s l := Rd.keep h hb (Nat.le_refl _)
/-- An element of a row that is read. -/
theorem RdN.at_ {w : World} {a : Option Addr} {n c : Nat} {l : List Nat} (h : RdN w (.slice a n c) l) {k x : Nat} (hk : l[k]? = some x) : ∃ g o, a = some ⟨g, o, none⟩ ∧ n = l.length ∧ w.cell? ⟨g, o + k, none⟩ = some (.int .i64 (x : Int)) := by
  rcases h.2 with ⟨e0, _⟩ | ⟨g, o, c', e1, hc⟩
  · have := (List.getElem?_eq_some_iff.1 hk).1
    omega
  · simp only [Value.slice.injEq] at e1
    obtain ⟨rfl, rfl, rfl⟩ := e1
    exact ⟨g, o, rfl, rfl, hc k _ (nv_at hk)⟩
/-- All elements at once. -/
theorem RdN.all {w : World} {a : Option Addr} {n c : Nat} {l : List Nat} (h : RdN w (.slice a n c) l) (hl : 0 < l.length) : ∃ g o, a = some ⟨g, o, none⟩ ∧ n = l.length ∧ ∀ k x : Nat, l[k]? = some x → w.cell? ⟨g, o + k, none⟩ = some (.int .i64 (x : Int)) := by
  rcases h.2 with ⟨e0, _⟩ | ⟨g, o, c', e1, hc⟩
  · omega
  · simp only [Value.slice.injEq] at e1
    obtain ⟨rfl, rfl, rfl⟩ := e1
    exact ⟨g, o, rfl, rfl, fun k x hk => hc k _ (nv_at hk)⟩
def bv (P : Nat → Bool) (n : Nat) : List Value := (List.range n).map fun i => Value.bool (P i)
theorem bv_length (P : Nat → Bool) (n : Nat) : (bv P n).length = n := by simp [bv]
theorem bv_at (P : Nat → Bool) (n i : Nat) (h : i < n) : (bv P n)[i]? = some (.bool (P i)) := by simp [bv, h]
theorem bv_congr {P Q : Nat → Bool} {n : Nat} (h : ∀ i, i < n → P i = Q i) : bv P n = bv Q n := by
  unfold bv
  apply List.map_congr_left
  intro i hi
  rw [h i (List.mem_range.1 hi)]
theorem bv_set {P Q : Nat → Bool} {n i : Nat} {b : Bool} (h : ∀ j, j < n → Q j = if j = i then b else P j) : (bv P n).set i (.bool b) = bv Q n := by
  apply List.ext_getElem?
  intro j
  by_cases hj : j < n
  · rw [bv_at _ _ _ hj, h j hj]
    by_cases e : j = i
    · subst e
      rw [List.getElem?_set_self (by rw [bv_length]; exact hj), if_pos rfl]
    · rw [List.getElem?_set_ne (by omega), bv_at _ _ _ hj, if_neg e]
  · rw [List.getElem?_eq_none (by simp [bv_length]; omega), List.getElem?_eq_none (by rw [bv_length]; omega)]
theorem bv_zero (n : Nat) : List.replicate n (Value.bool false) = bv (fun _ => false) n := by
  apply List.ext_getElem?
  intro j
  by_cases hj : j < n
  · rw [bv_at _ _ _ hj]
    simp [hj]
  · rw [List.getElem?_eq_none (by simp; omega), List.getElem?_eq_none (by rw [bv_length]; omega)]
def OwB (w : World) (base g n : Nat) (P : Nat → Bool) : Prop := w.ownsRow base 4 1 (.slice (some ⟨g, 0, none⟩) n n) n (bv P n)
theorem OwB.keep {w w' : World} {base g n : Nat} {P : Nat → Bool} (h : OwB w base g n P) (hb : Below w.heap.size w w') : OwB w' base g n P := own_keep h hb (Nat.le_refl _)
theorem OwB.cell {w : World} {base g n : Nat} {P : Nat → Bool} (h : OwB w base g n P) {i : Nat} (hi : i < n) : w.cell? ⟨g, i, none⟩ = some (.bool (P i)) := by
  have := World.ownsRow.cellAt h i (by omega)
  rw [bv_at _ _ _ hi] at this
  exact this
theorem OwB.frozen {w : World} {base g n : Nat} {P : Nat → Bool} (h : OwB w base g n P) (i : Nat) : w.frozen? ⟨g, i, none⟩ = false := World.ownsRow.frozenAt h i
theorem OwB.set {w : World} {base g n : Nat} {P Q : Nat → Bool} (h : OwB w base g n P) (i : Nat) (b : Bool) (hQ : ∀ j, j < n → Q j = if j = i then b else P j) : OwB (w.setCell ⟨g, i, none⟩ (.bool b)) base g n Q := by
  have := (World.ownsRow.stored h i (.bool b)).1
  rw [bv_set hQ] at this
  exact this
/-- Blocks as a graph. -/
def GrAt (w : World) (g o n : Nat) (E : Nat → List Nat) : Prop := ∀ b, b < n → ∃ a c, w.cell? ⟨g, o + b * 3 + 2, none⟩ = some (.slice a (E b).length c) ∧ RdN w (.slice a (E b).length c) (E b)
theorem GrAt.keep {w w' : World} {g o n : Nat} {E : Nat → List Nat} (h : GrAt w g o n E) (hb : Below w.heap.size w w') : GrAt w' g o n E := fun b hb' => by
  obtain ⟨a, c, h1, h2⟩ := h b hb'
  exact ⟨a, c, bcell_keep hb h1, h2.keep hb⟩
theorem RdBs.graph {w : World} {V : Value} {xs : List MI} (hg : CodeGood xs) (h : RdBs w V (specL xs)) : ∃ g o c, V = .slice (some ⟨g, o, none⟩) (specL xs).length c ∧ GrAt w g o (specL xs).length (nx (specL xs)) ∧ ∀ b m, (specL xs)[b]? = some m → w.cell? ⟨g, o + b * 3, none⟩ = some (.int .i64 m.first) := by
  obtain ⟨ys, h1, h2, h3⟩ := h
  have hp := lds_pos hg
  rcases h2.2 with ⟨e0, _⟩ | ⟨g, o, c, e1, hc⟩
  · omega
  · have hyb : ∀ b m, (specL xs)[b]? = some m → ∃ v, ys[b]? = some (m, v) := fun b m hm => by
      rw [← h1, List.getElem?_map] at hm
      obtain ⟨⟨m', v⟩, q1, q2⟩ := Option.map_eq_some_iff.1 hm
      simp only [] at q2
      subst q2
      exact ⟨v, q1⟩
    refine ⟨g, o, c, e1, fun b hb => ?_, fun b m hm => ?_⟩
    · obtain ⟨v, hv⟩ := hyb b _ (List.getElem?_eq_getElem hb)
      have r := h3 _ (List.mem_of_getElem? hv)
      have e := nx_ints hg (List.getElem?_eq_getElem hb)
      have r' : RdN w v (nx (specL xs) b) := by
        unfold RdN
        rw [nv_flat]
        unfold RdB at r
        simp only [e] at r
        rw [ints_length] at r
        exact r
      obtain ⟨a, cc, ev⟩ := Rd.is_slice r'
      subst ev
      exact ⟨a, cc, Rd.elem bCells_length hc b _ hv 2 _ rfl, r'⟩
    · obtain ⟨v, hv⟩ := hyb b m hm
      have := Rd.elem bCells_length hc b _ hv 0 _ rfl
      rw [Nat.add_zero] at this
      exact this
theorem own_two {w w' : World} {base B : Nat} {s v : Value} {m : Nat} {g n : Nat} {P : Nat → Bool} {bs : List Value} (h : OwB w base g n P) (hg : w.grownBy w' v.ownBlock) (ho : w.ownsRow B 2 1 v m bs) : OwB w' base g n P := own_grown h hg ho (by decide)
end Go.Proofs.Ytdbaghmjomdmbaa
