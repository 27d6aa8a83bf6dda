import Derived.Test.YtdbaghmjomdmbaaGreatCo9
import Derived.Test.YtdbaghmjomdmbaaGreatCo28
import Derived.Test.YtdbaghmjomdmbaaGreatCo29
import Derived.Deep.AppendLies
namespace Go.Proofs.YtdbaghmjomdmbaaGreat
open Go.ChangeShapes Go.WideShapes Go.ChangeAt Go.RowKit
set_option linter.unusedVariables false
theorem own_row {w : World} {base : Nat} {e : TypeId} {s : Value} {k n : Nat} {xs : List Value} (h : w.ownsRow base e k s n xs) : (s = .slice none 0 0 ∧ n = 0) ∨ ∃ g c, s = .slice (some ⟨g, 0, none⟩) n c := by
  rcases h.2 with h | ⟨g, cap, cur, rfl, hb, _⟩
  · exact .inl h
  · exact .inr ⟨g, cap, rfl⟩
theorem own_slice {w : World} {base : Nat} {e : TypeId} {s : Value} {k n : Nat} {xs : List Value} (h : w.ownsRow base e k s n xs) : ∃ a c, s = .slice a n c := by
  rcases own_row h with ⟨rfl, rfl⟩ | ⟨g, c, rfl⟩ <;> exact ⟨_, _, rfl⟩
end Go.Proofs.YtdbaghmjomdmbaaGreat
namespace Go.Proofs.YtdbaghmjomdmbaaGreat
open Go.ChangeShapes Go.WideShapes Go.ChangeAt Go.RowKit
set_option linter.unusedVariables false
theorem infoBool : (Tryz.prog.info? 4).map (fun i => (i.zero, i.size, i.bytes)) = some (some (.bool false), 1, 1) := by kernel_rfl
def vlen : Value → Nat
  | .slice _ n _ => n
  | _ => 0
/-- Which functions are done. -/
def doneV (zs : List Int) (n : Nat) : List Value := (List.range n).map fun (i : Nat) => Value.bool (zs.contains (i : Int))
theorem doneV_length (zs : List Int) (n : Nat) : (doneV zs n).length = n := by simp [doneV]
theorem doneV_at (zs : List Int) (n i : Nat) (h : i < n) : (doneV zs n)[i]? = some (.bool (zs.contains (i : Int))) := by simp [doneV, h]
theorem doneV_nil (n : Nat) : List.replicate n (Value.bool false) = doneV [] n := by
  apply List.ext_getElem?
  intro j
  by_cases hj : j < n
  · rw [doneV_at _ _ _ hj]
    simp [hj]
  · rw [List.getElem?_eq_none (by simp; omega), List.getElem?_eq_none (by rw [doneV_length]; omega)]
theorem doneV_set (zs : List Int) (n i : Nat) (h : i < n) : (doneV zs n).set i (.bool true) = doneV (zs ++ [(i : Int)]) n := by
  apply List.ext_getElem?
  intro j
  by_cases hj : j < n
  · rw [doneV_at _ _ _ hj]
    by_cases e : j = i
    · subst e
      rw [List.getElem?_set_self (by rw [doneV_length]; exact h)]
      simp
    · rw [List.getElem?_set_ne (by omega), doneV_at _ _ _ hj]
      have : ¬ (j : Int) = (i : Int) := by omega
      simp [this]
  · rw [List.getElem?_eq_none (by simp [doneV_length]; omega), List.getElem?_eq_none (by rw [doneV_length]; omega)]
/-- The first k instructions call only what is done. -/
def okTo (zs : List Int) (code : List MI) (k : Nat) : Bool := (code.take k).all fun x => !decide (x.op = 28) || zs.contains x.a
theorem ready_eq (fs : List MF) (zs : List Int) (i : Nat) (f : MF) (hf : fs[i]? = some f) : readyB fs zs i = (!zs.contains (i : Int) && okTo zs f.code f.code.length) := by
  unfold readyB okTo callsOf
  rw [hf, List.take_of_length_le (Nat.le_refl _)]
  congr 1
  simp only [List.all_map, List.all_filter, Function.comp_def]
theorem okTo_succ (zs : List Int) (code : List MI) (k : Nat) (x : MI) (hx : code[k]? = some x) : okTo zs code (k + 1) = (okTo zs code k && (!decide (x.op = 28) || zs.contains x.a)) := by
  obtain ⟨hlt, rfl⟩ := List.getElem?_eq_some_iff.1 hx
  unfold okTo
  rw [List.take_succ_eq_append_getElem hlt, List.all_append]
  simp
theorem okTo_false (zs : List Int) (code : List MI) (k : Nat) (h : okTo zs code k = false) : okTo zs code code.length = false := by
  unfold okTo at *
  rw [List.take_of_length_le (Nat.le_refl _)]
  rw [List.all_eq_false] at *
  obtain ⟨x, hx, h2⟩ := h
  exact ⟨x, List.mem_of_mem_take hx, h2⟩
theorem made_boolC (n : Nat) : (madeCells (Value.bool false).cells (n * 1)).toList = List.replicate n (.bool false) := by
  rw [flatTo_zero (fun b : Bool => [Value.bool b]) [.bool false] [] n (.bool false) 1 rfl rfl (by omega)]
  simp [flatTo, List.flatten_replicate_singleton]
theorem bcell_keep {W u : World} (hb : Below W.heap.size W u) {a : Addr} {x : Value} (h : W.cell? a = some x) : u.cell? a = some x := by rw [hb.cell (block_lt_of_cell h)]; exact h
theorem wp_world {P : Program} {c : Code} {Q : Exit → Act → World → Prop} {a : Act} {U : World} (R : World → Prop) (h : R U) (k : ∀ u, R u → Code.wp P c Q a u) : Code.wp P c Q a U := k U h
/-- The rows of the order: what is done, what was told. -/
structure CW (w u : World) (v : VP) (n bd : Nat) (V : Value) (zs : List Int) : Prop where
  pb : At4 u w.heap.size v.r v.k v.f v.t
  done : u.ownsRow w.heap.size 4 1 (.slice (some ⟨bd, 0, none⟩) n n) n (doneV zs n)
  out : u.ownsRow (w.heap.size + 1) 2 1 V zs.length (zs.flatMap intCell)
  bel : Below w.heap.size w u
theorem CW.keep {w u u' : World} {v : VP} {n bd : Nat} {V : Value} {zs : List Int} (h : CW w u v n bd V zs) (hb : Below u.heap.size u u') : CW w u' v n bd V zs := ⟨h.pb.keep hb, own_keep h.done hb (Nat.le_refl _), own_keep h.out hb (Nat.le_refl _), below_on h.bel (Nat.le_refl _) hb⟩
end Go.Proofs.YtdbaghmjomdmbaaGreat
