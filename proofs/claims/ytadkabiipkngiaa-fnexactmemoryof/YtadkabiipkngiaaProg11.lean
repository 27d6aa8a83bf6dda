/- Prog11: a program that came in: what it reads as. -/
import Derived.Test.YtadkabiipkngiaaProg10
import Derived.Lib.SmallJoins
import Derived.Deep.Slices
namespace Go.Proofs.Ytadkabiipkngiaa
open Go.ChangeShapes Go.WideShapes Go.ChangeAt Go.RowKit
set_option linter.unusedVariables false
section
variable {H : Type} {enc : TypeId × Value → H} {P : Program} {w : World} {spare : Nat → Bool} {held : Bool}
theorem add_at (b off : Nat) (i : Nat) : (⟨b, off, none⟩ : Addr).add i = ⟨b, off + i, none⟩ := by unfold Addr.add; split <;> simp_all
/-- A slice whose elements read each as one of a family. -/
theorem open_rows {α : Type} [Inhabited α] (f : α → List Value) (G : α → Prop) (m : Nat) (hf : ∀ y, (f y).length = m) (h0 : 0 < m) {t e : TypeId} (ht : P.underlying t = some (.slice e)) (hm : P.cellsOf e = m)
    (hel : ∀ fuel cs x, DataW.trod enc P w 0 spare held fuel e cs = some x → ∃ y, cs = f y ∧ G y) {fuel : Nat} {cs : List Value} {x : DataW H × List MemPlace} (h : DataW.trod enc P w 0 spare held fuel t cs = some x) :
    ∃ (s : Value) (ys : List α), cs = [s] ∧ Rd w m s ys.length (ys.flatMap f) ∧ ys.length ≤ maxLen ∧ ∀ y ∈ ys, G y := by
  rcases DataW.trod_slice ht h with ⟨rfl, _⟩ | ⟨a, len, cap, elems, rest, n, _, rfl, _, _, hl, hmx, hlen, hE, _, _⟩
  · exact ⟨_, [], rfl, ⟨by simp, .inl ⟨rfl, _, _, rfl⟩⟩, by simp, fun y hy => by cases hy⟩
  · rw [hm] at hE
    have hy : ∀ i, i < len → ∃ y, w.cells? 0 (a.add (i * m)) m = some (f y) ∧ G y := by
      intro i hi
      have h1 := hE i hi
      rw [List.getElem?_eq_getElem (by omega)] at h1
      obtain ⟨cs', hc, hx⟩ := Option.bind_eq_some_iff.1 h1
      obtain ⟨y, rfl, hg⟩ := hel _ _ _ hx
      exact ⟨y, hc, hg⟩
    obtain ⟨F, hF⟩ := Go.Deep.choose_lt hy
    refine ⟨_, (List.range len).map F, rfl, ⟨?_, ?_⟩, by simp; omega, ?_⟩
    · rw [flat_length f m hf]
    · by_cases hz : len = 0
      · subst hz
        exact .inl ⟨by simp, _, _, rfl⟩
      · obtain ⟨b, off, spot⟩ := a
        have hc0 := (World.cells?_some (hF 0 (by omega)).1).2.2 0 h0
        have hfl : 0 < (f (F 0)).length := by rw [hf]; exact h0
        rw [List.getElem?_eq_getElem hfl] at hc0
        have hspot : spot = none := by simpa [Addr.add] using World.cell?_spot hc0
        subst hspot
        refine .inr ⟨b, off, cap, by simp, fun j u hj => ?_⟩
        have hjl : j < len * m := by
          have := (List.getElem?_eq_some_iff.1 hj).1
          rw [flat_length f m hf] at this
          simpa using this
        have hq : j / m < len := (Nat.div_lt_iff_lt_mul h0).2 hjl
        have hr := Nat.mod_lt j h0
        have ej : j = j / m * m + j % m := by rw [Nat.mul_comm]; exact (Nat.div_add_mod j m).symm
        have hk : ((List.range len).map F)[j / m]? = some (F (j / m)) := by simp [hq]
        have hcell := (World.cells?_some (hF (j / m) hq).1).2.2 (j % m) hr
        have hat := flat_at f m hf _ (j / m) (j % m) _ hk hr
        rw [← ej, hj] at hat
        rw [add_at, add_at, Nat.add_assoc, ← ej] at hcell
        rw [hcell, ← hat]
    · intro y hy'
      obtain ⟨i, hi, rfl⟩ := List.mem_map.1 hy'
      exact (hF i (List.mem_range.1 hi)).2
end
end Go.Proofs.Ytadkabiipkngiaa
