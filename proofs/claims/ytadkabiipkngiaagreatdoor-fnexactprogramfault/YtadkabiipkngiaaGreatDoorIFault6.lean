/- IFault6: what impl's tests say, as the specification's. -/
import Derived.Test.YtadkabiipkngiaaGreatDoorIFault5
namespace Go.Proofs.YtadkabiipkngiaaGreatDoor
open Go.ChangeShapes Go.WideShapes Go.ChangeAt Go.RowKit
set_option linter.unusedVariables false
theorem isT_ne {t : Int} (h : isT t = true) : ¬ t = 0 := by
  unfold isT at h
  simp at h
  omega
theorem all_at {xs : List Int} (h : xs.all isT = true) {k : Nat} {x : Int} (hk : xs[k]? = some x) : isT x = true := List.all_eq_true.1 h x (List.mem_of_getElem? hk)
theorem hasLocal_iff {f : MF} (hf : FuncOk f) (n : Int) : HasLocal f n ↔ ¬ localOf f n = 0 := by
  constructor
  · rintro ⟨h0, h1⟩
    obtain ⟨k, rfl⟩ := Int.eq_ofNat_of_zero_le h0
    by_cases q : k < f.params.length
    · rw [localOf_par (List.getElem?_eq_getElem q)]
      exact isT_ne (all_at hf.pt (List.getElem?_eq_getElem q))
    · have q2 : k - f.params.length < f.locals.length := by omega
      have e := localOf_loc (f := f) (List.getElem?_eq_getElem q2)
      have ej : ((f.params.length : Int) + ((k - f.params.length : Nat) : Int)) = (k : Int) := by omega
      rw [ej] at e
      rw [e]
      exact isT_ne (all_at hf.lt (List.getElem?_eq_getElem q2))
  · intro h
    by_cases q0 : n < 0
    · exact absurd (localOf_neg q0) h
    by_cases q1 : (f.params.length : Int) + f.locals.length ≤ n
    · exact absurd (localOf_out q1) h
    · exact ⟨by omega, by omega⟩
/-- A cell that is there, by its list. -/
theorem cellOf_some {p : MP} {a b : Nat} {l : List Int} (h3 : p.regions.length = 3) (hl : p.regions[a]? = some l) : cellOf p a b = l.getD b 0 := cellOf_in (by have := (List.getElem?_eq_some_iff.1 hl).1; omega) hl
theorem cellOf_iff {p : MP} (hp : RegionsOk p.regions) (a b : Int) : ¬ cellOf p a b = 0 ↔ ∃ l, 0 ≤ a ∧ p.regions[a.toNat]? = some l ∧ 0 ≤ b ∧ b < (l.length : Int) := by
  constructor
  · intro h
    have hq : ¬ (a < 0 ∨ 2 < a ∨ b < 0) := fun e => h (cellOf_bad e)
    obtain ⟨i, rfl⟩ := Int.eq_ofNat_of_zero_le (show 0 ≤ a by omega)
    obtain ⟨j, rfl⟩ := Int.eq_ofNat_of_zero_le (show 0 ≤ b by omega)
    have hi : i < p.regions.length := by have := hp.1; omega
    rw [cellOf_some hp.1 (List.getElem?_eq_getElem hi)] at h
    refine ⟨p.regions[i], by omega, by rw [Int.toNat_natCast]; exact List.getElem?_eq_getElem hi, by omega, ?_⟩
    by_cases hj : j < p.regions[i].length
    · omega
    · exact absurd (by rw [List.getD_eq_getElem?_getD, List.getElem?_eq_none (by omega)]; rfl) h
  · rintro ⟨l, h0, hl, h1, h2⟩
    obtain ⟨i, rfl⟩ := Int.eq_ofNat_of_zero_le h0
    obtain ⟨j, rfl⟩ := Int.eq_ofNat_of_zero_le h1
    rw [Int.toNat_natCast] at hl
    rw [cellOf_some hp.1 hl]
    have hj : j < l.length := by omega
    have e : l.getD j 0 = l[j] := by rw [List.getD_eq_getElem?_getD, List.getElem?_eq_getElem hj]; rfl
    rw [e]
    have hr := hp.2 i (List.getElem?_eq_some_iff.1 hl).1 l hl
    exact isT_ne (all_at hr.2 (List.getElem?_eq_getElem hj))
theorem cellHolds_iff {p : MP} (hp : RegionsOk p.regions) (op a b : Int) (ho : op = 4 ∨ op = 5 ∨ op = 6 ∨ op = 7) : CellHolds p op a b ↔ ¬ cellOf p a b = 0 ∧ ((op = 4 ∨ op = 6) ∨ ¬ a = 0) := by
  rw [cellOf_iff hp]
  constructor
  · rintro ⟨l, h1, h2, h3, h4, h5⟩
    refine ⟨⟨l, h1, h2, h3, h4⟩, ?_⟩
    by_cases q : a = 0
    · left
      by_cases q5 : op = 5 ∨ op = 7
      · exact absurd ⟨q5, q⟩ h5
      · omega
    · exact .inr q
  · rintro ⟨⟨l, h1, h2, h3, h4⟩, h5⟩
    exact ⟨l, h1, h2, h3, h4, fun ⟨e1, e2⟩ => by omega⟩
theorem maskIn_iff {p : MP} (hp : RegionsOk p.regions) {a b : Nat} {l : List Int} (hl : p.regions[a]? = some l) (hb : b < l.length) (c : Int) : MaskIn (l.drop b) c ↔ MaskOk p a b c := by
  have hr := hp.2 a (List.getElem?_eq_some_iff.1 hl).1 l hl
  have cell : ∀ j : Nat, cellOf p (a : Int) ((b : Int) + (j : Int)) = l.getD (b + j) 0 := fun j => by
    have := cellOf_some (b := b + j) hp.1 hl
    rw [Int.natCast_add] at this
    exact this
  have cell0 : cellOf p (a : Int) (b : Int) = l.getD b 0 := cellOf_some hp.1 hl
  have dr : ∀ j : Nat, (l.drop b)[j]? = l[b + j]? := fun j => by rw [List.getElem?_drop]
  constructor
  · intro h
    have hh := h.high
    rw [List.length_drop] at hh
    have h0 := h.low
    have hlen := hr.1
    refine ⟨h.low, by omega, h.mask, ?_, fun j hj => ?_⟩
    · rw [cellOf_iff hp]
      exact ⟨l, by omega, by rw [Int.toNat_natCast]; exact hl, by omega, by omega⟩
    · have := h.one j hj
      rw [dr, dr] at this
      rw [cell, cell0, List.getD_eq_getElem?_getD, List.getD_eq_getElem?_getD, this]
      rfl
  · intro h
    have key : ∀ j : Nat, (j : Int) ≤ c → b + j < l.length := fun j hj => by
      have e := h.one j hj
      have hne := h.there
      rw [← e, cell] at hne
      by_cases q : b + j < l.length
      · exact q
      · exact absurd (by rw [List.getD_eq_getElem?_getD, List.getElem?_eq_none (by omega)]; rfl) hne
    obtain ⟨k, rfl⟩ := Int.eq_ofNat_of_zero_le h.low
    have hk := key k (by omega)
    refine ⟨h.low, by rw [List.length_drop]; omega, h.mask, fun j hj => ?_⟩
    have hj' := key j hj
    have e := h.one j hj
    rw [cell, cell0, List.getD_eq_getElem?_getD, List.getD_eq_getElem?_getD, List.getElem?_eq_getElem hj', List.getElem?_eq_getElem hb] at e
    rw [dr, dr, Nat.add_zero, List.getElem?_eq_getElem hj', List.getElem?_eq_getElem hb]
    simpa using e
end Go.Proofs.YtadkabiipkngiaaGreatDoor
