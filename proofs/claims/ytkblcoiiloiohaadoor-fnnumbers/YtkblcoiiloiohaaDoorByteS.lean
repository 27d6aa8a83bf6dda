/- ByteS: eqByteS, markByteS, heldByteS, toByteS. -/
import Derived.Test.YtkblcoiiloiohaaDoorRows
import Derived.WalkKit
import Derived.ProofKit
import Derived.OpenShut
import Derived.Below
import Derived.Outline
import Derived.WalkLawsBesides
import Derived.Laws.Rows
import Derived.Laws.OwnMore
import Derived.Deep.QuietTactic
import Derived.BigQuiet
namespace Go.Proofs.YtkblcoiiloiohaaDoor
open Go.ChangeShapes Go.WideShapes Go.ChangeAt Go.RowKit
set_option linter.unusedVariables false

/-- The slice s has the n cells xs. -/
def Reads (w : World) (s : Value) (n : Nat) (xs : List Value) : Prop :=
  xs.length = n ∧ ((n = 0 ∧ ∃ a c, s = .slice a 0 c) ∨ ∃ g o c, s = .slice (some ⟨g, o, none⟩) n c ∧ ∀ j u, xs[j]? = some u → w.cell? ⟨g, o + j, none⟩ = some u)
theorem Reads.of_own {w : World} {base : Nat} {e : TypeId} {s : Value} {n : Nat} {xs : List Value} (h : w.ownsRow base e 1 s n xs) : Reads w s n xs := by
  refine ⟨by simpa using h.1, ?_⟩
  rcases h.2 with ⟨rfl, rfl⟩ | ⟨g, cap, cur, rfl, hb, hg, hnc, hcm, hcs, ht⟩
  · exact .inl ⟨rfl, _, _, rfl⟩
  · refine .inr ⟨g, 0, cap, rfl, fun j u hj => ?_⟩
    rw [cell_of_row w g _ cur e _ hg, Nat.zero_add]
    rw [← ht] at hj
    obtain ⟨hlt, hj⟩ := List.getElem?_eq_some_iff.1 hj
    rw [List.getElem_take] at hj
    rw [← hj]
    simp at hlt
    rw [Array.getElem?_eq_getElem (by omega)]
    simp
theorem Reads.keep {w w' : World} {s : Value} {n : Nat} {xs : List Value} (h : Reads w s n xs) (hb : Below w.heap.size w w') : Reads w' s n xs := by
  obtain ⟨hl, h | ⟨g, o, c, rfl, hc⟩⟩ := h
  · exact ⟨hl, .inl h⟩
  · refine ⟨hl, .inr ⟨g, o, c, rfl, fun j u hj => ?_⟩⟩
    have h1 := hc j u hj
    rw [hb.cell (block_lt_of_cell h1)]
    exact h1

theorem below_drewN (B : Nat) (w : World) (nq : Nat) : Below B w (w.drewN nq) := ⟨rfl, rfl, rfl, Nat.le_refl _, fun _ _ => rfl⟩


/-- What mark leaves. -/
def markZ (p : Int) (n : Nat) : List Int := (List.range n).map fun (i : Nat) => (p + (i : Int)) % 256
/-- Marked up to k. -/
def markTo (p : Int) (xs : List Value) (k : Nat) : List Value := ((markZ p k).map (Value.int .u8)) ++ xs.drop k
theorem markTo_zero (p : Int) (xs : List Value) : markTo p xs 0 = xs := by simp [markTo, markZ]
theorem markTo_all (p : Int) (xs : List Value) (n : Nat) (h : xs.length = n) : markTo p xs n = (markZ p n).map (Value.int .u8) := by simp [markTo, ← h]
theorem markTo_set (p : Int) (xs : List Value) (k : Nat) (h : k < xs.length) : (markTo p xs k).set k (.int .u8 ((p + k) % 256)) = markTo p xs (k + 1) := by
  unfold markTo
  rw [List.set_append_right _ _ (by simp [markZ])]
  have e : k - ((markZ p k).map (Value.int .u8)).length = 0 := by simp [markZ]
  rw [e, List.drop_eq_getElem_cons h, List.set_cons_zero]
  simp [markZ, List.range_succ]
theorem markTo_length (p : Int) (xs : List Value) (k : Nat) (h : k ≤ xs.length) : (markTo p xs k).length = xs.length := by simp [markTo, markZ]; omega

end Go.Proofs.YtkblcoiiloiohaaDoor
