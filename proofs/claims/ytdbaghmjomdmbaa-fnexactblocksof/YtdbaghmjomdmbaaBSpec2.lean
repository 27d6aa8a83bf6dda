/- BSpec2: spec.BlocksOf: the rows that it makes. -/
import Derived.Test.YtdbaghmjomdmbaaBSpec1
import Derived.Deep.AppendLies
import Derived.Deep.RegionLaw
namespace Go.Proofs.Ytdbaghmjomdmbaa
open Go.ChangeShapes Go.WideShapes Go.ChangeAt Go.RowKit
set_option linter.unusedVariables false
theorem infoBool : (Try.prog.info? 4).map (fun i => (i.zero, i.size, i.bytes)) = some (some (.bool false), 1, 1) := by kernel_rfl
theorem own_grown {w w' : World} {base B : Nat} {e e' : TypeId} {s v : Value} {k k' n m : Nat} {xs bs : List Value} (h : w.ownsRow base e k s n xs) (hg : w.grownBy w' v.ownBlock) (ho : w.ownsRow B e' k' v m bs) (hne : e ≠ e') : w'.ownsRow base e k s n xs := by
  refine ⟨h.1, ?_⟩
  rcases h.2 with h | ⟨g, cap, cur, e1, hb1, hgg, hr⟩
  · exact .inl h
  · refine .inr ⟨g, cap, cur, e1, hb1, ?_, hr⟩
    rw [hg.block g (Array.getElem?_eq_some_iff.1 hgg).1 ?_]
    · exact hgg
    · intro hv
      rcases ho.2 with ⟨rfl, _⟩ | ⟨g', cap', cur', rfl, _, hg', _⟩
      · cases hv
      · simp only [Value.ownBlock, Option.some.injEq] at hv
        subst hv
        rw [hgg] at hg'
        simp only [Option.some.injEq, Obj.cells.injEq] at hg'
        exact hne hg'.2.1
/-- Which instructions lead, by the first k of them. -/
def leadV (xs : List MI) (k n : Nat) : List Value := (List.range (n + 1)).map fun j => Value.bool (leadB xs k j)
theorem leadV_length (xs : List MI) (k n : Nat) : (leadV xs k n).length = n + 1 := by simp [leadV]
theorem leadV_at (xs : List MI) (k n j : Nat) (hj : j ≤ n) : (leadV xs k n)[j]? = some (.bool (leadB xs k j)) := by simp [leadV, show j < n + 1 by omega]
theorem leadV_zero (xs : List MI) (n : Nat) : (List.replicate (n + 1) (Value.bool false)).set 0 (.bool true) = leadV xs 0 n := by
  apply List.ext_getElem?
  intro j
  by_cases hj : j < n + 1
  · rw [leadV_at _ _ _ _ (by omega), leadB_start]
    by_cases h0 : j = 0
    · subst h0
      simp
    · rw [List.getElem?_set_ne (by omega)]
      simp [h0, hj]
  · rw [List.getElem?_eq_none (by simp; omega), List.getElem?_eq_none (by simp [leadV]; omega)]
theorem leadV_set (xs : List MI) (k n c : Nat) (hc : c ≤ n) (P : Nat → Bool) (h : ∀ j, P j = (leadB xs k j || decide (j = c))) : (leadV xs k n).set c (.bool true) = (List.range (n + 1)).map fun j => Value.bool (P j) := by
  apply List.ext_getElem?
  intro j
  by_cases hj : j < n + 1
  · by_cases h0 : j = c
    · subst h0
      rw [List.getElem?_set_self (by rw [leadV_length]; omega)]
      simp [hj, h]
    · rw [List.getElem?_set_ne (by omega), leadV_at _ _ _ _ (by omega)]
      simp [hj, h, h0]
  · rw [List.getElem?_eq_none (by simp [leadV]; omega), List.getElem?_eq_none (by simp; omega)]
theorem leadV_set2 (P : Nat → Bool) (n c : Nat) (hc : c ≤ n) (Q : Nat → Bool) (h : ∀ j, Q j = (P j || decide (j = c))) : ((List.range (n + 1)).map fun j => Value.bool (P j)).set c (.bool true) = (List.range (n + 1)).map fun j => Value.bool (Q j) := by
  apply List.ext_getElem?
  intro j
  by_cases hj : j < n + 1
  · by_cases h0 : j = c
    · subst h0
      rw [List.getElem?_set_self (by simp; omega)]
      simp [hj, h]
    · rw [List.getElem?_set_ne (by omega)]
      simp [hj, h, h0]
  · rw [List.getElem?_eq_none (by simp; omega), List.getElem?_eq_none (by simp; omega)]
theorem lead_goes (xs : List MI) (k n c : Nat) (x : MI) (hx : xs[k]? = some x) (hg : goesB x = true) (hc : x.c = (c : Int)) (hcn : c ≤ n) (hk : k + 1 ≤ n) : ((leadV xs k n).set c (.bool true)).set (k + 1) (.bool true) = leadV xs (k + 1) n := by
  rw [leadV_set xs k n c hcn (fun j => leadB xs k j || decide (j = c)) (fun j => rfl)]
  refine (leadV_set2 _ n (k + 1) hk (fun j => leadB xs (k + 1) j) (fun j => ?_)).trans rfl
  rw [leadB_succ xs k j x hx]
  have e : decide ((c : Int) = (j : Int)) = decide (j = c) := by
    by_cases h : j = c
    · simp [h]
    · have : ¬ (c : Int) = (j : Int) := by omega
      simp [h, this]
  simp [leads, hg, hc, e, Bool.or_assoc]
theorem lead_ret (xs : List MI) (k n : Nat) (x : MI) (hx : xs[k]? = some x) (hg : goesB x = false) (hr : x.op = 29) (hk : k + 1 ≤ n) : (leadV xs k n).set (k + 1) (.bool true) = leadV xs (k + 1) n := by
  rw [leadV_set xs k n (k + 1) hk (fun j => leadB xs (k + 1) j) (fun j => ?_)]
  · rfl
  · rw [leadB_succ xs k j x hx]
    simp [leads, hg, hr]
theorem lead_none (xs : List MI) (k n : Nat) (x : MI) (hx : xs[k]? = some x) (hg : goesB x = false) (hr : ¬ x.op = 29) : leadV xs k n = leadV xs (k + 1) n := by
  unfold leadV
  congr 1
  funext j
  rw [leadB_succ xs k j x hx]
  simp [leads, hg, hr]
def numC (xs : List MI) (j : Nat) : List Value := intCell (numAt xs j)
theorem numC_length (xs : List MI) (j : Nat) : (numC xs j).length = 1 := rfl
/-- A block whose Next is not there yet. -/
def bc0 (m : MB) : List Value := [.int .i64 m.first, .int .i64 m.last, .slice none 0 0]
theorem bc0_length (m : MB) : (bc0 m).length = 3 := rfl
theorem bc0_set (bs : List MB) (b : MB) (i : Int) : ((bs ++ [b]).flatMap bc0).set (bs.length * 3 + 1) (.int .i64 i) = (bs ++ [(⟨b.first, i, b.next⟩ : MB)]).flatMap bc0 := by
  have hA : (bs.flatMap bc0).length = bs.length * 3 := flat_length bc0 3 bc0_length bs
  simp only [List.flatMap_append, List.flatMap_cons, List.flatMap_nil, List.append_nil]
  rw [List.set_append_right _ _ (by omega), hA]
  simp [bc0]
theorem last_nat (xs : List MI) (n : Nat) (h : 1 ≤ n) (m : MB) (hm : m ∈ outL xs n) : ∃ e : Nat, m.last = (e : Int) ∧ e < n := by
  rw [outL_build] at hm
  unfold build at hm
  obtain ⟨i, hi⟩ := List.getElem?_of_mem hm
  rw [List.getElem?_zipWith] at hi
  cases h1 : (lds xs n)[i]? with
  | none => rw [h1] at hi; simp at hi
  | some a =>
    cases h2 : ((lds xs n).tail ++ [n])[i]? with
    | none => rw [h1, h2] at hi; simp at hi
    | some q =>
      rw [h1, h2] at hi
      simp only [Option.some.injEq] at hi
      subst hi
      have hq : 1 ≤ q ∧ q ≤ n := by
        rcases List.mem_append.1 (List.mem_of_getElem? h2) with h3 | h3
        · have hs := lds_sorted xs n
          have hlt := ((lds_mem xs n q).1 (List.mem_of_mem_tail h3)).1
          cases hL : lds xs n with
          | nil => rw [hL] at h3; cases h3
          | cons y r =>
            rw [hL] at hs h3
            have := (List.pairwise_cons.1 hs).1 q h3
            omega
        · simp at h3
          omega
      exact ⟨q - 1, by simp only []; omega, by omega⟩
end Go.Proofs.Ytdbaghmjomdmbaa
