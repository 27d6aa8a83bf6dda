import Derived.Test.YtdbaghmjomdmbaaFo10
import Derived.Deep.AppendLies
import Derived.Deep.RegionLaw
namespace Go.Proofs.Ytdbaghmjomdmbaa
open Go.ChangeShapes Go.WideShapes Go.ChangeAt Go.RowKit
set_option linter.unusedVariables false
theorem infoBool : (Try.prog.info? 4).map (fun i => (i.zero, i.size, i.bytes)) = some (some (.bool false), 1, 1) := by kernel_rfl
theorem own_grown {w w' : World} {base B : Nat} {e e' : TypeId} {s v : Value} {k k' n m : Nat} {xs bs : List Value} (h : w.ownsRow base e k s n xs) (hg : w.grownBy w' v.ownBlock) (ho : w.ownsRow B e' k' v m bs) (hne : e ≠ e') : w'.ownsRow base e k s n xs := by
  refine ⟨h.1, ?_⟩
  rcases h.2 with h | ⟨g, cap, cur, e1, hb1, hgg, hr⟩
  · exact .inl h
  · refine .inr ⟨g, cap, cur, e1, hb1, ?_, hr⟩
    rw [hg.block g (Array.getElem?_eq_some_iff.1 hgg).1 ?_]
    · exact hgg
    · intro hv
      rcases ho.2 with ⟨rfl, _⟩ | ⟨g', cap', cur', rfl, _, hg', _⟩
      · cases hv
      · simp only [Value.ownBlock, Option.some.injEq] at hv
        subst hv
        rw [hgg] at hg'
        simp only [Option.some.injEq, Obj.cells.injEq] at hg'
        exact hne hg'.2.1
/-- Which instructions lead, by the first k of them. -/
def leadV (xs : List MI) (k n : Nat) : List Value := (List.range (n + 1)).map fun j => Value.bool (leadB xs k j)
theorem leadV_length (xs : List MI) (k n : Nat) : (leadV xs k n).length = n + 1 := by simp [leadV]
theorem leadV_at (xs : List MI) (k n j : Nat) (hj : j ≤ n) : (leadV xs k n)[j]? = some (.bool (leadB xs k j)) := by simp [leadV, show j < n + 1 by omega]
theorem leadV_zero (xs : List MI) (n : Nat) : (List.replicate (n + 1) (Value.bool false)).set 0 (.bool true) = leadV xs 0 n := by
  apply List.ext_getElem?
  intro j
  by_cases hj : j < n + 1
  · rw [leadV_at _ _ _ _ (by omega), leadB_start]
    by_cases h0 : j = 0
    · subst h0
      simp
    · rw [List.getElem?_set_ne (by omega)]
      simp [h0, hj]
  · rw [List.getElem?_eq_none (by simp; omega), List.getElem?_eq_none (by simp [leadV]; omega)]
theorem leadV_set (xs : List MI) (k n c : Nat) (hc : c ≤ n) (P : Nat → Bool) (h : ∀ j, P j = (leadB xs k j || decide (j = c))) : (leadV xs k n).set c (.bool true) = (List.range (n + 1)).map fun j => Value.bool (P j) := by
  apply List.ext_getElem?
  intro j
  by_cases hj : j < n + 1
  · by_cases h0 : j = c
    · subst h0
      rw [List.getElem?_set_self (by rw [leadV_length]; omega)]
      simp [hj, h]
    · rw [List.getElem?_set_ne (by omega), leadV_at _ _ _ _ (by omega)]
      simp [hj, h, h0]
  · rw [List.getElem?_eq_none (by simp [leadV]; omega), List.getElem?_eq_none (by simp; omega)]
theorem leadV_set2 (P : Nat → Bool) (n c : Nat) (hc : c ≤ n) (Q : Nat → Bool) (h : ∀ j, Q j = (P j || decide (j = c))) : ((List.range (n + 1)).map fun j => Value.bool (P j)).set c (.bool true) = (List.range (n + 1)).map fun j => Value.bool (Q j) := by
  apply List.ext_getElem?
  intro j
  by_cases hj : j < n + 1
  · by_cases h0 : j = c
    · subst h0
      rw [List.getElem?_set_self (by simp; omega)]
      simp [hj, h]
    · rw [List.getElem?_set_ne (by omega)]
      simp [hj, h, h0]
  · rw [List.getElem?_eq_none (by simp; omega), List.getElem?_eq_none (by simp; omega)]
theorem lead_goes (xs : List MI) (k n c : Nat) (x : MI) (hx : xs[k]? = some x) (hg : goesB x = true) (hc : x.c = (c : Int)) (hcn : c ≤ n) (hk : k + 1 ≤ n) : ((leadV xs k n).set c (.bool true)).set (k + 1) (.bool true) = leadV xs (k + 1) n := by
  rw [leadV_set xs k n c hcn (fun j => leadB xs k j || decide (j = c)) (fun j => rfl)]
  refine (leadV_set2 _ n (k + 1) hk (fun j => leadB xs (k + 1) j) (fun j => ?_)).trans rfl
  rw [leadB_succ xs k j x hx]
  have e : decide ((c : Int) = (j : Int)) = decide (j = c) := by
    by_cases h : j = c
    · simp [h]
    · have : ¬ (c : Int) = (j : Int) := by omega
      simp [h, this]
  simp [leads, hg, hc, e, Bool.or_assoc]
theorem lead_ret (xs : List MI) (k n : Nat) (x : MI) (hx : xs[k]? = some x) (hg : goesB x = false) (hr : x.op = 29) (hk : k + 1 ≤ n) : (leadV xs k n).set (k + 1) (.bool true) = leadV xs (k + 1) n := by
  rw [leadV_set xs k n (k + 1) hk (fun j => leadB xs (k + 1) j) (fun j => ?_)]
  · rfl
  · rw [leadB_succ xs k j x hx]
    simp [leads, hg, hr]
theorem lead_none (xs : List MI) (k n : Nat) (x : MI) (hx : xs[k]? = some x) (hg : goesB x = false) (hr : ¬ x.op = 29) : leadV xs k n = leadV xs (k + 1) n := by
  unfold leadV
  congr 1
  funext j
  rw [leadB_succ xs k j x hx]
  simp [leads, hg, hr]
def numC (xs : List MI) (j : Nat) : List Value := intCell (numAt xs j)
theorem numC_length (xs : List MI) (j : Nat) : (numC xs j).length = 1 := rfl
/-- A block whose Next is not there yet. -/
def bc0 (m : MB) : List Value := [.int .i64 m.first, .int .i64 m.last, .slice none 0 0]
theorem bc0_length (m : MB) : (bc0 m).length = 3 := rfl
theorem bc0_set (bs : List MB) (b : MB) (i : Int) : ((bs ++ [b]).flatMap bc0).set (bs.length * 3 + 1) (.int .i64 i) = (bs ++ [(⟨b.first, i, b.next⟩ : MB)]).flatMap bc0 := by
  have hA : (bs.flatMap bc0).length = bs.length * 3 := flat_length bc0 3 bc0_length bs
  simp only [List.flatMap_append, List.flatMap_cons, List.flatMap_nil, List.append_nil]
  rw [List.set_append_right _ _ (by omega), hA]
  simp [bc0]
theorem last_nat (xs : List MI) (n : Nat) (h : 1 ≤ n) (m : MB) (hm : m ∈ outL xs n) : ∃ e : Nat, m.last = (e : Int) ∧ e < n := by
  rw [outL_build] at hm
  unfold build at hm
  obtain ⟨i, hi⟩ := List.getElem?_of_mem hm
  rw [List.getElem?_zipWith] at hi
  cases h1 : (lds xs n)[i]? with
  | none => rw [h1] at hi; simp at hi
  | some a =>
    cases h2 : ((lds xs n).tail ++ [n])[i]? with
    | none => rw [h1, h2] at hi; simp at hi
    | some q =>
      rw [h1, h2] at hi
      simp only [Option.some.injEq] at hi
      subst hi
      have hq : 1 ≤ q ∧ q ≤ n := by
        rcases List.mem_append.1 (List.mem_of_getElem? h2) with h3 | h3
        · have hs := lds_sorted xs n
          have hlt := ((lds_mem xs n q).1 (List.mem_of_mem_tail h3)).1
          cases hL : lds xs n with
          | nil => rw [hL] at h3; cases h3
          | cons y r =>
            rw [hL] at hs h3
            have := (List.pairwise_cons.1 hs).1 q h3
            omega
        · simp at h3
          omega
      exact ⟨q - 1, by simp only []; omega, by omega⟩
end Go.Proofs.Ytdbaghmjomdmbaa
namespace Go.Proofs.Ytdbaghmjomdmbaa
open Go.ChangeShapes Go.WideShapes Go.ChangeAt Go.RowKit
set_option linter.unusedVariables false
def bcell (b : Bool) : List Value := [.bool b]
/-- The rows, in the second loop. -/
structure SW (w u : World) (xs : List MI) (n k q : Nat) (V : Value) : Prop where
  lead : u.ownsRow w.heap.size 4 1 (.slice (some ⟨w.heap.size + 1, 0, none⟩) (n + 1) (n + 1)) (n + 1) (leadV xs n n)
  num : u.ownsRow w.heap.size 2 1 (.slice (some ⟨q, 0, none⟩) n n) n (flatTo (numC xs) [.int .i64 0] (List.range n) k n)
  out : u.ownsRow w.heap.size 46 3 V (outL xs k).length ((outL xs k).flatMap bc0)
  bel : Below w.heap.size w u
theorem row_ne {u : World} {B B' g g' k k' n n' c c' : Nat} {e e' : TypeId} {xs ys : List Value} (h : u.ownsRow B e k (.slice (some ⟨g, 0, none⟩) n c) n xs) (h' : u.ownsRow B' e' k' (.slice (some ⟨g', 0, none⟩) n' c') n' ys) (hne : e ≠ e') : ¬ g = g' := fun eq => by
  subst eq
  obtain ⟨_, cur, h1⟩ := own_blk h
  obtain ⟨_, cur', h2⟩ := own_blk h'
  rw [h1] at h2
  simp only [Option.some.injEq, Obj.cells.injEq] at h2
  exact hne h2.2.1
theorem own_set_ne {u : World} {B B' g k k' n n' c : Nat} {e e' : TypeId} {s : Value} {xs ys : List Value} (h : u.ownsRow B e k s n xs) (h' : u.ownsRow B' e' k' (.slice (some ⟨g, 0, none⟩) n' c) n' ys) (hne : e ≠ e') (i : Nat) (z : Value) : (u.setCell ⟨g, i, none⟩ z).ownsRow B e k s n xs := by
  obtain ⟨_, cur, h1⟩ := own_blk h'
  exact ownsRow_setCell_other h (a := ⟨g, i, none⟩) (fun q => type_apart h h1 hne _ q rfl) z
theorem SW.fin {w u : World} {xs : List MI} {n k q gg cap : Nat} {bs : List MB} {b : MB} (hk : k < n) (h1 : u.ownsRow w.heap.size 4 1 (.slice (some ⟨w.heap.size + 1, 0, none⟩) (n + 1) (n + 1)) (n + 1) (leadV xs n n)) (h2 : u.ownsRow w.heap.size 2 1 (.slice (some ⟨q, 0, none⟩) n n) n (flatTo (numC xs) [.int .i64 0] (List.range n) k n)) (h3 : u.ownsRow w.heap.size 46 3 (.slice (some ⟨gg, 0, none⟩) (bs.length + 1) cap) (bs.length + 1) ((bs ++ [b]).flatMap bc0)) (h4 : Below w.heap.size w u) (ho : outL xs (k + 1) = bs ++ [(⟨b.first, (k : Int), b.next⟩ : MB)]) (hm : numAt xs k = (bs.length : Int)) :
    SW w ((u.setCell ⟨q, k, none⟩ (.int .i64 bs.length)).setCell ⟨gg, bs.length * 3 + 1, none⟩ (.int .i64 k)) xs n (k + 1) q (.slice (some ⟨gg, 0, none⟩) (bs.length + 1) cap) := by
  have hq : w.heap.size ≤ q := (own_blk h2).1
  have hg : w.heap.size ≤ gg := (own_blk h3).1
  have g1 := own_set_ne h1 h2 (by decide) k (.int .i64 bs.length)
  have g3 := own_set_ne h3 h2 (by decide) k (.int .i64 bs.length)
  have g2 := (h2.stored k (.int .i64 bs.length)).1
  have e2 : (flatTo (numC xs) [.int .i64 0] (List.range n) k n).set k (.int .i64 bs.length) = flatTo (numC xs) [.int .i64 0] (List.range n) (k + 1) n := by
    rw [flatTo_parts _ _ _ _ _ hk, set1 _ _ _ _ k (by rw [flat_length (numC xs) 1 (numC_length xs), List.length_take, List.length_range]; omega), flatTo_next (numC xs) _ _ k n k (by simp [hk])]
    simp [numC, intCell, hm]
  rw [e2] at g2
  refine ⟨own_set_ne g1 g3 (by decide) _ _, own_set_ne g2 g3 (by decide) _ _, ?_, (h4.setCell hq _).setCell hg _⟩
  have g4 := (g3.stored (bs.length * 3 + 1) (.int .i64 k)).1
  rw [bc0_set] at g4
  rw [ho, List.length_append, List.length_singleton]
  exact g4
theorem begSW {w wr w3 : World} {xs : List MI} {k j q gg cap : Nat} {v : Value} (h : SW w wr xs k j q v) (ho : outL xs (j + 1) = outL xs j ++ [(⟨(j : Int), (j : Int), []⟩ : MB)]) (hm : numAt xs j = ((outL xs j).length : Int)) (hj : j < k) (hown : w3.ownsRow w.heap.size 46 3 (.slice (some ⟨gg, 0, none⟩) ((outL xs j).length + 1) cap) ((outL xs j).length + 1) ((outL xs j).flatMap bc0 ++ [.int .i64 j, .int .i64 0, .slice none 0 0])) (hg : (wr.alloc (.cells #[.int .i64 j, .int .i64 0, .slice none 0 0] 46)).grownBy w3 v.ownBlock) :
    Hid (SW w ((w3.setCell ⟨q, j, none⟩ (.int .i64 (outL xs j).length)).setCell ⟨gg, (outL xs j).length * 3 + 1, none⟩ (.int .i64 j)) xs k (j + 1) q (.slice (some ⟨gg, 0, none⟩) ((outL xs j).length + 1) cap)) ∧ ¬ gg = q ∧ ¬ q = gg ∧ w3.cell? ⟨q, j, none⟩ = some (.int .i64 0) ∧ w3.frozen? ⟨q, j, none⟩ = false ∧ w3.cell? ⟨gg, (outL xs j).length * 3 + 1, none⟩ = some (.int .i64 0) ∧ w3.frozen? ⟨gg, (outL xs j).length * 3 + 1, none⟩ = false := by
  have bA := below_alloc wr (.cells #[.int .i64 j, .int .i64 0, .slice none 0 0] 46)
  have r3 := own_keep h.out bA (Nat.le_refl _)
  have r1 := own_grown (own_keep h.lead bA (Nat.le_refl _)) hg r3 (by decide)
  have r2 := own_grown (own_keep h.num bA (Nat.le_refl _)) hg r3 (by decide)
  have bel := (below_on h.bel (Nat.le_refl _) bA).grown hg (Nat.le_trans h.bel.size bA.size) (fun i hi => (r3.lt i hi).1)
  have hne := row_ne hown r2 (by decide)
  have n0 := r2.cellAt j (by omega)
  have o0 := hown.cellAt ((outL xs j).length * 3 + 1) (by omega)
  rw [flatTo_parts _ _ _ _ _ hj, List.getElem?_append_right (by rw [flat_length (numC xs) 1 (numC_length xs), List.length_take, List.length_range]; omega), show j - (List.flatMap (numC xs) (List.take j (List.range k))).length = 0 by rw [flat_length (numC xs) 1 (numC_length xs), List.length_take, List.length_range]; omega] at n0
  simp only [List.cons_append, List.getElem?_cons_zero] at n0
  rw [List.getElem?_append_right (by rw [flat_length bc0 3 bc0_length]; omega), show (outL xs j).length * 3 + 1 - (List.flatMap bc0 (outL xs j)).length = 1 by rw [flat_length bc0 3 bc0_length]; omega] at o0
  simp only [List.getElem?_cons_succ, List.getElem?_cons_zero] at o0
  refine ⟨SW.fin (b := ⟨(j : Int), 0, []⟩) hj r1 r2 (by rw [List.flatMap_append]; exact hown) bel ho hm, hne, fun e => hne e.symm, n0, r2.frozenAt j, o0, hown.frozenAt _⟩
theorem made_bool (n : Nat) : (madeCells (Value.bool false).cells (n * 1)).toList = List.replicate n (.bool false) := by
  rw [flatTo_zero bcell [.bool false] [] n (.bool false) 1 rfl rfl (by omega)]
  simp [flatTo, List.flatten_replicate_singleton]
theorem made_int (n : Nat) (f : Nat → List Value) (ys : List Nat) : (madeCells (Value.int .i64 0).cells (n * 1)).toList = flatTo f [.int .i64 0] ys 0 n := by
  rw [flatTo_zero f [.int .i64 0] ys n (.int .i64 0) 1 rfl rfl (by omega)]
/-- The rows, in the first loop. -/
structure SV (w u : World) (xs : List MI) (n k : Nat) : Prop where
  lead : u.ownsRow w.heap.size 4 1 (.slice (some ⟨w.heap.size + 1, 0, none⟩) (n + 1) (n + 1)) (n + 1) (leadV xs k n)
  out : Blk u w.heap.size #[] 46
  bel : Below w.heap.size w u
theorem SV.set {w u : World} {xs : List MI} {n k k' : Nat} (h : SV w u xs n k) (j : Nat) (hl : (leadV xs k n).set j (.bool true) = leadV xs k' n) : SV w (u.setCell ⟨w.heap.size + 1, j, none⟩ (.bool true)) xs n k' := by
  refine ⟨?_, h.out.other (by simp only []; omega) _, h.bel.setCell (by simp only []; omega) _⟩
  have := (h.lead.stored j (.bool true)).1
  rw [hl] at this
  exact this
theorem SV.set2 {w u : World} {xs : List MI} {n k k' : Nat} (h : SV w u xs n k) (j j' : Nat) (hl : ((leadV xs k n).set j (.bool true)).set j' (.bool true) = leadV xs k' n) : SV w ((u.setCell ⟨w.heap.size + 1, j, none⟩ (.bool true)).setCell ⟨w.heap.size + 1, j', none⟩ (.bool true)) xs n k' := by
  refine ⟨?_, (h.out.other (by simp only []; omega) _).other (by simp only []; omega) _, (h.bel.setCell (by simp only []; omega) _).setCell (by simp only []; omega) _⟩
  have := ((h.lead.stored j (.bool true)).1.stored j' (.bool true)).1
  rw [hl] at this
  exact this
end Go.Proofs.Ytdbaghmjomdmbaa
