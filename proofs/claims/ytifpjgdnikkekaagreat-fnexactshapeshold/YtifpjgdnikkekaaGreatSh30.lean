import Derived.Test.YtifpjgdnikkekaaGreatSh28
import Derived.Test.YtifpjgdnikkekaaGreatSh6
import Derived.Deep.AppendLies
import Derived.Deep.RegionLaw
namespace Go.Proofs.YtifpjgdnikkekaaGreat
open Go.ChangeShapes Go.WideShapes Go.ChangeAt Go.RowKit
set_option linter.unusedVariables false
set_option maxHeartbeats 1000000 in
theorem l5Goes_any (x : MI) (w : World) : Calls Tryz.prog 48 #[.int .i64 x.op] w fun e w' => e = .returned (.bool (goesB x)) ∧ w' = w := by
  by_cases h1 : x.op = 25
  · have e : goesB x = true := by simp [goesB, h1]
    rw [e, h1]
    go_enter Tryz.func48, Tryz.ntmps48
    go_wp2
    go_ret
    exact ⟨rfl, rfl⟩
  · by_cases h2 : x.op = 26
    · have e : goesB x = true := by simp [goesB, h2]
      rw [e, h2]
      go_enter Tryz.func48, Tryz.ntmps48
      go_wp2
      go_ret
      exact ⟨rfl, rfl⟩
    · by_cases h3 : x.op = 27
      · have e : goesB x = true := by simp [goesB, h3]
        rw [e, h3]
        go_enter Tryz.func48, Tryz.ntmps48
        go_wp2
        go_ret
        exact ⟨rfl, rfl⟩
      · have e : goesB x = false := by simp [goesB, h1, h2, h3]
        have q1 : (x.op == 25) = false := by simpa using h1
        have q2 : (x.op == 26) = false := by simpa using h2
        have q3 : (x.op == 27) = false := by simpa using h3
        rw [e]
        generalize x.op = op at h1 h2 h3 q1 q2 q3
        go_enter Tryz.func48, Tryz.ntmps48
        go_wp2
        go_ret
        exact ⟨rfl, rfl⟩
set_option maxHeartbeats 2000000 in
set_option maxRecDepth 100000 in
theorem l5Good_any (s : Value) (xs : List MI) (w : World) (hn : xs.length ≤ 1048576) (h : Rd w 4 s xs.length (xs.flatMap MI.cells)) :
    Calls Tryz.prog 102 #[s] w fun e w' => SaysIff e (CodeGood xs) ∧ w' = w := by
  have H : Hid (Rd w 4 s xs.length (xs.flatMap MI.cells)) := h
  obtain ⟨a1, c1, rfl⟩ := h.is_slice
  clear h
  generalize hLL : xs.length = n at hn H
  have HL : Hid (xs.length = n) := hLL
  clear hLL
  by_cases q0 : n < 1
  · have HN : Hid (¬ CodeGood xs) := fun e => by have := e.1; rw [HL.out] at this; omega
    have q0' : (n : Int) < 1 := by omega
    go_enter Tryz.func102, Tryz.ntmps102
    go_wp2
    go_ret
    exact ⟨.no HN.out, rfl⟩
  have q0' : ¬ (n : Int) < 1 := by omega
  by_cases q1 : 1024 < n
  · have HN : Hid (¬ CodeGood xs) := fun e => by have := e.2.1; rw [HL.out] at this; omega
    have q1' : (1024 : Int) < (n : Int) := by omega
    go_enter Tryz.func102, Tryz.ntmps102
    go_wp2
    go_ret
    exact ⟨.no HN.out, rfl⟩
  have q1' : ¬ (1024 : Int) < (n : Int) := by omega
  go_enter Tryz.func102, Tryz.ntmps102
  go_wp2
  go_loopw [4] (fun i wr => ∃ k : Nat, k ≤ n ∧ i = .int .i64 k ∧ Hid (∀ j, j < k → ∀ x, xs[j]? = some x → goesB x = true → 0 ≤ x.c ∧ x.c < (n : Int)) ∧ wr = w) (fun i _ => n - (intOf i).toNat)
  case atStart => exact ⟨0, by omega, rfl, fun j hj => by omega, rfl⟩
  case round =>
    obtain ⟨k, hk, rfl, HT, rfl⟩ := hrel
    by_cases hlt : k < n
    · obtain ⟨x, hx⟩ : ∃ x, xs[k]? = some x := ⟨_, List.getElem?_eq_getElem (by rw [HL.out]; exact hlt)⟩
      have HX : Hid (xs[k]? = some x) := hx
      rcases H.out.2 with ⟨e0, _⟩ | ⟨g, o, c, e1, hc1⟩
      · omega
      simp only [Value.slice.injEq, true_and] at e1
      obtain ⟨rfl, rfl⟩ := e1
      have i0 := Rd.elem MI.cells_length hc1 k _ hx 0 _ rfl
      have i3 := Rd.elem MI.cells_length hc1 k _ hx 3 _ rfl
      rw [Nat.add_zero] at i0
      clear hc1 hx
      have hkL : (k : Int) < (n : Int) := by omega
      go_wp2_with fail
      refine (l5Goes_any x _).mono ?_
      rintro e u ⟨rfl, rfl⟩
      cases hgo : goesB x
      · have HN : Hid (∀ j, j < k + 1 → ∀ x, xs[j]? = some x → goesB x = true → 0 ≤ x.c ∧ x.c < (n : Int)) := fun j hj y hy hg => by
          by_cases e : j = k
          · subst e
            rw [HX.out] at hy
            cases hy
            rw [hgo] at hg
            cases hg
          · exact HT.out j (by omega) y hy hg
        go_wp2
        go_roundw
        case rel => exact ⟨k + 1, by omega, by go_num, HN, by trivial⟩
        case measure => simp [intOf]; omega
      · by_cases r0 : x.c < 0
        · have HN : Hid (¬ CodeGood xs) := fun e => by have := e.2.2 k x HX.out hgo; omega
          go_wp2
          go_ret
          exact ⟨.no HN.out, rfl⟩
        · by_cases r1 : (n : Int) ≤ x.c
          · have HN : Hid (¬ CodeGood xs) := fun e => by have := e.2.2 k x HX.out hgo; rw [HL.out] at this; omega
            go_wp2
            go_ret
            exact ⟨.no HN.out, rfl⟩
          · have HN : Hid (∀ j, j < k + 1 → ∀ x, xs[j]? = some x → goesB x = true → 0 ≤ x.c ∧ x.c < (n : Int)) := fun j hj y hy hg => by
              by_cases e : j = k
              · subst e
                rw [HX.out] at hy
                cases hy
                omega
              · exact HT.out j (by omega) y hy hg
            go_wp2
            go_roundw
            case rel => exact ⟨k + 1, by omega, by go_num, HN, by trivial⟩
            case measure => simp [intOf]; omega
    · have HY : Hid (CodeGood xs) := ⟨by rw [HL.out]; omega, by rw [HL.out]; omega, fun i x hi hg => by
        have hlt := (List.getElem?_eq_some_iff.1 hi).1
        rw [HL.out] at hlt ⊢
        exact HT.out i (by omega) x hi hg⟩
      go_wp2
      go_ret
      exact ⟨.yes HY.out, rfl⟩
end Go.Proofs.YtifpjgdnikkekaaGreat
namespace Go.Proofs.YtifpjgdnikkekaaGreat
open Go.ChangeShapes Go.WideShapes Go.ChangeAt Go.RowKit
set_option linter.unusedVariables false
theorem infoBool : (Tryz.prog.info? 4).map (fun i => (i.zero, i.size, i.bytes)) = some (some (.bool false), 1, 1) := by kernel_rfl
theorem own_grown {w w' : World} {base B : Nat} {e e' : TypeId} {s v : Value} {k k' n m : Nat} {xs bs : List Value} (h : w.ownsRow base e k s n xs) (hg : w.grownBy w' v.ownBlock) (ho : w.ownsRow B e' k' v m bs) (hne : e ≠ e') : w'.ownsRow base e k s n xs := by
  refine ⟨h.1, ?_⟩
  rcases h.2 with h | ⟨g, cap, cur, e1, hb1, hgg, hr⟩
  · exact .inl h
  · refine .inr ⟨g, cap, cur, e1, hb1, ?_, hr⟩
    rw [hg.block g (Array.getElem?_eq_some_iff.1 hgg).1 ?_]
    · exact hgg
    · intro hv
      rcases ho.2 with ⟨rfl, _⟩ | ⟨g', cap', cur', rfl, _, hg', _⟩
      · cases hv
      · simp only [Value.ownBlock, Option.some.injEq] at hv
        subst hv
        rw [hgg] at hg'
        simp only [Option.some.injEq, Obj.cells.injEq] at hg'
        exact hne hg'.2.1
/-- Which instructions lead, by the first k of them. -/
def leadV (xs : List MI) (k n : Nat) : List Value := (List.range (n + 1)).map fun j => Value.bool (leadB xs k j)
theorem leadV_length (xs : List MI) (k n : Nat) : (leadV xs k n).length = n + 1 := by simp [leadV]
theorem leadV_at (xs : List MI) (k n j : Nat) (hj : j ≤ n) : (leadV xs k n)[j]? = some (.bool (leadB xs k j)) := by simp [leadV, show j < n + 1 by omega]
theorem leadV_zero (xs : List MI) (n : Nat) : (List.replicate (n + 1) (Value.bool false)).set 0 (.bool true) = leadV xs 0 n := by
  apply List.ext_getElem?
  intro j
  by_cases hj : j < n + 1
  · rw [leadV_at _ _ _ _ (by omega), leadB_start]
    by_cases h0 : j = 0
    · subst h0
      simp
    · rw [List.getElem?_set_ne (by omega)]
      simp [h0, hj]
  · rw [List.getElem?_eq_none (by simp; omega), List.getElem?_eq_none (by simp [leadV]; omega)]
theorem leadV_set (xs : List MI) (k n c : Nat) (hc : c ≤ n) (P : Nat → Bool) (h : ∀ j, P j = (leadB xs k j || decide (j = c))) : (leadV xs k n).set c (.bool true) = (List.range (n + 1)).map fun j => Value.bool (P j) := by
  apply List.ext_getElem?
  intro j
  by_cases hj : j < n + 1
  · by_cases h0 : j = c
    · subst h0
      rw [List.getElem?_set_self (by rw [leadV_length]; omega)]
      simp [hj, h]
    · rw [List.getElem?_set_ne (by omega), leadV_at _ _ _ _ (by omega)]
      simp [hj, h, h0]
  · rw [List.getElem?_eq_none (by simp [leadV]; omega), List.getElem?_eq_none (by simp; omega)]
theorem leadV_set2 (P : Nat → Bool) (n c : Nat) (hc : c ≤ n) (Q : Nat → Bool) (h : ∀ j, Q j = (P j || decide (j = c))) : ((List.range (n + 1)).map fun j => Value.bool (P j)).set c (.bool true) = (List.range (n + 1)).map fun j => Value.bool (Q j) := by
  apply List.ext_getElem?
  intro j
  by_cases hj : j < n + 1
  · by_cases h0 : j = c
    · subst h0
      rw [List.getElem?_set_self (by simp; omega)]
      simp [hj, h]
    · rw [List.getElem?_set_ne (by omega)]
      simp [hj, h, h0]
  · rw [List.getElem?_eq_none (by simp; omega), List.getElem?_eq_none (by simp; omega)]
theorem lead_goes (xs : List MI) (k n c : Nat) (x : MI) (hx : xs[k]? = some x) (hg : goesB x = true) (hc : x.c = (c : Int)) (hcn : c ≤ n) (hk : k + 1 ≤ n) : ((leadV xs k n).set c (.bool true)).set (k + 1) (.bool true) = leadV xs (k + 1) n := by
  rw [leadV_set xs k n c hcn (fun j => leadB xs k j || decide (j = c)) (fun j => rfl)]
  refine (leadV_set2 _ n (k + 1) hk (fun j => leadB xs (k + 1) j) (fun j => ?_)).trans rfl
  rw [leadB_succ xs k j x hx]
  have e : decide ((c : Int) = (j : Int)) = decide (j = c) := by
    by_cases h : j = c
    · simp [h]
    · have : ¬ (c : Int) = (j : Int) := by omega
      simp [h, this]
  simp [leads, hg, hc, e, Bool.or_assoc]
theorem lead_ret (xs : List MI) (k n : Nat) (x : MI) (hx : xs[k]? = some x) (hg : goesB x = false) (hr : x.op = 29) (hk : k + 1 ≤ n) : (leadV xs k n).set (k + 1) (.bool true) = leadV xs (k + 1) n := by
  rw [leadV_set xs k n (k + 1) hk (fun j => leadB xs (k + 1) j) (fun j => ?_)]
  · rfl
  · rw [leadB_succ xs k j x hx]
    simp [leads, hg, hr]
theorem lead_none (xs : List MI) (k n : Nat) (x : MI) (hx : xs[k]? = some x) (hg : goesB x = false) (hr : ¬ x.op = 29) : leadV xs k n = leadV xs (k + 1) n := by
  unfold leadV
  congr 1
  funext j
  rw [leadB_succ xs k j x hx]
  simp [leads, hg, hr]
def numC (xs : List MI) (j : Nat) : List Value := intCell (numAt xs j)
theorem numC_length (xs : List MI) (j : Nat) : (numC xs j).length = 1 := rfl
/-- A block whose Next is not there yet. -/
def bc0 (m : MB) : List Value := [.int .i64 m.first, .int .i64 m.last, .slice none 0 0]
theorem bc0_length (m : MB) : (bc0 m).length = 3 := rfl
theorem bc0_set (bs : List MB) (b : MB) (i : Int) : ((bs ++ [b]).flatMap bc0).set (bs.length * 3 + 1) (.int .i64 i) = (bs ++ [(⟨b.first, i, b.next⟩ : MB)]).flatMap bc0 := by
  have hA : (bs.flatMap bc0).length = bs.length * 3 := flat_length bc0 3 bc0_length bs
  simp only [List.flatMap_append, List.flatMap_cons, List.flatMap_nil, List.append_nil]
  rw [List.set_append_right _ _ (by omega), hA]
  simp [bc0]
theorem last_nat (xs : List MI) (n : Nat) (h : 1 ≤ n) (m : MB) (hm : m ∈ outL xs n) : ∃ e : Nat, m.last = (e : Int) ∧ e < n := by
  rw [outL_build] at hm
  unfold build at hm
  obtain ⟨i, hi⟩ := List.getElem?_of_mem hm
  rw [List.getElem?_zipWith] at hi
  cases h1 : (lds xs n)[i]? with
  | none => rw [h1] at hi; simp at hi
  | some a =>
    cases h2 : ((lds xs n).tail ++ [n])[i]? with
    | none => rw [h1, h2] at hi; simp at hi
    | some q =>
      rw [h1, h2] at hi
      simp only [Option.some.injEq] at hi
      subst hi
      have hq : 1 ≤ q ∧ q ≤ n := by
        rcases List.mem_append.1 (List.mem_of_getElem? h2) with h3 | h3
        · have hs := lds_sorted xs n
          have hlt := ((lds_mem xs n q).1 (List.mem_of_mem_tail h3)).1
          cases hL : lds xs n with
          | nil => rw [hL] at h3; cases h3
          | cons y r =>
            rw [hL] at hs h3
            have := (List.pairwise_cons.1 hs).1 q h3
            omega
        · simp at h3
          omega
      exact ⟨q - 1, by simp only []; omega, by omega⟩
end Go.Proofs.YtifpjgdnikkekaaGreat
namespace Go.Proofs.YtifpjgdnikkekaaGreat
open Go.ChangeShapes Go.WideShapes Go.ChangeAt Go.RowKit
set_option linter.unusedVariables false
def bcell (b : Bool) : List Value := [.bool b]
/-- The rows, in the second loop. -/
structure SW (w u : World) (xs : List MI) (n k q : Nat) (V : Value) : Prop where
  lead : u.ownsRow w.heap.size 4 1 (.slice (some ⟨w.heap.size + 1, 0, none⟩) (n + 1) (n + 1)) (n + 1) (leadV xs n n)
  num : u.ownsRow w.heap.size 2 1 (.slice (some ⟨q, 0, none⟩) n n) n (flatTo (numC xs) [.int .i64 0] (List.range n) k n)
  out : u.ownsRow w.heap.size 71 3 V (outL xs k).length ((outL xs k).flatMap bc0)
  bel : Below w.heap.size w u
theorem row_ne {u : World} {B B' g g' k k' n n' c c' : Nat} {e e' : TypeId} {xs ys : List Value} (h : u.ownsRow B e k (.slice (some ⟨g, 0, none⟩) n c) n xs) (h' : u.ownsRow B' e' k' (.slice (some ⟨g', 0, none⟩) n' c') n' ys) (hne : e ≠ e') : ¬ g = g' := fun eq => by
  subst eq
  obtain ⟨_, cur, h1⟩ := own_blk h
  obtain ⟨_, cur', h2⟩ := own_blk h'
  rw [h1] at h2
  simp only [Option.some.injEq, Obj.cells.injEq] at h2
  exact hne h2.2.1
theorem own_set_ne {u : World} {B B' g k k' n n' c : Nat} {e e' : TypeId} {s : Value} {xs ys : List Value} (h : u.ownsRow B e k s n xs) (h' : u.ownsRow B' e' k' (.slice (some ⟨g, 0, none⟩) n' c) n' ys) (hne : e ≠ e') (i : Nat) (z : Value) : (u.setCell ⟨g, i, none⟩ z).ownsRow B e k s n xs := by
  obtain ⟨_, cur, h1⟩ := own_blk h'
  exact ownsRow_setCell_other h (a := ⟨g, i, none⟩) (fun q => type_apart h h1 hne _ q rfl) z
theorem SW.fin {w u : World} {xs : List MI} {n k q gg cap : Nat} {bs : List MB} {b : MB} (hk : k < n) (h1 : u.ownsRow w.heap.size 4 1 (.slice (some ⟨w.heap.size + 1, 0, none⟩) (n + 1) (n + 1)) (n + 1) (leadV xs n n)) (h2 : u.ownsRow w.heap.size 2 1 (.slice (some ⟨q, 0, none⟩) n n) n (flatTo (numC xs) [.int .i64 0] (List.range n) k n)) (h3 : u.ownsRow w.heap.size 71 3 (.slice (some ⟨gg, 0, none⟩) (bs.length + 1) cap) (bs.length + 1) ((bs ++ [b]).flatMap bc0)) (h4 : Below w.heap.size w u) (ho : outL xs (k + 1) = bs ++ [(⟨b.first, (k : Int), b.next⟩ : MB)]) (hm : numAt xs k = (bs.length : Int)) :
    SW w ((u.setCell ⟨q, k, none⟩ (.int .i64 bs.length)).setCell ⟨gg, bs.length * 3 + 1, none⟩ (.int .i64 k)) xs n (k + 1) q (.slice (some ⟨gg, 0, none⟩) (bs.length + 1) cap) := by
  have hq : w.heap.size ≤ q := (own_blk h2).1
  have hg : w.heap.size ≤ gg := (own_blk h3).1
  have g1 := own_set_ne h1 h2 (by decide) k (.int .i64 bs.length)
  have g3 := own_set_ne h3 h2 (by decide) k (.int .i64 bs.length)
  have g2 := (h2.stored k (.int .i64 bs.length)).1
  have e2 : (flatTo (numC xs) [.int .i64 0] (List.range n) k n).set k (.int .i64 bs.length) = flatTo (numC xs) [.int .i64 0] (List.range n) (k + 1) n := by
    rw [flatTo_parts _ _ _ _ _ hk, set1 _ _ _ _ k (by rw [flat_length (numC xs) 1 (numC_length xs), List.length_take, List.length_range]; omega), flatTo_next (numC xs) _ _ k n k (by simp [hk])]
    simp [numC, intCell, hm]
  rw [e2] at g2
  refine ⟨own_set_ne g1 g3 (by decide) _ _, own_set_ne g2 g3 (by decide) _ _, ?_, (h4.setCell hq _).setCell hg _⟩
  have g4 := (g3.stored (bs.length * 3 + 1) (.int .i64 k)).1
  rw [bc0_set] at g4
  rw [ho, List.length_append, List.length_singleton]
  exact g4
theorem begSW {w wr w3 : World} {xs : List MI} {k j q gg cap : Nat} {v : Value} (h : SW w wr xs k j q v) (ho : outL xs (j + 1) = outL xs j ++ [(⟨(j : Int), (j : Int), []⟩ : MB)]) (hm : numAt xs j = ((outL xs j).length : Int)) (hj : j < k) (hown : w3.ownsRow w.heap.size 71 3 (.slice (some ⟨gg, 0, none⟩) ((outL xs j).length + 1) cap) ((outL xs j).length + 1) ((outL xs j).flatMap bc0 ++ [.int .i64 j, .int .i64 0, .slice none 0 0])) (hg : (wr.alloc (.cells #[.int .i64 j, .int .i64 0, .slice none 0 0] 71)).grownBy w3 v.ownBlock) :
    Hid (SW w ((w3.setCell ⟨q, j, none⟩ (.int .i64 (outL xs j).length)).setCell ⟨gg, (outL xs j).length * 3 + 1, none⟩ (.int .i64 j)) xs k (j + 1) q (.slice (some ⟨gg, 0, none⟩) ((outL xs j).length + 1) cap)) ∧ ¬ gg = q ∧ ¬ q = gg ∧ w3.cell? ⟨q, j, none⟩ = some (.int .i64 0) ∧ w3.frozen? ⟨q, j, none⟩ = false ∧ w3.cell? ⟨gg, (outL xs j).length * 3 + 1, none⟩ = some (.int .i64 0) ∧ w3.frozen? ⟨gg, (outL xs j).length * 3 + 1, none⟩ = false := by
  have bA := below_alloc wr (.cells #[.int .i64 j, .int .i64 0, .slice none 0 0] 71)
  have r3 := own_keep h.out bA (Nat.le_refl _)
  have r1 := own_grown (own_keep h.lead bA (Nat.le_refl _)) hg r3 (by decide)
  have r2 := own_grown (own_keep h.num bA (Nat.le_refl _)) hg r3 (by decide)
  have bel := (below_on h.bel (Nat.le_refl _) bA).grown hg (Nat.le_trans h.bel.size bA.size) (fun i hi => (r3.lt i hi).1)
  have hne := row_ne hown r2 (by decide)
  have n0 := r2.cellAt j (by omega)
  have o0 := hown.cellAt ((outL xs j).length * 3 + 1) (by omega)
  rw [flatTo_parts _ _ _ _ _ hj, List.getElem?_append_right (by rw [flat_length (numC xs) 1 (numC_length xs), List.length_take, List.length_range]; omega), show j - (List.flatMap (numC xs) (List.take j (List.range k))).length = 0 by rw [flat_length (numC xs) 1 (numC_length xs), List.length_take, List.length_range]; omega] at n0
  simp only [List.cons_append, List.getElem?_cons_zero] at n0
  rw [List.getElem?_append_right (by rw [flat_length bc0 3 bc0_length]; omega), show (outL xs j).length * 3 + 1 - (List.flatMap bc0 (outL xs j)).length = 1 by rw [flat_length bc0 3 bc0_length]; omega] at o0
  simp only [List.getElem?_cons_succ, List.getElem?_cons_zero] at o0
  refine ⟨SW.fin (b := ⟨(j : Int), 0, []⟩) hj r1 r2 (by rw [List.flatMap_append]; exact hown) bel ho hm, hne, fun e => hne e.symm, n0, r2.frozenAt j, o0, hown.frozenAt _⟩
theorem made_bool (n : Nat) : (madeCells (Value.bool false).cells (n * 1)).toList = List.replicate n (.bool false) := by
  rw [flatTo_zero bcell [.bool false] [] n (.bool false) 1 rfl rfl (by omega)]
  simp [flatTo, List.flatten_replicate_singleton]
theorem made_int (n : Nat) (f : Nat → List Value) (ys : List Nat) : (madeCells (Value.int .i64 0).cells (n * 1)).toList = flatTo f [.int .i64 0] ys 0 n := by
  rw [flatTo_zero f [.int .i64 0] ys n (.int .i64 0) 1 rfl rfl (by omega)]
/-- The rows, in the first loop. -/
structure SV (w u : World) (xs : List MI) (n k : Nat) : Prop where
  lead : u.ownsRow w.heap.size 4 1 (.slice (some ⟨w.heap.size + 1, 0, none⟩) (n + 1) (n + 1)) (n + 1) (leadV xs k n)
  out : Blk u w.heap.size #[] 71
  bel : Below w.heap.size w u
theorem SV.set {w u : World} {xs : List MI} {n k k' : Nat} (h : SV w u xs n k) (j : Nat) (hl : (leadV xs k n).set j (.bool true) = leadV xs k' n) : SV w (u.setCell ⟨w.heap.size + 1, j, none⟩ (.bool true)) xs n k' := by
  refine ⟨?_, h.out.other (by simp only []; omega) _, h.bel.setCell (by simp only []; omega) _⟩
  have := (h.lead.stored j (.bool true)).1
  rw [hl] at this
  exact this
theorem SV.set2 {w u : World} {xs : List MI} {n k k' : Nat} (h : SV w u xs n k) (j j' : Nat) (hl : ((leadV xs k n).set j (.bool true)).set j' (.bool true) = leadV xs k' n) : SV w ((u.setCell ⟨w.heap.size + 1, j, none⟩ (.bool true)).setCell ⟨w.heap.size + 1, j', none⟩ (.bool true)) xs n k' := by
  refine ⟨?_, (h.out.other (by simp only []; omega) _).other (by simp only []; omega) _, (h.bel.setCell (by simp only []; omega) _).setCell (by simp only []; omega) _⟩
  have := ((h.lead.stored j (.bool true)).1.stored j' (.bool true)).1
  rw [hl] at this
  exact this
end Go.Proofs.YtifpjgdnikkekaaGreat
