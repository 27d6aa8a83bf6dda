/- BImpl5: impl.placesHold, impl.placesFrom, slices.Contains of at most one number. -/
import Derived.Test.YtdbaghmjomdmbaaBImpl4
namespace Go.Proofs.Ytdbaghmjomdmbaa
open Go.ChangeShapes Go.WideShapes Go.ChangeAt Go.RowKit
set_option linter.unusedVariables false
def PlacesOk (xs : List MI) : Prop := ∀ (i : Nat) (x : MI), xs[i]? = some x → goesB x = true → 0 ≤ x.c ∧ x.c < (xs.length : Int)
theorem contains_none (a : Option Addr) (c : Nat) (z : Int) (w : World) : Calls Try.prog 48 #[.slice a 0 c, .int .i64 z] w fun e w' => e = .returned (.bool false) ∧ w' = w := by
  have h := AnyG.slices_Contains_int_empty Try.lContains a c z w
  exact h
theorem contains_one (g c : Nat) (y z : Int) (w : World) (hc : w.cell? ⟨g, 0, none⟩ = some (.int .i64 y)) : Calls Try.prog 48 #[.slice (some ⟨g, 0, none⟩) 1 c, .int .i64 z] w fun e w' => e = .returned (.bool (decide (z = y))) ∧ w' = w := by
  have h := AnyG.slices_Contains_int Try.lContains g 0 1 c [y] z w (by simp) (by omega) (fun j hj => by
    have : j = 0 := by simpa using hj
    subst this
    simpa using hc)
  have e : ([y].take 1).contains z = decide (z = y) := by
    by_cases q : z = y
    · simp [q]
    · simp [q]
  rw [e] at h
  exact h
theorem search_any (g c : Nat) (zs : List Int) (z : Int) (w : World) (hn : zs.length ≤ 1048576) (hs : zs.Pairwise (· < ·)) (h : Rd w 1 (.slice (some ⟨g, 0, none⟩) zs.length c) zs.length (zs.flatMap intCell)) (hz : z ∈ zs) :
    Calls Try.prog 25 #[.slice (some ⟨g, 0, none⟩) zs.length c, .int .i64 z] w fun e w' => (∃ b, e = .returned (.tuple #[.int .i64 (zs.idxOf z : Nat), .bool b])) ∧ ∃ q, w' = w.drewN q := by
  have hcell : ∀ j, j < zs.length → w.cell? ⟨g, 0 + j, none⟩ = some (.int .i64 (zs.getD j 0)) := fun j hj => by
    rcases h.2 with ⟨e0, _⟩ | ⟨g', o', c', e1, hc⟩
    · omega
    · simp only [Value.slice.injEq, Option.some.injEq, Addr.mk.injEq, and_true, true_and] at e1
      obtain ⟨⟨rfl, rfl⟩, rfl⟩ := e1
      have := hc j (.int .i64 (zs.getD j 0)) (by rw [ints_flat]; simp [List.getD_eq_getElem?_getD, List.getElem?_eq_getElem hj])
      exact this
  have hc := AnyG.slices_BinarySearch_int Try.lSearch g 0 zs.length c zs z w (Nat.le_refl _) (by omega) hcell (by rw [List.take_of_length_le (Nat.le_refl _)]; exact hs.imp (fun h => by omega))
  rw [List.take_of_length_le (Nat.le_refl _)] at hc
  have e : ∀ (l : List Int), l.Pairwise (· < ·) → z ∈ l → l.countP (fun x => decide (x < z)) = l.idxOf z := by
    intro l
    induction l with
    | nil => intro _ h; cases h
    | cons y r ih =>
      intro hp hm
      obtain ⟨p1, p2⟩ := List.pairwise_cons.1 hp
      by_cases q : y = z
      · subst q
        rw [List.countP_cons_of_neg (by simp), List.idxOf_cons_self]
        exact List.countP_eq_zero.2 (fun a ha => by have := p1 a ha; simp; omega)
      · rcases List.mem_cons.1 hm with e | e
        · exact absurd e.symm q
        · have := p1 z e
          rw [List.countP_cons_of_pos (by simpa using this), ih p2 e, List.idxOf_cons]
          rw [show (y == z) = false from by simpa using q]
          rfl
  refine hc.mono ?_
  rintro e1 w' ⟨rfl, hq⟩
  rw [e zs hs hz]
  exact ⟨⟨_, rfl⟩, hq⟩
theorem MI.at4 {w u : World} {xs : List MI} {g o n e : Nat} {x : MI} (hc : ∀ j v, (xs.flatMap MI.cells)[j]? = some v → w.cell? ⟨g, o + j, none⟩ = some v) (hx : xs[e]? = some x) (hb : Below w.heap.size w u) : u.cell? ⟨g, o + e * 4, none⟩ = some (.int .i64 x.op) ∧ u.cell? ⟨g, o + e * 4 + 1, none⟩ = some (.int .i64 x.a) ∧ u.cell? ⟨g, o + e * 4 + 2, none⟩ = some (.int .i64 x.b) ∧ u.cell? ⟨g, o + e * 4 + 3, none⟩ = some (.int .i64 x.c) := by
  have x0 := Rd.elem MI.cells_length hc e _ hx 0 _ rfl
  have x1 := Rd.elem MI.cells_length hc e _ hx 1 _ rfl
  have x2 := Rd.elem MI.cells_length hc e _ hx 2 _ rfl
  have x3 := Rd.elem MI.cells_length hc e _ hx 3 _ rfl
  rw [← hb.cell (block_lt_of_cell x0), Nat.add_zero] at x0
  rw [← hb.cell (block_lt_of_cell x1)] at x1
  rw [← hb.cell (block_lt_of_cell x2)] at x2
  rw [← hb.cell (block_lt_of_cell x3)] at x3
  exact ⟨x0, x1, x2, x3⟩
set_option maxHeartbeats 4000000 in
set_option maxRecDepth 100000 in
theorem placesHold_any (s : Value) (xs : List MI) (w : World) (hn : xs.length ≤ 1048576) (h : Rd w 4 s xs.length (xs.flatMap MI.cells)) :
    Calls Try.prog 22 #[s] w fun e w' => SaysIff e (PlacesOk xs) ∧ Below w.heap.size w w' := by
  have H : Hid (Rd w 4 s xs.length (xs.flatMap MI.cells)) := h
  obtain ⟨a1, c1, rfl⟩ := h.is_slice
  clear h
  generalize hLL : xs.length = n at hn H
  have HL : Hid (xs.length = n) := hLL
  clear hLL
  go_enter Try.func22, Try.ntmps22
  go_wp2
  go_loopw [7] (fun i wr => ∃ k : Nat, k ≤ n ∧ i = .int .i64 k ∧ Hid ((∀ j, j < k → ∀ x, xs[j]? = some x → goesB x = true → 0 ≤ x.c ∧ x.c < (n : Int)) ∧ Below w.heap.size w wr)) (fun i _ => n - (intOf i).toNat)
  case atStart => exact ⟨0, by omega, rfl, ⟨fun j hj => by omega, Below.refl _ _⟩⟩
  case round =>
    obtain ⟨k, hk, rfl, HT⟩ := hrel
    by_cases hlt : k < n
    · obtain ⟨x, hx⟩ : ∃ x, xs[k]? = some x := ⟨_, List.getElem?_eq_getElem (by rw [HL.out]; exact hlt)⟩
      have HX : Hid (xs[k]? = some x) := hx
      rcases H.out.2 with ⟨e0, _⟩ | ⟨g, o, c, e1, hc1⟩
      · omega
      simp only [Value.slice.injEq, true_and] at e1
      obtain ⟨rfl, rfl⟩ := e1
      obtain ⟨x0, x1, x2, x3⟩ := MI.at4 (n := 0) hc1 hx HT.out.2
      clear hc1 hx
      have hkL : (k : Int) < (n : Int) := by omega
      go_upto_region 4 with fail
      refine wp_world (fun u => Hid (Blk u wr.heap.size #[.int .i64 x.op, .int .i64 x.a, .int .i64 x.b, .int .i64 x.c] 44 ∧ Below w.heap.size w u)) ⟨Blk.new _ _ _, below_on HT.out.2 (Nat.le_refl _) (below_alloc _ _)⟩ ?_
      intro U1 HU1
      clear x0 x1 x2 x3
      obtain ⟨a0, a1', a2, a3⟩ := blk4 HU1.out.1
      go_wp2_with fail
      refine (namesPlace_any x _).mono ?_
      rintro e u2 ⟨rfl, b2⟩
      have HU2 : Hid (Blk u2 wr.heap.size #[.int .i64 x.op, .int .i64 x.a, .int .i64 x.b, .int .i64 x.c] 44 ∧ Below w.heap.size w u2) := ⟨HU1.out.1.keep b2, below_on HU1.out.2 (Nat.le_refl _) b2⟩
      clear b2 a0 a1' a2 a3 HU1
      obtain ⟨a0, a1', a2, a3⟩ := blk4 HU2.out.1
      cases hgo : goesB x
      · have HN : Hid ((∀ j, j < k + 1 → ∀ x, xs[j]? = some x → goesB x = true → 0 ≤ x.c ∧ x.c < (n : Int)) ∧ Below w.heap.size w u2) := ⟨fun j hj y hy hg => by
          by_cases e : j = k
          · subst e
            rw [HX.out] at hy
            cases hy
            rw [hgo] at hg
            cases hg
          · exact HT.out.1 j (by omega) y hy hg, HU2.out.2⟩
        go_wp2
        go_roundw
        case rel => exact ⟨k + 1, by omega, by go_num, HN⟩
        case measure => simp [intOf]; omega
      · go_wp2_with fail
        refine (isOneOf_any x.c n _ (by omega)).mono ?_
        rintro e u3 ⟨rfl, hu⟩
        have hu2 := hu.symm
        clear hu
        subst hu2
        by_cases r : 0 ≤ x.c ∧ x.c < (n : Int)
        · rw [show decide (0 ≤ x.c ∧ x.c < (n : Int)) = true from by simpa using r]
          have HN : Hid ((∀ j, j < k + 1 → ∀ x, xs[j]? = some x → goesB x = true → 0 ≤ x.c ∧ x.c < (n : Int)) ∧ Below w.heap.size w u2) := ⟨fun j hj y hy hg => by
            by_cases e : j = k
            · subst e
              rw [HX.out] at hy
              cases hy
              exact r
            · exact HT.out.1 j (by omega) y hy hg, HU2.out.2⟩
          go_wp2
          go_roundw
          case rel => exact ⟨k + 1, by omega, by go_num, HN⟩
          case measure => simp [intOf]; omega
        · rw [show decide (0 ≤ x.c ∧ x.c < (n : Int)) = false from by simpa using r]
          have HN : Hid (¬ PlacesOk xs) := fun e => r (by have := e k x HX.out hgo; rw [HL.out] at this; exact this)
          go_wp2
          go_ret
          exact ⟨.no HN.out, HU2.out.2⟩
    · have HY : Hid (PlacesOk xs) := fun i x hi hg => by
        have hlt := (List.getElem?_eq_some_iff.1 hi).1
        rw [HL.out] at hlt ⊢
        exact HT.out.1 i (by omega) x hi hg
      go_wp2
      go_ret
      exact ⟨.yes HY.out, HT.out.2⟩
/-- Places that are new. -/
structure NP (w U : World) (V : Value) (ns : List Int) : Prop where
  bel : Below w.heap.size w U
  row : U.ownsRow w.heap.size 2 1 V ns.length (ns.flatMap intCell)
theorem NP.keep {w U U' : World} {V : Value} {ns : List Int} (h : NP w U V ns) (hb : Below U.heap.size U U') : NP w U' V ns := ⟨below_on h.bel (Nat.le_refl _) hb, own_keep h.row hb (Nat.le_refl _)⟩
theorem NP.app {w U u' : World} {V V' : Value} {ns : List Int} {z : Int} {m : Nat} (h : NP w U V ns) (hown : u'.ownsRow w.heap.size 2 1 V' m (ns.flatMap intCell ++ [.int .i64 z])) (hm : m = ns.length + 1) (hg : (U.alloc (.cells #[.int .i64 z] 2)).grownBy u' V.ownBlock) : NP w u' V' (ns ++ [z]) := by
  have bA := below_alloc U (.cells #[.int .i64 z] 2)
  refine ⟨(below_on h.bel (Nat.le_refl _) bA).grown hg (Nat.le_trans h.bel.size bA.size) (fun i hi => (h.row.lt i hi).1), ?_⟩
  rw [List.length_append, List.length_singleton, ← hm, List.flatMap_append]
  exact hown
end Go.Proofs.Ytdbaghmjomdmbaa
