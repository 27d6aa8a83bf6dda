/- BImpl3: impl.leadersOf. -/
import Derived.Test.YtdbaghmjomdmbaaBImpl2
import Derived.Test.YtdbaghmjomdmbaaBSpec4
namespace Go.Proofs.Ytdbaghmjomdmbaa
open Go.ChangeShapes Go.WideShapes Go.ChangeAt Go.RowKit
set_option linter.unusedVariables false
theorem sorted_ext : ∀ (a b : List Int), a.Pairwise (· < ·) → b.Pairwise (· < ·) → (∀ z, z ∈ a ↔ z ∈ b) → a = b
  | [], [], _, _, _ => rfl
  | [], y :: b, _, _, h => by have := (h y).2 (by simp); cases this
  | x :: a, [], _, _, h => by have := (h x).1 (by simp); cases this
  | x :: a, y :: b, ha, hb, h => by
    obtain ⟨a1, a2⟩ := List.pairwise_cons.1 ha
    obtain ⟨b1, b2⟩ := List.pairwise_cons.1 hb
    have e : x = y := by
      rcases List.mem_cons.1 ((h x).1 (by simp)) with e | e
      · exact e
      · rcases List.mem_cons.1 ((h y).2 (by simp)) with e' | e'
        · exact e'.symm
        · have := b1 x e
          have := a1 y e'
          omega
    subst e
    congr 1
    refine sorted_ext a b a2 b2 fun z => ⟨fun hz => ?_, fun hz => ?_⟩
    · rcases List.mem_cons.1 ((h z).1 (List.mem_cons_of_mem _ hz)) with e | e
      · have := a1 z hz
        omega
      · exact e
    · rcases List.mem_cons.1 ((h z).2 (List.mem_cons_of_mem _ hz)) with e | e
      · have := b1 z hz
        omega
      · exact e
theorem lead_le (xs : List MI) (j : Nat) (hg : CodeGood xs) (h : leadB xs xs.length j = true) : j ≤ xs.length := by
  simp only [leadB, Bool.or_eq_true, List.any_eq_true, List.mem_range, decide_eq_true_eq] at h
  rcases h with h | ⟨i, hi, h⟩
  · omega
  · cases hx : xs[i]? with
    | none => rw [hx] at h; cases h
    | some x =>
      rw [hx] at h
      simp only [leads, Bool.or_eq_true, Bool.and_eq_true, decide_eq_true_eq] at h
      rcases h with ⟨h1, h2⟩ | ⟨_, h2⟩
      · have := hg.2.2 i x hx h1
        omega
      · omega
/-- The set holds the leaders by the first k instructions. -/
def HasIs (D : DataW Unit) (xs : List MI) (k : Nat) : Prop := ∀ z : Int, Go.Maps.has D (.int .i64 z) = (decide (0 ≤ z) && leadB xs k z.toNat)
theorem has_put (D : DataW Unit) (hD : Go.Maps.IsMap D) (z y : Int) (u : DataW Unit) : Go.Maps.has (D.put (.int .i64 z) u) (.int .i64 y) = (Go.Maps.has D (.int .i64 y) || decide (y = z)) := by
  by_cases h : y = z
  · subst h
    rw [Go.Maps.has_put_same hD (show WideAt.IsKeyLit (Lit.int .i64 y) from trivial)]
    simp
  · rw [Go.Maps.has_put_other (fun e => h (by cases e; rfl))]
    simp [h]
theorem HasIs.start (xs : List MI) (u : DataW Unit) : HasIs ((DataW.map [] : DataW Unit).put (.int .i64 0) u) xs 0 := fun z => by
  rw [has_put _ Go.Maps.isMap_empty, leadB_start]
  have e : Go.Maps.has (DataW.map [] : DataW Unit) (.int .i64 z) = false := rfl
  rw [e]
  by_cases h : z = 0
  · subst h
    rfl
  · by_cases h0 : 0 ≤ z
    · have : ¬ z.toNat = 0 := by omega
      simp [h, this]
    · simp [h, h0]
theorem HasIs.none {D : DataW Unit} {xs : List MI} {k : Nat} {x : MI} (h : HasIs D xs k) (hx : xs[k]? = some x) (hg : goesB x = false) (hr : ¬ x.op = 29) : HasIs D xs (k + 1) := fun z => by
  rw [h z, leadB_succ xs k _ x hx]
  simp [leads, hg, hr]
theorem HasIs.ret {D : DataW Unit} {xs : List MI} {k : Nat} {x : MI} {u : DataW Unit} (h : HasIs D xs k) (hD : Go.Maps.IsMap D) (hx : xs[k]? = some x) (hg : goesB x = false) (hr : x.op = 29) : HasIs (D.put (.int .i64 ((k : Int) + 1)) u) xs (k + 1) := fun z => by
  rw [has_put D hD, h z, leadB_succ xs k _ x hx]
  by_cases h0 : 0 ≤ z
  · have e : decide (z = (k : Int) + 1) = decide (z.toNat = k + 1) := decide_eq_decide.2 ⟨fun _ => by omega, fun _ => by omega⟩
    rw [e]
    simp [leads, hg, hr, h0]
  · have e : decide (z = (k : Int) + 1) = false := by simp; omega
    simp [e, h0]
theorem HasIs.goes {D : DataW Unit} {xs : List MI} {k : Nat} {x : MI} {u u' : DataW Unit} (h : HasIs D xs k) (hD : Go.Maps.IsMap D) (hx : xs[k]? = some x) (hg : goesB x = true) (hc : 0 ≤ x.c) : HasIs ((D.put (.int .i64 x.c) u).put (.int .i64 ((k : Int) + 1)) u') xs (k + 1) := fun z => by
  rw [has_put _ (hD.put _ _), has_put D hD, h z, leadB_succ xs k _ x hx]
  by_cases h0 : 0 ≤ z
  · have e : decide (z = (k : Int) + 1) = decide (z.toNat = k + 1) := decide_eq_decide.2 ⟨fun _ => by omega, fun _ => by omega⟩
    have e2 : decide (z = x.c) = decide (x.c = (z.toNat : Int)) := decide_eq_decide.2 ⟨fun _ => by omega, fun _ => by omega⟩
    rw [e, e2]
    simp [leads, hg, h0, Bool.or_assoc]
  · have e : decide (z = (k : Int) + 1) = false := by simp; omega
    have e2 : decide (z = x.c) = false := by simp; omega
    simp [e, e2, h0]
theorem grown_of_below {w w' : World} (h : Below w.heap.size w w') : w.grownBy w' none := ⟨h.os, h.tape, h.output, h.size, fun k hk _ => h.block k hk⟩
theorem SetAt.keep {w w' : World} {b cnt : Nat} {D : DataW Unit} (h : SetAt w b cnt D) (hb : Below w.heap.size w w') : SetAt w' b cnt D := World.ownsMap.kept h (grown_of_below hb) (by simp)
/-- The set, and the block of an instruction. -/
structure LX (w wr U : World) (x : MI) (cnt : Nat) (D : DataW Unit) : Prop where
  set : SetAt U w.heap.size cnt D
  xb : Blk U wr.heap.size #[.int .i64 x.op, .int .i64 x.a, .int .i64 x.b, .int .i64 x.c] 44
  bel : Below w.heap.size w U
  lt : w.heap.size < wr.heap.size
theorem LX.keep {w wr U U' : World} {x : MI} {cnt : Nat} {D : DataW Unit} (h : LX w wr U x cnt D) (hb : Below U.heap.size U U') : LX w wr U' x cnt D := ⟨h.set.keep hb, h.xb.keep hb, below_on h.bel (Nat.le_refl _) hb, h.lt⟩
theorem LX.grown {w wr U U' : World} {x : MI} {cnt cnt' : Nat} {D D' : DataW Unit} (h : LX w wr U x cnt D) (hs : SetAt U' w.heap.size cnt' D') (hg : U.grownBy U' (some w.heap.size)) : LX w wr U' x cnt' D' := by
  refine ⟨hs, ?_, h.bel.grown hg h.bel.size (fun j hj => by cases hj; exact Nat.le_refl _), h.lt⟩
  have := h.xb
  have hl := h.lt
  unfold Blk at *
  rw [hg.block _ h.xb.lt (fun e => by have := Option.some.inj e; omega)]
  exact this
end Go.Proofs.Ytdbaghmjomdmbaa
