/- KSts: impl.statementsOf. -/
import Derived.Test.YtjlnglgfehefdaaKIface
namespace Go.Proofs.Ytjlnglgfehefdaa
open Go.ChangeShapes Go.WideShapes Go.ChangeAt Go.RowKit
set_option linter.unusedVariables false
theorem infoI : (Try.prog.info? 59).map (fun i => (i.zero, i.size, i.bytes)) = some (some .nilIface, 1, 16) := by kernel_rfl
/-- Where the reading of statements stands. -/
structure SoAt (w u : World) (m : Nat) (V : Value) (xs : List (SS (TL m) × Value × Value)) : Prop where
  row : u.ownsRow w.heap.size 59 1 V xs.length (xs.map iVal)
  els : ∀ x ∈ xs, (x.1.k = 2 → RdI u (fun b => w.heap.size ≤ b ∧ V.ownBlock ≠ some b) m x.2.1 x.1.body ∧ RdI u (fun b => w.heap.size ≤ b ∧ V.ownBlock ≠ some b) m x.2.2 x.1.els) ∧ (x.1.k = 3 → RdI u (fun b => w.heap.size ≤ b ∧ V.ownBlock ≠ some b) m x.2.1 x.1.body)
  bel : Below w.heap.size w u
theorem SoAt.keep {w u u' : World} {m : Nat} {V : Value} {xs : List (SS (TL m) × Value × Value)} (h : SoAt w u m V xs) (hb : Below u.heap.size u u') : SoAt w u' m V xs := ⟨own_keep h.row hb (Nat.le_refl _), fun x hx => ⟨fun e => ⟨((h.els x hx).1 e).1.keep hb, ((h.els x hx).1 e).2.keep hb⟩, fun e => ((h.els x hx).2 e).keep hb⟩, below_on h.bel (Nat.le_refl _) hb⟩
theorem SoAt.app {w u z u' : World} {m : Nat} {V : Value} {xs : List (SS (TL m) × Value × Value)} (h : SoAt w u m V xs) (hz : Below u.heap.size u z) {y : SS (TL m) × Value × Value} (hy : (y.1.k = 2 → RdI z (fun b => u.heap.size ≤ b) m y.2.1 y.1.body ∧ RdI z (fun b => u.heap.size ≤ b) m y.2.2 y.1.els) ∧ (y.1.k = 3 → RdI z (fun b => u.heap.size ≤ b) m y.2.1 y.1.body))
    {g cap : Nat} (hown : u'.ownsRow w.heap.size 59 1 (.slice (some ⟨g, 0, none⟩) (xs.length + 1) cap) (xs.length + 1) (xs.map iVal ++ [iVal y])) (hg : z.grownBy u' V.ownBlock) (hat : V.ownBlock = some g ∨ g = z.heap.size) : SoAt w u' m (.slice (some ⟨g, 0, none⟩) (xs.length + 1) cap) (xs ++ [y]) := by
  have hsz := hz.size
  have hwu := h.bel.size
  have hVlt : ∀ b, V.ownBlock = some b → b < u.heap.size := fun b hb => (h.row.lt b hb).2
  have h1 : ∀ {v : Value} {t : TL m}, RdI u (fun b => w.heap.size ≤ b ∧ V.ownBlock ≠ some b) m v t → RdI u' (fun b => w.heap.size ≤ b ∧ (Value.slice (some ⟨g, 0, none⟩) (xs.length + 1) cap).ownBlock ≠ some b) m v t := fun hr => hr.step (fun b hb hlt => by
      rw [hg.block b (by omega) (fun e => hb.2 e.symm), hz.block b hlt]) (fun b hb hlt => ⟨hb.1, fun e => by
      simp only [Value.ownBlock, Option.some.injEq] at e
      subst e
      rcases hat with e | e
      · exact hb.2 e
      · omega⟩)
  have h2 : ∀ {v : Value} {t : TL m}, RdI z (fun b => u.heap.size ≤ b) m v t → RdI u' (fun b => w.heap.size ≤ b ∧ (Value.slice (some ⟨g, 0, none⟩) (xs.length + 1) cap).ownBlock ≠ some b) m v t := fun hr => hr.step (fun b hb hlt => by
      rw [hg.block b hlt (fun e => by have := hVlt b e.symm; omega)]) (fun b hb hlt => ⟨by omega, fun e => by
      simp only [Value.ownBlock, Option.some.injEq] at e
      subst e
      rcases hat with e | e
      · have := hVlt _ e; omega
      · omega⟩)
  refine ⟨?_, fun x hx => ?_, (below_on h.bel (Nat.le_refl _) hz).grown hg (Nat.le_trans h.bel.size hz.size) (fun j hj => (h.row.lt j hj).1)⟩
  · rw [List.map_append, show (xs ++ [y]).length = xs.length + 1 by simp]
    exact hown
  · rcases List.mem_append.1 hx with hx | hx
    · exact ⟨fun e => ⟨h1 ((h.els x hx).1 e).1, h1 ((h.els x hx).1 e).2⟩, fun e => h1 ((h.els x hx).2 e)⟩
    · simp only [List.mem_singleton] at hx
      subst hx
      exact ⟨fun e => ⟨h2 (hy.1 e).1, h2 (hy.1 e).2⟩, fun e => h2 (hy.2 e)⟩
theorem one_new (u : World) (a : Value) : ∀ j v, [a][j]? = some v → (u.alloc (.cells #[a] 59)).cell? ((⟨u.heap.size, 0, none⟩ : Addr).add j) = some v := fun j v hj => by
  have hb := Blk.new u #[a] 59
  have : (⟨u.heap.size, 0, none⟩ : Addr).add j = ⟨u.heap.size, j, none⟩ := by unfold Addr.add; split <;> simp_all
  rw [this, hb.cell j]
  simpa using hj
theorem SoAt.all {w u : World} {n : Nat} {t : TL n} {V : Value} {xs : List (SS (TL (n - 1)) × Value × Value)} (h : SoAt w u (n - 1) V xs) (hx : xs.map Prod.fst = itemsT n t) : RdI u (fun b => w.heap.size ≤ b) n V t := by
  cases n with
  | zero =>
    have hz : xs = [] := List.map_eq_nil_iff.1 hx
    subst hz
    exact (Rd.of_own h.row).is_slice
  | succ n =>
    have hl : xs.length = List.length t := by
      have h1 := congrArg List.length hx
      rw [List.length_map] at h1
      exact h1
    refine ⟨xs, hx, ⟨by rw [List.length_map]; exact hl, ?_⟩, fun x hx' => ⟨fun e => ⟨((h.els x hx').1 e).1.step (fun _ _ _ => rfl) (fun b hb _ => hb.1), ((h.els x hx').1 e).2.step (fun _ _ _ => rfl) (fun b hb _ => hb.1)⟩, fun e => ((h.els x hx').2 e).step (fun _ _ _ => rfl) (fun b hb _ => hb.1)⟩⟩
    rcases (Rd.of_own h.row).2 with ⟨e, a, c, e2⟩ | ⟨g, o, c, e, hc⟩
    · exact .inl ⟨by rw [← hl]; exact e, a, c, e2⟩
    · rcases h.row.2 with ⟨e', _⟩ | ⟨g', cap, cur, e', hb, _⟩
      · rw [e] at e'; cases e'
      · rw [e] at e'
        simp only [Value.slice.injEq, Option.some.injEq, Addr.mk.injEq, true_and, and_true] at e'
        refine .inr ⟨g, o, c, ?_, ?_, hc⟩
        · rw [← hl]; exact e
        · rw [e'.1.1]; exact hb
theorem SoAt.far {w u : World} {m : Nat} {V : Value} {xs : List (SS (TL m) × Value × Value)} (h : SoAt w u m V xs) {X : Nat} {cs : Array Value} (hb : Blk u X cs 35) : some X ≠ V.ownBlock := fun e => by
  rcases h.row.2 with ⟨e1, _⟩ | ⟨g', cap, cur, e1, _, hg', _⟩
  · rw [e1] at e; cases e
  · rw [e1] at e
    simp only [Value.ownBlock, Option.some.injEq] at e
    subst e
    unfold Blk at hb
    rw [hb] at hg'
    simp at hg'
theorem far_cell {u z u' : World} {X : Nat} {cs : Array Value} {V : Value} (hb : Blk u X cs 35) (hz : Below u.heap.size u z) (hg : z.grownBy u' V.ownBlock) (hn : some X ≠ V.ownBlock) (i : Nat) : u'.cell? ⟨X, i, none⟩ = cs[i]? := by
  rw [hg.cell_far ⟨X, i, none⟩ (hb.keep hz).lt hn]
  exact (hb.keep hz).cell i
/-- What statementsOf is asked for. -/
def SoIs (n : Nat) : Prop := ∀ (v : Value) (t : TL n) (w : World), OwnT w 0 n v t → allOkT n t → sizeT n t ≤ 1048576 → Calls Try.prog 17 #[v] w fun e w' => ∃ v', e = .returned v' ∧ RdI w' (fun b => w.heap.size ≤ b) n v' t ∧ Below w.heap.size w w'
end Go.Proofs.Ytjlnglgfehefdaa
