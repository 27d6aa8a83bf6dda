import Derived.Test.YtdbaghmjomdmbaaGreatRows
import Derived.WalkKit
import Derived.ProofKit
import Derived.OpenShut
import Derived.Below
import Derived.Laws.Tables
import Derived.Laws.Rows
import Derived.Deep.WholeRow
import Derived.Great.BuildSlice
namespace Go.Proofs.YtdbaghmjomdmbaaGreat
set_option linter.unusedVariables false

def buildsRun (P : Program) : List Oper → Act → Option Act
  | [], a => some a
  | o :: r, a =>
    match o.guard, o.op with
    | none, .build t parts =>
      match P.built t (parts.map fun (i, x) => (i, a.eval x)).toList with
      | some cells => buildsRun P r (a.put o.dst (.agg cells))
      | none => none
    | _, _ => none

theorem wpList_builds {P : Program} {ops : Array Oper} {Q : Exit → Act → World → Prop} {w : World} {a' : Act} (rest : List Oper) (h : wpList P ops Q rest a' w) :
    ∀ (l : List Oper) (a : Act), buildsRun P l a = some a' → wpList P ops Q (l ++ rest) a w
  | [], a, hb => by
    simp only [buildsRun, Option.some.injEq] at hb
    subst hb
    exact h
  | o :: r, a, hb => by
    unfold buildsRun at hb
    split at hb
    · next t parts hg ho =>
      split at hb
      · next cells hc =>
        refine wpList_build hg t parts ho (by rw [hc]; rfl) ?_
        rw [hc]
        exact wpList_builds rest h r _ hb
      · cases hb
    · cases hb

theorem wpList_table {P : Program} {ops : Array Oper} {Q : Exit → Act → World → Prop} {w : World} {l : List Oper} {a : Act} (n : Nat) (ty t : TypeId) (x y : Operand) (g : Nat) (cells old : Array Value) (p : Tmp)
    (hb : (buildsRun P (l.take n) a).map (fun a' => (a'.eval x, a'.eval y, a'.tmps.getD p undef, a'.defers)) = some (.pointer (some ⟨g, 0, none⟩), .agg cells, .pointer (some ⟨g, 0, none⟩), []))
    (hd : (l.drop n).map (fun o => (o.guard, o.op, o.dst)) = [(none, .store ty x y, none)])
    (hg : w.heap[g]? = some (.cells old t (0, 0))) (hi : (P.info? ty).map (·.size) = some cells.size)
    (hold : old.size = cells.size) (h1 : cells.all (·.oneCell') = true)
    (h : ∀ a', a'.tmps.getD p undef = .pointer (some ⟨g, 0, none⟩) → a'.defers = [] → Q .normal a' (w.setRow g cells)) : wpList P ops Q l a w := by
  rw [← List.take_append_drop n l]
  obtain ⟨a', ha, he⟩ := Option.map_eq_some_iff.1 hb
  simp only [Prod.mk.injEq] at he
  refine wpList_builds (a' := a') _ ?_ _ _ ha
  generalize l.drop n = l2 at hd
  rcases l2 with _ | ⟨o, _ | ⟨o2, l3⟩⟩
  · cases hd
  · simp only [List.map_cons, List.map_nil, List.cons.injEq, Prod.mk.injEq, and_true] at hd
    refine wpList_store_row hd.1 ty x y hd.2.1 g cells he.1 he.2.1 t old hg hi hold h1 ?_
    rw [hd.2.2]
    exact wpList_nil (h _ he.2.2.1 he.2.2.2)
  · simp at hd
end Go.Proofs.YtdbaghmjomdmbaaGreat
namespace Go.Proofs.YtdbaghmjomdmbaaGreat
set_option linter.unusedVariables false

/-- A region of builds, one slice of them, and its assignment to the result's slot. -/
theorem wpList_tableSlice {P : Program} {ops : Array Oper} {Q : Exit → Act → World → Prop} {w : World} {l : List Oper} {a : Act} (n : Nat) (t e : TypeId) (len : Nat) (parts : Array (Nat × Operand)) (s p m : Nat) (cells : Array Value) (ie : TypeInfo) (z : Value)
    (hb : (buildsRun P (l.take n) a).map (fun a' => (Instr.fill (fun i => some (i * ie.size, ie.size)) ((Array.range (len * ie.size)).map (z.cells[· % z.cells.size]!)) (parts.map fun (i, x) => (i, a'.eval x)).toList, a'.tmps.size, a'.defers)) = some (some cells, m, []))
    (hd : (l.drop n).map (fun o => (o.guard, o.op, o.dst)) = [(none, .buildSlice t len parts, some s), (none, .assign (.tmp s), some p)])
    (hs : s < m) (hp : p < m)
    (hu : P.underlying t = some (.slice e)) (hie : P.info? e = some ie) (hz : ie.zero = some z) (hsmall : ¬ len * ie.size > 2 ^ 24) (hpos : ¬ len * ie.size = 0)
    (h : ∀ a', a'.tmps.getD p undef = .slice (some ⟨w.heap.size, 0, none⟩) len len → a'.defers = [] → Q .normal a' (w.alloc (.cells cells e))) : wpList P ops Q l a w := by
  rw [← List.take_append_drop n l]
  obtain ⟨a', ha, he⟩ := Option.map_eq_some_iff.1 hb
  simp only [Prod.mk.injEq] at he
  refine wpList_builds (a' := a') _ ?_ _ _ ha
  generalize l.drop n = l2 at hd
  rcases l2 with _ | ⟨o, _ | ⟨o2, _ | ⟨o3, l3⟩⟩⟩
  · cases hd
  · simp at hd
  · simp only [List.map_cons, List.map_nil, List.cons.injEq, Prod.mk.injEq, and_true] at hd
    obtain ⟨⟨g1, o1, d1⟩, g2, o2', d2⟩ := hd
    refine wpList_buildSlice g1 t e len parts o1 cells ie z hu hie hz hsmall hpos he.1 ?_
    rw [d1]
    refine wpList_plain g2 fun K hK => ?_
    unfold Oper.wp execOp
    simp only [o2', Sem.run_pure]
    refine hK _ _ (wpList_nil (h _ ?_ ?_))
    · simp [Act.put, Act.eval, hp, hs, he.2.1, d2]
    · simp [Act.put, he.2.2, d2]
  · simp at hd
end Go.Proofs.YtdbaghmjomdmbaaGreat
