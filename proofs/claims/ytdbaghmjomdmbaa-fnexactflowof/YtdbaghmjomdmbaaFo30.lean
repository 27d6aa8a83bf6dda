import Derived.Test.YtdbaghmjomdmbaaFo27
namespace Go.Proofs.Ytdbaghmjomdmbaa
open Go.ChangeShapes Go.WideShapes Go.ChangeAt Go.RowKit
set_option linter.unusedVariables false
structure PF (w6 u : World) (X : Nat) (Vb Vo Vi : Value) (Is : List Int) (Vl : Value) (ys : List (ML × Value × Value)) : Prop where
  blk : Blk u X #[.int .i64 0, .int .i64 0, Vb, Vo, Vi, Vl] 36
  fam : Fam u w6.heap.size ((Vi, Is) :: lrows ys)
  lps : u.ownsRow w6.heap.size 62 3 Vl ys.length (ys.flatMap lCells)
  fx : ∀ k, k < w6.heap.size → k ≠ X → u.heap[k]? = w6.heap[k]?
  size : w6.heap.size ≤ u.heap.size
  bel : Below X w6 u
  lt : X < w6.heap.size
theorem PF.keep {w6 u u' : World} {X : Nat} {Vb Vo Vi Vl : Value} {Is : List Int} {ys : List (ML × Value × Value)} (h : PF w6 u X Vb Vo Vi Is Vl ys) (hb : Below u.heap.size u u') : PF w6 u' X Vb Vo Vi Is Vl ys := ⟨h.blk.keep hb, h.fam.keepB hb, own_keep h.lps hb (Nat.le_refl _), fun k hk hne => by rw [hb.block k (Nat.lt_of_lt_of_le hk h.size)]; exact h.fx k hk hne, Nat.le_trans h.size hb.size, h.bel.trans (hb.mono (by have := h.lt; have := h.size; omega)), h.lt⟩
theorem PF.cell {w6 u : World} {X : Nat} {Vb Vo Vi Vl : Value} {Is : List Int} {ys : List (ML × Value × Value)} (h : PF w6 u X Vb Vo Vi Is Vl ys) {a : Addr} {x : Value} (hb : w6.cell? a = some x) (hne : a.block ≠ X) : u.cell? a = some x := by
  have := h.fx a.block (block_lt_of_cell hb) hne
  unfold World.cell? at *
  rw [this]
  exact hb
theorem PF.idom {w6 u u' : World} {X g cap : Nat} {Vb Vo Vi Vl : Value} {Is : List Int} {ys : List (ML × Value × Value)} {z : Int} (h : PF w6 u X Vb Vo Vi Is Vl ys) (hown : u'.ownsRow w6.heap.size 2 1 (.slice (some ⟨g, 0, none⟩) (Is.length + 1) cap) (Is.length + 1) (Is.flatMap intCell ++ [.int .i64 z])) (hg : u.grownBy u' Vi.ownBlock) (hat : Vi.ownBlock = some g ∨ g = u.heap.size) : Blk u' X #[.int .i64 0, .int .i64 0, Vb, Vo, Vi, Vl] 36 ∧ PF w6 (u'.setCell ⟨X, 4, none⟩ (.slice (some ⟨g, 0, none⟩) (Is.length + 1) cap)) X Vb Vo (.slice (some ⟨g, 0, none⟩) (Is.length + 1) cap) (Is ++ [z]) Vl ys := by
  have oI := h.fam.own (Vi, Is) (List.mem_cons_self ..)
  have kb := h.blk.grown hg oI (by decide)
  have kl : u'.ownsRow w6.heap.size 62 3 Vl ys.length (ys.flatMap lCells) := own_grown h.lps hg oI (by decide)
  have kf : Fam u' w6.heap.size ((.slice (some ⟨g, 0, none⟩) (Is.length + 1) cap, Is ++ [z]) :: lrows ys) := by
    have := Fam.grow (A := []) (l' := Is ++ [z]) (V' := .slice (some ⟨g, 0, none⟩) (Is.length + 1) cap) (g := g) h.fam (by
      rw [List.length_append, List.length_singleton, List.flatMap_append]
      exact hown) rfl hg (hat.imp id fun e => by omega)
    simpa using this
  refine ⟨kb, ?_, kf.other kb (by decide) 4 _, ownsRow_setCell_other kl (a := ⟨X, 4, none⟩) (blk_ne kb kl (by decide)) _, fun k hk hne => ?_, ?_, ?_, h.lt⟩
  · have := kb.set 4 (.slice (some ⟨g, 0, none⟩) (Is.length + 1) cap)
    simpa using this
  · rw [heap_setCell_other u' _ k _ hne, hg.block k (Nat.lt_of_lt_of_le hk h.size) (fun e => by have := (oI.lt k e.symm).1; omega)]
    exact h.fx k hk hne
  · rw [World.size_setCell]
    exact Nat.le_trans h.size hg.size
  · exact (h.bel.grown hg (by have := h.lt; have := h.size; omega) (fun i hi => by have := (oI.lt i hi).1; have := h.lt; omega)).setCell (Nat.le_refl _) _
theorem PF.loop {w6 u u1 u' : World} {X g cap : Nat} {Vb Vo Vi Vl BV KV : Value} {Is : List Int} {ys : List (ML × Value × Value)} {m : ML} (h : PF w6 u X Vb Vo Vi Is Vl ys) (hb : Below u.heap.size u u1) (h1 : u1.ownsRow u.heap.size 2 1 BV m.back.length (m.back.flatMap intCell)) (h2 : u1.ownsRow u.heap.size 2 1 KV m.blocks.length (m.blocks.flatMap intCell)) (hne : ∀ q, BV.ownBlock = some q → KV.ownBlock ≠ some q) (hown : u'.ownsRow w6.heap.size 62 3 (.slice (some ⟨g, 0, none⟩) (ys.length + 1) cap) (ys.length + 1) (ys.flatMap lCells ++ [.int .i64 m.head, BV, KV])) (hg : u1.grownBy u' Vl.ownBlock) : Blk u' X #[.int .i64 0, .int .i64 0, Vb, Vo, Vi, Vl] 36 ∧ PF w6 (u'.setCell ⟨X, 5, none⟩ (.slice (some ⟨g, 0, none⟩) (ys.length + 1) cap)) X Vb Vo Vi Is (.slice (some ⟨g, 0, none⟩) (ys.length + 1) cap) (ys ++ [(m, BV, KV)]) := by
  have h' := h.keep hb
  have kb := h'.blk.grown hg h'.lps (by decide)
  have kf0 : Fam u1 w6.heap.size ((Vi, Is) :: lrows (ys ++ [(m, BV, KV)])) := by
    have := h.fam.join2 hb h1 h2 hne h.size
    simpa [lrows] using this
  have kf : Fam u' w6.heap.size ((Vi, Is) :: lrows (ys ++ [(m, BV, KV)])) := kf0.grown_other hg h'.lps (by decide)
  refine ⟨kb, ?_, kf.other kb (by decide) 5 _, ?_, fun k hk hne => ?_, ?_, ?_, h.lt⟩
  · have := kb.set 5 (.slice (some ⟨g, 0, none⟩) (ys.length + 1) cap)
    simpa using this
  · rw [List.length_append, List.length_singleton, List.flatMap_append]
    exact ownsRow_setCell_other hown (a := ⟨X, 5, none⟩) (blk_ne kb hown (by decide)) _
  · rw [heap_setCell_other u' _ k _ hne, hg.block k (Nat.lt_of_lt_of_le hk h'.size) (fun e => by have := (h'.lps.lt k e.symm).1; omega)]
    exact h'.fx k hk hne
  · rw [World.size_setCell]
    exact Nat.le_trans h'.size hg.size
  · exact (h'.bel.grown hg (by have := h.lt; have := h'.size; omega) (fun i hi => by have := (h'.lps.lt i hi).1; have := h.lt; omega)).setCell (Nat.le_refl _) _
theorem loopsTo_succ (E : Nat → List Nat) (D L : Nat → Nat → Bool) (n b : Nat) : loopsTo E D L n (b + 1) = loopsTo E D L n b ++ (if backL E D n b = [] then [] else [⟨(b : Int), ints (backL E D n b), ints ((List.range n).filter (L b))⟩]) := by
  unfold loopsTo
  rw [List.range_succ, List.filterMap_append]
  by_cases h : backL E D n b = []
  · simp [h]
  · simp [h]
theorem loopsTo_len (E : Nat → List Nat) (D L : Nat → Nat → Bool) (n b : Nat) : (loopsTo E D L n b).length ≤ b := by
  have := List.length_filterMap_le (fun h => if backL E D n h = [] then none else some (⟨(h : Int), ints (backL E D n h), ints ((List.range n).filter (L h))⟩ : ML)) (List.range b)
  simpa [loopsTo] using this
end Go.Proofs.Ytdbaghmjomdmbaa
