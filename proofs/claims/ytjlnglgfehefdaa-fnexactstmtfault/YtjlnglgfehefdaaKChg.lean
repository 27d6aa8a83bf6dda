/- KChg: blocks outside of R are as they were. -/
import Derived.Test.YtjlnglgfehefdaaKEq
namespace Go.Proofs.Ytjlnglgfehefdaa
open Go.ChangeShapes Go.WideShapes Go.ChangeAt Go.RowKit
set_option linter.unusedVariables false
/-- Blocks outside of R are as they were. -/
structure Chg (R : Nat → Prop) (u u' : World) : Prop where
  os : u'.os = u.os
  tape : u'.tape = u.tape
  output : u'.output = u.output
  size : u.heap.size ≤ u'.heap.size
  block : ∀ k, k < u.heap.size → ¬ R k → u'.heap[k]? = u.heap[k]?
theorem Chg.of {R : Nat → Prop} {u u' : World} (h : Below u.heap.size u u') : Chg R u u' := ⟨h.os, h.tape, h.output, h.size, fun k hk _ => h.block k hk⟩
theorem Chg.refl (R : Nat → Prop) (u : World) : Chg R u u := ⟨rfl, rfl, rfl, Nat.le_refl _, fun _ _ _ => rfl⟩
theorem Chg.trans {R R' : Nat → Prop} {a b c : World} (h : Chg R a b) (h' : Chg R' b c) (hR : ∀ k, k < a.heap.size → R' k → R k) : Chg R a c := ⟨h'.os.trans h.os, h'.tape.trans h.tape, h'.output.trans h.output, Nat.le_trans h.size h'.size, fun k hk hn => (h'.block k (Nat.lt_of_lt_of_le hk h.size) (fun e => hn (hR k hk e))).trans (h.block k hk hn)⟩
theorem Chg.below {R : Nat → Prop} {a b : World} (h : Chg R a b) {B : Nat} (hB : B ≤ a.heap.size) (hR : ∀ k, k < B → ¬ R k) : Below B a b := ⟨h.os, h.tape, h.output, h.size, fun k hk => h.block k (by omega) (hR k hk)⟩
theorem Chg.blk {R : Nat → Prop} {a b : World} (h : Chg R a b) {g : Nat} {cur : Array Value} {ty : TypeId} (hg : Blk a g cur ty) (hn : ¬ R g) : Blk b g cur ty := by
  unfold Blk at *
  rw [h.block g (Array.getElem?_eq_some_iff.1 hg).1 hn]
  exact hg
theorem Chg.setCell {R : Nat → Prop} {a b : World} (h : Chg R a b) {ad : Addr} (ha : R ad.block ∨ a.heap.size ≤ ad.block) (x : Value) : Chg R a (b.setCell ad x) := by
  refine ⟨h.os, h.tape, h.output, by rw [World.size_setCell]; exact h.size, fun k hk hn => ?_⟩
  have hne : k ≠ ad.block := fun e => by
    rcases ha with ha | ha
    · exact hn (e ▸ ha)
    · omega
  rw [Below.heap_setCell _ _ _ _ hne]
  exact h.block k hk hn
theorem Chg.on {R : Nat → Prop} {a b c : World} (h : Chg R a b) (h' : Below b.heap.size b c) : Chg R a c := h.trans (Chg.of (R := R) h') (fun _ _ e => e)
end Go.Proofs.Ytjlnglgfehefdaa
