/- FImpl8: impl.newGraph. -/
import Derived.Test.YtcmbphpeikcpoaaFImpl5
import Derived.Test.YtcmbphpeikcpoaaMFSpec7b
namespace Go.Proofs.Ytcmbphpeikcpoaa
open Go.ChangeShapes Go.WideShapes Go.ChangeAt Go.RowKit
set_option linter.unusedVariables false
theorem infoSI : (Try.prog.info? 33).map (fun i => (i.zero, i.size, i.bytes)) = some (some (.slice none 0 0), 1, 24) := by kernel_rfl
theorem made_nils (n : Nat) : (madeCells (Value.slice none 0 0).cells (n * 1)).toList = List.replicate n (.slice none 0 0) := by
  rw [flatTo_zero (fun b : Bool => [Value.bool b]) [.slice none 0 0] [] n (.slice none 0 0) 1 rfl rfl (by omega)]
  simp [flatTo, List.flatten_replicate_singleton]
/-- A graph as it is made. -/
structure NG0 (w u : World) (n G gF gP : Nat) : Prop where
  blk : Blk u G #[.slice none 0 0, .slice (some ⟨gF, 0, none⟩) n n, .slice none 0 0, .slice (some ⟨gP, 0, none⟩) n n, .slice none 0 0] 72
  frow : u.ownsRow w.heap.size 33 1 (.slice (some ⟨gF, 0, none⟩) n n) n (List.replicate n (.slice none 0 0))
  prow : u.ownsRow w.heap.size 2 1 (.slice (some ⟨gP, 0, none⟩) n n) n (iv (fun _ => 0) n)
  bel : Below w.heap.size w u
  ge : w.heap.size ≤ G
theorem NG0.of {w W : World} {n gF gP : Nat} (hf : W.ownsRow w.heap.size 33 1 (.slice (some ⟨gF, 0, none⟩) n n) n (List.replicate n (.slice none 0 0))) (hp : W.ownsRow w.heap.size 2 1 (.slice (some ⟨gP, 0, none⟩) n n) n (iv (fun _ => 0) n)) (hb : Below w.heap.size w W) : NG0 w (W.alloc (.cells #[.slice none 0 0, .slice (some ⟨gF, 0, none⟩) n n, .slice none 0 0, .slice (some ⟨gP, 0, none⟩) n n, .slice none 0 0] 72)) n W.heap.size gF gP := ⟨Blk.new _ _ _, own_keep hf (below_alloc _ _) (Nat.le_refl _), own_keep hp (below_alloc _ _) (Nat.le_refl _), below_on hb (Nat.le_refl _) (below_alloc _ _), hb.size⟩
theorem below_none {w w' : World} (hg : w.grownBy w' none) : Below w.heap.size w w' := (Below.refl _ _).grown hg (Nat.le_refl _) (fun k hk => by cases hk)
/-- From where, so far. -/
def fromP (E : Nat → List Nat) (b k x : Nat) : List Nat := (((E b).take k).filter fun y => decide (y = x)).map fun _ => b
theorem fromL_succ (E : Nat → List Nat) (b x : Nat) : fromL E (b + 1) x = fromL E b x ++ fromP E b (E b).length x := by
  unfold fromL fromP
  rw [List.range_succ, List.flatMap_append]
  simp
theorem fromP_zero (E : Nat → List Nat) (b x : Nat) : fromP E b 0 x = [] := by simp [fromP]
theorem fromP_succ {E : Nat → List Nat} {b k y : Nat} (hy : (E b)[k]? = some y) (x : Nat) : fromP E b (k + 1) x = if x = y then fromP E b k x ++ [b] else fromP E b k x := by
  obtain ⟨hl, e⟩ := List.getElem?_eq_some_iff.1 hy
  unfold fromP
  rw [List.take_succ_eq_append_getElem hl, List.filter_append, List.map_append, e]
  by_cases q : x = y
  · subst q; simp
  · simp [q, Ne.symm q]
theorem fromP_len (E : Nat → List Nat) (b k x : Nat) : (fromP E b k x).length ≤ (E b).length := by
  unfold fromP
  rw [List.length_map]
  refine Nat.le_trans (List.length_filter_le _ _) ?_
  rw [List.length_take]
  omega
theorem fromL_len {E : Nat → List Nat} (hsz : ∀ b, (E b).length ≤ 2) (b x : Nat) : (fromL E b x).length ≤ 2 * b := by
  induction b with
  | zero => simp [fromL]
  | succ b ih =>
    have h1 := fromP_len E b (E b).length x
    have h2 := hsz b
    rw [fromL_succ, List.length_append]
    omega
/-- The rows while the edges are gathered. -/
structure NG (w w2 u : World) (n G gF : Nat) (PV : Value) (NV : Value) (NS : List Value) (FS : List (Value × List Nat)) : Prop where
  blk : Blk u G #[NV, .slice (some ⟨gF, 0, none⟩) n n, .slice none 0 0, PV, .slice none 0 0] 72
  nrow : u.ownsRow w2.heap.size 33 1 NV NS.length NS
  frow : u.ownsRow w.heap.size 33 1 (.slice (some ⟨gF, 0, none⟩) n n) n (FS.map Prod.fst)
  fam : Fam u w2.heap.size (FS.map fun x => (x.1, ints x.2))
  fx : ∀ k, k < w2.heap.size → k ≠ G → k ≠ gF → u.heap[k]? = w2.heap[k]?
  size : w2.heap.size ≤ u.heap.size
  bel : Below w.heap.size w u
  lt : w.heap.size ≤ G ∧ G < w2.heap.size ∧ gF < w2.heap.size
theorem NG.keep {w w2 u u' : World} {n G gF : Nat} {PV NV : Value} {NS : List Value} {FS : List (Value × List Nat)} (h : NG w w2 u n G gF PV NV NS FS) (hb : Below u.heap.size u u') : NG w w2 u' n G gF PV NV NS FS := ⟨h.blk.keep hb, own_keep h.nrow hb (Nat.le_refl _), own_keep h.frow hb (Nat.le_refl _), h.fam.keepB hb, fun k hk h1 h2 => by rw [hb.block k (Nat.lt_of_lt_of_le hk h.size)]; exact h.fx k hk h1 h2, Nat.le_trans h.size hb.size, below_on h.bel (Nat.le_refl _) hb, h.lt⟩
theorem NG.next {w w2 u u' : World} {n G gF g cap : Nat} {PV NV x : Value} {NS : List Value} {FS : List (Value × List Nat)} (h : NG w w2 u n G gF PV NV NS FS) (hw : w.heap.size ≤ w2.heap.size) (hown : u'.ownsRow w2.heap.size 33 1 (.slice (some ⟨g, 0, none⟩) (NS.length + 1) cap) (NS.length + 1) (NS ++ [x])) (hg : u.grownBy u' NV.ownBlock) : Blk u' G #[NV, .slice (some ⟨gF, 0, none⟩) n n, .slice none 0 0, PV, .slice none 0 0] 72 ∧ NG w w2 (u'.setCell ⟨G, 0, none⟩ (.slice (some ⟨g, 0, none⟩) (NS.length + 1) cap)) n G gF PV (.slice (some ⟨g, 0, none⟩) (NS.length + 1) cap) (NS ++ [x]) FS := by
  have kb := h.blk.grown hg h.nrow (by decide)
  have kf : u'.ownsRow w.heap.size 33 1 (.slice (some ⟨gF, 0, none⟩) n n) n (FS.map Prod.fst) := own_apart' h.frow hg (fun gg hgg e => by
    have h1 := (h.nrow.lt gg e.symm).1
    simp only [Value.ownBlock, Option.some.injEq] at hgg
    have := h.lt.2.2
    omega)
  have km := h.fam.grown_other hg h.nrow (by decide)
  refine ⟨kb, ?_, ?_, ?_, km.other kb (by decide) 0 _, fun k hk h1 h2 => ?_, ?_, ?_, h.lt⟩
  · have := kb.set 0 (.slice (some ⟨g, 0, none⟩) (NS.length + 1) cap)
    simpa using this
  · rw [List.length_append, List.length_singleton]
    exact ownsRow_setCell_other hown (a := ⟨G, 0, none⟩) (blk_ne kb hown (by decide)) _
  · exact ownsRow_setCell_other kf (a := ⟨G, 0, none⟩) (blk_ne kb kf (by decide)) _
  · rw [heap_setCell_other u' _ k _ h1, hg.block k (Nat.lt_of_lt_of_le hk h.size) (fun e => by have := (h.nrow.lt k e.symm).1; omega)]
    exact h.fx k hk h1 h2
  · rw [World.size_setCell]
    exact Nat.le_trans h.size hg.size
  · exact (h.bel.grown hg h.bel.size (fun i hi => Nat.le_trans hw (h.nrow.lt i hi).1)).setCell h.lt.1 _
theorem set_mid {α : Type} (A B : List α) (x y : α) : (A ++ x :: B).set A.length y = A ++ y :: B := by
  rw [List.set_append_right _ _ (Nat.le_refl _), Nat.sub_self]
  rfl
/-- A row of from grows. -/
theorem NG.app {w w2 u u' : World} {n G gF g cap y b : Nat} {PV NV V : Value} {NS : List Value} {FS : List (Value × List Nat)} {l : List Nat} (h : NG w w2 u n G gF PV NV NS FS) (hw : w.heap.size ≤ w2.heap.size) (hy : FS[y]? = some (V, l)) (hown : u'.ownsRow w2.heap.size 2 1 (.slice (some ⟨g, 0, none⟩) (l.length + 1) cap) (l.length + 1) (nv l ++ [.int .i64 (b : Int)])) (hg : u.grownBy u' V.ownBlock) (hat : V.ownBlock = some g ∨ g = u.heap.size) : u'.ownsRow w.heap.size 33 1 (.slice (some ⟨gF, 0, none⟩) n n) n (FS.map Prod.fst) ∧ NG w w2 (u'.setCell ⟨gF, y, none⟩ (.slice (some ⟨g, 0, none⟩) (l.length + 1) cap)) n G gF PV NV NS (FS.set y (.slice (some ⟨g, 0, none⟩) (l.length + 1) cap, l ++ [b])) := by
  obtain ⟨hyl, hye⟩ := List.getElem?_eq_some_iff.1 hy
  have hFS : FS = FS.take y ++ (V, l) :: FS.drop (y + 1) := by rw [← hye, ← List.drop_eq_getElem_cons hyl, List.take_append_drop]
  have hlen : (FS.take y).length = y := by rw [List.length_take]; omega
  have oV := h.fam.own (V, ints l) (List.mem_map.2 ⟨(V, l), List.mem_of_getElem? hy, rfl⟩)
  have kb := h.blk.grown hg oV (by decide)
  have kn : u'.ownsRow w2.heap.size 33 1 NV NS.length NS := own_grown h.nrow hg oV (by decide)
  have kf : u'.ownsRow w.heap.size 33 1 (.slice (some ⟨gF, 0, none⟩) n n) n (FS.map Prod.fst) := own_grown h.frow hg oV (by decide)
  have hset : FS.set y (.slice (some ⟨g, 0, none⟩) (l.length + 1) cap, l ++ [b]) = FS.take y ++ (.slice (some ⟨g, 0, none⟩) (l.length + 1) cap, l ++ [b]) :: FS.drop (y + 1) := by
    have := set_mid (FS.take y) (FS.drop (y + 1)) (V, l) (.slice (some ⟨g, 0, none⟩) (l.length + 1) cap, l ++ [b])
    rw [hlen, ← hFS] at this
    exact this
  have km : Fam u' w2.heap.size ((FS.set y (.slice (some ⟨g, 0, none⟩) (l.length + 1) cap, l ++ [b])).map fun x => (x.1, ints x.2)) := by
    have h0 := h.fam
    rw [hFS, List.map_append, List.map_cons] at h0
    rw [hset, List.map_append, List.map_cons]
    refine Fam.grow (g := g) h0 ?_ rfl hg (hat.imp id fun e => by omega)
    simp only []
    rw [ints_length, List.length_append, List.length_singleton, ← nv_flat, nv_app]
    exact hown
  have hgF := h.lt.2.2
  have hFl : gF ≠ G := fun e => blk_ne kb kf (by decide) (by rw [e]; rfl)
  have hnn : NV.ownBlock ≠ some gF := fun e => by have := (kn.lt gF e).1; omega
  refine ⟨kf, kb.other (Ne.symm hFl) _, ownsRow_setCell_other kn (a := ⟨gF, y, none⟩) hnn _, ?_, ⟨fun x hx => ?_, km.sep⟩, fun k hk h1 h2 => ?_, ?_, ?_, h.lt⟩
  · have := (kf.stored y (.slice (some ⟨g, 0, none⟩) (l.length + 1) cap)).1
    rw [List.map_set]
    exact this
  · refine ownsRow_setCell_other (km.own x hx) (a := ⟨gF, y, none⟩) (fun e => ?_) _
    have := ((km.own x hx).lt gF e).1
    omega
  · rw [heap_setCell_other u' _ k _ h2, hg.block k (Nat.lt_of_lt_of_le hk h.size) (fun e => by have := (oV.lt k e.symm).1; omega)]
    exact h.fx k hk h1 h2
  · rw [World.size_setCell]
    exact Nat.le_trans h.size hg.size
  · exact (h.bel.grown hg h.bel.size (fun i hi => Nat.le_trans hw (oV.lt i hi).1)).setCell (own_blk kf).1 _
end Go.Proofs.Ytcmbphpeikcpoaa
