import Derived.Test.YtdbaghmjomdmbaaFo24
import Derived.Test.YtdbaghmjomdmbaaFo27
import Derived.Sort.OwnSortedInts
namespace Go.Proofs.Ytdbaghmjomdmbaa
open Go.ChangeShapes Go.WideShapes Go.ChangeAt Go.RowKit
set_option linter.unusedVariables false
theorem infoSI : (Try.prog.info? 33).map (fun i => (i.zero, i.size, i.bytes)) = some (some (.slice none 0 0), 1, 24) := by kernel_rfl
theorem made_nils (n : Nat) : (madeCells (Value.slice none 0 0).cells (n * 1)).toList = List.replicate n (.slice none 0 0) := by
  rw [flatTo_zero (fun b : Bool => [Value.bool b]) [.slice none 0 0] [] n (.slice none 0 0) 1 rfl rfl (by omega)]
  simp [flatTo, List.flatten_replicate_singleton]
/-- A graph as it is made. -/
structure NG0 (w u : World) (n G gF gP : Nat) : Prop where
  blk : Blk u G #[.slice none 0 0, .slice (some ⟨gF, 0, none⟩) n n, .slice none 0 0, .slice (some ⟨gP, 0, none⟩) n n, .slice none 0 0] 72
  frow : u.ownsRow w.heap.size 33 1 (.slice (some ⟨gF, 0, none⟩) n n) n (List.replicate n (.slice none 0 0))
  prow : u.ownsRow w.heap.size 2 1 (.slice (some ⟨gP, 0, none⟩) n n) n (iv (fun _ => 0) n)
  bel : Below w.heap.size w u
  ge : w.heap.size ≤ G
theorem NG0.of {w W : World} {n gF gP : Nat} (hf : W.ownsRow w.heap.size 33 1 (.slice (some ⟨gF, 0, none⟩) n n) n (List.replicate n (.slice none 0 0))) (hp : W.ownsRow w.heap.size 2 1 (.slice (some ⟨gP, 0, none⟩) n n) n (iv (fun _ => 0) n)) (hb : Below w.heap.size w W) : NG0 w (W.alloc (.cells #[.slice none 0 0, .slice (some ⟨gF, 0, none⟩) n n, .slice none 0 0, .slice (some ⟨gP, 0, none⟩) n n, .slice none 0 0] 72)) n W.heap.size gF gP := ⟨Blk.new _ _ _, own_keep hf (below_alloc _ _) (Nat.le_refl _), own_keep hp (below_alloc _ _) (Nat.le_refl _), below_on hb (Nat.le_refl _) (below_alloc _ _), hb.size⟩
theorem below_none {w w' : World} (hg : w.grownBy w' none) : Below w.heap.size w w' := (Below.refl _ _).grown hg (Nat.le_refl _) (fun k hk => by cases hk)
/-- From where, so far. -/
def fromP (E : Nat → List Nat) (b k x : Nat) : List Nat := (((E b).take k).filter fun y => decide (y = x)).map fun _ => b
theorem fromL_succ (E : Nat → List Nat) (b x : Nat) : fromL E (b + 1) x = fromL E b x ++ fromP E b (E b).length x := by
  unfold fromL fromP
  rw [List.range_succ, List.flatMap_append]
  simp
theorem fromP_zero (E : Nat → List Nat) (b x : Nat) : fromP E b 0 x = [] := by simp [fromP]
theorem fromP_succ {E : Nat → List Nat} {b k y : Nat} (hy : (E b)[k]? = some y) (x : Nat) : fromP E b (k + 1) x = if x = y then fromP E b k x ++ [b] else fromP E b k x := by
  obtain ⟨hl, e⟩ := List.getElem?_eq_some_iff.1 hy
  unfold fromP
  rw [List.take_succ_eq_append_getElem hl, List.filter_append, List.map_append, e]
  by_cases q : x = y
  · subst q; simp
  · simp [q, Ne.symm q]
theorem fromP_len (E : Nat → List Nat) (b k x : Nat) : (fromP E b k x).length ≤ (E b).length := by
  unfold fromP
  rw [List.length_map]
  refine Nat.le_trans (List.length_filter_le _ _) ?_
  rw [List.length_take]
  omega
theorem fromL_len {E : Nat → List Nat} (hsz : ∀ b, (E b).length ≤ 2) (b x : Nat) : (fromL E b x).length ≤ 2 * b := by
  induction b with
  | zero => simp [fromL]
  | succ b ih =>
    have h1 := fromP_len E b (E b).length x
    have h2 := hsz b
    rw [fromL_succ, List.length_append]
    omega
/-- The rows while the edges are gathered. -/
structure NG (w w2 u : World) (n G gF : Nat) (PV : Value) (NV : Value) (NS : List Value) (FS : List (Value × List Nat)) : Prop where
  blk : Blk u G #[NV, .slice (some ⟨gF, 0, none⟩) n n, .slice none 0 0, PV, .slice none 0 0] 72
  nrow : u.ownsRow w2.heap.size 33 1 NV NS.length NS
  frow : u.ownsRow w.heap.size 33 1 (.slice (some ⟨gF, 0, none⟩) n n) n (FS.map Prod.fst)
  fam : Fam u w2.heap.size (FS.map fun x => (x.1, ints x.2))
  fx : ∀ k, k < w2.heap.size → k ≠ G → k ≠ gF → u.heap[k]? = w2.heap[k]?
  size : w2.heap.size ≤ u.heap.size
  bel : Below w.heap.size w u
  lt : w.heap.size ≤ G ∧ G < w2.heap.size ∧ gF < w2.heap.size
theorem NG.keep {w w2 u u' : World} {n G gF : Nat} {PV NV : Value} {NS : List Value} {FS : List (Value × List Nat)} (h : NG w w2 u n G gF PV NV NS FS) (hb : Below u.heap.size u u') : NG w w2 u' n G gF PV NV NS FS := ⟨h.blk.keep hb, own_keep h.nrow hb (Nat.le_refl _), own_keep h.frow hb (Nat.le_refl _), h.fam.keepB hb, fun k hk h1 h2 => by rw [hb.block k (Nat.lt_of_lt_of_le hk h.size)]; exact h.fx k hk h1 h2, Nat.le_trans h.size hb.size, below_on h.bel (Nat.le_refl _) hb, h.lt⟩
theorem NG.next {w w2 u u' : World} {n G gF g cap : Nat} {PV NV x : Value} {NS : List Value} {FS : List (Value × List Nat)} (h : NG w w2 u n G gF PV NV NS FS) (hw : w.heap.size ≤ w2.heap.size) (hown : u'.ownsRow w2.heap.size 33 1 (.slice (some ⟨g, 0, none⟩) (NS.length + 1) cap) (NS.length + 1) (NS ++ [x])) (hg : u.grownBy u' NV.ownBlock) : Blk u' G #[NV, .slice (some ⟨gF, 0, none⟩) n n, .slice none 0 0, PV, .slice none 0 0] 72 ∧ NG w w2 (u'.setCell ⟨G, 0, none⟩ (.slice (some ⟨g, 0, none⟩) (NS.length + 1) cap)) n G gF PV (.slice (some ⟨g, 0, none⟩) (NS.length + 1) cap) (NS ++ [x]) FS := by
  have kb := h.blk.grown hg h.nrow (by decide)
  have kf : u'.ownsRow w.heap.size 33 1 (.slice (some ⟨gF, 0, none⟩) n n) n (FS.map Prod.fst) := own_apart' h.frow hg (fun gg hgg e => by
    have h1 := (h.nrow.lt gg e.symm).1
    simp only [Value.ownBlock, Option.some.injEq] at hgg
    have := h.lt.2.2
    omega)
  have km := h.fam.grown_other hg h.nrow (by decide)
  refine ⟨kb, ?_, ?_, ?_, km.other kb (by decide) 0 _, fun k hk h1 h2 => ?_, ?_, ?_, h.lt⟩
  · have := kb.set 0 (.slice (some ⟨g, 0, none⟩) (NS.length + 1) cap)
    simpa using this
  · rw [List.length_append, List.length_singleton]
    exact ownsRow_setCell_other hown (a := ⟨G, 0, none⟩) (blk_ne kb hown (by decide)) _
  · exact ownsRow_setCell_other kf (a := ⟨G, 0, none⟩) (blk_ne kb kf (by decide)) _
  · rw [heap_setCell_other u' _ k _ h1, hg.block k (Nat.lt_of_lt_of_le hk h.size) (fun e => by have := (h.nrow.lt k e.symm).1; omega)]
    exact h.fx k hk h1 h2
  · rw [World.size_setCell]
    exact Nat.le_trans h.size hg.size
  · exact (h.bel.grown hg h.bel.size (fun i hi => Nat.le_trans hw (h.nrow.lt i hi).1)).setCell h.lt.1 _
theorem set_mid {α : Type} (A B : List α) (x y : α) : (A ++ x :: B).set A.length y = A ++ y :: B := by
  rw [List.set_append_right _ _ (Nat.le_refl _), Nat.sub_self]
  rfl
/-- A row of from grows. -/
theorem NG.app {w w2 u u' : World} {n G gF g cap y b : Nat} {PV NV V : Value} {NS : List Value} {FS : List (Value × List Nat)} {l : List Nat} (h : NG w w2 u n G gF PV NV NS FS) (hw : w.heap.size ≤ w2.heap.size) (hy : FS[y]? = some (V, l)) (hown : u'.ownsRow w2.heap.size 2 1 (.slice (some ⟨g, 0, none⟩) (l.length + 1) cap) (l.length + 1) (nv l ++ [.int .i64 (b : Int)])) (hg : u.grownBy u' V.ownBlock) (hat : V.ownBlock = some g ∨ g = u.heap.size) : u'.ownsRow w.heap.size 33 1 (.slice (some ⟨gF, 0, none⟩) n n) n (FS.map Prod.fst) ∧ NG w w2 (u'.setCell ⟨gF, y, none⟩ (.slice (some ⟨g, 0, none⟩) (l.length + 1) cap)) n G gF PV NV NS (FS.set y (.slice (some ⟨g, 0, none⟩) (l.length + 1) cap, l ++ [b])) := by
  obtain ⟨hyl, hye⟩ := List.getElem?_eq_some_iff.1 hy
  have hFS : FS = FS.take y ++ (V, l) :: FS.drop (y + 1) := by rw [← hye, ← List.drop_eq_getElem_cons hyl, List.take_append_drop]
  have hlen : (FS.take y).length = y := by rw [List.length_take]; omega
  have oV := h.fam.own (V, ints l) (List.mem_map.2 ⟨(V, l), List.mem_of_getElem? hy, rfl⟩)
  have kb := h.blk.grown hg oV (by decide)
  have kn : u'.ownsRow w2.heap.size 33 1 NV NS.length NS := own_grown h.nrow hg oV (by decide)
  have kf : u'.ownsRow w.heap.size 33 1 (.slice (some ⟨gF, 0, none⟩) n n) n (FS.map Prod.fst) := own_grown h.frow hg oV (by decide)
  have hset : FS.set y (.slice (some ⟨g, 0, none⟩) (l.length + 1) cap, l ++ [b]) = FS.take y ++ (.slice (some ⟨g, 0, none⟩) (l.length + 1) cap, l ++ [b]) :: FS.drop (y + 1) := by
    have := set_mid (FS.take y) (FS.drop (y + 1)) (V, l) (.slice (some ⟨g, 0, none⟩) (l.length + 1) cap, l ++ [b])
    rw [hlen, ← hFS] at this
    exact this
  have km : Fam u' w2.heap.size ((FS.set y (.slice (some ⟨g, 0, none⟩) (l.length + 1) cap, l ++ [b])).map fun x => (x.1, ints x.2)) := by
    have h0 := h.fam
    rw [hFS, List.map_append, List.map_cons] at h0
    rw [hset, List.map_append, List.map_cons]
    refine Fam.grow (g := g) h0 ?_ rfl hg (hat.imp id fun e => by omega)
    simp only []
    rw [ints_length, List.length_append, List.length_singleton, ← nv_flat, nv_app]
    exact hown
  have hgF := h.lt.2.2
  have hFl : gF ≠ G := fun e => blk_ne kb kf (by decide) (by rw [e]; rfl)
  have hnn : NV.ownBlock ≠ some gF := fun e => by have := (kn.lt gF e).1; omega
  refine ⟨kf, kb.other (Ne.symm hFl) _, ownsRow_setCell_other kn (a := ⟨gF, y, none⟩) hnn _, ?_, ⟨fun x hx => ?_, km.sep⟩, fun k hk h1 h2 => ?_, ?_, ?_, h.lt⟩
  · have := (kf.stored y (.slice (some ⟨g, 0, none⟩) (l.length + 1) cap)).1
    rw [List.map_set]
    exact this
  · refine ownsRow_setCell_other (km.own x hx) (a := ⟨gF, y, none⟩) (fun e => ?_) _
    have := ((km.own x hx).lt gF e).1
    omega
  · rw [heap_setCell_other u' _ k _ h2, hg.block k (Nat.lt_of_lt_of_le hk h.size) (fun e => by have := (oV.lt k e.symm).1; omega)]
    exact h.fx k hk h1 h2
  · rw [World.size_setCell]
    exact Nat.le_trans h.size hg.size
  · exact (h.bel.grown hg h.bel.size (fun i hi => Nat.le_trans hw (oV.lt i hi).1)).setCell (own_blk kf).1 _
end Go.Proofs.Ytdbaghmjomdmbaa
namespace Go.Proofs.Ytdbaghmjomdmbaa
open Go.ChangeShapes Go.WideShapes Go.ChangeAt Go.RowKit
set_option linter.unusedVariables false
theorem nv_map (l : List Nat) : nv l = (ints l).map (Value.int .i64) := by simp [nv, ints]
theorem ints_rev (l : List Nat) : ints l.reverse = (ints l).reverse := by simp [ints]
theorem reverse_own (g c base : Nat) (O : List Nat) (w : World) (hl : O.length ≤ 1048576) (h : OwN w base (.slice (some ⟨g, 0, none⟩) O.length c) O) :
    Calls Try.prog 53 #[.slice (some ⟨g, 0, none⟩) O.length c] w fun e w' => e = .returned (.tuple #[]) ∧ OwN w' base (.slice (some ⟨g, 0, none⟩) O.length c) O.reverse ∧ w.grownBy w' (some g) := by
  rcases h.2 with ⟨h', _⟩ | ⟨g', cap', cur, h', hb, hg, h3, h4, h5, h6⟩
  · cases h'
  · cases h'
    have hH : Go.Sort.Holds (Value.int .i64) w g 0 (ints O).toArray := holds_of_blockI hg (by rw [ints_length, ← nv_map]; simpa using h6)
    have hc := reverse_any g c (ints O) w hH (by rw [ints_length]; omega)
    rw [ints_length] at hc
    refine hc.mono ?_
    rintro e w' ⟨rfl, n, hw'⟩
    have e1 : w' = Go.Sort.grow (Go.Sort.putRow (Value.int .i64) (Go.Sort.ahead w n) g 0 (ints O).reverse.toArray) #[] := by rw [Go.Sort.grow_empty]; exact hw'
    refine ⟨rfl, ?_, ?_⟩
    · have := ownsRow_sortedI (w := w) (base := base) (g := g) (cap := c) (n := n) (os := #[]) (ss := ints O) (ts := (ints O).reverse) (by simp) hb hg (by rw [ints_length]; exact h3) h4 h5
      rw [← e1, ints_length, ← ints_rev, ← nv_map] at this
      unfold OwN
      rw [List.length_reverse]
      exact this
    · rw [e1]
      exact grownBy_sortedI _
theorem sort_own (g c base : Nat) (zs : List Int) (w : World) (hl : zs.length ≤ 1048576) (h : w.ownsRow base 2 1 (.slice (some ⟨g, 0, none⟩) zs.length c) zs.length (zs.flatMap intCell)) :
    Calls Try.prog 57 #[.slice (some ⟨g, 0, none⟩) zs.length c] w fun e w' => e = .returned (.tuple #[]) ∧ w'.ownsRow base 2 1 (.slice (some ⟨g, 0, none⟩) zs.length c) zs.length ((zs.mergeSort fun x y => decide (x ≤ y)).flatMap intCell) ∧ w.grownBy w' (some g) := by
  rcases h.2 with ⟨h', _⟩ | ⟨g', cap', cur, h', hb, hg, h3, h4, h5, h6⟩
  · cases h'
  · cases h'
    have hH : Go.Sort.Holds (Value.int .i64) w g 0 zs.toArray := holds_of_blockI hg (by rw [← ints_flat]; simpa using h6)
    refine (sort_any g c zs w hH (Array.getElem?_eq_some_iff.1 hg).1 (by omega)).mono ?_
    rintro e w' ⟨rfl, n, os, rfl⟩
    refine ⟨rfl, ?_, grownBy_sortedI _⟩
    rw [ints_flat]
    exact ownsRow_sortedI (List.mergeSort_perm zs _).length_eq hb hg h3 h4 h5
/-- Edges are kept where their rows are. -/
theorem EdAt.fxs {w u : World} {g n : Nat} {E : Nat → List Nat} {X : List Nat} (h : EdAt w g 0 n E) (hf : ∀ k, k < w.heap.size → k ∉ X → u.heap[k]? = w.heap[k]?) (hg : g ∉ X) (hr : ∀ b a m c, b < n → w.cell? ⟨g, b, none⟩ = some (.slice (some a) m c) → 0 < m → a.block ∉ X) : EdAt u g 0 n E := fun b hb => by
  have hc : ∀ {a : Addr} {x : Value}, w.cell? a = some x → a.block ∉ X → u.cell? a = some x := fun {a x} q hne => by
    have := hf a.block (block_lt_of_cell q) hne
    unfold World.cell? at *
    rw [this]
    exact q
  obtain ⟨a, c, h1, h2⟩ := h b hb
  rw [Nat.zero_add] at h1
  refine ⟨a, c, by rw [Nat.zero_add]; exact hc h1 hg, h2.1, h2.2.imp id ?_⟩
  rintro ⟨g', o', c', e, q⟩
  refine ⟨g', o', c', e, fun j v hj => hc (q j v hj) ?_⟩
  simp only [Value.slice.injEq, true_and] at e
  exact hr b ⟨g', o', none⟩ _ c hb (by rw [h1, e.1]) (by have := (List.getElem?_eq_some_iff.1 hj).1; rw [nv_length] at this; omega)
/-- A graph, made. -/
structure GM (w u : World) (n G gN cN gF gO cO gP : Nat) (E : Nat → List Nat) (S O : List Nat) : Prop where
  ge : w.heap.size ≤ G
  blk : Blk u G #[.slice (some ⟨gN, 0, none⟩) n cN, .slice (some ⟨gF, 0, none⟩) n n, .slice (some ⟨gO, 0, none⟩) O.length cO, .slice (some ⟨gP, 0, none⟩) n n, .slice none 0 0] 72
  nx : EdAt u gN 0 n E
  fr : EdAt u gF 0 n (fromL E n)
  vs : Vs E [] [] [0] S O
  ord : OwN u w.heap.size (.slice (some ⟨gO, 0, none⟩) O.length cO) O.reverse
  pl : ∀ x, x ∈ O → u.cell? ⟨gP, x, none⟩ = some (.int .i64 (plO O x : Int))
  bel : Below w.heap.size w u
  ne : gN ≠ G ∧ gF ≠ G ∧ gO ≠ G ∧ gP ≠ G
  nn : ∀ b a m c, b < n → u.cell? ⟨gN, b, none⟩ = some (.slice (some a) m c) → 0 < m → a.block ≠ G
  nf : ∀ b a m c, b < n → u.cell? ⟨gF, b, none⟩ = some (.slice (some a) m c) → a.block ≠ G
theorem ng_edges {w w2 u : World} {n G gF gN cN gP : Nat} {E : Nat → List Nat} {NS : List Value} {FS : List (Value × List Nat)} (h : NG w w2 u n G gF (.slice (some ⟨gP, 0, none⟩) n n) (.slice (some ⟨gN, 0, none⟩) n cN) NS FS) (hN : NS.length = n) (hF : FS.length = n) (hfs : ∀ x, x < n → ∃ V, FS[x]? = some (V, fromL E n x)) (hns : ∀ x, x < n → ∃ a c, NS[x]? = some (.slice a (E x).length c) ∧ RdN w (.slice a (E x).length c) (E x)) (hP : w2.ownsRow w.heap.size 2 1 (.slice (some ⟨gP, 0, none⟩) n n) n (iv (fun _ => 0) n)) (hPG : gP ≠ G) (hPF : gP ≠ gF) : EdAt u gN 0 n E ∧ EdAt u gF 0 n (fromL E n) ∧ (gN ≠ G ∧ gF ≠ G ∧ gP ≠ G ∧ gN ≠ gP ∧ gF ≠ gP) ∧ (∀ b a m c, b < n → u.cell? ⟨gN, b, none⟩ = some (.slice (some a) m c) → 0 < m → a.block ≠ G ∧ a.block ≠ gP) ∧ (∀ b a m c, b < n → u.cell? ⟨gF, b, none⟩ = some (.slice (some a) m c) → a.block ≠ G ∧ a.block ≠ gP) := by
  have hgP : w.heap.size ≤ gP ∧ gP < w2.heap.size := by
    obtain ⟨h1, cur, h2⟩ := own_blk hP
    exact ⟨h1, (Array.getElem?_eq_some_iff.1 h2).1⟩
  have hG := h.lt
  have hr := h.nrow
  rw [hN] at hr
  have hgN := (own_blk hr).1
  have cN' : ∀ b, b < n → u.cell? ⟨gN, b, none⟩ = NS[b]? := fun b hb => by
    have := hr.cellAt b (by omega)
    exact this
  have cF : ∀ b, b < n → u.cell? ⟨gF, b, none⟩ = (FS.map Prod.fst)[b]? := fun b hb => h.frow.cellAt b (by omega)
  have hFG : gF ≠ G := fun e => blk_ne h.blk h.frow (by decide) (by rw [e]; rfl)
  refine ⟨fun b hb => ?_, fun b hb => ?_, ⟨by omega, hFG, hPG, by omega, Ne.symm hPF⟩, fun b a m c hb hc hm => ?_, fun b a m c hb hc => ?_⟩
  · obtain ⟨a, c, h1, h2⟩ := hns b hb
    exact ⟨a, c, by rw [Nat.zero_add, cN' b hb]; exact h1, Rd.keep h2 h.bel (Nat.le_refl _)⟩
  · obtain ⟨V, hV⟩ := hfs b hb
    have ho := h.fam.own (V, ints (fromL E n b)) (List.mem_map.2 ⟨(V, _), List.mem_of_getElem? hV, rfl⟩)
    obtain ⟨a, c, e⟩ := own_slice ho
    simp only [ints_length] at e
    subst e
    refine ⟨a, c, by rw [Nat.zero_add, cF b hb, List.getElem?_map, hV]; rfl, ?_⟩
    have := Rd.of_own ho
    simp only [ints_length] at this
    rw [← nv_flat] at this
    exact this
  · rw [cN' b hb] at hc
    obtain ⟨a', c', h1, h2⟩ := hns b hb
    rw [h1] at hc
    simp only [Option.some.injEq, Value.slice.injEq] at hc
    obtain ⟨rfl, rfl, rfl⟩ := hc
    rcases h2.2 with ⟨e0, _⟩ | ⟨g', o', c', e1, q⟩
    · omega
    · simp only [Value.slice.injEq, Option.some.injEq, true_and] at e1
      obtain ⟨rfl, rfl⟩ := e1
      obtain ⟨x, hx⟩ : ∃ x, (E b)[0]? = some x := ⟨_, List.getElem?_eq_getElem hm⟩
      have := block_lt_of_cell (q 0 _ (nv_at hx))
      simp only [] at this ⊢
      omega
  · rw [cF b hb] at hc
    obtain ⟨V, hV⟩ := hfs b hb
    rw [List.getElem?_map, hV] at hc
    simp only [Option.map_some, Option.some.injEq] at hc
    subst hc
    have ho := h.fam.own _ (List.mem_map.2 ⟨(_, _), List.mem_of_getElem? hV, rfl⟩)
    have := (ho.lt a.block rfl).1
    omega
/-- The order is told. -/
structure NGO (w u3 u : World) (n G gN cN gF gO cO gP : Nat) (R : List Nat) : Prop where
  blk : Blk u G #[.slice (some ⟨gN, 0, none⟩) n cN, .slice (some ⟨gF, 0, none⟩) n n, .slice (some ⟨gO, 0, none⟩) R.length cO, .slice (some ⟨gP, 0, none⟩) n n, .slice none 0 0] 72
  ord : OwN u u3.heap.size (.slice (some ⟨gO, 0, none⟩) R.length cO) R
  prow : u.ownsRow w.heap.size 2 1 (.slice (some ⟨gP, 0, none⟩) n n) n (iv (fun _ => 0) n)
  fx : ∀ k, k < u3.heap.size → k ≠ G → k ≠ gP → u.heap[k]? = u3.heap[k]?
  size : u3.heap.size ≤ u.heap.size
  bel : Below w.heap.size w u
theorem NGO.rev {w u3 u u' : World} {n G gN cN gF gO cO gP : Nat} {O : List Nat} (h : NGO w u3 u n G gN cN gF gO cO gP O) (hgO : u3.heap.size ≤ gO) (hG : G < u3.heap.size) (hP : gP < u3.heap.size) (hw : w.heap.size ≤ u3.heap.size) (ho : OwN u' u3.heap.size (.slice (some ⟨gO, 0, none⟩) O.length cO) O.reverse) (hg : u.grownBy u' (some gO)) : NGO w u3 u' n G gN cN gF gO cO gP O.reverse := by
  refine ⟨?_, by rw [List.length_reverse]; exact ho, own_apart' h.prow hg (fun q hq e => by simp only [Value.ownBlock, Option.some.injEq] at hq; have := Option.some.inj e; omega), fun k hk h1 h2 => ?_, Nat.le_trans h.size hg.size, h.bel.grown hg h.bel.size (fun j hj => by cases hj; omega)⟩
  · rw [List.length_reverse]
    exact h.blk.gb hg (fun e => by have := Option.some.inj e; omega)
  · rw [hg.block k (Nat.lt_of_lt_of_le hk h.size) (fun e => by have := Option.some.inj e; omega)]
    exact h.fx k hk h1 h2
/-- The places are told. -/
structure NGP (w u7 u : World) (n gP : Nat) (O : List Nat) (k : Nat) : Prop where
  row : u.ownsRow w.heap.size 2 1 (.slice (some ⟨gP, 0, none⟩) n n) n (iv (plTo O k) n)
  fx : ∀ k, k < u7.heap.size → k ≠ gP → u.heap[k]? = u7.heap[k]?
  bel : Below w.heap.size w u
theorem NGP.set {w u7 u : World} {n gP k x : Nat} {O : List Nat} (h : NGP w u7 u n gP O k) (hd : O.Nodup) (hx : O.reverse[k]? = some x) : NGP w u7 (u.setCell ⟨gP, x, none⟩ (.int .i64 (k : Int))) n gP O (k + 1) := by
  refine ⟨?_, fun k hk hne => by rw [heap_setCell_other u _ k _ hne]; exact h.fx k hk hne, h.bel.setCell (own_blk h.row).1 _⟩
  have := (h.row.stored x (.int .i64 (k : Int))).1
  rw [iv_set (plTo_next hd hx n)] at this
  exact this
theorem NGP.cell {w u7 u : World} {n gP k : Nat} {O : List Nat} (h : NGP w u7 u n gP O k) {a : Addr} {x : Value} (hb : u7.cell? a = some x) (hne : a.block ≠ gP) : u.cell? a = some x := by
  have := h.fx a.block (block_lt_of_cell hb) hne
  unfold World.cell? at *
  rw [this]
  exact hb
theorem gm_end {w u3 u7 u : World} {n G gN cN gF gO cO gP : Nat} {E : Nat → List Nat} {S O : List Nat} (h7 : NGO w u3 u7 n G gN cN gF gO cO gP O.reverse) (hp : NGP w u7 u n gP O O.length) (hv : Vs E [] [] [0] S O) (hOm : ∀ x ∈ O, x < n) (hG : w.heap.size ≤ G) (hG3 : G < u3.heap.size) (hP3 : gP < u3.heap.size) (hw3 : w.heap.size ≤ u3.heap.size) (e1 : EdAt u3 gN 0 n E) (e2 : EdAt u3 gF 0 n (fromL E n)) (ne : gN ≠ G ∧ gF ≠ G ∧ gP ≠ G ∧ gN ≠ gP ∧ gF ≠ gP) (n1 : ∀ b a m c, b < n → u3.cell? ⟨gN, b, none⟩ = some (.slice (some a) m c) → 0 < m → a.block ≠ G ∧ a.block ≠ gP) (n2 : ∀ b a m c, b < n → u3.cell? ⟨gF, b, none⟩ = some (.slice (some a) m c) → a.block ≠ G ∧ a.block ≠ gP) : GM w u n G gN cN gF gO cO gP E S O := by
  have hgO := (own_blk h7.ord).1
  have fx : ∀ k, k < u3.heap.size → k ∉ [G, gP] → u.heap[k]? = u3.heap[k]? := fun k hk hne => by
    simp only [List.mem_cons, List.not_mem_nil, or_false, not_or] at hne
    rw [hp.fx k (Nat.lt_of_lt_of_le hk h7.size) hne.2]
    exact h7.fx k hk hne.1 hne.2
  have hcb : ∀ (g b : Nat), g ∉ [G, gP] → g < u3.heap.size → u.cell? ⟨g, b, none⟩ = u3.cell? ⟨g, b, none⟩ := fun g b hne hlt => by
    unfold World.cell?
    rw [fx g hlt hne]
  have hgN : gN < u3.heap.size ∨ n = 0 := by
    by_cases q : n = 0
    · exact .inr q
    · obtain ⟨a, c, h1, _⟩ := e1 0 (by omega)
      exact .inl (block_lt_of_cell h1)
  have hgF : gF < u3.heap.size ∨ n = 0 := by
    by_cases q : n = 0
    · exact .inr q
    · obtain ⟨a, c, h1, _⟩ := e2 0 (by omega)
      exact .inl (block_lt_of_cell h1)
  have m1 : gN ∉ [G, gP] := by simp [ne]
  have m2 : gF ∉ [G, gP] := by simp [ne]
  have kb : Blk u G #[.slice (some ⟨gN, 0, none⟩) n cN, .slice (some ⟨gF, 0, none⟩) n n, .slice (some ⟨gO, 0, none⟩) O.length cO, .slice (some ⟨gP, 0, none⟩) n n, .slice none 0 0] 72 := by
    have h := h7.blk
    rw [List.length_reverse] at h
    unfold Blk at *
    rw [hp.fx G h7.blk.lt (Ne.symm ne.2.2.1)]
    exact h
  refine ⟨hG, kb, e1.fxs fx m1 (fun b a m c hb hc hm => by have := n1 b a m c hb hc hm; simp [this]), e2.fxs fx m2 (fun b a m c hb hc _ => by have := n2 b a m c hb hc; simp [this]), hv, ?_, fun x hx => ?_, hp.bel, ⟨ne.1, ne.2.1, by omega, ne.2.2.1⟩, fun b a m c hb hc hm => ?_, fun b a m c hb hc => ?_⟩
  · have h := h7.ord
    have h2 : OwN u u3.heap.size (.slice (some ⟨gO, 0, none⟩) O.reverse.length cO) O.reverse := h.fx hp.fx (fun g hg => by simp only [Value.ownBlock, Option.some.injEq] at hg; omega)
    rw [List.length_reverse] at h2
    exact own_lower h2 hw3
  · have := hp.row.cellAt x (by have := hOm x hx; omega)
    rw [iv_at _ _ _ (hOm x hx), plTo_all O x hx] at this
    exact this
  · rw [hcb gN b m1 (hgN.resolve_right (by omega))] at hc
    exact (n1 b a m c hb hc hm).1
  · rw [hcb gF b m2 (hgF.resolve_right (by omega))] at hc
    exact (n2 b a m c hb hc).1
end Go.Proofs.Ytdbaghmjomdmbaa
