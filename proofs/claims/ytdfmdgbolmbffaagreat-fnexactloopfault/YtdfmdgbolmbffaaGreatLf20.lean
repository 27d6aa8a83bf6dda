import Derived.Test.YtdfmdgbolmbffaaGreatLf19
import Derived.Test.YtdfmdgbolmbffaaGreatLf12
import Derived.Sort.OwnSortedInts
namespace Go.Proofs.YtdfmdgbolmbffaaGreat
open Go.ChangeShapes Go.WideShapes Go.ChangeAt Go.RowKit
set_option linter.unusedVariables false
theorem infoSI : (Tryz.prog.info? 48).map (fun i => (i.zero, i.size, i.bytes)) = some (some (.slice none 0 0), 1, 24) := by kernel_rfl
theorem made_nils (n : Nat) : (madeCells (Value.slice none 0 0).cells (n * 1)).toList = List.replicate n (.slice none 0 0) := by
  rw [flatTo_zero (fun b : Bool => [Value.bool b]) [.slice none 0 0] [] n (.slice none 0 0) 1 rfl rfl (by omega)]
  simp [flatTo, List.flatten_replicate_singleton]
/-- A graph as it is made. -/
structure NG0 (w u : World) (n G gF gP : Nat) : Prop where
  blk : Blk u G #[.slice none 0 0, .slice (some ⟨gF, 0, none⟩) n n, .slice none 0 0, .slice (some ⟨gP, 0, none⟩) n n, .slice none 0 0] 176
  frow : u.ownsRow w.heap.size 48 1 (.slice (some ⟨gF, 0, none⟩) n n) n (List.replicate n (.slice none 0 0))
  prow : u.ownsRow w.heap.size 2 1 (.slice (some ⟨gP, 0, none⟩) n n) n (iv (fun _ => 0) n)
  bel : Below w.heap.size w u
  ge : w.heap.size ≤ G
theorem NG0.of {w W : World} {n gF gP : Nat} (hf : W.ownsRow w.heap.size 48 1 (.slice (some ⟨gF, 0, none⟩) n n) n (List.replicate n (.slice none 0 0))) (hp : W.ownsRow w.heap.size 2 1 (.slice (some ⟨gP, 0, none⟩) n n) n (iv (fun _ => 0) n)) (hb : Below w.heap.size w W) : NG0 w (W.alloc (.cells #[.slice none 0 0, .slice (some ⟨gF, 0, none⟩) n n, .slice none 0 0, .slice (some ⟨gP, 0, none⟩) n n, .slice none 0 0] 176)) n W.heap.size gF gP := ⟨Blk.new _ _ _, own_keep hf (below_alloc _ _) (Nat.le_refl _), own_keep hp (below_alloc _ _) (Nat.le_refl _), below_on hb (Nat.le_refl _) (below_alloc _ _), hb.size⟩
theorem below_none {w w' : World} (hg : w.grownBy w' none) : Below w.heap.size w w' := (Below.refl _ _).grown hg (Nat.le_refl _) (fun k hk => by cases hk)
/-- From where, so far. -/
def fromP (E : Nat → List Nat) (b k x : Nat) : List Nat := (((E b).take k).filter fun y => decide (y = x)).map fun _ => b
theorem fromL_succ (E : Nat → List Nat) (b x : Nat) : fromL E (b + 1) x = fromL E b x ++ fromP E b (E b).length x := by
  unfold fromL fromP
  rw [List.range_succ, List.flatMap_append]
  simp
theorem fromP_zero (E : Nat → List Nat) (b x : Nat) : fromP E b 0 x = [] := by simp [fromP]
theorem fromP_succ {E : Nat → List Nat} {b k y : Nat} (hy : (E b)[k]? = some y) (x : Nat) : fromP E b (k + 1) x = if x = y then fromP E b k x ++ [b] else fromP E b k x := by
  obtain ⟨hl, e⟩ := List.getElem?_eq_some_iff.1 hy
  unfold fromP
  rw [List.take_succ_eq_append_getElem hl, List.filter_append, List.map_append, e]
  by_cases q : x = y
  · subst q; simp
  · simp [q, Ne.symm q]
theorem fromP_len (E : Nat → List Nat) (b k x : Nat) : (fromP E b k x).length ≤ (E b).length := by
  unfold fromP
  rw [List.length_map]
  refine Nat.le_trans (List.length_filter_le _ _) ?_
  rw [List.length_take]
  omega
theorem fromL_len {E : Nat → List Nat} (hsz : ∀ b, (E b).length ≤ 2) (b x : Nat) : (fromL E b x).length ≤ 2 * b := by
  induction b with
  | zero => simp [fromL]
  | succ b ih =>
    have h1 := fromP_len E b (E b).length x
    have h2 := hsz b
    rw [fromL_succ, List.length_append]
    omega
/-- The rows while the edges are gathered. -/
structure NG (w w2 u : World) (n G gF : Nat) (PV : Value) (NV : Value) (NS : List Value) (FS : List (Value × List Nat)) : Prop where
  blk : Blk u G #[NV, .slice (some ⟨gF, 0, none⟩) n n, .slice none 0 0, PV, .slice none 0 0] 176
  nrow : u.ownsRow w2.heap.size 48 1 NV NS.length NS
  frow : u.ownsRow w.heap.size 48 1 (.slice (some ⟨gF, 0, none⟩) n n) n (FS.map Prod.fst)
  fam : Fam u w2.heap.size (FS.map fun x => (x.1, ints x.2))
  fx : ∀ k, k < w2.heap.size → k ≠ G → k ≠ gF → u.heap[k]? = w2.heap[k]?
  size : w2.heap.size ≤ u.heap.size
  bel : Below w.heap.size w u
  lt : w.heap.size ≤ G ∧ G < w2.heap.size ∧ gF < w2.heap.size
theorem NG.keep {w w2 u u' : World} {n G gF : Nat} {PV NV : Value} {NS : List Value} {FS : List (Value × List Nat)} (h : NG w w2 u n G gF PV NV NS FS) (hb : Below u.heap.size u u') : NG w w2 u' n G gF PV NV NS FS := ⟨h.blk.keep hb, own_keep h.nrow hb (Nat.le_refl _), own_keep h.frow hb (Nat.le_refl _), h.fam.keepB hb, fun k hk h1 h2 => by rw [hb.block k (Nat.lt_of_lt_of_le hk h.size)]; exact h.fx k hk h1 h2, Nat.le_trans h.size hb.size, below_on h.bel (Nat.le_refl _) hb, h.lt⟩
theorem NG.next {w w2 u u' : World} {n G gF g cap : Nat} {PV NV x : Value} {NS : List Value} {FS : List (Value × List Nat)} (h : NG w w2 u n G gF PV NV NS FS) (hw : w.heap.size ≤ w2.heap.size) (hown : u'.ownsRow w2.heap.size 48 1 (.slice (some ⟨g, 0, none⟩) (NS.length + 1) cap) (NS.length + 1) (NS ++ [x])) (hg : u.grownBy u' NV.ownBlock) : Blk u' G #[NV, .slice (some ⟨gF, 0, none⟩) n n, .slice none 0 0, PV, .slice none 0 0] 176 ∧ NG w w2 (u'.setCell ⟨G, 0, none⟩ (.slice (some ⟨g, 0, none⟩) (NS.length + 1) cap)) n G gF PV (.slice (some ⟨g, 0, none⟩) (NS.length + 1) cap) (NS ++ [x]) FS := by
  have kb := h.blk.grown hg h.nrow (by decide)
  have kf : u'.ownsRow w.heap.size 48 1 (.slice (some ⟨gF, 0, none⟩) n n) n (FS.map Prod.fst) := own_apart' h.frow hg (fun gg hgg e => by
    have h1 := (h.nrow.lt gg e.symm).1
    simp only [Value.ownBlock, Option.some.injEq] at hgg
    have := h.lt.2.2
    omega)
  have km := h.fam.grown_other hg h.nrow (by decide)
  refine ⟨kb, ?_, ?_, ?_, km.other kb (by decide) 0 _, fun k hk h1 h2 => ?_, ?_, ?_, h.lt⟩
  · have := kb.set 0 (.slice (some ⟨g, 0, none⟩) (NS.length + 1) cap)
    simpa using this
  · rw [List.length_append, List.length_singleton]
    exact ownsRow_setCell_other hown (a := ⟨G, 0, none⟩) (blk_ne kb hown (by decide)) _
  · exact ownsRow_setCell_other kf (a := ⟨G, 0, none⟩) (blk_ne kb kf (by decide)) _
  · rw [heap_setCell_other u' _ k _ h1, hg.block k (Nat.lt_of_lt_of_le hk h.size) (fun e => by have := (h.nrow.lt k e.symm).1; omega)]
    exact h.fx k hk h1 h2
  · rw [World.size_setCell]
    exact Nat.le_trans h.size hg.size
  · exact (h.bel.grown hg h.bel.size (fun i hi => Nat.le_trans hw (h.nrow.lt i hi).1)).setCell h.lt.1 _
theorem set_mid {α : Type} (A B : List α) (x y : α) : (A ++ x :: B).set A.length y = A ++ y :: B := by
  rw [List.set_append_right _ _ (Nat.le_refl _), Nat.sub_self]
  rfl
/-- A row of from grows. -/
theorem NG.app {w w2 u u' : World} {n G gF g cap y b : Nat} {PV NV V : Value} {NS : List Value} {FS : List (Value × List Nat)} {l : List Nat} (h : NG w w2 u n G gF PV NV NS FS) (hw : w.heap.size ≤ w2.heap.size) (hy : FS[y]? = some (V, l)) (hown : u'.ownsRow w2.heap.size 2 1 (.slice (some ⟨g, 0, none⟩) (l.length + 1) cap) (l.length + 1) (nv l ++ [.int .i64 (b : Int)])) (hg : u.grownBy u' V.ownBlock) (hat : V.ownBlock = some g ∨ g = u.heap.size) : u'.ownsRow w.heap.size 48 1 (.slice (some ⟨gF, 0, none⟩) n n) n (FS.map Prod.fst) ∧ NG w w2 (u'.setCell ⟨gF, y, none⟩ (.slice (some ⟨g, 0, none⟩) (l.length + 1) cap)) n G gF PV NV NS (FS.set y (.slice (some ⟨g, 0, none⟩) (l.length + 1) cap, l ++ [b])) := by
  obtain ⟨hyl, hye⟩ := List.getElem?_eq_some_iff.1 hy
  have hFS : FS = FS.take y ++ (V, l) :: FS.drop (y + 1) := by rw [← hye, ← List.drop_eq_getElem_cons hyl, List.take_append_drop]
  have hlen : (FS.take y).length = y := by rw [List.length_take]; omega
  have oV := h.fam.own (V, ints l) (List.mem_map.2 ⟨(V, l), List.mem_of_getElem? hy, rfl⟩)
  have kb := h.blk.grown hg oV (by decide)
  have kn : u'.ownsRow w2.heap.size 48 1 NV NS.length NS := own_grown h.nrow hg oV (by decide)
  have kf : u'.ownsRow w.heap.size 48 1 (.slice (some ⟨gF, 0, none⟩) n n) n (FS.map Prod.fst) := own_grown h.frow hg oV (by decide)
  have hset : FS.set y (.slice (some ⟨g, 0, none⟩) (l.length + 1) cap, l ++ [b]) = FS.take y ++ (.slice (some ⟨g, 0, none⟩) (l.length + 1) cap, l ++ [b]) :: FS.drop (y + 1) := by
    have := set_mid (FS.take y) (FS.drop (y + 1)) (V, l) (.slice (some ⟨g, 0, none⟩) (l.length + 1) cap, l ++ [b])
    rw [hlen, ← hFS] at this
    exact this
  have km : Fam u' w2.heap.size ((FS.set y (.slice (some ⟨g, 0, none⟩) (l.length + 1) cap, l ++ [b])).map fun x => (x.1, ints x.2)) := by
    have h0 := h.fam
    rw [hFS, List.map_append, List.map_cons] at h0
    rw [hset, List.map_append, List.map_cons]
    refine Fam.grow (g := g) h0 ?_ rfl hg (hat.imp id fun e => by omega)
    simp only []
    rw [ints_length, List.length_append, List.length_singleton, ← nv_flat, nv_app]
    exact hown
  have hgF := h.lt.2.2
  have hFl : gF ≠ G := fun e => blk_ne kb kf (by decide) (by rw [e]; rfl)
  have hnn : NV.ownBlock ≠ some gF := fun e => by have := (kn.lt gF e).1; omega
  refine ⟨kf, kb.other (Ne.symm hFl) _, ownsRow_setCell_other kn (a := ⟨gF, y, none⟩) hnn _, ?_, ⟨fun x hx => ?_, km.sep⟩, fun k hk h1 h2 => ?_, ?_, ?_, h.lt⟩
  · have := (kf.stored y (.slice (some ⟨g, 0, none⟩) (l.length + 1) cap)).1
    rw [List.map_set]
    exact this
  · refine ownsRow_setCell_other (km.own x hx) (a := ⟨gF, y, none⟩) (fun e => ?_) _
    have := ((km.own x hx).lt gF e).1
    omega
  · rw [heap_setCell_other u' _ k _ h2, hg.block k (Nat.lt_of_lt_of_le hk h.size) (fun e => by have := (oV.lt k e.symm).1; omega)]
    exact h.fx k hk h1 h2
  · rw [World.size_setCell]
    exact Nat.le_trans h.size hg.size
  · exact (h.bel.grown hg h.bel.size (fun i hi => Nat.le_trans hw (oV.lt i hi).1)).setCell (own_blk kf).1 _
end Go.Proofs.YtdfmdgbolmbffaaGreat
namespace Go.Proofs.YtdfmdgbolmbffaaGreat
open Go.ChangeShapes Go.WideShapes Go.ChangeAt Go.RowKit
set_option linter.unusedVariables false
theorem nv_map (l : List Nat) : nv l = (ints l).map (Value.int .i64) := by simp [nv, ints]
theorem ints_rev (l : List Nat) : ints l.reverse = (ints l).reverse := by simp [ints]
theorem reverse_own (g c base : Nat) (O : List Nat) (w : World) (hl : O.length ≤ 1048576) (h : OwN w base (.slice (some ⟨g, 0, none⟩) O.length c) O) :
    Calls Tryz.prog 140 #[.slice (some ⟨g, 0, none⟩) O.length c] w fun e w' => e = .returned (.tuple #[]) ∧ OwN w' base (.slice (some ⟨g, 0, none⟩) O.length c) O.reverse ∧ w.grownBy w' (some g) := by
  rcases h.2 with ⟨h', _⟩ | ⟨g', cap', cur, h', hb, hg, h3, h4, h5, h6⟩
  · cases h'
  · cases h'
    have hH : Go.Sort.Holds (Value.int .i64) w g 0 (ints O).toArray := holds_of_blockI hg (by rw [ints_length, ← nv_map]; simpa using h6)
    have hc := reverse_any g c (ints O) w hH (by rw [ints_length]; omega)
    rw [ints_length] at hc
    refine hc.mono ?_
    rintro e w' ⟨rfl, n, hw'⟩
    have e1 : w' = Go.Sort.grow (Go.Sort.putRow (Value.int .i64) (Go.Sort.ahead w n) g 0 (ints O).reverse.toArray) #[] := by rw [Go.Sort.grow_empty]; exact hw'
    refine ⟨rfl, ?_, ?_⟩
    · have := ownsRow_sortedI (w := w) (base := base) (g := g) (cap := c) (n := n) (os := #[]) (ss := ints O) (ts := (ints O).reverse) (by simp) hb hg (by rw [ints_length]; exact h3) h4 h5
      rw [← e1, ints_length, ← ints_rev, ← nv_map] at this
      unfold OwN
      rw [List.length_reverse]
      exact this
    · rw [e1]
      exact grownBy_sortedI _
theorem sort_own (g c base : Nat) (zs : List Int) (w : World) (hl : zs.length ≤ 1048576) (h : w.ownsRow base 2 1 (.slice (some ⟨g, 0, none⟩) zs.length c) zs.length (zs.flatMap intCell)) :
    Calls Tryz.prog 145 #[.slice (some ⟨g, 0, none⟩) zs.length c] w fun e w' => e = .returned (.tuple #[]) ∧ w'.ownsRow base 2 1 (.slice (some ⟨g, 0, none⟩) zs.length c) zs.length ((zs.mergeSort fun x y => decide (x ≤ y)).flatMap intCell) ∧ w.grownBy w' (some g) := by
  rcases h.2 with ⟨h', _⟩ | ⟨g', cap', cur, h', hb, hg, h3, h4, h5, h6⟩
  · cases h'
  · cases h'
    have hH : Go.Sort.Holds (Value.int .i64) w g 0 zs.toArray := holds_of_blockI hg (by rw [← ints_flat]; simpa using h6)
    refine (sort_any g c zs w hH (Array.getElem?_eq_some_iff.1 hg).1 (by omega)).mono ?_
    rintro e w' ⟨rfl, n, os, rfl⟩
    refine ⟨rfl, ?_, grownBy_sortedI _⟩
    rw [ints_flat]
    exact ownsRow_sortedI (List.mergeSort_perm zs _).length_eq hb hg h3 h4 h5
/-- Edges are kept where their rows are. -/
theorem EdAt.fxs {w u : World} {g n : Nat} {E : Nat → List Nat} {X : List Nat} (h : EdAt w g 0 n E) (hf : ∀ k, k < w.heap.size → k ∉ X → u.heap[k]? = w.heap[k]?) (hg : g ∉ X) (hr : ∀ b a m c, b < n → w.cell? ⟨g, b, none⟩ = some (.slice (some a) m c) → 0 < m → a.block ∉ X) : EdAt u g 0 n E := fun b hb => by
  have hc : ∀ {a : Addr} {x : Value}, w.cell? a = some x → a.block ∉ X → u.cell? a = some x := fun {a x} q hne => by
    have := hf a.block (block_lt_of_cell q) hne
    unfold World.cell? at *
    rw [this]
    exact q
  obtain ⟨a, c, h1, h2⟩ := h b hb
  rw [Nat.zero_add] at h1
  refine ⟨a, c, by rw [Nat.zero_add]; exact hc h1 hg, h2.1, h2.2.imp id ?_⟩
  rintro ⟨g', o', c', e, q⟩
  refine ⟨g', o', c', e, fun j v hj => hc (q j v hj) ?_⟩
  simp only [Value.slice.injEq, true_and] at e
  exact hr b ⟨g', o', none⟩ _ c hb (by rw [h1, e.1]) (by have := (List.getElem?_eq_some_iff.1 hj).1; rw [nv_length] at this; omega)
/-- A graph, made. -/
structure GM (w u : World) (n G gN cN gF gO cO gP : Nat) (E : Nat → List Nat) (S O : List Nat) : Prop where
  ge : w.heap.size ≤ G
  blk : Blk u G #[.slice (some ⟨gN, 0, none⟩) n cN, .slice (some ⟨gF, 0, none⟩) n n, .slice (some ⟨gO, 0, none⟩) O.length cO, .slice (some ⟨gP, 0, none⟩) n n, .slice none 0 0] 176
  nx : EdAt u gN 0 n E
  fr : EdAt u gF 0 n (fromL E n)
  vs : Vs E [] [] [0] S O
  ord : OwN u w.heap.size (.slice (some ⟨gO, 0, none⟩) O.length cO) O.reverse
  pl : ∀ x, x ∈ O → u.cell? ⟨gP, x, none⟩ = some (.int .i64 (plO O x : Int))
  bel : Below w.heap.size w u
  ne : gN ≠ G ∧ gF ≠ G ∧ gO ≠ G ∧ gP ≠ G
  nn : ∀ b a m c, b < n → u.cell? ⟨gN, b, none⟩ = some (.slice (some a) m c) → 0 < m → a.block ≠ G
  nf : ∀ b a m c, b < n → u.cell? ⟨gF, b, none⟩ = some (.slice (some a) m c) → a.block ≠ G
theorem ng_edges {w w2 u : World} {n G gF gN cN gP : Nat} {E : Nat → List Nat} {NS : List Value} {FS : List (Value × List Nat)} (h : NG w w2 u n G gF (.slice (some ⟨gP, 0, none⟩) n n) (.slice (some ⟨gN, 0, none⟩) n cN) NS FS) (hN : NS.length = n) (hF : FS.length = n) (hfs : ∀ x, x < n → ∃ V, FS[x]? = some (V, fromL E n x)) (hns : ∀ x, x < n → ∃ a c, NS[x]? = some (.slice a (E x).length c) ∧ RdN w (.slice a (E x).length c) (E x)) (hP : w2.ownsRow w.heap.size 2 1 (.slice (some ⟨gP, 0, none⟩) n n) n (iv (fun _ => 0) n)) (hPG : gP ≠ G) (hPF : gP ≠ gF) : EdAt u gN 0 n E ∧ EdAt u gF 0 n (fromL E n) ∧ (gN ≠ G ∧ gF ≠ G ∧ gP ≠ G ∧ gN ≠ gP ∧ gF ≠ gP) ∧ (∀ b a m c, b < n → u.cell? ⟨gN, b, none⟩ = some (.slice (some a) m c) → 0 < m → a.block ≠ G ∧ a.block ≠ gP) ∧ (∀ b a m c, b < n → u.cell? ⟨gF, b, none⟩ = some (.slice (some a) m c) → a.block ≠ G ∧ a.block ≠ gP) := by
  have hgP : w.heap.size ≤ gP ∧ gP < w2.heap.size := by
    obtain ⟨h1, cur, h2⟩ := own_blk hP
    exact ⟨h1, (Array.getElem?_eq_some_iff.1 h2).1⟩
  have hG := h.lt
  have hr := h.nrow
  rw [hN] at hr
  have hgN := (own_blk hr).1
  have cN' : ∀ b, b < n → u.cell? ⟨gN, b, none⟩ = NS[b]? := fun b hb => by
    have := hr.cellAt b (by omega)
    exact this
  have cF : ∀ b, b < n → u.cell? ⟨gF, b, none⟩ = (FS.map Prod.fst)[b]? := fun b hb => h.frow.cellAt b (by omega)
  have hFG : gF ≠ G := fun e => blk_ne h.blk h.frow (by decide) (by rw [e]; rfl)
  refine ⟨fun b hb => ?_, fun b hb => ?_, ⟨by omega, hFG, hPG, by omega, Ne.symm hPF⟩, fun b a m c hb hc hm => ?_, fun b a m c hb hc => ?_⟩
  · obtain ⟨a, c, h1, h2⟩ := hns b hb
    exact ⟨a, c, by rw [Nat.zero_add, cN' b hb]; exact h1, Rd.keep h2 h.bel (Nat.le_refl _)⟩
  · obtain ⟨V, hV⟩ := hfs b hb
    have ho := h.fam.own (V, ints (fromL E n b)) (List.mem_map.2 ⟨(V, _), List.mem_of_getElem? hV, rfl⟩)
    obtain ⟨a, c, e⟩ := own_slice ho
    simp only [ints_length] at e
    subst e
    refine ⟨a, c, by rw [Nat.zero_add, cF b hb, List.getElem?_map, hV]; rfl, ?_⟩
    have := Rd.of_own ho
    simp only [ints_length] at this
    rw [← nv_flat] at this
    exact this
  · rw [cN' b hb] at hc
    obtain ⟨a', c', h1, h2⟩ := hns b hb
    rw [h1] at hc
    simp only [Option.some.injEq, Value.slice.injEq] at hc
    obtain ⟨rfl, rfl, rfl⟩ := hc
    rcases h2.2 with ⟨e0, _⟩ | ⟨g', o', c', e1, q⟩
    · omega
    · simp only [Value.slice.injEq, Option.some.injEq, true_and] at e1
      obtain ⟨rfl, rfl⟩ := e1
      obtain ⟨x, hx⟩ : ∃ x, (E b)[0]? = some x := ⟨_, List.getElem?_eq_getElem hm⟩
      have := block_lt_of_cell (q 0 _ (nv_at hx))
      simp only [] at this ⊢
      omega
  · rw [cF b hb] at hc
    obtain ⟨V, hV⟩ := hfs b hb
    rw [List.getElem?_map, hV] at hc
    simp only [Option.map_some, Option.some.injEq] at hc
    subst hc
    have ho := h.fam.own _ (List.mem_map.2 ⟨(_, _), List.mem_of_getElem? hV, rfl⟩)
    have := (ho.lt a.block rfl).1
    omega
/-- The order is told. -/
structure NGO (w u3 u : World) (n G gN cN gF gO cO gP : Nat) (R : List Nat) : Prop where
  blk : Blk u G #[.slice (some ⟨gN, 0, none⟩) n cN, .slice (some ⟨gF, 0, none⟩) n n, .slice (some ⟨gO, 0, none⟩) R.length cO, .slice (some ⟨gP, 0, none⟩) n n, .slice none 0 0] 176
  ord : OwN u u3.heap.size (.slice (some ⟨gO, 0, none⟩) R.length cO) R
  prow : u.ownsRow w.heap.size 2 1 (.slice (some ⟨gP, 0, none⟩) n n) n (iv (fun _ => 0) n)
  fx : ∀ k, k < u3.heap.size → k ≠ G → k ≠ gP → u.heap[k]? = u3.heap[k]?
  size : u3.heap.size ≤ u.heap.size
  bel : Below w.heap.size w u
theorem NGO.rev {w u3 u u' : World} {n G gN cN gF gO cO gP : Nat} {O : List Nat} (h : NGO w u3 u n G gN cN gF gO cO gP O) (hgO : u3.heap.size ≤ gO) (hG : G < u3.heap.size) (hP : gP < u3.heap.size) (hw : w.heap.size ≤ u3.heap.size) (ho : OwN u' u3.heap.size (.slice (some ⟨gO, 0, none⟩) O.length cO) O.reverse) (hg : u.grownBy u' (some gO)) : NGO w u3 u' n G gN cN gF gO cO gP O.reverse := by
  refine ⟨?_, by rw [List.length_reverse]; exact ho, own_apart' h.prow hg (fun q hq e => by simp only [Value.ownBlock, Option.some.injEq] at hq; have := Option.some.inj e; omega), fun k hk h1 h2 => ?_, Nat.le_trans h.size hg.size, h.bel.grown hg h.bel.size (fun j hj => by cases hj; omega)⟩
  · rw [List.length_reverse]
    exact h.blk.gb hg (fun e => by have := Option.some.inj e; omega)
  · rw [hg.block k (Nat.lt_of_lt_of_le hk h.size) (fun e => by have := Option.some.inj e; omega)]
    exact h.fx k hk h1 h2
/-- The places are told. -/
structure NGP (w u7 u : World) (n gP : Nat) (O : List Nat) (k : Nat) : Prop where
  row : u.ownsRow w.heap.size 2 1 (.slice (some ⟨gP, 0, none⟩) n n) n (iv (plTo O k) n)
  fx : ∀ k, k < u7.heap.size → k ≠ gP → u.heap[k]? = u7.heap[k]?
  bel : Below w.heap.size w u
theorem NGP.set {w u7 u : World} {n gP k x : Nat} {O : List Nat} (h : NGP w u7 u n gP O k) (hd : O.Nodup) (hx : O.reverse[k]? = some x) : NGP w u7 (u.setCell ⟨gP, x, none⟩ (.int .i64 (k : Int))) n gP O (k + 1) := by
  refine ⟨?_, fun k hk hne => by rw [heap_setCell_other u _ k _ hne]; exact h.fx k hk hne, h.bel.setCell (own_blk h.row).1 _⟩
  have := (h.row.stored x (.int .i64 (k : Int))).1
  rw [iv_set (plTo_next hd hx n)] at this
  exact this
theorem NGP.cell {w u7 u : World} {n gP k : Nat} {O : List Nat} (h : NGP w u7 u n gP O k) {a : Addr} {x : Value} (hb : u7.cell? a = some x) (hne : a.block ≠ gP) : u.cell? a = some x := by
  have := h.fx a.block (block_lt_of_cell hb) hne
  unfold World.cell? at *
  rw [this]
  exact hb
theorem gm_end {w u3 u7 u : World} {n G gN cN gF gO cO gP : Nat} {E : Nat → List Nat} {S O : List Nat} (h7 : NGO w u3 u7 n G gN cN gF gO cO gP O.reverse) (hp : NGP w u7 u n gP O O.length) (hv : Vs E [] [] [0] S O) (hOm : ∀ x ∈ O, x < n) (hG : w.heap.size ≤ G) (hG3 : G < u3.heap.size) (hP3 : gP < u3.heap.size) (hw3 : w.heap.size ≤ u3.heap.size) (e1 : EdAt u3 gN 0 n E) (e2 : EdAt u3 gF 0 n (fromL E n)) (ne : gN ≠ G ∧ gF ≠ G ∧ gP ≠ G ∧ gN ≠ gP ∧ gF ≠ gP) (n1 : ∀ b a m c, b < n → u3.cell? ⟨gN, b, none⟩ = some (.slice (some a) m c) → 0 < m → a.block ≠ G ∧ a.block ≠ gP) (n2 : ∀ b a m c, b < n → u3.cell? ⟨gF, b, none⟩ = some (.slice (some a) m c) → a.block ≠ G ∧ a.block ≠ gP) : GM w u n G gN cN gF gO cO gP E S O := by
  have hgO := (own_blk h7.ord).1
  have fx : ∀ k, k < u3.heap.size → k ∉ [G, gP] → u.heap[k]? = u3.heap[k]? := fun k hk hne => by
    simp only [List.mem_cons, List.not_mem_nil, or_false, not_or] at hne
    rw [hp.fx k (Nat.lt_of_lt_of_le hk h7.size) hne.2]
    exact h7.fx k hk hne.1 hne.2
  have hcb : ∀ (g b : Nat), g ∉ [G, gP] → g < u3.heap.size → u.cell? ⟨g, b, none⟩ = u3.cell? ⟨g, b, none⟩ := fun g b hne hlt => by
    unfold World.cell?
    rw [fx g hlt hne]
  have hgN : gN < u3.heap.size ∨ n = 0 := by
    by_cases q : n = 0
    · exact .inr q
    · obtain ⟨a, c, h1, _⟩ := e1 0 (by omega)
      exact .inl (block_lt_of_cell h1)
  have hgF : gF < u3.heap.size ∨ n = 0 := by
    by_cases q : n = 0
    · exact .inr q
    · obtain ⟨a, c, h1, _⟩ := e2 0 (by omega)
      exact .inl (block_lt_of_cell h1)
  have m1 : gN ∉ [G, gP] := by simp [ne]
  have m2 : gF ∉ [G, gP] := by simp [ne]
  have kb : Blk u G #[.slice (some ⟨gN, 0, none⟩) n cN, .slice (some ⟨gF, 0, none⟩) n n, .slice (some ⟨gO, 0, none⟩) O.length cO, .slice (some ⟨gP, 0, none⟩) n n, .slice none 0 0] 176 := by
    have h := h7.blk
    rw [List.length_reverse] at h
    unfold Blk at *
    rw [hp.fx G h7.blk.lt (Ne.symm ne.2.2.1)]
    exact h
  refine ⟨hG, kb, e1.fxs fx m1 (fun b a m c hb hc hm => by have := n1 b a m c hb hc hm; simp [this]), e2.fxs fx m2 (fun b a m c hb hc _ => by have := n2 b a m c hb hc; simp [this]), hv, ?_, fun x hx => ?_, hp.bel, ⟨ne.1, ne.2.1, by omega, ne.2.2.1⟩, fun b a m c hb hc hm => ?_, fun b a m c hb hc => ?_⟩
  · have h := h7.ord
    have h2 : OwN u u3.heap.size (.slice (some ⟨gO, 0, none⟩) O.reverse.length cO) O.reverse := h.fx hp.fx (fun g hg => by simp only [Value.ownBlock, Option.some.injEq] at hg; omega)
    rw [List.length_reverse] at h2
    exact own_lower h2 hw3
  · have := hp.row.cellAt x (by have := hOm x hx; omega)
    rw [iv_at _ _ _ (hOm x hx), plTo_all O x hx] at this
    exact this
  · rw [hcb gN b m1 (hgN.resolve_right (by omega))] at hc
    exact (n1 b a m c hb hc hm).1
  · rw [hcb gF b m2 (hgF.resolve_right (by omega))] at hc
    exact (n2 b a m c hb hc).1
end Go.Proofs.YtdfmdgbolmbffaaGreat
namespace Go.Proofs.YtdfmdgbolmbffaaGreat
open Go.ChangeShapes Go.WideShapes Go.ChangeAt Go.RowKit
set_option linter.unusedVariables false
/-- Rows of numbers, in a row. -/
structure BK (w u : World) (n gB : Nat) (FS : List (Value × List Nat)) : Prop where
  frow : u.ownsRow w.heap.size 48 1 (.slice (some ⟨gB, 0, none⟩) n n) n (FS.map Prod.fst)
  fam : Fam u w.heap.size (FS.map fun x => (x.1, ints x.2))
  bel : Below w.heap.size w u
theorem BK.keep {w u u' : World} {n gB : Nat} {FS : List (Value × List Nat)} (h : BK w u n gB FS) (hb : Below u.heap.size u u') : BK w u' n gB FS := ⟨own_keep h.frow hb (Nat.le_refl _), h.fam.keepB hb, below_on h.bel (Nat.le_refl _) hb⟩
theorem BK.app {w u u' : World} {n gB g cap y b : Nat} {V : Value} {FS : List (Value × List Nat)} {l : List Nat} (h : BK w u n gB FS) (hy : FS[y]? = some (V, l)) (hown : u'.ownsRow w.heap.size 2 1 (.slice (some ⟨g, 0, none⟩) (l.length + 1) cap) (l.length + 1) (nv l ++ [.int .i64 (b : Int)])) (hg : u.grownBy u' V.ownBlock) (hat : V.ownBlock = some g ∨ g = u.heap.size) : u'.ownsRow w.heap.size 48 1 (.slice (some ⟨gB, 0, none⟩) n n) n (FS.map Prod.fst) ∧ BK w (u'.setCell ⟨gB, y, none⟩ (.slice (some ⟨g, 0, none⟩) (l.length + 1) cap)) n gB (FS.set y (.slice (some ⟨g, 0, none⟩) (l.length + 1) cap, l ++ [b])) := by
  obtain ⟨hyl, hye⟩ := List.getElem?_eq_some_iff.1 hy
  have hFS : FS = FS.take y ++ (V, l) :: FS.drop (y + 1) := by rw [← hye, ← List.drop_eq_getElem_cons hyl, List.take_append_drop]
  have hlen : (FS.take y).length = y := by rw [List.length_take]; omega
  have oV := h.fam.own (V, ints l) (List.mem_map.2 ⟨(V, l), List.mem_of_getElem? hy, rfl⟩)
  have kf : u'.ownsRow w.heap.size 48 1 (.slice (some ⟨gB, 0, none⟩) n n) n (FS.map Prod.fst) := own_grown h.frow hg oV (by decide)
  have hset : FS.set y (.slice (some ⟨g, 0, none⟩) (l.length + 1) cap, l ++ [b]) = FS.take y ++ (.slice (some ⟨g, 0, none⟩) (l.length + 1) cap, l ++ [b]) :: FS.drop (y + 1) := by
    have := set_mid (FS.take y) (FS.drop (y + 1)) (V, l) (.slice (some ⟨g, 0, none⟩) (l.length + 1) cap, l ++ [b])
    rw [hlen, ← hFS] at this
    exact this
  have km : Fam u' w.heap.size ((FS.set y (.slice (some ⟨g, 0, none⟩) (l.length + 1) cap, l ++ [b])).map fun x => (x.1, ints x.2)) := by
    have h0 := h.fam
    rw [hFS, List.map_append, List.map_cons] at h0
    rw [hset, List.map_append, List.map_cons]
    refine Fam.grow (g := g) h0 ?_ rfl hg (hat.imp id fun e => by omega)
    simp only []
    rw [ints_length, List.length_append, List.length_singleton, ← nv_flat, nv_app]
    exact hown
  obtain ⟨hge, cur, hcur⟩ := own_blk kf
  refine ⟨kf, ?_, ⟨fun x hx => ownsRow_setCell_other (km.own x hx) (a := ⟨gB, y, none⟩) (fun e => type_apart (km.own x hx) hcur (by decide) gB e rfl) _, km.sep⟩, (h.bel.grown hg h.bel.size (fun i hi => (oV.lt i hi).1)).setCell hge _⟩
  have := (kf.stored y (.slice (some ⟨g, 0, none⟩) (l.length + 1) cap)).1
  rw [List.map_set]
  exact this
theorem backP_at {E : Nat → List Nat} {D : Nat → Nat → Bool} {b k y : Nat} (hy : (E b)[k]? = some y) (x : Nat) : backP E D x b (k + 1) = if x = y ∧ D y b = true then backP E D x b k ++ [b] else backP E D x b k := by
  by_cases e : x = y
  · subst e
    by_cases q : D x b = true
    · rw [if_pos ⟨rfl, q⟩, backP_yes hy q]
    · rw [if_neg (fun r => q r.2), backP_no hy (fun r => q r.2)]
  · rw [if_neg (fun r => e r.1), backP_no hy (fun r => e r.1.symm)]
/-- What backEdges tells. -/
def BackIs (w w' : World) (n : Nat) (E : Nat → List Nat) (O : List Nat) (D : Nat → Nat → Bool) (e : Ending) : Prop := (∃ b k y : Nat, e = .returned (.tuple #[.slice none 0 0, .int .i64 (y : Int)]) ∧ FirstBad E n (Bad O D) b k y) ∨ ∃ gB FS, e = .returned (.tuple #[.slice (some ⟨gB, 0, none⟩) n n, .int .i64 (-1)]) ∧ (∀ b, b < n → ∀ t ∈ E b, ¬ Bad O D b t) ∧ BK w w' n gB FS ∧ FS.length = n ∧ ∀ x, x < n → ∃ V, FS[x]? = some (V, backL E D n x)
set_option maxHeartbeats 8000000 in
set_option maxRecDepth 100000 in
theorem backEdges_any (G n gN cN gP cP gi ci : Nat) (E : Nat → List Nat) (O : List Nat) (I : Nat → Int) (D : Nat → Nat → Bool) (w : World) (hn : n ≤ 1024) (hP : Place E n (plO O)) (hI : DoneI E n (plO O) I) (hD : ∀ d b, D d b = true ↔ Dom E d b) (hsz : ∀ b, (E b).length ≤ 2)
    (h0 : w.cell? ⟨G, 0, none⟩ = some (.slice (some ⟨gN, 0, none⟩) n cN)) (hN : EdAt w gN 0 n E) (hG : GI w G n gP cP gi ci (plO O) I) :
    Calls Tryz.prog 115 #[.pointer (some ⟨G, 0, none⟩)] w fun e w' => BackIs w w' n E O D e ∧ Below w.heap.size w w' := by
  obtain ⟨k0, hk, hx0, hx1, hx2⟩ := info_parts info64
  obtain ⟨j0, hj, hy0, hy1, hy2⟩ := info_parts infoSI
  have H : Hid (EdAt w gN 0 n E ∧ GI w G n gP cP gi ci (plO O) I ∧ Place E n (plO O) ∧ DoneI E n (plO O) I ∧ (∀ d b, D d b = true ↔ Dom E d b) ∧ (∀ b, (E b).length ≤ 2) ∧ w.cell? ⟨G, 0, none⟩ = some (.slice (some ⟨gN, 0, none⟩) n cN)) := ⟨hN, hG, hP, hI, hD, hsz, h0⟩
  clear hN hG hP hI hD hsz
  go_enter Tryz.func115, Tryz.ntmps115
  go_upto_region 2 with (at_make; refine wpList_make_full _ rfl _ _ 22 rfl w.heap.size 48 j0 (.slice none 0 0) 1 Tryz.underlying22 hj hy0 hy1 .i64 .i64 _ _ n rfl rfl rfl rfl (by rw [hy2]; omega) (by unfold maxLen; omega) (Nat.le_refl _) ?_; intro w3 hown hgrow)
  rw [made_nils] at hown
  have HB0 : Hid (BK w w3 n w.heap.size ((List.range n).map fun x => ((.slice none 0 0 : Value), backL E D 0 x))) := by
    refine ⟨?_, ⟨fun x hx => ?_, ?_⟩, below_none hgrow⟩
    · rw [List.map_map]
      have e : (List.range n).map (Prod.fst ∘ fun x => ((.slice none 0 0 : Value), backL E D 0 x)) = List.replicate n (.slice none 0 0) := by
        apply List.ext_getElem?
        intro j
        by_cases hj : j < n
        · simp [hj]
        · rw [List.getElem?_eq_none (by simp; omega), List.getElem?_eq_none (by simp; omega)]
      rw [e]
      exact hown
    · simp only [List.mem_map] at hx
      obtain ⟨y, ⟨z, _, rfl⟩, rfl⟩ := hx
      have : ints (backL E D 0 z) = [] := by simp [backL, ints]
      simp only [this]
      exact World.ownsRow_nil _ _ _ _
    · rw [List.map_map]
      refine List.pairwise_map.2 (List.pairwise_lt_range.imp fun _ => ?_)
      intro g hg
      cases hg
  have x0 := bcell_keep HB0.out.bel h0
  clear hown hgrow h0
  obtain ⟨gB, hgB⟩ : ∃ gB, gB = w.heap.size := ⟨_, rfl⟩
  have HGB : Hid (gB = w.heap.size) := hgB
  rw [← hgB] at ⊢
  have HB1 : Hid (BK w w3 n gB ((List.range n).map fun x => ((.slice none 0 0 : Value), backL E D 0 x))) := by rw [HGB.out]; exact HB0
  clear hgB HB0
  go_wp2
  go_loopw [20] (fun i wr => ∃ (b : Nat) (FS : List (Value × List Nat)), b ≤ n ∧ i = .int .i64 b ∧ FS.length = n ∧ Hid (BK w wr n gB FS ∧ (∀ x, x < n → ∃ V, FS[x]? = some (V, backL E D b x)) ∧ (∀ b', b' < b → ∀ t ∈ E b', ¬ Bad O D b' t))) (fun i _ => n - (intOf i).toNat)
  case atStart => exact ⟨0, _, by omega, rfl, by simp, HB1.out, fun x hx => ⟨.slice none 0 0, by simp [hx]⟩, fun b' hb' => by omega⟩
  case round =>
    clear HB1 x0
    obtain ⟨b, FS, hb, rfl, hFS, HL⟩ := hrel
    by_cases hlt : b < n
    · have hltI : (b : Int) < (n : Int) := by omega
      obtain ⟨a, ca, g0, g1⟩ := H.out.1 b hlt
      rw [Nat.zero_add] at g0
      have HGR : Hid (RdN w (.slice a (E b).length ca) (E b)) := g1
      replace g0 := bcell_keep HL.out.1.bel g0
      have hE2 := H.out.2.2.2.2.2.1 b
      clear g1
      go_wp2
      go_loopw [27] (fun i wr => ∃ (k : Nat) (FS : List (Value × List Nat)), k ≤ (E b).length ∧ i = .int .i64 k ∧ FS.length = n ∧ Hid (BK w wr n gB FS ∧ (∀ x, x < n → ∃ V, FS[x]? = some (V, backL E D b x ++ backP E D x b k)) ∧ (∀ b', b' < b → ∀ t ∈ E b', ¬ Bad O D b' t) ∧ (∀ k' t, k' < k → (E b)[k']? = some t → ¬ Bad O D b t))) (fun i _ => 2 - (intOf i).toNat)
      case atStart => exact ⟨0, FS, by omega, rfl, hFS, HL.out.1, fun x hx => by obtain ⟨V, hV⟩ := HL.out.2.1 x hx; exact ⟨V, by rw [backP_zero, List.append_nil]; exact hV⟩, HL.out.2.2, fun k' t hk' => by omega⟩
      case round =>
        clear HL g0
        obtain ⟨k, FS, hk', rfl, hFS, HL⟩ := hrel
        by_cases hlt2 : k < (E b).length
        · have hlt2I : (k : Int) < ((E b).length : Int) := by omega
          obtain ⟨y, hy⟩ : ∃ y, (E b)[k]? = some y := ⟨_, List.getElem?_eq_getElem hlt2⟩
          have hyn : y < n := H.out.2.2.1.edge b hlt y (List.mem_of_getElem? hy)
          have hynI : (y : Int) < (n : Int) := by omega
          have HY : Hid ((E b)[k]? = some y) := hy
          obtain ⟨ga, oa, rfl, _, y0⟩ := HGR.out.at_ hy
          replace y0 := bcell_keep HL.out.1.bel y0
          have hg := H.out.2.1.keep HL.out.1.bel
          have p0 := hg.p
          have py := hg.pc y hyn
          have pb := hg.pc b hlt
          clear hy hg
          have HNX : Hid (¬ Bad O D b y → ∀ k' t', k' < k + 1 → (E b)[k']? = some t' → ¬ Bad O D b t') := fun hnb k' t' h1 h2 => by
            by_cases e : k' = k
            · subst e
              rw [HY.out] at h2
              cases h2
              exact hnb
            · exact HL.out.2.2.2 k' t' (by omega) h2
          by_cases hp : plO O b < plO O y
          · have hpI : (plO O b : Int) < (plO O y : Int) := by omega
            have HN : Hid ((∀ x, x < n → ∃ V, FS[x]? = some (V, backL E D b x ++ backP E D x b (k + 1))) ∧ ∀ k' t', k' < k + 1 → (E b)[k']? = some t' → ¬ Bad O D b t') := by
              refine ⟨fun x hx => ?_, HNX.out (fun q => by have := q.1; omega)⟩
              rw [backP_at HY.out x, if_neg]
              · exact HL.out.2.1 x hx
              · rintro ⟨_, q⟩
                have := (((H.out.2.2.2.2.1 y b).1 q).way H.out.2.2.1 hlt).2.1
                omega
            go_wp2
            go_quiet (fail)
            refine with_world (fun u => Hid (BK w u n gB FS)) (HL.out.1.keep (below_drewN _ _ _)) ?_
            intro U HU
            clear y0 p0 py pb
            go_wp2
            go_roundw
            case rel => exact ⟨k + 1, FS, by omega, by go_num, hFS, HU.out, HN.out.1, HL.out.2.2.1, HN.out.2⟩
            case measure => simp [intOf]; omega
          · have hpI : ¬ (plO O b : Int) < (plO O y : Int) := by omega
            go_wp2
            go_quiet (fail)
            refine with_world (fun u => Hid (BK w u n gB FS)) (HL.out.1.keep (below_drewN _ _ _)) ?_
            intro U HU
            clear y0 p0 py pb
            go_wp2_with fail
            refine (meet_any G n gP cP gi ci y b (plO O) I U hn H.out.2.2.2.1.dinv.tree H.out.2.2.1.zero H.out.2.2.1.inj hyn hlt (H.out.2.2.2.1.all y hyn) (H.out.2.2.2.1.all b hlt) (H.out.2.1.keep HU.out.bel)).mono ?_
            rintro e u5 ⟨m, rfl, hm, hkm, hM, b5⟩
            have HMY : Hid (m = y ↔ D y b = true) := by
              rw [H.out.2.2.2.2.1, ← H.out.2.2.2.1.dom y b hlt]
              constructor
              · intro e
                subst e
                exact ((hM m).1 .here).2
              · intro q
                exact Anc.anti H.out.2.2.2.1.dinv.tree hyn ((hM m).1 .here).1 ((hM y).2 ⟨.here, q⟩)
            have HU5 : Hid (BK w u5 n gB FS) := HU.out.keep b5
            clear hM b5 HU
            by_cases hmy : m = y
            · subst hmy
              have HDy : Hid (D m b = true) := HMY.out.1 rfl
              obtain ⟨V, hV⟩ := HL.out.2.1 m hyn
              obtain ⟨aV, cV, eV⟩ := own_slice (HL.out.1.fam.own (V, ints (backL E D b m ++ backP E D m b k)) (List.mem_map.2 ⟨(V, _), List.mem_of_getElem? hV, rfl⟩))
              simp only [ints_length] at eV
              subst eV
              have hll : (backL E D b m ++ backP E D m b k).length ≤ 4096 := by
                have h1 := backL_len H.out.2.2.2.2.2.1 D m b
                have h2 := backP_len E D m b k
                rw [List.length_append]
                omega
              generalize hLV : backL E D b m ++ backP E D m b k = lv at hV hll
              have HLV : Hid (backL E D b m ++ backP E D m b k = lv ∧ FS[m]? = some (.slice aV lv.length cV, lv)) := ⟨hLV, hV⟩
              clear hV hLV HMY
              have HFC : Hid (∀ (u' : World), u'.ownsRow w.heap.size 48 1 (.slice (some ⟨gB, 0, none⟩) n n) n (FS.map Prod.fst) → u'.cell? ⟨gB, m, none⟩ = some (.slice aV lv.length cV)) := fun u' hu' => by
                have := hu'.cellAt m (by omega)
                rw [List.getElem?_map, HLV.out.2] at this
                exact this
              have bE := below_alloc u5 (.cells #[.int .i64 (b : Int)] 2)
              have x2 := HFC.out _ HU5.out.frow
              have HUE : Hid (BK w (u5.alloc (.cells #[.int .i64 (b : Int)] 2)) n gB FS ∧ w.heap.size ≤ (u5.alloc (.cells #[.int .i64 (b : Int)] 2)).heap.size) := ⟨HU5.out.keep bE, Nat.le_trans HU5.out.bel.size bE.size⟩
              have HOW : Hid ((u5.alloc (.cells #[.int .i64 (b : Int)] 2)).ownsRow w.heap.size 2 1 (.slice aV lv.length cV) lv.length (nv lv)) := by
                have := HUE.out.1.fam.own (.slice aV lv.length cV, ints lv) (List.mem_map.2 ⟨(_, lv), List.mem_of_getElem? HLV.out.2, rfl⟩)
                rw [ints_length, ← nv_flat] at this
                exact this
              have HAP : Hid (∀ g6 cap6 w6, w6.ownsRow w.heap.size 2 1 (.slice (some ⟨g6, 0, none⟩) (lv.length + 1) cap6) (lv.length + 1) (nv lv ++ [.int .i64 (b : Int)]) → (u5.alloc (.cells #[.int .i64 (b : Int)] 2)).grownBy w6 (Value.slice aV lv.length cV).ownBlock → ((Value.slice aV lv.length cV).ownBlock = some g6 ∨ g6 = (u5.alloc (.cells #[.int .i64 (b : Int)] 2)).heap.size) → w6.cell? ⟨gB, m, none⟩ = some (.slice aV lv.length cV) ∧ w6.frozen? ⟨gB, m, none⟩ = false ∧ BK w (w6.setCell ⟨gB, m, none⟩ (.slice (some ⟨g6, 0, none⟩) (lv.length + 1) cap6)) n gB (FS.set m (.slice (some ⟨g6, 0, none⟩) (lv.length + 1) cap6, lv ++ [b]))) := fun g6 cap6 w6 hown hgrow hat => by
                obtain ⟨q1, q2⟩ := HUE.out.1.app HLV.out.2 hown hgrow hat
                exact ⟨HFC.out _ q1, q1.frozenAt m, q2⟩
              clear bE
              go_wp2_with (at_builtin; refine wpList_append_lies _ rfl _ _ 48 rfl w.heap.size 2 k0 (.int .i64 0) 1 8 Tryz.underlying48 hk hx0 hx1 hx2 rfl (by decide) _ lv.length (nv lv) rfl HOW.out ⟨u5.heap.size, 0, none⟩ 1 1 [.int .i64 (b : Int)] rfl rfl (one_cell u5 (b : Int)) (fun u hu => by simp at hu; subst hu; rfl) (by omega) (by simp [maxLen]; omega) (by omega) HUE.out.2 _ rfl ?_; intro g6 cap6 w6 hown hgrow hat hlt9; obtain ⟨t6, z6, l6⟩ := HAP.out g6 cap6 w6 hown hgrow hat; have HU6 : Hid (BK w (w6.setCell ⟨gB, m, none⟩ (.slice (some ⟨g6, 0, none⟩) (lv.length + 1) cap6)) n gB (FS.set m (.slice (some ⟨g6, 0, none⟩) (lv.length + 1) cap6, lv ++ [b]))) := l6; clear hown hgrow hat hlt9 l6)
              have HN : Hid ((∀ x, x < n → ∃ V, (FS.set m (.slice (some ⟨g6, 0, none⟩) (lv.length + 1) cap6, lv ++ [b]))[x]? = some (V, backL E D b x ++ backP E D x b (k + 1))) ∧ ∀ k' t', k' < k + 1 → (E b)[k']? = some t' → ¬ Bad O D b t') := by
                refine ⟨fun x hx => ?_, HNX.out (fun q => q.2 HDy.out)⟩
                rw [backP_at HY.out x]
                by_cases e : x = m
                · subst e
                  refine ⟨.slice (some ⟨g6, 0, none⟩) (lv.length + 1) cap6, ?_⟩
                  rw [if_pos ⟨rfl, HDy.out⟩, ← List.append_assoc, HLV.out.1, List.getElem?_set_self (by omega)]
                · rw [if_neg (fun r => e r.1), List.getElem?_set_ne (Ne.symm e)]
                  exact HL.out.2.1 x hx
              clear x2 HUE HOW HAP HFC
              go_roundw
              case rel => exact ⟨k + 1, FS.set m (.slice (some ⟨g6, 0, none⟩) (lv.length + 1) cap6, lv ++ [b]), by omega, by go_num, by rw [List.length_set]; exact hFS, HU6.out, HN.out.1, HL.out.2.2.1, HN.out.2⟩
              case measure => simp [intOf]; omega
            · have hmyB : ((m : Int) == (y : Int)) = false := by simp; omega
              have hDy : ¬ D y b = true := fun q => hmy (HMY.out.2 q)
              have HFB : Hid (FirstBad E n (Bad O D) b k y) := ⟨hlt, HY.out, ⟨by omega, hDy⟩, fun b' k' x' hb' hx' hl => by
                rcases hl with q | ⟨rfl, q⟩
                · exact HL.out.2.2.1 b' q x' (List.mem_of_getElem? hx')
                · exact HL.out.2.2.2 k' x' q hx'⟩
              go_wp2
              go_ret2
              exact ⟨Or.inl ⟨b, k, y, rfl, HFB.out⟩, HU5.out.bel⟩
        · obtain rfl : k = (E b).length := by omega
          have HN : Hid ((∀ x, x < n → ∃ V, FS[x]? = some (V, backL E D (b + 1) x)) ∧ ∀ b', b' < b + 1 → ∀ t ∈ E b', ¬ Bad O D b' t) := by
            refine ⟨fun x hx => by rw [backL_succ]; exact HL.out.2.1 x hx, fun b' hb' t ht => ?_⟩
            by_cases e : b' = b
            · subst e
              obtain ⟨q, hq⟩ := List.getElem?_of_mem ht
              exact HL.out.2.2.2 q t (List.getElem?_eq_some_iff.1 hq).1 hq
            · exact HL.out.2.2.1 b' (by omega) t ht
          go_wp2
          go_roundw
          case rel => exact ⟨b + 1, FS, by omega, by go_num, hFS, HL.out.1, HN.out.1, HN.out.2⟩
          case measure => simp [intOf]; omega
    · have ebn : b = n := by omega
      have hltI : ¬ (b : Int) < (n : Int) := by omega
      rw [ebn] at HL
      go_wp2
      go_ret2
      exact ⟨Or.inr ⟨gB, FS, rfl, HL.out.2.2, HL.out.1, hFS, HL.out.2.1⟩, HL.out.1.bel⟩
end Go.Proofs.YtdfmdgbolmbffaaGreat
namespace Go.Proofs.YtdfmdgbolmbffaaGreat
open Go.ChangeShapes Go.WideShapes Go.ChangeAt Go.RowKit
set_option linter.unusedVariables false
structure PF (w6 u : World) (X : Nat) (Vb Vo Vi : Value) (Is : List Int) (Vl : Value) (ys : List (ML × Value × Value)) : Prop where
  blk : Blk u X #[.int .i64 0, .int .i64 0, Vb, Vo, Vi, Vl] 67
  fam : Fam u w6.heap.size ((Vi, Is) :: lrows ys)
  lps : u.ownsRow w6.heap.size 53 3 Vl ys.length (ys.flatMap lCells)
  fx : ∀ k, k < w6.heap.size → k ≠ X → u.heap[k]? = w6.heap[k]?
  size : w6.heap.size ≤ u.heap.size
  bel : Below X w6 u
  lt : X < w6.heap.size
theorem PF.keep {w6 u u' : World} {X : Nat} {Vb Vo Vi Vl : Value} {Is : List Int} {ys : List (ML × Value × Value)} (h : PF w6 u X Vb Vo Vi Is Vl ys) (hb : Below u.heap.size u u') : PF w6 u' X Vb Vo Vi Is Vl ys := ⟨h.blk.keep hb, h.fam.keepB hb, own_keep h.lps hb (Nat.le_refl _), fun k hk hne => by rw [hb.block k (Nat.lt_of_lt_of_le hk h.size)]; exact h.fx k hk hne, Nat.le_trans h.size hb.size, h.bel.trans (hb.mono (by have := h.lt; have := h.size; omega)), h.lt⟩
theorem PF.cell {w6 u : World} {X : Nat} {Vb Vo Vi Vl : Value} {Is : List Int} {ys : List (ML × Value × Value)} (h : PF w6 u X Vb Vo Vi Is Vl ys) {a : Addr} {x : Value} (hb : w6.cell? a = some x) (hne : a.block ≠ X) : u.cell? a = some x := by
  have := h.fx a.block (block_lt_of_cell hb) hne
  unfold World.cell? at *
  rw [this]
  exact hb
theorem PF.idom {w6 u u' : World} {X g cap : Nat} {Vb Vo Vi Vl : Value} {Is : List Int} {ys : List (ML × Value × Value)} {z : Int} (h : PF w6 u X Vb Vo Vi Is Vl ys) (hown : u'.ownsRow w6.heap.size 2 1 (.slice (some ⟨g, 0, none⟩) (Is.length + 1) cap) (Is.length + 1) (Is.flatMap intCell ++ [.int .i64 z])) (hg : u.grownBy u' Vi.ownBlock) (hat : Vi.ownBlock = some g ∨ g = u.heap.size) : Blk u' X #[.int .i64 0, .int .i64 0, Vb, Vo, Vi, Vl] 67 ∧ PF w6 (u'.setCell ⟨X, 4, none⟩ (.slice (some ⟨g, 0, none⟩) (Is.length + 1) cap)) X Vb Vo (.slice (some ⟨g, 0, none⟩) (Is.length + 1) cap) (Is ++ [z]) Vl ys := by
  have oI := h.fam.own (Vi, Is) (List.mem_cons_self ..)
  have kb := h.blk.grown hg oI (by decide)
  have kl : u'.ownsRow w6.heap.size 53 3 Vl ys.length (ys.flatMap lCells) := own_grown h.lps hg oI (by decide)
  have kf : Fam u' w6.heap.size ((.slice (some ⟨g, 0, none⟩) (Is.length + 1) cap, Is ++ [z]) :: lrows ys) := by
    have := Fam.grow (A := []) (l' := Is ++ [z]) (V' := .slice (some ⟨g, 0, none⟩) (Is.length + 1) cap) (g := g) h.fam (by
      rw [List.length_append, List.length_singleton, List.flatMap_append]
      exact hown) rfl hg (hat.imp id fun e => by omega)
    simpa using this
  refine ⟨kb, ?_, kf.other kb (by decide) 4 _, ownsRow_setCell_other kl (a := ⟨X, 4, none⟩) (blk_ne kb kl (by decide)) _, fun k hk hne => ?_, ?_, ?_, h.lt⟩
  · have := kb.set 4 (.slice (some ⟨g, 0, none⟩) (Is.length + 1) cap)
    simpa using this
  · rw [heap_setCell_other u' _ k _ hne, hg.block k (Nat.lt_of_lt_of_le hk h.size) (fun e => by have := (oI.lt k e.symm).1; omega)]
    exact h.fx k hk hne
  · rw [World.size_setCell]
    exact Nat.le_trans h.size hg.size
  · exact (h.bel.grown hg (by have := h.lt; have := h.size; omega) (fun i hi => by have := (oI.lt i hi).1; have := h.lt; omega)).setCell (Nat.le_refl _) _
theorem PF.loop {w6 u u1 u' : World} {X g cap : Nat} {Vb Vo Vi Vl BV KV : Value} {Is : List Int} {ys : List (ML × Value × Value)} {m : ML} (h : PF w6 u X Vb Vo Vi Is Vl ys) (hb : Below u.heap.size u u1) (h1 : u1.ownsRow u.heap.size 2 1 BV m.back.length (m.back.flatMap intCell)) (h2 : u1.ownsRow u.heap.size 2 1 KV m.blocks.length (m.blocks.flatMap intCell)) (hne : ∀ q, BV.ownBlock = some q → KV.ownBlock ≠ some q) (hown : u'.ownsRow w6.heap.size 53 3 (.slice (some ⟨g, 0, none⟩) (ys.length + 1) cap) (ys.length + 1) (ys.flatMap lCells ++ [.int .i64 m.head, BV, KV])) (hg : u1.grownBy u' Vl.ownBlock) : Blk u' X #[.int .i64 0, .int .i64 0, Vb, Vo, Vi, Vl] 67 ∧ PF w6 (u'.setCell ⟨X, 5, none⟩ (.slice (some ⟨g, 0, none⟩) (ys.length + 1) cap)) X Vb Vo Vi Is (.slice (some ⟨g, 0, none⟩) (ys.length + 1) cap) (ys ++ [(m, BV, KV)]) := by
  have h' := h.keep hb
  have kb := h'.blk.grown hg h'.lps (by decide)
  have kf0 : Fam u1 w6.heap.size ((Vi, Is) :: lrows (ys ++ [(m, BV, KV)])) := by
    have := h.fam.join2 hb h1 h2 hne h.size
    simpa [lrows] using this
  have kf : Fam u' w6.heap.size ((Vi, Is) :: lrows (ys ++ [(m, BV, KV)])) := kf0.grown_other hg h'.lps (by decide)
  refine ⟨kb, ?_, kf.other kb (by decide) 5 _, ?_, fun k hk hne => ?_, ?_, ?_, h.lt⟩
  · have := kb.set 5 (.slice (some ⟨g, 0, none⟩) (ys.length + 1) cap)
    simpa using this
  · rw [List.length_append, List.length_singleton, List.flatMap_append]
    exact ownsRow_setCell_other hown (a := ⟨X, 5, none⟩) (blk_ne kb hown (by decide)) _
  · rw [heap_setCell_other u' _ k _ hne, hg.block k (Nat.lt_of_lt_of_le hk h'.size) (fun e => by have := (h'.lps.lt k e.symm).1; omega)]
    exact h'.fx k hk hne
  · rw [World.size_setCell]
    exact Nat.le_trans h'.size hg.size
  · exact (h'.bel.grown hg (by have := h.lt; have := h'.size; omega) (fun i hi => by have := (h'.lps.lt i hi).1; have := h.lt; omega)).setCell (Nat.le_refl _) _
theorem loopsTo_succ (E : Nat → List Nat) (D L : Nat → Nat → Bool) (n b : Nat) : loopsTo E D L n (b + 1) = loopsTo E D L n b ++ (if backL E D n b = [] then [] else [⟨(b : Int), ints (backL E D n b), ints ((List.range n).filter (L b))⟩]) := by
  unfold loopsTo
  rw [List.range_succ, List.filterMap_append]
  by_cases h : backL E D n b = []
  · simp [h]
  · simp [h]
theorem loopsTo_len (E : Nat → List Nat) (D L : Nat → Nat → Bool) (n b : Nat) : (loopsTo E D L n b).length ≤ b := by
  have := List.length_filterMap_le (fun h => if backL E D n h = [] then none else some (⟨(h : Int), ints (backL E D n h), ints ((List.range n).filter (L h))⟩ : ML)) (List.range b)
  simpa [loopsTo] using this
end Go.Proofs.YtdfmdgbolmbffaaGreat
