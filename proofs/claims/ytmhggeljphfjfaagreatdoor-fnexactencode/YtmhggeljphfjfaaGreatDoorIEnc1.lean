/- IEnc1: impl's writer: what it holds; (*writer).number. -/
import Derived.Test.YtmhggeljphfjfaaGreatDoorEnc2
import Derived.Deep.RegionLaw
import Derived.Deep.AppendLies
namespace Go.Proofs.YtmhggeljphfjfaaGreatDoor
open Go.ChangeShapes Go.WideShapes Go.ChangeAt Go.RowKit
set_option linter.unusedVariables false
/-- The writer in the block wb holds the bytes bs. -/
def WAt (B : Nat) (u : World) (wb : Nat) (bs : List Value) : Prop := ∃ v, Blk u wb #[v] 77 ∧ u.ownsRow B 5 1 v bs.length bs
/-- Nothing but writers and rows of bytes from B on has turned; new blocks were made. -/
structure Wg (B : Nat) (u u' : World) : Prop where
  bel : Below B u u'
  blk : ∀ (k : Nat) (cur : Array Value) (t : TypeId), u.heap[k]? = some (Obj.cells cur t (0, 0)) → t ≠ 5 → t ≠ 77 → u'.heap[k]? = some (Obj.cells cur t (0, 0))
theorem Wg.refl (B : Nat) (u : World) : Wg B u u := ⟨Below.refl _ _, fun _ _ _ h _ _ => h⟩
theorem Wg.trans {B : Nat} {u v w : World} (h : Wg B u v) (h' : Wg B v w) : Wg B u w := ⟨h.bel.trans h'.bel, fun k cur t hk h1 h2 => h'.blk k cur t (h.blk k cur t hk h1 h2) h1 h2⟩
theorem Wg.of_below {B : Nat} {u u' : World} (h : Below u.heap.size u u') (hB : B ≤ u.heap.size) : Wg B u u' :=
  ⟨h.mono hB, fun k cur t hk _ _ => by rw [h.block k (Array.getElem?_eq_some_iff.1 hk).1]; exact hk⟩
theorem Wg.size {B : Nat} {u u' : World} (h : Wg B u u') : u.heap.size ≤ u'.heap.size := h.bel.size
theorem Wg.of_grown {B b k n : Nat} {u u' : World} {v : Value} {xs : List Value} (hg : u.grownBy u' v.ownBlock) (ho : u.ownsRow B 5 k v n xs) (hB : B ≤ u.heap.size) : Wg B u u' := by
  refine ⟨⟨hg.os, hg.tape, hg.output, hg.size, fun k hk => hg.block k (by omega) (fun e => by have := (ho.lt k e.symm).1; omega)⟩, fun k cur t hk h1 h2 => ?_⟩
  rw [hg.block k (Array.getElem?_eq_some_iff.1 hk).1 ?_]
  · exact hk
  · intro e
    rcases ho.2 with ⟨rfl, _⟩ | ⟨g', cap', cur', rfl, _, hg', _⟩
    · cases e
    · simp only [Value.ownBlock, Option.some.injEq] at e
      subst e
      rw [hk] at hg'
      simp only [Option.some.injEq, Obj.cells.injEq] at hg'
      exact h1 hg'.2.1
theorem Wg.of_set {B wb : Nat} {u : World} {cur : Array Value} (hb : Blk u wb cur 77) (hB : B ≤ wb) (i : Nat) (x : Value) : Wg B u (u.setCell ⟨wb, i, none⟩ x) := by
  refine ⟨(Below.refl _ _).setCell hB _, fun k c t hk h1 h2 => ?_⟩
  rw [heap_setCell_other u _ k x ?_]
  · exact hk
  · intro e
    simp only [] at e
    subst e
    unfold Blk at hb
    rw [hk] at hb
    simp only [Option.some.injEq, Obj.cells.injEq] at hb
    exact h2 hb.2.1
theorem Wg.own {B base : Nat} {u u' : World} (h : Wg B u u') {e : TypeId} {s : Value} {k n : Nat} {xs : List Value} (ho : u.ownsRow base e k s n xs) (h1 : e ≠ 5) (h2 : e ≠ 77) : u'.ownsRow base e k s n xs := by
  refine ⟨ho.1, ?_⟩
  rcases ho.2 with h' | ⟨g, cap, cur, e1, hb1, hg, hr⟩
  · exact .inl h'
  · exact .inr ⟨g, cap, cur, e1, hb1, h.blk g cur e hg h1 h2, hr⟩
theorem Wg.ownF {B base : Nat} {u u' : World} (h : Wg B u u') {v : VF} {f : MF} (ho : OwnF u base v f) : OwnF u' base v f := ⟨h.own ho.1 (by decide) (by decide), h.own ho.2.1 (by decide) (by decide), h.own ho.2.2 (by decide) (by decide)⟩
theorem Wg.ownFs {B base : Nat} {u u' : World} (h : Wg B u u') {s : Value} {fs : List MF} (ho : OwnFs u base s fs) : OwnFs u' base s fs := by
  obtain ⟨xs, h1, h2, h3⟩ := ho
  exact ⟨xs, h1, h.own h2 (by decide) (by decide), fun x hx => h.ownF (h3 x hx)⟩
theorem Wg.ownR {B base : Nat} {u u' : World} (h : Wg B u u') {s : Value} {rs : List (List Int)} (ho : OwnR u base s rs) : OwnR u' base s rs := by
  obtain ⟨xs, h1, h2, h3⟩ := ho
  exact ⟨xs, h1, h.own h2 (by decide) (by decide), fun x hx => h.own (h3 x hx) (by decide) (by decide)⟩
theorem Wg.ownP {B base : Nat} {u u' : World} (h : Wg B u u') {v : VP} {p : MP} (ho : OwnP u base v p) : OwnP u' base v p := ⟨h.ownR ho.regions, h.own ho.consts (by decide) (by decide), h.ownFs ho.funcs, h.own ho.certs (by decide) (by decide)⟩
theorem Wg.block {B : Nat} {u u' : World} (h : Wg B u u') {b : Nat} {cur : Array Value} {t : TypeId} (hb : Blk u b cur t) (h1 : t ≠ 5) (h2 : t ≠ 77) : Blk u' b cur t := h.blk b cur t hb h1 h2
theorem WAt.call {B : Nat} {u u' : World} {wb : Nat} {bs : List Value} (h : WAt B u wb bs) (hb : Below u.heap.size u u') : WAt B u' wb bs := by
  obtain ⟨v, h1, h2⟩ := h
  exact ⟨v, h1.keep hb, own_keep h2 hb (Nat.le_refl _)⟩
theorem Blk.cell {w : World} {b : Nat} {cur : Array Value} {t : TypeId} (h : Blk w b cur t) (i : Nat) : w.cell? ⟨b, i, none⟩ = cur[i]? := cell_of_row w b i cur t _ h
theorem Blk.frozen {w : World} {b : Nat} {cur : Array Value} {t : TypeId} (h : Blk w b cur t) (i : Nat) : w.frozen? ⟨b, i, none⟩ = false := frozen_of_row w b i cur t h
theorem Blk.set {w : World} {b : Nat} {cur : Array Value} {t : TypeId} (h : Blk w b cur t) (i : Nat) (x : Value) : Blk (w.setCell ⟨b, i, none⟩ x) b (cur.setIfInBounds i x) t := heap_setCell_same w b i cur t x h
set_option maxHeartbeats 2000000 in
set_option maxRecDepth 100000 in
theorem wnumber_any (B wb : Nat) (bs : List Value) (x : Int) (n : Nat) (w : World) (h1 : 1 ≤ n) (h8 : n ≤ 8) (hb : bs.length ≤ 1073741824) (hB : B ≤ w.heap.size) (hw : B ≤ wb) (h : WAt B w wb bs) :
    Calls Tryz.prog 33 #[.pointer (some ⟨wb, 0, none⟩), .int .i64 x, .int .i64 (n : Int)] w fun e w' => e = .returned (.tuple #[]) ∧ WAt B w' wb (bs ++ numL x n) ∧ Wg B w w' := by
  obtain ⟨i0, hi, hz0, hz1, hz2⟩ := info_parts infoB
  obtain ⟨v, hblk, hown⟩ := h
  have H : Hid (Blk w wb #[v] 77 ∧ w.ownsRow B 5 1 v bs.length bs) := ⟨hblk, hown⟩
  have PN : Hid (∀ u : World, Calls Tryz.prog 72 #[.int .i64 x, .int .i64 (n : Int)] u fun e w' => ∃ r, e = .returned r ∧ w'.ownsRow u.heap.size 5 1 r n (numL x n) ∧ Below u.heap.size u w') := fun u => by
    have := PutNumber_any x (n : Int) u
    rw [show numN (n : Int) = n from by unfold numN; rw [if_pos (by omega)]; exact Int.toNat_natCast n] at this
    exact this
  clear hblk hown
  have KS := ((H.out.1.keep (below_drew1 w)).cell 0)
  have KS' : w.drew.cell? ⟨wb, 0, none⟩ = some v := KS
  clear KS
  go_enter Tryz.func33, Tryz.ntmps33
  go_wp2_with fail
  go_region_law (first
    | (refine step_append_lies _ rfl (.tmp 10) (.tmp 13) 29 rfl B 5 i0 (.int .u8 0) 1 1 Tryz.underlying29 hi hz0 hz1 hz2 rfl (by decide) v bs.length bs (by simp [Act.eval]) O1.out.1 ⟨g1, 0, none⟩ n c1 (numL x n) (by simp [Act.eval]) (by rw [numL_length, Nat.mul_one]) (own_cells O1.out.2.1) (numL_oneCell x n) (by omega) (by unfold maxLen; omega) (by omega) O1.out.2.2.2 _ rfl ?_; intro g cap u2 hown hgrow hat hlt; have O2 : Hid (u2.ownsRow B 5 1 (.slice (some ⟨g, 0, none⟩) (bs.length + n) cap) (bs.length + n) (bs ++ numL x n) ∧ Blk u2 wb #[v] 77 ∧ Wg B w u2) := ⟨hown, O1.out.2.2.1.grown hgrow O1.out.1 (by decide), (Wg.of_below B1.out hB).trans (Wg.of_grown (b := 0) hgrow O1.out.1 O1.out.2.2.2)⟩; have KS' : u2.cell? ⟨wb, 0, none⟩ = some v := O2.out.2.1.cell 0; have Z := O2.out.2.1.frozen 0; clear hown hgrow hat hlt)
    | (go_simp; go_at_call 72; refine (PN.out _).mono ?_; rintro e u1 ⟨r, rfl, own1, b1⟩; obtain ⟨g1, c1, rfl, _, _⟩ := own1.form (by omega); have B1 : Hid (Below w.heap.size w u1) := below_drew_trans b1 (Nat.le_refl _); have O1 : Hid (u1.ownsRow B 5 1 v bs.length bs ∧ u1.ownsRow w.heap.size 5 1 (.slice (some ⟨g1, 0, none⟩) n c1) n (numL x n) ∧ Blk u1 wb #[v] 77 ∧ B ≤ u1.heap.size) := ⟨own_keep H.out.2 B1.out (Nat.le_refl _), own1, H.out.1.keep B1.out, Nat.le_trans hB B1.out.size⟩; have KS' : u1.cell? ⟨wb, 0, none⟩ = some v := O1.out.2.2.1.cell 0; clear own1 b1))
  all_goals
    have HE : Hid (WAt B (u2.setCell ⟨wb, 0, none⟩ (.slice (some ⟨g, 0, none⟩) (bs.length + n) cap)) wb (bs ++ numL x n) ∧ Wg B w (u2.setCell ⟨wb, 0, none⟩ (.slice (some ⟨g, 0, none⟩) (bs.length + n) cap))) := by
      refine ⟨⟨.slice (some ⟨g, 0, none⟩) (bs.length + n) cap, ?_, ?_⟩, O2.out.2.2.trans (Wg.of_set O2.out.2.1 hw 0 _)⟩
      · exact O2.out.2.1.set 0 _
      · have hg : ¬ g = wb := fun e => by
          subst e
          have h3 := O2.out.2.1
          unfold Blk at h3
          rcases O2.out.1.2 with ⟨e1, _⟩ | ⟨g', cap', cur', e1, _, hg', _⟩
          · cases e1
          · cases e1
            rw [h3] at hg'
            simp only [Option.some.injEq, Obj.cells.injEq] at hg'
            exact absurd hg'.2.1 (by decide)
        have := ownsRow_setCell_other O2.out.1 (a := ⟨wb, 0, none⟩) (by simp only [Value.ownBlock]; intro e; exact hg (Option.some.inj e)) (.slice (some ⟨g, 0, none⟩) (bs.length + n) cap)
        rw [List.length_append, numL_length]
        exact this
    go_end0
    exact ⟨rfl, HE.out.1, HE.out.2⟩
end Go.Proofs.YtmhggeljphfjfaaGreatDoor
