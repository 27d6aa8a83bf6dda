import Derived.Test.YthifelgdkmkdkaaGreatDoorFm9
import Derived.Lib.Builder
import Derived.Lib.AppendStr
import Derived.Lib.UnsafeStr
import Derived.Lib.Strings
import Derived.Lib.Slices
import Derived.Lib.Walk
import Derived.Laws.Externs
import Derived.RegionTactic
namespace Go.Proofs.YthifelgdkmkdkaaGreatDoor
open Go.ChangeShapes Go.WideShapes Go.ChangeAt Go.RowKit
set_option linter.unusedVariables false
def Blk (w : World) (b : Nat) (cur : Array Value) (t : TypeId) : Prop := w.heap[b]? = some (.cells cur t (0, 0))
theorem Blk.new (w : World) (cur : Array Value) (t : TypeId) : Blk (w.alloc (.cells cur t)) w.heap.size cur t := Array.getElem?_push_size
theorem Blk.lt {w : World} {b : Nat} {cur : Array Value} {t : TypeId} (h : Blk w b cur t) : b < w.heap.size := (Array.getElem?_eq_some_iff.1 h).1
theorem Blk.keep {w w' : World} {b : Nat} {cur : Array Value} {t : TypeId} (h : Blk w b cur t) (hb : Below w.heap.size w w') : Blk w' b cur t := by
  unfold Blk at *
  rw [hb.block b (Array.getElem?_eq_some_iff.1 h).1]
  exact h
theorem Blk.cell {w : World} {b : Nat} {cur : Array Value} {t : TypeId} (h : Blk w b cur t) (i : Nat) : w.cell? ⟨b, i, none⟩ = cur[i]? := cell_of_row w b i cur t _ h
theorem Blk.frozen {w : World} {b : Nat} {cur : Array Value} {t : TypeId} (h : Blk w b cur t) (i : Nat) : w.frozen? ⟨b, i, none⟩ = false := frozen_of_row w b i cur t h
theorem Blk.set {w : World} {b : Nat} {cur : Array Value} {t : TypeId} (h : Blk w b cur t) (i : Nat) (x : Value) : Blk (w.setCell ⟨b, i, none⟩ x) b (cur.setIfInBounds i x) t := heap_setCell_same w b i cur t x h
theorem Blk.other {w : World} {b : Nat} {cur : Array Value} {t : TypeId} (h : Blk w b cur t) {a : Addr} (ha : b ≠ a.block) (x : Value) : Blk (w.setCell a x) b cur t := by
  unfold Blk at *
  rw [heap_setCell_other w a b x ha]
  exact h
theorem Blk.grown {w w' : World} {b : Nat} {cur : Array Value} {t e : TypeId} (h : Blk w b cur t) {B k m : Nat} {v : Value} {bs : List Value} (hg : w.grownBy w' v.ownBlock) (ho : w.ownsRow B e k v m bs) (hne : t ≠ e) : Blk w' b cur t := by
  unfold Blk at *
  rw [hg.block b (Array.getElem?_eq_some_iff.1 h).1 ?_]
  · exact h
  · intro hv
    rcases ho.2 with ⟨rfl, _⟩ | ⟨g', cap', cur', rfl, _, hg', _⟩
    · cases hv
    · simp only [Value.ownBlock, Option.some.injEq] at hv
      subst hv
      rw [h] at hg'
      simp only [Option.some.injEq, Obj.cells.injEq] at hg'
      exact hne hg'.2.1
end Go.Proofs.YthifelgdkmkdkaaGreatDoor
namespace Go.Proofs.YthifelgdkmkdkaaGreatDoor
open Go.ChangeShapes Go.WideShapes Go.ChangeAt Go.RowKit
set_option linter.unusedVariables false
/-- The page in the block b holds the bytes l. -/
def PAt (B : Nat) (u : World) (b : Nat) (l : List UInt8) : Prop := Lib.IsBuilder 70 5 B b (Lib.byteCells l) u
/-- Nothing but pages and rows of bytes from B on has turned; new blocks were made. -/
structure Wg (B : Nat) (u u' : World) : Prop where
  bel : Below B u u'
  blk : ∀ (k : Nat) (cur : Array Value) (t : TypeId), u.heap[k]? = some (Obj.cells cur t (0, 0)) → t ≠ 5 → t ≠ 70 → u'.heap[k]? = some (Obj.cells cur t (0, 0))
theorem Wg.refl (B : Nat) (u : World) : Wg B u u := ⟨Below.refl _ _, fun _ _ _ h _ _ => h⟩
theorem Wg.trans {B : Nat} {u v w : World} (h : Wg B u v) (h' : Wg B v w) : Wg B u w := ⟨h.bel.trans h'.bel, fun k cur t hk h1 h2 => h'.blk k cur t (h.blk k cur t hk h1 h2) h1 h2⟩
theorem Wg.of_below {B : Nat} {u u' : World} (h : Below u.heap.size u u') (hB : B ≤ u.heap.size) : Wg B u u' :=
  ⟨h.mono hB, fun k cur t hk _ _ => by rw [h.block k (Array.getElem?_eq_some_iff.1 hk).1]; exact hk⟩
theorem Wg.size {B : Nat} {u u' : World} (h : Wg B u u') : u.heap.size ≤ u'.heap.size := h.bel.size
theorem Wg.of_grown {B k n : Nat} {u u' : World} {v : Value} {xs : List Value} (hg : u.grownBy u' v.ownBlock) (ho : u.ownsRow B 5 k v n xs) (hB : B ≤ u.heap.size) : Wg B u u' := by
  refine ⟨⟨hg.os, hg.tape, hg.output, hg.size, fun k hk => hg.block k (by omega) (fun e => by have := (ho.lt k e.symm).1; omega)⟩, fun k cur t hk h1 h2 => ?_⟩
  rw [hg.block k (Array.getElem?_eq_some_iff.1 hk).1 ?_]
  · exact hk
  · intro e
    rcases ho.2 with ⟨rfl, _⟩ | ⟨g', cap', cur', rfl, _, hg', _⟩
    · cases e
    · simp only [Value.ownBlock, Option.some.injEq] at e
      subst e
      rw [hk] at hg'
      simp only [Option.some.injEq, Obj.cells.injEq] at hg'
      exact h1 hg'.2.1
theorem Wg.of_set {B wb : Nat} {u : World} {cur : Array Value} (hb : u.heap[wb]? = some (Obj.cells cur 70 (0, 0))) (hB : B ≤ wb) (i : Nat) (x : Value) : Wg B u (u.setCell ⟨wb, i, none⟩ x) := by
  refine ⟨(Below.refl _ _).setCell hB _, fun k c t hk h1 h2 => ?_⟩
  rw [heap_setCell_other u _ k x ?_]
  · exact hk
  · intro e
    simp only [] at e
    subst e
    rw [hk] at hb
    simp only [Option.some.injEq, Obj.cells.injEq] at hb
    exact h2 hb.2.1
theorem Wg.own {B base : Nat} {u u' : World} (h : Wg B u u') {e : TypeId} {s : Value} {k n : Nat} {xs : List Value} (ho : u.ownsRow base e k s n xs) (h1 : e ≠ 5) (h2 : e ≠ 70) : u'.ownsRow base e k s n xs := by
  refine ⟨ho.1, ?_⟩
  rcases ho.2 with h' | ⟨g, cap, cur, e1, hb1, hg, hr⟩
  · exact .inl h'
  · exact .inr ⟨g, cap, cur, e1, hb1, h.blk g cur e hg h1 h2, hr⟩
theorem Wg.block {B : Nat} {u u' : World} (h : Wg B u u') {b : Nat} {cur : Array Value} {t : TypeId} (hb : Blk u b cur t) (h1 : t ≠ 5) (h2 : t ≠ 70) : Blk u' b cur t := h.blk b cur t hb h1 h2
theorem PAt.call {B : Nat} {u u' : World} {b : Nat} {l : List UInt8} (h : PAt B u b l) (hb : Below u.heap.size u u') : PAt B u' b l := by
  have g : ∀ p, Lib.BuilderAt 70 5 B b p (Lib.byteCells l) u → Lib.BuilderAt 70 5 B b p (Lib.byteCells l) u' := by
    rintro p ⟨h1, v, h2, h3, h4⟩
    exact ⟨h1, v, by rw [hb.block b (Array.getElem?_eq_some_iff.1 h2).1]; exact h2, own_keep h3 hb (Nat.le_refl _), h4⟩
  rcases h with h | h
  · exact .inl (g _ h)
  · exact .inr (g _ h)
theorem PAt.ge {B : Nat} {u : World} {b : Nat} {l : List UInt8} (h : PAt B u b l) : B ≤ b ∧ b < u.heap.size := by
  rcases h with h | h
  · exact ⟨h.1, h.lt⟩
  · exact ⟨h.1, h.lt⟩
theorem infoByte : (Tryz.prog.info? 5).map (fun i => (i.zero, i.size, i.bytes)) = some (some (.int .u8 0), 1, 1) := by kernel_rfl
theorem sizeBuilder : (Tryz.prog.info? 68).map (·.size) = some 2 := by kernel_rfl
theorem liesBuilder : liesAt Tryz.prog Tryz.prog.depth 70 (2 / Tryz.prog.cellsOf 70) 0 68 1 = true := by kernel_rfl
set_option maxHeartbeats 1000000 in
set_option maxRecDepth 100000 in
theorem copyCheck_used (b : Nat) (w : World) (h0 : w.cell? ⟨b, 0, none⟩ = some (.pointer (some ⟨b, 0, none⟩))) :
    Calls Tryz.prog 72 #[.pointer (some ⟨b, 0, none⟩)] w fun e w' => e = .returned (.tuple #[]) ∧ w' = w := by
  obtain ⟨j, hj, _⟩ := Option.map_eq_some_iff.1 sizeBuilder
  go_enter Tryz.func72, Tryz.ntmps72
  go_wp2
  rw [Lib.run_neq_ptr_same w _ Tryz.underlying66 hj]
  go_wp2
  go_end0
  exact ⟨rfl, rfl⟩
set_option maxHeartbeats 1000000 in
set_option maxRecDepth 100000 in
theorem copyCheck_fresh (b : Nat) (w : World) (h0 : w.cell? ⟨b, 0, none⟩ = some (.pointer none)) (hsh : w.shape? b = some (70, 2)) (hfz : w.frozen? ⟨b, 0, none⟩ = false) :
    Calls Tryz.prog 72 #[.pointer (some ⟨b, 0, none⟩)] w fun e w' => e = .returned (.tuple #[]) ∧ w' = w.setCell ⟨b, 0, none⟩ (.pointer (some ⟨b, 0, none⟩)) := by
  obtain ⟨j, hj, hjs⟩ := Option.map_eq_some_iff.1 sizeBuilder
  go_enter Tryz.func72, Tryz.ntmps72
  go_wp2
  rw [Lib.run_to_unsafe w ⟨b, 0, none⟩ Tryz.underlying66 Tryz.underlying140 hj (by rw [hjs]; decide) hsh (Nat.zero_lt_succ 1)]
  simp only [Result.andThen]
  rw [Oper.upon_value]
  go_wp2
  rw [run_callFunc_extern Tryz.func86 (by kernel_rfl) (by kernel_rfl) (by kernel_rfl) (e := Extern.AbiNoEscape.same) (by kernel_rfl)]
  rw [Lib.run_noEscape]
  simp only [Result.andThen]
  rw [Oper.upon_value]
  go_wp2
  rw [Lib.run_from_unsafe w ⟨b, 0, none⟩ Tryz.underlying140 Tryz.underlying66 hj hsh liesBuilder]
  simp only [Result.andThen]
  rw [Oper.upon_value]
  go_wp2
  go_end0
  exact ⟨rfl, rfl⟩
theorem copyCheck_any (B b : Nat) (l : List UInt8) (w : World) (h : PAt B w b l) :
    Calls Tryz.prog 72 #[.pointer (some ⟨b, 0, none⟩)] w fun e w' => e = .returned (.tuple #[]) ∧ (Lib.BuilderAt 70 5 B b (.pointer (some ⟨b, 0, none⟩)) (Lib.byteCells l) w' ∧ Wg B w w' ∧ w'.heap.size = w.heap.size) := by
  rcases h with h | h
  · refine (copyCheck_fresh b w h.cell0 h.shape h.frozen0).mono ?_
    rintro e w' ⟨rfl, rfl⟩
    obtain ⟨h1, v, h2, h3⟩ := id h
    exact ⟨rfl, h.used _, Wg.of_set h2 h1 0 _, by simp [World.setCell]⟩
  · refine (copyCheck_used b w h.cell0).mono ?_
    rintro e w' ⟨rfl, rfl⟩
    exact ⟨rfl, h, Wg.refl _ _, rfl⟩
end Go.Proofs.YthifelgdkmkdkaaGreatDoor
