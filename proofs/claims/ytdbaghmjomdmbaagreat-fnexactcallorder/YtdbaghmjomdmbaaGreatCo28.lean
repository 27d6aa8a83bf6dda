import Derived.Test.YtdbaghmjomdmbaaGreatCo27
import Derived.Test.YtdbaghmjomdmbaaGreatCo13
namespace Go.Proofs.YtdbaghmjomdmbaaGreat
open Go.ChangeShapes Go.WideShapes Go.ChangeAt Go.RowKit
set_option linter.unusedVariables false
/-- Whom a function calls. -/
def callsOf (f : MF) : List Int := (f.code.filter fun x => decide (x.op = 28)).map MI.a
/-- Is function i not done, and all whom it calls? -/
def readyB (fs : List MF) (done : List Int) (i : Nat) : Bool := !done.contains (i : Int) && match fs[i]? with | some f => (callsOf f).all fun a => done.contains a | none => false
/-- The least that is ready. -/
def leastR (fs : List MF) (done : List Int) : Option Nat := (List.range fs.length).find? (readyB fs done)
def orderN (fs : List MF) : Nat → List Int → List Int
  | 0, done => done
  | k + 1, done => match leastR fs done with | some i => orderN fs k (done ++ [(i : Int)]) | none => []
def orderL (fs : List MF) : List Int := orderN fs fs.length []
theorem leastR_some {fs : List MF} {done : List Int} {i : Nat} (h1 : i < fs.length) (h2 : readyB fs done i = true) (h3 : ∀ j, j < i → readyB fs done j = false) : leastR fs done = some i := by
  unfold leastR
  rw [List.find?_eq_some_iff_append]
  refine ⟨h2, (List.range i), (List.range' (i + 1) (fs.length - i - 1)), ?_, fun a ha => ?_⟩
  · rw [List.range_eq_range', List.range_eq_range', show fs.length = i + (1 + (fs.length - i - 1)) by omega, ← List.range'_append_1, ← List.range'_append_1]
    simp
  · rw [h3 a (by simpa using ha)]
    rfl
theorem leastR_none {fs : List MF} {done : List Int} (h : ∀ j, j < fs.length → readyB fs done j = false) : leastR fs done = none := by
  unfold leastR
  rw [List.find?_eq_none]
  intro a ha
  rw [h a (by simpa using ha)]
  exact Bool.false_ne_true
/-- In a program without a fault calls go to functions of it. -/
theorem calls_in {p : MP} (h : CodeOk p) {i : Nat} {f : MF} (hf : p.funcs[i]? = some f) {a : Int} (ha : a ∈ callsOf f) : 0 ≤ a ∧ a < (p.funcs.length : Int) := by
  unfold callsOf at ha
  obtain ⟨x, hx, rfl⟩ := List.mem_map.1 ha
  obtain ⟨hx1, hx2⟩ := List.mem_filter.1 hx
  simp only [decide_eq_true_eq] at hx2
  obtain ⟨k, hk⟩ := List.getElem?_of_mem hx1
  have hi := h i (List.getElem?_eq_some_iff.1 hf).1 f hf k (List.getElem?_eq_some_iff.1 hk).1 x hk
  obtain ⟨_, _, h3⟩ := hi
  have e : formOf x.op = 11 := by rw [hx2]; rfl
  rw [e] at h3
  unfold FormOk at h3
  simp [takes] at h3
  exact ⟨h3.1, h3.2.1⟩
end Go.Proofs.YtdbaghmjomdmbaaGreat
namespace Go.Proofs.YtdbaghmjomdmbaaGreat
open Go.ChangeShapes Go.WideShapes Go.ChangeAt Go.RowKit
set_option linter.unusedVariables false
def Blk (w : World) (b : Nat) (cur : Array Value) (t : TypeId) : Prop := w.heap[b]? = some (.cells cur t (0, 0))
theorem Blk.new (w : World) (cur : Array Value) (t : TypeId) : Blk (w.alloc (.cells cur t)) w.heap.size cur t := Array.getElem?_push_size
theorem Blk.lt {w : World} {b : Nat} {cur : Array Value} {t : TypeId} (h : Blk w b cur t) : b < w.heap.size := (Array.getElem?_eq_some_iff.1 h).1
theorem Blk.keep {w w' : World} {b : Nat} {cur : Array Value} {t : TypeId} (h : Blk w b cur t) (hb : Below w.heap.size w w') : Blk w' b cur t := by
  unfold Blk at *
  rw [hb.block b (Array.getElem?_eq_some_iff.1 h).1]
  exact h
theorem Blk.cell {w : World} {b : Nat} {cur : Array Value} {t : TypeId} (h : Blk w b cur t) (i : Nat) : w.cell? ⟨b, i, none⟩ = cur[i]? := cell_of_row w b i cur t _ h
theorem Blk.frozen {w : World} {b : Nat} {cur : Array Value} {t : TypeId} (h : Blk w b cur t) (i : Nat) : w.frozen? ⟨b, i, none⟩ = false := frozen_of_row w b i cur t h
theorem Blk.set {w : World} {b : Nat} {cur : Array Value} {t : TypeId} (h : Blk w b cur t) (i : Nat) (x : Value) : Blk (w.setCell ⟨b, i, none⟩ x) b (cur.setIfInBounds i x) t := heap_setCell_same w b i cur t x h
theorem Blk.other {w : World} {b : Nat} {cur : Array Value} {t : TypeId} (h : Blk w b cur t) {a : Addr} (ha : b ≠ a.block) (x : Value) : Blk (w.setCell a x) b cur t := by
  unfold Blk at *
  rw [heap_setCell_other w a b x ha]
  exact h
theorem Blk.grown {w w' : World} {b : Nat} {cur : Array Value} {t e : TypeId} (h : Blk w b cur t) {B k m : Nat} {v : Value} {bs : List Value} (hg : w.grownBy w' v.ownBlock) (ho : w.ownsRow B e k v m bs) (hne : t ≠ e) : Blk w' b cur t := by
  unfold Blk at *
  rw [hg.block b (Array.getElem?_eq_some_iff.1 h).1 ?_]
  · exact h
  · intro hv
    rcases ho.2 with ⟨rfl, _⟩ | ⟨g', cap', cur', rfl, _, hg', _⟩
    · cases hv
    · simp only [Value.ownBlock, Option.some.injEq] at hv
      subst hv
      rw [h] at hg'
      simp only [Option.some.injEq, Obj.cells.injEq] at hg'
      exact hne hg'.2.1
end Go.Proofs.YtdbaghmjomdmbaaGreat
