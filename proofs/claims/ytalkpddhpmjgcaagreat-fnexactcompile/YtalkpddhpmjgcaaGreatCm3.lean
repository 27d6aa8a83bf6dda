import Derived.Test.YtalkpddhpmjgcaaGreatCm2
import Derived.Lib.SmallJoins
import Derived.Deep.Slices
import Derived.Deep.Cut
import Derived.Deep.CutRange
namespace Go.Proofs.YtalkpddhpmjgcaaGreat
open Go.ChangeShapes Go.WideShapes Go.ChangeAt Go.RowKit
set_option linter.unusedVariables false
section
variable {H : Type} {enc : TypeId × Value → H} {P : Program} {w : World} {spare : Nat → Bool} {held : Bool}
theorem add_at (b off : Nat) (i : Nat) : (⟨b, off, none⟩ : Addr).add i = ⟨b, off + i, none⟩ := by unfold Addr.add; split <;> simp_all
/-- A slice whose elements read each as one of a family. -/
theorem open_rows {α : Type} [Inhabited α] (f : α → List Value) (G : α → Prop) (m : Nat) (hf : ∀ y, (f y).length = m) (h0 : 0 < m) {t e : TypeId} (ht : P.underlying t = some (.slice e)) (hm : P.cellsOf e = m)
    (hel : ∀ fuel cs x, DataW.trod enc P w 0 spare held fuel e cs = some x → ∃ y, cs = f y ∧ G y) {fuel : Nat} {cs : List Value} {x : DataW H × List MemPlace} (h : DataW.trod enc P w 0 spare held fuel t cs = some x) :
    ∃ (s : Value) (ys : List α), cs = [s] ∧ Rd w m s ys.length (ys.flatMap f) ∧ ys.length ≤ maxLen ∧ ∀ y ∈ ys, G y := by
  rcases DataW.trod_slice ht h with ⟨rfl, _⟩ | ⟨a, len, cap, elems, rest, n, _, rfl, _, _, hl, hmx, hlen, hE, _, _⟩
  · exact ⟨_, [], rfl, ⟨by simp, .inl ⟨rfl, _, _, rfl⟩⟩, by simp, fun y hy => by cases hy⟩
  · rw [hm] at hE
    have hy : ∀ i, i < len → ∃ y, w.cells? 0 (a.add (i * m)) m = some (f y) ∧ G y := by
      intro i hi
      have h1 := hE i hi
      rw [List.getElem?_eq_getElem (by omega)] at h1
      obtain ⟨cs', hc, hx⟩ := Option.bind_eq_some_iff.1 h1
      obtain ⟨y, rfl, hg⟩ := hel _ _ _ hx
      exact ⟨y, hc, hg⟩
    obtain ⟨F, hF⟩ := Go.Deep.choose_lt hy
    refine ⟨_, (List.range len).map F, rfl, ⟨?_, ?_⟩, by simp; omega, ?_⟩
    · rw [flat_length f m hf]
    · by_cases hz : len = 0
      · subst hz
        exact .inl ⟨by simp, _, _, rfl⟩
      · obtain ⟨b, off, spot⟩ := a
        have hc0 := (World.cells?_some (hF 0 (by omega)).1).2.2 0 h0
        have hfl : 0 < (f (F 0)).length := by rw [hf]; exact h0
        rw [List.getElem?_eq_getElem hfl] at hc0
        have hspot : spot = none := by simpa [Addr.add] using World.cell?_spot hc0
        subst hspot
        refine .inr ⟨b, off, cap, by simp, fun j u hj => ?_⟩
        have hjl : j < len * m := by
          have := (List.getElem?_eq_some_iff.1 hj).1
          rw [flat_length f m hf] at this
          simpa using this
        have hq : j / m < len := (Nat.div_lt_iff_lt_mul h0).2 hjl
        have hr := Nat.mod_lt j h0
        have ej : j = j / m * m + j % m := by rw [Nat.mul_comm]; exact (Nat.div_add_mod j m).symm
        have hk : ((List.range len).map F)[j / m]? = some (F (j / m)) := by simp [hq]
        have hcell := (World.cells?_some (hF (j / m) hq).1).2.2 (j % m) hr
        have hat := flat_at f m hf _ (j / m) (j % m) _ hk hr
        rw [← ej, hj] at hat
        rw [add_at, add_at, Nat.add_assoc, ← ej] at hcell
        rw [hcell, ← hat]
    · intro y hy'
      obtain ⟨i, hi, rfl⟩ := List.mem_map.1 hy'
      exact (hF i (List.mem_range.1 hi)).2
end
end Go.Proofs.YtalkpddhpmjgcaaGreat
namespace Go.Proofs.YtalkpddhpmjgcaaGreat
open Go.ChangeShapes Go.WideShapes Go.ChangeAt Go.RowKit
set_option linter.unusedVariables false
instance : Inhabited MI := ⟨⟨0, 0, 0, 0⟩⟩
instance : Inhabited MC := ⟨⟨0, 0⟩⟩
instance : Inhabited MT := ⟨⟨0, 0, 0, 0⟩⟩
instance : Inhabited MF := ⟨⟨[], 0, [], []⟩⟩
instance : Inhabited VF := ⟨⟨.bool true, .bool true, .bool true⟩⟩
def W64 (z : Int) : Prop := (Lit.int .i64 z).wf = true
def W32 (z : Int) : Prop := (Lit.int .u32 z).wf = true
def MI.wf (x : MI) : Prop := W64 x.op ∧ W64 x.a ∧ W64 x.b ∧ W64 x.c
def MC.wf (x : MC) : Prop := W64 x.type ∧ W32 x.word
def MT.wf (x : MT) : Prop := W64 x.func ∧ W64 x.head ∧ W64 x.counter ∧ W32 x.init
structure MF.wf (f : MF) : Prop where
  params : ∀ z ∈ f.params, W64 z
  result : W64 f.result
  locals : ∀ z ∈ f.locals, W64 z
  code : ∀ x ∈ f.code, x.wf
structure MP.wf (p : MP) : Prop where
  regions : ∀ r ∈ p.regions, ∀ z ∈ r, W64 z
  consts : ∀ x ∈ p.consts, x.wf
  funcs : ∀ f ∈ p.funcs, f.wf
  certs : ∀ x ∈ p.certs, x.wf
theorem cells64 : Tryz.prog.cellsOf 2 = 1 := by kernel_rfl
theorem cells32 : Tryz.prog.cellsOf 106 = 1 := by kernel_rfl
theorem cellsS64 : Tryz.prog.cellsOf 49 = 1 := by kernel_rfl
theorem cellsSS64 : Tryz.prog.cellsOf 26 = 1 := by kernel_rfl
section
variable {H : Type} {enc : TypeId × Value → H} {w : World} {spare : Nat → Bool} {held : Bool} {fuel : Nat} {cs : List Value} {x : DataW H × List MemPlace}
theorem four {cs : List Value} (h : cs.length = 4) : ∃ a b c d, cs = [a, b, c, d] := by
  match cs, h with
  | [a, b, c, d], _ => exact ⟨a, b, c, d, rfl⟩
theorem two {cs : List Value} (h : cs.length = 2) : ∃ a b, cs = [a, b] := by
  match cs, h with
  | [a, b], _ => exact ⟨a, b, rfl⟩
theorem open_i64 (h : DataW.trod enc Tryz.prog w 0 spare held fuel 2 cs = some x) : ∃ z, cs = intCell z ∧ W64 z := by
  obtain ⟨n, h1, _, h2⟩ := DataW.trod_int Tryz.underlying2 h
  exact ⟨n, h1, h2⟩
theorem open_u32 (h : DataW.trod enc Tryz.prog w 0 spare held fuel 106 cs = some x) : ∃ z, cs = [.int .u32 z] ∧ W32 z := by
  obtain ⟨n, h1, _, h2⟩ := DataW.trod_int Tryz.underlying106 h
  exact ⟨n, h1, h2⟩
theorem open_ints64 (h : DataW.trod enc Tryz.prog w 0 spare held fuel 49 cs = some x) : ∃ y : List Int × Value, cs = rCells y ∧ Rd w 1 y.2 y.1.length (y.1.flatMap intCell) ∧ y.1.length ≤ maxLen ∧ ∀ z ∈ y.1, W64 z := by
  obtain ⟨s, ys, e, h1, h2, h3⟩ := open_rows intCell W64 1 intCell_length (by omega) Tryz.underlying49 cells64 (fun _ _ _ => open_i64) h
  exact ⟨(ys, s), e, h1, h2, h3⟩
end
end Go.Proofs.YtalkpddhpmjgcaaGreat
namespace Go.Proofs.YtalkpddhpmjgcaaGreat
open Go.ChangeShapes Go.WideShapes Go.ChangeAt Go.RowKit
set_option linter.unusedVariables false
/-- It returns a bool, which is true just if q. -/
def SaysIff (e : Ending) (q : Prop) : Prop := ∃ b, e = .returned (.bool b) ∧ (b = true ↔ q)
theorem SaysIff.yes {q : Prop} (h : q) : SaysIff (.returned (.bool true)) q := ⟨_, rfl, by simp [h]⟩
theorem SaysIff.no {q : Prop} (h : ¬ q) : SaysIff (.returned (.bool false)) q := ⟨_, rfl, by simp [h]⟩
theorem SaysIff.of {q : Prop} {b : Bool} (h : b = true ↔ q) : SaysIff (.returned (.bool b)) q := ⟨_, rfl, h⟩
theorem SaysIff.iff {e : Ending} {q q' : Prop} (h : SaysIff e q) (hq : q ↔ q') : SaysIff e q' := by
  obtain ⟨b, rfl, hb⟩ := h
  exact ⟨b, rfl, hb.trans hq⟩
end Go.Proofs.YtalkpddhpmjgcaaGreat
namespace Go.Proofs.YtalkpddhpmjgcaaGreat
open Go.ChangeShapes Go.WideShapes Go.ChangeAt Go.RowKit
set_option linter.unusedVariables false
structure At4 (w : World) (b : Nat) (x y z t : Value) : Prop where
  c0 : w.cell? ⟨b, 0, none⟩ = some x
  c1 : w.cell? ⟨b, 1, none⟩ = some y
  c2 : w.cell? ⟨b, 2, none⟩ = some z
  c3 : w.cell? ⟨b, 3, none⟩ = some t
theorem At4.lt {w : World} {b : Nat} {x y z t : Value} (h : At4 w b x y z t) : b < w.heap.size := block_lt_of_cell h.c0
theorem At4.keep {w w' : World} {b : Nat} {x y z t : Value} (h : At4 w b x y z t) (hb : Below w.heap.size w w') : At4 w' b x y z t :=
  ⟨by rw [hb.cell h.lt]; exact h.c0, by rw [hb.cell h.lt]; exact h.c1, by rw [hb.cell h.lt]; exact h.c2, by rw [hb.cell h.lt]; exact h.c3⟩
theorem At4.new (w : World) (x y z t : Value) (ty : TypeId) : At4 (w.alloc (.cells #[x, y, z, t] ty)) w.heap.size x y z t := by
  have h := World.ownsRow_lit (base := w.heap.size) (e := ty) (size := 4) w #[x, y, z, t] 1 (Nat.le_refl _) (by unfold maxLen; omega) (by simp)
  exact ⟨h.cellAt 0 (by omega), h.cellAt 1 (by omega), h.cellAt 2 (by omega), h.cellAt 3 (by omega)⟩
theorem At4.alloc {w : World} {b : Nat} {x y z t : Value} (h : At4 w b x y z t) (o : Obj) : At4 (w.alloc o) b x y z t := h.keep ((Below.refl _ _).alloc (Nat.le_refl _) _)
theorem below_alloc (w : World) (o : Obj) : Below w.heap.size w (w.alloc o) := (Below.refl _ _).alloc (Nat.le_refl _) _
theorem below_drew1 (w : World) : Below w.heap.size w w.drew := ⟨rfl, rfl, rfl, Nat.le_refl _, fun _ _ => rfl⟩
theorem below_on {B : Nat} {w u u' : World} (h : Below B w u) (hB : B ≤ w.heap.size) (h' : Below u.heap.size u u') : Below B w u' := h.trans (h'.mono (Nat.le_trans hB h.size))
end Go.Proofs.YtalkpddhpmjgcaaGreat
namespace Go.Proofs.YtalkpddhpmjgcaaGreat
open Go.ChangeShapes Go.WideShapes Go.ChangeAt Go.RowKit
set_option linter.unusedVariables false
def Blk (w : World) (b : Nat) (cur : Array Value) (t : TypeId) : Prop := w.heap[b]? = some (.cells cur t (0, 0))
theorem Blk.new (w : World) (cur : Array Value) (t : TypeId) : Blk (w.alloc (.cells cur t)) w.heap.size cur t := Array.getElem?_push_size
theorem Blk.lt {w : World} {b : Nat} {cur : Array Value} {t : TypeId} (h : Blk w b cur t) : b < w.heap.size := (Array.getElem?_eq_some_iff.1 h).1
theorem Blk.keep {w w' : World} {b : Nat} {cur : Array Value} {t : TypeId} (h : Blk w b cur t) (hb : Below w.heap.size w w') : Blk w' b cur t := by
  unfold Blk at *
  rw [hb.block b (Array.getElem?_eq_some_iff.1 h).1]
  exact h
theorem Blk.cell {w : World} {b : Nat} {cur : Array Value} {t : TypeId} (h : Blk w b cur t) (i : Nat) : w.cell? ⟨b, i, none⟩ = cur[i]? := cell_of_row w b i cur t _ h
theorem Blk.frozen {w : World} {b : Nat} {cur : Array Value} {t : TypeId} (h : Blk w b cur t) (i : Nat) : w.frozen? ⟨b, i, none⟩ = false := frozen_of_row w b i cur t h
theorem Blk.set {w : World} {b : Nat} {cur : Array Value} {t : TypeId} (h : Blk w b cur t) (i : Nat) (x : Value) : Blk (w.setCell ⟨b, i, none⟩ x) b (cur.setIfInBounds i x) t := heap_setCell_same w b i cur t x h
theorem Blk.other {w : World} {b : Nat} {cur : Array Value} {t : TypeId} (h : Blk w b cur t) {a : Addr} (ha : b ≠ a.block) (x : Value) : Blk (w.setCell a x) b cur t := by
  unfold Blk at *
  rw [heap_setCell_other w a b x ha]
  exact h
theorem Blk.grown {w w' : World} {b : Nat} {cur : Array Value} {t e : TypeId} (h : Blk w b cur t) {B k m : Nat} {v : Value} {bs : List Value} (hg : w.grownBy w' v.ownBlock) (ho : w.ownsRow B e k v m bs) (hne : t ≠ e) : Blk w' b cur t := by
  unfold Blk at *
  rw [hg.block b (Array.getElem?_eq_some_iff.1 h).1 ?_]
  · exact h
  · intro hv
    rcases ho.2 with ⟨rfl, _⟩ | ⟨g', cap', cur', rfl, _, hg', _⟩
    · cases hv
    · simp only [Value.ownBlock, Option.some.injEq] at hv
      subst hv
      rw [h] at hg'
      simp only [Option.some.injEq, Obj.cells.injEq] at hg'
      exact hne hg'.2.1
end Go.Proofs.YtalkpddhpmjgcaaGreat
namespace Go.Proofs.YtalkpddhpmjgcaaGreat
open Go.ChangeShapes Go.WideShapes Go.ChangeAt Go.RowKit
set_option linter.unusedVariables false
theorem wp_world {P : Program} {c : Code} {Q : Exit → Act → World → Prop} {a : Act} {U : World} (R : World → Prop) (h : R U) (k : ∀ u, R u → Code.wp P c Q a u) : Code.wp P c Q a U := k U h
end Go.Proofs.YtalkpddhpmjgcaaGreat
namespace Go.Proofs.YtalkpddhpmjgcaaGreat
open Go.ChangeShapes Go.WideShapes Go.ChangeAt Go.RowKit
set_option linter.unusedVariables false
theorem below_drewNK (B : Nat) (w : World) (nq : Nat) : Below B w (w.drewN nq) := ⟨rfl, rfl, rfl, Nat.le_refl _, fun _ _ => rfl⟩
theorem bcell_lt {w u : World} (hb : Below w.heap.size w u) {a : Addr} {x : Value} (h : w.cell? a = some x) : u.cell? a = some x := by rw [hb.cell (block_lt_of_cell h)]; exact h
end Go.Proofs.YtalkpddhpmjgcaaGreat
