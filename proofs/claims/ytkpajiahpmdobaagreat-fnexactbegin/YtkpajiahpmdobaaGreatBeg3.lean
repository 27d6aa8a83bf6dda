/- Beg3: spec.Begin. -/
import Derived.Test.YtkpajiahpmdobaaGreatBeg2
import Derived.Test.YtkpajiahpmdobaaGreatVal4
import Derived.Deep.RegionHeld3
namespace Go.Proofs.YtkpajiahpmdobaaGreat
open Go.ChangeShapes Go.WideShapes Go.ChangeAt Go.RowKit
set_option linter.unusedVariables false
/-- The beginning of a program with a memory. -/
def begOf (m : MM) (r0 r1 r2 : List Int) (f : MF) : MS := ⟨0, false, 0, 0, [cellsL r0 m.ins, cellsL r1 m.outs, cellsL r2 m.keeps], [], [⟨0, 0, 0, zerosL f.locals⟩]⟩
def badSt : MS := ⟨7, false, 0, 0, [], [], []⟩
def BegIs (p : MP) (m : MM) (s : MS) : Prop := (ValidM p m ∧ ∃ r0 r1 r2 f fs, p.regions = [r0, r1, r2] ∧ p.funcs = f :: fs ∧ s = begOf m r0 r1 r2 f) ∨ (¬ ValidM p m ∧ s = badSt)
theorem BegIs.one {p : MP} {m : MM} {s s' : MS} (h : BegIs p m s) (h' : BegIs p m s') : s = s' := by
  rcases h with ⟨hv, r0, r1, r2, f, fs, e1, e2, rfl⟩ | ⟨hv, rfl⟩ <;> rcases h' with ⟨hv', q0, q1, q2, g, gs, e3, e4, rfl⟩ | ⟨hv', rfl⟩
  · rw [e1] at e3
    rw [e2] at e4
    simp only [List.cons.injEq, and_true] at e3 e4
    obtain ⟨rfl, rfl, rfl⟩ := e3
    obtain ⟨rfl, _⟩ := e4
    rfl
  · exact absurd hv hv'
  · exact absurd hv' hv
  · rfl
/-- A call's blocks: the program, the memory, the answer's place. -/
structure BAt (w u : World) (v : VP) (vm : VM) : Prop where
  pb : Blk u w.heap.size #[v.r, v.k, v.f, v.t] 43
  mb : Blk u (w.heap.size + 1) #[vm.i, vm.o, vm.k] 45
  rb : Blk u (w.heap.size + 1 + 1) #[.int .i64 0, .bool false, .int .i64 0, .int .i64 0, .slice none 0 0, .slice none 0 0, .slice none 0 0] 37
  bel : Below w.heap.size w u
theorem BAt.keep {w u u' : World} {v : VP} {vm : VM} (h : BAt w u v vm) (hb : Below u.heap.size u u') : BAt w u' v vm := ⟨h.pb.keep hb, h.mb.keep hb, h.rb.keep hb, below_on h.bel (Nat.le_refl _) hb⟩
theorem BAt.of (w : World) (v : VP) (vm : VM) : BAt w (((w.alloc (.cells #[v.r, v.k, v.f, v.t] 43)).alloc (.cells #[vm.i, vm.o, vm.k] 45)).alloc (.cells #[.int .i64 0, .bool false, .int .i64 0, .int .i64 0, .slice none 0 0, .slice none 0 0, .slice none 0 0] 37)) v vm := by
  have b1 := below_alloc w (.cells #[v.r, v.k, v.f, v.t] 43)
  have k1 := Blk.new w #[v.r, v.k, v.f, v.t] 43
  generalize hU1 : w.alloc (.cells #[v.r, v.k, v.f, v.t] 43) = U1 at b1 k1 ⊢
  have z1 : U1.heap.size = w.heap.size + 1 := by rw [← hU1]; simp
  have b2 := below_alloc U1 (.cells #[vm.i, vm.o, vm.k] 45)
  have k2 := Blk.new U1 #[vm.i, vm.o, vm.k] 45
  generalize hU2 : U1.alloc (.cells #[vm.i, vm.o, vm.k] 45) = U2 at b2 k2 ⊢
  have z2 : U2.heap.size = w.heap.size + 1 + 1 := by rw [← hU2]; simp [z1]
  have b3 := below_alloc U2 (.cells #[.int .i64 0, .bool false, .int .i64 0, .int .i64 0, .slice none 0 0, .slice none 0 0, .slice none 0 0] 37)
  have k3 := Blk.new U2 #[.int .i64 0, .bool false, .int .i64 0, .int .i64 0, .slice none 0 0, .slice none 0 0, .slice none 0 0] 37
  rw [z1] at k2
  rw [z2] at k3
  exact ⟨(k1.keep b2).keep b3, k2.keep b3, k3, below_on (below_on b1 (Nat.le_refl _) b2) (Nat.le_refl _) b3⟩
theorem own_nil_state (w : World) (B : Nat) : OwnS w B ⟨.slice none 0 0, .slice none 0 0, .slice none 0 0⟩ badSt := ⟨⟨[], rfl, World.ownsRow_nil _ _ _ _, fun x hx => by cases hx⟩, World.ownsRow_nil _ _ _ _, ⟨[], rfl, World.ownsRow_nil _ _ _ _, fun x hx => by cases hx⟩⟩
theorem below_same (w : World) : Below w.heap.size w w := ⟨rfl, rfl, rfl, Nat.le_refl _, fun _ _ => rfl⟩
/-- What the region of the three calls reads. -/
structure BIn (w W : World) (g o c : Nat) (vi vo vk y0 y1 y2 : Value) : Prop where
  m0 : W.cell? ⟨w.heap.size + 1, 0, none⟩ = some vi
  m1 : W.cell? ⟨w.heap.size + 1, 1, none⟩ = some vo
  m2 : W.cell? ⟨w.heap.size + 1, 2, none⟩ = some vk
  pr : W.cell? ⟨w.heap.size, 0, none⟩ = some (.slice (some ⟨g, o, none⟩) 3 c)
  i0 : W.cell? ⟨g, o, none⟩ = some y0
  i1 : W.cell? ⟨g, o + 1, none⟩ = some y1
  i2 : W.cell? ⟨g, o + 2, none⟩ = some y2
theorem bcell_keep {W u : World} (hb : Below W.heap.size W u) {a : Addr} {x : Value} (h : W.cell? a = some x) : u.cell? a = some x := by rw [hb.cell (block_lt_of_cell h)]; exact h
theorem BIn.keep {w W u : World} {g o c : Nat} {vi vo vk y0 y1 y2 : Value} (h : BIn w W g o c vi vo vk y0 y1 y2) (hb : Below W.heap.size W u) : BIn w u g o c vi vo vk y0 y1 y2 :=
  ⟨bcell_keep hb h.m0, bcell_keep hb h.m1, bcell_keep hb h.m2, bcell_keep hb h.pr, bcell_keep hb h.i0, bcell_keep hb h.i1, bcell_keep hb h.i2⟩
theorem BIn.all {w W : World} {g o c : Nat} {vi vo vk y0 y1 y2 : Value} (h : BIn w W g o c vi vo vk y0 y1 y2) : W.cell? ⟨w.heap.size + 1, 0, none⟩ = some vi ∧ W.cell? ⟨w.heap.size + 1, 1, none⟩ = some vo ∧ W.cell? ⟨w.heap.size + 1, 2, none⟩ = some vk ∧ W.cell? ⟨w.heap.size, 0, none⟩ = some (.slice (some ⟨g, o, none⟩) 3 c) ∧ W.cell? ⟨g, o, none⟩ = some y0 ∧ W.cell? ⟨g, o + 1, none⟩ = some y1 ∧ W.cell? ⟨g, o + 2, none⟩ = some y2 := ⟨h.m0, h.m1, h.m2, h.pr, h.i0, h.i1, h.i2⟩
/-- Behind the region of the three calls: the state's block, the block of its three rows, the rows. -/
structure BQ (w U : World) (v : VP) (vm : VM) (L : List (Value × List MC)) (x y : Nat) (fr : Value) : Prop where
  args : BAt w U v vm
  st : Blk U x #[.int .i64 0, .bool false, .int .i64 0, .int .i64 0, .slice (some ⟨y, 0, none⟩) 3 3, .slice none 0 0, fr] 37
  ar : Blk U y (L.map Prod.fst).toArray 34
  own : ∀ r ∈ L, U.ownsRow w.heap.size 102 2 r.1 r.2.length (r.2.flatMap MC.cells)
  xge : w.heap.size + 1 + 1 < x
  yge : w.heap.size + 1 + 1 < y
theorem BAt.lt {w u : World} {v : VP} {vm : VM} (h : BAt w u v vm) : w.heap.size + 1 + 1 < u.heap.size := h.rb.lt
theorem BQ.last {w u : World} {v : VP} {vm : VM} {L : List (Value × List MC)} (h : BAt w u v vm) (ho : ∀ r ∈ L, u.ownsRow w.heap.size 102 2 r.1 r.2.length (r.2.flatMap MC.cells)) : BQ w ((u.alloc (.cells (L.map Prod.fst).toArray 34)).alloc (.cells #[.int .i64 0, .bool false, .int .i64 0, .int .i64 0, .slice (some ⟨u.heap.size, 0, none⟩) 3 3, .slice none 0 0, .slice none 0 0] 37)) v vm L (u.heap.size + 1) u.heap.size (.slice none 0 0) := by
  have b1 := below_alloc u (.cells (L.map Prod.fst).toArray 34)
  have k1 := Blk.new u (L.map Prod.fst).toArray 34
  generalize hU1 : u.alloc (.cells (L.map Prod.fst).toArray 34) = U1 at b1 k1 ⊢
  have z1 : U1.heap.size = u.heap.size + 1 := by rw [← hU1]; simp
  have b2 := below_alloc U1 (.cells #[.int .i64 0, .bool false, .int .i64 0, .int .i64 0, .slice (some ⟨u.heap.size, 0, none⟩) 3 3, .slice none 0 0, .slice none 0 0] 37)
  have k2 := Blk.new U1 #[.int .i64 0, .bool false, .int .i64 0, .int .i64 0, .slice (some ⟨u.heap.size, 0, none⟩) 3 3, .slice none 0 0, .slice none 0 0] 37
  rw [z1] at k2
  have hl := h.lt
  exact ⟨(h.keep b1).keep b2, k2, k1.keep b2, fun r hr => own_keep (own_keep (ho r hr) b1 (Nat.le_refl _)) b2 (Nat.le_refl _), by omega, hl⟩
theorem BQ.first {w u : World} {v : VP} {vm : VM} {L : List (Value × List MC)} (h : BAt w u v vm) (ho : ∀ r ∈ L, u.ownsRow w.heap.size 102 2 r.1 r.2.length (r.2.flatMap MC.cells)) : BQ w ((u.alloc (.cells #[.int .i64 0, .bool false, .int .i64 0, .int .i64 0, .slice (some ⟨u.heap.size + 1, 0, none⟩) 3 3, .slice none 0 0, .slice none 0 0] 37)).alloc (.cells (L.map Prod.fst).toArray 34)) v vm L u.heap.size (u.heap.size + 1) (.slice none 0 0) := by
  have b1 := below_alloc u (.cells #[.int .i64 0, .bool false, .int .i64 0, .int .i64 0, .slice (some ⟨u.heap.size + 1, 0, none⟩) 3 3, .slice none 0 0, .slice none 0 0] 37)
  have k1 := Blk.new u #[.int .i64 0, .bool false, .int .i64 0, .int .i64 0, .slice (some ⟨u.heap.size + 1, 0, none⟩) 3 3, .slice none 0 0, .slice none 0 0] 37
  generalize hU1 : u.alloc (.cells #[.int .i64 0, .bool false, .int .i64 0, .int .i64 0, .slice (some ⟨u.heap.size + 1, 0, none⟩) 3 3, .slice none 0 0, .slice none 0 0] 37) = U1 at b1 k1 ⊢
  have z1 : U1.heap.size = u.heap.size + 1 := by rw [← hU1]; simp
  have b2 := below_alloc U1 (.cells (L.map Prod.fst).toArray 34)
  have k2 := Blk.new U1 (L.map Prod.fst).toArray 34
  rw [z1] at k2
  have hl := h.lt
  exact ⟨(h.keep b1).keep b2, k1.keep b2, k2, fun r hr => own_keep (own_keep (ho r hr) b1 (Nat.le_refl _)) b2 (Nat.le_refl _), hl, by omega⟩
theorem BAt.set {w u : World} {v : VP} {vm : VM} (h : BAt w u v vm) {x : Nat} (hx : w.heap.size + 1 + 1 < x) (i : Nat) (z : Value) : BAt w (u.setCell ⟨x, i, none⟩ z) v vm :=
  ⟨h.pb.other (by simp only []; omega) _, h.mb.other (by simp only []; omega) _, h.rb.other (by simp only []; omega) _, h.bel.setCell (by simp only []; omega) _⟩
/-- Rows of values stay when a cell of a state is set. -/
theorem rows_set {u : World} {B x : Nat} {L : List (Value × List MC)} {cur : Array Value} (ho : ∀ r ∈ L, u.ownsRow B 102 2 r.1 r.2.length (r.2.flatMap MC.cells)) (hb : Blk u x cur 37) (i : Nat) (z : Value) : ∀ r ∈ L, (u.setCell ⟨x, i, none⟩ z).ownsRow B 102 2 r.1 r.2.length (r.2.flatMap MC.cells) :=
  fun r hr => ownsRow_setCell_other (ho r hr) (a := ⟨x, i, none⟩) (fun e => type_apart (ho r hr) hb (by decide) _ e rfl) z
theorem BQ.early {w u : World} {v : VP} {vm : VM} {L : List (Value × List MC)} {x : Nat} (h : BAt w u v vm) (ho : ∀ r ∈ L, u.ownsRow w.heap.size 102 2 r.1 r.2.length (r.2.flatMap MC.cells)) (hb : Blk u x #[.int .i64 0, .bool false, .int .i64 0, .int .i64 0, .slice none 0 0, .slice none 0 0, .slice none 0 0] 37) (hx : w.heap.size + 1 + 1 < x) : BQ w ((((((((u.setCell ⟨x, 0, none⟩ (.int .i64 0)).setCell ⟨x, 1, none⟩ (.bool false)).setCell ⟨x, 2, none⟩ (.int .i64 0)).setCell ⟨x, 3, none⟩ (.int .i64 0)).setCell ⟨x, 4, none⟩ (.slice (some ⟨u.heap.size, 0, none⟩) 3 3)).setCell ⟨x, 5, none⟩ (.slice none 0 0)).setCell ⟨x, 6, none⟩ (.slice none 0 0)).alloc (.cells (L.map Prod.fst).toArray 34)) v vm L x u.heap.size (.slice none 0 0) := by
  have k0 := hb.set 0 (.int .i64 0)
  have k1 := k0.set 1 (.bool false)
  have k2 := k1.set 2 (.int .i64 0)
  have k3 := k2.set 3 (.int .i64 0)
  have k4 := k3.set 4 (.slice (some ⟨u.heap.size, 0, none⟩) 3 3)
  have k5 := k4.set 5 (.slice none 0 0)
  have k6 := k5.set 6 (.slice none 0 0)
  have o6 := rows_set (rows_set (rows_set (rows_set (rows_set (rows_set (rows_set ho hb 0 (.int .i64 0)) k0 1 (.bool false)) k1 2 (.int .i64 0)) k2 3 (.int .i64 0)) k3 4 (.slice (some ⟨u.heap.size, 0, none⟩) 3 3)) k4 5 (.slice none 0 0)) k5 6 (.slice none 0 0)
  have h6 := ((((((h.set hx 0 (.int .i64 0)).set hx 1 (.bool false)).set hx 2 (.int .i64 0)).set hx 3 (.int .i64 0)).set hx 4 (.slice (some ⟨u.heap.size, 0, none⟩) 3 3)).set hx 5 (.slice none 0 0)).set hx 6 (.slice none 0 0)
  have z6 : (((((((u.setCell ⟨x, 0, none⟩ (.int .i64 0)).setCell ⟨x, 1, none⟩ (.bool false)).setCell ⟨x, 2, none⟩ (.int .i64 0)).setCell ⟨x, 3, none⟩ (.int .i64 0)).setCell ⟨x, 4, none⟩ (.slice (some ⟨u.heap.size, 0, none⟩) 3 3)).setCell ⟨x, 5, none⟩ (.slice none 0 0)).setCell ⟨x, 6, none⟩ (.slice none 0 0)).heap.size = u.heap.size := by simp only [World.size_setCell]
  generalize (((((((u.setCell ⟨x, 0, none⟩ (.int .i64 0)).setCell ⟨x, 1, none⟩ (.bool false)).setCell ⟨x, 2, none⟩ (.int .i64 0)).setCell ⟨x, 3, none⟩ (.int .i64 0)).setCell ⟨x, 4, none⟩ (.slice (some ⟨u.heap.size, 0, none⟩) 3 3)).setCell ⟨x, 5, none⟩ (.slice none 0 0)).setCell ⟨x, 6, none⟩ (.slice none 0 0)) = U at k6 o6 h6 z6 ⊢
  have b1 := below_alloc U (.cells (L.map Prod.fst).toArray 34)
  have n1 := Blk.new U (L.map Prod.fst).toArray 34
  rw [z6] at n1
  have hl := h.lt
  exact ⟨h6.keep b1, k6.keep b1, n1, fun r hr => own_keep (o6 r hr) b1 (Nat.le_refl _), hx, hl⟩
theorem own_lower {w : World} {base b : Nat} {e : TypeId} {k n : Nat} {v : Value} {xs : List Value} (h : w.ownsRow base e k v n xs) (hb : b ≤ base) : w.ownsRow b e k v n xs :=
  ⟨h.1, h.2.imp id fun ⟨g, cap, cur, e1, hb1, r⟩ => ⟨g, cap, cur, e1, Nat.le_trans hb hb1, r⟩⟩
/-- What holds of the world at hand, and the world is any. -/
theorem with_world {Q : Exit → Act → World → Prop} {a : Act} {U : World} (P : World → Prop) (h : P U) (k : ∀ u, P u → Q .normal a u) : Q .normal a U := k U h
end Go.Proofs.YtkpajiahpmdobaaGreat
