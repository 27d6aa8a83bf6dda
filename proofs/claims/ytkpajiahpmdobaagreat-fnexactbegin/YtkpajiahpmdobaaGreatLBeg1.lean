/- LBeg1: what the law of Begin needs beside its walk. -/
import Derived.Test.YtkpajiahpmdobaaGreatBeg5
import Derived.Test.YtkpajiahpmdobaaGreatMBeg7
import Derived.Test.YtkpajiahpmdobaaGreatMark4
import Derived.Test.YtkpajiahpmdobaaGreatMark5
namespace Go.Proofs.YtkpajiahpmdobaaGreat
open Go.ChangeShapes Go.WideShapes Go.ChangeAt Go.RowKit
set_option linter.unusedVariables false
theorem BegIs.small {p : MP} {m : MM} {s : MS} (h : BegIs p m s) (hp : p.small) : s.small := by
  rcases h with ⟨hv, r0, r1, r2, f, fs, e1, e2, rfl⟩ | ⟨hv, rfl⟩
  · have hl : ∀ (r ws : List Int), r ∈ p.regions → (cellsL r ws).length ≤ 1048576 := fun r ws hr => by
      have := hp.region r hr
      simp only [cellsL, List.length_zipWith]
      omega
    rw [e1] at hl
    refine ⟨by simp [begOf], ?_, by simp [begOf], by simp [begOf], ?_⟩
    · intro r hr
      simp only [begOf, List.mem_cons, List.not_mem_nil, or_false] at hr
      rcases hr with rfl | rfl | rfl
      · exact hl _ _ (by simp)
      · exact hl _ _ (by simp)
      · exact hl _ _ (by simp)
    · intro g hg
      simp only [begOf, List.mem_cons, List.not_mem_nil, or_false] at hg
      subst hg
      show (zerosL f.locals).length ≤ 1048576
      rw [zerosL_length]
      exact (hp.func f (by rw [e2]; simp)).2.1
  · exact ⟨by simp [badSt], by simp [badSt], by simp [badSt], by simp [badSt], by simp [badSt]⟩
/-- A law's two arguments, in their blocks. -/
structure L2 (w u : World) (v : VP) (vm : VM) : Prop where
  p : At4 u w.heap.size v.r v.k v.f v.t
  m : At3 u (w.heap.size + 1) vm.i vm.o vm.k
  bel : Below w.heap.size w u
theorem L2.keep {w u u' : World} {v : VP} {vm : VM} (h : L2 w u v vm) (hb : Below u.heap.size u u') : L2 w u' v vm := ⟨h.p.keep hb, h.m.keep hb, below_on h.bel (Nat.le_refl _) hb⟩
theorem L2.all {w u : World} {v : VP} {vm : VM} (h : L2 w u v vm) : u.cell? ⟨w.heap.size, 0, none⟩ = some v.r ∧ u.cell? ⟨w.heap.size, 1, none⟩ = some v.k ∧ u.cell? ⟨w.heap.size, 2, none⟩ = some v.f ∧ u.cell? ⟨w.heap.size, 3, none⟩ = some v.t ∧ u.cell? ⟨w.heap.size + 1, 0, none⟩ = some vm.i ∧ u.cell? ⟨w.heap.size + 1, 1, none⟩ = some vm.o ∧ u.cell? ⟨w.heap.size + 1, 2, none⟩ = some vm.k :=
  ⟨h.p.c0, h.p.c1, h.p.c2, h.p.c3, h.m.c0, h.m.c1, h.m.c2⟩
/-- A state's block, and what it reads. -/
structure StB (u : World) (X : Nat) (s : MS) (a1 a2 a3 : Option Addr) (c1 c2 c3 : Nat) : Prop where
  blk : Blk u X #[.int .i64 s.trap, .bool s.done, .int .i64 s.cost, .int .i64 s.steps, .slice a1 s.cells.length c1, .slice a2 s.stack.length c2, .slice a3 s.frames.length c3] 37
  rd : RdS u ⟨.slice a1 s.cells.length c1, .slice a2 s.stack.length c2, .slice a3 s.frames.length c3⟩ s
theorem StB.keep {u u' : World} {X : Nat} {s : MS} {a1 a2 a3 : Option Addr} {c1 c2 c3 : Nat} (h : StB u X s a1 a2 a3 c1 c2 c3) (hb : Below u.heap.size u u') : StB u' X s a1 a2 a3 c1 c2 c3 := ⟨h.blk.keep hb, h.rd.keep hb (Nat.le_refl _)⟩
theorem blk7 {u : World} {X : Nat} {x0 x1 x2 x3 x4 x5 x6 : Value} {t : TypeId} (h : Blk u X #[x0, x1, x2, x3, x4, x5, x6] t) : u.cell? ⟨X, 0, none⟩ = some x0 ∧ u.cell? ⟨X, 1, none⟩ = some x1 ∧ u.cell? ⟨X, 2, none⟩ = some x2 ∧ u.cell? ⟨X, 3, none⟩ = some x3 ∧ u.cell? ⟨X, 4, none⟩ = some x4 ∧ u.cell? ⟨X, 5, none⟩ = some x5 ∧ u.cell? ⟨X, 6, none⟩ = some x6 :=
  ⟨h.cell 0, h.cell 1, h.cell 2, h.cell 3, h.cell 4, h.cell 5, h.cell 6⟩
/-- Behind a region that begins a program anew. -/
def CutS (p : MP) (m : MM) (u wx : World) (X : Nat) : Prop := ∃ s a1 c1 a2 c2 a3 c3, BegIs p m s ∧ StB wx X s a1 a2 a3 c1 c2 c3 ∧ Below u.heap.size u wx
theorem CutS.late {p : MP} {m : MM} {u0 u : World} {s : MS} {a1 a2 a3 : Option Addr} {c1 c2 c3 B : Nat} (h : BegIs p m s) (ho : OwnS u B ⟨.slice a1 s.cells.length c1, .slice a2 s.stack.length c2, .slice a3 s.frames.length c3⟩ s) (hb : Below u0.heap.size u0 u) : Hid (CutS p m u0 (u.alloc (.cells #[.int .i64 s.trap, .bool s.done, .int .i64 s.cost, .int .i64 s.steps, .slice a1 s.cells.length c1, .slice a2 s.stack.length c2, .slice a3 s.frames.length c3] 37)) u.heap.size) :=
  ⟨s, a1, c1, a2, c2, a3, c3, h, ⟨Blk.new _ _ _, ho.rd.keep (below_alloc _ _) (Nat.le_refl _)⟩, below_on hb (Nat.le_refl _) (below_alloc _ _)⟩
theorem CutS.early {p : MP} {m : MM} {u0 u : World} {X : Nat} {s : MS} {a1 a2 a3 : Option Addr} {c1 c2 c3 B : Nat} (h : BegIs p m s) (ho : OwnS u B ⟨.slice a1 s.cells.length c1, .slice a2 s.stack.length c2, .slice a3 s.frames.length c3⟩ s) (hb : Below u0.heap.size u0 u) (hk : Blk u X #[.int .i64 0, .bool false, .int .i64 0, .int .i64 0, .slice none 0 0, .slice none 0 0, .slice none 0 0] 37) (hX : u0.heap.size ≤ X) : Hid (CutS p m u0 (((((((u.setCell ⟨X, 0, none⟩ (.int .i64 s.trap)).setCell ⟨X, 1, none⟩ (.bool s.done)).setCell ⟨X, 2, none⟩ (.int .i64 s.cost)).setCell ⟨X, 3, none⟩ (.int .i64 s.steps)).setCell ⟨X, 4, none⟩ (.slice a1 s.cells.length c1)).setCell ⟨X, 5, none⟩ (.slice a2 s.stack.length c2)).setCell ⟨X, 6, none⟩ (.slice a3 s.frames.length c3)) X) := by
  have k0 := hk.set 0 (.int .i64 s.trap)
  have k1 := k0.set 1 (.bool s.done)
  have k2 := k1.set 2 (.int .i64 s.cost)
  have k3 := k2.set 3 (.int .i64 s.steps)
  have k4 := k3.set 4 (.slice a1 s.cells.length c1)
  have k5 := k4.set 5 (.slice a2 s.stack.length c2)
  have k6 := k5.set 6 (.slice a3 s.frames.length c3)
  have o6 := ((((((ho.setSt hk 0 (.int .i64 s.trap)).setSt k0 1 (.bool s.done)).setSt k1 2 (.int .i64 s.cost)).setSt k2 3 (.int .i64 s.steps)).setSt k3 4 (.slice a1 s.cells.length c1)).setSt k4 5 (.slice a2 s.stack.length c2)).setSt k5 6 (.slice a3 s.frames.length c3)
  exact ⟨s, a1, c1, a2, c2, a3, c3, h, ⟨k6, o6.rd⟩, ((((((hb.setCell hX _).setCell hX _).setCell hX _).setCell hX _).setCell hX _).setCell hX _).setCell hX _⟩
theorem OwnS.slices {w : World} {B : Nat} {x : VS} {s : MS} (h : OwnS w B x s) : ∃ a1 c1 a2 c2 a3 c3, x = ⟨.slice a1 s.cells.length c1, .slice a2 s.stack.length c2, .slice a3 s.frames.length c3⟩ := by
  obtain ⟨⟨xs, e1, o1, _⟩, h2, ⟨ys, e3, o3, _⟩⟩ := h
  obtain ⟨a1, c1, q1⟩ := (Rd.of_own o1).is_slice
  obtain ⟨a2, c2, q2⟩ := (Rd.of_own h2).is_slice
  obtain ⟨a3, c3, q3⟩ := (Rd.of_own o3).is_slice
  obtain ⟨vc, vk, vf⟩ := x
  simp only [] at q1 q2 q3
  subst q1 q2 q3
  exact ⟨a1, c1, a2, c2, a3, c3, rfl⟩
theorem specBegin_sl (v : VP) (p : MP) (vm : VM) (m : MM) (w : World) (hs : p.small) (hw : p.wf) (ms : m.small) (mw : m.wf) (h : RdP w v p ∧ RdRc w v.r p.regions ∧ RdFp w v.f p.funcs) (hm : RdM w vm m) :
    Calls Tryz.prog 6 #[.agg #[v.r, v.k, v.f, v.t], .agg #[vm.i, vm.o, vm.k]] w fun e w' => ∃ (s : MS) (a1 : Option Addr) (c1 : Nat) (a2 : Option Addr) (c2 : Nat) (a3 : Option Addr) (c3 : Nat), e = .returned (.agg #[.int .i64 s.trap, .bool s.done, .int .i64 s.cost, .int .i64 s.steps, .slice a1 s.cells.length c1, .slice a2 s.stack.length c2, .slice a3 s.frames.length c3]) ∧ BegIs p m s ∧ (∃ B, OwnS w' B ⟨.slice a1 s.cells.length c1, .slice a2 s.stack.length c2, .slice a3 s.frames.length c3⟩ s) ∧ Below w.heap.size w w' := by
  refine (specBegin_any v p vm m w hs hw h.1 h.2.2 ms hm).mono ?_
  rintro e w' ⟨s, x, rfl, hb, ho, bl⟩
  obtain ⟨a1, c1, a2, c2, a3, c3, rfl⟩ := ho.slices
  exact ⟨s, a1, c1, a2, c2, a3, c3, rfl, hb, ⟨_, ho⟩, bl⟩
theorem implBegin_sl (v : VP) (p : MP) (vm : VM) (m : MM) (w : World) (hs : p.small) (hw : p.wf) (ms : m.small) (mw : m.wf) (h : RdP w v p ∧ RdRc w v.r p.regions ∧ RdFp w v.f p.funcs) (hm : RdM w vm m) :
    Calls Tryz.prog 9 #[.agg #[v.r, v.k, v.f, v.t], .agg #[vm.i, vm.o, vm.k]] w fun e w' => ∃ (s : MS) (a1 : Option Addr) (c1 : Nat) (a2 : Option Addr) (c2 : Nat) (a3 : Option Addr) (c3 : Nat), e = .returned (.agg #[.int .i64 s.trap, .bool s.done, .int .i64 s.cost, .int .i64 s.steps, .slice a1 s.cells.length c1, .slice a2 s.stack.length c2, .slice a3 s.frames.length c3]) ∧ BegIs p m s ∧ (∃ B, OwnS w' B ⟨.slice a1 s.cells.length c1, .slice a2 s.stack.length c2, .slice a3 s.frames.length c3⟩ s) ∧ Below w.heap.size w w' := by
  refine (implBegin_any v p vm m w hs hw h.1 h.2.1 h.2.2 ms mw hm).mono ?_
  rintro e w' ⟨C, K, F, tr, x, rfl, hb, hsm, ho, bl⟩
  have ho' := ho.own tr false 0 0
  obtain ⟨a1, c1, a2, c2, a3, c3, rfl⟩ := ho'.slices
  exact ⟨_, a1, c1, a2, c2, a3, c3, rfl, hb, ⟨_, ho'⟩, bl⟩
theorem implBegin_ex (v : VP) (p : MP) (vm : VM) (m : MM) (w : World) (hs : p.small) (hw : p.wf) (ms : m.small) (mw : m.wf) (h : RdP w v p ∧ RdRc w v.r p.regions ∧ RdFp w v.f p.funcs) (hm : RdM w vm m) :
    Calls Tryz.prog 9 #[.agg #[v.r, v.k, v.f, v.t], .agg #[vm.i, vm.o, vm.k]] w fun e w' => ∃ (C : List (Value × List MC)) (K : List MC) (F : List (MG × Value)) (s : MS) (a1 : Option Addr) (c1 : Nat) (a2 : Option Addr) (c2 : Nat) (a3 : Option Addr) (c3 : Nat), e = .returned (.agg #[.int .i64 s.trap, .bool s.done, .int .i64 s.cost, .int .i64 s.steps, .slice a1 s.cells.length c1, .slice a2 s.stack.length c2, .slice a3 s.frames.length c3]) ∧ BegIs p m s ∧ s = stOf s.trap s.done s.cost s.steps C K F ∧ SmallSE C K F ∧ OwnSE w' w.heap.size ⟨.slice a1 s.cells.length c1, .slice a2 s.stack.length c2, .slice a3 s.frames.length c3⟩ C K F ∧ Below w.heap.size w w' := by
  refine (implBegin_any v p vm m w hs hw h.1 h.2.1 h.2.2 ms mw hm).mono ?_
  rintro e w' ⟨C, K, F, tr, x, rfl, hb, hsm, ho, bl⟩
  have ho' := ho.own tr false 0 0
  obtain ⟨a1, c1, a2, c2, a3, c3, rfl⟩ := ho'.slices
  exact ⟨C, K, F, _, a1, c1, a2, c2, a3, c3, rfl, hb, rfl, hsm, ho, bl⟩
theorem OwnSE.rdS {u : World} {B : Nat} {v : VS} {C : List (Value × List MC)} {K : List MC} {F : List (MG × Value)} {s : MS} (h : OwnSE u B v C K F) (hs : s = stOf s.trap s.done s.cost s.steps C K F) : RdS u v s := by
  have k := h.own s.trap s.done s.cost s.steps
  rw [← hs] at k
  exact k.rd
theorem OwnSE.keep {u u' : World} {B : Nat} {v : VS} {C : List (Value × List MC)} {K : List MC} {F : List (MG × Value)} (h : OwnSE u B v C K F) (hb : Below u.heap.size u u') : OwnSE u' B v C K F := ⟨own_keep h.cells hb (Nat.le_refl _), own_keep h.frames hb (Nat.le_refl _), h.fam.keep hb⟩
theorem OwnSE.marks {u u' : World} {B lo hi : Nat} {v : VS} {C : List (Value × List MC)} {K : List MC} {F : List (MG × Value)} (h : OwnSE u B v C K F) (mg : MarksG lo hi u u') (hB : hi ≤ B) : OwnSE u' B v C K F := ⟨mg.own h.cells hB, mg.own h.frames hB, ⟨fun x hx => mg.own (h.fam.own x hx) hB, h.fam.sep⟩⟩
theorem Blk.marks {u u' : World} {b lo hi : Nat} {cur : Array Value} {t : TypeId} (h : Blk u b cur t) (mg : MarksG lo hi u u') (hb : hi ≤ b) : Blk u' b cur t := by
  have k := mg.out b h.lt (.inr hb)
  unfold Blk at *
  rw [k]
  exact h
theorem endS_pos {C : List (Value × List MC)} {K : List MC} {F : List (MG × Value)} (h : SmallSE C K F) : ¬ endF (kOf' C K) F < 0 := by
  have h1 := endK_le 1 C h.cell
  have h2 := endF_le (kOf' C K) F h.frame
  unfold kOf' at *
  omega
end Go.Proofs.YtkpajiahpmdobaaGreat
