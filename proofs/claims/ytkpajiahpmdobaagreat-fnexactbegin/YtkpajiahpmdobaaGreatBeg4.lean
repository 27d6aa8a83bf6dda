/- Beg4: what both sides of Begin need: the first function, the state behind its regions. -/
import Derived.Test.YtkpajiahpmdobaaGreatBeg3
import Derived.Test.YtkpajiahpmdobaaGreatMMarkZ
import Derived.Test.YtkpajiahpmdobaaGreatIFault11
namespace Go.Proofs.YtkpajiahpmdobaaGreat
open Go.ChangeShapes Go.WideShapes Go.ChangeAt Go.RowKit
set_option linter.unusedVariables false
theorem BQ.last3 {w u : World} {v : VP} {vm : VM} {s1 s2 s3 : Value} {c1 c2 c3 : List MC} (h : BAt w u v vm) (ho : ∀ r ∈ [(s1, c1), (s2, c2), (s3, c3)], u.ownsRow w.heap.size 102 2 r.1 r.2.length (r.2.flatMap MC.cells)) : Hid (∃ X y, X = (u.heap.size + 1) ∧ BQ w ((u.alloc (.cells #[s1, s2, s3] 34)).alloc (.cells #[.int .i64 0, .bool false, .int .i64 0, .int .i64 0, .slice (some ⟨u.heap.size, 0, none⟩) 3 3, .slice none 0 0, .slice none 0 0] 37)) v vm [(s1, c1), (s2, c2), (s3, c3)] X y (.slice none 0 0)) := by
  have k := BQ.last (L := [(s1, c1), (s2, c2), (s3, c3)]) h ho
  simp only [List.map_cons, List.map_nil] at k
  exact ⟨_, _, rfl, k⟩
theorem BQ.first3 {w u : World} {v : VP} {vm : VM} {s1 s2 s3 : Value} {c1 c2 c3 : List MC} (h : BAt w u v vm) (ho : ∀ r ∈ [(s1, c1), (s2, c2), (s3, c3)], u.ownsRow w.heap.size 102 2 r.1 r.2.length (r.2.flatMap MC.cells)) : Hid (∃ X y, X = u.heap.size ∧ BQ w ((u.alloc (.cells #[.int .i64 0, .bool false, .int .i64 0, .int .i64 0, .slice (some ⟨u.heap.size + 1, 0, none⟩) 3 3, .slice none 0 0, .slice none 0 0] 37)).alloc (.cells #[s1, s2, s3] 34)) v vm [(s1, c1), (s2, c2), (s3, c3)] X y (.slice none 0 0)) := by
  have k := BQ.first (L := [(s1, c1), (s2, c2), (s3, c3)]) h ho
  simp only [List.map_cons, List.map_nil] at k
  exact ⟨_, _, rfl, k⟩
theorem BQ.early3 {w u : World} {v : VP} {vm : VM} {s1 s2 s3 : Value} {c1 c2 c3 : List MC} {x : Nat} (h : BAt w u v vm) (ho : ∀ r ∈ [(s1, c1), (s2, c2), (s3, c3)], u.ownsRow w.heap.size 102 2 r.1 r.2.length (r.2.flatMap MC.cells)) (hb : Blk u x #[.int .i64 0, .bool false, .int .i64 0, .int .i64 0, .slice none 0 0, .slice none 0 0, .slice none 0 0] 37) (hx : w.heap.size + 1 + 1 < x) : Hid (∃ X y, X = x ∧ BQ w ((((((((u.setCell ⟨x, 0, none⟩ (.int .i64 0)).setCell ⟨x, 1, none⟩ (.bool false)).setCell ⟨x, 2, none⟩ (.int .i64 0)).setCell ⟨x, 3, none⟩ (.int .i64 0)).setCell ⟨x, 4, none⟩ (.slice (some ⟨u.heap.size, 0, none⟩) 3 3)).setCell ⟨x, 5, none⟩ (.slice none 0 0)).setCell ⟨x, 6, none⟩ (.slice none 0 0)).alloc (.cells #[s1, s2, s3] 34)) v vm [(s1, c1), (s2, c2), (s3, c3)] X y (.slice none 0 0)) := by
  have k := BQ.early (L := [(s1, c1), (s2, c2), (s3, c3)]) h ho hb hx
  simp only [List.map_cons, List.map_nil] at k
  exact ⟨_, _, rfl, k⟩
/-- The first function of a program without a fault. -/
structure Fn0 (w : World) (vf : Value) (p : MP) (g o c n : Nat) (f : MF) (z : VF) : Prop where
  rows : vf = .slice (some ⟨g, o, none⟩) n c
  pos : 0 < n
  big : n ≤ 1048576
  eq : ∃ fs, p.funcs = f :: fs
  i0 : w.cell? ⟨g, o, none⟩ = some z.p
  i1 : w.cell? ⟨g, o + 1, none⟩ = some (.int .i64 f.result)
  i2 : w.cell? ⟨g, o + 2, none⟩ = some z.l
  i3 : w.cell? ⟨g, o + 3, none⟩ = some z.c
  rd : RdF w z f
  pp : Placed z.p
  pl : Placed z.l
  small : f.small
  none : f.params = []
theorem Fn0.of {w : World} {vf : Value} {p : MP} (h : RdFp w vf p.funcs) (hs : p.small) (hf : FuncsOk p.funcs) : ∃ g o c n f z, Fn0 w vf p g o c n f z := by
  obtain ⟨ys, hys, hrd, hel⟩ := h
  obtain ⟨hn0, hn1, hn2, hn3⟩ := hf
  cases hp : p.funcs with
  | nil => exact absurd (by rw [hp]; rfl) hn0
  | cons f fs =>
    cases ys with
    | nil => rw [hp] at hys; cases hys
    | cons a ys =>
      obtain ⟨f', z⟩ := a
      rw [hp] at hys
      simp only [List.map_cons, List.cons.injEq] at hys
      obtain ⟨rfl, hys⟩ := hys
      rcases hrd.2 with ⟨e0, _⟩ | ⟨g, o, c, e1, hc⟩
      · exact absurd e0 hn0
      have k0 := Rd.elem fCells_length hc 0 _ rfl 0 _ rfl
      have k1 := Rd.elem fCells_length hc 0 _ rfl 1 _ rfl
      have k2 := Rd.elem fCells_length hc 0 _ rfl 2 _ rfl
      have k3 := Rd.elem fCells_length hc 0 _ rfl 3 _ rfl
      simp only [Nat.zero_mul, Nat.add_zero] at k0 k1 k2 k3
      have hm := hel (f', z) (by simp)
      exact ⟨g, o, c, p.funcs.length, f', z, e1, Nat.pos_of_ne_zero hn0, by omega, ⟨fs, hp⟩, k0, k1, k2, k3, hm.1, hm.2.1, hm.2.2, hs.func f' (by rw [hp]; simp), List.eq_nil_of_length_eq_zero (hn3 f' (by rw [hp]; rfl)).1⟩
theorem Fn0.keep {w u : World} {vf : Value} {p : MP} {g o c n : Nat} {f : MF} {z : VF} (h : Fn0 w vf p g o c n f z) (hb : Below w.heap.size w u) : Fn0 u vf p g o c n f z :=
  ⟨h.rows, h.pos, h.big, h.eq, bcell_keep hb h.i0, bcell_keep hb h.i1, bcell_keep hb h.i2, bcell_keep hb h.i3, h.rd.keep hb (Nat.le_refl _), h.pp, h.pl, h.small, h.none⟩
/-- A row of other things than states stays when a state's cell is set. -/
theorem own_set_st {u : World} {B b k n : Nat} {e : TypeId} {v : Value} {xs : List Value} {cur : Array Value} (ho : u.ownsRow B e k v n xs) (hb : Blk u b cur 37) (hne : e ≠ 37) (i : Nat) (z : Value) : (u.setCell ⟨b, i, none⟩ z).ownsRow B e k v n xs :=
  ownsRow_setCell_other ho (a := ⟨b, i, none⟩) (fun e => type_apart ho hb hne _ e rfl) z
theorem own_line {u : World} {B y n : Nat} {e : TypeId} {xs : List Value} (h : Blk u y xs.toArray e) (hB : B ≤ y) (hn : xs.length = n) (hm : n ≤ 1048576) : u.ownsRow B e 1 (.slice (some ⟨y, 0, none⟩) n n) n xs :=
  ⟨by omega, .inr ⟨y, n, xs.toArray, rfl, hB, h, Nat.le_refl _, by unfold maxLen; omega, by simp [hn], by simp [← hn]⟩⟩
theorem BQ.keep {w u u' : World} {v : VP} {vm : VM} {L : List (Value × List MC)} {x y : Nat} {fr : Value} (h : BQ w u v vm L x y fr) (hb : Below u.heap.size u u') : BQ w u' v vm L x y fr :=
  ⟨h.args.keep hb, h.st.keep hb, h.ar.keep hb, fun r hr => own_keep (h.own r hr) hb (Nat.le_refl _), h.xge, h.yge⟩
theorem blk_ne {u : World} {x y : Nat} {a b : Array Value} {s t : TypeId} (h : Blk u x a s) (h' : Blk u y b t) (hne : s ≠ t) : y ≠ x := fun e => by
  subst e
  unfold Blk at h h'
  rw [h] at h'
  simp only [Option.some.injEq, Obj.cells.injEq] at h'
  exact hne h'.2.1
theorem BQ.setfr {w u : World} {v : VP} {vm : VM} {L : List (Value × List MC)} {x y : Nat} {fr : Value} (h : BQ w u v vm L x y fr) (F : Value) : BQ w (u.setCell ⟨x, 6, none⟩ F) v vm L x y F :=
  ⟨h.args.set h.xge 6 F, h.st.set 6 F, h.ar.other (a := ⟨x, 6, none⟩) (blk_ne h.st h.ar (by decide)) F, rows_set h.own h.st 6 F, h.xge, h.yge⟩
theorem OwnS.setSt {u : World} {B b : Nat} {x : VS} {s : MS} {cur : Array Value} (h : OwnS u B x s) (hb : Blk u b cur 37) (i : Nat) (z : Value) : OwnS (u.setCell ⟨b, i, none⟩ z) B x s := by
  obtain ⟨⟨xs, e1, o1, r1⟩, h2, ⟨ys, e3, o3, r3⟩⟩ := h
  exact ⟨⟨xs, e1, own_set_st o1 hb (by decide) i z, fun x hx => own_set_st (r1 x hx) hb (by decide) i z⟩, own_set_st h2 hb (by decide) i z, ⟨ys, e3, own_set_st o3 hb (by decide) i z, fun x hx => own_set_st (r3 x hx) hb (by decide) i z⟩⟩
theorem Fam.setSt {u : World} {B b : Nat} {L : List (Value × List MC)} {cur : Array Value} (h : Fam u B L) (hb : Blk u b cur 37) (i : Nat) (z : Value) : Fam (u.setCell ⟨b, i, none⟩ z) B L := ⟨fun x hx => own_set_st (h.own x hx) hb (by decide) i z, h.sep⟩
theorem OwnSE.setSt {u : World} {B b : Nat} {v : VS} {C : List (Value × List MC)} {K : List MC} {F : List (MG × Value)} {cur : Array Value} (h : OwnSE u B v C K F) (hb : Blk u b cur 37) (i : Nat) (z : Value) : OwnSE (u.setCell ⟨b, i, none⟩ z) B v C K F :=
  ⟨own_set_st h.cells hb (by decide) i z, own_set_st h.frames hb (by decide) i z, h.fam.setSt hb i z⟩
/-- Behind the frame's region: the frames' row, the locals' row. -/
structure BR (w U : World) (v : VP) (vm : VM) (L : List (Value × List MC)) (x y : Nat) (fr zl : Value) (zs : List MC) : Prop where
  q : BQ w U v vm L x y fr
  frow : U.ownsRow w.heap.size 63 4 fr 1 [.int .i64 0, .int .i64 0, .int .i64 0, zl]
  zrow : U.ownsRow w.heap.size 102 2 zl zs.length (zs.flatMap MC.cells)
theorem BR.own {w U : World} {v : VP} {vm : VM} {s1 s2 s3 : Value} {c1 c2 c3 : List MC} {x y : Nat} {fr zl : Value} {zs : List MC} (h : BR w U v vm [(s1, c1), (s2, c2), (s3, c3)] x y fr zl zs) : OwnS U w.heap.size ⟨.slice (some ⟨y, 0, none⟩) 3 3, .slice none 0 0, fr⟩ ⟨0, false, 0, 0, [c1, c2, c3], [], [⟨0, 0, 0, zs⟩]⟩ := by
  refine ⟨⟨[(c1, s1), (c2, s2), (c3, s3)], rfl, ?_, ?_⟩, World.ownsRow_nil _ _ _ _, ⟨[(⟨0, 0, 0, zs⟩, zl)], rfl, h.frow, ?_⟩⟩
  · exact own_line (xs := [s1, s2, s3]) h.q.ar (by have := h.q.yge; omega) rfl (by omega)
  · intro r hr
    simp only [List.mem_cons, List.not_mem_nil, or_false] at hr
    rcases hr with rfl | rfl | rfl
    · exact h.q.own (s1, c1) (by simp)
    · exact h.q.own (s2, c2) (by simp)
    · exact h.q.own (s3, c3) (by simp)
  · intro r hr
    simp only [List.mem_cons, List.not_mem_nil, or_false] at hr
    subst hr
    exact h.zrow
end Go.Proofs.YtkpajiahpmdobaaGreat
