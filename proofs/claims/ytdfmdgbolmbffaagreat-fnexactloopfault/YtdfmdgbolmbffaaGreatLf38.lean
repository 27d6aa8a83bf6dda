import Derived.Test.YtdfmdgbolmbffaaGreatLf13
import Derived.Test.YtdfmdgbolmbffaaGreatLf10
import Derived.Test.YtdfmdgbolmbffaaGreatLf12
import Derived.Test.YtdfmdgbolmbffaaGreatLf14
import Derived.Test.YtdfmdgbolmbffaaGreatLf37
import Derived.Test.YtdfmdgbolmbffaaGreatLf26
import Derived.Test.YtdfmdgbolmbffaaGreatLf32
namespace Go.Proofs.YtdfmdgbolmbffaaGreat
open Go.ChangeShapes Go.WideShapes Go.ChangeAt Go.RowKit
set_option linter.unusedVariables false
/-- A loop that is a function's. -/
def OwnLoop (p : MP) (fi : Int) (l : ML) : Prop := FaultIs p 0 ∧ 0 ≤ fi ∧ ∃ f r, p.funcs[fi.toNat]? = some f ∧ FlowOk f.code r ∧ r.code = 0 ∧ l ∈ r.loops
/-- .. with its parts. -/
def OwnLp (p : MP) (fi : Int) (l : ML) (f : MF) (r : MFl) : Prop := FaultIs p 0 ∧ 0 ≤ fi ∧ p.funcs[fi.toNat]? = some f ∧ FlowOk f.code r ∧ r.code = 0 ∧ l ∈ r.loops
/-- The fault of a loop. -/
def LfIs (p : MP) (fi : Int) (l : ML) (n : Int) : Prop := (¬ OwnLoop p fi l ∧ n = 7) ∨ ∃ f r, OwnLp p fi l f r ∧ LoopIs p fi f.code r.blocks l n
theorem OwnLp.own {p : MP} {fi : Int} {l : ML} {f : MF} {r : MFl} (h : OwnLp p fi l f r) : OwnLoop p fi l := ⟨h.1, h.2.1, f, r, h.2.2⟩
theorem OwnLp.one {p : MP} {fi : Int} {l : ML} {f f' : MF} {r r' : MFl} (h : OwnLp p fi l f r) (h' : OwnLp p fi l f' r') : f = f' ∧ r = r' := by
  have e := h.2.2.1
  rw [h'.2.2.1] at e
  have e := (Option.some.inj e).symm
  subst e
  exact ⟨rfl, h.2.2.2.1.one h'.2.2.2.1⟩
theorem LfIs.one {p : MP} {fi : Int} {l : ML} {n n' : Int} (h : LfIs p fi l n) (h' : LfIs p fi l n') : n = n' := by
  rcases h with ⟨a, rfl⟩ | ⟨f, r, a, h⟩ <;> rcases h' with ⟨a', rfl⟩ | ⟨f', r', a', h'⟩
  · rfl
  · exact absurd a'.own a
  · exact absurd a.own a'
  · obtain ⟨rfl, rfl⟩ := a.one a'
    exact h.one h'
theorem flow_loops {xs : List MI} {r : MFl} (h : FlowOk xs r) : r.loops.length ≤ 1024 ∧ ∀ m ∈ r.loops, m.back.length ≤ 1048576 ∧ m.blocks.length ≤ 1048576 := by
  by_cases h0 : r.code = 0
  · have q := h.inn h0
    exact ⟨q.nl, fun m hm => ⟨by have := (q.loop m hm).2.2.2; omega, by have := (q.loop m hm).2.2.1; omega⟩⟩
  · cases h with
    | none _ => exact ⟨by simp [noFl], fun m hm => by cases hm⟩
    | off _ _ _ => exact ⟨by simp [noFl], fun m hm => by cases hm⟩
    | lost _ _ _ _ _ _ _ _ => exact ⟨by simp [noFl], fun m hm => by cases hm⟩
    | two _ _ _ _ _ _ _ _ => exact ⟨by simp [noFl], fun m hm => by cases hm⟩
    | good _ _ _ _ _ _ _ _ _ => exact absurd rfl h0
theorem LoopIs.c1 {p : MP} {fi : Int} {xs : List MI} {bs : List MB} {l : ML} {hb : MB} (h : bs[l.head.toNat]? = some hb) (h1 : certAt p.certs fi hb.first = none) : LoopIs p fi xs bs l 1 := ⟨hb, h, .inl ⟨h1, rfl⟩⟩
/-- .. with a certificate and an instruction at its head. -/
structure LpAt (p : MP) (fi : Int) (xs : List MI) (bs : List MB) (l : ML) (hb : MB) (c : MT) (g : MI) : Prop where
  is_ : bs[l.head.toNat]? = some hb
  cert : certAt p.certs fi hb.first = some c
  at_ : xs[hb.first.toNat]? = some g
theorem LoopIs.c2 {p : MP} {fi : Int} {xs : List MI} {bs : List MB} {l : ML} {hb : MB} {c : MT} {g : MI} (h : LpAt p fi xs bs l hb c g) (h2 : ¬ (g.op = 27 ∧ g.a = c.counter)) : LoopIs p fi xs bs l 2 := ⟨hb, h.is_, .inr ⟨c, g, h.cert, h.at_, .inl ⟨h2, rfl⟩⟩⟩
theorem LoopIs.c3 {p : MP} {fi : Int} {xs : List MI} {bs : List MB} {l : ML} {hb : MB} {c : MT} {g : MI} (h : LpAt p fi xs bs l hb c g) (h2 : g.op = 27 ∧ g.a = c.counter) (h3 : InBl bs l.blocks g.c) : LoopIs p fi xs bs l 3 := ⟨hb, h.is_, .inr ⟨c, g, h.cert, h.at_, .inr ⟨h2, .inl ⟨h3, rfl⟩⟩⟩⟩
theorem LoopIs.c4 {p : MP} {fi : Int} {xs : List MI} {bs : List MB} {l : ML} {hb : MB} {c : MT} {g : MI} (h : LpAt p fi xs bs l hb c g) (h2 : g.op = 27 ∧ g.a = c.counter) (h3 : ¬ InBl bs l.blocks g.c) (h4 : ∃ a, InBl bs l.blocks a ∧ a ≠ hb.first ∧ WrC xs c.counter a) : LoopIs p fi xs bs l 4 := ⟨hb, h.is_, .inr ⟨c, g, h.cert, h.at_, .inr ⟨h2, .inr ⟨h3, .inl ⟨h4, rfl⟩⟩⟩⟩⟩
theorem LoopIs.c5 {p : MP} {fi : Int} {xs : List MI} {bs : List MB} {l : ML} {hb : MB} {c : MT} {g : MI} (h : LpAt p fi xs bs l hb c g) (h2 : g.op = 27 ∧ g.a = c.counter) (h3 : ¬ InBl bs l.blocks g.c) (h4 : ¬ ∃ a, InBl bs l.blocks a ∧ a ≠ hb.first ∧ WrC xs c.counter a) (h5 : l.head = 0 ∨ OpenC p.consts xs bs l c) : LoopIs p fi xs bs l 5 := ⟨hb, h.is_, .inr ⟨c, g, h.cert, h.at_, .inr ⟨h2, .inr ⟨h3, .inr ⟨h4, .inl ⟨h5, rfl⟩⟩⟩⟩⟩⟩
theorem LoopIs.c0 {p : MP} {fi : Int} {xs : List MI} {bs : List MB} {l : ML} {hb : MB} {c : MT} {g : MI} (h : LpAt p fi xs bs l hb c g) (h2 : g.op = 27 ∧ g.a = c.counter) (h3 : ¬ InBl bs l.blocks g.c) (h4 : ¬ ∃ a, InBl bs l.blocks a ∧ a ≠ hb.first ∧ WrC xs c.counter a) (h5 : ¬ (l.head = 0 ∨ OpenC p.consts xs bs l c)) : LoopIs p fi xs bs l 0 := ⟨hb, h.is_, .inr ⟨c, g, h.cert, h.at_, .inr ⟨h2, .inr ⟨h3, .inr ⟨h4, .inr ⟨h5, rfl⟩⟩⟩⟩⟩⟩
/-- A loop among those of a flow. -/
theorem loop_at {u : World} {a : Option Addr} {n c : Nat} {ls : List ML} (h : RdLs u (.slice a n c) ls) {k : Nat} {m : ML} (hk : ls[k]? = some m) : ∃ g o a1 e1 a2 e2, a = some ⟨g, o, none⟩ ∧ u.cell? ⟨g, o + k * 3, none⟩ = some (.int .i64 m.head) ∧ u.cell? ⟨g, o + k * 3 + 1, none⟩ = some (.slice a1 m.back.length e1) ∧ u.cell? ⟨g, o + k * 3 + 2, none⟩ = some (.slice a2 m.blocks.length e2) ∧ RdL u (m, .slice a1 m.back.length e1, .slice a2 m.blocks.length e2) := by
  obtain ⟨xs, h1, h2, h3⟩ := h
  have hi := (List.getElem?_eq_some_iff.1 hk).1
  obtain ⟨⟨m', w1, w2⟩, hx, hx1⟩ : ∃ x, xs[k]? = some x ∧ x.1 = m := by
    rw [← h1, List.getElem?_map] at hk
    exact Option.map_eq_some_iff.1 hk
  simp only [] at hx1
  subst hx1
  have hr := h3 _ (List.mem_of_getElem? hx)
  obtain ⟨a1, e1, q1⟩ := Rd.is_slice hr.1
  obtain ⟨a2, e2, q2⟩ := Rd.is_slice hr.2
  simp only [] at q1 q2
  subst q1 q2
  rcases h2.2 with ⟨e, _⟩ | ⟨gg, oo, cc, e, hc⟩
  · omega
  · simp only [Value.slice.injEq] at e
    have j0 := Rd.elem lCells_length hc k _ hx 0 _ rfl
    have j1 := Rd.elem lCells_length hc k _ hx 1 _ rfl
    have j2 := Rd.elem lCells_length hc k _ hx 2 _ rfl
    rw [Nat.add_zero] at j0
    exact ⟨gg, oo, a1, e1, a2, e2, e.1, j0, j1, j2, hr⟩
/-- A block among those of a flow. -/
theorem blk_at {u : World} {a : Option Addr} {n c : Nat} {bs : List MB} (h : RdBs u (.slice a n c) bs) {k : Nat} {m : MB} (hk : bs[k]? = some m) : ∃ g o a1 e1, a = some ⟨g, o, none⟩ ∧ u.cell? ⟨g, o + k * 3, none⟩ = some (.int .i64 m.first) ∧ u.cell? ⟨g, o + k * 3 + 1, none⟩ = some (.int .i64 m.last) ∧ u.cell? ⟨g, o + k * 3 + 2, none⟩ = some (.slice a1 m.next.length e1) ∧ RdB u (.slice a1 m.next.length e1) m := by
  obtain ⟨xs, h1, h2, h3⟩ := h
  have hi := (List.getElem?_eq_some_iff.1 hk).1
  obtain ⟨⟨m', w1⟩, hx, hx1⟩ : ∃ x, xs[k]? = some x ∧ x.1 = m := by
    rw [← h1, List.getElem?_map] at hk
    exact Option.map_eq_some_iff.1 hk
  simp only [] at hx1
  subst hx1
  have hr := h3 _ (List.mem_of_getElem? hx)
  obtain ⟨a1, e1, q1⟩ := Rd.is_slice hr
  simp only [] at q1
  subst q1
  rcases h2.2 with ⟨e, _⟩ | ⟨gg, oo, cc, e, hc⟩
  · omega
  · simp only [Value.slice.injEq] at e
    have j0 := Rd.elem bCells_length hc k _ hx 0 _ rfl
    have j1 := Rd.elem bCells_length hc k _ hx 1 _ rfl
    have j2 := Rd.elem bCells_length hc k _ hx 2 _ rfl
    rw [Nat.add_zero] at j0
    exact ⟨gg, oo, a1, e1, e.1, j0, j1, j2, hr⟩
theorem RdFl.keepL {w w' : World} {vb vo vi vl : Value} {r : MFl} (h : RdFl w vb vo vi vl r) {B : Nat} (hb : Below B w w') (hB : w.heap.size ≤ B) : RdFl w' vb vo vi vl r := ⟨h.blocks.keep hb hB, h.order.keep hb hB, h.idom.keep hb hB, h.loops.keep hb hB⟩
theorem rdFl_len {w : World} {vb vo vi vl : Value} {r : MFl} (h : RdFl w vb vo vi vl r) : ∃ v1 c1 v2 c2 v3 c3 v4 c4, vb = .slice v1 r.blocks.length c1 ∧ vo = .slice v2 r.order.length c2 ∧ vi = .slice v3 r.idom.length c3 ∧ vl = .slice v4 r.loops.length c4 := by
  obtain ⟨v1, c1, e1⟩ : ∃ a c, vb = .slice a r.blocks.length c := by obtain ⟨_, _, h2, _⟩ := h.blocks; exact h2.is_slice
  obtain ⟨v2, c2, e2⟩ := h.order.is_slice
  obtain ⟨v3, c3, e3⟩ := h.idom.is_slice
  obtain ⟨v4, c4, e4⟩ : ∃ a c, vl = .slice a r.loops.length c := by obtain ⟨_, _, h2, _⟩ := h.loops; exact h2.is_slice
  exact ⟨v1, c1, v2, c2, v3, c3, v4, c4, e1, e2, e3, e4⟩
/-- Where spec.LoopFault stands. -/
structure LfS (w u : World) (v : VP) (lv : VL) (l : ML) (FB : Nat) (r : MFl) (z1 z2 z3 z4 : Value) : Prop where
  pb : Blk u w.heap.size #[v.r, v.k, v.f, v.t] 36
  lb : Blk u (w.heap.size + 1) #[.int .i64 l.head, lv.b, lv.k] 53
  fb : Blk u FB #[.int .i64 r.code, .int .i64 r.at_, z1, z2, z3, z4] 67
  rf : RdFl u z1 z2 z3 z4 r
  bel : Below w.heap.size w u
theorem LfS.keep {w u u' : World} {v : VP} {lv : VL} {l : ML} {FB : Nat} {r : MFl} {z1 z2 z3 z4 : Value} (h : LfS w u v lv l FB r z1 z2 z3 z4) (hb : Below u.heap.size u u') : LfS w u' v lv l FB r z1 z2 z3 z4 := ⟨h.pb.keep hb, h.lb.keep hb, h.fb.keep hb, h.rf.keepL hb (Nat.le_refl _), below_on h.bel (Nat.le_refl _) hb⟩
theorem in_bl {bs : List MB} {ls : List Int} {j b : Nat} {z : Int} {m : MB} {a : Int} (hz : ls[j]? = some z) (hb : z = (b : Int)) (hm : bs[b]? = some m) (h1 : m.first ≤ a) (h2 : a ≤ m.last) : InBl bs ls a := ⟨z, List.mem_of_getElem? hz, m, by rw [hb, Int.toNat_natCast]; exact hm, h1, h2⟩
theorem not_in_bl {bs : List MB} {ls : List Int} {P : Int → Prop} (h : ∀ (j : Nat) (z : Int) (m : MB), ls[j]? = some z → bs[z.toNat]? = some m → ∀ a, m.first ≤ a → a ≤ m.last → ¬ P a) : ¬ ∃ a, InBl bs ls a ∧ P a := by
  rintro ⟨a, ⟨z, hz, m, hm, h1, h2⟩, hp⟩
  obtain ⟨j, hj⟩ := List.getElem?_of_mem hz
  exact h j z m hj hm a h1 h2 hp
end Go.Proofs.YtdfmdgbolmbffaaGreat
