/- KHold: what stmtsHold knows while it goes. -/
import Derived.Test.YtjlnglgfehefdaaKMap
namespace Go.Proofs.Ytjlnglgfehefdaa
open Go.ChangeShapes Go.WideShapes Go.ChangeAt Go.RowKit
set_option linter.unusedVariables false
/-- Where the statement i of a list lies. -/
def itemAt (v : Value) (i : Nat) : Option Addr :=
  match v with
  | .slice (some a) L _ => if i < L then some ⟨a.block, a.off + i * 5, none⟩ else none
  | _ => none
/-- All statements of a list have been looked at. -/
def DoneV (Vis : List Addr) (v : Value) : Prop := ∀ i a, itemAt v i = some a → a ∈ Vis
/-- What is known of the statements that have been looked at. -/
def Cl (w : World) (Vis : List Addr) (hand : Value → Prop) : Prop := ∀ a ∈ Vis, ∃ k x y ab lb cb ae le ce, w.cell? ⟨a.block, a.off, none⟩ = some (.int .i64 k) ∧ w.cell? ⟨a.block, a.off + 1, none⟩ = some (.int .i64 x) ∧ w.cell? ⟨a.block, a.off + 2, none⟩ = some (.int .i64 y) ∧ w.cell? ⟨a.block, a.off + 3, none⟩ = some (.slice ab lb cb) ∧ w.cell? ⟨a.block, a.off + 4, none⟩ = some (.slice ae le ce) ∧ okS k x y lb le ∧ ((lb = 0 ∧ le = 0) ∨ (hand (.slice ab lb cb) ∧ hand (.slice ae le ce)))
theorem Cl.mono {w : World} {Vis : List Addr} {h1 h2 : Value → Prop} (h : Cl w Vis h1) (hh : ∀ v, h1 v → h2 v) : Cl w Vis h2 := fun a ha => by
  obtain ⟨k, x, y, ab, lb, cb, ae, le, ce, c0, c1, c2, c3, c4, ho, hs⟩ := h a ha
  exact ⟨k, x, y, ab, lb, cb, ae, le, ce, c0, c1, c2, c3, c4, ho, hs.imp_right fun q => ⟨hh _ q.1, hh _ q.2⟩⟩
theorem ok_len0 {n : Nat} {t : TL n} (h : lenT n t = 0) : allOkT n t := by
  rw [items_ok]
  intro x hx
  have := items_len n t
  rw [h] at this
  rw [List.eq_nil_of_length_eq_zero this] at hx
  cases hx
theorem Cl.all {w : World} {Vis : List Addr} (h : Cl w Vis (DoneV Vis)) (n : Nat) : ∀ (v : Value) (t : TL n), OwnT w 0 n v t → DoneV Vis v → allOkT n t := by
  induction n with
  | zero => intro v t _ _; trivial
  | succ n ih =>
    intro v t ho hd
    rw [items_ok]
    intro x hx
    obtain ⟨i, hi⟩ := List.getElem?_of_mem hx
    obtain ⟨g, c, ab, lb, cb, ae, le, ce, e1, i0, i1, i2, i3, i4, rb, re, hlb, hle, _⟩ := ho.item hi
    have hil : i < lenT (n + 1) t := by have := (List.getElem?_eq_some_iff.1 hi).1; rw [items_len] at this; exact this
    have hv : (⟨g, i * 5, none⟩ : Addr) ∈ Vis := hd i _ (by rw [e1]; simp [itemAt, hil])
    obtain ⟨k, x', y, ab', lb', cb', ae', le', ce', c0, c1, c2, c3, c4, hok, hs⟩ := h _ hv
    simp only [] at c0 c1 c2 c3 c4
    rw [i0] at c0
    rw [i1] at c1
    rw [i2] at c2
    rw [i3] at c3
    rw [i4] at c4
    simp only [Option.some.injEq, Value.int.injEq, true_and, Value.slice.injEq] at c0 c1 c2 c3 c4
    subst c0 c1 c2
    obtain ⟨rfl, rfl, rfl⟩ := c3
    obtain ⟨rfl, rfl, rfl⟩ := c4
    refine ⟨by rw [← hlb, ← hle]; exact hok, ?_⟩
    rcases hs with ⟨z1, z2⟩ | ⟨d1, d2⟩
    · exact ⟨ok_len0 (by omega), ok_len0 (by omega)⟩
    · exact ⟨ih _ _ rb d1, ih _ _ re d2⟩
theorem PM.keep {w w' : World} {r : Nat} {keys : List Addr} (h : PM w r keys) (hb : Below w.heap.size w w') : PM w' r keys := by
  obtain ⟨es, clock, hr, hes⟩ := h
  refine ⟨es, clock, by rw [hb.block r (Array.getElem?_eq_some_iff.1 hr).1]; exact hr, fun e he => ?_⟩
  obtain ⟨b, hb1, h1, ⟨cur, ty, h2⟩, h3⟩ := hes e he
  exact ⟨b, hb1, h1, ⟨cur, ty, by rw [hb.block b.block (Array.getElem?_eq_some_iff.1 h2).1]; exact h2⟩, h3⟩
theorem PM.grown {w w' : World} {r : Nat} {keys : List Addr} {row : Option Nat} (h : PM w r keys) (hg : w.grownBy w' row) (hr : some r ≠ row) (hk : ∀ b ∈ keys, some b.block ≠ row) : PM w' r keys := by
  obtain ⟨es, clock, hr', hes⟩ := h
  refine ⟨es, clock, by rw [hg.block r (Array.getElem?_eq_some_iff.1 hr').1 hr]; exact hr', fun e he => ?_⟩
  obtain ⟨b, hb1, h1, ⟨cur, ty, h2⟩, h3⟩ := hes e he
  exact ⟨b, hb1, h1, ⟨cur, ty, by rw [hg.block b.block (Array.getElem?_eq_some_iff.1 h2).1 (hk b hb1)]; exact h2⟩, h3⟩
/-- Where stmtsHold stands: the lists that are pending, what has been looked at; extra is told of what is handled besides. -/
structure HdAt (w u : World) (r : Nat) (keys Vis : List Addr) (V : Value) (ps : List Pd) (v0 : Value) (extra : Value → Prop) : Prop where
  wk : Wk w u V ps
  pm : PM u r keys
  sub : ∀ a ∈ keys, a ∈ Vis
  low : ∀ a ∈ Vis, a.block < w.heap.size
  rge : w.heap.size ≤ r
  cl : Cl w Vis (fun v => DoneV Vis v ∨ (∃ p ∈ ps, p.v = v) ∨ extra v)
  rt : DoneV Vis v0 ∨ (∃ p ∈ ps, p.v = v0) ∨ extra v0
theorem HdAt.keep {w u u' : World} {r : Nat} {keys Vis : List Addr} {V : Value} {ps : List Pd} {v0 : Value} {extra : Value → Prop} (h : HdAt w u r keys Vis V ps v0 extra) (hb : Below u.heap.size u u') : HdAt w u' r keys Vis V ps v0 extra := ⟨h.wk.keep hb, h.pm.keep hb, h.sub, h.low, h.rge, h.cl, h.rt⟩
/-- A list is taken off. -/
theorem HdAt.pop {w u : World} {r : Nat} {keys Vis : List Addr} {a : Option Addr} {m c : Nat} {ps : List Pd} {p : Pd} {v0 : Value} (h : HdAt w u r keys Vis (.slice a m c) (ps ++ [p]) v0 (fun _ => False)) (hm : m = ps.length + 1) : HdAt w u r keys Vis (.slice a ps.length c) ps v0 (fun v => v = p.v) := by
  have hh : ∀ v, (DoneV Vis v ∨ (∃ q ∈ ps ++ [p], q.v = v) ∨ False) → (DoneV Vis v ∨ (∃ q ∈ ps, q.v = v) ∨ v = p.v) := fun v hv => by
    rcases hv with h1 | ⟨q, hq, e⟩ | h3
    · exact .inl h1
    · rcases List.mem_append.1 hq with hq | hq
      · exact .inr (.inl ⟨q, hq, e⟩)
      · simp only [List.mem_singleton] at hq
        subst hq
        exact .inr (.inr e.symm)
    · exact h3.elim
  exact ⟨h.wk.pop hm, h.pm, h.sub, h.low, h.rge, h.cl.mono hh, hh v0 h.rt⟩
theorem DoneV.grow {Vis : List Addr} {v : Value} (h : DoneV Vis v) (a : Addr) : DoneV (a :: Vis) v := fun i b hb => List.mem_cons_of_mem _ (h i b hb)
/-- A statement without lists has been looked at. -/
theorem HdAt.single {w u : World} {r : Nat} {keys Vis : List Addr} {V : Value} {ps : List Pd} {v0 : Value} {extra : Value → Prop} (h : HdAt w u r keys Vis V ps v0 extra) {g o : Nat} {k x y : Int} {ab ae : Option Addr} {lb cb le ce : Nat} (hg : g < w.heap.size) (c0 : w.cell? ⟨g, o, none⟩ = some (.int .i64 k)) (c1 : w.cell? ⟨g, o + 1, none⟩ = some (.int .i64 x)) (c2 : w.cell? ⟨g, o + 2, none⟩ = some (.int .i64 y)) (c3 : w.cell? ⟨g, o + 3, none⟩ = some (.slice ab lb cb)) (c4 : w.cell? ⟨g, o + 4, none⟩ = some (.slice ae le ce)) (hok : okS k x y lb le) (hs : lb = 0 ∧ le = 0) : HdAt w u r keys (⟨g, o, none⟩ :: Vis) V ps v0 extra := by
  refine ⟨h.wk, h.pm, fun a ha => List.mem_cons_of_mem _ (h.sub a ha), fun a ha => ?_, h.rge, fun a ha => ?_, h.rt.imp_left fun q => q.grow _⟩
  · rcases List.mem_cons.1 ha with rfl | ha
    · exact hg
    · exact h.low a ha
  · rcases List.mem_cons.1 ha with rfl | ha
    · exact ⟨k, x, y, ab, lb, cb, ae, le, ce, c0, c1, c2, c3, c4, hok, .inl hs⟩
    · exact (h.cl.mono fun v q => q.imp_left fun q => q.grow _) a ha
theorem HdAt.far {w u : World} {r : Nat} {keys Vis : List Addr} {V : Value} {ps : List Pd} {v0 : Value} {extra : Value → Prop} (h : HdAt w u r keys Vis V ps v0 extra) : some r ≠ V.ownBlock := fun e => by
  obtain ⟨es, clock, hr, _⟩ := h.pm
  rcases h.wk.row.2 with ⟨e1, _⟩ | ⟨g', cap, cur, e1, _, hg', _⟩
  · rw [e1] at e; cases e
  · rw [e1] at e
    simp only [Value.ownBlock, Option.some.injEq] at e
    subst e
    rw [hr] at hg'
    cases hg'
/-- A statement with lists has been looked at, and put into the set. -/
theorem HdAt.upd {w u u' : World} {r : Nat} {keys Vis : List Addr} {V : Value} {ps : List Pd} {v0 : Value} {extra : Value → Prop} (h : HdAt w u r keys Vis V ps v0 extra) {g o : Nat} {k x yy : Int} {ab ae : Option Addr} {lb cb le ce : Nat} (hg : g < w.heap.size) (c0 : w.cell? ⟨g, o, none⟩ = some (.int .i64 k)) (c1 : w.cell? ⟨g, o + 1, none⟩ = some (.int .i64 x)) (c2 : w.cell? ⟨g, o + 2, none⟩ = some (.int .i64 yy)) (c3 : w.cell? ⟨g, o + 3, none⟩ = some (.slice ab lb cb)) (c4 : w.cell? ⟨g, o + 4, none⟩ = some (.slice ae le ce)) (hok : okS k x yy lb le) (hpm : PM u' r (⟨g, o, none⟩ :: keys)) (hc : Chg (fun j => j = r) u u') :
    HdAt w u' r (⟨g, o, none⟩ :: keys) (⟨g, o, none⟩ :: Vis) V ps v0 (fun v => extra v ∨ v = .slice ab lb cb ∨ v = .slice ae le ce) := by
  have hlow : ∀ a ∈ ((⟨g, o, none⟩ : Addr) :: Vis), a.block < w.heap.size := fun a ha => by
    rcases List.mem_cons.1 ha with rfl | ha
    · exact hg
    · exact h.low a ha
  have hh : ∀ v, (DoneV Vis v ∨ (∃ q ∈ ps, q.v = v) ∨ extra v) → (DoneV (⟨g, o, none⟩ :: Vis) v ∨ (∃ q ∈ ps, q.v = v) ∨ (extra v ∨ v = .slice ab lb cb ∨ v = .slice ae le ce)) := fun v hv => by
    rcases hv with h1 | h2 | h3
    · exact .inl (h1.grow _)
    · exact .inr (.inl h2)
    · exact .inr (.inr (.inl h3))
  refine ⟨⟨?_, h.wk.rd, h.wk.bel.trans (hc.below h.wk.bel.size (fun j hj e => by have := h.rge; omega))⟩, hpm, fun a ha => ?_, hlow, h.rge, fun a ha => ?_, hh v0 h.rt⟩
  · refine ⟨h.wk.row.1, ?_⟩
    rcases h.wk.row.2 with h2 | ⟨g', cap, cur, e1, hb1, hg', hr⟩
    · exact .inl h2
    · refine .inr ⟨g', cap, cur, e1, hb1, ?_, hr⟩
      rw [hc.block g' (Array.getElem?_eq_some_iff.1 hg').1 (fun e => h.far (by rw [e1, ← e]; rfl))]
      exact hg'
  · rcases List.mem_cons.1 ha with rfl | ha
    · exact List.mem_cons_self
    · exact List.mem_cons_of_mem _ (h.sub a ha)
  · rcases List.mem_cons.1 ha with rfl | ha
    · exact ⟨k, x, yy, ab, lb, cb, ae, le, ce, c0, c1, c2, c3, c4, hok, .inr ⟨.inr (.inr (.inr (.inl rfl))), .inr (.inr (.inr (.inr rfl)))⟩⟩
    · exact (h.cl.mono hh) a ha
/-- Its lists come. -/
theorem HdAt.push {w u u' y : World} {r : Nat} {keys Vis : List Addr} {V V' : Value} {ps : List Pd} {v0 : Value} {extra : Value → Prop} {ab ae : Option Addr} {lb cb le ce : Nat} (h : HdAt w u r keys Vis V ps v0 (fun v => extra v ∨ v = .slice ab lb cb ∨ v = .slice ae le ce)) 
    {m m' : Nat} {t : TL m} {t' : TL m'} (ob : OwnT w 0 m (.slice ab lb cb) t) (oe : OwnT w 0 m' (.slice ae le ce) t') (hy : Below u.heap.size u y) (hown : u'.ownsRow w.heap.size 25 1 V' (ps.length + 2) (ps.flatMap pCell ++ [.slice ab lb cb, .slice ae le ce])) (hgr : y.grownBy u' V.ownBlock) :
    HdAt w u' r keys Vis V' (ps ++ [(⟨m, t, .slice ab lb cb⟩ : Pd), ⟨m', t', .slice ae le ce⟩]) v0 extra := by
  have hw := h.wk.app (p := ⟨m, t, .slice ab lb cb⟩) (q := ⟨m', t', .slice ae le ce⟩) ob oe hy hown hgr
  have hh : ∀ v, (DoneV Vis v ∨ (∃ q ∈ ps, q.v = v) ∨ (extra v ∨ v = .slice ab lb cb ∨ v = .slice ae le ce)) → (DoneV Vis v ∨ (∃ q ∈ ps ++ [(⟨m, t, .slice ab lb cb⟩ : Pd), ⟨m', t', .slice ae le ce⟩], q.v = v) ∨ extra v) := fun v hv => by
    rcases hv with h1 | ⟨q, hq, e⟩ | h3 | h3 | h3
    · exact .inl h1
    · exact .inr (.inl ⟨q, List.mem_append_left _ hq, e⟩)
    · exact .inr (.inr h3)
    · exact .inr (.inl ⟨⟨m, t, .slice ab lb cb⟩, by simp, h3.symm⟩)
    · exact .inr (.inl ⟨⟨m', t', .slice ae le ce⟩, by simp, h3.symm⟩)
  refine ⟨hw, (h.pm.keep hy).grown hgr h.far (fun b hb e => ?_), h.sub, h.low, h.rge, h.cl.mono hh, hh v0 h.rt⟩
  have h1 := h.low b (h.sub b hb)
  have h2 := (h.wk.row.lt b.block e.symm).1
  omega
/-- The list that was taken off has been gone through. -/
theorem HdAt.done {w u : World} {r : Nat} {keys Vis : List Addr} {V : Value} {ps : List Pd} {v0 pv : Value} (h : HdAt w u r keys Vis V ps v0 (fun v => v = pv)) (hd : DoneV Vis pv) : HdAt w u r keys Vis V ps v0 (fun _ => False) := by
  have hh : ∀ v, (DoneV Vis v ∨ (∃ q ∈ ps, q.v = v) ∨ v = pv) → (DoneV Vis v ∨ (∃ q ∈ ps, q.v = v) ∨ False) := fun v hv => by
    rcases hv with h1 | h2 | h3
    · exact .inl h1
    · exact .inr (.inl h2)
    · exact .inl (h3 ▸ hd)
  exact ⟨h.wk, h.pm, h.sub, h.low, h.rge, h.cl.mono hh, hh v0 h.rt⟩
/-- The first k statements of a list have been looked at. -/
def DoneTo (Vis : List Addr) (v : Value) (k : Nat) : Prop := ∀ i a, i < k → itemAt v i = some a → a ∈ Vis
theorem DoneTo.next {Vis : List Addr} {g L c k : Nat} (h : DoneTo Vis (.slice (some ⟨g, 0, none⟩) L c) k) {Vis' : List Addr} (hs : ∀ a ∈ Vis, a ∈ Vis') (hk : (⟨g, k * 5, none⟩ : Addr) ∈ Vis') : DoneTo Vis' (.slice (some ⟨g, 0, none⟩) L c) (k + 1) := fun i a hi ha => by
  by_cases e : i = k
  · subst e
    simp only [itemAt] at ha
    split at ha
    · simp only [Nat.zero_add, Option.some.injEq] at ha
      subst ha
      exact hk
    · cases ha
  · exact hs a (h i a (by omega) ha)
theorem DoneTo.all {Vis : List Addr} {a : Option Addr} {L c : Nat} (h : DoneTo Vis (.slice a L c) L) : DoneV Vis (.slice a L c) := fun i b hb => by
  refine h i b ?_ hb
  cases a with
  | none => cases hb
  | some ad =>
    simp only [itemAt] at hb
    split at hb
    · assumption
    · cases hb
end Go.Proofs.Ytjlnglgfehefdaa
