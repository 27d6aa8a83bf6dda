/- BSpec4: spec.BlocksOf: the third loop's rows. -/
import Derived.Test.YtdbaghmjomdmbaaBSpec3a
namespace Go.Proofs.Ytdbaghmjomdmbaa
open Go.ChangeShapes Go.WideShapes Go.ChangeAt Go.RowKit
set_option linter.unusedVariables false
theorem own_lower {w : World} {base b : Nat} {e : TypeId} {k n : Nat} {v : Value} {xs : List Value} (h : w.ownsRow base e k v n xs) (hb : b ≤ base) : w.ownsRow b e k v n xs :=
  ⟨h.1, h.2.imp id fun ⟨g, cap, cur, e1, hb1, r⟩ => ⟨g, cap, cur, e1, Nat.le_trans hb hb1, r⟩⟩
theorem with_world {Q : Exit → Act → World → Prop} {a : Act} {U : World} (P : World → Prop) (h : P U) (k : ∀ u, P u → Q .normal a u) : Q .normal a U := k U h
theorem wp_world {P : Program} {c : Code} {Q : Exit → Act → World → Prop} {a : Act} {U : World} (R : World → Prop) (h : R U) (k : ∀ u, R u → Code.wp P c Q a u) : Code.wp P c Q a U := k U h
theorem bcell_keep {W u : World} (hb : Below W.heap.size W u) {a : Addr} {x : Value} (h : W.cell? a = some x) : u.cell? a = some x := by rw [hb.cell (block_lt_of_cell h)]; exact h
/-- A block with its Next. -/
def specB (xs : List MI) (m : MB) : MB := ⟨m.first, m.last, nextS xs (xs.getD m.last.toNat ⟨0, 0, 0, 0⟩) m.last.toNat⟩
def specL (xs : List MI) : List MB := (outL xs xs.length).map (specB xs)
/-- The rows, in the third loop. -/
structure TW (w u : World) (xs : List MI) (n q : Nat) (V : Value) (D : List (MB × Value)) : Prop where
  num : u.ownsRow w.heap.size 2 1 (.slice (some ⟨q, 0, none⟩) n n) n ((List.range n).flatMap (numC xs))
  out : u.ownsRow w.heap.size 46 3 V (outL xs n).length (D.flatMap bCells ++ ((outL xs n).drop D.length).flatMap bc0)
  rows : ∀ x ∈ D, u.ownsRow w.heap.size 2 1 x.2 x.1.next.length (x.1.next.flatMap intCell)
  done : D.map Prod.fst = ((outL xs n).take D.length).map (specB xs)
  bel : Below w.heap.size w u
theorem TW.of {w u : World} {xs : List MI} {n q : Nat} {V : Value} (h : SW w u xs n n q V) : TW w u xs n q V [] := by
  refine ⟨?_, by simpa using h.out, fun x hx => (by cases hx), by simp, h.bel⟩
  have := h.num
  rw [flatTo_all _ _ _ _ (by simp)] at this
  exact this
/-- A list that is new since wr, beside the block of an instruction. -/
structure NW (wr U : World) (x : MI) (V : Value) (ns : List Int) : Prop where
  bel : Below wr.heap.size wr U
  xb : Blk U wr.heap.size #[.int .i64 x.op, .int .i64 x.a, .int .i64 x.b, .int .i64 x.c] 44
  row : U.ownsRow wr.heap.size 2 1 V ns.length (ns.flatMap intCell)
theorem NW.of (wr : World) (x : MI) : NW wr ((wr.alloc (.cells #[.int .i64 x.op, .int .i64 x.a, .int .i64 x.b, .int .i64 x.c] 44)).alloc (.cells #[] 2)) x (.slice (some ⟨wr.heap.size + 1, 0, none⟩) 0 0) [] := by
  have b1 := below_alloc wr (.cells #[.int .i64 x.op, .int .i64 x.a, .int .i64 x.b, .int .i64 x.c] 44)
  have k1 := Blk.new wr #[.int .i64 x.op, .int .i64 x.a, .int .i64 x.b, .int .i64 x.c] 44
  have z1 : (wr.alloc (.cells #[.int .i64 x.op, .int .i64 x.a, .int .i64 x.b, .int .i64 x.c] 44)).heap.size = wr.heap.size + 1 := by simp
  generalize wr.alloc (.cells #[.int .i64 x.op, .int .i64 x.a, .int .i64 x.b, .int .i64 x.c] 44) = Wx at b1 k1 z1 ⊢
  have b2 := below_alloc Wx (.cells #[] 2)
  have k2 := Blk.new Wx #[] 2
  rw [z1] at k2
  exact ⟨below_on b1 (Nat.le_refl _) b2, k1.keep b2, ⟨rfl, .inr ⟨wr.heap.size + 1, 0, #[], rfl, Nat.le_succ _, k2, Nat.le_refl _, Nat.zero_le _, rfl, rfl⟩⟩⟩
theorem NW.drew {wr U : World} {x : MI} {V : Value} {ns : List Int} (h : NW wr U x V ns) (k : Nat) : NW wr (U.drewN k) x V ns := ⟨⟨h.bel.os, h.bel.tape, h.bel.output, h.bel.size, h.bel.block⟩, h.xb, ⟨h.row.1, h.row.2⟩⟩
theorem NW.app {wr U u' : World} {x : MI} {V V' : Value} {ns : List Int} {z : Int} {m : Nat} (h : NW wr U x V ns) (hown : u'.ownsRow wr.heap.size 2 1 V' m (ns.flatMap intCell ++ [.int .i64 z])) (hm : m = ns.length + 1) (hg : (U.alloc (.cells #[.int .i64 z] 2)).grownBy u' V.ownBlock) : NW wr u' x V' (ns ++ [z]) := by
  have bA := below_alloc U (.cells #[.int .i64 z] 2)
  refine ⟨(below_on h.bel (Nat.le_refl _) bA).grown hg (Nat.le_trans h.bel.size bA.size) (fun i hi => (h.row.lt i hi).1), (h.xb.keep bA).grown hg (own_keep h.row bA (Nat.le_refl _)) (by decide), ?_⟩
  rw [List.length_append, List.length_singleton, ← hm, List.flatMap_append]
  exact hown
theorem one_cell (U : World) (z : Int) : ∀ j u, [(.int .i64 z : Value)][j]? = some u → (U.alloc (.cells #[.int .i64 z] 2)).cell? ((⟨U.heap.size, 0, none⟩ : Addr).add j) = some u := fun j u hj => by
  rw [add_at, Nat.zero_add, (Blk.new U #[.int .i64 z] 2).cell j]
  simpa using hj
theorem NW.al {wr U : World} {x : MI} {V : Value} {ns : List Int} (h : NW wr U x V ns) (o : Obj) : (U.alloc o).ownsRow wr.heap.size 2 1 V ns.length (ns.flatMap intCell) ∧ wr.heap.size ≤ (U.alloc o).heap.size := ⟨own_keep h.row (below_alloc _ _) (Nat.le_refl _), Nat.le_trans h.bel.size (below_alloc _ _).size⟩
theorem TW.next {w wr U : World} {xs : List MI} {n q gv len cap : Nat} {D : List (MB × Value)} {m : MB} {e : Nat} {x : MI} {Vn : Value} {ns : List Int} (h : TW w wr xs n q (.slice (some ⟨gv, 0, none⟩) len cap) D) (hl : len = (outL xs n).length) (hm : (outL xs n)[D.length]? = some m) (he : m.last = (e : Int)) (hx : xs[e]? = some x) (hn : NW wr U x Vn ns) (hns : ns = nextS xs x e) : TW w (U.setCell ⟨gv, D.length * 3 + 2, none⟩ Vn) xs n q (.slice (some ⟨gv, 0, none⟩) len cap) (D ++ [(specB xs m, Vn)]) := by
  subst hl
  have hb : Below wr.heap.size wr U := hn.bel
  have hout := own_keep h.out hb (Nat.le_refl _)
  obtain ⟨hlt, hmm⟩ := List.getElem?_eq_some_iff.1 hm
  have hB : specB xs m = ⟨m.first, m.last, ns⟩ := by
    unfold specB
    rw [he, hns, Int.toNat_natCast, List.getD_eq_getElem?_getD, hx]
    rfl
  have hnr := own_lower hn.row (b := w.heap.size) h.bel.size
  refine ⟨own_set_ne (own_keep h.num hb (Nat.le_refl _)) hout (by decide) _ _, ?_, ?_, ?_, (below_on h.bel (Nat.le_refl _) hb).setCell (own_blk hout).1 _⟩
  · have k1 := (hout.stored (D.length * 3 + 2) Vn).1
    have e1 : (D.flatMap bCells ++ ((outL xs n).drop D.length).flatMap bc0).set (D.length * 3 + 2) Vn = (D ++ [(specB xs m, Vn)]).flatMap bCells ++ ((outL xs n).drop (D ++ [(specB xs m, Vn)]).length).flatMap bc0 := by
      rw [List.drop_eq_getElem_cons hlt, hmm, List.flatMap_cons, List.set_append_right _ _ (by rw [flat_length bCells 3 bCells_length]; omega), flat_length bCells 3 bCells_length, hB]
      simp [bc0, bCells, List.length_append]
    rw [e1] at k1
    exact k1
  · intro y hy
    rcases List.mem_append.1 hy with hy | hy
    · exact own_set_ne (own_keep (h.rows y hy) hb (Nat.le_refl _)) hout (by decide) _ _
    · simp only [List.mem_cons, List.not_mem_nil, or_false] at hy
      subst hy
      simp only [hB]
      exact own_set_ne hnr hout (by decide) _ _
  · rw [List.map_append, h.done, List.length_append, List.length_singleton, List.take_succ_eq_append_getElem hlt, hmm]
    simp
theorem TW.rd {w u : World} {xs : List MI} {n q : Nat} {V : Value} {D : List (MB × Value)} (h : TW w u xs n q V D) (hn : xs.length = n) (hl : D.length = (outL xs n).length) : RdBs u V (specL xs) := by
  have e1 : D.map Prod.fst = specL xs := by
    rw [h.done, hl, List.take_of_length_le (Nat.le_refl _)]
    unfold specL
    rw [hn]
  have e2 : (specL xs).length = (outL xs n).length := by unfold specL; rw [List.length_map, hn]
  refine ⟨D, e1, ?_, fun x hx => Rd.of_own (h.rows x hx)⟩
  have := Rd.of_own h.out
  rw [hl, List.drop_of_length_le (Nat.le_refl _)] at this
  rw [e2]
  simpa using this
end Go.Proofs.Ytdbaghmjomdmbaa
