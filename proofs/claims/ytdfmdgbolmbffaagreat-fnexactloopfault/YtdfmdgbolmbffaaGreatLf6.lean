import Derived.Test.YtdfmdgbolmbffaaGreatLf5
import Derived.Test.YtdfmdgbolmbffaaGreatLf1
import Derived.Test.YtdfmdgbolmbffaaGreatRows
import Derived.WalkKit
import Derived.ProofKit
import Derived.OpenShut
import Derived.Test.YtdfmdgbolmbffaaGreatLf4
namespace Go.Proofs.YtdfmdgbolmbffaaGreat
open Go.ChangeShapes Go.WideShapes Go.ChangeAt Go.RowKit
set_option linter.unusedVariables false
def bcell (b : Bool) : List Value := [.bool b]
/-- The rows, in the second loop. -/
structure SW (w u : World) (xs : List MI) (n k q : Nat) (V : Value) : Prop where
  lead : u.ownsRow w.heap.size 4 1 (.slice (some ⟨w.heap.size + 1, 0, none⟩) (n + 1) (n + 1)) (n + 1) (leadV xs n n)
  num : u.ownsRow w.heap.size 2 1 (.slice (some ⟨q, 0, none⟩) n n) n (flatTo (numC xs) [.int .i64 0] (List.range n) k n)
  out : u.ownsRow w.heap.size 71 3 V (outL xs k).length ((outL xs k).flatMap bc0)
  bel : Below w.heap.size w u
theorem row_ne {u : World} {B B' g g' k k' n n' c c' : Nat} {e e' : TypeId} {xs ys : List Value} (h : u.ownsRow B e k (.slice (some ⟨g, 0, none⟩) n c) n xs) (h' : u.ownsRow B' e' k' (.slice (some ⟨g', 0, none⟩) n' c') n' ys) (hne : e ≠ e') : ¬ g = g' := fun eq => by
  subst eq
  obtain ⟨_, cur, h1⟩ := own_blk h
  obtain ⟨_, cur', h2⟩ := own_blk h'
  rw [h1] at h2
  simp only [Option.some.injEq, Obj.cells.injEq] at h2
  exact hne h2.2.1
theorem own_set_ne {u : World} {B B' g k k' n n' c : Nat} {e e' : TypeId} {s : Value} {xs ys : List Value} (h : u.ownsRow B e k s n xs) (h' : u.ownsRow B' e' k' (.slice (some ⟨g, 0, none⟩) n' c) n' ys) (hne : e ≠ e') (i : Nat) (z : Value) : (u.setCell ⟨g, i, none⟩ z).ownsRow B e k s n xs := by
  obtain ⟨_, cur, h1⟩ := own_blk h'
  exact ownsRow_setCell_other h (a := ⟨g, i, none⟩) (fun q => type_apart h h1 hne _ q rfl) z
theorem SW.fin {w u : World} {xs : List MI} {n k q gg cap : Nat} {bs : List MB} {b : MB} (hk : k < n) (h1 : u.ownsRow w.heap.size 4 1 (.slice (some ⟨w.heap.size + 1, 0, none⟩) (n + 1) (n + 1)) (n + 1) (leadV xs n n)) (h2 : u.ownsRow w.heap.size 2 1 (.slice (some ⟨q, 0, none⟩) n n) n (flatTo (numC xs) [.int .i64 0] (List.range n) k n)) (h3 : u.ownsRow w.heap.size 71 3 (.slice (some ⟨gg, 0, none⟩) (bs.length + 1) cap) (bs.length + 1) ((bs ++ [b]).flatMap bc0)) (h4 : Below w.heap.size w u) (ho : outL xs (k + 1) = bs ++ [(⟨b.first, (k : Int), b.next⟩ : MB)]) (hm : numAt xs k = (bs.length : Int)) :
    SW w ((u.setCell ⟨q, k, none⟩ (.int .i64 bs.length)).setCell ⟨gg, bs.length * 3 + 1, none⟩ (.int .i64 k)) xs n (k + 1) q (.slice (some ⟨gg, 0, none⟩) (bs.length + 1) cap) := by
  have hq : w.heap.size ≤ q := (own_blk h2).1
  have hg : w.heap.size ≤ gg := (own_blk h3).1
  have g1 := own_set_ne h1 h2 (by decide) k (.int .i64 bs.length)
  have g3 := own_set_ne h3 h2 (by decide) k (.int .i64 bs.length)
  have g2 := (h2.stored k (.int .i64 bs.length)).1
  have e2 : (flatTo (numC xs) [.int .i64 0] (List.range n) k n).set k (.int .i64 bs.length) = flatTo (numC xs) [.int .i64 0] (List.range n) (k + 1) n := by
    rw [flatTo_parts _ _ _ _ _ hk, set1 _ _ _ _ k (by rw [flat_length (numC xs) 1 (numC_length xs), List.length_take, List.length_range]; omega), flatTo_next (numC xs) _ _ k n k (by simp [hk])]
    simp [numC, intCell, hm]
  rw [e2] at g2
  refine ⟨own_set_ne g1 g3 (by decide) _ _, own_set_ne g2 g3 (by decide) _ _, ?_, (h4.setCell hq _).setCell hg _⟩
  have g4 := (g3.stored (bs.length * 3 + 1) (.int .i64 k)).1
  rw [bc0_set] at g4
  rw [ho, List.length_append, List.length_singleton]
  exact g4
theorem begSW {w wr w3 : World} {xs : List MI} {k j q gg cap : Nat} {v : Value} (h : SW w wr xs k j q v) (ho : outL xs (j + 1) = outL xs j ++ [(⟨(j : Int), (j : Int), []⟩ : MB)]) (hm : numAt xs j = ((outL xs j).length : Int)) (hj : j < k) (hown : w3.ownsRow w.heap.size 71 3 (.slice (some ⟨gg, 0, none⟩) ((outL xs j).length + 1) cap) ((outL xs j).length + 1) ((outL xs j).flatMap bc0 ++ [.int .i64 j, .int .i64 0, .slice none 0 0])) (hg : (wr.alloc (.cells #[.int .i64 j, .int .i64 0, .slice none 0 0] 71)).grownBy w3 v.ownBlock) :
    Hid (SW w ((w3.setCell ⟨q, j, none⟩ (.int .i64 (outL xs j).length)).setCell ⟨gg, (outL xs j).length * 3 + 1, none⟩ (.int .i64 j)) xs k (j + 1) q (.slice (some ⟨gg, 0, none⟩) ((outL xs j).length + 1) cap)) ∧ ¬ gg = q ∧ ¬ q = gg ∧ w3.cell? ⟨q, j, none⟩ = some (.int .i64 0) ∧ w3.frozen? ⟨q, j, none⟩ = false ∧ w3.cell? ⟨gg, (outL xs j).length * 3 + 1, none⟩ = some (.int .i64 0) ∧ w3.frozen? ⟨gg, (outL xs j).length * 3 + 1, none⟩ = false := by
  have bA := below_alloc wr (.cells #[.int .i64 j, .int .i64 0, .slice none 0 0] 71)
  have r3 := own_keep h.out bA (Nat.le_refl _)
  have r1 := own_grown (own_keep h.lead bA (Nat.le_refl _)) hg r3 (by decide)
  have r2 := own_grown (own_keep h.num bA (Nat.le_refl _)) hg r3 (by decide)
  have bel := (below_on h.bel (Nat.le_refl _) bA).grown hg (Nat.le_trans h.bel.size bA.size) (fun i hi => (r3.lt i hi).1)
  have hne := row_ne hown r2 (by decide)
  have n0 := r2.cellAt j (by omega)
  have o0 := hown.cellAt ((outL xs j).length * 3 + 1) (by omega)
  rw [flatTo_parts _ _ _ _ _ hj, List.getElem?_append_right (by rw [flat_length (numC xs) 1 (numC_length xs), List.length_take, List.length_range]; omega), show j - (List.flatMap (numC xs) (List.take j (List.range k))).length = 0 by rw [flat_length (numC xs) 1 (numC_length xs), List.length_take, List.length_range]; omega] at n0
  simp only [List.cons_append, List.getElem?_cons_zero] at n0
  rw [List.getElem?_append_right (by rw [flat_length bc0 3 bc0_length]; omega), show (outL xs j).length * 3 + 1 - (List.flatMap bc0 (outL xs j)).length = 1 by rw [flat_length bc0 3 bc0_length]; omega] at o0
  simp only [List.getElem?_cons_succ, List.getElem?_cons_zero] at o0
  refine ⟨SW.fin (b := ⟨(j : Int), 0, []⟩) hj r1 r2 (by rw [List.flatMap_append]; exact hown) bel ho hm, hne, fun e => hne e.symm, n0, r2.frozenAt j, o0, hown.frozenAt _⟩
theorem made_bool (n : Nat) : (madeCells (Value.bool false).cells (n * 1)).toList = List.replicate n (.bool false) := by
  rw [flatTo_zero bcell [.bool false] [] n (.bool false) 1 rfl rfl (by omega)]
  simp [flatTo, List.flatten_replicate_singleton]
theorem made_int (n : Nat) (f : Nat → List Value) (ys : List Nat) : (madeCells (Value.int .i64 0).cells (n * 1)).toList = flatTo f [.int .i64 0] ys 0 n := by
  rw [flatTo_zero f [.int .i64 0] ys n (.int .i64 0) 1 rfl rfl (by omega)]
/-- The rows, in the first loop. -/
structure SV (w u : World) (xs : List MI) (n k : Nat) : Prop where
  lead : u.ownsRow w.heap.size 4 1 (.slice (some ⟨w.heap.size + 1, 0, none⟩) (n + 1) (n + 1)) (n + 1) (leadV xs k n)
  out : Blk u w.heap.size #[] 71
  bel : Below w.heap.size w u
theorem SV.set {w u : World} {xs : List MI} {n k k' : Nat} (h : SV w u xs n k) (j : Nat) (hl : (leadV xs k n).set j (.bool true) = leadV xs k' n) : SV w (u.setCell ⟨w.heap.size + 1, j, none⟩ (.bool true)) xs n k' := by
  refine ⟨?_, h.out.other (by simp only []; omega) _, h.bel.setCell (by simp only []; omega) _⟩
  have := (h.lead.stored j (.bool true)).1
  rw [hl] at this
  exact this
theorem SV.set2 {w u : World} {xs : List MI} {n k k' : Nat} (h : SV w u xs n k) (j j' : Nat) (hl : ((leadV xs k n).set j (.bool true)).set j' (.bool true) = leadV xs k' n) : SV w ((u.setCell ⟨w.heap.size + 1, j, none⟩ (.bool true)).setCell ⟨w.heap.size + 1, j', none⟩ (.bool true)) xs n k' := by
  refine ⟨?_, (h.out.other (by simp only []; omega) _).other (by simp only []; omega) _, (h.bel.setCell (by simp only []; omega) _).setCell (by simp only []; omega) _⟩
  have := ((h.lead.stored j (.bool true)).1.stored j' (.bool true)).1
  rw [hl] at this
  exact this
end Go.Proofs.YtdfmdgbolmbffaaGreat
namespace Go.Proofs.YtdfmdgbolmbffaaGreat
open Go.ChangeShapes Go.WideShapes Go.ChangeAt Go.RowKit
set_option linter.unusedVariables false
theorem own_lower {w : World} {base b : Nat} {e : TypeId} {k n : Nat} {v : Value} {xs : List Value} (h : w.ownsRow base e k v n xs) (hb : b ≤ base) : w.ownsRow b e k v n xs :=
  ⟨h.1, h.2.imp id fun ⟨g, cap, cur, e1, hb1, r⟩ => ⟨g, cap, cur, e1, Nat.le_trans hb hb1, r⟩⟩
theorem with_world {Q : Exit → Act → World → Prop} {a : Act} {U : World} (P : World → Prop) (h : P U) (k : ∀ u, P u → Q .normal a u) : Q .normal a U := k U h
theorem bcell_keep {W u : World} (hb : Below W.heap.size W u) {a : Addr} {x : Value} (h : W.cell? a = some x) : u.cell? a = some x := by rw [hb.cell (block_lt_of_cell h)]; exact h
/-- A block with its Next. -/
def specB (xs : List MI) (m : MB) : MB := ⟨m.first, m.last, nextS xs (xs.getD m.last.toNat ⟨0, 0, 0, 0⟩) m.last.toNat⟩
def specL (xs : List MI) : List MB := (outL xs xs.length).map (specB xs)
/-- The rows, in the third loop. -/
structure TW (w u : World) (xs : List MI) (n q : Nat) (V : Value) (D : List (MB × Value)) : Prop where
  num : u.ownsRow w.heap.size 2 1 (.slice (some ⟨q, 0, none⟩) n n) n ((List.range n).flatMap (numC xs))
  out : u.ownsRow w.heap.size 71 3 V (outL xs n).length (D.flatMap bCells ++ ((outL xs n).drop D.length).flatMap bc0)
  rows : ∀ x ∈ D, u.ownsRow w.heap.size 2 1 x.2 x.1.next.length (x.1.next.flatMap intCell)
  done : D.map Prod.fst = ((outL xs n).take D.length).map (specB xs)
  bel : Below w.heap.size w u
theorem TW.of {w u : World} {xs : List MI} {n q : Nat} {V : Value} (h : SW w u xs n n q V) : TW w u xs n q V [] := by
  refine ⟨?_, by simpa using h.out, fun x hx => (by cases hx), by simp, h.bel⟩
  have := h.num
  rw [flatTo_all _ _ _ _ (by simp)] at this
  exact this
/-- A list that is new since wr, beside the block of an instruction. -/
structure NW (wr U : World) (x : MI) (V : Value) (ns : List Int) : Prop where
  bel : Below wr.heap.size wr U
  xb : Blk U wr.heap.size #[.int .i64 x.op, .int .i64 x.a, .int .i64 x.b, .int .i64 x.c] 73
  row : U.ownsRow wr.heap.size 2 1 V ns.length (ns.flatMap intCell)
theorem NW.of (wr : World) (x : MI) : NW wr ((wr.alloc (.cells #[.int .i64 x.op, .int .i64 x.a, .int .i64 x.b, .int .i64 x.c] 73)).alloc (.cells #[] 2)) x (.slice (some ⟨wr.heap.size + 1, 0, none⟩) 0 0) [] := by
  have b1 := below_alloc wr (.cells #[.int .i64 x.op, .int .i64 x.a, .int .i64 x.b, .int .i64 x.c] 73)
  have k1 := Blk.new wr #[.int .i64 x.op, .int .i64 x.a, .int .i64 x.b, .int .i64 x.c] 73
  have z1 : (wr.alloc (.cells #[.int .i64 x.op, .int .i64 x.a, .int .i64 x.b, .int .i64 x.c] 73)).heap.size = wr.heap.size + 1 := by simp
  generalize wr.alloc (.cells #[.int .i64 x.op, .int .i64 x.a, .int .i64 x.b, .int .i64 x.c] 73) = Wx at b1 k1 z1 ⊢
  have b2 := below_alloc Wx (.cells #[] 2)
  have k2 := Blk.new Wx #[] 2
  rw [z1] at k2
  exact ⟨below_on b1 (Nat.le_refl _) b2, k1.keep b2, ⟨rfl, .inr ⟨wr.heap.size + 1, 0, #[], rfl, Nat.le_succ _, k2, Nat.le_refl _, Nat.zero_le _, rfl, rfl⟩⟩⟩
theorem NW.drew {wr U : World} {x : MI} {V : Value} {ns : List Int} (h : NW wr U x V ns) (k : Nat) : NW wr (U.drewN k) x V ns := ⟨⟨h.bel.os, h.bel.tape, h.bel.output, h.bel.size, h.bel.block⟩, h.xb, ⟨h.row.1, h.row.2⟩⟩
theorem NW.app {wr U u' : World} {x : MI} {V V' : Value} {ns : List Int} {z : Int} {m : Nat} (h : NW wr U x V ns) (hown : u'.ownsRow wr.heap.size 2 1 V' m (ns.flatMap intCell ++ [.int .i64 z])) (hm : m = ns.length + 1) (hg : (U.alloc (.cells #[.int .i64 z] 2)).grownBy u' V.ownBlock) : NW wr u' x V' (ns ++ [z]) := by
  have bA := below_alloc U (.cells #[.int .i64 z] 2)
  refine ⟨(below_on h.bel (Nat.le_refl _) bA).grown hg (Nat.le_trans h.bel.size bA.size) (fun i hi => (h.row.lt i hi).1), (h.xb.keep bA).grown hg (own_keep h.row bA (Nat.le_refl _)) (by decide), ?_⟩
  rw [List.length_append, List.length_singleton, ← hm, List.flatMap_append]
  exact hown
theorem one_cell (U : World) (z : Int) : ∀ j u, [(.int .i64 z : Value)][j]? = some u → (U.alloc (.cells #[.int .i64 z] 2)).cell? ((⟨U.heap.size, 0, none⟩ : Addr).add j) = some u := fun j u hj => by
  rw [add_at, Nat.zero_add, (Blk.new U #[.int .i64 z] 2).cell j]
  simpa using hj
theorem NW.al {wr U : World} {x : MI} {V : Value} {ns : List Int} (h : NW wr U x V ns) (o : Obj) : (U.alloc o).ownsRow wr.heap.size 2 1 V ns.length (ns.flatMap intCell) ∧ wr.heap.size ≤ (U.alloc o).heap.size := ⟨own_keep h.row (below_alloc _ _) (Nat.le_refl _), Nat.le_trans h.bel.size (below_alloc _ _).size⟩
theorem TW.next {w wr U : World} {xs : List MI} {n q gv len cap : Nat} {D : List (MB × Value)} {m : MB} {e : Nat} {x : MI} {Vn : Value} {ns : List Int} (h : TW w wr xs n q (.slice (some ⟨gv, 0, none⟩) len cap) D) (hl : len = (outL xs n).length) (hm : (outL xs n)[D.length]? = some m) (he : m.last = (e : Int)) (hx : xs[e]? = some x) (hn : NW wr U x Vn ns) (hns : ns = nextS xs x e) : TW w (U.setCell ⟨gv, D.length * 3 + 2, none⟩ Vn) xs n q (.slice (some ⟨gv, 0, none⟩) len cap) (D ++ [(specB xs m, Vn)]) := by
  subst hl
  have hb : Below wr.heap.size wr U := hn.bel
  have hout := own_keep h.out hb (Nat.le_refl _)
  obtain ⟨hlt, hmm⟩ := List.getElem?_eq_some_iff.1 hm
  have hB : specB xs m = ⟨m.first, m.last, ns⟩ := by
    unfold specB
    rw [he, hns, Int.toNat_natCast, List.getD_eq_getElem?_getD, hx]
    rfl
  have hnr := own_lower hn.row (b := w.heap.size) h.bel.size
  refine ⟨own_set_ne (own_keep h.num hb (Nat.le_refl _)) hout (by decide) _ _, ?_, ?_, ?_, (below_on h.bel (Nat.le_refl _) hb).setCell (own_blk hout).1 _⟩
  · have k1 := (hout.stored (D.length * 3 + 2) Vn).1
    have e1 : (D.flatMap bCells ++ ((outL xs n).drop D.length).flatMap bc0).set (D.length * 3 + 2) Vn = (D ++ [(specB xs m, Vn)]).flatMap bCells ++ ((outL xs n).drop (D ++ [(specB xs m, Vn)]).length).flatMap bc0 := by
      rw [List.drop_eq_getElem_cons hlt, hmm, List.flatMap_cons, List.set_append_right _ _ (by rw [flat_length bCells 3 bCells_length]; omega), flat_length bCells 3 bCells_length, hB]
      simp [bc0, bCells, List.length_append]
    rw [e1] at k1
    exact k1
  · intro y hy
    rcases List.mem_append.1 hy with hy | hy
    · exact own_set_ne (own_keep (h.rows y hy) hb (Nat.le_refl _)) hout (by decide) _ _
    · simp only [List.mem_cons, List.not_mem_nil, or_false] at hy
      subst hy
      simp only [hB]
      exact own_set_ne hnr hout (by decide) _ _
  · rw [List.map_append, h.done, List.length_append, List.length_singleton, List.take_succ_eq_append_getElem hlt, hmm]
    simp
theorem TW.rd {w u : World} {xs : List MI} {n q : Nat} {V : Value} {D : List (MB × Value)} (h : TW w u xs n q V D) (hn : xs.length = n) (hl : D.length = (outL xs n).length) : RdBs u V (specL xs) := by
  have e1 : D.map Prod.fst = specL xs := by
    rw [h.done, hl, List.take_of_length_le (Nat.le_refl _)]
    unfold specL
    rw [hn]
  have e2 : (specL xs).length = (outL xs n).length := by unfold specL; rw [List.length_map, hn]
  refine ⟨D, e1, ?_, fun x hx => Rd.of_own (h.rows x hx)⟩
  have := Rd.of_own h.out
  rw [hl, List.drop_of_length_le (Nat.le_refl _)] at this
  rw [e2]
  simpa using this
end Go.Proofs.YtdfmdgbolmbffaaGreat
namespace Go.Proofs.YtdfmdgbolmbffaaGreat
open Go.ChangeShapes Go.WideShapes Go.ChangeAt Go.RowKit
set_option linter.unusedVariables false
structure ML where
  head : Int
  back : List Int
  blocks : List Int
structure MFl where
  code : Int
  at_ : Int
  blocks : List MB
  order : List Int
  idom : List Int
  loops : List ML
def ints (l : List Nat) : List Int := l.map fun (x : Nat) => (x : Int)
theorem ints_length (l : List Nat) : (ints l).length = l.length := by simp [ints]
/-- Where one goes from a block. -/
def nx (bs : List MB) (b : Nat) : List Nat := match bs[b]? with | some m => m.next.map Int.toNat | none => []
def noFl (c a : Int) : MFl := ⟨c, a, [], [], [], []⟩
def loopsTo (E : Nat → List Nat) (D L : Nat → Nat → Bool) (n j : Nat) : List ML := (List.range j).filterMap fun h => if backL E D n h = [] then none else some ⟨(h : Int), ints (backL E D n h), ints ((List.range n).filter (L h))⟩
inductive FlowOk (xs : List MI) : MFl → Prop
  | none : ¬ CodeGood xs → FlowOk xs (noFl 4 0)
  | off {x : MI} : CodeGood xs → xs[xs.length - 1]? = some x → onB x = true → FlowOk xs (noFl 1 ((xs.length : Int) - 1))
  | lost {x : MI} {S O : List Nat} {b : Nat} {m : MB} : CodeGood xs → xs[xs.length - 1]? = some x → onB x = false → Vs (nx (specL xs)) [] [] [0] S O → b < (specL xs).length → b ∉ S → (∀ c, c < b → c ∈ S) → (specL xs)[b]? = some m → FlowOk xs (noFl 2 m.first)
  | two {x : MI} {S O : List Nat} {D : Nat → Nat → Bool} {b k t : Nat} {m : MB} : CodeGood xs → xs[xs.length - 1]? = some x → onB x = false → Vs (nx (specL xs)) [] [] [0] S O → (∀ c, c < (specL xs).length → c ∈ S) → (∀ d b, D d b = true ↔ Dom (nx (specL xs)) d b) → FirstBad (nx (specL xs)) (specL xs).length (Bad O D) b k t → (specL xs)[t]? = some m → FlowOk xs (noFl 3 m.first)
  | good {x : MI} {S O : List Nat} {D L : Nat → Nat → Bool} {I : Nat → Int} : CodeGood xs → xs[xs.length - 1]? = some x → onB x = false → Vs (nx (specL xs)) [] [] [0] S O → (∀ c, c < (specL xs).length → c ∈ S) → (∀ d b, D d b = true ↔ Dom (nx (specL xs)) d b) → (∀ b, b < (specL xs).length → ∀ t ∈ nx (specL xs) b, ¬ Bad O D b t) →
      (∀ b, b < (specL xs).length → (b = 0 ∧ I b = -1) ∨ b ≠ 0 ∧ ∃ c : Nat, c < (specL xs).length ∧ I b = (c : Int) ∧ IdomIs (nx (specL xs)) b c) → (∀ h y, L h y = true ↔ InLoop (nx (specL xs)) D (specL xs).length h y) →
      FlowOk xs ⟨0, 0, specL xs, ints O.reverse, (List.range (specL xs).length).map I, loopsTo (nx (specL xs)) D L (specL xs).length (specL xs).length⟩
theorem lds_pos {xs : List MI} (h : CodeGood xs) : 0 < (specL xs).length := by
  unfold specL
  rw [List.length_map, outL_length]
  exact List.length_pos_iff.2 (lds_ne xs _ h.1)
theorem placesL_lead {xs : List MI} (hg : CodeGood xs) {b e : Nat} {x : MI} {m : MB} (hb : (outL xs xs.length)[b]? = some m) (he : m.last = (e : Int)) (hx : xs[e]? = some x) {p : Int} (hp : p ∈ placesL xs x e) : p.toNat ∈ lds xs xs.length := by
  have hen : e < xs.length := (List.getElem?_eq_some_iff.1 hx).1
  rw [outL_build] at hb
  unfold placesL at hp
  rcases List.mem_append.1 hp with hp | hp
  · by_cases h : onB x = true ∧ e + 1 < xs.length
    · rw [if_pos h] at hp
      simp only [List.mem_cons, List.not_mem_nil, or_false] at hp
      subst hp
      rw [Int.toNat_natCast]
      exact end_lead _ _ _ _ _ hb he h.2
    · rw [if_neg h] at hp
      cases hp
  · by_cases h : goesB x = true ∧ ¬ (onB x = true ∧ e + 1 < xs.length ∧ x.c = ((e + 1 : Nat) : Int))
    · rw [if_pos h] at hp
      simp only [List.mem_cons, List.not_mem_nil, or_false] at hp
      subst hp
      obtain ⟨h1, h2⟩ := hg.2.2 e x hx h.1
      have h3 : (x.c.toNat : Int) = x.c := Int.toNat_of_nonneg h1
      exact (lds_mem _ _ _).2 ⟨by omega, leadB_of xs _ e _ x hen hx (by simp [leads, h.1, h3])⟩
    · rw [if_neg h] at hp
      cases hp
theorem build_last {L : List Nat} {n b : Nat} {m : MB} (hs : L.Pairwise (· < ·)) (hl : ∀ x ∈ L, x < n) (h : (build L n)[b]? = some m) : ∃ e : Nat, m.last = (e : Int) ∧ e < n := by
  unfold build at h
  rw [List.getElem?_zipWith] at h
  cases h1 : L[b]? with
  | none => rw [h1] at h; simp at h
  | some a =>
    cases h2 : (L.tail ++ [n])[b]? with
    | none => rw [h1, h2] at h; simp at h
    | some q =>
      rw [h1, h2] at h
      simp only [Option.some.injEq] at h
      subst h
      have ha := hl a (List.mem_of_getElem? h1)
      have hq : a < q ∧ q ≤ n := by
        by_cases hb : b < L.tail.length
        · rw [List.getElem?_append_left hb] at h2
          have hq := List.mem_of_mem_tail (List.mem_of_getElem? h2)
          refine ⟨?_, Nat.le_of_lt (hl q hq)⟩
          have h3 : L[b + 1]? = some q := by rw [← h2]; cases L <;> simp
          obtain ⟨i1, e1⟩ := List.getElem?_eq_some_iff.1 h1
          obtain ⟨i2, e2⟩ := List.getElem?_eq_some_iff.1 h3
          rw [← e1, ← e2]
          exact (List.pairwise_iff_getElem.1 hs) b (b + 1) i1 i2 (by omega)
        · rw [List.getElem?_append_right (by omega)] at h2
          have := List.mem_of_getElem? h2
          simp only [List.mem_cons, List.not_mem_nil, or_false] at this
          subst this
          exact ⟨ha, Nat.le_refl _⟩
      exact ⟨q - 1, by simp only []; omega, by omega⟩
theorem out_last {xs : List MI} {b : Nat} {m : MB} (h : (outL xs xs.length)[b]? = some m) : ∃ (e : Nat) (x : MI), m.last = (e : Int) ∧ xs[e]? = some x := by
  rw [outL_build] at h
  obtain ⟨e, h1, h2⟩ := build_last (lds_sorted _ _) (fun x hx => ((lds_mem _ _ _).1 hx).1) h
  exact ⟨e, _, h1, List.getElem?_eq_getElem h2⟩
/-- Blocks go to blocks. -/
theorem specL_next {xs : List MI} (hg : CodeGood xs) {b : Nat} {m : MB} (h : (specL xs)[b]? = some m) {z : Int} (hz : z ∈ m.next) : 0 ≤ z ∧ z < ((specL xs).length : Int) := by
  unfold specL at h ⊢
  rw [List.getElem?_map] at h
  obtain ⟨m0, h1, rfl⟩ := Option.map_eq_some_iff.1 h
  obtain ⟨e, x, he, hx⟩ := out_last h1
  have hB : (specB xs m0).next = nextS xs x e := by
    unfold specB
    rw [he, Int.toNat_natCast, List.getD_eq_getElem?_getD, hx]
    rfl
  rw [hB, next_same xs b e x m0 hg h1 he hx] at hz
  obtain ⟨p, hp, rfl⟩ := List.mem_map.1 hz
  have := List.idxOf_lt_length_iff.2 (placesL_lead hg h1 he hx hp)
  rw [List.length_map, outL_length]
  omega
theorem nx_of {bs : List MB} {b : Nat} {m : MB} (h : bs[b]? = some m) : nx bs b = m.next.map Int.toNat := by unfold nx; rw [h]
theorem nx_ints {xs : List MI} (hg : CodeGood xs) {b : Nat} {m : MB} (h : (specL xs)[b]? = some m) : m.next = ints (nx (specL xs) b) := by
  rw [nx_of h]
  unfold ints
  rw [List.map_map]
  symm
  rw [List.map_congr_left (g := id), List.map_id]
  intro z hz
  exact Int.toNat_of_nonneg (specL_next hg h hz).1
theorem nx_lt {xs : List MI} (hg : CodeGood xs) : ∀ b, b < (specL xs).length → ∀ x ∈ nx (specL xs) b, x < (specL xs).length := fun b hb x hx => by
  rw [nx_of (List.getElem?_eq_getElem hb)] at hx
  obtain ⟨z, hz, rfl⟩ := List.mem_map.1 hx
  have := specL_next hg (List.getElem?_eq_getElem hb) hz
  omega
theorem specL_le {xs : List MI} (hg : CodeGood xs) : (specL xs).length ≤ 1024 := by
  unfold specL
  rw [List.length_map, outL_length]
  have := List.length_filter_le (leadB xs xs.length) (List.range xs.length)
  have h2 := hg.2.1
  simp only [List.length_range] at this
  exact Nat.le_trans this h2
theorem nx_small (bs : List MB) (h : ∀ m ∈ bs, m.next.length ≤ 2) (b : Nat) : (nx bs b).length ≤ 2 := by
  unfold nx
  cases hb : bs[b]? with
  | none => simp
  | some m => simpa using h m (List.mem_of_getElem? hb)
theorem specL_two (xs : List MI) : ∀ m ∈ specL xs, m.next.length ≤ 2 := by
  intro f hf
  unfold specL at hf
  obtain ⟨m, _, rfl⟩ := List.mem_map.1 hf
  simp only [specB, nextS]
  split <;> split <;> simp
theorem FlowOk.one {xs : List MI} {r r' : MFl} (h : FlowOk xs r) (h' : FlowOk xs r') : r = r' := by
  have hD : ∀ {E : Nat → List Nat} {D D' : Nat → Nat → Bool}, (∀ d b, D d b = true ↔ Dom E d b) → (∀ d b, D' d b = true ↔ Dom E d b) → D = D' := fun h1 h2 => by
    funext d b
    rw [Bool.eq_iff_iff, h1, h2]
  cases h with
  | none g =>
    cases h' with
    | none _ => rfl
    | _ g' => exact absurd g' g
  | off g x1 o1 =>
    cases h' with
    | none g' => exact absurd g g'
    | off _ _ _ => rfl
    | lost _ x2 o2 | two _ x2 o2 | good _ x2 o2 =>
      rw [x1] at x2
      cases x2
      rw [o1] at o2
      cases o2
  | @lost _ _ _ b m g x1 o1 v1 b1 n1 l1 m1 =>
    cases h' with
    | none g' => exact absurd g g'
    | off _ x2 o2 =>
      rw [x1] at x2
      cases x2
      rw [o1] at o2
      cases o2
    | @lost _ _ _ b' m' _ x2 o2 v2 b2 n2 l2 m2 =>
      obtain ⟨rfl, rfl⟩ := v1.one v2
      have : b = b' := by
        rcases Nat.lt_trichotomy b b' with q | q | q
        · exact absurd (l2 _ q) n1
        · exact q
        · exact absurd (l1 _ q) n2
      subst this
      rw [m1] at m2
      cases m2
      rfl
    | two _ _ _ v2 s2 | good _ _ _ v2 s2 =>
      obtain ⟨rfl, rfl⟩ := v1.one v2
      exact absurd (s2 _ b1) n1
  | two g x1 o1 v1 s1 d1 f1 m1 =>
    cases h' with
    | none g' => exact absurd g g'
    | off _ x2 o2 =>
      rw [x1] at x2
      cases x2
      rw [o1] at o2
      cases o2
    | lost _ _ _ v2 b2 n2 =>
      obtain ⟨rfl, rfl⟩ := v1.one v2
      exact absurd (s1 _ b2) n2
    | two _ _ _ v2 _ d2 f2 m2 =>
      obtain ⟨rfl, rfl⟩ := v1.one v2
      obtain rfl := hD d1 d2
      obtain rfl := f1.one f2
      rw [m1] at m2
      cases m2
      rfl
    | good _ _ _ v2 _ d2 f2 =>
      obtain ⟨rfl, rfl⟩ := v1.one v2
      obtain rfl := hD d1 d2
      exact absurd f1.is (f2 _ f1.lt _ (List.mem_of_getElem? f1.at_))
  | good g x1 o1 v1 s1 d1 f1 i1 l1 =>
    cases h' with
    | none g' => exact absurd g g'
    | off _ x2 o2 =>
      rw [x1] at x2
      cases x2
      rw [o1] at o2
      cases o2
    | lost _ _ _ v2 b2 n2 =>
      obtain ⟨rfl, rfl⟩ := v1.one v2
      exact absurd (s1 _ b2) n2
    | two _ _ _ v2 _ d2 f2 m2 =>
      obtain ⟨rfl, rfl⟩ := v1.one v2
      obtain rfl := hD d1 d2
      exact absurd f2.is (f1 _ f2.lt _ (List.mem_of_getElem? f2.at_))
    | good _ _ _ v2 _ d2 f2 i2 l2 =>
      obtain ⟨rfl, rfl⟩ := v1.one v2
      obtain rfl := hD d1 d2
      have hL := fun h y => Bool.eq_iff_iff.2 ((l1 h y).trans (l2 h y).symm)
      obtain rfl := funext fun h => funext (hL h)
      obtain ⟨hP, _⟩ := order_place (lds_pos g) (nx_lt g) v1 s1
      congr 1
      apply List.map_congr_left
      intro b hb
      have hb := List.mem_range.1 hb
      rcases i1 b hb with ⟨e1, e2⟩ | ⟨e1, c, c1, c2, c3⟩
      · rcases i2 b hb with ⟨_, e4⟩ | ⟨e3, _⟩
        · rw [e2, e4]
        · exact absurd e1 e3
      · rcases i2 b hb with ⟨e3, _⟩ | ⟨e3, c', c1', c2', c3'⟩
        · exact absurd e3 e1
        · rw [c2, c2', c3.one hP c1 c1' c3']
end Go.Proofs.YtdfmdgbolmbffaaGreat
namespace Go.Proofs.YtdfmdgbolmbffaaGreat
open Go.ChangeShapes Go.WideShapes Go.ChangeAt Go.RowKit
set_option linter.unusedVariables false
theorem build_parts {L : List Nat} {n b : Nat} {m : MB} (hs : L.Pairwise (· < ·)) (hl : ∀ x ∈ L, x < n) (h : (build L n)[b]? = some m) : ∃ a e : Nat, m.first = (a : Int) ∧ m.last = (e : Int) ∧ a ≤ e ∧ e < n := by
  unfold build at h
  rw [List.getElem?_zipWith] at h
  cases h1 : L[b]? with
  | none => rw [h1] at h; simp at h
  | some a =>
    cases h2 : (L.tail ++ [n])[b]? with
    | none => rw [h1, h2] at h; simp at h
    | some q =>
      rw [h1, h2] at h
      simp only [Option.some.injEq] at h
      subst h
      have ha := hl a (List.mem_of_getElem? h1)
      have hq : a < q ∧ q ≤ n := by
        by_cases hb : b < L.tail.length
        · rw [List.getElem?_append_left hb] at h2
          have hq := List.mem_of_mem_tail (List.mem_of_getElem? h2)
          refine ⟨?_, Nat.le_of_lt (hl q hq)⟩
          have h3 : L[b + 1]? = some q := by rw [← h2]; cases L <;> simp
          obtain ⟨i1, e1⟩ := List.getElem?_eq_some_iff.1 h1
          obtain ⟨i2, e2⟩ := List.getElem?_eq_some_iff.1 h3
          rw [← e1, ← e2]
          exact (List.pairwise_iff_getElem.1 hs) b (b + 1) i1 i2 (by omega)
        · rw [List.getElem?_append_right (by omega)] at h2
          have := List.mem_of_getElem? h2
          simp only [List.mem_cons, List.not_mem_nil, or_false] at this
          subst this
          exact ⟨ha, Nat.le_refl _⟩
      exact ⟨a, q - 1, rfl, by simp only []; omega, by omega, by omega⟩
theorem specL_parts {xs : List MI} {b : Nat} {m : MB} (h : (specL xs)[b]? = some m) : ∃ a e : Nat, m.first = (a : Int) ∧ m.last = (e : Int) ∧ a ≤ e ∧ e < xs.length := by
  unfold specL at h
  rw [List.getElem?_map] at h
  obtain ⟨m0, h1, rfl⟩ := Option.map_eq_some_iff.1 h
  rw [outL_build] at h1
  obtain ⟨a, e, q1, q2, q3, q4⟩ := build_parts (lds_sorted _ _) (fun x hx => ((lds_mem _ _ _).1 hx).1) h1
  exact ⟨a, e, q1, q2, q3, q4⟩
/-- What a flow without a code is known by. -/
structure FlIn (xs : List MI) (r : MFl) : Prop where
  len : xs.length ≤ 1024
  nb : r.blocks.length ≤ 1024
  two : ∀ m ∈ r.blocks, m.next.length ≤ 2
  nl : r.loops.length ≤ 1024
  blk : ∀ (i : Nat) (m : MB), r.blocks[i]? = some m → ∃ a e : Nat, m.first = (a : Int) ∧ m.last = (e : Int) ∧ a ≤ e ∧ e < xs.length
  loop : ∀ l ∈ r.loops, (∃ h : Nat, l.head = (h : Int) ∧ h < r.blocks.length) ∧ (∀ z ∈ l.blocks, ∃ b : Nat, z = (b : Int) ∧ b < r.blocks.length) ∧ l.blocks.length ≤ 1024 ∧ l.back.length ≤ 2048
theorem flatMap_two {α β : Type} (f : α → List β) (l : List α) (h : ∀ a ∈ l, (f a).length ≤ 2) : (l.flatMap f).length ≤ 2 * l.length := by
  induction l with
  | nil => simp
  | cons a l ih =>
    have h1 := h a (by simp)
    have h2 := ih fun b hb => h b (by simp [hb])
    rw [List.flatMap_cons, List.length_append, List.length_cons]
    omega
theorem backL_two {E : Nat → List Nat} {D : Nat → Nat → Bool} (h : ∀ b, (E b).length ≤ 2) (n y : Nat) : (backL E D n y).length ≤ 2 * n := by
  have h1 := flatMap_two (fun p => ((E p).filter fun x => decide (x = y) && D y p).map fun _ => p) (List.range n) (fun p _ => by
    rw [List.length_map]
    exact Nat.le_trans (List.length_filter_le _ _) (h p))
  rw [List.length_range] at h1
  exact h1
theorem filterMap_len {α β : Type} (f : α → Option β) (l : List α) : (l.filterMap f).length ≤ l.length := List.length_filterMap_le f l
theorem loopsTo_in {E : Nat → List Nat} {D L : Nat → Nat → Bool} {n j : Nat} (hj : j ≤ n) {l : ML} (h : l ∈ loopsTo E D L n j) : (∃ h : Nat, l.head = (h : Int) ∧ h < n) ∧ (∀ z ∈ l.blocks, ∃ b : Nat, z = (b : Int) ∧ b < n) ∧ l.blocks.length ≤ n ∧ ∃ g, l.back = ints (backL E D n g) := by
  unfold loopsTo at h
  obtain ⟨g, hg, e⟩ := List.mem_filterMap.1 h
  split at e
  · cases e
  · cases e
    refine ⟨⟨g, rfl, by have := List.mem_range.1 hg; omega⟩, ?_, ?_, g, rfl⟩
    · intro z hz
      obtain ⟨b, hb, rfl⟩ := List.mem_map.1 hz
      exact ⟨b, rfl, List.mem_range.1 (List.mem_filter.1 hb).1⟩
    · simp only []
      rw [ints_length]
      exact Nat.le_trans (List.length_filter_le _ _) (by simp)
theorem FlowOk.inn {xs : List MI} {r : MFl} (h : FlowOk xs r) (h0 : r.code = 0) : FlIn xs r := by
  cases h with
  | none _ => cases h0
  | off _ _ _ => cases h0
  | lost _ _ _ _ _ _ _ _ => cases h0
  | two _ _ _ _ _ _ _ _ => cases h0
  | good g x1 o1 v1 s1 d1 b1 i1 l1 =>
    refine ⟨g.2.1, specL_le g, specL_two xs, ?_, fun i m h => specL_parts h, fun l hl => ?_⟩
    · simp only []
      unfold loopsTo
      exact Nat.le_trans (filterMap_len _ _) (by rw [List.length_range]; exact specL_le g)
    · obtain ⟨a1, a2, a3, y, a4⟩ := loopsTo_in (Nat.le_refl _) hl
      refine ⟨a1, a2, Nat.le_trans a3 (specL_le g), ?_⟩
      rw [a4, ints_length]
      exact Nat.le_trans (backL_two (nx_small _ (specL_two xs)) _ _) (by have := specL_le g; omega)
/-- The certificate of a head. -/
def certAt (ts : List MT) (fi h : Int) : Option MT := ts.find? fun c => decide (c.func = fi) && decide (c.head = h)
theorem certAt_none {ts : List MT} {fi h : Int} (q : ∀ (j : Nat) (c : MT), ts[j]? = some c → ¬ (c.func = fi ∧ c.head = h)) : certAt ts fi h = none := by
  unfold certAt
  rw [List.find?_eq_none]
  intro c hc
  obtain ⟨j, hj⟩ := List.getElem?_of_mem hc
  have := q j c hj
  simpa using this
theorem certAt_some {ts : List MT} {fi h : Int} {i : Nat} {c : MT} (hi : ts[i]? = some c) (hc : c.func = fi ∧ c.head = h) (q : ∀ (j : Nat) (c : MT), j < i → ts[j]? = some c → ¬ (c.func = fi ∧ c.head = h)) : certAt ts fi h = some c := by
  unfold certAt
  rw [List.find?_eq_some_iff_getElem]
  obtain ⟨hlt, he⟩ := List.getElem?_eq_some_iff.1 hi
  refine ⟨by simp [hc], i, hlt, he, fun j hj => ?_⟩
  have := q j _ hj (List.getElem?_eq_getElem (by omega))
  by_cases h1 : ts[j].func = fi
  · simp only [h1, true_and] at this
    simp [this]
  · simp [h1]
/-- Is this an instruction of these blocks? -/
def InBl (bs : List MB) (l : List Int) (a : Int) : Prop := ∃ z ∈ l, ∃ m, bs[z.toNat]? = some m ∧ m.first ≤ a ∧ a ≤ m.last
/-- An instruction that writes to the counter. -/
def WrC (xs : List MI) (k a : Int) : Prop := ∃ x, xs[a.toNat]? = some x ∧ (x.op = 3 ∨ x.op = 27) ∧ x.a = k
/-- The last instruction of a block that is no jump: where it should be. -/
def endC (xs : List MI) (m : MB) : Int := match xs[m.last.toNat]? with | some x => if x.op = 25 then m.last - 1 else m.last | none => m.last
/-- A block that ends with the counter set. -/
def SetsC (ks : List MC) (xs : List MI) (m : MB) (c : MT) : Prop := m.first ≤ endC xs m - 1 ∧ ∃ x y v, xs[(endC xs m - 1).toNat]? = some x ∧ xs[(endC xs m).toNat]? = some y ∧ x.op = 1 ∧ y.op = 3 ∧ y.a = c.counter ∧ ks[x.a.toNat]? = some v ∧ v.type = 3 ∧ v.word = c.init
/-- A block from which one enters the loop with the counter not set. -/
def OpenC (ks : List MC) (xs : List MI) (bs : List MB) (l : ML) (c : MT) : Prop := ∃ (b : Nat) (m : MB), bs[b]? = some m ∧ l.head ∈ m.next ∧ ¬ ((b : Int) ∈ l.blocks) ∧ ¬ SetsC ks xs m c
/-- What is found at a loop of these blocks. -/
def LoopIs (p : MP) (fi : Int) (xs : List MI) (bs : List MB) (l : ML) (n : Int) : Prop := ∃ hb, bs[l.head.toNat]? = some hb ∧
  ((certAt p.certs fi hb.first = none ∧ n = 1) ∨ ∃ c g, certAt p.certs fi hb.first = some c ∧ xs[hb.first.toNat]? = some g ∧
    ((¬ (g.op = 27 ∧ g.a = c.counter) ∧ n = 2) ∨ ((g.op = 27 ∧ g.a = c.counter) ∧
      ((InBl bs l.blocks g.c ∧ n = 3) ∨ (¬ InBl bs l.blocks g.c ∧
        (((∃ a, InBl bs l.blocks a ∧ a ≠ hb.first ∧ WrC xs c.counter a) ∧ n = 4) ∨ ((¬ ∃ a, InBl bs l.blocks a ∧ a ≠ hb.first ∧ WrC xs c.counter a) ∧
          (((l.head = 0 ∨ OpenC p.consts xs bs l c) ∧ n = 5) ∨ (¬ (l.head = 0 ∨ OpenC p.consts xs bs l c) ∧ n = 0)))))))))
theorem LoopIs.one {p : MP} {fi : Int} {xs : List MI} {bs : List MB} {l : ML} {n n' : Int} (h : LoopIs p fi xs bs l n) (h' : LoopIs p fi xs bs l n') : n = n' := by
  obtain ⟨hb, e1, h⟩ := h
  obtain ⟨hb', e1', h'⟩ := h'
  obtain rfl : hb = hb' := by rw [e1] at e1'; exact Option.some.inj e1'
  rcases h with ⟨q, rfl⟩ | ⟨c, g, q, e2, h⟩ <;> rcases h' with ⟨q', rfl⟩ | ⟨c', g', q', e2', h'⟩
  · rfl
  · rw [q] at q'; cases q'
  · rw [q] at q'; cases q'
  · obtain rfl : c = c' := by rw [q] at q'; exact Option.some.inj q'
    obtain rfl : g = g' := by rw [e2] at e2'; exact Option.some.inj e2'
    rcases h with ⟨a, rfl⟩ | ⟨a, h⟩ <;> rcases h' with ⟨a', rfl⟩ | ⟨a', h'⟩
    · rfl
    · exact absurd a' a
    · exact absurd a a'
    · rcases h with ⟨a, rfl⟩ | ⟨a, h⟩ <;> rcases h' with ⟨a', rfl⟩ | ⟨a', h'⟩
      · rfl
      · exact absurd a a'
      · exact absurd a' a
      · rcases h with ⟨a, rfl⟩ | ⟨a, h⟩ <;> rcases h' with ⟨a', rfl⟩ | ⟨a', h'⟩
        · rfl
        · exact absurd a a'
        · exact absurd a' a
        · rcases h with ⟨a, rfl⟩ | ⟨a, rfl⟩ <;> rcases h' with ⟨a', rfl⟩ | ⟨a', rfl⟩
          · rfl
          · exact absurd a a'
          · exact absurd a' a
          · rfl
end Go.Proofs.YtdfmdgbolmbffaaGreat
namespace Go.Proofs.YtdfmdgbolmbffaaGreat
open Go.ChangeShapes Go.WideShapes Go.ChangeAt Go.RowKit
set_option linter.unusedVariables false

def isT (t : Int) : Bool := decide (1 ≤ t ∧ t ≤ 3)
theorem isT_true {t : Int} (h : 1 ≤ t) (h' : t ≤ 3) : isT t = true := by unfold isT; simp; omega
theorem isT_false {t : Int} (h : t < 1 ∨ 3 < t) : isT t = false := by unfold isT; simp; omega
def word (b : Bool) : Int := if b then 1 else 0
theorem isType_any (t : Int) (w : World) : Calls Tryz.prog 154 #[.int .i64 t] w fun e w' => e = .returned (.bool (isT t)) ∧ w' = w := by
  by_cases h1 : 1 ≤ t
  · by_cases h3 : t ≤ 3
    · rw [isT_true h1 h3]
      go_enter Tryz.func154, Tryz.ntmps154
      go_wp2
      go_ret
      exact ⟨rfl, rfl⟩
    · rw [isT_false (by omega)]
      go_enter Tryz.func154, Tryz.ntmps154
      go_wp2
      go_ret
      exact ⟨rfl, rfl⟩
  · rw [isT_false (by omega)]
    go_enter Tryz.func154, Tryz.ntmps154
    go_wp2
    go_ret
    exact ⟨rfl, rfl⟩
theorem l2Type_any (t : Int) (w : World) : Calls Tryz.prog 87 #[.int .i64 t] w fun e w' => e = .returned (.bool (isT t)) ∧ w' = w := by
  by_cases h1 : 1 ≤ t
  · by_cases h3 : t ≤ 3
    · rw [isT_true h1 h3]
      go_enter Tryz.func87, Tryz.ntmps87
      go_wp2
      go_ret
      exact ⟨rfl, rfl⟩
    · rw [isT_false (by omega)]
      go_enter Tryz.func87, Tryz.ntmps87
      go_wp2
      go_ret
      exact ⟨rfl, rfl⟩
  · rw [isT_false (by omega)]
    go_enter Tryz.func87, Tryz.ntmps87
    go_wp2
    go_ret
    exact ⟨rfl, rfl⟩
theorem wordOf_any (b : Bool) (w : World) : Calls Tryz.prog 213 #[.bool b] w fun e w' => e = .returned (.int .u32 (word b)) ∧ w' = w := by
  cases b <;>
  · go_enter Tryz.func213, Tryz.ntmps213
    go_wp2
    go_ret
    exact ⟨rfl, rfl⟩
end Go.Proofs.YtdfmdgbolmbffaaGreat
namespace Go.Proofs.YtdfmdgbolmbffaaGreat
open Go.ChangeShapes Go.WideShapes Go.ChangeAt Go.RowKit
set_option linter.unusedVariables false
theorem all_next {α : Type} (q : α → Bool) (ys : List α) (k : Nat) (x : α) (hx : ys[k]? = some x) (h : (ys.take k).all q = true) : (ys.take (k + 1)).all q = q x := by
  obtain ⟨hlt, rfl⟩ := List.getElem?_eq_some_iff.1 hx
  rw [List.take_succ_eq_append_getElem hlt, List.all_append, h]
  simp
theorem all_not {α : Type} (q : α → Bool) (ys : List α) (x : α) (hx : x ∈ ys) (h : q x = false) : ys.all q = false := by
  rw [List.all_eq_false]
  exact ⟨x, hx, by simp [h]⟩
set_option maxHeartbeats 1000000 in
theorem l3Types_any (s : Value) (ys : List Int) (w : World) (hn : ys.length ≤ 1048576) (h : Rd w 1 s ys.length (ys.flatMap intCell)) :
    Calls Tryz.prog 47 #[s] w fun e w' => e = .returned (.bool (ys.all isT)) ∧ w' = w := by
  have H1 : Hid (Rd w 1 s ys.length (ys.flatMap intCell)) := h
  obtain ⟨a1, c1, rfl⟩ := h.is_slice
  clear h
  generalize hLL : ys.length = n at hn H1
  have HL : Hid (ys.length = n) := hLL
  clear hLL
  generalize hR : ys.all isT = R
  have HR : Hid (ys.all isT = R) := hR
  clear hR
  go_enter Tryz.func47, Tryz.ntmps47
  go_wp2
  go_loopw [3] (fun i wr => ∃ k : Nat, k ≤ n ∧ i = .int .i64 k ∧ Hid ((ys.take k).all isT = true) ∧ wr = w) (fun i _ => n - (intOf i).toNat)
  case atStart => exact ⟨0, by omega, rfl, by simp [Hid], rfl⟩
  case round =>
    obtain ⟨k, hk, rfl, HT, rfl⟩ := hrel
    by_cases hlt : k < n
    · obtain ⟨x, hx⟩ : ∃ x, ys[k]? = some x := ⟨_, List.getElem?_eq_getElem (by rw [HL.out]; exact hlt)⟩
      rcases H1.out.2 with ⟨e0, _⟩ | ⟨g, o, c, e1, hc1⟩
      · omega
      · simp only [Value.slice.injEq, true_and] at e1
        obtain ⟨rfl, rfl⟩ := e1
        have i0 := Rd.elem intCell_length hc1 k x hx 0 _ rfl
        rw [Nat.mul_one, Nat.add_zero] at i0
        have HX : Hid (ys[k]? = some x) := hx
        clear hc1 hx
        go_wp2_with fail
        refine (l2Type_any x wr).mono ?_
        rintro e u ⟨rfl, rfl⟩
        cases hq : isT x with
        | false =>
          have hR : R = false := by
            rw [← HR.out]
            exact all_not _ _ _ (List.mem_of_getElem? HX.out) hq
          subst hR
          clear hq
          go_wp2
          go_ret
          exact ⟨rfl, rfl⟩
        | true =>
          have HN : Hid ((ys.take (k + 1)).all isT = true) := by
            show _ = _
            rw [all_next _ _ _ _ HX.out HT.out]
            exact hq
          clear hq
          go_wp2
          go_roundw
          case rel => exact ⟨k + 1, by omega, by go_num, HN, by trivial⟩
          case measure => simp [intOf]; omega
    · have hkn : k = n := by omega
      subst hkn
      have hR : R = true := by
        rw [← HR.out, ← HT.out, ← HL.out, List.take_length]
      subst hR
      go_wp2
      go_ret
      exact ⟨rfl, rfl⟩
end Go.Proofs.YtdfmdgbolmbffaaGreat
namespace Go.Proofs.YtdfmdgbolmbffaaGreat
open Go.ChangeShapes Go.WideShapes Go.ChangeAt Go.RowKit
set_option linter.unusedVariables false
/-- The type of a local; 0: there is none. -/
def localOf (f : MF) (k : Int) : Int := if k < 0 then 0 else (f.params ++ f.locals).getD k.toNat 0
theorem localOf_neg {f : MF} {k : Int} (h : k < 0) : localOf f k = 0 := if_pos h
theorem localOf_par {f : MF} {k : Nat} {x : Int} (h : f.params[k]? = some x) : localOf f k = x := by
  obtain ⟨hlt, rfl⟩ := List.getElem?_eq_some_iff.1 h
  unfold localOf
  rw [if_neg (by omega), List.getD_eq_getElem?_getD, Int.toNat_natCast, List.getElem?_append_left hlt, List.getElem?_eq_getElem hlt]
  rfl
theorem localOf_loc {f : MF} {k : Nat} {x : Int} (h : f.locals[k]? = some x) : localOf f ((f.params.length : Int) + k) = x := by
  obtain ⟨hlt, rfl⟩ := List.getElem?_eq_some_iff.1 h
  unfold localOf
  have e : ((f.params.length : Int) + k).toNat = f.params.length + k := by omega
  rw [if_neg (by omega), List.getD_eq_getElem?_getD, e, List.getElem?_append_right (by omega), Nat.add_sub_cancel_left, List.getElem?_eq_getElem hlt]
  rfl
theorem localOf_out {f : MF} {k : Int} (h : (f.params.length : Int) + f.locals.length ≤ k) : localOf f k = 0 := by
  unfold localOf
  rw [if_neg (by omega), List.getD_eq_getElem?_getD, List.getElem?_eq_none (by rw [List.length_append]; omega)]
  rfl
set_option maxHeartbeats 2000000 in
set_option maxRecDepth 100000 in
theorem l3Local_any (v : VF) (f : MF) (k : Int) (w : World) (hs : f.small) (hk : W64 k) (h : RdF w v f) :
    Calls Tryz.prog 72 #[.agg #[v.p, .int .i64 f.result, v.l, v.c], .int .i64 k] w fun e w' => e = .returned (.int .i64 (localOf f k)) ∧ Below w.heap.size w w' := by
  have hk' : -9223372036854775808 ≤ k ∧ k ≤ 9223372036854775807 := by simpa [W64, Lit.wf, IntKind.min, IntKind.max, IntKind.signed, IntKind.bits] using hk
  obtain ⟨k0, k1⟩ := hk'
  obtain ⟨s1, s2, s3⟩ := hs
  have H1 : Hid (RdF w v f) := h
  obtain ⟨a1, c1, e1⟩ := h.1.is_slice
  obtain ⟨a2, c2, e2⟩ := h.2.1.is_slice
  obtain ⟨vp, vl, vc⟩ := v
  simp only [] at e1 e2
  subst e1
  subst e2
  clear h hk s3
  have F0 := Fr1.of w 63 #[.slice a1 f.params.length c1, .int .i64 f.result, .slice a2 f.locals.length c2, vc] rfl
  have HB : Hid _ := F0.bel
  clear F0
  generalize hn1 : f.params.length = n1 at *
  generalize hn2 : f.locals.length = n2 at *
  have HN : Hid (f.params.length = n1 ∧ f.locals.length = n2) := ⟨hn1, hn2⟩
  clear hn1 hn2
  by_cases q0 : k < 0
  · rw [localOf_neg q0]
    go_enter Tryz.func72, Tryz.ntmps72
    go_wp2
    go_ret
    exact ⟨rfl, HB.out⟩
  · obtain ⟨j, rfl⟩ := Int.eq_ofNat_of_zero_le (show 0 ≤ k by omega)
    by_cases q1 : j < n1
    · obtain ⟨x, hx⟩ : ∃ x, f.params[j]? = some x := ⟨_, List.getElem?_eq_getElem (by rw [HN.out.1]; exact q1)⟩
      rw [localOf_par hx]
      rcases H1.out.1.2 with ⟨e0, _⟩ | ⟨g, o, c, e1, hc1⟩
      · rw [HN.out.1] at e0
        omega
      · simp only [Value.slice.injEq] at e1
        obtain ⟨rfl, hh, rfl⟩ := e1; clear hh
        have i0 := Rd.elem intCell_length hc1 j x hx 0 _ rfl
        rw [Nat.mul_one, Nat.add_zero] at i0
        have i1 := (HB.out.cell (block_lt_of_cell i0)).trans i0
        clear hc1 hx i0
        go_enter Tryz.func72, Tryz.ntmps72
        go_wp2
        go_ret
        exact ⟨rfl, HB.out⟩
    · by_cases q2 : j < n1 + n2
      · obtain ⟨x, hx⟩ : ∃ x, f.locals[j - n1]? = some x := ⟨_, List.getElem?_eq_getElem (by rw [HN.out.2]; omega)⟩
        have hl := localOf_loc hx
        rw [HN.out.1] at hl
        have ej : ((n1 : Int) + ((j - n1 : Nat) : Int)) = (j : Int) := by omega
        rw [ej] at hl
        rw [hl]
        rcases H1.out.2.1.2 with ⟨e0, _⟩ | ⟨g, o, c, e1, hc1⟩
        · rw [HN.out.2] at e0
          omega
        · simp only [Value.slice.injEq] at e1
          obtain ⟨rfl, hh, rfl⟩ := e1; clear hh
          have i0 := Rd.elem intCell_length hc1 (j - n1) x hx 0 _ rfl
          rw [Nat.mul_one, Nat.add_zero] at i0
          have i1 := (HB.out.cell (block_lt_of_cell i0)).trans i0
          clear hc1 hx i0 hl ej
          go_enter Tryz.func72, Tryz.ntmps72
          go_wp2
          go_ret
          exact ⟨rfl, HB.out⟩
      · rw [localOf_out (by rw [HN.out.1, HN.out.2]; omega)]
        go_enter Tryz.func72, Tryz.ntmps72
        go_wp2
        go_ret
        exact ⟨rfl, HB.out⟩
end Go.Proofs.YtdfmdgbolmbffaaGreat
namespace Go.Proofs.YtdfmdgbolmbffaaGreat
open Go.ChangeShapes Go.WideShapes Go.ChangeAt Go.RowKit
set_option linter.unusedVariables false
/-- The type of a cell; 0: there is none. -/
def cellOf (p : MP) (r c : Int) : Int := if r < 0 ∨ 2 < r ∨ c < 0 then 0 else (p.regions.getD r.toNat []).getD c.toNat 0
theorem cellOf_bad {p : MP} {r c : Int} (h : r < 0 ∨ 2 < r ∨ c < 0) : cellOf p r c = 0 := if_pos h
theorem cellOf_in {p : MP} {r c : Nat} (h : r ≤ 2) {l : List Int} (hl : p.regions[r]? = some l) : cellOf p r c = l.getD c 0 := by
  unfold cellOf
  have e : p.regions.getD r [] = l := by rw [List.getD_eq_getElem?_getD, hl]; rfl
  rw [if_neg (by omega), Int.toNat_natCast, Int.toNat_natCast, e]
set_option maxHeartbeats 2000000 in
set_option maxRecDepth 100000 in
theorem l3Cell_any (v : VP) (p : MP) (r c : Int) (w : World) (hs : p.small) (h3 : p.regions.length = 3) (hr : W64 r) (hc : W64 c) (h : RdP w v p) :
    Calls Tryz.prog 99 #[.agg #[v.r, v.k, v.f, v.t], .int .i64 r, .int .i64 c] w fun e w' => e = .returned (.int .i64 (cellOf p r c)) ∧ Below w.heap.size w w' := by
  have hr' : -9223372036854775808 ≤ r ∧ r ≤ 9223372036854775807 := by simpa [W64, Lit.wf, IntKind.min, IntKind.max, IntKind.signed, IntKind.bits] using hr
  have hc' : -9223372036854775808 ≤ c ∧ c ≤ 9223372036854775807 := by simpa [W64, Lit.wf, IntKind.min, IntKind.max, IntKind.signed, IntKind.bits] using hc
  obtain ⟨r0, r1⟩ := hr'
  obtain ⟨c0, c1⟩ := hc'
  clear hr hc
  obtain ⟨vr, vk, vf, vt⟩ := v
  obtain ⟨xs, hxs, hrd, hel⟩ := h.regions
  simp only [] at hrd
  rw [h3] at hrd
  have hxl : xs.length = 3 := by rw [← h3, ← hxs]; simp
  have H1 : Hid (Rd w 1 vr 3 (xs.flatMap rCells) ∧ xs.map Prod.fst = p.regions ∧ (∀ x ∈ xs, Rd w 1 x.2 x.1.length (x.1.flatMap intCell)) ∧ (∀ l ∈ p.regions, l.length ≤ 1048576) ∧ xs.length = 3) := ⟨hrd, hxs, hel, hs.region, hxl⟩
  clear hrd hxs hel hxl hs h h3
  have HB : Hid _ := (Fr1.of w 36 #[vr, vk, vf, vt] rfl).bel
  by_cases q0 : r < 0
  · rw [cellOf_bad (.inl q0)]
    go_enter Tryz.func99, Tryz.ntmps99
    go_wp2
    go_ret
    exact ⟨rfl, HB.out⟩
  by_cases q1 : 2 < r
  · rw [cellOf_bad (.inr (.inl q1))]
    go_enter Tryz.func99, Tryz.ntmps99
    go_wp2
    go_ret
    exact ⟨rfl, HB.out⟩
  by_cases q2 : c < 0
  · rw [cellOf_bad (.inr (.inr q2))]
    go_enter Tryz.func99, Tryz.ntmps99
    go_wp2
    go_ret
    exact ⟨rfl, HB.out⟩
  obtain ⟨i, rfl⟩ := Int.eq_ofNat_of_zero_le (show 0 ≤ r by omega)
  obtain ⟨j, rfl⟩ := Int.eq_ofNat_of_zero_le (show 0 ≤ c by omega)
  obtain ⟨⟨l, y⟩, hx⟩ : ∃ x, xs[i]? = some x := ⟨_, List.getElem?_eq_getElem (by rw [H1.out.2.2.2.2]; omega)⟩
  have e1 := fst_at H1.out.2.1 hx
  have hy := H1.out.2.2.1 _ (List.mem_of_getElem? hx)
  have hll := H1.out.2.2.2.1 _ (List.mem_of_getElem? e1)
  simp only [] at e1 hy hll
  rw [cellOf_in (by omega) e1]
  rcases H1.out.1.2 with ⟨e0, _⟩ | ⟨g, o, cc, e2, hc1⟩
  · omega
  subst e2
  have a0 := Rd.elem rCells_length hc1 i _ hx 0 _ rfl
  rw [Nat.mul_one, Nat.add_zero] at a0
  simp only [] at a0
  clear hc1 hx e1
  obtain ⟨ay, cy, rfl⟩ := hy.is_slice
  have a1 := (HB.out.cell (block_lt_of_cell a0)).trans a0
  by_cases q3 : j < l.length
  · obtain ⟨z, hz⟩ : ∃ z, l[j]? = some z := ⟨_, List.getElem?_eq_getElem q3⟩
    have ez : l.getD j 0 = z := by rw [List.getD_eq_getElem?_getD, hz]; rfl
    rw [ez]
    rcases hy.2 with ⟨e0, _⟩ | ⟨g2, o2, c2, e3, hc2⟩
    · omega
    simp only [Value.slice.injEq, true_and] at e3
    obtain ⟨rfl, rfl⟩ := e3
    have b0 := Rd.elem intCell_length hc2 j z hz 0 _ rfl
    rw [Nat.mul_one, Nat.add_zero] at b0
    have b1 := (HB.out.cell (block_lt_of_cell b0)).trans b0
    clear hc2 hz b0 a0 ez
    have HY : Hid _ := hy
    clear hy
    generalize l.length = n at *
    go_enter Tryz.func99, Tryz.ntmps99
    go_wp2
    go_ret
    exact ⟨rfl, HB.out⟩
  · have ez : l.getD j 0 = 0 := by rw [List.getD_eq_getElem?_getD, List.getElem?_eq_none (by omega)]; rfl
    rw [ez]
    clear ez a0 hy
    generalize l.length = n at *
    go_enter Tryz.func99, Tryz.ntmps99
    go_wp2
    go_ret
    exact ⟨rfl, HB.out⟩
end Go.Proofs.YtdfmdgbolmbffaaGreat
