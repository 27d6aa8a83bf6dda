/- BImpl7: impl.BlocksOf: its rows. -/
import Derived.Test.YtdbaghmjomdmbaaBImpl6
namespace Go.Proofs.Ytdbaghmjomdmbaa
open Go.ChangeShapes Go.WideShapes Go.ChangeAt Go.RowKit
set_option linter.unusedVariables false
theorem good_iff (xs : List MI) : CodeGood xs ↔ 1 ≤ xs.length ∧ xs.length ≤ 1024 ∧ PlacesOk xs := Iff.rfl
/-- A block whose Next are places. -/
def midB (xs : List MI) (m : MB) : MB := ⟨m.first, m.last, placesL xs (xs.getD m.last.toNat ⟨0, 0, 0, 0⟩) m.last.toNat⟩
def midL (xs : List MI) : List MB := (outL xs xs.length).map (midB xs)
theorem midL_length (xs : List MI) : (midL xs).length = (lds xs xs.length).length := by unfold midL; rw [List.length_map, outL_length]
theorem build_at (L : List Nat) (n b a q : Nat) (ha : L[b]? = some a) (hq : (L ++ [n])[b + 1]? = some q) : (build L n)[b]? = some ⟨(a : Int), (q : Int) - 1, []⟩ := by
  unfold build
  rw [List.getElem?_zipWith, ha]
  have e : (L.tail ++ [n])[b]? = some q := by
    cases L with
    | nil => simp at ha
    | cons y r => simpa using hq
  rw [e]
/-- The zero of a block, in cells. -/
def z3 : List Value := [.int .i64 0, .int .i64 0, .slice none 0 0]
/-- The rows, in the first loop: from j on the blocks are there. -/
structure IW (w u : World) (xs : List MI) (gl cl bl j : Nat) (D : List (MB × Value)) : Prop where
  row : u.ownsRow w.heap.size 46 3 (.slice (some ⟨bl, 0, none⟩) (lds xs xs.length).length (lds xs xs.length).length) (lds xs xs.length).length ((List.replicate j z3).flatten ++ D.flatMap bCells)
  fam : Fam u w.heap.size ((.slice (some ⟨gl, 0, none⟩) (lds xs xs.length).length cl, (lds xs xs.length).map Int.ofNat) :: nrows D)
  done : D.map Prod.fst = (midL xs).drop j
  bel : Below w.heap.size w u
theorem IW.lead {w u : World} {xs : List MI} {gl cl bl j : Nat} {D : List (MB × Value)} (h : IW w u xs gl cl bl j D) : u.ownsRow w.heap.size 2 1 (.slice (some ⟨gl, 0, none⟩) (lds xs xs.length).length cl) (lds xs xs.length).length (((lds xs xs.length).map Int.ofNat).flatMap intCell) := by
  have := h.fam.own _ (List.mem_cons_self)
  simpa using this
theorem Fam.keep {u u' : World} {B : Nat} {L : List (Value × List Int)} (h : Fam u B L) (hb : Below u.heap.size u u') : Fam u' B L := ⟨fun r hr => own_keep (h.own r hr) hb (Nat.le_refl _), h.sep⟩
theorem Fam.add {u u' : World} {B : Nat} {y : Value × List Int} {L : List (Value × List Int)} {b : Value} {cb : List Int} (h : Fam u B (y :: L)) (hb : Below u.heap.size u u') (hn : u'.ownsRow u.heap.size 2 1 b cb.length (cb.flatMap intCell)) (hB : B ≤ u.heap.size) : Fam u' B (y :: (b, cb) :: L) := by
  have hap : ∀ r ∈ y :: L, Apart (b, cb) r := by
    intro r hr g hg e
    have h1 := hn.lt g hg
    have h2 := (h.own r hr).lt g e
    omega
  obtain ⟨p1, p2⟩ := List.pairwise_cons.1 h.sep
  refine ⟨?_, List.pairwise_cons.2 ⟨?_, List.pairwise_cons.2 ⟨fun r hr => hap r (by simp [hr]), p2⟩⟩⟩
  · intro r hr
    simp only [List.mem_cons] at hr
    rcases hr with rfl | rfl | hr
    · exact own_keep (h.own _ (by simp)) hb (Nat.le_refl _)
    · exact own_lower hn hB
    · exact own_keep (h.own r (by simp [hr])) hb (Nat.le_refl _)
  · intro r hr
    simp only [List.mem_cons] at hr
    rcases hr with rfl | hr
    · exact (hap y (by simp)).symm
    · exact p1 r hr
theorem Fam.setB {w : World} {base g : Nat} {L : List (Value × List Int)} {B' k n c : Nat} {xs : List Value} (h : Fam w base L) (ho : w.ownsRow B' 46 k (.slice (some ⟨g, 0, none⟩) n c) n xs) (i : Nat) (x : Value) : Fam (w.setCell ⟨g, i, none⟩ x) base L :=
  ⟨fun y hy => own_set_ne (h.own y hy) ho (by decide) i x, h.sep⟩
theorem set3of3 (A R : List Value) (y0 y1 y2 c0 c1 c2 : Value) (i : Nat) (h : A.length = i) : (((A ++ ([y0, y1, y2] ++ R)).set i c0).set (i + 1) c1).set (i + 2) c2 = A ++ ([c0, c1, c2] ++ R) := by
  subst h
  simp [List.set_append_right]
theorem z3_split (b : Nat) (R : List Value) : (List.replicate (b + 1) z3).flatten ++ R = (List.replicate b z3).flatten ++ (z3 ++ R) := by
  rw [List.replicate_succ']
  simp
theorem z3_len (b : Nat) : (List.replicate b z3).flatten.length = b * 3 := by
  rw [List.length_flatten]
  simp [z3]
theorem IW.next {w wr u : World} {xs : List MI} {gl cl bl b a q e : Nat} {D : List (MB × Value)} {x : MI} {ar : Option Addr} {cr : Nat} (h : IW w wr xs gl cl bl (b + 1) D) (hb : Below wr.heap.size wr u) (hr : u.ownsRow wr.heap.size 2 1 (.slice ar (placesL xs x e).length cr) (placesL xs x e).length ((placesL xs x e).flatMap intCell)) (ha : (lds xs xs.length)[b]? = some a) (hq : (lds xs xs.length ++ [xs.length])[b + 1]? = some q) (he : (q : Int) - 1 = (e : Int)) (hx : xs[e]? = some x) :
    IW w (((u.setCell ⟨bl, b * 3, none⟩ (.int .i64 a)).setCell ⟨bl, b * 3 + 1, none⟩ (.int .i64 e)).setCell ⟨bl, b * 3 + 2, none⟩ (.slice ar (placesL xs x e).length cr)) xs gl cl bl b ((⟨(a : Int), (e : Int), placesL xs x e⟩, .slice ar (placesL xs x e).length cr) :: D) := by
  have r0 := own_keep h.row hb (Nat.le_refl _)
  have r1 := (r0.stored (b * 3) (.int .i64 a)).1
  have r2 := (r1.stored (b * 3 + 1) (.int .i64 e)).1
  have r3 := (r2.stored (b * 3 + 2) (.slice ar (placesL xs x e).length cr)).1
  rw [z3_split, show z3 ++ D.flatMap bCells = [Value.int .i64 0, .int .i64 0, .slice none 0 0] ++ D.flatMap bCells from rfl, set3of3 _ _ _ _ _ _ _ _ _ (z3_len b)] at r3
  have hbl := (own_blk r0).1
  have hm := build_at _ _ _ _ _ ha hq
  refine ⟨?_, ?_, ?_, (((below_on h.bel (Nat.le_refl _) hb).setCell hbl _).setCell hbl _).setCell hbl _⟩
  · rw [List.flatMap_cons]
    exact r3
  · have f0 := Fam.add h.fam hb hr h.bel.size
    exact ((f0.setB r0 _ _).setB r1 _ _).setB r2 _ _
  · have hlt : b < (midL xs).length := by rw [midL_length]; exact (List.getElem?_eq_some_iff.1 ha).1
    rw [List.map_cons, h.done, List.drop_eq_getElem_cons hlt]
    congr 1
    have e1 : (midL xs)[b]? = some (midB xs ⟨(a : Int), (q : Int) - 1, []⟩) := by
      unfold midL
      rw [List.getElem?_map, outL_build, hm]
      rfl
    have e2 := (List.getElem?_eq_some_iff.1 e1).2
    rw [e2]
    unfold midB
    rw [he, Int.toNat_natCast, List.getD_eq_getElem?_getD, hx]
    rfl
end Go.Proofs.Ytdbaghmjomdmbaa
