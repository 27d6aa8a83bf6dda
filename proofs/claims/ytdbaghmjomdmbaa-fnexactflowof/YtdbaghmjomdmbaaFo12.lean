import Derived.Test.YtdbaghmjomdmbaaFo11
import Derived.Test.YtdbaghmjomdmbaaFo8
namespace Go.Proofs.Ytdbaghmjomdmbaa
open Go.ChangeShapes Go.WideShapes Go.ChangeAt Go.RowKit
set_option linter.unusedVariables false
theorem own_lower {w : World} {base b : Nat} {e : TypeId} {k n : Nat} {v : Value} {xs : List Value} (h : w.ownsRow base e k v n xs) (hb : b ≤ base) : w.ownsRow b e k v n xs :=
  ⟨h.1, h.2.imp id fun ⟨g, cap, cur, e1, hb1, r⟩ => ⟨g, cap, cur, e1, Nat.le_trans hb hb1, r⟩⟩
theorem with_world {Q : Exit → Act → World → Prop} {a : Act} {U : World} (P : World → Prop) (h : P U) (k : ∀ u, P u → Q .normal a u) : Q .normal a U := k U h
theorem wp_world {P : Program} {c : Code} {Q : Exit → Act → World → Prop} {a : Act} {U : World} (R : World → Prop) (h : R U) (k : ∀ u, R u → Code.wp P c Q a u) : Code.wp P c Q a U := k U h
theorem bcell_keep {W u : World} (hb : Below W.heap.size W u) {a : Addr} {x : Value} (h : W.cell? a = some x) : u.cell? a = some x := by rw [hb.cell (block_lt_of_cell h)]; exact h
/-- A block with its Next. -/
def specB (xs : List MI) (m : MB) : MB := ⟨m.first, m.last, nextS xs (xs.getD m.last.toNat ⟨0, 0, 0, 0⟩) m.last.toNat⟩
def specL (xs : List MI) : List MB := (outL xs xs.length).map (specB xs)
/-- The rows, in the third loop. -/
structure TW (w u : World) (xs : List MI) (n q : Nat) (V : Value) (D : List (MB × Value)) : Prop where
  num : u.ownsRow w.heap.size 2 1 (.slice (some ⟨q, 0, none⟩) n n) n ((List.range n).flatMap (numC xs))
  out : u.ownsRow w.heap.size 46 3 V (outL xs n).length (D.flatMap bCells ++ ((outL xs n).drop D.length).flatMap bc0)
  rows : ∀ x ∈ D, u.ownsRow w.heap.size 2 1 x.2 x.1.next.length (x.1.next.flatMap intCell)
  done : D.map Prod.fst = ((outL xs n).take D.length).map (specB xs)
  bel : Below w.heap.size w u
theorem TW.of {w u : World} {xs : List MI} {n q : Nat} {V : Value} (h : SW w u xs n n q V) : TW w u xs n q V [] := by
  refine ⟨?_, by simpa using h.out, fun x hx => (by cases hx), by simp, h.bel⟩
  have := h.num
  rw [flatTo_all _ _ _ _ (by simp)] at this
  exact this
/-- A list that is new since wr, beside the block of an instruction. -/
structure NW (wr U : World) (x : MI) (V : Value) (ns : List Int) : Prop where
  bel : Below wr.heap.size wr U
  xb : Blk U wr.heap.size #[.int .i64 x.op, .int .i64 x.a, .int .i64 x.b, .int .i64 x.c] 44
  row : U.ownsRow wr.heap.size 2 1 V ns.length (ns.flatMap intCell)
theorem NW.of (wr : World) (x : MI) : NW wr ((wr.alloc (.cells #[.int .i64 x.op, .int .i64 x.a, .int .i64 x.b, .int .i64 x.c] 44)).alloc (.cells #[] 2)) x (.slice (some ⟨wr.heap.size + 1, 0, none⟩) 0 0) [] := by
  have b1 := below_alloc wr (.cells #[.int .i64 x.op, .int .i64 x.a, .int .i64 x.b, .int .i64 x.c] 44)
  have k1 := Blk.new wr #[.int .i64 x.op, .int .i64 x.a, .int .i64 x.b, .int .i64 x.c] 44
  have z1 : (wr.alloc (.cells #[.int .i64 x.op, .int .i64 x.a, .int .i64 x.b, .int .i64 x.c] 44)).heap.size = wr.heap.size + 1 := by simp
  generalize wr.alloc (.cells #[.int .i64 x.op, .int .i64 x.a, .int .i64 x.b, .int .i64 x.c] 44) = Wx at b1 k1 z1 ⊢
  have b2 := below_alloc Wx (.cells #[] 2)
  have k2 := Blk.new Wx #[] 2
  rw [z1] at k2
  exact ⟨below_on b1 (Nat.le_refl _) b2, k1.keep b2, ⟨rfl, .inr ⟨wr.heap.size + 1, 0, #[], rfl, Nat.le_succ _, k2, Nat.le_refl _, Nat.zero_le _, rfl, rfl⟩⟩⟩
theorem NW.drew {wr U : World} {x : MI} {V : Value} {ns : List Int} (h : NW wr U x V ns) (k : Nat) : NW wr (U.drewN k) x V ns := ⟨⟨h.bel.os, h.bel.tape, h.bel.output, h.bel.size, h.bel.block⟩, h.xb, ⟨h.row.1, h.row.2⟩⟩
theorem NW.app {wr U u' : World} {x : MI} {V V' : Value} {ns : List Int} {z : Int} {m : Nat} (h : NW wr U x V ns) (hown : u'.ownsRow wr.heap.size 2 1 V' m (ns.flatMap intCell ++ [.int .i64 z])) (hm : m = ns.length + 1) (hg : (U.alloc (.cells #[.int .i64 z] 2)).grownBy u' V.ownBlock) : NW wr u' x V' (ns ++ [z]) := by
  have bA := below_alloc U (.cells #[.int .i64 z] 2)
  refine ⟨(below_on h.bel (Nat.le_refl _) bA).grown hg (Nat.le_trans h.bel.size bA.size) (fun i hi => (h.row.lt i hi).1), (h.xb.keep bA).grown hg (own_keep h.row bA (Nat.le_refl _)) (by decide), ?_⟩
  rw [List.length_append, List.length_singleton, ← hm, List.flatMap_append]
  exact hown
theorem one_cell (U : World) (z : Int) : ∀ j u, [(.int .i64 z : Value)][j]? = some u → (U.alloc (.cells #[.int .i64 z] 2)).cell? ((⟨U.heap.size, 0, none⟩ : Addr).add j) = some u := fun j u hj => by
  rw [add_at, Nat.zero_add, (Blk.new U #[.int .i64 z] 2).cell j]
  simpa using hj
theorem NW.al {wr U : World} {x : MI} {V : Value} {ns : List Int} (h : NW wr U x V ns) (o : Obj) : (U.alloc o).ownsRow wr.heap.size 2 1 V ns.length (ns.flatMap intCell) ∧ wr.heap.size ≤ (U.alloc o).heap.size := ⟨own_keep h.row (below_alloc _ _) (Nat.le_refl _), Nat.le_trans h.bel.size (below_alloc _ _).size⟩
theorem TW.next {w wr U : World} {xs : List MI} {n q gv len cap : Nat} {D : List (MB × Value)} {m : MB} {e : Nat} {x : MI} {Vn : Value} {ns : List Int} (h : TW w wr xs n q (.slice (some ⟨gv, 0, none⟩) len cap) D) (hl : len = (outL xs n).length) (hm : (outL xs n)[D.length]? = some m) (he : m.last = (e : Int)) (hx : xs[e]? = some x) (hn : NW wr U x Vn ns) (hns : ns = nextS xs x e) : TW w (U.setCell ⟨gv, D.length * 3 + 2, none⟩ Vn) xs n q (.slice (some ⟨gv, 0, none⟩) len cap) (D ++ [(specB xs m, Vn)]) := by
  subst hl
  have hb : Below wr.heap.size wr U := hn.bel
  have hout := own_keep h.out hb (Nat.le_refl _)
  obtain ⟨hlt, hmm⟩ := List.getElem?_eq_some_iff.1 hm
  have hB : specB xs m = ⟨m.first, m.last, ns⟩ := by
    unfold specB
    rw [he, hns, Int.toNat_natCast, List.getD_eq_getElem?_getD, hx]
    rfl
  have hnr := own_lower hn.row (b := w.heap.size) h.bel.size
  refine ⟨own_set_ne (own_keep h.num hb (Nat.le_refl _)) hout (by decide) _ _, ?_, ?_, ?_, (below_on h.bel (Nat.le_refl _) hb).setCell (own_blk hout).1 _⟩
  · have k1 := (hout.stored (D.length * 3 + 2) Vn).1
    have e1 : (D.flatMap bCells ++ ((outL xs n).drop D.length).flatMap bc0).set (D.length * 3 + 2) Vn = (D ++ [(specB xs m, Vn)]).flatMap bCells ++ ((outL xs n).drop (D ++ [(specB xs m, Vn)]).length).flatMap bc0 := by
      rw [List.drop_eq_getElem_cons hlt, hmm, List.flatMap_cons, List.set_append_right _ _ (by rw [flat_length bCells 3 bCells_length]; omega), flat_length bCells 3 bCells_length, hB]
      simp [bc0, bCells, List.length_append]
    rw [e1] at k1
    exact k1
  · intro y hy
    rcases List.mem_append.1 hy with hy | hy
    · exact own_set_ne (own_keep (h.rows y hy) hb (Nat.le_refl _)) hout (by decide) _ _
    · simp only [List.mem_cons, List.not_mem_nil, or_false] at hy
      subst hy
      simp only [hB]
      exact own_set_ne hnr hout (by decide) _ _
  · rw [List.map_append, h.done, List.length_append, List.length_singleton, List.take_succ_eq_append_getElem hlt, hmm]
    simp
theorem TW.rd {w u : World} {xs : List MI} {n q : Nat} {V : Value} {D : List (MB × Value)} (h : TW w u xs n q V D) (hn : xs.length = n) (hl : D.length = (outL xs n).length) : RdBs u V (specL xs) := by
  have e1 : D.map Prod.fst = specL xs := by
    rw [h.done, hl, List.take_of_length_le (Nat.le_refl _)]
    unfold specL
    rw [hn]
  have e2 : (specL xs).length = (outL xs n).length := by unfold specL; rw [List.length_map, hn]
  refine ⟨D, e1, ?_, fun x hx => Rd.of_own (h.rows x hx)⟩
  have := Rd.of_own h.out
  rw [hl, List.drop_of_length_le (Nat.le_refl _)] at this
  rw [e2]
  simpa using this
end Go.Proofs.Ytdbaghmjomdmbaa
namespace Go.Proofs.Ytdbaghmjomdmbaa
open Go.ChangeShapes Go.WideShapes Go.ChangeAt Go.RowKit
set_option linter.unusedVariables false
structure ML where
  head : Int
  back : List Int
  blocks : List Int
structure MFl where
  code : Int
  at_ : Int
  blocks : List MB
  order : List Int
  idom : List Int
  loops : List ML
def ints (l : List Nat) : List Int := l.map fun (x : Nat) => (x : Int)
theorem ints_length (l : List Nat) : (ints l).length = l.length := by simp [ints]
/-- Where one goes from a block. -/
def nx (bs : List MB) (b : Nat) : List Nat := match bs[b]? with | some m => m.next.map Int.toNat | none => []
def noFl (c a : Int) : MFl := ⟨c, a, [], [], [], []⟩
def loopsTo (E : Nat → List Nat) (D L : Nat → Nat → Bool) (n j : Nat) : List ML := (List.range j).filterMap fun h => if backL E D n h = [] then none else some ⟨(h : Int), ints (backL E D n h), ints ((List.range n).filter (L h))⟩
inductive FlowOk (xs : List MI) : MFl → Prop
  | none : ¬ CodeGood xs → FlowOk xs (noFl 4 0)
  | off {x : MI} : CodeGood xs → xs[xs.length - 1]? = some x → onB x = true → FlowOk xs (noFl 1 ((xs.length : Int) - 1))
  | lost {x : MI} {S O : List Nat} {b : Nat} {m : MB} : CodeGood xs → xs[xs.length - 1]? = some x → onB x = false → Vs (nx (specL xs)) [] [] [0] S O → b < (specL xs).length → b ∉ S → (∀ c, c < b → c ∈ S) → (specL xs)[b]? = some m → FlowOk xs (noFl 2 m.first)
  | two {x : MI} {S O : List Nat} {D : Nat → Nat → Bool} {b k t : Nat} {m : MB} : CodeGood xs → xs[xs.length - 1]? = some x → onB x = false → Vs (nx (specL xs)) [] [] [0] S O → (∀ c, c < (specL xs).length → c ∈ S) → (∀ d b, D d b = true ↔ Dom (nx (specL xs)) d b) → FirstBad (nx (specL xs)) (specL xs).length (Bad O D) b k t → (specL xs)[t]? = some m → FlowOk xs (noFl 3 m.first)
  | good {x : MI} {S O : List Nat} {D L : Nat → Nat → Bool} {I : Nat → Int} : CodeGood xs → xs[xs.length - 1]? = some x → onB x = false → Vs (nx (specL xs)) [] [] [0] S O → (∀ c, c < (specL xs).length → c ∈ S) → (∀ d b, D d b = true ↔ Dom (nx (specL xs)) d b) → (∀ b, b < (specL xs).length → ∀ t ∈ nx (specL xs) b, ¬ Bad O D b t) →
      (∀ b, b < (specL xs).length → (b = 0 ∧ I b = -1) ∨ b ≠ 0 ∧ ∃ c : Nat, c < (specL xs).length ∧ I b = (c : Int) ∧ IdomIs (nx (specL xs)) b c) → (∀ h y, L h y = true ↔ InLoop (nx (specL xs)) D (specL xs).length h y) →
      FlowOk xs ⟨0, 0, specL xs, ints O.reverse, (List.range (specL xs).length).map I, loopsTo (nx (specL xs)) D L (specL xs).length (specL xs).length⟩
theorem lds_pos {xs : List MI} (h : CodeGood xs) : 0 < (specL xs).length := by
  unfold specL
  rw [List.length_map, outL_length]
  exact List.length_pos_iff.2 (lds_ne xs _ h.1)
theorem placesL_lead {xs : List MI} (hg : CodeGood xs) {b e : Nat} {x : MI} {m : MB} (hb : (outL xs xs.length)[b]? = some m) (he : m.last = (e : Int)) (hx : xs[e]? = some x) {p : Int} (hp : p ∈ placesL xs x e) : p.toNat ∈ lds xs xs.length := by
  have hen : e < xs.length := (List.getElem?_eq_some_iff.1 hx).1
  rw [outL_build] at hb
  unfold placesL at hp
  rcases List.mem_append.1 hp with hp | hp
  · by_cases h : onB x = true ∧ e + 1 < xs.length
    · rw [if_pos h] at hp
      simp only [List.mem_cons, List.not_mem_nil, or_false] at hp
      subst hp
      rw [Int.toNat_natCast]
      exact end_lead _ _ _ _ _ hb he h.2
    · rw [if_neg h] at hp
      cases hp
  · by_cases h : goesB x = true ∧ ¬ (onB x = true ∧ e + 1 < xs.length ∧ x.c = ((e + 1 : Nat) : Int))
    · rw [if_pos h] at hp
      simp only [List.mem_cons, List.not_mem_nil, or_false] at hp
      subst hp
      obtain ⟨h1, h2⟩ := hg.2.2 e x hx h.1
      have h3 : (x.c.toNat : Int) = x.c := Int.toNat_of_nonneg h1
      exact (lds_mem _ _ _).2 ⟨by omega, leadB_of xs _ e _ x hen hx (by simp [leads, h.1, h3])⟩
    · rw [if_neg h] at hp
      cases hp
theorem build_last {L : List Nat} {n b : Nat} {m : MB} (hs : L.Pairwise (· < ·)) (hl : ∀ x ∈ L, x < n) (h : (build L n)[b]? = some m) : ∃ e : Nat, m.last = (e : Int) ∧ e < n := by
  unfold build at h
  rw [List.getElem?_zipWith] at h
  cases h1 : L[b]? with
  | none => rw [h1] at h; simp at h
  | some a =>
    cases h2 : (L.tail ++ [n])[b]? with
    | none => rw [h1, h2] at h; simp at h
    | some q =>
      rw [h1, h2] at h
      simp only [Option.some.injEq] at h
      subst h
      have ha := hl a (List.mem_of_getElem? h1)
      have hq : a < q ∧ q ≤ n := by
        by_cases hb : b < L.tail.length
        · rw [List.getElem?_append_left hb] at h2
          have hq := List.mem_of_mem_tail (List.mem_of_getElem? h2)
          refine ⟨?_, Nat.le_of_lt (hl q hq)⟩
          have h3 : L[b + 1]? = some q := by rw [← h2]; cases L <;> simp
          obtain ⟨i1, e1⟩ := List.getElem?_eq_some_iff.1 h1
          obtain ⟨i2, e2⟩ := List.getElem?_eq_some_iff.1 h3
          rw [← e1, ← e2]
          exact (List.pairwise_iff_getElem.1 hs) b (b + 1) i1 i2 (by omega)
        · rw [List.getElem?_append_right (by omega)] at h2
          have := List.mem_of_getElem? h2
          simp only [List.mem_cons, List.not_mem_nil, or_false] at this
          subst this
          exact ⟨ha, Nat.le_refl _⟩
      exact ⟨q - 1, by simp only []; omega, by omega⟩
theorem out_last {xs : List MI} {b : Nat} {m : MB} (h : (outL xs xs.length)[b]? = some m) : ∃ (e : Nat) (x : MI), m.last = (e : Int) ∧ xs[e]? = some x := by
  rw [outL_build] at h
  obtain ⟨e, h1, h2⟩ := build_last (lds_sorted _ _) (fun x hx => ((lds_mem _ _ _).1 hx).1) h
  exact ⟨e, _, h1, List.getElem?_eq_getElem h2⟩
/-- Blocks go to blocks. -/
theorem specL_next {xs : List MI} (hg : CodeGood xs) {b : Nat} {m : MB} (h : (specL xs)[b]? = some m) {z : Int} (hz : z ∈ m.next) : 0 ≤ z ∧ z < ((specL xs).length : Int) := by
  unfold specL at h ⊢
  rw [List.getElem?_map] at h
  obtain ⟨m0, h1, rfl⟩ := Option.map_eq_some_iff.1 h
  obtain ⟨e, x, he, hx⟩ := out_last h1
  have hB : (specB xs m0).next = nextS xs x e := by
    unfold specB
    rw [he, Int.toNat_natCast, List.getD_eq_getElem?_getD, hx]
    rfl
  rw [hB, next_same xs b e x m0 hg h1 he hx] at hz
  obtain ⟨p, hp, rfl⟩ := List.mem_map.1 hz
  have := List.idxOf_lt_length_iff.2 (placesL_lead hg h1 he hx hp)
  rw [List.length_map, outL_length]
  omega
theorem nx_of {bs : List MB} {b : Nat} {m : MB} (h : bs[b]? = some m) : nx bs b = m.next.map Int.toNat := by unfold nx; rw [h]
theorem nx_ints {xs : List MI} (hg : CodeGood xs) {b : Nat} {m : MB} (h : (specL xs)[b]? = some m) : m.next = ints (nx (specL xs) b) := by
  rw [nx_of h]
  unfold ints
  rw [List.map_map]
  symm
  rw [List.map_congr_left (g := id), List.map_id]
  intro z hz
  exact Int.toNat_of_nonneg (specL_next hg h hz).1
theorem nx_lt {xs : List MI} (hg : CodeGood xs) : ∀ b, b < (specL xs).length → ∀ x ∈ nx (specL xs) b, x < (specL xs).length := fun b hb x hx => by
  rw [nx_of (List.getElem?_eq_getElem hb)] at hx
  obtain ⟨z, hz, rfl⟩ := List.mem_map.1 hx
  have := specL_next hg (List.getElem?_eq_getElem hb) hz
  omega
theorem specL_le {xs : List MI} (hg : CodeGood xs) : (specL xs).length ≤ 1024 := by
  unfold specL
  rw [List.length_map, outL_length]
  have := List.length_filter_le (leadB xs xs.length) (List.range xs.length)
  have h2 := hg.2.1
  simp only [List.length_range] at this
  exact Nat.le_trans this h2
theorem nx_small (bs : List MB) (h : ∀ m ∈ bs, m.next.length ≤ 2) (b : Nat) : (nx bs b).length ≤ 2 := by
  unfold nx
  cases hb : bs[b]? with
  | none => simp
  | some m => simpa using h m (List.mem_of_getElem? hb)
theorem specL_two (xs : List MI) : ∀ m ∈ specL xs, m.next.length ≤ 2 := by
  intro f hf
  unfold specL at hf
  obtain ⟨m, _, rfl⟩ := List.mem_map.1 hf
  simp only [specB, nextS]
  split <;> split <;> simp
theorem FlowOk.one {xs : List MI} {r r' : MFl} (h : FlowOk xs r) (h' : FlowOk xs r') : r = r' := by
  have hD : ∀ {E : Nat → List Nat} {D D' : Nat → Nat → Bool}, (∀ d b, D d b = true ↔ Dom E d b) → (∀ d b, D' d b = true ↔ Dom E d b) → D = D' := fun h1 h2 => by
    funext d b
    rw [Bool.eq_iff_iff, h1, h2]
  cases h with
  | none g =>
    cases h' with
    | none _ => rfl
    | _ g' => exact absurd g' g
  | off g x1 o1 =>
    cases h' with
    | none g' => exact absurd g g'
    | off _ _ _ => rfl
    | lost _ x2 o2 | two _ x2 o2 | good _ x2 o2 =>
      rw [x1] at x2
      cases x2
      rw [o1] at o2
      cases o2
  | @lost _ _ _ b m g x1 o1 v1 b1 n1 l1 m1 =>
    cases h' with
    | none g' => exact absurd g g'
    | off _ x2 o2 =>
      rw [x1] at x2
      cases x2
      rw [o1] at o2
      cases o2
    | @lost _ _ _ b' m' _ x2 o2 v2 b2 n2 l2 m2 =>
      obtain ⟨rfl, rfl⟩ := v1.one v2
      have : b = b' := by
        rcases Nat.lt_trichotomy b b' with q | q | q
        · exact absurd (l2 _ q) n1
        · exact q
        · exact absurd (l1 _ q) n2
      subst this
      rw [m1] at m2
      cases m2
      rfl
    | two _ _ _ v2 s2 | good _ _ _ v2 s2 =>
      obtain ⟨rfl, rfl⟩ := v1.one v2
      exact absurd (s2 _ b1) n1
  | two g x1 o1 v1 s1 d1 f1 m1 =>
    cases h' with
    | none g' => exact absurd g g'
    | off _ x2 o2 =>
      rw [x1] at x2
      cases x2
      rw [o1] at o2
      cases o2
    | lost _ _ _ v2 b2 n2 =>
      obtain ⟨rfl, rfl⟩ := v1.one v2
      exact absurd (s1 _ b2) n2
    | two _ _ _ v2 _ d2 f2 m2 =>
      obtain ⟨rfl, rfl⟩ := v1.one v2
      obtain rfl := hD d1 d2
      obtain rfl := f1.one f2
      rw [m1] at m2
      cases m2
      rfl
    | good _ _ _ v2 _ d2 f2 =>
      obtain ⟨rfl, rfl⟩ := v1.one v2
      obtain rfl := hD d1 d2
      exact absurd f1.is (f2 _ f1.lt _ (List.mem_of_getElem? f1.at_))
  | good g x1 o1 v1 s1 d1 f1 i1 l1 =>
    cases h' with
    | none g' => exact absurd g g'
    | off _ x2 o2 =>
      rw [x1] at x2
      cases x2
      rw [o1] at o2
      cases o2
    | lost _ _ _ v2 b2 n2 =>
      obtain ⟨rfl, rfl⟩ := v1.one v2
      exact absurd (s1 _ b2) n2
    | two _ _ _ v2 _ d2 f2 m2 =>
      obtain ⟨rfl, rfl⟩ := v1.one v2
      obtain rfl := hD d1 d2
      exact absurd f2.is (f1 _ f2.lt _ (List.mem_of_getElem? f2.at_))
    | good _ _ _ v2 _ d2 f2 i2 l2 =>
      obtain ⟨rfl, rfl⟩ := v1.one v2
      obtain rfl := hD d1 d2
      have hL := fun h y => Bool.eq_iff_iff.2 ((l1 h y).trans (l2 h y).symm)
      obtain rfl := funext fun h => funext (hL h)
      obtain ⟨hP, _⟩ := order_place (lds_pos g) (nx_lt g) v1 s1
      congr 1
      apply List.map_congr_left
      intro b hb
      have hb := List.mem_range.1 hb
      rcases i1 b hb with ⟨e1, e2⟩ | ⟨e1, c, c1, c2, c3⟩
      · rcases i2 b hb with ⟨_, e4⟩ | ⟨e3, _⟩
        · rw [e2, e4]
        · exact absurd e1 e3
      · rcases i2 b hb with ⟨e3, _⟩ | ⟨e3, c', c1', c2', c3'⟩
        · exact absurd e3 e1
        · rw [c2, c2', c3.one hP c1 c1' c3']
end Go.Proofs.Ytdbaghmjomdmbaa
