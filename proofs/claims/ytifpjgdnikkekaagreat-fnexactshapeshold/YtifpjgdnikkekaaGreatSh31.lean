import Derived.Test.YtifpjgdnikkekaaGreatSh16
import Derived.Test.YtifpjgdnikkekaaGreatSh30
import Derived.Test.YtifpjgdnikkekaaGreatSh29
namespace Go.Proofs.YtifpjgdnikkekaaGreat
open Go.ChangeShapes Go.WideShapes Go.ChangeAt Go.RowKit
set_option linter.unusedVariables false
theorem own_lower {w : World} {base b : Nat} {e : TypeId} {k n : Nat} {v : Value} {xs : List Value} (h : w.ownsRow base e k v n xs) (hb : b ≤ base) : w.ownsRow b e k v n xs :=
  ⟨h.1, h.2.imp id fun ⟨g, cap, cur, e1, hb1, r⟩ => ⟨g, cap, cur, e1, Nat.le_trans hb hb1, r⟩⟩
theorem with_world {Q : Exit → Act → World → Prop} {a : Act} {U : World} (P : World → Prop) (h : P U) (k : ∀ u, P u → Q .normal a u) : Q .normal a U := k U h
theorem bcell_keep {W u : World} (hb : Below W.heap.size W u) {a : Addr} {x : Value} (h : W.cell? a = some x) : u.cell? a = some x := by rw [hb.cell (block_lt_of_cell h)]; exact h
/-- A block with its Next. -/
def specB (xs : List MI) (m : MB) : MB := ⟨m.first, m.last, nextS xs (xs.getD m.last.toNat ⟨0, 0, 0, 0⟩) m.last.toNat⟩
def specL (xs : List MI) : List MB := (outL xs xs.length).map (specB xs)
/-- The rows, in the third loop. -/
structure TW (w u : World) (xs : List MI) (n q : Nat) (V : Value) (D : List (MB × Value)) : Prop where
  num : u.ownsRow w.heap.size 2 1 (.slice (some ⟨q, 0, none⟩) n n) n ((List.range n).flatMap (numC xs))
  out : u.ownsRow w.heap.size 71 3 V (outL xs n).length (D.flatMap bCells ++ ((outL xs n).drop D.length).flatMap bc0)
  rows : ∀ x ∈ D, u.ownsRow w.heap.size 2 1 x.2 x.1.next.length (x.1.next.flatMap intCell)
  done : D.map Prod.fst = ((outL xs n).take D.length).map (specB xs)
  bel : Below w.heap.size w u
theorem TW.of {w u : World} {xs : List MI} {n q : Nat} {V : Value} (h : SW w u xs n n q V) : TW w u xs n q V [] := by
  refine ⟨?_, by simpa using h.out, fun x hx => (by cases hx), by simp, h.bel⟩
  have := h.num
  rw [flatTo_all _ _ _ _ (by simp)] at this
  exact this
/-- A list that is new since wr, beside the block of an instruction. -/
structure NW (wr U : World) (x : MI) (V : Value) (ns : List Int) : Prop where
  bel : Below wr.heap.size wr U
  xb : Blk U wr.heap.size #[.int .i64 x.op, .int .i64 x.a, .int .i64 x.b, .int .i64 x.c] 73
  row : U.ownsRow wr.heap.size 2 1 V ns.length (ns.flatMap intCell)
theorem NW.of (wr : World) (x : MI) : NW wr ((wr.alloc (.cells #[.int .i64 x.op, .int .i64 x.a, .int .i64 x.b, .int .i64 x.c] 73)).alloc (.cells #[] 2)) x (.slice (some ⟨wr.heap.size + 1, 0, none⟩) 0 0) [] := by
  have b1 := below_alloc wr (.cells #[.int .i64 x.op, .int .i64 x.a, .int .i64 x.b, .int .i64 x.c] 73)
  have k1 := Blk.new wr #[.int .i64 x.op, .int .i64 x.a, .int .i64 x.b, .int .i64 x.c] 73
  have z1 : (wr.alloc (.cells #[.int .i64 x.op, .int .i64 x.a, .int .i64 x.b, .int .i64 x.c] 73)).heap.size = wr.heap.size + 1 := by simp
  generalize wr.alloc (.cells #[.int .i64 x.op, .int .i64 x.a, .int .i64 x.b, .int .i64 x.c] 73) = Wx at b1 k1 z1 ⊢
  have b2 := below_alloc Wx (.cells #[] 2)
  have k2 := Blk.new Wx #[] 2
  rw [z1] at k2
  exact ⟨below_on b1 (Nat.le_refl _) b2, k1.keep b2, ⟨rfl, .inr ⟨wr.heap.size + 1, 0, #[], rfl, Nat.le_succ _, k2, Nat.le_refl _, Nat.zero_le _, rfl, rfl⟩⟩⟩
theorem NW.drew {wr U : World} {x : MI} {V : Value} {ns : List Int} (h : NW wr U x V ns) (k : Nat) : NW wr (U.drewN k) x V ns := ⟨⟨h.bel.os, h.bel.tape, h.bel.output, h.bel.size, h.bel.block⟩, h.xb, ⟨h.row.1, h.row.2⟩⟩
theorem NW.app {wr U u' : World} {x : MI} {V V' : Value} {ns : List Int} {z : Int} {m : Nat} (h : NW wr U x V ns) (hown : u'.ownsRow wr.heap.size 2 1 V' m (ns.flatMap intCell ++ [.int .i64 z])) (hm : m = ns.length + 1) (hg : (U.alloc (.cells #[.int .i64 z] 2)).grownBy u' V.ownBlock) : NW wr u' x V' (ns ++ [z]) := by
  have bA := below_alloc U (.cells #[.int .i64 z] 2)
  refine ⟨(below_on h.bel (Nat.le_refl _) bA).grown hg (Nat.le_trans h.bel.size bA.size) (fun i hi => (h.row.lt i hi).1), (h.xb.keep bA).grown hg (own_keep h.row bA (Nat.le_refl _)) (by decide), ?_⟩
  rw [List.length_append, List.length_singleton, ← hm, List.flatMap_append]
  exact hown
theorem one_cell (U : World) (z : Int) : ∀ j u, [(.int .i64 z : Value)][j]? = some u → (U.alloc (.cells #[.int .i64 z] 2)).cell? ((⟨U.heap.size, 0, none⟩ : Addr).add j) = some u := fun j u hj => by
  rw [add_at, Nat.zero_add, (Blk.new U #[.int .i64 z] 2).cell j]
  simpa using hj
theorem NW.al {wr U : World} {x : MI} {V : Value} {ns : List Int} (h : NW wr U x V ns) (o : Obj) : (U.alloc o).ownsRow wr.heap.size 2 1 V ns.length (ns.flatMap intCell) ∧ wr.heap.size ≤ (U.alloc o).heap.size := ⟨own_keep h.row (below_alloc _ _) (Nat.le_refl _), Nat.le_trans h.bel.size (below_alloc _ _).size⟩
theorem TW.next {w wr U : World} {xs : List MI} {n q gv len cap : Nat} {D : List (MB × Value)} {m : MB} {e : Nat} {x : MI} {Vn : Value} {ns : List Int} (h : TW w wr xs n q (.slice (some ⟨gv, 0, none⟩) len cap) D) (hl : len = (outL xs n).length) (hm : (outL xs n)[D.length]? = some m) (he : m.last = (e : Int)) (hx : xs[e]? = some x) (hn : NW wr U x Vn ns) (hns : ns = nextS xs x e) : TW w (U.setCell ⟨gv, D.length * 3 + 2, none⟩ Vn) xs n q (.slice (some ⟨gv, 0, none⟩) len cap) (D ++ [(specB xs m, Vn)]) := by
  subst hl
  have hb : Below wr.heap.size wr U := hn.bel
  have hout := own_keep h.out hb (Nat.le_refl _)
  obtain ⟨hlt, hmm⟩ := List.getElem?_eq_some_iff.1 hm
  have hB : specB xs m = ⟨m.first, m.last, ns⟩ := by
    unfold specB
    rw [he, hns, Int.toNat_natCast, List.getD_eq_getElem?_getD, hx]
    rfl
  have hnr := own_lower hn.row (b := w.heap.size) h.bel.size
  refine ⟨own_set_ne (own_keep h.num hb (Nat.le_refl _)) hout (by decide) _ _, ?_, ?_, ?_, (below_on h.bel (Nat.le_refl _) hb).setCell (own_blk hout).1 _⟩
  · have k1 := (hout.stored (D.length * 3 + 2) Vn).1
    have e1 : (D.flatMap bCells ++ ((outL xs n).drop D.length).flatMap bc0).set (D.length * 3 + 2) Vn = (D ++ [(specB xs m, Vn)]).flatMap bCells ++ ((outL xs n).drop (D ++ [(specB xs m, Vn)]).length).flatMap bc0 := by
      rw [List.drop_eq_getElem_cons hlt, hmm, List.flatMap_cons, List.set_append_right _ _ (by rw [flat_length bCells 3 bCells_length]; omega), flat_length bCells 3 bCells_length, hB]
      simp [bc0, bCells, List.length_append]
    rw [e1] at k1
    exact k1
  · intro y hy
    rcases List.mem_append.1 hy with hy | hy
    · exact own_set_ne (own_keep (h.rows y hy) hb (Nat.le_refl _)) hout (by decide) _ _
    · simp only [List.mem_cons, List.not_mem_nil, or_false] at hy
      subst hy
      simp only [hB]
      exact own_set_ne hnr hout (by decide) _ _
  · rw [List.map_append, h.done, List.length_append, List.length_singleton, List.take_succ_eq_append_getElem hlt, hmm]
    simp
theorem TW.rd {w u : World} {xs : List MI} {n q : Nat} {V : Value} {D : List (MB × Value)} (h : TW w u xs n q V D) (hn : xs.length = n) (hl : D.length = (outL xs n).length) : RdBs u V (specL xs) := by
  have e1 : D.map Prod.fst = specL xs := by
    rw [h.done, hl, List.take_of_length_le (Nat.le_refl _)]
    unfold specL
    rw [hn]
  have e2 : (specL xs).length = (outL xs n).length := by unfold specL; rw [List.length_map, hn]
  refine ⟨D, e1, ?_, fun x hx => Rd.of_own (h.rows x hx)⟩
  have := Rd.of_own h.out
  rw [hl, List.drop_of_length_le (Nat.le_refl _)] at this
  rw [e2]
  simpa using this
end Go.Proofs.YtifpjgdnikkekaaGreat
namespace Go.Proofs.YtifpjgdnikkekaaGreat
open Go.ChangeShapes Go.WideShapes Go.ChangeAt Go.RowKit
set_option linter.unusedVariables false
structure ML where
  head : Int
  back : List Int
  blocks : List Int
structure MFl where
  code : Int
  at_ : Int
  blocks : List MB
  order : List Int
  idom : List Int
  loops : List ML
def ints (l : List Nat) : List Int := l.map fun (x : Nat) => (x : Int)
theorem ints_length (l : List Nat) : (ints l).length = l.length := by simp [ints]
/-- Where one goes from a block. -/
def nx (bs : List MB) (b : Nat) : List Nat := match bs[b]? with | some m => m.next.map Int.toNat | none => []
def noFl (c a : Int) : MFl := ⟨c, a, [], [], [], []⟩
def loopsTo (E : Nat → List Nat) (D L : Nat → Nat → Bool) (n j : Nat) : List ML := (List.range j).filterMap fun h => if backL E D n h = [] then none else some ⟨(h : Int), ints (backL E D n h), ints ((List.range n).filter (L h))⟩
inductive FlowOk (xs : List MI) : MFl → Prop
  | none : ¬ CodeGood xs → FlowOk xs (noFl 4 0)
  | off {x : MI} : CodeGood xs → xs[xs.length - 1]? = some x → onB x = true → FlowOk xs (noFl 1 ((xs.length : Int) - 1))
  | lost {x : MI} {S O : List Nat} {b : Nat} {m : MB} : CodeGood xs → xs[xs.length - 1]? = some x → onB x = false → Vs (nx (specL xs)) [] [] [0] S O → b < (specL xs).length → b ∉ S → (∀ c, c < b → c ∈ S) → (specL xs)[b]? = some m → FlowOk xs (noFl 2 m.first)
  | two {x : MI} {S O : List Nat} {D : Nat → Nat → Bool} {b k t : Nat} {m : MB} : CodeGood xs → xs[xs.length - 1]? = some x → onB x = false → Vs (nx (specL xs)) [] [] [0] S O → (∀ c, c < (specL xs).length → c ∈ S) → (∀ d b, D d b = true ↔ Dom (nx (specL xs)) d b) → FirstBad (nx (specL xs)) (specL xs).length (Bad O D) b k t → (specL xs)[t]? = some m → FlowOk xs (noFl 3 m.first)
  | good {x : MI} {S O : List Nat} {D L : Nat → Nat → Bool} {I : Nat → Int} : CodeGood xs → xs[xs.length - 1]? = some x → onB x = false → Vs (nx (specL xs)) [] [] [0] S O → (∀ c, c < (specL xs).length → c ∈ S) → (∀ d b, D d b = true ↔ Dom (nx (specL xs)) d b) → (∀ b, b < (specL xs).length → ∀ t ∈ nx (specL xs) b, ¬ Bad O D b t) →
      (∀ b, b < (specL xs).length → (b = 0 ∧ I b = -1) ∨ b ≠ 0 ∧ ∃ c : Nat, c < (specL xs).length ∧ I b = (c : Int) ∧ IdomIs (nx (specL xs)) b c) → (∀ h y, L h y = true ↔ InLoop (nx (specL xs)) D (specL xs).length h y) →
      FlowOk xs ⟨0, 0, specL xs, ints O.reverse, (List.range (specL xs).length).map I, loopsTo (nx (specL xs)) D L (specL xs).length (specL xs).length⟩
theorem lds_pos {xs : List MI} (h : CodeGood xs) : 0 < (specL xs).length := by
  unfold specL
  rw [List.length_map, outL_length]
  exact List.length_pos_iff.2 (lds_ne xs _ h.1)
theorem placesL_lead {xs : List MI} (hg : CodeGood xs) {b e : Nat} {x : MI} {m : MB} (hb : (outL xs xs.length)[b]? = some m) (he : m.last = (e : Int)) (hx : xs[e]? = some x) {p : Int} (hp : p ∈ placesL xs x e) : p.toNat ∈ lds xs xs.length := by
  have hen : e < xs.length := (List.getElem?_eq_some_iff.1 hx).1
  rw [outL_build] at hb
  unfold placesL at hp
  rcases List.mem_append.1 hp with hp | hp
  · by_cases h : onB x = true ∧ e + 1 < xs.length
    · rw [if_pos h] at hp
      simp only [List.mem_cons, List.not_mem_nil, or_false] at hp
      subst hp
      rw [Int.toNat_natCast]
      exact end_lead _ _ _ _ _ hb he h.2
    · rw [if_neg h] at hp
      cases hp
  · by_cases h : goesB x = true ∧ ¬ (onB x = true ∧ e + 1 < xs.length ∧ x.c = ((e + 1 : Nat) : Int))
    · rw [if_pos h] at hp
      simp only [List.mem_cons, List.not_mem_nil, or_false] at hp
      subst hp
      obtain ⟨h1, h2⟩ := hg.2.2 e x hx h.1
      have h3 : (x.c.toNat : Int) = x.c := Int.toNat_of_nonneg h1
      exact (lds_mem _ _ _).2 ⟨by omega, leadB_of xs _ e _ x hen hx (by simp [leads, h.1, h3])⟩
    · rw [if_neg h] at hp
      cases hp
theorem build_last {L : List Nat} {n b : Nat} {m : MB} (hs : L.Pairwise (· < ·)) (hl : ∀ x ∈ L, x < n) (h : (build L n)[b]? = some m) : ∃ e : Nat, m.last = (e : Int) ∧ e < n := by
  unfold build at h
  rw [List.getElem?_zipWith] at h
  cases h1 : L[b]? with
  | none => rw [h1] at h; simp at h
  | some a =>
    cases h2 : (L.tail ++ [n])[b]? with
    | none => rw [h1, h2] at h; simp at h
    | some q =>
      rw [h1, h2] at h
      simp only [Option.some.injEq] at h
      subst h
      have ha := hl a (List.mem_of_getElem? h1)
      have hq : a < q ∧ q ≤ n := by
        by_cases hb : b < L.tail.length
        · rw [List.getElem?_append_left hb] at h2
          have hq := List.mem_of_mem_tail (List.mem_of_getElem? h2)
          refine ⟨?_, Nat.le_of_lt (hl q hq)⟩
          have h3 : L[b + 1]? = some q := by rw [← h2]; cases L <;> simp
          obtain ⟨i1, e1⟩ := List.getElem?_eq_some_iff.1 h1
          obtain ⟨i2, e2⟩ := List.getElem?_eq_some_iff.1 h3
          rw [← e1, ← e2]
          exact (List.pairwise_iff_getElem.1 hs) b (b + 1) i1 i2 (by omega)
        · rw [List.getElem?_append_right (by omega)] at h2
          have := List.mem_of_getElem? h2
          simp only [List.mem_cons, List.not_mem_nil, or_false] at this
          subst this
          exact ⟨ha, Nat.le_refl _⟩
      exact ⟨q - 1, by simp only []; omega, by omega⟩
theorem out_last {xs : List MI} {b : Nat} {m : MB} (h : (outL xs xs.length)[b]? = some m) : ∃ (e : Nat) (x : MI), m.last = (e : Int) ∧ xs[e]? = some x := by
  rw [outL_build] at h
  obtain ⟨e, h1, h2⟩ := build_last (lds_sorted _ _) (fun x hx => ((lds_mem _ _ _).1 hx).1) h
  exact ⟨e, _, h1, List.getElem?_eq_getElem h2⟩
/-- Blocks go to blocks. -/
theorem specL_next {xs : List MI} (hg : CodeGood xs) {b : Nat} {m : MB} (h : (specL xs)[b]? = some m) {z : Int} (hz : z ∈ m.next) : 0 ≤ z ∧ z < ((specL xs).length : Int) := by
  unfold specL at h ⊢
  rw [List.getElem?_map] at h
  obtain ⟨m0, h1, rfl⟩ := Option.map_eq_some_iff.1 h
  obtain ⟨e, x, he, hx⟩ := out_last h1
  have hB : (specB xs m0).next = nextS xs x e := by
    unfold specB
    rw [he, Int.toNat_natCast, List.getD_eq_getElem?_getD, hx]
    rfl
  rw [hB, next_same xs b e x m0 hg h1 he hx] at hz
  obtain ⟨p, hp, rfl⟩ := List.mem_map.1 hz
  have := List.idxOf_lt_length_iff.2 (placesL_lead hg h1 he hx hp)
  rw [List.length_map, outL_length]
  omega
theorem nx_of {bs : List MB} {b : Nat} {m : MB} (h : bs[b]? = some m) : nx bs b = m.next.map Int.toNat := by unfold nx; rw [h]
theorem nx_ints {xs : List MI} (hg : CodeGood xs) {b : Nat} {m : MB} (h : (specL xs)[b]? = some m) : m.next = ints (nx (specL xs) b) := by
  rw [nx_of h]
  unfold ints
  rw [List.map_map]
  symm
  rw [List.map_congr_left (g := id), List.map_id]
  intro z hz
  exact Int.toNat_of_nonneg (specL_next hg h hz).1
theorem nx_lt {xs : List MI} (hg : CodeGood xs) : ∀ b, b < (specL xs).length → ∀ x ∈ nx (specL xs) b, x < (specL xs).length := fun b hb x hx => by
  rw [nx_of (List.getElem?_eq_getElem hb)] at hx
  obtain ⟨z, hz, rfl⟩ := List.mem_map.1 hx
  have := specL_next hg (List.getElem?_eq_getElem hb) hz
  omega
theorem specL_le {xs : List MI} (hg : CodeGood xs) : (specL xs).length ≤ 1024 := by
  unfold specL
  rw [List.length_map, outL_length]
  have := List.length_filter_le (leadB xs xs.length) (List.range xs.length)
  have h2 := hg.2.1
  simp only [List.length_range] at this
  exact Nat.le_trans this h2
theorem nx_small (bs : List MB) (h : ∀ m ∈ bs, m.next.length ≤ 2) (b : Nat) : (nx bs b).length ≤ 2 := by
  unfold nx
  cases hb : bs[b]? with
  | none => simp
  | some m => simpa using h m (List.mem_of_getElem? hb)
theorem specL_two (xs : List MI) : ∀ m ∈ specL xs, m.next.length ≤ 2 := by
  intro f hf
  unfold specL at hf
  obtain ⟨m, _, rfl⟩ := List.mem_map.1 hf
  simp only [specB, nextS]
  split <;> split <;> simp
theorem FlowOk.one {xs : List MI} {r r' : MFl} (h : FlowOk xs r) (h' : FlowOk xs r') : r = r' := by
  have hD : ∀ {E : Nat → List Nat} {D D' : Nat → Nat → Bool}, (∀ d b, D d b = true ↔ Dom E d b) → (∀ d b, D' d b = true ↔ Dom E d b) → D = D' := fun h1 h2 => by
    funext d b
    rw [Bool.eq_iff_iff, h1, h2]
  cases h with
  | none g =>
    cases h' with
    | none _ => rfl
    | _ g' => exact absurd g' g
  | off g x1 o1 =>
    cases h' with
    | none g' => exact absurd g g'
    | off _ _ _ => rfl
    | lost _ x2 o2 | two _ x2 o2 | good _ x2 o2 =>
      rw [x1] at x2
      cases x2
      rw [o1] at o2
      cases o2
  | @lost _ _ _ b m g x1 o1 v1 b1 n1 l1 m1 =>
    cases h' with
    | none g' => exact absurd g g'
    | off _ x2 o2 =>
      rw [x1] at x2
      cases x2
      rw [o1] at o2
      cases o2
    | @lost _ _ _ b' m' _ x2 o2 v2 b2 n2 l2 m2 =>
      obtain ⟨rfl, rfl⟩ := v1.one v2
      have : b = b' := by
        rcases Nat.lt_trichotomy b b' with q | q | q
        · exact absurd (l2 _ q) n1
        · exact q
        · exact absurd (l1 _ q) n2
      subst this
      rw [m1] at m2
      cases m2
      rfl
    | two _ _ _ v2 s2 | good _ _ _ v2 s2 =>
      obtain ⟨rfl, rfl⟩ := v1.one v2
      exact absurd (s2 _ b1) n1
  | two g x1 o1 v1 s1 d1 f1 m1 =>
    cases h' with
    | none g' => exact absurd g g'
    | off _ x2 o2 =>
      rw [x1] at x2
      cases x2
      rw [o1] at o2
      cases o2
    | lost _ _ _ v2 b2 n2 =>
      obtain ⟨rfl, rfl⟩ := v1.one v2
      exact absurd (s1 _ b2) n2
    | two _ _ _ v2 _ d2 f2 m2 =>
      obtain ⟨rfl, rfl⟩ := v1.one v2
      obtain rfl := hD d1 d2
      obtain rfl := f1.one f2
      rw [m1] at m2
      cases m2
      rfl
    | good _ _ _ v2 _ d2 f2 =>
      obtain ⟨rfl, rfl⟩ := v1.one v2
      obtain rfl := hD d1 d2
      exact absurd f1.is (f2 _ f1.lt _ (List.mem_of_getElem? f1.at_))
  | good g x1 o1 v1 s1 d1 f1 i1 l1 =>
    cases h' with
    | none g' => exact absurd g g'
    | off _ x2 o2 =>
      rw [x1] at x2
      cases x2
      rw [o1] at o2
      cases o2
    | lost _ _ _ v2 b2 n2 =>
      obtain ⟨rfl, rfl⟩ := v1.one v2
      exact absurd (s1 _ b2) n2
    | two _ _ _ v2 _ d2 f2 m2 =>
      obtain ⟨rfl, rfl⟩ := v1.one v2
      obtain rfl := hD d1 d2
      exact absurd f2.is (f1 _ f2.lt _ (List.mem_of_getElem? f2.at_))
    | good _ _ _ v2 _ d2 f2 i2 l2 =>
      obtain ⟨rfl, rfl⟩ := v1.one v2
      obtain rfl := hD d1 d2
      have hL := fun h y => Bool.eq_iff_iff.2 ((l1 h y).trans (l2 h y).symm)
      obtain rfl := funext fun h => funext (hL h)
      obtain ⟨hP, _⟩ := order_place (lds_pos g) (nx_lt g) v1 s1
      congr 1
      apply List.map_congr_left
      intro b hb
      have hb := List.mem_range.1 hb
      rcases i1 b hb with ⟨e1, e2⟩ | ⟨e1, c, c1, c2, c3⟩
      · rcases i2 b hb with ⟨_, e4⟩ | ⟨e3, _⟩
        · rw [e2, e4]
        · exact absurd e1 e3
      · rcases i2 b hb with ⟨e3, _⟩ | ⟨e3, c', c1', c2', c3'⟩
        · exact absurd e3 e1
        · rw [c2, c2', c3.one hP c1 c1' c3']
end Go.Proofs.YtifpjgdnikkekaaGreat
namespace Go.Proofs.YtifpjgdnikkekaaGreat
open Go.ChangeShapes Go.WideShapes Go.ChangeAt Go.RowKit
set_option linter.unusedVariables false
def nv (l : List Nat) : List Value := l.map fun (k : Nat) => Value.int .i64 (k : Int)
theorem nv_length (l : List Nat) : (nv l).length = l.length := by simp [nv]
theorem nv_app (l m : List Nat) : nv (l ++ m) = nv l ++ nv m := by simp [nv]
theorem nv_flat (l : List Nat) : nv l = (ints l).flatMap intCell := by
  induction l with
  | nil => rfl
  | cons x r ih =>
    simp only [nv, ints, List.map_cons, List.flatMap_cons] at ih ⊢
    rw [ih]
    rfl
theorem nv_at {l : List Nat} {k x : Nat} (h : l[k]? = some x) : (nv l)[k]? = some (.int .i64 (x : Int)) := by simp [nv, h]
def RdN (w : World) (s : Value) (l : List Nat) : Prop := Rd w 1 s l.length (nv l)
def OwN (w : World) (base : Nat) (s : Value) (l : List Nat) : Prop := w.ownsRow base 2 1 s l.length (nv l)
theorem OwN.rd {w : World} {base : Nat} {s : Value} {l : List Nat} (h : OwN w base s l) : RdN w s l := Rd.of_own h
theorem OwN.keep {w w' : World} {base : Nat} {s : Value} {l : List Nat} (h : OwN w base s l) (hb : Below w.heap.size w w') : OwN w' base s l := own_keep h hb (Nat.le_refl _)
theorem RdN.keep {w w' : World} {s : Value} {l : List Nat} (h : RdN w s l) (hb : Below w.heap.size w w') : RdN w' s l := Rd.keep h hb (Nat.le_refl _)
/-- An element of a row that is read. -/
theorem RdN.at_ {w : World} {a : Option Addr} {n c : Nat} {l : List Nat} (h : RdN w (.slice a n c) l) {k x : Nat} (hk : l[k]? = some x) : ∃ g o, a = some ⟨g, o, none⟩ ∧ n = l.length ∧ w.cell? ⟨g, o + k, none⟩ = some (.int .i64 (x : Int)) := by
  rcases h.2 with ⟨e0, _⟩ | ⟨g, o, c', e1, hc⟩
  · have := (List.getElem?_eq_some_iff.1 hk).1
    omega
  · simp only [Value.slice.injEq] at e1
    obtain ⟨rfl, rfl, rfl⟩ := e1
    exact ⟨g, o, rfl, rfl, hc k _ (nv_at hk)⟩
/-- All elements at once. -/
theorem RdN.all {w : World} {a : Option Addr} {n c : Nat} {l : List Nat} (h : RdN w (.slice a n c) l) (hl : 0 < l.length) : ∃ g o, a = some ⟨g, o, none⟩ ∧ n = l.length ∧ ∀ k x : Nat, l[k]? = some x → w.cell? ⟨g, o + k, none⟩ = some (.int .i64 (x : Int)) := by
  rcases h.2 with ⟨e0, _⟩ | ⟨g, o, c', e1, hc⟩
  · omega
  · simp only [Value.slice.injEq] at e1
    obtain ⟨rfl, rfl, rfl⟩ := e1
    exact ⟨g, o, rfl, rfl, fun k x hk => hc k _ (nv_at hk)⟩
def bv (P : Nat → Bool) (n : Nat) : List Value := (List.range n).map fun i => Value.bool (P i)
theorem bv_length (P : Nat → Bool) (n : Nat) : (bv P n).length = n := by simp [bv]
theorem bv_at (P : Nat → Bool) (n i : Nat) (h : i < n) : (bv P n)[i]? = some (.bool (P i)) := by simp [bv, h]
theorem bv_congr {P Q : Nat → Bool} {n : Nat} (h : ∀ i, i < n → P i = Q i) : bv P n = bv Q n := by
  unfold bv
  apply List.map_congr_left
  intro i hi
  rw [h i (List.mem_range.1 hi)]
theorem bv_set {P Q : Nat → Bool} {n i : Nat} {b : Bool} (h : ∀ j, j < n → Q j = if j = i then b else P j) : (bv P n).set i (.bool b) = bv Q n := by
  apply List.ext_getElem?
  intro j
  by_cases hj : j < n
  · rw [bv_at _ _ _ hj, h j hj]
    by_cases e : j = i
    · subst e
      rw [List.getElem?_set_self (by rw [bv_length]; exact hj), if_pos rfl]
    · rw [List.getElem?_set_ne (by omega), bv_at _ _ _ hj, if_neg e]
  · rw [List.getElem?_eq_none (by simp [bv_length]; omega), List.getElem?_eq_none (by rw [bv_length]; omega)]
theorem bv_zero (n : Nat) : List.replicate n (Value.bool false) = bv (fun _ => false) n := by
  apply List.ext_getElem?
  intro j
  by_cases hj : j < n
  · rw [bv_at _ _ _ hj]
    simp [hj]
  · rw [List.getElem?_eq_none (by simp; omega), List.getElem?_eq_none (by rw [bv_length]; omega)]
def OwB (w : World) (base g n : Nat) (P : Nat → Bool) : Prop := w.ownsRow base 4 1 (.slice (some ⟨g, 0, none⟩) n n) n (bv P n)
theorem OwB.keep {w w' : World} {base g n : Nat} {P : Nat → Bool} (h : OwB w base g n P) (hb : Below w.heap.size w w') : OwB w' base g n P := own_keep h hb (Nat.le_refl _)
theorem OwB.cell {w : World} {base g n : Nat} {P : Nat → Bool} (h : OwB w base g n P) {i : Nat} (hi : i < n) : w.cell? ⟨g, i, none⟩ = some (.bool (P i)) := by
  have := World.ownsRow.cellAt h i (by omega)
  rw [bv_at _ _ _ hi] at this
  exact this
theorem OwB.frozen {w : World} {base g n : Nat} {P : Nat → Bool} (h : OwB w base g n P) (i : Nat) : w.frozen? ⟨g, i, none⟩ = false := World.ownsRow.frozenAt h i
theorem OwB.set {w : World} {base g n : Nat} {P Q : Nat → Bool} (h : OwB w base g n P) (i : Nat) (b : Bool) (hQ : ∀ j, j < n → Q j = if j = i then b else P j) : OwB (w.setCell ⟨g, i, none⟩ (.bool b)) base g n Q := by
  have := (World.ownsRow.stored h i (.bool b)).1
  rw [bv_set hQ] at this
  exact this
/-- Blocks as a graph. -/
def GrAt (w : World) (g o n : Nat) (E : Nat → List Nat) : Prop := ∀ b, b < n → ∃ a c, w.cell? ⟨g, o + b * 3 + 2, none⟩ = some (.slice a (E b).length c) ∧ RdN w (.slice a (E b).length c) (E b)
theorem GrAt.keep {w w' : World} {g o n : Nat} {E : Nat → List Nat} (h : GrAt w g o n E) (hb : Below w.heap.size w w') : GrAt w' g o n E := fun b hb' => by
  obtain ⟨a, c, h1, h2⟩ := h b hb'
  exact ⟨a, c, bcell_keep hb h1, h2.keep hb⟩
theorem RdBs.graph {w : World} {V : Value} {xs : List MI} (hg : CodeGood xs) (h : RdBs w V (specL xs)) : ∃ g o c, V = .slice (some ⟨g, o, none⟩) (specL xs).length c ∧ GrAt w g o (specL xs).length (nx (specL xs)) ∧ ∀ b m, (specL xs)[b]? = some m → w.cell? ⟨g, o + b * 3, none⟩ = some (.int .i64 m.first) := by
  obtain ⟨ys, h1, h2, h3⟩ := h
  have hp := lds_pos hg
  rcases h2.2 with ⟨e0, _⟩ | ⟨g, o, c, e1, hc⟩
  · omega
  · have hyb : ∀ b m, (specL xs)[b]? = some m → ∃ v, ys[b]? = some (m, v) := fun b m hm => by
      rw [← h1, List.getElem?_map] at hm
      obtain ⟨⟨m', v⟩, q1, q2⟩ := Option.map_eq_some_iff.1 hm
      simp only [] at q2
      subst q2
      exact ⟨v, q1⟩
    refine ⟨g, o, c, e1, fun b hb => ?_, fun b m hm => ?_⟩
    · obtain ⟨v, hv⟩ := hyb b _ (List.getElem?_eq_getElem hb)
      have r := h3 _ (List.mem_of_getElem? hv)
      have e := nx_ints hg (List.getElem?_eq_getElem hb)
      have r' : RdN w v (nx (specL xs) b) := by
        unfold RdN
        rw [nv_flat]
        unfold RdB at r
        simp only [e] at r
        rw [ints_length] at r
        exact r
      obtain ⟨a, cc, ev⟩ := Rd.is_slice r'
      subst ev
      exact ⟨a, cc, Rd.elem bCells_length hc b _ hv 2 _ rfl, r'⟩
    · obtain ⟨v, hv⟩ := hyb b m hm
      have := Rd.elem bCells_length hc b _ hv 0 _ rfl
      rw [Nat.add_zero] at this
      exact this
theorem own_two {w w' : World} {base B : Nat} {s v : Value} {m : Nat} {g n : Nat} {P : Nat → Bool} {bs : List Value} (h : OwB w base g n P) (hg : w.grownBy w' v.ownBlock) (ho : w.ownsRow B 2 1 v m bs) : OwB w' base g n P := own_grown h hg ho (by decide)
end Go.Proofs.YtifpjgdnikkekaaGreat
