import Derived.Test.YtdbaghmjomdmbaaFo42
import Derived.Test.YtdbaghmjomdmbaaFo36
import Derived.Test.YtdbaghmjomdmbaaFo43
import Derived.Test.YtdbaghmjomdmbaaFo31
import Derived.Test.YtdbaghmjomdmbaaFo32
import Derived.Test.YtdbaghmjomdmbaaFo33
import Derived.Test.YtdbaghmjomdmbaaFo34
import Derived.Test.YtdbaghmjomdmbaaFo37
namespace Go.Proofs.Ytdbaghmjomdmbaa
open Go.ChangeShapes Go.WideShapes Go.ChangeAt Go.RowKit
set_option linter.unusedVariables false
/-- The blocks of code, or none. -/
def BlkIs (xs : List MI) (bs : List MB) : Prop := (¬ CodeGood xs ∧ bs = []) ∨ CodeGood xs ∧ bs = specL xs
theorem BlkIs.one {xs : List MI} {bs bs' : List MB} (h : BlkIs xs bs) (h' : BlkIs xs bs') : bs = bs' := by
  rcases h with ⟨h1, rfl⟩ | ⟨h1, rfl⟩ <;> rcases h' with ⟨h2, rfl⟩ | ⟨h2, rfl⟩
  · rfl
  · exact absurd h2 h1
  · exact absurd h1 h2
  · rfl
theorem BlkIs.small {xs : List MI} {bs : List MB} (h : BlkIs xs bs) : bs.length ≤ 1048576 ∧ ∀ f ∈ bs, f.small := by
  rcases h with ⟨h1, rfl⟩ | ⟨h1, rfl⟩
  · exact ⟨by simp, fun f hf => (by cases hf)⟩
  · refine ⟨?_, ?_⟩
    · unfold specL
      rw [List.length_map, outL_length]
      have := List.length_filter_le (leadB xs xs.length) (List.range xs.length)
      have h2 := h1.2.1
      simp only [List.length_range] at this
      exact Nat.le_trans this (by omega)
    · intro f hf
      unfold specL at hf
      obtain ⟨m, _, rfl⟩ := List.mem_map.1 hf
      show (specB xs m).next.length ≤ 1048576
      simp only [specB, nextS]
      split <;> split <;> simp
theorem OwnBE.rd {w : World} {base : Nat} {V : Value} {F : List (MB × Value)} (h : OwnBE w base V F) : RdBs w V (F.map Prod.fst) := by
  refine ⟨F, rfl, ?_, fun x hx => Rd.of_own (h.fam.own (x.2, x.1.next) (by unfold nrows; exact List.mem_map_of_mem (f := fun x => (x.2, x.1.next)) hx))⟩
  rw [List.length_map]
  exact Rd.of_own h.row
theorem OwnBE.keep {w w' : World} {base : Nat} {V : Value} {F : List (MB × Value)} (h : OwnBE w base V F) (hb : Below w.heap.size w w') : OwnBE w' base V F := ⟨own_keep h.row hb (Nat.le_refl _), h.fam.keep hb⟩
theorem OwnBE.marks {w w' : World} {base lo hi : Nat} {V : Value} {F : List (MB × Value)} (h : OwnBE w base V F) (mg : Marks lo hi w w') (hb : hi ≤ base) : OwnBE w' base V F := by
  have g := MarksG.of (Below.refl w.heap.size w) (Nat.le_refl _) mg
  exact ⟨g.own h.row hb, ⟨fun r hr => g.own (h.fam.own r hr) hb, h.fam.sep⟩⟩
theorem OwnBE.held {w : World} {base : Nat} {V : Value} {F : List (MB × Value)} (h1 : w.ownsRow base 46 3 V F.length ((markBs 1 F).flatMap bCells)) (h2 : Fam w base (nrows (markBs 1 F))) : Rd w 3 V F.length ((markBs 1 F).flatMap bCells) ∧ ∀ x ∈ nrows (markBs 1 F), Rd w 1 x.1 x.2.length (x.2.flatMap intCell) := ⟨Rd.of_own h1, fun x hx => Rd.of_own (h2.own x hx)⟩
end Go.Proofs.Ytdbaghmjomdmbaa
namespace Go.Proofs.Ytdbaghmjomdmbaa
open Go.ChangeShapes Go.WideShapes Go.ChangeAt Go.RowKit
set_option linter.unusedVariables false
structure OwFl (w : World) (base : Nat) (vb vo vi vl : Value) (F : List (MB × Value)) (ys : List (ML × Value × Value)) (r : MFl) : Prop where
  brow : w.ownsRow base 46 3 vb F.length (F.flatMap bCells)
  lrow : w.ownsRow base 62 3 vl ys.length (ys.flatMap lCells)
  fam : Fam w base (nrows F ++ (vo, r.order) :: (vi, r.idom) :: lrows ys)
  eb : F.map Prod.fst = r.blocks
  el : ys.map Prod.fst = r.loops
theorem OwFl.none (w : World) (base : Nat) (c a : Int) : OwFl w base (.slice none 0 0) (.slice none 0 0) (.slice none 0 0) (.slice none 0 0) [] [] (noFl c a) := by
  refine ⟨World.ownsRow_nil _ _ _ _, World.ownsRow_nil _ _ _ _, ⟨fun x hx => ?_, ?_⟩, rfl, rfl⟩
  · simp [nrows, lrows, noFl] at hx
    rcases hx with rfl | rfl <;> exact World.ownsRow_nil _ _ _ _
  · refine List.Pairwise.cons ?_ (List.Pairwise.cons ?_ List.Pairwise.nil)
    · intro y _ g hg
      cases hg
    · intro y _ g hg
      cases hg
theorem Fam.ranges {w : World} {B M : Nat} {A C : List (Value × List Int)} (hA : Fam w B A) (hC : Fam w M C) (hBM : B ≤ M) (hlt : ∀ x ∈ A, ∀ g, x.1.ownBlock = some g → g < M) : Fam w B (A ++ C) := by
  refine ⟨fun x hx => ?_, List.pairwise_append.2 ⟨hA.sep, hC.sep, fun a ha c hc g hg e => ?_⟩⟩
  · rcases List.mem_append.1 hx with q | q
    · exact hA.own x q
    · exact own_lower (hC.own x q) hBM
  · have h1 := hlt a ha g hg
    have h2 := ((hC.own c hc).lt g e).1
    omega
theorem Fam.single {w : World} {B : Nat} {v : Value} {l : List Int} (h : w.ownsRow B 2 1 v l.length (l.flatMap intCell)) : Fam w B [(v, l)] := ⟨fun x hx => by simp at hx; subst hx; exact h, by simp⟩
theorem lrows_fam {w : World} {B M : Nat} {ys : List (ML × Value × Value)} (hA : Fam w B (ys.map fun y => (y.2.1, y.1.back))) (hC : Fam w M (ys.map fun y => (y.2.2, y.1.blocks))) (hBM : B ≤ M) (hlt : ∀ y ∈ ys, ∀ g, y.2.1.ownBlock = some g → g < M) : Fam w B (lrows ys) := by
  have hx : ∀ y ∈ ys, ∀ z ∈ ys, Apart (y.2.1, y.1.back) (z.2.2, z.1.blocks) := fun y hy z hz g hg e => by
    have h1 := hlt y hy g hg
    have h2 := ((hC.own (z.2.2, z.1.blocks) (List.mem_map.2 ⟨z, hz, rfl⟩)).lt g e).1
    omega
  refine ⟨fun x hx' => ?_, ?_⟩
  · obtain ⟨y, hy, q⟩ := List.mem_flatMap.1 hx'
    simp only [List.mem_cons, List.not_mem_nil, or_false] at q
    rcases q with rfl | rfl
    · exact hA.own _ (List.mem_map.2 ⟨y, hy, rfl⟩)
    · exact own_lower (hC.own _ (List.mem_map.2 ⟨y, hy, rfl⟩)) hBM
  · have hs1 := List.pairwise_map.1 hA.sep
    have hs2 := List.pairwise_map.1 hC.sep
    clear hA hC hlt
    unfold lrows
    induction ys with
    | nil => exact List.Pairwise.nil
    | cons y r ih =>
      obtain ⟨a1, a2⟩ := List.pairwise_cons.1 hs1
      obtain ⟨b1, b2⟩ := List.pairwise_cons.1 hs2
      have ih' := ih (fun y' hy' z hz => hx y' (List.mem_cons_of_mem _ hy') z (List.mem_cons_of_mem _ hz)) a2 b2
      rw [List.flatMap_cons]
      refine List.pairwise_append.2 ⟨?_, ih', fun p hp q hq => ?_⟩
      · refine List.Pairwise.cons (fun z hz => ?_) (by simp)
        simp only [List.mem_cons, List.not_mem_nil, or_false] at hz
        subst hz
        exact hx y (List.mem_cons_self ..) y (List.mem_cons_self ..)
      · obtain ⟨z, hz, hq'⟩ := List.mem_flatMap.1 hq
        simp only [List.mem_cons, List.not_mem_nil, or_false] at hp hq'
        rcases hp with rfl | rfl
        · rcases hq' with rfl | rfl
          · exact a1 z hz
          · exact hx y (List.mem_cons_self ..) z (List.mem_cons_of_mem _ hz)
        · rcases hq' with rfl | rfl
          · exact (hx z (List.mem_cons_of_mem _ hz) y (List.mem_cons_self ..)).symm
          · exact b1 z hz
theorem seen_told {E : Nat → List Nat} {S O : List Nat} (h : Vs E [] [] [0] S O) (x : Nat) : x ∈ S ↔ x ∈ O := by
  obtain ⟨N, t⟩ := h.told
  have : O = N := by simpa using t.out
  subst this
  rw [t.seen x]
  simp
theorem OwnBE.ints {w : World} {base : Nat} {V : Value} {F : List (MB × Value)} {bs : List MB} {gb ob cb n : Nat} (h : OwnBE w base V F) (hF : F.map Prod.fst = bs) (hV : V = .slice (some ⟨gb, ob, none⟩) n cb) (hn : n = bs.length) : ∀ b, b < n → ∃ f l : Int, w.cell? ⟨gb, ob + b * 3, none⟩ = some (.int .i64 f) ∧ w.cell? ⟨gb, ob + b * 3 + 1, none⟩ = some (.int .i64 l) := fun b hb => by
  have hl : F.length = n := by rw [hn, ← hF, List.length_map]
  have hr := Rd.of_own h.row
  rcases hr.2 with ⟨e0, _⟩ | ⟨g, o, c, e1, hc⟩
  · omega
  · rw [hV] at e1
    simp only [Value.slice.injEq, Option.some.injEq, Addr.mk.injEq, and_true] at e1
    obtain ⟨⟨rfl, rfl⟩, _, rfl⟩ := e1
    obtain ⟨x, hx⟩ : ∃ x, F[b]? = some x := ⟨_, List.getElem?_eq_getElem (by omega)⟩
    have i0 := Rd.elem bCells_length hc b _ hx 0 _ rfl
    have i1 := Rd.elem bCells_length hc b _ hx 1 _ rfl
    rw [Nat.add_zero] at i0
    exact ⟨_, _, i0, i1⟩
theorem vs_facts {E : Nat → List Nat} {n : Nat} {S O : List Nat} (hn : 0 < n) (hE : ∀ b, b < n → ∀ x ∈ E b, x < n) (h : Vs E [] [] [0] S O) : (∀ x ∈ O, x < n) ∧ O.Nodup ∧ O.length ≤ n ∧ ∀ x ∈ O, Rch E (fun _ => True) 0 x := by
  obtain ⟨N, t⟩ := h.told
  have : O = N := by simpa using t.out
  subst this
  have hr : ∀ x ∈ O, Rch E (fun _ => True) 0 x := fun x hx => by
    obtain ⟨q, q1, q2⟩ := t.from_ x hx
    have : q = 0 := by simpa using q1
    subst this
    exact q2.mono fun _ _ => trivial
  have hl : ∀ x ∈ O, x < n := fun x hx => (hr x hx).lt hE hn
  refine ⟨hl, t.nodup, ?_, hr⟩
  have := nodup_le O n hl t.nodup
  omega
theorem own_cap {w : World} {base k n c g : Nat} {e : TypeId} {xs : List Value} (h : w.ownsRow base e k (.slice (some ⟨g, 0, none⟩) n c) n xs) : n ≤ c := by
  rcases h.2 with ⟨h', _⟩ | ⟨g', cap', cur, h', _, _, h3, _⟩
  · cases h'
  · cases h'
    exact h3
/-- The graph behind dominate. -/
structure GD (w1 u : World) (n G gN cN gF gO cO gP gi : Nat) (E : Nat → List Nat) (O : List Nat) (I : Nat → Int) : Prop where
  blk : Blk u G #[.slice (some ⟨gN, 0, none⟩) n cN, .slice (some ⟨gF, 0, none⟩) n n, .slice (some ⟨gO, 0, none⟩) n cO, .slice (some ⟨gP, 0, none⟩) n n, .slice (some ⟨gi, 0, none⟩) n n] 72
  nx : EdAt u gN 0 n E
  fr : EdAt u gF 0 n (fromL E n)
  ord : OwN u w1.heap.size (.slice (some ⟨gO, 0, none⟩) n cO) O.reverse
  gi_ : GI u G n gP n gi n (plO O) I
  idom : u.ownsRow w1.heap.size 2 1 (.slice (some ⟨gi, 0, none⟩) n n) n (zv I n)
  bel : Below w1.heap.size w1 u
  ne : gO ≠ gi
theorem GD.keep {w1 u u' : World} {n G gN cN gF gO cO gP gi : Nat} {E : Nat → List Nat} {O : List Nat} {I : Nat → Int} (h : GD w1 u n G gN cN gF gO cO gP gi E O I) (hb : Below u.heap.size u u') : GD w1 u' n G gN cN gF gO cO gP gi E O I := ⟨h.blk.keep hb, h.nx.keep hb, h.fr.keep hb, h.ord.keep hb, h.gi_.keep hb, own_keep h.idom hb (Nat.le_refl _), below_on h.bel (Nat.le_refl _) hb, h.ne⟩
theorem GD.of {w1 u3 u4 u5 : World} {n G gN cN gF gO cO gP gi : Nat} {E : Nat → List Nat} {S O : List Nat} {I : Nat → Int} (h : GM w1 u3 n G gN cN gF gO cO gP E S O) (hO : O.length = n) (hOm : ∀ x, x ∈ O ↔ x < n) (hb : Below u3.heap.size u3 u4) (hd : DW u4 u5 G n #[.slice (some ⟨gN, 0, none⟩) n cN, .slice (some ⟨gF, 0, none⟩) n n, .slice (some ⟨gO, 0, none⟩) n cO, .slice (some ⟨gP, 0, none⟩) n n] gi I) : GD w1 u5 n G gN cN gF gO cO gP gi E O I := by
  obtain ⟨x0, x1, x2, x3, e, kk⟩ := hd.blk
  simp only [Array.mk.injEq, List.cons.injEq, and_true] at e
  obtain ⟨rfl, rfl, rfl, rfl⟩ := e
  have hn0 : ∀ (g b : Nat), g ≠ G → g < u3.heap.size → u4.cell? ⟨g, b, none⟩ = u3.cell? ⟨g, b, none⟩ := fun g b _ hl => by
    unfold World.cell?
    rw [hb.block g hl]
  have fx : ∀ k, k < u4.heap.size → k ∉ [G] → u5.heap[k]? = u4.heap[k]? := fun k hk hne => hd.fx k hk (by simpa using hne)
  have hord : OwN u4 w1.heap.size (.slice (some ⟨gO, 0, none⟩) n cO) O.reverse := by
    have := h.ord.keep hb
    rw [hO] at this
    exact this
  have hgl : ∀ (g : Nat) {E' : Nat → List Nat}, EdAt u3 g 0 n E' → n ≠ 0 → g < u3.heap.size := fun g E' q hne => by
    obtain ⟨a, c, h1, _⟩ := q 0 (by omega)
    exact block_lt_of_cell h1
  refine ⟨kk, (h.nx.keep hb).fxs fx (by simpa using h.ne.1) (fun b a m c hb' hc hm => ?_), (h.fr.keep hb).fxs fx (by simpa using h.ne.2.1) (fun b a m c hb' hc hm => ?_), hord.fx hd.fx (fun g hg => by simp only [Value.ownBlock, Option.some.injEq] at hg; rw [← hg]; exact h.ne.2.2.1), ⟨kk.cell 3, kk.cell 4, fun x hx => hd.cell (bcell_keep hb (h.pl x ((hOm x).2 hx))) h.ne.2.2.2, fun x hx => ?_⟩, own_lower hd.row (Nat.le_trans h.bel.size hb.size), ?_, ?_⟩
  · rw [hn0 gN b h.ne.1 (hgl gN h.nx (by omega))] at hc
    simpa using h.nn b a m c hb' hc hm
  · rw [hn0 gF b h.ne.2.1 (hgl gF h.fr (by omega))] at hc
    simpa using h.nf b a m c hb' hc
  · have := hd.row.cellAt x (by omega)
    rw [zv_at _ _ _ hx] at this
    exact this
  · exact (below_on h.bel (Nat.le_refl _) hb).trans (hd.bel.mono h.ge)
  · have h1 := (own_blk hd.row).1
    have := (hord.lt gO rfl).2
    omega
theorem done_idom {E : Nat → List Nat} {n : Nat} {pl : Nat → Nat} {I : Nat → Int} (h : DoneI E n pl I) (b : Nat) (hb : b < n) : (b = 0 ∧ I b = -1) ∨ b ≠ 0 ∧ ∃ c : Nat, c < n ∧ I b = (c : Int) ∧ IdomIs E b c := by
  by_cases e : b = 0
  · exact .inl ⟨e, by rw [e]; exact h.z⟩
  · obtain ⟨c, c1, c2, c3, _⟩ := h.dinv.tree.up b hb e ((h.all b hb).resolve_left e)
    refine .inr ⟨e, c, c2, c1, fun q => by rw [q] at c3; omega, (h.dom c b hb).1 (.up e c1 .here), fun d hd hdom => ?_⟩
    obtain ⟨_, c', e1, e2⟩ := ((h.dom d b hb).2 hdom).cases' hd
    obtain rfl : c' = c := by omega
    exact (h.dom d c' c2).1 e2
theorem Fam.sub {w : World} {B : Nat} {A C : List (Value × List Int)} (h : Fam w B C) (hs : List.Sublist A C) : Fam w B A := ⟨fun x hx => h.own x (hs.subset hx), h.sep.sublist hs⟩
theorem Fam.low {w : World} {B b : Nat} {A : List (Value × List Int)} (h : Fam w B A) (hb : b ≤ B) : Fam w b A := ⟨fun x hx => own_lower (h.own x hx) hb, h.sep⟩
theorem Fam.six {w : World} {B b : Nat} {A : List (Value × List Int)} (h : Fam w B A) (hb : b < B) (x0 x1 x2 x3 x4 x5 : Value) : Fam (six w b x0 x1 x2 x3 x4 x5) B A := ⟨fun x hx => six_own (h.own x hx) (own_ge (h.own x hx) hb) _ _ _ _ _ _, h.sep⟩
theorem own_final {w u1 u2 u5 u6 u7 : World} {n G gN cN gF gO cO gP gi gB cL : Nat} {E : Nat → List Nat} {O : List Nat} {I : Nat → Int} {vb : Value} {aL : Option Addr} {F : List (MB × Value)} {FS : List (Value × List Nat)} {ys : List (ML × Value × Value)} {bs : List MB} {ls : List ML} (hb : OwnBE u1 (w.heap.size + 1) vb F) (hF : F.map Prod.fst = bs) (hw1 : w.heap.size < u1.heap.size) (h12 : u1.heap.size ≤ u2.heap.size) (hb6 : Below u1.heap.size u1 u6) (hd5 : GD u2 u5 n G gN cN gF gO cO gP gi E O I) (hd6 : GD u2 u6 n G gN cN gF gO cO gP gi E O I) (hO : O.length = n) (hb56 : Below u5.heap.size u5 u6) (hbk : BK u5 u6 n gB FS) (hb7 : Below u6.heap.size u6 u7) (hlp : LP u6.drew u7 (.slice aL ys.length cL) ys) (hys : ys.map Prod.fst = ls) (hsub : List.Sublist (ys.map fun y => (y.2.1, y.1.back)) (FS.map fun x => (x.1, ints x.2))) (v0 v1 v2 v3 v4 v5 : Value) : OwFl (six u7 w.heap.size v0 v1 v2 v3 v4 v5) w.heap.size vb (.slice (some ⟨gO, 0, none⟩) n cO) (.slice (some ⟨gi, 0, none⟩) n n) (.slice aL ys.length cL) F ys ⟨0, 0, bs, ints O.reverse, (List.range n).map I, ls⟩ := by
  have hb17 : Below u1.heap.size u1 u7 := below_on hb6 (Nat.le_refl _) hb7
  have s25 : u2.heap.size ≤ u5.heap.size := hd5.bel.size
  have s56 := hb56.size
  have hd7 := hd6.keep hb7
  have A0 : Fam u7 (w.heap.size + 1) (nrows F) := hb.fam.keepB hb17
  have hO7 : u7.ownsRow u2.heap.size 2 1 (.slice (some ⟨gO, 0, none⟩) n cO) (ints O.reverse).length ((ints O.reverse).flatMap intCell) := by
    have := hd7.ord
    unfold OwN at this
    rw [nv_flat, ← ints_length] at this
    exact this
  have hI7 : u7.ownsRow u2.heap.size 2 1 (.slice (some ⟨gi, 0, none⟩) n n) ((List.range n).map I).length (((List.range n).map I).flatMap intCell) := by
    have := hd7.idom
    rw [zv_flat] at this
    rw [List.length_map, List.length_range]
    exact this
  have A1 : Fam u7 u2.heap.size [((.slice (some ⟨gO, 0, none⟩) n cO : Value), ints O.reverse), (.slice (some ⟨gi, 0, none⟩) n n, (List.range n).map I)] := by
    refine ⟨fun x hx => ?_, ?_⟩
    · simp only [List.mem_cons, List.not_mem_nil, or_false] at hx
      rcases hx with rfl | rfl
      · exact hO7
      · exact hI7
    · refine List.Pairwise.cons (fun y hy => ?_) (by simp)
      simp only [List.mem_cons, List.not_mem_nil, or_false] at hy
      subst hy
      intro g hg e
      simp only [Value.ownBlock, Option.some.injEq] at hg e
      exact hd6.ne (by rw [hg, e])
  have A2 : Fam u7 u5.heap.size (lrows ys) := by
    refine lrows_fam ((hbk.fam.keepB hb7).sub hsub) hlp.fam hb56.size fun y hy g hg => ?_
    have hm := hsub.subset (List.mem_map.2 ⟨y, hy, rfl⟩)
    exact ((hbk.fam.own _ hm).lt g hg).2
  have A12 : Fam u7 u2.heap.size ([((.slice (some ⟨gO, 0, none⟩) n cO : Value), ints O.reverse), (.slice (some ⟨gi, 0, none⟩) n n, (List.range n).map I)] ++ lrows ys) := by
    refine A1.ranges A2 s25 fun x hx g hg => ?_
    simp only [List.mem_cons, List.not_mem_nil, or_false] at hx
    rcases hx with rfl | rfl
    · exact (hd5.ord.lt g hg).2
    · exact (hd5.idom.lt g hg).2
  have A012 := A0.ranges A12 (by omega) (fun x hx g hg => by
    have := ((hb.fam.own x hx).lt g hg).2
    omega)
  have hbr := own_keep hb.row hb17 (Nat.le_refl _)
  have hlr : u7.ownsRow u6.heap.size 62 3 (.slice aL ys.length cL) ys.length (ys.flatMap lCells) := hlp.lps
  refine ⟨own_lower (six_own hbr (own_ge hbr (Nat.lt_succ_self _)) _ _ _ _ _ _) (Nat.le_succ _), own_lower (six_own hlr (own_ge hlr (by omega)) _ _ _ _ _ _) (by omega), ?_, hF, hys⟩
  exact (A012.six (Nat.lt_succ_self _) v0 v1 v2 v3 v4 v5).low (Nat.le_succ _)
end Go.Proofs.Ytdbaghmjomdmbaa
