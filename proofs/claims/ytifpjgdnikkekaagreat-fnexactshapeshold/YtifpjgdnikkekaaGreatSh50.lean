import Derived.Test.YtifpjgdnikkekaaGreatSh46
import Derived.Test.YtifpjgdnikkekaaGreatSh47
import Derived.Test.YtifpjgdnikkekaaGreatSh48
import Derived.Test.YtifpjgdnikkekaaGreatSh38
import Derived.Test.YtifpjgdnikkekaaGreatSh49
namespace Go.Proofs.YtifpjgdnikkekaaGreat
open Go.ChangeShapes Go.WideShapes Go.ChangeAt Go.RowKit
set_option linter.unusedVariables false
structure OwFl (w : World) (base : Nat) (vb vo vi vl : Value) (F : List (MB × Value)) (ys : List (ML × Value × Value)) (r : MFl) : Prop where
  brow : w.ownsRow base 71 3 vb F.length (F.flatMap bCells)
  lrow : w.ownsRow base 53 3 vl ys.length (ys.flatMap lCells)
  fam : Fam w base (nrows F ++ (vo, r.order) :: (vi, r.idom) :: lrows ys)
  eb : F.map Prod.fst = r.blocks
  el : ys.map Prod.fst = r.loops
theorem OwFl.none (w : World) (base : Nat) (c a : Int) : OwFl w base (.slice none 0 0) (.slice none 0 0) (.slice none 0 0) (.slice none 0 0) [] [] (noFl c a) := by
  refine ⟨World.ownsRow_nil _ _ _ _, World.ownsRow_nil _ _ _ _, ⟨fun x hx => ?_, ?_⟩, rfl, rfl⟩
  · simp [nrows, lrows, noFl] at hx
    rcases hx with rfl | rfl <;> exact World.ownsRow_nil _ _ _ _
  · refine List.Pairwise.cons ?_ (List.Pairwise.cons ?_ List.Pairwise.nil)
    · intro y _ g hg
      cases hg
    · intro y _ g hg
      cases hg
theorem Fam.ranges {w : World} {B M : Nat} {A C : List (Value × List Int)} (hA : Fam w B A) (hC : Fam w M C) (hBM : B ≤ M) (hlt : ∀ x ∈ A, ∀ g, x.1.ownBlock = some g → g < M) : Fam w B (A ++ C) := by
  refine ⟨fun x hx => ?_, List.pairwise_append.2 ⟨hA.sep, hC.sep, fun a ha c hc g hg e => ?_⟩⟩
  · rcases List.mem_append.1 hx with q | q
    · exact hA.own x q
    · exact own_lower (hC.own x q) hBM
  · have h1 := hlt a ha g hg
    have h2 := ((hC.own c hc).lt g e).1
    omega
theorem Fam.single {w : World} {B : Nat} {v : Value} {l : List Int} (h : w.ownsRow B 2 1 v l.length (l.flatMap intCell)) : Fam w B [(v, l)] := ⟨fun x hx => by simp at hx; subst hx; exact h, by simp⟩
theorem lrows_fam {w : World} {B M : Nat} {ys : List (ML × Value × Value)} (hA : Fam w B (ys.map fun y => (y.2.1, y.1.back))) (hC : Fam w M (ys.map fun y => (y.2.2, y.1.blocks))) (hBM : B ≤ M) (hlt : ∀ y ∈ ys, ∀ g, y.2.1.ownBlock = some g → g < M) : Fam w B (lrows ys) := by
  have hx : ∀ y ∈ ys, ∀ z ∈ ys, Apart (y.2.1, y.1.back) (z.2.2, z.1.blocks) := fun y hy z hz g hg e => by
    have h1 := hlt y hy g hg
    have h2 := ((hC.own (z.2.2, z.1.blocks) (List.mem_map.2 ⟨z, hz, rfl⟩)).lt g e).1
    omega
  refine ⟨fun x hx' => ?_, ?_⟩
  · obtain ⟨y, hy, q⟩ := List.mem_flatMap.1 hx'
    simp only [List.mem_cons, List.not_mem_nil, or_false] at q
    rcases q with rfl | rfl
    · exact hA.own _ (List.mem_map.2 ⟨y, hy, rfl⟩)
    · exact own_lower (hC.own _ (List.mem_map.2 ⟨y, hy, rfl⟩)) hBM
  · have hs1 := List.pairwise_map.1 hA.sep
    have hs2 := List.pairwise_map.1 hC.sep
    clear hA hC hlt
    unfold lrows
    induction ys with
    | nil => exact List.Pairwise.nil
    | cons y r ih =>
      obtain ⟨a1, a2⟩ := List.pairwise_cons.1 hs1
      obtain ⟨b1, b2⟩ := List.pairwise_cons.1 hs2
      have ih' := ih (fun y' hy' z hz => hx y' (List.mem_cons_of_mem _ hy') z (List.mem_cons_of_mem _ hz)) a2 b2
      rw [List.flatMap_cons]
      refine List.pairwise_append.2 ⟨?_, ih', fun p hp q hq => ?_⟩
      · refine List.Pairwise.cons (fun z hz => ?_) (by simp)
        simp only [List.mem_cons, List.not_mem_nil, or_false] at hz
        subst hz
        exact hx y (List.mem_cons_self ..) y (List.mem_cons_self ..)
      · obtain ⟨z, hz, hq'⟩ := List.mem_flatMap.1 hq
        simp only [List.mem_cons, List.not_mem_nil, or_false] at hp hq'
        rcases hp with rfl | rfl
        · rcases hq' with rfl | rfl
          · exact a1 z hz
          · exact hx y (List.mem_cons_self ..) z (List.mem_cons_of_mem _ hz)
        · rcases hq' with rfl | rfl
          · exact (hx z (List.mem_cons_of_mem _ hz) y (List.mem_cons_self ..)).symm
          · exact b1 z hz
theorem seen_told {E : Nat → List Nat} {S O : List Nat} (h : Vs E [] [] [0] S O) (x : Nat) : x ∈ S ↔ x ∈ O := by
  obtain ⟨N, t⟩ := h.told
  have : O = N := by simpa using t.out
  subst this
  rw [t.seen x]
  simp
theorem OwnBE.ints {w : World} {base : Nat} {V : Value} {F : List (MB × Value)} {bs : List MB} {gb ob cb n : Nat} (h : OwnBE w base V F) (hF : F.map Prod.fst = bs) (hV : V = .slice (some ⟨gb, ob, none⟩) n cb) (hn : n = bs.length) : ∀ b, b < n → ∃ f l : Int, w.cell? ⟨gb, ob + b * 3, none⟩ = some (.int .i64 f) ∧ w.cell? ⟨gb, ob + b * 3 + 1, none⟩ = some (.int .i64 l) := fun b hb => by
  have hl : F.length = n := by rw [hn, ← hF, List.length_map]
  have hr := Rd.of_own h.row
  rcases hr.2 with ⟨e0, _⟩ | ⟨g, o, c, e1, hc⟩
  · omega
  · rw [hV] at e1
    simp only [Value.slice.injEq, Option.some.injEq, Addr.mk.injEq, and_true] at e1
    obtain ⟨⟨rfl, rfl⟩, _, rfl⟩ := e1
    obtain ⟨x, hx⟩ : ∃ x, F[b]? = some x := ⟨_, List.getElem?_eq_getElem (by omega)⟩
    have i0 := Rd.elem bCells_length hc b _ hx 0 _ rfl
    have i1 := Rd.elem bCells_length hc b _ hx 1 _ rfl
    rw [Nat.add_zero] at i0
    exact ⟨_, _, i0, i1⟩
theorem vs_facts {E : Nat → List Nat} {n : Nat} {S O : List Nat} (hn : 0 < n) (hE : ∀ b, b < n → ∀ x ∈ E b, x < n) (h : Vs E [] [] [0] S O) : (∀ x ∈ O, x < n) ∧ O.Nodup ∧ O.length ≤ n ∧ ∀ x ∈ O, Rch E (fun _ => True) 0 x := by
  obtain ⟨N, t⟩ := h.told
  have : O = N := by simpa using t.out
  subst this
  have hr : ∀ x ∈ O, Rch E (fun _ => True) 0 x := fun x hx => by
    obtain ⟨q, q1, q2⟩ := t.from_ x hx
    have : q = 0 := by simpa using q1
    subst this
    exact q2.mono fun _ _ => trivial
  have hl : ∀ x ∈ O, x < n := fun x hx => (hr x hx).lt hE hn
  refine ⟨hl, t.nodup, ?_, hr⟩
  have := nodup_le O n hl t.nodup
  omega
theorem own_cap {w : World} {base k n c g : Nat} {e : TypeId} {xs : List Value} (h : w.ownsRow base e k (.slice (some ⟨g, 0, none⟩) n c) n xs) : n ≤ c := by
  rcases h.2 with ⟨h', _⟩ | ⟨g', cap', cur, h', _, _, h3, _⟩
  · cases h'
  · cases h'
    exact h3
/-- The graph behind dominate. -/
structure GD (w1 u : World) (n G gN cN gF gO cO gP gi : Nat) (E : Nat → List Nat) (O : List Nat) (I : Nat → Int) : Prop where
  blk : Blk u G #[.slice (some ⟨gN, 0, none⟩) n cN, .slice (some ⟨gF, 0, none⟩) n n, .slice (some ⟨gO, 0, none⟩) n cO, .slice (some ⟨gP, 0, none⟩) n n, .slice (some ⟨gi, 0, none⟩) n n] 176
  nx : EdAt u gN 0 n E
  fr : EdAt u gF 0 n (fromL E n)
  ord : OwN u w1.heap.size (.slice (some ⟨gO, 0, none⟩) n cO) O.reverse
  gi_ : GI u G n gP n gi n (plO O) I
  idom : u.ownsRow w1.heap.size 2 1 (.slice (some ⟨gi, 0, none⟩) n n) n (zv I n)
  bel : Below w1.heap.size w1 u
  ne : gO ≠ gi
theorem GD.keep {w1 u u' : World} {n G gN cN gF gO cO gP gi : Nat} {E : Nat → List Nat} {O : List Nat} {I : Nat → Int} (h : GD w1 u n G gN cN gF gO cO gP gi E O I) (hb : Below u.heap.size u u') : GD w1 u' n G gN cN gF gO cO gP gi E O I := ⟨h.blk.keep hb, h.nx.keep hb, h.fr.keep hb, h.ord.keep hb, h.gi_.keep hb, own_keep h.idom hb (Nat.le_refl _), below_on h.bel (Nat.le_refl _) hb, h.ne⟩
theorem GD.of {w1 u3 u4 u5 : World} {n G gN cN gF gO cO gP gi : Nat} {E : Nat → List Nat} {S O : List Nat} {I : Nat → Int} (h : GM w1 u3 n G gN cN gF gO cO gP E S O) (hO : O.length = n) (hOm : ∀ x, x ∈ O ↔ x < n) (hb : Below u3.heap.size u3 u4) (hd : DW u4 u5 G n #[.slice (some ⟨gN, 0, none⟩) n cN, .slice (some ⟨gF, 0, none⟩) n n, .slice (some ⟨gO, 0, none⟩) n cO, .slice (some ⟨gP, 0, none⟩) n n] gi I) : GD w1 u5 n G gN cN gF gO cO gP gi E O I := by
  obtain ⟨x0, x1, x2, x3, e, kk⟩ := hd.blk
  simp only [Array.mk.injEq, List.cons.injEq, and_true] at e
  obtain ⟨rfl, rfl, rfl, rfl⟩ := e
  have hn0 : ∀ (g b : Nat), g ≠ G → g < u3.heap.size → u4.cell? ⟨g, b, none⟩ = u3.cell? ⟨g, b, none⟩ := fun g b _ hl => by
    unfold World.cell?
    rw [hb.block g hl]
  have fx : ∀ k, k < u4.heap.size → k ∉ [G] → u5.heap[k]? = u4.heap[k]? := fun k hk hne => hd.fx k hk (by simpa using hne)
  have hord : OwN u4 w1.heap.size (.slice (some ⟨gO, 0, none⟩) n cO) O.reverse := by
    have := h.ord.keep hb
    rw [hO] at this
    exact this
  have hgl : ∀ (g : Nat) {E' : Nat → List Nat}, EdAt u3 g 0 n E' → n ≠ 0 → g < u3.heap.size := fun g E' q hne => by
    obtain ⟨a, c, h1, _⟩ := q 0 (by omega)
    exact block_lt_of_cell h1
  refine ⟨kk, (h.nx.keep hb).fxs fx (by simpa using h.ne.1) (fun b a m c hb' hc hm => ?_), (h.fr.keep hb).fxs fx (by simpa using h.ne.2.1) (fun b a m c hb' hc hm => ?_), hord.fx hd.fx (fun g hg => by simp only [Value.ownBlock, Option.some.injEq] at hg; rw [← hg]; exact h.ne.2.2.1), ⟨kk.cell 3, kk.cell 4, fun x hx => hd.cell (bcell_keep hb (h.pl x ((hOm x).2 hx))) h.ne.2.2.2, fun x hx => ?_⟩, own_lower hd.row (Nat.le_trans h.bel.size hb.size), ?_, ?_⟩
  · rw [hn0 gN b h.ne.1 (hgl gN h.nx (by omega))] at hc
    simpa using h.nn b a m c hb' hc hm
  · rw [hn0 gF b h.ne.2.1 (hgl gF h.fr (by omega))] at hc
    simpa using h.nf b a m c hb' hc
  · have := hd.row.cellAt x (by omega)
    rw [zv_at _ _ _ hx] at this
    exact this
  · exact (below_on h.bel (Nat.le_refl _) hb).trans (hd.bel.mono h.ge)
  · have h1 := (own_blk hd.row).1
    have := (hord.lt gO rfl).2
    omega
theorem done_idom {E : Nat → List Nat} {n : Nat} {pl : Nat → Nat} {I : Nat → Int} (h : DoneI E n pl I) (b : Nat) (hb : b < n) : (b = 0 ∧ I b = -1) ∨ b ≠ 0 ∧ ∃ c : Nat, c < n ∧ I b = (c : Int) ∧ IdomIs E b c := by
  by_cases e : b = 0
  · exact .inl ⟨e, by rw [e]; exact h.z⟩
  · obtain ⟨c, c1, c2, c3, _⟩ := h.dinv.tree.up b hb e ((h.all b hb).resolve_left e)
    refine .inr ⟨e, c, c2, c1, fun q => by rw [q] at c3; omega, (h.dom c b hb).1 (.up e c1 .here), fun d hd hdom => ?_⟩
    obtain ⟨_, c', e1, e2⟩ := ((h.dom d b hb).2 hdom).cases' hd
    obtain rfl : c' = c := by omega
    exact (h.dom d c' c2).1 e2
theorem Fam.sub {w : World} {B : Nat} {A C : List (Value × List Int)} (h : Fam w B C) (hs : List.Sublist A C) : Fam w B A := ⟨fun x hx => h.own x (hs.subset hx), h.sep.sublist hs⟩
theorem Fam.low {w : World} {B b : Nat} {A : List (Value × List Int)} (h : Fam w B A) (hb : b ≤ B) : Fam w b A := ⟨fun x hx => own_lower (h.own x hx) hb, h.sep⟩
theorem Fam.six {w : World} {B b : Nat} {A : List (Value × List Int)} (h : Fam w B A) (hb : b < B) (x0 x1 x2 x3 x4 x5 : Value) : Fam (six w b x0 x1 x2 x3 x4 x5) B A := ⟨fun x hx => six_own (h.own x hx) (own_ge (h.own x hx) hb) _ _ _ _ _ _, h.sep⟩
theorem own_final {w u1 u2 u5 u6 u7 : World} {n G gN cN gF gO cO gP gi gB cL : Nat} {E : Nat → List Nat} {O : List Nat} {I : Nat → Int} {vb : Value} {aL : Option Addr} {F : List (MB × Value)} {FS : List (Value × List Nat)} {ys : List (ML × Value × Value)} {bs : List MB} {ls : List ML} (hb : OwnBE u1 (w.heap.size + 1) vb F) (hF : F.map Prod.fst = bs) (hw1 : w.heap.size < u1.heap.size) (h12 : u1.heap.size ≤ u2.heap.size) (hb6 : Below u1.heap.size u1 u6) (hd5 : GD u2 u5 n G gN cN gF gO cO gP gi E O I) (hd6 : GD u2 u6 n G gN cN gF gO cO gP gi E O I) (hO : O.length = n) (hb56 : Below u5.heap.size u5 u6) (hbk : BK u5 u6 n gB FS) (hb7 : Below u6.heap.size u6 u7) (hlp : LP u6.drew u7 (.slice aL ys.length cL) ys) (hys : ys.map Prod.fst = ls) (hsub : List.Sublist (ys.map fun y => (y.2.1, y.1.back)) (FS.map fun x => (x.1, ints x.2))) (v0 v1 v2 v3 v4 v5 : Value) : OwFl (six u7 w.heap.size v0 v1 v2 v3 v4 v5) w.heap.size vb (.slice (some ⟨gO, 0, none⟩) n cO) (.slice (some ⟨gi, 0, none⟩) n n) (.slice aL ys.length cL) F ys ⟨0, 0, bs, ints O.reverse, (List.range n).map I, ls⟩ := by
  have hb17 : Below u1.heap.size u1 u7 := below_on hb6 (Nat.le_refl _) hb7
  have s25 : u2.heap.size ≤ u5.heap.size := hd5.bel.size
  have s56 := hb56.size
  have hd7 := hd6.keep hb7
  have A0 : Fam u7 (w.heap.size + 1) (nrows F) := hb.fam.keepB hb17
  have hO7 : u7.ownsRow u2.heap.size 2 1 (.slice (some ⟨gO, 0, none⟩) n cO) (ints O.reverse).length ((ints O.reverse).flatMap intCell) := by
    have := hd7.ord
    unfold OwN at this
    rw [nv_flat, ← ints_length] at this
    exact this
  have hI7 : u7.ownsRow u2.heap.size 2 1 (.slice (some ⟨gi, 0, none⟩) n n) ((List.range n).map I).length (((List.range n).map I).flatMap intCell) := by
    have := hd7.idom
    rw [zv_flat] at this
    rw [List.length_map, List.length_range]
    exact this
  have A1 : Fam u7 u2.heap.size [((.slice (some ⟨gO, 0, none⟩) n cO : Value), ints O.reverse), (.slice (some ⟨gi, 0, none⟩) n n, (List.range n).map I)] := by
    refine ⟨fun x hx => ?_, ?_⟩
    · simp only [List.mem_cons, List.not_mem_nil, or_false] at hx
      rcases hx with rfl | rfl
      · exact hO7
      · exact hI7
    · refine List.Pairwise.cons (fun y hy => ?_) (by simp)
      simp only [List.mem_cons, List.not_mem_nil, or_false] at hy
      subst hy
      intro g hg e
      simp only [Value.ownBlock, Option.some.injEq] at hg e
      exact hd6.ne (by rw [hg, e])
  have A2 : Fam u7 u5.heap.size (lrows ys) := by
    refine lrows_fam ((hbk.fam.keepB hb7).sub hsub) hlp.fam hb56.size fun y hy g hg => ?_
    have hm := hsub.subset (List.mem_map.2 ⟨y, hy, rfl⟩)
    exact ((hbk.fam.own _ hm).lt g hg).2
  have A12 : Fam u7 u2.heap.size ([((.slice (some ⟨gO, 0, none⟩) n cO : Value), ints O.reverse), (.slice (some ⟨gi, 0, none⟩) n n, (List.range n).map I)] ++ lrows ys) := by
    refine A1.ranges A2 s25 fun x hx g hg => ?_
    simp only [List.mem_cons, List.not_mem_nil, or_false] at hx
    rcases hx with rfl | rfl
    · exact (hd5.ord.lt g hg).2
    · exact (hd5.idom.lt g hg).2
  have A012 := A0.ranges A12 (by omega) (fun x hx g hg => by
    have := ((hb.fam.own x hx).lt g hg).2
    omega)
  have hbr := own_keep hb.row hb17 (Nat.le_refl _)
  have hlr : u7.ownsRow u6.heap.size 53 3 (.slice aL ys.length cL) ys.length (ys.flatMap lCells) := hlp.lps
  refine ⟨own_lower (six_own hbr (own_ge hbr (Nat.lt_succ_self _)) _ _ _ _ _ _) (Nat.le_succ _), own_lower (six_own hlr (own_ge hlr (by omega)) _ _ _ _ _ _) (by omega), ?_, hF, hys⟩
  exact (A012.six (Nat.lt_succ_self _) v0 v1 v2 v3 v4 v5).low (Nat.le_succ _)
end Go.Proofs.YtifpjgdnikkekaaGreat
namespace Go.Proofs.YtifpjgdnikkekaaGreat
open Go.ChangeShapes Go.WideShapes Go.ChangeAt Go.RowKit
set_option linter.unusedVariables false
set_option maxHeartbeats 8000000 in
set_option maxRecDepth 100000 in
theorem implFlow_any (s : Value) (xs : List MI) (w : World) (hn : xs.length ≤ 1048576) (h : Rd w 4 s xs.length (xs.flatMap MI.cells)) :
    Calls Tryz.prog 78 #[s] w fun e w' => ∃ r vb vo vi vl F ys, e = .returned (.agg #[.int .i64 r.code, .int .i64 r.at_, vb, vo, vi, vl]) ∧ FlowOk xs r ∧ OwFl w' w.heap.size vb vo vi vl F ys r ∧ Below w.heap.size w w' := by
  have H : Hid (Rd w 4 s xs.length (xs.flatMap MI.cells)) := h
  obtain ⟨a1, c1, rfl⟩ := h.is_slice
  clear h
  have HE0 : Hid (Blk (w.alloc (.cells zFl 67)) w.heap.size zFl 67 ∧ Below w.heap.size w (w.alloc (.cells zFl 67))) := ⟨Blk.new _ _ _, below_alloc _ _⟩
  go_enter Tryz.func78, Tryz.ntmps78
  go_wp2_with fail
  refine (implBlocks_any _ xs _ hn (H.out.keep HE0.out.2 (Nat.le_refl _))).mono ?_
  rintro e u1 ⟨V, F, rfl, hob, hbs, b1⟩
  have hz0 : (w.alloc (.cells zFl 67)).heap.size = w.heap.size + 1 := by simp
  rw [hz0] at hob
  have HE1 : Hid (Blk u1 w.heap.size zFl 67 ∧ Below w.heap.size w u1) := ⟨HE0.out.1.keep b1, below_on HE0.out.2 (Nat.le_refl _) b1⟩
  clear HE0 b1 hz0
  rcases hbs with ⟨hg, rfl⟩ | ⟨hg, hF⟩
  · have r0 : u1.cell? ⟨w.heap.size, 0, none⟩ = some (.int .i64 0) := HE1.out.1.cell 0
    have r1 : u1.cell? ⟨w.heap.size, 1, none⟩ = some (.int .i64 0) := HE1.out.1.cell 1
    have r2 : u1.cell? ⟨w.heap.size, 2, none⟩ = some (.slice none 0 0) := HE1.out.1.cell 2
    have r3 : u1.cell? ⟨w.heap.size, 3, none⟩ = some (.slice none 0 0) := HE1.out.1.cell 3
    have r4 : u1.cell? ⟨w.heap.size, 4, none⟩ = some (.slice none 0 0) := HE1.out.1.cell 4
    have r5 : u1.cell? ⟨w.heap.size, 5, none⟩ = some (.slice none 0 0) := HE1.out.1.cell 5
    have f0 := HE1.out.1.frozen 0
    have f1 := HE1.out.1.frozen 1
    have f2 := HE1.out.1.frozen 2
    have f3 := HE1.out.1.frozen 3
    have f4 := HE1.out.1.frozen 4
    have f5 := HE1.out.1.frozen 5
    obtain ⟨ab, cb, rfl⟩ : ∃ a c, V = .slice a 0 c := own_slice hob.row
    have HG : Hid (¬ CodeGood xs) := hg
    clear hg hob
    go_wp2_with fail
    obtain ⟨q0, q1, q2, q3, q4, q5⟩ := six_cells HE1.out.1 (.int .i64 4) (.int .i64 0) (.slice none 0 0) (.slice none 0 0) (.slice none 0 0) (.slice none 0 0)
    simp only [six] at q0 q1 q2 q3 q4 q5
    exact bodyPost_ret (v := .agg #[.int .i64 4, .int .i64 0, .slice none 0 0, .slice none 0 0, .slice none 0 0, .slice none 0 0]) (by simp [results, Tryz.results78, go_sem, q0, q1, q2, q3, q4, q5]) rfl ⟨noFl 4 0, _, _, _, _, [], [], rfl, .none HG.out, OwFl.none _ _ _ _, six_below HE1.out.2 (Nat.le_refl _) _ _ _ _ _ _⟩
  · have hrd : RdBs u1 V (specL xs) := by rw [← hF]; exact hob.rd
    obtain ⟨gb, ob, cb, rfl, hgr, hfi⟩ := hrd.graph hg
    have hin := hob.ints hF rfl rfl
    have hpos := lds_pos hg
    have hle := specL_le hg
    have hxl := hg.1
    obtain ⟨x, hx⟩ : ∃ x, xs[xs.length - 1]? = some x := ⟨_, List.getElem?_eq_getElem (by omega)⟩
    have HG : Hid (CodeGood xs ∧ xs[xs.length - 1]? = some x) := ⟨hg, hx⟩
    have HEE : Hid ((∀ b, b < (specL xs).length → ∀ x ∈ nx (specL xs) b, x < (specL xs).length) ∧ ∀ b, (nx (specL xs) b).length ≤ 2) := ⟨nx_lt hg, nx_small _ (specL_two xs)⟩
    obtain ⟨n, hnn⟩ : ∃ n, n = (specL xs).length := ⟨_, rfl⟩
    obtain ⟨E, hEE⟩ : ∃ E, E = nx (specL xs) := ⟨_, rfl⟩
    rw [← hnn] at hgr hin
    rw [← hEE] at hgr
    rw [← hnn, ← hEE] at HEE
    rw [← hnn] at hpos hle hob ⊢
    have HB : Hid (OwnBE u1 (w.heap.size + 1) (.slice (some ⟨gb, ob, none⟩) n cb) F ∧ GrAt u1 gb ob n E ∧ (∀ b m, (specL xs)[b]? = some m → u1.cell? ⟨gb, ob + b * 3, none⟩ = some (.int .i64 m.first)) ∧ (∀ b, b < n → ∃ f l : Int, u1.cell? ⟨gb, ob + b * 3, none⟩ = some (.int .i64 f) ∧ u1.cell? ⟨gb, ob + b * 3 + 1, none⟩ = some (.int .i64 l)) ∧ F.map Prod.fst = specL xs) := ⟨hob, hgr, hfi, hin, hF⟩
    have HN : Hid (n = (specL xs).length ∧ E = nx (specL xs)) := ⟨hnn, hEE⟩
    clear hrd hgr hfi hg hnn hEE hob hin hF
    have hposI : ¬ (n : Int) = 0 := by omega
    have hposB : ((n : Int) == 0) = false := by simp; omega
    obtain ⟨gx, ox, rfl, hop⟩ : ∃ gx ox, a1 = some ⟨gx, ox, none⟩ ∧ (u1.cell? ⟨gx, ox + (xs.length - 1) * 4, none⟩ = some (.int .i64 x.op) ∧ u1.cell? ⟨gx, ox + (xs.length - 1) * 4 + 1, none⟩ = some (.int .i64 x.a) ∧ u1.cell? ⟨gx, ox + (xs.length - 1) * 4 + 2, none⟩ = some (.int .i64 x.b) ∧ u1.cell? ⟨gx, ox + (xs.length - 1) * 4 + 3, none⟩ = some (.int .i64 x.c)) := by
      rcases H.out.2 with ⟨e0, _⟩ | ⟨gx, ox, cx, e1, hc1⟩
      · omega
      · simp only [Value.slice.injEq, true_and] at e1
        have i0 := Rd.elem MI.cells_length hc1 (xs.length - 1) _ hx 0 _ rfl
        rw [Nat.add_zero] at i0
        exact ⟨gx, ox, e1.1, bcell_keep HE1.out.2 i0, bcell_keep HE1.out.2 (Rd.elem MI.cells_length hc1 (xs.length - 1) _ hx 1 _ rfl), bcell_keep HE1.out.2 (Rd.elem MI.cells_length hc1 (xs.length - 1) _ hx 2 _ rfl), bcell_keep HE1.out.2 (Rd.elem MI.cells_length hc1 (xs.length - 1) _ hx 3 _ rfl)⟩
    clear hx
    obtain ⟨lx, hlx⟩ : ∃ lx, xs.length = lx + 1 := ⟨xs.length - 1, by omega⟩
    rw [hlx] at hop ⊢
    simp only [Nat.add_sub_cancel] at hop
    obtain ⟨c0, c1', c2, c3⟩ := hop
    have HLX : Hid (xs.length = lx + 1) := hlx
    have hlx2 : lx ≤ 1048576 := by omega
    have hlx3 : (lx : Int) ≤ 1048576 := by omega
    clear hlx hn
    go_wp2_with fail
    refine (goesOn_any x u1).mono ?_
    rintro e u2 ⟨rfl, b2⟩
    have HE2 : Hid (Blk u2 w.heap.size zFl 67 ∧ Below w.heap.size w u2 ∧ Below u1.heap.size u1 u2) := ⟨HE1.out.1.keep b2, below_on HE1.out.2 (Nat.le_refl _) b2, b2⟩
    have HW1 : Hid (w.heap.size < u1.heap.size) := HE1.out.1.lt
    have HW12 : Hid (u1.heap.size ≤ u2.heap.size) := b2.size
    clear b2 HE1 c0 c1' c2 c3
    cases hon : onB x
    · have HON : Hid (onB x = false) := hon
      clear hon
      go_wp2_with fail
      refine (newGraph_any gb ob cb n E u2 hle hpos HEE.out.1 HEE.out.2 (HB.out.2.1.keep HE2.out.2.2) (fun b hb => by obtain ⟨f, l, q1, q2⟩ := HB.out.2.2.2.1 b hb; exact ⟨f, l, bcell_keep HE2.out.2.2 q1, bcell_keep HE2.out.2.2 q2⟩)).mono ?_
      rintro e u3 ⟨G, gN, cN, gF, gO, cO, gP, S, O, rfl, hgm⟩
      have HGM : Hid (GM u2 u3 n G gN cN gF gO cO gP E S O) := hgm
      have HE3 : Hid (Blk u3 w.heap.size zFl 67 ∧ Below w.heap.size w u3 ∧ Below u1.heap.size u1 u3 ∧ w.heap.size < u1.heap.size) := ⟨HE2.out.1.keep hgm.bel, below_on HE2.out.2.1 (Nat.le_refl _) hgm.bel, below_on HE2.out.2.2 (Nat.le_refl _) hgm.bel, HW1.out⟩
      clear hgm HE2
      obtain ⟨hOlt, hOnd, hOle, hOr⟩ := vs_facts hpos HEE.out.1 HGM.out.vs
      have HVO : Hid ((∀ x ∈ O, x < n) ∧ O.Nodup ∧ (∀ x ∈ O, Rch E (fun _ => True) 0 x)) := ⟨hOlt, hOnd, hOr⟩
      have HOR : Hid (∀ k x : Nat, O.reverse[k]? = some x → u3.cell? ⟨gO, k, none⟩ = some (.int .i64 (x : Int))) := fun k x hx => by
        have ho := HGM.out.ord
        rw [← List.length_reverse] at ho
        obtain ⟨_, _, ee, _, q⟩ := ho.rd.at_ hx
        simp only [Option.some.injEq, Addr.mk.injEq, and_true] at ee
        obtain ⟨rfl, rfl⟩ := ee
        rw [Nat.zero_add] at q
        exact q
      have HLO := lost_any G n gN cN gO cO O.reverse u3 hle (fun x hx => hOlt x (List.mem_reverse.1 hx)) (by rw [List.length_reverse]; omega) (HGM.out.blk.cell 0) (by rw [List.length_reverse]; exact HGM.out.blk.cell 2) HOR.out
      clear hOlt hOnd hOr
      go_wp2_with fail
      refine HLO.mono ?_
      rintro e u4 ⟨g9, cap9, zs, rfl, own9, hsrt, hmem, b4⟩
      have HE4 : Hid (Blk u4 w.heap.size zFl 67 ∧ Below w.heap.size w u4 ∧ Below u1.heap.size u1 u4 ∧ Below u3.heap.size u3 u4) := ⟨HE3.out.1.keep b4, below_on HE3.out.2.1 (Nat.le_refl _) b4, below_on HE3.out.2.2.1 (Nat.le_refl _) b4, b4⟩
      clear HLO b4
      cases zs with
      | cons z r =>
        obtain ⟨b, rfl, hbn, hbO⟩ := (hmem z).1 (List.mem_cons_self ..)
        have hbnI : (b : Int) < (n : Int) := by omega
        obtain ⟨m, hm⟩ : ∃ m, (specL xs)[b]? = some m := ⟨_, List.getElem?_eq_getElem (by rw [← HN.out.1]; exact hbn)⟩
        have m0 := bcell_keep HE4.out.2.2.1 (HB.out.2.2.1 b m hm)
        have z0 := own9.cellAt 0 (by simp)
        simp only [List.flatMap_cons, intCell, List.cons_append, List.getElem?_cons_zero] at z0
        have hlen : (0 : Int) < (((b : Int) :: r).length : Int) := by rw [List.length_cons]; omega
        have HFO : Hid (FlowOk xs (noFl 2 m.first)) := .lost HG.out.1 HG.out.2 HON.out (S := S) (O := O) (by rw [← HN.out.2]; exact HGM.out.vs) (by rw [← HN.out.1]; exact hbn) (fun q => hbO (List.mem_reverse.2 ((seen_told HGM.out.vs b).1 q))) (fun c hc => by
          refine (seen_told HGM.out.vs c).2 (List.mem_reverse.1 (Classical.byContradiction fun q => ?_))
          have h1 := (hmem (c : Int)).2 ⟨c, rfl, by omega, q⟩
          rcases List.mem_cons.1 h1 with e | e
          · omega
          · have := (List.pairwise_cons.1 hsrt).1 _ e
            omega) hm
        generalize hLL : ((b : Int) :: r).length = lz at hlen own9
        clear own9 hsrt hmem hm hLL
        have r0 : u4.cell? ⟨w.heap.size, 0, none⟩ = some (.int .i64 0) := HE4.out.1.cell 0
        have r1 : u4.cell? ⟨w.heap.size, 1, none⟩ = some (.int .i64 0) := HE4.out.1.cell 1
        have r2 : u4.cell? ⟨w.heap.size, 2, none⟩ = some (.slice none 0 0) := HE4.out.1.cell 2
        have r3 : u4.cell? ⟨w.heap.size, 3, none⟩ = some (.slice none 0 0) := HE4.out.1.cell 3
        have r4 : u4.cell? ⟨w.heap.size, 4, none⟩ = some (.slice none 0 0) := HE4.out.1.cell 4
        have r5 : u4.cell? ⟨w.heap.size, 5, none⟩ = some (.slice none 0 0) := HE4.out.1.cell 5
        have f0 := HE4.out.1.frozen 0
        have f1 := HE4.out.1.frozen 1
        have f2 := HE4.out.1.frozen 2
        have f3 := HE4.out.1.frozen 3
        have f4 := HE4.out.1.frozen 4
        have f5 := HE4.out.1.frozen 5
        go_wp2_with fail
        obtain ⟨q0, q1, q2, q3, q4, q5⟩ := six_cells HE4.out.1 (.int .i64 2) (.int .i64 m.first) (.slice none 0 0) (.slice none 0 0) (.slice none 0 0) (.slice none 0 0)
        simp only [six] at q0 q1 q2 q3 q4 q5
        exact bodyPost_ret (v := .agg #[.int .i64 2, .int .i64 m.first, .slice none 0 0, .slice none 0 0, .slice none 0 0, .slice none 0 0]) (by simp [results, Tryz.results78, go_sem, q0, q1, q2, q3, q4, q5]) rfl ⟨noFl 2 m.first, _, _, _, _, [], [], rfl, HFO.out, OwFl.none _ _ _ _, six_below HE4.out.2.1 (Nat.le_refl _) _ _ _ _ _ _⟩
      | nil =>
        have hall : ∀ c, c < n → c ∈ O := fun c hc => List.mem_reverse.1 (Classical.byContradiction fun q => by
          have := (hmem (c : Int)).2 ⟨c, rfl, hc, q⟩
          cases this)
        obtain ⟨hP, hnd, hOn, hOm, hO0⟩ := order_place hpos HEE.out.1 HGM.out.vs (fun c hc => (seen_told HGM.out.vs c).2 (hall c hc))
        have HPL : Hid (Place E n (plO O) ∧ O.Nodup ∧ (∀ x, x ∈ O ↔ x < n) ∧ O.length = n) := ⟨hP, hnd, hOm, hOn⟩
        clear own9 hsrt hmem hall hP hnd hOm hO0
        have HDO := dominate_any G n gN cN gF n gO cO gP n E O u4 hle HPL.out.1 HPL.out.2.2.2 HPL.out.2.1 HPL.out.2.2.1 (fun b => by have := fromL_len HEE.out.2 n b; omega) (by have ho := HGM.out.ord; unfold OwN at ho; rw [List.length_reverse] at ho; have := own_cap ho; rw [HPL.out.2.2.2] at this; exact this) (by have := HGM.out.blk.keep HE4.out.2.2.2; rw [HPL.out.2.2.2] at this; exact this) (HGM.out.fr.keep HE4.out.2.2.2) (fun k x hx => bcell_keep HE4.out.2.2.2 (HOR.out k x hx)) (fun x hx => bcell_keep HE4.out.2.2.2 (HGM.out.pl x ((HPL.out.2.2.1 x).2 hx))) ⟨HGM.out.ne.1, HGM.out.ne.2.1, HGM.out.ne.2.2.1, HGM.out.ne.2.2.2, fun b a c hb hc => by
          obtain ⟨a', c', q1, _⟩ := HGM.out.fr b hb
          rw [Nat.zero_add] at q1
          have q2 := bcell_keep HE4.out.2.2.2 q1
          rw [hc] at q2
          exact HGM.out.nf b a (fromL E n b).length c hb (q1.trans q2.symm)⟩
        go_wp2_with fail
        refine HDO.mono ?_
        rintro e u5 ⟨rfl, gi, I, hdw, hdone⟩
        have HGD : Hid (GD u2 u5 n G gN cN gF gO cO gP gi E O I ∧ DoneI E n (plO O) I) := ⟨GD.of HGM.out HPL.out.2.2.2 HPL.out.2.2.1 HE4.out.2.2.2 hdw, hdone⟩
        have HE5 : Hid (Blk u5 w.heap.size zFl 67 ∧ Below w.heap.size w u5 ∧ Below u1.heap.size u1 u5) := by
          have h1 := HGM.out.ge
          have h2 := HW12.out
          have h3 := HW1.out
          refine ⟨?_, HE4.out.2.1.trans (hdw.bel.mono (by omega)), HE4.out.2.2.1.trans (hdw.bel.mono (by omega))⟩
          have k := HE4.out.1
          unfold Blk at *
          rw [hdw.fx w.heap.size (Array.getElem?_eq_some_iff.1 k).1 (by omega)]
          exact k
        clear HDO hdw hdone
        obtain ⟨D, hD⟩ : ∃ D : Nat → Nat → Bool, ∀ d b, D d b = true ↔ Dom E d b := ⟨fun d b => @decide _ (Classical.propDecidable (Dom E d b)), fun d b => by simp⟩
        have HD : Hid (∀ d b, D d b = true ↔ Dom E d b) := hD
        clear hD
        have HBE := backEdges_any G n gN cN gP n gi n E O I D u5 hle HPL.out.1 HGD.out.2 HD.out HEE.out.2 (HGD.out.1.blk.cell 0) HGD.out.1.nx HGD.out.1.gi_
        go_wp2_with fail
        refine HBE.mono ?_
        rintro e u6 ⟨hback, b6⟩
        have HE6 : Hid (Blk u6 w.heap.size zFl 67 ∧ Below w.heap.size w u6 ∧ Below u1.heap.size u1 u6 ∧ GD u2 u6 n G gN cN gF gO cO gP gi E O I ∧ Below u5.heap.size u5 u6) := ⟨HE5.out.1.keep b6, below_on HE5.out.2.1 (Nat.le_refl _) b6, below_on HE5.out.2.2 (Nat.le_refl _) b6, HGD.out.1.keep b6, b6⟩
        clear HBE b6
        rcases hback with ⟨b, k, y, rfl, hbad⟩ | ⟨gB, FS, rfl, hnb, hbk, hFSl, hFS⟩
        · have hyn : y < n := HEE.out.1 b hbad.lt y (List.mem_of_getElem? hbad.at_)
          have hynI : (y : Int) < (n : Int) := by omega
          have hyB : ((y : Int) == -1) = false := by simp
          have hyN : ((y : Int) != -1) = true := by simp
          obtain ⟨m, hm⟩ : ∃ m, (specL xs)[y]? = some m := ⟨_, List.getElem?_eq_getElem (by rw [← HN.out.1]; exact hyn)⟩
          have m0 := bcell_keep HE6.out.2.2.1 (HB.out.2.2.1 y m hm)
          have HFO : Hid (FlowOk xs (noFl 3 m.first)) := by
            refine .two (D := D) (b := b) (k := k) (t := y) HG.out.1 HG.out.2 HON.out (S := S) (O := O) (by rw [← HN.out.2]; exact HGM.out.vs) (by rw [← HN.out.1]; exact fun c hc => (seen_told HGM.out.vs c).2 ((HPL.out.2.2.1 c).2 hc)) (by rw [← HN.out.2]; exact HD.out) ?_ hm
            rw [← HN.out.1, ← HN.out.2]
            exact hbad
          clear hm hbad
          have r0 : u6.cell? ⟨w.heap.size, 0, none⟩ = some (.int .i64 0) := HE6.out.1.cell 0
          have r1 : u6.cell? ⟨w.heap.size, 1, none⟩ = some (.int .i64 0) := HE6.out.1.cell 1
          have r2 : u6.cell? ⟨w.heap.size, 2, none⟩ = some (.slice none 0 0) := HE6.out.1.cell 2
          have r3 : u6.cell? ⟨w.heap.size, 3, none⟩ = some (.slice none 0 0) := HE6.out.1.cell 3
          have r4 : u6.cell? ⟨w.heap.size, 4, none⟩ = some (.slice none 0 0) := HE6.out.1.cell 4
          have r5 : u6.cell? ⟨w.heap.size, 5, none⟩ = some (.slice none 0 0) := HE6.out.1.cell 5
          have f0 := HE6.out.1.frozen 0
          have f1 := HE6.out.1.frozen 1
          have f2 := HE6.out.1.frozen 2
          have f3 := HE6.out.1.frozen 3
          have f4 := HE6.out.1.frozen 4
          have f5 := HE6.out.1.frozen 5
          go_wp2_with fail
          obtain ⟨q0, q1, q2, q3, q4, q5⟩ := six_cells HE6.out.1 (.int .i64 3) (.int .i64 m.first) (.slice none 0 0) (.slice none 0 0) (.slice none 0 0) (.slice none 0 0)
          simp only [six] at q0 q1 q2 q3 q4 q5
          exact bodyPost_ret (v := .agg #[.int .i64 3, .int .i64 m.first, .slice none 0 0, .slice none 0 0, .slice none 0 0, .slice none 0 0]) (by simp [results, Tryz.results78, go_sem, q0, q1, q2, q3, q4, q5]) rfl ⟨noFl 3 m.first, _, _, _, _, [], [], rfl, HFO.out, OwFl.none _ _ _ _, six_below HE6.out.2.1 (Nat.le_refl _) _ _ _ _ _ _⟩
        · have HBK : Hid (BK u5 u6 n gB FS ∧ (∀ b, b < n → ∀ t ∈ E b, ¬ Bad O D b t) ∧ FS.length = n ∧ ∀ x, x < n → ∃ V, FS[x]? = some (V, backL E D n x)) := ⟨hbk, hnb, hFSl, hFS⟩
          clear hbk hnb hFSl hFS
          obtain ⟨Lf, hLf⟩ : ∃ L : Nat → Nat → Bool, ∀ h y, L h y = true ↔ InLoop E D n h y := ⟨fun h y => @decide _ (Classical.propDecidable (InLoop E D n h y)), fun h y => by simp⟩
          have HLF : Hid (∀ h y, Lf h y = true ↔ InLoop E D n h y) := hLf
          clear hLf
          have bD := below_drew1 u6
          have HLC := loops_any G n gF n gB E D Lf FS u6.drew hle HEE.out.1 HEE.out.2 HLF.out ((HE6.out.2.2.2.1.blk.keep bD).cell 1) (HE6.out.2.2.2.1.fr.keep bD) (fun x hx => by
            obtain ⟨V, hV⟩ := HBK.out.2.2.2 x hx
            refine ⟨V, hV, ?_, ?_⟩
            · have := (HBK.out.1.keep bD).frow.cellAt x (by omega)
              rw [List.getElem?_map, hV] at this
              exact this
            · have := Rd.of_own ((HBK.out.1.keep bD).fam.own (V, ints (backL E D n x)) (List.mem_map.2 ⟨(V, _), List.mem_of_getElem? hV, rfl⟩))
              simp only [ints_length] at this
              rw [← nv_flat] at this
              exact this)
          have HLC' : Hid (Calls Tryz.prog 116 #[.pointer (some ⟨G, 0, none⟩), .slice (some ⟨gB, 0, none⟩) n n] u6.drew fun e w' => ∃ V, e = .returned V ∧ ∃ ys, LP u6.drew w' V ys ∧ ys.map Prod.fst = loopsTo E D Lf n n ∧ List.Sublist (ys.map fun y => (y.2.1, y.1.back)) (FS.map fun x => (x.1, ints x.2))) := HLC
          have x2 : u6.drew.cell? ⟨G, 2, none⟩ = some (.slice (some ⟨gO, 0, none⟩) n cO) := (HE6.out.2.2.2.1.blk.keep bD).cell 2
          have x4 : u6.drew.cell? ⟨G, 4, none⟩ = some (.slice (some ⟨gi, 0, none⟩) n n) := (HE6.out.2.2.2.1.blk.keep bD).cell 4
          clear bD HLC
          go_upto_region 15 with fail
          go_region_law ((go_simp; go_at_call 116; refine HLC'.out.mono ?_; rintro e u7 ⟨VL, rfl, ys, hlp, hys, hsub⟩; obtain ⟨aL, cL, rfl⟩ := own_slice hlp.lps; have B7 : Hid (Below u6.heap.size u6 u7) := below_drew_trans hlp.bel (Nat.le_refl _); have H7 : Hid (LP u6.drew u7 (.slice aL ys.length cL) ys ∧ ys.map Prod.fst = loopsTo E D Lf n n ∧ List.Sublist (ys.map fun y => (y.2.1, y.1.back)) (FS.map fun x => (x.1, ints x.2))) := ⟨hlp, hys, hsub⟩; have y2 : u7.cell? ⟨G, 2, none⟩ = some (.slice (some ⟨gO, 0, none⟩) n cO) := (HE6.out.2.2.2.1.blk.keep B7.out).cell 2; have y4 : u7.cell? ⟨G, 4, none⟩ = some (.slice (some ⟨gi, 0, none⟩) n n) := (HE6.out.2.2.2.1.blk.keep B7.out).cell 4; have r0 : u7.cell? ⟨w.heap.size, 0, none⟩ = some (.int .i64 0) := (HE6.out.1.keep B7.out).cell 0; have r1 : u7.cell? ⟨w.heap.size, 1, none⟩ = some (.int .i64 0) := (HE6.out.1.keep B7.out).cell 1; have r2 : u7.cell? ⟨w.heap.size, 2, none⟩ = some (.slice none 0 0) := (HE6.out.1.keep B7.out).cell 2; have r3 : u7.cell? ⟨w.heap.size, 3, none⟩ = some (.slice none 0 0) := (HE6.out.1.keep B7.out).cell 3; have r4 : u7.cell? ⟨w.heap.size, 4, none⟩ = some (.slice none 0 0) := (HE6.out.1.keep B7.out).cell 4; have r5 : u7.cell? ⟨w.heap.size, 5, none⟩ = some (.slice none 0 0) := (HE6.out.1.keep B7.out).cell 5; have f0 := (HE6.out.1.keep B7.out).frozen 0; have f1 := (HE6.out.1.keep B7.out).frozen 1; have f2 := (HE6.out.1.keep B7.out).frozen 2; have f3 := (HE6.out.1.keep B7.out).frozen 3; have f4 := (HE6.out.1.keep B7.out).frozen 4; have f5 := (HE6.out.1.keep B7.out).frozen 5; clear hlp hys hsub))
          all_goals
            have HFO : Hid (FlowOk xs ⟨0, 0, specL xs, ints O.reverse, (List.range n).map I, loopsTo E D Lf n n⟩) := flow_good HN.out.1 HN.out.2 HG.out.1 HG.out.2 HON.out HGM.out.vs (fun c hc => (seen_told HGM.out.vs c).2 ((HPL.out.2.2.1 c).2 hc)) HD.out HBK.out.2.1 (done_idom HGD.out.2) HLF.out
            have HOF : Hid (OwFl (six u7 w.heap.size (.int .i64 0) (.int .i64 0) (.slice (some ⟨gb, ob, none⟩) n cb) (.slice (some ⟨gO, 0, none⟩) n cO) (.slice (some ⟨gi, 0, none⟩) n n) (.slice aL ys.length cL)) w.heap.size (.slice (some ⟨gb, ob, none⟩) n cb) (.slice (some ⟨gO, 0, none⟩) n cO) (.slice (some ⟨gi, 0, none⟩) n n) (.slice aL ys.length cL) F ys ⟨0, 0, specL xs, ints O.reverse, (List.range n).map I, loopsTo E D Lf n n⟩) := own_final HB.out.1 HB.out.2.2.2.2 HW1.out HW12.out HE6.out.2.2.1 HGD.out.1 HE6.out.2.2.2.1 HPL.out.2.2.2 HE6.out.2.2.2.2 HBK.out.1 B7.out H7.out.1 H7.out.2.1 H7.out.2.2 _ _ _ _ _ _
            have HB7 : Hid (Blk u7 w.heap.size zFl 67 ∧ Below w.heap.size w u7) := ⟨HE6.out.1.keep B7.out, below_on HE6.out.2.1 (Nat.le_refl _) B7.out⟩
            clear x2 x4 y2 y4 r0 r1 r2 r3 r4 r5 f0 f1 f2 f3 f4 f5
            go_wp2_with fail
            obtain ⟨q0, q1, q2, q3, q4, q5⟩ := six_cells HB7.out.1 (.int .i64 0) (.int .i64 0) (.slice (some ⟨gb, ob, none⟩) n cb) (.slice (some ⟨gO, 0, none⟩) n cO) (.slice (some ⟨gi, 0, none⟩) n n) (.slice aL ys.length cL)
            simp only [six] at q0 q1 q2 q3 q4 q5
            exact bodyPost_ret (v := .agg #[.int .i64 0, .int .i64 0, .slice (some ⟨gb, ob, none⟩) n cb, .slice (some ⟨gO, 0, none⟩) n cO, .slice (some ⟨gi, 0, none⟩) n n, .slice aL ys.length cL]) (by simp [results, Tryz.results78, go_sem, q0, q1, q2, q3, q4, q5]) rfl ⟨⟨0, 0, specL xs, ints O.reverse, (List.range n).map I, loopsTo E D Lf n n⟩, _, _, _, _, F, ys, rfl, HFO.out, HOF.out, six_below HB7.out.2 (Nat.le_refl _) _ _ _ _ _ _⟩
    · have r0 : u2.cell? ⟨w.heap.size, 0, none⟩ = some (.int .i64 0) := HE2.out.1.cell 0
      have r1 : u2.cell? ⟨w.heap.size, 1, none⟩ = some (.int .i64 0) := HE2.out.1.cell 1
      have r2 : u2.cell? ⟨w.heap.size, 2, none⟩ = some (.slice none 0 0) := HE2.out.1.cell 2
      have r3 : u2.cell? ⟨w.heap.size, 3, none⟩ = some (.slice none 0 0) := HE2.out.1.cell 3
      have r4 : u2.cell? ⟨w.heap.size, 4, none⟩ = some (.slice none 0 0) := HE2.out.1.cell 4
      have r5 : u2.cell? ⟨w.heap.size, 5, none⟩ = some (.slice none 0 0) := HE2.out.1.cell 5
      have f0 := HE2.out.1.frozen 0
      have f1 := HE2.out.1.frozen 1
      have f2 := HE2.out.1.frozen 2
      have f3 := HE2.out.1.frozen 3
      have f4 := HE2.out.1.frozen 4
      have f5 := HE2.out.1.frozen 5
      go_wp2_with fail
      obtain ⟨q0, q1, q2, q3, q4, q5⟩ := six_cells HE2.out.1 (.int .i64 1) (.int .i64 (lx : Int)) (.slice none 0 0) (.slice none 0 0) (.slice none 0 0) (.slice none 0 0)
      simp only [six] at q0 q1 q2 q3 q4 q5
      refine bodyPost_ret (v := .agg #[.int .i64 1, .int .i64 (lx : Int), .slice none 0 0, .slice none 0 0, .slice none 0 0, .slice none 0 0]) (by simp [results, Tryz.results78, go_sem, q0, q1, q2, q3, q4, q5]) rfl ⟨noFl 1 ((xs.length : Int) - 1), _, _, _, _, [], [], ?_, .off HG.out.1 HG.out.2 hon, OwFl.none _ _ _ _, six_below HE2.out.2.1 (Nat.le_refl _) _ _ _ _ _ _⟩
      have : ((xs.length : Int) - 1) = (lx : Int) := by rw [HLX.out]; omega
      simp only [noFl, this]
end Go.Proofs.YtifpjgdnikkekaaGreat
