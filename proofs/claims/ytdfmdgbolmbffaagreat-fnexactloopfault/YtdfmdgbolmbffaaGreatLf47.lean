import Derived.Test.YtdfmdgbolmbffaaGreatLf46
import Derived.BigRegion
namespace Go.Proofs.YtdfmdgbolmbffaaGreat
open Go.ChangeShapes Go.WideShapes Go.ChangeAt Go.RowKit
set_option linter.unusedVariables false
set_option maxHeartbeats 4000000 in
set_option maxRecDepth 100000 in
theorem isThis_any (a l : ML) (a1 : Option Addr) (c1 : Nat) (a2 : Option Addr) (c2 : Nat) (x y : SlV) (B : Nat) (w : World) (ha : a.back.length ≤ 1048576 ∧ a.blocks.length ≤ 1048576) (hl : l.back.length ≤ 1048576 ∧ l.blocks.length ≤ 1048576) (h : RdL w (a, .slice a1 a.back.length c1, .slice a2 a.blocks.length c2)) (h' : RdL w (l, .slice x.a x.n x.c, .slice y.a y.n y.c)) (hB : Blk w B #[.int .i64 l.head, .slice x.a x.n x.c, .slice y.a y.n y.c] 53) :
    Calls Tryz.prog 56 #[.agg #[.int .i64 a.head, .slice a1 a.back.length c1, .slice a2 a.blocks.length c2], .pointer (some ⟨B, 0, none⟩)] w fun e w' => SaysIff e (a = l) ∧ Below w.heap.size w w' := by
  have H : Hid (RdL w (a, .slice a1 a.back.length c1, .slice a2 a.blocks.length c2) ∧ RdL w (l, .slice x.a x.n x.c, .slice y.a y.n y.c) ∧ (a.back.length ≤ 1048576 ∧ a.blocks.length ≤ 1048576) ∧ (l.back.length ≤ 1048576 ∧ l.blocks.length ≤ 1048576)) := ⟨h, h', ha, hl⟩
  have E0 : Hid (Blk (w.alloc (.cells #[.int .i64 a.head, .slice a1 a.back.length c1, .slice a2 a.blocks.length c2] 53)) w.heap.size #[.int .i64 a.head, .slice a1 a.back.length c1, .slice a2 a.blocks.length c2] 53 ∧ Blk (w.alloc (.cells #[.int .i64 a.head, .slice a1 a.back.length c1, .slice a2 a.blocks.length c2] 53)) B #[.int .i64 l.head, .slice x.a x.n x.c, .slice y.a y.n y.c] 53 ∧ Below w.heap.size w (w.alloc (.cells #[.int .i64 a.head, .slice a1 a.back.length c1, .slice a2 a.blocks.length c2] 53))) := ⟨Blk.new _ _ _, hB.keep (below_alloc _ _), below_alloc _ _⟩
  clear h h' ha hl hB
  go_enter Tryz.func56, Tryz.ntmps56
  go_upto_region 1 with fail
  refine wp_world (fun u => Hid (Blk u w.heap.size #[.int .i64 a.head, .slice a1 a.back.length c1, .slice a2 a.blocks.length c2] 53 ∧ Blk u B #[.int .i64 l.head, .slice x.a x.n x.c, .slice y.a y.n y.c] 53 ∧ Below w.heap.size w u)) E0 ?_
  rintro U HE
  clear E0
  obtain ⟨p0, p1, p2⟩ := blk3 HE.out.1
  obtain ⟨o0, o1, o2⟩ := blk3 HE.out.2.1
  go_wp2_with fail
  refine (sameLoop_any a l (.slice a1 a.back.length c1) (.slice a2 a.blocks.length c2) (.slice x.a x.n x.c) (.slice y.a y.n y.c) U H.out.2.2.1 H.out.2.2.2 (RdLv.keep (v := ⟨.slice a1 a.back.length c1, .slice a2 a.blocks.length c2⟩) H.out.1 HE.out.2.2 (Nat.le_refl _)) (RdLv.keep (v := ⟨.slice x.a x.n x.c, .slice y.a y.n y.c⟩) H.out.2.1 HE.out.2.2 (Nat.le_refl _))).mono ?_
  rintro e u1 ⟨⟨b, rfl, hb⟩, bb⟩
  have HB : Hid (Below w.heap.size w u1 ∧ (b = true ↔ a = l)) := ⟨below_on HE.out.2.2 (Nat.le_refl _) bb, hb⟩
  clear bb hb HE p0 p1 p2 o0 o1 o2
  go_wp2
  go_ret
  exact ⟨.of HB.out.2, HB.out.1⟩
set_option maxHeartbeats 4000000 in
set_option maxRecDepth 100000 in
theorem indexFunc_any (s : Option Addr) (sc : Nat) (ls : List ML) (l : ML) (x y : SlV) (B : Nat) (w : World) (hn : ls.length ≤ 1048576) (hs : ∀ m ∈ ls, m.back.length ≤ 1048576 ∧ m.blocks.length ≤ 1048576) (hl : l.back.length ≤ 1048576 ∧ l.blocks.length ≤ 1048576) (h : RdLs w (.slice s ls.length sc) ls) (h' : RdL w (l, .slice x.a x.n x.c, .slice y.a y.n y.c)) (hB : Blk w B #[.int .i64 l.head, .slice x.a x.n x.c, .slice y.a y.n y.c] 53) :
    Calls Tryz.prog 90 #[.slice s ls.length sc, .func (.func 56) #[] #[.pointer (some ⟨B, 0, none⟩)]] w fun e w' => (∃ n : Int, e = .returned (.int .i64 n) ∧ (0 ≤ n ↔ l ∈ ls)) ∧ Below w.heap.size w w' := by
  have H : Hid (RdLs w (.slice s ls.length sc) ls ∧ RdL w (l, .slice x.a x.n x.c, .slice y.a y.n y.c) ∧ Blk w B #[.int .i64 l.head, .slice x.a x.n x.c, .slice y.a y.n y.c] 53 ∧ (∀ m ∈ ls, m.back.length ≤ 1048576 ∧ m.blocks.length ≤ 1048576) ∧ (l.back.length ≤ 1048576 ∧ l.blocks.length ≤ 1048576)) := ⟨h, h', hB, hs, hl⟩
  clear h h' hB hs hl
  go_enter Tryz.func90, Tryz.ntmps90
  go_wp2
  go_loopw [8] (fun i wr => ∃ k : Nat, k ≤ ls.length ∧ i = .int .i64 k ∧ Hid (∀ j : Nat, j < k → ¬ ls[j]? = some l) ∧ Hid (Below w.heap.size w wr)) (fun i _ => ls.length - (intOf i).toNat)
  case atStart => exact ⟨0, by omega, rfl, fun j hj => absurd hj (by omega), Below.refl _ _⟩
  case round =>
  obtain ⟨k, hk, rfl, HT, HB⟩ := hrel
  by_cases hlt : k < ls.length
  case pos =>
    obtain ⟨m, hm⟩ : ∃ m, ls[k]? = some m := ⟨_, List.getElem?_eq_getElem hlt⟩
    obtain ⟨gl, ol, a1, x1, a2, x2, ev, i0, i1, i2, hrl⟩ := loop_at (H.out.1.keep HB.out (Nat.le_refl _)) hm
    subst ev
    have HM : Hid (ls[k]? = some m ∧ RdL wr (m, .slice a1 m.back.length x1, .slice a2 m.blocks.length x2)) := ⟨hm, hrl⟩
    clear hm hrl
    go_wp2_with fail
    refine (isThis_any m l a1 x1 a2 x2 x y B wr (H.out.2.2.2.1 m (List.mem_of_getElem? HM.out.1)) H.out.2.2.2.2 HM.out.2 (RdLv.keep (v := ⟨.slice x.a x.n x.c, .slice y.a y.n y.c⟩) H.out.2.1 HB.out (Nat.le_refl _)) (H.out.2.2.1.keep HB.out)).mono ?_
    rintro e u1 ⟨⟨b, rfl, hb⟩, bb⟩
    have HB1 : Hid (Below w.heap.size w u1 ∧ (b = true ↔ m = l)) := ⟨below_on HB.out (Nat.le_refl _) bb, hb⟩
    clear bb hb i0 i1 i2
    cases b
    case true =>
      have HY : Hid (l ∈ ls) := by
        have := HB1.out.2.1 rfl
        rw [← this]
        exact List.mem_of_getElem? HM.out.1
      go_wp2
      go_ret
      exact ⟨⟨(k : Int), rfl, ⟨fun _ => HY.out, fun _ => by omega⟩⟩, HB1.out.1⟩
    case false =>
      have HT' : Hid (∀ j : Nat, j < k + 1 → ¬ ls[j]? = some l) := fun j hj e => by
        by_cases ej : j = k
        · subst ej
          rw [HM.out.1] at e
          have := HB1.out.2.2 (Option.some.inj e)
          cases this
        · exact HT.out j (by omega) e
      go_wp2
      go_roundw
      case rel => exact ⟨k + 1, by omega, by go_num, HT'.out, HB1.out.1⟩
      case measure => simp [intOf]; omega
  have hkn : k = ls.length := by omega
  subst hkn
  have HN : Hid (¬ l ∈ ls) := fun e => by
    obtain ⟨j, hj⟩ := List.getElem?_of_mem e
    exact HT.out j (List.getElem?_eq_some_iff.1 hj).1 hj
  go_wp2
  go_ret
  exact ⟨⟨-1, rfl, ⟨fun e => absurd e (by decide), fun e => absurd e HN.out⟩⟩, HB.out⟩
set_option maxHeartbeats 4000000 in
set_option maxRecDepth 100000 in
theorem containsFunc_any (s : Option Addr) (sc : Nat) (ls : List ML) (l : ML) (x y : SlV) (B : Nat) (w : World) (hn : ls.length ≤ 1048576) (hs : ∀ m ∈ ls, m.back.length ≤ 1048576 ∧ m.blocks.length ≤ 1048576) (hl : l.back.length ≤ 1048576 ∧ l.blocks.length ≤ 1048576) (h : RdLs w (.slice s ls.length sc) ls) (h' : RdL w (l, .slice x.a x.n x.c, .slice y.a y.n y.c)) (hB : Blk w B #[.int .i64 l.head, .slice x.a x.n x.c, .slice y.a y.n y.c] 53) :
    Calls Tryz.prog 58 #[.slice s ls.length sc, .func (.func 56) #[] #[.pointer (some ⟨B, 0, none⟩)]] w fun e w' => SaysIff e (l ∈ ls) ∧ Below w.heap.size w w' := by
  have H : Hid (RdLs w (.slice s ls.length sc) ls ∧ RdL w (l, .slice x.a x.n x.c, .slice y.a y.n y.c) ∧ Blk w B #[.int .i64 l.head, .slice x.a x.n x.c, .slice y.a y.n y.c] 53 ∧ (∀ m ∈ ls, m.back.length ≤ 1048576 ∧ m.blocks.length ≤ 1048576) ∧ (l.back.length ≤ 1048576 ∧ l.blocks.length ≤ 1048576)) := ⟨h, h', hB, hs, hl⟩
  clear h h' hB hs hl
  go_enter Tryz.func58, Tryz.ntmps58
  go_wp2_with fail
  refine (indexFunc_any s sc ls l x y B w hn H.out.2.2.2.1 H.out.2.2.2.2 H.out.1 H.out.2.1 H.out.2.2.1).mono ?_
  rintro e u1 ⟨⟨n, rfl, hnn⟩, bb⟩
  have HB : Hid (Below w.heap.size w u1 ∧ (0 ≤ n ↔ l ∈ ls)) := ⟨bb, hnn⟩
  clear bb hnn
  go_wp2
  go_ret
  exact ⟨.of (by simpa using HB.out.2), HB.out.1⟩
end Go.Proofs.YtdfmdgbolmbffaaGreat
namespace Go.Proofs.YtdfmdgbolmbffaaGreat
open Go.ChangeShapes Go.WideShapes Go.ChangeAt Go.RowKit
set_option linter.unusedVariables false
set_option maxHeartbeats 8000000 in
set_option maxRecDepth 100000 in
theorem bodyOf_any (r k f t pp ll cc b o i q : SlV) (rs co at_ : Int) (n gk ok : Nat) (w : World) (hn : n < f.n)
    (m0 : w.cell? ⟨gk, ok + n * 4, none⟩ = some (.slice pp.a pp.n pp.c)) (m1 : w.cell? ⟨gk, ok + n * 4 + 1, none⟩ = some (.int .i64 rs)) (m2 : w.cell? ⟨gk, ok + n * 4 + 2, none⟩ = some (.slice ll.a ll.n ll.c)) (m3 : w.cell? ⟨gk, ok + n * 4 + 3, none⟩ = some (.slice cc.a cc.n cc.c)) :
    Calls Tryz.prog 59 #[.agg #[.slice r.a r.n r.c, .slice k.a k.n k.c, .slice (some ⟨gk, ok, none⟩) f.n f.c, .slice t.a t.n t.c], .int .i64 (n : Int), .agg #[.int .i64 co, .int .i64 at_, .slice b.a b.n b.c, .slice o.a o.n o.c, .slice i.a i.n i.c, .slice q.a q.n q.c]] w fun e w' => e = .returned (.agg (BdV.cells ⟨r, k, ⟨some ⟨gk, ok, none⟩, f.n, f.c⟩, t, pp, rs, ll, cc, (n : Int), co, at_, b, o, i, q⟩)) ∧ Below w.heap.size w w' := by
  have E0 := three_new w #[.slice r.a r.n r.c, .slice k.a k.n k.c, .slice (some ⟨gk, ok, none⟩) f.n f.c, .slice t.a t.n t.c] #[.int .i64 co, .int .i64 at_, .slice b.a b.n b.c, .slice o.a o.n o.c, .slice i.a i.n i.c, .slice q.a q.n q.c] #[.slice none 0 0, .slice none 0 0, .slice none 0 0, .slice none 0 0, .slice none 0 0, .int .i64 0, .slice none 0 0, .slice none 0 0, .int .i64 0, .int .i64 0, .int .i64 0, .slice none 0 0, .slice none 0 0, .slice none 0 0, .slice none 0 0] 36 67 106
  have M : Hid (w.cell? ⟨gk, ok + n * 4, none⟩ = some (.slice pp.a pp.n pp.c) ∧ w.cell? ⟨gk, ok + n * 4 + 1, none⟩ = some (.int .i64 rs) ∧ w.cell? ⟨gk, ok + n * 4 + 2, none⟩ = some (.slice ll.a ll.n ll.c) ∧ w.cell? ⟨gk, ok + n * 4 + 3, none⟩ = some (.slice cc.a cc.n cc.c)) := ⟨m0, m1, m2, m3⟩
  clear m0 m1 m2 m3
  unfold BdV.cells
  go_enter Tryz.func59, Tryz.ntmps59
  go_upto_region 1 with fail
  refine wp_world (fun u => Hid (Blk u w.heap.size #[.slice r.a r.n r.c, .slice k.a k.n k.c, .slice (some ⟨gk, ok, none⟩) f.n f.c, .slice t.a t.n t.c] 36 ∧ Blk u (w.heap.size + 1) #[.int .i64 co, .int .i64 at_, .slice b.a b.n b.c, .slice o.a o.n o.c, .slice i.a i.n i.c, .slice q.a q.n q.c] 67 ∧ Blk u (w.heap.size + 1 + 1) #[.slice none 0 0, .slice none 0 0, .slice none 0 0, .slice none 0 0, .slice none 0 0, .int .i64 0, .slice none 0 0, .slice none 0 0, .int .i64 0, .int .i64 0, .int .i64 0, .slice none 0 0, .slice none 0 0, .slice none 0 0, .slice none 0 0] 106 ∧ Below w.heap.size w u)) E0 ?_
  rintro U E1
  clear E0
  obtain ⟨p0, p1, p2, p3⟩ := cel4 E1.out.1
  obtain ⟨y0, y1, y2, y3, y4, y5⟩ := cel6 E1.out.2.1
  obtain ⟨m0, m1, m2, m3⟩ := M.out
  rw [← E1.out.2.2.2.cell (block_lt_of_cell m0)] at m0
  rw [← E1.out.2.2.2.cell (block_lt_of_cell m1)] at m1
  rw [← E1.out.2.2.2.cell (block_lt_of_cell m2)] at m2
  rw [← E1.out.2.2.2.cell (block_lt_of_cell m3)] at m3
  have HR : Hid (Blk U (w.heap.size + 1 + 1) #[.slice none 0 0, .slice none 0 0, .slice none 0 0, .slice none 0 0, .slice none 0 0, .int .i64 0, .slice none 0 0, .slice none 0 0, .int .i64 0, .int .i64 0, .int .i64 0, .slice none 0 0, .slice none 0 0, .slice none 0 0, .slice none 0 0] 106) := E1.out.2.2.1
  have z0 := HR.out.cell 0
  have fz0 := HR.out.frozen 0
  have z1 := HR.out.cell 1
  have fz1 := HR.out.frozen 1
  have z2 := HR.out.cell 2
  have fz2 := HR.out.frozen 2
  have z3 := HR.out.cell 3
  have fz3 := HR.out.frozen 3
  have z4 := HR.out.cell 4
  have fz4 := HR.out.frozen 4
  have z5 := HR.out.cell 5
  have fz5 := HR.out.frozen 5
  have z6 := HR.out.cell 6
  have fz6 := HR.out.frozen 6
  have z7 := HR.out.cell 7
  have fz7 := HR.out.frozen 7
  have z8 := HR.out.cell 8
  have fz8 := HR.out.frozen 8
  have z9 := HR.out.cell 9
  have fz9 := HR.out.frozen 9
  have z10 := HR.out.cell 10
  have fz10 := HR.out.frozen 10
  have z11 := HR.out.cell 11
  have fz11 := HR.out.frozen 11
  have z12 := HR.out.cell 12
  have fz12 := HR.out.frozen 12
  have z13 := HR.out.cell 13
  have fz13 := HR.out.frozen 13
  have z14 := HR.out.cell 14
  have fz14 := HR.out.frozen 14
  simp only [List.getElem?_toArray, List.getElem?_cons_zero, List.getElem?_cons_succ] at z0 z1 z2 z3 z4 z5 z6 z7 z8 z9 z10 z11 z12 z13 z14
  have hnI : (n : Int) < (f.n : Int) := by omega
  have s1 : ¬ gk = w.heap.size + 1 + 1 := by
    have := M.out.1
    have := block_lt_of_cell this
    simp only [] at this
    omega
  go_region
  have G : Hid _ := (((((((((((((((HR.out.set 0 (.slice r.a r.n r.c)).set 1 (.slice k.a k.n k.c)).set 2 (.slice (some ⟨gk, ok, none⟩) f.n f.c)).set 3 (.slice t.a t.n t.c)).set 4 (.slice pp.a pp.n pp.c)).set 5 (.int .i64 rs)).set 6 (.slice ll.a ll.n ll.c)).set 7 (.slice cc.a cc.n cc.c)).set 8 (.int .i64 (n : Int))).set 9 (.int .i64 co)).set 10 (.int .i64 at_)).set 11 (.slice b.a b.n b.c)).set 12 (.slice o.a o.n o.c)).set 13 (.slice i.a i.n i.c)).set 14 (.slice q.a q.n q.c))
  simp only [List.setIfInBounds_toArray, List.set_cons_zero, List.set_cons_succ] at G
  refine with_world (fun u => Hid (Blk u (w.heap.size + 1 + 1) #[.slice r.a r.n r.c, .slice k.a k.n k.c, .slice (some ⟨gk, ok, none⟩) f.n f.c, .slice t.a t.n t.c, .slice pp.a pp.n pp.c, .int .i64 rs, .slice ll.a ll.n ll.c, .slice cc.a cc.n cc.c, .int .i64 (n : Int), .int .i64 co, .int .i64 at_, .slice b.a b.n b.c, .slice o.a o.n o.c, .slice i.a i.n i.c, .slice q.a q.n q.c] 106 ∧ Below w.heap.size w u)) ?_ ?_
  · exact ⟨Blk.keep (b := w.heap.size + 1 + 1) (t := 106) G.out (below_drew1 _), below_on (((((((((((((((E1.out.2.2.2.setCell (by simp only []; omega) _).setCell (by simp only []; omega) _).setCell (by simp only []; omega) _).setCell (by simp only []; omega) _).setCell (by simp only []; omega) _).setCell (by simp only []; omega) _).setCell (by simp only []; omega) _).setCell (by simp only []; omega) _).setCell (by simp only []; omega) _).setCell (by simp only []; omega) _).setCell (by simp only []; omega) _).setCell (by simp only []; omega) _).setCell (by simp only []; omega) _).setCell (by simp only []; omega) _).setCell (by simp only []; omega) _) (Nat.le_refl _) (below_drew1 _)⟩
  rintro U2 E2
  clear G HR E1 p0 p1 p2 p3 y0 y1 y2 y3 y4 y5 m0 m1 m2 m3 z0 fz0 z1 fz1 z2 fz2 z3 fz3 z4 fz4 z5 fz5 z6 fz6 z7 fz7 z8 fz8 z9 fz9 z10 fz10 z11 fz11 z12 fz12 z13 fz13 z14 fz14 s1
  obtain ⟨x0, x1, x2, x3, x4, x5, x6, x7, x8, x9, x10, x11, x12, x13, x14⟩ := cel15 (v := ⟨r, k, ⟨some ⟨gk, ok, none⟩, f.n, f.c⟩, t, pp, rs, ll, cc, (n : Int), co, at_, b, o, i, q⟩) E2.out.1
  simp only [] at x0 x1 x2 x3 x4 x5 x6 x7 x8 x9 x10 x11 x12 x13 x14
  go_wp2
  exact bodyPost_ret (v := .agg #[.slice r.a r.n r.c, .slice k.a k.n k.c, .slice (some ⟨gk, ok, none⟩) f.n f.c, .slice t.a t.n t.c, .slice pp.a pp.n pp.c, .int .i64 rs, .slice ll.a ll.n ll.c, .slice cc.a cc.n cc.c, .int .i64 (n : Int), .int .i64 co, .int .i64 at_, .slice b.a b.n b.c, .slice o.a o.n o.c, .slice i.a i.n i.c, .slice q.a q.n q.c]) (by simp [results, Tryz.results59, go_sem, x0, x1, x2, x3, x4, x5, x6, x7, x8, x9, x10, x11, x12, x13, x14]) rfl ⟨rfl, E2.out.2⟩
end Go.Proofs.YtdfmdgbolmbffaaGreat
