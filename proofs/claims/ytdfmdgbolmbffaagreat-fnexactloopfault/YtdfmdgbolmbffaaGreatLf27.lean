import Derived.Test.YtdfmdgbolmbffaaGreatLf18
import Derived.Deep.AppendLies
namespace Go.Proofs.YtdfmdgbolmbffaaGreat
open Go.ChangeShapes Go.WideShapes Go.ChangeAt Go.RowKit
set_option linter.unusedVariables false
theorem blk4 {u : World} {X : Nat} {x0 x1 x2 x3 : Value} {t : TypeId} (h : Blk u X #[x0, x1, x2, x3] t) : u.cell? ⟨X, 0, none⟩ = some x0 ∧ u.cell? ⟨X, 1, none⟩ = some x1 ∧ u.cell? ⟨X, 2, none⟩ = some x2 ∧ u.cell? ⟨X, 3, none⟩ = some x3 :=
  ⟨h.cell 0, h.cell 1, h.cell 2, h.cell 3⟩
theorem w64_small {z : Int} (h0 : 0 ≤ z) (h1 : z ≤ 1048576) : W64 z := WalkArith.wf_i64 (by omega)
set_option maxHeartbeats 4000000 in
set_option maxRecDepth 100000 in
theorem leadersOf_any (s : Value) (xs : List MI) (w : World) (hg : CodeGood xs) (h : Rd w 4 s xs.length (xs.flatMap MI.cells)) :
    Calls Tryz.prog 137 #[s] w fun e w' => ∃ g cap, e = .returned (.slice (some ⟨g, 0, none⟩) (lds xs xs.length).length cap) ∧ w'.ownsRow w.heap.size 2 1 (.slice (some ⟨g, 0, none⟩) (lds xs xs.length).length cap) (lds xs xs.length).length (((lds xs xs.length).map Int.ofNat).flatMap intCell) ∧ Below w.heap.size w w' := by
  have H : Hid (Rd w 4 s xs.length (xs.flatMap MI.cells)) := h
  have HG : Hid (CodeGood xs) := hg
  have hg1 := hg.1
  have hg2 := hg.2.1
  obtain ⟨a1, c1, rfl⟩ := h.is_slice
  clear h hg
  generalize hLL : xs.length = n at H hg1 hg2
  have HL : Hid (xs.length = n) := hLL
  clear hLL
  have hmm := @run_makeMap Tryz.prog
  have S0 : SetAt (w.alloc (.map #[] 0)) w.heap.size 0 (.map []) := World.ownsMap_made _ _ _ _
  have B0 : Below w.heap.size w (w.alloc (.map #[] 0)) := below_alloc _ _
  have z0 : (w.alloc (.map #[] 0)).heap.size = w.heap.size + 1 := by simp
  have hce : ((w.alloc (.map #[] 0)).alloc (.cells #[.int .i64 0] 2)).cell? ⟨w.heap.size + 1, 0, none⟩ = some (.int .i64 0) := by
    have := (Blk.new (w.alloc (.map #[] 0)) #[.int .i64 0] 2).cell 0
    rw [z0] at this
    exact this
  have S1 : Hid (SetAt ((w.alloc (.map #[] 0)).alloc (.cells #[.int .i64 0] 2)) w.heap.size 0 (.map []) ∧ Below w.heap.size w ((w.alloc (.map #[] 0)).alloc (.cells #[.int .i64 0] 2))) := ⟨S0.keep (below_alloc _ _), below_on B0 (Nat.le_refl _) (below_alloc _ _)⟩
  have HCE : Hid _ := hce
  clear S0 B0 z0 hce
  go_enter Tryz.func137, Tryz.ntmps137
  go_wp2_with fail
  refine (add_one w.heap.size 0 (w.heap.size + 1) 1 (.map []) 0 _ (w64_small (by omega) (by omega)) (by omega) HCE.out (by omega) S1.out.1).mono ?_
  rintro e u1 ⟨rfl, s1, g1⟩
  have HS : Hid (∃ cnt D, cnt ≤ 1 ∧ SetAt u1 w.heap.size cnt D ∧ HasIs D xs 0 ∧ Below w.heap.size w u1) := ⟨_, _, Nat.le_refl _, s1, HasIs.start xs _, S1.out.2.grown g1 S1.out.2.size (fun j hj => by cases hj; exact Nat.le_refl _)⟩
  clear s1 g1 S1 HCE
  go_wp2
  go_loopw [12] (fun i wr => ∃ k : Nat, k ≤ n ∧ i = .int .i64 k ∧ Hid (∃ cnt D, cnt ≤ 2 * k + 1 ∧ SetAt wr w.heap.size cnt D ∧ HasIs D xs k ∧ Below w.heap.size w wr)) (fun i _ => n - (intOf i).toNat)
  case atStart => exact ⟨0, by omega, rfl, HS⟩
  case round =>
    clear HS
    obtain ⟨k, hk, rfl, HS⟩ := hrel
    obtain ⟨cnt, D, hcn, hset, hhas, hbel⟩ := HS.out
    have HB : Hid (HasIs D xs k ∧ Below w.heap.size w wr ∧ SetAt wr w.heap.size cnt D ∧ Go.Maps.IsMap D) := ⟨hhas, hbel, hset, World.ownsMap.isMap hset⟩
    clear hset hhas hbel HS
    by_cases hlt : k < n
    · obtain ⟨x, hx⟩ : ∃ x, xs[k]? = some x := ⟨_, List.getElem?_eq_getElem (by rw [HL.out]; exact hlt)⟩
      have HX : Hid (xs[k]? = some x) := hx
      rcases H.out.2 with ⟨e0, _⟩ | ⟨g, o, c, e1, hc1⟩
      · omega
      simp only [Value.slice.injEq, true_and] at e1
      obtain ⟨rfl, rfl⟩ := e1
      have x0 := Rd.elem MI.cells_length hc1 k _ hx 0 _ rfl
      have x1 := Rd.elem MI.cells_length hc1 k _ hx 1 _ rfl
      have x2 := Rd.elem MI.cells_length hc1 k _ hx 2 _ rfl
      have x3 := Rd.elem MI.cells_length hc1 k _ hx 3 _ rfl
      rw [← HB.out.2.1.cell (block_lt_of_cell x0), Nat.add_zero] at x0
      rw [← HB.out.2.1.cell (block_lt_of_cell x1)] at x1
      rw [← HB.out.2.1.cell (block_lt_of_cell x2)] at x2
      rw [← HB.out.2.1.cell (block_lt_of_cell x3)] at x3
      clear hc1 hx
      have hkL : (k : Int) < (n : Int) := by omega
      have HLX : Hid (LX w wr (wr.alloc (.cells #[.int .i64 x.op, .int .i64 x.a, .int .i64 x.b, .int .i64 x.c] 73)) x cnt D) := ⟨HB.out.2.2.1.keep (below_alloc _ _), Blk.new _ _ _, below_on HB.out.2.1 (Nat.le_refl _) (below_alloc _ _), World.ownsMap.lt HB.out.2.2.1⟩
      go_upto_region 6 with fail
      refine wp_world (fun u => Hid (LX w wr u x cnt D)) HLX ?_
      intro U1 HU1
      clear HLX x0 x1 x2 x3
      obtain ⟨a0, a1', a2, a3⟩ := blk4 HU1.out.xb
      go_wp2_with fail
      refine (namesPlace_any x _).mono ?_
      rintro e u2 ⟨rfl, b2⟩
      have HU2 : Hid (LX w wr u2 x cnt D) := HU1.out.keep b2
      clear b2 a0 a1' a2 a3 HU1
      cases hgo : goesB x
      · obtain ⟨a0, a1', a2, a3⟩ := blk4 HU2.out.xb
        go_wp2_with fail
        refine (namesPlace_any x _).mono ?_
        rintro e u3 ⟨rfl, b3⟩
        have HU3 : Hid (LX w wr u3 x cnt D) := HU2.out.keep b3
        clear b3 a0 a1' a2 a3 HU2
        rw [hgo]
        obtain ⟨a0, a1', a2, a3⟩ := blk4 HU3.out.xb
        by_cases hr : x.op = 29
        · rw [hr] at a0
          have HCE : Hid ((u3.alloc (.cells #[.int .i64 ((k : Int) + 1)] 2)).cell? ⟨u3.heap.size, 0, none⟩ = some (.int .i64 ((k : Int) + 1)) ∧ LX w wr (u3.alloc (.cells #[.int .i64 ((k : Int) + 1)] 2)) x cnt D ∧ ¬ u3.heap.size = w.heap.size) := ⟨(Blk.new u3 #[.int .i64 ((k : Int) + 1)] 2).cell 0, HU3.out.keep (below_alloc _ _), by have := World.ownsMap.lt HU3.out.set; omega⟩
          go_wp2_with fail
          refine (add_one w.heap.size cnt u3.heap.size 1 D ((k : Int) + 1) _ (w64_small (by omega) (by omega)) (by omega) HCE.out.1 HCE.out.2.2 HCE.out.2.1.set).mono ?_
          rintro e u4 ⟨rfl, s4, g4⟩
          have HN : Hid (∃ cnt D, cnt ≤ 2 * (k + 1) + 1 ∧ SetAt u4 w.heap.size cnt D ∧ HasIs D xs (k + 1) ∧ Below w.heap.size w u4) := ⟨_, _, by omega, s4, HB.out.1.ret HB.out.2.2.2 HX.out hgo hr, (HCE.out.2.1.grown s4 g4).bel⟩
          clear s4 g4 a0 a1' a2 a3
          go_wp2
          go_roundw
          case rel => exact ⟨k + 1, by omega, by go_num, HN⟩
          case measure => simp [intOf]; omega
        · have hr' : (x.op == 29) = false := by simpa using hr
          have HN : Hid (∃ cnt D, cnt ≤ 2 * (k + 1) + 1 ∧ SetAt u3 w.heap.size cnt D ∧ HasIs D xs (k + 1) ∧ Below w.heap.size w u3) := ⟨_, _, by omega, HU3.out.set, HB.out.1.none HX.out hgo hr, HU3.out.bel⟩
          go_wp2
          go_roundw
          case rel => exact ⟨k + 1, by omega, by go_num, HN⟩
          case measure => simp [intOf]; omega
      · obtain ⟨hc0, hc1⟩ := HG.out.2.2 k x HX.out hgo
        rw [HL.out] at hc1
        obtain ⟨a0, a1', a2, a3⟩ := blk4 HU2.out.xb
        have HCE : Hid ((u2.alloc (.cells #[.int .i64 x.c] 2)).cell? ⟨u2.heap.size, 0, none⟩ = some (.int .i64 x.c) ∧ LX w wr (u2.alloc (.cells #[.int .i64 x.c] 2)) x cnt D ∧ ¬ u2.heap.size = w.heap.size) := ⟨(Blk.new u2 #[.int .i64 x.c] 2).cell 0, HU2.out.keep (below_alloc _ _), by have := World.ownsMap.lt HU2.out.set; omega⟩
        go_wp2_with fail
        refine (add_one w.heap.size cnt u2.heap.size 1 D x.c _ (w64_small (by omega) (by omega)) (by omega) HCE.out.1 HCE.out.2.2 HCE.out.2.1.set).mono ?_
        rintro e u4 ⟨rfl, s4, g4⟩
        have HU4 : Hid (LX w wr u4 x (cnt + 1) (D.put (.int .i64 x.c) (.agg []))) := HCE.out.2.1.grown s4 g4
        clear s4 g4 a0 a1' a2 a3 HCE HU2
        obtain ⟨a0, a1', a2, a3⟩ := blk4 HU4.out.xb
        go_wp2_with fail
        refine (namesPlace_any x _).mono ?_
        rintro e u5 ⟨rfl, b5⟩
        have HU5 : Hid (LX w wr u5 x (cnt + 1) (D.put (.int .i64 x.c) (.agg []))) := HU4.out.keep b5
        clear b5 a0 a1' a2 a3 HU4
        rw [hgo]
        obtain ⟨a0, a1', a2, a3⟩ := blk4 HU5.out.xb
        have HCE : Hid ((u5.alloc (.cells #[.int .i64 ((k : Int) + 1)] 2)).cell? ⟨u5.heap.size, 0, none⟩ = some (.int .i64 ((k : Int) + 1)) ∧ LX w wr (u5.alloc (.cells #[.int .i64 ((k : Int) + 1)] 2)) x (cnt + 1) (D.put (.int .i64 x.c) (.agg [])) ∧ ¬ u5.heap.size = w.heap.size) := ⟨(Blk.new u5 #[.int .i64 ((k : Int) + 1)] 2).cell 0, HU5.out.keep (below_alloc _ _), by have := World.ownsMap.lt HU5.out.set; omega⟩
        go_wp2_with fail
        refine (add_one w.heap.size (cnt + 1) u5.heap.size 1 (D.put (.int .i64 x.c) (.agg [])) ((k : Int) + 1) _ (w64_small (by omega) (by omega)) (by omega) HCE.out.1 HCE.out.2.2 HCE.out.2.1.set).mono ?_
        rintro e u6 ⟨rfl, s6, g6⟩
        have HN : Hid (∃ cnt D, cnt ≤ 2 * (k + 1) + 1 ∧ SetAt u6 w.heap.size cnt D ∧ HasIs D xs (k + 1) ∧ Below w.heap.size w u6) := ⟨_, _, by omega, s6, HB.out.1.goes HB.out.2.2.2 HX.out hgo hc0, (HCE.out.2.1.grown s6 g6).bel⟩
        clear s6 g6 a0 a1' a2 a3
        go_wp2
        go_roundw
        case rel => exact ⟨k + 1, by omega, by go_num, HN⟩
        case measure => simp [intOf]; omega
    · obtain rfl : k = n := by omega
      go_wp2_with (at_delete; refine wpList_delete_own _ rfl _ _ 142 2 rfl 205 law64 Tryz.underlying142 _ w.heap.size cnt D rfl HB.out.2.2.1 _ _ rfl (Go.Maps.keyOf_int_mk Tryz.underlying2 (w64_small (z := (k : Int)) (by omega) (by omega))) ?_; intro w1 hown1 hturn1)
      have HD : Hid (SetAt w1 w.heap.size cnt (D.del (.int .i64 k)) ∧ Below w.heap.size w w1) := ⟨hown1, HB.out.2.1.grown hturn1.grown HB.out.2.1.size (fun j hj => by cases hj; exact Nat.le_refl _)⟩
      clear hown1 hturn1
      go_wp2_with fail
      refine (rising_any w.heap.size cnt _ _ (by omega) HD.out.1).mono ?_
      rintro e u9 ⟨g9, cap9, zs, rfl, own9, hsrt, hmem, b9⟩
      have ez : zs = (lds xs k).map Int.ofNat := by
        refine sorted_ext _ _ hsrt (List.pairwise_map.2 ((lds_sorted xs k).imp (fun h => by simpa using h))) fun z => ?_
        rw [hmem, List.mem_map]
        constructor
        · rintro ⟨h1, h2⟩
          by_cases e : z = (k : Int)
          · subst e
            rw [Go.Maps.has_del_same] at h2
            cases h2
          · rw [Go.Maps.has_del_other (fun q => e (by cases q; rfl)), HB.out.1 z] at h2
            simp only [Bool.and_eq_true, decide_eq_true_eq] at h2
            have := h2.2
            rw [← HL.out] at this
            have hle := lead_le xs _ HG.out this
            rw [HL.out] at hle
            exact ⟨z.toNat, (lds_mem _ _ _).2 ⟨by omega, this⟩, by simp; omega⟩
        · rintro ⟨j, hj, rfl⟩
          obtain ⟨j1, j2⟩ := (lds_mem _ _ _).1 hj
          rw [HL.out] at j2
          refine ⟨w64_small (by simp) (by simp; omega), ?_⟩
          rw [Go.Maps.has_del_other (fun q => by cases q; omega), HB.out.1]
          simp [j2]
      subst ez
      rw [List.length_map] at own9
      have HE : Hid (u9.ownsRow w.heap.size 2 1 (.slice (some ⟨g9, 0, none⟩) (lds xs k).length cap9) (lds xs k).length (((lds xs k).map Int.ofNat).flatMap intCell) ∧ Below w.heap.size w u9) := ⟨own_lower own9 HD.out.2.size, below_on HD.out.2 (Nat.le_refl _) b9⟩
      clear own9 hsrt hmem b9
      rw [List.length_map]
      go_wp2
      go_ret
      exact ⟨g9, cap9, rfl, HE.out.1, HE.out.2⟩
end Go.Proofs.YtdfmdgbolmbffaaGreat
namespace Go.Proofs.YtdfmdgbolmbffaaGreat
open Go.ChangeShapes Go.WideShapes Go.ChangeAt Go.RowKit
set_option linter.unusedVariables false
def PlacesOk (xs : List MI) : Prop := ∀ (i : Nat) (x : MI), xs[i]? = some x → goesB x = true → 0 ≤ x.c ∧ x.c < (xs.length : Int)
theorem contains_none (a : Option Addr) (c : Nat) (z : Int) (w : World) : Calls Tryz.prog 93 #[.slice a 0 c, .int .i64 z] w fun e w' => e = .returned (.bool false) ∧ w' = w := by
  have h := AnyG.slices_Contains_int_empty Tryz.lContains a c z w
  exact h
theorem contains_one (g c : Nat) (y z : Int) (w : World) (hc : w.cell? ⟨g, 0, none⟩ = some (.int .i64 y)) : Calls Tryz.prog 93 #[.slice (some ⟨g, 0, none⟩) 1 c, .int .i64 z] w fun e w' => e = .returned (.bool (decide (z = y))) ∧ w' = w := by
  have h := AnyG.slices_Contains_int Tryz.lContains g 0 1 c [y] z w (by simp) (by omega) (fun j hj => by
    have : j = 0 := by simpa using hj
    subst this
    simpa using hc)
  have e : ([y].take 1).contains z = decide (z = y) := by
    by_cases q : z = y
    · simp [q]
    · simp [q]
  rw [e] at h
  exact h
theorem search_any (g c : Nat) (zs : List Int) (z : Int) (w : World) (hn : zs.length ≤ 1048576) (hs : zs.Pairwise (· < ·)) (h : Rd w 1 (.slice (some ⟨g, 0, none⟩) zs.length c) zs.length (zs.flatMap intCell)) (hz : z ∈ zs) :
    Calls Tryz.prog 138 #[.slice (some ⟨g, 0, none⟩) zs.length c, .int .i64 z] w fun e w' => (∃ b, e = .returned (.tuple #[.int .i64 (zs.idxOf z : Nat), .bool b])) ∧ ∃ q, w' = w.drewN q := by
  have hcell : ∀ j, j < zs.length → w.cell? ⟨g, 0 + j, none⟩ = some (.int .i64 (zs.getD j 0)) := fun j hj => by
    rcases h.2 with ⟨e0, _⟩ | ⟨g', o', c', e1, hc⟩
    · omega
    · simp only [Value.slice.injEq, Option.some.injEq, Addr.mk.injEq, and_true, true_and] at e1
      obtain ⟨⟨rfl, rfl⟩, rfl⟩ := e1
      have := hc j (.int .i64 (zs.getD j 0)) (by rw [ints_flat]; simp [List.getD_eq_getElem?_getD, List.getElem?_eq_getElem hj])
      exact this
  have hc := AnyG.slices_BinarySearch_int Tryz.lSearch g 0 zs.length c zs z w (Nat.le_refl _) (by omega) hcell (by rw [List.take_of_length_le (Nat.le_refl _)]; exact hs.imp (fun h => by omega))
  rw [List.take_of_length_le (Nat.le_refl _)] at hc
  have e : ∀ (l : List Int), l.Pairwise (· < ·) → z ∈ l → l.countP (fun x => decide (x < z)) = l.idxOf z := by
    intro l
    induction l with
    | nil => intro _ h; cases h
    | cons y r ih =>
      intro hp hm
      obtain ⟨p1, p2⟩ := List.pairwise_cons.1 hp
      by_cases q : y = z
      · subst q
        rw [List.countP_cons_of_neg (by simp), List.idxOf_cons_self]
        exact List.countP_eq_zero.2 (fun a ha => by have := p1 a ha; simp; omega)
      · rcases List.mem_cons.1 hm with e | e
        · exact absurd e.symm q
        · have := p1 z e
          rw [List.countP_cons_of_pos (by simpa using this), ih p2 e, List.idxOf_cons]
          rw [show (y == z) = false from by simpa using q]
          rfl
  refine hc.mono ?_
  rintro e1 w' ⟨rfl, hq⟩
  rw [e zs hs hz]
  exact ⟨⟨_, rfl⟩, hq⟩
theorem MI.at4 {w u : World} {xs : List MI} {g o n e : Nat} {x : MI} (hc : ∀ j v, (xs.flatMap MI.cells)[j]? = some v → w.cell? ⟨g, o + j, none⟩ = some v) (hx : xs[e]? = some x) (hb : Below w.heap.size w u) : u.cell? ⟨g, o + e * 4, none⟩ = some (.int .i64 x.op) ∧ u.cell? ⟨g, o + e * 4 + 1, none⟩ = some (.int .i64 x.a) ∧ u.cell? ⟨g, o + e * 4 + 2, none⟩ = some (.int .i64 x.b) ∧ u.cell? ⟨g, o + e * 4 + 3, none⟩ = some (.int .i64 x.c) := by
  have x0 := Rd.elem MI.cells_length hc e _ hx 0 _ rfl
  have x1 := Rd.elem MI.cells_length hc e _ hx 1 _ rfl
  have x2 := Rd.elem MI.cells_length hc e _ hx 2 _ rfl
  have x3 := Rd.elem MI.cells_length hc e _ hx 3 _ rfl
  rw [← hb.cell (block_lt_of_cell x0), Nat.add_zero] at x0
  rw [← hb.cell (block_lt_of_cell x1)] at x1
  rw [← hb.cell (block_lt_of_cell x2)] at x2
  rw [← hb.cell (block_lt_of_cell x3)] at x3
  exact ⟨x0, x1, x2, x3⟩
set_option maxHeartbeats 4000000 in
set_option maxRecDepth 100000 in
theorem placesHold_any (s : Value) (xs : List MI) (w : World) (hn : xs.length ≤ 1048576) (h : Rd w 4 s xs.length (xs.flatMap MI.cells)) :
    Calls Tryz.prog 136 #[s] w fun e w' => SaysIff e (PlacesOk xs) ∧ Below w.heap.size w w' := by
  have H : Hid (Rd w 4 s xs.length (xs.flatMap MI.cells)) := h
  obtain ⟨a1, c1, rfl⟩ := h.is_slice
  clear h
  generalize hLL : xs.length = n at hn H
  have HL : Hid (xs.length = n) := hLL
  clear hLL
  go_enter Tryz.func136, Tryz.ntmps136
  go_wp2
  go_loopw [7] (fun i wr => ∃ k : Nat, k ≤ n ∧ i = .int .i64 k ∧ Hid ((∀ j, j < k → ∀ x, xs[j]? = some x → goesB x = true → 0 ≤ x.c ∧ x.c < (n : Int)) ∧ Below w.heap.size w wr)) (fun i _ => n - (intOf i).toNat)
  case atStart => exact ⟨0, by omega, rfl, ⟨fun j hj => by omega, Below.refl _ _⟩⟩
  case round =>
    obtain ⟨k, hk, rfl, HT⟩ := hrel
    by_cases hlt : k < n
    · obtain ⟨x, hx⟩ : ∃ x, xs[k]? = some x := ⟨_, List.getElem?_eq_getElem (by rw [HL.out]; exact hlt)⟩
      have HX : Hid (xs[k]? = some x) := hx
      rcases H.out.2 with ⟨e0, _⟩ | ⟨g, o, c, e1, hc1⟩
      · omega
      simp only [Value.slice.injEq, true_and] at e1
      obtain ⟨rfl, rfl⟩ := e1
      obtain ⟨x0, x1, x2, x3⟩ := MI.at4 (n := 0) hc1 hx HT.out.2
      clear hc1 hx
      have hkL : (k : Int) < (n : Int) := by omega
      go_upto_region 4 with fail
      refine wp_world (fun u => Hid (Blk u wr.heap.size #[.int .i64 x.op, .int .i64 x.a, .int .i64 x.b, .int .i64 x.c] 73 ∧ Below w.heap.size w u)) ⟨Blk.new _ _ _, below_on HT.out.2 (Nat.le_refl _) (below_alloc _ _)⟩ ?_
      intro U1 HU1
      clear x0 x1 x2 x3
      obtain ⟨a0, a1', a2, a3⟩ := blk4 HU1.out.1
      go_wp2_with fail
      refine (namesPlace_any x _).mono ?_
      rintro e u2 ⟨rfl, b2⟩
      have HU2 : Hid (Blk u2 wr.heap.size #[.int .i64 x.op, .int .i64 x.a, .int .i64 x.b, .int .i64 x.c] 73 ∧ Below w.heap.size w u2) := ⟨HU1.out.1.keep b2, below_on HU1.out.2 (Nat.le_refl _) b2⟩
      clear b2 a0 a1' a2 a3 HU1
      obtain ⟨a0, a1', a2, a3⟩ := blk4 HU2.out.1
      cases hgo : goesB x
      · have HN : Hid ((∀ j, j < k + 1 → ∀ x, xs[j]? = some x → goesB x = true → 0 ≤ x.c ∧ x.c < (n : Int)) ∧ Below w.heap.size w u2) := ⟨fun j hj y hy hg => by
          by_cases e : j = k
          · subst e
            rw [HX.out] at hy
            cases hy
            rw [hgo] at hg
            cases hg
          · exact HT.out.1 j (by omega) y hy hg, HU2.out.2⟩
        go_wp2
        go_roundw
        case rel => exact ⟨k + 1, by omega, by go_num, HN⟩
        case measure => simp [intOf]; omega
      · go_wp2_with fail
        refine (isOneOf_f x.c n _ (by omega)).mono ?_
        rintro e u3 ⟨rfl, hu⟩
        have hu2 := hu.symm
        clear hu
        subst hu2
        by_cases r : 0 ≤ x.c ∧ x.c < (n : Int)
        · rw [show decide (0 ≤ x.c ∧ x.c < (n : Int)) = true from by simpa using r]
          have HN : Hid ((∀ j, j < k + 1 → ∀ x, xs[j]? = some x → goesB x = true → 0 ≤ x.c ∧ x.c < (n : Int)) ∧ Below w.heap.size w u2) := ⟨fun j hj y hy hg => by
            by_cases e : j = k
            · subst e
              rw [HX.out] at hy
              cases hy
              exact r
            · exact HT.out.1 j (by omega) y hy hg, HU2.out.2⟩
          go_wp2
          go_roundw
          case rel => exact ⟨k + 1, by omega, by go_num, HN⟩
          case measure => simp [intOf]; omega
        · rw [show decide (0 ≤ x.c ∧ x.c < (n : Int)) = false from by simpa using r]
          have HN : Hid (¬ PlacesOk xs) := fun e => r (by have := e k x HX.out hgo; rw [HL.out] at this; exact this)
          go_wp2
          go_ret
          exact ⟨.no HN.out, HU2.out.2⟩
    · have HY : Hid (PlacesOk xs) := fun i x hi hg => by
        have hlt := (List.getElem?_eq_some_iff.1 hi).1
        rw [HL.out] at hlt ⊢
        exact HT.out.1 i (by omega) x hi hg
      go_wp2
      go_ret
      exact ⟨.yes HY.out, HT.out.2⟩
/-- Places that are new. -/
structure NP (w U : World) (V : Value) (ns : List Int) : Prop where
  bel : Below w.heap.size w U
  row : U.ownsRow w.heap.size 2 1 V ns.length (ns.flatMap intCell)
theorem NP.keep {w U U' : World} {V : Value} {ns : List Int} (h : NP w U V ns) (hb : Below U.heap.size U U') : NP w U' V ns := ⟨below_on h.bel (Nat.le_refl _) hb, own_keep h.row hb (Nat.le_refl _)⟩
theorem NP.app {w U u' : World} {V V' : Value} {ns : List Int} {z : Int} {m : Nat} (h : NP w U V ns) (hown : u'.ownsRow w.heap.size 2 1 V' m (ns.flatMap intCell ++ [.int .i64 z])) (hm : m = ns.length + 1) (hg : (U.alloc (.cells #[.int .i64 z] 2)).grownBy u' V.ownBlock) : NP w u' V' (ns ++ [z]) := by
  have bA := below_alloc U (.cells #[.int .i64 z] 2)
  refine ⟨(below_on h.bel (Nat.le_refl _) bA).grown hg (Nat.le_trans h.bel.size bA.size) (fun i hi => (h.row.lt i hi).1), ?_⟩
  rw [List.length_append, List.length_singleton, ← hm, List.flatMap_append]
  exact hown
end Go.Proofs.YtdfmdgbolmbffaaGreat
namespace Go.Proofs.YtdfmdgbolmbffaaGreat
open Go.ChangeShapes Go.WideShapes Go.ChangeAt Go.RowKit
set_option linter.unusedVariables false
theorem placesL_on (xs : List MI) (x : MI) (e : Nat) (h1 : onB x = true ∧ e + 1 < xs.length) (h2 : ¬ goesB x = true) : placesL xs x e = [] ++ [((e : Int) + 1)] := by
  unfold placesL
  rw [if_pos h1, if_neg (fun q => h2 q.1)]
  rfl
theorem placesL_eq (xs : List MI) (x : MI) (e : Nat) (h1 : onB x = true ∧ e + 1 < xs.length) (h2 : goesB x = true) (h : x.c = ((e + 1 : Nat) : Int)) : placesL xs x e = [] ++ [((e : Int) + 1)] := by
  unfold placesL
  rw [if_pos h1, if_neg (fun q => q.2 ⟨h1.1, h1.2, h⟩)]
  rfl
theorem placesL_ne (xs : List MI) (x : MI) (e : Nat) (h1 : onB x = true ∧ e + 1 < xs.length) (h2 : goesB x = true) (h : ¬ x.c = ((e + 1 : Nat) : Int)) : placesL xs x e = [] ++ [((e : Int) + 1)] ++ [x.c] := by
  unfold placesL
  rw [if_pos h1, if_pos ⟨h2, fun q => h q.2.2⟩]
  rfl
theorem placesL_go (xs : List MI) (x : MI) (e : Nat) (h1 : ¬ (onB x = true ∧ e + 1 < xs.length)) (h2 : goesB x = true) : placesL xs x e = [] ++ [x.c] := by
  unfold placesL
  rw [if_neg h1, if_pos ⟨h2, fun q => h1 ⟨q.1, q.2.1⟩⟩]
theorem placesL_no (xs : List MI) (x : MI) (e : Nat) (h1 : ¬ (onB x = true ∧ e + 1 < xs.length)) (h2 : ¬ goesB x = true) : placesL xs x e = [] := by
  unfold placesL
  rw [if_neg h1, if_neg (fun q => h2 q.1)]
  rfl
set_option maxHeartbeats 4000000 in
set_option maxRecDepth 100000 in
theorem placesFrom_any (s : Value) (xs : List MI) (x : MI) (e : Nat) (w : World) (hn : xs.length ≤ 1024) (hp : PlacesOk xs) (hx : xs[e]? = some x) (h : Rd w 4 s xs.length (xs.flatMap MI.cells)) :
    Calls Tryz.prog 125 #[s, .int .i64 (e : Int)] w fun e1 w' => ∃ r, e1 = .returned r ∧ w'.ownsRow w.heap.size 2 1 r (placesL xs x e).length ((placesL xs x e).flatMap intCell) ∧ Below w.heap.size w w' := by
  obtain ⟨k0, hk, hx0, hx1, hx2⟩ := info_parts info64
  have hen : e < xs.length := (List.getElem?_eq_some_iff.1 hx).1
  have HX : Hid (xs[e]? = some x) := hx
  have HG : Hid (PlacesOk xs) := hp
  rcases h.2 with ⟨e0, _⟩ | ⟨g, o, c, rfl, hc1⟩
  · omega
  have HC : Hid (∀ j v, (xs.flatMap MI.cells)[j]? = some v → w.cell? ⟨g, o + j, none⟩ = some v) := hc1
  clear h hc1 hp hx
  generalize hLL : xs.length = n at hn hen
  have HL : Hid (xs.length = n) := hLL
  clear hLL
  have hel : (e : Int) < (n : Int) := by omega
  have HU0 : Hid (NP w w (.slice none 0 0) []) := ⟨Below.refl _ _, World.ownsRow_nil _ _ _ _⟩
  obtain ⟨x0, x1, x2, x3⟩ := MI.at4 (n := 0) HC.out HX.out (Below.refl w.heap.size w)
  go_enter Tryz.func125, Tryz.ntmps125
  go_wp2_with fail
  refine (goesOn_any x _).mono ?_
  rintro e1 u1 ⟨rfl, b1⟩
  have HU1 : Hid (NP w u1 (.slice none 0 0) []) := HU0.out.keep b1
  clear b1 x0 x1 x2 x3 HU0
  cases hon : onB x
  · have h1 : ¬ (onB x = true ∧ e + 1 < xs.length) := fun q => by rw [hon] at q; exact absurd q.1 Bool.false_ne_true
    obtain ⟨x0, x1, x2, x3⟩ := MI.at4 (n := 0) HC.out HX.out HU1.out.bel
    go_wp2_with fail
    refine (namesPlace_any x _).mono ?_
    rintro e4 u4 ⟨rfl, b4⟩
    have HU4 : Hid (NP w u4 (.slice none 0 0) []) := HU1.out.keep b4
    clear b4
    clear x0 x1 x2 x3
    cases hgo : goesB x
    · go_wp2
      go_ret
      exact ⟨_, rfl, by rw [placesL_no xs x e h1 (by rw [hgo]; exact Bool.false_ne_true)]; exact HU4.out.row, HU4.out.bel⟩
    · obtain ⟨hc0, hc1⟩ := HG.out e x HX.out hgo
      go_wp2_with fail
      refine (contains_none none 0 x.c _).mono ?_
      rintro e5 u5 ⟨rfl, hu⟩
      have hu2 := hu.symm
      clear hu
      subst hu2
      go_wp2_with (at_builtin; refine wpList_append_lies _ rfl _ _ 48 rfl w.heap.size 2 k0 (.int .i64 0) 1 8 Tryz.underlying48 hk hx0 hx1 hx2 rfl (by decide) _ ([] : List Int).length (([] : List Int).flatMap intCell) rfl (HU4.out.keep (below_alloc _ (.cells #[.int .i64 (x.c)] 2))).row ⟨u4.heap.size, 0, none⟩ 1 1 [.int .i64 (x.c)] rfl rfl (one_cell u4 (x.c)) (fun u hu => by simp at hu; subst hu; rfl) (by omega) (by simp [maxLen]) (by simp) (HU4.out.keep (below_alloc _ (.cells #[.int .i64 (x.c)] 2))).bel.size _ rfl ?_; intro g3 cap3 w3 hown hgrow hat hlt3; have HU5 : Hid (NP w w3 (.slice (some ⟨g3, 0, none⟩) (0 + 1) cap3) ([] ++ [x.c])) := HU4.out.app hown rfl hgrow; clear hown hgrow hat hlt3)
      go_wp2
      go_ret
      exact ⟨_, rfl, by rw [placesL_go xs x e h1 hgo]; exact HU5.out.row, HU5.out.bel⟩
  · go_wp2_with fail
    refine (isOneOf_f ((e : Int) + 1) n _ (by omega)).mono ?_
    rintro e2 u2 ⟨rfl, hu⟩
    have hu2 := hu.symm
    clear hu
    subst hu2
    by_cases hb : e + 1 < n
    · have h1 : onB x = true ∧ e + 1 < xs.length := ⟨hon, by rw [HL.out]; exact hb⟩
      rw [show decide (0 ≤ (e : Int) + 1 ∧ (e : Int) + 1 < (n : Int)) = true from by simp; omega]
      obtain ⟨x0, x1, x2, x3⟩ := MI.at4 (n := 0) HC.out HX.out HU1.out.bel
      go_wp2_with (at_builtin; refine wpList_append_lies _ rfl _ _ 48 rfl w.heap.size 2 k0 (.int .i64 0) 1 8 Tryz.underlying48 hk hx0 hx1 hx2 rfl (by decide) _ ([] : List Int).length (([] : List Int).flatMap intCell) rfl (HU1.out.keep (below_alloc _ (.cells #[.int .i64 ((e : Int) + 1)] 2))).row ⟨u1.heap.size, 0, none⟩ 1 1 [.int .i64 ((e : Int) + 1)] rfl rfl (one_cell u1 ((e : Int) + 1)) (fun u hu => by simp at hu; subst hu; rfl) (by omega) (by simp [maxLen]) (by simp) (HU1.out.keep (below_alloc _ (.cells #[.int .i64 ((e : Int) + 1)] 2))).bel.size _ rfl ?_; intro g3 cap3 w3 hown hgrow hat hlt3; have HU3 : Hid (NP w w3 (.slice (some ⟨g3, 0, none⟩) (0 + 1) cap3) ([] ++ [(e : Int) + 1])) := HU1.out.app hown rfl hgrow; clear hown hgrow hat hlt3; obtain ⟨x0, x1, x2, x3⟩ := MI.at4 (n := 0) HC.out HX.out HU3.out.bel)
      go_wp2_with fail
      refine (namesPlace_any x _).mono ?_
      rintro e4 u4 ⟨rfl, b4⟩
      have HU4 : Hid (NP w u4 (.slice (some ⟨g3, 0, none⟩) (0 + 1) cap3) ([] ++ [((e : Int) + 1)])) := HU3.out.keep b4
      clear b4
      clear x0 x1 x2 x3
      cases hgo : goesB x
      · go_wp2
        go_ret
        exact ⟨_, rfl, by rw [placesL_on xs x e h1 (by rw [hgo]; exact Bool.false_ne_true)]; exact HU4.out.row, HU4.out.bel⟩
      · obtain ⟨hc0, hc1⟩ := HG.out e x HX.out hgo
        have f5 := HU4.out.row.cellAt 0 (by simp)
        simp only [List.nil_append, List.flatMap_cons, intCell, List.cons_append, List.getElem?_cons_zero] at f5
        go_wp2_with fail
        refine (contains_one g3 cap3 ((e : Int) + 1) x.c _ f5).mono ?_
        rintro e5 u5 ⟨rfl, hu⟩
        have hu2 := hu.symm
        clear hu
        subst hu2
        by_cases heq : x.c = (e : Int) + 1
        · rw [show decide (x.c = (e : Int) + 1) = true from by simpa using heq]
          go_wp2
          go_ret
          exact ⟨_, rfl, by rw [placesL_eq xs x e h1 hgo (by rw [heq]; push_cast; rfl)]; exact HU4.out.row, HU4.out.bel⟩
        · rw [show decide (x.c = (e : Int) + 1) = false from by simpa using heq]
          go_wp2_with (at_builtin; refine wpList_append_lies _ rfl _ _ 48 rfl w.heap.size 2 k0 (.int .i64 0) 1 8 Tryz.underlying48 hk hx0 hx1 hx2 rfl (by decide) _ (([] ++ [((e : Int) + 1)]) : List Int).length ((([] ++ [((e : Int) + 1)]) : List Int).flatMap intCell) rfl (HU4.out.keep (below_alloc _ (.cells #[.int .i64 (x.c)] 2))).row ⟨u4.heap.size, 0, none⟩ 1 1 [.int .i64 (x.c)] rfl rfl (one_cell u4 (x.c)) (fun u hu => by simp at hu; subst hu; rfl) (by omega) (by simp [maxLen]) (by simp) (HU4.out.keep (below_alloc _ (.cells #[.int .i64 (x.c)] 2))).bel.size _ rfl ?_; intro g5 cap5 w5 hown hgrow hat hlt3; have HU5 : Hid (NP w w5 (.slice (some ⟨g5, 0, none⟩) ((([] ++ [((e : Int) + 1)]) : List Int).length + 1) cap5) (([] ++ [((e : Int) + 1)]) ++ [x.c])) := HU4.out.app hown rfl hgrow; clear hown hgrow hat hlt3)
          go_wp2
          go_ret
          exact ⟨_, rfl, by rw [placesL_ne xs x e h1 hgo (fun q => heq (by rw [q]; push_cast; rfl))]; exact HU5.out.row, HU5.out.bel⟩
    · have h1 : ¬ (onB x = true ∧ e + 1 < xs.length) := fun q => hb (by rw [← HL.out]; exact q.2)
      rw [show decide (0 ≤ (e : Int) + 1 ∧ (e : Int) + 1 < (n : Int)) = false from by simp; omega]
      obtain ⟨x0, x1, x2, x3⟩ := MI.at4 (n := 0) HC.out HX.out HU1.out.bel
      go_wp2_with fail
      refine (namesPlace_any x _).mono ?_
      rintro e4 u4 ⟨rfl, b4⟩
      have HU4 : Hid (NP w u4 (.slice none 0 0) []) := HU1.out.keep b4
      clear b4
      clear x0 x1 x2 x3
      cases hgo : goesB x
      · go_wp2
        go_ret
        exact ⟨_, rfl, by rw [placesL_no xs x e h1 (by rw [hgo]; exact Bool.false_ne_true)]; exact HU4.out.row, HU4.out.bel⟩
      · obtain ⟨hc0, hc1⟩ := HG.out e x HX.out hgo
        go_wp2_with fail
        refine (contains_none none 0 x.c _).mono ?_
        rintro e5 u5 ⟨rfl, hu⟩
        have hu2 := hu.symm
        clear hu
        subst hu2
        go_wp2_with (at_builtin; refine wpList_append_lies _ rfl _ _ 48 rfl w.heap.size 2 k0 (.int .i64 0) 1 8 Tryz.underlying48 hk hx0 hx1 hx2 rfl (by decide) _ ([] : List Int).length (([] : List Int).flatMap intCell) rfl (HU4.out.keep (below_alloc _ (.cells #[.int .i64 (x.c)] 2))).row ⟨u4.heap.size, 0, none⟩ 1 1 [.int .i64 (x.c)] rfl rfl (one_cell u4 (x.c)) (fun u hu => by simp at hu; subst hu; rfl) (by omega) (by simp [maxLen]) (by simp) (HU4.out.keep (below_alloc _ (.cells #[.int .i64 (x.c)] 2))).bel.size _ rfl ?_; intro g3 cap3 w3 hown hgrow hat hlt3; have HU5 : Hid (NP w w3 (.slice (some ⟨g3, 0, none⟩) (0 + 1) cap3) ([] ++ [x.c])) := HU4.out.app hown rfl hgrow; clear hown hgrow hat hlt3)
        go_wp2
        go_ret
        exact ⟨_, rfl, by rw [placesL_go xs x e h1 hgo]; exact HU5.out.row, HU5.out.bel⟩
end Go.Proofs.YtdfmdgbolmbffaaGreat
namespace Go.Proofs.YtdfmdgbolmbffaaGreat
open Go.ChangeShapes Go.WideShapes Go.ChangeAt Go.RowKit
set_option linter.unusedVariables false
theorem good_iff (xs : List MI) : CodeGood xs ↔ 1 ≤ xs.length ∧ xs.length ≤ 1024 ∧ PlacesOk xs := Iff.rfl
/-- A block whose Next are places. -/
def midB (xs : List MI) (m : MB) : MB := ⟨m.first, m.last, placesL xs (xs.getD m.last.toNat ⟨0, 0, 0, 0⟩) m.last.toNat⟩
def midL (xs : List MI) : List MB := (outL xs xs.length).map (midB xs)
theorem midL_length (xs : List MI) : (midL xs).length = (lds xs xs.length).length := by unfold midL; rw [List.length_map, outL_length]
theorem build_at (L : List Nat) (n b a q : Nat) (ha : L[b]? = some a) (hq : (L ++ [n])[b + 1]? = some q) : (build L n)[b]? = some ⟨(a : Int), (q : Int) - 1, []⟩ := by
  unfold build
  rw [List.getElem?_zipWith, ha]
  have e : (L.tail ++ [n])[b]? = some q := by
    cases L with
    | nil => simp at ha
    | cons y r => simpa using hq
  rw [e]
/-- The zero of a block, in cells. -/
def z3 : List Value := [.int .i64 0, .int .i64 0, .slice none 0 0]
/-- The rows, in the first loop: from j on the blocks are there. -/
structure IW (w u : World) (xs : List MI) (gl cl bl j : Nat) (D : List (MB × Value)) : Prop where
  row : u.ownsRow w.heap.size 71 3 (.slice (some ⟨bl, 0, none⟩) (lds xs xs.length).length (lds xs xs.length).length) (lds xs xs.length).length ((List.replicate j z3).flatten ++ D.flatMap bCells)
  fam : Fam u w.heap.size ((.slice (some ⟨gl, 0, none⟩) (lds xs xs.length).length cl, (lds xs xs.length).map Int.ofNat) :: nrows D)
  done : D.map Prod.fst = (midL xs).drop j
  bel : Below w.heap.size w u
theorem IW.lead {w u : World} {xs : List MI} {gl cl bl j : Nat} {D : List (MB × Value)} (h : IW w u xs gl cl bl j D) : u.ownsRow w.heap.size 2 1 (.slice (some ⟨gl, 0, none⟩) (lds xs xs.length).length cl) (lds xs xs.length).length (((lds xs xs.length).map Int.ofNat).flatMap intCell) := by
  have := h.fam.own _ (List.mem_cons_self)
  simpa using this
theorem Fam.keep {u u' : World} {B : Nat} {L : List (Value × List Int)} (h : Fam u B L) (hb : Below u.heap.size u u') : Fam u' B L := ⟨fun r hr => own_keep (h.own r hr) hb (Nat.le_refl _), h.sep⟩
theorem Fam.add {u u' : World} {B : Nat} {y : Value × List Int} {L : List (Value × List Int)} {b : Value} {cb : List Int} (h : Fam u B (y :: L)) (hb : Below u.heap.size u u') (hn : u'.ownsRow u.heap.size 2 1 b cb.length (cb.flatMap intCell)) (hB : B ≤ u.heap.size) : Fam u' B (y :: (b, cb) :: L) := by
  have hap : ∀ r ∈ y :: L, Apart (b, cb) r := by
    intro r hr g hg e
    have h1 := hn.lt g hg
    have h2 := (h.own r hr).lt g e
    omega
  obtain ⟨p1, p2⟩ := List.pairwise_cons.1 h.sep
  refine ⟨?_, List.pairwise_cons.2 ⟨?_, List.pairwise_cons.2 ⟨fun r hr => hap r (by simp [hr]), p2⟩⟩⟩
  · intro r hr
    simp only [List.mem_cons] at hr
    rcases hr with rfl | rfl | hr
    · exact own_keep (h.own _ (by simp)) hb (Nat.le_refl _)
    · exact own_lower hn hB
    · exact own_keep (h.own r (by simp [hr])) hb (Nat.le_refl _)
  · intro r hr
    simp only [List.mem_cons] at hr
    rcases hr with rfl | hr
    · exact (hap y (by simp)).symm
    · exact p1 r hr
theorem Fam.setB {w : World} {base g : Nat} {L : List (Value × List Int)} {B' k n c : Nat} {xs : List Value} (h : Fam w base L) (ho : w.ownsRow B' 71 k (.slice (some ⟨g, 0, none⟩) n c) n xs) (i : Nat) (x : Value) : Fam (w.setCell ⟨g, i, none⟩ x) base L :=
  ⟨fun y hy => own_set_ne (h.own y hy) ho (by decide) i x, h.sep⟩
theorem set3of3 (A R : List Value) (y0 y1 y2 c0 c1 c2 : Value) (i : Nat) (h : A.length = i) : (((A ++ ([y0, y1, y2] ++ R)).set i c0).set (i + 1) c1).set (i + 2) c2 = A ++ ([c0, c1, c2] ++ R) := by
  subst h
  simp [List.set_append_right]
theorem z3_split (b : Nat) (R : List Value) : (List.replicate (b + 1) z3).flatten ++ R = (List.replicate b z3).flatten ++ (z3 ++ R) := by
  rw [List.replicate_succ']
  simp
theorem z3_len (b : Nat) : (List.replicate b z3).flatten.length = b * 3 := by
  rw [List.length_flatten]
  simp [z3]
theorem IW.next {w wr u : World} {xs : List MI} {gl cl bl b a q e : Nat} {D : List (MB × Value)} {x : MI} {ar : Option Addr} {cr : Nat} (h : IW w wr xs gl cl bl (b + 1) D) (hb : Below wr.heap.size wr u) (hr : u.ownsRow wr.heap.size 2 1 (.slice ar (placesL xs x e).length cr) (placesL xs x e).length ((placesL xs x e).flatMap intCell)) (ha : (lds xs xs.length)[b]? = some a) (hq : (lds xs xs.length ++ [xs.length])[b + 1]? = some q) (he : (q : Int) - 1 = (e : Int)) (hx : xs[e]? = some x) :
    IW w (((u.setCell ⟨bl, b * 3, none⟩ (.int .i64 a)).setCell ⟨bl, b * 3 + 1, none⟩ (.int .i64 e)).setCell ⟨bl, b * 3 + 2, none⟩ (.slice ar (placesL xs x e).length cr)) xs gl cl bl b ((⟨(a : Int), (e : Int), placesL xs x e⟩, .slice ar (placesL xs x e).length cr) :: D) := by
  have r0 := own_keep h.row hb (Nat.le_refl _)
  have r1 := (r0.stored (b * 3) (.int .i64 a)).1
  have r2 := (r1.stored (b * 3 + 1) (.int .i64 e)).1
  have r3 := (r2.stored (b * 3 + 2) (.slice ar (placesL xs x e).length cr)).1
  rw [z3_split, show z3 ++ D.flatMap bCells = [Value.int .i64 0, .int .i64 0, .slice none 0 0] ++ D.flatMap bCells from rfl, set3of3 _ _ _ _ _ _ _ _ _ (z3_len b)] at r3
  have hbl := (own_blk r0).1
  have hm := build_at _ _ _ _ _ ha hq
  refine ⟨?_, ?_, ?_, (((below_on h.bel (Nat.le_refl _) hb).setCell hbl _).setCell hbl _).setCell hbl _⟩
  · rw [List.flatMap_cons]
    exact r3
  · have f0 := Fam.add h.fam hb hr h.bel.size
    exact ((f0.setB r0 _ _).setB r1 _ _).setB r2 _ _
  · have hlt : b < (midL xs).length := by rw [midL_length]; exact (List.getElem?_eq_some_iff.1 ha).1
    rw [List.map_cons, h.done, List.drop_eq_getElem_cons hlt]
    congr 1
    have e1 : (midL xs)[b]? = some (midB xs ⟨(a : Int), (q : Int) - 1, []⟩) := by
      unfold midL
      rw [List.getElem?_map, outL_build, hm]
      rfl
    have e2 := (List.getElem?_eq_some_iff.1 e1).2
    rw [e2]
    unfold midB
    rw [he, Int.toNat_natCast, List.getD_eq_getElem?_getD, hx]
    rfl
end Go.Proofs.YtdfmdgbolmbffaaGreat
