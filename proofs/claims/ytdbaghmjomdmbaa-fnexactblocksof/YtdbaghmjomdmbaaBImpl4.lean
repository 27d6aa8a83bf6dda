/- BImpl4: impl.leadersOf, its walk. -/
import Derived.Test.YtdbaghmjomdmbaaBImpl3
namespace Go.Proofs.Ytdbaghmjomdmbaa
open Go.ChangeShapes Go.WideShapes Go.ChangeAt Go.RowKit
set_option linter.unusedVariables false
theorem blk4 {u : World} {X : Nat} {x0 x1 x2 x3 : Value} {t : TypeId} (h : Blk u X #[x0, x1, x2, x3] t) : u.cell? ⟨X, 0, none⟩ = some x0 ∧ u.cell? ⟨X, 1, none⟩ = some x1 ∧ u.cell? ⟨X, 2, none⟩ = some x2 ∧ u.cell? ⟨X, 3, none⟩ = some x3 :=
  ⟨h.cell 0, h.cell 1, h.cell 2, h.cell 3⟩
theorem w64_small {z : Int} (h0 : 0 ≤ z) (h1 : z ≤ 1048576) : W64 z := WalkArith.wf_i64 (by omega)
set_option maxHeartbeats 4000000 in
set_option maxRecDepth 100000 in
theorem leadersOf_any (s : Value) (xs : List MI) (w : World) (hg : CodeGood xs) (h : Rd w 4 s xs.length (xs.flatMap MI.cells)) :
    Calls Try.prog 23 #[s] w fun e w' => ∃ g cap, e = .returned (.slice (some ⟨g, 0, none⟩) (lds xs xs.length).length cap) ∧ w'.ownsRow w.heap.size 2 1 (.slice (some ⟨g, 0, none⟩) (lds xs xs.length).length cap) (lds xs xs.length).length (((lds xs xs.length).map Int.ofNat).flatMap intCell) ∧ Below w.heap.size w w' := by
  have H : Hid (Rd w 4 s xs.length (xs.flatMap MI.cells)) := h
  have HG : Hid (CodeGood xs) := hg
  have hg1 := hg.1
  have hg2 := hg.2.1
  obtain ⟨a1, c1, rfl⟩ := h.is_slice
  clear h hg
  generalize hLL : xs.length = n at H hg1 hg2
  have HL : Hid (xs.length = n) := hLL
  clear hLL
  have hmm := @run_makeMap Try.prog
  have S0 : SetAt (w.alloc (.map #[] 0)) w.heap.size 0 (.map []) := World.ownsMap_made _ _ _ _
  have B0 : Below w.heap.size w (w.alloc (.map #[] 0)) := below_alloc _ _
  have z0 : (w.alloc (.map #[] 0)).heap.size = w.heap.size + 1 := by simp
  have hce : ((w.alloc (.map #[] 0)).alloc (.cells #[.int .i64 0] 2)).cell? ⟨w.heap.size + 1, 0, none⟩ = some (.int .i64 0) := by
    have := (Blk.new (w.alloc (.map #[] 0)) #[.int .i64 0] 2).cell 0
    rw [z0] at this
    exact this
  have S1 : Hid (SetAt ((w.alloc (.map #[] 0)).alloc (.cells #[.int .i64 0] 2)) w.heap.size 0 (.map []) ∧ Below w.heap.size w ((w.alloc (.map #[] 0)).alloc (.cells #[.int .i64 0] 2))) := ⟨S0.keep (below_alloc _ _), below_on B0 (Nat.le_refl _) (below_alloc _ _)⟩
  have HCE : Hid _ := hce
  clear S0 B0 z0 hce
  go_enter Try.func23, Try.ntmps23
  go_wp2_with fail
  refine (add_one w.heap.size 0 (w.heap.size + 1) 1 (.map []) 0 _ (w64_small (by omega) (by omega)) (by omega) HCE.out (by omega) S1.out.1).mono ?_
  rintro e u1 ⟨rfl, s1, g1⟩
  have HS : Hid (∃ cnt D, cnt ≤ 1 ∧ SetAt u1 w.heap.size cnt D ∧ HasIs D xs 0 ∧ Below w.heap.size w u1) := ⟨_, _, Nat.le_refl _, s1, HasIs.start xs _, S1.out.2.grown g1 S1.out.2.size (fun j hj => by cases hj; exact Nat.le_refl _)⟩
  clear s1 g1 S1 HCE
  go_wp2
  go_loopw [12] (fun i wr => ∃ k : Nat, k ≤ n ∧ i = .int .i64 k ∧ Hid (∃ cnt D, cnt ≤ 2 * k + 1 ∧ SetAt wr w.heap.size cnt D ∧ HasIs D xs k ∧ Below w.heap.size w wr)) (fun i _ => n - (intOf i).toNat)
  case atStart => exact ⟨0, by omega, rfl, HS⟩
  case round =>
    clear HS
    obtain ⟨k, hk, rfl, HS⟩ := hrel
    obtain ⟨cnt, D, hcn, hset, hhas, hbel⟩ := HS.out
    have HB : Hid (HasIs D xs k ∧ Below w.heap.size w wr ∧ SetAt wr w.heap.size cnt D ∧ Go.Maps.IsMap D) := ⟨hhas, hbel, hset, World.ownsMap.isMap hset⟩
    clear hset hhas hbel HS
    by_cases hlt : k < n
    · obtain ⟨x, hx⟩ : ∃ x, xs[k]? = some x := ⟨_, List.getElem?_eq_getElem (by rw [HL.out]; exact hlt)⟩
      have HX : Hid (xs[k]? = some x) := hx
      rcases H.out.2 with ⟨e0, _⟩ | ⟨g, o, c, e1, hc1⟩
      · omega
      simp only [Value.slice.injEq, true_and] at e1
      obtain ⟨rfl, rfl⟩ := e1
      have x0 := Rd.elem MI.cells_length hc1 k _ hx 0 _ rfl
      have x1 := Rd.elem MI.cells_length hc1 k _ hx 1 _ rfl
      have x2 := Rd.elem MI.cells_length hc1 k _ hx 2 _ rfl
      have x3 := Rd.elem MI.cells_length hc1 k _ hx 3 _ rfl
      rw [← HB.out.2.1.cell (block_lt_of_cell x0), Nat.add_zero] at x0
      rw [← HB.out.2.1.cell (block_lt_of_cell x1)] at x1
      rw [← HB.out.2.1.cell (block_lt_of_cell x2)] at x2
      rw [← HB.out.2.1.cell (block_lt_of_cell x3)] at x3
      clear hc1 hx
      have hkL : (k : Int) < (n : Int) := by omega
      have HLX : Hid (LX w wr (wr.alloc (.cells #[.int .i64 x.op, .int .i64 x.a, .int .i64 x.b, .int .i64 x.c] 44)) x cnt D) := ⟨HB.out.2.2.1.keep (below_alloc _ _), Blk.new _ _ _, below_on HB.out.2.1 (Nat.le_refl _) (below_alloc _ _), World.ownsMap.lt HB.out.2.2.1⟩
      go_upto_region 6 with fail
      refine wp_world (fun u => Hid (LX w wr u x cnt D)) HLX ?_
      intro U1 HU1
      clear HLX x0 x1 x2 x3
      obtain ⟨a0, a1', a2, a3⟩ := blk4 HU1.out.xb
      go_wp2_with fail
      refine (namesPlace_any x _).mono ?_
      rintro e u2 ⟨rfl, b2⟩
      have HU2 : Hid (LX w wr u2 x cnt D) := HU1.out.keep b2
      clear b2 a0 a1' a2 a3 HU1
      cases hgo : goesB x
      · obtain ⟨a0, a1', a2, a3⟩ := blk4 HU2.out.xb
        go_wp2_with fail
        refine (namesPlace_any x _).mono ?_
        rintro e u3 ⟨rfl, b3⟩
        have HU3 : Hid (LX w wr u3 x cnt D) := HU2.out.keep b3
        clear b3 a0 a1' a2 a3 HU2
        rw [hgo]
        obtain ⟨a0, a1', a2, a3⟩ := blk4 HU3.out.xb
        by_cases hr : x.op = 29
        · rw [hr] at a0
          have HCE : Hid ((u3.alloc (.cells #[.int .i64 ((k : Int) + 1)] 2)).cell? ⟨u3.heap.size, 0, none⟩ = some (.int .i64 ((k : Int) + 1)) ∧ LX w wr (u3.alloc (.cells #[.int .i64 ((k : Int) + 1)] 2)) x cnt D ∧ ¬ u3.heap.size = w.heap.size) := ⟨(Blk.new u3 #[.int .i64 ((k : Int) + 1)] 2).cell 0, HU3.out.keep (below_alloc _ _), by have := World.ownsMap.lt HU3.out.set; omega⟩
          go_wp2_with fail
          refine (add_one w.heap.size cnt u3.heap.size 1 D ((k : Int) + 1) _ (w64_small (by omega) (by omega)) (by omega) HCE.out.1 HCE.out.2.2 HCE.out.2.1.set).mono ?_
          rintro e u4 ⟨rfl, s4, g4⟩
          have HN : Hid (∃ cnt D, cnt ≤ 2 * (k + 1) + 1 ∧ SetAt u4 w.heap.size cnt D ∧ HasIs D xs (k + 1) ∧ Below w.heap.size w u4) := ⟨_, _, by omega, s4, HB.out.1.ret HB.out.2.2.2 HX.out hgo hr, (HCE.out.2.1.grown s4 g4).bel⟩
          clear s4 g4 a0 a1' a2 a3
          go_wp2
          go_roundw
          case rel => exact ⟨k + 1, by omega, by go_num, HN⟩
          case measure => simp [intOf]; omega
        · have hr' : (x.op == 29) = false := by simpa using hr
          have HN : Hid (∃ cnt D, cnt ≤ 2 * (k + 1) + 1 ∧ SetAt u3 w.heap.size cnt D ∧ HasIs D xs (k + 1) ∧ Below w.heap.size w u3) := ⟨_, _, by omega, HU3.out.set, HB.out.1.none HX.out hgo hr, HU3.out.bel⟩
          go_wp2
          go_roundw
          case rel => exact ⟨k + 1, by omega, by go_num, HN⟩
          case measure => simp [intOf]; omega
      · obtain ⟨hc0, hc1⟩ := HG.out.2.2 k x HX.out hgo
        rw [HL.out] at hc1
        obtain ⟨a0, a1', a2, a3⟩ := blk4 HU2.out.xb
        have HCE : Hid ((u2.alloc (.cells #[.int .i64 x.c] 2)).cell? ⟨u2.heap.size, 0, none⟩ = some (.int .i64 x.c) ∧ LX w wr (u2.alloc (.cells #[.int .i64 x.c] 2)) x cnt D ∧ ¬ u2.heap.size = w.heap.size) := ⟨(Blk.new u2 #[.int .i64 x.c] 2).cell 0, HU2.out.keep (below_alloc _ _), by have := World.ownsMap.lt HU2.out.set; omega⟩
        go_wp2_with fail
        refine (add_one w.heap.size cnt u2.heap.size 1 D x.c _ (w64_small (by omega) (by omega)) (by omega) HCE.out.1 HCE.out.2.2 HCE.out.2.1.set).mono ?_
        rintro e u4 ⟨rfl, s4, g4⟩
        have HU4 : Hid (LX w wr u4 x (cnt + 1) (D.put (.int .i64 x.c) (.agg []))) := HCE.out.2.1.grown s4 g4
        clear s4 g4 a0 a1' a2 a3 HCE HU2
        obtain ⟨a0, a1', a2, a3⟩ := blk4 HU4.out.xb
        go_wp2_with fail
        refine (namesPlace_any x _).mono ?_
        rintro e u5 ⟨rfl, b5⟩
        have HU5 : Hid (LX w wr u5 x (cnt + 1) (D.put (.int .i64 x.c) (.agg []))) := HU4.out.keep b5
        clear b5 a0 a1' a2 a3 HU4
        rw [hgo]
        obtain ⟨a0, a1', a2, a3⟩ := blk4 HU5.out.xb
        have HCE : Hid ((u5.alloc (.cells #[.int .i64 ((k : Int) + 1)] 2)).cell? ⟨u5.heap.size, 0, none⟩ = some (.int .i64 ((k : Int) + 1)) ∧ LX w wr (u5.alloc (.cells #[.int .i64 ((k : Int) + 1)] 2)) x (cnt + 1) (D.put (.int .i64 x.c) (.agg [])) ∧ ¬ u5.heap.size = w.heap.size) := ⟨(Blk.new u5 #[.int .i64 ((k : Int) + 1)] 2).cell 0, HU5.out.keep (below_alloc _ _), by have := World.ownsMap.lt HU5.out.set; omega⟩
        go_wp2_with fail
        refine (add_one w.heap.size (cnt + 1) u5.heap.size 1 (D.put (.int .i64 x.c) (.agg [])) ((k : Int) + 1) _ (w64_small (by omega) (by omega)) (by omega) HCE.out.1 HCE.out.2.2 HCE.out.2.1.set).mono ?_
        rintro e u6 ⟨rfl, s6, g6⟩
        have HN : Hid (∃ cnt D, cnt ≤ 2 * (k + 1) + 1 ∧ SetAt u6 w.heap.size cnt D ∧ HasIs D xs (k + 1) ∧ Below w.heap.size w u6) := ⟨_, _, by omega, s6, HB.out.1.goes HB.out.2.2.2 HX.out hgo hc0, (HCE.out.2.1.grown s6 g6).bel⟩
        clear s6 g6 a0 a1' a2 a3
        go_wp2
        go_roundw
        case rel => exact ⟨k + 1, by omega, by go_num, HN⟩
        case measure => simp [intOf]; omega
    · obtain rfl : k = n := by omega
      go_wp2_with (at_delete; refine wpList_delete_own _ rfl _ _ 79 2 rfl 91 law64 Try.underlying79 _ w.heap.size cnt D rfl HB.out.2.2.1 _ _ rfl (Go.Maps.keyOf_int_mk Try.underlying2 (w64_small (z := (k : Int)) (by omega) (by omega))) ?_; intro w1 hown1 hturn1)
      have HD : Hid (SetAt w1 w.heap.size cnt (D.del (.int .i64 k)) ∧ Below w.heap.size w w1) := ⟨hown1, HB.out.2.1.grown hturn1.grown HB.out.2.1.size (fun j hj => by cases hj; exact Nat.le_refl _)⟩
      clear hown1 hturn1
      go_wp2_with fail
      refine (rising_any w.heap.size cnt _ _ (by omega) HD.out.1).mono ?_
      rintro e u9 ⟨g9, cap9, zs, rfl, own9, hsrt, hmem, b9⟩
      have ez : zs = (lds xs k).map Int.ofNat := by
        refine sorted_ext _ _ hsrt (List.pairwise_map.2 ((lds_sorted xs k).imp (fun h => by simpa using h))) fun z => ?_
        rw [hmem, List.mem_map]
        constructor
        · rintro ⟨h1, h2⟩
          by_cases e : z = (k : Int)
          · subst e
            rw [Go.Maps.has_del_same] at h2
            cases h2
          · rw [Go.Maps.has_del_other (fun q => e (by cases q; rfl)), HB.out.1 z] at h2
            simp only [Bool.and_eq_true, decide_eq_true_eq] at h2
            have := h2.2
            rw [← HL.out] at this
            have hle := lead_le xs _ HG.out this
            rw [HL.out] at hle
            exact ⟨z.toNat, (lds_mem _ _ _).2 ⟨by omega, this⟩, by simp; omega⟩
        · rintro ⟨j, hj, rfl⟩
          obtain ⟨j1, j2⟩ := (lds_mem _ _ _).1 hj
          rw [HL.out] at j2
          refine ⟨w64_small (by simp) (by simp; omega), ?_⟩
          rw [Go.Maps.has_del_other (fun q => by cases q; omega), HB.out.1]
          simp [j2]
      subst ez
      rw [List.length_map] at own9
      have HE : Hid (u9.ownsRow w.heap.size 2 1 (.slice (some ⟨g9, 0, none⟩) (lds xs k).length cap9) (lds xs k).length (((lds xs k).map Int.ofNat).flatMap intCell) ∧ Below w.heap.size w u9) := ⟨own_lower own9 HD.out.2.size, below_on HD.out.2 (Nat.le_refl _) b9⟩
      clear own9 hsrt hmem b9
      rw [List.length_map]
      go_wp2
      go_ret
      exact ⟨g9, cap9, rfl, HE.out.1, HE.out.2⟩
end Go.Proofs.Ytdbaghmjomdmbaa
