import Derived.Test.YtifpjgdnikkekaaGreatSh40
import Derived.Test.YtifpjgdnikkekaaGreatSh31
namespace Go.Proofs.YtifpjgdnikkekaaGreat
open Go.ChangeShapes Go.WideShapes Go.ChangeAt Go.RowKit
set_option linter.unusedVariables false
theorem sorted_ext : ∀ (a b : List Int), a.Pairwise (· < ·) → b.Pairwise (· < ·) → (∀ z, z ∈ a ↔ z ∈ b) → a = b
  | [], [], _, _, _ => rfl
  | [], y :: b, _, _, h => by have := (h y).2 (by simp); cases this
  | x :: a, [], _, _, h => by have := (h x).1 (by simp); cases this
  | x :: a, y :: b, ha, hb, h => by
    obtain ⟨a1, a2⟩ := List.pairwise_cons.1 ha
    obtain ⟨b1, b2⟩ := List.pairwise_cons.1 hb
    have e : x = y := by
      rcases List.mem_cons.1 ((h x).1 (by simp)) with e | e
      · exact e
      · rcases List.mem_cons.1 ((h y).2 (by simp)) with e' | e'
        · exact e'.symm
        · have := b1 x e
          have := a1 y e'
          omega
    subst e
    congr 1
    refine sorted_ext a b a2 b2 fun z => ⟨fun hz => ?_, fun hz => ?_⟩
    · rcases List.mem_cons.1 ((h z).1 (List.mem_cons_of_mem _ hz)) with e | e
      · have := a1 z hz
        omega
      · exact e
    · rcases List.mem_cons.1 ((h z).2 (List.mem_cons_of_mem _ hz)) with e | e
      · have := b1 z hz
        omega
      · exact e
theorem lead_le (xs : List MI) (j : Nat) (hg : CodeGood xs) (h : leadB xs xs.length j = true) : j ≤ xs.length := by
  simp only [leadB, Bool.or_eq_true, List.any_eq_true, List.mem_range, decide_eq_true_eq] at h
  rcases h with h | ⟨i, hi, h⟩
  · omega
  · cases hx : xs[i]? with
    | none => rw [hx] at h; cases h
    | some x =>
      rw [hx] at h
      simp only [leads, Bool.or_eq_true, Bool.and_eq_true, decide_eq_true_eq] at h
      rcases h with ⟨h1, h2⟩ | ⟨_, h2⟩
      · have := hg.2.2 i x hx h1
        omega
      · omega
/-- The set holds the leaders by the first k instructions. -/
def HasIs (D : DataW Unit) (xs : List MI) (k : Nat) : Prop := ∀ z : Int, Go.Maps.has D (.int .i64 z) = (decide (0 ≤ z) && leadB xs k z.toNat)
theorem has_put (D : DataW Unit) (hD : Go.Maps.IsMap D) (z y : Int) (u : DataW Unit) : Go.Maps.has (D.put (.int .i64 z) u) (.int .i64 y) = (Go.Maps.has D (.int .i64 y) || decide (y = z)) := by
  by_cases h : y = z
  · subst h
    rw [Go.Maps.has_put_same hD (show WideAt.IsKeyLit (Lit.int .i64 y) from trivial)]
    simp
  · rw [Go.Maps.has_put_other (fun e => h (by cases e; rfl))]
    simp [h]
theorem HasIs.start (xs : List MI) (u : DataW Unit) : HasIs ((DataW.map [] : DataW Unit).put (.int .i64 0) u) xs 0 := fun z => by
  rw [has_put _ Go.Maps.isMap_empty, leadB_start]
  have e : Go.Maps.has (DataW.map [] : DataW Unit) (.int .i64 z) = false := rfl
  rw [e]
  by_cases h : z = 0
  · subst h
    rfl
  · by_cases h0 : 0 ≤ z
    · have : ¬ z.toNat = 0 := by omega
      simp [h, this]
    · simp [h, h0]
theorem HasIs.none {D : DataW Unit} {xs : List MI} {k : Nat} {x : MI} (h : HasIs D xs k) (hx : xs[k]? = some x) (hg : goesB x = false) (hr : ¬ x.op = 29) : HasIs D xs (k + 1) := fun z => by
  rw [h z, leadB_succ xs k _ x hx]
  simp [leads, hg, hr]
theorem HasIs.ret {D : DataW Unit} {xs : List MI} {k : Nat} {x : MI} {u : DataW Unit} (h : HasIs D xs k) (hD : Go.Maps.IsMap D) (hx : xs[k]? = some x) (hg : goesB x = false) (hr : x.op = 29) : HasIs (D.put (.int .i64 ((k : Int) + 1)) u) xs (k + 1) := fun z => by
  rw [has_put D hD, h z, leadB_succ xs k _ x hx]
  by_cases h0 : 0 ≤ z
  · have e : decide (z = (k : Int) + 1) = decide (z.toNat = k + 1) := decide_eq_decide.2 ⟨fun _ => by omega, fun _ => by omega⟩
    rw [e]
    simp [leads, hg, hr, h0]
  · have e : decide (z = (k : Int) + 1) = false := by simp; omega
    simp [e, h0]
theorem HasIs.goes {D : DataW Unit} {xs : List MI} {k : Nat} {x : MI} {u u' : DataW Unit} (h : HasIs D xs k) (hD : Go.Maps.IsMap D) (hx : xs[k]? = some x) (hg : goesB x = true) (hc : 0 ≤ x.c) : HasIs ((D.put (.int .i64 x.c) u).put (.int .i64 ((k : Int) + 1)) u') xs (k + 1) := fun z => by
  rw [has_put _ (hD.put _ _), has_put D hD, h z, leadB_succ xs k _ x hx]
  by_cases h0 : 0 ≤ z
  · have e : decide (z = (k : Int) + 1) = decide (z.toNat = k + 1) := decide_eq_decide.2 ⟨fun _ => by omega, fun _ => by omega⟩
    have e2 : decide (z = x.c) = decide (x.c = (z.toNat : Int)) := decide_eq_decide.2 ⟨fun _ => by omega, fun _ => by omega⟩
    rw [e, e2]
    simp [leads, hg, h0, Bool.or_assoc]
  · have e : decide (z = (k : Int) + 1) = false := by simp; omega
    have e2 : decide (z = x.c) = false := by simp; omega
    simp [e, e2, h0]
theorem grown_of_below {w w' : World} (h : Below w.heap.size w w') : w.grownBy w' none := ⟨h.os, h.tape, h.output, h.size, fun k hk _ => h.block k hk⟩
theorem SetAt.keep {w w' : World} {b cnt : Nat} {D : DataW Unit} (h : SetAt w b cnt D) (hb : Below w.heap.size w w') : SetAt w' b cnt D := World.ownsMap.kept h (grown_of_below hb) (by simp)
/-- The set, and the block of an instruction. -/
structure LX (w wr U : World) (x : MI) (cnt : Nat) (D : DataW Unit) : Prop where
  set : SetAt U w.heap.size cnt D
  xb : Blk U wr.heap.size #[.int .i64 x.op, .int .i64 x.a, .int .i64 x.b, .int .i64 x.c] 73
  bel : Below w.heap.size w U
  lt : w.heap.size < wr.heap.size
theorem LX.keep {w wr U U' : World} {x : MI} {cnt : Nat} {D : DataW Unit} (h : LX w wr U x cnt D) (hb : Below U.heap.size U U') : LX w wr U' x cnt D := ⟨h.set.keep hb, h.xb.keep hb, below_on h.bel (Nat.le_refl _) hb, h.lt⟩
theorem LX.grown {w wr U U' : World} {x : MI} {cnt cnt' : Nat} {D D' : DataW Unit} (h : LX w wr U x cnt D) (hs : SetAt U' w.heap.size cnt' D') (hg : U.grownBy U' (some w.heap.size)) : LX w wr U' x cnt' D' := by
  refine ⟨hs, ?_, h.bel.grown hg h.bel.size (fun j hj => by cases hj; exact Nat.le_refl _), h.lt⟩
  have := h.xb
  have hl := h.lt
  unfold Blk at *
  rw [hg.block _ h.xb.lt (fun e => by have := Option.some.inj e; omega)]
  exact this
end Go.Proofs.YtifpjgdnikkekaaGreat
namespace Go.Proofs.YtifpjgdnikkekaaGreat
open Go.ChangeShapes Go.WideShapes Go.ChangeAt Go.RowKit
set_option linter.unusedVariables false
theorem blk4 {u : World} {X : Nat} {x0 x1 x2 x3 : Value} {t : TypeId} (h : Blk u X #[x0, x1, x2, x3] t) : u.cell? ⟨X, 0, none⟩ = some x0 ∧ u.cell? ⟨X, 1, none⟩ = some x1 ∧ u.cell? ⟨X, 2, none⟩ = some x2 ∧ u.cell? ⟨X, 3, none⟩ = some x3 :=
  ⟨h.cell 0, h.cell 1, h.cell 2, h.cell 3⟩
theorem w64_small {z : Int} (h0 : 0 ≤ z) (h1 : z ≤ 1048576) : W64 z := WalkArith.wf_i64 (by omega)
set_option maxHeartbeats 4000000 in
set_option maxRecDepth 100000 in
theorem leadersOf_any (s : Value) (xs : List MI) (w : World) (hg : CodeGood xs) (h : Rd w 4 s xs.length (xs.flatMap MI.cells)) :
    Calls Tryz.prog 137 #[s] w fun e w' => ∃ g cap, e = .returned (.slice (some ⟨g, 0, none⟩) (lds xs xs.length).length cap) ∧ w'.ownsRow w.heap.size 2 1 (.slice (some ⟨g, 0, none⟩) (lds xs xs.length).length cap) (lds xs xs.length).length (((lds xs xs.length).map Int.ofNat).flatMap intCell) ∧ Below w.heap.size w w' := by
  have H : Hid (Rd w 4 s xs.length (xs.flatMap MI.cells)) := h
  have HG : Hid (CodeGood xs) := hg
  have hg1 := hg.1
  have hg2 := hg.2.1
  obtain ⟨a1, c1, rfl⟩ := h.is_slice
  clear h hg
  generalize hLL : xs.length = n at H hg1 hg2
  have HL : Hid (xs.length = n) := hLL
  clear hLL
  have hmm := @run_makeMap Tryz.prog
  have S0 : SetAt (w.alloc (.map #[] 0)) w.heap.size 0 (.map []) := World.ownsMap_made _ _ _ _
  have B0 : Below w.heap.size w (w.alloc (.map #[] 0)) := below_alloc _ _
  have z0 : (w.alloc (.map #[] 0)).heap.size = w.heap.size + 1 := by simp
  have hce : ((w.alloc (.map #[] 0)).alloc (.cells #[.int .i64 0] 2)).cell? ⟨w.heap.size + 1, 0, none⟩ = some (.int .i64 0) := by
    have := (Blk.new (w.alloc (.map #[] 0)) #[.int .i64 0] 2).cell 0
    rw [z0] at this
    exact this
  have S1 : Hid (SetAt ((w.alloc (.map #[] 0)).alloc (.cells #[.int .i64 0] 2)) w.heap.size 0 (.map []) ∧ Below w.heap.size w ((w.alloc (.map #[] 0)).alloc (.cells #[.int .i64 0] 2))) := ⟨S0.keep (below_alloc _ _), below_on B0 (Nat.le_refl _) (below_alloc _ _)⟩
  have HCE : Hid _ := hce
  clear S0 B0 z0 hce
  go_enter Tryz.func137, Tryz.ntmps137
  go_wp2_with fail
  refine (add_one w.heap.size 0 (w.heap.size + 1) 1 (.map []) 0 _ (w64_small (by omega) (by omega)) (by omega) HCE.out (by omega) S1.out.1).mono ?_
  rintro e u1 ⟨rfl, s1, g1⟩
  have HS : Hid (∃ cnt D, cnt ≤ 1 ∧ SetAt u1 w.heap.size cnt D ∧ HasIs D xs 0 ∧ Below w.heap.size w u1) := ⟨_, _, Nat.le_refl _, s1, HasIs.start xs _, S1.out.2.grown g1 S1.out.2.size (fun j hj => by cases hj; exact Nat.le_refl _)⟩
  clear s1 g1 S1 HCE
  go_wp2
  go_loopw [12] (fun i wr => ∃ k : Nat, k ≤ n ∧ i = .int .i64 k ∧ Hid (∃ cnt D, cnt ≤ 2 * k + 1 ∧ SetAt wr w.heap.size cnt D ∧ HasIs D xs k ∧ Below w.heap.size w wr)) (fun i _ => n - (intOf i).toNat)
  case atStart => exact ⟨0, by omega, rfl, HS⟩
  case round =>
    clear HS
    obtain ⟨k, hk, rfl, HS⟩ := hrel
    obtain ⟨cnt, D, hcn, hset, hhas, hbel⟩ := HS.out
    have HB : Hid (HasIs D xs k ∧ Below w.heap.size w wr ∧ SetAt wr w.heap.size cnt D ∧ Go.Maps.IsMap D) := ⟨hhas, hbel, hset, World.ownsMap.isMap hset⟩
    clear hset hhas hbel HS
    by_cases hlt : k < n
    · obtain ⟨x, hx⟩ : ∃ x, xs[k]? = some x := ⟨_, List.getElem?_eq_getElem (by rw [HL.out]; exact hlt)⟩
      have HX : Hid (xs[k]? = some x) := hx
      rcases H.out.2 with ⟨e0, _⟩ | ⟨g, o, c, e1, hc1⟩
      · omega
      simp only [Value.slice.injEq, true_and] at e1
      obtain ⟨rfl, rfl⟩ := e1
      have x0 := Rd.elem MI.cells_length hc1 k _ hx 0 _ rfl
      have x1 := Rd.elem MI.cells_length hc1 k _ hx 1 _ rfl
      have x2 := Rd.elem MI.cells_length hc1 k _ hx 2 _ rfl
      have x3 := Rd.elem MI.cells_length hc1 k _ hx 3 _ rfl
      rw [← HB.out.2.1.cell (block_lt_of_cell x0), Nat.add_zero] at x0
      rw [← HB.out.2.1.cell (block_lt_of_cell x1)] at x1
      rw [← HB.out.2.1.cell (block_lt_of_cell x2)] at x2
      rw [← HB.out.2.1.cell (block_lt_of_cell x3)] at x3
      clear hc1 hx
      have hkL : (k : Int) < (n : Int) := by omega
      have HLX : Hid (LX w wr (wr.alloc (.cells #[.int .i64 x.op, .int .i64 x.a, .int .i64 x.b, .int .i64 x.c] 73)) x cnt D) := ⟨HB.out.2.2.1.keep (below_alloc _ _), Blk.new _ _ _, below_on HB.out.2.1 (Nat.le_refl _) (below_alloc _ _), World.ownsMap.lt HB.out.2.2.1⟩
      go_upto_region 6 with fail
      refine wp_world (fun u => Hid (LX w wr u x cnt D)) HLX ?_
      intro U1 HU1
      clear HLX x0 x1 x2 x3
      obtain ⟨a0, a1', a2, a3⟩ := blk4 HU1.out.xb
      go_wp2_with fail
      refine (namesPlace_any x _).mono ?_
      rintro e u2 ⟨rfl, b2⟩
      have HU2 : Hid (LX w wr u2 x cnt D) := HU1.out.keep b2
      clear b2 a0 a1' a2 a3 HU1
      cases hgo : goesB x
      · obtain ⟨a0, a1', a2, a3⟩ := blk4 HU2.out.xb
        go_wp2_with fail
        refine (namesPlace_any x _).mono ?_
        rintro e u3 ⟨rfl, b3⟩
        have HU3 : Hid (LX w wr u3 x cnt D) := HU2.out.keep b3
        clear b3 a0 a1' a2 a3 HU2
        rw [hgo]
        obtain ⟨a0, a1', a2, a3⟩ := blk4 HU3.out.xb
        by_cases hr : x.op = 29
        · rw [hr] at a0
          have HCE : Hid ((u3.alloc (.cells #[.int .i64 ((k : Int) + 1)] 2)).cell? ⟨u3.heap.size, 0, none⟩ = some (.int .i64 ((k : Int) + 1)) ∧ LX w wr (u3.alloc (.cells #[.int .i64 ((k : Int) + 1)] 2)) x cnt D ∧ ¬ u3.heap.size = w.heap.size) := ⟨(Blk.new u3 #[.int .i64 ((k : Int) + 1)] 2).cell 0, HU3.out.keep (below_alloc _ _), by have := World.ownsMap.lt HU3.out.set; omega⟩
          go_wp2_with fail
          refine (add_one w.heap.size cnt u3.heap.size 1 D ((k : Int) + 1) _ (w64_small (by omega) (by omega)) (by omega) HCE.out.1 HCE.out.2.2 HCE.out.2.1.set).mono ?_
          rintro e u4 ⟨rfl, s4, g4⟩
          have HN : Hid (∃ cnt D, cnt ≤ 2 * (k + 1) + 1 ∧ SetAt u4 w.heap.size cnt D ∧ HasIs D xs (k + 1) ∧ Below w.heap.size w u4) := ⟨_, _, by omega, s4, HB.out.1.ret HB.out.2.2.2 HX.out hgo hr, (HCE.out.2.1.grown s4 g4).bel⟩
          clear s4 g4 a0 a1' a2 a3
          go_wp2
          go_roundw
          case rel => exact ⟨k + 1, by omega, by go_num, HN⟩
          case measure => simp [intOf]; omega
        · have hr' : (x.op == 29) = false := by simpa using hr
          have HN : Hid (∃ cnt D, cnt ≤ 2 * (k + 1) + 1 ∧ SetAt u3 w.heap.size cnt D ∧ HasIs D xs (k + 1) ∧ Below w.heap.size w u3) := ⟨_, _, by omega, HU3.out.set, HB.out.1.none HX.out hgo hr, HU3.out.bel⟩
          go_wp2
          go_roundw
          case rel => exact ⟨k + 1, by omega, by go_num, HN⟩
          case measure => simp [intOf]; omega
      · obtain ⟨hc0, hc1⟩ := HG.out.2.2 k x HX.out hgo
        rw [HL.out] at hc1
        obtain ⟨a0, a1', a2, a3⟩ := blk4 HU2.out.xb
        have HCE : Hid ((u2.alloc (.cells #[.int .i64 x.c] 2)).cell? ⟨u2.heap.size, 0, none⟩ = some (.int .i64 x.c) ∧ LX w wr (u2.alloc (.cells #[.int .i64 x.c] 2)) x cnt D ∧ ¬ u2.heap.size = w.heap.size) := ⟨(Blk.new u2 #[.int .i64 x.c] 2).cell 0, HU2.out.keep (below_alloc _ _), by have := World.ownsMap.lt HU2.out.set; omega⟩
        go_wp2_with fail
        refine (add_one w.heap.size cnt u2.heap.size 1 D x.c _ (w64_small (by omega) (by omega)) (by omega) HCE.out.1 HCE.out.2.2 HCE.out.2.1.set).mono ?_
        rintro e u4 ⟨rfl, s4, g4⟩
        have HU4 : Hid (LX w wr u4 x (cnt + 1) (D.put (.int .i64 x.c) (.agg []))) := HCE.out.2.1.grown s4 g4
        clear s4 g4 a0 a1' a2 a3 HCE HU2
        obtain ⟨a0, a1', a2, a3⟩ := blk4 HU4.out.xb
        go_wp2_with fail
        refine (namesPlace_any x _).mono ?_
        rintro e u5 ⟨rfl, b5⟩
        have HU5 : Hid (LX w wr u5 x (cnt + 1) (D.put (.int .i64 x.c) (.agg []))) := HU4.out.keep b5
        clear b5 a0 a1' a2 a3 HU4
        rw [hgo]
        obtain ⟨a0, a1', a2, a3⟩ := blk4 HU5.out.xb
        have HCE : Hid ((u5.alloc (.cells #[.int .i64 ((k : Int) + 1)] 2)).cell? ⟨u5.heap.size, 0, none⟩ = some (.int .i64 ((k : Int) + 1)) ∧ LX w wr (u5.alloc (.cells #[.int .i64 ((k : Int) + 1)] 2)) x (cnt + 1) (D.put (.int .i64 x.c) (.agg [])) ∧ ¬ u5.heap.size = w.heap.size) := ⟨(Blk.new u5 #[.int .i64 ((k : Int) + 1)] 2).cell 0, HU5.out.keep (below_alloc _ _), by have := World.ownsMap.lt HU5.out.set; omega⟩
        go_wp2_with fail
        refine (add_one w.heap.size (cnt + 1) u5.heap.size 1 (D.put (.int .i64 x.c) (.agg [])) ((k : Int) + 1) _ (w64_small (by omega) (by omega)) (by omega) HCE.out.1 HCE.out.2.2 HCE.out.2.1.set).mono ?_
        rintro e u6 ⟨rfl, s6, g6⟩
        have HN : Hid (∃ cnt D, cnt ≤ 2 * (k + 1) + 1 ∧ SetAt u6 w.heap.size cnt D ∧ HasIs D xs (k + 1) ∧ Below w.heap.size w u6) := ⟨_, _, by omega, s6, HB.out.1.goes HB.out.2.2.2 HX.out hgo hc0, (HCE.out.2.1.grown s6 g6).bel⟩
        clear s6 g6 a0 a1' a2 a3
        go_wp2
        go_roundw
        case rel => exact ⟨k + 1, by omega, by go_num, HN⟩
        case measure => simp [intOf]; omega
    · obtain rfl : k = n := by omega
      go_wp2_with (at_delete; refine wpList_delete_own _ rfl _ _ 142 2 rfl 205 law64 Tryz.underlying142 _ w.heap.size cnt D rfl HB.out.2.2.1 _ _ rfl (Go.Maps.keyOf_int_mk Tryz.underlying2 (w64_small (z := (k : Int)) (by omega) (by omega))) ?_; intro w1 hown1 hturn1)
      have HD : Hid (SetAt w1 w.heap.size cnt (D.del (.int .i64 k)) ∧ Below w.heap.size w w1) := ⟨hown1, HB.out.2.1.grown hturn1.grown HB.out.2.1.size (fun j hj => by cases hj; exact Nat.le_refl _)⟩
      clear hown1 hturn1
      go_wp2_with fail
      refine (rising_any w.heap.size cnt _ _ (by omega) HD.out.1).mono ?_
      rintro e u9 ⟨g9, cap9, zs, rfl, own9, hsrt, hmem, b9⟩
      have ez : zs = (lds xs k).map Int.ofNat := by
        refine sorted_ext _ _ hsrt (List.pairwise_map.2 ((lds_sorted xs k).imp (fun h => by simpa using h))) fun z => ?_
        rw [hmem, List.mem_map]
        constructor
        · rintro ⟨h1, h2⟩
          by_cases e : z = (k : Int)
          · subst e
            rw [Go.Maps.has_del_same] at h2
            cases h2
          · rw [Go.Maps.has_del_other (fun q => e (by cases q; rfl)), HB.out.1 z] at h2
            simp only [Bool.and_eq_true, decide_eq_true_eq] at h2
            have := h2.2
            rw [← HL.out] at this
            have hle := lead_le xs _ HG.out this
            rw [HL.out] at hle
            exact ⟨z.toNat, (lds_mem _ _ _).2 ⟨by omega, this⟩, by simp; omega⟩
        · rintro ⟨j, hj, rfl⟩
          obtain ⟨j1, j2⟩ := (lds_mem _ _ _).1 hj
          rw [HL.out] at j2
          refine ⟨w64_small (by simp) (by simp; omega), ?_⟩
          rw [Go.Maps.has_del_other (fun q => by cases q; omega), HB.out.1]
          simp [j2]
      subst ez
      rw [List.length_map] at own9
      have HE : Hid (u9.ownsRow w.heap.size 2 1 (.slice (some ⟨g9, 0, none⟩) (lds xs k).length cap9) (lds xs k).length (((lds xs k).map Int.ofNat).flatMap intCell) ∧ Below w.heap.size w u9) := ⟨own_lower own9 HD.out.2.size, below_on HD.out.2 (Nat.le_refl _) b9⟩
      clear own9 hsrt hmem b9
      rw [List.length_map]
      go_wp2
      go_ret
      exact ⟨g9, cap9, rfl, HE.out.1, HE.out.2⟩
end Go.Proofs.YtifpjgdnikkekaaGreat
namespace Go.Proofs.YtifpjgdnikkekaaGreat
open Go.ChangeShapes Go.WideShapes Go.ChangeAt Go.RowKit
set_option linter.unusedVariables false
def PlacesOk (xs : List MI) : Prop := ∀ (i : Nat) (x : MI), xs[i]? = some x → goesB x = true → 0 ≤ x.c ∧ x.c < (xs.length : Int)
theorem contains_none (a : Option Addr) (c : Nat) (z : Int) (w : World) : Calls Tryz.prog 93 #[.slice a 0 c, .int .i64 z] w fun e w' => e = .returned (.bool false) ∧ w' = w := by
  have h := AnyG.slices_Contains_int_empty Tryz.lContains a c z w
  exact h
theorem contains_one (g c : Nat) (y z : Int) (w : World) (hc : w.cell? ⟨g, 0, none⟩ = some (.int .i64 y)) : Calls Tryz.prog 93 #[.slice (some ⟨g, 0, none⟩) 1 c, .int .i64 z] w fun e w' => e = .returned (.bool (decide (z = y))) ∧ w' = w := by
  have h := AnyG.slices_Contains_int Tryz.lContains g 0 1 c [y] z w (by simp) (by omega) (fun j hj => by
    have : j = 0 := by simpa using hj
    subst this
    simpa using hc)
  have e : ([y].take 1).contains z = decide (z = y) := by
    by_cases q : z = y
    · simp [q]
    · simp [q]
  rw [e] at h
  exact h
theorem search_any (g c : Nat) (zs : List Int) (z : Int) (w : World) (hn : zs.length ≤ 1048576) (hs : zs.Pairwise (· < ·)) (h : Rd w 1 (.slice (some ⟨g, 0, none⟩) zs.length c) zs.length (zs.flatMap intCell)) (hz : z ∈ zs) :
    Calls Tryz.prog 138 #[.slice (some ⟨g, 0, none⟩) zs.length c, .int .i64 z] w fun e w' => (∃ b, e = .returned (.tuple #[.int .i64 (zs.idxOf z : Nat), .bool b])) ∧ ∃ q, w' = w.drewN q := by
  have hcell : ∀ j, j < zs.length → w.cell? ⟨g, 0 + j, none⟩ = some (.int .i64 (zs.getD j 0)) := fun j hj => by
    rcases h.2 with ⟨e0, _⟩ | ⟨g', o', c', e1, hc⟩
    · omega
    · simp only [Value.slice.injEq, Option.some.injEq, Addr.mk.injEq, and_true, true_and] at e1
      obtain ⟨⟨rfl, rfl⟩, rfl⟩ := e1
      have := hc j (.int .i64 (zs.getD j 0)) (by rw [ints_flat]; simp [List.getD_eq_getElem?_getD, List.getElem?_eq_getElem hj])
      exact this
  have hc := AnyG.slices_BinarySearch_int Tryz.lSearch g 0 zs.length c zs z w (Nat.le_refl _) (by omega) hcell (by rw [List.take_of_length_le (Nat.le_refl _)]; exact hs.imp (fun h => by omega))
  rw [List.take_of_length_le (Nat.le_refl _)] at hc
  have e : ∀ (l : List Int), l.Pairwise (· < ·) → z ∈ l → l.countP (fun x => decide (x < z)) = l.idxOf z := by
    intro l
    induction l with
    | nil => intro _ h; cases h
    | cons y r ih =>
      intro hp hm
      obtain ⟨p1, p2⟩ := List.pairwise_cons.1 hp
      by_cases q : y = z
      · subst q
        rw [List.countP_cons_of_neg (by simp), List.idxOf_cons_self]
        exact List.countP_eq_zero.2 (fun a ha => by have := p1 a ha; simp; omega)
      · rcases List.mem_cons.1 hm with e | e
        · exact absurd e.symm q
        · have := p1 z e
          rw [List.countP_cons_of_pos (by simpa using this), ih p2 e, List.idxOf_cons]
          rw [show (y == z) = false from by simpa using q]
          rfl
  refine hc.mono ?_
  rintro e1 w' ⟨rfl, hq⟩
  rw [e zs hs hz]
  exact ⟨⟨_, rfl⟩, hq⟩
theorem MI.at4 {w u : World} {xs : List MI} {g o n e : Nat} {x : MI} (hc : ∀ j v, (xs.flatMap MI.cells)[j]? = some v → w.cell? ⟨g, o + j, none⟩ = some v) (hx : xs[e]? = some x) (hb : Below w.heap.size w u) : u.cell? ⟨g, o + e * 4, none⟩ = some (.int .i64 x.op) ∧ u.cell? ⟨g, o + e * 4 + 1, none⟩ = some (.int .i64 x.a) ∧ u.cell? ⟨g, o + e * 4 + 2, none⟩ = some (.int .i64 x.b) ∧ u.cell? ⟨g, o + e * 4 + 3, none⟩ = some (.int .i64 x.c) := by
  have x0 := Rd.elem MI.cells_length hc e _ hx 0 _ rfl
  have x1 := Rd.elem MI.cells_length hc e _ hx 1 _ rfl
  have x2 := Rd.elem MI.cells_length hc e _ hx 2 _ rfl
  have x3 := Rd.elem MI.cells_length hc e _ hx 3 _ rfl
  rw [← hb.cell (block_lt_of_cell x0), Nat.add_zero] at x0
  rw [← hb.cell (block_lt_of_cell x1)] at x1
  rw [← hb.cell (block_lt_of_cell x2)] at x2
  rw [← hb.cell (block_lt_of_cell x3)] at x3
  exact ⟨x0, x1, x2, x3⟩
set_option maxHeartbeats 4000000 in
set_option maxRecDepth 100000 in
theorem placesHold_any (s : Value) (xs : List MI) (w : World) (hn : xs.length ≤ 1048576) (h : Rd w 4 s xs.length (xs.flatMap MI.cells)) :
    Calls Tryz.prog 136 #[s] w fun e w' => SaysIff e (PlacesOk xs) ∧ Below w.heap.size w w' := by
  have H : Hid (Rd w 4 s xs.length (xs.flatMap MI.cells)) := h
  obtain ⟨a1, c1, rfl⟩ := h.is_slice
  clear h
  generalize hLL : xs.length = n at hn H
  have HL : Hid (xs.length = n) := hLL
  clear hLL
  go_enter Tryz.func136, Tryz.ntmps136
  go_wp2
  go_loopw [7] (fun i wr => ∃ k : Nat, k ≤ n ∧ i = .int .i64 k ∧ Hid ((∀ j, j < k → ∀ x, xs[j]? = some x → goesB x = true → 0 ≤ x.c ∧ x.c < (n : Int)) ∧ Below w.heap.size w wr)) (fun i _ => n - (intOf i).toNat)
  case atStart => exact ⟨0, by omega, rfl, ⟨fun j hj => by omega, Below.refl _ _⟩⟩
  case round =>
    obtain ⟨k, hk, rfl, HT⟩ := hrel
    by_cases hlt : k < n
    · obtain ⟨x, hx⟩ : ∃ x, xs[k]? = some x := ⟨_, List.getElem?_eq_getElem (by rw [HL.out]; exact hlt)⟩
      have HX : Hid (xs[k]? = some x) := hx
      rcases H.out.2 with ⟨e0, _⟩ | ⟨g, o, c, e1, hc1⟩
      · omega
      simp only [Value.slice.injEq, true_and] at e1
      obtain ⟨rfl, rfl⟩ := e1
      obtain ⟨x0, x1, x2, x3⟩ := MI.at4 (n := 0) hc1 hx HT.out.2
      clear hc1 hx
      have hkL : (k : Int) < (n : Int) := by omega
      go_upto_region 4 with fail
      refine wp_world (fun u => Hid (Blk u wr.heap.size #[.int .i64 x.op, .int .i64 x.a, .int .i64 x.b, .int .i64 x.c] 73 ∧ Below w.heap.size w u)) ⟨Blk.new _ _ _, below_on HT.out.2 (Nat.le_refl _) (below_alloc _ _)⟩ ?_
      intro U1 HU1
      clear x0 x1 x2 x3
      obtain ⟨a0, a1', a2, a3⟩ := blk4 HU1.out.1
      go_wp2_with fail
      refine (namesPlace_any x _).mono ?_
      rintro e u2 ⟨rfl, b2⟩
      have HU2 : Hid (Blk u2 wr.heap.size #[.int .i64 x.op, .int .i64 x.a, .int .i64 x.b, .int .i64 x.c] 73 ∧ Below w.heap.size w u2) := ⟨HU1.out.1.keep b2, below_on HU1.out.2 (Nat.le_refl _) b2⟩
      clear b2 a0 a1' a2 a3 HU1
      obtain ⟨a0, a1', a2, a3⟩ := blk4 HU2.out.1
      cases hgo : goesB x
      · have HN : Hid ((∀ j, j < k + 1 → ∀ x, xs[j]? = some x → goesB x = true → 0 ≤ x.c ∧ x.c < (n : Int)) ∧ Below w.heap.size w u2) := ⟨fun j hj y hy hg => by
          by_cases e : j = k
          · subst e
            rw [HX.out] at hy
            cases hy
            rw [hgo] at hg
            cases hg
          · exact HT.out.1 j (by omega) y hy hg, HU2.out.2⟩
        go_wp2
        go_roundw
        case rel => exact ⟨k + 1, by omega, by go_num, HN⟩
        case measure => simp [intOf]; omega
      · go_wp2_with fail
        refine (isOneOf_f x.c n _ (by omega)).mono ?_
        rintro e u3 ⟨rfl, hu⟩
        have hu2 := hu.symm
        clear hu
        subst hu2
        by_cases r : 0 ≤ x.c ∧ x.c < (n : Int)
        · rw [show decide (0 ≤ x.c ∧ x.c < (n : Int)) = true from by simpa using r]
          have HN : Hid ((∀ j, j < k + 1 → ∀ x, xs[j]? = some x → goesB x = true → 0 ≤ x.c ∧ x.c < (n : Int)) ∧ Below w.heap.size w u2) := ⟨fun j hj y hy hg => by
            by_cases e : j = k
            · subst e
              rw [HX.out] at hy
              cases hy
              exact r
            · exact HT.out.1 j (by omega) y hy hg, HU2.out.2⟩
          go_wp2
          go_roundw
          case rel => exact ⟨k + 1, by omega, by go_num, HN⟩
          case measure => simp [intOf]; omega
        · rw [show decide (0 ≤ x.c ∧ x.c < (n : Int)) = false from by simpa using r]
          have HN : Hid (¬ PlacesOk xs) := fun e => r (by have := e k x HX.out hgo; rw [HL.out] at this; exact this)
          go_wp2
          go_ret
          exact ⟨.no HN.out, HU2.out.2⟩
    · have HY : Hid (PlacesOk xs) := fun i x hi hg => by
        have hlt := (List.getElem?_eq_some_iff.1 hi).1
        rw [HL.out] at hlt ⊢
        exact HT.out.1 i (by omega) x hi hg
      go_wp2
      go_ret
      exact ⟨.yes HY.out, HT.out.2⟩
/-- Places that are new. -/
structure NP (w U : World) (V : Value) (ns : List Int) : Prop where
  bel : Below w.heap.size w U
  row : U.ownsRow w.heap.size 2 1 V ns.length (ns.flatMap intCell)
theorem NP.keep {w U U' : World} {V : Value} {ns : List Int} (h : NP w U V ns) (hb : Below U.heap.size U U') : NP w U' V ns := ⟨below_on h.bel (Nat.le_refl _) hb, own_keep h.row hb (Nat.le_refl _)⟩
theorem NP.app {w U u' : World} {V V' : Value} {ns : List Int} {z : Int} {m : Nat} (h : NP w U V ns) (hown : u'.ownsRow w.heap.size 2 1 V' m (ns.flatMap intCell ++ [.int .i64 z])) (hm : m = ns.length + 1) (hg : (U.alloc (.cells #[.int .i64 z] 2)).grownBy u' V.ownBlock) : NP w u' V' (ns ++ [z]) := by
  have bA := below_alloc U (.cells #[.int .i64 z] 2)
  refine ⟨(below_on h.bel (Nat.le_refl _) bA).grown hg (Nat.le_trans h.bel.size bA.size) (fun i hi => (h.row.lt i hi).1), ?_⟩
  rw [List.length_append, List.length_singleton, ← hm, List.flatMap_append]
  exact hown
end Go.Proofs.YtifpjgdnikkekaaGreat
