import Derived.Test.YtdbaghmjomdmbaaFo22
namespace Go.Proofs.Ytdbaghmjomdmbaa
open Go.ChangeShapes Go.WideShapes Go.ChangeAt Go.RowKit
set_option linter.unusedVariables false
theorem has_del (D : DataW Unit) (z y : Int) : Go.Maps.has (D.del (.int .i64 z)) (.int .i64 y) = (Go.Maps.has D (.int .i64 y) && !decide (y = z)) := by
  by_cases h : y = z
  · subst h
    rw [Go.Maps.has_del_same]
    simp
  · rw [Go.Maps.has_del_other (fun e => h (by cases e; rfl))]
    simp [h]
set_option maxHeartbeats 4000000 in
set_option maxRecDepth 100000 in
theorem lost_any (G n gN cN gO cO : Nat) (R : List Nat) (w : World) (hn : n ≤ 1024) (hR : ∀ x ∈ R, x < n) (hRl : R.length ≤ 1024) (h0 : w.cell? ⟨G, 0, none⟩ = some (.slice (some ⟨gN, 0, none⟩) n cN)) (h2 : w.cell? ⟨G, 2, none⟩ = some (.slice (some ⟨gO, 0, none⟩) R.length cO)) (hO : ∀ k x : Nat, R[k]? = some x → w.cell? ⟨gO, k, none⟩ = some (.int .i64 (x : Int))) :
    Calls Try.prog 36 #[.pointer (some ⟨G, 0, none⟩)] w fun e w' => ∃ (g cap : Nat) (zs : List Int), e = .returned (.slice (some ⟨g, 0, none⟩) zs.length cap) ∧ w'.ownsRow w.heap.size 2 1 (.slice (some ⟨g, 0, none⟩) zs.length cap) zs.length (zs.flatMap intCell) ∧ zs.Pairwise (· < ·) ∧ (∀ z, z ∈ zs ↔ ∃ x : Nat, z = (x : Int) ∧ x < n ∧ x ∉ R) ∧ Below w.heap.size w w' := by
  have H : Hid (w.cell? ⟨G, 0, none⟩ = some (.slice (some ⟨gN, 0, none⟩) n cN) ∧ w.cell? ⟨G, 2, none⟩ = some (.slice (some ⟨gO, 0, none⟩) R.length cO) ∧ (∀ k x : Nat, R[k]? = some x → w.cell? ⟨gO, k, none⟩ = some (.int .i64 (x : Int))) ∧ ∀ x ∈ R, x < n) := ⟨h0, h2, hO, hR⟩
  have hmm := @run_makeMap Try.prog
  have bM := below_alloc w (.map #[] 0)
  have c0 := bcell_keep bM h0
  have HS : Hid (SetAt (w.alloc (.map #[] 0)) w.heap.size 0 (.map []) ∧ Below w.heap.size w (w.alloc (.map #[] 0))) := ⟨World.ownsMap_made _ _ _ _, bM⟩
  clear h0 h2 hO hR bM
  go_enter Try.func36, Try.ntmps36
  go_wp2
  go_loopw [13] (fun i wr => ∃ k : Nat, k ≤ n ∧ i = .int .i64 k ∧ Hid (∃ cnt D, cnt ≤ k ∧ SetAt wr w.heap.size cnt D ∧ (∀ z : Int, Go.Maps.has D (.int .i64 z) = decide (0 ≤ z ∧ z < (k : Int))) ∧ Below w.heap.size w wr)) (fun i _ => n - (intOf i).toNat)
  case atStart => exact ⟨0, by omega, rfl, 0, .map [], by omega, HS.out.1, fun z => by
    have : ¬ (0 ≤ z ∧ z < ((0 : Nat) : Int)) := by omega
    simp only [this, decide_false]
    rfl, HS.out.2⟩
  case round =>
    clear HS c0
    obtain ⟨k, hk, rfl, HL⟩ := hrel
    obtain ⟨cnt, D, hcn, hset, hhas, hbel⟩ := HL.out
    have HB : Hid (SetAt wr w.heap.size cnt D ∧ (∀ z : Int, Go.Maps.has D (.int .i64 z) = decide (0 ≤ z ∧ z < (k : Int))) ∧ Below w.heap.size w wr) := ⟨hset, hhas, hbel⟩
    clear hset hhas hbel HL
    by_cases hlt : k < n
    · have hltI : (k : Int) < (n : Int) := by omega
      have HA : Hid ((wr.alloc (.cells #[.int .i64 (k : Int)] 2)).cell? ⟨wr.heap.size, 0, none⟩ = some (.int .i64 (k : Int)) ∧ SetAt (wr.alloc (.cells #[.int .i64 (k : Int)] 2)) w.heap.size cnt D ∧ ¬ wr.heap.size = w.heap.size ∧ Below w.heap.size w (wr.alloc (.cells #[.int .i64 (k : Int)] 2))) := ⟨(Blk.new wr #[.int .i64 (k : Int)] 2).cell 0, HB.out.1.keep (below_alloc _ _), by have := World.ownsMap.lt HB.out.1; omega, below_on HB.out.2.2 (Nat.le_refl _) (below_alloc _ _)⟩
      go_wp2_with fail
      refine (add_one w.heap.size cnt wr.heap.size 1 D (k : Int) _ (w64_nat (by omega)) (by omega) HA.out.1 HA.out.2.2.1 HA.out.2.1).mono ?_
      rintro e u4 ⟨rfl, s4, g4⟩
      have HN : Hid (∃ cnt D, cnt ≤ k + 1 ∧ SetAt u4 w.heap.size cnt D ∧ (∀ z : Int, Go.Maps.has D (.int .i64 z) = decide (0 ≤ z ∧ z < ((k + 1 : Nat) : Int))) ∧ Below w.heap.size w u4) := by
        refine ⟨_, _, by omega, s4, fun z => ?_, HA.out.2.2.2.grown g4 HA.out.2.2.2.size (fun j hj => by cases hj; exact Nat.le_refl _)⟩
        rw [has_put D (World.ownsMap.isMap HB.out.1), HB.out.2.1 z, Bool.eq_iff_iff]
        simp
        omega
      clear s4 g4
      go_wp2
      go_roundw
      case rel => exact ⟨k + 1, by omega, by go_num, HN⟩
      case measure => simp [intOf]; omega
    · have ekn : k = n := by omega
      have hltI : ¬ (k : Int) < (n : Int) := by omega
      rw [ekn] at HB
      have c2 := bcell_keep HB.out.2.2 H.out.2.1
      go_wp2
      go_loopw [26] (fun i wr => ∃ j : Nat, j ≤ R.length ∧ i = .int .i64 j ∧ Hid (∃ D, SetAt wr w.heap.size cnt D ∧ (∀ z : Int, Go.Maps.has D (.int .i64 z) = (decide (0 ≤ z ∧ z < (n : Int)) && !(ints (R.take j)).contains z)) ∧ Below w.heap.size w wr)) (fun i _ => R.length - (intOf i).toNat)
      case atStart => exact ⟨0, by omega, rfl, D, HB.out.1, fun z => by rw [HB.out.2.1 z]; simp [ints], HB.out.2.2⟩
      case round =>
        clear HB c2
        obtain ⟨j, hj, rfl, HL⟩ := hrel
        obtain ⟨D, hset, hhas, hbel⟩ := HL.out
        clear HL
        by_cases hlt2 : j < R.length
        · have hlt2I : (j : Int) < (R.length : Int) := by omega
          obtain ⟨x, hx⟩ : ∃ x, R[j]? = some x := ⟨_, List.getElem?_eq_getElem hlt2⟩
          have hxn : x < n := H.out.2.2.2 x (List.mem_of_getElem? hx)
          have o0 := bcell_keep hbel (H.out.2.2.1 j x hx)
          have HT : Hid (R.take (j + 1) = R.take j ++ [x]) := by
            obtain ⟨hl, rfl⟩ := List.getElem?_eq_some_iff.1 hx
            exact List.take_succ_eq_append_getElem hl
          have HB : Hid ((∀ z : Int, Go.Maps.has D (.int .i64 z) = (decide (0 ≤ z ∧ z < (n : Int)) && !(ints (R.take j)).contains z)) ∧ Below w.heap.size w wr) := ⟨hhas, hbel⟩
          have hown : wr.ownsMap Try.prog 2 (unitElem (H := Unit)) w.heap.size cnt D := hset
          have hw64 := w64_nat (x := x) (by omega)
          clear hx hhas hbel hset
          go_wp2_with (at_delete; refine wpList_delete_own _ rfl _ _ 79 2 rfl 91 law64 Try.underlying79 _ w.heap.size cnt D rfl hown _ _ rfl (Go.Maps.keyOf_int_mk Try.underlying2 hw64) ?_; intro w1 hown1 hturn1)
          have HN : Hid (∃ D, SetAt w1 w.heap.size cnt D ∧ (∀ z : Int, Go.Maps.has D (.int .i64 z) = (decide (0 ≤ z ∧ z < (n : Int)) && !(ints (R.take (j + 1))).contains z)) ∧ Below w.heap.size w w1) := by
            refine ⟨_, hown1, fun z => ?_, HB.out.2.grown hturn1.grown HB.out.2.size (fun j hj => by cases hj; exact Nat.le_refl _)⟩
            rw [has_del, HB.out.1 z, HT.out]
            unfold ints
            rw [List.map_append, Bool.and_assoc]
            congr 1
            rw [Bool.eq_iff_iff]
            simp
          clear hown1 hturn1 o0 hown
          go_roundw
          case rel => exact ⟨j + 1, by omega, by go_num, HN⟩
          case measure => simp [intOf]; omega
        · have ejn : j = R.length := by omega
          have hlt2I : ¬ (j : Int) < (R.length : Int) := by omega
          have HB : Hid ((∀ z : Int, Go.Maps.has D (.int .i64 z) = (decide (0 ≤ z ∧ z < (n : Int)) && !(ints R).contains z)) ∧ Below w.heap.size w wr ∧ SetAt wr w.heap.size cnt D) := by
            rw [List.take_of_length_le (by omega)] at hhas
            exact ⟨hhas, hbel, hset⟩
          clear hhas hbel hset
          go_wp2_with fail
          refine (rising_any w.heap.size cnt D _ (by omega) HB.out.2.2).mono ?_
          rintro e u9 ⟨g9, cap9, zs, rfl, own9, hsrt, hmem, b9⟩
          have HE : Hid (u9.ownsRow w.heap.size 2 1 (.slice (some ⟨g9, 0, none⟩) zs.length cap9) zs.length (zs.flatMap intCell) ∧ zs.Pairwise (· < ·) ∧ (∀ z, z ∈ zs ↔ ∃ x : Nat, z = (x : Int) ∧ x < n ∧ x ∉ R) ∧ Below w.heap.size w u9) := by
            refine ⟨own_lower own9 HB.out.2.1.size, hsrt, fun z => ?_, below_on HB.out.2.1 (Nat.le_refl _) b9⟩
            rw [hmem, HB.out.1 z]
            simp only [Bool.and_eq_true, decide_eq_true_eq, Bool.not_eq_true', List.contains_eq_mem, decide_eq_false_iff_not]
            unfold ints
            constructor
            · rintro ⟨_, ⟨h1, h2⟩, h3⟩
              refine ⟨z.toNat, by omega, by omega, fun q => h3 (List.mem_map.2 ⟨z.toNat, q, by omega⟩)⟩
            · rintro ⟨x, rfl, h1, h2⟩
              refine ⟨w64_nat (by omega), ⟨by omega, by omega⟩, fun q => h2 ?_⟩
              obtain ⟨y, hy, e⟩ := List.mem_map.1 q
              have : y = x := by omega
              rw [← this]
              exact hy
          clear own9 hsrt hmem b9
          go_wp2
          go_ret
          exact ⟨g9, cap9, zs, rfl, HE.out.1, HE.out.2.1, HE.out.2.2.1, HE.out.2.2.2⟩
end Go.Proofs.Ytdbaghmjomdmbaa
