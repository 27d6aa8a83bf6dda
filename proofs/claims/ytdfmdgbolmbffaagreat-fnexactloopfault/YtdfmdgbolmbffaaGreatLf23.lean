import Derived.Test.YtdfmdgbolmbffaaGreatLf19
namespace Go.Proofs.YtdfmdgbolmbffaaGreat
open Go.ChangeShapes Go.WideShapes Go.ChangeAt Go.RowKit
set_option linter.unusedVariables false
theorem has_del (D : DataW Unit) (z y : Int) : Go.Maps.has (D.del (.int .i64 z)) (.int .i64 y) = (Go.Maps.has D (.int .i64 y) && !decide (y = z)) := by
  by_cases h : y = z
  · subst h
    rw [Go.Maps.has_del_same]
    simp
  · rw [Go.Maps.has_del_other (fun e => h (by cases e; rfl))]
    simp [h]
set_option maxHeartbeats 4000000 in
set_option maxRecDepth 100000 in
theorem lost_any (G n gN cN gO cO : Nat) (R : List Nat) (w : World) (hn : n ≤ 1024) (hR : ∀ x ∈ R, x < n) (hRl : R.length ≤ 1024) (h0 : w.cell? ⟨G, 0, none⟩ = some (.slice (some ⟨gN, 0, none⟩) n cN)) (h2 : w.cell? ⟨G, 2, none⟩ = some (.slice (some ⟨gO, 0, none⟩) R.length cO)) (hO : ∀ k x : Nat, R[k]? = some x → w.cell? ⟨gO, k, none⟩ = some (.int .i64 (x : Int))) :
    Calls Tryz.prog 113 #[.pointer (some ⟨G, 0, none⟩)] w fun e w' => ∃ (g cap : Nat) (zs : List Int), e = .returned (.slice (some ⟨g, 0, none⟩) zs.length cap) ∧ w'.ownsRow w.heap.size 2 1 (.slice (some ⟨g, 0, none⟩) zs.length cap) zs.length (zs.flatMap intCell) ∧ zs.Pairwise (· < ·) ∧ (∀ z, z ∈ zs ↔ ∃ x : Nat, z = (x : Int) ∧ x < n ∧ x ∉ R) ∧ Below w.heap.size w w' := by
  have H : Hid (w.cell? ⟨G, 0, none⟩ = some (.slice (some ⟨gN, 0, none⟩) n cN) ∧ w.cell? ⟨G, 2, none⟩ = some (.slice (some ⟨gO, 0, none⟩) R.length cO) ∧ (∀ k x : Nat, R[k]? = some x → w.cell? ⟨gO, k, none⟩ = some (.int .i64 (x : Int))) ∧ ∀ x ∈ R, x < n) := ⟨h0, h2, hO, hR⟩
  have hmm := @run_makeMap Tryz.prog
  have bM := below_alloc w (.map #[] 0)
  have c0 := bcell_keep bM h0
  have HS : Hid (SetAt (w.alloc (.map #[] 0)) w.heap.size 0 (.map []) ∧ Below w.heap.size w (w.alloc (.map #[] 0))) := ⟨World.ownsMap_made _ _ _ _, bM⟩
  clear h0 h2 hO hR bM
  go_enter Tryz.func113, Tryz.ntmps113
  go_wp2
  go_loopw [13] (fun i wr => ∃ k : Nat, k ≤ n ∧ i = .int .i64 k ∧ Hid (∃ cnt D, cnt ≤ k ∧ SetAt wr w.heap.size cnt D ∧ (∀ z : Int, Go.Maps.has D (.int .i64 z) = decide (0 ≤ z ∧ z < (k : Int))) ∧ Below w.heap.size w wr)) (fun i _ => n - (intOf i).toNat)
  case atStart => exact ⟨0, by omega, rfl, 0, .map [], by omega, HS.out.1, fun z => by
    have : ¬ (0 ≤ z ∧ z < ((0 : Nat) : Int)) := by omega
    simp only [this, decide_false]
    rfl, HS.out.2⟩
  case round =>
    clear HS c0
    obtain ⟨k, hk, rfl, HL⟩ := hrel
    obtain ⟨cnt, D, hcn, hset, hhas, hbel⟩ := HL.out
    have HB : Hid (SetAt wr w.heap.size cnt D ∧ (∀ z : Int, Go.Maps.has D (.int .i64 z) = decide (0 ≤ z ∧ z < (k : Int))) ∧ Below w.heap.size w wr) := ⟨hset, hhas, hbel⟩
    clear hset hhas hbel HL
    by_cases hlt : k < n
    · have hltI : (k : Int) < (n : Int) := by omega
      have HA : Hid ((wr.alloc (.cells #[.int .i64 (k : Int)] 2)).cell? ⟨wr.heap.size, 0, none⟩ = some (.int .i64 (k : Int)) ∧ SetAt (wr.alloc (.cells #[.int .i64 (k : Int)] 2)) w.heap.size cnt D ∧ ¬ wr.heap.size = w.heap.size ∧ Below w.heap.size w (wr.alloc (.cells #[.int .i64 (k : Int)] 2))) := ⟨(Blk.new wr #[.int .i64 (k : Int)] 2).cell 0, HB.out.1.keep (below_alloc _ _), by have := World.ownsMap.lt HB.out.1; omega, below_on HB.out.2.2 (Nat.le_refl _) (below_alloc _ _)⟩
      go_wp2_with fail
      refine (add_one w.heap.size cnt wr.heap.size 1 D (k : Int) _ (w64_nat (by omega)) (by omega) HA.out.1 HA.out.2.2.1 HA.out.2.1).mono ?_
      rintro e u4 ⟨rfl, s4, g4⟩
      have HN : Hid (∃ cnt D, cnt ≤ k + 1 ∧ SetAt u4 w.heap.size cnt D ∧ (∀ z : Int, Go.Maps.has D (.int .i64 z) = decide (0 ≤ z ∧ z < ((k + 1 : Nat) : Int))) ∧ Below w.heap.size w u4) := by
        refine ⟨_, _, by omega, s4, fun z => ?_, HA.out.2.2.2.grown g4 HA.out.2.2.2.size (fun j hj => by cases hj; exact Nat.le_refl _)⟩
        rw [has_put D (World.ownsMap.isMap HB.out.1), HB.out.2.1 z, Bool.eq_iff_iff]
        simp
        omega
      clear s4 g4
      go_wp2
      go_roundw
      case rel => exact ⟨k + 1, by omega, by go_num, HN⟩
      case measure => simp [intOf]; omega
    · have ekn : k = n := by omega
      have hltI : ¬ (k : Int) < (n : Int) := by omega
      rw [ekn] at HB
      have c2 := bcell_keep HB.out.2.2 H.out.2.1
      go_wp2
      go_loopw [26] (fun i wr => ∃ j : Nat, j ≤ R.length ∧ i = .int .i64 j ∧ Hid (∃ D, SetAt wr w.heap.size cnt D ∧ (∀ z : Int, Go.Maps.has D (.int .i64 z) = (decide (0 ≤ z ∧ z < (n : Int)) && !(ints (R.take j)).contains z)) ∧ Below w.heap.size w wr)) (fun i _ => R.length - (intOf i).toNat)
      case atStart => exact ⟨0, by omega, rfl, D, HB.out.1, fun z => by rw [HB.out.2.1 z]; simp [ints], HB.out.2.2⟩
      case round =>
        clear HB c2
        obtain ⟨j, hj, rfl, HL⟩ := hrel
        obtain ⟨D, hset, hhas, hbel⟩ := HL.out
        clear HL
        by_cases hlt2 : j < R.length
        · have hlt2I : (j : Int) < (R.length : Int) := by omega
          obtain ⟨x, hx⟩ : ∃ x, R[j]? = some x := ⟨_, List.getElem?_eq_getElem hlt2⟩
          have hxn : x < n := H.out.2.2.2 x (List.mem_of_getElem? hx)
          have o0 := bcell_keep hbel (H.out.2.2.1 j x hx)
          have HT : Hid (R.take (j + 1) = R.take j ++ [x]) := by
            obtain ⟨hl, rfl⟩ := List.getElem?_eq_some_iff.1 hx
            exact List.take_succ_eq_append_getElem hl
          have HB : Hid ((∀ z : Int, Go.Maps.has D (.int .i64 z) = (decide (0 ≤ z ∧ z < (n : Int)) && !(ints (R.take j)).contains z)) ∧ Below w.heap.size w wr) := ⟨hhas, hbel⟩
          have hown : wr.ownsMap Tryz.prog 2 (unitElem (H := Unit)) w.heap.size cnt D := hset
          have hw64 := w64_nat (x := x) (by omega)
          clear hx hhas hbel hset
          go_wp2_with (at_delete; refine wpList_delete_own _ rfl _ _ 142 2 rfl 205 law64 Tryz.underlying142 _ w.heap.size cnt D rfl hown _ _ rfl (Go.Maps.keyOf_int_mk Tryz.underlying2 hw64) ?_; intro w1 hown1 hturn1)
          have HN : Hid (∃ D, SetAt w1 w.heap.size cnt D ∧ (∀ z : Int, Go.Maps.has D (.int .i64 z) = (decide (0 ≤ z ∧ z < (n : Int)) && !(ints (R.take (j + 1))).contains z)) ∧ Below w.heap.size w w1) := by
            refine ⟨_, hown1, fun z => ?_, HB.out.2.grown hturn1.grown HB.out.2.size (fun j hj => by cases hj; exact Nat.le_refl _)⟩
            rw [has_del, HB.out.1 z, HT.out]
            unfold ints
            rw [List.map_append, Bool.and_assoc]
            congr 1
            rw [Bool.eq_iff_iff]
            simp
          clear hown1 hturn1 o0 hown
          go_roundw
          case rel => exact ⟨j + 1, by omega, by go_num, HN⟩
          case measure => simp [intOf]; omega
        · have ejn : j = R.length := by omega
          have hlt2I : ¬ (j : Int) < (R.length : Int) := by omega
          have HB : Hid ((∀ z : Int, Go.Maps.has D (.int .i64 z) = (decide (0 ≤ z ∧ z < (n : Int)) && !(ints R).contains z)) ∧ Below w.heap.size w wr ∧ SetAt wr w.heap.size cnt D) := by
            rw [List.take_of_length_le (by omega)] at hhas
            exact ⟨hhas, hbel, hset⟩
          clear hhas hbel hset
          go_wp2_with fail
          refine (rising_any w.heap.size cnt D _ (by omega) HB.out.2.2).mono ?_
          rintro e u9 ⟨g9, cap9, zs, rfl, own9, hsrt, hmem, b9⟩
          have HE : Hid (u9.ownsRow w.heap.size 2 1 (.slice (some ⟨g9, 0, none⟩) zs.length cap9) zs.length (zs.flatMap intCell) ∧ zs.Pairwise (· < ·) ∧ (∀ z, z ∈ zs ↔ ∃ x : Nat, z = (x : Int) ∧ x < n ∧ x ∉ R) ∧ Below w.heap.size w u9) := by
            refine ⟨own_lower own9 HB.out.2.1.size, hsrt, fun z => ?_, below_on HB.out.2.1 (Nat.le_refl _) b9⟩
            rw [hmem, HB.out.1 z]
            simp only [Bool.and_eq_true, decide_eq_true_eq, Bool.not_eq_true', List.contains_eq_mem, decide_eq_false_iff_not]
            unfold ints
            constructor
            · rintro ⟨_, ⟨h1, h2⟩, h3⟩
              refine ⟨z.toNat, by omega, by omega, fun q => h3 (List.mem_map.2 ⟨z.toNat, q, by omega⟩)⟩
            · rintro ⟨x, rfl, h1, h2⟩
              refine ⟨w64_nat (by omega), ⟨by omega, by omega⟩, fun q => h2 ?_⟩
              obtain ⟨y, hy, e⟩ := List.mem_map.1 q
              have : y = x := by omega
              rw [← this]
              exact hy
          clear own9 hsrt hmem b9
          go_wp2
          go_ret
          exact ⟨g9, cap9, zs, rfl, HE.out.1, HE.out.2.1, HE.out.2.2.1, HE.out.2.2.2⟩
end Go.Proofs.YtdfmdgbolmbffaaGreat
namespace Go.Proofs.YtdfmdgbolmbffaaGreat
open Go.ChangeShapes Go.WideShapes Go.ChangeAt Go.RowKit
set_option linter.unusedVariables false
set_option maxHeartbeats 8000000 in
set_option maxRecDepth 100000 in
theorem dominate_any (G n gN cN gF cF gO cO gP cP : Nat) (E : Nat → List Nat) (O : List Nat) (w : World) (hn : n ≤ 1024) (hP : Place E n (plO O)) (hO : O.length = n) (hOn : O.Nodup) (hOm : ∀ x, x ∈ O ↔ x < n) (hsz : ∀ b, (fromL E n b).length ≤ 4096)
    (hcO : n ≤ cO) (h : Blk w G #[.slice (some ⟨gN, 0, none⟩) n cN, .slice (some ⟨gF, 0, none⟩) n cF, .slice (some ⟨gO, 0, none⟩) n cO, .slice (some ⟨gP, 0, none⟩) n cP, .slice none 0 0] 176) (hF : EdAt w gF 0 n (fromL E n)) (hOr : ∀ k x : Nat, O.reverse[k]? = some x → w.cell? ⟨gO, k, none⟩ = some (.int .i64 (x : Int))) (hPl : ∀ x, x < n → w.cell? ⟨gP, x, none⟩ = some (.int .i64 (plO O x : Int)))
    (hne : gN ≠ G ∧ gF ≠ G ∧ gO ≠ G ∧ gP ≠ G ∧ ∀ b a c, b < n → w.cell? ⟨gF, b, none⟩ = some (.slice (some a) (fromL E n b).length c) → a.block ≠ G) :
    Calls Tryz.prog 114 #[.pointer (some ⟨G, 0, none⟩)] w fun e w' => e = .returned (.tuple #[]) ∧ ∃ gi I, DW w w' G n #[.slice (some ⟨gN, 0, none⟩) n cN, .slice (some ⟨gF, 0, none⟩) n cF, .slice (some ⟨gO, 0, none⟩) n cO, .slice (some ⟨gP, 0, none⟩) n cP] gi I ∧ DoneI E n (plO O) I := by
  obtain ⟨K0, hK0⟩ := rch_bound E n
  obtain ⟨K, hK1, hK⟩ : ∃ K, 1 ≤ K ∧ ∀ e, e < n → ∀ x, x < n → Rch E (· ≠ e) 0 x → RchN E (· ≠ e) 0 K x := ⟨K0 + 1, by omega, fun e he x hx hr => (hK0 e he x hx hr).mono (by omega)⟩
  have H : Hid (Blk w G #[.slice (some ⟨gN, 0, none⟩) n cN, .slice (some ⟨gF, 0, none⟩) n cF, .slice (some ⟨gO, 0, none⟩) n cO, .slice (some ⟨gP, 0, none⟩) n cP, .slice none 0 0] 176 ∧ EdAt w gF 0 n (fromL E n) ∧ (∀ k x : Nat, O.reverse[k]? = some x → w.cell? ⟨gO, k, none⟩ = some (.int .i64 (x : Int))) ∧ (∀ x, x < n → w.cell? ⟨gP, x, none⟩ = some (.int .i64 (plO O x : Int))) ∧ (gN ≠ G ∧ gF ≠ G ∧ gO ≠ G ∧ gP ≠ G ∧ ∀ b a c, b < n → w.cell? ⟨gF, b, none⟩ = some (.slice (some a) (fromL E n b).length c) → a.block ≠ G)) := ⟨h, hF, hOr, hPl, hne⟩
  have HP : Hid (Place E n (plO O) ∧ O.Nodup ∧ (∀ x, x ∈ O ↔ x < n) ∧ (∀ b, (fromL E n b).length ≤ 4096) ∧ (∀ e, e < n → ∀ x, x < n → Rch E (· ≠ e) 0 x → RchN E (· ≠ e) 0 K x) ∧ (∀ x, x < n → plO O x < n)) := ⟨hP, hOn, hOm, hsz, hK, fun x hx => by have := plO_lt ((hOm x).2 hx); omega⟩
  have hpos := hP.pos
  have hGl := h.lt
  clear h hF hOr hPl hne hP hOn hOm hsz hK hK0
  have c0 : (w.alloc (.cells #[.int .i64 (-1)] 2)).cell? ⟨G, 0, none⟩ = some (.slice (some ⟨gN, 0, none⟩) n cN) := (H.out.1.keep (below_alloc _ _)).cell 0
  go_enter Tryz.func114, Tryz.ntmps114
  go_wp2_with fail
  refine (repeat_any w.heap.size n _ hpos hn ((Blk.new w #[.int .i64 (-1)] 2).cell 0)).mono ?_
  rintro e u1 ⟨gi, rfl, own1, b1⟩
  rw [zv_rep] at own1
  have bA := below_alloc w (.cells #[.int .i64 (-1)] 2)
  have k1 := (H.out.1.keep bA).keep b1
  have d4 : u1.cell? ⟨G, 4, none⟩ = some (.slice none 0 0) := k1.cell 4
  have z4 := k1.frozen 4
  have HD0 : Hid (DW w (u1.setCell ⟨G, 4, none⟩ (.slice (some ⟨gi, 0, none⟩) n n)) G n #[.slice (some ⟨gN, 0, none⟩) n cN, .slice (some ⟨gF, 0, none⟩) n cF, .slice (some ⟨gO, 0, none⟩) n cO, .slice (some ⟨gP, 0, none⟩) n cP] gi (fun _ => -1)) := by
    have hb1 : Below w.heap.size w u1 := below_on bA (Nat.le_refl _) b1
    have own1' := own_lower own1 (b := w.heap.size) bA.size
    have hgi := (own_blk own1').1
    refine ⟨⟨_, _, _, _, rfl, ?_⟩, ownsRow_setCell_other own1' (a := ⟨G, 4, none⟩) (by simp [Value.ownBlock]; omega) _, fun k hk hne => ?_, (hb1.mono (Nat.le_of_lt hGl)).setCell (Nat.le_refl _) _, by rw [World.size_setCell]; exact hb1.size, hGl⟩
    · have := k1.set 4 (.slice (some ⟨gi, 0, none⟩) n n)
      simpa using this
    · rw [heap_setCell_other u1 _ k _ hne]
      exact hb1.block k hk
  clear own1 b1 bA k1 c0
  have HPI : Hid (PassI E n (plO O) 0 1 (fun _ => -1)) := ⟨DInv.start (fun _ => rfl), UInv.start HP.out.1 (fun _ => rfl), fun x hx hl => by
    by_cases e : x = 0
    · exact .inl e
    · have := HP.out.1.first x hx e
      omega, .inl rfl, rfl⟩
  go_wp2
  go_loopg [2] (K + 2) (fun m v wr => ∃ (ch : Bool) (I : Nat → Int) (k : Nat), v = .bool ch ∧ Hid (DW w wr G n #[.slice (some ⟨gN, 0, none⟩) n cN, .slice (some ⟨gF, 0, none⟩) n cF, .slice (some ⟨gO, 0, none⟩) n cO, .slice (some ⟨gP, 0, none⟩) n cP] gi I) ∧ ((ch = true ∧ m + k = K + 2 ∧ k ≤ K ∧ Hid (PassI E n (plO O) k 1 I)) ∨ (ch = false ∧ Hid (DoneI E n (plO O) I))))
  case atStart => exact ⟨true, fun _ => -1, 0, rfl, HD0, .inl ⟨rfl, rfl, by omega, HPI⟩⟩
  case round =>
    clear HD0 HPI d4 z4
    obtain ⟨ch, I0, k, rfl, HD, hcase⟩ := hrel
    rcases hcase with ⟨rfl, hm, hkK, HPI⟩ | ⟨rfl, HDN⟩
    · obtain ⟨w0, hw0⟩ : ∃ W, W = wr := ⟨_, rfl⟩
      subst hw0
      have o2 : w0.cell? ⟨G, 2, none⟩ = some (.slice (some ⟨gO, 0, none⟩) n cO) := by
        obtain ⟨x0, x1, x2, x3, e, kk⟩ := HD.out.blk
        simp only [Array.mk.injEq, List.cons.injEq, and_true] at e
        obtain ⟨rfl, rfl, rfl, rfl⟩ := e
        exact kk.cell 2
      go_upto_region 4 with fail
      go_cut [21, 22, 23] from 17 to 22 (fun sv lv iv wx => ∃ a c, sv = .slice a (n - 1) c ∧ (1 < n → a = some ⟨gO, 1, none⟩) ∧ lv = .int .i64 ((n - 1 : Nat) : Int) ∧ iv = .int .i64 0 ∧ wx = w0)
      case first =>
        by_cases hc1 : cO = 1
        · subst hc1
          obtain rfl : n = 1 := by omega
          go_wp2
          go_meet
          case rel => exact ⟨_, _, rfl, fun q => (by omega), rfl, rfl, rfl⟩
        · have hc2 : 1 < cO := by omega
          go_wp2
          go_meet
          case rel => exact ⟨_, _, rfl, fun q => rfl, by go_num, rfl, rfl⟩
      case rest =>
        obtain ⟨asl, csl, rfl, ha, rfl, rfl, hwc⟩ := hcut
        rw [hwc]
        clear hwc o2
        have HGI : Hid (∀ (U : World) (J : Nat → Int), DW w U G n #[.slice (some ⟨gN, 0, none⟩) n cN, .slice (some ⟨gF, 0, none⟩) n cF, .slice (some ⟨gO, 0, none⟩) n cO, .slice (some ⟨gP, 0, none⟩) n cP] gi J → GI U G n gP cP gi n (plO O) J ∧ U.cell? ⟨G, 1, none⟩ = some (.slice (some ⟨gF, 0, none⟩) n cF)) := fun U J hU => by
          obtain ⟨x0, x1, x2, x3, e, kk⟩ := hU.blk
          simp only [Array.mk.injEq, List.cons.injEq, and_true] at e
          obtain ⟨rfl, rfl, rfl, rfl⟩ := e
          refine ⟨⟨kk.cell 3, kk.cell 4, fun x hx => hU.cell (H.out.2.2.2.1 x hx) H.out.2.2.2.2.2.2.2.1, fun x hx => ?_⟩, kk.cell 1⟩
          have := hU.row.cellAt x (by omega)
          rw [zv_at _ _ _ hx] at this
          exact this
        go_wp2
        go_loopw [2, 23] (fun v i wr => ∃ (ch : Bool) (J : Nat → Int) (j : Nat), v = .bool ch ∧ i = .int .i64 (j : Int) ∧ j + 1 ≤ n ∧ Hid (DW w wr G n #[.slice (some ⟨gN, 0, none⟩) n cN, .slice (some ⟨gF, 0, none⟩) n cF, .slice (some ⟨gO, 0, none⟩) n cO, .slice (some ⟨gP, 0, none⟩) n cP] gi J ∧ PassI E n (plO O) k (j + 1) J ∧ (ch = false → J = I0 ∧ ∀ b, b < n → b ≠ 0 → plO O b < j + 1 → CommonIs n J (fromL E n b) (J b)) ∧ (K ≤ k → ch = false))) (fun _ i _ => n - (intOf i).toNat)
        case atStart => exact ⟨false, I0, 0, rfl, rfl, by omega, HD.out, HPI.out, fun _ => ⟨rfl, fun b hb hb0 hl => by have := HP.out.1.first b hb hb0; omega⟩, fun _ => rfl⟩
        case round =>
          obtain ⟨ch, J, j, rfl, rfl, hj, HL⟩ := hrel
          by_cases hlt : j < n - 1
          · have hltI : (j : Int) < ((n - 1 : Nat) : Int) := by omega
            obtain rfl := ha (by omega)
            obtain ⟨b, hb⟩ : ∃ b, O.reverse[j + 1]? = some b := ⟨_, List.getElem?_eq_getElem (by rw [List.length_reverse]; omega)⟩
            have hbO : b ∈ O := List.mem_reverse.1 (List.mem_of_getElem? hb)
            have hbn : b < n := (HP.out.2.2.1 b).1 hbO
            have hbnI : (b : Int) < (n : Int) := by omega
            have hpb : plO O b = j + 1 := by
              have h1 := plO_at hbO
              have hd : O.reverse.Nodup := List.pairwise_reverse.2 (HP.out.2.1.imp Ne.symm)
              obtain ⟨l1, e1⟩ := List.getElem?_eq_some_iff.1 h1
              obtain ⟨l2, e2⟩ := List.getElem?_eq_some_iff.1 hb
              exact (List.getElem_inj hd).1 (e1.trans e2.symm)
            have hb0 : b ≠ 0 := fun q => by have := HP.out.1.zero; rw [q] at hpb; omega
            have ob := HL.out.1.cell (H.out.2.2.1 (j + 1) b hb) H.out.2.2.2.2.2.2.1
            rw [Nat.add_comm] at ob
            obtain ⟨hgi, f1⟩ := HGI.out _ _ HL.out.1
            obtain ⟨af, cf, e0, e1⟩ := H.out.2.1 b hbn
            rw [Nat.zero_add] at e0
            have HPS : Hid (RdN wr (.slice af (fromL E n b).length cf) (fromL E n b)) := by
              refine ⟨e1.1, e1.2.imp id ?_⟩
              rintro ⟨g', o', c', q1, q2⟩
              refine ⟨g', o', c', q1, fun jj v hv => HL.out.1.cell (q2 jj v hv) ?_⟩
              simp only [Value.slice.injEq, true_and] at q1
              exact H.out.2.2.2.2.2.2.2.2 b ⟨g', o', none⟩ cf hbn (by rw [e0, q1.1])
            have f2 := HL.out.1.cell e0 H.out.2.2.2.2.2.1
            have HGJ : Hid (GI wr G n gP cP gi n (plO O) J) := hgi
            have HB : Hid (b ∈ O ∧ plO O b = j + 1) := ⟨hbO, hpb⟩
            clear e0 e1 hgi hb hbO
            go_wp2_with fail
            refine (commonOf_any G n gP cP gi n (plO O) J _ (fromL E n b) wr hn HL.out.2.1.dinv.tree HP.out.1.zero HP.out.1.inj (fun p hp => ((fromL_mem E n b p).1 hp).1) (HP.out.2.2.2.1 b) HPS.out HGJ.out).mono ?_
            rintro e u5 ⟨z, rfl, hz, b5⟩
            have HL5 : Hid (DW w u5 G n #[.slice (some ⟨gN, 0, none⟩) n cN, .slice (some ⟨gF, 0, none⟩) n cF, .slice (some ⟨gO, 0, none⟩) n cO, .slice (some ⟨gP, 0, none⟩) n cP] gi J) := HL.out.1.keep b5
            obtain ⟨hgi, f1'⟩ := HGI.out _ _ HL5.out
            have i4 := hgi.i
            have ib := hgi.ic b hbn
            have iz := HL5.out.row.frozenAt b
            obtain ⟨J', hJ'⟩ : ∃ J' : Nat → Int, ∀ y, J' y = if y = b then z else J y := ⟨_, fun y => rfl⟩
            have HN : Hid (DW w (u5.setCell ⟨gi, b, none⟩ (.int .i64 z)) G n #[.slice (some ⟨gN, 0, none⟩) n cN, .slice (some ⟨gF, 0, none⟩) n cF, .slice (some ⟨gO, 0, none⟩) n cO, .slice (some ⟨gP, 0, none⟩) n cP] gi J' ∧ PassI E n (plO O) k (j + 1 + 1) J' ∧ (z = J b → J' = J) ∧ CommonIs n J (fromL E n b) z ∧ (K ≤ k → z = J b)) := by
              refine ⟨HL5.out.set b z hJ', HL.out.2.1.step HP.out.1 hbn hb0 HB.out.2 hz hJ', fun q => ?_, hz, fun hkk => ?_⟩
              · funext y
                rw [hJ' y]
                by_cases e : y = b
                · rw [if_pos e, q, e]
                · rw [if_neg e]
              · have hall : ∀ x, x < n → Kn J x := HL.out.2.1.all.resolve_left (by omega)
                refine dom_fix HP.out.1 HL.out.2.1.dinv hall (fun x hx d hd hr => ?_) hbn hb0 (fromL_preds E n b) hz
                have hdn := (hd.pls HL.out.2.1.dinv.tree hx).2.2
                exact (HL.out.2.1.uinv x hx (hall x hx) d hd).1 ((HP.out.2.2.2.2.1 d hdn x hx hr).mono hkk)
            clear hgi hz b5 HGJ HPS f1 f2 ob
            go_upto_region 8 with fail
            go_cut [2] from 36 to 47 (fun c wx => (∃ c' : Bool, c = .bool c' ∧ (c' = false → ch = false ∧ z = J b) ∧ (ch = false → z = J b → c' = false)) ∧ wx = u5)
            case first =>
              cases ch
              · by_cases hzb : z = J b
                · have hzB : (z != J b) = false := by simp [hzb]
                  have HZ : Hid (z = J b) := hzb
                  clear hzb
                  go_wp2
                  go_meet
                  case rel => exact ⟨⟨_, rfl, fun _ => ⟨trivial, HZ.out⟩, fun _ _ => rfl⟩, rfl⟩
                · have hzB : (z != J b) = true := by simp [hzb]
                  have HZ : Hid (¬ z = J b) := hzb
                  clear hzb
                  go_wp2
                  go_meet
                  case rel => exact ⟨⟨_, rfl, (fun q => (by cases q)), (fun _ q => absurd q HZ.out)⟩, rfl⟩
              · go_wp2
                go_meet
                case rel => exact ⟨⟨_, rfl, (fun q => (by cases q)), (fun q => (by cases q))⟩, rfl⟩
            case rest =>
              obtain ⟨⟨c', rfl, hc1, hc2⟩, hwc⟩ := hcut
              rw [hwc]
              clear hwc
              go_wp2
              go_roundw
              case rel =>
                refine ⟨c', J', j + 1, rfl, by go_num, by omega, HN.out.1, HN.out.2.1, fun q => ?_, fun q => hc2 (HL.out.2.2.2 q) (HN.out.2.2.2.2 q)⟩
                obtain ⟨q1, q2⟩ := hc1 q
                obtain ⟨r1, r2⟩ := HL.out.2.2.1 q1
                have r3 := HN.out.2.2.1 q2
                refine ⟨r3.trans r1, fun y hy hy0 hl => ?_⟩
                rw [r3]
                by_cases e : y = b
                · rw [e, ← q2]
                  exact HN.out.2.2.2.1
                · refine r2 y hy hy0 ?_
                  have h1 := HP.out.1.inj y b hy hbn
                  have h2 := HB.out.2
                  omega
              case measure => simp [intOf]; omega
          · have hjn : j + 1 = n := by omega
            have hltI : ¬ (j : Int) < ((n - 1 : Nat) : Int) := by omega
            have HPN : Hid (PassI E n (plO O) (k + 1) 1 J ∧ ∀ x, x < n → Kn J x) := by
              have h0 := HL.out.2.1
              rw [hjn] at h0
              have hall : ∀ x, x < n → Kn J x := fun x hx => h0.kn x hx (HP.out.2.2.2.2.2 x hx)
              exact ⟨⟨h0.dinv, h0.uinv.pass HP.out.1 HP.out.2.2.2.2.2, fun x hx _ => hall x hx, .inr hall, h0.z⟩, hall⟩
            cases ch
            · have HDN : Hid (DoneI E n (plO O) J) := by
                obtain ⟨_, q2⟩ := HL.out.2.2.1 rfl
                refine ⟨HPN.out.1.dinv, HPN.out.2, fun d x hx => fix_dom HP.out.1 HPN.out.1.dinv HPN.out.2 (fromL E n) (fun b _ => fromL_preds E n b) (fun b hb hb0 => q2 b hb hb0 (by rw [hjn]; exact HP.out.2.2.2.2.2 b hb)) hx, HPN.out.1.z⟩
              go_wp2
              go_roundg 0
              case measure => omega
              case rel => exact ⟨false, J, 0, rfl, HL.out.1, .inr ⟨rfl, HDN⟩⟩
            · have hkk : k < K := by
                by_cases q : K ≤ k
                · have := HL.out.2.2.2 q
                  cases this
                · omega
              go_wp2
              go_roundg (gk - 1)
              case measure => omega
              case rel => exact ⟨true, J, k + 1, rfl, HL.out.1, .inl ⟨rfl, by omega, by omega, HPN.out.1⟩⟩
    · go_wp2
      go_end0
      exact ⟨rfl, gi, I0, HD.out, HDN.out⟩
end Go.Proofs.YtdfmdgbolmbffaaGreat
