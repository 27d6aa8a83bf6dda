import Derived.Test.YthifelgdkmkdkaaGreatDoorFm11
import Derived.Test.YthifelgdkmkdkaaGreatDoorFm27
namespace Go.Proofs.YthifelgdkmkdkaaGreatDoor
open Go.ChangeShapes Go.WideShapes Go.ChangeAt Go.RowKit
set_option linter.unusedVariables false
theorem infoStr : (Tryz.prog.info? 9).map (fun i => (i.zero, i.size, i.bytes)) = some (some (.string ⟨#[]⟩), 1, 16) := by kernel_rfl
def u32Cell (z : Int) : List Value := [.int .u32 z]
theorem u32Cell_length (z : Int) : (u32Cell z).length = 1 := rfl
/-- Words as cells. -/
def wordCell (x : List UInt8) : List Value := [.string ⟨x.toArray⟩]
theorem wordCell_length (x : List UInt8) : (wordCell x).length = 1 := rfl
def tyCell (y : Int) : List Value := wordCell (tyName y)
def decCell (y : Int) : List Value := wordCell (decL y)
theorem tyCell_flat (ys : List Int) : ys.flatMap tyCell = (ys.map tyName).flatMap wordCell := by rw [List.flatMap_map]; rfl
theorem decCell_flat (ys : List Int) : ys.flatMap decCell = (ys.map decL).flatMap wordCell := by rw [List.flatMap_map]; rfl
set_option maxHeartbeats 1000000 in
set_option maxRecDepth 100000 in
theorem typeNames_any (s : Value) (L : Nat) (ys : List Int) (w : World) (hL : L ≤ 1048576) (h : Rd w 1 s L (ys.flatMap intCell)) (hlen : ys.length = L) :
    Calls Tryz.prog 24 #[s] w fun e w' => e = .returned (.slice (some ⟨w.heap.size, 0, none⟩) L L) ∧ w'.ownsRow w.heap.size 9 1 (.slice (some ⟨w.heap.size, 0, none⟩) L L) L (ys.flatMap tyCell) ∧ Below w.heap.size w w' := by
  obtain ⟨i0, hi, hz0, hz1, hz2⟩ := info_parts infoStr
  have H1 : Hid (Rd w 1 s L (ys.flatMap intCell) ∧ ys.length = L) := ⟨h, hlen⟩
  obtain ⟨a1, c1, rfl⟩ := h.is_slice
  clear h hlen
  go_enter Tryz.func24, Tryz.ntmps24
  go_wp2_with (at_make; refine wpList_make_full _ rfl _ _ 72 rfl w.heap.size 9 i0 (.string ⟨#[]⟩) 1 Tryz.underlying72 hi hz0 hz1 .i64 .i64 _ _ L rfl rfl rfl rfl (by rw [hz2]; omega) (by unfold maxLen; omega) (Nat.le_refl _) ?_; intro w1 hown hgrow)
  rw [flatTo_zero tyCell [.string ⟨#[]⟩] ys L (.string ⟨#[]⟩) 1 rfl rfl (by omega)] at hown
  have hB : Below w.heap.size w w1 := (Below.refl _ _).grown hgrow (Nat.le_refl _) (fun k hk => by cases hk)
  clear hgrow
  go_loopw [11] (fun i wr => ∃ k : Nat, k ≤ L ∧ i = .int .i64 k ∧ wr.ownsRow w.heap.size 9 1 (.slice (some ⟨w.heap.size, 0, none⟩) L L) L (flatTo tyCell [.string ⟨#[]⟩] ys k L) ∧ Below w.heap.size w wr) (fun i _ => L - (intOf i).toNat)
  case atStart => exact ⟨0, by omega, rfl, hown, hB⟩
  case round =>
    clear hown hB
    obtain ⟨k, hk, rfl, hown, hbel⟩ := hrel
    by_cases hlt : k < L
    · obtain ⟨x, hx⟩ : ∃ x, ys[k]? = some x := ⟨_, List.getElem?_eq_getElem (by rw [H1.out.2]; exact hlt)⟩
      have hnext := flatTo_next tyCell [.string ⟨#[]⟩] ys k L x hx
      rw [flatTo_parts tyCell [.string ⟨#[]⟩] ys k L hlt] at hown
      have hA : ((ys.take k).flatMap tyCell).length = k * 1 := by rw [flat_length tyCell 1 (fun _ => rfl), List.length_take, H1.out.2, Nat.min_eq_left hk]
      generalize (ys.take k).flatMap tyCell = A at hown hnext hA
      generalize (List.replicate (L - (k + 1)) [Value.string ⟨#[]⟩]).flatten = R at hown hnext
      rcases H1.out.1.2 with ⟨e0, _⟩ | ⟨g, o, c, e1, hc1⟩
      · omega
      · simp only [Value.slice.injEq, true_and] at e1
        obtain ⟨rfl, rfl⟩ := e1
        have i0 := Rd.elem intCell_length hc1 k x hx 0 _ rfl
        rw [← hbel.cell (block_lt_of_cell i0)] at i0
        rw [Nat.mul_one, Nat.add_zero] at i0
        rw [Nat.mul_one] at hA
        have HO : Hid (wr.ownsRow w.heap.size 9 1 (.slice (some ⟨w.heap.size, 0, none⟩) L L) L (A ++ ([.string ⟨#[]⟩] ++ R)) ∧ A.length = k ∧ flatTo tyCell [.string ⟨#[]⟩] ys (k + 1) L = A ++ (tyCell x ++ R)) := ⟨hown, hA, hnext⟩
        clear hown hA hnext hc1 hx
        go_wp2_with fail
        refine (ITypeName_any x _).mono ?_
        rintro e u ⟨rfl, rfl⟩
        have f0 := HO.out.1.frozenAt k
        have d0 := HO.out.1.cellAt k (by omega)
        rw [List.getElem?_append_right (by have := HO.out.2.1; omega), HO.out.2.1, Nat.sub_self] at d0
        simp only [List.cons_append, List.getElem?_cons_zero] at d0
        clear i0
        unfold strV
        go_wp2
        go_roundw
        case rel =>
          refine ⟨k + 1, by omega, by go_num, ?_, hbel.setCell (Nat.le_refl _) _⟩
          have hst := (HO.out.1.stored k (strV (tyName x))).1
          rw [set1 A R _ _ k HO.out.2.1] at hst
          rw [HO.out.2.2]
          exact hst
        case measure => simp [intOf]; omega
    · have hkn : k = L := by omega
      subst hkn
      rw [flatTo_all _ _ _ _ H1.out.2] at hown
      have HO : Hid (wr.ownsRow w.heap.size 9 1 (.slice (some ⟨w.heap.size, 0, none⟩) k k) k (ys.flatMap tyCell)) := hown
      clear hown
      go_wp2
      go_ret
      exact ⟨rfl, HO.out, hbel⟩
set_option maxHeartbeats 1000000 in
set_option maxRecDepth 100000 in
theorem numerals64_any (s : Value) (L : Nat) (ys : List Int) (w : World) (hL : L ≤ 1048576) (h : Rd w 1 s L (ys.flatMap intCell)) (hlen : ys.length = L) (hr : ∀ y ∈ ys, 0 ≤ y ∧ y ≤ 9223372036854775807) (ht : PowTab w) :
    Calls Tryz.prog 27 #[s] w fun e w' => e = .returned (.slice (some ⟨w.heap.size, 0, none⟩) L L) ∧ w'.ownsRow w.heap.size 9 1 (.slice (some ⟨w.heap.size, 0, none⟩) L L) L (ys.flatMap decCell) ∧ Below w.heap.size w w' := by
  obtain ⟨i0, hi, hz0, hz1, hz2⟩ := info_parts infoStr
  have H1 : Hid (Rd w 1 s L (ys.flatMap intCell) ∧ ys.length = L ∧ (∀ y ∈ ys, 0 ≤ y ∧ y ≤ 9223372036854775807) ∧ PowTab w) := ⟨h, hlen, hr, ht⟩
  obtain ⟨a1, c1, rfl⟩ := h.is_slice
  clear h hlen hr ht
  go_enter Tryz.func27, Tryz.ntmps27
  go_wp2_with (at_make; refine wpList_make_full _ rfl _ _ 72 rfl w.heap.size 9 i0 (.string ⟨#[]⟩) 1 Tryz.underlying72 hi hz0 hz1 .i64 .i64 _ _ L rfl rfl rfl rfl (by rw [hz2]; omega) (by unfold maxLen; omega) (Nat.le_refl _) ?_; intro w1 hown hgrow)
  rw [flatTo_zero decCell [.string ⟨#[]⟩] ys L (.string ⟨#[]⟩) 1 rfl rfl (by omega)] at hown
  have hB : Below w.heap.size w w1 := (Below.refl _ _).grown hgrow (Nat.le_refl _) (fun k hk => by cases hk)
  clear hgrow
  go_loopw [11] (fun i wr => ∃ k : Nat, k ≤ L ∧ i = .int .i64 k ∧ wr.ownsRow w.heap.size 9 1 (.slice (some ⟨w.heap.size, 0, none⟩) L L) L (flatTo decCell [.string ⟨#[]⟩] ys k L) ∧ Below w.heap.size w wr) (fun i _ => L - (intOf i).toNat)
  case atStart => exact ⟨0, by omega, rfl, hown, hB⟩
  case round =>
    clear hown hB
    obtain ⟨k, hk, rfl, hown, hbel⟩ := hrel
    by_cases hlt : k < L
    · obtain ⟨x, hx⟩ : ∃ x, ys[k]? = some x := ⟨_, List.getElem?_eq_getElem (by rw [H1.out.2.1]; exact hlt)⟩
      have hnext := flatTo_next decCell [.string ⟨#[]⟩] ys k L x hx
      rw [flatTo_parts decCell [.string ⟨#[]⟩] ys k L hlt] at hown
      have hA : ((ys.take k).flatMap decCell).length = k * 1 := by rw [flat_length decCell 1 (fun _ => rfl), List.length_take, H1.out.2.1, Nat.min_eq_left hk]
      generalize (ys.take k).flatMap decCell = A at hown hnext hA
      generalize (List.replicate (L - (k + 1)) [Value.string ⟨#[]⟩]).flatten = R at hown hnext
      rcases H1.out.1.2 with ⟨e0, _⟩ | ⟨g, o, c, e1, hc1⟩
      · omega
      · simp only [Value.slice.injEq, true_and] at e1
        obtain ⟨rfl, rfl⟩ := e1
        have i0 := Rd.elem intCell_length hc1 k x hx 0 _ rfl
        rw [← hbel.cell (block_lt_of_cell i0)] at i0
        rw [Nat.mul_one, Nat.add_zero] at i0
        rw [Nat.mul_one] at hA
        obtain ⟨hx0, hx1⟩ := H1.out.2.2.1 x (List.mem_of_getElem? hx)
        have hx2 : x ≤ 9223372036854775807 := by omega
        have HO : Hid (wr.ownsRow w.heap.size 9 1 (.slice (some ⟨w.heap.size, 0, none⟩) L L) L (A ++ ([.string ⟨#[]⟩] ++ R)) ∧ A.length = k ∧ flatTo decCell [.string ⟨#[]⟩] ys (k + 1) L = A ++ (decCell x ++ R) ∧ PowTab wr) := ⟨hown, hA, hnext, H1.out.2.2.2.keep hbel (Nat.le_refl _)⟩
        clear hown hA hnext hc1 hx
        go_wp2_with fail
        refine (formatInt_any x hx0 hx2 _ HO.out.2.2.2).mono ?_
        rintro e u ⟨rfl, b1⟩
        replace HO : Hid (u.ownsRow w.heap.size 9 1 (.slice (some ⟨w.heap.size, 0, none⟩) L L) L (A ++ ([.string ⟨#[]⟩] ++ R)) ∧ A.length = k ∧ flatTo decCell [.string ⟨#[]⟩] ys (k + 1) L = A ++ (decCell x ++ R) ∧ True) := ⟨own_keep HO.out.1 b1 (Nat.le_refl _), HO.out.2.1, HO.out.2.2.1, trivial⟩
        replace hbel := below_on hbel (Nat.le_refl _) b1
        clear b1
        have f0 := HO.out.1.frozenAt k
        have d0 := HO.out.1.cellAt k (by omega)
        rw [List.getElem?_append_right (by have := HO.out.2.1; omega), HO.out.2.1, Nat.sub_self] at d0
        simp only [List.cons_append, List.getElem?_cons_zero] at d0
        clear i0
        go_wp2
        go_roundw
        case rel =>
          refine ⟨k + 1, by omega, by go_num, ?_, hbel.setCell (Nat.le_refl _) _⟩
          have hst := (HO.out.1.stored k (strV (decL x))).1
          rw [set1 A R _ _ k HO.out.2.1] at hst
          rw [HO.out.2.2.1]
          exact hst
        case measure => simp [intOf]; omega
    · have hkn : k = L := by omega
      subst hkn
      rw [flatTo_all _ _ _ _ H1.out.2.1] at hown
      have HO : Hid (wr.ownsRow w.heap.size 9 1 (.slice (some ⟨w.heap.size, 0, none⟩) k k) k (ys.flatMap decCell)) := hown
      clear hown
      go_wp2
      go_ret
      exact ⟨rfl, HO.out, hbel⟩
set_option maxHeartbeats 1000000 in
set_option maxRecDepth 100000 in
theorem numerals32_any (s : Value) (L : Nat) (ys : List Int) (w : World) (hL : L ≤ 1048576) (h : Rd w 1 s L (ys.flatMap u32Cell)) (hlen : ys.length = L) (hr : ∀ y ∈ ys, 0 ≤ y ∧ y ≤ 4294967295) (ht : PowTab w) :
    Calls Tryz.prog 25 #[s] w fun e w' => e = .returned (.slice (some ⟨w.heap.size, 0, none⟩) L L) ∧ w'.ownsRow w.heap.size 9 1 (.slice (some ⟨w.heap.size, 0, none⟩) L L) L (ys.flatMap decCell) ∧ Below w.heap.size w w' := by
  obtain ⟨i0, hi, hz0, hz1, hz2⟩ := info_parts infoStr
  have H1 : Hid (Rd w 1 s L (ys.flatMap u32Cell) ∧ ys.length = L ∧ (∀ y ∈ ys, 0 ≤ y ∧ y ≤ 4294967295) ∧ PowTab w) := ⟨h, hlen, hr, ht⟩
  obtain ⟨a1, c1, rfl⟩ := h.is_slice
  clear h hlen hr ht
  go_enter Tryz.func25, Tryz.ntmps25
  go_wp2_with (at_make; refine wpList_make_full _ rfl _ _ 72 rfl w.heap.size 9 i0 (.string ⟨#[]⟩) 1 Tryz.underlying72 hi hz0 hz1 .i64 .i64 _ _ L rfl rfl rfl rfl (by rw [hz2]; omega) (by unfold maxLen; omega) (Nat.le_refl _) ?_; intro w1 hown hgrow)
  rw [flatTo_zero decCell [.string ⟨#[]⟩] ys L (.string ⟨#[]⟩) 1 rfl rfl (by omega)] at hown
  have hB : Below w.heap.size w w1 := (Below.refl _ _).grown hgrow (Nat.le_refl _) (fun k hk => by cases hk)
  clear hgrow
  go_loopw [11] (fun i wr => ∃ k : Nat, k ≤ L ∧ i = .int .i64 k ∧ wr.ownsRow w.heap.size 9 1 (.slice (some ⟨w.heap.size, 0, none⟩) L L) L (flatTo decCell [.string ⟨#[]⟩] ys k L) ∧ Below w.heap.size w wr) (fun i _ => L - (intOf i).toNat)
  case atStart => exact ⟨0, by omega, rfl, hown, hB⟩
  case round =>
    clear hown hB
    obtain ⟨k, hk, rfl, hown, hbel⟩ := hrel
    by_cases hlt : k < L
    · obtain ⟨x, hx⟩ : ∃ x, ys[k]? = some x := ⟨_, List.getElem?_eq_getElem (by rw [H1.out.2.1]; exact hlt)⟩
      have hnext := flatTo_next decCell [.string ⟨#[]⟩] ys k L x hx
      rw [flatTo_parts decCell [.string ⟨#[]⟩] ys k L hlt] at hown
      have hA : ((ys.take k).flatMap decCell).length = k * 1 := by rw [flat_length decCell 1 (fun _ => rfl), List.length_take, H1.out.2.1, Nat.min_eq_left hk]
      generalize (ys.take k).flatMap decCell = A at hown hnext hA
      generalize (List.replicate (L - (k + 1)) [Value.string ⟨#[]⟩]).flatten = R at hown hnext
      rcases H1.out.1.2 with ⟨e0, _⟩ | ⟨g, o, c, e1, hc1⟩
      · omega
      · simp only [Value.slice.injEq, true_and] at e1
        obtain ⟨rfl, rfl⟩ := e1
        have i0 := Rd.elem u32Cell_length hc1 k x hx 0 _ rfl
        rw [← hbel.cell (block_lt_of_cell i0)] at i0
        rw [Nat.mul_one, Nat.add_zero] at i0
        rw [Nat.mul_one] at hA
        obtain ⟨hx0, hx1⟩ := H1.out.2.2.1 x (List.mem_of_getElem? hx)
        have hx2 : x ≤ 9223372036854775807 := by omega
        have hcv : IntKind.i64.wrap x = x := by rw [IntKind.wrap_i64]; omega
        have HO : Hid (wr.ownsRow w.heap.size 9 1 (.slice (some ⟨w.heap.size, 0, none⟩) L L) L (A ++ ([.string ⟨#[]⟩] ++ R)) ∧ A.length = k ∧ flatTo decCell [.string ⟨#[]⟩] ys (k + 1) L = A ++ (decCell x ++ R) ∧ PowTab wr) := ⟨hown, hA, hnext, H1.out.2.2.2.keep hbel (Nat.le_refl _)⟩
        clear hown hA hnext hc1 hx
        go_wp2_with fail
        refine (formatInt_any x hx0 hx2 _ HO.out.2.2.2).mono ?_
        rintro e u ⟨rfl, b1⟩
        replace HO : Hid (u.ownsRow w.heap.size 9 1 (.slice (some ⟨w.heap.size, 0, none⟩) L L) L (A ++ ([.string ⟨#[]⟩] ++ R)) ∧ A.length = k ∧ flatTo decCell [.string ⟨#[]⟩] ys (k + 1) L = A ++ (decCell x ++ R) ∧ True) := ⟨own_keep HO.out.1 b1 (Nat.le_refl _), HO.out.2.1, HO.out.2.2.1, trivial⟩
        replace hbel := below_on hbel (Nat.le_refl _) b1
        clear b1
        have f0 := HO.out.1.frozenAt k
        have d0 := HO.out.1.cellAt k (by omega)
        rw [List.getElem?_append_right (by have := HO.out.2.1; omega), HO.out.2.1, Nat.sub_self] at d0
        simp only [List.cons_append, List.getElem?_cons_zero] at d0
        clear i0
        go_wp2
        go_roundw
        case rel =>
          refine ⟨k + 1, by omega, by go_num, ?_, hbel.setCell (Nat.le_refl _) _⟩
          have hst := (HO.out.1.stored k (strV (decL x))).1
          rw [set1 A R _ _ k HO.out.2.1] at hst
          rw [HO.out.2.2.1]
          exact hst
        case measure => simp [intOf]; omega
    · have hkn : k = L := by omega
      subst hkn
      rw [flatTo_all _ _ _ _ H1.out.2.1] at hown
      have HO : Hid (wr.ownsRow w.heap.size 9 1 (.slice (some ⟨w.heap.size, 0, none⟩) k k) k (ys.flatMap decCell)) := hown
      clear hown
      go_wp2
      go_ret
      exact ⟨rfl, HO.out, hbel⟩
end Go.Proofs.YthifelgdkmkdkaaGreatDoor
