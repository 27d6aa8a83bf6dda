import Derived.Test.YthifelgdkmkdkaaGreatDoorFm0
namespace Go.Proofs.YthifelgdkmkdkaaGreatDoor
open Go.ChangeShapes Go.WideShapes Go.ChangeAt Go.RowKit
set_option linter.unusedVariables false
/-- An instruction. -/
structure MI where
  op : Int
  a : Int
  b : Int
  c : Int
/-- A constant. -/
structure MC where
  type : Int
  word : Int
/-- A certificate. -/
structure MT where
  func : Int
  head : Int
  counter : Int
  init : Int
def MI.cells (x : MI) : List Value := [.int .i64 x.op, .int .i64 x.a, .int .i64 x.b, .int .i64 x.c]
def MC.cells (x : MC) : List Value := [.int .i64 x.type, .int .u32 x.word]
def MT.cells (x : MT) : List Value := [.int .i64 x.func, .int .i64 x.head, .int .i64 x.counter, .int .u32 x.init]
theorem MI.cells_length (x : MI) : x.cells.length = 4 := rfl
theorem MC.cells_length (x : MC) : x.cells.length = 2 := rfl
theorem MT.cells_length (x : MT) : x.cells.length = 4 := rfl
def intCell (z : Int) : List Value := [.int .i64 z]
theorem intCell_length (z : Int) : (intCell z).length = 1 := rfl
theorem info64 : (Tryz.prog.info? 2).map (fun i => (i.zero, i.size, i.bytes)) = some (some (.int .i64 0), 1, 8) := by kernel_rfl
theorem infoI : (Tryz.prog.info? 55).map (fun i => (i.zero, i.size, i.bytes)) = some (some (.agg #[.int .i64 0, .int .i64 0, .int .i64 0, .int .i64 0]), 4, 32) := by kernel_rfl
theorem infoC : (Tryz.prog.info? 49).map (fun i => (i.zero, i.size, i.bytes)) = some (some (.agg #[.int .i64 0, .int .u32 0]), 2, 16) := by kernel_rfl
theorem infoT : (Tryz.prog.info? 57).map (fun i => (i.zero, i.size, i.bytes)) = some (some (.agg #[.int .i64 0, .int .i64 0, .int .i64 0, .int .u32 0]), 4, 32) := by kernel_rfl

set_option maxHeartbeats 1000000 in
theorem toInstr_any (x : MI) (w : World) :
    Calls Tryz.prog 78 #[.agg #[.int .i64 x.op, .int .i64 x.a, .int .i64 x.b, .int .i64 x.c]] w fun e w' => e = .returned (.agg #[.int .i64 x.op, .int .i64 x.a, .int .i64 x.b, .int .i64 x.c]) ∧ Below w.heap.size w w' := by
  go_enter Tryz.func78, Tryz.ntmps78
  go_wp2
  exact bodyPost_ret (v := .agg #[.int .i64 x.op, .int .i64 x.a, .int .i64 x.b, .int .i64 x.c]) (by simp [results, Tryz.results78, go_sem]) rfl ⟨rfl, (((Below.refl _ _).alloc (Nat.le_refl _) _).alloc (by simp) _).alloc (by simp; omega) _⟩
set_option maxHeartbeats 1000000 in
theorem toConst_any (x : MC) (w : World) :
    Calls Tryz.prog 43 #[.agg #[.int .i64 x.type, .int .u32 x.word]] w fun e w' => e = .returned (.agg #[.int .i64 x.type, .int .u32 x.word]) ∧ Below w.heap.size w w' := by
  go_enter Tryz.func43, Tryz.ntmps43
  go_wp2
  exact bodyPost_ret (v := .agg #[.int .i64 x.type, .int .u32 x.word]) (by simp [results, Tryz.results43, go_sem]) rfl ⟨rfl, (((Below.refl _ _).alloc (Nat.le_refl _) _).alloc (by simp) _).alloc (by simp; omega) _⟩
set_option maxHeartbeats 1000000 in
theorem toCert_any (x : MT) (w : World) :
    Calls Tryz.prog 45 #[.agg #[.int .i64 x.func, .int .i64 x.head, .int .i64 x.counter, .int .u32 x.init]] w fun e w' => e = .returned (.agg #[.int .i64 x.func, .int .i64 x.head, .int .i64 x.counter, .int .u32 x.init]) ∧ Below w.heap.size w w' := by
  go_enter Tryz.func45, Tryz.ntmps45
  go_wp2
  exact bodyPost_ret (v := .agg #[.int .i64 x.func, .int .i64 x.head, .int .i64 x.counter, .int .u32 x.init]) (by simp [results, Tryz.results45, go_sem]) rfl ⟨rfl, (((Below.refl _ _).alloc (Nat.le_refl _) _).alloc (by simp) _).alloc (by simp; omega) _⟩

set_option maxHeartbeats 1000000 in
set_option maxRecDepth 100000 in
theorem toInt64S_any (s : Value) (L : Nat) (ys : List Int) (w : World) (hL : L ≤ 1048576) (h : Rd w 1 s L (ys.flatMap intCell)) (hlen : ys.length = L) :
    Calls Tryz.prog 42 #[s] w fun e w' => e = .returned (.slice (some ⟨w.heap.size, 0, none⟩) L L) ∧ w'.ownsRow w.heap.size 2 1 (.slice (some ⟨w.heap.size, 0, none⟩) L L) L (ys.flatMap intCell) ∧ Below w.heap.size w w' := by
  obtain ⟨i0, hi, hz0, hz1, hz2⟩ := info_parts info64
  have H1 : Hid (Rd w 1 s L (ys.flatMap intCell) ∧ ys.length = L) := ⟨h, hlen⟩
  obtain ⟨a1, c1, rfl⟩ := h.is_slice
  clear h hlen
  go_enter Tryz.func42, Tryz.ntmps42
  go_wp2_with (at_make; refine wpList_make_full _ rfl _ _ 45 rfl w.heap.size 2 i0 (.int .i64 0) 1 Tryz.underlying45 hi hz0 hz1 .i64 .i64 _ _ L rfl rfl rfl rfl (by rw [hz2]; omega) (by unfold maxLen; omega) (Nat.le_refl _) ?_; intro w1 hown hgrow)
  rw [flatTo_zero intCell [.int .i64 0] ys L (.int .i64 0) 1 rfl rfl (by omega)] at hown
  have hB : Below w.heap.size w w1 := (Below.refl _ _).grown hgrow (Nat.le_refl _) (fun k hk => by cases hk)
  clear hgrow
  go_loopw [4] (fun i wr => ∃ k : Nat, k ≤ L ∧ i = .int .i64 k ∧ wr.ownsRow w.heap.size 2 1 (.slice (some ⟨w.heap.size, 0, none⟩) L L) L (flatTo intCell [.int .i64 0] ys k L) ∧ Below w.heap.size w wr) (fun i _ => L - (intOf i).toNat)
  case atStart => exact ⟨0, by omega, rfl, hown, hB⟩
  case round =>
    clear hown hB
    obtain ⟨k, hk, rfl, hown, hbel⟩ := hrel
    by_cases hlt : k < L
    · obtain ⟨x, hx⟩ : ∃ x, ys[k]? = some x := ⟨_, List.getElem?_eq_getElem (by rw [H1.out.2]; exact hlt)⟩
      have hnext := flatTo_next intCell [.int .i64 0] ys k L x hx
      rw [flatTo_parts intCell [.int .i64 0] ys k L hlt] at hown
      have hA : ((ys.take k).flatMap intCell).length = k * 1 := by rw [flat_length intCell 1 intCell_length, List.length_take, H1.out.2, Nat.min_eq_left hk]
      generalize (ys.take k).flatMap intCell = A at hown hnext hA
      generalize (List.replicate (L - (k + 1)) [Value.int .i64 0]).flatten = R at hown hnext
      rcases H1.out.1.2 with ⟨e0, _⟩ | ⟨g, o, c, e1, hc1⟩
      · omega
      · simp only [Value.slice.injEq, true_and] at e1
        obtain ⟨rfl, rfl⟩ := e1
        have i0 := Rd.elem intCell_length hc1 k x hx 0 _ rfl
        rw [← hbel.cell (block_lt_of_cell i0)] at i0
        rw [Nat.mul_one, Nat.add_zero] at i0
        have f0 := hown.frozenAt k
        have d0 := hown.cellAt k (by omega)
        rw [Nat.mul_one] at hA
        rw [List.getElem?_append_right (by omega), hA, Nat.sub_self] at d0
        have HO : Hid (wr.ownsRow w.heap.size 2 1 (.slice (some ⟨w.heap.size, 0, none⟩) L L) L (A ++ ([.int .i64 0] ++ R)) ∧ A.length = k ∧ flatTo intCell [.int .i64 0] ys (k + 1) L = A ++ (intCell x ++ R)) := ⟨hown, hA, hnext⟩
        clear hown hA hnext hc1 hx
        simp only [List.cons_append, List.getElem?_cons_zero] at d0
        go_wp2
        go_roundw
        case rel =>
          refine ⟨k + 1, by omega, by go_num, ?_, hbel.setCell (Nat.le_refl _) _⟩
          have hst := (HO.out.1.stored k (.int .i64 x)).1
          rw [set1 A R _ _ k HO.out.2.1] at hst
          rw [HO.out.2.2]
          exact hst
        case measure => simp [intOf]; omega
    · have hkn : k = L := by omega
      subst hkn
      rw [flatTo_all _ _ _ _ H1.out.2] at hown
      have HO : Hid (wr.ownsRow w.heap.size 2 1 (.slice (some ⟨w.heap.size, 0, none⟩) k k) k (ys.flatMap intCell)) := hown
      clear hown
      go_wp2
      go_ret
      exact ⟨rfl, HO.out, hbel⟩
end Go.Proofs.YthifelgdkmkdkaaGreatDoor
