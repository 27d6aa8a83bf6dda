/- ToByteS: toByteS. -/
import Derived.Test.YtkblcoiiloiohafDoorByteS
import Derived.OwnWalk
namespace Go.Proofs.YtkblcoiiloiohafDoor
open Go.ChangeShapes Go.WideShapes Go.ChangeAt Go.RowKit
set_option linter.unusedVariables false

theorem infoB8 : (Tryd.prog.info? 5).map (fun i => (i.zero, i.size, i.bytes)) = some (some (.int .u8 0), 1, 1) := by kernel_rfl
/-- Copied up to k. -/
def copyTo (zs : List Int) (k n : Nat) : List Value := (zs.take k).map (Value.int .u8) ++ List.replicate (n - k) (.int .u8 0)
theorem copyTo_zero (zs : List Int) (n : Nat) : (madeCells (Value.int .u8 0).cells (n * 1)).toList = copyTo zs 0 n := by
  apply List.ext_getElem
  · simp [madeCells, copyTo]
  · intro i h1 h2
    simp [madeCells, copyTo, Value.cells, Nat.mod_one]
theorem copyTo_all (zs : List Int) (n : Nat) (h : zs.length = n) : copyTo zs n n = zs.map (Value.int .u8) := by simp [copyTo, ← h]
theorem copyTo_length (zs : List Int) (k n : Nat) (h : zs.length = n) (hk : k ≤ n) : (copyTo zs k n).length = n := by simp [copyTo]; omega
theorem copyTo_set (zs : List Int) (k n : Nat) (h : zs.length = n) (hk : k < n) : (copyTo zs k n).set k (.int .u8 (zs.getD k 0)) = copyTo zs (k + 1) n := by
  unfold copyTo
  have hl : ((zs.take k).map (Value.int .u8)).length = k := by simp; omega
  rw [List.set_append_right _ _ (by omega), hl, Nat.sub_self]
  have e : n - k = (n - (k + 1)) + 1 := by omega
  rw [e, List.replicate_succ, List.set_cons_zero, List.take_succ_eq_append_getElem (by omega), List.map_append, List.append_assoc]
  congr 1
  rw [List.getD_eq_getElem?_getD, List.getElem?_eq_getElem (show k < zs.length by omega)]
  rfl

set_option maxHeartbeats 1000000 in
theorem toByteS_any (s : Value) (L : Nat) (zs : List Int) (w : World) (hL : L ≤ 1048576) (h : Reads w s L (zs.map (Value.int .u8))) :
    Calls Tryd.prog 5 #[s] w fun e w' => e = .returned (.slice (some ⟨w.heap.size, 0, none⟩) L L) ∧ w'.ownsRow w.heap.size 5 1 (.slice (some ⟨w.heap.size, 0, none⟩) L L) L (zs.map (Value.int .u8)) ∧ Below w.heap.size w w' := by
  obtain ⟨i0, hi, hz0, hz1, hz2⟩ := info_parts infoB8
  have hlen : zs.length = L := by simpa using h.1
  have H1 : Hid (Reads w s L (zs.map (Value.int .u8))) := h
  have hs : ∃ a c, s = .slice a L c := by rcases h.2 with ⟨rfl, a, c, rfl⟩ | ⟨g, o, c, rfl, _⟩ <;> exact ⟨_, _, rfl⟩
  clear h
  obtain ⟨a1, c1, rfl⟩ := hs
  go_enter Tryd.func5, Tryd.ntmps5
  go_wp2_with (at_make; refine wpList_make_full _ rfl _ _ 22 rfl w.heap.size 5 i0 (.int .u8 0) 1 Tryd.underlying22 hi hz0 hz1 .i64 .i64 _ _ L rfl rfl rfl rfl (by rw [hz2]; omega) (by unfold maxLen; omega) (Nat.le_refl _) ?_; intro w1 hown hgrow)
  rw [copyTo_zero zs L] at hown
  have hB : Below w.heap.size w w1 := (Below.refl _ _).grown hgrow (Nat.le_refl _) (fun k hk => by cases hk)
  clear hgrow
  go_loopw [4] (fun i wr => ∃ k : Nat, k ≤ L ∧ i = .int .i64 k ∧ wr.ownsRow w.heap.size 5 1 (.slice (some ⟨w.heap.size, 0, none⟩) L L) L (copyTo zs k L) ∧ Below w.heap.size w wr) (fun i _ => L - (intOf i).toNat)
  case atStart => exact ⟨0, by omega, rfl, hown, hB⟩
  case round =>
    clear hown hB
    obtain ⟨k, hk, rfl, hown, hbel⟩ := hrel
    by_cases hlt : k < L
    · have hz : (zs.map (Value.int .u8))[k]? = some (.int .u8 (zs.getD k 0)) := by
        rw [List.getElem?_map, List.getElem?_eq_getElem (by omega), List.getD_eq_getElem?_getD, List.getElem?_eq_getElem (by omega)]
        rfl
      rcases H1.out.2 with ⟨e0, _⟩ | ⟨g, o, c, e1, hc1⟩
      · omega
      · simp only [Value.slice.injEq, true_and] at e1
        obtain ⟨rfl, rfl⟩ := e1
        have hin := (hbel.cell (block_lt_of_cell (hc1 k _ hz))).trans (hc1 k _ hz)
        have hcell := hown.cellAt k (by omega)
        have hfr := hown.frozenAt k
        have HO : Hid (wr.ownsRow w.heap.size 5 1 (.slice (some ⟨w.heap.size, 0, none⟩) L L) L (copyTo zs k L)) := hown
        clear hown
        obtain ⟨old, hold⟩ : ∃ old, (copyTo zs k L)[k]? = some old := ⟨_, List.getElem?_eq_getElem (by rw [copyTo_length zs k L hlen hk]; exact hlt)⟩
        rw [hold] at hcell
        have hset := copyTo_set zs k L hlen hlt
        generalize zs.getD k 0 = z at hin hset
        have HS : Hid ((copyTo zs k L).set k (.int .u8 z) = copyTo zs (k + 1) L) := hset
        clear hold hc1 hz hset hlen
        go_wp2
        go_roundw
        case rel =>
          refine ⟨k + 1, by omega, by go_num, ?_, hbel.setCell (Nat.le_refl _) _⟩
          have hst := (HO.out.stored k (.int .u8 z)).1
          rw [HS.out] at hst
          exact hst
        case measure => simp [intOf]; omega
    · have hkn : k = L := by omega
      subst hkn
      rw [copyTo_all zs k hlen] at hown
      have HO : Hid (wr.ownsRow w.heap.size 5 1 (.slice (some ⟨w.heap.size, 0, none⟩) k k) k (zs.map (Value.int .u8))) := hown
      clear hown
      go_wp2
      go_ret
      exact ⟨rfl, HO.out, hbel⟩
end Go.Proofs.YtkblcoiiloiohafDoor
