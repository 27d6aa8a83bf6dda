/- OpNumbers: impl.opNumbers: the map of names. -/
import Derived.Test.YtkblcoiiloiohafOpRows
import Derived.Maps.Own
import Derived.Maps.OwnOps
import Derived.Maps.OwnSet
namespace Go.Proofs.Ytkblcoiiloiohaf
open Go.ChangeShapes Go.WideShapes Go.ChangeAt Go.RowKit Go.Maps Go.WideMaps Go.WideElems
set_option linter.unusedVariables false

def strOf : Option Value → ByteArray
  | some (.string s) => s
  | _ => ByteArray.empty
/-- The name of op k. -/
def nameAt (k : Nat) : ByteArray := strOf (rowCells k)[0]?
set_option maxRecDepth 100000 in
theorem nameAt_cell (k : Nat) (hk : k < 30) : (rowCells k)[0]? = some (.string (nameAt k)) ∧ (nameAt k).size ≤ maxLen := by
  have h : k = 0 ∨ k = 1 ∨ k = 2 ∨ k = 3 ∨ k = 4 ∨ k = 5 ∨ k = 6 ∨ k = 7 ∨ k = 8 ∨ k = 9 ∨ k = 10 ∨ k = 11 ∨ k = 12 ∨ k = 13 ∨ k = 14 ∨ k = 15 ∨ k = 16 ∨ k = 17 ∨ k = 18 ∨ k = 19 ∨ k = 20 ∨ k = 21 ∨ k = 22 ∨ k = 23 ∨ k = 24 ∨ k = 25 ∨ k = 26 ∨ k = 27 ∨ k = 28 ∨ k = 29 := by omega
  clear hk
  rcases h with rfl | rfl | rfl | rfl | rfl | rfl | rfl | rfl | rfl | rfl | rfl | rfl | rfl | rfl | rfl | rfl | rfl | rfl | rfl | rfl | rfl | rfl | rfl | rfl | rfl | rfl | rfl | rfl | rfl | rfl <;> exact ⟨rfl, of_decide_eq_true (by kernel_rfl)⟩

def keyL (s : ByteArray) : Lit := .string s.data.toList
/-- The map behind k rounds. -/
def mapTo : Nat → DataW Unit
  | 0 => .map []
  | k + 1 => (mapTo k).put (keyL (nameAt k)) (.lit (.int .i64 k))

theorem keyed : Keyed Try.prog 9 := string_keyed Try.underlying9
theorem zero64 (w : World) : (zeroValue 2).run Try.prog w = .ok (.int .i64 0) w := by kernel_rfl
theorem make_map (w : World) : (Instr.makeMap 42 (some (.int .i64 30))).run Try.prog w = .ok (.map (some w.heap.size)) (w.alloc (.map #[] 0)) := by kernel_rfl

theorem owns_of_block {w w' : World} {b n : Nat} {D : DataW Unit} (h : w.ownsMap Try.prog 9 (plainElem Try.prog 2) b n D) (e : w'.heap[b]? = w.heap[b]?) : w'.ownsMap Try.prog 9 (plainElem Try.prog 2) b n D := by
  obtain ⟨es, clock, h1, h2⟩ := h
  exact ⟨es, clock, e.trans h1, h2⟩

set_option maxRecDepth 100000 in
set_option maxHeartbeats 1000000 in
theorem opNumbers_any (w : World) : Calls Try.prog 21 #[] w fun e w' => e = .returned (.map (some w.heap.size)) ∧ w'.ownsMap Try.prog 9 (plainElem Try.prog 2) w.heap.size 30 (mapTo 30) ∧ Below w.heap.size w w' := by
  have hmk := make_map
  have hz := zero_row
  go_enter Try.func21, Try.ntmps21
  go_wp2_with (go_at_call 29; refine (opRows_any _).mono ?_; rintro e w1 ⟨rfl, hb⟩)
  have h0 : w1.ownsMap Try.prog 9 (plainElem Try.prog 2) w.heap.size 0 (mapTo 0) := owns_of_block (World.ownsMap_made _ _ _ _) (hb.block _ (by simp))
  have hB : Below w.heap.size w w1 := ((Below.refl _ _).alloc (Nat.le_refl _) _).trans (hb.mono (by simp))
  have hs1 : w.heap.size < w1.heap.size := by have := hb.size; simp at this; omega
  clear hb
  go_loopw [6] (fun i wr => ∃ k : Nat, k ≤ 30 ∧ i = .int .i64 k ∧ wr.ownsMap Try.prog 9 (plainElem Try.prog 2) w.heap.size k (mapTo k) ∧ Below w.heap.size w wr ∧ w.heap.size < wr.heap.size) (fun i _ => 30 - (intOf i).toNat)
  case atStart => exact ⟨0, by omega, rfl, h0, hB, hs1⟩
  case round =>
    obtain ⟨k, hk, rfl, hown, hbel, hsz⟩ := hrel
    clear h0 hB hs1
    by_cases hlt : k < 30
    · have hi := index_rows k hlt
      have hn := nameAt_cell k hlt
      have HS : Hid ((rowCells k).size = 4 ∧ (rowCells k).all (·.oneCell') = true) := ⟨rowCells_size k hlt, rowCells_one k hlt⟩
      have hkey : keyOf Try.prog 9 (.string (nameAt k)) = some (keyL (nameAt k)) := keyOf_string_mk Try.underlying9 hn.2
      have hcell := hn.1
      clear hn
      go_wp2_with (first
        | (show wpList _ _ _ ({ dst := none, op := Op.store 39 _ _, type := _, pos := _, after := _, guard := _ } :: _) _ _; refine wpList_store_row rfl 39 (.tmp 3) (.tmp 9) rfl wr.heap.size (rowCells k) rfl rfl 39 #[.string ⟨#[]⟩, .int .i64 0, .int .i64 0, .nilFunc] (heap_alloc_new _ _) (by rw [HS.out.1]; kernel_rfl) (by rw [HS.out.1]; rfl) HS.out.2 ?_; rw [World.setRow_alloc_new])
        | (at_mapUpdate; refine wpList_mapUpdate_own _ rfl _ _ _ 42 rfl 9 2 keyed Try.underlying42 _ w.heap.size k _ rfl (hown.alloc _) (by unfold maxLen; omega) _ _ _ rfl rfl hkey _ [] (plainElem_int Try.underlying2 (WalkArith.wf_i64 (by omega))) ?_; intro w2 hown2 hgrow2))
      go_roundw
      case rel => exact ⟨k + 1, by omega, by go_num, hown2, (hbel.alloc hbel.size _).grown hgrow2 (by have := hbel.size; simp; omega) (fun j hj => by cases hj; exact Nat.le_refl _), by have := hgrow2.size; simp at this; omega⟩
      case measure => simp [intOf]; omega
    · have hk30 : k = 30 := by omega
      subst hk30
      go_wp2
      go_ret
      exact ⟨rfl, hown, hbel⟩
end Go.Proofs.Ytkblcoiiloiohaf
