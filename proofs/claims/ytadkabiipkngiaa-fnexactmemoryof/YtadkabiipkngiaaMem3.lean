/- Mem3: the words of values: spec.l4WordsOf, impl.wordsOf. -/
import Derived.Test.YtadkabiipkngiaaSt5
import Derived.Test.YtadkabiipkngiaaSame9
import Derived.WalkSpells
import Derived.Maps.AppendAt
namespace Go.Proofs.Ytadkabiipkngiaa
open Go.ChangeShapes Go.WideShapes Go.ChangeAt Go.RowKit
set_option linter.unusedVariables false
/-- The words of values. -/
def wordsL (cs : List MC) : List Int := cs.map MC.word
theorem wordsL_length (cs : List MC) : (wordsL cs).length = cs.length := by simp [wordsL]
theorem wordsL_next (cs : List MC) (k : Nat) (x : MC) (h : cs[k]? = some x) : (wordsL (cs.take k)).flatMap wCell ++ [.int .u32 x.word] = (wordsL (cs.take (k + 1))).flatMap wCell := by
  obtain ⟨hlt, rfl⟩ := List.getElem?_eq_some_iff.1 h
  rw [List.take_succ_eq_append_getElem hlt]
  unfold wordsL
  rw [List.map_append, List.flatMap_append]
  rfl
set_option maxHeartbeats 2000000 in
set_option maxRecDepth 100000 in
theorem l4WordsOf_any (s : Value) (cs : List MC) (w : World) (hn : cs.length ≤ 1048576) (h : Rd w 2 s cs.length (cs.flatMap MC.cells)) :
    Calls Try.prog 24 #[s] w fun e w' => ∃ a c, e = .returned (.slice a cs.length c) ∧ w'.ownsRow w.heap.size 102 1 (.slice a cs.length c) cs.length ((wordsL cs).flatMap wCell) ∧ Below w.heap.size w w' := by
  obtain ⟨i0, hi, hz0, hz1, hz2⟩ := info_parts info32
  have H1 : Hid (Rd w 2 s cs.length (cs.flatMap MC.cells)) := h
  obtain ⟨a1, c1, rfl⟩ := h.is_slice
  clear h
  generalize hLL : cs.length = n at hn H1 ⊢
  have HL : Hid (cs.length = n) := hLL
  clear hLL
  go_enter Try.func24, Try.ntmps24
  go_wp2
  go_loopw [3, 4] (fun s i wr => ∃ k : Nat, k ≤ n ∧ i = .int .i64 k ∧ wr.ownsRow w.heap.size 102 1 s k ((wordsL (cs.take k)).flatMap wCell) ∧ Below w.heap.size w wr) (fun _ i _ => n - (intOf i).toNat)
  case atStart => exact ⟨0, by omega, rfl, ⟨by simp [wordsL], .inr ⟨w.heap.size, 0, #[], rfl, Nat.le_refl _, heap_alloc_new _ _, Nat.le_refl _, Nat.zero_le _, rfl, by simp [wordsL]⟩⟩, (Below.refl _ _).alloc (Nat.le_refl _) _⟩
  case round =>
    obtain ⟨k, hk, rfl, hown, hbel⟩ := hrel
    by_cases hlt : k < n
    · obtain ⟨x, hx⟩ : ∃ x, cs[k]? = some x := ⟨_, List.getElem?_eq_getElem (by rw [HL.out]; exact hlt)⟩
      rcases H1.out.2 with ⟨e0, _⟩ | ⟨g, o, c, e1, hc1⟩
      · omega
      simp only [Value.slice.injEq, true_and] at e1
      obtain ⟨rfl, rfl⟩ := e1
      have j0 := Rd.elem MC.cells_length hc1 k x hx 1 _ rfl
      rw [← hbel.cell (block_lt_of_cell j0)] at j0
      have hnext := wordsL_next cs k x hx
      have HX : Hid ((wordsL (cs.take k)).flatMap wCell ++ [.int .u32 x.word] = (wordsL (cs.take (k + 1))).flatMap wCell) := hnext
      clear hc1 hx hnext
      go_wp2_with (at_builtin; refine wpList_append_own _ rfl _ _ 28 rfl w.heap.size 102 i0 (.int .u32 0) 1 4 Try.underlying28 hi hz0 hz1 hz2 rfl (by decide) _ _ _ rfl (hown.alloc _) ⟨wr.heap.size, 0, none⟩ 1 1 [_] rfl rfl (cell_one_new _ _ _) (ints_oneCell .u32 [_]) (by unfold maxLen; omega) (by omega) (by have := hbel.size; simp; omega) ?_; intro v' w1 hown' hgrow hnil)
      rw [HX.out] at hown'
      have HO : Hid (w1.ownsRow w.heap.size 102 1 v' (k + 1) ((wordsL (cs.take (k + 1))).flatMap wCell)) := hown'
      have HB : Hid (Below w.heap.size w w1) := (hbel.alloc hbel.size _).grown hgrow (by have := hbel.size; simp; omega) (fun j hj => (hown.lt j hj).1)
      clear hown hown' hgrow hnil j0
      go_wp2
      go_roundw
      case rel => exact ⟨k + 1, by omega, by go_num, HO.out, HB.out⟩
      case measure => simp [intOf]; omega
    · have hkn : k = n := by omega
      subst hkn
      rw [show cs.take k = cs from by rw [← HL.out]; exact List.take_length] at hown
      obtain ⟨a2, c2, rfl⟩ : ∃ a c, u3 = .slice a k c := (Rd.of_own hown).is_slice
      have HO : Hid (wr.ownsRow w.heap.size 102 1 (.slice a2 k c2) k ((wordsL cs).flatMap wCell)) := hown
      clear hown
      go_wp2
      go_ret
      exact ⟨_, _, rfl, HO.out, hbel⟩
theorem flatW (cs : List MC) : (wordsL cs).flatMap wCell = cs.flatMap (fun x => wCell x.word) := by simp [wordsL, List.flatMap_map]
set_option maxHeartbeats 2000000 in
set_option maxRecDepth 100000 in
theorem wordsOf_any (s : Value) (cs : List MC) (w : World) (hn : cs.length ≤ 1048576) (h : Rd w 2 s cs.length (cs.flatMap MC.cells)) :
    Calls Try.prog 28 #[s] w fun e w' => ∃ a c, e = .returned (.slice a cs.length c) ∧ w'.ownsRow w.heap.size 102 1 (.slice a cs.length c) cs.length ((wordsL cs).flatMap wCell) ∧ Below w.heap.size w w' := by
  obtain ⟨i0, hi, hz0, hz1, hz2⟩ := info_parts info32
  have H1 : Hid (Rd w 2 s cs.length (cs.flatMap MC.cells)) := h
  obtain ⟨a1, c1, rfl⟩ := h.is_slice
  clear h
  rw [flatW]
  generalize hLL : cs.length = L at hn H1 ⊢
  have HL : Hid (cs.length = L) := hLL
  clear hLL
  go_enter Try.func28, Try.ntmps28
  go_wp2_with (at_make; refine wpList_make_full _ rfl _ _ 28 rfl w.heap.size 102 i0 (.int .u32 0) 1 Try.underlying28 hi hz0 hz1 .i64 .i64 _ _ L rfl rfl rfl rfl (by rw [hz2]; omega) (by unfold maxLen; omega) (Nat.le_refl _) ?_; intro w1 hown hgrow)
  rw [flatTo_zero (fun x : MC => wCell x.word) [.int .u32 0] cs L (.int .u32 0) 1 rfl rfl (by omega)] at hown
  have hB : Below w.heap.size w w1 := (Below.refl _ _).grown hgrow (Nat.le_refl _) (fun k hk => by cases hk)
  clear hgrow
  go_loopw [11] (fun i wr => ∃ k : Nat, k ≤ L ∧ i = .int .i64 k ∧ wr.ownsRow w.heap.size 102 1 (.slice (some ⟨w.heap.size, 0, none⟩) L L) L (flatTo (fun x : MC => wCell x.word) [.int .u32 0] cs k L) ∧ Below w.heap.size w wr) (fun i _ => L - (intOf i).toNat)
  case atStart => exact ⟨0, by omega, rfl, hown, hB⟩
  case round =>
    clear hown hB
    obtain ⟨k, hk, rfl, hown, hbel⟩ := hrel
    by_cases hlt : k < L
    · obtain ⟨x, hx⟩ : ∃ x, cs[k]? = some x := ⟨_, List.getElem?_eq_getElem (by rw [HL.out]; exact hlt)⟩
      have hnext := flatTo_next (fun x : MC => wCell x.word) [.int .u32 0] cs k L x hx
      rw [flatTo_parts (fun x : MC => wCell x.word) [.int .u32 0] cs k L hlt] at hown
      have hA : ((cs.take k).flatMap (fun x : MC => wCell x.word)).length = k := by rw [flat_length (fun x : MC => wCell x.word) 1 (fun _ => rfl), List.length_take, HL.out, Nat.min_eq_left hk, Nat.mul_one]
      generalize (cs.take k).flatMap (fun x : MC => wCell x.word) = A at hown hnext hA
      generalize (List.replicate (L - (k + 1)) [Value.int .u32 0]).flatten = R at hown hnext
      rcases H1.out.2 with ⟨e0, _⟩ | ⟨g, o, c, e1, hc1⟩
      · omega
      simp only [Value.slice.injEq, true_and] at e1
      obtain ⟨rfl, rfl⟩ := e1
      have j0 := Rd.elem MC.cells_length hc1 k x hx 0 _ rfl
      have j1 := Rd.elem MC.cells_length hc1 k x hx 1 _ rfl
      rw [← hbel.cell (block_lt_of_cell j0), Nat.add_zero] at j0
      rw [← hbel.cell (block_lt_of_cell j1)] at j1
      have nb : ¬ g = wr.heap.size := Nat.ne_of_lt (block_lt_of_cell j0)
      have mb : g < wr.heap.size := block_lt_of_cell j0
      have nw : ¬ w.heap.size = wr.heap.size := Nat.ne_of_lt (own_lt hown)
      have mw : w.heap.size < wr.heap.size := own_lt hown
      have f0 := hown.frozenAt k
      have d0 := hown.cellAt k (by omega)
      rw [List.getElem?_append_right (by omega), hA, Nat.sub_self] at d0
      have bX := below_alloc wr (.cells #[.int .i64 x.type, .int .u32 x.word] 104)
      have HO : Hid ((wr.alloc (.cells #[.int .i64 x.type, .int .u32 x.word] 104)).ownsRow w.heap.size 102 1 (.slice (some ⟨w.heap.size, 0, none⟩) L L) L (A ++ ([.int .u32 0] ++ R)) ∧ A.length = k ∧ flatTo (fun x : MC => wCell x.word) [.int .u32 0] cs (k + 1) L = A ++ (wCell x.word ++ R) ∧ Below w.heap.size w (wr.alloc (.cells #[.int .i64 x.type, .int .u32 x.word] 104))) := ⟨own_keep hown bX (Nat.le_refl _), hA, hnext, hbel.trans (bX.mono hbel.size)⟩
      clear hown hA hnext hc1 hx bX hbel
      simp only [List.cons_append, List.getElem?_cons_zero] at d0
      go_wp2
      go_roundw
      case rel =>
        refine ⟨k + 1, by omega, by go_num, ?_, ?_⟩
        · have hst := (HO.out.1.stored k (.int .u32 x.word)).1
          rw [set1 A R _ _ k HO.out.2.1] at hst
          rw [HO.out.2.2.1]
          first | exact hst | (simp only [World.setCell_alloc_past _ _ _ _ mw] at hst; exact hst)
        · have hbb := HO.out.2.2.2.setCell (p := ⟨w.heap.size, k, none⟩) (Nat.le_refl _) (.int .u32 x.word)
          first | exact hbb | (simp only [World.setCell_alloc_past _ _ _ _ mw] at hbb; exact hbb)
      case measure => simp [intOf]; omega
    · have hkn : k = L := by omega
      subst hkn
      rw [flatTo_all _ _ _ _ HL.out] at hown
      have HO : Hid (wr.ownsRow w.heap.size 102 1 (.slice (some ⟨w.heap.size, 0, none⟩) k k) k (cs.flatMap (fun x : MC => wCell x.word))) := hown
      clear hown
      go_wp2
      go_ret
      exact ⟨_, _, rfl, HO.out, hbel⟩
end Go.Proofs.Ytadkabiipkngiaa
