/- DrawNum: DrawPutNumber, DrawCrc. -/
import Derived.Test.YtkblcoiiloiohaaDoorDraw4
import Derived.Lib.SlBytesConst
namespace Go.Proofs.YtkblcoiiloiohaaDoor
open Go.ChangeShapes Go.WideShapes Go.ChangeAt Go.RowKit
set_option linter.unusedVariables false
theorem bits_i64 (op : BinOp) (x y : Int) : -9223372036854775808 ≤ bits op .i64 x y ∧ bits op .i64 x y ≤ 9223372036854775807 := by
  have h := bounds_i64 (wf_bits op .i64 x y)
  omega
set_option maxHeartbeats 2000000 in
theorem DrawPutNumber_any (a : Option Addr) (len cap : Nat) (w : World) (hl : len ≤ 140737488355328) (hc : CodeAt w w.heap.size a len) :
    Calls Tryd.prog 4 #[.slice a len cap] w fun e w' => ∃ v n : Int, -9223372036854775808 ≤ v ∧ v ≤ 9223372036854775807 ∧ 0 ≤ n ∧ n < 10 ∧ e = .returned (.tuple #[.int .i64 v, .int .i64 n]) ∧ Below w.heap.size w w' := by
  have HC : Hid (CodeAt w w.heap.size a len) := hc
  clear hc
  go_enter Tryd.func4, Tryd.ntmps4
  go_wp2_with fail
  refine (l1Source_any a len cap w hl HC.out).mono ?_
  rintro e w0 ⟨rfl, hs0, hb0⟩
  have H0 : Hid (Src w0 w.heap.size a len cap 0 ∧ Below w.heap.size w w0) := ⟨hs0, hb0⟩
  clear hs0 hb0
  go_wp2_with fail
  refine (l1Word_any H0.out.1 (by omega)).mono ?_
  rintro e w1 ⟨x, p1, x0, x1, rfl, q0, q1, hs1, hd1⟩
  have H1 : Hid (Src w1 w.heap.size a len cap p1 ∧ Below w.heap.size w w1) := ⟨hs1, H0.out.2.trans (hd1.below (Nat.le_refl _) H0.out.2.size)⟩
  clear hs1 hd1
  go_wp2_with fail
  refine (l1Word_any H1.out.1 (by omega)).mono ?_
  rintro e w2 ⟨y, p2, y0, y1, rfl, q2, q3, hs2, hd2⟩
  have H2 : Hid (Src w2 w.heap.size a len cap p2 ∧ Below w.heap.size w w2) := ⟨hs2, H1.out.2.trans (hd2.below (Nat.le_refl _) H1.out.2.size)⟩
  clear hs2 hd2
  go_wp2_with fail
  refine (l1Next_any H2.out.1 (by omega) (by omega) (by omega)).mono ?_
  rintro e w3 ⟨r, r0, r1, rfl, hs3, hd3⟩
  have H3 : Hid (Below w.heap.size w w3) := H2.out.2.trans (hd3.below (Nat.le_refl _) H2.out.2.size)
  clear hs3 hd3
  go_wp2
  go_ret2
  exact ⟨_, r, (bits_i64 _ _ _).1, (bits_i64 _ _ _).2, r0, r1, rfl, H3.out⟩

def digits : List Int := [49, 50, 51, 52, 53, 54, 55, 56, 57]
theorem digits_reads (w : World) (e : TypeId) (fr : Nat × Nat) : Reads (w.alloc (.cells #[.int .u8 49, .int .u8 50, .int .u8 51, .int .u8 52, .int .u8 53, .int .u8 54, .int .u8 55, .int .u8 56, .int .u8 57] e fr)) (.slice (some ⟨w.heap.size, 0, none⟩) 9 9) 9 (digits.map (Value.int .u8)) := by
  refine ⟨rfl, .inr ⟨w.heap.size, 0, 9, rfl, fun j u hj => ?_⟩⟩
  rw [cell_of_row _ _ _ _ _ _ (heap_alloc_new _ _), Nat.zero_add]
  show ((digits.map (Value.int .u8)).toArray)[j]? = some u
  rw [List.getElem?_toArray]
  exact hj
theorem digits_bytes : AreBytes digits := by
  intro z hz
  simp [digits] at hz
  omega
set_option maxHeartbeats 2000000 in
theorem DrawCrc_any (a : Option Addr) (len cap : Nat) (w : World) (hl : len ≤ 140737488355328) (hc : CodeAt w w.heap.size a len) :
    Calls Tryd.prog 8 #[.slice a len cap] w fun e w' => ∃ (s : Value) (n : Nat) (zs : List Int), n ≤ 60 ∧ e = .returned s ∧ Reads w' s n (zs.map (Value.int .u8)) ∧ AreBytes zs ∧ Below w.heap.size w w' := by
  have HC : Hid (CodeAt w w.heap.size a len) := hc
  clear hc
  have kc := fun (w : World) (C : Array Value) (n c : Nat) => Lib.run_convert_bytes_const (P := Tryd.prog) w 22 5 C n c Tryd.underlying22 Tryd.underlying5
  go_enter Tryd.func8, Tryd.ntmps8
  go_wp2_with fail
  refine (l1Source_any a len cap w hl HC.out).mono ?_
  rintro e w0 ⟨rfl, hs0, hb0⟩
  have H0 : Hid (Src w0 w.heap.size a len cap 0 ∧ Below w.heap.size w w0) := ⟨hs0, hb0⟩
  clear hs0 hb0
  go_wp2_with fail
  refine (l1Chance_any H0.out.1 (by omega) (by omega) (by omega)).mono ?_
  rintro e w1 ⟨b, rfl, hs1, hd1⟩
  have H1 : Hid (Src w1 w.heap.size a len cap (0 + 1) ∧ Below w.heap.size w w1) := ⟨hs1, H0.out.2.trans (hd1.below (Nat.le_refl _) H0.out.2.size)⟩
  clear hs1 hd1
  cases b
  · go_wp2_with fail
    refine (l1Next_any H1.out.1 (by omega) (by omega) (by omega)).mono ?_
    rintro e w2 ⟨r, r0, r1, rfl, hs2, hd2⟩
    have H2 : Hid (Src w2 w.heap.size a len cap (0 + 1 + 1) ∧ Below w.heap.size w w2) := ⟨hs2, H1.out.2.trans (hd2.below (Nat.le_refl _) H1.out.2.size)⟩
    clear hs2 hd2
    obtain ⟨n, rfl⟩ := Int.eq_ofNat_of_zero_le r0
    go_wp2_with fail
    refine (l1Bytes_any n H2.out.1 (by omega) (by omega)).mono ?_
    rintro e w3 ⟨s, zs, rfl, hown, hbz, hs3, hd3⟩
    have H3 : Hid (Reads w3 s n (zs.map (Value.int .u8)) ∧ Below w.heap.size w w3) := ⟨Reads.of_own hown, H2.out.2.trans (hd3.below (Nat.le_refl _) H2.out.2.size)⟩
    clear hown hs3 hd3
    go_wp2
    go_ret
    exact ⟨_, n, zs, by omega, rfl, H3.out.1, hbz, H3.out.2⟩
  · go_wp2
    go_ret
    exact ⟨_, 9, digits, by omega, rfl, digits_reads _ _ _, digits_bytes, H1.out.2.alloc H1.out.2.size _⟩
theorem bytes_getD {zs : List Int} (h : AreBytes zs) : ∀ j, 0 ≤ zs.getD j 0 ∧ zs.getD j 0 ≤ 255 := by
  intro j
  rw [List.getD_eq_getElem?_getD]
  cases hj : zs[j]? with
  | none => simp
  | some v => simpa using h v (List.mem_of_getElem? hj)
end Go.Proofs.YtkblcoiiloiohaaDoor
