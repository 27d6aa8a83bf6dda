/- GetNumber: both contracts. -/
import Derived.Test.YtkblcoiiloiohaaDoorByteS
namespace Go.Proofs.YtkblcoiiloiohaaDoor
open Go.ChangeShapes Go.WideShapes Go.ChangeAt Go.RowKit
set_option linter.unusedVariables false

def getAcc (zs : List Int) (p : Nat) : Nat → Int
  | 0 => 0
  | k + 1 => bits .or .u64 (getAcc zs p k) (IntKind.u64.wrap (IntKind.u64.wrap (zs[p + k]?.getD 0) * 2 ^ (8 * k)))
theorem zero_num (w : World) : (zeroValue 28).run Tryd.prog w = .ok (.agg #[.bool false, .int .i64 0]) w := by kernel_rfl
theorem map_at (zs : List Int) (j : Nat) (h : j < zs.length) : (zs.map (Value.int .u8))[j]? = some (.int .u8 (zs.getD j 0)) := by
  rw [List.getElem?_map, List.getElem?_eq_getElem h, List.getD_eq_getElem?_getD, List.getElem?_eq_getElem h]
  rfl

set_option maxHeartbeats 1000000 in
theorem GetNumber_in (s : Value) (L : Nat) (zs : List Int) (p n : Nat) (w : World) (hL : L ≤ 1048576) (h : Reads w s L (zs.map (Value.int .u8))) (hcap : ∀ a c, s = .slice a L c → L ≤ c) (h1 : 1 ≤ n) (h8 : n ≤ 8) (hp : p + n ≤ L) :
    Calls Tryd.prog 7 #[s, .int .i64 p, .int .i64 n] w fun e w' => e = .returned (.agg #[.bool true, .int .i64 (wrap64 (getAcc zs p n))]) ∧ Below w.heap.size w w' := by
  have hzero := zero_num
  have hlen : zs.length = L := by simpa using h.1
  obtain ⟨g, o, c, rfl, hc⟩ : ∃ g o c, s = .slice (some ⟨g, o, none⟩) L c ∧ ∀ j u, (zs.map (Value.int .u8))[j]? = some u → w.cell? ⟨g, o + j, none⟩ = some u := by
    rcases h.2 with ⟨e0, _⟩ | h
    · omega
    · exact h
  have HC : Hid (∀ j, j < L → w.cell? ⟨g, o + j, none⟩ = some (.int .u8 (zs.getD j 0))) := fun j hj => hc j _ (map_at zs j (by omega))
  have hgw : g < w.heap.size := block_lt_of_cell (HC.out p (by omega))
  have hLc : L ≤ c := hcap _ _ rfl
  clear h hc hlen hcap
  have d1 : decide ((n : Int) < 1) = false := by simp; omega
  have d2 : decide (8 < (n : Int)) = false := by simp; omega
  have d3 : decide ((p : Int) < 0) = false := by simp
  have d4 : decide ((L : Int) - n < p) = false := by simp; omega
  go_enter Tryd.func7, Tryd.ntmps7
  go_wp2
  go_loopw [7, 36] (fun v i wr => ∃ k : Nat, k ≤ n ∧ v = .int .u64 (getAcc zs p k) ∧ i = .int .i64 k ∧ wr = w.alloc (.cells #[.bool false, .int .i64 0] 28)) (fun _ i _ => n - (intOf i).toNat)
  case atStart => exact ⟨0, by omega, rfl, rfl, rfl⟩
  case round =>
    obtain ⟨k, hk, rfl, rfl, rfl⟩ := hrel
    by_cases hlt : k < n
    · have hcell := HC.out (p + k) (by omega)
      rw [← Nat.add_assoc] at hcell
      go_wp2
      go_roundw
      case rel => exact ⟨k + 1, by omega, rfl, by go_num, trivial⟩
      case measure => simp [intOf]; omega
    · have hkn : k = n := by omega
      subst hkn
      go_wp2
      exact bodyPost_ret (v := .agg #[.bool true, .int .i64 (wrap64 (getAcc zs p k))]) (by simp [results, Tryd.results7, go_sem]) rfl ⟨rfl, (Below.refl _ _).alloc (Nat.le_refl _) _⟩

/-- The arguments at which there is no number. -/
def badNum (L : Nat) (p n : Int) : Bool := decide (n < 1) || (decide (8 < n) || (decide (p < 0) || decide ((L : Int) - n < p)))
set_option maxHeartbeats 1000000 in
theorem GetNumber_bad (a : Option Addr) (L c : Nat) (p n : Int) (w : World) (hL : L ≤ 1048576) (h : n < 1 ∨ 8 < n ∨ p < 0 ∨ (L : Int) - n < p) :
    Calls Tryd.prog 7 #[.slice a L c, .int .i64 p, .int .i64 n] w fun e w' => e = .returned (.agg #[.bool false, .int .i64 0]) ∧ Below w.heap.size w w' := by
  have hzero := zero_num
  by_cases c1 : n < 1
  · have d1 : decide (n < 1) = true := by simpa using c1
    clear h
    go_enter Tryd.func7, Tryd.ntmps7
    go_wp2
    exact bodyPost_ret (v := .agg #[.bool false, .int .i64 0]) (by simp [results, Tryd.results7, go_sem]) rfl ⟨rfl, (Below.refl _ _).alloc (Nat.le_refl _) _⟩
  · have d1 : decide (n < 1) = false := by simpa using c1
    by_cases c2 : 8 < n
    · have d2 : decide (8 < n) = true := by simpa using c2
      clear h
      go_enter Tryd.func7, Tryd.ntmps7
      go_wp2
      exact bodyPost_ret (v := .agg #[.bool false, .int .i64 0]) (by simp [results, Tryd.results7, go_sem]) rfl ⟨rfl, (Below.refl _ _).alloc (Nat.le_refl _) _⟩
    · have d2 : decide (8 < n) = false := by simpa using c2
      by_cases c3 : p < 0
      · have d3 : decide (p < 0) = true := by simpa using c3
        clear h
        go_enter Tryd.func7, Tryd.ntmps7
        go_wp2
        exact bodyPost_ret (v := .agg #[.bool false, .int .i64 0]) (by simp [results, Tryd.results7, go_sem]) rfl ⟨rfl, (Below.refl _ _).alloc (Nat.le_refl _) _⟩
      · have d3 : decide (p < 0) = false := by simpa using c3
        have d4 : decide ((L : Int) - n < p) = true := by simp; omega
        clear h
        go_enter Tryd.func7, Tryd.ntmps7
        go_wp2
        exact bodyPost_ret (v := .agg #[.bool false, .int .i64 0]) (by simp [results, Tryd.results7, go_sem]) rfl ⟨rfl, (Below.refl _ _).alloc (Nat.le_refl _) _⟩
end Go.Proofs.YtkblcoiiloiohaaDoor
