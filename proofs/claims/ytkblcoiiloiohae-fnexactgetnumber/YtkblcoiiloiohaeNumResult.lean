/- NumResult: eqNumberResult; a row of bytes that came in reads. -/
import Derived.Test.YtkblcoiiloiohaeGetNumber
import Derived.Test.YtkblcoiiloiohaeToByteS
namespace Go.Proofs.Ytkblcoiiloiohae
open Go.ChangeShapes Go.WideShapes Go.ChangeAt Go.RowKit
set_option linter.unusedVariables false
theorem eqNumberResult_same (b : Bool) (v : Int) (w : World) : Calls Try.prog 19 #[.agg #[.bool b, .int .i64 v], .agg #[.bool b, .int .i64 v]] w fun e w' => e = .returned (.bool true) ∧ Below w.heap.size w w' := by
  go_enter Try.func19, Try.ntmps19
  go_wp2
  go_ret
  exact ⟨rfl, (((Below.refl _ _).alloc (Nat.le_refl _) _).alloc (by simp) _)⟩
theorem cap_ok (g L : Nat) : ∀ a c, Value.slice (some ⟨g, 0, none⟩) L L = .slice a L c → L ≤ c := fun a c e => by
  injection e with e1 e2 e3
  omega
/-- What both answer. -/
def numRes (zs : List Int) (L : Nat) (p n : Int) : Bool × Int := if n < 1 ∨ 8 < n ∨ p < 0 ∨ (L : Int) - n < p then (false, 0) else (true, wrap64 (getAcc zs p.toNat n.toNat))
theorem GetNumber_any (g L : Nat) (zs : List Int) (p n : Int) (w : World) (hL : L ≤ 1048576) (h : Reads w (.slice (some ⟨g, 0, none⟩) L L) L (zs.map (Value.int .u8))) :
    Calls Try.prog 18 #[.slice (some ⟨g, 0, none⟩) L L, .int .i64 p, .int .i64 n] w fun e w' => e = .returned (.agg #[.bool (numRes zs L p n).1, .int .i64 (numRes zs L p n).2]) ∧ Below w.heap.size w w' := by
  by_cases hb : n < 1 ∨ 8 < n ∨ p < 0 ∨ (L : Int) - n < p
  · have e : numRes zs L p n = (false, 0) := if_pos hb
    rw [e]
    exact GetNumber_bad _ L L p n w hL hb
  · have e : numRes zs L p n = (true, wrap64 (getAcc zs p.toNat n.toNat)) := if_neg hb
    rw [e]
    obtain ⟨p', rfl⟩ := Int.eq_ofNat_of_zero_le (show 0 ≤ p by omega)
    obtain ⟨n', rfl⟩ := Int.eq_ofNat_of_zero_le (show 0 ≤ n by omega)
    exact GetNumber_in _ L zs p' n' w hL h (cap_ok g L) (by omega) (by omega) (by omega)
theorem SGetNumber_any (g L : Nat) (zs : List Int) (p n : Int) (w : World) (hL : L ≤ 1048576) (h : Reads w (.slice (some ⟨g, 0, none⟩) L L) L (zs.map (Value.int .u8))) :
    Calls Try.prog 16 #[.slice (some ⟨g, 0, none⟩) L L, .int .i64 p, .int .i64 n] w fun e w' => e = .returned (.agg #[.bool (numRes zs L p n).1, .int .i64 (numRes zs L p n).2]) ∧ Below w.heap.size w w' := by
  by_cases hb : n < 1 ∨ 8 < n ∨ p < 0 ∨ (L : Int) - n < p
  · have e : numRes zs L p n = (false, 0) := if_pos hb
    rw [e]
    exact SGetNumber_bad _ L L p n w hL hb
  · have e : numRes zs L p n = (true, wrap64 (getAcc zs p.toNat n.toNat)) := if_neg hb
    rw [e]
    obtain ⟨p', rfl⟩ := Int.eq_ofNat_of_zero_le (show 0 ≤ p by omega)
    obtain ⟨n', rfl⟩ := Int.eq_ofNat_of_zero_le (show 0 ≤ n by omega)
    exact SGetNumber_in _ L zs p' n' w hL h  (by omega) (by omega) (by omega)
theorem reads_of_row {w : World} {a : Option Addr} {len cap : Nat} {zs : List Int}
    (h : (a = none ∧ len = 0 ∧ cap = 0 ∧ zs = []) ∨ ∃ x, a = some x ∧ len ≤ cap ∧ cap ≤ maxLen ∧ zs.length = cap ∧ (∀ i, i < zs.length → w.cell? (x.add i) = some (.int .u8 (zs.getD i 0))) ∧ ∀ n ∈ zs, (Lit.int .u8 n).wf = true) :
    Reads w (.slice a len cap) len ((zs.take len).map (Value.int .u8)) := by
  rcases h with ⟨rfl, rfl, rfl, rfl⟩ | ⟨x, rfl, h1, h2, h3, h4, h5⟩
  · exact ⟨rfl, .inl ⟨rfl, _, _, rfl⟩⟩
  · refine ⟨by simp; omega, ?_⟩
    by_cases h0 : len = 0
    · subst h0
      exact .inl ⟨rfl, _, _, rfl⟩
    · obtain ⟨b, off, spot⟩ := x
      have hspot : spot = none := by simpa [Addr.add] using World.cell?_spot (h4 0 (by omega))
      subst hspot
      have hadd : ∀ i, (⟨b, off, none⟩ : Addr).add i = ⟨b, off + i, none⟩ := fun i => by unfold Addr.add; split <;> simp_all
      refine .inr ⟨b, off, cap, rfl, fun j u hj => ?_⟩
      rw [List.getElem?_map, List.getElem?_take] at hj
      by_cases hjl : j < len
      · rw [if_pos hjl, List.getElem?_eq_getElem (by omega)] at hj
        have hc := h4 j (by omega)
        rw [hadd, List.getD_eq_getElem?_getD, List.getElem?_eq_getElem (by omega)] at hc
        rw [hc]
        simpa using hj
      · rw [if_neg hjl] at hj
        cases hj
end Go.Proofs.Ytkblcoiiloiohae
