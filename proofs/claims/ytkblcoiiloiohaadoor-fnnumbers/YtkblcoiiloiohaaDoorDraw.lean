/- Draw: the source of drawn numbers: l1Next. -/
import Derived.Test.YtkblcoiiloiohaaDoorRows
import Derived.WalkKit
import Derived.ProofKit
import Derived.OpenShut
import Derived.Below
import Derived.Outline
import Derived.WalkLawsBesides
import Derived.Deep.QuietTactic
import Derived.BigQuiet
namespace Go.Proofs.YtkblcoiiloiohaaDoor
open Go.ChangeShapes Go.WideShapes Go.ChangeAt Go.RowKit
set_option linter.unusedVariables false

/-- The bytes of a code that came in lie in a block below g. -/
def CodeAt (w : World) (g : Nat) (a : Option Addr) (len : Nat) : Prop :=
  len = 0 ∨ ∃ b off, a = some ⟨b, off, none⟩ ∧ b < g ∧ ∀ i, i < len → ∃ v : Int, 0 ≤ v ∧ v ≤ 255 ∧ w.cell? ⟨b, off + i, none⟩ = some (.int .u8 v)

/-- A source: three cells at block g. -/
structure Src (w : World) (g : Nat) (a : Option Addr) (len cap : Nat) (p : Int) : Prop where
  code : w.cell? ⟨g, 0, none⟩ = some (.slice a len cap)
  place : w.cell? ⟨g, 1, none⟩ = some (.int .i64 p)
  size : ∃ sz : Int, 0 ≤ sz ∧ sz ≤ 12 ∧ w.cell? ⟨g, 2, none⟩ = some (.int .i64 sz)
  free : w.frozen? ⟨g, 1, none⟩ = false
  low : 0 ≤ p
  high : p ≤ 1000000000000
  len_le : len ≤ 140737488355328
  bytes : CodeAt w g a len

set_option maxHeartbeats 1000000 in
theorem l1Next_0 {w : World} {g : Nat} {a : Option Addr} {cap : Nat} {p n : Int} (h : Src w g a 0 cap p) (hn : 1 ≤ n) (hn' : n ≤ 1000000) :
    Calls Tryd.prog 12 #[.pointer (some ⟨g, 0, none⟩), .int .i64 n] w fun e w' => ∃ (r : Int) (nq : Nat), 0 ≤ r ∧ r < n ∧ e = .returned (.int .i64 r) ∧ w' = (w.setCell ⟨g, 1, none⟩ (.int .i64 (p + 1))).drewN nq := by
  obtain ⟨hc, hp, _, hf, h0, h1, _, _⟩ := h
  have hr0 := Int.emod_nonneg (p * 7) (show n ≠ 0 by omega)
  have hr1 := Int.emod_lt_of_pos (p * 7) (show 0 < n by omega)
  go_enter Tryd.func12, Tryd.ntmps12
  go_wp2
  go_ret
  exact ⟨_, 0, hr0, hr1, rfl, rfl⟩
set_option maxHeartbeats 1000000 in
theorem l1Next_1 {w : World} {g : Nat} {b off len cap : Nat} {p n v : Int} (h : Src w g (some ⟨b, off, none⟩) len cap p) (hl : 0 < len) (hbg : b < g) (hn : 1 ≤ n) (hn' : n ≤ 200)
    (hv : 0 ≤ v) (hv' : v ≤ 255) (hcell : w.cell? ⟨b, off + (p % len).toNat, none⟩ = some (.int .u8 v)) :
    Calls Tryd.prog 12 #[.pointer (some ⟨g, 0, none⟩), .int .i64 n] w fun e w' => ∃ (r : Int) (nq : Nat), 0 ≤ r ∧ r < n ∧ e = .returned (.int .i64 r) ∧ w' = (w.setCell ⟨g, 1, none⟩ (.int .i64 (p + 1))).drewN nq := by
  obtain ⟨hc, hp, _, hf, h0, h1, hlm, _⟩ := h
  have hm0 := Int.emod_nonneg p (show (len : Int) ≠ 0 by omega)
  have hm1 := Int.emod_lt_of_pos p (show 0 < (len : Int) by omega)
  have hl0 : ((len : Int) == 0) = false := by simp; omega
  have hne : ¬ b = g := by omega
  have hd0 : 0 ≤ p / (len : Int) := Int.ediv_nonneg h0 (by omega)
  have hd1 : p / (len : Int) ≤ 1000000000000 := Int.le_trans (Int.ediv_le_self _ h0) h1
  have hx0 := Int.emod_nonneg (v + p / (len : Int) * 37) (show n ≠ 0 by omega)
  have hx1 := Int.emod_lt_of_pos (v + p / (len : Int) * 37) (show 0 < n by omega)
  go_enter Tryd.func12, Tryd.ntmps12
  go_wp2
  go_quiet (fail)
  go_wp2
  go_ret
  exact ⟨_, nq, hx0, hx1, rfl, rfl⟩
set_option maxHeartbeats 1000000 in
theorem l1Next_2 {w : World} {g : Nat} {b off len cap : Nat} {p n v u : Int} (h : Src w g (some ⟨b, off, none⟩) len cap p) (hl : 0 < len) (hbg : b < g) (hn : 200 < n) (hn' : n ≤ 1000000)
    (hv : 0 ≤ v) (hv' : v ≤ 255) (hcell : w.cell? ⟨b, off + (p % len).toNat, none⟩ = some (.int .u8 v)) (hu : 0 ≤ u) (hu' : u ≤ 255) (hcell2 : w.cell? ⟨b, off + ((p + 1) % len).toNat, none⟩ = some (.int .u8 u)) :
    Calls Tryd.prog 12 #[.pointer (some ⟨g, 0, none⟩), .int .i64 n] w fun e w' => ∃ (r : Int) (nq : Nat), 0 ≤ r ∧ r < n ∧ e = .returned (.int .i64 r) ∧ w' = (w.setCell ⟨g, 1, none⟩ (.int .i64 (p + 1))).drewN nq := by
  obtain ⟨hc, hp, _, hf, h0, h1, hlm, _⟩ := h
  have hm0 := Int.emod_nonneg p (show (len : Int) ≠ 0 by omega)
  have hm1 := Int.emod_lt_of_pos p (show 0 < (len : Int) by omega)
  have hm2 := Int.emod_nonneg (p + 1) (show (len : Int) ≠ 0 by omega)
  have hm3 := Int.emod_lt_of_pos (p + 1) (show 0 < (len : Int) by omega)
  have hl0 : ((len : Int) == 0) = false := by simp; omega
  have hne : ¬ b = g := by omega
  have hd0 : 0 ≤ p / (len : Int) := Int.ediv_nonneg h0 (by omega)
  have hd1 : p / (len : Int) ≤ 1000000000000 := Int.le_trans (Int.ediv_le_self _ h0) h1
  have hx0 := Int.emod_nonneg ((v + p / (len : Int) * 37) * 251 + u * 13 + p) (show n ≠ 0 by omega)
  have hx1 := Int.emod_lt_of_pos ((v + p / (len : Int) * 37) * 251 + u * 13 + p) (show 0 < n by omega)
  go_enter Tryd.func12, Tryd.ntmps12
  go_wp2
  go_quiet (fail)
  go_wp2
  go_quiet (fail)
  go_wp2
  go_ret
  exact ⟨_, _, hx0, hx1, rfl, rfl⟩
end Go.Proofs.YtkblcoiiloiohaaDoor
