/- NumMath2: masks. -/
import Derived.Test.YtkblcoiiloiohaaDoorNumMath
namespace Go.Proofs.YtkblcoiiloiohaaDoor
open Go.ChangeShapes Go.WideShapes Go.ChangeAt Go.RowKit
set_option linter.unusedVariables false
theorem and_u64 (x y : Nat) (hx : x < 18446744073709551616) (hy : y < 18446744073709551616) : bits .and .u64 (x : Int) (y : Int) = ((x &&& y : Nat) : Int) := by
  show (((BitVec.ofInt 64 (x : Int) &&& BitVec.ofInt 64 (y : Int)).toNat : Nat) : Int) % 2 ^ 64 = _
  rw [BitVec.ofInt_natCast, BitVec.ofInt_natCast, BitVec.toNat_and, BitVec.toNat_ofNat, BitVec.toNat_ofNat, Nat.mod_eq_of_lt hx, Nat.mod_eq_of_lt hy]
  have : x &&& y ≤ x := Nat.and_le_left
  omega
theorem u64w (x : Int) : IntKind.u64.wrap x = x % 18446744073709551616 := rfl
theorem u64w_small {x : Int} (h : 0 ≤ x) (h' : x < 18446744073709551616) : IntKind.u64.wrap x = x := by
  rw [u64w]
  exact Int.emod_eq_of_lt h h'
theorem w64_small {x : Int} (h : 0 ≤ x) (h' : x < 9223372036854775808) : wrap64 x = x := by
  unfold wrap64; omega
theorem pow_nat (N : Nat) : ((2 ^ (8 * N) : Nat) : Int) = 2 ^ (8 * N) := by simp
theorem pow_dvd64 (N : Nat) (hN : N ≤ 7) : (2 : Int) ^ (8 * N) ∣ 18446744073709551616 := by
  have h : (18446744073709551616 : Int) = 2 ^ (8 * N) * 2 ^ (64 - 8 * N) := by
    rw [← Int.pow_add, show 8 * N + (64 - 8 * N) = 64 by omega]
    rfl
  rw [h]
  exact Int.dvd_mul_right _ _
theorem mask_step (x N : Nat) (hN : N ≤ 7) (hx : x < 18446744073709551616) : bits .and .u64 (x : Int) ((2 ^ (8 * N) - 1 : Nat) : Int) = ((x % 2 ^ (8 * N) : Nat) : Int) := by
  have hPn : (2 : Nat) ^ (8 * N) ≤ 2 ^ 56 := Nat.pow_le_pow_right (by decide) (by omega)
  rw [and_u64 x (2 ^ (8 * N) - 1) hx (by omega), Nat.and_two_pow_sub_one_eq_mod]
theorem mask_num (N : Nat) (hN : N ≤ 7) : IntKind.u64.wrap (IntKind.u64.wrap (2 ^ (8 * N)) - 1) = ((2 ^ (8 * N) - 1 : Nat) : Int) := by
  have hPn : (2 : Nat) ^ (8 * N) ≤ 2 ^ 56 := Nat.pow_le_pow_right (by decide) (by omega)
  have hP0 : (0 : Nat) < 2 ^ (8 * N) := Nat.pow_pos (by decide)
  rw [← pow_nat]
  generalize (2 : Nat) ^ (8 * N) = P at *
  have e : IntKind.u64.wrap (P : Int) = P := u64w_small (by omega) (by omega)
  rw [e, u64w_small (by omega) (by omega)]
  omega
theorem mask_ok (v : Int) (N : Nat) (hN : N ≤ 7) : IntKind.u64.wrap (wrap64 (v % 2 ^ (8 * N))) = bits .and .u64 (IntKind.u64.wrap v) (IntKind.u64.wrap (IntKind.u64.wrap (2 ^ (8 * N)) - 1)) := by
  have hPn : (2 : Nat) ^ (8 * N) ≤ 2 ^ 56 := Nat.pow_le_pow_right (by decide) (by omega)
  have hP0 : (0 : Nat) < 2 ^ (8 * N) := Nat.pow_pos (by decide)
  have e1 : v % 2 ^ (8 * N) = v % 18446744073709551616 % 2 ^ (8 * N) := (Int.emod_emod_of_dvd v (pow_dvd64 N hN)).symm
  have h0 := Int.emod_nonneg v (show (18446744073709551616 : Int) ≠ 0 by omega)
  have h1 := Int.emod_lt_of_pos v (show (0 : Int) < 18446744073709551616 by omega)
  rw [mask_num N hN, u64w v, e1]
  generalize v % 18446744073709551616 = y at *
  obtain ⟨x, rfl⟩ := Int.eq_ofNat_of_zero_le h0
  rw [mask_step x N hN (by omega)]
  have hm : (x : Int) % 2 ^ (8 * N) = ((x % 2 ^ (8 * N) : Nat) : Int) := by rw [← pow_nat]; exact (Int.natCast_emod x (2 ^ (8 * N))).symm
  have hml : x % 2 ^ (8 * N) < 2 ^ (8 * N) := Nat.mod_lt _ hP0
  rw [hm]
  generalize x % 2 ^ (8 * N) = m at *
  generalize (2 : Nat) ^ (8 * N) = P at *
  rw [w64_small (by omega) (by omega), u64w_small (by omega) (by omega)]
theorem whole_ok (v : Int) (N : Nat) (hN : N = 8) (h0 : -9223372036854775808 ≤ v) (h1 : v ≤ 9223372036854775807) : wrap64 (v % 2 ^ (8 * N)) = v := by
  have e : (2 : Int) ^ (8 * N) = 18446744073709551616 := by
    rw [hN]
    rfl
  rw [e]
  unfold wrap64
  omega
theorem own_empty (w : World) (e : TypeId) : (w.alloc (.cells #[] e)).ownsRow w.heap.size e 1 (.slice (some ⟨w.heap.size, 0, none⟩) 0 0) 0 [] :=
  ⟨by simp, .inr ⟨w.heap.size, 0, #[], rfl, Nat.le_refl _, heap_alloc_new _ _, Nat.le_refl _, Nat.zero_le _, rfl, rfl⟩⟩
theorem map_one (zs : List Int) : ∀ u ∈ zs.map (Value.int .u8), u.oneCell' = true := ints_oneCell .u8 zs
theorem reads_cells {w w' : World} {g o : Nat} {xs : List Value} (h : ∀ j u, xs[j]? = some u → w.cell? ⟨g, o + j, none⟩ = some u) (hb : Below w.heap.size w w') : ∀ j u, xs[j]? = some u → w'.cell? ((⟨g, o, none⟩ : Addr).add j) = some u := by
  intro j u hj
  have hadd : (⟨g, o, none⟩ : Addr).add j = ⟨g, o + j, none⟩ := by unfold Addr.add; split <;> simp_all
  rw [hadd, hb.cell (block_lt_of_cell (h j u hj))]
  exact h j u hj
theorem getD_set (zs : List Int) (t j : Nat) (x : Int) (ht : t < zs.length) : (zs.set t x).getD j 0 = if j = t then x else zs.getD j 0 := by
  rw [List.getD_eq_getElem?_getD, List.getD_eq_getElem?_getD, List.getElem?_set]
  by_cases h : j = t
  · subst h
    simp [ht]
  · rw [if_neg (fun e => h e.symm), if_neg h]
theorem own_shape {w : World} {base : Nat} {e : TypeId} {s : Value} {n : Nat} {xs : List Value} (h : w.ownsRow base e 1 s n xs) (hn : ¬ n = 0) : ∃ g c, s = .slice (some ⟨g, 0, none⟩) n c ∧ base ≤ g := by
  rcases h.2 with ⟨_, h0⟩ | ⟨g, cap, cur, rfl, hb, _⟩
  · exact absurd h0 hn
  · exact ⟨g, cap, rfl, hb⟩
theorem shl_ok (r : Int) (h0 : 0 ≤ r) (h1 : r < 8) : 1 ≤ IntKind.u8.wrap (2 ^ min (IntKind.u64.wrap r).toNat 8) ∧ IntKind.u8.wrap (2 ^ min (IntKind.u64.wrap r).toNat 8) ≤ 255 := by
  rw [u64w_small h0 (by omega)]
  have h : r = 0 ∨ r = 1 ∨ r = 2 ∨ r = 3 ∨ r = 4 ∨ r = 5 ∨ r = 6 ∨ r = 7 := by omega
  rcases h with rfl | rfl | rfl | rfl | rfl | rfl | rfl | rfl <;> decide
/-- A turned byte turns the sum. -/
theorem crc_ne (zs : List Int) (m T : Nat) (X : Int) (hl : zs.length = m) (hT : T < m) (hb : ∀ j, 0 ≤ zs.getD j 0 ∧ zs.getD j 0 ≤ 255) (hX : X ≠ zs.getD T 0) (h0 : 0 ≤ X) (h1 : X ≤ 255) :
    (toI (~~~(crcTo zs m)) != toI (~~~(crcTo (zs.set T X) m))) = true := by
  have hset : ∀ j, (zs.set T X).getD j 0 = if j = T then X else zs.getD j 0 := fun j => getD_set zs T j X (by omega)
  have hc := (crcTo_turn zs (zs.set T X) T (by rw [hset, if_pos rfl]; exact ofInt_ne hX.symm (hb T).1 (hb T).2 h0 h1) (fun j hj => by rw [hset, if_neg hj]) m).2 hT
  rw [bne_iff_ne]
  intro e
  apply hc
  have e2 : ~~~(crcTo zs m) = ~~~(crcTo (zs.set T X) m) := by
    apply BitVec.eq_of_toNat_eq
    unfold toI at e
    omega
  have e3 := congrArg (fun r => ~~~r) e2
  simpa using e3
end Go.Proofs.YtkblcoiiloiohaaDoor
