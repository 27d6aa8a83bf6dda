/- NumMath: what is put is got; a turned bit turns the sum. -/
import Derived.Test.YtkblcoiiloiohaaDoorPutNumber
import Derived.Test.YtkblcoiiloiohaaDoorGetNumber
import Derived.Test.YtkblcoiiloiohaaDoorCrc
namespace Go.Proofs.YtkblcoiiloiohaaDoor
open Go.ChangeShapes Go.WideShapes Go.ChangeAt Go.RowKit
set_option linter.unusedVariables false

theorem or_u64 (x y : Nat) (hx : x < 18446744073709551616) (hy : y < 18446744073709551616) : bits .or .u64 (x : Int) (y : Int) = ((x ||| y : Nat) : Int) := by
  show (((BitVec.ofInt 64 (x : Int) ||| BitVec.ofInt 64 (y : Int)).toNat : Nat) : Int) % 2 ^ 64 = _
  rw [BitVec.ofInt_natCast, BitVec.ofInt_natCast, BitVec.toNat_or, BitVec.toNat_ofNat, BitVec.toNat_ofNat, Nat.mod_eq_of_lt hx, Nat.mod_eq_of_lt hy]
  have := Nat.or_lt_two_pow (n := 64) hx hy
  omega
/-- The bytes that are put, behind others, make the number again. -/
theorem getAcc_num (zs : List Int) (v : Int) (p : Nat) : ∀ n, n ≤ 8 → (∀ i, i < n → zs[p + i]? = some (v / 2 ^ (8 * i) % 256)) → getAcc zs p n = v % 2 ^ (8 * n)
  | 0, _, _ => by simp [getAcc]
  | n + 1, hn, h => by
    have ih := getAcc_num zs v p n (by omega) (fun i hi => h i (by omega))
    unfold getAcc
    rw [ih, h n (by omega)]
    have hPn : (2 : Nat) ^ (8 * n) ≤ 2 ^ 56 := Nat.pow_le_pow_right (by decide) (by omega)
    have hP0 : (0 : Nat) < 2 ^ (8 * n) := Nat.pow_pos (by decide)
    have hcast : ((2 ^ (8 * n) : Nat) : Int) = 2 ^ (8 * n) := by simp
    have hP : (0 : Int) < 2 ^ (8 * n) := Int.pow_pos (by decide)
    have hb0 := Int.emod_nonneg (v / 2 ^ (8 * n)) (show (256 : Int) ≠ 0 by decide)
    have hb1 := Int.emod_lt_of_pos (v / 2 ^ (8 * n)) (show (0 : Int) < 256 by decide)
    have hm0 := Int.emod_nonneg v (show (2 : Int) ^ (8 * n) ≠ 0 by omega)
    have hm1 := Int.emod_lt_of_pos v hP
    have hv : v = 2 ^ (8 * n) * (v / 2 ^ (8 * n)) + v % 2 ^ (8 * n) := (Int.mul_ediv_add_emod v _).symm
    have ha : v / 2 ^ (8 * n) = 256 * (v / 2 ^ (8 * n) / 256) + v / 2 ^ (8 * n) % 256 := (Int.mul_ediv_add_emod _ _).symm
    have hpow : (2 : Int) ^ (8 * (n + 1)) = 2 ^ (8 * n) * 256 := by rw [show 8 * (n + 1) = 8 * n + 8 by omega, Int.pow_add]; rfl
    have hsplit : v % 2 ^ (8 * (n + 1)) = 2 ^ (8 * n) * (v / 2 ^ (8 * n) % 256) + v % 2 ^ (8 * n) := by
      rw [hpow]
      generalize v / 2 ^ (8 * n) % 256 = c at *
      generalize v % 2 ^ (8 * n) = m at *
      generalize v / 2 ^ (8 * n) / 256 = b at *
      have e : v = (2 ^ (8 * n) * c + m) + 2 ^ (8 * n) * 256 * b := by
        rw [hv, ha, Int.mul_add, ← Int.mul_assoc, Int.add_assoc, Int.add_comm]
      have hle : (2 : Int) ^ (8 * n) * c ≤ 2 ^ (8 * n) * 255 := Int.mul_le_mul_of_nonneg_left (by omega) (Int.le_of_lt hP)
      have hge : 0 ≤ (2 : Int) ^ (8 * n) * c := Int.mul_nonneg (Int.le_of_lt hP) hb0
      rw [e, Int.add_mul_emod_self_left]
      generalize (2 : Int) ^ (8 * n) * c = q at *
      generalize (2 : Int) ^ (8 * n) = P at *
      exact Int.emod_eq_of_lt (by omega) (by omega)
    rw [hsplit]
    obtain ⟨x, hx⟩ := Int.eq_ofNat_of_zero_le hm0
    obtain ⟨c, hc⟩ := Int.eq_ofNat_of_zero_le hb0
    rw [hx] at hm1 ⊢
    rw [hc] at hb1 ⊢
    have hc' : c < 256 := by omega
    have hx' : x < 2 ^ (8 * n) := by
      have : (x : Int) < ((2 ^ (8 * n) : Nat) : Int) := by rw [hcast]; exact hm1
      omega
    have hcP : c * 2 ^ (8 * n) ≤ 255 * 2 ^ 56 := Nat.mul_le_mul (by omega) hPn
    have w1 : IntKind.u64.wrap ((some (c : Int)).getD 0) = (c : Int) := by
      show (c : Int) % 2 ^ 64 = c
      omega
    have w2 : IntKind.u64.wrap ((c : Int) * 2 ^ (8 * n)) = ((c * 2 ^ (8 * n) : Nat) : Int) := by
      show (c : Int) * 2 ^ (8 * n) % 2 ^ 64 = _
      rw [← hcast, ← Int.natCast_mul]
      generalize c * 2 ^ (8 * n) = q at *
      omega
    rw [w1, w2, or_u64 x (c * 2 ^ (8 * n)) (by omega) (by omega), Nat.or_comm, Nat.mul_comm c, ← Nat.two_pow_add_eq_or_of_lt hx' c]
    simp

theorem crcS_top (a : W32) : (crcS a).getLsbD 31 = a.getLsbD 0 := by
  unfold crcS
  rw [BitVec.getLsbD_xor, BitVec.getLsbD_ushiftRight, BitVec.getLsbD_of_ge a (1 + 31) (by omega)]
  cases a.getLsbD 0 <;> decide
theorem crcS_inj {a b : W32} (h : crcS a = crcS b) : a = b := by
  have h0 : a.getLsbD 0 = b.getLsbD 0 := by rw [← crcS_top, ← crcS_top, h]
  have h1 : a >>> 1 = b >>> 1 := by
    unfold crcS at h
    rw [h0] at h
    exact (BitVec.xor_left_inj _).1 h
  apply BitVec.eq_of_getLsbD_eq
  intro i hi
  rcases Nat.eq_zero_or_pos i with rfl | hp
  · exact h0
  · have h2 := congrArg (fun r => BitVec.getLsbD r (i - 1)) h1
    simp only [BitVec.getLsbD_ushiftRight] at h2
    rwa [show 1 + (i - 1) = i by omega] at h2
theorem crcN_inj : ∀ (n : Nat) {a b : W32}, crcN n a = crcN n b → a = b
  | 0, _, _, h => h
  | n + 1, _, _, h => crcN_inj n (crcS_inj h)
theorem nibS_inj {a b : W32} (h : nibS a = nibS b) : a = b := by
  rw [nibS_eq, nibS_eq] at h
  exact crcN_inj 4 h
theorem crcTo_turn (zs zs' : List Int) (t : Nat) (hne : BitVec.ofInt 32 (zs.getD t 0) ≠ BitVec.ofInt 32 (zs'.getD t 0)) (hs : ∀ j, j ≠ t → zs.getD j 0 = zs'.getD j 0) :
    ∀ m, (m ≤ t → crcTo zs m = crcTo zs' m) ∧ (t < m → crcTo zs m ≠ crcTo zs' m)
  | 0 => ⟨fun _ => rfl, fun h => by omega⟩
  | m + 1 => by
    have ih := crcTo_turn zs zs' t hne hs m
    constructor
    · intro h
      unfold crcTo
      rw [ih.1 (by omega), hs m (by omega)]
    · intro h e
      unfold crcTo at e
      have e2 := nibS_inj (nibS_inj e)
      by_cases hm : m = t
      · subst hm
        rw [ih.1 (Nat.le_refl _)] at e2
        exact hne ((BitVec.xor_right_inj _).1 e2)
      · rw [hs m hm] at e2
        exact ih.2 (by omega) ((BitVec.xor_left_inj _).1 e2)
theorem xor8 (x y : Int) (hx : 0 ≤ x) (hx' : x ≤ 255) (hy : 1 ≤ y) (hy' : y ≤ 255) : bits .xor .u8 x y ≠ x ∧ 0 ≤ bits .xor .u8 x y ∧ bits .xor .u8 x y ≤ 255 := by
  have e : bits .xor .u8 x y = ((BitVec.ofInt 8 x ^^^ BitVec.ofInt 8 y).toNat : Int) := by
    show ((BitVec.ofInt 8 x ^^^ BitVec.ofInt 8 y).toNat : Int) % 256 = _
    have := (BitVec.ofInt 8 x ^^^ BitVec.ofInt 8 y).isLt
    omega
  have hlt := (BitVec.ofInt 8 x ^^^ BitVec.ofInt 8 y).isLt
  rw [e]
  refine ⟨fun h => ?_, by omega, by omega⟩
  have hx2 : ((BitVec.ofInt 8 x).toNat : Int) = x := by rw [BitVec.toNat_ofInt]; omega
  have h2 : BitVec.ofInt 8 x ^^^ BitVec.ofInt 8 y = BitVec.ofInt 8 x ^^^ 0#8 := by
    rw [BitVec.xor_zero]
    apply BitVec.eq_of_toNat_eq
    omega
  have h3 := congrArg BitVec.toNat ((BitVec.xor_right_inj _).1 h2)
  rw [BitVec.toNat_ofInt] at h3
  simp at h3
  omega
theorem ofInt_ne {x y : Int} (h : x ≠ y) (hx : 0 ≤ x) (hx' : x ≤ 255) (hy : 0 ≤ y) (hy' : y ≤ 255) : BitVec.ofInt 32 x ≠ BitVec.ofInt 32 y := by
  intro e
  have := congrArg BitVec.toNat e
  rw [BitVec.toNat_ofInt, BitVec.toNat_ofInt] at this
  omega
/-- The sum of the nine digits. -/
theorem crc_digits : toI (~~~(crcTo [49, 50, 51, 52, 53, 54, 55, 56, 57] 9)) = 3421780262 := by decide
theorem crc_none (zs : List Int) : toI (~~~(crcTo zs 0)) = 0 := by
  show toI (~~~4294967295#32) = 0
  decide
theorem numL_one (v : Int) (N : Nat) : ∀ u ∈ numL v N, u.oneCell' = true := by
  intro u hu
  unfold numL at hu
  obtain ⟨i, _, rfl⟩ := List.mem_map.1 hu
  rfl
theorem cells_keep {w w' : World} {g : Nat} {xs : List Value} (h : ∀ j u, xs[j]? = some u → w.cell? ((⟨g, 0, none⟩ : Addr).add j) = some u) (hb : Below w.heap.size w w') : ∀ j u, xs[j]? = some u → w'.cell? ((⟨g, 0, none⟩ : Addr).add j) = some u := by
  intro j u hj
  have h1 := h j u hj
  rw [hb.cell (block_lt_of_cell h1)]
  exact h1
theorem own_cap {w : World} {base : Nat} {e : TypeId} {s : Value} {n : Nat} {xs : List Value} (h : w.ownsRow base e 1 s n xs) : ∀ a c, s = .slice a n c → n ≤ c := by
  intro a c hs
  rcases h.2 with ⟨_, rfl⟩ | ⟨g, cap, cur, rfl, _, _, hnc, _⟩
  · exact Nat.zero_le _
  · injection hs with _ _ h3
    omega
/-- What is put behind K zeros, and 7 behind it, is got again. -/
theorem num_back (v : Int) (K N : Nat) (hN : N ≤ 8) : ∃ zs : List Int, ((madeCells (Value.int .u8 0).cells (K * 1)).toList ++ numL v N) ++ [.int .u8 7] = zs.map (Value.int .u8) ∧ getAcc zs K N = v % 2 ^ (8 * N) := by
  have hz : (madeCells (Value.int .u8 0).cells (K * 1)).toList = (List.replicate K (0 : Int)).map (Value.int .u8) := by
    apply List.ext_getElem
    · simp [madeCells]
    · intro i h1 h2
      simp [madeCells, Value.cells, Nat.mod_one]
  refine ⟨(List.replicate K (0 : Int) ++ (List.range N).map fun (i : Nat) => v / 2 ^ (8 * i) % 256) ++ [7], ?_, ?_⟩
  · rw [hz]
    simp [numL]
  · apply getAcc_num _ v K N hN
    intro i hi
    rw [List.append_assoc, List.getElem?_append_right (by simp)]
    simp only [List.length_replicate, Nat.add_sub_cancel_left]
    rw [List.getElem?_append_left (by simpa using hi)]
    simp [hi]
end Go.Proofs.YtkblcoiiloiohaaDoor
