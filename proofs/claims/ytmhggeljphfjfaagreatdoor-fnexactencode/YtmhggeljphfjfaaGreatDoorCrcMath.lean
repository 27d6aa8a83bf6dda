/- CrcMath: the remainder bit by bit and by half bytes. -/
import Derived.Laws.Entries
namespace Go.Proofs.YtmhggeljphfjfaaGreatDoor
set_option linter.unusedVariables false

abbrev B32 := BitVec 32
def poly : B32 := 3988292384#32
/-- One step. -/
def crcS (r : B32) : B32 := (r >>> 1) ^^^ (if r.getLsbD 0 then poly else 0#32)
def crcN : Nat → B32 → B32
  | 0, r => r
  | n + 1, r => crcS (crcN n r)
theorem crcS_xor (a b : B32) : crcS (a ^^^ b) = crcS a ^^^ crcS b := by
  unfold crcS
  rw [BitVec.ushiftRight_xor_distrib, BitVec.getLsbD_xor]
  apply BitVec.eq_of_getLsbD_eq
  intro i hi
  simp only [BitVec.getLsbD_xor]
  cases a.getLsbD 0 <;> cases b.getLsbD 0 <;> simp [Bool.xor_comm, Bool.xor_left_comm]
theorem crcN_xor (n : Nat) (a b : B32) : crcN n (a ^^^ b) = crcN n a ^^^ crcN n b := by
  induction n with
  | zero => rfl
  | succ n ih => unfold crcN; rw [ih, crcS_xor]
theorem crcN_add (m n : Nat) (r : B32) : crcN (m + n) r = crcN m (crcN n r) := by
  induction m with
  | zero => rw [Nat.zero_add]; rfl
  | succ m ih => rw [Nat.succ_add]; unfold crcN; rw [ih]
/-- What has zeros at its foot is only shifted. -/
theorem crcN_high (n : Nat) (r : B32) (h : ∀ i, i < n → r.getLsbD i = false) : crcN n r = r >>> n := by
  induction n with
  | zero => simp [crcN]
  | succ n ih =>
    unfold crcN
    rw [ih fun i hi => h i (by omega)]
    unfold crcS
    have h0 : (r >>> n).getLsbD 0 = false := by simp [h n (by omega)]
    rw [h0]
    apply BitVec.eq_of_getLsbD_eq
    intro i hi
    simp [Nat.add_comm, Nat.add_left_comm]

def sumTab : List Int := [0, 498536548, 997073096, 651767980, 1994146192, 1802195444, 1303535960, 1342533948, 3988292384, 4027552580, 3604390888, 3412177804, 2607071920, 2262029012, 2685067896, 3183342108]
theorem tab_ok : ∀ k : Fin 16, crcN 4 (BitVec.ofNat 32 k.val) = BitVec.ofInt 32 (sumTab.getD k.val 0) := by decide
/-- The half byte's step. -/
def nibS (r : B32) : B32 := (r >>> 4) ^^^ BitVec.ofInt 32 (sumTab.getD (r &&& 15#32).toNat 0)
theorem low_lt (r : B32) : (r &&& 15#32).toNat < 16 := by
  rw [BitVec.toNat_and]
  have : (15#32).toNat = 15 := by decide
  rw [this]
  exact Nat.lt_succ_of_le Nat.and_le_right
theorem nibS_eq (r : B32) : nibS r = crcN 4 r := by
  have hs : r = (r &&& ~~~15#32) ^^^ (r &&& 15#32) := by
    apply BitVec.eq_of_getLsbD_eq
    intro i hi
    simp only [BitVec.getLsbD_xor, BitVec.getLsbD_and, BitVec.getLsbD_not, hi, decide_true, Bool.true_and]
    cases r.getLsbD i <;> cases (15#32).getLsbD i <;> rfl
  have hlow : r &&& 15#32 = BitVec.ofNat 32 (r &&& 15#32).toNat := by simp
  have h1 : crcN 4 (r &&& ~~~15#32) = r >>> 4 := by
    rw [crcN_high]
    · apply BitVec.eq_of_getLsbD_eq
      intro i hi
      rw [BitVec.getLsbD_ushiftRight, BitVec.getLsbD_ushiftRight, BitVec.getLsbD_and, BitVec.getLsbD_not]
      have : (15#32).getLsbD (4 + i) = false := by
        rw [BitVec.getLsbD_ofNat, Nat.testBit_lt_two_pow (Nat.lt_of_lt_of_le (show 15 < 2 ^ 4 by decide) (Nat.pow_le_pow_right (by decide) (by omega)))]
        simp
      rw [this]
      by_cases h : 4 + i < 32
      · simp [h]
      · simp [BitVec.getLsbD_of_ge _ _ (show 32 ≤ 4 + i by omega)]
    · intro i hi
      have hc : i = 0 ∨ i = 1 ∨ i = 2 ∨ i = 3 := by omega
      rcases hc with rfl | rfl | rfl | rfl <;> simp
  have h2 : crcN 4 (r &&& 15#32) = BitVec.ofInt 32 (sumTab.getD (r &&& 15#32).toNat 0) := by
    have := tab_ok ⟨(r &&& 15#32).toNat, low_lt r⟩
    rw [← this, ← hlow]
  conv => rhs; rw [hs]
  rw [crcN_xor, h1, h2]
  rfl
/-- A bit is taken in. -/
def bitS (r : B32) (b : Bool) : B32 := (r >>> 1) ^^^ (if (b != r.getLsbD 0) then poly else 0#32)
/-- The first k bits of x are taken in. -/
def bitsS (r x : B32) : Nat → B32
  | 0 => r
  | k + 1 => bitS (bitsS r x k) (x.getLsbD k)
theorem bitS_eq (r : B32) (b : Bool) : bitS r b = crcS (r ^^^ (if b then 1#32 else 0#32)) := by
  unfold bitS crcS
  rw [BitVec.ushiftRight_xor_distrib, BitVec.getLsbD_xor]
  cases b
  · simp
  · cases h : r.getLsbD 0 <;> simp
theorem bitsS_inv (r x : B32) (k : Nat) : bitsS r x k ^^^ (x >>> k) = crcN k (r ^^^ x) := by
  induction k with
  | zero => simp [bitsS, crcN]
  | succ k ih =>
    unfold bitsS crcN
    have h0 : ((x >>> k) ^^^ (if x.getLsbD k then 1#32 else 0#32)).getLsbD 0 = false := by
      rw [BitVec.getLsbD_xor, BitVec.getLsbD_ushiftRight]
      cases h : x.getLsbD k
      · simp
      · simp
    have h1 : (if x.getLsbD k then 1#32 else 0#32) >>> 1 = 0#32 := by cases x.getLsbD k <;> decide
    have hz : crcS ((x >>> k) ^^^ (if x.getLsbD k then 1#32 else 0#32)) = x >>> (k + 1) := by
      unfold crcS
      rw [h0, BitVec.ushiftRight_xor_distrib, h1]
      apply BitVec.eq_of_getLsbD_eq
      intro i hi
      simp [Nat.add_comm, Nat.add_left_comm]
    have e : bitsS r x k ^^^ (x >>> k) = (bitsS r x k ^^^ (if x.getLsbD k then 1#32 else 0#32)) ^^^ ((x >>> k) ^^^ (if x.getLsbD k then 1#32 else 0#32)) := by
      generalize (if x.getLsbD k then 1#32 else 0#32) = b
      apply BitVec.eq_of_getLsbD_eq
      intro i hi
      simp only [BitVec.getLsbD_xor]
      cases (bitsS r x k).getLsbD i <;> cases (x >>> k).getLsbD i <;> cases b.getLsbD i <;> rfl
    rw [← ih, e, crcS_xor, hz, bitS_eq]
theorem bits8 (r x : B32) (hx : x.toNat < 256) : bitsS r x 8 = nibS (nibS (r ^^^ x)) := by
  have h := bitsS_inv r x 8
  have h0 : x >>> 8 = 0#32 := by
    apply BitVec.eq_of_toNat_eq
    rw [BitVec.toNat_ushiftRight, Nat.shiftRight_eq_div_pow]
    simp; omega
  rw [h0, BitVec.xor_zero] at h
  rw [h, nibS_eq, nibS_eq, ← crcN_add]
end Go.Proofs.YtmhggeljphfjfaaGreatDoor
