/- Arith: plain facts on what the instructions compute. -/
import Derived.Test.YtkblcoiiloiohaaComputeAll
import Derived.Test.YtkblcoiiloiohaaConvert
namespace Go.Proofs.Ytkblcoiiloiohaa
open Go.ChangeShapes Go.WideShapes Go.ChangeAt Go.RowKit
set_option linter.unusedVariables false

theorem emod_mul_congr {a b c d M : Int} (h1 : a % M = c % M) (h2 : b % M = d % M) : a * b % M = c * d % M := by
  rw [Int.mul_emod, h1, h2, ← Int.mul_emod]

theorem c_add (t x y : Int) (ht : t = 2 ∨ t = 3) : implC 8 t x y = (x + y) % 4294967296 := by rcases ht with rfl | rfl <;> rfl
theorem c_sub (t x y : Int) (ht : t = 2 ∨ t = 3) : implC 9 t x y = (x - y) % 4294967296 := by rcases ht with rfl | rfl <;> rfl
theorem c_mul (t x y : Int) (ht : t = 2 ∨ t = 3) : implC 10 t x y = x * y % 4294967296 := by rcases ht with rfl | rfl <;> rfl
theorem c_div (t x y : Int) (ht : t = 2 ∨ t = 3) : implC 11 t x y = fDiv t x y := by rcases ht with rfl | rfl <;> rfl
theorem c_mod (t x y : Int) (ht : t = 2 ∨ t = 3) : implC 12 t x y = fMod t x y := by rcases ht with rfl | rfl <;> rfl
theorem c_less (t x y : Int) (ht : t = 2 ∨ t = 3) : implC 21 t x y = fLess t x y := by rcases ht with rfl | rfl <;> rfl
theorem c_eq (t x y : Int) (ht : t = 2 ∨ t = 3) : implC 20 t x y = word (x == y) := by rcases ht with rfl | rfl <;> rfl

theorem A1 (t x y : Int) (ht : t = 2 ∨ t = 3) (hx : 0 ≤ x) (hx' : x < 4294967296) : implC 9 t (implC 8 t x y) y = x := by
  rw [c_sub t _ _ ht, c_add t _ _ ht]
  omega
theorem A3 (t x : Int) (ht : t = 2 ∨ t = 3) : implC 11 t x 0 = 0 ∧ implC 12 t x 0 = 0 := by
  have hw : wrap32 0 = 0 := by unfold wrap32; omega
  rw [c_div t _ _ ht, c_mod t _ _ ht]
  rcases ht with rfl | rfl
  · constructor
    · show IntKind.u32.wrap (quoI (wrap32 x) (wrap32 0)) = 0
      rw [hw]; rfl
    · show IntKind.u32.wrap (rem (wrap32 x) (wrap32 0)) = 0
      rw [hw]; rfl
  · exact ⟨rfl, rfl⟩
theorem A2 (t x y : Int) (ht : t = 2 ∨ t = 3) (hx : 0 ≤ x) (hx' : x < 4294967296) (hy : 0 ≤ y) (hy' : y < 4294967296) (hn : y ≠ 0) :
    implC 8 t (implC 10 t (implC 11 t x y) y) (implC 12 t x y) = x := by
  rw [c_add t _ _ ht, c_mul t _ _ ht, c_div t _ _ ht, c_mod t _ _ ht]
  rcases ht with rfl | rfl
  · have hw : (wrap32 y == 0) = false := by unfold wrap32; simp; omega
    have h1 : fDiv 2 x y = (wrap32 ((wrap32 x).tdiv (wrap32 y))) % 4294967296 := by
      show IntKind.u32.wrap (quoI (wrap32 x) (wrap32 y)) = _
      unfold quoI
      rw [hw]; rfl
    have h2 : fMod 2 x y = ((wrap32 x).tmod (wrap32 y)) % 4294967296 := by
      show IntKind.u32.wrap (rem (wrap32 x) (wrap32 y)) = _
      unfold rem
      rw [hw]; rfl
    rw [h1, h2]
    have h3 : wrap32 ((wrap32 x).tdiv (wrap32 y)) % 4294967296 * y % 4294967296 = (wrap32 x).tdiv (wrap32 y) * wrap32 y % 4294967296 := by
      refine emod_mul_congr ?_ ?_
      · generalize (wrap32 x).tdiv (wrap32 y) = q
        unfold wrap32; omega
      · unfold wrap32; omega
    have h4 := Int.tdiv_mul_add_tmod (wrap32 x) (wrap32 y)
    rw [h3]
    generalize (wrap32 x).tdiv (wrap32 y) * wrap32 y = q at *
    generalize (wrap32 x).tmod (wrap32 y) = r at *
    unfold wrap32 at h4
    omega
  · have hw : (y == 0) = false := by simp; omega
    have h1 : fDiv 3 x y = (x.tdiv y) % 4294967296 := by
      show quoU x y = _
      unfold quoU
      rw [hw]; rfl
    have h2 : fMod 3 x y = x.tmod y := by
      show rem x y = _
      unfold rem
      rw [hw]; rfl
    rw [h1, h2]
    have h3 : x.tdiv y % 4294967296 * y % 4294967296 = x.tdiv y * y % 4294967296 := by
      refine emod_mul_congr ?_ rfl
      omega
    have h4 := Int.tdiv_mul_add_tmod x y
    rw [h3]
    generalize x.tdiv y * y = q at *
    generalize x.tmod y = r at *
    omega
theorem A4 (t x y : Int) (ht : t = 2 ∨ t = 3) (hx : 0 ≤ x) (hx' : x < 4294967296) (hy : 0 ≤ y) (hy' : y < 4294967296) :
    (implC 21 t x y = 1 ∧ implC 21 t y x = 0 ∧ implC 20 t x y = 0) ∨ (implC 21 t x y = 0 ∧ implC 21 t y x = 1 ∧ implC 20 t x y = 0) ∨ (implC 21 t x y = 0 ∧ implC 21 t y x = 0 ∧ implC 20 t x y = 1) := by
  rw [c_less t _ _ ht, c_less t _ _ ht, c_eq t _ _ ht]
  have hwd : ∀ b : Bool, (b = true → word b = 1) ∧ (b = false → word b = 0) := fun b => by cases b <;> simp [word]
  rcases ht with rfl | rfl
  · show (word (decide (wrap32 x < wrap32 y)) = 1 ∧ word (decide (wrap32 y < wrap32 x)) = 0 ∧ word (x == y) = 0) ∨ (word (decide (wrap32 x < wrap32 y)) = 0 ∧ word (decide (wrap32 y < wrap32 x)) = 1 ∧ word (x == y) = 0) ∨ (word (decide (wrap32 x < wrap32 y)) = 0 ∧ word (decide (wrap32 y < wrap32 x)) = 0 ∧ word (x == y) = 1)
    have hinj : wrap32 x = wrap32 y → x = y := by unfold wrap32; omega
    rcases Int.lt_trichotomy (wrap32 x) (wrap32 y) with h | h | h
    · have hne : x ≠ y := fun e => by rw [e] at h; omega
      exact .inl ⟨(hwd _).1 (by simpa using h), (hwd _).2 (by simp; omega), (hwd _).2 (by simpa using hne)⟩
    · exact .inr (.inr ⟨(hwd _).2 (by simp; omega), (hwd _).2 (by simp; omega), (hwd _).1 (by simpa using hinj h)⟩)
    · have hne : x ≠ y := fun e => by rw [e] at h; omega
      exact .inr (.inl ⟨(hwd _).2 (by simp; omega), (hwd _).1 (by simpa using h), (hwd _).2 (by simpa using hne)⟩)
  · show (word (decide (x < y)) = 1 ∧ word (decide (y < x)) = 0 ∧ word (x == y) = 0) ∨ (word (decide (x < y)) = 0 ∧ word (decide (y < x)) = 1 ∧ word (x == y) = 0) ∨ (word (decide (x < y)) = 0 ∧ word (decide (y < x)) = 0 ∧ word (x == y) = 1)
    rcases Int.lt_trichotomy x y with h | h | h
    · exact .inl ⟨(hwd _).1 (by simpa using h), (hwd _).2 (by simp; omega), (hwd _).2 (by simp; omega)⟩
    · exact .inr (.inr ⟨(hwd _).2 (by simp; omega), (hwd _).2 (by simp; omega), (hwd _).1 (by simpa using h)⟩)
    · exact .inr (.inl ⟨(hwd _).2 (by simp; omega), (hwd _).1 (by simpa using h), (hwd _).2 (by simp; omega)⟩)

/-! ### bits -/
theorem bits_and32 (x y : Int) : bits .and .u32 x y = ((BitVec.ofInt 32 x &&& BitVec.ofInt 32 y).toNat : Int) := by
  show ((BitVec.ofInt 32 x &&& BitVec.ofInt 32 y).toNat : Int) % 4294967296 = _
  have := (BitVec.ofInt 32 x &&& BitVec.ofInt 32 y).isLt
  omega
theorem bits_or32 (x y : Int) : bits .or .u32 x y = ((BitVec.ofInt 32 x ||| BitVec.ofInt 32 y).toNat : Int) := by
  show ((BitVec.ofInt 32 x ||| BitVec.ofInt 32 y).toNat : Int) % 4294967296 = _
  have := (BitVec.ofInt 32 x ||| BitVec.ofInt 32 y).isLt
  omega
theorem bits_xor32 (x y : Int) : bits .xor .u32 x y = ((BitVec.ofInt 32 x ^^^ BitVec.ofInt 32 y).toNat : Int) := by
  show ((BitVec.ofInt 32 x ^^^ BitVec.ofInt 32 y).toNat : Int) % 4294967296 = _
  have := (BitVec.ofInt 32 x ^^^ BitVec.ofInt 32 y).isLt
  omega
theorem ofInt_toNat (v : BitVec 32) : BitVec.ofInt 32 (v.toNat : Int) = v := by
  rw [BitVec.ofInt_natCast, BitVec.ofNat_toNat, BitVec.setWidth_eq]
theorem toNat_ofInt32 {x : Int} (hx : 0 ≤ x) (hx' : x < 4294967296) : ((BitVec.ofInt 32 x).toNat : Int) = x := by
  rw [BitVec.toNat_ofInt]
  omega
theorem B1 (x y : Int) : implC 15 3 (implC 13 3 x y) (implC 14 3 x y) = implC 15 3 x y := by
  show bits .xor .u32 (bits .and .u32 x y) (bits .or .u32 x y) = bits .xor .u32 x y
  rw [bits_xor32, bits_xor32, bits_and32, bits_or32, ofInt_toNat, ofInt_toNat]
  congr 2
  generalize BitVec.ofInt 32 x = a
  generalize BitVec.ofInt 32 y = b
  apply BitVec.eq_of_getLsbD_eq
  intro i hi
  simp only [BitVec.getLsbD_xor, BitVec.getLsbD_and, BitVec.getLsbD_or]
  cases a.getLsbD i <;> cases b.getLsbD i <;> rfl
theorem B2 (x : Int) (hx : 0 ≤ x) (hx' : x < 4294967296) : implC 16 3 (implC 16 3 x 0) 0 = x := by
  show bits .xor .u32 IntKind.u32.max (bits .xor .u32 IntKind.u32.max x) = x
  rw [bits_xor32, bits_xor32, ofInt_toNat, ← BitVec.xor_assoc, BitVec.xor_self, BitVec.zero_xor]
  exact toNat_ofInt32 hx hx'
theorem B3 (x : Int) (hx : 0 ≤ x) (hx' : x < 4294967296) : implC 17 3 x 32 = x := by
  show x * 2 ^ (bits .and .u32 32 31).toNat % 4294967296 = x
  have h : bits .and .u32 32 31 = 0 := by decide
  rw [h]
  simp; omega
theorem B4 (x : Int) : implC 19 0 x 0 = implC 9 3 0 x := by
  show -x % 4294967296 = (0 - x) % 4294967296
  rw [Int.zero_sub]
theorem B5 : implC 16 1 1 0 = 0 := rfl
theorem B6 (x : Int) : cvt 2 1 x = implC 16 1 (implC 20 3 x 0) 0 := by
  show word (x != 0) = word (word (x == 0) == 0)
  cases h : (x == 0)
  · have : (x != 0) = true := by simp [bne, h]
    rw [this]; rfl
  · have : (x != 0) = false := by simp [bne, h]
    rw [this]; rfl
end Go.Proofs.Ytkblcoiiloiohaa
