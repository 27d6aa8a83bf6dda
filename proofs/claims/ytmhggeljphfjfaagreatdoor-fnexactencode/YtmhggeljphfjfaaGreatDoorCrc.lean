/- Crc: both contracts. -/
import Derived.Test.YtmhggeljphfjfaaGreatDoorCrcMath
import Derived.Test.YtmhggeljphfjfaaGreatDoorByteS
namespace Go.Proofs.YtmhggeljphfjfaaGreatDoor
open Go.ChangeShapes Go.WideShapes Go.ChangeAt Go.RowKit
set_option linter.unusedVariables false

def toI (r : B32) : Int := (r.toNat : Int)
theorem toI_bd (r : B32) : 0 ≤ toI r ∧ toI r < 4294967296 := by
  have := r.isLt
  unfold toI; omega
theorem ofInt_toI (r : B32) : BitVec.ofInt 32 (toI r) = r := by
  unfold toI
  rw [BitVec.ofInt_natCast, BitVec.ofNat_toNat, BitVec.setWidth_eq]
theorem toI_ofInt {x : Int} (hx : 0 ≤ x) (hx' : x < 4294967296) : toI (BitVec.ofInt 32 x) = x := by
  unfold toI
  rw [BitVec.toNat_ofInt]
  omega
theorem xor_toI (x y : Int) : bits .xor .u32 x y = toI (BitVec.ofInt 32 x ^^^ BitVec.ofInt 32 y) := by
  show ((BitVec.ofInt 32 x ^^^ BitVec.ofInt 32 y).toNat : Int) % 4294967296 = _
  have := (BitVec.ofInt 32 x ^^^ BitVec.ofInt 32 y).isLt
  unfold toI; omega
theorem and_toI (x y : Int) : bits .and .u32 x y = toI (BitVec.ofInt 32 x &&& BitVec.ofInt 32 y) := by
  show ((BitVec.ofInt 32 x &&& BitVec.ofInt 32 y).toNat : Int) % 4294967296 = _
  have := (BitVec.ofInt 32 x &&& BitVec.ofInt 32 y).isLt
  unfold toI; omega
theorem shr_toI (r : B32) (k : Nat) : toI r / 2 ^ k = toI (r >>> k) := by
  unfold toI
  rw [BitVec.toNat_ushiftRight, Nat.shiftRight_eq_div_pow]
  simp
theorem low_toI (r : B32) : bits .and .u32 (toI r) 1 = if r.getLsbD 0 then 1 else 0 := by
  rw [and_toI, ofInt_toI]
  have h : r &&& BitVec.ofInt 32 1 = if r.getLsbD 0 then 1#32 else 0#32 := by
    apply BitVec.eq_of_getLsbD_eq
    intro i hi
    rw [BitVec.getLsbD_and]
    have e : (BitVec.ofInt 32 1) = 1#32 := by decide
    rw [e, BitVec.getLsbD_one]
    cases h : r.getLsbD 0 <;> by_cases hi0 : i = 0 <;> simp_all
  rw [h]
  cases r.getLsbD 0 <;> decide

/-- The remainder behind k bytes. -/
def crcTo (zs : List Int) : Nat → B32
  | 0 => 4294967295#32
  | k + 1 => nibS (nibS (crcTo zs k ^^^ BitVec.ofInt 32 (zs.getD k 0)))
/-- The table lies there. -/
def TabAt (w : World) : Prop := ∀ j, j < 16 → w.cell? ⟨0, j, none⟩ = some (.int .u32 (sumTab.getD j 0))
theorem tab_bd : ∀ j, j < 16 → 0 ≤ sumTab.getD j 0 ∧ sumTab.getD j 0 < 4294967296 := by decide
theorem and15_bd (x : Int) : 0 ≤ bits .and .u32 x 15 ∧ bits .and .u32 x 15 < 16 := by
  rw [and_toI]
  have e : BitVec.ofInt 32 15 = 15#32 := by decide
  rw [e]
  have := low_lt (BitVec.ofInt 32 x)
  unfold toI; omega
theorem nib_toI (R : B32) : bits .xor .u32 (toI R / 16) (sumTab.getD (bits .and .u32 (toI R) 15).toNat 0) = toI (nibS R) := by
  have e : BitVec.ofInt 32 15 = 15#32 := by decide
  rw [show (16 : Int) = 2 ^ 4 by decide, xor_toI, shr_toI, ofInt_toI, and_toI, ofInt_toI, e]
  rfl

set_option maxHeartbeats 2000000 in
theorem Crc_any (s : Value) (L : Nat) (zs : List Int) (w : World) (hL : L ≤ 1048576) (h : Reads w s L (zs.map (Value.int .u8))) (hz : ∀ j, 0 ≤ zs.getD j 0 ∧ zs.getD j 0 ≤ 255) (ht : TabAt w) :
    Calls Tryz.prog 42 #[s] w fun e w' => e = .returned (.int .u32 (toI (~~~(crcTo zs L)))) ∧ w' = w := by
  have hlen : zs.length = L := by simpa using h.1
  have H1 : Hid (Reads w s L (zs.map (Value.int .u8))) := h
  have hs : ∃ a c, s = .slice a L c := by rcases h.2 with ⟨rfl, a, c, rfl⟩ | ⟨g, o, c, rfl, _⟩ <;> exact ⟨_, _, rfl⟩
  have HT : Hid (TabAt w) := ht
  have HZ : Hid (∀ j, 0 ≤ zs.getD j 0 ∧ zs.getD j 0 ≤ 255) := hz
  clear h ht hz
  obtain ⟨a1, c1, rfl⟩ := hs
  go_enter Tryz.func42, Tryz.ntmps42
  go_wp2
  go_loop [3, 8] (fun r i => ∃ k : Nat, k ≤ L ∧ r = .int .u32 (toI (crcTo zs k)) ∧ i = .int .i64 k) (fun _ i => L - (intOf i).toNat)
  case atStart => exact ⟨0, by omega, rfl, rfl⟩
  case round =>
    obtain ⟨k, hk, rfl, rfl⟩ := hrel
    by_cases hlt : k < L
    · have hzk : (zs.map (Value.int .u8))[k]? = some (.int .u8 (zs.getD k 0)) := by
        rw [List.getElem?_map, List.getElem?_eq_getElem (by omega), List.getD_eq_getElem?_getD, List.getElem?_eq_getElem (by omega)]
        rfl
      rcases H1.out.2 with ⟨e0, _⟩ | ⟨g, o, c, e1, hc1⟩
      · omega
      · simp only [Value.slice.injEq, true_and] at e1
        obtain ⟨rfl, rfl⟩ := e1
        have hin := hc1 k _ hzk
        have hx := HZ.out k
        have hnext : crcTo zs (k + 1) = nibS (nibS (crcTo zs k ^^^ BitVec.ofInt 32 (zs.getD k 0))) := rfl
        generalize zs.getD k 0 = x at hin hx hnext
        generalize crcTo zs k = R at hnext
        have HN : Hid (crcTo zs (k + 1) = nibS (nibS (R ^^^ BitVec.ofInt 32 x))) := hnext
        have hx1 := hx.1
        have hx2 := hx.2
        clear hc1 hzk hx hnext hlen
        have hr1 : bits .xor .u32 (toI R) x = toI (R ^^^ BitVec.ofInt 32 x) := by rw [xor_toI, ofInt_toI]
        generalize hR1 : R ^^^ BitVec.ofInt 32 x = R1 at hr1
        rw [hR1] at HN
        have b1 := and15_bd (toI R1)
        have hc1 := HT.out (bits .and .u32 (toI R1) 15).toNat (by omega)
        have hn1 := nib_toI R1
        generalize sumTab.getD (bits .and .u32 (toI R1) 15).toNat 0 = t1 at hc1 hn1
        generalize nibS R1 = R2 at hn1 HN
        have b2 := and15_bd (toI R2)
        have hc2 := HT.out (bits .and .u32 (toI R2) 15).toNat (by omega)
        have hn2 := nib_toI R2
        generalize sumTab.getD (bits .and .u32 (toI R2) 15).toNat 0 = t2 at hc2 hn2
        generalize nibS R2 = R3 at hn2 HN
        have b11 := b1.1
        have b12 := b1.2
        have b21 := b2.1
        have b22 := b2.2
        clear hR1 b1 b2
        go_wp2
        go_round
        case rel => exact ⟨k + 1, by omega, by rw [HN.out], by go_num⟩
        case measure => simp [intOf]; omega
    · have hkn : k = L := by omega
      subst hkn
      have hno : bits .xor .u32 IntKind.u32.max (toI (crcTo zs k)) = toI (~~~(crcTo zs k)) := by
        have e : BitVec.ofInt 32 IntKind.u32.max = BitVec.allOnes 32 := by decide
        rw [xor_toI, ofInt_toI, e, BitVec.allOnes_xor]
      go_wp2
      go_ret
      exact ⟨rfl, rfl⟩

/-- The bit of a byte. -/
theorem bit_toI (x : Int) (k : Nat) (h0 : 0 ≤ x) (h1 : x ≤ 255) : bits .and .u32 (x / 2 ^ k) 1 = if (BitVec.ofInt 32 x).getLsbD k then 1 else 0 := by
  have e : x / 2 ^ k = toI (BitVec.ofInt 32 x >>> k) := by
    rw [← shr_toI, toI_ofInt h0 (by omega)]
  rw [e, low_toI]
  simp
theorem bitS_toI (B : B32) (b : Bool) : toI (bitS B b) = if (b != B.getLsbD 0) then bits .xor .u32 (toI B / 2) 3988292384 else toI B / 2 := by
  have e : toI B / (2 : Int) = toI (B >>> 1) := by rw [← shr_toI B 1, Int.pow_succ, Int.pow_zero, Int.one_mul]
  unfold bitS
  by_cases h : (b != B.getLsbD 0) = true
  · rw [if_pos h, if_pos h, e, xor_toI, ofInt_toI]
    rfl
  · rw [if_neg h, if_neg h, e, BitVec.xor_zero]
set_option maxHeartbeats 2000000 in
theorem SCrc_any (s : Value) (L : Nat) (zs : List Int) (w : World) (hL : L ≤ 1048576) (h : Reads w s L (zs.map (Value.int .u8))) (hz : ∀ j, 0 ≤ zs.getD j 0 ∧ zs.getD j 0 ≤ 255) :
    Calls Tryz.prog 27 #[s] w fun e w' => e = .returned (.int .u32 (toI (~~~(crcTo zs L)))) ∧ w' = w := by
  have hlen : zs.length = L := by simpa using h.1
  have H1 : Hid (Reads w s L (zs.map (Value.int .u8))) := h
  have hs : ∃ a c, s = .slice a L c := by rcases h.2 with ⟨rfl, a, c, rfl⟩ | ⟨g, o, c, rfl, _⟩ <;> exact ⟨_, _, rfl⟩
  have HZ : Hid (∀ j, 0 ≤ zs.getD j 0 ∧ zs.getD j 0 ≤ 255) := hz
  clear h hz
  obtain ⟨a1, c1, rfl⟩ := hs
  go_enter Tryz.func27, Tryz.ntmps27
  go_wp2
  go_loop [3, 4] (fun r i => ∃ k : Nat, k ≤ L ∧ r = .int .u32 (toI (crcTo zs k)) ∧ i = .int .i64 k) (fun _ i => L - (intOf i).toNat)
  case atStart => exact ⟨0, by omega, rfl, rfl⟩
  case round =>
    obtain ⟨k, hk, rfl, rfl⟩ := hrel
    by_cases hlt : k < L
    · have hzk : (zs.map (Value.int .u8))[k]? = some (.int .u8 (zs.getD k 0)) := by
        rw [List.getElem?_map, List.getElem?_eq_getElem (by omega), List.getD_eq_getElem?_getD, List.getElem?_eq_getElem (by omega)]
        rfl
      rcases H1.out.2 with ⟨e0, _⟩ | ⟨g, o, c, e1, hc1⟩
      · omega
      · simp only [Value.slice.injEq, true_and] at e1
        obtain ⟨rfl, rfl⟩ := e1
        have hin := hc1 k _ hzk
        have hx := HZ.out k
        have hnext : crcTo zs (k + 1) = nibS (nibS (crcTo zs k ^^^ BitVec.ofInt 32 (zs.getD k 0))) := rfl
        generalize zs.getD k 0 = x at hin hx hnext
        generalize crcTo zs k = R at hnext
        have hx1 := hx.1
        have hx2 := hx.2
        rw [← bits8 R (BitVec.ofInt 32 x) (by have := toI_ofInt hx1 (by omega); unfold toI at this; omega)] at hnext
        have HN : Hid (crcTo zs (k + 1) = bitsS R (BitVec.ofInt 32 x) 8) := hnext
        clear hc1 hzk hx hnext hlen
        go_wp2
        go_loop [3, 5] (fun r j => ∃ m : Nat, m ≤ 8 ∧ r = .int .u32 (toI (bitsS R (BitVec.ofInt 32 x) m)) ∧ j = .int .u64 m) (fun _ j => 8 - (intOf j).toNat)
        case atStart => exact ⟨0, by omega, rfl, rfl⟩
        case round =>
          obtain ⟨m, hm, rfl, rfl⟩ := hrel
          by_cases hm8 : m < 8
          · have hbit := bit_toI x m hx1 hx2
            have hlow := low_toI (bitsS R (BitVec.ofInt 32 x) m)
            have hstep : bitsS R (BitVec.ofInt 32 x) (m + 1) = bitS (bitsS R (BitVec.ofInt 32 x) m) ((BitVec.ofInt 32 x).getLsbD m) := rfl
            have hq0 : 0 ≤ x / 2 ^ m := Int.ediv_nonneg hx1 (Int.le_of_lt (Int.pow_pos (by decide)))
            have hq1 : x / 2 ^ m ≤ 255 := Int.le_trans (Int.ediv_le_self _ hx1) hx2
            generalize (BitVec.ofInt 32 x).getLsbD m = b at hbit hstep
            generalize hbm : bitsS R (BitVec.ofInt 32 x) m = B at hlow hstep
            have hnew := bitS_toI B b
            rw [← hstep] at hnew
            clear hstep hbm
            have hl0 : (if B.getLsbD 0 then (1 : Int) else 0) = 0 ∨ (if B.getLsbD 0 then (1 : Int) else 0) = 1 := by cases B.getLsbD 0 <;> simp
            generalize B.getLsbD 0 = c at hlow hnew
            clear hl0
            have HW : Hid (toI (bitsS R (BitVec.ofInt 32 x) (m + 1)) = if (b != c) then bits .xor .u32 (toI B / 2) 3988292384 else toI B / 2) := hnew
            clear hnew
            cases b <;> cases c
            all_goals
              simp only [if_true, if_false, Bool.false_eq_true] at hbit hlow
              go_wp2
              go_round
              case rel => exact ⟨m + 1, by omega, by rw [HW.out]; rfl, by go_num⟩
              case measure => simp [intOf]; omega
          · have hm8' : m = 8 := by omega
            subst hm8'
            rw [← HN.out]
            go_wp2
            go_round
            case rel => exact ⟨k + 1, by omega, rfl, by go_num⟩
            case measure => simp [intOf]; omega
    · have hkn : k = L := by omega
      subst hkn
      have hno : bits .xor .u32 IntKind.u32.max (toI (crcTo zs k)) = toI (~~~(crcTo zs k)) := by
        have e : BitVec.ofInt 32 IntKind.u32.max = BitVec.allOnes 32 := by decide
        rw [xor_toI, ofInt_toI, e, BitVec.allOnes_xor]
      go_wp2
      go_ret
      exact ⟨rfl, rfl⟩
end Go.Proofs.YtmhggeljphfjfaaGreatDoor
