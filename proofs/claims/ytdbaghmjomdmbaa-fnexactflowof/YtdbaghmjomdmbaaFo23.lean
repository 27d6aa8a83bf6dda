import Derived.Test.YtdbaghmjomdmbaaFo13
import Derived.Test.YtdbaghmjomdmbaaFo18
import Derived.Shelf.SlicesG.Reverse
import Derived.Shelf.Bits.Mul64
import Derived.Shelf.Lay
import Derived.Laws.CopyOwn
import Derived.Ground.NamesProg
namespace Go.Proofs
open Go.Shelf
def Try.lReverse_ren : Go.Shelf.Ren := ⟨fun | 35 => 53 | n => n, fun | 22 => 33 | 23 => 2 | 3 => 3 | 4 => 4 | 0 => 0 | n => n, fun | n => n⟩
theorem Try.lReverse : Go.Proofs.SlLaysN.n35 Try.prog Try.lReverse_ren := {
  mixed := by kernel_rfl
  f35 := ⟨Try.f53.name, by decide, Try.func53.trans (congrArg some (by kernel_rfl))⟩
  t0 := Try.underlying0
  a0 := Try.isAgg0
  z0 := Try.sizeOf0
  v0 := Try.zeroValue0
  t3 := Try.underlying3
  a3 := Try.isAgg3
  z3 := Try.sizeOf3
  v3 := Try.zeroValue3
  t4 := Try.underlying4
  a4 := Try.isAgg4
  z4 := Try.sizeOf4
  v4 := Try.zeroValue4
  t22 := Try.underlying33
  a22 := Try.isAgg33
  z22 := Try.sizeOf33
  v22 := Try.zeroValue33
  t23 := Try.underlying2
  a23 := Try.isAgg2
  z23 := Try.sizeOf2
  v23 := Try.zeroValue2 }
def Try.lMul_ren : Go.Shelf.Ren := ⟨fun | 212 => 63 | 263 => 66 | 264 => 67 | n => n, fun | 46 => 82 | 51 => 99 | 146 => 100 | 53 => 102 | 148 => 103 | n => n, fun | n => n⟩
theorem Try.lMul : Go.Proofs.Lays.n212 Try.prog Try.lMul_ren := {
  mixed := by kernel_rfl
  f212 := Try.func63.trans (congrArg some (by kernel_rfl))
  f263 := Try.func66.trans (congrArg some (by kernel_rfl))
  f264 := Try.func67.trans (congrArg some (by kernel_rfl))
  t46 := Try.underlying82
  a46 := Try.isAgg82
  z46 := Try.sizeOf82
  v46 := Try.zeroValue82
  t51 := Try.underlying99
  a51 := Try.isAgg99
  z51 := Try.sizeOf99
  v51 := Try.zeroValue99
  t53 := Try.underlying102
  a53 := Try.isAgg102
  z53 := Try.sizeOf102
  v53 := Try.zeroValue102
  t146 := Try.underlying100
  a146 := Try.isAgg100
  z146 := Try.sizeOf100
  v146 := Try.zeroValue100
  t148 := Try.underlying103
  a148 := Try.isAgg103
  z148 := Try.sizeOf103
  v148 := Try.zeroValue103 }
end Go.Proofs
namespace Go.Proofs.Ytdbaghmjomdmbaa
open Go.ChangeShapes Go.WideShapes Go.ChangeAt Go.RowKit
set_option linter.unusedVariables false
theorem mul_any (x y : Nat) (hx : x < 18446744073709551616) (hy : y < 18446744073709551616) (w : World) :
    Calls Try.prog 63 #[.int .u64 x, .int .u64 y] w fun e w' => e = .returned (.tuple #[.int .u64 ((x * y / 18446744073709551616 : Nat) : Int), .int .u64 ((x * y % 18446744073709551616 : Nat) : Int)]) ∧ w' = w := by
  have h := Any.bits_Mul Try.lMul x y hx hy w
  exact h
theorem reverse_any (g cap : Nat) (zs : List Int) (w : World) (hH : Go.Sort.Holds (Value.int .i64) w g 0 zs.toArray) (hsz : zs.length ≤ 9223372036854775807) :
    Calls Try.prog 53 #[.slice (some ⟨g, 0, none⟩) zs.length cap] w fun e w' => e = .returned (.tuple #[]) ∧ ∃ n, w' = Go.Sort.putRow (Value.int .i64) (Go.Sort.ahead w n) g 0 zs.reverse.toArray := by
  have h := AnyG.slices_Reverse_int Try.lReverse g 0 cap zs w hH hsz
  exact h

/-- -1 at the first k places. -/
def repV (k n : Nat) : List Value := List.replicate k (.int .i64 (-1)) ++ List.replicate (n - k) (.int .i64 0)
theorem repV_length (k n : Nat) (h : k ≤ n) : (repV k n).length = n := by simp [repV]; omega
theorem repV_splice (k c n : Nat) (h : k + c ≤ n) : splice (repV k n) k (List.replicate c (.int .i64 (-1))) = repV (k + c) n := by
  unfold splice repV
  rw [List.take_left' (by simp), List.length_replicate, List.drop_append, List.drop_of_length_le (by simp), List.nil_append, List.length_replicate, List.drop_replicate, ← List.append_assoc, List.replicate_append_replicate]
  congr 2
  omega
theorem copy_rep (W : World) (G k n dl dc sl sc c : Nat) (ad : Addr) (hg : Blk W G (repV k n).toArray 2) (hc : c = Nat.min sl dl) (hsrc : ∀ j, j < c → W.cell? (ad.add j) = some (.int .i64 (-1))) (hkc : k + c ≤ n) :
    (Builtin.copy_ #[33, 33] 3 #[.slice (some ⟨G, k, none⟩) dl dc, .slice (some ad) sl sc]).run Try.prog W = .ok (.int .i64 (c : Int)) (W.setRow G (repV (k + c) n).toArray) := by
  obtain ⟨k0, hk, hx0, hx1, hx2⟩ := info_parts info64
  have h := run_copy_row (P := Try.prog) W 33 33 3 2 G k dl dc ad sl sc (repV k n).toArray 2 (List.replicate c (.int .i64 (-1))) Try.underlying33 (by rw [hk]; simp [hx1]) hg (by rw [List.length_replicate]; exact hc) (fun j v hj => by
    obtain ⟨h1, h2⟩ := List.getElem?_eq_some_iff.1 hj
    rw [List.length_replicate] at h1
    rw [hsrc j h1, ← h2]
    simp) (by rw [List.length_replicate, List.size_toArray, repV_length k n (by omega)]; exact hkc) (fun v hv => by rw [(List.mem_replicate.1 hv).2]; rfl)
  rw [h]
  have e := repV_splice k c n hkc
  unfold splice at e
  simp only [List.length_replicate] at e ⊢
  rw [List.append_assoc, e]
  rfl
theorem rep_at (k n i : Nat) (h : i < k) (hk : k ≤ n) : (repV k n).toArray[i]? = some (.int .i64 (-1)) := by
  rw [List.getElem?_toArray]
  unfold repV
  rw [List.getElem?_append_left (by simpa using h)]
  simp [h]
theorem made_rep {W : World} {B G n : Nat} (h : W.ownsRow B 2 1 (.slice (some ⟨G, 0, none⟩) n n) n (madeCells (Value.int .i64 0).cells (n * 1)).toList) : Blk W G (repV 0 n).toArray 2 := by
  rcases h.2 with ⟨h', _⟩ | ⟨g', cap', cur, h', hb, hg, h3, h4, h5, h6⟩
  · cases h'
  · cases h'
    have e : cur = (repV 0 n).toArray := by
      rw [made_int n (fun _ => []) []] at h6
      rw [List.take_of_length_le (by simp [h5])] at h6
      apply Array.toList_inj.1
      rw [h6]
      simp [flatTo, repV, List.flatten_replicate_singleton]
    rw [← e]
    exact hg
theorem setRow_blk {W : World} {G : Nat} {cur new : Array Value} {t : TypeId} (h : Blk W G cur t) : Blk (W.setRow G new) G new t := setRow_heap W G _ _ t _ h
set_option maxHeartbeats 4000000 in
set_option maxRecDepth 100000 in
theorem repeat_any (g n : Nat) (w : World) (h1 : 1 ≤ n) (hn : n ≤ 1024) (h : w.cell? ⟨g, 0, none⟩ = some (.int .i64 (-1))) :
    Calls Try.prog 54 #[.slice (some ⟨g, 0, none⟩) 1 1, .int .i64 (n : Int)] w fun e w' => ∃ g', e = .returned (.slice (some ⟨g', 0, none⟩) n n) ∧ w'.ownsRow w.heap.size 2 1 (.slice (some ⟨g', 0, none⟩) n n) n (List.replicate n (.int .i64 (-1))) ∧ Below w.heap.size w w' := by
  obtain ⟨k0, hk, hx0, hx1, hx2⟩ := info_parts info64
  have hnI : ¬ (n : Int) < 0 := by omega
  have hn2 : (n : Int) ≤ 1024 := by omega
  have hm1 : 1 * n / 18446744073709551616 = 0 := by omega
  have hm2 : 1 * n % 18446744073709551616 = n := by omega
  have HM : Hid (∀ U : World, Calls Try.prog 63 #[.int .u64 1, .int .u64 (n : Int)] U fun e w' => e = .returned (.tuple #[.int .u64 0, .int .u64 (n : Int)]) ∧ w' = U) := fun U => by
    have := mul_any 1 n (by omega) (by omega) U
    rw [hm1, hm2] at this
    exact this
  clear hm1 hm2
  go_enter Try.func54, Try.ntmps54
  go_wp2_with fail
  refine (HM.out w).mono ?_
  rintro e u ⟨rfl, rfl⟩
  have hgt : g < u.heap.size := block_lt_of_cell h
  have HOC : Hid (u.cell? ⟨g, 0, none⟩ = some (.int .i64 (-1))) := h
  clear h
  go_upto_region 7 with (at_make; refine wpList_make_full _ rfl _ _ 33 rfl u.heap.size 2 k0 (.int .i64 0) 1 Try.underlying33 hk hx0 hx1 .i64 .i64 _ _ n rfl rfl rfl rfl (by rw [hx2]; omega) (by unfold maxLen; omega) (Nat.le_refl _) ?_; intro w3 hown hgrow)
  have hb3 : Below u.heap.size u w3 := (Below.refl _ _).grown hgrow (Nat.le_refl _) (fun k hk => by cases hk)
  have k3 : Blk w3 u.heap.size (repV 0 n).toArray 2 := made_rep hown
  have hcp := copy_rep w3 u.heap.size 0 n n n 1 1 1 ⟨g, 0, none⟩ k3 (by simp [Nat.min_def]; omega) (fun j hj => by
    obtain rfl : j = 0 := by omega
    rw [add_at]
    exact bcell_keep hb3 HOC.out) (by omega)
  have HB4 : Hid (Blk (w3.setRow u.heap.size (repV (0 + 1) n).toArray) u.heap.size (repV (0 + 1) n).toArray 2 ∧ Below u.heap.size u (w3.setRow u.heap.size (repV (0 + 1) n).toArray)) := ⟨setRow_blk k3, below_setRow hb3 (Nat.le_refl _) _⟩
  clear hown hgrow hb3 k3
  rw [Nat.zero_add] at hcp HB4
  obtain ⟨W4, hW4⟩ : ∃ W, W = w3.setRow u.heap.size (repV 1 n).toArray := ⟨_, rfl⟩
  rw [← hW4] at hcp HB4
  clear hW4
  obtain ⟨G, hG⟩ : ∃ G, G = u.heap.size := ⟨_, rfl⟩
  rw [← hG] at hcp HB4 ⊢
  have HGG : Hid (G = u.heap.size) := hG
  clear hG
  go_wp2
  go_loopw [8] (fun i wr => ∃ k : Nat, 1 ≤ k ∧ k ≤ n ∧ i = .int .i64 (k : Int) ∧ Hid (Blk wr G (repV k n).toArray 2 ∧ Below u.heap.size u wr)) (fun i _ => n - (intOf i).toNat)
  case atStart => exact ⟨1, by omega, h1, rfl, by rw [← HGG.out]; exact HB4⟩
  case round =>
    clear HB4 hcp
    obtain ⟨k, hk1, hkn, rfl, HL⟩ := hrel
    by_cases hlt : k < n
    · have hltI : (k : Int) < (n : Int) := by omega
      have kD := HL.out.1.keep (below_drew1 wr)
      have bD := below_on HL.out.2 (Nat.le_refl _) (below_drew1 wr)
      obtain ⟨c, hc⟩ : ∃ c, c = Nat.min k (n - k) := ⟨_, rfl⟩
      have hcl : 1 ≤ c ∧ c ≤ k ∧ k + c ≤ n := by
        have e : c = min k (n - k) := hc
        omega
      have hcp := copy_rep wr.drew G k n (n - k) (n - k) k n c ⟨G, 0, none⟩ kD hc (fun j hj => by
        rw [add_at, Nat.zero_add, kD.cell j]
        exact rep_at k n j (by omega) (by omega)) (by omega)
      have HN : Hid (Blk (wr.drew.setRow G (repV (k + c) n).toArray) G (repV (k + c) n).toArray 2 ∧ Below u.heap.size u (wr.drew.setRow G (repV (k + c) n).toArray)) := ⟨setRow_blk kD, below_setRow bD (by rw [HGG.out]; exact Nat.le_refl _) _⟩
      clear kD bD hc
      go_wp2
      go_region
      refine with_world (fun x => Hid (Blk x G (repV (k + c) n).toArray 2 ∧ Below u.heap.size u x)) HN ?_
      intro U HU
      clear HN hcp
      go_wp2
      go_roundw
      case rel => exact ⟨k + c, by omega, by omega, by go_num, HU⟩
      case measure => simp [intOf]; omega
    · obtain rfl : k = n := by omega
      have HE : Hid (wr.ownsRow u.heap.size 2 1 (.slice (some ⟨G, 0, none⟩) k k) k (List.replicate k (.int .i64 (-1)))) := by
        refine ⟨by simp, .inr ⟨G, k, (repV k k).toArray, rfl, by rw [HGG.out]; exact Nat.le_refl _, HL.out.1, Nat.le_refl _, by unfold maxLen; omega, by simp [repV], by simp [repV]⟩⟩
      go_wp2
      go_ret
      exact ⟨G, rfl, HE.out, HL.out.2⟩
end Go.Proofs.Ytdbaghmjomdmbaa
