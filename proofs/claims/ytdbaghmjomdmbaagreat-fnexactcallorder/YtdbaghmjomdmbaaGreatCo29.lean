import Derived.Test.YtdbaghmjomdmbaaGreatCo28
import Derived.Test.YtdbaghmjomdmbaaGreatCo12
import Derived.Maps.OwnSet
import Derived.Maps.RangeWalk
import Derived.Maps.AppendAt
import Derived.Shelf.SlGeneric
import Derived.Shelf.SortG.Plain
import Derived.Shelf.SortG.SortNone
import Derived.Ground.SlgnProg
import Derived.Sort.OwnSortedInts
import Derived.Sort.KeysCollected
namespace Go.Proofs
open Go.Shelf
def Tryz.lSort_ren : Go.Shelf.Ren := ⟨fun | 53 => 69 | 64 => 82 | 63 => 81 | 78 => 94 | 79 => 95 | 70 => 85 | 71 => 86 | 72 => 87 | 73 => 88 | 74 => 89 | 75 => 90 | 59 => 91 | 76 => 92 | 77 => 93 | 88 => 97 | 89 => 98 | 90 => 99 | 91 => 100 | 92 => 101 | 68 => 102 | 96 => 117 | n => n, fun | 22 => 29 | 23 => 2 | 3 => 3 | 51 => 130 | 0 => 0 | 67 => 81 | 69 => 146 | 4 => 4 | 61 => 138 | 60 => 137 | 44 => 142 | 5 => 5 | 9 => 9 | 75 => 149 | 79 => 153 | 83 => 155 | 84 => 156 | n => n, fun | n => n⟩
theorem Tryz.lSort : Go.Proofs.SlLaysN.n53 Tryz.prog Tryz.lSort_ren := {
  mixed := by kernel_rfl
  f53 := ⟨Tryz.f69.name, by decide, Tryz.func69.trans (congrArg some (by kernel_rfl))⟩
  f59 := ⟨Tryz.f91.name, by decide, Tryz.func91.trans (congrArg some (by kernel_rfl))⟩
  f63 := ⟨Tryz.f81.name, by decide, Tryz.func81.trans (congrArg some (by kernel_rfl))⟩
  f64 := Tryz.func82.trans (congrArg some (by kernel_rfl))
  f68 := ⟨Tryz.f102.name, by decide, Tryz.func102.trans (congrArg some (by kernel_rfl))⟩
  f70 := ⟨Tryz.f85.name, by decide, Tryz.func85.trans (congrArg some (by kernel_rfl))⟩
  f71 := ⟨Tryz.f86.name, by decide, Tryz.func86.trans (congrArg some (by kernel_rfl))⟩
  f72 := ⟨Tryz.f87.name, by decide, Tryz.func87.trans (congrArg some (by kernel_rfl))⟩
  f73 := ⟨Tryz.f88.name, by decide, Tryz.func88.trans (congrArg some (by kernel_rfl))⟩
  f74 := ⟨Tryz.f89.name, by decide, Tryz.func89.trans (congrArg some (by kernel_rfl))⟩
  f75 := ⟨Tryz.f90.name, by decide, Tryz.func90.trans (congrArg some (by kernel_rfl))⟩
  f76 := ⟨Tryz.f92.name, by decide, Tryz.func92.trans (congrArg some (by kernel_rfl))⟩
  f77 := ⟨Tryz.f93.name, by decide, Tryz.func93.trans (congrArg some (by kernel_rfl))⟩
  f78 := Tryz.func94.trans (congrArg some (by kernel_rfl))
  f79 := Tryz.func95.trans (congrArg some (by kernel_rfl))
  f88 := ⟨Tryz.f97.name, by decide, Tryz.func97.trans (congrArg some (by kernel_rfl))⟩
  f89 := Tryz.func98.trans (congrArg some (by kernel_rfl))
  f90 := Tryz.func99.trans (congrArg some (by kernel_rfl))
  f91 := ⟨Tryz.f100.name, by decide, Tryz.func100.trans (congrArg some (by kernel_rfl))⟩
  f92 := ⟨Tryz.f101.name, by decide, Tryz.func101.trans (congrArg some (by kernel_rfl))⟩
  f96 := ⟨Tryz.f117.name, by decide, Tryz.func117.trans (congrArg some (by kernel_rfl))⟩
  t0 := Tryz.underlying0
  a0 := Tryz.isAgg0
  z0 := Tryz.sizeOf0
  v0 := Tryz.zeroValue0
  t3 := Tryz.underlying3
  a3 := Tryz.isAgg3
  z3 := Tryz.sizeOf3
  v3 := Tryz.zeroValue3
  t4 := Tryz.underlying4
  a4 := Tryz.isAgg4
  z4 := Tryz.sizeOf4
  v4 := Tryz.zeroValue4
  t5 := Tryz.underlying5
  a5 := Tryz.isAgg5
  z5 := Tryz.sizeOf5
  v5 := Tryz.zeroValue5
  t9 := Tryz.underlying9
  a9 := Tryz.isAgg9
  z9 := Tryz.sizeOf9
  v9 := Tryz.zeroValue9
  t22 := Tryz.underlying29
  a22 := Tryz.isAgg29
  z22 := Tryz.sizeOf29
  v22 := Tryz.zeroValue29
  t23 := Tryz.underlying2
  a23 := Tryz.isAgg2
  z23 := Tryz.sizeOf2
  v23 := Tryz.zeroValue2
  t44 := Tryz.underlying142
  a44 := Tryz.isAgg142
  z44 := Tryz.sizeOf142
  v44 := Tryz.zeroValue142
  t51 := Tryz.underlying130
  a51 := Tryz.isAgg130
  z51 := Tryz.sizeOf130
  v51 := Tryz.zeroValue130
  t60 := Tryz.underlying137
  a60 := Tryz.isAgg137
  z60 := Tryz.sizeOf137
  v60 := Tryz.zeroValue137
  t61 := Tryz.underlying138
  a61 := Tryz.isAgg138
  z61 := Tryz.sizeOf138
  v61 := Tryz.zeroValue138
  t67 := Tryz.underlying81
  a67 := Tryz.isAgg81
  z67 := Tryz.sizeOf81
  v67 := Tryz.zeroValue81
  t69 := Tryz.underlying146
  a69 := Tryz.isAgg146
  z69 := Tryz.sizeOf146
  v69 := Tryz.zeroValue146
  t75 := Tryz.underlying149
  a75 := Tryz.isAgg149
  z75 := Tryz.sizeOf149
  v75 := Tryz.zeroValue149
  t79 := Tryz.underlying153
  a79 := Tryz.isAgg153
  z79 := Tryz.sizeOf153
  v79 := Tryz.zeroValue153
  t83 := Tryz.underlying155
  a83 := Tryz.isAgg155
  z83 := Tryz.sizeOf155
  v83 := Tryz.zeroValue155
  t84 := Tryz.underlying156
  a84 := Tryz.isAgg156
  z84 := Tryz.sizeOf156
  v84 := Tryz.zeroValue156 }
end Go.Proofs
namespace Go.Proofs.YtdbaghmjomdmbaaGreat
open Go.ChangeShapes Go.WideShapes Go.ChangeAt Go.RowKit
set_option linter.unusedVariables false
theorem law64 : Go.Maps.Keyed Tryz.prog 2 := Go.Maps.int_keyed Tryz.underlying2
/-- A set of numbers, in block b. -/
def SetAt (w : World) (b cnt : Nat) (D : DataW Unit) : Prop := w.ownsMap Tryz.prog 2 (unitElem (H := Unit)) b cnt D
set_option maxHeartbeats 2000000 in
set_option maxRecDepth 100000 in
theorem add_one (b cnt g c : Nat) (D : DataW Unit) (z : Int) (w : World) (hz : W64 z) (hcnt : cnt ≤ 1048576) (hc : w.cell? ⟨g, 0, none⟩ = some (.int .i64 z)) (hgb : ¬ g = b) (h : SetAt w b cnt D) :
    Calls Tryz.prog 49 #[.map (some b), .slice (some ⟨g, 0, none⟩) 1 c] w fun e w' => e = .returned (.tuple #[]) ∧ SetAt w' b (cnt + 1) (D.put (.int .i64 z) (.agg [])) ∧ w.grownBy w' (some b) := by
  have H : Hid (SetAt w b cnt D) := h
  clear h
  go_enter Tryz.func49, Tryz.ntmps49
  go_wp2
  go_loopw [8] (fun i wr => ∃ k : Nat, k ≤ 1 ∧ i = .int .i64 k ∧ ((k = 0 ∧ wr = w) ∨ (k = 1 ∧ Hid (SetAt wr b (cnt + 1) (D.put (.int .i64 z) (.agg [])) ∧ w.grownBy wr (some b))))) (fun i _ => 1 - (intOf i).toNat)
  case atStart => exact ⟨0, by omega, rfl, .inl ⟨rfl, rfl⟩⟩
  case round =>
    obtain ⟨k, hk, rfl, hh⟩ := hrel
    rcases hh with ⟨rfl, rfl⟩ | ⟨rfl, HE⟩
    · rw [show ((0 : Nat) : Int) = 0 from rfl]
      go_wp2_with (at_mapUpdate; refine wpList_mapUpdate_own _ rfl _ _ _ 62 rfl 2 118 law64 Tryz.underlying62 (unitElem (H := Unit)) b cnt D rfl H.out (by unfold maxLen; omega) _ _ _ rfl rfl (Go.Maps.keyOf_int_mk Tryz.underlying2 hz) _ [] unitElem_mk ?_; intro w1 hown1 hgrow1)
      have HN : Hid (SetAt w1 b (cnt + 1) (D.put (.int .i64 z) (.agg [])) ∧ _) := ⟨hown1, hgrow1⟩
      clear hown1 hgrow1
      go_wp2
      go_roundw
      case rel => exact ⟨1, by omega, by go_num, .inr ⟨rfl, HN⟩⟩
      case measure => simp [intOf]
    · rw [show ((1 : Nat) : Int) = 1 from rfl]
      go_wp2
      go_end0
      exact ⟨rfl, HE.out.1, HE.out.2⟩
theorem sort_any (g cap : Nat) (zs : List Int) (w : World) (hH : Go.Sort.Holds (Value.int .i64) w g 0 zs.toArray) (hb : g < w.heap.size) (hl : zs.length < 4611686018427387904) :
    Calls Tryz.prog 69 #[.slice (some ⟨g, 0, none⟩) zs.length cap] w fun e w' => e = .returned (.tuple #[]) ∧ ∃ n os, w' = Go.Sort.grow (Go.Sort.putRow (Value.int .i64) (Go.Sort.ahead w n) g 0 (zs.mergeSort fun x y => decide (x ≤ y)).toArray) os := by
  have h := AnyG.slices_Sort_int Tryz.lSort g 0 cap zs w hH hb hl
  exact h
/-- The numbers met so far. -/
structure CollI (D : DataW Unit) (left : Lit → Bool) (zs : List Int) : Prop where
  nodup : zs.Nodup
  mem : ∀ z, z ∈ zs ↔ W64 z ∧ Go.Maps.has D (.int .i64 z) = true ∧ left (.int .i64 z) = false
theorem CollI.start (D : DataW Unit) : CollI D (Go.Maps.has D) [] := ⟨List.nodup_nil, fun z => ⟨fun h => (by cases h), fun h => by rw [h.2.1] at h; exact absurd h.2.2 (by simp)⟩⟩
theorem sameKey_int (z x : Int) : (Lit.int .i64 z).sameKey (.int .i64 x) = decide (z = x) := by
  by_cases h : z = x
  · subst h
    simp [Lit.sameKey]
  · rw [Go.Maps.sameKey_ne (fun e => h (by cases e; rfl))]
    simp [h]
theorem CollI.step {D : DataW Unit} {left : Lit → Bool} {zs : List Int} {x : Int} {y : DataW Unit} (h : CollI D left zs) (hw : W64 x) (hl : left (.int .i64 x) = true) (hat : ∀ zd, D.atKey (.int .i64 x) zd = y) : CollI D (fun z => left z && !z.sameKey (.int .i64 x)) (zs ++ [x]) := by
  have hx : x ∉ zs := fun e => by
    have := ((h.mem x).1 e).2.2
    rw [hl] at this
    cases this
  refine ⟨?_, fun z => ?_⟩
  · rw [List.nodup_append]
    refine ⟨h.nodup, by simp, ?_⟩
    intro a ha b hb
    simp only [List.mem_cons, List.not_mem_nil, or_false] at hb
    subst hb
    exact fun e => hx (e ▸ ha)
  · rw [List.mem_append, h.mem]
    simp only [List.mem_cons, List.not_mem_nil, or_false, sameKey_int]
    constructor
    · rintro (⟨h1, h2, h3⟩ | rfl)
      · exact ⟨h1, h2, by simp [h3]⟩
      · exact ⟨hw, Go.Maps.has_true_of_atKey hat, by simp⟩
    · rintro ⟨h1, h2, h3⟩
      by_cases e : z = x
      · exact .inr e
      · refine .inl ⟨h1, h2, ?_⟩
        simpa [e] using h3
theorem ints_flat (zs : List Int) : zs.flatMap intCell = zs.map (Value.int .i64) := by
  induction zs with
  | nil => rfl
  | cons z r ih => simp [intCell, ih]
theorem sorted_lt (zs : List Int) (h : zs.Nodup) : (zs.mergeSort fun x y => decide (x ≤ y)).Pairwise (· < ·) := by
  have h1 : (zs.mergeSort fun x y => decide (x ≤ y)).Pairwise (fun a b => decide (a ≤ b) = true) := List.pairwise_mergeSort (fun a b c h1 h2 => by simp at *; omega) (fun a b => by simp; omega) zs
  have h2 : (zs.mergeSort fun x y => decide (x ≤ y)).Nodup := (List.mergeSort_perm zs _).nodup_iff.2 h
  refine (h1.and h2).imp ?_
  rintro a b ⟨h3, h4⟩
  simp at h3
  omega
set_option maxHeartbeats 4000000 in
set_option maxRecDepth 100000 in
theorem rising_any (b cnt : Nat) (D : DataW Unit) (w : World) (hcnt : cnt ≤ 1048576) (h : SetAt w b cnt D) :
    Calls Tryz.prog 50 #[.map (some b)] w fun e w' => ∃ (g cap : Nat) (zs : List Int), e = .returned (.slice (some ⟨g, 0, none⟩) zs.length cap) ∧ w'.ownsRow w.heap.size 2 1 (.slice (some ⟨g, 0, none⟩) zs.length cap) zs.length (zs.flatMap intCell) ∧ zs.Pairwise (· < ·) ∧ (∀ z, z ∈ zs ↔ W64 z ∧ Go.Maps.has D (.int .i64 z) = true) ∧ Below w.heap.size w w' := by
  obtain ⟨i0, hi, hz0, hz1, hz2⟩ := info_parts info64
  have hown : w.ownsMap Tryz.prog 2 (unitElem (H := Unit)) b cnt D := h
  have hbl := hown.lt
  have hsz := hown.size_le
  clear h
  go_enter Tryz.func50, Tryz.ntmps50
  go_wp2_with (first
    | (at_len; refine wpList_len_own _ rfl _ 62 rfl 2 118 Tryz.underlying62 _ b cnt _ rfl hown ?_)
    | (at_make; refine wpList_make_own _ rfl _ _ 29 rfl w.heap.size 2 i0 (.int .i64 0) 1 Tryz.underlying29 hi hz0 hz1 _ _ _ (Go.Maps.size D) rfl rfl rfl (by rw [hz2]; omega) (by unfold maxLen; omega) (Nat.le_refl _) ?_; intro w1 hrow1 hg1)
    | (at_range; refine wpList_range_own _ rfl _ 62 rfl 2 118 law64 Tryz.underlying62 _ b cnt _ rfl (hown.kept hg1 (by simp)) ?_; intro w0 hrg0 hg0 hs0)
    | go_in)
  go_frame
  go_loopw [3] (fun v wr => ∃ (left : Lit → Bool) (cn : Nat) (zs : List Int), wr.ranges Tryz.prog 2 (unitElem (H := Unit)) b w1.heap.size cnt D left cn ∧ zs.length + cn ≤ Go.Maps.size D ∧ wr.ownsRow w.heap.size 2 1 v zs.length (zs.map (Value.int .i64)) ∧ v ≠ .slice none 0 0 ∧ CollI D left zs ∧ Below w.heap.size w wr) (fun _ wr => wr.rangeLeft b w1.heap.size)
  case atStart =>
    exact ⟨_, _, [], hrg0, by simp, hrow1.kept hg0 (Or.inr (by simp [Value.ownBlock])), by simp, CollI.start D, ((Below.refl _ _).grown hg1 (Nat.le_refl _) (fun j hj => by cases hj)).grown hg0 hg1.size (fun j hj => by cases hj)⟩
  case round =>
    obtain ⟨left, cn, zs, hrg, hcs, hrow, hnn, hC, hnx⟩ := hrel
    go_wp2_with (first
      | (at_next; refine wpList_next_ranges _ rfl _ rfl 2 law64 (unitElem (H := Unit)) (Value.int .i64) (fun (_ : Unit) => Value.agg #[]) (fun key kl hk => by obtain ⟨x, hx, _⟩ := Go.Maps.keyOf_int_inv Tryz.underlying2 hk; exact ⟨x, hx⟩) (fun v y hv => by obtain ⟨rfl, _⟩ := unitElem_inv hv; exact ⟨(), rfl⟩) b w1.heap.size cnt _ _ _ rfl hrg ?_ ?_)
      | go_in)
    · intro hc0 hl0
      rcases hrow.2 with ⟨hnil, _⟩ | ⟨g, cap, cur, rfl, hbase, hb, h1, h2, h3, h4⟩
      · exact absurd hnil hnn
      have hH : Go.Sort.Holds (Value.int .i64) wr g 0 zs.toArray := holds_of_blockI hb (by simpa using h4)
      have hgl : g < wr.heap.size := (Array.getElem?_eq_some_iff.1 hb).1
      have hc := sort_any g cap zs wr hH hgl (by omega)
      have HP : Hid ((zs.mergeSort fun x y => decide (x ≤ y)).Pairwise (· < ·) ∧ (∀ z, z ∈ (zs.mergeSort fun x y => decide (x ≤ y)) ↔ W64 z ∧ Go.Maps.has D (.int .i64 z) = true) ∧ (zs.mergeSort fun x y => decide (x ≤ y)).length = zs.length) := by
        refine ⟨sorted_lt zs hC.nodup, fun z => ?_, (List.mergeSort_perm zs _).length_eq⟩
        rw [(List.mergeSort_perm zs _).mem_iff, hC.mem]
        exact ⟨fun q => ⟨q.1, q.2.1⟩, fun q => ⟨q.1, q.2, hl0 _⟩⟩
      go_wp2_with (go_at_call 69; refine hc.mono ?_; rintro e w' ⟨rfl, nn, os, rfl⟩)
      go_ret
      refine ⟨g, cap, zs.mergeSort fun x y => decide (x ≤ y), ?_, ?_, HP.out.1, HP.out.2.1, hnx.grown (grownBy_sortedI _) hnx.size (fun j hj => by cases hj; exact hbase)⟩
      · rw [HP.out.2.2]
        rfl
      · rw [HP.out.2.2, ints_flat]
        exact ownsRow_sortedI HP.out.2.2 hbase hb h1 h2 h3
    · intro x c kl y w2 cnt2 hkey hlk hv hat hrg2 hlt hg2 hs2 hen
      obtain ⟨x', ex, rfl, hwx⟩ := Go.Maps.keyOf_int_inv Tryz.underlying2 hkey
      obtain rfl : x = x' := by cases ex; rfl
      have hrow2 := hrow.kept hg2 (Or.inr (Go.row_ne_iter hrow hrg).symm)
      clear hs2
      go_wp2_with (first
        | (at_builtin; refine wpList_append_own _ rfl _ _ 29 rfl w.heap.size 2 i0 (.int .i64 0) 1 8 Tryz.underlying29 hi hz0 hz1 hz2 rfl (by decide) _ _ _ rfl (hrow2.alloc _) ⟨w2.heap.size, 0, none⟩ 1 1 [.int .i64 x] rfl rfl (Go.cell_one_new _ _ _) (fun u hu => by simp at hu; subst hu; rfl) (by unfold maxLen; omega) (by omega) (by have := hnx.size; have := hg2.size; simp; omega) ?_; intro v' w3 hown' hg3 hnil3; go_frame)
        | go_in)
      have hrg3 := (hrg2.alloc (.cells #[.int .i64 x] 2)).kept hg3 (Go.row_ne_low hrow2 hbl) (Go.row_ne_iter hrow2 hrg2)
      go_roundw
      case rel =>
        refine ⟨_, cnt2, zs ++ [x], hrg3, by simp; omega, by simpa using hown', fun hv' => by have := (hnil3.1 hv').2; omega, hC.step hwx hlk hat, ?_⟩
        exact ((hnx.grown hg2 hnx.size (fun j hj => by cases hj; exact hg1.size)).alloc (by have := hnx.size; have := hg2.size; omega) _).grown hg3 (by have := hnx.size; have := hg2.size; simp; omega) (fun j hj => (hrow2.lt j hj).1)
      case measure => rw [hrg3.left_eq, hrg.left_eq]; exact hlt
end Go.Proofs.YtdbaghmjomdmbaaGreat
