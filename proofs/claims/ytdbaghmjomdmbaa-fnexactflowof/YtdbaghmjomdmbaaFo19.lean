import Derived.Test.YtdbaghmjomdmbaaFo14
import Derived.Test.YtdbaghmjomdmbaaFo18
import Derived.Maps.RangeWalk
import Derived.Sort.KeysCollected
import Derived.Maps.AppendAt
namespace Go.Proofs.Ytdbaghmjomdmbaa
open Go.ChangeShapes Go.WideShapes Go.ChangeAt Go.RowKit
set_option linter.unusedVariables false
/-- The numbers met so far. -/
structure CollI (D : DataW Unit) (left : Lit → Bool) (zs : List Int) : Prop where
  nodup : zs.Nodup
  mem : ∀ z, z ∈ zs ↔ W64 z ∧ Go.Maps.has D (.int .i64 z) = true ∧ left (.int .i64 z) = false
theorem CollI.start (D : DataW Unit) : CollI D (Go.Maps.has D) [] := ⟨List.nodup_nil, fun z => ⟨fun h => (by cases h), fun h => by rw [h.2.1] at h; exact absurd h.2.2 (by simp)⟩⟩
theorem sameKey_int (z x : Int) : (Lit.int .i64 z).sameKey (.int .i64 x) = decide (z = x) := by
  by_cases h : z = x
  · subst h
    simp [Lit.sameKey]
  · rw [Go.Maps.sameKey_ne (fun e => h (by cases e; rfl))]
    simp [h]
theorem CollI.step {D : DataW Unit} {left : Lit → Bool} {zs : List Int} {x : Int} {y : DataW Unit} (h : CollI D left zs) (hw : W64 x) (hl : left (.int .i64 x) = true) (hat : ∀ zd, D.atKey (.int .i64 x) zd = y) : CollI D (fun z => left z && !z.sameKey (.int .i64 x)) (zs ++ [x]) := by
  have hx : x ∉ zs := fun e => by
    have := ((h.mem x).1 e).2.2
    rw [hl] at this
    cases this
  refine ⟨?_, fun z => ?_⟩
  · rw [List.nodup_append]
    refine ⟨h.nodup, by simp, ?_⟩
    intro a ha b hb
    simp only [List.mem_cons, List.not_mem_nil, or_false] at hb
    subst hb
    exact fun e => hx (e ▸ ha)
  · rw [List.mem_append, h.mem]
    simp only [List.mem_cons, List.not_mem_nil, or_false, sameKey_int]
    constructor
    · rintro (⟨h1, h2, h3⟩ | rfl)
      · exact ⟨h1, h2, by simp [h3]⟩
      · exact ⟨hw, Go.Maps.has_true_of_atKey hat, by simp⟩
    · rintro ⟨h1, h2, h3⟩
      by_cases e : z = x
      · exact .inr e
      · refine .inl ⟨h1, h2, ?_⟩
        simpa [e] using h3
theorem ints_flat (zs : List Int) : zs.flatMap intCell = zs.map (Value.int .i64) := by
  induction zs with
  | nil => rfl
  | cons z r ih => simp [intCell, ih]
theorem sorted_lt (zs : List Int) (h : zs.Nodup) : (zs.mergeSort fun x y => decide (x ≤ y)).Pairwise (· < ·) := by
  have h1 : (zs.mergeSort fun x y => decide (x ≤ y)).Pairwise (fun a b => decide (a ≤ b) = true) := List.pairwise_mergeSort (fun a b c h1 h2 => by simp at *; omega) (fun a b => by simp; omega) zs
  have h2 : (zs.mergeSort fun x y => decide (x ≤ y)).Nodup := (List.mergeSort_perm zs _).nodup_iff.2 h
  refine (h1.and h2).imp ?_
  rintro a b ⟨h3, h4⟩
  simp at h3
  omega
set_option maxHeartbeats 4000000 in
set_option maxRecDepth 100000 in
theorem rising_any (b cnt : Nat) (D : DataW Unit) (w : World) (hcnt : cnt ≤ 1048576) (h : SetAt w b cnt D) :
    Calls Try.prog 47 #[.map (some b)] w fun e w' => ∃ (g cap : Nat) (zs : List Int), e = .returned (.slice (some ⟨g, 0, none⟩) zs.length cap) ∧ w'.ownsRow w.heap.size 2 1 (.slice (some ⟨g, 0, none⟩) zs.length cap) zs.length (zs.flatMap intCell) ∧ zs.Pairwise (· < ·) ∧ (∀ z, z ∈ zs ↔ W64 z ∧ Go.Maps.has D (.int .i64 z) = true) ∧ Below w.heap.size w w' := by
  obtain ⟨i0, hi, hz0, hz1, hz2⟩ := info_parts info64
  have hown : w.ownsMap Try.prog 2 (unitElem (H := Unit)) b cnt D := h
  have hbl := hown.lt
  have hsz := hown.size_le
  clear h
  go_enter Try.func47, Try.ntmps47
  go_wp2_with (first
    | (at_len; refine wpList_len_own _ rfl _ 79 rfl 2 91 Try.underlying79 _ b cnt _ rfl hown ?_)
    | (at_make; refine wpList_make_own _ rfl _ _ 33 rfl w.heap.size 2 i0 (.int .i64 0) 1 Try.underlying33 hi hz0 hz1 _ _ _ (Go.Maps.size D) rfl rfl rfl (by rw [hz2]; omega) (by unfold maxLen; omega) (Nat.le_refl _) ?_; intro w1 hrow1 hg1)
    | (at_range; refine wpList_range_own _ rfl _ 79 rfl 2 91 law64 Try.underlying79 _ b cnt _ rfl (hown.kept hg1 (by simp)) ?_; intro w0 hrg0 hg0 hs0)
    | go_in)
  go_frame
  go_loopw [3] (fun v wr => ∃ (left : Lit → Bool) (cn : Nat) (zs : List Int), wr.ranges Try.prog 2 (unitElem (H := Unit)) b w1.heap.size cnt D left cn ∧ zs.length + cn ≤ Go.Maps.size D ∧ wr.ownsRow w.heap.size 2 1 v zs.length (zs.map (Value.int .i64)) ∧ v ≠ .slice none 0 0 ∧ CollI D left zs ∧ Below w.heap.size w wr) (fun _ wr => wr.rangeLeft b w1.heap.size)
  case atStart =>
    exact ⟨_, _, [], hrg0, by simp, hrow1.kept hg0 (Or.inr (by simp [Value.ownBlock])), by simp, CollI.start D, ((Below.refl _ _).grown hg1 (Nat.le_refl _) (fun j hj => by cases hj)).grown hg0 hg1.size (fun j hj => by cases hj)⟩
  case round =>
    obtain ⟨left, cn, zs, hrg, hcs, hrow, hnn, hC, hnx⟩ := hrel
    go_wp2_with (first
      | (at_next; refine wpList_next_ranges _ rfl _ rfl 2 law64 (unitElem (H := Unit)) (Value.int .i64) (fun (_ : Unit) => Value.agg #[]) (fun key kl hk => by obtain ⟨x, hx, _⟩ := Go.Maps.keyOf_int_inv Try.underlying2 hk; exact ⟨x, hx⟩) (fun v y hv => by obtain ⟨rfl, _⟩ := unitElem_inv hv; exact ⟨(), rfl⟩) b w1.heap.size cnt _ _ _ rfl hrg ?_ ?_)
      | go_in)
    · intro hc0 hl0
      rcases hrow.2 with ⟨hnil, _⟩ | ⟨g, cap, cur, rfl, hbase, hb, h1, h2, h3, h4⟩
      · exact absurd hnil hnn
      have hH : Go.Sort.Holds (Value.int .i64) wr g 0 zs.toArray := holds_of_blockI hb (by simpa using h4)
      have hgl : g < wr.heap.size := (Array.getElem?_eq_some_iff.1 hb).1
      have hc := sort_any g cap zs wr hH hgl (by omega)
      have HP : Hid ((zs.mergeSort fun x y => decide (x ≤ y)).Pairwise (· < ·) ∧ (∀ z, z ∈ (zs.mergeSort fun x y => decide (x ≤ y)) ↔ W64 z ∧ Go.Maps.has D (.int .i64 z) = true) ∧ (zs.mergeSort fun x y => decide (x ≤ y)).length = zs.length) := by
        refine ⟨sorted_lt zs hC.nodup, fun z => ?_, (List.mergeSort_perm zs _).length_eq⟩
        rw [(List.mergeSort_perm zs _).mem_iff, hC.mem]
        exact ⟨fun q => ⟨q.1, q.2.1⟩, fun q => ⟨q.1, q.2, hl0 _⟩⟩
      go_wp2_with (go_at_call 57; refine hc.mono ?_; rintro e w' ⟨rfl, nn, os, rfl⟩)
      go_ret
      refine ⟨g, cap, zs.mergeSort fun x y => decide (x ≤ y), ?_, ?_, HP.out.1, HP.out.2.1, hnx.grown (grownBy_sortedI _) hnx.size (fun j hj => by cases hj; exact hbase)⟩
      · rw [HP.out.2.2]
        rfl
      · rw [HP.out.2.2, ints_flat]
        exact ownsRow_sortedI HP.out.2.2 hbase hb h1 h2 h3
    · intro x c kl y w2 cnt2 hkey hlk hv hat hrg2 hlt hg2 hs2 hen
      obtain ⟨x', ex, rfl, hwx⟩ := Go.Maps.keyOf_int_inv Try.underlying2 hkey
      obtain rfl : x = x' := by cases ex; rfl
      have hrow2 := hrow.kept hg2 (Or.inr (Go.row_ne_iter hrow hrg).symm)
      clear hs2
      go_wp2_with (first
        | (at_builtin; refine wpList_append_own _ rfl _ _ 33 rfl w.heap.size 2 i0 (.int .i64 0) 1 8 Try.underlying33 hi hz0 hz1 hz2 rfl (by decide) _ _ _ rfl (hrow2.alloc _) ⟨w2.heap.size, 0, none⟩ 1 1 [.int .i64 x] rfl rfl (Go.cell_one_new _ _ _) (fun u hu => by simp at hu; subst hu; rfl) (by unfold maxLen; omega) (by omega) (by have := hnx.size; have := hg2.size; simp; omega) ?_; intro v' w3 hown' hg3 hnil3; go_frame)
        | go_in)
      have hrg3 := (hrg2.alloc (.cells #[.int .i64 x] 2)).kept hg3 (Go.row_ne_low hrow2 hbl) (Go.row_ne_iter hrow2 hrg2)
      go_roundw
      case rel =>
        refine ⟨_, cnt2, zs ++ [x], hrg3, by simp; omega, by simpa using hown', fun hv' => by have := (hnil3.1 hv').2; omega, hC.step hwx hlk hat, ?_⟩
        exact ((hnx.grown hg2 hnx.size (fun j hj => by cases hj; exact hg1.size)).alloc (by have := hnx.size; have := hg2.size; omega) _).grown hg3 (by have := hnx.size; have := hg2.size; simp; omega) (fun j hj => (hrow2.lt j hj).1)
      case measure => rw [hrg3.left_eq, hrg.left_eq]; exact hlt
end Go.Proofs.Ytdbaghmjomdmbaa
