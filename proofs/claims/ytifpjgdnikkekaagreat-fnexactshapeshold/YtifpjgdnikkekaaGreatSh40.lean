import Derived.Test.YtifpjgdnikkekaaGreatSh28
import Derived.Test.YtifpjgdnikkekaaGreatSh6
import Derived.Maps.OwnSet
import Derived.Shelf.SlGeneric
import Derived.Shelf.SortG.Plain
import Derived.Shelf.SortG.SortNone
import Derived.Shelf.SlicesG.SearchI
import Derived.Shelf.SlicesG.Turned
import Derived.Ground.SlgnProg
import Derived.Sort.OwnSortedInts
import Derived.Maps.RangeWalk
import Derived.Sort.KeysCollected
import Derived.Maps.AppendAt
namespace Go.Proofs.YtifpjgdnikkekaaGreat
open Go.ChangeShapes Go.WideShapes Go.ChangeAt Go.RowKit
set_option linter.unusedVariables false
set_option maxHeartbeats 1000000 in
theorem namesPlace_any (x : MI) (w : World) : Calls Tryz.prog 155 #[.agg #[.int .i64 x.op, .int .i64 x.a, .int .i64 x.b, .int .i64 x.c]] w fun e w' => e = .returned (.bool (goesB x)) ∧ Below w.heap.size w w' := by
  by_cases h1 : x.op = 25
  · have e : goesB x = true := by simp [goesB, h1]
    rw [e, h1]
    go_enter Tryz.func155, Tryz.ntmps155
    go_wp2
    go_ret
    exact ⟨rfl, (Below.refl _ _).alloc (Nat.le_refl _) _⟩
  · by_cases h2 : x.op = 26
    · have e : goesB x = true := by simp [goesB, h2]
      rw [e, h2]
      go_enter Tryz.func155, Tryz.ntmps155
      go_wp2
      go_ret
      exact ⟨rfl, (Below.refl _ _).alloc (Nat.le_refl _) _⟩
    · by_cases h3 : x.op = 27
      · have e : goesB x = true := by simp [goesB, h3]
        rw [e, h3]
        go_enter Tryz.func155, Tryz.ntmps155
        go_wp2
        go_ret
        exact ⟨rfl, (Below.refl _ _).alloc (Nat.le_refl _) _⟩
      · have e : goesB x = false := by simp [goesB, h1, h2, h3]
        have q1 : (x.op == 25) = false := by simpa using h1
        have q2 : (x.op == 26) = false := by simpa using h2
        have q3 : (x.op == 27) = false := by simpa using h3
        rw [e]
        generalize x.op = op at h1 h2 h3 q1 q2 q3
        go_enter Tryz.func155, Tryz.ntmps155
        go_wp2
        go_ret
        exact ⟨rfl, (Below.refl _ _).alloc (Nat.le_refl _) _⟩
set_option maxHeartbeats 1000000 in
theorem goesOn_any (x : MI) (w : World) : Calls Tryz.prog 111 #[.agg #[.int .i64 x.op, .int .i64 x.a, .int .i64 x.b, .int .i64 x.c]] w fun e w' => e = .returned (.bool (onB x)) ∧ Below w.heap.size w w' := by
  by_cases h1 : x.op = 25
  · have e : onB x = false := by simp [onB, h1]
    rw [e, h1]
    go_enter Tryz.func111, Tryz.ntmps111
    go_wp2
    go_ret
    exact ⟨rfl, (Below.refl _ _).alloc (Nat.le_refl _) _⟩
  · by_cases h2 : x.op = 29
    · have e : onB x = false := by simp [onB, h2]
      rw [e, h2]
      go_enter Tryz.func111, Tryz.ntmps111
      go_wp2
      go_ret
      exact ⟨rfl, (Below.refl _ _).alloc (Nat.le_refl _) _⟩
    · have e : onB x = true := by simp [onB, h1, h2]
      have q1 : (x.op != 25) = true := by simpa using h1
      have q2 : (x.op != 29) = true := by simpa using h2
      rw [e]
      generalize x.op = op at h1 h2 q1 q2
      go_enter Tryz.func111, Tryz.ntmps111
      go_wp2
      go_ret
      exact ⟨rfl, (Below.refl _ _).alloc (Nat.le_refl _) _⟩
set_option maxHeartbeats 1000000 in
theorem isOneOf_f (z : Int) (c : Nat) (w : World) (hc : (c : Int) ≤ 1048576) : Calls Tryz.prog 77 #[.int .i64 z, .int .i64 (c : Int)] w fun e w' => e = .returned (.bool (decide (0 ≤ z ∧ z < (c : Int)))) ∧ w' = w := by
  by_cases h1 : 0 ≤ z
  · by_cases h2 : z < (c : Int)
    · have e : decide (0 ≤ z ∧ z < (c : Int)) = true := by simp [h1, h2]
      rw [e]
      go_enter Tryz.func77, Tryz.ntmps77
      go_wp2
      go_ret
      exact ⟨rfl, rfl⟩
    · have e : decide (0 ≤ z ∧ z < (c : Int)) = false := by simp [h1, h2]
      rw [e]
      go_enter Tryz.func77, Tryz.ntmps77
      go_wp2
      go_ret
      exact ⟨rfl, rfl⟩
  · have e : decide (0 ≤ z ∧ z < (c : Int)) = false := by simp [h1]
    rw [e]
    go_enter Tryz.func77, Tryz.ntmps77
    go_wp2
    go_ret
    exact ⟨rfl, rfl⟩
theorem law64 : Go.Maps.Keyed Tryz.prog 2 := Go.Maps.int_keyed Tryz.underlying2
/-- A set of numbers, in block b. -/
def SetAt (w : World) (b cnt : Nat) (D : DataW Unit) : Prop := w.ownsMap Tryz.prog 2 (unitElem (H := Unit)) b cnt D
set_option maxHeartbeats 2000000 in
set_option maxRecDepth 100000 in
theorem add_one (b cnt g c : Nat) (D : DataW Unit) (z : Int) (w : World) (hz : W64 z) (hcnt : cnt ≤ 1048576) (hc : w.cell? ⟨g, 0, none⟩ = some (.int .i64 z)) (hgb : ¬ g = b) (h : SetAt w b cnt D) :
    Calls Tryz.prog 117 #[.map (some b), .slice (some ⟨g, 0, none⟩) 1 c] w fun e w' => e = .returned (.tuple #[]) ∧ SetAt w' b (cnt + 1) (D.put (.int .i64 z) (.agg [])) ∧ w.grownBy w' (some b) := by
  have H : Hid (SetAt w b cnt D) := h
  clear h
  go_enter Tryz.func117, Tryz.ntmps117
  go_wp2
  go_loopw [8] (fun i wr => ∃ k : Nat, k ≤ 1 ∧ i = .int .i64 k ∧ ((k = 0 ∧ wr = w) ∨ (k = 1 ∧ Hid (SetAt wr b (cnt + 1) (D.put (.int .i64 z) (.agg [])) ∧ w.grownBy wr (some b))))) (fun i _ => 1 - (intOf i).toNat)
  case atStart => exact ⟨0, by omega, rfl, .inl ⟨rfl, rfl⟩⟩
  case round =>
    obtain ⟨k, hk, rfl, hh⟩ := hrel
    rcases hh with ⟨rfl, rfl⟩ | ⟨rfl, HE⟩
    · rw [show ((0 : Nat) : Int) = 0 from rfl]
      go_wp2_with (at_mapUpdate; refine wpList_mapUpdate_own _ rfl _ _ _ 142 rfl 2 205 law64 Tryz.underlying142 (unitElem (H := Unit)) b cnt D rfl H.out (by unfold maxLen; omega) _ _ _ rfl rfl (Go.Maps.keyOf_int_mk Tryz.underlying2 hz) _ [] unitElem_mk ?_; intro w1 hown1 hgrow1)
      have HN : Hid (SetAt w1 b (cnt + 1) (D.put (.int .i64 z) (.agg [])) ∧ _) := ⟨hown1, hgrow1⟩
      clear hown1 hgrow1
      go_wp2
      go_roundw
      case rel => exact ⟨1, by omega, by go_num, .inr ⟨rfl, HN⟩⟩
      case measure => simp [intOf]
    · rw [show ((1 : Nat) : Int) = 1 from rfl]
      go_wp2
      go_end0
      exact ⟨rfl, HE.out.1, HE.out.2⟩
end Go.Proofs.YtifpjgdnikkekaaGreat
namespace Go.Proofs
open Go.Shelf
def Tryz.lSort_ren : Go.Shelf.Ren := ⟨fun | 53 => 145 | 64 => 167 | 63 => 166 | 78 => 186 | 79 => 187 | 70 => 178 | 71 => 179 | 72 => 180 | 73 => 181 | 74 => 182 | 75 => 183 | 59 => 162 | 76 => 184 | 77 => 185 | 88 => 189 | 89 => 190 | 90 => 191 | 91 => 192 | 92 => 193 | 68 => 175 | 96 => 208 | n => n, fun | 22 => 48 | 23 => 2 | 3 => 3 | 51 => 213 | 0 => 0 | 67 => 98 | 69 => 228 | 4 => 4 | 61 => 233 | 60 => 232 | 44 => 198 | 5 => 5 | 9 => 9 | 75 => 242 | 79 => 246 | 83 => 248 | 84 => 249 | n => n, fun | n => n⟩
theorem Tryz.lSort : Go.Proofs.SlLaysN.n53 Tryz.prog Tryz.lSort_ren := {
  mixed := by kernel_rfl
  f53 := ⟨Tryz.f145.name, by decide, Tryz.func145.trans (congrArg some (by kernel_rfl))⟩
  f59 := ⟨Tryz.f162.name, by decide, Tryz.func162.trans (congrArg some (by kernel_rfl))⟩
  f63 := ⟨Tryz.f166.name, by decide, Tryz.func166.trans (congrArg some (by kernel_rfl))⟩
  f64 := Tryz.func167.trans (congrArg some (by kernel_rfl))
  f68 := ⟨Tryz.f175.name, by decide, Tryz.func175.trans (congrArg some (by kernel_rfl))⟩
  f70 := ⟨Tryz.f178.name, by decide, Tryz.func178.trans (congrArg some (by kernel_rfl))⟩
  f71 := ⟨Tryz.f179.name, by decide, Tryz.func179.trans (congrArg some (by kernel_rfl))⟩
  f72 := ⟨Tryz.f180.name, by decide, Tryz.func180.trans (congrArg some (by kernel_rfl))⟩
  f73 := ⟨Tryz.f181.name, by decide, Tryz.func181.trans (congrArg some (by kernel_rfl))⟩
  f74 := ⟨Tryz.f182.name, by decide, Tryz.func182.trans (congrArg some (by kernel_rfl))⟩
  f75 := ⟨Tryz.f183.name, by decide, Tryz.func183.trans (congrArg some (by kernel_rfl))⟩
  f76 := ⟨Tryz.f184.name, by decide, Tryz.func184.trans (congrArg some (by kernel_rfl))⟩
  f77 := ⟨Tryz.f185.name, by decide, Tryz.func185.trans (congrArg some (by kernel_rfl))⟩
  f78 := Tryz.func186.trans (congrArg some (by kernel_rfl))
  f79 := Tryz.func187.trans (congrArg some (by kernel_rfl))
  f88 := ⟨Tryz.f189.name, by decide, Tryz.func189.trans (congrArg some (by kernel_rfl))⟩
  f89 := Tryz.func190.trans (congrArg some (by kernel_rfl))
  f90 := Tryz.func191.trans (congrArg some (by kernel_rfl))
  f91 := ⟨Tryz.f192.name, by decide, Tryz.func192.trans (congrArg some (by kernel_rfl))⟩
  f92 := ⟨Tryz.f193.name, by decide, Tryz.func193.trans (congrArg some (by kernel_rfl))⟩
  f96 := ⟨Tryz.f208.name, by decide, Tryz.func208.trans (congrArg some (by kernel_rfl))⟩
  t0 := Tryz.underlying0
  a0 := Tryz.isAgg0
  z0 := Tryz.sizeOf0
  v0 := Tryz.zeroValue0
  t3 := Tryz.underlying3
  a3 := Tryz.isAgg3
  z3 := Tryz.sizeOf3
  v3 := Tryz.zeroValue3
  t4 := Tryz.underlying4
  a4 := Tryz.isAgg4
  z4 := Tryz.sizeOf4
  v4 := Tryz.zeroValue4
  t5 := Tryz.underlying5
  a5 := Tryz.isAgg5
  z5 := Tryz.sizeOf5
  v5 := Tryz.zeroValue5
  t9 := Tryz.underlying9
  a9 := Tryz.isAgg9
  z9 := Tryz.sizeOf9
  v9 := Tryz.zeroValue9
  t22 := Tryz.underlying48
  a22 := Tryz.isAgg48
  z22 := Tryz.sizeOf48
  v22 := Tryz.zeroValue48
  t23 := Tryz.underlying2
  a23 := Tryz.isAgg2
  z23 := Tryz.sizeOf2
  v23 := Tryz.zeroValue2
  t44 := Tryz.underlying198
  a44 := Tryz.isAgg198
  z44 := Tryz.sizeOf198
  v44 := Tryz.zeroValue198
  t51 := Tryz.underlying213
  a51 := Tryz.isAgg213
  z51 := Tryz.sizeOf213
  v51 := Tryz.zeroValue213
  t60 := Tryz.underlying232
  a60 := Tryz.isAgg232
  z60 := Tryz.sizeOf232
  v60 := Tryz.zeroValue232
  t61 := Tryz.underlying233
  a61 := Tryz.isAgg233
  z61 := Tryz.sizeOf233
  v61 := Tryz.zeroValue233
  t67 := Tryz.underlying98
  a67 := Tryz.isAgg98
  z67 := Tryz.sizeOf98
  v67 := Tryz.zeroValue98
  t69 := Tryz.underlying228
  a69 := Tryz.isAgg228
  z69 := Tryz.sizeOf228
  v69 := Tryz.zeroValue228
  t75 := Tryz.underlying242
  a75 := Tryz.isAgg242
  z75 := Tryz.sizeOf242
  v75 := Tryz.zeroValue242
  t79 := Tryz.underlying246
  a79 := Tryz.isAgg246
  z79 := Tryz.sizeOf246
  v79 := Tryz.zeroValue246
  t83 := Tryz.underlying248
  a83 := Tryz.isAgg248
  z83 := Tryz.sizeOf248
  v83 := Tryz.zeroValue248
  t84 := Tryz.underlying249
  a84 := Tryz.isAgg249
  z84 := Tryz.sizeOf249
  v84 := Tryz.zeroValue249 }
def Tryz.lSearch_ren : Go.Shelf.Ren := ⟨fun | 49 => 138 | 59 => 162 | 60 => 163 | 68 => 175 | n => n, fun | 22 => 48 | 23 => 2 | 3 => 3 | 4 => 4 | 51 => 213 | 0 => 0 | n => n, fun | n => n⟩
theorem Tryz.lSearch : Go.Proofs.SlLaysN.n49 Tryz.prog Tryz.lSearch_ren := {
  mixed := by kernel_rfl
  f49 := ⟨Tryz.f138.name, by decide, Tryz.func138.trans (congrArg some (by kernel_rfl))⟩
  f59 := ⟨Tryz.f162.name, by decide, Tryz.func162.trans (congrArg some (by kernel_rfl))⟩
  f60 := ⟨Tryz.f163.name, by decide, Tryz.func163.trans (congrArg some (by kernel_rfl))⟩
  f68 := ⟨Tryz.f175.name, by decide, Tryz.func175.trans (congrArg some (by kernel_rfl))⟩
  t0 := Tryz.underlying0
  a0 := Tryz.isAgg0
  z0 := Tryz.sizeOf0
  v0 := Tryz.zeroValue0
  t3 := Tryz.underlying3
  a3 := Tryz.isAgg3
  z3 := Tryz.sizeOf3
  v3 := Tryz.zeroValue3
  t4 := Tryz.underlying4
  a4 := Tryz.isAgg4
  z4 := Tryz.sizeOf4
  v4 := Tryz.zeroValue4
  t22 := Tryz.underlying48
  a22 := Tryz.isAgg48
  z22 := Tryz.sizeOf48
  v22 := Tryz.zeroValue48
  t23 := Tryz.underlying2
  a23 := Tryz.isAgg2
  z23 := Tryz.sizeOf2
  v23 := Tryz.zeroValue2
  t51 := Tryz.underlying213
  a51 := Tryz.isAgg213
  z51 := Tryz.sizeOf213
  v51 := Tryz.zeroValue213 }
def Tryz.lContains_ren : Go.Shelf.Ren := ⟨fun | 31 => 93 | 29 => 127 | n => n, fun | 22 => 48 | 23 => 2 | 4 => 4 | 3 => 3 | 0 => 0 | n => n, fun | n => n⟩
theorem Tryz.lContains : Go.Proofs.SlLaysN.n31 Tryz.prog Tryz.lContains_ren := {
  mixed := by kernel_rfl
  f29 := ⟨Tryz.f127.name, by decide, Tryz.func127.trans (congrArg some (by kernel_rfl))⟩
  f31 := ⟨Tryz.f93.name, by decide, Tryz.func93.trans (congrArg some (by kernel_rfl))⟩
  t0 := Tryz.underlying0
  a0 := Tryz.isAgg0
  z0 := Tryz.sizeOf0
  v0 := Tryz.zeroValue0
  t3 := Tryz.underlying3
  a3 := Tryz.isAgg3
  z3 := Tryz.sizeOf3
  v3 := Tryz.zeroValue3
  t4 := Tryz.underlying4
  a4 := Tryz.isAgg4
  z4 := Tryz.sizeOf4
  v4 := Tryz.zeroValue4
  t22 := Tryz.underlying48
  a22 := Tryz.isAgg48
  z22 := Tryz.sizeOf48
  v22 := Tryz.zeroValue48
  t23 := Tryz.underlying2
  a23 := Tryz.isAgg2
  z23 := Tryz.sizeOf2
  v23 := Tryz.zeroValue2 }
end Go.Proofs
namespace Go.Proofs.YtifpjgdnikkekaaGreat
open Go.ChangeShapes Go.WideShapes Go.ChangeAt Go.RowKit
set_option linter.unusedVariables false
theorem sort_any (g cap : Nat) (zs : List Int) (w : World) (hH : Go.Sort.Holds (Value.int .i64) w g 0 zs.toArray) (hb : g < w.heap.size) (hl : zs.length < 4611686018427387904) :
    Calls Tryz.prog 145 #[.slice (some ⟨g, 0, none⟩) zs.length cap] w fun e w' => e = .returned (.tuple #[]) ∧ ∃ n os, w' = Go.Sort.grow (Go.Sort.putRow (Value.int .i64) (Go.Sort.ahead w n) g 0 (zs.mergeSort fun x y => decide (x ≤ y)).toArray) os := by
  have h := AnyG.slices_Sort_int Tryz.lSort g 0 cap zs w hH hb hl
  exact h
end Go.Proofs.YtifpjgdnikkekaaGreat
namespace Go.Proofs.YtifpjgdnikkekaaGreat
open Go.ChangeShapes Go.WideShapes Go.ChangeAt Go.RowKit
set_option linter.unusedVariables false
/-- The numbers met so far. -/
structure CollI (D : DataW Unit) (left : Lit → Bool) (zs : List Int) : Prop where
  nodup : zs.Nodup
  mem : ∀ z, z ∈ zs ↔ W64 z ∧ Go.Maps.has D (.int .i64 z) = true ∧ left (.int .i64 z) = false
theorem CollI.start (D : DataW Unit) : CollI D (Go.Maps.has D) [] := ⟨List.nodup_nil, fun z => ⟨fun h => (by cases h), fun h => by rw [h.2.1] at h; exact absurd h.2.2 (by simp)⟩⟩
theorem sameKey_int (z x : Int) : (Lit.int .i64 z).sameKey (.int .i64 x) = decide (z = x) := by
  by_cases h : z = x
  · subst h
    simp [Lit.sameKey]
  · rw [Go.Maps.sameKey_ne (fun e => h (by cases e; rfl))]
    simp [h]
theorem CollI.step {D : DataW Unit} {left : Lit → Bool} {zs : List Int} {x : Int} {y : DataW Unit} (h : CollI D left zs) (hw : W64 x) (hl : left (.int .i64 x) = true) (hat : ∀ zd, D.atKey (.int .i64 x) zd = y) : CollI D (fun z => left z && !z.sameKey (.int .i64 x)) (zs ++ [x]) := by
  have hx : x ∉ zs := fun e => by
    have := ((h.mem x).1 e).2.2
    rw [hl] at this
    cases this
  refine ⟨?_, fun z => ?_⟩
  · rw [List.nodup_append]
    refine ⟨h.nodup, by simp, ?_⟩
    intro a ha b hb
    simp only [List.mem_cons, List.not_mem_nil, or_false] at hb
    subst hb
    exact fun e => hx (e ▸ ha)
  · rw [List.mem_append, h.mem]
    simp only [List.mem_cons, List.not_mem_nil, or_false, sameKey_int]
    constructor
    · rintro (⟨h1, h2, h3⟩ | rfl)
      · exact ⟨h1, h2, by simp [h3]⟩
      · exact ⟨hw, Go.Maps.has_true_of_atKey hat, by simp⟩
    · rintro ⟨h1, h2, h3⟩
      by_cases e : z = x
      · exact .inr e
      · refine .inl ⟨h1, h2, ?_⟩
        simpa [e] using h3
theorem ints_flat (zs : List Int) : zs.flatMap intCell = zs.map (Value.int .i64) := by
  induction zs with
  | nil => rfl
  | cons z r ih => simp [intCell, ih]
theorem sorted_lt (zs : List Int) (h : zs.Nodup) : (zs.mergeSort fun x y => decide (x ≤ y)).Pairwise (· < ·) := by
  have h1 : (zs.mergeSort fun x y => decide (x ≤ y)).Pairwise (fun a b => decide (a ≤ b) = true) := List.pairwise_mergeSort (fun a b c h1 h2 => by simp at *; omega) (fun a b => by simp; omega) zs
  have h2 : (zs.mergeSort fun x y => decide (x ≤ y)).Nodup := (List.mergeSort_perm zs _).nodup_iff.2 h
  refine (h1.and h2).imp ?_
  rintro a b ⟨h3, h4⟩
  simp at h3
  omega
set_option maxHeartbeats 4000000 in
set_option maxRecDepth 100000 in
theorem rising_any (b cnt : Nat) (D : DataW Unit) (w : World) (hcnt : cnt ≤ 1048576) (h : SetAt w b cnt D) :
    Calls Tryz.prog 141 #[.map (some b)] w fun e w' => ∃ (g cap : Nat) (zs : List Int), e = .returned (.slice (some ⟨g, 0, none⟩) zs.length cap) ∧ w'.ownsRow w.heap.size 2 1 (.slice (some ⟨g, 0, none⟩) zs.length cap) zs.length (zs.flatMap intCell) ∧ zs.Pairwise (· < ·) ∧ (∀ z, z ∈ zs ↔ W64 z ∧ Go.Maps.has D (.int .i64 z) = true) ∧ Below w.heap.size w w' := by
  obtain ⟨i0, hi, hz0, hz1, hz2⟩ := info_parts info64
  have hown : w.ownsMap Tryz.prog 2 (unitElem (H := Unit)) b cnt D := h
  have hbl := hown.lt
  have hsz := hown.size_le
  clear h
  go_enter Tryz.func141, Tryz.ntmps141
  go_wp2_with (first
    | (at_len; refine wpList_len_own _ rfl _ 142 rfl 2 205 Tryz.underlying142 _ b cnt _ rfl hown ?_)
    | (at_make; refine wpList_make_own _ rfl _ _ 48 rfl w.heap.size 2 i0 (.int .i64 0) 1 Tryz.underlying48 hi hz0 hz1 _ _ _ (Go.Maps.size D) rfl rfl rfl (by rw [hz2]; omega) (by unfold maxLen; omega) (Nat.le_refl _) ?_; intro w1 hrow1 hg1)
    | (at_range; refine wpList_range_own _ rfl _ 142 rfl 2 205 law64 Tryz.underlying142 _ b cnt _ rfl (hown.kept hg1 (by simp)) ?_; intro w0 hrg0 hg0 hs0)
    | go_in)
  go_frame
  go_loopw [3] (fun v wr => ∃ (left : Lit → Bool) (cn : Nat) (zs : List Int), wr.ranges Tryz.prog 2 (unitElem (H := Unit)) b w1.heap.size cnt D left cn ∧ zs.length + cn ≤ Go.Maps.size D ∧ wr.ownsRow w.heap.size 2 1 v zs.length (zs.map (Value.int .i64)) ∧ v ≠ .slice none 0 0 ∧ CollI D left zs ∧ Below w.heap.size w wr) (fun _ wr => wr.rangeLeft b w1.heap.size)
  case atStart =>
    exact ⟨_, _, [], hrg0, by simp, hrow1.kept hg0 (Or.inr (by simp [Value.ownBlock])), by simp, CollI.start D, ((Below.refl _ _).grown hg1 (Nat.le_refl _) (fun j hj => by cases hj)).grown hg0 hg1.size (fun j hj => by cases hj)⟩
  case round =>
    obtain ⟨left, cn, zs, hrg, hcs, hrow, hnn, hC, hnx⟩ := hrel
    go_wp2_with (first
      | (at_next; refine wpList_next_ranges _ rfl _ rfl 2 law64 (unitElem (H := Unit)) (Value.int .i64) (fun (_ : Unit) => Value.agg #[]) (fun key kl hk => by obtain ⟨x, hx, _⟩ := Go.Maps.keyOf_int_inv Tryz.underlying2 hk; exact ⟨x, hx⟩) (fun v y hv => by obtain ⟨rfl, _⟩ := unitElem_inv hv; exact ⟨(), rfl⟩) b w1.heap.size cnt _ _ _ rfl hrg ?_ ?_)
      | go_in)
    · intro hc0 hl0
      rcases hrow.2 with ⟨hnil, _⟩ | ⟨g, cap, cur, rfl, hbase, hb, h1, h2, h3, h4⟩
      · exact absurd hnil hnn
      have hH : Go.Sort.Holds (Value.int .i64) wr g 0 zs.toArray := holds_of_blockI hb (by simpa using h4)
      have hgl : g < wr.heap.size := (Array.getElem?_eq_some_iff.1 hb).1
      have hc := sort_any g cap zs wr hH hgl (by omega)
      have HP : Hid ((zs.mergeSort fun x y => decide (x ≤ y)).Pairwise (· < ·) ∧ (∀ z, z ∈ (zs.mergeSort fun x y => decide (x ≤ y)) ↔ W64 z ∧ Go.Maps.has D (.int .i64 z) = true) ∧ (zs.mergeSort fun x y => decide (x ≤ y)).length = zs.length) := by
        refine ⟨sorted_lt zs hC.nodup, fun z => ?_, (List.mergeSort_perm zs _).length_eq⟩
        rw [(List.mergeSort_perm zs _).mem_iff, hC.mem]
        exact ⟨fun q => ⟨q.1, q.2.1⟩, fun q => ⟨q.1, q.2, hl0 _⟩⟩
      go_wp2_with (go_at_call 145; refine hc.mono ?_; rintro e w' ⟨rfl, nn, os, rfl⟩)
      go_ret
      refine ⟨g, cap, zs.mergeSort fun x y => decide (x ≤ y), ?_, ?_, HP.out.1, HP.out.2.1, hnx.grown (grownBy_sortedI _) hnx.size (fun j hj => by cases hj; exact hbase)⟩
      · rw [HP.out.2.2]
        rfl
      · rw [HP.out.2.2, ints_flat]
        exact ownsRow_sortedI HP.out.2.2 hbase hb h1 h2 h3
    · intro x c kl y w2 cnt2 hkey hlk hv hat hrg2 hlt hg2 hs2 hen
      obtain ⟨x', ex, rfl, hwx⟩ := Go.Maps.keyOf_int_inv Tryz.underlying2 hkey
      obtain rfl : x = x' := by cases ex; rfl
      have hrow2 := hrow.kept hg2 (Or.inr (Go.row_ne_iter hrow hrg).symm)
      clear hs2
      go_wp2_with (first
        | (at_builtin; refine wpList_append_own _ rfl _ _ 48 rfl w.heap.size 2 i0 (.int .i64 0) 1 8 Tryz.underlying48 hi hz0 hz1 hz2 rfl (by decide) _ _ _ rfl (hrow2.alloc _) ⟨w2.heap.size, 0, none⟩ 1 1 [.int .i64 x] rfl rfl (Go.cell_one_new _ _ _) (fun u hu => by simp at hu; subst hu; rfl) (by unfold maxLen; omega) (by omega) (by have := hnx.size; have := hg2.size; simp; omega) ?_; intro v' w3 hown' hg3 hnil3; go_frame)
        | go_in)
      have hrg3 := (hrg2.alloc (.cells #[.int .i64 x] 2)).kept hg3 (Go.row_ne_low hrow2 hbl) (Go.row_ne_iter hrow2 hrg2)
      go_roundw
      case rel =>
        refine ⟨_, cnt2, zs ++ [x], hrg3, by simp; omega, by simpa using hown', fun hv' => by have := (hnil3.1 hv').2; omega, hC.step hwx hlk hat, ?_⟩
        exact ((hnx.grown hg2 hnx.size (fun j hj => by cases hj; exact hg1.size)).alloc (by have := hnx.size; have := hg2.size; omega) _).grown hg3 (by have := hnx.size; have := hg2.size; simp; omega) (fun j hj => (hrow2.lt j hj).1)
      case measure => rw [hrg3.left_eq, hrg.left_eq]; exact hlt
end Go.Proofs.YtifpjgdnikkekaaGreat
