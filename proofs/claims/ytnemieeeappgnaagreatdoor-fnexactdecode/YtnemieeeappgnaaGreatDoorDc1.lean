import Derived.Test.YtnemieeeappgnaaGreatDoorDc0
import Derived.Test.YtnemieeeappgnaaGreatDoorRows
import Derived.WalkKit
import Derived.ProofKit
import Derived.OpenShut
import Derived.Below
import Derived.Outline
import Derived.WalkLawsBesides
import Derived.Laws.Rows
import Derived.Laws.OwnMore
import Derived.OwnWalk
import Derived.Deep.QuietTactic
import Derived.BigQuiet
namespace Go.Proofs.YtnemieeeappgnaaGreatDoor
open Go.ChangeShapes Go.WideShapes Go.ChangeAt Go.RowKit
set_option linter.unusedVariables false

def getAcc (zs : List Int) (p : Nat) : Nat → Int
  | 0 => 0
  | k + 1 => bits .or .u64 (getAcc zs p k) (IntKind.u64.wrap (IntKind.u64.wrap (zs[p + k]?.getD 0) * 2 ^ (8 * k)))
theorem zero_num (w : World) : (zeroValue 39).run Tryz.prog w = .ok (.agg #[.bool false, .int .i64 0]) w := by kernel_rfl
theorem map_at (zs : List Int) (j : Nat) (h : j < zs.length) : (zs.map (Value.int .u8))[j]? = some (.int .u8 (zs.getD j 0)) := by
  rw [List.getElem?_map, List.getElem?_eq_getElem h, List.getD_eq_getElem?_getD, List.getElem?_eq_getElem h]
  rfl

set_option maxHeartbeats 1000000 in
theorem SGetNumber_in (s : Value) (L : Nat) (zs : List Int) (p n : Nat) (w : World) (hL : L ≤ 1048576) (h : Reads w s L (zs.map (Value.int .u8))) (h1 : 1 ≤ n) (h8 : n ≤ 8) (hp : p + n ≤ L) :
    Calls Tryz.prog 12 #[s, .int .i64 p, .int .i64 n] w fun e w' => e = .returned (.agg #[.bool true, .int .i64 (wrap64 (getAcc zs p n))]) ∧ Below w.heap.size w w' := by
  have hzero := zero_num
  have hlen : zs.length = L := by simpa using h.1
  obtain ⟨g, o, c, rfl, hc⟩ : ∃ g o c, s = .slice (some ⟨g, o, none⟩) L c ∧ ∀ j u, (zs.map (Value.int .u8))[j]? = some u → w.cell? ⟨g, o + j, none⟩ = some u := by
    rcases h.2 with ⟨e0, _⟩ | h
    · omega
    · exact h
  have HC : Hid (∀ j, j < L → w.cell? ⟨g, o + j, none⟩ = some (.int .u8 (zs.getD j 0))) := fun j hj => hc j _ (map_at zs j (by omega))
  have hgw : g < w.heap.size := block_lt_of_cell (HC.out p (by omega))
  clear h hc hlen
  have d1 : decide ((n : Int) < 1) = false := by simp; omega
  have d2 : decide (8 < (n : Int)) = false := by simp; omega
  have d3 : decide ((p : Int) < 0) = false := by simp
  have d4 : decide ((L : Int) - n < p) = false := by simp; omega
  go_enter Tryz.func12, Tryz.ntmps12
  go_wp2
  go_loopw [7, 8] (fun v i wr => ∃ k : Nat, k ≤ n ∧ v = .int .u64 (getAcc zs p k) ∧ i = .int .i64 k ∧ wr = w.alloc (.cells #[.bool false, .int .i64 0] 39)) (fun _ i _ => n - (intOf i).toNat)
  case atStart => exact ⟨0, by omega, rfl, rfl, rfl⟩
  case round =>
    obtain ⟨k, hk, rfl, rfl, rfl⟩ := hrel
    by_cases hlt : k < n
    · have hcell := HC.out (p + k) (by omega)
      go_wp2
      go_roundw
      case rel => exact ⟨k + 1, by omega, rfl, by go_num, trivial⟩
      case measure => simp [intOf]; omega
    · have hkn : k = n := by omega
      subst hkn
      go_wp2
      exact bodyPost_ret (v := .agg #[.bool true, .int .i64 (wrap64 (getAcc zs p k))]) (by simp [results, Tryz.results12, go_sem]) rfl ⟨rfl, (Below.refl _ _).alloc (Nat.le_refl _) _⟩

set_option maxHeartbeats 1000000 in
theorem GetNumber_in (s : Value) (L : Nat) (zs : List Int) (p n : Nat) (w : World) (hL : L ≤ 1048576) (h : Reads w s L (zs.map (Value.int .u8))) (hcap : ∀ a c, s = .slice a L c → L ≤ c) (h1 : 1 ≤ n) (h8 : n ≤ 8) (hp : p + n ≤ L) :
    Calls Tryz.prog 76 #[s, .int .i64 p, .int .i64 n] w fun e w' => e = .returned (.agg #[.bool true, .int .i64 (wrap64 (getAcc zs p n))]) ∧ Below w.heap.size w w' := by
  have hzero := zero_num
  have hlen : zs.length = L := by simpa using h.1
  obtain ⟨g, o, c, rfl, hc⟩ : ∃ g o c, s = .slice (some ⟨g, o, none⟩) L c ∧ ∀ j u, (zs.map (Value.int .u8))[j]? = some u → w.cell? ⟨g, o + j, none⟩ = some u := by
    rcases h.2 with ⟨e0, _⟩ | h
    · omega
    · exact h
  have HC : Hid (∀ j, j < L → w.cell? ⟨g, o + j, none⟩ = some (.int .u8 (zs.getD j 0))) := fun j hj => hc j _ (map_at zs j (by omega))
  have hgw : g < w.heap.size := block_lt_of_cell (HC.out p (by omega))
  have hLc : L ≤ c := hcap _ _ rfl
  clear h hc hlen hcap
  have d1 : decide ((n : Int) < 1) = false := by simp; omega
  have d2 : decide (8 < (n : Int)) = false := by simp; omega
  have d3 : decide ((p : Int) < 0) = false := by simp
  have d4 : decide ((L : Int) - n < p) = false := by simp; omega
  go_enter Tryz.func76, Tryz.ntmps76
  go_wp2
  go_loopw [7, 36] (fun v i wr => ∃ k : Nat, k ≤ n ∧ v = .int .u64 (getAcc zs p k) ∧ i = .int .i64 k ∧ wr = w.alloc (.cells #[.bool false, .int .i64 0] 39)) (fun _ i _ => n - (intOf i).toNat)
  case atStart => exact ⟨0, by omega, rfl, rfl, rfl⟩
  case round =>
    obtain ⟨k, hk, rfl, rfl, rfl⟩ := hrel
    by_cases hlt : k < n
    · have hcell := HC.out (p + k) (by omega)
      rw [← Nat.add_assoc] at hcell
      go_wp2
      go_roundw
      case rel => exact ⟨k + 1, by omega, rfl, by go_num, trivial⟩
      case measure => simp [intOf]; omega
    · have hkn : k = n := by omega
      subst hkn
      go_wp2
      exact bodyPost_ret (v := .agg #[.bool true, .int .i64 (wrap64 (getAcc zs p k))]) (by simp [results, Tryz.results76, go_sem]) rfl ⟨rfl, (Below.refl _ _).alloc (Nat.le_refl _) _⟩

/-- The arguments at which there is no number. -/
def badNum (L : Nat) (p n : Int) : Bool := decide (n < 1) || (decide (8 < n) || (decide (p < 0) || decide ((L : Int) - n < p)))
set_option maxHeartbeats 1000000 in
theorem GetNumber_bad (a : Option Addr) (L c : Nat) (p n : Int) (w : World) (hL : L ≤ 1048576) (h : n < 1 ∨ 8 < n ∨ p < 0 ∨ (L : Int) - n < p) :
    Calls Tryz.prog 76 #[.slice a L c, .int .i64 p, .int .i64 n] w fun e w' => e = .returned (.agg #[.bool false, .int .i64 0]) ∧ Below w.heap.size w w' := by
  have hzero := zero_num
  by_cases c1 : n < 1
  · have d1 : decide (n < 1) = true := by simpa using c1
    clear h
    go_enter Tryz.func76, Tryz.ntmps76
    go_wp2
    exact bodyPost_ret (v := .agg #[.bool false, .int .i64 0]) (by simp [results, Tryz.results76, go_sem]) rfl ⟨rfl, (Below.refl _ _).alloc (Nat.le_refl _) _⟩
  · have d1 : decide (n < 1) = false := by simpa using c1
    by_cases c2 : 8 < n
    · have d2 : decide (8 < n) = true := by simpa using c2
      clear h
      go_enter Tryz.func76, Tryz.ntmps76
      go_wp2
      exact bodyPost_ret (v := .agg #[.bool false, .int .i64 0]) (by simp [results, Tryz.results76, go_sem]) rfl ⟨rfl, (Below.refl _ _).alloc (Nat.le_refl _) _⟩
    · have d2 : decide (8 < n) = false := by simpa using c2
      by_cases c3 : p < 0
      · have d3 : decide (p < 0) = true := by simpa using c3
        clear h
        go_enter Tryz.func76, Tryz.ntmps76
        go_wp2
        exact bodyPost_ret (v := .agg #[.bool false, .int .i64 0]) (by simp [results, Tryz.results76, go_sem]) rfl ⟨rfl, (Below.refl _ _).alloc (Nat.le_refl _) _⟩
      · have d3 : decide (p < 0) = false := by simpa using c3
        have d4 : decide ((L : Int) - n < p) = true := by simp; omega
        clear h
        go_enter Tryz.func76, Tryz.ntmps76
        go_wp2
        exact bodyPost_ret (v := .agg #[.bool false, .int .i64 0]) (by simp [results, Tryz.results76, go_sem]) rfl ⟨rfl, (Below.refl _ _).alloc (Nat.le_refl _) _⟩
set_option maxHeartbeats 1000000 in
theorem SGetNumber_bad (a : Option Addr) (L c : Nat) (p n : Int) (w : World) (hL : L ≤ 1048576) (h : n < 1 ∨ 8 < n ∨ p < 0 ∨ (L : Int) - n < p) :
    Calls Tryz.prog 12 #[.slice a L c, .int .i64 p, .int .i64 n] w fun e w' => e = .returned (.agg #[.bool false, .int .i64 0]) ∧ Below w.heap.size w w' := by
  have hzero := zero_num
  by_cases c1 : n < 1
  · have d1 : decide (n < 1) = true := by simpa using c1
    clear h
    go_enter Tryz.func12, Tryz.ntmps12
    go_wp2
    exact bodyPost_ret (v := .agg #[.bool false, .int .i64 0]) (by simp [results, Tryz.results12, go_sem]) rfl ⟨rfl, (Below.refl _ _).alloc (Nat.le_refl _) _⟩
  · have d1 : decide (n < 1) = false := by simpa using c1
    by_cases c2 : 8 < n
    · have d2 : decide (8 < n) = true := by simpa using c2
      clear h
      go_enter Tryz.func12, Tryz.ntmps12
      go_wp2
      exact bodyPost_ret (v := .agg #[.bool false, .int .i64 0]) (by simp [results, Tryz.results12, go_sem]) rfl ⟨rfl, (Below.refl _ _).alloc (Nat.le_refl _) _⟩
    · have d2 : decide (8 < n) = false := by simpa using c2
      by_cases c3 : p < 0
      · have d3 : decide (p < 0) = true := by simpa using c3
        clear h
        go_enter Tryz.func12, Tryz.ntmps12
        go_wp2
        exact bodyPost_ret (v := .agg #[.bool false, .int .i64 0]) (by simp [results, Tryz.results12, go_sem]) rfl ⟨rfl, (Below.refl _ _).alloc (Nat.le_refl _) _⟩
      · have d3 : decide (p < 0) = false := by simpa using c3
        have d4 : decide ((L : Int) - n < p) = true := by simp; omega
        clear h
        go_enter Tryz.func12, Tryz.ntmps12
        go_wp2
        exact bodyPost_ret (v := .agg #[.bool false, .int .i64 0]) (by simp [results, Tryz.results12, go_sem]) rfl ⟨rfl, (Below.refl _ _).alloc (Nat.le_refl _) _⟩
end Go.Proofs.YtnemieeeappgnaaGreatDoor
namespace Go.Proofs.YtnemieeeappgnaaGreatDoor
open Go.ChangeShapes Go.WideShapes Go.ChangeAt Go.RowKit
set_option linter.unusedVariables false

/-- The slice s has n elements of k cells each, in a row: xs. -/
def Rd (w : World) (k : Nat) (s : Value) (n : Nat) (xs : List Value) : Prop :=
  xs.length = n * k ∧ ((n = 0 ∧ ∃ a c, s = .slice a 0 c) ∨ ∃ g o c, s = .slice (some ⟨g, o, none⟩) n c ∧ ∀ j u, xs[j]? = some u → w.cell? ⟨g, o + j, none⟩ = some u)
theorem Rd.of_own {w : World} {base : Nat} {e : TypeId} {s : Value} {k n : Nat} {xs : List Value} (h : w.ownsRow base e k s n xs) : Rd w k s n xs := by
  refine ⟨by simpa using h.1, ?_⟩
  rcases h.2 with ⟨rfl, rfl⟩ | ⟨g, cap, cur, rfl, hb, hg, hnc, hcm, hcs, ht⟩
  · exact .inl ⟨rfl, _, _, rfl⟩
  · refine .inr ⟨g, 0, cap, rfl, fun j u hj => ?_⟩
    rw [cell_of_row w g _ cur e _ hg, Nat.zero_add]
    rw [← ht] at hj
    obtain ⟨hlt, hj⟩ := List.getElem?_eq_some_iff.1 hj
    rw [List.getElem_take] at hj
    rw [← hj]
    simp at hlt
    rw [Array.getElem?_eq_getElem (by omega)]
    simp
theorem Rd.keep {w w' : World} {s : Value} {k n : Nat} {xs : List Value} (h : Rd w k s n xs) {B : Nat} (hb : Below B w w') (hB : w.heap.size ≤ B) : Rd w' k s n xs := by
  obtain ⟨hl, h | ⟨g, o, c, rfl, hc⟩⟩ := h
  · exact ⟨hl, .inl h⟩
  · refine ⟨hl, .inr ⟨g, o, c, rfl, fun j u hj => ?_⟩⟩
    have h1 := hc j u hj
    rw [hb.cell (Nat.lt_of_lt_of_le (block_lt_of_cell h1) hB)]
    exact h1
theorem Rd.is_slice {w : World} {k : Nat} {s : Value} {n : Nat} {xs : List Value} (h : Rd w k s n xs) : ∃ a c, s = .slice a n c := by
  rcases h.2 with ⟨rfl, a, c, rfl⟩ | ⟨g, o, c, rfl, _⟩ <;> exact ⟨_, _, rfl⟩

theorem own_keep {w w' : World} {base : Nat} {e : TypeId} {s : Value} {k n : Nat} {xs : List Value} (h : w.ownsRow base e k s n xs) {B : Nat} (hb : Below B w w') (hB : w.heap.size ≤ B) : w'.ownsRow base e k s n xs := by
  refine ⟨h.1, ?_⟩
  rcases h.2 with h | ⟨g, cap, cur, e1, hb1, hg, hr⟩
  · exact .inl h
  · refine .inr ⟨g, cap, cur, e1, hb1, ?_, hr⟩
    rw [hb.block g (Nat.lt_of_lt_of_le (Array.getElem?_eq_some_iff.1 hg).1 hB)]
    exact hg
theorem flat_length {α : Type} (f : α → List Value) (m : Nat) (hf : ∀ y, (f y).length = m) (ys : List α) : (ys.flatMap f).length = ys.length * m := by
  induction ys with
  | nil => simp
  | cons y r ih => rw [List.flatMap_cons, List.length_append, ih, hf, List.length_cons, Nat.add_mul]; omega
theorem flat_at {α : Type} (f : α → List Value) (m : Nat) (hf : ∀ y, (f y).length = m) (ys : List α) (k j : Nat) (y : α) (hk : ys[k]? = some y) (hj : j < m) : (ys.flatMap f)[k * m + j]? = (f y)[j]? := by
  induction ys generalizing k with
  | nil => cases hk
  | cons x r ih =>
    rw [List.flatMap_cons]
    cases k with
    | zero =>
      simp only [List.getElem?_cons_zero, Option.some.injEq] at hk
      subst hk
      rw [Nat.zero_mul, Nat.zero_add, List.getElem?_append_left (by rw [hf]; exact hj)]
    | succ k =>
      rw [List.getElem?_cons_succ] at hk
      rw [List.getElem?_append_right (by rw [hf, Nat.add_mul]; omega), hf, ← ih k hk]
      congr 1
      rw [Nat.add_mul]
      omega
/-- Copied up to k, in elements of whatever cells. -/
def flatTo {α : Type} (f : α → List Value) (z : List Value) (ys : List α) (k n : Nat) : List Value := (ys.take k).flatMap f ++ (List.replicate (n - k) z).flatten
theorem flatTo_all {α : Type} (f : α → List Value) (z : List Value) (ys : List α) (n : Nat) (h : ys.length = n) : flatTo f z ys n n = ys.flatMap f := by simp [flatTo, ← h]
theorem flatTo_zero {α : Type} (f : α → List Value) (z : List Value) (ys : List α) (n : Nat) (v : Value) (m : Nat) (hv : v.cells = z.toArray) (hm : z.length = m) (h0 : 0 < m) : (madeCells v.cells (n * m)).toList = flatTo f z ys 0 n := by
  subst hm
  rw [hv]
  unfold flatTo
  rw [List.take_zero, List.flatMap_nil, List.nil_append, Nat.sub_zero]
  apply List.ext_getElem?
  intro i
  have hl : (List.replicate n z).flatten = (List.replicate n z).flatMap id := by simp [List.flatMap_id]
  by_cases hi : i < n * z.length
  · have hq : i / z.length < n := (Nat.div_lt_iff_lt_mul h0).2 hi
    have hr := Nat.mod_lt i h0
    have e : i = i / z.length * z.length + i % z.length := by rw [Nat.mul_comm]; exact (Nat.div_add_mod i z.length).symm
    have hx : (List.replicate n z).flatten[i]? = z[i % z.length]? := by
      conv => lhs; rw [e]
      clear e
      generalize i / z.length = q at hq
      generalize i % z.length = r at hr
      clear hi hl
      induction n generalizing q with
      | zero => omega
      | succ n ih =>
        rw [List.replicate_succ, List.flatten_cons]
        cases q with
        | zero => rw [Nat.zero_mul, Nat.zero_add, List.getElem?_append_left hr]
        | succ q =>
          rw [List.getElem?_append_right (by rw [Nat.add_mul]; omega), ← ih q (by omega)]
          congr 1
          rw [Nat.add_mul]
          omega
    rw [hx]
    have hi' : i < (madeCells z.toArray (n * z.length)).toList.length := by simp [madeCells]; exact hi
    rw [List.getElem?_eq_getElem hi', List.getElem?_eq_getElem hr]
    simp [madeCells]
    rw [List.getElem?_eq_getElem hr]
    rfl
  · have h1 : (madeCells z.toArray (n * z.length)).toList.length ≤ i := by simp [madeCells]; omega
    have h2 : (List.replicate n z).flatten.length ≤ i := by
      rw [List.length_flatten]
      simp
      omega
    rw [List.getElem?_eq_none h1, List.getElem?_eq_none h2]
theorem flatTo_parts {α : Type} (f : α → List Value) (z : List Value) (ys : List α) (k n : Nat) (hk : k < n) : flatTo f z ys k n = (ys.take k).flatMap f ++ (z ++ (List.replicate (n - (k + 1)) z).flatten) := by
  unfold flatTo
  have e : n - k = (n - (k + 1)) + 1 := by omega
  rw [e, List.replicate_succ, List.flatten_cons]
theorem flatTo_next {α : Type} (f : α → List Value) (z : List Value) (ys : List α) (k n : Nat) (y : α) (hy : ys[k]? = some y) : flatTo f z ys (k + 1) n = (ys.take k).flatMap f ++ (f y ++ (List.replicate (n - (k + 1)) z).flatten) := by
  unfold flatTo
  obtain ⟨hlt, rfl⟩ := List.getElem?_eq_some_iff.1 hy
  rw [List.take_succ_eq_append_getElem hlt, List.flatMap_append, List.append_assoc]
  simp
theorem set1 (A R : List Value) (z0 c0 : Value) (i : Nat) (h : A.length = i) : (A ++ ([z0] ++ R)).set i c0 = A ++ ([c0] ++ R) := by
  subst h
  simp
theorem set2 (A R : List Value) (z0 z1 c0 c1 : Value) (i : Nat) (h : A.length = i) : ((A ++ ([z0, z1] ++ R)).set i c0).set (i + 1) c1 = A ++ ([c0, c1] ++ R) := by
  subst h
  simp [List.set_append_right]
theorem set4 (A R : List Value) (z0 z1 z2 z3 c0 c1 c2 c3 : Value) (i : Nat) (h : A.length = i) : ((((A ++ ([z0, z1, z2, z3] ++ R)).set i c0).set (i + 1) c1).set (i + 2) c2).set (i + 3) c3 = A ++ ([c0, c1, c2, c3] ++ R) := by
  subst h
  simp [List.set_append_right]
theorem flatTo_length {α : Type} (f : α → List Value) (z : List Value) (ys : List α) (k n m : Nat) (hf : ∀ y, (f y).length = m) (hz : z.length = m) (hk : k ≤ n) (hy : ys.length = n) : (flatTo f z ys k n).length = n * m := by
  unfold flatTo
  rw [List.length_append, flat_length f m hf, List.length_flatten]
  simp [hz, hy]
  rw [Nat.min_eq_left hk, ← Nat.add_mul]
  congr 1
  omega
/-- A place of one of the elements. -/
theorem Rd.elem {α : Type} {f : α → List Value} {m : Nat} {w : World} {ys : List α} {g o : Nat} (hf : ∀ y, (f y).length = m) (h : ∀ j u, (ys.flatMap f)[j]? = some u → w.cell? ⟨g, o + j, none⟩ = some u) (k : Nat) (y : α) (hy : ys[k]? = some y) (j : Nat) (u : Value) (hj : (f y)[j]? = some u) : w.cell? ⟨g, o + k * m + j, none⟩ = some u := by
  have hjm : j < m := by rw [← hf y]; exact (List.getElem?_eq_some_iff.1 hj).1
  rw [Nat.add_assoc]
  exact h _ u ((flat_at f m hf ys k j y hy hjm).trans hj)
end Go.Proofs.YtnemieeeappgnaaGreatDoor
