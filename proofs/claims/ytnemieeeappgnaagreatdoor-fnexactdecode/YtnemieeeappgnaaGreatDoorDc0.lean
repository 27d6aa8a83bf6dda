import Derived.Test.YtnemieeeappgnaaGreatDoorRows
import Derived.WalkKit
import Derived.ProofKit
import Derived.OpenShut
import Derived.Below
import Derived.Outline
import Derived.WalkLawsBesides
import Derived.Laws.Rows
import Derived.Laws.OwnMore
import Derived.Deep.QuietTactic
import Derived.BigQuiet
namespace Go.Proofs.YtnemieeeappgnaaGreatDoor
open Go.ChangeShapes Go.WideShapes Go.ChangeAt Go.RowKit
set_option linter.unusedVariables false

/-- The slice s has the n cells xs. -/
def Reads (w : World) (s : Value) (n : Nat) (xs : List Value) : Prop :=
  xs.length = n ∧ ((n = 0 ∧ ∃ a c, s = .slice a 0 c) ∨ ∃ g o c, s = .slice (some ⟨g, o, none⟩) n c ∧ ∀ j u, xs[j]? = some u → w.cell? ⟨g, o + j, none⟩ = some u)
theorem Reads.of_own {w : World} {base : Nat} {e : TypeId} {s : Value} {n : Nat} {xs : List Value} (h : w.ownsRow base e 1 s n xs) : Reads w s n xs := by
  refine ⟨by simpa using h.1, ?_⟩
  rcases h.2 with ⟨rfl, rfl⟩ | ⟨g, cap, cur, rfl, hb, hg, hnc, hcm, hcs, ht⟩
  · exact .inl ⟨rfl, _, _, rfl⟩
  · refine .inr ⟨g, 0, cap, rfl, fun j u hj => ?_⟩
    rw [cell_of_row w g _ cur e _ hg, Nat.zero_add]
    rw [← ht] at hj
    obtain ⟨hlt, hj⟩ := List.getElem?_eq_some_iff.1 hj
    rw [List.getElem_take] at hj
    rw [← hj]
    simp at hlt
    rw [Array.getElem?_eq_getElem (by omega)]
    simp
theorem Reads.keep {w w' : World} {s : Value} {n : Nat} {xs : List Value} (h : Reads w s n xs) (hb : Below w.heap.size w w') : Reads w' s n xs := by
  obtain ⟨hl, h | ⟨g, o, c, rfl, hc⟩⟩ := h
  · exact ⟨hl, .inl h⟩
  · refine ⟨hl, .inr ⟨g, o, c, rfl, fun j u hj => ?_⟩⟩
    have h1 := hc j u hj
    rw [hb.cell (block_lt_of_cell h1)]
    exact h1

theorem below_drewNb (B : Nat) (w : World) (nq : Nat) : Below B w (w.drewN nq) := ⟨rfl, rfl, rfl, Nat.le_refl _, fun _ _ => rfl⟩

set_option maxHeartbeats 1000000 in
theorem eqByteS_same (s s' : Value) (n : Nat) (zs : List Int) (w : World) (hn : n ≤ 140737488355328) (h : Reads w s n (zs.map (Value.int .u8))) (h' : Reads w s' n (zs.map (Value.int .u8))) :
    Calls Tryz.prog 8 #[s, s'] w fun e w' => e = .returned (.bool true) ∧ Below w.heap.size w w' := by
  have hlen : zs.length = n := by simpa using h.1
  have H1 : Hid (Reads w s n (zs.map (Value.int .u8))) := h
  have H2 : Hid (Reads w s' n (zs.map (Value.int .u8))) := h'
  have hs : ∃ a c, s = .slice a n c := by rcases h.2 with ⟨rfl, a, c, rfl⟩ | ⟨g, o, c, rfl, _⟩ <;> exact ⟨_, _, rfl⟩
  have hs' : ∃ a c, s' = .slice a n c := by rcases h'.2 with ⟨rfl, a, c, rfl⟩ | ⟨g, o, c, rfl, _⟩ <;> exact ⟨_, _, rfl⟩
  clear h h'
  obtain ⟨a1, c1, rfl⟩ := hs
  obtain ⟨a2, c2, rfl⟩ := hs'
  go_enter Tryz.func8, Tryz.ntmps8
  go_wp2
  go_loopw [5] (fun i wr => ∃ k : Nat, k ≤ n ∧ i = .int .i64 k ∧ Below w.heap.size w wr) (fun i _ => n - (intOf i).toNat)
  case atStart => exact ⟨0, by omega, rfl, Below.refl _ _⟩
  case round =>
    obtain ⟨k, hk, rfl, hbel⟩ := hrel
    have HB : Hid (Below w.heap.size w wr) := hbel
    clear hbel
    by_cases hlt : k < n
    · have hz : (zs.map (Value.int .u8))[k]? = some (.int .u8 (zs.getD k 0)) := by
        rw [List.getElem?_map, List.getElem?_eq_getElem (by omega), List.getD_eq_getElem?_getD, List.getElem?_eq_getElem (by omega)]
        rfl
      rcases H1.out.2 with ⟨e0, _⟩ | ⟨g, o, c, e1, hc1⟩
      · omega
      · rcases H2.out.2 with ⟨e0, _⟩ | ⟨g', o', c', e2, hc2⟩
        · omega
        · simp only [Value.slice.injEq, true_and] at e1 e2
          obtain ⟨rfl, rfl⟩ := e1
          obtain ⟨rfl, rfl⟩ := e2
          have hcell1 := (HB.out.cell (block_lt_of_cell (hc1 k _ hz))).trans (hc1 k _ hz)
          have hcell2 := (HB.out.cell (block_lt_of_cell (hc2 k _ hz))).trans (hc2 k _ hz)
          generalize zs.getD k 0 = z at hcell1 hcell2
          clear hc1 hc2 hz hlen
          go_wp2
          go_quiet (fail)
          go_wp2
          go_roundw
          case rel => exact ⟨k + 1, by omega, by go_num, HB.out.trans (below_drewNb _ _ _)⟩
          case measure => simp [intOf]; omega
    · go_wp2
      go_ret
      exact ⟨rfl, HB.out⟩

/-- What mark leaves. -/
def markZ (p : Int) (n : Nat) : List Int := (List.range n).map fun (i : Nat) => (p + (i : Int)) % 256
/-- Marked up to k. -/
def markTo (p : Int) (xs : List Value) (k : Nat) : List Value := ((markZ p k).map (Value.int .u8)) ++ xs.drop k
theorem markTo_zero (p : Int) (xs : List Value) : markTo p xs 0 = xs := by simp [markTo, markZ]
theorem markTo_all (p : Int) (xs : List Value) (n : Nat) (h : xs.length = n) : markTo p xs n = (markZ p n).map (Value.int .u8) := by simp [markTo, ← h]
theorem markTo_set (p : Int) (xs : List Value) (k : Nat) (h : k < xs.length) : (markTo p xs k).set k (.int .u8 ((p + k) % 256)) = markTo p xs (k + 1) := by
  unfold markTo
  rw [List.set_append_right _ _ (by simp [markZ])]
  have e : k - ((markZ p k).map (Value.int .u8)).length = 0 := by simp [markZ]
  rw [e, List.drop_eq_getElem_cons h, List.set_cons_zero]
  simp [markZ, List.range_succ]
theorem markTo_length (p : Int) (xs : List Value) (k : Nat) (h : k ≤ xs.length) : (markTo p xs k).length = xs.length := by simp [markTo, markZ]; omega

set_option maxHeartbeats 1000000 in
theorem markByteS_any (s : Value) (n base : Nat) (xs : List Value) (p : Int) (w : World) (hn : n ≤ 140737488355328) (hp : 0 ≤ p) (hp' : p ≤ 1000000) (h : w.ownsRow base 5 1 s n xs) :
    Calls Tryz.prog 9 #[s, .int .i64 p] w fun e w' => e = .returned (.int .i64 (p + n)) ∧ w'.ownsRow base 5 1 s n ((markZ p n).map (Value.int .u8)) ∧ Below base w w' := by
  have hxl : xs.length = n := by simpa using h.1
  have h0 : w.ownsRow base 5 1 s n (markTo p xs 0) := by rw [markTo_zero]; exact h
  have hs : (s = .slice none 0 0 ∧ n = 0) ∨ ∃ g c, s = .slice (some ⟨g, 0, none⟩) n c ∧ base ≤ g := by
    rcases h.2 with h | ⟨g, cap, cur, rfl, hb, _⟩
    · exact .inl h
    · exact .inr ⟨g, cap, rfl, hb⟩
  clear h
  have H0 : Hid (w.ownsRow base 5 1 s n (markTo p xs 0)) := h0
  clear h0
  rcases hs with ⟨rfl, rfl⟩ | ⟨g, c, rfl, hb⟩
  · have hfin : Hid (w.ownsRow base 5 1 (.slice none 0 0) 0 ((markZ p 0).map (Value.int .u8))) := World.ownsRow_nil _ _ _ _
    go_enter Tryz.func9, Tryz.ntmps9
    go_wp2
    go_loopw [1, 5] (fun q i wr => q = .int .i64 p ∧ i = .int .i64 0 ∧ wr = w) (fun _ _ _ => 0)
    case atStart => exact ⟨rfl, rfl, rfl⟩
    case round =>
      obtain ⟨rfl, rfl, rfl⟩ := hrel
      go_wp2
      go_ret
      exact ⟨by simp, hfin.out, Below.refl _ _⟩
  · go_enter Tryz.func9, Tryz.ntmps9
    go_wp2
    go_loopw [1, 5] (fun q i wr => ∃ k : Nat, k ≤ n ∧ q = .int .i64 (p + k) ∧ i = .int .i64 k ∧ wr.ownsRow base 5 1 (.slice (some ⟨g, 0, none⟩) n c) n (markTo p xs k) ∧ Below base w wr) (fun _ i _ => n - (intOf i).toNat)
    case atStart => exact ⟨0, by omega, by simp, rfl, H0.out, Below.refl _ _⟩
    case round =>
      obtain ⟨k, hk, rfl, rfl, hown, hbel⟩ := hrel
      by_cases hlt : k < n
      · have hcell := hown.cellAt k (by omega)
        have hfr := hown.frozenAt k
        have HO : Hid (wr.ownsRow base 5 1 (.slice (some ⟨g, 0, none⟩) n c) n (markTo p xs k)) := hown
        clear hown
        obtain ⟨old, hold⟩ : ∃ old, (markTo p xs k)[k]? = some old := ⟨_, List.getElem?_eq_getElem (by rw [markTo_length _ _ _ (by omega)]; omega)⟩
        rw [hold] at hcell
        clear hold
        go_wp2
        go_roundw
        case rel =>
          refine ⟨k + 1, by omega, by go_num, by go_num, ?_, hbel.setCell hb _⟩
          have hst := (HO.out.stored k (.int .u8 ((p + k) % 256))).1
          rw [markTo_set p xs k (by omega)] at hst
          exact hst
        case measure => simp [intOf]; omega
      · have hkn : k = n := by omega
        subst hkn
        rw [markTo_all p xs k hxl] at hown
        have HO : Hid (wr.ownsRow base 5 1 (.slice (some ⟨g, 0, none⟩) k c) k ((markZ p k).map (Value.int .u8))) := hown
        clear hown
        go_wp2
        go_ret
        exact ⟨rfl, HO.out, hbel⟩

end Go.Proofs.YtnemieeeappgnaaGreatDoor
