/- Mem5: markUint32S, heldUint32S, markMemory, heldMemory. -/
import Derived.Test.YtadkabiipkngiaaMem4
import Derived.Test.YtadkabiipkngiaaAt3
import Derived.Deep.RegionHeld
namespace Go.Proofs.Ytadkabiipkngiaa
open Go.ChangeShapes Go.WideShapes Go.ChangeAt Go.RowKit
set_option linter.unusedVariables false
theorem grown_set {w wr : World} {g : Nat} (h : w.grownBy wr (some g)) (i : Nat) (x : Value) : w.grownBy (wr.setCell ⟨g, i, none⟩ x) (some g) :=
  ⟨h.os, h.tape, h.output, by rw [World.size_setCell]; exact h.size, fun k hk hne => (heap_setCell_other wr _ k x (fun e => hne (by rw [e]))).trans (h.block k hk hne)⟩
/-- What mark leaves. -/
def markW (p : Int) (n : Nat) : List Int := (List.range n).map fun (i : Nat) => (p + (i : Int)) % 4294967296
/-- Marked up to k. -/
def markWTo (p : Int) (xs : List Value) (k : Nat) : List Value := ((markW p k).map (Value.int .u32)) ++ xs.drop k
theorem markWTo_zero (p : Int) (xs : List Value) : markWTo p xs 0 = xs := by simp [markWTo, markW]
theorem markWTo_all (p : Int) (xs : List Value) (n : Nat) (h : xs.length = n) : markWTo p xs n = (markW p n).map (Value.int .u32) := by simp [markWTo, ← h]
theorem markWTo_set (p : Int) (xs : List Value) (k : Nat) (h : k < xs.length) : (markWTo p xs k).set k (.int .u32 ((p + k) % 4294967296)) = markWTo p xs (k + 1) := by
  unfold markWTo
  rw [List.set_append_right _ _ (by simp [markW])]
  have e : k - ((markW p k).map (Value.int .u32)).length = 0 := by simp [markW]
  rw [e, List.drop_eq_getElem_cons h, List.set_cons_zero]
  simp [markW, List.range_succ]
theorem markWTo_length (p : Int) (xs : List Value) (k : Nat) (h : k ≤ xs.length) : (markWTo p xs k).length = xs.length := by simp [markWTo, markW]; omega

set_option maxHeartbeats 1000000 in
theorem markUint32S_any (s : Value) (n base : Nat) (xs : List Value) (p : Int) (w : World) (hn : n ≤ 1048576) (hp : 0 ≤ p) (hp' : p ≤ 1099511627776) (h : w.ownsRow base 102 1 s n xs) :
    Calls Try.prog 36 #[s, .int .i64 p] w fun e w' => e = .returned (.int .i64 (p + n)) ∧ w'.ownsRow base 102 1 s n ((markW p n).map (Value.int .u32)) ∧ w.grownBy w' s.ownBlock := by
  have hxl : xs.length = n := by simpa using h.1
  have h0 : w.ownsRow base 102 1 s n (markWTo p xs 0) := by rw [markWTo_zero]; exact h
  have hs : (s = .slice none 0 0 ∧ n = 0) ∨ ∃ g c, s = .slice (some ⟨g, 0, none⟩) n c ∧ base ≤ g := by
    rcases h.2 with h | ⟨g, cap, cur, rfl, hb, _⟩
    · exact .inl h
    · exact .inr ⟨g, cap, rfl, hb⟩
  clear h
  have H0 : Hid (w.ownsRow base 102 1 s n (markWTo p xs 0)) := h0
  clear h0
  rcases hs with ⟨rfl, rfl⟩ | ⟨g, c, rfl, hb⟩
  · have hfin : Hid (w.ownsRow base 102 1 (.slice none 0 0) 0 ((markW p 0).map (Value.int .u32))) := World.ownsRow_nil _ _ _ _
    go_enter Try.func36, Try.ntmps36
    go_wp2
    go_loopw [1, 5] (fun q i wr => q = .int .i64 p ∧ i = .int .i64 0 ∧ wr = w) (fun _ _ _ => 0)
    case atStart => exact ⟨rfl, rfl, rfl⟩
    case round =>
      obtain ⟨rfl, rfl, rfl⟩ := hrel
      go_wp2
      go_ret
      exact ⟨by simp, hfin.out, ⟨rfl, rfl, rfl, Nat.le_refl _, fun _ _ _ => rfl⟩⟩
  · go_enter Try.func36, Try.ntmps36
    go_wp2
    go_loopw [1, 5] (fun q i wr => ∃ k : Nat, k ≤ n ∧ q = .int .i64 (p + k) ∧ i = .int .i64 k ∧ wr.ownsRow base 102 1 (.slice (some ⟨g, 0, none⟩) n c) n (markWTo p xs k) ∧ w.grownBy wr (some g)) (fun _ i _ => n - (intOf i).toNat)
    case atStart => exact ⟨0, by omega, by simp, rfl, H0.out, ⟨rfl, rfl, rfl, Nat.le_refl _, fun _ _ _ => rfl⟩⟩
    case round =>
      obtain ⟨k, hk, rfl, rfl, hown, hbel⟩ := hrel
      by_cases hlt : k < n
      · have hcell := hown.cellAt k (by omega)
        have hfr := hown.frozenAt k
        have HO : Hid (wr.ownsRow base 102 1 (.slice (some ⟨g, 0, none⟩) n c) n (markWTo p xs k)) := hown
        clear hown
        obtain ⟨old, hold⟩ : ∃ old, (markWTo p xs k)[k]? = some old := ⟨_, List.getElem?_eq_getElem (by rw [markWTo_length _ _ _ (by omega)]; omega)⟩
        rw [hold] at hcell
        clear hold
        go_wp2
        go_roundw
        case rel =>
          refine ⟨k + 1, by omega, by go_num, by go_num, ?_, grown_set hbel _ _⟩
          have hst := (HO.out.stored k (.int .u32 ((p + k) % 4294967296))).1
          rw [markWTo_set p xs k (by omega)] at hst
          exact hst
        case measure => simp [intOf]; omega
      · have hkn : k = n := by omega
        subst hkn
        rw [markWTo_all p xs k hxl] at hown
        have HO : Hid (wr.ownsRow base 102 1 (.slice (some ⟨g, 0, none⟩) k c) k ((markW p k).map (Value.int .u32))) := hown
        clear hown
        go_wp2
        go_ret
        exact ⟨rfl, HO.out, hbel⟩

set_option maxHeartbeats 1000000 in
theorem heldUint32S_any (s : Value) (n : Nat) (p : Int) (w : World) (hn : n ≤ 1048576) (hp : 0 ≤ p) (hp' : p ≤ 1099511627776) (h : Rd w 1 s n ((markW p n).map (Value.int .u32))) :
    Calls Try.prog 37 #[s, .int .i64 p] w fun e w' => e = .returned (.int .i64 (p + n)) ∧ w' = w := by
  have H1 : Hid (Rd w 1 s n ((markW p n).map (Value.int .u32))) := h
  have hs : ∃ a c, s = .slice a n c := by rcases h.2 with ⟨rfl, a, c, rfl⟩ | ⟨g, o, c, rfl, _⟩ <;> exact ⟨_, _, rfl⟩
  clear h
  obtain ⟨a1, c1, rfl⟩ := hs
  go_enter Try.func37, Try.ntmps37
  go_wp2
  go_loop [1, 5] (fun q i => ∃ k : Nat, k ≤ n ∧ q = .int .i64 (p + k) ∧ i = .int .i64 k) (fun _ i => n - (intOf i).toNat)
  case atStart => exact ⟨0, by omega, by simp, rfl⟩
  case round =>
    obtain ⟨k, hk, rfl, rfl⟩ := hrel
    by_cases hlt : k < n
    · have hz : ((markW p n).map (Value.int .u32))[k]? = some (.int .u32 ((p + k) % 4294967296)) := by
        simp [markW, hlt]
      rcases H1.out.2 with ⟨e0, _⟩ | ⟨g, o, c, e1, hc1⟩
      · omega
      · simp only [Value.slice.injEq, true_and] at e1
        obtain ⟨rfl, rfl⟩ := e1
        have hcell1 := hc1 k _ hz
        clear hc1 hz
        go_wp2
        go_round
        case rel => exact ⟨k + 1, by omega, by go_num, by go_num⟩
        case measure => simp [intOf]; omega
    · have hkn : k = n := by omega
      subst hkn
      go_wp2
      go_ret
      exact ⟨rfl, rfl⟩
theorem markW_length (p : Int) (n : Nat) : (markW p n).length = n := by simp [markW]
theorem markW_cells (p : Int) (n : Nat) : (markW p n).map (Value.int .u32) = (markW p n).flatMap wCell := by
  induction markW p n with
  | nil => rfl
  | cons x r ih => rw [List.map_cons, ih]; rfl
/-- What mark leaves of a memory. -/
def markM (m : MM) : MM := ⟨markW 1 m.ins.length, markW (1 + m.ins.length) m.outs.length, markW (1 + m.ins.length + m.outs.length) m.keeps.length⟩
theorem own_apart {w w' : World} {base : Nat} {e : TypeId} {s : Value} {k n : Nat} {xs : List Value} {row : Option Nat} (h : w.ownsRow base e k s n xs) (hg : w.grownBy w' row) (hne : ∀ g, s.ownBlock = some g → some g ≠ row) : w'.ownsRow base e k s n xs := by
  refine ⟨h.1, ?_⟩
  rcases h.2 with h | ⟨g, cap, cur, rfl, hb1, hgg, hr⟩
  · exact .inl h
  · refine .inr ⟨g, cap, cur, rfl, hb1, ?_, hr⟩
    rw [hg.block g (Array.getElem?_eq_some_iff.1 hgg).1 (hne g rfl)]
    exact hgg
theorem below_grown {w w' : World} {base : Nat} {e : TypeId} {s : Value} {k n : Nat} {xs : List Value} (h : w.ownsRow base e k s n xs) (hb : base ≤ w.heap.size) (hg : w.grownBy w' s.ownBlock) : Below base w w' :=
  ⟨hg.os, hg.tape, hg.output, hg.size, fun k hk => hg.block k (Nat.lt_of_lt_of_le hk hb) (fun e => by have := (own_block h e.symm).1; omega)⟩
set_option maxHeartbeats 2000000 in
set_option maxRecDepth 100000 in
theorem markMemory_any (v : VM) (m : MM) (base : Nat) (w : World) (hs : m.small) (h : OwnM w base v m) (sep : Sep3 v) (hb : base ≤ w.heap.size) :
    Calls Try.prog 12 #[.agg #[v.i, v.o, v.k], .int .i64 1] w fun e w' => e = .returned (.int .i64 (1 + (m.ins.length : Int) + (m.outs.length : Int) + (m.keeps.length : Int))) ∧ OwnM w' base v (markM m) ∧ Below base w w' ∧ ∀ k, k < w.heap.size → some k ≠ v.i.ownBlock → some k ≠ v.o.ownBlock → some k ≠ v.k.ownBlock → w'.heap[k]? = w.heap[k]? := by
  have H : Hid (m.small ∧ Sep3 v) := ⟨hs, sep⟩
  have hl1 := hs.ins
  have hl2 := hs.outs
  have hl3 := hs.keeps
  have hA : (w.alloc (.cells #[v.i, v.o, v.k] 30)).ownsRow w.heap.size 30 3 (.slice (some ⟨w.heap.size, 0, none⟩) 1 1) 1 [v.i, v.o, v.k] := World.ownsRow_lit (base := w.heap.size) (e := 30) (size := 3) w #[v.i, v.o, v.k] 1 (Nat.le_refl _) (by unfold maxLen; omega) (by simp)
  have HB : Hid (Below w.heap.size w (w.alloc (.cells #[v.i, v.o, v.k] 30))) := below_alloc _ _
  have HO : Hid (OwnM (w.alloc (.cells #[v.i, v.o, v.k] 30)) base v m) := h.keep HB.out (Nat.le_refl _)
  have lt1 := fun g (hg : v.i.ownBlock = some g) => (own_block h.ins hg).2
  have lt2 := fun g (hg : v.o.ownBlock = some g) => (own_block h.outs hg).2
  have lt3 := fun g (hg : v.k.ownBlock = some g) => (own_block h.keeps hg).2
  have HL : Hid ((∀ g, v.i.ownBlock = some g → g < w.heap.size) ∧ (∀ g, v.o.ownBlock = some g → g < w.heap.size) ∧ (∀ g, v.k.ownBlock = some g → g < w.heap.size)) := ⟨lt1, lt2, lt3⟩
  clear hs h sep lt1 lt2 lt3
  go_enter Try.func12, Try.ntmps12
  go_wp2_with fail
  have HA : Hid _ := hA
  have hsz : w.heap.size ≤ (w.alloc (.cells #[v.i, v.o, v.k] 30)).heap.size := by simp
  clear hA
  generalize w.alloc (.cells #[v.i, v.o, v.k] 30) = W1 at HA HO HB hsz ⊢
  refine (markUint32S_any v.i m.ins.length base _ 1 _ (Nat.le_trans hl1 (by omega)) (by omega) (by omega) HO.out.ins).mono ?_
  rintro e u1 ⟨rfl, o1, g1⟩
  have A1 : Hid (u1.ownsRow w.heap.size 30 3 (.slice (some ⟨w.heap.size, 0, none⟩) 1 1) 1 [v.i, v.o, v.k]) := own_apart HA.out g1 (fun g hg e => by cases hg; have := HL.out.1 _ e.symm; simp only [] at this; omega)
  have O1 : Hid (u1.ownsRow base 102 1 v.i m.ins.length ((markW 1 m.ins.length).map (Value.int .u32)) ∧ u1.ownsRow base 102 1 v.o m.outs.length (m.outs.flatMap wCell) ∧ u1.ownsRow base 102 1 v.k m.keeps.length (m.keeps.flatMap wCell)) := ⟨o1, own_apart HO.out.outs g1 (fun g hg e => (H.out.2.1 g e.symm).1 hg), own_apart HO.out.keeps g1 (fun g hg e => (H.out.2.1 g e.symm).2 hg)⟩
  have B1 : Hid (Below base w u1) := (HB.out.mono hb).trans (below_grown HO.out.ins (Nat.le_trans hb hsz) g1)
  have s1 := g1.size
  have N1 : Hid (∀ k, k < w.heap.size → some k ≠ v.i.ownBlock → u1.heap[k]? = w.heap[k]?) := fun k hk hne => (g1.block k (by omega) hne).trans (HB.out.block k hk)
  clear o1 g1
  obtain ⟨p0, p1, p2, _⟩ := row3 A1.out
  go_wp2_with fail
  refine (markUint32S_any v.o m.outs.length base _ (1 + (m.ins.length : Int)) _ (Nat.le_trans hl2 (by omega)) (by omega) (by omega) O1.out.2.1).mono ?_
  rintro e u2 ⟨rfl, o2, g2⟩
  have A2 : Hid (u2.ownsRow w.heap.size 30 3 (.slice (some ⟨w.heap.size, 0, none⟩) 1 1) 1 [v.i, v.o, v.k]) := own_apart A1.out g2 (fun g hg e => by cases hg; have := HL.out.2.1 _ e.symm; simp only [] at this; omega)
  have O2 : Hid (u2.ownsRow base 102 1 v.i m.ins.length ((markW 1 m.ins.length).map (Value.int .u32)) ∧ u2.ownsRow base 102 1 v.o m.outs.length ((markW (1 + m.ins.length) m.outs.length).map (Value.int .u32)) ∧ u2.ownsRow base 102 1 v.k m.keeps.length (m.keeps.flatMap wCell)) := ⟨own_apart O1.out.1 g2 (fun g hg e => (H.out.2.1 g hg).1 e.symm), o2, own_apart O1.out.2.2 g2 (fun g hg e => H.out.2.2 g e.symm hg)⟩
  have B2 : Hid (Below base w u2) := B1.out.trans (below_grown O1.out.2.1 (Nat.le_trans hb (Nat.le_trans hsz s1)) g2)
  have s2 := g2.size
  have N2 : Hid (∀ k, k < w.heap.size → some k ≠ v.i.ownBlock → some k ≠ v.o.ownBlock → u2.heap[k]? = w.heap[k]?) := fun k hk hne hne2 => (g2.block k (by omega) hne2).trans (N1.out k hk hne)
  clear o2 g2 p0 p1 p2
  obtain ⟨p0, p1, p2, _⟩ := row3 A2.out
  go_wp2_with fail
  refine (markUint32S_any v.k m.keeps.length base _ (1 + (m.ins.length : Int) + (m.outs.length : Int)) _ (Nat.le_trans hl3 (by omega)) (by omega) (by omega) O2.out.2.2).mono ?_
  rintro e u3 ⟨rfl, o3, g3⟩
  have O3 : Hid (OwnM u3 base v (markM m)) := by
    refine ⟨?_, ?_, ?_⟩ <;> simp only [markM, markW_length]
    · rw [← markW_cells]
      exact own_apart O2.out.1 g3 (fun g hg e => (H.out.2.1 g hg).2 e.symm)
    · rw [← markW_cells]
      exact own_apart O2.out.2.1 g3 (fun g hg e => H.out.2.2 g hg e.symm)
    · rw [← markW_cells]
      exact o3
  have B3 : Hid (Below base w u3) := B2.out.trans (below_grown O2.out.2.2 (Nat.le_trans hb (Nat.le_trans hsz (Nat.le_trans s1 s2))) g3)
  have N3 : Hid (∀ k, k < w.heap.size → some k ≠ v.i.ownBlock → some k ≠ v.o.ownBlock → some k ≠ v.k.ownBlock → u3.heap[k]? = w.heap[k]?) := fun k hk hne hne2 hne3 => (g3.block k (by omega) hne3).trans (N2.out k hk hne hne2)
  clear o3 g3 p0 p1 p2
  go_wp2
  go_ret
  exact ⟨rfl, O3.out, B3.out, N3.out⟩
set_option maxHeartbeats 2000000 in
set_option maxRecDepth 100000 in
theorem heldMemory_any (v : VM) (m : MM) (w : World) (hs : m.small) (h : RdM w v (markM m)) :
    Calls Try.prog 13 #[.agg #[v.i, v.o, v.k], .int .i64 1] w fun e w' => e = .returned (.int .i64 (1 + (m.ins.length : Int) + (m.outs.length : Int) + (m.keeps.length : Int))) ∧ Below w.heap.size w w' := by
  have hl1 := hs.ins
  have hl2 := hs.outs
  have hl3 := hs.keeps
  have HB : Hid (Below w.heap.size w (w.alloc (.cells #[v.i, v.o, v.k] 30))) := below_alloc _ _
  have hk := h.keep HB.out (Nat.le_refl _)
  have e1 := hk.ins
  have e2 := hk.outs
  have e3 := hk.keeps
  simp only [markM, markW_length] at e1 e2 e3
  rw [← markW_cells] at e1 e2 e3
  have H : Hid (Rd _ 1 v.i _ _ ∧ Rd _ 1 v.o _ _ ∧ Rd _ 1 v.k _ _) := ⟨e1, e2, e3⟩
  clear hs h hk e1 e2 e3
  go_enter Try.func13, Try.ntmps13
  go_wp2_with fail
  refine (heldUint32S_any v.i m.ins.length 1 _ (Nat.le_trans hl1 (by omega)) (by omega) (by omega) H.out.1).mono ?_
  rintro e u1 ⟨rfl, rfl⟩
  go_wp2_with fail
  refine (heldUint32S_any v.o m.outs.length (1 + (m.ins.length : Int)) _ (Nat.le_trans hl2 (by omega)) (by omega) (by omega) H.out.2.1).mono ?_
  rintro e u2 ⟨rfl, rfl⟩
  go_wp2_with fail
  refine (heldUint32S_any v.k m.keeps.length (1 + (m.ins.length : Int) + (m.outs.length : Int)) _ (Nat.le_trans hl3 (by omega)) (by omega) (by omega) H.out.2.2).mono ?_
  rintro e u3 ⟨rfl, rfl⟩
  go_wp2
  go_ret
  exact ⟨rfl, HB.out⟩
theorem memOf_small {s : MS} (h : s.small) : (memOf s).small := by
  unfold memOf
  split
  · rename_i a b c e
    have hc := h.cell
    rw [e] at hc
    exact ⟨by simp only [wordsL_length]; exact hc a (by simp), by simp only [wordsL_length]; exact hc b (by simp), by simp only [wordsL_length]; exact hc c (by simp)⟩
  · exact ⟨by simp, by simp, by simp⟩
theorem At7.all {w : World} {b : Nat} {x0 x1 x2 x3 x4 x5 x6 : Value} (h : At7 w b x0 x1 x2 x3 x4 x5 x6) : w.cell? ⟨b, 0, none⟩ = some x0 ∧ w.cell? ⟨b, 1, none⟩ = some x1 ∧ w.cell? ⟨b, 2, none⟩ = some x2 ∧ w.cell? ⟨b, 3, none⟩ = some x3 ∧ w.cell? ⟨b, 4, none⟩ = some x4 ∧ w.cell? ⟨b, 5, none⟩ = some x5 ∧ w.cell? ⟨b, 6, none⟩ = some x6 := ⟨h.c0, h.c1, h.c2, h.c3, h.c4, h.c5, h.c6⟩
end Go.Proofs.Ytadkabiipkngiaa
