/- KImpl1: impl.isOneOf, isVariable, isSingle, stmtHolds. -/
import Derived.Test.YtjlnglgfehefdaaKSpec2
namespace Go.Proofs.Ytjlnglgfehefdaa
open Go.ChangeShapes Go.WideShapes Go.ChangeAt Go.RowKit
set_option linter.unusedVariables false
theorem isOneOf_any (n c : Int) (w : World) : Calls Try.prog 22 #[.int .i64 n, .int .i64 c] w fun e w' => e = .returned (.bool (decide (0 ≤ n ∧ n < c))) ∧ w' = w := by
  by_cases q0 : n < 0
  · rw [decide_eq_false (by omega : ¬ (0 ≤ n ∧ n < c))]
    have q0' : ¬ 0 ≤ n := by omega
    go_enter Try.func22, Try.ntmps22
    go_wp2
    go_ret
    exact ⟨rfl, rfl⟩
  have q0' : 0 ≤ n := by omega
  by_cases q1 : n < c
  · rw [decide_eq_true (by omega : 0 ≤ n ∧ n < c)]
    go_enter Try.func22, Try.ntmps22
    go_wp2
    go_ret
    exact ⟨rfl, rfl⟩
  · rw [decide_eq_false (by omega : ¬ (0 ≤ n ∧ n < c))]
    go_enter Try.func22, Try.ntmps22
    go_wp2
    go_ret
    exact ⟨rfl, rfl⟩
theorem isOneOf_says (n c : Int) (w : World) : Calls Try.prog 22 #[.int .i64 n, .int .i64 c] w fun e w' => SaysIff e (0 ≤ n ∧ n < c) ∧ w' = w := (isOneOf_any n c w).mono fun e w' h => ⟨⟨_, h.1, by simp⟩, h.2⟩
theorem isVariable_any (n : Int) (w : World) : Calls Try.prog 21 #[.int .i64 n] w fun e w' => SaysIff e (0 ≤ n ∧ n < 8) ∧ w' = w := by
  go_enter Try.func21, Try.ntmps21
  go_wp2_with fail
  refine (isOneOf_says n 8 w).mono ?_
  rintro e u ⟨⟨b, rfl, hb⟩, rfl⟩
  have HB : Hid (b = true ↔ (0 ≤ n ∧ n < 8)) := hb
  clear hb
  go_wp2
  go_ret
  exact ⟨⟨b, rfl, HB.out⟩, rfl⟩
set_option maxHeartbeats 1000000 in
theorem isSingle_any (k a b : Int) (a1 a2 : Option Addr) (lb le c1 c2 : Nat) (w : World) : Calls Try.prog 20 #[.agg #[.int .i64 k, .int .i64 a, .int .i64 b, .slice a1 lb c1, .slice a2 le c2]] w fun e w' => SaysIff e (lb = 0 ∧ le = 0) ∧ Below w.heap.size w w' := by
  have E0 : Hid (Below w.heap.size w (w.alloc (.cells #[.int .i64 k, .int .i64 a, .int .i64 b, .slice a1 lb c1, .slice a2 le c2] 35))) := below_alloc _ _
  by_cases h1 : lb = 0
  · have h1' : ((lb : Int) == 0) = true := by simp; omega
    by_cases h2 : le = 0
    · have h2' : ((le : Int) == 0) = true := by simp; omega
      have HQ : Hid (lb = 0 ∧ le = 0) := ⟨h1, h2⟩
      clear h1 h2
      go_enter Try.func20, Try.ntmps20
      go_wp2
      go_ret
      exact ⟨.yes HQ.out, E0.out⟩
    · have h2' : ((le : Int) == 0) = false := by simp; omega
      have HQ : Hid (¬ (lb = 0 ∧ le = 0)) := fun e => h2 e.2
      clear h1 h2
      go_enter Try.func20, Try.ntmps20
      go_wp2
      go_ret
      exact ⟨.no HQ.out, E0.out⟩
  · have h1' : ((lb : Int) == 0) = false := by simp; omega
    have HQ : Hid (¬ (lb = 0 ∧ le = 0)) := fun e => h1 e.1
    clear h1
    go_enter Try.func20, Try.ntmps20
    go_wp2
    go_ret
    exact ⟨.no HQ.out, E0.out⟩
set_option maxHeartbeats 4000000 in
set_option maxRecDepth 100000 in
theorem stmtHolds_any (k a b : Int) (a1 a2 : Option Addr) (lb le c1 c2 : Nat) (w : World) : Calls Try.prog 19 #[.agg #[.int .i64 k, .int .i64 a, .int .i64 b, .slice a1 lb c1, .slice a2 le c2]] w fun e w' => SaysIff e (okS k a b lb le) ∧ Below w.heap.size w w' := by
  have E0 : Hid (Blk (w.alloc (.cells #[.int .i64 k, .int .i64 a, .int .i64 b, .slice a1 lb c1, .slice a2 le c2] 35)) w.heap.size #[.int .i64 k, .int .i64 a, .int .i64 b, .slice a1 lb c1, .slice a2 le c2] 35 ∧ Below w.heap.size w (w.alloc (.cells #[.int .i64 k, .int .i64 a, .int .i64 b, .slice a1 lb c1, .slice a2 le c2] 35))) := ⟨Blk.new _ _ _, below_alloc _ _⟩
  have K : (k = 1) ∨ (k = 2) ∨ (k = 3) ∨ (k = 4) ∨ (k ≠ 1 ∧ k ≠ 2 ∧ k ≠ 3 ∧ k ≠ 4) := by omega
  go_enter Try.func19, Try.ntmps19
  go_upto_region 1 with fail
  refine wp_world (fun u => Hid (Blk u w.heap.size #[.int .i64 k, .int .i64 a, .int .i64 b, .slice a1 lb c1, .slice a2 le c2] 35 ∧ Below w.heap.size w u)) E0 ?_
  rintro U E1
  clear E0
  obtain ⟨x0, x1, x2, x3, x4⟩ := blk5 E1.out.1
  rcases K with rfl | rfl | rfl | rfl | kn
  · go_wp2_with fail
    refine (isVariable_any a _).mono ?_
    rintro e u ⟨⟨b1, rfl, hb1⟩, rfl⟩
    have H1 : Hid (b1 = true ↔ (0 ≤ a ∧ a < 8)) := hb1
    clear hb1
    cases b1
    · go_wp2_with fail
      go_ret
      exact ⟨.no (fun e => by have h1 := H1.out; unfold okS at e; simp at h1; omega), E1.out.2⟩
    go_wp2_with fail
    refine (isVariable_any b _).mono ?_
    rintro e u' ⟨⟨b2, rfl, hb2⟩, rfl⟩
    have H2 : Hid (b2 = true ↔ (0 ≤ b ∧ b < 8)) := hb2
    clear hb2
    cases b2
    · go_wp2_with fail
      go_ret
      exact ⟨.no (fun e => by have h1 := H2.out; unfold okS at e; simp at h1; omega), E1.out.2⟩
    go_wp2_with fail
    refine (isSingle_any _ a b a1 a2 lb le c1 c2 _).mono ?_
    rintro e u3 ⟨⟨b3, rfl, hb3⟩, hu3⟩
    have H3 : Hid ((b3 = true ↔ (lb = 0 ∧ le = 0)) ∧ Below w.heap.size w u3) := ⟨hb3, below_on E1.out.2 (Nat.le_refl _) hu3⟩
    clear hb3 hu3
    cases b3
    · go_wp2_with fail
      go_ret
      exact ⟨.no (fun e => by have h1 := H3.out.1; unfold okS at e; simp at h1; omega), H3.out.2⟩
    · go_wp2_with fail
      go_ret
      exact ⟨.yes (by have h1 := H1.out; have h2 := H2.out; have h3 := H3.out.1; unfold okS; simp at h1 h2 h3; omega), H3.out.2⟩
  · go_wp2_with fail
    refine (isVariable_any a _).mono ?_
    rintro e u ⟨⟨b1, rfl, hb1⟩, rfl⟩
    have H1 : Hid (b1 = true ↔ (0 ≤ a ∧ a < 8)) := hb1
    clear hb1
    cases b1
    · go_wp2_with fail
      go_ret
      exact ⟨.no (fun e => by have h1 := H1.out; unfold okS at e; simp at h1; omega), E1.out.2⟩
    go_wp2_with fail
    refine (isVariable_any b _).mono ?_
    rintro e u' ⟨⟨b2, rfl, hb2⟩, rfl⟩
    have H2 : Hid (b2 = true ↔ (0 ≤ b ∧ b < 8)) := hb2
    clear hb2
    cases b2
    · go_wp2_with fail
      go_ret
      exact ⟨.no (fun e => by have h1 := H2.out; unfold okS at e; simp at h1; omega), E1.out.2⟩
    · go_wp2_with fail
      go_ret
      exact ⟨.yes (by have h1 := H1.out; have h2 := H2.out; unfold okS; simp at h1 h2; omega), E1.out.2⟩
  · by_cases ha : a = 0
    · have ha' : (a == 0) = true := by simpa using ha
      have HA : Hid (a = 0) := ha
      clear ha
      go_wp2_with fail
      refine (isOneOf_says b 256 _).mono ?_
      rintro e u' ⟨⟨b2, rfl, hb2⟩, rfl⟩
      have H2 : Hid (b2 = true ↔ (0 ≤ b ∧ b < 256)) := hb2
      clear hb2
      cases b2
      · go_wp2_with fail
        go_ret
        exact ⟨.no (fun e => by have h1 := H2.out; unfold okS at e; simp at h1; omega), E1.out.2⟩
      by_cases hl : le = 0
      · have hl' : ((le : Int) == 0) = true := by simp; omega
        have HL : Hid (le = 0) := hl
        clear hl
        go_wp2_with fail
        go_ret
        exact ⟨.yes (by have h0 := HA.out; have h1 := HL.out; have h2 := H2.out; unfold okS; simp at h2; omega), E1.out.2⟩
      · have hl' : ((le : Int) == 0) = false := by simp; omega
        have HL : Hid (¬ le = 0) := hl
        clear hl
        go_wp2_with fail
        go_ret
        exact ⟨.no (fun e => by have h1 := HL.out; unfold okS at e; omega), E1.out.2⟩
    · have ha' : (a == 0) = false := by simpa using ha
      have HA : Hid (¬ a = 0) := ha
      clear ha
      go_wp2_with fail
      go_ret
      exact ⟨.no (fun e => by have h1 := HA.out; unfold okS at e; omega), E1.out.2⟩
  · go_wp2_with fail
    refine (isOneOf_says a 8 _).mono ?_
    rintro e u ⟨⟨b1, rfl, hb1⟩, rfl⟩
    have H1 : Hid (b1 = true ↔ (0 ≤ a ∧ a < 8)) := hb1
    clear hb1
    cases b1
    · go_wp2_with fail
      go_ret
      exact ⟨.no (fun e => by have h1 := H1.out; unfold okS at e; simp at h1; omega), E1.out.2⟩
    by_cases hb : b = 0
    · have hb' : (b == 0) = true := by simpa using hb
      have HB : Hid (b = 0) := hb
      clear hb
      go_wp2_with fail
      refine (isSingle_any _ a b a1 a2 lb le c1 c2 _).mono ?_
      rintro e u3 ⟨⟨b3, rfl, hb3⟩, hu3⟩
      have H3 : Hid ((b3 = true ↔ (lb = 0 ∧ le = 0)) ∧ Below w.heap.size w u3) := ⟨hb3, below_on E1.out.2 (Nat.le_refl _) hu3⟩
      clear hb3 hu3
      cases b3
      · go_wp2_with fail
        go_ret
        exact ⟨.no (fun e => by have h1 := H3.out.1; unfold okS at e; simp at h1; omega), H3.out.2⟩
      · go_wp2_with fail
        go_ret
        exact ⟨.yes (by have h0 := HB.out; have h1 := H1.out; have h3 := H3.out.1; unfold okS; simp at h1 h3; omega), H3.out.2⟩
    · have hb' : (b == 0) = false := by simpa using hb
      have HB : Hid (¬ b = 0) := hb
      clear hb
      go_wp2_with fail
      go_ret
      exact ⟨.no (fun e => by have h1 := HB.out; unfold okS at e; omega), E1.out.2⟩
  · have KK : Hid (k ≠ 1 ∧ k ≠ 2 ∧ k ≠ 3 ∧ k ≠ 4) := kn
    have e1 : (k == 1) = false := by simpa using kn.1
    have e2 : (k == 2) = false := by simpa using kn.2.1
    have e3 : (k == 3) = false := by simpa using kn.2.2.1
    have e4 : (k == 4) = false := by simpa using kn.2.2.2
    clear kn
    go_wp2_with fail
    go_ret
    exact ⟨.no (fun e => by have h1 := KK.out; unfold okS at e; omega), E1.out.2⟩
end Go.Proofs.Ytjlnglgfehefdaa
