/- KLaw: impl.readList, impl.StmtFault; a list that came in. -/
import Derived.Test.YtjlnglgfehefdaaKSts2
import Derived.Lib.SmallJoins
import Derived.Deep.Slices
namespace Go.Proofs.Ytjlnglgfehefdaa
open Go.ChangeShapes Go.WideShapes Go.ChangeAt Go.RowKit
set_option linter.unusedVariables false
set_option maxHeartbeats 2000000 in
set_option maxRecDepth 100000 in
theorem readList_any (n : Nat) (v : Value) (t : TL n) (w : World) (h : OwnT w 0 n v t) (hs : sizeT n t ≤ 1048576) : Calls Try.prog 13 #[v] w fun e w' => ∃ (V : Value) (z : Int), e = .returned (.tuple #[V, .int .i64 z]) ∧ CodeIs n t z ∧ (z = 0 → RdI w' (fun b => w.heap.size ≤ b) n V t) ∧ Below w.heap.size w w' := by
  obtain ⟨a1, c1, rfl⟩ := h.is_slice
  have H : Hid (OwnT w 0 n (.slice a1 (lenT n t) c1) t ∧ sizeT n t ≤ 1048576) := ⟨h, hs⟩
  clear h hs
  go_enter Try.func13, Try.ntmps13
  go_wp2_with fail
  refine (stmtsHold_any n _ t w H.out.1 H.out.2).mono ?_
  rintro e u1 ⟨⟨b1, rfl, hb1⟩, bl1⟩
  have H1 : Hid ((b1 = true ↔ allOkT n t) ∧ Below w.heap.size w u1) := ⟨hb1, bl1⟩
  clear hb1 bl1
  cases b1
  · have HN : Hid (¬ allOkT n t) := fun e => by have := H1.out.1.2 e; cases this
    go_wp2_with fail
    go_ret2
    exact ⟨_, 1, rfl, .inl ⟨rfl, HN.out⟩, fun e => (by cases e), H1.out.2⟩
  have HOK : Hid (allOkT n t) := H1.out.1.1 rfl
  go_wp2_with fail
  refine (areFew_any n _ t u1 (H.out.1.keep H1.out.2 (Nat.le_refl _)) H.out.2).mono ?_
  rintro e u2 ⟨⟨b2, rfl, hb2⟩, bl2⟩
  have H2 : Hid ((b2 = true ↔ sizeT n t ≤ 60) ∧ Below w.heap.size w u2) := ⟨hb2, below_on H1.out.2 (Nat.le_refl _) bl2⟩
  clear hb2 bl2 H1
  cases b2
  · have HN : Hid (60 < sizeT n t) := by
      show 60 < sizeT n t
      have := H2.out.1
      simp at this
      omega
    go_wp2_with fail
    go_ret2
    exact ⟨_, 2, rfl, .inr (.inl ⟨rfl, HOK.out, HN.out⟩), fun e => (by cases e), H2.out.2⟩
  have HF : Hid (sizeT n t ≤ 60) := H2.out.1.1 rfl
  go_wp2_with fail
  refine (statementsOf_any n _ t u2 (H.out.1.keep H2.out.2 (Nat.le_refl _)) HOK.out H.out.2).mono ?_
  rintro e u3 ⟨V, rfl, r3, bl3⟩
  have H3 : Hid (RdI u3 (fun b => w.heap.size ≤ b) n V t ∧ Below w.heap.size w u3) := ⟨r3.step (fun _ _ _ => rfl) (fun b hb _ => Nat.le_trans H2.out.2.size hb), below_on H2.out.2 (Nat.le_refl _) bl3⟩
  clear r3 bl3 H2
  go_wp2_with fail
  refine (levelsOf_any n V t _ u3 H3.out.1 HOK.out H.out.2).mono ?_
  rintro e u4 ⟨rfl, bl4⟩
  have H4 : Hid (RdI u4 (fun b => w.heap.size ≤ b) n V t ∧ Below w.heap.size w u4) := ⟨H3.out.1.keep bl4, below_on H3.out.2 (Nat.le_refl _) bl4⟩
  clear bl4 H3
  by_cases hv : 8 < levT n t
  · have hv' : (8 : Int) < (levT n t : Int) := by omega
    have HV : Hid (8 < levT n t) := hv
    clear hv
    go_wp2_with fail
    go_ret2
    exact ⟨_, 3, rfl, .inr (.inr (.inl ⟨rfl, HOK.out, HF.out, HV.out⟩)), fun e => (by cases e), H4.out.2⟩
  · have hv' : ¬ (8 : Int) < (levT n t : Int) := by omega
    have HV : Hid (levT n t ≤ 8) := by show levT n t ≤ 8; omega
    clear hv
    go_wp2_with fail
    go_ret2
    exact ⟨_, 0, rfl, .inr (.inr (.inr ⟨rfl, HOK.out, HF.out, HV.out⟩)), fun _ => H4.out.1, H4.out.2⟩
set_option maxHeartbeats 2000000 in
theorem implStmt_any (n : Nat) (v : Value) (t : TL n) (w : World) (h : OwnT w 0 n v t) (hs : sizeT n t ≤ 1048576) : Calls Try.prog 7 #[v] w fun e w' => ∃ z : Int, e = .returned (.int .i64 z) ∧ CodeIs n t z ∧ Below w.heap.size w w' := by
  have H : Hid (OwnT w 0 n v t ∧ sizeT n t ≤ 1048576) := ⟨h, hs⟩
  clear h hs
  go_enter Try.func7, Try.ntmps7
  go_wp2_with fail
  refine (readList_any n v t w H.out.1 H.out.2).mono ?_
  rintro e u1 ⟨V, z, rfl, hc, _, bl⟩
  have H1 : Hid (CodeIs n t z ∧ Below w.heap.size w u1) := ⟨hc, bl⟩
  clear hc bl
  go_wp2_with fail
  go_ret
  exact ⟨z, rfl, H1.out.1, H1.out.2⟩
end Go.Proofs.Ytjlnglgfehefdaa
