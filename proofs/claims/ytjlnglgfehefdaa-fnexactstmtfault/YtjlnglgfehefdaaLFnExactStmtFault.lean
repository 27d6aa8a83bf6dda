/- FnExactStmtFault: the walk, the row. -/
import Derived.Test.YtjlnglgfehefdaaRows
import Derived.Test.YtjlnglgfehefdaaKOpen
import Derived.WalkKit
import Derived.ProofKit
import Derived.OpenShut
import Derived.ShutString
import Derived.ChangeOld
import Derived.Below
namespace Go.Proofs.Ytjlnglgfehefdaa.fnExactStmtFault
open Go.ChangeShapes Go.WideShapes Go.ChangeAt Go.RowKit
set_option linter.unusedVariables false

theorem own : ownKnob Try.prog.godebug = none := by kernel_rfl
theorem laidOut : laidOutB Try.prog = true := by kernel_rfl

set_option maxRecDepth 100000 in
set_option maxHeartbeats 8000000 in
theorem walk (n : Nat) (s0 : Value) (t : TL n) (w : World) (h0 : RdT w n s0 t) (b0 : fitT n t) :
    Calls Try.prog 3 #[s0] w fun e w' => e = .returned (.bool true) ∧ Below w.heap.size w w' := by
  have H : Hid (RdT w n s0 t ∧ fitT n t) := ⟨h0, b0⟩
  clear h0 b0
  go_enter Try.func3, Try.ntmps3
  go_wp2_with fail
  refine (szStmtS_any n s0 t 1048576 w H.out.1 H.out.2 (by omega) (by omega)).mono ?_
  rintro e u ⟨rfl, b1⟩
  have B1 : Hid (Below w.heap.size w u) := b1
  clear b1
  by_cases hb : (1048576 : Int) < (sizeT n t : Int)
  · rw [szK_neg hb]
    clear hb
    go_wp2_with fail
    go_ret
    exact ⟨rfl, B1.out⟩
  rw [szK_pos (by omega)]
  have HS : Hid (sizeT n t ≤ 1048576) := by show sizeT n t ≤ 1048576; omega
  have hnn : ¬ ((1048576 : Int) - (sizeT n t : Int)) < 0 := by omega
  go_wp2_with fail
  refine (toStmtS_any n s0 t u (H.out.1.keep B1.out (Nat.le_refl _)) HS.out).mono ?_
  rintro e u1 ⟨v1, rfl, o1, b1⟩
  have B2 : Hid (OwnT u1 0 n v1 t ∧ Below w.heap.size w u1) := ⟨o1.base (Nat.zero_le _), below_on B1.out (Nat.le_refl _) b1⟩
  clear o1 b1 B1 hb hnn
  go_wp2_with fail
  refine (specStmt_any n v1 t u1 B2.out.1.rd HS.out).mono ?_
  rintro e u2 ⟨z, rfl, hz, b2⟩
  have B3 : Hid (CodeIs n t z ∧ Below w.heap.size w u2) := ⟨hz, below_on B2.out.2 (Nat.le_refl _) b2⟩
  clear hz b2 B2
  go_wp2_with fail
  refine (toStmtS_any n s0 t u2 (H.out.1.keep B3.out.2 (Nat.le_refl _)) HS.out).mono ?_
  rintro e u3 ⟨v3, rfl, o3, b3⟩
  have B4 : Hid (CodeIs n t z ∧ OwnT u3 0 n v3 t ∧ Below w.heap.size w u3) := ⟨B3.out.1, o3.base (Nat.zero_le _), below_on B3.out.2 (Nat.le_refl _) b3⟩
  clear o3 b3 B3
  go_wp2_with fail
  refine (implStmt_any n v3 t u3 B4.out.2.1 HS.out).mono ?_
  rintro e u4 ⟨z', rfl, hz', b4⟩
  have hzz : z' = z := hz'.one B4.out.1
  subst hzz
  have B5 : Hid (OwnT u4 0 n v3 t ∧ Below w.heap.size w u4) := ⟨B4.out.2.1.keep b4 (Nat.le_refl _), below_on B4.out.2.2 (Nat.le_refl _) b4⟩
  clear hz' b4 B4
  go_wp2_with fail
  refine (toStmtS_any n s0 t u4 (H.out.1.keep B5.out.2 (Nat.le_refl _)) HS.out).mono ?_
  rintro e u5 ⟨v5, rfl, o5, b5⟩
  have B6 : Hid (OwnT u5 0 n v3 t ∧ RdT u5 n v5 t ∧ Below w.heap.size w u5) := ⟨B5.out.1.keep b5 (Nat.le_refl _), o5.rd, below_on B5.out.2 (Nat.le_refl _) b5⟩
  clear o5 b5 B5
  go_wp2_with fail
  refine (eqStmtS_any n v3 v5 t u5 B6.out.1.rd B6.out.2.1 HS.out).mono ?_
  rintro e u6 ⟨rfl, b6⟩
  have B7 : Hid (Below w.heap.size w u6) := below_on B6.out.2.2 (Nat.le_refl _) b6
  clear b6 B6
  go_wp2_with fail
  go_ret
  exact ⟨rfl, B7.out⟩

set_option maxRecDepth 100000 in
theorem lifted (os : Os) (started : os.Started) (H : Type) (enc : TypeId × Value → H) :
    ReturnsInHanded {} Try.checked os 3 .any (Rows.fnExactStmtFaultSpec.pre6 enc Try.prog Try.f3 Rows.fnExactStmtFaultRow.domain false) (Rows.fnExactStmtFaultSpec.post enc Try.prog Try.f3 false true false false) := by
  refine returnsInHanded_of_change (C := Try.checked) own started (by kernel_rfl) Try.func3
    (ChangeSpec.witness6 (enc := enc) (C := Try.checked) false ⟨#[], #[.slice none 0 0], []⟩ 8 (by kernel_rfl) (by kernel_rfl) (by kernel_rfl) (by kernel_rfl)) ?_
  intro W base args ds gs before hval0 hW hcnd _
  have hval : ∀ (j : Nat) t v, Try.f3.params[j]? = some t → args[j]? = some v → Value.okWide Try.prog W .any base t v := hval0
  have hW' := hW
  obtain ⟨p, q, hA0, hV, rfl, hfz, hnd⟩ := hW
  have hA : DataW.TrodAll enc Try.prog W 0 (fun _ => true) true Try.f3.params.toList args.toList ds p := hA0
  rw [Try.params3] at hA hval
  obtain ⟨x0, xs0, d0, ds0, q0, r0, hargs, rfl, rfl, t0, u0⟩ := trodAll_cons hA
  obtain ⟨rfl, rfl, rfl⟩ := trodAll_nil u0
  obtain rfl : args = #[x0] := by cases args; simp_all
  obtain ⟨rfl, rfl⟩ := trodVars_none hV
  obtain ⟨ax, nx, cx, rfl⟩ := okWide_slice Try.underlying22 (hval 0 22 x0 rfl rfl)
  have k0 := t0
  have lt0 : ∀ x ∈ q0, x.block < W.heap.size := by obtain ⟨m, hm⟩ := k0; exact DataW.trod_lt m _ _ _ hm
  obtain ⟨n0, p0, h0, b0⟩ : ∃ (n : Nat) (t : TL n), RdT W n (.slice ax nx cx) t ∧ fitT n t := by
    obtain ⟨fuel, hf⟩ := t0
    obtain ⟨s, t, e, h, b⟩ := open_stmts fuel _ _ hf
    have es : s = .slice ax nx cx := by
      have e2 : [(.slice ax nx cx : Value)] = [s] := e
      exact (List.cons.inj e2).1.symm
    subst es
    exact ⟨fuel, t, h, b⟩
  clear hA0 hval0
  refine (walk n0 (.slice ax nx cx) p0 W h0 b0).mono fun e W' ⟨he, bel⟩ => ?_
  subst he
  exact ⟨_, rfl, _, _, _, [], _, [], hW', trodAll_mk1 (shut_bool Try.underlying4 _), (trodAll_cons_mk (Below.trod laidOut (by kernel_rfl) (of_decide_eq_true (by kernel_rfl)) k0 bel lt0) trodAll_mk0), rfl, bel.frame _, fun h => by cases h⟩

theorem over : Rows.fnExactStmtFaultRow.holds Try.pinned (OpenSpec.ofChange Rows.fnExactStmtFaultSpec) :=
  OpenClaim.holds_of_wide 3 Try.f3 rfl rfl rfl rfl rfl rfl rfl ⟨rfl, rfl, rfl, rfl, rfl⟩ rfl rfl rfl rfl rfl (by kernel_rfl) Try.func3 (by kernel_rfl)
    (of_decide_eq_true (by kernel_rfl)) (by unfold Func.isWrapper; first | (rw [if_pos (by decide +kernel)]; kernel_rfl) | (rw [if_neg (by decide +kernel)]; exact ⟨rfl, rfl⟩))
    (fun os started H enc _ => lifted os started H enc)

theorem proved : Rows.FnExactStmtFaultSaid := over
#print axioms proved
end Go.Proofs.Ytjlnglgfehefdaa.fnExactStmtFault
namespace Go.Proofs.Ytjlnglgfehefdaa
theorem fnExactStmtFault_holds : Rows.FnExactStmtFaultSaid := fnExactStmtFault.proved
end Go.Proofs.Ytjlnglgfehefdaa
