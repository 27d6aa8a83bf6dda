/- FnExactTypesOf: the walk, the row. -/
import Derived.Test.YtdfmdgbolmbffaaGreatRows
import Derived.Test.YtdfmdgbolmbffaaGreatTy53
import Derived.Test.YtdfmdgbolmbffaaGreatTy3
import Derived.Test.YtdfmdgbolmbffaaGreatTy42
import Derived.WalkKit
import Derived.ProofKit
import Derived.OpenShut
import Derived.ShutString
import Derived.ChangeOld
import Derived.Below
namespace Go.Proofs.YtdfmdgbolmbffaaGreat.fnExactTypesOf
open Go.ChangeShapes Go.WideShapes Go.ChangeAt Go.RowKit
set_option linter.unusedVariables false

theorem own : ownKnob Tryz.prog.godebug = none := by kernel_rfl
theorem laidOut : laidOutB Tryz.prog = true := by kernel_rfl

set_option maxRecDepth 100000 in
set_option maxHeartbeats 8000000 in
theorem walk (v0 : VP) (p0 : MP) (p1 : Int) (w : World) (h0 : RdP w v0 p0) (b0 : p0.fits) (f0 : p0.wf) (f1 : W64 p1) :
    Calls Tryz.prog 3 #[.agg #[v0.r, v0.k, v0.f, v0.t], .int .i64 p1] w fun e w' => e = .returned (.bool true) ∧ Below w.heap.size w w' := by
  exact types_walk v0 p0 p1 w h0 b0 f0 f1

set_option maxRecDepth 100000 in
theorem lifted (os : Os) (started : os.Started) (H : Type) (enc : TypeId × Value → H) :
    ReturnsInHanded {} Tryz.checked os 3 .any (Rows.fnExactTypesOfSpec.pre6 enc Tryz.prog Tryz.f3 Rows.fnExactTypesOfRow.domain false) (Rows.fnExactTypesOfSpec.post enc Tryz.prog Tryz.f3 false true false false) := by
  refine returnsInHanded_of_change (C := Tryz.checked) own started (by kernel_rfl) Tryz.func3
    (ChangeSpec.witness6 (enc := enc) (C := Tryz.checked) false ⟨#[], #[.agg #[.slice none 0 0, .slice none 0 0, .slice none 0 0, .slice none 0 0], .int .i64 0], []⟩ 8 (by kernel_rfl) (by kernel_rfl) (by kernel_rfl) (by kernel_rfl)) ?_
  intro W base args ds gs before hval0 hW hcnd _
  have hval : ∀ (j : Nat) t v, Tryz.f3.params[j]? = some t → args[j]? = some v → Value.okWide Tryz.prog W .any base t v := hval0
  have hW' := hW
  obtain ⟨p, q, hA0, hV, rfl, hfz, hnd⟩ := hW
  have hA : DataW.TrodAll enc Tryz.prog W 0 (fun _ => true) true Tryz.f3.params.toList args.toList ds p := hA0
  rw [Tryz.params3] at hA hval
  obtain ⟨x0, xs0, d0, ds0, q0, r0, hargs, rfl, rfl, t0, u0⟩ := trodAll_cons hA
  obtain ⟨x1, xs1, d1, ds1, q1, r1, rfl, rfl, rfl, t1, u1⟩ := trodAll_cons u0
  obtain ⟨rfl, rfl, rfl⟩ := trodAll_nil u1
  obtain rfl : args = #[x0, x1] := by cases args; simp_all
  obtain ⟨rfl, rfl⟩ := trodVars_none hV
  obtain ⟨cs0, rfl, _⟩ := okWide_struct Tryz.underlying27 (hval 0 27 x0 rfl rfl)
  have k0 := t0
  have lt0 : ∀ x ∈ q0, x.block < W.heap.size := by obtain ⟨m, hm⟩ := k0; exact DataW.trod_lt m _ _ _ hm
  obtain ⟨p0, v0, e0, h0, b0, f0⟩ : ∃ (p : MP) (v : VP), cs0 = #[v.r, v.k, v.f, v.t] ∧ RdP W v p ∧ p.fits ∧ p.wf := by
    obtain ⟨fuel, hf⟩ := t0
    obtain ⟨p, v, e, h, b, f⟩ := open_program hf
    exact ⟨p, v, by apply Array.toList_inj.1; exact e, h, b, f⟩
  subst e0
  obtain ⟨p1, rfl⟩ := okWide_int Tryz.underlying2 (hval 1 2 x1 rfl rfl)
  have k1 := t1
  have lt1 : ∀ x ∈ q1, x.block < W.heap.size := by obtain ⟨m, hm⟩ := k1; exact DataW.trod_lt m _ _ _ hm
  have f1 : W64 p1 := by
    obtain ⟨fuel, hf⟩ := t1
    obtain ⟨z, e, h⟩ := open_i64 hf
    have e2 : p1 = z := by simpa [intCell, Value.cells] using e
    rw [e2]
    exact h
  clear hA0 hval0
  refine (walk v0 p0 p1 W h0 b0 f0 f1).mono fun e W' ⟨he, bel⟩ => ?_
  subst he
  exact ⟨_, rfl, _, _, _, [], _, [], hW', trodAll_mk1 (shut_bool Tryz.underlying4 _), (trodAll_cons_mk (Below.trod laidOut (by kernel_rfl) (of_decide_eq_true (by kernel_rfl)) k0 bel lt0) (trodAll_cons_mk (Below.trod laidOut (by kernel_rfl) (of_decide_eq_true (by kernel_rfl)) k1 bel lt1) trodAll_mk0)), rfl, bel.frame _, fun h => by cases h⟩

theorem over : Rows.fnExactTypesOfRow.holds Tryz.pinned (OpenSpec.ofChange Rows.fnExactTypesOfSpec) :=
  OpenClaim.holds_of_wide 3 Tryz.f3 rfl rfl rfl rfl rfl rfl rfl ⟨rfl, rfl, rfl, rfl, rfl⟩ rfl rfl rfl rfl rfl (by kernel_rfl) Tryz.func3 (by kernel_rfl)
    (of_decide_eq_true (by kernel_rfl)) (by unfold Func.isWrapper; first | (rw [if_pos (by decide +kernel)]; kernel_rfl) | (rw [if_neg (by decide +kernel)]; exact ⟨rfl, rfl⟩))
    (fun os started H enc _ => lifted os started H enc)

theorem proved : Rows.FnExactTypesOfSaid := over
#print axioms proved
end Go.Proofs.YtdfmdgbolmbffaaGreat.fnExactTypesOf
namespace Go.Proofs.YtdfmdgbolmbffaaGreat
theorem fnExactTypesOf_holds : Rows.FnExactTypesOfSaid := fnExactTypesOf.proved
end Go.Proofs.YtdfmdgbolmbffaaGreat
