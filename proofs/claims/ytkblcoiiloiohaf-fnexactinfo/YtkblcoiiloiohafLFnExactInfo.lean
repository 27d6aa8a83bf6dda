/- FnExactInfo: the walk, the row. -/
import Derived.Test.YtkblcoiiloiohafRows
import Derived.Test.YtkblcoiiloiohafInfo
import Derived.WalkKit
import Derived.ProofKit
import Derived.OpenShut
import Derived.Below
import Derived.ChangeOld
import Derived.ShutString
namespace Go.Proofs.Ytkblcoiiloiohaf.fnExactInfo
open Go.ChangeShapes Go.WideShapes Go.ChangeAt Go.RowKit
open Go.ChangeMaps (open_string shut_string)
set_option linter.unusedVariables false      -- a walk need not use every 'w<i>' (that an integer argument fits its kind)

theorem own : ownKnob Try.prog.godebug = none := by kernel_rfl

/-! ### STEP 1: THE WALK: the Go text returns true. 'Below w.heap.size w w'': the world has at most new blocks (Derived/RowKit3.lean). Part the cases AHEAD of 'go_enter' where a test parts the walk; take each callee by a contract of your own. -/
theorem walk (a0 : Int) (w0 : (Lit.int .i64 a0).wf = true) (w : World) :
    Calls Try.prog 3 #[.int .i64 a0] w fun e w' => e = .returned (.bool true) ∧ Below w.heap.size w w' := by
  obtain ⟨s, c, f, hi⟩ := infoOf_form a0
  have hS : Hid (∀ w, Calls Try.prog 8 #[.int .i64 a0] w fun e w' => e = .returned (.agg #[.string s, .int .i64 c, .int .i64 f]) ∧ Below w.heap.size w w') := fun w => by rw [← hi]; exact SInfo_any a0 w
  have hI : Hid (∀ w, Calls Try.prog 9 #[.int .i64 a0] w fun e w' => e = .returned (.agg #[.string s, .int .i64 c, .int .i64 f]) ∧ Below w.heap.size w w') := fun w => by rw [← hi]; exact Info_any a0 w
  have hz := zero_info
  clear hi w0
  go_enter Try.func3, Try.ntmps3
  go_wp2_with (go_at_call 8; refine (hS.out _).mono ?_; rintro e w1 ⟨rfl, hb1⟩)
  refine (hI.out _).mono ?_
  rintro e w2 ⟨rfl, hb2⟩
  have hrow : w2.heap[w1.heap.size]? = some (.cells #[.string s, .int .i64 c, .int .i64 f] 23) := (hb2.block _ (by simp)).trans (heap_alloc_new _ _)
  have hc0 := cell_of_row w2 _ 0 _ _ _ hrow
  have hc1 := cell_of_row w2 _ 1 _ _ _ hrow
  have hc2 := cell_of_row w2 _ 2 _ _ _ hrow
  simp at hc0 hc1 hc2
  have hs2 : w1.heap.size < w2.heap.size := by have := hb2.size; simp at this; omega
  have HB : Hid (Below w.heap.size w w2) := ((hb1.alloc hb1.size _).trans (hb2.mono (by have := hb1.size; simp; omega)))
  clear hb1 hb2 hrow hS hI
  go_wp2_with (go_at_call 10; refine (eqOpInfo_same _ _ _ _).mono ?_; rintro e w3 ⟨rfl, hb3⟩)
  go_ret
  have hs1 := HB.out.size
  exact ⟨rfl, (HB.out.alloc hs1 _).trans (hb3.mono (by simp; omega))⟩

/-! ### THE ROW's STEP: WRITTEN OUT: LEAVE IT -/
set_option maxRecDepth 100000 in
theorem lifted (os : Os) (started : os.Started) (H : Type) (enc : TypeId × Value → H) :
    ReturnsInHanded {} Try.checked os 3 .any (Rows.fnExactInfoSpec.pre6 enc Try.prog Try.f3 Rows.fnExactInfoRow.domain false) (Rows.fnExactInfoSpec.post enc Try.prog Try.f3 false true false false) := by
  refine returnsInHanded_of_change (C := Try.checked) own started (by kernel_rfl) Try.func3
    (ChangeSpec.witness6 (enc := enc) (C := Try.checked) false ⟨#[], #[.int .i64 0], []⟩ 8 (by kernel_rfl) (by kernel_rfl) (by kernel_rfl) (by kernel_rfl)) ?_
  intro W base args ds gs before hval0 hW hcnd _
  have hval : ∀ (j : Nat) t v, Try.f3.params[j]? = some t → args[j]? = some v → Value.okWide Try.prog W .any base t v := hval0
  have hW' := hW
  obtain ⟨p, q, hA0, hV, rfl, hfz, hnd⟩ := hW
  have hA : DataW.TrodAll enc Try.prog W 0 (fun _ => true) true Try.f3.params.toList args.toList ds p := hA0
  rw [Try.params3] at hA hval
  obtain ⟨v0, vs0, d0, ds0, p0, q0, hargs, rfl, rfl, h0, r0⟩ := trodAll_cons hA
  obtain ⟨rfl, rfl, rfl⟩ := trodAll_nil r0
  obtain rfl : args = #[v0] := by cases args; simp_all
  obtain ⟨rfl, rfl⟩ := trodVars_none hV
  obtain ⟨a0, rfl, rfl, rfl, w0⟩ := open_int Try.underlying2 (hval 0 2 v0 rfl rfl) h0
  clear hA0 hval0
  refine (walk a0 w0 W).mono fun e W' ⟨he, hg⟩ => ?_
  subst he
  exact ⟨_, rfl, _, _, _, [], _, [], hW', (trodAll_cons_mk (shut_bool Try.underlying4 _) trodAll_mk0), (trodAll_cons_mk (shut_int Try.underlying2 w0) trodAll_mk0), rfl, hg.frame _, fun h => by cases h⟩

theorem over : Rows.fnExactInfoRow.holds Try.pinned (OpenSpec.ofChange Rows.fnExactInfoSpec) :=
  OpenClaim.holds_of_wide 3 Try.f3 rfl rfl rfl rfl rfl rfl rfl ⟨rfl, rfl, rfl, rfl, rfl⟩ rfl rfl rfl rfl rfl (by kernel_rfl) Try.func3 (by kernel_rfl)
    (of_decide_eq_true (by kernel_rfl)) (by unfold Func.isWrapper; first | (rw [if_pos (by decide +kernel)]; kernel_rfl) | (rw [if_neg (by decide +kernel)]; exact ⟨rfl, rfl⟩))
    (fun os started H enc _ => lifted os started H enc)

/-- ████ THE STATEMENT ████ -/
theorem proved : Rows.FnExactInfoSaid :=
  over
#print axioms proved
end Go.Proofs.Ytkblcoiiloiohaf.fnExactInfo
namespace Go.Proofs.Ytkblcoiiloiohaf
theorem fnExactInfo_holds : Rows.FnExactInfoSaid := fnExactInfo.proved
end Go.Proofs.Ytkblcoiiloiohaf
