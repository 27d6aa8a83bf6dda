/- FnExactPutNumber: the walk, the row. -/
import Derived.Test.YtkblcoiiloiohaeRows
import Derived.Test.YtkblcoiiloiohaeByteS
import Derived.Test.YtkblcoiiloiohaeSPutNumber
import Derived.WalkKit
import Derived.ProofKit
import Derived.OpenShut
import Derived.Below
import Derived.ChangeOld
import Derived.ShutString
namespace Go.Proofs.Ytkblcoiiloiohae.fnExactPutNumber
open Go.ChangeShapes Go.WideShapes Go.ChangeAt Go.RowKit
open Go.ChangeMaps (open_string shut_string)
set_option linter.unusedVariables false      -- a walk need not use every 'w<i>' (that an integer argument fits its kind)

theorem own : ownKnob Try.prog.godebug = none := by kernel_rfl

/-! ### STEP 1: THE WALK: the Go text returns true. 'Below w.heap.size w w'': the world has at most new blocks (Derived/RowKit3.lean). Part the cases AHEAD of 'go_enter' where a test parts the walk; take each callee by a contract of your own. -/
set_option maxRecDepth 100000 in
set_option maxHeartbeats 8000000 in
theorem walk (a0 : Int) (a1 : Int) (w0 : (Lit.int .i64 a0).wf = true) (w1 : (Lit.int .i64 a1).wf = true) (w : World) :
    Calls Try.prog 4 #[.int .i64 a0, .int .i64 a1] w fun e w' => e = .returned (.bool true) ∧ Below w.heap.size w w' := by
  have hN : numN a1 ≤ 8 := by unfold numN; split <;> omega
  obtain ⟨zs, hzs⟩ : ∃ zs : List Int, numL a0 (numN a1) = zs.map (Value.int .u8) := ⟨(List.range (numN a1)).map fun i => a0 / 2 ^ (8 * i) % 256, by simp [numL]⟩
  generalize hn : numN a1 = n at *
  have HP : Hid (∀ w, Calls Try.prog 12 #[.int .i64 a0, .int .i64 a1] w fun e w' => ∃ r, e = .returned r ∧ w'.ownsRow w.heap.size 5 1 r n (zs.map (Value.int .u8)) ∧ Below w.heap.size w w') := fun w => by
    rw [← hzs, ← hn]; exact PutNumber_any a0 a1 w
  have HS : Hid (∀ w, Calls Try.prog 11 #[.int .i64 a0, .int .i64 a1] w fun e w' => ∃ r, e = .returned r ∧ w'.ownsRow w.heap.size 5 1 r n (zs.map (Value.int .u8)) ∧ Below w.heap.size w w') := fun w => by
    rw [← hzs, ← hn]; exact SPutNumber_any a0 a1 w
  clear hzs hn w0 w1
  go_enter Try.func4, Try.ntmps4
  go_wp2_with fail
  refine (HS.out _).mono ?_
  rintro e u1 ⟨r0, rfl, own0, b1⟩
  have H0 : Hid (Reads u1 r0 n (zs.map (Value.int .u8)) ∧ Below w.heap.size w u1) := ⟨Reads.of_own own0, b1⟩
  clear own0 b1
  go_wp2_with fail
  refine (HP.out _).mono ?_
  rintro e u2 ⟨r1, rfl, own1, b2⟩
  have H1 : Hid (u2.ownsRow u1.heap.size 5 1 r1 n (zs.map (Value.int .u8)) ∧ Reads u2 r0 n (zs.map (Value.int .u8)) ∧ Below u1.heap.size u1 u2) := ⟨own1, H0.out.1.keep b2, b2⟩
  clear own1 b2
  go_wp2_with fail
  refine (eqByteS_same r1 r0 n zs u2 (by omega) (Reads.of_own H1.out.1) H1.out.2.1).mono ?_
  rintro e u3 ⟨rfl, b3⟩
  have hk3 : Hid (u2.heap.size ≤ u3.heap.size ∧ u3.ownsRow u1.heap.size 5 1 r1 n (zs.map (Value.int .u8)) ∧ Below u1.heap.size u1 u3) := ⟨b3.size, by
    obtain ⟨hl, h⟩ := H1.out.1
    refine ⟨hl, ?_⟩
    rcases h with h | ⟨g, cap, cur, rfl, hb, hg, hr⟩
    · exact .inl h
    · exact .inr ⟨g, cap, cur, rfl, hb, (b3.block g (by have := (Array.getElem?_eq_some_iff.1 hg).1; exact this)).trans hg, hr⟩, H1.out.2.2.trans (b3.mono H1.out.2.2.size)⟩
  clear b3
  go_wp2_with fail
  refine (markByteS_any r1 n u1.heap.size _ 1 u3 (by omega) (by omega) (by omega) hk3.out.2.1).mono ?_
  rintro e u4 ⟨rfl, own4, b4⟩
  have H4 : Hid (Reads u4 r1 n ((markZ 1 n).map (Value.int .u8)) ∧ Below u1.heap.size u1 u4) := ⟨Reads.of_own own4, hk3.out.2.2.trans b4⟩
  clear own4 b4
  go_wp2_with fail
  refine (heldByteS_any r1 n 1 u4 (by omega) (by omega) (by omega) H4.out.1).mono ?_
  rintro e u5 ⟨rfl, rfl⟩
  go_wp2_with fail
  refine (HP.out _).mono ?_
  rintro e u6 ⟨r2, rfl, own6, b6⟩
  have H6 : Hid (Reads u6 r2 n (zs.map (Value.int .u8)) ∧ Reads u6 r1 n ((markZ 1 n).map (Value.int .u8)) ∧ Reads u6 r0 n (zs.map (Value.int .u8)) ∧ Below u1.heap.size u1 u6) := ⟨Reads.of_own own6, H4.out.1.keep b6, H0.out.1.keep (H4.out.2.trans (b6.mono H4.out.2.size)), H4.out.2.trans (b6.mono H4.out.2.size)⟩
  clear own6 b6
  go_wp2_with fail
  refine (eqByteS_same r2 r0 n zs u6 (by omega) H6.out.1 H6.out.2.2.1).mono ?_
  rintro e u7 ⟨rfl, b7⟩
  have H7 : Hid (Reads u7 r1 n ((markZ 1 n).map (Value.int .u8)) ∧ Below w.heap.size w u7) := ⟨H6.out.2.1.keep b7, H0.out.2.trans ((H6.out.2.2.2.trans (b7.mono H6.out.2.2.2.size)).mono H0.out.2.size)⟩
  clear b7
  go_wp2_with fail
  refine (heldByteS_any r1 n 1 u7 (by omega) (by omega) (by omega) H7.out.1).mono ?_
  rintro e u8 ⟨rfl, rfl⟩
  go_wp2
  go_ret
  exact ⟨rfl, H7.out.2⟩

/-! ### THE ROW's STEP: WRITTEN OUT: LEAVE IT -/
set_option maxRecDepth 100000 in
theorem lifted (os : Os) (started : os.Started) (H : Type) (enc : TypeId × Value → H) :
    ReturnsInHanded {} Try.checked os 4 .any (Rows.fnExactPutNumberSpec.pre6 enc Try.prog Try.f4 Rows.fnExactPutNumberRow.domain false) (Rows.fnExactPutNumberSpec.post enc Try.prog Try.f4 false true false false) := by
  refine returnsInHanded_of_change (C := Try.checked) own started (by kernel_rfl) Try.func4
    (ChangeSpec.witness6 (enc := enc) (C := Try.checked) false ⟨#[], #[.int .i64 0, .int .i64 0], []⟩ 8 (by kernel_rfl) (by kernel_rfl) (by kernel_rfl) (by kernel_rfl)) ?_
  intro W base args ds gs before hval0 hW hcnd _
  have hval : ∀ (j : Nat) t v, Try.f4.params[j]? = some t → args[j]? = some v → Value.okWide Try.prog W .any base t v := hval0
  have hW' := hW
  obtain ⟨p, q, hA0, hV, rfl, hfz, hnd⟩ := hW
  have hA : DataW.TrodAll enc Try.prog W 0 (fun _ => true) true Try.f4.params.toList args.toList ds p := hA0
  rw [Try.params4] at hA hval
  obtain ⟨v0, vs0, d0, ds0, p0, q0, hargs, rfl, rfl, h0, r0⟩ := trodAll_cons hA
  obtain ⟨v1, vs1, d1, ds1, p1, q1, rfl, rfl, rfl, h1, r1⟩ := trodAll_cons r0
  obtain ⟨rfl, rfl, rfl⟩ := trodAll_nil r1
  obtain rfl : args = #[v0, v1] := by cases args; simp_all
  obtain ⟨rfl, rfl⟩ := trodVars_none hV
  obtain ⟨a0, rfl, rfl, rfl, w0⟩ := open_int Try.underlying2 (hval 0 2 v0 rfl rfl) h0
  obtain ⟨a1, rfl, rfl, rfl, w1⟩ := open_int Try.underlying2 (hval 1 2 v1 rfl rfl) h1
  clear hA0 hval0
  refine (walk a0 a1 w0 w1 W).mono fun e W' ⟨he, hg⟩ => ?_
  subst he
  exact ⟨_, rfl, _, _, _, [], _, [], hW', (trodAll_cons_mk (shut_bool Try.underlying4 _) trodAll_mk0), (trodAll_cons_mk (shut_int Try.underlying2 w0) (trodAll_cons_mk (shut_int Try.underlying2 w1) trodAll_mk0)), rfl, hg.frame _, fun h => by cases h⟩

theorem over : Rows.fnExactPutNumberRow.holds Try.pinned (OpenSpec.ofChange Rows.fnExactPutNumberSpec) :=
  OpenClaim.holds_of_wide 4 Try.f4 rfl rfl rfl rfl rfl rfl rfl ⟨rfl, rfl, rfl, rfl, rfl⟩ rfl rfl rfl rfl rfl (by kernel_rfl) Try.func4 (by kernel_rfl)
    (of_decide_eq_true (by kernel_rfl)) (by unfold Func.isWrapper; first | (rw [if_pos (by decide +kernel)]; kernel_rfl) | (rw [if_neg (by decide +kernel)]; exact ⟨rfl, rfl⟩))
    (fun os started H enc _ => lifted os started H enc)

/-- ████ THE STATEMENT ████ -/
theorem proved : Rows.FnExactPutNumberSaid :=
  over
#print axioms proved
end Go.Proofs.Ytkblcoiiloiohae.fnExactPutNumber
namespace Go.Proofs.Ytkblcoiiloiohae
theorem fnExactPutNumber_holds : Rows.FnExactPutNumberSaid := fnExactPutNumber.proved
end Go.Proofs.Ytkblcoiiloiohae
