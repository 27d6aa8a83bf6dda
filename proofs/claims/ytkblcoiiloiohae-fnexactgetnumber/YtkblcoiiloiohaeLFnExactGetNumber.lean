/- FnExactGetNumber: the walk, the row. -/
import Derived.Test.YtkblcoiiloiohaeRows
import Derived.Test.YtkblcoiiloiohaeNumResult
import Derived.WalkKit
import Derived.ProofKit
import Derived.OpenShut
import Derived.ShutString
import Derived.ChangeOld
import Derived.Below
namespace Go.Proofs.Ytkblcoiiloiohae.fnExactGetNumber
open Go.ChangeShapes Go.WideShapes Go.ChangeAt Go.RowKit
open Go.ChangeMaps (open_string shut_string)
set_option linter.unusedVariables false

theorem own : ownKnob Try.prog.godebug = none := by kernel_rfl
theorem laidOut : laidOutB Try.prog = true := by kernel_rfl

/-- WHAT THE WALK IS TOLD OF A SLICE OF INTEGERS THAT CAME IN: it is nil; or it leads to a row of 'cap' cells, the numbers 'zs' (the first 'len' are its elements, the rest its spare room), each fitting its kind. -/
def IsRow (k : IntKind) (w : World) (a : Option Addr) (len cap : Nat) (zs : List Int) : Prop :=
  (a = none ∧ len = 0 ∧ cap = 0 ∧ zs = []) ∨
  ∃ x, a = some x ∧ len ≤ cap ∧ cap ≤ maxLen ∧ zs.length = cap ∧ (∀ i, i < zs.length → w.cell? (x.add i) = some (.int k (zs.getD i 0))) ∧ ∀ n ∈ zs, (Lit.int k n).wf = true

/-! ### STEP 1: THE WALK: the Go text returns true, AND WRITES NOTHING THAT WAS THERE: 'Below w.heap.size w w'' (Derived/Below.lean: '.refl', '.alloc', '.drew', '.setCell' at a new block, '.trans'). Open each 'IsRow' by 'rcases' AHEAD of 'go_enter'; part every test ahead of the walk. -/
set_option maxRecDepth 100000 in
set_option maxHeartbeats 8000000 in
theorem walk (a0 : Option Addr) (len0 cap0 : Nat) (z0 : List Int) (a1 : Int) (a2 : Int) (w : World) (w0 : IsRow .u8 w a0 len0 cap0 z0) (w1 : (Lit.int .i64 a1).wf = true) (w2 : (Lit.int .i64 a2).wf = true) :
    Calls Try.prog 5 #[.slice a0 len0 cap0, .int .i64 a1, .int .i64 a2] w fun e w' => e = .returned (.bool true) ∧ Below w.heap.size w w' := by
  have hrd := reads_of_row w0
  clear w0
  by_cases hbig : (1048576 : Int) < (len0 : Int)
  · go_enter Try.func5, Try.ntmps5
    go_wp2
    go_ret
    exact ⟨rfl, Below.refl _ _⟩
  · have hL : len0 ≤ 1048576 := by omega
    have hz := zero_num
    have HR : Hid (Reads w (.slice a0 len0 cap0) len0 ((z0.take len0).map (Value.int .u8))) := hrd
    clear hrd w1 w2
    generalize z0.take len0 = zs at HR
    generalize hres : numRes zs len0 a1 a2 = res
    have HRES : Hid (numRes zs len0 a1 a2 = res) := hres
    clear hres
    obtain ⟨rb, rv⟩ := res
    go_enter Try.func5, Try.ntmps5
    go_wp2_with fail
    refine (toByteS_any _ len0 zs w hL HR.out).mono ?_
    rintro e u1 ⟨rfl, own1, b1⟩
    have H1 : Hid (Reads u1 (.slice (some ⟨w.heap.size, 0, none⟩) len0 len0) len0 (zs.map (Value.int .u8)) ∧ Below w.heap.size w u1) := ⟨Reads.of_own own1, b1⟩
    clear own1 b1
    go_wp2_with fail
    refine (SGetNumber_any w.heap.size len0 zs a1 a2 u1 hL H1.out.1).mono ?_
    rw [HRES.out]
    rintro e u2 ⟨rfl, b2⟩
    have H2 : Hid (Below w.heap.size w u2) := H1.out.2.trans (b2.mono H1.out.2.size)
    clear b2
    go_wp2_with fail
    refine (toByteS_any _ len0 zs _ hL (HR.out.keep (H2.out.alloc H2.out.size _))).mono ?_
    rintro e u3 ⟨rfl, own3, b3⟩
    have hrow3 : u3.heap[u2.heap.size]? = some (.cells #[.bool rb, .int .i64 rv] 44) := (b3.block _ (by simp)).trans (heap_alloc_new _ _)
    have H3 : Hid (Reads u3 (.slice (some ⟨u2.heap.size + 1, 0, none⟩) len0 len0) len0 (zs.map (Value.int .u8)) ∧ Below w.heap.size w u3 ∧ u3.heap[u2.heap.size]? = some (.cells #[.bool rb, .int .i64 rv] 44)) := ⟨by simpa using Reads.of_own own3, (H2.out.alloc H2.out.size _).trans (b3.mono (by have := H2.out.size; simp; omega)), hrow3⟩
    clear own3 b3 hrow3
    go_wp2_with fail
    refine (GetNumber_any _ len0 zs a1 a2 u3 hL H3.out.1).mono ?_
    rw [HRES.out]
    rintro e u4 ⟨rfl, b4⟩
    have hlt : u2.heap.size < u4.heap.size := Nat.lt_of_lt_of_le (Array.getElem?_eq_some_iff.1 H3.out.2.2).1 b4.size
    have hrow4 : u4.heap[u2.heap.size]? = some (.cells #[.bool rb, .int .i64 rv] 44) := (b4.block _ (Array.getElem?_eq_some_iff.1 H3.out.2.2).1).trans H3.out.2.2
    have hc0 := cell_of_row u4 _ 0 _ _ _ hrow4
    have hc1 := cell_of_row u4 _ 1 _ _ _ hrow4
    simp at hc0 hc1
    have H4 : Hid (Reads u4 (.slice (some ⟨u2.heap.size + 1, 0, none⟩) len0 len0) len0 (zs.map (Value.int .u8)) ∧ Below w.heap.size w u4) := ⟨H3.out.1.keep b4, H3.out.2.1.trans (b4.mono H3.out.2.1.size)⟩
    clear b4 hrow4
    go_wp2_with fail
    refine (eqNumberResult_same rb rv _).mono ?_
    rintro e u5 ⟨rfl, b5⟩
    have H5 : Hid (Reads u5 (.slice (some ⟨u2.heap.size + 1, 0, none⟩) len0 len0) len0 (zs.map (Value.int .u8)) ∧ Below w.heap.size w u5) := ⟨H4.out.1.keep (((Below.refl _ _).alloc (Nat.le_refl _) _).trans (b5.mono (by simp))), (H4.out.2.alloc H4.out.2.size _).trans (b5.mono (by have := H4.out.2.size; simp; omega))⟩
    clear b5 hc0 hc1
    go_wp2_with fail
    refine (toByteS_any _ len0 zs u5 hL (HR.out.keep H5.out.2)).mono ?_
    rintro e u6 ⟨rfl, own6, b6⟩
    have H6 : Hid (Reads u6 (.slice (some ⟨u5.heap.size, 0, none⟩) len0 len0) len0 (zs.map (Value.int .u8)) ∧ Reads u6 (.slice (some ⟨u2.heap.size + 1, 0, none⟩) len0 len0) len0 (zs.map (Value.int .u8)) ∧ Below w.heap.size w u6) := ⟨Reads.of_own own6, H5.out.1.keep b6, H5.out.2.trans (b6.mono H5.out.2.size)⟩
    clear own6 b6
    go_wp2_with fail
    refine (eqByteS_same _ _ len0 zs u6 (by omega) H6.out.2.1 H6.out.1).mono ?_
    rintro e u7 ⟨rfl, b7⟩
    have H7 : Hid (Below w.heap.size w u7) := H6.out.2.2.trans (b7.mono H6.out.2.2.size)
    clear b7
    go_wp2
    go_ret
    exact ⟨rfl, H7.out⟩

/-! ### THE ROW's STEP: WRITTEN OUT: LEAVE IT -/
set_option maxRecDepth 100000 in
theorem lifted (os : Os) (started : os.Started) (H : Type) (enc : TypeId × Value → H) :
    ReturnsInHanded {} Try.checked os 5 .any (Rows.fnExactGetNumberSpec.pre6 enc Try.prog Try.f5 Rows.fnExactGetNumberRow.domain false) (Rows.fnExactGetNumberSpec.post enc Try.prog Try.f5 false true false false) := by
  refine returnsInHanded_of_change (C := Try.checked) own started (by kernel_rfl) Try.func5
    (ChangeSpec.witness6 (enc := enc) (C := Try.checked) false ⟨#[], #[.slice none 0 0, .int .i64 0, .int .i64 0], []⟩ 8 (by kernel_rfl) (by kernel_rfl) (by kernel_rfl) (by kernel_rfl)) ?_
  intro W base args ds gs before hval0 hW hcnd _
  have hval : ∀ (j : Nat) t v, Try.f5.params[j]? = some t → args[j]? = some v → Value.okWide Try.prog W .any base t v := hval0
  have hW' := hW
  obtain ⟨p, q, hA0, hV, rfl, hfz, hnd⟩ := hW
  have hA : DataW.TrodAll enc Try.prog W 0 (fun _ => true) true Try.f5.params.toList args.toList ds p := hA0
  rw [Try.params5] at hA hval
  obtain ⟨v0, vs0, d0, ds0, p0, q0, hargs, rfl, rfl, h0, r0⟩ := trodAll_cons hA
  obtain ⟨v1, vs1, d1, ds1, p1, q1, rfl, rfl, rfl, h1, r1⟩ := trodAll_cons r0
  obtain ⟨v2, vs2, d2, ds2, p2, q2, rfl, rfl, rfl, h2, r2⟩ := trodAll_cons r1
  obtain ⟨rfl, rfl, rfl⟩ := trodAll_nil r2
  obtain rfl : args = #[v0, v1, v2] := by cases args; simp_all
  obtain ⟨rfl, rfl⟩ := trodVars_none hV
  obtain ⟨a0, len0, cap0, rfl⟩ := okWide_slice Try.underlying38 (hval 0 38 v0 rfl rfl)
  have k0 := h0
  have lt0 : ∀ x ∈ p0, x.block < W.heap.size := by obtain ⟨m, hm⟩ := k0; exact DataW.trod_lt m _ _ _ hm
  obtain ⟨z0, w0⟩ : ∃ zs, IsRow .u8 W a0 len0 cap0 zs := by
    obtain ⟨fuel, hf⟩ := h0
    rcases open_ints Try.underlying38 Try.underlying5 (by kernel_rfl) hf with ⟨hcs, _⟩ | ⟨x, l, c, zs, hcs, _, hl, hm, hz, _, hcell, hwz⟩
    · simp [Value.cells] at hcs
      obtain ⟨rfl, rfl, rfl⟩ := hcs
      exact ⟨[], .inl ⟨rfl, rfl, rfl, rfl⟩⟩
    · simp [Value.cells] at hcs
      obtain ⟨rfl, rfl, rfl⟩ := hcs
      exact ⟨zs, .inr ⟨_, rfl, hl, hm, by simpa using hz, hcell, hwz⟩⟩
  obtain ⟨a1, rfl, rfl, rfl, w1⟩ := open_int Try.underlying2 (hval 1 2 v1 rfl rfl) h1
  obtain ⟨a2, rfl, rfl, rfl, w2⟩ := open_int Try.underlying2 (hval 2 2 v2 rfl rfl) h2
  clear hA0 hval0
  refine (walk a0 len0 cap0 z0 a1 a2 W w0 w1 w2).mono fun e W' ⟨he, bel⟩ => ?_
  subst he
  exact ⟨_, rfl, _, _, _, [], _, [], hW', trodAll_mk1 (shut_bool Try.underlying4 _), (trodAll_cons_mk (Below.trod laidOut (by kernel_rfl) (of_decide_eq_true (by kernel_rfl)) k0 bel lt0) (trodAll_cons_mk (shut_int Try.underlying2 w1) (trodAll_cons_mk (shut_int Try.underlying2 w2) trodAll_mk0))), rfl, bel.frame _, fun h => by cases h⟩

theorem over : Rows.fnExactGetNumberRow.holds Try.pinned (OpenSpec.ofChange Rows.fnExactGetNumberSpec) :=
  OpenClaim.holds_of_wide 5 Try.f5 rfl rfl rfl rfl rfl rfl rfl ⟨rfl, rfl, rfl, rfl, rfl⟩ rfl rfl rfl rfl rfl (by kernel_rfl) Try.func5 (by kernel_rfl)
    (of_decide_eq_true (by kernel_rfl)) (by unfold Func.isWrapper; first | (rw [if_pos (by decide +kernel)]; kernel_rfl) | (rw [if_neg (by decide +kernel)]; exact ⟨rfl, rfl⟩))
    (fun os started H enc _ => lifted os started H enc)

/-- ████ THE STATEMENT ████ -/
theorem proved : Rows.FnExactGetNumberSaid := over
#print axioms proved
end Go.Proofs.Ytkblcoiiloiohae.fnExactGetNumber
namespace Go.Proofs.Ytkblcoiiloiohae
theorem fnExactGetNumber_holds : Rows.FnExactGetNumberSaid := fnExactGetNumber.proved
end Go.Proofs.Ytkblcoiiloiohae
