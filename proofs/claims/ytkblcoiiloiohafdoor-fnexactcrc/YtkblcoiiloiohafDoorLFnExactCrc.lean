/- FnExactCrc: the walk, the row, the card. -/
import Derived.Test.YtkblcoiiloiohafDoorCards
import Derived.Test.YtkblcoiiloiohafDoorTie
import Derived.Test.YtkblcoiiloiohafDoorRowReads
import Derived.WalkKit
import Derived.ProofKit
import Derived.OpenShut
import Derived.ShutString
import Derived.ChangeOld
import Derived.Below
import Derived.OpenVars
import Derived.Deep.DeepHandedRow
import Derived.Lib.LaidTab
import Derived.Deep.RegionWith
import Derived.RegionTactic
namespace Go.Proofs.YtkblcoiiloiohafDoor.fnExactCrc
open Go.ChangeShapes Go.WideShapes Go.ChangeAt Go.RowKit
set_option linter.unusedVariables false

theorem own : ownKnob Tryd.prog.godebug = none := by kernel_rfl
theorem laidOut : laidOutB Tryd.prog = true := by kernel_rfl
theorem gTab : Tryd.prog.globalNamed "loop.example/s02548/impl.sumSteps" = some 0 := by kernel_rfl
theorem gTabType : (Tryd.prog.globals[0]?).map (·.type) = some 29 := by kernel_rfl
theorem cellsTab : Tryd.prog.cellsOf 29 = 16 := by kernel_rfl
theorem cellsW : Tryd.prog.cellsOf 23 = 1 := by kernel_rfl

/-- What the row's list gives: the table's cells. -/
theorem table {W : World} (h : laidMetH Tryd.prog Rows.fnExactCrcRow.laid W) : Lib.TabIs Tryd.prog W "loop.example/s02548/impl.sumSteps" .u32 sumTab :=
  Lib.tabIs_of_head (rest := []) gTab gTabType Tryd.underlying29 Tryd.underlying23 cellsW cellsTab h

/-- What the walk is told of a slice of bytes that came in. -/
def IsRow (k : IntKind) (w : World) (a : Option Addr) (len cap : Nat) (zs : List Int) : Prop :=
  (a = none ∧ len = 0 ∧ cap = 0 ∧ zs = []) ∨
  ∃ x, a = some x ∧ len ≤ cap ∧ cap ≤ maxLen ∧ zs.length = cap ∧ (∀ i, i < zs.length → w.cell? (x.add i) = some (.int k (zs.getD i 0))) ∧ ∀ n ∈ zs, (Lit.int k n).wf = true

set_option maxRecDepth 100000 in
set_option maxHeartbeats 8000000 in
theorem walk (a0 : Option Addr) (len0 cap0 : Nat) (z0 : List Int) (w : World) (w0 : IsRow .u8 w a0 len0 cap0 z0) (ht : TabAt w) (h0 : 0 < w.heap.size) :
    Calls Tryd.prog 3 #[.slice a0 len0 cap0] w fun e w' => e = .returned (.bool true) ∧ Below w.heap.size w w' := by
  have hrd := reads_of_row w0
  have hbz := bytes_of_row w0
  clear w0
  by_cases hbig : (1048576 : Int) < (len0 : Int)
  · go_enter Tryd.func3, Tryd.ntmps3
    go_wp2
    go_ret
    exact ⟨rfl, Below.refl _ _⟩
  · have hL : len0 ≤ 1048576 := by omega
    have HR : Hid (Reads w (.slice a0 len0 cap0) len0 ((z0.take len0).map (Value.int .u8)) ∧ (∀ j, 0 ≤ (z0.take len0).getD j 0 ∧ (z0.take len0).getD j 0 ≤ 255) ∧ TabAt w) := ⟨hrd, hbz, ht⟩
    clear hrd hbz ht
    generalize z0.take len0 = zs at HR
    go_enter Tryd.func3, Tryd.ntmps3
    go_wp2_with fail
    refine (toByteS_any _ len0 zs w hL HR.out.1).mono ?_
    rintro e u1 ⟨rfl, own1, b1⟩
    have H1 : Hid (Reads u1 (.slice (some ⟨w.heap.size, 0, none⟩) len0 len0) len0 (zs.map (Value.int .u8)) ∧ Below w.heap.size w u1) := ⟨Reads.of_own own1, b1⟩
    clear own1 b1
    go_wp2_with fail
    refine (SCrc_any _ len0 zs u1 hL H1.out.1 HR.out.2.1).mono ?_
    rintro e u2 ⟨rfl, rfl⟩
    go_wp2_with fail
    refine (toByteS_any _ len0 zs u2 hL (HR.out.1.keep H1.out.2)).mono ?_
    rintro e u3 ⟨rfl, own3, b3⟩
    have H3 : Hid (Reads u3 (.slice (some ⟨u2.heap.size, 0, none⟩) len0 len0) len0 (zs.map (Value.int .u8)) ∧ Below w.heap.size w u3) := ⟨Reads.of_own own3, H1.out.2.trans (b3.mono H1.out.2.size)⟩
    clear own3 b3
    go_wp2_with fail
    refine (Crc_any _ len0 zs u3 hL H3.out.1 HR.out.2.1 (tab_keep HR.out.2.2 H3.out.2 h0)).mono ?_
    rintro e u4 ⟨rfl, rfl⟩
    go_wp2_with fail
    refine (toByteS_any _ len0 zs u4 hL (HR.out.1.keep H3.out.2)).mono ?_
    rintro e u5 ⟨rfl, own5, b5⟩
    have H5 : Hid (Reads u5 (.slice (some ⟨u4.heap.size, 0, none⟩) len0 len0) len0 (zs.map (Value.int .u8)) ∧ Reads u5 (.slice (some ⟨u2.heap.size, 0, none⟩) len0 len0) len0 (zs.map (Value.int .u8)) ∧ Below w.heap.size w u5) := ⟨Reads.of_own own5, H3.out.1.keep b5, H3.out.2.trans (b5.mono H3.out.2.size)⟩
    clear own5 b5
    go_wp2_with fail
    refine (eqByteS_same _ _ len0 zs u5 (by omega) H5.out.2.1 H5.out.1).mono ?_
    rintro e u6 ⟨rfl, b6⟩
    have H6 : Hid (Below w.heap.size w u6) := H5.out.2.2.trans (b6.mono H5.out.2.2.size)
    clear b6
    go_wp2
    go_ret
    exact ⟨rfl, H6.out⟩

theorem contract (H : Type) (enc : TypeId × Value → H) (W : World) (base : Nat) (args : Array Value) (ds gs : List (DataW H)) (before : List MemPlace)
    (hval : ∀ (j : Nat) t v, Tryd.f3.params[j]? = some t → args[j]? = some v → Value.okWide Tryd.prog W .any base t v)
    (hW : DataW.Whole enc Tryd.prog Tryd.f3.params.toList Rows.fnExactCrcSpec.vars false W args.toList ds gs before) (hL : laidMetH Tryd.prog Rows.fnExactCrcRow.laid W) :
    Calls Tryd.prog 3 args W fun e W' => ∃ v, e = .returned v ∧ Rows.fnExactCrcSpec.post enc Tryd.prog Tryd.f3 false true false false W args v W' := by
  have hW' := hW
  obtain ⟨p, q, hA0, hV, rfl, hfz, hnd⟩ := hW
  have hA : DataW.TrodAll enc Tryd.prog W 0 (fun _ => true) true Tryd.f3.params.toList args.toList ds p := hA0
  rw [Tryd.params3] at hA hval
  obtain ⟨v0, vs0, d0, ds0, p0, q0, hargs, rfl, rfl, h0, r0⟩ := trodAll_cons hA
  obtain ⟨rfl, rfl, rfl⟩ := trodAll_nil r0
  obtain rfl : args = #[v0] := by cases args; simp_all
  have hV' := hV
  obtain ⟨g, t, cs, fuel, d, pv, rfl, _⟩ := trodVars_one hV
  obtain ⟨a0, len0, cap0, rfl⟩ := okWide_slice Tryd.underlying22 (hval 0 22 v0 rfl rfl)
  have k0 := h0
  have lt0 : ∀ x ∈ p0, x.block < W.heap.size := by obtain ⟨m, hm⟩ := k0; exact DataW.trod_lt m _ _ _ hm
  obtain ⟨z0, w0⟩ : ∃ zs, IsRow .u8 W a0 len0 cap0 zs := by
    obtain ⟨fuel, hf⟩ := h0
    rcases open_ints Tryd.underlying22 Tryd.underlying5 (by kernel_rfl) hf with ⟨hcs, _⟩ | ⟨x, l, c, zs, hcs, _, hl, hm, hz, _, hcell, hwz⟩
    · simp [Value.cells] at hcs
      obtain ⟨rfl, rfl, rfl⟩ := hcs
      exact ⟨[], .inl ⟨rfl, rfl, rfl, rfl⟩⟩
    · simp [Value.cells] at hcs
      obtain ⟨rfl, rfl, rfl⟩ := hcs
      exact ⟨zs, .inr ⟨_, rfl, hl, hm, by simpa using hz, hcell, hwz⟩⟩
  clear hA0
  have ht : TabAt W := fun j hj => (table hL).cell gTab j (by show j < 16; exact hj)
  have hpos : 0 < W.heap.size := Nat.lt_of_le_of_lt (Nat.zero_le _) (block_lt_of_cell (ht 0 (by decide)))
  refine (walk a0 len0 cap0 z0 W w0 ht hpos).mono fun e W' ⟨he, bel⟩ => ?_
  subst he
  exact ⟨_, rfl, _, _, _, [], _, _, hW', trodAll_mk1 (shut_bool Tryd.underlying4 _), trodAll_cons_mk (Below.trod laidOut (by kernel_rfl) (of_decide_eq_true (by kernel_rfl)) k0 bel lt0) trodAll_mk0, Below.trodVars laidOut bel (by kernel_rfl) hV', bel.frame _, fun h => by cases h⟩

/- The world of the witness: the settled one, the table (block 0) holding what its initialiser lays. -/
theorem laid_met (os : Os) : laidMet Tryd.prog Rows.fnExactCrcRow.laid (({ World.holding Tryd.prog os ⟨#[], #[], []⟩ with heap := (World.holding Tryd.prog os ⟨#[], #[], []⟩).heap.modify 0 fun | .cells _ t frozen => .cells (sumTab.map (Value.int .u32)).toArray t frozen | o => o } : World).forCall (fun _ _ => 0) ⟨#[], #[.slice none 0 0], []⟩).memory :=
  laidMet_of_run' 8 (by kernel_rfl) (by kernel_rfl)
theorem reads (os : Os) {H : Type} (enc : TypeId × Value → H) : ∃ places, DataW.whole enc Tryd.prog (({ World.holding Tryd.prog os ⟨#[], #[], []⟩ with heap := (World.holding Tryd.prog os ⟨#[], #[], []⟩).heap.modify 0 fun | .cells _ t frozen => .cells (sumTab.map (Value.int .u32)).toArray t frozen | o => o } : World).forCall (fun _ _ => 0) ⟨#[], #[.slice none 0 0], []⟩).memory Tryd.f3.params.toList Rows.fnExactCrcSpec.vars false #[Value.slice none 0 0].toList 8 = some ([.nil], [Rows.laid_loop_example_s02548_impl_sumSteps], places) :=
  ⟨MemPlace.row ⟨0, 0, none⟩ 16, by kernel_rfl⟩

set_option maxRecDepth 100000 in
theorem lifted (os : Os) (started : os.Started) (H : Type) (enc : TypeId × Value → H) (F : Stop.Interp) :
    ReturnsInHanded {} Tryd.checked os 3 .any ((OpenSpec.ofChange Rows.fnExactCrcSpec).preRow enc Tryd.prog Tryd.f3 Rows.fnExactCrcRow.domain false Rows.fnExactCrcRow.laid) (((OpenSpec.ofChange Rows.fnExactCrcSpec).at F).post enc Tryd.prog Tryd.f3 false true false false) := by
  obtain ⟨places, hx⟩ := reads os enc
  refine returnsInHanded_of_row (C := Tryd.checked) (s := OpenSpec.ofChange Rows.fnExactCrcSpec) own started (by kernel_rfl) Tryd.func3
    (witness_row_at (enc := enc) (C := Tryd.checked) false ({ World.holding Tryd.prog os ⟨#[], #[], []⟩ with heap := (World.holding Tryd.prog os ⟨#[], #[], []⟩).heap.modify 0 fun | .cells _ t frozen => .cells (sumTab.map (Value.int .u32)).toArray t frozen | o => o } : World) #[.slice none 0 0] rfl (by kernel_rfl) (by kernel_rfl) (by kernel_rfl)
      (OpenSpec.preRow_of_cond 8 hx (by kernel_rfl) (fun k hk => by cases hk) (by kernel_rfl) (laid_met os))) ?_
  intro W base args ds gs before hval hW _ _ _ hL _ _
  exact contract H enc W base args ds gs before hval hW hL

theorem said : Rows.FnExactCrcSaid :=
  OpenClaim.holds_of_cond 3 Tryd.f3 rfl rfl rfl rfl rfl rfl rfl ⟨rfl, rfl, rfl, rfl, rfl⟩ rfl rfl rfl rfl rfl (by kernel_rfl) Tryd.func3 (by kernel_rfl)
    (of_decide_eq_true (by kernel_rfl)) (by unfold Func.isWrapper; first | (rw [if_pos (by decide +kernel)]; kernel_rfl) | (rw [if_neg (by decide +kernel)]; exact ⟨rfl, rfl⟩))
    (fun os started H enc _ F => by rw [OpenClaim.pre_eq_preRow]; exact lifted os started H enc F)

theorem plain (f : FuncId) (fn : Func) (hf : Tryd.pinned.checked.prog.funcNamed "loop.example/s02548/laws.FnExactCrc" = some f) (hfn : Tryd.pinned.checked.prog.funcs[f]? = some fn) :
    false = Tryd.pinned.checked.prog.looks [] ∧ ∀ (j : Nat) t, fn.params[j]? = some t → Tryd.pinned.checked.prog.wantsStandIn t = false := by
  obtain rfl : f = 3 := Option.some.inj ((show Tryd.prog.funcNamed "loop.example/s02548/laws.FnExactCrc" = some 3 by kernel_rfl).symm.trans hf) |>.symm
  obtain rfl : fn = Tryd.f3 := (Option.some.inj (Tryd.func3.symm.trans hfn)).symm
  refine ⟨by kernel_rfl, fun j t ht => ?_⟩
  rw [Tryd.params3] at ht
  obtain rfl : t = 22 := by simpa using Array.mem_of_getElem? ht
  exact (show Tryd.prog.wantsStandIn 22 = false by kernel_rfl)

theorem card : Rows.FnExactCrcCardSaid :=
  Claim7.holds_tied_plain_at .later [] _ _ _ _ said (fun _ h => by cases h) (by kernel_rfl) (fun _ h => by cases h) fnExactCrc_row_tie rfl ⟨rfl, rfl⟩ (by kernel_rfl) rfl plain (by kernel_rfl)
#print axioms card
end Go.Proofs.YtkblcoiiloiohafDoor.fnExactCrc
namespace Go.Proofs.YtkblcoiiloiohafDoor
theorem fnExactCrc_holds : Rows.FnExactCrcCardSaid := fnExactCrc.card
end Go.Proofs.YtkblcoiiloiohafDoor
