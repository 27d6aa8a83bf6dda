/- FnExactFormatProgram: the walk, the row, the card. (by gen_lfmt.py) -/
import Derived.Test.YthifelgdkmkdkaaGreatDoorCards
import Derived.Test.YthifelgdkmkdkaaGreatDoorTie
import Derived.Test.YthifelgdkmkdkaaGreatDoorFm47
import Derived.Test.YthifelgdkmkdkaaGreatDoorFm48
import Derived.Lib.LaidTab
import Derived.Stop.LaidErr
import Derived.Test.YthifelgdkmkdkaaGreatDoorFm49
import Derived.WalkKit
import Derived.ProofKit
import Derived.OpenShut
import Derived.ShutString
import Derived.ChangeOld
import Derived.Below
import Derived.OpenVars
import Derived.Deep.DeepHandedRow
import Derived.LaidLaws
import Derived.LaidHandle
import Derived.Deep.RegionWith
namespace Go.Proofs.YthifelgdkmkdkaaGreatDoor.fnExactFormatProgram
open Go.ChangeShapes Go.WideShapes Go.ChangeAt Go.RowKit
set_option linter.unusedVariables false

theorem own : ownKnob Tryz.prog.godebug = none := by kernel_rfl
theorem laidOut : laidOutB Tryz.prog = true := by kernel_rfl
theorem gTabType : (Tryz.prog.globals[0]?).map (·.type) = some 155 := by kernel_rfl
theorem cellsTab : Tryz.prog.cellsOf 155 = 20 := by kernel_rfl
theorem cellsW : Tryz.prog.cellsOf 91 = 1 := by kernel_rfl
/-- What the row's list gives: the table's cells. -/
theorem table {W : World} (h : laidMetH Tryz.prog Rows.fnExactFormatProgramRow.laid W) : PowTab W :=
  Lib.tabIs_of_head (rest := []) gPow gTabType Tryz.underlying155 Tryz.underlying91 cellsW cellsTab (laidMet.tail (laidMet.tail h))
def tab32 : List Int := [0, 1, 28, 2, 29, 14, 24, 3, 30, 22, 20, 15, 25, 17, 4, 8, 31, 27, 13, 23, 21, 19, 16, 7, 26, 12, 18, 6, 11, 5, 10, 9]
def tab64 : List Int := [0, 1, 56, 2, 57, 49, 28, 3, 61, 58, 42, 50, 38, 29, 17, 4, 62, 47, 59, 36, 45, 43, 51, 22, 53, 39, 33, 30, 24, 18, 12, 5, 63, 55, 48, 27, 60, 41, 37, 16, 46, 35, 44, 21, 52, 32, 23, 11, 54, 26, 40, 15, 34, 20, 31, 10, 25, 14, 19, 9, 13, 8, 7, 6]

set_option maxRecDepth 100000 in
set_option maxHeartbeats 8000000 in
theorem walk (v0 : VP) (p0 : MP) (w : World) (h0 : RdP w v0 p0) (b0 : p0.fits) (f0 : p0.wf) (hg : PowTab w) :
    Calls Tryz.prog 3 #[.agg #[v0.r, v0.k, v0.f, v0.t]] w fun e w' => e = .returned (.bool true) ∧ Below w.heap.size w w' := by
  have B0 : Below w.heap.size w (w.alloc (.cells #[v0.r, v0.k, v0.f, v0.t] 27)) := below_alloc _ _
  have A0 : At4 (w.alloc (.cells #[v0.r, v0.k, v0.f, v0.t] 27)) w.heap.size v0.r v0.k v0.f v0.t := At4.new w _ _ _ _ _
  have HF : Hid (p0.fits ∧ p0.wf ∧ RdP w v0 p0 ∧ PowTab w) := ⟨b0, f0, h0, hg⟩
  clear b0 f0 h0 hg
  go_enter Tryz.func3, Tryz.ntmps3
  go_wp2_with fail
  refine (szProgram_any v0 p0 1048576 _ HF.out.1 (HF.out.2.2.1.keep B0 (Nat.le_refl _)) (by omega) (by omega)).mono ?_
  rintro e u1 ⟨r1, rfl, hr1, bl1⟩
  have B1 : Hid (Below w.heap.size w u1) := below_on B0 (Nat.le_refl _) bl1
  have Q0 : Hid (At4 u1 w.heap.size v0.r v0.k v0.f v0.t) := A0.keep bl1
  clear B0 A0 bl1
  rcases hr1 with rfl | ⟨hr0, hr1, hs0⟩
  · go_wp2
    go_ret
    exact ⟨rfl, B1.out⟩
  have S0 : Hid p0.small := hs0
  clear hs0
  have hrn : ¬ r1 < 0 := by omega
  obtain ⟨i0, i1, i2, i3⟩ := Q0.out
  go_wp2_with fail
  refine (toProgram_any v0 p0 _ S0.out (HF.out.2.2.1.keep B1.out (Nat.le_refl _))).mono ?_
  rintro e u2 ⟨a1, c1, a2, c2, a3, c3, a4, c4, rfl, own2, bl2⟩
  have B2 : Hid (Below w.heap.size w u2) := below_on B1.out (Nat.le_refl _) bl2
  have P0 : Hid (At4 u2 w.heap.size v0.r v0.k v0.f v0.t) := Q0.out.keep bl2
  have R2 : Hid (RdP u2 ⟨.slice a1 p0.regions.length c1, .slice a2 p0.consts.length c2, .slice a3 p0.funcs.length c3, .slice a4 p0.certs.length c4⟩ p0) := own2.rd
  clear own2 bl2 B1 Q0 i0 i1 i2 i3 hrn hr0 hr1
  go_wp2_with fail
  refine (specFormat_any ⟨.slice a1 p0.regions.length c1, .slice a2 p0.consts.length c2, .slice a3 p0.funcs.length c3, .slice a4 p0.certs.length c4⟩ p0 _ S0.out HF.out.2.1 R2.out).mono ?_
  rintro e u3 ⟨⟨n, hn, rfl⟩, bl3⟩
  unfold strV
  generalize hs : fmText n p0 = tt
  have HT : Hid (fmText n p0 = tt) := hs
  clear hs
  have B3 : Hid (Below w.heap.size w u3) := below_on B2.out (Nat.le_refl _) bl3
  have Q0 : Hid (At4 u3 w.heap.size v0.r v0.k v0.f v0.t) := P0.out.keep bl3
  have HN : Hid (FaultIs p0 n) := hn
  clear bl3 hn B2 P0 R2
  obtain ⟨i0, i1, i2, i3⟩ := Q0.out
  go_wp2_with fail
  refine (toProgram_any v0 p0 _ S0.out (HF.out.2.2.1.keep B3.out (Nat.le_refl _))).mono ?_
  rintro e u4 ⟨x1, e1, x2, e2, x3, e3, x4, e4, rfl, own4, bl4⟩
  have B4 : Hid (Below w.heap.size w u4) := below_on B3.out (Nat.le_refl _) bl4
  have P0 : Hid (At4 u4 w.heap.size v0.r v0.k v0.f v0.t) := Q0.out.keep bl4
  have O4 : Hid (RdP u4 ⟨.slice x1 p0.regions.length e1, .slice x2 p0.consts.length e2, .slice x3 p0.funcs.length e3, .slice x4 p0.certs.length e4⟩ p0 ∧ RdRc u4 (.slice x1 p0.regions.length e1) p0.regions ∧ RdFp u4 (.slice x3 p0.funcs.length e3) p0.funcs) := ⟨own4.rd, own4.regions.rdc, own4.funcs.rdp⟩
  clear own4 bl4 B3 Q0 i0 i1 i2 i3
  go_wp2_with fail
  have bA := below_alloc u4 (.cells #[.slice x1 p0.regions.length e1, .slice x2 p0.consts.length e2, .slice x3 p0.funcs.length e3, .slice x4 p0.certs.length e4] 34)
  refine (implFormat_any ⟨.slice x1 p0.regions.length e1, .slice x2 p0.consts.length e2, .slice x3 p0.funcs.length e3, .slice x4 p0.certs.length e4⟩ p0 _ S0.out HF.out.2.1 (O4.out.1.keep bA (Nat.le_refl _)) (O4.out.2.1.keep bA (Nat.le_refl _)) (O4.out.2.2.keep bA (Nat.le_refl _)) (HF.out.2.2.2.keep (below_on B4.out (Nat.le_refl _) bA) (Nat.le_refl _))).mono ?_
  rintro e u5 ⟨⟨n', hn', rfl⟩, bl5⟩
  obtain rfl : n' = n := hn'.one HN.out
  rw [HT.out]
  unfold strV
  have bB : Below u4.heap.size u4 u5 := below_on bA (Nat.le_refl _) bl5
  have B5 : Hid (Below w.heap.size w u5) := below_on B4.out (Nat.le_refl _) bB
  have Q0 : Hid (At4 u5 w.heap.size v0.r v0.k v0.f v0.t) := P0.out.keep bB
  have QX : Hid (At4 u5 u4.heap.size (.slice x1 p0.regions.length e1) (.slice x2 p0.consts.length e2) (.slice x3 p0.funcs.length e3) (.slice x4 p0.certs.length e4)) := (At4.new u4 _ _ _ _ _).keep bl5
  have X5 : Hid (RdP u5 ⟨.slice x1 p0.regions.length e1, .slice x2 p0.consts.length e2, .slice x3 p0.funcs.length e3, .slice x4 p0.certs.length e4⟩ p0) := O4.out.1.keep bB (Nat.le_refl _)
  have R0 : Hid (RdP u5 v0 p0) := HF.out.2.2.1.keep B5.out (Nat.le_refl _)
  clear bA bB bl5 hn' B4 P0 O4
  obtain ⟨i0, i1, i2, i3⟩ := Q0.out
  obtain ⟨j0, j1, j2, j3⟩ := QX.out
  go_wp2_with fail
  go_region_with (first
    | (go_at_call 6; refine (toProgram_any v0 p0 _ S0.out ?_).mono ?_; exact R0.out.keep (below_drew1 _) (Nat.le_refl _); rintro e u9 ⟨a1, c1, a2, c2, a3, c3, a4, c4, rfl, own9, bl9⟩; have B9 : Hid (Below u5.heap.size u5 u9) := below_drew_trans bl9 (Nat.le_refl _); have O9 : Hid (RdP u9 ⟨.slice a1 p0.regions.length c1, .slice a2 p0.consts.length c2, .slice a3 p0.funcs.length c3, .slice a4 p0.certs.length c4⟩ p0) := own9.rd; clear own9 bl9; obtain ⟨k0, k1, k2, k3⟩ := QX.out.keep B9.out)
    | (go_at_call 8; refine (eqProgram_same ⟨.slice x1 p0.regions.length e1, .slice x2 p0.consts.length e2, .slice x3 p0.funcs.length e3, .slice x4 p0.certs.length e4⟩ ⟨.slice a1 p0.regions.length c1, .slice a2 p0.consts.length c2, .slice a3 p0.funcs.length c3, .slice a4 p0.certs.length c4⟩ p0 _ S0.out ?_ ?_).mono ?_; exact X5.out.keep B9.out (Nat.le_refl _); exact O9.out; rintro e u10 ⟨rfl, bl10⟩; have B10 : Hid (Below w.heap.size w u10) := below_on (below_on B5.out (Nat.le_refl _) B9.out) (Nat.le_refl _) bl10; clear bl10))
  all_goals
    go_wp2
    go_ret
    exact ⟨rfl, B10.out⟩

set_option maxRecDepth 100000 in
theorem contract (H : Type) (enc : TypeId × Value → H) (W : World) (base : Nat) (args : Array Value) (ds gs : List (DataW H)) (before : List MemPlace)
    (hval : ∀ (j : Nat) t v, Tryz.f3.params[j]? = some t → args[j]? = some v → Value.okWide Tryz.prog W .any base t v)
    (hW : DataW.Whole enc Tryz.prog Tryz.f3.params.toList Rows.fnExactFormatProgramSpec.vars false W args.toList ds gs before) (hL : laidMetH Tryz.prog Rows.fnExactFormatProgramRow.laid W) :
    Calls Tryz.prog 3 args W fun e W' => ∃ v, e = .returned v ∧ Rows.fnExactFormatProgramSpec.post enc Tryz.prog Tryz.f3 false true false false W args v W' := by
  have hW' := hW
  obtain ⟨p, q, hA0, hV, rfl, hfz, hnd⟩ := hW
  have hA : DataW.TrodAll enc Tryz.prog W 0 (fun _ => true) true Tryz.f3.params.toList args.toList ds p := hA0
  rw [Tryz.params3] at hA hval
  obtain ⟨x0, xs0, d0, ds0, q0, r0, hargs, rfl, rfl, t0, u0⟩ := trodAll_cons hA
  obtain ⟨rfl, rfl, rfl⟩ := trodAll_nil u0
  obtain rfl : args = #[x0] := by cases args; simp_all
  obtain ⟨rfl, rfl⟩ := trodVars_none hV
  obtain ⟨cs0, rfl, _⟩ := okWide_struct Tryz.underlying27 (hval 0 27 x0 rfl rfl)
  have k0 := t0
  have lt0 : ∀ x ∈ q0, x.block < W.heap.size := by obtain ⟨m, hm⟩ := k0; exact DataW.trod_lt m _ _ _ hm
  obtain ⟨p0, v0, e0, h0, b0, f0⟩ : ∃ (p : MP) (v : VP), cs0 = #[v.r, v.k, v.f, v.t] ∧ RdP W v p ∧ p.fits ∧ p.wf := by
    obtain ⟨fuel, hf⟩ := t0
    obtain ⟨p, v, e, h, b, f⟩ := open_program hf
    exact ⟨p, v, by apply Array.toList_inj.1; exact e, h, b, f⟩
  subst e0
  clear hA0
  refine (walk v0 p0 W h0 b0 f0 (table hL)).mono fun e W' ⟨he, bel⟩ => ?_
  subst he
  exact ⟨_, rfl, _, _, _, [], _, [], hW', trodAll_mk1 (shut_bool Tryz.underlying4 _), trodAll_cons_mk (Below.trod laidOut (by kernel_rfl) (of_decide_eq_true (by kernel_rfl)) k0 bel lt0) trodAll_mk0, rfl, bel.frame _, fun h => by cases h⟩

/- The world of the witness: the settled one, the variable holding the handle. -/
theorem laid_met (os : Os) : laidMet Tryz.prog Rows.fnExactFormatProgramRow.laid (({ World.holding Tryz.prog os ⟨#[], #[], []⟩ with heap := ((((World.holding Tryz.prog os ⟨#[], #[], []⟩).heap.modify 1 fun | .cells _ t frozen => .cells (tab32.map (Value.int .u8)).toArray t frozen | o => o).modify 2 fun | .cells _ t frozen => .cells (tab64.map (Value.int .u8)).toArray t frozen | o => o).modify 0 fun | .cells _ t frozen => .cells (Lib.pow10Tab.map (Value.int .u64)).toArray t frozen | o => o) } : World).forCall (fun _ _ => 0) ⟨#[], #[.agg #[.slice none 0 0, .slice none 0 0, .slice none 0 0, .slice none 0 0]], []⟩).memory :=
  laidMet_of_run' 8 (by kernel_rfl) (by kernel_rfl)
set_option maxRecDepth 100000 in
theorem reads (os : Os) {H : Type} (enc : TypeId × Value → H) : ∃ places, DataW.whole enc Tryz.prog (({ World.holding Tryz.prog os ⟨#[], #[], []⟩ with heap := ((((World.holding Tryz.prog os ⟨#[], #[], []⟩).heap.modify 1 fun | .cells _ t frozen => .cells (tab32.map (Value.int .u8)).toArray t frozen | o => o).modify 2 fun | .cells _ t frozen => .cells (tab64.map (Value.int .u8)).toArray t frozen | o => o).modify 0 fun | .cells _ t frozen => .cells (Lib.pow10Tab.map (Value.int .u64)).toArray t frozen | o => o) } : World).forCall (fun _ _ => 0) ⟨#[], #[.agg #[.slice none 0 0, .slice none 0 0, .slice none 0 0, .slice none 0 0]], []⟩).memory Tryz.f3.params.toList Rows.fnExactFormatProgramSpec.vars false #[(.agg #[.slice none 0 0, .slice none 0 0, .slice none 0 0, .slice none 0 0] : Value)].toList 8 = some ([.agg [.nil, .nil, .nil, .nil]], [], places) :=
  ⟨[], by kernel_rfl⟩

set_option maxRecDepth 100000 in
theorem lifted (os : Os) (started : os.Started) (H : Type) (enc : TypeId × Value → H) (F : Stop.Interp) :
    ReturnsInHanded {} Tryz.checked os 3 .any ((OpenSpec.ofChange Rows.fnExactFormatProgramSpec).preRow enc Tryz.prog Tryz.f3 Rows.fnExactFormatProgramRow.domain false Rows.fnExactFormatProgramRow.laid) (((OpenSpec.ofChange Rows.fnExactFormatProgramSpec).at F).post enc Tryz.prog Tryz.f3 false true false false) := by
  obtain ⟨places, hx⟩ := reads os enc
  refine returnsInHanded_of_row (C := Tryz.checked) (s := OpenSpec.ofChange Rows.fnExactFormatProgramSpec) own started (by kernel_rfl) Tryz.func3
    (witness_row_at (enc := enc) (C := Tryz.checked) false ({ World.holding Tryz.prog os ⟨#[], #[], []⟩ with heap := ((((World.holding Tryz.prog os ⟨#[], #[], []⟩).heap.modify 1 fun | .cells _ t frozen => .cells (tab32.map (Value.int .u8)).toArray t frozen | o => o).modify 2 fun | .cells _ t frozen => .cells (tab64.map (Value.int .u8)).toArray t frozen | o => o).modify 0 fun | .cells _ t frozen => .cells (Lib.pow10Tab.map (Value.int .u64)).toArray t frozen | o => o) } : World) #[.agg #[.slice none 0 0, .slice none 0 0, .slice none 0 0, .slice none 0 0]] rfl (by kernel_rfl) (by kernel_rfl) (by kernel_rfl)
      (OpenSpec.preRow_of_cond 8 hx (by kernel_rfl) (fun k hk => by cases hk) (by kernel_rfl) (laid_met os))) ?_
  intro W base args ds gs before hval hW _ _ _ hL _ _
  exact contract H enc W base args ds gs before hval hW hL

theorem said : Rows.FnExactFormatProgramSaid :=
  OpenClaim.holds_of_cond 3 Tryz.f3 rfl rfl rfl rfl rfl rfl rfl ⟨rfl, rfl, rfl, rfl, rfl⟩ rfl rfl rfl rfl rfl (by kernel_rfl) Tryz.func3 (by kernel_rfl)
    (of_decide_eq_true (by kernel_rfl)) (by unfold Func.isWrapper; first | (rw [if_pos (by decide +kernel)]; kernel_rfl) | (rw [if_neg (by decide +kernel)]; exact ⟨rfl, rfl⟩))
    (fun os started H enc _ F => by rw [OpenClaim.pre_eq_preRow]; exact lifted os started H enc F)

theorem plain (f : FuncId) (fn : Func) (hf : Tryz.pinned.checked.prog.funcNamed "loop.example/s02548/laws.FnExactFormatProgram" = some f) (hfn : Tryz.pinned.checked.prog.funcs[f]? = some fn) :
    false = Tryz.pinned.checked.prog.looks [] ∧ ∀ (j : Nat) t, fn.params[j]? = some t → Tryz.pinned.checked.prog.wantsStandIn t = false := by
  obtain rfl : f = 3 := Option.some.inj ((show Tryz.prog.funcNamed "loop.example/s02548/laws.FnExactFormatProgram" = some 3 by kernel_rfl).symm.trans hf) |>.symm
  obtain rfl : fn = Tryz.f3 := (Option.some.inj (Tryz.func3.symm.trans hfn)).symm
  refine ⟨by kernel_rfl, fun j t ht => ?_⟩
  rw [Tryz.params3] at ht
  obtain rfl : t = 27 := by simpa using Array.mem_of_getElem? ht
  exact (show Tryz.prog.wantsStandIn 27 = false by kernel_rfl)

theorem card : Rows.FnExactFormatProgramCardSaid :=
  Claim7.holds_tied_plain_at .later [] _ _ _ _ said (fun _ h => by cases h) (by kernel_rfl) (fun _ h => by cases h) fnExactFormatProgram_row_tie rfl ⟨rfl, rfl⟩ (by kernel_rfl) rfl plain (by kernel_rfl)
#print axioms card
end Go.Proofs.YthifelgdkmkdkaaGreatDoor.fnExactFormatProgram
namespace Go.Proofs.YthifelgdkmkdkaaGreatDoor
theorem fnExactFormatProgram_holds : Rows.FnExactFormatProgramCardSaid := fnExactFormatProgram.card
end Go.Proofs.YthifelgdkmkdkaaGreatDoor
