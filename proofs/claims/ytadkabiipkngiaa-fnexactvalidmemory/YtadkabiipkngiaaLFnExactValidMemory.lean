/- FnExactValidMemory: the walk, the row. -/
import Derived.Test.YtadkabiipkngiaaRows
import Derived.Test.YtadkabiipkngiaaVal5
import Derived.WalkKit
import Derived.ProofKit
import Derived.OpenShut
import Derived.ShutString
import Derived.ChangeOld
import Derived.Below
namespace Go.Proofs.Ytadkabiipkngiaa.fnExactValidMemory
open Go.ChangeShapes Go.WideShapes Go.ChangeAt Go.RowKit
set_option linter.unusedVariables false

theorem own : ownKnob Try.prog.godebug = none := by kernel_rfl
theorem laidOut : laidOutB Try.prog = true := by kernel_rfl

set_option maxRecDepth 100000 in
set_option maxHeartbeats 8000000 in
theorem walk (v0 : VP) (p0 : MP) (v1 : VM) (p1 : MM) (w : World) (h0 : RdP w v0 p0) (b0 : p0.fits) (f0 : p0.wf) (h1 : RdM w v1 p1) (b1 : p1.fits) (f1 : p1.wf) :
    Calls Try.prog 4 #[.agg #[v0.r, v0.k, v0.f, v0.t], .agg #[v1.i, v1.o, v1.k]] w fun e w' => e = .returned (.bool true) ∧ Below w.heap.size w w' := by
  have B0 : Below w.heap.size w ((w.alloc (.cells #[v0.r, v0.k, v0.f, v0.t] 48)).alloc (.cells #[v1.i, v1.o, v1.k] 49)) := below_on (below_alloc _ _) (Nat.le_refl _) (below_alloc _ _)
  have A0 : At4 ((w.alloc (.cells #[v0.r, v0.k, v0.f, v0.t] 48)).alloc (.cells #[v1.i, v1.o, v1.k] 49)) w.heap.size v0.r v0.k v0.f v0.t := (At4.new w _ _ _ _ _).alloc _
  have A1 : At3 ((w.alloc (.cells #[v0.r, v0.k, v0.f, v0.t] 48)).alloc (.cells #[v1.i, v1.o, v1.k] 49)) (w.heap.size + 1) v1.i v1.o v1.k := by
    have := At3.new (w.alloc (.cells #[v0.r, v0.k, v0.f, v0.t] 48)) v1.i v1.o v1.k 49
    simpa using this
  have HF : Hid (p0.fits ∧ p1.fits ∧ RdP w v0 p0 ∧ RdM w v1 p1) := ⟨b0, b1, h0, h1⟩
  have HWF : Hid (p0.wf ∧ p1.wf) := ⟨f0, f1⟩
  clear b0 b1 f0 f1 h0 h1
  go_enter Try.func4, Try.ntmps4
  go_wp2_with fail
  refine (szProgram_any v0 p0 1048576 _ HF.out.1 (HF.out.2.2.1.keep B0 (Nat.le_refl _)) (by omega) (by omega)).mono ?_
  rintro e u1 ⟨r1, rfl, hr1, bl1⟩
  have B1 : Hid (Below w.heap.size w u1) := below_on B0 (Nat.le_refl _) bl1
  have Q0 : Hid (At4 u1 w.heap.size v0.r v0.k v0.f v0.t) := A0.keep bl1
  have Q1 : Hid (At3 u1 (w.heap.size + 1) v1.i v1.o v1.k) := A1.keep bl1
  clear B0 A0 A1 bl1
  rcases hr1 with rfl | ⟨hr0, hr1, hs0⟩
  · go_wp2
    go_ret
    exact ⟨rfl, B1.out⟩
  have S0 : Hid p0.small := hs0
  clear hs0
  have hrn : ¬ r1 < 0 := by omega
  obtain ⟨i0, i1, i2⟩ := Q1.out
  go_wp2_with fail
  refine (szMemory_any v1 p1 r1 _ HF.out.2.1 (HF.out.2.2.2.keep B1.out (Nat.le_refl _)) hr0 hr1).mono ?_
  rintro e u2 ⟨r2, rfl, hr2, bl2⟩
  have B2 : Hid (Below w.heap.size w u2) := below_on B1.out (Nat.le_refl _) bl2
  have P0 : Hid (At4 u2 w.heap.size v0.r v0.k v0.f v0.t) := Q0.out.keep bl2
  have P1 : Hid (At3 u2 (w.heap.size + 1) v1.i v1.o v1.k) := Q1.out.keep bl2
  clear B1 Q0 Q1 bl2 i0 i1 i2 hr0 hr1 hrn
  rcases hr2 with rfl | ⟨hr0, hr1, hs1⟩
  · go_wp2
    go_ret
    exact ⟨rfl, B2.out⟩
  have S1 : Hid p1.small := hs1
  clear hs1
  have hrn : ¬ r2 < 0 := by omega
  have R0 : Hid (RdP u2 v0 p0) := HF.out.2.2.1.keep B2.out (Nat.le_refl _)
  have R1 : Hid (RdM u2 v1 p1) := HF.out.2.2.2.keep B2.out (Nat.le_refl _)
  obtain ⟨i0, i1, i2, i3⟩ := P0.out
  obtain ⟨j0, j1, j2⟩ := P1.out
  go_upto_region 8 with fail
  clear hrn hr0 hr1
  go_cut [6] from 10 to 44 (fun s wx => ∃ bb, s = .bool bb ∧ Hid ((bb = true ↔ ValidM p0 p1) ∧ Below u2.heap.size u2 wx))
  case first =>
    go_region_with (first
      | (go_at_call 18; have hh3 := B3; clear hh3; refine (toMemory_any v1 p1 _ S1.out ?_).mono ?_; exact R1.out.keep B3.out (Nat.le_refl _); rintro e u4 ⟨d1, f1, d2, f2, d3, f3, rfl, own4, bl4⟩; have B4 : Hid (Below u2.heap.size u2 u4) := below_on B3.out (Nat.le_refl _) bl4; have O4 : Hid (RdM u4 ⟨.slice d1 p1.ins.length f1, .slice d2 p1.outs.length f2, .slice d3 p1.keeps.length f3⟩ p1) := own4.rd; have O4' : Hid (RdP u4 ⟨.slice a1 p0.regions.length c1, .slice a2 p0.consts.length c2, .slice a3 p0.funcs.length c3, .slice a4 p0.certs.length c4⟩ p0) := O3.out.keep bl4 (Nat.le_refl _); clear own4 bl4 O3)
      | (go_at_call 17; refine (toProgram_any v0 p0 _ S0.out ?_).mono ?_; exact R0.out.keep (below_drew1 _) (Nat.le_refl _); rintro e u3 ⟨a1, c1, a2, c2, a3, c3, a4, c4, rfl, own3, bl3⟩; have B3 : Hid (Below u2.heap.size u2 u3) := below_drew_trans bl3 (Nat.le_refl _); have O3 : Hid (RdP u3 ⟨.slice a1 p0.regions.length c1, .slice a2 p0.consts.length c2, .slice a3 p0.funcs.length c3, .slice a4 p0.certs.length c4⟩ p0) := own3.rd; clear own3 bl3 i0 i1 i2 i3; obtain ⟨k0, k1, k2⟩ := P1.out.keep B3.out)
      | (go_at_call 16; refine (specValid_any ⟨.slice a1 p0.regions.length c1, .slice a2 p0.consts.length c2, .slice a3 p0.funcs.length c3, .slice a4 p0.certs.length c4⟩ p0 ⟨.slice d1 p1.ins.length f1, .slice d2 p1.outs.length f2, .slice d3 p1.keeps.length f3⟩ p1 _ S0.out HWF.out.1 ?_ S1.out ?_).mono ?_; exact O4'.out; exact O4.out; rintro e u5 ⟨⟨bb, rfl, hbb⟩, bl5⟩; have B5 : Hid (Below u2.heap.size u2 u5) := below_on B4.out (Nat.le_refl _) bl5; clear bl5))
    all_goals (go_wp2_with fail; go_meet; exact ⟨bb, rfl, hbb, B5.out⟩)
  case rest =>
  obtain ⟨bb, rfl, HC⟩ := hcut
  have B5 : Hid (Below w.heap.size w wc) := below_on B2.out (Nat.le_refl _) HC.out.2
  have Q0 : Hid (At4 wc w.heap.size v0.r v0.k v0.f v0.t) := P0.out.keep HC.out.2
  have Q1 : Hid (At3 wc (w.heap.size + 1) v1.i v1.o v1.k) := P1.out.keep HC.out.2
  have HB : Hid (bb = true ↔ ValidM p0 p1) := HC.out.1
  clear HC B2 P0 P1 R0 R1 i0 i1 i2 i3 j0 j1 j2
  obtain ⟨i0, i1, i2, i3⟩ := Q0.out
  go_wp2_with fail
  refine (toProgram_any v0 p0 _ S0.out (HF.out.2.2.1.keep B5.out (Nat.le_refl _))).mono ?_
  rintro e u6 ⟨x1, e1, x2, e2, x3, e3, x4, e4, rfl, own6, bl6⟩
  have B6 : Hid (Below w.heap.size w u6) := below_on B5.out (Nat.le_refl _) bl6
  have P0 : Hid (At4 u6 w.heap.size v0.r v0.k v0.f v0.t) := Q0.out.keep bl6
  have P1 : Hid (At3 u6 (w.heap.size + 1) v1.i v1.o v1.k) := Q1.out.keep bl6
  have X6 : Hid (OwnP u6 wc.heap.size ⟨.slice x1 p0.regions.length e1, .slice x2 p0.consts.length e2, .slice x3 p0.funcs.length e3, .slice x4 p0.certs.length e4⟩ p0) := own6
  clear own6 bl6 B5 Q0 Q1 i0 i1 i2 i3
  obtain ⟨i0, i1, i2⟩ := P1.out
  have nb : ¬ w.heap.size + 1 = u6.heap.size := Nat.ne_of_lt P1.out.lt
  have mb : w.heap.size + 1 < u6.heap.size := P1.out.lt
  go_wp2_with fail
  have bA := below_alloc u6 (.cells #[.slice x1 p0.regions.length e1, .slice x2 p0.consts.length e2, .slice x3 p0.funcs.length e3, .slice x4 p0.certs.length e4] 57)
  refine (toMemory_any v1 p1 _ S1.out (HF.out.2.2.2.keep (below_on B6.out (Nat.le_refl _) bA) (Nat.le_refl _))).mono ?_
  rintro e u7 ⟨y1, g1, y2, g2, y3, g3, rfl, own7, bl7⟩
  have bB : Below u6.heap.size u6 u7 := below_on bA (Nat.le_refl _) bl7
  have B7 : Hid (Below w.heap.size w u7) := below_on B6.out (Nat.le_refl _) bB
  have Q0 : Hid (At4 u7 w.heap.size v0.r v0.k v0.f v0.t) := P0.out.keep bB
  have Q1 : Hid (At3 u7 (w.heap.size + 1) v1.i v1.o v1.k) := P1.out.keep bB
  have QX : Hid (At4 u7 u6.heap.size (.slice x1 p0.regions.length e1) (.slice x2 p0.consts.length e2) (.slice x3 p0.funcs.length e3) (.slice x4 p0.certs.length e4)) := (At4.new u6 _ _ _ _ _).keep bl7
  have X7 : Hid (OwnP u7 wc.heap.size ⟨.slice x1 p0.regions.length e1, .slice x2 p0.consts.length e2, .slice x3 p0.funcs.length e3, .slice x4 p0.certs.length e4⟩ p0) := X6.out.keep bB (Nat.le_refl _)
  have Y7 : Hid (RdM u7 ⟨.slice y1 p1.ins.length g1, .slice y2 p1.outs.length g2, .slice y3 p1.keeps.length g3⟩ p1) := own7.rd
  clear own7 bl7 bA bB B6 P0 P1 X6 i0 i1 i2 nb mb
  obtain ⟨i0, i1, i2, i3⟩ := QX.out
  have nb : ¬ u6.heap.size = u7.heap.size := Nat.ne_of_lt QX.out.lt
  have mb : u6.heap.size < u7.heap.size := QX.out.lt
  go_wp2_with fail
  have bA := below_alloc u7 (.cells #[.slice y1 p1.ins.length g1, .slice y2 p1.outs.length g2, .slice y3 p1.keeps.length g3] 30)
  have X7' := X7.out.keep bA (Nat.le_refl _)
  refine (implValid_any ⟨.slice x1 p0.regions.length e1, .slice x2 p0.consts.length e2, .slice x3 p0.funcs.length e3, .slice x4 p0.certs.length e4⟩ p0 ⟨.slice y1 p1.ins.length g1, .slice y2 p1.outs.length g2, .slice y3 p1.keeps.length g3⟩ p1 _ S0.out HWF.out.1 X7'.rd X7'.regions.rdc X7'.funcs.rdp S1.out HWF.out.2 (Y7.out.keep bA (Nat.le_refl _))).mono ?_
  rintro e u8 ⟨⟨b8, rfl, hb8⟩, bl8⟩
  obtain rfl : b8 = bb := by
    have := HB.out
    cases b8 <;> cases bb <;> simp_all
  have bB : Below u7.heap.size u7 u8 := below_on bA (Nat.le_refl _) bl8
  have B8 : Hid (Below w.heap.size w u8) := below_on B7.out (Nat.le_refl _) bB
  have P0 : Hid (At4 u8 w.heap.size v0.r v0.k v0.f v0.t) := Q0.out.keep bB
  have P1 : Hid (At3 u8 (w.heap.size + 1) v1.i v1.o v1.k) := Q1.out.keep bB
  have PX : Hid (At4 u8 u6.heap.size (.slice x1 p0.regions.length e1) (.slice x2 p0.consts.length e2) (.slice x3 p0.funcs.length e3) (.slice x4 p0.certs.length e4)) := QX.out.keep bB
  have PY : Hid (At3 u8 u7.heap.size (.slice y1 p1.ins.length g1) (.slice y2 p1.outs.length g2) (.slice y3 p1.keeps.length g3)) := (At3.new u7 _ _ _ _).keep bl8
  have X8 : Hid (RdP u8 ⟨.slice x1 p0.regions.length e1, .slice x2 p0.consts.length e2, .slice x3 p0.funcs.length e3, .slice x4 p0.certs.length e4⟩ p0) := (X7.out.keep bB (Nat.le_refl _)).rd
  have Y8 : Hid (RdM u8 ⟨.slice y1 p1.ins.length g1, .slice y2 p1.outs.length g2, .slice y3 p1.keeps.length g3⟩ p1) := Y7.out.keep bB (Nat.le_refl _)
  have R0 : Hid (RdP u8 v0 p0) := HF.out.2.2.1.keep B8.out (Nat.le_refl _)
  clear bl8 bA bB B7 Q0 Q1 QX X7 X7' Y7 i0 i1 i2 i3 nb mb hb8 HB
  obtain ⟨i0, i1, i2, i3⟩ := P0.out
  obtain ⟨j0, j1, j2, j3⟩ := PX.out
  go_upto_region 14 with fail
  go_cut [39] from 10 to 44 (fun s wx => s = .bool false ∧ Hid (Below u8.heap.size u8 wx))
  case first =>
    go_region_with (first
      | (go_at_call 17; refine (toProgram_any v0 p0 _ S0.out ?_).mono ?_; exact R0.out.keep (below_drew1 _) (Nat.le_refl _); rintro e u9 ⟨a1, c1, a2, c2, a3, c3, a4, c4, rfl, own9, bl9⟩; have B9 : Hid (Below u8.heap.size u8 u9) := below_drew_trans bl9 (Nat.le_refl _); have O9 : Hid (RdP u9 ⟨.slice a1 p0.regions.length c1, .slice a2 p0.consts.length c2, .slice a3 p0.funcs.length c3, .slice a4 p0.certs.length c4⟩ p0) := own9.rd; clear own9 bl9; obtain ⟨k0, k1, k2, k3⟩ := PX.out.keep B9.out)
      | (go_at_call 20; refine (eqProgram_same ⟨.slice x1 p0.regions.length e1, .slice x2 p0.consts.length e2, .slice x3 p0.funcs.length e3, .slice x4 p0.certs.length e4⟩ ⟨.slice a1 p0.regions.length c1, .slice a2 p0.consts.length c2, .slice a3 p0.funcs.length c3, .slice a4 p0.certs.length c4⟩ p0 _ S0.out ?_ ?_).mono ?_; exact X8.out.keep B9.out (Nat.le_refl _); exact O9.out; rintro e u10 ⟨rfl, bl10⟩; have B10 : Hid (Below u8.heap.size u8 u10) := below_on B9.out (Nat.le_refl _) bl10; clear bl10))
    all_goals (go_wp2_with fail; go_meet; exact ⟨rfl, B10⟩)
  case rest =>
  obtain ⟨rfl, HC⟩ := hcut
  have B9 : Hid (Below w.heap.size w wc) := below_on B8.out (Nat.le_refl _) HC.out
  have Q1 : Hid (At3 wc (w.heap.size + 1) v1.i v1.o v1.k) := P1.out.keep HC.out
  have QY : Hid (At3 wc u7.heap.size (.slice y1 p1.ins.length g1) (.slice y2 p1.outs.length g2) (.slice y3 p1.keeps.length g3)) := PY.out.keep HC.out
  have Y9 : Hid (RdM wc ⟨.slice y1 p1.ins.length g1, .slice y2 p1.outs.length g2, .slice y3 p1.keeps.length g3⟩ p1) := Y8.out.keep HC.out (Nat.le_refl _)
  have R1 : Hid (RdM wc v1 p1) := HF.out.2.2.2.keep B9.out (Nat.le_refl _)
  clear HC B8 P0 P1 PX PY X8 Y8 R0 i0 i1 i2 i3 j0 j1 j2 j3
  obtain ⟨i0, i1, i2⟩ := Q1.out
  obtain ⟨j0, j1, j2⟩ := QY.out
  go_upto_region 16 with fail
  go_cut [44] from 10 to 43 (fun s wx => s = .bool false ∧ Hid (Below wc.heap.size wc wx))
  case first =>
    go_region_with (first
      | (go_at_call 18; refine (toMemory_any v1 p1 _ S1.out ?_).mono ?_; exact R1.out.keep (below_drew1 _) (Nat.le_refl _); rintro e u9 ⟨a1, c1, a2, c2, a3, c3, rfl, own9, bl9⟩; have B19 : Hid (Below wc.heap.size wc u9) := below_drew_trans bl9 (Nat.le_refl _); have O9 : Hid (RdM u9 ⟨.slice a1 p1.ins.length c1, .slice a2 p1.outs.length c2, .slice a3 p1.keeps.length c3⟩ p1) := own9.rd; clear own9 bl9; obtain ⟨k0, k1, k2⟩ := QY.out.keep B19.out)
      | (go_at_call 9; refine (eqMemory_same ⟨.slice y1 p1.ins.length g1, .slice y2 p1.outs.length g2, .slice y3 p1.keeps.length g3⟩ ⟨.slice a1 p1.ins.length c1, .slice a2 p1.outs.length c2, .slice a3 p1.keeps.length c3⟩ p1 _ S1.out ?_ ?_).mono ?_; exact Y9.out.keep B19.out (Nat.le_refl _); exact O9.out; rintro e u10 ⟨rfl, bl10⟩; have B10 : Hid (Below wc.heap.size wc u10) := below_on B19.out (Nat.le_refl _) bl10; clear bl10))
    all_goals (go_wp2_with fail; go_meet; exact ⟨rfl, B10⟩)
  case rest =>
  obtain ⟨rfl, HC⟩ := hcut
  have B20 : Hid (Below w.heap.size w wc) := below_on B9.out (Nat.le_refl _) HC.out
  clear i0 i1 i2 j0 j1 j2
  go_wp2
  go_ret
  exact ⟨rfl, B20.out⟩

set_option maxRecDepth 100000 in
theorem lifted (os : Os) (started : os.Started) (H : Type) (enc : TypeId × Value → H) :
    ReturnsInHanded {} Try.checked os 4 .any (Rows.fnExactValidMemorySpec.pre6 enc Try.prog Try.f4 Rows.fnExactValidMemoryRow.domain false) (Rows.fnExactValidMemorySpec.post enc Try.prog Try.f4 false true false false) := by
  refine returnsInHanded_of_change (C := Try.checked) own started (by kernel_rfl) Try.func4
    (ChangeSpec.witness6 (enc := enc) (C := Try.checked) false ⟨#[], #[.agg #[.slice none 0 0, .slice none 0 0, .slice none 0 0, .slice none 0 0], .agg #[.slice none 0 0, .slice none 0 0, .slice none 0 0]], []⟩ 8 (by kernel_rfl) (by kernel_rfl) (by kernel_rfl) (by kernel_rfl)) ?_
  intro W base args ds gs before hval0 hW hcnd _
  have hval : ∀ (j : Nat) t v, Try.f4.params[j]? = some t → args[j]? = some v → Value.okWide Try.prog W .any base t v := hval0
  have hW' := hW
  obtain ⟨p, q, hA0, hV, rfl, hfz, hnd⟩ := hW
  have hA : DataW.TrodAll enc Try.prog W 0 (fun _ => true) true Try.f4.params.toList args.toList ds p := hA0
  rw [Try.params4] at hA hval
  obtain ⟨x0, xs0, d0, ds0, q0, r0, hargs, rfl, rfl, t0, u0⟩ := trodAll_cons hA
  obtain ⟨x1, xs1, d1, ds1, q1, r1, rfl, rfl, rfl, t1, u1⟩ := trodAll_cons u0
  obtain ⟨rfl, rfl, rfl⟩ := trodAll_nil u1
  obtain rfl : args = #[x0, x1] := by cases args; simp_all
  obtain ⟨rfl, rfl⟩ := trodVars_none hV
  obtain ⟨cs0, rfl, _⟩ := okWide_struct Try.underlying48 (hval 0 48 x0 rfl rfl)
  have k0 := t0
  have lt0 : ∀ x ∈ q0, x.block < W.heap.size := by obtain ⟨m, hm⟩ := k0; exact DataW.trod_lt m _ _ _ hm
  obtain ⟨p0, v0, e0, h0, b0, f0⟩ : ∃ (p : MP) (v : VP), cs0 = #[v.r, v.k, v.f, v.t] ∧ RdP W v p ∧ p.fits ∧ p.wf := by
    obtain ⟨fuel, hf⟩ := t0
    obtain ⟨p, v, e, h, b, f⟩ := open_program hf
    exact ⟨p, v, by apply Array.toList_inj.1; exact e, h, b, f⟩
  subst e0
  obtain ⟨cs1, rfl, _⟩ := okWide_struct Try.underlying49 (hval 1 49 x1 rfl rfl)
  have k1 := t1
  have lt1 : ∀ x ∈ q1, x.block < W.heap.size := by obtain ⟨m, hm⟩ := k1; exact DataW.trod_lt m _ _ _ hm
  obtain ⟨p1, v1, e1, h1, b1, f1⟩ : ∃ (p : MM) (v : VM), cs1 = #[v.i, v.o, v.k] ∧ RdM W v p ∧ p.fits ∧ p.wf := by
    obtain ⟨fuel, hf⟩ := t1
    obtain ⟨p, v, e, h, b, f⟩ := open_memory hf
    exact ⟨p, v, by apply Array.toList_inj.1; exact e, h, b, f⟩
  subst e1
  clear hA0 hval0
  refine (walk v0 p0 v1 p1 W h0 b0 f0 h1 b1 f1).mono fun e W' ⟨he, bel⟩ => ?_
  subst he
  exact ⟨_, rfl, _, _, _, [], _, [], hW', trodAll_mk1 (shut_bool Try.underlying4 _), (trodAll_cons_mk (Below.trod laidOut (by kernel_rfl) (of_decide_eq_true (by kernel_rfl)) k0 bel lt0) (trodAll_cons_mk (Below.trod laidOut (by kernel_rfl) (of_decide_eq_true (by kernel_rfl)) k1 bel lt1) trodAll_mk0)), rfl, bel.frame _, fun h => by cases h⟩

theorem over : Rows.fnExactValidMemoryRow.holds Try.pinned (OpenSpec.ofChange Rows.fnExactValidMemorySpec) :=
  OpenClaim.holds_of_wide 4 Try.f4 rfl rfl rfl rfl rfl rfl rfl ⟨rfl, rfl, rfl, rfl, rfl⟩ rfl rfl rfl rfl rfl (by kernel_rfl) Try.func4 (by kernel_rfl)
    (of_decide_eq_true (by kernel_rfl)) (by unfold Func.isWrapper; first | (rw [if_pos (by decide +kernel)]; kernel_rfl) | (rw [if_neg (by decide +kernel)]; exact ⟨rfl, rfl⟩))
    (fun os started H enc _ => lifted os started H enc)

theorem proved : Rows.FnExactValidMemorySaid := over
#print axioms proved
end Go.Proofs.Ytadkabiipkngiaa.fnExactValidMemory
namespace Go.Proofs.Ytadkabiipkngiaa
theorem fnExactValidMemory_holds : Rows.FnExactValidMemorySaid := fnExactValidMemory.proved
end Go.Proofs.Ytadkabiipkngiaa
