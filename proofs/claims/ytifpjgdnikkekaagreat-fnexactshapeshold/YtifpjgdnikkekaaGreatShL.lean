/- FnExactShapesHold: the walk, the row. -/
import Derived.Test.YtifpjgdnikkekaaGreatRows
import Derived.Test.YtifpjgdnikkekaaGreatSh53
import Derived.Test.YtifpjgdnikkekaaGreatSh5
import Derived.Test.YtifpjgdnikkekaaGreatSh52
import Derived.WalkKit
import Derived.ProofKit
import Derived.OpenShut
import Derived.ShutString
import Derived.ChangeOld
import Derived.Below
namespace Go.Proofs.YtifpjgdnikkekaaGreat.fnExactShapesHold
open Go.ChangeShapes Go.WideShapes Go.ChangeAt Go.RowKit
set_option linter.unusedVariables false

theorem own : ownKnob Tryz.prog.godebug = none := by kernel_rfl
theorem laidOut : laidOutB Tryz.prog = true := by kernel_rfl

set_option maxRecDepth 100000 in
set_option maxHeartbeats 8000000 in
theorem walk (v0 : VP) (p0 : MP) (p1 : Int) (v2 : Value) (p2 : List (List Int)) (w : World) (h0 : RdP w v0 p0) (b0 : p0.fits) (f0 : p0.wf) (f1 : W64 p1) (h2 : RdR w v2 p2) (b2 : p2.length ≤ 9223372036854775807 ∧ ∀ f ∈ p2, f.length ≤ 9223372036854775807) :
    Calls Tryz.prog 4 #[.agg #[v0.r, v0.k, v0.f, v0.t], .int .i64 p1, v2] w fun e w' => e = .returned (.bool true) ∧ Below w.heap.size w w' := by
  have B0 : Hid (At4 (w.alloc (.cells #[v0.r, v0.k, v0.f, v0.t] 27)) w.heap.size v0.r v0.k v0.f v0.t ∧ Below w.heap.size w (w.alloc (.cells #[v0.r, v0.k, v0.f, v0.t] 27))) := ⟨At4.new w _ _ _ _ _, below_alloc _ _⟩
  obtain ⟨sa2, sc2, rfl⟩ : ∃ a c, v2 = .slice a p2.length c := by obtain ⟨_, _, h, _⟩ := h2; exact h.is_slice
  have HF : Hid (p0.fits ∧ RdP w v0 p0 ∧ p0.wf ∧ W64 p1 ∧ RdR w (.slice sa2 p2.length sc2) p2 ∧ p2.length ≤ 9223372036854775807 ∧ ∀ f ∈ p2, f.length ≤ 9223372036854775807) := ⟨b0, h0, f0, f1, h2, b2⟩
  clear b0 f0 f1 h0 h2 b2
  generalize hpl : p2.length = n2 at HF ⊢
  have HPL : Hid (p2.length = n2) := hpl
  clear hpl
  go_enter Tryz.func4, Tryz.ntmps4
  go_upto_region 1 with fail
  refine wp_world (fun u => Hid (At4 u w.heap.size v0.r v0.k v0.f v0.t ∧ Below w.heap.size w u)) B0 ?_
  rintro U0 E0
  clear B0
  obtain ⟨i0, i1, i2, i3⟩ := E0.out.1
  go_wp2_with fail
  refine (szProgram_any v0 p0 1048576 U0 HF.out.1 (HF.out.2.1.keep E0.out.2 (Nat.le_refl _)) (by omega) (by omega)).mono ?_
  rintro e u1 ⟨r1, rfl, hr1, bl1⟩
  have E1 : Hid (At4 u1 w.heap.size v0.r v0.k v0.f v0.t ∧ Below w.heap.size w u1) := ⟨E0.out.1.keep bl1, below_on E0.out.2 (Nat.le_refl _) bl1⟩
  clear bl1 E0 i0 i1 i2 i3
  rcases hr1 with rfl | ⟨hr0, hr1, hs0⟩
  · go_wp2_with fail
    go_ret
    exact ⟨rfl, E1.out.2⟩
  have S0 : Hid p0.small := hs0
  clear hs0
  have hrn : ¬ r1 < 0 := by omega
  go_wp2_with fail
  refine (szInt64SS_any (.slice sa2 n2 sc2) p2 r1 u1 (by rw [HPL.out]; exact HF.out.2.2.2.2.2.1) HF.out.2.2.2.2.2.2 (HF.out.2.2.2.2.1.keep E1.out.2 (Nat.le_refl _)) hr0 hr1).mono ?_
  rintro e u2 ⟨r2, rfl, hr2, rfl⟩
  rcases hr2 with rfl | ⟨hq0, hq1, hq2, hq3⟩
  · clear hr0 hr1 hrn
    go_wp2_with fail
    go_ret
    exact ⟨rfl, E1.out.2⟩
  have S2 : Hid (p2.length ≤ 1048576 ∧ ∀ f ∈ p2, f.length ≤ 1048576) := ⟨by omega, fun f hf => by have := hq3 f hf; omega⟩
  have hrm : ¬ r2 < 0 := by omega
  clear hr0 hr1 hrn hq0 hq1 hq2 hq3
  obtain ⟨i0, i1, i2, i3⟩ := E1.out.1
  go_wp2_with fail
  refine (toProgram_any v0 p0 u2 S0.out (HF.out.2.1.keep E1.out.2 (Nat.le_refl _))).mono ?_
  rintro e u3 ⟨a1, c1, a2, c2, a3, c3, a4, c4, rfl, own3, bl3⟩
  have E2 : Hid (At4 u3 w.heap.size v0.r v0.k v0.f v0.t ∧ Below w.heap.size w u3 ∧ RdP u3 ⟨.slice a1 p0.regions.length c1, .slice a2 p0.consts.length c2, .slice a3 p0.funcs.length c3, .slice a4 p0.certs.length c4⟩ p0) := ⟨E1.out.1.keep bl3, below_on E1.out.2 (Nat.le_refl _) bl3, own3.rd⟩
  clear own3 bl3 E1 i0 i1 i2 i3 hrm
  go_wp2_with fail
  refine (toInt64SS_any (.slice sa2 n2 sc2) p2 u3 S2.out.1 S2.out.2 (HF.out.2.2.2.2.1.keep E2.out.2.1 (Nat.le_refl _))).mono ?_
  rintro e u4 ⟨d1, g1, rfl, own4, bl4⟩
  have E3 : Hid (At4 u4 w.heap.size v0.r v0.k v0.f v0.t ∧ Below w.heap.size w u4 ∧ RdP u4 ⟨.slice a1 p0.regions.length c1, .slice a2 p0.consts.length c2, .slice a3 p0.funcs.length c3, .slice a4 p0.certs.length c4⟩ p0 ∧ RdRc u4 (.slice d1 p2.length g1) p2) := ⟨E2.out.1.keep bl4, below_on E2.out.2.1 (Nat.le_refl _) bl4, E2.out.2.2.keep bl4 (Nat.le_refl _), own4.rdc⟩
  clear own4 bl4 E2
  go_wp2_with fail
  refine (specShapes_any ⟨.slice a1 p0.regions.length c1, .slice a2 p0.consts.length c2, .slice a3 p0.funcs.length c3, .slice a4 p0.certs.length c4⟩ p0 p1 (.slice d1 p2.length g1) p2 u4 S0.out HF.out.2.2.1 HF.out.2.2.2.1 E3.out.2.2.1 S2.out.1 S2.out.2 E3.out.2.2.2).mono ?_
  rintro e u5 ⟨⟨b5, rfl, hb5⟩, bl5⟩
  have E4 : Hid (At4 u5 w.heap.size v0.r v0.k v0.f v0.t ∧ Below w.heap.size w u5) := ⟨E3.out.1.keep bl5, below_on E3.out.2.1 (Nat.le_refl _) bl5⟩
  have HB5 : Hid (b5 = true ↔ ShapesP p0 p1 p2) := hb5
  clear hb5 bl5 E3
  obtain ⟨i0, i1, i2, i3⟩ := E4.out.1
  go_wp2_with fail
  refine (toProgram_any v0 p0 u5 S0.out (HF.out.2.1.keep E4.out.2 (Nat.le_refl _))).mono ?_
  rintro e u6 ⟨x1, e1, x2, e2, x3, e3, x4, e4, rfl, own6, bl6⟩
  have E5 : Hid (At4 (u6.alloc (.cells #[.slice x1 p0.regions.length e1, .slice x2 p0.consts.length e2, .slice x3 p0.funcs.length e3, .slice x4 p0.certs.length e4] 36)) w.heap.size v0.r v0.k v0.f v0.t ∧ Below w.heap.size w (u6.alloc (.cells #[.slice x1 p0.regions.length e1, .slice x2 p0.consts.length e2, .slice x3 p0.funcs.length e3, .slice x4 p0.certs.length e4] 36)) ∧ OwnP (u6.alloc (.cells #[.slice x1 p0.regions.length e1, .slice x2 p0.consts.length e2, .slice x3 p0.funcs.length e3, .slice x4 p0.certs.length e4] 36)) u5.heap.size ⟨.slice x1 p0.regions.length e1, .slice x2 p0.consts.length e2, .slice x3 p0.funcs.length e3, .slice x4 p0.certs.length e4⟩ p0 ∧ At4 (u6.alloc (.cells #[.slice x1 p0.regions.length e1, .slice x2 p0.consts.length e2, .slice x3 p0.funcs.length e3, .slice x4 p0.certs.length e4] 36)) u6.heap.size (.slice x1 p0.regions.length e1) (.slice x2 p0.consts.length e2) (.slice x3 p0.funcs.length e3) (.slice x4 p0.certs.length e4)) := ⟨(E4.out.1.keep bl6).alloc _, below_on (below_on E4.out.2 (Nat.le_refl _) bl6) (Nat.le_refl _) (below_alloc _ _), own6.keep (below_alloc _ _) (Nat.le_refl _), At4.new u6 _ _ _ _ _⟩
  clear own6 bl6 E4 i0 i1 i2 i3
  go_upto_region 10 with fail
  generalize u6.heap.size = X at E5 ⊢
  refine wp_world (fun u => Hid (At4 u w.heap.size v0.r v0.k v0.f v0.t ∧ Below w.heap.size w u ∧ OwnP u u5.heap.size ⟨.slice x1 p0.regions.length e1, .slice x2 p0.consts.length e2, .slice x3 p0.funcs.length e3, .slice x4 p0.certs.length e4⟩ p0 ∧ At4 u X (.slice x1 p0.regions.length e1) (.slice x2 p0.consts.length e2) (.slice x3 p0.funcs.length e3) (.slice x4 p0.certs.length e4))) E5 ?_
  rintro U7 E6
  clear E5
  go_wp2_with fail
  refine (toInt64SS_any (.slice sa2 n2 sc2) p2 U7 S2.out.1 S2.out.2 (HF.out.2.2.2.2.1.keep E6.out.2.1 (Nat.le_refl _))).mono ?_
  rintro e u8 ⟨d2, g2, rfl, own8, bl8⟩
  have E7 : Hid (At4 u8 w.heap.size v0.r v0.k v0.f v0.t ∧ Below w.heap.size w u8 ∧ OwnP u8 u5.heap.size ⟨.slice x1 p0.regions.length e1, .slice x2 p0.consts.length e2, .slice x3 p0.funcs.length e3, .slice x4 p0.certs.length e4⟩ p0 ∧ At4 u8 X (.slice x1 p0.regions.length e1) (.slice x2 p0.consts.length e2) (.slice x3 p0.funcs.length e3) (.slice x4 p0.certs.length e4) ∧ OwnR u8 U7.heap.size (.slice d2 p2.length g2) p2) := ⟨E6.out.1.keep bl8, below_on E6.out.2.1 (Nat.le_refl _) bl8, E6.out.2.2.1.keep bl8 (Nat.le_refl _), E6.out.2.2.2.keep bl8, own8⟩
  clear own8 bl8 E6
  obtain ⟨j0, j1, j2, j3⟩ := E7.out.2.2.2.1
  go_wp2_with fail
  refine (implShapes_any ⟨.slice x1 p0.regions.length e1, .slice x2 p0.consts.length e2, .slice x3 p0.funcs.length e3, .slice x4 p0.certs.length e4⟩ p0 p1 (.slice d2 p2.length g2) p2 u8 S0.out HF.out.2.2.1 E7.out.2.2.1.rd E7.out.2.2.1.regions.rdc E7.out.2.2.1.funcs.rdp E7.out.2.2.2.2.rdc S2.out.2 S2.out.1).mono ?_
  rintro e u9 ⟨⟨b9, rfl, hb9⟩, bl9⟩
  obtain rfl : b9 = b5 := by
    have := HB5.out
    cases b9 <;> cases b5 <;> simp_all
  have E8 : Hid (At4 u9 w.heap.size v0.r v0.k v0.f v0.t ∧ Below w.heap.size w u9 ∧ RdP u9 ⟨.slice x1 p0.regions.length e1, .slice x2 p0.consts.length e2, .slice x3 p0.funcs.length e3, .slice x4 p0.certs.length e4⟩ p0 ∧ At4 u9 X (.slice x1 p0.regions.length e1) (.slice x2 p0.consts.length e2) (.slice x3 p0.funcs.length e3) (.slice x4 p0.certs.length e4) ∧ RdR u9 (.slice d2 p2.length g2) p2) := ⟨E7.out.1.keep bl9, below_on E7.out.2.1 (Nat.le_refl _) bl9, (E7.out.2.2.1.keep bl9 (Nat.le_refl _)).rd, E7.out.2.2.2.1.keep bl9, (E7.out.2.2.2.2.keep bl9 (Nat.le_refl _)).rd⟩
  have R0 : Hid (RdP u9 v0 p0) := HF.out.2.1.keep E8.out.2.1 (Nat.le_refl _)
  clear hb9 bl9 HB5 E7 j0 j1 j2 j3
  obtain ⟨i0, i1, i2, i3⟩ := E8.out.1
  obtain ⟨j0, j1, j2, j3⟩ := E8.out.2.2.2.1
  go_upto_region 14 with fail
  go_cut [43] (fun s wx => s = .bool false ∧ Hid (Below u9.heap.size u9 wx))
  case first =>
    go_region_with (first
      | (go_at_call 8; refine (toProgram_any v0 p0 _ S0.out ?_).mono ?_; exact R0.out.keep (below_drew1 _) (Nat.le_refl _); rintro e uA ⟨y1, l1, y2, l2, y3, l3, y4, l4, rfl, own9, bl9⟩; have B9 : Hid (Below u9.heap.size u9 uA) := below_drew_trans bl9 (Nat.le_refl _); have O9 : Hid (RdP uA ⟨.slice y1 p0.regions.length l1, .slice y2 p0.consts.length l2, .slice y3 p0.funcs.length l3, .slice y4 p0.certs.length l4⟩ p0) := own9.rd; clear own9 bl9; obtain ⟨k0, k1, k2, k3⟩ := E8.out.2.2.2.1.keep B9.out)
      | (go_at_call 11; refine (eqProgram_same ⟨.slice x1 p0.regions.length e1, .slice x2 p0.consts.length e2, .slice x3 p0.funcs.length e3, .slice x4 p0.certs.length e4⟩ ⟨.slice y1 p0.regions.length l1, .slice y2 p0.consts.length l2, .slice y3 p0.funcs.length l3, .slice y4 p0.certs.length l4⟩ p0 _ S0.out ?_ ?_).mono ?_; exact E8.out.2.2.1.keep B9.out (Nat.le_refl _); exact O9.out; rintro e uB ⟨rfl, bl10⟩; have B10 : Hid (Below u9.heap.size u9 uB) := below_on B9.out (Nat.le_refl _) bl10; clear bl10))
    all_goals (go_wp2_with fail; go_meet; exact ⟨rfl, B10⟩)
  case rest =>
  obtain ⟨rfl, HC⟩ := hcut
  have E9 : Hid (Below w.heap.size w wc ∧ RdR wc (.slice d2 p2.length g2) p2) := ⟨below_on E8.out.2.1 (Nat.le_refl _) HC.out, E8.out.2.2.2.2.keep HC.out (Nat.le_refl _)⟩
  clear HC E8 R0 i0 i1 i2 i3 j0 j1 j2 j3
  go_wp2_with fail
  refine (toInt64SS_any (.slice sa2 n2 sc2) p2 wc S2.out.1 S2.out.2 (HF.out.2.2.2.2.1.keep E9.out.1 (Nat.le_refl _))).mono ?_
  rintro e uC ⟨d3, g3, rfl, ownC, blC⟩
  have E10 : Hid (Below w.heap.size w uC ∧ RdR uC (.slice d2 p2.length g2) p2 ∧ RdR uC (.slice d3 p2.length g3) p2) := ⟨below_on E9.out.1 (Nat.le_refl _) blC, E9.out.2.keep blC (Nat.le_refl _), ownC.rd⟩
  clear ownC blC E9
  go_wp2_with fail
  refine (eqInt64SS_same (.slice d2 p2.length g2) (.slice d3 p2.length g3) p2 uC S2.out.1 S2.out.2 E10.out.2.1 E10.out.2.2).mono ?_
  rintro e uD ⟨rfl, blD⟩
  have E11 : Hid (Below w.heap.size w uD) := below_on E10.out.1 (Nat.le_refl _) blD
  clear blD E10
  go_wp2_with fail
  go_ret
  exact ⟨rfl, E11.out⟩

set_option maxRecDepth 100000 in
theorem lifted (os : Os) (started : os.Started) (H : Type) (enc : TypeId × Value → H) :
    ReturnsInHanded {} Tryz.checked os 4 .any (Rows.fnExactShapesHoldSpec.pre6 enc Tryz.prog Tryz.f4 Rows.fnExactShapesHoldRow.domain false) (Rows.fnExactShapesHoldSpec.post enc Tryz.prog Tryz.f4 false true false false) := by
  refine returnsInHanded_of_change (C := Tryz.checked) own started (by kernel_rfl) Tryz.func4
    (ChangeSpec.witness6 (enc := enc) (C := Tryz.checked) false ⟨#[], #[.agg #[.slice none 0 0, .slice none 0 0, .slice none 0 0, .slice none 0 0], .int .i64 0, .slice none 0 0], []⟩ 8 (by kernel_rfl) (by kernel_rfl) (by kernel_rfl) (by kernel_rfl)) ?_
  intro W base args ds gs before hval0 hW hcnd _
  have hval : ∀ (j : Nat) t v, Tryz.f4.params[j]? = some t → args[j]? = some v → Value.okWide Tryz.prog W .any base t v := hval0
  have hW' := hW
  obtain ⟨p, q, hA0, hV, rfl, hfz, hnd⟩ := hW
  have hA : DataW.TrodAll enc Tryz.prog W 0 (fun _ => true) true Tryz.f4.params.toList args.toList ds p := hA0
  rw [Tryz.params4] at hA hval
  obtain ⟨x0, xs0, d0, ds0, q0, r0, hargs, rfl, rfl, t0, u0⟩ := trodAll_cons hA
  obtain ⟨x1, xs1, d1, ds1, q1, r1, rfl, rfl, rfl, t1, u1⟩ := trodAll_cons u0
  obtain ⟨x2, xs2, d2, ds2, q2, r2, rfl, rfl, rfl, t2, u2⟩ := trodAll_cons u1
  obtain ⟨rfl, rfl, rfl⟩ := trodAll_nil u2
  obtain rfl : args = #[x0, x1, x2] := by cases args; simp_all
  obtain ⟨rfl, rfl⟩ := trodVars_none hV
  obtain ⟨cs0, rfl, _⟩ := okWide_struct Tryz.underlying27 (hval 0 27 x0 rfl rfl)
  have k0 := t0
  have lt0 : ∀ x ∈ q0, x.block < W.heap.size := by obtain ⟨m, hm⟩ := k0; exact DataW.trod_lt m _ _ _ hm
  obtain ⟨p0, v0, e0, h0, b0, f0⟩ : ∃ (p : MP) (v : VP), cs0 = #[v.r, v.k, v.f, v.t] ∧ RdP W v p ∧ p.fits ∧ p.wf := by
    obtain ⟨fuel, hf⟩ := t0
    obtain ⟨p, v, e, h, b, f⟩ := open_program hf
    exact ⟨p, v, by apply Array.toList_inj.1; exact e, h, b, f⟩
  subst e0
  obtain ⟨p1, rfl⟩ := okWide_int Tryz.underlying2 (hval 1 2 x1 rfl rfl)
  have k1 := t1
  have lt1 : ∀ x ∈ q1, x.block < W.heap.size := by obtain ⟨m, hm⟩ := k1; exact DataW.trod_lt m _ _ _ hm
  have f1 : W64 p1 := by
    obtain ⟨fuel, hf⟩ := t1
    obtain ⟨z, e, h⟩ := open_i64 hf
    have e2 : p1 = z := by simpa [intCell, Value.cells] using e
    rw [e2]
    exact h
  obtain ⟨ax2, nx2, cx2, rfl⟩ := okWide_slice Tryz.underlying22 (hval 2 22 x2 rfl rfl)
  have k2 := t2
  have lt2 : ∀ x ∈ q2, x.block < W.heap.size := by obtain ⟨m, hm⟩ := k2; exact DataW.trod_lt m _ _ _ hm
  obtain ⟨p2, h2, b2⟩ : ∃ p : List (List Int), RdR W (.slice ax2 nx2 cx2) p ∧ p.length ≤ 9223372036854775807 ∧ ∀ f ∈ p, f.length ≤ 9223372036854775807 := by
    obtain ⟨fuel, hf⟩ := t2
    obtain ⟨s, ys, e, h, b, f⟩ := open_rows rCells (fun y => Rd W 1 y.2 y.1.length (y.1.flatMap intCell) ∧ y.1.length ≤ maxLen ∧ ∀ z ∈ y.1, W64 z) 1 rCells_length (by omega) Tryz.underlying22 cellsS64 (fun _ _ _ => open_ints64) hf
    have es : s = .slice ax2 nx2 cx2 := by
      have e2 : [(.slice ax2 nx2 cx2 : Value)] = [s] := e
      exact (List.cons.inj e2).1.symm
    subst es
    refine ⟨ys.map Prod.fst, ⟨ys, rfl, by simpa using h, fun y hy => (f y hy).1⟩, by simp [maxLen] at b; simpa using b, fun r hr => ?_⟩
    obtain ⟨y, hy, rfl⟩ := List.mem_map.1 hr
    have := (f y hy).2.1
    simp [maxLen] at this
    exact this
  clear hA0 hval0
  refine (walk v0 p0 p1 _ p2 W h0 b0 f0 f1 h2 b2).mono fun e W' ⟨he, bel⟩ => ?_
  subst he
  exact ⟨_, rfl, _, _, _, [], _, [], hW', trodAll_mk1 (shut_bool Tryz.underlying4 _), (trodAll_cons_mk (Below.trod laidOut (by kernel_rfl) (of_decide_eq_true (by kernel_rfl)) k0 bel lt0) (trodAll_cons_mk (Below.trod laidOut (by kernel_rfl) (of_decide_eq_true (by kernel_rfl)) k1 bel lt1) (trodAll_cons_mk (Below.trod laidOut (by kernel_rfl) (of_decide_eq_true (by kernel_rfl)) k2 bel lt2) trodAll_mk0))), rfl, bel.frame _, fun h => by cases h⟩

theorem over : Rows.fnExactShapesHoldRow.holds Tryz.pinned (OpenSpec.ofChange Rows.fnExactShapesHoldSpec) :=
  OpenClaim.holds_of_wide 4 Tryz.f4 rfl rfl rfl rfl rfl rfl rfl ⟨rfl, rfl, rfl, rfl, rfl⟩ rfl rfl rfl rfl rfl (by kernel_rfl) Tryz.func4 (by kernel_rfl)
    (of_decide_eq_true (by kernel_rfl)) (by unfold Func.isWrapper; first | (rw [if_pos (by decide +kernel)]; kernel_rfl) | (rw [if_neg (by decide +kernel)]; exact ⟨rfl, rfl⟩))
    (fun os started H enc _ => lifted os started H enc)

theorem proved : Rows.FnExactShapesHoldSaid := over
#print axioms proved
end Go.Proofs.YtifpjgdnikkekaaGreat.fnExactShapesHold
namespace Go.Proofs.YtifpjgdnikkekaaGreat
theorem fnExactShapesHold_holds : Rows.FnExactShapesHoldSaid := fnExactShapesHold.proved
end Go.Proofs.YtifpjgdnikkekaaGreat
