import Derived.Test.YthifelgdkmkdkaaGreatDoorFm45
namespace Go.Proofs.YthifelgdkmkdkaaGreatDoor
open Go.ChangeShapes Go.WideShapes Go.ChangeAt Go.RowKit
set_option linter.unusedVariables false
/-- The error that tells a fault; nil where there is none. -/
def errOf (n : Int) : Value := if n = 0 then .nilIface else .iface 102 (.int .i64 n)
def SaysErr (e : Ending) (p : MP) : Prop := ∃ n, e = .returned (errOf n) ∧ FaultIs p n
theorem SaysErr.f1 {p : MP} (h : ¬ RegionsOk p.regions) : SaysErr (.returned (.iface 102 (.int .i64 1))) p := ⟨1, rfl, .inl ⟨rfl, h⟩⟩
theorem SaysErr.f2 {p : MP} (h1 : RegionsOk p.regions) (h : ¬ ConstsOk p.consts) : SaysErr (.returned (.iface 102 (.int .i64 2))) p := ⟨2, rfl, .inr (.inl ⟨rfl, h1, h⟩)⟩
theorem SaysErr.f3 {p : MP} (h1 : RegionsOk p.regions ∧ ConstsOk p.consts) (h : ¬ FuncsOk p.funcs) : SaysErr (.returned (.iface 102 (.int .i64 3))) p := ⟨3, rfl, .inr (.inr (.inl ⟨rfl, h1.1, h1.2, h⟩))⟩
theorem SaysErr.f4 {p : MP} (h1 : RegionsOk p.regions ∧ ConstsOk p.consts) (h2 : FuncsOk p.funcs) (h : ¬ CodeOk p) : SaysErr (.returned (.iface 102 (.int .i64 4))) p := ⟨4, rfl, .inr (.inr (.inr (.inl ⟨rfl, h1.1, h1.2, h2, h⟩)))⟩
theorem SaysErr.f5 {p : MP} (h1 : RegionsOk p.regions ∧ ConstsOk p.consts) (h2 : FuncsOk p.funcs) (h3 : CodeOk p) (h : ¬ CertsOk p) : SaysErr (.returned (.iface 102 (.int .i64 5))) p := ⟨5, rfl, .inr (.inr (.inr (.inr (.inl ⟨rfl, h1.1, h1.2, h2, h3, h⟩))))⟩
theorem SaysErr.f0 {p : MP} (h1 : RegionsOk p.regions ∧ ConstsOk p.consts) (h2 : FuncsOk p.funcs) (h3 : CodeOk p) (h : CertsOk p) : SaysErr (.returned .nilIface) p := ⟨0, rfl, .inr (.inr (.inr (.inr (.inr ⟨rfl, h1.1, h1.2, h2, h3, h⟩))))⟩
set_option maxHeartbeats 4000000 in
set_option maxRecDepth 100000 in
theorem checkProgram_any (v : VP) (p : MP) (w : World) (hs : p.small) (hw : p.wf) (h : RdP w v p) (hcap : RdRc w v.r p.regions) (hfp : RdFp w v.f p.funcs) :
    Calls Tryz.prog 22 #[.agg #[v.r, v.k, v.f, v.t]] w fun e w' => SaysErr e p ∧ Below w.heap.size w w' := by
  have H : Hid (p.small ∧ p.wf ∧ RdP w v p ∧ RdRc w v.r p.regions ∧ RdFp w v.f p.funcs) := ⟨hs, hw, h, hcap, hfp⟩
  clear hs hw h hcap hfp
  have HI : Hid _ := In1.of w v.r v.k v.f v.t 34
  go_enter Tryz.func22, Tryz.ntmps22
  go_wp2_with fail
  refine (regionsHold_any v.r p.regions _ H.out.1.regions H.out.1.region (H.out.2.2.1.regions.keep HI.out.bel (Nat.le_refl _))).mono ?_
  rintro e u1 ⟨⟨b1, rfl, hb1⟩, rfl⟩
  cases b1
  · have HN : Hid (¬ RegionsOk p.regions) := fun e => by simp [e] at hb1
    clear hb1
    go_wp2
    go_ret
    exact ⟨.f1 HN.out, HI.out.bel⟩
  have HR : Hid (RegionsOk p.regions) := hb1.1 rfl
  clear hb1
  go_wp2_with fail
  refine (constsHold_any v.k p.consts _ H.out.1.consts (fun c hc => (W32_range (H.out.2.1.consts c hc).2).1) (H.out.2.2.1.consts.keep HI.out.bel (Nat.le_refl _))).mono ?_
  rintro e u2 ⟨⟨b2, rfl, hb2⟩, bl2⟩
  have HI2 : Hid (In1 w u2 v.r v.k v.f v.t) := HI.out.keep bl2
  clear bl2
  cases b2
  · have HN : Hid (¬ ConstsOk p.consts) := fun e => by simp [e] at hb2
    clear hb2
    go_wp2
    go_ret
    exact ⟨.f2 HR.out HN.out, HI2.out.bel⟩
  have HRC : Hid (RegionsOk p.regions ∧ ConstsOk p.consts) := ⟨HR.out, hb2.1 rfl⟩
  clear hb2
  obtain ⟨p0, p1, p2, p3⟩ := HI2.out.prog
  go_wp2_with fail
  refine (funcsHold_any v.f p.funcs _ H.out.1.funcs H.out.1.func (H.out.2.2.1.funcs.keep HI2.out.bel (Nat.le_refl _))).mono ?_
  rintro e u3 ⟨⟨b3, rfl, hb3⟩, bl3⟩
  have HI3 : Hid (In1 w u3 v.r v.k v.f v.t) := HI2.out.keep bl3
  clear bl3 p0 p1 p2 p3
  cases b3
  · have HN : Hid (¬ FuncsOk p.funcs) := fun e => by simp [e] at hb3
    clear hb3
    go_wp2
    go_ret
    exact ⟨.f3 HRC.out HN.out, HI3.out.bel⟩
  have HFo : Hid (FuncsOk p.funcs) := hb3.1 rfl
  clear hb3
  obtain ⟨p0, p1, p2, p3⟩ := HI3.out.prog
  go_wp2_with fail
  refine (codeHolds_any v p _ H.out.1 H.out.2.1 HRC.out.1 HFo.out (H.out.2.2.1.keep HI3.out.bel (Nat.le_refl _)) (H.out.2.2.2.1.keep HI3.out.bel (Nat.le_refl _))).mono ?_
  rintro e u4 ⟨⟨b4, rfl, hb4⟩, bl4⟩
  have HI4 : Hid (In1 w u4 v.r v.k v.f v.t) := HI3.out.keep bl4
  clear bl4 p0 p1 p2 p3
  cases b4
  · have HN : Hid (¬ CodeOk p) := fun e => by simp [e] at hb4
    clear hb4
    go_wp2
    go_ret
    exact ⟨.f4 HRC.out HFo.out HN.out, HI4.out.bel⟩
  have HCo : Hid (CodeOk p) := hb4.1 rfl
  clear hb4
  obtain ⟨p0, p1, p2, p3⟩ := HI4.out.prog
  go_wp2_with fail
  refine (certsHold_any v p _ H.out.1 (H.out.2.2.1.keep HI4.out.bel (Nat.le_refl _)) (H.out.2.2.2.2.keep HI4.out.bel (Nat.le_refl _))).mono ?_
  rintro e u5 ⟨⟨b5, rfl, hb5⟩, bl5⟩
  have HI5 : Hid (Below w.heap.size w u5) := below_on HI4.out.bel (Nat.le_refl _) bl5
  clear bl5 p0 p1 p2 p3
  cases b5
  · have HN : Hid (¬ CertsOk p) := fun e => by simp [e] at hb5
    clear hb5
    go_wp2
    go_ret
    exact ⟨.f5 HRC.out HFo.out HCo.out HN.out, HI5.out⟩
  · have HY : Hid (CertsOk p) := hb5.1 rfl
    clear hb5
    go_wp2
    go_ret
    exact ⟨.f0 HRC.out HFo.out HCo.out HY.out, HI5.out⟩
end Go.Proofs.YthifelgdkmkdkaaGreatDoor
