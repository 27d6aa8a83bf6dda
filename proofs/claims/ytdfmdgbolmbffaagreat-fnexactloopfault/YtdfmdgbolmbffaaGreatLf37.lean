import Derived.Test.YtdfmdgbolmbffaaGreatLf36
import Derived.Test.YtdfmdgbolmbffaaGreatLf15
import Derived.Test.YtdfmdgbolmbffaaGreatLf29
import Derived.Test.YtdfmdgbolmbffaaGreatLf32
import Derived.Test.YtdfmdgbolmbffaaGreatLf33
namespace Go.Proofs.YtdfmdgbolmbffaaGreat
open Go.ChangeShapes Go.WideShapes Go.ChangeAt Go.RowKit
set_option linter.unusedVariables false
/-- The error that tells a fault; nil where there is none. -/
def errOf (n : Int) : Value := if n = 0 then .nilIface else .iface 166 (.int .i64 n)
def SaysErr (e : Ending) (p : MP) : Prop := ∃ n, e = .returned (errOf n) ∧ FaultIs p n
theorem SaysErr.f1 {p : MP} (h : ¬ RegionsOk p.regions) : SaysErr (.returned (.iface 166 (.int .i64 1))) p := ⟨1, rfl, .inl ⟨rfl, h⟩⟩
theorem SaysErr.f2 {p : MP} (h1 : RegionsOk p.regions) (h : ¬ ConstsOk p.consts) : SaysErr (.returned (.iface 166 (.int .i64 2))) p := ⟨2, rfl, .inr (.inl ⟨rfl, h1, h⟩)⟩
theorem SaysErr.f3 {p : MP} (h1 : RegionsOk p.regions ∧ ConstsOk p.consts) (h : ¬ FuncsOk p.funcs) : SaysErr (.returned (.iface 166 (.int .i64 3))) p := ⟨3, rfl, .inr (.inr (.inl ⟨rfl, h1.1, h1.2, h⟩))⟩
theorem SaysErr.f4 {p : MP} (h1 : RegionsOk p.regions ∧ ConstsOk p.consts) (h2 : FuncsOk p.funcs) (h : ¬ CodeOk p) : SaysErr (.returned (.iface 166 (.int .i64 4))) p := ⟨4, rfl, .inr (.inr (.inr (.inl ⟨rfl, h1.1, h1.2, h2, h⟩)))⟩
theorem SaysErr.f5 {p : MP} (h1 : RegionsOk p.regions ∧ ConstsOk p.consts) (h2 : FuncsOk p.funcs) (h3 : CodeOk p) (h : ¬ CertsOk p) : SaysErr (.returned (.iface 166 (.int .i64 5))) p := ⟨5, rfl, .inr (.inr (.inr (.inr (.inl ⟨rfl, h1.1, h1.2, h2, h3, h⟩))))⟩
theorem SaysErr.f0 {p : MP} (h1 : RegionsOk p.regions ∧ ConstsOk p.consts) (h2 : FuncsOk p.funcs) (h3 : CodeOk p) (h : CertsOk p) : SaysErr (.returned .nilIface) p := ⟨0, rfl, .inr (.inr (.inr (.inr (.inr ⟨rfl, h1.1, h1.2, h2, h3, h⟩))))⟩
set_option maxHeartbeats 4000000 in
set_option maxRecDepth 100000 in
theorem checkProgram_any (v : VP) (p : MP) (w : World) (hs : p.small) (hw : p.wf) (h : RdP w v p) (hcap : RdRc w v.r p.regions) (hfp : RdFp w v.f p.funcs) :
    Calls Tryz.prog 76 #[.agg #[v.r, v.k, v.f, v.t]] w fun e w' => SaysErr e p ∧ Below w.heap.size w w' := by
  have H : Hid (p.small ∧ p.wf ∧ RdP w v p ∧ RdRc w v.r p.regions ∧ RdFp w v.f p.funcs) := ⟨hs, hw, h, hcap, hfp⟩
  clear hs hw h hcap hfp
  have HI : Hid _ := In1.of w v.r v.k v.f v.t 36
  go_enter Tryz.func76, Tryz.ntmps76
  go_wp2_with fail
  refine (regionsHold_any v.r p.regions _ H.out.1.regions H.out.1.region (H.out.2.2.1.regions.keep HI.out.bel (Nat.le_refl _))).mono ?_
  rintro e u1 ⟨⟨b1, rfl, hb1⟩, rfl⟩
  cases b1
  · have HN : Hid (¬ RegionsOk p.regions) := fun e => by simp [e] at hb1
    clear hb1
    go_wp2
    go_ret
    exact ⟨.f1 HN.out, HI.out.bel⟩
  have HR : Hid (RegionsOk p.regions) := hb1.1 rfl
  clear hb1
  go_wp2_with fail
  refine (constsHold_any v.k p.consts _ H.out.1.consts (fun c hc => (W32_range (H.out.2.1.consts c hc).2).1) (H.out.2.2.1.consts.keep HI.out.bel (Nat.le_refl _))).mono ?_
  rintro e u2 ⟨⟨b2, rfl, hb2⟩, bl2⟩
  have HI2 : Hid (In1 w u2 v.r v.k v.f v.t) := HI.out.keep bl2
  clear bl2
  cases b2
  · have HN : Hid (¬ ConstsOk p.consts) := fun e => by simp [e] at hb2
    clear hb2
    go_wp2
    go_ret
    exact ⟨.f2 HR.out HN.out, HI2.out.bel⟩
  have HRC : Hid (RegionsOk p.regions ∧ ConstsOk p.consts) := ⟨HR.out, hb2.1 rfl⟩
  clear hb2
  obtain ⟨p0, p1, p2, p3⟩ := HI2.out.prog
  go_wp2_with fail
  refine (funcsHold_any v.f p.funcs _ H.out.1.funcs H.out.1.func (H.out.2.2.1.funcs.keep HI2.out.bel (Nat.le_refl _))).mono ?_
  rintro e u3 ⟨⟨b3, rfl, hb3⟩, bl3⟩
  have HI3 : Hid (In1 w u3 v.r v.k v.f v.t) := HI2.out.keep bl3
  clear bl3 p0 p1 p2 p3
  cases b3
  · have HN : Hid (¬ FuncsOk p.funcs) := fun e => by simp [e] at hb3
    clear hb3
    go_wp2
    go_ret
    exact ⟨.f3 HRC.out HN.out, HI3.out.bel⟩
  have HFo : Hid (FuncsOk p.funcs) := hb3.1 rfl
  clear hb3
  obtain ⟨p0, p1, p2, p3⟩ := HI3.out.prog
  go_wp2_with fail
  refine (codeHolds_any v p _ H.out.1 H.out.2.1 HRC.out.1 HFo.out (H.out.2.2.1.keep HI3.out.bel (Nat.le_refl _)) (H.out.2.2.2.1.keep HI3.out.bel (Nat.le_refl _))).mono ?_
  rintro e u4 ⟨⟨b4, rfl, hb4⟩, bl4⟩
  have HI4 : Hid (In1 w u4 v.r v.k v.f v.t) := HI3.out.keep bl4
  clear bl4 p0 p1 p2 p3
  cases b4
  · have HN : Hid (¬ CodeOk p) := fun e => by simp [e] at hb4
    clear hb4
    go_wp2
    go_ret
    exact ⟨.f4 HRC.out HFo.out HN.out, HI4.out.bel⟩
  have HCo : Hid (CodeOk p) := hb4.1 rfl
  clear hb4
  obtain ⟨p0, p1, p2, p3⟩ := HI4.out.prog
  go_wp2_with fail
  refine (certsHold_any v p _ H.out.1 (H.out.2.2.1.keep HI4.out.bel (Nat.le_refl _)) (H.out.2.2.2.2.keep HI4.out.bel (Nat.le_refl _))).mono ?_
  rintro e u5 ⟨⟨b5, rfl, hb5⟩, bl5⟩
  have HI5 : Hid (Below w.heap.size w u5) := below_on HI4.out.bel (Nat.le_refl _) bl5
  clear bl5 p0 p1 p2 p3
  cases b5
  · have HN : Hid (¬ CertsOk p) := fun e => by simp [e] at hb5
    clear hb5
    go_wp2
    go_ret
    exact ⟨.f5 HRC.out HFo.out HCo.out HN.out, HI5.out⟩
  · have HY : Hid (CertsOk p) := hb5.1 rfl
    clear hb5
    go_wp2
    go_ret
    exact ⟨.f0 HRC.out HFo.out HCo.out HY.out, HI5.out⟩
end Go.Proofs.YtdfmdgbolmbffaaGreat
namespace Go.Proofs.YtdfmdgbolmbffaaGreat
open Go.ChangeShapes Go.WideShapes Go.ChangeAt Go.RowKit
set_option linter.unusedVariables false
theorem own_capR {w : World} {base : Nat} {e : TypeId} {s : Value} {k n : Nat} {xs : List Value} (h : w.ownsRow base e k s n xs) : ∃ a c, s = .slice a n c ∧ n ≤ c := by
  rcases h.2 with ⟨rfl, rfl⟩ | ⟨g, cap, cur, rfl, _, _, hc, _⟩
  · exact ⟨_, _, rfl, Nat.le_refl _⟩
  · exact ⟨_, _, rfl, hc⟩
theorem own_placed {w : World} {base : Nat} {e : TypeId} {s : Value} {k n : Nat} {xs : List Value} (h : w.ownsRow base e k s n xs) : Placed s := by
  rcases h.2 with ⟨rfl, rfl⟩ | ⟨g, cap, cur, rfl, _⟩
  · exact .inl rfl
  · exact .inr ⟨_, _, _, rfl⟩
theorem OwnR.rdc {w : World} {base : Nat} {s : Value} {rs : List (List Int)} (h : OwnR w base s rs) : RdRc w s rs := by
  obtain ⟨xs, h1, h2, h3⟩ := h
  exact ⟨xs, h1, Rd.of_own h2, fun x hx => ⟨Rd.of_own (h3 x hx), own_capR (h3 x hx)⟩⟩
theorem OwnFs.rdp {w : World} {base : Nat} {s : Value} {fs : List MF} (h : OwnFs w base s fs) : RdFp w s fs := by
  obtain ⟨xs, h1, h2, h3⟩ := h
  exact ⟨xs, h1, Rd.of_own h2, fun x hx => ⟨(h3 x hx).rd, own_placed (h3 x hx).1, own_placed (h3 x hx).2.1⟩⟩
end Go.Proofs.YtdfmdgbolmbffaaGreat
namespace Go.Proofs.YtdfmdgbolmbffaaGreat
open Go.ChangeShapes Go.WideShapes Go.ChangeAt Go.RowKit
set_option linter.unusedVariables false
/-- A function's flow has no code. -/
def FlowFree (xs : List MI) : Prop := ∃ r, FlowOk xs r ∧ r.code = 0
theorem cel4 {w : World} {b : Nat} {t : TypeId} {a0 a1 a2 a3 : Value} (h : Blk w b #[a0, a1, a2, a3] t) : w.cell? ⟨b, 0, none⟩ = some a0 ∧ w.cell? ⟨b, 1, none⟩ = some a1 ∧ w.cell? ⟨b, 2, none⟩ = some a2 ∧ w.cell? ⟨b, 3, none⟩ = some a3 := ⟨h.cell 0, h.cell 1, h.cell 2, h.cell 3⟩
theorem RdP.sl {w : World} {v : VP} {p : MP} (h : RdP w v p) : ∃ r1 r3 k1 k3 t1 t3 f1 f3, v = ⟨.slice r1 p.regions.length r3, .slice k1 p.consts.length k3, .slice f1 p.funcs.length f3, .slice t1 p.certs.length t3⟩ := by
  obtain ⟨r1, r3, er⟩ := (show ∃ a c, v.r = .slice a p.regions.length c from by obtain ⟨_, _, h2, _⟩ := h.regions; exact h2.is_slice)
  obtain ⟨k1, k3, ek⟩ := h.consts.is_slice
  obtain ⟨t1, t3, et⟩ := h.certs.is_slice
  obtain ⟨f1, f3, ef⟩ := (show ∃ a c, v.f = .slice a p.funcs.length c from by obtain ⟨_, _, h2, _⟩ := h.funcs; exact h2.is_slice)
  obtain ⟨vr, vk, vf, vt⟩ := v
  simp only [] at er ek et ef
  subst er ek et ef
  exact ⟨r1, r3, k1, k3, t1, t3, f1, f3, rfl⟩
theorem rdF_sl {w : World} {g : VF} {f : MF} (h : RdF w g f) : ∃ g1 g3 g4 g6 g7 g9, g = ⟨.slice g1 f.params.length g3, .slice g4 f.locals.length g6, .slice g7 f.code.length g9⟩ := by
  obtain ⟨g1, g3, e1⟩ := h.1.is_slice
  obtain ⟨g4, g6, e2⟩ := h.2.1.is_slice
  obtain ⟨g7, g9, e3⟩ := h.2.2.is_slice
  obtain ⟨gp, gl, gc⟩ := g
  simp only [] at e1 e2 e3
  subst e1 e2 e3
  exact ⟨g1, g3, g4, g6, g7, g9, rfl⟩
theorem cel6 {w : World} {b : Nat} {t : TypeId} {a0 a1 a2 a3 a4 a5 : Value} (h : Blk w b #[a0, a1, a2, a3, a4, a5] t) : w.cell? ⟨b, 0, none⟩ = some a0 ∧ w.cell? ⟨b, 1, none⟩ = some a1 ∧ w.cell? ⟨b, 2, none⟩ = some a2 ∧ w.cell? ⟨b, 3, none⟩ = some a3 ∧ w.cell? ⟨b, 4, none⟩ = some a4 ∧ w.cell? ⟨b, 5, none⟩ = some a5 := ⟨h.cell 0, h.cell 1, h.cell 2, h.cell 3, h.cell 4, h.cell 5⟩
theorem frz6 {w : World} {b : Nat} {t : TypeId} {cur : Array Value} (h : Blk w b cur t) : w.frozen? ⟨b, 0, none⟩ = false ∧ w.frozen? ⟨b, 1, none⟩ = false ∧ w.frozen? ⟨b, 2, none⟩ = false ∧ w.frozen? ⟨b, 3, none⟩ = false ∧ w.frozen? ⟨b, 4, none⟩ = false ∧ w.frozen? ⟨b, 5, none⟩ = false := ⟨h.frozen 0, h.frozen 1, h.frozen 2, h.frozen 3, h.frozen 4, h.frozen 5⟩
theorem isOneOf_says (n c : Int) (w : World) : Calls Tryz.prog 77 #[.int .i64 n, .int .i64 c] w fun e w' => SaysIff e (0 ≤ n ∧ n < c) ∧ w' = w := (isOneOf_any n c w).mono fun e w' h => ⟨⟨_, h.1, by simp⟩, h.2⟩
/-- A program without a fault has such a function, whose flow has no code. -/
def FlowP (p : MP) (fi : Int) : Prop := FaultIs p 0 ∧ 0 ≤ fi ∧ ∃ f, p.funcs[fi.toNat]? = some f ∧ FlowFree f.code
theorem OwFl.keepF {w w' : World} {base : Nat} {vb vo vi vl : Value} {F : List (MB × Value)} {ys : List (ML × Value × Value)} {r : MFl} (h : OwFl w base vb vo vi vl F ys r) (hb : Below w.heap.size w w') : OwFl w' base vb vo vi vl F ys r := ⟨own_keep h.brow hb (Nat.le_refl _), own_keep h.lrow hb (Nat.le_refl _), h.fam.keep hb, h.eb, h.el⟩
theorem OwFl.sl {w : World} {base : Nat} {vb vo vi vl : Value} {F : List (MB × Value)} {ys : List (ML × Value × Value)} {r : MFl} (h : OwFl w base vb vo vi vl F ys r) : ∃ v1 n1 c1 v2 n2 c2 v3 n3 c3 v4 n4 c4, vb = .slice v1 n1 c1 ∧ vo = .slice v2 n2 c2 ∧ vi = .slice v3 n3 c3 ∧ vl = .slice v4 n4 c4 := by
  obtain ⟨v1, c1, e1⟩ := own_slice h.brow
  obtain ⟨v4, c4, e4⟩ := own_slice h.lrow
  obtain ⟨v2, c2, e2⟩ := own_slice (h.fam.own (vo, r.order) (by simp))
  obtain ⟨v3, c3, e3⟩ := own_slice (h.fam.own (vi, r.idom) (by simp))
  exact ⟨v1, _, c1, v2, _, c2, v3, _, c3, v4, _, c4, e1, e2, e3, e4⟩
theorem bset {B : Nat} {w u : World} (h : Below B w u) (g i : Nat) (hg : B ≤ g) (x : Value) : Below B w (u.setCell ⟨g, i, none⟩ x) := h.setCell hg x
theorem OwFl.set {w : World} {base : Nat} {vb vo vi vl : Value} {F : List (MB × Value)} {ys : List (ML × Value × Value)} {r : MFl} (h : OwFl w base vb vo vi vl F ys r) {a : Addr} (ha : a.block < base) (x : Value) : OwFl (w.setCell a x) base vb vo vi vl F ys r := ⟨ownsRow_setCell_below h.brow ha x, ownsRow_setCell_below h.lrow ha x, ⟨fun r hr => ownsRow_setCell_below (h.fam.own r hr) ha x, h.fam.sep⟩, h.eb, h.el⟩
theorem OwFl.down {w : World} {base base' : Nat} {vb vo vi vl : Value} {F : List (MB × Value)} {ys : List (ML × Value × Value)} {r : MFl} (h : OwFl w base vb vo vi vl F ys r) (hb : base' ≤ base) : OwFl w base' vb vo vi vl F ys r := ⟨own_base h.brow hb, own_base h.lrow hb, ⟨fun r hr => own_base (h.fam.own r hr) hb, h.fam.sep⟩, h.eb, h.el⟩
/-- What flowOfFunc tells. -/
def FlRes (w : World) (p : MP) (fi : Int) (e : Ending) (w' : World) : Prop := ∃ (c a : Int) (v1 : Option Addr) (n1 c1 : Nat) (v2 : Option Addr) (n2 c2 : Nat) (v3 : Option Addr) (n3 c3 : Nat) (v4 : Option Addr) (n4 c4 : Nat) (bb : Bool), e = .returned (.tuple #[.agg #[.int .i64 c, .int .i64 a, .slice v1 n1 c1, .slice v2 n2 c2, .slice v3 n3 c3, .slice v4 n4 c4], .bool bb]) ∧ (bb = true ↔ FlowP p fi) ∧ (bb = true → ∃ f r F ys, p.funcs[fi.toNat]? = some f ∧ FlowOk f.code r ∧ r.code = 0 ∧ c = 0 ∧ OwFl w' w.heap.size (.slice v1 n1 c1) (.slice v2 n2 c2) (.slice v3 n3 c3) (.slice v4 n4 c4) F ys r) ∧ Below w.heap.size w w'
set_option maxHeartbeats 8000000 in
set_option maxRecDepth 100000 in
theorem flowOfFunc_any (v : VP) (p : MP) (fi : Int) (w : World) (hs : p.small) (hw : p.wf) (h : RdP w v p) (hcap : RdRc w v.r p.regions) (hfp : RdFp w v.f p.funcs) : Calls Tryz.prog 36 #[.agg #[v.r, v.k, v.f, v.t], .int .i64 fi] w (FlRes w p fi) := by
  have H : Hid (p.small ∧ p.wf ∧ RdP w v p ∧ RdRc w v.r p.regions ∧ RdFp w v.f p.funcs) := ⟨hs, hw, h, hcap, hfp⟩
  obtain ⟨r1, r3, k1, k3, t1, t3, f1, f3, rfl⟩ := h.sl
  clear hs hw h hcap hfp
  have HFL : Hid (p.funcs.length ≤ 1048576) := H.out.1.funcs
  generalize hnf : p.funcs.length = nf at H HFL ⊢
  have HNF : Hid (p.funcs.length = nf) := hnf
  clear hnf
  generalize p.regions.length = nr at H ⊢
  generalize p.consts.length = nk at H ⊢
  generalize p.certs.length = nt at H ⊢
  simp only [] at H
  have E0 : Hid (Blk ((w.alloc (.cells #[.slice r1 nr r3, .slice k1 nk k3, .slice f1 nf f3, .slice t1 nt t3] 36)).alloc (.cells #[.int .i64 0, .int .i64 0, .slice none 0 0, .slice none 0 0, .slice none 0 0, .slice none 0 0] 67)) w.heap.size #[.slice r1 nr r3, .slice k1 nk k3, .slice f1 nf f3, .slice t1 nt t3] 36 ∧ Blk ((w.alloc (.cells #[.slice r1 nr r3, .slice k1 nk k3, .slice f1 nf f3, .slice t1 nt t3] 36)).alloc (.cells #[.int .i64 0, .int .i64 0, .slice none 0 0, .slice none 0 0, .slice none 0 0, .slice none 0 0] 67)) (w.heap.size + 1) #[.int .i64 0, .int .i64 0, .slice none 0 0, .slice none 0 0, .slice none 0 0, .slice none 0 0] 67 ∧ Below w.heap.size w ((w.alloc (.cells #[.slice r1 nr r3, .slice k1 nk k3, .slice f1 nf f3, .slice t1 nt t3] 36)).alloc (.cells #[.int .i64 0, .int .i64 0, .slice none 0 0, .slice none 0 0, .slice none 0 0, .slice none 0 0] 67))) := by
    have b1 := below_alloc w (.cells #[.slice r1 nr r3, .slice k1 nk k3, .slice f1 nf f3, .slice t1 nt t3] 36)
    have b2 := below_alloc (w.alloc (.cells #[.slice r1 nr r3, .slice k1 nk k3, .slice f1 nf f3, .slice t1 nt t3] 36)) (.cells #[.int .i64 0, .int .i64 0, .slice none 0 0, .slice none 0 0, .slice none 0 0, .slice none 0 0] 67)
    refine ⟨(Blk.new w _ _).keep b2, ?_, below_on b1 (Nat.le_refl _) b2⟩
    have k2 := Blk.new (w.alloc (.cells #[.slice r1 nr r3, .slice k1 nk k3, .slice f1 nf f3, .slice t1 nt t3] 36)) #[.int .i64 0, .int .i64 0, .slice none 0 0, .slice none 0 0, .slice none 0 0, .slice none 0 0] 67
    have e1 : (w.alloc (.cells #[.slice r1 nr r3, .slice k1 nk k3, .slice f1 nf f3, .slice t1 nt t3] 36)).heap.size = w.heap.size + 1 := by simp
    rw [e1] at k2
    exact k2
  go_enter Tryz.func36, Tryz.ntmps36
  go_upto_region 1 with fail
  refine wp_world (fun u => Hid (Blk u w.heap.size #[.slice r1 nr r3, .slice k1 nk k3, .slice f1 nf f3, .slice t1 nt t3] 36 ∧ Blk u (w.heap.size + 1) #[.int .i64 0, .int .i64 0, .slice none 0 0, .slice none 0 0, .slice none 0 0, .slice none 0 0] 67 ∧ Below w.heap.size w u)) E0 ?_
  rintro U E1
  clear E0
  obtain ⟨p0, p1, p2, p3⟩ := cel4 E1.out.1
  go_wp2_with fail
  refine (checkProgram_any ⟨.slice r1 nr r3, .slice k1 nk k3, .slice f1 nf f3, .slice t1 nt t3⟩ p U H.out.1 H.out.2.1 (H.out.2.2.1.keep E1.out.2.2 (Nat.le_refl _)) (H.out.2.2.2.1.keep E1.out.2.2 (Nat.le_refl _)) (H.out.2.2.2.2.keep E1.out.2.2 (Nat.le_refl _))).mono ?_
  rintro e u1 ⟨⟨n, rfl, hn⟩, b1⟩
  have E2 : Hid (Blk u1 w.heap.size #[.slice r1 nr r3, .slice k1 nk k3, .slice f1 nf f3, .slice t1 nt t3] 36 ∧ Blk u1 (w.heap.size + 1) #[.int .i64 0, .int .i64 0, .slice none 0 0, .slice none 0 0, .slice none 0 0, .slice none 0 0] 67 ∧ Below w.heap.size w u1) := ⟨E1.out.1.keep b1, E1.out.2.1.keep b1, below_on E1.out.2.2 (Nat.le_refl _) b1⟩
  have HN : Hid (FaultIs p n) := hn
  clear b1 hn E1 p0 p1 p2 p3
  obtain ⟨q0, q1, q2, q3, q4, q5⟩ := cel6 E2.out.2.1
  obtain ⟨z0, z1, z2, z3, z4, z5⟩ := frz6 E2.out.2.1
  by_cases hn0 : n = 0
  · subst hn0
    rw [show errOf 0 = .nilIface from rfl]
    obtain ⟨p0, p1, p2, p3⟩ := cel4 E2.out.1
    go_wp2_with fail
    refine (isOneOf_says fi (nf : Int) u1).mono ?_
    rintro e u2 ⟨⟨b2, rfl, hb2⟩, rfl⟩
    have HB2 : Hid (b2 = true ↔ (0 ≤ fi ∧ fi < (nf : Int))) := hb2
    clear hb2
    cases b2
    · have HNP : Hid (¬ FlowP p fi) := fun e => by
        obtain ⟨f, hf, _⟩ := e.2.2
        have h1 := (List.getElem?_eq_some_iff.1 hf).1
        have h2 := HNF.out
        have := HB2.out.2 ⟨e.2.1, by have := e.2.1; omega⟩
        cases this
      go_wp2_with fail
      have G : Hid _ := (((((E2.out.2.1.set 0 (.int .i64 0)).set 1 (.int .i64 0)).set 2 (.slice none 0 0)).set 3 (.slice none 0 0)).set 4 (.slice none 0 0)).set 5 (.slice none 0 0)
      simp only [List.setIfInBounds_toArray, List.set_cons_zero, List.set_cons_succ] at G
      clear q0 q1 q2 q3 q4 q5
      obtain ⟨q0, q1, q2, q3, q4, q5⟩ := cel6 G.out
      exact bodyPost_ret (v := .tuple #[.agg #[.int .i64 0, .int .i64 0, .slice none 0 0, .slice none 0 0, .slice none 0 0, .slice none 0 0], .bool false]) (by simp [results, Tryz.results36, go_sem, q0, q1, q2, q3, q4, q5]) rfl ⟨0, 0, _, _, _, _, _, _, _, _, _, _, _, _, false, rfl, ⟨fun e => (by cases e), fun e => absurd e HNP.out⟩, fun e => (by cases e), (((((E2.out.2.2.setCell (by simp only []; omega) _).setCell (by simp only []; omega) _).setCell (by simp only []; omega) _).setCell (by simp only []; omega) _).setCell (by simp only []; omega) _).setCell (by simp only []; omega) _⟩
    · have hfi := HB2.out.1 (by first | rfl | trivial)
      obtain ⟨q, rfl⟩ := Int.eq_ofNat_of_zero_le hfi.1
      obtain ⟨f, hf⟩ : ∃ f, p.funcs[q]? = some f := ⟨_, List.getElem?_eq_getElem (by rw [HNF.out]; omega)⟩
      obtain ⟨gk, ok, ck, efn, g, hrf, m0, m1, m2, m3⟩ := fn_at (H.out.2.2.1.keep E2.out.2.2 (Nat.le_refl _)).funcs hf
      simp only [Value.slice.injEq, HNF.out, true_and] at efn
      obtain ⟨rfl, rfl⟩ := efn
      obtain ⟨g1, g3, g4, g6, g7, g9, rfl⟩ := rdF_sl hrf
      have hqL : (q : Int) < (nf : Int) := hfi.2
      have HF : Hid (p.funcs[q]? = some f ∧ f.small ∧ RdF u2 ⟨.slice g1 f.params.length g3, .slice g4 f.locals.length g6, .slice g7 f.code.length g9⟩ f) := ⟨hf, H.out.1.func f (List.mem_of_getElem? hf), hrf⟩
      clear hf hrf hfi HB2
      simp only [] at m0 m1 m2 m3
      go_wp2_with fail
      refine (implFlow_any (.slice g7 f.code.length g9) f.code u2 HF.out.2.1.2.2 HF.out.2.2.2.2).mono ?_
      rintro e u3 ⟨r, vb, vo, vi, vl, F, ys, rfl, hfl, how, b3⟩
      obtain ⟨v1, n1, c1, v2, n2, c2, v3, n3, c3, v4, n4, c4, rfl, rfl, rfl, rfl⟩ := how.sl
      have E3 : Hid (FlowOk f.code r ∧ OwFl u3 u2.heap.size (.slice v1 n1 c1) (.slice v2 n2 c2) (.slice v3 n3 c3) (.slice v4 n4 c4) F ys r ∧ Blk u3 (w.heap.size + 1) #[.int .i64 0, .int .i64 0, .slice none 0 0, .slice none 0 0, .slice none 0 0, .slice none 0 0] 67 ∧ Below w.heap.size w u3 ∧ w.heap.size + 1 < u2.heap.size) := ⟨hfl, how, E2.out.2.1.keep b3, below_on E2.out.2.2 (Nat.le_refl _) b3, E2.out.2.1.lt⟩
      clear hfl how b3 E2 m0 m1 m2 m3 p0 p1 p2 p3 q0 q1 q2 q3 q4 q5 z0 z1 z2 z3 z4 z5
      have E4 : Hid (Blk (u3.alloc (.cells #[.int .i64 r.code, .int .i64 r.at_, .slice v1 n1 c1, .slice v2 n2 c2, .slice v3 n3 c3, .slice v4 n4 c4] 67)) u3.heap.size #[.int .i64 r.code, .int .i64 r.at_, .slice v1 n1 c1, .slice v2 n2 c2, .slice v3 n3 c3, .slice v4 n4 c4] 67 ∧ Blk (u3.alloc (.cells #[.int .i64 r.code, .int .i64 r.at_, .slice v1 n1 c1, .slice v2 n2 c2, .slice v3 n3 c3, .slice v4 n4 c4] 67)) (w.heap.size + 1) #[.int .i64 0, .int .i64 0, .slice none 0 0, .slice none 0 0, .slice none 0 0, .slice none 0 0] 67 ∧ OwFl (u3.alloc (.cells #[.int .i64 r.code, .int .i64 r.at_, .slice v1 n1 c1, .slice v2 n2 c2, .slice v3 n3 c3, .slice v4 n4 c4] 67)) u2.heap.size (.slice v1 n1 c1) (.slice v2 n2 c2) (.slice v3 n3 c3) (.slice v4 n4 c4) F ys r ∧ Below w.heap.size w (u3.alloc (.cells #[.int .i64 r.code, .int .i64 r.at_, .slice v1 n1 c1, .slice v2 n2 c2, .slice v3 n3 c3, .slice v4 n4 c4] 67)) ∧ w.heap.size + 1 < u3.heap.size) := ⟨Blk.new _ _ _, E3.out.2.2.1.keep (below_alloc _ _), E3.out.2.1.keepF (below_alloc _ _), below_on E3.out.2.2.2.1 (Nat.le_refl _) (below_alloc _ _), E3.out.2.2.1.lt⟩
      have HFO : Hid (FlowOk f.code r ∧ w.heap.size + 1 < u2.heap.size) := ⟨E3.out.1, E3.out.2.2.2.2⟩
      go_upto_region 4 with fail
      clear E3
      generalize u3.heap.size = Y at E4 ⊢
      refine wp_world (fun u => Hid (Blk u Y #[.int .i64 r.code, .int .i64 r.at_, .slice v1 n1 c1, .slice v2 n2 c2, .slice v3 n3 c3, .slice v4 n4 c4] 67 ∧ Blk u (w.heap.size + 1) #[.int .i64 0, .int .i64 0, .slice none 0 0, .slice none 0 0, .slice none 0 0, .slice none 0 0] 67 ∧ OwFl u u2.heap.size (.slice v1 n1 c1) (.slice v2 n2 c2) (.slice v3 n3 c3) (.slice v4 n4 c4) F ys r ∧ Below w.heap.size w u ∧ w.heap.size + 1 < Y)) E4 ?_
      rintro U5 E5
      clear E4
      have E6 : Hid (OwFl U5 u2.heap.size (.slice v1 n1 c1) (.slice v2 n2 c2) (.slice v3 n3 c3) (.slice v4 n4 c4) F ys r ∧ Below w.heap.size w U5) := ⟨E5.out.2.2.1, E5.out.2.2.2.1⟩
      obtain ⟨y0, y1, y2, y3, y4, y5⟩ := cel6 (E5.out.1.keep (below_drew1 _))
      obtain ⟨q0, q1, q2, q3, q4, q5⟩ := cel6 (E5.out.2.1.keep (below_drew1 _))
      obtain ⟨z0, z1, z2, z3, z4, z5⟩ := frz6 (E5.out.2.1.keep (below_drew1 _))
      obtain ⟨y0', y1', y2', y3', y4', y5'⟩ := cel6 E5.out.1
      obtain ⟨q0', q1', q2', q3', q4', q5'⟩ := cel6 E5.out.2.1
      obtain ⟨z0', z1', z2', z3', z4', z5'⟩ := frz6 E5.out.2.1
      have hYne : ¬ Y = w.heap.size + 1 := by have := E5.out.2.2.2.2; omega
      have hYne' : ¬ w.heap.size + 1 = Y := by have := E5.out.2.2.2.2; omega
      go_region
      have G : Hid _ := (((((E5.out.2.1.set 0 (.int .i64 r.code)).set 1 (.int .i64 r.at_)).set 2 (.slice v1 n1 c1)).set 3 (.slice v2 n2 c2)).set 4 (.slice v3 n3 c3)).set 5 (.slice v4 n4 c4)
      simp only [List.setIfInBounds_toArray, List.set_cons_zero, List.set_cons_succ] at G
      have hb2 := HFO.out.2
      have OW : Hid _ := ((((((E6.out.1.set (a := ⟨w.heap.size + 1, 0, none⟩) hb2 (.int .i64 r.code)).set (a := ⟨w.heap.size + 1, 1, none⟩) hb2 (.int .i64 r.at_)).set (a := ⟨w.heap.size + 1, 2, none⟩) hb2 (.slice v1 n1 c1)).set (a := ⟨w.heap.size + 1, 3, none⟩) hb2 (.slice v2 n2 c2)).set (a := ⟨w.heap.size + 1, 4, none⟩) hb2 (.slice v3 n3 c3)).set (a := ⟨w.heap.size + 1, 5, none⟩) hb2 (.slice v4 n4 c4)).keepF (below_drew1 _)
      have BB : Hid _ := below_on (bset (bset (bset (bset (bset (bset E6.out.2 (w.heap.size + 1) 0 (Nat.le_succ _) (.int .i64 r.code)) (w.heap.size + 1) 1 (Nat.le_succ _) (.int .i64 r.at_)) (w.heap.size + 1) 2 (Nat.le_succ _) (.slice v1 n1 c1)) (w.heap.size + 1) 3 (Nat.le_succ _) (.slice v2 n2 c2)) (w.heap.size + 1) 4 (Nat.le_succ _) (.slice v3 n3 c3)) (w.heap.size + 1) 5 (Nat.le_succ _) (.slice v4 n4 c4)) (Nat.le_refl _) (below_drew1 _)
      clear q0 q1 q2 q3 q4 q5 q0' q1' q2' q3' q4' q5' y0 y1 y2 y3 y4 y5 y0' y1' y2' y3' y4' y5' z0 z1 z2 z3 z4 z5 z0' z1' z2' z3' z4' z5' hYne hYne'
      obtain ⟨q0, q1, q2, q3, q4, q5⟩ := cel6 (Blk.keep (w := (((((U5.setCell ⟨w.heap.size + 1, 0, none⟩ (.int .i64 r.code)).setCell ⟨w.heap.size + 1, 1, none⟩ (.int .i64 r.at_)).setCell ⟨w.heap.size + 1, 2, none⟩ (.slice v1 n1 c1)).setCell ⟨w.heap.size + 1, 3, none⟩ (.slice v2 n2 c2)).setCell ⟨w.heap.size + 1, 4, none⟩ (.slice v3 n3 c3)).setCell ⟨w.heap.size + 1, 5, none⟩ (.slice v4 n4 c4)) (b := w.heap.size + 1) (t := 67) G.out (below_drew1 _))
      go_wp2_with fail
      have hb3 : w.heap.size ≤ u2.heap.size := by omega
      exact bodyPost_ret (v := .tuple #[.agg #[.int .i64 r.code, .int .i64 r.at_, .slice v1 n1 c1, .slice v2 n2 c2, .slice v3 n3 c3, .slice v4 n4 c4], .bool (r.code == 0)]) (by simp [results, Tryz.results36, go_sem, q0, q1, q2, q3, q4, q5]) rfl ⟨r.code, r.at_, v1, n1, c1, v2, n2, c2, v3, n3, c3, v4, n4, c4, r.code == 0, rfl, ⟨fun e => ⟨HN.out, by omega, f, by rw [Int.toNat_natCast]; exact HF.out.1, r, HFO.out.1, by simpa using e⟩, fun e => by
        obtain ⟨f', hf', r', hr', hc'⟩ := e.2.2
        rw [Int.toNat_natCast, HF.out.1] at hf'
        obtain rfl := Option.some.inj hf'
        have := hr'.one HFO.out.1
        rw [← this]
        simpa using hc'⟩, fun e => ⟨f, r, F, ys, by rw [Int.toNat_natCast]; exact HF.out.1, HFO.out.1, by simpa using e, by simpa using e, OW.out.down hb3⟩, BB.out⟩
  · rw [show errOf n = .iface 166 (.int .i64 n) from by unfold errOf; rw [if_neg hn0]]
    have HNP : Hid (¬ FlowP p fi) := fun e => hn0 (HN.out.one e.1)
    clear hn0
    go_wp2_with fail
    have G : Hid _ := (((((E2.out.2.1.set 0 (.int .i64 0)).set 1 (.int .i64 0)).set 2 (.slice none 0 0)).set 3 (.slice none 0 0)).set 4 (.slice none 0 0)).set 5 (.slice none 0 0)
    simp only [List.setIfInBounds_toArray, List.set_cons_zero, List.set_cons_succ] at G
    clear q0 q1 q2 q3 q4 q5
    obtain ⟨q0, q1, q2, q3, q4, q5⟩ := cel6 G.out
    exact bodyPost_ret (v := .tuple #[.agg #[.int .i64 0, .int .i64 0, .slice none 0 0, .slice none 0 0, .slice none 0 0, .slice none 0 0], .bool false]) (by simp [results, Tryz.results36, go_sem, q0, q1, q2, q3, q4, q5]) rfl ⟨0, 0, _, _, _, _, _, _, _, _, _, _, _, _, false, rfl, ⟨fun e => (by cases e), fun e => absurd e HNP.out⟩, fun e => (by cases e), (((((E2.out.2.2.setCell (by simp only []; omega) _).setCell (by simp only []; omega) _).setCell (by simp only []; omega) _).setCell (by simp only []; omega) _).setCell (by simp only []; omega) _).setCell (by simp only []; omega) _⟩
end Go.Proofs.YtdfmdgbolmbffaaGreat
namespace Go.Proofs.YtdfmdgbolmbffaaGreat
open Go.ChangeShapes Go.WideShapes Go.ChangeAt Go.RowKit
set_option linter.unusedVariables false
def costOf (op : Int) : Int := intIn (infoOf op)[1]?
def cellTy (p : MP) (x : MI) : Int := match p.regions[x.a.toNat]? with | some r => (r[x.b.toNat]?).getD 0 | none => 0
def resultL (f : MF) : List Int := if f.result = 0 then [] else [f.result]
/-- What an instruction takes, the top one last. -/
def takesL (p : MP) (f : MF) (x : MI) : List Int :=
  if x.op = 3 then [localOf f x.a] else if x.op = 5 then [cellTy p x] else if x.op = 6 then [3] else if x.op = 7 then [3, cellTy p x]
  else if (8 ≤ x.op ∧ x.op ≤ 15) ∨ x.op = 20 ∨ x.op = 21 then [x.a, x.a] else if x.op = 16 ∨ x.op = 22 then [x.a]
  else if x.op = 17 ∨ x.op = 18 then [3, 3] else if x.op = 19 then [2] else if x.op = 23 ∨ x.op = 24 then [0] else if x.op = 26 then [1]
  else if x.op = 28 then (match p.funcs[x.a.toNat]? with | some g => g.params | none => []) else []
/-- How many it gives. -/
def givesN (x : MI) : Nat := if x.op = 1 ∨ x.op = 2 ∨ x.op = 4 ∨ x.op = 6 ∨ (8 ≤ x.op ∧ x.op ≤ 22) then 1 else if x.op = 23 then 2 else 0
def vAt (l : List MC) (i : Nat) : MC := (l[i]?).getD ⟨0, 0⟩
/-- What an instruction gives. -/
def givesL (p : MP) (f : MF) (x : MI) : List Int :=
  if x.op = 1 then [(vAt p.consts x.a.toNat).type] else if x.op = 2 then [localOf f x.a] else if x.op = 4 ∨ x.op = 6 then [cellTy p x]
  else if 8 ≤ x.op ∧ x.op ≤ 16 then [x.a] else if x.op = 17 ∨ x.op = 18 then [3] else if x.op = 19 then [2] else if x.op = 20 ∨ x.op = 21 then [1]
  else if x.op = 22 then [x.b] else if x.op = 23 then [0, 0] else if x.op = 28 then (match p.funcs[x.a.toNat]? with | some g => resultL g | none => []) else []
theorem givesL_length (p : MP) (f : MF) (x : MI) (h : x.op ≠ 28) : (givesL p f x).length = givesN x := by
  unfold givesL givesN
  repeat' split
  all_goals first | rfl | (exfalso; omega)
/-- What the program takes: of a return its result. -/
def takesI (p : MP) (f : MF) (x : MI) : List Int := if x.op = 29 then resultL f else takesL p f x
end Go.Proofs.YtdfmdgbolmbffaaGreat
namespace Go.Proofs.YtdfmdgbolmbffaaGreat
open Go.ChangeShapes Go.WideShapes Go.ChangeAt Go.RowKit
set_option linter.unusedVariables false
theorem FaultIs.parts {p : MP} (h : FaultIs p 0) : RegionsOk p.regions ∧ ConstsOk p.consts ∧ FuncsOk p.funcs ∧ CodeOk p ∧ CertsOk p := by
  unfold FaultIs at h
  rcases h with h | h | h | h | h | h
  · exact absurd h.1 (by decide)
  · exact absurd h.1 (by decide)
  · exact absurd h.1 (by decide)
  · exact absurd h.1 (by decide)
  · exact absurd h.1 (by decide)
  · exact h.2
theorem FaultIs.instr {p : MP} (h : FaultIs p 0) {i j : Nat} {f : MF} {x : MI} (hf : p.funcs[i]? = some f) (hx : f.code[j]? = some x) : InstrOk p f x := h.parts.2.2.2.1 i (List.getElem?_eq_some_iff.1 hf).1 f hf j (List.getElem?_eq_some_iff.1 hx).1 x hx
theorem formK : formOf 1 = 1 ∧ formOf 2 = 2 ∧ formOf 3 = 2 ∧ formOf 4 = 3 ∧ formOf 5 = 3 ∧ formOf 6 = 4 ∧ formOf 7 = 4 ∧ formOf 27 = 10 ∧ formOf 28 = 11 := by decide +kernel
theorem InstrOk.const {p : MP} {f : MF} {x : MI} (h : InstrOk p f x) (e : x.op = 1) : ∃ (q : Nat) (z : MC), x.a = q ∧ p.consts[q]? = some z := by
  obtain ⟨_, _, h⟩ := h
  rw [e, formK.1] at h
  unfold FormOk takes at h
  have h1 : 0 ≤ x.a ∧ x.a < p.consts.length := by
    rcases h with h | h | h | h | h | h | h | h | h | h <;> first | (exfalso; omega) | exact ⟨h.2.1, h.2.2.1⟩
  obtain ⟨q, hq⟩ := Int.eq_ofNat_of_zero_le h1.1
  rw [hq] at h1
  exact ⟨q, _, hq, List.getElem?_eq_getElem (by omega)⟩
theorem localOf_at {f : MF} {a : Int} (h : ¬ localOf f a = 0) : ∃ q : Nat, a = q ∧ (f.params ++ f.locals)[q]? = some (localOf f a) := by
  by_cases h0 : a < 0
  · exact absurd (localOf_neg h0) h
  · obtain ⟨q, hq⟩ := Int.eq_ofNat_of_zero_le (by omega : 0 ≤ a)
    refine ⟨q, hq, ?_⟩
    subst hq
    unfold localOf at h ⊢
    rw [if_neg h0] at h ⊢
    rw [List.getD_eq_getElem?_getD] at h ⊢
    simp only [Int.toNat_natCast] at h ⊢
    cases e : (f.params ++ f.locals)[q]? with
    | none => rw [e] at h; exact absurd rfl h
    | some z => rfl
theorem InstrOk.local {p : MP} {f : MF} {x : MI} (h : InstrOk p f x) (e : x.op = 2 ∨ x.op = 3 ∨ x.op = 27) : ∃ q : Nat, x.a = q ∧ (f.params ++ f.locals)[q]? = some (localOf f x.a) := by
  apply localOf_at
  obtain ⟨_, _, h⟩ := h
  have hf : formOf x.op = 2 ∨ formOf x.op = 10 := by
    rcases e with e | e | e <;> rw [e]
    · exact .inl formK.2.1
    · exact .inl formK.2.2.1
    · exact .inr formK.2.2.2.2.2.2.2.1
  unfold FormOk takes at h
  rcases h with h | h | h | h | h | h | h | h | h | h <;> first | (exfalso; omega) | exact h.2.1
theorem cellOf_at {p : MP} {a b : Int} (h3 : p.regions.length = 3) (h : ¬ cellOf p a b = 0) : ∃ (q z : Nat) (r : List Int), a = q ∧ b = z ∧ p.regions[q]? = some r ∧ r[z]? = some (cellOf p a b) := by
  by_cases h0 : a < 0 ∨ 2 < a ∨ b < 0
  · exact absurd (cellOf_bad h0) h
  · obtain ⟨q, hq⟩ := Int.eq_ofNat_of_zero_le (by omega : 0 ≤ a)
    obtain ⟨z, hz⟩ := Int.eq_ofNat_of_zero_le (by omega : 0 ≤ b)
    subst hq hz
    have hr : p.regions[q]? = some (p.regions[q]'(by omega)) := List.getElem?_eq_getElem (by omega)
    refine ⟨q, z, _, rfl, rfl, hr, ?_⟩
    have e := cellOf_in (p := p) (r := q) (c := z) (by omega) hr
    rw [e] at h ⊢
    rw [List.getD_eq_getElem?_getD] at h ⊢
    cases e2 : (p.regions[q]'(by omega))[z]? with
    | none => rw [e2] at h; exact absurd rfl h
    | some t => rfl
theorem cellTy_at {p : MP} {x : MI} {q z : Nat} {r : List Int} {t : Int} (h1 : x.a = q) (h2 : x.b = z) (hr : p.regions[q]? = some r) (ht : r[z]? = some t) : cellTy p x = t := by
  unfold cellTy
  rw [h1, h2]
  simp only [Int.toNat_natCast, hr, ht]
  rfl
theorem InstrOk.cell {p : MP} {f : MF} {x : MI} (h3 : p.regions.length = 3) (h : InstrOk p f x) (e : x.op = 4 ∨ x.op = 5 ∨ x.op = 6 ∨ x.op = 7) : ∃ (q z : Nat) (r : List Int), x.a = q ∧ x.b = z ∧ p.regions[q]? = some r ∧ r[z]? = some (cellTy p x) := by
  obtain ⟨_, _, h⟩ := h
  have hf : formOf x.op = 3 ∨ formOf x.op = 4 := by
    rcases e with e | e | e | e <;> rw [e]
    · exact .inl formK.2.2.2.1
    · exact .inl formK.2.2.2.2.1
    · exact .inr formK.2.2.2.2.2.1
    · exact .inr formK.2.2.2.2.2.2.1
  unfold FormOk takes at h
  have hc : ¬ cellOf p x.a x.b = 0 := by
    rcases h with h | h | h | h | h | h | h | h | h | h <;> first | (exfalso; omega) | exact h.2.1 | exact h.2.1.there
  obtain ⟨q, z, r, h1, h2, hr, ht⟩ := cellOf_at h3 hc
  refine ⟨q, z, r, h1, h2, hr, ?_⟩
  rw [cellTy_at h1 h2 hr ht]
  exact ht
theorem InstrOk.mask {p : MP} {f : MF} {x : MI} (h : InstrOk p f x) (e : x.op = 6 ∨ x.op = 7) : MaskOk p x.a x.b x.c := by
  obtain ⟨_, _, h⟩ := h
  have hf : formOf x.op = 4 := by
    rcases e with e | e <;> rw [e]
    · exact formK.2.2.2.2.2.1
    · exact formK.2.2.2.2.2.2.1
  unfold FormOk takes at h
  rcases h with h | h | h | h | h | h | h | h | h | h <;> first | (exfalso; omega) | exact h.2.1
theorem InstrOk.callee {p : MP} {f : MF} {x : MI} (h : InstrOk p f x) (e : x.op = 28) : ∃ (q : Nat) (fq : MF), x.a = q ∧ p.funcs[q]? = some fq := by
  obtain ⟨_, _, h⟩ := h
  rw [e, formK.2.2.2.2.2.2.2.2] at h
  unfold FormOk takes at h
  have h1 : 0 ≤ x.a ∧ x.a < p.funcs.length := by
    rcases h with h | h | h | h | h | h | h | h | h | h <;> first | (exfalso; omega) | exact ⟨h.2.1, h.2.2.1⟩
  obtain ⟨q, hq⟩ := Int.eq_ofNat_of_zero_le h1.1
  rw [hq] at h1
  exact ⟨q, _, hq, List.getElem?_eq_getElem (by omega)⟩
theorem InstrOk.target {p : MP} {f : MF} {x : MI} (h : InstrOk p f x) (e : x.op = 25 ∨ x.op = 26 ∨ x.op = 27) : 0 ≤ x.c ∧ x.c < f.code.length := by
  obtain ⟨_, _, h⟩ := h
  have hk : formOf 25 = 9 ∧ formOf 26 = 9 ∧ formOf 27 = 10 := by decide +kernel
  have hf : formOf x.op = 9 ∨ formOf x.op = 10 := by
    rcases e with e | e | e <;> rw [e]
    · exact .inl hk.1
    · exact .inl hk.2.1
    · exact .inr hk.2.2
  unfold FormOk takes at h
  rcases h with h | h | h | h | h | h | h | h | h | h <;> first | (exfalso; omega) | exact h.2.2.2
end Go.Proofs.YtdfmdgbolmbffaaGreat
