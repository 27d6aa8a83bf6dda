import Derived.Test.YtalkpddhpmjgcaaGreatCm28
import Derived.Test.YtalkpddhpmjgcaaGreatCm30
import Derived.Deep.Light
namespace Go.Proofs.YtalkpddhpmjgcaaGreat
open Go.ChangeShapes Go.WideShapes Go.ChangeAt Go.RowKit
set_option linter.unusedVariables false
def intIn : Option Value → Int
  | some (.int _ z) => z
  | _ => 0
/-- The form of an instruction. -/
def formOf (op : Int) : Int := intIn (infoOf op)[2]?
theorem infoOf_formOf (op : Int) : ∃ (s : ByteArray) (c : Int), infoOf op = #[.string s, .int .i64 c, .int .i64 (formOf op)] := by
  obtain ⟨s, c, f, h⟩ := infoOf_form op
  refine ⟨s, c, ?_⟩
  rw [h]
  have : formOf op = f := by unfold formOf; rw [h]; rfl
  rw [this]
theorem formOf_nat (k : Nat) (hk : k < 30) : (0 ≤ formOf k ∧ formOf k ≤ 11) ∧ (formOf k = 3 → k = 4 ∨ k = 5) ∧ (formOf k = 4 → k = 6 ∨ k = 7) := by
  have h : ∀ k : Fin 30, (0 ≤ formOf (k.val : Int) ∧ formOf (k.val : Int) ≤ 11) ∧ (formOf (k.val : Int) = 3 → k.val = 4 ∨ k.val = 5) ∧ (formOf (k.val : Int) = 4 → k.val = 6 ∨ k.val = 7) := by decide +kernel
  exact h ⟨k, hk⟩
/-- Which types a form of an instruction takes. -/
def takes (F t : Int) : Prop := (F = 5 ∧ (t = 2 ∨ t = 3)) ∨ (F = 6 ∧ (t = 1 ∨ t = 3)) ∨ (F = 7 ∧ isT t = true)
/-- The numbers of an instruction are what its form tells. -/
def FormOk (p : MP) (f : MF) (F op a b c : Int) : Prop :=
  (F = 0 ∧ a = 0 ∧ b = 0 ∧ c = 0) ∨ (F = 1 ∧ 0 ≤ a ∧ a < p.consts.length ∧ b = 0 ∧ c = 0) ∨ (F = 2 ∧ ¬ localOf f a = 0 ∧ b = 0 ∧ c = 0) ∨
  (F = 3 ∧ ¬ cellOf p a b = 0 ∧ c = 0 ∧ (op = 4 ∨ ¬ a = 0)) ∨ (F = 4 ∧ MaskOk p a b c ∧ (op = 6 ∨ ¬ a = 0)) ∨ (takes F a ∧ b = 0 ∧ c = 0) ∨
  (F = 8 ∧ isT a = true ∧ isT b = true ∧ ¬ a = b ∧ c = 0) ∨ (F = 9 ∧ a = 0 ∧ b = 0 ∧ 0 ≤ c ∧ c < f.code.length) ∨
  (F = 10 ∧ ¬ localOf f a = 0 ∧ b = 0 ∧ 0 ≤ c ∧ c < f.code.length) ∨ (F = 11 ∧ 0 ≤ a ∧ a < p.funcs.length ∧ b = 0 ∧ c = 0)
def InstrOk (p : MP) (f : MF) (x : MI) : Prop := 0 ≤ x.op ∧ x.op ≤ 29 ∧ FormOk p f (formOf x.op) x.op x.a x.b x.c
/-- The three blocks of a call of l3Instr. -/
structure In3 (w u : World) (v : VP) (g : VF) (f : MF) (op a b c : Int) : Prop where
  bel : Below w.heap.size w u
  prog : At4 u w.heap.size v.r v.k v.f v.t
  func : At4 u (w.heap.size + 1) g.p (.int .i64 f.result) g.l g.c
  ins : At4 u (w.heap.size + 1 + 1) (.int .i64 op) (.int .i64 a) (.int .i64 b) (.int .i64 c)
theorem In3.keep {w u u' : World} {v : VP} {g : VF} {f : MF} {op a b c : Int} (h : In3 w u v g f op a b c) (hb : Below u.heap.size u u') : In3 w u' v g f op a b c := ⟨below_on h.bel (Nat.le_refl _) hb, h.prog.keep hb, h.func.keep hb, h.ins.keep hb⟩
theorem In3.of (w : World) (v : VP) (g : VF) (f : MF) (op a b c : Int) : In3 w (((w.alloc (.cells #[v.r, v.k, v.f, v.t] 31)).alloc (.cells #[g.p, .int .i64 f.result, g.l, g.c] 86)).alloc (.cells #[.int .i64 op, .int .i64 a, .int .i64 b, .int .i64 c] 92)) v g f op a b c := by
  refine ⟨below_on (below_on (below_alloc _ _) (Nat.le_refl _) (below_alloc _ _)) (Nat.le_refl _) (below_alloc _ _), ((At4.new w _ _ _ _ _).alloc _).alloc _, ?_, ?_⟩
  · have := (At4.new (w.alloc (.cells #[v.r, v.k, v.f, v.t] 31)) g.p (.int .i64 f.result) g.l g.c 86).alloc (.cells #[.int .i64 op, .int .i64 a, .int .i64 b, .int .i64 c] 92)
    simpa using this
  · have := At4.new ((w.alloc (.cells #[v.r, v.k, v.f, v.t] 31)).alloc (.cells #[g.p, .int .i64 f.result, g.l, g.c] 86)) (.int .i64 op) (.int .i64 a) (.int .i64 b) (.int .i64 c) 92
    simpa using this
theorem l2Takes_any (F t : Int) (w : World) (hF : F = 5 ∨ F = 6 ∨ F = 7) : Calls Tryz.prog 75 #[.int .i64 F, .int .i64 t] w fun e w' => SaysIff e (takes F t) ∧ w' = w := by
  rcases hF with rfl | rfl | rfl
  · go_enter Tryz.func75, Tryz.ntmps75
    go_wp2
    all_goals (go_ret; refine ⟨SaysIff.of ?_, rfl⟩; go_light; simp_all [takes])
  · go_enter Tryz.func75, Tryz.ntmps75
    go_wp2
    all_goals (go_ret; refine ⟨SaysIff.of ?_, rfl⟩; go_light; simp_all [takes])
  · go_enter Tryz.func75, Tryz.ntmps75
    go_wp2_with fail
    refine (l2Type_any t _).mono ?_
    rintro e u ⟨rfl, rfl⟩
    go_wp2
    all_goals (go_ret; refine ⟨SaysIff.of ?_, rfl⟩; go_light; simp_all [takes])
theorem info_field (s : ByteArray) (co F : Int) (w : World) : (Instr.field 118 (.agg #[.string s, .int .i64 co, .int .i64 F]) 2).run Tryz.prog w = .ok (.int .i64 F) w := by kernel_rfl
set_option maxHeartbeats 4000000 in
set_option maxRecDepth 100000 in
theorem l3Instr_any (v : VP) (p : MP) (g : VF) (f : MF) (op a b c : Int) (w : World) (hs : p.small) (h3 : p.regions.length = 3) (hfs : f.small) (ha : W64 a) (hb : W64 b) (hc : W64 c) (h : RdP w v p) (hf : RdF w g f) :
    Calls Tryz.prog 47 #[.agg #[v.r, v.k, v.f, v.t], .agg #[g.p, .int .i64 f.result, g.l, g.c], .agg #[.int .i64 op, .int .i64 a, .int .i64 b, .int .i64 c]] w fun e w' => SaysIff e (InstrOk p f ⟨op, a, b, c⟩) ∧ Below w.heap.size w w' := by
  have H : Hid (p.small ∧ p.regions.length = 3 ∧ f.small ∧ W64 a ∧ W64 b ∧ W64 c ∧ RdP w v p ∧ RdF w g f) := ⟨hs, h3, hfs, ha, hb, hc, h, hf⟩
  have HI : Hid _ := In3.of w v g f op a b c
  obtain ⟨vr, vk, vf, vt⟩ := v
  obtain ⟨gp, gl, gc⟩ := g
  obtain ⟨r2, c2, ek⟩ : ∃ a c, vk = .slice a p.consts.length c := h.consts.is_slice
  obtain ⟨r3, c3, ef⟩ : ∃ a c, vf = .slice a p.funcs.length c := by obtain ⟨xs, h1, h2, h3⟩ := h.funcs; exact h2.is_slice
  obtain ⟨r4, c4, ec⟩ : ∃ a k, gc = .slice a f.code.length k := hf.2.2.is_slice
  subst ek ef ec
  have hz1 := hs.consts
  have hz2 := hs.funcs
  have hz3 := hfs.2.2
  obtain ⟨a0, a1⟩ := W64_in ha
  obtain ⟨b0, b1⟩ := W64_in hb
  obtain ⟨c0, c1⟩ := W64_in hc
  clear hs h3 hfs ha hb hc h hf
  by_cases q0 : op < 0
  · have HN : Hid (¬ InstrOk p f ⟨op, a, b, c⟩) := fun e => absurd e.1 (by dsimp only; omega)
    go_enter Tryz.func47, Tryz.ntmps47
    go_wp2
    go_ret
    exact ⟨.no HN.out, HI.out.bel⟩
  by_cases q1 : 29 < op
  · have HN : Hid (¬ InstrOk p f ⟨op, a, b, c⟩) := fun e => absurd e.2.1 (by dsimp only; omega)
    go_enter Tryz.func47, Tryz.ntmps47
    go_wp2
    go_ret
    exact ⟨.no HN.out, HI.out.bel⟩
  have HO : Hid (0 ≤ op ∧ op ≤ 29) := ⟨by omega, by omega⟩
  go_enter Tryz.func47, Tryz.ntmps47
  go_upto_region 3 with fail
  clear q0 q1
  go_cut [7] from 9 to 27 (fun s wx => s = .bool (decide (0 ≤ c ∧ c < (f.code.length : Int))) ∧ Hid (In3 w wx ⟨vr, .slice r2 p.consts.length c2, .slice r3 p.funcs.length c3, vt⟩ ⟨gp, gl, .slice r4 f.code.length c4⟩ f op a b c))
  case first =>
    by_cases q2 : c < 0
    · go_wp2_with fail
      go_meet
      exact ⟨by rw [show decide (0 ≤ c ∧ c < (f.code.length : Int)) = false from decide_eq_false (by omega)], HI⟩
    by_cases q3 : (f.code.length : Int) ≤ c
    · have q3' : ¬ c < (f.code.length : Int) := by omega
      go_wp2_with fail
      go_meet
      exact ⟨by rw [show decide (0 ≤ c ∧ c < (f.code.length : Int)) = false from decide_eq_false (by omega)], HI⟩
    · have q3' : c < (f.code.length : Int) := by omega
      go_wp2_with fail
      go_meet
      exact ⟨by rw [show decide (0 ≤ c ∧ c < (f.code.length : Int)) = true from decide_eq_true (by omega)], HI⟩
  case rest =>
  obtain ⟨rfl, HI2⟩ := hcut
  clear HI
  obtain ⟨i0, i1, i2, i3⟩ := HI2.out.ins
  go_wp2_with fail
  clear i0 i1 i2 i3
  refine (SInfo_any op _).mono ?_
  rintro e u ⟨rfl, bl⟩
  have HJ : Hid (In3 w u ⟨vr, .slice r2 p.consts.length c2, .slice r3 p.funcs.length c3, vt⟩ ⟨gp, gl, .slice r4 f.code.length c4⟩ f op a b c) := HI2.out.keep bl
  clear HI2 bl
  obtain ⟨s, co, hinf⟩ := infoOf_formOf op
  rw [hinf]
  clear hinf
  have HIF : Hid (InstrOk p f ⟨op, a, b, c⟩ ↔ FormOk p f (formOf op) op a b c) := ⟨fun e => e.2.2, fun e => ⟨HO.out.1, HO.out.2, e⟩⟩
  have hF : 0 ≤ formOf op ∧ formOf op ≤ 11 := by
    obtain ⟨k, rfl⟩ := Int.eq_ofNat_of_zero_le HO.out.1
    exact (formOf_nat k (by have := HO.out.2; omega)).1
  generalize hFF : formOf op = F at *
  clear hFF
  obtain ⟨f0, f1⟩ := hF
  generalize hn1 : p.consts.length = n1 at *
  generalize hn2 : p.funcs.length = n2 at *
  generalize hn3 : f.code.length = n3 at *
  have HL : Hid (p.consts.length = n1 ∧ p.funcs.length = n2 ∧ f.code.length = n3) := ⟨hn1, hn2, hn3⟩
  clear hn1 hn2 hn3
  obtain ⟨p0, p1, p2, p3⟩ := HJ.out.prog
  obtain ⟨i0, i1, i2, i3⟩ := HJ.out.ins
  obtain ⟨g0, g1, g2, g3⟩ := HJ.out.func
  simp only [] at p0 p1 p2 p3 g0 g1 g2 g3
  have hfd := info_field s co F
  by_cases F0 : F = 0
  · subst F0
    go_wp2_with fail
    all_goals (go_ret; refine ⟨SaysIff.of ?_, HJ.out.bel⟩; rw [HIF.out]; obtain ⟨l1, l2, l3⟩ := HL.out; go_light; simp_all [FormOk, takes] <;> omega)
  by_cases F1 : F = 1
  · subst F1
    go_wp2_with fail
    all_goals (go_ret; refine ⟨SaysIff.of ?_, HJ.out.bel⟩; rw [HIF.out]; obtain ⟨l1, l2, l3⟩ := HL.out; go_light; simp_all [FormOk, takes] <;> omega)
  by_cases F9 : F = 9
  · subst F9
    go_wp2_with fail
    all_goals (go_ret; refine ⟨SaysIff.of ?_, HJ.out.bel⟩; rw [HIF.out]; obtain ⟨l1, l2, l3⟩ := HL.out; go_light; simp_all [FormOk, takes] <;> omega)
  by_cases F11 : F = 11
  · subst F11
    go_wp2_with fail
    all_goals (go_ret; refine ⟨SaysIff.of ?_, HJ.out.bel⟩; rw [HIF.out]; obtain ⟨l1, l2, l3⟩ := HL.out; go_light; simp_all [FormOk, takes] <;> omega)
  by_cases F2 : F = 2
  · subst F2
    go_wp2_with fail
    refine (l3Local_any ⟨gp, gl, .slice r4 n3 c4⟩ f a _ H.out.2.2.1 H.out.2.2.2.1 ((H.out.2.2.2.2.2.2.2).keep HJ.out.bel (Nat.le_refl _))).mono ?_
    rintro e u2 ⟨rfl, bl2⟩
    have HK : Hid (In3 w u2 ⟨vr, .slice r2 n1 c2, .slice r3 n2 c3, vt⟩ ⟨gp, gl, .slice r4 n3 c4⟩ f op a b c) := HJ.out.keep bl2
    clear bl2
    clear p0 p1 p2 p3 i0 i1 i2 i3 g0 g1 g2 g3
    obtain ⟨i0, i1, i2, i3⟩ := HK.out.ins
    generalize hT : localOf f a = T
    have HT : Hid (localOf f a = T) := hT
    clear hT
    go_wp2_with fail
    all_goals (go_ret; refine ⟨SaysIff.of ?_, HK.out.bel⟩; rw [HIF.out]; obtain ⟨l1, l2, l3⟩ := HL.out; go_light; have lt := HT.out; simp_all [FormOk, takes] <;> omega)
  by_cases F10 : F = 10
  · subst F10
    go_wp2_with fail
    refine (l3Local_any ⟨gp, gl, .slice r4 n3 c4⟩ f a _ H.out.2.2.1 H.out.2.2.2.1 ((H.out.2.2.2.2.2.2.2).keep HJ.out.bel (Nat.le_refl _))).mono ?_
    rintro e u2 ⟨rfl, bl2⟩
    have HK : Hid (In3 w u2 ⟨vr, .slice r2 n1 c2, .slice r3 n2 c3, vt⟩ ⟨gp, gl, .slice r4 n3 c4⟩ f op a b c) := HJ.out.keep bl2
    clear bl2
    clear p0 p1 p2 p3 i0 i1 i2 i3 g0 g1 g2 g3
    obtain ⟨i0, i1, i2, i3⟩ := HK.out.ins
    generalize hT : localOf f a = T
    have HT : Hid (localOf f a = T) := hT
    clear hT
    go_wp2_with fail
    all_goals (go_ret; refine ⟨SaysIff.of ?_, HK.out.bel⟩; rw [HIF.out]; obtain ⟨l1, l2, l3⟩ := HL.out; go_light; have lt := HT.out; simp_all [FormOk, takes] <;> omega)
  by_cases F3 : F = 3
  · subst F3
    go_wp2_with fail
    refine (l3Cell_any ⟨vr, .slice r2 n1 c2, .slice r3 n2 c3, vt⟩ p a b _ H.out.1 H.out.2.1 H.out.2.2.2.1 H.out.2.2.2.2.1 ((H.out.2.2.2.2.2.2.1).keep HJ.out.bel (Nat.le_refl _))).mono ?_
    rintro e u2 ⟨rfl, bl2⟩
    have HK : Hid (In3 w u2 ⟨vr, .slice r2 n1 c2, .slice r3 n2 c3, vt⟩ ⟨gp, gl, .slice r4 n3 c4⟩ f op a b c) := HJ.out.keep bl2
    clear bl2
    clear p0 p1 p2 p3 i0 i1 i2 i3 g0 g1 g2 g3
    obtain ⟨i0, i1, i2, i3⟩ := HK.out.ins
    generalize hT : cellOf p a b = T
    have HT : Hid (cellOf p a b = T) := hT
    clear hT
    go_wp2_with fail
    all_goals (go_ret; refine ⟨SaysIff.of ?_, HK.out.bel⟩; rw [HIF.out]; obtain ⟨l1, l2, l3⟩ := HL.out; go_light; have lt := HT.out; simp_all [FormOk, takes] <;> omega)
  by_cases F4 : F = 4
  · subst F4
    go_wp2_with fail
    refine (l3Mask_any ⟨vr, .slice r2 n1 c2, .slice r3 n2 c3, vt⟩ p op a b c _ H.out.1 H.out.2.1 H.out.2.2.2.1 H.out.2.2.2.2.1 H.out.2.2.2.2.2.1 ((H.out.2.2.2.2.2.2.1).keep HJ.out.bel (Nat.le_refl _))).mono ?_
    rintro e u2 ⟨⟨bm, rfl, hbm⟩, bl2⟩
    have HK : Hid (In3 w u2 ⟨vr, .slice r2 n1 c2, .slice r3 n2 c3, vt⟩ ⟨gp, gl, .slice r4 n3 c4⟩ f op a b c) := HJ.out.keep bl2
    clear bl2
    clear p0 p1 p2 p3 i0 i1 i2 i3 g0 g1 g2 g3
    obtain ⟨i0, i1, i2, i3⟩ := HK.out.ins
    cases bm
    · have HT : Hid (¬ MaskOk p a b c) := fun e => by simp [e] at hbm
      clear hbm
      go_wp2_with fail
      all_goals (go_ret; refine ⟨SaysIff.of ?_, HK.out.bel⟩; rw [HIF.out]; obtain ⟨l1, l2, l3⟩ := HL.out; go_light; have lt := HT.out; simp_all [FormOk, takes] <;> omega)
    · have HT : Hid (MaskOk p a b c) := hbm.1 rfl
      clear hbm
      go_wp2_with fail
      all_goals (go_ret; refine ⟨SaysIff.of ?_, HK.out.bel⟩; rw [HIF.out]; obtain ⟨l1, l2, l3⟩ := HL.out; go_light; have lt := HT.out; simp_all [FormOk, takes] <;> omega)
  by_cases F8 : F = 8
  · subst F8
    go_wp2_with fail
    refine (l2Type_any a _).mono ?_
    rintro e u2 ⟨rfl, rfl⟩
    cases t1 : isT a
    · go_wp2_with fail
      all_goals (go_ret; refine ⟨SaysIff.of ?_, HJ.out.bel⟩; rw [HIF.out]; obtain ⟨l1, l2, l3⟩ := HL.out; go_light; simp_all [FormOk, takes] <;> omega)
    go_wp2_with fail
    refine (l2Type_any b _).mono ?_
    rintro e u2 ⟨rfl, rfl⟩
    cases t2 : isT b
    all_goals
      go_wp2_with fail
      all_goals (go_ret; refine ⟨SaysIff.of ?_, HJ.out.bel⟩; rw [HIF.out]; obtain ⟨l1, l2, l3⟩ := HL.out; go_light; simp_all [FormOk, takes] <;> omega)
  go_wp2_with fail
  refine (l2Takes_any F a _ (by omega)).mono ?_
  rintro e u2 ⟨⟨bm, rfl, hbm⟩, rfl⟩
  cases bm
  · have HT : Hid (¬ takes F a) := fun e => by simp [e] at hbm
    clear hbm
    go_wp2_with fail
    all_goals (go_ret; refine ⟨SaysIff.of ?_, HJ.out.bel⟩; rw [HIF.out]; obtain ⟨l1, l2, l3⟩ := HL.out; go_light; have lt := HT.out; simp_all [FormOk] <;> omega)
  · have HT : Hid (takes F a) := hbm.1 rfl
    clear hbm
    go_wp2_with fail
    all_goals (go_ret; refine ⟨SaysIff.of ?_, HJ.out.bel⟩; rw [HIF.out]; obtain ⟨l1, l2, l3⟩ := HL.out; go_light; have lt := HT.out; simp_all [FormOk] <;> omega)
end Go.Proofs.YtalkpddhpmjgcaaGreat
