import Derived.Test.YtalkpddhpmjgcaaGreatCm38
namespace Go.Proofs.YtalkpddhpmjgcaaGreat
open Go.ChangeShapes Go.WideShapes Go.ChangeAt Go.RowKit
set_option linter.unusedVariables false
/-- Lists of cells, each with room for itself. -/
def RdRc (w : World) (s : Value) (rs : List (List Int)) : Prop := ∃ xs : List (List Int × Value), xs.map Prod.fst = rs ∧ Rd w 1 s rs.length (xs.flatMap rCells) ∧ ∀ x ∈ xs, Rd w 1 x.2 x.1.length (x.1.flatMap intCell) ∧ ∃ a c, x.2 = .slice a x.1.length c ∧ x.1.length ≤ c
theorem RdRc.rd {w : World} {s : Value} {rs : List (List Int)} (h : RdRc w s rs) : RdR w s rs := by
  obtain ⟨xs, h1, h2, h3⟩ := h
  exact ⟨xs, h1, h2, fun x hx => (h3 x hx).1⟩
theorem RdRc.keep {w w' : World} {s : Value} {rs : List (List Int)} (h : RdRc w s rs) {B : Nat} (hb : Below B w w') (hB : w.heap.size ≤ B) : RdRc w' s rs := by
  obtain ⟨xs, h1, h2, h3⟩ := h
  exact ⟨xs, h1, h2.keep hb hB, fun x hx => ⟨(h3 x hx).1.keep hb hB, (h3 x hx).2⟩⟩
/-- A piece of what is read. -/
theorem Rd.drop {w : World} {g o n c c' : Nat} {xs : List Int} (h : ∀ j u, (xs.flatMap intCell)[j]? = some u → w.cell? ⟨g, o + j, none⟩ = some u) (b : Nat) (hb : b < xs.length) : Rd w 1 (.slice (some ⟨g, o + b, none⟩) (xs.length - b) c') (xs.drop b).length ((xs.drop b).flatMap intCell) := by
  refine ⟨by rw [flat_length intCell 1 intCell_length], .inr ⟨g, o + b, c', by rw [List.length_drop], fun j u hj => ?_⟩⟩
  have hl : j < (xs.drop b).length := by
    have := (List.getElem?_eq_some_iff.1 hj).1
    rw [flat_length intCell 1 intCell_length, Nat.mul_one] at this
    exact this
  have e1 := flat_at intCell 1 intCell_length (xs.drop b) j 0 _ (List.getElem?_eq_getElem hl) (by omega)
  rw [Nat.mul_one, Nat.add_zero] at e1
  rw [e1] at hj
  have hl' : b + j < xs.length := by rw [List.length_drop] at hl; omega
  have e2 := flat_at intCell 1 intCell_length xs (b + j) 0 _ (List.getElem?_eq_getElem hl') (by omega)
  rw [Nat.mul_one, Nat.add_zero] at e2
  rw [Nat.add_assoc]
  refine h (b + j) u ?_
  rw [e2]
  rw [List.getElem_drop] at hj
  exact hj
structure In2 (w u : World) (v : VP) (g : VF) (f : MF) (op a b c : Int) : Prop where
  bel : Below w.heap.size w u
  scope : At8 u w.heap.size v.r v.k v.f v.t g.p (.int .i64 f.result) g.l g.c
  ins : At4 u (w.heap.size + 1) (.int .i64 op) (.int .i64 a) (.int .i64 b) (.int .i64 c)
theorem In2.keep {w u u' : World} {v : VP} {g : VF} {f : MF} {op a b c : Int} (h : In2 w u v g f op a b c) (hb : Below u.heap.size u u') : In2 w u' v g f op a b c := ⟨below_on h.bel (Nat.le_refl _) hb, h.scope.keep hb, h.ins.keep hb⟩
theorem In2.of (w : World) (v : VP) (g : VF) (f : MF) (op a b c : Int) : In2 w ((w.alloc (.cells #[v.r, v.k, v.f, v.t, g.p, .int .i64 f.result, g.l, g.c] 144)).alloc (.cells #[.int .i64 op, .int .i64 a, .int .i64 b, .int .i64 c] 92)) v g f op a b c := by
  refine ⟨below_on (below_alloc _ _) (Nat.le_refl _) (below_alloc _ _), (At8.new w _ _ _ _ _ _ _ _ _).alloc _, ?_⟩
  have := At4.new (w.alloc (.cells #[v.r, v.k, v.f, v.t, g.p, .int .i64 f.result, g.l, g.c] 144)) (.int .i64 op) (.int .i64 a) (.int .i64 b) (.int .i64 c) 92
  simpa using this
set_option maxHeartbeats 4000000 in
set_option maxRecDepth 100000 in
theorem holds_any (v : VP) (p : MP) (g : VF) (f : MF) (op a b c : Int) (w : World) (hs : p.small) (hp : RegionsOk p.regions) (hfo : FuncOk f) (hfs : f.small) (ha : W64 a) (hb : W64 b) (hc : W64 c) (h : RdP w v p) (hcap : RdRc w v.r p.regions) (hf : RdF w g f) :
    Calls Tryz.prog 84 #[.agg #[v.r, v.k, v.f, v.t, g.p, .int .i64 f.result, g.l, g.c], .agg #[.int .i64 op, .int .i64 a, .int .i64 b, .int .i64 c]] w fun e w' => SaysIff e (InstrOk p f ⟨op, a, b, c⟩) ∧ Below w.heap.size w w' := by
  have H : Hid (p.small ∧ RegionsOk p.regions ∧ f.small ∧ FuncOk f ∧ RdP w v p ∧ RdF w g f ∧ RdRc w v.r p.regions) := ⟨hs, hp, hfs, hfo, h, hf, hcap⟩
  have HI : Hid _ := In2.of w v g f op a b c
  obtain ⟨vr, vk, vf, vt⟩ := v
  obtain ⟨gp, gl, gc⟩ := g
  obtain ⟨r2, c2, ek⟩ : ∃ a c, vk = .slice a p.consts.length c := h.consts.is_slice
  obtain ⟨r3, c3, ef⟩ : ∃ a c, vf = .slice a p.funcs.length c := by obtain ⟨xs, h1, h2, h3⟩ := h.funcs; exact h2.is_slice
  obtain ⟨r4, c4, ec⟩ : ∃ a k, gc = .slice a f.code.length k := hf.2.2.is_slice
  subst ek ef ec
  have hz1 := hs.consts
  have hz2 := hs.funcs
  have hz3 := hfs.2.2
  obtain ⟨a0, a1⟩ := W64_in ha
  obtain ⟨b0, b1⟩ := W64_in hb
  obtain ⟨c0, c1⟩ := W64_in hc
  clear hs hp hfo hfs ha hb hc h hf hcap
  by_cases q0 : 0 ≤ op ∧ op < 30
  · have HO : Hid (0 ≤ op ∧ op ≤ 29) := ⟨by omega, by omega⟩
    have hit : decide (0 ≤ op ∧ op < 30) = true := decide_eq_true q0
    clear q0
    go_enter Tryz.func84, Tryz.ntmps84
    go_wp2_with fail
    refine (isOneOf_any op 30 _).mono ?_
    rintro e u ⟨rfl, rfl⟩
    rw [hit]
    go_wp2_with fail
    refine (Info_any op _).mono ?_
    rintro e u ⟨rfl, bl⟩
    have HJ : Hid (In2 w u ⟨vr, .slice r2 p.consts.length c2, .slice r3 p.funcs.length c3, vt⟩ ⟨gp, gl, .slice r4 f.code.length c4⟩ f op a b c) := HI.out.keep bl
    clear HI bl hit
    obtain ⟨s, co, hinf⟩ := infoOf_formOf op
    rw [hinf]
    clear hinf
    have HIF : Hid (InstrOk p f ⟨op, a, b, c⟩ ↔ FormOk p f (formOf op) op a b c) := ⟨fun e => e.2.2, fun e => ⟨HO.out.1, HO.out.2, e⟩⟩
    have hF : (0 ≤ formOf op ∧ formOf op ≤ 11) ∧ (formOf op = 3 → op = 4 ∨ op = 5) ∧ (formOf op = 4 → op = 6 ∨ op = 7) := by
      obtain ⟨k, rfl⟩ := Int.eq_ofNat_of_zero_le HO.out.1
      have := formOf_nat k (by have := HO.out.2; omega)
      exact ⟨this.1, fun e => by have := this.2.1 e; omega, fun e => by have := this.2.2 e; omega⟩
    generalize hFF : formOf op = F at *
    clear hFF
    obtain ⟨⟨f0, f1⟩, h34⟩ := hF
    have HF34 : Hid ((F = 3 → op = 4 ∨ op = 5) ∧ (F = 4 → op = 6 ∨ op = 7)) := h34
    clear h34
    generalize hn1 : p.consts.length = n1 at *
    generalize hn2 : p.funcs.length = n2 at *
    generalize hn3 : f.code.length = n3 at *
    have HL : Hid (p.consts.length = n1 ∧ p.funcs.length = n2 ∧ f.code.length = n3) := ⟨hn1, hn2, hn3⟩
    clear hn1 hn2 hn3
    obtain ⟨p0, p1, p2, p3, g0, g1, g2, g3⟩ := HJ.out.scope
    obtain ⟨i0, i1, i2, i3⟩ := HJ.out.ins
    simp only [] at p0 p1 p2 p3 g0 g1 g2 g3
    have hfd := info_field s co F
    by_cases F1 : F = 1
    · subst F1
      go_wp2_with fail
      refine (isOneOf_any a (n1 : Int) _).mono ?_
      rintro e u2 ⟨rfl, rfl⟩
      by_cases q1 : 0 ≤ a ∧ a < (n1 : Int)
      · rw [decide_eq_true q1]
        obtain ⟨q2, q3⟩ := q1
        go_wp2_with fail
        all_goals (go_ret; refine ⟨SaysIff.of ?_, HJ.out.bel⟩; rw [HIF.out]; obtain ⟨l1, l2, l3⟩ := HL.out; go_light; simp_all [FormOk, takes] <;> omega)
      · rw [decide_eq_false q1]
        have q1' : 0 ≤ a → (n1 : Int) ≤ a := fun e => by omega
        clear q1
        go_wp2_with fail
        all_goals (go_ret; refine ⟨SaysIff.of ?_, HJ.out.bel⟩; rw [HIF.out]; obtain ⟨l1, l2, l3⟩ := HL.out; go_light; simp_all [FormOk, takes] <;> omega)
    by_cases F11 : F = 11
    · subst F11
      go_wp2_with fail
      refine (isOneOf_any a (n2 : Int) _).mono ?_
      rintro e u2 ⟨rfl, rfl⟩
      by_cases q1 : 0 ≤ a ∧ a < (n2 : Int)
      · rw [decide_eq_true q1]
        obtain ⟨q2, q3⟩ := q1
        go_wp2_with fail
        all_goals (go_ret; refine ⟨SaysIff.of ?_, HJ.out.bel⟩; rw [HIF.out]; obtain ⟨l1, l2, l3⟩ := HL.out; go_light; simp_all [FormOk, takes] <;> omega)
      · rw [decide_eq_false q1]
        have q1' : 0 ≤ a → (n2 : Int) ≤ a := fun e => by omega
        clear q1
        go_wp2_with fail
        all_goals (go_ret; refine ⟨SaysIff.of ?_, HJ.out.bel⟩; rw [HIF.out]; obtain ⟨l1, l2, l3⟩ := HL.out; go_light; simp_all [FormOk, takes] <;> omega)
    by_cases F9 : F = 9
    · subst F9
      by_cases qa : a = 0
      · have qa' : (a == 0) = true := by simpa using qa
        by_cases qb : b = 0
        · have qb' : (b == 0) = true := by simpa using qb
          have HQ : Hid (a = 0 ∧ b = 0) := ⟨qa, qb⟩
          clear qa qb
          go_wp2_with fail
          refine (isOneOf_any c (n3 : Int) _).mono ?_
          rintro e u2 ⟨rfl, rfl⟩
          go_wp2_with fail
          all_goals (go_ret; refine ⟨SaysIff.of ?_, HJ.out.bel⟩; rw [HIF.out]; obtain ⟨l1, l2, l3⟩ := HL.out; obtain ⟨l4, l5⟩ := HQ.out; go_light; simp_all [FormOk, takes] <;> omega)
        · have qb' : (b == 0) = false := by simpa using qb
          have HQ : Hid (¬ b = 0) := qb
          clear qb qa
          go_wp2_with fail
          all_goals (go_ret; refine ⟨SaysIff.of ?_, HJ.out.bel⟩; rw [HIF.out]; obtain ⟨l1, l2, l3⟩ := HL.out; have l4 := HQ.out; go_light; simp_all [FormOk, takes] <;> omega)
      · have qa' : (a == 0) = false := by simpa using qa
        have HQ : Hid (¬ a = 0) := qa
        clear qa
        go_wp2_with fail
        all_goals (go_ret; refine ⟨SaysIff.of ?_, HJ.out.bel⟩; rw [HIF.out]; obtain ⟨l1, l2, l3⟩ := HL.out; have l4 := HQ.out; go_light; simp_all [FormOk, takes] <;> omega)
    by_cases F8 : F = 8
    · subst F8
      go_wp2_with fail
      refine (isType_any a _).mono ?_
      rintro e u2 ⟨rfl, rfl⟩
      cases t1 : isT a
      · go_wp2_with fail
        all_goals (go_ret; refine ⟨SaysIff.of ?_, HJ.out.bel⟩; rw [HIF.out]; obtain ⟨l1, l2, l3⟩ := HL.out; go_light; simp_all [FormOk, takes] <;> omega)
      go_wp2_with fail
      refine (isType_any b _).mono ?_
      rintro e u2 ⟨rfl, rfl⟩
      cases t2 : isT b
      all_goals
        go_wp2_with fail
        all_goals (go_ret; refine ⟨SaysIff.of ?_, HJ.out.bel⟩; rw [HIF.out]; obtain ⟨l1, l2, l3⟩ := HL.out; go_light; simp_all [FormOk, takes] <;> omega)
    by_cases F2 : F = 2
    · subst F2
      go_wp2_with fail
      refine (hasLocal_any vr (.slice r2 n1 c2) (.slice r3 n2 c3) vt ⟨gp, gl, .slice r4 n3 c4⟩ f a _ H.out.2.2.1 (H.out.2.2.2.2.2.1.keep HJ.out.bel (Nat.le_refl _))).mono ?_
      rintro e u2 ⟨⟨bh, rfl, hbh⟩, bl2⟩
      have HK : Hid (In2 w u2 ⟨vr, .slice r2 n1 c2, .slice r3 n2 c3, vt⟩ ⟨gp, gl, .slice r4 n3 c4⟩ f op a b c) := HJ.out.keep bl2
      clear bl2
      clear p0 p1 p2 p3 i0 i1 i2 i3 g0 g1 g2 g3
      obtain ⟨i0, i1, i2, i3⟩ := HK.out.ins
      rw [hasLocal_iff H.out.2.2.2.1] at hbh
      cases bh
      · have HT : Hid (localOf f a = 0) := Classical.byContradiction fun e => absurd (hbh.2 e) Bool.false_ne_true
        clear hbh
        go_wp2_with fail
        all_goals (go_ret; refine ⟨SaysIff.of ?_, HK.out.bel⟩; rw [HIF.out]; obtain ⟨l1, l2, l3⟩ := HL.out; have lt := HT.out; go_light; simp_all [FormOk, takes] <;> omega)
      · have HT : Hid (¬ localOf f a = 0) := hbh.1 rfl
        clear hbh
        go_wp2_with fail
        all_goals (go_ret; refine ⟨SaysIff.of ?_, HK.out.bel⟩; rw [HIF.out]; obtain ⟨l1, l2, l3⟩ := HL.out; have lt := HT.out; go_light; simp_all [FormOk, takes] <;> omega)
    by_cases F10 : F = 10
    · subst F10
      go_wp2_with fail
      refine (hasLocal_any vr (.slice r2 n1 c2) (.slice r3 n2 c3) vt ⟨gp, gl, .slice r4 n3 c4⟩ f a _ H.out.2.2.1 (H.out.2.2.2.2.2.1.keep HJ.out.bel (Nat.le_refl _))).mono ?_
      rintro e u2 ⟨⟨bh, rfl, hbh⟩, bl2⟩
      have HK : Hid (In2 w u2 ⟨vr, .slice r2 n1 c2, .slice r3 n2 c3, vt⟩ ⟨gp, gl, .slice r4 n3 c4⟩ f op a b c) := HJ.out.keep bl2
      clear bl2
      clear p0 p1 p2 p3 i0 i1 i2 i3 g0 g1 g2 g3
      obtain ⟨i0, i1, i2, i3⟩ := HK.out.ins
      rw [hasLocal_iff H.out.2.2.2.1] at hbh
      obtain ⟨_, _, _, _, _, _, _, g3⟩ := HK.out.scope
      simp only [] at g3
      cases bh
      · have HT : Hid (localOf f a = 0) := Classical.byContradiction fun e => absurd (hbh.2 e) Bool.false_ne_true
        clear hbh
        go_wp2_with fail
        all_goals (go_ret; refine ⟨SaysIff.of ?_, HK.out.bel⟩; rw [HIF.out]; obtain ⟨l1, l2, l3⟩ := HL.out; have lt := HT.out; go_light; simp_all [FormOk, takes] <;> omega)
      · have HT : Hid (¬ localOf f a = 0) := hbh.1 rfl
        clear hbh
        by_cases qb : b = 0
        · have qb' : (b == 0) = true := by simpa using qb
          have HQ : Hid (b = 0) := qb
          clear qb
          go_wp2_with fail
          refine (isOneOf_any c (n3 : Int) _).mono ?_
          rintro e u3 ⟨rfl, rfl⟩
          go_wp2_with fail
          all_goals (go_ret; refine ⟨SaysIff.of ?_, HK.out.bel⟩; rw [HIF.out]; obtain ⟨l1, l2, l3⟩ := HL.out; have lt := HT.out; have l4 := HQ.out; go_light; simp_all [FormOk, takes] <;> omega)
        · have qb' : (b == 0) = false := by simpa using qb
          have HQ : Hid (¬ b = 0) := qb
          clear qb
          go_wp2_with fail
          all_goals (go_ret; refine ⟨SaysIff.of ?_, HK.out.bel⟩; rw [HIF.out]; obtain ⟨l1, l2, l3⟩ := HL.out; have lt := HT.out; have l4 := HQ.out; go_light; simp_all [FormOk, takes] <;> omega)
    by_cases F3 : F = 3
    · subst F3
      have ho := HF34.out.1 rfl
      have hci := cellHolds_iff H.out.2.1 op a b (by omega)
      have HO2 : Hid ((op = 4 ∨ op = 5) ∧ (CellHolds p op a b ↔ ¬ cellOf p a b = 0 ∧ ((op = 4 ∨ op = 6) ∨ ¬ a = 0))) := ⟨ho, hci⟩
      clear ho hci
      go_wp2_with fail
      refine (cellHolds_any ⟨vr, .slice r2 n1 c2, .slice r3 n2 c3, vt⟩ p gp (.int .i64 f.result) gl (.slice r4 n3 c4) op a b c _ H.out.1 H.out.2.1.1 (H.out.2.2.2.2.1.keep HJ.out.bel (Nat.le_refl _))).mono ?_
      rintro e u2 ⟨⟨bh, rfl, hbh⟩, bl2⟩
      have HK : Hid (In2 w u2 ⟨vr, .slice r2 n1 c2, .slice r3 n2 c3, vt⟩ ⟨gp, gl, .slice r4 n3 c4⟩ f op a b c) := HJ.out.keep bl2
      clear bl2
      clear p0 p1 p2 p3 i0 i1 i2 i3 g0 g1 g2 g3
      obtain ⟨i0, i1, i2, i3⟩ := HK.out.ins
      rw [HO2.out.2] at hbh
      cases bh
      · have HN : Hid (¬ InstrOk p f ⟨op, a, b, c⟩) := fun e => by
          have := HIF.out.1 e
          have ho := HO2.out.1
          go_light
          simp [FormOk, takes] at this
          have h5 : (op = 4 ∨ op = 6) ∨ ¬ a = 0 := by omega
          simp [this.1, h5] at hbh
        clear hbh
        go_wp2_with fail
        all_goals (go_ret; exact ⟨.no HN.out, HK.out.bel⟩)
      · have HT : Hid (¬ cellOf p a b = 0 ∧ (op = 4 ∨ ¬ a = 0)) := ⟨(hbh.1 rfl).1, by have := (hbh.1 rfl).2; have := HO2.out.1; omega⟩
        clear hbh
        go_wp2_with fail
        all_goals (go_ret; refine ⟨SaysIff.of ?_, HK.out.bel⟩; rw [HIF.out]; obtain ⟨l1, l2, l3⟩ := HL.out; have lt := HT.out; go_light; simp_all [FormOk, takes] <;> omega)
    by_cases F4 : F = 4
    · subst F4
      have ho := HF34.out.2 rfl
      have hci := cellHolds_iff H.out.2.1 op a b (by omega)
      have HO2 : Hid ((op = 6 ∨ op = 7) ∧ (CellHolds p op a b ↔ ¬ cellOf p a b = 0 ∧ ((op = 4 ∨ op = 6) ∨ ¬ a = 0))) := ⟨ho, hci⟩
      clear ho hci
      have inst := Grown.some u
      have P0 := fun n : Grown u => Grown.cell p0 n
      have P1 := fun n : Grown u => Grown.cell p1 n
      have P2 := fun n : Grown u => Grown.cell p2 n
      have P3 := fun n : Grown u => Grown.cell p3 n
      have G0 := fun n : Grown u => Grown.cell g0 n
      have G1 := fun n : Grown u => Grown.cell g1 n
      have G2 := fun n : Grown u => Grown.cell g2 n
      have G3 := fun n : Grown u => Grown.cell g3 n
      have I0 := fun n : Grown u => Grown.cell i0 n
      have I1 := fun n : Grown u => Grown.cell i1 n
      have I2 := fun n : Grown u => Grown.cell i2 n
      have I3 := fun n : Grown u => Grown.cell i3 n
      by_cases hch : CellHolds p op a b
      · have HCT : Hid (CellHolds p op a b) := hch
        have HCH : Hid (¬ cellOf p a b = 0 ∧ (op = 6 ∨ ¬ a = 0)) := ⟨(HO2.out.2.1 hch).1, by have := (HO2.out.2.1 hch).2; have := HO2.out.1; omega⟩
        obtain ⟨l, z0, z1, z2, z3, _⟩ := hch
        obtain ⟨i, rfl⟩ := Int.eq_ofNat_of_zero_le z0
        obtain ⟨j, rfl⟩ := Int.eq_ofNat_of_zero_le z2
        rw [Int.toNat_natCast] at z1
        have hjl : j < l.length := by omega
        have HMI : Hid (MaskIn (l.drop j) c ↔ MaskOk p i j c) := maskIn_iff H.out.2.1 z1 hjl c
        obtain ⟨xs, hxs, hrd, hel⟩ := H.out.2.2.2.2.2.2
        obtain ⟨⟨l', y⟩, hx⟩ : ∃ x, xs[i]? = some x := ⟨_, List.getElem?_eq_getElem (by have := (List.getElem?_eq_some_iff.1 z1).1; rw [← hxs] at this; simpa using this)⟩
        have e1 := fst_at hxs hx
        simp only [] at e1
        obtain rfl : l' = l := by rw [z1] at e1; exact (Option.some.inj e1).symm
        obtain ⟨hy, ay, cy, ey, hcy⟩ := hel _ (List.mem_of_getElem? hx)
        simp only [] at hy ey hcy
        subst ey
        have hll := H.out.1.region _ (List.mem_of_getElem? z1)
        have hi3 : i < 3 := by have := (List.getElem?_eq_some_iff.1 z1).1; have := H.out.2.1.1; omega
        rw [H.out.2.1.1] at hrd
        rcases hrd.2 with ⟨e0, _⟩ | ⟨gg, o, cc, e2, hc1⟩
        · omega
        subst e2
        have k0 := Rd.elem rCells_length hc1 i _ hx 0 _ rfl
        rw [Nat.mul_one, Nat.add_zero] at k0
        simp only [] at k0
        rw [← HJ.out.bel.cell (block_lt_of_cell k0)] at k0
        rcases hy.2 with ⟨e0, _⟩ | ⟨g2, o2, c5, e3, hc2⟩
        · omega
        simp only [Value.slice.injEq, true_and] at e3
        obtain ⟨rfl, rfl⟩ := e3
        have HRD : Hid (Rd u 1 (.slice (some ⟨g2, o2 + j, none⟩) (l'.length - j) (cy - j)) (l'.drop j).length ((l'.drop j).flatMap intCell)) := (Rd.drop (n := 0) (c := 0) hc2 j hjl).keep HJ.out.bel (Nat.le_refl _)
        clear hc1 hc2 hx hel hrd hxs hy e1
        have K0 := fun n : Grown u => Grown.cell k0 n
        have y1 : (j : Int) ≤ (l'.length : Int) := by omega
        have y2 : (l'.length : Int) ≤ (cy : Int) := by omega
        have y3 : (i : Int) < 3 := by omega
        by_cases hmk : MaskIn (l'.drop j) c
        · have HMK : Hid (MaskIn (l'.drop j) c) := hmk
          have HY : Hid (InstrOk p f ⟨op, (i : Int), (j : Int), c⟩) := HIF.out.2 (.inr (.inr (.inr (.inr (.inl ⟨rfl, HMI.out.1 hmk, HCH.out.2⟩)))))
          clear hmk
          go_wp2_with fail
          refine wp_region_grown (by kernel_rfl) (by kernel_rfl) ?_
          repeat (go_big_quiet_step ((first | (go_at_call 97; rename_i n; exact (cellHolds_any ⟨.slice (some ⟨gg, o, none⟩) 3 cc, .slice r2 n1 c2, .slice r3 n2 c3, vt⟩ p gp (.int .i64 f.result) gl (.slice r4 n3 c4) op (i : Int) (j : Int) c n.u H.out.1 H.out.2.1.1 (H.out.2.2.2.2.1.keep (below_on HJ.out.bel (Nat.le_refl _) n.h) (Nat.le_refl _))).mono fun e w'' h => ⟨h.1.true HCT.out, ⟨⟨w'', below_on n.h (Nat.le_refl _) h.2⟩, rfl⟩⟩) | (go_at_call 98; rename_i n; have hmh := maskHolds_any (some ⟨g2, o2 + j, none⟩) (cy - j) (l'.drop j) c n.u (by rw [List.length_drop]; omega) (by rw [List.length_drop]; omega) (by have := HRD.out.keep n.h (Nat.le_refl _); rw [List.length_drop] at this ⊢; exact this); rw [List.length_drop] at hmh; exact hmh.mono fun e w'' h => ⟨h.1.true HMK.out, ⟨⟨w'', below_on n.h (Nat.le_refl _) h.2⟩, rfl⟩⟩))))
          refine wpQuiet_nil ?_
          rintro w'' ⟨n, rfl⟩
          have HB9 : Hid (Below w.heap.size w n.u) := below_on HJ.out.bel (Nat.le_refl _) n.h
          clear P0 P1 P2 P3 G0 G1 G2 G3 I0 I1 I2 I3 inst
          go_wp2_with fail
          all_goals (go_ret; exact ⟨.yes HY.out, HB9.out⟩)
        · have HMK : Hid (¬ MaskIn (l'.drop j) c) := hmk
          have HN : Hid (¬ InstrOk p f ⟨op, (i : Int), (j : Int), c⟩) := fun e => by
            have := HIF.out.1 e
            go_light
            simp [FormOk, takes] at this
            exact hmk (HMI.out.2 this.1)
          clear hmk
          go_wp2_with fail
          refine wp_region_grown (by kernel_rfl) (by kernel_rfl) ?_
          repeat (go_big_quiet_step ((first | (go_at_call 97; rename_i n; exact (cellHolds_any ⟨.slice (some ⟨gg, o, none⟩) 3 cc, .slice r2 n1 c2, .slice r3 n2 c3, vt⟩ p gp (.int .i64 f.result) gl (.slice r4 n3 c4) op (i : Int) (j : Int) c n.u H.out.1 H.out.2.1.1 (H.out.2.2.2.2.1.keep (below_on HJ.out.bel (Nat.le_refl _) n.h) (Nat.le_refl _))).mono fun e w'' h => ⟨h.1.true HCT.out, ⟨⟨w'', below_on n.h (Nat.le_refl _) h.2⟩, rfl⟩⟩) | (go_at_call 98; rename_i n; have hmh := maskHolds_any (some ⟨g2, o2 + j, none⟩) (cy - j) (l'.drop j) c n.u (by rw [List.length_drop]; omega) (by rw [List.length_drop]; omega) (by have := HRD.out.keep n.h (Nat.le_refl _); rw [List.length_drop] at this ⊢; exact this); rw [List.length_drop] at hmh; exact hmh.mono fun e w'' h => ⟨h.1.false HMK.out, ⟨⟨w'', below_on n.h (Nat.le_refl _) h.2⟩, rfl⟩⟩))))
          refine wpQuiet_nil ?_
          rintro w'' ⟨n, rfl⟩
          have HB9 : Hid (Below w.heap.size w n.u) := below_on HJ.out.bel (Nat.le_refl _) n.h
          clear P0 P1 P2 P3 G0 G1 G2 G3 I0 I1 I2 I3 inst
          go_wp2_with fail
          all_goals (go_ret; exact ⟨.no HN.out, HB9.out⟩)
      · have HCT : Hid (¬ CellHolds p op a b) := hch
        have HN : Hid (¬ InstrOk p f ⟨op, a, b, c⟩) := fun e => by
          have := HIF.out.1 e
          have ho := HO2.out.1
          have hh := HO2.out.2
          go_light
          simp [FormOk, takes] at this
          exact hch (hh.2 ⟨this.1.there, by omega⟩)
        clear hch
        go_wp2_with fail
        refine wp_region_grown (by kernel_rfl) (by kernel_rfl) ?_
        repeat (go_big_quiet_step ((first | (go_at_call 97; rename_i n; exact (cellHolds_any ⟨vr, .slice r2 n1 c2, .slice r3 n2 c3, vt⟩ p gp (.int .i64 f.result) gl (.slice r4 n3 c4) op a b c n.u H.out.1 H.out.2.1.1 (H.out.2.2.2.2.1.keep (below_on HJ.out.bel (Nat.le_refl _) n.h) (Nat.le_refl _))).mono fun e w'' h => ⟨h.1.false HCT.out, ⟨⟨w'', below_on n.h (Nat.le_refl _) h.2⟩, rfl⟩⟩))))
        refine wpQuiet_nil ?_
        rintro w'' ⟨n, rfl⟩
        have HB9 : Hid (Below w.heap.size w n.u) := below_on HJ.out.bel (Nat.le_refl _) n.h
        clear P0 P1 P2 P3 G0 G1 G2 G3 I0 I1 I2 I3 inst
        go_wp2_with fail
        all_goals (go_ret; exact ⟨.no HN.out, HB9.out⟩)
    by_cases F0 : F = 0
    · subst F0
      go_wp2_with fail
      all_goals (go_ret; refine ⟨SaysIff.of ?_, HJ.out.bel⟩; rw [HIF.out]; obtain ⟨l1, l2, l3⟩ := HL.out; go_light; simp_all [FormOk, takes] <;> omega)
    rcases (show F = 5 ∨ F = 6 ∨ F = 7 by omega) with rfl | rfl | rfl
    · go_wp2_with fail
      refine (formTakes_any 5 a _ (by omega)).mono ?_
      rintro e u2 ⟨⟨bm, rfl, hbm⟩, rfl⟩
      cases bm
      · have HT : Hid (¬ takes 5 a) := fun e => by simp [e] at hbm
        clear hbm
        go_wp2_with fail
        all_goals (go_ret; refine ⟨SaysIff.of ?_, HJ.out.bel⟩; rw [HIF.out]; obtain ⟨l1, l2, l3⟩ := HL.out; have lt := HT.out; go_light; simp_all [FormOk, takes] <;> omega)
      · have HT : Hid (takes 5 a) := hbm.1 rfl
        clear hbm
        go_wp2_with fail
        all_goals (go_ret; refine ⟨SaysIff.of ?_, HJ.out.bel⟩; rw [HIF.out]; obtain ⟨l1, l2, l3⟩ := HL.out; have lt := HT.out; go_light; simp_all [FormOk, takes] <;> omega)
    · go_wp2_with fail
      refine (formTakes_any 6 a _ (by omega)).mono ?_
      rintro e u2 ⟨⟨bm, rfl, hbm⟩, rfl⟩
      cases bm
      · have HT : Hid (¬ takes 6 a) := fun e => by simp [e] at hbm
        clear hbm
        go_wp2_with fail
        all_goals (go_ret; refine ⟨SaysIff.of ?_, HJ.out.bel⟩; rw [HIF.out]; obtain ⟨l1, l2, l3⟩ := HL.out; have lt := HT.out; go_light; simp_all [FormOk, takes] <;> omega)
      · have HT : Hid (takes 6 a) := hbm.1 rfl
        clear hbm
        go_wp2_with fail
        all_goals (go_ret; refine ⟨SaysIff.of ?_, HJ.out.bel⟩; rw [HIF.out]; obtain ⟨l1, l2, l3⟩ := HL.out; have lt := HT.out; go_light; simp_all [FormOk, takes] <;> omega)
    · go_wp2_with fail
      refine (formTakes_any 7 a _ (by omega)).mono ?_
      rintro e u2 ⟨⟨bm, rfl, hbm⟩, rfl⟩
      cases bm
      · have HT : Hid (¬ takes 7 a) := fun e => by simp [e] at hbm
        clear hbm
        go_wp2_with fail
        all_goals (go_ret; refine ⟨SaysIff.of ?_, HJ.out.bel⟩; rw [HIF.out]; obtain ⟨l1, l2, l3⟩ := HL.out; have lt := HT.out; go_light; simp_all [FormOk, takes] <;> omega)
      · have HT : Hid (takes 7 a) := hbm.1 rfl
        clear hbm
        go_wp2_with fail
        all_goals (go_ret; refine ⟨SaysIff.of ?_, HJ.out.bel⟩; rw [HIF.out]; obtain ⟨l1, l2, l3⟩ := HL.out; have lt := HT.out; go_light; simp_all [FormOk, takes] <;> omega)
  · have HN : Hid (¬ InstrOk p f ⟨op, a, b, c⟩) := fun e => q0 ⟨e.1, by have := e.2.1; dsimp only at this; omega⟩
    have hit : decide (0 ≤ op ∧ op < 30) = false := decide_eq_false q0
    go_enter Tryz.func84, Tryz.ntmps84
    go_wp2_with fail
    refine (isOneOf_any op 30 _).mono ?_
    rintro e u ⟨rfl, rfl⟩
    rw [hit]
    go_wp2
    go_ret
    exact ⟨.no HN.out, HI.out.bel⟩
end Go.Proofs.YtalkpddhpmjgcaaGreat
