/- Val5: impl.partsOf, impl.ValidMemory. -/
import Derived.Test.YtkpajiahpmdobaaGreatVal4
import Derived.Test.YtkpajiahpmdobaaGreatIFault16
namespace Go.Proofs.YtkpajiahpmdobaaGreat
open Go.ChangeShapes Go.WideShapes Go.ChangeAt Go.RowKit
set_option linter.unusedVariables false
set_option maxHeartbeats 1000000 in
theorem partsOf_any (a1 a2 a3 : Option Addr) (n1 n2 n3 c1 c2 c3 : Nat) (w : World) :
    Calls Tryz.prog 33 #[.agg #[.slice a1 n1 c1, .slice a2 n2 c2, .slice a3 n3 c3]] w fun e w' => e = .returned (.agg #[.slice a1 n1 c1, .slice a2 n2 c2, .slice a3 n3 c3]) ∧ Below w.heap.size w w' := by
  go_enter Tryz.func33, Tryz.ntmps33
  go_wp2
  exact bodyPost_ret (v := .agg #[.slice a1 n1 c1, .slice a2 n2 c2, .slice a3 n3 c3]) (by simp [results, Tryz.results33, go_sem]) rfl ⟨rfl, ((Below.refl _ _).alloc (Nat.le_refl _) _).alloc (by simp) _⟩
theorem WordsOk.values {p : MP} (hr : RegionsOk p.regions) {r : List Int} (hm : r ∈ p.regions) (ws : List Int) (hl : ws.length = r.length) : WordsOk ws r ↔ ValuesOk ws r := by
  have hT : ∀ t ∈ r, isT t = true := by
    obtain ⟨j, hj, rfl⟩ := List.getElem_of_mem hm
    have := (hr.2 j hj _ (List.getElem?_eq_getElem hj)).2
    exact fun t ht => List.all_eq_true.1 this t ht
  constructor
  · intro h j hj x hx t ht
    exact ⟨hT t (List.mem_of_getElem? ht), fun e => h.2 j hj x hx (by rw [ht]; simp only [] at e; rw [e])⟩
  · intro h
    exact ⟨hl, fun j hj x hx ht => (h j hj x hx 1 ht).2 rfl⟩
theorem parts_at (a1 a2 a3 : Option Addr) (n1 n2 n3 c1 c2 c3 : Nat) (w : World) :
    (Instr.index 75 (.agg #[.slice a1 n1 c1, .slice a2 n2 c2, .slice a3 n3 c3]) (.int .i64 0)).run Tryz.prog w = .ok (.slice a1 n1 c1) w ∧ (Instr.index 75 (.agg #[.slice a1 n1 c1, .slice a2 n2 c2, .slice a3 n3 c3]) (.int .i64 1)).run Tryz.prog w = .ok (.slice a2 n2 c2) w ∧ (Instr.index 75 (.agg #[.slice a1 n1 c1, .slice a2 n2 c2, .slice a3 n3 c3]) (.int .i64 2)).run Tryz.prog w = .ok (.slice a3 n3 c3) w := by
  have z := Tryz.sizeOf28
  have ag := Tryz.isAgg28
  refine ⟨?_, ?_, ?_⟩ <;> simp [Instr.index, run_underlying Tryz.underlying75, asIntOf, z, ag, go_sem]
set_option maxHeartbeats 4000000 in
set_option maxRecDepth 100000 in
theorem implValid_any (v : VP) (p : MP) (vm : VM) (m : MM) (w : World) (hs : p.small) (hw : p.wf) (h : RdP w v p) (hcap : RdRc w v.r p.regions) (hfp : RdFp w v.f p.funcs) (ms : m.small) (mw : m.wf) (hm : RdM w vm m) :
    Calls Tryz.prog 30 #[.agg #[v.r, v.k, v.f, v.t], .agg #[vm.i, vm.o, vm.k]] w fun e w' => SaysIff e (ValidM p m) ∧ Below w.heap.size w w' := by
  have H : Hid (p.small ∧ p.wf ∧ RdP w v p ∧ m.small ∧ RdM w vm m ∧ RdRc w v.r p.regions ∧ RdFp w v.f p.funcs ∧ m.wf) := ⟨hs, hw, h, ms, hm, hcap, hfp, mw⟩
  obtain ⟨am, cm, em⟩ := hm.ins.is_slice
  obtain ⟨ao, co, eo⟩ := hm.outs.is_slice
  obtain ⟨ak, ck, ek⟩ := hm.keeps.is_slice
  obtain ⟨vi, vo, vkk⟩ := vm
  simp only [] at em eo ek
  subst em eo ek
  have HI : Hid (In1 w ((w.alloc (.cells #[v.r, v.k, v.f, v.t] 43)).alloc (.cells #[.slice am m.ins.length cm, .slice ao m.outs.length co, .slice ak m.keeps.length ck] 45)) v.r v.k v.f v.t ∧ At3 ((w.alloc (.cells #[v.r, v.k, v.f, v.t] 43)).alloc (.cells #[.slice am m.ins.length cm, .slice ao m.outs.length co, .slice ak m.keeps.length ck] 45)) (w.heap.size + 1) (.slice am m.ins.length cm) (.slice ao m.outs.length co) (.slice ak m.keeps.length ck)) := by
    refine ⟨(In1.of w v.r v.k v.f v.t _).keep (below_alloc _ _), ?_⟩
    have := At3.new (w.alloc (.cells #[v.r, v.k, v.f, v.t] 43)) (.slice am m.ins.length cm) (.slice ao m.outs.length co) (.slice ak m.keeps.length ck) 45
    simpa using this
  clear hs hw h ms hm hcap hfp mw
  go_enter Tryz.func30, Tryz.ntmps30
  go_wp2_with fail
  refine (checkProgram_any v p _ H.out.1 H.out.2.1 (H.out.2.2.1.keep HI.out.1.bel (Nat.le_refl _)) (H.out.2.2.2.2.2.1.keep HI.out.1.bel (Nat.le_refl _)) (H.out.2.2.2.2.2.2.1.keep HI.out.1.bel (Nat.le_refl _))).mono ?_
  rintro e u ⟨⟨n, rfl, hn⟩, bl⟩
  have HJ : Hid (In1 w u v.r v.k v.f v.t ∧ At3 u (w.heap.size + 1) (.slice am m.ins.length cm) (.slice ao m.outs.length co) (.slice ak m.keeps.length ck)) := ⟨HI.out.1.keep bl, HI.out.2.keep bl⟩
  clear bl HI
  by_cases q0 : n = 0
  · subst q0
    have HF : Hid (FaultIs p 0) := hn
    clear hn
    obtain ⟨p0, p1, p2, p3⟩ := HJ.out.1.prog
    obtain ⟨m0, m1, m2⟩ := HJ.out.2
    rw [show errOf 0 = .nilIface from rfl]
    go_wp2_with fail
    refine (partsOf_any am ao ak m.ins.length m.outs.length m.keeps.length cm co ck _).mono ?_
    rintro e u' ⟨rfl, bl⟩
    have HK : Hid (Below w.heap.size w u' ∧ At4 u' w.heap.size v.r v.k v.f v.t) := ⟨below_on HJ.out.1.bel (Nat.le_refl _) bl, HJ.out.1.prog.keep bl⟩
    clear bl HJ m0 m1 m2 p0 p1 p2 p3
    obtain ⟨g, o, c, r0, r1, r2, y0, y1, y2, hR⟩ := Reg3.of (H.out.2.2.1.keep HK.out.1 (Nat.le_refl _)) HF.out.ok.1.1
    have HR : Hid (Reg3 u' v.r p g o c r0 r1 r2 y0 y1 y2) := hR
    have HV : Hid (ValidM p m ↔ m.ins.length = r0.length ∧ WordsOk m.outs r1 ∧ WordsOk m.keeps r2) := ValidM.iff HF.out hR.eq
    have HS : Hid (r0.length ≤ 1048576 ∧ r1.length ≤ 1048576 ∧ r2.length ≤ 1048576) := by
      have := H.out.1.region
      rw [hR.eq] at this
      exact ⟨this r0 (by simp), this r1 (by simp), this r2 (by simp)⟩
    have HM : Hid (m.small ∧ RdM w ⟨.slice am m.ins.length cm, .slice ao m.outs.length co, .slice ak m.keeps.length ck⟩ m) := ⟨H.out.2.2.2.1, H.out.2.2.2.2.1⟩
    have HW : Hid m.wf := H.out.2.2.2.2.2.2.2
    obtain ⟨b0, d0, e0⟩ := HR.out.k0.is_slice
    obtain ⟨b1, d1, e1⟩ := HR.out.k1.is_slice
    obtain ⟨b2, d2, e2⟩ := HR.out.k2.is_slice
    have hrows := hR.rows
    obtain ⟨vr, vk, vf, vt⟩ := v
    simp only [] at hrows
    subst hrows
    subst e0 e1 e2
    clear hR H
    have x0 : ∀ w, (Instr.index 75 (.agg #[.slice am m.ins.length cm, .slice ao m.outs.length co, .slice ak m.keeps.length ck]) (.int .i64 0)).run Tryz.prog w = .ok (.slice am m.ins.length cm) w := fun w => (parts_at am ao ak m.ins.length m.outs.length m.keeps.length cm co ck w).1
    have x1 : ∀ w, (Instr.index 75 (.agg #[.slice am m.ins.length cm, .slice ao m.outs.length co, .slice ak m.keeps.length ck]) (.int .i64 1)).run Tryz.prog w = .ok (.slice ao m.outs.length co) w := fun w => (parts_at am ao ak m.ins.length m.outs.length m.keeps.length cm co ck w).2.1
    have x2 : ∀ w, (Instr.index 75 (.agg #[.slice am m.ins.length cm, .slice ao m.outs.length co, .slice ak m.keeps.length ck]) (.int .i64 2)).run Tryz.prog w = .ok (.slice ak m.keeps.length ck) w := fun w => (parts_at am ao ak m.ins.length m.outs.length m.keeps.length cm co ck w).2.2
    go_wp2
    go_loopw [13] (fun i wr => ∃ k : Nat, k ≤ 3 ∧ i = .int .i64 k ∧ Hid ((0 < k → m.ins.length = r0.length) ∧ (1 < k → WordsOk m.outs r1) ∧ (2 < k → WordsOk m.keeps r2)) ∧ Hid (Below u'.heap.size u' wr ∧ At4 wr w.heap.size (.slice (some ⟨g, o, none⟩) 3 c) vk vf vt)) (fun i _ => 3 - (intOf i).toNat)
    case atStart => exact ⟨0, by omega, rfl, ⟨fun e => absurd e (by omega), fun e => absurd e (by omega), fun e => absurd e (by omega)⟩, ⟨Below.refl _ _, HK.out.2⟩⟩
    case round =>
      obtain ⟨k, hk, rfl, HT, HI⟩ := hrel
      obtain ⟨p0, p1, p2, p3⟩ := HI.out.2
      have i0 := HR.out.i0
      have i1 := HR.out.i1
      have i2 := HR.out.i2
      rw [← HI.out.1.cell (block_lt_of_cell i0)] at i0
      rw [← HI.out.1.cell (block_lt_of_cell i1)] at i1
      rw [← HI.out.1.cell (block_lt_of_cell i2)] at i2
      obtain rfl | rfl | rfl | rfl : k = 0 ∨ k = 1 ∨ k = 2 ∨ k = 3 := by omega
      · rw [show ((0 : Nat) : Int) = 0 from rfl]
        have hl1 := HS.out.1
        have hl2 := HM.out.1.ins
        by_cases q1 : m.ins.length = r0.length
        · have q1' : (m.ins.length : Int) = (r0.length : Int) := by omega
          have HQ : Hid (m.ins.length = r0.length) := q1
          clear q1
          go_wp2
          go_roundw
          case rel => exact ⟨1, by omega, by go_num, ⟨fun _ => HQ.out, fun e => absurd e (by omega), fun e => absurd e (by omega)⟩, HI⟩
          case measure => simp [intOf]
        · have q1' : ¬ (m.ins.length : Int) = (r0.length : Int) := by omega
          have HN : Hid (¬ ValidM p m) := fun e => q1 (HV.out.1 e).1
          clear q1
          go_wp2
          go_ret
          exact ⟨.no HN.out, below_on HK.out.1 (Nat.le_refl _) HI.out.1⟩
      · rw [show ((1 : Nat) : Int) = 1 from rfl]
        have hl1 := HS.out.2.1
        have hl2 := HM.out.1.outs
        by_cases q1 : m.outs.length = r1.length
        · have q1' : (m.outs.length : Int) = (r1.length : Int) := by omega
          have HQ : Hid (m.outs.length = r1.length) := q1
          clear q1
          go_wp2_with fail
          refine (areValues_any (.slice b1 r1.length d1) (.slice ao m.outs.length co) m.outs r1 _ HM.out.1.outs (fun z hz => (W32_range (HW.out.outs z hz)).1) HQ.out.symm (HM.out.2.outs.keep (below_on HK.out.1 (Nat.le_refl _) HI.out.1) (Nat.le_refl _)) (HR.out.k1.keep HI.out.1 (Nat.le_refl _))).mono ?_
          rintro e u2 ⟨⟨bb, rfl, hbb⟩, bl2⟩
          rw [← WordsOk.values HF.out.ok.1 (by rw [HR.out.eq]; simp) _ HQ.out] at hbb
          have HI2 : Hid (Below u'.heap.size u' u2 ∧ At4 u2 w.heap.size (.slice (some ⟨g, o, none⟩) 3 c) vk vf vt) := ⟨below_on HI.out.1 (Nat.le_refl _) bl2, HI.out.2.keep bl2⟩
          clear bl2 i0 i1 i2 p0 p1 p2 p3
          cases bb
          · have HN : Hid (¬ ValidM p m) := fun e => absurd (hbb.2 (HV.out.1 e).2.1) Bool.false_ne_true
            clear hbb
            go_wp2
            go_ret
            exact ⟨.no HN.out, below_on HK.out.1 (Nat.le_refl _) HI2.out.1⟩
          · have HG : Hid (WordsOk m.outs r1) := hbb.1 rfl
            clear hbb
            go_wp2
            go_roundw
            case rel => exact ⟨2, by omega, by go_num, ⟨fun _ => HT.out.1 (by omega), fun _ => HG.out, fun e => absurd e (by omega)⟩, HI2⟩
            case measure => simp [intOf]
        · have q1' : ¬ (m.outs.length : Int) = (r1.length : Int) := by omega
          have HN : Hid (¬ ValidM p m) := fun e => q1 (HV.out.1 e).2.1.1
          clear q1
          go_wp2
          go_ret
          exact ⟨.no HN.out, below_on HK.out.1 (Nat.le_refl _) HI.out.1⟩
      · rw [show ((2 : Nat) : Int) = 2 from rfl]
        have hl1 := HS.out.2.2
        have hl2 := HM.out.1.keeps
        by_cases q1 : m.keeps.length = r2.length
        · have q1' : (m.keeps.length : Int) = (r2.length : Int) := by omega
          have HQ : Hid (m.keeps.length = r2.length) := q1
          clear q1
          go_wp2_with fail
          refine (areValues_any (.slice b2 r2.length d2) (.slice ak m.keeps.length ck) m.keeps r2 _ HM.out.1.keeps (fun z hz => (W32_range (HW.out.keeps z hz)).1) HQ.out.symm (HM.out.2.keeps.keep (below_on HK.out.1 (Nat.le_refl _) HI.out.1) (Nat.le_refl _)) (HR.out.k2.keep HI.out.1 (Nat.le_refl _))).mono ?_
          rintro e u2 ⟨⟨bb, rfl, hbb⟩, bl2⟩
          rw [← WordsOk.values HF.out.ok.1 (by rw [HR.out.eq]; simp) _ HQ.out] at hbb
          have HI2 : Hid (Below u'.heap.size u' u2 ∧ At4 u2 w.heap.size (.slice (some ⟨g, o, none⟩) 3 c) vk vf vt) := ⟨below_on HI.out.1 (Nat.le_refl _) bl2, HI.out.2.keep bl2⟩
          clear bl2 i0 i1 i2 p0 p1 p2 p3
          cases bb
          · have HN : Hid (¬ ValidM p m) := fun e => absurd (hbb.2 (HV.out.1 e).2.2) Bool.false_ne_true
            clear hbb
            go_wp2
            go_ret
            exact ⟨.no HN.out, below_on HK.out.1 (Nat.le_refl _) HI2.out.1⟩
          · have HG : Hid (WordsOk m.keeps r2) := hbb.1 rfl
            clear hbb
            go_wp2
            go_roundw
            case rel => exact ⟨3, by omega, by go_num, ⟨fun _ => HT.out.1 (by omega), fun _ => HT.out.2.1 (by omega), fun _ => HG.out⟩, HI2⟩
            case measure => simp [intOf]
        · have q1' : ¬ (m.keeps.length : Int) = (r2.length : Int) := by omega
          have HN : Hid (¬ ValidM p m) := fun e => q1 (HV.out.1 e).2.2.1
          clear q1
          go_wp2
          go_ret
          exact ⟨.no HN.out, below_on HK.out.1 (Nat.le_refl _) HI.out.1⟩
      · have HY : Hid (ValidM p m) := HV.out.2 ⟨HT.out.1 (by omega), HT.out.2.1 (by omega), HT.out.2.2 (by omega)⟩
        go_wp2
        go_ret
        exact ⟨.yes HY.out, below_on HK.out.1 (Nat.le_refl _) HI.out.1⟩
  · have HN : Hid (¬ ValidM p m) := fun e => q0 (FaultIs.one hn e.1)
    rw [show errOf n = .iface 134 (.int .i64 n) from if_neg q0]
    clear hn q0
    go_wp2
    go_ret
    exact ⟨.no HN.out, HJ.out.1.bel⟩
end Go.Proofs.YtkpajiahpmdobaaGreat
