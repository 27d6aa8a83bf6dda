import Derived.Test.YtalkpddhpmjgcaaGreatCm45
namespace Go.Proofs.YtalkpddhpmjgcaaGreat
open Go.ChangeShapes Go.WideShapes Go.ChangeAt Go.RowKit
set_option linter.unusedVariables false
set_option maxHeartbeats 4000000 in
set_option maxRecDepth 100000 in
theorem certsHold_any (v : VP) (p : MP) (w : World) (hs : p.small) (h : RdP w v p) (hfp : RdFp w v.f p.funcs) :
    Calls Tryz.prog 60 #[.agg #[v.r, v.k, v.f, v.t]] w fun e w' => SaysIff e (CertsOk p) ∧ Below w.heap.size w w' := by
  obtain ⟨vr, vk, vf, vt⟩ := v
  have H1 : Hid (Rd w 4 vt p.certs.length (p.certs.flatMap MT.cells) ∧ p.small ∧ RdP w ⟨vr, vk, vf, vt⟩ p ∧ RdFp w vf p.funcs) := ⟨h.certs, hs, h, hfp⟩
  have hn := hs.certs
  obtain ⟨a1, c1, e1⟩ : ∃ a c, vt = .slice a p.certs.length c := h.certs.is_slice
  subst e1
  clear h hs hfp
  have HI : Hid _ := In1.of w vr vk vf (.slice a1 p.certs.length c1) 31
  generalize hcs : p.certs.length = n at *
  have HL : Hid (p.certs.length = n) := hcs
  clear hcs
  by_cases q0 : 64 < n
  · have HN : Hid (¬ CertsOk p) := fun e => absurd e.1 (by rw [HL.out]; omega)
    have q0' : (64 : Int) < (n : Int) := by omega
    clear H1
    go_enter Tryz.func60, Tryz.ntmps60
    go_wp2
    go_ret
    exact ⟨.no HN.out, HI.out.bel⟩
  have q0' : ¬ (64 : Int) < (n : Int) := by omega
  go_enter Tryz.func60, Tryz.ntmps60
  go_wp2
  go_loopw [12] (fun i wr => ∃ k : Nat, k ≤ n ∧ i = .int .i64 k ∧ Hid (∀ j, j < k → CertAt p p.certs j) ∧ Hid (In1 w wr vr vk vf (.slice a1 n c1))) (fun i _ => n - (intOf i).toNat)
  case atStart => exact ⟨0, by omega, rfl, fun j hj => by omega, HI⟩
  case round =>
    clear HI
    obtain ⟨k, hk, rfl, HT, HI⟩ := hrel
    by_cases hlt : k < n
    · obtain ⟨x, hx⟩ : ∃ x, p.certs[k]? = some x := ⟨_, List.getElem?_eq_getElem (by rw [HL.out]; exact hlt)⟩
      rcases H1.out.1.2 with ⟨e0, _⟩ | ⟨b, o, c, e1, hc1⟩
      · omega
      simp only [Value.slice.injEq, true_and] at e1
      obtain ⟨rfl, rfl⟩ := e1
      have i0 := Rd.elem MT.cells_length hc1 k x hx 0 _ rfl
      have i1 := Rd.elem MT.cells_length hc1 k x hx 1 _ rfl
      have i2 := Rd.elem MT.cells_length hc1 k x hx 2 _ rfl
      have i3 := Rd.elem MT.cells_length hc1 k x hx 3 _ rfl
      rw [← HI.out.bel.cell (block_lt_of_cell i0), Nat.add_zero] at i0
      rw [← HI.out.bel.cell (block_lt_of_cell i1)] at i1
      rw [← HI.out.bel.cell (block_lt_of_cell i2)] at i2
      rw [← HI.out.bel.cell (block_lt_of_cell i3)] at i3
      have HX : Hid (p.certs[k]? = some x) := hx
      have HC : Hid (∀ j u, (p.certs.flatMap MT.cells)[j]? = some u → w.cell? ⟨b, o + j, none⟩ = some u) := hc1
      clear hc1 hx
      obtain ⟨fu, hd, co, ini⟩ := x
      simp only [] at i0 i1 i2 i3
      have nb : ¬ b = wr.heap.size := Nat.ne_of_lt (block_lt_of_cell i0)
      have mb : b < wr.heap.size := block_lt_of_cell i0
      have HW0 : Hid (Below w.heap.size w (wr.alloc (.cells #[.int .i64 fu, .int .i64 hd, .int .i64 co, .int .u32 ini] 112)) ∧ At4 (wr.alloc (.cells #[.int .i64 fu, .int .i64 hd, .int .i64 co, .int .u32 ini] 112)) w.heap.size vr vk vf (.slice (some ⟨b, o, none⟩) n c1) ∧ At4 (wr.alloc (.cells #[.int .i64 fu, .int .i64 hd, .int .i64 co, .int .u32 ini] 112)) wr.heap.size (.int .i64 fu) (.int .i64 hd) (.int .i64 co) (.int .u32 ini)) := ⟨below_on HI.out.bel (Nat.le_refl _) (below_alloc _ _), HI.out.prog.alloc _, At4.new _ _ _ _ _ _⟩
      go_wp2_with fail
      generalize wr.alloc (.cells #[.int .i64 fu, .int .i64 hd, .int .i64 co, .int .u32 ini] 112) = W1 at HW0 ⊢
      have HW : Hid (Below w.heap.size w W1 ∧ At4 W1 w.heap.size vr vk vf (.slice (some ⟨b, o, none⟩) n c1) ∧ At4 W1 wr.heap.size (.int .i64 fu) (.int .i64 hd) (.int .i64 co) (.int .u32 ini)) := HW0
      clear HW0 i0 i1 i2 i3 nb mb HI q0'
      obtain ⟨p0, p1, p2, p3⟩ := HW.out.2.1
      obtain ⟨r0, r1, r2, r3⟩ := HW.out.2.2
      have inst := Grown.some W1
      have P0 := fun n : Grown W1 => Grown.cell p0 n
      have P1 := fun n : Grown W1 => Grown.cell p1 n
      have P2 := fun n : Grown W1 => Grown.cell p2 n
      have P3 := fun n : Grown W1 => Grown.cell p3 n
      have R0 := fun n : Grown W1 => Grown.cell r0 n
      have R1 := fun n : Grown W1 => Grown.cell r1 n
      have R2 := fun n : Grown W1 => Grown.cell r2 n
      have R3 := fun n : Grown W1 => Grown.cell r3 n
      by_cases hok : CertOk p ⟨fu, hd, co, ini⟩
      · have HOK : Hid (CertOk p ⟨fu, hd, co, ini⟩) := hok
        clear hok
        by_cases q5 : k = 0
        · subst q5
          have HA : Hid (CertAt p p.certs 0) := fun c hc => by
            rw [HX.out] at hc
            obtain rfl := Option.some.inj hc
            exact ⟨HOK.out, fun i d hi => by omega⟩
          refine wp_region_grown (by kernel_rfl) (by kernel_rfl) ?_
          repeat (go_big_quiet_step ((first | (go_at_call 85; rename_i n'; exact (certHolds_any ⟨vr, vk, vf, .slice (some ⟨b, o, none⟩) n c1⟩ p fu hd co ini n'.u H1.out.2.1 (H1.out.2.2.1.keep (below_on HW.out.1 (Nat.le_refl _) n'.h) (Nat.le_refl _)) (H1.out.2.2.2.keep (below_on HW.out.1 (Nat.le_refl _) n'.h) (Nat.le_refl _))).mono fun e w'' h => ⟨h.1.true HOK.out, ⟨⟨w'', below_on n'.h (Nat.le_refl _) h.2⟩, rfl⟩⟩))))
          refine wpQuiet_nil ?_
          rintro w'' ⟨n', rfl⟩
          have HI2 : Hid (In1 w n'.u vr vk vf (.slice (some ⟨b, o, none⟩) n c1)) := ⟨below_on HW.out.1 (Nat.le_refl _) n'.h, HW.out.2.1.keep n'.h⟩
          go_wp2
          go_roundw
          case rel => exact ⟨1, by omega, by go_num, certs_next HA.out HT.out, HI2⟩
          case measure => simp [intOf]; omega
        · obtain ⟨i, rfl⟩ : ∃ i, k = i + 1 := ⟨k - 1, by omega⟩
          obtain ⟨d, hd'⟩ : ∃ d, p.certs[i]? = some d := ⟨_, List.getElem?_eq_getElem (by rw [HL.out]; omega)⟩
          have y0 := Rd.elem MT.cells_length HC.out i d hd' 0 _ rfl
          have y1 := Rd.elem MT.cells_length HC.out i d hd' 1 _ rfl
          have y2 := Rd.elem MT.cells_length HC.out i d hd' 2 _ rfl
          have y3 := Rd.elem MT.cells_length HC.out i d hd' 3 _ rfl
          rw [← HW.out.1.cell (block_lt_of_cell y0), Nat.add_zero] at y0
          rw [← HW.out.1.cell (block_lt_of_cell y1)] at y1
          rw [← HW.out.1.cell (block_lt_of_cell y2)] at y2
          rw [← HW.out.1.cell (block_lt_of_cell y3)] at y3
          obtain ⟨dfu, dhd, dco, dini⟩ := d
          simp only [] at y0 y1 y2 y3
          have HD : Hid (p.certs[i]? = some ⟨dfu, dhd, dco, dini⟩) := hd'
          clear hd'
          have Y0 := fun n : Grown W1 => Grown.cell y0 n
          have Y1 := fun n : Grown W1 => Grown.cell y1 n
          have Y2 := fun n : Grown W1 => Grown.cell y2 n
          have Y3 := fun n : Grown W1 => Grown.cell y3 n
          have hki : ((i + 1 : Nat) : Int) - 1 = (i : Int) := by omega
          have hkp : (0 : Int) < ((i + 1 : Nat) : Int) := by omega
          by_cases hri : Rises ⟨dfu, dhd, dco, dini⟩ ⟨fu, hd, co, ini⟩
          · have HRI : Hid (Rises ⟨dfu, dhd, dco, dini⟩ ⟨fu, hd, co, ini⟩) := hri
            have HA : Hid (CertAt p p.certs (i + 1)) := fun c hc => by
              rw [HX.out] at hc
              obtain rfl := Option.some.inj hc
              refine ⟨HOK.out, fun i' d' hi hd' => ?_⟩
              obtain rfl : i' = i := by omega
              rw [HD.out] at hd'
              obtain rfl := Option.some.inj hd'
              exact hri
            clear hri
            refine wp_region_grown (by kernel_rfl) (by kernel_rfl) ?_
            repeat (go_big_quiet_step ((first | (go_at_call 85; rename_i n'; exact (certHolds_any ⟨vr, vk, vf, .slice (some ⟨b, o, none⟩) n c1⟩ p fu hd co ini n'.u H1.out.2.1 (H1.out.2.2.1.keep (below_on HW.out.1 (Nat.le_refl _) n'.h) (Nat.le_refl _)) (H1.out.2.2.2.keep (below_on HW.out.1 (Nat.le_refl _) n'.h) (Nat.le_refl _))).mono fun e w'' h => ⟨h.1.true HOK.out, ⟨⟨w'', below_on n'.h (Nat.le_refl _) h.2⟩, rfl⟩⟩) | (go_at_call 86; rename_i n'; exact (rises_any ⟨dfu, dhd, dco, dini⟩ ⟨fu, hd, co, ini⟩ n'.u).mono fun e w'' h => ⟨h.1.true HRI.out, ⟨⟨w'', below_on n'.h (Nat.le_refl _) h.2⟩, rfl⟩⟩))))
            refine wpQuiet_nil ?_
            rintro w'' ⟨n', rfl⟩
            have HI2 : Hid (In1 w n'.u vr vk vf (.slice (some ⟨b, o, none⟩) n c1)) := ⟨below_on HW.out.1 (Nat.le_refl _) n'.h, HW.out.2.1.keep n'.h⟩
            go_wp2
            go_roundw
            case rel => exact ⟨i + 1 + 1, by omega, by go_num, certs_next HA.out HT.out, HI2⟩
            case measure => simp [intOf]; omega
          · have HRI : Hid (¬ Rises ⟨dfu, dhd, dco, dini⟩ ⟨fu, hd, co, ini⟩) := hri
            clear hri
            have HN : Hid (¬ CertsOk p) := fun e => by
              exact HRI.out ((e.2 (i + 1) (by rw [HL.out]; exact hlt) _ HX.out).2 i _ rfl HD.out)
            refine wp_region_grown (by kernel_rfl) (by kernel_rfl) ?_
            repeat (go_big_quiet_step ((first | (go_at_call 85; rename_i n'; exact (certHolds_any ⟨vr, vk, vf, .slice (some ⟨b, o, none⟩) n c1⟩ p fu hd co ini n'.u H1.out.2.1 (H1.out.2.2.1.keep (below_on HW.out.1 (Nat.le_refl _) n'.h) (Nat.le_refl _)) (H1.out.2.2.2.keep (below_on HW.out.1 (Nat.le_refl _) n'.h) (Nat.le_refl _))).mono fun e w'' h => ⟨h.1.true HOK.out, ⟨⟨w'', below_on n'.h (Nat.le_refl _) h.2⟩, rfl⟩⟩) | (go_at_call 86; rename_i n'; exact (rises_any ⟨dfu, dhd, dco, dini⟩ ⟨fu, hd, co, ini⟩ n'.u).mono fun e w'' h => ⟨h.1.false HRI.out, ⟨⟨w'', below_on n'.h (Nat.le_refl _) h.2⟩, rfl⟩⟩))))
            refine wpQuiet_nil ?_
            rintro w'' ⟨n', rfl⟩
            have HI2 : Hid (In1 w n'.u vr vk vf (.slice (some ⟨b, o, none⟩) n c1)) := ⟨below_on HW.out.1 (Nat.le_refl _) n'.h, HW.out.2.1.keep n'.h⟩
            go_wp2
            go_ret
            exact ⟨.no HN.out, HI2.out.bel⟩
      · have HOK : Hid (¬ CertOk p ⟨fu, hd, co, ini⟩) := hok
        clear hok
        have HN : Hid (¬ CertsOk p) := fun e => by
          exact HOK.out (e.2 k (by rw [HL.out]; exact hlt) _ HX.out).1
        refine wp_region_grown (by kernel_rfl) (by kernel_rfl) ?_
        repeat (go_big_quiet_step ((first | (go_at_call 85; rename_i n'; exact (certHolds_any ⟨vr, vk, vf, .slice (some ⟨b, o, none⟩) n c1⟩ p fu hd co ini n'.u H1.out.2.1 (H1.out.2.2.1.keep (below_on HW.out.1 (Nat.le_refl _) n'.h) (Nat.le_refl _)) (H1.out.2.2.2.keep (below_on HW.out.1 (Nat.le_refl _) n'.h) (Nat.le_refl _))).mono fun e w'' h => ⟨h.1.false HOK.out, ⟨⟨w'', below_on n'.h (Nat.le_refl _) h.2⟩, rfl⟩⟩))))
        refine wpQuiet_nil ?_
        rintro w'' ⟨n', rfl⟩
        have HI2 : Hid (In1 w n'.u vr vk vf (.slice (some ⟨b, o, none⟩) n c1)) := ⟨below_on HW.out.1 (Nat.le_refl _) n'.h, HW.out.2.1.keep n'.h⟩
        go_wp2
        go_ret
        exact ⟨.no HN.out, HI2.out.bel⟩
    · have hkn : n = k := by omega
      subst hkn
      have HY : Hid (CertsOk p) := ⟨by rw [HL.out]; omega, by rw [HL.out]; exact HT.out⟩
      go_wp2
      go_ret
      exact ⟨.yes HY.out, HI.out.bel⟩
end Go.Proofs.YtalkpddhpmjgcaaGreat
namespace Go.Proofs.YtalkpddhpmjgcaaGreat
open Go.ChangeShapes Go.WideShapes Go.ChangeAt Go.RowKit
set_option linter.unusedVariables false
/-- The error that tells a fault; nil where there is none. -/
def errOf (n : Int) : Value := if n = 0 then .nilIface else .iface 101 (.int .i64 n)
def SaysErr (e : Ending) (p : MP) : Prop := ∃ n, e = .returned (errOf n) ∧ FaultIs p n
theorem SaysErr.f1 {p : MP} (h : ¬ RegionsOk p.regions) : SaysErr (.returned (.iface 101 (.int .i64 1))) p := ⟨1, rfl, .inl ⟨rfl, h⟩⟩
theorem SaysErr.f2 {p : MP} (h1 : RegionsOk p.regions) (h : ¬ ConstsOk p.consts) : SaysErr (.returned (.iface 101 (.int .i64 2))) p := ⟨2, rfl, .inr (.inl ⟨rfl, h1, h⟩)⟩
theorem SaysErr.f3 {p : MP} (h1 : RegionsOk p.regions ∧ ConstsOk p.consts) (h : ¬ FuncsOk p.funcs) : SaysErr (.returned (.iface 101 (.int .i64 3))) p := ⟨3, rfl, .inr (.inr (.inl ⟨rfl, h1.1, h1.2, h⟩))⟩
theorem SaysErr.f4 {p : MP} (h1 : RegionsOk p.regions ∧ ConstsOk p.consts) (h2 : FuncsOk p.funcs) (h : ¬ CodeOk p) : SaysErr (.returned (.iface 101 (.int .i64 4))) p := ⟨4, rfl, .inr (.inr (.inr (.inl ⟨rfl, h1.1, h1.2, h2, h⟩)))⟩
theorem SaysErr.f5 {p : MP} (h1 : RegionsOk p.regions ∧ ConstsOk p.consts) (h2 : FuncsOk p.funcs) (h3 : CodeOk p) (h : ¬ CertsOk p) : SaysErr (.returned (.iface 101 (.int .i64 5))) p := ⟨5, rfl, .inr (.inr (.inr (.inr (.inl ⟨rfl, h1.1, h1.2, h2, h3, h⟩))))⟩
theorem SaysErr.f0 {p : MP} (h1 : RegionsOk p.regions ∧ ConstsOk p.consts) (h2 : FuncsOk p.funcs) (h3 : CodeOk p) (h : CertsOk p) : SaysErr (.returned .nilIface) p := ⟨0, rfl, .inr (.inr (.inr (.inr (.inr ⟨rfl, h1.1, h1.2, h2, h3, h⟩))))⟩
set_option maxHeartbeats 4000000 in
set_option maxRecDepth 100000 in
theorem checkProgram_any (v : VP) (p : MP) (w : World) (hs : p.small) (hw : p.wf) (h : RdP w v p) (hcap : RdRc w v.r p.regions) (hfp : RdFp w v.f p.funcs) :
    Calls Tryz.prog 26 #[.agg #[v.r, v.k, v.f, v.t]] w fun e w' => SaysErr e p ∧ Below w.heap.size w w' := by
  have H : Hid (p.small ∧ p.wf ∧ RdP w v p ∧ RdRc w v.r p.regions ∧ RdFp w v.f p.funcs) := ⟨hs, hw, h, hcap, hfp⟩
  clear hs hw h hcap hfp
  have HI : Hid _ := In1.of w v.r v.k v.f v.t 31
  go_enter Tryz.func26, Tryz.ntmps26
  go_wp2_with fail
  refine (regionsHold_any v.r p.regions _ H.out.1.regions H.out.1.region (H.out.2.2.1.regions.keep HI.out.bel (Nat.le_refl _))).mono ?_
  rintro e u1 ⟨⟨b1, rfl, hb1⟩, rfl⟩
  cases b1
  · have HN : Hid (¬ RegionsOk p.regions) := fun e => by simp [e] at hb1
    clear hb1
    go_wp2
    go_ret
    exact ⟨.f1 HN.out, HI.out.bel⟩
  have HR : Hid (RegionsOk p.regions) := hb1.1 rfl
  clear hb1
  go_wp2_with fail
  refine (constsHold_any v.k p.consts _ H.out.1.consts (fun c hc => (W32_range (H.out.2.1.consts c hc).2).1) (H.out.2.2.1.consts.keep HI.out.bel (Nat.le_refl _))).mono ?_
  rintro e u2 ⟨⟨b2, rfl, hb2⟩, bl2⟩
  have HI2 : Hid (In1 w u2 v.r v.k v.f v.t) := HI.out.keep bl2
  clear bl2
  cases b2
  · have HN : Hid (¬ ConstsOk p.consts) := fun e => by simp [e] at hb2
    clear hb2
    go_wp2
    go_ret
    exact ⟨.f2 HR.out HN.out, HI2.out.bel⟩
  have HRC : Hid (RegionsOk p.regions ∧ ConstsOk p.consts) := ⟨HR.out, hb2.1 rfl⟩
  clear hb2
  obtain ⟨p0, p1, p2, p3⟩ := HI2.out.prog
  go_wp2_with fail
  refine (funcsHold_any v.f p.funcs _ H.out.1.funcs H.out.1.func (H.out.2.2.1.funcs.keep HI2.out.bel (Nat.le_refl _))).mono ?_
  rintro e u3 ⟨⟨b3, rfl, hb3⟩, bl3⟩
  have HI3 : Hid (In1 w u3 v.r v.k v.f v.t) := HI2.out.keep bl3
  clear bl3 p0 p1 p2 p3
  cases b3
  · have HN : Hid (¬ FuncsOk p.funcs) := fun e => by simp [e] at hb3
    clear hb3
    go_wp2
    go_ret
    exact ⟨.f3 HRC.out HN.out, HI3.out.bel⟩
  have HFo : Hid (FuncsOk p.funcs) := hb3.1 rfl
  clear hb3
  obtain ⟨p0, p1, p2, p3⟩ := HI3.out.prog
  go_wp2_with fail
  refine (codeHolds_any v p _ H.out.1 H.out.2.1 HRC.out.1 HFo.out (H.out.2.2.1.keep HI3.out.bel (Nat.le_refl _)) (H.out.2.2.2.1.keep HI3.out.bel (Nat.le_refl _))).mono ?_
  rintro e u4 ⟨⟨b4, rfl, hb4⟩, bl4⟩
  have HI4 : Hid (In1 w u4 v.r v.k v.f v.t) := HI3.out.keep bl4
  clear bl4 p0 p1 p2 p3
  cases b4
  · have HN : Hid (¬ CodeOk p) := fun e => by simp [e] at hb4
    clear hb4
    go_wp2
    go_ret
    exact ⟨.f4 HRC.out HFo.out HN.out, HI4.out.bel⟩
  have HCo : Hid (CodeOk p) := hb4.1 rfl
  clear hb4
  obtain ⟨p0, p1, p2, p3⟩ := HI4.out.prog
  go_wp2_with fail
  refine (certsHold_any v p _ H.out.1 (H.out.2.2.1.keep HI4.out.bel (Nat.le_refl _)) (H.out.2.2.2.2.keep HI4.out.bel (Nat.le_refl _))).mono ?_
  rintro e u5 ⟨⟨b5, rfl, hb5⟩, bl5⟩
  have HI5 : Hid (Below w.heap.size w u5) := below_on HI4.out.bel (Nat.le_refl _) bl5
  clear bl5 p0 p1 p2 p3
  cases b5
  · have HN : Hid (¬ CertsOk p) := fun e => by simp [e] at hb5
    clear hb5
    go_wp2
    go_ret
    exact ⟨.f5 HRC.out HFo.out HCo.out HN.out, HI5.out⟩
  · have HY : Hid (CertsOk p) := hb5.1 rfl
    clear hb5
    go_wp2
    go_ret
    exact ⟨.f0 HRC.out HFo.out HCo.out HY.out, HI5.out⟩
end Go.Proofs.YtalkpddhpmjgcaaGreat
namespace Go.Proofs.YtalkpddhpmjgcaaGreat
open Go.ChangeShapes Go.WideShapes Go.ChangeAt Go.RowKit
set_option linter.unusedVariables false
theorem own_capR {w : World} {base : Nat} {e : TypeId} {s : Value} {k n : Nat} {xs : List Value} (h : w.ownsRow base e k s n xs) : ∃ a c, s = .slice a n c ∧ n ≤ c := by
  rcases h.2 with ⟨rfl, rfl⟩ | ⟨g, cap, cur, rfl, _, _, hc, _⟩
  · exact ⟨_, _, rfl, Nat.le_refl _⟩
  · exact ⟨_, _, rfl, hc⟩
theorem own_placed {w : World} {base : Nat} {e : TypeId} {s : Value} {k n : Nat} {xs : List Value} (h : w.ownsRow base e k s n xs) : Placed s := by
  rcases h.2 with ⟨rfl, rfl⟩ | ⟨g, cap, cur, rfl, _⟩
  · exact .inl rfl
  · exact .inr ⟨_, _, _, rfl⟩
theorem OwnR.rdc {w : World} {base : Nat} {s : Value} {rs : List (List Int)} (h : OwnR w base s rs) : RdRc w s rs := by
  obtain ⟨xs, h1, h2, h3⟩ := h
  exact ⟨xs, h1, Rd.of_own h2, fun x hx => ⟨Rd.of_own (h3 x hx), own_capR (h3 x hx)⟩⟩
theorem OwnFs.rdp {w : World} {base : Nat} {s : Value} {fs : List MF} (h : OwnFs w base s fs) : RdFp w s fs := by
  obtain ⟨xs, h1, h2, h3⟩ := h
  exact ⟨xs, h1, Rd.of_own h2, fun x hx => ⟨(h3 x hx).rd, own_placed (h3 x hx).1, own_placed (h3 x hx).2.1⟩⟩
end Go.Proofs.YtalkpddhpmjgcaaGreat
