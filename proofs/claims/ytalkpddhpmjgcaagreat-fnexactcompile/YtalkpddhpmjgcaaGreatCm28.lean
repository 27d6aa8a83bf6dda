import Derived.Test.YtalkpddhpmjgcaaGreatCm19
namespace Go.Proofs.YtalkpddhpmjgcaaGreat
open Go.ChangeShapes Go.WideShapes Go.ChangeAt Go.RowKit
set_option linter.unusedVariables false
/-- A certificate of a function, a place and a local of type uint that are there. -/
def CertOk (p : MP) (c : MT) : Prop := ∃ f, p.funcs[c.func.toNat]? = some f ∧ 0 ≤ c.func ∧ 0 ≤ c.head ∧ c.head < f.code.length ∧ localOf f c.counter = 3
def Rises (d c : MT) : Prop := d.func < c.func ∨ d.func = c.func ∧ d.head < c.head
def CertAt (p : MP) (cs : List MT) (j : Nat) : Prop := ∀ c, cs[j]? = some c → CertOk p c ∧ ∀ i d, i + 1 = j → cs[i]? = some d → Rises d c
def CertsOk (p : MP) : Prop := p.certs.length ≤ 64 ∧ ∀ j, j < p.certs.length → CertAt p p.certs j
theorem certs_next {p : MP} {cs : List MT} {k : Nat} (hx : CertAt p cs k) (h : ∀ j, j < k → CertAt p cs j) : ∀ j, j < k + 1 → CertAt p cs j := by
  intro j hj
  by_cases e : j = k
  · subst e
    exact hx
  · exact h j (by omega)
set_option maxHeartbeats 4000000 in
set_option maxRecDepth 100000 in
theorem l3Certs_any (v : VP) (p : MP) (w : World) (hs : p.small) (hw : p.wf) (h : RdP w v p) :
    Calls Tryz.prog 48 #[.agg #[v.r, v.k, v.f, v.t]] w fun e w' => SaysIff e (CertsOk p) ∧ Below w.heap.size w w' := by
  obtain ⟨vr, vk, vf, vt⟩ := v
  have H1 : Hid (Rd w 4 vt p.certs.length (p.certs.flatMap MT.cells)) := h.certs
  obtain ⟨xs, hxs, hrd, hel⟩ := h.funcs
  simp only [] at hrd
  have hxl : xs.length = p.funcs.length := by rw [← hxs]; simp
  have H2 : Hid (Rd w 4 vf p.funcs.length (xs.flatMap fCells) ∧ xs.map Prod.fst = p.funcs ∧ (∀ x ∈ xs, RdF w x.2 x.1) ∧ (∀ f ∈ p.funcs, f.small) ∧ xs.length = p.funcs.length) := ⟨hrd, hxs, hel, hs.func, hxl⟩
  have hn := hs.certs
  have hm := hs.funcs
  obtain ⟨a1, c1, e1⟩ : ∃ a c, vt = .slice a p.certs.length c := h.certs.is_slice
  obtain ⟨a2, c2, e2⟩ := hrd.is_slice
  subst e1 e2
  have HV : Hid p.wf := hw
  clear h hs hrd hxs hel hxl hw
  have HW : Hid (Below w.heap.size w (w.alloc (.cells #[vr, vk, .slice a2 p.funcs.length c2, .slice a1 p.certs.length c1] 31)) ∧ At4 (w.alloc (.cells #[vr, vk, .slice a2 p.funcs.length c2, .slice a1 p.certs.length c1] 31)) w.heap.size vr vk (.slice a2 p.funcs.length c2) (.slice a1 p.certs.length c1)) := ⟨below_alloc _ _, At4.new _ _ _ _ _ _⟩
  generalize hcs : p.certs.length = n at *
  generalize hfs : p.funcs.length = m at *
  have HL : Hid (p.certs.length = n ∧ p.funcs.length = m) := ⟨hcs, hfs⟩
  clear hcs hfs
  go_enter Tryz.func48, Tryz.ntmps48
  go_wp2
  go_loopw [3] (fun i wr => ∃ k : Nat, k ≤ n ∧ i = .int .i64 k ∧ Hid (∀ j, j < k → CertAt p p.certs j) ∧ Hid (Below w.heap.size w wr ∧ At4 wr w.heap.size vr vk (.slice a2 m c2) (.slice a1 n c1))) (fun i _ => n - (intOf i).toNat)
  case atStart => exact ⟨0, by omega, rfl, fun j hj => by omega, HW⟩
  case round =>
    clear HW
    obtain ⟨k, hk, rfl, HT, HW⟩ := hrel
    obtain ⟨p0, p1, p2, p3⟩ := HW.out.2
    by_cases hlt : k < n
    · obtain ⟨x, hx⟩ : ∃ x, p.certs[k]? = some x := ⟨_, List.getElem?_eq_getElem (by rw [HL.out.1]; exact hlt)⟩
      have hxw := HV.out.certs x (List.mem_of_getElem? hx)
      rcases H1.out.2 with ⟨e0, _⟩ | ⟨b, o, c, e1, hc1⟩
      · omega
      simp only [Value.slice.injEq, true_and] at e1
      obtain ⟨rfl, rfl⟩ := e1
      have i0 := Rd.elem MT.cells_length hc1 k x hx 0 _ rfl
      have i1 := Rd.elem MT.cells_length hc1 k x hx 1 _ rfl
      have i2 := Rd.elem MT.cells_length hc1 k x hx 2 _ rfl
      have i3 := Rd.elem MT.cells_length hc1 k x hx 3 _ rfl
      rw [← HW.out.1.cell (block_lt_of_cell i0), Nat.add_zero] at i0
      rw [← HW.out.1.cell (block_lt_of_cell i1)] at i1
      rw [← HW.out.1.cell (block_lt_of_cell i2)] at i2
      rw [← HW.out.1.cell (block_lt_of_cell i3)] at i3
      have HX : Hid (p.certs[k]? = some x) := hx
      have HC : Hid (∀ j u, (p.certs.flatMap MT.cells)[j]? = some u → w.cell? ⟨b, o + j, none⟩ = some u) := hc1
      clear hc1 hx
      obtain ⟨fu, hd, co, ini⟩ := x
      simp only [] at i0 i1 i2 i3
      obtain ⟨x0, x1⟩ := W64_in hxw.1
      obtain ⟨x2, x3⟩ := W64_in hxw.2.1
      have HCO : Hid (W64 co) := hxw.2.2.1
      clear hxw
      have nb : ¬ b = wr.heap.size := Nat.ne_of_lt (block_lt_of_cell i0)
      have mb : b < wr.heap.size := block_lt_of_cell i0
      have np : ¬ w.heap.size = wr.heap.size := Nat.ne_of_lt HW.out.2.lt
      have mp : w.heap.size < wr.heap.size := HW.out.2.lt
      have HW1 : Hid (Below w.heap.size w (wr.alloc (.cells #[.int .i64 fu, .int .i64 hd, .int .i64 co, .int .u32 ini] 112)) ∧ At4 (wr.alloc (.cells #[.int .i64 fu, .int .i64 hd, .int .i64 co, .int .u32 ini] 112)) w.heap.size vr vk (.slice a2 m c2) (.slice (some ⟨b, o, none⟩) n c1) ∧ At4 (wr.alloc (.cells #[.int .i64 fu, .int .i64 hd, .int .i64 co, .int .u32 ini] 112)) wr.heap.size (.int .i64 fu) (.int .i64 hd) (.int .i64 co) (.int .u32 ini)) := ⟨below_on HW.out.1 (Nat.le_refl _) (below_alloc _ _), HW.out.2.alloc _, At4.new _ _ _ _ _ _⟩
      by_cases q0 : fu < 0
      · have HN : Hid (¬ CertsOk p) := fun e => by obtain ⟨⟨f, h1, h2, _⟩, _⟩ := e.2 k (by rw [HL.out.1]; exact hlt) _ HX.out; simp only [] at h2; omega
        go_wp2
        go_ret
        exact ⟨.no HN.out, HW1.out.1⟩
      obtain ⟨fn, rfl⟩ := Int.eq_ofNat_of_zero_le (show 0 ≤ fu by omega)
      clear x0 x1
      by_cases q1 : m ≤ fn
      · have HN : Hid (¬ CertsOk p) := fun e => by
          obtain ⟨⟨f, h1, h2, _⟩, _⟩ := e.2 k (by rw [HL.out.1]; exact hlt) _ HX.out
          have := (List.getElem?_eq_some_iff.1 h1).1
          simp only [] at this
          rw [HL.out.2] at this
          omega
        have q1' : ¬ (fn : Int) < (m : Int) := by omega
        have q1'' : (m : Int) ≤ (fn : Int) := by omega
        go_wp2
        go_ret
        exact ⟨.no HN.out, HW1.out.1⟩
      have q1' : ¬ (m : Int) ≤ (fn : Int) := by omega
      obtain ⟨⟨f, v⟩, hy⟩ : ∃ y, xs[fn]? = some y := ⟨_, List.getElem?_eq_getElem (by rw [H2.out.2.2.2.2]; omega)⟩
      have e1 := fst_at H2.out.2.1 hy
      have HF : Hid (RdF wr v f ∧ f.small ∧ p.funcs[fn]? = some f) := ⟨(H2.out.2.2.1 _ (List.mem_of_getElem? hy)).keep HW.out.1 (Nat.le_refl _), H2.out.2.2.2.1 _ (List.mem_of_getElem? e1), e1⟩
      clear e1
      rcases H2.out.1.2 with ⟨e0, _⟩ | ⟨b', o', c', e1, hc2⟩
      · omega
      simp only [Value.slice.injEq, true_and] at e1
      obtain ⟨rfl, rfl⟩ := e1
      have j0 := Rd.elem fCells_length hc2 fn _ hy 0 _ rfl
      have j1 := Rd.elem fCells_length hc2 fn _ hy 1 _ rfl
      have j2 := Rd.elem fCells_length hc2 fn _ hy 2 _ rfl
      have j3 := Rd.elem fCells_length hc2 fn _ hy 3 _ rfl
      rw [← HW.out.1.cell (block_lt_of_cell j0), Nat.add_zero] at j0
      rw [← HW.out.1.cell (block_lt_of_cell j1)] at j1
      rw [← HW.out.1.cell (block_lt_of_cell j2)] at j2
      rw [← HW.out.1.cell (block_lt_of_cell j3)] at j3
      clear hc2 hy
      simp only [] at j0 j1 j2 j3
      obtain ⟨ap, cp, ep⟩ := HF.out.1.1.is_slice
      obtain ⟨al, cl, el⟩ := HF.out.1.2.1.is_slice
      obtain ⟨ac, cc, ec⟩ := HF.out.1.2.2.is_slice
      obtain ⟨vp, vl, vc⟩ := v
      simp only [] at ep el ec j0 j1 j2 j3
      subst ep el ec
      have nb' : ¬ b' = wr.heap.size := Nat.ne_of_lt (block_lt_of_cell j0)
      have mb' : b' < wr.heap.size := block_lt_of_cell j0
      have hcl := HF.out.2.1.2.2
      have HW2 : Hid (Below w.heap.size w ((wr.alloc (.cells #[.int .i64 (fn : Int), .int .i64 hd, .int .i64 co, .int .u32 ini] 112)).alloc (.cells #[.slice ap f.params.length cp, .int .i64 f.result, .slice al f.locals.length cl, .slice ac f.code.length cc] 86))) := below_on HW1.out.1 (Nat.le_refl _) (below_alloc _ _)
      by_cases q2 : hd < 0
      · have HN : Hid (¬ CertsOk p) := fun e => by obtain ⟨⟨f, h1, h2, h3, _⟩, _⟩ := e.2 k (by rw [HL.out.1]; exact hlt) _ HX.out; simp only [] at h3; omega
        go_wp2
        go_ret
        exact ⟨.no HN.out, HW2.out⟩
      by_cases q3 : (f.code.length : Int) ≤ hd
      · have HN : Hid (¬ CertsOk p) := fun e => by
          obtain ⟨⟨g, h1, h2, h3, h4, _⟩, _⟩ := e.2 k (by rw [HL.out.1]; exact hlt) _ HX.out
          simp only [Int.toNat_natCast] at h1 h4
          rw [HF.out.2.2] at h1
          obtain rfl := Option.some.inj h1
          omega
        go_wp2
        go_ret
        exact ⟨.no HN.out, HW2.out⟩
      go_wp2_with fail
      refine (l3Local_any ⟨.slice ap f.params.length cp, .slice al f.locals.length cl, .slice ac f.code.length cc⟩ f co _ HF.out.2.1 HCO.out (HF.out.1.keep (below_on (below_alloc _ _) (Nat.le_refl _) (below_alloc _ _)) (Nat.le_refl _))).mono ?_
      rintro e u ⟨rfl, bl⟩
      have HW3 : Hid (Below w.heap.size w u ∧ At4 u w.heap.size vr vk (.slice (some ⟨b', o', none⟩) m c2) (.slice (some ⟨b, o, none⟩) n c1) ∧ At4 u wr.heap.size (.int .i64 (fn : Int)) (.int .i64 hd) (.int .i64 co) (.int .u32 ini)) := ⟨below_on HW2.out (Nat.le_refl _) bl, (HW1.out.2.1.alloc _).keep bl, (HW1.out.2.2.alloc _).keep bl⟩
      clear bl HW1 HW2 i0 i1 i2 i3 j0 j1 j2 j3 p0 p1 p2 p3 nb mb nb' mb' np mp
      by_cases q4 : localOf f co = 3
      · rw [q4]
        have HOK : Hid (CertOk p ⟨(fn : Int), hd, co, ini⟩) := ⟨f, by simp only [Int.toNat_natCast]; exact HF.out.2.2, by simp only []; omega, by simp only []; omega, by simp only []; omega, q4⟩
        clear q4
        by_cases q5 : k = 0
        · subst q5
          have HA : Hid (CertAt p p.certs 0) := fun c hc => by
            rw [HX.out] at hc
            obtain rfl := Option.some.inj hc
            exact ⟨HOK.out, fun i d hi => by omega⟩
          go_wp2
          go_quiet (fail)
          go_wp2
          go_roundw
          case rel => exact ⟨1, by omega, by go_num, certs_next HA.out HT.out, ⟨HW3.out.1.trans (below_drewN _ _ _), HW3.out.2.1.keep (below_drewN _ _ _)⟩⟩
          case measure => simp [intOf]; omega
        · obtain ⟨i, rfl⟩ : ∃ i, k = i + 1 := ⟨k - 1, by omega⟩
          obtain ⟨d, hd'⟩ : ∃ d, p.certs[i]? = some d := ⟨_, List.getElem?_eq_getElem (by rw [HL.out.1]; omega)⟩
          have y0 := Rd.elem MT.cells_length HC.out i d hd' 0 _ rfl
          have y1 := Rd.elem MT.cells_length HC.out i d hd' 1 _ rfl
          rw [← HW3.out.1.cell (block_lt_of_cell y0), Nat.add_zero] at y0
          rw [← HW3.out.1.cell (block_lt_of_cell y1)] at y1
          obtain ⟨p0, p1, p2, p3⟩ := HW3.out.2.1
          obtain ⟨r0, r1, r2, r3⟩ := HW3.out.2.2
          obtain ⟨dfu, dhd, dco, dini⟩ := d
          simp only [] at y0 y1
          have HD : Hid (p.certs[i]? = some ⟨dfu, dhd, dco, dini⟩) := hd'
          clear hd'
          have hki : ((i + 1 : Nat) : Int) - 1 = (i : Int) := by omega
          have hkp : (0 : Int) < ((i + 1 : Nat) : Int) := by omega
          by_cases q6 : (fn : Int) < dfu
          · have HN : Hid (¬ CertsOk p) := fun e => by
              have := (e.2 (i + 1) (by rw [HL.out.1]; exact hlt) _ HX.out).2 i _ rfl HD.out
              simp only [Rises] at this
              omega
            go_wp2
            go_quiet (fail)
            go_wp2
            go_ret
            exact ⟨.no HN.out, HW3.out.1.trans (below_drewN _ _ _)⟩
          by_cases q7 : dfu = (fn : Int)
          · subst q7
            by_cases q8 : hd ≤ dhd
            · have HN : Hid (¬ CertsOk p) := fun e => by
                have := (e.2 (i + 1) (by rw [HL.out.1]; exact hlt) _ HX.out).2 i _ rfl HD.out
                simp only [Rises] at this
                omega
              go_wp2
              go_quiet (fail)
              go_wp2
              go_ret
              exact ⟨.no HN.out, HW3.out.1.trans (below_drewN _ _ _)⟩
            · have HA : Hid (CertAt p p.certs (i + 1)) := fun c hc => by
                rw [HX.out] at hc
                obtain rfl := Option.some.inj hc
                refine ⟨HOK.out, fun i' d' hi hd' => ?_⟩
                obtain rfl : i' = i := by omega
                rw [HD.out] at hd'
                obtain rfl := Option.some.inj hd'
                unfold Rises
                dsimp only
                omega
              go_wp2
              go_quiet (fail)
              go_wp2
              go_roundw
              case rel => exact ⟨i + 1 + 1, by omega, by go_num, certs_next HA.out HT.out, ⟨HW3.out.1.trans (below_drewN _ _ _), HW3.out.2.1.keep (below_drewN _ _ _)⟩⟩
              case measure => simp [intOf]; omega
          · have q7' : (dfu == (fn : Int)) = false := by simpa using q7
            have q6' : decide ((fn : Int) < dfu) = false := by simpa using q6
            have q9 : dfu < (fn : Int) := by omega
            have HA : Hid (CertAt p p.certs (i + 1)) := fun c hc => by
              rw [HX.out] at hc
              obtain rfl := Option.some.inj hc
              refine ⟨HOK.out, fun i' d' hi hd' => ?_⟩
              obtain rfl : i' = i := by omega
              rw [HD.out] at hd'
              obtain rfl := Option.some.inj hd'
              unfold Rises
              dsimp only
              omega
            go_wp2
            go_quiet (fail)
            go_wp2
            go_roundw
            case rel => exact ⟨i + 1 + 1, by omega, by go_num, certs_next HA.out HT.out, ⟨HW3.out.1.trans (below_drewN _ _ _), HW3.out.2.1.keep (below_drewN _ _ _)⟩⟩
            case measure => simp [intOf]; omega
      · have HN : Hid (¬ CertsOk p) := fun e => by
          obtain ⟨⟨g, h1, h2, h3, h4, h5⟩, _⟩ := e.2 k (by rw [HL.out.1]; exact hlt) _ HX.out
          simp only [Int.toNat_natCast] at h1 h5
          rw [HF.out.2.2] at h1
          obtain rfl := Option.some.inj h1
          exact q4 h5
        have q4' : (localOf f co == 3) = false := by simpa using q4
        have q4'' : (localOf f co != 3) = true := by simpa using q4
        go_wp2
        go_ret
        exact ⟨.no HN.out, HW3.out.1⟩
    · have hkn : n = k := by omega
      subst hkn
      have HY : Hid (decide ((n : Int) ≤ 64) = true ↔ CertsOk p) := by
        show _ ↔ _
        rw [decide_eq_true_eq]
        exact ⟨fun e => ⟨by rw [HL.out.1]; omega, by rw [HL.out.1]; exact HT.out⟩, fun e => by have := e.1; rw [HL.out.1] at this; omega⟩
      go_wp2
      go_ret
      exact ⟨.of HY.out, HW.out.1⟩
end Go.Proofs.YtalkpddhpmjgcaaGreat
