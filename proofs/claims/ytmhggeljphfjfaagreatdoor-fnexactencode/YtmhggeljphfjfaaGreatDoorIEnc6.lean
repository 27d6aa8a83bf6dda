/- IEnc6: impl.Encode. -/
import Derived.Test.YtmhggeljphfjfaaGreatDoorIEnc5
import Derived.Test.YtmhggeljphfjfaaGreatDoorIFault16
namespace Go.Proofs.YtmhggeljphfjfaaGreatDoor
open Go.ChangeShapes Go.WideShapes Go.ChangeAt Go.RowKit
set_option linter.unusedVariables false
theorem flat_le {α : Type} (f : α → List Value) (b : Nat) (ys : List α) (h : ∀ y ∈ ys, (f y).length ≤ b) : (ys.flatMap f).length ≤ ys.length * b := by
  induction ys with
  | nil => simp
  | cons y r ih =>
    rw [List.flatMap_cons, List.length_append, List.length_cons, Nat.add_mul]
    have := h y (by simp)
    have := ih (fun z hz => h z (by simp [hz]))
    omega
theorem funcs_total {fs : List MF} (h : FuncsOk fs) : (fs.flatMap encFunc).length ≤ 265000 := by
  have := flat_le encFunc 8240 fs (fun f hf => by
    obtain ⟨j, hj, rfl⟩ := List.getElem_of_mem hf
    have ho := h.2.2.1 j hj _ (List.getElem?_eq_getElem hj)
    rw [encFunc_length]
    have := ho.par
    have := ho.loc
    have := ho.code1
    omega)
  have := h.2.1
  have : fs.length * 8240 ≤ 32 * 8240 := Nat.mul_le_mul_right _ h.2.1
  omega
theorem fault_ok {p : MP} (h : FaultIs p 0) : RegionsOk p.regions ∧ ConstsOk p.consts ∧ FuncsOk p.funcs ∧ CodeOk p ∧ CertsOk p := by
  rcases h with h | h | h | h | h | h
  · exact absurd h.1 (by decide)
  · exact absurd h.1 (by decide)
  · exact absurd h.1 (by decide)
  · exact absurd h.1 (by decide)
  · exact absurd h.1 (by decide)
  · exact h.2
theorem W32_bd {z : Int} (h : W32 z) : 0 ≤ z ∧ z ≤ 4294967295 := by simpa [W32, Lit.wf, IntKind.min, IntKind.max, IntKind.signed, IntKind.bits] using h
set_option maxHeartbeats 8000000 in
set_option maxRecDepth 100000 in
theorem implEncode_any (v : VP) (p : MP) (base : Nat) (w : World) (hs : p.small) (hw : p.wf) (h : OwnP w base v p) (hb : base ≤ w.heap.size) (ht : TabAt w) :
    Calls Tryz.prog 8 #[.agg #[v.r, v.k, v.f, v.t]] w fun e w' => ∃ r, e = .returned r ∧ Below w.heap.size w w' ∧ ∃ bs, EncIs p bs ∧ w'.ownsRow w.heap.size 5 1 r bs.length bs := by
  have H : Hid (p.small ∧ p.wf ∧ OwnP w base v p ∧ TabAt w) := ⟨hs, hw, h, ht⟩
  clear hs hw h ht
  have A0 : Blk (w.alloc (.cells #[v.r, v.k, v.f, v.t] 35)) w.heap.size #[v.r, v.k, v.f, v.t] 35 := Blk.new _ _ _
  have B0 := below_alloc w (.cells #[v.r, v.k, v.f, v.t] 35)
  have O0 := H.out.2.2.1.keep B0 (Nat.le_refl _)
  go_enter Tryz.func8, Tryz.ntmps8
  go_wp2_with fail
  refine (checkProgram_any v p _ H.out.1 H.out.2.1 O0.rd O0.regions.rdc O0.funcs.rdp).mono ?_
  rintro e u1 ⟨⟨n, rfl, hn⟩, bl1⟩
  have HA : Hid (Blk u1 w.heap.size #[v.r, v.k, v.f, v.t] 35 ∧ OwnP u1 base v p ∧ Below w.heap.size w u1) := ⟨A0.keep bl1, O0.keep bl1 (Nat.le_refl _), below_on B0 (Nat.le_refl _) bl1⟩
  clear A0 B0 O0 bl1
  by_cases q0 : n = 0
  · subst q0
    have HF0 : Hid (FaultIs p 0) := hn
    clear hn
    rw [show errOf 0 = .nilIface from rfl]
    have hcv := Lib.run_convert_bytes_const (P := Tryz.prog) u1 29 5 #[.int .u8 80, .int .u8 76, .int .u8 67, .int .u8 49] 4 4 Tryz.underlying29 Tryz.underlying5
    go_wp2_with fail
    clear hcv
    have bM : Below u1.heap.size u1 ((u1.alloc (.cells #[.int .u8 80, .int .u8 76, .int .u8 67, .int .u8 49] 5 (4, 5))).alloc (.cells #[.slice (some ⟨u1.heap.size, 0, none⟩) 4 4] 77)) := below_on (below_alloc _ _) (Nat.le_refl _) (below_alloc _ _)
    have E0 : Hid (Blk ((u1.alloc (.cells #[.int .u8 80, .int .u8 76, .int .u8 67, .int .u8 49] 5 (4, 5))).alloc (.cells #[.slice (some ⟨u1.heap.size, 0, none⟩) 4 4] 77)) (u1.heap.size + 1) #[.slice (some ⟨u1.heap.size, 0, none⟩) 4 4] 77 ∧ (∀ j u', magicL[j]? = some u' → ((u1.alloc (.cells #[.int .u8 80, .int .u8 76, .int .u8 67, .int .u8 49] 5 (4, 5))).alloc (.cells #[.slice (some ⟨u1.heap.size, 0, none⟩) 4 4] 77)).cell? ((⟨u1.heap.size, 0, none⟩ : Addr).add j) = some u') ∧ Blk ((u1.alloc (.cells #[.int .u8 80, .int .u8 76, .int .u8 67, .int .u8 49] 5 (4, 5))).alloc (.cells #[.slice (some ⟨u1.heap.size, 0, none⟩) 4 4] 77)) w.heap.size #[v.r, v.k, v.f, v.t] 35 ∧ OwnP ((u1.alloc (.cells #[.int .u8 80, .int .u8 76, .int .u8 67, .int .u8 49] 5 (4, 5))).alloc (.cells #[.slice (some ⟨u1.heap.size, 0, none⟩) 4 4] 77)) base v p ∧ Below w.heap.size w ((u1.alloc (.cells #[.int .u8 80, .int .u8 76, .int .u8 67, .int .u8 49] 5 (4, 5))).alloc (.cells #[.slice (some ⟨u1.heap.size, 0, none⟩) 4 4] 77))) := by
      refine ⟨?_, fun j u' hj => ?_, HA.out.1.keep bM, HA.out.2.1.keep bM (Nat.le_refl _), below_on HA.out.2.2 (Nat.le_refl _) bM⟩
      · have := Blk.new (u1.alloc (.cells #[.int .u8 80, .int .u8 76, .int .u8 67, .int .u8 49] 5 (4, 5))) #[.slice (some ⟨u1.heap.size, 0, none⟩) 4 4] 77
        simpa using this
      · have hc := magic_cells u1 (4, 5) j u' hj
        rw [(below_alloc _ _).cell (block_lt_of_cell hc)]
        exact hc
    have hwb : w.heap.size ≤ u1.heap.size + 1 := Nat.le_trans HA.out.2.2.size (Nat.le_succ _)
    clear HA bM
    generalize ((u1.alloc (.cells #[.int .u8 80, .int .u8 76, .int .u8 67, .int .u8 49] 5 (4, 5))).alloc (.cells #[.slice (some ⟨u1.heap.size, 0, none⟩) 4 4] 77)) = W1 at E0 ⊢
    generalize u1.heap.size + 1 = wb at E0 hwb ⊢
    generalize u1.heap.size = mb at E0 ⊢
    have hBW : w.heap.size ≤ W1.heap.size := E0.out.2.2.2.2.size
    refine (wnumber_first w.heap.size wb mb W1 hBW hwb E0.out.1 E0.out.2.1).mono ?_
    rintro e u2 ⟨rfl, hW, hG⟩
    have E2 : Hid (WAt w.heap.size u2 wb (magicL ++ numL 1 2) ∧ Wg w.heap.size W1 u2) := ⟨hW, hG⟩
    clear hW hG
    have PB : Hid (∀ {u : World}, Wg w.heap.size W1 u → Blk u w.heap.size #[v.r, v.k, v.f, v.t] 35 ∧ OwnP u base v p ∧ Below w.heap.size w u) := fun hg => ⟨hg.block E0.out.2.2.1 (by decide) (by decide), hg.ownP E0.out.2.2.2.1, E0.out.2.2.2.2.trans hg.bel⟩
    clear E0
    obtain ⟨c0, c1, c2, c3⟩ := blk4 (PB.out E2.out.2).1
    obtain ⟨vr, vk, vf, vt⟩ := v
    simp only [] at PB c0 c1 c2 c3
    obtain ⟨xs, hxs, hrow, hel⟩ := (PB.out E2.out.2).2.1.regions
    obtain ⟨ar, cr, er⟩ := (Rd.of_own hrow).is_slice
    simp only [] at er
    subst er
    clear hxs hrow hel
    have HR3 : Hid (p.regions.length = 3) := (fault_ok HF0.out).1.1
    have hr3 := HR3.out
    rw [hr3] at PB c0
    have HOK : Hid (RegionsOk p.regions ∧ ConstsOk p.consts ∧ FuncsOk p.funcs ∧ CodeOk p ∧ CertsOk p) := fault_ok HF0.out
    rw [hr3]
    clear hr3
    go_wp2_with fail
    clear c0 c1 c2 c3
    go_loopw [18] (fun i wr => ∃ k : Nat, k ≤ 3 ∧ i = .int .i64 k ∧ Hid (WAt w.heap.size wr wb (magicL ++ numL 1 2 ++ (p.regions.take k).flatMap encRegion) ∧ Wg w.heap.size W1 wr)) (fun i _ => 3 - (intOf i).toNat)
    case atStart => exact ⟨0, by omega, rfl, ⟨by simpa using E2.out.1, E2.out.2⟩⟩
    case round =>
      clear E2
      obtain ⟨k, hk, rfl, HI⟩ := hrel
      by_cases hlt : k < 3
      · obtain ⟨xs, hxs, hrow, hel⟩ := (PB.out HI.out.2).2.1.regions
        have hxl : xs.length = 3 := by rw [← HR3.out, ← hxs]; simp
        obtain ⟨⟨r, y⟩, hx⟩ : ∃ x, xs[k]? = some x := ⟨_, List.getElem?_eq_getElem (by omega)⟩
        have e1 := fst_at hxs hx
        have hry := hel _ (List.mem_of_getElem? hx)
        simp only [] at hry e1 hrow
        rw [HR3.out] at hrow
        rcases (Rd.of_own hrow).2 with ⟨e0, _⟩ | ⟨g, o, c, e2, hc1⟩
        · omega
        simp only [Value.slice.injEq, true_and] at e2
        obtain ⟨rfl, rfl⟩ := e2
        have i0 := Rd.elem rCells_length hc1 k _ hx 0 _ rfl
        rw [Nat.mul_one, Nat.add_zero] at i0
        simp only [] at i0
        have hrl : r.length ≤ 1048576 := H.out.1.region _ (List.mem_of_getElem? e1)
        have hlen : (magicL ++ numL 1 2 ++ (p.regions.take k).flatMap encRegion).length ≤ 6 + k * 258 := by
          have := regions_length p.regions HOK.out.1 k
          simp only [List.length_append, numL_length, magicL, List.length_cons, List.length_nil]
          omega
        have hr256 : r.length ≤ 256 := (HOK.out.1.2 k (by rw [HR3.out]; exact hlt) r e1).1
        have HX : Hid (p.regions[k]? = some r ∧ wr.ownsRow base 2 1 y r.length (r.flatMap intCell)) := ⟨e1, hry⟩
        clear hxs hrow hel hx hc1 e1 hry
        go_wp2_with fail
        refine (putInts_any w.heap.size wb _ 2 y r base _ (by omega) (by omega) hrl (by rw [flat_length num1 1 (fun y => numL_length y 1)]; omega) (Nat.le_trans hBW HI.out.2.size) hwb HI.out.1 HX.out.2).mono ?_
        rintro e u3 ⟨rfl, hW, hG⟩
        have HN : Hid (WAt w.heap.size u3 wb (magicL ++ numL 1 2 ++ (p.regions.take (k + 1)).flatMap encRegion) ∧ Wg w.heap.size W1 u3) := by
          refine ⟨?_, HI.out.2.trans hG⟩
          rw [take_next encRegion HX.out.1, ← List.append_assoc]
          exact hW
        clear hW hG i0
        go_wp2
        go_roundw
        case rel => exact ⟨k + 1, by omega, by go_num, HN⟩
        case measure => simp [intOf]; omega
      · obtain rfl : k = 3 := by omega
        have E3 : Hid (WAt w.heap.size wr wb (magicL ++ numL 1 2 ++ p.regions.flatMap encRegion) ∧ Wg w.heap.size W1 wr) := by
          refine ⟨?_, HI.out.2⟩
          have := HI.out.1
          rw [List.take_of_length_le (by rw [HR3.out]; omega)] at this
          exact this
        clear HI hlt hk
        have hl3 : (magicL ++ numL 1 2 ++ p.regions.flatMap encRegion).length ≤ 780 := by
          have := all_regions p.regions HOK.out.1
          simp only [List.length_append, numL_length, magicL, List.length_cons, List.length_nil]
          omega
        obtain ⟨c0, c1, c2, c3⟩ := blk4 (PB.out E3.out.2).1
        have hc64 := HOK.out.2.1.1
        have hlc : (p.consts.flatMap encConst).length ≤ 320 := by rw [flat_length encConst 5 encConst_length]; omega
        go_wp2_with fail
        refine (putConsts_any w.heap.size wb _ 2 vk p.consts base _ (by omega) (by omega) H.out.1.consts (by omega) (Nat.le_trans hBW E3.out.2.size) hwb (fun x hx => W32_bd (H.out.2.1.consts x hx).2) E3.out.1 (PB.out E3.out.2).2.1.consts).mono ?_
        rintro e u4 ⟨rfl, hW, hG⟩
        have E4 : Hid (WAt w.heap.size u4 wb (magicL ++ numL 1 2 ++ p.regions.flatMap encRegion ++ (numL p.consts.length 2 ++ p.consts.flatMap encConst)) ∧ Wg w.heap.size W1 u4) := ⟨hW, E3.out.2.trans hG⟩
        have hl4 : (magicL ++ numL 1 2 ++ p.regions.flatMap encRegion ++ (numL p.consts.length 2 ++ p.consts.flatMap encConst)).length ≤ 1200 := by
          rw [List.length_append]
          simp only [List.length_append, numL_length] at hl3 ⊢
          omega
        clear hW hG E3 c0 c1 c2 c3 hl3
        obtain ⟨c0, c1, c2, c3⟩ := blk4 (PB.out E4.out.2).1
        obtain ⟨ys, hys, hfr, hfe⟩ := (PB.out E4.out.2).2.1.funcs
        have hyl : ys.length = p.funcs.length := by rw [← hys]; simp
        have hyf : ys.flatMap (fun x : MF × VF => encFunc x.1) = p.funcs.flatMap encFunc := by rw [← hys, List.flatMap_map]
        have hft := funcs_total HOK.out.2.2.1
        simp only [] at hfr
        rw [← hyl] at hfr
        have hyl2 : ys.length ≤ 1048576 := by rw [hyl]; exact H.out.1.funcs
        have HY : Hid ((∀ x ∈ ys, OwnF u4 base x.2 x.1 ∧ x.1.small) ∧ u4.ownsRow base 62 4 vf ys.length (ys.flatMap fCells) ∧ ys.flatMap (fun x : MF × VF => encFunc x.1) = p.funcs.flatMap encFunc ∧ ys.length = p.funcs.length) := ⟨fun x hx => ⟨hfe x hx, H.out.1.func _ (by rw [← hys]; exact List.mem_map_of_mem hx)⟩, hfr, hyf, hyl⟩
        clear hys hfr hfe hyl hyf
        go_wp2_with fail
        refine (putFuncs_any w.heap.size wb _ 2 vf ys base _ (by omega) (by omega) hyl2 (by rw [HY.out.2.2.1]; omega) (Nat.le_trans hBW E4.out.2.size) hwb HY.out.1 E4.out.1 HY.out.2.1).mono ?_
        rw [HY.out.2.2.1, HY.out.2.2.2]
        rintro e u5 ⟨rfl, hW, hG⟩
        have E5 : Hid (WAt w.heap.size u5 wb (magicL ++ numL 1 2 ++ p.regions.flatMap encRegion ++ (numL p.consts.length 2 ++ p.consts.flatMap encConst) ++ (numL p.funcs.length 2 ++ p.funcs.flatMap encFunc)) ∧ Wg w.heap.size W1 u5) := ⟨hW, E4.out.2.trans hG⟩
        have hl5 : (magicL ++ numL 1 2 ++ p.regions.flatMap encRegion ++ (numL p.consts.length 2 ++ p.consts.flatMap encConst) ++ (numL p.funcs.length 2 ++ p.funcs.flatMap encFunc)).length ≤ 266300 := by
          rw [List.length_append]
          simp only [List.length_append, numL_length] at hl4 ⊢
          omega
        clear hW hG E4 HY c0 c1 c2 c3 hl4 hyl2
        obtain ⟨c0, c1, c2, c3⟩ := blk4 (PB.out E5.out.2).1
        have hct := HOK.out.2.2.2.2.1
        have hlt5 : (p.certs.flatMap encCert).length ≤ 576 := by rw [flat_length encCert 9 encCert_length]; omega
        go_wp2_with fail
        refine (putCerts_any w.heap.size wb _ 2 vt p.certs base _ (by omega) (by omega) H.out.1.certs (by omega) (Nat.le_trans hBW E5.out.2.size) hwb (fun x hx => W32_bd (H.out.2.1.certs x hx).2.2.2) E5.out.1 (PB.out E5.out.2).2.1.certs).mono ?_
        rintro e u6 ⟨rfl, hW, hG⟩
        have hEB : magicL ++ numL 1 2 ++ p.regions.flatMap encRegion ++ (numL p.consts.length 2 ++ p.consts.flatMap encConst) ++ (numL p.funcs.length 2 ++ p.funcs.flatMap encFunc) ++ (numL p.certs.length 2 ++ p.certs.flatMap encCert) = encBody p := by
          unfold encBody
          simp only [List.append_assoc]
        have hl6 : (encBody p).length ≤ 300000 := by
          rw [← hEB, List.length_append]
          simp only [List.length_append, numL_length] at hl5 ⊢
          omega
        have hBU := (PB.out (E5.out.2.trans hG)).2.2
        rw [hEB] at hW
        obtain ⟨V, hVb, hVo⟩ := hW
        have E6 : Hid (Blk u6 wb #[V] 77 ∧ u6.ownsRow w.heap.size 5 1 V (encBody p).length (encBody p) ∧ Wg w.heap.size W1 u6 ∧ Below w.heap.size w u6) := ⟨hVb, hVo, E5.out.2.trans hG, hBU⟩
        clear hVb hVo hG hBU hEB E5 c0 c1 c2 c3 hl5
        have HZ : Hid ((bytesOf (encBody p)).map (Value.int .u8) = encBody p ∧ ∀ j, 0 ≤ (bytesOf (encBody p)).getD j 0 ∧ (bytesOf (encBody p)).getD j 0 ≤ 255) := bytesOf_all (encBody_bytes p)
        have d0 : u6.cell? ⟨wb, 0, none⟩ = some V := E6.out.1.cell 0
        have HTab : Hid (TabAt u6) := fun j hj => by
          have h0 : 0 < w.heap.size := block_lt_of_cell (H.out.2.2.2 0 (by decide))
          rw [E6.out.2.2.2.cell (p := ⟨0, j, none⟩) h0]
          exact H.out.2.2.2 j hj
        generalize hEB : encBody p = eb at E6 hl6 HZ
        have HEB : Hid (encBody p = eb) := hEB
        clear hEB
        go_wp2_with fail
        refine (Crc_any V eb.length (bytesOf eb) u6 (by omega) (by rw [HZ.out.1]; exact Reads.of_own E6.out.2.1) HZ.out.2 HTab.out).mono ?_
        rintro e u7 ⟨rfl, rfl⟩
        obtain ⟨t0, t1⟩ := toI_bd (~~~(crcTo (bytesOf eb) eb.length))
        generalize hCR : toI (~~~(crcTo (bytesOf eb) eb.length)) = C at t0 t1 ⊢
        have HCR : Hid (toI (~~~(crcTo (bytesOf eb) eb.length)) = C) := hCR
        clear hCR
        have hwC : wrap64 C = C := by unfold wrap64; omega
        go_wp2_with fail
        refine (wnumber_any w.heap.size wb eb C 4 _ (by omega) (by omega) (by omega) (Nat.le_trans hBW E6.out.2.2.1.size) hwb ⟨V, E6.out.1, E6.out.2.1⟩).mono ?_
        rintro e u8 ⟨rfl, ⟨V8, hb8, ho8⟩, hG⟩
        have E8 : Hid (Below w.heap.size w u8 ∧ u8.ownsRow w.heap.size 5 1 V8 (eb ++ numL C 4).length (eb ++ numL C 4)) := ⟨E6.out.2.2.2.trans hG.bel, ho8⟩
        have d8 : u8.cell? ⟨wb, 0, none⟩ = some V8 := hb8.cell 0
        clear hb8 ho8 hG d0
        go_wp2
        go_ret
        exact ⟨_, rfl, E8.out.1, eb ++ numL C 4, .inl ⟨HF0.out, by rw [encode, HEB.out, HCR.out]⟩, E8.out.2⟩
  · have HNF : Hid (¬ FaultIs p 0) := fun e => q0 (hn.one e)
    rw [show errOf n = .iface 122 (.int .i64 n) from if_neg q0]
    clear hn
    go_wp2
    go_ret
    exact ⟨_, rfl, HA.out.2.2, [], .inr ⟨HNF.out, rfl⟩, World.ownsRow_nil _ _ _ _⟩
end Go.Proofs.YtmhggeljphfjfaaGreatDoor
