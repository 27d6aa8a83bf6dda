import Derived.Test.YtalkpddhpmjgcaaGreatCm40
import Derived.Test.YtalkpddhpmjgcaaGreatCm44
namespace Go.Proofs.YtalkpddhpmjgcaaGreat
open Go.ChangeShapes Go.WideShapes Go.ChangeAt Go.RowKit
set_option linter.unusedVariables false
/-- A list of functions whose lists are nil or have a place. -/
def RdFp (w : World) (s : Value) (fs : List MF) : Prop := ∃ ys : List (MF × VF), ys.map Prod.fst = fs ∧ Rd w 4 s fs.length (ys.flatMap fCells) ∧ ∀ x ∈ ys, RdF w x.2 x.1 ∧ Placed x.2.p ∧ Placed x.2.l
theorem RdFp.keep {w w' : World} {s : Value} {fs : List MF} (h : RdFp w s fs) {B : Nat} (hb : Below B w w') (hB : w.heap.size ≤ B) : RdFp w' s fs := by
  obtain ⟨ys, h1, h2, h3⟩ := h
  exact ⟨ys, h1, h2.keep hb hB, fun x hx => ⟨(h3 x hx).1.keep hb hB, (h3 x hx).2⟩⟩
theorem certOk_iff {p : MP} {fn : Nat} {f : MF} (hf : p.funcs[fn]? = some f) (hd co ini : Int) : CertOk p ⟨fn, hd, co, ini⟩ ↔ (0 ≤ hd ∧ hd < (f.code.length : Int)) ∧ (0 ≤ co ∧ co < ((f.params.length + f.locals.length : Nat) : Int)) ∧ (f.params ++ f.locals)[co.toNat]? = some 3 := by
  constructor
  · rintro ⟨g, h1, h2, h3, h4, h5⟩
    simp only [Int.toNat_natCast] at h1 h3 h4 h5
    rw [hf] at h1
    obtain rfl := Option.some.inj h1
    unfold localOf at h5
    split at h5
    · simp at h5
    · rename_i hc
      rw [List.getD_eq_getElem?_getD] at h5
      by_cases q : co.toNat < (f.params ++ f.locals).length
      · rw [List.getElem?_eq_getElem q] at h5 ⊢
        refine ⟨⟨h3, h4⟩, ⟨by omega, by rw [List.length_append] at q; omega⟩, ?_⟩
        simpa using h5
      · rw [List.getElem?_eq_none (by omega)] at h5
        simp at h5
  · rintro ⟨⟨h3, h4⟩, ⟨h5, h6⟩, h7⟩
    refine ⟨f, by simp only [Int.toNat_natCast]; exact hf, by simp only []; omega, h3, h4, ?_⟩
    unfold localOf
    rw [if_neg (by simp only []; omega), List.getD_eq_getElem?_getD, h7]
    rfl
set_option maxHeartbeats 4000000 in
set_option maxRecDepth 100000 in
theorem certHolds_any (v : VP) (p : MP) (fu hd co ini : Int) (w : World) (hs : p.small) (h : RdP w v p) (hfp : RdFp w v.f p.funcs) :
    Calls Tryz.prog 85 #[.agg #[v.r, v.k, v.f, v.t], .agg #[.int .i64 fu, .int .i64 hd, .int .i64 co, .int .u32 ini]] w fun e w' => SaysIff e (CertOk p ⟨fu, hd, co, ini⟩) ∧ Below w.heap.size w w' := by
  obtain ⟨vr, vk, vf, vt⟩ := v
  obtain ⟨ys, hys, hrd, hel⟩ := hfp
  simp only [] at hrd
  obtain ⟨rr1, cc1, er1⟩ : ∃ a c, vr = .slice a p.regions.length c := by
    obtain ⟨_, _, hq, _⟩ := h.regions
    exact hq.is_slice
  obtain ⟨rr2, cc2, er2⟩ : ∃ a c, vk = .slice a p.consts.length c := h.consts.is_slice
  obtain ⟨rr4, cc4, er4⟩ : ∃ a c, vt = .slice a p.certs.length c := h.certs.is_slice
  subst er1 er2 er4
  have hyl : ys.length = p.funcs.length := by rw [← hys]; simp
  obtain ⟨a2, c2, e2⟩ := hrd.is_slice
  subst e2
  have H2 : Hid (Rd w 4 (.slice a2 p.funcs.length c2) p.funcs.length (ys.flatMap fCells) ∧ ys.map Prod.fst = p.funcs ∧ (∀ x ∈ ys, RdF w x.2 x.1 ∧ Placed x.2.p ∧ Placed x.2.l) ∧ (∀ f ∈ p.funcs, f.small) ∧ ys.length = p.funcs.length) := ⟨hrd, hys, hel, hs.func, hyl⟩
  have hm := hs.funcs
  clear hrd hys hel hyl hs h
  generalize p.regions.length = n1 at *
  generalize p.consts.length = n2 at *
  generalize p.certs.length = n4 at *
  generalize hM : p.funcs.length = m at *
  have HL : Hid (p.funcs.length = m) := hM
  clear hM
  have HI : Hid (Below w.heap.size w ((w.alloc (.cells #[.slice rr1 n1 cc1, .slice rr2 n2 cc2, .slice a2 m c2, .slice rr4 n4 cc4] 31)).alloc (.cells #[.int .i64 fu, .int .i64 hd, .int .i64 co, .int .u32 ini] 112)) ∧ At4 ((w.alloc (.cells #[.slice rr1 n1 cc1, .slice rr2 n2 cc2, .slice a2 m c2, .slice rr4 n4 cc4] 31)).alloc (.cells #[.int .i64 fu, .int .i64 hd, .int .i64 co, .int .u32 ini] 112)) (w.heap.size + 1) (.int .i64 fu) (.int .i64 hd) (.int .i64 co) (.int .u32 ini)) := by
    refine ⟨below_on (below_alloc _ _) (Nat.le_refl _) (below_alloc _ _), ?_⟩
    have := At4.new (w.alloc (.cells #[.slice rr1 n1 cc1, .slice rr2 n2 cc2, .slice a2 m c2, .slice rr4 n4 cc4] 31)) (.int .i64 fu) (.int .i64 hd) (.int .i64 co) (.int .u32 ini) 112
    simpa using this
  by_cases q0 : 0 ≤ fu ∧ fu < (m : Int)
  · have hit : decide (0 ≤ fu ∧ fu < (m : Int)) = true := decide_eq_true q0
    obtain ⟨fn, rfl⟩ := Int.eq_ofNat_of_zero_le q0.1
    have hfn : fn < m := by omega
    clear q0
    obtain ⟨⟨f, v⟩, hy⟩ : ∃ y, ys[fn]? = some y := ⟨_, List.getElem?_eq_getElem (by rw [H2.out.2.2.2.2]; omega)⟩
    have e1 := fst_at H2.out.2.1 hy
    have hfe := H2.out.2.2.1 _ (List.mem_of_getElem? hy)
    have HF : Hid (RdF w v f ∧ Placed v.p ∧ Placed v.l ∧ f.small ∧ p.funcs[fn]? = some f) := ⟨hfe.1, hfe.2.1, hfe.2.2, H2.out.2.2.2.1 _ (List.mem_of_getElem? e1), e1⟩
    clear e1 hfe
    rcases H2.out.1.2 with ⟨e0, _⟩ | ⟨b', o', c', e1, hc2⟩
    · omega
    simp only [Value.slice.injEq, true_and] at e1
    obtain ⟨rfl, rfl⟩ := e1
    have j0 := Rd.elem fCells_length hc2 fn _ hy 0 _ rfl
    have j1 := Rd.elem fCells_length hc2 fn _ hy 1 _ rfl
    have j2 := Rd.elem fCells_length hc2 fn _ hy 2 _ rfl
    have j3 := Rd.elem fCells_length hc2 fn _ hy 3 _ rfl
    rw [Nat.add_zero] at j0
    clear hc2 hy
    simp only [] at j0 j1 j2 j3
    obtain ⟨ap, cp, ep⟩ := HF.out.1.1.is_slice
    obtain ⟨al, cl, el⟩ := HF.out.1.2.1.is_slice
    obtain ⟨ac, cc, ec⟩ := HF.out.1.2.2.is_slice
    obtain ⟨vp, vl, vc⟩ := v
    simp only [] at ep el ec j0 j1 j2 j3
    subst ep el ec
    have k0 := (HI.out.1.cell (block_lt_of_cell j0)).trans j0
    have k1 := (HI.out.1.cell (block_lt_of_cell j1)).trans j1
    have k2 := (HI.out.1.cell (block_lt_of_cell j2)).trans j2
    have k3 := (HI.out.1.cell (block_lt_of_cell j3)).trans j3
    have nb : ¬ b' = w.heap.size := Nat.ne_of_lt (block_lt_of_cell j0)
    have nb2 : ¬ b' = w.heap.size + 1 := by have := block_lt_of_cell j0; simp only [] at this; omega
    have nb3 : ¬ b' = w.heap.size + 1 + 1 := by have := block_lt_of_cell j0; simp only [] at this; omega
    have mb : b' < w.heap.size := block_lt_of_cell j0
    go_enter Tryz.func85, Tryz.ntmps85
    go_wp2_with fail
    refine (isOneOf_any (fn : Int) (m : Int) _).mono ?_
    rintro e u ⟨rfl, rfl⟩
    rw [hit]
    go_wp2_with fail
    have hfm : (fn : Int) < (m : Int) := by omega
    have BX : Below w.heap.size w (((w.alloc (.cells #[.slice rr1 n1 cc1, .slice rr2 n2 cc2, .slice (some ⟨b', o', none⟩) m c2, .slice rr4 n4 cc4] 31)).alloc (.cells #[.int .i64 (fn : Int), .int .i64 hd, .int .i64 co, .int .u32 ini] 112)).alloc (.cells #[.slice none 0 0, .slice none 0 0, .slice none 0 0, .slice none 0 0, .slice none 0 0, .int .i64 0, .slice none 0 0, .slice none 0 0] 144)).drew := below_on (below_on HI.out.1 (Nat.le_refl _) (below_alloc _ _)) (Nat.le_refl _) (below_drew1 _)
    have x0 := (BX.cell (block_lt_of_cell j0)).trans j0
    have x1 := (BX.cell (block_lt_of_cell j1)).trans j1
    have x2 := (BX.cell (block_lt_of_cell j2)).trans j2
    have x3 := (BX.cell (block_lt_of_cell j3)).trans j3
    clear BX
    go_region
    have B1 : Hid (Below w.heap.size w ((((w.alloc (.cells #[.slice rr1 n1 cc1, .slice rr2 n2 cc2, .slice (some ⟨b', o', none⟩) m c2, .slice rr4 n4 cc4] 31)).alloc (.cells #[.int .i64 (fn : Int), .int .i64 hd, .int .i64 co, .int .u32 ini] 112)).alloc (.cells #[.slice rr1 n1 cc1, .slice rr2 n2 cc2, .slice (some ⟨b', o', none⟩) m c2, .slice rr4 n4 cc4, .slice ap f.params.length cp, .int .i64 f.result, .slice al f.locals.length cl, .slice ac f.code.length cc] 144)).drew)) := below_on (below_on HI.out.1 (Nat.le_refl _) (below_alloc _ _)) (Nat.le_refl _) (below_drew1 _)
    have A1 : Hid (At4 ((((w.alloc (.cells #[.slice rr1 n1 cc1, .slice rr2 n2 cc2, .slice (some ⟨b', o', none⟩) m c2, .slice rr4 n4 cc4] 31)).alloc (.cells #[.int .i64 (fn : Int), .int .i64 hd, .int .i64 co, .int .u32 ini] 112)).alloc (.cells #[.slice rr1 n1 cc1, .slice rr2 n2 cc2, .slice (some ⟨b', o', none⟩) m c2, .slice rr4 n4 cc4, .slice ap f.params.length cp, .int .i64 f.result, .slice al f.locals.length cl, .slice ac f.code.length cc] 144)).drew) (w.heap.size + 1) (.int .i64 (fn : Int)) (.int .i64 hd) (.int .i64 co) (.int .u32 ini)) := (HI.out.2.alloc _).keep (below_drew1 _)
    have A2 : Hid (At8 ((((w.alloc (.cells #[.slice rr1 n1 cc1, .slice rr2 n2 cc2, .slice (some ⟨b', o', none⟩) m c2, .slice rr4 n4 cc4] 31)).alloc (.cells #[.int .i64 (fn : Int), .int .i64 hd, .int .i64 co, .int .u32 ini] 112)).alloc (.cells #[.slice rr1 n1 cc1, .slice rr2 n2 cc2, .slice (some ⟨b', o', none⟩) m c2, .slice rr4 n4 cc4, .slice ap f.params.length cp, .int .i64 f.result, .slice al f.locals.length cl, .slice ac f.code.length cc] 144)).drew) (w.heap.size + 1 + 1) (.slice rr1 n1 cc1) (.slice rr2 n2 cc2) (.slice (some ⟨b', o', none⟩) m c2) (.slice rr4 n4 cc4) (.slice ap f.params.length cp) (.int .i64 f.result) (.slice al f.locals.length cl) (.slice ac f.code.length cc)) := by
      have := (At8.new ((w.alloc (.cells #[.slice rr1 n1 cc1, .slice rr2 n2 cc2, .slice (some ⟨b', o', none⟩) m c2, .slice rr4 n4 cc4] 31)).alloc (.cells #[.int .i64 (fn : Int), .int .i64 hd, .int .i64 co, .int .u32 ini] 112)) (.slice rr1 n1 cc1) (.slice rr2 n2 cc2) (.slice (some ⟨b', o', none⟩) m c2) (.slice rr4 n4 cc4) (.slice ap f.params.length cp) (.int .i64 f.result) (.slice al f.locals.length cl) (.slice ac f.code.length cc) 144).keep (below_drew1 _)
      have hsz : ((w.alloc (.cells #[.slice rr1 n1 cc1, .slice rr2 n2 cc2, .slice (some ⟨b', o', none⟩) m c2, .slice rr4 n4 cc4] 31)).alloc (.cells #[.int .i64 (fn : Int), .int .i64 hd, .int .i64 co, .int .u32 ini] 112)).heap.size = w.heap.size + 1 + 1 := by simp
      rw [hsz] at this
      exact this
    generalize (((w.alloc (.cells #[.slice rr1 n1 cc1, .slice rr2 n2 cc2, .slice (some ⟨b', o', none⟩) m c2, .slice rr4 n4 cc4] 31)).alloc (.cells #[.int .i64 (fn : Int), .int .i64 hd, .int .i64 co, .int .u32 ini] 112)).alloc (.cells #[.slice rr1 n1 cc1, .slice rr2 n2 cc2, .slice (some ⟨b', o', none⟩) m c2, .slice rr4 n4 cc4, .slice ap f.params.length cp, .int .i64 f.result, .slice al f.locals.length cl, .slice ac f.code.length cc] 144)).drew = W1 at B1 A1 A2 ⊢
    have HK : Hid (Below w.heap.size w W1 ∧ At4 W1 (w.heap.size + 1) (.int .i64 (fn : Int)) (.int .i64 hd) (.int .i64 co) (.int .u32 ini) ∧ At8 W1 (w.heap.size + 1 + 1) (.slice rr1 n1 cc1) (.slice rr2 n2 cc2) (.slice (some ⟨b', o', none⟩) m c2) (.slice rr4 n4 cc4) (.slice ap f.params.length cp) (.int .i64 f.result) (.slice al f.locals.length cl) (.slice ac f.code.length cc)) := ⟨B1.out, A1.out, A2.out⟩
    clear B1 A1 A2 HI H2 j0 j1 j2 j3 k0 k1 k2 k3 nb nb2 nb3 mb hit x0 x1 x2 x3 hfm
    have HC : Hid (CertOk p ⟨fn, hd, co, ini⟩ ↔ (0 ≤ hd ∧ hd < (f.code.length : Int)) ∧ (0 ≤ co ∧ co < ((f.params.length + f.locals.length : Nat) : Int)) ∧ (f.params ++ f.locals)[co.toNat]? = some 3) := certOk_iff HF.out.2.2.2.2 hd co ini
    obtain ⟨i0, i1, i2, i3⟩ := HK.out.2.1
    obtain ⟨g0, g1, g2, g3, g4, g5, g6, g7⟩ := HK.out.2.2
    have hz3 := HF.out.2.2.2.1.2.2
    go_wp2_with fail
    refine (isOneOf_any hd (f.code.length : Int) _).mono ?_
    rintro e u ⟨rfl, rfl⟩
    by_cases qA : 0 ≤ hd ∧ hd < (f.code.length : Int)
    · have hA : decide (0 ≤ hd ∧ hd < (f.code.length : Int)) = true := decide_eq_true qA
      rw [hA]
      go_wp2_with fail
      refine (hasLocal_any (.slice rr1 n1 cc1) (.slice rr2 n2 cc2) (.slice (some ⟨b', o', none⟩) m c2) (.slice rr4 n4 cc4) ⟨.slice ap f.params.length cp, .slice al f.locals.length cl, .slice ac f.code.length cc⟩ f co _ HF.out.2.2.2.1 (HF.out.1.keep HK.out.1 (Nat.le_refl _))).mono ?_
      rintro e u ⟨⟨bh, rfl, hbh⟩, bl⟩
      have HQ : Hid (Below w.heap.size w u ∧ At4 u (w.heap.size + 1) (.int .i64 (fn : Int)) (.int .i64 hd) (.int .i64 co) (.int .u32 ini) ∧ At8 u (w.heap.size + 1 + 1) (.slice rr1 n1 cc1) (.slice rr2 n2 cc2) (.slice (some ⟨b', o', none⟩) m c2) (.slice rr4 n4 cc4) (.slice ap f.params.length cp) (.int .i64 f.result) (.slice al f.locals.length cl) (.slice ac f.code.length cc)) := ⟨below_on HK.out.1 (Nat.le_refl _) bl, HK.out.2.1.keep bl, HK.out.2.2.keep bl⟩
      clear bl HK i0 i1 i2 i3 g0 g1 g2 g3 g4 g5 g6 g7
      cases bh
      · have HN : Hid (¬ CertOk p ⟨fn, hd, co, ini⟩) := fun e => absurd (hbh.2 ⟨(HC.out.1 e).2.1.1, by have := (HC.out.1 e).2.1.2; omega⟩) Bool.false_ne_true
        clear hbh qA hA
        go_wp2
        go_ret
        exact ⟨.no HN.out, HQ.out.1⟩
      · have hl : HasLocal f co := hbh.1 rfl
        obtain ⟨k, rfl⟩ := Int.eq_ofNat_of_zero_le hl.1
        have hk : k < (f.params ++ f.locals).length := by have := hl.2; rw [List.length_append]; omega
        obtain ⟨x, hx⟩ : ∃ x, (f.params ++ f.locals)[k]? = some x := ⟨_, List.getElem?_eq_getElem hk⟩
        have HY : Hid ((x == 3) = true ↔ CertOk p ⟨fn, hd, k, ini⟩) := by
          show _ ↔ _
          have h2 := hl.2
          rw [HC.out, Int.toNat_natCast, hx]
          simp [qA]
          intro _
          omega
        have HX : Hid ((f.params ++ f.locals)[k]? = some x) := hx
        clear hbh qA hA hl hk hx HC
        obtain ⟨i0, i1, i2, i3⟩ := HQ.out.2.1
        obtain ⟨g0, g1, g2, g3, g4, g5, g6, g7⟩ := HQ.out.2.2
        go_wp2_with fail
        refine (localType_any (.slice rr1 n1 cc1) (.slice rr2 n2 cc2) (.slice (some ⟨b', o', none⟩) m c2) (.slice rr4 n4 cc4) ⟨.slice ap f.params.length cp, .slice al f.locals.length cl, .slice ac f.code.length cc⟩ f k x _ HF.out.2.2.2.1 (HF.out.1.keep HQ.out.1 (Nat.le_refl _)) HX.out).mono ?_
        rintro e u' ⟨rfl, bl⟩
        have HE : Hid (Below w.heap.size w u') := below_on HQ.out.1 (Nat.le_refl _) bl
        clear bl i0 i1 i2 i3 g0 g1 g2 g3 g4 g5 g6 g7
        go_wp2
        go_ret
        exact ⟨.of HY.out, HE.out⟩
    · have hA : decide (0 ≤ hd ∧ hd < (f.code.length : Int)) = false := decide_eq_false qA
      have HN : Hid (¬ CertOk p ⟨fn, hd, co, ini⟩) := fun e => qA (HC.out.1 e).1
      rw [hA]
      clear qA
      go_wp2
      go_ret
      exact ⟨.no HN.out, HK.out.1⟩
  · have HN : Hid (¬ CertOk p ⟨fu, hd, co, ini⟩) := fun ⟨f, h1, h2, _⟩ => q0 ⟨h2, by have := (List.getElem?_eq_some_iff.1 h1).1; simp only [] at this h2; rw [HL.out] at this; omega⟩
    have hit : decide (0 ≤ fu ∧ fu < (m : Int)) = false := decide_eq_false q0
    clear H2
    go_enter Tryz.func85, Tryz.ntmps85
    go_wp2_with fail
    refine (isOneOf_any fu (m : Int) _).mono ?_
    rintro e u ⟨rfl, rfl⟩
    rw [hit]
    go_wp2
    go_ret
    exact ⟨.no HN.out, HI.out.1⟩
end Go.Proofs.YtalkpddhpmjgcaaGreat
