import Derived.Test.YtnemieeeappgnaaGreatDoorDc40
import Derived.Test.YtnemieeeappgnaaGreatDoorDc30
namespace Go.Proofs.YtnemieeeappgnaaGreatDoor
open Go.ChangeShapes Go.WideShapes Go.ChangeAt Go.RowKit
set_option linter.unusedVariables false
set_option maxHeartbeats 4000000 in
set_option maxRecDepth 100000 in
theorem codeHolds_any (v : VP) (p : MP) (w : World) (hs : p.small) (hw : p.wf) (hp : RegionsOk p.regions) (hfo : FuncsOk p.funcs) (h : RdP w v p) (hcap : RdRc w v.r p.regions) :
    Calls Tryz.prog 85 #[.agg #[v.r, v.k, v.f, v.t]] w fun e w' => SaysIff e (CodeOk p) ∧ Below w.heap.size w w' := by
  obtain ⟨xs, ys, hP⟩ := Pg.of hs hw h
  obtain ⟨vr, vk, vf, vt⟩ := v
  simp only [] at hP
  obtain ⟨r3, c3, e3⟩ := hP.fr.is_slice
  have hm := hs.funcs
  subst e3
  have HH : Hid (RegionsOk p.regions ∧ FuncsOk p.funcs ∧ RdRc w vr p.regions) := ⟨hp, hfo, hcap⟩
  clear hs hw h hp hfo hcap
  obtain ⟨rr1, cc1, evr⟩ := hP.rr.is_slice
  obtain ⟨rr2, cc2, evk⟩ : ∃ a c, vk = .slice a p.consts.length c := hP.rd.consts.is_slice
  obtain ⟨rr4, cc4, evt⟩ : ∃ a c, vt = .slice a p.certs.length c := hP.rd.certs.is_slice
  subst evr evk evt
  have HP : Hid _ := hP
  clear hP
  have HI : Hid _ := In1.of w (.slice rr1 p.regions.length cc1) (.slice rr2 p.consts.length cc2) (.slice r3 p.funcs.length c3) (.slice rr4 p.certs.length cc4) 28
  generalize hM : p.funcs.length = m at *
  have HL : Hid (p.funcs.length = m) := hM
  clear hM
  have HP : Hid (Pg w (.slice rr1 p.regions.length cc1) (.slice rr2 p.consts.length cc2) (.slice r3 m c3) (.slice rr4 p.certs.length cc4) p xs ys) := HP
  go_enter Tryz.func85, Tryz.ntmps85
  go_wp2
  go_loopw [11] (fun i wr => ∃ k : Nat, k ≤ m ∧ i = .int .i64 k ∧ Hid (∀ j, j < k → ∀ f, p.funcs[j]? = some f → FuncCodeOk p f) ∧ Hid (In1 w wr (.slice rr1 p.regions.length cc1) (.slice rr2 p.consts.length cc2) (.slice r3 m c3) (.slice rr4 p.certs.length cc4))) (fun i _ => m - (intOf i).toNat)
  case atStart => exact ⟨0, by omega, rfl, fun j hj => by omega, HI⟩
  case round =>
    clear HI
    obtain ⟨k, hk, rfl, HT, HI⟩ := hrel
    by_cases hlt : k < m
    · obtain ⟨⟨f, v⟩, hx⟩ : ∃ x, ys[k]? = some x := ⟨_, List.getElem?_eq_getElem (by rw [HP.out.fl, HL.out]; exact hlt)⟩
      have e1 := fst_at HP.out.fm hx
      have HX : Hid (RdF w v f ∧ f.small ∧ p.funcs[k]? = some f ∧ f.wf ∧ FuncOk f) := ⟨HP.out.fe _ (List.mem_of_getElem? hx), HP.out.small.func _ (List.mem_of_getElem? e1), e1, HP.out.wf.funcs _ (List.mem_of_getElem? e1), HH.out.2.1.2.2.1 k (by rw [HL.out]; exact hlt) _ e1⟩
      clear e1
      rcases HP.out.fr.2 with ⟨e0, _⟩ | ⟨b, o, c, e1, hc1⟩
      · rw [HL.out] at e0
        omega
      rw [HL.out] at e1
      simp only [Value.slice.injEq, true_and] at e1
      obtain ⟨rfl, rfl⟩ := e1
      have i0 := Rd.elem fCells_length hc1 k _ hx 0 _ rfl
      have i1 := Rd.elem fCells_length hc1 k _ hx 1 _ rfl
      have i2 := Rd.elem fCells_length hc1 k _ hx 2 _ rfl
      have i3 := Rd.elem fCells_length hc1 k _ hx 3 _ rfl
      rw [← HI.out.bel.cell (block_lt_of_cell i0), Nat.add_zero] at i0
      rw [← HI.out.bel.cell (block_lt_of_cell i1)] at i1
      rw [← HI.out.bel.cell (block_lt_of_cell i2)] at i2
      rw [← HI.out.bel.cell (block_lt_of_cell i3)] at i3
      clear hc1 hx
      simp only [] at i0 i1 i2 i3
      obtain ⟨ap, cp, ep⟩ := HX.out.1.1.is_slice
      obtain ⟨al, cl, el⟩ := HX.out.1.2.1.is_slice
      obtain ⟨ac, cc, ec⟩ := HX.out.1.2.2.is_slice
      obtain ⟨vp, vl, vc⟩ := v
      simp only [] at ep el ec i0 i1 i2 i3
      subst ep el ec
      obtain ⟨p0, p1, p2, p3⟩ := HI.out.prog
      have nb : ¬ b = wr.heap.size := Nat.ne_of_lt (block_lt_of_cell i0)
      have mb : b < wr.heap.size := block_lt_of_cell i0
      have np : ¬ w.heap.size = wr.heap.size := Nat.ne_of_lt HI.out.prog.lt
      have mp : w.heap.size < wr.heap.size := HI.out.prog.lt
      have hz := HX.out.2.1.2.2
      have HS : Hid (In1 w ((wr.alloc (.cells #[.slice ap f.params.length cp, .int .i64 f.result, .slice al f.locals.length cl, .slice ac f.code.length cc] 64)).alloc (.cells #[(.slice rr1 p.regions.length cc1), (.slice rr2 p.consts.length cc2), .slice (some ⟨b, o, none⟩) m c3, (.slice rr4 p.certs.length cc4), .slice ap f.params.length cp, .int .i64 f.result, .slice al f.locals.length cl, .slice ac f.code.length cc] 156)) (.slice rr1 p.regions.length cc1) (.slice rr2 p.consts.length cc2) (.slice (some ⟨b, o, none⟩) m c3) (.slice rr4 p.certs.length cc4) ∧ At8 ((wr.alloc (.cells #[.slice ap f.params.length cp, .int .i64 f.result, .slice al f.locals.length cl, .slice ac f.code.length cc] 64)).alloc (.cells #[(.slice rr1 p.regions.length cc1), (.slice rr2 p.consts.length cc2), .slice (some ⟨b, o, none⟩) m c3, (.slice rr4 p.certs.length cc4), .slice ap f.params.length cp, .int .i64 f.result, .slice al f.locals.length cl, .slice ac f.code.length cc] 156)) (wr.heap.size + 1) (.slice rr1 p.regions.length cc1) (.slice rr2 p.consts.length cc2) (.slice (some ⟨b, o, none⟩) m c3) (.slice rr4 p.certs.length cc4) (.slice ap f.params.length cp) (.int .i64 f.result) (.slice al f.locals.length cl) (.slice ac f.code.length cc)) := by
        refine ⟨HI.out.keep (below_on (below_alloc _ _) (Nat.le_refl _) (below_alloc _ _)), ?_⟩
        have := At8.new (wr.alloc (.cells #[.slice ap f.params.length cp, .int .i64 f.result, .slice al f.locals.length cl, .slice ac f.code.length cc] 64)) (.slice rr1 p.regions.length cc1) (.slice rr2 p.consts.length cc2) (.slice (some ⟨b, o, none⟩) m c3) (.slice rr4 p.certs.length cc4) (.slice ap f.params.length cp) (.int .i64 f.result) (.slice al f.locals.length cl) (.slice ac f.code.length cc) 156
        simpa using this
      go_wp2
      clear p0 p1 p2 p3 i0 i1 i2 i3 nb mb np mp
      generalize hZ : f.code.length = z at *
      have HZ : Hid (f.code.length = z) := hZ
      clear hZ
      generalize wr.heap.size + 1 = SB at HS ⊢
      go_loopw [21] (fun i wr2 => ∃ q : Nat, q ≤ z ∧ i = .int .i64 q ∧ Hid (∀ j, j < q → ∀ x, f.code[j]? = some x → InstrOk p f x) ∧ Hid (In1 w wr2 (.slice rr1 p.regions.length cc1) (.slice rr2 p.consts.length cc2) (.slice (some ⟨b, o, none⟩) m c3) (.slice rr4 p.certs.length cc4) ∧ At8 wr2 SB (.slice rr1 p.regions.length cc1) (.slice rr2 p.consts.length cc2) (.slice (some ⟨b, o, none⟩) m c3) (.slice rr4 p.certs.length cc4) (.slice ap f.params.length cp) (.int .i64 f.result) (.slice al f.locals.length cl) (.slice ac z cc))) (fun i _ => z - (intOf i).toNat)
      case atStart => exact ⟨0, by omega, rfl, fun j hj => by omega, HS⟩
      case round =>
        clear HS
        obtain ⟨q, hq, rfl, HTT, HS⟩ := hrel
        by_cases hlq : q < z
        · obtain ⟨x, hx⟩ : ∃ x, f.code[q]? = some x := ⟨_, List.getElem?_eq_getElem (by rw [HZ.out]; exact hlq)⟩
          have hxw := HX.out.2.2.2.1.code x (List.mem_of_getElem? hx)
          rcases HX.out.1.2.2.2 with ⟨e0, _⟩ | ⟨b', o', c', e1, hc2⟩
          · rw [HZ.out] at e0
            omega
          rw [HZ.out] at e1
          simp only [Value.slice.injEq, true_and] at e1
          obtain ⟨rfl, rfl⟩ := e1
          have j0 := Rd.elem MI.cells_length hc2 q x hx 0 _ rfl
          have j1 := Rd.elem MI.cells_length hc2 q x hx 1 _ rfl
          have j2 := Rd.elem MI.cells_length hc2 q x hx 2 _ rfl
          have j3 := Rd.elem MI.cells_length hc2 q x hx 3 _ rfl
          rw [← HS.out.1.bel.cell (block_lt_of_cell j0), Nat.add_zero] at j0
          rw [← HS.out.1.bel.cell (block_lt_of_cell j1)] at j1
          rw [← HS.out.1.bel.cell (block_lt_of_cell j2)] at j2
          rw [← HS.out.1.bel.cell (block_lt_of_cell j3)] at j3
          have HXX : Hid (f.code[q]? = some x ∧ x.wf) := ⟨hx, hxw⟩
          clear hc2 hx hxw
          obtain ⟨xo, xa, xb, xc⟩ := x
          simp only [] at j0 j1 j2 j3
          obtain ⟨s0, s1, s2, s3, s4, s5, s6, s7⟩ := HS.out.2
          have nb : ¬ b' = wr.heap.size := Nat.ne_of_lt (block_lt_of_cell j0)
          have mb : b' < wr.heap.size := block_lt_of_cell j0
          have np : ¬ SB = wr.heap.size := Nat.ne_of_lt HS.out.2.lt
          have mp : SB < wr.heap.size := HS.out.2.lt
          go_wp2_with fail
          have bA := below_alloc wr (.cells #[.int .i64 xo, .int .i64 xa, .int .i64 xb, .int .i64 xc] 73)
          have bW := below_on HS.out.1.bel (Nat.le_refl _) bA
          refine (holds_any ⟨(.slice rr1 p.regions.length cc1), (.slice rr2 p.consts.length cc2), .slice (some ⟨b, o, none⟩) m c3, (.slice rr4 p.certs.length cc4)⟩ p ⟨.slice ap f.params.length cp, .slice al f.locals.length cl, .slice (some ⟨b', o', none⟩) z cc⟩ f xo xa xb xc _ HP.out.small HH.out.1 HX.out.2.2.2.2 HX.out.2.1 HXX.out.2.2.1 HXX.out.2.2.2.1 HXX.out.2.2.2.2 (HP.out.rd.keep bW (Nat.le_refl _)) (HH.out.2.2.keep bW (Nat.le_refl _)) (HX.out.1.keep bW (Nat.le_refl _))).mono ?_
          rintro e u4 ⟨⟨b4, rfl, hb4⟩, bl4⟩
          have bU := below_on bA (Nat.le_refl _) bl4
          have HS2 : Hid (In1 w u4 (.slice rr1 p.regions.length cc1) (.slice rr2 p.consts.length cc2) (.slice (some ⟨b, o, none⟩) m c3) (.slice rr4 p.certs.length cc4) ∧ At8 u4 SB (.slice rr1 p.regions.length cc1) (.slice rr2 p.consts.length cc2) (.slice (some ⟨b, o, none⟩) m c3) (.slice rr4 p.certs.length cc4) (.slice ap f.params.length cp) (.int .i64 f.result) (.slice al f.locals.length cl) (.slice (some ⟨b', o', none⟩) z cc)) := ⟨HS.out.1.keep bU, HS.out.2.keep bU⟩
          clear bA bW bl4 bU HS j0 j1 j2 j3 s0 s1 s2 s3 s4 s5 s6 s7 nb mb np mp
          cases b4
          · have HN : Hid (¬ CodeOk p) := fun e => by
              have := e k (by rw [HL.out]; exact hlt) f HX.out.2.2.1 q (by rw [HZ.out]; exact hlq) _ HXX.out.1
              simp [this] at hb4
            clear hb4
            go_wp2
            go_ret
            exact ⟨.no HN.out, HS2.out.1.bel⟩
          · have HOK : Hid (InstrOk p f ⟨xo, xa, xb, xc⟩) := hb4.1 rfl
            clear hb4
            go_wp2
            go_roundw
            case rel => exact ⟨q + 1, by omega, by go_num, upto_next HXX.out.1 HOK.out HTT.out, HS2⟩
            case measure => simp [intOf]; omega
        · have hqz : z = q := by omega
          subst hqz
          have HFC : Hid (FuncCodeOk p f) := fun j hj x hx => HTT.out j (by rw [← HZ.out]; exact hj) x hx
          go_wp2
          go_roundw
          case rel => exact ⟨k + 1, by omega, by go_num, upto_next HX.out.2.2.1 HFC.out HT.out, HS.out.1⟩
          case measure => simp [intOf]; omega
    · have hkn : m = k := by omega
      subst hkn
      have HCo : Hid (CodeOk p) := fun j hj f hf => HT.out j (by rw [← HL.out]; exact hj) f hf
      go_wp2
      go_ret
      exact ⟨.yes HCo.out, HI.out.bel⟩
end Go.Proofs.YtnemieeeappgnaaGreatDoor
namespace Go.Proofs.YtnemieeeappgnaaGreatDoor
open Go.ChangeShapes Go.WideShapes Go.ChangeAt Go.RowKit
set_option linter.unusedVariables false
/-- A slice that is nil, or has a place. -/
def Placed (v : Value) : Prop := v = .slice none 0 0 ∨ ∃ ad n c, v = .slice (some ad) n c
set_option maxHeartbeats 1000000 in
theorem rises_any (x y : MT) (w : World) :
    Calls Tryz.prog 97 #[.agg #[.int .i64 x.func, .int .i64 x.head, .int .i64 x.counter, .int .u32 x.init], .agg #[.int .i64 y.func, .int .i64 y.head, .int .i64 y.counter, .int .u32 y.init]] w fun e w' => SaysIff e (Rises x y) ∧ Below w.heap.size w w' := by
  have HB : Hid (Below w.heap.size w ((w.alloc (.cells #[.int .i64 x.func, .int .i64 x.head, .int .i64 x.counter, .int .u32 x.init] 67)).alloc (.cells #[.int .i64 y.func, .int .i64 y.head, .int .i64 y.counter, .int .u32 y.init] 67))) := below_on (below_alloc _ _) (Nat.le_refl _) (below_alloc _ _)
  go_enter Tryz.func97, Tryz.ntmps97
  go_wp2
  all_goals (go_ret; refine ⟨SaysIff.of ?_, by first | exact HB.out | (rw [‹x.func = y.func›] at HB; exact HB.out)⟩; go_light; unfold Rises; simp_all <;> omega)
end Go.Proofs.YtnemieeeappgnaaGreatDoor
namespace Go.Proofs.YtnemieeeappgnaaGreatDoor
open Go.ChangeShapes Go.WideShapes Go.ChangeAt Go.RowKit
set_option linter.unusedVariables false
set_option maxHeartbeats 1000000 in
set_option maxRecDepth 100000 in
theorem localType_any (x0 x1 x2 x3 : Value) (g : VF) (f : MF) (n : Nat) (z : Int) (w : World) (hs : f.small) (h : RdF w g f) (hz : (f.params ++ f.locals)[n]? = some z) :
    Calls Tryz.prog 106 #[.agg #[x0, x1, x2, x3, g.p, .int .i64 f.result, g.l, g.c], .int .i64 (n : Int)] w fun e w' => e = .returned (.int .i64 z) ∧ Below w.heap.size w w' := by
  obtain ⟨a1, c1, e1⟩ := h.1.is_slice
  obtain ⟨a2, c2, e2⟩ := h.2.1.is_slice
  obtain ⟨vp, vl, vc⟩ := g
  obtain ⟨s1, s2, s3⟩ := hs
  simp only [] at e1 e2
  subst e1 e2
  have HB : Hid (Below w.heap.size w (w.alloc (.cells #[x0, x1, x2, x3, .slice a1 f.params.length c1, .int .i64 f.result, .slice a2 f.locals.length c2, vc] 156))) := below_alloc _ _
  by_cases q : n < f.params.length
  · rw [List.getElem?_append_left q] at hz
    have hq : (n : Int) < (f.params.length : Int) := by omega
    rcases h.1.2 with ⟨e0, _⟩ | ⟨gr, gor, gcr, e1, hc2⟩
    · omega
    simp only [Value.slice.injEq, true_and] at e1
    obtain ⟨rfl, rfl⟩ := e1
    have l0 := Rd.elem intCell_length hc2 n z hz 0 _ rfl
    rw [Nat.mul_one, Nat.add_zero] at l0
    have l1 := (HB.out.cell (block_lt_of_cell l0)).trans l0
    have nb : ¬ gr = w.heap.size := Nat.ne_of_lt (block_lt_of_cell l0)
    clear h hz hc2
    generalize f.params.length = N at *
    generalize f.locals.length = M at *
    go_enter Tryz.func106, Tryz.ntmps106
    go_wp2
    go_ret
    exact ⟨rfl, HB.out⟩
  · rw [List.getElem?_append_right (by omega)] at hz
    have hlt := (List.getElem?_eq_some_iff.1 hz).1
    obtain ⟨d, rfl⟩ : ∃ d, n = f.params.length + d := ⟨n - f.params.length, by omega⟩
    rw [Nat.add_sub_cancel_left] at hz
    have hq : ¬ ((f.params.length + d : Nat) : Int) < (f.params.length : Int) := by omega
    rcases h.2.1.2 with ⟨e0, _⟩ | ⟨gr, gor, gcr, e1, hc2⟩
    · omega
    simp only [Value.slice.injEq, true_and] at e1
    obtain ⟨rfl, rfl⟩ := e1
    have l0 := Rd.elem intCell_length hc2 d z hz 0 _ rfl
    rw [Nat.mul_one, Nat.add_zero] at l0
    have l1 := (HB.out.cell (block_lt_of_cell l0)).trans l0
    have nb : ¬ gr = w.heap.size := Nat.ne_of_lt (block_lt_of_cell l0)
    have hd : d < f.locals.length := by omega
    clear h hz hc2 q hlt
    generalize f.params.length = N at *
    generalize f.locals.length = M at *
    have hsub : ((N + d : Nat) : Int) - (N : Int) = (d : Int) := by omega
    go_enter Tryz.func106, Tryz.ntmps106
    go_wp2
    go_ret
    exact ⟨rfl, HB.out⟩
end Go.Proofs.YtnemieeeappgnaaGreatDoor
