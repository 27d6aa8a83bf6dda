import Derived.Test.YtalkpddhpmjgcaaGreatCm31
import Derived.Test.YtalkpddhpmjgcaaGreatCm34
namespace Go.Proofs.YtalkpddhpmjgcaaGreat
open Go.ChangeShapes Go.WideShapes Go.ChangeAt Go.RowKit
set_option linter.unusedVariables false
def FuncCodeOk (p : MP) (f : MF) : Prop := ∀ k, k < f.code.length → ∀ x, f.code[k]? = some x → InstrOk p f x
def CodeOk (p : MP) : Prop := ∀ j, j < p.funcs.length → ∀ f, p.funcs[j]? = some f → FuncCodeOk p f
/-- The fault of a program: 0, or the code of what comes first. -/
def FaultIs (p : MP) (n : Int) : Prop :=
  (n = 1 ∧ ¬ RegionsOk p.regions) ∨ (n = 2 ∧ RegionsOk p.regions ∧ ¬ ConstsOk p.consts) ∨ (n = 3 ∧ RegionsOk p.regions ∧ ConstsOk p.consts ∧ ¬ FuncsOk p.funcs) ∨
  (n = 4 ∧ RegionsOk p.regions ∧ ConstsOk p.consts ∧ FuncsOk p.funcs ∧ ¬ CodeOk p) ∨ (n = 5 ∧ RegionsOk p.regions ∧ ConstsOk p.consts ∧ FuncsOk p.funcs ∧ CodeOk p ∧ ¬ CertsOk p) ∨
  (n = 0 ∧ RegionsOk p.regions ∧ ConstsOk p.consts ∧ FuncsOk p.funcs ∧ CodeOk p ∧ CertsOk p)
theorem FaultIs.one {p : MP} {n m : Int} (h : FaultIs p n) (h' : FaultIs p m) : n = m := by
  unfold FaultIs at h h'
  by_cases q1 : RegionsOk p.regions <;> by_cases q2 : ConstsOk p.consts <;> by_cases q3 : FuncsOk p.funcs <;> by_cases q4 : CodeOk p <;> by_cases q5 : CertsOk p <;> simp [q1, q2, q3, q4, q5] at h h' <;> omega
def SaysFault (e : Ending) (p : MP) : Prop := ∃ n, e = .returned (.int .i64 n) ∧ FaultIs p n
theorem SaysFault.f1 {p : MP} (h : ¬ RegionsOk p.regions) : SaysFault (.returned (.int .i64 1)) p := ⟨_, rfl, .inl ⟨rfl, h⟩⟩
theorem SaysFault.f2 {p : MP} (h1 : RegionsOk p.regions) (h : ¬ ConstsOk p.consts) : SaysFault (.returned (.int .i64 2)) p := ⟨_, rfl, .inr (.inl ⟨rfl, h1, h⟩)⟩
theorem SaysFault.f3 {p : MP} (h1 : RegionsOk p.regions ∧ ConstsOk p.consts) (h : ¬ FuncsOk p.funcs) : SaysFault (.returned (.int .i64 3)) p := ⟨_, rfl, .inr (.inr (.inl ⟨rfl, h1.1, h1.2, h⟩))⟩
theorem SaysFault.f4 {p : MP} (h1 : RegionsOk p.regions ∧ ConstsOk p.consts) (h2 : FuncsOk p.funcs) (h : ¬ CodeOk p) : SaysFault (.returned (.int .i64 4)) p := ⟨_, rfl, .inr (.inr (.inr (.inl ⟨rfl, h1.1, h1.2, h2, h⟩)))⟩
theorem SaysFault.f5 {p : MP} (h1 : RegionsOk p.regions ∧ ConstsOk p.consts) (h2 : FuncsOk p.funcs) (h3 : CodeOk p) (h : ¬ CertsOk p) : SaysFault (.returned (.int .i64 5)) p := ⟨_, rfl, .inr (.inr (.inr (.inr (.inl ⟨rfl, h1.1, h1.2, h2, h3, h⟩))))⟩
theorem SaysFault.f0 {p : MP} (h1 : RegionsOk p.regions ∧ ConstsOk p.consts) (h2 : FuncsOk p.funcs) (h3 : CodeOk p) (h : CertsOk p) : SaysFault (.returned (.int .i64 0)) p := ⟨_, rfl, .inr (.inr (.inr (.inr (.inr ⟨rfl, h1.1, h1.2, h2, h3, h⟩))))⟩
theorem funcs_of_in {fs : List MF} {n : Nat} (hl : fs.length = n) (h0 : ¬ n = 0) (h1 : n ≤ 32) (h : ∀ j, j < n → ∀ f, fs[j]? = some f → FuncIn f (decide (j = 0))) : FuncsOk fs := by
  refine ⟨by rw [hl]; exact h0, by rw [hl]; exact h1, fun j hj f hf => (h j (by omega) f hf).1, fun f hf => (h 0 (by omega) f hf).2 (by simp)⟩
theorem in_of_funcs {fs : List MF} {k : Nat} {f : MF} (h : FuncsOk fs) (hf : fs[k]? = some f) : FuncIn f (decide (k = 0)) := by
  refine ⟨h.2.2.1 k (List.getElem?_eq_some_iff.1 hf).1 f hf, fun e => ?_⟩
  obtain rfl : k = 0 := by simpa using e
  exact h.2.2.2 f hf
theorem in_next {fs : List MF} {k : Nat} {f : MF} (h1 : fs[k]? = some f) (hx : FuncIn f (decide (k = 0))) (h : ∀ j, j < k → ∀ f, fs[j]? = some f → FuncIn f (decide (j = 0))) : ∀ j, j < k + 1 → ∀ f, fs[j]? = some f → FuncIn f (decide (j = 0)) := by
  intro j hj g hg
  by_cases e : j = k
  · subst e
    rw [h1] at hg
    exact (Option.some.inj hg) ▸ hx
  · exact h j (by omega) g hg
/-- The world of a call whose one argument is a program. -/
structure In1 (w u : World) (a b c d : Value) : Prop where
  bel : Below w.heap.size w u
  prog : At4 u w.heap.size a b c d
theorem In1.keep {w u u' : World} {a b c d : Value} (h : In1 w u a b c d) (hb : Below u.heap.size u u') : In1 w u' a b c d := ⟨below_on h.bel (Nat.le_refl _) hb, h.prog.keep hb⟩
theorem In1.of (w : World) (a b c d : Value) (t : TypeId) : In1 w (w.alloc (.cells #[a, b, c, d] t)) a b c d := ⟨below_alloc _ _, At4.new _ _ _ _ _ _⟩
/-- What is known of a program that is read. -/
structure Pg (w : World) (vr vk vf vt : Value) (p : MP) (xs : List (List Int × Value)) (ys : List (MF × VF)) : Prop where
  small : p.small
  wf : p.wf
  rd : RdP w ⟨vr, vk, vf, vt⟩ p
  rr : Rd w 1 vr p.regions.length (xs.flatMap rCells)
  rm : xs.map Prod.fst = p.regions
  re : ∀ x ∈ xs, Rd w 1 x.2 x.1.length (x.1.flatMap intCell)
  rl : xs.length = p.regions.length
  fr : Rd w 4 vf p.funcs.length (ys.flatMap fCells)
  fm : ys.map Prod.fst = p.funcs
  fe : ∀ x ∈ ys, RdF w x.2 x.1
  fl : ys.length = p.funcs.length
theorem Pg.of {w : World} {v : VP} {p : MP} (hs : p.small) (hw : p.wf) (h : RdP w v p) : ∃ xs ys, Pg w v.r v.k v.f v.t p xs ys := by
  obtain ⟨xs, h1, h2, h3⟩ := h.regions
  obtain ⟨ys, k1, k2, k3⟩ := h.funcs
  exact ⟨xs, ys, hs, hw, h, h2, h1, h3, by rw [← h1]; simp, k2, k1, k3, by rw [← k1]; simp⟩
set_option maxHeartbeats 8000000 in
set_option maxRecDepth 100000 in
theorem specFault_any (v : VP) (p : MP) (w : World) (hs : p.small) (hw : p.wf) (h : RdP w v p) :
    Calls Tryz.prog 21 #[.agg #[v.r, v.k, v.f, v.t]] w fun e w' => SaysFault e p ∧ Below w.heap.size w w' := by
  obtain ⟨xs, ys, hP⟩ := Pg.of hs hw h
  obtain ⟨vr, vk, vf, vt⟩ := v
  simp only [] at hP
  obtain ⟨r1, c1, e1⟩ := hP.rr.is_slice
  obtain ⟨r3, c3, e3⟩ := hP.fr.is_slice
  have hm := hs.funcs
  subst e1 e3
  clear hs hw h
  have HP : Hid _ := hP
  clear hP
  have HI : Hid _ := In1.of w (.slice r1 p.regions.length c1) vk (.slice r3 p.funcs.length c3) vt 31
  by_cases q0 : p.regions.length = 3
  · generalize hN : p.regions.length = n at *
    subst q0
    generalize hM : p.funcs.length = m at *
    have HL : Hid (p.regions.length = 3 ∧ p.funcs.length = m) := ⟨hN, hM⟩
    have HP : Hid (Pg w (.slice r1 3 c1) vk (.slice r3 m c3) vt p xs ys) := HP
    clear hN hM
    go_enter Tryz.func21, Tryz.ntmps21
    go_wp2
    go_loopw [3] (fun i wr => ∃ k : Nat, k ≤ 3 ∧ i = .int .i64 k ∧ Hid (∀ j, j < k → ∀ r, p.regions[j]? = some r → RegionOk r) ∧ Hid (In1 w wr (.slice r1 3 c1) vk (.slice r3 m c3) vt)) (fun i _ => 3 - (intOf i).toNat)
    case atStart => exact ⟨0, by omega, rfl, fun j hj => by omega, HI⟩
    case round =>
      clear HI
      obtain ⟨k, hk, rfl, HT, HI⟩ := hrel
      obtain ⟨p0, p1, p2, p3⟩ := HI.out.prog
      by_cases hlt : k < 3
      · obtain ⟨⟨f, v⟩, hx⟩ : ∃ x, xs[k]? = some x := ⟨_, List.getElem?_eq_getElem (by rw [HP.out.rl, HL.out.1]; exact hlt)⟩
        have e1 := fst_at HP.out.rm hx
        have hf := (HP.out.re _ (List.mem_of_getElem? hx)).keep HI.out.bel (Nat.le_refl _)
        have HX : Hid (Rd wr 1 v f.length (f.flatMap intCell) ∧ f.length ≤ 1048576 ∧ p.regions[k]? = some f) := ⟨hf, HP.out.small.region _ (List.mem_of_getElem? e1), e1⟩
        clear e1
        rcases HP.out.rr.2 with ⟨e0, _⟩ | ⟨b, o, c, e1, hc1⟩
        · rw [HL.out.1] at e0
          omega
        · rw [HL.out.1] at e1
          simp only [Value.slice.injEq, true_and] at e1
          obtain ⟨rfl, rfl⟩ := e1
          have i0 := Rd.elem rCells_length hc1 k _ hx 0 _ rfl
          rw [← HI.out.bel.cell (block_lt_of_cell i0)] at i0
          rw [Nat.mul_one, Nat.add_zero] at i0
          clear hc1 hx
          simp only [] at i0 hf
          obtain ⟨av, cv, ev⟩ := hf.is_slice
          subst ev
          clear hf
          have hz := HX.out.2.1
          by_cases q1 : 256 < f.length
          · have HN : Hid (¬ RegionsOk p.regions) := fun e => absurd (e.2 k (by rw [HL.out.1]; exact hlt) f HX.out.2.2).1 (by omega)
            have q1' : (256 : Int) < (f.length : Int) := by omega
            generalize f.length = z at *
            go_wp2
            go_ret
            exact ⟨.f1 HN.out, HI.out.bel⟩
          · have q1' : ¬ (256 : Int) < (f.length : Int) := by omega
            go_wp2_with fail
            refine (l3Types_any _ f _ HX.out.2.1 HX.out.1).mono ?_
            rintro e u ⟨rfl, rfl⟩
            cases t1 : f.all isT
            · have HN : Hid (¬ RegionsOk p.regions) := fun e => by have := (e.2 k (by rw [HL.out.1]; exact hlt) f HX.out.2.2).2; simp [t1] at this
              clear t1
              go_wp2
              go_ret
              exact ⟨.f1 HN.out, HI.out.bel⟩
            · have HN : Hid (RegionOk f) := ⟨by omega, t1⟩
              clear t1
              go_wp2
              go_roundw
              case rel => exact ⟨k + 1, by omega, by go_num, upto_next HX.out.2.2 HN.out HT.out, HI⟩
              case measure => simp [intOf]; omega
      · have hkn : 3 = k := by omega
        subst hkn
        have HR : Hid (RegionsOk p.regions) := ⟨HL.out.1, by rw [HL.out.1]; exact HT.out⟩
        clear HT hlt hk
        go_wp2_with fail
        refine (l3Consts_any ⟨.slice r1 3 c1, vk, .slice r3 m c3, vt⟩ p _ HP.out.small (HP.out.rd.keep HI.out.bel (Nat.le_refl _))).mono ?_
        rintro e u1 ⟨⟨b1, rfl, hb1⟩, bl1⟩
        have HI1 : Hid (In1 w u1 (.slice r1 3 c1) vk (.slice r3 m c3) vt) := HI.out.keep bl1
        clear bl1 p0 p1 p2 p3 HI
        cases b1
        · have HN : Hid (¬ ConstsOk p.consts) := fun e => by simp [e] at hb1
          clear hb1
          go_wp2
          go_ret
          exact ⟨.f2 HR.out HN.out, HI1.out.bel⟩
        have HRC : Hid (RegionsOk p.regions ∧ ConstsOk p.consts) := ⟨HR.out, hb1.1 rfl⟩
        clear hb1 HR
        obtain ⟨p0, p1, p2, p3⟩ := HI1.out.prog
        by_cases q2 : m = 0
        · have HN : Hid (¬ FuncsOk p.funcs) := fun e => e.1 (HL.out.2.trans q2)
          subst q2
          go_wp2
          go_ret
          exact ⟨.f3 HRC.out HN.out, HI1.out.bel⟩
        have q2' : ((m : Int) == 0) = false := by simpa using q2
        by_cases q3 : 32 < m
        · have HN : Hid (¬ FuncsOk p.funcs) := fun e => absurd e.2.1 (by rw [HL.out.2]; omega)
          have q3' : (32 : Int) < (m : Int) := by omega
          go_wp2
          go_ret
          exact ⟨.f3 HRC.out HN.out, HI1.out.bel⟩
        have q3' : ¬ (32 : Int) < (m : Int) := by omega
        go_wp2
        clear p0 p1 p2 p3 q2' q3'
        go_loopw [4] (fun i wr => ∃ k : Nat, k ≤ m ∧ i = .int .i64 k ∧ Hid (∀ j, j < k → ∀ f, p.funcs[j]? = some f → FuncIn f (decide (j = 0))) ∧ Hid (In1 w wr (.slice r1 3 c1) vk (.slice r3 m c3) vt)) (fun i _ => m - (intOf i).toNat)
        case atStart => exact ⟨0, by omega, rfl, fun j hj => by omega, HI1⟩
        case round =>
          clear HI1
          obtain ⟨k, hk, rfl, HT, HI⟩ := hrel
          obtain ⟨p0, p1, p2, p3⟩ := HI.out.prog
          by_cases hlt : k < m
          · obtain ⟨⟨f, v⟩, hx⟩ : ∃ x, ys[k]? = some x := ⟨_, List.getElem?_eq_getElem (by rw [HP.out.fl, HL.out.2]; exact hlt)⟩
            have e1 := fst_at HP.out.fm hx
            have HX : Hid (RdF wr v f ∧ f.small ∧ p.funcs[k]? = some f) := ⟨(HP.out.fe _ (List.mem_of_getElem? hx)).keep HI.out.bel (Nat.le_refl _), HP.out.small.func _ (List.mem_of_getElem? e1), e1⟩
            clear e1
            rcases HP.out.fr.2 with ⟨e0, _⟩ | ⟨b, o, c, e1, hc1⟩
            · rw [HL.out.2] at e0
              omega
            rw [HL.out.2] at e1
            simp only [Value.slice.injEq, true_and] at e1
            obtain ⟨rfl, rfl⟩ := e1
            have i0 := Rd.elem fCells_length hc1 k _ hx 0 _ rfl
            have i1 := Rd.elem fCells_length hc1 k _ hx 1 _ rfl
            have i2 := Rd.elem fCells_length hc1 k _ hx 2 _ rfl
            have i3 := Rd.elem fCells_length hc1 k _ hx 3 _ rfl
            rw [← HI.out.bel.cell (block_lt_of_cell i0), Nat.add_zero] at i0
            rw [← HI.out.bel.cell (block_lt_of_cell i1)] at i1
            rw [← HI.out.bel.cell (block_lt_of_cell i2)] at i2
            rw [← HI.out.bel.cell (block_lt_of_cell i3)] at i3
            clear hc1 hx
            simp only [] at i0 i1 i2 i3
            go_wp2_with fail
            refine (l3Func_any v f ((k : Int) == 0) _ HX.out.2.1 HX.out.1).mono ?_
            rintro e u2 ⟨⟨b2, rfl, hb2⟩, bl2⟩
            have HI2 : Hid (In1 w u2 (.slice r1 3 c1) vk (.slice (some ⟨b, o, none⟩) m c3) vt) := HI.out.keep bl2
            have hk0 : ((k : Int) == 0) = decide (k = 0) := by
              by_cases e : k = 0
              · subst e
                rfl
              · rw [decide_eq_false e]
                simpa using e
            rw [hk0] at hb2
            clear bl2 HI p0 p1 p2 p3 i0 i1 i2 i3 hk0
            cases b2
            · have HN : Hid (¬ FuncsOk p.funcs) := fun e => by simp [in_of_funcs e HX.out.2.2] at hb2
              clear hb2
              go_wp2
              go_ret
              exact ⟨.f3 HRC.out HN.out, HI2.out.bel⟩
            · have HC : Hid (FuncIn f (decide (k = 0))) := hb2.1 rfl
              clear hb2
              go_wp2
              go_roundw
              case rel => exact ⟨k + 1, by omega, by go_num, in_next HX.out.2.2 HC.out HT.out, HI2⟩
              case measure => simp [intOf]; omega
          · have hkn : m = k := by omega
            subst hkn
            have HFo : Hid (FuncsOk p.funcs) := funcs_of_in HL.out.2 q2 (by omega) HT.out
            clear HT hlt hk
            go_wp2
            clear p0 p1 p2 p3
            go_loopw [5, 6] (fun i kk wr => ∃ k : Nat, k ≤ m ∧ i = .int .i64 k ∧ Hid (∀ j, j < k → ∀ f, p.funcs[j]? = some f → FuncCodeOk p f) ∧ Hid (In1 w wr (.slice r1 3 c1) vk (.slice r3 m c3) vt)) (fun i _ _ => m - (intOf i).toNat)
            case atStart => exact ⟨0, by omega, rfl, fun j hj => by omega, HI⟩
            case round =>
              clear HI
              obtain ⟨k, hk, rfl, HT, HI⟩ := hrel
              obtain ⟨p0, p1, p2, p3⟩ := HI.out.prog
              by_cases hlt : k < m
              · obtain ⟨⟨f, v⟩, hx⟩ : ∃ x, ys[k]? = some x := ⟨_, List.getElem?_eq_getElem (by rw [HP.out.fl, HL.out.2]; exact hlt)⟩
                have e1 := fst_at HP.out.fm hx
                have HX : Hid (RdF w v f ∧ f.small ∧ p.funcs[k]? = some f ∧ f.wf) := ⟨HP.out.fe _ (List.mem_of_getElem? hx), HP.out.small.func _ (List.mem_of_getElem? e1), e1, HP.out.wf.funcs _ (List.mem_of_getElem? e1)⟩
                clear e1
                rcases HP.out.fr.2 with ⟨e0, _⟩ | ⟨b, o, c, e1, hc1⟩
                · rw [HL.out.2] at e0
                  omega
                rw [HL.out.2] at e1
                simp only [Value.slice.injEq, true_and] at e1
                obtain ⟨rfl, rfl⟩ := e1
                have HCF : Hid (w.cell? ⟨b, o + k * 4, none⟩ = some v.p ∧ w.cell? ⟨b, o + k * 4 + 1, none⟩ = some (.int .i64 f.result) ∧ w.cell? ⟨b, o + k * 4 + 2, none⟩ = some v.l ∧ w.cell? ⟨b, o + k * 4 + 3, none⟩ = some v.c) := ⟨Rd.elem fCells_length hc1 k _ hx 0 _ rfl, Rd.elem fCells_length hc1 k _ hx 1 _ rfl, Rd.elem fCells_length hc1 k _ hx 2 _ rfl, Rd.elem fCells_length hc1 k _ hx 3 _ rfl⟩
                clear hc1 hx
                obtain ⟨ac, cc, ec⟩ := HX.out.1.2.2.is_slice
                obtain ⟨vp, vl, vc⟩ := v
                simp only [] at ec
                subst ec
                have hz := HX.out.2.1.2.2
                generalize hZ : f.code.length = z at *
                have HZ : Hid (f.code.length = z) := hZ
                clear hZ
                have i3 := HCF.out.2.2.2
                rw [← HI.out.bel.cell (block_lt_of_cell i3)] at i3
                simp only [] at i3
                go_wp2
                clear p0 p1 p2 p3 i3
                go_loopw [6] (fun i wr => ∃ q : Nat, q ≤ z ∧ i = .int .i64 q ∧ Hid (∀ j, j < q → ∀ x, f.code[j]? = some x → InstrOk p f x) ∧ Hid (In1 w wr (.slice r1 3 c1) vk (.slice (some ⟨b, o, none⟩) m c3) vt)) (fun i _ => z - (intOf i).toNat)
                case atStart => exact ⟨0, by omega, rfl, fun j hj => by omega, HI⟩
                case round =>
                  clear HI
                  obtain ⟨q, hq, rfl, HTT, HI⟩ := hrel
                  obtain ⟨p0, p1, p2, p3⟩ := HI.out.prog
                  obtain ⟨i0, i1, i2, i3⟩ := HCF.out
                  rw [← HI.out.bel.cell (block_lt_of_cell i0)] at i0
                  rw [← HI.out.bel.cell (block_lt_of_cell i1)] at i1
                  rw [← HI.out.bel.cell (block_lt_of_cell i2)] at i2
                  rw [← HI.out.bel.cell (block_lt_of_cell i3)] at i3
                  by_cases hlq : q < z
                  · obtain ⟨x, hx⟩ : ∃ x, f.code[q]? = some x := ⟨_, List.getElem?_eq_getElem (by rw [HZ.out]; exact hlq)⟩
                    have hxw := HX.out.2.2.2.code x (List.mem_of_getElem? hx)
                    rcases HX.out.1.2.2.2 with ⟨e0, _⟩ | ⟨b', o', c', e1, hc2⟩
                    · rw [HZ.out] at e0
                      omega
                    rw [HZ.out] at e1
                    simp only [Value.slice.injEq, true_and] at e1
                    obtain ⟨rfl, rfl⟩ := e1
                    have j0 := Rd.elem MI.cells_length hc2 q x hx 0 _ rfl
                    have j1 := Rd.elem MI.cells_length hc2 q x hx 1 _ rfl
                    have j2 := Rd.elem MI.cells_length hc2 q x hx 2 _ rfl
                    have j3 := Rd.elem MI.cells_length hc2 q x hx 3 _ rfl
                    rw [← HI.out.bel.cell (block_lt_of_cell j0), Nat.add_zero] at j0
                    rw [← HI.out.bel.cell (block_lt_of_cell j1)] at j1
                    rw [← HI.out.bel.cell (block_lt_of_cell j2)] at j2
                    rw [← HI.out.bel.cell (block_lt_of_cell j3)] at j3
                    have HXX : Hid (f.code[q]? = some x ∧ x.wf) := ⟨hx, hxw⟩
                    clear hc2 hx hxw
                    obtain ⟨xo, xa, xb, xc⟩ := x
                    simp only [] at j0 j1 j2 j3
                    have inst := Grown.some wr
                    have P0 := fun n : Grown wr => Grown.cell p0 n
                    have P1 := fun n : Grown wr => Grown.cell p1 n
                    have P2 := fun n : Grown wr => Grown.cell p2 n
                    have P3 := fun n : Grown wr => Grown.cell p3 n
                    have I0 := fun n : Grown wr => Grown.cell i0 n
                    have I1 := fun n : Grown wr => Grown.cell i1 n
                    have I2 := fun n : Grown wr => Grown.cell i2 n
                    have I3 := fun n : Grown wr => Grown.cell i3 n
                    have J0 := fun n : Grown wr => Grown.cell j0 n
                    have J1 := fun n : Grown wr => Grown.cell j1 n
                    have J2 := fun n : Grown wr => Grown.cell j2 n
                    have J3 := fun n : Grown wr => Grown.cell j3 n
                    by_cases hok : InstrOk p f ⟨xo, xa, xb, xc⟩
                    · have HOK : Hid (InstrOk p f ⟨xo, xa, xb, xc⟩) := hok
                      clear hok
                      go_wp2_with fail
                      refine wp_region_grown (by kernel_rfl) (by kernel_rfl) ?_
                      repeat (go_big_quiet_step ((go_at_call 47; rename_i n; exact (l3Instr_any ⟨.slice r1 3 c1, vk, .slice (some ⟨b, o, none⟩) m c3, vt⟩ p ⟨vp, vl, .slice (some ⟨b', o', none⟩) z cc⟩ f xo xa xb xc n.u HP.out.small HL.out.1 HX.out.2.1 HXX.out.2.2.1 HXX.out.2.2.2.1 HXX.out.2.2.2.2 (HP.out.rd.keep (below_on HI.out.bel (Nat.le_refl _) n.h) (Nat.le_refl _)) (HX.out.1.keep (below_on HI.out.bel (Nat.le_refl _) n.h) (Nat.le_refl _))).mono fun e w'' h => ⟨h.1.true HOK.out, ⟨⟨w'', below_on n.h (Nat.le_refl _) h.2⟩, rfl⟩⟩)))
                      refine wpQuiet_nil ?_
                      rintro w'' ⟨n, rfl⟩
                      have HI4 : Hid (In1 w n.u (.slice r1 3 c1) vk (.slice (some ⟨b, o, none⟩) m c3) vt) := HI.out.keep n.h
                      clear HI p0 p1 p2 p3 i0 i1 i2 i3 j0 j1 j2 j3 P0 P1 P2 P3 I0 I1 I2 I3 J0 J1 J2 J3 inst
                      go_wp2
                      go_roundw
                      case rel => exact ⟨q + 1, by omega, by go_num, upto_next HXX.out.1 HOK.out HTT.out, HI4⟩
                      case measure => simp [intOf]; omega
                    · have HOK : Hid (¬ InstrOk p f ⟨xo, xa, xb, xc⟩) := hok
                      have HN : Hid (¬ CodeOk p) := fun e => hok (e k (by rw [HL.out.2]; exact hlt) f HX.out.2.2.1 q (by rw [HZ.out]; exact hlq) _ HXX.out.1)
                      clear hok
                      go_wp2_with fail
                      refine wp_region_grown (by kernel_rfl) (by kernel_rfl) ?_
                      repeat (go_big_quiet_step ((go_at_call 47; rename_i n; exact (l3Instr_any ⟨.slice r1 3 c1, vk, .slice (some ⟨b, o, none⟩) m c3, vt⟩ p ⟨vp, vl, .slice (some ⟨b', o', none⟩) z cc⟩ f xo xa xb xc n.u HP.out.small HL.out.1 HX.out.2.1 HXX.out.2.2.1 HXX.out.2.2.2.1 HXX.out.2.2.2.2 (HP.out.rd.keep (below_on HI.out.bel (Nat.le_refl _) n.h) (Nat.le_refl _)) (HX.out.1.keep (below_on HI.out.bel (Nat.le_refl _) n.h) (Nat.le_refl _))).mono fun e w'' h => ⟨h.1.false HOK.out, ⟨⟨w'', below_on n.h (Nat.le_refl _) h.2⟩, rfl⟩⟩)))
                      refine wpQuiet_nil ?_
                      rintro w'' ⟨n, rfl⟩
                      have HI4 : Hid (In1 w n.u (.slice r1 3 c1) vk (.slice (some ⟨b, o, none⟩) m c3) vt) := HI.out.keep n.h
                      clear HI p0 p1 p2 p3 i0 i1 i2 i3 j0 j1 j2 j3 P0 P1 P2 P3 I0 I1 I2 I3 J0 J1 J2 J3 inst
                      go_wp2
                      go_ret
                      exact ⟨.f4 HRC.out HFo.out HN.out, HI4.out.bel⟩
                  · have hqz : z = q := by omega
                    subst hqz
                    have HFC : Hid (FuncCodeOk p f) := fun j hj x hx => HTT.out j (by rw [← HZ.out]; exact hj) x hx
                    go_wp2
                    go_roundw
                    case rel => exact ⟨k + 1, by omega, by go_num, upto_next HX.out.2.2.1 HFC.out HT.out, HI⟩
                    case measure => simp [intOf]; omega
              · have hkn : m = k := by omega
                subst hkn
                have HCo : Hid (CodeOk p) := fun j hj f hf => HT.out j (by rw [← HL.out.2]; exact hj) f hf
                go_wp2_with fail
                refine (l3Certs_any ⟨.slice r1 3 c1, vk, .slice r3 m c3, vt⟩ p _ HP.out.small HP.out.wf (HP.out.rd.keep HI.out.bel (Nat.le_refl _))).mono ?_
                rintro e u5 ⟨⟨b5, rfl, hb5⟩, bl5⟩
                have HI5 : Hid (Below w.heap.size w u5) := below_on HI.out.bel (Nat.le_refl _) bl5
                clear bl5 p0 p1 p2 p3
                cases b5
                · have HN : Hid (¬ CertsOk p) := fun e => by simp [e] at hb5
                  clear hb5
                  go_wp2
                  go_ret
                  exact ⟨.f5 HRC.out HFo.out HCo.out HN.out, HI5.out⟩
                · have HY : Hid (CertsOk p) := hb5.1 rfl
                  clear hb5
                  go_wp2
                  go_ret
                  exact ⟨.f0 HRC.out HFo.out HCo.out HY.out, HI5.out⟩
  · have HN : Hid (¬ RegionsOk p.regions) := fun e => q0 e.1
    have q0' : ((p.regions.length : Int) == 3) = false := by simp; omega
    have q0'' : ¬ (p.regions.length : Int) = 3 := by omega
    go_enter Tryz.func21, Tryz.ntmps21
    go_wp2
    go_ret
    exact ⟨.f1 HN.out, HI.out.bel⟩
end Go.Proofs.YtalkpddhpmjgcaaGreat
