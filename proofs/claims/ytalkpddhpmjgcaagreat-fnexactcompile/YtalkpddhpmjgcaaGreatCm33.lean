import Derived.Test.YtalkpddhpmjgcaaGreatCm32
namespace Go.Proofs.YtalkpddhpmjgcaaGreat
open Go.ChangeShapes Go.WideShapes Go.ChangeAt Go.RowKit
set_option linter.unusedVariables false
set_option maxHeartbeats 2000000 in
set_option maxRecDepth 100000 in
theorem constsHold_any (s : Value) (cs : List MC) (w : World) (hn : cs.length ≤ 1048576) (hw : ∀ c ∈ cs, 0 ≤ c.word) (h : Rd w 2 s cs.length (cs.flatMap MC.cells)) :
    Calls Tryz.prog 57 #[s] w fun e w' => SaysIff e (ConstsOk cs) ∧ Below w.heap.size w w' := by
  have H1 : Hid (Rd w 2 s cs.length (cs.flatMap MC.cells)) := h
  obtain ⟨a1, c1, rfl⟩ := h.is_slice
  clear h
  have HZ : Hid (∀ c ∈ cs, 0 ≤ c.word) := hw
  clear hw
  generalize hLL : cs.length = n at hn H1
  have HL : Hid (cs.length = n) := hLL
  clear hLL
  by_cases q0 : 64 < n
  · have HN : Hid (¬ ConstsOk cs) := fun e => absurd e.1 (by rw [HL.out]; omega)
    clear H1
    go_enter Tryz.func57, Tryz.ntmps57
    go_wp2
    go_ret
    exact ⟨.no HN.out, Below.refl _ _⟩
  go_enter Tryz.func57, Tryz.ntmps57
  go_wp2
  go_loopw [10] (fun i wr => ∃ k : Nat, k ≤ n ∧ i = .int .i64 k ∧ Hid (∀ j, j < k → ∀ c, cs[j]? = some c → ConstOk c) ∧ Hid (Below w.heap.size w wr)) (fun i _ => n - (intOf i).toNat)
  case atStart => exact ⟨0, by omega, rfl, fun j hj => by omega, Below.refl _ _⟩
  case round =>
    obtain ⟨k, hk, rfl, HT, HW⟩ := hrel
    by_cases hlt : k < n
    · obtain ⟨x, hx⟩ : ∃ x, cs[k]? = some x := ⟨_, List.getElem?_eq_getElem (by rw [HL.out]; exact hlt)⟩
      rcases H1.out.2 with ⟨e0, _⟩ | ⟨b, o, c, e1, hc1⟩
      · omega
      · simp only [Value.slice.injEq, true_and] at e1
        obtain ⟨rfl, rfl⟩ := e1
        have i0 := Rd.elem MC.cells_length hc1 k x hx 0 _ rfl
        have i1 := Rd.elem MC.cells_length hc1 k x hx 1 _ rfl
        rw [← HW.out.cell (block_lt_of_cell i0), Nat.add_zero] at i0
        rw [← HW.out.cell (block_lt_of_cell i1)] at i1
        have HX : Hid (cs[k]? = some x) := hx
        clear hc1 hx
        have nb : ¬ b = wr.heap.size := Nat.ne_of_lt (block_lt_of_cell i0)
        have mb : b < wr.heap.size := block_lt_of_cell i0
        have HW2 : Hid (Below w.heap.size w (wr.alloc (.cells #[.int .i64 x.type, .int .u32 x.word] 108))) := below_on HW.out (Nat.le_refl _) (below_alloc _ _)
        go_wp2_with fail
        refine (isValue_any x.type x.word _ (HZ.out x (List.mem_of_getElem? HX.out))).mono ?_
        rintro e u ⟨⟨b1, rfl, hb1⟩, blu⟩
        have HW3 : Hid (Below w.heap.size w u) := below_on HW2.out (Nat.le_refl _) blu
        clear i0 i1 nb mb blu HW2
        cases b1
        · have HN : Hid (¬ ConstsOk cs) := fun e => absurd (hb1.2 (e.2 k (by rw [HL.out]; exact hlt) x HX.out)) Bool.false_ne_true
          clear hb1
          go_wp2
          go_ret
          exact ⟨.no HN.out, HW3.out⟩
        · have HC : Hid (ConstOk x) := hb1.1 rfl
          clear hb1
          go_wp2
          go_roundw
          case rel => exact ⟨k + 1, by omega, by go_num, upto_next HX.out HC.out HT.out, HW3⟩
          case measure => simp [intOf]; omega
    · have hkn : n = k := by omega
      subst hkn
      have HY : Hid (ConstsOk cs) := ⟨by rw [HL.out]; omega, by rw [HL.out]; exact HT.out⟩
      go_wp2
      go_ret
      exact ⟨.yes HY.out, HW.out⟩

set_option maxHeartbeats 2000000 in
set_option maxRecDepth 100000 in
theorem funcHolds_any (v : VF) (f : MF) (w : World) (hs : f.small) (h : RdF w v f) :
    Calls Tryz.prog 83 #[.agg #[v.p, .int .i64 f.result, v.l, v.c]] w fun e w' => SaysIff e (FuncOk f) ∧ Below w.heap.size w w' := by
  have H1 : Hid (RdF w v f ∧ f.small) := ⟨h, hs⟩
  obtain ⟨a1, c1, e1⟩ := h.1.is_slice
  obtain ⟨a2, c2, e2⟩ := h.2.1.is_slice
  obtain ⟨a3, c3, e3⟩ := h.2.2.is_slice
  obtain ⟨vp, vl, vc⟩ := v
  obtain ⟨s1, s2, s3⟩ := hs
  simp only [] at e1 e2 e3
  subst e1 e2 e3
  clear h
  have HB : Hid (Below w.heap.size w (w.alloc (.cells #[.slice a1 f.params.length c1, .int .i64 f.result, .slice a2 f.locals.length c2, .slice a3 f.code.length c3] 86))) := below_alloc _ _
  by_cases q1 : 8 < f.params.length
  · have HN : Hid (¬ FuncOk f) := fun e => absurd e.par (by omega)
    clear H1
    generalize f.params.length = n1 at *
    generalize f.locals.length = n2 at *
    generalize f.code.length = n3 at *
    go_enter Tryz.func83, Tryz.ntmps83
    go_wp2
    go_ret
    exact ⟨.no HN.out, HB.out⟩
  by_cases q2 : 32 < f.params.length + f.locals.length
  · have HN : Hid (¬ FuncOk f) := fun e => absurd e.loc (by omega)
    clear H1
    generalize f.params.length = n1 at *
    generalize f.locals.length = n2 at *
    generalize f.code.length = n3 at *
    go_enter Tryz.func83, Tryz.ntmps83
    go_wp2
    go_ret
    exact ⟨.no HN.out, HB.out⟩
  by_cases q3 : f.code.length = 0
  · have HN : Hid (¬ FuncOk f) := fun e => e.code0 q3
    clear H1
    generalize f.params.length = n1 at *
    generalize f.locals.length = n2 at *
    generalize f.code.length = n3 at *
    subst q3
    go_enter Tryz.func83, Tryz.ntmps83
    go_wp2
    go_ret
    exact ⟨.no HN.out, HB.out⟩
  by_cases q4 : 1024 < f.code.length
  · have HN : Hid (¬ FuncOk f) := fun e => absurd e.code1 (by omega)
    clear H1
    generalize f.params.length = n1 at *
    generalize f.locals.length = n2 at *
    generalize f.code.length = n3 at *
    go_enter Tryz.func83, Tryz.ntmps83
    go_wp2
    go_ret
    exact ⟨.no HN.out, HB.out⟩
  have q1' : ¬ (8 : Int) < (f.params.length : Int) := by omega
  have q2' : ¬ (32 : Int) < (f.params.length : Int) + (f.locals.length : Int) := by omega
  have q3' : ((f.code.length : Int) == 0) = false := by simpa using q3
  have q4' : ¬ (1024 : Int) < (f.code.length : Int) := by omega
  have HQ : Hid (f.params.length ≤ 8 ∧ f.params.length + f.locals.length ≤ 32 ∧ ¬ f.code.length = 0 ∧ f.code.length ≤ 1024) := ⟨by omega, by omega, q3, by omega⟩
  go_enter Tryz.func83, Tryz.ntmps83
  go_wp2_with fail
  refine (allTypes_any _ f.params _ H1.out.2.1 (H1.out.1.1.keep HB.out (Nat.le_refl _))).mono ?_
  rintro e u ⟨rfl, rfl⟩
  cases t1 : f.params.all isT
  · have HN : Hid (¬ FuncOk f) := fun e => by have := e.pt; simp [t1] at this
    clear t1
    go_wp2
    go_ret
    exact ⟨.no HN.out, HB.out⟩
  have HT1 : Hid (f.params.all isT = true) := t1
  clear t1
  go_wp2_with fail
  refine (allTypes_any _ f.locals _ H1.out.2.2.1 (H1.out.1.2.1.keep HB.out (Nat.le_refl _))).mono ?_
  rintro e u ⟨rfl, rfl⟩
  cases t1 : f.locals.all isT
  · have HN : Hid (¬ FuncOk f) := fun e => by have := e.lt; simp [t1] at this
    clear t1
    go_wp2
    go_ret
    exact ⟨.no HN.out, HB.out⟩
  have HT2 : Hid (f.locals.all isT = true) := t1
  clear t1
  generalize hR : f.result = R at *
  have HE : Hid (f.result = R) := hR
  clear hR q1 q2 q3 q4
  by_cases q5 : R = 0
  · subst q5
    have HY : Hid (FuncOk f) := ⟨HQ.out.1, HQ.out.2.1, HT1.out, HT2.out, .inl HE.out, HQ.out.2.2.1, HQ.out.2.2.2⟩
    go_wp2
    go_ret
    exact ⟨.yes HY.out, HB.out⟩
  · have q5' : (R == 0) = false := by simpa using q5
    go_wp2_with fail
    refine (isType_any R _).mono ?_
    rintro e u ⟨rfl, rfl⟩
    cases t1 : isT R
    · have HN : Hid (¬ FuncOk f) := fun e => by have := e.res; rw [HE.out] at this; simp [q5, t1] at this
      clear t1
      go_wp2
      go_ret
      exact ⟨.no HN.out, HB.out⟩
    · have HY : Hid (FuncOk f) := ⟨HQ.out.1, HQ.out.2.1, HT1.out, HT2.out, .inr (by rw [HE.out]; exact t1), HQ.out.2.2.1, HQ.out.2.2.2⟩
      clear t1
      go_wp2
      go_ret
      exact ⟨.yes HY.out, HB.out⟩
end Go.Proofs.YtalkpddhpmjgcaaGreat
