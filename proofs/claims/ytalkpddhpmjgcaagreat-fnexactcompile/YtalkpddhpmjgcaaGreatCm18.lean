import Derived.Test.YtalkpddhpmjgcaaGreatCm17
import Derived.Test.YtalkpddhpmjgcaaGreatCm3
namespace Go.Proofs.YtalkpddhpmjgcaaGreat
open Go.ChangeShapes Go.WideShapes Go.ChangeAt Go.RowKit
set_option linter.unusedVariables false
/-- A function without a fault of code 3. -/
structure FuncOk (f : MF) : Prop where
  par : f.params.length ≤ 8
  loc : f.params.length + f.locals.length ≤ 32
  pt : f.params.all isT = true
  lt : f.locals.all isT = true
  res : f.result = 0 ∨ isT f.result = true
  code0 : ¬ f.code.length = 0
  code1 : f.code.length ≤ 1024
/-- Function 0 has no parameters and no result. -/
def MainOk (f : MF) : Prop := f.params.length = 0 ∧ f.result = 0
def FuncIn (f : MF) (main : Bool) : Prop := FuncOk f ∧ (main = true → MainOk f)
set_option maxHeartbeats 2000000 in
set_option maxRecDepth 100000 in
theorem l3Func_any (v : VF) (f : MF) (main : Bool) (w : World) (hs : f.small) (h : RdF w v f) :
    Calls Tryz.prog 46 #[.agg #[v.p, .int .i64 f.result, v.l, v.c], .bool main] w fun e w' => SaysIff e (FuncIn f main) ∧ Below w.heap.size w w' := by
  have H1 : Hid (RdF w v f ∧ f.small) := ⟨h, hs⟩
  obtain ⟨a1, c1, e1⟩ := h.1.is_slice
  obtain ⟨a2, c2, e2⟩ := h.2.1.is_slice
  obtain ⟨a3, c3, e3⟩ := h.2.2.is_slice
  obtain ⟨vp, vl, vc⟩ := v
  obtain ⟨s1, s2, s3⟩ := hs
  simp only [] at e1 e2 e3
  subst e1 e2 e3
  clear h
  have HB : Hid (Below w.heap.size w (w.alloc (.cells #[.slice a1 f.params.length c1, .int .i64 f.result, .slice a2 f.locals.length c2, .slice a3 f.code.length c3] 86))) := below_alloc _ _
  by_cases q1 : 8 < f.params.length
  · have HN : Hid (¬ (FuncIn f main)) := fun e => absurd e.1.par (by omega)
    clear H1
    generalize f.params.length = n1 at *
    go_enter Tryz.func46, Tryz.ntmps46
    go_wp2
    go_ret
    exact ⟨.no HN.out, HB.out⟩
  by_cases q2 : 32 < f.params.length + f.locals.length
  · have HN : Hid (¬ (FuncIn f main)) := fun e => absurd e.1.loc (by omega)
    clear H1
    generalize f.params.length = n1 at *
    generalize f.locals.length = n2 at *
    go_enter Tryz.func46, Tryz.ntmps46
    go_wp2
    go_ret
    exact ⟨.no HN.out, HB.out⟩
  have q1' : ¬ (8 : Int) < (f.params.length : Int) := by omega
  have q2' : ¬ (32 : Int) < (f.params.length : Int) + (f.locals.length : Int) := by omega
  have HQ : Hid (f.params.length ≤ 8 ∧ f.params.length + f.locals.length ≤ 32) := ⟨by omega, by omega⟩
  go_enter Tryz.func46, Tryz.ntmps46
  go_wp2_with fail
  refine (l3Types_any _ f.params _ H1.out.2.1 (H1.out.1.1.keep HB.out (Nat.le_refl _))).mono ?_
  rintro e u ⟨rfl, rfl⟩
  cases t1 : f.params.all isT
  · have HN : Hid (¬ (FuncIn f main)) := fun e => by have := e.1.pt; simp [t1] at this
    clear t1
    go_wp2
    go_ret
    exact ⟨.no HN.out, HB.out⟩
  have HT1 : Hid (f.params.all isT = true) := t1
  clear t1
  go_wp2_with fail
  refine (l3Types_any _ f.locals _ H1.out.2.2.1 (H1.out.1.2.1.keep HB.out (Nat.le_refl _))).mono ?_
  rintro e u ⟨rfl, rfl⟩
  cases t1 : f.locals.all isT
  · have HN : Hid (¬ (FuncIn f main)) := fun e => by have := e.1.lt; simp [t1] at this
    clear t1
    go_wp2
    go_ret
    exact ⟨.no HN.out, HB.out⟩
  have HT2 : Hid (f.locals.all isT = true) := t1
  clear t1
  generalize hR : f.result = R at *
  generalize h1 : f.params.length = n1 at *
  generalize h3 : f.code.length = n3 at *
  have HE : Hid (f.result = R ∧ f.params.length = n1 ∧ f.code.length = n3) := ⟨hR, h1, h3⟩
  clear hR h1 h3 q1 q2
  by_cases q3 : R = 0
  · subst q3
    by_cases q4 : n3 = 0
    · subst q4
      have HN : Hid (¬ (FuncIn f main)) := fun e => e.1.code0 HE.out.2.2
      go_wp2
      go_ret
      exact ⟨.no HN.out, HB.out⟩
    have q4' : ((n3 : Int) == 0) = false := by simpa using q4
    by_cases q5 : 1024 < n3
    · have q5' : (1024 : Int) < (n3 : Int) := by omega
      have HN : Hid (¬ (FuncIn f main)) := fun e => absurd e.1.code1 (by rw [HE.out.2.2]; omega)
      go_wp2
      go_ret
      exact ⟨.no HN.out, HB.out⟩
    have q5' : ¬ (1024 : Int) < (n3 : Int) := by omega
    cases main
    · have HY : Hid (FuncIn f false) := ⟨⟨by rw [HE.out.2.1]; exact HQ.out.1, by rw [HE.out.2.1]; exact HQ.out.2, HT1.out, HT2.out, .inl HE.out.1, by rw [HE.out.2.2]; exact q4, by rw [HE.out.2.2]; omega⟩, fun h => by cases h⟩
      go_wp2
      go_ret
      exact ⟨.yes HY.out, HB.out⟩
    · by_cases q6 : n1 = 0
      · subst q6
        have HY : Hid (FuncIn f true) := ⟨⟨by rw [HE.out.2.1]; exact HQ.out.1, by rw [HE.out.2.1]; exact HQ.out.2, HT1.out, HT2.out, .inl HE.out.1, by rw [HE.out.2.2]; exact q4, by rw [HE.out.2.2]; omega⟩, fun _ => ⟨HE.out.2.1, HE.out.1⟩⟩
        go_wp2
        go_ret
        exact ⟨.yes HY.out, HB.out⟩
      · have q6' : ((n1 : Int) == 0) = false := by simpa using q6
        have HN : Hid (¬ (FuncIn f true)) := fun e => q6 (by rw [← HE.out.2.1]; exact (e.2 rfl).1)
        go_wp2
        go_ret
        exact ⟨.no HN.out, HB.out⟩
  · have q3' : (R == 0) = false := by simpa using q3
    go_wp2_with fail
    refine (l2Type_any R _).mono ?_
    rintro e u ⟨rfl, rfl⟩
    cases t1 : isT R
    · have HN : Hid (¬ (FuncIn f main)) := fun e => by have := e.1.res; rw [HE.out.1] at this; simp [q3, t1] at this
      go_wp2
      go_ret
      exact ⟨.no HN.out, HB.out⟩
    have HT3 : Hid (isT R = true) := t1
    clear t1
    by_cases q4 : n3 = 0
    · subst q4
      have HN : Hid (¬ (FuncIn f main)) := fun e => e.1.code0 HE.out.2.2
      go_wp2
      go_ret
      exact ⟨.no HN.out, HB.out⟩
    have q4' : ((n3 : Int) == 0) = false := by simpa using q4
    by_cases q5 : 1024 < n3
    · have q5' : (1024 : Int) < (n3 : Int) := by omega
      have HN : Hid (¬ (FuncIn f main)) := fun e => absurd e.1.code1 (by rw [HE.out.2.2]; omega)
      go_wp2
      go_ret
      exact ⟨.no HN.out, HB.out⟩
    have q5' : ¬ (1024 : Int) < (n3 : Int) := by omega
    cases main
    · have HY : Hid (FuncIn f false) := ⟨⟨by rw [HE.out.2.1]; exact HQ.out.1, by rw [HE.out.2.1]; exact HQ.out.2, HT1.out, HT2.out, .inr (by rw [HE.out.1]; exact HT3.out), by rw [HE.out.2.2]; exact q4, by rw [HE.out.2.2]; omega⟩, fun h => by cases h⟩
      go_wp2
      go_ret
      exact ⟨.yes HY.out, HB.out⟩
    · by_cases q6 : n1 = 0
      · subst q6
        have HN : Hid (¬ (FuncIn f true)) := fun e => q3 (by rw [← HE.out.1]; exact (e.2 rfl).2)
        go_wp2
        go_ret
        exact ⟨.no HN.out, HB.out⟩
      · have q6' : ((n1 : Int) == 0) = false := by simpa using q6
        have HN : Hid (¬ (FuncIn f true)) := fun e => q6 (by rw [← HE.out.2.1]; exact (e.2 rfl).1)
        go_wp2
        go_ret
        exact ⟨.no HN.out, HB.out⟩
end Go.Proofs.YtalkpddhpmjgcaaGreat
