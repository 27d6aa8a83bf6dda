/- Same4: impl.sameFunc. -/
import Derived.Test.YtlhliibonpdpiaaSame3
namespace Go.Proofs.Ytlhliibonpdpiaa
open Go.ChangeShapes Go.WideShapes Go.ChangeAt Go.RowKit
set_option linter.unusedVariables false
theorem MF.eq_iff (f g : MF) : f = g ↔ f.params = g.params ∧ f.result = g.result ∧ f.locals = g.locals ∧ f.code = g.code := by
  cases f
  cases g
  simp
set_option maxHeartbeats 2000000 in
set_option maxRecDepth 100000 in
theorem sameFunc_any (v v' : VF) (f g : MF) (w : World) (hs : f.small) (hs' : g.small) (h : RdF w v f) (h' : RdF w v' g) :
    Calls Try.prog 23 #[.agg #[v.p, .int .i64 f.result, v.l, v.c], .agg #[v'.p, .int .i64 g.result, v'.l, v'.c]] w fun e w' => SaysIff e (f = g) ∧ Below w.heap.size w w' := by
  have H : Hid (RdF w v f ∧ RdF w v' g ∧ f.small ∧ g.small) := ⟨h, h', hs, hs'⟩
  clear h h' hs hs'
  by_cases hr : f.result = g.result
  · rw [← hr]
    have HR : Hid (f.result = g.result) := hr
    clear hr
    have F0 := Fr2.of w 49 #[v.p, .int .i64 f.result, v.l, v.c] #[v'.p, .int .i64 f.result, v'.l, v'.c] rfl rfl
    go_enter Try.func23, Try.ntmps23
    go_wp2_with fail
    refine (slicesEq64_any v.p v'.p f.params g.params _ H.out.2.2.1.1 H.out.2.2.2.1 (H.out.1.1.keep F0.bel (Nat.le_refl _)) (H.out.2.1.1.keep F0.bel (Nat.le_refl _))).mono ?_
    rintro e u1 ⟨⟨b1, rfl, hb1⟩, m1, e1⟩
    have F1 := F0.keep (e1 ▸ below_drewN _ _ _)
    clear F0 e1
    cases b1
    · have HN : Hid (¬ f = g) := fun e => by simp [(MF.eq_iff f g).1 e] at hb1
      clear hb1
      go_wp2
      go_ret
      exact ⟨.no HN.out, F1.bel⟩
    · have HP : Hid (f.params = g.params) := hb1.1 rfl
      clear hb1
      obtain ⟨p0, p1, p2, p3, _⟩ := row4 F1.par
      obtain ⟨o0, o1, o2, o3, _⟩ := row4 F1.par'
      go_wp2_with fail
      refine (slicesEq64_any v.l v'.l f.locals g.locals _ H.out.2.2.1.2.1 H.out.2.2.2.2.1 (H.out.1.2.1.keep F1.bel (Nat.le_refl _)) (H.out.2.1.2.1.keep F1.bel (Nat.le_refl _))).mono ?_
      rintro e u2 ⟨⟨b2, rfl, hb2⟩, m2, e2⟩
      have F2 := F1.keep (e2 ▸ below_drewN _ _ _)
      clear F1 e2 p0 p1 p2 p3 o0 o1 o2 o3
      cases b2
      · have HN : Hid (¬ f = g) := fun e => by simp [(MF.eq_iff f g).1 e] at hb2
        clear hb2
        go_wp2
        go_ret
        exact ⟨.no HN.out, F2.bel⟩
      · have HL : Hid (f.locals = g.locals) := hb2.1 rfl
        clear hb2
        obtain ⟨p0, p1, p2, p3, _⟩ := row4 F2.par
        obtain ⟨o0, o1, o2, o3, _⟩ := row4 F2.par'
        go_wp2_with fail
        refine (slicesEqI_any v.c v'.c f.code g.code _ H.out.2.2.1.2.2 H.out.2.2.2.2.2 (H.out.1.2.2.keep F2.bel (Nat.le_refl _)) (H.out.2.1.2.2.keep F2.bel (Nat.le_refl _))).mono ?_
        rintro e u3 ⟨⟨b3, rfl, hb3⟩, m3, e3⟩
        have F3 := F2.keep (e3 ▸ below_drewN _ _ _)
        clear F2 e3 p0 p1 p2 p3 o0 o1 o2 o3
        have HB : Hid (b3 = true ↔ f = g) := by
          show _ ↔ _
          rw [hb3, MF.eq_iff]
          simp [HP.out, HL.out, HR.out]
        clear hb3
        go_wp2
        go_ret
        exact ⟨.of HB.out, F3.bel⟩
  · have HN : Hid (¬ f = g) := fun e => hr (by rw [e])
    have F0 := Fr2.of w 49 #[v.p, .int .i64 f.result, v.l, v.c] #[v'.p, .int .i64 g.result, v'.l, v'.c] rfl rfl
    go_enter Try.func23, Try.ntmps23
    go_wp2
    go_ret
    exact ⟨.no HN.out, F0.bel⟩
end Go.Proofs.Ytlhliibonpdpiaa
