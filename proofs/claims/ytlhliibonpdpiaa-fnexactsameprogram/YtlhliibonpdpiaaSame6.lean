/- Same6: impl.SameProgram. -/
import Derived.Test.YtlhliibonpdpiaaSame5
namespace Go.Proofs.Ytlhliibonpdpiaa
open Go.ChangeShapes Go.WideShapes Go.ChangeAt Go.RowKit
set_option linter.unusedVariables false
theorem MP.eq_iff (p q : MP) : p = q ↔ p.regions = q.regions ∧ p.consts = q.consts ∧ p.funcs = q.funcs ∧ p.certs = q.certs := by
  cases p
  cases q
  simp
set_option maxHeartbeats 2000000 in
set_option maxRecDepth 100000 in
theorem implSameProgram_any (v v' : VP) (p q : MP) (w : World) (hs : p.small) (hs' : q.small) (h : RdP w v p) (h' : RdP w v' q) :
    Calls Try.prog 7 #[.agg #[v.r, v.k, v.f, v.t], .agg #[v'.r, v'.k, v'.f, v'.t]] w fun e w' => SaysIff e (p = q) ∧ Below w.heap.size w w' := by
  have F0 := Fr2.of w 34 #[v.r, v.k, v.f, v.t] #[v'.r, v'.k, v'.f, v'.t] rfl rfl
  have HS : Hid (p.small ∧ q.small) := ⟨hs, hs'⟩
  have H : Hid (RdP w v p ∧ RdP w v' q) := ⟨h, h'⟩
  clear h h' hs hs'
  go_enter Try.func7, Try.ntmps7
  go_wp2_with fail
  refine (slicesEqR_any v.r v'.r p.regions q.regions _ HS.out.1.regions HS.out.2.regions HS.out.1.region HS.out.2.region (H.out.1.regions.keep F0.bel (Nat.le_refl _)) (H.out.2.regions.keep F0.bel (Nat.le_refl _))).mono ?_
  rintro e u1 ⟨⟨b1, rfl, hb1⟩, bel1⟩
  have F1 := F0.keep bel1
  clear F0 bel1
  cases b1
  · have HN : Hid (¬ p = q) := fun e => by simp [(MP.eq_iff p q).1 e] at hb1
    clear hb1
    go_wp2
    go_ret
    exact ⟨.no HN.out, F1.bel⟩
  · have HE1 : Hid (p.regions = q.regions) := hb1.1 rfl
    clear hb1
    obtain ⟨p0, p1, p2, p3, _⟩ := row4 F1.par
    obtain ⟨o0, o1, o2, o3, _⟩ := row4 F1.par'
    go_wp2_with fail
    refine (slicesEqC_any v.k v'.k p.consts q.consts _ HS.out.1.consts HS.out.2.consts (H.out.1.consts.keep F1.bel (Nat.le_refl _)) (H.out.2.consts.keep F1.bel (Nat.le_refl _))).mono ?_
    rintro e u2 ⟨⟨b2, rfl, hb2⟩, m2, e2⟩
    have F2 := F1.keep (e2 ▸ below_drewN _ _ _)
    clear F1 e2 p0 p1 p2 p3 o0 o1 o2 o3
    cases b2
    · have HN : Hid (¬ p = q) := fun e => by simp [(MP.eq_iff p q).1 e] at hb2
      clear hb2
      go_wp2
      go_ret
      exact ⟨.no HN.out, F2.bel⟩
    · have HE2 : Hid (p.consts = q.consts) := hb2.1 rfl
      clear hb2
      obtain ⟨p0, p1, p2, p3, _⟩ := row4 F2.par
      obtain ⟨o0, o1, o2, o3, _⟩ := row4 F2.par'
      go_wp2_with fail
      refine (slicesEqF_any v.f v'.f p.funcs q.funcs _ HS.out.1.funcs HS.out.2.funcs HS.out.1.func HS.out.2.func (H.out.1.funcs.keep F2.bel (Nat.le_refl _)) (H.out.2.funcs.keep F2.bel (Nat.le_refl _))).mono ?_
      rintro e u3 ⟨⟨b3, rfl, hb3⟩, bel3⟩
      have F3 := F2.keep bel3
      clear F2 bel3 p0 p1 p2 p3 o0 o1 o2 o3
      cases b3
      · have HN : Hid (¬ p = q) := fun e => by simp [(MP.eq_iff p q).1 e] at hb3
        clear hb3
        go_wp2
        go_ret
        exact ⟨.no HN.out, F3.bel⟩
      · have HE3 : Hid (p.funcs = q.funcs) := hb3.1 rfl
        clear hb3
        obtain ⟨p0, p1, p2, p3, _⟩ := row4 F3.par
        obtain ⟨o0, o1, o2, o3, _⟩ := row4 F3.par'
        go_wp2_with fail
        refine (slicesEqT_any v.t v'.t p.certs q.certs _ HS.out.1.certs HS.out.2.certs (H.out.1.certs.keep F3.bel (Nat.le_refl _)) (H.out.2.certs.keep F3.bel (Nat.le_refl _))).mono ?_
        rintro e u4 ⟨⟨b4, rfl, hb4⟩, m4, e4⟩
        have F4 := F3.keep (e4 ▸ below_drewN _ _ _)
        clear F3 e4 p0 p1 p2 p3 o0 o1 o2 o3
        have HB : Hid (b4 = true ↔ p = q) := by
          show _ ↔ _
          rw [hb4, MP.eq_iff]
          simp [HE1.out, HE2.out, HE3.out]
        clear hb4
        go_wp2
        go_ret
        exact ⟨.of HB.out, F4.bel⟩
end Go.Proofs.Ytlhliibonpdpiaa
