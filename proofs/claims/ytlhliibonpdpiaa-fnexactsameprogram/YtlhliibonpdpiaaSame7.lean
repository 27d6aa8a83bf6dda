/- Same7: spec.l3SameFunc. -/
import Derived.Test.YtlhliibonpdpiaaSame6
namespace Go.Proofs.Ytlhliibonpdpiaa
open Go.ChangeShapes Go.WideShapes Go.ChangeAt Go.RowKit
set_option linter.unusedVariables false
set_option maxHeartbeats 2000000 in
set_option maxRecDepth 100000 in
theorem l3SameFunc_any (v v' : VF) (f g : MF) (w : World) (hs : f.small) (hs' : g.small) (h : RdF w v f) (h' : RdF w v' g) :
    Calls Try.prog 14 #[.agg #[v.p, .int .i64 f.result, v.l, v.c], .agg #[v'.p, .int .i64 g.result, v'.l, v'.c]] w fun e w' => SaysIff e (f = g) ∧ Below w.heap.size w w' := by
  have F0 := Fr2.of w 49 #[v.p, .int .i64 f.result, v.l, v.c] #[v'.p, .int .i64 g.result, v'.l, v'.c] rfl rfl
  have H : Hid (RdF w v f ∧ RdF w v' g ∧ f.small ∧ g.small) := ⟨h, h', hs, hs'⟩
  clear h h' hs hs'
  go_enter Try.func14, Try.ntmps14
  go_wp2_with fail
  refine (l3Same_any v.p v'.p f.params g.params _ H.out.2.2.1.1 H.out.2.2.2.1 (H.out.1.1.keep F0.bel (Nat.le_refl _)) (H.out.2.1.1.keep F0.bel (Nat.le_refl _))).mono ?_
  rintro e u1 ⟨⟨b1, rfl, hb1⟩, m1, e1⟩
  have F1 := F0.keep (e1 ▸ below_drewN _ _ _)
  clear F0 e1
  cases b1
  · have HN : Hid (¬ f = g) := fun e => by simp [(MF.eq_iff f g).1 e] at hb1
    clear hb1
    go_wp2
    go_ret
    exact ⟨.no HN.out, F1.bel⟩
  · have HP : Hid (f.params = g.params) := hb1.1 rfl
    clear hb1
    obtain ⟨p0, p1, p2, p3, _⟩ := row4 F1.par
    obtain ⟨o0, o1, o2, o3, _⟩ := row4 F1.par'
    by_cases hr : f.result = g.result
    · rw [← hr] at o1
      rw [← hr]
      have HR : Hid (f.result = g.result) := hr
      clear hr
      go_wp2_with fail
      refine (l3Same_any v.l v'.l f.locals g.locals _ H.out.2.2.1.2.1 H.out.2.2.2.2.1 (H.out.1.2.1.keep F1.bel (Nat.le_refl _)) (H.out.2.1.2.1.keep F1.bel (Nat.le_refl _))).mono ?_
      rintro e u2 ⟨⟨b2, rfl, hb2⟩, m2, e2⟩
      have F2 := F1.keep (e2 ▸ below_drewN _ _ _)
      clear F1 e2 p0 p1 p2 p3 o0 o1 o2 o3
      cases b2
      · have HN : Hid (¬ f = g) := fun e => by simp [(MF.eq_iff f g).1 e] at hb2
        clear hb2
        go_wp2
        go_ret
        exact ⟨.no HN.out, F2.bel⟩
      · have HL : Hid (f.locals = g.locals) := hb2.1 rfl
        clear hb2
        have HF : Hid (Fr2 w u2 49 #[v.p, .int .i64 f.result, v.l, v.c].toList #[v'.p, .int .i64 g.result, v'.l, v'.c].toList) := F2
        obtain ⟨_, _, _, p3, _⟩ := row4 F2.par
        obtain ⟨_, _, _, o3, _⟩ := row4 F2.par'
        have H1 : Hid (Rd u2 4 v.c f.code.length (f.code.flatMap MI.cells)) := H.out.1.2.2.keep F2.bel (Nat.le_refl _)
        have H2 : Hid (Rd u2 4 v'.c g.code.length (g.code.flatMap MI.cells)) := H.out.2.1.2.2.keep F2.bel (Nat.le_refl _)
        have hn : f.code.length ≤ 1048576 := H.out.2.2.1.2.2
        have hn' : g.code.length ≤ 1048576 := H.out.2.2.2.2.2
        clear F2
        have HC : Hid (f = g ↔ f.code = g.code) := by
          show _ ↔ _
          rw [MF.eq_iff]
          simp [HP.out, HR.out, HL.out]
        obtain ⟨a1, c1, ec1⟩ := H1.out.is_slice
        obtain ⟨a2, c2, ec2⟩ := H2.out.is_slice
        rw [ec1] at p3 H1
        rw [ec2] at o3 H2
        generalize hfc : f.code = xs at *
        generalize hgc : g.code = ys at *
        have HG : Hid (v.c = .slice a1 xs.length c1 ∧ v'.c = .slice a2 ys.length c2) := ⟨ec1, ec2⟩
        clear ec1 ec2 hfc hgc
        by_cases hll : xs.length = ys.length
        · rw [← hll] at H2 o3
          clear hn'
          generalize hLL : xs.length = n at hn H1 H2 p3 o3
          have HLn : Hid (xs.length = n ∧ ys.length = n) := ⟨hLL, hll ▸ hLL⟩
          clear hLL hll
          have hm : Try.prog.eqGuardType Try.prog.depth 68 = false := by kernel_rfl
          go_wp2
          go_loopw [5] (fun i wr => ∃ k : Nat, k ≤ n ∧ i = .int .i64 k ∧ Hid (∀ j, j < k → xs[j]? = ys[j]?) ∧ ∃ m, wr = u2.drewN m) (fun i _ => n - (intOf i).toNat)
          case atStart => exact ⟨0, by omega, rfl, fun j hj => by omega, 0, rfl⟩
          case round =>
            obtain ⟨k, hk, rfl, HT, m, rfl⟩ := hrel
            by_cases hlt : k < n
            · obtain ⟨x, hx⟩ : ∃ x, xs[k]? = some x := ⟨_, List.getElem?_eq_getElem (by rw [HLn.out.1]; exact hlt)⟩
              obtain ⟨y, hy⟩ : ∃ y, ys[k]? = some y := ⟨_, List.getElem?_eq_getElem (by rw [HLn.out.2]; exact hlt)⟩
              rcases H1.out.2 with ⟨e0, _⟩ | ⟨g1, o, c, e1, hc1⟩
              · omega
              · rcases H2.out.2 with ⟨e0, _⟩ | ⟨g', o', c', e2, hc2⟩
                · omega
                · simp only [Value.slice.injEq, true_and] at e1 e2
                  obtain ⟨rfl, rfl⟩ := e1
                  obtain ⟨rfl, rfl⟩ := e2
                  have i0 := Rd.elem MI.cells_length hc1 k x hx 0 _ rfl
                  have i1 := Rd.elem MI.cells_length hc1 k x hx 1 _ rfl
                  have i2 := Rd.elem MI.cells_length hc1 k x hx 2 _ rfl
                  have i3 := Rd.elem MI.cells_length hc1 k x hx 3 _ rfl
                  have j0 := Rd.elem MI.cells_length hc2 k y hy 0 _ rfl
                  have j1 := Rd.elem MI.cells_length hc2 k y hy 1 _ rfl
                  have j2 := Rd.elem MI.cells_length hc2 k y hy 2 _ rfl
                  have j3 := Rd.elem MI.cells_length hc2 k y hy 3 _ rfl
                  rw [Nat.add_zero] at i0 j0
                  have HX : Hid (xs[k]? = some x ∧ ys[k]? = some y) := ⟨hx, hy⟩
                  clear hc1 hc2 hx hy
                  by_cases hxy : x = y
                  · subst hxy
                    have hq : ∀ w, (binOp .neq 68 (.agg #[.int .i64 x.op, .int .i64 x.a, .int .i64 x.b, .int .i64 x.c]) (.agg #[.int .i64 x.op, .int .i64 x.a, .int .i64 x.b, .int .i64 x.c])).run Try.prog w = .ok (.bool false) w := MI.neq_same x
                    go_wp2
                    go_quiet (fail)
                    go_wp2
                    go_roundw
                    case rel => exact ⟨k + 1, by omega, by go_num, same_next HX.out.1 HX.out.2 HT.out, _, rfl⟩
                    case measure => simp [intOf]; omega
                  · have hq : ∀ w, (binOp .neq 68 (.agg #[.int .i64 x.op, .int .i64 x.a, .int .i64 x.b, .int .i64 x.c]) (.agg #[.int .i64 y.op, .int .i64 y.a, .int .i64 y.b, .int .i64 y.c])).run Try.prog w = .ok (.bool true) w := MI.neq_ne x y hxy
                    have HN : Hid (¬ f = g) := fun e => same_ne HX.out.1 HX.out.2 hxy (HC.out.1 e)
                    go_wp2
                    go_quiet (fail)
                    go_wp2
                    go_ret
                    exact ⟨.no HN.out, HF.out.bel.trans (by rw [World.drewN_drewN]; exact below_drewN _ _ _)⟩
            · have hkn : k = n := by omega
              subst hkn
              have HY : Hid (f = g) := HC.out.2 (same_all HLn.out.1 HLn.out.2 HT.out)
              go_wp2
              go_ret
              exact ⟨.yes HY.out, HF.out.bel.trans (below_drewN _ _ _)⟩
        · have HN : Hid (¬ f = g) := fun e => hll (by rw [HC.out.1 e])
          clear H1 H2 HG
          generalize xs.length = n at *
          generalize ys.length = n' at *
          have hi : ¬ (n : Int) = (n' : Int) := by omega
          go_wp2
          go_ret
          exact ⟨.no HN.out, HF.out.bel⟩
    · have HN : Hid (¬ f = g) := fun e => hr (by rw [e])
      go_wp2
      go_ret
      exact ⟨.no HN.out, F1.bel⟩
end Go.Proofs.Ytlhliibonpdpiaa
