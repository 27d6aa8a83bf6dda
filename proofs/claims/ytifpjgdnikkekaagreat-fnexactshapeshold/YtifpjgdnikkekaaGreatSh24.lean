import Derived.Test.YtifpjgdnikkekaaGreatSh23
import Derived.Deep.RegionLaw
import Derived.Test.YtifpjgdnikkekaaGreatRows
import Derived.WalkKit
import Derived.ProofKit
import Derived.Below
import Derived.OpenShut
import Derived.Outline
import Derived.WalkLawsBesides
import Derived.Test.YtifpjgdnikkekaaGreatSh2
namespace Go.Proofs.YtifpjgdnikkekaaGreat
open Go.ChangeShapes Go.WideShapes Go.ChangeAt Go.RowKit
set_option linter.unusedVariables false
set_option maxHeartbeats 2000000 in
set_option maxRecDepth 100000 in
theorem takes_28 (v : VP) (p : MP) (g : VF) (f : MF) (q : Nat) (fq : MF) (b c : Int) (w : World) (hs : f.small) (hps : p.small) (hP : RdP w v p) (hr : RdF w g f) (hq : p.funcs[q]? = some fq) : Calls Tryz.prog 147 #[.agg #[v.r, v.k, v.f, v.t, g.p, .int .i64 f.result, g.l, g.c], .agg #[.int .i64 28, .int .i64 (q : Int), .int .i64 b, .int .i64 c]] w (TysIs w fq.params) := by
  obtain ⟨gk, ok, ck, ef0, g', hg', fn0, fn1, fn2, fn3⟩ := fn_at hP.funcs hq
  have hql := (List.getElem?_eq_some_iff.1 hq).1
  obtain ⟨r1, r3, er⟩ := (show ∃ a c, v.r = .slice a p.regions.length c from by obtain ⟨_, _, h2, _⟩ := hP.regions; exact h2.is_slice)
  obtain ⟨k1, k3, ek⟩ := hP.consts.is_slice
  obtain ⟨t1, t3, et⟩ := hP.certs.is_slice
  obtain ⟨f1, f3, ef⟩ := (show ∃ a c, v.f = .slice a p.funcs.length c from by obtain ⟨_, _, h2, _⟩ := hP.funcs; exact h2.is_slice)
  obtain ⟨g1, g3, eg1⟩ := hr.1.is_slice
  obtain ⟨g4, g6, eg2⟩ := hr.2.1.is_slice
  obtain ⟨g7, g9, eg3⟩ := hr.2.2.is_slice
  obtain ⟨gp, gl, gc⟩ := g
  obtain ⟨vr, vk, vf, vt⟩ := v
  simp only [] at er ek et ef eg1 eg2 eg3
  subst er ek et ef eg1 eg2 eg3
  have HP : Hid (RdP w ⟨.slice r1 p.regions.length r3, .slice k1 p.consts.length k3, .slice f1 p.funcs.length f3, .slice t1 p.certs.length t3⟩ p) := hP
  have HR : Hid (RdF w ⟨.slice g1 f.params.length g3, .slice g4 f.locals.length g6, .slice g7 f.code.length g9⟩ f) := hr
  clear hP hr
  simp only [Value.slice.injEq, true_and] at ef0
  obtain ⟨rfl, hx⟩ := ef0
  clear hx
  have hfl := hps.funcs
  have hqI : (q : Int) < (p.funcs.length : Int) := by omega
  have E0 : Hid (Sc2 w ((w.alloc (.cells #[.slice r1 p.regions.length r3, .slice k1 p.consts.length k3, .slice (some ⟨gk, ok, none⟩) p.funcs.length f3, .slice t1 p.certs.length t3, .slice g1 f.params.length g3, .int .i64 f.result, .slice g4 f.locals.length g6, .slice g7 f.code.length g9] 85)).alloc (.cells #[.int .i64 28, .int .i64 (q : Int), .int .i64 b, .int .i64 c] 73)) ⟨.slice r1 p.regions.length r3, .slice k1 p.consts.length k3, .slice (some ⟨gk, ok, none⟩) p.funcs.length f3, .slice t1 p.certs.length t3⟩ ⟨.slice g1 f.params.length g3, .slice g4 f.locals.length g6, .slice g7 f.code.length g9⟩ f 28 (q : Int) b c) := Sc2.of w ⟨.slice r1 p.regions.length r3, .slice k1 p.consts.length k3, .slice (some ⟨gk, ok, none⟩) p.funcs.length f3, .slice t1 p.certs.length t3⟩ ⟨.slice g1 f.params.length g3, .slice g4 f.locals.length g6, .slice g7 f.code.length g9⟩ f 28 (q : Int) b c
  go_enter Tryz.func147, Tryz.ntmps147
  go_upto_region 1 with fail
  refine wp_world (fun u => Hid (Sc2 w u ⟨.slice r1 p.regions.length r3, .slice k1 p.consts.length k3, .slice (some ⟨gk, ok, none⟩) p.funcs.length f3, .slice t1 p.certs.length t3⟩ ⟨.slice g1 f.params.length g3, .slice g4 f.locals.length g6, .slice g7 f.code.length g9⟩ f 28 (q : Int) b c)) E0 ?_
  rintro U E1
  clear E0
  have i0 := E1.out.ib.cell 0
  have i1 := E1.out.ib.cell 1
  have i2 := E1.out.ib.cell 2
  have i3 := E1.out.ib.cell 3
  have s0 := E1.out.sb.cell 0
  have s1 := E1.out.sb.cell 1
  have s2 := E1.out.sb.cell 2
  have s3 := E1.out.sb.cell 3
  have s4 := E1.out.sb.cell 4
  have s5 := E1.out.sb.cell 5
  have s6 := E1.out.sb.cell 6
  have s7 := E1.out.sb.cell 7
  simp only [List.getElem?_toArray, List.getElem?_cons_zero, List.getElem?_cons_succ] at i0 i1 i2 i3 s0 s1 s2 s3 s4 s5 s6 s7
  have c0 := bcell_lt E1.out.bel fn0
  obtain ⟨pa, pc, ep⟩ := hg'.1.is_slice
  have HE : Hid (TysIs w fq.params (.returned g'.p) U) := ⟨g'.p, rfl, hg'.1.keep E1.out.bel (Nat.le_refl _), E1.out.bel⟩
  rw [ep] at c0 HE
  clear fn0 fn1 fn2 fn3
  go_wp2_with fail
  go_ret
  exact HE.out
set_option maxHeartbeats 2000000 in
set_option maxRecDepth 100000 in
theorem gives_28 (v : VP) (p : MP) (g : VF) (f : MF) (q : Nat) (fq : MF) (b c : Int) (w : World) (hs : f.small) (hps : p.small) (hP : RdP w v p) (hr : RdF w g f) (hq : p.funcs[q]? = some fq) : Calls Tryz.prog 150 #[.agg #[v.r, v.k, v.f, v.t, g.p, .int .i64 f.result, g.l, g.c], .agg #[.int .i64 28, .int .i64 (q : Int), .int .i64 b, .int .i64 c]] w (TysIs w (resultL fq)) := by
  obtain ⟨gk, ok, ck, ef0, g', hg', fn0, fn1, fn2, fn3⟩ := fn_at hP.funcs hq
  have hql := (List.getElem?_eq_some_iff.1 hq).1
  obtain ⟨r1, r3, er⟩ := (show ∃ a c, v.r = .slice a p.regions.length c from by obtain ⟨_, _, h2, _⟩ := hP.regions; exact h2.is_slice)
  obtain ⟨k1, k3, ek⟩ := hP.consts.is_slice
  obtain ⟨t1, t3, et⟩ := hP.certs.is_slice
  obtain ⟨f1, f3, ef⟩ := (show ∃ a c, v.f = .slice a p.funcs.length c from by obtain ⟨_, _, h2, _⟩ := hP.funcs; exact h2.is_slice)
  obtain ⟨g1, g3, eg1⟩ := hr.1.is_slice
  obtain ⟨g4, g6, eg2⟩ := hr.2.1.is_slice
  obtain ⟨g7, g9, eg3⟩ := hr.2.2.is_slice
  obtain ⟨gp, gl, gc⟩ := g
  obtain ⟨vr, vk, vf, vt⟩ := v
  simp only [] at er ek et ef eg1 eg2 eg3
  subst er ek et ef eg1 eg2 eg3
  have HP : Hid (RdP w ⟨.slice r1 p.regions.length r3, .slice k1 p.consts.length k3, .slice f1 p.funcs.length f3, .slice t1 p.certs.length t3⟩ p) := hP
  have HR : Hid (RdF w ⟨.slice g1 f.params.length g3, .slice g4 f.locals.length g6, .slice g7 f.code.length g9⟩ f) := hr
  clear hP hr
  simp only [Value.slice.injEq, true_and] at ef0
  obtain ⟨rfl, hx⟩ := ef0
  clear hx
  have hfl := hps.funcs
  have hqI : (q : Int) < (p.funcs.length : Int) := by omega
  have E0 : Hid (Sc2 w ((w.alloc (.cells #[.slice r1 p.regions.length r3, .slice k1 p.consts.length k3, .slice (some ⟨gk, ok, none⟩) p.funcs.length f3, .slice t1 p.certs.length t3, .slice g1 f.params.length g3, .int .i64 f.result, .slice g4 f.locals.length g6, .slice g7 f.code.length g9] 85)).alloc (.cells #[.int .i64 28, .int .i64 (q : Int), .int .i64 b, .int .i64 c] 73)) ⟨.slice r1 p.regions.length r3, .slice k1 p.consts.length k3, .slice (some ⟨gk, ok, none⟩) p.funcs.length f3, .slice t1 p.certs.length t3⟩ ⟨.slice g1 f.params.length g3, .slice g4 f.locals.length g6, .slice g7 f.code.length g9⟩ f 28 (q : Int) b c) := Sc2.of w ⟨.slice r1 p.regions.length r3, .slice k1 p.consts.length k3, .slice (some ⟨gk, ok, none⟩) p.funcs.length f3, .slice t1 p.certs.length t3⟩ ⟨.slice g1 f.params.length g3, .slice g4 f.locals.length g6, .slice g7 f.code.length g9⟩ f 28 (q : Int) b c
  go_enter Tryz.func150, Tryz.ntmps150
  go_upto_region 1 with fail
  refine wp_world (fun u => Hid (Sc2 w u ⟨.slice r1 p.regions.length r3, .slice k1 p.consts.length k3, .slice (some ⟨gk, ok, none⟩) p.funcs.length f3, .slice t1 p.certs.length t3⟩ ⟨.slice g1 f.params.length g3, .slice g4 f.locals.length g6, .slice g7 f.code.length g9⟩ f 28 (q : Int) b c)) E0 ?_
  rintro U E1
  clear E0
  have i0 := E1.out.ib.cell 0
  have i1 := E1.out.ib.cell 1
  have i2 := E1.out.ib.cell 2
  have i3 := E1.out.ib.cell 3
  have s0 := E1.out.sb.cell 0
  have s1 := E1.out.sb.cell 1
  have s2 := E1.out.sb.cell 2
  have s3 := E1.out.sb.cell 3
  have s4 := E1.out.sb.cell 4
  have s5 := E1.out.sb.cell 5
  have s6 := E1.out.sb.cell 6
  have s7 := E1.out.sb.cell 7
  simp only [List.getElem?_toArray, List.getElem?_cons_zero, List.getElem?_cons_succ] at i0 i1 i2 i3 s0 s1 s2 s3 s4 s5 s6 s7
  have c0 := bcell_lt E1.out.bel fn0
  have c1 := bcell_lt E1.out.bel fn1
  have c2 := bcell_lt E1.out.bel fn2
  have c3 := bcell_lt E1.out.bel fn3
  obtain ⟨pa, pc, ep⟩ := hg'.1.is_slice
  obtain ⟨la, lc, el⟩ := hg'.2.1.is_slice
  obtain ⟨ca, cc, ec⟩ := hg'.2.2.is_slice
  rw [ep] at c0
  rw [el] at c2
  rw [ec] at c3
  clear fn0 fn1 fn2 fn3 ep el ec
  go_wp2_with fail
  refine (resT_any ⟨.slice pa fq.params.length pc, .slice la fq.locals.length lc, .slice ca fq.code.length cc⟩ fq U).mono ?_
  rintro e u1 ⟨s, rfl, hrd, b1⟩
  have HE : Hid (TysIs w (resultL fq) (.returned s) u1) := ⟨s, rfl, hrd, below_on E1.out.bel (Nat.le_refl _) b1⟩
  obtain ⟨sa, sc, rfl⟩ := hrd.is_slice
  clear hrd b1
  go_wp2_with fail
  go_ret
  exact HE.out
set_option maxHeartbeats 2000000 in
set_option maxRecDepth 100000 in
theorem gives_1 (v : VP) (p : MP) (g : VF) (f : MF) (q : Nat) (z : MC) (b c : Int) (w : World) (hs : f.small) (hps : p.small) (hP : RdP w v p) (hr : RdF w g f) (hq : p.consts[q]? = some z) : Calls Tryz.prog 150 #[.agg #[v.r, v.k, v.f, v.t, g.p, .int .i64 f.result, g.l, g.c], .agg #[.int .i64 1, .int .i64 (q : Int), .int .i64 b, .int .i64 c]] w (TysIs w [z.type]) := by
  have hql := (List.getElem?_eq_some_iff.1 hq).1
  obtain ⟨gk, ok, ck, ek0, kc0⟩ : ∃ gk ok ck, v.k = .slice (some ⟨gk, ok, none⟩) p.consts.length ck ∧ w.cell? ⟨gk, ok + q * 2, none⟩ = some (.int .i64 z.type) := by
    rcases hP.consts.2 with ⟨e, _⟩ | ⟨gk, ok, ck, e, hc⟩
    · omega
    · exact ⟨gk, ok, ck, e, Rd.elem MC.cells_length hc q z hq 0 _ rfl⟩
  obtain ⟨r1, r3, er⟩ := (show ∃ a c, v.r = .slice a p.regions.length c from by obtain ⟨_, _, h2, _⟩ := hP.regions; exact h2.is_slice)
  obtain ⟨k1, k3, ek⟩ := hP.consts.is_slice
  obtain ⟨t1, t3, et⟩ := hP.certs.is_slice
  obtain ⟨f1, f3, ef⟩ := (show ∃ a c, v.f = .slice a p.funcs.length c from by obtain ⟨_, _, h2, _⟩ := hP.funcs; exact h2.is_slice)
  obtain ⟨g1, g3, eg1⟩ := hr.1.is_slice
  obtain ⟨g4, g6, eg2⟩ := hr.2.1.is_slice
  obtain ⟨g7, g9, eg3⟩ := hr.2.2.is_slice
  obtain ⟨gp, gl, gc⟩ := g
  obtain ⟨vr, vk, vf, vt⟩ := v
  simp only [] at er ek et ef eg1 eg2 eg3
  subst er ek et ef eg1 eg2 eg3
  have HP : Hid (RdP w ⟨.slice r1 p.regions.length r3, .slice k1 p.consts.length k3, .slice f1 p.funcs.length f3, .slice t1 p.certs.length t3⟩ p) := hP
  have HR : Hid (RdF w ⟨.slice g1 f.params.length g3, .slice g4 f.locals.length g6, .slice g7 f.code.length g9⟩ f) := hr
  clear hP hr
  simp only [Value.slice.injEq, true_and] at ek0
  obtain ⟨rfl, hx⟩ := ek0
  clear hx
  have hfl := hps.consts
  have hqI : (q : Int) < (p.consts.length : Int) := by omega
  have E0 : Hid (Sc2 w ((w.alloc (.cells #[.slice r1 p.regions.length r3, .slice (some ⟨gk, ok, none⟩) p.consts.length k3, .slice f1 p.funcs.length f3, .slice t1 p.certs.length t3, .slice g1 f.params.length g3, .int .i64 f.result, .slice g4 f.locals.length g6, .slice g7 f.code.length g9] 85)).alloc (.cells #[.int .i64 1, .int .i64 (q : Int), .int .i64 b, .int .i64 c] 73)) ⟨.slice r1 p.regions.length r3, .slice (some ⟨gk, ok, none⟩) p.consts.length k3, .slice f1 p.funcs.length f3, .slice t1 p.certs.length t3⟩ ⟨.slice g1 f.params.length g3, .slice g4 f.locals.length g6, .slice g7 f.code.length g9⟩ f 1 (q : Int) b c) := Sc2.of w ⟨.slice r1 p.regions.length r3, .slice (some ⟨gk, ok, none⟩) p.consts.length k3, .slice f1 p.funcs.length f3, .slice t1 p.certs.length t3⟩ ⟨.slice g1 f.params.length g3, .slice g4 f.locals.length g6, .slice g7 f.code.length g9⟩ f 1 (q : Int) b c
  go_enter Tryz.func150, Tryz.ntmps150
  go_upto_region 1 with fail
  refine wp_world (fun u => Hid (Sc2 w u ⟨.slice r1 p.regions.length r3, .slice (some ⟨gk, ok, none⟩) p.consts.length k3, .slice f1 p.funcs.length f3, .slice t1 p.certs.length t3⟩ ⟨.slice g1 f.params.length g3, .slice g4 f.locals.length g6, .slice g7 f.code.length g9⟩ f 1 (q : Int) b c)) E0 ?_
  rintro U E1
  clear E0
  have i0 := E1.out.ib.cell 0
  have i1 := E1.out.ib.cell 1
  have i2 := E1.out.ib.cell 2
  have i3 := E1.out.ib.cell 3
  have s0 := E1.out.sb.cell 0
  have s1 := E1.out.sb.cell 1
  have s2 := E1.out.sb.cell 2
  have s3 := E1.out.sb.cell 3
  have s4 := E1.out.sb.cell 4
  have s5 := E1.out.sb.cell 5
  have s6 := E1.out.sb.cell 6
  have s7 := E1.out.sb.cell 7
  simp only [List.getElem?_toArray, List.getElem?_cons_zero, List.getElem?_cons_succ] at i0 i1 i2 i3 s0 s1 s2 s3 s4 s5 s6 s7
  have c0 := bcell_lt E1.out.bel kc0
  clear kc0
  go_wp2_with fail
  go_ret
  exact tys_new E1.out.bel [z.type] 1 1 rfl
set_option maxHeartbeats 4000000 in
theorem takes_any (v : VP) (p : MP) (g : VF) (f : MF) (x : MI) (w : World) (hps : p.small) (h3 : p.regions.length = 3) (hs : f.small) (hP : RdP w v p) (hr : RdF w g f) (hx : InstrOk p f x) :
    Calls Tryz.prog 147 #[.agg #[v.r, v.k, v.f, v.t, g.p, .int .i64 f.result, g.l, g.c], .agg #[.int .i64 x.op, .int .i64 x.a, .int .i64 x.b, .int .i64 x.c]] w (TysIs w (takesI p f x)) := by
  obtain ⟨op, a, b, c⟩ := x
  have hlo := hx.1
  have hhi := hx.2.1
  simp only [] at hlo hhi
  have HX : Hid (InstrOk p f ⟨op, a, b, c⟩) := hx
  by_cases hsp : op = 3 ∨ op = 5 ∨ op = 7 ∨ op = 28 ∨ op = 29
  · clear hlo hhi hx
    rcases hsp with rfl | rfl | rfl | rfl | rfl
    · obtain ⟨q, hq, ht⟩ := HX.out.local (by simp)
      simp only [] at hq ht
      subst hq
      rw [show takesI p f ⟨3, q, b, c⟩ = [localOf f q] from by simp [takesI, takesL]]
      exact takes_3 v p g f q (localOf f q) b c w hs hps hP hr ht
    · obtain ⟨q, z, r, hq, hz, hr', ht⟩ := HX.out.cell h3 (by simp)
      simp only [] at hq hz
      subst hq hz
      rw [show takesI p f ⟨5, q, z, c⟩ = [cellTy p ⟨5, q, z, c⟩] from by simp [takesI, takesL]]
      exact takes_5 v p g f q z r _ c w hs hps hP hr hr' ht
    · obtain ⟨q, z, r, hq, hz, hr', ht⟩ := HX.out.cell h3 (by simp)
      simp only [] at hq hz
      subst hq hz
      rw [show takesI p f ⟨7, q, z, c⟩ = [3, cellTy p ⟨7, q, z, c⟩] from by simp [takesI, takesL]]
      exact takes_7 v p g f q z r _ c w hs hps hP hr hr' ht
    · obtain ⟨q, fq, hq, hfq⟩ := HX.out.callee rfl
      simp only [] at hq
      subst hq
      rw [show takesI p f ⟨28, q, b, c⟩ = fq.params from by simp [takesI, takesL, hfq]]
      exact takes_28 v p g f q fq b c w hs hps hP hr hfq
    · rw [show takesI p f ⟨29, a, b, c⟩ = resultL f from by simp [takesI]]
      exact takes_29 v p g f 0 a b c w hs hps hP hr
  · have hcase : op = 0 ∨ op = 1 ∨ op = 2 ∨ op = 4 ∨ op = 6 ∨ op = 8 ∨ op = 9 ∨ op = 10 ∨ op = 11 ∨ op = 12 ∨ op = 13 ∨ op = 14 ∨ op = 15 ∨ op = 16 ∨ op = 17 ∨ op = 18 ∨ op = 19 ∨ op = 20 ∨ op = 21 ∨ op = 22 ∨ op = 23 ∨ op = 24 ∨ op = 25 ∨ op = 26 ∨ op = 27 := by omega
    clear hlo hhi hx hsp
    rcases hcase with rfl | rfl | rfl | rfl | rfl | rfl | rfl | rfl | rfl | rfl | rfl | rfl | rfl | rfl | rfl | rfl | rfl | rfl | rfl | rfl | rfl | rfl | rfl | rfl | rfl
    all_goals exact takesC v g f _ a b c _ w (by simp [takesI, takesL])
set_option maxHeartbeats 4000000 in
theorem gives_any (v : VP) (p : MP) (g : VF) (f : MF) (x : MI) (w : World) (hps : p.small) (h3 : p.regions.length = 3) (hs : f.small) (hP : RdP w v p) (hr : RdF w g f) (hx : InstrOk p f x) :
    Calls Tryz.prog 150 #[.agg #[v.r, v.k, v.f, v.t, g.p, .int .i64 f.result, g.l, g.c], .agg #[.int .i64 x.op, .int .i64 x.a, .int .i64 x.b, .int .i64 x.c]] w (TysIs w (givesL p f x)) := by
  obtain ⟨op, a, b, c⟩ := x
  have hlo := hx.1
  have hhi := hx.2.1
  simp only [] at hlo hhi
  have HX : Hid (InstrOk p f ⟨op, a, b, c⟩) := hx
  by_cases hsp : op = 1 ∨ op = 2 ∨ op = 4 ∨ op = 6 ∨ op = 28
  · clear hlo hhi hx
    rcases hsp with rfl | rfl | rfl | rfl | rfl
    · obtain ⟨q, z, hq, hz⟩ := HX.out.const rfl
      simp only [] at hq
      subst hq
      rw [show givesL p f ⟨1, q, b, c⟩ = [z.type] from by simp [givesL, vAt, hz]]
      exact gives_1 v p g f q z b c w hs hps hP hr hz
    · obtain ⟨q, hq, ht⟩ := HX.out.local (by simp)
      simp only [] at hq ht
      subst hq
      rw [show givesL p f ⟨2, q, b, c⟩ = [localOf f q] from by simp [givesL]]
      exact gives_2 v p g f q (localOf f q) b c w hs hps hP hr ht
    · obtain ⟨q, z, r, hq, hz, hr', ht⟩ := HX.out.cell h3 (by simp)
      simp only [] at hq hz
      subst hq hz
      rw [show givesL p f ⟨4, q, z, c⟩ = [cellTy p ⟨4, q, z, c⟩] from by simp [givesL]]
      exact gives_4 v p g f q z r _ c w hs hps hP hr hr' ht
    · obtain ⟨q, z, r, hq, hz, hr', ht⟩ := HX.out.cell h3 (by simp)
      simp only [] at hq hz
      subst hq hz
      rw [show givesL p f ⟨6, q, z, c⟩ = [cellTy p ⟨6, q, z, c⟩] from by simp [givesL]]
      exact gives_6 v p g f q z r _ c w hs hps hP hr hr' ht
    · obtain ⟨q, fq, hq, hfq⟩ := HX.out.callee rfl
      simp only [] at hq
      subst hq
      rw [show givesL p f ⟨28, q, b, c⟩ = resultL fq from by simp [givesL, hfq]]
      exact gives_28 v p g f q fq b c w hs hps hP hr hfq
  · have hcase : op = 0 ∨ op = 3 ∨ op = 5 ∨ op = 7 ∨ op = 8 ∨ op = 9 ∨ op = 10 ∨ op = 11 ∨ op = 12 ∨ op = 13 ∨ op = 14 ∨ op = 15 ∨ op = 16 ∨ op = 17 ∨ op = 18 ∨ op = 19 ∨ op = 20 ∨ op = 21 ∨ op = 22 ∨ op = 23 ∨ op = 24 ∨ op = 25 ∨ op = 26 ∨ op = 27 ∨ op = 29 := by omega
    clear hlo hhi hx hsp
    rcases hcase with rfl | rfl | rfl | rfl | rfl | rfl | rfl | rfl | rfl | rfl | rfl | rfl | rfl | rfl | rfl | rfl | rfl | rfl | rfl | rfl | rfl | rfl | rfl | rfl | rfl
    all_goals exact givesC v g f _ a b c _ w (by simp [givesL])
end Go.Proofs.YtifpjgdnikkekaaGreat
namespace Go.Proofs.YtifpjgdnikkekaaGreat
open Go.ChangeShapes Go.WideShapes Go.ChangeAt Go.RowKit
theorem lR {n : Nat} : n ≤ n := Nat.le_refl n
theorem gA {α : Type} {l : List α} {i : Nat} : l.toArray[i]? = l[i]? := List.getElem?_toArray
theorem gZ {α : Type} {l : List α} {a : α} : (a :: l)[0]? = some a := List.getElem?_cons_zero
theorem gS {α : Type} {l : List α} {a : α} {i : Nat} : (a :: l)[i + 1]? = l[i]? := List.getElem?_cons_succ
theorem sA {α : Type} {l : List α} {i : Nat} {a : α} : l.toArray.setIfInBounds i a = (l.set i a).toArray := List.setIfInBounds_toArray l i a
theorem hid {p : Prop} (h : p) : Hid p := h
theorem h2 {p q : Prop} (a : p) (b : q) : Hid (p ∧ q) := ⟨a, b⟩
theorem h3 {p q r : Prop} (a : p) (b : q) (c : r) : Hid (p ∧ q ∧ r) := ⟨a, b, c⟩
theorem h4 {p q r s : Prop} (a : p) (b : q) (c : r) (d : s) : Hid (p ∧ q ∧ r ∧ s) := ⟨a, b, c, d⟩
theorem h5 {p q r s t : Prop} (a : p) (b : q) (c : r) (d : s) (e : t) : Hid (p ∧ q ∧ r ∧ s ∧ t) := ⟨a, b, c, d, e⟩
end Go.Proofs.YtifpjgdnikkekaaGreat
namespace Go.Proofs.YtifpjgdnikkekaaGreat
open Go.ChangeShapes Go.WideShapes Go.ChangeAt Go.RowKit
set_option linter.unusedVariables false
theorem RdP.sl {w : World} {v : VP} {p : MP} (h : RdP w v p) : ∃ r1 r3 k1 k3 t1 t3 f1 f3, v = ⟨.slice r1 p.regions.length r3, .slice k1 p.consts.length k3, .slice f1 p.funcs.length f3, .slice t1 p.certs.length t3⟩ := by
  obtain ⟨r1, r3, er⟩ := (show ∃ a c, v.r = .slice a p.regions.length c from by obtain ⟨_, _, h2, _⟩ := h.regions; exact h2.is_slice)
  obtain ⟨k1, k3, ek⟩ := h.consts.is_slice
  obtain ⟨t1, t3, et⟩ := h.certs.is_slice
  obtain ⟨f1, f3, ef⟩ := (show ∃ a c, v.f = .slice a p.funcs.length c from by obtain ⟨_, _, h2, _⟩ := h.funcs; exact h2.is_slice)
  obtain ⟨vr, vk, vf, vt⟩ := v
  simp only [] at er ek et ef
  subst er ek et ef
  exact ⟨r1, r3, k1, k3, t1, t3, f1, f3, rfl⟩
theorem rdF_sl {w : World} {g : VF} {f : MF} (h : RdF w g f) : ∃ g1 g3 g4 g6 g7 g9, g = ⟨.slice g1 f.params.length g3, .slice g4 f.locals.length g6, .slice g7 f.code.length g9⟩ := by
  obtain ⟨g1, g3, e1⟩ := h.1.is_slice
  obtain ⟨g4, g6, e2⟩ := h.2.1.is_slice
  obtain ⟨g7, g9, e3⟩ := h.2.2.is_slice
  obtain ⟨gp, gl, gc⟩ := g
  simp only [] at e1 e2 e3
  subst e1 e2 e3
  exact ⟨g1, g3, g4, g6, g7, g9, rfl⟩
end Go.Proofs.YtifpjgdnikkekaaGreat
