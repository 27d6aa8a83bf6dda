import Derived.Test.YtifpjgdnikkekaaGreatSh22
import Derived.Test.YtifpjgdnikkekaaGreatSh18
import Derived.Deep.RegionLaw
namespace Go.Proofs.YtifpjgdnikkekaaGreat
open Go.ChangeShapes Go.WideShapes Go.ChangeAt Go.RowKit
set_option linter.unusedVariables false
set_option maxHeartbeats 2000000 in
set_option maxRecDepth 100000 in
theorem takes_3 (v : VP) (p : MP) (g : VF) (f : MF) (q : Nat) (tt b c : Int) (w : World) (hs : f.small) (hps : p.small) (hP : RdP w v p) (hr : RdF w g f) (hq : (f.params ++ f.locals)[q]? = some tt) : Calls Tryz.prog 147 #[.agg #[v.r, v.k, v.f, v.t, g.p, .int .i64 f.result, g.l, g.c], .agg #[.int .i64 3, .int .i64 (q : Int), .int .i64 b, .int .i64 c]] w (TysIs w [tt]) := by
  obtain ⟨r1, r3, er⟩ := (show ∃ a c, v.r = .slice a p.regions.length c from by obtain ⟨_, _, h2, _⟩ := hP.regions; exact h2.is_slice)
  obtain ⟨k1, k3, ek⟩ := hP.consts.is_slice
  obtain ⟨t1, t3, et⟩ := hP.certs.is_slice
  obtain ⟨f1, f3, ef⟩ := (show ∃ a c, v.f = .slice a p.funcs.length c from by obtain ⟨_, _, h2, _⟩ := hP.funcs; exact h2.is_slice)
  obtain ⟨g1, g3, eg1⟩ := hr.1.is_slice
  obtain ⟨g4, g6, eg2⟩ := hr.2.1.is_slice
  obtain ⟨g7, g9, eg3⟩ := hr.2.2.is_slice
  obtain ⟨gp, gl, gc⟩ := g
  obtain ⟨vr, vk, vf, vt⟩ := v
  simp only [] at er ek et ef eg1 eg2 eg3
  subst er ek et ef eg1 eg2 eg3
  have HP : Hid (RdP w ⟨.slice r1 p.regions.length r3, .slice k1 p.consts.length k3, .slice f1 p.funcs.length f3, .slice t1 p.certs.length t3⟩ p) := hP
  have HR : Hid (RdF w ⟨.slice g1 f.params.length g3, .slice g4 f.locals.length g6, .slice g7 f.code.length g9⟩ f) := hr
  clear hP hr
  have E0 : Hid (Sc2 w ((w.alloc (.cells #[.slice r1 p.regions.length r3, .slice k1 p.consts.length k3, .slice f1 p.funcs.length f3, .slice t1 p.certs.length t3, .slice g1 f.params.length g3, .int .i64 f.result, .slice g4 f.locals.length g6, .slice g7 f.code.length g9] 85)).alloc (.cells #[.int .i64 3, .int .i64 (q : Int), .int .i64 b, .int .i64 c] 73)) ⟨.slice r1 p.regions.length r3, .slice k1 p.consts.length k3, .slice f1 p.funcs.length f3, .slice t1 p.certs.length t3⟩ ⟨.slice g1 f.params.length g3, .slice g4 f.locals.length g6, .slice g7 f.code.length g9⟩ f 3 (q : Int) b c) := Sc2.of w ⟨.slice r1 p.regions.length r3, .slice k1 p.consts.length k3, .slice f1 p.funcs.length f3, .slice t1 p.certs.length t3⟩ ⟨.slice g1 f.params.length g3, .slice g4 f.locals.length g6, .slice g7 f.code.length g9⟩ f 3 (q : Int) b c
  go_enter Tryz.func147, Tryz.ntmps147
  go_upto_region 1 with fail
  refine wp_world (fun u => Hid (Sc2 w u ⟨.slice r1 p.regions.length r3, .slice k1 p.consts.length k3, .slice f1 p.funcs.length f3, .slice t1 p.certs.length t3⟩ ⟨.slice g1 f.params.length g3, .slice g4 f.locals.length g6, .slice g7 f.code.length g9⟩ f 3 (q : Int) b c)) E0 ?_
  rintro U E1
  clear E0
  have i0 := E1.out.ib.cell 0
  have i1 := E1.out.ib.cell 1
  have i2 := E1.out.ib.cell 2
  have i3 := E1.out.ib.cell 3
  have s0 := E1.out.sb.cell 0
  have s1 := E1.out.sb.cell 1
  have s2 := E1.out.sb.cell 2
  have s3 := E1.out.sb.cell 3
  have s4 := E1.out.sb.cell 4
  have s5 := E1.out.sb.cell 5
  have s6 := E1.out.sb.cell 6
  have s7 := E1.out.sb.cell 7
  simp only [List.getElem?_toArray, List.getElem?_cons_zero, List.getElem?_cons_succ] at i0 i1 i2 i3 s0 s1 s2 s3 s4 s5 s6 s7
  go_wp2_with fail
  refine (localTypeI_any ⟨.slice r1 p.regions.length r3, .slice k1 p.consts.length k3, .slice f1 p.funcs.length f3, .slice t1 p.certs.length t3⟩ ⟨.slice g1 f.params.length g3, .slice g4 f.locals.length g6, .slice g7 f.code.length g9⟩ f q tt U hs (HR.out.keep E1.out.bel (Nat.le_refl _)) hq).mono ?_
  rintro e u1 ⟨rfl, b1⟩
  have HB : Hid (Below w.heap.size w u1) := below_on E1.out.bel (Nat.le_refl _) b1
  clear b1
  go_wp2_with fail
  go_ret
  exact tys_new HB.out [tt] 1 1 rfl
set_option maxHeartbeats 2000000 in
set_option maxRecDepth 100000 in
theorem takes_5 (v : VP) (p : MP) (g : VF) (f : MF) (q : Nat) (z : Nat) (r : List Int) (tt c : Int) (w : World) (hs : f.small) (hps : p.small) (hP : RdP w v p) (hr : RdF w g f) (hq : p.regions[q]? = some r) (hz : r[z]? = some tt) : Calls Tryz.prog 147 #[.agg #[v.r, v.k, v.f, v.t, g.p, .int .i64 f.result, g.l, g.c], .agg #[.int .i64 5, .int .i64 (q : Int), .int .i64 (z : Int), .int .i64 c]] w (TysIs w [tt]) := by
  obtain ⟨r1, r3, er⟩ := (show ∃ a c, v.r = .slice a p.regions.length c from by obtain ⟨_, _, h2, _⟩ := hP.regions; exact h2.is_slice)
  obtain ⟨k1, k3, ek⟩ := hP.consts.is_slice
  obtain ⟨t1, t3, et⟩ := hP.certs.is_slice
  obtain ⟨f1, f3, ef⟩ := (show ∃ a c, v.f = .slice a p.funcs.length c from by obtain ⟨_, _, h2, _⟩ := hP.funcs; exact h2.is_slice)
  obtain ⟨g1, g3, eg1⟩ := hr.1.is_slice
  obtain ⟨g4, g6, eg2⟩ := hr.2.1.is_slice
  obtain ⟨g7, g9, eg3⟩ := hr.2.2.is_slice
  obtain ⟨gp, gl, gc⟩ := g
  obtain ⟨vr, vk, vf, vt⟩ := v
  simp only [] at er ek et ef eg1 eg2 eg3
  subst er ek et ef eg1 eg2 eg3
  have HP : Hid (RdP w ⟨.slice r1 p.regions.length r3, .slice k1 p.consts.length k3, .slice f1 p.funcs.length f3, .slice t1 p.certs.length t3⟩ p) := hP
  have HR : Hid (RdF w ⟨.slice g1 f.params.length g3, .slice g4 f.locals.length g6, .slice g7 f.code.length g9⟩ f) := hr
  clear hP hr
  have E0 : Hid (Sc2 w ((w.alloc (.cells #[.slice r1 p.regions.length r3, .slice k1 p.consts.length k3, .slice f1 p.funcs.length f3, .slice t1 p.certs.length t3, .slice g1 f.params.length g3, .int .i64 f.result, .slice g4 f.locals.length g6, .slice g7 f.code.length g9] 85)).alloc (.cells #[.int .i64 5, .int .i64 (q : Int), .int .i64 (z : Int), .int .i64 c] 73)) ⟨.slice r1 p.regions.length r3, .slice k1 p.consts.length k3, .slice f1 p.funcs.length f3, .slice t1 p.certs.length t3⟩ ⟨.slice g1 f.params.length g3, .slice g4 f.locals.length g6, .slice g7 f.code.length g9⟩ f 5 (q : Int) (z : Int) c) := Sc2.of w ⟨.slice r1 p.regions.length r3, .slice k1 p.consts.length k3, .slice f1 p.funcs.length f3, .slice t1 p.certs.length t3⟩ ⟨.slice g1 f.params.length g3, .slice g4 f.locals.length g6, .slice g7 f.code.length g9⟩ f 5 (q : Int) (z : Int) c
  go_enter Tryz.func147, Tryz.ntmps147
  go_upto_region 1 with fail
  refine wp_world (fun u => Hid (Sc2 w u ⟨.slice r1 p.regions.length r3, .slice k1 p.consts.length k3, .slice f1 p.funcs.length f3, .slice t1 p.certs.length t3⟩ ⟨.slice g1 f.params.length g3, .slice g4 f.locals.length g6, .slice g7 f.code.length g9⟩ f 5 (q : Int) (z : Int) c)) E0 ?_
  rintro U E1
  clear E0
  have i0 := E1.out.ib.cell 0
  have i1 := E1.out.ib.cell 1
  have i2 := E1.out.ib.cell 2
  have i3 := E1.out.ib.cell 3
  have s0 := E1.out.sb.cell 0
  have s1 := E1.out.sb.cell 1
  have s2 := E1.out.sb.cell 2
  have s3 := E1.out.sb.cell 3
  have s4 := E1.out.sb.cell 4
  have s5 := E1.out.sb.cell 5
  have s6 := E1.out.sb.cell 6
  have s7 := E1.out.sb.cell 7
  simp only [List.getElem?_toArray, List.getElem?_cons_zero, List.getElem?_cons_succ] at i0 i1 i2 i3 s0 s1 s2 s3 s4 s5 s6 s7
  go_wp2_with fail
  refine (cellType_any ⟨.slice r1 p.regions.length r3, .slice k1 p.consts.length k3, .slice f1 p.funcs.length f3, .slice t1 p.certs.length t3⟩ p ⟨.slice g1 f.params.length g3, .slice g4 f.locals.length g6, .slice g7 f.code.length g9⟩ f 5 c q z r tt U hps (HP.out.keep E1.out.bel (Nat.le_refl _)).regions hq hz).mono ?_
  rintro e u1 ⟨rfl, b1⟩
  have HB : Hid (Below w.heap.size w u1) := below_on E1.out.bel (Nat.le_refl _) b1
  clear b1
  go_wp2_with fail
  go_ret
  exact tys_new HB.out [tt] 1 1 rfl
set_option maxHeartbeats 2000000 in
set_option maxRecDepth 100000 in
theorem takes_7 (v : VP) (p : MP) (g : VF) (f : MF) (q : Nat) (z : Nat) (r : List Int) (tt c : Int) (w : World) (hs : f.small) (hps : p.small) (hP : RdP w v p) (hr : RdF w g f) (hq : p.regions[q]? = some r) (hz : r[z]? = some tt) : Calls Tryz.prog 147 #[.agg #[v.r, v.k, v.f, v.t, g.p, .int .i64 f.result, g.l, g.c], .agg #[.int .i64 7, .int .i64 (q : Int), .int .i64 (z : Int), .int .i64 c]] w (TysIs w [3, tt]) := by
  obtain ⟨r1, r3, er⟩ := (show ∃ a c, v.r = .slice a p.regions.length c from by obtain ⟨_, _, h2, _⟩ := hP.regions; exact h2.is_slice)
  obtain ⟨k1, k3, ek⟩ := hP.consts.is_slice
  obtain ⟨t1, t3, et⟩ := hP.certs.is_slice
  obtain ⟨f1, f3, ef⟩ := (show ∃ a c, v.f = .slice a p.funcs.length c from by obtain ⟨_, _, h2, _⟩ := hP.funcs; exact h2.is_slice)
  obtain ⟨g1, g3, eg1⟩ := hr.1.is_slice
  obtain ⟨g4, g6, eg2⟩ := hr.2.1.is_slice
  obtain ⟨g7, g9, eg3⟩ := hr.2.2.is_slice
  obtain ⟨gp, gl, gc⟩ := g
  obtain ⟨vr, vk, vf, vt⟩ := v
  simp only [] at er ek et ef eg1 eg2 eg3
  subst er ek et ef eg1 eg2 eg3
  have HP : Hid (RdP w ⟨.slice r1 p.regions.length r3, .slice k1 p.consts.length k3, .slice f1 p.funcs.length f3, .slice t1 p.certs.length t3⟩ p) := hP
  have HR : Hid (RdF w ⟨.slice g1 f.params.length g3, .slice g4 f.locals.length g6, .slice g7 f.code.length g9⟩ f) := hr
  clear hP hr
  have E0 : Hid (Sc2 w ((w.alloc (.cells #[.slice r1 p.regions.length r3, .slice k1 p.consts.length k3, .slice f1 p.funcs.length f3, .slice t1 p.certs.length t3, .slice g1 f.params.length g3, .int .i64 f.result, .slice g4 f.locals.length g6, .slice g7 f.code.length g9] 85)).alloc (.cells #[.int .i64 7, .int .i64 (q : Int), .int .i64 (z : Int), .int .i64 c] 73)) ⟨.slice r1 p.regions.length r3, .slice k1 p.consts.length k3, .slice f1 p.funcs.length f3, .slice t1 p.certs.length t3⟩ ⟨.slice g1 f.params.length g3, .slice g4 f.locals.length g6, .slice g7 f.code.length g9⟩ f 7 (q : Int) (z : Int) c) := Sc2.of w ⟨.slice r1 p.regions.length r3, .slice k1 p.consts.length k3, .slice f1 p.funcs.length f3, .slice t1 p.certs.length t3⟩ ⟨.slice g1 f.params.length g3, .slice g4 f.locals.length g6, .slice g7 f.code.length g9⟩ f 7 (q : Int) (z : Int) c
  go_enter Tryz.func147, Tryz.ntmps147
  go_upto_region 1 with fail
  refine wp_world (fun u => Hid (Sc2 w u ⟨.slice r1 p.regions.length r3, .slice k1 p.consts.length k3, .slice f1 p.funcs.length f3, .slice t1 p.certs.length t3⟩ ⟨.slice g1 f.params.length g3, .slice g4 f.locals.length g6, .slice g7 f.code.length g9⟩ f 7 (q : Int) (z : Int) c)) E0 ?_
  rintro U E1
  clear E0
  have i0 := E1.out.ib.cell 0
  have i1 := E1.out.ib.cell 1
  have i2 := E1.out.ib.cell 2
  have i3 := E1.out.ib.cell 3
  have s0 := E1.out.sb.cell 0
  have s1 := E1.out.sb.cell 1
  have s2 := E1.out.sb.cell 2
  have s3 := E1.out.sb.cell 3
  have s4 := E1.out.sb.cell 4
  have s5 := E1.out.sb.cell 5
  have s6 := E1.out.sb.cell 6
  have s7 := E1.out.sb.cell 7
  simp only [List.getElem?_toArray, List.getElem?_cons_zero, List.getElem?_cons_succ] at i0 i1 i2 i3 s0 s1 s2 s3 s4 s5 s6 s7
  go_wp2_with fail
  refine (cellType_any ⟨.slice r1 p.regions.length r3, .slice k1 p.consts.length k3, .slice f1 p.funcs.length f3, .slice t1 p.certs.length t3⟩ p ⟨.slice g1 f.params.length g3, .slice g4 f.locals.length g6, .slice g7 f.code.length g9⟩ f 7 c q z r tt U hps (HP.out.keep E1.out.bel (Nat.le_refl _)).regions hq hz).mono ?_
  rintro e u1 ⟨rfl, b1⟩
  have HB : Hid (Below w.heap.size w u1) := below_on E1.out.bel (Nat.le_refl _) b1
  clear b1
  go_wp2_with fail
  go_ret
  exact tys_new HB.out [3, tt] 2 2 rfl
set_option maxHeartbeats 2000000 in
set_option maxRecDepth 100000 in
theorem takes_29 (v : VP) (p : MP) (g : VF) (f : MF) (q : Nat) (a b c : Int) (w : World) (hs : f.small) (hps : p.small) (hP : RdP w v p) (hr : RdF w g f) : Calls Tryz.prog 147 #[.agg #[v.r, v.k, v.f, v.t, g.p, .int .i64 f.result, g.l, g.c], .agg #[.int .i64 29, .int .i64 a, .int .i64 b, .int .i64 c]] w (TysIs w (resultL f)) := by
  obtain ⟨r1, r3, er⟩ := (show ∃ a c, v.r = .slice a p.regions.length c from by obtain ⟨_, _, h2, _⟩ := hP.regions; exact h2.is_slice)
  obtain ⟨k1, k3, ek⟩ := hP.consts.is_slice
  obtain ⟨t1, t3, et⟩ := hP.certs.is_slice
  obtain ⟨f1, f3, ef⟩ := (show ∃ a c, v.f = .slice a p.funcs.length c from by obtain ⟨_, _, h2, _⟩ := hP.funcs; exact h2.is_slice)
  obtain ⟨g1, g3, eg1⟩ := hr.1.is_slice
  obtain ⟨g4, g6, eg2⟩ := hr.2.1.is_slice
  obtain ⟨g7, g9, eg3⟩ := hr.2.2.is_slice
  obtain ⟨gp, gl, gc⟩ := g
  obtain ⟨vr, vk, vf, vt⟩ := v
  simp only [] at er ek et ef eg1 eg2 eg3
  subst er ek et ef eg1 eg2 eg3
  have HP : Hid (RdP w ⟨.slice r1 p.regions.length r3, .slice k1 p.consts.length k3, .slice f1 p.funcs.length f3, .slice t1 p.certs.length t3⟩ p) := hP
  have HR : Hid (RdF w ⟨.slice g1 f.params.length g3, .slice g4 f.locals.length g6, .slice g7 f.code.length g9⟩ f) := hr
  clear hP hr
  have E0 : Hid (Sc2 w ((w.alloc (.cells #[.slice r1 p.regions.length r3, .slice k1 p.consts.length k3, .slice f1 p.funcs.length f3, .slice t1 p.certs.length t3, .slice g1 f.params.length g3, .int .i64 f.result, .slice g4 f.locals.length g6, .slice g7 f.code.length g9] 85)).alloc (.cells #[.int .i64 29, .int .i64 a, .int .i64 b, .int .i64 c] 73)) ⟨.slice r1 p.regions.length r3, .slice k1 p.consts.length k3, .slice f1 p.funcs.length f3, .slice t1 p.certs.length t3⟩ ⟨.slice g1 f.params.length g3, .slice g4 f.locals.length g6, .slice g7 f.code.length g9⟩ f 29 a b c) := Sc2.of w ⟨.slice r1 p.regions.length r3, .slice k1 p.consts.length k3, .slice f1 p.funcs.length f3, .slice t1 p.certs.length t3⟩ ⟨.slice g1 f.params.length g3, .slice g4 f.locals.length g6, .slice g7 f.code.length g9⟩ f 29 a b c
  go_enter Tryz.func147, Tryz.ntmps147
  go_upto_region 1 with fail
  refine wp_world (fun u => Hid (Sc2 w u ⟨.slice r1 p.regions.length r3, .slice k1 p.consts.length k3, .slice f1 p.funcs.length f3, .slice t1 p.certs.length t3⟩ ⟨.slice g1 f.params.length g3, .slice g4 f.locals.length g6, .slice g7 f.code.length g9⟩ f 29 a b c)) E0 ?_
  rintro U E1
  clear E0
  have i0 := E1.out.ib.cell 0
  have i1 := E1.out.ib.cell 1
  have i2 := E1.out.ib.cell 2
  have i3 := E1.out.ib.cell 3
  have s0 := E1.out.sb.cell 0
  have s1 := E1.out.sb.cell 1
  have s2 := E1.out.sb.cell 2
  have s3 := E1.out.sb.cell 3
  have s4 := E1.out.sb.cell 4
  have s5 := E1.out.sb.cell 5
  have s6 := E1.out.sb.cell 6
  have s7 := E1.out.sb.cell 7
  simp only [List.getElem?_toArray, List.getElem?_cons_zero, List.getElem?_cons_succ] at i0 i1 i2 i3 s0 s1 s2 s3 s4 s5 s6 s7
  go_wp2_with fail
  refine (resT_any ⟨.slice g1 f.params.length g3, .slice g4 f.locals.length g6, .slice g7 f.code.length g9⟩ f U).mono ?_
  rintro e u1 ⟨s, rfl, hrd, b1⟩
  have HE : Hid (TysIs w (resultL f) (.returned s) u1) := ⟨s, rfl, hrd, below_on E1.out.bel (Nat.le_refl _) b1⟩
  obtain ⟨sa, sc, rfl⟩ := hrd.is_slice
  clear hrd b1
  go_wp2_with fail
  go_ret
  exact HE.out
set_option maxHeartbeats 2000000 in
set_option maxRecDepth 100000 in
theorem gives_2 (v : VP) (p : MP) (g : VF) (f : MF) (q : Nat) (tt b c : Int) (w : World) (hs : f.small) (hps : p.small) (hP : RdP w v p) (hr : RdF w g f) (hq : (f.params ++ f.locals)[q]? = some tt) : Calls Tryz.prog 150 #[.agg #[v.r, v.k, v.f, v.t, g.p, .int .i64 f.result, g.l, g.c], .agg #[.int .i64 2, .int .i64 (q : Int), .int .i64 b, .int .i64 c]] w (TysIs w [tt]) := by
  obtain ⟨r1, r3, er⟩ := (show ∃ a c, v.r = .slice a p.regions.length c from by obtain ⟨_, _, h2, _⟩ := hP.regions; exact h2.is_slice)
  obtain ⟨k1, k3, ek⟩ := hP.consts.is_slice
  obtain ⟨t1, t3, et⟩ := hP.certs.is_slice
  obtain ⟨f1, f3, ef⟩ := (show ∃ a c, v.f = .slice a p.funcs.length c from by obtain ⟨_, _, h2, _⟩ := hP.funcs; exact h2.is_slice)
  obtain ⟨g1, g3, eg1⟩ := hr.1.is_slice
  obtain ⟨g4, g6, eg2⟩ := hr.2.1.is_slice
  obtain ⟨g7, g9, eg3⟩ := hr.2.2.is_slice
  obtain ⟨gp, gl, gc⟩ := g
  obtain ⟨vr, vk, vf, vt⟩ := v
  simp only [] at er ek et ef eg1 eg2 eg3
  subst er ek et ef eg1 eg2 eg3
  have HP : Hid (RdP w ⟨.slice r1 p.regions.length r3, .slice k1 p.consts.length k3, .slice f1 p.funcs.length f3, .slice t1 p.certs.length t3⟩ p) := hP
  have HR : Hid (RdF w ⟨.slice g1 f.params.length g3, .slice g4 f.locals.length g6, .slice g7 f.code.length g9⟩ f) := hr
  clear hP hr
  have E0 : Hid (Sc2 w ((w.alloc (.cells #[.slice r1 p.regions.length r3, .slice k1 p.consts.length k3, .slice f1 p.funcs.length f3, .slice t1 p.certs.length t3, .slice g1 f.params.length g3, .int .i64 f.result, .slice g4 f.locals.length g6, .slice g7 f.code.length g9] 85)).alloc (.cells #[.int .i64 2, .int .i64 (q : Int), .int .i64 b, .int .i64 c] 73)) ⟨.slice r1 p.regions.length r3, .slice k1 p.consts.length k3, .slice f1 p.funcs.length f3, .slice t1 p.certs.length t3⟩ ⟨.slice g1 f.params.length g3, .slice g4 f.locals.length g6, .slice g7 f.code.length g9⟩ f 2 (q : Int) b c) := Sc2.of w ⟨.slice r1 p.regions.length r3, .slice k1 p.consts.length k3, .slice f1 p.funcs.length f3, .slice t1 p.certs.length t3⟩ ⟨.slice g1 f.params.length g3, .slice g4 f.locals.length g6, .slice g7 f.code.length g9⟩ f 2 (q : Int) b c
  go_enter Tryz.func150, Tryz.ntmps150
  go_upto_region 1 with fail
  refine wp_world (fun u => Hid (Sc2 w u ⟨.slice r1 p.regions.length r3, .slice k1 p.consts.length k3, .slice f1 p.funcs.length f3, .slice t1 p.certs.length t3⟩ ⟨.slice g1 f.params.length g3, .slice g4 f.locals.length g6, .slice g7 f.code.length g9⟩ f 2 (q : Int) b c)) E0 ?_
  rintro U E1
  clear E0
  have i0 := E1.out.ib.cell 0
  have i1 := E1.out.ib.cell 1
  have i2 := E1.out.ib.cell 2
  have i3 := E1.out.ib.cell 3
  have s0 := E1.out.sb.cell 0
  have s1 := E1.out.sb.cell 1
  have s2 := E1.out.sb.cell 2
  have s3 := E1.out.sb.cell 3
  have s4 := E1.out.sb.cell 4
  have s5 := E1.out.sb.cell 5
  have s6 := E1.out.sb.cell 6
  have s7 := E1.out.sb.cell 7
  simp only [List.getElem?_toArray, List.getElem?_cons_zero, List.getElem?_cons_succ] at i0 i1 i2 i3 s0 s1 s2 s3 s4 s5 s6 s7
  go_wp2_with fail
  refine (localTypeI_any ⟨.slice r1 p.regions.length r3, .slice k1 p.consts.length k3, .slice f1 p.funcs.length f3, .slice t1 p.certs.length t3⟩ ⟨.slice g1 f.params.length g3, .slice g4 f.locals.length g6, .slice g7 f.code.length g9⟩ f q tt U hs (HR.out.keep E1.out.bel (Nat.le_refl _)) hq).mono ?_
  rintro e u1 ⟨rfl, b1⟩
  have HB : Hid (Below w.heap.size w u1) := below_on E1.out.bel (Nat.le_refl _) b1
  clear b1
  go_wp2_with fail
  go_ret
  exact tys_new HB.out [tt] 1 1 rfl
set_option maxHeartbeats 2000000 in
set_option maxRecDepth 100000 in
theorem gives_4 (v : VP) (p : MP) (g : VF) (f : MF) (q : Nat) (z : Nat) (r : List Int) (tt c : Int) (w : World) (hs : f.small) (hps : p.small) (hP : RdP w v p) (hr : RdF w g f) (hq : p.regions[q]? = some r) (hz : r[z]? = some tt) : Calls Tryz.prog 150 #[.agg #[v.r, v.k, v.f, v.t, g.p, .int .i64 f.result, g.l, g.c], .agg #[.int .i64 4, .int .i64 (q : Int), .int .i64 (z : Int), .int .i64 c]] w (TysIs w [tt]) := by
  obtain ⟨r1, r3, er⟩ := (show ∃ a c, v.r = .slice a p.regions.length c from by obtain ⟨_, _, h2, _⟩ := hP.regions; exact h2.is_slice)
  obtain ⟨k1, k3, ek⟩ := hP.consts.is_slice
  obtain ⟨t1, t3, et⟩ := hP.certs.is_slice
  obtain ⟨f1, f3, ef⟩ := (show ∃ a c, v.f = .slice a p.funcs.length c from by obtain ⟨_, _, h2, _⟩ := hP.funcs; exact h2.is_slice)
  obtain ⟨g1, g3, eg1⟩ := hr.1.is_slice
  obtain ⟨g4, g6, eg2⟩ := hr.2.1.is_slice
  obtain ⟨g7, g9, eg3⟩ := hr.2.2.is_slice
  obtain ⟨gp, gl, gc⟩ := g
  obtain ⟨vr, vk, vf, vt⟩ := v
  simp only [] at er ek et ef eg1 eg2 eg3
  subst er ek et ef eg1 eg2 eg3
  have HP : Hid (RdP w ⟨.slice r1 p.regions.length r3, .slice k1 p.consts.length k3, .slice f1 p.funcs.length f3, .slice t1 p.certs.length t3⟩ p) := hP
  have HR : Hid (RdF w ⟨.slice g1 f.params.length g3, .slice g4 f.locals.length g6, .slice g7 f.code.length g9⟩ f) := hr
  clear hP hr
  have E0 : Hid (Sc2 w ((w.alloc (.cells #[.slice r1 p.regions.length r3, .slice k1 p.consts.length k3, .slice f1 p.funcs.length f3, .slice t1 p.certs.length t3, .slice g1 f.params.length g3, .int .i64 f.result, .slice g4 f.locals.length g6, .slice g7 f.code.length g9] 85)).alloc (.cells #[.int .i64 4, .int .i64 (q : Int), .int .i64 (z : Int), .int .i64 c] 73)) ⟨.slice r1 p.regions.length r3, .slice k1 p.consts.length k3, .slice f1 p.funcs.length f3, .slice t1 p.certs.length t3⟩ ⟨.slice g1 f.params.length g3, .slice g4 f.locals.length g6, .slice g7 f.code.length g9⟩ f 4 (q : Int) (z : Int) c) := Sc2.of w ⟨.slice r1 p.regions.length r3, .slice k1 p.consts.length k3, .slice f1 p.funcs.length f3, .slice t1 p.certs.length t3⟩ ⟨.slice g1 f.params.length g3, .slice g4 f.locals.length g6, .slice g7 f.code.length g9⟩ f 4 (q : Int) (z : Int) c
  go_enter Tryz.func150, Tryz.ntmps150
  go_upto_region 1 with fail
  refine wp_world (fun u => Hid (Sc2 w u ⟨.slice r1 p.regions.length r3, .slice k1 p.consts.length k3, .slice f1 p.funcs.length f3, .slice t1 p.certs.length t3⟩ ⟨.slice g1 f.params.length g3, .slice g4 f.locals.length g6, .slice g7 f.code.length g9⟩ f 4 (q : Int) (z : Int) c)) E0 ?_
  rintro U E1
  clear E0
  have i0 := E1.out.ib.cell 0
  have i1 := E1.out.ib.cell 1
  have i2 := E1.out.ib.cell 2
  have i3 := E1.out.ib.cell 3
  have s0 := E1.out.sb.cell 0
  have s1 := E1.out.sb.cell 1
  have s2 := E1.out.sb.cell 2
  have s3 := E1.out.sb.cell 3
  have s4 := E1.out.sb.cell 4
  have s5 := E1.out.sb.cell 5
  have s6 := E1.out.sb.cell 6
  have s7 := E1.out.sb.cell 7
  simp only [List.getElem?_toArray, List.getElem?_cons_zero, List.getElem?_cons_succ] at i0 i1 i2 i3 s0 s1 s2 s3 s4 s5 s6 s7
  go_wp2_with fail
  refine (cellType_any ⟨.slice r1 p.regions.length r3, .slice k1 p.consts.length k3, .slice f1 p.funcs.length f3, .slice t1 p.certs.length t3⟩ p ⟨.slice g1 f.params.length g3, .slice g4 f.locals.length g6, .slice g7 f.code.length g9⟩ f 4 c q z r tt U hps (HP.out.keep E1.out.bel (Nat.le_refl _)).regions hq hz).mono ?_
  rintro e u1 ⟨rfl, b1⟩
  have HB : Hid (Below w.heap.size w u1) := below_on E1.out.bel (Nat.le_refl _) b1
  clear b1
  go_wp2_with fail
  go_ret
  exact tys_new HB.out [tt] 1 1 rfl
set_option maxHeartbeats 2000000 in
set_option maxRecDepth 100000 in
theorem gives_6 (v : VP) (p : MP) (g : VF) (f : MF) (q : Nat) (z : Nat) (r : List Int) (tt c : Int) (w : World) (hs : f.small) (hps : p.small) (hP : RdP w v p) (hr : RdF w g f) (hq : p.regions[q]? = some r) (hz : r[z]? = some tt) : Calls Tryz.prog 150 #[.agg #[v.r, v.k, v.f, v.t, g.p, .int .i64 f.result, g.l, g.c], .agg #[.int .i64 6, .int .i64 (q : Int), .int .i64 (z : Int), .int .i64 c]] w (TysIs w [tt]) := by
  obtain ⟨r1, r3, er⟩ := (show ∃ a c, v.r = .slice a p.regions.length c from by obtain ⟨_, _, h2, _⟩ := hP.regions; exact h2.is_slice)
  obtain ⟨k1, k3, ek⟩ := hP.consts.is_slice
  obtain ⟨t1, t3, et⟩ := hP.certs.is_slice
  obtain ⟨f1, f3, ef⟩ := (show ∃ a c, v.f = .slice a p.funcs.length c from by obtain ⟨_, _, h2, _⟩ := hP.funcs; exact h2.is_slice)
  obtain ⟨g1, g3, eg1⟩ := hr.1.is_slice
  obtain ⟨g4, g6, eg2⟩ := hr.2.1.is_slice
  obtain ⟨g7, g9, eg3⟩ := hr.2.2.is_slice
  obtain ⟨gp, gl, gc⟩ := g
  obtain ⟨vr, vk, vf, vt⟩ := v
  simp only [] at er ek et ef eg1 eg2 eg3
  subst er ek et ef eg1 eg2 eg3
  have HP : Hid (RdP w ⟨.slice r1 p.regions.length r3, .slice k1 p.consts.length k3, .slice f1 p.funcs.length f3, .slice t1 p.certs.length t3⟩ p) := hP
  have HR : Hid (RdF w ⟨.slice g1 f.params.length g3, .slice g4 f.locals.length g6, .slice g7 f.code.length g9⟩ f) := hr
  clear hP hr
  have E0 : Hid (Sc2 w ((w.alloc (.cells #[.slice r1 p.regions.length r3, .slice k1 p.consts.length k3, .slice f1 p.funcs.length f3, .slice t1 p.certs.length t3, .slice g1 f.params.length g3, .int .i64 f.result, .slice g4 f.locals.length g6, .slice g7 f.code.length g9] 85)).alloc (.cells #[.int .i64 6, .int .i64 (q : Int), .int .i64 (z : Int), .int .i64 c] 73)) ⟨.slice r1 p.regions.length r3, .slice k1 p.consts.length k3, .slice f1 p.funcs.length f3, .slice t1 p.certs.length t3⟩ ⟨.slice g1 f.params.length g3, .slice g4 f.locals.length g6, .slice g7 f.code.length g9⟩ f 6 (q : Int) (z : Int) c) := Sc2.of w ⟨.slice r1 p.regions.length r3, .slice k1 p.consts.length k3, .slice f1 p.funcs.length f3, .slice t1 p.certs.length t3⟩ ⟨.slice g1 f.params.length g3, .slice g4 f.locals.length g6, .slice g7 f.code.length g9⟩ f 6 (q : Int) (z : Int) c
  go_enter Tryz.func150, Tryz.ntmps150
  go_upto_region 1 with fail
  refine wp_world (fun u => Hid (Sc2 w u ⟨.slice r1 p.regions.length r3, .slice k1 p.consts.length k3, .slice f1 p.funcs.length f3, .slice t1 p.certs.length t3⟩ ⟨.slice g1 f.params.length g3, .slice g4 f.locals.length g6, .slice g7 f.code.length g9⟩ f 6 (q : Int) (z : Int) c)) E0 ?_
  rintro U E1
  clear E0
  have i0 := E1.out.ib.cell 0
  have i1 := E1.out.ib.cell 1
  have i2 := E1.out.ib.cell 2
  have i3 := E1.out.ib.cell 3
  have s0 := E1.out.sb.cell 0
  have s1 := E1.out.sb.cell 1
  have s2 := E1.out.sb.cell 2
  have s3 := E1.out.sb.cell 3
  have s4 := E1.out.sb.cell 4
  have s5 := E1.out.sb.cell 5
  have s6 := E1.out.sb.cell 6
  have s7 := E1.out.sb.cell 7
  simp only [List.getElem?_toArray, List.getElem?_cons_zero, List.getElem?_cons_succ] at i0 i1 i2 i3 s0 s1 s2 s3 s4 s5 s6 s7
  go_wp2_with fail
  refine (cellType_any ⟨.slice r1 p.regions.length r3, .slice k1 p.consts.length k3, .slice f1 p.funcs.length f3, .slice t1 p.certs.length t3⟩ p ⟨.slice g1 f.params.length g3, .slice g4 f.locals.length g6, .slice g7 f.code.length g9⟩ f 6 c q z r tt U hps (HP.out.keep E1.out.bel (Nat.le_refl _)).regions hq hz).mono ?_
  rintro e u1 ⟨rfl, b1⟩
  have HB : Hid (Below w.heap.size w u1) := below_on E1.out.bel (Nat.le_refl _) b1
  clear b1
  go_wp2_with fail
  go_ret
  exact tys_new HB.out [tt] 1 1 rfl
end Go.Proofs.YtifpjgdnikkekaaGreat
