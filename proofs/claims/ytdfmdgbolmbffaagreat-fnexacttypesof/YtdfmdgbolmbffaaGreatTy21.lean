import Derived.Test.YtdfmdgbolmbffaaGreatTy20
import Derived.Test.YtdfmdgbolmbffaaGreatTy17
import Derived.Test.YtdfmdgbolmbffaaGreatTy12
import Derived.Deep.RegionLaw
import Derived.Test.YtdfmdgbolmbffaaGreatRows
import Derived.WalkKit
import Derived.ProofKit
import Derived.Below
import Derived.OpenShut
import Derived.Outline
import Derived.WalkLawsBesides
import Derived.Test.YtdfmdgbolmbffaaGreatTy0
namespace Go.Proofs.YtdfmdgbolmbffaaGreat
open Go.ChangeShapes Go.WideShapes Go.ChangeAt Go.RowKit
set_option linter.unusedVariables false
theorem gives_nz{p:MP}{f:MF}{x:MI}(hp:FaultIs p 0)(hx:InstrOk p f x):∀t∈givesL p f x,t=0->x.op=23:=by
  have hpp:=hp.parts
  have one:∀t:Int,t≠0->(∀u∈[t],u=0->x.op=23):=fun t ht u hu e=>by simp only[List.mem_singleton]at hu;exact absurd (hu.symm.trans e) ht
  unfold givesL
  by_cases c1:x.op=1
  . rw[if_pos c1]
    obtain⟨q,z,e1,e2⟩:=hx.const c1
    have hc:=hpp.2.1.2 q (List.getElem?_eq_some_iff.1 e2).1 z e2
    have e3:vAt p.consts x.a.toNat=z:=by unfold vAt;rw[e1,Int.toNat_natCast,e2];rfl
    rw[e3]
    exact one _ (isT_ne hc.1)
  rw[if_neg c1]
  by_cases c2:x.op=2
  . rw[if_pos c2];exact one _ (hx.loc0 c2)
  rw[if_neg c2]
  by_cases c4:x.op=4\/x.op=6
  . rw[if_pos c4]
    obtain⟨q,z,r,e1,e2,e3,e4⟩:=hx.cell hpp.1.1 (by omega)
    have:=(hpp.1.2 q (List.getElem?_eq_some_iff.1 e3).1 r e3).2
    exact one _ (isT_ne (List.all_eq_true.1 this _ (List.mem_of_getElem? e4)))
  rw[if_neg c4]
  by_cases c8:8<=x.op/\x.op<=16
  . rw[if_pos c8];exact one _ (isT_ne (hx.type (by omega)))
  rw[if_neg c8]
  by_cases c17:x.op=17\/x.op=18
  . rw[if_pos c17];exact one _ (by decide)
  rw[if_neg c17]
  by_cases c19:x.op=19
  . rw[if_pos c19];exact one _ (by decide)
  rw[if_neg c19]
  by_cases c20:x.op=20\/x.op=21
  . rw[if_pos c20];exact one _ (by decide)
  rw[if_neg c20]
  by_cases c22:x.op=22
  . rw[if_pos c22];exact one _ (isT_ne (hx.conv c22).2)
  rw[if_neg c22]
  by_cases c23:x.op=23
  . rw[if_pos c23];exact fun _ _ _=>c23
  rw[if_neg c23]
  by_cases c28:x.op=28
  . rw[if_pos c28]
    obtain⟨q,fq,e1,e2⟩:=hx.callee c28
    have hfq:FuncOk fq:=hpp.2.2.1.2.2.1 q (List.getElem?_eq_some_iff.1 e2).1 fq e2
    rw[e1,Int.toNat_natCast,e2]
    simp only[]
    unfold resultL
    by_cases hr:fq.result=0
    . rw[if_pos hr];exact fun t ht=>(by cases ht)
    . rw[if_neg hr];exact one _ hr
  . rw[if_neg c28];exact fun t ht=>(by cases ht)
end Go.Proofs.YtdfmdgbolmbffaaGreat
namespace Go.Proofs.YtdfmdgbolmbffaaGreat
open Go.ChangeShapes Go.WideShapes Go.ChangeAt Go.RowKit
set_option linter.unusedVariables false
set_option maxHeartbeats 2000000 in
set_option maxRecDepth 100000 in
theorem takes_3(v:VP)(p:MP)(g:VF)(f:MF)(q:Nat)(tt b c:Int)(w:World)(hs:f.small)(hps:p.small)(hP:RdP w v p)(hr:RdF w g f)(hq:(f.params++f.locals)[q]?=some tt):Calls Tryz.prog 147 #[.agg #[v.r,v.k,v.f,v.t,g.p,.int .i64 f.result,g.l,g.c],.agg #[.int .i64 3,.int .i64 (q:Int),.int .i64 b,.int .i64 c]] w (TysIs w [tt]):=by
  obtain⟨r1,r3,er⟩:=(show∃a c,v.r=.slice a p.regions.length c from by obtain⟨_,_,h2,_⟩:=hP.regions;exact h2.is_slice)
  obtain⟨k1,k3,ek⟩:=hP.consts.is_slice
  obtain⟨t1,t3,et⟩:=hP.certs.is_slice
  obtain⟨f1,f3,ef⟩:=(show∃a c,v.f=.slice a p.funcs.length c from by obtain⟨_,_,h2,_⟩:=hP.funcs;exact h2.is_slice)
  obtain⟨g1,g3,eg1⟩:=hr.1.is_slice
  obtain⟨g4,g6,eg2⟩:=hr.2.1.is_slice
  obtain⟨g7,g9,eg3⟩:=hr.2.2.is_slice
  obtain⟨gp,gl,gc⟩:=g
  obtain⟨vr,vk,vf,vt⟩:=v
  simp only[]at er ek et ef eg1 eg2 eg3
  subst er ek et ef eg1 eg2 eg3
  have HP:Hid (RdP w ⟨.slice r1 p.regions.length r3,.slice k1 p.consts.length k3,.slice f1 p.funcs.length f3,.slice t1 p.certs.length t3⟩ p):=hP
  have HR:Hid (RdF w ⟨.slice g1 f.params.length g3,.slice g4 f.locals.length g6,.slice g7 f.code.length g9⟩ f):=hr
  clear hP hr
  have E0:Hid (Sc2 w ((w.alloc (.cells #[.slice r1 p.regions.length r3,.slice k1 p.consts.length k3,.slice f1 p.funcs.length f3,.slice t1 p.certs.length t3,.slice g1 f.params.length g3,.int .i64 f.result,.slice g4 f.locals.length g6,.slice g7 f.code.length g9] 85)).alloc (.cells #[.int .i64 3,.int .i64 (q:Int),.int .i64 b,.int .i64 c] 73)) ⟨.slice r1 p.regions.length r3,.slice k1 p.consts.length k3,.slice f1 p.funcs.length f3,.slice t1 p.certs.length t3⟩ ⟨.slice g1 f.params.length g3,.slice g4 f.locals.length g6,.slice g7 f.code.length g9⟩ f 3 (q:Int) b c):=Sc2.of w ⟨.slice r1 p.regions.length r3,.slice k1 p.consts.length k3,.slice f1 p.funcs.length f3,.slice t1 p.certs.length t3⟩ ⟨.slice g1 f.params.length g3,.slice g4 f.locals.length g6,.slice g7 f.code.length g9⟩ f 3 (q:Int) b c
  go_enter Tryz.func147,Tryz.ntmps147
  go_upto_region 1 with fail
  refine wp_world (fun u=>Hid (Sc2 w u ⟨.slice r1 p.regions.length r3,.slice k1 p.consts.length k3,.slice f1 p.funcs.length f3,.slice t1 p.certs.length t3⟩ ⟨.slice g1 f.params.length g3,.slice g4 f.locals.length g6,.slice g7 f.code.length g9⟩ f 3 (q:Int) b c)) E0 ?_
  rintro U E1
  clear E0
  have i0:=E1.out.ib.cell 0
  have i1:=E1.out.ib.cell 1
  have i2:=E1.out.ib.cell 2
  have i3:=E1.out.ib.cell 3
  have s0:=E1.out.sb.cell 0
  have s1:=E1.out.sb.cell 1
  have s2:=E1.out.sb.cell 2
  have s3:=E1.out.sb.cell 3
  have s4:=E1.out.sb.cell 4
  have s5:=E1.out.sb.cell 5
  have s6:=E1.out.sb.cell 6
  have s7:=E1.out.sb.cell 7
  simp only[List.getElem?_toArray,List.getElem?_cons_zero,List.getElem?_cons_succ]at i0 i1 i2 i3 s0 s1 s2 s3 s4 s5 s6 s7
  go_wp2_with fail
  refine(localTypeI_any ⟨.slice r1 p.regions.length r3,.slice k1 p.consts.length k3,.slice f1 p.funcs.length f3,.slice t1 p.certs.length t3⟩ ⟨.slice g1 f.params.length g3,.slice g4 f.locals.length g6,.slice g7 f.code.length g9⟩ f q tt U hs (HR.out.keep E1.out.bel (Nat.le_refl _)) hq).mono ?_
  rintro e u1 ⟨rfl,b1⟩
  have HB:Hid (Below w.heap.size w u1):=below_on E1.out.bel (Nat.le_refl _) b1
  clear b1
  go_wp2_with fail
  go_ret
  exact tys_new HB.out [tt] 1 1 rfl
set_option maxHeartbeats 2000000 in
set_option maxRecDepth 100000 in
theorem takes_5(v:VP)(p:MP)(g:VF)(f:MF)(q:Nat)(z:Nat)(r:List Int)(tt c:Int)(w:World)(hs:f.small)(hps:p.small)(hP:RdP w v p)(hr:RdF w g f)(hq:p.regions[q]?=some r)(hz:r[z]?=some tt):Calls Tryz.prog 147 #[.agg #[v.r,v.k,v.f,v.t,g.p,.int .i64 f.result,g.l,g.c],.agg #[.int .i64 5,.int .i64 (q:Int),.int .i64 (z:Int),.int .i64 c]] w (TysIs w [tt]):=by
  obtain⟨r1,r3,er⟩:=(show∃a c,v.r=.slice a p.regions.length c from by obtain⟨_,_,h2,_⟩:=hP.regions;exact h2.is_slice)
  obtain⟨k1,k3,ek⟩:=hP.consts.is_slice
  obtain⟨t1,t3,et⟩:=hP.certs.is_slice
  obtain⟨f1,f3,ef⟩:=(show∃a c,v.f=.slice a p.funcs.length c from by obtain⟨_,_,h2,_⟩:=hP.funcs;exact h2.is_slice)
  obtain⟨g1,g3,eg1⟩:=hr.1.is_slice
  obtain⟨g4,g6,eg2⟩:=hr.2.1.is_slice
  obtain⟨g7,g9,eg3⟩:=hr.2.2.is_slice
  obtain⟨gp,gl,gc⟩:=g
  obtain⟨vr,vk,vf,vt⟩:=v
  simp only[]at er ek et ef eg1 eg2 eg3
  subst er ek et ef eg1 eg2 eg3
  have HP:Hid (RdP w ⟨.slice r1 p.regions.length r3,.slice k1 p.consts.length k3,.slice f1 p.funcs.length f3,.slice t1 p.certs.length t3⟩ p):=hP
  have HR:Hid (RdF w ⟨.slice g1 f.params.length g3,.slice g4 f.locals.length g6,.slice g7 f.code.length g9⟩ f):=hr
  clear hP hr
  have E0:Hid (Sc2 w ((w.alloc (.cells #[.slice r1 p.regions.length r3,.slice k1 p.consts.length k3,.slice f1 p.funcs.length f3,.slice t1 p.certs.length t3,.slice g1 f.params.length g3,.int .i64 f.result,.slice g4 f.locals.length g6,.slice g7 f.code.length g9] 85)).alloc (.cells #[.int .i64 5,.int .i64 (q:Int),.int .i64 (z:Int),.int .i64 c] 73)) ⟨.slice r1 p.regions.length r3,.slice k1 p.consts.length k3,.slice f1 p.funcs.length f3,.slice t1 p.certs.length t3⟩ ⟨.slice g1 f.params.length g3,.slice g4 f.locals.length g6,.slice g7 f.code.length g9⟩ f 5 (q:Int) (z:Int) c):=Sc2.of w ⟨.slice r1 p.regions.length r3,.slice k1 p.consts.length k3,.slice f1 p.funcs.length f3,.slice t1 p.certs.length t3⟩ ⟨.slice g1 f.params.length g3,.slice g4 f.locals.length g6,.slice g7 f.code.length g9⟩ f 5 (q:Int) (z:Int) c
  go_enter Tryz.func147,Tryz.ntmps147
  go_upto_region 1 with fail
  refine wp_world (fun u=>Hid (Sc2 w u ⟨.slice r1 p.regions.length r3,.slice k1 p.consts.length k3,.slice f1 p.funcs.length f3,.slice t1 p.certs.length t3⟩ ⟨.slice g1 f.params.length g3,.slice g4 f.locals.length g6,.slice g7 f.code.length g9⟩ f 5 (q:Int) (z:Int) c)) E0 ?_
  rintro U E1
  clear E0
  have i0:=E1.out.ib.cell 0
  have i1:=E1.out.ib.cell 1
  have i2:=E1.out.ib.cell 2
  have i3:=E1.out.ib.cell 3
  have s0:=E1.out.sb.cell 0
  have s1:=E1.out.sb.cell 1
  have s2:=E1.out.sb.cell 2
  have s3:=E1.out.sb.cell 3
  have s4:=E1.out.sb.cell 4
  have s5:=E1.out.sb.cell 5
  have s6:=E1.out.sb.cell 6
  have s7:=E1.out.sb.cell 7
  simp only[List.getElem?_toArray,List.getElem?_cons_zero,List.getElem?_cons_succ]at i0 i1 i2 i3 s0 s1 s2 s3 s4 s5 s6 s7
  go_wp2_with fail
  refine(cellType_any ⟨.slice r1 p.regions.length r3,.slice k1 p.consts.length k3,.slice f1 p.funcs.length f3,.slice t1 p.certs.length t3⟩ p ⟨.slice g1 f.params.length g3,.slice g4 f.locals.length g6,.slice g7 f.code.length g9⟩ f 5 c q z r tt U hps (HP.out.keep E1.out.bel (Nat.le_refl _)).regions hq hz).mono ?_
  rintro e u1 ⟨rfl,b1⟩
  have HB:Hid (Below w.heap.size w u1):=below_on E1.out.bel (Nat.le_refl _) b1
  clear b1
  go_wp2_with fail
  go_ret
  exact tys_new HB.out [tt] 1 1 rfl
set_option maxHeartbeats 2000000 in
set_option maxRecDepth 100000 in
theorem takes_7(v:VP)(p:MP)(g:VF)(f:MF)(q:Nat)(z:Nat)(r:List Int)(tt c:Int)(w:World)(hs:f.small)(hps:p.small)(hP:RdP w v p)(hr:RdF w g f)(hq:p.regions[q]?=some r)(hz:r[z]?=some tt):Calls Tryz.prog 147 #[.agg #[v.r,v.k,v.f,v.t,g.p,.int .i64 f.result,g.l,g.c],.agg #[.int .i64 7,.int .i64 (q:Int),.int .i64 (z:Int),.int .i64 c]] w (TysIs w [3,tt]):=by
  obtain⟨r1,r3,er⟩:=(show∃a c,v.r=.slice a p.regions.length c from by obtain⟨_,_,h2,_⟩:=hP.regions;exact h2.is_slice)
  obtain⟨k1,k3,ek⟩:=hP.consts.is_slice
  obtain⟨t1,t3,et⟩:=hP.certs.is_slice
  obtain⟨f1,f3,ef⟩:=(show∃a c,v.f=.slice a p.funcs.length c from by obtain⟨_,_,h2,_⟩:=hP.funcs;exact h2.is_slice)
  obtain⟨g1,g3,eg1⟩:=hr.1.is_slice
  obtain⟨g4,g6,eg2⟩:=hr.2.1.is_slice
  obtain⟨g7,g9,eg3⟩:=hr.2.2.is_slice
  obtain⟨gp,gl,gc⟩:=g
  obtain⟨vr,vk,vf,vt⟩:=v
  simp only[]at er ek et ef eg1 eg2 eg3
  subst er ek et ef eg1 eg2 eg3
  have HP:Hid (RdP w ⟨.slice r1 p.regions.length r3,.slice k1 p.consts.length k3,.slice f1 p.funcs.length f3,.slice t1 p.certs.length t3⟩ p):=hP
  have HR:Hid (RdF w ⟨.slice g1 f.params.length g3,.slice g4 f.locals.length g6,.slice g7 f.code.length g9⟩ f):=hr
  clear hP hr
  have E0:Hid (Sc2 w ((w.alloc (.cells #[.slice r1 p.regions.length r3,.slice k1 p.consts.length k3,.slice f1 p.funcs.length f3,.slice t1 p.certs.length t3,.slice g1 f.params.length g3,.int .i64 f.result,.slice g4 f.locals.length g6,.slice g7 f.code.length g9] 85)).alloc (.cells #[.int .i64 7,.int .i64 (q:Int),.int .i64 (z:Int),.int .i64 c] 73)) ⟨.slice r1 p.regions.length r3,.slice k1 p.consts.length k3,.slice f1 p.funcs.length f3,.slice t1 p.certs.length t3⟩ ⟨.slice g1 f.params.length g3,.slice g4 f.locals.length g6,.slice g7 f.code.length g9⟩ f 7 (q:Int) (z:Int) c):=Sc2.of w ⟨.slice r1 p.regions.length r3,.slice k1 p.consts.length k3,.slice f1 p.funcs.length f3,.slice t1 p.certs.length t3⟩ ⟨.slice g1 f.params.length g3,.slice g4 f.locals.length g6,.slice g7 f.code.length g9⟩ f 7 (q:Int) (z:Int) c
  go_enter Tryz.func147,Tryz.ntmps147
  go_upto_region 1 with fail
  refine wp_world (fun u=>Hid (Sc2 w u ⟨.slice r1 p.regions.length r3,.slice k1 p.consts.length k3,.slice f1 p.funcs.length f3,.slice t1 p.certs.length t3⟩ ⟨.slice g1 f.params.length g3,.slice g4 f.locals.length g6,.slice g7 f.code.length g9⟩ f 7 (q:Int) (z:Int) c)) E0 ?_
  rintro U E1
  clear E0
  have i0:=E1.out.ib.cell 0
  have i1:=E1.out.ib.cell 1
  have i2:=E1.out.ib.cell 2
  have i3:=E1.out.ib.cell 3
  have s0:=E1.out.sb.cell 0
  have s1:=E1.out.sb.cell 1
  have s2:=E1.out.sb.cell 2
  have s3:=E1.out.sb.cell 3
  have s4:=E1.out.sb.cell 4
  have s5:=E1.out.sb.cell 5
  have s6:=E1.out.sb.cell 6
  have s7:=E1.out.sb.cell 7
  simp only[List.getElem?_toArray,List.getElem?_cons_zero,List.getElem?_cons_succ]at i0 i1 i2 i3 s0 s1 s2 s3 s4 s5 s6 s7
  go_wp2_with fail
  refine(cellType_any ⟨.slice r1 p.regions.length r3,.slice k1 p.consts.length k3,.slice f1 p.funcs.length f3,.slice t1 p.certs.length t3⟩ p ⟨.slice g1 f.params.length g3,.slice g4 f.locals.length g6,.slice g7 f.code.length g9⟩ f 7 c q z r tt U hps (HP.out.keep E1.out.bel (Nat.le_refl _)).regions hq hz).mono ?_
  rintro e u1 ⟨rfl,b1⟩
  have HB:Hid (Below w.heap.size w u1):=below_on E1.out.bel (Nat.le_refl _) b1
  clear b1
  go_wp2_with fail
  go_ret
  exact tys_new HB.out [3,tt] 2 2 rfl
set_option maxHeartbeats 2000000 in
set_option maxRecDepth 100000 in
theorem takes_29(v:VP)(p:MP)(g:VF)(f:MF)(q:Nat)(a b c:Int)(w:World)(hs:f.small)(hps:p.small)(hP:RdP w v p)(hr:RdF w g f):Calls Tryz.prog 147 #[.agg #[v.r,v.k,v.f,v.t,g.p,.int .i64 f.result,g.l,g.c],.agg #[.int .i64 29,.int .i64 a,.int .i64 b,.int .i64 c]] w (TysIs w (resultL f)):=by
  obtain⟨r1,r3,er⟩:=(show∃a c,v.r=.slice a p.regions.length c from by obtain⟨_,_,h2,_⟩:=hP.regions;exact h2.is_slice)
  obtain⟨k1,k3,ek⟩:=hP.consts.is_slice
  obtain⟨t1,t3,et⟩:=hP.certs.is_slice
  obtain⟨f1,f3,ef⟩:=(show∃a c,v.f=.slice a p.funcs.length c from by obtain⟨_,_,h2,_⟩:=hP.funcs;exact h2.is_slice)
  obtain⟨g1,g3,eg1⟩:=hr.1.is_slice
  obtain⟨g4,g6,eg2⟩:=hr.2.1.is_slice
  obtain⟨g7,g9,eg3⟩:=hr.2.2.is_slice
  obtain⟨gp,gl,gc⟩:=g
  obtain⟨vr,vk,vf,vt⟩:=v
  simp only[]at er ek et ef eg1 eg2 eg3
  subst er ek et ef eg1 eg2 eg3
  have HP:Hid (RdP w ⟨.slice r1 p.regions.length r3,.slice k1 p.consts.length k3,.slice f1 p.funcs.length f3,.slice t1 p.certs.length t3⟩ p):=hP
  have HR:Hid (RdF w ⟨.slice g1 f.params.length g3,.slice g4 f.locals.length g6,.slice g7 f.code.length g9⟩ f):=hr
  clear hP hr
  have E0:Hid (Sc2 w ((w.alloc (.cells #[.slice r1 p.regions.length r3,.slice k1 p.consts.length k3,.slice f1 p.funcs.length f3,.slice t1 p.certs.length t3,.slice g1 f.params.length g3,.int .i64 f.result,.slice g4 f.locals.length g6,.slice g7 f.code.length g9] 85)).alloc (.cells #[.int .i64 29,.int .i64 a,.int .i64 b,.int .i64 c] 73)) ⟨.slice r1 p.regions.length r3,.slice k1 p.consts.length k3,.slice f1 p.funcs.length f3,.slice t1 p.certs.length t3⟩ ⟨.slice g1 f.params.length g3,.slice g4 f.locals.length g6,.slice g7 f.code.length g9⟩ f 29 a b c):=Sc2.of w ⟨.slice r1 p.regions.length r3,.slice k1 p.consts.length k3,.slice f1 p.funcs.length f3,.slice t1 p.certs.length t3⟩ ⟨.slice g1 f.params.length g3,.slice g4 f.locals.length g6,.slice g7 f.code.length g9⟩ f 29 a b c
  go_enter Tryz.func147,Tryz.ntmps147
  go_upto_region 1 with fail
  refine wp_world (fun u=>Hid (Sc2 w u ⟨.slice r1 p.regions.length r3,.slice k1 p.consts.length k3,.slice f1 p.funcs.length f3,.slice t1 p.certs.length t3⟩ ⟨.slice g1 f.params.length g3,.slice g4 f.locals.length g6,.slice g7 f.code.length g9⟩ f 29 a b c)) E0 ?_
  rintro U E1
  clear E0
  have i0:=E1.out.ib.cell 0
  have i1:=E1.out.ib.cell 1
  have i2:=E1.out.ib.cell 2
  have i3:=E1.out.ib.cell 3
  have s0:=E1.out.sb.cell 0
  have s1:=E1.out.sb.cell 1
  have s2:=E1.out.sb.cell 2
  have s3:=E1.out.sb.cell 3
  have s4:=E1.out.sb.cell 4
  have s5:=E1.out.sb.cell 5
  have s6:=E1.out.sb.cell 6
  have s7:=E1.out.sb.cell 7
  simp only[List.getElem?_toArray,List.getElem?_cons_zero,List.getElem?_cons_succ]at i0 i1 i2 i3 s0 s1 s2 s3 s4 s5 s6 s7
  go_wp2_with fail
  refine(resT_any ⟨.slice g1 f.params.length g3,.slice g4 f.locals.length g6,.slice g7 f.code.length g9⟩ f U).mono ?_
  rintro e u1 ⟨s,rfl,hrd,b1⟩
  have HE:Hid (TysIs w (resultL f) (.returned s) u1):=⟨s,rfl,hrd,below_on E1.out.bel (Nat.le_refl _) b1⟩
  obtain⟨sa,sc,rfl⟩:=hrd.is_slice
  clear hrd b1
  go_wp2_with fail
  go_ret
  exact HE.out
set_option maxHeartbeats 2000000 in
set_option maxRecDepth 100000 in
theorem gives_2(v:VP)(p:MP)(g:VF)(f:MF)(q:Nat)(tt b c:Int)(w:World)(hs:f.small)(hps:p.small)(hP:RdP w v p)(hr:RdF w g f)(hq:(f.params++f.locals)[q]?=some tt):Calls Tryz.prog 150 #[.agg #[v.r,v.k,v.f,v.t,g.p,.int .i64 f.result,g.l,g.c],.agg #[.int .i64 2,.int .i64 (q:Int),.int .i64 b,.int .i64 c]] w (TysIs w [tt]):=by
  obtain⟨r1,r3,er⟩:=(show∃a c,v.r=.slice a p.regions.length c from by obtain⟨_,_,h2,_⟩:=hP.regions;exact h2.is_slice)
  obtain⟨k1,k3,ek⟩:=hP.consts.is_slice
  obtain⟨t1,t3,et⟩:=hP.certs.is_slice
  obtain⟨f1,f3,ef⟩:=(show∃a c,v.f=.slice a p.funcs.length c from by obtain⟨_,_,h2,_⟩:=hP.funcs;exact h2.is_slice)
  obtain⟨g1,g3,eg1⟩:=hr.1.is_slice
  obtain⟨g4,g6,eg2⟩:=hr.2.1.is_slice
  obtain⟨g7,g9,eg3⟩:=hr.2.2.is_slice
  obtain⟨gp,gl,gc⟩:=g
  obtain⟨vr,vk,vf,vt⟩:=v
  simp only[]at er ek et ef eg1 eg2 eg3
  subst er ek et ef eg1 eg2 eg3
  have HP:Hid (RdP w ⟨.slice r1 p.regions.length r3,.slice k1 p.consts.length k3,.slice f1 p.funcs.length f3,.slice t1 p.certs.length t3⟩ p):=hP
  have HR:Hid (RdF w ⟨.slice g1 f.params.length g3,.slice g4 f.locals.length g6,.slice g7 f.code.length g9⟩ f):=hr
  clear hP hr
  have E0:Hid (Sc2 w ((w.alloc (.cells #[.slice r1 p.regions.length r3,.slice k1 p.consts.length k3,.slice f1 p.funcs.length f3,.slice t1 p.certs.length t3,.slice g1 f.params.length g3,.int .i64 f.result,.slice g4 f.locals.length g6,.slice g7 f.code.length g9] 85)).alloc (.cells #[.int .i64 2,.int .i64 (q:Int),.int .i64 b,.int .i64 c] 73)) ⟨.slice r1 p.regions.length r3,.slice k1 p.consts.length k3,.slice f1 p.funcs.length f3,.slice t1 p.certs.length t3⟩ ⟨.slice g1 f.params.length g3,.slice g4 f.locals.length g6,.slice g7 f.code.length g9⟩ f 2 (q:Int) b c):=Sc2.of w ⟨.slice r1 p.regions.length r3,.slice k1 p.consts.length k3,.slice f1 p.funcs.length f3,.slice t1 p.certs.length t3⟩ ⟨.slice g1 f.params.length g3,.slice g4 f.locals.length g6,.slice g7 f.code.length g9⟩ f 2 (q:Int) b c
  go_enter Tryz.func150,Tryz.ntmps150
  go_upto_region 1 with fail
  refine wp_world (fun u=>Hid (Sc2 w u ⟨.slice r1 p.regions.length r3,.slice k1 p.consts.length k3,.slice f1 p.funcs.length f3,.slice t1 p.certs.length t3⟩ ⟨.slice g1 f.params.length g3,.slice g4 f.locals.length g6,.slice g7 f.code.length g9⟩ f 2 (q:Int) b c)) E0 ?_
  rintro U E1
  clear E0
  have i0:=E1.out.ib.cell 0
  have i1:=E1.out.ib.cell 1
  have i2:=E1.out.ib.cell 2
  have i3:=E1.out.ib.cell 3
  have s0:=E1.out.sb.cell 0
  have s1:=E1.out.sb.cell 1
  have s2:=E1.out.sb.cell 2
  have s3:=E1.out.sb.cell 3
  have s4:=E1.out.sb.cell 4
  have s5:=E1.out.sb.cell 5
  have s6:=E1.out.sb.cell 6
  have s7:=E1.out.sb.cell 7
  simp only[List.getElem?_toArray,List.getElem?_cons_zero,List.getElem?_cons_succ]at i0 i1 i2 i3 s0 s1 s2 s3 s4 s5 s6 s7
  go_wp2_with fail
  refine(localTypeI_any ⟨.slice r1 p.regions.length r3,.slice k1 p.consts.length k3,.slice f1 p.funcs.length f3,.slice t1 p.certs.length t3⟩ ⟨.slice g1 f.params.length g3,.slice g4 f.locals.length g6,.slice g7 f.code.length g9⟩ f q tt U hs (HR.out.keep E1.out.bel (Nat.le_refl _)) hq).mono ?_
  rintro e u1 ⟨rfl,b1⟩
  have HB:Hid (Below w.heap.size w u1):=below_on E1.out.bel (Nat.le_refl _) b1
  clear b1
  go_wp2_with fail
  go_ret
  exact tys_new HB.out [tt] 1 1 rfl
set_option maxHeartbeats 2000000 in
set_option maxRecDepth 100000 in
theorem gives_4(v:VP)(p:MP)(g:VF)(f:MF)(q:Nat)(z:Nat)(r:List Int)(tt c:Int)(w:World)(hs:f.small)(hps:p.small)(hP:RdP w v p)(hr:RdF w g f)(hq:p.regions[q]?=some r)(hz:r[z]?=some tt):Calls Tryz.prog 150 #[.agg #[v.r,v.k,v.f,v.t,g.p,.int .i64 f.result,g.l,g.c],.agg #[.int .i64 4,.int .i64 (q:Int),.int .i64 (z:Int),.int .i64 c]] w (TysIs w [tt]):=by
  obtain⟨r1,r3,er⟩:=(show∃a c,v.r=.slice a p.regions.length c from by obtain⟨_,_,h2,_⟩:=hP.regions;exact h2.is_slice)
  obtain⟨k1,k3,ek⟩:=hP.consts.is_slice
  obtain⟨t1,t3,et⟩:=hP.certs.is_slice
  obtain⟨f1,f3,ef⟩:=(show∃a c,v.f=.slice a p.funcs.length c from by obtain⟨_,_,h2,_⟩:=hP.funcs;exact h2.is_slice)
  obtain⟨g1,g3,eg1⟩:=hr.1.is_slice
  obtain⟨g4,g6,eg2⟩:=hr.2.1.is_slice
  obtain⟨g7,g9,eg3⟩:=hr.2.2.is_slice
  obtain⟨gp,gl,gc⟩:=g
  obtain⟨vr,vk,vf,vt⟩:=v
  simp only[]at er ek et ef eg1 eg2 eg3
  subst er ek et ef eg1 eg2 eg3
  have HP:Hid (RdP w ⟨.slice r1 p.regions.length r3,.slice k1 p.consts.length k3,.slice f1 p.funcs.length f3,.slice t1 p.certs.length t3⟩ p):=hP
  have HR:Hid (RdF w ⟨.slice g1 f.params.length g3,.slice g4 f.locals.length g6,.slice g7 f.code.length g9⟩ f):=hr
  clear hP hr
  have E0:Hid (Sc2 w ((w.alloc (.cells #[.slice r1 p.regions.length r3,.slice k1 p.consts.length k3,.slice f1 p.funcs.length f3,.slice t1 p.certs.length t3,.slice g1 f.params.length g3,.int .i64 f.result,.slice g4 f.locals.length g6,.slice g7 f.code.length g9] 85)).alloc (.cells #[.int .i64 4,.int .i64 (q:Int),.int .i64 (z:Int),.int .i64 c] 73)) ⟨.slice r1 p.regions.length r3,.slice k1 p.consts.length k3,.slice f1 p.funcs.length f3,.slice t1 p.certs.length t3⟩ ⟨.slice g1 f.params.length g3,.slice g4 f.locals.length g6,.slice g7 f.code.length g9⟩ f 4 (q:Int) (z:Int) c):=Sc2.of w ⟨.slice r1 p.regions.length r3,.slice k1 p.consts.length k3,.slice f1 p.funcs.length f3,.slice t1 p.certs.length t3⟩ ⟨.slice g1 f.params.length g3,.slice g4 f.locals.length g6,.slice g7 f.code.length g9⟩ f 4 (q:Int) (z:Int) c
  go_enter Tryz.func150,Tryz.ntmps150
  go_upto_region 1 with fail
  refine wp_world (fun u=>Hid (Sc2 w u ⟨.slice r1 p.regions.length r3,.slice k1 p.consts.length k3,.slice f1 p.funcs.length f3,.slice t1 p.certs.length t3⟩ ⟨.slice g1 f.params.length g3,.slice g4 f.locals.length g6,.slice g7 f.code.length g9⟩ f 4 (q:Int) (z:Int) c)) E0 ?_
  rintro U E1
  clear E0
  have i0:=E1.out.ib.cell 0
  have i1:=E1.out.ib.cell 1
  have i2:=E1.out.ib.cell 2
  have i3:=E1.out.ib.cell 3
  have s0:=E1.out.sb.cell 0
  have s1:=E1.out.sb.cell 1
  have s2:=E1.out.sb.cell 2
  have s3:=E1.out.sb.cell 3
  have s4:=E1.out.sb.cell 4
  have s5:=E1.out.sb.cell 5
  have s6:=E1.out.sb.cell 6
  have s7:=E1.out.sb.cell 7
  simp only[List.getElem?_toArray,List.getElem?_cons_zero,List.getElem?_cons_succ]at i0 i1 i2 i3 s0 s1 s2 s3 s4 s5 s6 s7
  go_wp2_with fail
  refine(cellType_any ⟨.slice r1 p.regions.length r3,.slice k1 p.consts.length k3,.slice f1 p.funcs.length f3,.slice t1 p.certs.length t3⟩ p ⟨.slice g1 f.params.length g3,.slice g4 f.locals.length g6,.slice g7 f.code.length g9⟩ f 4 c q z r tt U hps (HP.out.keep E1.out.bel (Nat.le_refl _)).regions hq hz).mono ?_
  rintro e u1 ⟨rfl,b1⟩
  have HB:Hid (Below w.heap.size w u1):=below_on E1.out.bel (Nat.le_refl _) b1
  clear b1
  go_wp2_with fail
  go_ret
  exact tys_new HB.out [tt] 1 1 rfl
set_option maxHeartbeats 2000000 in
set_option maxRecDepth 100000 in
theorem gives_6(v:VP)(p:MP)(g:VF)(f:MF)(q:Nat)(z:Nat)(r:List Int)(tt c:Int)(w:World)(hs:f.small)(hps:p.small)(hP:RdP w v p)(hr:RdF w g f)(hq:p.regions[q]?=some r)(hz:r[z]?=some tt):Calls Tryz.prog 150 #[.agg #[v.r,v.k,v.f,v.t,g.p,.int .i64 f.result,g.l,g.c],.agg #[.int .i64 6,.int .i64 (q:Int),.int .i64 (z:Int),.int .i64 c]] w (TysIs w [tt]):=by
  obtain⟨r1,r3,er⟩:=(show∃a c,v.r=.slice a p.regions.length c from by obtain⟨_,_,h2,_⟩:=hP.regions;exact h2.is_slice)
  obtain⟨k1,k3,ek⟩:=hP.consts.is_slice
  obtain⟨t1,t3,et⟩:=hP.certs.is_slice
  obtain⟨f1,f3,ef⟩:=(show∃a c,v.f=.slice a p.funcs.length c from by obtain⟨_,_,h2,_⟩:=hP.funcs;exact h2.is_slice)
  obtain⟨g1,g3,eg1⟩:=hr.1.is_slice
  obtain⟨g4,g6,eg2⟩:=hr.2.1.is_slice
  obtain⟨g7,g9,eg3⟩:=hr.2.2.is_slice
  obtain⟨gp,gl,gc⟩:=g
  obtain⟨vr,vk,vf,vt⟩:=v
  simp only[]at er ek et ef eg1 eg2 eg3
  subst er ek et ef eg1 eg2 eg3
  have HP:Hid (RdP w ⟨.slice r1 p.regions.length r3,.slice k1 p.consts.length k3,.slice f1 p.funcs.length f3,.slice t1 p.certs.length t3⟩ p):=hP
  have HR:Hid (RdF w ⟨.slice g1 f.params.length g3,.slice g4 f.locals.length g6,.slice g7 f.code.length g9⟩ f):=hr
  clear hP hr
  have E0:Hid (Sc2 w ((w.alloc (.cells #[.slice r1 p.regions.length r3,.slice k1 p.consts.length k3,.slice f1 p.funcs.length f3,.slice t1 p.certs.length t3,.slice g1 f.params.length g3,.int .i64 f.result,.slice g4 f.locals.length g6,.slice g7 f.code.length g9] 85)).alloc (.cells #[.int .i64 6,.int .i64 (q:Int),.int .i64 (z:Int),.int .i64 c] 73)) ⟨.slice r1 p.regions.length r3,.slice k1 p.consts.length k3,.slice f1 p.funcs.length f3,.slice t1 p.certs.length t3⟩ ⟨.slice g1 f.params.length g3,.slice g4 f.locals.length g6,.slice g7 f.code.length g9⟩ f 6 (q:Int) (z:Int) c):=Sc2.of w ⟨.slice r1 p.regions.length r3,.slice k1 p.consts.length k3,.slice f1 p.funcs.length f3,.slice t1 p.certs.length t3⟩ ⟨.slice g1 f.params.length g3,.slice g4 f.locals.length g6,.slice g7 f.code.length g9⟩ f 6 (q:Int) (z:Int) c
  go_enter Tryz.func150,Tryz.ntmps150
  go_upto_region 1 with fail
  refine wp_world (fun u=>Hid (Sc2 w u ⟨.slice r1 p.regions.length r3,.slice k1 p.consts.length k3,.slice f1 p.funcs.length f3,.slice t1 p.certs.length t3⟩ ⟨.slice g1 f.params.length g3,.slice g4 f.locals.length g6,.slice g7 f.code.length g9⟩ f 6 (q:Int) (z:Int) c)) E0 ?_
  rintro U E1
  clear E0
  have i0:=E1.out.ib.cell 0
  have i1:=E1.out.ib.cell 1
  have i2:=E1.out.ib.cell 2
  have i3:=E1.out.ib.cell 3
  have s0:=E1.out.sb.cell 0
  have s1:=E1.out.sb.cell 1
  have s2:=E1.out.sb.cell 2
  have s3:=E1.out.sb.cell 3
  have s4:=E1.out.sb.cell 4
  have s5:=E1.out.sb.cell 5
  have s6:=E1.out.sb.cell 6
  have s7:=E1.out.sb.cell 7
  simp only[List.getElem?_toArray,List.getElem?_cons_zero,List.getElem?_cons_succ]at i0 i1 i2 i3 s0 s1 s2 s3 s4 s5 s6 s7
  go_wp2_with fail
  refine(cellType_any ⟨.slice r1 p.regions.length r3,.slice k1 p.consts.length k3,.slice f1 p.funcs.length f3,.slice t1 p.certs.length t3⟩ p ⟨.slice g1 f.params.length g3,.slice g4 f.locals.length g6,.slice g7 f.code.length g9⟩ f 6 c q z r tt U hps (HP.out.keep E1.out.bel (Nat.le_refl _)).regions hq hz).mono ?_
  rintro e u1 ⟨rfl,b1⟩
  have HB:Hid (Below w.heap.size w u1):=below_on E1.out.bel (Nat.le_refl _) b1
  clear b1
  go_wp2_with fail
  go_ret
  exact tys_new HB.out [tt] 1 1 rfl
end Go.Proofs.YtdfmdgbolmbffaaGreat
namespace Go.Proofs.YtdfmdgbolmbffaaGreat
open Go.ChangeShapes Go.WideShapes Go.ChangeAt Go.RowKit
set_option linter.unusedVariables false
set_option maxHeartbeats 2000000 in
set_option maxRecDepth 100000 in
theorem takes_28(v:VP)(p:MP)(g:VF)(f:MF)(q:Nat)(fq:MF)(b c:Int)(w:World)(hs:f.small)(hps:p.small)(hP:RdP w v p)(hr:RdF w g f)(hq:p.funcs[q]?=some fq):Calls Tryz.prog 147 #[.agg #[v.r,v.k,v.f,v.t,g.p,.int .i64 f.result,g.l,g.c],.agg #[.int .i64 28,.int .i64 (q:Int),.int .i64 b,.int .i64 c]] w (TysIs w fq.params):=by
  obtain⟨gk,ok,ck,ef0,g',hg',fn0,fn1,fn2,fn3⟩:=fn_at hP.funcs hq
  have hql:=(List.getElem?_eq_some_iff.1 hq).1
  obtain⟨r1,r3,er⟩:=(show∃a c,v.r=.slice a p.regions.length c from by obtain⟨_,_,h2,_⟩:=hP.regions;exact h2.is_slice)
  obtain⟨k1,k3,ek⟩:=hP.consts.is_slice
  obtain⟨t1,t3,et⟩:=hP.certs.is_slice
  obtain⟨f1,f3,ef⟩:=(show∃a c,v.f=.slice a p.funcs.length c from by obtain⟨_,_,h2,_⟩:=hP.funcs;exact h2.is_slice)
  obtain⟨g1,g3,eg1⟩:=hr.1.is_slice
  obtain⟨g4,g6,eg2⟩:=hr.2.1.is_slice
  obtain⟨g7,g9,eg3⟩:=hr.2.2.is_slice
  obtain⟨gp,gl,gc⟩:=g
  obtain⟨vr,vk,vf,vt⟩:=v
  simp only[]at er ek et ef eg1 eg2 eg3
  subst er ek et ef eg1 eg2 eg3
  have HP:Hid (RdP w ⟨.slice r1 p.regions.length r3,.slice k1 p.consts.length k3,.slice f1 p.funcs.length f3,.slice t1 p.certs.length t3⟩ p):=hP
  have HR:Hid (RdF w ⟨.slice g1 f.params.length g3,.slice g4 f.locals.length g6,.slice g7 f.code.length g9⟩ f):=hr
  clear hP hr
  simp only[Value.slice.injEq,true_and]at ef0
  obtain⟨rfl,hx⟩:=ef0
  clear hx
  have hfl:=hps.funcs
  have hqI:(q:Int)<(p.funcs.length:Int):=by omega
  have E0:Hid (Sc2 w ((w.alloc (.cells #[.slice r1 p.regions.length r3,.slice k1 p.consts.length k3,.slice (some ⟨gk,ok,none⟩) p.funcs.length f3,.slice t1 p.certs.length t3,.slice g1 f.params.length g3,.int .i64 f.result,.slice g4 f.locals.length g6,.slice g7 f.code.length g9] 85)).alloc (.cells #[.int .i64 28,.int .i64 (q:Int),.int .i64 b,.int .i64 c] 73)) ⟨.slice r1 p.regions.length r3,.slice k1 p.consts.length k3,.slice (some ⟨gk,ok,none⟩) p.funcs.length f3,.slice t1 p.certs.length t3⟩ ⟨.slice g1 f.params.length g3,.slice g4 f.locals.length g6,.slice g7 f.code.length g9⟩ f 28 (q:Int) b c):=Sc2.of w ⟨.slice r1 p.regions.length r3,.slice k1 p.consts.length k3,.slice (some ⟨gk,ok,none⟩) p.funcs.length f3,.slice t1 p.certs.length t3⟩ ⟨.slice g1 f.params.length g3,.slice g4 f.locals.length g6,.slice g7 f.code.length g9⟩ f 28 (q:Int) b c
  go_enter Tryz.func147,Tryz.ntmps147
  go_upto_region 1 with fail
  refine wp_world (fun u=>Hid (Sc2 w u ⟨.slice r1 p.regions.length r3,.slice k1 p.consts.length k3,.slice (some ⟨gk,ok,none⟩) p.funcs.length f3,.slice t1 p.certs.length t3⟩ ⟨.slice g1 f.params.length g3,.slice g4 f.locals.length g6,.slice g7 f.code.length g9⟩ f 28 (q:Int) b c)) E0 ?_
  rintro U E1
  clear E0
  have i0:=E1.out.ib.cell 0
  have i1:=E1.out.ib.cell 1
  have i2:=E1.out.ib.cell 2
  have i3:=E1.out.ib.cell 3
  have s0:=E1.out.sb.cell 0
  have s1:=E1.out.sb.cell 1
  have s2:=E1.out.sb.cell 2
  have s3:=E1.out.sb.cell 3
  have s4:=E1.out.sb.cell 4
  have s5:=E1.out.sb.cell 5
  have s6:=E1.out.sb.cell 6
  have s7:=E1.out.sb.cell 7
  simp only[List.getElem?_toArray,List.getElem?_cons_zero,List.getElem?_cons_succ]at i0 i1 i2 i3 s0 s1 s2 s3 s4 s5 s6 s7
  have c0:=bcell_lt E1.out.bel fn0
  obtain⟨pa,pc,ep⟩:=hg'.1.is_slice
  have HE:Hid (TysIs w fq.params (.returned g'.p) U):=⟨g'.p,rfl,hg'.1.keep E1.out.bel (Nat.le_refl _),E1.out.bel⟩
  rw[ep]at c0 HE
  clear fn0 fn1 fn2 fn3
  go_wp2_with fail
  go_ret
  exact HE.out
set_option maxHeartbeats 2000000 in
set_option maxRecDepth 100000 in
theorem gives_28(v:VP)(p:MP)(g:VF)(f:MF)(q:Nat)(fq:MF)(b c:Int)(w:World)(hs:f.small)(hps:p.small)(hP:RdP w v p)(hr:RdF w g f)(hq:p.funcs[q]?=some fq):Calls Tryz.prog 150 #[.agg #[v.r,v.k,v.f,v.t,g.p,.int .i64 f.result,g.l,g.c],.agg #[.int .i64 28,.int .i64 (q:Int),.int .i64 b,.int .i64 c]] w (TysIs w (resultL fq)):=by
  obtain⟨gk,ok,ck,ef0,g',hg',fn0,fn1,fn2,fn3⟩:=fn_at hP.funcs hq
  have hql:=(List.getElem?_eq_some_iff.1 hq).1
  obtain⟨r1,r3,er⟩:=(show∃a c,v.r=.slice a p.regions.length c from by obtain⟨_,_,h2,_⟩:=hP.regions;exact h2.is_slice)
  obtain⟨k1,k3,ek⟩:=hP.consts.is_slice
  obtain⟨t1,t3,et⟩:=hP.certs.is_slice
  obtain⟨f1,f3,ef⟩:=(show∃a c,v.f=.slice a p.funcs.length c from by obtain⟨_,_,h2,_⟩:=hP.funcs;exact h2.is_slice)
  obtain⟨g1,g3,eg1⟩:=hr.1.is_slice
  obtain⟨g4,g6,eg2⟩:=hr.2.1.is_slice
  obtain⟨g7,g9,eg3⟩:=hr.2.2.is_slice
  obtain⟨gp,gl,gc⟩:=g
  obtain⟨vr,vk,vf,vt⟩:=v
  simp only[]at er ek et ef eg1 eg2 eg3
  subst er ek et ef eg1 eg2 eg3
  have HP:Hid (RdP w ⟨.slice r1 p.regions.length r3,.slice k1 p.consts.length k3,.slice f1 p.funcs.length f3,.slice t1 p.certs.length t3⟩ p):=hP
  have HR:Hid (RdF w ⟨.slice g1 f.params.length g3,.slice g4 f.locals.length g6,.slice g7 f.code.length g9⟩ f):=hr
  clear hP hr
  simp only[Value.slice.injEq,true_and]at ef0
  obtain⟨rfl,hx⟩:=ef0
  clear hx
  have hfl:=hps.funcs
  have hqI:(q:Int)<(p.funcs.length:Int):=by omega
  have E0:Hid (Sc2 w ((w.alloc (.cells #[.slice r1 p.regions.length r3,.slice k1 p.consts.length k3,.slice (some ⟨gk,ok,none⟩) p.funcs.length f3,.slice t1 p.certs.length t3,.slice g1 f.params.length g3,.int .i64 f.result,.slice g4 f.locals.length g6,.slice g7 f.code.length g9] 85)).alloc (.cells #[.int .i64 28,.int .i64 (q:Int),.int .i64 b,.int .i64 c] 73)) ⟨.slice r1 p.regions.length r3,.slice k1 p.consts.length k3,.slice (some ⟨gk,ok,none⟩) p.funcs.length f3,.slice t1 p.certs.length t3⟩ ⟨.slice g1 f.params.length g3,.slice g4 f.locals.length g6,.slice g7 f.code.length g9⟩ f 28 (q:Int) b c):=Sc2.of w ⟨.slice r1 p.regions.length r3,.slice k1 p.consts.length k3,.slice (some ⟨gk,ok,none⟩) p.funcs.length f3,.slice t1 p.certs.length t3⟩ ⟨.slice g1 f.params.length g3,.slice g4 f.locals.length g6,.slice g7 f.code.length g9⟩ f 28 (q:Int) b c
  go_enter Tryz.func150,Tryz.ntmps150
  go_upto_region 1 with fail
  refine wp_world (fun u=>Hid (Sc2 w u ⟨.slice r1 p.regions.length r3,.slice k1 p.consts.length k3,.slice (some ⟨gk,ok,none⟩) p.funcs.length f3,.slice t1 p.certs.length t3⟩ ⟨.slice g1 f.params.length g3,.slice g4 f.locals.length g6,.slice g7 f.code.length g9⟩ f 28 (q:Int) b c)) E0 ?_
  rintro U E1
  clear E0
  have i0:=E1.out.ib.cell 0
  have i1:=E1.out.ib.cell 1
  have i2:=E1.out.ib.cell 2
  have i3:=E1.out.ib.cell 3
  have s0:=E1.out.sb.cell 0
  have s1:=E1.out.sb.cell 1
  have s2:=E1.out.sb.cell 2
  have s3:=E1.out.sb.cell 3
  have s4:=E1.out.sb.cell 4
  have s5:=E1.out.sb.cell 5
  have s6:=E1.out.sb.cell 6
  have s7:=E1.out.sb.cell 7
  simp only[List.getElem?_toArray,List.getElem?_cons_zero,List.getElem?_cons_succ]at i0 i1 i2 i3 s0 s1 s2 s3 s4 s5 s6 s7
  have c0:=bcell_lt E1.out.bel fn0
  have c1:=bcell_lt E1.out.bel fn1
  have c2:=bcell_lt E1.out.bel fn2
  have c3:=bcell_lt E1.out.bel fn3
  obtain⟨pa,pc,ep⟩:=hg'.1.is_slice
  obtain⟨la,lc,el⟩:=hg'.2.1.is_slice
  obtain⟨ca,cc,ec⟩:=hg'.2.2.is_slice
  rw[ep]at c0
  rw[el]at c2
  rw[ec]at c3
  clear fn0 fn1 fn2 fn3 ep el ec
  go_wp2_with fail
  refine(resT_any ⟨.slice pa fq.params.length pc,.slice la fq.locals.length lc,.slice ca fq.code.length cc⟩ fq U).mono ?_
  rintro e u1 ⟨s,rfl,hrd,b1⟩
  have HE:Hid (TysIs w (resultL fq) (.returned s) u1):=⟨s,rfl,hrd,below_on E1.out.bel (Nat.le_refl _) b1⟩
  obtain⟨sa,sc,rfl⟩:=hrd.is_slice
  clear hrd b1
  go_wp2_with fail
  go_ret
  exact HE.out
set_option maxHeartbeats 2000000 in
set_option maxRecDepth 100000 in
theorem gives_1(v:VP)(p:MP)(g:VF)(f:MF)(q:Nat)(z:MC)(b c:Int)(w:World)(hs:f.small)(hps:p.small)(hP:RdP w v p)(hr:RdF w g f)(hq:p.consts[q]?=some z):Calls Tryz.prog 150 #[.agg #[v.r,v.k,v.f,v.t,g.p,.int .i64 f.result,g.l,g.c],.agg #[.int .i64 1,.int .i64 (q:Int),.int .i64 b,.int .i64 c]] w (TysIs w [z.type]):=by
  have hql:=(List.getElem?_eq_some_iff.1 hq).1
  obtain⟨gk,ok,ck,ek0,kc0⟩:∃gk ok ck,v.k=.slice (some ⟨gk,ok,none⟩) p.consts.length ck/\w.cell? ⟨gk,ok+q*2,none⟩=some (.int .i64 z.type):=by
    rcases hP.consts.2 with⟨e,_⟩|⟨gk,ok,ck,e,hc⟩
    . omega
    . exact⟨gk,ok,ck,e,Rd.elem MC.cells_length hc q z hq 0 _ rfl⟩
  obtain⟨r1,r3,er⟩:=(show∃a c,v.r=.slice a p.regions.length c from by obtain⟨_,_,h2,_⟩:=hP.regions;exact h2.is_slice)
  obtain⟨k1,k3,ek⟩:=hP.consts.is_slice
  obtain⟨t1,t3,et⟩:=hP.certs.is_slice
  obtain⟨f1,f3,ef⟩:=(show∃a c,v.f=.slice a p.funcs.length c from by obtain⟨_,_,h2,_⟩:=hP.funcs;exact h2.is_slice)
  obtain⟨g1,g3,eg1⟩:=hr.1.is_slice
  obtain⟨g4,g6,eg2⟩:=hr.2.1.is_slice
  obtain⟨g7,g9,eg3⟩:=hr.2.2.is_slice
  obtain⟨gp,gl,gc⟩:=g
  obtain⟨vr,vk,vf,vt⟩:=v
  simp only[]at er ek et ef eg1 eg2 eg3
  subst er ek et ef eg1 eg2 eg3
  have HP:Hid (RdP w ⟨.slice r1 p.regions.length r3,.slice k1 p.consts.length k3,.slice f1 p.funcs.length f3,.slice t1 p.certs.length t3⟩ p):=hP
  have HR:Hid (RdF w ⟨.slice g1 f.params.length g3,.slice g4 f.locals.length g6,.slice g7 f.code.length g9⟩ f):=hr
  clear hP hr
  simp only[Value.slice.injEq,true_and]at ek0
  obtain⟨rfl,hx⟩:=ek0
  clear hx
  have hfl:=hps.consts
  have hqI:(q:Int)<(p.consts.length:Int):=by omega
  have E0:Hid (Sc2 w ((w.alloc (.cells #[.slice r1 p.regions.length r3,.slice (some ⟨gk,ok,none⟩) p.consts.length k3,.slice f1 p.funcs.length f3,.slice t1 p.certs.length t3,.slice g1 f.params.length g3,.int .i64 f.result,.slice g4 f.locals.length g6,.slice g7 f.code.length g9] 85)).alloc (.cells #[.int .i64 1,.int .i64 (q:Int),.int .i64 b,.int .i64 c] 73)) ⟨.slice r1 p.regions.length r3,.slice (some ⟨gk,ok,none⟩) p.consts.length k3,.slice f1 p.funcs.length f3,.slice t1 p.certs.length t3⟩ ⟨.slice g1 f.params.length g3,.slice g4 f.locals.length g6,.slice g7 f.code.length g9⟩ f 1 (q:Int) b c):=Sc2.of w ⟨.slice r1 p.regions.length r3,.slice (some ⟨gk,ok,none⟩) p.consts.length k3,.slice f1 p.funcs.length f3,.slice t1 p.certs.length t3⟩ ⟨.slice g1 f.params.length g3,.slice g4 f.locals.length g6,.slice g7 f.code.length g9⟩ f 1 (q:Int) b c
  go_enter Tryz.func150,Tryz.ntmps150
  go_upto_region 1 with fail
  refine wp_world (fun u=>Hid (Sc2 w u ⟨.slice r1 p.regions.length r3,.slice (some ⟨gk,ok,none⟩) p.consts.length k3,.slice f1 p.funcs.length f3,.slice t1 p.certs.length t3⟩ ⟨.slice g1 f.params.length g3,.slice g4 f.locals.length g6,.slice g7 f.code.length g9⟩ f 1 (q:Int) b c)) E0 ?_
  rintro U E1
  clear E0
  have i0:=E1.out.ib.cell 0
  have i1:=E1.out.ib.cell 1
  have i2:=E1.out.ib.cell 2
  have i3:=E1.out.ib.cell 3
  have s0:=E1.out.sb.cell 0
  have s1:=E1.out.sb.cell 1
  have s2:=E1.out.sb.cell 2
  have s3:=E1.out.sb.cell 3
  have s4:=E1.out.sb.cell 4
  have s5:=E1.out.sb.cell 5
  have s6:=E1.out.sb.cell 6
  have s7:=E1.out.sb.cell 7
  simp only[List.getElem?_toArray,List.getElem?_cons_zero,List.getElem?_cons_succ]at i0 i1 i2 i3 s0 s1 s2 s3 s4 s5 s6 s7
  have c0:=bcell_lt E1.out.bel kc0
  clear kc0
  go_wp2_with fail
  go_ret
  exact tys_new E1.out.bel [z.type] 1 1 rfl
set_option maxHeartbeats 4000000 in
theorem takes_any(v:VP)(p:MP)(g:VF)(f:MF)(x:MI)(w:World)(hps:p.small)(h3:p.regions.length=3)(hs:f.small)(hP:RdP w v p)(hr:RdF w g f)(hx:InstrOk p f x):
    Calls Tryz.prog 147 #[.agg #[v.r,v.k,v.f,v.t,g.p,.int .i64 f.result,g.l,g.c],.agg #[.int .i64 x.op,.int .i64 x.a,.int .i64 x.b,.int .i64 x.c]] w (TysIs w (takesI p f x)):=by
  obtain⟨op,a,b,c⟩:=x
  have hlo:=hx.1
  have hhi:=hx.2.1
  simp only[]at hlo hhi
  have HX:Hid (InstrOk p f ⟨op,a,b,c⟩):=hx
  by_cases hsp:op=3\/op=5\/op=7\/op=28\/op=29
  . clear hlo hhi hx
    rcases hsp with rfl|rfl|rfl|rfl|rfl
    . obtain⟨q,hq,ht⟩:=HX.out.local (by simp)
      simp only[]at hq ht
      subst hq
      rw[show takesI p f ⟨3,q,b,c⟩=[localOf f q]from by simp[takesI,takesL]]
      exact takes_3 v p g f q (localOf f q) b c w hs hps hP hr ht
    . obtain⟨q,z,r,hq,hz,hr',ht⟩:=HX.out.cell h3 (by simp)
      simp only[]at hq hz
      subst hq hz
      rw[show takesI p f ⟨5,q,z,c⟩=[cellTy p ⟨5,q,z,c⟩]from by simp[takesI,takesL]]
      exact takes_5 v p g f q z r _ c w hs hps hP hr hr' ht
    . obtain⟨q,z,r,hq,hz,hr',ht⟩:=HX.out.cell h3 (by simp)
      simp only[]at hq hz
      subst hq hz
      rw[show takesI p f ⟨7,q,z,c⟩=[3,cellTy p ⟨7,q,z,c⟩]from by simp[takesI,takesL]]
      exact takes_7 v p g f q z r _ c w hs hps hP hr hr' ht
    . obtain⟨q,fq,hq,hfq⟩:=HX.out.callee rfl
      simp only[]at hq
      subst hq
      rw[show takesI p f ⟨28,q,b,c⟩=fq.params from by simp[takesI,takesL,hfq]]
      exact takes_28 v p g f q fq b c w hs hps hP hr hfq
    . rw[show takesI p f ⟨29,a,b,c⟩=resultL f from by simp[takesI]]
      exact takes_29 v p g f 0 a b c w hs hps hP hr
  . have hcase:op=0\/op=1\/op=2\/op=4\/op=6\/op=8\/op=9\/op=10\/op=11\/op=12\/op=13\/op=14\/op=15\/op=16\/op=17\/op=18\/op=19\/op=20\/op=21\/op=22\/op=23\/op=24\/op=25\/op=26\/op=27:=by omega
    clear hlo hhi hx hsp
    rcases hcase with rfl|rfl|rfl|rfl|rfl|rfl|rfl|rfl|rfl|rfl|rfl|rfl|rfl|rfl|rfl|rfl|rfl|rfl|rfl|rfl|rfl|rfl|rfl|rfl|rfl
    all_goals exact takesC v g f _ a b c _ w (by simp[takesI,takesL])
set_option maxHeartbeats 4000000 in
theorem gives_any(v:VP)(p:MP)(g:VF)(f:MF)(x:MI)(w:World)(hps:p.small)(h3:p.regions.length=3)(hs:f.small)(hP:RdP w v p)(hr:RdF w g f)(hx:InstrOk p f x):
    Calls Tryz.prog 150 #[.agg #[v.r,v.k,v.f,v.t,g.p,.int .i64 f.result,g.l,g.c],.agg #[.int .i64 x.op,.int .i64 x.a,.int .i64 x.b,.int .i64 x.c]] w (TysIs w (givesL p f x)):=by
  obtain⟨op,a,b,c⟩:=x
  have hlo:=hx.1
  have hhi:=hx.2.1
  simp only[]at hlo hhi
  have HX:Hid (InstrOk p f ⟨op,a,b,c⟩):=hx
  by_cases hsp:op=1\/op=2\/op=4\/op=6\/op=28
  . clear hlo hhi hx
    rcases hsp with rfl|rfl|rfl|rfl|rfl
    . obtain⟨q,z,hq,hz⟩:=HX.out.const rfl
      simp only[]at hq
      subst hq
      rw[show givesL p f ⟨1,q,b,c⟩=[z.type]from by simp[givesL,vAt,hz]]
      exact gives_1 v p g f q z b c w hs hps hP hr hz
    . obtain⟨q,hq,ht⟩:=HX.out.local (by simp)
      simp only[]at hq ht
      subst hq
      rw[show givesL p f ⟨2,q,b,c⟩=[localOf f q]from by simp[givesL]]
      exact gives_2 v p g f q (localOf f q) b c w hs hps hP hr ht
    . obtain⟨q,z,r,hq,hz,hr',ht⟩:=HX.out.cell h3 (by simp)
      simp only[]at hq hz
      subst hq hz
      rw[show givesL p f ⟨4,q,z,c⟩=[cellTy p ⟨4,q,z,c⟩]from by simp[givesL]]
      exact gives_4 v p g f q z r _ c w hs hps hP hr hr' ht
    . obtain⟨q,z,r,hq,hz,hr',ht⟩:=HX.out.cell h3 (by simp)
      simp only[]at hq hz
      subst hq hz
      rw[show givesL p f ⟨6,q,z,c⟩=[cellTy p ⟨6,q,z,c⟩]from by simp[givesL]]
      exact gives_6 v p g f q z r _ c w hs hps hP hr hr' ht
    . obtain⟨q,fq,hq,hfq⟩:=HX.out.callee rfl
      simp only[]at hq
      subst hq
      rw[show givesL p f ⟨28,q,b,c⟩=resultL fq from by simp[givesL,hfq]]
      exact gives_28 v p g f q fq b c w hs hps hP hr hfq
  . have hcase:op=0\/op=3\/op=5\/op=7\/op=8\/op=9\/op=10\/op=11\/op=12\/op=13\/op=14\/op=15\/op=16\/op=17\/op=18\/op=19\/op=20\/op=21\/op=22\/op=23\/op=24\/op=25\/op=26\/op=27\/op=29:=by omega
    clear hlo hhi hx hsp
    rcases hcase with rfl|rfl|rfl|rfl|rfl|rfl|rfl|rfl|rfl|rfl|rfl|rfl|rfl|rfl|rfl|rfl|rfl|rfl|rfl|rfl|rfl|rfl|rfl|rfl|rfl
    all_goals exact givesC v g f _ a b c _ w (by simp[givesL])
end Go.Proofs.YtdfmdgbolmbffaaGreat
namespace Go.Proofs.YtdfmdgbolmbffaaGreat
open Go.ChangeShapes Go.WideShapes Go.ChangeAt Go.RowKit
end Go.Proofs.YtdfmdgbolmbffaaGreat
namespace Go.Proofs.YtdfmdgbolmbffaaGreat
open Go.ChangeShapes Go.WideShapes Go.ChangeAt Go.RowKit
set_option linter.unusedVariables false
theorem RdP.sl{w:World}{v:VP}{p:MP}(h:RdP w v p):∃r1 r3 k1 k3 t1 t3 f1 f3,v=⟨.slice r1 p.regions.length r3,.slice k1 p.consts.length k3,.slice f1 p.funcs.length f3,.slice t1 p.certs.length t3⟩:=by
  obtain⟨r1,r3,er⟩:=(show∃a c,v.r=.slice a p.regions.length c from by obtain⟨_,_,h2,_⟩:=h.regions;exact h2.is_slice)
  obtain⟨k1,k3,ek⟩:=h.consts.is_slice
  obtain⟨t1,t3,et⟩:=h.certs.is_slice
  obtain⟨f1,f3,ef⟩:=(show∃a c,v.f=.slice a p.funcs.length c from by obtain⟨_,_,h2,_⟩:=h.funcs;exact h2.is_slice)
  obtain⟨vr,vk,vf,vt⟩:=v
  simp only[]at er ek et ef
  subst er ek et ef
  exact⟨r1,r3,k1,k3,t1,t3,f1,f3,rfl⟩
theorem rdF_sl{w:World}{g:VF}{f:MF}(h:RdF w g f):∃g1 g3 g4 g6 g7 g9,g=⟨.slice g1 f.params.length g3,.slice g4 f.locals.length g6,.slice g7 f.code.length g9⟩:=by
  obtain⟨g1,g3,e1⟩:=h.1.is_slice
  obtain⟨g4,g6,e2⟩:=h.2.1.is_slice
  obtain⟨g7,g9,e3⟩:=h.2.2.is_slice
  obtain⟨gp,gl,gc⟩:=g
  simp only[]at e1 e2 e3
  subst e1 e2 e3
  exact⟨g1,g3,g4,g6,g7,g9,rfl⟩
end Go.Proofs.YtdfmdgbolmbffaaGreat
namespace Go.Proofs.YtdfmdgbolmbffaaGreat
open Go.ChangeShapes Go.WideShapes Go.ChangeAt Go.RowKit
set_option linter.unusedVariables false
def codeI(p:MP)(f:MF)(x:MI)(sh:List Int):Int:=if x.op=29 then(if sh=resultL f then 0 else 5)else codeT p f x sh
def outI(p:MP)(f:MF)(x:MI)(sh:List Int):List Int:=if x.op=29 then[]else outT p f x sh
def RStk(S:Nat)(V:Value)(j:Nat):Prop:=j=S\/V.ownBlock=some j
def ChT(w:World)(S:Nat)(V:Value)(code:Int)(out:List Int)(w':World):Prop:=Chg (RStk S V) w w'/\(code=0->∃V',Stk w' S V' out/\(V'.ownBlock=V.ownBlock\/∀g,V'.ownBlock=some g->w.heap.size<=g))
structure ChAt(w u:World)(v:VP)(g:VF)(f:MF)(x:MI)(S:Nat)(V:Value):Prop where
  sb:Blk u w.heap.size #[v.r,v.k,v.f,v.t,g.p,.int .i64 f.result,g.l,g.c] 85
  ib:Blk u (w.heap.size+1) #[.int .i64 x.op,.int .i64 x.a,.int .i64 x.b,.int .i64 x.c] 73
  chg:Chg (RStk S V) w u
theorem ChAt.step{w u u':World}{v:VP}{g:VF}{f:MF}{x:MI}{S:Nat}{V:Value}{R:Nat->Prop}(h:ChAt w u v g f x S V)(hc:Chg R u u')(hR:∀k,R k->k<w.heap.size->RStk S V k)(hn:∀k,R k->k=w.heap.size\/k=w.heap.size+1->False):ChAt w u' v g f x S V:=⟨hc.blk h.sb (fun e=>hn _ e (.inl rfl)),hc.blk h.ib (fun e=>hn _ e (.inr rfl)),h.chg.trans hc (fun k hk e=>hR k e hk)⟩
theorem ChAt.keep{w u u':World}{v:VP}{g:VF}{f:MF}{x:MI}{S:Nat}{V:Value}(h:ChAt w u v g f x S V)(hb:Below u.heap.size u u'):ChAt w u' v g f x S V:=⟨h.sb.keep hb,h.ib.keep hb,h.chg.on hb⟩
theorem RStk.ge{w:World}{S:Nat}{V:Value}{xs:List Int}(h:Stk w S V xs){j:Nat}(hj:RStk S V j):S<=j/\j<w.heap.size:=by
  rcases hj with rfl|hj
  . exact⟨Nat.le_refl _,h.blk.lt⟩
  . have:=h.lt j hj;omega
theorem out_given{p:MP}{f:MF}{x:MI}{sh:List Int}(h:∀t∈givesL p f x,t=0->x.op=23)(h23:x.op≠23):outT p f x sh=sh.take (lowT p f x sh)++givesL p f x:=by
  unfold outT
  congr 1
  rw[List.map_congr_left (g:=id) (fun t ht=>by
    have:t≠0:=fun e=>h23 (h t ht e)
    simp[this])]
  simp
theorem takesL_23{p:MP}{f:MF}{x:MI}(h:x.op=23):takesL p f x=[0]:=by unfold takesL;rw[if_neg (by omega),if_neg (by omega),if_neg (by omega),if_neg (by omega),if_neg (by omega),if_neg (by omega),if_neg (by omega),if_neg (by omega),if_pos (by omega)]
theorem givesL_23{p:MP}{f:MF}{x:MI}(h:x.op=23):givesL p f x=[0,0]:=by unfold givesL;rw[if_neg (by omega),if_neg (by omega),if_neg (by omega),if_neg (by omega),if_neg (by omega),if_neg (by omega),if_neg (by omega),if_neg (by omega),if_pos h]
theorem out_dup{p:MP}{f:MF}{x:MI}{sh:List Int}(h:x.op=23)(hl:1<=sh.length):outT p f x sh=sh.take (sh.length-1)++(sh.drop (sh.length-1)++sh.drop (sh.length-1)):=by
  have e:lowT p f x sh=sh.length-1:=by unfold lowT;rw[takesL_23 h];rfl
  unfold outT
  rw[e,givesL_23 h]
  congr 1
  obtain⟨y,hy⟩:∃y,sh[sh.length-1]?=some y:=⟨_,List.getElem?_eq_getElem (by omega)⟩
  have hd:sh.drop (sh.length-1)=[y]:=by
    obtain⟨hlt,rfl⟩:=List.getElem?_eq_some_iff.1 hy
    rw[List.drop_eq_getElem_cons hlt]
    congr 1
    exact List.drop_eq_nil_of_le (by omega)
  rw[hd,hy]
  rfl
theorem takesI_of{p:MP}{f:MF}{x:MI}(h:x.op≠29):takesI p f x=takesL p f x:=by unfold takesI;rw[if_neg h]
theorem takesI_29{p:MP}{f:MF}{x:MI}(h:x.op=29):takesI p f x=resultL f:=by unfold takesI;rw[if_pos h]
theorem givesL_29{p:MP}{f:MF}{x:MI}(h:x.op=29):givesL p f x=[]:=by unfold givesL;rw[if_neg (by omega),if_neg (by omega),if_neg (by omega),if_neg (by omega),if_neg (by omega),if_neg (by omega),if_neg (by omega),if_neg (by omega),if_neg (by omega),if_neg (by omega)]
theorem fits_self(l:List Int):fitsT l l=true:=by
  induction l with
  |nil=>rfl
  |cons a r ih=>simp[fitsT,ih]
theorem codeT_few{p:MP}{f:MF}{x:MI}{sh:List Int}(h:sh.length<(takesL p f x).length):codeT p f x sh=1:=by unfold codeT;rw[if_pos h]
theorem codeT_differ{p:MP}{f:MF}{x:MI}{sh:List Int}(h:(takesL p f x).length<=sh.length)(h2:fitsT (sh.drop (lowT p f x sh)) (takesL p f x)=false\/(x.op=27/\localOf f x.a≠3)):codeT p f x sh=2:=by unfold codeT;rw[if_neg (by omega),if_pos h2]
theorem codeT_full{p:MP}{f:MF}{x:MI}{sh:List Int}(h:(takesL p f x).length<=sh.length)(h2:fitsT (sh.drop (lowT p f x sh)) (takesL p f x)=true)(h3:¬(x.op=27/\localOf f x.a≠3))(h4:64<(outT p f x sh).length):codeT p f x sh=3:=by unfold codeT;rw[if_neg (by omega),if_neg (fun e=>e.elim (fun e=>by rw[h2]at e;cases e) h3),if_pos h4]
theorem codeT_free{p:MP}{f:MF}{x:MI}{sh:List Int}(h:(takesL p f x).length<=sh.length)(h2:fitsT (sh.drop (lowT p f x sh)) (takesL p f x)=true)(h3:¬(x.op=27/\localOf f x.a≠3))(h4:¬64<(outT p f x sh).length):codeT p f x sh=0:=by unfold codeT;rw[if_neg (by omega),if_neg (fun e=>e.elim (fun e=>by rw[h2]at e;cases e) h3),if_neg h4]
theorem cel8{w:World}{b:Nat}{t:TypeId}{a0 a1 a2 a3 a4 a5 a6 a7:Value}(h:Blk w b #[a0,a1,a2,a3,a4,a5,a6,a7] t):w.cell? ⟨b,0,none⟩=some a0/\w.cell? ⟨b,1,none⟩=some a1/\w.cell? ⟨b,2,none⟩=some a2/\w.cell? ⟨b,3,none⟩=some a3/\w.cell? ⟨b,4,none⟩=some a4/\w.cell? ⟨b,5,none⟩=some a5/\w.cell? ⟨b,6,none⟩=some a6/\w.cell? ⟨b,7,none⟩=some a7:=⟨h.cell 0,h.cell 1,h.cell 2,h.cell 3,h.cell 4,h.cell 5,h.cell 6,h.cell 7⟩
theorem cel4{w:World}{b:Nat}{t:TypeId}{a0 a1 a2 a3:Value}(h:Blk w b #[a0,a1,a2,a3] t):w.cell? ⟨b,0,none⟩=some a0/\w.cell? ⟨b,1,none⟩=some a1/\w.cell? ⟨b,2,none⟩=some a2/\w.cell? ⟨b,3,none⟩=some a3:=⟨h.cell 0,h.cell 1,h.cell 2,h.cell 3⟩
end Go.Proofs.YtdfmdgbolmbffaaGreat
