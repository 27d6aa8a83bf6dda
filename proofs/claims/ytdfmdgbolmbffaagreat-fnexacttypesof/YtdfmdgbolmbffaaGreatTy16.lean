import Derived.Test.YtdfmdgbolmbffaaGreatTy15
import Derived.Deep.RegionLaw
namespace Go.Proofs.YtdfmdgbolmbffaaGreat
open Go.ChangeShapes Go.WideShapes Go.ChangeAt Go.RowKit
set_option linter.unusedVariables false
set_option maxHeartbeats 2000000 in
set_option maxRecDepth 100000 in
theorem guardHolds_any(v:VP)(p:MP)(g:VF)(f:MF)(op a b c:Int)(w:World)(hs:f.small)(hP:RdP w v p)(hr:RdF w g f)(hg:op=27->∃q:Nat,a=q/\(f.params++f.locals)[q]?=some (localOf f a)):
    Calls Tryz.prog 149 #[.agg #[v.r,v.k,v.f,v.t,g.p,.int .i64 f.result,g.l,g.c],.agg #[.int .i64 op,.int .i64 a,.int .i64 b,.int .i64 c]] w fun e w'=>SaysIff e (¬(op=27/\localOf f a≠3))/\Below w.heap.size w w':=by
  obtain⟨r1,r3,er⟩:=(show∃a c,v.r=.slice a p.regions.length c from by obtain⟨_,_,h2,_⟩:=hP.regions;exact h2.is_slice)
  obtain⟨k1,k3,ek⟩:=hP.consts.is_slice
  obtain⟨t1,t3,et⟩:=hP.certs.is_slice
  obtain⟨f1,f3,ef⟩:=(show∃a c,v.f=.slice a p.funcs.length c from by obtain⟨_,_,h2,_⟩:=hP.funcs;exact h2.is_slice)
  obtain⟨g1,g3,eg1⟩:=hr.1.is_slice
  obtain⟨g4,g6,eg2⟩:=hr.2.1.is_slice
  obtain⟨g7,g9,eg3⟩:=hr.2.2.is_slice
  obtain⟨gp,gl,gc⟩:=g
  obtain⟨vr,vk,vf,vt⟩:=v
  simp only[]at er ek et ef eg1 eg2 eg3
  subst er ek et ef eg1 eg2 eg3
  have HP:Hid (RdP w ⟨.slice r1 p.regions.length r3,.slice k1 p.consts.length k3,.slice f1 p.funcs.length f3,.slice t1 p.certs.length t3⟩ p):=hP
  have HR:Hid (RdF w ⟨.slice g1 f.params.length g3,.slice g4 f.locals.length g6,.slice g7 f.code.length g9⟩ f):=hr
  clear hP hr
  have E0:Hid (Sc2 w ((w.alloc (.cells #[.slice r1 p.regions.length r3,.slice k1 p.consts.length k3,.slice f1 p.funcs.length f3,.slice t1 p.certs.length t3,.slice g1 f.params.length g3,.int .i64 f.result,.slice g4 f.locals.length g6,.slice g7 f.code.length g9] 85)).alloc (.cells #[.int .i64 op,.int .i64 a,.int .i64 b,.int .i64 c] 73)) ⟨.slice r1 p.regions.length r3,.slice k1 p.consts.length k3,.slice f1 p.funcs.length f3,.slice t1 p.certs.length t3⟩ ⟨.slice g1 f.params.length g3,.slice g4 f.locals.length g6,.slice g7 f.code.length g9⟩ f op a b c):=Sc2.of w ⟨.slice r1 p.regions.length r3,.slice k1 p.consts.length k3,.slice f1 p.funcs.length f3,.slice t1 p.certs.length t3⟩ ⟨.slice g1 f.params.length g3,.slice g4 f.locals.length g6,.slice g7 f.code.length g9⟩ f op a b c
  by_cases h27:op=27
  . obtain⟨q,rfl,hq⟩:=hg h27
    subst h27
    have HQ:Hid ((f.params++f.locals)[q]?=some (localOf f q)):=hq
    clear hg hq
    go_enter Tryz.func149,Tryz.ntmps149
    go_upto_region 1 with fail
    refine wp_world (fun u=>Hid (Sc2 w u ⟨.slice r1 p.regions.length r3,.slice k1 p.consts.length k3,.slice f1 p.funcs.length f3,.slice t1 p.certs.length t3⟩ ⟨.slice g1 f.params.length g3,.slice g4 f.locals.length g6,.slice g7 f.code.length g9⟩ f 27 q b c)) E0 ?_
    rintro U E1
    clear E0
    have i0:=E1.out.ib.cell 0
    have i1:=E1.out.ib.cell 1
    have s0:=E1.out.sb.cell 0
    have s1:=E1.out.sb.cell 1
    have s2:=E1.out.sb.cell 2
    have s3:=E1.out.sb.cell 3
    have s4:=E1.out.sb.cell 4
    have s5:=E1.out.sb.cell 5
    have s6:=E1.out.sb.cell 6
    have s7:=E1.out.sb.cell 7
    simp only[List.getElem?_toArray,List.getElem?_cons_zero,List.getElem?_cons_succ]at i0 i1 s0 s1 s2 s3 s4 s5 s6 s7
    go_wp2_with fail
    refine(localTypeI_any ⟨.slice r1 p.regions.length r3,.slice k1 p.consts.length k3,.slice f1 p.funcs.length f3,.slice t1 p.certs.length t3⟩ ⟨.slice g1 f.params.length g3,.slice g4 f.locals.length g6,.slice g7 f.code.length g9⟩ f q (localOf f q) U hs (HR.out.keep E1.out.bel (Nat.le_refl _)) HQ.out).mono ?_
    rintro e u1 ⟨rfl,b1⟩
    have HB:Hid (Below w.heap.size w u1):=below_on E1.out.bel (Nat.le_refl _) b1
    by_cases h3:localOf f q=3
    . have h3b:(localOf f q==3)=true:=by simpa using h3
      have H3:Hid (localOf f q=3):=h3
      clear h3
      go_wp2_with fail
      go_ret
      exact⟨⟨true,rfl,fun _ e=>e.2 H3.out,fun _=>rfl⟩,HB.out⟩
    . have h3b:(localOf f q==3)=false:=by simpa using h3
      have H3:Hid (¬localOf f q=3):=h3
      clear h3
      go_wp2_with fail
      go_ret
      exact⟨.no (fun e=>e ⟨by trivial,H3.out⟩),HB.out⟩
  . have h27b:(op != 27)=true:=by simpa using h27
    have H27:Hid (¬op=27):=h27
    clear h27 hg
    go_enter Tryz.func149,Tryz.ntmps149
    go_upto_region 1 with fail
    refine wp_world (fun u=>Hid (Sc2 w u ⟨.slice r1 p.regions.length r3,.slice k1 p.consts.length k3,.slice f1 p.funcs.length f3,.slice t1 p.certs.length t3⟩ ⟨.slice g1 f.params.length g3,.slice g4 f.locals.length g6,.slice g7 f.code.length g9⟩ f op a b c)) E0 ?_
    rintro U E1
    clear E0
    have i0:=E1.out.ib.cell 0
    simp only[List.getElem?_toArray,List.getElem?_cons_zero]at i0
    go_wp2_with fail
    go_ret
    exact⟨⟨true,rfl,fun _ e=>H27.out e.1,fun _=>rfl⟩,E1.out.bel⟩
end Go.Proofs.YtdfmdgbolmbffaaGreat
