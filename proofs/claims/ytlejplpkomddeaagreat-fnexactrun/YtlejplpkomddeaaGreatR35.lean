import Derived.Test.YtlejplpkomddeaaGreatR0
import Derived.Test.YtlejplpkomddeaaGreatR4
import Derived.Test.YtlejplpkomddeaaGreatR2
import Derived.Test.YtlejplpkomddeaaGreatR32
import Derived.Test.YtlejplpkomddeaaGreatR34
import Derived.Deep.RegionLaw
import Derived.Test.YtlejplpkomddeaaGreatR19
import Derived.Test.YtlejplpkomddeaaGreatR11
import Derived.Deep.RegionHeldLaw
import Derived.Deep.AppendLies
namespace Go.Proofs.YtlejplpkomddeaaGreat
open Go.ChangeShapes Go.WideShapes Go.ChangeAt Go.RowKit
set_option linter.unusedVariables false
set_option maxHeartbeats 8000000
set_option maxRecDepth 100000
theorem OB(v:VP)(p:MP)(g:VF)(f:MF)(q:Nat)(tt b c:Int)(w:World)(hs:f.small)(hps:p.small)(hP:Cx w v p)(hr:CP w g f)(hq:(f.params++f.locals)[q]?=some tt):Calls Tryz.prog 169 #[.agg #[v.r,v.k,v.f,v.t,g.p,.int .i64 f.result,g.l,g.c],.agg #[.int .i64 3,.int .i64 (q:Int),.int .i64 b,.int .i64 c]] w (Dg w [tt]):=by
 obtain⟨r1,r3,k1,k3,t1,t3,f1,f3,rfl⟩:=hP.sl;obtain⟨g1,g3,g4,g6,g7,g9,rfl⟩:=DU hr;have HP:=AS hP;have HR:=AS hr;clear hP hr;have E0:Hid (EI w ((w.alloc (.cells #[.slice r1 p.regions.length r3,.slice k1 p.consts.length k3,.slice f1 p.funcs.length f3,.slice t1 p.certs.length t3,.slice g1 f.params.length g3,.int .i64 f.result,.slice g4 f.locals.length g6,.slice g7 f.code.length g9] 164)).alloc (.cells #[.int .i64 3,.int .i64 (q:Int),.int .i64 b,.int .i64 c] 134)) _ _ f 3 _ b c):=EI.of w ⟨.slice r1 p.regions.length r3,.slice k1 p.consts.length k3,.slice f1 p.funcs.length f3,.slice t1 p.certs.length t3⟩ ⟨.slice g1 f.params.length g3,.slice g4 f.locals.length g6,.slice g7 f.code.length g9⟩ f 3 (q:Int) b c;go_enter Tryz.func169,Tryz.ntmps169;go_upto_region 1 with fail
 refine Af (fun u=>Hid (EI w u _ _ f 3 _ b c)) E0 ?_;rintro U E1;clear E0;obtain⟨i0,i1,i2,i3⟩:=E1.out.ib.c4;obtain⟨s0,s1,s2,s3,s4,s5,s6,s7⟩:=E1.out.sb.c8;try dsimp only at i0 i1 i2 i3 s0 s1 s2 s3 s4 s5 s6 s7
 go_wp2_with fail
 refine(Ei ⟨.slice r1 p.regions.length r3,.slice k1 p.consts.length k3,.slice f1 p.funcs.length f3,.slice t1 p.certs.length t3⟩ ⟨.slice g1 f.params.length g3,.slice g4 f.locals.length g6,.slice g7 f.code.length g9⟩ f q tt U hs (HR.out.keep E1.out.bel lR) hq).mono ?_;rintro e u1 ⟨rfl,b1⟩;have HB:Hid (Below w.heap.size w u1):=Ab E1.out.bel lR b1;clear b1;go_wp2_with fail
 go_ret
 exact Da HB.out [tt] 1 1 rfl
theorem OR(v:VP)(p:MP)(g:VF)(f:MF)(q:Nat)(z:Nat)(r:List Int)(tt c:Int)(w:World)(hs:f.small)(hps:p.small)(hP:Cx w v p)(hr:CP w g f)(hq:p.regions[q]?=some r)(hz:r[z]?=some tt):Calls Tryz.prog 169 #[.agg #[v.r,v.k,v.f,v.t,g.p,.int .i64 f.result,g.l,g.c],.agg #[.int .i64 5,.int .i64 (q:Int),.int .i64 (z:Int),.int .i64 c]] w (Dg w [tt]):=by
 obtain⟨r1,r3,k1,k3,t1,t3,f1,f3,rfl⟩:=hP.sl;obtain⟨g1,g3,g4,g6,g7,g9,rfl⟩:=DU hr;have HP:=AS hP;have HR:=AS hr;clear hP hr;have E0:Hid (EI w ((w.alloc (.cells #[.slice r1 p.regions.length r3,.slice k1 p.consts.length k3,.slice f1 p.funcs.length f3,.slice t1 p.certs.length t3,.slice g1 f.params.length g3,.int .i64 f.result,.slice g4 f.locals.length g6,.slice g7 f.code.length g9] 164)).alloc (.cells #[.int .i64 5,.int .i64 (q:Int),.int .i64 (z:Int),.int .i64 c] 134)) _ _ f 5 _ _ c):=EI.of w ⟨.slice r1 p.regions.length r3,.slice k1 p.consts.length k3,.slice f1 p.funcs.length f3,.slice t1 p.certs.length t3⟩ ⟨.slice g1 f.params.length g3,.slice g4 f.locals.length g6,.slice g7 f.code.length g9⟩ f 5 (q:Int) (z:Int) c;go_enter Tryz.func169,Tryz.ntmps169;go_upto_region 1 with fail
 refine Af (fun u=>Hid (EI w u _ _ f 5 _ _ c)) E0 ?_;rintro U E1;clear E0;obtain⟨i0,i1,i2,i3⟩:=E1.out.ib.c4;obtain⟨s0,s1,s2,s3,s4,s5,s6,s7⟩:=E1.out.sb.c8;try dsimp only at i0 i1 i2 i3 s0 s1 s2 s3 s4 s5 s6 s7
 go_wp2_with fail
 refine(DW ⟨.slice r1 p.regions.length r3,.slice k1 p.consts.length k3,.slice f1 p.funcs.length f3,.slice t1 p.certs.length t3⟩ p ⟨.slice g1 f.params.length g3,.slice g4 f.locals.length g6,.slice g7 f.code.length g9⟩ f 5 c q z r tt U hps (HP.out.keep E1.out.bel lR).regions hq hz).mono ?_;rintro e u1 ⟨rfl,b1⟩;have HB:Hid (Below w.heap.size w u1):=Ab E1.out.bel lR b1;clear b1;go_wp2_with fail
 go_ret
 exact Da HB.out [tt] 1 1 rfl
theorem O0(v:VP)(p:MP)(g:VF)(f:MF)(q:Nat)(z:Nat)(r:List Int)(tt c:Int)(w:World)(hs:f.small)(hps:p.small)(hP:Cx w v p)(hr:CP w g f)(hq:p.regions[q]?=some r)(hz:r[z]?=some tt):Calls Tryz.prog 169 #[.agg #[v.r,v.k,v.f,v.t,g.p,.int .i64 f.result,g.l,g.c],.agg #[.int .i64 7,.int .i64 (q:Int),.int .i64 (z:Int),.int .i64 c]] w (Dg w [3,tt]):=by
 obtain⟨r1,r3,k1,k3,t1,t3,f1,f3,rfl⟩:=hP.sl;obtain⟨g1,g3,g4,g6,g7,g9,rfl⟩:=DU hr;have HP:=AS hP;have HR:=AS hr;clear hP hr;have E0:Hid (EI w ((w.alloc (.cells #[.slice r1 p.regions.length r3,.slice k1 p.consts.length k3,.slice f1 p.funcs.length f3,.slice t1 p.certs.length t3,.slice g1 f.params.length g3,.int .i64 f.result,.slice g4 f.locals.length g6,.slice g7 f.code.length g9] 164)).alloc (.cells #[.int .i64 7,.int .i64 (q:Int),.int .i64 (z:Int),.int .i64 c] 134)) _ _ f 7 _ _ c):=EI.of w ⟨.slice r1 p.regions.length r3,.slice k1 p.consts.length k3,.slice f1 p.funcs.length f3,.slice t1 p.certs.length t3⟩ ⟨.slice g1 f.params.length g3,.slice g4 f.locals.length g6,.slice g7 f.code.length g9⟩ f 7 (q:Int) (z:Int) c;go_enter Tryz.func169,Tryz.ntmps169;go_upto_region 1 with fail
 refine Af (fun u=>Hid (EI w u _ _ f 7 _ _ c)) E0 ?_;rintro U E1;clear E0;obtain⟨i0,i1,i2,i3⟩:=E1.out.ib.c4;obtain⟨s0,s1,s2,s3,s4,s5,s6,s7⟩:=E1.out.sb.c8;try dsimp only at i0 i1 i2 i3 s0 s1 s2 s3 s4 s5 s6 s7
 go_wp2_with fail
 refine(DW ⟨.slice r1 p.regions.length r3,.slice k1 p.consts.length k3,.slice f1 p.funcs.length f3,.slice t1 p.certs.length t3⟩ p ⟨.slice g1 f.params.length g3,.slice g4 f.locals.length g6,.slice g7 f.code.length g9⟩ f 7 c q z r tt U hps (HP.out.keep E1.out.bel lR).regions hq hz).mono ?_;rintro e u1 ⟨rfl,b1⟩;have HB:Hid (Below w.heap.size w u1):=Ab E1.out.bel lR b1;clear b1;go_wp2_with fail
 go_ret
 exact Da HB.out [3,tt] 2 2 rfl
theorem NW(v:VP)(p:MP)(g:VF)(f:MF)(q:Nat)(a b c:Int)(w:World)(hs:f.small)(hps:p.small)(hP:Cx w v p)(hr:CP w g f):Calls Tryz.prog 169 #[.agg #[v.r,v.k,v.f,v.t,g.p,.int .i64 f.result,g.l,g.c],.agg #[.int .i64 29,.int .i64 a,.int .i64 b,.int .i64 c]] w (Dg w (AR f)):=by
 obtain⟨r1,r3,k1,k3,t1,t3,f1,f3,rfl⟩:=hP.sl;obtain⟨g1,g3,g4,g6,g7,g9,rfl⟩:=DU hr;have HP:=AS hP;have HR:=AS hr;clear hP hr;have E0:Hid (EI w ((w.alloc (.cells #[.slice r1 p.regions.length r3,.slice k1 p.consts.length k3,.slice f1 p.funcs.length f3,.slice t1 p.certs.length t3,.slice g1 f.params.length g3,.int .i64 f.result,.slice g4 f.locals.length g6,.slice g7 f.code.length g9] 164)).alloc (.cells #[.int .i64 29,.int .i64 a,.int .i64 b,.int .i64 c] 134)) _ _ f 29 a b c):=EI.of w ⟨.slice r1 p.regions.length r3,.slice k1 p.consts.length k3,.slice f1 p.funcs.length f3,.slice t1 p.certs.length t3⟩ ⟨.slice g1 f.params.length g3,.slice g4 f.locals.length g6,.slice g7 f.code.length g9⟩ f 29 a b c;go_enter Tryz.func169,Tryz.ntmps169;go_upto_region 1 with fail
 refine Af (fun u=>Hid (EI w u _ _ f 29 a b c)) E0 ?_;rintro U E1;clear E0;obtain⟨i0,i1,i2,i3⟩:=E1.out.ib.c4;obtain⟨s0,s1,s2,s3,s4,s5,s6,s7⟩:=E1.out.sb.c8;try dsimp only at i0 i1 i2 i3 s0 s1 s2 s3 s4 s5 s6 s7
 go_wp2_with fail
 refine(KT ⟨.slice g1 f.params.length g3,.slice g4 f.locals.length g6,.slice g7 f.code.length g9⟩ f U).mono ?_;rintro e u1 ⟨s,rfl,hrd,b1⟩;have HE:Hid (Dg w (AR f) (.returned s) u1):=⟨s,rfl,hrd,Ab E1.out.bel lR b1⟩;obtain⟨sa,sc,rfl⟩:=hrd.is_slice;clear hrd b1;go_wp2_with fail
 go_ret
 exact HE.out
theorem OM(v:VP)(p:MP)(g:VF)(f:MF)(q:Nat)(tt b c:Int)(w:World)(hs:f.small)(hps:p.small)(hP:Cx w v p)(hr:CP w g f)(hq:(f.params++f.locals)[q]?=some tt):Calls Tryz.prog 173 #[.agg #[v.r,v.k,v.f,v.t,g.p,.int .i64 f.result,g.l,g.c],.agg #[.int .i64 2,.int .i64 (q:Int),.int .i64 b,.int .i64 c]] w (Dg w [tt]):=by
 obtain⟨r1,r3,k1,k3,t1,t3,f1,f3,rfl⟩:=hP.sl;obtain⟨g1,g3,g4,g6,g7,g9,rfl⟩:=DU hr;have HP:=AS hP;have HR:=AS hr;clear hP hr;have E0:Hid (EI w ((w.alloc (.cells #[.slice r1 p.regions.length r3,.slice k1 p.consts.length k3,.slice f1 p.funcs.length f3,.slice t1 p.certs.length t3,.slice g1 f.params.length g3,.int .i64 f.result,.slice g4 f.locals.length g6,.slice g7 f.code.length g9] 164)).alloc (.cells #[.int .i64 2,.int .i64 (q:Int),.int .i64 b,.int .i64 c] 134)) _ _ f 2 _ b c):=EI.of w ⟨.slice r1 p.regions.length r3,.slice k1 p.consts.length k3,.slice f1 p.funcs.length f3,.slice t1 p.certs.length t3⟩ ⟨.slice g1 f.params.length g3,.slice g4 f.locals.length g6,.slice g7 f.code.length g9⟩ f 2 (q:Int) b c;go_enter Tryz.func173,Tryz.ntmps173;go_upto_region 1 with fail
 refine Af (fun u=>Hid (EI w u _ _ f 2 _ b c)) E0 ?_;rintro U E1;clear E0;obtain⟨i0,i1,i2,i3⟩:=E1.out.ib.c4;obtain⟨s0,s1,s2,s3,s4,s5,s6,s7⟩:=E1.out.sb.c8;try dsimp only at i0 i1 i2 i3 s0 s1 s2 s3 s4 s5 s6 s7
 go_wp2_with fail
 refine(Ei ⟨.slice r1 p.regions.length r3,.slice k1 p.consts.length k3,.slice f1 p.funcs.length f3,.slice t1 p.certs.length t3⟩ ⟨.slice g1 f.params.length g3,.slice g4 f.locals.length g6,.slice g7 f.code.length g9⟩ f q tt U hs (HR.out.keep E1.out.bel lR) hq).mono ?_;rintro e u1 ⟨rfl,b1⟩;have HB:Hid (Below w.heap.size w u1):=Ab E1.out.bel lR b1;clear b1;go_wp2_with fail
 go_ret
 exact Da HB.out [tt] 1 1 rfl
theorem Oj(v:VP)(p:MP)(g:VF)(f:MF)(q:Nat)(z:Nat)(r:List Int)(tt c:Int)(w:World)(hs:f.small)(hps:p.small)(hP:Cx w v p)(hr:CP w g f)(hq:p.regions[q]?=some r)(hz:r[z]?=some tt):Calls Tryz.prog 173 #[.agg #[v.r,v.k,v.f,v.t,g.p,.int .i64 f.result,g.l,g.c],.agg #[.int .i64 4,.int .i64 (q:Int),.int .i64 (z:Int),.int .i64 c]] w (Dg w [tt]):=by
 obtain⟨r1,r3,k1,k3,t1,t3,f1,f3,rfl⟩:=hP.sl;obtain⟨g1,g3,g4,g6,g7,g9,rfl⟩:=DU hr;have HP:=AS hP;have HR:=AS hr;clear hP hr;have E0:Hid (EI w ((w.alloc (.cells #[.slice r1 p.regions.length r3,.slice k1 p.consts.length k3,.slice f1 p.funcs.length f3,.slice t1 p.certs.length t3,.slice g1 f.params.length g3,.int .i64 f.result,.slice g4 f.locals.length g6,.slice g7 f.code.length g9] 164)).alloc (.cells #[.int .i64 4,.int .i64 (q:Int),.int .i64 (z:Int),.int .i64 c] 134)) _ _ f 4 _ _ c):=EI.of w ⟨.slice r1 p.regions.length r3,.slice k1 p.consts.length k3,.slice f1 p.funcs.length f3,.slice t1 p.certs.length t3⟩ ⟨.slice g1 f.params.length g3,.slice g4 f.locals.length g6,.slice g7 f.code.length g9⟩ f 4 (q:Int) (z:Int) c;go_enter Tryz.func173,Tryz.ntmps173;go_upto_region 1 with fail
 refine Af (fun u=>Hid (EI w u _ _ f 4 _ _ c)) E0 ?_;rintro U E1;clear E0;obtain⟨i0,i1,i2,i3⟩:=E1.out.ib.c4;obtain⟨s0,s1,s2,s3,s4,s5,s6,s7⟩:=E1.out.sb.c8;try dsimp only at i0 i1 i2 i3 s0 s1 s2 s3 s4 s5 s6 s7
 go_wp2_with fail
 refine(DW ⟨.slice r1 p.regions.length r3,.slice k1 p.consts.length k3,.slice f1 p.funcs.length f3,.slice t1 p.certs.length t3⟩ p ⟨.slice g1 f.params.length g3,.slice g4 f.locals.length g6,.slice g7 f.code.length g9⟩ f 4 c q z r tt U hps (HP.out.keep E1.out.bel lR).regions hq hz).mono ?_;rintro e u1 ⟨rfl,b1⟩;have HB:Hid (Below w.heap.size w u1):=Ab E1.out.bel lR b1;clear b1;go_wp2_with fail
 go_ret
 exact Da HB.out [tt] 1 1 rfl
theorem Pi(v:VP)(p:MP)(g:VF)(f:MF)(q:Nat)(z:Nat)(r:List Int)(tt c:Int)(w:World)(hs:f.small)(hps:p.small)(hP:Cx w v p)(hr:CP w g f)(hq:p.regions[q]?=some r)(hz:r[z]?=some tt):Calls Tryz.prog 173 #[.agg #[v.r,v.k,v.f,v.t,g.p,.int .i64 f.result,g.l,g.c],.agg #[.int .i64 6,.int .i64 (q:Int),.int .i64 (z:Int),.int .i64 c]] w (Dg w [tt]):=by
 obtain⟨r1,r3,k1,k3,t1,t3,f1,f3,rfl⟩:=hP.sl;obtain⟨g1,g3,g4,g6,g7,g9,rfl⟩:=DU hr;have HP:=AS hP;have HR:=AS hr;clear hP hr;have E0:Hid (EI w ((w.alloc (.cells #[.slice r1 p.regions.length r3,.slice k1 p.consts.length k3,.slice f1 p.funcs.length f3,.slice t1 p.certs.length t3,.slice g1 f.params.length g3,.int .i64 f.result,.slice g4 f.locals.length g6,.slice g7 f.code.length g9] 164)).alloc (.cells #[.int .i64 6,.int .i64 (q:Int),.int .i64 (z:Int),.int .i64 c] 134)) _ _ f 6 _ _ c):=EI.of w ⟨.slice r1 p.regions.length r3,.slice k1 p.consts.length k3,.slice f1 p.funcs.length f3,.slice t1 p.certs.length t3⟩ ⟨.slice g1 f.params.length g3,.slice g4 f.locals.length g6,.slice g7 f.code.length g9⟩ f 6 (q:Int) (z:Int) c;go_enter Tryz.func173,Tryz.ntmps173;go_upto_region 1 with fail
 refine Af (fun u=>Hid (EI w u _ _ f 6 _ _ c)) E0 ?_;rintro U E1;clear E0;obtain⟨i0,i1,i2,i3⟩:=E1.out.ib.c4;obtain⟨s0,s1,s2,s3,s4,s5,s6,s7⟩:=E1.out.sb.c8;try dsimp only at i0 i1 i2 i3 s0 s1 s2 s3 s4 s5 s6 s7
 go_wp2_with fail
 refine(DW ⟨.slice r1 p.regions.length r3,.slice k1 p.consts.length k3,.slice f1 p.funcs.length f3,.slice t1 p.certs.length t3⟩ p ⟨.slice g1 f.params.length g3,.slice g4 f.locals.length g6,.slice g7 f.code.length g9⟩ f 6 c q z r tt U hps (HP.out.keep E1.out.bel lR).regions hq hz).mono ?_;rintro e u1 ⟨rfl,b1⟩;have HB:Hid (Below w.heap.size w u1):=Ab E1.out.bel lR b1;clear b1;go_wp2_with fail
 go_ret
 exact Da HB.out [tt] 1 1 rfl
theorem Od{t z:Int}(h:CE t=true)(hz:Ka z):Gv (Do t z)/\(Do t z).type=t:=by
 have h1:=Ob hz;unfold Do;by_cases e:t=1
 . subst e
   rw[if_pos rfl];have:=FJ (decide (¬z=0));exact⟨Gv.of rfl this.1 (by omega) (fun _=>this.2),rfl⟩
 . exact⟨Gv.of h (by simp[e];omega) (by simp[e];omega) (fun e'=>absurd e' e),rfl⟩
theorem GH{ts ws:List Int}(h:ts.all CE=true)(hl:ws.length=ts.length)(hw:∀z∈ws,Ka z):CQ (Aw ts ws) ts/\∀v∈Aw ts ws,v.wf:=by
 induction ts generalizing ws with
 |nil=>exact⟨⟨rfl,fun v hv=>by simp[Aw]at hv⟩,fun v hv=>by simp[Aw]at hv⟩
 | cons t r ih=>
   cases ws with
   |nil=>simp at hl
   | cons z q=>
     simp only[List.all_cons,Bool.and_eq_true]at h;obtain⟨i1,i2⟩:=ih h.2 (by simpa using hl) (fun y hy=>hw y (by simp[hy]));obtain⟨c1,c2⟩:=Od h.1 (hw z (by simp));have e:Aw (t::r) (z::q)=Do t z::Aw r q:=rfl;rw[e];refine⟨⟨by rw[List.map_cons,i1.1,c2],fun v hv=> ?_⟩,fun v hv=> ?_⟩
     . rcases List.mem_cons.1 hv with rfl|hv
       . exact c1.1
       . exact i1.2 v hv
     . rcases List.mem_cons.1 hv with rfl|hv
       . exact c1.2
       . exact i2 v hv
theorem Er.going{p:MP}{m:MM}{s:MS}(h:Er p m s)(mw:m.wf):(s.trap=0/\s.done=false/\Kj p 0 s)\/(s.trap≠0/\s=GV):=by
 rcases h with⟨hv,r0,r1,r2,f,fs,e1,e2,rfl⟩|⟨hv,rfl⟩
 . refine .inl ⟨rfl,rfl,?_⟩
   have hf0:A4 p 0:=hv.1;obtain⟨hw0,hw1,hw2⟩:=(Bp.iff hv.1 e1).1 hv;have hpr:=hf0.parts;have hreg:=hpr.1.2;rw[e1]at hreg;have t0:=(hreg 0 (by simp) r0 rfl).2;have t1:=(hreg 1 (by simp) r1 rfl).2;have t2:=(hreg 2 (by simp) r2 rfl).2;obtain⟨a1,a2⟩:=GH t0 hw0 mw.ins;obtain⟨b1,b2⟩:=GH t1 hw1.1 mw.outs;obtain⟨c1,c2⟩:=GH t2 hw2.1 mw.keeps;have hp0:p.funcs[0]?=some f:=by rw[e2];rfl
   have hfo:BO f:=hpr.2.2.1.2.2.1 0 (by rw[e2];simp) f hp0;have hma:f.params=[]:=List.eq_nil_of_length_eq_zero (hpr.2.2.1.2.2.2 f hp0).1
   have hz:∀v∈Aq f.locals,Gv v:=fun v hv=>by
    obtain⟨t,ht,rfl⟩:=List.mem_map.1 hv;exact Gv.of (List.all_eq_true.1 hfo.lt t ht) (by omega) (by omega) (fun _=>by omega)
   refine⟨⟨hf0,⟨by simp[BD],by simp[BD]⟩,⟨by simp[BD],by simp[BD]⟩,by simp[BD,e1],?_,by simp[BD],by simp[BD],by simp[BD],by simp[BD],?_,by simp[BD,Cj]⟩,⟨Dt (by simp[BD]) (by simp[BD]),Dt (by simp[BD]) (by simp[BD]),Dt (by simp[BD]) (by simp[BD]),?_,by simp[BD],?_⟩,by simp[BD],by simp[BD]⟩
   . intro i c r hc hr
     rw[e1]at hr;match i with
     |0=>simp[BD]at hc hr;rw[<-hc,<-hr];exact a1
     |1=>simp[BD]at hc hr;rw[<-hc,<-hr];exact b1
     |2=>simp[BD]at hc hr;rw[<-hc,<-hr];exact c1
     |k+3=>simp at hr
   . intro g hg
     simp only[BD,List.mem_singleton]at hg;subst hg;refine⟨by simp,⟨f,hp0,?_,fun v hv=>(hz v hv).1⟩,by simp[BD]⟩;rw[hma,List.nil_append];simp[Aq,Function.comp_def]
   . intro r hr
     simp only[BD,List.mem_cons,List.not_mem_nil,or_false]at hr;rcases hr with rfl|rfl|rfl
     . exact a2
     . exact b2
     . exact c2
   . intro g hg
     simp only[BD,List.mem_singleton]at hg;subst hg;exact⟨Dt (by simp) (by simp),Dt (by simp) (by simp),Dt (by simp) (by simp),fun v hv=>(hz v hv).2⟩
 . exact .inr ⟨by simp[GV],rfl⟩
theorem L0(v:VP)(t c n:Int)(x:VS)(ia ib ic:Int)(C:List (Value×List MC))(K:List MC)(F:List (MG×Value))(B top:Nat)(y:MG×Value)(aa:Option Addr)(ca:Nat)(ar:List MC)(w:World)(hB:B<=w.heap.size)(h:Ah w B x C K F)(hF:F.length=top+1)(hF1:top<=1048576)(hy:F[top]?=some y)(op:Int)(hop:8<=op/\op<=19)(hK:K.length<=1048576)(hal:ar.length=2)(z1:MC)(ha1:ar[1]?=some z1)(hz10:0<=z1.word)(hz11:z1.word<4294967296)(har:w.ownsRow B 128 2 (.slice aa ar.length ca) ar.length (ar.flatMap MC.cells))(z0:MC)(ha0:ar[0]?=some z0)(hap:∀g,(Value.slice aa ar.length ca).ownBlock=some g->some g≠x.k.ownBlock)(hna1:ar.length<=1048576):
 Calls Tryz.prog 79 #[.agg #[v.r,v.k,v.f,v.t],.agg #[.int .i64 t,.bool false,.int .i64 c,.int .i64 n,x.c,x.k,x.f],.agg #[.int .i64 op,.int .i64 ia,.int .i64 ib,.int .i64 ic],.slice aa ar.length ca] w (Dl w B t c n C (K++[⟨z0.type,AD op z0.type z0.word z1.word⟩]) F):=by
 have H:=h3 h hF hy;have HA1:Hid (ar[1]?=some z1):=ha1;clear ha1;have HA0:Hid (ar[0]?=some z0/\0<ar.length):=⟨ha0,(gI.1 ha0).1⟩
 rcases At har with⟨_,e⟩|⟨ga,ca',ea⟩
 ·have:=HA0.out.2;omega
 simp only[sJ,true_and]at ea;obtain⟨rfl,rfl⟩:=ea;obtain⟨i0,hi,hz0,hz1,hz2⟩:=info_parts DJ;obtain⟨a1,c1,e1⟩:=Al h.cells;obtain⟨a2,c2,e2⟩:=Al (h.fam.own (x.k,K) (by simp));rcases At h.frames with⟨_,e⟩|⟨gf,c3,e3⟩
 ·omega
 have E0:=A7.of v t c n ⟨op,ia,ib,ic⟩ h hB;obtain⟨vc,vk',vf'⟩:=x;simp only[]at e1 e2 e3;rw[hF]at e3;subst e1 e2 e3;have E1:Hid _:=E0.1;have E1':Hid _:=E0.2;have HAP:=AS hap;have HAR:=AS har;clear E0 h hy hap har ha0;generalize hna:ar.length=na at*;have HNA:Hid (ar.length=na):=hna;have hna0:0<na:=by have:=HA0.out.2;omega
 clear hna;go_enter Tryz.func79,Tryz.ntmps79;go_upto_region 1 with fail
 refine Af (fun u=>Hid (A7 w u B v t c n _ _ C K F/\Below w.heap.size w u)) ⟨E1.out,E1'.out⟩ ?_
 rintro U EE;clear E1 E1';have E1:Hid _:=EE.out.1;have E1':Hid _:=EE.out.2;clear EE;have sb6:=E1.out.sb.cell 6;have ib0:=E1.out.ib.cell 0;simp only[gA,gZ,gS]at sb6 ib0;have HAU:=AS (Ag HAR.out E1'.out lR);have hna1:na=2:=by have:=HNA.out;omega
 subst hna1;have n0:(op==0)=false:=by simp;omega
 have n24:(op==24)=false:=by simp;omega
 have n1:(op==1)=false:=by simp;omega
 have n2:(op==2)=false:=by simp;omega
 have n3:(op==3)=false:=by simp;omega
 have n4:(op==4)=false:=by simp;omega
 have n5:(op==5)=false:=by simp;omega
 have n6:(op==6)=false:=by simp;omega
 have n7:(op==7)=false:=by simp;omega
 have n23:(op==23)=false:=by simp;omega
 have n25:(op==25)=false:=by simp;omega
 have n26:(op==26)=false:=by simp;omega
 have n27:(op==27)=false:=by simp;omega
 have n22:(op==22)=false:=by simp;omega
 have n20:(op==20)=false:=by simp;omega
 have n21:(op==21)=false:=by simp;omega
 have at0:U.cell? ⟨ga,0,none⟩=some (.int .i64 z0.type):=(Fl HAU.out HA0.out.1 HNA.out).1;have aw0:U.cell? ⟨ga,1,none⟩=some (.int .u32 z0.word):=(Fl HAU.out HA0.out.1 HNA.out).2;have aw1:U.cell? ⟨ga,3,none⟩=some (.int .u32 z1.word):=(Fl HAU.out HA1.out HNA.out).2;go_upto_region 7 with fail
 have bD:=Ad U;have bE:Below U.heap.size U (U.alloc (.cells #[.int .i64 0,.int .u32 0] 128)).drew:=Ab (Aa _ _) lR (Ad _);have KD:U.drew.cell? ⟨w.heap.size+1+1,0,none⟩=some (.int .i64 op)/\U.drew.cell? ⟨ga,1,none⟩=some (.int .u32 z0.word):=⟨Ac bD ib0,Ac bD aw0⟩
 have KE:(U.alloc (.cells #[.int .i64 0,.int .u32 0] 128)).drew.cell? ⟨w.heap.size+1+1,0,none⟩=some (.int .i64 op)/\(U.alloc (.cells #[.int .i64 0,.int .u32 0] 128)).drew.cell? ⟨ga,1,none⟩=some (.int .u32 z0.word):=⟨Ac bE ib0,Ac bE aw0⟩
 have ltA:w.heap.size+1+1<U.heap.size:=E1.out.ib.lt;have ltG:ga<U.heap.size:=bL aw0;have BE:Hid (Ap (U.alloc (.cells #[.int .i64 0,.int .u32 0] 128)).drew U.heap.size #[.int .i64 0,.int .u32 0] 128):=(Ap.new U #[.int .i64 0,.int .u32 0] 128).keep (Ad _)
 go_region_held_law (fun w'=>w'.cell? ⟨w.heap.size+1+1,0,none⟩=some (.int .i64 op)/\w'.cell? ⟨ga,1,none⟩=some (.int .u32 z0.word)) (first|exact KD|exact KE|exact KX|exact KW|go_keep) (first
  |(go_at_call 125;refine(DX op z0.type z0.word z1.word _ (by omega) (by omega)).mono ?_;rintro e w1 ⟨rfl,b1⟩;have KW:w1.cell? ⟨w.heap.size+1+1,0,none⟩=some (.int .i64 op)/\w1.cell? ⟨ga,1,none⟩=some (.int .u32 z0.word):=(by first|exact⟨Ac b1 KD.1,Ac b1 KD.2⟩|exact⟨Ac b1 KE.1,Ac b1 KE.2⟩);(first|(have BB:Ap w1 U.heap.size #[.int .i64 0,.int .u32 0] 128:=BE.out.keep b1;have yy0:=BB.cell 0;have yy1:=BB.cell 1;have yz0:=BB.frozen 0;have yz1:=BB.frozen 1;have BS:=BB.set 0 (.int .i64 z0.type);have ys1:=BS.cell 1;have ysz:=BS.frozen 1;simp only[sA,List.set_cons_zero,gA,gZ,gS]at yy0 yy1 ys1;have bS0:Below U.heap.size w1 (w1.setCell ⟨U.heap.size,0,none⟩ (.int .i64 z0.type)):=(Below.refl U.heap.size w1).setCell (by simp) _;have bS:Below U.heap.size w1 ((w1.setCell ⟨U.heap.size,0,none⟩ (.int .i64 z0.type)).setCell ⟨U.heap.size,1,none⟩ (.int .u32 (AD op z0.type z0.word z1.word))):=bS0.setCell (by simp) _;have BT:Hid (Ap ((w1.setCell ⟨U.heap.size,0,none⟩ (.int .i64 z0.type)).setCell ⟨U.heap.size,1,none⟩ (.int .u32 (AD op z0.type z0.word z1.word))) U.heap.size #[.int .i64 z0.type,.int .u32 (AD op z0.type z0.word z1.word)] 128):=BS.set 1 (.int .u32 (AD op z0.type z0.word z1.word));have KX:((w1.setCell ⟨U.heap.size,0,none⟩ (.int .i64 z0.type)).setCell ⟨U.heap.size,1,none⟩ (.int .u32 (AD op z0.type z0.word z1.word))).cell? ⟨w.heap.size+1+1,0,none⟩=some (.int .i64 op)/\((w1.setCell ⟨U.heap.size,0,none⟩ (.int .i64 z0.type)).setCell ⟨U.heap.size,1,none⟩ (.int .u32 (AD op z0.type z0.word z1.word))).cell? ⟨ga,1,none⟩=some (.int .u32 z0.word):=⟨(bS.cell (p:=⟨w.heap.size+1+1,0,none⟩) ltA).trans KW.1,(bS.cell (p:=⟨ga,1,none⟩) ltG).trans KW.2⟩)|skip)))
 focus
  have HB1:Hid (Below U.heap.size U w1):=(by first|exact As b1 lR|exact Ab bE lR b1);clear b1 KW bD bE KD KE at0 aw0 ib0 sb6;go_upto_region 8 with fail
  refine Af (fun u=>Hid (Below U.heap.size U u/\Ap u w1.heap.size #[.int .i64 z0.type,.int .u32 (AD op z0.type z0.word z1.word)] 128/\U.heap.size<=w1.heap.size)) ⟨Ab HB1.out lR (Aa _ _),Ap.new _ _ _,HB1.out.size⟩ ?_
  rintro V1 EV;generalize hX:w1.heap.size=Xb at⊢;have EV:Hid (Below U.heap.size U V1/\Ap V1 Xb #[.int .i64 z0.type,.int .u32 (AD op z0.type z0.word z1.word)] 128/\U.heap.size<=Xb):=by rw[<-hX];exact EV
  clear hX
 rotate_left
 focus
  have HB1:Hid (Below U.heap.size U w1):=(by first|exact As b1 lR|exact Ab bE lR b1);clear b1 KW bD bE KD KE at0 aw0 ib0 sb6;go_upto_region 8 with fail
  refine Af (fun u=>Hid (Below U.heap.size U u/\Ap u U.heap.size _ _/\U.heap.size<=U.heap.size)) ⟨(HB1.out.setCell (by simp) _).setCell (by simp) _,BT.out,Nat.le_refl _⟩ ?_
  rintro V1 EV;generalize hX:U.heap.size=Xb at⊢;have EV:Hid (Below U.heap.size U V1/\Ap V1 Xb #[.int .i64 z0.type,.int .u32 (AD op z0.type z0.word z1.word)] 128/\U.heap.size<=Xb):=by rw[<-hX];exact EV
  clear hX
 all_goals
  have v0:=(E1.out.keep EV.out.1).ib.cell 0;simp only[gA,gZ]at v0;go_upto_region 10 with fail
  refine Af (fun u=>Hid (Below U.heap.size U u/\Ap u Xb _ _/\U.heap.size<=Xb)) EV ?_
  rintro V2 EW;clear EV v0;have ED:=AS (E1.out.keep EW.out.1);have s5:=ED.out.sb.cell 5;obtain⟨x0,x1⟩:=EW.out.2.1.c2;simp only[gA,gZ,gS]at s5;try dsimp only at x0 x1
  have HC:Hid ((V2.alloc (.cells #[.int .i64 z0.type,.int .u32 (AD op z0.type z0.word z1.word)] 128)).ownsRow B 128 2 (.slice a2 K.length c2) K.length (K.flatMap MC.cells)/\Below V2.heap.size V2 (V2.alloc (.cells #[.int .i64 z0.type,.int .u32 (AD op z0.type z0.word z1.word)] 128))/\B<=(V2.alloc (.cells #[.int .i64 z0.type,.int .u32 (AD op z0.type z0.word z1.word)] 128)).heap.size):=⟨Ag (ED.out.own.fam.own (.slice a2 K.length c2,K) (by simp)) (Aa _ _) lR,Aa _ _,Nat.le_trans (Nat.le_trans ED.out.hB ED.out.le) (Aa _ _).size⟩
  go_wp2_with (at_builtin;refine wpList_append_own_at _ rfl _ _ 36 rfl B 128 i0 (.agg #[.int .i64 0,.int .u32 0]) 2 16 Tryz.underlying36 hi hz0 hz1 hz2 rfl (by decide) _ K.length (K.flatMap MC.cells) rfl HC.out.1 ⟨V2.heap.size,0,none⟩ 1 1 (MC.cells ⟨z0.type,AD op z0.type z0.word z1.word⟩) rfl rfl (CA V2 ⟨z0.type,AD op z0.type z0.word z1.word⟩ 128) (Be _) ?c1 ?c2 HC.out.2.2 ?_)
  case c1=>unfold maxLen;omega
  case c2=>omega
  all_goals
   intro v' u8 hown hgrow hnil hat;rcases At hown with⟨_,e⟩|⟨g9,c9,rfl⟩
   ·omega
   have hat2:(Value.slice a2 K.length c2).ownBlock=some g9\/g9=(V2.alloc (.cells #[.int .i64 z0.type,.int .u32 (AD op z0.type z0.word z1.word)] 128)).heap.size:=by
    rcases hat with hat|hat
    ·exact .inl hat.symm
    ·exact .inr (by rw[World.size_alloc];exact Option.some.inj hat)
   have HN:Hid (A7 w (u8.setCell ⟨w.heap.size+1,5,none⟩ (.slice (some ⟨g9,0,none⟩) (K.length+1) c9)) B v t c n _ _ C _ F):=ED.out.push HC.out.2.1 (K':=K++([⟨z0.type,AD op z0.type z0.word z1.word⟩]:List MC)) hgrow (by rw[List.flatMap_append];simpa using hown) (by simp) hat2;have st8:=(ED.out.keep HC.out.2.1).sb.grown hgrow HC.out.1 (by decide);have y0:=st8.cell 5;have y1:=st8.frozen 5;simp only[gA,gZ,gS]at y0;clear hown hgrow hnil hat hat2 st8 s5 x0 x1;go_upto_region 40 with fail
   refine Af (fun u=>Hid (A7 w u B v t c n _ _ C _ F)) HN ?_;rintro U2 E2;clear HN y0 y1;obtain⟨m0,m1,m2,m3,m4,m5,m6⟩:=E2.out.sb.c7;try dsimp only at m0 m1 m2 m3 m4 m5 m6
   obtain⟨r0,r1,r2,r3,r4,r5,r6⟩:=E2.out.rb.c7;obtain⟨rz0,rz1,rz2,rz3,rz4,rz5,rz6⟩:=E2.out.rb.z7;try dsimp only at r0 r1 r2 r3 r4 r5 r6
   go_wp2_with fail
   have hBw:=E2.out.hB;exact bodyPost_ret (results_cell_row Tryz.results79 _ _ _ 39 _ (0,0) _ rfl (E2.out.rb.w7 _ _ _ _ _ _ _) Tryz.underlying39 rfl (by kernel_rfl)) rfl ⟨⟨.slice a1 C.length c1,.slice (some ⟨g9,0,none⟩) (K.length+1) c9,.slice (some ⟨gf,0,none⟩) (top+1) c3⟩,rfl,E2.out.own.o7 E2.out.rb _ _ _ _ _ _ _,E2.out.bel.s7 (by omega) _ _ _ _ _ _ _⟩
theorem PI(v:VP)(t c n:Int)(x:VS)(ia ib ic:Int)(C:List (Value×List MC))(K:List MC)(F:List (MG×Value))(B top:Nat)(y:MG×Value)(aa:Option Addr)(ca:Nat)(ar:List MC)(w:World)(hB:B<=w.heap.size)(h:Ah w B x C K F)(hF:F.length=top+1)(hF1:top<=1048576)(hy:F[top]?=some y)(hK:K.length<=1048576)(q:Nat)(z:MC)(hia:ia=q)(hq:y.1.locals[q]?=some z)(hnl:y.1.locals.length<=1048576):
 Calls Tryz.prog 79 #[.agg #[v.r,v.k,v.f,v.t],.agg #[.int .i64 t,.bool false,.int .i64 c,.int .i64 n,x.c,x.k,x.f],.agg #[.int .i64 2,.int .i64 ia,.int .i64 ib,.int .i64 ic],.slice aa ar.length ca] w (Dl w B t c n C (K++[z]) F):=by
 have H:Hid (Ah w B x C K F/\F.length=top+1/\F[top]?=some y):=⟨h,hF,hy⟩
 subst hia;have hyo:w.ownsRow B 128 2 y.2 y.1.locals.length (y.1.locals.flatMap MC.cells):=h.fam.own (y.2,y.1.locals) (by simp only[List.mem_append];exact .inr (mG (Bb hy)));have hql:=(gI.1 hq).1;rcases At hyo with⟨_,e⟩|⟨gl,cl,el⟩
 ·omega
 have HL:Hid (y.1.locals[q]?=some z/\y.2=.slice (some ⟨gl,0,none⟩) y.1.locals.length cl/\(y.2,y.1.locals)∈AL F):=⟨hq,el,mG (Bb hy)⟩
 generalize y.1.locals.length=nl at el hql HL hnl;clear hyo hq;obtain⟨i0,hi,hz0,hz1,hz2⟩:=info_parts DJ;obtain⟨a1,c1,e1⟩:=Al h.cells;obtain⟨a2,c2,e2⟩:=Al (h.fam.own (x.k,K) (by simp));rcases At h.frames with⟨_,e⟩|⟨gf,c3,e3⟩
 ·omega
 have E0:=A7.of v t c n ⟨2,q,ib,ic⟩ h hB;obtain⟨vc,vk',vf'⟩:=x;simp only[]at e1 e2 e3;rw[hF]at e3;subst e1 e2 e3;have E1:Hid _:=E0.1;have E1':Hid _:=E0.2;clear E0 h hy;generalize ar.length=na at*;go_enter Tryz.func79,Tryz.ntmps79;go_upto_region 1 with fail
 refine Af (fun u=>Hid (A7 w u B v t c n ⟨.slice a1 C.length c1,.slice a2 K.length c2,.slice (some ⟨gf,0,none⟩) (top+1) c3⟩ ⟨2,q,ib,ic⟩ C K F/\Below w.heap.size w u)) ⟨E1.out,E1'.out⟩ ?_
 rintro U EE;clear E1 E1';have E1:Hid _:=EE.out.1;have E1':Hid _:=EE.out.2;clear EE;have sb6:=E1.out.sb.cell 6;have ib0:=E1.out.ib.cell 0;simp only[gA,gZ,gS]at sb6 ib0;have hqI:(q:Int)<(nl:Int):=by omega
 have LC:∀{u:World} {x:VS} {K':List MC},Ah u B x C K' F->x.f=.slice (some ⟨gf,0,none⟩) (top+1) c3->u.cell? ⟨gf,top*4+3,none⟩=some (.slice (some ⟨gl,0,none⟩) nl cl)/\u.cell? ⟨gl,q*2,none⟩=some (.int .i64 z.type)/\u.cell? ⟨gl,q*2+1,none⟩=some (.int .u32 z.word):=fun ho hx=>⟨by rw[ho.frm hx H.out.2.2,HL.out.2.1],(ho.rowc (r:=(y.2,y.1.locals)) (by simp only[List.mem_append];exact .inr HL.out.2.2) HL.out.2.1 HL.out.1).1,(ho.rowc (r:=(y.2,y.1.locals)) (by simp only[List.mem_append];exact .inr HL.out.2.2) HL.out.2.1 HL.out.1).2⟩
 have HLC:Hid (∀{u:World} {x:VS} {K':List MC},Ah u B x C K' F->x.f=.slice (some ⟨gf,0,none⟩) (top+1) c3->u.cell? ⟨gf,top*4+3,none⟩=some (.slice (some ⟨gl,0,none⟩) nl cl)/\u.cell? ⟨gl,q*2,none⟩=some (.int .i64 z.type)/\u.cell? ⟨gl,q*2+1,none⟩=some (.int .u32 z.word)):=LC
 clear LC;obtain⟨lf,lt,lw⟩:=HLC.out E1.out.own rfl;have ib1:=E1.out.ib.cell 1;simp only[gA,gZ,gS]at ib1;have s5:=E1.out.sb.cell 5;simp only[gA,gZ,gS]at s5;have bD:=Ad U;have bE:Below U.heap.size U (U.alloc (.cells #[.int .i64 z.type,.int .u32 z.word] 128)).drew:=Ab (Aa _ _) lR (Ad _);have s5d:=Ac bD s5;have s5e:=Ac bE s5;have KD:U.drew.cell? ⟨gf,top*4+3,none⟩=some (.slice (some ⟨gl,0,none⟩) nl cl)/\U.drew.cell? ⟨w.heap.size+1+1,1,none⟩=some (.int .i64 q)/\U.drew.cell? ⟨gl,q*2,none⟩=some (.int .i64 z.type)/\U.drew.cell? ⟨gl,q*2+1,none⟩=some (.int .u32 z.word):=⟨Ac bD lf,Ac bD ib1,Ac bD lt,Ac bD lw⟩
 have KE:(U.alloc (.cells #[.int .i64 z.type,.int .u32 z.word] 128)).drew.cell? ⟨gf,top*4+3,none⟩=some (.slice (some ⟨gl,0,none⟩) nl cl)/\(U.alloc (.cells #[.int .i64 z.type,.int .u32 z.word] 128)).drew.cell? ⟨w.heap.size+1+1,1,none⟩=some (.int .i64 q)/\(U.alloc (.cells #[.int .i64 z.type,.int .u32 z.word] 128)).drew.cell? ⟨gl,q*2,none⟩=some (.int .i64 z.type)/\(U.alloc (.cells #[.int .i64 z.type,.int .u32 z.word] 128)).drew.cell? ⟨gl,q*2+1,none⟩=some (.int .u32 z.word):=⟨Ac bE lf,Ac bE ib1,Ac bE lt,Ac bE lw⟩
 have HC:Hid ((U.alloc (.cells #[.int .i64 z.type,.int .u32 z.word] 128)).drew.ownsRow B 128 2 (.slice a2 K.length c2) K.length (K.flatMap MC.cells)/\(∀j u,(([⟨z.type,z.word⟩]:List MC).flatMap MC.cells)[j]?=some u->(U.alloc (.cells #[.int .i64 z.type,.int .u32 z.word] 128)).drew.cell? ((⟨U.heap.size,0,none⟩:Addr).add j)=some u)/\Below U.heap.size U (U.alloc (.cells #[.int .i64 z.type,.int .u32 z.word] 128)).drew/\B<=(U.alloc (.cells #[.int .i64 z.type,.int .u32 z.word] 128)).drew.heap.size):=⟨Ag (E1.out.own.fam.own (.slice a2 K.length c2,K) (by simp)) bE lR,fun j u hj=>Dv U ([⟨z.type,z.word⟩]:List MC) j u hj,bE,Nat.le_trans (Nat.le_trans E1.out.hB E1.out.le) bE.size⟩
 clear lf ib1 lt lw s5 bD bE;go_wp2_with fail
 refine wp_region_held_drew (S:=fun w'=>w'.cell? ⟨gf,top*4+3,none⟩=some (.slice (some ⟨gl,0,none⟩) nl cl)/\w'.cell? ⟨w.heap.size+1+1,1,none⟩=some (.int .i64 q)/\w'.cell? ⟨gl,q*2,none⟩=some (.int .i64 z.type)/\w'.cell? ⟨gl,q*2+1,none⟩=some (.int .u32 z.word)) (by kernel_rfl) KD (fun hHeld=> ?_)
 refine wpAnyH_take (i:=0) (v:= ?_) rfl (by kernel_rfl) (by kernel_rfl) (by kernel_rfl) (fun _ _ _ h=>h) (Or.inl ⟨by rfl,?_⟩) (by assumption) ?_;rotate_left
 ·(intro w hSw;(try dsimp only at hSw);go_simp;(try with_reducible rfl))
 refine wpAnyH_take (i:=2) (v:= ?_) rfl (by kernel_rfl) (by kernel_rfl) (by kernel_rfl) (fun _ _ _ h=>h) (Or.inl ⟨by rfl,?_⟩) (by assumption) ?_;rotate_left
 ·(intro w hSw;(try dsimp only at hSw);go_simp;(try with_reducible rfl))
 refine wpAnyH_take (i:=3) (v:= ?_) rfl (by kernel_rfl) (by kernel_rfl) (by kernel_rfl) (fun _ _ _ h=>h) (Or.inl ⟨by rfl,?_⟩) (by assumption) ?_;rotate_left
 ·(intro w hSw;(try dsimp only at hSw);go_simp;(try with_reducible rfl))
 refine wpAnyH_take (i:=4) (v:= ?_) rfl (by kernel_rfl) (by kernel_rfl) (by kernel_rfl) (fun _ _ _ h=>h) (Or.inl ⟨by rfl,?_⟩) (by assumption) ?_;rotate_left
 ·(intro w hSw;(try dsimp only at hSw);go_simp;(try with_reducible rfl))
 refine wpAnyH_take (i:=5) (v:= ?_) rfl (by kernel_rfl) (by kernel_rfl) (by kernel_rfl) (fun _ _ _ h=>h) (Or.inl ⟨by rfl,?_⟩) (by assumption) ?_;rotate_left
 ·(intro w hSw;(try dsimp only at hSw);go_simp;(try with_reducible rfl))
 refine wpAnyH_take (i:=6) (v:= ?_) rfl (by kernel_rfl) (by kernel_rfl) (by kernel_rfl) (fun _ _ _ h=>h) (Or.inl ⟨by rfl,?_⟩) (by assumption) ?_;rotate_left
 ·(intro w hSw;(try dsimp only at hSw);go_simp;(try with_reducible rfl))
 refine wpAnyH_take (i:=7) (v:= ?_) rfl (by kernel_rfl) (by kernel_rfl) (by kernel_rfl) (fun _ _ _ h=>h) (Or.inl ⟨by rfl,?_⟩) (by assumption) ?_;rotate_left
 ·(intro w hSw;(try dsimp only at hSw);go_simp;(try with_reducible rfl))
 refine wpAnyH_take (i:=8) (v:= ?_) rfl (by kernel_rfl) (by kernel_rfl) (by kernel_rfl) (fun _ _ _ h=>h) (Or.inl ⟨by rfl,?_⟩) (by assumption) ?_;rotate_left
 ·(intro w hSw;(try dsimp only at hSw);go_simp;(try with_reducible rfl))
 refine wpAnyH_take (i:=9) (v:= ?_) rfl (by kernel_rfl) (by kernel_rfl) (by kernel_rfl) (fun _ _ _ h=>h) (Or.inl ⟨by rfl,?_⟩) (by assumption) ?_;rotate_left
 ·(intro w hSw;(try dsimp only at hSw);go_simp;(try with_reducible rfl))
 refine wpAnyH_ready (rs:=[1,10]) (by kernel_rfl) (by simp) ?_;refine AllReadyH.cons rfl (fun KC hKC=> ?_) (AllReadyH.cons rfl (fun KC hKC=> ?_) AllReadyH.nil)
 focus
  go_simp;refine hKC.out _ _ KD (fun hHeld=> ?_);clear hKC KC;refine wpAnyH_ready (rs:=[10]) (by kernel_rfl) (by simp) ?_;refine AllReadyH.cons rfl (fun KC hKC=> ?_) AllReadyH.nil;go_simp;refine hKC.out _ _ KE (fun hHeld=> ?_);clear hKC KC;refine wpAnyH_ready (rs:=[11]) (by kernel_rfl) (by simp) ?_;refine AllReadyH.cons rfl (fun KC hKC=> ?_) AllReadyH.nil
 rotate_left
 focus
  go_simp;refine hKC.out _ _ KE (fun hHeld=> ?_);clear hKC KC;refine wpAnyH_ready (rs:=[1]) (by kernel_rfl) (by simp) ?_;refine AllReadyH.cons rfl (fun KC hKC=> ?_) AllReadyH.nil;go_simp;refine hKC.out _ _ KE (fun hHeld=> ?_);clear hKC KC;refine wpAnyH_ready (rs:=[11]) (by kernel_rfl) (by simp) ?_;refine AllReadyH.cons rfl (fun KC hKC=> ?_) AllReadyH.nil
 all_goals
  refine step_append_lies _ rfl (.tmp 87) (.tmp 96) 36 rfl B 128 i0 (.agg #[.int .i64 0,.int .u32 0]) 2 16 Tryz.underlying36 hi hz0 hz1 hz2 rfl (by decide) (.slice a2 K.length c2) K.length (K.flatMap MC.cells) (by simp[Act.eval]) HC.out.1 ⟨U.heap.size,0,none⟩ 1 1 (([⟨z.type,z.word⟩]:List MC).flatMap MC.cells) (by simp[Act.eval]) rfl HC.out.2.1 (Cm _) (by omega) (by unfold maxLen;omega) (by omega) HC.out.2.2.2 _ rfl ?_;intro gg cap u8 hown hgrow hat hlt8;have HN:Hid (A7 w (u8.setCell ⟨w.heap.size+1,5,none⟩ (.slice (some ⟨gg,0,none⟩) (K.length+1) cap)) B v t c n ⟨.slice a1 C.length c1,.slice (some ⟨gg,0,none⟩) (K.length+1) cap,.slice (some ⟨gf,0,none⟩) (top+1) c3⟩ ⟨2,q,ib,ic⟩ C (K++[⟨z.type,z.word⟩]) F):=E1.out.push HC.out.2.2.1 (K':=K++([⟨z.type,z.word⟩]:List MC)) hgrow (by rw[List.flatMap_append];exact hown) (by simp) hat;have st8:=(E1.out.keep HC.out.2.2.1).sb.grown hgrow HC.out.1 (by decide);have y0:=st8.cell 5;have y1:=st8.frozen 5;simp only[gA,gZ,gS]at y0;have p8:=(E1.out.keep HC.out.2.2.1).pb.grown hgrow HC.out.1 (by decide);have i8:=(E1.out.keep HC.out.2.2.1).ib.grown hgrow HC.out.1 (by decide);have b9:Below B w u8:=(E1.out.keep HC.out.2.2.1).bel.low.grown hgrow HC.out.2.2.2 (fun j hj=>(HC.out.1.lt j hj).1);have O8:=E1.out.pushOwn HC.out.2.2.1 (K':=K++([⟨z.type,z.word⟩]:List MC)) hgrow (by rw[List.flatMap_append];exact hown) (by simp) hat;have KU:u8.cell? ⟨gf,top*4+3,none⟩=some (.slice (some ⟨gl,0,none⟩) nl cl)/\u8.cell? ⟨w.heap.size+1+1,1,none⟩=some (.int .i64 q)/\u8.cell? ⟨gl,q*2,none⟩=some (.int .i64 z.type)/\u8.cell? ⟨gl,q*2+1,none⟩=some (.int .u32 z.word):=⟨(HLC.out O8 rfl).1,i8.cell 1,(HLC.out O8 rfl).2.1,(HLC.out O8 rfl).2.2⟩;have KV:(u8.setCell ⟨w.heap.size+1,5,none⟩ (.slice (some ⟨gg,0,none⟩) (K.length+1) cap)).cell? ⟨gf,top*4+3,none⟩=some (.slice (some ⟨gl,0,none⟩) nl cl)/\(u8.setCell ⟨w.heap.size+1,5,none⟩ (.slice (some ⟨gg,0,none⟩) (K.length+1) cap)).cell? ⟨w.heap.size+1+1,1,none⟩=some (.int .i64 q)/\(u8.setCell ⟨w.heap.size+1,5,none⟩ (.slice (some ⟨gg,0,none⟩) (K.length+1) cap)).cell? ⟨gl,q*2,none⟩=some (.int .i64 z.type)/\(u8.setCell ⟨w.heap.size+1,5,none⟩ (.slice (some ⟨gg,0,none⟩) (K.length+1) cap)).cell? ⟨gl,q*2+1,none⟩=some (.int .u32 z.word):=⟨(HLC.out HN.out.own rfl).1,HN.out.ib.cell 1,(HLC.out HN.out.own rfl).2.1,(HLC.out HN.out.own rfl).2.2⟩;clear hown hgrow hat hlt8 st8 p8 i8 b9 O8
  refine hKC.out _ _ KU (fun hHeld=> ?_);clear hKC KC;refine wpAnyH_take (i:=12) (v:= ?_) rfl (by kernel_rfl) (by kernel_rfl) (by kernel_rfl) (fun _ _ _ h=>h) (Or.inl ⟨by rfl,?_⟩) (by assumption) ?_;rotate_left
  ·(intro w hSw;(try dsimp only at hSw);go_simp;(try with_reducible rfl))
  refine wpAnyH_ready (rs:=[13]) (by kernel_rfl) (by simp) ?_;refine AllReadyH.cons rfl (fun KC hKC=> ?_) AllReadyH.nil;go_simp;refine hKC.out _ _ KV (fun hHeld=> ?_);clear hKC KC;refine wpAnyH_done (by kernel_rfl) ?_ _;clear KD s5d s5e ib0 sb6;go_upto_region 40 with fail
  refine Af (fun u=>Hid (A7 w u B v t c n ⟨.slice a1 C.length c1,.slice (some ⟨gg,0,none⟩) (K.length+1) cap,.slice (some ⟨gf,0,none⟩) (top+1) c3⟩ ⟨2,q,ib,ic⟩ C (K++[⟨z.type,z.word⟩]) F)) HN ?_;rintro U2 E2;clear HN;obtain⟨m0,m1,m2,m3,m4,m5,m6⟩:=E2.out.sb.c7;try dsimp only at m0 m1 m2 m3 m4 m5 m6
  obtain⟨r0,r1,r2,r3,r4,r5,r6⟩:=E2.out.rb.c7;obtain⟨rz0,rz1,rz2,rz3,rz4,rz5,rz6⟩:=E2.out.rb.z7;try dsimp only at r0 r1 r2 r3 r4 r5 r6
  go_wp2_with fail
  have hBw:=E2.out.hB;exact bodyPost_ret (results_cell_row Tryz.results79 _ _ _ 39 _ (0,0) _ rfl (E2.out.rb.w7 _ _ _ _ _ _ _) Tryz.underlying39 rfl (by kernel_rfl)) rfl ⟨⟨.slice a1 C.length c1,.slice (some ⟨gg,0,none⟩) (K.length+1) cap,.slice (some ⟨gf,0,none⟩) (top+1) c3⟩,rfl,E2.out.own.o7 E2.out.rb _ _ _ _ _ _ _,E2.out.bel.s7 (by omega) _ _ _ _ _ _ _⟩
theorem PD(v:VP)(t c n:Int)(x:VS)(ia ib ic:Int)(C:List (Value×List MC))(K:List MC)(F:List (MG×Value))(B top:Nat)(y:MG×Value)(aa:Option Addr)(ca:Nat)(ar:List MC)(w:World)(hB:B<=w.heap.size)(h:Ah w B x C K F)(hF:F.length=top+1)(hF1:top<=1048576)(hy:F[top]?=some y)(hK:K.length<=1048576)(q p:Nat)(r:Value×List MC)(z:MC)(hia:ia=q)(hib:ib=p)(hr:C[q]?=some r)(hp:r.2[p]?=some z)(hnr:r.2.length<=1048576)(hnc:C.length<=1048576):
 Calls Tryz.prog 79 #[.agg #[v.r,v.k,v.f,v.t],.agg #[.int .i64 t,.bool false,.int .i64 c,.int .i64 n,x.c,x.k,x.f],.agg #[.int .i64 4,.int .i64 ia,.int .i64 ib,.int .i64 ic],.slice aa ar.length ca] w (Dl w B t c n C (K++[z]) F):=by
 have H:=h3 h hF hy;subst hia hib;have hro:w.ownsRow B 128 2 r.1 r.2.length (r.2.flatMap MC.cells):=h.fam.own r (by simp only[List.mem_append];exact .inl (.inl (mG hr)));have hpl:=(gI.1 hp).1;have hql:=(gI.1 hr).1;rcases At hro with⟨_,e⟩|⟨gl,cl,el⟩
 ·omega
 have HL:=h3 hp el hr;generalize r.2.length=nl at el hpl HL hnr;clear hro hp hr;obtain⟨i0,hi,hz0,hz1,hz2⟩:=info_parts DJ
 obtain⟨gc,c1,e1⟩:∃g c,x.c=.slice (some ⟨g,0,none⟩) C.length c:=by
  rcases At h.cells with⟨_,e⟩|hh
  ·omega
  ·exact hh
 obtain⟨a2,c2,e2⟩:=Al (h.fam.own (x.k,K) (by simp));rcases At h.frames with⟨_,e⟩|⟨gf,c3,e3⟩
 ·omega
 have E0:=A7.of v t c n ⟨4,q,p,ic⟩ h hB;obtain⟨vc,vk',vf'⟩:=x;simp only[]at e1 e2 e3;rw[hF]at e3;subst e1 e2 e3;have E1:Hid _:=E0.1;have E1':Hid _:=E0.2;clear E0 h hy;generalize ar.length=na at*;go_enter Tryz.func79,Tryz.ntmps79;go_upto_region 1 with fail
 refine Af (fun u=>Hid (A7 w u B v t c n _ _ C K F/\Below w.heap.size w u)) ⟨E1.out,E1'.out⟩ ?_
 rintro U EE;clear E1 E1';have E1:Hid _:=EE.out.1;have E1':Hid _:=EE.out.2;clear EE;have sb6:=E1.out.sb.cell 6;have ib0:=E1.out.ib.cell 0;simp only[gA,gZ,gS]at sb6 ib0;have hqI:(q:Int)<(C.length:Int):=by omega
 have hpI:(p:Int)<(nl:Int):=by omega
 have HLC:Hid (∀{u:World} {x:VS} {K':List MC},Ah u B x C K' F->x.c=.slice (some ⟨gc,0,none⟩) C.length c1->u.cell? ⟨gc,q,none⟩=some (.slice (some ⟨gl,0,none⟩) nl cl)/\u.cell? ⟨gl,p*2,none⟩=some (.int .i64 z.type)/\u.cell? ⟨gl,p*2+1,none⟩=some (.int .u32 z.word)):=fun ho hx=>⟨by rw[ho.celc hx HL.out.2.2,HL.out.2.1],(ho.rowc (r:=r) (by simp only[List.mem_append];exact .inl (.inl (mG HL.out.2.2))) HL.out.2.1 HL.out.1).1,(ho.rowc (r:=r) (by simp only[List.mem_append];exact .inl (.inl (mG HL.out.2.2))) HL.out.2.1 HL.out.1).2⟩
 obtain⟨lf,lt,lw⟩:=HLC.out E1.out.own rfl;have ib1:=E1.out.ib.cell 1;have ib2:=E1.out.ib.cell 2;have sb4:=E1.out.sb.cell 4;simp only[gA,gZ,gS]at ib1 ib2 sb4;have s5:=E1.out.sb.cell 5;simp only[gA,gZ,gS]at s5;have bD:=Ad U;have bE:Below U.heap.size U (U.alloc (.cells #[.int .i64 z.type,.int .u32 z.word] 128)).drew:=Ab (Aa _ _) lR (Ad _);have s5d:=Ac bD s5;have s5e:=Ac bE s5;have KD:U.drew.cell? ⟨gc,q,none⟩=some (.slice (some ⟨gl,0,none⟩) nl cl)/\U.drew.cell? ⟨w.heap.size+1+1,1,none⟩=some (.int .i64 q)/\U.drew.cell? ⟨w.heap.size+1+1,2,none⟩=some (.int .i64 p)/\U.drew.cell? ⟨w.heap.size+1,4,none⟩=some (.slice (some ⟨gc,0,none⟩) C.length c1)/\U.drew.cell? ⟨gl,p*2,none⟩=some (.int .i64 z.type)/\U.drew.cell? ⟨gl,p*2+1,none⟩=some (.int .u32 z.word):=⟨Ac bD lf,Ac bD ib1,Ac bD ib2,Ac bD sb4,Ac bD lt,Ac bD lw⟩
 have KE:(U.alloc (.cells #[.int .i64 z.type,.int .u32 z.word] 128)).drew.cell? ⟨gc,q,none⟩=some (.slice (some ⟨gl,0,none⟩) nl cl)/\(U.alloc (.cells #[.int .i64 z.type,.int .u32 z.word] 128)).drew.cell? ⟨w.heap.size+1+1,1,none⟩=some (.int .i64 q)/\(U.alloc (.cells #[.int .i64 z.type,.int .u32 z.word] 128)).drew.cell? ⟨w.heap.size+1+1,2,none⟩=some (.int .i64 p)/\(U.alloc (.cells #[.int .i64 z.type,.int .u32 z.word] 128)).drew.cell? ⟨w.heap.size+1,4,none⟩=some (.slice (some ⟨gc,0,none⟩) C.length c1)/\(U.alloc (.cells #[.int .i64 z.type,.int .u32 z.word] 128)).drew.cell? ⟨gl,p*2,none⟩=some (.int .i64 z.type)/\(U.alloc (.cells #[.int .i64 z.type,.int .u32 z.word] 128)).drew.cell? ⟨gl,p*2+1,none⟩=some (.int .u32 z.word):=⟨Ac bE lf,Ac bE ib1,Ac bE ib2,Ac bE sb4,Ac bE lt,Ac bE lw⟩
 have HC:Hid ((U.alloc (.cells #[.int .i64 z.type,.int .u32 z.word] 128)).drew.ownsRow B 128 2 (.slice a2 K.length c2) K.length (K.flatMap MC.cells)/\(∀j u,(([⟨z.type,z.word⟩]:List MC).flatMap MC.cells)[j]?=some u->(U.alloc (.cells #[.int .i64 z.type,.int .u32 z.word] 128)).drew.cell? ((⟨U.heap.size,0,none⟩:Addr).add j)=some u)/\Below U.heap.size U (U.alloc (.cells #[.int .i64 z.type,.int .u32 z.word] 128)).drew/\B<=(U.alloc (.cells #[.int .i64 z.type,.int .u32 z.word] 128)).drew.heap.size):=⟨Ag (E1.out.own.fam.own (.slice a2 K.length c2,K) (by simp)) bE lR,fun j u hj=>Dv U ([⟨z.type,z.word⟩]:List MC) j u hj,bE,Nat.le_trans (Nat.le_trans E1.out.hB E1.out.le) bE.size⟩
 clear lf ib1 ib2 sb4 lt lw s5 bD bE;go_wp2_with fail
 refine wp_region_held_drew (S:=fun w'=>w'.cell? ⟨gc,q,none⟩=some (.slice (some ⟨gl,0,none⟩) nl cl)/\w'.cell? ⟨w.heap.size+1+1,1,none⟩=some (.int .i64 q)/\w'.cell? ⟨w.heap.size+1+1,2,none⟩=some (.int .i64 p)/\w'.cell? ⟨w.heap.size+1,4,none⟩=some (.slice (some ⟨gc,0,none⟩) C.length c1)/\w'.cell? ⟨gl,p*2,none⟩=some (.int .i64 z.type)/\w'.cell? ⟨gl,p*2+1,none⟩=some (.int .u32 z.word)) (by kernel_rfl) KD (fun hHeld=> ?_)
 refine wpAnyH_take (i:=0) (v:= ?_) rfl (by kernel_rfl) (by kernel_rfl) (by kernel_rfl) (fun _ _ _ h=>h) (Or.inl ⟨by rfl,?_⟩) (by assumption) ?_;rotate_left
 ·(intro w hSw;(try dsimp only at hSw);go_simp;(try with_reducible rfl))
 refine wpAnyH_take (i:=2) (v:= ?_) rfl (by kernel_rfl) (by kernel_rfl) (by kernel_rfl) (fun _ _ _ h=>h) (Or.inl ⟨by rfl,?_⟩) (by assumption) ?_;rotate_left
 ·(intro w hSw;(try dsimp only at hSw);go_simp;(try with_reducible rfl))
 refine wpAnyH_take (i:=3) (v:= ?_) rfl (by kernel_rfl) (by kernel_rfl) (by kernel_rfl) (fun _ _ _ h=>h) (Or.inl ⟨by rfl,?_⟩) (by assumption) ?_;rotate_left
 ·(intro w hSw;(try dsimp only at hSw);go_simp;(try with_reducible rfl))
 refine wpAnyH_take (i:=4) (v:= ?_) rfl (by kernel_rfl) (by kernel_rfl) (by kernel_rfl) (fun _ _ _ h=>h) (Or.inl ⟨by rfl,?_⟩) (by assumption) ?_;rotate_left
 ·(intro w hSw;(try dsimp only at hSw);go_simp;(try with_reducible rfl))
 refine wpAnyH_take (i:=5) (v:= ?_) rfl (by kernel_rfl) (by kernel_rfl) (by kernel_rfl) (fun _ _ _ h=>h) (Or.inl ⟨by rfl,?_⟩) (by assumption) ?_;rotate_left
 ·(intro w hSw;(try dsimp only at hSw);go_simp;(try with_reducible rfl))
 refine wpAnyH_take (i:=6) (v:= ?_) rfl (by kernel_rfl) (by kernel_rfl) (by kernel_rfl) (fun _ _ _ h=>h) (Or.inl ⟨by rfl,?_⟩) (by assumption) ?_;rotate_left
 ·(intro w hSw;(try dsimp only at hSw);go_simp;(try with_reducible rfl))
 refine wpAnyH_take (i:=7) (v:= ?_) rfl (by kernel_rfl) (by kernel_rfl) (by kernel_rfl) (fun _ _ _ h=>h) (Or.inl ⟨by rfl,?_⟩) (by assumption) ?_;rotate_left
 ·(intro w hSw;(try dsimp only at hSw);go_simp;(try with_reducible rfl))
 refine wpAnyH_take (i:=8) (v:= ?_) rfl (by kernel_rfl) (by kernel_rfl) (by kernel_rfl) (fun _ _ _ h=>h) (Or.inl ⟨by rfl,?_⟩) (by assumption) ?_;rotate_left
 ·(intro w hSw;(try dsimp only at hSw);go_simp;(try with_reducible rfl))
 refine wpAnyH_take (i:=9) (v:= ?_) rfl (by kernel_rfl) (by kernel_rfl) (by kernel_rfl) (fun _ _ _ h=>h) (Or.inl ⟨by rfl,?_⟩) (by assumption) ?_;rotate_left
 ·(intro w hSw;(try dsimp only at hSw);go_simp;(try with_reducible rfl))
 refine wpAnyH_take (i:=10) (v:= ?_) rfl (by kernel_rfl) (by kernel_rfl) (by kernel_rfl) (fun _ _ _ h=>h) (Or.inl ⟨by rfl,?_⟩) (by assumption) ?_;rotate_left
 ·(intro w hSw;(try dsimp only at hSw);go_simp;(try with_reducible rfl))
 refine wpAnyH_take (i:=11) (v:= ?_) rfl (by kernel_rfl) (by kernel_rfl) (by kernel_rfl) (fun _ _ _ h=>h) (Or.inl ⟨by rfl,?_⟩) (by assumption) ?_;rotate_left
 ·(intro w hSw;(try dsimp only at hSw);go_simp;(try with_reducible rfl))
 refine wpAnyH_ready (rs:=[1,12]) (by kernel_rfl) (by simp) ?_;refine AllReadyH.cons rfl (fun KC hKC=> ?_) (AllReadyH.cons rfl (fun KC hKC=> ?_) AllReadyH.nil)
 focus
  go_simp;refine hKC.out _ _ KD (fun hHeld=> ?_);clear hKC KC;refine wpAnyH_ready (rs:=[12]) (by kernel_rfl) (by simp) ?_;refine AllReadyH.cons rfl (fun KC hKC=> ?_) AllReadyH.nil;go_simp;refine hKC.out _ _ KE (fun hHeld=> ?_);clear hKC KC;refine wpAnyH_ready (rs:=[13]) (by kernel_rfl) (by simp) ?_;refine AllReadyH.cons rfl (fun KC hKC=> ?_) AllReadyH.nil
 rotate_left
 focus
  go_simp;refine hKC.out _ _ KE (fun hHeld=> ?_);clear hKC KC;refine wpAnyH_ready (rs:=[1]) (by kernel_rfl) (by simp) ?_;refine AllReadyH.cons rfl (fun KC hKC=> ?_) AllReadyH.nil;go_simp;refine hKC.out _ _ KE (fun hHeld=> ?_);clear hKC KC;refine wpAnyH_ready (rs:=[13]) (by kernel_rfl) (by simp) ?_;refine AllReadyH.cons rfl (fun KC hKC=> ?_) AllReadyH.nil
 all_goals
  refine step_append_lies _ rfl (.tmp 114) (.tmp 125) 36 rfl B 128 i0 (.agg #[.int .i64 0,.int .u32 0]) 2 16 Tryz.underlying36 hi hz0 hz1 hz2 rfl (by decide) (.slice a2 K.length c2) K.length (K.flatMap MC.cells) (by simp[Act.eval]) HC.out.1 ⟨U.heap.size,0,none⟩ 1 1 (([⟨z.type,z.word⟩]:List MC).flatMap MC.cells) (by simp[Act.eval]) rfl HC.out.2.1 (Cm _) (by omega) (by unfold maxLen;omega) (by omega) HC.out.2.2.2 _ rfl ?_;intro gg cap u8 hown hgrow hat hlt8;have HN:Hid (A7 w (u8.setCell ⟨w.heap.size+1,5,none⟩ (.slice (some ⟨gg,0,none⟩) (K.length+1) cap)) B v t c n ⟨.slice (some ⟨gc,0,none⟩) C.length c1,.slice (some ⟨gg,0,none⟩) (K.length+1) cap,.slice (some ⟨gf,0,none⟩) (top+1) c3⟩ ⟨4,q,p,ic⟩ C (K++[⟨z.type,z.word⟩]) F):=E1.out.push HC.out.2.2.1 (K':=K++([⟨z.type,z.word⟩]:List MC)) hgrow (by rw[List.flatMap_append];exact hown) (by simp) hat;have st8:=(E1.out.keep HC.out.2.2.1).sb.grown hgrow HC.out.1 (by decide);have y0:=st8.cell 5;have y1:=st8.frozen 5;simp only[gA,gZ,gS]at y0;have p8:=(E1.out.keep HC.out.2.2.1).pb.grown hgrow HC.out.1 (by decide);have i8:=(E1.out.keep HC.out.2.2.1).ib.grown hgrow HC.out.1 (by decide);have b9:Below B w u8:=(E1.out.keep HC.out.2.2.1).bel.low.grown hgrow HC.out.2.2.2 (fun j hj=>(HC.out.1.lt j hj).1);have O8:=E1.out.pushOwn HC.out.2.2.1 (K':=K++([⟨z.type,z.word⟩]:List MC)) hgrow (by rw[List.flatMap_append];exact hown) (by simp) hat;have KU:u8.cell? ⟨gc,q,none⟩=some (.slice (some ⟨gl,0,none⟩) nl cl)/\u8.cell? ⟨w.heap.size+1+1,1,none⟩=some (.int .i64 q)/\u8.cell? ⟨w.heap.size+1+1,2,none⟩=some (.int .i64 p)/\u8.cell? ⟨w.heap.size+1,4,none⟩=some (.slice (some ⟨gc,0,none⟩) C.length c1)/\u8.cell? ⟨gl,p*2,none⟩=some (.int .i64 z.type)/\u8.cell? ⟨gl,p*2+1,none⟩=some (.int .u32 z.word):=⟨(HLC.out O8 rfl).1,i8.cell 1,i8.cell 2,st8.cell 4,(HLC.out O8 rfl).2.1,(HLC.out O8 rfl).2.2⟩;have KV:(u8.setCell ⟨w.heap.size+1,5,none⟩ (.slice (some ⟨gg,0,none⟩) (K.length+1) cap)).cell? ⟨gc,q,none⟩=some (.slice (some ⟨gl,0,none⟩) nl cl)/\(u8.setCell ⟨w.heap.size+1,5,none⟩ (.slice (some ⟨gg,0,none⟩) (K.length+1) cap)).cell? ⟨w.heap.size+1+1,1,none⟩=some (.int .i64 q)/\(u8.setCell ⟨w.heap.size+1,5,none⟩ (.slice (some ⟨gg,0,none⟩) (K.length+1) cap)).cell? ⟨w.heap.size+1+1,2,none⟩=some (.int .i64 p)/\(u8.setCell ⟨w.heap.size+1,5,none⟩ (.slice (some ⟨gg,0,none⟩) (K.length+1) cap)).cell? ⟨w.heap.size+1,4,none⟩=some (.slice (some ⟨gc,0,none⟩) C.length c1)/\(u8.setCell ⟨w.heap.size+1,5,none⟩ (.slice (some ⟨gg,0,none⟩) (K.length+1) cap)).cell? ⟨gl,p*2,none⟩=some (.int .i64 z.type)/\(u8.setCell ⟨w.heap.size+1,5,none⟩ (.slice (some ⟨gg,0,none⟩) (K.length+1) cap)).cell? ⟨gl,p*2+1,none⟩=some (.int .u32 z.word):=⟨(HLC.out HN.out.own rfl).1,HN.out.ib.cell 1,HN.out.ib.cell 2,HN.out.sb.cell 4,(HLC.out HN.out.own rfl).2.1,(HLC.out HN.out.own rfl).2.2⟩;clear hown hgrow hat hlt8 st8 p8 i8 b9 O8
  refine hKC.out _ _ KU (fun hHeld=> ?_);clear hKC KC;refine wpAnyH_take (i:=14) (v:= ?_) rfl (by kernel_rfl) (by kernel_rfl) (by kernel_rfl) (fun _ _ _ h=>h) (Or.inl ⟨by rfl,?_⟩) (by assumption) ?_;rotate_left
  ·(intro w hSw;(try dsimp only at hSw);go_simp;(try with_reducible rfl))
  refine wpAnyH_ready (rs:=[15]) (by kernel_rfl) (by simp) ?_;refine AllReadyH.cons rfl (fun KC hKC=> ?_) AllReadyH.nil;go_simp;refine hKC.out _ _ KV (fun hHeld=> ?_);clear hKC KC;refine wpAnyH_done (by kernel_rfl) ?_ _;clear KD s5d s5e ib0 sb6;go_upto_region 40 with fail
  refine Af (fun u=>Hid (A7 w u B v t c n _ _ C _ F)) HN ?_;rintro U2 E2;clear HN;obtain⟨m0,m1,m2,m3,m4,m5,m6⟩:=E2.out.sb.c7;try dsimp only at m0 m1 m2 m3 m4 m5 m6
  obtain⟨r0,r1,r2,r3,r4,r5,r6⟩:=E2.out.rb.c7;obtain⟨rz0,rz1,rz2,rz3,rz4,rz5,rz6⟩:=E2.out.rb.z7;try dsimp only at r0 r1 r2 r3 r4 r5 r6
  go_wp2_with fail
  have hBw:=E2.out.hB;exact bodyPost_ret (results_cell_row Tryz.results79 _ _ _ 39 _ (0,0) _ rfl (E2.out.rb.w7 _ _ _ _ _ _ _) Tryz.underlying39 rfl (by kernel_rfl)) rfl ⟨⟨.slice (some ⟨gc,0,none⟩) C.length c1,.slice (some ⟨gg,0,none⟩) (K.length+1) cap,.slice (some ⟨gf,0,none⟩) (top+1) c3⟩,rfl,E2.out.own.o7 E2.out.rb _ _ _ _ _ _ _,E2.out.bel.s7 (by omega) _ _ _ _ _ _ _⟩
theorem ON(v:VP)(t c n:Int)(x:VS)(ia ib ic:Int)(C:List (Value×List MC))(K:List MC)(F:List (MG×Value))(B top:Nat)(y:MG×Value)(aa:Option Addr)(ca:Nat)(ar:List MC)(w:World)(hB:B<=w.heap.size)(h:Ah w B x C K F)(hF:F.length=top+1)(hF1:top<=1048576)(hy:F[top]?=some y)(hK:K.length<=1048576)(har:w.ownsRow B 128 2 (.slice aa ar.length ca) ar.length (ar.flatMap MC.cells))(z0:MC)(ha0:ar[0]?=some z0)(hap:∀g,(Value.slice aa ar.length ca).ownBlock=some g->some g≠x.k.ownBlock)(hna1:ar.length<=1048576):
 Calls Tryz.prog 79 #[.agg #[v.r,v.k,v.f,v.t],.agg #[.int .i64 t,.bool false,.int .i64 c,.int .i64 n,x.c,x.k,x.f],.agg #[.int .i64 23,.int .i64 ia,.int .i64 ib,.int .i64 ic],.slice aa ar.length ca] w (Dl w B t c n C (K++[z0,z0]) F):=by
 have H:=h3 h hF hy;have HA0:Hid (ar[0]?=some z0/\0<ar.length):=⟨ha0,(gI.1 ha0).1⟩
 rcases At har with⟨_,e⟩|⟨ga,ca',ea⟩
 ·have:=HA0.out.2;omega
 simp only[sJ,true_and]at ea;obtain⟨rfl,rfl⟩:=ea;obtain⟨i0,hi,hz0,hz1,hz2⟩:=info_parts DJ;obtain⟨a1,c1,e1⟩:=Al h.cells;obtain⟨a2,c2,e2⟩:=Al (h.fam.own (x.k,K) (by simp));rcases At h.frames with⟨_,e⟩|⟨gf,c3,e3⟩
 ·omega
 have E0:=A7.of v t c n ⟨23,ia,ib,ic⟩ h hB;obtain⟨vc,vk',vf'⟩:=x;simp only[]at e1 e2 e3;rw[hF]at e3;subst e1 e2 e3;have E1:Hid _:=E0.1;have E1':Hid _:=E0.2;have HAP:=AS hap;have HAR:=AS har;clear E0 h hy hap har ha0;generalize hna:ar.length=na at*;have HNA:Hid (ar.length=na):=hna;have hna0:0<na:=by have:=HA0.out.2;omega
 clear hna;go_enter Tryz.func79,Tryz.ntmps79;go_upto_region 1 with fail
 refine Af (fun u=>Hid (A7 w u B v t c n _ _ C K F/\Below w.heap.size w u)) ⟨E1.out,E1'.out⟩ ?_
 rintro U EE;clear E1 E1';have E1:Hid _:=EE.out.1;have E1':Hid _:=EE.out.2;clear EE;have sb6:=E1.out.sb.cell 6;have ib0:=E1.out.ib.cell 0;simp only[gA,gZ,gS]at sb6 ib0;have HAU:=AS (Ag HAR.out E1'.out lR);have at0:U.cell? ⟨ga,0,none⟩=some (.int .i64 z0.type):=(Fl HAU.out HA0.out.1 HNA.out).1;have aw0:U.cell? ⟨ga,1,none⟩=some (.int .u32 z0.word):=(Fl HAU.out HA0.out.1 HNA.out).2;have s5:=E1.out.sb.cell 5;simp only[gA,gZ,gS]at s5;have bD:=Ad U;have bE:Below U.heap.size U (U.alloc (.cells #[.int .i64 z0.type,.int .u32 z0.word,.int .i64 z0.type,.int .u32 z0.word] 128)).drew:=Ab (Aa _ _) lR (Ad _);have s5d:=Ac bD s5;have s5e:=Ac bE s5;have KD:U.drew.cell? ⟨ga,0,none⟩=some (.int .i64 z0.type)/\U.drew.cell? ⟨ga,1,none⟩=some (.int .u32 z0.word):=⟨Ac bD at0,Ac bD aw0⟩
 have KE:(U.alloc (.cells #[.int .i64 z0.type,.int .u32 z0.word,.int .i64 z0.type,.int .u32 z0.word] 128)).drew.cell? ⟨ga,0,none⟩=some (.int .i64 z0.type)/\(U.alloc (.cells #[.int .i64 z0.type,.int .u32 z0.word,.int .i64 z0.type,.int .u32 z0.word] 128)).drew.cell? ⟨ga,1,none⟩=some (.int .u32 z0.word):=⟨Ac bE at0,Ac bE aw0⟩
 have HC:Hid ((U.alloc (.cells #[.int .i64 z0.type,.int .u32 z0.word,.int .i64 z0.type,.int .u32 z0.word] 128)).drew.ownsRow B 128 2 (.slice a2 K.length c2) K.length (K.flatMap MC.cells)/\(∀j u,(([⟨z0.type,z0.word⟩,⟨z0.type,z0.word⟩]:List MC).flatMap MC.cells)[j]?=some u->(U.alloc (.cells #[.int .i64 z0.type,.int .u32 z0.word,.int .i64 z0.type,.int .u32 z0.word] 128)).drew.cell? ((⟨U.heap.size,0,none⟩:Addr).add j)=some u)/\Below U.heap.size U (U.alloc (.cells #[.int .i64 z0.type,.int .u32 z0.word,.int .i64 z0.type,.int .u32 z0.word] 128)).drew/\B<=(U.alloc (.cells #[.int .i64 z0.type,.int .u32 z0.word,.int .i64 z0.type,.int .u32 z0.word] 128)).drew.heap.size):=⟨Ag (E1.out.own.fam.own (.slice a2 K.length c2,K) (by simp)) bE lR,fun j u hj=>Dv U ([⟨z0.type,z0.word⟩,⟨z0.type,z0.word⟩]:List MC) j u hj,bE,Nat.le_trans (Nat.le_trans E1.out.hB E1.out.le) bE.size⟩
 clear at0 aw0 s5 bD bE;go_wp2_with fail
 refine wp_region_held_drew (S:=fun w'=>w'.cell? ⟨ga,0,none⟩=some (.int .i64 z0.type)/\w'.cell? ⟨ga,1,none⟩=some (.int .u32 z0.word)) (by kernel_rfl) KD (fun hHeld=> ?_)
 refine wpAnyH_take (i:=0) (v:= ?_) rfl (by kernel_rfl) (by kernel_rfl) (by kernel_rfl) (fun _ _ _ h=>h) (Or.inl ⟨by rfl,?_⟩) (by assumption) ?_;rotate_left
 ·(intro w hSw;(try dsimp only at hSw);go_simp;(try with_reducible rfl))
 refine wpAnyH_take (i:=2) (v:= ?_) rfl (by kernel_rfl) (by kernel_rfl) (by kernel_rfl) (fun _ _ _ h=>h) (Or.inl ⟨by rfl,?_⟩) (by assumption) ?_;rotate_left
 ·(intro w hSw;(try dsimp only at hSw);go_simp;(try with_reducible rfl))
 refine wpAnyH_take (i:=3) (v:= ?_) rfl (by kernel_rfl) (by kernel_rfl) (by kernel_rfl) (fun _ _ _ h=>h) (Or.inl ⟨by rfl,?_⟩) (by assumption) ?_;rotate_left
 ·(intro w hSw;(try dsimp only at hSw);go_simp;(try with_reducible rfl))
 refine wpAnyH_take (i:=4) (v:= ?_) rfl (by kernel_rfl) (by kernel_rfl) (by kernel_rfl) (fun _ _ _ h=>h) (Or.inl ⟨by rfl,?_⟩) (by assumption) ?_;rotate_left
 ·(intro w hSw;(try dsimp only at hSw);go_simp;(try with_reducible rfl))
 refine wpAnyH_take (i:=5) (v:= ?_) rfl (by kernel_rfl) (by kernel_rfl) (by kernel_rfl) (fun _ _ _ h=>h) (Or.inl ⟨by rfl,?_⟩) (by assumption) ?_;rotate_left
 ·(intro w hSw;(try dsimp only at hSw);go_simp;(try with_reducible rfl))
 refine wpAnyH_take (i:=6) (v:= ?_) rfl (by kernel_rfl) (by kernel_rfl) (by kernel_rfl) (fun _ _ _ h=>h) (Or.inl ⟨by rfl,?_⟩) (by assumption) ?_;rotate_left
 ·(intro w hSw;(try dsimp only at hSw);go_simp;(try with_reducible rfl))
 refine wpAnyH_take (i:=7) (v:= ?_) rfl (by kernel_rfl) (by kernel_rfl) (by kernel_rfl) (fun _ _ _ h=>h) (Or.inl ⟨by rfl,?_⟩) (by assumption) ?_;rotate_left
 ·(intro w hSw;(try dsimp only at hSw);go_simp;(try with_reducible rfl))
 refine wpAnyH_ready (rs:=[1,8]) (by kernel_rfl) (by simp) ?_;refine AllReadyH.cons rfl (fun KC hKC=> ?_) (AllReadyH.cons rfl (fun KC hKC=> ?_) AllReadyH.nil)
 focus
  go_simp;refine hKC.out _ _ KD (fun hHeld=> ?_);clear hKC KC;refine wpAnyH_ready (rs:=[8]) (by kernel_rfl) (by simp) ?_;refine AllReadyH.cons rfl (fun KC hKC=> ?_) AllReadyH.nil;go_simp;refine hKC.out _ _ KE (fun hHeld=> ?_);clear hKC KC;refine wpAnyH_ready (rs:=[9]) (by kernel_rfl) (by simp) ?_;refine AllReadyH.cons rfl (fun KC hKC=> ?_) AllReadyH.nil
 rotate_left
 focus
  go_simp;refine hKC.out _ _ KE (fun hHeld=> ?_);clear hKC KC;refine wpAnyH_ready (rs:=[1]) (by kernel_rfl) (by simp) ?_;refine AllReadyH.cons rfl (fun KC hKC=> ?_) AllReadyH.nil;go_simp;refine hKC.out _ _ KE (fun hHeld=> ?_);clear hKC KC;refine wpAnyH_ready (rs:=[9]) (by kernel_rfl) (by simp) ?_;refine AllReadyH.cons rfl (fun KC hKC=> ?_) AllReadyH.nil
 all_goals
  refine step_append_lies _ rfl (.tmp 194) (.tmp 201) 36 rfl B 128 i0 (.agg #[.int .i64 0,.int .u32 0]) 2 16 Tryz.underlying36 hi hz0 hz1 hz2 rfl (by decide) (.slice a2 K.length c2) K.length (K.flatMap MC.cells) (by simp[Act.eval]) HC.out.1 ⟨U.heap.size,0,none⟩ 2 2 (([⟨z0.type,z0.word⟩,⟨z0.type,z0.word⟩]:List MC).flatMap MC.cells) (by simp[Act.eval]) rfl HC.out.2.1 (Cm _) (by omega) (by unfold maxLen;omega) (by omega) HC.out.2.2.2 _ rfl ?_;intro gg cap u8 hown hgrow hat hlt8;have HN:Hid (A7 w (u8.setCell ⟨w.heap.size+1,5,none⟩ (.slice (some ⟨gg,0,none⟩) (K.length+2) cap)) B v t c n ⟨.slice a1 C.length c1,.slice (some ⟨gg,0,none⟩) (K.length+2) cap,.slice (some ⟨gf,0,none⟩) (top+1) c3⟩ ⟨23,ia,ib,ic⟩ C (K++[⟨z0.type,z0.word⟩,⟨z0.type,z0.word⟩]) F):=E1.out.push HC.out.2.2.1 (K':=K++([⟨z0.type,z0.word⟩,⟨z0.type,z0.word⟩]:List MC)) hgrow (by rw[List.flatMap_append];exact hown) (by simp) hat;have st8:=(E1.out.keep HC.out.2.2.1).sb.grown hgrow HC.out.1 (by decide);have y0:=st8.cell 5;have y1:=st8.frozen 5;simp only[gA,gZ,gS]at y0;have p8:=(E1.out.keep HC.out.2.2.1).pb.grown hgrow HC.out.1 (by decide);have i8:=(E1.out.keep HC.out.2.2.1).ib.grown hgrow HC.out.1 (by decide);have b9:Below B w u8:=(E1.out.keep HC.out.2.2.1).bel.low.grown hgrow HC.out.2.2.2 (fun j hj=>(HC.out.1.lt j hj).1);have O8:=E1.out.pushOwn HC.out.2.2.1 (K':=K++([⟨z0.type,z0.word⟩,⟨z0.type,z0.word⟩]:List MC)) hgrow (by rw[List.flatMap_append];exact hown) (by simp) hat;have A8:=Bn (Ag HAU.out HC.out.2.2.1 lR) hgrow HAP.out;have A9:=ownsRow_setCell_other A8 (a:=⟨w.heap.size+1,5,none⟩) (fun e=>AJ A8 st8 (by decide) _ e rfl) (.slice (some ⟨gg,0,none⟩) (K.length+2) cap);have KU:u8.cell? ⟨ga,0,none⟩=some (.int .i64 z0.type)/\u8.cell? ⟨ga,1,none⟩=some (.int .u32 z0.word):=⟨(Fl A8 HA0.out.1 HNA.out).1,(Fl A8 HA0.out.1 HNA.out).2⟩;have KV:(u8.setCell ⟨w.heap.size+1,5,none⟩ (.slice (some ⟨gg,0,none⟩) (K.length+2) cap)).cell? ⟨ga,0,none⟩=some (.int .i64 z0.type)/\(u8.setCell ⟨w.heap.size+1,5,none⟩ (.slice (some ⟨gg,0,none⟩) (K.length+2) cap)).cell? ⟨ga,1,none⟩=some (.int .u32 z0.word):=⟨(Fl A9 HA0.out.1 HNA.out).1,(Fl A9 HA0.out.1 HNA.out).2⟩;clear hown hgrow hat hlt8 st8 A8 A9 p8 i8 b9 O8
  refine hKC.out _ _ KU (fun hHeld=> ?_);clear hKC KC;refine wpAnyH_take (i:=10) (v:= ?_) rfl (by kernel_rfl) (by kernel_rfl) (by kernel_rfl) (fun _ _ _ h=>h) (Or.inl ⟨by rfl,?_⟩) (by assumption) ?_;rotate_left
  ·(intro w hSw;(try dsimp only at hSw);go_simp;(try with_reducible rfl))
  refine wpAnyH_ready (rs:=[11]) (by kernel_rfl) (by simp) ?_;refine AllReadyH.cons rfl (fun KC hKC=> ?_) AllReadyH.nil;go_simp;refine hKC.out _ _ KV (fun hHeld=> ?_);clear hKC KC;refine wpAnyH_done (by kernel_rfl) ?_ _;clear KD s5d s5e ib0 sb6;go_upto_region 40 with fail
  refine Af (fun u=>Hid (A7 w u B v t c n _ _ C _ F)) HN ?_;rintro U2 E2;clear HN;obtain⟨m0,m1,m2,m3,m4,m5,m6⟩:=E2.out.sb.c7;try dsimp only at m0 m1 m2 m3 m4 m5 m6
  obtain⟨r0,r1,r2,r3,r4,r5,r6⟩:=E2.out.rb.c7;obtain⟨rz0,rz1,rz2,rz3,rz4,rz5,rz6⟩:=E2.out.rb.z7;try dsimp only at r0 r1 r2 r3 r4 r5 r6
  go_wp2_with fail
  have hBw:=E2.out.hB;exact bodyPost_ret (results_cell_row Tryz.results79 _ _ _ 39 _ (0,0) _ rfl (E2.out.rb.w7 _ _ _ _ _ _ _) Tryz.underlying39 rfl (by kernel_rfl)) rfl ⟨⟨.slice a1 C.length c1,.slice (some ⟨gg,0,none⟩) (K.length+2) cap,.slice (some ⟨gf,0,none⟩) (top+1) c3⟩,rfl,E2.out.own.o7 E2.out.rb _ _ _ _ _ _ _,E2.out.bel.s7 (by omega) _ _ _ _ _ _ _⟩
end Go.Proofs.YtlejplpkomddeaaGreat
