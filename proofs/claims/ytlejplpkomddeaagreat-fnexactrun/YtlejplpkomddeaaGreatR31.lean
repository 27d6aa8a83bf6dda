import Derived.Test.YtlejplpkomddeaaGreatR0
import Derived.Test.YtlejplpkomddeaaGreatR27
import Derived.Deep.RegionLaw
import Derived.Test.YtlejplpkomddeaaGreatR4
import Derived.Test.YtlejplpkomddeaaGreatR2
namespace Go.Proofs.YtlejplpkomddeaaGreat
open Go.ChangeShapes Go.WideShapes Go.ChangeAt Go.RowKit
set_option linter.unusedVariables false
set_option maxHeartbeats 2000000
set_option maxRecDepth 100000
structure EI(w u:World)(v:VP)(g:VF)(f:MF)(op a b c:Int):Prop where
 sb:Ap u w.heap.size #[v.r,v.k,v.f,v.t,g.p,.int .i64 f.result,g.l,g.c] 164
 ib:Ap u (w.heap.size+1) #[.int .i64 op,.int .i64 a,.int .i64 b,.int .i64 c] 134
 bel:Below w.heap.size w u
theorem EI.of(w:World)(v:VP)(g:VF)(f:MF)(op a b c:Int):EI w ((w.alloc (.cells #[v.r,v.k,v.f,v.t,g.p,.int .i64 f.result,g.l,g.c] 164)).alloc (.cells #[.int .i64 op,.int .i64 a,.int .i64 b,.int .i64 c] 134)) v g f op a b c:=by
 have b1:=Aa w (.cells #[v.r,v.k,v.f,v.t,g.p,.int .i64 f.result,g.l,g.c] 164);have k1:=Ap.new w #[v.r,v.k,v.f,v.t,g.p,.int .i64 f.result,g.l,g.c] 164;generalize hU1:w.alloc (.cells #[v.r,v.k,v.f,v.t,g.p,.int .i64 f.result,g.l,g.c] 164)=U1 at b1 k1⊢;have z1:U1.heap.size=w.heap.size+1:=by rw[<-hU1];simp
 have b2:=Aa U1 (.cells #[.int .i64 op,.int .i64 a,.int .i64 b,.int .i64 c] 134);have k2:=Ap.new U1 #[.int .i64 op,.int .i64 a,.int .i64 b,.int .i64 c] 134;rw[z1]at k2;exact⟨k1.keep b2,k2,Ab b1 lR b2⟩
def Dg(w:World)(ts:List Int)(e:Ending)(w':World):Prop:=∃s,e=.returned s/\Rd w' 1 s ts.length (ts.flatMap Ae)/\Below w.heap.size w w'
theorem Da{w u:World}(hb:Below w.heap.size w u)(ts:List Int)(n c:Nat)(hn:n=ts.length):Dg w ts (.returned (.slice (some ⟨u.heap.size,0,none⟩) n c)) (u.alloc (.cells (ts.flatMap Ae).toArray 2)):=by
 subst hn;refine⟨_,rfl,⟨by rw[Az Ae 1 An],.inr ⟨u.heap.size,0,c,rfl,fun j v hj=> ?_⟩⟩,Ab hb lR (Aa _ _)⟩;rw[cell_of_row _ u.heap.size (0+j) _ _ _ (Ck u (ts.flatMap Ae).toArray 2),Nat.zero_add];simpa using hj
theorem JM{w u:World}(hb:Below w.heap.size w u):Dg w [] (.returned (.slice none 0 0)) u:=⟨_,rfl,⟨rfl,.inl ⟨rfl,_,_,rfl⟩⟩,hb⟩
theorem DW(v:VP)(p:MP)(g:VF)(f:MF)(op c:Int)(q z:Nat)(r:List Int)(tt:Int)(w:World)(hs:p.small)(hr:LE w v.r p.regions)(hq:p.regions[q]?=some r)(hz:r[z]?=some tt):
 Calls Tryz.prog 201 #[.agg #[v.r,v.k,v.f,v.t,g.p,.int .i64 f.result,g.l,g.c],.agg #[.int .i64 op,.int .i64 q,.int .i64 z,.int .i64 c]] w fun e w'=>e=.returned (.int .i64 tt)/\Below w.heap.size w w':=by
 obtain⟨xs,h1,h2,h3⟩:=hr;have hlt:=(gI.1 hq).1;have hlz:=(gI.1 hz).1;have hrs:=hs.regions;have hrl:=hs.region r (mG hq);obtain⟨⟨r',yv⟩,hx⟩:∃x,xs[q]?=some x:=⟨_,gE (by rw[<-List.length_map (f:=Prod.fst),h1];exact hlt)⟩;have e2:=Bh h1 hx;rw[hq]at e2;obtain rfl:r=r':=Option.some.inj e2;have hy:=h3 _ (mG hx);simp only[]at hy;rcases h2.2 with⟨e0,_⟩|⟨g1,o1,c1,e1,hc⟩
 ·omega
 have k1:=Rd.elem AO hc q _ hx 0 _ rfl;rw[Nat.mul_one,Nat.add_zero]at k1;simp only[]at k1;obtain⟨gk,ok,ck,e,k2⟩:=Ow hy rfl hz;subst e;obtain⟨vr,vk,vf,vt⟩:=v;simp only[]at e1;subst e1;have hqI:(q:Int)<(p.regions.length:Int):=by omega
 have hzI:(z:Int)<(r.length:Int):=by omega
 have E0:Hid (EI w ((w.alloc (.cells #[.slice (some ⟨g1,o1,none⟩) p.regions.length c1,vk,vf,vt,g.p,.int .i64 f.result,g.l,g.c] 164)).alloc (.cells #[.int .i64 op,.int .i64 q,.int .i64 z,.int .i64 c] 134)) _ g f op q z c):=EI.of w ⟨.slice (some ⟨g1,o1,none⟩) p.regions.length c1,vk,vf,vt⟩ g f op q z c;clear hc h2 h3 hy hx e2 h1 hq hz;go_enter Tryz.func201,Tryz.ntmps201;go_upto_region 1 with fail
 refine Af (fun u=>Hid (EI w u _ g f op q z c)) E0 ?_;rintro U E1;clear E0;have s0:=E1.out.sb.cell 0;have i1:=E1.out.ib.cell 1;have i2:=E1.out.ib.cell 2;simp only[gA,gZ,gS]at s0 i1 i2;have k1U:=Ac E1.out.bel k1;have k2U:=Ac E1.out.bel k2;have inst:=Aj.some U;have J0:=fun n:Aj U=>Aj.cell s0 n
 have J1:=fun n:Aj U=>Aj.cell i1 n
 have J2:=fun n:Aj U=>Aj.cell i2 n
 have J3:=fun n:Aj U=>Aj.cell k1U n
 have J4:=fun n:Aj U=>Aj.cell k2U n
 clear k1 k2;go_wp2_with fail
 refine Am (by kernel_rfl) (by kernel_rfl) ?_;repeat(go_big_quiet_step (fail))
 refine wpQuiet_nil ?_;rintro w'' ⟨n',rfl⟩;have HE:Hid (Below w.heap.size w n'.u):=Ab E1.out.bel lR n'.h;clear J0 J1 J2 J3 J4 inst s0 i1 i2 k1U k2U;go_wp2_with fail
 go_ret
 exact⟨rfl,HE.out⟩
theorem KT(g:VF)(f:MF)(w:World):Calls Tryz.prog 202 #[.agg #[g.p,.int .i64 f.result,g.l,g.c]] w (Dg w (AR f)):=by
 have E0:Hid (Ap (w.alloc (.cells #[g.p,.int .i64 f.result,g.l,g.c] 131)) w.heap.size _ _/\Below w.heap.size w (w.alloc (.cells #[g.p,.int .i64 f.result,g.l,g.c] 131))):=⟨Ap.new _ _ _,Aa _ _⟩
 by_cases hz:f.result=0
 ·have hzb:(f.result==0)=true:=by simpa using hz
  have HR:Hid (AR f=[]):=by unfold AR;rw[if_pos hz];exact rfl
  rw[HR.out];clear hz;go_enter Tryz.func202,Tryz.ntmps202;go_upto_region 1 with fail
  refine Af (fun u=>Hid (Ap u w.heap.size _ _/\Below w.heap.size w u)) E0 ?_
  rintro U E1;clear E0;have hk:=E1.out.1.cell 1;simp only[gA,gZ,gS]at hk;go_wp2_with fail
  go_ret
  exact JM E1.out.2
 ·have hzb:(f.result==0)=false:=by simpa using hz
  have HR:Hid (AR f=[f.result]):=by unfold AR;rw[if_neg hz];exact rfl
  rw[HR.out];clear hz;go_enter Tryz.func202,Tryz.ntmps202;go_upto_region 1 with fail
  refine Af (fun u=>Hid (Ap u w.heap.size _ _/\Below w.heap.size w u)) E0 ?_
  rintro U E1;clear E0;have hk:=E1.out.1.cell 1;simp only[gA,gZ,gS]at hk;go_wp2_with fail
  go_ret
  exact Da E1.out.2 [f.result] 1 1 rfl
theorem Hn(v:VP)(p:MP)(g:VF)(f:MF)(op a b c:Int)(w:World)(hs:f.small)(hP:Cx w v p)(hr:CP w g f)(hg:op=27->∃q:Nat,a=q/\(f.params++f.locals)[q]?=some (Av f a)):
 Calls Tryz.prog 172 #[.agg #[v.r,v.k,v.f,v.t,g.p,.int .i64 f.result,g.l,g.c],.agg #[.int .i64 op,.int .i64 a,.int .i64 b,.int .i64 c]] w fun e w'=>Ar e (¬(op=27/\Av f a≠3))/\Below w.heap.size w w':=by
 obtain⟨r1,r3,k1,k3,t1,t3,f1,f3,rfl⟩:=hP.sl;obtain⟨g1,g3,g4,g6,g7,g9,rfl⟩:=DU hr;have HP:=AS hP;have HR:=AS hr;clear hP hr;have E0:Hid (EI w ((w.alloc (.cells #[.slice r1 p.regions.length r3,.slice k1 p.consts.length k3,.slice f1 p.funcs.length f3,.slice t1 p.certs.length t3,.slice g1 f.params.length g3,.int .i64 f.result,.slice g4 f.locals.length g6,.slice g7 f.code.length g9] 164)).alloc (.cells #[.int .i64 op,.int .i64 a,.int .i64 b,.int .i64 c] 134)) _ _ f op a b c):=EI.of w ⟨.slice r1 p.regions.length r3,.slice k1 p.consts.length k3,.slice f1 p.funcs.length f3,.slice t1 p.certs.length t3⟩ ⟨.slice g1 f.params.length g3,.slice g4 f.locals.length g6,.slice g7 f.code.length g9⟩ f op a b c;by_cases h27:op=27
 ·obtain⟨q,rfl,hq⟩:=hg h27
  subst h27;have HQ:=AS hq;clear hg hq;go_enter Tryz.func172,Tryz.ntmps172;go_upto_region 1 with fail
  refine Af (fun u=>Hid (EI w u _ _ f 27 q b c)) E0 ?_;rintro U E1;clear E0;have i0:=E1.out.ib.cell 0;have i1:=E1.out.ib.cell 1;obtain⟨s0,s1,s2,s3,s4,s5,s6,s7⟩:=E1.out.sb.c8;simp only[gA,gZ,gS]at i0 i1;try dsimp only at s0 s1 s2 s3 s4 s5 s6 s7
  go_wp2_with fail
  refine(Ei ⟨.slice r1 p.regions.length r3,.slice k1 p.consts.length k3,.slice f1 p.funcs.length f3,.slice t1 p.certs.length t3⟩ ⟨.slice g1 f.params.length g3,.slice g4 f.locals.length g6,.slice g7 f.code.length g9⟩ f q (Av f q) U hs (HR.out.keep E1.out.bel lR) HQ.out).mono ?_;rintro e u1 ⟨rfl,b1⟩;have HB:Hid (Below w.heap.size w u1):=Ab E1.out.bel lR b1;by_cases h3:Av f q=3
  ·have h3b:(Av f q==3)=true:=by simpa using h3
   have H3:Hid (Av f q=3):=h3;clear h3;go_wp2_with fail
   go_ret
   exact⟨⟨true,rfl,fun _ e=>e.2 H3.out,fun _=>rfl⟩,HB.out⟩
  ·have h3b:(Av f q==3)=false:=by simpa using h3
   have H3:Hid (¬Av f q=3):=h3;clear h3;go_wp2_with fail
   go_ret
   exact⟨.no (fun e=>e ⟨by trivial,H3.out⟩),HB.out⟩
 ·have h27b:(op != 27)=true:=by simpa using h27
  have H27:Hid (¬op=27):=h27;clear h27 hg;go_enter Tryz.func172,Tryz.ntmps172;go_upto_region 1 with fail
  refine Af (fun u=>Hid (EI w u _ _ f op a b c)) E0 ?_;rintro U E1;clear E0;have i0:=E1.out.ib.cell 0;simp only[gA,gZ]at i0;go_wp2_with fail
  go_ret
  exact⟨⟨true,rfl,fun _ e=>H27.out e.1,fun _=>rfl⟩,E1.out.bel⟩
end Go.Proofs.YtlejplpkomddeaaGreat
