import Derived.Test.YtadcneiiokbofaaGreatBo31
namespace Go.Proofs.YtadcneiiokbofaaGreat
open Go.ChangeShapes Go.WideShapes Go.ChangeAt Go.RowKit Go.Proofs.Tryz
set_option linter.unusedVariables false
open Go.Value renaming slice → Z,agg → Am
open Option renaming some → K,none → M
open Go renaming World → Y,Calls → Ai
open Go.RowKit renaming Hid → Ae,Below → Ah
open Go.Obj renaming cells → Ak
open Go.Ending renaming returned → Al
open Go.Proofs.Tryz renaming prog → Ap
open Go.World renaming alloc → Ac
open List renaming flatMap → Ad
set_option maxHeartbeats 2000000
set_option maxRecDepth 100000
variable {w u:Y}
structure Hj(w u:Y)(v:VP)(g:VF)(f:MF)(op a b c:Int):Prop where
 sb:AA u w #[v.r,v.k,v.f,v.t,g.p,f.gV,g.l,g.c] 162
 ib:AA u ((w:Nat)+1) #[op,a,b,c] 79
 ej:Ah w w u
theorem Hj.a7{e:Y}{v:VP}{g:VF}{f:MF}{op a b c:Int}(h:Hj w u v g f op a b c)(d:Ah u u e):Hj w e v g f op a b c:=⟨h.sb.a7 d,h.ib.a7 d,Ar h.ej lR d⟩
theorem Hj.of(w:Y)(v:VP)(g:VF)(f:MF)(op a b c:Int):Hj w (Ac (Ac w (Ak #[v.r,v.k,v.f,v.t,g.p,f.gV,g.l,g.c] 162)) (Ak #[op,a,b,c] 79)) v g f op a b c:=by
 have e:=Aq w (Ak #[v.r,v.k,v.f,v.t,g.p,f.gV,g.l,g.c] 162);have i:=AA.new w #[v.r,v.k,v.f,v.t,g.p,f.gV,g.l,g.c] 162;generalize m:Ac w (Ak #[v.r,v.k,v.f,v.t,g.p,f.gV,g.l,g.c] 162)=d at e i⊢;have n:(d:Nat)= ↑w+1:=by rw[<-m];simp
 have h:=Aq d (Ak #[op,a,b,c] 79);have j:=AA.new d #[op,a,b,c] 79;rw[n]at j;exact⟨i.a7 h,j,Ar e lR h⟩
def Do(w:Y)(ts:List Int)(e:Ending)(a:Y):Prop:=∃s,e=Al s/\Rd a 1 s ts (Ad As ts)/\Ah w w a
theorem Fk(a:Ah w w u)(ts:List Int)(n c:Nat)(d:n= ↑ts):Do w ts (Al (Z u n c)) (Ac u (Ak (Ad As ts).toArray 2)):=by subst d;refine⟨_,rfl,⟨by rw[AE As 1 Ay],.inr ⟨u,0,c,rfl, λj v b=> ?_⟩⟩,Ar a lR (Aq _ _)⟩;rw[o6 _ u (0+j) _ _ _ (Im u (Ad As ts).toArray 2),mQ];simpa using b
theorem Tp(a:Ah w w u):Do w [] (Al (Z M 0 0)) u:=⟨_,rfl,⟨rfl,.inl ⟨rfl,_,_,rfl⟩⟩,a⟩
theorem Fc(v:VP)(p:MP)(g:VF)(f:MF)(op c:Int)(q z:Nat)(r:List Int)(W:Int)(w:Y)(Q:p.small)(hr:I5 w v.r p.aC)(d:p.aC[q]?=K r)(E:r[z]?=K W):
 Ai Ap 261 #[Am #[v.r,v.k,v.f,v.t,g.p,f.gV,g.l,g.c],Am #[op,q,z,c]] w λe w'=>e=Al W/\Ah w w w':=by
 obtain⟨xs,C,N,O⟩:=hr;have ae:=(i8.1 d).1;have ah:=(i8.1 E).1;have ao:=Q.aC;have am:=Q.region r (lA d);obtain⟨⟨r',yv⟩,i⟩:∃x,xs[q]?=K x:=⟨_,an (by rw[<-mD (f:=Prod.fst),C];exact ae)⟩;have B:=BF C i;rw[d]at B;obtain rfl:r=r':=lP B;have D:=O _ (lA i);simp only[]at D;rcases N.2 with⟨e0,_⟩|⟨b,m,c1,L,P⟩
 . omega
 have j:=Rd.elem A5 P q _ i 0 _ rfl;rw[mO,lJ]at j;simp only[]at j;obtain⟨gk,ok,ck,e,S⟩:=Xc D rfl E;subst e;obtain⟨vr,y,s,A⟩:=v;simp only[]at L;subst L;have aj:(q:Int)<(p.aC:Int):=oM;have aq:(z:Int)<(r:Int):=oM;have I:Ae (Hj w (Ac (Ac w (Ak #[Z (K ⟨b,m,M⟩) p.aC c1,y,s,A,g.p,f.gV,g.l,g.c] 162)) (Ak #[op,q,z,c] 79)) ⟨Z (K ⟨b,m,M⟩) p.aC c1,y,s,A⟩ g f op q z c):=Hj.of w ⟨Z (K ⟨b,m,M⟩) p.aC c1,y,s,A⟩ g f op q z c;clear P N O D i B C d E;go_enter func261,ntmps261;go_upto_region 1 with fail
 refine Ax (λu=>Ae (Hj w u ⟨Z (K ⟨b,m,M⟩) p.aC c1,y,s,A⟩ g f op q z c)) I ?_;rintro U a;clear I;have H:=a.sb.cell 0;have F:=a.ib.cell 1;have G:=a.ib.cell 2;simp only[lE,lC,lF]at H F G;have R:=Bi a.ej j;have T:=Bi a.ej S;have inst:=AC.some U;have J0:= λn:AC U=>AC.cell H n
 have J1:= λn:AC U=>AC.cell F n
 have J2:= λn:AC U=>AC.cell G n
 have J3:= λn:AC U=>AC.cell R n
 have J4:= λn:AC U=>AC.cell T n
 clear j S;go_wp2_with fail;refine AN kR kR ?_;repeat(go_big_quiet_step (fail))
 refine wpQuiet_nil ?_;rintro au ⟨V,rfl⟩;have X:Ae (Ah w w V.u):=Ar a.ej lR V.h;clear J0 J1 J2 J3 J4 inst H F G R T;go_wp2_with fail;go_ret;exact⟨rfl,X⟩
theorem QJ(g:VF)(f:MF)(w:Y):Ai Ap 262 #[Am #[g.p,f.gV,g.l,g.c]] w (Do w (Ba f)):=by
 have d:Ae (AA (Ac w (Ak #[g.p,f.gV,g.l,g.c] 76)) w #[g.p,f.gV,g.l,g.c] 76/\Ah w w (Ac w (Ak #[g.p,f.gV,g.l,g.c] 76))):=⟨AA.new _ _ _,Aq _ _⟩
 by_cases a:f.gV=0
 . (have i:(f.gV==0)=true:=by simpa using a);(have e:Ae (Ba f=[]):=by unfold Ba;rw[lZ a];exact rfl);rw[e];clear a;go_enter func262,ntmps262;(go_upto_region 1 with fail);refine Ax (λu=>Ae (AA u w #[g.p,f.gV,g.l,g.c] 76/\Ah w w u)) d ?_
   rintro U b;clear d;have h:=b.1.cell 1;simp only[lE,lC,lF]at h;go_wp2_with fail;go_ret;exact Tp b.2
 have i:(f.gV==0)=false:=by simpa using a
 have e:Ae (Ba f=[f.gV]):=by unfold Ba;rw[lS a];exact rfl
 rw[e];clear a;go_enter func262,ntmps262;go_upto_region 1 with fail
 refine Ax (λu=>Ae (AA u w #[g.p,f.gV,g.l,g.c] 76/\Ah w w u)) d ?_
 rintro U b;clear d;have h:=b.1.cell 1;simp only[lE,lC,lF]at h;go_wp2_with fail;go_ret;exact Fk b.2 [f.gV] 1 1 rfl
theorem LM(v:VP)(p:MP)(g:VF)(f:MF)(op a b c:Int)(w:Y)(hs:f.small)(i:Dm w v p)(m:DF w g f)(N:op=27->∃q:Nat,a=q/\(f.gU++f.gW)[q]?=K (AO f a)):
 Ai Ap 258 #[Am #[v.r,v.k,v.f,v.t,g.p,f.gV,g.l,g.c],Am #[op,a,b,c]] w λe w'=>AM e (¬(op=27/\AO f a≠3))/\Ah w w w':=by
 obtain⟨E,F,W⟩:=(show∃a c,v.r=Z a p.aC c from by obtain⟨_,_,L,_⟩:=i.aC;exact L.bW);obtain⟨C,D,V⟩:=i.dk.bW;obtain⟨G,H,X⟩:=i.e8.bW;obtain⟨f1,f3,Q⟩:=(show∃a c,v.f=Z a p.aD c from by obtain⟨_,_,L,_⟩:=i.aD;exact L.bW);obtain⟨s,x,R⟩:=m.1.bW;obtain⟨y,z,S⟩:=m.2.1.bW;obtain⟨A,B,T⟩:=m.2.2.bW;obtain⟨gp,gl,gc⟩:=g;obtain⟨vr,vk,vf,vt⟩:=v;simp only[]at W V X Q R S T;subst W V X Q R S T;have HP:=Av i;have HR:=Av m;clear i m;have n:=Av (Hj.of w ⟨Z E p.aC F,Z C p.dk D,Z f1 p.aD f3,Z G p.e8 H⟩ ⟨Z s f.gU x,Z y f.gW z,Z A f.bO B⟩ f op a b c);by_cases j:op=27
 . obtain⟨q,rfl,hq⟩:=N j;subst j;have HQ:=Av hq;clear N hq;go_enter func258,ntmps258;(go_upto_region 1 with fail);refine Ax (λu=>Ae (Hj w u ⟨Z E p.aC F,Z C p.dk D,Z f1 p.aD f3,Z G p.e8 H⟩ ⟨Z s f.gU x,Z y f.gW z,Z A f.bO B⟩ f 27 q b c)) n ?_;rintro U d;clear n;have O:=d.ib.cell 0;have i1:=d.ib.cell 1;have s0:=d.sb.cell 0;have s1:=d.sb.cell 1;have s2:=d.sb.cell 2;have s3:=d.sb.cell 3;have s4:=d.sb.cell 4;have s5:=d.sb.cell 5;have s6:=d.sb.cell 6;have s7:=d.sb.cell 7;simp only[lE,lC,lF]at O i1 s0 s1 s2 s3 s4 s5 s6 s7;go_wp2_with fail;refine(H0 ⟨Z E p.aC F,Z C p.dk D,Z f1 p.aD f3,Z G p.e8 H⟩ ⟨Z s f.gU x,Z y f.gW z,Z A f.bO B⟩ f q (AO f q) U hs (HR.a7 d.ej lR) HQ).mono ?_;rintro e u1 ⟨rfl,b1⟩;have P:=Av (Ar d.ej lR b1);by_cases h:AO f q=3
   . (have ah:(AO f q==3)=true:=by simpa using h);have I:=Av h;clear h;go_wp2_with fail;go_ret;exact⟨⟨true,rfl, λ_ e=>e.2 I, λ_=>rfl⟩,P⟩
   (have ah:(AO f q==3)=false:=by simpa using h);have I:=Av h;clear h;go_wp2_with fail;go_ret;exact⟨.no (λe=>e ⟨by trivial,I⟩),P⟩
 have aj:(op != 27)=true:=by simpa using j
 have ae:=Av j;clear j N;go_enter func258,ntmps258;go_upto_region 1 with fail
 refine Ax (λu=>Ae (Hj w u ⟨Z E p.aC F,Z C p.dk D,Z f1 p.aD f3,Z G p.e8 H⟩ ⟨Z s f.gU x,Z y f.gW z,Z A f.bO B⟩ f op a b c)) n ?_;rintro U d;clear n;have O:=d.ib.cell 0;simp only[lE,lC]at O;go_wp2_with fail;go_ret;exact⟨⟨true,rfl, λ_ e=>ae.o e.1, λ_=>rfl⟩,d.ej⟩
end Go.Proofs.YtadcneiiokbofaaGreat
