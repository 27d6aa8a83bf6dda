import Derived.Test.YtmalfecapdmdbaaGreatHo18
import Derived.Test.YtmalfecapdmdbaaGreatHo35
namespace Go.Proofs.YtmalfecapdmdbaaGreat
open Go.ChangeShapes Go.WideShapes Go.ChangeAt Go.RowKit Go.Proofs.Tryz
set_option linter.unusedVariables false
open Go.Value renaming slice → Z,agg → Am
open Option renaming some → K,none → M
open Go renaming Value → J,World → Y,Calls → Ai
open Go.RowKit renaming Below → Ah,Hid → Ae
open Go.Obj renaming cells → Ak
open Go.Ending renaming returned → Al
open Go.Proofs.Tryz renaming prog → Ap
open Go.World renaming alloc → Ac
open List renaming flatMap → Ad
set_option maxHeartbeats 2000000
set_option maxRecDepth 100000
variable {w u:Y}
structure Sc1(w u:Y)(v:VP)(g:VF)(f:MF):Prop where
 sb:AC u w #[v.r,v.k,v.f,v.t,g.p,f.gy,g.l,g.c] 158
 e8:Ah w w u
theorem Sc1.of(w:Y)(v:VP)(g:VF)(f:MF):Sc1 w (Ac w (Ak #[v.r,v.k,v.f,v.t,g.p,f.gy,g.l,g.c] 158)) v g f:=⟨AC.new _ _ _,Aq _ _⟩
theorem VW{s:J}{n q:Nat}{xs:List Int}{t:Int}(h:Rd w 1 s n (Ad As xs))(d: ↑xs=n)(a:xs[q]?=K t):∃gk ok ck,s=Z (K ⟨gk,ok,M⟩) n ck/\w ⟨gk,ok+q,M⟩=K ↑t:=by
 have c:=(i6.1 a).1;rcases h.2 with⟨e,_⟩|⟨gk,ok,ck,e,b⟩
 . omega
 have:=Rd.elem AA b q t a 0 _ rfl;rw[lN,kJ]at this;exact⟨gk,ok,ck,e,this⟩
theorem Hh(v:VP)(g:VF)(f:MF)(q:Nat)(a:Int)(w:Y)(h:f.small)(d:DE w g f)(b:(f.gw++f.gG)[q]?=K a):
 Ai Ap 126 #[Am #[v.r,v.k,v.f,v.t,g.p,f.gy,g.l,g.c],q] w λe i=>e=Al a/\Ah w w i:=Ir v.r v.k v.f v.t g f q a w h d b
structure GY(w u:Y)(v:VP)(g:VF)(f:MF)(op a b c:Int):Prop where
 sb:AC u w #[v.r,v.k,v.f,v.t,g.p,f.gy,g.l,g.c] 158
 ib:AC u ((w:Nat)+1) #[op,a,b,c] 72
 e8:Ah w w u
theorem GY.a7{e:Y}{v:VP}{g:VF}{f:MF}{op a b c:Int}(h:GY w u v g f op a b c)(d:Ah u u e):GY w e v g f op a b c:=⟨h.sb.a7 d,h.ib.a7 d,Ar h.e8 lR d⟩
theorem GY.of(w:Y)(v:VP)(g:VF)(f:MF)(op a b c:Int):GY w (Ac (Ac w (Ak #[v.r,v.k,v.f,v.t,g.p,f.gy,g.l,g.c] 158)) (Ak #[op,a,b,c] 72)) v g f op a b c:=by
 have e:=Aq w (Ak #[v.r,v.k,v.f,v.t,g.p,f.gy,g.l,g.c] 158);have i:=AC.new w #[v.r,v.k,v.f,v.t,g.p,f.gy,g.l,g.c] 158;generalize m:Ac w (Ak #[v.r,v.k,v.f,v.t,g.p,f.gy,g.l,g.c] 158)=d at e i⊢;have n:(d:Nat)= ↑w+1:=by rw[<-m];simp
 have h:=Aq d (Ak #[op,a,b,c] 72);have j:=AC.new d #[op,a,b,c] 72;rw[n]at j;exact⟨i.a7 h,j,Ar e lR h⟩
def Df(w:Y)(ts:List Int)(e:Ending)(a:Y):Prop:=∃s,e=Al s/\Rd a 1 s ts (Ad As ts)/\Ah w w a
theorem Fc(a:Ah w w u)(ts:List Int)(n c:Nat)(d:n= ↑ts):Df w ts (Al (Z u n c)) (Ac u (Ak (Ad As ts).toArray 2)):=by subst d;refine⟨_,rfl,⟨by rw[AE As 1 AA],.inr ⟨u,0,c,rfl, λj v b=> ?_⟩⟩,Ar a lR (Aq _ _)⟩;rw[nh _ u (0+j) _ _ _ (Ht u (Ad As ts).toArray 2),lM];simpa using b
theorem Sx(a:Ah w w u):Df w [] (Al (Z M 0 0)) u:=⟨_,rfl,⟨rfl,.inl ⟨rfl,_,_,rfl⟩⟩,a⟩
theorem ER(v:VP)(p:MP)(g:VF)(f:MF)(op c:Int)(q z:Nat)(r:List Int)(W:Int)(w:Y)(Q:p.small)(hr:Gi w v.r p.bO)(d:p.bO[q]?=K r)(E:r[z]?=K W):
 Ai Ap 250 #[Am #[v.r,v.k,v.f,v.t,g.p,f.gy,g.l,g.c],Am #[op,q,z,c]] w λe w'=>e=Al W/\Ah w w w':=by
 obtain⟨xs,C,N,O⟩:=hr;have ae:=(i6.1 d).1;have ah:=(i6.1 E).1;have ao:=Q.bO;have am:=Q.region r (i7 d);obtain⟨⟨r',yv⟩,i⟩:∃x,xs[q]?=K x:=⟨_,an (by rw[<-lC (f:=Prod.fst),C];exact ae)⟩;have B:=Bo C i;rw[d]at B;obtain rfl:r=r':=kH B;have D:=O _ (i7 i);simp only[]at D;rcases N.2 with⟨e0,_⟩|⟨b,m,c1,L,P⟩
 . omega
 have j:=Rd.elem A5 P q _ i 0 _ rfl;rw[lN,kJ]at j;simp only[]at j;obtain⟨gk,ok,ck,e,S⟩:=VW D rfl E;subst e;obtain⟨vr,y,s,A⟩:=v;simp only[]at L;subst L;have aj:(q:Int)<(p.bO:Int):=oM;have aq:(z:Int)<(r:Int):=oM;have I:Ae (GY w (Ac (Ac w (Ak #[Z (K ⟨b,m,M⟩) p.bO c1,y,s,A,g.p,f.gy,g.l,g.c] 158)) (Ak #[op,q,z,c] 72)) ⟨Z (K ⟨b,m,M⟩) p.bO c1,y,s,A⟩ g f op q z c):=GY.of w ⟨Z (K ⟨b,m,M⟩) p.bO c1,y,s,A⟩ g f op q z c;clear P N O D i B C d E;go_enter func250,ntmps250;go_upto_region 1 with fail
 refine Ax (λu=>Ae (GY w u ⟨Z (K ⟨b,m,M⟩) p.bO c1,y,s,A⟩ g f op q z c)) I ?_;rintro U a;clear I;have H:=a.sb.cell 0;have F:=a.ib.cell 1;have G:=a.ib.cell 2;simp only[kB,i9,kC]at H F G;have R:=Bh a.e8 j;have T:=Bh a.e8 S;have inst:=AB.some U;have J0:= λn:AB U=>AB.cell H n
 have J1:= λn:AB U=>AB.cell F n
 have J2:= λn:AB U=>AB.cell G n
 have J3:= λn:AB U=>AB.cell R n
 have J4:= λn:AB U=>AB.cell T n
 clear j S;go_wp2_with fail;refine AL kR kR ?_;repeat(go_big_quiet_step (fail))
 refine wpQuiet_nil ?_;rintro au ⟨V,rfl⟩;have X:Ae (Ah w w V.u):=Ar a.e8 lR V.h;clear J0 J1 J2 J3 J4 inst H F G R T;go_wp2_with fail;go_ret;exact⟨rfl,X⟩
theorem PY(g:VF)(f:MF)(w:Y):Ai Ap 251 #[Am #[g.p,f.gy,g.l,g.c]] w (Df w (A7 f)):=by
 have d:Ae (AC (Ac w (Ak #[g.p,f.gy,g.l,g.c] 70)) w #[g.p,f.gy,g.l,g.c] 70/\Ah w w (Ac w (Ak #[g.p,f.gy,g.l,g.c] 70))):=⟨AC.new _ _ _,Aq _ _⟩
 by_cases a:f.gy=0
 . (have i:(f.gy==0)=true:=by simpa using a);(have e:Ae (A7 f=[]):=by unfold A7;rw[kZ a];exact rfl);rw[e];clear a;go_enter func251,ntmps251;(go_upto_region 1 with fail);refine Ax (λu=>Ae (AC u w #[g.p,f.gy,g.l,g.c] 70/\Ah w w u)) d ?_
   rintro U b;clear d;have h:=b.1.cell 1;simp only[kB,i9,kC]at h;go_wp2_with fail;go_ret;exact Sx b.2
 have i:(f.gy==0)=false:=by simpa using a
 have e:Ae (A7 f=[f.gy]):=by unfold A7;rw[kP a];exact rfl
 rw[e];clear a;go_enter func251,ntmps251;go_upto_region 1 with fail
 refine Ax (λu=>Ae (AC u w #[g.p,f.gy,g.l,g.c] 70/\Ah w w u)) d ?_
 rintro U b;clear d;have h:=b.1.cell 1;simp only[kB,i9,kC]at h;go_wp2_with fail;go_ret;exact Fc b.2 [f.gy] 1 1 rfl
theorem Lk(v:VP)(p:MP)(g:VF)(f:MF)(op a b c:Int)(w:Y)(hs:f.small)(i:Da w v p)(m:DE w g f)(N:op=27->∃q:Nat,a=q/\(f.gw++f.gG)[q]?=K (AN f a)):
 Ai Ap 245 #[Am #[v.r,v.k,v.f,v.t,g.p,f.gy,g.l,g.c],Am #[op,a,b,c]] w λe w'=>AJ e (¬(op=27/\AN f a≠3))/\Ah w w w':=by
 obtain⟨E,F,W⟩:=(show∃a c,v.r=Z a p.bO c from by obtain⟨_,_,L,_⟩:=i.bO;exact L.dk);obtain⟨C,D,V⟩:=i.ej.dk;obtain⟨G,H,X⟩:=i.eD.dk;obtain⟨f1,f3,Q⟩:=(show∃a c,v.f=Z a p.bW c from by obtain⟨_,_,L,_⟩:=i.bW;exact L.dk);obtain⟨s,x,R⟩:=m.1.dk;obtain⟨y,z,S⟩:=m.2.1.dk;obtain⟨A,B,T⟩:=m.2.2.dk;obtain⟨gp,gl,gc⟩:=g;obtain⟨vr,vk,vf,vt⟩:=v;simp only[]at W V X Q R S T;subst W V X Q R S T;have HP:=Av i;have HR:=Av m;clear i m;have n:=Av (GY.of w ⟨Z E p.bO F,Z C p.ej D,Z f1 p.bW f3,Z G p.eD H⟩ ⟨Z s f.gw x,Z y f.gG z,Z A f.eC B⟩ f op a b c);by_cases j:op=27
 . obtain⟨q,rfl,hq⟩:=N j;subst j;have HQ:=Av hq;clear N hq;go_enter func245,ntmps245;(go_upto_region 1 with fail);refine Ax (λu=>Ae (GY w u ⟨Z E p.bO F,Z C p.ej D,Z f1 p.bW f3,Z G p.eD H⟩ ⟨Z s f.gw x,Z y f.gG z,Z A f.eC B⟩ f 27 q b c)) n ?_;rintro U d;clear n;have O:=d.ib.cell 0;have i1:=d.ib.cell 1;have s0:=d.sb.cell 0;have s1:=d.sb.cell 1;have s2:=d.sb.cell 2;have s3:=d.sb.cell 3;have s4:=d.sb.cell 4;have s5:=d.sb.cell 5;have s6:=d.sb.cell 6;have s7:=d.sb.cell 7;simp only[kB,i9,kC]at O i1 s0 s1 s2 s3 s4 s5 s6 s7;go_wp2_with fail;refine(Hh ⟨Z E p.bO F,Z C p.ej D,Z f1 p.bW f3,Z G p.eD H⟩ ⟨Z s f.gw x,Z y f.gG z,Z A f.eC B⟩ f q (AN f q) U hs (HR.a7 d.e8 lR) HQ).mono ?_;rintro e u1 ⟨rfl,b1⟩;have P:=Av (Ar d.e8 lR b1);by_cases h:AN f q=3
   . (have ah:(AN f q==3)=true:=by simpa using h);have I:=Av h;clear h;go_wp2_with fail;go_ret;exact⟨⟨true,rfl, λ_ e=>e.2 I, λ_=>rfl⟩,P⟩
   (have ah:(AN f q==3)=false:=by simpa using h);have I:=Av h;clear h;go_wp2_with fail;go_ret;exact⟨.no (λe=>e ⟨by trivial,I⟩),P⟩
 have aj:(op != 27)=true:=by simpa using j
 have ae:=Av j;clear j N;go_enter func245,ntmps245;go_upto_region 1 with fail
 refine Ax (λu=>Ae (GY w u ⟨Z E p.bO F,Z C p.ej D,Z f1 p.bW f3,Z G p.eD H⟩ ⟨Z s f.gw x,Z y f.gG z,Z A f.eC B⟩ f op a b c)) n ?_;rintro U d;clear n;have O:=d.ib.cell 0;simp only[kB,i9]at O;go_wp2_with fail;go_ret;exact⟨⟨true,rfl, λ_ e=>ae.o e.1, λ_=>rfl⟩,d.e8⟩
end Go.Proofs.YtmalfecapdmdbaaGreat
