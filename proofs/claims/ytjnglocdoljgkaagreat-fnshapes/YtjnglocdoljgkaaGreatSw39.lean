import Derived.Test.YtjnglocdoljgkaaGreatSw37
import Derived.Test.YtjnglocdoljgkaaGreatSw32
namespace Go.Proofs.YtjnglocdoljgkaaGreat
open Go.ChangeShapes Go.WideShapes Go.ChangeAt Go.RowKit
set_option linter.unusedVariables false
open Go.Value renaming slice → Z,int → Ac
open Option renaming some → K,none → M
open Go renaming Value → J,World → Y,Calls → Ae
open Go.IntKind renaming i64 → Ab
open Go.RowKit renaming Below → Ad,Hid → Aa
set_option maxHeartbeats 8000000
set_option maxRecDepth 100000
variable {w u:Y}{s:Ci}{b p left:Int}{k:GK}{D:List AB}
structure Sc1(w u:Y)(v:VP)(g:VF)(f:MF):Prop where
 sb:Ar u w #[v.r,v.k,v.f,v.t,g.p,Ac Ab f.gz,g.l,g.c] 53
 gG:Ad w w u
theorem Sc1.of(w:Y)(v:VP)(g:VF)(f:MF):Sc1 w (w.alloc (.cells #[v.r,v.k,v.f,v.t,g.p,Ac Ab f.gz,g.l,g.c] 53)) v g f:=⟨Ar.new _ _ _,Ag _ _⟩
theorem VD{s:J}{n q:Nat}{xs:List Int}{t:Int}(h:Rd w 1 s n (xs.flatMap Ah))(j: ↑xs=n)(f:xs[q]?=K t):∃a ok b,s=Z (K ⟨a,ok,M⟩) n b/\w.cell? ⟨a,ok+q,M⟩=K (Ac Ab t):=by
 have i:=(iV.1 f).1;rcases h.2 with⟨e,_⟩|⟨a,ok,b,e,g⟩
 . omega
 have:=Rd.elem Ao g q t f 0 _ rfl;rw[lr,kZ]at this;exact⟨a,ok,b,e,this⟩
theorem He(v:VP)(g:VF)(f:MF)(q:Nat)(a:Int)(w:Y)(i:f.small)(h:Dt w g f)(b:(f.d5++f.en)[q]?=K a):
 Ae Tryz.prog 129 #[.agg #[v.r,v.k,v.f,v.t,g.p,Ac Ab f.gz,g.l,g.c],Ac Ab q] w λe j=>e=.returned (Ac Ab a)/\Ad w w j:=Im v.r v.k v.f v.t g f q a w i h b
structure Fw(w u:Y)(v:VP)(g:VF)(f:MF)(op a b c:Int):Prop where
 sb:Ar u w #[v.r,v.k,v.f,v.t,g.p,Ac Ab f.gz,g.l,g.c] 53
 ib:Ar u ((w:Nat)+1) #[Ac Ab op,Ac Ab a,Ac Ab b,Ac Ab c] 60
 gG:Ad w w u
theorem Fw.bM{i:Y}{v:VP}{g:VF}{f:MF}{op a c:Int}(h:Fw w u v g f op a b c)(e:Ad u u i):Fw w i v g f op a b c:=⟨h.sb.bM e,h.ib.bM e,Ai h.gG lR e⟩
theorem Fw.of(w:Y)(v:VP)(g:VF)(f:MF)(op a b c:Int):Fw w ((w.alloc (.cells #[v.r,v.k,v.f,v.t,g.p,Ac Ab f.gz,g.l,g.c] 53)).alloc (.cells #[Ac Ab op,Ac Ab a,Ac Ab b,Ac Ab c] 60)) v g f op a b c:=by
 have h:=Ag w (.cells #[v.r,v.k,v.f,v.t,g.p,Ac Ab f.gz,g.l,g.c] 53);have j:=Ar.new w #[v.r,v.k,v.f,v.t,g.p,Ac Ab f.gz,g.l,g.c] 53;generalize n:w.alloc (.cells #[v.r,v.k,v.f,v.t,g.p,Ac Ab f.gz,g.l,g.c] 53)=e at h j⊢;have q:(e:Nat)= ↑w+1:=by rw[<-n];simp
 have i:=Ag e (.cells #[Ac Ab op,Ac Ab a,Ac Ab b,Ac Ab c] 60);have m:=Ar.new e #[Ac Ab op,Ac Ab a,Ac Ab b,Ac Ab c] 60;rw[q]at m;exact⟨j.bM i,m,Ai h lR i⟩
def Dp(w:Y)(ts:List Int)(e:Ending)(a:Y):Prop:=∃s,e=.returned s/\Rd a 1 s ts (ts.flatMap Ah)/\Ad w w a
theorem EO(a:Ad w w u)(ts:List Int)(n c:Nat)(e:n= ↑ts):Dp w ts (.returned (Z u n c)) (u.alloc (.cells (ts.flatMap Ah).toArray 2)):=by subst e;refine⟨_,rfl,⟨by rw[Au Ah 1 Ao],.inr ⟨u,0,c,rfl, λj v b=> ?_⟩⟩,Ai a lR (Ag _ _)⟩;rw[nO _ u (0+j) _ _ _ (Hq u (ts.flatMap Ah).toArray 2),lY];simpa using b
theorem RE(a:Ad w w u):Dp w [] (.returned (Z M 0 0)) u:=⟨_,rfl,⟨rfl,.inl ⟨rfl,_,_,rfl⟩⟩,a⟩
theorem Ey(v:VP)(p:MP)(g:VF)(f:MF)(op c:Int)(q z:Nat)(r:List Int)(tt:Int)(w:Y)(R:p.small)(hr:NM w v.r p.a7)(i:p.a7[q]?=K r)(F:r[z]?=K tt):
 Ae Tryz.prog 136 #[.agg #[v.r,v.k,v.f,v.t,g.p,Ac Ab f.gz,g.l,g.c],.agg #[Ac Ab op,Ac Ab q,Ac Ab z,Ac Ab c]] w λe w'=>e=.returned (Ac Ab tt)/\Ad w w w':=by
 obtain⟨xs,h1,h2,O⟩:=hr;have a8:=(iV.1 i).1;have ae:=(iV.1 F).1;have am:=R.a7;have aj:=R.region r (i8 i);obtain⟨⟨r',yv⟩,j⟩:∃x,xs[q]?=K x:=⟨_,an (by rw[<-kW (f:=Prod.fst),h1];exact a8)⟩;have C:=CT h1 j;rw[i]at C;obtain rfl:r=r':=kN C;have D:=O _ (i8 j);simp only[]at D;rcases h2.2 with⟨e0,_⟩|⟨b,y,c1,N,Q⟩
 . omega
 have s:=Rd.elem AY Q q _ j 0 _ rfl;rw[lr,kZ]at s;simp only[]at s;obtain⟨gk,ok,ck,e,T⟩:=VD D rfl F;subst e;obtain⟨vr,vk,A,B⟩:=v;simp only[]at N;subst N;have ah:(q:Int)<(p.a7:Int):=oM;have ao:(z:Int)<(r:Int):=oM;have L:Aa (Fw w ((w.alloc (.cells #[Z (K ⟨b,y,M⟩) p.a7 c1,vk,A,B,g.p,Ac Ab f.gz,g.l,g.c] 53)).alloc (.cells #[Ac Ab op,Ac Ab q,Ac Ab z,Ac Ab c] 60)) ⟨Z (K ⟨b,y,M⟩) p.a7 c1,vk,A,B⟩ g f op q z c):=Fw.of w ⟨Z (K ⟨b,y,M⟩) p.a7 c1,vk,A,B⟩ g f op q z c;clear Q h2 O D j C h1 i F;go_enter Tryz.func136,Tryz.ntmps136;go_upto_region 1 with fail
 refine An (λu=>Aa (Fw w u ⟨Z (K ⟨b,y,M⟩) p.a7 c1,vk,A,B⟩ g f op q z c)) L ?_;rintro U a;clear L;have I:=a.o.sb.cell 0;have G:=a.o.ib.cell 1;have H:=a.o.ib.cell 2;simp only[kL,jt,kI]at I G H;have S:=AS a.o.gG s;have W:=AS a.o.gG T;have inst:=Av.some U;have J0:= λn:Av U=>Av.cell I n
 have J1:= λn:Av U=>Av.cell G n
 have J2:= λn:Av U=>Av.cell H n
 have J3:= λn:Av U=>Av.cell S n
 have J4:= λn:Av U=>Av.cell W n
 clear s T;go_wp2_with fail;refine AL kR kR ?_;repeat(go_big_quiet_step (fail))
 refine wpQuiet_nil ?_;rintro aq ⟨n',rfl⟩;have HE:Aa (Ad w w n'.u):=Ai a.o.gG lR n'.h;clear J0 J1 J2 J3 J4 inst I G H S W;go_wp2_with fail;go_ret;exact⟨rfl,HE.o⟩
theorem Pe(g:VF)(f:MF)(w:Y):Ae Tryz.prog 137 #[.agg #[g.p,Ac Ab f.gz,g.l,g.c]] w (Dp w (AV f)):=by
 have e:Aa (Ar (w.alloc (.cells #[g.p,Ac Ab f.gz,g.l,g.c] 51)) w #[g.p,Ac Ab f.gz,g.l,g.c] 51/\Ad w w (w.alloc (.cells #[g.p,Ac Ab f.gz,g.l,g.c] 51))):=⟨Ar.new _ _ _,Ag _ _⟩
 by_cases a:f.gz=0
 . (have j:(f.gz==0)=true:=by simpa using a);(have h:Aa (AV f=[]):=by unfold AV;rw[lS a];exact rfl);rw[h.o];clear a;go_enter Tryz.func137,Tryz.ntmps137;(go_upto_region 1 with fail);refine An (λu=>Aa (Ar u w #[g.p,Ac Ab f.gz,g.l,g.c] 51/\Ad w w u)) e ?_
   rintro U b;clear e;have i:=b.o.1.cell 1;simp only[kL,jt,kI]at i;go_wp2_with fail;go_ret;exact RE b.o.2
 have j:(f.gz==0)=false:=by simpa using a
 have h:Aa (AV f=[f.gz]):=by unfold AV;rw[lE a];exact rfl
 rw[h.o];clear a;go_enter Tryz.func137,Tryz.ntmps137;go_upto_region 1 with fail
 refine An (λu=>Aa (Ar u w #[g.p,Ac Ab f.gz,g.l,g.c] 51/\Ad w w u)) e ?_
 rintro U b;clear e;have i:=b.o.1.cell 1;simp only[kL,jt,kI]at i;go_wp2_with fail;go_ret;exact EO b.o.2 [f.gz] 1 1 rfl
theorem KI(v:VP)(p:MP)(g:VF)(f:MF)(op a b c:Int)(w:Y)(hs:f.small)(G:Cz w v p)(I:Dt w g f)(O:op=27->∃q:Nat,a=q/\(f.d5++f.en)[q]?=K (Ay f a)):
 Ae Tryz.prog 107 #[.agg #[v.r,v.k,v.f,v.t,g.p,Ac Ab f.gz,g.l,g.c],.agg #[Ac Ab op,Ac Ab a,Ac Ab b,Ac Ab c]] w λe w'=>AC e (¬(op=27/\Ay f a≠3))/\Ad w w w':=by
 obtain⟨B,C,X⟩:=(show∃a c,v.r=Z a p.a7 c from by obtain⟨_,_,h2,_⟩:=G.a7;exact h2.fu);obtain⟨z,A,W⟩:=G.aC.fu;obtain⟨D,E,et⟩:=G.dr.fu;obtain⟨f1,f3,R⟩:=(show∃a c,v.f=Z a p.cC c from by obtain⟨_,_,h2,_⟩:=G.cC;exact h2.fu);obtain⟨i,j,S⟩:=I.1.fu;obtain⟨m,n,T⟩:=I.2.1.fu;obtain⟨s,y,V⟩:=I.2.2.fu;obtain⟨gp,gl,gc⟩:=g;obtain⟨vr,vk,vf,vt⟩:=v;simp only[]at X W et R S T V;subst X W et R S T V;have HP:Aa (Cz w ⟨Z B p.a7 C,Z z p.aC A,Z f1 p.cC f3,Z D p.dr E⟩ p):=G;have HR:Aa (Dt w ⟨Z i f.d5 j,Z m f.en n,Z s f.ch y⟩ f):=I;clear G I;have L:Aa (Fw w ((w.alloc (.cells #[Z B p.a7 C,Z z p.aC A,Z f1 p.cC f3,Z D p.dr E,Z i f.d5 j,Ac Ab f.gz,Z m f.en n,Z s f.ch y] 53)).alloc (.cells #[Ac Ab op,Ac Ab a,Ac Ab b,Ac Ab c] 60)) ⟨Z B p.a7 C,Z z p.aC A,Z f1 p.cC f3,Z D p.dr E⟩ ⟨Z i f.d5 j,Z m f.en n,Z s f.ch y⟩ f op a b c):=Fw.of w ⟨Z B p.a7 C,Z z p.aC A,Z f1 p.cC f3,Z D p.dr E⟩ ⟨Z i f.d5 j,Z m f.en n,Z s f.ch y⟩ f op a b c;by_cases H:op=27
 . obtain⟨q,rfl,hq⟩:=O H;subst H;have HQ:Aa ((f.d5++f.en)[q]?=K (Ay f q)):=hq;clear O hq;go_enter Tryz.func107,Tryz.ntmps107;(go_upto_region 1 with fail);refine An (λu=>Aa (Fw w u ⟨Z B p.a7 C,Z z p.aC A,Z f1 p.cC f3,Z D p.dr E⟩ ⟨Z i f.d5 j,Z m f.en n,Z s f.ch y⟩ f 27 q b c)) L ?_;rintro U h;clear L;have P:=h.o.ib.cell 0;have i1:=h.o.ib.cell 1;have s0:=h.o.sb.cell 0;have s1:=h.o.sb.cell 1;have s2:=h.o.sb.cell 2;have s3:=h.o.sb.cell 3;have s4:=h.o.sb.cell 4;have s5:=h.o.sb.cell 5;have s6:=h.o.sb.cell 6;have s7:=h.o.sb.cell 7;simp only[kL,jt,kI]at P i1 s0 s1 s2 s3 s4 s5 s6 s7;go_wp2_with fail;refine(He ⟨Z B p.a7 C,Z z p.aC A,Z f1 p.cC f3,Z D p.dr E⟩ ⟨Z i f.d5 j,Z m f.en n,Z s f.ch y⟩ f q (Ay f q) U hs (HR.o.bM h.o.gG lR) HQ.o).mono ?_;rintro e u1 ⟨rfl,b1⟩;have Q:Aa (Ad w w u1):=Ai h.o.gG lR b1;by_cases F:Ay f q=3
   . (have ae:(Ay f q==3)=true:=by simpa using F);have N:Aa (Ay f q=3):=F;clear F;go_wp2_with fail;go_ret;exact⟨⟨true,rfl, λ_ e=>e.2 N.o, λ_=>rfl⟩,Q.o⟩
   (have ae:(Ay f q==3)=false:=by simpa using F);have N:Aa (¬Ay f q=3):=F;clear F;go_wp2_with fail;go_ret;exact⟨.no (λe=>e ⟨by trivial,N.o⟩),Q.o⟩
 have ah:(op != 27)=true:=by simpa using H
 have a8:Aa (¬op=27):=H;clear H O;go_enter Tryz.func107,Tryz.ntmps107;go_upto_region 1 with fail
 refine An (λu=>Aa (Fw w u ⟨Z B p.a7 C,Z z p.aC A,Z f1 p.cC f3,Z D p.dr E⟩ ⟨Z i f.d5 j,Z m f.en n,Z s f.ch y⟩ f op a b c)) L ?_;rintro U h;clear L;have P:=h.o.ib.cell 0;simp only[kL,jt]at P;go_wp2_with fail;go_ret;exact⟨⟨true,rfl, λ_ e=>a8.o e.1, λ_=>rfl⟩,h.o.gG⟩
theorem GS.ncr{e:Nat}(h:GS w u s k p left b e D):∃a n c,u.cell? ⟨k.Gb,1,M⟩=K (.pointer (K ⟨k.P,0,M⟩))/\u.cell? ⟨k.P,3,M⟩=K (Z a n c)/\u.cell? ⟨k.Gb,5,M⟩=K (iZ b)/\n<=e/\(n<=63->GS w u s k p left b 63 D):=by obtain⟨v,m,g,h1,h2⟩:=h.ex;obtain⟨⟨q,c1,r,c2,t,c3,i,c4,j⟩,_⟩:=h1.bl.gY;have f:=h1.ia.2.2.2;rw[j]at f;exact⟨i,_,c4,h1.cells.2.1,f,h1.cells.2.2.2.2.2,h2.nt, λl=>⟨h.ok,v,m,g,h1,{h2 with nt:=l}⟩⟩
theorem Yb{C:Int}{deep:Int}(N:Aa (Wj (left-1)))(E:Aa (GS w u s k p left C 64 D))(hl:30<left)(aE:0<=C/\C<=3)(hd:deep<=2)(aD:left-2000<=deep)(hp:p+15001*(left+30000)<=900000015001):
 Ae Tryz.prog 80 #[.pointer (K ⟨k.Gb,0,M⟩),iZ deep] u (Xz w s k p left C D):=by
 have aF:=E.o.le;have l:=Ap Tq;obtain⟨_,_,q0,_⟩:=E.o.cells;have aH:IntKind.i64.wrap (deep-1)=deep-1:=mY _ ⟨oM,oM⟩;go_enter Tryz.func80,Tryz.ntmps80;go_wp2_with fail;refine(QF E).mono ?_;rintro e u ⟨r1,rfl,h1,E⟩;clear q0;go_wp2_with fail;refine(QF E).mono ?_;rintro e u ⟨r,rfl,hr,E⟩;obtain⟨t,ht⟩:∃t,1+r1=t:=⟨_,rfl⟩;have aG:1<=t/\t<=3:=oM
 rcases(show r=0\/r=1\/r=2\/r=3\/r=4\/r=5\/r=6\/r=7\/r=8 from oM)with rfl|rfl|rfl|rfl|rfl|rfl|rfl|rfl|rfl
 iterate 2
  focus
   go_wp2_with fail;refine(QF E).mono ?_;rintro e u ⟨H,rfl,h3,E⟩;obtain⟨q,hq⟩:∃q:Nat,1+H=(q:Int):=⟨(1+H).toNat,oM⟩;have aq:(q:Int)<3:=oM;obtain⟨gr,cr,a,n,c,d0,d1,d2,O,_⟩:=VE E (show q<3 from oM);go_wp2_with fail;refine(O.o t).mono ?_;rintro e u ⟨r,p1,rfl,rfl|⟨b,rfl,f⟩,ae,E⟩;(case inl=>exact gE);have U:(b:Int)>=0:=oM;go_wp2_with fail;refine(NN l E).mono ?_;rintro e u ⟨rfl,_,_,_,E⟩;go_wp2_with fail;refine(FO E (ok3 E.o.ok f)).mono ?_;rintro e u ⟨n,rfl,_,E⟩;exact gE
 focus
  go_wp2_with fail;refine(XV E).mono ?_;rintro e u ⟨a,n,c,rfl,E,O⟩;go_wp2_with fail;refine(O.o t).mono ?_;rintro e u ⟨r,p1,rfl,rfl|⟨b,rfl,f⟩,ae,E⟩;case inl=>exact gE
  have U:(b:Int)>=0:=oM;go_wp2_with fail;refine(NN l E).mono ?_;rintro e u ⟨rfl,_,_,_,E⟩;go_wp2_with fail;refine(FO E (YN E.o.ok f)).mono ?_;rintro e u ⟨n,rfl,_,E⟩;exact gE
 focus
  go_wp2_with fail;refine(QF E).mono ?_;rintro e u ⟨H,rfl,h3,E⟩;obtain⟨q,hq⟩:∃q:Nat,1+H=(q:Int):=⟨(1+H).toNat,oM⟩;have aq:(q:Int)<3:=oM;obtain⟨gr,cr,a,n,c,d0,d1,d2,_,HM⟩:=VE E (show q<3 from oM);go_wp2_with fail;refine(HM.o t).mono ?_;rintro e u ⟨r,m',p1,rfl,rfl|⟨b,m,rfl,rfl,hm⟩,ae,E⟩;case inl=>exact gE
  have U:(b:Int)>=0:=oM;iterate 2
   go_wp2_with fail;refine(NN l E).mono ?_;rintro e u ⟨rfl,_,_,_,E⟩
  go_wp2_with fail;refine(FO E (ok4 E.o.ok hm.2 hm.1)).mono ?_;rintro e u ⟨n,rfl,_,E⟩;exact gE
 focus
  go_wp2_with fail;refine(NN l E).mono ?_;rintro e u ⟨rfl,p3,l3,b3,E⟩;go_wp2_with fail;refine(VA E XZ (.inl kR)).mono ?_;rintro e u ⟨n4,rfl,I,E⟩;clear I;have E:=Ap E.o.gs;go_wp2_with fail;refine(Yj N E).mono ?_;rintro e u ⟨rfl,L,g,f,E⟩;have gl:(15001*g+L<=p3+15001+15001*(l3-1))/\93-3*left<=g/\g<=l3-1/\p3<=L:=by
   by_cases V:l3-1<=30
   . have:=f.2.2.2.1 V;omega
   have:=f.2.2.2.2 oM;omega
  clear f;go_wp2_with fail;refine(VA E XZ (.inl kR)).mono ?_;rintro e u6 ⟨n6,rfl,I,E⟩;clear I;have E:=Ap E.o.gs;have am:=E.o.le;simp only[]at am;obtain⟨y,R,d,B,ao,G,⟨au,F⟩,z3,i⟩:=(E.o.bM (Aj _)).ix (j:=n4) sP oM;simp only[]at G;have E:=Ap i;have a8:(n4:Int)<(d:Int):=oM;have X:(d:Int)<=1000000:=by simp only[]at B;omega
  clear i B;go_upto_region 27 with fail
  refine AF 12 (S:= λW=>W.cell? ⟨k.Gb,3,M⟩=K (sG y d R)) kR G (λz=> ?_);generalize u6.drew=Q at F z3 E z⊢;refine AW 0 ?_;refine AW 1 ?_;refine AW 2 ?_;refine AW 3 ?_;refine AW 4 ?_;refine AW 5 ?_;refine AW 6 ?_;refine AW 7 ?_;refine AW 8 ?_;refine AW 9 ?_;refine AW 10 ?_;refine AW 11 ?_;refine DD 12 ?_;intro P A;go_simp;refine A.o _ _ (λh=>absurd h dC) (λT=> ?_);clear A P T z;refine A5 kR ?_ _;go_simp;clear F z3 a8 X;generalize Q.setCell ⟨y,n4*4+3,M⟩ (iZ (d:Int))=W7 at E⊢;go_wp2_with fail;refine(Yj N E).mono ?_;rintro e u8 ⟨rfl,p8,l8,f,E⟩;have gl:(15001*l8+p8<=L+15001+15001*(g-1))/\90-3*left<=l8/\l8<=g-1/\L<=p8:=by
   by_cases V:g-1<=30
   . have:=f.2.2.2.1 V;omega
   have:=f.2.2.2.2 oM;omega
  clear f;obtain⟨y,R,d,B,ao,G,⟨au,F⟩,z3,i⟩:=(E.o.bM (Aj _)).ix (j:=n6) sP oM;simp only[]at G;have E:=Ap i;have a8:(n6:Int)<(d:Int):=oM;have X:(d:Int)<=1000000:=by simp only[]at B;omega
  clear i B;go_upto_region 29 with fail
  refine AF 12 (S:= λW=>W.cell? ⟨k.Gb,3,M⟩=K (sG y d R)) kR G (λz=> ?_);generalize u8.drew=Q at F z3 E z⊢;refine AW 0 ?_;refine AW 1 ?_;refine AW 2 ?_;refine AW 3 ?_;refine AW 4 ?_;refine AW 5 ?_;refine AW 6 ?_;refine AW 7 ?_;refine AW 8 ?_;refine AW 9 ?_;refine AW 10 ?_;refine AW 11 ?_;refine DD 12 ?_;intro P A;go_simp;refine A.o _ _ (λh=>absurd h dC) (λT=> ?_);clear A P T z;refine A5 kR ?_ _;go_simp;clear F z3 a8 X;generalize Q.setCell ⟨y,n6*4+3,M⟩ (iZ (d:Int))=W9 at E⊢;have E:=Ap (E.o.back (λj hj=>by simp[hj]));exact gE
 iterate 2
  focus
   obtain⟨a,n,c,y1,y3,y5,I,ah⟩:=E.o.ncr;have aj:=Ap ah;clear ah;by_cases c3:C<3;(case neg=>exact gE);by_cases c0:deep>0;(case neg=>exact gE);by_cases c6:n<64;(case neg=>have aA:¬(n:Int)<64:=oM;exact gE);have aw:(n:Int)<64:=oM;have E:=Ap (aj.o oM);go_wp2_with fail;refine(XW N E hl oM oM oM oM).mono ?_;rintro e u ⟨rfl,_,_,_,E⟩;exact gE
 focus
  go_wp2_with fail;refine(XK E).mono ?_;rintro e u ⟨r,p1,rfl,rfl|⟨b,rfl,f⟩,ae,E⟩;case inl=>exact gE
  have U:(b:Int)>=0:=oM;go_wp2_with fail;refine(VY (Ap Qd) E f).mono ?_;rintro e u ⟨rfl,_,_,_,E⟩;exact gE
 go_wp2_with fail;refine(NN l E).mono ?_;rintro e u ⟨rfl,_,_,_,E⟩;go_wp2_with fail;refine(FO E XX).mono ?_;rintro e u ⟨n,rfl,_,E⟩;exact gE
theorem UV(m:Int)(l:∀n,n<=m-1->Wj n):Wj m:=by
 intro w u s k p left B D deep E T S z O P U;have V:=E.o.le;have r:=Ap l;obtain⟨_,_,F,_⟩:=E.o.cells;clear l;go_enter Tryz.func46,Tryz.ntmps46;go_wp2_with fail;refine(QF E).mono ?_;rintro e u ⟨I,rfl,h1,E⟩;clear F;go_wp2_with fail;go_loopw [4] (λi wr=>∃(j:Nat) (g b:Int),i=iZ (j:Int)/\j<=3/\(p<=g/\g<=p+1+5000*(3-(j:Int))+15001*(left-b)/\b<=left)/\Aa ((left<=30->b=left)/\(30<left->90-3*left<=b))/\Aa (GS w wr s k g b B 64 D)) (λi _=>(intOf i).toNat)
 case atStart=>exact⟨(1+I).toNat,p+1,left,by show _=_;congr 1;omega,oM,oM,⟨λ_=>rfl, λ_=>oM⟩,E⟩
 obtain⟨j,q,a,rfl,Q,N,G,E⟩:=hrel;obtain⟨_,_,_,_,_,_,H,_⟩:=E.o.cells;by_cases y:j=0;case pos=>subst y;go_wp2_with fail;refine oR (v:=.tuple #[]) kR rfl ?_;exact⟨rfl,q,a,⟨oM,oM,oM,G.o⟩,E⟩
 have R:(j:Int)>0:=oM;by_cases h:a>30;case neg=>
  have t:decide (a>30)=false:=by simpa using h
  go_wp2_with fail;refine oR (v:=.tuple #[]) kR rfl ?_;exact⟨rfl,q,a,⟨oM,oM,oM,G.o⟩,E⟩
 have t:decide (a>30)=true:=by simpa using h
 go_wp2_with fail;refine(Yb (Ap (r.o (a-1) oM)) E oM z oM oM oM).mono ?_;rintro e W ⟨rfl,C,A,L,E⟩;clear H;obtain⟨f,rfl⟩:∃f,j=f+1:=⟨j-1,oM⟩;go_wp2_with fail;go_roundw;case rel=>exact⟨f,C,A,by go_num,oM,oM,⟨λe=>absurd e oM, λ_=>oM⟩,E⟩
 simp[intOf]
theorem OJ:∀m:Int,Wj m:=by
 have f:∀n:Nat,∀m:Int,m<=(n:Int)-100000->Wj m:=by
  intro n;induction n with
  |zero=>intro m b w u s k p left l D deep h i a;exact absurd a oM
  |succ n e=>intro m b;exact UV m λg j=>e g oM
 intro m;exact f (m+100000).toNat m oM
end Go.Proofs.YtjnglocdoljgkaaGreat
