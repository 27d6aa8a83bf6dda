import Derived.Test.YtmalfecapdmdbaaGreatHo12
import Derived.BigRegion
namespace Go.Proofs.YtmalfecapdmdbaaGreat
open Go.ChangeShapes Go.WideShapes Go.ChangeAt Go.RowKit Go.Proofs.Tryz
set_option linter.unusedVariables false
open Go.Value renaming slice → Z,int → Ag,agg → Am
open Option renaming some → K,none → M
open Go renaming Value → J,World → Y,Calls → Ai,TypeId → Aj
open Go.RowKit renaming Hid → Ae,Below → Ah
open Go.Proofs.Tryz renaming prog → Ap
open List renaming flatMap → Ad
set_option maxHeartbeats 4000000
set_option maxRecDepth 100000
variable {c:MT}{xs:List MI}{m:MB}{x:MI}{e:Nat}{q:Prop}
theorem Cu{w:Y}{b:Nat}{t:Aj}{a0 a c d:J}(h:AC w b #[a0,a,c,d] t):w.cell? b=K a0/\w.cell? ⟨b,1,M⟩=K a/\w.cell? ⟨b,2,M⟩=K c/\w.cell? ⟨b,3,M⟩=K d:=⟨h.cell 0,h.cell 1,h.cell 2,h.cell 3⟩
theorem Bl.ku{a:List MC}(h:Gw xs m-1<m.gH):¬Bl a xs m c:= λe=>by have:=e.1;omega
theorem Bl.iff{h:List MC}{k:Nat}{y:MI}(n:Gw xs m=((k+1:Nat):Int))(r:m.gH<=(k:Int))(p:xs[k]?=K x)(q:xs[k+1]?=K y):Bl h xs m c↔x.op=1/\y.op=3/\y.a=c.gI/\∃v,h[x.a.toNat]?=K v/\v.type=3/\v.word=c.init:=by
 have i:(((k+1:Nat):Int)-1).toNat=k:=oM;unfold Bl;rw[n,i,kA,p,q];constructor
 . rintro⟨_,s,t,v,j,l,b,d,e,f,g⟩;(cases j);(cases l);exact⟨b,d,e,v,f,g⟩
 rintro⟨b,d,e,v,f,g⟩;exact⟨oM,x,y,v,rfl,rfl,b,d,e,f,g⟩
theorem MY(h:m.last=(e:Int))(a:xs[e]?=K x)(q:x.op=25):Gw xs m=(e:Int)-1:=by unfold Gw;rw[h,kA,a];simp only[q,if_true]
theorem MX(h:m.last=(e:Int))(a:xs[e]?=K x)(q:¬x.op=25):Gw xs m=(e:Int):=by unfold Gw;rw[h,kA,a];simp only[q,if_false]
theorem Qx{q:Prop}(h:q:=by
 obtain⟨r0,r1,r2,r3⟩:=Cu HU.o.1;obtain⟨t0,t1,t2,t3⟩:=Cu HU.o.2.1;obtain⟨x1',v0,v1⟩:=HU.o.2.2.2;have n1:¬g=U2.heap.size:=mA (hC x1');have n2:g<U2.heap.size:=hC x1';have n3:¬gk=U2.heap.size:=mA (hC v0);have n4:gk<U2.heap.size:=hC v0;have n5:¬(w:Nat)=U2.heap.size:=mA (hC r0);have n6:(w:Nat)<U2.heap.size:=hC r0;have n7:¬(w:Nat)+1+1=U2.heap.size:=mA (hC t0);have n8:(w:Nat)+1+1<U2.heap.size:=hC t0;go_region;refine AX (λu=>Ae (AC u U2 #[iZ vv.type,Ag .u32 vv.word] 94/\AC u ((w:Nat)+1+1) #[iZ c.func,iZ c.head,iZ c.gI,Ag .u32 c.init] 88/\Ah w w u)) ⟨(AC.new U2 _ _).a7 (At _),(HU.o.2.1.a7 (Aq _ _)).a7 (At _),Ar (Ar HU.o.2.2.1 lR (Aq _ _)) lR (At _)⟩ ?_
 rintro U3 HU3;clear r0 r1 r2 r3 t0 t1 t2 t3 x1' v0 v1 n1 n2 n3 n4 n5 n6 n7 n8;have v0:=HU3.o.1.cell 0;have v1:=HU3.o.1.cell 1;obtain⟨t0,t1,t2,t3⟩:=Cu HU3.o.2.1;clear HU;by_cases s1:vv.type=3;case neg=>go_wp2;go_ret;exact⟨.no (λe=>by obtain⟨v',h1,h2,_⟩:=(HI.o.1 e).2.2.2;rw[HV.o,kA,HVV.o]at h1;cases h1;exact s1 h2),HU3.o.2.2⟩
 case pos=>have HS1:=Av s1;rw[s1]at v0;clear s1;go_wp2;go_ret;exact⟨.of ⟨λe=>HI.o.2 ⟨HZ3.o,HZ1.o,HZ2.o,vv,by rw[HV.o,kA];exact HVV.o,HS1.o,by simpa using e⟩, λe=>by obtain⟨v',h1,h2,h3⟩:=(HI.o.1 e).2.2.2;rw[HV.o,kA,HVV.o]at h1;cases h1;simpa using h3⟩,HU3.o.2.2⟩):q:=h
theorem Qy(h:q:=by go_wp2_with fail;go_quiet (fail);go_wp2;go_ret;exact⟨.no (Bl.ku (by rw[HQ.o,HM.o];omega)),Ar HE.o.2.2.2 lR (Az _ _ _)⟩):q:=h
theorem Qz(h:q:=by go_wp2_with fail;go_quiet (fail);go_wp2;go_ret;exact⟨.no (λe=>z2 (HI.o.1 e).2.2.1),Ar HE.o.2.2.2 lR (Az _ _ _)⟩):q:=h
theorem QA(h:q:=by go_wp2_with fail;go_quiet (fail);go_wp2;go_ret;exact⟨.no (λe=>z1 (HI.o.1 e).2.1),Ar HE.o.2.2.2 lR (Az _ _ _)⟩):q:=h
theorem QB(h:q:=by go_wp2_with fail;go_quiet (fail);go_wp2;go_ret;exact⟨.no (λe=>z3 (HI.o.1 e).1),Ar HE.o.2.2.2 lR (Az _ _ _)⟩):q:=h
theorem Lw(v:VP)(p:MP)(s vn:J)(xs:List MI)(m:MB)(c:MT)(w:Y)(hs:p.small)(h:Da w v p)(hn:xs.length<=1048576)(hr:Rd w 4 s xs (Ad MI.cells xs))
 (E:∀x∈xs,x.op=1->0<=x.a/\x.a.toNat< ↑p.ej) (hm:∃a e:Nat,m.gH=(a:Int)/\m.last=(e:Int)/\a<=e/\e< ↑xs):
 Ai Ap 69 #[Am #[v.r,v.k,v.f,v.t],s,Am #[iZ m.gH,iZ m.last,vn],Am #[iZ c.func,iZ c.head,iZ c.gI,Ag .u32 c.init]] w λe w'=>AJ e (Bl p.ej xs m c)/\Ah w w w':=by
 obtain⟨a,e,N,V,aA,aj⟩:=hm;have HS:Ae (Gw xs m=Gw xs ⟨a,e,m.next⟩/\(Bl p.ej xs m c↔Bl p.ej xs ⟨a,e,m.next⟩ c)):=by obtain⟨mf,ml,mn⟩:=m;simp only[]at N V;subst N V;exact⟨rfl,Iff.rfl⟩
 obtain⟨X,vk,W,vt⟩:=v;have I:=Av (d5 h.ej E);have aw:=hs.ej;obtain⟨a1,c1,j⟩:∃a c,vk=Z a p.ej c:=h.ej.dk;obtain⟨a2,c2,rfl⟩:=hr.dk;subst j;have HR:=Av hr;clear h hs hr E;rw[N,V];have E0:=Ge w #[X,Z a1 p.ej c1,W,vt] #[iZ (a:Int),iZ (e:Int),vn] #[iZ c.func,iZ c.head,iZ c.gI,Ag .u32 c.init] 36 126 88;have au:m.gH=(a:Int):=N;clear N V;generalize ao:xs.length=n at hn aj HR⊢;have R:=Av ao;generalize am:p.ej.length=nk at aw I E0⊢;have ah:=Av am;clear ao am;go_enter func69,ntmps69;go_upto_region 1 with fail
 refine Ax (λu=>Ae (AC u w #[X,Z a1 nk c1,W,vt] 36/\AC u ((w:Nat)+1) #[iZ (a:Int),iZ (e:Int),vn] 126/\AC u ((w:Nat)+1+1) #[iZ c.func,iZ c.head,iZ c.gI,Ag .u32 c.init] 88/\Ah w w u)) E0 ?_
 rintro U HE;clear E0;obtain⟨x0,aq⟩:∃x,xs[e]?=K x:=⟨_,an (by rw[R.o];exact aj)⟩;obtain⟨b0,b1,b2⟩:=Cl HE.o.2.1;have S:=Av aq;rcases HR.o.2 with⟨e0,_⟩|⟨g,o,cc,j,ae⟩
 . omega
 simp only[i8,lB]at j;obtain⟨rfl,rfl⟩:=j;have G:Ae (∀(k:Nat) (x:MI),xs[k]?=K x->U.cell? ⟨g,o+k*4,M⟩=K (iZ x.op)/\U.cell? ⟨g,o+k*4+1,M⟩=K (iZ x.a)):= λk x i=>by have D:=Rd.elem MI.dr ae k x i 0 _ rfl;have F:=Rd.elem MI.dr ae k x i 1 _ rfl;rw[<-HE.o.2.2.2.cell (hC D),kJ]at D;rw[<-HE.o.2.2.2.cell (hC F)]at F;exact⟨D,F⟩
 clear ae aq;obtain⟨D,F⟩:=G.o e x0 S.o;have HM:=Av au;by_cases q:x0.op=25
 . have HQ:Ae (Gw xs m=(e:Int)-1):=HS.o.1.trans (MY rfl S.o q);rw[q]at D;clear q;by_cases f:e<a+2
   . have w1:IntKind.i64.wrap ((e:Int)-1)=(e:Int)-1:=nA _ ⟨oM,oM⟩;have w2:IntKind.i64.wrap ((e:Int)-1-1)=(e:Int)-1-1:=nA _ ⟨oM,oM⟩;have w3:IntKind.i64.wrap ((e:Int)-2)=(e:Int)-2:=nA _ ⟨oM,oM⟩;have f1:(e:Int)-1-1<(a:Int):=oM;have f2:(e:Int)-2<(a:Int):=oM;exact Qy
   obtain⟨k,E⟩:∃k,e=k+1+1:=⟨e-2,oM⟩;obtain⟨d,T⟩:∃d,d=k+1:=⟨_,rfl⟩;have H:=Av T;(have HQ:Ae (Gw xs m=((k+1:Nat):Int)):=by have:=HQ.o;show Gw xs m=_;omega);have f1:¬(k:Int)<(a:Int):=oM;have f3:¬k<a:=oM;have f4:d<n:=oM;have f5:k<n:=oM;(have w1:IntKind.i64.wrap ((e:Int)-1)=(d:Int):=by rw[nA _ ⟨oM,oM⟩];omega);(have wk:IntKind.i64.wrap ((d:Int)-1)=(k:Int):=by rw[nA _ ⟨oM,oM⟩];omega);clear E T f;obtain⟨y,C⟩:∃y,xs[d]?=K y:=⟨_,an (by rw[R.o];omega)⟩;obtain⟨x,i⟩:∃x,xs[k]?=K x:=⟨_,an (by rw[R.o];omega)⟩;have HI:Ae (Bl p.ej xs m c↔x.op=1/\y.op=3/\y.a=c.gI/\∃v,p.ej[x.a.toNat]?=K v/\v.type=3/\v.word=c.init):=Bl.iff (by first|exact HQ.o|(rw[HQ.o,H.o])) (by rw[HM.o];omega) i (by rw[<-H.o];exact C)
   obtain⟨P,Q⟩:=G.o d y C;obtain⟨O,x1'⟩:=G.o k x i;have HX:=Av (i7 i);clear i C;obtain⟨t0,t1,t2,t3⟩:=Cu HE.o.2.2.1;by_cases z1:y.op=3;(case neg=>exact QA);case pos=>
    rw[z1]at P;have HZ1:=Av z1;clear z1;by_cases z2:y.a=c.gI;(case neg=>exact Qz);case pos=>
     rw[z2]at Q;have HZ2:=Av z2;clear z2;by_cases z3:x.op=1;(case neg=>exact QB);case pos=>
      rw[z3]at O;have HZ3:=Av z3;clear z3;go_wp2_with fail;go_quiet (fail);go_wp2_with fail;obtain⟨L,B⟩:=I.o.2 x HX.o HZ3.o;obtain⟨b,A⟩:=kX L;rw[A]at x1' B;have HV:=Av A;rw[kA]at B;obtain⟨vv,l⟩:∃vv,p.ej[b]?=K vv:=⟨_,an (by rw[ah.o];exact B)⟩;rcases I.o.1.2 with⟨e0,_⟩|⟨gk,ok,ck,j,z⟩
      . omega
      simp only[i8,lB]at j;obtain⟨rfl,rfl⟩:=j;have v0:=Rd.elem MC.dr z b vv l 0 _ rfl;have v1:=Rd.elem MC.dr z b vv l 1 _ rfl;rw[<-HE.o.2.2.2.cell (hC v0),kJ]at v0;rw[<-HE.o.2.2.2.cell (hC v1)]at v1;have HVV:=Av l;clear z l A L;refine Ax (λu=>Ae (AC u w #[X,sO gk ok nk c1,W,vt] 36/\AC u ((w:Nat)+1+1) #[iZ c.func,iZ c.head,iZ c.gI,Ag .u32 c.init] 88/\Ah w w u/\u.cell? ⟨g,o+k*4+1,M⟩=K (iZ (b:Int))/\u.cell? ⟨gk,ok+b*2,M⟩=K (iZ vv.type)/\u.cell? ⟨gk,ok+b*2+1,M⟩=K (Ag .u32 vv.word))) ⟨HE.o.1.a7 (Az _ _ _),HE.o.2.2.1.a7 (Az _ _ _),Ar HE.o.2.2.2 lR (Az _ _ _),by simpa using x1',by simpa using v0,by simpa using v1⟩ ?_
      rintro U2 HU;clear v0 v1 x1' O P Q t0 t1 t2 t3 b0 b1 b2 D F;exact Qx
 have HQ:Ae (Gw xs m=(e:Int)):=HS.o.1.trans (MX rfl S.o q);by_cases f:e<a+1
 . have f1:(e:Int)-1<(a:Int):=oM;exact Qy
 obtain⟨k,E⟩:∃k,e=k+1:=⟨e-1,oM⟩;obtain⟨d,T⟩:∃d,d=e:=⟨_,rfl⟩;have H:Ae (d=k+1):=by show d=_;omega
 have HQ:Ae (Gw xs m=((k+1:Nat):Int)):=by have:=HQ.o;show Gw xs m=_;omega
 have f1:¬(k:Int)<(a:Int):=oM;have f3:¬k<a:=oM;have f4:d<n:=oM;have f5:k<n:=oM;have wk:IntKind.i64.wrap ((d:Int)-1)=(k:Int):=by rw[nA _ ⟨oM,oM⟩];omega
 clear E f;subst T;obtain⟨y,C,q⟩:∃y,xs[d]?=K y/\¬y.op=25:=⟨x0,S.o,q⟩
 clear D F;obtain⟨x,i⟩:∃x,xs[k]?=K x:=⟨_,an (by rw[R.o];omega)⟩;have HI:Ae (Bl p.ej xs m c↔x.op=1/\y.op=3/\y.a=c.gI/\∃v,p.ej[x.a.toNat]?=K v/\v.type=3/\v.word=c.init):=Bl.iff (by first|exact HQ.o|(rw[HQ.o,H.o])) (by rw[HM.o];omega) i (by rw[<-H.o];exact C)
 obtain⟨P,Q⟩:=G.o d y C;obtain⟨O,x1'⟩:=G.o k x i;have HX:=Av (i7 i);clear i C;obtain⟨t0,t1,t2,t3⟩:=Cu HE.o.2.2.1;by_cases z1:y.op=3;case neg=>exact QA
 case pos=>
  rw[z1]at P;have HZ1:=Av z1;clear z1;by_cases z2:y.a=c.gI;case neg=>exact Qz
  case pos=>
   rw[z2]at Q;have HZ2:=Av z2;clear z2;by_cases z3:x.op=1;(case neg=>exact QB);case pos=>
    rw[z3]at O;have HZ3:=Av z3;clear z3;go_wp2_with fail;go_quiet (fail);go_wp2_with fail;obtain⟨L,B⟩:=I.o.2 x HX.o HZ3.o;obtain⟨b,A⟩:=kX L;rw[A]at x1' B;have HV:=Av A;rw[kA]at B;obtain⟨vv,l⟩:∃vv,p.ej[b]?=K vv:=⟨_,an (by rw[ah.o];exact B)⟩;rcases I.o.1.2 with⟨e0,_⟩|⟨gk,ok,ck,j,z⟩
    . omega
    simp only[i8,lB]at j;obtain⟨rfl,rfl⟩:=j;have v0:=Rd.elem MC.dr z b vv l 0 _ rfl;have v1:=Rd.elem MC.dr z b vv l 1 _ rfl;rw[<-HE.o.2.2.2.cell (hC v0),kJ]at v0;rw[<-HE.o.2.2.2.cell (hC v1)]at v1;have HVV:=Av l;clear z l A L;refine Ax (λu=>Ae (AC u w #[X,sO gk ok nk c1,W,vt] 36/\AC u ((w:Nat)+1+1) #[iZ c.func,iZ c.head,iZ c.gI,Ag .u32 c.init] 88/\Ah w w u/\u.cell? ⟨g,o+k*4+1,M⟩=K (iZ (b:Int))/\u.cell? ⟨gk,ok+b*2,M⟩=K (iZ vv.type)/\u.cell? ⟨gk,ok+b*2+1,M⟩=K (Ag .u32 vv.word))) ⟨HE.o.1.a7 (Az _ _ _),HE.o.2.2.1.a7 (Az _ _ _),Ar HE.o.2.2.2 lR (Az _ _ _),by simpa using x1',by simpa using v0,by simpa using v1⟩ ?_
    rintro U2 HU;clear v0 v1 x1' O P Q t0 t1 t2 t3 b0 b1 b2;exact Qx
end Go.Proofs.YtmalfecapdmdbaaGreat
