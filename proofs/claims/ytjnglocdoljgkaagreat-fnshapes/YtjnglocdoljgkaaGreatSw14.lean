import Derived.Test.YtjnglocdoljgkaaGreatSw13
import Derived.BigRegion
namespace Go.Proofs.YtjnglocdoljgkaaGreat
open Go.ChangeShapes Go.WideShapes Go.ChangeAt Go.RowKit
set_option linter.unusedVariables false
open Go.Value renaming slice → Z,int → Ac
open Option renaming some → K,none → M
open Go renaming Value → J,World → Y,Calls → Ae,TypeId → Af
open Go.RowKit renaming Hid → Aa,Below → Ad
open Go.IntKind renaming i64 → Ab
set_option maxHeartbeats 4000000
set_option maxRecDepth 100000
variable {e:Nat}{xs:List MI}{m:MB}{c:MT}{x:MI}{q:Prop}
theorem IX{w:Y}{b:Nat}{t:Af}{a e f g:J}(h:Ar w b #[a,e,f,g] t):w.cell? b=K a/\w.cell? ⟨b,1,M⟩=K e/\w.cell? ⟨b,2,M⟩=K f/\w.cell? ⟨b,3,M⟩=K g:=⟨h.cell 0,h.cell 1,h.cell 2,h.cell 3⟩
theorem C8.few{a:List MC}(h:G7 xs m-1<m.gK):¬C8 a xs m c:= λe=>by have:=e.1;omega
theorem C8.iff{i:List MC}{k:Nat}{y:MI}(l:G7 xs m=((k+1:Nat):Int))(q:m.gK<=(k:Int))(n:xs[k]?=K x)(p:xs[k+1]?=K y):C8 i xs m c↔x.op=1/\y.op=3/\y.a=c.gQ/\∃v,i[x.a.toNat]?=K v/\v.type=3/\v.word=c.init:=by
 have j:(((k+1:Nat):Int)-1).toNat=k:=oM;unfold C8;rw[l,j,kM,n,p];constructor
 . rintro⟨_,x',y',v,h1,h2,b,e,f,g,h⟩;(cases h1);(cases h2);exact⟨b,e,f,v,g,h⟩
 rintro⟨b,e,f,v,g,h⟩;exact⟨oM,x,y,v,rfl,rfl,b,e,f,g,h⟩
theorem Sc(h:m.last=(e:Int))(a:xs[e]?=K x)(q:x.op=25):G7 xs m=(e:Int)-1:=by unfold G7;rw[h,kM,a];simp only[q,if_true]
theorem Sb(h:m.last=(e:Int))(a:xs[e]?=K x)(q:¬x.op=25):G7 xs m=(e:Int):=by unfold G7;rw[h,kM,a];simp only[q,if_false]
theorem PG{q:Prop}(h:q:=by
 obtain⟨r0,r1,r2,r3⟩:=IX HU.o.1;obtain⟨t0,t1,t2,t3⟩:=IX HU.o.2.1;obtain⟨x1',v0,v1⟩:=HU.o.2.2.2;have n1:¬g=U2.heap.size:=mE (jC x1');have n2:g<U2.heap.size:=jC x1';have n3:¬gk=U2.heap.size:=mE (jC v0);have n4:gk<U2.heap.size:=jC v0;have n5:¬(w:Nat)=U2.heap.size:=mE (jC r0);have n6:(w:Nat)<U2.heap.size:=jC r0;have n7:¬(w:Nat)+1+1=U2.heap.size:=mE (jC t0);have n8:(w:Nat)+1+1<U2.heap.size:=jC t0;go_region;refine A3 (λu=>Aa (Ar u U2 #[Ac Ab vv.type,Ac .u32 vv.word] 105/\Ar u ((w:Nat)+1+1) #[Ac Ab c.func,Ac Ab c.head,Ac Ab c.gQ,Ac .u32 c.init] 121/\Ad w w u)) ⟨(Ar.new U2 _ _).bM (Aj _),(HU.o.2.1.bM (Ag _ _)).bM (Aj _),Ai (Ai HU.o.2.2.1 lR (Ag _ _)) lR (Aj _)⟩ ?_
 rintro U3 HU3;clear r0 r1 r2 r3 t0 t1 t2 t3 x1' v0 v1 n1 n2 n3 n4 n5 n6 n7 n8;have v0:=HU3.o.1.cell 0;have v1:=HU3.o.1.cell 1;obtain⟨t0,t1,t2,t3⟩:=IX HU3.o.2.1;clear HU;by_cases s1:vv.type=3;case neg=>go_wp2;go_ret;exact⟨.no (λe=>by obtain⟨v',h1,h2,_⟩:=(HI.o.1 e).2.2.2;rw[HV.o,kM,HVV.o]at h1;cases h1;exact s1 h2),HU3.o.2.2⟩
 case pos=>have HS1:=Ap s1;rw[s1]at v0;clear s1;go_wp2;go_ret;exact⟨.of ⟨λe=>HI.o.2 ⟨HZ3.o,HZ1.o,HZ2.o,vv,by rw[HV.o,kM];exact HVV.o,HS1.o,by simpa using e⟩, λe=>by obtain⟨v',h1,h2,h3⟩:=(HI.o.1 e).2.2.2;rw[HV.o,kM,HVV.o]at h1;cases h1;simpa using h3⟩,HU3.o.2.2⟩):q:=h
theorem PH(h:q:=by go_wp2_with fail;go_quiet (fail);go_wp2;go_ret;exact⟨.no (C8.few (by rw[HQ.o,HM.o];omega)),Ai HE.o.2.2.2 lR (As _ _ _)⟩):q:=h
theorem PJ(h:q:=by go_wp2_with fail;go_quiet (fail);go_wp2;go_ret;exact⟨.no (λe=>z2 (HI.o.1 e).2.2.1),Ai HE.o.2.2.2 lR (As _ _ _)⟩):q:=h
theorem PK(h:q:=by go_wp2_with fail;go_quiet (fail);go_wp2;go_ret;exact⟨.no (λe=>z1 (HI.o.1 e).2.1),Ai HE.o.2.2.2 lR (As _ _ _)⟩):q:=h
theorem PL(h:q:=by go_wp2_with fail;go_quiet (fail);go_wp2;go_ret;exact⟨.no (λe=>z3 (HI.o.1 e).1),Ai HE.o.2.2.2 lR (As _ _ _)⟩):q:=h
theorem KX(v:VP)(p:MP)(s vn:J)(xs:List MI)(m:MB)(c:MT)(w:Y)(hs:p.small)(h:Cz w v p)(hn:xs.length<=1048576)(hr:Rd w 4 s xs (xs.flatMap MI.cells))
 (F:∀x∈xs,x.op=1->0<=x.a/\x.a.toNat< ↑p.aC) (hm:∃a e:Nat,m.gK=(a:Int)/\m.last=(e:Int)/\a<=e/\e< ↑xs):
 Ae Tryz.prog 145 #[.agg #[v.r,v.k,v.f,v.t],s,.agg #[Ac Ab m.gK,Ac Ab m.last,vn],.agg #[Ac Ab c.func,Ac Ab c.head,Ac Ab c.gQ,Ac .u32 c.init]] w λe w'=>AC e (C8 p.aC xs m c)/\Ad w w w':=by
 obtain⟨a,e,O,W,aw,ah⟩:=hm;have HS:Aa (G7 xs m=G7 xs ⟨a,e,m.next⟩/\(C8 p.aC xs m c↔C8 p.aC xs ⟨a,e,m.next⟩ c)):=by obtain⟨mf,ml,mn⟩:=m;simp only[]at O W;subst O W;exact⟨rfl,Iff.rfl⟩
 obtain⟨vr,vk,vf,vt⟩:=v;have L:Aa (Rd w 2 vk p.aC (p.aC.flatMap MC.cells)/\(∀x∈xs,x.op=1->0<=x.a/\x.a.toNat< ↑p.aC)):=⟨h.aC,F⟩
 have au:=hs.aC;obtain⟨a1,c1,j⟩:∃a c,vk=Z a p.aC c:=h.aC.fu;obtain⟨a2,c2,rfl⟩:=hr.fu;subst j;have HR:=Ap hr;clear h hs hr F;rw[O,W];have E0:=SU w #[vr,Z a1 p.aC c1,vf,vt] #[Ac Ab (a:Int),Ac Ab (e:Int),vn] #[Ac Ab c.func,Ac Ab c.head,Ac Ab c.gQ,Ac .u32 c.init] 28 58 121;have aq:m.gK=(a:Int):=O;clear O W;generalize am:xs.length=n at hn ah HR⊢;have R:=Ap am;generalize aj:p.aC.length=nk at au L E0⊢;have ae:=Ap aj;clear am aj;go_enter Tryz.func145,Tryz.ntmps145;go_upto_region 1 with fail
 refine An (λu=>Aa (Ar u w #[vr,Z a1 nk c1,vf,vt] 28/\Ar u ((w:Nat)+1) #[Ac Ab (a:Int),Ac Ab (e:Int),vn] 58/\Ar u ((w:Nat)+1+1) #[Ac Ab c.func,Ac Ab c.head,Ac Ab c.gQ,Ac .u32 c.init] 121/\Ad w w u)) E0 ?_
 rintro U HE;clear E0;obtain⟨x0,ao⟩:∃x,xs[e]?=K x:=⟨_,an (by rw[R.o];exact ah)⟩;obtain⟨b0,b1,b2⟩:=Fx HE.o.2.1;have S:=Ap ao;rcases HR.o.2 with⟨e0,_⟩|⟨g,o,cc,j,a8⟩
 . omega
 simp only[jc,lO]at j;obtain⟨rfl,rfl⟩:=j;have H:Aa (∀(k:Nat) (x:MI),xs[k]?=K x->U.cell? ⟨g,o+k*4,M⟩=K (Ac Ab x.op)/\U.cell? ⟨g,o+k*4+1,M⟩=K (Ac Ab x.a)):= λk x i=>by have D:=Rd.elem MI.gH a8 k x i 0 _ rfl;have G:=Rd.elem MI.gH a8 k x i 1 _ rfl;rw[<-HE.o.2.2.2.cell (jC D),kZ]at D;rw[<-HE.o.2.2.2.cell (jC G)]at G;exact⟨D,G⟩
 clear a8 ao;obtain⟨D,G⟩:=H.o e x0 S.o;have HM:=Ap aq;by_cases q:x0.op=25
 . have HQ:Aa (G7 xs m=(e:Int)-1):=HS.o.1.trans (Sc rfl S.o q);rw[q]at D;clear q;by_cases f:e<a+2
   . have w1:IntKind.i64.wrap ((e:Int)-1)=(e:Int)-1:=oD _ ⟨oM,oM⟩;have w2:IntKind.i64.wrap ((e:Int)-1-1)=(e:Int)-1-1:=oD _ ⟨oM,oM⟩;have w3:IntKind.i64.wrap ((e:Int)-2)=(e:Int)-2:=oD _ ⟨oM,oM⟩;have f1:(e:Int)-1-1<(a:Int):=oM;have f2:(e:Int)-2<(a:Int):=oM;exact PH
   obtain⟨k,F⟩:∃k,e=k+1+1:=⟨e-2,oM⟩;obtain⟨d,T⟩:∃d,d=k+1:=⟨_,rfl⟩;have I:=Ap T;(have HQ:Aa (G7 xs m=((k+1:Nat):Int)):=by have:=HQ.o;show G7 xs m=_;omega);have f1:¬(k:Int)<(a:Int):=oM;have f3:¬k<a:=oM;have f4:d<n:=oM;have f5:k<n:=oM;(have w1:IntKind.i64.wrap ((e:Int)-1)=(d:Int):=by rw[oD _ ⟨oM,oM⟩];omega);(have wk:IntKind.i64.wrap ((d:Int)-1)=(k:Int):=by rw[oD _ ⟨oM,oM⟩];omega);clear F T f;obtain⟨y,C⟩:∃y,xs[d]?=K y:=⟨_,an (by rw[R.o];omega)⟩;obtain⟨x,i⟩:∃x,xs[k]?=K x:=⟨_,an (by rw[R.o];omega)⟩;have HI:Aa (C8 p.aC xs m c↔x.op=1/\y.op=3/\y.a=c.gQ/\∃v,p.aC[x.a.toNat]?=K v/\v.type=3/\v.word=c.init):=C8.iff (by first|exact HQ.o|(rw[HQ.o,I.o])) (by rw[HM.o];omega) i (by rw[<-I.o];exact C)
   obtain⟨y0,y1⟩:=H.o d y C;obtain⟨Q,x1'⟩:=H.o k x i;have HX:=Ap (i8 i);clear i C;obtain⟨t0,t1,t2,t3⟩:=IX HE.o.2.2.1;by_cases z1:y.op=3;(case neg=>exact PK);case pos=>
    rw[z1]at y0;have HZ1:=Ap z1;clear z1;by_cases z2:y.a=c.gQ;(case neg=>exact PJ);case pos=>
     rw[z2]at y1;have HZ2:=Ap z2;clear z2;by_cases z3:x.op=1;(case neg=>exact PL);case pos=>
      rw[z3]at Q;have HZ3:=Ap z3;clear z3;go_wp2_with fail;go_quiet (fail);go_wp2_with fail;obtain⟨N,B⟩:=L.o.2 x HX.o HZ3.o;obtain⟨b,A⟩:=kU N;rw[A]at x1' B;have HV:=Ap A;rw[kM]at B;obtain⟨vv,l⟩:∃vv,p.aC[b]?=K vv:=⟨_,an (by rw[ae.o];exact B)⟩;rcases L.o.1.2 with⟨e0,_⟩|⟨gk,ok,ck,j,z⟩
      . omega
      simp only[jc,lO]at j;obtain⟨rfl,rfl⟩:=j;have v0:=Rd.elem MC.gH z b vv l 0 _ rfl;have v1:=Rd.elem MC.gH z b vv l 1 _ rfl;rw[<-HE.o.2.2.2.cell (jC v0),kZ]at v0;rw[<-HE.o.2.2.2.cell (jC v1)]at v1;have HVV:=Ap l;clear z l A N;refine An (λu=>Aa (Ar u w #[vr,Z (K ⟨gk,ok,M⟩) nk c1,vf,vt] 28/\Ar u ((w:Nat)+1+1) #[Ac Ab c.func,Ac Ab c.head,Ac Ab c.gQ,Ac .u32 c.init] 121/\Ad w w u/\u.cell? ⟨g,o+k*4+1,M⟩=K (Ac Ab (b:Int))/\u.cell? ⟨gk,ok+b*2,M⟩=K (Ac Ab vv.type)/\u.cell? ⟨gk,ok+b*2+1,M⟩=K (Ac .u32 vv.word))) ⟨HE.o.1.bM (As _ _ _),HE.o.2.2.1.bM (As _ _ _),Ai HE.o.2.2.2 lR (As _ _ _),by simpa using x1',by simpa using v0,by simpa using v1⟩ ?_
      rintro U2 HU;clear v0 v1 x1' Q y0 y1 t0 t1 t2 t3 b0 b1 b2 D G;exact PG
 have HQ:Aa (G7 xs m=(e:Int)):=HS.o.1.trans (Sb rfl S.o q);by_cases f:e<a+1
 . have f1:(e:Int)-1<(a:Int):=oM;exact PH
 obtain⟨k,F⟩:∃k,e=k+1:=⟨e-1,oM⟩;obtain⟨d,T⟩:∃d,d=e:=⟨_,rfl⟩;have I:Aa (d=k+1):=by show d=_;omega
 have HQ:Aa (G7 xs m=((k+1:Nat):Int)):=by have:=HQ.o;show G7 xs m=_;omega
 have f1:¬(k:Int)<(a:Int):=oM;have f3:¬k<a:=oM;have f4:d<n:=oM;have f5:k<n:=oM;have wk:IntKind.i64.wrap ((d:Int)-1)=(k:Int):=by rw[oD _ ⟨oM,oM⟩];omega
 clear F f;subst T;obtain⟨y,C,q⟩:∃y,xs[d]?=K y/\¬y.op=25:=⟨x0,S.o,q⟩
 clear D G;obtain⟨x,i⟩:∃x,xs[k]?=K x:=⟨_,an (by rw[R.o];omega)⟩;have HI:Aa (C8 p.aC xs m c↔x.op=1/\y.op=3/\y.a=c.gQ/\∃v,p.aC[x.a.toNat]?=K v/\v.type=3/\v.word=c.init):=C8.iff (by first|exact HQ.o|(rw[HQ.o,I.o])) (by rw[HM.o];omega) i (by rw[<-I.o];exact C)
 obtain⟨y0,y1⟩:=H.o d y C;obtain⟨Q,x1'⟩:=H.o k x i;have HX:=Ap (i8 i);clear i C;obtain⟨t0,t1,t2,t3⟩:=IX HE.o.2.2.1;by_cases z1:y.op=3;case neg=>exact PK
 case pos=>
  rw[z1]at y0;have HZ1:=Ap z1;clear z1;by_cases z2:y.a=c.gQ;case neg=>exact PJ
  case pos=>
   rw[z2]at y1;have HZ2:=Ap z2;clear z2;by_cases z3:x.op=1;(case neg=>exact PL);case pos=>
    rw[z3]at Q;have HZ3:=Ap z3;clear z3;go_wp2_with fail;go_quiet (fail);go_wp2_with fail;obtain⟨N,B⟩:=L.o.2 x HX.o HZ3.o;obtain⟨b,A⟩:=kU N;rw[A]at x1' B;have HV:=Ap A;rw[kM]at B;obtain⟨vv,l⟩:∃vv,p.aC[b]?=K vv:=⟨_,an (by rw[ae.o];exact B)⟩;rcases L.o.1.2 with⟨e0,_⟩|⟨gk,ok,ck,j,z⟩
    . omega
    simp only[jc,lO]at j;obtain⟨rfl,rfl⟩:=j;have v0:=Rd.elem MC.gH z b vv l 0 _ rfl;have v1:=Rd.elem MC.gH z b vv l 1 _ rfl;rw[<-HE.o.2.2.2.cell (jC v0),kZ]at v0;rw[<-HE.o.2.2.2.cell (jC v1)]at v1;have HVV:=Ap l;clear z l A N;refine An (λu=>Aa (Ar u w #[vr,Z (K ⟨gk,ok,M⟩) nk c1,vf,vt] 28/\Ar u ((w:Nat)+1+1) #[Ac Ab c.func,Ac Ab c.head,Ac Ab c.gQ,Ac .u32 c.init] 121/\Ad w w u/\u.cell? ⟨g,o+k*4+1,M⟩=K (Ac Ab (b:Int))/\u.cell? ⟨gk,ok+b*2,M⟩=K (Ac Ab vv.type)/\u.cell? ⟨gk,ok+b*2+1,M⟩=K (Ac .u32 vv.word))) ⟨HE.o.1.bM (As _ _ _),HE.o.2.2.1.bM (As _ _ _),Ai HE.o.2.2.2 lR (As _ _ _),by simpa using x1',by simpa using v0,by simpa using v1⟩ ?_
    rintro U2 HU;clear v0 v1 x1' Q y0 y1 t0 t1 t2 t3 b0 b1 b2;exact PG
end Go.Proofs.YtjnglocdoljgkaaGreat
