import Derived.Test.YtmalfecapdmdbaaGreatHo41
import Derived.WalkMore
import Derived.RangeFuncNested
import Derived.RangeFuncBound
import Derived.RangeFuncCalls
import Derived.RangeFuncLeaves
import Derived.Shelf.Abstract
import Derived.Shelf.RegionOpen
import Derived.OwnWalkIn
import Derived.TacticsInMore
import Derived.LoopNIn
import Derived.LoopIn
import Derived.Shelf.SlSortCmp.NoneTotal
import Derived.Test.YtmalfecapdmdbaaGreatHo38
namespace Go.Proofs.YtmalfecapdmdbaaGreat
open Go.ChangeShapes Go.WideShapes Go.ChangeAt Go.RowKit Go.Proofs.Tryz
set_option linter.unusedVariables false
open Go.Value renaming slice → Z,int → Ag,agg → Am,bool → An,tuple → Ao
open Option renaming some → K,none → M
open Go renaming World → Y,Calls → Ai,Value → J,TypeId → Aj
open Go.RowKit renaming Hid → Ae,Below → Ah
open Go.IntKind renaming i64 → Af
open Go.Obj renaming cells → Ak
open Go.Ending renaming returned → Al
open Go.Proofs.Tryz renaming prog → Ap
open Go.World renaming setCell → Aa,alloc → Ac,ownsRow → Ab
open List renaming flatMap → Ad
set_option maxHeartbeats 16000000
set_option maxRecDepth 100000
variable {c B g o:Nat}{q:Prop}
theorem GJ(B T:Nat)(v:BI)(n W cC gS cS:Nat)(I:List Nat)(C:List Int)(E:Nat->List Nat)(R:List Nat)(X:Nat->Nat)(h:Nat)(x:Ey)(s:Option Addr)(F:Nat)(d:List Int)(w:Y)(hn:n<=1024)(hS:CC w B T v n W cC gS cS I C)(hF:XH w v n E R X)(hh:h<n)(d6:d.length<=1024)(hk:Rd w 1 (Z s d F) d (Ad As d))(hz:∀z∈d,∃b:Nat,z=(b:Int)/\b<n):
 Ai Ap 115 #[.pointer T,Am #[h,Z x.a x.n x.c,Z s d F]] w (Yq w n E d I C h X):=by
 obtain⟨k0,cg,cG,cH,cI⟩:=lS Bp;have d8:= @run_makeMap Ap;have H:=Av (d5 hS (d5 hF (d5 hk hz)));obtain⟨gb,ob,bC,bF,bT⟩:=hF.gr;obtain⟨go,oo,bG,bH,bY⟩:=hF.od;have HV:=Av (d5 bC (d5 bF (d5 bG bH)));have db:R.length<=1024:=hF.rl;clear hS hF hk hz bC bF bG bH bT bY;have bB:∀u,Ah w w u->u ⟨T,11,M⟩=K (sO gb ob n v.b.c)/\u ⟨T,12,M⟩=K (sO go oo R v.o.c)/\u ⟨T,15,M⟩=K (sG W n cC)/\u ⟨T,16,M⟩=K (sG gS n cS):= λu hu=>by obtain⟨a1,a2,a3,a4⟩:=(H.1.a7 hu).cells;rw[HV.1,HV.2.1]at a1;rw[HV.2.2.1,HV.2.2.2]at a2;exact⟨a1,a2,a3,a4⟩
 have aH:=Av bB;clear bB;have cZ:(h:Int)<(n:Int):=oM;have E0:Ae (AC (Ac w (Ak #[h,Z x.a x.n x.c,Z s d F] 85)) w #[h,Z x.a x.n x.c,Z s d F] 85/\Ah w w (Ac w (Ak #[h,Z x.a x.n x.c,Z s d F] 85))):=⟨AC.new _ _ _,Aq _ _⟩
 go_enter func115,ntmps115;go_upto_region 1 with fail
 refine Ax (λu=>Ae (AC u w #[h,Z x.a x.n x.c,Z s d F] 85/\Ah w w u)) E0 ?_
 rintro U HE;clear E0;go_step3;have bM:=Aq U (.map #[] 0);have m2:=(HE.1.a7 bM).cell 2;simp only[kB,i9,kC]at m2;have aE:Ae (AW (Ac U (.map #[] 0)) U 0 (.map [])/\Ah w w (Ac U (.map #[] 0))/\AC (Ac U (.map #[] 0)) w #[h,Z x.a x.n x.c,Z s d F] 85):=⟨World.ownsMap_made _ _ _ _,Ar HE.2 lR bM,HE.1.a7 bM⟩
 have aF:=Av HE.1.lt;clear bM HE;go_upto_region 2 with fail
 have bt:=Av (Rd.a7 H.2.2.1 aE.2.1 lR);have bu:Ae (∀g o,s=K ⟨g,o,M⟩->0<d.length->g≠ ↑U):= λg o e hp q=>by
  rcases H.2.2.1.2 with⟨e1,_⟩|⟨g1,o1,c1,e1,hc⟩
  . omega
  simp only[i8,lB]at e1;have hl:=hC (hc 0 _ (Db (an hp)));have:=aF.o;rw[e]at e1;simp only[kI,mE,mV]at e1;simp only[]at hl;omega
 go_wp2_with fail;refine(QU U s F d (Ac U (.map #[] 0)) oM (λz hz=>by obtain⟨b,rfl,P⟩:=H.2.2.2 z hz;exact Ee oM) bt bu aE.1).mono ?_;rintro e u2 ⟨rfl,bP,aW⟩;have E2:=Av (d5 bP (d5 (aE.2.1.grown aW aE.2.1.size (λj hj=>by cases hj;exact nw aF)) (d5 (aE.2.2.apart aW (by have:=aF.o;omega)) ((by have:=aW.size;rw[nZ]at this;omega):(U:Nat)< ↑u2))))
 clear bP aW aE bt bu m2;obtain⟨aj,am,ao,aq⟩:=aH.o u2 E2.2.1;go_upto_region 4 with(at_make;refine l8 _ rfl _ _ 46 rfl u2 2 k0 (iZ 0) 1 underlying46 cg cG cH Af Af _ _ n rfl rfl rfl rfl (by rw[cI];omega) oX lR ?_;intro w3 aX bK;rw[LG]at aX)
 have aT:Ah u2 u2 w3:=(kS _ _).grown bK lR (λk hk=>by cases hk);have E3:Ae (QT w w3 U h x s F d n u2 (List.replicate n 0)):=by obtain⟨⟨aM,D,s1,s2⟩,s3,s4,s5⟩:=E2.o;have:=aF.o;exact⟨⟨aM,D,s1.a7 aT,s2⟩,s4.a7 aT,⟨aX.1,aX.2.imp_right λ⟨g,cap,bS,q1,q2,q3⟩=>⟨g,cap,bS,q1,oM,q3⟩⟩,Ar s3 lR aT,oM,oM⟩
 clear aX bK aT aj am ao aq E2;generalize u2.heap.size=r at E3⊢;generalize U.heap.size=SB at E3 aF⊢;clear aF;have aA:=Av (E3.a7 (At _));clear E3;have KS:∀m,Ah w w m->AC m w #[h,Z x.a x.n x.c,Z s d F] 85->m w=K ↑h/\m ⟨T,15,M⟩=K (sG W n cC)/\m ⟨W,h,M⟩=K ↑(cf C h):= λm P hB=>⟨hB.cell 0,(aH.o m P).2.2.1,(H.1.a7 P).km hh⟩
 refine wp_region_held_drew (S:= λm=>m w=K ↑h/\m ⟨T,15,M⟩=K (sG W n cC)/\m ⟨W,h,M⟩=K ↑(cf C h)) kR (KS _ aA.e8 aA.lb) (λaI=> ?_)
 generalize w3.drew=U3 at aA aI⊢;refine AK 0 ?_ (hw:=kR);refine AK 1 ?_ (hw:=kR);refine AK 2 ?_ (hw:=kR);refine AK 3 ?_ (hw:=kR);refine AK 4 ?_ (hw:=kR);refine AK 5 ?_ (hw:=kR);refine AK 6 ?_ (hw:=kR);refine AK 7 ?_ (hw:=kR);refine AK 8 ?_ (hw:=kR);refine AK 9 ?_ (hw:=kR);refine AK 10 ?_ (hw:=kR);refine AK 11 ?_ (hw:=kR);go_simp;refine D3 12 ?_;intro KC aP;rw[kZ kR];obtain⟨c0,z0⟩:=aA.at_ mK hh;have E4:Ae (QT w (Aa U3 ⟨r,h,M⟩ (cf C h)) SB h x s F d n r ((List.replicate n 0).set h (cf C h))/\WQ E n (λb=>decide ((b:Int)∈d)) I C h X ((List.replicate n 0).set h (cf C h)) 0 0):=⟨aA.put h _,WQ.start hh (Gu H.1.cc h)⟩
 go_simp;refine aP.o _ _ (KS _ E4.1.e8 E4.1.lb) (λaI=> ?_);clear aP KC;refine wpAnyH_done kR ?_ _;clear aI KS c0 z0 aA;generalize Aa U3 ⟨r,h,M⟩ (cf C h)=U4 at E4⊢;generalize (List.replicate n (0:Int)).set h (cf C h)=L0 at E4;obtain⟨aj,am,ao,aq⟩:=aH.o U4 E4.1.e8;go_wp2_with fail;go_step3;go_wp2_with fail;clear aj am ao aq;go_loopw [8,45] (λsm i wr=>∃(k:Nat) (L:List Int),k<= ↑R/\sm=An true/\i=iZ k/\Ae (QT w wr SB h x s F d n r L/\WQ E n (λb=>decide ((b:Int)∈d)) I C h X L k 0)) (λ_ i _=> ↑R-(intOf i).toNat)
 case atStart=>exact⟨0,L0,oM,rfl,rfl,E4⟩
 case round=>
 clear E4;obtain⟨k,L,hk,rfl,rfl,l⟩:=hrel;by_cases bo:k< ↑R
 case neg=>
  have HE:Ae (Yq w n E d I C h X (Al (Ao #[sG r n n,true])) wr):=⟨r,L,true,rfl, λ_=>⟨λc hc=>(l.1.at_ l.2.len hc).1,l.2.jb⟩,.inl ⟨rfl,k,l.2, λb P=>by have:=(i6.1 (H.2.1.p1 b P)).1;omega⟩,l.1.e8⟩;go_wp2_with fail;try rw[Exit.noGoto_ret]
  exact kQ (v:=Ao #[sG r n n,true]) (by simp[results,results115,go_sem]) rfl HE
 have d7:(k:Int)<(R:Int):=oM;obtain⟨b,P⟩:∃b,R[k]?=K b:=⟨_,an bo⟩;have aJ:b<n:=H.2.1.rb b (i7 P);have au:Ae (X b=k/\∀b',b'<n->X b'=k->b'=b):=⟨H.2.1.p2 k b P, λb' h1 h2=>by have:=H.2.1.p1 b' h1;rw[h2,P]at this;exact(kH this).symm⟩
 have o0:wr ⟨go,oo+k,M⟩=K ↑b:=by
  obtain⟨cW,dh,q1,_,q3⟩:=(H.2.1.a7 l.1.e8).od;rw[HV.2.2.1]at q1;cases q1
  exact q3 k b P
 obtain⟨aM,D,s1,s2⟩:=l.1.set;have G:=KH SB aM D (b:Int) wr (Ee oM) s1;rw[s2 (b:Int)]at G;clear s1 s2 P;by_cases aQ:(b:Int)∈d;case neg=>
  rw[lZ aQ]at G;have V:=Av G;clear G;go_wp2_with fail;refine V.mono ?_;rintro e u5 ⟨rfl,O⟩;have ah:=Av (d5 (l.1.a7 O) (l.2.kq λb' h1 h2=>by rw[au.2 b' h1 h2];simpa using aQ));clear O o0;go_wp2_with fail;go_roundw;case rel=>exact⟨k+1,L,oM,by trivial,by go_num,ah⟩
  exact oI
 rw[decide_eq_true aQ]at G;have V:=Av G;clear G;go_wp2_with fail;refine V.mono ?_;rintro e u5 ⟨rfl,O⟩;have ah:=Av (d5 (l.1.a7 O) l.2);clear O o0 V l;obtain⟨aj,am,ao,aq⟩:=aH.o u5 ah.1.e8;obtain⟨s0,bJ⟩:=(H.1.a7 ah.1.e8).jA aJ;obtain⟨na,nc,g0,cu⟩:∃a c,u5 ⟨gb,ob+b*3+2,M⟩=K (Z a (E b).length c)/\I5 u5 (Z a (E b).length c) (E b):=by
  obtain⟨bZ,cJ,q1,_,q3⟩:=(H.2.1.a7 ah.1.e8).gr;rw[HV.1]at q1;cases q1
  exact q3 b aJ
 have bx:Ae (∀u,Ah w w u->I5 u (Z na (E b).length nc) (E b)):= λu hu=>by
  obtain⟨bZ,cJ,q1,_,q3⟩:=H.2.1.gr;rw[HV.1]at q1;cases q1
  obtain⟨a',c',e1,e2⟩:=q3 b aJ;have e3:=Au ah.1.e8 e1;rw[g0]at e3;simp only[kI,i8,lB]at e3;rw[e3.1,e3.2];exact e2.a7 hu
 obtain⟨f,hf⟩:∃f,jf I b=f:=⟨_,rfl⟩;have aw:=Av hf;rw[hf]at s0 bJ;have cX:(b:Int)<(n:Int):=oM;have cY:(f:Int)<(n:Int):=oM;have ce:(E b).length<=1024:=H.2.1.sz b;have bq:=Av aQ;clear cu hf aQ;generalize bI:(E b).length=el at g0 bx ce;have bi:=Av bI;clear bI;go_wp2_with fail;clear aj am ao aq s0 g0;go_loopw [8,71] (λsm i wr=>∃(q:Nat) (L:List Int),q<=el/\sm=An true/\i=iZ q/\Ae (QT w wr SB h x s F d n r L/\WQ E n (λb=>decide ((b:Int)∈d)) I C h X L k q)) (λ_ i _=>el-(intOf i).toNat)
 case atStart=>exact⟨0,L,oM,rfl,rfl,ah⟩
 case round=>
 clear ah L;obtain⟨q,L,hq,rfl,rfl,l⟩:=hrel;by_cases cw:q<el;case neg=>
  have p:=Av (d5 l.1 (l.2.kp λb' h1 h2=>by rw[au.2 b' h1 h2,bi];omega));clear l;go_wp2_with fail;go_roundw;case rel=>exact⟨k+1,L,oM,by trivial,by go_num,p⟩
  exact oI
 have d9:(q:Int)<(el:Int):=oM;obtain⟨y,hy⟩:∃y,(E b)[q]?=K y:=⟨_,an (by rw[bi];exact cw)⟩;have bp:y<n:=H.2.1.eb b aJ y (i7 hy);obtain⟨ng,no,bV,e0⟩:∃g o,na=K ⟨g,o,M⟩/\wr ⟨g,o+q,M⟩=K ↑y:=by
  rcases(bx.o wr l.1.e8).2 with⟨q0,_⟩|⟨g,o,c',e1,hc⟩
  . rw[bi]at q0;omega
  simp only[i8]at e1;exact⟨g,o,e1.1,hc q _ (Ng hy)⟩
 obtain⟨s0,aS⟩:=(H.1.a7 l.1.e8).jA bp;obtain⟨t,ht⟩:∃t,jf I y=t:=⟨_,rfl⟩;rw[ht]at s0 aS;have A:=Av (d5 ht hy);have dg:(y:Int)<(n:Int):=oM;have dd:(t:Int)<(n:Int):=oM;obtain⟨aj,am,ao,aq⟩:=aH.o wr l.1.e8;obtain⟨aM,D,s1,s2⟩:=l.1.set;have G:=KH SB aM D (y:Int) wr (Ee oM) s1;rw[s2 (y:Int)]at G;clear s1 s2 hy ht;subst bV;by_cases aR:(y:Int)∈d;case neg=>
  rw[lZ aR]at G;have V:=Av G;clear G;go_wp2_with fail;refine V.mono ?_;rintro e u6 ⟨rfl,O⟩;have p:=Av (d5 (l.1.a7 O) (l.2.ji au.2 A.2 λhq=>aR (by simpa using hq.1.2)));have l0:=p.1.lb.cell 0;simp only[kB,i9]at l0;clear O V l aj am ao aq s0 e0;go_wp2_with fail;go_roundw;case rel=>exact⟨q+1,L,oM,by trivial,by go_num,p⟩
  exact oI
 rw[decide_eq_true aR]at G;have V:=Av G;have br:=Av aR;clear G aR;go_wp2_with fail;refine V.mono ?_;rintro e u6 ⟨rfl,O⟩;have p:=Av (d5 (l.1.a7 O) l.2);have l0:=p.1.lb.cell 0;simp only[kB,i9]at l0;clear O V l aj am ao aq s0 e0;by_cases aY:t=f;case pos=>
  have ae:=Av (d5 p.1 (p.2.ji au.2 A.2 λhq=>hq.2.1 (by rw[A.1,aw.o,aY])));subst aY;clear p;go_wp2_with fail;go_roundw;case rel=>exact⟨q+1,L,oM,by trivial,by go_num,ae⟩
  exact oI
 have cA:¬(t:Int)=(f:Int):=oM;have de:((t:Int)==(f:Int))=false:=by simpa using cA
 by_cases aZ:t=h;case pos=>
  have ae:=Av (d5 p.1 (p.2.ji au.2 A.2 λhq=>hq.2.2 (by rw[A.1,aZ])));subst aZ;clear p;go_wp2_with fail;go_roundw;case rel=>exact⟨q+1,L,oM,by trivial,by go_num,ae⟩
  exact oI
 have cE:¬(t:Int)=(h:Int):=oM;have df:((t:Int)==(h:Int))=false:=by simpa using cE
 go_upto_region 16 with fail
 clear l0;obtain⟨yo,bg⟩:∃z,cf L t=z:=⟨_,rfl⟩;obtain⟨yf,bf⟩:∃z,cf L f=z:=⟨_,rfl⟩;obtain⟨yc,b7⟩:∃z,cf C t=z:=⟨_,rfl⟩;have b1:Ew yo:=bg▸Gu p.2.jb t;have b2:Ew yf:=bf▸Gu p.2.jb f;have b3:Ew yc:=b7▸Gu H.1.cc t;obtain⟨cM,cQ⟩:=b1;obtain⟨cR,cT⟩:=b2;obtain⟨bR,cU⟩:=b3;have N:=Av (d5 bg (d5 bf b7));have KS:∀m,QT w m SB h x s F d n r L->m ⟨r,t,M⟩=K ↑yo/\m ⟨r,f,M⟩=K ↑yf/\m ⟨T,15,M⟩=K (sG W n cC)/\m ⟨W,t,M⟩=K ↑yc:= λm hW=>by have i1:=(hW.at_ p.2.len aS).1;have i2:=(hW.at_ p.2.len bJ).1;have i3:=(H.1.a7 hW.e8).km aS;rw[bg]at i1;rw[bf]at i2;rw[b7]at i3;exact⟨i1,i2,(aH.o m hW.e8).2.2.1,i3⟩
 have ae:=Av (p.1.a7 (At _));refine D7 20 (S:= λm=>m ⟨r,t,M⟩=K ↑yo/\m ⟨r,f,M⟩=K ↑yf/\m ⟨T,15,M⟩=K (sG W n cC)/\m ⟨W,t,M⟩=K ↑yc) kR (KS _ ae) (λaI=> ?_)
 clear bg bf b7;generalize u6.drew=U7 at ae aI⊢;have di:IntKind.i64.wrap (yf+yc)=yf+yc:=nA _ ⟨oM,oM⟩;refine GP 0 ?_ (hw:=kR);refine GP 1 ?_ (hw:=kR);refine GP 2 ?_ (hw:=kR);refine GP 3 ?_ (hw:=kR);refine GP 4 ?_ (hw:=kR);refine GP 5 ?_ (hw:=kR);refine GP 6 ?_ (hw:=kR);refine GP 7 ?_ (hw:=kR);refine GP 8 ?_ (hw:=kR);refine GP 9 ?_ (hw:=kR);refine GP 10 ?_ (hw:=kR);refine GP 11 ?_ (hw:=kR);refine GP 12 ?_ (hw:=kR);refine GP 13 ?_ (hw:=kR);refine GP 14 ?_ (hw:=kR);refine GP 15 ?_ (hw:=kR);refine GP 16 ?_ (hw:=kR);refine GP 17 ?_ (hw:=kR);refine GP 18 ?_ (hw:=kR);refine GP 19 ?_ (hw:=kR);go_simp;refine Xp 20 ?_;intro KC aP;rw[kZ kR];obtain⟨c0,z0⟩:=ae.at_ p.2.len aS;rw[N.1]at c0;have c9:=World.cell?_setCell_same' U7 ⟨r,t,M⟩ (iZ (max yo (yf+yc))) (by rw[c0];rfl);have aG:Ae (QT w (Aa U7 ⟨r,t,M⟩ (Ag Af (max yo (yf+yc)))) SB h x s F d n r (L.set t (max yo (yf+yc)))):=ae.put t _;go_simp;refine aP.o _ _ (λbo=>absurd bo oM) (λhH=> ?_);clear aP KC hH aI;refine Hq kR ?_ _;clear c0 z0 KS ae;generalize bL:max yo (yf+yc)=Q at c9 aG⊢;have bj:=Av bL;have cj:0<=Q:=oM;clear bL;generalize Aa U7 ⟨r,t,M⟩ Q=U8 at c9 aG⊢;go_wp2_with fail;refine(GA Q U8).mono ?_;rintro e u9 ⟨rfl,rfl⟩;by_cases aU:Q<=4294967295
 . rw[decide_eq_true (show 0<=Q/\Q<=4294967295 from⟨cj,aU⟩)]
   have bQ:Ae (QT w u9 SB h x s F d n r (L.set t Q)/\WQ E n (λb=>decide ((b:Int)∈d)) I C h X (L.set t Q) k (q+1)):=⟨aG,by have:=p.2.over au.2 ⟨aJ,by simpa using bq.o⟩ au.1 A.2 ⟨bp,by simpa using br.o⟩ (by rw[A.1,aw];exact aY) (by rw[A.1];exact aZ) (by rw[A.1];exact aS) (by rw[A.1,N.2.2];exact bR) (by rw[A.1,aw.o,N.1,N.2.1,N.2.2,bj];exact aU);rw[A.1,aw.o,N.1,N.2.1,N.2.2,bj]at this;exact this⟩
   clear p aG;go_wp2_with fail;go_roundw;(case rel=>exact⟨q+1,L.set t Q,oM,by trivial,by go_num,bQ⟩);exact oI
 rw[lZ (show¬(0<=Q/\Q<=4294967295)from λh=>aU h.2)]
 have HE:Ae (Yq w n E d I C h X (Al (Ao #[sG r n n,false])) u9):=⟨r,[],false,rfl, λh=>(by cases h),.inr ⟨rfl,p.2.bad ⟨aJ,by simpa using bq.o⟩ A.2 ⟨bp,by simpa using br.o⟩ (by rw[A.1,aw];exact aY) (by rw[A.1];exact aZ) (by rw[A.1,aw.o,N.1,N.2.1,N.2.2,bj];exact aU)⟩,aG.e8⟩;clear p aG;go_wp2_with fail;try rw[Exit.noGoto_ret]
 exact kQ (v:=Ao #[sG r n n,false]) (by simp[results,results115,go_sem]) rfl HE
section
open Go.Shelf
attribute [local go_sem] Oper.semAt_some
def LV.ie(x:LV):Array J:=#[x.h,Z x.xa x.xn x.xc,Z x.ya x.yn x.yc]
def Jz(W:Y)(b a:Nat)(zs:List LV):Prop:=∀j (x:LV),zs[j]?=K x->W ⟨b,a+j*3,M⟩=K ↑x.h/\W ⟨b,a+j*3+1,M⟩=K (Z x.xa x.xn x.xc)/\W ⟨b,a+j*3+2,M⟩=K (Z x.ya x.yn x.yc)
theorem Jz.a7{W d:Y}{b f e:Nat}{zs:List LV}(h:Jz W b f zs)(a:b<e)(c:Ah e W d):Jz d b f zs:= λj x l=>by obtain⟨g,i,k⟩:=h j x l;exact⟨(c.cell (p:=⟨b,_,M⟩) a).trans g,(c.cell (p:=⟨b,_,M⟩) a).trans i,(c.cell (p:=⟨b,_,M⟩) a).trans k⟩
theorem Qm(a:Option Addr)(n c:Nat)(w:Y):Ai Ap 149 #[Z a n c] w λe b=>e=Al (.func (.func 165) #[] #[.pointer w])/\b=Ac w (Ak #[Z a n c] 78):=by go_enter func149,ntmps149;go_wp2;go_ret;exact⟨rfl,rfl⟩
def KO(W:Y)(d:Nat)(a:Option Addr)(zs:List LV):Prop:=zs≠[]->∃b c,a=K ⟨b,c,M⟩/\b<d/\Jz W b c zs
theorem KO.a7{W d:Y}{a:Option Addr}{zs:List LV}(h:KO W c a zs)(i:Ah c W d):KO d c a zs:= λj=>by obtain⟨b,k,f,e,g⟩:=h j;exact⟨b,k,f,e,g.a7 e i⟩
theorem Ql(n:Nat)(S:1<=n)(l q g cap:Nat)(a:Option Addr)(zs:List LV)(R:zs.length<=1048576)(c s:List LV->Y->Prop)(W:Y)(T:g<= ↑W)(D:AbidesFrom W c)
 (G:∀d x W,c d W->d.length< ↑zs->YieldAt Fence.wide (n-1) Ap l #[.agg x.ie] W λe f=>(e=Al true/\c (d++[x]) f/\Ah g W f)\/(e=Al false/\s (d++[x]) f))
 (O:W.cell? q=K (Z a zs cap)) (H:KO W g a zs) (C:c [] W):
 CallsIn Fence.wide n Ap 165 #[.func (.yield l) #[] #[],.pointer q] W λe f=>(∃v,e=Al v)/\((∃A,A=zs/\c A f)\/(∃d,d<+:zs/\s d f)):=by
 refine callsIn_of_wp func165 rfl trivial ?_ rfl;simp only[ntmps165,List.size_toArray,lX,lw,Nat.reduceAdd,Nat.reduceSub,Array.replicate_succ,Array.replicate_zero,List.push_toArray,List.append_toArray,lu,lK];gi_wp2
 gi_loopw [7] (λi wr=>∃k:Nat,k<= ↑zs/\i=iZ k/\c (zs.take k) wr/\Ah g W wr) (λi _=> ↑zs-(intOf i).toNat)
 case atStart=>exact⟨0,mz _,rfl,C,kS _ _⟩
 obtain⟨k,Q,rfl,h,m⟩:=hrel;by_cases j:k< ↑zs
 . obtain⟨x,p⟩:∃x,zs[k]?=K x:=⟨_,an j⟩;obtain⟨b,U,B,P,z⟩:=H.a7 m (λe=>by rw[e]at j;exact absurd j sP);obtain⟨c0,c1,c2⟩:=z k x p;subst B;have u:c (zs.take k) (Ac wr (Ak x.ie 85)):=D _ _ _ M h (World.grownBy_alloc wr _ M) (λr e=>by cases e);obtain⟨fn,tmps,assign,body,L,w⟩:=G _ x _ u (by rw[lh];omega);(have y:zs.take (k+1)=zs.take k++[x]:=by rw[List.take_add_one,p];rfl);have t:Ah g W (Ac wr (Ak x.ie 85)):=m.alloc (by have:=m.size;omega) _;simp only[LV.ie]at L w t;clear u p z;(gi_wp2);refine w.mono ?_;rintro e N (⟨rfl,E,I⟩|⟨rfl,F⟩)
   . (gi_wp2);go_roundw;(case rel=>exact⟨k+1,oM,sP,by rw[y];exact E,t.trans I⟩);exact oI
   (gi_wp2);refine kQ (results_none rfl _ _ _) rfl ?_;exact⟨⟨_,rfl⟩,.inr ⟨_,by rw[<-y];exact List.take_prefix _ _,F⟩⟩
 obtain rfl:k=zs.length:=oM;rw[List.take_length]at h;gi_wp2
 go_end0;exact⟨⟨_,rfl⟩,.inl ⟨_,rfl,h⟩⟩
theorem MR(n:Nat)(r:1<=n)(b c cap:Nat)(a:Option Addr)(zs:List LV)(q:zs.length<=1048576)(w:Y)(f:c<= ↑w)(e:w b=K (Z a zs cap))(m:KO w c a zs):
 SeqStopsK Fence.wide n Ap 165 #[.pointer b] (λx:LV=>#[.agg x.ie]) (Ah c) (λt=>t=zs) (λs=>s<+:zs) zs w:= λl g h W d j _ k i=>
 Ql n r l b c cap a zs q g h W (kV f d.size) j k (by rw[d.cell (p:=⟨b,0,M⟩) (hC e)];exact e) (m.a7 (d.mono f)) i
theorem KZ(w:Y)(x y z:J)(t:Aj):∀j u,[x,y,z][j]?=K u->(Ac w (Ak #[x,y,z] t)) ((⟨w,0,M⟩:Addr).add j)=K u:= λj u a=>by
 have h:=(AC.new w #[x,y,z] t).cell j;rw[kB,a]at h;have e:(⟨w,0,M⟩:Addr).add j=⟨w,j,M⟩:=by simp[Addr.add];omega
 rw[e];exact h
def G7(zs:List LV):List J:=Ad LV.enc zs
theorem Ta(zs:List LV)(x:LV):G7 (zs++[x])=G7 zs++[iZ x.h,Z x.xa x.xn x.xc,Z x.ya x.yn x.yc]:=by simp[G7,LV.enc]
theorem KR(g cap:Nat)(a:Option Addr)(zs:List LV)(w:World)(u:zs.length<=1048576)(I:w g=some (Z a zs cap))(p:KO w w a zs):
 Ai Ap 181 #[sN,.func (.func 165) #[] #[.pointer g]] w λe C=>∃V,e=Al V/\Ab C w 85 3 V zs (G7 zs)/\Ah w w C:=by
 refine(callsIn_wide (n:=5)).1 ?_;obtain⟨i0,Q,U,ae,ah⟩:=lS Oc;refine callsIn_of_wp_marks func181 rfl trivial ?_ rfl;simp only[ntmps181,List.size_toArray,lX,lw,Nat.reduceAdd,Nat.reduceSub,Array.replicate_succ,Array.replicate_zero,List.push_toArray,List.append_toArray,lu,lK];gi_wp2
 have E:=Boxed.new w 78 sN;have m:Ah w w (Ac w (Ak #[sN] 78)):=Aq _ _;refine wpIn_rangeFunc_ownH rfl oM (gf:=165) (lb:=#[.pointer g]) rfl trivial (enters_of func165 kR rfl)
  (MR 4 oM g w cap a zs u _ sP (Au m I) (p.a7 m)) belowK_t (belowK_b sP) (kS _ _) (λ_=>rfl)
  (λb W=>(∃v,Boxed W w 78 v/\Ab W w 85 3 v b (G7 b)/\True)/\Ah w w W)
  (λ_ _ _=>False)
  (OwnFrom.and (Own.from (holdsRow_own w w 78 85 3 (λb:List LV=>b.length) (λb=>G7 b) (λb v=>True)) _) (ownFrom_below lR sP))
  (λ_ _ _ _ _ q _ _=>q)
  ⟨⟨_,E,lQ _ _ _ _,trivial⟩,m⟩
  (λx a' W=>∃Bx, ↑w<Bx/\AC W Bx x.ie 85/\a'={tmps:=#[sN,.func (.func 165) #[] #[.pointer g],.pointer w,undef,sN,.pointer Bx,.func (.func 165) #[] #[.pointer g],.agg x.ie,undef,undef,undef,undef,undef],defers:=[]})
  (λx a' _ X Y row q O A=>by obtain⟨Bx,F,k,G⟩:=q;refine⟨Bx,F,?_,G⟩;have:=k.lt;unfold AC at k⊢;rw[O.block Bx this (λe=>by obtain⟨_,o,y,p⟩:=A Bx e.symm;rw[k]at y;cases y;cases p)];exact k)
  ?assign ?body ?done ?stop
 case assign=>
  rintro l b x W K ⟨⟨v,f,j,_⟩,d⟩ i;simp only[LV.ie]at i⊢;gi_wp2
  exact i _ _ ((KeepsOthers.alloc _ _).from _) ((kS _ W).alloc d.size _) ⟨⟨v,f.alloc _,j.alloc _,trivial⟩,d.alloc d.size _⟩ ⟨W,f.lt,AC.new W _ _,rfl⟩
 case body=>
  rintro l b x a' W u ⟨r,A⟩ ⟨⟨v,f,j,_⟩,d⟩ ⟨Bx,am,s,rfl⟩ au;have N:=f.cell;simp only[LV.ie]at s;obtain⟨x0,x1,x2⟩:=Cl s;simp only[LV.ie];gi_wp2_with (gi_at_builtin;refine wpListIn_append_own _ rfl _ _ 78 rfl w 85 i0 (.agg #[iZ 0,sN,sN]) 3 56 underlying78 Q U ae ah rfl dC _ _ _ rfl (j.alloc _) W 1 1 [iZ x.h,Z x.xa x.xn x.xc,Z x.ya x.yn x.yc] rfl rfl (KZ _ _ _ _ _) (by simp[Value.oneCell']) oX oM (by have:=d.size;simp;omega) ?_;intro v' w1 z P _;obtain⟨g',aj,rfl⟩:=ownsRow_succ z;obtain⟨B,T,S,R,t⟩:=f.appended dC j d.size lR z P;have ao:=B.cell;have aq:=B.frozen)
  exact⟨R.from _,t,⟨⟨_,T,by rw[Ta];simpa using S,trivial⟩,d.trans t⟩⟩
 case done=>
  rintro D ys W L rfl ⟨⟨v,f,j,_⟩,H⟩ i;have N:=f.cell;gi_wp2
  refine⟨sP,.inl ⟨_,_,rfl,run_takeDeferred i,?_⟩⟩;exact⟨_,results_tmp rfl _ _ _,v,rfl,ownsRow_putObj j _ i rfl,H.trans (belowK_b (w:=w) lR W D _ _ (by simp at L;omega) i rfl rfl)⟩
 case stop=>rintro D c b W _ _ h _;exact h.elim
end
section
open Go.Shelf
def Mk(ts:List LV):Prop:=ts.Pairwise λa b=>ltOf LV.cmp b a=false
theorem LV.iw(x:LV):x.enc.length=3:=rfl
theorem Jz.gM{w:Y}{zs:List LV}(h:Ab w B 85 3 (sG g zs c) zs (G7 zs)):Jz w g 0 zs:= λj x b=>by
 have a:∀i u,(G7 zs)[i]?=K u->w ⟨g,0+i,M⟩=K u:= λi u d=>by rw[lM,lj h i (by have e:=(i6.1 d).1;have f:=h.1;omega)];exact d
 exact⟨by have:=Rd.elem LV.iw a j x b 0 _ rfl;rwa [kJ]at this,Rd.elem LV.iw a j x b 1 _ rfl,Rd.elem LV.iw a j x b 2 _ rfl⟩
theorem Ys(j:Nat):j % 3=0\/j % 3=1\/j % 3=2:=oM
theorem W8{w:Y}{zs:List LV}(h:Ab w B 85 3 (sG g zs c) zs (G7 zs)):Go.Sort.HoldsK LV.enc 3 w g 0 zs.toArray:= λj a=>by
 rw[Go.Sort.size_flatK]at a;have k:j< ↑zs*3:=by simpa using a
 have b:j / 3<zs.length:=oM;obtain⟨_,d,e⟩:=AD h;refine⟨?_,frozen_of_row w g (0+j) d _ e⟩;rw[Go.Sort.get_flatK _ _ _ _ a];have i:zs[j / 3]?=K zs[j / 3]:=an b;have f:(zs.toArray[j / 3]!)=zs[j / 3]:=by rw[getElem!_pos _ _ (by simpa using b)];simp
 obtain⟨c0,c1,c2⟩:=Jz.gM h _ _ i;rw[f];rcases Ys j with e|e|e
 . rw[e,show 0+j=0+j / 3*3 from oM,c0];rfl
 . rw[e,show 0+j=0+j / 3*3+1 from oM,c1];rfl
 rw[e,show 0+j=0+j / 3*3+2 from oM,c2];rfl
theorem RQ{w:Y}{d:Array LV}(h:Go.Sort.HoldsK LV.enc 3 w g 0 d):Jz w g 0 d.toList:= λj x k=>by
 have a:j<d.size:=by have:=(i6.1 k).1;simpa using this
 have l:(d[j]!)=x:=by rw[getElem!_pos d j a];have:=(i6.1 k).2;simpa using this
 have b:=(h.cell (i:=j) (c:=0) a oM).1;have e:=(h.cell (i:=j) (c:=1) a oM).1;have f:=(h.cell (i:=j) (c:=2) a oM).1;rw[l]at b e f;exact⟨by rw[kJ]at b;exact b,e,f⟩
theorem Pp{w:Y}{n:Nat}{os:Array Obj}(d:Array LV):w.grownBy (sortWorldK LV.enc 3 w g 0 n d os) (K g):=by
 refine⟨rfl,rfl,rfl,size_sortWorldK_c _ _ _ _ _ _ _ _, λk a b=> ?_⟩;unfold sortWorldK Go.Sort.putRowK;rw[Go.Sort.heap_grow_old _ _ (by simpa[Go.Sort.putRow,Go.Sort.mapBlock,Go.Sort.ahead]using a)];have:g≠k:= λe=>b (by rw[e])
 simp[Go.Sort.putRow,Go.Sort.mapBlock,Go.Sort.ahead,Array.getElem?_modify,this]
theorem TF(B g cap:Nat)(ss:List LV)(w:Y)(F:ss.length<=1048576)(h:Ab w B 85 3 (sG g ss cap) ss (G7 ss)):
 Ai Ap 164 #[sG g ss cap,.func (.func 143) #[] #[]] w λe c=>e=Al (Ao #[])/\(∃ts,ts.Perm ss/\Mk ts/\Jz c g 0 ts)/\w.grownBy c (K g):=by
 have d:=W8 h;have u:=(AD h).2;have f:g<w.heap.size:=by obtain⟨D,e⟩:=u;exact(kM.1 e).1
 have b:=AnyQ.slices_SortFunc Tryz.lSortF 3 Tryz.isAgg85 Tryz.sizeOf85 LV.enc (λ_=>rfl) (λx v r=>by simp[LV.enc]at r;rcases r with rfl|rfl|rfl<;>rfl) LV.cmp LV.swo 143 #[] g 0 cap ss.toArray w (enters_of func143 kR rfl) (λm os E _ x y=>P9 x y _) d f oT;change Ai Ap 164 #[sG g ss.toArray.size cap,_] _ _ at b;rw[List.size_toArray]at b;refine b.mono ?_;rintro e c ⟨rfl,a,n,os,⟨l,_,p⟩,C,rfl⟩;have q:a.size=ss.length:=by simpa using l
 refine⟨rfl,⟨a.toList,?_,?_,RQ (holdsK_sortWorldK_c _ _ _ _ _ _ _ _ _ d f l)⟩,Pp a⟩
 . (have s:a.extract 0 ss=a:=by rw[<-q];simp);have t:ss.toArray.extract 0 ss=ss.toArray:=sP;rw[s,t]at p;simpa using p
 unfold Mk;rw[mi];intro i j z k A;have:=C i j (mz _) A (by simpa[q]using k);rw[getElem!_pos _ _ (by simpa using k),getElem!_pos _ _ (by simpa using z)]at this;simpa using this
theorem N1(b cap:Nat)(a:Option Addr)(zs:List LV)(w:Y)(j:zs.length<=1048576)(g:w b=K (Z a zs cap))(h:KO w w a zs):
 Ai Ap 163 #[.func (.func 165) #[] #[.pointer b]] w λe i=>∃V,e=Al V/\Ab i w 85 3 V zs (G7 zs)/\Ah w w i:=by
 have H:=Av (KR b cap a zs w j g h);clear g h;go_enter func163,ntmps163;go_wp2_with fail;refine H.mono ?_;rintro e u ⟨V,rfl,d,f⟩;have c:=Av (d5 d f);clear d f;go_wp2;go_ret;exact⟨V,rfl,c.1,c.2⟩
def SdL(w b:Y)(V:J)(zs ts:List LV):Prop:=ts.Perm zs/\Mk ts/\(∃a c,V=Z a ts.length c/\(ts≠[]->∃g,a=K ⟨g,0,M⟩/\w.heap.size<=g/\Jz b g 0 ts))/\Ah w.heap.size w b
theorem KD(d cap:Nat)(a:Option Addr)(zs:List LV)(w:Y)(r:zs.length<=1048576)(p:w.cell? ⟨d,0,M⟩=K (Z a zs.length cap))(q:KO w w.heap.size a zs):
 Ai Ap 148 #[.func (.func 165) #[] #[.pointer d],.func (.func 143) #[] #[]] w λe C=>∃V ts,e=Al V/\SdL w C V zs ts:=by
 have H:=Av (N1 d cap a zs w r p q);clear p q;go_enter func148,ntmps148;go_wp2_with fail;refine H.mono ?_;rintro e u ⟨V,rfl,b,k⟩;have f:=Av k;rcases BU b with⟨rfl,s⟩|⟨g,c,rfl⟩
 . have B:zs=[]:=lJ s;have l:=AnyF.slices_SortFunc_none Tryz.lSortF M 0 (.func (.func 143) #[] #[]) u;change Ai Ap 164 _ _ _ at l;have i:=Av l;clear l b k s H;go_wp2_with fail;refine i.mono ?_;rintro e y ⟨rfl,rfl⟩;go_wp2;go_ret;exact⟨_,[],rfl,by rw[B],List.Pairwise.nil,⟨M,0,rfl, λh=>absurd rfl h⟩,f⟩
 have n:=(AD b).1;have i:=Av (TF w g c zs u r b);clear b k H;go_wp2_with fail;refine i.mono ?_;rintro e y ⟨rfl,⟨ts,m,t,v⟩,x⟩;have z:Ae (SdL w y (sG g zs c) zs ts):=⟨m,t,⟨_,c,by rw[m.length_eq], λ_=>⟨g,rfl,n,v⟩⟩,f.grown x f.size (λj A=>by cases A;exact n)⟩;clear m t v x;go_wp2;go_ret;exact⟨_,ts,rfl,z⟩
end
section
open Go.Shelf
attribute [local go_sem] Oper.semAt_some
structure Jw(gC gS:Nat)(W W':World):Prop where
 size:(W:Nat)<= ↑W'
 same:∀k o,W.heap[k]?=K o->o.isCells=true->k≠gC->k≠gS->W'.heap[k]?=K o
section
variable {gC gS:Nat} {X Y Z:World}
theorem Jw.trans(h:Jw gC gS X Y)(a:Jw gC gS Y Z):Jw gC gS X Z:=⟨kV h.size a.size, λk o e b c d=>a.same k o (h.same k o e b c d) b c d⟩
theorem Jw.refl(gC gS:Nat)(W:World):Jw gC gS W W:=⟨Nat.le_refl _, λ_ _ h _ _ _=>h⟩
theorem Jw.of(h:Ah X X Y):Jw gC gS X Y:=⟨h.size, λk o a _ _ _=>(h.block k (kM.1 a).1).trans a⟩
theorem Jw.put{w:World}(W:World)(l:Nat)(o b:Obj)(_: ↑w<=l)(h:W.heap[l]?=K o)(d:o.isCells=false)(_:o.isWalk=false):Jw gC gS W (W.putObj l b):=⟨(grownBy_putObj' W l b).size, λk q a c _ _=>((grownBy_putObj' W l b).block k (kM.1 a).1 (λe=>by cases e;rw[h]at a;cases a;rw[d]at c;cases c)).trans a⟩
theorem Jw.cell(h:Jw gC gS X Y){v:J}(a:X ⟨g,o,M⟩=K v)(c:g≠gC)(d:g≠gS):Y ⟨g,o,M⟩=K v:=by obtain⟨q,b,e⟩:=cells_of_cell a;refine(oJ ?_).trans a;rw[h.same g q b e c d,b]
theorem Jw.row(h:Jw gC gS X Y){zs:List LV}(f:Jz X g o zs)(d:g≠gC)(e:g≠gS):Jz Y g o zs:= λj x i=>by obtain⟨a,b,c⟩:=f j x i;exact⟨h.cell a d e,h.cell b d e,h.cell c d e⟩
end
theorem MD(a:Option Addr)(n c:Nat)(w:World):Ai Ap 113 #[.slice a n c] w λe b=>e=Al (.func (.func 147) #[] #[.pointer w,.pointer (K ⟨(w:Nat)+1,0,M⟩)])/\(AC b w #[.slice a n c] 78/\AC b ((w:Nat)+1) #[.func (.func 143) #[] #[]] 225/\Ah w w b):=by have f:=Ho Ap;have d:=BL w #[.slice a n c] #[.func (.func 143) #[] #[]] 78 225;go_enter func113,ntmps113;go_wp2;go_ret;exact⟨rfl,d⟩
theorem MA(n:Nat)(hn:1<=n)(l u y cap gC gS:Nat)(a:Option Addr)(zs:List LV)(hl:zs.length<=1048576)(c T:List LV->World->Prop)(W:World)(aA:gC< ↑W)(aE:gS< ↑W)(hJ:AbidesFrom W c)
 (hY:∀f x W,x∈zs->c f W->f.length< ↑zs->YieldAt Fence.wide (n-1) Ap l #[Am x.ie] W λe p=>(e=Al true/\c (f++[x]) p/\Jw gC gS W p)\/(e=Al false/\T (f++[x]) p))
 (X:W.cell? u=K (.slice a zs cap)) (q:W.cell? y=K (.func (.func 143) #[] #[])) (hc:KO W W a zs) (U:c [] W):
 CallsIn Fence.wide n Ap 147 #[.func (.yield l) #[] #[],.pointer u,.pointer y] W λe p=>(∃v,e=Al v)/\((∃Q,(Q.Perm zs/\Mk Q)/\c Q p)\/(∃f,(∃ts,ts.Perm zs/\Mk ts/\f<+:ts)/\T f p)):=by
 refine callsIn_of_wp func147 rfl trivial ?_ rfl;simp only[ntmps147,List.size_toArray,lX,lw,Nat.reduceAdd,Nat.reduceSub,Array.replicate_succ,Array.replicate_zero,List.push_toArray,List.append_toArray,lu,lK];refine wpIn_wide.2 ?_;have H:=Av (d5 X (d5 q (d5 hc (d5 U (d5 hJ hY)))));clear X q hc U hJ hY;have z:∀j,Ah W W j->j u=K (.slice a zs cap)/\j y=K (.func (.func 143) #[] #[]):= λj hb=>⟨Au hb H.1,Au hb H.2.1⟩
 go_upto_region 0 with fail
 refine wp_region_held_drew (S:= λj=>j u=K (.slice a zs cap)/\j y=K (.func (.func 143) #[] #[])) kR (z _ (At _)) (λB=> ?_)
 have D:=Av (At W);generalize W.drew=A at D B⊢;refine AK 0 ?_;refine AK 2 ?_;refine AK 5 ?_;refine D3 1 ?_;intro E s;rw[kZ kR];go_simp;refine(Qm a zs cap A).mono ?_;rintro e u3 ⟨rfl,rfl⟩;have m:Ae (Ah W W (Ac A (Ak #[.slice a zs cap] 78))):=Ar D lR (Aq _ _);have F:=(AC.new A #[.slice a zs cap] 78).cell 0;simp only[kB,i9]at F;go_simp;refine s.o _ _ (z _ m) (λB=> ?_);clear s E;refine D3 3 ?_;intro E s;rw[kZ kR];go_simp;refine(KD A cap a zs _ hl F (λO=>by obtain⟨b,aw,G,h2,I⟩:=(H.2.2.1.a7 m) O;exact⟨b,aw,G,by have:=m.size;omega,I⟩)).mono ?_;rintro e t ⟨V,ts,rfl,P,t2,⟨sa,sc,rfl,t3⟩,t4⟩;have R:=Av (Ar m lR t4);have d:Ae (ts.Perm zs/\Mk ts/\(ts≠[]->∃g,sa=K ⟨g,0,M⟩/\W.heap.size<=g/\Jz t g 0 ts)):=⟨P,t2, λO=>by obtain⟨g,G,h2,I⟩:=t3 O;exact⟨g,G,by have:=m.size;omega,I⟩⟩
 have aF:ts.length<=1048576:=by rw[P.length_eq];exact hl
 clear P t2 t3 t4 F;go_simp;refine s.o _ _ (z _ R) (λB=> ?_);clear s E;refine AK 4 ?_ (hw:=kR);go_simp;refine wpAnyH_done kR ?_ _;clear B z D m;have ah:c [] t:=H.2.2.2.2.1 [] W t M H.2.2.2.1 (DN R) (λr e=>by cases e);go_wp2_with fail;refine(wpIn_wide (n:=n)).1 ?_;gi_loopw [11] (λi wr=>∃k:Nat,k<= ↑ts/\i=iZ k/\c (ts.take k) wr/\Jw gC gS t wr) (λi _=> ↑ts-(intOf i).toNat)
 case atStart=>exact⟨0,mz _,rfl,by simpa using ah,Jw.refl _ _ _⟩
 clear ah;obtain⟨k,hk,rfl,L,aj⟩:=hrel;by_cases N:k< ↑ts
 . obtain⟨x,C⟩:∃x,ts[k]?=K x:=⟨_,an N⟩;obtain⟨g,ea,hg,am⟩:=d.2.2 (λe=>by rw[e]at N;exact absurd N sP);obtain⟨c0,c1,c2⟩:=aj.row am oM oM k x C;rw[lM]at c0 c1 c2;subst ea;have ae:c (ts.take k) (Ac wr (Ak x.ie 85)):=H.2.2.2.2.1 _ _ _ M L (World.grownBy_alloc wr _ M) (λr e=>by cases e);obtain⟨fn,tmps,assign,body,hy,hR⟩:=H.2.2.2.2.2 _ x _ (d.1.mem_iff.1 (i7 C)) ae (by rw[lh,<-d.1.length_eq];omega);(have hT:ts.take (k+1)=ts.take k++[x]:=by rw[List.take_add_one,C];rfl);have q:Jw gC gS t (Ac wr (Ak x.ie 85)):=aj.trans (Jw.of (Aq _ _));simp only[LV.ie]at hy hR q;clear ae C am;(gi_wp2);refine hR.mono ?_;rintro e W3 (⟨rfl,ao,au⟩|⟨rfl,aq⟩)
   . (gi_wp2);go_roundw;(case rel=>exact⟨k+1,oM,sP,by rw[hT];exact ao,q.trans au⟩);exact oI
   (gi_wp2);refine kQ (results_none rfl _ _ _) rfl ?_;exact⟨⟨_,rfl⟩,.inr ⟨_,⟨ts,d.1,d.2.1,by rw[<-hT];exact List.take_prefix _ _⟩,aq⟩⟩
 obtain rfl:k=ts.length:=oM;rw[List.take_length]at L;gi_wp2
 go_end0;exact⟨⟨_,rfl⟩,.inl ⟨_,⟨d.1,d.2.1⟩,L⟩⟩
theorem Kw(n:Nat)(I:1<=n)(k m cap gC gS:Nat)(a:Option Addr)(zs:List LV)(H:zs.length<=1048576)(w:World)(P:gC< ↑w)(Q:gS< ↑w)(z:w k=K (.slice a zs cap))(C:w m=K (.func (.func 143) #[] #[]))(G:KO w w a zs):
 SeqStopsK Fence.wide n Ap 147 #[.pointer k,.pointer m] (λx:{x:LV//x∈zs}=>#[Am x.1.ie]) (Jw gC gS) (λr=>(r.map Subtype.val).Perm zs/\Mk (r.map Subtype.val)) (λd=>∃ts,ts.Perm zs/\Mk ts/\d.map Subtype.val<+:ts) zs w:= λl s t W g D _ F v=>by
 refine(MA n I l k m cap gC gS a zs H (λd W=>∃q:List {x:LV//x∈zs},q.map Subtype.val=d/\s q W) (λd W=>∃q:List {x:LV//x∈zs},q.map Subtype.val=d/\t q W) W (by have:=g.size;omega) (by have:=g.size;omega) (λd A B row h c i=>h.elim λq h=>⟨q,h.1,D q A B row h.2 c i⟩) ?_ (Au g z) (Au g C) (λN=>by obtain⟨b,O,j,f,c⟩:=(G.a7 g) N;exact⟨b,O,j,by have:=g.size;omega,c⟩) ⟨[],rfl,v⟩).mono ?_
 . rintro d x W p ⟨q,rfl,f⟩ c;obtain⟨fn,tmps,assign,body,L,E⟩:=F q ⟨x,p⟩ W f (by simpa using c);refine⟨fn,tmps,assign,body,L,E.mono ?_⟩;rintro e u (⟨rfl,i,y⟩|⟨rfl,i⟩)
   . exact .inl ⟨rfl,⟨q++[⟨x,p⟩],sP,i⟩,y⟩
   exact .inr ⟨rfl,q++[⟨x,p⟩],sP,i⟩
 rintro e u ⟨j,⟨r,f,q,rfl,c⟩|⟨d,f,q,rfl,c⟩⟩
 . exact⟨j,.inl ⟨q,f,c⟩⟩
 exact⟨j,.inr ⟨q,f,c⟩⟩
end
theorem Sz(h:q:=by rintro U E1;clear E0;have i0:=E1.ib.cell 0;have i1:=E1.ib.cell 1;have i2:=E1.ib.cell 2;have i3:=E1.ib.cell 3;have s0:=E1.sb.cell 0;have s1:=E1.sb.cell 1;have s2:=E1.sb.cell 2;have s3:=E1.sb.cell 3;have s4:=E1.sb.cell 4;have s5:=E1.sb.cell 5;have s6:=E1.sb.cell 6;have s7:=E1.sb.cell 7;simp only[kB,i9,kC]at i0 i1 i2 i3 s0 s1 s2 s3 s4 s5 s6 s7;go_wp2_with fail;refine(Hh ⟨Z r1 p.bO r3,Z k1 p.ej k3,Z f1 p.bW f3,Z t1 p.eD t3⟩ ⟨Z g1 f.gw g3,Z g4 f.gG g6,Z g7 f.eC g9⟩ f q tt U hs (HR.a7 E1.e8 lR) hq).mono ?_;rintro e u1 ⟨rfl,b1⟩;have HB:=Av (Ar E1.e8 lR b1);clear b1;go_wp2_with fail;go_ret;exact Fc HB [tt] 1 1 rfl):q:=h
theorem V9(v:VP)(p:MP)(g:VF)(f:MF)(q:Nat)(tt b c:Int)(w:Y)(hs:f.small)(E:p.small)(d:Da w v p)(h:DE w g f)(hq:(f.gw++f.gG)[q]?=K tt):Ai Ap 243 #[Am #[v.r,v.k,v.f,v.t,g.p,f.gy,g.l,g.c],Am #[iZ 3,q,b,c]] w (Df w [tt]):=by
 obtain⟨r1,r3,y⟩:=(show∃a c,v.r=Z a p.bO c from by obtain⟨_,_,i,_⟩:=d.bO;exact i.dk);obtain⟨k1,k3,x⟩:=d.ej.dk;obtain⟨t1,t3,z⟩:=d.eD.dk;obtain⟨f1,f3,j⟩:=(show∃a c,v.f=Z a p.bW c from by obtain⟨_,_,i,_⟩:=d.bW;exact i.dk);obtain⟨g1,g3,m⟩:=h.1.dk;obtain⟨g4,g6,n⟩:=h.2.1.dk;obtain⟨g7,g9,s⟩:=h.2.2.dk;obtain⟨D,C,B⟩:=g;obtain⟨H,G,F,I⟩:=v;simp only[]at y x z j m n s;subst y x z j m n s;have A:=Av d;have HR:=Av h;clear d h;have E0:=Av (GY.of w ⟨Z r1 p.bO r3,Z k1 p.ej k3,Z f1 p.bW f3,Z t1 p.eD t3⟩ ⟨Z g1 f.gw g3,Z g4 f.gG g6,Z g7 f.eC g9⟩ f 3 (q:Int) b c);go_enter func243,ntmps243;go_upto_region 1 with fail
 refine Ax (λu=>Ae (GY w u ⟨Z r1 p.bO r3,Z k1 p.ej k3,Z f1 p.bW f3,Z t1 p.eD t3⟩ ⟨Z g1 f.gw g3,Z g4 f.gG g6,Z g7 f.eC g9⟩ f 3 (q:Int) b c)) E0 ?_;exact Sz
theorem OG(h:q:=by rintro e u1 ⟨rfl,b1⟩;have HB:=Av (Ar E1.e8 lR b1);clear b1;go_wp2_with fail;go_ret;exact Fc HB [tt] 1 1 rfl):q:=h
theorem Wa(v:VP)(p:MP)(g:VF)(f:MF)(q:Nat)(z:Nat)(r:List Int)(tt c:Int)(w:Y)(hs:f.small)(R:p.small)(b:Da w v p)(d:DE w g f)(S:p.bO[q]?=K r)(T:r[z]?=K tt):Ai Ap 243 #[Am #[v.r,v.k,v.f,v.t,g.p,f.gy,g.l,g.c],Am #[iZ 5,q,z,c]] w (Df w [tt]):=by
 obtain⟨B,C,O⟩:=(show∃a c,v.r=Z a p.bO c from by obtain⟨_,_,x,_⟩:=b.bO;exact x.dk);obtain⟨y,A,N⟩:=b.ej.dk;obtain⟨D,E,P⟩:=b.eD.dk;obtain⟨f1,f3,G⟩:=(show∃a c,v.f=Z a p.bW c from by obtain⟨_,_,x,_⟩:=b.bW;exact x.dk);obtain⟨h,i,H⟩:=d.1.dk;obtain⟨j,m,I⟩:=d.2.1.dk;obtain⟨n,s,L⟩:=d.2.2.dk;obtain⟨gp,gl,gc⟩:=g;obtain⟨vr,vk,vf,vt⟩:=v;simp only[]at O N P G H I L;subst O N P G H I L;have Q:=Av b;have HR:=Av d;clear b d;have F:=Av (GY.of w ⟨Z B p.bO C,Z y p.ej A,Z f1 p.bW f3,Z D p.eD E⟩ ⟨Z h f.gw i,Z j f.gG m,Z n f.eC s⟩ f 5 (q:Int) (z:Int) c);go_enter func243,ntmps243;go_upto_region 1 with fail
 refine Ax (λu=>Ae (GY w u ⟨Z B p.bO C,Z y p.ej A,Z f1 p.bW f3,Z D p.eD E⟩ ⟨Z h f.gw i,Z j f.gG m,Z n f.eC s⟩ f 5 (q:Int) (z:Int) c)) F ?_;rintro U E1;clear F;have V:=E1.ib.cell 0;have W:=E1.ib.cell 1;have X:=E1.ib.cell 2;have i3:=E1.ib.cell 3;have s0:=E1.sb.cell 0;have s1:=E1.sb.cell 1;have s2:=E1.sb.cell 2;have s3:=E1.sb.cell 3;have s4:=E1.sb.cell 4;have s5:=E1.sb.cell 5;have s6:=E1.sb.cell 6;have s7:=E1.sb.cell 7;simp only[kB,i9,kC]at V W X i3 s0 s1 s2 s3 s4 s5 s6 s7;go_wp2_with fail;refine(ER ⟨Z B p.bO C,Z y p.ej A,Z f1 p.bW f3,Z D p.eD E⟩ p ⟨Z h f.gw i,Z j f.gG m,Z n f.eC s⟩ f 5 c q z r tt U R (Q.a7 E1.e8 lR).bO S T).mono ?_;exact OG
theorem Wc(v:VP)(p:MP)(g:VF)(f:MF)(q:Nat)(z:Nat)(r:List Int)(i c:Int)(w:Y)(hs:f.small)(W:p.small)(d:Da w v p)(h:DE w g f)(X:p.bO[q]?=K r)(hz:r[z]?=K i):Ai Ap 243 #[Am #[v.r,v.k,v.f,v.t,g.p,f.gy,g.l,g.c],Am #[iZ 7,q,z,c]] w (Df w [3,i]):=by
 obtain⟨D,E,R⟩:=(show∃a c,v.r=Z a p.bO c from by obtain⟨_,_,A,_⟩:=d.bO;exact A.dk);obtain⟨B,C,Q⟩:=d.ej.dk;obtain⟨F,G,S⟩:=d.eD.dk;obtain⟨f1,f3,L⟩:=(show∃a c,v.f=Z a p.bW c from by obtain⟨_,_,A,_⟩:=d.bW;exact A.dk);obtain⟨j,m,N⟩:=h.1.dk;obtain⟨n,s,O⟩:=h.2.1.dk;obtain⟨x,y,P⟩:=h.2.2.dk;obtain⟨gp,gl,gc⟩:=g;obtain⟨vr,vk,vf,vt⟩:=v;simp only[]at R Q S L N O P;subst R Q S L N O P;have V:=Av d;have HR:=Av h;clear d h;have H:=Av (GY.of w ⟨Z D p.bO E,Z B p.ej C,Z f1 p.bW f3,Z F p.eD G⟩ ⟨Z j f.gw m,Z n f.gG s,Z x f.eC y⟩ f 7 (q:Int) (z:Int) c);go_enter func243,ntmps243;go_upto_region 1 with fail
 refine Ax (λu=>Ae (GY w u ⟨Z D p.bO E,Z B p.ej C,Z f1 p.bW f3,Z F p.eD G⟩ ⟨Z j f.gw m,Z n f.gG s,Z x f.eC y⟩ f 7 (q:Int) (z:Int) c)) H ?_;rintro U b;clear H;have i0:=b.ib.cell 0;have i1:=b.ib.cell 1;have i2:=b.ib.cell 2;have i3:=b.ib.cell 3;have s0:=b.sb.cell 0;have s1:=b.sb.cell 1;have s2:=b.sb.cell 2;have s3:=b.sb.cell 3;have s4:=b.sb.cell 4;have s5:=b.sb.cell 5;have s6:=b.sb.cell 6;have s7:=b.sb.cell 7;simp only[kB,i9,kC]at i0 i1 i2 i3 s0 s1 s2 s3 s4 s5 s6 s7;go_wp2_with fail;refine(ER ⟨Z D p.bO E,Z B p.ej C,Z f1 p.bW f3,Z F p.eD G⟩ p ⟨Z j f.gw m,Z n f.gG s,Z x f.eC y⟩ f 7 c q z r i U W (V.a7 b.e8 lR).bO X hz).mono ?_;rintro e u1 ⟨rfl,I⟩;have T:=Av (Ar b.e8 lR I);clear I;go_wp2_with fail;go_ret;exact Fc T [3,i] 2 2 rfl
theorem US(v:VP)(p:MP)(g:VF)(f:MF)(q:Nat)(a b c:Int)(w:Y)(hs:f.small)(ae:p.small)(h:Da w v p)(i:DE w g f):Ai Ap 243 #[Am #[v.r,v.k,v.f,v.t,g.p,f.gy,g.l,g.c],Am #[iZ 29,a,b,c]] w (Df w (A7 f)):=by
 obtain⟨Q,R,L⟩:=(show∃a c,v.r=Z a p.bO c from by obtain⟨_,_,A,_⟩:=h.bO;exact A.dk);obtain⟨O,P,I⟩:=h.ej.dk;obtain⟨S,T,N⟩:=h.eD.dk;obtain⟨f1,f3,E⟩:=(show∃a c,v.f=Z a p.bW c from by obtain⟨_,_,A,_⟩:=h.bW;exact A.dk);obtain⟨j,m,F⟩:=i.1.dk;obtain⟨n,x,G⟩:=i.2.1.dk;obtain⟨y,z,H⟩:=i.2.2.dk;obtain⟨gp,gl,gc⟩:=g;obtain⟨vr,vk,vf,vt⟩:=v;simp only[]at L I N E F G H;subst L I N E F G H;have HP:=Av h;have HR:=Av i;clear h i;have C:=Av (GY.of w ⟨Z Q p.bO R,Z O p.ej P,Z f1 p.bW f3,Z S p.eD T⟩ ⟨Z j f.gw m,Z n f.gG x,Z y f.eC z⟩ f 29 a b c);go_enter func243,ntmps243;go_upto_region 1 with fail
 refine Ax (λu=>Ae (GY w u ⟨Z Q p.bO R,Z O p.ej P,Z f1 p.bW f3,Z S p.eD T⟩ ⟨Z j f.gw m,Z n f.gG x,Z y f.eC z⟩ f 29 a b c)) C ?_;rintro U d;clear C;have W:=d.ib.cell 0;have X:=d.ib.cell 1;have i2:=d.ib.cell 2;have i3:=d.ib.cell 3;have s0:=d.sb.cell 0;have s1:=d.sb.cell 1;have s2:=d.sb.cell 2;have s3:=d.sb.cell 3;have s4:=d.sb.cell 4;have s5:=d.sb.cell 5;have s6:=d.sb.cell 6;have s7:=d.sb.cell 7;simp only[kB,i9,kC]at W X i2 i3 s0 s1 s2 s3 s4 s5 s6 s7;go_wp2_with fail;refine(PY ⟨Z j f.gw m,Z n f.gG x,Z y f.eC z⟩ f U).mono ?_;rintro e u1 ⟨s,rfl,B,D⟩;have V:Ae (Df w (A7 f) (Al s) u1):=⟨s,rfl,B,Ar d.e8 lR D⟩;obtain⟨sa,sc,rfl⟩:=B.dk;clear B D;go_wp2_with fail;go_ret;exact V
theorem VC(v:VP)(p:MP)(g:VF)(f:MF)(q:Nat)(tt b c:Int)(w:Y)(hs:f.small)(E:p.small)(d:Da w v p)(h:DE w g f)(hq:(f.gw++f.gG)[q]?=K tt):Ai Ap 246 #[Am #[v.r,v.k,v.f,v.t,g.p,f.gy,g.l,g.c],Am #[iZ 2,q,b,c]] w (Df w [tt]):=by
 obtain⟨r1,r3,y⟩:=(show∃a c,v.r=Z a p.bO c from by obtain⟨_,_,i,_⟩:=d.bO;exact i.dk);obtain⟨k1,k3,x⟩:=d.ej.dk;obtain⟨t1,t3,z⟩:=d.eD.dk;obtain⟨f1,f3,j⟩:=(show∃a c,v.f=Z a p.bW c from by obtain⟨_,_,i,_⟩:=d.bW;exact i.dk);obtain⟨g1,g3,m⟩:=h.1.dk;obtain⟨g4,g6,n⟩:=h.2.1.dk;obtain⟨g7,g9,s⟩:=h.2.2.dk;obtain⟨D,C,B⟩:=g;obtain⟨H,G,F,I⟩:=v;simp only[]at y x z j m n s;subst y x z j m n s;have A:=Av d;have HR:=Av h;clear d h;have E0:=Av (GY.of w ⟨Z r1 p.bO r3,Z k1 p.ej k3,Z f1 p.bW f3,Z t1 p.eD t3⟩ ⟨Z g1 f.gw g3,Z g4 f.gG g6,Z g7 f.eC g9⟩ f 2 (q:Int) b c);go_enter func246,ntmps246;go_upto_region 1 with fail
 refine Ax (λu=>Ae (GY w u ⟨Z r1 p.bO r3,Z k1 p.ej k3,Z f1 p.bW f3,Z t1 p.eD t3⟩ ⟨Z g1 f.gw g3,Z g4 f.gG g6,Z g7 f.eC g9⟩ f 2 (q:Int) b c)) E0 ?_;exact Sz
theorem VD(v:VP)(p:MP)(g:VF)(f:MF)(q:Nat)(z:Nat)(r:List Int)(tt c:Int)(w:Y)(hs:f.small)(R:p.small)(b:Da w v p)(d:DE w g f)(S:p.bO[q]?=K r)(T:r[z]?=K tt):Ai Ap 246 #[Am #[v.r,v.k,v.f,v.t,g.p,f.gy,g.l,g.c],Am #[iZ 4,q,z,c]] w (Df w [tt]):=by
 obtain⟨B,C,O⟩:=(show∃a c,v.r=Z a p.bO c from by obtain⟨_,_,x,_⟩:=b.bO;exact x.dk);obtain⟨y,A,N⟩:=b.ej.dk;obtain⟨D,E,P⟩:=b.eD.dk;obtain⟨f1,f3,G⟩:=(show∃a c,v.f=Z a p.bW c from by obtain⟨_,_,x,_⟩:=b.bW;exact x.dk);obtain⟨h,i,H⟩:=d.1.dk;obtain⟨j,m,I⟩:=d.2.1.dk;obtain⟨n,s,L⟩:=d.2.2.dk;obtain⟨gp,gl,gc⟩:=g;obtain⟨vr,vk,vf,vt⟩:=v;simp only[]at O N P G H I L;subst O N P G H I L;have Q:=Av b;have HR:=Av d;clear b d;have F:=Av (GY.of w ⟨Z B p.bO C,Z y p.ej A,Z f1 p.bW f3,Z D p.eD E⟩ ⟨Z h f.gw i,Z j f.gG m,Z n f.eC s⟩ f 4 (q:Int) (z:Int) c);go_enter func246,ntmps246;go_upto_region 1 with fail
 refine Ax (λu=>Ae (GY w u ⟨Z B p.bO C,Z y p.ej A,Z f1 p.bW f3,Z D p.eD E⟩ ⟨Z h f.gw i,Z j f.gG m,Z n f.eC s⟩ f 4 (q:Int) (z:Int) c)) F ?_;rintro U E1;clear F;have V:=E1.ib.cell 0;have W:=E1.ib.cell 1;have X:=E1.ib.cell 2;have i3:=E1.ib.cell 3;have s0:=E1.sb.cell 0;have s1:=E1.sb.cell 1;have s2:=E1.sb.cell 2;have s3:=E1.sb.cell 3;have s4:=E1.sb.cell 4;have s5:=E1.sb.cell 5;have s6:=E1.sb.cell 6;have s7:=E1.sb.cell 7;simp only[kB,i9,kC]at V W X i3 s0 s1 s2 s3 s4 s5 s6 s7;go_wp2_with fail;refine(ER ⟨Z B p.bO C,Z y p.ej A,Z f1 p.bW f3,Z D p.eD E⟩ p ⟨Z h f.gw i,Z j f.gG m,Z n f.eC s⟩ f 4 c q z r tt U R (Q.a7 E1.e8 lR).bO S T).mono ?_;exact OG
theorem VE(v:VP)(p:MP)(g:VF)(f:MF)(q:Nat)(z:Nat)(r:List Int)(tt c:Int)(w:Y)(hs:f.small)(R:p.small)(b:Da w v p)(d:DE w g f)(S:p.bO[q]?=K r)(T:r[z]?=K tt):Ai Ap 246 #[Am #[v.r,v.k,v.f,v.t,g.p,f.gy,g.l,g.c],Am #[iZ 6,q,z,c]] w (Df w [tt]):=by
 obtain⟨B,C,O⟩:=(show∃a c,v.r=Z a p.bO c from by obtain⟨_,_,x,_⟩:=b.bO;exact x.dk);obtain⟨y,A,N⟩:=b.ej.dk;obtain⟨D,E,P⟩:=b.eD.dk;obtain⟨f1,f3,G⟩:=(show∃a c,v.f=Z a p.bW c from by obtain⟨_,_,x,_⟩:=b.bW;exact x.dk);obtain⟨h,i,H⟩:=d.1.dk;obtain⟨j,m,I⟩:=d.2.1.dk;obtain⟨n,s,L⟩:=d.2.2.dk;obtain⟨gp,gl,gc⟩:=g;obtain⟨vr,vk,vf,vt⟩:=v;simp only[]at O N P G H I L;subst O N P G H I L;have Q:=Av b;have HR:=Av d;clear b d;have F:=Av (GY.of w ⟨Z B p.bO C,Z y p.ej A,Z f1 p.bW f3,Z D p.eD E⟩ ⟨Z h f.gw i,Z j f.gG m,Z n f.eC s⟩ f 6 (q:Int) (z:Int) c);go_enter func246,ntmps246;go_upto_region 1 with fail
 refine Ax (λu=>Ae (GY w u ⟨Z B p.bO C,Z y p.ej A,Z f1 p.bW f3,Z D p.eD E⟩ ⟨Z h f.gw i,Z j f.gG m,Z n f.eC s⟩ f 6 (q:Int) (z:Int) c)) F ?_;rintro U E1;clear F;have V:=E1.ib.cell 0;have W:=E1.ib.cell 1;have X:=E1.ib.cell 2;have i3:=E1.ib.cell 3;have s0:=E1.sb.cell 0;have s1:=E1.sb.cell 1;have s2:=E1.sb.cell 2;have s3:=E1.sb.cell 3;have s4:=E1.sb.cell 4;have s5:=E1.sb.cell 5;have s6:=E1.sb.cell 6;have s7:=E1.sb.cell 7;simp only[kB,i9,kC]at V W X i3 s0 s1 s2 s3 s4 s5 s6 s7;go_wp2_with fail;refine(ER ⟨Z B p.bO C,Z y p.ej A,Z f1 p.bW f3,Z D p.eD E⟩ p ⟨Z h f.gw i,Z j f.gG m,Z n f.eC s⟩ f 6 c q z r tt U R (Q.a7 E1.e8 lR).bO S T).mono ?_;exact OG
end Go.Proofs.YtmalfecapdmdbaaGreat
