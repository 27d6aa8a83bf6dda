import Derived.Test.YtkgohaigebcgoaaGreatDoorLo44
import Derived.WalkMore
import Derived.RangeFuncNested
import Derived.RangeFuncBound
import Derived.RangeFuncCalls
import Derived.RangeFuncLeaves
import Derived.Shelf.Abstract
import Derived.Shelf.RegionOpen
import Derived.OwnWalkIn
import Derived.TacticsInMore
import Derived.LoopNIn
import Derived.LoopIn
import Derived.Shelf.SlSortCmp.NoneTotal
namespace Go.Proofs.YtkgohaigebcgoaaGreatDoor
open Go.ChangeShapes Go.WideShapes Go.ChangeAt Go.RowKit Go.Proofs.Tryz
set_option linter.unusedVariables false
open Go.Value renaming slice → Z,int → Ag,agg → An,bool → Ao,tuple → Ap
open Option renaming some → K,none → M
open Go renaming World → Y,Calls → Ai,Value → J,TypeId → Aj
open Go.RowKit renaming Hid → Ae,Below → Ah
open Go.IntKind renaming i64 → Af
open Go.Obj renaming cells → Ak
open Go.Ending renaming returned → Am
open Go.Proofs.Tryz renaming prog → Aq
open Go.World renaming setCell → Aa,alloc → Ac,ownsRow → Ab
open List renaming flatMap → Ad
set_option maxHeartbeats 16000000
set_option maxRecDepth 100000
variable {c B g o:Nat}
theorem He(B T:Nat)(v:BQ)(n W cC gS cS:Nat)(I:List Nat)(C:List Int)(E:Nat->List Nat)(R:List Nat)(X:Nat->Nat)(h:Nat)(x:Fs)(s:Option Addr)(F:Nat)(d:List Int)(w:Y)(hn:n<=1024)(hS:CH w B T v n W cC gS cS I C)(hF:pT w v n E R X)(hh:h<n)(dt:d.length<=1024)(hk:Rd w 1 (Z s d F) d (Ad As d))(hz:∀z∈d,∃b:Nat,z=(b:Int)/\b<n):
 Ai Aq 165 #[.pointer T,An #[h,Z x.a x.n x.c,Z s d F]] w (qV w n E d I C h X):=by
 obtain⟨k0,cR,cZ,d8,d9⟩:=km Cy;have dv:= @run_makeMap Aq;have H:=Aw (fd hS (fd hF (fd hk hz)));obtain⟨gb,ob,bJ,bP,cI⟩:=hF.gr;obtain⟨go,oo,bQ,bS,cK⟩:=hF.od;have HV:=Aw (fd bJ (fd bP (fd bQ bS)));have dx:R.length<=1024:=hF.rl;clear hS hF hk hz bJ bP bQ bS cI cK;have bI:∀u,Ah w w u->u ⟨T,11,M⟩=K (sO gb ob n v.b.c)/\u ⟨T,12,M⟩=K (sO go oo R v.o.c)/\u ⟨T,15,M⟩=K (sG W n cC)/\u ⟨T,16,M⟩=K (sG gS n cS):= λu hu=>by obtain⟨a1,a2,a3,a4⟩:=(H.1.av hu).cells;rw[HV.1,HV.2.1]at a1;rw[HV.2.2.1,HV.2.2.2]at a2;exact⟨a1,a2,a3,a4⟩
 have aI:=Aw bI;clear bI;have dq:(h:Int)<(n:Int):=oM;have E0:Ae (Ay (Ac w (Ak #[h,Z x.a x.n x.c,Z s d F] 65)) w #[h,Z x.a x.n x.c,Z s d F] 65/\Ah w w (Ac w (Ak #[h,Z x.a x.n x.c,Z s d F] 65))):=⟨Ay.new _ _ _,Al _ _⟩
 go_enter func165,ntmps165;go_upto_region 1 with fail
 refine Av (λu=>Ae (Ay u w #[h,Z x.a x.n x.c,Z s d F] 65/\Ah w w u)) E0 ?_
 rintro U HE;clear E0;go_step3;have bM:=Al U (.map #[] 0);have m2:=(HE.1.av bM).cell 2;simp only[i5,f8,i6]at m2;have aF:Ae (AP (Ac U (.map #[] 0)) U 0 (.map [])/\Ah w w (Ac U (.map #[] 0))/\Ay (Ac U (.map #[] 0)) w #[h,Z x.a x.n x.c,Z s d F] 65):=⟨World.ownsMap_made _ _ _ _,Ar HE.2 lR bM,HE.1.av bM⟩
 have aG:=Aw HE.1.lt;clear bM HE;go_upto_region 2 with fail
 have bC:=Aw (Rd.av H.2.2.1 aF.2.1 lR);have bG:Ae (∀g o,s=K ⟨g,o,M⟩->0<d.length->g≠ ↑U):= λg o e hp q=>by
  rcases H.2.2.1.2 with⟨e1,_⟩|⟨g1,o1,c1,e1,hc⟩
  . omega
  simp only[i8,kW]at e1;have hl:=i7 (hc 0 _ (Fc (an hp)));have:=aG.o;rw[e]at e1;simp only[jJ,lT,mD]at e1;simp only[]at hl;omega
 go_wp2_with fail;refine(Sj U s F d (Ac U (.map #[] 0)) oM (λz hz=>by obtain⟨b,rfl,P⟩:=H.2.2.2 z hz;exact Dm oM) bC bG aF.1).mono ?_;rintro e u2 ⟨rfl,ce,aX⟩;have E2:=Aw (fd ce (fd (aF.2.1.grown aX aF.2.1.size (λj hj=>by cases hj;exact mI aG)) (fd (aF.2.2.apart aX (by have:=aG.o;omega)) ((by have:=aX.size;rw[l8]at this;omega):(U:Nat)< ↑u2))))
 clear ce aX aF bC bG m2;obtain⟨ai,aj,aq,au⟩:=aI.o u2 E2.2.1;go_upto_region 4 with(at_make;refine mc _ rfl _ _ 27 rfl u2 2 k0 (iZ 0) 1 underlying27 cR cZ d8 Af Af _ _ n rfl rfl rfl rfl (by rw[d9];omega) oX lR ?_;intro w3 aY bY;rw[Yk]at aY)
 have aT:Ah u2 u2 w3:=(jZ _ _).grown bY lR (λk hk=>by cases hk);have E3:Ae (Si w w3 U h x s F d n u2 (List.replicate n 0)):=by obtain⟨⟨aM,D,s1,s2⟩,s3,s4,s5⟩:=E2.o;have:=aG.o;exact⟨⟨aM,D,s1.av aT,s2⟩,s4.av aT,⟨aY.1,aY.2.imp_right λ⟨g,cap,cH,q1,q2,q3⟩=>⟨g,cap,cH,q1,oM,q3⟩⟩,Ar s3 lR aT,oM,oM⟩
 clear aY bY aT ai aj aq au E2;generalize u2.heap.size=r at E3⊢;generalize U.heap.size=SB at E3 aG⊢;clear aG;have aE:=Aw (E3.av (At _));clear E3;have KS:∀m,Ah w w m->Ay m w #[h,Z x.a x.n x.c,Z s d F] 65->m w=K ↑h/\m ⟨T,15,M⟩=K (sG W n cC)/\m ⟨W,h,M⟩=K ↑(cf C h):= λm P hB=>⟨hB.cell 0,(aI.o m P).2.2.1,(H.1.av P).jA hh⟩
 refine wp_region_held_drew (S:= λm=>m w=K ↑h/\m ⟨T,15,M⟩=K (sG W n cC)/\m ⟨W,h,M⟩=K ↑(cf C h)) kR (KS _ aE.cq aE.lb) (λaJ=> ?_)
 generalize w3.drew=U3 at aE aJ⊢;refine A5 0 ?_ (hw:=kR);refine A5 1 ?_ (hw:=kR);refine A5 2 ?_ (hw:=kR);refine A5 3 ?_ (hw:=kR);refine A5 4 ?_ (hw:=kR);refine A5 5 ?_ (hw:=kR);refine A5 6 ?_ (hw:=kR);refine A5 7 ?_ (hw:=kR);refine A5 8 ?_ (hw:=kR);refine A5 9 ?_ (hw:=kR);refine A5 10 ?_ (hw:=kR);refine A5 11 ?_ (hw:=kR);go_simp;refine DU 12 ?_;intro KC aO;rw[jP kR];obtain⟨c0,z0⟩:=aE.at_ jT hh;have E4:Ae (Si w (Aa U3 ⟨r,h,M⟩ (cf C h)) SB h x s F d n r ((List.replicate n 0).set h (cf C h))/\WQ E n (λb=>decide ((b:Int)∈d)) I C h X ((List.replicate n 0).set h (cf C h)) 0 0):=⟨aE.put h _,WQ.start hh (GN H.1.cc h)⟩
 go_simp;refine aO.o _ _ (KS _ E4.1.cq E4.1.lb) (λaJ=> ?_);clear aO KC;refine wpAnyH_done kR ?_ _;clear aJ KS c0 z0 aE;generalize Aa U3 ⟨r,h,M⟩ (cf C h)=U4 at E4⊢;generalize (List.replicate n (0:Int)).set h (cf C h)=L0 at E4;obtain⟨ai,aj,aq,au⟩:=aI.o U4 E4.1.cq;go_wp2_with fail;go_step3;go_wp2_with fail;clear ai aj aq au;go_loopw [8,45] (λsm i wr=>∃(k:Nat) (L:List Int),k<= ↑R/\sm=Ao true/\i=iZ k/\Ae (Si w wr SB h x s F d n r L/\WQ E n (λb=>decide ((b:Int)∈d)) I C h X L k 0)) (λ_ i _=> ↑R-(intOf i).toNat)
 case atStart=>exact⟨0,L0,oM,rfl,rfl,E4⟩
 case round=>
 clear E4;obtain⟨k,L,hk,rfl,rfl,l⟩:=hrel;by_cases bt:k< ↑R
 case neg=>
  have HE:Ae (qV w n E d I C h X (Am (Ap #[sG r n n,true])) wr):=⟨r,L,true,rfl, λ_=>⟨λc hc=>(l.1.at_ l.2.len hc).1,l.2.gu⟩,.inl ⟨rfl,k,l.2, λb P=>by have:=(f7.1 (H.2.1.p1 b P)).1;omega⟩,l.1.cq⟩;go_wp2_with fail;try rw[Exit.noGoto_ret]
  exact kA (v:=Ap #[sG r n n,true]) (by simp[results,results165,go_sem]) rfl HE
 have du:(k:Int)<(R:Int):=oM;obtain⟨b,P⟩:∃b,R[k]?=K b:=⟨_,an bt⟩;have aK:b<n:=H.2.1.rb b (hC P);have ax:Ae (X b=k/\∀b',b'<n->X b'=k->b'=b):=⟨H.2.1.p2 k b P, λb' h1 h2=>by have:=H.2.1.p1 b' h1;rw[h2,P]at this;exact(jM this).symm⟩
 have o0:wr ⟨go,oo+k,M⟩=K ↑b:=by
  obtain⟨di,dD,q1,_,q3⟩:=(H.2.1.av l.1.cq).od;rw[HV.2.2.1]at q1;cases q1
  exact q3 k b P
 obtain⟨aM,D,s1,s2⟩:=l.1.set;have G:=Jr SB aM D (b:Int) wr (Dm oM) s1;rw[s2 (b:Int)]at G;clear s1 s2 P;by_cases aQ:(b:Int)∈d;case neg=>
  rw[kj aQ]at G;have V:=Aw G;clear G;go_wp2_with fail;refine V.mono ?_;rintro e u5 ⟨rfl,O⟩;have ae:=Aw (fd (l.1.av O) (l.2.jx λb' h1 h2=>by rw[ax.2 b' h1 h2];simpa using aQ));clear O o0;go_wp2_with fail;go_roundw;case rel=>exact⟨k+1,L,oM,by trivial,by go_num,ae⟩
  exact oI
 rw[decide_eq_true aQ]at G;have V:=Aw G;clear G;go_wp2_with fail;refine V.mono ?_;rintro e u5 ⟨rfl,O⟩;have ae:=Aw (fd (l.1.av O) l.2);clear O o0 V l;obtain⟨ai,aj,aq,au⟩:=aI.o u5 ae.1.cq;obtain⟨s0,bV⟩:=(H.1.av ae.1.cq).ig aK;obtain⟨na,nc,g0,cU⟩:∃a c,u5 ⟨gb,ob+b*3+2,M⟩=K (Z a (E b).length c)/\Lp u5 (Z a (E b).length c) (E b):=by
  obtain⟨cM,db,q1,_,q3⟩:=(H.2.1.av ae.1.cq).gr;rw[HV.1]at q1;cases q1
  exact q3 b aK
 have bH:Ae (∀u,Ah w w u->Lp u (Z na (E b).length nc) (E b)):= λu hu=>by
  obtain⟨cM,db,q1,_,q3⟩:=H.2.1.gr;rw[HV.1]at q1;cases q1
  obtain⟨a',c',e1,e2⟩:=q3 b aK;have e3:=Az ae.1.cq e1;rw[g0]at e3;simp only[jJ,i8,kW]at e3;rw[e3.1,e3.2];exact e2.av hu
 obtain⟨f,hf⟩:∃f,jf I b=f:=⟨_,rfl⟩;have aA:=Aw hf;rw[hf]at s0 bV;have dj:(b:Int)<(n:Int):=oM;have dm:(f:Int)<(n:Int):=oM;have cQ:(E b).length<=1024:=H.2.1.sz b;have bx:=Aw aQ;clear cU hf aQ;generalize bT:(E b).length=el at g0 bH cQ;have bq:=Aw bT;clear bT;go_wp2_with fail;clear ai aj aq au s0 g0;go_loopw [8,71] (λsm i wr=>∃(q:Nat) (L:List Int),q<=el/\sm=Ao true/\i=iZ q/\Ae (Si w wr SB h x s F d n r L/\WQ E n (λb=>decide ((b:Int)∈d)) I C h X L k q)) (λ_ i _=>el-(intOf i).toNat)
 case atStart=>exact⟨0,L,oM,rfl,rfl,ae⟩
 case round=>
 clear ae L;obtain⟨q,L,hq,rfl,rfl,l⟩:=hrel;by_cases cW:q<el;case neg=>
  have p:=Aw (fd l.1 (l.2.jn λb' h1 h2=>by rw[ax.2 b' h1 h2,bq];omega));clear l;go_wp2_with fail;go_roundw;case rel=>exact⟨k+1,L,oM,by trivial,by go_num,p⟩
  exact oI
 have dw:(q:Int)<(el:Int):=oM;obtain⟨y,hy⟩:∃y,(E b)[q]?=K y:=⟨_,an (by rw[bq];exact cW)⟩;have bu:y<n:=H.2.1.eb b aK y (hC hy);obtain⟨ng,no,cJ,e0⟩:∃g o,na=K ⟨g,o,M⟩/\wr ⟨g,o+q,M⟩=K ↑y:=by
  rcases(bH.o wr l.1.cq).2 with⟨q0,_⟩|⟨g,o,c',e1,hc⟩
  . rw[bq]at q0;omega
  simp only[i8]at e1;exact⟨g,o,e1.1,hc q _ (Rm hy)⟩
 obtain⟨s0,aS⟩:=(H.1.av l.1.cq).ig bu;obtain⟨t,ht⟩:∃t,jf I y=t:=⟨_,rfl⟩;rw[ht]at s0 aS;have A:=Aw (fd ht hy);have dB:(y:Int)<(n:Int):=oM;have dy:(t:Int)<(n:Int):=oM;obtain⟨ai,aj,aq,au⟩:=aI.o wr l.1.cq;obtain⟨aM,D,s1,s2⟩:=l.1.set;have G:=Jr SB aM D (y:Int) wr (Dm oM) s1;rw[s2 (y:Int)]at G;clear s1 s2 hy ht;subst cJ;by_cases aR:(y:Int)∈d;case neg=>
  rw[kj aR]at G;have V:=Aw G;clear G;go_wp2_with fail;refine V.mono ?_;rintro e u6 ⟨rfl,O⟩;have p:=Aw (fd (l.1.av O) (l.2.gM ax.2 A.2 λhq=>aR (by simpa using hq.1.2)));have l0:=p.1.lb.cell 0;simp only[i5,f8]at l0;clear O V l ai aj aq au s0 e0;go_wp2_with fail;go_roundw;case rel=>exact⟨q+1,L,oM,by trivial,by go_num,p⟩
  exact oI
 rw[decide_eq_true aR]at G;have V:=Aw G;have bB:=Aw aR;clear G aR;go_wp2_with fail;refine V.mono ?_;rintro e u6 ⟨rfl,O⟩;have p:=Aw (fd (l.1.av O) l.2);have l0:=p.1.lb.cell 0;simp only[i5,f8]at l0;clear O V l ai aj aq au s0 e0;by_cases aZ:t=f;case pos=>
  have aa:=Aw (fd p.1 (p.2.gM ax.2 A.2 λhq=>hq.2.1 (by rw[A.1,aA.o,aZ])));subst aZ;clear p;go_wp2_with fail;go_roundw;case rel=>exact⟨q+1,L,oM,by trivial,by go_num,aa⟩
  exact oI
 have cX:¬(t:Int)=(f:Int):=oM;have dz:((t:Int)==(f:Int))=false:=by simpa using cX
 by_cases bf:t=h;case pos=>
  have aa:=Aw (fd p.1 (p.2.gM ax.2 A.2 λhq=>hq.2.2 (by rw[A.1,bf])));subst bf;clear p;go_wp2_with fail;go_roundw;case rel=>exact⟨q+1,L,oM,by trivial,by go_num,aa⟩
  exact oI
 have cY:¬(t:Int)=(h:Int):=oM;have dA:((t:Int)==(h:Int))=false:=by simpa using cY
 go_upto_region 16 with fail
 clear l0;obtain⟨yo,bj⟩:∃z,cf L t=z:=⟨_,rfl⟩;obtain⟨yf,bi⟩:∃z,cf L f=z:=⟨_,rfl⟩;obtain⟨yc,bg⟩:∃z,cf C t=z:=⟨_,rfl⟩;have b1:Ks yo:=bj▸GN p.2.gu t;have b2:Ks yf:=bi▸GN p.2.gu f;have b3:Ks yc:=bg▸GN H.1.cc t;obtain⟨dd,de⟩:=b1;obtain⟨df,dg⟩:=b2;obtain⟨cj,dh⟩:=b3;have N:=Aw (fd bj (fd bi bg));have KS:∀m,Si w m SB h x s F d n r L->m ⟨r,t,M⟩=K ↑yo/\m ⟨r,f,M⟩=K ↑yf/\m ⟨T,15,M⟩=K (sG W n cC)/\m ⟨W,t,M⟩=K ↑yc:= λm hW=>by have i1:=(hW.at_ p.2.len aS).1;have i2:=(hW.at_ p.2.len bV).1;have i3:=(H.1.av hW.cq).jA aS;rw[bj]at i1;rw[bi]at i2;rw[bg]at i3;exact⟨i1,i2,(aI.o m hW.cq).2.2.1,i3⟩
 have aa:=Aw (p.1.av (At _));refine CF 20 (S:= λm=>m ⟨r,t,M⟩=K ↑yo/\m ⟨r,f,M⟩=K ↑yf/\m ⟨T,15,M⟩=K (sG W n cC)/\m ⟨W,t,M⟩=K ↑yc) kR (KS _ aa) (λaJ=> ?_)
 clear bj bi bg;generalize u6.drew=U7 at aa aJ⊢;have dE:IntKind.i64.wrap (yf+yc)=yf+yc:=nC _ ⟨oM,oM⟩;refine FI 0 ?_ (hw:=kR);refine FI 1 ?_ (hw:=kR);refine FI 2 ?_ (hw:=kR);refine FI 3 ?_ (hw:=kR);refine FI 4 ?_ (hw:=kR);refine FI 5 ?_ (hw:=kR);refine FI 6 ?_ (hw:=kR);refine FI 7 ?_ (hw:=kR);refine FI 8 ?_ (hw:=kR);refine FI 9 ?_ (hw:=kR);refine FI 10 ?_ (hw:=kR);refine FI 11 ?_ (hw:=kR);refine FI 12 ?_ (hw:=kR);refine FI 13 ?_ (hw:=kR);refine FI 14 ?_ (hw:=kR);refine FI 15 ?_ (hw:=kR);refine FI 16 ?_ (hw:=kR);refine FI 17 ?_ (hw:=kR);refine FI 18 ?_ (hw:=kR);refine FI 19 ?_ (hw:=kR);go_simp;refine Ox 20 ?_;intro KC aO;rw[jP kR];obtain⟨c0,z0⟩:=aa.at_ p.2.len aS;rw[N.1]at c0;have c9:=World.cell?_setCell_same' U7 ⟨r,t,M⟩ (iZ (max yo (yf+yc))) (by rw[c0];rfl);have aH:Ae (Si w (Aa U7 ⟨r,t,M⟩ (Ag Af (max yo (yf+yc)))) SB h x s F d n r (L.set t (max yo (yf+yc)))):=aa.put t _;go_simp;refine aO.o _ _ (λbt=>absurd bt oM) (λhH=> ?_);clear aO KC hH aJ;refine ER kR ?_ _;clear c0 z0 KS aa;generalize bZ:max yo (yf+yc)=Q at c9 aH⊢;have br:=Aw bZ;have cT:0<=Q:=oM;clear bZ;generalize Aa U7 ⟨r,t,M⟩ Q=U8 at c9 aH⊢;go_wp2_with fail;refine(GP Q U8).mono ?_;rintro e u9 ⟨rfl,rfl⟩;by_cases aW:Q<=4294967295
 . rw[decide_eq_true (show 0<=Q/\Q<=4294967295 from⟨cT,aW⟩)]
   have cg:Ae (Si w u9 SB h x s F d n r (L.set t Q)/\WQ E n (λb=>decide ((b:Int)∈d)) I C h X (L.set t Q) k (q+1)):=⟨aH,by have:=p.2.over ax.2 ⟨aK,by simpa using bx.o⟩ ax.1 A.2 ⟨bu,by simpa using bB.o⟩ (by rw[A.1,aA];exact aZ) (by rw[A.1];exact bf) (by rw[A.1];exact aS) (by rw[A.1,N.2.2];exact cj) (by rw[A.1,aA.o,N.1,N.2.1,N.2.2,br];exact aW);rw[A.1,aA.o,N.1,N.2.1,N.2.2,br]at this;exact this⟩
   clear p aH;go_wp2_with fail;go_roundw;(case rel=>exact⟨q+1,L.set t Q,oM,by trivial,by go_num,cg⟩);exact oI
 rw[kj (show¬(0<=Q/\Q<=4294967295)from λh=>aW h.2)]
 have HE:Ae (qV w n E d I C h X (Am (Ap #[sG r n n,false])) u9):=⟨r,[],false,rfl, λh=>(by cases h),.inr ⟨rfl,p.2.bad ⟨aK,by simpa using bx.o⟩ A.2 ⟨bu,by simpa using bB.o⟩ (by rw[A.1,aA];exact aZ) (by rw[A.1];exact bf) (by rw[A.1,aA.o,N.1,N.2.1,N.2.2,br];exact aW)⟩,aH.cq⟩;clear p aH;go_wp2_with fail;try rw[Exit.noGoto_ret]
 exact kA (v:=Ap #[sG r n n,false]) (by simp[results,results165,go_sem]) rfl HE
section
open Go.Shelf
attribute [local go_sem] Oper.semAt_some
def LV.arr(x:LV):Array J:=#[x.h,Z x.xa x.xn x.xc,Z x.ya x.yn x.yc]
def JV(W:Y)(b a:Nat)(c:List LV):Prop:=∀j (x:LV),c[j]?=K x->W ⟨b,a+j*3,M⟩=K ↑x.h/\W ⟨b,a+j*3+1,M⟩=K (Z x.xa x.xn x.xc)/\W ⟨b,a+j*3+2,M⟩=K (Z x.ya x.yn x.yc)
theorem JV.av{W d:Y}{b f e:Nat}{g:List LV}(h:JV W b f g)(a:b<e)(c:Ah e W d):JV d b f g:= λj x m=>by obtain⟨i,k,l⟩:=h j x m;exact⟨(c.cell (p:=⟨b,_,M⟩) a).trans i,(c.cell (p:=⟨b,_,M⟩) a).trans k,(c.cell (p:=⟨b,_,M⟩) a).trans l⟩
theorem RW(a:Option Addr)(n c:Nat)(w:Y):Ai Aq 194 #[Z a n c] w λe b=>e=Am (.func (.func 205) #[] #[.pointer w])/\b=Ac w (Ak #[Z a n c] 59):=by go_enter func194,ntmps194;go_wp2;go_ret;exact⟨rfl,rfl⟩
def Lz(W:Y)(e:Nat)(a:Option Addr)(d:List LV):Prop:=d≠[]->∃b c,a=K ⟨b,c,M⟩/\b<e/\JV W b c d
theorem Lz.av{W d:Y}{a:Option Addr}{f:List LV}(h:Lz W c a f)(j:Ah c W d):Lz d c a f:= λk=>by obtain⟨b,l,g,e,i⟩:=h k;exact⟨b,l,g,e,i.av e j⟩
theorem RV(n:Nat)(S:1<=n)(l s h cap:Nat)(a:Option Addr)(c:List LV)(R:c.length<=1048576)(d t:List LV->Y->Prop)(W:Y)(T:h<= ↑W)(D:AbidesFrom W d)
 (G:∀f x W,d f W->f.length< ↑c->YieldAt Fence.wide (n-1) Aq l #[.agg x.arr] W λe g=>(e=Am true/\d (f++[x]) g/\Ah h W g)\/(e=Am false/\t (f++[x]) g))
 (O:W.cell? s=K (Z a c cap)) (H:Lz W h a c) (C:d [] W):
 CallsIn Fence.wide n Aq 205 #[.func (.yield l) #[] #[],.pointer s] W λe g=>(∃v,e=Am v)/\((∃ys,ys=c/\d ys g)\/(∃f,f<+:c/\t f g)):=by
 refine callsIn_of_wp func205 rfl trivial ?_ rfl;simp only[ntmps205,List.size_toArray,lG,lH,Nat.reduceAdd,Nat.reduceSub,Array.replicate_succ,Array.replicate_zero,List.push_toArray,List.append_toArray,k7,lI];gi_wp2
 gi_loopw [7] (λi wr=>∃k:Nat,k<= ↑c/\i=iZ k/\d (c.take k) wr/\Ah h W wr) (λi _=> ↑c-(intOf i).toNat)
 case atStart=>exact⟨0,ku _,rfl,C,jZ _ _⟩
 obtain⟨k,Q,rfl,j,p⟩:=hrel;by_cases m:k< ↑c
 . obtain⟨x,q⟩:∃x,c[k]?=K x:=⟨_,an m⟩;obtain⟨b,U,B,P,A⟩:=H.av p (λe=>by rw[e]at m;exact absurd m sP);obtain⟨c0,c1,c2⟩:=A k x q;subst B;have w:d (c.take k) (Ac wr (Ak x.arr 65)):=D _ _ _ M j (World.grownBy_alloc wr _ M) (λr e=>by cases e);obtain⟨fn,tmps,assign,body,L,y⟩:=G _ x _ w (by rw[kp];omega);(have z:c.take (k+1)=c.take k++[x]:=by rw[List.take_add_one,q];rfl);have u:Ah h W (Ac wr (Ak x.arr 65)):=p.alloc (by have:=p.size;omega) _;simp only[LV.arr]at L y u;clear w q A;(gi_wp2);refine y.mono ?_;rintro e N (⟨rfl,E,I⟩|⟨rfl,F⟩)
   . (gi_wp2);go_roundw;(case rel=>exact⟨k+1,oM,sP,by rw[z];exact E,u.trans I⟩);exact oI
   (gi_wp2);refine kA (results_none rfl _ _ _) rfl ?_;exact⟨⟨_,rfl⟩,.inr ⟨_,by rw[<-z];exact List.take_prefix _ _,F⟩⟩
 obtain rfl:k=c.length:=oM;rw[List.take_length]at j;gi_wp2
 go_end0;exact⟨⟨_,rfl⟩,.inl ⟨_,rfl,j⟩⟩
theorem NJ(n:Nat)(s:1<=n)(c d cap:Nat)(a:Option Addr)(b:List LV)(r:b.length<=1048576)(w:Y)(g:d<= ↑w)(f:w c=K (Z a b cap))(q:Lz w d a b):
 SeqStopsK Fence.wide n Aq 205 #[.pointer c] (λx:LV=>#[.agg x.arr]) (Ah d) (λys=>ys=b) (λt=>t<+:b) b w:= λl h i W e k _ m j=>
 RV n s l c d cap a b r h i W (jN g e.size) k m (by rw[e.cell (p:=⟨c,0,M⟩) (i7 f)];exact f) (q.av (e.mono g)) j
theorem LO(w:Y)(x y z:J)(t:Aj):∀j u,[x,y,z][j]?=K u->(Ac w (Ak #[x,y,z] t)) ((⟨w,0,M⟩:Addr).add j)=K u:= λj u a=>by
 have h:=(Ay.new w #[x,y,z] t).cell j;rw[i5,a]at h;have e:(⟨w,0,M⟩:Addr).add j=⟨w,j,M⟩:=by simp[Addr.add];omega
 rw[e];exact h
def Hq(a:List LV):List J:=Ad LV.enc a
theorem UJ(a:List LV)(x:LV):Hq (a++[x])=Hq a++[iZ x.h,Z x.xa x.xn x.xc,Z x.ya x.yn x.yc]:=by simp[Hq,LV.enc]
theorem LF(g cap:Nat)(a:Option Addr)(k:List LV)(w:World)(y:k.length<=1048576)(L:w g=some (Z a k cap))(q:Lz w w a k):
 Ai Aq 209 #[sN,.func (.func 205) #[] #[.pointer g]] w λe E=>∃V,e=Am V/\Ab E w 65 3 V k (Hq k)/\Ah w w E:=by
 refine(callsIn_wide (n:=5)).1 ?_;obtain⟨i0,R,aa,ae,ai⟩:=km XD;refine callsIn_of_wp_marks func209 rfl trivial ?_ rfl;simp only[ntmps209,List.size_toArray,lG,lH,Nat.reduceAdd,Nat.reduceSub,Array.replicate_succ,Array.replicate_zero,List.push_toArray,List.append_toArray,k7,lI];gi_wp2
 have F:=Boxed.new w 59 sN;have p:Ah w w (Ac w (Ak #[sN] 59)):=Al _ _;refine wpIn_rangeFunc_ownH rfl oM (gf:=205) (lb:=#[.pointer g]) rfl trivial (enters_of func205 kR rfl)
  (NJ 4 oM g w cap a k y _ sP (Az p L) (q.av p)) belowK_t (belowK_b sP) (jZ _ _) (λ_=>rfl)
  (λb W=>(∃v,Boxed W w 59 v/\Ab W w 65 3 v b (Hq b)/\True)/\Ah w w W)
  (λ_ _ _=>False)
  (OwnFrom.and (Own.from (holdsRow_own w w 59 65 3 (λb:List LV=>b.length) (λb=>Hq b) (λb v=>True)) _) (ownFrom_below lR sP))
  (λ_ _ _ _ _ s _ _=>s)
  ⟨⟨_,F,kH _ _ _ _,trivial⟩,p⟩
  (λx a' W=>∃Bx, ↑w<Bx/\Ay W Bx x.arr 65/\a'={tmps:=#[sN,.func (.func 205) #[] #[.pointer g],.pointer w,undef,sN,.pointer Bx,.func (.func 205) #[] #[.pointer g],.agg x.arr,undef,undef,undef,undef,undef],defers:=[]})
  (λx a' _ X Y row s P B=>by obtain⟨Bx,G,m,H⟩:=s;refine⟨Bx,G,?_,H⟩;have:=m.lt;unfold Ay at m⊢;rw[P.block Bx this (λe=>by obtain⟨_,o,z,q⟩:=B Bx e.symm;rw[m]at z;cases z;cases q)];exact m)
  ?assign ?body ?done ?stop
 case assign=>
  rintro l b x W K ⟨⟨v,f,j,_⟩,d⟩ i;simp only[LV.arr]at i⊢;gi_wp2
  exact i _ _ ((KeepsOthers.alloc _ _).from _) ((jZ _ W).alloc d.size _) ⟨⟨v,f.alloc _,j.alloc _,trivial⟩,d.alloc d.size _⟩ ⟨W,f.lt,Ay.new W _ _,rfl⟩
 case body=>
  rintro l b x a' W y ⟨r,B⟩ ⟨⟨v,f,j,_⟩,d⟩ ⟨Bx,aq,t,rfl⟩ aA;have O:=f.cell;simp only[LV.arr]at t;obtain⟨x0,x1,x2⟩:=Dv t;simp only[LV.arr];gi_wp2_with (gi_at_builtin;refine wpListIn_append_own _ rfl _ _ 59 rfl w 65 i0 (.agg #[iZ 0,sN,sN]) 3 56 underlying59 R aa ae ai rfl dC _ _ _ rfl (j.alloc _) W 1 1 [iZ x.h,Z x.xa x.xn x.xc,Z x.ya x.yn x.yc] rfl rfl (LO _ _ _ _ _) (by simp[Value.oneCell']) oX oM (by have:=d.size;simp;omega) ?_;intro v' w1 A Q _;obtain⟨g',aj,rfl⟩:=ownsRow_succ A;obtain⟨C,U,T,S,u⟩:=f.appended dC j d.size lR A Q;have au:=C.cell;have ax:=C.frozen)
  exact⟨S.from _,u,⟨⟨_,U,by rw[UJ];simpa using T,trivial⟩,d.trans u⟩⟩
 case done=>
  rintro D ys W N rfl ⟨⟨v,f,j,_⟩,I⟩ i;have O:=f.cell;gi_wp2
  refine⟨sP,.inl ⟨_,_,rfl,run_takeDeferred i,?_⟩⟩;exact⟨_,results_tmp rfl _ _ _,v,rfl,ownsRow_putObj j _ i rfl,I.trans (belowK_b (w:=w) lR W D _ _ (by simp at N;omega) i rfl rfl)⟩
 case stop=>rintro D c b W _ _ h _;exact h.elim
end
section
open Go.Shelf
def M9(ts:List LV):Prop:=ts.Pairwise λa b=>ltOf LV.cmp b a=false
theorem LV.fD(x:LV):x.enc.length=3:=rfl
theorem JV.eS{w:Y}{a:List LV}(h:Ab w B 65 3 (sG g a c) a (Hq a)):JV w g 0 a:= λj x d=>by
 have b:∀i u,(Hq a)[i]?=K u->w ⟨g,0+i,M⟩=K u:= λi u e=>by rw[kT,mC h i (by have f:=(f7.1 e).1;have k:=h.1;omega)];exact e
 exact⟨by have:=Rd.elem LV.fD b j x d 0 _ rfl;rwa [jV]at this,Rd.elem LV.fD b j x d 1 _ rfl,Rd.elem LV.fD b j x d 2 _ rfl⟩
theorem rk(j:Nat):j % 3=0\/j % 3=1\/j % 3=2:=oM
theorem pd{w:Y}{a:List LV}(h:Ab w B 65 3 (sG g a c) a (Hq a)):Go.Sort.HoldsK LV.enc 3 w g 0 a.toArray:= λj b=>by
 rw[Go.Sort.size_flatK]at b;have l:j< ↑a*3:=by simpa using b
 have d:j / 3<a.length:=oM;obtain⟨_,f,e⟩:=AY h;refine⟨?_,frozen_of_row w g (0+j) f _ e⟩;rw[Go.Sort.get_flatK _ _ _ _ b];have k:a[j / 3]?=K a[j / 3]:=an d;have i:(a.toArray[j / 3]!)=a[j / 3]:=by rw[getElem!_pos _ _ (by simpa using d)];simp
 obtain⟨c0,c1,c2⟩:=JV.eS h _ _ k;rw[i];rcases rk j with e|e|e
 . rw[e,show 0+j=0+j / 3*3 from oM,c0];rfl
 . rw[e,show 0+j=0+j / 3*3+1 from oM,c1];rfl
 rw[e,show 0+j=0+j / 3*3+2 from oM,c2];rfl
theorem Tk{w:Y}{d:Array LV}(h:Go.Sort.HoldsK LV.enc 3 w g 0 d):JV w g 0 d.toList:= λj x k=>by
 have a:j<d.size:=by have:=(f7.1 k).1;simpa using this
 have l:(d[j]!)=x:=by rw[getElem!_pos d j a];have:=(f7.1 k).2;simpa using this
 have b:=(h.cell (i:=j) (c:=0) a oM).1;have e:=(h.cell (i:=j) (c:=1) a oM).1;have f:=(h.cell (i:=j) (c:=2) a oM).1;rw[l]at b e f;exact⟨by rw[jV]at b;exact b,e,f⟩
theorem Q1{w:Y}{n:Nat}{os:Array Obj}(d:Array LV):w.grownBy (sortWorldK LV.enc 3 w g 0 n d os) (K g):=by
 refine⟨rfl,rfl,rfl,size_sortWorldK_c _ _ _ _ _ _ _ _, λk a b=> ?_⟩;unfold sortWorldK Go.Sort.putRowK;rw[Go.Sort.heap_grow_old _ _ (by simpa[Go.Sort.putRow,Go.Sort.mapBlock,Go.Sort.ahead]using a)];have:g≠k:= λe=>b (by rw[e])
 simp[Go.Sort.putRow,Go.Sort.mapBlock,Go.Sort.ahead,Array.getElem?_modify,this]
theorem Wa(B g cap:Nat)(ss:List LV)(w:Y)(F:ss.length<=1048576)(h:Ab w B 65 3 (sG g ss cap) ss (Hq ss)):
 Ai Aq 204 #[sG g ss cap,.func (.func 188) #[] #[]] w λe c=>e=Am (Ap #[])/\(∃ts,ts.Perm ss/\M9 ts/\JV c g 0 ts)/\w.grownBy c (K g):=by
 have d:=pd h;have u:=(AY h).2;have f:g<w.heap.size:=by obtain⟨D,e⟩:=u;exact(jS.1 e).1
 have b:=AnyQ.slices_SortFunc Tryz.lSortF 3 Tryz.isAgg65 Tryz.sizeOf65 LV.enc (λ_=>rfl) (λx v r=>by simp[LV.enc]at r;rcases r with rfl|rfl|rfl<;>rfl) LV.cmp LV.swo 188 #[] g 0 cap ss.toArray w (enters_of func188 kR rfl) (λm os E _ x y=>RK x y _) d f oT;change Ai Aq 204 #[sG g ss.toArray.size cap,_] _ _ at b;rw[List.size_toArray]at b;refine b.mono ?_;rintro e c ⟨rfl,a,n,os,⟨l,_,p⟩,C,rfl⟩;have q:a.size=ss.length:=by simpa using l
 refine⟨rfl,⟨a.toList,?_,?_,Tk (holdsK_sortWorldK_c _ _ _ _ _ _ _ _ _ d f l)⟩,Q1 a⟩
 . (have s:a.extract 0 ss=a:=by rw[<-q];simp);have t:ss.toArray.extract 0 ss=ss.toArray:=sP;rw[s,t]at p;simpa using p
 unfold M9;rw[lW];intro i j z k A;have:=C i j (ku _) A (by simpa[q]using k);rw[getElem!_pos _ _ (by simpa using k),getElem!_pos _ _ (by simpa using z)]at this;simpa using this
theorem O7(c cap:Nat)(a:Option Addr)(b:List LV)(w:Y)(k:b.length<=1048576)(h:w c=K (Z a b cap))(i:Lz w w a b):
 Ai Aq 203 #[.func (.func 205) #[] #[.pointer c]] w λe j=>∃V,e=Am V/\Ab j w 65 3 V b (Hq b)/\Ah w w j:=by
 have H:=Aw (LF c cap a b w k h i);clear h i;go_enter func203,ntmps203;go_wp2_with fail;refine H.mono ?_;rintro e u ⟨V,rfl,f,g⟩;have d:=Aw (fd f g);clear f g;go_wp2;go_ret;exact⟨V,rfl,d.1,d.2⟩
def SdL(w b:Y)(V:J)(d ts:List LV):Prop:=ts.Perm d/\M9 ts/\(∃a c,V=Z a ts.length c/\(ts≠[]->∃g,a=K ⟨g,0,M⟩/\w.heap.size<=g/\JV b g 0 ts))/\Ah w.heap.size w b
theorem Ln(f cap:Nat)(a:Option Addr)(b:List LV)(w:Y)(s:b.length<=1048576)(q:w.cell? ⟨f,0,M⟩=K (Z a b.length cap))(r:Lz w w.heap.size a b):
 Ai Aq 193 #[.func (.func 205) #[] #[.pointer f],.func (.func 188) #[] #[]] w λe D=>∃V ts,e=Am V/\SdL w D V b ts:=by
 have H:=Aw (O7 f cap a b w s q r);clear q r;go_enter func193,ntmps193;go_wp2_with fail;refine H.mono ?_;rintro e u ⟨V,rfl,d,l⟩;have i:=Aw l;rcases Bi d with⟨rfl,t⟩|⟨g,c,rfl⟩
 . have C:b=[]:=jR t;have m:=AnyF.slices_SortFunc_none Tryz.lSortF M 0 (.func (.func 188) #[] #[]) u;change Ai Aq 204 _ _ _ at m;have k:=Aw m;clear m d l t H;go_wp2_with fail;refine k.mono ?_;rintro e z ⟨rfl,rfl⟩;go_wp2;go_ret;exact⟨_,[],rfl,by rw[C],List.Pairwise.nil,⟨M,0,rfl, λh=>absurd rfl h⟩,i⟩
 have p:=(AY d).1;have k:=Aw (Wa w g c b u s d);clear d l H;go_wp2_with fail;refine k.mono ?_;rintro e z ⟨rfl,⟨ts,n,v,x⟩,y⟩;have A:Ae (SdL w z (sG g b c) b ts):=⟨n,v,⟨_,c,by rw[n.length_eq], λ_=>⟨g,rfl,p,x⟩⟩,i.grown y i.size (λj B=>by cases B;exact p)⟩;clear n v x y;go_wp2;go_ret;exact⟨_,ts,rfl,A⟩
end
section
open Go.Shelf
attribute [local go_sem] Oper.semAt_some
structure JS(gC gS:Nat)(W W':World):Prop where
 size:(W:Nat)<= ↑W'
 same:∀k o,W.heap[k]?=K o->o.isCells=true->k≠gC->k≠gS->W'.heap[k]?=K o
section
variable {gC gS:Nat} {X Y Z:World}
theorem JS.trans(h:JS gC gS X Y)(a:JS gC gS Y Z):JS gC gS X Z:=⟨jN h.size a.size, λk o e b c d=>a.same k o (h.same k o e b c d) b c d⟩
theorem JS.refl(gC gS:Nat)(W:World):JS gC gS W W:=⟨Nat.le_refl _, λ_ _ h _ _ _=>h⟩
theorem JS.of(h:Ah X X Y):JS gC gS X Y:=⟨h.size, λk o a _ _ _=>(h.block k (jS.1 a).1).trans a⟩
theorem JS.put{w:World}(W:World)(l:Nat)(o b:Obj)(_: ↑w<=l)(h:W.heap[l]?=K o)(d:o.isCells=false)(_:o.isWalk=false):JS gC gS W (W.putObj l b):=⟨(grownBy_putObj' W l b).size, λk q a c _ _=>((grownBy_putObj' W l b).block k (jS.1 a).1 (λe=>by cases e;rw[h]at a;cases a;rw[d]at c;cases c)).trans a⟩
theorem JS.cell(h:JS gC gS X Y){v:J}(a:X ⟨g,o,M⟩=K v)(c:g≠gC)(d:g≠gS):Y ⟨g,o,M⟩=K v:=by obtain⟨q,b,e⟩:=cells_of_cell a;refine(nG ?_).trans a;rw[h.same g q b e c d,b]
theorem JS.row(h:JS gC gS X Y){f:List LV}(i:JV X g o f)(d:g≠gC)(e:g≠gS):JV Y g o f:= λj x k=>by obtain⟨a,b,c⟩:=i j x k;exact⟨h.cell a d e,h.cell b d e,h.cell c d e⟩
end
theorem Nv(a:Option Addr)(n c:Nat)(w:World):Ai Aq 163 #[.slice a n c] w λe b=>e=Am (.func (.func 192) #[] #[.pointer w,.pointer (K ⟨(w:Nat)+1,0,M⟩)])/\(Ay b w #[.slice a n c] 59/\Ay b ((w:Nat)+1) #[.func (.func 188) #[] #[]] 283/\Ah w w b):=by have f:=Ie Aq;have d:=BT w #[.slice a n c] #[.func (.func 188) #[] #[]] 59 283;go_enter func163,ntmps163;go_wp2;go_ret;exact⟨rfl,d⟩
theorem Nu(n:Nat)(hn:1<=n)(l y z cap gC gS:Nat)(a:Option Addr)(c:List LV)(hl:c.length<=1048576)(d T:List LV->World->Prop)(W:World)(aE:gC< ↑W)(aF:gS< ↑W)(hJ:AbidesFrom W d)
 (hY:∀j x W,x∈c->d j W->j.length< ↑c->YieldAt Fence.wide (n-1) Aq l #[An x.arr] W λe q=>(e=Am true/\d (j++[x]) q/\JS gC gS W q)\/(e=Am false/\T (j++[x]) q))
 (X:W.cell? y=K (.slice a c cap)) (s:W.cell? z=K (.func (.func 188) #[] #[])) (hc:Lz W W a c) (U:d [] W):
 CallsIn Fence.wide n Aq 192 #[.func (.yield l) #[] #[],.pointer y,.pointer z] W λe q=>(∃v,e=Am v)/\((∃ys,(ys.Perm c/\M9 ys)/\d ys q)\/(∃j,(∃ts,ts.Perm c/\M9 ts/\j<+:ts)/\T j q)):=by
 refine callsIn_of_wp func192 rfl trivial ?_ rfl;simp only[ntmps192,List.size_toArray,lG,lH,Nat.reduceAdd,Nat.reduceSub,Array.replicate_succ,Array.replicate_zero,List.push_toArray,List.append_toArray,k7,lI];refine wpIn_wide.2 ?_;have H:=Aw (fd X (fd s (fd hc (fd U (fd hJ hY)))));clear X s hc U hJ hY;have A:∀m,Ah W W m->m y=K (.slice a c cap)/\m z=K (.func (.func 188) #[] #[]):= λm hb=>⟨Az hb H.1,Az hb H.2.1⟩
 go_upto_region 0 with fail
 refine wp_region_held_drew (S:= λm=>m y=K (.slice a c cap)/\m z=K (.func (.func 188) #[] #[])) kR (A _ (At _)) (λC=> ?_)
 have E:=Aw (At W);generalize W.drew=B at E C⊢;refine A5 0 ?_;refine A5 2 ?_;refine A5 5 ?_;refine DU 1 ?_;intro F t;rw[jP kR];go_simp;refine(RW a c cap B).mono ?_;rintro e u3 ⟨rfl,rfl⟩;have p:Ae (Ah W W (Ac B (Ak #[.slice a c cap] 59))):=Ar E lR (Al _ _);have G:=(Ay.new B #[.slice a c cap] 59).cell 0;simp only[i5,f8]at G;go_simp;refine t.o _ _ (A _ p) (λC=> ?_);clear t F;refine DU 3 ?_;intro F t;rw[jP kR];go_simp;refine(Ln B cap a c _ hl G (λP=>by obtain⟨b,aA,I,h2,L⟩:=(H.2.2.1.av p) P;exact⟨b,aA,I,by have:=p.size;omega,L⟩)).mono ?_;rintro e u ⟨V,ts,rfl,Q,t2,⟨sa,sc,rfl,t3⟩,t4⟩;have R:=Aw (Ar p lR t4);have f:Ae (ts.Perm c/\M9 ts/\(ts≠[]->∃g,sa=K ⟨g,0,M⟩/\W.heap.size<=g/\JV u g 0 ts)):=⟨Q,t2, λP=>by obtain⟨g,I,h2,L⟩:=t3 P;exact⟨g,I,by have:=p.size;omega,L⟩⟩
 have aG:ts.length<=1048576:=by rw[Q.length_eq];exact hl
 clear Q t2 t3 t4 G;go_simp;refine t.o _ _ (A _ R) (λC=> ?_);clear t F;refine A5 4 ?_ (hw:=kR);go_simp;refine wpAnyH_done kR ?_ _;clear C A E p;have ae:d [] u:=H.2.2.2.2.1 [] W u M H.2.2.2.1 (D9 R) (λr e=>by cases e);go_wp2_with fail;refine(wpIn_wide (n:=n)).1 ?_;gi_loopw [11] (λi wr=>∃k:Nat,k<= ↑ts/\i=iZ k/\d (ts.take k) wr/\JS gC gS u wr) (λi _=> ↑ts-(intOf i).toNat)
 case atStart=>exact⟨0,ku _,rfl,by simpa using ae,JS.refl _ _ _⟩
 clear ae;obtain⟨k,hk,rfl,N,ai⟩:=hrel;by_cases O:k< ↑ts
 . obtain⟨x,D⟩:∃x,ts[k]?=K x:=⟨_,an O⟩;obtain⟨g,ea,hg,aj⟩:=f.2.2 (λe=>by rw[e]at O;exact absurd O sP);obtain⟨c0,c1,c2⟩:=ai.row aj oM oM k x D;rw[kT]at c0 c1 c2;subst ea;have aa:d (ts.take k) (Ac wr (Ak x.arr 65)):=H.2.2.2.2.1 _ _ _ M N (World.grownBy_alloc wr _ M) (λr e=>by cases e);obtain⟨fn,tmps,assign,body,hy,hR⟩:=H.2.2.2.2.2 _ x _ (f.1.mem_iff.1 (hC D)) aa (by rw[kp,<-f.1.length_eq];omega);(have hT:ts.take (k+1)=ts.take k++[x]:=by rw[List.take_add_one,D];rfl);have s:JS gC gS u (Ac wr (Ak x.arr 65)):=ai.trans (JS.of (Al _ _));simp only[LV.arr]at hy hR s;clear aa D aj;(gi_wp2);refine hR.mono ?_;rintro e W3 (⟨rfl,aq,ax⟩|⟨rfl,au⟩)
   . (gi_wp2);go_roundw;(case rel=>exact⟨k+1,oM,sP,by rw[hT];exact aq,s.trans ax⟩);exact oI
   (gi_wp2);refine kA (results_none rfl _ _ _) rfl ?_;exact⟨⟨_,rfl⟩,.inr ⟨_,⟨ts,f.1,f.2.1,by rw[<-hT];exact List.take_prefix _ _⟩,au⟩⟩
 obtain rfl:k=ts.length:=oM;rw[List.take_length]at N;gi_wp2
 go_end0;exact⟨⟨_,rfl⟩,.inl ⟨_,⟨f.1,f.2.1⟩,N⟩⟩
theorem Lh(n:Nat)(I:1<=n)(m p cap gC gS:Nat)(a:Option Addr)(c:List LV)(H:c.length<=1048576)(w:World)(P:gC< ↑w)(Q:gS< ↑w)(z:w m=K (.slice a c cap))(C:w p=K (.func (.func 188) #[] #[]))(G:Lz w w a c):
 SeqStopsK Fence.wide n Aq 192 #[.pointer m,.pointer p] (λx:{x:LV//x∈c}=>#[An x.1.arr]) (JS gC gS) (λys=>(ys.map Subtype.val).Perm c/\M9 (ys.map Subtype.val)) (λf=>∃ts,ts.Perm c/\M9 ts/\f.map Subtype.val<+:ts) c w:= λl s t W i D _ F v=>by
 refine(Nu n I l m p cap gC gS a c H (λf W=>∃q:List {x:LV//x∈c},q.map Subtype.val=f/\s q W) (λf W=>∃q:List {x:LV//x∈c},q.map Subtype.val=f/\t q W) W (by have:=i.size;omega) (by have:=i.size;omega) (λf A B row h d j=>h.elim λq h=>⟨q,h.1,D q A B row h.2 d j⟩) ?_ (Az i z) (Az i C) (λN=>by obtain⟨b,O,k,g,d⟩:=(G.av i) N;exact⟨b,O,k,by have:=i.size;omega,d⟩) ⟨[],rfl,v⟩).mono ?_
 . rintro f x W r ⟨q,rfl,g⟩ d;obtain⟨fn,tmps,assign,body,L,E⟩:=F q ⟨x,r⟩ W g (by simpa using d);refine⟨fn,tmps,assign,body,L,E.mono ?_⟩;rintro e u (⟨rfl,j,y⟩|⟨rfl,j⟩)
   . exact .inl ⟨rfl,⟨q++[⟨x,r⟩],sP,j⟩,y⟩
   exact .inr ⟨rfl,q++[⟨x,r⟩],sP,j⟩
 rintro e u ⟨k,⟨ys,g,q,rfl,d⟩|⟨f,g,q,rfl,d⟩⟩
 . exact⟨k,.inl ⟨q,g,d⟩⟩
 exact⟨k,.inr ⟨q,g,d⟩⟩
end
end Go.Proofs.YtkgohaigebcgoaaGreatDoor
