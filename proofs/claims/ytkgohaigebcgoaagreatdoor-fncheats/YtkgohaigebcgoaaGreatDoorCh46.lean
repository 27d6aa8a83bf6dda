import Derived.Test.YtkgohaigebcgoaaGreatDoorCh45
import Derived.WalkMore
import Derived.RangeFuncNested
import Derived.RangeFuncBound
import Derived.RangeFuncCalls
import Derived.RangeFuncLeaves
import Derived.Shelf.Abstract
import Derived.Shelf.RegionOpen
import Derived.OwnWalkIn
import Derived.TacticsInMore
import Derived.LoopNIn
import Derived.LoopIn
import Derived.Shelf.SlSortCmp.NoneTotal
namespace Go.Proofs.YtkgohaigebcgoaaGreatDoor
open Go.ChangeShapes Go.WideShapes Go.ChangeAt Go.RowKit Go.Proofs.Tryz
set_option linter.unusedVariables false
open Go.Value renaming slice → Z,int → Ag,agg → An,bool → Ao,tuple → Ap
open Option renaming some → K,none → M
open Go renaming World → Y,Calls → Ai,Value → J,TypeId → Aj
open Go.RowKit renaming Hid → Ae,Below → Ah
open Go.IntKind renaming i64 → Af
open Go.Obj renaming cells → Ak
open Go.Ending renaming returned → Am
open Go.Proofs.Tryz renaming prog → Aq
open Go.World renaming setCell → Aa,alloc → Ac,ownsRow → Ab
open List renaming flatMap → Ad
set_option maxHeartbeats 16000000
set_option maxRecDepth 100000
variable {c B g o:Nat}
theorem G7(B T:Nat)(v:BN)(n W cC gS cS:Nat)(I:List Nat)(C:List Int)(E:Nat->List Nat)(R:List Nat)(X:Nat->Nat)(h:Nat)(x:EJ)(s:Option Addr)(F:Nat)(d:List Int)(w:Y)(hn:n<=1024)(hS:CG w B T v n W cC gS cS I C)(hF:sg w v n E R X)(hh:h<n)(du:d.length<=1024)(hk:Rd w 1 (Z s d F) d (Ad At d))(hz:∀z∈d,∃b:Nat,z=(b:Int)/\b<n):
 Ai Aq 165 #[.pointer T,An #[h,Z x.a x.n x.c,Z s d F]] w (uf w n E d I C h X):=by
 obtain⟨k0,cT,d8,d9,db⟩:=nE Ct;have dw:= @run_makeMap Aq;have H:=Aw (lN hS (lN hF (lN hk hz)));obtain⟨gb,ob,bJ,bP,cJ⟩:=hF.gr;obtain⟨go,oo,bQ,bS,cM⟩:=hF.od;have HV:=Aw (lN bJ (lN bP (lN bQ bS)));have dy:R.length<=1024:=hF.rl;clear hS hF hk hz bJ bP bQ bS cJ cM;have bI:∀u,Ah w w u->u ⟨T,11,M⟩=K (sO gb ob n v.b.c)/\u ⟨T,12,M⟩=K (sO go oo R v.o.c)/\u ⟨T,15,M⟩=K (sG W n cC)/\u ⟨T,16,M⟩=K (sG gS n cS):= λu hu=>by obtain⟨a1,a2,a3,a4⟩:=(H.1.av hu).cells;rw[HV.1,HV.2.1]at a1;rw[HV.2.2.1,HV.2.2.2]at a2;exact⟨a1,a2,a3,a4⟩
 have aI:=Aw bI;clear bI;have dt:(h:Int)<(n:Int):=oM;have E0:Ae (Ay (Ac w (Ak #[h,Z x.a x.n x.c,Z s d F] 65)) w #[h,Z x.a x.n x.c,Z s d F] 65/\Ah w w (Ac w (Ak #[h,Z x.a x.n x.c,Z s d F] 65))):=⟨Ay.new _ _ _,Al _ _⟩
 go_enter func165,ntmps165;go_upto_region 1 with fail
 refine Av (λu=>Ae (Ay u w #[h,Z x.a x.n x.c,Z s d F] 65/\Ah w w u)) E0 ?_
 rintro U HE;clear E0;go_step3;have bM:=Al U (.map #[] 0);have m2:=(HE.1.av bM).cell 2;simp only[lQ,lO,lS]at m2;have aF:Ae (AQ (Ac U (.map #[] 0)) U 0 (.map [])/\Ah w w (Ac U (.map #[] 0))/\Ay (Ac U (.map #[] 0)) w #[h,Z x.a x.n x.c,Z s d F] 65):=⟨World.ownsMap_made _ _ _ _,Ar HE.2 lR bM,HE.1.av bM⟩
 have aG:=Aw HE.1.lt;clear bM HE;go_upto_region 2 with fail
 have bC:=Aw (Rd.av H.2.2.1 aF.2.1 lR);have bG:Ae (∀g o,s=K ⟨g,o,M⟩->0<d.length->g≠ ↑U):= λg o e hp q=>by
  rcases H.2.2.1.2 with⟨e1,_⟩|⟨g1,o1,c1,e1,hc⟩
  . omega
  simp only[lU,mj]at e1;have hl:=lT (hc 0 _ (EW (an hp)));have:=aG.o;rw[e]at e1;simp only[lX,ny,oZ]at e1;simp only[]at hl;omega
 go_wp2_with fail;refine(Sb U s F d (Ac U (.map #[] 0)) oM (λz hz=>by obtain⟨b,rfl,P⟩:=H.2.2.2 z hz;exact Dh oM) bC bG aF.1).mono ?_;rintro e u2 ⟨rfl,ce,aX⟩;have E2:=Aw (lN ce (lN (aF.2.1.grown aX aF.2.1.size (λj hj=>by cases hj;exact oq aG)) (lN (aF.2.2.apart aX (by have:=aG.o;omega)) ((by have:=aX.size;rw[oQ]at this;omega):(U:Nat)< ↑u2))))
 clear ce aX aF bC bG m2;obtain⟨ai,aj,aq,au⟩:=aI.o u2 E2.2.1;go_upto_region 4 with(at_make;refine pK _ rfl _ _ 27 rfl u2 2 k0 (iZ 0) 1 underlying27 cT d8 d9 Af Af _ _ n rfl rfl rfl rfl (by rw[db];omega) oX lR ?_;intro w3 aY bY;rw[XV]at aY)
 have aT:Ah u2 u2 w3:=(mP _ _).grown bY lR (λk hk=>by cases hk);have E3:Ae (Sa w w3 U h x s F d n u2 (List.replicate n 0)):=by obtain⟨⟨aM,D,s1,s2⟩,s3,s4,s5⟩:=E2.o;have:=aG.o;exact⟨⟨aM,D,s1.av aT,s2⟩,s4.av aT,⟨aY.1,aY.2.imp_right λ⟨g,cap,cI,q1,q2,q3⟩=>⟨g,cap,cI,q1,oM,q3⟩⟩,Ar s3 lR aT,oM,oM⟩
 clear aY bY aT ai aj aq au E2;generalize u2.heap.size=r at E3⊢;generalize U.heap.size=SB at E3 aG⊢;clear aG;have aE:=Aw (E3.av (As _));clear E3;have KS:∀m,Ah w w m->Ay m w #[h,Z x.a x.n x.c,Z s d F] 65->m w=K ↑h/\m ⟨T,15,M⟩=K (sG W n cC)/\m ⟨W,h,M⟩=K ↑(cf C h):= λm P hB=>⟨hB.cell 0,(aI.o m P).2.2.1,(H.1.av P).lF hh⟩
 refine wp_region_held_drew (S:= λm=>m w=K ↑h/\m ⟨T,15,M⟩=K (sG W n cC)/\m ⟨W,h,M⟩=K ↑(cf C h)) kR (KS _ aE.cq aE.lb) (λaJ=> ?_)
 generalize w3.drew=U3 at aE aJ⊢;refine AU 0 ?_ (hw:=kR);refine AU 1 ?_ (hw:=kR);refine AU 2 ?_ (hw:=kR);refine AU 3 ?_ (hw:=kR);refine AU 4 ?_ (hw:=kR);refine AU 5 ?_ (hw:=kR);refine AU 6 ?_ (hw:=kR);refine AU 7 ?_ (hw:=kR);refine AU 8 ?_ (hw:=kR);refine AU 9 ?_ (hw:=kR);refine AU 10 ?_ (hw:=kR);refine AU 11 ?_ (hw:=kR);go_simp;refine DO 12 ?_;intro KC aO;rw[mE kR];obtain⟨c0,z0⟩:=aE.at_ nY hh;have E4:Ae (Sa w (Aa U3 ⟨r,h,M⟩ (cf C h)) SB h x s F d n r ((List.replicate n 0).set h (cf C h))/\WQ E n (λb=>decide ((b:Int)∈d)) I C h X ((List.replicate n 0).set h (cf C h)) 0 0):=⟨aE.put h _,WQ.start hh (GG H.1.cc h)⟩
 go_simp;refine aO.o _ _ (KS _ E4.1.cq E4.1.lb) (λaJ=> ?_);clear aO KC;refine wpAnyH_done kR ?_ _;clear aJ KS c0 z0 aE;generalize Aa U3 ⟨r,h,M⟩ (cf C h)=U4 at E4⊢;generalize (List.replicate n (0:Int)).set h (cf C h)=L0 at E4;obtain⟨ai,aj,aq,au⟩:=aI.o U4 E4.1.cq;go_wp2_with fail;go_step3;go_wp2_with fail;clear ai aj aq au;go_loopw [8,45] (λsm i wr=>∃(k:Nat) (L:List Int),k<= ↑R/\sm=Ao true/\i=iZ k/\Ae (Sa w wr SB h x s F d n r L/\WQ E n (λb=>decide ((b:Int)∈d)) I C h X L k 0)) (λ_ i _=> ↑R-(intOf i).toNat)
 case atStart=>exact⟨0,L0,oM,rfl,rfl,E4⟩
 case round=>
 clear E4;obtain⟨k,L,hk,rfl,rfl,l⟩:=hrel;by_cases bt:k< ↑R
 case neg=>
  have HE:Ae (uf w n E d I C h X (Am (Ap #[sG r n n,true])) wr):=⟨r,L,true,rfl, λ_=>⟨λc hc=>(l.1.at_ l.2.len hc).1,l.2.jG⟩,.inl ⟨rfl,k,l.2, λb P=>by have:=(f7.1 (H.2.1.p1 b P)).1;omega⟩,l.1.cq⟩;go_wp2_with fail;try rw[Exit.noGoto_ret]
  exact mM (v:=Ap #[sG r n n,true]) (by simp[results,results165,go_sem]) rfl HE
 have dv:(k:Int)<(R:Int):=oM;obtain⟨b,P⟩:∃b,R[k]?=K b:=⟨_,an bt⟩;have aK:b<n:=H.2.1.rb b (lP P);have ax:Ae (X b=k/\∀b',b'<n->X b'=k->b'=b):=⟨H.2.1.p2 k b P, λb' h1 h2=>by have:=H.2.1.p1 b' h1;rw[h2,P]at this;exact(mD this).symm⟩
 have o0:wr ⟨go,oo+k,M⟩=K ↑b:=by
  obtain⟨dj,dE,q1,_,q3⟩:=(H.2.1.av l.1.cq).od;rw[HV.2.2.1]at q1;cases q1
  exact q3 k b P
 obtain⟨aM,D,s1,s2⟩:=l.1.set;have G:=Jq SB aM D (b:Int) wr (Dh oM) s1;rw[s2 (b:Int)]at G;clear s1 s2 P;by_cases aQ:(b:Int)∈d;case neg=>
  rw[nC aQ]at G;have V:=Aw G;clear G;go_wp2_with fail;refine V.mono ?_;rintro e u5 ⟨rfl,O⟩;have ae:=Aw (lN (l.1.av O) (l.2.lg λb' h1 h2=>by rw[ax.2 b' h1 h2];simpa using aQ));clear O o0;go_wp2_with fail;go_roundw;case rel=>exact⟨k+1,L,oM,by trivial,by go_num,ae⟩
  exact oI
 rw[decide_eq_true aQ]at G;have V:=Aw G;clear G;go_wp2_with fail;refine V.mono ?_;rintro e u5 ⟨rfl,O⟩;have ae:=Aw (lN (l.1.av O) l.2);clear O o0 V l;obtain⟨ai,aj,aq,au⟩:=aI.o u5 ae.1.cq;obtain⟨s0,bV⟩:=(H.1.av ae.1.cq).k6 aK;obtain⟨na,nc,g0,cW⟩:∃a c,u5 ⟨gb,ob+b*3+2,M⟩=K (Z a (E b).length c)/\Lb u5 (Z a (E b).length c) (E b):=by
  obtain⟨cQ,dd,q1,_,q3⟩:=(H.2.1.av ae.1.cq).gr;rw[HV.1]at q1;cases q1
  exact q3 b aK
 have bH:Ae (∀u,Ah w w u->Lb u (Z na (E b).length nc) (E b)):= λu hu=>by
  obtain⟨cQ,dd,q1,_,q3⟩:=H.2.1.gr;rw[HV.1]at q1;cases q1
  obtain⟨a',c',e1,e2⟩:=q3 b aK;have e3:=Az ae.1.cq e1;rw[g0]at e3;simp only[lX,lU,mj]at e3;rw[e3.1,e3.2];exact e2.av hu
 obtain⟨f,hf⟩:∃f,jf I b=f:=⟨_,rfl⟩;have aA:=Aw hf;rw[hf]at s0 bV;have dm:(b:Int)<(n:Int):=oM;have dq:(f:Int)<(n:Int):=oM;have cR:(E b).length<=1024:=H.2.1.sz b;have bx:=Aw aQ;clear cW hf aQ;generalize bT:(E b).length=el at g0 bH cR;have bq:=Aw bT;clear bT;go_wp2_with fail;clear ai aj aq au s0 g0;go_loopw [8,71] (λsm i wr=>∃(q:Nat) (L:List Int),q<=el/\sm=Ao true/\i=iZ q/\Ae (Sa w wr SB h x s F d n r L/\WQ E n (λb=>decide ((b:Int)∈d)) I C h X L k q)) (λ_ i _=>el-(intOf i).toNat)
 case atStart=>exact⟨0,L,oM,rfl,rfl,ae⟩
 case round=>
 clear ae L;obtain⟨q,L,hq,rfl,rfl,l⟩:=hrel;by_cases cX:q<el;case neg=>
  have p:=Aw (lN l.1 (l.2.lA λb' h1 h2=>by rw[ax.2 b' h1 h2,bq];omega));clear l;go_wp2_with fail;go_roundw;case rel=>exact⟨k+1,L,oM,by trivial,by go_num,p⟩
  exact oI
 have dx:(q:Int)<(el:Int):=oM;obtain⟨y,hy⟩:∃y,(E b)[q]?=K y:=⟨_,an (by rw[bq];exact cX)⟩;have bu:y<n:=H.2.1.eb b aK y (lP hy);obtain⟨ng,no,cK,e0⟩:∃g o,na=K ⟨g,o,M⟩/\wr ⟨g,o+q,M⟩=K ↑y:=by
  rcases(bH.o wr l.1.cq).2 with⟨q0,_⟩|⟨g,o,c',e1,hc⟩
  . rw[bq]at q0;omega
  simp only[lU]at e1;exact⟨g,o,e1.1,hc q _ (Q7 hy)⟩
 obtain⟨s0,aS⟩:=(H.1.av l.1.cq).k6 bu;obtain⟨t,ht⟩:∃t,jf I y=t:=⟨_,rfl⟩;rw[ht]at s0 aS;have A:=Aw (lN ht hy);have dD:(y:Int)<(n:Int):=oM;have dz:(t:Int)<(n:Int):=oM;obtain⟨ai,aj,aq,au⟩:=aI.o wr l.1.cq;obtain⟨aM,D,s1,s2⟩:=l.1.set;have G:=Jq SB aM D (y:Int) wr (Dh oM) s1;rw[s2 (y:Int)]at G;clear s1 s2 hy ht;subst cK;by_cases aR:(y:Int)∈d;case neg=>
  rw[nC aR]at G;have V:=Aw G;clear G;go_wp2_with fail;refine V.mono ?_;rintro e u6 ⟨rfl,O⟩;have p:=Aw (lN (l.1.av O) (l.2.jQ ax.2 A.2 λhq=>aR (by simpa using hq.1.2)));have l0:=p.1.lb.cell 0;simp only[lQ,lO]at l0;clear O V l ai aj aq au s0 e0;go_wp2_with fail;go_roundw;case rel=>exact⟨q+1,L,oM,by trivial,by go_num,p⟩
  exact oI
 rw[decide_eq_true aR]at G;have V:=Aw G;have bB:=Aw aR;clear G aR;go_wp2_with fail;refine V.mono ?_;rintro e u6 ⟨rfl,O⟩;have p:=Aw (lN (l.1.av O) l.2);have l0:=p.1.lb.cell 0;simp only[lQ,lO]at l0;clear O V l ai aj aq au s0 e0;by_cases aZ:t=f;case pos=>
  have aa:=Aw (lN p.1 (p.2.jQ ax.2 A.2 λhq=>hq.2.1 (by rw[A.1,aA.o,aZ])));subst aZ;clear p;go_wp2_with fail;go_roundw;case rel=>exact⟨q+1,L,oM,by trivial,by go_num,aa⟩
  exact oI
 have cY:¬(t:Int)=(f:Int):=oM;have dA:((t:Int)==(f:Int))=false:=by simpa using cY
 by_cases bf:t=h;case pos=>
  have aa:=Aw (lN p.1 (p.2.jQ ax.2 A.2 λhq=>hq.2.2 (by rw[A.1,bf])));subst bf;clear p;go_wp2_with fail;go_roundw;case rel=>exact⟨q+1,L,oM,by trivial,by go_num,aa⟩
  exact oI
 have cZ:¬(t:Int)=(h:Int):=oM;have dB:((t:Int)==(h:Int))=false:=by simpa using cZ
 go_upto_region 16 with fail
 clear l0;obtain⟨yo,bj⟩:∃z,cf L t=z:=⟨_,rfl⟩;obtain⟨yf,bi⟩:∃z,cf L f=z:=⟨_,rfl⟩;obtain⟨yc,bg⟩:∃z,cf C t=z:=⟨_,rfl⟩;have b1:Kh yo:=bj▸GG p.2.jG t;have b2:Kh yf:=bi▸GG p.2.jG f;have b3:Kh yc:=bg▸GG H.1.cc t;obtain⟨de,df⟩:=b1;obtain⟨dg,dh⟩:=b2;obtain⟨cH,di⟩:=b3;have N:=Aw (lN bj (lN bi bg));have KS:∀m,Sa w m SB h x s F d n r L->m ⟨r,t,M⟩=K ↑yo/\m ⟨r,f,M⟩=K ↑yf/\m ⟨T,15,M⟩=K (sG W n cC)/\m ⟨W,t,M⟩=K ↑yc:= λm hW=>by have i1:=(hW.at_ p.2.len aS).1;have i2:=(hW.at_ p.2.len bV).1;have i3:=(H.1.av hW.cq).lF aS;rw[bj]at i1;rw[bi]at i2;rw[bg]at i3;exact⟨i1,i2,(aI.o m hW.cq).2.2.1,i3⟩
 have aa:=Aw (p.1.av (As _));refine CD 20 (S:= λm=>m ⟨r,t,M⟩=K ↑yo/\m ⟨r,f,M⟩=K ↑yf/\m ⟨T,15,M⟩=K (sG W n cC)/\m ⟨W,t,M⟩=K ↑yc) kR (KS _ aa) (λaJ=> ?_)
 clear bj bi bg;generalize u6.drew=U7 at aa aJ⊢;have dF:IntKind.i64.wrap (yf+yc)=yf+yc:=pZ _ ⟨oM,oM⟩;refine FE 0 ?_ (hw:=kR);refine FE 1 ?_ (hw:=kR);refine FE 2 ?_ (hw:=kR);refine FE 3 ?_ (hw:=kR);refine FE 4 ?_ (hw:=kR);refine FE 5 ?_ (hw:=kR);refine FE 6 ?_ (hw:=kR);refine FE 7 ?_ (hw:=kR);refine FE 8 ?_ (hw:=kR);refine FE 9 ?_ (hw:=kR);refine FE 10 ?_ (hw:=kR);refine FE 11 ?_ (hw:=kR);refine FE 12 ?_ (hw:=kR);refine FE 13 ?_ (hw:=kR);refine FE 14 ?_ (hw:=kR);refine FE 15 ?_ (hw:=kR);refine FE 16 ?_ (hw:=kR);refine FE 17 ?_ (hw:=kR);refine FE 18 ?_ (hw:=kR);refine FE 19 ?_ (hw:=kR);go_simp;refine Oo 20 ?_;intro KC aO;rw[mE kR];obtain⟨c0,z0⟩:=aa.at_ p.2.len aS;rw[N.1]at c0;have c9:=World.cell?_setCell_same' U7 ⟨r,t,M⟩ (iZ (max yo (yf+yc))) (by rw[c0];rfl);have aH:Ae (Sa w (Aa U7 ⟨r,t,M⟩ (Ag Af (max yo (yf+yc)))) SB h x s F d n r (L.set t (max yo (yf+yc)))):=aa.put t _;go_simp;refine aO.o _ _ (λbt=>absurd bt oM) (λhH=> ?_);clear aO KC hH aJ;refine EI kR ?_ _;clear c0 z0 KS aa;generalize bZ:max yo (yf+yc)=Q at c9 aH⊢;have br:=Aw bZ;have cU:0<=Q:=oM;clear bZ;generalize Aa U7 ⟨r,t,M⟩ Q=U8 at c9 aH⊢;go_wp2_with fail;refine(GL Q U8).mono ?_;rintro e u9 ⟨rfl,rfl⟩;by_cases aW:Q<=4294967295
 . rw[decide_eq_true (show 0<=Q/\Q<=4294967295 from⟨cU,aW⟩)]
   have cj:Ae (Sa w u9 SB h x s F d n r (L.set t Q)/\WQ E n (λb=>decide ((b:Int)∈d)) I C h X (L.set t Q) k (q+1)):=⟨aH,by have:=p.2.over ax.2 ⟨aK,by simpa using bx.o⟩ ax.1 A.2 ⟨bu,by simpa using bB.o⟩ (by rw[A.1,aA];exact aZ) (by rw[A.1];exact bf) (by rw[A.1];exact aS) (by rw[A.1,N.2.2];exact cH) (by rw[A.1,aA.o,N.1,N.2.1,N.2.2,br];exact aW);rw[A.1,aA.o,N.1,N.2.1,N.2.2,br]at this;exact this⟩
   clear p aH;go_wp2_with fail;go_roundw;(case rel=>exact⟨q+1,L.set t Q,oM,by trivial,by go_num,cj⟩);exact oI
 rw[nC (show¬(0<=Q/\Q<=4294967295)from λh=>aW h.2)]
 have HE:Ae (uf w n E d I C h X (Am (Ap #[sG r n n,false])) u9):=⟨r,[],false,rfl, λh=>(by cases h),.inr ⟨rfl,p.2.bad ⟨aK,by simpa using bx.o⟩ A.2 ⟨bu,by simpa using bB.o⟩ (by rw[A.1,aA];exact aZ) (by rw[A.1];exact bf) (by rw[A.1,aA.o,N.1,N.2.1,N.2.2,br];exact aW)⟩,aH.cq⟩;clear p aH;go_wp2_with fail;try rw[Exit.noGoto_ret]
 exact mM (v:=Ap #[sG r n n,false]) (by simp[results,results165,go_sem]) rfl HE
section
open Go.Shelf
attribute [local go_sem] Oper.semAt_some
def LV.arr(x:LV):Array J:=#[x.h,Z x.xa x.xn x.xc,Z x.ya x.yn x.yc]
def JM(W:Y)(b off:Nat)(a:List LV):Prop:=∀j (x:LV),a[j]?=K x->W ⟨b,off+j*3,M⟩=K ↑x.h/\W ⟨b,off+j*3+1,M⟩=K (Z x.xa x.xn x.xc)/\W ⟨b,off+j*3+2,M⟩=K (Z x.ya x.yn x.yc)
theorem JM.av{W d:Y}{b off e:Nat}{f:List LV}(h:JM W b off f)(a:b<e)(c:Ah e W d):JM d b off f:= λj x m=>by obtain⟨g,k,l⟩:=h j x m;exact⟨(c.cell (p:=⟨b,_,M⟩) a).trans g,(c.cell (p:=⟨b,_,M⟩) a).trans k,(c.cell (p:=⟨b,_,M⟩) a).trans l⟩
theorem RI(a:Option Addr)(n c:Nat)(w:Y):Ai Aq 194 #[Z a n c] w λe b=>e=Am (.func (.func 205) #[] #[.pointer w])/\b=Ac w (Ak #[Z a n c] 59):=by go_enter func194,ntmps194;go_wp2;go_ret;exact⟨rfl,rfl⟩
def Ll(W:Y)(d:Nat)(a:Option Addr)(c:List LV):Prop:=c≠[]->∃b off,a=K ⟨b,off,M⟩/\b<d/\JM W b off c
theorem Ll.av{W d:Y}{a:Option Addr}{f:List LV}(h:Ll W c a f)(k:Ah c W d):Ll d c a f:= λl=>by obtain⟨b,off,g,e,j⟩:=h l;exact⟨b,off,g,e,j.av e k⟩
theorem RH(n:Nat)(S:1<=n)(l s h cap:Nat)(a:Option Addr)(c:List LV)(R:c.length<=1048576)(d t:List LV->Y->Prop)(W:Y)(T:h<= ↑W)(D:AbidesFrom W d)
 (G:∀f x W,d f W->f.length< ↑c->YieldAt Fence.wide (n-1) Aq l #[.agg x.arr] W λe g=>(e=Am true/\d (f++[x]) g/\Ah h W g)\/(e=Am false/\t (f++[x]) g))
 (O:W.cell? s=K (Z a c cap)) (H:Ll W h a c) (C:d [] W):
 CallsIn Fence.wide n Aq 205 #[.func (.yield l) #[] #[],.pointer s] W λe g=>(∃v,e=Am v)/\((∃ys,ys=c/\d ys g)\/(∃f,f<+:c/\t f g)):=by
 refine callsIn_of_wp func205 rfl trivial ?_ rfl;simp only[ntmps205,List.size_toArray,nQ,nT,Nat.reduceAdd,Nat.reduceSub,Array.replicate_succ,Array.replicate_zero,List.push_toArray,List.append_toArray,nO,nW];gi_wp2
 gi_loopw [7] (λi wr=>∃k:Nat,k<= ↑c/\i=iZ k/\d (c.take k) wr/\Ah h W wr) (λi _=> ↑c-(intOf i).toNat)
 case atStart=>exact⟨0,oC _,rfl,C,mP _ _⟩
 obtain⟨k,Q,rfl,j,p⟩:=hrel;by_cases m:k< ↑c
 . obtain⟨x,q⟩:∃x,c[k]?=K x:=⟨_,an m⟩;obtain⟨b,off,B,P,A⟩:=H.av p (λe=>by rw[e]at m;exact absurd m sP);obtain⟨c0,c1,c2⟩:=A k x q;subst B;have w:d (c.take k) (Ac wr (Ak x.arr 65)):=D _ _ _ M j (World.grownBy_alloc wr _ M) (λr e=>by cases e);obtain⟨fn,tmps,assign,body,L,y⟩:=G _ x _ w (by rw[nF];omega);(have z:c.take (k+1)=c.take k++[x]:=by rw[List.take_add_one,q];rfl);have u:Ah h W (Ac wr (Ak x.arr 65)):=p.alloc (by have:=p.size;omega) _;simp only[LV.arr]at L y u;clear w q A;(gi_wp2);refine y.mono ?_;rintro e N (⟨rfl,E,I⟩|⟨rfl,F⟩)
   . (gi_wp2);go_roundw;(case rel=>exact⟨k+1,oM,sP,by rw[z];exact E,u.trans I⟩);exact oI
   (gi_wp2);refine mM (results_none rfl _ _ _) rfl ?_;exact⟨⟨_,rfl⟩,.inr ⟨_,by rw[<-z];exact List.take_prefix _ _,F⟩⟩
 obtain rfl:k=c.length:=oM;rw[List.take_length]at j;gi_wp2
 go_end0;exact⟨⟨_,rfl⟩,.inl ⟨_,rfl,j⟩⟩
theorem NI(n:Nat)(t:1<=n)(c d cap:Nat)(a:Option Addr)(b:List LV)(s:b.length<=1048576)(w:Y)(g:d<= ↑w)(f:w c=K (Z a b cap))(r:Ll w d a b):
 SeqStopsK Fence.wide n Aq 205 #[.pointer c] (λx:LV=>#[.agg x.arr]) (Ah d) (λys=>ys=b) (λu=>u<+:b) b w:= λl h j W e m _ q k=>
 RH n t l c d cap a b s h j W (mC g e.size) m q (by rw[e.cell (p:=⟨c,0,M⟩) (lT f)];exact f) (r.av (e.mono g)) k
theorem LD(w:Y)(x y z:J)(t:Aj):∀j u,[x,y,z][j]?=K u->(Ac w (Ak #[x,y,z] t)) ((⟨w,0,M⟩:Addr).add j)=K u:= λj u a=>by
 have h:=(Ay.new w #[x,y,z] t).cell j;rw[lQ,a]at h;have e:(⟨w,0,M⟩:Addr).add j=⟨w,j,M⟩:=by simp[Addr.add];omega
 rw[e];exact h
def Hk(a:List LV):List J:=Ad LV.enc a
theorem UE(a:List LV)(x:LV):Hk (a++[x])=Hk a++[iZ x.h,Z x.xa x.xn x.xc,Z x.ya x.yn x.yc]:=by simp[Hk,LV.enc]
theorem Ls(g cap:Nat)(a:Option Addr)(m:List LV)(w:World)(z:m.length<=1048576)(N:w g=some (Z a m cap))(s:Ll w w a m):
 Ai Aq 209 #[sN,.func (.func 205) #[] #[.pointer g]] w λe F=>∃V,e=Am V/\Ab F w 65 3 V m (Hk m)/\Ah w w F:=by
 refine(callsIn_wide (n:=5)).1 ?_;obtain⟨i0,S,ae,ai,aj⟩:=nE Xh;refine callsIn_of_wp_marks func209 rfl trivial ?_ rfl;simp only[ntmps209,List.size_toArray,nQ,nT,Nat.reduceAdd,Nat.reduceSub,Array.replicate_succ,Array.replicate_zero,List.push_toArray,List.append_toArray,nO,nW];gi_wp2
 have G:=Boxed.new w 59 sN;have q:Ah w w (Ac w (Ak #[sN] 59)):=Al _ _;refine wpIn_rangeFunc_ownH rfl oM (gf:=205) (lb:=#[.pointer g]) rfl trivial (enters_of func205 kR rfl)
  (NI 4 oM g w cap a m z _ sP (Az q N) (s.av q)) belowK_t (belowK_b sP) (mP _ _) (λ_=>rfl)
  (λb W=>(∃v,Boxed W w 59 v/\Ab W w 65 3 v b (Hk b)/\True)/\Ah w w W)
  (λ_ _ _=>False)
  (OwnFrom.and (Own.from (holdsRow_own w w 59 65 3 (λb:List LV=>b.length) (λb=>Hk b) (λb v=>True)) _) (ownFrom_below lR sP))
  (λ_ _ _ _ _ t _ _=>t)
  ⟨⟨_,G,mX _ _ _ _,trivial⟩,q⟩
  (λx a' W=>∃Bx, ↑w<Bx/\Ay W Bx x.arr 65/\a'={tmps:=#[sN,.func (.func 205) #[] #[.pointer g],.pointer w,undef,sN,.pointer Bx,.func (.func 205) #[] #[.pointer g],.agg x.arr,undef,undef,undef,undef,undef],defers:=[]})
  (λx a' _ X Y row t Q C=>by obtain⟨Bx,H,p,I⟩:=t;refine⟨Bx,H,?_,I⟩;have:=p.lt;unfold Ay at p⊢;rw[Q.block Bx this (λe=>by obtain⟨_,o,A,s⟩:=C Bx e.symm;rw[p]at A;cases A;cases s)];exact p)
  ?assign ?body ?done ?stop
 case assign=>
  rintro l b x W K ⟨⟨v,f,k,_⟩,d⟩ j;simp only[LV.arr]at j⊢;gi_wp2
  exact j _ _ ((KeepsOthers.alloc _ _).from _) ((mP _ W).alloc d.size _) ⟨⟨v,f.alloc _,k.alloc _,trivial⟩,d.alloc d.size _⟩ ⟨W,f.lt,Ay.new W _ _,rfl⟩
 case body=>
  rintro l b x a' W z ⟨r,C⟩ ⟨⟨v,f,k,_⟩,d⟩ ⟨Bx,au,u,rfl⟩ aE;have P:=f.cell;simp only[LV.arr]at u;obtain⟨x0,x1,x2⟩:=CI u;simp only[LV.arr];gi_wp2_with (gi_at_builtin;refine wpListIn_append_own _ rfl _ _ 59 rfl w 65 i0 (.agg #[iZ 0,sN,sN]) 3 56 underlying59 S ae ai aj rfl dC _ _ _ rfl (k.alloc _) W 1 1 [iZ x.h,Z x.xa x.xn x.xc,Z x.ya x.yn x.yc] rfl rfl (LD _ _ _ _ _) (by simp[Value.oneCell']) oX oM (by have:=d.size;simp;omega) ?_;intro v' w1 B R _;obtain⟨g',aq,rfl⟩:=ownsRow_succ B;obtain⟨E,aa,U,T,y⟩:=f.appended dC k d.size lR B R;have ax:=E.cell;have aA:=E.frozen)
  exact⟨T.from _,y,⟨⟨_,aa,by rw[UE];simpa using U,trivial⟩,d.trans y⟩⟩
 case done=>
  rintro D ys W O rfl ⟨⟨v,f,k,_⟩,L⟩ j;have P:=f.cell;gi_wp2
  refine⟨sP,.inl ⟨_,_,rfl,run_takeDeferred j,?_⟩⟩;exact⟨_,results_tmp rfl _ _ _,v,rfl,ownsRow_putObj k _ j rfl,L.trans (belowK_b (w:=w) lR W D _ _ (by simp at O;omega) j rfl rfl)⟩
 case stop=>rintro D c b W _ _ h _;exact h.elim
end
theorem Pe(v:VP)(p:MP)(fi:Int)(lv:VL)(l:ML)(w:Y)(hs:p.small)(hw:p.wf)(h:Eb w v p)(bf:D8 w v.r p.az)(bi:EZ w v.f p.aC)(bg:IG w v.f p.aC)(hl:l.small)(hr:M4 w lv l):
 Ai Aq 12 #[An #[v.r,v.k,v.f,v.t],fi,An #[l.head,lv.b,lv.k]] w λe d=>(∃n,e=Am (Ag Af n)/\qr p fi l n)/\Ah w w d:=by
 obtain⟨b1,b3,e1⟩:=Rd.aD hr.1;obtain⟨d1,d3,e2⟩:=Rd.aD hr.2;obtain⟨lb,lk⟩:=lv;simp only[]at e1 e2;subst e1 e2;obtain⟨x,ex⟩:∃x:EJ,x=⟨b1,l.back,b3⟩:=⟨_,rfl⟩;obtain⟨y,ey⟩:∃y:EJ,y=⟨d1,l.a7,d3⟩:=⟨_,rfl⟩;have aT:(Z b1 l.back b3)=Z x.a x.n x.c:=by rw[ex]
 have aW:(Z d1 l.a7 d3)=Z y.a y.n y.c:=by rw[ey]
 rw[aT,aW]at hr⊢;clear aT aW ex ey;have H:Ae (p.small/\p.wf/\Eb w v p/\D8 w v.r p.az/\EZ w v.f p.aC/\IG w v.f p.aC/\l.small/\M3 w (l,Z x.a x.n x.c,Z y.a y.n y.c)):=⟨hs,hw,h,bf,bi,bg,hl,hr⟩
 obtain⟨r1,r3,R,T,t1,t3,f1,f3,rfl⟩:=h.sl;clear hs hw h bf bi bg hl hr;generalize bx:p.aC.length=Q at H⊢;have aR:Ae (↑p.aC=Q):=bx
 clear bx;generalize p.az.length=W at H⊢;generalize p.b8.length=V at H⊢;generalize p.bO.length=X at H⊢;simp only[]at H;have E0:=Bw w #[Z r1 W r3,Z R V T,Z f1 Q f3,Z t1 X t3] #[l.head,Z x.a x.n x.c,Z y.a y.n y.c] 40 65;go_enter func12,ntmps12;go_upto_region 1 with fail
 refine Av (λu=>Ae (Ay u w #[Z r1 W r3,Z R V T,Z f1 Q f3,Z t1 X t3] 40/\Ay u ((w:Nat)+1) #[l.head,Z x.a x.n x.c,Z y.a y.n y.c] 65/\Ah w w u)) E0 ?_
 rintro U E1;clear E0;obtain⟨p0,p1,p2,p3⟩:=Cv E1.1;go_wp2_with fail;refine(LU ⟨Z r1 W r3,Z R V T,Z f1 Q f3,Z t1 X t3⟩ p fi U H.1 H.2.1 (H.2.2.1.av E1.2.2 lR) (H.2.2.2.1.av E1.2.2 lR) (H.2.2.2.2.1.av E1.2.2 lR)).mono ?_;rintro e u1 ⟨c,a,L,E,c1,N,G,c2,O,I,c3,D,n4,c4,aG,rfl,bt,bq,s⟩;have E2:Ae (Ay u1 w #[Z r1 W r3,Z R V T,Z f1 Q f3,Z t1 X t3] 40/\Ay u1 ((w:Nat)+1) #[l.head,Z x.a x.n x.c,Z y.a y.n y.c] 65/\Ah w w u1):=⟨E1.1.av s,E1.2.1.av s,Ar E1.2.2 lR s⟩
 have HG:Ae ((aG=true↔PY p fi)/\(aG=true->∃f r F ys,p.aC[fi.toNat]?=K f/\Ba f.aU r/\r.aU=0/\c=0/\CP u1 U (Z L E c1) (Z N G c2) (Z O I c3) (Z D n4 c4) F ys r)):=⟨bt,bq⟩
 clear bt bq s E1 p0 p1 p2 p3;go_upto_region 2 with fail
 refine Av (λu=>Ae ((Ay u w #[Z r1 W r3,Z R V T,Z f1 Q f3,Z t1 X t3] 40/\Ay u ((w:Nat)+1) #[l.head,Z x.a x.n x.c,Z y.a y.n y.c] 65/\Ah w w u)/\Ay u u1 #[c,a,Z L E c1,Z N G c2,Z O I c3,Z D n4 c4] 61/\Ah u1 u1 u)) ⟨⟨E2.1.av (Al _ _),E2.2.1.av (Al _ _),Ar E2.2.2 lR (Al _ _)⟩,Ay.new _ _ _,Al _ _⟩ ?_
 rintro U3 E3;cases aG
 case false=>
  have HN:Ae (¬La p fi l):= λe=>by obtain⟨f,r,h1,h2,h3,_⟩:=e.2.2;have:=HG.1.2 ⟨e.1,e.2.1,f,h1,r,h2,h3⟩;cases this
  go_wp2;go_ret;exact⟨⟨7,rfl,.inl ⟨HN,rfl⟩⟩,E3.1.2.2⟩
 obtain⟨f,r,F,ys,hf,aI,aM,rfl,bB⟩:=HG.2 rfl;have aJ:=HG.1.1 rfl;have HO:Ae (AY p 0/\0<=fi/\p.aC[fi.toNat]?=K f/\Ba f.aU r/\r.aU=0):=⟨aJ.1,aJ.2.1,hf,aI,aM⟩
 have aq:CP U3 U (Z L E c1) (Z N G c2) (Z O I c3) (Z D n4 c4) F ys r:=bB.jb E3.2.2;have ax:Ae (CP U3 U (Z L E c1) (Z N G c2) (Z O I c3) (Z D n4 c4) F ys r):=aq;have HI:Ae (qn f.aU r):=aI.iy aM;have bP:n4=r.cv.length:=by obtain⟨_,_,e⟩:=AF aq.jC;simp only[lU]at e;rw[e.2.1,<-aq.el,mQ]
 have aQ:Ae (¬l∈r.cv->¬La p fi l):= λbQ e=>by obtain⟨f',r',h1,h2,h3,h4⟩:=e.2.2;rw[HO.2.2.1]at h1;have ef:=mD h1;subst ef;have er:=h2.one HO.2.2.2.1;subst er;exact bQ h4
 clear bB aq hf aI aM aJ HG E2;generalize u1.heap.size=P at E3⊢;obtain⟨y0,y1,y2,y3,y4,y5⟩:=IL E3.2.1;subst bP;go_wp2_with fail;refine(JR D c4 r.cv l x y ((w:Nat)+1) U3 (mC HI.nl oM) (Sz HO.2.2.2.1).2 H.2.2.2.2.2.2.1 ax.rd.cv (M4.av (v:=⟨Z x.a x.n x.c,Z y.a y.n y.c⟩) H.2.2.2.2.2.2.2 E3.1.2.2 lR) E3.1.2.1).mono ?_;rintro e u4 ⟨⟨q1,rfl,bC⟩,s⟩;have E4:Ae ((Ay u4 w #[Z r1 W r3,Z R V T,Z f1 Q f3,Z t1 X t3] 40/\Ay u4 ((w:Nat)+1) #[l.head,Z x.a x.n x.c,Z y.a y.n y.c] 65/\Ah w w u4)/\Ay u4 P #[Ag Af 0,a,Z L E c1,Z N G c2,Z O I c3,Z D r.cv c4] 61/\CP u4 U (Z L E c1) (Z N G c2) (Z O I c3) (Z D r.cv c4) F ys r):=⟨⟨E3.1.1.av s,E3.1.2.1.av s,Ar E3.1.2.2 lR s⟩,E3.2.1.av s,ax.jb s⟩
 have aA:Ae (q1=true↔l∈r.cv):=bC;clear bC s E3 ax y0 y1 y2 y3 y4 y5;cases q1
 case false=>
  have HN:Ae (¬La p fi l):=aQ.o λe=>(by have:=aA.2 e;cases this)
  go_wp2;go_ret;exact⟨⟨7,rfl,.inl ⟨HN,rfl⟩⟩,E4.1.2.2⟩
 have aK:l∈r.cv:=aA.1 rfl;have HP:Ae (Z7 p fi l f r):=⟨HO.1,HO.2.1,HO.2.2.1,HO.2.2.2.1,HO.2.2.2.2,aK⟩;clear aA aQ;obtain⟨q,eq⟩:=mJ HO.2.1;subst eq;have aj:p.aC[q]?=K f:=by have:=HO.2.2.1;rw[lV]at this;exact this
 obtain⟨gk,ok,ck,aE,g,aO,m0,m1,m2,m3⟩:=Kz H.2.2.1.aC aj;obtain⟨ka,kc,au,bu⟩:=H.2.2.2.2.2.1.at aj aE;simp only[lU,aR.o,mj]at aE;obtain⟨rfl,rfl⟩:=aE;obtain⟨g1,g3,g4,g6,g7,g9,rfl⟩:=GU aO;simp only[]at m0 m1 m2 m3;have bj: ↑f.aU<=g9:=by rw[m3]at au;simp only[lX,lU]at au;rw[au.2.2];exact bu
 obtain⟨⟨hh,aF,br⟩,aZ,aY,bJ⟩:=HI.loop l aK;obtain⟨hb,aS⟩:∃m,r.a7[hh]?=K m:=⟨_,an br⟩;have bT:q<Q:=by have:=(f7.1 aj).1;rw[aR]at this;exact this
 have bH:Ae (∀u,Ah w w u->CP u U (Z L E c1) (Z N G c2) (Z O I c3) (Z D r.cv c4) F ys r->T7 u ⟨⟨r1,W,r3⟩,⟨R,V,T⟩,⟨K ⟨gk,ok,M⟩,Q,f3⟩,⟨t1,X,t3⟩,⟨g1,f.aP,g3⟩,f.cu,⟨g4,f.aB,g6⟩,⟨g7,f.aU,g9⟩,(q:Int),0,a,⟨L,E,c1⟩,⟨N,G,c2⟩,⟨O,I,c3⟩,⟨D,r.cv,c4⟩⟩ y p (q:Int) F f.aU hh l hb):= λu hu ow=>by
  have aX:F.length=r.a7.length:=by rw[<-ow.eb,mQ]
  have rp:=H.2.2.1.av hu lR;refine⟨⟨by rw[aX];exact HI.nb,HI.len,Rd.eP ow.jD,by rw[ow.eb];exact HI.eI⟩, λz hz=>⟨?_,?_⟩,⟨Rd.av aO.2.2 hu lR,bj,H.1.b8,rp.b8, λz hz bS=> ?_⟩,H.1.bO,rp.bO,rfl,aF,by rw[ow.eb];exact aS,Rd.av H.2.2.2.2.2.2.2.2 hu lR,aY,by rw[aX];exact aZ⟩
  . exact Rd.eP (ow.fg.own (z.2,z.1.next) (by refine mA.2 (.inl ?_);unfold Dt;exact oF (f:= λx=>(x.2,x.1.next)) hz))
  . have:=HI.two z.1 (by rw[<-ow.eb];exact oF (f:=Prod.fst) hz);omega
  obtain⟨j,hj⟩:=nB hz;obtain⟨qq,zz,e1,e2⟩:=(HO.1.iR aj hj).const bS;rw[e1,lV];exact⟨oM,(f7.1 e2).1⟩
 have bG:Ae (∀u,CP u U (Z L E c1) (Z N G c2) (Z O I c3) (Z D r.cv c4) F ys r->F.map Prod.fst=r.a7):= λu ow=>ow.eb
 have HM:Ae (w ⟨gk,ok+q*4,M⟩=K (Z g1 f.aP g3)/\w ⟨gk,ok+q*4+1,M⟩=K ↑f.cu/\w ⟨gk,ok+q*4+2,M⟩=K (Z g4 f.aB g6)/\w ⟨gk,ok+q*4+3,M⟩=K (Z g7 f.aU g9)):=⟨m0,m1,m2,m3⟩
 have bI:Ae (l.head=(hh:Int)):=aF;clear m0 m1 m2 m3 au bu aO aj aK aZ aY bJ aS br bj aF;go_upto_region 5 with fail
 have HR:Ae ((Ay u4.drew w #[Z r1 W r3,Z R V T,Z (K ⟨gk,ok,M⟩) Q f3,Z t1 X t3] 40/\Ay u4.drew ((w:Nat)+1) #[l.head,Z x.a x.n x.c,Z y.a y.n y.c] 65/\Ah w w u4.drew)/\Ay u4.drew P #[Ag Af 0,a,Z L E c1,Z N G c2,Z O I c3,Z D r.cv c4] 61/\CP u4.drew U (Z L E c1) (Z N G c2) (Z O I c3) (Z D r.cv c4) F ys r):=⟨⟨E4.1.1.av (As _),E4.1.2.1.av (As _),Ar E4.1.2.2 lR (As _)⟩,E4.2.1.av (As _),E4.2.2.jb (As _)⟩
 clear E4;have KS:∀d,Ay d w #[Z r1 W r3,Z R V T,Z (K ⟨gk,ok,M⟩) Q f3,Z t1 X t3] 40->Ay d ((w:Nat)+1) #[l.head,Z x.a x.n x.c,Z y.a y.n y.c] 65->Ay d P #[Ag Af 0,a,Z L E c1,Z N G c2,Z O I c3,Z D r.cv c4] 61->d.cell? w=K (Z r1 W r3)/\d.cell? ⟨w,1,M⟩=K (Z R V T)/\d.cell? ⟨w,2,M⟩=K (Z (K ⟨gk,ok,M⟩) Q f3)/\d.cell? ⟨w,3,M⟩=K (Z t1 X t3)/\d.cell? ⟨(w:Nat)+1,0,M⟩=K ↑hh/\d.cell? ⟨(w:Nat)+1,1,M⟩=K (Z x.a x.n x.c)/\d.cell? ⟨(w:Nat)+1,2,M⟩=K (Z y.a y.n y.c)/\d.cell? P=K (Ag Af 0)/\d.cell? ⟨P,1,M⟩=K ↑a/\d.cell? ⟨P,2,M⟩=K (Z L E c1)/\d.cell? ⟨P,3,M⟩=K (Z N G c2)/\d.cell? ⟨P,4,M⟩=K (Z O I c3)/\d.cell? ⟨P,5,M⟩=K (Z D r.cv c4):= λd A B C=>by obtain⟨p0,p1,p2,p3⟩:=Cv A;obtain⟨l0,l1,l2⟩:=CI B;obtain⟨y0,y1,y2,y3,y4,y5⟩:=IL C;rw[bI]at l0;exact⟨p0,p1,p2,p3,l0,l1,l2,y0,y1,y2,y3,y4,y5⟩
 refine wp_region_held_drew (S:= λd=>d.cell? w=K (Z r1 W r3)/\d.cell? ⟨w,1,M⟩=K (Z R V T)/\d.cell? ⟨w,2,M⟩=K (Z (K ⟨gk,ok,M⟩) Q f3)/\d.cell? ⟨w,3,M⟩=K (Z t1 X t3)/\d.cell? ⟨(w:Nat)+1,0,M⟩=K ↑hh/\d.cell? ⟨(w:Nat)+1,1,M⟩=K (Z x.a x.n x.c)/\d.cell? ⟨(w:Nat)+1,2,M⟩=K (Z y.a y.n y.c)/\d.cell? P=K (Ag Af 0)/\d.cell? ⟨P,1,M⟩=K ↑a/\d.cell? ⟨P,2,M⟩=K (Z L E c1)/\d.cell? ⟨P,3,M⟩=K (Z N G c2)/\d.cell? ⟨P,4,M⟩=K (Z O I c3)/\d.cell? ⟨P,5,M⟩=K (Z D r.cv c4)) kR (KS _ HR.1.1 HR.1.2.1 HR.2.1) (λaH=> ?_)
 refine wpAnyH_take (i:=0) (v:= ?_) rfl kR kR kR (λ_ _ _ h=>h) (Or.inl ⟨by rfl,?_⟩) (by assumption) ?_;rotate_left
 . (intro w ae;(try dsimp only at ae);go_simp;(try with_reducible rfl))
 refine wpAnyH_take (i:=1) (v:= ?_) rfl kR kR kR (λ_ _ _ h=>h) (Or.inl ⟨by rfl,?_⟩) (by assumption) ?_;rotate_left
 . (intro w ae;(try dsimp only at ae);go_simp;(try with_reducible rfl))
 refine wpAnyH_take (i:=2) (v:= ?_) rfl kR kR kR (λ_ _ _ h=>h) (Or.inl ⟨by rfl,?_⟩) (by assumption) ?_;rotate_left
 . (intro w ae;(try dsimp only at ae);go_simp;(try with_reducible rfl))
 refine wpAnyH_take (i:=4) (v:= ?_) rfl kR kR kR (λ_ _ _ h=>h) (Or.inl ⟨by rfl,?_⟩) (by assumption) ?_;rotate_left
 . (intro w ae;(try dsimp only at ae);go_simp;(try with_reducible rfl))
 refine wpAnyH_ready (rs:=[3]) kR sP ?_;refine AllReadyH.cons rfl (λKC ai=> ?_) AllReadyH.nil;go_simp;have aa:=HM.o;refine(Ly ⟨r1,W,r3⟩ ⟨R,V,T⟩ ⟨K ⟨gk,ok,M⟩,Q,f3⟩ ⟨t1,X,t3⟩ ⟨g1,f.aP,g3⟩ ⟨g4,f.aB,g6⟩ ⟨g7,f.aU,g9⟩ ⟨L,E,c1⟩ ⟨N,G,c2⟩ ⟨O,I,c3⟩ ⟨D,r.cv,c4⟩ f.cu 0 a q gk ok u4.drew bT (by rw[HR.1.2.2.cell (lT aa.1)];exact aa.1) (by rw[HR.1.2.2.cell (lT aa.2.1)];exact aa.2.1) (by rw[HR.1.2.2.cell (lT aa.2.2.1)];exact aa.2.2.1) (by rw[HR.1.2.2.cell (lT aa.2.2.2)];exact aa.2.2.2)).mono ?_;rintro e u5 ⟨rfl,s⟩;have E5:Ae ((Ay u5 w #[Z r1 W r3,Z R V T,Z (K ⟨gk,ok,M⟩) Q f3,Z t1 X t3] 40/\Ay u5 ((w:Nat)+1) #[l.head,Z x.a x.n x.c,Z y.a y.n y.c] 65/\Ah w w u5)/\Ay u5 P #[Ag Af 0,a,Z L E c1,Z N G c2,Z O I c3,Z D r.cv c4] 61/\CP u5 U (Z L E c1) (Z N G c2) (Z O I c3) (Z D r.cv c4) F ys r):=⟨⟨HR.1.1.av s,HR.1.2.1.av s,Ar HR.1.2.2 lR s⟩,HR.2.1.av s,HR.2.2.jb s⟩
 clear s aa;go_simp;refine ai.o _ _ (KS _ E5.1.1 E5.1.2.1 E5.2.1) (λaH=> ?_);clear ai KC;refine wpAnyH_ready (rs:=[5]) kR sP ?_;refine AllReadyH.cons rfl (λKC ai=> ?_) AllReadyH.nil;go_simp;refine(Ix ⟨⟨r1,W,r3⟩,⟨R,V,T⟩,⟨K ⟨gk,ok,M⟩,Q,f3⟩,⟨t1,X,t3⟩,⟨g1,f.aP,g3⟩,f.cu,⟨g4,f.aB,g6⟩,⟨g7,f.aU,g9⟩,(q:Int),0,a,⟨L,E,c1⟩,⟨N,G,c2⟩,⟨O,I,c3⟩,⟨D,r.cv,c4⟩⟩ hh x y p (q:Int) F f.aU l hb u5 (bH.o u5 E5.1.2.2 E5.2.2)).mono ?_;rintro e u6 ⟨⟨n,rfl,hn⟩,s⟩;have E6:Ae (Ah w w u6/\qr p (q:Int) l n):=⟨Ar E5.1.2.2 lR s,.inr ⟨f,r,HP,by rw[<-bG.o u5 E5.2.2];exact hn⟩⟩
 have E7:=KS u6 (E5.1.1.av s) (E5.1.2.1.av s) (E5.2.1.av s);clear hn s;go_simp;refine ai.o _ _ E7 (λaH=> ?_);clear ai KC;refine wpAnyH_take (i:=6) (v:= ?_) rfl kR kR kR (λ_ _ _ h=>h) (Or.inl ⟨by rfl,?_⟩) (by assumption) ?_;rotate_left
 . (intro w ae;(try dsimp only at ae);go_simp;(try with_reducible rfl))
 refine wpAnyH_done kR ?_ _;clear aH KS E7;go_wp2;go_ret;exact⟨⟨n,rfl,E6.2⟩,E6.1⟩
section
open Go.Shelf
def M5(ts:List LV):Prop:=ts.Pairwise λa b=>ltOf LV.cmp b a=false
theorem LV.jl(x:LV):x.enc.length=3:=rfl
theorem JM.eP{w:Y}{a:List LV}(h:Ab w B 65 3 (sG g a c) a (Hk a)):JM w g 0 a:= λj x d=>by
 have b:∀i u,(Hk a)[i]?=K u->w ⟨g,0+i,M⟩=K u:= λi u e=>by rw[m9,oW h i (by have f:=(f7.1 e).1;have k:=h.1;omega)];exact e
 exact⟨by have:=Rd.elem LV.jl b j x d 0 _ rfl;rwa [mL]at this,Rd.elem LV.jl b j x d 1 _ rfl,Rd.elem LV.jl b j x d 2 _ rfl⟩
theorem uq(j:Nat):j % 3=0\/j % 3=1\/j % 3=2:=oM
theorem rq{w:Y}{a:List LV}(h:Ab w B 65 3 (sG g a c) a (Hk a)):Go.Sort.HoldsK LV.enc 3 w g 0 a.toArray:= λj b=>by
 rw[Go.Sort.size_flatK]at b;have m:j< ↑a*3:=by simpa using b
 have d:j / 3<a.length:=oM;obtain⟨_,f,e⟩:=AZ h;refine⟨?_,frozen_of_row w g (0+j) f _ e⟩;rw[Go.Sort.get_flatK _ _ _ _ b];have l:a[j / 3]?=K a[j / 3]:=an d;have k:(a.toArray[j / 3]!)=a[j / 3]:=by rw[getElem!_pos _ _ (by simpa using d)];simp
 obtain⟨c0,c1,c2⟩:=JM.eP h _ _ l;rw[k];rcases uq j with e|e|e
 . rw[e,show 0+j=0+j / 3*3 from oM,c0];rfl
 . rw[e,show 0+j=0+j / 3*3+1 from oM,c1];rfl
 rw[e,show 0+j=0+j / 3*3+2 from oM,c2];rfl
theorem Tc{w:Y}{d:Array LV}(h:Go.Sort.HoldsK LV.enc 3 w g 0 d):JM w g 0 d.toList:= λj x k=>by
 have a:j<d.size:=by have:=(f7.1 k).1;simpa using this
 have l:(d[j]!)=x:=by rw[getElem!_pos d j a];have:=(f7.1 k).2;simpa using this
 have b:=(h.cell (i:=j) (c:=0) a oM).1;have e:=(h.cell (i:=j) (c:=1) a oM).1;have f:=(h.cell (i:=j) (c:=2) a oM).1;rw[l]at b e f;exact⟨by rw[mL]at b;exact b,e,f⟩
theorem QN{w:Y}{n:Nat}{os:Array Obj}(d:Array LV):w.grownBy (sortWorldK LV.enc 3 w g 0 n d os) (K g):=by
 refine⟨rfl,rfl,rfl,size_sortWorldK_c _ _ _ _ _ _ _ _, λk a b=> ?_⟩;unfold sortWorldK Go.Sort.putRowK;rw[Go.Sort.heap_grow_old _ _ (by simpa[Go.Sort.putRow,Go.Sort.mapBlock,Go.Sort.ahead]using a)];have:g≠k:= λe=>b (by rw[e])
 simp[Go.Sort.putRow,Go.Sort.mapBlock,Go.Sort.ahead,Array.getElem?_modify,this]
theorem VK(B g cap:Nat)(ss:List LV)(w:Y)(F:ss.length<=1048576)(h:Ab w B 65 3 (sG g ss cap) ss (Hk ss)):
 Ai Aq 204 #[sG g ss cap,.func (.func 188) #[] #[]] w λe c=>e=Am (Ap #[])/\(∃ts,ts.Perm ss/\M5 ts/\JM c g 0 ts)/\w.grownBy c (K g):=by
 have d:=rq h;have u:=(AZ h).2;have f:g<w.heap.size:=by obtain⟨D,e⟩:=u;exact(mH.1 e).1
 have b:=AnyQ.slices_SortFunc Tryz.lSortF 3 Tryz.isAgg65 Tryz.sizeOf65 LV.enc (λ_=>rfl) (λx v r=>by simp[LV.enc]at r;rcases r with rfl|rfl|rfl<;>rfl) LV.cmp LV.swo 188 #[] g 0 cap ss.toArray w (enters_of func188 kR rfl) (λm os E _ x y=>Ru x y _) d f oT;change Ai Aq 204 #[sG g ss.toArray.size cap,_] _ _ at b;rw[List.size_toArray]at b;refine b.mono ?_;rintro e c ⟨rfl,a,n,os,⟨l,_,p⟩,C,rfl⟩;have q:a.size=ss.length:=by simpa using l
 refine⟨rfl,⟨a.toList,?_,?_,Tc (holdsK_sortWorldK_c _ _ _ _ _ _ _ _ _ d f l)⟩,QN a⟩
 . (have s:a.extract 0 ss=a:=by rw[<-q];simp);have t:ss.toArray.extract 0 ss=ss.toArray:=sP;rw[s,t]at p;simpa using p
 unfold M5;rw[oH];intro i j z k A;have:=C i j (oC _) A (by simpa[q]using k);rw[getElem!_pos _ _ (by simpa using k),getElem!_pos _ _ (by simpa using z)]at this;simpa using this
theorem O0(c cap:Nat)(a:Option Addr)(b:List LV)(w:Y)(l:b.length<=1048576)(h:w c=K (Z a b cap))(j:Ll w w a b):
 Ai Aq 203 #[.func (.func 205) #[] #[.pointer c]] w λe k=>∃V,e=Am V/\Ab k w 65 3 V b (Hk b)/\Ah w w k:=by
 have H:=Aw (Ls c cap a b w l h j);clear h j;go_enter func203,ntmps203;go_wp2_with fail;refine H.mono ?_;rintro e u ⟨V,rfl,f,g⟩;have d:=Aw (lN f g);clear f g;go_wp2;go_ret;exact⟨V,rfl,d.1,d.2⟩
def SdL(w b:Y)(V:J)(d ts:List LV):Prop:=ts.Perm d/\M5 ts/\(∃a c,V=Z a ts.length c/\(ts≠[]->∃g,a=K ⟨g,0,M⟩/\w.heap.size<=g/\JM b g 0 ts))/\Ah w.heap.size w b
theorem K8(f cap:Nat)(a:Option Addr)(b:List LV)(w:Y)(t:b.length<=1048576)(r:w.cell? ⟨f,0,M⟩=K (Z a b.length cap))(s:Ll w w.heap.size a b):
 Ai Aq 193 #[.func (.func 205) #[] #[.pointer f],.func (.func 188) #[] #[]] w λe F=>∃V ts,e=Am V/\SdL w F V b ts:=by
 have H:=Aw (O0 f cap a b w t r s);clear r s;go_enter func193,ntmps193;go_wp2_with fail;refine H.mono ?_;rintro e u ⟨V,rfl,d,m⟩;have k:=Aw m;rcases Bf d with⟨rfl,v⟩|⟨g,c,rfl⟩
 . have E:b=[]:=mG v;have n:=AnyF.slices_SortFunc_none Tryz.lSortF M 0 (.func (.func 188) #[] #[]) u;change Ai Aq 204 _ _ _ at n;have l:=Aw n;clear n d m v H;go_wp2_with fail;refine l.mono ?_;rintro e B ⟨rfl,rfl⟩;go_wp2;go_ret;exact⟨_,[],rfl,by rw[E],List.Pairwise.nil,⟨M,0,rfl, λh=>absurd rfl h⟩,k⟩
 have q:=(AZ d).1;have l:=Aw (VK w g c b u t d);clear d m H;go_wp2_with fail;refine l.mono ?_;rintro e B ⟨rfl,⟨ts,p,y,z⟩,A⟩;have C:Ae (SdL w B (sG g b c) b ts):=⟨p,y,⟨_,c,by rw[p.length_eq], λ_=>⟨g,rfl,q,z⟩⟩,k.grown A k.size (λj D=>by cases D;exact q)⟩;clear p y z A;go_wp2;go_ret;exact⟨_,ts,rfl,C⟩
end
section
open Go.Shelf
attribute [local go_sem] Oper.semAt_some
structure JK(gC gS:Nat)(W W':World):Prop where
 size:(W:Nat)<= ↑W'
 same:∀k o,W.heap[k]?=K o->o.isCells=true->k≠gC->k≠gS->W'.heap[k]?=K o
section
variable {gC gS:Nat} {X Y Z:World}
theorem JK.trans(h:JK gC gS X Y)(a:JK gC gS Y Z):JK gC gS X Z:=⟨mC h.size a.size, λk o e b c d=>a.same k o (h.same k o e b c d) b c d⟩
theorem JK.refl(gC gS:Nat)(W:World):JK gC gS W W:=⟨Nat.le_refl _, λ_ _ h _ _ _=>h⟩
theorem JK.of(h:Ah X X Y):JK gC gS X Y:=⟨h.size, λk o a _ _ _=>(h.block k (mH.1 a).1).trans a⟩
theorem JK.put{w:World}(W:World)(l:Nat)(o b:Obj)(_: ↑w<=l)(h:W.heap[l]?=K o)(d:o.isCells=false)(_:o.isWalk=false):JK gC gS W (W.putObj l b):=⟨(grownBy_putObj' W l b).size, λk q a c _ _=>((grownBy_putObj' W l b).block k (mH.1 a).1 (λe=>by cases e;rw[h]at a;cases a;rw[d]at c;cases c)).trans a⟩
theorem JK.cell(h:JK gC gS X Y){v:J}(a:X ⟨g,o,M⟩=K v)(c:g≠gC)(d:g≠gS):Y ⟨g,o,M⟩=K v:=by obtain⟨q,b,e⟩:=cells_of_cell a;refine(pj ?_).trans a;rw[h.same g q b e c d,b]
theorem JK.row(h:JK gC gS X Y){f:List LV}(k:JM X g o f)(d:g≠gC)(e:g≠gS):JM Y g o f:= λj x l=>by obtain⟨a,b,c⟩:=k j x l;exact⟨h.cell a d e,h.cell b d e,h.cell c d e⟩
end
theorem Nv(a:Option Addr)(n c:Nat)(w:World):Ai Aq 163 #[.slice a n c] w λe b=>e=Am (.func (.func 192) #[] #[.pointer w,.pointer (K ⟨(w:Nat)+1,0,M⟩)])/\(Ay b w #[.slice a n c] 59/\Ay b ((w:Nat)+1) #[.func (.func 188) #[] #[]] 283/\Ah w w b):=by have f:=H1 Aq;have d:=Bw w #[.slice a n c] #[.func (.func 188) #[] #[]] 59 283;go_enter func163,ntmps163;go_wp2;go_ret;exact⟨rfl,d⟩
theorem Nu(n:Nat)(hn:1<=n)(l y z cap gC gS:Nat)(a:Option Addr)(c:List LV)(hl:c.length<=1048576)(d T:List LV->World->Prop)(W:World)(aA:gC< ↑W)(aE:gS< ↑W)(hJ:AbidesFrom W d)
 (hY:∀j x W,x∈c->d j W->j.length< ↑c->YieldAt Fence.wide (n-1) Aq l #[An x.arr] W λe q=>(e=Am true/\d (j++[x]) q/\JK gC gS W q)\/(e=Am false/\T (j++[x]) q))
 (X:W.cell? y=K (.slice a c cap)) (s:W.cell? z=K (.func (.func 188) #[] #[])) (hc:Ll W W a c) (U:d [] W):
 CallsIn Fence.wide n Aq 192 #[.func (.yield l) #[] #[],.pointer y,.pointer z] W λe q=>(∃v,e=Am v)/\((∃ys,(ys.Perm c/\M5 ys)/\d ys q)\/(∃j,(∃ts,ts.Perm c/\M5 ts/\j<+:ts)/\T j q)):=by
 refine callsIn_of_wp func192 rfl trivial ?_ rfl;simp only[ntmps192,List.size_toArray,nQ,nT,Nat.reduceAdd,Nat.reduceSub,Array.replicate_succ,Array.replicate_zero,List.push_toArray,List.append_toArray,nO,nW];refine wpIn_wide.2 ?_;have H:=Aw (lN X (lN s (lN hc (lN U (lN hJ hY)))));clear X s hc U hJ hY;have A:∀m,Ah W W m->m y=K (.slice a c cap)/\m z=K (.func (.func 188) #[] #[]):= λm hb=>⟨Az hb H.1,Az hb H.2.1⟩
 go_upto_region 0 with fail
 refine wp_region_held_drew (S:= λm=>m y=K (.slice a c cap)/\m z=K (.func (.func 188) #[] #[])) kR (A _ (As _)) (λC=> ?_)
 have E:=Aw (As W);generalize W.drew=B at E C⊢;refine AU 0 ?_;refine AU 2 ?_;refine AU 5 ?_;refine DO 1 ?_;intro F t;rw[mE kR];go_simp;refine(RI a c cap B).mono ?_;rintro e u3 ⟨rfl,rfl⟩;have p:Ae (Ah W W (Ac B (Ak #[.slice a c cap] 59))):=Ar E lR (Al _ _);have G:=(Ay.new B #[.slice a c cap] 59).cell 0;simp only[lQ,lO]at G;go_simp;refine t.o _ _ (A _ p) (λC=> ?_);clear t F;refine DO 3 ?_;intro F t;rw[mE kR];go_simp;refine(K8 B cap a c _ hl G (λP=>by obtain⟨b,off,I,h2,L⟩:=(H.2.2.1.av p) P;exact⟨b,off,I,by have:=p.size;omega,L⟩)).mono ?_;rintro e u ⟨V,ts,rfl,Q,t2,⟨sa,sc,rfl,t3⟩,t4⟩;have R:=Aw (Ar p lR t4);have f:Ae (ts.Perm c/\M5 ts/\(ts≠[]->∃g,sa=K ⟨g,0,M⟩/\W.heap.size<=g/\JM u g 0 ts)):=⟨Q,t2, λP=>by obtain⟨g,I,h2,L⟩:=t3 P;exact⟨g,I,by have:=p.size;omega,L⟩⟩
 have aF:ts.length<=1048576:=by rw[Q.length_eq];exact hl
 clear Q t2 t3 t4 G;go_simp;refine t.o _ _ (A _ R) (λC=> ?_);clear t F;refine AU 4 ?_ (hw:=kR);go_simp;refine wpAnyH_done kR ?_ _;clear C A E p;have ae:d [] u:=H.2.2.2.2.1 [] W u M H.2.2.2.1 (DX R) (λr e=>by cases e);go_wp2_with fail;refine(wpIn_wide (n:=n)).1 ?_;gi_loopw [11] (λi wr=>∃k:Nat,k<= ↑ts/\i=iZ k/\d (ts.take k) wr/\JK gC gS u wr) (λi _=> ↑ts-(intOf i).toNat)
 case atStart=>exact⟨0,oC _,rfl,by simpa using ae,JK.refl _ _ _⟩
 clear ae;obtain⟨k,hk,rfl,N,ai⟩:=hrel;by_cases O:k< ↑ts
 . obtain⟨x,D⟩:∃x,ts[k]?=K x:=⟨_,an O⟩;obtain⟨g,ea,hg,aj⟩:=f.2.2 (λe=>by rw[e]at O;exact absurd O sP);obtain⟨c0,c1,c2⟩:=ai.row aj oM oM k x D;rw[m9]at c0 c1 c2;subst ea;have aa:d (ts.take k) (Ac wr (Ak x.arr 65)):=H.2.2.2.2.1 _ _ _ M N (World.grownBy_alloc wr _ M) (λr e=>by cases e);obtain⟨fn,tmps,assign,body,hy,hR⟩:=H.2.2.2.2.2 _ x _ (f.1.mem_iff.1 (lP D)) aa (by rw[nF,<-f.1.length_eq];omega);(have hT:ts.take (k+1)=ts.take k++[x]:=by rw[List.take_add_one,D];rfl);have s:JK gC gS u (Ac wr (Ak x.arr 65)):=ai.trans (JK.of (Al _ _));simp only[LV.arr]at hy hR s;clear aa D aj;(gi_wp2);refine hR.mono ?_;rintro e W3 (⟨rfl,aq,ax⟩|⟨rfl,au⟩)
   . (gi_wp2);go_roundw;(case rel=>exact⟨k+1,oM,sP,by rw[hT];exact aq,s.trans ax⟩);exact oI
   (gi_wp2);refine mM (results_none rfl _ _ _) rfl ?_;exact⟨⟨_,rfl⟩,.inr ⟨_,⟨ts,f.1,f.2.1,by rw[<-hT];exact List.take_prefix _ _⟩,au⟩⟩
 obtain rfl:k=ts.length:=oM;rw[List.take_length]at N;gi_wp2
 go_end0;exact⟨⟨_,rfl⟩,.inl ⟨_,⟨f.1,f.2.1⟩,N⟩⟩
theorem K3(n:Nat)(L:1<=n)(p r cap gC gS:Nat)(a:Option Addr)(c:List LV)(I:c.length<=1048576)(w:World)(P:gC< ↑w)(Q:gS< ↑w)(C:w p=K (.slice a c cap))(D:w r=K (.func (.func 188) #[] #[]))(H:Ll w w a c):
 SeqStopsK Fence.wide n Aq 192 #[.pointer p,.pointer r] (λx:{x:LV//x∈c}=>#[An x.1.arr]) (JK gC gS) (λys=>(ys.map Subtype.val).Perm c/\M5 (ys.map Subtype.val)) (λf=>∃ts,ts.Perm c/\M5 ts/\f.map Subtype.val<+:ts) c w:= λl t u W j E _ G y=>by
 refine(Nu n L l p r cap gC gS a c I (λf W=>∃q:List {x:LV//x∈c},q.map Subtype.val=f/\t q W) (λf W=>∃q:List {x:LV//x∈c},q.map Subtype.val=f/\u q W) W (by have:=j.size;omega) (by have:=j.size;omega) (λf A B row h d k=>h.elim λq h=>⟨q,h.1,E q A B row h.2 d k⟩) ?_ (Az j C) (Az j D) (λO=>by obtain⟨b,off,m,g,d⟩:=(H.av j) O;exact⟨b,off,m,by have:=j.size;omega,d⟩) ⟨[],rfl,y⟩).mono ?_
 . rintro f x W s ⟨q,rfl,g⟩ d;obtain⟨fn,tmps,assign,body,N,F⟩:=G q ⟨x,s⟩ W g (by simpa using d);refine⟨fn,tmps,assign,body,N,F.mono ?_⟩;rintro e v (⟨rfl,k,z⟩|⟨rfl,k⟩)
   . exact .inl ⟨rfl,⟨q++[⟨x,s⟩],sP,k⟩,z⟩
   exact .inr ⟨rfl,q++[⟨x,s⟩],sP,k⟩
 rintro e v ⟨m,⟨ys,g,q,rfl,d⟩|⟨f,g,q,rfl,d⟩⟩
 . exact⟨m,.inl ⟨q,g,d⟩⟩
 exact⟨m,.inr ⟨q,g,d⟩⟩
end
end Go.Proofs.YtkgohaigebcgoaaGreatDoor
