import Derived.Test.YtadcneiiokbofaaGreatBo39
import Derived.WalkMore
namespace Go.Proofs.YtadcneiiokbofaaGreat
open Go.ChangeShapes Go.WideShapes Go.ChangeAt Go.RowKit Go.Proofs.Tryz
set_option linter.unusedVariables false
open Go.Value renaming slice → Z,int → Ag,agg → Am,bool → An,tuple → Ao
open Option renaming some → K,none → M
open Go renaming World → Y,Calls → Ai
open Go.RowKit renaming Hid → Ae,Below → Ah
open Go.IntKind renaming i64 → Af
open Go.Obj renaming cells → Ak
open Go.Ending renaming returned → Al
open Go.Proofs.Tryz renaming prog → Ap
open Go.World renaming setCell → Aa,alloc → Ac
open List renaming flatMap → Ad
set_option maxHeartbeats 16000000
set_option maxRecDepth 100000
theorem G8(B T:Nat)(v:B2)(n W cC gS cS:Nat)(I:List Nat)(C:List Int)(E:Nat->List Nat)(R:List Nat)(X:Nat->Nat)(h:Nat)(x:FA)(s:Option Addr)(F:Nat)(d:List Int)(w:Y)(hn:n<=1024)(hS:CD w B T v n W cC gS cS I C)(hF:YJ w v n E R X)(hh:h<n)(d8:d.length<=1024)(hk:Rd w 1 (Z s d F) d (Ad As d))(hz:∀z∈d,∃b:Nat,z=(b:Int)/\b<n):
 Ai Ap 124 #[.pointer T,Am #[h,Z x.a x.n x.c,Z s d F]] w (ZB w n E d I C h X):=by
 obtain⟨k0,cu,cI,cJ,cM⟩:=mN Br;have db:= @run_makeMap Ap;have H:=Av (d5 hS (d5 hF (d5 hk hz)));obtain⟨gb,ob,bG,bH,bY⟩:=hF.gr;obtain⟨go,oo,bI,bJ,ce⟩:=hF.od;have HV:=Av (d5 bG (d5 bH (d5 bI bJ)));have de:R.length<=1024:=hF.rl;clear hS hF hk hz bG bH bI bJ bY ce;have bF:∀u,Ah w w u->u ⟨T,11,M⟩=K (sO gb ob n v.b.c)/\u ⟨T,12,M⟩=K (sO go oo R v.o.c)/\u ⟨T,15,M⟩=K (sG W n cC)/\u ⟨T,16,M⟩=K (sG gS n cS):= λu hu=>by obtain⟨a1,a2,a3,a4⟩:=(H.1.a7 hu).cells;rw[HV.1,HV.2.1]at a1;rw[HV.2.2.1,HV.2.2.2]at a2;exact⟨a1,a2,a3,a4⟩
 have aH:=Av bF;clear bF;have d7:(h:Int)<(n:Int):=oM;have E0:Ae (AA (Ac w (Ak #[h,Z x.a x.n x.c,Z s d F] 92)) w #[h,Z x.a x.n x.c,Z s d F] 92/\Ah w w (Ac w (Ak #[h,Z x.a x.n x.c,Z s d F] 92))):=⟨AA.new _ _ _,Aq _ _⟩
 go_enter func124,ntmps124;go_upto_region 1 with fail
 refine Ax (λu=>Ae (AA u w #[h,Z x.a x.n x.c,Z s d F] 92/\Ah w w u)) E0 ?_
 rintro U HE;clear E0;go_step3;have bM:=Aq U (.map #[] 0);have m2:=(HE.1.a7 bM).cell 2;simp only[lE,lC,lF]at m2;have aE:Ae (AP (Ac U (.map #[] 0)) U 0 (.map [])/\Ah w w (Ac U (.map #[] 0))/\AA (Ac U (.map #[] 0)) w #[h,Z x.a x.n x.c,Z s d F] 92):=⟨World.ownsMap_made _ _ _ _,Ar HE.2 lR bM,HE.1.a7 bM⟩
 have aF:=Av HE.1.lt;clear bM HE;go_upto_region 2 with fail
 have bx:=Av (Rd.a7 H.2.2.1 aE.2.1 lR);have bB:Ae (∀g o,s=K ⟨g,o,M⟩->0<d.length->g≠ ↑U):= λg o e hp q=>by
  rcases H.2.2.1.2 with⟨e1,_⟩|⟨g1,o1,c1,e1,hc⟩
  . omega
  simp only[lB,mB]at e1;have hl:=g8 (hc 0 _ (Di (an hp)));have:=aF.o;rw[e]at e1;simp only[lH,nF,nU]at e1;simp only[]at hl;omega
 go_wp2_with fail;refine(RG U s F d (Ac U (.map #[] 0)) oM (λz hz=>by obtain⟨b,rfl,P⟩:=H.2.2.2 z hz;exact Dh oM) bx bB aE.1).mono ?_;rintro e u2 ⟨rfl,bR,aW⟩;have E2:=Av (d5 bR (d5 (aE.2.1.grown aW aE.2.1.size (λj hj=>by cases hj;exact o7 aF)) (d5 (aE.2.2.apart aW (by have:=aF.o;omega)) ((by have:=aW.size;rw[oj]at this;omega):(U:Nat)< ↑u2))))
 clear bR aW aE bx bB m2;obtain⟨aj,am,ao,aq⟩:=aH.o u2 E2.2.1;go_upto_region 4 with(at_make;refine mm _ rfl _ _ 29 rfl u2 2 k0 (iZ 0) 1 underlying29 cu cI cJ Af Af _ _ n rfl rfl rfl rfl (by rw[cM];omega) oX lR ?_;intro w3 aX bP;rw[SE]at aX)
 have aT:Ah u2 u2 w3:=(lu _ _).grown bP lR (λk hk=>by cases hk);have E3:Ae (RE w w3 U h x s F d n u2 (List.replicate n 0)):=by obtain⟨⟨aM,D,s1,s2⟩,s3,s4,s5⟩:=E2.o;have:=aF.o;exact⟨⟨aM,D,s1.a7 aT,s2⟩,s4.a7 aT,⟨aX.1,aX.2.imp_right λ⟨g,cap,bV,q1,q2,q3⟩=>⟨g,cap,bV,q1,oM,q3⟩⟩,Ar s3 lR aT,oM,oM⟩
 clear aX bP aT aj am ao aq E2;generalize u2.heap.size=r at E3⊢;generalize U.heap.size=SB at E3 aF⊢;clear aF;have aA:=Av (E3.a7 (At _));clear E3;have KS:∀m,Ah w w m->AA m w #[h,Z x.a x.n x.c,Z s d F] 92->m w=K ↑h/\m ⟨T,15,M⟩=K (sG W n cC)/\m ⟨W,h,M⟩=K ↑(cf C h):= λm P hB=>⟨hB.cell 0,(aH.o m P).2.2.1,(H.1.a7 P).kY hh⟩
 refine wp_region_held_drew (S:= λm=>m w=K ↑h/\m ⟨T,15,M⟩=K (sG W n cC)/\m ⟨W,h,M⟩=K ↑(cf C h)) kR (KS _ aA.ej aA.lb) (λaI=> ?_)
 generalize w3.drew=U3 at aA aI⊢;refine AH 0 ?_ (hw:=kR);refine AH 1 ?_ (hw:=kR);refine AH 2 ?_ (hw:=kR);refine AH 3 ?_ (hw:=kR);refine AH 4 ?_ (hw:=kR);refine AH 5 ?_ (hw:=kR);refine AH 6 ?_ (hw:=kR);refine AH 7 ?_ (hw:=kR);refine AH 8 ?_ (hw:=kR);refine AH 9 ?_ (hw:=kR);refine AH 10 ?_ (hw:=kR);refine AH 11 ?_ (hw:=kR);go_simp;refine CX 12 ?_;intro KC aP;rw[lZ kR];obtain⟨c0,z0⟩:=aA.at_ nH hh;have E4:Ae (RE w (Aa U3 ⟨r,h,M⟩ (cf C h)) SB h x s F d n r ((List.replicate n 0).set h (cf C h))/\WQ E n (λb=>decide ((b:Int)∈d)) I C h X ((List.replicate n 0).set h (cf C h)) 0 0):=⟨aA.put h _,WQ.start hh (GR H.1.cc h)⟩
 go_simp;refine aP.o _ _ (KS _ E4.1.ej E4.1.lb) (λaI=> ?_);clear aP KC;refine wpAnyH_done kR ?_ _;clear aI KS c0 z0 aA;generalize Aa U3 ⟨r,h,M⟩ (cf C h)=U4 at E4⊢;generalize (List.replicate n (0:Int)).set h (cf C h)=L0 at E4;obtain⟨aj,am,ao,aq⟩:=aH.o U4 E4.1.ej;go_wp2_with fail;go_step3;go_wp2_with fail;clear aj am ao aq;go_loopw [8,45] (λsm i wr=>∃(k:Nat) (L:List Int),k<= ↑R/\sm=An true/\i=iZ k/\Ae (RE w wr SB h x s F d n r L/\WQ E n (λb=>decide ((b:Int)∈d)) I C h X L k 0)) (λ_ i _=> ↑R-(intOf i).toNat)
 case atStart=>exact⟨0,L0,oM,rfl,rfl,E4⟩
 case round=>
 clear E4;obtain⟨k,L,hk,rfl,rfl,l⟩:=hrel;by_cases bq:k< ↑R
 case neg=>
  have HE:Ae (ZB w n E d I C h X (Al (Ao #[sG r n n,true])) wr):=⟨r,L,true,rfl, λ_=>⟨λc hc=>(l.1.at_ l.2.len hc).1,l.2.jy⟩,.inl ⟨rfl,k,l.2, λb P=>by have:=(i8.1 (H.2.1.p1 b P)).1;omega⟩,l.1.ej⟩;go_wp2_with fail;try rw[Exit.noGoto_ret]
  exact lO (v:=Ao #[sG r n n,true]) (by simp[results,results124,go_sem]) rfl HE
 have d9:(k:Int)<(R:Int):=oM;obtain⟨b,P⟩:∃b,R[k]?=K b:=⟨_,an bq⟩;have aJ:b<n:=H.2.1.rb b (lA P);have au:Ae (X b=k/\∀b',b'<n->X b'=k->b'=b):=⟨H.2.1.p2 k b P, λb' h1 h2=>by have:=H.2.1.p1 b' h1;rw[h2,P]at this;exact(lP this).symm⟩
 have o0:wr ⟨go,oo+k,M⟩=K ↑b:=by
  obtain⟨cY,dj,q1,_,q3⟩:=(H.2.1.a7 l.1.ej).od;rw[HV.2.2.1]at q1;cases q1
  exact q3 k b P
 obtain⟨aM,D,s1,s2⟩:=l.1.set;have G:=Jz SB aM D (b:Int) wr (Dh oM) s1;rw[s2 (b:Int)]at G;clear s1 s2 P;by_cases aQ:(b:Int)∈d;case neg=>
  rw[mU aQ]at G;have V:=Av G;clear G;go_wp2_with fail;refine V.mono ?_;rintro e u5 ⟨rfl,O⟩;have ah:=Av (d5 (l.1.a7 O) (l.2.kO λb' h1 h2=>by rw[au.2 b' h1 h2];simpa using aQ));clear O o0;go_wp2_with fail;go_roundw;case rel=>exact⟨k+1,L,oM,by trivial,by go_num,ah⟩
  exact oI
 rw[decide_eq_true aQ]at G;have V:=Av G;clear G;go_wp2_with fail;refine V.mono ?_;rintro e u5 ⟨rfl,O⟩;have ah:=Av (d5 (l.1.a7 O) l.2);clear O o0 V l;obtain⟨aj,am,ao,aq⟩:=aH.o u5 ah.1.ej;obtain⟨s0,bL⟩:=(H.1.a7 ah.1.ej).km aJ;obtain⟨na,nc,g0,cA⟩:∃a c,u5 ⟨gb,ob+b*3+2,M⟩=K (Z a (E b).length c)/\Jo u5 (Z a (E b).length c) (E b):=by
  obtain⟨cg,cQ,q1,_,q3⟩:=(H.2.1.a7 ah.1.ej).gr;rw[HV.1]at q1;cases q1
  exact q3 b aJ
 have bC:Ae (∀u,Ah w w u->Jo u (Z na (E b).length nc) (E b)):= λu hu=>by
  obtain⟨cg,cQ,q1,_,q3⟩:=H.2.1.gr;rw[HV.1]at q1;cases q1
  obtain⟨a',c',e1,e2⟩:=q3 b aJ;have e3:=Au ah.1.ej e1;rw[g0]at e3;simp only[lH,lB,mB]at e3;rw[e3.1,e3.2];exact e2.a7 hu
 obtain⟨f,hf⟩:∃f,jf I b=f:=⟨_,rfl⟩;have aw:=Av hf;rw[hf]at s0 bL;have cZ:(b:Int)<(n:Int):=oM;have d6:(f:Int)<(n:Int):=oM;have cj:(E b).length<=1024:=H.2.1.sz b;have bt:=Av aQ;clear cA hf aQ;generalize bK:(E b).length=el at g0 bC cj;have bj:=Av bK;clear bK;go_wp2_with fail;clear aj am ao aq s0 g0;go_loopw [8,71] (λsm i wr=>∃(q:Nat) (L:List Int),q<=el/\sm=An true/\i=iZ q/\Ae (RE w wr SB h x s F d n r L/\WQ E n (λb=>decide ((b:Int)∈d)) I C h X L k q)) (λ_ i _=>el-(intOf i).toNat)
 case atStart=>exact⟨0,L,oM,rfl,rfl,ah⟩
 case round=>
 clear ah L;obtain⟨q,L,hq,rfl,rfl,l⟩:=hrel;by_cases cE:q<el;case neg=>
  have p:=Av (d5 l.1 (l.2.kQ λb' h1 h2=>by rw[au.2 b' h1 h2,bj];omega));clear l;go_wp2_with fail;go_roundw;case rel=>exact⟨k+1,L,oM,by trivial,by go_num,p⟩
  exact oI
 have dd:(q:Int)<(el:Int):=oM;obtain⟨y,hy⟩:∃y,(E b)[q]?=K y:=⟨_,an (by rw[bj];exact cE)⟩;have br:y<n:=H.2.1.eb b aJ y (lA hy);obtain⟨ng,no,bZ,e0⟩:∃g o,na=K ⟨g,o,M⟩/\wr ⟨g,o+q,M⟩=K ↑y:=by
  rcases(bC.o wr l.1.ej).2 with⟨q0,_⟩|⟨g,o,c',e1,hc⟩
  . rw[bj]at q0;omega
  simp only[lB]at e1;exact⟨g,o,e1.1,hc q _ (NQ hy)⟩
 obtain⟨s0,aS⟩:=(H.1.a7 l.1.ej).km br;obtain⟨t,ht⟩:∃t,jf I y=t:=⟨_,rfl⟩;rw[ht]at s0 aS;have A:=Av (d5 ht hy);have di:(y:Int)<(n:Int):=oM;have df:(t:Int)<(n:Int):=oM;obtain⟨aj,am,ao,aq⟩:=aH.o wr l.1.ej;obtain⟨aM,D,s1,s2⟩:=l.1.set;have G:=Jz SB aM D (y:Int) wr (Dh oM) s1;rw[s2 (y:Int)]at G;clear s1 s2 hy ht;subst bZ;by_cases aR:(y:Int)∈d;case neg=>
  rw[mU aR]at G;have V:=Av G;clear G;go_wp2_with fail;refine V.mono ?_;rintro e u6 ⟨rfl,O⟩;have p:=Av (d5 (l.1.a7 O) (l.2.jB au.2 A.2 λhq=>aR (by simpa using hq.1.2)));have l0:=p.1.lb.cell 0;simp only[lE,lC]at l0;clear O V l aj am ao aq s0 e0;go_wp2_with fail;go_roundw;case rel=>exact⟨q+1,L,oM,by trivial,by go_num,p⟩
  exact oI
 rw[decide_eq_true aR]at G;have V:=Av G;have bu:=Av aR;clear G aR;go_wp2_with fail;refine V.mono ?_;rintro e u6 ⟨rfl,O⟩;have p:=Av (d5 (l.1.a7 O) l.2);have l0:=p.1.lb.cell 0;simp only[lE,lC]at l0;clear O V l aj am ao aq s0 e0;by_cases aY:t=f;case pos=>
  have ae:=Av (d5 p.1 (p.2.jB au.2 A.2 λhq=>hq.2.1 (by rw[A.1,aw.o,aY])));subst aY;clear p;go_wp2_with fail;go_roundw;case rel=>exact⟨q+1,L,oM,by trivial,by go_num,ae⟩
  exact oI
 have cG:¬(t:Int)=(f:Int):=oM;have dg:((t:Int)==(f:Int))=false:=by simpa using cG
 by_cases aZ:t=h;case pos=>
  have ae:=Av (d5 p.1 (p.2.jB au.2 A.2 λhq=>hq.2.2 (by rw[A.1,aZ])));subst aZ;clear p;go_wp2_with fail;go_roundw;case rel=>exact⟨q+1,L,oM,by trivial,by go_num,ae⟩
  exact oI
 have cH:¬(t:Int)=(h:Int):=oM;have dh:((t:Int)==(h:Int))=false:=by simpa using cH
 go_upto_region 16 with fail
 clear l0;obtain⟨yo,bi⟩:∃z,cf L t=z:=⟨_,rfl⟩;obtain⟨yf,bg⟩:∃z,cf L f=z:=⟨_,rfl⟩;obtain⟨yc,bf⟩:∃z,cf C t=z:=⟨_,rfl⟩;have b1:EP yo:=bi▸GR p.2.jy t;have b2:EP yf:=bg▸GR p.2.jy f;have b3:EP yc:=bf▸GR H.1.cc t;obtain⟨cR,cT⟩:=b1;obtain⟨cU,cW⟩:=b2;obtain⟨bT,cX⟩:=b3;have N:=Av (d5 bi (d5 bg bf));have KS:∀m,RE w m SB h x s F d n r L->m ⟨r,t,M⟩=K ↑yo/\m ⟨r,f,M⟩=K ↑yf/\m ⟨T,15,M⟩=K (sG W n cC)/\m ⟨W,t,M⟩=K ↑yc:= λm hW=>by have i1:=(hW.at_ p.2.len aS).1;have i2:=(hW.at_ p.2.len bL).1;have i3:=(H.1.a7 hW.ej).kY aS;rw[bi]at i1;rw[bg]at i2;rw[bf]at i3;exact⟨i1,i2,(aH.o m hW.ej).2.2.1,i3⟩
 have ae:=Av (p.1.a7 (At _));refine Em 20 (S:= λm=>m ⟨r,t,M⟩=K ↑yo/\m ⟨r,f,M⟩=K ↑yf/\m ⟨T,15,M⟩=K (sG W n cC)/\m ⟨W,t,M⟩=K ↑yc) kR (KS _ ae) (λaI=> ?_)
 clear bi bg bf;generalize u6.drew=U7 at ae aI⊢;have dm:IntKind.i64.wrap (yf+yc)=yf+yc:=oC _ ⟨oM,oM⟩;refine Hc 0 ?_ (hw:=kR);refine Hc 1 ?_ (hw:=kR);refine Hc 2 ?_ (hw:=kR);refine Hc 3 ?_ (hw:=kR);refine Hc 4 ?_ (hw:=kR);refine Hc 5 ?_ (hw:=kR);refine Hc 6 ?_ (hw:=kR);refine Hc 7 ?_ (hw:=kR);refine Hc 8 ?_ (hw:=kR);refine Hc 9 ?_ (hw:=kR);refine Hc 10 ?_ (hw:=kR);refine Hc 11 ?_ (hw:=kR);refine Hc 12 ?_ (hw:=kR);refine Hc 13 ?_ (hw:=kR);refine Hc 14 ?_ (hw:=kR);refine Hc 15 ?_ (hw:=kR);refine Hc 16 ?_ (hw:=kR);refine Hc 17 ?_ (hw:=kR);refine Hc 18 ?_ (hw:=kR);refine Hc 19 ?_ (hw:=kR);go_simp;refine Ys 20 ?_;intro KC aP;rw[lZ kR];obtain⟨c0,z0⟩:=ae.at_ p.2.len aS;rw[N.1]at c0;have c9:=World.cell?_setCell_same' U7 ⟨r,t,M⟩ (iZ (max yo (yf+yc))) (by rw[c0];rfl);have aG:Ae (RE w (Aa U7 ⟨r,t,M⟩ (Ag Af (max yo (yf+yc)))) SB h x s F d n r (L.set t (max yo (yf+yc)))):=ae.put t _;go_simp;refine aP.o _ _ (λbq=>absurd bq oM) (λhH=> ?_);clear aP KC hH aI;refine Ii kR ?_ _;clear c0 z0 KS ae;generalize bQ:max yo (yf+yc)=Q at c9 aG⊢;have bp:=Av bQ;have cw:0<=Q:=oM;clear bQ;generalize Aa U7 ⟨r,t,M⟩ Q=U8 at c9 aG⊢;go_wp2_with fail;refine(GX Q U8).mono ?_;rintro e u9 ⟨rfl,rfl⟩;by_cases aU:Q<=4294967295
 . rw[decide_eq_true (show 0<=Q/\Q<=4294967295 from⟨cw,aU⟩)]
   have bS:Ae (RE w u9 SB h x s F d n r (L.set t Q)/\WQ E n (λb=>decide ((b:Int)∈d)) I C h X (L.set t Q) k (q+1)):=⟨aG,by have:=p.2.over au.2 ⟨aJ,by simpa using bt.o⟩ au.1 A.2 ⟨br,by simpa using bu.o⟩ (by rw[A.1,aw];exact aY) (by rw[A.1];exact aZ) (by rw[A.1];exact aS) (by rw[A.1,N.2.2];exact bT) (by rw[A.1,aw.o,N.1,N.2.1,N.2.2,bp];exact aU);rw[A.1,aw.o,N.1,N.2.1,N.2.2,bp]at this;exact this⟩
   clear p aG;go_wp2_with fail;go_roundw;(case rel=>exact⟨q+1,L.set t Q,oM,by trivial,by go_num,bS⟩);exact oI
 rw[mU (show¬(0<=Q/\Q<=4294967295)from λh=>aU h.2)]
 have HE:Ae (ZB w n E d I C h X (Al (Ao #[sG r n n,false])) u9):=⟨r,[],false,rfl, λh=>(by cases h),.inr ⟨rfl,p.2.bad ⟨aJ,by simpa using bt.o⟩ A.2 ⟨br,by simpa using bu.o⟩ (by rw[A.1,aw];exact aY) (by rw[A.1];exact aZ) (by rw[A.1,aw.o,N.1,N.2.1,N.2.2,bp];exact aU)⟩,aG.ej⟩;clear p aG;go_wp2_with fail;try rw[Exit.noGoto_ret]
 exact lO (v:=Ao #[sG r n n,false]) (by simp[results,results124,go_sem]) rfl HE
end Go.Proofs.YtadcneiiokbofaaGreat
