import Derived.Test.YtmalfecapdmdbaaGreatHo31
namespace Go.Proofs.YtmalfecapdmdbaaGreat
open Go.ChangeShapes Go.WideShapes Go.ChangeAt Go.RowKit Go.Proofs.Tryz
set_option linter.unusedVariables false
open Option renaming some → K,none → M
open Go renaming Value → J,World → Y,Calls → Ai,TypeId → Aj
open Go.RowKit renaming Below → Ah,Hid → Ae
open Go.Ending renaming returned → Al
open Go.Value renaming agg → Am,slice → Z,int → Ag,bool → An,tuple → Ao
open Go.Proofs.Tryz renaming prog → Ap
open List renaming flatMap → Ad
open Go.Obj renaming cells → Ak
open Go.World renaming alloc → Ac,ownsRow → Ab
set_option maxHeartbeats 8000000
set_option maxRecDepth 100000
variable {w u:Y}{F:List (MB×J)}{N base:Nat}{s:J}{fs:List MF}
def Wt(r k f t p rs l c b co a d h e g:J):J:=Am #[r,k,f,t,p,rs,l,c,b,co,a,d,h,e,g]
theorem Et(r k f t p rs l c s co a G B z A v y:J)(F:List (MB×J))(h:Nat)(m:MB)(w:Y)(P:F.length<=1048576)(d:Rd w 3 G F (Ad BN F))(i:(F.map Prod.fst)[h]?=K m):
 Ai Ap 86 #[Wt r k f t p rs l c s co a G B z A,Am #[h,v,y]] w λe I=>e=Al m.gH/\Ah w w I:=by
 obtain⟨x,j,rfl⟩:∃x,F[h]?=K x/\x.1=m:=by rw[lE]at i;exact mT.1 i
 obtain⟨L,c1,rfl⟩:=d.dk;have O:h<F.length:=(i6.1 j).1;rcases d.2 with⟨N,_⟩|⟨g,o,cc,D,E⟩
 . omega
 simp only[i8,lB]at D;obtain⟨rfl,rfl⟩:=D;have q:=Rd.elem A9 E h x j 0 _ rfl;rw[kJ]at q;clear E d i j;generalize F.length=n at*;have C:=BL w #[r,k,f,t,p,rs,l,c,s,co,a,sO g o n c1,B,z,A] #[h,v,y] 160 85;unfold Wt;go_enter func86,ntmps86;go_upto_region 1 with fail
 refine Ax (λu=>AC u w #[r,k,f,t,p,rs,l,c,s,co,a,sO g o n c1,B,z,A] 160/\AC u ((w:Nat)+1) #[h,v,y] 85/\Ah w w u) C ?_
 rintro U b;clear C;rw[<-b.2.2.cell (hC q)]at q;obtain⟨Q,R,S⟩:=Cl b.2.1;have T:=b.1.cell 11;have H:=Av b.2.2;clear b;go_wp2;go_ret;exact⟨rfl,H⟩
theorem Ob(s:J)(xs:List MI)(w:Y)(hn:xs.length<=1048576)(h:Rd w 4 s xs (Ad MI.cells xs)):
 Ai Ap 83 #[s] w λe w'=>∃r vb vo vi vl F ys,e=Al (Am #[iZ r.eC,iZ r.at_,vb,vo,vi,vl])/\Bg xs r/\GT w' w vb vo vi vl F ys r/\Ah w w w':=by
 have H:=Av h;obtain⟨a1,c1,rfl⟩:=h.dk;clear h;have aF:Ae (AC (Ac w (Ak Wf 80)) w Wf 80/\Ah w w (Ac w (Ak Wf 80))):=⟨AC.new _ _ _,Aq _ _⟩
 go_enter func83,ntmps83;go_wp2_with fail;refine(Ln _ xs _ hn (H.a7 aF.2 lR)).mono ?_;rintro e U ⟨V,F,rfl,ah,cE,b1⟩;have bT:(Ac w (Ak Wf 80)).heap.size= ↑w+1:=sP
 rw[bT]at ah;have p:=Av (d5 (aF.1.a7 b1) (Ar aF.2 lR b1));clear aF b1 bT;rcases cE with⟨hg,rfl⟩|⟨hg,hF⟩
 . have r0:U w=K (iZ 0):=p.1.cell 0;have r1:U ⟨w,1,M⟩=K (iZ 0):=p.1.cell 1;have r2:U ⟨w,2,M⟩=K sN:=p.1.cell 2;have r3:U ⟨w,3,M⟩=K sN:=p.1.cell 3;have r4:U ⟨w,4,M⟩=K sN:=p.1.cell 4;have r5:U ⟨w,5,M⟩=K sN:=p.1.cell 5;have f0:=p.1.frozen 0;have f1:=p.1.frozen 1;have f2:=p.1.frozen 2;have f3:=p.1.frozen 3;have f4:=p.1.frozen 4;have f5:=p.1.frozen 5;obtain⟨ab,cb,rfl⟩:∃a c,V=Z a 0 c:=AO ah.row;have HG:=Av hg;clear hg ah;go_wp2_with fail;obtain⟨P,A,B,Q,R,T⟩:=CM p.1 (iZ 4) (iZ 0) sN sN sN sN;simp only[six]at P A B Q R T;exact kQ (v:=Am #[iZ 4,iZ 0,sN,sN,sN,sN]) (by simp[results,results83,go_sem,P,A,B,Q,R,T]) rfl ⟨DY 4 0,_,_,_,_,[],[],rfl,.none HG,GT.none _ _ _ _,CL p.2 lR _ _ _ _ _ _⟩
 have bQ:Kp U V (AM xs):=by rw[<-hF];exact ah.rd
 obtain⟨gb,ob,cb,rfl,aJ,bK⟩:=bQ.ir hg;have aX:=ah.ints hF rfl rfl;have aP:=Hz hg;have am:=Gb hg;have cX:=hg.1;obtain⟨x,N⟩:∃x,xs[xs.length-1]?=K x:=⟨_,an oM⟩;have HG:=Av (d5 hg N);have ae:Ae ((∀b,b<(AM xs).length->∀x∈nx (AM xs) b,x<(AM xs).length)/\∀b,(nx (AM xs) b).length<=2):=⟨PG hg,Jk _ (Gc xs)⟩
 obtain⟨n,aE⟩:∃n,n=(AM xs).length:=⟨_,rfl⟩;obtain⟨E,aG⟩:∃E,E=nx (AM xs):=⟨_,rfl⟩;rw[<-aE]at aJ aX;rw[<-aG]at aJ;rw[<-aE,<-aG]at ae;rw[<-aE]at aP am ah⊢;have HB:=Av (d5 ah (d5 aJ (d5 bK (d5 aX hF))));have HN:=Av (d5 aE aG);clear bQ aJ bK hg aE aG ah aX hF;have cW:¬(n:Int)=0:=oM;have cU:((n:Int)==0)=false:=oT;obtain⟨gx,ox,rfl,aZ⟩:∃gx ox,a1=K ⟨gx,ox,M⟩/\(U ⟨gx,ox+(xs.length-1)*4,M⟩=K ↑x.op/\U ⟨gx,ox+(xs.length-1)*4+1,M⟩=K ↑x.a/\U ⟨gx,ox+(xs.length-1)*4+2,M⟩=K ↑x.b/\U ⟨gx,ox+(xs.length-1)*4+3,M⟩=K ↑x.c):=by
  rcases H.2 with⟨e0,_⟩|⟨gx,ox,cx,e1,aI⟩
  . omega
  simp only[i8,lB]at e1;have i0:=Rd.elem MI.dr aI (xs.length-1) _ N 0 _ rfl;rw[kJ]at i0;exact⟨gx,ox,e1.1,Au p.2 i0,Au p.2 (Rd.elem MI.dr aI (xs.length-1) _ N 1 _ rfl),Au p.2 (Rd.elem MI.dr aI (xs.length-1) _ N 2 _ rfl),Au p.2 (Rd.elem MI.dr aI (xs.length-1) _ N 3 _ rfl)⟩
 clear N;obtain⟨lx,aY⟩:∃lx,xs.length=lx+1:=⟨xs.length-1,oM⟩;rw[aY]at aZ⊢;simp only[Nat.add_sub_cancel]at aZ;obtain⟨c0,ce,c2,c3⟩:=aZ;have bY:=Av aY;have cR:lx<=1048576:=oM;have cT:(lx:Int)<=1048576:=oM;clear aY hn;go_wp2_with fail;refine(Lj x U).mono ?_;rintro e u2 ⟨rfl,b2⟩;have u:=Av (d5 (p.1.a7 b2) (d5 (Ar p.2 lR b2) b2));have aU:=Av p.1.lt;have br:=Av b2.size;clear b2 p c0 ce c2 c3;cases hon:EO x
 . have aT:Ae (EO x=false):=hon;clear hon;go_wp2_with fail;refine(Oh gb ob cb n E u2 am aP ae.1 ae.2 (HB.2.1.a7 u.2.2) (λb hb=>by obtain⟨f,l,A,B⟩:=HB.2.2.2.1 b hb;exact⟨f,l,Au u.2.2 A,Au u.2.2 B⟩)).mono ?_;rintro e u3 ⟨G,gN,cN,gF,gO,cO,gP,S,O,rfl,aw⟩;have i:=Av aw;have aR:=Av (d5 (u.1.a7 aw.e8) (d5 (Ar u.2.1 lR aw.e8) (d5 (Ar u.2.2 lR aw.e8) aU.o)));clear aw u;obtain⟨aW,bC,cM,bF⟩:=UU aP ae.1 i.vs;have cI:Ae ((∀x∈O,x<n)/\O.Nodup/\(∀x∈O,DR E (λ_=>True) 0 x)):=⟨aW,bC,bF⟩
   have bq:Ae (∀k x:Nat,O.reverse[k]?=K x->u3 ⟨gO,k,M⟩=K ↑x):= λk x N=>by have ho:=i.ord;rw[<-mC]at ho;obtain⟨_,_,ee,_,q⟩:=ho.rd.at_ N;simp only[kI,mE,mV]at ee;obtain⟨rfl,rfl⟩:=ee;rw[lM]at q;exact q
   have bp:=Um G n gN cN gO cO O.reverse u3 am (λx N=>aW x (mc.1 N)) (by rw[mC];omega) (i.gK.cell 0) (by rw[mC];exact i.gK.cell 2) bq;clear aW bC bF;go_wp2_with fail;refine bp.mono ?_;rintro e u4 ⟨g9,cJ,zs,rfl,aQ,b7,aA,b4⟩;have j:=Av (d5 (aR.1.a7 b4) (d5 (Ar aR.2.1 lR b4) (d5 (Ar aR.2.2.1 lR b4) b4)));clear bp b4;cases zs with
   | cons z r=>
     obtain⟨b,rfl,bI,cw⟩:=(aA z).1 (lV ..);have cQ:(b:Int)<(n:Int):=oM;obtain⟨m,hm⟩:∃m,(AM xs)[b]?=K m:=⟨_,an (by rw[<-HN.1];exact bI)⟩;have m0:=Au j.2.2.1 (HB.2.2.1 b m hm);have z0:=aQ.cellAt 0 sP;simp only[lD,As,lK,i9]at z0;(have cG:(0:Int)<(((b:Int)::r).length:Int):=by rw[lX];omega);have aq:Ae (Bg xs (DY 2 m.gH)):=.lost HG.1 HG.2 aT (S:=S) (O:=O) (by rw[<-HN.2];exact i.vs) (by rw[<-HN.1];exact bI) (λq=>cw (mc.2 ((Ga i.vs b).1 q))) (λc hc=>by
      refine(Ga i.vs c).2 (mc.1 (lW λq=> ?_));have h1:=(aA (c:Int)).2 ⟨c,rfl,oM,q⟩;rcases kY.1 h1 with e|e
      . omega
      have:=(lg.1 b7).1 _ e;omega) hm
     generalize cg:((b:Int)::r).length=lz at cG aQ;clear aQ b7 aA hm cg;have r0:u4 w=K (iZ 0):=j.1.cell 0;have r1:u4 ⟨w,1,M⟩=K (iZ 0):=j.1.cell 1;have r2:u4 ⟨w,2,M⟩=K sN:=j.1.cell 2;have r3:u4 ⟨w,3,M⟩=K sN:=j.1.cell 3;have r4:u4 ⟨w,4,M⟩=K sN:=j.1.cell 4;have r5:u4 ⟨w,5,M⟩=K sN:=j.1.cell 5;have f0:=j.1.frozen 0;have f1:=j.1.frozen 1;have f2:=j.1.frozen 2;have f3:=j.1.frozen 3;have f4:=j.1.frozen 4;have f5:=j.1.frozen 5;go_wp2_with fail;obtain⟨P,A,B,Q,R,T⟩:=CM j.1 (iZ 2) m.gH sN sN sN sN;simp only[six]at P A B Q R T;exact kQ (v:=Am #[iZ 2,m.gH,sN,sN,sN,sN]) (by simp[results,results83,go_sem,P,A,B,Q,R,T]) rfl ⟨DY 2 m.gH,_,_,_,_,[],[],rfl,aq,GT.none _ _ _ _,CL j.2.1 lR _ _ _ _ _ _⟩
   | nil=>
     (have bG:∀c,c<n->c∈O:= λc hc=>mc.1 (lW λq=>by have:=(aA (c:Int)).2 ⟨c,rfl,hc,q⟩;cases this));obtain⟨hP,bP,cu,bB,cj⟩:=Es aP ae.1 i.vs (λc hc=>(Ga i.vs c).2 (bG c hc));have X:=Av (d5 hP (d5 bP (d5 bB cu)));clear aQ b7 aA bG hP bP bB cj;have bi:=N6 G n gN cN gF n gO cO gP n E O u4 am X.1 X.2.2.2 X.2.1 X.2.2.1 (λb=>by have:=JF ae.2 n b;omega) (by have ho:=i.ord;unfold Gh at ho;rw[mC]at ho;have:=VU ho;rw[X.2.2.2]at this;exact this) (by have:=i.gK.a7 j.2.2.2;rw[X.2.2.2]at this;exact this) (i.fr.a7 j.2.2.2) (λk x N=>Au j.2.2.2 (bq.o k x N)) (λx N=>Au j.2.2.2 (i.pl x ((X.2.2.1 x).2 N))) ⟨i.ne.1,i.ne.2.1,i.ne.2.2.1,i.ne.2.2.2, λb a c hb hc=>by obtain⟨a',c',A,_⟩:=i.fr b hb;rw[lM]at A;have B:=Au j.2.2.2 A;rw[hc]at B;exact i.nf b a (Bs E n b).length c hb (A.trans B.symm)⟩;go_wp2_with fail;refine bi.mono ?_;rintro e u5 ⟨rfl,gi,I,au,bJ⟩;have aj:=Av (d5 (GD.of i X.2.2.2 X.2.2.1 j.2.2.2 au) bJ);have aS:Ae (AC u5 w Wf 80/\Ah w w u5/\Ah U U u5):=by have h1:=i.ge;have h2:=br.o;have h3:=aU.o;refine⟨?_,j.2.1.trans (au.e8.mono oM),j.2.2.1.trans (au.e8.mono oM)⟩;have k:=j.1;unfold AC at*;rw[au.fx w (kM.1 k).1 oM];exact k
     clear bi au bJ;obtain⟨D,hD⟩:∃D:Nat->Nat->Bool,∀d b,D d b=true↔CZ E d b:=⟨λd b=> @decide _ (Classical.propDecidable (CZ E d b)), λd b=>sP⟩;have HD:=Av hD;clear hD;have bg:=Mm G n gN cN gP n gi n E O I D u5 am X.1 aj.2 HD ae.2 (aj.1.gK.cell 0) aj.1.nx aj.1.gi_;go_wp2_with fail;refine bg.mono ?_;rintro e W ⟨cA,b6⟩;have g:=Av (d5 (aS.1.a7 b6) (d5 (Ar aS.2.1 lR b6) (d5 (Ar aS.2.2 lR b6) (d5 (aj.1.a7 b6) b6))));clear bg b6;rcases cA with⟨b,k,y,rfl,aH⟩|⟨gB,FS,rfl,bL,bH,bu,bt⟩
     . have cH:y<n:=ae.1 b aH.lt y (i7 aH.at_);have d6:(y:Int)<(n:Int):=oM;have cY:((y:Int)== -1)=false:=sP;have cZ:((y:Int) != -1)=true:=sP;obtain⟨m,hm⟩:∃m,(AM xs)[y]?=K m:=⟨_,an (by rw[<-HN.1];exact cH)⟩;have m0:=Au g.2.2.1 (HB.2.2.1 y m hm);(have aq:Ae (Bg xs (DY 3 m.gH)):=by refine .two (D:=D) (b:=b) (k:=k) (t:=y) HG.1 HG.2 aT (S:=S) (O:=O) (by rw[<-HN.2];exact i.vs) (by rw[<-HN.1];exact λc hc=>(Ga i.vs c).2 ((X.2.2.1 c).2 hc)) (by rw[<-HN.2];exact HD) ?_ hm;rw[<-HN.1,<-HN.2];exact aH);clear hm aH;have r0:W w=K (iZ 0):=g.1.cell 0;have r1:W ⟨w,1,M⟩=K (iZ 0):=g.1.cell 1;have r2:W ⟨w,2,M⟩=K sN:=g.1.cell 2;have r3:W ⟨w,3,M⟩=K sN:=g.1.cell 3;have r4:W ⟨w,4,M⟩=K sN:=g.1.cell 4;have r5:W ⟨w,5,M⟩=K sN:=g.1.cell 5;have f0:=g.1.frozen 0;have f1:=g.1.frozen 1;have f2:=g.1.frozen 2;have f3:=g.1.frozen 3;have f4:=g.1.frozen 4;have f5:=g.1.frozen 5;go_wp2_with fail;obtain⟨P,A,B,Q,R,T⟩:=CM g.1 (iZ 3) m.gH sN sN sN sN;simp only[six]at P A B Q R T;exact kQ (v:=Am #[iZ 3,m.gH,sN,sN,sN,sN]) (by simp[results,results83,go_sem,P,A,B,Q,R,T]) rfl ⟨DY 3 m.gH,_,_,_,_,[],[],rfl,aq,GT.none _ _ _ _,CL g.2.1 lR _ _ _ _ _ _⟩
     have ao:Ae (BK u5 W n gB FS/\(∀b,b<n->∀t∈E b,¬Mb O D b t)/\ ↑FS=n/\∀x,x<n->∃V,FS[x]?=K (V,AH E D n x)):=⟨bH,bL,bu,bt⟩
     clear bH bL bu bt;obtain⟨Lf,bx⟩:∃L:Nat->Nat->Bool,∀h y,L h y=true↔AR E D n h y:=⟨λh y=> @decide _ (Classical.propDecidable (AR E D n h y)), λh y=>sP⟩;have bo:=Av bx;clear bx;have bD:=At W;have bj:=Tm G n gF n gB E D Lf FS W.drew am ae.1 ae.2 bo ((g.2.2.2.1.gK.a7 bD).cell 1) (g.2.2.2.1.fr.a7 bD) (λx N=>by
      obtain⟨V,hV⟩:=ao.2.2.2 x N;refine⟨V,hV,?_,?_⟩
      . have:=(ao.1.a7 bD).io.cellAt x oM;rw[lE,hV]at this;exact this
      have:=Rd.gM ((ao.1.a7 bD).gV.own (V,ints (AH E D n x)) (lA.2 ⟨(V,_),i7 hV,rfl⟩));simp only[AZ]at this;rw[<-C7]at this;exact this)
     have bV:=Av bj;have x2:W.drew ⟨G,2,M⟩=K (sG gO n cO):=(g.2.2.2.1.gK.a7 bD).cell 2;have x4:W.drew ⟨G,4,M⟩=K (sG gi n n):=(g.2.2.2.1.gK.a7 bD).cell 4;clear bD bj;(go_upto_region 15 with fail);go_region_law ((go_simp;go_at_call 109;refine bV.mono ?_;rintro e u7 ⟨VL,rfl,ys,aM,bS,bR⟩;obtain⟨aL,cL,rfl⟩:=AO aM.iE;have C:Ae (Ah W W u7):=Bm aM.e8 lR;have H7:Ae (LP W.drew u7 (Z aL ys cL) ys/\ys.map Prod.fst=Bt E D Lf n n/\List.Sublist (ys.map λy=>(y.2.1,y.1.back)) (FS.map λx=>(x.1,ints x.2))):=⟨aM,bS,bR⟩;have y2:u7 ⟨G,2,M⟩=K (sG gO n cO):=(g.2.2.2.1.gK.a7 C).cell 2;have y4:u7 ⟨G,4,M⟩=K (sG gi n n):=(g.2.2.2.1.gK.a7 C).cell 4;have r0:u7 w=K (iZ 0):=(g.1.a7 C).cell 0;have r1:u7 ⟨w,1,M⟩=K (iZ 0):=(g.1.a7 C).cell 1;have r2:u7 ⟨w,2,M⟩=K sN:=(g.1.a7 C).cell 2;have r3:u7 ⟨w,3,M⟩=K sN:=(g.1.a7 C).cell 3;have r4:u7 ⟨w,4,M⟩=K sN:=(g.1.a7 C).cell 4;have r5:u7 ⟨w,5,M⟩=K sN:=(g.1.a7 C).cell 5;have f0:=(g.1.a7 C).frozen 0;have f1:=(g.1.a7 C).frozen 1;have f2:=(g.1.a7 C).frozen 2;have f3:=(g.1.a7 C).frozen 3;have f4:=(g.1.a7 C).frozen 4;have f5:=(g.1.a7 C).frozen 5;clear aM bS bR))
     all_goals
      have aq:=Av (M4 HN.1 HN.2 HG.1 HG.2 aT i.vs (λc hc=>(Ga i.vs c).2 ((X.2.2.1 c).2 hc)) HD ao.2.1 (S9 aj.2) bo);have bZ:Ae (GT (six u7 w (iZ 0) (iZ 0) (sO gb ob n cb) (sG gO n cO) (sG gi n n) (Z aL ys cL)) w (sO gb ob n cb) (sG gO n cO) (sG gi n n) (Z aL ys cL) F ys ⟨0,0,AM xs,ints O.reverse,(List.range n).map I,Bt E D Lf n n⟩):=Tx HB.1 HB.2.2.2.2 aU br g.2.2.1 aj.1 g.2.2.2.1 X.2.2.2 g.2.2.2.2 ao.1 C H7.1 H7.2.1 H7.2.2 _ _ _ _ _ _;have bf:=Av (d5 (g.1.a7 C) (Ar g.2.1 lR C));clear x2 x4 y2 y4 r0 r1 r2 r3 r4 r5 f0 f1 f2 f3 f4 f5;go_wp2_with fail;obtain⟨P,A,B,Q,R,T⟩:=CM bf.1 (iZ 0) (iZ 0) (sO gb ob n cb) (sG gO n cO) (sG gi n n) (Z aL ys cL);simp only[six]at P A B Q R T;exact kQ (v:=Am #[iZ 0,iZ 0,sO gb ob n cb,sG gO n cO,sG gi n n,Z aL ys cL]) (by simp[results,results83,go_sem,P,A,B,Q,R,T]) rfl ⟨⟨0,0,AM xs,ints O.reverse,(List.range n).map I,Bt E D Lf n n⟩,_,_,_,_,F,ys,rfl,aq,bZ,CL bf.2 lR _ _ _ _ _ _⟩
 have r0:u2 w=K (iZ 0):=u.1.cell 0;have r1:u2 ⟨w,1,M⟩=K (iZ 0):=u.1.cell 1;have r2:u2 ⟨w,2,M⟩=K sN:=u.1.cell 2;have r3:u2 ⟨w,3,M⟩=K sN:=u.1.cell 3;have r4:u2 ⟨w,4,M⟩=K sN:=u.1.cell 4;have r5:u2 ⟨w,5,M⟩=K sN:=u.1.cell 5;have f0:=u.1.frozen 0;have f1:=u.1.frozen 1;have f2:=u.1.frozen 2;have f3:=u.1.frozen 3;have f4:=u.1.frozen 4;have f5:=u.1.frozen 5;go_wp2_with fail;obtain⟨P,A,B,Q,R,T⟩:=CM u.1 (iZ 1) lx sN sN sN sN;simp only[six]at P A B Q R T;refine kQ (v:=Am #[iZ 1,lx,sN,sN,sN,sN]) (by simp[results,results83,go_sem,P,A,B,Q,R,T]) rfl ⟨DY 1 ((xs:Int)-1),_,_,_,_,[],[],?_,.off HG.1 HG.2 hon,GT.none _ _ _ _,CL u.2.1 lR _ _ _ _ _ _⟩;have:((xs:Int)-1)=(lx:Int):=by rw[bY];omega
 simp only[DY,this]
structure Ey where
 a:Option Addr
 n:Nat
 c:Nat
structure BI where
 r:Ey
 k:Ey
 f:Ey
 t:Ey
 p:Ey
 rs:Int
 l:Ey
 c:Ey
 nu:Int
 co:Int
 at_:Int
 b:Ey
 o:Ey
 i:Ey
 q:Ey
def BI.cells(v:BI):Array J:=#[Z v.r.a v.r.n v.r.c,Z v.k.a v.k.n v.k.c,Z v.f.a v.f.n v.f.c,Z v.t.a v.t.n v.t.c,Z v.p.a v.p.n v.p.c,v.rs,Z v.l.a v.l.n v.l.c,Z v.c.a v.c.n v.c.c,v.nu,v.co,v.at_,Z v.b.a v.b.n v.b.c,Z v.o.a v.o.n v.o.c,Z v.i.a v.i.n v.i.c,Z v.q.a v.q.n v.q.c]
structure OM(w u:Y)(v:BI)(hd:Int)(x y:Ey):Prop where
 body:AC u w v.cells 160
 loop:AC u ((w:Nat)+1) #[hd,Z x.a x.n x.c,Z y.a y.n y.c] 85
 gU:AC u ((w:Nat)+1+1) #[iZ 0,iZ 0,iZ 0,Ag .u32 0] 88
 e8:Ah w w u
theorem OM.a7{w u c:Y}{v:BI}{b:Int}{x y:Ey}(h:OM w u v b x y)(a:Ah u u c):OM w c v b x y:=⟨h.body.a7 a,h.loop.a7 a,h.gU.a7 a,Ar h.e8 lR a⟩
theorem K2(v:BI)(x y:Ey)(ts:List MT)(F:List (MB×J))(h:Nat)(m:MB)(w:Y)(hn:F.length<=1048576)(hb:Rd w 3 (Z v.b.a v.b.n v.b.c) F (Ad BN F))(hm:(F.map Prod.fst)[h]?=K m)(aj:ts.length<=1048576)(ht:Rd w 4 (Z v.t.a v.t.n v.t.c) ts (Ad MT.cells ts)):
 Ai Ap 137 #[Am v.cells,Am #[h,Z x.a x.n x.c,Z y.a y.n y.c]] w λe w'=>(∃t b,e=Al (Ao #[Am #[iZ t.func,iZ t.head,iZ t.gI,Ag .u32 t.init],An b])/\(b=true->Ce ts v.nu m.gH=K t)/\(b=false->Ce ts v.nu m.gH=M))/\Ah w w w':=by
 have E:=Av (d5 hn (d5 hb hm));obtain⟨a1,c1,G⟩:=ht.dk;simp only[i8]at G;have HT:=Av ht;have HN:=Av G.2.1.symm;rw[HN]at aj HT;clear hn hb hm ht G a1 c1;have N:=Ge w v.cells #[h,Z x.a x.n x.c,Z y.a y.n y.c] #[iZ 0,iZ 0,iZ 0,Ag .u32 0] 160 85 88;have E1:Ae (OM w (Ac (Ac (Ac w (Ak v.cells 160)) (Ak #[h,Z x.a x.n x.c,Z y.a y.n y.c] 85)) (Ak #[iZ 0,iZ 0,iZ 0,Ag .u32 0] 88)) v h x y):=⟨N.1,N.2.1,N.2.2.1,N.2.2.2⟩;clear N;go_enter func137,ntmps137;go_upto_region 1 with fail
 refine Ax (λu=>Ae (OM w u v h x y)) E1 ?_;rintro U A;clear E1;have W:=A.body.cell 3;simp only[BI.cells]at W;go_wp2;go_loopw [13] (λi wr=>∃k:Nat,k<=v.t.n/\i=iZ k/\Ae (∀j c,j<k->ts[j]?=K c->¬(c.func=v.nu/\c.head=m.gH))/\Ae (OM w wr v h x y)) (λi _=>v.t.n-(intOf i).toNat)
 case atStart=>exact⟨0,oM,rfl, λj c D=>oM,A⟩
 clear W A;obtain⟨k,hk,rfl,Q,A⟩:=hrel;by_cases ah:k<v.t.n
 . obtain⟨⟨fu,hd,co,V⟩,H⟩:∃z,ts[k]?=K z:=⟨_,an (by rw[HN];exact ah)⟩;rcases HT.2 with⟨e0,_⟩|⟨b,o,c,G,O⟩
   . omega
   simp only[i8,lB]at G;obtain⟨e2,e3⟩:=G;have I:=Rd.elem MT.dr O k _ H 0 _ rfl;have R:=Rd.elem MT.dr O k _ H 1 _ rfl;have S:=Rd.elem MT.dr O k _ H 2 _ rfl;have T:=Rd.elem MT.dr O k _ H 3 _ rfl;rw[<-A.e8.cell (hC I),kJ]at I;rw[<-A.e8.cell (hC R)]at R;rw[<-A.e8.cell (hC S)]at S;rw[<-A.e8.cell (hC T)]at T;simp only[]at I R S T;have HX:=Av H;clear O H e3;have nb:¬b=wr.heap.size:=mA (hC I);have mb:b<wr.heap.size:=hC I;(go_upto_region 4 with fail);refine Ax (λu=>Ae (OM w u v h x y/\AC u wr #[fu,hd,co,Ag .u32 V] 88)) ⟨A.a7 (Aq _ _),AC.new _ _ _⟩ ?_
   rintro s g;have inst:=AB.some s;(have p0:= λd:AB s=>AB.cell (g.1.body.cell 0) d);(have p1:= λd:AB s=>AB.cell (g.1.body.cell 1) d);(have p2:= λd:AB s=>AB.cell (g.1.body.cell 2) d);(have W:= λd:AB s=>AB.cell (g.1.body.cell 3) d);(have p4:= λd:AB s=>AB.cell (g.1.body.cell 4) d);(have p5:= λd:AB s=>AB.cell (g.1.body.cell 5) d);(have p6:= λd:AB s=>AB.cell (g.1.body.cell 6) d);(have p7:= λd:AB s=>AB.cell (g.1.body.cell 7) d);(have p8:= λd:AB s=>AB.cell (g.1.body.cell 8) d);(have p9:= λd:AB s=>AB.cell (g.1.body.cell 9) d);(have am:= λd:AB s=>AB.cell (g.1.body.cell 10) d);(have ao:= λd:AB s=>AB.cell (g.1.body.cell 11) d);(have aq:= λd:AB s=>AB.cell (g.1.body.cell 12) d);(have au:= λd:AB s=>AB.cell (g.1.body.cell 13) d);(have aw:= λd:AB s=>AB.cell (g.1.body.cell 14) d);simp only[BI.cells]at p0 p1 p2 W p4 p5 p6 p7 p8 p9 am ao aq au aw;obtain⟨l0,l1,l2⟩:=Cl g.1.loop;(have L0:= λd:AB s=>AB.cell l0 d);(have L1:= λd:AB s=>AB.cell l1 d);(have L2:= λd:AB s=>AB.cell l2 d);(have C0:= λd:AB s=>AB.cell (g.2.cell 0) d);(have C1:= λd:AB s=>AB.cell (g.2.cell 1) d);(have C2:= λd:AB s=>AB.cell (g.2.cell 2) d);(have C3:= λd:AB s=>AB.cell (g.2.cell 3) d);clear I R S T nb mb A l0 l1 l2 e2;by_cases X:fu=v.nu;case neg=>
    (have aE:(fu==v.nu)=false:=by simp[X]);have ae:Ae (∀j c,j<k+1->ts[j]?=K c->¬(c.func=v.nu/\c.head=m.gH)):= λj c D C=>by
     by_cases e:j=k
     . subst e;rw[HX]at C;(cases C);exact λe=>X e.1
     exact Q.o j c oM C
    refine AL kR kR ?_;(repeat(go_big_quiet_step (fail)));refine wpQuiet_nil ?_;rintro L ⟨d,rfl⟩;go_wp2;go_roundw;(case rel=>exact⟨k+1,oM,by go_num,ae,g.1.a7 d.h⟩);exact oI
   case pos=>
    by_cases q2:hd=m.gH;case neg=>
     (have aF:(hd==m.gH)=false:=by simp[q2]);have ae:Ae (∀j c,j<k+1->ts[j]?=K c->¬(c.func=v.nu/\c.head=m.gH)):= λj c D C=>by
      by_cases e:j=k
      . subst e;rw[HX]at C;(cases C);exact λe=>q2 e.2
      exact Q.o j c oM C
     subst X;refine AL kR kR ?_;(repeat(go_big_quiet_step ((first|(go_at_call 86;rename_i d;exact(Et (Z v.r.a v.r.n v.r.c) (Z v.k.a v.k.n v.k.c) (Z v.f.a v.f.n v.f.c) (Z v.t.a v.t.n v.t.c) (Z v.p.a v.p.n v.p.c) v.rs (Z v.l.a v.l.n v.l.c) (Z v.c.a v.c.n v.c.c) v.nu v.co v.at_ (Z v.b.a v.b.n v.b.c) (Z v.o.a v.o.n v.o.c) (Z v.i.a v.i.n v.i.c) (Z v.q.a v.q.n v.q.c) (Z x.a x.n x.c) (Z y.a y.n y.c) F h m d.u E.1 (E.2.1.a7 (Ar g.1.e8 lR d.h) lR) E.2.2).mono λe L P=>⟨P.1,⟨⟨L,Ar d.h lR P.2⟩,rfl⟩⟩)))));refine wpQuiet_nil ?_;rintro L ⟨d,rfl⟩;go_wp2;go_roundw;(case rel=>exact⟨k+1,oM,by go_num,ae,g.1.a7 d.h⟩);exact oI
    case pos=>subst X q2;(have HS:Ae (Ce ts v.nu m.gH=K ⟨v.nu,m.gH,co,V⟩):=J7 HX ⟨rfl,rfl⟩ λj c D C=>Q.o j c D C);refine AL kR kR ?_;(repeat(go_big_quiet_step ((first|(go_at_call 86;rename_i d;exact(Et (Z v.r.a v.r.n v.r.c) (Z v.k.a v.k.n v.k.c) (Z v.f.a v.f.n v.f.c) (Z v.t.a v.t.n v.t.c) (Z v.p.a v.p.n v.p.c) v.rs (Z v.l.a v.l.n v.l.c) (Z v.c.a v.c.n v.c.c) v.nu v.co v.at_ (Z v.b.a v.b.n v.b.c) (Z v.o.a v.o.n v.o.c) (Z v.i.a v.i.n v.i.c) (Z v.q.a v.q.n v.q.c) (Z x.a x.n x.c) (Z y.a y.n y.c) F h m d.u E.1 (E.2.1.a7 (Ar g.1.e8 lR d.h) lR) E.2.2).mono λe L P=>⟨P.1,⟨⟨L,Ar d.h lR P.2⟩,rfl⟩⟩)))));refine wpQuiet_nil ?_;rintro L ⟨d,rfl⟩;have d0:=C0 d;have d1:=C1 d;have d2:=C2 d;have d3:=C3 d;have B:Ae (OM w d.u v h x y):=g.1.a7 d.h;have r0:=B.gU.cell 0;have r1:=B.gU.cell 1;have r2:=B.gU.cell 2;have r3:=B.gU.cell 3;have f0:=B.gU.frozen 0;have f1:=B.gU.frozen 1;have f2:=B.gU.frozen 2;have f3:=B.gU.frozen 3;generalize d.u=u5 at*;go_wp2;exact kQ (v:=Ao #[Am #[v.nu,m.gH,co,Ag .u32 V],true]) (by simp[results,results137,go_sem,r0,r1,r2,r3]) rfl ⟨⟨⟨v.nu,m.gH,co,V⟩,true,rfl, λ_=>HS.o, λe=>(by cases e)⟩,((((B.e8.setCell oS _).setCell oS _).setCell oS _).setCell oS _)⟩
 have aA:k=v.t.n:=oM;have r0:=A.gU.cell 0;have r1:=A.gU.cell 1;have r2:=A.gU.cell 2;have r3:=A.gU.cell 3;have f0:=A.gU.frozen 0;have f1:=A.gU.frozen 1;have f2:=A.gU.frozen 2;have f3:=A.gU.frozen 3;go_wp2;exact kQ (v:=Ao #[Am #[iZ 0,iZ 0,iZ 0,Ag .u32 0],false]) (by simp[results,results137,go_sem,r0,r1,r2,r3]) rfl ⟨⟨⟨0,0,0,0⟩,false,rfl, λe=>(by cases e), λ_=>J6 λj c D=>Q.o j c (by have:=(i6.1 D).1;rw[HN]at this;omega) D⟩,((((A.e8.setCell oS _).setCell oS _).setCell oS _).setCell oS _)⟩
theorem Th{g:List MB}{l:List Int}{k b:Nat}{z:Int}{m:MB}(p:l[k]?=K z)(j:z=(b:Int))(n:g[b]?=K m)(a:Int):DB g (l.take (k+1)) a↔DB g (l.take k) a\/(m.gH<=a/\a<=m.last):=by
 have r:=(i6.1 p).1;have e:l.take (k+1)=l.take k++[z]:=by
  rw[kU r];congr 2
  exact(i6.1 p).2
 rw[e];unfold DB;constructor
 . rintro⟨y,c,i,d,f⟩;rcases kO.1 c with c|c
   . exact .inl ⟨y,c,i,d,f⟩
   simp only[kY,lG,mS]at c;subst c;rw[j,kA,n]at d;have q:=kH d;subst q;exact .inr f
 rintro(⟨y,c,i,d,f⟩|h)
 . exact⟨y,kO.2 (.inl c),i,d,f⟩
 exact⟨z,sP,m,by rw[j,kA];exact n,h⟩
theorem Ue{b:List MB}(l:List Int)(a:Int):¬DB b (l.take 0) a:=by rintro⟨y,c,_⟩;simp at c
structure Ju(w:Y)(v:BI)(F:List (MB×J))(N:Nat):Prop where
 len:F.length<=1024
 ju:N<=1024
 rd:Rd w 3 (Z v.b.a v.b.n v.b.c) F (Ad BN F)
 gK:∀(i:Nat) (m:MB),(F.map Prod.fst)[i]?=K m->∃a e:Nat,m.gH=(a:Int)/\m.last=(e:Int)/\a<=e/\e<N
theorem Ju.a7{v:BI}(h:Ju w v F N)(a:Ah w w u):Ju u v F N:=⟨h.len,h.ju,h.rd.a7 a lR,h.gK⟩
theorem Ju.at{v:BI}(h:Ju w v F N){b:Nat}(s:b< ↑F):∃(m:MB) (g o a e:Nat) (nx:J),(F.map Prod.fst)[b]?=K m/\v.b.a=K ⟨g,o,M⟩/\v.b.n= ↑F/\w ⟨g,o+b*3,M⟩=K ↑a/\w ⟨g,o+b*3+1,M⟩=K ↑e/\w ⟨g,o+b*3+2,M⟩=K nx/\m.gH=(a:Int)/\m.last=(e:Int)/\a<=e/\e<N/\F[b]?=K (m,nx):=by
 obtain⟨x,c⟩:∃x,F[b]?=K x:=⟨_,an s⟩;have k:(F.map Prod.fst)[b]?=K x.1:=by rw[lE,c];rfl
 obtain⟨a,e,i,j,q,r⟩:=h.gK b x.1 k;rcases h.rd.2 with⟨u,_⟩|⟨g,o,cc,d,f⟩
 . omega
 simp only[i8]at d;have l:=Rd.elem A9 f b x c 0 _ rfl;have p:=Rd.elem A9 f b x c 1 _ rfl;have t:=Rd.elem A9 f b x c 2 _ rfl;rw[kJ,i]at l;rw[j]at p;exact⟨x.1,g,o,a,e,x.2,k,d.1,d.2.1,l,p,t,i,j,q,r,c⟩
theorem Fs(v:BI)(T:Int)(x y:Ey)(F:List (MB×J))(N:Nat)(f:List Int)(w:Y)(hF:Ju w v F N)(V:Rd w 1 (Z y.a y.n y.c) f (Ad As f))(aJ:f.length<=1024)(r:∀z∈f,∃b:Nat,z=(b:Int)/\b< ↑F):
 Ai Ap 139 #[Am v.cells,Am #[T,Z x.a x.n x.c,Z y.a y.n y.c]] w λe w'=>∃(a:Option Addr) (c:Nat) (j:List Int),e=Al (Z a j c)/\Rd w' 1 (Z a j c) j (Ad As j)/\(∀z,z∈j↔DB (F.map Prod.fst) f z)/\j.length<=1048576/\Ah w w w':=by
 obtain⟨k0,hk,aF,aG,aH⟩:=lS Bp;have H:Ae (Ju w v F N/\Rd w 1 (Z y.a y.n y.c) f (Ad As f)/\∀z∈f,∃b:Nat,z=(b:Int)/\b< ↑F):=⟨hF,V,r⟩
 obtain⟨L,O,R⟩:=V.dk;simp only[i8]at R;have aq:y.n=f.length:=R.2.1;clear hF V r R L O;obtain⟨L,yn,O⟩:=y;simp only[]at aq H⊢;subst aq;have X:=BL w v.cells #[T,Z x.a x.n x.c,Z L f O] 160 85;go_enter func139,ntmps139;go_upto_region 2 with fail
 refine Ax (λu=>Ae (AC u w v.cells 160/\AC u ((w:Nat)+1) #[T,Z x.a x.n x.c,Z L f O] 85/\Ah w w u)) X ?_
 rintro U A;clear X;obtain⟨l0,l1,l2⟩:=Cl A.2.1;go_wp2_with fail;clear l0 l1 l2;go_loopw [5,12] (λs i wr=>∃(k:Nat) (j:List Int),k<= ↑f/\i=iZ k/\Ae (Ab wr U 2 1 s j (Ad As j)/\(∀z,z∈j↔DB (F.map Prod.fst) (f.take k) z)/\ ↑j<=k*1024/\Ah U U wr)) (λ_ i _=> ↑f-(intOf i).toNat)
 case atStart=>exact⟨0,[],oM,rfl,lQ _ _ _ _, λz=>⟨λe=>(by cases e), λe=>absurd e (Ue _ _)⟩,sP,kS _ _⟩
 case round=>
 obtain⟨k,j,aR,rfl,q⟩:=hrel;by_cases aA:k< ↑f
 case pos=>
  obtain⟨z,r⟩:∃z,f[k]?=K z:=⟨_,an aA⟩;obtain⟨b,S,hb⟩:=H.2.2 z (i7 r);obtain⟨m,g,o,B,C,nx,hm,eg,en,W,G,i2,e1,e2,aU,aW,_⟩:=H.1.at hb;rcases H.2.1.2 with⟨q0,_⟩|⟨gd,od,cd,q1,aj⟩
  . omega
  simp only[i8,lB]at q1;obtain⟨rfl,rfl⟩:=q1;have P:=Rd.elem AA aj k z r 0 _ rfl;rw[lN,kJ,S]at P;have E:=Av (d5 r (d5 S (d5 hm (d5 e1 e2))));clear r S hm e1 e2 aj;have D:=Av (Ar A.2.2 lR q.2.2.2);have ae:=Av (d5 (A.1.a7 q.2.2.2) G);rw[<-D.cell (hC P)]at P;rw[<-D.cell (hC W)]at W;have t:=ae.1.cell 11;simp only[BI.cells]at t;simp only[eg,en]at t;have aT:F.length<=1024:=H.1.len;have aY:N<=1024:=H.1.ju;have aI:(b:Int)<(F:Int):=oM;go_wp2_with fail;clear W t P;go_loopw [5,8] (λs i wr=>∃(d:Nat) (p:List Int),B<=d/\d<=C+1/\i=iZ d/\Ae (Ab wr U 2 1 s p (Ad As p)/\(∀z,z∈p↔DB (F.map Prod.fst) (f.take k) z\/((B:Int)<=z/\z<(d:Int)))/\ ↑p<=k*1024+(d-B)/\Ah U U wr)) (λ_ i _=>C+1-(intOf i).toNat)
  case atStart=>exact⟨B,j,oM,oM,rfl,q.1, λz=>⟨λe=>.inl ((q.2.1 z).1 e), λe=>(q.2.1 z).2 (e.elim id λe=>absurd e.2 oM)⟩,by have:=q.2.2.1;omega,q.2.2.2⟩
  case round=>
  clear q D;obtain⟨d,p,aM,aP,rfl,l⟩:=hrel;have D:=Av (Ar A.2.2 lR l.2.2.2);have G:=ae.2;rw[<-D.cell (hC G)]at G;have t:=(A.1.a7 l.2.2.2).cell 11;simp only[BI.cells]at t;simp only[eg,en]at t;by_cases aS:d<=C;case pos=>
   have aw:(d:Int)<=(C:Int):=oM;obtain⟨sa,sc,Q⟩:=AO l.1;subst Q;have aX: ↑p<=k*1024+(d-B):=l.2.2.1
   go_wp2_with (at_builtin;refine wpList_append_own _ rfl _ _ 46 rfl U 2 k0 (iZ 0) 1 8 underlying46 hk aF aG aH rfl dC _ p (Ad As p) rfl (l.1.alloc _) wr 1 1 [d] rfl rfl (Go.cell_one_new _ _ _) (λu hu=>by simp at hu;subst hu;rfl) oX oM (by have:=l.2.2.2.size;simp;omega) ?_;intro v' w3 ao am aE);have ah:Ae (Ab w3 U 2 1 v' (p++[(d:Int)]).length (Ad As (p++[(d:Int)]))/\Ah U U w3):=by have o1:=l.1;refine⟨?_,(l.2.2.2.alloc l.2.2.2.size _).grown am (by have:=l.2.2.2.size;simp;omega) (λi hi=>(o1.lt i hi).1)⟩;rw[lL,kE];exact ao
   clear ao am aE;have I:Ae (∀z,z∈p++[(d:Int)]↔DB (F.map Prod.fst) (f.take k) z\/((B:Int)<=z/\z<((d+1:Nat):Int))):= λz=>by
    rw[kO,l.2.1 z];simp only[kY,lG,mS];constructor
    . rintro((h|h)|h)
      . exact .inl h
      . exact .inr oM
      exact .inr oM
    rintro(h|h)
    . exact .inl (.inl h)
    by_cases e:z=(d:Int)
    . exact .inr e
    exact .inl (.inr oM)
   clear G t;go_wp2;go_roundw;(case rel=>exact⟨d+1,p++[(d:Int)],oM,oM,by go_num,ah.1,I,by rw[kE,kK];omega,ah.2⟩);exact oI
  have aQ:d=C+1:=oM;have aw:¬(d:Int)<=(C:Int):=oM;have I:Ae ((∀z,z∈p↔DB (F.map Prod.fst) (f.take (k+1)) z)/\ ↑p<=(k+1)*1024):=⟨λz=>by
   rw[l.2.1 z,Th E.1 E.2.1 E.2.2.1,E.2.2.2.1,E.2.2.2.2];constructor
   . rintro(h|h)
     . exact .inl h
     exact .inr oM
   rintro(h|h)
   . exact .inl h
   exact .inr oM,by have:=l.2.2.1;omega⟩
  go_wp2;go_roundw;case rel=>exact⟨k+1,p,oM,by go_num,l.1,I.1,I.2,l.2.2.2⟩
  exact oI
 have au:k=f.length:=oM;subst au;obtain⟨sa,sc,Q⟩:=AO q.1;subst Q;have HR:Ae ((∀z,z∈j↔DB (F.map Prod.fst) f z)/\j.length<=1048576):=⟨λz=>by have:=q.2.1 z;rw[List.take_length]at this;exact this,by have:=q.2.2.1;omega⟩
 go_wp2;go_ret;exact⟨sa,sc,j,rfl,Rd.gM q.1,HR.1,HR.2,Ar A.2.2 lR q.2.2.2⟩
theorem To{a:List (ML×J×J)}{y:ML×J×J}(h:y∈a):(y.2.1,y.1.back)∈EM a/\(y.2.2,y.1.a8)∈EM a:=⟨my.2 ⟨y,h,sP⟩,my.2 ⟨y,h,sP⟩⟩
theorem GT.rd{d b a e:J}{c:List (ML×J×J)}{r:DC}(h:GT w base d b a e F c r):FN w d b a e r:=by
 have g:F.length=r.a8.length:=by rw[<-h.eb,lC]
 have i:c.length=r.gE.length:=by rw[<-h.el,lC]
 refine⟨⟨F,h.eb,?_, λx j=> ?_⟩,Rd.gM (h.gV.own (b,r.gJ) sP),Rd.gM (h.gV.own (a,r.gQ) sP),⟨c,h.el,?_, λy k=> ?_⟩⟩
 . rw[<-g];exact Rd.gM h.jJ
 . exact Rd.gM (h.gV.own (x.2,x.1.next) (by refine kO.2 (.inl ?_);unfold Dx;exact nN (f:= λx=>(x.2,x.1.next)) j))
 . rw[<-i];exact Rd.gM h.ke
 have:=To k;exact⟨Rd.gM (h.gV.own (y.2.1,y.1.back) (kO.2 (.inr (by simp[this.1])))),Rd.gM (h.gV.own (y.2.2,y.1.a8) (kO.2 (.inr (by simp[this.2]))))⟩
def Mg(w:Y)(s:J)(fs:List MF):Prop:=∃b:List (MF×VF),b.map Prod.fst=fs/\Rd w 4 s fs (Ad Ch b)/\∀z∈b,∃a c,z.2.c=Z a z.1.eC c/\ ↑z.1.eC<=c
theorem DQ.rdk(h:DQ w base s fs):Mg w s fs:=by obtain⟨xs,a,b,c⟩:=h;exact⟨xs,a,Rd.gM b, λx d=>PM (c x d).2.2⟩
theorem Mg.at(h:Mg w s fs){q:Nat}{f:MF}(d:fs[q]?=K f){gk ok ck:Nat}(l:s=Z (K ⟨gk,ok,M⟩) fs ck):∃a c,w ⟨gk,ok+q*4+3,M⟩=K (Z a f.eC c)/\ ↑f.eC<=c:=by
 obtain⟨u,n,p,r⟩:=h;have x:=(i6.1 d).1;obtain⟨z,e,m⟩:∃z,u[q]?=K z/\z.1=f:=by rw[<-n,lE]at d;exact mT.1 d
 subst m;obtain⟨a,c,j,k⟩:=r z (i7 e);rcases p.2 with⟨v,_⟩|⟨g,o,cc,b,t⟩
 . omega
 rw[l]at b;simp only[i8,kI,mE,mV,lB]at b;obtain⟨⟨rfl,rfl⟩,_⟩:=b;have i:=Rd.elem Ay t q z e 3 _ rfl;rw[j]at i;exact⟨a,c,i,k⟩
theorem GT.jG{w f:Y}{b e c d:J}{g:List (ML×J×J)}{r:DC}(h:GT w base b e c d F g r)(a:Ah w w f):GT f base b e c d F g r:=⟨Aw h.jJ a lR,Aw h.ke a lR,h.gV.a7 a,h.eb,h.el⟩
theorem CQ{b:Nat}{t:Aj}{v:BI}(H:AC u b v.cells t):u b=K (Z v.r.a v.r.n v.r.c)/\u ⟨b,1,M⟩=K (Z v.k.a v.k.n v.k.c)/\u ⟨b,2,M⟩=K (Z v.f.a v.f.n v.f.c)/\u ⟨b,3,M⟩=K (Z v.t.a v.t.n v.t.c)/\u ⟨b,4,M⟩=K (Z v.p.a v.p.n v.p.c)/\u ⟨b,5,M⟩=K ↑v.rs/\u ⟨b,6,M⟩=K (Z v.l.a v.l.n v.l.c)/\u ⟨b,7,M⟩=K (Z v.c.a v.c.n v.c.c)/\u ⟨b,8,M⟩=K ↑v.nu/\u ⟨b,9,M⟩=K ↑v.co/\u ⟨b,10,M⟩=K ↑v.at_/\u ⟨b,11,M⟩=K (Z v.b.a v.b.n v.b.c)/\u ⟨b,12,M⟩=K (Z v.o.a v.o.n v.o.c)/\u ⟨b,13,M⟩=K (Z v.i.a v.i.n v.i.c)/\u ⟨b,14,M⟩=K (Z v.q.a v.q.n v.q.c):=by unfold BI.cells at H;exact⟨H.cell 0,H.cell 1,H.cell 2,H.cell 3,H.cell 4,H.cell 5,H.cell 6,H.cell 7,H.cell 8,H.cell 9,H.cell 10,H.cell 11,H.cell 12,H.cell 13,H.cell 14⟩
structure OU(w u:Y)(v:BI)(h:Nat)(x y:Ey):Prop where
 body:AC u w v.cells 160
 loop:AC u ((w:Nat)+1) #[h,Z x.a x.n x.c,Z y.a y.n y.c] 85
 e8:Ah w w u
theorem OU.a7{w u b:Y}{v:BI}{h:Nat}{x y:Ey}(H:OU w u v h x y)(a:Ah u u b):OU w b v h x y:=⟨H.body.a7 a,H.loop.a7 a,Ar H.e8 lR a⟩
theorem JL(v:BI)(h:Nat)(x y:Ey)(F:List (MB×J))(m:MB)(w:Y)(j:F.length<=1048576)(d:Rd w 3 (Z v.b.a v.b.n v.b.c) F (Ad BN F))(g:(F.map Prod.fst)[h]?=K m):
 Ai Ap 86 #[Am v.cells,Am #[h,Z x.a x.n x.c,Z y.a y.n y.c]] w λe s=>e=Al m.gH/\Ah w w s:=
 Et (Z v.r.a v.r.n v.r.c) (Z v.k.a v.k.n v.k.c) (Z v.f.a v.f.n v.f.c) (Z v.t.a v.t.n v.t.c) (Z v.p.a v.p.n v.p.c) v.rs (Z v.l.a v.l.n v.l.c) (Z v.c.a v.c.n v.c.c) v.nu v.co v.at_ (Z v.b.a v.b.n v.b.c) (Z v.o.a v.o.n v.o.c) (Z v.i.a v.i.n v.i.c) (Z v.q.a v.q.n v.q.c) (Z x.a x.n x.c) (Z y.a y.n y.c) F h m w j d g
theorem Ii(v:BI)(h:Nat)(x y:Ey)(F:List (MB×J))(xs:List MI)(D:List Int)(f:Int)(m:MB)(w:Y)(hF:Ju w v F xs)(hm:(F.map Prod.fst)[h]?=K m)(hy:Rd w 1 (Z y.a y.n y.c) D (Ad As D))(aw:D.length<=1024)(B:∀z∈D,∃b:Nat,z=(b:Int)/\b< ↑F)(hc:Rd w 4 (Z v.c.a v.c.n v.c.c) xs (Ad MI.cells xs)):
 Ai Ap 140 #[Am v.cells,Am #[h,Z x.a x.n x.c,Z y.a y.n y.c],f] w λe w'=>AJ e (∃a,DB (F.map Prod.fst) D a/\a≠m.gH/\JA xs f a)/\Ah w w w':=by
 have H:=Av (d5 hF (d5 hm (d5 hy (d5 aw (d5 B hc)))));have aT:xs.length<=1024:=hF.ju;clear hF hm hy aw B hc;have W:=BL w v.cells #[h,Z x.a x.n x.c,Z y.a y.n y.c] 160 85;go_enter func140,ntmps140;go_upto_region 1 with fail
 refine Ax (λu=>Ae (OU w u v h x y)) ⟨W.1,W.2.1,W.2.2⟩ ?_;rintro U L;clear W;obtain⟨p0,p1,p2,p3,p4,p5,p6,S,p8,p9,ae,ah,aj,am,ao⟩:=CQ L.body;obtain⟨l0,l1,l2⟩:=Cl L.loop;go_wp2_with fail;refine(Fs v (h:Int) x y F xs D U (H.1.a7 L.e8) (H.2.2.1.a7 L.e8 lR) H.2.2.2.1 H.2.2.2.2.1).mono ?_;rintro e u1 ⟨pa,pc,l,rfl,aF,aE,aS,O⟩;have p:=Av (d5 (L.a7 O) aF);have HI:=Av aE;have HP:Ae (∀z∈l,∃(d:Nat) (q:MI),z=(d:Int)/\d< ↑xs/\xs[d]?=K q):= λz B=>by obtain⟨y',aM,m',E,G,h3⟩:=(HI.o z).1 B;obtain⟨b,eb,hb⟩:=H.2.2.2.2.1 y' aM;rw[eb,kA]at E;obtain⟨a,e,e1,e2,e3,e4⟩:=H.1.gK b m' E;rw[e1]at G;rw[e2]at h3;obtain⟨d,hd⟩:=kX (show 0<=z from oM);exact⟨d,_,hd,oM,an oM⟩
 clear O aF aE L p0 p1 p2 p3 p4 p5 p6 S p8 p9 ae ah aj am ao l0 l1 l2;clear U;go_wp2_with fail;go_loopw [15] (λi wr=>∃k:Nat,k<= ↑l/\i=iZ k/\Ae (∀(j:Nat) (z:Int),j<k->l[j]?=K z->¬(z≠m.gH/\JA xs f z))/\Ae (OU w wr v h x y/\Rd wr 1 (Z pa l pc) l (Ad As l))) (λi _=> ↑l-(intOf i).toNat)
 case atStart=>exact⟨0,oM,rfl, λj z R=>absurd R oM,p⟩
 case round=>
 clear p;obtain⟨k,hk,rfl,HT,p⟩:=hrel;by_cases aI:k< ↑l
 case pos=>
  obtain⟨z,B⟩:∃z,l[k]?=K z:=⟨_,an aI⟩;obtain⟨d,⟨t,ya,yb,yc⟩,ed,hd,A⟩:=HP.o z (i7 B);rcases p.2.2 with⟨q0,_⟩|⟨gp,op,cp,I,aA⟩
  . omega
  simp only[i8,lB]at I;obtain⟨rfl,rfl⟩:=I;have z0:=Rd.elem AA aA k z B 0 _ rfl;rw[lN,kJ,ed]at z0;rcases H.2.2.2.2.2.2 with⟨q0,_⟩|⟨gc,oc,cc,I,Q⟩
  . omega
  simp only[i8]at I;have au:=Av (d5 I.1 I.2.1);have s:=Rd.elem MI.dr Q d _ A 0 _ rfl;have P:=Rd.elem MI.dr Q d _ A 1 _ rfl;have T:=Rd.elem MI.dr Q d _ A 2 _ rfl;have V:=Rd.elem MI.dr Q d _ A 3 _ rfl;rw[<-p.1.e8.cell (hC s),kJ]at s;rw[<-p.1.e8.cell (hC P)]at P;rw[<-p.1.e8.cell (hC T)]at T;rw[<-p.1.e8.cell (hC V)]at V;simp only[]at s P T V;have C:=Av (d5 B (d5 ed A));clear Q aA I B ed A;obtain⟨p0,p1,p2,p3,p4,p5,p6,S,p8,p9,ae,ah,aj,am,ao⟩:=CQ p.1.body;simp only[au.1,au.2]at S;have aR:(d:Int)<(xs:Int):=oM;have s1:¬gc=wr.heap.size:=mA (hC s);have s2:gc<wr.heap.size:=hC s;go_upto_region 5 with fail
  refine Ax (λu=>Ae ((OU w u v h x y/\Rd u 1 (sO gp op l pc) l (Ad As l))/\AC u wr #[t,ya,yb,yc] 72)) ⟨⟨p.1.a7 (Aq _ _),p.2.a7 (Aq _ _) lR⟩,AC.new _ _ _⟩ ?_
  rintro UA r;generalize wr.heap.size=YB at r⊢;clear s1 s2 s P T V z0 p p0 p1 p2 p3 p4 p5 p6 S p8 p9 ae ah aj am ao;obtain⟨s,P,T,V⟩:=Cu r.2;have HW:Ae (JA xs f z↔(t=3\/t=27)/\ya=f):=by
   constructor
   . rintro⟨q,A,E,G⟩;rw[C.2.1,kA,C.2.2]at A;have ey:=kH A;subst ey;exact⟨E,G⟩
   rintro⟨E,G⟩;exact⟨_,by rw[C.2.1,kA];exact C.2.2,E,G⟩
  have X:Ae (¬(z≠m.gH/\JA xs f z)->∀(j:Nat) (z:Int),j<k+1->l[j]?=K z->¬(z≠m.gH/\JA xs f z)):= λaJ j z' R aq=>by
   by_cases e:j=k
   . subst e;rw[C.1]at aq;have ez:=kH aq;subst ez;exact aJ
   exact HT.o j z' oM aq
  by_cases g:t=3\/t=27
  case neg=>
   (have g2:¬t=3:= λe=>g (.inl e));(have g3:¬t=27:= λe=>g (.inr e));have N:Ae (¬(z≠m.gH/\JA xs f z)):= λe=>g (HW.1 e.2).1
   clear g;go_wp2;go_roundw;(case rel=>exact⟨k+1,oM,by go_num,X.o N,r.1⟩);exact oI
  by_cases g4:ya=f;case neg=>
   (have aP:(ya==f)=false:=by simp[g4]);have N:Ae (¬(z≠m.gH/\JA xs f z)):= λe=>g4 (HW.1 e.2).2
   rcases g with g|g
   . rw[g]at s;go_wp2;go_roundw;(case rel=>exact⟨k+1,oM,by go_num,X.o N,r.1⟩);exact oI
   rw[g]at s;go_wp2;go_roundw;(case rel=>exact⟨k+1,oM,by go_num,X.o N,r.1⟩);exact oI
  have aG:=Av (HW.2 ⟨g,g4⟩);rw[g4]at P;obtain⟨p0,p1,p2,p3,p4,p5,p6,S,p8,p9,ae,ah,aj,am,ao⟩:=CQ r.1.1.body;obtain⟨l0,l1,l2⟩:=Cl r.1.1.loop;have HK:Ae ((t=3\/t=27)->True):= λ_=>trivial
  have hY:∀o:Int,(o=3\/o=27)->o=t->True:= λ_ _ _=>trivial
  clear hY HK;rcases g with g|g
  all_goals
   rw[g]at s;go_wp2_with fail;refine(JL v h x y F m UA (kV H.1.len oM) ((H.1.rd).a7 r.1.1.e8 lR) H.2.1).mono ?_;rintro e u3 ⟨rfl,O⟩;have E3:=Av (d5 (r.1.1.a7 O) (r.1.2.a7 O lR));clear O;by_cases g5:(d:Int)=m.gH
   . have N:Ae (¬(z≠m.gH/\JA xs f z)):= λe=>e.1 (by rw[C.2.1];exact g5)
     go_wp2;go_roundw;(case rel=>exact⟨k+1,oM,by go_num,X.o N,E3⟩);exact oI
   (have aQ:((d:Int)==m.gH)=false:=by simp[g5]);have HY:Ae (∃a,DB (F.map Prod.fst) D a/\a≠m.gH/\JA xs f a):=⟨z,(HI.o z).1 (i7 C.1),by rw[C.2.1];exact g5,aG⟩
   go_wp2;go_ret;exact⟨.gY HY,E3.1.e8⟩
 have aH:k=l.length:=oM;subst aH;have HN:Ae (¬∃a,DB (F.map Prod.fst) D a/\a≠m.gH/\JA xs f a):= λ⟨a,E,G⟩=>by obtain⟨j,R⟩:=lH ((HI.o a).2 E);exact HT.o j a (i6.1 R).1 R G
 go_wp2;go_ret;exact⟨.no HN,p.1.e8⟩
end Go.Proofs.YtmalfecapdmdbaaGreat
