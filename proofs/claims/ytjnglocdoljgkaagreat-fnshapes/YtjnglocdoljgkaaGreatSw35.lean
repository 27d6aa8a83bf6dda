import Derived.Test.YtjnglocdoljgkaaGreatSw34
import Derived.Test.YtjnglocdoljgkaaGreatSw30
namespace Go.Proofs.YtjnglocdoljgkaaGreat
open Go.ChangeShapes Go.WideShapes Go.ChangeAt Go.RowKit
set_option linter.unusedVariables false
open Go.Value renaming slice → Z
open Option renaming some → K,none → M
open Go renaming Value → J,World → Y,Calls → Ae,TypeId → Af
open Go.RowKit renaming Hid → Aa,Below → Ad
set_option maxHeartbeats 8000000
set_option maxRecDepth 100000
variable {xs:List J}{B k n:Nat}{e:Af}{s:J}
theorem Np(s:J)(xs:List MI)(w:Y)(hn:xs.length<=1048576)(h:Rd w 4 s xs (xs.flatMap MI.cells)):
 Ae Tryz.prog 29 #[s] w λe w'=>∃r vb vo vi vl F ys,e=.returned (.agg #[iZ r.ch,iZ r.at_,vb,vo,vi,vl])/\Bc xs r/\D2 w' w vb vo vi vl F ys r/\Ad w w w':=by
 have H:=Ap h;obtain⟨a1,c1,rfl⟩:=h.fu;clear h;have aE:Aa (Ar (w.alloc (.cells VO 45)) w VO 45/\Ad w w (w.alloc (.cells VO 45))):=⟨Ar.new _ _ _,Ag _ _⟩
 go_enter Tryz.func29,Tryz.ntmps29;go_wp2_with fail;refine(KJ _ xs _ hn (H.o.bM aE.o.2 lR)).mono ?_;rintro e u1 ⟨V,F,rfl,ah,cD,b1⟩;have bT:(w.alloc (.cells VO 45)).heap.size= ↑w+1:=sP
 rw[bT]at ah;have p:=Ap (ji (aE.o.1.bM b1) (Ai aE.o.2 lR b1));clear aE b1 bT;rcases cD with⟨hg,rfl⟩|⟨hg,hF⟩
 . have r0:u1.cell? w=K (iZ 0):=p.o.1.cell 0;have r1:u1.cell? ⟨w,1,M⟩=K (iZ 0):=p.o.1.cell 1;have r2:u1.cell? ⟨w,2,M⟩=K sN:=p.o.1.cell 2;have r3:u1.cell? ⟨w,3,M⟩=K sN:=p.o.1.cell 3;have r4:u1.cell? ⟨w,4,M⟩=K sN:=p.o.1.cell 4;have r5:u1.cell? ⟨w,5,M⟩=K sN:=p.o.1.cell 5;have f0:=p.o.1.frozen 0;have f1:=p.o.1.frozen 1;have f2:=p.o.1.frozen 2;have f3:=p.o.1.frozen 3;have f4:=p.o.1.frozen 4;have f5:=p.o.1.frozen 5;obtain⟨ab,cb,rfl⟩:∃a c,V=Z a 0 c:=Az ah.row;have HG:=Ap hg;clear hg ah;go_wp2_with fail;obtain⟨R,B,C,T,W,q5⟩:=CY p.o.1 (iZ 4) (iZ 0) sN sN sN sN;simp only[six]at R B C T W q5;exact kY (v:=.agg #[iZ 4,iZ 0,sN,sN,sN,sN]) (by simp[results,Tryz.results29,go_sem,R,B,C,T,W,q5]) rfl ⟨El 4 0,_,_,_,_,[],[],rfl,.none HG.o,D2.none _ _ _ _,CX p.o.2 lR _ _ _ _ _ _⟩
 have bQ:Ic u1 V (At xs):=by rw[<-hF];exact ah.rd
 obtain⟨gb,ob,cb,rfl,aI,bL⟩:=bQ.i5 hg;have aW:=ah.ints hF rfl rfl;have aM:=Dj hg;have am:=Eo hg;have cW:=hg.1;obtain⟨x,Q⟩:∃x,xs[xs.length-1]?=K x:=⟨_,an oM⟩;have HG:=Ap (ji hg Q);have ae:Aa ((∀b,b<(At xs).length->∀x∈nx (At xs) b,x<(At xs).length)/\∀b,(nx (At xs) b).length<=2):=⟨Io hg,Jh _ (Gg xs)⟩
 obtain⟨n,aD⟩:∃n,n=(At xs).length:=⟨_,rfl⟩;obtain⟨E,aF⟩:∃E,E=nx (At xs):=⟨_,rfl⟩;rw[<-aD]at aI aW;rw[<-aF]at aI;rw[<-aD,<-aF]at ae;rw[<-aD]at aM am ah⊢;have HB:=Ap (ji ah (ji aI (ji bL (ji aW hF))));have HN:=Ap (ji aD aF);clear bQ aI bL hg aD aF ah aW hF;have cU:¬(n:Int)=0:=oM;have cT:((n:Int)==0)=false:=oT;obtain⟨gx,ox,rfl,aY⟩:∃gx ox,a1=K ⟨gx,ox,M⟩/\(u1.cell? ⟨gx,ox+(xs.length-1)*4,M⟩=K (iZ x.op)/\u1.cell? ⟨gx,ox+(xs.length-1)*4+1,M⟩=K (iZ x.a)/\u1.cell? ⟨gx,ox+(xs.length-1)*4+2,M⟩=K (iZ x.b)/\u1.cell? ⟨gx,ox+(xs.length-1)*4+3,M⟩=K (iZ x.c)):=by
  rcases H.o.2 with⟨e0,_⟩|⟨gx,ox,cx,e1,aH⟩
  . omega
  simp only[jc,lO]at e1;have i0:=Rd.elem MI.gH aH (xs.length-1) _ Q 0 _ rfl;rw[kZ]at i0;exact⟨gx,ox,e1.1,Ak p.o.2 i0,Ak p.o.2 (Rd.elem MI.gH aH (xs.length-1) _ Q 1 _ rfl),Ak p.o.2 (Rd.elem MI.gH aH (xs.length-1) _ Q 2 _ rfl),Ak p.o.2 (Rd.elem MI.gH aH (xs.length-1) _ Q 3 _ rfl)⟩
 clear Q;obtain⟨lx,aX⟩:∃lx,xs.length=lx+1:=⟨xs.length-1,oM⟩;rw[aX]at aY⊢;simp only[Nat.add_sub_cancel]at aY;obtain⟨c0,bZ,c2,c3⟩:=aY;have bX:=Ap aX;have cQ:lx<=1048576:=oM;have cR:(lx:Int)<=1048576:=oM;clear aX hn;go_wp2_with fail;refine(KG x u1).mono ?_;rintro e u2 ⟨rfl,b2⟩;have A:=Ap (ji (p.o.1.bM b2) (ji (Ai p.o.2 lR b2) b2));have aT:=Ap p.o.1.lt;have bt:=Ap b2.size;clear b2 p c0 bZ c2 c3;cases hon:DQ x
 . have aS:Aa (DQ x=false):=hon;clear hon;go_wp2_with fail;refine(Nx gb ob cb n E u2 am aM ae.o.1 ae.o.2 (HB.o.2.1.bM A.o.2.2) (λb hb=>by obtain⟨f,l,B,C⟩:=HB.o.2.2.2.1 b hb;exact⟨f,l,Ak A.o.2.2 B,Ak A.o.2.2 C⟩)).mono ?_;rintro e u3 ⟨G,gN,cN,gF,gO,cO,gP,S,O,rfl,aw⟩;have i:=Ap aw;have aQ:=Ap (ji (A.o.1.bM aw.gG) (ji (Ai A.o.2.1 lR aw.gG) (ji (Ai A.o.2.2 lR aw.gG) aT.o)));clear aw A;obtain⟨aU,bF,cJ,bG⟩:=Uq aM ae.o.1 i.o.vs;have cH:Aa ((∀x∈O,x<n)/\O.Nodup/\(∀x∈O,Er E (λ_=>True) 0 x)):=⟨aU,bF,bG⟩
   (have br:Aa (∀k x:Nat,O.reverse[k]?=K x->u3.cell? ⟨gO,k,M⟩=K (iZ (x:Int))):= λk x Q=>by have ho:=i.o.ord;rw[<-mF]at ho;obtain⟨_,_,ee,_,q⟩:=ho.rd.at_ Q;simp only[kK,mA,mg]at ee;obtain⟨rfl,rfl⟩:=ee;rw[lY]at q;exact q);have bq:=TN G n gN cN gO cO O.reverse u3 am (λx Q=>aU x (mT.1 Q)) (by rw[mF];omega) (i.o.gR.cell 0) (by rw[mF];exact i.o.gR.cell 2) br.o;clear aU bF bG;go_wp2_with fail;refine bq.mono ?_;rintro e u4 ⟨g9,cI,zs,rfl,aP,aZ,aA,b4⟩;have j:=Ap (ji (aQ.o.1.bM b4) (ji (Ai aQ.o.2.1 lR b4) (ji (Ai aQ.o.2.2.1 lR b4) b4)));clear bq b4;cases zs with
   | cons z r=>
     obtain⟨b,rfl,bJ,cu⟩:=(aA z).1 (ln ..);have cM:(b:Int)<(n:Int):=oM;obtain⟨m,hm⟩:∃m,(At xs)[b]?=K m:=⟨_,an (by rw[<-HN.o.1];exact bJ)⟩;have m0:=Ak j.o.2.2.1 (HB.o.2.2.1 b m hm);have z0:=aP.cellAt 0 sP;simp only[kX,Ah,lF,jt]at z0;(have cE:(0:Int)<(((b:Int)::r).length:Int):=by rw[lh];omega);have aq:Aa (Bc xs (El 2 m.gK)):=.lost HG.o.1 HG.o.2 aS.o (S:=S) (O:=O) (by rw[<-HN.o.2];exact i.o.vs) (by rw[<-HN.o.1];exact bJ) (λq=>cu (mT.2 ((Ge i.o.vs b).1 q))) (λc hc=>by
      refine(Ge i.o.vs c).2 (mT.1 (ly λq=> ?_));have h1:=(aA (c:Int)).2 ⟨c,rfl,oM,q⟩;rcases lA.1 h1 with e|e
      . omega
      have:=(mH.1 aZ).1 _ e;omega) hm
     generalize ce:((b:Int)::r).length=lz at cE aP;clear aP aZ aA hm ce;have r0:u4.cell? w=K (iZ 0):=j.o.1.cell 0;have r1:u4.cell? ⟨w,1,M⟩=K (iZ 0):=j.o.1.cell 1;have r2:u4.cell? ⟨w,2,M⟩=K sN:=j.o.1.cell 2;have r3:u4.cell? ⟨w,3,M⟩=K sN:=j.o.1.cell 3;have r4:u4.cell? ⟨w,4,M⟩=K sN:=j.o.1.cell 4;have r5:u4.cell? ⟨w,5,M⟩=K sN:=j.o.1.cell 5;have f0:=j.o.1.frozen 0;have f1:=j.o.1.frozen 1;have f2:=j.o.1.frozen 2;have f3:=j.o.1.frozen 3;have f4:=j.o.1.frozen 4;have f5:=j.o.1.frozen 5;go_wp2_with fail;obtain⟨R,B,C,T,W,q5⟩:=CY j.o.1 (iZ 2) (iZ m.gK) sN sN sN sN;simp only[six]at R B C T W q5;exact kY (v:=.agg #[iZ 2,iZ m.gK,sN,sN,sN,sN]) (by simp[results,Tryz.results29,go_sem,R,B,C,T,W,q5]) rfl ⟨El 2 m.gK,_,_,_,_,[],[],rfl,aq.o,D2.none _ _ _ _,CX j.o.2.1 lR _ _ _ _ _ _⟩
   | nil=>
     (have bH:∀c,c<n->c∈O:= λc hc=>mT.1 (ly λq=>by have:=(aA (c:Int)).2 ⟨c,rfl,hc,q⟩;cases this));obtain⟨hP,bP,cj,bC,cg⟩:=Cx aM ae.o.1 i.o.vs (λc hc=>(Ge i.o.vs c).2 (bH c hc));have a8:=Ap (ji hP (ji bP (ji bC cj)));clear aP aZ aA bH hP bP bC cg;have bi:=Nm G n gN cN gF n gO cO gP n E O u4 am a8.o.1 a8.o.2.2.2 a8.o.2.1 a8.o.2.2.1 (λb=>by have:=JA ae.o.2 n b;omega) (by have ho:=i.o.ord;unfold Gj at ho;rw[mF]at ho;have:=Vz ho;rw[a8.o.2.2.2]at this;exact this) (by have:=i.o.gR.bM j.o.2.2.2;rw[a8.o.2.2.2]at this;exact this) (i.o.fr.bM j.o.2.2.2) (λk x Q=>Ak j.o.2.2.2 (br.o k x Q)) (λx Q=>Ak j.o.2.2.2 (i.o.pl x ((a8.o.2.2.1 x).2 Q))) ⟨i.o.ne.1,i.o.ne.2.1,i.o.ne.2.2.1,i.o.ne.2.2.2, λb a c hb hc=>by obtain⟨a',c',B,_⟩:=i.o.fr b hb;rw[lY]at B;have C:=Ak j.o.2.2.2 B;rw[hc]at C;exact i.o.nf b a (BF E n b).length c hb (B.trans C.symm)⟩;go_wp2_with fail;refine bi.mono ?_;rintro e u5 ⟨rfl,gi,I,au,bK⟩;have aj:=Ap (ji (GD.of i.o a8.o.2.2.2 a8.o.2.2.1 j.o.2.2.2 au) bK);have aR:Aa (Ar u5 w VO 45/\Ad w w u5/\Ad u1 u1 u5):=by have h1:=i.o.ge;have h2:=bt.o;have h3:=aT.o;refine⟨?_,j.o.2.1.trans (au.gG.mono oM),j.o.2.2.1.trans (au.gG.mono oM)⟩;have k:=j.o.1;unfold Ar at*;rw[au.fx w (lC.1 k).1 oM];exact k
     clear bi au bK;obtain⟨D,hD⟩:∃D:Nat->Nat->Bool,∀d b,D d b=true↔Es E d b:=⟨λd b=> @decide _ (Classical.propDecidable (Es E d b)), λd b=>sP⟩;have HD:=Ap hD;clear hD;have bg:=LJ G n gN cN gP n gi n E O I D u5 am a8.o.1 aj.o.2 HD.o ae.o.2 (aj.o.1.gR.cell 0) aj.o.1.nx aj.o.1.gi_;go_wp2_with fail;refine bg.mono ?_;rintro e u6 ⟨cA,b6⟩;have g:=Ap (ji (aR.o.1.bM b6) (ji (Ai aR.o.2.1 lR b6) (ji (Ai aR.o.2.2 lR b6) (ji (aj.o.1.bM b6) b6))));clear bg b6;rcases cA with⟨b,k,y,rfl,aG⟩|⟨gB,FS,rfl,bO,bI,bz,bu⟩
     . have cG:y<n:=ae.o.1 b aG.lt y (i8 aG.at_);have cZ:(y:Int)<(n:Int):=oM;have cX:((y:Int)== -1)=false:=sP;have cY:((y:Int) != -1)=true:=sP;obtain⟨m,hm⟩:∃m,(At xs)[y]?=K m:=⟨_,an (by rw[<-HN.o.1];exact cG)⟩;have m0:=Ak g.o.2.2.1 (HB.o.2.2.1 y m hm);(have aq:Aa (Bc xs (El 3 m.gK)):=by refine .two (D:=D) (b:=b) (k:=k) (t:=y) HG.o.1 HG.o.2 aS.o (S:=S) (O:=O) (by rw[<-HN.o.2];exact i.o.vs) (by rw[<-HN.o.1];exact λc hc=>(Ge i.o.vs c).2 ((a8.o.2.2.1 c).2 hc)) (by rw[<-HN.o.2];exact HD.o) ?_ hm;rw[<-HN.o.1,<-HN.o.2];exact aG);clear hm aG;have r0:u6.cell? w=K (iZ 0):=g.o.1.cell 0;have r1:u6.cell? ⟨w,1,M⟩=K (iZ 0):=g.o.1.cell 1;have r2:u6.cell? ⟨w,2,M⟩=K sN:=g.o.1.cell 2;have r3:u6.cell? ⟨w,3,M⟩=K sN:=g.o.1.cell 3;have r4:u6.cell? ⟨w,4,M⟩=K sN:=g.o.1.cell 4;have r5:u6.cell? ⟨w,5,M⟩=K sN:=g.o.1.cell 5;have f0:=g.o.1.frozen 0;have f1:=g.o.1.frozen 1;have f2:=g.o.1.frozen 2;have f3:=g.o.1.frozen 3;have f4:=g.o.1.frozen 4;have f5:=g.o.1.frozen 5;go_wp2_with fail;obtain⟨R,B,C,T,W,q5⟩:=CY g.o.1 (iZ 3) (iZ m.gK) sN sN sN sN;simp only[six]at R B C T W q5;exact kY (v:=.agg #[iZ 3,iZ m.gK,sN,sN,sN,sN]) (by simp[results,Tryz.results29,go_sem,R,B,C,T,W,q5]) rfl ⟨El 3 m.gK,_,_,_,_,[],[],rfl,aq.o,D2.none _ _ _ _,CX g.o.2.1 lR _ _ _ _ _ _⟩
     have ao:Aa (BK u5 u6 n gB FS/\(∀b,b<n->∀t∈E b,¬LE O D b t)/\ ↑FS=n/\∀x,x<n->∃V,FS[x]?=K (V,AJ E D n x)):=⟨bI,bO,bz,bu⟩
     clear bI bO bz bu;obtain⟨Lf,bB⟩:∃L:Nat->Nat->Bool,∀h y,L h y=true↔DZ E D n h y:=⟨λh y=> @decide _ (Classical.propDecidable (DZ E D n h y)), λh y=>sP⟩;have bp:=Ap bB;clear bB;have bD:=Aj u6;have bj:=Sq G n gF n gB E D Lf FS u6.drew am ae.o.1 ae.o.2 bp.o ((g.o.2.2.2.1.gR.bM bD).cell 1) (g.o.2.2.2.1.fr.bM bD) (λx Q=>by
      obtain⟨V,hV⟩:=ao.o.2.2.2 x Q;refine⟨V,hV,?_,?_⟩
      . have:=(ao.o.1.bM bD).iy.cellAt x oM;rw[lG,hV]at this;exact this
      have:=Rd.gM ((ao.o.1.bM bD).gW.own (V,ints (AJ E D n x)) (lK.2 ⟨(V,_),i8 hV,rfl⟩));simp only[AU]at this;rw[<-Dk]at this;exact this)
     have bV:=Ap bj;have x2:u6.drew.cell? ⟨G,2,M⟩=K (sG gO n cO):=(g.o.2.2.2.1.gR.bM bD).cell 2;have x4:u6.drew.cell? ⟨G,4,M⟩=K (sG gi n n):=(g.o.2.2.2.1.gR.bM bD).cell 4;clear bD bj;(go_upto_region 15 with fail);go_region_law ((go_simp;go_at_call 64;refine bV.o.mono ?_;rintro e u7 ⟨VL,rfl,ys,aJ,bS,bR⟩;obtain⟨aL,cL,rfl⟩:=Az aJ.iE;have N:Aa (Ad u6 u6 u7):=FX aJ.gG lR;have H7:Aa (LP u6.drew u7 (Z aL ys cL) ys/\ys.map Prod.fst=Cg E D Lf n n/\List.Sublist (ys.map λy=>(y.2.1,y.1.back)) (FS.map λx=>(x.1,ints x.2))):=⟨aJ,bS,bR⟩;have y2:u7.cell? ⟨G,2,M⟩=K (sG gO n cO):=(g.o.2.2.2.1.gR.bM N.o).cell 2;have y4:u7.cell? ⟨G,4,M⟩=K (sG gi n n):=(g.o.2.2.2.1.gR.bM N.o).cell 4;have r0:u7.cell? w=K (iZ 0):=(g.o.1.bM N.o).cell 0;have r1:u7.cell? ⟨w,1,M⟩=K (iZ 0):=(g.o.1.bM N.o).cell 1;have r2:u7.cell? ⟨w,2,M⟩=K sN:=(g.o.1.bM N.o).cell 2;have r3:u7.cell? ⟨w,3,M⟩=K sN:=(g.o.1.bM N.o).cell 3;have r4:u7.cell? ⟨w,4,M⟩=K sN:=(g.o.1.bM N.o).cell 4;have r5:u7.cell? ⟨w,5,M⟩=K sN:=(g.o.1.bM N.o).cell 5;have f0:=(g.o.1.bM N.o).frozen 0;have f1:=(g.o.1.bM N.o).frozen 1;have f2:=(g.o.1.bM N.o).frozen 2;have f3:=(g.o.1.bM N.o).frozen 3;have f4:=(g.o.1.bM N.o).frozen 4;have f5:=(g.o.1.bM N.o).frozen 5;clear aJ bS bR))
     all_goals
      have aq:=Ap (Mo HN.o.1 HN.o.2 HG.o.1 HG.o.2 aS.o i.o.vs (λc hc=>(Ge i.o.vs c).2 ((a8.o.2.2.1 c).2 hc)) HD.o ao.o.2.1 (R9 aj.o.2) bp.o);have bY:Aa (D2 (six u7 w (iZ 0) (iZ 0) (sO gb ob n cb) (sG gO n cO) (sG gi n n) (Z aL ys cL)) w (sO gb ob n cb) (sG gO n cO) (sG gi n n) (Z aL ys cL) F ys ⟨0,0,At xs,ints O.reverse,(List.range n).map I,Cg E D Lf n n⟩):=SD HB.o.1 HB.o.2.2.2.2 aT.o bt.o g.o.2.2.1 aj.o.1 g.o.2.2.2.1 a8.o.2.2.2 g.o.2.2.2.2 ao.o.1 N.o H7.o.1 H7.o.2.1 H7.o.2.2 _ _ _ _ _ _;have bf:=Ap (ji (g.o.1.bM N.o) (Ai g.o.2.1 lR N.o));clear x2 x4 y2 y4 r0 r1 r2 r3 r4 r5 f0 f1 f2 f3 f4 f5;go_wp2_with fail;obtain⟨R,B,C,T,W,q5⟩:=CY bf.o.1 (iZ 0) (iZ 0) (sO gb ob n cb) (sG gO n cO) (sG gi n n) (Z aL ys cL);simp only[six]at R B C T W q5;exact kY (v:=.agg #[iZ 0,iZ 0,sO gb ob n cb,sG gO n cO,sG gi n n,Z aL ys cL]) (by simp[results,Tryz.results29,go_sem,R,B,C,T,W,q5]) rfl ⟨⟨0,0,At xs,ints O.reverse,(List.range n).map I,Cg E D Lf n n⟩,_,_,_,_,F,ys,rfl,aq.o,bY.o,CX bf.o.2 lR _ _ _ _ _ _⟩
 have r0:u2.cell? w=K (iZ 0):=A.o.1.cell 0;have r1:u2.cell? ⟨w,1,M⟩=K (iZ 0):=A.o.1.cell 1;have r2:u2.cell? ⟨w,2,M⟩=K sN:=A.o.1.cell 2;have r3:u2.cell? ⟨w,3,M⟩=K sN:=A.o.1.cell 3;have r4:u2.cell? ⟨w,4,M⟩=K sN:=A.o.1.cell 4;have r5:u2.cell? ⟨w,5,M⟩=K sN:=A.o.1.cell 5;have f0:=A.o.1.frozen 0;have f1:=A.o.1.frozen 1;have f2:=A.o.1.frozen 2;have f3:=A.o.1.frozen 3;have f4:=A.o.1.frozen 4;have f5:=A.o.1.frozen 5;go_wp2_with fail;obtain⟨R,B,C,T,W,q5⟩:=CY A.o.1 (iZ 1) (iZ (lx:Int)) sN sN sN sN;simp only[six]at R B C T W q5;refine kY (v:=.agg #[iZ 1,iZ (lx:Int),sN,sN,sN,sN]) (by simp[results,Tryz.results29,go_sem,R,B,C,T,W,q5]) rfl ⟨El 1 ((xs:Int)-1),_,_,_,_,[],[],?_,.off HG.o.1 HG.o.2 hon,D2.none _ _ _ _,CX A.o.2.1 lR _ _ _ _ _ _⟩;have:((xs:Int)-1)=(lx:Int):=by rw[bX.o];omega
 simp only[El,this]
theorem Vd{w:Y}{xs:List MI}{r:Fy}{vb vo vi vl:J}(h:Bc xs r)(i:r.ch=0)(t:Dg w vb vo vi vl r):∃gb ob cb f j z E O,vb=sO gb ob r.ej cb/\vo=sO f j r.ej z/\0<r.ej.length/\∀x:GV,x.gb=gb->x.ob=ob->x.go=f->x.oo=j->GF w r.ej x E O:=by
 cases h with
 |none _=>cases i
 |off _ _ _=>cases i
 |lost _ _ _ _ _ _ _ _=>cases i
 |two _ _ _ _ _ _ _ _=>cases i
 | @good x S O D L I g x1 o1 v1 s1 d1 b1 i1 l1=>have l:=Dj g;have p:∀b,b<(At xs).length->∀y∈nx (At xs) b,y<(At xs).length:=Io g;obtain⟨W,a8,k,C,_⟩:=Cx l p v1 s1;obtain⟨gb,ob,cb,A,F,_⟩:=Ic.i5 g t.ej;(have s:Iu w vo O.reverse:=by have:=t.gJ;unfold Iu;rw[Dk];simp only[AU]at this;exact this);obtain⟨a,c,B⟩:=Rd.fu s;subst B;obtain⟨f,j,e3,_,G⟩:=s.all (by rw[mF,k];exact l);subst e3;refine⟨gb,ob,cb,f,j,c,nx (At xs),O.reverse,A,by rw[mF,k],l, λx N Q R T=> ?_⟩;subst N Q R T;exact⟨F,G,by rw[mF,k], λy H=>(C y).1 (mT.1 H),p,Jh _ (Gg xs)⟩
structure Gp(w u:Y)(G:Nat)(fc fa:Int)(vb vo vi vl vI vC:J)(bad:Bool)(I:List Nat)(C:List Int):Prop where
 gR:Ar u G #[iZ fc,iZ fa,vb,vo,vi,vl,vI,vC,.bool bad] 203
 lo: ↑w<=G
 ig:u.ownsRow w 2 1 vI I (nv I)
 cost:u.ownsRow w 2 1 vC C (C.flatMap Ah)
 ne:∀b,vI.ownBlock=K b->vC.ownBlock=K b->False
 gG:Ad w w u
 cb:∀y∈C,Md y
section
variable {w u u':Y} {G:Nat} {fc fa:Int} {vb vo vi vl vI vC:J} {bad:Bool} {I:List Nat} {C:List Int}
theorem Gp.bM(h:Gp w u G fc fa vb vo vi vl vI vC bad I C)(a:Ad u u u'):Gp w u' G fc fa vb vo vi vl vI vC bad I C:={h with gR:=h.gR.bM a,ig:=Am h.ig a lR,cost:=Am h.cost a lR,gG:=Ai h.gG lR a}
theorem Gp.i9(h:Gp w u G fc fa vb vo vi vl vI vC bad I C):Gp w (u.setCell ⟨G,8,M⟩ (.bool true)) G fc fa vb vo vi vl vI vC true I C:={h with gR:=by have:=h.gR.set 8 (.bool true);simpa using this,ig:=kO h.ig (a:=⟨G,8,M⟩) (λq=>Bu h.ig h.gR dC _ q rfl) _,cost:=kO h.cost (a:=⟨G,8,M⟩) (λq=>Bu h.cost h.gR dC _ q rfl) _,gG:=h.gG.setCell h.lo _}
theorem Gp.cells(h:Gp w u G fc fa vb vo vi vl vI vC bad I C):u.cell? ⟨G,6,M⟩=K vI/\u.cell? ⟨G,7,M⟩=K vC/\u.cell? ⟨G,8,M⟩=K (.bool bad)/\∀i,u.frozen? ⟨G,i,M⟩=false:=⟨by rw[h.gR.cell];rfl,by rw[h.gR.cell];rfl,by rw[h.gR.cell];rfl,h.gR.frozen⟩
theorem EI{o:Option Nat}(h:u.ownsRow B e k s n xs)(l:u.grownBy u' o)(m:∀b,s.ownBlock=K b->K b≠o):u'.ownsRow B e k s n xs:=by
 refine⟨h.1,?_⟩;rcases h.2 with h|⟨g,cap,i,a,j,f,p⟩
 . exact .inl h
 refine .inr ⟨g,cap,i,a,j,?_,p⟩;rw[l.block g (lC.1 f).1 (m g (by rw[a];rfl))];exact f
theorem Kj{b:Nat}(h:u.ownsRow B e k s n xs)(a:s.ownBlock=K b):b<u.heap.size:=(h.lt b a).2
theorem Gp.jW(h:Gp w u G fc fa vb vo vi vl vI vC bad I C)(b:Nat)(V:J)(k:u'.ownsRow w.heap.size 2 1 V (I.length+1) (nv I++[iZ (b:Int)]))(g:u.grownBy u' vI.ownBlock)(l:V.ownBlock=vI.ownBlock\/V.ownBlock=K u.heap.size):Gp w (u'.setCell ⟨G,6,M⟩ V) G fc fa vb vo vi vl V vC bad (I++[b]) C/\u'.cell? ⟨G,6,M⟩=K vI/\u'.frozen? ⟨G,6,M⟩=false:=by
 have f:Ar u' G _ _:=h.gR.grown g h.ig dC;have i:u'.ownsRow w.heap.size 2 1 vC C.length (C.flatMap Ah):=EI h.cost g (λb m q=>h.ne b q.symm m);refine⟨⟨by have:=f.set 6 V;simpa using this,h.lo,?_,kO i (a:=⟨G,6,M⟩) (λq=>Bu i f dC _ q rfl) _, λb h1 h2=> ?_,((h.gG.grown g h.gG.size (λj n=>(h.ig.lt j n).1)).setCell h.lo _),h.cb⟩,by rw[f.cell];rfl,f.frozen 6⟩
 . have:=kO k (a:=⟨G,6,M⟩) (λq=>Bu k f dC _ q rfl) V;rw[kJ,kQ,FN];exact this
 rcases l with e|e
 . exact h.ne b (e▸h1) h2
 rw[e]at h1;have:=Kj h.cost h2;simp only[kK]at h1;omega
theorem Gp.jl(h:Gp w u G fc fa vb vo vi vl vI vC bad I C){c:Int}(n:Md c)(V:J)(k:u'.ownsRow w.heap.size 2 1 V (C.length+1) (C.flatMap Ah++[iZ c]))(g:u.grownBy u' vC.ownBlock)(l:V.ownBlock=vC.ownBlock\/V.ownBlock=K u.heap.size):Gp w (u'.setCell ⟨G,7,M⟩ V) G fc fa vb vo vi vl vI V bad I (C++[c])/\u'.cell? ⟨G,7,M⟩=K vC/\u'.frozen? ⟨G,7,M⟩=false:=by
 have f:Ar u' G _ _:=h.gR.grown g h.cost dC;have i:u'.ownsRow w.heap.size 2 1 vI I.length (nv I):=EI h.ig g (λb m q=>h.ne b m q.symm);refine⟨⟨by have:=f.set 7 V;simpa using this,h.lo,kO i (a:=⟨G,7,M⟩) (λq=>Bu i f dC _ q rfl) _,?_, λb h1 h2=> ?_,((h.gG.grown g h.gG.size (λj p=>(h.cost.lt j p).1)).setCell h.lo _), λy r=> ?_⟩,by rw[f.cell];rfl,f.frozen 7⟩
 . have:=kO k (a:=⟨G,7,M⟩) (λq=>Bu k f dC _ q rfl) V;rw[kJ,kQ,lJ];exact this
 . rcases l with e|e
   . exact h.ne b h1 (e▸h2)
   rw[e]at h2;have:=Kj h.ig h1;simp only[kK]at h2;omega
 rcases kS.1 r with e|e
 . exact h.cb y e
 rw[lT.1 e];exact n
theorem Gp.gr{n gb ob cb j l i:Nat}(h:Gp w u G fc fa (sO gb ob n cb) (sO j l n i) vi vl vI vC bad (List.range n) C)(k: ↑C=n)(r:0<n):∃a f g b,Gr w u G n ⟨fc,fa,gb,ob,cb,j,l,i,vi,vl,a,f,g,b⟩ bad (List.range n) C:=by
 have h1:=h.ig;have h2:=h.cost;rw[mS]at h1;rw[k]at h2;rcases Bz h1 with⟨_,e⟩|⟨a,f,m⟩
 . omega
 rcases Bz h2 with⟨_,e⟩|⟨g,b,p⟩
 . omega
 subst m p;exact⟨a,f,g,b,h.gR,h.lo,h1,h2, λe=>h.ne a rfl (by simp only[]at e;rw[e];rfl),h.gG,mS, λy q=>mz.1 q,k,h.cb⟩
end
end Go.Proofs.YtjnglocdoljgkaaGreat
