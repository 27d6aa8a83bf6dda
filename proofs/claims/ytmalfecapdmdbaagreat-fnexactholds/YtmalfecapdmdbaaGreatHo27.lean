import Derived.Test.YtmalfecapdmdbaaGreatHo26
namespace Go.Proofs.YtmalfecapdmdbaaGreat
open Go.ChangeShapes Go.WideShapes Go.ChangeAt Go.RowKit Go.Proofs.Tryz
set_option linter.unusedVariables false
open Go.Value renaming slice → Z,int → Ag,agg → Am,bool → An
open Option renaming some → K,none → M
open Go renaming World → Y,Calls → Ai
open Go.RowKit renaming Hid → Ae,Below → Ah
open Go.Obj renaming cells → Ak
open Go.Ending renaming returned → Al
open Go.Proofs.Tryz renaming prog → Ap
open Go.World renaming alloc → Ac
set_option maxHeartbeats 8000000
set_option maxRecDepth 100000
theorem Jp(v:VP)(p:MP)(fi:Int)(lv:VL)(l:ML)(w:Y)(hs:p.small)(hw:p.wf)(bT:Dg fi)(h:Da w v p)(hl:l.small)(hr:Mj w lv l):
 Ai Ap 37 #[Am #[v.r,v.k,v.f,v.t],iZ fi,Am #[iZ l.head,lv.b,lv.k]] w λe w'=>(∃n,e=Al (iZ n)/\NQ p fi l n)/\Ah w w w':=by
 obtain⟨X,r3,T,V,t1,t3,f1,f3,rfl⟩:=h.sl;obtain⟨R,S,e1⟩:=Rd.dk hr.1;obtain⟨G,I,e2⟩:=Rd.dk hr.2;obtain⟨lb,lk⟩:=lv;simp only[]at e1 e2;subst e1 e2;have H:=Av (d5 hs (d5 hw (d5 bT (d5 h (d5 hr hl)))));clear hs hw bT h hr hl;have E0:=BL w #[Z X p.bO r3,Z T p.ej V,Z f1 p.bW f3,Z t1 p.eD t3] #[iZ l.head,Z R l.back S,Z G l.a8 I] 36 85;go_enter func37,ntmps37;go_upto_region 1 with fail
 refine Ax (λu=>Ae (AC u w #[Z X p.bO r3,Z T p.ej V,Z f1 p.bW f3,Z t1 p.eD t3] 36/\AC u ((w:Nat)+1) #[iZ l.head,Z R l.back S,Z G l.a8 I] 85/\Ah w w u)) E0 ?_
 rintro U0 E1;clear E0;obtain⟨p0,p1,p2,p3⟩:=BP E1.o.1;go_wp2_with fail;refine(Dj ⟨Z X p.bO r3,Z T p.ej V,Z f1 p.bW f3,Z t1 p.eD t3⟩ p U0 H.o.1 H.o.2.1 (H.o.2.2.2.1.a7 E1.o.2.2 lR)).mono ?_;rintro e u1 ⟨⟨n,rfl,hn⟩,bb⟩;have E2:=Av (d5 (E1.o.1.a7 bb) (d5 (E1.o.2.1.a7 bb) (Ar E1.o.2.2 lR bb)));clear bb E1 p0 p1 p2 p3;clear U0;have p2:=E2.o.1.cell 2;simp only[kB,i9,kC]at p2;by_cases bV:n=0;case neg=>
  have HN:Ae (¬FC p fi l):= λe=>bV (hn.one e.1)
  clear hn;go_wp2_with fail;go_ret;exact⟨⟨7,rfl,.inl ⟨HN.o,rfl⟩⟩,E2.o.2.2⟩
 subst bV;have bq:=Av hn;clear hn;by_cases cI:fi<0;case pos=>
  have HN:Ae (¬FC p fi l):= λe=>absurd e.2.1 oM
  have di:decide (fi<0)=true:=by simpa using cI
  go_wp2_with fail;go_ret;exact⟨⟨7,rfl,.inl ⟨HN.o,rfl⟩⟩,E2.o.2.2⟩
 by_cases dj:(p.bW:Int)<=fi;case pos=>
  have HN:Ae (¬FC p fi l):= λe=>by obtain⟨f,r,hf,_⟩:=e.2.2;have:=(i6.1 hf).1;omega
  go_wp2_with fail;go_ret;exact⟨⟨7,rfl,.inl ⟨HN.o,rfl⟩⟩,E2.o.2.2⟩
 obtain⟨q,rfl⟩:=kX (show 0<=fi from oM);obtain⟨f,hf⟩:∃f,p.bW[q]?=K f:=⟨_,an oM⟩;obtain⟨gk,ok,ck,bL,g,bH,m0,m1,m2,m3⟩:=Io H.o.2.2.2.1.bW hf;simp only[i8,lB]at bL;obtain⟨rfl,rfl⟩:=bL;obtain⟨L,g3,g4,g6,g7,g9,rfl⟩:=EH bH;have dz:(q:Int)<(p.bW:Int):=oM;have HF:=Av (d5 hf (d5 (H.o.1.func f (i7 hf)) (d5 bH (Nat.pos_of_ne_zero (bq.o.parts.2.2.1.2.2.1 q (i6.1 hf).1 f hf).iU))));have bJ:Ae (p.bW[((q:Nat):Int).toNat]?=K f):=by show p.bW[((q:Nat):Int).toNat]?=K f;rw[kA];exact hf
 simp only[]at m0 m1 m2 m3;rw[<-E2.o.2.2.cell (hC m3)]at m3;clear bH hf m0 m1 m2;go_wp2_with fail;refine(Fb (Z g7 f.eC g9) f.eC u1 HF.o.2.1.2.2 (Rd.a7 HF.o.2.2.1.2.2 E2.o.2.2 lR)).mono ?_;rintro e u2 ⟨r,vb,vo,vi,vl,rfl,bC,bG,bb⟩;obtain⟨v1,c1,v2,c2,v3,c3,v4,c4,rfl,rfl,rfl,rfl⟩:=Jm bG;have E3:Ae (QO w (Ac u2 (Ak #[iZ r.eC,iZ r.at_,Z v1 r.a8 c1,Z v2 r.gJ c2,Z v3 r.gQ c3,Z v4 r.gE c4] 80)) ⟨Z X p.bO r3,Z T p.ej V,sO gk ok p.bW f3,Z t1 p.eD t3⟩ ⟨Z R l.back S,Z G l.a8 I⟩ l u2 r (Z v1 r.a8 c1) (Z v2 r.gJ c2) (Z v3 r.gQ c3) (Z v4 r.gE c4)):=by have b2:=Aq u2 (Ak #[iZ r.eC,iZ r.at_,Z v1 r.a8 c1,Z v2 r.gJ c2,Z v3 r.gQ c3,Z v4 r.gE c4] 80);exact⟨(E2.o.1.a7 bb).a7 b2,(E2.o.2.1.a7 bb).a7 b2,AC.new _ _ _,bG.iT b2 lR,Ar (Ar E2.o.2.2 lR bb) lR b2⟩
 have bg:=Av bC;have dy:r.gE.length<=1024:=(Gx bC).1;clear bC bG bb E2 p2 m3;clear u1;go_upto_region 5 with fail
 generalize u2.heap.size=FB at E3⊢;refine Ax (λu=>Ae (QO w u ⟨Z X p.bO r3,Z T p.ej V,sO gk ok p.bW f3,Z t1 p.eD t3⟩ ⟨Z R l.back S,Z G l.a8 I⟩ l FB r (Z v1 r.a8 c1) (Z v2 r.gJ c2) (Z v3 r.gQ c3) (Z v4 r.gE c4))) E3 ?_;rintro U Q;clear E3;clear u2;go_wp2_with fail;go_loopw [9,10] (λth i wr=>∃(b:Bool) (k:Nat),k<= ↑r.gE/\th=An b/\i=iZ k/\Ae (b=true↔∃j:Nat,j<k/\r.gE[j]?=K l)/\Ae (QO w wr ⟨Z X p.bO r3,Z T p.ej V,sO gk ok p.bW f3,Z t1 p.eD t3⟩ ⟨Z R l.back S,Z G l.a8 I⟩ l FB r (Z v1 r.a8 c1) (Z v2 r.gJ c2) (Z v3 r.gQ c3) (Z v4 r.gE c4))) (λ_ i _=> ↑r.gE-(intOf i).toNat)
 case atStart=>exact⟨false,0,oM,rfl,rfl,⟨λe=>(by cases e), λ⟨j,hj,_⟩=>absurd hj oM⟩,Q⟩
 case round=>
 clear Q;obtain⟨b,k,hk,rfl,rfl,HB,Q⟩:=hrel;obtain⟨y0,y1,y2,y3,y4,y5⟩:=G4 Q.o.fb;by_cases aj:k< ↑r.gE
 case pos=>
  obtain⟨m,C⟩:∃m,r.gE[k]?=K m:=⟨_,an aj⟩;obtain⟨gl,ol,a1,x1,a2,x2,cE,i0,i1,i2,bZ⟩:=H0 Q.o.rf.gE C;have HM:=Av C;clear C;cases b
  case true=>(go_upto_region 9 with fail);have inst:=AB.some wr;refine AL kR kR ?_;(repeat(go_big_quiet_step (fail)));refine wpQuiet_nil ?_;rintro O ⟨s,rfl⟩;go_wp2;go_roundw;(case rel=>exact⟨true,k+1,oM,rfl,by go_num,⟨λ_=>by obtain⟨j,hj,e⟩:=HB.o.1 rfl;exact⟨j,oM,e⟩, λ_=>rfl⟩,Q.o.a7 s.h⟩);exact oI
  case false=>
   (go_upto_region 9 with fail);have inst:=AB.some wr;subst cE;obtain⟨W,o1,N⟩:=Cl Q.o.lb;(have Y5:= λs:AB wr=>AB.cell y5 s);(have I0:= λs:AB wr=>AB.cell i0 s);(have I1:= λs:AB wr=>AB.cell i1 s);(have I2:= λs:AB wr=>AB.cell i2 s);(have O0:= λs:AB wr=>AB.cell W s);(have O1:= λs:AB wr=>AB.cell o1 s);(have O2:= λs:AB wr=>AB.cell N s);have HL:=Av (d5 bZ (d5 (H.o.2.2.2.2.1.a7 Q.o.e8 lR) ((Gx bg.o).2 m (i7 HM.o))));clear bZ y0 y1 y2 y3 y4 y5 i0 i1 i2 W o1 N;by_cases bo:m=l;(case pos=>have aM:=Av bo;clear bo;refine AL kR kR ?_;(repeat(go_big_quiet_step ((go_at_call 66;rename_i s;exact(He m l (Z a1 m.back x1) (Z a2 m.a8 x2) (Z R l.back S) (Z G l.a8 I) s.u HL.o.2.2 H.o.2.2.2.2.2 (Mj.a7 (v:=⟨Z a1 m.back x1,Z a2 m.a8 x2⟩) HL.o.1 s.h lR) (Mj.a7 (v:=⟨Z R l.back S,Z G l.a8 I⟩) HL.o.2.1 s.h lR)).mono λe O A=>⟨A.1.true aM.o,⟨⟨O,Ar s.h lR A.2⟩,rfl⟩⟩))));refine wpQuiet_nil ?_;rintro O ⟨s,rfl⟩;go_wp2;go_roundw;(case rel=>exact⟨true,k+1,oM,rfl,by go_num,⟨λ_=>⟨k,oM,by rw[HM.o,aM.o]⟩, λ_=>rfl⟩,Q.o.a7 s.h⟩);exact oI);case neg=>
    have aM:=Av bo;clear bo;refine AL kR kR ?_;(repeat(go_big_quiet_step ((go_at_call 66;rename_i s;exact(He m l (Z a1 m.back x1) (Z a2 m.a8 x2) (Z R l.back S) (Z G l.a8 I) s.u HL.o.2.2 H.o.2.2.2.2.2 (Mj.a7 (v:=⟨Z a1 m.back x1,Z a2 m.a8 x2⟩) HL.o.1 s.h lR) (Mj.a7 (v:=⟨Z R l.back S,Z G l.a8 I⟩) HL.o.2.1 s.h lR)).mono λe O A=>⟨A.1.false aM.o,⟨⟨O,Ar s.h lR A.2⟩,rfl⟩⟩))));refine wpQuiet_nil ?_;rintro O ⟨s,rfl⟩;go_wp2;go_roundw;case rel=>
     refine⟨false,k+1,oM,rfl,by go_num,⟨λe=>(by cases e), λ⟨j,hj,e⟩=> ?_⟩,Q.o.a7 s.h⟩;by_cases cw:j=k
     . subst cw;rw[HM.o]at e;exact absurd (kH e) aM.o
     exact HB.o.2 ⟨j,oM,e⟩
    case measure=>exact oI
 have aA:k=r.gE.length:=oM;subst aA;have bp:Ae (b=true↔l∈r.gE):=by
  constructor
  . intro e;obtain⟨j,_,e⟩:=HB.o.1 e;exact i7 e
  intro e;obtain⟨j,e⟩:=lH e;exact HB.o.2 ⟨j,(i6.1 e).1,e⟩
 clear HB aj hk;have br:Ae (FC p (q:Int) l->r.eC=0/\l∈r.gE):= λe=>by obtain⟨f',r',bS,cJ,cG,cT⟩:=e.2.2;rw[bJ.o]at bS;have ef:=kH bS;subst ef;have er:=cJ.one bg.o;subst er;exact⟨cG,cT⟩
 by_cases aI:r.eC=0;case neg=>
  have db:(r.eC != 0)=true:=by simpa using aI
  have HN:Ae (¬FC p (q:Int) l):= λe=>aI (br.o e).1
  go_wp2_with fail;go_ret;exact⟨⟨7,rfl,.inl ⟨HN.o,rfl⟩⟩,Q.o.e8⟩
 rw[aI]at y0;cases b
 case false=>
  have HN:Ae (¬FC p (q:Int) l):= λe=>(by have:=bp.o.2 (br.o e).2;cases this)
  go_wp2_with fail;go_ret;exact⟨⟨7,rfl,.inl ⟨HN.o,rfl⟩⟩,Q.o.e8⟩
 have bF:l∈r.gE:=bp.o.1 rfl;have HI:=Av (bg.o.gW aI);have HO:Ae (JY p (q:Int) l f r):=⟨bq.o,oM,bJ.o,bg.o,aI,bF⟩;obtain⟨⟨A,bx,cR⟩,bQ,d8,d9⟩:=HI.o.loop l bF;have bI:=Av bQ;obtain⟨hb,bi⟩:∃m,r.a8[A]?=K m:=⟨_,an cR⟩;obtain⟨ha,he,bu,cu,d7,dh⟩:=HI.o.gK A hb bi;have ae:=Av (d5 ((by rw[bx,kA];exact bi):r.a8[l.head.toNat]?=K hb) (d5 bu bx));obtain⟨gb,ob,na,nc,cA,j0,j1,j2,ao⟩:=ID Q.o.rf.a8 bi;subst cA;rw[bu]at j0;have dm:(A:Int)<(r.a8:Int):=oM;obtain⟨W,o1,N⟩:=Cl Q.o.lb;rw[bx]at W;obtain⟨p0,p1,p2,p3⟩:=BP Q.o.pb;clear ao bi bu cu bF bQ bp br aI;go_wp2_with fail;refine(Lv ⟨Z X p.bO r3,Z T p.ej V,sO gk ok p.bW f3,Z t1 p.eD t3⟩ p (q:Int) (ha:Int) wr H.o.1 (H.o.2.2.2.1.a7 Q.o.e8 lR)).mono ?_;rintro e u3 ⟨⟨n,rfl,hn⟩,bb⟩;have E5:=Av (Q.o.a7 bb);clear bb Q y0 y1 y2 y3 y4 y5 W o1 N p0 p1 p2 p3 j0 j1 j2;clear wr;rcases hn with⟨rfl,bY⟩|⟨kc,c,rfl,aJ,bR⟩
 . (have HN:Ae (Ce p.eD (q:Int) hb.gH=M):=by rw[ae.o.2.1];exact bY);clear bY;go_wp2_with fail;go_ret;exact⟨⟨1,rfl,.inr ⟨f,r,HO.o,AP.c1 ae.o.1 HN.o⟩⟩,E5.o.e8⟩
 have du:kc<p.eD.length:=(i6.1 aJ).1;have dt:(kc:Int)<(p.eD:Int):=oM;rcases H.o.2.2.2.1.eD.2 with⟨q0,_⟩|⟨gt,ot,ct,D,aZ⟩
 . omega
 simp only[i8,lB]at D;obtain⟨rfl,rfl⟩:=D;have i0:=Rd.elem MT.dr aZ kc c aJ 0 _ rfl;have i1:=Rd.elem MT.dr aZ kc c aJ 1 _ rfl;have i2:=Rd.elem MT.dr aZ kc c aJ 2 _ rfl;have i3:=Rd.elem MT.dr aZ kc c aJ 3 _ rfl;rw[<-E5.o.e8.cell (hC i0),kJ]at i0;rw[<-E5.o.e8.cell (hC i1)]at i1;rw[<-E5.o.e8.cell (hC i2)]at i2;rw[<-E5.o.e8.cell (hC i3)]at i3;have cg:Ae (Ce p.eD (q:Int) hb.gH=K c):=by rw[ae.o.2.1];exact bR
 clear aZ bR aJ;obtain⟨p0,p1,p2,p3⟩:=BP E5.o.pb;obtain⟨x,hx⟩:∃x,f.eC[ha]?=K x:=⟨_,an oM⟩;have HG:Ae (QP p (q:Int) f.eC r.a8 l hb c x):=⟨ae.o.1,cg.o,by rw[ae.o.2.1,kA];exact hx⟩;rcases HF.o.2.2.1.2.2.2 with⟨q0,_⟩|⟨gc,oc,cc,D,aX⟩
 . exact absurd q0 (by have:=HF.o.2.2.2;omega)
 simp only[i8,lB]at D;obtain⟨rfl,rfl⟩:=D;have HC:Ae (∀(u:Y),Ah w w u->∀(k:Nat) (x:MI),f.eC[k]?=K x->u.cell? ⟨gc,oc+k*4,M⟩=K (iZ x.op)/\u.cell? ⟨gc,oc+k*4+1,M⟩=K (iZ x.a)/\u.cell? ⟨gc,oc+k*4+2,M⟩=K (iZ x.b)/\u.cell? ⟨gc,oc+k*4+3,M⟩=K (iZ x.c)):= λu hu k x hx=>by have i0:=Rd.elem MI.dr aX k x hx 0 _ rfl;have i1:=Rd.elem MI.dr aX k x hx 1 _ rfl;have i2:=Rd.elem MI.dr aX k x hx 2 _ rfl;have i3:=Rd.elem MI.dr aX k x hx 3 _ rfl;rw[<-hu.cell (hC i0),kJ]at i0;rw[<-hu.cell (hC i1)]at i1;rw[<-hu.cell (hC i2)]at i2;rw[<-hu.cell (hC i3)]at i3;exact⟨i0,i1,i2,i3⟩
 clear aX;have dx:f.eC.length<=1024:=HI.o.len;go_upto_region 17 with fail
 refine Ax (λu=>Ae (QO w u ⟨Z X p.bO r3,Z T p.ej V,sO gk ok p.bW f3,sO gt ot p.eD t3⟩ ⟨Z R l.back S,Z G l.a8 I⟩ l FB r (sO gb ob r.a8 c1) (Z v2 r.gJ c2) (Z v3 r.gQ c3) (Z v4 r.gE c4)/\AC u u3 #[iZ c.func,iZ c.head,iZ c.gI,Ag .u32 c.init] 88)) ⟨E5.o.a7 (Aq _ _),AC.new _ _ _⟩ ?_
 rintro U6 E6;generalize u3.heap.size=CB at E6⊢;clear E5 p0 p1 p2 p3 i0 i1 i2 i3;clear u3;have d6:(ha:Int)<(f.eC:Int):=oM;obtain⟨w0,w1,w2,w3⟩:=HC.o U6 E6.o.1.e8 ha x hx;obtain⟨aR,aS,aT,aU⟩:=Cu E6.o.2;by_cases L:x.op=27;case neg=>go_wp2_with fail;go_quiet (fail);go_wp2;go_ret;exact⟨⟨2,rfl,.inr ⟨f,r,HO.o,AP.c2 HG.o λe=>L e.1⟩⟩,Ar E6.o.1.e8 lR (Az _ _ _)⟩
 have bK:=Av L;rw[L]at w0;clear L;by_cases g2:x.a=c.gI;case neg=>go_wp2_with fail;go_quiet (fail);go_wp2;go_ret;exact⟨⟨2,rfl,.inr ⟨f,r,HO.o,AP.c2 HG.o λe=>g2 e.2⟩⟩,Ar E6.o.1.e8 lR (Az _ _ _)⟩
 have aF:=Av (d5 bK.o g2);rw[g2]at w1;clear g2 bK;have HX:=Av hx;clear hx;go_wp2_with fail;go_quiet (fail);go_wp2_with fail;refine Ax (λu=>Ae (QO w u ⟨Z X p.bO r3,Z T p.ej V,sO gk ok p.bW f3,sO gt ot p.eD t3⟩ ⟨Z R l.back S,Z G l.a8 I⟩ l FB r (sO gb ob r.a8 c1) (Z v2 r.gJ c2) (Z v3 r.gQ c3) (Z v4 r.gE c4)/\AC u CB #[iZ c.func,iZ c.head,iZ c.gI,Ag .u32 c.init] 88)) ⟨E6.o.1.a7 (Az _ _ _),E6.o.2.a7 (Az _ _ _)⟩ ?_
 clear w0 w1 w2 w3 aR aS aT aU E6;rintro U7 E7;go_loopw [14] (λi wr=>∃k:Nat,k<= ↑l.a8/\i=iZ k/\Ae (∀(j:Nat) (z:Int) (m:MB),j<k->l.a8[j]?=K z->r.a8[z.toNat]?=K m->∀a,m.gH<=a->a<=m.last->¬a=x.c)/\Ae (QO w wr ⟨Z X p.bO r3,Z T p.ej V,sO gk ok p.bW f3,sO gt ot p.eD t3⟩ ⟨Z R l.back S,Z G l.a8 I⟩ l FB r (sO gb ob r.a8 c1) (Z v2 r.gJ c2) (Z v3 r.gQ c3) (Z v4 r.gE c4)/\AC wr CB #[iZ c.func,iZ c.head,iZ c.gI,Ag .u32 c.init] 88)) (λi _=> ↑l.a8-(intOf i).toNat)
 case atStart=>exact⟨0,oM,rfl, λj z m hj=>absurd hj oM,E7⟩
 case round=>
 clear E7;obtain⟨k,hk,rfl,HT,B⟩:=hrel;by_cases aj:k< ↑l.a8
 case pos=>
  obtain⟨z,hz⟩:∃z,l.a8[k]?=K z:=⟨_,an aj⟩;obtain⟨bn,ez,bB⟩:=bI.o z (i7 hz);obtain⟨m,C⟩:∃m,r.a8[bn]?=K m:=⟨_,an bB⟩;obtain⟨ma,me,au,aw,cW,cX⟩:=HI.o.gK bn m C;obtain⟨bP,ce,xa,xc,ev,x0,x1,x2,ao⟩:=ID B.o.1.rf.a8 C;simp only[kI,mE,mV]at ev;obtain⟨rfl,rfl⟩:=ev;rw[au]at x0;rw[aw]at x1;rcases H.o.2.2.2.2.1.2.2 with⟨q0,_⟩|⟨gd,od,cd,D,aY⟩
  . simp only[]at q0;omega
  simp only[i8,lB]at D;have ed:=D.1;clear D;have z0:=Rd.elem AA aY k z hz 0 _ rfl;rw[lN,kJ,<-B.o.1.e8.cell (hC z0),ez]at z0;have F:=Av (d5 hz (d5 ez (d5 C (d5 au aw))));clear aY hz ez C au aw ao;have cH:(bn:Int)<(r.a8:Int):=oM;obtain⟨W,o1,N⟩:=Cl B.o.1.lb;simp only[ed]at N;obtain⟨y0,y1,y2,y3,y4,y5⟩:=G4 B.o.1.fb;clear y0 y1 y3 y4 y5 W o1;have s1:¬FB=wr.heap.size:=mA (hC y2);have s2:FB<wr.heap.size:=hC y2;have s3:¬(w:Nat)+1=wr.heap.size:=mA (hC N);have s4:(w:Nat)+1<wr.heap.size:=hC N;have s5:¬gb=wr.heap.size:=mA (hC x0);have s6:gb<wr.heap.size:=hC x0;have s7:¬gd=wr.heap.size:=mA (hC z0);have s8:gd<wr.heap.size:=hC z0;go_upto_region 22 with fail
  go_region;refine AX (λu=>Ae ((QO w u ⟨Z X p.bO r3,Z T p.ej V,sO gk ok p.bW f3,sO gt ot p.eD t3⟩ ⟨Z R l.back S,Z G l.a8 I⟩ l FB r (sO gb ob r.a8 c1) (Z v2 r.gJ c2) (Z v3 r.gQ c3) (Z v4 r.gE c4)/\AC u CB #[iZ c.func,iZ c.head,iZ c.gI,Ag .u32 c.init] 88)/\AC u wr #[iZ (ma:Int),iZ (me:Int),Z xa m.next xc] 126)) ⟨⟨(B.o.1.a7 (Aq _ _)).a7 (At _),(B.o.2.a7 (Aq _ _)).a7 (At _)⟩,(AC.new wr _ _).a7 (At _)⟩ ?_
  rintro U9 E;generalize wr.heap.size=XB at E⊢;clear s1 s2 s3 s4 s5 s6 s7 s8 x0 x1 x2 z0 y2 N B ed;obtain⟨w0,w1,w2,w3⟩:=HC.o U9 E.o.1.1.e8 ha x HX.o;obtain⟨x0,x1,x2⟩:=Cl E.o.2;have am:Ae (¬(m.gH<=x.c/\x.c<=m.last)->∀(j:Nat) (z:Int) (m:MB),j<k+1->l.a8[j]?=K z->r.a8[z.toNat]?=K m->∀a,m.gH<=a->a<=m.last->¬a=x.c):= λb7 j z' m' hj aE ah a aH aW=>by
   by_cases e:j=k
   . subst e;rw[F.o.1]at aE;have ez:=kH aE;subst ez;rw[F.o.2.1,kA,F.o.2.2.1]at ah;have em:=kH ah;subst em;intro e;subst e;exact b7 ⟨aH,aW⟩
   exact HT.o j z' m' oM aE ah a aH aW
  by_cases s1:(ma:Int)<=x.c;case neg=>
   (have dA:decide ((ma:Int)<=x.c)=false:=by simpa using s1);have HS:Ae (¬(m.gH<=x.c/\x.c<=m.last)):= λe=>s1 (by have:=e.1;rw[F.o.2.2.2.1]at this;exact this)
   go_wp2_with fail;go_quiet (fail);go_wp2;go_roundw;(case rel=>exact⟨k+1,oM,by go_num,am.o HS.o,E.o.1.1.a7 (Az _ _ _),E.o.1.2.a7 (Az _ _ _)⟩);exact oI
  by_cases s2:x.c<=(me:Int);case neg=>
   have HS:Ae (¬(m.gH<=x.c/\x.c<=m.last)):= λe=>s2 (by have:=e.2;rw[F.o.2.2.2.2]at this;exact this)
   go_wp2_with fail;go_quiet (fail);go_wp2;go_roundw;(case rel=>exact⟨k+1,oM,by go_num,am.o HS.o,E.o.1.1.a7 (Az _ _ _),E.o.1.2.a7 (Az _ _ _)⟩);exact oI
  have HS:=Av (Wx F.o.1 F.o.2.1 F.o.2.2.1 (by rw[F.o.2.2.2.1];exact s1) (by rw[F.o.2.2.2.2];exact s2));go_wp2_with fail;go_quiet (fail);go_wp2;go_ret;exact⟨⟨3,rfl,.inr ⟨f,r,HO.o,AP.c3 HG.o aF.o HS.o⟩⟩,Ar E.o.1.1.e8 lR (Az _ _ _)⟩
 have aA:k=l.a8.length:=oM;subst aA;have H3:Ae (¬DB r.a8 l.a8 x.c):= λe=>Nf (P:= λa=>a=x.c) (λj z m hz C=>HT.o j z m (i6.1 hz).1 hz C) ⟨x.c,e,rfl⟩
 clear HT aj hk;have E7:=B;clear B;obtain⟨W,o1,N⟩:=Cl E7.o.1.lb;go_wp2_with fail;go_loopw [16] (λi wr=>∃k:Nat,k<= ↑l.a8/\i=iZ k/\Ae (∀(j:Nat) (z:Int) (m:MB),j<k->l.a8[j]?=K z->r.a8[z.toNat]?=K m->∀a,m.gH<=a->a<=m.last->¬(a≠hb.gH/\JA f.eC c.gI a))/\Ae (QO w wr ⟨Z X p.bO r3,Z T p.ej V,sO gk ok p.bW f3,sO gt ot p.eD t3⟩ ⟨Z R l.back S,Z G l.a8 I⟩ l FB r (sO gb ob r.a8 c1) (Z v2 r.gJ c2) (Z v3 r.gQ c3) (Z v4 r.gE c4)/\AC wr CB #[iZ c.func,iZ c.head,iZ c.gI,Ag .u32 c.init] 88)) (λi _=> ↑l.a8-(intOf i).toNat)
 case atStart=>exact⟨0,oM,rfl, λj z m hj=>absurd hj oM,E7⟩
 case round=>
 clear E7 W o1 N;obtain⟨k,hk,rfl,HT,B⟩:=hrel;by_cases aj:k< ↑l.a8
 case pos=>
  obtain⟨z,hz⟩:∃z,l.a8[k]?=K z:=⟨_,an aj⟩;obtain⟨bn,ez,bB⟩:=bI.o z (i7 hz);obtain⟨m,C⟩:∃m,r.a8[bn]?=K m:=⟨_,an bB⟩;obtain⟨ma,me,au,aw,cW,cX⟩:=HI.o.gK bn m C;obtain⟨bP,ce,xa,xc,ev,x0,x1,x2,ao⟩:=ID B.o.1.rf.a8 C;simp only[kI,mE,mV]at ev;obtain⟨rfl,rfl⟩:=ev;rw[au]at x0;rw[aw]at x1;rcases H.o.2.2.2.2.1.2.2 with⟨q0,_⟩|⟨gd,od,cd,D,aY⟩
  . simp only[]at q0;omega
  simp only[i8,lB]at D;have ed:=D.1;clear D;have z0:=Rd.elem AA aY k z hz 0 _ rfl;rw[lN,kJ,<-B.o.1.e8.cell (hC z0),ez]at z0;have F:=Av (d5 hz (d5 ez (d5 C (d5 au aw))));clear aY hz ez C au aw ao;have cH:(bn:Int)<(r.a8:Int):=oM;obtain⟨W,o1,N⟩:=Cl B.o.1.lb;simp only[ed]at N;obtain⟨y0,y1,y2,y3,y4,y5⟩:=G4 B.o.1.fb;clear y0 y1 y3 y4 y5 W o1;have s1:¬FB=wr.heap.size:=mA (hC y2);have s2:FB<wr.heap.size:=hC y2;have s3:¬(w:Nat)+1=wr.heap.size:=mA (hC N);have s4:(w:Nat)+1<wr.heap.size:=hC N;have s5:¬gb=wr.heap.size:=mA (hC x0);have s6:gb<wr.heap.size:=hC x0;have s7:¬gd=wr.heap.size:=mA (hC z0);have s8:gd<wr.heap.size:=hC z0;go_upto_region 28 with fail
  go_region;refine AX (λu=>Ae ((QO w u ⟨Z X p.bO r3,Z T p.ej V,sO gk ok p.bW f3,sO gt ot p.eD t3⟩ ⟨Z R l.back S,Z G l.a8 I⟩ l FB r (sO gb ob r.a8 c1) (Z v2 r.gJ c2) (Z v3 r.gQ c3) (Z v4 r.gE c4)/\AC u CB #[iZ c.func,iZ c.head,iZ c.gI,Ag .u32 c.init] 88)/\AC u wr #[iZ (ma:Int),iZ (me:Int),Z xa m.next xc] 126)) ⟨⟨(B.o.1.a7 (Aq _ _)).a7 (At _),(B.o.2.a7 (Aq _ _)).a7 (At _)⟩,(AC.new wr _ _).a7 (At _)⟩ ?_
  rintro U9 E;generalize wr.heap.size=XB at E⊢;clear s1 s2 s3 s4 s5 s6 s7 s8 x0 x1 x2 z0 y2 N B ed;obtain⟨x0,x1,x2⟩:=Cl E.o.2;go_wp2_with fail;go_loopw [18] (λi wr=>∃d:Nat,ma<=d/\d<=me+1/\i=iZ d/\Ae (∀a:Int,(ma:Int)<=a->a<(d:Int)->¬(a≠hb.gH/\JA f.eC c.gI a))/\Ae ((QO w wr ⟨Z X p.bO r3,Z T p.ej V,sO gk ok p.bW f3,sO gt ot p.eD t3⟩ ⟨Z R l.back S,Z G l.a8 I⟩ l FB r (sO gb ob r.a8 c1) (Z v2 r.gJ c2) (Z v3 r.gQ c3) (Z v4 r.gE c4)/\AC wr CB #[iZ c.func,iZ c.head,iZ c.gI,Ag .u32 c.init] 88)/\AC wr XB #[iZ (ma:Int),iZ (me:Int),Z xa m.next xc] 126)) (λi _=>me+1-(intOf i).toNat)
  case atStart=>exact⟨ma,oM,oM,rfl, λa h1 h2=>absurd h2 oM,E⟩
  case round=>
  clear E x0 x1 x2;obtain⟨d,dd,de,rfl,HD,E⟩:=hrel;obtain⟨x0,x1,x2⟩:=Cl E.o.2;by_cases dv:d<=me;case pos=>
   obtain⟨⟨yo,ya,yb,yc⟩,hy⟩:∃y,f.eC[d]?=K y:=⟨_,an oM⟩;obtain⟨w0,w1,w2,w3⟩:=HC.o wr E.o.1.1.e8 d _ hy;simp only[]at w0 w1 w2 w3;have HY:=Av hy;clear hy;have cU:(d:Int)<=(me:Int):=oM;have df:(d:Int)<(f.eC:Int):=oM;have s1:¬gc=wr.heap.size:=mA (hC w0);have s2:gc<wr.heap.size:=hC w0;(go_upto_region 33 with fail);refine Ax (λu=>Ae (((QO w u ⟨Z X p.bO r3,Z T p.ej V,sO gk ok p.bW f3,sO gt ot p.eD t3⟩ ⟨Z R l.back S,Z G l.a8 I⟩ l FB r (sO gb ob r.a8 c1) (Z v2 r.gJ c2) (Z v3 r.gQ c3) (Z v4 r.gE c4)/\AC u CB #[iZ c.func,iZ c.head,iZ c.gI,Ag .u32 c.init] 88)/\AC u XB #[iZ (ma:Int),iZ (me:Int),Z xa m.next xc] 126)/\AC u wr #[iZ yo,iZ ya,iZ yb,iZ yc] 72)) ⟨⟨⟨E.o.1.1.a7 (Aq _ _),E.o.1.2.a7 (Aq _ _)⟩,E.o.2.a7 (Aq _ _)⟩,AC.new _ _ _⟩ ?_
   rintro UA EA;generalize wr.heap.size=YB at EA⊢;clear s1 s2 w0 w1 w2 w3 E x0 x1 x2;obtain⟨w0,w1,w2,w3⟩:=Cu EA.o.2;obtain⟨aR,aS,aT,aU⟩:=Cu EA.o.1.1.2;have bf:Ae (¬(((d:Int)≠hb.gH)/\JA f.eC c.gI (d:Int))->∀a:Int,(ma:Int)<=a->a<((d+1:Nat):Int)->¬(a≠hb.gH/\JA f.eC c.gI a)):= λb7 a h1 h2=>by
    by_cases e:a=(d:Int)
    . subst e;exact b7
    exact HD.o a h1 oM
   have HW:Ae (JA f.eC c.gI (d:Int)↔(yo=3\/yo=27)/\ya=c.gI):=by
    constructor
    . rintro⟨y,hy,h1,h2⟩;rw[kA,HY.o]at hy;have ey:=kH hy;subst ey;exact⟨h1,h2⟩
    rintro⟨h1,h2⟩;exact⟨_,by rw[kA];exact HY.o,h1,h2⟩
   by_cases g0:d=ha;case pos=>
    have bj:(d:Int)=(ha:Int):=oM;have aG:Ae (¬(((d:Int)≠hb.gH)/\JA f.eC c.gI (d:Int))):= λe=>e.1 (by rw[ae.o.2.1];exact bj)
    subst g0;clear bj;go_wp2;go_roundw;(case rel=>exact⟨d+1,oM,oM,by go_num,bf.o aG.o,EA.o.1⟩);exact oI
   have bj:¬(d:Int)=(ha:Int):=oM;(have cj:Ae ((d:Int)≠hb.gH):=by show(d:Int)≠hb.gH;rw[ae.o.2.1];exact bj);by_cases L:yo=3\/yo=27
   case neg=>
    (have g2:¬yo=3:= λe=>L (.inl e));(have g3:¬yo=27:= λe=>L (.inr e));have aG:Ae (¬(((d:Int)≠hb.gH)/\JA f.eC c.gI (d:Int))):= λe=>L (HW.o.1 e.2).1
    clear L;go_wp2;go_roundw;(case rel=>exact⟨d+1,oM,oM,by go_num,bf.o aG.o,EA.o.1⟩);exact oI
   by_cases g4:ya=c.gI;case neg=>
    (have cZ:(ya==c.gI)=false:=by simp[g4]);have aG:Ae (¬(((d:Int)≠hb.gH)/\JA f.eC c.gI (d:Int))):= λe=>g4 (HW.o.1 e.2).2
    rcases L with L|L
    . rw[L]at w0;go_wp2;go_roundw;(case rel=>exact⟨d+1,oM,oM,by go_num,bf.o aG.o,EA.o.1⟩);exact oI
    rw[L]at w0;go_wp2;go_roundw;(case rel=>exact⟨d+1,oM,oM,by go_num,bf.o aG.o,EA.o.1⟩);exact oI
   have H4:Ae (∃a,DB r.a8 l.a8 a/\a≠hb.gH/\JA f.eC c.gI a):=⟨(d:Int),Wx F.o.1 F.o.2.1 F.o.2.2.1 (by rw[F.o.2.2.2.1];omega) (by rw[F.o.2.2.2.2];omega),cj.o,HW.o.2 ⟨L,g4⟩⟩
   rw[g4]at w1;rcases L with L|L
   . rw[L]at w0;go_wp2;go_ret;exact⟨⟨4,rfl,.inr ⟨f,r,HO.o,AP.c4 HG.o aF.o H3.o H4.o⟩⟩,EA.o.1.1.1.e8⟩
   rw[L]at w0;go_wp2;go_ret;exact⟨⟨4,rfl,.inr ⟨f,r,HO.o,AP.c4 HG.o aF.o H3.o H4.o⟩⟩,EA.o.1.1.1.e8⟩
  have dg:d=me+1:=oM;have cU:¬(d:Int)<=(me:Int):=oM;have am:Ae (∀(j:Nat) (z:Int) (m:MB),j<k+1->l.a8[j]?=K z->r.a8[z.toNat]?=K m->∀a,m.gH<=a->a<=m.last->¬(a≠hb.gH/\JA f.eC c.gI a)):= λj z' m' hj aE ah a aH aW=>by
   by_cases e:j=k
   . subst e;rw[F.o.1]at aE;have ez:=kH aE;subst ez;rw[F.o.2.1,kA,F.o.2.2.1]at ah;have em:=kH ah;subst em;rw[F.o.2.2.2.1]at aH;rw[F.o.2.2.2.2]at aW;exact HD.o a aH oM
   exact HT.o j z' m' oM aE ah a aH aW
  go_wp2;go_roundw;case rel=>exact⟨k+1,oM,by go_num,am.o,E.o.1⟩
  exact oI
 have aA:k=l.a8.length:=oM;subst aA;have H4:=Av (Nf (P:= λa=>a≠hb.gH/\JA f.eC c.gI a) (λj z m hz C=>HT.o j z m (i6.1 hz).1 hz C))
 clear HT aj hk;obtain⟨W,o1,N⟩:=Cl B.o.1.lb;rw[ae.o.2.2]at W;by_cases cM:A=0;case pos=>subst cM;have H5:=Av ae.o.2.2;go_wp2;go_ret;exact⟨⟨5,rfl,.inr ⟨f,r,HO.o,AP.c5 HG.o aF.o H3.o H4.o (.inl H5.o)⟩⟩,B.o.1.e8⟩
 have cQ:¬(A:Int)=0:=oM;have dw:r.a8.length<=1024:=HI.o.nb;have E7:=B;clear B;go_wp2_with fail;clear W o1 N;go_loopw [20] (λi wr=>∃k:Nat,k<= ↑r.a8/\i=iZ k/\Ae (∀(j:Nat) (m:MB),j<k->r.a8[j]?=K m->¬(l.head∈m.next/\¬((j:Int)∈l.a8)/\¬Bl p.ej f.eC m c))/\Ae (QO w wr ⟨Z X p.bO r3,Z T p.ej V,sO gk ok p.bW f3,sO gt ot p.eD t3⟩ ⟨Z R l.back S,Z G l.a8 I⟩ l FB r (sO gb ob r.a8 c1) (Z v2 r.gJ c2) (Z v3 r.gQ c3) (Z v4 r.gE c4)/\AC wr CB #[iZ c.func,iZ c.head,iZ c.gI,Ag .u32 c.init] 88)) (λi _=> ↑r.a8-(intOf i).toNat)
 case atStart=>exact⟨0,oM,rfl, λj m hj=>absurd hj oM,E7⟩
 case round=>
 clear E7;obtain⟨k,hk,rfl,HT,B⟩:=hrel;obtain⟨y0,y1,y2,y3,y4,y5⟩:=G4 B.o.1.fb;by_cases aj:k< ↑r.a8
 case pos=>
  obtain⟨m,C⟩:∃m,r.a8[k]?=K m:=⟨_,an aj⟩;obtain⟨bP,ce,xa,xc,ev,x0,x1,x2,ao⟩:=ID B.o.1.rf.a8 C;simp only[kI,mE,mV]at ev;obtain⟨rfl,rfl⟩:=ev;have HM:=Av (d5 C (d5 ao ((H.o.2.2.2.2.1.a7 B.o.1.e8 lR).2)));have aq:=Av (d5 ((by have:=HI.o.two m (i7 C);omega):m.next.length<=1048576) H.o.2.2.2.2.2.2);have am:Ae (¬(l.head∈m.next/\¬((k:Int)∈l.a8)/\¬Bl p.ej f.eC m c)->∀(j:Nat) (m:MB),j<k+1->r.a8[j]?=K m->¬(l.head∈m.next/\¬((j:Int)∈l.a8)/\¬Bl p.ej f.eC m c)):= λb7 j m' hj ah=>by
   by_cases e:j=k
   . subst e;rw[HM.o.1]at ah;have em:=kH ah;subst em;exact b7
   exact HT.o j m' oM ah
  clear C ao;obtain⟨W,o1,N⟩:=Cl B.o.1.lb;rw[ae.o.2.2]at W;obtain⟨p0,p1,p2,p3⟩:=BP B.o.1.pb;obtain⟨aR,aS,aT,aU⟩:=Cu B.o.2;have dp:(k:Int)<(r.a8:Int):=oM;go_upto_region 40 with fail
  have inst:=AB.some wr;have Y2:= λs:AB wr=>AB.cell y2 s
  have X0:= λs:AB wr=>AB.cell x0 s
  have X1:= λs:AB wr=>AB.cell x1 s
  have X2:= λs:AB wr=>AB.cell x2 s
  have O0:= λs:AB wr=>AB.cell W s
  have O2:= λs:AB wr=>AB.cell N s
  have P0:= λs:AB wr=>AB.cell p0 s
  have P1:= λs:AB wr=>AB.cell p1 s
  have P2:= λs:AB wr=>AB.cell p2 s
  have P3:= λs:AB wr=>AB.cell p3 s
  have C0:= λs:AB wr=>AB.cell aR s
  have C1:= λs:AB wr=>AB.cell aS s
  have C2:= λs:AB wr=>AB.cell aT s
  have C3:= λs:AB wr=>AB.cell aU s
  clear y0 y1 y2 y3 y4 y5 x0 x1 x2 W o1 N p0 p1 p2 p3 aR aS aT aU;by_cases D:l.head∈m.next;case neg=>
   have HQ:Ae (¬(A:Int)∈m.next/\¬(l.head∈m.next/\¬((k:Int)∈l.a8)/\¬Bl p.ej f.eC m c)):=⟨by rw[<-ae.o.2.2];exact D, λe=>D e.1⟩
   clear D;refine AL kR kR ?_;(repeat(go_big_quiet_step (fail)));go_big_quiet_step ((go_at_call 68;rename_i s;exact(Ep (Z xa m.next xc) m.next (A:Int) s.u aq.o.1 (Rd.a7 HM.o.2.1 s.h lR)).mono λe O A=>⟨A.1.false HQ.o.1,⟨s,A.2⟩⟩));(repeat(go_big_quiet_step (fail)));refine wpQuiet_nil ?_;rintro O ⟨s,rfl⟩;go_wp2;go_roundw;(case rel=>exact⟨k+1,oM,by go_num,am.o HQ.o.2,B.o.1.a7 s.h,B.o.2.a7 s.h⟩);exact oI
  have bt:Ae ((A:Int)∈m.next):=by rw[<-ae.o.2.2];exact D
  by_cases q2:(k:Int)∈l.a8;case pos=>
   have aP:=Av (d5 q2 ((λe=>e.2.1 q2):¬(l.head∈m.next/\¬((k:Int)∈l.a8)/\¬Bl p.ej f.eC m c)))
   clear D q2;refine AL kR kR ?_;(repeat(go_big_quiet_step (fail)));go_big_quiet_step ((go_at_call 68;rename_i s;exact(Ep (Z xa m.next xc) m.next (A:Int) s.u aq.o.1 (Rd.a7 HM.o.2.1 s.h lR)).mono λe O A=>⟨A.1.true bt.o,⟨s,A.2⟩⟩));(repeat(go_big_quiet_step (fail)));go_big_quiet_step ((go_at_call 68;rename_i s;exact(Ep (Z G l.a8 I) l.a8 (k:Int) s.u aq.o.2 (Rd.a7 HM.o.2.2 s.h lR)).mono λe O A=>⟨A.1.true aP.o.1,⟨s,A.2⟩⟩));(repeat(go_big_quiet_step (fail)));refine wpQuiet_nil ?_;rintro O ⟨s,rfl⟩;go_wp2;go_roundw;(case rel=>exact⟨k+1,oM,by go_num,am.o aP.o.2,B.o.1.a7 s.h,B.o.2.a7 s.h⟩);exact oI
  have aP:=Av q2;have HK:Ae ((∀y∈f.eC,y.op=1->0<=y.a/\y.a.toNat< ↑p.ej)/\(∃a e:Nat,m.gH=(a:Int)/\m.last=(e:Int)/\a<=e/\e< ↑f.eC)):=⟨λy hy cY=>by obtain⟨j,hj⟩:=lH hy;obtain⟨qq,zz,e1,e2⟩:=(bq.o.iB HF.o.1 hj).const cY;rw[e1,kA];exact⟨oM,(i6.1 e2).1⟩,HI.o.gK k m HM.o.1⟩
  by_cases q3:Bl p.ej f.eC m c;case pos=>
   have aQ:=Av (d5 q3 ((λe=>e.2.2 q3):¬(l.head∈m.next/\¬((k:Int)∈l.a8)/\¬Bl p.ej f.eC m c)))
   clear D q2 q3;refine AL kR kR ?_;(repeat(go_big_quiet_step (fail)));go_big_quiet_step ((go_at_call 68;rename_i s;exact(Ep (Z xa m.next xc) m.next (A:Int) s.u aq.o.1 (Rd.a7 HM.o.2.1 s.h lR)).mono λe O A=>⟨A.1.true bt.o,⟨s,A.2⟩⟩));(repeat(go_big_quiet_step (fail)));go_big_quiet_step ((go_at_call 68;rename_i s;exact(Ep (Z G l.a8 I) l.a8 (k:Int) s.u aq.o.2 (Rd.a7 HM.o.2.2 s.h lR)).mono λe O A=>⟨A.1.false aP.o,⟨s,A.2⟩⟩));(repeat(go_big_quiet_step (fail)));go_big_quiet_step ((go_at_call 69;rename_i s;exact(Lw ⟨Z X p.bO r3,Z T p.ej V,sO gk ok p.bW f3,sO gt ot p.eD t3⟩ p (sO gc oc f.eC g9) (Z xa m.next xc) f.eC m c s.u H.o.1 (H.o.2.2.2.1.a7 (Ar B.o.1.e8 lR s.h) lR) HF.o.2.1.2.2 (Rd.a7 HF.o.2.2.1.2.2 (Ar B.o.1.e8 lR s.h) lR) HK.o.1 HK.o.2).mono λe O A=>⟨A.1.true aQ.o.1,⟨⟨O,Ar s.h lR A.2⟩,rfl⟩⟩));(repeat(go_big_quiet_step (fail)));refine wpQuiet_nil ?_;rintro O ⟨s,rfl⟩;go_wp2;go_roundw;(case rel=>exact⟨k+1,oM,by go_num,am.o aQ.o.2,B.o.1.a7 s.h,B.o.2.a7 s.h⟩);exact oI
  have aQ:Ae (¬Bl p.ej f.eC m c/\(l.head=0\/JX p.ej f.eC r.a8 l c)):=⟨q3,.inr ⟨k,m,HM.o.1,D,q2,q3⟩⟩
  clear D q2 q3;refine AL kR kR ?_;repeat(go_big_quiet_step (fail))
  go_big_quiet_step ((go_at_call 68;rename_i s;exact(Ep (Z xa m.next xc) m.next (A:Int) s.u aq.o.1 (Rd.a7 HM.o.2.1 s.h lR)).mono λe O A=>⟨A.1.true bt.o,⟨s,A.2⟩⟩));repeat(go_big_quiet_step (fail))
  go_big_quiet_step ((go_at_call 68;rename_i s;exact(Ep (Z G l.a8 I) l.a8 (k:Int) s.u aq.o.2 (Rd.a7 HM.o.2.2 s.h lR)).mono λe O A=>⟨A.1.false aP.o,⟨s,A.2⟩⟩));repeat(go_big_quiet_step (fail))
  go_big_quiet_step ((go_at_call 69;rename_i s;exact(Lw ⟨Z X p.bO r3,Z T p.ej V,sO gk ok p.bW f3,sO gt ot p.eD t3⟩ p (sO gc oc f.eC g9) (Z xa m.next xc) f.eC m c s.u H.o.1 (H.o.2.2.2.1.a7 (Ar B.o.1.e8 lR s.h) lR) HF.o.2.1.2.2 (Rd.a7 HF.o.2.2.1.2.2 (Ar B.o.1.e8 lR s.h) lR) HK.o.1 HK.o.2).mono λe O A=>⟨A.1.false aQ.o.1,⟨⟨O,Ar s.h lR A.2⟩,rfl⟩⟩));repeat(go_big_quiet_step (fail))
  refine wpQuiet_nil ?_;rintro O ⟨s,rfl⟩;go_wp2;go_ret;exact⟨⟨5,rfl,.inr ⟨f,r,HO.o,AP.c5 HG.o aF.o H3.o H4.o aQ.o.2⟩⟩,Ar B.o.1.e8 lR s.h⟩
 have aA:k=r.a8.length:=oM;subst aA;have H5:Ae (¬(l.head=0\/JX p.ej f.eC r.a8 l c)):= λe=>by
  rcases e with e|⟨j,m,C,h1,h2,h3⟩
  . rw[ae.o.2.2]at e;exact cQ e
  exact HT.o j m (i6.1 C).1 C ⟨h1,h2,h3⟩
 clear HT;go_wp2;go_ret;exact⟨⟨0,rfl,.inr ⟨f,r,HO.o,AP.c0 HG.o aF.o H3.o H4.o H5.o⟩⟩,B.o.1.e8⟩
end Go.Proofs.YtmalfecapdmdbaaGreat
