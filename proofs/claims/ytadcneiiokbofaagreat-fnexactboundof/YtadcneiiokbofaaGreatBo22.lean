import Derived.Test.YtadcneiiokbofaaGreatBo19
namespace Go.Proofs.YtadcneiiokbofaaGreat
open Go.ChangeShapes Go.WideShapes Go.ChangeAt Go.RowKit Go.Proofs.Tryz
set_option linter.unusedVariables false
open Go.Value renaming slice → Z,int → Ag,agg → Am,bool → An
open Option renaming some → K,none → M
open Go renaming World → Y,Calls → Ai
open Go.RowKit renaming Hid → Ae,Below → Ah
open Go.Obj renaming cells → Ak
open Go.Ending renaming returned → Al
open Go.Proofs.Tryz renaming prog → Ap
open Go.World renaming alloc → Ac
set_option maxHeartbeats 8000000
set_option maxRecDepth 100000
theorem JL(v:VP)(p:MP)(fi:Int)(lv:VL)(l:ML)(w:Y)(hs:p.small)(hw:p.wf)(bY:Dv fi)(h:Dm w v p)(hl:l.small)(hr:MK w lv l):
 Ai Ap 45 #[Am #[v.r,v.k,v.f,v.t],iZ fi,Am #[iZ l.head,lv.b,lv.k]] w λe w'=>(∃n,e=Al (iZ n)/\Ot p fi l n)/\Ah w w w':=by
 obtain⟨X,r3,T,V,t1,t3,f1,f3,rfl⟩:=h.sl;obtain⟨R,S,e1⟩:=Rd.bW hr.1;obtain⟨G,I,e2⟩:=Rd.bW hr.2;obtain⟨lb,lk⟩:=lv;simp only[]at e1 e2;subst e1 e2;have H:=Av (d5 hs (d5 hw (d5 bY (d5 h (d5 hr hl)))));clear hs hw bY h hr hl;have E0:=Bu w #[Z X p.aC r3,Z T p.dk V,Z f1 p.aD f3,Z t1 p.e8 t3] #[iZ l.head,Z R l.back S,Z G l.a8 I] 37 92;go_enter func45,ntmps45;go_upto_region 1 with fail
 refine Ax (λu=>Ae (AA u w #[Z X p.aC r3,Z T p.dk V,Z f1 p.aD f3,Z t1 p.e8 t3] 37/\AA u ((w:Nat)+1) #[iZ l.head,Z R l.back S,Z G l.a8 I] 92/\Ah w w u)) E0 ?_
 rintro U0 E1;clear E0;obtain⟨p0,p1,p2,p3⟩:=A7 E1.o.1;go_wp2_with fail;refine(Du ⟨Z X p.aC r3,Z T p.dk V,Z f1 p.aD f3,Z t1 p.e8 t3⟩ p U0 H.o.1 H.o.2.1 (H.o.2.2.2.1.a7 E1.o.2.2 lR)).mono ?_;rintro e u1 ⟨⟨n,rfl,hn⟩,bb⟩;have E2:=Av (d5 (E1.o.1.a7 bb) (d5 (E1.o.2.1.a7 bb) (Ar E1.o.2.2 lR bb)));clear bb E1 p0 p1 p2 p3;clear U0;have p2:=E2.o.1.cell 2;simp only[lE,lC,lF]at p2;by_cases bZ:n=0;case neg=>
  have HN:Ae (¬FX p fi l):= λe=>bZ (hn.one e.1)
  clear hn;go_wp2_with fail;go_ret;exact⟨⟨7,rfl,.inl ⟨HN.o,rfl⟩⟩,E2.o.2.2⟩
 subst bZ;have bt:=Av hn;clear hn;by_cases cM:fi<0;case pos=>
  have HN:Ae (¬FX p fi l):= λe=>absurd e.2.1 oM
  have dm:decide (fi<0)=true:=by simpa using cM
  go_wp2_with fail;go_ret;exact⟨⟨7,rfl,.inl ⟨HN.o,rfl⟩⟩,E2.o.2.2⟩
 by_cases dp:(p.aD:Int)<=fi;case pos=>
  have HN:Ae (¬FX p fi l):= λe=>by obtain⟨f,r,hf,_⟩:=e.2.2;have:=(i8.1 hf).1;omega
  go_wp2_with fail;go_ret;exact⟨⟨7,rfl,.inl ⟨HN.o,rfl⟩⟩,E2.o.2.2⟩
 obtain⟨q,rfl⟩:=mA (show 0<=fi from oM);obtain⟨f,hf⟩:∃f,p.aD[q]?=K f:=⟨_,an oM⟩;obtain⟨gk,ok,ck,bQ,g,bJ,m0,m1,m2,m3⟩:=Hr H.o.2.2.2.1.aD hf;simp only[lB,mB]at bQ;obtain⟨rfl,rfl⟩:=bQ;obtain⟨L,g3,g4,g6,g7,g9,rfl⟩:=Ec bJ;have dB:(q:Int)<(p.aD:Int):=oM;have HF:=Av (d5 hf (d5 (H.o.1.func f (lA hf)) (d5 bJ (Nat.pos_of_ne_zero (bt.o.parts.2.2.1.2.2.1 q (i8.1 hf).1 f hf).jq))));have bL:Ae (p.aD[((q:Nat):Int).toNat]?=K f):=by show p.aD[((q:Nat):Int).toNat]?=K f;rw[lD];exact hf
 simp only[]at m0 m1 m2 m3;rw[<-E2.o.2.2.cell (g8 m3)]at m3;clear bJ hf m0 m1 m2;go_wp2_with fail;refine(Fj (Z g7 f.bO g9) f.bO u1 HF.o.2.1.2.2 (Rd.a7 HF.o.2.2.1.2.2 E2.o.2.2 lR)).mono ?_;rintro e u2 ⟨r,vb,vo,vi,vl,rfl,bG,bI,bb⟩;obtain⟨v1,c1,v2,c2,v3,c3,v4,c4,rfl,rfl,rfl,rfl⟩:=JH bI;have E3:Ae (Ry w (Ac u2 (Ak #[iZ r.bO,iZ r.at_,Z v1 r.a8 c1,Z v2 r.gY c2,Z v3 r.ig c3,Z v4 r.gX c4] 84)) ⟨Z X p.aC r3,Z T p.dk V,sO gk ok p.aD f3,Z t1 p.e8 t3⟩ ⟨Z R l.back S,Z G l.a8 I⟩ l u2 r (Z v1 r.a8 c1) (Z v2 r.gY c2) (Z v3 r.ig c3) (Z v4 r.gX c4)):=by have b2:=Aq u2 (Ak #[iZ r.bO,iZ r.at_,Z v1 r.a8 c1,Z v2 r.gY c2,Z v3 r.ig c3,Z v4 r.gX c4] 84);exact⟨(E2.o.1.a7 bb).a7 b2,(E2.o.2.1.a7 bb).a7 b2,AA.new _ _ _,bI.iE b2 lR,Ar (Ar E2.o.2.2 lR bb) lR b2⟩
 have bi:=Av bG;have dA:r.gX.length<=1024:=(GU bG).1;clear bG bI bb E2 p2 m3;clear u1;go_upto_region 5 with fail
 generalize u2.heap.size=FB at E3⊢;refine Ax (λu=>Ae (Ry w u ⟨Z X p.aC r3,Z T p.dk V,sO gk ok p.aD f3,Z t1 p.e8 t3⟩ ⟨Z R l.back S,Z G l.a8 I⟩ l FB r (Z v1 r.a8 c1) (Z v2 r.gY c2) (Z v3 r.ig c3) (Z v4 r.gX c4))) E3 ?_;rintro U Q;clear E3;clear u2;go_wp2_with fail;go_loopw [9,10] (λth i wr=>∃(b:Bool) (k:Nat),k<= ↑r.gX/\th=An b/\i=iZ k/\Ae (b=true↔∃j:Nat,j<k/\r.gX[j]?=K l)/\Ae (Ry w wr ⟨Z X p.aC r3,Z T p.dk V,sO gk ok p.aD f3,Z t1 p.e8 t3⟩ ⟨Z R l.back S,Z G l.a8 I⟩ l FB r (Z v1 r.a8 c1) (Z v2 r.gY c2) (Z v3 r.ig c3) (Z v4 r.gX c4))) (λ_ i _=> ↑r.gX-(intOf i).toNat)
 case atStart=>exact⟨false,0,oM,rfl,rfl,⟨λe=>(by cases e), λ⟨j,hj,_⟩=>absurd hj oM⟩,Q⟩
 case round=>
 clear Q;obtain⟨b,k,hk,rfl,rfl,HB,Q⟩:=hrel;obtain⟨y0,y1,y2,y3,y4,y5⟩:=Eg Q.o.fb;by_cases aj:k< ↑r.gX
 case pos=>
  obtain⟨m,C⟩:∃m,r.gX[k]?=K m:=⟨_,an aj⟩;obtain⟨gl,ol,a1,x1,a2,x2,cH,i0,i1,i2,cg⟩:=Ir Q.o.rf.gX C;have HM:=Av C;clear C;cases b
  case true=>(go_upto_region 9 with fail);have inst:=AC.some wr;refine AN kR kR ?_;(repeat(go_big_quiet_step (fail)));refine wpQuiet_nil ?_;rintro O ⟨s,rfl⟩;go_wp2;go_roundw;(case rel=>exact⟨true,k+1,oM,rfl,by go_num,⟨λ_=>by obtain⟨j,hj,e⟩:=HB.o.1 rfl;exact⟨j,oM,e⟩, λ_=>rfl⟩,Q.o.a7 s.h⟩);exact oI
  case false=>
   (go_upto_region 9 with fail);have inst:=AC.some wr;subst cH;obtain⟨W,o1,N⟩:=B9 Q.o.lb;(have Y5:= λs:AC wr=>AC.cell y5 s);(have I0:= λs:AC wr=>AC.cell i0 s);(have I1:= λs:AC wr=>AC.cell i1 s);(have I2:= λs:AC wr=>AC.cell i2 s);(have O0:= λs:AC wr=>AC.cell W s);(have O1:= λs:AC wr=>AC.cell o1 s);(have O2:= λs:AC wr=>AC.cell N s);have HL:=Av (d5 cg (d5 (H.o.2.2.2.2.1.a7 Q.o.ej lR) ((GU bi.o).2 m (lA HM.o))));clear cg y0 y1 y2 y3 y4 y5 i0 i1 i2 W o1 N;by_cases bq:m=l;(case pos=>have aM:=Av bq;clear bq;refine AN kR kR ?_;(repeat(go_big_quiet_step ((go_at_call 75;rename_i s;exact(Hw m l (Z a1 m.back x1) (Z a2 m.a8 x2) (Z R l.back S) (Z G l.a8 I) s.u HL.o.2.2 H.o.2.2.2.2.2 (MK.a7 (v:=⟨Z a1 m.back x1,Z a2 m.a8 x2⟩) HL.o.1 s.h lR) (MK.a7 (v:=⟨Z R l.back S,Z G l.a8 I⟩) HL.o.2.1 s.h lR)).mono λe O A=>⟨A.1.true aM.o,⟨⟨O,Ar s.h lR A.2⟩,rfl⟩⟩))));refine wpQuiet_nil ?_;rintro O ⟨s,rfl⟩;go_wp2;go_roundw;(case rel=>exact⟨true,k+1,oM,rfl,by go_num,⟨λ_=>⟨k,oM,by rw[HM.o,aM.o]⟩, λ_=>rfl⟩,Q.o.a7 s.h⟩);exact oI);case neg=>
    have aM:=Av bq;clear bq;refine AN kR kR ?_;(repeat(go_big_quiet_step ((go_at_call 75;rename_i s;exact(Hw m l (Z a1 m.back x1) (Z a2 m.a8 x2) (Z R l.back S) (Z G l.a8 I) s.u HL.o.2.2 H.o.2.2.2.2.2 (MK.a7 (v:=⟨Z a1 m.back x1,Z a2 m.a8 x2⟩) HL.o.1 s.h lR) (MK.a7 (v:=⟨Z R l.back S,Z G l.a8 I⟩) HL.o.2.1 s.h lR)).mono λe O A=>⟨A.1.false aM.o,⟨⟨O,Ar s.h lR A.2⟩,rfl⟩⟩))));refine wpQuiet_nil ?_;rintro O ⟨s,rfl⟩;go_wp2;go_roundw;case rel=>
     refine⟨false,k+1,oM,rfl,by go_num,⟨λe=>(by cases e), λ⟨j,hj,e⟩=> ?_⟩,Q.o.a7 s.h⟩;by_cases cE:j=k
     . subst cE;rw[HM.o]at e;exact absurd (lP e) aM.o
     exact HB.o.2 ⟨j,oM,e⟩
    case measure=>exact oI
 have aA:k=r.gX.length:=oM;subst aA;have br:Ae (b=true↔l∈r.gX):=by
  constructor
  . intro e;obtain⟨j,_,e⟩:=HB.o.1 e;exact lA e
  intro e;obtain⟨j,e⟩:=mJ e;exact HB.o.2 ⟨j,(i8.1 e).1,e⟩
 clear HB aj hk;have bu:Ae (FX p (q:Int) l->r.bO=0/\l∈r.gX):= λe=>by obtain⟨f',r',bV,cQ,cI,cW⟩:=e.2.2;rw[bL.o]at bV;have ef:=lP bV;subst ef;have er:=cQ.one bi.o;subst er;exact⟨cI,cW⟩
 by_cases aI:r.bO=0;case neg=>
  have de:(r.bO != 0)=true:=by simpa using aI
  have HN:Ae (¬FX p (q:Int) l):= λe=>aI (bu.o e).1
  go_wp2_with fail;go_ret;exact⟨⟨7,rfl,.inl ⟨HN.o,rfl⟩⟩,Q.o.ej⟩
 rw[aI]at y0;cases b
 case false=>
  have HN:Ae (¬FX p (q:Int) l):= λe=>(by have:=br.o.2 (bu.o e).2;cases this)
  go_wp2_with fail;go_ret;exact⟨⟨7,rfl,.inl ⟨HN.o,rfl⟩⟩,Q.o.ej⟩
 have bH:l∈r.gX:=br.o.1 rfl;have HI:=Av (bi.o.iq aI);have HO:Ae (Kq p (q:Int) l f r):=⟨bt.o,oM,bL.o,bi.o,aI,bH⟩;obtain⟨⟨A,bC,cU⟩,bS,db,dd⟩:=HI.o.loop l bH;have bK:=Av bS;obtain⟨hb,bj⟩:∃m,r.a8[A]?=K m:=⟨_,an cU⟩;obtain⟨ha,he,bB,cA,d9,dj⟩:=HI.o.ie A hb bj;have ae:=Av (d5 ((by rw[bC,lD];exact bj):r.a8[l.head.toNat]?=K hb) (d5 bB bC));obtain⟨gb,ob,na,nc,cG,j0,j1,j2,ao⟩:=Hk Q.o.rf.a8 bj;subst cG;rw[bB]at j0;have dq:(A:Int)<(r.a8:Int):=oM;obtain⟨W,o1,N⟩:=B9 Q.o.lb;rw[bC]at W;obtain⟨p0,p1,p2,p3⟩:=A7 Q.o.pb;clear ao bj bB cA bH bS br bu aI;go_wp2_with fail;refine(LY ⟨Z X p.aC r3,Z T p.dk V,sO gk ok p.aD f3,Z t1 p.e8 t3⟩ p (q:Int) (ha:Int) wr H.o.1 (H.o.2.2.2.1.a7 Q.o.ej lR)).mono ?_;rintro e u3 ⟨⟨n,rfl,hn⟩,bb⟩;have E5:=Av (Q.o.a7 bb);clear bb Q y0 y1 y2 y3 y4 y5 W o1 N p0 p1 p2 p3 j0 j1 j2;clear wr;rcases hn with⟨rfl,ce⟩|⟨kc,c,rfl,aJ,bT⟩
 . (have HN:Ae (Cj p.e8 (q:Int) hb.gZ=M):=by rw[ae.o.2.1];exact ce);clear ce;go_wp2_with fail;go_ret;exact⟨⟨1,rfl,.inr ⟨f,r,HO.o,AU.c1 ae.o.1 HN.o⟩⟩,E5.o.ej⟩
 have dw:kc<p.e8.length:=(i8.1 aJ).1;have du:(kc:Int)<(p.e8:Int):=oM;rcases H.o.2.2.2.1.e8.2 with⟨q0,_⟩|⟨gt,ot,ct,D,aZ⟩
 . omega
 simp only[lB,mB]at D;obtain⟨rfl,rfl⟩:=D;have i0:=Rd.elem MT.dr aZ kc c aJ 0 _ rfl;have i1:=Rd.elem MT.dr aZ kc c aJ 1 _ rfl;have i2:=Rd.elem MT.dr aZ kc c aJ 2 _ rfl;have i3:=Rd.elem MT.dr aZ kc c aJ 3 _ rfl;rw[<-E5.o.ej.cell (g8 i0),lJ]at i0;rw[<-E5.o.ej.cell (g8 i1)]at i1;rw[<-E5.o.ej.cell (g8 i2)]at i2;rw[<-E5.o.ej.cell (g8 i3)]at i3;have cu:Ae (Cj p.e8 (q:Int) hb.gZ=K c):=by rw[ae.o.2.1];exact bT
 clear aZ bT aJ;obtain⟨p0,p1,p2,p3⟩:=A7 E5.o.pb;obtain⟨x,hx⟩:∃x,f.bO[ha]?=K x:=⟨_,an oM⟩;have HG:Ae (Rz p (q:Int) f.bO r.a8 l hb c x):=⟨ae.o.1,cu.o,by rw[ae.o.2.1,lD];exact hx⟩;rcases HF.o.2.2.1.2.2.2 with⟨q0,_⟩|⟨gc,oc,cc,D,aX⟩
 . exact absurd q0 (by have:=HF.o.2.2.2;omega)
 simp only[lB,mB]at D;obtain⟨rfl,rfl⟩:=D;have HC:Ae (∀(u:Y),Ah w w u->∀(k:Nat) (x:MI),f.bO[k]?=K x->u.cell? ⟨gc,oc+k*4,M⟩=K (iZ x.op)/\u.cell? ⟨gc,oc+k*4+1,M⟩=K (iZ x.a)/\u.cell? ⟨gc,oc+k*4+2,M⟩=K (iZ x.b)/\u.cell? ⟨gc,oc+k*4+3,M⟩=K (iZ x.c)):= λu hu k x hx=>by have i0:=Rd.elem MI.dr aX k x hx 0 _ rfl;have i1:=Rd.elem MI.dr aX k x hx 1 _ rfl;have i2:=Rd.elem MI.dr aX k x hx 2 _ rfl;have i3:=Rd.elem MI.dr aX k x hx 3 _ rfl;rw[<-hu.cell (g8 i0),lJ]at i0;rw[<-hu.cell (g8 i1)]at i1;rw[<-hu.cell (g8 i2)]at i2;rw[<-hu.cell (g8 i3)]at i3;exact⟨i0,i1,i2,i3⟩
 clear aX;have dz:f.bO.length<=1024:=HI.o.len;go_upto_region 17 with fail
 refine Ax (λu=>Ae (Ry w u ⟨Z X p.aC r3,Z T p.dk V,sO gk ok p.aD f3,sO gt ot p.e8 t3⟩ ⟨Z R l.back S,Z G l.a8 I⟩ l FB r (sO gb ob r.a8 c1) (Z v2 r.gY c2) (Z v3 r.ig c3) (Z v4 r.gX c4)/\AA u u3 #[iZ c.func,iZ c.head,iZ c.hQ,Ag .u32 c.init] 96)) ⟨E5.o.a7 (Aq _ _),AA.new _ _ _⟩ ?_
 rintro U6 E6;generalize u3.heap.size=CB at E6⊢;clear E5 p0 p1 p2 p3 i0 i1 i2 i3;clear u3;have d8:(ha:Int)<(f.bO:Int):=oM;obtain⟨w0,w1,w2,w3⟩:=HC.o U6 E6.o.1.ej ha x hx;obtain⟨aR,aS,aT,aU⟩:=Cw E6.o.2;by_cases L:x.op=27;case neg=>go_wp2_with fail;go_quiet (fail);go_wp2;go_ret;exact⟨⟨2,rfl,.inr ⟨f,r,HO.o,AU.c2 HG.o λe=>L e.1⟩⟩,Ar E6.o.1.ej lR (AB _ _ _)⟩
 have bP:=Av L;rw[L]at w0;clear L;by_cases g2:x.a=c.hQ;case neg=>go_wp2_with fail;go_quiet (fail);go_wp2;go_ret;exact⟨⟨2,rfl,.inr ⟨f,r,HO.o,AU.c2 HG.o λe=>g2 e.2⟩⟩,Ar E6.o.1.ej lR (AB _ _ _)⟩
 have aF:=Av (d5 bP.o g2);rw[g2]at w1;clear g2 bP;have HX:=Av hx;clear hx;go_wp2_with fail;go_quiet (fail);go_wp2_with fail;refine Ax (λu=>Ae (Ry w u ⟨Z X p.aC r3,Z T p.dk V,sO gk ok p.aD f3,sO gt ot p.e8 t3⟩ ⟨Z R l.back S,Z G l.a8 I⟩ l FB r (sO gb ob r.a8 c1) (Z v2 r.gY c2) (Z v3 r.ig c3) (Z v4 r.gX c4)/\AA u CB #[iZ c.func,iZ c.head,iZ c.hQ,Ag .u32 c.init] 96)) ⟨E6.o.1.a7 (AB _ _ _),E6.o.2.a7 (AB _ _ _)⟩ ?_
 clear w0 w1 w2 w3 aR aS aT aU E6;rintro U7 E7;go_loopw [14] (λi wr=>∃k:Nat,k<= ↑l.a8/\i=iZ k/\Ae (∀(j:Nat) (z:Int) (m:MB),j<k->l.a8[j]?=K z->r.a8[z.toNat]?=K m->∀a,m.gZ<=a->a<=m.last->¬a=x.c)/\Ae (Ry w wr ⟨Z X p.aC r3,Z T p.dk V,sO gk ok p.aD f3,sO gt ot p.e8 t3⟩ ⟨Z R l.back S,Z G l.a8 I⟩ l FB r (sO gb ob r.a8 c1) (Z v2 r.gY c2) (Z v3 r.ig c3) (Z v4 r.gX c4)/\AA wr CB #[iZ c.func,iZ c.head,iZ c.hQ,Ag .u32 c.init] 96)) (λi _=> ↑l.a8-(intOf i).toNat)
 case atStart=>exact⟨0,oM,rfl, λj z m hj=>absurd hj oM,E7⟩
 case round=>
 clear E7;obtain⟨k,hk,rfl,HT,B⟩:=hrel;by_cases aj:k< ↑l.a8
 case pos=>
  obtain⟨z,hz⟩:∃z,l.a8[k]?=K z:=⟨_,an aj⟩;obtain⟨bn,ez,bF⟩:=bK.o z (lA hz);obtain⟨m,C⟩:∃m,r.a8[bn]?=K m:=⟨_,an bF⟩;obtain⟨ma,me,au,aw,cY,cZ⟩:=HI.o.ie bn m C;obtain⟨bR,cj,xa,xc,ev,x0,x1,x2,ao⟩:=Hk B.o.1.rf.a8 C;simp only[lH,nF,nU]at ev;obtain⟨rfl,rfl⟩:=ev;rw[au]at x0;rw[aw]at x1;rcases H.o.2.2.2.2.1.2.2 with⟨q0,_⟩|⟨gd,od,cd,D,aY⟩
  . simp only[]at q0;omega
  simp only[lB,mB]at D;have ed:=D.1;clear D;have z0:=Rd.elem Ay aY k z hz 0 _ rfl;rw[mO,lJ,<-B.o.1.ej.cell (g8 z0),ez]at z0;have F:=Av (d5 hz (d5 ez (d5 C (d5 au aw))));clear aY hz ez C au aw ao;have cJ:(bn:Int)<(r.a8:Int):=oM;obtain⟨W,o1,N⟩:=B9 B.o.1.lb;simp only[ed]at N;obtain⟨y0,y1,y2,y3,y4,y5⟩:=Eg B.o.1.fb;clear y0 y1 y3 y4 y5 W o1;have s1:¬FB=wr.heap.size:=mR (g8 y2);have s2:FB<wr.heap.size:=g8 y2;have s3:¬(w:Nat)+1=wr.heap.size:=mR (g8 N);have s4:(w:Nat)+1<wr.heap.size:=g8 N;have s5:¬gb=wr.heap.size:=mR (g8 x0);have s6:gb<wr.heap.size:=g8 x0;have s7:¬gd=wr.heap.size:=mR (g8 z0);have s8:gd<wr.heap.size:=g8 z0;go_upto_region 22 with fail
  go_region;refine AY (λu=>Ae ((Ry w u ⟨Z X p.aC r3,Z T p.dk V,sO gk ok p.aD f3,sO gt ot p.e8 t3⟩ ⟨Z R l.back S,Z G l.a8 I⟩ l FB r (sO gb ob r.a8 c1) (Z v2 r.gY c2) (Z v3 r.ig c3) (Z v4 r.gX c4)/\AA u CB #[iZ c.func,iZ c.head,iZ c.hQ,Ag .u32 c.init] 96)/\AA u wr #[iZ (ma:Int),iZ (me:Int),Z xa m.next xc] 90)) ⟨⟨(B.o.1.a7 (Aq _ _)).a7 (At _),(B.o.2.a7 (Aq _ _)).a7 (At _)⟩,(AA.new wr _ _).a7 (At _)⟩ ?_
  rintro U9 E;generalize wr.heap.size=XB at E⊢;clear s1 s2 s3 s4 s5 s6 s7 s8 x0 x1 x2 z0 y2 N B ed;obtain⟨w0,w1,w2,w3⟩:=HC.o U9 E.o.1.1.ej ha x HX.o;obtain⟨x0,x1,x2⟩:=B9 E.o.2;have am:Ae (¬(m.gZ<=x.c/\x.c<=m.last)->∀(j:Nat) (z:Int) (m:MB),j<k+1->l.a8[j]?=K z->r.a8[z.toNat]?=K m->∀a,m.gZ<=a->a<=m.last->¬a=x.c):= λbf j z' m' hj aE ah a aH aW=>by
   by_cases e:j=k
   . subst e;rw[F.o.1]at aE;have ez:=lP aE;subst ez;rw[F.o.2.1,lD,F.o.2.2.1]at ah;have em:=lP ah;subst em;intro e;subst e;exact bf ⟨aH,aW⟩
   exact HT.o j z' m' oM aE ah a aH aW
  by_cases s1:(ma:Int)<=x.c;case neg=>
   (have dD:decide ((ma:Int)<=x.c)=false:=by simpa using s1);have HS:Ae (¬(m.gZ<=x.c/\x.c<=m.last)):= λe=>s1 (by have:=e.1;rw[F.o.2.2.2.1]at this;exact this)
   go_wp2_with fail;go_quiet (fail);go_wp2;go_roundw;(case rel=>exact⟨k+1,oM,by go_num,am.o HS.o,E.o.1.1.a7 (AB _ _ _),E.o.1.2.a7 (AB _ _ _)⟩);exact oI
  by_cases s2:x.c<=(me:Int);case neg=>
   have HS:Ae (¬(m.gZ<=x.c/\x.c<=m.last)):= λe=>s2 (by have:=e.2;rw[F.o.2.2.2.2]at this;exact this)
   go_wp2_with fail;go_quiet (fail);go_wp2;go_roundw;(case rel=>exact⟨k+1,oM,by go_num,am.o HS.o,E.o.1.1.a7 (AB _ _ _),E.o.1.2.a7 (AB _ _ _)⟩);exact oI
  have HS:=Av (XD F.o.1 F.o.2.1 F.o.2.2.1 (by rw[F.o.2.2.2.1];exact s1) (by rw[F.o.2.2.2.2];exact s2));go_wp2_with fail;go_quiet (fail);go_wp2;go_ret;exact⟨⟨3,rfl,.inr ⟨f,r,HO.o,AU.c3 HG.o aF.o HS.o⟩⟩,Ar E.o.1.1.ej lR (AB _ _ _)⟩
 have aA:k=l.a8.length:=oM;subst aA;have H3:Ae (¬DP r.a8 l.a8 x.c):= λe=>NO (P:= λa=>a=x.c) (λj z m hz C=>HT.o j z m (i8.1 hz).1 hz C) ⟨x.c,e,rfl⟩
 clear HT aj hk;have E7:=B;clear B;obtain⟨W,o1,N⟩:=B9 E7.o.1.lb;go_wp2_with fail;go_loopw [16] (λi wr=>∃k:Nat,k<= ↑l.a8/\i=iZ k/\Ae (∀(j:Nat) (z:Int) (m:MB),j<k->l.a8[j]?=K z->r.a8[z.toNat]?=K m->∀a,m.gZ<=a->a<=m.last->¬(a≠hb.gZ/\JX f.bO c.hQ a))/\Ae (Ry w wr ⟨Z X p.aC r3,Z T p.dk V,sO gk ok p.aD f3,sO gt ot p.e8 t3⟩ ⟨Z R l.back S,Z G l.a8 I⟩ l FB r (sO gb ob r.a8 c1) (Z v2 r.gY c2) (Z v3 r.ig c3) (Z v4 r.gX c4)/\AA wr CB #[iZ c.func,iZ c.head,iZ c.hQ,Ag .u32 c.init] 96)) (λi _=> ↑l.a8-(intOf i).toNat)
 case atStart=>exact⟨0,oM,rfl, λj z m hj=>absurd hj oM,E7⟩
 case round=>
 clear E7 W o1 N;obtain⟨k,hk,rfl,HT,B⟩:=hrel;by_cases aj:k< ↑l.a8
 case pos=>
  obtain⟨z,hz⟩:∃z,l.a8[k]?=K z:=⟨_,an aj⟩;obtain⟨bn,ez,bF⟩:=bK.o z (lA hz);obtain⟨m,C⟩:∃m,r.a8[bn]?=K m:=⟨_,an bF⟩;obtain⟨ma,me,au,aw,cY,cZ⟩:=HI.o.ie bn m C;obtain⟨bR,cj,xa,xc,ev,x0,x1,x2,ao⟩:=Hk B.o.1.rf.a8 C;simp only[lH,nF,nU]at ev;obtain⟨rfl,rfl⟩:=ev;rw[au]at x0;rw[aw]at x1;rcases H.o.2.2.2.2.1.2.2 with⟨q0,_⟩|⟨gd,od,cd,D,aY⟩
  . simp only[]at q0;omega
  simp only[lB,mB]at D;have ed:=D.1;clear D;have z0:=Rd.elem Ay aY k z hz 0 _ rfl;rw[mO,lJ,<-B.o.1.ej.cell (g8 z0),ez]at z0;have F:=Av (d5 hz (d5 ez (d5 C (d5 au aw))));clear aY hz ez C au aw ao;have cJ:(bn:Int)<(r.a8:Int):=oM;obtain⟨W,o1,N⟩:=B9 B.o.1.lb;simp only[ed]at N;obtain⟨y0,y1,y2,y3,y4,y5⟩:=Eg B.o.1.fb;clear y0 y1 y3 y4 y5 W o1;have s1:¬FB=wr.heap.size:=mR (g8 y2);have s2:FB<wr.heap.size:=g8 y2;have s3:¬(w:Nat)+1=wr.heap.size:=mR (g8 N);have s4:(w:Nat)+1<wr.heap.size:=g8 N;have s5:¬gb=wr.heap.size:=mR (g8 x0);have s6:gb<wr.heap.size:=g8 x0;have s7:¬gd=wr.heap.size:=mR (g8 z0);have s8:gd<wr.heap.size:=g8 z0;go_upto_region 28 with fail
  go_region;refine AY (λu=>Ae ((Ry w u ⟨Z X p.aC r3,Z T p.dk V,sO gk ok p.aD f3,sO gt ot p.e8 t3⟩ ⟨Z R l.back S,Z G l.a8 I⟩ l FB r (sO gb ob r.a8 c1) (Z v2 r.gY c2) (Z v3 r.ig c3) (Z v4 r.gX c4)/\AA u CB #[iZ c.func,iZ c.head,iZ c.hQ,Ag .u32 c.init] 96)/\AA u wr #[iZ (ma:Int),iZ (me:Int),Z xa m.next xc] 90)) ⟨⟨(B.o.1.a7 (Aq _ _)).a7 (At _),(B.o.2.a7 (Aq _ _)).a7 (At _)⟩,(AA.new wr _ _).a7 (At _)⟩ ?_
  rintro U9 E;generalize wr.heap.size=XB at E⊢;clear s1 s2 s3 s4 s5 s6 s7 s8 x0 x1 x2 z0 y2 N B ed;obtain⟨x0,x1,x2⟩:=B9 E.o.2;go_wp2_with fail;go_loopw [18] (λi wr=>∃d:Nat,ma<=d/\d<=me+1/\i=iZ d/\Ae (∀a:Int,(ma:Int)<=a->a<(d:Int)->¬(a≠hb.gZ/\JX f.bO c.hQ a))/\Ae ((Ry w wr ⟨Z X p.aC r3,Z T p.dk V,sO gk ok p.aD f3,sO gt ot p.e8 t3⟩ ⟨Z R l.back S,Z G l.a8 I⟩ l FB r (sO gb ob r.a8 c1) (Z v2 r.gY c2) (Z v3 r.ig c3) (Z v4 r.gX c4)/\AA wr CB #[iZ c.func,iZ c.head,iZ c.hQ,Ag .u32 c.init] 96)/\AA wr XB #[iZ (ma:Int),iZ (me:Int),Z xa m.next xc] 90)) (λi _=>me+1-(intOf i).toNat)
  case atStart=>exact⟨ma,oM,oM,rfl, λa h1 h2=>absurd h2 oM,E⟩
  case round=>
  clear E x0 x1 x2;obtain⟨d,df,dg,rfl,HD,E⟩:=hrel;obtain⟨x0,x1,x2⟩:=B9 E.o.2;by_cases dx:d<=me;case pos=>
   obtain⟨⟨yo,ya,yb,yc⟩,hy⟩:∃y,f.bO[d]?=K y:=⟨_,an oM⟩;obtain⟨w0,w1,w2,w3⟩:=HC.o wr E.o.1.1.ej d _ hy;simp only[]at w0 w1 w2 w3;have HY:=Av hy;clear hy;have cX:(d:Int)<=(me:Int):=oM;have dh:(d:Int)<(f.bO:Int):=oM;have s1:¬gc=wr.heap.size:=mR (g8 w0);have s2:gc<wr.heap.size:=g8 w0;(go_upto_region 33 with fail);refine Ax (λu=>Ae (((Ry w u ⟨Z X p.aC r3,Z T p.dk V,sO gk ok p.aD f3,sO gt ot p.e8 t3⟩ ⟨Z R l.back S,Z G l.a8 I⟩ l FB r (sO gb ob r.a8 c1) (Z v2 r.gY c2) (Z v3 r.ig c3) (Z v4 r.gX c4)/\AA u CB #[iZ c.func,iZ c.head,iZ c.hQ,Ag .u32 c.init] 96)/\AA u XB #[iZ (ma:Int),iZ (me:Int),Z xa m.next xc] 90)/\AA u wr #[iZ yo,iZ ya,iZ yb,iZ yc] 79)) ⟨⟨⟨E.o.1.1.a7 (Aq _ _),E.o.1.2.a7 (Aq _ _)⟩,E.o.2.a7 (Aq _ _)⟩,AA.new _ _ _⟩ ?_
   rintro UA EA;generalize wr.heap.size=YB at EA⊢;clear s1 s2 w0 w1 w2 w3 E x0 x1 x2;obtain⟨w0,w1,w2,w3⟩:=Cw EA.o.2;obtain⟨aR,aS,aT,aU⟩:=Cw EA.o.1.1.2;have bg:Ae (¬(((d:Int)≠hb.gZ)/\JX f.bO c.hQ (d:Int))->∀a:Int,(ma:Int)<=a->a<((d+1:Nat):Int)->¬(a≠hb.gZ/\JX f.bO c.hQ a)):= λbf a h1 h2=>by
    by_cases e:a=(d:Int)
    . subst e;exact bf
    exact HD.o a h1 oM
   have HW:Ae (JX f.bO c.hQ (d:Int)↔(yo=3\/yo=27)/\ya=c.hQ):=by
    constructor
    . rintro⟨y,hy,h1,h2⟩;rw[lD,HY.o]at hy;have ey:=lP hy;subst ey;exact⟨h1,h2⟩
    rintro⟨h1,h2⟩;exact⟨_,by rw[lD];exact HY.o,h1,h2⟩
   by_cases g0:d=ha;case pos=>
    have bp:(d:Int)=(ha:Int):=oM;have aG:Ae (¬(((d:Int)≠hb.gZ)/\JX f.bO c.hQ (d:Int))):= λe=>e.1 (by rw[ae.o.2.1];exact bp)
    subst g0;clear bp;go_wp2;go_roundw;(case rel=>exact⟨d+1,oM,oM,by go_num,bg.o aG.o,EA.o.1⟩);exact oI
   have bp:¬(d:Int)=(ha:Int):=oM;(have cw:Ae ((d:Int)≠hb.gZ):=by show(d:Int)≠hb.gZ;rw[ae.o.2.1];exact bp);by_cases L:yo=3\/yo=27
   case neg=>
    (have g2:¬yo=3:= λe=>L (.inl e));(have g3:¬yo=27:= λe=>L (.inr e));have aG:Ae (¬(((d:Int)≠hb.gZ)/\JX f.bO c.hQ (d:Int))):= λe=>L (HW.o.1 e.2).1
    clear L;go_wp2;go_roundw;(case rel=>exact⟨d+1,oM,oM,by go_num,bg.o aG.o,EA.o.1⟩);exact oI
   by_cases g4:ya=c.hQ;case neg=>
    (have d7:(ya==c.hQ)=false:=by simp[g4]);have aG:Ae (¬(((d:Int)≠hb.gZ)/\JX f.bO c.hQ (d:Int))):= λe=>g4 (HW.o.1 e.2).2
    rcases L with L|L
    . rw[L]at w0;go_wp2;go_roundw;(case rel=>exact⟨d+1,oM,oM,by go_num,bg.o aG.o,EA.o.1⟩);exact oI
    rw[L]at w0;go_wp2;go_roundw;(case rel=>exact⟨d+1,oM,oM,by go_num,bg.o aG.o,EA.o.1⟩);exact oI
   have H4:Ae (∃a,DP r.a8 l.a8 a/\a≠hb.gZ/\JX f.bO c.hQ a):=⟨(d:Int),XD F.o.1 F.o.2.1 F.o.2.2.1 (by rw[F.o.2.2.2.1];omega) (by rw[F.o.2.2.2.2];omega),cw.o,HW.o.2 ⟨L,g4⟩⟩
   rw[g4]at w1;rcases L with L|L
   . rw[L]at w0;go_wp2;go_ret;exact⟨⟨4,rfl,.inr ⟨f,r,HO.o,AU.c4 HG.o aF.o H3.o H4.o⟩⟩,EA.o.1.1.1.ej⟩
   rw[L]at w0;go_wp2;go_ret;exact⟨⟨4,rfl,.inr ⟨f,r,HO.o,AU.c4 HG.o aF.o H3.o H4.o⟩⟩,EA.o.1.1.1.ej⟩
  have di:d=me+1:=oM;have cX:¬(d:Int)<=(me:Int):=oM;have am:Ae (∀(j:Nat) (z:Int) (m:MB),j<k+1->l.a8[j]?=K z->r.a8[z.toNat]?=K m->∀a,m.gZ<=a->a<=m.last->¬(a≠hb.gZ/\JX f.bO c.hQ a)):= λj z' m' hj aE ah a aH aW=>by
   by_cases e:j=k
   . subst e;rw[F.o.1]at aE;have ez:=lP aE;subst ez;rw[F.o.2.1,lD,F.o.2.2.1]at ah;have em:=lP ah;subst em;rw[F.o.2.2.2.1]at aH;rw[F.o.2.2.2.2]at aW;exact HD.o a aH oM
   exact HT.o j z' m' oM aE ah a aH aW
  go_wp2;go_roundw;case rel=>exact⟨k+1,oM,by go_num,am.o,E.o.1⟩
  exact oI
 have aA:k=l.a8.length:=oM;subst aA;have H4:=Av (NO (P:= λa=>a≠hb.gZ/\JX f.bO c.hQ a) (λj z m hz C=>HT.o j z m (i8.1 hz).1 hz C))
 clear HT aj hk;obtain⟨W,o1,N⟩:=B9 B.o.1.lb;rw[ae.o.2.2]at W;by_cases cR:A=0;case pos=>subst cR;have H5:=Av ae.o.2.2;go_wp2;go_ret;exact⟨⟨5,rfl,.inr ⟨f,r,HO.o,AU.c5 HG.o aF.o H3.o H4.o (.inl H5.o)⟩⟩,B.o.1.ej⟩
 have cT:¬(A:Int)=0:=oM;have dy:r.a8.length<=1024:=HI.o.nb;have E7:=B;clear B;go_wp2_with fail;clear W o1 N;go_loopw [20] (λi wr=>∃k:Nat,k<= ↑r.a8/\i=iZ k/\Ae (∀(j:Nat) (m:MB),j<k->r.a8[j]?=K m->¬(l.head∈m.next/\¬((j:Int)∈l.a8)/\¬Bm p.dk f.bO m c))/\Ae (Ry w wr ⟨Z X p.aC r3,Z T p.dk V,sO gk ok p.aD f3,sO gt ot p.e8 t3⟩ ⟨Z R l.back S,Z G l.a8 I⟩ l FB r (sO gb ob r.a8 c1) (Z v2 r.gY c2) (Z v3 r.ig c3) (Z v4 r.gX c4)/\AA wr CB #[iZ c.func,iZ c.head,iZ c.hQ,Ag .u32 c.init] 96)) (λi _=> ↑r.a8-(intOf i).toNat)
 case atStart=>exact⟨0,oM,rfl, λj m hj=>absurd hj oM,E7⟩
 case round=>
 clear E7;obtain⟨k,hk,rfl,HT,B⟩:=hrel;obtain⟨y0,y1,y2,y3,y4,y5⟩:=Eg B.o.1.fb;by_cases aj:k< ↑r.a8
 case pos=>
  obtain⟨m,C⟩:∃m,r.a8[k]?=K m:=⟨_,an aj⟩;obtain⟨bR,cj,xa,xc,ev,x0,x1,x2,ao⟩:=Hk B.o.1.rf.a8 C;simp only[lH,nF,nU]at ev;obtain⟨rfl,rfl⟩:=ev;have HM:=Av (d5 C (d5 ao ((H.o.2.2.2.2.1.a7 B.o.1.ej lR).2)));have aq:=Av (d5 ((by have:=HI.o.two m (lA C);omega):m.next.length<=1048576) H.o.2.2.2.2.2.2);have am:Ae (¬(l.head∈m.next/\¬((k:Int)∈l.a8)/\¬Bm p.dk f.bO m c)->∀(j:Nat) (m:MB),j<k+1->r.a8[j]?=K m->¬(l.head∈m.next/\¬((j:Int)∈l.a8)/\¬Bm p.dk f.bO m c)):= λbf j m' hj ah=>by
   by_cases e:j=k
   . subst e;rw[HM.o.1]at ah;have em:=lP ah;subst em;exact bf
   exact HT.o j m' oM ah
  clear C ao;obtain⟨W,o1,N⟩:=B9 B.o.1.lb;rw[ae.o.2.2]at W;obtain⟨p0,p1,p2,p3⟩:=A7 B.o.1.pb;obtain⟨aR,aS,aT,aU⟩:=Cw B.o.2;have dt:(k:Int)<(r.a8:Int):=oM;go_upto_region 40 with fail
  have inst:=AC.some wr;have Y2:= λs:AC wr=>AC.cell y2 s
  have X0:= λs:AC wr=>AC.cell x0 s
  have X1:= λs:AC wr=>AC.cell x1 s
  have X2:= λs:AC wr=>AC.cell x2 s
  have O0:= λs:AC wr=>AC.cell W s
  have O2:= λs:AC wr=>AC.cell N s
  have P0:= λs:AC wr=>AC.cell p0 s
  have P1:= λs:AC wr=>AC.cell p1 s
  have P2:= λs:AC wr=>AC.cell p2 s
  have P3:= λs:AC wr=>AC.cell p3 s
  have C0:= λs:AC wr=>AC.cell aR s
  have C1:= λs:AC wr=>AC.cell aS s
  have C2:= λs:AC wr=>AC.cell aT s
  have C3:= λs:AC wr=>AC.cell aU s
  clear y0 y1 y2 y3 y4 y5 x0 x1 x2 W o1 N p0 p1 p2 p3 aR aS aT aU;by_cases D:l.head∈m.next;case neg=>
   have HQ:Ae (¬(A:Int)∈m.next/\¬(l.head∈m.next/\¬((k:Int)∈l.a8)/\¬Bm p.dk f.bO m c)):=⟨by rw[<-ae.o.2.2];exact D, λe=>D e.1⟩
   clear D;refine AN kR kR ?_;(repeat(go_big_quiet_step (fail)));go_big_quiet_step ((go_at_call 46;rename_i s;exact(D9 (Z xa m.next xc) m.next (A:Int) s.u aq.o.1 (Rd.a7 HM.o.2.1 s.h lR)).mono λe O A=>⟨A.1.false HQ.o.1,⟨s,A.2⟩⟩));(repeat(go_big_quiet_step (fail)));refine wpQuiet_nil ?_;rintro O ⟨s,rfl⟩;go_wp2;go_roundw;(case rel=>exact⟨k+1,oM,by go_num,am.o HQ.o.2,B.o.1.a7 s.h,B.o.2.a7 s.h⟩);exact oI
  have bx:Ae ((A:Int)∈m.next):=by rw[<-ae.o.2.2];exact D
  by_cases q2:(k:Int)∈l.a8;case pos=>
   have aP:=Av (d5 q2 ((λe=>e.2.1 q2):¬(l.head∈m.next/\¬((k:Int)∈l.a8)/\¬Bm p.dk f.bO m c)))
   clear D q2;refine AN kR kR ?_;(repeat(go_big_quiet_step (fail)));go_big_quiet_step ((go_at_call 46;rename_i s;exact(D9 (Z xa m.next xc) m.next (A:Int) s.u aq.o.1 (Rd.a7 HM.o.2.1 s.h lR)).mono λe O A=>⟨A.1.true bx.o,⟨s,A.2⟩⟩));(repeat(go_big_quiet_step (fail)));go_big_quiet_step ((go_at_call 46;rename_i s;exact(D9 (Z G l.a8 I) l.a8 (k:Int) s.u aq.o.2 (Rd.a7 HM.o.2.2 s.h lR)).mono λe O A=>⟨A.1.true aP.o.1,⟨s,A.2⟩⟩));(repeat(go_big_quiet_step (fail)));refine wpQuiet_nil ?_;rintro O ⟨s,rfl⟩;go_wp2;go_roundw;(case rel=>exact⟨k+1,oM,by go_num,am.o aP.o.2,B.o.1.a7 s.h,B.o.2.a7 s.h⟩);exact oI
  have aP:=Av q2;have HK:Ae ((∀y∈f.bO,y.op=1->0<=y.a/\y.a.toNat< ↑p.dk)/\(∃a e:Nat,m.gZ=(a:Int)/\m.last=(e:Int)/\a<=e/\e< ↑f.bO)):=⟨λy hy d6=>by obtain⟨j,hj⟩:=mJ hy;obtain⟨qq,zz,e1,e2⟩:=(bt.o.iY HF.o.1 hj).const d6;rw[e1,lD];exact⟨oM,(i8.1 e2).1⟩,HI.o.ie k m HM.o.1⟩
  by_cases q3:Bm p.dk f.bO m c;case pos=>
   have aQ:=Av (d5 q3 ((λe=>e.2.2 q3):¬(l.head∈m.next/\¬((k:Int)∈l.a8)/\¬Bm p.dk f.bO m c)))
   clear D q2 q3;refine AN kR kR ?_;(repeat(go_big_quiet_step (fail)));go_big_quiet_step ((go_at_call 46;rename_i s;exact(D9 (Z xa m.next xc) m.next (A:Int) s.u aq.o.1 (Rd.a7 HM.o.2.1 s.h lR)).mono λe O A=>⟨A.1.true bx.o,⟨s,A.2⟩⟩));(repeat(go_big_quiet_step (fail)));go_big_quiet_step ((go_at_call 46;rename_i s;exact(D9 (Z G l.a8 I) l.a8 (k:Int) s.u aq.o.2 (Rd.a7 HM.o.2.2 s.h lR)).mono λe O A=>⟨A.1.false aP.o,⟨s,A.2⟩⟩));(repeat(go_big_quiet_step (fail)));go_big_quiet_step ((go_at_call 77;rename_i s;exact(LZ ⟨Z X p.aC r3,Z T p.dk V,sO gk ok p.aD f3,sO gt ot p.e8 t3⟩ p (sO gc oc f.bO g9) (Z xa m.next xc) f.bO m c s.u H.o.1 (H.o.2.2.2.1.a7 (Ar B.o.1.ej lR s.h) lR) HF.o.2.1.2.2 (Rd.a7 HF.o.2.2.1.2.2 (Ar B.o.1.ej lR s.h) lR) HK.o.1 HK.o.2).mono λe O A=>⟨A.1.true aQ.o.1,⟨⟨O,Ar s.h lR A.2⟩,rfl⟩⟩));(repeat(go_big_quiet_step (fail)));refine wpQuiet_nil ?_;rintro O ⟨s,rfl⟩;go_wp2;go_roundw;(case rel=>exact⟨k+1,oM,by go_num,am.o aQ.o.2,B.o.1.a7 s.h,B.o.2.a7 s.h⟩);exact oI
  have aQ:Ae (¬Bm p.dk f.bO m c/\(l.head=0\/Kp p.dk f.bO r.a8 l c)):=⟨q3,.inr ⟨k,m,HM.o.1,D,q2,q3⟩⟩
  clear D q2 q3;refine AN kR kR ?_;repeat(go_big_quiet_step (fail))
  go_big_quiet_step ((go_at_call 46;rename_i s;exact(D9 (Z xa m.next xc) m.next (A:Int) s.u aq.o.1 (Rd.a7 HM.o.2.1 s.h lR)).mono λe O A=>⟨A.1.true bx.o,⟨s,A.2⟩⟩));repeat(go_big_quiet_step (fail))
  go_big_quiet_step ((go_at_call 46;rename_i s;exact(D9 (Z G l.a8 I) l.a8 (k:Int) s.u aq.o.2 (Rd.a7 HM.o.2.2 s.h lR)).mono λe O A=>⟨A.1.false aP.o,⟨s,A.2⟩⟩));repeat(go_big_quiet_step (fail))
  go_big_quiet_step ((go_at_call 77;rename_i s;exact(LZ ⟨Z X p.aC r3,Z T p.dk V,sO gk ok p.aD f3,sO gt ot p.e8 t3⟩ p (sO gc oc f.bO g9) (Z xa m.next xc) f.bO m c s.u H.o.1 (H.o.2.2.2.1.a7 (Ar B.o.1.ej lR s.h) lR) HF.o.2.1.2.2 (Rd.a7 HF.o.2.2.1.2.2 (Ar B.o.1.ej lR s.h) lR) HK.o.1 HK.o.2).mono λe O A=>⟨A.1.false aQ.o.1,⟨⟨O,Ar s.h lR A.2⟩,rfl⟩⟩));repeat(go_big_quiet_step (fail))
  refine wpQuiet_nil ?_;rintro O ⟨s,rfl⟩;go_wp2;go_ret;exact⟨⟨5,rfl,.inr ⟨f,r,HO.o,AU.c5 HG.o aF.o H3.o H4.o aQ.o.2⟩⟩,Ar B.o.1.ej lR s.h⟩
 have aA:k=r.a8.length:=oM;subst aA;have H5:Ae (¬(l.head=0\/Kp p.dk f.bO r.a8 l c)):= λe=>by
  rcases e with e|⟨j,m,C,h1,h2,h3⟩
  . rw[ae.o.2.2]at e;exact cT e
  exact HT.o j m (i8.1 C).1 C ⟨h1,h2,h3⟩
 clear HT;go_wp2;go_ret;exact⟨⟨0,rfl,.inr ⟨f,r,HO.o,AU.c0 HG.o aF.o H3.o H4.o H5.o⟩⟩,B.o.1.ej⟩
end Go.Proofs.YtadcneiiokbofaaGreat
