import Derived.Test.YtadcneiiokbofaaGreatBo36
import Derived.Test.YtadcneiiokbofaaGreatBo35
namespace Go.Proofs.YtadcneiiokbofaaGreat
open Go.ChangeShapes Go.WideShapes Go.ChangeAt Go.RowKit Go.Proofs.Tryz
set_option linter.unusedVariables false
open Go.Value renaming slice → Z,int → Ag,agg → Am
open Option renaming some → K,none → M
open Go renaming Value → J,World → Y,Calls → Ai
open Go.RowKit renaming Hid → Ae,Below → Ah
open Go.IntKind renaming i64 → Af
open Go.Obj renaming cells → Ak
open Go.Ending renaming returned → Al
open Go.Proofs.Tryz renaming prog → Ap
open Go.World renaming setCell → Aa,ownsRow → Ab,alloc → Ac
open List renaming flatMap → Ad
set_option maxHeartbeats 8000000
set_option maxRecDepth 100000
theorem Qc{w:Y}{xs:List MI}{r:CS}{t m T U:J}(h:Be xs r)(e:r.bO=0)(s:DQ w t m T U r):∃gb ob cb i j co O D L,t=sO gb ob r.a8 cb/\m=sO i j r.a8 co/\0<r.a8.length/\Gd r (nx r.a8) r.a8 O D L/\∀x:GV,x.gb=gb->x.ob=ob->x.go=i->x.oo=j->GF w r.a8 x (nx r.a8) O.reverse:=by
 obtain⟨d,D,L,p⟩:=h.gd e;cases h with
 |none _=>cases e
 |off _ _ _=>cases e
 |lost _ _ _ _ _ _ _ _=>cases e
 |two _ _ _ _ _ _ _ _=>cases e
 | @good x S O D2 L2 I g x1 o1 v1 s1 d1 b1 i1 l1=>have l:=Es g;have n:∀b,b<(AL xs).length->∀y∈nx (AL xs) b,y<(AL xs).length:=JF g;obtain⟨W,X,k,E,_⟩:=CA l n v1 s1;obtain⟨gb,ob,cb,u,F,_⟩:=I4.iF g s.a8;(have C:d=O:=by have A:ints d.reverse=ints O.reverse:=p.ord.symm;have B:d.reverse=O.reverse:=(List.map_inj_right (f:= λ(x:Nat)=>(x:Int)) (λa b h=>by have V:(a:Int)=(b:Int):=h;omega)).1 A;exact List.reverse_inj.1 B);subst C;(have q:Jo w m d.reverse:=by have:=s.gY;unfold Jo;rw[Df];simp only[AV]at this;exact this);obtain⟨a,c,v⟩:=Rd.bW q;subst v;obtain⟨i,j,z,_,G⟩:=q.all (by rw[mv,k];exact l);subst z;refine⟨gb,ob,cb,i,j,c,d,D,L,u,by rw[mv,k],l,p, λx N P Q R=> ?_⟩;subst N P Q R;exact⟨F,G,by rw[mv,k], λy H=>(E y).1 (m7.1 H),n,JG _ (Gx xs)⟩
theorem SQ{q:Prop}(h:q:=by go_wp2_with fail;go_ret;exact⟨⟨-1,rfl,HR⟩,E4.ej.trans (F0.1.ej.mono E4.ej.size)⟩):q:=h
theorem SR{q:Prop}(h:q:=by go_wp2_with fail;go_ret;exact⟨⟨-1,rfl,HR⟩,E2.2⟩):q:=h
theorem Wl{q:Prop}(h:q:=by
 go_wp2_with fail;go_roundw;case rel=>exact⟨qb+1,m0,by omega,rfl,by go_num,trivial,HM2⟩
 simp[intOf];omega):q:=h
theorem QR(v:VP)(p:MP)(fi:Int)(cv:J)(costs:List Int)(w:Y)(hs:p.small)(hw:p.wf)(du:Dv fi)(h:Dm w v p)(hc:Rd w 1 cv costs (Ad As costs))(fG:costs.length<=1048576):
 Ai Ap 47 #[Am #[v.r,v.k,v.f,v.t],fi,cv] w λe w'=>(∃n,e=Al (iZ n)/\DC p fi costs n)/\Ah w w w':=by
 obtain⟨r1,r3,k1,k3,t1,t3,f1,f3,rfl⟩:=h.sl;obtain⟨ca,cc,ec⟩:=Rd.bW hc;have aM:Ae (∀op,0<=Ps op):= λop=>Sp op (Ez op)
 subst ec;obtain⟨dT,hi,cI,cJ,dS⟩:=mN Br;obtain⟨j0,hj,fd,fh,fj⟩:=mN D8;have H:=Av (d5 hs (d5 hw (d5 du (d5 h hc))));clear hs hw du h hc;have E0:Ae (AA (Ac w (Ak #[Z r1 p.aC r3,Z k1 p.dk k3,Z f1 p.aD f3,Z t1 p.e8 t3] 37)) w #[Z r1 p.aC r3,Z k1 p.dk k3,Z f1 p.aD f3,Z t1 p.e8 t3] 37/\Ah w w (Ac w (Ak #[Z r1 p.aC r3,Z k1 p.dk k3,Z f1 p.aD f3,Z t1 p.e8 t3] 37))):=⟨AA.new _ _ _,Aq _ _⟩
 go_enter func47,ntmps47;go_upto_region 1 with fail
 refine Ax (λu=>Ae (AA u w #[Z r1 p.aC r3,Z k1 p.dk k3,Z f1 p.aD f3,Z t1 p.e8 t3] 37/\Ah w w u)) E0 ?_
 rintro U0 E1;clear E0;obtain⟨p0,p1,p2,p3⟩:=A7 E1.1;go_wp2_with fail;refine(Du ⟨Z r1 p.aC r3,Z k1 p.dk k3,Z f1 p.aD f3,Z t1 p.e8 t3⟩ p U0 H.1 H.2.1 (H.2.2.2.1.a7 E1.2 lR)).mono ?_;rintro e u1 ⟨⟨n,rfl,hn⟩,O⟩;have E2:=Av (d5 (E1.1.a7 O) (Ar E1.2 lR O));clear O E1 p0 p1 p2 p3;clear U0;have p2:=E2.1.cell 2;simp only[lE,lC,lF]at p2;by_cases aG:n=0;case neg=>have HR:Ae (DC p fi costs (-1)):=.inl ⟨λf r s _ _ _ _=>aG (hn.one s),rfl⟩;clear hn;exact SR
 subst aG;have aI:=Av hn;clear hn;by_cases eU:fi<0;case pos=>
  have fM:decide (fi<0)=true:=by simpa using eU
  have HR:Ae (DC p fi costs (-1)):=.inl ⟨λf r _ E _ _ _=>oM,rfl⟩;exact SR
 by_cases fN:(p.aD:Int)<=fi;case pos=>have HR:Ae (DC p fi costs (-1)):=.inl ⟨λf r _ E h3 _ _=>by have:=(i8.1 h3).1;omega,rfl⟩;exact SR
 obtain⟨q,rfl⟩:=mA (show 0<=fi from oM);obtain⟨f,hf⟩:∃f,p.aD[q]?=K f:=⟨_,an oM⟩;obtain⟨gk,ok,ck,cY,g,cE,m0,m1,m2,m3⟩:=Hr H.2.2.2.1.aD hf;simp only[lB,mB]at cY;obtain⟨rfl,rfl⟩:=cY;obtain⟨g1,g3,g4,g6,g7,g9,rfl⟩:=Ec cE;have gh:(q:Int)<(p.aD:Int):=oM;have HF:=Av (d5 hf (d5 (H.1.func f (lA hf)) (d5 cE (Nat.pos_of_ne_zero (aI.parts.2.2.1.2.2.1 q (i8.1 hf).1 f hf).jq))));simp only[]at m0 m1 m2 m3;rw[<-E2.2.cell (g8 m3)]at m3;clear cE hf m0 m1 m2;go_wp2_with fail;refine(Fj (Z g7 f.bO g9) f.bO u1 HF.2.1.2.2 (Rd.a7 HF.2.2.1.2.2 E2.2 lR)).mono ?_;rintro e u2 ⟨r,vb,vo,vi,vl,rfl,bZ,cA,O⟩;obtain⟨v1,c1,v2,c2,v3,c3,N,c4,rfl,rfl,rfl,rfl⟩:=JH cA;have E3:Ae (FcR w (Ac u2 (Ak #[r.bO,r.at_,Z v1 r.a8 c1,Z v2 r.gY c2,Z v3 r.ig c3,Z N r.gX c4] 84)) ⟨Z r1 p.aC r3,Z k1 p.dk k3,sO gk ok p.aD f3,Z t1 p.e8 t3⟩ p f (Z g7 f.bO g9) u2 r (Z v1 r.a8 c1) (Z v2 r.gY c2) (Z v3 r.ig c3) (Z N r.gX c4) (Z ca costs cc) costs):=by have b2:=Aq u2 (Ak #[r.bO,r.at_,Z v1 r.a8 c1,Z v2 r.gY c2,Z v3 r.ig c3,Z N r.gX c4] 84);have b3:Ah w w (Ac u2 (Ak #[r.bO,r.at_,Z v1 r.a8 c1,Z v2 r.gY c2,Z v3 r.ig c3,Z N r.gX c4] 84)):=Ar (Ar E2.2 lR O) lR b2;exact⟨(E2.1.a7 O).a7 b2,AA.new _ _ _,cA.iE b2 lR,H.2.2.2.1.a7 b3 lR,Rd.a7 HF.2.2.1.2.2 b3 lR,Rd.a7 H.2.2.2.2 b3 lR,b3⟩
 have aA:=Av bZ;have fX:r.gX.length<=1024:=(GU bZ).1;clear bZ cA O E2 p2 m3;clear u1;go_upto_region 5 with fail
 generalize u2.heap.size=FB at E3⊢;refine Ax (λu=>Ae (FcR w u ⟨Z r1 p.aC r3,Z k1 p.dk k3,sO gk ok p.aD f3,Z t1 p.e8 t3⟩ p f (Z g7 f.bO g9) FB r (Z v1 r.a8 c1) (Z v2 r.gY c2) (Z v3 r.ig c3) (Z N r.gX c4) (Z ca costs cc) costs)) E3 ?_;rintro d E4;clear E3;clear u2;obtain⟨y0,y1,y2,y3,y4,y5⟩:=Eg E4.fb;by_cases aE:r.bO=0;case neg=>have HR:Ae (DC p (q:Int) costs (-1)):=.inl ⟨λf' r' _ _ h3 h4 h5=>by rw[lD,HF.1]at h3;cases h3;rw[h4.one aA]at h5;exact aE h5,rfl⟩;go_wp2_with fail;go_ret;exact⟨⟨-1,rfl,HR⟩,E4.ej⟩
 obtain⟨gb,ob,fA,go,oo,fC,O',D,L,cZ,d6,bI,dy,dd⟩:=Qc aA aE E4.rf;have HV:Ae (∀v,Ru p (q:Int) costs f.bO r v->DC p (q:Int) costs v):= λv hv=>.inr ⟨f,r,aI,oM,by rw[lD];exact HF.1,aA,aE,hv⟩
 have aj:=Av dy;clear dy;simp only[lB,mB]at cZ d6;obtain⟨rfl,rfl⟩:=cZ;obtain⟨rfl,dI,rfl⟩:=d6;have aZ:=Av (d5 dI (d5 bI dd));clear dI bI dd;rw[aE]at y0;go_wp2_with fail;have HI:=Av (aA.iq aE);have cR:=Av aE;clear aE;have fW:=HI.nb;have fH:=HI.len;have G0:Ae (∃vI vC bad C,Gp d (Ac d (Ak #[iZ 0,r.at_,sO gb ob r.a8 c1,sO go oo r.gY c2,Z v3 r.ig c3,Z N r.gX c4,sN,sN,false] 146)) d 0 r.at_ (sO gb ob r.a8 c1) (sO go oo r.gY c2) (Z v3 r.ig c3) (Z N r.gX c4) vI vC bad (List.range 0) C/\C.length=0/\(bad=true->(∃m∈r.a8,CZ f.bO costs m))/\(bad=false->YI f.bO costs r C 0)):=⟨sN,sN,false,[],⟨AA.new _ _ _,Nat.le_refl _,mI _ _ _ _,mI _ _ _ _, λb hb=>(by cases hb),Aq _ _, λy hy=>(by cases hy)⟩,rfl,(λh=>by cases h), λ_ b m hb=>absurd hb (Nat.not_lt_zero _)⟩
 clear y0 y1 y2 y3 y4 y5;generalize hG:d.heap.size=G at G0⊢;have HG:=Av hG;clear hG;go_loopw [10,11,12,13] (λi _ _ _ wr=>∃k:Nat,k<= ↑r.a8/\i=iZ k/\Ae (∃vI vC bad C,Gp d wr G 0 r.at_ (sO gb ob r.a8 c1) (sO go oo r.gY c2) (Z v3 r.ig c3) (Z N r.gX c4) vI vC bad (List.range k) C/\ ↑C=k/\(bad=true->(∃m∈r.a8,CZ f.bO costs m))/\(bad=false->YI f.bO costs r C k))) (λi _ _ _ _=> ↑r.a8-(intOf i).toNat)
 case atStart=>exact⟨0,oM,rfl,G0⟩
 clear G0;obtain⟨k,hk,rfl,E5⟩:=hrel;obtain⟨vI,vC,bad,C,aU,db⟩:=E5.o;have A:Ae (Gp d wr G 0 r.at_ (sO gb ob r.a8 c1) (sO go oo r.gY c2) (Z v3 r.ig c3) (Z N r.gX c4) vI vC bad (List.range k) C/\ ↑C=k/\(bad=true->(∃m∈r.a8,CZ f.bO costs m))/\(bad=false->YI f.bO costs r C k)):=⟨aU,db⟩
 clear E5 aU db;have y2:wr ⟨FB,2,M⟩=K (sO gb ob r.a8 c1):=Au A.1.ej (Eg E4.fb).2.2.1;by_cases cj:k< ↑r.a8
 case neg=>
  have y5:wr ⟨FB,5,M⟩=K (Z N r.gX c4):=Au A.1.ej (Eg E4.fb).2.2.2.2.2;obtain rfl:k=r.a8.length:=oM;have cg:=A.1;rw[aZ.1]at cg;obtain⟨gi,ci,gc,cX,dz⟩:=cg.gr A.2.1 aZ.2.1;have HB:=Av A.2;have bL:Ae (GF d r.a8 ⟨0,r.at_,gb,ob,c1,go,oo,c2,Z v3 r.ig c3,Z N r.gX c4,gi,ci,gc,cX⟩ (nx r.a8) O'.reverse):=aZ.2.2 _ rfl rfl rfl rfl;have F:=Av dz;clear dz cg A;generalize (⟨0,r.at_,gb,ob,c1,go,oo,c2,Z v3 r.ig c3,Z N r.gX c4,gi,ci,gc,cX⟩:GV)=xv at F bL;obtain⟨ys,cH,dQ,bJ⟩:=E4.rf.gX;have HY:=Av (d5 cH (d5 bJ (d5 ((λy hy=>⟨(bJ y hy).1.bW,(bJ y hy).2.bW⟩):(∀y∈ys,RA y)) ((by rw[<-cH,mD]):ys.length= ↑r.gX))))
  have dR:=Av (Rd.a7 dQ F.ej lR);clear cH dQ bJ;go_wp2_with fail;refine(Sf (Z N r.gX c4) r.gX ys wr HY.2.2.2 oM dR HY.2.2.1 (by have:=aj.kL;rw[<-HY.1,nm]at this;exact this)).mono ?_;rintro e u5 ⟨V,zs,rfl,hI,dJ,dK⟩;have am:=Av (d5 ((by rw[<-HY.1];exact dJ.map _):(zs.map Prod.fst).Perm r.gX) dK);clear dJ dK;obtain⟨az,cz,eV⟩:∃a c,V=Z a r.gX c:=by obtain⟨a,c,e⟩:=Rd.bW (Rd.ij hI.own);exact⟨a,c,e⟩
  subst eV;have F0:Ae (∃bd I C',Gr d u5 G r.a8 xv bd I C'/\IX d u5 (Z az r.gX cz) r.gX ys zs/\IF p (q:Int) costs f.bO r D L (zs.map Prod.fst) 0 bd I C'):=⟨_,_,_,F.a7 hI.ej,⟨A9 hI.own F.ej.size,hI.len,hI.sub,Ar F.ej lR hI.ej⟩,IF.start aj HB.1 F.cb HB.2⟩
  clear hI dR F y5;go_wp2_with fail;go_loopw [15] (λi wr=>∃k:Nat,k<= ↑r.gX/\i=iZ k/\Ae (∃bd I C',Gr d wr G r.a8 xv bd I C'/\IX d wr (Z az r.gX cz) r.gX ys zs/\IF p (q:Int) costs f.bO r D L (zs.map Prod.fst) k bd I C')) (λi _=> ↑r.gX-(intOf i).toNat)
  case atStart=>exact⟨0,oM,rfl,F0⟩
  clear F0;obtain⟨k,hk,rfl,E5⟩:=hrel;obtain⟨bd,I,C',dx,dF,dL⟩:=E5.o;have bg:=Av dL;clear dL;have A:=Av (d5 dx dF);clear dx dF E5;by_cases cj:k< ↑r.gX
  case pos=>
   have dE:(k:Int)<(r.gX:Int):=oM;obtain⟨gz,eM⟩:∃gz,az=K ⟨gz,0,M⟩:=by
    rcases Bo A.2.own with⟨e,h0⟩|⟨gz,c,e⟩
    . omega
    simp only[lB]at e;exact⟨gz,e.1⟩
   subst eM;obtain⟨z,a1,b1,d1,B,hz,cM,d7,d8,q0,q1,q2⟩:=A.2.at_ HY.2.2.1 cj;(have bp:Ae ((zs.map Prod.fst)[k]?=K z.1):=by show(zs.map Prod.fst)[k]?=K z.1;rw[mE,hz];rfl);(have bj:Ae (z.1∈r.gX):=by show z.1∈r.gX;rw[<-HY.1];exact mG.2 ⟨z,cM,rfl⟩);obtain⟨⟨hd,bq,eY⟩,bT,dj,dm⟩:=HI.loop _ bj;obtain⟨l,gy,gE⟩:=z;simp only[]at d7 d8 q0 q1 q2 bq bT dj dm bj bp;subst d7 d8;rw[bq]at q0;have T:Ae (l∈r.gX/\MK d ⟨Z a1 l.back b1,Z d1 l.a8 B⟩ l/\l.head=(hd:Int)/\hd< ↑r.a8/\(∀z∈l.a8,∃b:Nat,z=(b:Int)/\b< ↑r.a8)/\l.small):=⟨bj,HY.2.1 _ cM,bq,eY,bT,by unfold ML.small;omega⟩
   clear hz cM bq bT dj dm bj;have HC:Ae (∀W:Y,Ah d d W->W w=K (Z r1 p.aC r3)/\W ⟨w,1,M⟩=K (Z k1 p.dk k3)/\W ⟨w,2,M⟩=K (Z (K ⟨gk,ok,M⟩) p.aD f3)/\W ⟨w,3,M⟩=K (Z t1 p.e8 t3)):= λW hW=>⟨Au hW (A7 E4.pb).1,Au hW (A7 E4.pb).2.1,Au hW (A7 E4.pb).2.2.1,Au hW (A7 E4.pb).2.2.2⟩
   have HL:Ae (∀(W:Y),Ah wr wr W->W ⟨gz,k*3,M⟩=K ↑hd/\W ⟨gz,k*3+1,M⟩=K (Z a1 l.back b1)/\W ⟨gz,k*3+2,M⟩=K (Z d1 l.a8 B)):= λW hW=>⟨Au hW q0,Au hW q1,Au hW q2⟩
   clear q0 q1 q2;(go_upto_region 27 with fail);have R:Ae (Gr d wr.drew G r.a8 xv bd I C'/\IX d wr.drew (Z gz r.gX cz) r.gX ys zs/\Ah wr wr wr.drew):=⟨A.1.a7 (At _),A.2.a7 (At _),At _⟩
   refine wp_region_held_drew (S:= λW=>W w=K (Z r1 p.aC r3)/\W ⟨w,1,M⟩=K (Z k1 p.dk k3)/\W ⟨w,2,M⟩=K (Z (K ⟨gk,ok,M⟩) p.aD f3)/\W ⟨w,3,M⟩=K (Z t1 p.e8 t3)/\W ⟨gz,k*3,M⟩=K ↑hd/\W ⟨gz,k*3+1,M⟩=K (Z a1 l.back b1)/\W ⟨gz,k*3+2,M⟩=K (Z d1 l.a8 B)) kR (by obtain⟨s,E,h3,h4⟩:=HC.o _ R.1.ej;obtain⟨h5,h6,h7⟩:=HL.o _ R.2.2;exact⟨s,E,h3,h4,h5,h6,h7⟩) (λaq=> ?_)
   clear A;generalize wr.drew=UD at R aq⊢;refine AH 0 ?_;refine AH 1 ?_;refine AH 2 ?_;refine AH 3 ?_;refine AH 4 ?_;refine AH 5 ?_;refine CX 6 ?_;intro KC ao;go_simp;have bY:=JL ⟨Z r1 p.aC r3,Z k1 p.dk k3,Z (K ⟨gk,ok,M⟩) p.aD f3,Z t1 p.e8 t3⟩ p (q:Int) ⟨Z a1 l.back b1,Z d1 l.a8 B⟩ l UD H.1 H.2.1 H.2.2.1 (E4.rp.a7 R.1.ej lR) T.2.2.2.2.2 (T.2.1.a7 R.1.ej lR);rw[T.2.2.1]at bY;refine bY.mono ?_;clear bY;rintro e u6 ⟨⟨nf,rfl,dH⟩,O⟩;have E8:=Av (d5 (R.1.a7 O) (d5 (R.2.1.a7 O) (Ar R.2.2 lR O)));have bf:=Av dH;clear dH O R;refine ao.o _ _ (by obtain⟨s,E,h3,h4⟩:=HC.o _ E8.1.ej;obtain⟨h5,h6,h7⟩:=HL.o _ E8.2.2;exact⟨s,E,h3,h4,h5,h6,h7⟩) (λaq=> ?_);clear ao KC;refine AH 7 ?_;refine wpAnyH_done kR ?_ _;clear aq;by_cases aG:nf=0;(case neg=>(have fV:(nf != 0)=true:=by simpa using aG);have HR:=Av (HV.o _ (.inl ⟨.inl ⟨l,T.1,nf,aG,Ot.own bf aI HF.1 aA cR T.1⟩,rfl⟩));go_wp2_with fail;go_ret;exact⟨⟨-1,rfl,HR⟩,E4.ej.trans (E8.1.ej.mono E4.ej.size)⟩);subst aG;have eu:=Av (Ot.own bf aI HF.1 aA cR T.1);obtain⟨hb,c,bF,bx⟩:∃hb c,r.a8[hd]?=K hb/\Cj p.e8 (q:Int) hb.gZ=K c:=by
    rcases bf.o with⟨_,e⟩|⟨f',r',ho,hb,s,E⟩
    . cases e
    (have B:f'=f:=by have:=ho.2.2.1;rw[lD,HF.1]at this;exact(lP this).symm);subst B;have e2:r'=r:=Be.one ho.2.2.2.1 aA;subst e2;rw[T.2.2.1,lD]at s;rcases E with⟨_,e⟩|⟨c,g,E,_⟩
    . cases e
    exact⟨hb,c,s,E⟩
   obtain⟨d9,dU,fv,fE,eb,j0,_,_,_⟩:=Hk E4.rf.a8 bF;obtain⟨ja,je,e2,e3,br,bC⟩:=HI.ie hd hb bF;rw[e2]at j0 bx;simp only[lH,nF,nU]at eb;obtain⟨rfl,rfl⟩:=eb;(have e9:Ae (IA p (q:Int) r.a8 hd=c.init):=by show IA p (q:Int) r.a8 hd=c.init;unfold IA;rw[bF];simp only[];rw[e2,bx]);have HJ:=Av (d5 j0 (d5 ((Eg E4.fb).2.2.1) bx));have fO:(hd:Int)<(r.a8:Int):=oM;clear j0 bF e2 e3 bx br bC bf;(go_upto_region 29 with fail);have R:=Av (d5 (E8.1.a7 (At _)) (d5 (E8.2.1.a7 (At _)) (Ar E8.2.2 lR (At _))));refine wp_region_held_drew (S:= λW=>W w=K (Z r1 p.aC r3)/\W ⟨w,1,M⟩=K (Z k1 p.dk k3)/\W ⟨w,2,M⟩=K (sO gk ok p.aD f3)/\W ⟨w,3,M⟩=K (Z t1 p.e8 t3)/\W ⟨gz,k*3,M⟩=K ↑hd/\W ⟨gz,k*3+1,M⟩=K (Z a1 l.back b1)/\W ⟨gz,k*3+2,M⟩=K (Z d1 l.a8 B)/\W ⟨FB,2,M⟩=K (sO gb ob r.a8 c1)/\W ⟨gb,ob+hd*3,M⟩=K ↑ja) kR (by obtain⟨s,E,h3,h4⟩:=HC.o _ R.1.ej;obtain⟨h5,h6,h7⟩:=HL.o _ R.2.2;exact⟨s,E,h3,h4,h5,h6,h7,Au R.1.ej HJ.2.1,Au R.1.ej HJ.1⟩) (λaq=> ?_)
   clear E8;generalize u6.drew=UD at R aq⊢;refine AH 0 ?_;refine AH 1 ?_;refine AH 2 ?_;refine AH 3 ?_;refine AH 4 ?_;refine AH 5 ?_;refine AH 6 ?_;refine AH 7 ?_;refine AH 8 ?_;refine AH 9 ?_;refine AH 10 ?_;refine AH 11 ?_;refine AH 12 ?_;refine AH 13 ?_;refine AH 14 ?_;refine AH 15 ?_;refine AH 16 ?_;refine AH 17 ?_;refine AH 18 ?_;refine CX 19 ?_;intro KC ao;go_simp;refine(LY ⟨Z r1 p.aC r3,Z k1 p.dk k3,sO gk ok p.aD f3,Z t1 p.e8 t3⟩ p (q:Int) (ja:Int) UD H.1 (E4.rp.a7 R.1.ej lR)).mono ?_;rintro e u7 ⟨⟨nc,rfl,dG⟩,O⟩;have P:=Av (d5 (R.1.a7 O) (d5 (R.2.1.a7 O) (Ar R.2.2 lR O)));obtain⟨kt,ct,eP,bH,eT⟩:∃(kt:Nat) (ct:MT),nc=(kt:Int)/\p.e8[kt]?=K ct/\ct=c:=by
    rcases dG with⟨_,e⟩|⟨kt,ct,e,s,E⟩
    . rw[HJ.2.2]at e;cases e
    exact⟨kt,ct,e,s,by rw[HJ.2.2]at E;exact(lP E).symm⟩
   subst eT;subst eP;have fT:=(i8.1 bH).1;have fS:(kt:Int)<(p.e8:Int):=oM;obtain⟨gt,ot,et,dN⟩:∃gt ot,t1=K ⟨gt,ot,M⟩/\d ⟨gt,ot+kt*4+3,M⟩=K (Ag .u32 ct.init):=by
    rcases E4.rp.e8.2 with⟨e0,_⟩|⟨gt,ot,c',B,hc⟩
    . omega
    simp only[lB,mB]at B;exact⟨gt,ot,B.1,Rd.elem MT.dr hc kt ct bH 3 _ rfl⟩
   subst et;have bB:0<=ct.init/\ct.init<=4294967295:=by have:=(H.2.1.e8 ct (lA bH)).2.2.2;simpa[X3,Lit.wf,IntKind.min,IntKind.max,IntKind.signed,IntKind.bits]using this
   have f8:=Au P.1.ej dN;have gq:IntKind.i64.wrap ct.init=ct.init:=IntWalk.i64_in _ ⟨oM,oM⟩;clear dG bH O R dN;refine ao.o _ _ (by obtain⟨s,E,h3,h4⟩:=HC.o _ P.1.ej;obtain⟨h5,h6,h7⟩:=HL.o _ P.2.2;exact⟨s,E,h3,h4,h5,h6,h7,Au P.1.ej HJ.2.1,Au P.1.ej HJ.1⟩) (λaq=> ?_);clear ao KC;refine AH 20 ?_;refine AH 21 ?_;refine CX 22 ?_;intro KC ao;go_simp;refine ao.o _ _ (by obtain⟨s,E,h3,h4⟩:=HC.o _ P.1.ej;obtain⟨h5,h6,h7⟩:=HL.o _ P.2.2;exact⟨s,E,h3,h4,h5,h6,h7,Au P.1.ej HJ.2.1,Au P.1.ej HJ.1⟩) (λaq=> ?_);clear ao KC;refine AH 23 ?_;refine CX 24 ?_;intro KC ao;go_simp;refine(M6 d u7 G r.a8 xv bd I C' (nx r.a8) O'.reverse hd (Z a1 l.back b1) (Z d1 l.a8 B) l.back (l.a8.map Int.toNat) ct.init oM T.2.2.2.1 bB P.1 bL T.2.1.1 T.2.2.2.2.2.1 (Yr T.2.1.2 T.2.2.2.2.1) (by rw[mD];exact T.2.2.2.2.2.2) (Yy T.2.2.2.2.1) (bg.jo aj am.1 am.2 bp T.1 T.2.2.1) (bg.jh aj am.1 am.2 bp T.1 T.2.2.1) aj.oa).mono ?_;rintro e u8 ⟨rfl,fw,I2,tt,aT,dO,ce,de,dg⟩;have eG:=Av (bg.next aj am.1 am.2 bp T.1 T.2.2.1 eu e9 P.1.cl de dg dO);clear de dg dO;have dX:Ae (∃bd I C',Gr d u8 G r.a8 xv bd I C'/\IX d u8 (sG gz r.gX cz) r.gX ys zs/\IF p (q:Int) costs f.bO r D L (zs.map Prod.fst) (k+1) bd I C'):=⟨_,_,_,aT,P.2.1.fr P.1 aT.ej ce,eG⟩
   have bS:=Av aT.ej;(have cG:Ae (∀j,j<r.gX.length*3->u8 ⟨gz,j,M⟩=u7 ⟨gz,j,M⟩):= λj hj=>IX.same P.2.1 (P.2.1.fr P.1 aT.ej ce) j hj);clear aT ce f8;refine ao.o _ _ (by obtain⟨s,E,h3,h4⟩:=HC.o _ bS;obtain⟨h5,h6,h7⟩:=HL.o _ P.2.2;exact⟨s,E,h3,h4,(cG.o _ oM).trans h5,(cG.o _ oM).trans h6,(cG.o _ oM).trans h7,Au bS HJ.2.1,Au bS HJ.1⟩) (λaq=> ?_);clear ao KC;refine wpAnyH_done kR ?_ _;clear aq;go_wp2_with fail;go_roundw;(case rel=>exact⟨k+1,oM,by go_num,dX⟩);exact oI
  case neg=>
   have dW:wr ⟨FB,2,M⟩=K (sO gb ob r.a8 c1):=Au A.1.ej (Eg E4.fb).2.2.1;have dM:=A.1.ej.size;go_wp2_with (at_make;refine mm _ rfl _ _ 80 rfl d 4 j0 false 1 underlying80 hj fd fh Af Af _ _ r.a8 rfl rfl rfl rfl (by rw[fj];omega) oX dM ?_;intro w3 cw dA;rw[VV]at cw);have di:Ah wr wr w3:=(lu _ _).grown dA lR (λk hk=>by cases hk);have F1:=Av (d5 (A.1.a7 di) ((by rw[Jr (Q:= λ_=>false) (λi _=>sP)];exact cw):Ab w3 d 4 1 (sG wr r.a8 r.a8) r.a8 (bv (λj=>decide (j<0)) r.a8)));(have aP:Ae (IF p (q:Int) costs f.bO r D L (zs.map Prod.fst) (zs.map Prod.fst).length bd I C'):=by have s:=bg.o;have E:(zs.map Prod.fst).length=r.gX.length:=am.1.length_eq;rw[E];obtain rfl:k=r.gX.length:=oM;exact s);clear cw dA di dM A dW;generalize wr.heap.size=gn at F1⊢;go_loopw [17] (λi wr=>∃k:Nat,k<= ↑r.a8/\i=iZ k/\Ae (Gr d wr G r.a8 xv bd I C'/\Ab wr d 4 1 (sG gn r.a8 r.a8) r.a8 (bv (λj=>decide (j<k)) r.a8))) (λi _=> ↑r.a8-(intOf i).toNat)
   (case atStart=>exact⟨0,oM,rfl,F1⟩);clear F1;obtain⟨k,fR,rfl,E1⟩:=hrel;by_cases f7:k< ↑r.a8
   case pos=>
    have dE:(k:Int)<(r.a8:Int):=oM;have hP:=E1.2;have c0:=ms hP k oM;rw[Lq _ _ _ f7]at c0;have z0:=hP.frozenAt k;have E2:Ae (Gr d (Aa wr ⟨gn,k,M⟩ true) G r.a8 xv bd I C'/\Ab (Aa wr ⟨gn,k,M⟩ true) d 4 1 (sG gn r.a8 r.a8) r.a8 (bv (λj=>decide (j<k+1)) r.a8)):=by
     obtain⟨_,fD,B⟩:=AD hP;obtain⟨_,c2,e2⟩:=AD E1.1.iy;obtain⟨_,c3,e3⟩:=AD E1.1.cost;have e4:=E1.1.ie;unfold AA at e4;refine⟨E1.1.other (AD hP).1 (λq=> ?_) (λq=> ?_) (λq=> ?_),N0 hP λj _=> ?_⟩
     . rw[q,e4]at B;cases B
     . rw[q,e2]at B;cases B
     . rw[q,e3]at B;cases B
     by_cases e:j=k
     . subst e;simp
     rw[lS e];by_cases e2:j<k
     . rw[decide_eq_true e2,decide_eq_true (show j<k+1 from oM)]
     rw[mU e2,mU (show¬j<k+1 from oM)]
    clear hP;go_wp2_with fail;go_roundw;(case rel=>exact⟨k+1,oM,by go_num,E2⟩);exact oI
   case neg=>
    have hP:=E1.2;obtain⟨_,_,p6,_,_,_⟩:=E1.1.cells;have bI:=aZ.2.1;obtain⟨y0,dP,fk,i0⟩:=E1.1.jc bI;have fZ:(0:Int)<(r.a8:Int):=oM;have hR:=aP.fin aj am.1;(have fg:y0=0:=by rw[<-LW dP];exact hR.jh);(have dB:EU (λj=>decide (j<k)) r.a8= λb=>b<r.a8.length:=by (funext b);apply propext;unfold EU;simp only[my];exact⟨λh=>h.1, λh=>⟨h,oM⟩⟩);subst fg;have au:=Av (d5 hR dB);clear dP hR dB;go_wp2_with fail;refine(NH d wr G r.a8 xv bd I C' (nx r.a8) O'.reverse gn r.a8 0 (λj=>decide (j<k)) oM fk E1.1 bL hP (λb hb=>au.1.jo b hb.1) au.1.jh aj.oa).mono ?_;rintro e u9 ⟨gB,eJ,L9,rfl,hW,dh⟩;have bi:=Av dh;have eF:Ae (∀c,cf L9 c<=4294967295):= λc=>by
     unfold cf;rw[lN];cases e:L9[c]? with
     |none=>show(0:Int)<=_;omega
     |some y=>exact(hW.lb y (lA e)).2
    clear dh;have F2:=Av hW;clear hW hP E1 p6 i0;go_wp2_with fail;go_loopw [19,20] (λm b ft=>∃(q:Nat) (m0:Int),q<= ↑r.a8/\m=iZ m0/\b=iZ q/\ft=u9/\Ae (EP m0/\Cm (λb=>cf L9 (jf I b)) (λb=>b<q/\JJ f.bO r.a8 b) m0)) (λ_ b _=> ↑r.a8-(intOf b).toNat)
    (case atStart=>exact⟨0,0,oM,rfl,rfl,rfl,⟨⟨oM,oM⟩,Cm.none (λb hb=>oM)⟩⟩);obtain⟨qb,m0,gj,rfl,rfl,rfl,HM⟩:=hrel;obtain⟨_,_,p6,_,p8,_⟩:=F2.gr.cells;have dW:wr ⟨FB,2,M⟩=K (sO gb ob r.a8 c1):=Au F2.gr.ej (Eg E4.fb).2.2.1;by_cases dD:qb< ↑r.a8
    case neg=>
     cases eJ
     . go_wp2_with fail;go_ret;refine⟨⟨m0,rfl,HV.o _ (aP.done aj am.1 am.2 (λbt=> ?_) (λbt=>by have:=bi.1.mono bt;cases this))⟩,?_⟩
       . obtain rfl:qb=r.a8.length:=oM;have s:=bi.1.pass aj.fl (by rw[au.2];exact au.1) aP.cn (bi.2 sP) eF;rw[au.2]at s;exact .inr ⟨cf L9,s,HM.2⟩
       exact E4.ej.trans (F2.gr.ej.mono E4.ej.size)
     have HR:Ae (DC p (q:Int) costs (-1)):=HV.o _ (aP.done aj am.1 am.2 (λbt=>by have s:=bi.1;rw[bt]at s;have E:=s.iS aj.fl (by rw[au.2];exact au.1) aP.cn;rw[au.2]at E;exact .inl ⟨rfl,E⟩) (λ_=>rfl));go_wp2_with fail;go_ret;exact⟨⟨-1,rfl,HR⟩,E4.ej.trans (F2.gr.ej.mono E4.ej.size)⟩
    have fU:(qb:Int)<(r.a8:Int):=oM;obtain⟨m,hm⟩:∃m,r.a8[qb]?=K m:=⟨_,an dD⟩;obtain⟨d9,dU,a1,B,eb,_,j1,_,_⟩:=Hk E4.rf.a8 hm;obtain⟨ja,je,e2,e3,br,bC⟩:=HI.ie qb m hm;rw[e3]at j1;simp only[lH,nF,nU]at eb;obtain⟨rfl,rfl⟩:=eb;have i1:=Au F2.gr.ej j1;obtain⟨x,hx⟩:∃x,f.bO[je]?=K x:=⟨_,an bC⟩;obtain⟨fF,gw,fB,ei,dV,_,_,_⟩:=NC E4.rc hx;simp only[lB,mB]at ei;obtain⟨rfl,rfl⟩:=ei;have x0:=Au F2.gr.ej dV;have eZ:(je:Int)<(f.bO:Int):=oM;obtain⟨y,hy,fp,i0⟩:=F2.gr.jc dD;have gu:(y:Int)<(r.a8:Int):=oM;obtain⟨c,dq,hc,b0,_⟩:=F2.at_ fp;have bQ:Ae ((JJ f.bO r.a8 qb↔x.op=29)/\(λb=>cf L9 (jf I b)) qb=c):=⟨⟨λ⟨m',x',s,E,h3⟩=>by rw[hm]at s;(cases s);rw[e3,lD,hx]at E;(cases E);exact h3, λh=>⟨m,x,hm,by rw[e3,lD];exact hx,h⟩⟩,by show cf L9 (jf I qb)=c;rw[LW hy];exact Ed dq⟩
    clear j1 dV e2 e3 hm hx hy dq;by_cases ah:x.op=29;case neg=>
     (have fY:(x.op==29)=false:=by simpa using ah);have HM2:Ae (EP m0/\Cm (λb=>cf L9 (jf I b)) (λb=>b<(qb+1)/\JJ f.bO r.a8 b) m0):=⟨HM.1,HM.2.iff λb=>⟨λh=>⟨by
      by_cases e:b=qb
      . subst e;exact absurd (bQ.1.1 h.2) ah
      omega,h.2⟩, λh=>⟨oM,h.2⟩⟩⟩
     exact Wl
    rw[ah]at x0;have cU:Ae (Cm (λb=>cf L9 (jf I b)) (λb=>b<(qb+1)/\JJ f.bO r.a8 b) (max m0 c)):=by
     rw[<-bQ.2];exact HM.2.add λb=>⟨λh=>by
      by_cases e:b=qb
      . exact .inr e
      . exact .inl ⟨oM,h.2⟩, λh=>by
      rcases h with h|rfl
      . exact⟨oM,h.2⟩
      exact⟨oM,bQ.1.2 ah⟩⟩
    clear ah;by_cases fI:c>m0;(case pos=>go_wp2_with fail;go_roundw;(case rel=>exact⟨qb+1,c,oM,rfl,by go_num,trivial,⟨by have:=HM.1.1;omega,hc.2⟩,by have:=cU.o;rw[show max m0 c=c from oM]at this;exact this⟩);exact oI);have HM2:Ae (EP m0/\Cm (λb=>cf L9 (jf I b)) (λb=>b<(qb+1)/\JJ f.bO r.a8 b) m0):=⟨HM.1,by have:=cU.o;rw[show max m0 c=m0 from oM]at this;exact this⟩
    exact Wl
 have dE:(k:Int)<(r.a8:Int):=oM;obtain⟨m,hm⟩:∃m,r.a8[k]?=K m:=⟨_,an cj⟩;obtain⟨d9,dU,a1,B,eb,j0,j1,_,_⟩:=Hk E4.rf.a8 hm;obtain⟨ja,je,e2,e3,br,bC⟩:=HI.ie k m hm;rw[e2]at j0;rw[e3]at j1;simp only[lH,nF,nU]at eb;obtain⟨rfl,rfl⟩:=eb;have i0:=Au A.1.ej j0;have HJ:=Av (d5 j1 ((Eg E4.fb).2.2.1));have ae:=Av (d5 hm (d5 e2 (d5 e3 br)));clear j0 j1 hm e2 e3;go_wp2_with fail;go_loopw [11,12,13] (λc j _ wr=>∃(c0:Int) (jj:Nat),c=iZ c0/\j=iZ jj/\EP c0/\jj<=je+1/\Ae (∃bad,Gp d wr G 0 r.at_ (sO gb ob r.a8 c1) (sO go oo r.gY c2) (Z v3 r.ig c3) (Z N r.gX c4) vI vC bad (List.range k) C/\Uv f.bO costs r C k ja bad c0 jj)) (λ_ j _ _=>je+1-(intOf j).toNat)
 case atStart=>exact⟨0,ja,rfl,rfl,⟨oM,oM⟩,oM,_,A.1,Nat.le_refl _,A.2.2.1, λh=>⟨A.2.2.2 h, λj x s E=>oM,by rw[nM];rfl⟩⟩
 have aY:=Av A.2.1;clear A y2 i0;obtain⟨c0,jj,rfl,rfl,bu,fP,E5⟩:=hrel;obtain⟨bad,aU,dp⟩:=E5.o;have A:=Av aU;have aw:=Av dp;clear E5 aU dp;have y2:=Au A.ej HJ.2;have i1:=Au A.ej HJ.1;by_cases bG:jj<=je;case neg=>
  have dY:Ae ((bad=true->∃m∈r.a8,CZ f.bO costs m)/\(bad=false->YI f.bO costs r (C++[c0]) (k+1))):=by obtain rfl:jj=je+1:=oM;exact aw.done aY ae.1 ae.2.1 ae.2.2.1 bu.2
  have p6:=A.cells.1;have EA:Ae (Gp d (Ac wr (Ak #[k] 2)) G 0 r.at_ (sO gb ob r.a8 c1) (sO go oo r.gY c2) (Z v3 r.ig c3) (Z N r.gX c4) vI vC bad (List.range k) C):=A.a7 (Aq _ _);have OA:Ae (Ab (Ac wr (Ak #[k] 2)) d 2 1 vI k (nv (List.range k))):=by have:=EA.iy;rw[m8]at this;exact this
  have q6:=EA.cells.1;go_upto_region 22 with(first|(at_builtin;refine wpList_append_lies _ rfl _ _ 29 rfl d 2 dT (iZ 0) 1 8 underlying29 hi cI cJ dS rfl dC vI k (nv (List.range k)) rfl OA wr 1 1 [k] rfl rfl (J9 wr _ _) (λu hu=>by simp at hu;subst hu;rfl) oM oX oM EA.ej.size _ rfl ?_;intro g5 aR w5 aX aW aS cu;have PI:Ae _:=EA.ky k (sG g5 (k+1) aR) (by rw[m8];exact aX) aW (S8 aS);have s6:=PI.2.1;have cQ:=PI.2.2;clear aX aW aS cu)|go_in)
  have F:Ae (Gp d (Aa w5 ⟨G,6,M⟩ (sG g5 (k+1) aR)) G 0 r.at_ (sO gb ob r.a8 c1) (sO go oo r.gY c2) (Z v3 r.ig c3) (Z N r.gX c4) (sG g5 (k+1) aR) vC bad (List.range (k+1)) C):=by have:=PI.1;rw[<-nW]at this;exact this
  clear PI s6 cQ EA OA q6 p6 A y2 i1;refine Ax (λU=>Ae (Gp d U G 0 r.at_ (sO gb ob r.a8 c1) (sO go oo r.gY c2) (Z v3 r.ig c3) (Z N r.gX c4) (sG g5 (k+1) aR) vC bad (List.range (k+1)) C)) F ?_;clear F;rintro U F;have p7:=F.cells.2.1;have EB:Ae (Gp d (Ac U (Ak #[c0] 2)) G 0 r.at_ (sO gb ob r.a8 c1) (sO go oo r.gY c2) (Z v3 r.ig c3) (Z N r.gX c4) (sG g5 (k+1) aR) vC bad (List.range (k+1)) C):=F.a7 (Aq _ _);have OB:Ae (Ab (Ac U (Ak #[c0] 2)) d 2 1 vC k (C.flatMap As)):=by have:=EB.cost;rw[aY]at this;exact this
  have q7:=EB.cells.2.1;go_wp2_with (first|(at_builtin;refine wpList_append_lies _ rfl _ _ 29 rfl d 2 dT (iZ 0) 1 8 underlying29 hi cI cJ dS rfl dC vC k (C.flatMap As) rfl OB U 1 1 [c0] rfl rfl (J9 U _ _) (λu hu=>by simp at hu;subst hu;rfl) oM oX oM EB.ej.size _ rfl ?_;intro g6 eL w6 aX aW aS cu;have PI:Ae _:=EB.jw bu (sG g6 (k+1) eL) (by rw[aY];exact aX) aW (S8 aS);have s6:=PI.2.1;have cQ:=PI.2.2;clear aX aW aS cu)|go_in);clear s6 cQ q7 p7 EB OB F;go_roundw;case rel=>exact⟨k+1,oM,by go_num,_,_,_,_,PI.1,by rw[lG,aY];rfl,dY⟩
  exact oI
 have fQ:(jj:Int)<=(je:Int):=oM;obtain⟨x,hx⟩:∃x,f.bO[jj]?=K x:=⟨_,an oM⟩;obtain⟨gi,oi,ci,ei,x0,x1,x2,x3⟩:=NC E4.rc hx;simp only[lB,mB]at ei;obtain⟨rfl,rfl⟩:=ei;have eZ:(jj:Int)<(f.bO:Int):=oM;rw[<-A.ej.cell (g8 x0)]at x0;rw[<-A.ej.cell (g8 x1)]at x1;rw[<-A.ej.cell (g8 x2)]at x2;rw[<-A.ej.cell (g8 x3)]at x3;have HX:=Av hx;clear hx;go_upto_region 16 with fail
 have F:Ae (Gp d (Ac wr (Ak #[x.op,x.a,x.b,x.c] 79)) G 0 r.at_ (sO gb ob r.a8 c1) (sO go oo r.gY c2) (Z v3 r.ig c3) (Z N r.gX c4) vI vC bad (List.range k) C/\AA (Ac wr (Ak #[x.op,x.a,x.b,x.c] 79)) wr #[x.op,x.a,x.b,x.c] 79):=⟨A.a7 (Aq _ _),AA.new _ _ _⟩
 have eH:Ae (x.op=28->∃(q:Nat) (fq:MF),x.a=q/\p.aD[q]?=K fq):= λe=>(aI.parts.2.2.2.1 q (i8.1 HF.1).1 f HF.1 jj (i8.1 HX).1 x HX).callee e
 clear x0 x1 x2 x3 y2 i1 A;generalize wr.heap.size=X at F⊢;refine Ax (λU=>Ae (Gp d U G 0 r.at_ (sO gb ob r.a8 c1) (sO go oo r.gY c2) (Z v3 r.ig c3) (Z N r.gX c4) vI vC bad (List.range k) C/\AA U X #[x.op,x.a,x.b,x.c] 79)) F ?_
 clear F;rintro U F;have eQ:X≠G:= λe=>by
  have B:=F.2;have e2:=F.1.ie;unfold AA at B e2;rw[e,e2]at B;injection B with B
  injection B with _ B
  exact absurd B dC
 obtain⟨d0,d1,d2,d3⟩:=A7 F.2;go_wp2_with fail;refine(Cu x.op U).mono ?_;rintro e u3 ⟨rfl,O⟩;obtain⟨si,ci,fo,bR,bB⟩:=Ez x.op;rw[bR];have eX:=KD si ci fo;have aJ:=Av (Sq bR);have E8:=Av (d5 (F.1.a7 O) (F.2.a7 O));clear O F d0 d1 d2 d3 bR;go_wp2_with fail;refine(Gu G c0 ci _ u3 bu bB E8.1.cells.2.2.1 (E8.1.cells.2.2.2 8)).mono ?_;rintro e u4 ⟨c7,rfl,bV,hU⟩;have P:Ae (∃aQ,(Gp d u4 G 0 r.at_ (sO gb ob r.a8 c1) (sO go oo r.gY c2) (Z v3 r.ig c3) (Z N r.gX c4) vI vC aQ (List.range k) C/\AA u4 X #[x.op,x.a,x.b,x.c] 79)/\((aQ=true->∃m∈r.a8,CZ f.bO costs m)/\(aQ=false->bad=false/\c7=c0+ci))):=by
  rcases hU with⟨rfl,s,_⟩|⟨rfl,_,s⟩
  . exact⟨_,E8,aw.mid aM ae.1 ae.2.1 ae.2.2.1 bG HX aJ (.inl ⟨rfl,s⟩)⟩
  exact⟨_,⟨E8.1.iC,E8.2.other (a:=⟨G,8,M⟩) eQ _⟩,aw.mid aM ae.1 ae.2.1 ae.2.2.1 bG HX aJ (.inr ⟨rfl,s⟩)⟩
 clear hU E8 eX bB bu;obtain⟨aQ,dw,df⟩:=P.o;have F0:=Av dw;have bP:=Av df;clear dw df P;obtain⟨d0,d1,d2,d3⟩:=A7 F0.2;by_cases ah:x.op=28;case neg=>
  go_wp2_with fail;go_roundw;case rel=>exact⟨c7,jj+1,rfl,by go_num,bV,oM,aQ,F0.1,aw.plain aM HX aJ ah bP⟩
  exact oI
 obtain⟨cq,fq,aH,_⟩:=eH.o ah;have aF:=Av (d5 ah aH);have bK:Ae (¬KO costs x->DC p (q:Int) costs (-1)):= λhn=>HV.o _ (.inl ⟨.inr ⟨_,lA ae.1,.inl ⟨jj,x,by rw[ae.2.1];have:=aw.le;omega,by rw[ae.2.2.1];omega,HX,hn⟩⟩,rfl⟩)
 rw[aH]at d1;rw[ah]at d0;have dZ:=Av bV;clear bV;by_cases dt:(costs:Int)<=(cq:Int);case pos=>have fJ:(cq:Int)>=(costs:Int):=dt;have HR:=Av (bK.o λh=>by have:=(h ah).1;rw[aH,lD]at this;omega);clear ah aH;exact SQ
 have fK:¬(cq:Int)>=(costs:Int):=dt;have eS:cq<costs.length:=oM;have fL:(cq:Int)<(costs:Int):=oM;obtain⟨z,hz⟩:∃z,costs[cq]?=K z:=⟨_,an eS⟩;obtain⟨ga,oa,ea,kz⟩:∃ga oa,ca=K ⟨ga,oa,M⟩/\u4 ⟨ga,oa+cq,M⟩=K ↑z:=by
  have:=Rd.a7 E4.cs F0.1.ej lR;rcases this.2 with⟨e0,_⟩|⟨g1,o1,fy,B,hc⟩
  . omega
  simp only[lB,mB]at B;exact⟨g1,o1,B.1,hc cq _ (Di hz)⟩
 subst ea;have cW:=Av hz;have cT:Ae (cf costs x.a.toNat=z):=by show cf costs x.a.toNat=z;rw[aH,lD];exact Ed hz
 clear hz ah aH;by_cases cI:z<0;case pos=>have HR:=Av (bK.o λh=>by have:=(h aF.1).2.1;rw[cT]at this;omega);exact SQ
 by_cases cJ:z>4294967295;case pos=>have HR:=Av (bK.o λh=>by have:=(h aF.1).2.2;rw[cT]at this;omega);exact SQ
 go_wp2_with fail;refine(Gu G c7 z _ u4 dZ ⟨oM,oM⟩ F0.1.cells.2.2.1 (F0.1.cells.2.2.2 8)).mono ?_;rintro e u5 ⟨c8,rfl,eR,hU⟩;have F1:Ae (∃bad,Gp d u5 G 0 r.at_ (sO gb ob r.a8 c1) (sO go oo r.gY c2) (Z v3 r.ig c3) (Z N r.gX c4) vI vC bad (List.range k) C/\Uv f.bO costs r C k ja bad c8 (jj+1)):=by
  rcases hU with⟨rfl,s,_⟩|⟨rfl,_,s⟩
  . exact⟨_,F0.1,aw.call aM ae.1 ae.2.1 ae.2.2.1 bG HX aJ aF.1 aF.2 cW oM oM bP (.inl ⟨rfl,s⟩)⟩
  exact⟨_,F0.1.iC,aw.call aM ae.1 ae.2.1 ae.2.2.1 bG HX aJ aF.1 aF.2 cW oM oM bP (.inr ⟨rfl,s⟩)⟩
 clear hU F0 kz d0 d1 d2 d3;go_wp2_with fail;go_roundw;case rel=>exact⟨c8,jj+1,rfl,by go_num,eR,oM,F1⟩
 exact oI
end Go.Proofs.YtadcneiiokbofaaGreat
