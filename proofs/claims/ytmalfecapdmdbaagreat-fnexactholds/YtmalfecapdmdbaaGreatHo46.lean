import Derived.Test.YtmalfecapdmdbaaGreatHo44
import Derived.Test.YtmalfecapdmdbaaGreatHo41
namespace Go.Proofs.YtmalfecapdmdbaaGreat
open Go.ChangeShapes Go.WideShapes Go.ChangeAt Go.RowKit Go.Proofs.Tryz
set_option linter.unusedVariables false
open Go.Value renaming slice → Z,int → Ag,agg → Am
open Option renaming some → K,none → M
open Go renaming Value → J,World → Y,Calls → Ai
open Go.RowKit renaming Hid → Ae,Below → Ah
open Go.IntKind renaming i64 → Af
open Go.Obj renaming cells → Ak
open Go.Ending renaming returned → Al
open Go.Proofs.Tryz renaming prog → Ap
open Go.World renaming setCell → Aa,ownsRow → Ab,alloc → Ac
open List renaming flatMap → Ad
set_option maxHeartbeats 8000000
set_option maxRecDepth 100000
theorem Pn{w:Y}{xs:List MI}{r:DC}{u n U V:J}(h:Bg xs r)(e:r.eC=0)(t:FN w u n U V r):∃gb j cb i k co O D L,u=sO gb j r.a8 cb/\n=sO i k r.a8 co/\0<r.a8.length/\Gd r (nx r.a8) r.a8 O D L/\∀x:GV,x.gb=gb->x.ob=j->x.go=i->x.oo=k->GF w r.a8 x (nx r.a8) O.reverse:=by
 obtain⟨d,D,L,q⟩:=h.gd e;cases h with
 |none _=>cases e
 |off _ _ _=>cases e
 |lost _ _ _ _ _ _ _ _=>cases e
 |two _ _ _ _ _ _ _ _=>cases e
 | @good x S O D2 L2 I g x1 o1 v1 s1 d1 b1 i1 l1=>have m:=Hz g;have p:∀b,b<(AM xs).length->∀y∈nx (AM xs) b,y<(AM xs).length:=PG g;obtain⟨X,ae,l,F,_⟩:=Es m p v1 s1;obtain⟨gb,j,cb,v,G,_⟩:=Kp.ir g t.a8;(have E:d=O:=by have B:ints d.reverse=ints O.reverse:=q.ord.symm;have C:d.reverse=O.reverse:=(List.map_inj_right (f:= λ(x:Nat)=>(x:Int)) (λa b h=>by have W:(a:Int)=(b:Int):=h;omega)).1 B;exact List.reverse_inj.1 C);subst E;(have s:I5 w n d.reverse:=by have:=t.gJ;unfold I5;rw[C7];simp only[AZ]at this;exact this);obtain⟨a,c,z⟩:=Rd.dk s;subst z;obtain⟨i,k,A,_,H⟩:=s.all (by rw[mC,l];exact m);subst A;refine⟨gb,j,cb,i,k,c,d,D,L,v,by rw[mC,l],m,q, λx P Q R T=> ?_⟩;subst P Q R T;exact⟨G,H,by rw[mC,l], λy N=>(F y).1 (mc.1 N),p,Jk _ (Gc xs)⟩
theorem RZ{q:Prop}(h:q:=by go_wp2_with fail;go_ret;exact⟨⟨-1,rfl,HR⟩,E4.e8.trans (F0.1.e8.mono E4.e8.size)⟩):q:=h
theorem R4{q:Prop}(h:q:=by go_wp2_with fail;go_ret;exact⟨⟨-1,rfl,HR⟩,E2.2⟩):q:=h
theorem UW{q:Prop}(h:q:=by
 go_wp2_with fail;go_roundw;case rel=>exact⟨qb+1,m0,by omega,rfl,by go_num,trivial,HM2⟩
 simp[intOf];omega):q:=h
theorem Qc(v:VP)(p:MP)(fi:Int)(cv:J)(costs:List Int)(w:Y)(hs:p.small)(hw:p.wf)(dt:Dg fi)(h:Da w v p)(hc:Rd w 1 cv costs (Ad As costs))(fD:costs.length<=1048576):
 Ai Ap 38 #[Am #[v.r,v.k,v.f,v.t],fi,cv] w λe w'=>(∃n,e=Al (iZ n)/\Dr p fi costs n)/\Ah w w w':=by
 obtain⟨r1,r3,k1,k3,t1,t3,f1,f3,rfl⟩:=h.sl;obtain⟨ca,cc,ec⟩:=Rd.dk hc;have aM:Ae (∀op,0<=OJ op):= λop=>Rz op (En op)
 subst ec;obtain⟨dR,hi,cG,cH,dQ⟩:=lS Bp;obtain⟨j0,hj,eZ,f8,fd⟩:=lS Em;have H:=Av (d5 hs (d5 hw (d5 dt (d5 h hc))));clear hs hw dt h hc;have E0:Ae (AC (Ac w (Ak #[Z r1 p.bO r3,Z k1 p.ej k3,Z f1 p.bW f3,Z t1 p.eD t3] 36)) w #[Z r1 p.bO r3,Z k1 p.ej k3,Z f1 p.bW f3,Z t1 p.eD t3] 36/\Ah w w (Ac w (Ak #[Z r1 p.bO r3,Z k1 p.ej k3,Z f1 p.bW f3,Z t1 p.eD t3] 36))):=⟨AC.new _ _ _,Aq _ _⟩
 go_enter func38,ntmps38;go_upto_region 1 with fail
 refine Ax (λu=>Ae (AC u w #[Z r1 p.bO r3,Z k1 p.ej k3,Z f1 p.bW f3,Z t1 p.eD t3] 36/\Ah w w u)) E0 ?_
 rintro U0 E1;clear E0;obtain⟨p0,p1,p2,p3⟩:=BP E1.1;go_wp2_with fail;refine(Dj ⟨Z r1 p.bO r3,Z k1 p.ej k3,Z f1 p.bW f3,Z t1 p.eD t3⟩ p U0 H.1 H.2.1 (H.2.2.2.1.a7 E1.2 lR)).mono ?_;rintro e u1 ⟨⟨n,rfl,hn⟩,O⟩;have E2:=Av (d5 (E1.1.a7 O) (Ar E1.2 lR O));clear O E1 p0 p1 p2 p3;clear U0;have p2:=E2.1.cell 2;simp only[kB,i9,kC]at p2;by_cases aG:n=0;case neg=>have HR:Ae (Dr p fi costs (-1)):=.inl ⟨λf r s _ _ _ _=>aG (hn.one s),rfl⟩;clear hn;exact R4
 subst aG;have aI:=Av hn;clear hn;by_cases eS:fi<0;case pos=>
  have fJ:decide (fi<0)=true:=by simpa using eS
  have HR:Ae (Dr p fi costs (-1)):=.inl ⟨λf r _ E _ _ _=>oM,rfl⟩;exact R4
 by_cases fK:(p.bW:Int)<=fi;case pos=>have HR:Ae (Dr p fi costs (-1)):=.inl ⟨λf r _ E h3 _ _=>by have:=(i6.1 h3).1;omega,rfl⟩;exact R4
 obtain⟨q,rfl⟩:=kX (show 0<=fi from oM);obtain⟨f,hf⟩:∃f,p.bW[q]?=K f:=⟨_,an oM⟩;obtain⟨gk,ok,ck,cW,g,cw,m0,m1,m2,m3⟩:=Io H.2.2.2.1.bW hf;simp only[i8,lB]at cW;obtain⟨rfl,rfl⟩:=cW;obtain⟨g1,g3,g4,g6,g7,g9,rfl⟩:=EH cw;have fX:(q:Int)<(p.bW:Int):=oM;have HF:=Av (d5 hf (d5 (H.1.func f (i7 hf)) (d5 cw (Nat.pos_of_ne_zero (aI.parts.2.2.1.2.2.1 q (i6.1 hf).1 f hf).iU))));simp only[]at m0 m1 m2 m3;rw[<-E2.2.cell (hC m3)]at m3;clear cw hf m0 m1 m2;go_wp2_with fail;refine(Fb (Z g7 f.eC g9) f.eC u1 HF.2.1.2.2 (Rd.a7 HF.2.2.1.2.2 E2.2 lR)).mono ?_;rintro e u2 ⟨r,vb,vo,vi,vl,rfl,bV,cu,O⟩;obtain⟨v1,c1,v2,c2,v3,c3,N,c4,rfl,rfl,rfl,rfl⟩:=Jm cu;have E3:Ae (FcR w (Ac u2 (Ak #[r.eC,r.at_,Z v1 r.a8 c1,Z v2 r.gJ c2,Z v3 r.gQ c3,Z N r.gE c4] 80)) ⟨Z r1 p.bO r3,Z k1 p.ej k3,sO gk ok p.bW f3,Z t1 p.eD t3⟩ p f (Z g7 f.eC g9) u2 r (Z v1 r.a8 c1) (Z v2 r.gJ c2) (Z v3 r.gQ c3) (Z N r.gE c4) (Z ca costs cc) costs):=by have b2:=Aq u2 (Ak #[r.eC,r.at_,Z v1 r.a8 c1,Z v2 r.gJ c2,Z v3 r.gQ c3,Z N r.gE c4] 80);have b3:Ah w w (Ac u2 (Ak #[r.eC,r.at_,Z v1 r.a8 c1,Z v2 r.gJ c2,Z v3 r.gQ c3,Z N r.gE c4] 80)):=Ar (Ar E2.2 lR O) lR b2;exact⟨(E2.1.a7 O).a7 b2,AC.new _ _ _,cu.iT b2 lR,H.2.2.2.1.a7 b3 lR,Rd.a7 HF.2.2.1.2.2 b3 lR,Rd.a7 H.2.2.2.2 b3 lR,b3⟩
 have aA:=Av bV;have fU:r.gE.length<=1024:=(Gx bV).1;clear bV cu O E2 p2 m3;clear u1;go_upto_region 5 with fail
 generalize u2.heap.size=FB at E3⊢;refine Ax (λu=>Ae (FcR w u ⟨Z r1 p.bO r3,Z k1 p.ej k3,sO gk ok p.bW f3,Z t1 p.eD t3⟩ p f (Z g7 f.eC g9) FB r (Z v1 r.a8 c1) (Z v2 r.gJ c2) (Z v3 r.gQ c3) (Z N r.gE c4) (Z ca costs cc) costs)) E3 ?_;rintro d E4;clear E3;clear u2;obtain⟨y0,y1,y2,y3,y4,y5⟩:=G4 E4.fb;by_cases aE:r.eC=0;case neg=>have HR:Ae (Dr p (q:Int) costs (-1)):=.inl ⟨λf' r' _ _ h3 h4 h5=>by rw[kA,HF.1]at h3;cases h3;rw[h4.one aA]at h5;exact aE h5,rfl⟩;go_wp2_with fail;go_ret;exact⟨⟨-1,rfl,HR⟩,E4.e8⟩
 obtain⟨gb,ob,fv,go,oo,fy,O',D,L,cX,cY,bG,dw,d9⟩:=Pn aA aE E4.rf;have HV:Ae (∀v,QJ p (q:Int) costs f.eC r v->Dr p (q:Int) costs v):= λv hv=>.inr ⟨f,r,aI,oM,by rw[kA];exact HF.1,aA,aE,hv⟩
 have aj:=Av dw;clear dw;simp only[i8,lB]at cX cY;obtain⟨rfl,rfl⟩:=cX;obtain⟨rfl,dG,rfl⟩:=cY;have aZ:=Av (d5 dG (d5 bG d9));clear dG bG d9;rw[aE]at y0;go_wp2_with fail;have HI:=Av (aA.gW aE);have cM:=Av aE;clear aE;have fT:=HI.nb;have fE:=HI.len;have G0:Ae (∃vI vC bad C,Gp d (Ac d (Ak #[iZ 0,r.at_,sO gb ob r.a8 c1,sO go oo r.gJ c2,Z v3 r.gQ c3,Z N r.gE c4,sN,sN,false] 139)) d 0 r.at_ (sO gb ob r.a8 c1) (sO go oo r.gJ c2) (Z v3 r.gQ c3) (Z N r.gE c4) vI vC bad (List.range 0) C/\C.length=0/\(bad=true->(∃m∈r.a8,CT f.eC costs m))/\(bad=false->XG f.eC costs r C 0)):=⟨sN,sN,false,[],⟨AC.new _ _ _,Nat.le_refl _,lQ _ _ _ _,lQ _ _ _ _, λb hb=>(by cases hb),Aq _ _, λy hy=>(by cases hy)⟩,rfl,(λh=>by cases h), λ_ b m hb=>absurd hb (Nat.not_lt_zero _)⟩
 clear y0 y1 y2 y3 y4 y5;generalize hG:d.heap.size=G at G0⊢;have HG:=Av hG;clear hG;go_loopw [10,11,12,13] (λi _ _ _ wr=>∃k:Nat,k<= ↑r.a8/\i=iZ k/\Ae (∃vI vC bad C,Gp d wr G 0 r.at_ (sO gb ob r.a8 c1) (sO go oo r.gJ c2) (Z v3 r.gQ c3) (Z N r.gE c4) vI vC bad (List.range k) C/\ ↑C=k/\(bad=true->(∃m∈r.a8,CT f.eC costs m))/\(bad=false->XG f.eC costs r C k))) (λi _ _ _ _=> ↑r.a8-(intOf i).toNat)
 case atStart=>exact⟨0,oM,rfl,G0⟩
 clear G0;obtain⟨k,hk,rfl,E5⟩:=hrel;obtain⟨vI,vC,bad,C,aU,d8⟩:=E5.o;have A:Ae (Gp d wr G 0 r.at_ (sO gb ob r.a8 c1) (sO go oo r.gJ c2) (Z v3 r.gQ c3) (Z N r.gE c4) vI vC bad (List.range k) C/\ ↑C=k/\(bad=true->(∃m∈r.a8,CT f.eC costs m))/\(bad=false->XG f.eC costs r C k)):=⟨aU,d8⟩
 clear E5 aU d8;have y2:wr ⟨FB,2,M⟩=K (sO gb ob r.a8 c1):=Au A.1.e8 (G4 E4.fb).2.2.1;by_cases ce:k< ↑r.a8
 case neg=>
  have y5:wr ⟨FB,5,M⟩=K (Z N r.gE c4):=Au A.1.e8 (G4 E4.fb).2.2.2.2.2;obtain rfl:k=r.a8.length:=oM;have bZ:=A.1;rw[aZ.1]at bZ;obtain⟨gi,ci,gc,cU,dx⟩:=bZ.gr A.2.1 aZ.2.1;have HB:=Av A.2;have bJ:Ae (GF d r.a8 ⟨0,r.at_,gb,ob,c1,go,oo,c2,Z v3 r.gQ c3,Z N r.gE c4,gi,ci,gc,cU⟩ (nx r.a8) O'.reverse):=aZ.2.2 _ rfl rfl rfl rfl;have F:=Av dx;clear dx bZ A;generalize (⟨0,r.at_,gb,ob,c1,go,oo,c2,Z v3 r.gQ c3,Z N r.gE c4,gi,ci,gc,cU⟩:GV)=xv at F bJ;obtain⟨ys,cE,dO,bH⟩:=E4.rf.gE;have HY:=Av (d5 cE (d5 bH (d5 ((λy hy=>⟨(bH y hy).1.dk,(bH y hy).2.dk⟩):(∀y∈ys,QQ y)) ((by rw[<-cE,lC]):ys.length= ↑r.gE))))
  have dP:=Av (Rd.a7 dO F.e8 lR);clear cE dO bH;go_wp2_with fail;refine(Rq (Z N r.gE c4) r.gE ys wr HY.2.2.2 oM dP HY.2.2.1 (by have:=aj.jZ;rw[<-HY.1,mu]at this;exact this)).mono ?_;rintro e u5 ⟨V,zs,rfl,hI,dH,dI⟩;have am:=Av (d5 ((by rw[<-HY.1];exact dH.map _):(zs.map Prod.fst).Perm r.gE) dI);clear dH dI;obtain⟨az,cz,eV⟩:∃a c,V=Z a r.gE c:=by obtain⟨a,c,e⟩:=Rd.dk (Rd.gM hI.own);exact⟨a,c,e⟩
  subst eV;have F0:Ae (∃bd I C',Gr d u5 G r.a8 xv bd I C'/\Ix d u5 (Z az r.gE cz) r.gE ys zs/\Il p (q:Int) costs f.eC r D L (zs.map Prod.fst) 0 bd I C'):=⟨_,_,_,F.a7 hI.e8,⟨Br hI.own F.e8.size,hI.len,hI.sub,Ar F.e8 lR hI.e8⟩,Il.start aj HB.1 F.cb HB.2⟩
  clear hI dP F y5;go_wp2_with fail;go_loopw [15] (λi wr=>∃k:Nat,k<= ↑r.gE/\i=iZ k/\Ae (∃bd I C',Gr d wr G r.a8 xv bd I C'/\Ix d wr (Z az r.gE cz) r.gE ys zs/\Il p (q:Int) costs f.eC r D L (zs.map Prod.fst) k bd I C')) (λi _=> ↑r.gE-(intOf i).toNat)
  case atStart=>exact⟨0,oM,rfl,F0⟩
  clear F0;obtain⟨k,hk,rfl,E5⟩:=hrel;obtain⟨bd,I,C',dv,dD,dJ⟩:=E5.o;have bf:=Av dJ;clear dJ;have A:=Av (d5 dv dD);clear dv dD E5;by_cases ce:k< ↑r.gE
  case pos=>
   have dB:(k:Int)<(r.gE:Int):=oM;obtain⟨gz,eJ⟩:∃gz,az=K ⟨gz,0,M⟩:=by
    rcases BU A.2.own with⟨e,h0⟩|⟨gz,c,e⟩
    . omega
    simp only[i8]at e;exact⟨gz,e.1⟩
   subst eJ;obtain⟨z,a1,b1,d1,B,hz,cI,cZ,d6,q0,q1,q2⟩:=A.2.at_ HY.2.2.1 ce;(have bj:Ae ((zs.map Prod.fst)[k]?=K z.1):=by show(zs.map Prod.fst)[k]?=K z.1;rw[lE,hz];rfl);(have bi:Ae (z.1∈r.gE):=by show z.1∈r.gE;rw[<-HY.1];exact lA.2 ⟨z,cI,rfl⟩);obtain⟨⟨hd,bo,eU⟩,bR,dh,di⟩:=HI.loop _ bi;obtain⟨l,gq,gu⟩:=z;simp only[]at cZ d6 q0 q1 q2 bo bR dh di bi bj;subst cZ d6;rw[bo]at q0;have T:Ae (l∈r.gE/\Mj d ⟨Z a1 l.back b1,Z d1 l.a8 B⟩ l/\l.head=(hd:Int)/\hd< ↑r.a8/\(∀z∈l.a8,∃b:Nat,z=(b:Int)/\b< ↑r.a8)/\l.small):=⟨bi,HY.2.1 _ cI,bo,eU,bR,by unfold ML.small;omega⟩
   clear hz cI bo bR dh di bi;have HC:Ae (∀W:Y,Ah d d W->W w=K (Z r1 p.bO r3)/\W ⟨w,1,M⟩=K (Z k1 p.ej k3)/\W ⟨w,2,M⟩=K (Z (K ⟨gk,ok,M⟩) p.bW f3)/\W ⟨w,3,M⟩=K (Z t1 p.eD t3)):= λW hW=>⟨Au hW (BP E4.pb).1,Au hW (BP E4.pb).2.1,Au hW (BP E4.pb).2.2.1,Au hW (BP E4.pb).2.2.2⟩
   have HL:Ae (∀(W:Y),Ah wr wr W->W ⟨gz,k*3,M⟩=K ↑hd/\W ⟨gz,k*3+1,M⟩=K (Z a1 l.back b1)/\W ⟨gz,k*3+2,M⟩=K (Z d1 l.a8 B)):= λW hW=>⟨Au hW q0,Au hW q1,Au hW q2⟩
   clear q0 q1 q2;(go_upto_region 27 with fail);have R:Ae (Gr d wr.drew G r.a8 xv bd I C'/\Ix d wr.drew (Z gz r.gE cz) r.gE ys zs/\Ah wr wr wr.drew):=⟨A.1.a7 (At _),A.2.a7 (At _),At _⟩
   refine wp_region_held_drew (S:= λW=>W w=K (Z r1 p.bO r3)/\W ⟨w,1,M⟩=K (Z k1 p.ej k3)/\W ⟨w,2,M⟩=K (Z (K ⟨gk,ok,M⟩) p.bW f3)/\W ⟨w,3,M⟩=K (Z t1 p.eD t3)/\W ⟨gz,k*3,M⟩=K ↑hd/\W ⟨gz,k*3+1,M⟩=K (Z a1 l.back b1)/\W ⟨gz,k*3+2,M⟩=K (Z d1 l.a8 B)) kR (by obtain⟨s,E,h3,h4⟩:=HC.o _ R.1.e8;obtain⟨h5,h6,h7⟩:=HL.o _ R.2.2;exact⟨s,E,h3,h4,h5,h6,h7⟩) (λaq=> ?_)
   clear A;generalize wr.drew=UD at R aq⊢;refine AK 0 ?_;refine AK 1 ?_;refine AK 2 ?_;refine AK 3 ?_;refine AK 4 ?_;refine AK 5 ?_;refine D3 6 ?_;intro KC ao;go_simp;have bT:=Jp ⟨Z r1 p.bO r3,Z k1 p.ej k3,Z (K ⟨gk,ok,M⟩) p.bW f3,Z t1 p.eD t3⟩ p (q:Int) ⟨Z a1 l.back b1,Z d1 l.a8 B⟩ l UD H.1 H.2.1 H.2.2.1 (E4.rp.a7 R.1.e8 lR) T.2.2.2.2.2 (T.2.1.a7 R.1.e8 lR);rw[T.2.2.1]at bT;refine bT.mono ?_;clear bT;rintro e u6 ⟨⟨nf,rfl,dF⟩,O⟩;have E8:=Av (d5 (R.1.a7 O) (d5 (R.2.1.a7 O) (Ar R.2.2 lR O)));have b7:=Av dF;clear dF O R;refine ao.o _ _ (by obtain⟨s,E,h3,h4⟩:=HC.o _ E8.1.e8;obtain⟨h5,h6,h7⟩:=HL.o _ E8.2.2;exact⟨s,E,h3,h4,h5,h6,h7⟩) (λaq=> ?_);clear ao KC;refine AK 7 ?_;refine wpAnyH_done kR ?_ _;clear aq;by_cases aG:nf=0;(case neg=>(have fS:(nf != 0)=true:=by simpa using aG);have HR:=Av (HV.o _ (.inl ⟨.inl ⟨l,T.1,nf,aG,NQ.own b7 aI HF.1 aA cM T.1⟩,rfl⟩));go_wp2_with fail;go_ret;exact⟨⟨-1,rfl,HR⟩,E4.e8.trans (E8.1.e8.mono E4.e8.size)⟩);subst aG;have e9:=Av (NQ.own b7 aI HF.1 aA cM T.1);obtain⟨hb,c,bB,bt⟩:∃hb c,r.a8[hd]?=K hb/\Ce p.eD (q:Int) hb.gH=K c:=by
    rcases b7.o with⟨_,e⟩|⟨f',r',ho,hb,s,E⟩
    . cases e
    (have B:f'=f:=by have:=ho.2.2.1;rw[kA,HF.1]at this;exact(kH this).symm);subst B;have e2:r'=r:=Bg.one ho.2.2.2.1 aA;subst e2;rw[T.2.2.1,kA]at s;rcases E with⟨_,e⟩|⟨c,g,E,_⟩
    . cases e
    exact⟨hb,c,s,E⟩
   obtain⟨d7,dT,fk,fB,eb,j0,_,_,_⟩:=ID E4.rf.a8 bB;obtain⟨ja,je,e2,e3,bp,bx⟩:=HI.gK hd hb bB;rw[e2]at j0 bt;simp only[kI,mE,mV]at eb;obtain⟨rfl,rfl⟩:=eb;(have dZ:Ae (Ih p (q:Int) r.a8 hd=c.init):=by show Ih p (q:Int) r.a8 hd=c.init;unfold Ih;rw[bB];simp only[];rw[e2,bt]);have HJ:=Av (d5 j0 (d5 ((G4 E4.fb).2.2.1) bt));have fL:(hd:Int)<(r.a8:Int):=oM;clear j0 bB e2 e3 bt bp bx b7;(go_upto_region 29 with fail);have R:=Av (d5 (E8.1.a7 (At _)) (d5 (E8.2.1.a7 (At _)) (Ar E8.2.2 lR (At _))));refine wp_region_held_drew (S:= λW=>W w=K (Z r1 p.bO r3)/\W ⟨w,1,M⟩=K (Z k1 p.ej k3)/\W ⟨w,2,M⟩=K (sO gk ok p.bW f3)/\W ⟨w,3,M⟩=K (Z t1 p.eD t3)/\W ⟨gz,k*3,M⟩=K ↑hd/\W ⟨gz,k*3+1,M⟩=K (Z a1 l.back b1)/\W ⟨gz,k*3+2,M⟩=K (Z d1 l.a8 B)/\W ⟨FB,2,M⟩=K (sO gb ob r.a8 c1)/\W ⟨gb,ob+hd*3,M⟩=K ↑ja) kR (by obtain⟨s,E,h3,h4⟩:=HC.o _ R.1.e8;obtain⟨h5,h6,h7⟩:=HL.o _ R.2.2;exact⟨s,E,h3,h4,h5,h6,h7,Au R.1.e8 HJ.2.1,Au R.1.e8 HJ.1⟩) (λaq=> ?_)
   clear E8;generalize u6.drew=UD at R aq⊢;refine AK 0 ?_;refine AK 1 ?_;refine AK 2 ?_;refine AK 3 ?_;refine AK 4 ?_;refine AK 5 ?_;refine AK 6 ?_;refine AK 7 ?_;refine AK 8 ?_;refine AK 9 ?_;refine AK 10 ?_;refine AK 11 ?_;refine AK 12 ?_;refine AK 13 ?_;refine AK 14 ?_;refine AK 15 ?_;refine AK 16 ?_;refine AK 17 ?_;refine AK 18 ?_;refine D3 19 ?_;intro KC ao;go_simp;refine(Lv ⟨Z r1 p.bO r3,Z k1 p.ej k3,sO gk ok p.bW f3,Z t1 p.eD t3⟩ p (q:Int) (ja:Int) UD H.1 (E4.rp.a7 R.1.e8 lR)).mono ?_;rintro e u7 ⟨⟨nc,rfl,dE⟩,O⟩;have P:=Av (d5 (R.1.a7 O) (d5 (R.2.1.a7 O) (Ar R.2.2 lR O)));obtain⟨kt,ct,eL,bF,eR⟩:∃(kt:Nat) (ct:MT),nc=(kt:Int)/\p.eD[kt]?=K ct/\ct=c:=by
    rcases dE with⟨_,e⟩|⟨kt,ct,e,s,E⟩
    . rw[HJ.2.2]at e;cases e
    exact⟨kt,ct,e,s,by rw[HJ.2.2]at E;exact(kH E).symm⟩
   subst eR;subst eL;have fQ:=(i6.1 bF).1;have fP:(kt:Int)<(p.eD:Int):=oM;obtain⟨gt,ot,et,dL⟩:∃gt ot,t1=K ⟨gt,ot,M⟩/\d ⟨gt,ot+kt*4+3,M⟩=K (Ag .u32 ct.init):=by
    rcases E4.rp.eD.2 with⟨e0,_⟩|⟨gt,ot,c',B,hc⟩
    . omega
    simp only[i8,lB]at B;exact⟨gt,ot,B.1,Rd.elem MT.dr hc kt ct bF 3 _ rfl⟩
   subst et;have bu:0<=ct.init/\ct.init<=4294967295:=by have:=(H.2.1.eD ct (i7 bF)).2.2.2;simpa[WO,Lit.wf,IntKind.min,IntKind.max,IntKind.signed,IntKind.bits]using this
   have eY:=Au P.1.e8 dL;have fZ:IntKind.i64.wrap ct.init=ct.init:=IntWalk.i64_in _ ⟨oM,oM⟩;clear dE bF O R dL;refine ao.o _ _ (by obtain⟨s,E,h3,h4⟩:=HC.o _ P.1.e8;obtain⟨h5,h6,h7⟩:=HL.o _ P.2.2;exact⟨s,E,h3,h4,h5,h6,h7,Au P.1.e8 HJ.2.1,Au P.1.e8 HJ.1⟩) (λaq=> ?_);clear ao KC;refine AK 20 ?_;refine AK 21 ?_;refine D3 22 ?_;intro KC ao;go_simp;refine ao.o _ _ (by obtain⟨s,E,h3,h4⟩:=HC.o _ P.1.e8;obtain⟨h5,h6,h7⟩:=HL.o _ P.2.2;exact⟨s,E,h3,h4,h5,h6,h7,Au P.1.e8 HJ.2.1,Au P.1.e8 HJ.1⟩) (λaq=> ?_);clear ao KC;refine AK 23 ?_;refine D3 24 ?_;intro KC ao;go_simp;refine(ME d u7 G r.a8 xv bd I C' (nx r.a8) O'.reverse hd (Z a1 l.back b1) (Z d1 l.a8 B) l.back (l.a8.map Int.toNat) ct.init oM T.2.2.2.1 bu P.1 bJ T.2.1.1 T.2.2.2.2.2.1 (Xo T.2.1.2 T.2.2.2.2.1) (by rw[lC];exact T.2.2.2.2.2.2) (Xw T.2.2.2.2.1) (bf.jo aj am.1 am.2 bj T.1 T.2.2.1) (bf.jh aj am.1 am.2 bj T.1 T.2.2.1) aj.oa).mono ?_;rintro e u8 ⟨rfl,fp,I2,tt,aT,dM,bY,db,de⟩;have ew:=Av (bf.next aj am.1 am.2 bj T.1 T.2.2.1 e9 dZ P.1.cl db de dM);clear db de dM;have dW:Ae (∃bd I C',Gr d u8 G r.a8 xv bd I C'/\Ix d u8 (sG gz r.gE cz) r.gE ys zs/\Il p (q:Int) costs f.eC r D L (zs.map Prod.fst) (k+1) bd I C'):=⟨_,_,_,aT,P.2.1.fr P.1 aT.e8 bY,ew⟩
   have bQ:=Av aT.e8;(have cA:Ae (∀j,j<r.gE.length*3->u8 ⟨gz,j,M⟩=u7 ⟨gz,j,M⟩):= λj hj=>Ix.same P.2.1 (P.2.1.fr P.1 aT.e8 bY) j hj);clear aT bY eY;refine ao.o _ _ (by obtain⟨s,E,h3,h4⟩:=HC.o _ bQ;obtain⟨h5,h6,h7⟩:=HL.o _ P.2.2;exact⟨s,E,h3,h4,(cA.o _ oM).trans h5,(cA.o _ oM).trans h6,(cA.o _ oM).trans h7,Au bQ HJ.2.1,Au bQ HJ.1⟩) (λaq=> ?_);clear ao KC;refine wpAnyH_done kR ?_ _;clear aq;go_wp2_with fail;go_roundw;(case rel=>exact⟨k+1,oM,by go_num,dW⟩);exact oI
  case neg=>
   have dV:wr ⟨FB,2,M⟩=K (sO gb ob r.a8 c1):=Au A.1.e8 (G4 E4.fb).2.2.1;have dK:=A.1.e8.size;go_wp2_with (at_make;refine l8 _ rfl _ _ 67 rfl d 4 j0 false 1 underlying67 hj eZ f8 Af Af _ _ r.a8 rfl rfl rfl rfl (by rw[fd];omega) oX dK ?_;intro w3 cj dy;rw[UI]at cj);have dg:Ah wr wr w3:=(kS _ _).grown dy lR (λk hk=>by cases hk);have F1:=Av (d5 (A.1.a7 dg) ((by rw[I7 (Q:= λ_=>false) (λi _=>sP)];exact cj):Ab w3 d 4 1 (sG wr r.a8 r.a8) r.a8 (bv (λj=>decide (j<0)) r.a8)));(have aP:Ae (Il p (q:Int) costs f.eC r D L (zs.map Prod.fst) (zs.map Prod.fst).length bd I C'):=by have s:=bf.o;have E:(zs.map Prod.fst).length=r.gE.length:=am.1.length_eq;rw[E];obtain rfl:k=r.gE.length:=oM;exact s);clear cj dy dg dK A dV;generalize wr.heap.size=gn at F1⊢;go_loopw [17] (λi wr=>∃k:Nat,k<= ↑r.a8/\i=iZ k/\Ae (Gr d wr G r.a8 xv bd I C'/\Ab wr d 4 1 (sG gn r.a8 r.a8) r.a8 (bv (λj=>decide (j<k)) r.a8))) (λi _=> ↑r.a8-(intOf i).toNat)
   (case atStart=>exact⟨0,oM,rfl,F1⟩);clear F1;obtain⟨k,fO,rfl,E1⟩:=hrel;by_cases eX:k< ↑r.a8
   case pos=>
    have dB:(k:Int)<(r.a8:Int):=oM;have hP:=E1.2;have c0:=lj hP k oM;rw[KX _ _ _ eX]at c0;have z0:=hP.frozenAt k;have E2:Ae (Gr d (Aa wr ⟨gn,k,M⟩ true) G r.a8 xv bd I C'/\Ab (Aa wr ⟨gn,k,M⟩ true) d 4 1 (sG gn r.a8 r.a8) r.a8 (bv (λj=>decide (j<k+1)) r.a8)):=by
     obtain⟨_,fA,B⟩:=AD hP;obtain⟨_,c2,e2⟩:=AD E1.1.ia;obtain⟨_,c3,e3⟩:=AD E1.1.cost;have e4:=E1.1.gK;unfold AC at e4;refine⟨E1.1.other (AD hP).1 (λq=> ?_) (λq=> ?_) (λq=> ?_),Nn hP λj _=> ?_⟩
     . rw[q,e4]at B;cases B
     . rw[q,e2]at B;cases B
     . rw[q,e3]at B;cases B
     by_cases e:j=k
     . subst e;simp
     rw[kP e];by_cases e2:j<k
     . rw[decide_eq_true e2,decide_eq_true (show j<k+1 from oM)]
     rw[lZ e2,lZ (show¬j<k+1 from oM)]
    clear hP;go_wp2_with fail;go_roundw;(case rel=>exact⟨k+1,oM,by go_num,E2⟩);exact oI
   case neg=>
    have hP:=E1.2;obtain⟨_,_,p6,_,_,_⟩:=E1.1.cells;have bG:=aZ.2.1;obtain⟨y0,dN,fg,i0⟩:=E1.1.iM bG;have fW:(0:Int)<(r.a8:Int):=oM;have hR:=aP.fin aj am.1;(have f7:y0=0:=by rw[<-Ls dN];exact hR.jh);(have dz:Ez (λj=>decide (j<k)) r.a8= λb=>b<r.a8.length:=by (funext b);apply propext;unfold Ez;simp only[mB];exact⟨λh=>h.1, λh=>⟨h,oM⟩⟩);subst f7;have au:=Av (d5 hR dz);clear dN hR dz;go_wp2_with fail;refine(Na d wr G r.a8 xv bd I C' (nx r.a8) O'.reverse gn r.a8 0 (λj=>decide (j<k)) oM fg E1.1 bJ hP (λb hb=>au.1.jo b hb.1) au.1.jh aj.oa).mono ?_;rintro e u9 ⟨gB,eG,L9,rfl,hW,df⟩;have bg:=Av df;have eu:Ae (∀c,cf L9 c<=4294967295):= λc=>by
     unfold cf;rw[kL];cases e:L9[c]? with
     |none=>show(0:Int)<=_;omega
     |some y=>exact(hW.lb y (i7 e)).2
    clear df;have F2:=Av hW;clear hW hP E1 p6 i0;go_wp2_with fail;go_loopw [19,20] (λm b fj=>∃(q:Nat) (m0:Int),q<= ↑r.a8/\m=iZ m0/\b=iZ q/\fj=u9/\Ae (Ew m0/\Ck (λb=>cf L9 (jf I b)) (λb=>b<q/\Jn f.eC r.a8 b) m0)) (λ_ b _=> ↑r.a8-(intOf b).toNat)
    (case atStart=>exact⟨0,0,oM,rfl,rfl,rfl,⟨⟨oM,oM⟩,Ck.none (λb hb=>oM)⟩⟩);obtain⟨qb,m0,fY,rfl,rfl,rfl,HM⟩:=hrel;obtain⟨_,_,p6,_,p8,_⟩:=F2.gr.cells;have dV:wr ⟨FB,2,M⟩=K (sO gb ob r.a8 c1):=Au F2.gr.e8 (G4 E4.fb).2.2.1;by_cases dA:qb< ↑r.a8
    case neg=>
     cases eG
     . go_wp2_with fail;go_ret;refine⟨⟨m0,rfl,HV.o _ (aP.done aj am.1 am.2 (λbq=> ?_) (λbq=>by have:=bg.1.mono bq;cases this))⟩,?_⟩
       . obtain rfl:qb=r.a8.length:=oM;have s:=bg.1.pass aj.fl (by rw[au.2];exact au.1) aP.cn (bg.2 sP) eu;rw[au.2]at s;exact .inr ⟨cf L9,s,HM.2⟩
       exact E4.e8.trans (F2.gr.e8.mono E4.e8.size)
     have HR:Ae (Dr p (q:Int) costs (-1)):=HV.o _ (aP.done aj am.1 am.2 (λbq=>by have s:=bg.1;rw[bq]at s;have E:=s.iH aj.fl (by rw[au.2];exact au.1) aP.cn;rw[au.2]at E;exact .inl ⟨rfl,E⟩) (λ_=>rfl));go_wp2_with fail;go_ret;exact⟨⟨-1,rfl,HR⟩,E4.e8.trans (F2.gr.e8.mono E4.e8.size)⟩
    have fR:(qb:Int)<(r.a8:Int):=oM;obtain⟨m,hm⟩:∃m,r.a8[qb]?=K m:=⟨_,an dA⟩;obtain⟨d7,dT,a1,B,eb,_,j1,_,_⟩:=ID E4.rf.a8 hm;obtain⟨ja,je,e2,e3,bp,bx⟩:=HI.gK qb m hm;rw[e3]at j1;simp only[kI,mE,mV]at eb;obtain⟨rfl,rfl⟩:=eb;have i1:=Au F2.gr.e8 j1;obtain⟨x,hx⟩:∃x,f.eC[je]?=K x:=⟨_,an bx⟩;obtain⟨fC,gj,fw,ei,dU,_,_,_⟩:=M6 E4.rc hx;simp only[i8,lB]at ei;obtain⟨rfl,rfl⟩:=ei;have x0:=Au F2.gr.e8 dU;have eW:(je:Int)<(f.eC:Int):=oM;obtain⟨y,hy,fh,i0⟩:=F2.gr.iM dA;have gh:(y:Int)<(r.a8:Int):=oM;obtain⟨c,dm,hc,b0,_⟩:=F2.at_ fh;have bL:Ae ((Jn f.eC r.a8 qb↔x.op=29)/\(λb=>cf L9 (jf I b)) qb=c):=⟨⟨λ⟨m',x',s,E,h3⟩=>by rw[hm]at s;(cases s);rw[e3,kA,hx]at E;(cases E);exact h3, λh=>⟨m,x,hm,by rw[e3,kA];exact hx,h⟩⟩,by show cf L9 (jf I qb)=c;rw[Ls hy];exact DL dm⟩
    clear j1 dU e2 e3 hm hx hy dm;by_cases ah:x.op=29;case neg=>
     (have fV:(x.op==29)=false:=by simpa using ah);have HM2:Ae (Ew m0/\Ck (λb=>cf L9 (jf I b)) (λb=>b<(qb+1)/\Jn f.eC r.a8 b) m0):=⟨HM.1,HM.2.iff λb=>⟨λh=>⟨by
      by_cases e:b=qb
      . subst e;exact absurd (bL.1.1 h.2) ah
      omega,h.2⟩, λh=>⟨oM,h.2⟩⟩⟩
     exact UW
    rw[ah]at x0;have cR:Ae (Ck (λb=>cf L9 (jf I b)) (λb=>b<(qb+1)/\Jn f.eC r.a8 b) (max m0 c)):=by
     rw[<-bL.2];exact HM.2.add λb=>⟨λh=>by
      by_cases e:b=qb
      . exact .inr e
      . exact .inl ⟨oM,h.2⟩, λh=>by
      rcases h with h|rfl
      . exact⟨oM,h.2⟩
      exact⟨oM,bL.1.2 ah⟩⟩
    clear ah;by_cases fF:c>m0;(case pos=>go_wp2_with fail;go_roundw;(case rel=>exact⟨qb+1,c,oM,rfl,by go_num,trivial,⟨by have:=HM.1.1;omega,hc.2⟩,by have:=cR.o;rw[show max m0 c=c from oM]at this;exact this⟩);exact oI);have HM2:Ae (Ew m0/\Ck (λb=>cf L9 (jf I b)) (λb=>b<(qb+1)/\Jn f.eC r.a8 b) m0):=⟨HM.1,by have:=cR.o;rw[show max m0 c=m0 from oM]at this;exact this⟩
    exact UW
 have dB:(k:Int)<(r.a8:Int):=oM;obtain⟨m,hm⟩:∃m,r.a8[k]?=K m:=⟨_,an ce⟩;obtain⟨d7,dT,a1,B,eb,j0,j1,_,_⟩:=ID E4.rf.a8 hm;obtain⟨ja,je,e2,e3,bp,bx⟩:=HI.gK k m hm;rw[e2]at j0;rw[e3]at j1;simp only[kI,mE,mV]at eb;obtain⟨rfl,rfl⟩:=eb;have i0:=Au A.1.e8 j0;have HJ:=Av (d5 j1 ((G4 E4.fb).2.2.1));have ae:=Av (d5 hm (d5 e2 (d5 e3 bp)));clear j0 j1 hm e2 e3;go_wp2_with fail;go_loopw [11,12,13] (λc j _ wr=>∃(c0:Int) (jj:Nat),c=iZ c0/\j=iZ jj/\Ew c0/\jj<=je+1/\Ae (∃bad,Gp d wr G 0 r.at_ (sO gb ob r.a8 c1) (sO go oo r.gJ c2) (Z v3 r.gQ c3) (Z N r.gE c4) vI vC bad (List.range k) C/\TJ f.eC costs r C k ja bad c0 jj)) (λ_ j _ _=>je+1-(intOf j).toNat)
 case atStart=>exact⟨0,ja,rfl,rfl,⟨oM,oM⟩,oM,_,A.1,Nat.le_refl _,A.2.2.1, λh=>⟨A.2.2.2 h, λj x s E=>oM,by rw[mU];rfl⟩⟩
 have aY:=Av A.2.1;clear A y2 i0;obtain⟨c0,jj,rfl,rfl,br,fM,E5⟩:=hrel;obtain⟨bad,aU,dj⟩:=E5.o;have A:=Av aU;have aw:=Av dj;clear E5 aU dj;have y2:=Au A.e8 HJ.2;have i1:=Au A.e8 HJ.1;by_cases bC:jj<=je;case neg=>
  have dX:Ae ((bad=true->∃m∈r.a8,CT f.eC costs m)/\(bad=false->XG f.eC costs r (C++[c0]) (k+1))):=by obtain rfl:jj=je+1:=oM;exact aw.done aY ae.1 ae.2.1 ae.2.2.1 br.2
  have p6:=A.cells.1;have EA:Ae (Gp d (Ac wr (Ak #[k] 2)) G 0 r.at_ (sO gb ob r.a8 c1) (sO go oo r.gJ c2) (Z v3 r.gQ c3) (Z N r.gE c4) vI vC bad (List.range k) C):=A.a7 (Aq _ _);have OA:Ae (Ab (Ac wr (Ak #[k] 2)) d 2 1 vI k (nv (List.range k))):=by have:=EA.ia;rw[mM]at this;exact this
  have q6:=EA.cells.1;go_upto_region 22 with(first|(at_builtin;refine wpList_append_lies _ rfl _ _ 46 rfl d 2 dR (iZ 0) 1 8 underlying46 hi cG cH dQ rfl dC vI k (nv (List.range k)) rfl OA wr 1 1 [k] rfl rfl (JJ wr _ _) (λu hu=>by simp at hu;subst hu;rfl) oM oX oM EA.e8.size _ rfl ?_;intro g5 aR w5 aX aW aS cg;have PI:Ae _:=EA.jT k (sG g5 (k+1) aR) (by rw[mM];exact aX) aW (Sh aS);have s6:=PI.2.1;have cJ:=PI.2.2;clear aX aW aS cg)|go_in)
  have F:Ae (Gp d (Aa w5 ⟨G,6,M⟩ (sG g5 (k+1) aR)) G 0 r.at_ (sO gb ob r.a8 c1) (sO go oo r.gJ c2) (Z v3 r.gQ c3) (Z N r.gE c4) (sG g5 (k+1) aR) vC bad (List.range (k+1)) C):=by have:=PI.1;rw[<-mw]at this;exact this
  clear PI s6 cJ EA OA q6 p6 A y2 i1;refine Ax (λU=>Ae (Gp d U G 0 r.at_ (sO gb ob r.a8 c1) (sO go oo r.gJ c2) (Z v3 r.gQ c3) (Z N r.gE c4) (sG g5 (k+1) aR) vC bad (List.range (k+1)) C)) F ?_;clear F;rintro U F;have p7:=F.cells.2.1;have EB:Ae (Gp d (Ac U (Ak #[c0] 2)) G 0 r.at_ (sO gb ob r.a8 c1) (sO go oo r.gJ c2) (Z v3 r.gQ c3) (Z N r.gE c4) (sG g5 (k+1) aR) vC bad (List.range (k+1)) C):=F.a7 (Aq _ _);have OB:Ae (Ab (Ac U (Ak #[c0] 2)) d 2 1 vC k (C.flatMap As)):=by have:=EB.cost;rw[aY]at this;exact this
  have q7:=EB.cells.2.1;go_wp2_with (first|(at_builtin;refine wpList_append_lies _ rfl _ _ 46 rfl d 2 dR (iZ 0) 1 8 underlying46 hi cG cH dQ rfl dC vC k (C.flatMap As) rfl OB U 1 1 [c0] rfl rfl (JJ U _ _) (λu hu=>by simp at hu;subst hu;rfl) oM oX oM EB.e8.size _ rfl ?_;intro g6 eH w6 aX aW aS cg;have PI:Ae _:=EB.jQ br (sG g6 (k+1) eH) (by rw[aY];exact aX) aW (Sh aS);have s6:=PI.2.1;have cJ:=PI.2.2;clear aX aW aS cg)|go_in);clear s6 cJ q7 p7 EB OB F;go_roundw;case rel=>exact⟨k+1,oM,by go_num,_,_,_,_,PI.1,by rw[kE,aY];rfl,dX⟩
  exact oI
 have fN:(jj:Int)<=(je:Int):=oM;obtain⟨x,hx⟩:∃x,f.eC[jj]?=K x:=⟨_,an oM⟩;obtain⟨gi,oi,ci,ei,x0,x1,x2,x3⟩:=M6 E4.rc hx;simp only[i8,lB]at ei;obtain⟨rfl,rfl⟩:=ei;have eW:(jj:Int)<(f.eC:Int):=oM;rw[<-A.e8.cell (hC x0)]at x0;rw[<-A.e8.cell (hC x1)]at x1;rw[<-A.e8.cell (hC x2)]at x2;rw[<-A.e8.cell (hC x3)]at x3;have HX:=Av hx;clear hx;go_upto_region 16 with fail
 have F:Ae (Gp d (Ac wr (Ak #[x.op,x.a,x.b,x.c] 72)) G 0 r.at_ (sO gb ob r.a8 c1) (sO go oo r.gJ c2) (Z v3 r.gQ c3) (Z N r.gE c4) vI vC bad (List.range k) C/\AC (Ac wr (Ak #[x.op,x.a,x.b,x.c] 72)) wr #[x.op,x.a,x.b,x.c] 72):=⟨A.a7 (Aq _ _),AC.new _ _ _⟩
 have eF:Ae (x.op=28->∃(q:Nat) (fq:MF),x.a=q/\p.bW[q]?=K fq):= λe=>(aI.parts.2.2.2.1 q (i6.1 HF.1).1 f HF.1 jj (i6.1 HX).1 x HX).callee e
 clear x0 x1 x2 x3 y2 i1 A;generalize wr.heap.size=X at F⊢;refine Ax (λU=>Ae (Gp d U G 0 r.at_ (sO gb ob r.a8 c1) (sO go oo r.gJ c2) (Z v3 r.gQ c3) (Z N r.gE c4) vI vC bad (List.range k) C/\AC U X #[x.op,x.a,x.b,x.c] 72)) F ?_
 clear F;rintro U F;have eM:X≠G:= λe=>by
  have B:=F.2;have e2:=F.1.gK;unfold AC at B e2;rw[e,e2]at B;injection B with B
  injection B with _ B
  exact absurd B dC
 obtain⟨d0,d1,d2,d3⟩:=BP F.2;go_wp2_with fail;refine(Cs x.op U).mono ?_;rintro e u3 ⟨rfl,O⟩;obtain⟨si,ci,fo,bP,bu⟩:=En x.op;rw[bP];have eT:=Ka si ci fo;have aJ:=Av (RA bP);have E8:=Av (d5 (F.1.a7 O) (F.2.a7 O));clear O F d0 d1 d2 d3 bP;go_wp2_with fail;refine(F6 G c0 ci _ u3 br bu E8.1.cells.2.2.1 (E8.1.cells.2.2.2 8)).mono ?_;rintro e u4 ⟨c7,rfl,bS,hU⟩;have P:Ae (∃aQ,(Gp d u4 G 0 r.at_ (sO gb ob r.a8 c1) (sO go oo r.gJ c2) (Z v3 r.gQ c3) (Z N r.gE c4) vI vC aQ (List.range k) C/\AC u4 X #[x.op,x.a,x.b,x.c] 72)/\((aQ=true->∃m∈r.a8,CT f.eC costs m)/\(aQ=false->bad=false/\c7=c0+ci))):=by
  rcases hU with⟨rfl,s,_⟩|⟨rfl,_,s⟩
  . exact⟨_,E8,aw.mid aM ae.1 ae.2.1 ae.2.2.1 bC HX aJ (.inl ⟨rfl,s⟩)⟩
  exact⟨_,⟨E8.1.im,E8.2.other (a:=⟨G,8,M⟩) eM _⟩,aw.mid aM ae.1 ae.2.1 ae.2.2.1 bC HX aJ (.inr ⟨rfl,s⟩)⟩
 clear hU E8 eT bu br;obtain⟨aQ,du,dd⟩:=P.o;have F0:=Av du;have bK:=Av dd;clear du dd P;obtain⟨d0,d1,d2,d3⟩:=BP F0.2;by_cases ah:x.op=28;case neg=>
  go_wp2_with fail;go_roundw;case rel=>exact⟨c7,jj+1,rfl,by go_num,bS,oM,aQ,F0.1,aw.plain aM HX aJ ah bK⟩
  exact oI
 obtain⟨cq,fq,aH,_⟩:=eF.o ah;have aF:=Av (d5 ah aH);have bI:Ae (¬Kl costs x->Dr p (q:Int) costs (-1)):= λhn=>HV.o _ (.inl ⟨.inr ⟨_,i7 ae.1,.inl ⟨jj,x,by rw[ae.2.1];have:=aw.le;omega,by rw[ae.2.2.1];omega,HX,hn⟩⟩,rfl⟩)
 rw[aH]at d1;rw[ah]at d0;have dY:=Av bS;clear bS;by_cases dp:(costs:Int)<=(cq:Int);case pos=>have fG:(cq:Int)>=(costs:Int):=dp;have HR:=Av (bI.o λh=>by have:=(h ah).1;rw[aH,kA]at this;omega);clear ah aH;exact RZ
 have fH:¬(cq:Int)>=(costs:Int):=dp;have eQ:cq<costs.length:=oM;have fI:(cq:Int)<(costs:Int):=oM;obtain⟨z,hz⟩:∃z,costs[cq]?=K z:=⟨_,an eQ⟩;obtain⟨ga,oa,ea,kz⟩:∃ga oa,ca=K ⟨ga,oa,M⟩/\u4 ⟨ga,oa+cq,M⟩=K ↑z:=by
  have:=Rd.a7 E4.cs F0.1.e8 lR;rcases this.2 with⟨e0,_⟩|⟨g1,o1,ft,B,hc⟩
  . omega
  simp only[i8,lB]at B;exact⟨g1,o1,B.1,hc cq _ (Db hz)⟩
 subst ea;have cT:=Av hz;have cQ:Ae (cf costs x.a.toNat=z):=by show cf costs x.a.toNat=z;rw[aH,kA];exact DL hz
 clear hz ah aH;by_cases cG:z<0;case pos=>have HR:=Av (bI.o λh=>by have:=(h aF.1).2.1;rw[cQ]at this;omega);exact RZ
 by_cases cH:z>4294967295;case pos=>have HR:=Av (bI.o λh=>by have:=(h aF.1).2.2;rw[cQ]at this;omega);exact RZ
 go_wp2_with fail;refine(F6 G c7 z _ u4 dY ⟨oM,oM⟩ F0.1.cells.2.2.1 (F0.1.cells.2.2.2 8)).mono ?_;rintro e u5 ⟨c8,rfl,eP,hU⟩;have F1:Ae (∃bad,Gp d u5 G 0 r.at_ (sO gb ob r.a8 c1) (sO go oo r.gJ c2) (Z v3 r.gQ c3) (Z N r.gE c4) vI vC bad (List.range k) C/\TJ f.eC costs r C k ja bad c8 (jj+1)):=by
  rcases hU with⟨rfl,s,_⟩|⟨rfl,_,s⟩
  . exact⟨_,F0.1,aw.call aM ae.1 ae.2.1 ae.2.2.1 bC HX aJ aF.1 aF.2 cT oM oM bK (.inl ⟨rfl,s⟩)⟩
  exact⟨_,F0.1.im,aw.call aM ae.1 ae.2.1 ae.2.2.1 bC HX aJ aF.1 aF.2 cT oM oM bK (.inr ⟨rfl,s⟩)⟩
 clear hU F0 kz d0 d1 d2 d3;go_wp2_with fail;go_roundw;case rel=>exact⟨c8,jj+1,rfl,by go_num,eP,oM,F1⟩
 exact oI
end Go.Proofs.YtmalfecapdmdbaaGreat
