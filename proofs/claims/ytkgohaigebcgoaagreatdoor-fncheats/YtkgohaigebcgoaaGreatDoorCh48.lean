import Derived.Test.YtkgohaigebcgoaaGreatDoorCh47
namespace Go.Proofs.YtkgohaigebcgoaaGreatDoor
open Go.ChangeShapes Go.WideShapes Go.ChangeAt Go.RowKit Go.Proofs.Tryz
set_option linter.unusedVariables false
open Go.Value renaming slice → Z,agg → An
open Option renaming some → K,none → M
open Go renaming Value → J,World → Y,Calls → Ai,TypeId → Aj
open Go.RowKit renaming Hid → Ae,Below → Ah
open Go.Obj renaming cells → Ak
open Go.Ending renaming returned → Am
open Go.Proofs.Tryz renaming prog → Aq
open Go.World renaming setCell → Aa,alloc → Ac
open List renaming flatMap → Ad
set_option maxHeartbeats 16000000
set_option maxRecDepth 100000
variable {w u:Y}{e d:Nat}{l:ML}{I:List Nat}{C:List Int}
section
open Go.Shelf
attribute [local go_sem] Oper.semAt_some
def ur(Q:Exit->Act->Y->Prop):Exit->Act->Y->Prop
 |.panic _,_,_=>False
 |e,a,w=>Q e a w
theorem ZZ{P:Program}{c:Code}{Q:Exit->Act->Y->Prop}{a:Act}(h:c.wp P (ur Q) a w):c.wp P Q a w:= λb k cs=>by obtain⟨e,a',d,q,r⟩:=h b k cs;refine⟨e,a',d,?_,r⟩;cases e<;>first|exact q|exact q.elim
structure MY(w:Y)(v:BN)(p:MP)(fi:Int)(F:List (MB×J))(xs:List MI)(r:DQ)(costs:List Int)(ca:Option Addr)(cc:Nat)(O:List Nat)(D L:Nat->Nat->Bool):Prop where
 bd:T8 w v p fi F xs r
 gd:Gd r (nx r.a7) r.a7 O D L
 wy:sg w v r.a7 (nx r.a7) O.reverse (DY O)
 hnx:∀b m,r.a7[b]?=K m->m.next=ints (nx r.a7 b)
 n0:0<r.a7.length
 cl:costs.length<=1048576
 ck:Rd w 1 (Z ca costs cc) costs (Ad At costs)
 x28:∀x∈xs,x.op=28->0<=x.a
 iv:∀t∈p.bO,Kh t.init
theorem MY.av{v:BN}{p:MP}{fi:Int}{F:List (MB×J)}{xs:List MI}{r:DQ}{costs:List Int}{ca:Option Addr}{cc:Nat}{O:List Nat}{D L:Nat->Nat->Bool}(h:MY w v p fi F xs r costs ca cc O D L)(a:Ah w w u):MY u v p fi F xs r costs ca cc O D L:={h with bd:=h.bd.av a,wy:=h.wy.av a,ck:=h.ck.av a lR}
theorem Ui{xs:List MI}{costs:List Int}{m:MB}(h:¬FF xs costs m){a:Nat}(d:m.cz=(a:Int))(f:m.last=(e:Int)):Kh (Cm xs costs m):=by
 have c:∀op,0<=XF op:= λop=>XG op (Hq op)
 refine⟨?_,?_⟩
 . (have:=J7 c (xs:=xs) (costs:=costs) (a:=m.cz.toNat) (oC (m.last.toNat+1-m.cz.toNat)) λj x _ g b=>mr λq=>h (.inl ⟨m.cz.toNat+j,x,oM,oM,b,q⟩));exact this
 have:¬4294967295<Cm xs costs m:= λq=>h (.inr q)
 omega
theorem RX.put{v:BN}{y:Int}(h:RX w u v y)(c:u.heap[d]?=K (.deferred (K [])))(hw: ↑w<=d):RX w (u.putObj d (.deferred M)) v y:=by
 have a:=grownBy_putObj' u d (.deferred M);have b:∀r,K d=K r->∃o:Obj,u.heap[r]?=K o/\o.isCells=false:= λr e=>by cases e;exact⟨_,c,rfl⟩
 exact⟨h.body.held a b,h.ia.held a b,h.cq.grown a h.cq.size (λk e=>by cases e;exact hw)⟩
theorem CG.ky{g:Y}{B j:Nat}{v:BN}{n k l:Nat}(h:CG u B j v n d k e l I C)(q:DT (Cg d e) u g){b:Nat}{c:Array J}{t:Aj}(a:Ay u b c t)(f:t≠2):Ay g b c t:=by
 obtain⟨_,c1,m⟩:=AZ h.co;obtain⟨_,c2,p⟩:=AZ h.st;refine(q.block b (mH.1 a).1 ?_).trans a;unfold Ay at a;rintro(rfl|rfl)
 . rw[m]at a;cases a;exact f rfl
 rw[p]at a;cases a;exact f rfl
theorem A5.iP{p:MP}{fi:Int}{xs:List MI}{a:List MB}(h:A5 p fi xs a l 0):∃m t,a[l.head.toNat]?=K m/\Cr p.bO fi m.cz=K t:=by
 obtain⟨m,e,⟨_,q⟩|⟨t,g,q,_⟩⟩:=h
 . cases q
 exact⟨m,t,e,q⟩
section
variable {w0:Y} {v:BN} {p:MP} {fi:Int} {F:List (MB×J)} {xs:List MI} {r:DQ} {costs:List Int} {ca:Option Addr} {cc:Nat} {O:List Nat} {D L:Nat->Nat->Bool} {zs:List LV}
theorem MY.lp(H:MY w0 v p fi F xs r costs ca cc O D L)(w:∀l∈r.cv,A5 p fi xs r.a7 l 0)(I:zs.length= ↑r.cv)(N:∀(k:Nat) (m:ML) (x:LV),r.cv[k]?=K m->zs[k]?=K x->tK w0 m x){x:LV}(G:x∈zs):∃(l:ML) (h:Nat) (m:MB) (t:MT),l∈r.cv/\l.head=(h:Int)/\x=⟨(h:Int),x.xa,l.back,x.xc,x.ya,l.a7,x.yc⟩/\M3 w0 (l,Z x.xa l.back x.xc,Z x.ya l.a7 x.yc)/\r.a7[h]?=K m/\Cr p.bO fi m.cz=K t/\Kh t.init/\Ju p fi r.a7 h=t.init/\A5 p fi xs r.a7 l 0/\∀z∈l.back,∃b:Nat,z=(b:Int)/\b<r.a7.length:=by
 obtain⟨j,u⟩:=nB G;have E:j<r.cv.length:=by rw[<-I];exact(f7.1 u).1
 have g:=an E;obtain⟨f,c,d,n⟩:=N j _ x g u;have a:=lP g;generalize r.cv[j]=l at f c d n a;clear g;obtain⟨⟨h,e,C⟩,_⟩:=H.bd.iy.loop l a;obtain⟨m,t,q,s⟩:=(w l a).iP;rw[e,lV]at q;obtain⟨A,_⟩:=H.gd.at_ a e;refine⟨l,h,m,t,a,e,?_,?_,q,s,H.iv t (List.mem_of_find?_eq_some s),?_,w l a, λz y=> ?_⟩
 . (cases x);simp only at f c d;rw[f,c,d,e]
 . rw[c,d]at n;exact n
 . unfold Ju;simp only[q,s]
 rw[A]at y;obtain⟨b,B,rfl⟩:=mV.1 y;exact⟨b,rfl,H.gd.fl.iU C ((H.gd.il _ _).1 (H.gd.bk b B))⟩
theorem MY.step(H:MY w0 v p fi F xs r costs ca cc O D L){a:List {x:LV//x∈zs}}{x:{x:LV//x∈zs}}{I2:List Nat}{C2:List Int}{h:Nat}{t:MT}{b:Bool}(E:∀sl:List ML,sl.Perm r.cv->sl.Pairwise KO->M2 a sl->PN p fi costs xs r D L sl a false I C)(n:l∈r.cv)(j:l.head=(h:Int))(u:x.1.h=(h:Int))(B:Ju p fi r.a7 h=t.init)(z:Kh t.init)(w:A5 p fi xs r.a7 l 0)(A:C.length= ↑r.a7)(y:Z4 (nx r.a7) r.a7 r.a7 l I C h (DY O) t.init b I2 C2):
 (b=true->∀sl:List ML,sl.Perm r.cv->sl.Pairwise KO->M2 (a++[x]) sl->PN p fi costs xs r D L sl (a++[x]).length false I2 C2)/\(b=false->∀sl:List ML,sl.Perm r.cv->sl.Pairwise KO->M2 (a++[x]) sl->qm p fi xs r costs D L sl (-1)):=by
 have s:∀sl:List ML,sl.Perm r.cv->sl.Pairwise KO->M2 (a++[x]) sl->(b=true->PN p fi costs xs r D L sl (a++[x]).length false I2 C2)/\(b=false->qm p fi xs r costs D L sl (-1)):= λsl g q N=>by obtain⟨Q,P,m,k⟩:=N.init;have G:=g.mem_iff.1 (lP m);rw[u]at k;have e:P=l:=(H.gd.at_ G k).1.trans (H.gd.at_ n j).1.symm;subst e;rw[mB];exact(E sl g q Q).goI H.gd H.hnx g q m n j w B z.1 A y
 exact⟨λe sl c d f=>(s sl c d f).1 e, λe sl c d f=>(s sl c d f).2 e⟩
theorem MY.ke(H:MY w0 v p fi F xs r costs ca cc O D L)(q:zs.length= ↑r.cv)(s:∀(k:Nat) (m:ML) (x:LV),r.cv[k]?=K m->zs[k]?=K x->tK w0 m x){ts:List LV}(c:ts.Perm zs)(e:M5 ts){b:List {x:LV//x∈zs}}(d:b.map Subtype.val<+:ts):∃sl:List ML,sl.Perm r.cv/\sl.Pairwise KO/\M2 b sl/\ts.length=sl.length:=by obtain⟨sl,g,j,l,n⟩:=rP c e q s (H.gd.lM.imp λh=>oM);refine⟨sl,g,j, λk x a=>n k x.1 ?_,l⟩;obtain⟨u,f⟩:=d;rw[<-f,mq (by rw[mQ];exact(f7.1 a).1),mN,a];rfl
end
theorem Wx(v:BN)(p:MP)(fi:Int)(F:List (MB×J))(xs:List MI)(r:DQ)(costs:List Int)(ca:Option Addr)(cc:Nat)(O:List Nat)(D L:Nat->Nat->Bool)(w:Y)(hB:MY w v p fi F xs r costs ca cc O D L):
 Ai Aq 129 #[An v.cells,Z ca costs cc] w λe w'=>∃x,e=Am (iZ x)/\RY p fi costs xs r x/\Ah w w w':=by
 obtain⟨k0,cZ,dj,dm,dq⟩:=nE Ct;have H:=Aw hB;clear hB;obtain⟨CN,bH⟩:∃CN,costs.length=CN:=⟨_,rfl⟩;have du:=Aw bH;rw[bH];clear bH;have E0:=Bw w v.cells #[iZ 0] 111 2;refine(callsIn_wide (n:=5)).1 ?_;refine callsIn_of_wp_marks func129 rfl trivial ?_ rfl;simp only[ntmps129,List.size_toArray,nQ,nT,Nat.reduceAdd,Nat.reduceSub,Array.replicate_succ,Array.replicate_zero,List.push_toArray,List.append_toArray,nO,nW];refine wpIn_wide.2 (ZZ ?_);go_upto_region 1 with fail
 refine Av (λu=>Ae (RX w u v 0)) ⟨E0.1,E0.2.1,E0.2.2⟩ ?_;rintro U HE;clear E0;obtain⟨p0,p1,p2,p3,p4,p5,p6,p7,p8,p9,bf,ax,aA,bg,au⟩:=CW HE.body;go_wp2_with fail;clear p0 p1 p2 p3 p4 p5 p6 p7 p8 p9 bf ax aA bg au;refine(LR v p fi F xs r U (H.bd.av HE.cq)).mono ?_;rintro e u1 ⟨⟨h,x,y,b,rfl,k1,k2⟩,G⟩;have E1:=Aw (HE.av G);clear HE G;cases b
 case true=>
  have X:=E1.ia.frozen 0;have HV:Ae (RY p fi costs xs r (-1)):=.inl ⟨.inl (k1 rfl),rfl⟩;go_upto_region 3 with fail
  refine Av (λu=>Ae (RX w u v 0)) (E1.av (Al _ _)) ?_;rintro U2 Q;have X:=Q.ia.cell 0;have r1:=Q.ia.frozen 0;simp only[lQ,lO]at X;have E3:=Aw (Q.set (-1));go_wp2_with fail;exact⟨_,by simp[results,results129,go_sem,X],_,rfl,HV,E3.cq⟩
 have ce:=Aw (k2 rfl);clear k1 k2;go_upto_region 4 with fail
 refine Av (λu=>Ae (RX w u v 0)) (E1.av (Al _ _)) ?_;rintro w0 HE;have d:=Aw (H.av HE.cq);have aa:Ae (∀u,Ah w0 w0 u->RX w u v 0):= λu hu=>HE.av hu
 obtain⟨p0,p1,p2,p3,p4,p5,p6,p7,p8,p9,bf,ax,aA,bg,au⟩:=CW HE.body;clear E1 H U;go_upto_region 5 with fail
 refine Av (λu=>Ae (PS u w0 w0 ((w0:Nat)+1) v sN sN 0 0 []/\Ah w0 w0 u)) (by have E0:=Bw w0 (Jj v sN sN) #[.pointer w0] 256 254;exact⟨⟨E0.1,mX _ _ _ _,mX _ _ _ _, λg h=>(by cases h),Nat.le_refl _,E0.2.1⟩,E0.2.2⟩) ?_
 rintro U HC;clear p0 p1 p2 p3 p4 p5 p6 p7 p8 p9 bf ax aA bg au;have ax:=(aa.o U HC.2).body.cell 11;simp only[BN.cells]at ax;obtain⟨ba,bc,eb⟩:=d.bd.bs.rd.aD;simp only[lU]at eb;have bi:=Aw (lN eb.2.1 d.bd.fl);have dI:F.length<=1024:=d.bd.bs.len;clear eb ba bc;obtain⟨ba,cQ⟩:∃ba,v.b.a=ba:=⟨_,rfl⟩;have bV:=Aw cQ;clear cQ;simp only[bi.1,bV.o]at ax;go_wp2_with fail;clear ax;go_loopw [28] (λi wr=>∃(k:Nat) (va:Option Addr) (vc:Nat) (sa:Option Addr) (sc:Nat),k<= ↑F/\i=iZ k/\Ae (PS wr w0 w0 ((w0:Nat)+1) v (Z va k vc) (Z sa k sc) k k ((r.a7.take k).map (Cm xs costs))/\Ah w0 w0 wr/\∀m∈r.a7.take k,¬FF xs costs m)) (λi _=> ↑F-(intOf i).toNat)
 case atStart=>exact⟨0,M,0,M,0,oM,rfl,HC.1,HC.2, λm V=>by simp at V⟩
 case round=>
 clear HC;obtain⟨k,va,vc,sa,sc,dA,rfl,HS⟩:=hrel;by_cases d9:k< ↑F
 case pos=>
  have dJ:(k:Int)<(F:Int):=oM;obtain⟨m,g,o,ma,me,dL,V,eg,en,i0,i1,i2,e1,e2,dd,de,cK⟩:=(d.bd.bs.av HS.2.1).at d9;obtain⟨na,nc,cJ⟩:=(d.bd.nx _ (lP cK)).1.aD;simp only[]at cJ;subst cJ;have HM:=Aw (lN ((by rw[<-d.bd.eb];exact V):r.a7[k]?=some m) (lN e1 (lN e2 (lN dd de))));obtain rfl:ba=some ⟨g,o,M⟩:=by rw[<-bV];exact eg
  clear V eg en e1 e2 cK dd de;go_upto_region 8 with fail
  have bY:Ae (Ah wr wr (Ac wr (Ak #[ma,me,Z na m.next nc] 97))):=Al _ _;refine Av (λu=>Ae (Ay u wr #[ma,me,Z na m.next nc] 97/\Ah wr wr u)) ⟨Ay.new _ _ _,bY⟩ ?_
  rintro U8 E8;clear i0 i1 i2 bY;have aJ:=Aw (lN (HS.1.av E8.2) (Ar HS.2.1 lR E8.2));have bC:=Aw HS.2.2;obtain⟨p0,p1,p2,p3,p4,p5,p6,p7,p8,p9,bf,ax,aA,bg,au⟩:=CW (aa.o U8 aJ.2).body;obtain⟨b0,b1,b2⟩:=CI E8.1;clear HS E8;go_wp2_with fail;clear p0 p1 p2 p3 p4 p5 p6 p7 p8 p9 bf ax aA bg au b0 b1 b2;have bI:=M9 v (Z na m.next nc) xs costs m ca cc U8 d.bd.bs.top (d.bd.cd.aU.av aJ.2 lR) d.bd.cd.cap d.cl (d.ck.av aJ.2 lR) d.x28 ⟨ma,me,HM.2⟩;rw[HM.2.1,HM.2.2.1,du]at bI;refine bI.mono ?_;clear bI;rintro e u9 ⟨⟨s,b,rfl,k1,k2⟩,G⟩;have aK:=Aw (lN (aJ.1.av G) (Ar aJ.2 lR G));clear aJ G;cases b
  case false=>have HV:Ae (RY p fi costs xs r (-1)):=.inl ⟨.inr ⟨m,lP HM.1,k2 rfl⟩,rfl⟩;have Q:=Aw (aa.o u9 aK.2);have X:=Q.ia.cell 0;have r1:=Q.ia.frozen 0;simp only[lQ,lO]at X;have E3:=Aw (Q.set (-1));clear k1 k2;go_wp2_with fail;exact⟨_,by simp[results,results129,go_sem,X],_,rfl,HV,E3.cq⟩
  have cj:=Aw (k1 rfl);clear k1 k2;go_upto_region 11 with fail
  refine CD 10 (S:= λW=>W ⟨(w0:Nat)+1,0,M⟩=some (.pointer w0)/\W ⟨w0,15,M⟩=some (Z va k vc)) kR ⟨(aK.1.av (As _)).cells.1,(aK.1.av (As _)).cells.2.1⟩ (λP=> ?_)
  have D0:=Aw (lN (aK.1.av (As _)) (Ar aK.2 lR (As _)));clear aK;generalize u9.drew=UD at D0 P⊢;refine FE 0 ?_ (hw:=kR);refine FE 1 ?_ (hw:=kR);refine FE 2 ?_ (hw:=kR);refine FE 3 ?_ (hw:=kR);refine FE 4 ?_ (hw:=kR);refine FE 5 ?_ (hw:=kR);go_simp;refine Oo 6 ?_;intro N j;rw[mE kR];go_simp;have R:Ae (PS (Ac UD (Ak #[s] 2)) w0 w0 ((w0:Nat)+1) v (Z va k vc) (Z sa k sc) k k ((r.a7.take k).map (Cm xs costs))/\Ah w0 w0 (Ac UD (Ak #[s] 2))):=⟨D0.1.av (Al _ _),Ar D0.2 lR (Al _ _)⟩
  refine j.o _ _ (λ_=>⟨R.1.cells.1,R.1.cells.2.1⟩) (λT=> ?_);clear j N D0;have P:=T dC;clear T;refine Oo 7 ?_;intro N j;have O3:=Aw R.1.co;have aZ:=R.2.size;refine step_append_lies _ rfl (.tmp 46) (.tmp 48) 27 rfl w0 2 k0 (iZ 0) 1 8 underlying27 cZ dj dm dq rfl dC (Z va k vc) k (Ad At ((r.a7.take k).map (Cm xs costs))) oE O3 UD 1 1 [s] oE rfl (Go.cell_one_new _ _ _) (λu hu=>by simp at hu;subst hu;rfl) oM oX oM aZ _ rfl ?_;intro gg cap u8 aX aG aW _;have D4:=Aw (R.1.lu aX aG aW);have aI:Ae (Ah w0 w0 (Aa u8 ⟨w0,15,M⟩ (Z gg (k+1) cap))):=(R.2.grown aG aZ (λi hi=>(O3.lt i hi).1)).setCell lR _;have y0:=D4.2.1;have y1:=D4.2.2.1;have y2:=D4.2.2.2;have D5:=Aw D4.1;clear aX aG aW O3 R D4 P;refine j.o _ _ (λ_=>⟨y0,y1⟩) (λT=> ?_);clear j N;have P:=T dC;clear T;refine FE 8 ?_ (hw:=kR);refine FE 9 ?_ (hw:=kR);go_simp;refine Oo 10 ?_;intro N j;rw[mE kR];go_simp;refine j.o _ _ (λh=>absurd h dC) (λT=> ?_);clear j N T P;refine EI kR ?_ _;generalize Aa u8 ⟨w0,15,M⟩ (sG gg (k+1) cap)=W5 at D5 aI⊢;clear y0 y1 y2;go_upto_region 12 with fail
  refine CD 10 (S:= λW=>W ⟨(w0:Nat)+1,0,M⟩=some (.pointer w0)/\W ⟨w0,16,M⟩=some (Z sa k sc)) kR ⟨(D5.av (As _)).cells.1,(D5.av (As _)).cells.2.2⟩ (λP=> ?_)
  have D0:=Aw (lN (D5.av (As _)) (Ar aI lR (As _)));clear D5 aI;generalize W5.drew=UD at D0 P⊢;refine FE 0 ?_ (hw:=kR);refine FE 1 ?_ (hw:=kR);refine FE 2 ?_ (hw:=kR);refine FE 3 ?_ (hw:=kR);refine FE 4 ?_ (hw:=kR);refine FE 5 ?_ (hw:=kR);go_simp;refine Oo 6 ?_;intro N j;rw[mE kR];go_simp;have R:Ae (PS (Ac UD (Ak #[k] 2)) w0 w0 ((w0:Nat)+1) v (sG gg (k+1) cap) (Z sa k sc) (k+1) k ((r.a7.take k).map (Cm xs costs)++[s])/\Ah w0 w0 (Ac UD (Ak #[k] 2))):=⟨D0.1.av (Al _ _),Ar D0.2 lR (Al _ _)⟩
  refine j.o _ _ (λ_=>⟨R.1.cells.1,R.1.cells.2.2⟩) (λT=> ?_);clear j N D0;have P:=T dC;clear T;refine Oo 7 ?_;intro N j;have O3:=Aw R.1.st;have aZ:=R.2.size;refine step_append_lies _ rfl (.tmp 56) (.tmp 58) 27 rfl w0 2 k0 (iZ 0) 1 8 underlying27 cZ dj dm dq rfl dC (Z sa k sc) k (nv (List.range k)) oE O3 UD 1 1 [k] oE rfl (Go.cell_one_new _ _ _) (λu hu=>by simp at hu;subst hu;rfl) oM oX oM aZ _ rfl ?_;intro gs bG u8 aX aG aW _;have D4:=Aw (R.1.kX aX aG aW);have aI:Ae (Ah w0 w0 (Aa u8 ⟨w0,16,M⟩ (Z gs (k+1) bG))):=(R.2.grown aG aZ (λi hi=>(O3.lt i hi).1)).setCell lR _;have y0:=D4.2.1;have y1:=D4.2.2.1;have y2:=D4.2.2.2;have D5:=Aw D4.1;clear aX aG aW O3 R D4 P;refine j.o _ _ (λ_=>⟨y0,y1⟩) (λT=> ?_);clear j N;have P:=T dC;clear T;refine FE 8 ?_ (hw:=kR);refine FE 9 ?_ (hw:=kR);go_simp;refine Oo 10 ?_;intro N j;rw[mE kR];go_simp;refine j.o _ _ (λh=>absurd h dC) (λT=> ?_);clear j N T P;refine EI kR ?_ _;generalize Aa u8 ⟨w0,16,M⟩ (sG gs (k+1) bG)=W6 at D5 aI⊢;clear y0 y1 y2;go_wp2_with fail;go_roundw;case rel=>
   (have hT:r.a7.take (k+1)=r.a7.take k++[m]:=by rw[List.take_add_one,HM.1];rfl);refine⟨k+1,some gg,cap,some gs,bG,oM,by go_num,?_,aI,?_⟩
   . rw[hT,nS,List.map_singleton,<-cj.2];exact D5
   rw[hT];intro q hq;rcases mA.1 hq with q1|q1
   . exact bC.o q q1
   rw[mK]at q1;rw[q1];exact cj.1
  case measure=>exact oI
 obtain rfl:k=F.length:=oM;have hs:=HS.o;rw[bi.2,List.take_length]at hs;have bP:∀y∈r.a7.map (Cm xs costs),Kh y:= λy hy=>by obtain⟨m,V,rfl⟩:=mV.1 hy;obtain⟨i,hi⟩:=nB V;obtain⟨a,e,h1,h2,_⟩:=d.bd.iy.eI i m hi;exact Ui (hs.2.2 m V) h1 h2
 obtain⟨gC,cC,gS,cS,aq⟩:=hs.1.whole d.n0 sP bP;obtain⟨zs,z1,z2,z3⟩:=tF d.bd.ls;have HI:Ae (Z2 w0 v p fi xs r costs D L gC cC gS cS zs [] wr):=⟨⟨_,_,aq, λsl _ _ _=>PN.start d.gd sP bP ⟨(λe=>by cases e), λ_ b m hb V=>⟨hs.2.2 m (lP V),Kt (by rw[mN,V];rfl)⟩⟩⟩,hs.1.tb,hs.2.1⟩;have HZ:=Aw (lN z1 (lN z2 z3));have bC:=Aw hs.2.2;clear hs aq bP z1 z2 z3 HS d9 dA;have dK:zs.length<=1024:=by rw[HZ.1];exact d.bd.iy.nl
 have au:=(aa.o wr HI.cq).body.cell 14;simp only[BN.cells]at au;have eq:v.q.n=zs.length:=by rw[HZ.1];exact d.bd.ln
 simp only[eq]at au;clear eq;obtain⟨qa,bS⟩:∃qa,v.q.a=qa:=⟨_,rfl⟩;have dw:=Aw bS;simp only[bS]at au;clear bS;go_wp2_with fail;clear au;refine(Nv qa zs v.q.c wr).mono ?_;rintro e u2 ⟨rfl,b1,b2,G⟩;have aQ:=Aw (HI.av G);have bT:=Aw (lN b1 b2);clear b1 b2 G HI;go_wp2_with fail;refine(wpIn_wide (n:=5)).1 ?_;have bQ:(w:Nat)<=u2.heap.size:=(aa.o u2 aQ.cq).cq.size;have dB:(w0:Nat)<=u2.heap.size:=aQ.cq.size;obtain⟨⟨I0,C0,cU,_⟩,_,_⟩:=aQ.o;have di:=cU.sz;clear cU;refine ZL gC gS rfl (enters_of func192 kR rfl) (K3 4 oM wr ((wr:Nat)+1) v.q.c gC gS qa zs oM u2 di.1 di.2 (by rw[bT.1.cell];rfl) (by rw[bT.2.cell];rfl) (λhz=>by
  obtain⟨b,off,h1,h2,h3⟩:=(HZ.2.2.av aQ.cq) hz;exact⟨b,off,by rw[<-dw];exact h1,oM,h3⟩))
  (Z2 w0 v p fi xs r costs D L gC cC gS cS zs) (tH w v p fi xs r costs D L zs) (Z2.own dB) (tH.own bQ) aQ ?assign ?body ?done ?stop
 case assign=>
  rintro l dt ⟨x,hx⟩ W K hi hK;simp only[LV.arr]at hK⊢;gi_wp2
  have q:=hK _ ((KeepsOthers.alloc W (Ak #[iZ x.h,Z x.xa x.xn x.xc,Z x.ya x.yn x.yc] 65)).from _) (JK.of (Al _ _)) (hi.av (Al _ _)) W (Ay.new W _ _);simp only[mO,mh,mi]at q;exact q
 case body=>
  rintro l dt ⟨x,hx⟩ Bx W bX hi;obtain⟨lm,h,m,t,V,eh,ex,aY,db,cX,bJ,cY,d8,cT⟩:=d.lp ce HZ.1 HZ.2.1 hx;obtain⟨⟨I,C,aq,aE⟩,aH,aF⟩:=hi;have cH:=Aw (λb I2 C2 hG=>d.step (x:=⟨x,hx⟩) (I2:=I2) (C2:=C2) (b:=b) aE V eh (congrArg LV.h ex) cY bJ d8 aq.lc hG);have ai:=Aw (lN aq (lN aH aF));have bZ:=Aw (LY w0 w0 v gC cC gS cS I C p fi F xs r (nx r.a7) O.reverse (DY O) h m t x.xa x.xc x.ya x.yc lm W aF d.bd aq d.wy V eh cT aY db cX bJ);have t0:W ⟨(w0:Nat)+1,0,M⟩=some (.pointer w0):=by rw[aH.cell];rfl
  clear V eh aY db cX bJ cY d8 cT aq aE aH aF;have aS:=bX;simp only[LV.arr]at aS;rw[ex]at aS;simp only[]at aS;obtain⟨x0,x1,x2⟩:=CI aS;clear bX aS ex;gi_wp2_with fail
  refine⟨trivial,(CallsIn.inRound l (callsIn_wide.2 bZ)).mono ?_⟩;rintro e W2 ⟨b,I2,C2,rfl,cW,br,cR,hG⟩;have HS:=Aw (cH.o b I2 C2 hG);have dH:=Aw (ai.1.ky br ai.2.1 dC);have HK:=Aw (lN (ai.1.keeps (A:=u2) br) br.kpc);have bu:=Aw (lN cW cR);clear cW cR hG br cH bZ x0 x1 x2 t0;cases b
  case true=>(gi_wp2);exact⟨HK.1,HK.2,⟨I2,C2,bu.1,HS.1 trivial⟩,dH,bu.2⟩
  case false=>have Q:=Aw (aa.o W2 bu.2);have X:=Q.ia.cell 0;have r1:=Q.ia.frozen 0;simp only[lQ,lO]at X;have E3:=Aw (Q.set (-1));(gi_wp2);exact⟨HK.1.trans ((KeepsOthers.setCell W2 ⟨(w:Nat)+1,0,M⟩ (iZ (-1))).from _),rfl,E3,HS.2 trivial⟩
 case done=>
  rintro Dd ys W hD ⟨hp,bt⟩ hi hK;obtain⟨sl,q1,q2,q3,q4⟩:=d.ke HZ.1 HZ.2.1 hp bt (List.prefix_refl _);obtain⟨⟨I,C,aq,aE⟩,aH,aF⟩:=hi;have aE:=aE sl q1 q2 q3;rw[mQ]at q4;rw[q4]at aE;have HG:=Aw (lN aE (lN q1 q2));have ai:=Aw (lN aq (lN aH aF));have t0:W ⟨(w0:Nat)+1,0,M⟩=some (.pointer w0):=by rw[aH.cell];rfl
  have aA:=(aa.o W aF).body.cell 12;simp only[BN.cells]at aA;obtain⟨oa,oc,eo⟩:=d.bd.od.aD;simp only[lU]at eo;have dE:r.dr.length<=1024:=by rw[d.gd.ord];simpa[ints]using d.wy.rl
  have dD:Ae (∀z∈r.dr,∃b:Nat,z=(b:Int)/\b< ↑r.a7):= λz hz=>by rw[d.gd.ord]at hz;obtain⟨b,hb,rfl⟩:=mV.1 hz;exact⟨b,rfl,(d.gd.om b).1 (nL.1 hb)⟩
  have dF:Ae (Rd w0 1 (Z v.o.a r.dr v.o.c) r.dr (Ad At r.dr)):=by have:=d.bd.od;rw[eo.2.1]at this;exact this
  simp only[eo.2.1]at aA;have bj:=Aw (lN hD hK);clear hp bt aq aE aH aF q1 q2 q3 q4 eo oa oc hK hD;go_wp2_with fail;clear t0 aA;refine(G7 w0 w0 v r.a7 gC cC gS cS I C (nx r.a7) O.reverse (DY O) 0 ⟨M,0,0⟩ v.o.a v.o.c r.dr W d.bd.iy.nb ai.1 (d.wy.av ai.2.2) d.n0 dE (dF.av ai.2.2 lR) dD).mono ?_;rintro e u3 ⟨gL,Lc,small,rfl,hL,cM,G⟩;have aO:=Aw (lN (mC bQ bj.1) ((G.block Dd (mH.1 bj.2).1).trans bj.2));have aM:=Aw (lN (ai.1.av G) (lN (ai.2.1.av G) (Ar ai.2.2 lR G)));have bq:=Aw (aa.o u3 aM.2.2);have bx:=Aw hL;have cI:=Aw cM;clear hL cM G ai bj;cases small
  case false=>have HV:=Aw (HG.1.kt d.gd HG.2.1 HG.2.2 cI (λ_=>rfl) (λe=>by cases e));have X:=bq.ia.cell 0;have r1:=bq.ia.frozen 0;simp only[lQ,lO]at X;have E4:=Aw (bq.set (-1));have aT:=(KeepsOthers.setCell u3 ⟨(w:Nat)+1,0,M⟩ (iZ (-1))).same _ _ aO.2 rfl;go_wp2_with fail;refine⟨sP,.inl ⟨_,_,rfl,run_takeDeferred aT,?_⟩⟩;have E5:=E4.put aT aO.1;have r2:=E5.ia.cell 0;simp only[lQ,lO]at r2;exact⟨_,by simp[results,results129,go_sem,r2],_,rfl,HV,E5.cq⟩
  go_upto_region 21 with fail
  have KS:∀u y,RX w u v y->Ay u ((w0:Nat)+1) #[.pointer w0] 254->u ⟨(w0:Nat)+1,0,M⟩=some (.pointer w0)/\u w=some (Z v.r.a v.r.n v.r.c)/\u ⟨w,1,M⟩=some (Z v.k.a v.k.n v.k.c)/\u ⟨w,2,M⟩=some (Z v.f.a v.f.n v.f.c)/\u ⟨w,3,M⟩=some (Z v.t.a v.t.n v.t.c)/\u ⟨w,4,M⟩=some (Z v.p.a v.p.n v.p.c)/\u ⟨w,5,M⟩=some ↑v.rs/\u ⟨w,6,M⟩=some (Z v.l.a v.l.n v.l.c)/\u ⟨w,7,M⟩=some (Z v.c.a v.c.n v.c.c)/\u ⟨w,8,M⟩=some ↑v.nu/\u ⟨w,9,M⟩=some ↑v.co/\u ⟨w,10,M⟩=some ↑v.at_/\u ⟨w,11,M⟩=some (Z v.b.a v.b.n v.b.c)/\u ⟨w,12,M⟩=some (Z v.o.a v.o.n v.o.c)/\u ⟨w,13,M⟩=some (Z v.i.a v.i.n v.i.c)/\u ⟨w,14,M⟩=some (Z v.q.a v.q.n v.q.c):= λu y E B=>⟨by rw[B.cell];rfl,CW E.body⟩
  have ae:=Aw (lN (aM.1.av (As _)) (lN (aM.2.1.av (As _)) (lN (Ar aM.2.2 lR (As _)) (((As u3).block Dd (mH.1 aO.2).1).trans aO.2))));have bB:Ae ((∀c,c< ↑r.a7->u3.drew ⟨gL,c,M⟩=some ↑(cf Lc c))/\∀y∈Lc,Kh y):=⟨λc hc=>Az (As u3) ((bx.o trivial).1 c hc),(bx.o trivial).2⟩
  refine wp_region_held_drew (S:= λu=>u ⟨(w0:Nat)+1,0,M⟩=some (.pointer w0)/\u w=some (Z v.r.a v.r.n v.r.c)/\u ⟨w,1,M⟩=some (Z v.k.a v.k.n v.k.c)/\u ⟨w,2,M⟩=some (Z v.f.a v.f.n v.f.c)/\u ⟨w,3,M⟩=some (Z v.t.a v.t.n v.t.c)/\u ⟨w,4,M⟩=some (Z v.p.a v.p.n v.p.c)/\u ⟨w,5,M⟩=some ↑v.rs/\u ⟨w,6,M⟩=some (Z v.l.a v.l.n v.l.c)/\u ⟨w,7,M⟩=some (Z v.c.a v.c.n v.c.c)/\u ⟨w,8,M⟩=some ↑v.nu/\u ⟨w,9,M⟩=some ↑v.co/\u ⟨w,10,M⟩=some ↑v.at_/\u ⟨w,11,M⟩=some (Z v.b.a v.b.n v.b.c)/\u ⟨w,12,M⟩=some (Z v.o.a v.o.n v.o.c)/\u ⟨w,13,M⟩=some (Z v.i.a v.i.n v.i.c)/\u ⟨w,14,M⟩=some (Z v.q.a v.q.n v.q.c)) kR (KS _ _ (aa.o _ ae.2.2.1) ae.2.1) (λP=> ?_)
  clear aM bq bx;generalize u3.drew=U4 at ae bB P⊢;refine AU 0 ?_ (hw:=kR);refine AU 1 ?_ (hw:=kR);refine AU 2 ?_ (hw:=kR);go_simp;refine DO 3 ?_;intro N j;rw[mE kR];go_simp;refine(ND v F xs U4 (d.bd.bs.av ae.2.2.1) (λz hz=>(d.bd.nx z hz).1.aD.elim λa q=>q.elim λc e=>⟨a,_,c,e⟩) (d.bd.cd.aU.av ae.2.2.1 lR)).mono ?_;rintro e u5 ⟨ra,rc,ps,rfl,aY,dh,dg,G⟩;have aj:=Aw (lN (ae.1.av G) (lN (ae.2.1.av G) (lN (Ar ae.2.2.1 lR G) ((G.block Dd (mH.1 ae.2.2.2).1).trans ae.2.2.2))));have dv:Ae (∀c,c< ↑r.a7->u5 ⟨gL,c,M⟩=some ↑(cf Lc c)):= λc hc=>Az G (bB.1 c hc)
  have aR:=Aw (lN aY (lN dh dg));clear aY dh dg G ae bB;go_simp;refine j.o _ _ (KS _ _ (aa.o _ aj.2.2.1) aj.2.1) (λP=> ?_);clear j N;refine DO 4 ?_;intro N j;rw[mE kR];go_simp;refine(Hj w0 r.a7 gS cS gL r.a7 I Lc ra rc ps u5 (by have:=d.bd.iy.nb;omega) aj.1.cells.2.2.2 ⟨λb hb=>aj.1.k6 hb,dv⟩ (by have:=aR.2.2;omega) aR.1 (λz hz=>by obtain⟨b,h1,h2,_⟩:=(aR.2.1 z).1 hz;exact⟨b,h1,by rw[<-bi.2];exact h2⟩)).mono ?_;rintro e u6 ⟨mx,rfl,rfl,df⟩;have HV:Ae (RY p fi costs xs r mx):=HG.1.kt d.gd HG.2.1 HG.2.2 cI (λe=>by cases e) (λ_=>df.iff λb=>by
   rw[aR.2.1,d.bd.eb,bi.2];constructor
   . rintro⟨h1,h2⟩;exact⟨b,rfl,h1,h2⟩
   rintro⟨b',h1,h2,h3⟩;obtain rfl:b=b':=oM;exact⟨h2,h3⟩)
  clear df aR;go_simp;refine j.o _ _ (KS _ _ (aa.o _ aj.2.2.1) aj.2.1) (λP=> ?_);clear j N;have Q:=Aw (aa.o u6 aj.2.2.1);have X:=Q.ia.cell 0;have r1:=Q.ia.frozen 0;simp only[lQ,lO]at X;have E3:=Aw (Q.set mx);have dx:Ae (Ay (Aa u6 ⟨(w:Nat)+1,0,M⟩ mx) ((w0:Nat)+1) #[.pointer w0] 254):=aj.2.1.other (by have h1:=aj.2.1;have h2:=Q.ia;unfold Ay at h1 h2;intro e;simp only[]at e;rw[e,h2]at h1;cases h1) _;have aT:=(KeepsOthers.setCell u6 ⟨(w:Nat)+1,0,M⟩ mx).same _ _ aj.2.2.2 rfl;refine DO 5 ?_;intro N j;rw[mE kR];go_simp;refine j.o _ _ (KS _ _ E3 dx) (λP=> ?_);clear j N;refine wpAnyH_done kR ?_ _;clear X r1 P;go_wp2_with fail;refine⟨sP,.inl ⟨_,_,rfl,run_takeDeferred aT,?_⟩⟩;have E5:=E3.put aT aO.1;have r2:=E5.ia.cell 0;simp only[lQ,lO]at r2;exact⟨_,by simp[results,results129,go_sem,r2],_,rfl,HV,E5.cq⟩
 case stop=>
  rintro Dd c dt W hD ⟨ts,hp,bt,dG⟩ ⟨rfl,dz,dy⟩ hK;obtain⟨sl,q1,q2,q3,q4⟩:=d.ke HZ.1 HZ.2.1 hp bt dG;have HV:=Aw (RY.bad d.gd q1 q2 ce bC (dy sl q1 q2 q3));gi_wp2
  refine⟨sP,.inl ⟨_,_,rfl,run_takeDeferred hK,?_⟩⟩;have E5:=dz.put hK (mC bQ hD);have r2:=E5.ia.cell 0;simp only[lQ,lO]at r2;exact⟨_,by simp[results,results129,go_sem,r2],_,rfl,HV,E5.cq⟩
end
end Go.Proofs.YtkgohaigebcgoaaGreatDoor
