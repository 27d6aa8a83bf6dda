import Derived.Test.YtmalfecapdmdbaaGreatHo45
import Derived.Test.YtmalfecapdmdbaaGreatHo47
import Derived.Test.YtmalfecapdmdbaaGreatHo46
namespace Go.Proofs.YtmalfecapdmdbaaGreat
open Go.ChangeShapes Go.WideShapes Go.ChangeAt Go.RowKit Go.Proofs.Tryz
set_option linter.unusedVariables false
open Go.Value renaming slice → Z,agg → Am
open Option renaming some → K,none → M
open Go renaming Value → J,World → Y,Calls → Ai,TypeId → Aj
open Go.RowKit renaming Hid → Ae,Below → Ah
open Go.Obj renaming cells → Ak
open Go.Ending renaming returned → Al
open Go.Proofs.Tryz renaming prog → Ap
open Go.World renaming setCell → Aa,alloc → Ac
open List renaming flatMap → Ad
set_option maxHeartbeats 16000000
set_option maxRecDepth 100000
variable {w u:Y}{e d:Nat}{I:List Nat}{C:List Int}{l:ML}
section
open Go.Shelf
attribute [local go_sem] Oper.semAt_some
def Yt(Q:Exit->Act->Y->Prop):Exit->Act->Y->Prop
 |.panic _,_,_=>False
 |e,a,w=>Q e a w
theorem We{P:Program}{c:Code}{Q:Exit->Act->Y->Prop}{a:Act}(h:c.wp P (Yt Q) a w):c.wp P Q a w:= λb k cs=>by obtain⟨e,a',d,q,r⟩:=h b k cs;refine⟨e,a',d,?_,r⟩;cases e<;>first|exact q|exact q.elim
structure L8(w:Y)(v:BI)(p:MP)(fi:Int)(F:List (MB×J))(xs:List MI)(r:DC)(costs:List Int)(ca:Option Addr)(cc:Nat)(O:List Nat)(D L:Nat->Nat->Bool):Prop where
 bd:SA w v p fi F xs r
 gd:Gd r (nx r.a8) r.a8 O D L
 wy:XH w v r.a8 (nx r.a8) O.reverse (Dp O)
 hnx:∀b m,r.a8[b]?=K m->m.next=ints (nx r.a8 b)
 n0:0<r.a8.length
 cl:costs.length<=1048576
 ck:Rd w 1 (Z ca costs cc) costs (Ad As costs)
 x28:∀x∈xs,x.op=28->0<=x.a
 iv:∀t∈p.eD,Ew t.init
theorem L8.a7{v:BI}{p:MP}{fi:Int}{F:List (MB×J)}{xs:List MI}{r:DC}{costs:List Int}{ca:Option Addr}{cc:Nat}{O:List Nat}{D L:Nat->Nat->Bool}(h:L8 w v p fi F xs r costs ca cc O D L)(a:Ah w w u):L8 u v p fi F xs r costs ca cc O D L:={h with bd:=h.bd.a7 a,wy:=h.wy.a7 a,ck:=h.ck.a7 a lR}
theorem SQ{xs:List MI}{costs:List Int}{m:MB}(h:¬CT xs costs m){a:Nat}(d:m.gH=(a:Int))(f:m.last=(e:Int)):Ew (Cz xs costs m):=by
 have c:∀op,0<=OJ op:= λop=>Rz op (En op)
 refine⟨?_,?_⟩
 . (have:=JN c (xs:=xs) (costs:=costs) (a:=m.gH.toNat) (mz (m.last.toNat+1-m.gH.toNat)) λj x _ g b=>lW λq=>h (.inl ⟨m.gH.toNat+j,x,oM,oM,b,q⟩));exact this
 have:¬4294967295<Cz xs costs m:= λq=>h (.inr q)
 omega
theorem QM.put{v:BI}{y:Int}(h:QM w u v y)(c:u.heap[d]?=K (.deferred (K [])))(hw: ↑w<=d):QM w (u.putObj d (.deferred M)) v y:=by
 have a:=grownBy_putObj' u d (.deferred M);have b:∀r,K d=K r->∃o:Obj,u.heap[r]?=K o/\o.isCells=false:= λr e=>by cases e;exact⟨_,c,rfl⟩
 exact⟨h.body.held a b,h.gU.held a b,h.e8.grown a h.e8.size (λk e=>by cases e;exact hw)⟩
theorem CC.jI{g:Y}{B i:Nat}{v:BI}{n j k:Nat}(h:CC u B i v n d j e k I C)(p:EI (Cg d e) u g){b:Nat}{c:Array J}{t:Aj}(a:AC u b c t)(f:t≠2):AC g b c t:=by
 obtain⟨_,c1,l⟩:=AD h.co;obtain⟨_,c2,m⟩:=AD h.st;refine(p.block b (kM.1 a).1 ?_).trans a;unfold AC at a;rintro(rfl|rfl)
 . rw[l]at a;cases a;exact f rfl
 rw[m]at a;cases a;exact f rfl
theorem AP.hQ{p:MP}{fi:Int}{xs:List MI}{a:List MB}(h:AP p fi xs a l 0):∃m t,a[l.head.toNat]?=K m/\Ce p.eD fi m.gH=K t:=by
 obtain⟨m,e,⟨_,q⟩|⟨t,g,q,_⟩⟩:=h
 . cases q
 exact⟨m,t,e,q⟩
section
variable {w0:Y} {v:BI} {p:MP} {fi:Int} {F:List (MB×J)} {xs:List MI} {r:DC} {costs:List Int} {ca:Option Addr} {cc:Nat} {O:List Nat} {D L:Nat->Nat->Bool} {zs:List LV}
theorem L8.lp(H:L8 w0 v p fi F xs r costs ca cc O D L)(u:∀l∈r.gE,AP p fi xs r.a8 l 0)(G:zs.length= ↑r.gE)(I:∀(k:Nat) (m:ML) (x:LV),r.gE[k]?=K m->zs[k]?=K x->Yh w0 m x){x:LV}(E:x∈zs):∃(l:ML) (h:Nat) (m:MB) (t:MT),l∈r.gE/\l.head=(h:Int)/\x=⟨(h:Int),x.xa,l.back,x.xc,x.ya,l.a8,x.yc⟩/\TP w0 (l,Z x.xa l.back x.xc,Z x.ya l.a8 x.yc)/\r.a8[h]?=K m/\Ce p.eD fi m.gH=K t/\Ew t.init/\Ih p fi r.a8 h=t.init/\AP p fi xs r.a8 l 0/\∀z∈l.back,∃b:Nat,z=(b:Int)/\b<r.a8.length:=by
 obtain⟨j,s⟩:=lH E;have C:j<r.gE.length:=by rw[<-G];exact(i6.1 s).1
 have g:=an C;obtain⟨f,c,d,i⟩:=I j _ x g s;have a:=i7 g;generalize r.gE[j]=l at f c d i a;clear g;obtain⟨⟨h,e,B⟩,_⟩:=H.bd.gW.loop l a;obtain⟨m,t,n,q⟩:=(u l a).hQ;rw[e,kA]at n;obtain⟨y,_⟩:=H.gd.at_ a e;refine⟨l,h,m,t,a,e,?_,?_,n,q,H.iv t (List.mem_of_find?_eq_some q),?_,u l a, λz w=> ?_⟩
 . (cases x);simp only at f c d;rw[f,c,d,e]
 . rw[c,d]at i;exact i
 . unfold Ih;simp only[n,q]
 rw[y]at w;obtain⟨b,A,rfl⟩:=lA.1 w;exact⟨b,rfl,H.gd.fl.ij B ((H.gd.il _ _).1 (H.gd.bk b A))⟩
theorem L8.step(H:L8 w0 v p fi F xs r costs ca cc O D L){a:List {x:LV//x∈zs}}{x:{x:LV//x∈zs}}{I2:List Nat}{C2:List Int}{h:Nat}{t:MT}{b:Bool}(A:∀sl:List ML,sl.Perm r.gE->sl.Pairwise Iy->Mf a sl->Il p fi costs xs r D L sl a false I C)(m:l∈r.gE)(i:l.head=(h:Int))(ex:x.1.h=(h:Int))(z:Ih p fi r.a8 h=t.init)(w:Ew t.init)(s:AP p fi xs r.a8 l 0)(y:C.length= ↑r.a8)(u:Wm (nx r.a8) r.a8 r.a8 l I C h (Dp O) t.init b I2 C2):
 (b=true->∀sl:List ML,sl.Perm r.gE->sl.Pairwise Iy->Mf (a++[x]) sl->Il p fi costs xs r D L sl (a++[x]).length false I2 C2)/\(b=false->∀sl:List ML,sl.Perm r.gE->sl.Pairwise Iy->Mf (a++[x]) sl->WG p fi xs r costs D L sl (-1)):=by
 have q:∀sl:List ML,sl.Perm r.gE->sl.Pairwise Iy->Mf (a++[x]) sl->(b=true->Il p fi costs xs r D L sl (a++[x]).length false I2 C2)/\(b=false->WG p fi xs r costs D L sl (-1)):= λsl g n E=>by obtain⟨G,l',k,j⟩:=E.init;have B:=g.mem_iff.1 (i7 k);rw[ex]at j;have e:l'=l:=(H.gd.at_ B j).1.trans (H.gd.at_ m i).1.symm;subst e;rw[kE];exact(A sl g n G).goI H.gd H.hnx g n k m i s z w.1 y u
 exact⟨λe sl c d f=>(q sl c d f).1 e, λe sl c d f=>(q sl c d f).2 e⟩
theorem L8.jq(H:L8 w0 v p fi F xs r costs ca cc O D L)(n:zs.length= ↑r.gE)(q:∀(k:Nat) (m:ML) (x:LV),r.gE[k]?=K m->zs[k]?=K x->Yh w0 m x){ts:List LV}(c:ts.Perm zs)(e:Mk ts){b:List {x:LV//x∈zs}}(d:b.map Subtype.val<+:ts):∃sl:List ML,sl.Perm r.gE/\sl.Pairwise Iy/\Mf b sl/\ts.length=sl.length:=by obtain⟨sl,g,i,j,l⟩:=Xu c e n q (H.gd.jZ.imp λh=>oM);refine⟨sl,g,i, λk x a=>l k x.1 ?_,j⟩;obtain⟨u,f⟩:=d;rw[<-f,lO (by rw[lC];exact(i6.1 a).1),lE,a];rfl
end
theorem T3(v:BI)(p:MP)(fi:Int)(F:List (MB×J))(xs:List MI)(r:DC)(costs:List Int)(ca:Option Addr)(cc:Nat)(O:List Nat)(D L:Nat->Nat->Bool)(w:Y)(hB:L8 w v p fi F xs r costs ca cc O D L):
 Ai Ap 88 #[Am v.cells,Z ca costs cc] w λe w'=>∃x,e=Al (iZ x)/\QJ p fi costs xs r x/\Ah w w w':=by
 obtain⟨k0,cE,cW,cX,cY⟩:=lS Bp;have H:=Av hB;clear hB;obtain⟨CN,bx⟩:∃CN,costs.length=CN:=⟨_,rfl⟩;have d6:=Av bx;rw[bx];clear bx;have E0:=BL w v.cells #[iZ 0] 160 2;refine(callsIn_wide (n:=5)).1 ?_;refine callsIn_of_wp_marks func88 rfl trivial ?_ rfl;simp only[ntmps88,List.size_toArray,lX,lw,Nat.reduceAdd,Nat.reduceSub,Array.replicate_succ,Array.replicate_zero,List.push_toArray,List.append_toArray,lu,lK];refine wpIn_wide.2 (We ?_);go_upto_region 1 with fail
 refine Ax (λu=>Ae (QM w u v 0)) ⟨E0.1,E0.2.1,E0.2.2⟩ ?_;rintro U HE;clear E0;obtain⟨p0,p1,p2,p3,p4,p5,p6,p7,p8,p9,aZ,au,aw,b7,aq⟩:=CQ HE.body;go_wp2_with fail;clear p0 p1 p2 p3 p4 p5 p6 p7 p8 p9 aZ au aw b7 aq;refine(La v p fi F xs r U (H.bd.a7 HE.e8)).mono ?_;rintro e u1 ⟨⟨h,x,y,b,rfl,k1,k2⟩,G⟩;have E1:=Av (HE.a7 G);clear HE G;cases b
 case true=>
  have X:=E1.gU.frozen 0;have HV:Ae (QJ p fi costs xs r (-1)):=.inl ⟨.inl (k1 rfl),rfl⟩;go_upto_region 3 with fail
  refine Ax (λu=>Ae (QM w u v 0)) (E1.a7 (Aq _ _)) ?_;rintro U2 Q;have X:=Q.gU.cell 0;have r1:=Q.gU.frozen 0;simp only[kB,i9]at X;have E3:=Av (Q.set (-1));go_wp2_with fail;exact⟨_,by simp[results,results88,go_sem,X],_,rfl,HV,E3.e8⟩
 have bP:=Av (k2 rfl);clear k1 k2;go_upto_region 4 with fail
 refine Ax (λu=>Ae (QM w u v 0)) (E1.a7 (Aq _ _)) ?_;rintro w0 HE;have d:=Av (H.a7 HE.e8);have ae:Ae (∀u,Ah w0 w0 u->QM w u v 0):= λu hu=>HE.a7 hu
 obtain⟨p0,p1,p2,p3,p4,p5,p6,p7,p8,p9,aZ,au,aw,b7,aq⟩:=CQ HE.body;clear E1 H U;go_upto_region 5 with fail
 refine Ax (λu=>Ae (ON u w0 w0 ((w0:Nat)+1) v sN sN 0 0 []/\Ah w0 w0 u)) (by have E0:=BL w0 (Ja v sN sN) #[.pointer w0] 195 193;exact⟨⟨E0.1,lQ _ _ _ _,lQ _ _ _ _, λg h=>(by cases h),Nat.le_refl _,E0.2.1⟩,E0.2.2⟩) ?_
 rintro U HC;clear p0 p1 p2 p3 p4 p5 p6 p7 p8 p9 aZ au aw b7 aq;have au:=(ae.o U HC.2).body.cell 11;simp only[BI.cells]at au;obtain⟨ba,bc,eb⟩:=d.bd.bs.rd.dk;simp only[i8]at eb;have bf:=Av (d5 eb.2.1 d.bd.fl);have dt:F.length<=1024:=d.bd.bs.len;clear eb ba bc;obtain⟨ba,bZ⟩:∃ba,v.b.a=ba:=⟨_,rfl⟩;have bJ:=Av bZ;clear bZ;simp only[bf.1,bJ.o]at au;go_wp2_with fail;clear au;go_loopw [28] (λi wr=>∃(k:Nat) (va:Option Addr) (vc:Nat) (sa:Option Addr) (sc:Nat),k<= ↑F/\i=iZ k/\Ae (ON wr w0 w0 ((w0:Nat)+1) v (Z va k vc) (Z sa k sc) k k ((r.a8.take k).map (Cz xs costs))/\Ah w0 w0 wr/\∀m∈r.a8.take k,¬CT xs costs m)) (λi _=> ↑F-(intOf i).toNat)
 case atStart=>exact⟨0,M,0,M,0,oM,rfl,HC.1,HC.2, λm V=>by simp at V⟩
 case round=>
 clear HC;obtain⟨k,va,vc,sa,sc,de,rfl,HS⟩:=hrel;by_cases cH:k< ↑F
 case pos=>
  have du:(k:Int)<(F:Int):=oM;obtain⟨m,g,o,ma,me,dw,V,eg,en,i0,i1,i2,e1,e2,cJ,cM,bV⟩:=(d.bd.bs.a7 HS.2.1).at cH;obtain⟨na,nc,bT⟩:=(d.bd.nx _ (i7 bV)).1.dk;simp only[]at bT;subst bT;have HM:=Av (d5 ((by rw[<-d.bd.eb];exact V):r.a8[k]?=some m) (d5 e1 (d5 e2 (d5 cJ cM))));obtain rfl:ba=some ⟨g,o,M⟩:=by rw[<-bJ];exact eg
  clear V eg en e1 e2 bV cJ cM;go_upto_region 8 with fail
  have bK:Ae (Ah wr wr (Ac wr (Ak #[ma,me,Z na m.next nc] 126))):=Aq _ _;refine Ax (λu=>Ae (AC u wr #[ma,me,Z na m.next nc] 126/\Ah wr wr u)) ⟨AC.new _ _ _,bK⟩ ?_
  rintro U8 E8;clear i0 i1 i2 bK;have aI:=Av (d5 (HS.1.a7 E8.2) (Ar HS.2.1 lR E8.2));have bt:=Av HS.2.2;obtain⟨p0,p1,p2,p3,p4,p5,p6,p7,p8,p9,aZ,au,aw,b7,aq⟩:=CQ (ae.o U8 aI.2).body;obtain⟨b0,b1,b2⟩:=Cl E8.1;clear HS E8;go_wp2_with fail;clear p0 p1 p2 p3 p4 p5 p6 p7 p8 p9 aZ au aw b7 aq b0 b1 b2;have bB:=Mn v (Z na m.next nc) xs costs m ca cc U8 d.bd.bs.ju (d.bd.cd.eC.a7 aI.2 lR) d.bd.cd.cap d.cl (d.ck.a7 aI.2 lR) d.x28 ⟨ma,me,HM.2⟩;rw[HM.2.1,HM.2.2.1,d6]at bB;refine bB.mono ?_;clear bB;rintro e u9 ⟨⟨s,b,rfl,k1,k2⟩,G⟩;have aJ:=Av (d5 (aI.1.a7 G) (Ar aI.2 lR G));clear aI G;cases b
  case false=>have HV:Ae (QJ p fi costs xs r (-1)):=.inl ⟨.inr ⟨m,i7 HM.1,k2 rfl⟩,rfl⟩;have Q:=Av (ae.o u9 aJ.2);have X:=Q.gU.cell 0;have r1:=Q.gU.frozen 0;simp only[kB,i9]at X;have E3:=Av (Q.set (-1));clear k1 k2;go_wp2_with fail;exact⟨_,by simp[results,results88,go_sem,X],_,rfl,HV,E3.e8⟩
  have bQ:=Av (k1 rfl);clear k1 k2;go_upto_region 11 with fail
  refine D7 10 (S:= λW=>W ⟨(w0:Nat)+1,0,M⟩=some (.pointer w0)/\W ⟨w0,15,M⟩=some (Z va k vc)) kR ⟨(aJ.1.a7 (At _)).cells.1,(aJ.1.a7 (At _)).cells.2.1⟩ (λP=> ?_)
  have D0:=Av (d5 (aJ.1.a7 (At _)) (Ar aJ.2 lR (At _)));clear aJ;generalize u9.drew=UD at D0 P⊢;refine GP 0 ?_ (hw:=kR);refine GP 1 ?_ (hw:=kR);refine GP 2 ?_ (hw:=kR);refine GP 3 ?_ (hw:=kR);refine GP 4 ?_ (hw:=kR);refine GP 5 ?_ (hw:=kR);go_simp;refine Xp 6 ?_;intro N j;rw[kZ kR];go_simp;have R:Ae (ON (Ac UD (Ak #[s] 2)) w0 w0 ((w0:Nat)+1) v (Z va k vc) (Z sa k sc) k k ((r.a8.take k).map (Cz xs costs))/\Ah w0 w0 (Ac UD (Ak #[s] 2))):=⟨D0.1.a7 (Aq _ _),Ar D0.2 lR (Aq _ _)⟩
  refine j.o _ _ (λ_=>⟨R.1.cells.1,R.1.cells.2.1⟩) (λT=> ?_);clear j N D0;have P:=T dC;clear T;refine Xp 7 ?_;intro N j;have O3:=Av R.1.co;have aY:=R.2.size;refine step_append_lies _ rfl (.tmp 46) (.tmp 48) 46 rfl w0 2 k0 (iZ 0) 1 8 underlying46 cE cW cX cY rfl dC (Z va k vc) k (Ad As ((r.a8.take k).map (Cz xs costs))) oE O3 UD 1 1 [s] oE rfl (Go.cell_one_new _ _ _) (λu hu=>by simp at hu;subst hu;rfl) oM oX oM aY _ rfl ?_;intro gg cap u8 aW aF aU _;have D4:=Av (R.1.ki aW aF aU);have aH:Ae (Ah w0 w0 (Aa u8 ⟨w0,15,M⟩ (Z gg (k+1) cap))):=(R.2.grown aF aY (λi hi=>(O3.lt i hi).1)).setCell lR _;have y0:=D4.2.1;have y1:=D4.2.2.1;have y2:=D4.2.2.2;have D5:=Av D4.1;clear aW aF aU O3 R D4 P;refine j.o _ _ (λ_=>⟨y0,y1⟩) (λT=> ?_);clear j N;have P:=T dC;clear T;refine GP 8 ?_ (hw:=kR);refine GP 9 ?_ (hw:=kR);go_simp;refine Xp 10 ?_;intro N j;rw[kZ kR];go_simp;refine j.o _ _ (λh=>absurd h dC) (λT=> ?_);clear j N T P;refine Hq kR ?_ _;generalize Aa u8 ⟨w0,15,M⟩ (sG gg (k+1) cap)=W5 at D5 aH⊢;clear y0 y1 y2;go_upto_region 12 with fail
  refine D7 10 (S:= λW=>W ⟨(w0:Nat)+1,0,M⟩=some (.pointer w0)/\W ⟨w0,16,M⟩=some (Z sa k sc)) kR ⟨(D5.a7 (At _)).cells.1,(D5.a7 (At _)).cells.2.2⟩ (λP=> ?_)
  have D0:=Av (d5 (D5.a7 (At _)) (Ar aH lR (At _)));clear D5 aH;generalize W5.drew=UD at D0 P⊢;refine GP 0 ?_ (hw:=kR);refine GP 1 ?_ (hw:=kR);refine GP 2 ?_ (hw:=kR);refine GP 3 ?_ (hw:=kR);refine GP 4 ?_ (hw:=kR);refine GP 5 ?_ (hw:=kR);go_simp;refine Xp 6 ?_;intro N j;rw[kZ kR];go_simp;have R:Ae (ON (Ac UD (Ak #[k] 2)) w0 w0 ((w0:Nat)+1) v (sG gg (k+1) cap) (Z sa k sc) (k+1) k ((r.a8.take k).map (Cz xs costs)++[s])/\Ah w0 w0 (Ac UD (Ak #[k] 2))):=⟨D0.1.a7 (Aq _ _),Ar D0.2 lR (Aq _ _)⟩
  refine j.o _ _ (λ_=>⟨R.1.cells.1,R.1.cells.2.2⟩) (λT=> ?_);clear j N D0;have P:=T dC;clear T;refine Xp 7 ?_;intro N j;have O3:=Av R.1.st;have aY:=R.2.size;refine step_append_lies _ rfl (.tmp 56) (.tmp 58) 46 rfl w0 2 k0 (iZ 0) 1 8 underlying46 cE cW cX cY rfl dC (Z sa k sc) k (nv (List.range k)) oE O3 UD 1 1 [k] oE rfl (Go.cell_one_new _ _ _) (λu hu=>by simp at hu;subst hu;rfl) oM oX oM aY _ rfl ?_;intro gs bu u8 aW aF aU _;have D4:=Av (R.1.kf aW aF aU);have aH:Ae (Ah w0 w0 (Aa u8 ⟨w0,16,M⟩ (Z gs (k+1) bu))):=(R.2.grown aF aY (λi hi=>(O3.lt i hi).1)).setCell lR _;have y0:=D4.2.1;have y1:=D4.2.2.1;have y2:=D4.2.2.2;have D5:=Av D4.1;clear aW aF aU O3 R D4 P;refine j.o _ _ (λ_=>⟨y0,y1⟩) (λT=> ?_);clear j N;have P:=T dC;clear T;refine GP 8 ?_ (hw:=kR);refine GP 9 ?_ (hw:=kR);go_simp;refine Xp 10 ?_;intro N j;rw[kZ kR];go_simp;refine j.o _ _ (λh=>absurd h dC) (λT=> ?_);clear j N T P;refine Hq kR ?_ _;generalize Aa u8 ⟨w0,16,M⟩ (sG gs (k+1) bu)=W6 at D5 aH⊢;clear y0 y1 y2;go_wp2_with fail;go_roundw;case rel=>
   (have hT:r.a8.take (k+1)=r.a8.take k++[m]:=by rw[List.take_add_one,HM.1];rfl);refine⟨k+1,some gg,cap,some gs,bu,oM,by go_num,?_,aH,?_⟩
   . rw[hT,mF,List.map_singleton,<-bQ.2];exact D5
   rw[hT];intro q hq;rcases kO.1 hq with q1|q1
   . exact bt.o q q1
   rw[ld]at q1;rw[q1];exact bQ.1
  case measure=>exact oI
 obtain rfl:k=F.length:=oM;have hs:=HS.o;rw[bf.2,List.take_length]at hs;have bF:∀y∈r.a8.map (Cz xs costs),Ew y:= λy hy=>by obtain⟨m,V,rfl⟩:=lA.1 hy;obtain⟨i,hi⟩:=lH V;obtain⟨a,e,h1,h2,_⟩:=d.bd.gW.gK i m hi;exact SQ (hs.2.2 m V) h1 h2
 obtain⟨gC,cC,gS,cS,ao⟩:=hs.1.whole d.n0 sP bF;obtain⟨zs,z1,z2,z3⟩:=Yc d.bd.ls;have HI:Ae (Wi w0 v p fi xs r costs D L gC cC gS cS zs [] wr):=⟨⟨_,_,ao, λsl _ _ _=>Il.start d.gd sP bF ⟨(λe=>by cases e), λ_ b m hb V=>⟨hs.2.2 m (i7 V),DL (by rw[lE,V];rfl)⟩⟩⟩,hs.1.tb,hs.2.1⟩;have HZ:=Av (d5 z1 (d5 z2 z3));have bt:=Av hs.2.2;clear hs ao bF z1 z2 z3 HS cH de;have dv:zs.length<=1024:=by rw[HZ.1];exact d.bd.gW.nl
 have aq:=(ae.o wr HI.e8).body.cell 14;simp only[BI.cells]at aq;have eq:v.q.n=zs.length:=by rw[HZ.1];exact d.bd.ln
 simp only[eq]at aq;clear eq;obtain⟨qa,bH⟩:∃qa,v.q.a=qa:=⟨_,rfl⟩;have d8:=Av bH;simp only[bH]at aq;clear bH;go_wp2_with fail;clear aq;refine(MD qa zs v.q.c wr).mono ?_;rintro e u2 ⟨rfl,b1,b2,G⟩;have aQ:=Av (HI.a7 G);have bI:=Av (d5 b1 b2);clear b1 b2 G HI;go_wp2_with fail;refine(wpIn_wide (n:=5)).1 ?_;have bG:(w:Nat)<=u2.heap.size:=(ae.o u2 aQ.e8).e8.size;have df:(w0:Nat)<=u2.heap.size:=aQ.e8.size;obtain⟨⟨I0,C0,cj,_⟩,_,_⟩:=aQ.o;have cU:=cj.sz;clear cj;refine VY gC gS rfl (enters_of func147 kR rfl) (Kw 4 oM wr ((wr:Nat)+1) v.q.c gC gS qa zs oM u2 cU.1 cU.2 (by rw[bI.1.cell];rfl) (by rw[bI.2.cell];rfl) (λhz=>by
  obtain⟨b,dp,h1,h2,h3⟩:=(HZ.2.2.a7 aQ.e8) hz;exact⟨b,dp,by rw[<-d8];exact h1,oM,h3⟩))
  (Wi w0 v p fi xs r costs D L gC cC gS cS zs) (Yf w v p fi xs r costs D L zs) (Wi.own df) (Yf.own bG) aQ ?assign ?body ?done ?stop
 case assign=>
  rintro l cZ ⟨x,hx⟩ W K hi hK;simp only[LV.ie]at hK⊢;gi_wp2
  have q:=hK _ ((KeepsOthers.alloc W (Ak #[iZ x.h,Z x.xa x.xn x.xc,Z x.ya x.yn x.yc] 85)).from _) (Jw.of (Aq _ _)) (hi.a7 (Aq _ _)) W (AC.new W _ _);simp only[lF,lT,lI]at q;exact q
 case body=>
  rintro l cZ ⟨x,hx⟩ Bx W bX hi;obtain⟨lm,h,m,t,V,eh,ex,aX,cI,cw,bC,cA,cG,cg⟩:=d.lp bP HZ.1 HZ.2.1 hx;obtain⟨⟨I,C,ao,aA⟩,aG,aE⟩:=hi;have bR:=Av (λb I2 C2 hG=>d.step (x:=⟨x,hx⟩) (I2:=I2) (C2:=C2) (b:=b) aA V eh (congrArg LV.h ex) cA bC cG ao.lc hG);have aj:=Av (d5 ao (d5 aG aE));have bL:=Av (Li w0 w0 v gC cC gS cS I C p fi F xs r (nx r.a8) O.reverse (Dp O) h m t x.xa x.xc x.ya x.yc lm W aE d.bd ao d.wy V eh cg aX cI cw bC);have t0:W ⟨(w0:Nat)+1,0,M⟩=some (.pointer w0):=by rw[aG.cell];rfl
  clear V eh aX cI cw bC cA cG cg ao aA aG aE;have aS:=bX;simp only[LV.ie]at aS;rw[ex]at aS;simp only[]at aS;obtain⟨x0,x1,x2⟩:=Cl aS;clear bX aS ex;gi_wp2_with fail
  refine⟨trivial,(CallsIn.inRound l (callsIn_wide.2 bL)).mono ?_⟩;rintro e W2 ⟨b,I2,C2,rfl,cu,bj,ce,hG⟩;have HS:=Av (bR.o b I2 C2 hG);have dm:=Av (aj.1.jI bj aj.2.1 dC);have HK:=Av (d5 (aj.1.keeps (A:=u2) bj) bj.kpc);have bp:=Av (d5 cu ce);clear cu ce hG bj bR bL x0 x1 x2 t0;cases b
  case true=>(gi_wp2);exact⟨HK.1,HK.2,⟨I2,C2,bp.1,HS.1 trivial⟩,dm,bp.2⟩
  case false=>have Q:=Av (ae.o W2 bp.2);have X:=Q.gU.cell 0;have r1:=Q.gU.frozen 0;simp only[kB,i9]at X;have E3:=Av (Q.set (-1));(gi_wp2);exact⟨HK.1.trans ((KeepsOthers.setCell W2 ⟨(w:Nat)+1,0,M⟩ (iZ (-1))).from _),rfl,E3,HS.2 trivial⟩
 case done=>
  rintro Dd ys W hD ⟨hp,bo⟩ hi hK;obtain⟨sl,q1,q2,q3,q4⟩:=d.jq HZ.1 HZ.2.1 hp bo (List.prefix_refl _);obtain⟨⟨I,C,ao,aA⟩,aG,aE⟩:=hi;have aA:=aA sl q1 q2 q3;rw[lC]at q4;rw[q4]at aA;have HG:=Av (d5 aA (d5 q1 q2));have aj:=Av (d5 ao (d5 aG aE));have t0:W ⟨(w0:Nat)+1,0,M⟩=some (.pointer w0):=by rw[aG.cell];rfl
  have aw:=(ae.o W aE).body.cell 12;simp only[BI.cells]at aw;obtain⟨oa,oc,eo⟩:=d.bd.od.dk;simp only[i8]at eo;have dh:r.gJ.length<=1024:=by rw[d.gd.ord];simpa[ints]using d.wy.rl
  have dg:Ae (∀z∈r.gJ,∃b:Nat,z=(b:Int)/\b< ↑r.a8):= λz hz=>by rw[d.gd.ord]at hz;obtain⟨b,hb,rfl⟩:=lA.1 hz;exact⟨b,rfl,(d.gd.om b).1 (mc.1 hb)⟩
  have di:Ae (Rd w0 1 (Z v.o.a r.gJ v.o.c) r.gJ (Ad As r.gJ)):=by have:=d.bd.od;rw[eo.2.1]at this;exact this
  simp only[eo.2.1]at aw;have bg:=Av (d5 hD hK);clear hp bo ao aA aG aE q1 q2 q3 q4 eo oa oc hK hD;go_wp2_with fail;clear t0 aw;refine(GJ w0 w0 v r.a8 gC cC gS cS I C (nx r.a8) O.reverse (Dp O) 0 ⟨M,0,0⟩ v.o.a v.o.c r.gJ W d.bd.gW.nb aj.1 (d.wy.a7 aj.2.2) d.n0 dh (di.a7 aj.2.2 lR) dg).mono ?_;rintro e u3 ⟨gL,Lc,small,rfl,hL,bY,G⟩;have aP:=Av (d5 (kV bG bg.1) ((G.block Dd (kM.1 bg.2).1).trans bg.2));have aM:=Av (d5 (aj.1.a7 G) (d5 (aj.2.1.a7 G) (Ar aj.2.2 lR G)));have bi:=Av (ae.o u3 aM.2.2);have bq:=Av hL;have bS:=Av bY;clear hL bY G aj bg;cases small
  case false=>have HV:=Av (HG.1.j7 d.gd HG.2.1 HG.2.2 bS (λ_=>rfl) (λe=>by cases e));have X:=bi.gU.cell 0;have r1:=bi.gU.frozen 0;simp only[kB,i9]at X;have E4:=Av (bi.set (-1));have aT:=(KeepsOthers.setCell u3 ⟨(w:Nat)+1,0,M⟩ (iZ (-1))).same _ _ aP.2 rfl;go_wp2_with fail;refine⟨sP,.inl ⟨_,_,rfl,run_takeDeferred aT,?_⟩⟩;have E5:=E4.put aT aP.1;have r2:=E5.gU.cell 0;simp only[kB,i9]at r2;exact⟨_,by simp[results,results88,go_sem,r2],_,rfl,HV,E5.e8⟩
  go_upto_region 21 with fail
  have KS:∀u y,QM w u v y->AC u ((w0:Nat)+1) #[.pointer w0] 193->u ⟨(w0:Nat)+1,0,M⟩=some (.pointer w0)/\u w=some (Z v.r.a v.r.n v.r.c)/\u ⟨w,1,M⟩=some (Z v.k.a v.k.n v.k.c)/\u ⟨w,2,M⟩=some (Z v.f.a v.f.n v.f.c)/\u ⟨w,3,M⟩=some (Z v.t.a v.t.n v.t.c)/\u ⟨w,4,M⟩=some (Z v.p.a v.p.n v.p.c)/\u ⟨w,5,M⟩=some ↑v.rs/\u ⟨w,6,M⟩=some (Z v.l.a v.l.n v.l.c)/\u ⟨w,7,M⟩=some (Z v.c.a v.c.n v.c.c)/\u ⟨w,8,M⟩=some ↑v.nu/\u ⟨w,9,M⟩=some ↑v.co/\u ⟨w,10,M⟩=some ↑v.at_/\u ⟨w,11,M⟩=some (Z v.b.a v.b.n v.b.c)/\u ⟨w,12,M⟩=some (Z v.o.a v.o.n v.o.c)/\u ⟨w,13,M⟩=some (Z v.i.a v.i.n v.i.c)/\u ⟨w,14,M⟩=some (Z v.q.a v.q.n v.q.c):= λu y E B=>⟨by rw[B.cell];rfl,CQ E.body⟩
  have ah:=Av (d5 (aM.1.a7 (At _)) (d5 (aM.2.1.a7 (At _)) (d5 (Ar aM.2.2 lR (At _)) (((At u3).block Dd (kM.1 aP.2).1).trans aP.2))));have br:Ae ((∀c,c< ↑r.a8->u3.drew ⟨gL,c,M⟩=some ↑(cf Lc c))/\∀y∈Lc,Ew y):=⟨λc hc=>Au (At u3) ((bq.o trivial).1 c hc),(bq.o trivial).2⟩
  refine wp_region_held_drew (S:= λu=>u ⟨(w0:Nat)+1,0,M⟩=some (.pointer w0)/\u w=some (Z v.r.a v.r.n v.r.c)/\u ⟨w,1,M⟩=some (Z v.k.a v.k.n v.k.c)/\u ⟨w,2,M⟩=some (Z v.f.a v.f.n v.f.c)/\u ⟨w,3,M⟩=some (Z v.t.a v.t.n v.t.c)/\u ⟨w,4,M⟩=some (Z v.p.a v.p.n v.p.c)/\u ⟨w,5,M⟩=some ↑v.rs/\u ⟨w,6,M⟩=some (Z v.l.a v.l.n v.l.c)/\u ⟨w,7,M⟩=some (Z v.c.a v.c.n v.c.c)/\u ⟨w,8,M⟩=some ↑v.nu/\u ⟨w,9,M⟩=some ↑v.co/\u ⟨w,10,M⟩=some ↑v.at_/\u ⟨w,11,M⟩=some (Z v.b.a v.b.n v.b.c)/\u ⟨w,12,M⟩=some (Z v.o.a v.o.n v.o.c)/\u ⟨w,13,M⟩=some (Z v.i.a v.i.n v.i.c)/\u ⟨w,14,M⟩=some (Z v.q.a v.q.n v.q.c)) kR (KS _ _ (ae.o _ ah.2.2.1) ah.2.1) (λP=> ?_)
  clear aM bi bq;generalize u3.drew=U4 at ah br P⊢;refine AK 0 ?_ (hw:=kR);refine AK 1 ?_ (hw:=kR);refine AK 2 ?_ (hw:=kR);go_simp;refine D3 3 ?_;intro N j;rw[kZ kR];go_simp;refine(MJ v F xs U4 (d.bd.bs.a7 ah.2.2.1) (λz hz=>(d.bd.nx z hz).1.dk.elim λa q=>q.elim λc e=>⟨a,_,c,e⟩) (d.bd.cd.eC.a7 ah.2.2.1 lR)).mono ?_;rintro e u5 ⟨ra,rc,ps,rfl,aX,cT,cR,G⟩;have am:=Av (d5 (ah.1.a7 G) (d5 (ah.2.1.a7 G) (d5 (Ar ah.2.2.1 lR G) ((G.block Dd (kM.1 ah.2.2.2).1).trans ah.2.2.2))));have d7:Ae (∀c,c< ↑r.a8->u5 ⟨gL,c,M⟩=some ↑(cf Lc c)):= λc hc=>Au G (br.1 c hc)
  have aR:=Av (d5 aX (d5 cT cR));clear aX cT cR G ah br;go_simp;refine j.o _ _ (KS _ _ (ae.o _ am.2.2.1) am.2.1) (λP=> ?_);clear j N;refine D3 4 ?_;intro N j;rw[kZ kR];go_simp;refine(G5 w0 r.a8 gS cS gL r.a8 I Lc ra rc ps u5 (by have:=d.bd.gW.nb;omega) am.1.cells.2.2.2 ⟨λb hb=>am.1.jA hb,d7⟩ (by have:=aR.2.2;omega) aR.1 (λz hz=>by obtain⟨b,h1,h2,_⟩:=(aR.2.1 z).1 hz;exact⟨b,h1,by rw[<-bf.2];exact h2⟩)).mono ?_;rintro e u6 ⟨mx,rfl,rfl,cQ⟩;have HV:Ae (QJ p fi costs xs r mx):=HG.1.j7 d.gd HG.2.1 HG.2.2 bS (λe=>by cases e) (λ_=>cQ.iff λb=>by
   rw[aR.2.1,d.bd.eb,bf.2];constructor
   . rintro⟨h1,h2⟩;exact⟨b,rfl,h1,h2⟩
   rintro⟨b',h1,h2,h3⟩;obtain rfl:b=b':=oM;exact⟨h2,h3⟩)
  clear cQ aR;go_simp;refine j.o _ _ (KS _ _ (ae.o _ am.2.2.1) am.2.1) (λP=> ?_);clear j N;have Q:=Av (ae.o u6 am.2.2.1);have X:=Q.gU.cell 0;have r1:=Q.gU.frozen 0;simp only[kB,i9]at X;have E3:=Av (Q.set mx);have d9:Ae (AC (Aa u6 ⟨(w:Nat)+1,0,M⟩ mx) ((w0:Nat)+1) #[.pointer w0] 193):=am.2.1.other (by have h1:=am.2.1;have h2:=Q.gU;unfold AC at h1 h2;intro e;simp only[]at e;rw[e,h2]at h1;cases h1) _;have aT:=(KeepsOthers.setCell u6 ⟨(w:Nat)+1,0,M⟩ mx).same _ _ am.2.2.2 rfl;refine D3 5 ?_;intro N j;rw[kZ kR];go_simp;refine j.o _ _ (KS _ _ E3 d9) (λP=> ?_);clear j N;refine wpAnyH_done kR ?_ _;clear X r1 P;go_wp2_with fail;refine⟨sP,.inl ⟨_,_,rfl,run_takeDeferred aT,?_⟩⟩;have E5:=E3.put aT aP.1;have r2:=E5.gU.cell 0;simp only[kB,i9]at r2;exact⟨_,by simp[results,results88,go_sem,r2],_,rfl,HV,E5.e8⟩
 case stop=>
  rintro Dd c cZ W hD ⟨ts,hp,bo,dj⟩ ⟨rfl,dd,db⟩ hK;obtain⟨sl,q1,q2,q3,q4⟩:=d.jq HZ.1 HZ.2.1 hp bo dj;have HV:=Av (QJ.bad d.gd q1 q2 bP bt (db sl q1 q2 q3));gi_wp2
  refine⟨sP,.inl ⟨_,_,rfl,run_takeDeferred hK,?_⟩⟩;have E5:=dd.put hK (kV bG hD);have r2:=E5.gU.cell 0;simp only[kB,i9]at r2;exact⟨_,by simp[results,results88,go_sem,r2],_,rfl,HV,E5.e8⟩
end
end Go.Proofs.YtmalfecapdmdbaaGreat
