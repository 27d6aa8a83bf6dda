import Derived.Test.YtadcneiiokbofaaGreatBo45
import Derived.Test.YtadcneiiokbofaaGreatBo42
namespace Go.Proofs.YtadcneiiokbofaaGreat
open Go.ChangeShapes Go.WideShapes Go.ChangeAt Go.RowKit Go.Proofs.Tryz
set_option linter.unusedVariables false
open Go.Value renaming slice → Z,agg → Am
open Option renaming some → K,none → M
open Go renaming Value → J,World → Y,Calls → Ai,TypeId → Aj
open Go.RowKit renaming Hid → Ae,Below → Ah
open Go.Obj renaming cells → Ak
open Go.Ending renaming returned → Al
open Go.Proofs.Tryz renaming prog → Ap
open Go.World renaming setCell → Aa,alloc → Ac
open List renaming flatMap → Ad
set_option maxHeartbeats 16000000
set_option maxRecDepth 100000
variable {w u:Y}{e d:Nat}{I:List Nat}{C:List Int}{l:ML}
section
open Go.Shelf
attribute [local go_sem] Oper.semAt_some
def ZE(Q:Exit->Act->Y->Prop):Exit->Act->Y->Prop
 |.panic _,_,_=>False
 |e,a,w=>Q e a w
theorem Xn{P:Program}{c:Code}{Q:Exit->Act->Y->Prop}{a:Act}(h:c.wp P (ZE Q) a w):c.wp P Q a w:= λb k d=>by obtain⟨e,a',f,q,r⟩:=h b k d;refine⟨e,a',f,?_,r⟩;cases e<;>first|exact q|exact q.elim
structure Mw(w:Y)(v:B2)(p:MP)(fi:Int)(F:List (MB×J))(xs:List MI)(r:CS)(costs:List Int)(ca:Option Addr)(cc:Nat)(O:List Nat)(D L:Nat->Nat->Bool):Prop where
 bd:Tu w v p fi F xs r
 gd:Gd r (nx r.a8) r.a8 O D L
 wy:YJ w v r.a8 (nx r.a8) O.reverse (Dl O)
 hnx:∀b m,r.a8[b]?=K m->m.next=ints (nx r.a8 b)
 n0:0<r.a8.length
 cl:costs.length<=1048576
 ck:Rd w 1 (Z ca costs cc) costs (Ad As costs)
 x28:∀x∈xs,x.op=28->0<=x.a
 iv:∀t∈p.e8,EP t.init
theorem Mw.a7{v:B2}{p:MP}{fi:Int}{F:List (MB×J)}{xs:List MI}{r:CS}{costs:List Int}{ca:Option Addr}{cc:Nat}{O:List Nat}{D L:Nat->Nat->Bool}(h:Mw w v p fi F xs r costs ca cc O D L)(a:Ah w w u):Mw u v p fi F xs r costs ca cc O D L:={h with bd:=h.bd.a7 a,wy:=h.wy.a7 a,ck:=h.ck.a7 a lR}
theorem TG{xs:List MI}{costs:List Int}{m:MB}(h:¬CZ xs costs m){a:Nat}(d:m.gZ=(a:Int))(f:m.last=(e:Int)):EP (Cz xs costs m):=by
 have c:∀op,0<=Ps op:= λop=>Sp op (Ez op)
 refine⟨?_,?_⟩
 . (have:=Kf c (xs:=xs) (costs:=costs) (a:=m.gZ.toNat) (nZ (m.last.toNat+1-m.gZ.toNat)) λj x _ g b=>mr λq=>h (.inl ⟨m.gZ.toNat+j,x,oM,oM,b,q⟩));exact this
 have:¬4294967295<Cz xs costs m:= λq=>h (.inr q)
 omega
theorem Rw.put{v:B2}{y:Int}(h:Rw w u v y)(c:u.heap[d]?=K (.deferred (K [])))(hw: ↑w<=d):Rw w (u.putObj d (.deferred M)) v y:=by
 have a:=grownBy_putObj' u d (.deferred M);have b:∀r,K d=K r->∃o:Obj,u.heap[r]?=K o/\o.isCells=false:= λr e=>by cases e;exact⟨_,c,rfl⟩
 exact⟨h.body.held a b,h.ik.held a b,h.ej.grown a h.ej.size (λk e=>by cases e;exact hw)⟩
theorem CD.ku{g:Y}{B i:Nat}{v:B2}{n j k:Nat}(h:CD u B i v n d j e k I C)(p:DB (Cg d e) u g){b:Nat}{c:Array J}{t:Aj}(a:AA u b c t)(f:t≠2):AA g b c t:=by
 obtain⟨_,c1,l⟩:=AD h.co;obtain⟨_,c2,m⟩:=AD h.st;refine(p.block b (lK.1 a).1 ?_).trans a;unfold AA at a;rintro(rfl|rfl)
 . rw[l]at a;cases a;exact f rfl
 rw[m]at a;cases a;exact f rfl
theorem AU.ix{p:MP}{fi:Int}{xs:List MI}{a:List MB}(h:AU p fi xs a l 0):∃m t,a[l.head.toNat]?=K m/\Cj p.e8 fi m.gZ=K t:=by
 obtain⟨m,e,⟨_,q⟩|⟨t,g,q,_⟩⟩:=h
 . cases q
 exact⟨m,t,e,q⟩
section
variable {w0:Y} {v:B2} {p:MP} {fi:Int} {F:List (MB×J)} {xs:List MI} {r:CS} {costs:List Int} {ca:Option Addr} {cc:Nat} {O:List Nat} {D L:Nat->Nat->Bool} {zs:List LV}
theorem Mw.lp(H:Mw w0 v p fi F xs r costs ca cc O D L)(u:∀l∈r.gX,AU p fi xs r.a8 l 0)(G:zs.length= ↑r.gX)(I:∀(k:Nat) (m:ML) (x:LV),r.gX[k]?=K m->zs[k]?=K x->Zo w0 m x){x:LV}(E:x∈zs):∃(l:ML) (h:Nat) (m:MB) (t:MT),l∈r.gX/\l.head=(h:Int)/\x=⟨(h:Int),x.xa,l.back,x.xc,x.ya,l.a8,x.yc⟩/\UH w0 (l,Z x.xa l.back x.xc,Z x.ya l.a8 x.yc)/\r.a8[h]?=K m/\Cj p.e8 fi m.gZ=K t/\EP t.init/\IA p fi r.a8 h=t.init/\AU p fi xs r.a8 l 0/\∀z∈l.back,∃b:Nat,z=(b:Int)/\b<r.a8.length:=by
 obtain⟨j,s⟩:=mJ E;have C:j<r.gX.length:=by rw[<-G];exact(i8.1 s).1
 have g:=an C;obtain⟨f,c,d,i⟩:=I j _ x g s;have a:=lA g;generalize r.gX[j]=l at f c d i a;clear g;obtain⟨⟨h,e,B⟩,_⟩:=H.bd.iq.loop l a;obtain⟨m,t,n,q⟩:=(u l a).ix;rw[e,lD]at n;obtain⟨y,_⟩:=H.gd.at_ a e;refine⟨l,h,m,t,a,e,?_,?_,n,q,H.iv t (List.mem_of_find?_eq_some q),?_,u l a, λz w=> ?_⟩
 . (cases x);simp only at f c d;rw[f,c,d,e]
 . rw[c,d]at i;exact i
 . unfold IA;simp only[n,q]
 rw[y]at w;obtain⟨b,A,rfl⟩:=mG.1 w;exact⟨b,rfl,H.gd.fl.i9 B ((H.gd.il _ _).1 (H.gd.bk b A))⟩
theorem Mw.step(H:Mw w0 v p fi F xs r costs ca cc O D L){a:List {x:LV//x∈zs}}{x:{x:LV//x∈zs}}{I2:List Nat}{C2:List Int}{h:Nat}{t:MT}{b:Bool}(B:∀sl:List ML,sl.Perm r.gX->sl.Pairwise IY->ME a sl->IF p fi costs xs r D L sl a false I C)(m:l∈r.gX)(i:l.head=(h:Int))(s:x.1.h=(h:Int))(A:IA p fi r.a8 h=t.init)(y:EP t.init)(u:AU p fi xs r.a8 l 0)(z:C.length= ↑r.a8)(w:Xu (nx r.a8) r.a8 r.a8 l I C h (Dl O) t.init b I2 C2):
 (b=true->∀sl:List ML,sl.Perm r.gX->sl.Pairwise IY->ME (a++[x]) sl->IF p fi costs xs r D L sl (a++[x]).length false I2 C2)/\(b=false->∀sl:List ML,sl.Perm r.gX->sl.Pairwise IY->ME (a++[x]) sl->XQ p fi xs r costs D L sl (-1)):=by
 have q:∀sl:List ML,sl.Perm r.gX->sl.Pairwise IY->ME (a++[x]) sl->(b=true->IF p fi costs xs r D L sl (a++[x]).length false I2 C2)/\(b=false->XQ p fi xs r costs D L sl (-1)):= λsl g n G=>by obtain⟨N,l',k,j⟩:=G.init;have E:=g.mem_iff.1 (lA k);rw[s]at j;have e:l'=l:=(H.gd.at_ E j).1.trans (H.gd.at_ m i).1.symm;subst e;rw[lG];exact(B sl g n N).goI H.gd H.hnx g n k m i u A y.1 z w
 exact⟨λe sl c d f=>(q sl c d f).1 e, λe sl c d f=>(q sl c d f).2 e⟩
theorem Mw.jG(H:Mw w0 v p fi F xs r costs ca cc O D L)(n:zs.length= ↑r.gX)(q:∀(k:Nat) (m:ML) (x:LV),r.gX[k]?=K m->zs[k]?=K x->Zo w0 m x){ts:List LV}(c:ts.Perm zs)(e:MN ts){b:List {x:LV//x∈zs}}(d:b.map Subtype.val<+:ts):∃sl:List ML,sl.Perm r.gX/\sl.Pairwise IY/\ME b sl/\ts.length=sl.length:=by obtain⟨sl,g,i,j,l⟩:=Yw c e n q (H.gd.kL.imp λh=>oM);refine⟨sl,g,i, λk x a=>l k x.1 ?_,j⟩;obtain⟨u,f⟩:=d;rw[<-f,mP (by rw[mD];exact(i8.1 a).1),mE,a];rfl
end
theorem UU(v:B2)(p:MP)(fi:Int)(F:List (MB×J))(xs:List MI)(r:CS)(costs:List Int)(ca:Option Addr)(cc:Nat)(O:List Nat)(D L:Nat->Nat->Bool)(w:Y)(hB:Mw w v p fi F xs r costs ca cc O D L):
 Ai Ap 95 #[Am v.cells,Z ca costs cc] w λe w'=>∃x,e=Al (iZ x)/\Ru p fi costs xs r x/\Ah w w w':=by
 obtain⟨k0,cH,cY,cZ,d6⟩:=mN Br;have H:=Av hB;clear hB;obtain⟨CN,bC⟩:∃CN,costs.length=CN:=⟨_,rfl⟩;have d8:=Av bC;rw[bC];clear bC;have E0:=Bu w v.cells #[iZ 0] 164 2;refine(callsIn_wide (n:=5)).1 ?_;refine callsIn_of_wp_marks func95 rfl trivial ?_ rfl;simp only[ntmps95,List.size_toArray,mW,mh,Nat.reduceAdd,Nat.reduceSub,Array.replicate_succ,Array.replicate_zero,List.push_toArray,List.append_toArray,mw,mM];refine wpIn_wide.2 (Xn ?_);go_upto_region 1 with fail
 refine Ax (λu=>Ae (Rw w u v 0)) ⟨E0.1,E0.2.1,E0.2.2⟩ ?_;rintro U HE;clear E0;obtain⟨p0,p1,p2,p3,p4,p5,p6,p7,p8,p9,aZ,au,aw,bf,aq⟩:=CT HE.body;go_wp2_with fail;clear p0 p1 p2 p3 p4 p5 p6 p7 p8 p9 aZ au aw bf aq;refine(LF v p fi F xs r U (H.bd.a7 HE.ej)).mono ?_;rintro e u1 ⟨⟨h,x,y,b,rfl,k1,k2⟩,G⟩;have E1:=Av (HE.a7 G);clear HE G;cases b
 case true=>
  have X:=E1.ik.frozen 0;have HV:Ae (Ru p fi costs xs r (-1)):=.inl ⟨.inl (k1 rfl),rfl⟩;go_upto_region 3 with fail
  refine Ax (λu=>Ae (Rw w u v 0)) (E1.a7 (Aq _ _)) ?_;rintro U2 Q;have X:=Q.ik.cell 0;have r1:=Q.ik.frozen 0;simp only[lE,lC]at X;have E3:=Av (Q.set (-1));go_wp2_with fail;exact⟨_,by simp[results,results95,go_sem,X],_,rfl,HV,E3.ej⟩
 have bR:=Av (k2 rfl);clear k1 k2;go_upto_region 4 with fail
 refine Ax (λu=>Ae (Rw w u v 0)) (E1.a7 (Aq _ _)) ?_;rintro w0 HE;have d:=Av (H.a7 HE.ej);have ae:Ae (∀u,Ah w0 w0 u->Rw w u v 0):= λu hu=>HE.a7 hu
 obtain⟨p0,p1,p2,p3,p4,p5,p6,p7,p8,p9,aZ,au,aw,bf,aq⟩:=CT HE.body;clear E1 H U;go_upto_region 5 with fail
 refine Ax (λu=>Ae (Py u w0 w0 ((w0:Nat)+1) v sN sN 0 0 []/\Ah w0 w0 u)) (by have E0:=Bu w0 (Ju v sN sN) #[.pointer w0] 200 198;exact⟨⟨E0.1,mI _ _ _ _,mI _ _ _ _, λg h=>(by cases h),Nat.le_refl _,E0.2.1⟩,E0.2.2⟩) ?_
 rintro U HC;clear p0 p1 p2 p3 p4 p5 p6 p7 p8 p9 aZ au aw bf aq;have au:=(ae.o U HC.2).body.cell 11;simp only[B2.cells]at au;obtain⟨ba,bc,eb⟩:=d.bd.bs.rd.bW;simp only[lB]at eb;have bg:=Av (d5 eb.2.1 d.bd.fl);have du:F.length<=1024:=d.bd.bs.len;clear eb ba bc;obtain⟨ba,cg⟩:∃ba,v.b.a=ba:=⟨_,rfl⟩;have bL:=Av cg;clear cg;simp only[bg.1,bL.o]at au;go_wp2_with fail;clear au;go_loopw [28] (λi wr=>∃(k:Nat) (va:Option Addr) (vc:Nat) (sa:Option Addr) (sc:Nat),k<= ↑F/\i=iZ k/\Ae (Py wr w0 w0 ((w0:Nat)+1) v (Z va k vc) (Z sa k sc) k k ((r.a8.take k).map (Cz xs costs))/\Ah w0 w0 wr/\∀m∈r.a8.take k,¬CZ xs costs m)) (λi _=> ↑F-(intOf i).toNat)
 case atStart=>exact⟨0,M,0,M,0,oM,rfl,HC.1,HC.2, λm V=>by simp at V⟩
 case round=>
 clear HC;obtain⟨k,va,vc,sa,sc,dg,rfl,HS⟩:=hrel;by_cases cJ:k< ↑F
 case pos=>
  have dw:(k:Int)<(F:Int):=oM;obtain⟨m,g,o,ma,me,dy,V,eg,en,i0,i1,i2,e1,e2,cQ,cR,bZ⟩:=(d.bd.bs.a7 HS.2.1).at cJ;obtain⟨na,nc,bY⟩:=(d.bd.nx _ (lA bZ)).1.bW;simp only[]at bY;subst bY;have HM:=Av (d5 ((by rw[<-d.bd.eb];exact V):r.a8[k]?=some m) (d5 e1 (d5 e2 (d5 cQ cR))));obtain rfl:ba=some ⟨g,o,M⟩:=by rw[<-bL];exact eg
  clear V eg en e1 e2 bZ cQ cR;go_upto_region 8 with fail
  have bP:Ae (Ah wr wr (Ac wr (Ak #[ma,me,Z na m.next nc] 90))):=Aq _ _;refine Ax (λu=>Ae (AA u wr #[ma,me,Z na m.next nc] 90/\Ah wr wr u)) ⟨AA.new _ _ _,bP⟩ ?_
  rintro U8 E8;clear i0 i1 i2 bP;have aI:=Av (d5 (HS.1.a7 E8.2) (Ar HS.2.1 lR E8.2));have bx:=Av HS.2.2;obtain⟨p0,p1,p2,p3,p4,p5,p6,p7,p8,p9,aZ,au,aw,bf,aq⟩:=CT (ae.o U8 aI.2).body;obtain⟨b0,b1,b2⟩:=B9 E8.1;clear HS E8;go_wp2_with fail;clear p0 p1 p2 p3 p4 p5 p6 p7 p8 p9 aZ au aw bf aq b0 b1 b2;have bF:=MR v (Z na m.next nc) xs costs m ca cc U8 d.bd.bs.jT (d.bd.cd.bO.a7 aI.2 lR) d.bd.cd.cap d.cl (d.ck.a7 aI.2 lR) d.x28 ⟨ma,me,HM.2⟩;rw[HM.2.1,HM.2.2.1,d8]at bF;refine bF.mono ?_;clear bF;rintro e u9 ⟨⟨s,b,rfl,k1,k2⟩,G⟩;have aJ:=Av (d5 (aI.1.a7 G) (Ar aI.2 lR G));clear aI G;cases b
  case false=>have HV:Ae (Ru p fi costs xs r (-1)):=.inl ⟨.inr ⟨m,lA HM.1,k2 rfl⟩,rfl⟩;have Q:=Av (ae.o u9 aJ.2);have X:=Q.ik.cell 0;have r1:=Q.ik.frozen 0;simp only[lE,lC]at X;have E3:=Av (Q.set (-1));clear k1 k2;go_wp2_with fail;exact⟨_,by simp[results,results95,go_sem,X],_,rfl,HV,E3.ej⟩
  have bS:=Av (k1 rfl);clear k1 k2;go_upto_region 11 with fail
  refine Em 10 (S:= λW=>W ⟨(w0:Nat)+1,0,M⟩=some (.pointer w0)/\W ⟨w0,15,M⟩=some (Z va k vc)) kR ⟨(aJ.1.a7 (At _)).cells.1,(aJ.1.a7 (At _)).cells.2.1⟩ (λP=> ?_)
  have D0:=Av (d5 (aJ.1.a7 (At _)) (Ar aJ.2 lR (At _)));clear aJ;generalize u9.drew=UD at D0 P⊢;refine Hc 0 ?_ (hw:=kR);refine Hc 1 ?_ (hw:=kR);refine Hc 2 ?_ (hw:=kR);refine Hc 3 ?_ (hw:=kR);refine Hc 4 ?_ (hw:=kR);refine Hc 5 ?_ (hw:=kR);go_simp;refine Ys 6 ?_;intro N j;rw[lZ kR];go_simp;have R:Ae (Py (Ac UD (Ak #[s] 2)) w0 w0 ((w0:Nat)+1) v (Z va k vc) (Z sa k sc) k k ((r.a8.take k).map (Cz xs costs))/\Ah w0 w0 (Ac UD (Ak #[s] 2))):=⟨D0.1.a7 (Aq _ _),Ar D0.2 lR (Aq _ _)⟩
  refine j.o _ _ (λ_=>⟨R.1.cells.1,R.1.cells.2.1⟩) (λT=> ?_);clear j N D0;have P:=T dC;clear T;refine Ys 7 ?_;intro N j;have O3:=Av R.1.co;have aY:=R.2.size;refine step_append_lies _ rfl (.tmp 46) (.tmp 48) 29 rfl w0 2 k0 (iZ 0) 1 8 underlying29 cH cY cZ d6 rfl dC (Z va k vc) k (Ad As ((r.a8.take k).map (Cz xs costs))) oE O3 UD 1 1 [s] oE rfl (Go.cell_one_new _ _ _) (λu hu=>by simp at hu;subst hu;rfl) oM oX oM aY _ rfl ?_;intro gg cap u8 aW aF aU _;have D4:=Av (R.1.kX aW aF aU);have aH:Ae (Ah w0 w0 (Aa u8 ⟨w0,15,M⟩ (Z gg (k+1) cap))):=(R.2.grown aF aY (λi hi=>(O3.lt i hi).1)).setCell lR _;have y0:=D4.2.1;have y1:=D4.2.2.1;have y2:=D4.2.2.2;have D5:=Av D4.1;clear aW aF aU O3 R D4 P;refine j.o _ _ (λ_=>⟨y0,y1⟩) (λT=> ?_);clear j N;have P:=T dC;clear T;refine Hc 8 ?_ (hw:=kR);refine Hc 9 ?_ (hw:=kR);go_simp;refine Ys 10 ?_;intro N j;rw[lZ kR];go_simp;refine j.o _ _ (λh=>absurd h dC) (λT=> ?_);clear j N T P;refine Ii kR ?_ _;generalize Aa u8 ⟨w0,15,M⟩ (sG gg (k+1) cap)=W5 at D5 aH⊢;clear y0 y1 y2;go_upto_region 12 with fail
  refine Em 10 (S:= λW=>W ⟨(w0:Nat)+1,0,M⟩=some (.pointer w0)/\W ⟨w0,16,M⟩=some (Z sa k sc)) kR ⟨(D5.a7 (At _)).cells.1,(D5.a7 (At _)).cells.2.2⟩ (λP=> ?_)
  have D0:=Av (d5 (D5.a7 (At _)) (Ar aH lR (At _)));clear D5 aH;generalize W5.drew=UD at D0 P⊢;refine Hc 0 ?_ (hw:=kR);refine Hc 1 ?_ (hw:=kR);refine Hc 2 ?_ (hw:=kR);refine Hc 3 ?_ (hw:=kR);refine Hc 4 ?_ (hw:=kR);refine Hc 5 ?_ (hw:=kR);go_simp;refine Ys 6 ?_;intro N j;rw[lZ kR];go_simp;have R:Ae (Py (Ac UD (Ak #[k] 2)) w0 w0 ((w0:Nat)+1) v (sG gg (k+1) cap) (Z sa k sc) (k+1) k ((r.a8.take k).map (Cz xs costs)++[s])/\Ah w0 w0 (Ac UD (Ak #[k] 2))):=⟨D0.1.a7 (Aq _ _),Ar D0.2 lR (Aq _ _)⟩
  refine j.o _ _ (λ_=>⟨R.1.cells.1,R.1.cells.2.2⟩) (λT=> ?_);clear j N D0;have P:=T dC;clear T;refine Ys 7 ?_;intro N j;have O3:=Av R.1.st;have aY:=R.2.size;refine step_append_lies _ rfl (.tmp 56) (.tmp 58) 29 rfl w0 2 k0 (iZ 0) 1 8 underlying29 cH cY cZ d6 rfl dC (Z sa k sc) k (nv (List.range k)) oE O3 UD 1 1 [k] oE rfl (Go.cell_one_new _ _ _) (λu hu=>by simp at hu;subst hu;rfl) oM oX oM aY _ rfl ?_;intro gs bB u8 aW aF aU _;have D4:=Av (R.1.kW aW aF aU);have aH:Ae (Ah w0 w0 (Aa u8 ⟨w0,16,M⟩ (Z gs (k+1) bB))):=(R.2.grown aF aY (λi hi=>(O3.lt i hi).1)).setCell lR _;have y0:=D4.2.1;have y1:=D4.2.2.1;have y2:=D4.2.2.2;have D5:=Av D4.1;clear aW aF aU O3 R D4 P;refine j.o _ _ (λ_=>⟨y0,y1⟩) (λT=> ?_);clear j N;have P:=T dC;clear T;refine Hc 8 ?_ (hw:=kR);refine Hc 9 ?_ (hw:=kR);go_simp;refine Ys 10 ?_;intro N j;rw[lZ kR];go_simp;refine j.o _ _ (λh=>absurd h dC) (λT=> ?_);clear j N T P;refine Ii kR ?_ _;generalize Aa u8 ⟨w0,16,M⟩ (sG gs (k+1) bB)=W6 at D5 aH⊢;clear y0 y1 y2;go_wp2_with fail;go_roundw;case rel=>
   (have hT:r.a8.take (k+1)=r.a8.take k++[m]:=by rw[List.take_add_one,HM.1];rfl);refine⟨k+1,some gg,cap,some gs,bB,oM,by go_num,?_,aH,?_⟩
   . rw[hT,m9,List.map_singleton,<-bS.2];exact D5
   rw[hT];intro q hq;rcases lT.1 hq with q1|q1
   . exact bx.o q q1
   rw[mz]at q1;rw[q1];exact bS.1
  case measure=>exact oI
 obtain rfl:k=F.length:=oM;have hs:=HS.o;rw[bg.2,List.take_length]at hs;have bH:∀y∈r.a8.map (Cz xs costs),EP y:= λy hy=>by obtain⟨m,V,rfl⟩:=mG.1 hy;obtain⟨i,hi⟩:=mJ V;obtain⟨a,e,h1,h2,_⟩:=d.bd.iq.ie i m hi;exact TG (hs.2.2 m V) h1 h2
 obtain⟨gC,cC,gS,cS,ao⟩:=hs.1.whole d.n0 sP bH;obtain⟨zs,z1,z2,z3⟩:=Zj d.bd.ls;have HI:Ae (Xr w0 v p fi xs r costs D L gC cC gS cS zs [] wr):=⟨⟨_,_,ao, λsl _ _ _=>IF.start d.gd sP bH ⟨(λe=>by cases e), λ_ b m hb V=>⟨hs.2.2 m (lA V),Ed (by rw[mE,V];rfl)⟩⟩⟩,hs.1.tb,hs.2.1⟩;have HZ:=Av (d5 z1 (d5 z2 z3));have bx:=Av hs.2.2;clear hs ao bH z1 z2 z3 HS cJ dg;have dx:zs.length<=1024:=by rw[HZ.1];exact d.bd.iq.nl
 have aq:=(ae.o wr HI.ej).body.cell 14;simp only[B2.cells]at aq;have eq:v.q.n=zs.length:=by rw[HZ.1];exact d.bd.ln
 simp only[eq]at aq;clear eq;obtain⟨qa,bJ⟩:∃qa,v.q.a=qa:=⟨_,rfl⟩;have db:=Av bJ;simp only[bJ]at aq;clear bJ;go_wp2_with fail;clear aq;refine(M5 qa zs v.q.c wr).mono ?_;rintro e u2 ⟨rfl,b1,b2,G⟩;have aQ:=Av (HI.a7 G);have bK:=Av (d5 b1 b2);clear b1 b2 G HI;go_wp2_with fail;refine(wpIn_wide (n:=5)).1 ?_;have bI:(w:Nat)<=u2.heap.size:=(ae.o u2 aQ.ej).ej.size;have dh:(w0:Nat)<=u2.heap.size:=aQ.ej.size;obtain⟨⟨I0,C0,cw,_⟩,_,_⟩:=aQ.o;have cX:=cw.sz;clear cw;refine Xe gC gS rfl (enters_of func156 kR rfl) (KW 4 oM wr ((wr:Nat)+1) v.q.c gC gS qa zs oM u2 cX.1 cX.2 (by rw[bK.1.cell];rfl) (by rw[bK.2.cell];rfl) (λhz=>by
  obtain⟨b,dt,h1,h2,h3⟩:=(HZ.2.2.a7 aQ.ej) hz;exact⟨b,dt,by rw[<-db];exact h1,oM,h3⟩))
  (Xr w0 v p fi xs r costs D L gC cC gS cS zs) (Zm w v p fi xs r costs D L zs) (Xr.own dh) (Zm.own bI) aQ ?assign ?body ?done ?stop
 case assign=>
  rintro l d7 ⟨x,hx⟩ W K hi hK;simp only[LV.i6]at hK⊢;gi_wp2
  have q:=hK _ ((KeepsOthers.alloc W (Ak #[iZ x.h,Z x.xa x.xn x.xc,Z x.ya x.yn x.yc] 92)).from _) (JT.of (Aq _ _)) (hi.a7 (Aq _ _)) W (AA.new W _ _);simp only[lM,lX,lU]at q;exact q
 case body=>
  rintro l d7 ⟨x,hx⟩ Bx W bX hi;obtain⟨lm,h,m,t,V,eh,ex,aX,cM,cE,bG,cG,cI,cu⟩:=d.lp bR HZ.1 HZ.2.1 hx;obtain⟨⟨I,C,ao,aA⟩,aG,aE⟩:=hi;have bT:=Av (λb I2 C2 hG=>d.step (x:=⟨x,hx⟩) (I2:=I2) (C2:=C2) (b:=b) aA V eh (congrArg LV.h ex) cG bG cI ao.lc hG);have aj:=Av (d5 ao (d5 aG aE));have bQ:=Av (LI w0 w0 v gC cC gS cS I C p fi F xs r (nx r.a8) O.reverse (Dl O) h m t x.xa x.xc x.ya x.yc lm W aE d.bd ao d.wy V eh cu aX cM cE bG);have t0:W ⟨(w0:Nat)+1,0,M⟩=some (.pointer w0):=by rw[aG.cell];rfl
  clear V eh aX cM cE bG cG cI cu ao aA aG aE;have aS:=bX;simp only[LV.i6]at aS;rw[ex]at aS;simp only[]at aS;obtain⟨x0,x1,x2⟩:=B9 aS;clear bX aS ex;gi_wp2_with fail
  refine⟨trivial,(CallsIn.inRound l (callsIn_wide.2 bQ)).mono ?_⟩;rintro e W2 ⟨b,I2,C2,rfl,cA,bp,cj,hG⟩;have HS:=Av (bT.o b I2 C2 hG);have dq:=Av (aj.1.ku bp aj.2.1 dC);have HK:=Av (d5 (aj.1.keeps (A:=u2) bp) bp.kpc);have br:=Av (d5 cA cj);clear cA cj hG bp bT bQ x0 x1 x2 t0;cases b
  case true=>(gi_wp2);exact⟨HK.1,HK.2,⟨I2,C2,br.1,HS.1 trivial⟩,dq,br.2⟩
  case false=>have Q:=Av (ae.o W2 br.2);have X:=Q.ik.cell 0;have r1:=Q.ik.frozen 0;simp only[lE,lC]at X;have E3:=Av (Q.set (-1));(gi_wp2);exact⟨HK.1.trans ((KeepsOthers.setCell W2 ⟨(w:Nat)+1,0,M⟩ (iZ (-1))).from _),rfl,E3,HS.2 trivial⟩
 case done=>
  rintro Dd ys W hD ⟨hp,bq⟩ hi hK;obtain⟨sl,q1,q2,q3,q4⟩:=d.jG HZ.1 HZ.2.1 hp bq (List.prefix_refl _);obtain⟨⟨I,C,ao,aA⟩,aG,aE⟩:=hi;have aA:=aA sl q1 q2 q3;rw[mD]at q4;rw[q4]at aA;have HG:=Av (d5 aA (d5 q1 q2));have aj:=Av (d5 ao (d5 aG aE));have t0:W ⟨(w0:Nat)+1,0,M⟩=some (.pointer w0):=by rw[aG.cell];rfl
  have aw:=(ae.o W aE).body.cell 12;simp only[B2.cells]at aw;obtain⟨oa,oc,eo⟩:=d.bd.od.bW;simp only[lB]at eo;have dj:r.gY.length<=1024:=by rw[d.gd.ord];simpa[ints]using d.wy.rl
  have di:Ae (∀z∈r.gY,∃b:Nat,z=(b:Int)/\b< ↑r.a8):= λz hz=>by rw[d.gd.ord]at hz;obtain⟨b,hb,rfl⟩:=mG.1 hz;exact⟨b,rfl,(d.gd.om b).1 (m7.1 hb)⟩
  have dm:Ae (Rd w0 1 (Z v.o.a r.gY v.o.c) r.gY (Ad As r.gY)):=by have:=d.bd.od;rw[eo.2.1]at this;exact this
  simp only[eo.2.1]at aw;have bi:=Av (d5 hD hK);clear hp bq ao aA aG aE q1 q2 q3 q4 eo oa oc hK hD;go_wp2_with fail;clear t0 aw;refine(G8 w0 w0 v r.a8 gC cC gS cS I C (nx r.a8) O.reverse (Dl O) 0 ⟨M,0,0⟩ v.o.a v.o.c r.gY W d.bd.iq.nb aj.1 (d.wy.a7 aj.2.2) d.n0 dj (dm.a7 aj.2.2 lR) di).mono ?_;rintro e u3 ⟨gL,Lc,small,rfl,hL,ce,G⟩;have aP:=Av (d5 (lQ bI bi.1) ((G.block Dd (lK.1 bi.2).1).trans bi.2));have aM:=Av (d5 (aj.1.a7 G) (d5 (aj.2.1.a7 G) (Ar aj.2.2 lR G)));have bj:=Av (ae.o u3 aM.2.2);have bt:=Av hL;have bV:=Av ce;clear hL ce G aj bi;cases small
  case false=>have HV:=Av (HG.1.kq d.gd HG.2.1 HG.2.2 bV (λ_=>rfl) (λe=>by cases e));have X:=bj.ik.cell 0;have r1:=bj.ik.frozen 0;simp only[lE,lC]at X;have E4:=Av (bj.set (-1));have aT:=(KeepsOthers.setCell u3 ⟨(w:Nat)+1,0,M⟩ (iZ (-1))).same _ _ aP.2 rfl;go_wp2_with fail;refine⟨sP,.inl ⟨_,_,rfl,run_takeDeferred aT,?_⟩⟩;have E5:=E4.put aT aP.1;have r2:=E5.ik.cell 0;simp only[lE,lC]at r2;exact⟨_,by simp[results,results95,go_sem,r2],_,rfl,HV,E5.ej⟩
  go_upto_region 21 with fail
  have KS:∀u y,Rw w u v y->AA u ((w0:Nat)+1) #[.pointer w0] 198->u ⟨(w0:Nat)+1,0,M⟩=some (.pointer w0)/\u w=some (Z v.r.a v.r.n v.r.c)/\u ⟨w,1,M⟩=some (Z v.k.a v.k.n v.k.c)/\u ⟨w,2,M⟩=some (Z v.f.a v.f.n v.f.c)/\u ⟨w,3,M⟩=some (Z v.t.a v.t.n v.t.c)/\u ⟨w,4,M⟩=some (Z v.p.a v.p.n v.p.c)/\u ⟨w,5,M⟩=some ↑v.rs/\u ⟨w,6,M⟩=some (Z v.l.a v.l.n v.l.c)/\u ⟨w,7,M⟩=some (Z v.c.a v.c.n v.c.c)/\u ⟨w,8,M⟩=some ↑v.nu/\u ⟨w,9,M⟩=some ↑v.co/\u ⟨w,10,M⟩=some ↑v.at_/\u ⟨w,11,M⟩=some (Z v.b.a v.b.n v.b.c)/\u ⟨w,12,M⟩=some (Z v.o.a v.o.n v.o.c)/\u ⟨w,13,M⟩=some (Z v.i.a v.i.n v.i.c)/\u ⟨w,14,M⟩=some (Z v.q.a v.q.n v.q.c):= λu y E B=>⟨by rw[B.cell];rfl,CT E.body⟩
  have ah:=Av (d5 (aM.1.a7 (At _)) (d5 (aM.2.1.a7 (At _)) (d5 (Ar aM.2.2 lR (At _)) (((At u3).block Dd (lK.1 aP.2).1).trans aP.2))));have bu:Ae ((∀c,c< ↑r.a8->u3.drew ⟨gL,c,M⟩=some ↑(cf Lc c))/\∀y∈Lc,EP y):=⟨λc hc=>Au (At u3) ((bt.o trivial).1 c hc),(bt.o trivial).2⟩
  refine wp_region_held_drew (S:= λu=>u ⟨(w0:Nat)+1,0,M⟩=some (.pointer w0)/\u w=some (Z v.r.a v.r.n v.r.c)/\u ⟨w,1,M⟩=some (Z v.k.a v.k.n v.k.c)/\u ⟨w,2,M⟩=some (Z v.f.a v.f.n v.f.c)/\u ⟨w,3,M⟩=some (Z v.t.a v.t.n v.t.c)/\u ⟨w,4,M⟩=some (Z v.p.a v.p.n v.p.c)/\u ⟨w,5,M⟩=some ↑v.rs/\u ⟨w,6,M⟩=some (Z v.l.a v.l.n v.l.c)/\u ⟨w,7,M⟩=some (Z v.c.a v.c.n v.c.c)/\u ⟨w,8,M⟩=some ↑v.nu/\u ⟨w,9,M⟩=some ↑v.co/\u ⟨w,10,M⟩=some ↑v.at_/\u ⟨w,11,M⟩=some (Z v.b.a v.b.n v.b.c)/\u ⟨w,12,M⟩=some (Z v.o.a v.o.n v.o.c)/\u ⟨w,13,M⟩=some (Z v.i.a v.i.n v.i.c)/\u ⟨w,14,M⟩=some (Z v.q.a v.q.n v.q.c)) kR (KS _ _ (ae.o _ ah.2.2.1) ah.2.1) (λP=> ?_)
  clear aM bj bt;generalize u3.drew=U4 at ah bu P⊢;refine AH 0 ?_ (hw:=kR);refine AH 1 ?_ (hw:=kR);refine AH 2 ?_ (hw:=kR);go_simp;refine CX 3 ?_;intro N j;rw[lZ kR];go_simp;refine(Nd v F xs U4 (d.bd.bs.a7 ah.2.2.1) (λz hz=>(d.bd.nx z hz).1.bW.elim λa q=>q.elim λc e=>⟨a,_,c,e⟩) (d.bd.cd.bO.a7 ah.2.2.1 lR)).mono ?_;rintro e u5 ⟨ra,rc,ps,rfl,aX,cW,cU,G⟩;have am:=Av (d5 (ah.1.a7 G) (d5 (ah.2.1.a7 G) (d5 (Ar ah.2.2.1 lR G) ((G.block Dd (lK.1 ah.2.2.2).1).trans ah.2.2.2))));have d9:Ae (∀c,c< ↑r.a8->u5 ⟨gL,c,M⟩=some ↑(cf Lc c)):= λc hc=>Au G (bu.1 c hc)
  have aR:=Av (d5 aX (d5 cW cU));clear aX cW cU G ah bu;go_simp;refine j.o _ _ (KS _ _ (ae.o _ am.2.2.1) am.2.1) (λP=> ?_);clear j N;refine CX 4 ?_;intro N j;rw[lZ kR];go_simp;refine(Hl w0 r.a8 gS cS gL r.a8 I Lc ra rc ps u5 (by have:=d.bd.iq.nb;omega) am.1.cells.2.2.2 ⟨λb hb=>am.1.km hb,d9⟩ (by have:=aR.2.2;omega) aR.1 (λz hz=>by obtain⟨b,h1,h2,_⟩:=(aR.2.1 z).1 hz;exact⟨b,h1,by rw[<-bg.2];exact h2⟩)).mono ?_;rintro e u6 ⟨mx,rfl,rfl,cT⟩;have HV:Ae (Ru p fi costs xs r mx):=HG.1.kq d.gd HG.2.1 HG.2.2 bV (λe=>by cases e) (λ_=>cT.iff λb=>by
   rw[aR.2.1,d.bd.eb,bg.2];constructor
   . rintro⟨h1,h2⟩;exact⟨b,rfl,h1,h2⟩
   rintro⟨b',h1,h2,h3⟩;obtain rfl:b=b':=oM;exact⟨h2,h3⟩)
  clear cT aR;go_simp;refine j.o _ _ (KS _ _ (ae.o _ am.2.2.1) am.2.1) (λP=> ?_);clear j N;have Q:=Av (ae.o u6 am.2.2.1);have X:=Q.ik.cell 0;have r1:=Q.ik.frozen 0;simp only[lE,lC]at X;have E3:=Av (Q.set mx);have dd:Ae (AA (Aa u6 ⟨(w:Nat)+1,0,M⟩ mx) ((w0:Nat)+1) #[.pointer w0] 198):=am.2.1.other (by have h1:=am.2.1;have h2:=Q.ik;unfold AA at h1 h2;intro e;simp only[]at e;rw[e,h2]at h1;cases h1) _;have aT:=(KeepsOthers.setCell u6 ⟨(w:Nat)+1,0,M⟩ mx).same _ _ am.2.2.2 rfl;refine CX 5 ?_;intro N j;rw[lZ kR];go_simp;refine j.o _ _ (KS _ _ E3 dd) (λP=> ?_);clear j N;refine wpAnyH_done kR ?_ _;clear X r1 P;go_wp2_with fail;refine⟨sP,.inl ⟨_,_,rfl,run_takeDeferred aT,?_⟩⟩;have E5:=E3.put aT aP.1;have r2:=E5.ik.cell 0;simp only[lE,lC]at r2;exact⟨_,by simp[results,results95,go_sem,r2],_,rfl,HV,E5.ej⟩
 case stop=>
  rintro Dd c d7 W hD ⟨ts,hp,bq,dp⟩ ⟨rfl,df,de⟩ hK;obtain⟨sl,q1,q2,q3,q4⟩:=d.jG HZ.1 HZ.2.1 hp bq dp;have HV:=Av (Ru.bad d.gd q1 q2 bR bx (de sl q1 q2 q3));gi_wp2
  refine⟨sP,.inl ⟨_,_,rfl,run_takeDeferred hK,?_⟩⟩;have E5:=df.put hK (lQ bI hD);have r2:=E5.ik.cell 0;simp only[lE,lC]at r2;exact⟨_,by simp[results,results95,go_sem,r2],_,rfl,HV,E5.ej⟩
end
end Go.Proofs.YtadcneiiokbofaaGreat
