import Derived.Test.YtadcneiiokbofaaGreatBo30
import Derived.Test.YtadcneiiokbofaaGreatBo44
import Derived.Test.YtadcneiiokbofaaGreatBo43
namespace Go.Proofs.YtadcneiiokbofaaGreat
open Go.ChangeShapes Go.WideShapes Go.ChangeAt Go.RowKit Go.Proofs.Tryz
set_option linter.unusedVariables false
open Go.Value renaming slice → Z,agg → Am,bool → An,tuple → Ao,int → Ag
open Option renaming some → K,none → M
open Go renaming Value → J,World → Y,Calls → Ai,TypeId → Aj
open Go.RowKit renaming Hid → Ae,Below → Ah
open Go.IntKind renaming i64 → Af
open Go.Obj renaming cells → Ak
open Go.Ending renaming returned → Al
open Go.Proofs.Tryz renaming prog → Ap
open Go.World renaming alloc → Ac,ownsRow → Ab,setCell → Aa
open List renaming flatMap → Ad
set_option maxHeartbeats 8000000
set_option maxRecDepth 100000
variable {t z y:Int}{b d i low cap X:Nat}{g:VF}{f:MF}{x:MI}{c:List (List Int)}{sh:List Int}{a:Act}{e:Aj}{s:J}{o:Oper}{Q:Exit->Act->Y->Prop}{ad:Addr}
def Zp(r:CS)(j:Nat)(z:Int):Prop:=∃l∈r.gX.take j,∃m,r.a8[l.head.toNat]?=K m/\m.gZ=z
structure TD(w u:Y)(v:B2)(SB:Nat)(r:CS)(j:Nat):Prop where
 body:AA u w v.cells 164
 set:∃D,AP u SB j D/\∀z:Int,Go.Maps.has D (.int Af z)=true↔Zp r j z
 lt: ↑w<SB
 ej:Ah w w u
theorem TD.a7{w u c:Y}{v:B2}{b j:Nat}{r:CS}(h:TD w u v b r j)(a:Ah u.heap.size u c):TD w c v b r j:=by obtain⟨D,d,e⟩:=h.set;exact⟨h.body.a7 a,⟨D,d.a7 a,e⟩,h.lt,Ar h.ej lR a⟩
theorem Ng(v:B2)(p:MP)(q:Nat)(F:List (MB×J))(xs:List MI)(r:CS)(w:Y)(s:Tu w v p (q:Int) F xs r)(hw:∀t∈p.e8,Dv t.head):
 Ai Ap 94 #[.agg v.cells] w λe w'=>(∃(h:Int) (b:Bool),e=Al (.tuple #[h,b])/\(b=true->∃t,Gl (MM q r) p.e8 t/\h=t.head)/\(b=false->∀t∈p.e8,¬MM q r t))/\Ah w w w':=by
 have br:= @run_makeMap Ap;have H:=Av s;have HW:=Av hw;have bt:r.gX.length<=1024:=s.iq.nl;have bu:=s.tn;have HN:=Av s.ln;obtain⟨qa,aP⟩:∃qa,v.q.a=qa:=⟨_,rfl⟩;have aH:=Av aP;obtain⟨ta,tc,et⟩:=s.tr.bW;simp only[lB]at et;have aT:=Av et.2.1;clear et ta tc;obtain⟨ta,aQ⟩:∃ta,v.t.a=ta:=⟨_,rfl⟩;have aJ:=Av aQ;clear aP aQ s hw;have E0:Ae (AA (Ac w (Ak v.cells 164)) w v.cells 164/\Ah w w (Ac w (Ak v.cells 164))):=⟨AA.new _ _ _,Aq _ _⟩
 go_enter func94,ntmps94;go_upto_region 1 with fail
 refine Ax (λu=>Ae (AA u w v.cells 164/\Ah w w u)) E0 ?_
 rintro U d;clear E0;have bM:=Aq U (.map #[] 0);have aI:Ae (TD w (Ac U (.map #[] 0)) v U r 0):=⟨d.1.a7 bM,⟨.map [],World.ownsMap_made _ _ _ _, λz=>⟨(λh=>by cases h), λ⟨l,h,_⟩=>by simp at h⟩⟩,d.1.lt,Ar d.2 lR bM⟩;clear bM d;go_upto_region 2 with fail
 refine Ax (λu=>Ae (TD w u v U r 0)) aI ?_;clear aI;rintro U1 HS;generalize U.heap.size=x at HS⊢;have ao:=HS.body.cell 14;simp only[B2.cells]at ao;simp only[HN.o,aH.o]at ao;go_wp2_with fail;clear ao;go_loopw [14] (λi wr=>∃k:Nat,k<= ↑r.gX/\i=iZ k/\Ae (TD w wr v x r k)) (λi _=> ↑r.gX-(intOf i).toNat)
 case atStart=>exact⟨0,oM,rfl,HS⟩
 case round=>
 clear HS;obtain⟨k,hk,rfl,d⟩:=hrel;by_cases ah:k< ↑r.gX
 case pos=>
  have aZ:(k:Int)<(r.gX:Int):=oM;obtain⟨l,hl⟩:∃l,r.gX[k]?=K l:=⟨_,an ah⟩;have s:=H.a7 d.ej;obtain⟨gl,ol,a1,x1,a2,x2,ev,i0,i1,i2,bf⟩:=Ir s.ls hl;rw[aH]at ev;subst ev;obtain⟨⟨h,eh,hh⟩,_⟩:=H.iq.loop l (lA hl);obtain⟨m,hm⟩:∃m,r.a8[h]?=K m:=⟨_,an hh⟩;obtain⟨V,me,aM,aW,aX,aY⟩:=H.iq.ie h m hm;have bq:V<1024:=by have:=H.iq.len;omega
  have Q:=Av (d5 hl (d5 ((by rw[eh,lD];exact hm):r.a8[l.head.toNat]?=K m) aM));have HM:=Av hm;rw[eh]at i0;clear hl bf s eh hm aM aW aX aY;generalize l.back.length=n1 at i1;generalize l.a8.length=n2 at i2;go_upto_region 5 with fail
  have W:Ae (TD w (Ac wr (Ak #[h,Z a1 n1 x1,Z a2 n2 x2] 92)) v x r k/\AA (Ac wr (Ak #[h,Z a1 n1 x1,Z a2 n2 x2] 92)) wr #[h,Z a1 n1 x1,Z a2 n2 x2] 92):=⟨d.a7 (Aq _ _),AA.new _ _ _⟩
  refine Ax (λu=>Ae (TD w u v x r k/\AA u wr #[h,Z a1 n1 x1,Z a2 n2 x2] 92)) W ?_
  rintro U4 g;clear W i0 i1 i2 d;generalize wr.heap.size=X at g⊢;obtain⟨p0,p1,p2,p3,p4,p5,p6,p7,p8,p9,bg,bi,bj,bp,ao⟩:=CT g.1.body;obtain⟨l0,l1,l2⟩:=B9 g.2;go_wp2_with fail;clear p0 p1 p2 p3 p4 p5 p6 p7 p8 p9 bg bi bj bp ao l0 l1 l2;have s:=H.a7 g.1.ej;have aA:=EJ (Z v.r.a v.r.n v.r.c) (Z v.k.a v.k.n v.k.c) (Z v.f.a v.f.n v.f.c) (Z v.t.a v.t.n v.t.c) (Z v.p.a v.p.n v.p.c) v.rs (Z v.l.a v.l.n v.l.c) (Z v.c.a v.c.n v.c.c) v.nu v.co v.at_ (Z v.b.a v.b.n v.b.c) (Z v.o.a v.o.n v.o.c) (Z v.i.a v.i.n v.i.c) (Z v.q.a v.q.n v.q.c) (Z a1 n1 x1) (Z a2 n2 x2) F h m U4 (by have:=s.bs.len;omega) s.bs.rd (by rw[s.eb];exact HM);rw[Q.2.2]at aA;refine aA.mono ?_;clear aA s;rintro e L ⟨rfl,N⟩;have y:Ae (TD w (Ac L (Ak #[V] 2)) v x r k/\(Ac L (Ak #[V] 2)) L=K ↑V):=⟨(g.1.a7 N).a7 (Aq _ _),(AA.new L #[V] 2).cell 0⟩
  have aG:Ae (¬ ↑L=x):=by
   obtain⟨_,h5,_⟩:=(g.1.a7 N).set;have:=nj h5;show¬ ↑L=x
   omega
  clear N g;obtain⟨D,aj,ae⟩:=y.1.set;have E:=Av (d5 aj ae);clear aj ae;go_wp2_with fail;refine(Db x k L 1 D (V:Int) _ (Dh oM) oM y.2 aG E.1).mono ?_;rintro e u6 ⟨rfl,s6,g6⟩;have aR:Ae (TD w u6 v x r (k+1)):=by
   have ah:=y.1.lt;refine⟨y.1.body.apart g6 oM,⟨_,s6, λz=> ?_⟩,ah,y.1.ej.grown g6 y.1.ej.size (λj hj=>by cases hj;omega)⟩;rw[Er D (nV E.1),Bool.or_eq_true,my,E.2 z];unfold Zp;rw[List.take_add_one,Q.1];constructor
   . rintro(⟨l',O,C⟩|rfl)
     . exact⟨l',lT.2 (.inl O),C⟩
     exact⟨l,sP,m,Q.2.1,Q.2.2⟩
   rintro⟨l',O,m',C,S⟩;rcases lT.1 O with e|e
   . exact .inl ⟨l',e,m',C,S⟩
   simp at e;rw[e,Q.2.1]at C;(cases C);exact .inr (S.symm.trans Q.2.2)
  clear s6 g6 y E aG;go_wp2;go_roundw;case rel=>exact⟨k+1,oM,by go_num,aR⟩
  exact oI
 obtain rfl:k=r.gX.length:=oM;have aq:Ae (∀t:MT,MM q r t↔t.func=(q:Int)/\¬Zp r r.gX t.head):= λt=>by
  unfold MM Zp;rw[List.take_length];constructor
  . rintro⟨O,C⟩;exact⟨O, λ⟨l,S,m,h4,h5⟩=>C l S m h4 h5⟩
  rintro⟨O,C⟩;exact⟨O, λl S m h4 h5=>C ⟨l,S,m,h4,h5⟩⟩
 have p3:=d.body.cell 3;simp only[B2.cells]at p3;simp only[aT.o,aJ.o]at p3;go_wp2_with fail;clear p3;generalize r.gX.length=NL at d aq;go_loopw [30] (λi wr=>∃k:Nat,k<= ↑p.e8/\i=iZ k/\Ae (∀t∈p.e8.take k,¬MM q r t)/\Ae (TD w wr v x r NL)) (λi _=> ↑p.e8-(intOf i).toNat)
 case atStart=>exact⟨0,oM,rfl,(λt T=>by simp at T),d⟩
 case round=>
 clear d;obtain⟨k,hk,rfl,aw,d⟩:=hrel;by_cases ah:k< ↑p.e8
 case neg=>
  have HA:Ae (∀t∈p.e8,¬MM q r t):=by
   have:=aw.o;rw[mC (show ↑p.e8<=k from oM)]at this
   exact this
  go_wp2;exact lO (v:=.tuple #[iZ 0,false]) (by simp[results,results94,go_sem]) rfl ⟨⟨0,false,rfl,(λh=>by cases h), λ_=>HA.o⟩,d.ej⟩
 have aZ:(k:Int)<(p.e8:Int):=oM;obtain⟨A,P⟩:∃c,p.e8[k]?=K c:=⟨_,an ah⟩;obtain⟨G,I,et,i0,i1,i2,i3⟩:∃G I,ta=K ⟨G,I,M⟩/\wr ⟨G,I+k*4,M⟩=K ↑A.func/\wr ⟨G,I+k*4+1,M⟩=K ↑A.head/\wr ⟨G,I+k*4+2,M⟩=K ↑A.hQ/\wr ⟨G,I+k*4+3,M⟩=K (.int .u32 A.init):=by
  rcases(H.a7 d.ej).tr.2 with⟨e0,_⟩|⟨G,I,c',e1,hc⟩
  . omega
  simp only[lB]at e1;exact⟨G,I,by rw[<-aJ];exact e1.1,Rd.elem MT.dr hc k A P 0 _ rfl,Rd.elem MT.dr hc k A P 1 _ rfl,Rd.elem MT.dr hc k A P 2 _ rfl,Rd.elem MT.dr hc k A P 3 _ rfl⟩
 subst et;have aE:=Av P;have aU:=Av (HW.o A (lA P));have aF:Ae (¬MM q r A->∀t∈p.e8.take (k+1),¬MM q r t):= λhn t T=>by
  rw[List.take_add_one,aE]at T;rcases lT.1 T with e|e
  . exact aw.o t e
  simp at e;rw[e];exact hn
 clear P;obtain⟨R,B,co,am⟩:=A;simp only[]at i0 i1 i2 i3;go_upto_region 10 with fail
 have W:Ae (TD w (Ac wr (Ak #[R,B,co,.int .u32 am] 96)) v x r NL/\AA (Ac wr (Ak #[R,B,co,.int .u32 am] 96)) wr #[R,B,co,.int .u32 am] 96):=⟨d.a7 (Aq _ _),AA.new _ _ _⟩
 refine Ax (λu=>Ae (TD w u v x r NL/\AA u wr #[R,B,co,.int .u32 am] 96)) W ?_
 rintro U4 g;clear W i0 i1 i2 i3 d;generalize wr.heap.size=X at g⊢;obtain⟨c0,c1,c2,c3⟩:=A7 g.2;have p8:=g.1.body.cell 8;simp only[B2.cells]at p8;simp only[H.nu]at p8;obtain⟨D,aj,ae⟩:=g.1.set;have E:=Av (d5 aj ae);clear aj ae;cases hfq:(R==(q:Int))
 case false=>
  have au:=Av (aF.o λe=>by have:=((aq.o _).1 e).1;simp only[]at this;rw[this,beq_self_eq_true]at hfq;cases hfq);go_wp2_with fail;go_roundw;case rel=>exact⟨k+1,oM,by go_num,au,g.1⟩
  exact oI
 go_wp2_with fail;refine(Jz x NL D B U4 aU E.1).mono ?_;rintro e L ⟨rfl,N⟩;have y:=Av (d5 (g.1.a7 N) (g.2.a7 N));clear N c0 c1 c2 c3 p8;cases hbo:Go.Maps.has D (.int Af B)
 case true=>
  have au:=Av (aF.o λe=>((aq.o _).1 e).2 ((E.2 B).1 hbo));go_wp2_with fail;go_roundw;case rel=>exact⟨k+1,oM,by go_num,au,y.1⟩
  exact oI
 case false=>have aS:Ae (Gl (MM q r) p.e8 ⟨R,B,co,am⟩):=⟨k,aE,(aq.o _).2 ⟨by simpa using hfq, λe=>by have:=(E.2 B).2 e;rw[hbo]at this;cases this⟩, λi t hi T=>aw.o t (lA (by rw[List.getElem?_take,lZ hi];exact T))⟩;obtain⟨c0,c1,c2,c3⟩:=A7 y.2;go_wp2_with fail;exact lO (v:=.tuple #[B,true]) (by simp[results,results94,go_sem]) rfl ⟨⟨B,true,rfl,(λ_=>⟨_,aS,rfl⟩), λh=>by cases h⟩,y.1.ej⟩
theorem Vt(v:VP)(p:MP)(g:VF)(f:MF)(x:MI)(w:Y)(m:p.small)(E:p.aC.length=3)(O:f.small)(R:x.wf)(h:Dm w v p)(N:DF w g f)(G:AW p f x):
 Ai Ap 102 #[Am #[v.r,v.k,v.f,v.t],Am #[g.p,f.gV,g.l,g.c],Am #[x.op,x.a,x.b,x.c]] w (DX w (AJ p f x) (AG p f x)):=by
 obtain⟨op,a,b,c⟩:=x;have Q:=G.1;have P:=G.2.1;simp only[]at Q P;have A:Ae (AW p f ⟨op,a,b,c⟩):=G;have L:Dv a:=R.2.1;have U:op=0\/op=1\/op=2\/op=3\/op=4\/op=5\/op=6\/op=7\/op=8\/op=9\/op=10\/op=11\/op=12\/op=13\/op=14\/op=15\/op=16\/op=17\/op=18\/op=19\/op=20\/op=21\/op=22\/op=23\/op=24\/op=25\/op=26\/op=27\/op=28\/op=29:=oM
 clear Q P G R;rcases U with rfl|rfl|rfl|rfl|rfl|rfl|rfl|rfl|rfl|rfl|rfl|rfl|rfl|rfl|rfl|rfl|rfl|rfl|rfl|rfl|rfl|rfl|rfl|rfl|rfl|rfl|rfl|rfl|rfl|rfl
 . rw[show AJ p f ⟨0,a,b,c⟩=[]from by simp[AJ],show AG p f ⟨0,a,b,c⟩=[]from by simp[AG]];exact Ck v.r v.k v.f v.t g.p g.l g.c f _ 0 a b c _ _ w sP
 . obtain⟨q,z,d,e⟩:=A.const rfl;simp only[]at d;subst d;obtain⟨T,ck,I⟩:=h.dk.bW;rw[show AJ p f ⟨1,q,b,c⟩=[]from by simp[AJ],show AG p f ⟨1,q,b,c⟩=[z.type]from by simp[AG,YA,e],I];exact Ye v.r v.f v.t g.p g.l g.c f p.dk T ck q z b c w m.dk (I▸h.dk) e
 . rw[show AJ p f ⟨2,a,b,c⟩=[]from by simp[AJ],show AG p f ⟨2,a,b,c⟩=[AO f a]from by simp[AG]];exact Yf v.r v.k v.f v.t g f a b c w O L N
 . rw[show AJ p f ⟨3,a,b,c⟩=[AO f a]from by simp[AJ],show AG p f ⟨3,a,b,c⟩=[]from by simp[AG]];exact Yg v.r v.k v.f v.t g f a b c w O L N
 . obtain⟨q,z,r,d,e,j,y⟩:=A.cell E sP;simp only[]at d e;subst d e;obtain⟨xs,B,n,C⟩:=h.aC;obtain⟨s,u,i⟩:=n.bW;rw[show AJ p f ⟨4,q,z,c⟩=[]from by simp[AJ],show AG p f ⟨4,q,z,c⟩=[D6 p ⟨4,q,z,c⟩]from by simp[AG],i];exact Yh v.k v.f v.t g.p g.l g.c f p.aC s u q z r _ c w m.aC (m.region r (lA j)) (i▸h.aC) j y
 . obtain⟨q,z,r,d,e,j,y⟩:=A.cell E sP;simp only[]at d e;subst d e;obtain⟨xs,B,n,C⟩:=h.aC;obtain⟨s,u,i⟩:=n.bW;rw[show AJ p f ⟨5,q,z,c⟩=[D6 p ⟨5,q,z,c⟩]from by simp[AJ],show AG p f ⟨5,q,z,c⟩=[]from by simp[AG],i];exact Yi v.k v.f v.t g.p g.l g.c f p.aC s u q z r _ c w m.aC (m.region r (lA j)) (i▸h.aC) j y
 . obtain⟨q,z,r,d,e,j,y⟩:=A.cell E sP;simp only[]at d e;subst d e;obtain⟨xs,B,n,C⟩:=h.aC;obtain⟨s,u,i⟩:=n.bW;rw[show AJ p f ⟨6,q,z,c⟩=[3]from by simp[AJ],show AG p f ⟨6,q,z,c⟩=[D6 p ⟨6,q,z,c⟩]from by simp[AG],i];exact Yj v.k v.f v.t g.p g.l g.c f p.aC s u q z r _ c w m.aC (m.region r (lA j)) (i▸h.aC) j y
 . obtain⟨q,z,r,d,e,j,y⟩:=A.cell E sP;simp only[]at d e;subst d e;obtain⟨xs,B,n,C⟩:=h.aC;obtain⟨s,u,i⟩:=n.bW;rw[show AJ p f ⟨7,q,z,c⟩=[3,D6 p ⟨7,q,z,c⟩]from by simp[AJ],show AG p f ⟨7,q,z,c⟩=[]from by simp[AG],i];exact Yk v.k v.f v.t g.p g.l g.c f p.aC s u q z r _ c w m.aC (m.region r (lA j)) (i▸h.aC) j y
 . rw[show AJ p f ⟨8,a,b,c⟩=[a,a]from by simp[AJ],show AG p f ⟨8,a,b,c⟩=[a]from by simp[AG]];exact Ck v.r v.k v.f v.t g.p g.l g.c f _ 5 a b c _ _ w sP
 . rw[show AJ p f ⟨9,a,b,c⟩=[a,a]from by simp[AJ],show AG p f ⟨9,a,b,c⟩=[a]from by simp[AG]];exact Ck v.r v.k v.f v.t g.p g.l g.c f _ 5 a b c _ _ w sP
 . rw[show AJ p f ⟨10,a,b,c⟩=[a,a]from by simp[AJ],show AG p f ⟨10,a,b,c⟩=[a]from by simp[AG]];exact Ck v.r v.k v.f v.t g.p g.l g.c f _ 5 a b c _ _ w sP
 . rw[show AJ p f ⟨11,a,b,c⟩=[a,a]from by simp[AJ],show AG p f ⟨11,a,b,c⟩=[a]from by simp[AG]];exact Ck v.r v.k v.f v.t g.p g.l g.c f _ 5 a b c _ _ w sP
 . rw[show AJ p f ⟨12,a,b,c⟩=[a,a]from by simp[AJ],show AG p f ⟨12,a,b,c⟩=[a]from by simp[AG]];exact Ck v.r v.k v.f v.t g.p g.l g.c f _ 5 a b c _ _ w sP
 . rw[show AJ p f ⟨13,a,b,c⟩=[a,a]from by simp[AJ],show AG p f ⟨13,a,b,c⟩=[a]from by simp[AG]];exact Ck v.r v.k v.f v.t g.p g.l g.c f _ 6 a b c _ _ w sP
 . rw[show AJ p f ⟨14,a,b,c⟩=[a,a]from by simp[AJ],show AG p f ⟨14,a,b,c⟩=[a]from by simp[AG]];exact Ck v.r v.k v.f v.t g.p g.l g.c f _ 6 a b c _ _ w sP
 . rw[show AJ p f ⟨15,a,b,c⟩=[a,a]from by simp[AJ],show AG p f ⟨15,a,b,c⟩=[a]from by simp[AG]];exact Ck v.r v.k v.f v.t g.p g.l g.c f _ 6 a b c _ _ w sP
 . rw[show AJ p f ⟨16,a,b,c⟩=[a]from by simp[AJ],show AG p f ⟨16,a,b,c⟩=[a]from by simp[AG]];exact Ck v.r v.k v.f v.t g.p g.l g.c f _ 6 a b c _ _ w sP
 . rw[show AJ p f ⟨17,a,b,c⟩=[3,3]from by simp[AJ],show AG p f ⟨17,a,b,c⟩=[3]from by simp[AG]];exact Ck v.r v.k v.f v.t g.p g.l g.c f _ 0 a b c _ _ w sP
 . rw[show AJ p f ⟨18,a,b,c⟩=[3,3]from by simp[AJ],show AG p f ⟨18,a,b,c⟩=[3]from by simp[AG]];exact Ck v.r v.k v.f v.t g.p g.l g.c f _ 0 a b c _ _ w sP
 . rw[show AJ p f ⟨19,a,b,c⟩=[2]from by simp[AJ],show AG p f ⟨19,a,b,c⟩=[2]from by simp[AG]];exact Ck v.r v.k v.f v.t g.p g.l g.c f _ 0 a b c _ _ w sP
 . rw[show AJ p f ⟨20,a,b,c⟩=[a,a]from by simp[AJ],show AG p f ⟨20,a,b,c⟩=[1]from by simp[AG]];exact Ck v.r v.k v.f v.t g.p g.l g.c f _ 7 a b c _ _ w sP
 . rw[show AJ p f ⟨21,a,b,c⟩=[a,a]from by simp[AJ],show AG p f ⟨21,a,b,c⟩=[1]from by simp[AG]];exact Ck v.r v.k v.f v.t g.p g.l g.c f _ 5 a b c _ _ w sP
 . rw[show AJ p f ⟨22,a,b,c⟩=[a]from by simp[AJ],show AG p f ⟨22,a,b,c⟩=[b]from by simp[AG]];exact Ck v.r v.k v.f v.t g.p g.l g.c f _ 8 a b c _ _ w sP
 . rw[show AJ p f ⟨23,a,b,c⟩=[0]from by simp[AJ],show AG p f ⟨23,a,b,c⟩=[0,0]from by simp[AG]];exact Ck v.r v.k v.f v.t g.p g.l g.c f _ 0 a b c _ _ w sP
 . rw[show AJ p f ⟨24,a,b,c⟩=[0]from by simp[AJ],show AG p f ⟨24,a,b,c⟩=[]from by simp[AG]];exact Ck v.r v.k v.f v.t g.p g.l g.c f _ 0 a b c _ _ w sP
 . rw[show AJ p f ⟨25,a,b,c⟩=[]from by simp[AJ],show AG p f ⟨25,a,b,c⟩=[]from by simp[AG]];exact Ck v.r v.k v.f v.t g.p g.l g.c f _ 9 a b c _ _ w sP
 . rw[show AJ p f ⟨26,a,b,c⟩=[1]from by simp[AJ],show AG p f ⟨26,a,b,c⟩=[]from by simp[AG]];exact Ck v.r v.k v.f v.t g.p g.l g.c f _ 9 a b c _ _ w sP
 . rw[show AJ p f ⟨27,a,b,c⟩=[]from by simp[AJ],show AG p f ⟨27,a,b,c⟩=[]from by simp[AG]];exact Ck v.r v.k v.f v.t g.p g.l g.c f _ 10 a b c _ _ w sP
 . obtain⟨q,D,d,F⟩:=A.callee rfl;simp only[]at d;subst d;obtain⟨xs,B,n,C⟩:=h.aD;obtain⟨S,cf,H⟩:=n.bW;rw[show AJ p f ⟨28,q,b,c⟩=D.gU from by simp[AJ,F],show AG p f ⟨28,q,b,c⟩=Ba D from by simp[AG,F],H];exact WV v.r v.k v.t g.p g.l g.c f p.aD S cf q D b c w m.aD (m.func D (lA F)) (H▸h.aD) F
 rw[show AJ p f ⟨29,a,b,c⟩=[]from by simp[AJ],show AG p f ⟨29,a,b,c⟩=[]from by simp[AG]];exact Ck v.r v.k v.f v.t g.p g.l g.c f _ 0 a b c _ _ w sP
section
variable {r:CS} {E:Nat->List Nat} {n:Nat} {O:List Nat} {D L:Nat->Nat->Bool} {h:Nat}
theorem Gd.kA(g:Gd r E n O D L)(d:h<n)(z:Nat):(z:Int)∈(La E D L n h).a8↔L h z=true:=by
 simp only[La,ints,mG,nh,nE];constructor
 . rintro⟨a,⟨_,c⟩,e⟩;have:a=z:=oM;rw[<-this];exact c
 exact λb=>⟨z,⟨g.fl.i9 d ((g.il _ _).1 b),b⟩,rfl⟩
theorem Gd.kj(g:Gd r E n O D L)(a:h<n):EU (λb=>decide ((b:Int)∈(La E D L n h).a8)) n= λb=>L h b=true:=by
 funext b
 apply propext;unfold EU;rw[my,g.kA a];exact⟨λq=>q.2, λq=>⟨g.fl.i9 a ((g.il _ _).1 q),q⟩⟩
theorem Xu.kv(g:Gd r (nx r.a8) n O D L)(P:∀b m,r.a8[b]?=K m->m.next=ints (nx r.a8 b)){I F:List Nat}{C B:List Int}{E:Nat->Prop}{b:Bool}(s:K6 (nx r.a8) n D E (jf I))(q:Ty (nx r.a8) n D L E h)(G:∀c,0<=cf C c)(ht:0<=t)(W:Xu (nx r.a8) n r.a8 (La (nx r.a8) D L n h) I C h (Dl O) t b F B):
 (b=false->Ox (nx r.a8) (λb=>L h b=true) (· ∈AK (nx r.a8) D n h) (jf I) h (cf C) t M)/\(b=true->∃v,Ox (nx r.a8) (λb=>L h b=true) (· ∈AK (nx r.a8) D n h) (jf I) h (cf C) t (K v)/\0<=v/\B=C.set h v/\∀j,jf F j=if j∈(La (nx r.a8) D L n h).a8.map Int.toNat then h else jf I j):=by
 have H:=q.jV g.fl s;have ae:(AR (nx r.a8) D n h)= λb=>L h b=true:=funext λb=>propext (g.il h b).symm
 rw[ae]at H;have u:=H;rw[<-g.kj q.lt]at u;obtain⟨k,small,hw,U,V⟩:=W;cases small with
 | false=>have N:=hw.iS g.fl u G;rw[g.kj q.lt]at N;have f:=U rfl;exact⟨λ_=>.inl ⟨rfl,N⟩, λe=>by rw[f]at e;cases e⟩
 | true =>
   obtain⟨d,i,Q,S,k1,k2⟩:=V rfl;have y:=hw.pass g.fl s u G;rw[g.kj q.lt]at y;(have R:Cm (λb=>cf k (jf I b)) (· ∈AK (nx r.a8) D n h) d:=Q.iff λb=>(Gd.inB b).symm);have T:Cm (λb=>cf k (jf I b)) (Wu (nx r.a8) λb=>L h b=true) i:=S.iff λb=>by
    unfold Wu RB;rw[g.kA q.lt];constructor
    . rintro⟨p,x,a,A⟩;refine⟨p,?_⟩;cases l:r.a8[b]? with
      |none=>unfold nx at a;rw[l]at a;cases a
      | some m=>refine⟨m,rfl,(x:Int),?_, λe=>A ((g.kA q.lt x).1 e)⟩;rw[P b m l];exact mG.2 ⟨x,a,rfl⟩
    rintro⟨p,m,l,z,a,A⟩;rw[P b m l]at a;obtain⟨x,hx,rfl⟩:=mG.1 a;exact⟨p,x,hx, λe=>A ((g.kA q.lt x).2 e)⟩
   by_cases w:4294967295<t*d+i
   . have f:=k1 w;exact⟨λ_=>.inr ⟨cf k,d,i,y,R,T,by rw[lZ w]⟩, λe=>by rw[f]at e;cases e⟩
   obtain⟨f,X,hi⟩:=k2 oM;refine⟨(λe=>by rw[f]at e;cases e), λ_=>⟨t*d+i,.inr ⟨cf k,d,i,y,R,T,by rw[lS w]⟩,?_,X,hi⟩⟩;have p:=Int.mul_nonneg ht Q.nn;have a:=S.nn;omega
end
section
variable {p:MP} {fi:Int} {costs:List Int} {xs:List MI} {r:CS} {O:List Nat} {D L:Nat->Nat->Bool} {sl:List ML} {k hd:Nat} {I I2:List Nat} {C C2:List Int} {l:ML}
theorem IF.goI{b:Bool}(s:IF p fi costs xs r D L sl k false I C)(g:Gd r (nx r.a8) r.a8 O D L)(P:∀b m,r.a8[b]?=K m->m.next=ints (nx r.a8 b))(u:sl.Perm r.gX)(w:sl.Pairwise IY)(a:sl[k]?=K l)(N:l∈r.gX)(G:l.head=(hd:Int))(B:AU p fi xs r.a8 l 0)(H:IA p fi r.a8 hd=t)(Q:0<=t)(F:C.length= ↑r.a8)(E:Xu (nx r.a8) r.a8 r.a8 l I C hd (Dl O) t b I2 C2):
 (b=true->IF p fi costs xs r D L sl (k+1) false I2 C2)/\(b=false->Rv (nx r.a8) r.a8 D L (IA p fi r.a8) (JJ xs r.a8) (sl.map hN) (jf (List.range r.a8)) (cf (r.a8.map (Cz xs costs))) (-1)):=by
 obtain⟨rfl,f⟩:=g.at_ N G;have d:=g.jO u w a f;have j:(sl.drop k).map hN=hd::(sl.drop (k+1)).map hN:=by obtain⟨R,A⟩:=i8.1 a;rw[mq R,A,nQ,LN]
 obtain⟨y,z⟩:=E.kv g P s.jP d s.cn Q;rw[<-H]at y z;refine⟨λe=> ?_, λe=>(s.ok rfl).2 _ (by rw[j];exact .bad (y e))⟩;obtain⟨v,S,T,rfl,U⟩:=z e;have i:jf I2= λb=>if L hd b then hd else jf I b:=by
  funext b
  rw[U b];by_cases e:L hd b=true
  . rw[lZ ((g.jv d.lt b).2 e),lZ e]
  rw[lS (λq=>e ((g.jv d.lt b).1 q)),lS e]
 have h:cf (C.set hd v)= λc=>if c=hd then v else cf C c:=funext λc=>Dx (an (by rw[F];exact d.lt))
 refine⟨λl' n=> ?_,by rw[i];exact g.step u w a f s.jP, λc=> ?_,(λe=>by cases e), λ_=>⟨(s.ok rfl).1, λv' x=>(s.ok rfl).2 v' ?_⟩⟩
 . rw[List.take_add_one,a]at n;rcases lT.1 n with q|q
   . exact s.lf l' q
   simp at q;rw[q];exact B
 . rw[h];by_cases q:c=hd
   . simp only[lZ q];exact T
   simp only[lS q];exact s.cn c
 rw[j];rw[i,h]at x;exact .step S x
theorem Ru.bad(g:Gd r (nx r.a8) r.a8 O D L)(c:sl.Perm r.gX)(d:sl.Pairwise IY)(b:∀l∈r.gX,AU p fi xs r.a8 l 0)(a:∀m∈r.a8,¬CZ xs costs m)(e:Rv (nx r.a8) r.a8 D L (IA p fi r.a8) (JJ xs r.a8) (sl.map hN) (jf (List.range r.a8)) (cf (r.a8.map (Cz xs costs))) (-1)):Ru p fi costs xs r (-1):=.inr ⟨b,a,O,D,L,sl,g,c,d,e⟩
theorem IF.kq{d:List Int}{small:Bool}{v:Int}(s:IF p fi costs xs r D L sl sl false I C)(g:Gd r (nx r.a8) r.a8 O D L)(h:sl.Perm r.gX)(l:sl.Pairwise IY)(f:X4 (nx r.a8) r.a8 (λb=>decide ((b:Int)∈r.gY)) I C 0 (Dl O) d small)(i:small=false->v=-1)(j:small=true->Cm (λb=>cf d (jf I b)) (λb=>b< ↑r.a8/\JJ xs r.a8 b) v):Ru p fi costs xs r v:=by
 have k:=s.fin g h;have c:EU (λb=>decide ((b:Int)∈r.gY)) r.a8= λb=>b<r.a8.length:=by
  funext b
  apply propext;unfold EU;rw[my,g.ord];refine⟨λq=>q.1, λq=>⟨q,mG.2 ⟨b,m7.2 ((g.om b).2 q),rfl⟩⟩⟩
 have a:=k;rw[<-c]at a;refine s.done g h l (λ_=> ?_) (λe=>by cases e);cases small with
 | false=>have:=f.iS g.fl a s.cn;rw[c]at this;exact .inl ⟨i rfl,this⟩
 | true=>have:=f.pass g.fl s.jP a s.cn;rw[c]at this;exact .inr ⟨_,this,j rfl⟩
end
structure L6(w u:Y)(v:VP)(g:VF)(f:MF)(x:MI)(N:Nat)(T S:J)(ts gs:List Int)(shv:J)(sh:List Int):Prop where
 im:Uw w u v g f x.op x.a x.b x.c
 eb:AA u N #[T,S] 180
 tr:Rd u 1 T ts (Ad As ts)
 gr:Rd u 1 S gs (Ad As gs)
 sr:Rd u 1 shv sh (Ad As sh)
theorem L6.a7{w u d:Y}{v:VP}{N:Nat}{T S:J}{ts b:List Int}{c:J}(h:L6 w u v g f x N T S ts b c sh)(a:Ah u u d):L6 w d v g f x N T S ts b c sh:=⟨h.im.a7 a,h.eb.a7 a,h.tr.a7 a lR,h.gr.a7 a lR,h.sr.a7 a lR⟩
theorem Pb{u:Y}{a:Option Addr}{n c:Nat}{f:List Int}(h:Rd u 1 (Z a n c) f (Ad As f))(m:n= ↑f)(g:f[i]?=K z):∃b d,a=K ⟨b,d,M⟩/\u ⟨b,d+i,M⟩=K ↑z:=by
 have l:=(i8.1 g).1;rcases h.2 with⟨e,_⟩|⟨b,d,cc,e,k⟩
 . omega
 simp only[lB]at e;have j:=Rd.elem Ay k i _ g 0 _ rfl;rw[mO,lJ]at j;exact⟨b,d,e.1,j⟩
def YS(p:MP)(f:MF)(x:MI)(sh:List Int)(w:Y)(e:Ending)(a:Y):Prop:=∃V,e=Al (Ao #[V,(Cf p f x sh)])/\(Cf p f x sh=0->Ab a w 2 1 V (FR p f x sh).length (Ad As (FR p f x sh)))/\Ah w w a
theorem Nz{n j:Nat}{u:J}(h:(Ad As (sh.take n))[j]?=K u):(Ad As sh)[j]?=K u:=by
 have e:Ad As sh=Ad As (sh.take n)++Ad As (sh.drop n):=by rw[<-mH,n9]
 rw[e,mP (i8.1 h).1];exact h
def Zs(low:Nat)(sh:List Int)(t:Int):Int:=if t=0 then(sh[low]?).getD 0 else t
def Ek(low:Nat)(sh a:List Int)(k:Nat):List Int:=sh.take low++(a.take k).map (Zs low sh)
theorem NZ{a:List Int}{k:Nat}(h:a[k]?=K t):Ek low sh a (k+1)=Ek low sh a k++[Zs low sh t]:=by unfold Ek;obtain⟨b,rfl⟩:=i8.1 h;rw[l8 b,m9,nN];rfl
theorem VK{p:MP}{a:List Int}(h:Jd p f x sh=low)(b:AG p f x=a):Ek low sh a a=FR p f x sh:=by unfold Ek FR;rw[h,b,List.take_length];rfl
theorem Qy{a:List Int}{k:Nat}(c:low<= ↑sh)(b:k<= ↑a):(Ek low sh a k).length=low+k:=by unfold Ek;rw[lG,mY,mD,mY];omega
theorem Th(u:Y)(z:Int):∀j v,[(iZ z:J)][j]?=K v->(Ac u (Ak #[z] 2)) ((⟨u,0,M⟩:Addr).add j)=K v:= λj v a=>by rw[CQ,mQ,o6 _ _ _ _ _ _ (Im u #[z] 2)];simpa using a
theorem WF{p:MP}{sh ts:List Int}(e:AJ p f x=ts)(h:sh.length< ↑ts):Cf p f x sh=1:=by unfold Cf;rw[e,lZ h]
theorem Y6{a wr c:Y}{b:List Int}{low k cap f:Nat}{e:Option Addr}(n:Ab wr a 2 1 (Z e (low+k) f) (low+k) (Ad As (Ek low sh b k)))(h:Ah a a wr)(g:Ek low sh b (k+1)=Ek low sh b k++[z])(m:Ab c a 2 1 (sG d (low+k+1) cap) (low+k+1) (Ad As (Ek low sh b k)++[iZ z]))(i:(Ac wr (Ak #[iZ z] 2)).grownBy c (Z e (low+k) f).ownBlock):Ae (Ab c a 2 1 (sG d (low+(k+1)) cap) (low+(k+1)) (Ad As (Ek low sh b (k+1)))/\Ah a a c):=by refine⟨?_,(h.alloc h.size _).grown i (by rw[oj];have:=h.size;omega) (λj l=>(n.lt j l).1)⟩;rw[g,mH,<-Nat.add_assoc];simpa[As]using m
theorem Rn{q:Prop}(h:q:=by
 clear J1 J2 K0 inst j1 j2 e0 e1 HI HF;go_wp2;go_roundw;case rel=>exact⟨j,(j:Int)-1,by omega,by go_num,by omega,HF2,HI2⟩
 simp[intOf]):q:=h
theorem Ro{q:Prop}(h:q:=by
 go_wp2;go_roundw;case rel=>exact⟨k+1,K g5,cap5,by omega,rfl,by go_num,HN⟩
 simp[intOf];omega):q:=h
theorem Sd(v:VP)(p:MP)(g:VF)(f:MF)(x:MI)(bq:J)(sh:List Int)(w:Y)(hs:p.small)(h3:p.aC.length=3)(bC:f.small)(bJ:x.wf)(h:Dm w v p)(hf:DF w g f)(hx:AW p f x)(aY:Rd w 1 bq sh (Ad As sh))(hl:sh.length<=1048576)(bx:∀a c,bq=Z a sh c-> ↑sh<=c)(bK:∀t∈AG p f x,t=0->0<(AJ p f x).length)(bF:(AG p f x).length<=2):
 Ai Ap 74 #[Am #[v.r,v.k,v.f,v.t],Am #[g.p,f.gV,g.l,g.c],Am #[x.op,x.a,x.b,x.c],bq] w (YS p f x sh w):=by
 obtain⟨r1,r3,k1,k3,t1,t3,f1,f3,rfl⟩:=h.sl;obtain⟨L,O,P,Q,R,S,rfl⟩:=Ec hf;obtain⟨sa,G,rfl⟩:=aY.bW;obtain⟨i0,hi,bi,bj,bp⟩:=mN Br;have bZ:=bx sa G rfl;clear bx;have H:=Av (d5 hs (d5 h3 (d5 bC (d5 bJ (d5 h (d5 hf (d5 hx aY)))))));clear hs h3 bC bJ h hf hx aY;have E0:=Av (Uw.of w ⟨Z r1 p.aC r3,Z k1 p.dk k3,Z f1 p.aD f3,Z t1 p.e8 t3⟩ ⟨Z L f.gU O,Z P f.gW Q,Z R f.bO S⟩ f x.op x.a x.b x.c);go_enter func74,ntmps74;go_upto_region 1 with fail
 refine Ax (λu=>Ae (Uw w u ⟨Z r1 p.aC r3,Z k1 p.dk k3,Z f1 p.aD f3,Z t1 p.e8 t3⟩ ⟨Z L f.gU O,Z P f.gW Q,Z R f.bO S⟩ f x.op x.a x.b x.c)) E0 ?_;rintro U0 I;clear E0;obtain⟨p0,p1,p2,p3⟩:=I.prog;obtain⟨q0,q1,q2,q3⟩:=I.func;obtain⟨x0,x1,x2,x3⟩:=I.ins;go_wp2_with fail;refine(Vt ⟨Z r1 p.aC r3,Z k1 p.dk k3,Z f1 p.aD f3,Z t1 p.e8 t3⟩ p ⟨Z L f.gU O,Z P f.gW Q,Z R f.bO S⟩ f x U0 H.1 H.2.1 H.2.2.1 H.2.2.2.1 (H.2.2.2.2.1.a7 I.ej lR) (H.2.2.2.2.2.1.a7 I.ej lR) H.2.2.2.2.2.2.1).mono ?_;rintro e u1 ⟨Tv,Sv,rfl,tr,gr,b1⟩;obtain⟨ta,tc,rfl⟩:=tr.bW;obtain⟨ga,gc,rfl⟩:=gr.bW;generalize bg:AJ p f x=ts at tr gr⊢;generalize aF:AG p f x=d at gr⊢;rw[bg,aF]at bK;rw[aF]at bF;have aj:Ae ((∀t∈d,t=0->0<ts.length)/\d.length<=2/\ ↑sh<=G):=⟨bK,bF,bZ⟩
 have ah:=Av (d5 bg aF);clear bg aF p0 p1 p2 p3 q0 q1 q2 q3 x0 x1 x2 x3;have E2:Ae (L6 w (Ac u1 (Ak #[Z ta ts tc,Z ga d gc] 180)) ⟨Z r1 p.aC r3,Z k1 p.dk k3,Z f1 p.aD f3,Z t1 p.e8 t3⟩ ⟨Z L f.gU O,Z P f.gW Q,Z R f.bO S⟩ f x u1 (Z ta ts tc) (Z ga d gc) ts d (Z sa sh G) sh):=by have E:=Aq u1 (Ak #[Z ta ts tc,Z ga d gc] 180);exact⟨(I.a7 b1).a7 E,AA.new _ _ _,tr.a7 E lR,gr.a7 E lR,(H.2.2.2.2.2.2.2.a7 (Ar I.ej lR b1) lR).a7 E lR⟩
 clear tr gr b1 I;go_upto_region 2 with fail
 generalize u1.heap.size=N at E2⊢;refine Ax (λu=>Ae (L6 w u ⟨Z r1 p.aC r3,Z k1 p.dk k3,Z f1 p.aD f3,Z t1 p.e8 t3⟩ ⟨Z L f.gU O,Z P f.gW Q,Z R f.bO S⟩ f x N (Z ta ts tc) (Z ga d gc) ts d (Z sa sh G) sh)) E2 ?_;rintro U E3;clear E2;have e0:=E3.eb.cell 0;have e1:=E3.eb.cell 1;simp only[lE,lC,lF]at e0 e1;have bu:=Av E3.im.ej;by_cases aU:sh.length< ↑ts
 . have bB:(sh:Int)<(ts:Int):=oM;have B:=Av (WF ah.1 aU);clear aU;go_wp2_with fail;exact lO (v:=Ao #[sN,iZ 1]) (by simp[results,results74,go_sem]) rfl ⟨sN,by rw[B], λe=>by rw[B]at e;exact absurd e dC,bu⟩
 obtain⟨low,bH⟩:∃low:Nat, ↑sh=low+ts.length:=⟨sh.length-↑ts,oM⟩
 have aE:Ae (Jd p f x sh=low):=by show ↑sh-(AJ p f x).length=low;rw[ah.1];omega
 have bB:¬(sh:Int)<(ts:Int):=oM;have y:=Av bH;clear bH;go_upto_region 6 with fail
 rw[show(sh:Int)-(ts:Int)=(low:Int)by have:=y.o;omega];have cH:wrap64 ((ts:Int)-1)=(ts:Int)-1:=IntWalk.wrap64_in _ (by have:=y.o;omega);clear aU bB e0 e1;go_wp2;rw[cH];go_loopw [13] (λi wr=>∃(q:Nat) (z:Int),q<= ↑ts/\i=iZ z/\z+1=q/\Ae (∀(k:Nat) s t,q<=k->(sh.drop low)[k]?=K s->ts[k]?=K t->t=0\/s=t)/\Ae (L6 w wr ⟨Z r1 p.aC r3,Z k1 p.dk k3,Z f1 p.aD f3,Z t1 p.e8 t3⟩ ⟨Z L f.gU O,Z P f.gW Q,Z R f.bO S⟩ f x N (Z ta ts tc) (Z ga d gc) ts d (Z sa sh G) sh)) (λi _=>(intOf i+1).toNat)
 case atStart=>exact⟨ts,(ts:Int)-1,oM,rfl,oM, λk s t hk _ ht=>absurd (i8.1 ht).1 oM,E3⟩
 clear E3 bu;obtain⟨q,z,hq,rfl,hz,HF,HI⟩:=hrel;have aG:=y.o;have e0:=HI.eb.cell 0;have e1:=HI.eb.cell 1;simp only[lE,lC,lF]at e0 e1;by_cases cA:q=0
 . obtain rfl:z=-1:=oM;have bP:=Av ((Ip (by rw[nI];omega)).2 (λk s t V F=>HF.o k s t oM V F));clear HF cA hz hq aG;obtain⟨q0,q1,q2,q3⟩:=HI.im.func;obtain⟨x0,x1,x2,x3⟩:=HI.im.ins;(go_upto_region 11 with fail);go_cut [67] (λs wx=>∃bb:Bool,s=An bb/\Ae (bb=true↔(x.op=27/\AO f x.a≠3))/\Ae (L6 w wx ⟨Z r1 p.aC r3,Z k1 p.dk k3,Z f1 p.aD f3,Z t1 p.e8 t3⟩ ⟨Z L f.gU O,Z P f.gW Q,Z R f.bO S⟩ f x N (Z ta ts tc) (Z ga d gc) ts d (Z sa sh G) sh))
   case first=>
    by_cases am:x.op=27
    . (have bT:(x.op==27)=true:=by simpa using am);have aI:=Av am;clear am;go_wp2_with fail;refine(EH ⟨Z L f.gU O,Z P f.gW Q,Z R f.bO S⟩ f x.a wr H.2.2.1 H.2.2.2.1.2.1 (H.2.2.2.2.2.1.a7 HI.im.ej lR)).mono ?_;rintro e u1 ⟨rfl,b1⟩;by_cases au:AO f x.a=3
      . (have ce:(AO f x.a != 3)=false:=by simpa using au);have aM:=Av au;go_wp2_with fail;go_meet;exact⟨false,rfl,⟨λe=>(by cases e), λe=>absurd aM.o e.2⟩,HI.a7 b1⟩
      (have ce:(AO f x.a != 3)=true:=by simpa using au);have aM:=Av au;clear au;go_wp2_with fail;go_meet;exact⟨true,rfl,⟨λ_=>⟨aI,aM⟩, λ_=>rfl⟩,HI.a7 b1⟩
    (have bT:(x.op==27)=false:=by simpa using am);have aI:=Av am;clear am;go_wp2_with fail;go_meet;exact⟨false,rfl,⟨λe=>(by cases e), λe=>absurd e.1 aI.o⟩,HI⟩
   case rest=>
    obtain⟨bb,rfl,br,aA⟩:=hcut;clear HI q0 q1 q2 q3 x0 x1 x2 x3 e0 e1;rcases Bool.eq_false_or_eq_true bb with aS|aS
    . subst aS;(have B:Ae (Cf p f x sh=2):=by show Cf p f x sh=2;unfold Cf;rw[ah.1,lS (by have:=y.o;omega),lZ (.inr (br.1 rfl))]);go_wp2_with fail;exact lO (v:=Ao #[sN,iZ 2]) (by simp[results,results74,go_sem]) rfl ⟨sN,by rw[B], λe=>by rw[B]at e;exact absurd e dC,aA.im.ej⟩
    subst aS;have bR:Ae (¬(x.op=27/\AO f x.a≠3)):= λe=>by have:=br.2 e;cases this
    obtain⟨m,hN⟩:∃W,W=wc:=⟨_,rfl⟩;subst hN;have aG:=y.o;have bY:(low:Int)<=(G:Int):=oM;have cg:low<=G:=oM;clear aG;(go_upto_region 13 with fail);go_cut [12,14] (λl s wx=>∃(a:Option Addr) (c:Nat),l=iZ (low:Int)/\s=Z a low c/\Ae (Ab wx m 2 1 (Z a low c) low (Ad As (sh.take low))/\Ah m m wx))
    case first=>
     have E:=Aq m (Ak #[] 2);have HO:Ae (Ab (Ac m (Ak #[] 2)) m 2 1 (sG m 0 0) 0 []):=⟨rfl,.inr ⟨m,0,#[],rfl,Nat.le_refl _,Im _ _ _,Nat.le_refl _,nZ _,rfl,rfl⟩⟩;have bQ:Ae _:=aA.a7 E;cases sa with
     | none=>
       have cI:sh.length=0:=by
        rcases aA.sr.2 with⟨e,_⟩|⟨gg,oo,cc,e,hc⟩
        . exact e
        simp at e
       (obtain rfl:low=0:=by have:=y.o;omega);clear cI bY cg;go_wp2_with fail;go_meet;exact⟨K m,0,rfl,rfl,HO,E⟩
     | some ad=>
       have HN:Ae (∀j u,(Ad As (sh.take low))[j]?=K u->(Ac m (Ak #[] 2)) (ad.add j)=K u):= λj u hj=>by
        rcases bQ.sr.2 with⟨e,_⟩|⟨gg,oo,cc,e,hc⟩
        . (have cR:(Ad As sh).length=0:=by rw[AE As 1 Ay,e]);have:=(i8.1 (Nz hj)).1;omega
        simp only[lB,lH]at e;obtain⟨rfl,_,_⟩:=e;rw[CQ];exact hc j u (Nz hj)
       (have HL:Ae ((Ad As (sh.take low)).length=low*1):=by show _=_;rw[AE As 1 Ay,mY];have:=y.o;omega);go_wp2_with (at_builtin;refine wpList_append_own _ rfl _ _ 29 rfl m 2 i0 (iZ 0) 1 8 underlying29 hi bi bj bp rfl dC _ 0 [] rfl HO ad low G (Ad As (sh.take low)) rfl HL HN ?c1 ?c2 ?c3 ?c4 ?_);(case c1=>intro u X;obtain⟨z,_,hz⟩:=ni.1 X;simp[As]at hz;subst hz;rfl);(case c2=>have:=y.o;unfold maxLen;omega);(case c3=>have:=y.o;omega);(case c4=>exact E.size);intro v' w' aX bG cu;(obtain⟨a2,c2,rfl⟩:∃a c,v'=Z a low c:=by have:=(Rd.ij aX).bW;simpa using this);have HB:=Av (d5 (E.grown bG sP (λk hk=>by simp[Value.ownBlock]at hk;omega)) ((by simpa using aX):Ab w' m 2 1 (Z a2 low c2) low (Ad As (sh.take low))));clear aX bG cu;go_wp2_with fail;go_meet;exact⟨a2,c2,rfl,rfl,HB.2,HB.1⟩
    case rest=>
     obtain⟨oa,oc,rfl,rfl,aP⟩:=hcut;have HW:Ae _:=aA.o;go_wp2;go_loopw [14,15,16] (λo i _ wr=>∃(k:Nat) (a:Option Addr) (c:Nat),k<= ↑d/\o=Z a (low+k) c/\i=iZ (k:Int)/\Ae (Ab wr m 2 1 (Z a (low+k) c) (low+k) (Ad As (Ek low sh d k))/\Ah m m wr)) (λ_ i _ _=> ↑d-(intOf i).toNat)
     (case atStart=>exact⟨0,oa,oc,oM,rfl,rfl,by have C:=aP.1;simpa[Ek]using C,aP.2⟩);clear aP;clear oa oc;obtain⟨k,oa,oc,hk,rfl,rfl,HI⟩:=hrel;have ao:Ae _:=HW.a7 HI.2;have e1:=ao.eb.cell 1;simp only[lE,lC,lF]at e1;by_cases cj:k< ↑d
     . obtain⟨A,D⟩:∃t,d[k]?=K t:=⟨_,an cj⟩;obtain⟨gg,og,rfl,j1⟩:=Pb ao.gr rfl D;have cQ:(k:Int)<(d.length:Int):=oM;have cJ:=aj.2.1;by_cases T:A=0
       . subst T;have cw:=aj.1 0 (lA D) rfl;obtain⟨sl,aZ⟩:∃s,sh[low]?=K s:=⟨_,an (by have:=y.o;omega)⟩;obtain⟨bS,os,rfl,j2⟩:=Pb ao.sr rfl aZ;(have cE:(low:Int)<(sh:Int):=by have:=y.o;omega);(have aJ:Ae (Ek low sh d (k+1)=Ek low sh d k++[sl]):=by show Ek low sh d (k+1)=_;rw[NZ D];simp[Zs,aZ]);clear D aZ cw;have ae:Ae (Ab (Ac wr (Ak #[sl] 2)) m 2 1 (Z oa (low+k) oc) (low+k) (Ad As (Ek low sh d k))/\ ↑m<=(Ac wr (Ak #[sl] 2)).heap.size):=⟨Aw HI.1 (Aq _ _) lR,by rw[oj];have:=HI.2.size;omega⟩
         go_wp2_with (at_builtin;refine wpList_append_lies _ rfl _ _ 29 rfl m 2 i0 (iZ 0) 1 8 underlying29 hi bi bj bp rfl dC _ (low+k) (Ad As (Ek low sh d k)) rfl ae.1 wr 1 1 [sl] rfl rfl (Th wr sl) (λu X=>by simp at X;subst X;rfl) oM (by have:=y.o;have:=aj.2.1;simp[maxLen];omega) (by have:=y.o;have:=aj.2.1;omega) ae.2 _ rfl ?_;intro g5 cap5 w5 aw aq aR aW;have HN:Ae (Ab w5 m 2 1 (sG g5 (low+(k+1)) cap5) (low+(k+1)) (Ad As (Ek low sh d (k+1)))/\Ah m m w5):=Y6 HI.1 HI.2 aJ aw aq;clear aw aq aR aW)
         exact Ro
       (have aJ:Ae (Ek low sh d (k+1)=Ek low sh d k++[A]):=by show Ek low sh d (k+1)=_;rw[NZ D];simp[Zs,T]);(have bI:(A==0)=false:=by simpa using T);clear D;have ae:Ae (Ab (Ac wr (Ak #[A] 2)) m 2 1 (Z oa (low+k) oc) (low+k) (Ad As (Ek low sh d k))/\ ↑m<=(Ac wr (Ak #[A] 2)).heap.size):=⟨Aw HI.1 (Aq _ _) lR,by rw[oj];have:=HI.2.size;omega⟩
       go_wp2_with (at_builtin;refine wpList_append_lies _ rfl _ _ 29 rfl m 2 i0 (iZ 0) 1 8 underlying29 hi bi bj bp rfl dC _ (low+k) (Ad As (Ek low sh d k)) rfl ae.1 wr 1 1 [A] rfl rfl (Th wr A) (λu X=>by simp at X;subst X;rfl) oM (by have:=y.o;have:=aj.2.1;simp[maxLen];omega) (by have:=y.o;have:=aj.2.1;omega) ae.2 _ rfl ?_;intro g5 cap5 w5 aw aq aR aW;have HN:Ae (Ab w5 m 2 1 (sG g5 (low+(k+1)) cap5) (low+(k+1)) (Ad As (Ek low sh d (k+1)))/\Ah m m w5):=Y6 HI.1 HI.2 aJ aw aq;clear aw aq aR aW)
       clear ae HI;exact Ro
     obtain rfl:k=d.length:=oM;have aQ:Ae ((FR p f x sh).length=low+ ↑d/\Ek low sh d d=FR p f x sh):=by have C:=VK aE ah.2;exact⟨by rw[<-C,Qy (by have:=y.o;omega) lR],C⟩
     have bt:Ae (Cf p f x sh=if 64<low+ ↑d then 3 else 0):=by show Cf p f x sh=_;unfold Cf;rw[ah.1,lS (by have:=y.o;omega),lS (by rw[aE];rintro(e|e);exact absurd (bP.symm.trans e) dC;exact bR.o e),aQ.1]
     by_cases aT:64<low+ ↑d
     . (have B:Ae (Cf p f x sh=3):=by have:=bt.o;rw[lZ aT]at this;exact this);have bV:(64:Int)<(low:Int)+(d:Int):=oM;clear aT;go_wp2_with fail;exact lO (v:=Ao #[sN,iZ 3]) (by simp[results,results74,go_sem]) rfl ⟨sN,by rw[B], λe=>by rw[B]at e;exact absurd e dC,ao.im.ej⟩
     (have B:Ae (Cf p f x sh=0):=by have:=bt.o;rw[lS aT]at this;exact this);have bV:¬(64:Int)<(low:Int)+(d:Int):=oM;go_wp2_with fail;exact lO (v:=Ao #[Z oa (low+ ↑d) oc,iZ 0]) (by simp[results,results74,go_sem]) rfl ⟨Z oa (low+ ↑d) oc,by rw[B], λ_=>by rw[aQ.1,<-aQ.2];exact A9 HI.1 HW.im.ej.size,ao.im.ej⟩
 obtain⟨j,rfl⟩:∃j,q=j+1:=⟨q-1,oM⟩;obtain rfl:z=(j:Int):=oM;obtain⟨A,D⟩:∃t,ts[j]?=K t:=⟨_,an oM⟩;obtain⟨sv,bf⟩:∃s,sh[low+j]?=K s:=⟨_,an oM⟩;obtain⟨gt,ot,rfl,j1⟩:=Pb HI.tr rfl D;obtain⟨bS,os,rfl,j2⟩:=Pb HI.sr rfl bf;have hd:(sh.drop low)[j]?=K sv:=by rw[pJ];exact bf
 have HV:=Av (d5 D hd);have cM:(j:Int)<(ts:Int):=oM;have cE:(low:Int)+(j:Int)<(sh:Int):=oM;clear D bf hd aG;have inst:=AC.some wr;have J1:= λn:AC wr=>AC.cell j1 n
 have J2:= λn:AC wr=>AC.cell j2 n
 have K0:= λn:AC wr=>AC.cell e0 n
 by_cases T:A=0
 . (have bI:(A != 0)=false:=by simpa using T);go_wp2_with fail;refine AN kR kR ?_;(repeat(go_big_quiet_step (fail)));refine wpQuiet_nil ?_;rintro bL ⟨n',rfl⟩;have HI2:Ae _:=HI.a7 n'.h;have HF2:Ae (∀(k:Nat) s t,j<=k->(sh.drop low)[k]?=K s->ts[k]?=K t->t=0\/s=t):= λk s t hk V F=>by
    by_cases e:k=j
    . subst e;rw[HV.1]at F;exact .inl (by rw[<-lP F];exact T)
    exact HF.o k s t oM V F
   exact Rn
 have bI:(A != 0)=true:=by simpa using T
 by_cases aH:sv=A
 . (have cG:(sv != A)=false:=by simpa using aH);go_wp2_with fail;refine AN kR kR ?_;(repeat(go_big_quiet_step (fail)));refine wpQuiet_nil ?_;rintro bL ⟨n',rfl⟩;have HI2:Ae _:=HI.a7 n'.h;have HF2:Ae (∀(k:Nat) s t,j<=k->(sh.drop low)[k]?=K s->ts[k]?=K t->t=0\/s=t):= λk s t hk V F=>by
    by_cases e:k=j
    . subst e;rw[HV.1]at F;rw[HV.2]at V;exact .inr (by rw[<-lP V,<-lP F];exact aH)
    exact HF.o k s t oM V F
   exact Rn
 have cG:(sv != A)=true:=by simpa using aH
 have B:Ae (Cf p f x sh=2):=by
  show Cf p f x sh=2;unfold Cf;rw[ah.1,lS (by have:=y.o;omega),lZ (.inl (Bool.eq_false_iff.2 (λe=>by
   have C:=(Ip (by rw[nI,aE];have:=y.o;omega)).1 e j sv A (by rw[aE];exact HV.2) HV.1;rcases C with C|C
   . exact T C
   exact aH C)))]
 go_wp2_with fail;refine AN kR kR ?_;repeat(go_big_quiet_step (fail))
 refine wpQuiet_nil ?_;rintro bL ⟨n',rfl⟩;have HI2:=HI.a7 n'.h;go_wp2_with fail;exact lO (v:=Ao #[sN,iZ 2]) (by simp[results,results74,go_sem]) rfl ⟨sN,by rw[B], λe=>by rw[B]at e;exact absurd e dC,HI2.im.ej⟩
structure Py(u:Y)(B CB TB:Nat)(v:B2)(V S:J)(k j:Nat)(C:List Int):Prop where
 ie:AA u CB (Ju v V S) 200
 co:Ab u B 2 1 V k (Ad As C)
 st:Ab u B 2 1 S j (nv (List.range j))
 ap:∀g,V.ownBlock=K g->S.ownBlock≠K g
 bl:B<=CB
 tb:AA u TB #[.pointer CB] 198
theorem Ka{u u':Y}{B c n:Nat}{xs:List J}{row:Option Nat}(h:Ab u B e c s n xs)(i:u.grownBy u' row)(j:∀g,s.ownBlock=K g->row≠K g):Ab u' B e c s n xs:=by
 refine⟨h.1,?_⟩;rcases h.2 with h|⟨g,cap,d,a,f,b,k⟩
 . exact .inl h
 refine .inr ⟨g,cap,d,a,f,?_,k⟩;rw[i.block g (lK.1 b).1 (λe=>j g (by rw[a];rfl) e.symm)];exact b
theorem VQ{u:Y}{B b n:Nat}{xs:List J}{g:Nat}(h:Ab u B e b s n xs)(a:s.ownBlock=K g):g<u.heap.size:=by
 rcases Bo h with⟨rfl,rfl⟩|⟨f,c,rfl⟩
 . cases a
 obtain⟨_,d,e⟩:=AD h;cases a
 exact(lK.1 e).1
theorem Dg{u:Y}{B j n:Nat}{t:Aj}{xs:List J}{f:Array J}(x:J)(h:Ab u B e j s n xs)(d:AA u b f t)(k:t≠e):Ab (Aa u ⟨b,i,M⟩ x) B e j s n xs:=by
 rcases Bo h with⟨rfl,rfl⟩|⟨m,c,rfl⟩
 . refine⟨h.1,?_⟩;rcases h.2 with h|⟨g,cap,f,a,p,q,r⟩
   . exact .inl h
   cases a
 obtain⟨_,l,a⟩:=AD h;refine Bn h ?_;rintro rfl;unfold AA at d;rw[a]at d;cases d
 exact k rfl
section
variable {u u':Y} {B CB TB:Nat} {v:B2} {V S:J} {k j:Nat} {C:List Int}
theorem Py.a7(h:Py u B CB TB v V S k j C)(a:Ah u u u'):Py u' B CB TB v V S k j C:={h with ie:=h.ie.a7 a,co:=Aw h.co a lR,st:=Aw h.st a lR,tb:=h.tb.a7 a}
theorem Py.cells(h:Py u B CB TB v V S k j C):u TB=K (.pointer CB)/\u ⟨CB,15,M⟩=K V/\u ⟨CB,16,M⟩=K S:=⟨by rw[h.tb.cell];rfl,by rw[h.ie.cell];rfl,by rw[h.ie.cell];rfl⟩
theorem Py.kX{g:Nat}(h:Py u B CB TB v V S k j C)(m:Ab u' B 2 1 (sG g (k+1) cap) (k+1) (Ad As C++[iZ y]))(d:u.grownBy u' V.ownBlock)(l:V.ownBlock=K g\/g= ↑u):
 Py (Aa u' ⟨CB,15,M⟩ (sG g (k+1) cap)) B CB TB v (sG g (k+1) cap) S (k+1) j (C++[y])/\u' TB=K (.pointer CB)/\u' ⟨CB,15,M⟩=K V/\u'.frozen? ⟨CB,15,M⟩=false:=by
 have a:=h.ie.grown d h.co dC;have b:=h.tb.grown d h.co dC;have n:=Ka h.st d (λf e c=>h.ap f c e);refine⟨⟨a.set 15 _,?_,Dg _ n a dC,?_,h.bl,b.other (λe=> ?_) _⟩,by rw[b.cell];rfl,by rw[a.cell];rfl,a.frozen 15⟩
 . have:=Dg (i:=15) (sG g (k+1) cap) m a dC;rw[mH];exact this
 . rintro f e c;(cases e);rcases l with q|rfl
   . exact h.ap _ q c
   exact absurd (VQ h.st c) (Nat.lt_irrefl _)
 unfold AA at a b;simp only[]at e;rw[e,a]at b;cases b
theorem Py.kW{g:Nat}(h:Py u B CB TB v V S k j C)(m:Ab u' B 2 1 (sG g (j+1) cap) (j+1) (nv (List.range j)++[iZ (j:Int)]))(d:u.grownBy u' S.ownBlock)(l:S.ownBlock=K g\/g= ↑u):
 Py (Aa u' ⟨CB,16,M⟩ (sG g (j+1) cap)) B CB TB v V (sG g (j+1) cap) k (j+1) C/\u' TB=K (.pointer CB)/\u' ⟨CB,16,M⟩=K S/\u'.frozen? ⟨CB,16,M⟩=false:=by
 have a:=h.ie.grown d h.st dC;have b:=h.tb.grown d h.st dC;have n:=Ka h.co d (λf e c=>h.ap f e c);refine⟨⟨a.set 16 _,Dg _ n a dC,?_,?_,h.bl,b.other (λe=> ?_) _⟩,by rw[b.cell];rfl,by rw[a.cell];rfl,a.frozen 16⟩
 . have:=Dg (i:=16) (sG g (j+1) cap) m a dC;rw[nW,FQ];exact this
 . rintro f e c;(cases c);rcases l with q|rfl
   . exact h.ap _ e q
   exact absurd (VQ h.co e) (Nat.lt_irrefl _)
 unfold AA at a b;simp only[]at e;rw[e,a]at b;cases b
theorem Py.whole{n:Nat}(h:Py u B CB TB v V S n n C)(r:0<n)(q: ↑C=n)(p:∀y∈C,EP y):∃a c f d,CD u B CB v n a c f d (List.range n) C:=by
 obtain⟨j,g,i,k,l,_⟩:=h;rcases Bo g with⟨_,e⟩|⟨a,c,rfl⟩
 . omega
 rcases Bo i with⟨_,e⟩|⟨f,d,rfl⟩
 . omega
 exact⟨a,c,f,d,j,g,i, λe=>k a rfl (by rw[e];rfl),q,sP,p, λb m=>nE.1 m,l⟩
end
def Zo(w:Y)(l:ML)(x:LV):Prop:=x.h=l.head/\x.xn= ↑l.back/\x.yn= ↑l.a8/\UH w (l,Z x.xa x.xn x.xc,Z x.ya x.yn x.yc)
def Ym(w:Y)(g o k:Nat):LV:=match w ⟨g,o+k*3,M⟩,w ⟨g,o+k*3+1,M⟩,w ⟨g,o+k*3+2,M⟩with
 |some (Ag _ h),K (Z a n c),K (Z a' n' c')=>⟨h,a,n,c,a',n',c'⟩
 |_,_,_=>default
theorem Zj{u:Y}{a:Option Addr}{n c:Nat}{p:List ML}(h:MJ u (Z a n c) p):∃y:List LV,y.length= ↑p/\(∀(k:Nat) (m:ML) (x:LV),p[k]?=K m->y[k]?=K x->Zo u m x)/\Li u u a y:=by
 cases hc:p with
 |nil=>exact⟨[],rfl, λk m x h=>by simp at h, λe=>absurd rfl e⟩
 | cons D F=>
   rw[<-hc];obtain⟨g,o,_,_,_,_,z,C,_⟩:=Ir h (k:=0) (m:=D) (by rw[hc];rfl);have B:∀k m,p[k]?=K m->∃d i f l,Ym u g o k=⟨m.head,d,m.back,i,f,m.a8,l⟩/\u ⟨g,o+k*3,M⟩=K ↑m.head/\u ⟨g,o+k*3+1,M⟩=K (Z d m.back i)/\u ⟨g,o+k*3+2,M⟩=K (Z f m.a8 l)/\UH u (m,Z d m.back i,Z f m.a8 l):= λk m r=>by obtain⟨E,G,d,i,f,l,q,s,t,v,w⟩:=Ir h r;rw[z]at q;(cases q);refine⟨d,i,f,l,?_,s,t,v,w⟩;unfold Ym;rw[s,t,v]
   refine⟨(List.range p).map (Ym u g o),sP, λk m x r b=> ?_, λ_=>⟨g,o,z,g8 C, λj x b=> ?_⟩⟩
   . obtain⟨d,i,f,l,q,_,_,_,w⟩:=B k m r;rw[mE,pB (i8.1 r).1]at b;simp only[oL,lH]at b;rw[<-b,q];exact⟨rfl,rfl,rfl,w⟩
   (have A:j<p.length:=by have:=(i8.1 b).1;simpa using this);obtain⟨d,i,f,l,q,s,t,v,_⟩:=B j _ (an A);rw[mE,pB A]at b;simp only[oL,lH]at b;rw[<-b,q];exact⟨s,t,v⟩
inductive SS {α β:Type} (R:α->β->Prop):List α->List β->Prop
 |nil:SS R [] []
 |cons {x:α} {m:β} {zs:List α} {ls:List β}:R x m->SS R zs ls->SS R (x::zs) (m::ls)
theorem Sx{α β:Type}{R:α->β->Prop}{ts f:List α}(j:ts.Perm f):∀{a:List β},SS R f a->∃sl:List β,sl.Perm a/\SS R ts sl:=by
 induction j with
 |nil=>intro a h;exact⟨a,.refl _,h⟩
 | cons x _ k=>
   intro a h;cases h with
   | cons b c=>obtain⟨sl,d,e⟩:=k c;exact⟨_::sl,d.cons _,.cons b e⟩
 | swap x y l=>
   intro a h;cases h with
   | cons b c=>
     cases c with
     |cons g i=>exact⟨_::_::_,.swap _ _ _,.cons g (.cons b i)⟩
 | trans _ _ ih1 ih2=>intro a h;obtain⟨q,m,d⟩:=ih2 h;obtain⟨p,n,e⟩:=ih1 d;exact⟨p,n.trans m,e⟩
section
variable {α β:Type} {R:α->β->Prop} {ts:List α} {sl:List β}
theorem SS.len(h:SS R ts sl):ts.length=sl.length:=by
 induction h with
 |nil=>rfl
 |cons _ _ a=>simp[a]
theorem SS.at_(h:SS R ts sl):∀{k:Nat} {x:α},ts[k]?=K x->∃l,sl[k]?=K l/\R x l:=by
 induction h with
 |nil=>intro k x h;simp at h
 | cons a _ b=>
   intro k x h;cases k with
   |zero=>simp at h;exact⟨_,rfl,h▸a⟩
   |succ k=>exact b (k:=k) (by simpa using h)
theorem SS.mem(h:SS R ts sl):∀{l:β},l∈sl->∃x∈ts,R x l:=by
 induction h with
 |nil=>intro l h;simp at h
 | cons a _ d=>
   intro l h;rcases lw.1 h with rfl|h
   . exact⟨_,sP,a⟩
   obtain⟨x,c,b⟩:=d h;exact⟨x,mX _ c,b⟩
theorem SS.pair{P:α->α->Prop}{Q T:β->β->Prop}(h:SS R ts sl)(i:∀a b l m,R a l->R b m->P a b->Q l m->T l m)(f:ts.Pairwise P)(g:sl.Pairwise Q):sl.Pairwise T:=by
 induction h with
 |nil=>exact .nil
 | cons d e n=>
   cases f with
   | cons p q=>
     cases g with
     | cons r s=>refine .cons (λm c=> ?_) (n q s);obtain⟨x,k,j⟩:=e.mem c;exact i _ _ _ _ d j (p x k) (r m c)
end
theorem SX{α β:Type}{R:α->β->Prop}:∀{b:List α} {a:List β},b.length= ↑a->(∀(k:Nat) x m,b[k]?=K x->a[k]?=K m->R x m)->SS R b a
 |[],[],_,_=>.nil
 |[],_::_,h,_=>by simp at h
 |_::_,[],h,_=>by simp at h
 |x::b,m::a,h,h2=>.cons (h2 0 x m rfl rfl) (SX (by simpa using h) λk f e c d=>h2 (k+1) f e (by simpa using c) (by simpa using d))
theorem Yw{w:Y}{ts j:List LV}{c:List ML}(v:ts.Perm j)(y:MN ts)(u:j.length= ↑c)(q:∀(k:Nat) (m:ML) (x:LV),c[k]?=K m->j[k]?=K x->Zo w m x)(s:c.Pairwise λa b=>a.head≠b.head):∃sl:List ML,sl.Perm c/\sl.Pairwise IY/\ts.length= ↑sl/\∀(k:Nat) (x:LV),ts[k]?=K x->∃l:ML,sl[k]?=K l/\l.head=x.h:=by
 obtain⟨sl,r,f⟩:=Sx v (SX (R:= λ(x:LV) (m:ML)=>x.h=m.head/\x.yn= ↑m.a8) u λk x m n p=>⟨(q k m x p n).1,(q k m x p n).2.2.1⟩)
 have t:sl.Pairwise λa b=>a.head≠b.head:=(r.symm.pairwise_iff (λh=>Ne.symm h)).1 s
 refine⟨sl,r,f.pair (λa b l m g i d e=> ?_) y t,f.len, λk x z=> ?_⟩
 . rw[LV.lt_iff,oW]at d;unfold IY;rw[<-g.1,<-i.1]at e;rw[<-g.1,<-i.1,<-g.2,<-i.2];omega
 obtain⟨l,d,e⟩:=f.at_ z;exact⟨l,d,e.1.symm⟩
section
open Go.Shelf
section
variable {u u':Y} {row:Option Nat}
theorem AA.held{a:Array J}{t:Aj}(h:AA u b a t)(c:u.grownBy u' row)(d:∀r,row=K r->∃o:Obj,u.heap[r]?=K o/\o.isCells=false):AA u' b a t:=(grownBy_keeps_cells c d h rfl).trans h
theorem QA{B d n:Nat}{xs:List J}(h:Ab u B e d s n xs)(i:u.grownBy u' row)(j:∀r,row=K r->∃o:Obj,u.heap[r]?=K o/\o.isCells=false):Ab u' B e d s n xs:=Ka h i (λg b k=>by
 rcases Bo h with⟨rfl,rfl⟩|⟨m,c,rfl⟩
 . cases b
 obtain⟨_,l,e⟩:=AD h;cases b
 obtain⟨o,a,f⟩:=j _ k;rw[e]at a;cases a
 cases f)
theorem CD.held{B c:Nat}{v:B2}{n gC cC gS cS:Nat}{I:List Nat}{C:List Int}(h:CD u B c v n gC cC gS cS I C)(a:u.grownBy u' row)(b:∀r,row=K r->∃o:Obj,u.heap[r]?=K o/\o.isCells=false):CD u' B c v n gC cC gS cS I C:={h with ie:=h.ie.held a b,co:=QA h.co a b,st:=QA h.st a b}
theorem CD.sz{B a:Nat}{v:B2}{n gC cC gS cS:Nat}{I:List Nat}{C:List Int}(h:CD u B a v n gC cC gS cS I C):gC< ↑u/\gS<u.heap.size:=by obtain⟨_,c1,b⟩:=AD h.co;obtain⟨_,c2,c⟩:=AD h.st;exact⟨(lK.1 b).1,(lK.1 c).1⟩
theorem DB.kpc{gC gS:Nat}(h:DB (Cg gC gS) u u'):JT gC gS u u':=⟨h.size, λk o a _ b c=>(h.block k (lK.1 a).1 (λe=>e.elim b c)).trans a⟩
theorem CD.keeps{A B d:Nat}{v:B2}{n gC cC gS cS:Nat}{I:List Nat}{C:List Int}(h:CD u B d v n gC cC gS cS I C)(c:DB (Cg gC gS) u u'):KeepsFrom A u u':=by
 obtain⟨_,c1,e⟩:=AD h.co;obtain⟨_,c2,f⟩:=AD h.st;refine⟨c.size, λk o _ a b=>(c.block k (lK.1 a).1 ?_).trans a⟩;rintro(rfl|rfl)
 . rw[e]at a;cases a;cases b
 rw[f]at a;cases a;cases b
end
structure Rw(w u:Y)(v:B2)(y:Int):Prop where
 body:AA u w v.cells 164
 ik:AA u ((w:Nat)+1) #[y] 2
 ej:Ah w w u
theorem Rw.a7{w u u':Y}{v:B2}(h:Rw w u v y)(a:Ah u u u'):Rw w u' v y:=⟨h.body.a7 a,h.ik.a7 a,Ar h.ej lR a⟩
theorem Rw.set{w u:Y}{v:B2}(h:Rw w u v y)(z:Int):Rw w (Aa u ⟨(w:Nat)+1,0,M⟩ z) v z:=⟨h.body.other sP _,h.ik.set 0 _,h.ej.setCell sP _⟩
def XQ(p:MP)(fi:Int)(xs:List MI)(r:CS)(costs:List Int)(D L:Nat->Nat->Bool)(sl:List ML)(v:Int):Prop:=Rv (nx r.a8) r.a8 D L (IA p fi r.a8) (JJ xs r.a8) (sl.map hN) (jf (List.range r.a8)) (cf (r.a8.map (Cz xs costs))) v
def ME{zs:List LV}(a:List {x:LV//x∈zs})(sl:List ML):Prop:=∀(k:Nat) (x:{x:LV//x∈zs}),a[k]?=K x->∃l:ML,sl[k]?=K l/\l.head=x.1.h
theorem ME.init{zs:List LV}{a:List {x:LV//x∈zs}}{x:{x:LV//x∈zs}}{sl:List ML}(h:ME (a++[x]) sl):ME a sl/\∃l:ML,sl[a.length]?=K l/\l.head=x.1.h:=by refine⟨λk y b=>h k y ?_,h a x sP⟩;rw[mP (i8.1 b).1];exact b
structure Xr(w0:Y)(v:B2)(p:MP)(fi:Int)(xs:List MI)(r:CS)(costs:List Int)(D L:Nat->Nat->Bool)(gC cC gS cS:Nat)(zs:List LV)(pre:List {x:LV//x∈zs})(W:Y):Prop where
 ex:∃(I:List Nat) (C:List Int),CD W w0 w0 v r.a8 gC cC gS cS I C/\∀sl:List ML,sl.Perm r.gX->sl.Pairwise IY->ME pre sl->IF p fi costs xs r D L sl pre false I C
 tb:AA W ((w0:Nat)+1) #[.pointer w0] 198
 ej:Ah w0 w0 W
structure Zm(w:Y)(v:B2)(p:MP)(fi:Int)(xs:List MI)(r:CS)(costs:List Int)(D L:Nat->Nat->Bool)(zs:List LV)(c:Code)(pre:List {x:LV//x∈zs})(W:Y):Prop where
 ret:c=.ret
 fr:Rw w W v (-1)
 bad:∀sl:List ML,sl.Perm r.gX->sl.Pairwise IY->ME pre sl->XQ p fi xs r costs D L sl (-1)
section
variable {w w0:Y} {v:B2} {p:MP} {fi:Int} {xs:List MI} {r:CS} {costs:List Int} {D L:Nat->Nat->Bool} {gC cC gS cS:Nat} {zs:List LV}
theorem Xr.own{B:Nat}(i: ↑w0<=B):OwnFrom B (Xr w0 v p fi xs r costs D L gC cC gS cS zs):= λm W l row j a c=>by
 obtain⟨⟨I,C,f,g⟩,h,b⟩:=j;have d:∀r,row=K r->∃o:Obj,W.heap[r]?=K o/\o.isCells=false:= λr e=>(c r e).2
 exact⟨⟨I,C,f.held a d,g⟩,h.held a d,b.grown a b.size (λk e=>lQ i (c k e).1)⟩
theorem Zm.own{B:Nat}(l: ↑w<=B)(c:Code):OwnFrom B (Zm w v p fi xs r costs D L zs c):= λq W n row m a d=>by
 obtain⟨g,⟨h,i,b⟩,j⟩:=m;have f:∀r,row=K r->∃o:Obj,W.heap[r]?=K o/\o.isCells=false:= λr e=>(d r e).2
 exact⟨g,⟨h.held a f,i.held a f,b.grown a b.size (λk e=>lQ l (d k e).1)⟩,j⟩
theorem Xr.a7{c:List {x:LV//x∈zs}}{W b:Y}(h:Xr w0 v p fi xs r costs D L gC cC gS cS zs c W)(a:Ah W W b):Xr w0 v p fi xs r costs D L gC cC gS cS zs c b:=by obtain⟨⟨I,C,d,e⟩,f,g⟩:=h;exact⟨⟨I,C,d.a7 a,e⟩,f.a7 a,Ar g lR a⟩
end
theorem Xe{zs:List LV}{g:Operand}{assign body:Code}{Q:Exit->Act->Y->Prop}{w:Y}{gf:Nat}{lb:Array J}(gC gS:Nat)(k:a.eval g=.func (.func gf) #[] lb)(s:∀args w,(callFunc gf args).run Ap w=.ok (.enter gf args) w)
 {S n:List {x:LV//x∈zs}->Prop} {N:Nat} (O:SeqStopsK Fence.wide 4 Ap gf lb (λx:{x:LV//x∈zs}=>#[.agg x.1.i6]) (JT gC gS) S n N w)
 (I:List {x:LV//x∈zs}->Y->Prop) (h:Code->List {x:LV//x∈zs}->Y->Prop) (A:OwnFrom w I) (B:∀c,OwnFrom w (h c)) (u:I [] w)
 (E:∀(l:Nat) (b:List {x:LV//x∈zs}) (x:{x:LV//x∈zs}) (W:Y) (i:Act->Y->Prop),I b W->(∀d,KeepsFrom w W d->JT gC gS W d->I b d->∀Bx,AA d Bx x.1.i6 92->i {tmps:=(a.tmps.setIfInBounds 67 (.agg x.1.i6)).setIfInBounds 12 (.pointer Bx),defers:=[]} d)->
  assign.wpIn (Fence.wide.inRound l) 3 Ap (Exit.then i (λ_ _ _=>False)) {tmps:=a.tmps.setIfInBounds 67 (.agg x.1.i6),defers:=[]} W)
 (F:∀(l:Nat) (b:List {x:LV//x∈zs}) (x:{x:LV//x∈zs}) (Bx:Nat) (W:Y),AA W Bx x.1.i6 92->I b W->body.wpIn (Fence.wide.inRound l) 3 Ap (ownPostG w (JT gC gS) I h (b++[x]) W) {tmps:=(a.tmps.setIfInBounds 67 (.agg x.1.i6)).setIfInBounds 12 (.pointer Bx),defers:=[]} W)
 (G:∀(D:Nat) (xs:List {x:LV//x∈zs}) (W:Y), ↑w<=D->S xs->I xs W->W.heap[D]?=K (.deferred (K []))->Q .normal {a with defers:={target:=.collected D,args:=#[]}::a.defers} W)
 (P:∀(D:Nat) (c:Code) (b:List {x:LV//x∈zs}) (W:Y), ↑w<=D->n b->h c b W->W.heap[D]?=K (.deferred (K []))->c.wpIn Fence.wide 5 Ap Q {a with defers:={target:=.collected D,args:=#[]}::a.defers} W):
 (Code.rangeFunc g #[67] assign body).wpIn Fence.wide 5 Ap Q a w:=by
 refine wpIn_rangeFunc_ownH rfl oM k trivial s O JT.trans JT.put (lu _ _) (λ_=>rfl) I h A B u
  (λx a' W=>∃Bx,AA W Bx x.1.i6 92/\a'={tmps:=(a.tmps.setIfInBounds 67 (.agg x.1.i6)).setIfInBounds 12 (.pointer Bx),defers:=[]})
  (λx a' _ X T row L k H=>by obtain⟨Bx,f,j⟩:=L;exact⟨Bx,f.held k (λr e=>(H r e).2),j⟩) ?_ ?_ G P
 . intro l b x W i m C;(have q:=E l b x W i m λd f j y Bx z=>C _ _ f j y ⟨Bx,z,rfl⟩);have e:((#[67]:Array Tmp).zip #[Value.agg x.1.i6]).foldl (λ(t:Array J) (R:Tmp×J)=>match R with|(p,v)=>t.setIfInBounds p v) a.tmps=a.tmps.setIfInBounds 67 (.agg x.1.i6):=sP;rw[<-e]at q;exact q
 rintro l b x a' W _ _ m ⟨Bx,f,rfl⟩ _;exact F l b x Bx W f m
end
theorem OT(g:VF)(f:MF)(w:Y)(q:DF w g f):
 Ai Ap 73 #[Am #[g.p,f.gV,g.l,g.c]] w (Do w (Ba f)):=by
 obtain⟨a,b,d,e,i,j,rfl⟩:=Ec q;by_cases h:f.gV=0
 . (have n:(f.gV==0)=true:=by simpa using h);have m:Ae (Ba f=[]):=lZ h;clear h;go_enter func73,ntmps73;go_wp2_with fail;rw[m];have k:=Fk (Aq w (Ak #[Z a f.gU b,f.gV,Z d f.gW e,Z i f.bO j] 76)) [] 0 0 rfl;rw[show(Ac w (Ak #[Z a f.gU b,f.gV,Z d f.gW e,Z i f.bO j] 76)).heap.size= ↑w+1 from sP]at k
   exact lO (v:=Z (K ⟨(w:Nat)+1,0,M⟩) 0 0) (by simp[results,results73,go_sem]) rfl k
 have n:(f.gV==0)=false:=by simpa using h
 have m:Ae (Ba f=[f.gV]):=lS h;clear h;go_enter func73,ntmps73;go_wp2_with fail;rw[m];have k:=Fk (Aq w (Ak #[Z a f.gU b,f.gV,Z d f.gW e,Z i f.bO j] 76)) [f.gV] 1 1 rfl;rw[show(Ac w (Ak #[Z a f.gU b,f.gV,Z d f.gW e,Z i f.bO j] 76)).heap.size= ↑w+1 from sP]at k
 exact lO (v:=Z (K ⟨(w:Nat)+1,0,M⟩) 1 1) (by simp[results,results73,go_sem]) rfl k
def Ch(u:Y)(B:Nat)(V:J)(sh:List Int):Prop:=Ab u B 2 1 V sh (Ad As sh)
theorem Ch.a7{u a:Y}{B:Nat}{V:J}(h:Ch u B V sh)(b:Ah u u a):Ch a B V sh:=Aw h b lR
theorem Ch.set{u:Y}{B:Nat}{V:J}(h:Ch u B V sh){a:Addr}(b:a.block<B)(x:J):Ch (u.setCell a x) B V sh:=lV h b x
theorem Ch.nil(u:Y)(B:Nat):Ch u B sN []:=mI _ _ _ _
structure TyB(FB OB GS GC GF B:Nat):Prop where
 h3:FB<GS
 h4:GS<OB
 h5:OB<GC
 h6:GC<GF
 h7:GF<B
structure Il(U u:Y)(n:Nat)(OB GS GC GF B:Nat)(r:CS)(z1 z2 z3 z4:J)(RS RF:List J)(s:WS):Prop where
 lb:AA u U #[r.bO,r.at_,z1,z2,z3,z4] 84
 ob:AA u OB #[iZ 0,iZ 0,s.d,sG GS n n] 87
 sa:Ab u U 29 1 (sG GS n n) n RS
 ca:Ab u U 4 1 (sG GC r.a8 r.a8) r.a8 ((List.range r.a8).map λb=>Value.bool (s.c b).isSome)
 fa:Ab u U 29 1 (sG GF r.a8 r.a8) r.a8 RF
 sl: ↑RS=n
 fl:RF.length= ↑r.a8
 rs:∀(j:Nat) (V:J),RS[j]?=K V->Ch u B V (s.t j)
 ki:∀(b:Nat) (V:J),RF[b]?=K V->Ch u B V ((s.c b).getD [])
 ej:Ah U U u
 tb:TyB U OB GS GC GF B
 sz:B<= ↑u
theorem Il.a7{U u k:Y}{n:Nat}{f d c GF B:Nat}{r:CS}{l m z3 p:J}{i g:List J}{s:WS}(h:Il U u n f d c GF B r l m z3 p i g s)(a:Ah u u k):Il U k n f d c GF B r l m z3 p i g s:=⟨h.lb.a7 a,h.ob.a7 a,Aw h.sa a lR,Aw h.ca a lR,Aw h.fa a lR,h.sl,h.fl, λj V e=>(h.rs j V e).a7 a, λb V e=>(h.ki b V e).a7 a,Ar h.ej lR a,h.tb,lQ h.sz a.size⟩
theorem FH(u:Y)(a:Addr)(x:J):(u.setCell a x).heap.size=u.heap.size:=sP
theorem Il.iO{U u:Y}{n:Nat}{l a k GF B:Nat}{r:CS}{p q z3 v:J}{f m:List J}{s:WS}(h:Il U u n l a k GF B r p q z3 v f m s){j:Nat}{V:J}(w:Ch u B V sh):Il U (Aa u ⟨a,j,M⟩ V) n l a k GF B r p q z3 v (f.set j V) m ⟨s.c,CR s.t j sh,s.d⟩:=by
 have y:=h.tb.h3;have z:=h.tb.h4;have A:=h.tb.h5;have C:=h.tb.h6;have D:=h.tb.h7;refine⟨h.lb.other oS V,h.ob.other oS V,(h.sa.stored j V).1,lI h.ca (by simp[Value.ownBlock];omega) V,lI h.fa (by simp[Value.ownBlock];omega) V,by rw[mZ];exact h.sl,h.fl, λi W e=> ?_, λb W e=>(h.ki b W e).set oS V,h.ej.setCell oS V,h.tb,by rw[FH];exact h.sz⟩;simp only[CR];by_cases g:i=j
 . subst g;(have x:i<f.length:=by have:=(i8.1 e).1;rw[mZ]at this;exact this);rw[mi x]at e;(cases e);rw[lZ rfl];exact w.set oS V
 rw[mu (λe=>g e.symm)]at e;rw[lS g];exact(h.rs i W e).set oS V
theorem Il.jl{U u:Y}{n:Nat}{a g f GF B:Nat}{r:CS}{m p z3 q:J}{k j:List J}{s:WS}(h:Il U u n a g f GF B r m p z3 q k j s)(d:Nat):Il U (Aa u ⟨a,2,M⟩ d) n a g f GF B r m p z3 q k j ⟨s.c,s.t,d⟩:=by have v:=h.tb.h3;have w:=h.tb.h4;have x:=h.tb.h5;have y:=h.tb.h6;have z:=h.tb.h7;have l:=h.ob.set 2 d;simp only[lM,lU,lX]at l;exact⟨h.lb.other oS _,l,lI h.sa (by simp[Value.ownBlock];omega) _,lI h.ca (by simp[Value.ownBlock];omega) _,lI h.fa (by simp[Value.ownBlock];omega) _,h.sl,h.fl, λi W e=>(h.rs i W e).set oS _, λb W e=>(h.ki b W e).set oS _,h.ej.setCell oS _,h.tb,by rw[FH];exact h.sz⟩
theorem Il.iI{U u:Y}{n:Nat}{m l j GF B:Nat}{r:CS}{q v z3 w:J}{p k:List J}{s:WS}(h:Il U u n m l j GF B r q v z3 w p k s){t:Nat}{V:J}(x:Ch u B V sh):Il U (Aa (Aa u ⟨j,t,M⟩ true) ⟨GF,t,M⟩ V) n m l j GF B r q v z3 w p (k.set t V) ⟨Gy s.c t sh,s.t,s.d⟩:=by
 have z:=h.tb.h3;have A:=h.tb.h4;have C:=h.tb.h5;have D:=h.tb.h6;have E:=h.tb.h7;have c1:=(h.ca.stored t true).1;have f1:=lI h.fa (a:=⟨j,t,M⟩) (by simp[Value.ownBlock];omega) true;have y:=lI h.sa (a:=⟨j,t,M⟩) (by simp[Value.ownBlock];omega) true;refine⟨(h.lb.other oS _).other oS _,(h.ob.other oS _).other oS _,lI y (by simp[Value.ownBlock];omega) _,?_,(f1.stored t V).1,h.sl,by rw[mZ];exact h.fl, λi W e=>((h.rs i W e).set oS _).set oS _, λb W e=> ?_,(h.ej.setCell oS _).setCell oS _,h.tb,by rw[FH,FH];exact h.sz⟩
 . have c2:=lI c1 (a:=⟨GF,t,M⟩) (by simp[Value.ownBlock];omega) V;have e:(((List.range r.a8).map λb=>Value.bool (s.c b).isSome).set t true)=(List.range r.a8).map λb=>Value.bool (Gy s.c t sh b).isSome:=by
    apply nB;intro i;by_cases f:i=t
    . subst f;by_cases g:i< ↑r.a8
      . rw[mi (by simpa using g)];simp[Gy,g]
      rw[lW oT,lW oT]
    rw[mu (λe=>f e.symm)];simp only[mE];by_cases g:i< ↑r.a8
    . simp[Gy,g,f]
    simp[g]
   rw[<-e];exact c2
 simp only[Gy];by_cases f:b=t
 . subst f;(have g:b<k.length:=by have:=(i8.1 e).1;rw[mZ]at this;exact this);rw[mi g]at e;(cases e);rw[lZ rfl];exact(x.set oS _).set oS _
 rw[mu (λe=>f e.symm)]at e;rw[lS f];exact((h.ki b W e).set oS _).set oS _
theorem UT(ty:Aj)(u:Y)(B k:Nat)(V:J)(sh:List Int)(h:Ch u B V sh)(l:k<= ↑u)(D:sh.length<=1048576):∃v' b,(Builtin.append_ #[29,29] ty #[sG u 0 0,V]).run Ap (Ac u (Ak #[] 2))=.ok v' b/\Ch b k v' sh/\Ah u u b:=by
 obtain⟨p,m,y,z,A⟩:=mN Br;have f:Ab (Ac u (Ak #[] 2)) u 2 1 (sG u 0 0) 0 []:=⟨rfl,.inr ⟨u,0,#[],rfl,Nat.le_refl _,oz _ _,Nat.le_refl _,nZ _,rfl,sP⟩⟩;obtain⟨a,c,rfl⟩:=AF h;have n:=(Rd.ij h);cases a with
 | none=>
   have x:sh.length=0:=by
    rcases n.2 with⟨i,_⟩|⟨g,o,c,d,_⟩
    . exact i
    cases d
   have q:sh=[]:=mL x;subst q;refine⟨_,_,D3 (P:=Ap) u 29 ty 2 p 1 underlying29 m _ _ _ f c,?_,Aq _ _⟩;exact A9 f l
 | some ad=>
   have hN:∀j v,(Ad As sh)[j]?=K v->(Ac u (Ak #[] 2)) (ad.add j)=K v:= λj v e=>by
    rcases n.2 with⟨i,_⟩|⟨g,o,c,d,t⟩
    . have:sh=[]:=mL i;subst this;simp at e
    simp only[lB,lH]at d;obtain⟨rfl,_⟩:=d;have:=t j v e;rw[CQ,(Aq u (Ak #[] 2)).cell (g8 this)];exact this
   obtain⟨v',b,w,r,s,C⟩:=run_append_own (P:=Ap) (Ac u (Ak #[] 2)) u 29 ty 2 p (iZ 0) 1 8 underlying29 m y z A rfl dC _ 0 [] f ad sh c (Ad As sh) (by rw[AE As 1 Ay]) hN (De _) oX oM (Aq _ _).size;refine⟨v',b,w,A9 (by simpa using r) l,(Aq u (Ak #[] 2)).grown s (Aq _ _).size (λj e=>(f.lt j e).1)⟩
theorem Tq{d:Act->Y->Prop}(s x:Operand)(k:o.op=.call {callee:=.builtin .append,args:=#[s,x],argTypes:=#[29,29]})(u:Y)(B c:Nat)(V:J)(sh:List Int)(m:a.eval s=sG u 0 0)(n:a.eval x=V)(h:Ch u B V sh)(g:c<= ↑u)(j:sh.length<=1048576)(i:∀v' b,Ch b c v' sh->Ah u u b->d (a.put o.dst v') b):o.wp Ap a (Ac u (Ak #[] 2)) d Q:=by obtain⟨v',b,l,e,f⟩:=UT o.type u B c V sh h g j;exact Lib.wp_append_run _ s x 29 29 k _ _ m n v' b l (i v' b e f)
theorem Q7{d:Array Oper}{rest:List Oper}(k:o.guard=M)(s x:Operand)(m:o.op=.call {callee:=.builtin .append,args:=#[s,x],argTypes:=#[29,29]})(u:Y)(B c:Nat)(V:J)(sh:List Int)(n:a.eval s=sG u 0 0)(p:a.eval x=V)(h:Ch u B V sh)(g:c<= ↑u)(l:sh.length<=1048576)(i:∀v' b,Ch b c v' sh->Ah u u b->wpList Ap d Q rest (a.put o.dst v') b):wpList Ap d Q (o::rest) a (Ac u (Ak #[] 2)):=wpList_plain k λ_ j=>Tq s x m u B c V sh n p h g l λv' b e f=>j _ _ (i v' b e f)
theorem Ur{e:Array Oper}{d:Act->Y->Prop}{E:Prop}(i:o.guard=M)(s x:Operand)(k:o.op=.call {callee:=.builtin .append,args:=#[s,x],argTypes:=#[29,29]})(u:Y)(B b:Nat)(V:J)(sh:List Int)(l:a.eval s=sG u 0 0)(m:a.eval x=V)(h:Ch u B V sh)(f:b<= ↑u)(j:sh.length<=1048576)(g:∀v' c,Ch c b v' sh->Ah u u c->d (a.put o.dst v') c):if Region.wanted o (yielded e a.tmps)=true then Oper.wp Ap o a (Ac u (Ak #[] 2)) d Q else E:=by
 have hw:Region.wanted o (yielded e a.tmps)=true:=by simp[Region.wanted,i]
 rw[lZ hw];exact Tq s x k u B b V sh l m h f j g
theorem Oy{u:Y}{a:Option Addr}{n c:Nat}{l:List MB}(h:I4 u (Z a n c) l){k:Nat}{m:MB}(j:l[k]?=K m):∃g o b d,a=K ⟨g,o,M⟩/\u ⟨g,o+k*3,M⟩=K ↑m.gZ/\u ⟨g,o+k*3+1,M⟩=K ↑m.last/\u ⟨g,o+k*3+2,M⟩=K (Z b m.next d)/\Ux u (Z b m.next d) m:=by
 obtain⟨xs,v,w,y⟩:=h;have C:=(i8.1 j).1;obtain⟨⟨D,E⟩,f,q⟩:∃x,xs[k]?=K x/\x.1=m:=by rw[<-v,mE]at j;exact m6.1 j
 simp only[]at q;subst q;have p:=y _ (lA f);obtain⟨b,d,s⟩:=Rd.bW p;simp only[]at s;subst s;rcases w.2 with⟨e,_⟩|⟨t,B,cc,e,i⟩
 . omega
 simp only[lB]at e;have r:=Rd.elem A4 i k _ f 0 _ rfl;have z:=Rd.elem A4 i k _ f 1 _ rfl;have A:=Rd.elem A4 i k _ f 2 _ rfl;rw[lJ]at r;exact⟨t,B,b,d,e.1,r,z,A,p⟩
structure Zr(w u:World)(v:VP)(g:VF)(f:MF)(Y:Nat)(shv:J)(shs:List (List Int)):Prop where
 pb:AA u w #[v.r,v.k,v.f,v.t] 37
 fb:AA u Y #[g.p,f.gV,g.l,g.c] 76
 rf:DF u g f
 rs:Jp u shv shs
 ej:Ah w w u
theorem Zr.a7{w u e:Y}{v:VP}{d:J}(h:Zr w u v g f b d c)(a:Ah u u e):Zr w e v g f b d c:=⟨h.pb.a7 a,h.fb.a7 a,h.rf.a7 a lR,h.rs.a7 a lR,Ar h.ej lR a⟩
structure YR(w u:World)(v:VP)(g:VF)(f:MF)(Y:Nat)(shv:J)(shs:List (List Int))(X:Nat)(x:MI)(ad:Addr)(row:J)(sh:List Int):Prop where
 sp:Zr w u v g f Y shv shs
 xb:AA u X #[x.op,x.a,x.b,x.c] 79
 at_:u ad=K row
 rd:Rd u 1 row sh (Ad As sh)
theorem YR.a7{w u e:Y}{v:VP}{d:J}{row:J}(h:YR w u v g f b d c X x ad row sh)(a:Ah u u e):YR w e v g f b d c X x ad row sh:=⟨h.sp.a7 a,h.xb.a7 a,Bi a h.at_,h.rd.a7 a lR⟩
theorem YR.args{w u:Y}{l k j m i g e:J}{p:J}{n:List (List Int)}{row:J}(h:YR w u ⟨l,k,j,m⟩ ⟨i,g,e⟩ f d p n X x ad row sh):u ad=K row/\u d=K i/\u ⟨d,1,M⟩=K ↑f.gV/\u ⟨d,2,M⟩=K g/\u ⟨d,3,M⟩=K e/\u w=K l/\u ⟨w,1,M⟩=K k/\u ⟨w,2,M⟩=K j/\u ⟨w,3,M⟩=K m/\u X=K ↑x.op/\u ⟨X,1,M⟩=K ↑x.a/\u ⟨X,2,M⟩=K ↑x.b/\u ⟨X,3,M⟩=K ↑x.c:=⟨h.at_,h.sp.fb.cell 0,h.sp.fb.cell 1,h.sp.fb.cell 2,h.sp.fb.cell 3,h.sp.pb.cell 0,h.sp.pb.cell 1,h.sp.pb.cell 2,h.sp.pb.cell 3,h.xb.cell 0,h.xb.cell 1,h.xb.cell 2,h.xb.cell 3⟩
end Go.Proofs.YtadcneiiokbofaaGreat
