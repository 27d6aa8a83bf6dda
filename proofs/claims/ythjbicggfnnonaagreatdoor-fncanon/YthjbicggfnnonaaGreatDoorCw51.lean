import Derived.Test.YthjbicggfnnonaaGreatDoorCw47
import Derived.Test.YthjbicggfnnonaaGreatDoorCw48
import Derived.Deep.RegionHeldLaw
import Derived.Test.YthjbicggfnnonaaGreatDoorCw49
import Derived.Test.YthjbicggfnnonaaGreatDoorCw37
namespace Go.Proofs.YthjbicggfnnonaaGreatDoor
open Go.ChangeShapes Go.WideShapes Go.ChangeAt Go.RowKit
set_option linter.unusedVariables false
set_option maxHeartbeats 8000000
set_option maxRecDepth 100000
variable {g:List Value}{f:MF}{x:MI}{ts sh a:List Int}{b i low k B GS GF j:Nat}{z:Int}{t:TypeId}{p V l m q:Value}{r:JO}{s:WS}{o:Oper}{K:Act->World->Prop}{Q:Exit->Act->World->Prop}
theorem SC(v:VP)(p:MP)(g:VF)(f:MF)(x:MI)(w:World)(m:p.small)(D:p.aB.length=3)(K:f.small)(N:x.wf)(h:Ft w v p)(J:IG w g f)(F:A8 p f x):
 Calls Tryz.prog 166 #[.agg #[v.r,v.k,v.f,v.t],.agg #[g.p,.int .i64 f.result,g.l,g.c],.agg #[.int .i64 x.op,.int .i64 x.a,.int .i64 x.b,.int .i64 x.c]] w (DY w (AC p f x) (AE p f x)):=by
 obtain⟨op,a,b,c⟩:=x;have M:=F.1;have L:=F.2.1;simp only[]at M L;have y:Hid (A8 p f ⟨op,a,b,c⟩):=F;have I:Cr a:=N.2.1;have R:op=0\/op=1\/op=2\/op=3\/op=4\/op=5\/op=6\/op=7\/op=8\/op=9\/op=10\/op=11\/op=12\/op=13\/op=14\/op=15\/op=16\/op=17\/op=18\/op=19\/op=20\/op=21\/op=22\/op=23\/op=24\/op=25\/op=26\/op=27\/op=28\/op=29:=oM
 clear M L F N;rcases R with rfl|rfl|rfl|rfl|rfl|rfl|rfl|rfl|rfl|rfl|rfl|rfl|rfl|rfl|rfl|rfl|rfl|rfl|rfl|rfl|rfl|rfl|rfl|rfl|rfl|rfl|rfl|rfl|rfl|rfl
 . rw[show AC p f ⟨0,a,b,c⟩=[]from by simp[AC],show AE p f ⟨0,a,b,c⟩=[]from by simp[AE]];exact CE v.r v.k v.f v.t g.p g.l g.c f _ 0 a b c _ _ w sP
 . obtain⟨q,z,d,e⟩:=y.o.const rfl;simp only[]at d;subst d;obtain⟨P,Q,H⟩:=h.ag.bW;rw[show AC p f ⟨1,q,b,c⟩=[]from by simp[AC],show AE p f ⟨1,q,b,c⟩=[z.type]from by simp[AE,Wt,e],H];exact UG v.r v.f v.t g.p g.l g.c f p.ag P Q q z b c w m.ag (H▸h.ag) e
 . rw[show AC p f ⟨2,a,b,c⟩=[]from by simp[AC],show AE p f ⟨2,a,b,c⟩=[AR f a]from by simp[AE]];exact UH v.r v.k v.f v.t g f a b c w K I J
 . rw[show AC p f ⟨3,a,b,c⟩=[AR f a]from by simp[AC],show AE p f ⟨3,a,b,c⟩=[]from by simp[AE]];exact UI v.r v.k v.f v.t g f a b c w K I J
 . obtain⟨q,z,r,d,e,j,u⟩:=y.o.cell D sP;simp only[]at d e;subst d e;obtain⟨xs,A,n,B⟩:=h.aB;obtain⟨s,cr,i⟩:=n.bW;rw[show AC p f ⟨4,q,z,c⟩=[]from by simp[AC],show AE p f ⟨4,q,z,c⟩=[FW p ⟨4,q,z,c⟩]from by simp[AE],i];exact UJ v.k v.f v.t g.p g.l g.c f p.aB s cr q z r _ c w m.aB (m.region r (d9 j)) (i▸h.aB) j u
 . obtain⟨q,z,r,d,e,j,u⟩:=y.o.cell D sP;simp only[]at d e;subst d e;obtain⟨xs,A,n,B⟩:=h.aB;obtain⟨s,cr,i⟩:=n.bW;rw[show AC p f ⟨5,q,z,c⟩=[FW p ⟨5,q,z,c⟩]from by simp[AC],show AE p f ⟨5,q,z,c⟩=[]from by simp[AE],i];exact UK v.k v.f v.t g.p g.l g.c f p.aB s cr q z r _ c w m.aB (m.region r (d9 j)) (i▸h.aB) j u
 . obtain⟨q,z,r,d,e,j,u⟩:=y.o.cell D sP;simp only[]at d e;subst d e;obtain⟨xs,A,n,B⟩:=h.aB;obtain⟨s,cr,i⟩:=n.bW;rw[show AC p f ⟨6,q,z,c⟩=[3]from by simp[AC],show AE p f ⟨6,q,z,c⟩=[FW p ⟨6,q,z,c⟩]from by simp[AE],i];exact UL v.k v.f v.t g.p g.l g.c f p.aB s cr q z r _ c w m.aB (m.region r (d9 j)) (i▸h.aB) j u
 . obtain⟨q,z,r,d,e,j,u⟩:=y.o.cell D sP;simp only[]at d e;subst d e;obtain⟨xs,A,n,B⟩:=h.aB;obtain⟨s,cr,i⟩:=n.bW;rw[show AC p f ⟨7,q,z,c⟩=[3,FW p ⟨7,q,z,c⟩]from by simp[AC],show AE p f ⟨7,q,z,c⟩=[]from by simp[AE],i];exact UM v.k v.f v.t g.p g.l g.c f p.aB s cr q z r _ c w m.aB (m.region r (d9 j)) (i▸h.aB) j u
 . rw[show AC p f ⟨8,a,b,c⟩=[a,a]from by simp[AC],show AE p f ⟨8,a,b,c⟩=[a]from by simp[AE]];exact CE v.r v.k v.f v.t g.p g.l g.c f _ 5 a b c _ _ w sP
 . rw[show AC p f ⟨9,a,b,c⟩=[a,a]from by simp[AC],show AE p f ⟨9,a,b,c⟩=[a]from by simp[AE]];exact CE v.r v.k v.f v.t g.p g.l g.c f _ 5 a b c _ _ w sP
 . rw[show AC p f ⟨10,a,b,c⟩=[a,a]from by simp[AC],show AE p f ⟨10,a,b,c⟩=[a]from by simp[AE]];exact CE v.r v.k v.f v.t g.p g.l g.c f _ 5 a b c _ _ w sP
 . rw[show AC p f ⟨11,a,b,c⟩=[a,a]from by simp[AC],show AE p f ⟨11,a,b,c⟩=[a]from by simp[AE]];exact CE v.r v.k v.f v.t g.p g.l g.c f _ 5 a b c _ _ w sP
 . rw[show AC p f ⟨12,a,b,c⟩=[a,a]from by simp[AC],show AE p f ⟨12,a,b,c⟩=[a]from by simp[AE]];exact CE v.r v.k v.f v.t g.p g.l g.c f _ 5 a b c _ _ w sP
 . rw[show AC p f ⟨13,a,b,c⟩=[a,a]from by simp[AC],show AE p f ⟨13,a,b,c⟩=[a]from by simp[AE]];exact CE v.r v.k v.f v.t g.p g.l g.c f _ 6 a b c _ _ w sP
 . rw[show AC p f ⟨14,a,b,c⟩=[a,a]from by simp[AC],show AE p f ⟨14,a,b,c⟩=[a]from by simp[AE]];exact CE v.r v.k v.f v.t g.p g.l g.c f _ 6 a b c _ _ w sP
 . rw[show AC p f ⟨15,a,b,c⟩=[a,a]from by simp[AC],show AE p f ⟨15,a,b,c⟩=[a]from by simp[AE]];exact CE v.r v.k v.f v.t g.p g.l g.c f _ 6 a b c _ _ w sP
 . rw[show AC p f ⟨16,a,b,c⟩=[a]from by simp[AC],show AE p f ⟨16,a,b,c⟩=[a]from by simp[AE]];exact CE v.r v.k v.f v.t g.p g.l g.c f _ 6 a b c _ _ w sP
 . rw[show AC p f ⟨17,a,b,c⟩=[3,3]from by simp[AC],show AE p f ⟨17,a,b,c⟩=[3]from by simp[AE]];exact CE v.r v.k v.f v.t g.p g.l g.c f _ 0 a b c _ _ w sP
 . rw[show AC p f ⟨18,a,b,c⟩=[3,3]from by simp[AC],show AE p f ⟨18,a,b,c⟩=[3]from by simp[AE]];exact CE v.r v.k v.f v.t g.p g.l g.c f _ 0 a b c _ _ w sP
 . rw[show AC p f ⟨19,a,b,c⟩=[2]from by simp[AC],show AE p f ⟨19,a,b,c⟩=[2]from by simp[AE]];exact CE v.r v.k v.f v.t g.p g.l g.c f _ 0 a b c _ _ w sP
 . rw[show AC p f ⟨20,a,b,c⟩=[a,a]from by simp[AC],show AE p f ⟨20,a,b,c⟩=[1]from by simp[AE]];exact CE v.r v.k v.f v.t g.p g.l g.c f _ 7 a b c _ _ w sP
 . rw[show AC p f ⟨21,a,b,c⟩=[a,a]from by simp[AC],show AE p f ⟨21,a,b,c⟩=[1]from by simp[AE]];exact CE v.r v.k v.f v.t g.p g.l g.c f _ 5 a b c _ _ w sP
 . rw[show AC p f ⟨22,a,b,c⟩=[a]from by simp[AC],show AE p f ⟨22,a,b,c⟩=[b]from by simp[AE]];exact CE v.r v.k v.f v.t g.p g.l g.c f _ 8 a b c _ _ w sP
 . rw[show AC p f ⟨23,a,b,c⟩=[0]from by simp[AC],show AE p f ⟨23,a,b,c⟩=[0,0]from by simp[AE]];exact CE v.r v.k v.f v.t g.p g.l g.c f _ 0 a b c _ _ w sP
 . rw[show AC p f ⟨24,a,b,c⟩=[0]from by simp[AC],show AE p f ⟨24,a,b,c⟩=[]from by simp[AE]];exact CE v.r v.k v.f v.t g.p g.l g.c f _ 0 a b c _ _ w sP
 . rw[show AC p f ⟨25,a,b,c⟩=[]from by simp[AC],show AE p f ⟨25,a,b,c⟩=[]from by simp[AE]];exact CE v.r v.k v.f v.t g.p g.l g.c f _ 9 a b c _ _ w sP
 . rw[show AC p f ⟨26,a,b,c⟩=[1]from by simp[AC],show AE p f ⟨26,a,b,c⟩=[]from by simp[AE]];exact CE v.r v.k v.f v.t g.p g.l g.c f _ 9 a b c _ _ w sP
 . rw[show AC p f ⟨27,a,b,c⟩=[]from by simp[AC],show AE p f ⟨27,a,b,c⟩=[]from by simp[AE]];exact CE v.r v.k v.f v.t g.p g.l g.c f _ 10 a b c _ _ w sP
 . obtain⟨q,C,d,E⟩:=y.o.callee rfl;simp only[]at d;subst d;obtain⟨xs,A,n,B⟩:=h.funcs;obtain⟨O,cf,G⟩:=n.bW;rw[show AC p f ⟨28,q,b,c⟩=C.params from by simp[AC,E],show AE p f ⟨28,q,b,c⟩=Cm C from by simp[AE,E],G];exact TN v.r v.k v.t g.p g.l g.c f p.funcs O cf q C b c w m.funcs (m.func C (d9 E)) (G▸h.funcs) E
 rw[show AC p f ⟨29,a,b,c⟩=[]from by simp[AC],show AE p f ⟨29,a,b,c⟩=[]from by simp[AE]];exact CE v.r v.k v.f v.t g.p g.l g.c f _ 0 a b c _ _ w sP
structure L6(w u:World)(v:VP)(g:VF)(f:MF)(x:MI)(N:Nat)(T S:Value)(ts gs:List Int)(shv:Value)(sh:List Int):Prop where
 fu:Rm w u v g f x.op x.a x.b x.c
 eb:Aw u N #[T,S] 248
 tr:Rd u 1 T ts.length (ts.flatMap Ad)
 gr:Rd u 1 S gs.length (gs.flatMap Ad)
 sr:Rd u 1 shv sh.length (sh.flatMap Ad)
theorem L6.aa{w u d:World}{v:VP}{g:VF}{N:Nat}{T S:Value}{b:List Int}{c:Value}(h:L6 w u v g f x N T S ts b c sh)(a:Below u.heap.size u d):L6 w d v g f x N T S ts b c sh:=⟨h.fu.aa a,h.eb.aa a,h.tr.aa a lR,h.gr.aa a lR,h.sr.aa a lR⟩
theorem M0{u:World}{a:Option Addr}{n c:Nat}{f:List Int}(h:Rd u 1 (.slice a n c) f.length (f.flatMap Ad))(p:n=f.length)(g:f[i]?=some z):∃b d,a=some ⟨b,d,none⟩/\u.cell? ⟨b,d+i,none⟩=some (iZ z):=by
 have m:=(d7.1 g).1;rcases h.2 with⟨e,_⟩|⟨b,d,l,e,k⟩
 . omega
 simp only[ip]at e;have j:=Rd.elem Ar k i _ g 0 _ rfl;rw[kn,kD]at j;exact⟨b,d,e.1,j⟩
def VK(p:MP)(f:MF)(x:MI)(sh:List Int)(w:World)(e:Ending)(a:World):Prop:=∃V,e=.returned (.tuple #[V,iZ (Dj p f x sh)])/\(Dj p f x sh=0->a.ownsRow w.heap.size 2 1 V (IU p f x sh).length ((IU p f x sh).flatMap Ad))/\Below w.heap.size w a
theorem L8{n j:Nat}{u:Value}(h:((sh.take n).flatMap Ad)[j]?=some u):(sh.flatMap Ad)[j]?=some u:=by
 have e:sh.flatMap Ad=(sh.take n).flatMap Ad++(sh.drop n).flatMap Ad:=by rw[<-kO,mN]
 rw[e,lK (d7.1 h).1];exact h
def Ws(low:Nat)(sh:List Int)(t:Int):Int:=if t=0 then(sh[low]?).getD 0 else t
def EJ(low:Nat)(sh a:List Int)(k:Nat):List Int:=sh.take low++(a.take k).map (Ws low sh)
theorem Mo{t:Int}(h:a[k]?=some t):EJ low sh a (k+1)=EJ low sh a k++[Ws low sh t]:=by unfold EJ;obtain⟨b,rfl⟩:=d7.1 h;rw[kQ b,lW,kT];rfl
theorem ST{p:MP}(h:SH p f x sh=low)(b:AE p f x=a):EJ low sh a a.length=IU p f x sh:=by unfold EJ IU;rw[h,b,List.take_length];rfl
theorem Ou(c:low<=sh.length)(b:k<=a.length):(EJ low sh a k).length=low+k:=by unfold EJ;rw[f6,lB,kZ,lB];omega
theorem Qk(u:World)(z:Int):∀j v,[(iZ z:Value)][j]?=some v->(u.alloc (.cells #[iZ z] 2)).cell? ((⟨u.heap.size,0,none⟩:Addr).add j)=some v:=fun j v a=>by rw[DF,ki,mJ _ _ _ _ _ _ (Hx u #[iZ z] 2)];simpa using a
theorem TE{p:MP}(e:AC p f x=ts)(h:sh.length<ts.length):Dj p f x sh=1:=by unfold Dj;rw[e,lI h]
theorem VZ{a wr c:World}{b:List Int}{cap f:Nat}{e:Option Addr}{d:Nat}(n:wr.ownsRow a.heap.size 2 1 (.slice e (low+k) f) (low+k) ((EJ low sh b k).flatMap Ad))(h:Below a.heap.size a wr)(g:EJ low sh b (k+1)=EJ low sh b k++[z])(m:c.ownsRow a.heap.size 2 1 (sG d (low+k+1) cap) (low+k+1) ((EJ low sh b k).flatMap Ad++[iZ z]))(i:(wr.alloc (.cells #[iZ z] 2)).grownBy c (Value.slice e (low+k) f).ownBlock):Hid (c.ownsRow a.heap.size 2 1 (sG d (low+(k+1)) cap) (low+(k+1)) ((EJ low sh b (k+1)).flatMap Ad)/\Below a.heap.size a c):=by refine⟨?_,(h.alloc h.size _).grown i (by rw[ln];have:=h.size;omega) (fun j l=>(n.lt j l).1)⟩;rw[g,kO,<-Nat.add_assoc];simpa[Ad]using m
theorem Pn(v:VP)(p:MP)(g:VF)(f:MF)(x:MI)(bw:Value)(sh:List Int)(w:World)(hs:p.small)(h3:p.aB.length=3)(bI:f.small)(bP:x.wf)(h:Ft w v p)(hf:IG w g f)(hx:A8 p f x)(aW:Rd w 1 bw sh.length (sh.flatMap Ad))(hl:sh.length<=1048576)(bF:∀a c,bw=.slice a sh.length c->sh.length<=c)(bQ:∀t∈AE p f x,t=0->0<(AC p f x).length)(bJ:(AE p f x).length<=2):
 Calls Tryz.prog 141 #[.agg #[v.r,v.k,v.f,v.t],.agg #[g.p,iZ f.result,g.l,g.c],.agg #[iZ x.op,iZ x.a,iZ x.b,iZ x.c],bw] w (VK p f x sh w):=by
 obtain⟨r1,r3,V,X,t1,t3,f1,f3,rfl⟩:=h.sl;obtain⟨L,M,O,P,Q,R,rfl⟩:=Hs hf;obtain⟨sa,I,rfl⟩:=aW.bW;obtain⟨i0,hi,bp,bt,bu⟩:=kS Co;have cg:=bF sa I rfl;clear bF;have H:=Ag (f7 hs (f7 h3 (f7 bI (f7 bP (f7 h (f7 hf (f7 hx aW)))))));clear hs h3 bI bP h hf hx aW;have E0:=Ag (Rm.of w ⟨.slice r1 p.aB.length r3,.slice V p.ag.length X,.slice f1 p.funcs.length f3,.slice t1 p.a7.length t3⟩ ⟨.slice L f.params.length M,.slice O f.locals.length P,.slice Q f.code.length R⟩ f x.op x.a x.b x.c);go_enter Tryz.func141,Tryz.ntmps141;go_upto_region 1 with fail
 refine Ao (fun u=>Hid (Rm w u ⟨.slice r1 p.aB.length r3,.slice V p.ag.length X,.slice f1 p.funcs.length f3,.slice t1 p.a7.length t3⟩ ⟨.slice L f.params.length M,.slice O f.locals.length P,.slice Q f.code.length R⟩ f x.op x.a x.b x.c)) E0 ?_;rintro U0 J;clear E0;obtain⟨p0,p1,p2,p3⟩:=J.o.prog;obtain⟨q0,q1,q2,q3⟩:=J.o.func;obtain⟨x0,x1,x2,x3⟩:=J.o.ins;go_wp2_with fail;refine(SC ⟨.slice r1 p.aB.length r3,.slice V p.ag.length X,.slice f1 p.funcs.length f3,.slice t1 p.a7.length t3⟩ p ⟨.slice L f.params.length M,.slice O f.locals.length P,.slice Q f.code.length R⟩ f x U0 H.o.1 H.o.2.1 H.o.2.2.1 H.o.2.2.2.1 (H.o.2.2.2.2.1.aa J.o.aC lR) (H.o.2.2.2.2.2.1.aa J.o.aC lR) H.o.2.2.2.2.2.2.1).mono ?_;rintro e u1 ⟨Tv,Sv,rfl,tr,gr,b1⟩;obtain⟨ta,tc,rfl⟩:=tr.bW;obtain⟨ga,gc,rfl⟩:=gr.bW;generalize aZ:AC p f x=ts at tr gr⊢;generalize aE:AE p f x=d at gr⊢;rw[aZ,aE]at bQ;rw[aE]at bJ;have ae:Hid ((∀t∈d,t=0->0<ts.length)/\d.length<=2/\sh.length<=I):=⟨bQ,bJ,cg⟩
 have a8:=Ag (f7 aZ aE);clear aZ aE p0 p1 p2 p3 q0 q1 q2 q3 x0 x1 x2 x3;have E2:Hid (L6 w (u1.alloc (.cells #[.slice ta ts.length tc,.slice ga d.length gc] 248)) ⟨.slice r1 p.aB.length r3,.slice V p.ag.length X,.slice f1 p.funcs.length f3,.slice t1 p.a7.length t3⟩ ⟨.slice L f.params.length M,.slice O f.locals.length P,.slice Q f.code.length R⟩ f x u1.heap.size (.slice ta ts.length tc) (.slice ga d.length gc) ts d (.slice sa sh.length I) sh):=by have F:=Aa u1 (.cells #[.slice ta ts.length tc,.slice ga d.length gc] 248);exact⟨(J.o.aa b1).aa F,Aw.new _ _ _,tr.aa F lR,gr.aa F lR,(H.o.2.2.2.2.2.2.2.aa (Ac J.o.aC lR b1) lR).aa F lR⟩
 clear tr gr b1 J;go_upto_region 2 with fail
 generalize u1.heap.size=N at E2⊢;refine Ao (fun u=>Hid (L6 w u ⟨.slice r1 p.aB.length r3,.slice V p.ag.length X,.slice f1 p.funcs.length f3,.slice t1 p.a7.length t3⟩ ⟨.slice L f.params.length M,.slice O f.locals.length P,.slice Q f.code.length R⟩ f x N (.slice ta ts.length tc) (.slice ga d.length gc) ts d (.slice sa sh.length I) sh)) E2 ?_;rintro U E3;clear E2;have K:=E3.o.eb.cell 0;have G:=E3.o.eb.cell 1;simp only[jZ,i5,i8]at K G;have bB:=Ag E3.o.fu.aC;by_cases aS:sh.length<ts.length
 . have bH:(sh.length:Int)<(ts.length:Int):=oM;have C:=Ag (TE a8.o.1 aS);clear aS;go_wp2_with fail;exact i6 (v:=.tuple #[sN,iZ 1]) (by simp[results,Tryz.results141,go_sem]) rfl ⟨sN,by rw[C.o],fun e=>by rw[C.o]at e;exact absurd e dC,bB.o⟩
 obtain⟨low,bL⟩:∃low:Nat,sh.length=low+ts.length:=⟨sh.length-ts.length,oM⟩;have aD:Hid (SH p f x sh=low):=by show sh.length-(AC p f x).length=low;rw[a8.o.1];omega
 have bH:¬(sh.length:Int)<(ts.length:Int):=oM;have A:=Ag bL;clear bL;go_upto_region 6 with fail
 rw[show(sh.length:Int)-(ts.length:Int)=(low:Int)by have:=A.o;omega];have cH:wrap64 ((ts.length:Int)-1)=(ts.length:Int)-1:=IntWalk.wrap64_in _ (by have:=A.o;omega);clear aS bH K G;go_wp2;rw[cH];go_loopw [13] (fun i wr=>∃(q:Nat) (z:Int),q<=ts.length/\i=iZ z/\z+1=q/\Hid (∀(k:Nat) s t,q<=k->(sh.drop low)[k]?=some s->ts[k]?=some t->t=0\/s=t)/\Hid (L6 w wr ⟨.slice r1 p.aB.length r3,.slice V p.ag.length X,.slice f1 p.funcs.length f3,.slice t1 p.a7.length t3⟩ ⟨.slice L f.params.length M,.slice O f.locals.length P,.slice Q f.code.length R⟩ f x N (.slice ta ts.length tc) (.slice ga d.length gc) ts d (.slice sa sh.length I) sh)) (fun i _=>(intOf i+1).toNat)
 case atStart=>exact⟨ts.length,(ts.length:Int)-1,oM,rfl,oM,fun k s t hk _ ht=>absurd (d7.1 ht).1 oM,E3⟩
 clear E3 bB;obtain⟨q,z,hq,rfl,hz,HF,m⟩:=hrel;have aF:=A.o;have K:=m.o.eb.cell 0;have G:=m.o.eb.cell 1;simp only[jZ,i5,i8]at K G;by_cases cE:q=0
 . obtain rfl:z=-1:=oM;have bS:=Ag ((L5 (by rw[lN];omega)).2 (fun k s t h1 h2=>HF.o k s t oM h1 h2));clear HF cE hz hq aF;obtain⟨q0,q1,q2,q3⟩:=m.o.fu.func;obtain⟨x0,x1,x2,x3⟩:=m.o.fu.ins;(go_upto_region 11 with fail);go_cut [67] (fun s wx=>∃bb:Bool,s=.bool bb/\Hid (bb=true↔(x.op=27/\AR f x.a≠3))/\Hid (L6 w wx ⟨.slice r1 p.aB.length r3,.slice V p.ag.length X,.slice f1 p.funcs.length f3,.slice t1 p.a7.length t3⟩ ⟨.slice L f.params.length M,.slice O f.locals.length P,.slice Q f.code.length R⟩ f x N (.slice ta ts.length tc) (.slice ga d.length gc) ts d (.slice sa sh.length I) sh))
   case first=>
    by_cases ah:x.op=27
    . (have bY:(x.op==27)=true:=by simpa using ah);have aH:=Ag ah;clear ah;go_wp2_with fail;refine(DS ⟨.slice L f.params.length M,.slice O f.locals.length P,.slice Q f.code.length R⟩ f x.a wr H.o.2.2.1 H.o.2.2.2.1.2.1 (H.o.2.2.2.2.2.1.aa m.o.fu.aC lR)).mono ?_;rintro e u1 ⟨rfl,b1⟩;by_cases au:AR f x.a=3
      . (have ch:(AR f x.a != 3)=false:=by simpa using au);have aL:=Ag au;go_wp2_with fail;go_meet;exact⟨false,rfl,⟨fun e=>(by cases e),fun e=>absurd aL.o e.2⟩,m.o.aa b1⟩
      (have ch:(AR f x.a != 3)=true:=by simpa using au);have aL:=Ag au;clear au;go_wp2_with fail;go_meet;exact⟨true,rfl,⟨fun _=>⟨aH.o,aL.o⟩,fun _=>rfl⟩,m.o.aa b1⟩
    (have bY:(x.op==27)=false:=by simpa using ah);have aH:=Ag ah;clear ah;go_wp2_with fail;go_meet;exact⟨false,rfl,⟨fun e=>(by cases e),fun e=>absurd e.1 aH.o⟩,m⟩
   case rest=>
    obtain⟨bb,rfl,bx,aA⟩:=hcut;clear m q0 q1 q2 q3 x0 x1 x2 x3 K G;rcases Bool.eq_false_or_eq_true bb with aQ|aQ
    . subst aQ;(have C:Hid (Dj p f x sh=2):=by show Dj p f x sh=2;unfold Dj;rw[a8.o.1,lE (by have:=A.o;omega),lI (.inr (bx.o.1 rfl))]);go_wp2_with fail;exact i6 (v:=.tuple #[sN,iZ 2]) (by simp[results,Tryz.results141,go_sem]) rfl ⟨sN,by rw[C.o],fun e=>by rw[C.o]at e;exact absurd e dC,aA.o.fu.aC⟩
    subst aQ;have bV:Hid (¬(x.op=27/\AR f x.a≠3)):=fun e=>by have:=bx.o.2 e;cases this
    obtain⟨y,hN⟩:∃W,W=wc:=⟨_,rfl⟩;subst hN;have aF:=A.o;have ce:(low:Int)<=(I:Int):=oM;have cj:low<=I:=oM;clear aF;(go_upto_region 13 with fail);go_cut [12,14] (fun l s wx=>∃(a:Option Addr) (c:Nat),l=iZ (low:Int)/\s=.slice a low c/\Hid (wx.ownsRow y.heap.size 2 1 (.slice a low c) low ((sh.take low).flatMap Ad)/\Below y.heap.size y wx))
    case first=>
     have F:=Aa y (.cells #[] 2);have HO:Hid ((y.alloc (.cells #[] 2)).ownsRow y.heap.size 2 1 (sG y.heap.size 0 0) 0 []):=⟨rfl,.inr ⟨y.heap.size,0,#[],rfl,Nat.le_refl _,Hx _ _ _,Nat.le_refl _,lr _,rfl,rfl⟩⟩;have bT:Hid _:=aA.o.aa F;cases sa with
     | none=>
       have cI:sh.length=0:=by
        rcases aA.o.sr.2 with⟨e,_⟩|⟨gg,oo,cc,e,hc⟩
        . exact e
        simp at e
       (obtain rfl:low=0:=by have:=A.o;omega);clear cI ce cj;go_wp2_with fail;go_meet;exact⟨some ⟨y.heap.size,0,none⟩,0,rfl,rfl,HO.o,F⟩
     | some ad=>
       have HN:Hid (∀j u,((sh.take low).flatMap Ad)[j]?=some u->(y.alloc (.cells #[] 2)).cell? (ad.add j)=some u):=fun j u hj=>by
        rcases bT.o.sr.2 with⟨e,_⟩|⟨gg,oo,cc,e,hc⟩
        . (have cP:(sh.flatMap Ad).length=0:=by rw[Av Ad 1 Ar,e]);have:=(d7.1 (L8 hj)).1;omega
        simp only[ip,i4]at e;obtain⟨rfl,_,_⟩:=e;rw[DF];exact hc j u (L8 hj)
       (have HL:Hid (((sh.take low).flatMap Ad).length=low*1):=by show _=_;rw[Av Ad 1 Ar,lB];have:=A.o;omega);go_wp2_with (at_builtin;refine wpList_append_own _ rfl _ _ 58 rfl y.heap.size 2 i0 (iZ 0) 1 8 Tryz.underlying58 hi bp bt bu rfl dC _ 0 [] rfl HO.o ad low I ((sh.take low).flatMap Ad) rfl HL.o HN.o ?c1 ?c2 ?c3 ?c4 ?_);(case c1=>intro u T;obtain⟨z,_,hz⟩:=lP.1 T;simp[Ad]at hz;subst hz;rfl);(case c2=>have:=A.o;unfold maxLen;omega);(case c3=>have:=A.o;omega);(case c4=>exact F.size);intro v' w' aU bK cA;(obtain⟨a2,c2,rfl⟩:∃a c,v'=.slice a low c:=by have:=(Rd.cB aU).bW;simpa using this);have HB:=Ag (f7 (F.grown bK sP (fun k hk=>by simp[Value.ownBlock]at hk;omega)) ((by simpa using aU):w'.ownsRow y.heap.size 2 1 (.slice a2 low c2) low ((sh.take low).flatMap Ad)));clear aU bK cA;go_wp2_with fail;go_meet;exact⟨a2,c2,rfl,rfl,HB.o.2,HB.o.1⟩
    case rest=>
     obtain⟨Y,Z,rfl,rfl,aM⟩:=hcut;have HW:Hid _:=aA.o;go_wp2;go_loopw [14,15,16] (fun o i _ wr=>∃(k:Nat) (a:Option Addr) (c:Nat),k<=d.length/\o=.slice a (low+k) c/\i=iZ (k:Int)/\Hid (wr.ownsRow y.heap.size 2 1 (.slice a (low+k) c) (low+k) ((EJ low sh d k).flatMap Ad)/\Below y.heap.size y wr)) (fun _ i _ _=>d.length-(intOf i).toNat)
     (case atStart=>exact⟨0,Y,Z,oM,rfl,rfl,by have D:=aM.o.1;simpa[EJ]using D,aM.o.2⟩);clear aM;clear Y Z;obtain⟨k,Y,Z,hk,rfl,rfl,m⟩:=hrel;have am:Hid _:=HW.o.aa m.o.2;have G:=am.o.eb.cell 1;simp only[jZ,i5,i8]at G;by_cases cu:k<d.length
     . obtain⟨B,E⟩:∃t,d[k]?=some t:=⟨_,an cu⟩;obtain⟨gg,og,rfl,j1⟩:=M0 am.o.gr rfl E;have cM:(k:Int)<(d.length:Int):=oM;have cJ:=ae.o.2.1;by_cases S:B=0
       . subst S;have cD:=ae.o.1 0 (d9 E) rfl;obtain⟨sl,aX⟩:∃s,sh[low]?=some s:=⟨_,an (by have:=A.o;omega)⟩;obtain⟨bX,os,rfl,j2⟩:=M0 am.o.sr rfl aX;(have cF:(low:Int)<(sh.length:Int):=by have:=A.o;omega);(have aJ:Hid (EJ low sh d (k+1)=EJ low sh d k++[sl]):=by show EJ low sh d (k+1)=_;rw[Mo E];simp[Ws,aX]);clear E aX cD;have a6:Hid ((wr.alloc (.cells #[iZ sl] 2)).ownsRow y.heap.size 2 1 (.slice Y (low+k) Z) (low+k) ((EJ low sh d k).flatMap Ad)/\y.heap.size<=(wr.alloc (.cells #[iZ sl] 2)).heap.size):=⟨Ai m.o.1 (Aa _ _) lR,by rw[ln];have:=m.o.2.size;omega⟩
         go_wp2_with (at_builtin;refine wpList_append_lies _ rfl _ _ 58 rfl y.heap.size 2 i0 (iZ 0) 1 8 Tryz.underlying58 hi bp bt bu rfl dC _ (low+k) ((EJ low sh d k).flatMap Ad) rfl a6.o.1 ⟨wr.heap.size,0,none⟩ 1 1 [iZ sl] rfl rfl (Qk wr sl) (fun u T=>by simp at T;subst T;rfl) oM (by have:=A.o;have:=ae.o.2.1;simp[maxLen];omega) (by have:=A.o;have:=ae.o.2.1;omega) a6.o.2 _ rfl ?_;intro g5 ao w5 aw aq aP aT;have HN:Hid (w5.ownsRow y.heap.size 2 1 (sG g5 (low+(k+1)) ao) (low+(k+1)) ((EJ low sh d (k+1)).flatMap Ad)/\Below y.heap.size y w5):=VZ m.o.1 m.o.2 aJ.o aw aq;clear aw aq aP aT)
         go_wp2;go_roundw;(case rel=>exact⟨k+1,some ⟨g5,0,none⟩,ao,oM,rfl,by go_num,HN⟩);exact oI
       (have aJ:Hid (EJ low sh d (k+1)=EJ low sh d k++[B]):=by show EJ low sh d (k+1)=_;rw[Mo E];simp[Ws,S]);(have bO:(B==0)=false:=by simpa using S);clear E;have a6:Hid ((wr.alloc (.cells #[iZ B] 2)).ownsRow y.heap.size 2 1 (.slice Y (low+k) Z) (low+k) ((EJ low sh d k).flatMap Ad)/\y.heap.size<=(wr.alloc (.cells #[iZ B] 2)).heap.size):=⟨Ai m.o.1 (Aa _ _) lR,by rw[ln];have:=m.o.2.size;omega⟩
       go_wp2_with (at_builtin;refine wpList_append_lies _ rfl _ _ 58 rfl y.heap.size 2 i0 (iZ 0) 1 8 Tryz.underlying58 hi bp bt bu rfl dC _ (low+k) ((EJ low sh d k).flatMap Ad) rfl a6.o.1 ⟨wr.heap.size,0,none⟩ 1 1 [iZ B] rfl rfl (Qk wr B) (fun u T=>by simp at T;subst T;rfl) oM (by have:=A.o;have:=ae.o.2.1;simp[maxLen];omega) (by have:=A.o;have:=ae.o.2.1;omega) a6.o.2 _ rfl ?_;intro g5 ao w5 aw aq aP aT;have HN:Hid (w5.ownsRow y.heap.size 2 1 (sG g5 (low+(k+1)) ao) (low+(k+1)) ((EJ low sh d (k+1)).flatMap Ad)/\Below y.heap.size y w5):=VZ m.o.1 m.o.2 aJ.o aw aq;clear aw aq aP aT)
       clear a6 m;go_wp2;go_roundw;(case rel=>exact⟨k+1,some ⟨g5,0,none⟩,ao,oM,rfl,by go_num,HN⟩);exact oI
     obtain rfl:k=d.length:=oM;have aN:Hid ((IU p f x sh).length=low+d.length/\EJ low sh d d.length=IU p f x sh):=by have D:=ST aD.o a8.o.2;exact⟨by rw[<-D,Ou (by have:=A.o;omega) lR],D⟩
     (have bz:Hid (Dj p f x sh=if 64<low+d.length then 3 else 0):=by show Dj p f x sh=_;unfold Dj;rw[a8.o.1,lE (by have:=A.o;omega),lE (by rw[aD.o];rintro(e|e);exact absurd (bS.o.symm.trans e) dC;exact bV.o e),aN.o.1]);by_cases aR:64<low+d.length
     . (have C:Hid (Dj p f x sh=3):=by have:=bz.o;rw[lI aR]at this;exact this);have bZ:(64:Int)<(low:Int)+(d.length:Int):=oM;clear aR;go_wp2_with fail;exact i6 (v:=.tuple #[sN,iZ 3]) (by simp[results,Tryz.results141,go_sem]) rfl ⟨sN,by rw[C.o],fun e=>by rw[C.o]at e;exact absurd e dC,am.o.fu.aC⟩
     (have C:Hid (Dj p f x sh=0):=by have:=bz.o;rw[lE aR]at this;exact this);have bZ:¬(64:Int)<(low:Int)+(d.length:Int):=oM;go_wp2_with fail;exact i6 (v:=.tuple #[.slice Y (low+d.length) Z,iZ 0]) (by simp[results,Tryz.results141,go_sem]) rfl ⟨.slice Y (low+d.length) Z,by rw[C.o],fun _=>by rw[aN.o.1,<-aN.o.2];exact BD m.o.1 HW.o.fu.aC.size,am.o.fu.aC⟩
 obtain⟨j,rfl⟩:∃j,q=j+1:=⟨q-1,oM⟩;obtain rfl:z=(j:Int):=oM;obtain⟨B,E⟩:∃t,ts[j]?=some t:=⟨_,an oM⟩;obtain⟨sv,aY⟩:∃s,sh[low+j]?=some s:=⟨_,an oM⟩;obtain⟨gt,ot,rfl,j1⟩:=M0 m.o.tr rfl E;obtain⟨bX,os,rfl,j2⟩:=M0 m.o.sr rfl aY;have hd:(sh.drop low)[j]?=some sv:=by rw[nH];exact aY
 have HV:=Ag (f7 E hd);have cL:(j:Int)<(ts.length:Int):=oM;have cF:(low:Int)+(j:Int)<(sh.length:Int):=oM;clear E aY hd aF;have inst:=At.some wr;have J1:=fun n:At wr=>At.cell j1 n
 have J2:=fun n:At wr=>At.cell j2 n
 have K0:=fun n:At wr=>At.cell K n
 by_cases S:B=0
 . (have bO:(B != 0)=false:=by simpa using S);go_wp2_with fail;refine AF kR kR ?_;(repeat(go_big_quiet_step (fail)));refine wpQuiet_nil ?_;rintro bR ⟨n',rfl⟩;have aj:Hid _:=m.o.aa n'.h;have aI:Hid (∀(k:Nat) s t,j<=k->(sh.drop low)[k]?=some s->ts[k]?=some t->t=0\/s=t):=fun k s t hk h1 h2=>by
    by_cases e:k=j
    . subst e;rw[HV.o.1]at h2;exact .inl (by rw[<-kH h2];exact S)
    exact HF.o k s t oM h1 h2
   clear J1 J2 K0 inst j1 j2 K G m HF;go_wp2;go_roundw;(case rel=>exact⟨j,(j:Int)-1,oM,by go_num,oM,aI,aj⟩);simp[intOf]
 have bO:(B != 0)=true:=by simpa using S
 by_cases aG:sv=B
 . (have cG:(sv != B)=false:=by simpa using aG);go_wp2_with fail;refine AF kR kR ?_;(repeat(go_big_quiet_step (fail)));refine wpQuiet_nil ?_;rintro bR ⟨n',rfl⟩;have aj:Hid _:=m.o.aa n'.h;have aI:Hid (∀(k:Nat) s t,j<=k->(sh.drop low)[k]?=some s->ts[k]?=some t->t=0\/s=t):=fun k s t hk h1 h2=>by
    by_cases e:k=j
    . subst e;rw[HV.o.1]at h2;rw[HV.o.2]at h1;exact .inr (by rw[<-kH h1,<-kH h2];exact aG)
    exact HF.o k s t oM h1 h2
   clear J1 J2 K0 inst j1 j2 K G m HF;go_wp2;go_roundw;(case rel=>exact⟨j,(j:Int)-1,oM,by go_num,oM,aI,aj⟩);simp[intOf]
 have cG:(sv != B)=true:=by simpa using aG
 have C:Hid (Dj p f x sh=2):=by
  show Dj p f x sh=2;unfold Dj;rw[a8.o.1,lE (by have:=A.o;omega),lI (.inl (Bool.eq_false_iff.2 (fun e=>by
   have D:=(L5 (by rw[lN,aD.o];have:=A.o;omega)).1 e j sv B (by rw[aD.o];exact HV.o.2) HV.o.1;rcases D with D|D
   . exact S D
   exact aG D)))]
 go_wp2_with fail;refine AF kR kR ?_;repeat(go_big_quiet_step (fail))
 refine wpQuiet_nil ?_;rintro bR ⟨n',rfl⟩;have aj:=m.o.aa n'.h;go_wp2_with fail;exact i6 (v:=.tuple #[sN,iZ 2]) (by simp[results,Tryz.results141,go_sem]) rfl ⟨sN,by rw[C.o],fun e=>by rw[C.o]at e;exact absurd e dC,aj.fu.aC⟩
theorem MR(g:VF)(f:MF)(w:World)(n:IG w g f):
 Calls Tryz.prog 140 #[.agg #[g.p,.int .i64 f.result,g.l,g.c]] w (T3 w (Cm f)):=by
 obtain⟨a,b,d,e,i,j,rfl⟩:=Hs n;by_cases h:f.result=0
 . (have h2:(f.result==0)=true:=by simpa using h);have m:Hid (Cm f=[]):=lI h;clear h;go_enter Tryz.func140,Tryz.ntmps140;go_wp2_with fail;rw[m.o];have k:=Qu (Aa w (.cells #[.slice a f.params.length b,.int .i64 f.result,.slice d f.locals.length e,.slice i f.code.length j] 68)) [] 0 0 rfl;rw[show(w.alloc (.cells #[.slice a f.params.length b,.int .i64 f.result,.slice d f.locals.length e,.slice i f.code.length j] 68)).heap.size=w.heap.size+1 from sP]at k;exact i6 (v:=.slice (some ⟨w.heap.size+1,0,none⟩) 0 0) (by simp[results,Tryz.results140,go_sem]) rfl k
 have h2:(f.result==0)=false:=by simpa using h
 have m:Hid (Cm f=[f.result]):=lE h;clear h;go_enter Tryz.func140,Tryz.ntmps140;go_wp2_with fail;rw[m.o];have k:=Qu (Aa w (.cells #[.slice a f.params.length b,.int .i64 f.result,.slice d f.locals.length e,.slice i f.code.length j] 68)) [f.result] 1 1 rfl;rw[show(w.alloc (.cells #[.slice a f.params.length b,.int .i64 f.result,.slice d f.locals.length e,.slice i f.code.length j] 68)).heap.size=w.heap.size+1 from sP]at k;exact i6 (v:=.slice (some ⟨w.heap.size+1,0,none⟩) 1 1) (by simp[results,Tryz.results140,go_sem]) rfl k
def Dg(u:World)(B:Nat)(V:Value)(sh:List Int):Prop:=u.ownsRow B 2 1 V sh.length (sh.flatMap Ad)
theorem Dg.aa{u a:World}(h:Dg u B V sh)(b:Below u.heap.size u a):Dg a B V sh:=Ai h b lR
theorem Dg.set{u:World}(h:Dg u B V sh){a:Addr}(b:a.block<B)(x:Value):Dg (u.setCell a x) B V sh:=ks h b x
theorem Dg.nil(u:World)(B:Nat):Dg u B sN []:=lJ _ _ _ _
structure TyB(FB OB GS GC GF B:Nat):Prop where
 h3:FB<GS
 h4:GS<OB
 h5:OB<GC
 h6:GC<GF
 h7:GF<B
structure Hw(U u:World)(n:Nat)(OB GS GC GF B:Nat)(r:JO)(z1 z2 z3 z4:Value)(RS RF:List Value)(s:WS):Prop where
 lb:Aw u U.heap.size #[iZ r.code,iZ r.at_,z1,z2,z3,z4] 210
 ob:Aw u OB #[iZ 0,iZ 0,iZ (s.d:Int),sG GS n n] 213
 sa:u.ownsRow U.heap.size 58 1 (sG GS n n) n RS
 ca:u.ownsRow U.heap.size 4 1 (sG GC r.blocks.length r.blocks.length) r.blocks.length ((List.range r.blocks.length).map fun b=>Value.bool (s.c b).isSome)
 fa:u.ownsRow U.heap.size 58 1 (sG GF r.blocks.length r.blocks.length) r.blocks.length RF
 sl:RS.length=n
 fl:RF.length=r.blocks.length
 rs:∀(j:Nat) (V:Value),RS[j]?=some V->Dg u B V (s.t j)
 jn:∀(b:Nat) (V:Value),RF[b]?=some V->Dg u B V ((s.c b).getD [])
 aC:Below U.heap.size U u
 tb:TyB U.heap.size OB GS GC GF B
 sz:B<=u.heap.size
theorem Hw.aa{U u i:World}{n:Nat}{d GS c GF B:Nat}{k:Value}{f:List Value}(h:Hw U u n d GS c GF B r k l m p g f s)(a:Below u.heap.size u i):Hw U i n d GS c GF B r k l m p g f s:=⟨h.lb.aa a,h.ob.aa a,Ai h.sa a lR,Ai h.ca a lR,Ai h.fa a lR,h.sl,h.fl,fun j V e=>(h.rs j V e).aa a,fun b V e=>(h.jn b V e).aa a,Ac h.aC lR a,h.tb,jX h.sz a.size⟩
theorem Hi(u:World)(a:Addr)(x:Value):(u.setCell a x).heap.size=u.heap.size:=sP
theorem Hw.jW{U u:World}{n:Nat}{g:Nat}{v:Value}{a l:List Value}(h:Hw U u n k GS g GF B r m p q v a l s)(w:Dg u B V sh):Hw U (u.setCell ⟨GS,j,none⟩ V) n k GS g GF B r m p q v (a.set j V) l ⟨s.c,Jr s.t j sh,s.d⟩:=by
 have y:=h.tb.h3;have z:=h.tb.h4;have A:=h.tb.h5;have C:=h.tb.h6;have D:=h.tb.h7;refine⟨h.lb.other oS V,h.ob.other oS V,(h.sa.stored j V).1,i9 h.ca (by simp[Value.ownBlock];omega) V,i9 h.fa (by simp[Value.ownBlock];omega) V,by rw[lw];exact h.sl,h.fl,fun i W e=> ?_,fun b W e=>(h.jn b W e).set oS V,h.aC.setCell oS V,h.tb,by rw[Hi];exact h.sz⟩;simp only[Jr];by_cases f:i=j
 . subst f;(have x:i<a.length:=by have:=(d7.1 e).1;rw[lw]at this;exact this);rw[lu x]at e;(cases e);rw[lI rfl];exact w.set oS V
 rw[lj (fun e=>f e.symm)]at e;rw[lE f];exact(h.rs i W e).set oS V
theorem Hw.jV{U u:World}{n:Nat}{a f:Nat}{j:List Value}(h:Hw U u n a GS f GF B r l m p q j g s)(d:Nat):Hw U (u.setCell ⟨a,2,none⟩ (iZ (d:Int))) n a GS f GF B r l m p q j g ⟨s.c,s.t,d⟩:=by have v:=h.tb.h3;have w:=h.tb.h4;have x:=h.tb.h5;have y:=h.tb.h6;have z:=h.tb.h7;have k:=h.ob.set 2 (iZ (d:Int));simp only[kI,kX,kb]at k;exact⟨h.lb.other oS _,k,i9 h.sa (by simp[Value.ownBlock];omega) _,i9 h.ca (by simp[Value.ownBlock];omega) _,i9 h.fa (by simp[Value.ownBlock];omega) _,h.sl,h.fl,fun i W e=>(h.rs i W e).set oS _,fun b W e=>(h.jn b W e).set oS _,h.aC.setCell oS _,h.tb,by rw[Hi];exact h.sz⟩
theorem Hw.iB{U u:World}{n:Nat}{l:Nat}{p q v w:Value}{m k:List Value}(h:Hw U u n l GS j GF B r p q v w m k s){t:Nat}(x:Dg u B V sh):Hw U ((u.setCell ⟨j,t,none⟩ (.bool true)).setCell ⟨GF,t,none⟩ V) n l GS j GF B r p q v w m (k.set t V) ⟨Kk s.c t sh,s.t,s.d⟩:=by
 have z:=h.tb.h3;have A:=h.tb.h4;have C:=h.tb.h5;have D:=h.tb.h6;have E:=h.tb.h7;have c1:=(h.ca.stored t (.bool true)).1;have f1:=i9 h.fa (a:=⟨j,t,none⟩) (by simp[Value.ownBlock];omega) (.bool true);have y:=i9 h.sa (a:=⟨j,t,none⟩) (by simp[Value.ownBlock];omega) (.bool true);refine⟨(h.lb.other oS _).other oS _,(h.ob.other oS _).other oS _,i9 y (by simp[Value.ownBlock];omega) _,?_,(f1.stored t V).1,h.sl,by rw[lw];exact h.fl,fun i W e=>((h.rs i W e).set oS _).set oS _,fun b W e=> ?_,(h.aC.setCell oS _).setCell oS _,h.tb,by rw[Hi,Hi];exact h.sz⟩
 . have c2:=i9 c1 (a:=⟨GF,t,none⟩) (by simp[Value.ownBlock];omega) V;have e:(((List.range r.blocks.length).map fun b=>Value.bool (s.c b).isSome).set t (.bool true))=(List.range r.blocks.length).map fun b=>Value.bool (Kk s.c t sh b).isSome:=by
    apply la;intro i;by_cases f:i=t
    . subst f;by_cases g:i<r.blocks.length
      . rw[lu (by simpa using g)];simp[Kk,g]
      rw[kK oT,kK oT]
    rw[lj (fun e=>f e.symm)];simp only[kh];by_cases g:i<r.blocks.length
    . simp[Kk,g,f]
    simp[g]
   rw[<-e];exact c2
 simp only[Kk];by_cases f:b=t
 . subst f;(have g:b<k.length:=by have:=(d7.1 e).1;rw[lw]at this;exact this);rw[lu g]at e;(cases e);rw[lI rfl];exact(x.set oS _).set oS _
 rw[lj (fun e=>f e.symm)]at e;rw[lE f];exact((h.jn b W e).set oS _).set oS _
theorem RU(k:TypeId)(u:World)(B l:Nat)(V:Value)(sh:List Int)(h:Dg u B V sh)(m:l<=u.heap.size)(E:sh.length<=1048576):∃v' b,(Builtin.append_ #[58,58] k #[sG u.heap.size 0 0,V]).run Tryz.prog (u.alloc (.cells #[] 2))=.ok v' b/\Dg b l v' sh/\Below u.heap.size u b:=by
 obtain⟨q,n,z,A,C⟩:=kS Co;have f:(u.alloc (.cells #[] 2)).ownsRow u.heap.size 2 1 (sG u.heap.size 0 0) 0 []:=⟨rfl,.inr ⟨u.heap.size,0,#[],rfl,Nat.le_refl _,lq _ _,Nat.le_refl _,lr _,rfl,sP⟩⟩;obtain⟨a,c,rfl⟩:=Bo h;have p:=(Rd.cB h);cases a with
 | none=>
   have y:sh.length=0:=by
    rcases p.2 with⟨i,_⟩|⟨g,o,c,d,_⟩
    . exact i
    cases d
   have r:sh=[]:=lV y;subst r;refine⟨_,_,Fv (P:=Tryz.prog) u.heap.size 58 k 2 q 1 Tryz.underlying58 n _ _ _ f c,?_,Aa _ _⟩;exact BD f m
 | some ad=>
   have t:∀j v,(sh.flatMap Ad)[j]?=some v->(u.alloc (.cells #[] 2)).cell? (ad.add j)=some v:=fun j v e=>by
    rcases p.2 with⟨i,_⟩|⟨g,o,c,d,w⟩
    . have:sh=[]:=lV i;subst this;simp at e
    simp only[ip,i4]at d;obtain⟨rfl,_⟩:=d;have:=w j v e;rw[DF,(Aa u (.cells #[] 2)).cell (d5 this)];exact this
   obtain⟨v',b,x,h2,s,D⟩:=run_append_own (P:=Tryz.prog) (u.alloc (.cells #[] 2)) u.heap.size 58 k 2 q (iZ 0) 1 8 Tryz.underlying58 n z A C rfl dC _ 0 [] f ad sh.length c (sh.flatMap Ad) (by rw[Av Ad 1 Ar]) t (C4 _) oX oM (Aa _ _).size;refine⟨v',b,x,BD (by simpa using h2) m,(Aa u (.cells #[] 2)).grown s (Aa _ _).size (fun j e=>(f.lt j e).1)⟩
theorem Qx{a:Act}(s x:Operand)(g:o.op=.call {callee:=.builtin .append,args:=#[s,x],argTypes:=#[58,58]})(u:World)(B c:Nat)(V:Value)(sh:List Int)(j:a.eval s=sG u.heap.size 0 0)(k:a.eval x=V)(h:Dg u B V sh)(d:c<=u.heap.size)(f:sh.length<=1048576)(e:∀v' b,Dg b c v' sh->Below u.heap.size u b->K (a.put o.dst v') b):o.wp Tryz.prog a (u.alloc (.cells #[] 2)) K Q:=by obtain⟨v',b,i,h1,h2⟩:=RU o.type u B c V sh h d f;exact Lib.wp_append_run _ s x 58 58 g _ _ j k v' b i (e v' b h1 h2)
theorem OE{d:Array Oper}{rest:List Oper}{a:Act}(i:o.guard=none)(s x:Operand)(k:o.op=.call {callee:=.builtin .append,args:=#[s,x],argTypes:=#[58,58]})(u:World)(B c:Nat)(V:Value)(sh:List Int)(l:a.eval s=sG u.heap.size 0 0)(m:a.eval x=V)(h:Dg u B V sh)(e:c<=u.heap.size)(j:sh.length<=1048576)(f:∀v' b,Dg b c v' sh->Below u.heap.size u b->wpList Tryz.prog d Q rest (a.put o.dst v') b):wpList Tryz.prog d Q (o::rest) a (u.alloc (.cells #[] 2)):=wpList_plain i fun _ g=>Qx s x k u B c V sh l m h e j fun v' b h1 h2=>g _ _ (f v' b h1 h2)
theorem Re{d:Array Oper}{a:Act}{E:Prop}(g:o.guard=none)(s x:Operand)(j:o.op=.call {callee:=.builtin .append,args:=#[s,x],argTypes:=#[58,58]})(u:World)(B b:Nat)(V:Value)(sh:List Int)(k:a.eval s=sG u.heap.size 0 0)(l:a.eval x=V)(h:Dg u B V sh)(e:b<=u.heap.size)(i:sh.length<=1048576)(f:∀v' c,Dg c b v' sh->Below u.heap.size u c->K (a.put o.dst v') c):if Region.wanted o (yielded d a.tmps)=true then Oper.wp Tryz.prog o a (u.alloc (.cells #[] 2)) K Q else E:=by
 have hw:Region.wanted o (yielded d a.tmps)=true:=by simp[Region.wanted,g]
 rw[lI hw];exact Qx s x j u B b V sh k l h e i f
theorem TC{u:World}{a:Option Addr}{n c:Nat}{l:List MB}(h:Kv u (.slice a n c) l){m:MB}(j:l[k]?=some m):∃g o b d,a=some ⟨g,o,none⟩/\u.cell? ⟨g,o+k*3,none⟩=some (iZ m.cK)/\u.cell? ⟨g,o+k*3+1,none⟩=some (iZ m.last)/\u.cell? ⟨g,o+k*3+2,none⟩=some (.slice b m.next.length d)/\Tu u (.slice b m.next.length d) m:=by
 obtain⟨xs,h1,h2,v⟩:=h;have B:=(d7.1 j).1;obtain⟨⟨C,D⟩,f,q⟩:∃x,xs[k]?=some x/\x.1=m:=by rw[<-h1,kh]at j;exact lg.1 j
 simp only[]at q;subst q;have p:=v _ (d9 f);obtain⟨b,d,s⟩:=Rd.bW p;simp only[]at s;subst s;rcases h2.2 with⟨e,_⟩|⟨t,z,A,e,i⟩
 . omega
 simp only[ip]at e;have r:=Rd.elem BT i k _ f 0 _ rfl;have w:=Rd.elem BT i k _ f 1 _ rfl;have y:=Rd.elem BT i k _ f 2 _ rfl;rw[kD]at r;exact⟨t,z,b,d,e.1,r,w,y,p⟩
theorem LM(f:MF):(Cm f).length<=1048576:=by unfold Cm;split<;>simp
theorem NP{w:World}{a:Array Value}(h:Aw w b a t):w.frozen? ⟨b,0,none⟩=false/\w.frozen? ⟨b,1,none⟩=false/\w.frozen? ⟨b,2,none⟩=false/\w.frozen? ⟨b,3,none⟩=false:=⟨h.frozen 0,h.frozen 1,h.frozen 2,h.frozen 3⟩
theorem GN(u:World)(c:Nat):OR u (.slice none 0 c) []:=⟨[],rfl,⟨rfl,.inl ⟨rfl,_,_,rfl⟩⟩,fun x a=>by cases a⟩
theorem Q7{w:World}{d g f e:Value}(h:Gx w d g f e r):∃v1 c1 v2 c2 v3 c3 b c4,d=.slice v1 r.blocks.length c1/\g=.slice v2 r.order.length c2/\f=.slice v3 r.ej.length c3/\e=.slice b r.loops.length c4:=by
 obtain⟨v1,c1,i⟩:∃a c,d=.slice a r.blocks.length c:=by obtain⟨_,_,h2,_⟩:=h.blocks;exact h2.bW
 obtain⟨v2,c2,j⟩:=h.order.bW;obtain⟨v3,c3,k⟩:=h.ej.bW;obtain⟨b,c4,l⟩:∃a c,e=.slice a r.loops.length c:=by obtain⟨_,_,h2,_⟩:=h.loops;exact h2.bW
 exact⟨v1,c1,v2,c2,v3,c3,b,c4,i,j,k,l⟩
theorem Hw.start{U u:World}{n g GS d GF:Nat}(lb:Aw u U.heap.size #[.int .i64 r.code,.int .i64 r.at_,l,m,p,q] 210)(s:Below U.heap.size U u)(h2:u.ownsRow U.heap.size 58 1 (.slice (some ⟨GS,0,none⟩) n n) n (List.replicate n (.slice none 0 0)))(ob:Aw u g #[.int .i64 0,.int .i64 0,.int .i64 0,.slice (some ⟨GS,0,none⟩) n n] 213)(w:u.ownsRow U.heap.size 4 1 (.slice (some ⟨d,0,none⟩) r.blocks.length r.blocks.length) r.blocks.length (List.replicate r.blocks.length (.bool false)))(x:u.ownsRow U.heap.size 58 1 (.slice (some ⟨GF,0,none⟩) r.blocks.length r.blocks.length) r.blocks.length (List.replicate r.blocks.length (.slice none 0 0)))(a:TyB U.heap.size g GS d GF u.heap.size):Hw U (u.setCell ⟨d,0,none⟩ (.bool true)) n g GS d GF u.heap.size r l m p q (List.replicate n (.slice none 0 0)) (List.replicate r.blocks.length (.slice none 0 0)) Qy:=by
 have y:=a.h3;have z:=a.h4;have A:=a.h5;have B:=a.h6;have C:=a.h7;refine⟨lb.other oS _,ob.other oS _,i9 h2 (by simp[Value.ownBlock];omega) _,?_,i9 x (by simp[Value.ownBlock];omega) _,sP,sP,fun j V e=> ?_,fun b V e=> ?_,s.setCell oS _,a,by rw[Hi];exact Nat.le_refl _⟩
 . have e:(List.replicate r.blocks.length (Value.bool false)).set 0 (.bool true)=(List.range r.blocks.length).map fun b=>Value.bool (Qy.c b).isSome:=by
    apply la;intro i;by_cases k:i=0
    . subst k;by_cases f:0<r.blocks.length
      . rw[lu (by simpa using f)];simp[Qy,f]
      have v:r.blocks.length=0:=oM;rw[v];rfl
    rw[lj (fun e=>k e.symm)];by_cases f:i<r.blocks.length
    . simp[Qy,f,k]
    rw[kK (by rw[nS];omega),kK (by rw[kZ,lO];omega)]
   rw[<-e];exact(w.stored 0 (.bool true)).1
 . have h:=List.eq_of_mem_replicate (d9 e);subst h;exact Dg.nil _ _
 have h:=List.eq_of_mem_replicate (d9 e);subst h;have t:(Qy.c b).getD []=[]:=by simp only[Qy];split<;>rfl
 rw[t];exact Dg.nil _ _
structure VD(xs:List MI)(r:JO):Prop where
 cC:r.blocks=AM xs
 pos:0<r.blocks.length
 len:r.order.length<=1024
 ord:∀z∈r.order,∃b:Nat,z=(b:Int)/\b<r.blocks.length
 nxt:∀(b:Nat) (m:MB),r.blocks[b]?=some m->∀z∈m.next,∃t:Nat,z=(t:Int)/\t<r.blocks.length
theorem Hw.told{U u:World}{n:Nat}{F G H I:Value}{b l:List Value}(h:Hw U u n k GS i GF B r F G H I b l s){X:Nat}(O:X<U.heap.size)(E x1 x2 x3:Value):OR ((((u.setCell ⟨X,0,none⟩ E).setCell ⟨X,1,none⟩ x1).setCell ⟨X,2,none⟩ x2).setCell ⟨X,3,none⟩ x3) (.slice (some ⟨GS,0,none⟩) n n) ((List.range n).map s.t):=by
 have J:=h.tb.h3;have K:=h.tb.h4;have L:=h.tb.h5;have M:=h.tb.h6;have N:=h.tb.h7;have d:((List.range n).map s.t).length=b.length:=by simp[h.sl]
 refine⟨((List.range n).map s.t).zip b,List.map_fst_zip (Nat.le_of_eq d),?_,fun x C=> ?_⟩
 . have e:(((List.range n).map s.t).zip b).flatMap Bi=b:=by
    have:∀(A:List (List Int)) (R:List Value),A.length=R.length->(A.zip R).flatMap Bi=R:=by
     intro A;induction A with
     |nil=>intro R h;cases R with|nil=>rfl|cons _ _=>simp at h
     | cons a A D=>intro R h;cases R with
       |nil=>simp at h
       |cons v R=>rw[List.zip_cons_cons,kG,D R (by simpa using h)];rfl
    exact this _ _ d
   rw[e,kZ,lO];exact Rd.cB (ks (ks (ks (ks h.sa oS _) oS _) oS _) oS _)
 . obtain⟨j,w⟩:=lY C;obtain⟨c,m⟩:((List.range n).map s.t)[j]?=some x.1/\b[j]?=some x.2:=List.getElem?_zip_eq_some.1 w
   (have p:s.t j=x.1:=by rw[kh]at c;obtain⟨q,y,z⟩:=lg.1 c;obtain⟨P,g⟩:=d7.1 y;rw[List.getElem_range]at g;subst g;exact z);have f:=h.rs j x.2 m;rw[p]at f;exact Rd.cB ((((f.set (a:=⟨X,0,none⟩) oS _).set (a:=⟨X,1,none⟩) oS _).set (a:=⟨X,2,none⟩) oS _).set (a:=⟨X,3,none⟩) oS _)
theorem Cs.ord{xs:List MI}(h:Cs xs r)(a:r.code=0):VD xs r:=by
 cases h with
 |none _=>cases a
 |off _ _ _=>cases a
 |lost _ _ _ _ _ _ _ _=>cases a
 |two _ _ _ _ _ _ _ _=>cases a
 | good g x1 o1 v1 s1 d1 b1 i1 l1=>
   obtain⟨j,k,e,i,_⟩:=FQ (Ic g) (Qj g) v1 s1;refine⟨rfl,Ic g,?_,fun z c=> ?_,fun b m f z c=> ?_⟩
   . simp only[];rw[Dl,mQ,e];exact Gm g
   . obtain⟨b,d,rfl⟩:=lL.1 c;exact⟨b,rfl,(i b).1 (nJ.1 d)⟩
   obtain⟨h1,h2⟩:=IV g f c;exact⟨z.toNat,(mj h1).symm,oS⟩
def VM(w:World)(p:MP)(b:Int)(e:Ending)(a:World):Prop:=∃(y:Vu) (s:Value),e=.returned (.agg #[.int .i64 y.code,.int .i64 y.at_,.int .i64 y.depth,s])/\OS p b y/\OR a s y.gG/\Below w.heap.size w a
theorem LR(v:VP)(p:MP)(fi:Int)(w:World)(hs:p.small)(hw:p.wf)(dE:Cr fi)(h:Ft w v p):
 Calls Tryz.prog 128 #[.agg #[v.r,v.k,v.f,v.t],.int .i64 fi] w (VM w p fi):=by
 obtain⟨r1,r3,k1,k3,t1,t3,f1,f3,rfl⟩:=h.sl
 obtain⟨i0,hi,fM,fN,fO⟩:=kS Co
 obtain⟨j0,hj,eX,eY,eZ⟩:=kS D8
 obtain⟨l0,hl,dH,dI,dJ⟩:=kS Ux
 have H:Hid (p.small/\p.wf/\Cr fi/\Ft w ⟨.slice r1 p.aB.length r3,.slice k1 p.ag.length k3,.slice f1 p.funcs.length f3,.slice t1 p.a7.length t3⟩ p):=⟨hs,hw,dE,h⟩
 clear hs hw dE h
 have E0:=GP w #[.slice r1 p.aB.length r3,.slice k1 p.ag.length k3,.slice f1 p.funcs.length f3,.slice t1 p.a7.length t3] #[.int .i64 0,.int .i64 0,.int .i64 0,.slice none 0 0] 29 213
 go_enter Tryz.func128,Tryz.ntmps128
 go_upto_region 1 with fail
 refine Ao (fun u=>Hid (Aw u w.heap.size #[.slice r1 p.aB.length r3,.slice k1 p.ag.length k3,.slice f1 p.funcs.length f3,.slice t1 p.a7.length t3] 29/\Aw u (w.heap.size+1) #[.int .i64 0,.int .i64 0,.int .i64 0,.slice none 0 0] 213/\Below w.heap.size w u)) E0 ?_
 rintro U0 E1
 clear E0
 obtain⟨p0,p1,p2,p3⟩:=Ce E1.o.1
 go_wp2_with fail
 refine(CO ⟨.slice r1 p.aB.length r3,.slice k1 p.ag.length k3,.slice f1 p.funcs.length f3,.slice t1 p.a7.length t3⟩ p U0 H.o.1 H.o.2.1 (H.o.2.2.2.aa E1.o.2.2 lR)).mono ?_
 rintro e u1 ⟨⟨n,rfl,hn⟩,bb⟩
 have P:Hid (Aw u1 w.heap.size #[.slice r1 p.aB.length r3,.slice k1 p.ag.length k3,.slice f1 p.funcs.length f3,.slice t1 p.a7.length t3] 29/\Aw u1 (w.heap.size+1) #[.int .i64 0,.int .i64 0,.int .i64 0,.slice none 0 0] 213/\Below w.heap.size w u1):=⟨E1.o.1.aa bb,E1.o.2.1.aa bb,Ac E1.o.2.2 lR bb⟩
 clear bb E1 p0 p1 p2 p3
 clear U0
 have p2:=P.o.1.cell 2
 simp only[jZ,i5,i8]at p2
 by_cases dL:n=0
 case neg=>
  have HN:Hid (¬Ng p fi):=fun e=>dL (hn.one e.1)
  clear hn
  obtain⟨l,j,I,J⟩:=Ce P.o.2.1
  obtain⟨aR,aS,aT,aU⟩:=NP P.o.2.1
  go_wp2_with fail
  have G:Hid _:=(((P.o.2.1.set 0 (.int .i64 (6))).set 1 (.int .i64 (0))).set 2 (.int .i64 (0))).set 3 (.slice none 0 0)
  simp only[kI,kX,kb]at G
  clear l j I J
  obtain⟨l,j,I,J⟩:=Ce G.o
  exact i6 (v:=.agg #[.int .i64 (6),.int .i64 (0),.int .i64 (0),.slice none 0 0]) (by simp[results,Tryz.results128,go_sem,l,j,I,J]) rfl ⟨⟨6,0,0,[]⟩,.slice none 0 0,rfl,.inl ⟨HN.o,rfl⟩,GN _ 0,((((P.o.2.2.setCell oS _).setCell oS _).setCell oS _).setCell oS _)⟩
 subst dL
 have bt:=Ag hn
 clear hn
 by_cases eN:fi<0
 case pos=>
  have HN:Hid (¬Ng p fi):=fun e=>absurd e.2.1 oM
  have fJ:decide (fi<0)=true:=by simpa using eN
  obtain⟨l,j,I,J⟩:=Ce P.o.2.1
  obtain⟨aR,aS,aT,aU⟩:=NP P.o.2.1
  go_wp2_with fail
  have G:Hid _:=(((P.o.2.1.set 0 (.int .i64 (6))).set 1 (.int .i64 (0))).set 2 (.int .i64 (0))).set 3 (.slice none 0 0)
  simp only[kI,kX,kb]at G
  clear l j I J
  obtain⟨l,j,I,J⟩:=Ce G.o
  exact i6 (v:=.agg #[.int .i64 (6),.int .i64 (0),.int .i64 (0),.slice none 0 0]) (by simp[results,Tryz.results128,go_sem,l,j,I,J]) rfl ⟨⟨6,0,0,[]⟩,.slice none 0 0,rfl,.inl ⟨HN.o,rfl⟩,GN _ 0,((((P.o.2.2.setCell oS _).setCell oS _).setCell oS _).setCell oS _)⟩
 by_cases fK:(p.funcs.length:Int)<=fi
 case pos=>
  have HN:Hid (¬Ng p fi):=fun e=>by
   obtain⟨f,hf,_⟩:=e.2.2
   have:=(d7.1 hf).1
   omega
  obtain⟨l,j,I,J⟩:=Ce P.o.2.1
  obtain⟨aR,aS,aT,aU⟩:=NP P.o.2.1
  go_wp2_with fail
  have G:Hid _:=(((P.o.2.1.set 0 (.int .i64 (6))).set 1 (.int .i64 (0))).set 2 (.int .i64 (0))).set 3 (.slice none 0 0)
  simp only[kI,kX,kb]at G
  clear l j I J
  obtain⟨l,j,I,J⟩:=Ce G.o
  exact i6 (v:=.agg #[.int .i64 (6),.int .i64 (0),.int .i64 (0),.slice none 0 0]) (by simp[results,Tryz.results128,go_sem,l,j,I,J]) rfl ⟨⟨6,0,0,[]⟩,.slice none 0 0,rfl,.inl ⟨HN.o,rfl⟩,GN _ 0,((((P.o.2.2.setCell oS _).setCell oS _).setCell oS _).setCell oS _)⟩
 obtain⟨q,rfl⟩:=i7 (show 0<=fi from oM)
 obtain⟨f,hf⟩:∃f,p.funcs[q]?=some f:=⟨_,an oM⟩
 obtain⟨gk,ok,ck,dp,g,cT,m0,m1,m2,m3⟩:=Ma H.o.2.2.2.funcs hf
 simp only[ip,kU]at dp
 obtain⟨rfl,rfl⟩:=dp
 obtain⟨g1,g3,g4,g6,g7,g9,rfl⟩:=Hs cT
 have ge:(q:Int)<(p.funcs.length:Int):=oM
 have HF:Hid (p.funcs[q]?=some f/\f.small/\IG w ⟨.slice g1 f.params.length g3,.slice g4 f.locals.length g6,.slice g7 f.code.length g9⟩ f/\0<f.code.length/\f.wf):=⟨hf,H.o.1.func f (d9 hf),cT,Nat.pos_of_ne_zero (bt.o.parts.2.2.1.2.2.1 q (d7.1 hf).1 f hf).ix,H.o.2.1.funcs f (d9 hf)⟩
 have df:Hid (p.funcs[((q:Nat):Int).toNat]?=some f):=by
  show p.funcs[((q:Nat):Int).toNat]?=some f
  rw[kJ]
  exact hf
 simp only[]at m0 m1 m2 m3
 rw[<-P.o.2.2.cell (d5 m0)]at m0
 rw[<-P.o.2.2.cell (d5 m1)]at m1
 rw[<-P.o.2.2.cell (d5 m2)]at m2
 rw[<-P.o.2.2.cell (d5 m3)]at m3
 clear cT hf
 go_upto_region 4 with fail
 refine Ao (fun u=>Hid ((Aw u w.heap.size #[.slice r1 p.aB.length r3,.slice k1 p.ag.length k3,.slice (some ⟨gk,ok,none⟩) p.funcs.length f3,.slice t1 p.a7.length t3] 29/\Aw u (w.heap.size+1) #[.int .i64 0,.int .i64 0,.int .i64 0,.slice none 0 0] 213/\Below w.heap.size w u)/\Aw u u1.heap.size #[.slice g1 f.params.length g3,.int .i64 f.result,.slice g4 f.locals.length g6,.slice g7 f.code.length g9] 68)) ⟨⟨P.o.1.aa (Aa _ _),P.o.2.1.aa (Aa _ _),Ac P.o.2.2 lR (Aa _ _)⟩,Aw.new _ _ _⟩ ?_
 rintro U4 E4
 generalize u1.heap.size=Y at E4⊢
 clear P m0 m1 m2 m3 p2
 clear u1
 have y3:=E4.o.2.cell 3
 simp only[jZ,i5,i8]at y3
 go_wp2_with fail
 refine(Fi (.slice g7 f.code.length g9) f.code U4 HF.o.2.1.2.2 (Rd.aa HF.o.2.2.1.2.2 E4.o.1.2.2 lR)).mono ?_
 rintro e U ⟨r,vb,vo,vi,vl,rfl,dF,cS,bb⟩
 obtain⟨v1,c1,v2,c2,v3,c3,N,c4,rfl,rfl,rfl,rfl⟩:=Q7 cS
 have E5:Hid ((Aw U w.heap.size #[.slice r1 p.aB.length r3,.slice k1 p.ag.length k3,.slice (some ⟨gk,ok,none⟩) p.funcs.length f3,.slice t1 p.a7.length t3] 29/\Aw U (w.heap.size+1) #[.int .i64 0,.int .i64 0,.int .i64 0,.slice none 0 0] 213/\Below w.heap.size w U)/\Aw U Y #[.slice g1 f.params.length g3,.int .i64 f.result,.slice g4 f.locals.length g6,.slice g7 f.code.length g9] 68/\Gx U (.slice v1 r.blocks.length c1) (.slice v2 r.order.length c2) (.slice v3 r.ej.length c3) (.slice N r.loops.length c4) r):=⟨⟨E4.o.1.1.aa bb,E4.o.1.2.1.aa bb,Ac E4.o.1.2.2 lR bb⟩,E4.o.2.aa bb,cS⟩
 have bI:=Ag dF
 clear dF cS bb E4 y3
 clear U4
 go_upto_region 5 with fail
 refine Ao (fun u=>Hid ((Aw u w.heap.size #[.slice r1 p.aB.length r3,.slice k1 p.ag.length k3,.slice (some ⟨gk,ok,none⟩) p.funcs.length f3,.slice t1 p.a7.length t3] 29/\Aw u (w.heap.size+1) #[.int .i64 0,.int .i64 0,.int .i64 0,.slice none 0 0] 213/\Below w.heap.size w u)/\Aw u Y #[.slice g1 f.params.length g3,.int .i64 f.result,.slice g4 f.locals.length g6,.slice g7 f.code.length g9] 68/\Aw u U.heap.size #[.int .i64 r.code,.int .i64 r.at_,.slice v1 r.blocks.length c1,.slice v2 r.order.length c2,.slice v3 r.ej.length c3,.slice N r.loops.length c4] 210/\Below U.heap.size U u)) ⟨⟨E5.o.1.1.aa (Aa _ _),E5.o.1.2.1.aa (Aa _ _),Ac E5.o.1.2.2 lR (Aa _ _)⟩,E5.o.2.1.aa (Aa _ _),Aw.new _ _ _,Aa _ _⟩ ?_
 rintro U6 E6
 obtain⟨y0,y1,y2,y3,y4,y5⟩:=FV E6.o.2.2.1
 by_cases aZ:r.code=0
 case neg=>
  have fE:(r.code != 0)=true:=by simpa using aZ
  have HN:Hid (¬Ng p (q:Int)):=fun e=>by
   obtain⟨f',dD,r',eT,eE⟩:=e.2.2
   rw[df.o]at dD
   have ef:=kH dD
   subst ef
   have er:=eT.one bI.o
   subst er
   exact aZ eE
  have E7:=Ag E6.o.1
  obtain⟨l,j,I,J⟩:=Ce E7.o.2.1
  obtain⟨aR,aS,aT,aU⟩:=NP E7.o.2.1
  go_wp2_with fail
  have G:Hid _:=(((E7.o.2.1.set 0 (.int .i64 (6))).set 1 (.int .i64 (0))).set 2 (.int .i64 (0))).set 3 (.slice none 0 0)
  simp only[kI,kX,kb]at G
  clear l j I J
  obtain⟨l,j,I,J⟩:=Ce G.o
  exact i6 (v:=.agg #[.int .i64 (6),.int .i64 (0),.int .i64 (0),.slice none 0 0]) (by simp[results,Tryz.results128,go_sem,l,j,I,J]) rfl ⟨⟨6,0,0,[]⟩,.slice none 0 0,rfl,.inl ⟨HN.o,rfl⟩,GN _ 0,((((E7.o.2.2.setCell oS _).setCell oS _).setCell oS _).setCell oS _)⟩
 rw[aZ]at y0
 have HI:=Ag (bI.o.gR aZ)
 have HO:=Ag (bI.o.ord aZ)
 have fV:r.blocks.length<=1024:=HI.o.nb
 have fW:f.code.length<=1024:=HI.o.len
 have x3:=E6.o.2.1.cell 3
 simp only[jZ,i5,i8]at x3
 have L:=Ag E5
 clear E5
 have aJ:=E6.o.2.2.2.size
 go_upto_region 8 with(at_make;refine lQ _ rfl _ _ 24 rfl U.heap.size 58 l0 (.slice none 0 0) 1 Tryz.underlying24 hl dH dI .i64 .i64 _ _ f.code.length rfl rfl rfl rfl (by rw[dJ];omega) oX aJ ?_;intro O a6 aL;rw[Mi]at a6)
 obtain⟨GS,cu⟩:∃G,G=U6.heap.size:=⟨_,rfl⟩
 obtain⟨A,bP⟩:∃G,G=O.heap.size:=⟨_,rfl⟩
 have E8:Hid (Aw (O.alloc (.cells #[.int .i64 0,.int .i64 0,.int .i64 0,.slice (some ⟨GS,0,none⟩) f.code.length f.code.length] 213)) U.heap.size #[.int .i64 r.code,.int .i64 r.at_,.slice v1 r.blocks.length c1,.slice v2 r.order.length c2,.slice v3 r.ej.length c3,.slice N r.loops.length c4] 210/\Below U.heap.size U (O.alloc (.cells #[.int .i64 0,.int .i64 0,.int .i64 0,.slice (some ⟨GS,0,none⟩) f.code.length f.code.length] 213))/\(O.alloc (.cells #[.int .i64 0,.int .i64 0,.int .i64 0,.slice (some ⟨GS,0,none⟩) f.code.length f.code.length] 213)).ownsRow U.heap.size 58 1 (.slice (some ⟨GS,0,none⟩) f.code.length f.code.length) f.code.length (List.replicate f.code.length (.slice none 0 0))/\Aw (O.alloc (.cells #[.int .i64 0,.int .i64 0,.int .i64 0,.slice (some ⟨GS,0,none⟩) f.code.length f.code.length] 213)) A #[.int .i64 0,.int .i64 0,.int .i64 0,.slice (some ⟨GS,0,none⟩) f.code.length f.code.length] 213/\U.heap.size<GS/\GS<A/\A<(O.alloc (.cells #[.int .i64 0,.int .i64 0,.int .i64 0,.slice (some ⟨GS,0,none⟩) f.code.length f.code.length] 213)).heap.size):=by
  have b7:=II aL
  have au:=(a6.lt _ rfl).2
  have l6:=E6.o.2.2.1.lt
  simp only[]at au
  rw[<-cu]at a6 au
  refine⟨(E6.o.2.2.1.aa b7).aa (Aa _ _),Ac (Ac E6.o.2.2.2 lR b7) lR (Aa _ _),Ai a6 (Aa _ _) lR,by rw[bP];exact Aw.new _ _ _,oM,oM,by rw[bP];simp⟩
 rw[<-cu,<-bP]
 refine Ao (fun u=>Hid (Aw u U.heap.size #[.int .i64 r.code,.int .i64 r.at_,.slice v1 r.blocks.length c1,.slice v2 r.order.length c2,.slice v3 r.ej.length c3,.slice N r.loops.length c4] 210/\Below U.heap.size U u/\u.ownsRow U.heap.size 58 1 (.slice (some ⟨GS,0,none⟩) f.code.length f.code.length) f.code.length (List.replicate f.code.length (.slice none 0 0))/\Aw u A #[.int .i64 0,.int .i64 0,.int .i64 0,.slice (some ⟨GS,0,none⟩) f.code.length f.code.length] 213/\U.heap.size<GS/\GS<A/\A<u.heap.size)) E8 ?_
 clear a6 aL E6 y0 y1 y2 y3 y4 y5 x3 aJ cu bP E8
 clear O U6
 rintro U8 E8
 obtain⟨y0,y1,y2,y3,y4,y5⟩:=FV E8.o.1
 have aJ:=E8.o.2.1.size
 go_upto_region 9 with(at_make;refine lQ _ rfl _ _ 206 rfl U.heap.size 4 j0 (.bool false) 1 Tryz.underlying206 hj eX eY .i64 .i64 _ _ r.blocks.length rfl rfl rfl rfl (by rw[eZ];omega) oX aJ ?_;intro O a6 aL;rw[DT]at a6)
 obtain⟨x,bO⟩:∃G,G=U8.heap.size:=⟨_,rfl⟩
 have E9:Hid (Aw O U.heap.size #[.int .i64 r.code,.int .i64 r.at_,.slice v1 r.blocks.length c1,.slice v2 r.order.length c2,.slice v3 r.ej.length c3,.slice N r.loops.length c4] 210/\Below U.heap.size U O/\O.ownsRow U.heap.size 58 1 (.slice (some ⟨GS,0,none⟩) f.code.length f.code.length) f.code.length (List.replicate f.code.length (.slice none 0 0))/\Aw O A #[.int .i64 0,.int .i64 0,.int .i64 0,.slice (some ⟨GS,0,none⟩) f.code.length f.code.length] 213/\U.heap.size<GS/\GS<A/\O.ownsRow U.heap.size 4 1 (.slice (some ⟨x,0,none⟩) r.blocks.length r.blocks.length) r.blocks.length (List.replicate r.blocks.length (.bool false))/\A<x/\x<O.heap.size):=by
  have b7:=II aL
  have au:=(a6.lt _ rfl).2
  simp only[]at au
  rw[<-bO]at a6 au
  exact⟨E8.o.1.aa b7,Ac E8.o.2.1 lR b7,Ai E8.o.2.2.1 b7 lR,E8.o.2.2.2.1.aa b7,E8.o.2.2.2.2.1,E8.o.2.2.2.2.2.1,a6,by rw[bO];exact E8.o.2.2.2.2.2.2,au⟩
 rw[<-bO]
 refine Ao (fun u=>Hid (Aw u U.heap.size #[.int .i64 r.code,.int .i64 r.at_,.slice v1 r.blocks.length c1,.slice v2 r.order.length c2,.slice v3 r.ej.length c3,.slice N r.loops.length c4] 210/\Below U.heap.size U u/\u.ownsRow U.heap.size 58 1 (.slice (some ⟨GS,0,none⟩) f.code.length f.code.length) f.code.length (List.replicate f.code.length (.slice none 0 0))/\Aw u A #[.int .i64 0,.int .i64 0,.int .i64 0,.slice (some ⟨GS,0,none⟩) f.code.length f.code.length] 213/\U.heap.size<GS/\GS<A/\u.ownsRow U.heap.size 4 1 (.slice (some ⟨x,0,none⟩) r.blocks.length r.blocks.length) r.blocks.length (List.replicate r.blocks.length (.bool false))/\A<x/\x<u.heap.size)) E9 ?_
 clear a6 aL E8 y0 y1 y2 y3 y4 y5 aJ bO E9
 clear O U8
 rintro U9 E9
 obtain⟨y0,y1,y2,y3,y4,y5⟩:=FV E9.o.1
 have aJ:=E9.o.2.1.size
 go_upto_region 10 with(at_make;refine lQ _ rfl _ _ 24 rfl U.heap.size 58 l0 (.slice none 0 0) 1 Tryz.underlying24 hl dH dI .i64 .i64 _ _ r.blocks.length rfl rfl rfl rfl (by rw[dJ];omega) oX aJ ?_;intro O a6 aL;rw[Mi]at a6)
 obtain⟨GF,cj⟩:∃G,G=U9.heap.size:=⟨_,rfl⟩
 have bH:Hid (Hw U (O.setCell ⟨x,0,none⟩ (.bool true)) f.code.length A GS x GF O.heap.size r (.slice v1 r.blocks.length c1) (.slice v2 r.order.length c2) (.slice v3 r.ej.length c3) (.slice N r.loops.length c4) (List.replicate f.code.length (.slice none 0 0)) (List.replicate r.blocks.length (.slice none 0 0)) Qy/\O.cell? ⟨x,0,none⟩=some (.bool false)/\O.frozen? ⟨x,0,none⟩=false):=by
  have b7:=II aL
  have au:=(a6.lt _ rfl).2
  simp only[]at au
  rw[<-cj]at a6 au
  have cL:=Ai E9.o.2.2.2.2.2.2.1 b7 lR
  refine⟨Hw.start (E9.o.1.aa b7) (Ac E9.o.2.1 lR b7) (Ai E9.o.2.2.1 b7 lR) (E9.o.2.2.2.1.aa b7) cL a6 ⟨E9.o.2.2.2.2.1,E9.o.2.2.2.2.2.1,E9.o.2.2.2.2.2.2.2.1,by have:=E9.o.2.2.2.2.2.2.2.2;omega,au⟩,?_,cL.frozenAt 0⟩
  have:=cL.cellAt 0 (by simp;exact HO.o.pos)
  simpa[HO.o.pos]using this
 rw[<-cj]
 obtain⟨B,eB⟩:∃B,B=O.heap.size:=⟨_,rfl⟩
 rw[<-eB]at bH
 clear a6 aL E9 y0 y1 y2 y3 y4 y5 aJ cj eB
 obtain⟨f8,f9⟩:=bH.o.2
 have g8:(0:Int)<(r.blocks.length:Int):=by have:=HO.o.pos;omega
 have fZ:=HO.o.pos
 go_upto_region 11 with fail
 refine Ao (fun u=>Hid (Hw U u f.code.length A GS x GF B r (.slice v1 r.blocks.length c1) (.slice v2 r.order.length c2) (.slice v3 r.ej.length c3) (.slice N r.loops.length c4) (List.replicate f.code.length (.slice none 0 0)) (List.replicate r.blocks.length (.slice none 0 0)) Qy)) bH.o.1 ?_
 clear bH f8 f9
 clear O U9
 rintro fv cZ
 obtain⟨aA,du⟩:∃R,R=Io p f r.blocks (r.order.map Int.toNat) Qy:=⟨_,rfl⟩
 have dj:=Ag du.symm
 clear du
 have bJ:Hid (OS p ((q:Nat):Int) (Vp f.code.length aA)):=.inr ⟨bt.o,Int.natCast_nonneg _,f,r,df.o,bI.o,aZ,by rw[dj.o]⟩
 go_wp2_with fail
 go_loopw [10] (fun i wr=>∃(k:Nat) (RS M:List Value) (s:WS),k<=r.order.length/\i=.int .i64 k/\Hid (Io p f r.blocks ((r.order.map Int.toNat).drop k) s=aA/\(∀b sh,s.c b=some sh->sh.length<=s.d)/\s.d<=64)/\Hid (Hw U wr f.code.length A GS x GF B r (.slice v1 r.blocks.length c1) (.slice v2 r.order.length c2) (.slice v3 r.ej.length c3) (.slice N r.loops.length c4) RS M s)) (fun i _=>r.order.length-(intOf i).toNat)
 case atStart=>exact⟨0,_,_,Qy,oM,rfl,⟨dj.o,fun b sh e=>by simp only[Qy]at e⊢;split at e<;>simp at e;subst e;simp,by simp[Qy]⟩,cZ⟩
 case round=>
 clear cZ
 obtain⟨k,RS,M,s,hk,rfl,HS,E⟩:=hrel
 have fX:r.order.length<=1024:=HO.o.len
 by_cases eR:k<r.order.length
 case pos=>
  obtain⟨z,hz⟩:∃z,r.order[k]?=some z:=⟨_,an eR⟩
  obtain⟨b,ez,hb⟩:=HO.o.ord z (d9 hz)
  obtain⟨m,hm⟩:∃m,r.blocks[b]?=some m:=⟨_,an hb⟩
  obtain⟨X,me,cA,cD,fS,fU⟩:=HI.o.cC b m hm
  obtain⟨gb,ob,xa,xc,ev,x0,x1,x2,bF⟩:=TC L.o.2.2.blocks hm
  subst ev
  rw[cA,<-E.o.aC.cell (d5 x0)]at x0
  rw[cD,<-E.o.aC.cell (d5 x1)]at x1
  rw[<-E.o.aC.cell (d5 x2)]at x2
  rcases L.o.2.2.order.2 with⟨l,_⟩|⟨Q,od,cd,j,dz⟩
  . omega
  simp only[ip,kU]at j
  obtain⟨rfl,rfl⟩:=j
  have z0:=Rd.elem Ar dz k z hz 0 _ rfl
  rw[kn,kD,ez]at z0
  have K:Hid (r.order[k]?=some z/\z=(b:Int)/\r.blocks[b]?=some m/\m.cK=(X:Int)/\m.last=(me:Int)/\Tu U (.slice xa m.next.length xc) m/\U.cell? ⟨Q,od+k,none⟩=some (.int .i64 (b:Int))):=⟨hz,ez,hm,cA,cD,bF,z0⟩
  rw[<-E.o.aC.cell (d5 z0)]at z0
  clear dz hz ez hm cA cD bF
  have fC:(b:Int)<(r.blocks.length:Int):=oM
  obtain⟨y0,y1,y2,y3,y4,y5⟩:=FV E.o.lb
  clear y0 y1 y4 y5
  have s1:¬U.heap.size=wr.heap.size:=kg (d5 y2)
  have s2:U.heap.size<wr.heap.size:=d5 y2
  have s5:¬gb=wr.heap.size:=kg (d5 x0)
  have s6:gb<wr.heap.size:=d5 x0
  have s7:¬Q=wr.heap.size:=kg (d5 z0)
  have s8:Q<wr.heap.size:=d5 z0
  go_upto_region 14 with fail
  go_region
  refine Bh (fun u=>Hid (Hw U u f.code.length A GS x GF B r (.slice (some ⟨gb,ob,none⟩) r.blocks.length c1) (.slice (some ⟨Q,od,none⟩) r.order.length c2) (.slice v3 r.ej.length c3) (.slice N r.loops.length c4) RS M s/\Aw u wr.heap.size #[.int .i64 (X:Int),.int .i64 (me:Int),.slice xa m.next.length xc] 216)) ?_ ?_
  . exact⟨(E.o.aa (Aa _ _)).aa (Ae _),(Aw.new wr _ _).aa (Ae _)⟩
  rintro aP F1
  have eL:B<=wr.heap.size:=E.o.sz
  generalize wr.heap.size=XB at F1 eL⊢
  clear s1 s2 s5 s6 s7 s8 x0 x1 x2 z0 y2 y3 E
  obtain⟨V0,cI⟩:∃V,M[b]?=some V:=⟨_,an (by rw[F1.o.1.fl];exact hb)⟩
  have dO:=F1.o.1.jn b V0 cI
  have c9:=F1.o.1.fa.cellAt b oM
  rw[cI]at c9
  have z0:=K.o.2.2.2.2.2.2
  rw[<-F1.o.1.aC.cell (d5 z0)]at z0
  obtain⟨y0,y1,y2,y3,y4,y5⟩:=FV F1.o.1.lb
  have gq:((s.c b).getD []).length<=64:=by
   cases e:s.c b with
   |none=>simp
   | some sh=>
     have h1:=HS.o.2.1 b sh e
     have h2:=HS.o.2.2
     simp only[mm]
     omega
  have dx:=F1.o.1.sz
  have s7:¬Q=aP.heap.size:=kg (d5 z0)
  have s8:Q<aP.heap.size:=d5 z0
  have s9:¬GF=aP.heap.size:=kg (d5 c9)
  have fg:GF<aP.heap.size:=d5 c9
  have fh:¬U.heap.size=aP.heap.size:=kg (d5 y3)
  have fj:U.heap.size<aP.heap.size:=d5 y3
  go_upto_region 16 with(at_builtin;refine OE rfl _ _ rfl aP B B V0 ((s.c b).getD []) rfl rfl dO dx oM ?_;intro fk fp dP cg)
  refine Ao (fun u=>Hid ((Hw U u f.code.length A GS x GF B r (.slice (some ⟨gb,ob,none⟩) r.blocks.length c1) (.slice (some ⟨Q,od,none⟩) r.order.length c2) (.slice v3 r.ej.length c3) (.slice N r.loops.length c4) RS M s/\Aw u XB #[.int .i64 (X:Int),.int .i64 (me:Int),.slice xa m.next.length xc] 216)/\Dg u B fk ((s.c b).getD []))) ⟨⟨F1.o.1.aa cg,F1.o.2.aa cg⟩,dP⟩ ?_
  clear dP cg dO c9 z0 y0 y1 y2 y3 y4 y5 dx s7 s8 s9 fg fh fj F1 cI
  clear fp
  rintro fw F2
  obtain⟨R0,dt⟩:∃R,R=G4 p f (me+1-X) X ((s.c b).getD []) s.t s.d:=⟨_,rfl⟩
  have aX:=Ag dt.symm
  clear dt
  have dk:Hid (((s.c b).getD []).length<=s.d):=by
   show((s.c b).getD []).length<=s.d
   cases e:s.c b with
   |none=>simp
   |some sh=>exact HS.o.2.1 b sh e
  obtain⟨x0,x1,x2⟩:=GA F2.o.1.2
  go_wp2_with fail
  go_loopw [12,13] (fun V i wr=>∃(d:Nat) (RS:List Value) (sh:List Int) (T:Nat->List Int) (D:Nat),X<=d/\d<=me+1/\i=.int .i64 d/\Hid ((G4 p f (me+1-d) d sh T D=R0\/(d=me+1/\R0=.inr ([],T,D)/\m.next=[]))/\sh.length<=D/\D<=64/\s.d<=D/\Dg wr B V sh)/\Hid (Hw U wr f.code.length A GS x GF B r (.slice (some ⟨gb,ob,none⟩) r.blocks.length c1) (.slice (some ⟨Q,od,none⟩) r.order.length c2) (.slice v3 r.ej.length c3) (.slice N r.loops.length c4) RS M ⟨s.c,T,D⟩/\Aw wr XB #[.int .i64 (X:Int),.int .i64 (me:Int),.slice xa m.next.length xc] 216)) (fun _ i _=>me+1-(intOf i).toNat)
  case atStart=>exact⟨X,RS,_,s.t,s.d,oM,oM,rfl,⟨.inl aX.o,dk.o,HS.o.2.2,Nat.le_refl _,F2.o.2⟩,F2.o.1⟩
  case round=>
  clear F2 x0 x1 x2 dk
  obtain⟨d,ah,sh,T,D,fG,fH,rfl,HK,F⟩:=hrel
  obtain⟨x0,x1,x2⟩:=GA F.o.2
  have gj:sh.length<=64:=jX HK.o.2.1 HK.o.2.2.1
  by_cases dK:d<=me
  case pos=>
   have eQ:(d:Int)<=(me:Int):=oM
   have dw:G4 p f (me+1-d) d sh T D=R0:=HK.o.1.elim id fun e=>absurd e.1 oM
   obtain⟨⟨yo,ya,yb,yc⟩,dT⟩:∃y,f.code[d]?=some y:=⟨_,an oM⟩
   have HY:Hid (f.code[d]?=some ⟨yo,ya,yb,yc⟩/\G4 p f (me+1-d) d sh T D=R0):=⟨dT,dw⟩
   clear dw dT
   have fI:(d:Int)<(f.code.length:Int):=oM
   obtain⟨o0,o1,o2,o3⟩:=Ce F.o.1.ob
   go_upto_region 19 with fail
   have dR:=F.o.1.sa.cellAt d oM
   have eU:=F.o.1.sa.frozenAt d
   obtain⟨V1,dy⟩:∃V,ah[d]?=some V:=⟨_,an (by rw[F.o.1.sl];omega)⟩
   rw[dy]at dR
   obtain⟨Z,vc,eV⟩:=Bo HK.o.2.2.2.2
   subst eV
   have aH:Hid (Hw U wr.drew f.code.length A GS x GF B r (.slice (some ⟨gb,ob,none⟩) r.blocks.length c1) (.slice (some ⟨Q,od,none⟩) r.order.length c2) (.slice v3 r.ej.length c3) (.slice N r.loops.length c4) ah M ⟨s.c,T,D⟩/\Aw wr.drew XB #[.int .i64 (X:Int),.int .i64 (me:Int),.slice xa m.next.length xc] 216/\Dg wr.drew B (.slice Z sh.length vc) sh):=⟨F.o.1.aa (Ae _),F.o.2.aa (Ae _),HK.o.2.2.2.2.aa (Ae _)⟩
   have dq:B<=wr.drew.heap.size:=aH.o.1.sz
   have bo:wr.drew.cell? ⟨A,3,none⟩=some (.slice (some ⟨GS,0,none⟩) f.code.length f.code.length):=aH.o.1.ob.cell 3
   refine wp_region_held_drew (S:=fun w'=>w'.cell? ⟨A,3,none⟩=some (.slice (some ⟨GS,0,none⟩) f.code.length f.code.length)) kR bo (fun bQ=> ?_)
   refine wpAnyH_take (i:=0) (v:= ?_) rfl kR kR kR (fun _ _ _ h=>h) (Or.inl ⟨by rfl,?_⟩) (by assumption) ?_
   rotate_left
   . (intro w aE;(try dsimp only at aE);go_simp;(try with_reducible rfl))
   refine wpAnyH_take (i:=1) (v:= ?_) rfl kR kR kR (fun _ _ _ h=>h) (Or.inl ⟨by rfl,?_⟩) (by assumption) ?_
   rotate_left
   . (intro w aE;(try dsimp only at aE);go_simp;(try with_reducible rfl))
   refine wpAnyH_take (i:=2) (v:= ?_) rfl kR kR kR (fun _ _ _ h=>h) (Or.inl ⟨by rfl,?_⟩) (by assumption) ?_
   rotate_left
   . (intro w aE;(try dsimp only at aE);go_simp;(try with_reducible rfl))
   refine wpAnyH_take (i:=4) (v:= ?_) rfl kR kR kR (fun _ _ _ h=>h) (Or.inl ⟨by rfl,?_⟩) (by assumption) ?_
   rotate_left
   . (intro w aE;(try dsimp only at aE);go_simp;(try with_reducible rfl))
   refine rdH 3 ?_
   intro KC aI
   go_simp
   refine aI.o _ _ (by have:=(aH.o.1.aa (Aa wr.drew (.cells #[] 2))).ob.cell 3;exact this) (fun bQ=> ?_)
   clear aI KC
   refine rdH 5 ?_
   intro KC aI
   refine Re rfl _ _ rfl wr.drew B B (.slice Z sh.length vc) sh oE oE aH.o.2.2 dq oM ?_
   intro gF cY cU bK
   obtain⟨aD,aF,eo⟩:=Bo cU
   subst eo
   have am:=Ag (f7 (aH.o.1.aa bK) (f7 (aH.o.2.1.aa bK) (aH.o.2.2.aa bK)))
   go_simp
   refine aI.o _ _ (by have:=am.o.1.ob.cell 3;exact this) (fun bQ=> ?_)
   clear aI KC
   refine wpAnyH_take (i:=6) (v:= ?_) rfl kR kR kR (fun _ _ _ h=>h) (Or.inl ⟨by rfl,?_⟩) (by assumption) ?_
   rotate_left
   . (intro w aE;(try dsimp only at aE);go_simp;(try with_reducible rfl))
   refine rdH 7 ?_
   intro KC aI
   have dn:=am.o.1.sa.cellAt d oM
   rw[dy]at dn
   have ft:=am.o.1.sa.frozenAt d
   have bV:Hid (Hw U (cY.setCell ⟨GS,d,none⟩ (.slice aD sh.length aF)) f.code.length A GS x GF B r (.slice (some ⟨gb,ob,none⟩) r.blocks.length c1) (.slice (some ⟨Q,od,none⟩) r.order.length c2) (.slice v3 r.ej.length c3) (.slice N r.loops.length c4) (ah.set d (.slice aD sh.length aF)) M ⟨s.c,Jr T d sh,D⟩/\Aw (cY.setCell ⟨GS,d,none⟩ (.slice aD sh.length aF)) XB #[.int .i64 (X:Int),.int .i64 (me:Int),.slice xa m.next.length xc] 216/\Dg (cY.setCell ⟨GS,d,none⟩ (.slice aD sh.length aF)) B (.slice Z sh.length vc) sh):=by
    have t3:=am.o.1.tb.h4
    have t4:=am.o.1.tb.h5
    have t5:=am.o.1.tb.h6
    have t6:=am.o.1.tb.h7
    exact⟨am.o.1.jW cU,am.o.2.1.other oS _,am.o.2.2.set oS _⟩
   go_simp
   refine aI.o _ _ (by have:=bV.o.1.ob.cell 3;exact this) (fun bQ=> ?_)
   clear aI KC
   refine wpAnyH_done kR ?_ _
   go_upto_region 20 with fail
   refine Ao (fun u=>Hid (Hw U u f.code.length A GS x GF B r (.slice (some ⟨gb,ob,none⟩) r.blocks.length c1) (.slice (some ⟨Q,od,none⟩) r.order.length c2) (.slice v3 r.ej.length c3) (.slice N r.loops.length c4) (ah.set d (.slice aD sh.length aF)) M ⟨s.c,Jr T d sh,D⟩/\Aw u XB #[.int .i64 (X:Int),.int .i64 (me:Int),.slice xa m.next.length xc] 216/\Dg u B (.slice Z sh.length vc) sh)) bV.o ?_
   clear bQ bV am aH cU bK dn ft dq bo o0 o1 o2 o3 dR eU x0 x1 x2 F
   rintro bw F
   have dU:=HF.o.2.2.1
   have ao:Below w.heap.size w bw:=Ac L.o.1.2.2 lR F.o.1.aC
   rcases dU.2.2.2 with⟨l,_⟩|⟨gc,oc,cc,j,bB⟩
   . omega
   simp only[ip,kU]at j
   have HQ:=Ag j.1
   have w0:=Rd.elem MI.aK bB d _ HY.o.1 0 _ rfl
   have w1:=Rd.elem MI.aK bB d _ HY.o.1 1 _ rfl
   have w2:=Rd.elem MI.aK bB d _ HY.o.1 2 _ rfl
   have w3:=Rd.elem MI.aK bB d _ HY.o.1 3 _ rfl
   rw[<-ao.cell (d5 w0),kD]at w0
   rw[<-ao.cell (d5 w1)]at w1
   rw[<-ao.cell (d5 w2)]at w2
   rw[<-ao.cell (d5 w3)]at w3
   simp only[]at w0 w1 w2 w3
   have aY:=(L.o.2.1.aa F.o.1.aC).cell 3
   simp only[jZ,i5,i8,HQ.o]at aY
   clear bB j dU
   have s1:¬gc=bw.heap.size:=kg (d5 w0)
   have s2:gc<bw.heap.size:=d5 w0
   go_upto_region 21 with fail
   refine Ao (fun u=>Hid ((Hw U u f.code.length A GS x GF B r (.slice (some ⟨gb,ob,none⟩) r.blocks.length c1) (.slice (some ⟨Q,od,none⟩) r.order.length c2) (.slice v3 r.ej.length c3) (.slice N r.loops.length c4) (ah.set d (.slice aD sh.length aF)) M ⟨s.c,Jr T d sh,D⟩/\Aw u XB #[.int .i64 (X:Int),.int .i64 (me:Int),.slice xa m.next.length xc] 216/\Dg u B (.slice Z sh.length vc) sh)/\Aw u bw.heap.size #[.int .i64 yo,.int .i64 ya,.int .i64 yb,.int .i64 yc] 96)) ⟨⟨F.o.1.aa (Aa _ _),F.o.2.1.aa (Aa _ _),F.o.2.2.aa (Aa _ _)⟩,Aw.new _ _ _⟩ ?_
   clear w0 w1 w2 w3 aY s1 s2 F ao
   rintro dm F
   generalize bw.heap.size=IB at F⊢
   obtain⟨w0,w1,w2,w3⟩:=Ce F.o.2
   have dh:=Ag (bt.o.iq HF.o.1 HY.o.1)
   have ao:=Ag (Ac L.o.1.2.2 lR F.o.1.1.aC)
   by_cases bS:yo=29
   case pos=>
    subst bS
    obtain⟨cE,cF,cG,aY⟩:=Ce (L.o.2.1.aa F.o.1.1.aC)
    go_wp2_with fail
    refine(MR ⟨.slice g1 f.params.length g3,.slice g4 f.locals.length g6,.slice g7 f.code.length g9⟩ f dm (HF.o.2.2.1.aa ao.o lR)).mono ?_
    rintro e aG ⟨s5,rfl,dN,bL⟩
    have aW:Hid (Hw U aG f.code.length A GS x GF B r (.slice (some ⟨gb,ob,none⟩) r.blocks.length c1) (.slice (some ⟨Q,od,none⟩) r.order.length c2) (.slice v3 r.ej.length c3) (.slice N r.loops.length c4) (ah.set d (.slice aD sh.length aF)) M ⟨s.c,Jr T d sh,D⟩/\Aw aG XB #[.int .i64 (X:Int),.int .i64 (me:Int),.slice xa m.next.length xc] 216/\Dg aG B (.slice Z sh.length vc) sh/\Rd aG 1 s5 (Cm f).length ((Cm f).flatMap Ad)):=⟨F.o.1.1.aa bL,F.o.1.2.1.aa bL,F.o.1.2.2.aa bL,dN⟩
    clear dN bL F w0 w1 w2 w3 cE cF cG aY ao
    go_wp2_with fail
    refine(GI (.slice Z sh.length vc) s5 sh (Cm f) aG oM (LM f) (Rd.cB aW.o.2.2.1) aW.o.2.2.2).mono ?_
    rintro e gy ⟨⟨bb,rfl,bx⟩,cX⟩
    obtain⟨m4,rfl⟩:=cX
    have aw:Hid (Hw U (aG.drewN m4) f.code.length A GS x GF B r (.slice (some ⟨gb,ob,none⟩) r.blocks.length c1) (.slice (some ⟨Q,od,none⟩) r.order.length c2) (.slice v3 r.ej.length c3) (.slice N r.loops.length c4) (ah.set d (.slice aD sh.length aF)) M ⟨s.c,Jr T d sh,D⟩/\Aw (aG.drewN m4) XB #[.int .i64 (X:Int),.int .i64 (me:Int),.slice xa m.next.length xc] 216/\Dg (aG.drewN m4) B (.slice Z sh.length vc) sh):=⟨aW.o.1.aa (Aq _ _ _),aW.o.2.1.aa (Aq _ _ _),aW.o.2.2.1.aa (Aq _ _ _)⟩
    have bp:=Ag bx
    clear bx aW
    generalize aG.drewN m4=fy at aw⊢
    have a8:G4 p f (me+1-d) d sh T D=R0:=HY.o.2
    rw[Mq HY.o.1 dK]at a8
    cases bb
    case false=>
     have cR:¬sh=Cm f:=fun e=>by have:=bp.o.2 e;cases this
     have bz:Iw p f ⟨29,ya,yb,yc⟩ sh=5:=by unfold Iw;rw[lI rfl,lE cR]
     have aq:Hid (aA=.inl (5,d)):=by
      refine Jv.bad HS.o.1 K.o.1 K.o.2.1 K.o.2.2.1 K.o.2.2.2.1 K.o.2.2.2.2.1 ?_
      rw[aX.o,<-a8,bz,lE dC]
     clear a8 bz cR
     obtain⟨l,j,I,J⟩:=Ce (L.o.1.2.1.aa aw.o.1.aC)
     obtain⟨aR,aS,aT,aU⟩:=NP (L.o.1.2.1.aa aw.o.1.aC)
     go_wp2_with fail
     have G:Hid _:=((((L.o.1.2.1.aa aw.o.1.aC).set 0 (.int .i64 (5))).set 1 (.int .i64 ((d:Int)))).set 2 (.int .i64 (0))).set 3 (.slice none 0 0)
     simp only[kI,kX,kb]at G
     clear l j I J
     obtain⟨l,j,I,J⟩:=Ce G.o
     exact i6 (v:=.agg #[.int .i64 (5),.int .i64 ((d:Int)),.int .i64 (0),.slice none 0 0]) (by simp[results,Tryz.results128,go_sem,l,j,I,J]) rfl ⟨⟨5,(d:Int),0,[]⟩,.slice none 0 0,rfl,by have:=bJ.o;rw[aq.o]at this;exact this,GN _ 0,(((((Ac L.o.1.2.2 lR aw.o.1.aC).setCell oS _).setCell oS _).setCell oS _).setCell oS _)⟩
    case true=>
     have dB:sh=Cm f:=bp.o.1 rfl
     have bz:Iw p f ⟨29,ya,yb,yc⟩ sh=0:=by unfold Iw;rw[lI rfl,lI dB]
     have dM:Ot p f ⟨29,ya,yb,yc⟩ sh=[]:=by unfold Ot;rw[lI rfl]
     have cJ:(AM f.code)[b]?=some m:=by rw[<-HO.o.cC];exact K.o.2.2.1
     have cP:d=me:=by
      apply mZ
      intro cR
      exact S8 cJ HY.o.1 (by rw[K.o.2.2.2.1];omega) (by rw[K.o.2.2.2.2.1];omega) rfl
     have aq:Hid (R0=.inr ([],Jr T d sh,D)/\m.next=[]):=by
      refine⟨?_,S9 cJ (K.o.2.2.2.2.1.trans (by rw[cP])) HY.o.1 rfl⟩
      rw[<-a8,bz,lI rfl,dM,Oy oM]
      simp
     have o2:=aw.o.1.ob.cell 2
     simp only[jZ,i5,i8]at o2
     have eG:¬(D:Int)<(sh.length:Int):=by have:=HK.o.2.1;omega
     clear a8 bz dM cJ dB
     go_wp2_with fail
     go_roundw
     case rel=>exact⟨d+1,_,sh,Jr T d sh,D,oM,oM,by go_num,⟨.inr ⟨oM,aq.o.1,aq.o.2⟩,HK.o.2.1,HK.o.2.2.1,HK.o.2.2.2.1,aw.o.2.2⟩,aw.o.1,aw.o.2.1⟩
     exact oI
   case neg=>
    have fY:(yo==29)=false:=by simp[bS]
    obtain⟨p0,p1,p2,p3⟩:=Ce (L.o.1.1.aa F.o.1.1.aC)
    obtain⟨cE,cF,cG,aY⟩:=Ce (L.o.2.1.aa F.o.1.1.aC)
    go_wp2_with fail
    have bY:=Ss bt.o dh.o
    refine(Pn ⟨.slice r1 p.aB.length r3,.slice k1 p.ag.length k3,.slice (some ⟨gk,ok,none⟩) p.funcs.length f3,.slice t1 p.a7.length t3⟩ p ⟨.slice g1 f.params.length g3,.slice g4 f.locals.length g6,.slice g7 f.code.length g9⟩ f ⟨yo,ya,yb,yc⟩ (.slice Z sh.length vc) sh dm H.o.1 bt.o.parts.1.1 HF.o.2.1 (HF.o.2.2.2.2.code _ (d9 HY.o.1)) (H.o.2.2.2.aa ao.o lR) (HF.o.2.2.1.aa ao.o lR) dh.o (Rd.cB F.o.1.2.2) oM (fun a c e=>by obtain⟨a',c',e',fD⟩:=K9 F.o.1.2.2;rw[e]at e';simp only[ip]at e';omega) bY.1 bY.2).mono ?_
    clear bY
    rintro e bT ⟨dY,rfl,dQ,ch⟩
    have ae:Hid (Hw U bT f.code.length A GS x GF B r (.slice (some ⟨gb,ob,none⟩) r.blocks.length c1) (.slice (some ⟨Q,od,none⟩) r.order.length c2) (.slice v3 r.ej.length c3) (.slice N r.loops.length c4) (ah.set d (.slice aD sh.length aF)) M ⟨s.c,Jr T d sh,D⟩/\Aw bT XB #[.int .i64 (X:Int),.int .i64 (me:Int),.slice xa m.next.length xc] 216):=⟨F.o.1.1.aa ch,F.o.1.2.1.aa ch⟩
    have bu:Hid (Dj p f ⟨yo,ya,yb,yc⟩ sh=0->Dg bT B dY (IU p f ⟨yo,ya,yb,yc⟩ sh)):=fun e=>BD (dQ e) F.o.1.1.sz
    have aN:Hid (Iw p f ⟨yo,ya,yb,yc⟩ sh=Dj p f ⟨yo,ya,yb,yc⟩ sh/\Ot p f ⟨yo,ya,yb,yc⟩ sh=IU p f ⟨yo,ya,yb,yc⟩ sh/\(Dj p f ⟨yo,ya,yb,yc⟩ sh=0->(IU p f ⟨yo,ya,yb,yc⟩ sh).length<=64)):=⟨by unfold Iw;rw[lE bS],by unfold Ot;rw[lE bS],NF⟩
    have a8:G4 p f (me+1-d) d sh T D=R0:=HY.o.2
    rw[Mq HY.o.1 dK,aN.o.1,aN.o.2.1]at a8
    clear dQ ch F w0 w1 w2 w3 cE cF cG aY p0 p1 p2 p3 ao
    generalize Dj p f ⟨yo,ya,yb,yc⟩ sh=cc at bu aN a8⊢
    generalize IU p f ⟨yo,ya,yb,yc⟩ sh=oo at bu aN a8⊢
    by_cases cM:cc=0
    case neg=>
     have fF:(cc != 0)=true:=by simpa using cM
     have aq:Hid (aA=.inl (cc,d)):=by
      refine Jv.bad HS.o.1 K.o.1 K.o.2.1 K.o.2.2.1 K.o.2.2.2.1 K.o.2.2.2.2.1 ?_
      rw[aX.o,<-a8,lE cM]
     clear a8 bu aN
     obtain⟨l,j,I,J⟩:=Ce (L.o.1.2.1.aa ae.o.1.aC)
     obtain⟨aR,aS,aT,aU⟩:=NP (L.o.1.2.1.aa ae.o.1.aC)
     go_wp2_with fail
     have G:Hid _:=((((L.o.1.2.1.aa ae.o.1.aC).set 0 (.int .i64 (cc))).set 1 (.int .i64 ((d:Int)))).set 2 (.int .i64 (0))).set 3 (.slice none 0 0)
     simp only[kI,kX,kb]at G
     clear l j I J
     obtain⟨l,j,I,J⟩:=Ce G.o
     exact i6 (v:=.agg #[.int .i64 (cc),.int .i64 ((d:Int)),.int .i64 (0),.slice none 0 0]) (by simp[results,Tryz.results128,go_sem,l,j,I,J]) rfl ⟨⟨cc,(d:Int),0,[]⟩,.slice none 0 0,rfl,by have:=bJ.o;rw[aq.o]at this;exact this,GN _ 0,(((((Ac L.o.1.2.2 lR ae.o.1.aC).setCell oS _).setCell oS _).setCell oS _).setCell oS _)⟩
    case pos=>
     subst cM
     rw[lI rfl]at a8
     have di:Hid _:=a8
     have cW:=bu.o rfl
     obtain⟨dZ,fd,eu⟩:=Bo cW
     subst eu
     have bZ:Hid (Dg bT B (.slice dZ oo.length fd) oo/\oo.length<=64):=⟨cW,aN.o.2.2 rfl⟩
     have eS:oo.length<=64:=bZ.o.2
     clear a8 cW bu aN
     obtain⟨o0,o1,o2,o3⟩:=Ce ae.o.1.ob
     have gw:=ae.o.1.ob.frozen 2
     by_cases eG:(D:Int)<(oo.length:Int)
     case pos=>
      go_wp2_with fail
      go_roundw
      case rel=>
       have cQ:max D oo.length=oo.length:=oM
       have t5:=ae.o.1.tb.h5
       have t6:=ae.o.1.tb.h6
       have t7:=ae.o.1.tb.h7
       exact⟨d+1,_,oo,Jr T d sh,oo.length,oM,oM,by go_num,⟨.inl (by have:=di.o;rw[cQ]at this;exact this),Nat.le_refl _,eS,by have:=HK.o.2.2.2.1;omega,bZ.o.1.set oS _⟩,ae.o.1.jV oo.length,ae.o.2.other oS _⟩
      case measure=>exact oI
     case neg=>
      go_wp2_with fail
      go_roundw
      case rel=>
       have cQ:max D oo.length=D:=oM
       exact⟨d+1,_,oo,Jr T d sh,D,oM,oM,by go_num,⟨.inl (by have:=di.o;rw[cQ]at this;exact this),oM,HK.o.2.2.1,HK.o.2.2.2.1,bZ.o.1⟩,ae.o.1,ae.o.2⟩
      case measure=>exact oI
  case neg=>
   have cP:d=me+1:=oM
   have eQ:¬(d:Int)<=(me:Int):=oM
   have db:Hid (Jv p f r.blocks ((r.order.map Int.toNat).drop (k+1)) me ((m.next.map Int.toNat).drop 0) sh s.c T D aA):=by
    rw[List.drop_zero]
    rcases HK.o.1 with e|⟨_,e1,e2⟩
    . rw[Oy cP]at e
      exact Jv.of HS.o.1 K.o.1 K.o.2.1 K.o.2.2.1 K.o.2.2.2.1 K.o.2.2.2.2.1 (by rw[aX.o,<-e]) (.inl rfl)
    exact Jv.of HS.o.1 K.o.1 K.o.2.1 K.o.2.2.1 K.o.2.2.2.1 K.o.2.2.2.2.1 (by rw[aX.o,e1]) (.inr e2)
   have dd:Hid (∀b aj,s.c b=some aj->aj.length<=D):=fun b aj e=>jX (HS.o.2.1 b aj e) HK.o.2.2.2.1
   have ce:=HK.o.2.2.2.2
   obtain⟨Z,vc,eV⟩:=Bo ce
   subst eV
   have d6:Hid (Hw U wr f.code.length A GS x GF B r (.slice (some ⟨gb,ob,none⟩) r.blocks.length c1) (.slice (some ⟨Q,od,none⟩) r.order.length c2) (.slice v3 r.ej.length c3) (.slice N r.loops.length c4) ah M ⟨s.c,T,D⟩/\Aw wr XB #[.int .i64 (X:Int),.int .i64 (me:Int),.slice xa m.next.length xc] 216/\Dg wr B (.slice Z sh.length vc) sh):=⟨F.o.1,F.o.2,ce⟩
   have eF:D<=64:=HK.o.2.2.1
   have dX:=Ag HK.o.2.1
   clear ce HK F aX
   have fT:m.next.length<=2:=HI.o.two m (d9 K.o.2.2.1)
   go_wp2_with fail
   clear x0 x1 x2
   go_loopw [17] (fun q wr=>∃(i:Nat) (M:List Value) (C:Nat->Option (List Int)),i<=m.next.length/\q=.int .i64 i/\Hid (Jv p f r.blocks ((r.order.map Int.toNat).drop (k+1)) me ((m.next.map Int.toNat).drop i) sh C T D aA/\∀b aj,C b=some aj->aj.length<=D)/\Hid (Hw U wr f.code.length A GS x GF B r (.slice (some ⟨gb,ob,none⟩) r.blocks.length c1) (.slice (some ⟨Q,od,none⟩) r.order.length c2) (.slice v3 r.ej.length c3) (.slice N r.loops.length c4) ah M ⟨C,T,D⟩/\Aw wr XB #[.int .i64 (X:Int),.int .i64 (me:Int),.slice xa m.next.length xc] 216/\Dg wr B (.slice Z sh.length vc) sh)) (fun q _=>m.next.length-(intOf q).toNat)
   case atStart=>exact⟨0,M,s.c,oM,rfl,⟨db.o,dd.o⟩,d6⟩
   case round=>
   clear d6 db dd
   obtain⟨i,M,C,fL,rfl,HA,F⟩:=hrel
   obtain⟨x0,x1,x2⟩:=GA F.o.2.1
   by_cases eP:i<m.next.length
   case pos=>
    obtain⟨z,hz⟩:∃z,m.next[i]?=some z:=⟨_,an eP⟩
    obtain⟨t,ew,dS⟩:=HO.o.nxt b m K.o.2.2.1 z (d9 hz)
    subst ew
    have bF:=K.o.2.2.2.2.2.1
    rcases bF.2 with⟨l,_⟩|⟨gn,on,cn,j,dA⟩
    . omega
    simp only[ip,kU]at j
    rw[j.1]at x2
    have n0:=Rd.elem Ar dA i _ hz 0 _ rfl
    rw[kn,kD,<-F.o.1.aC.cell (d5 n0)]at n0
    have HN:Hid ((m.next.map Int.toNat).drop i=t::(m.next.map Int.toNat).drop (i+1)):=P6 (by rw[kh,hz];simp)
    clear dA hz bF j
    have eO:(i:Int)<(m.next.length:Int):=oM
    have gu:(t:Int)<(r.blocks.length:Int):=oM
    have aQ:=F.o.1.ca.cellAt t oM
    have eh:=F.o.1.ca.frozenAt t
    obtain⟨W0,bR⟩:∃W,M[t]?=some W:=⟨_,an (by rw[F.o.1.fl];exact dS)⟩
    have cH:=F.o.1.fa.cellAt t oM
    have eA:=F.o.1.fa.frozenAt t
    rw[bR]at cH
    rw[kh,nO dS]at aQ
    simp only[nF]at aQ
    have eH:¬GF=x:=by have:=F.o.1.tb.h6;omega
    have fB:¬x=GF:=fun e=>eH e.symm
    have hW:=F.o.1.jn t W0 bR
    obtain⟨wa,wc,eW⟩:=Bo hW
    subst eW
    have HW:Hid _:=hW
    have dg:=Ag bR
    clear hW bR
    cases hC:C t with
    | none=>
      rw[hC]at aQ
      simp only[Option.isSome_none]at aQ
      have dW:Hid (Hw U ((wr.setCell ⟨x,t,none⟩ (.bool true)).setCell ⟨GF,t,none⟩ (.slice Z sh.length vc)) f.code.length A GS x GF B r (.slice (some ⟨gb,ob,none⟩) r.blocks.length c1) (.slice (some ⟨Q,od,none⟩) r.order.length c2) (.slice v3 r.ej.length c3) (.slice N r.loops.length c4) ah (M.set t (.slice Z sh.length vc)) ⟨Kk C t sh,T,D⟩/\Aw ((wr.setCell ⟨x,t,none⟩ (.bool true)).setCell ⟨GF,t,none⟩ (.slice Z sh.length vc)) XB #[.int .i64 (X:Int),.int .i64 (me:Int),.slice xa m.next.length xc] 216/\Dg ((wr.setCell ⟨x,t,none⟩ (.bool true)).setCell ⟨GF,t,none⟩ (.slice Z sh.length vc)) B (.slice Z sh.length vc) sh):=by
       have t5:=F.o.1.tb.h5
       have t6:=F.o.1.tb.h6
       have t7:=F.o.1.tb.h7
       exact⟨F.o.1.iB F.o.2.2,(F.o.2.1.other oS _).other oS _,(F.o.2.2.set oS _).set oS _⟩
      have bX:Hid (Jv p f r.blocks ((r.order.map Int.toNat).drop (k+1)) me ((m.next.map Int.toNat).drop (i+1)) sh (Kk C t sh) T D aA/\∀b aj,Kk C t sh b=some aj->aj.length<=D):=by
       refine⟨Jv.new (by rw[<-HN.o];exact HA.o.1) hC,fun b aj e=> ?_⟩
       simp only[Kk]at e
       split at e
       . cases e;exact dX.o
       exact HA.o.2 b aj e
      clear HW dg
      go_wp2_with fail
      go_roundw
      case rel=>exact⟨i+1,_,Kk C t sh,oM,by go_num,bX,dW⟩
      exact oI
    | some s1=>
      rw[hC]at aQ
      simp only[Option.isSome_some]at aQ
      have dG:(C t).getD []=s1:=by rw[hC];rfl
      have gh:s1.length<=D:=HA.o.2 t s1 hC
      have de:=Ag hC
      simp only[dG]at HW cH
      clear hC dG dg
      go_wp2_with fail
      refine(GI (.slice wa s1.length wc) (.slice Z sh.length vc) s1 sh wr oM oM (Rd.cB HW.o) (Rd.cB F.o.2.2)).mono ?_
      rintro e gD ⟨⟨bb,rfl,bx⟩,cX⟩
      obtain⟨m4,rfl⟩:=cX
      have aM:Hid (Hw U (wr.drewN m4) f.code.length A GS x GF B r (.slice (some ⟨gb,ob,none⟩) r.blocks.length c1) (.slice (some ⟨Q,od,none⟩) r.order.length c2) (.slice v3 r.ej.length c3) (.slice N r.loops.length c4) ah M ⟨C,T,D⟩/\Aw (wr.drewN m4) XB #[.int .i64 (X:Int),.int .i64 (me:Int),.slice xa m.next.length xc] 216/\Dg (wr.drewN m4) B (.slice Z sh.length vc) sh):=⟨F.o.1.aa (Aq _ _ _),F.o.2.1.aa (Aq _ _ _),F.o.2.2.aa (Aq _ _ _)⟩
      have bp:=Ag bx
      clear bx F HW x0 x1 x2 aQ eh cH eA n0
      generalize wr.drewN m4=fA at aM⊢
      obtain⟨x0,x1,x2⟩:=GA aM.o.2.1
      cases bb
      case false=>
       have aq:=Ag (Jv.none_ (by rw[<-HN.o];exact HA.o.1) de.o (fun e=>by have:=bp.o.2 e;cases this))
       obtain⟨l,j,I,J⟩:=Ce (L.o.1.2.1.aa aM.o.1.aC)
       obtain⟨aR,aS,aT,aU⟩:=NP (L.o.1.2.1.aa aM.o.1.aC)
       go_wp2_with fail
       have G:Hid _:=((((L.o.1.2.1.aa aM.o.1.aC).set 0 (.int .i64 (4))).set 1 (.int .i64 ((me:Int)))).set 2 (.int .i64 (0))).set 3 (.slice none 0 0)
       simp only[kI,kX,kb]at G
       clear l j I J
       obtain⟨l,j,I,J⟩:=Ce G.o
       exact i6 (v:=.agg #[.int .i64 (4),.int .i64 ((me:Int)),.int .i64 (0),.slice none 0 0]) (by simp[results,Tryz.results128,go_sem,l,j,I,J]) rfl ⟨⟨4,(me:Int),0,[]⟩,.slice none 0 0,rfl,by have:=bJ.o;rw[aq.o]at this;exact this,GN _ 0,(((((Ac L.o.1.2.2 lR aM.o.1.aC).setCell oS _).setCell oS _).setCell oS _).setCell oS _)⟩
      case true=>
       have bX:=Ag (f7 (Jv.same (by rw[<-HN.o];exact HA.o.1) de.o (bp.o.1 rfl)) HA.o.2)
       go_wp2_with fail
       go_roundw
       case rel=>exact⟨i+1,M,C,oM,by go_num,bX,aM⟩
       exact oI
   case neg=>
    have fP:i=m.next.length:=oM
    have dV:Hid (Io p f r.blocks ((r.order.map Int.toNat).drop (k+1)) ⟨C,T,D⟩=aA/\(∀b sh,C b=some sh->sh.length<=D)/\D<=64):=by
     refine⟨Jv.some_ (sh:=sh) (me:=me) ?_,HA.o.2,eF⟩
     have:=HA.o.1
     have eM:(m.next.map Int.toNat).drop i=[]:=List.drop_eq_nil_of_le (by rw[kZ];omega)
     rw[eM]at this
     exact this
    have eO:¬(i:Int)<(m.next.length:Int):=oM
    go_wp2_with fail
    go_roundw
    case rel=>exact⟨k+1,_,M,⟨C,T,D⟩,oM,by go_num,dV,F.o.1⟩
    exact oI
 case neg=>
  have fR:k=r.order.length:=oM
  have aq:Hid (aA=.inr s):=by
   have:=HS.o.1
   rw[List.drop_eq_nil_of_le (by rw[kZ];omega),Io]at this
   exact this.symm
  have fQ:¬(k:Int)<(r.order.length:Int):=oM
  obtain⟨y0,y1,y2,y3,y4,y5⟩:=FV E.o.lb
  obtain⟨o0,o1,o2,o3⟩:=Ce E.o.ob
  have eJ:w.heap.size+1<U.heap.size:=L.o.1.2.1.lt
  obtain⟨l,j,I,J⟩:=Ce (L.o.1.2.1.aa E.o.aC)
  obtain⟨aR,aS,aT,aU⟩:=NP (L.o.1.2.1.aa E.o.aC)
  go_wp2_with fail
  have G:Hid _:=((((L.o.1.2.1.aa E.o.aC).set 0 (.int .i64 (0))).set 1 (.int .i64 (0))).set 2 (.int .i64 ((s.d:Int)))).set 3 (.slice (some ⟨GS,0,none⟩) f.code.length f.code.length)
  simp only[kI,kX,kb]at G
  clear l j I J
  obtain⟨l,j,I,J⟩:=Ce G.o
  exact i6 (v:=.agg #[.int .i64 (0),.int .i64 (0),.int .i64 ((s.d:Int)),.slice (some ⟨GS,0,none⟩) f.code.length f.code.length]) (by simp[results,Tryz.results128,go_sem,l,j,I,J]) rfl ⟨⟨0,0,(s.d:Int),(List.range f.code.length).map s.t⟩,.slice (some ⟨GS,0,none⟩) f.code.length f.code.length,rfl,by have:=bJ.o;rw[aq.o]at this;exact this,E.o.told eJ _ _ _ _,(((((Ac L.o.1.2.2 lR E.o.aC).setCell oS _).setCell oS _).setCell oS _).setCell oS _)⟩
structure Bd(w u0 u:World)(X gc cc gd cd n:Nat):Prop where
 c:∃C:List Int,C.length=n/\u.ownsRow w.heap.size 2 1 (sG gc n cc) n (C.flatMap Ad)
 d:∃D:List Int,D.length=n/\u.ownsRow w.heap.size 2 1 (sG gd n cd) n (D.flatMap Ad)
 ne:gc≠gd
 aC:Below w.heap.size w u
 up:gc<X/\gd<X/\w.heap.size<=X
 xs:X<=u.heap.size
 fr:∀b,b<X->b≠gc->b≠gd->u.heap[b]?=u0.heap[b]?
section
variable {w u0 u u':World} {X gc cc gd cd n:Nat}
theorem Bd.aa(h:Bd w u0 u X gc cc gd cd n)(a:Below u.heap.size u u'):Bd w u0 u' X gc cc gd cd n:=by obtain⟨C,c1,c2⟩:=h.c;obtain⟨D,e,f⟩:=h.d;exact⟨⟨C,c1,Ai c2 a lR⟩,⟨D,e,Ai f a lR⟩,h.ne,Ac h.aC lR a,h.up,jX h.xs a.size,fun b h1 h2 g=>by have:=h.xs;rw[a.block b oM];exact h.fr b h1 h2 g⟩
theorem Bd.set(h:Bd w u0 u X gc cc gd cd n){a:Addr}(j:X<=a.block)(V:Value):Bd w u0 (u.setCell a V) X gc cc gd cd n:=by obtain⟨C,c1,c2⟩:=h.c;obtain⟨D,f,g⟩:=h.d;have:=h.up;exact⟨⟨C,c1,i9 c2 (a:=a) (fun e=>by simp only[Value.ownBlock,i4]at e;omega) V⟩,⟨D,f,i9 g (a:=a) (fun e=>by simp only[Value.ownBlock,i4]at e;omega) V⟩,h.ne,h.aC.setCell oM _,h.up,by rw[lM];exact h.xs,fun b h1 h2 i=>by rw[km u a b V oM];exact h.fr b h1 h2 i⟩
theorem Bd.cost(h:Bd w u0 u X gc cc gd cd n)(k:j<n):(∃z:Int,u.cell? ⟨gc,j,none⟩=some (iZ z))/\u.frozen? ⟨gc,j,none⟩=false/\∀z:Int,Bd w u0 (u.setCell ⟨gc,j,none⟩ (iZ z)) X gc cc gd cd n/\(u.setCell ⟨gc,j,none⟩ (iZ z)).cell? ⟨gc,j,none⟩=some (iZ z):=by obtain⟨C,c1,c2⟩:=h.c;obtain⟨D,f,g⟩:=h.d;have a:=kW c2 j oM;rw[FN (an oM)]at a;refine⟨⟨_,a⟩,c2.frozenAt j,fun z=>⟨?_,m9 u _ _ a⟩⟩;have e:=(lm c2 j (iZ z)).1;rw[MJ]at e;exact⟨⟨_,by rw[lw];exact c1,e⟩,⟨D,f,Cv g h.ne.symm⟩,h.ne,h.aC.setCell (AQ c2).1 _,h.up,by rw[lM];exact h.xs,fun b h1 h2 i=>by rw[km u ⟨gc,j,none⟩ b _ h2];exact h.fr b h1 h2 i⟩
theorem Bd.depth(h:Bd w u0 u X gc cc gd cd n)(k:j<n):(∃z:Int,u.cell? ⟨gd,j,none⟩=some (iZ z))/\u.frozen? ⟨gd,j,none⟩=false/\∀z:Int,Bd w u0 (u.setCell ⟨gd,j,none⟩ (iZ z)) X gc cc gd cd n/\(u.setCell ⟨gd,j,none⟩ (iZ z)).cell? ⟨gd,j,none⟩=some (iZ z):=by obtain⟨C,c1,c2⟩:=h.c;obtain⟨D,i,a⟩:=h.d;have e:=kW a j oM;rw[FN (an oM)]at e;refine⟨⟨_,e⟩,a.frozenAt j,fun z=>⟨?_,m9 u _ _ e⟩⟩;have g:=(lm a j (iZ z)).1;rw[MJ]at g;exact⟨⟨C,c1,Cv c2 h.ne⟩,⟨_,by rw[lw];exact i,g⟩,h.ne,h.aC.setCell (AQ a).1 _,h.up,by rw[lM];exact h.xs,fun b h1 h2 f=>by rw[km u ⟨gd,j,none⟩ b _ f];exact h.fr b h1 h2 f⟩
theorem Bd.re(h:Bd w u0 u X gc cc gd cd n):Bd w u u u.heap.size gc cc gd cd n:=by obtain⟨C,c1,c2⟩:=h.c;obtain⟨D,b,a⟩:=h.d;exact⟨h.c,h.d,h.ne,h.aC,⟨(c2.lt gc rfl).2,(a.lt gd rfl).2,h.aC.size⟩,Nat.le_refl _,fun _ _ _ _=>rfl⟩
end
def VC(w u0:World)(X gc cc gd cd n:Nat)(e:Ending)(u':World):Prop:=∃c f a:Int,e=.returned (.agg #[iZ c,iZ f,iZ a,sN,sN])/\Below w.heap.size w u'/\Bd w u0 u' X gc cc gd cd n
theorem CF{w:World}{a c d e f:Value}(h:Aw w b #[a,c,d,e,f] t):w.cell? ⟨b,0,none⟩=some a/\w.cell? ⟨b,1,none⟩=some c/\w.cell? ⟨b,2,none⟩=some d/\w.cell? ⟨b,3,none⟩=some e/\w.cell? ⟨b,4,none⟩=some f:=⟨h.cell 0,h.cell 1,h.cell 2,h.cell 3,h.cell 4⟩
theorem JB{w:World}{a:Array Value}(h:Aw w b a t):w.frozen? ⟨b,0,none⟩=false/\w.frozen? ⟨b,1,none⟩=false/\w.frozen? ⟨b,2,none⟩=false/\w.frozen? ⟨b,3,none⟩=false/\w.frozen? ⟨b,4,none⟩=false:=⟨h.frozen 0,h.frozen 1,h.frozen 2,h.frozen 3,h.frozen 4⟩
theorem Bd.gW{w u0 U:World}{X gc cc gd cd n:Nat}(h:Bd w u0 U X gc cc gd cd n)(b x1 x2 x3 c:Value):Bd w u0 (((((U.setCell ⟨X+1,0,none⟩ b).setCell ⟨X+1,1,none⟩ x1).setCell ⟨X+1,2,none⟩ x2).setCell ⟨X+1,3,none⟩ x3).setCell ⟨X+1,4,none⟩ c) X gc cc gd cd n:=
 have e:X<=X+1:=oM
 ((((h.set (a:=⟨X+1,0,none⟩) e b).set (a:=⟨X+1,1,none⟩) e x1).set (a:=⟨X+1,2,none⟩) e x2).set (a:=⟨X+1,3,none⟩) e x3).set (a:=⟨X+1,4,none⟩) e c
structure Rq(w u0 U:World)(X gc cc gd cd n:Nat)(P4:Array Value):Prop where
 bd:Bd w u0 U X gc cc gd cd n
 pb:Aw U X P4 29
 rb:Aw U (X+1) #[iZ 0,iZ 0,iZ 0,sN,sN] 161
theorem Rq.aa{w u0 U c:World}{X gc cc gd cd n:Nat}{b:Array Value}(h:Rq w u0 U X gc cc gd cd n b)(a:Below U.heap.size U c):Rq w u0 c X gc cc gd cd n b:=⟨h.bd.aa a,h.pb.aa a,h.rb.aa a⟩
theorem Oi(v:VP)(p:MP)(q:Nat)(X gc cc gd cd:Nat)(w u:World)(hX:u.heap.size=X)(hs:p.small)(hw:p.wf)(aY:Bj p 0)(h:Ft w v p)(hq:q<p.funcs.length)(hB:Bd w u u X gc cc gd cd p.funcs.length):
 Calls Tryz.prog 119 #[.agg #[v.r,v.k,v.f,v.t],iZ (q:Int),sG gc p.funcs.length cc,sG gd p.funcs.length cd] u (VC w u X gc cc gd cd p.funcs.length):=by
 obtain⟨cF,hi,cA,cD,cE⟩:=kS Co;obtain⟨O,P,L,M,J,Q,f1,f3,rfl⟩:=h.sl;obtain⟨f,hf⟩:∃f,p.funcs[q]?=some f:=⟨_,an hq⟩;obtain⟨K,N,ck,aS,g,aN,m0,m1,m2,m3⟩:=Ma h.funcs hf;simp only[ip,kU]at aS;obtain⟨rfl,rfl⟩:=aS;obtain⟨g1,g3,g4,g6,g7,g9,rfl⟩:=Hs aN;have aZ:=hs.func f (d9 hf);have cU:(q:Int)<(p.funcs.length:Int):=oM;have cj:=hs.funcs;have cW:=hs.a7;have H:Hid (p.small/\p.wf/\Bj p 0/\Ft w ⟨.slice O p.aB.length P,.slice L p.ag.length M,sO K N p.funcs.length f3,.slice J p.a7.length Q⟩ p/\p.funcs[q]?=some f/\f.small/\Rd w 4 (.slice g7 f.code.length g9) f.code.length (f.code.flatMap MI.cells)/\Cr (q:Int)):=⟨hs,hw,aY,h,hf,aZ,aN.2.2,Ah oM oM⟩
 simp only[]at m3;have M3:=Ag m3;have cX:=hB.up;have E0:Hid (Rq w u ((u.alloc (.cells #[.slice O p.aB.length P,.slice L p.ag.length M,sO K N p.funcs.length f3,.slice J p.a7.length Q] 29)).alloc (.cells #[iZ 0,iZ 0,iZ 0,sN,sN] 161)) X gc cc gd cd p.funcs.length #[.slice O p.aB.length P,.slice L p.ag.length M,sO K N p.funcs.length f3,.slice J p.a7.length Q]):=by have e:=GP u #[.slice O p.aB.length P,.slice L p.ag.length M,sO K N p.funcs.length f3,.slice J p.a7.length Q] #[iZ 0,iZ 0,iZ 0,sN,sN] 29 161;rw[hX]at e;exact⟨hB.aa (hX▸e.2.2),e.1,e.2.1⟩
 clear hs hw aY h hf aZ aN hB m0 m1 m2 m3;go_enter Tryz.func119,Tryz.ntmps119;go_upto_region 1 with fail
 refine Ao (fun U=>Hid (Rq w u U X gc cc gd cd p.funcs.length #[.slice O p.aB.length P,.slice L p.ag.length M,sO K N p.funcs.length f3,.slice J p.a7.length Q])) E0 ?_;rintro U E1;clear E0;obtain⟨p0,p1,p2,p3⟩:=Ce E1.o.pb;have m3:=Af E1.o.bd.aC M3.o;go_wp2_with fail;refine(Fi (.slice g7 f.code.length g9) f.code U H.o.2.2.2.2.2.1.2.2 (Rd.aa H.o.2.2.2.2.2.2.1 E1.o.bd.aC lR)).mono ?_;rintro e u2 ⟨r,vb,vo,vi,vl,rfl,aI,aM,F⟩;obtain⟨v1,c1,v2,c2,v3,c3,v4,c4,rfl,rfl,rfl,rfl⟩:=Ld aM;have bI:=Ag aI;have cT:r.loops.length<=1024:=(GG aI).1;have b2:=Aa u2 (.cells #[iZ r.code,iZ r.at_,.slice v1 r.blocks.length c1,.slice v2 r.order.length c2,.slice v3 r.ej.length c3,.slice v4 r.loops.length c4] 210);have E2:=Ag (f7 ((E1.o.aa F).aa b2) (f7 ((Aw.new _ _ _):Aw (u2.alloc (.cells #[iZ r.code,iZ r.at_,.slice v1 r.blocks.length c1,.slice v2 r.order.length c2,.slice v3 r.ej.length c3,.slice v4 r.loops.length c4] 210)) u2.heap.size #[iZ r.code,iZ r.at_,.slice v1 r.blocks.length c1,.slice v2 r.order.length c2,.slice v3 r.ej.length c3,.slice v4 r.loops.length c4] 210) (aM.hT b2 lR)));clear aI aM F b2 E1 p0 p1 p2 p3 m3;go_upto_region 2 with fail
 generalize u2.heap.size=FB at E2⊢;refine Ao (fun U=>Hid (Rq w u U X gc cc gd cd p.funcs.length #[.slice O p.aB.length P,.slice L p.ag.length M,sO K N p.funcs.length f3,.slice J p.a7.length Q]/\Aw U FB #[iZ r.code,iZ r.at_,.slice v1 r.blocks.length c1,.slice v2 r.order.length c2,.slice v3 r.ej.length c3,.slice v4 r.loops.length c4] 210/\Gx U (.slice v1 r.blocks.length c1) (.slice v2 r.order.length c2) (.slice v3 r.ej.length c3) (.slice v4 r.loops.length c4) r)) E2 ?_
 rintro U Z;clear E2;clear u2;obtain⟨y0,y1,y2,y3,y4,y5⟩:=FV Z.o.2.1;by_cases aA:r.code=0;case neg=>
  have cJ:(r.code != 0)=true:=by simpa using aA
  obtain⟨n,x,b,z,A⟩:=CF Z.o.1.rb;obtain⟨a8,ae,ah,aj,am⟩:=JB Z.o.1.rb;go_wp2_with fail;have G:Hid _:=((((Z.o.1.rb.set 0 (iZ 3)).set 1 (iZ (q:Int))).set 2 (iZ r.at_)).set 3 sN).set 4 sN;simp only[kI,kX,kb]at G;clear n x b z A;obtain⟨n,x,b,z,A⟩:=CF G.o;exact i6 (v:=.agg #[iZ 3,iZ (q:Int),iZ r.at_,sN,sN]) (by simp[results,Tryz.results119,go_sem,n,x,b,z,A]) rfl ⟨3,(q:Int),r.at_,rfl,(Z.o.1.bd.gW _ _ _ _ _).aC,(Z.o.1.bd.gW _ _ _ _ _)⟩
 have cH:=Ag aA;have HI:=Ag (bI.o.gR aA);have cS:=HI.o.nb;obtain⟨p0,p1,p2,p3⟩:=Ce Z.o.1.pb;rw[aA]at y0;go_wp2_with fail;refine(LR ⟨.slice O p.aB.length P,.slice L p.ag.length M,sO K N p.funcs.length f3,.slice J p.a7.length Q⟩ p (q:Int) U H.o.1 H.o.2.1 H.o.2.2.2.2.2.2.2 (H.o.2.2.2.1.aa Z.o.1.bd.aC lR)).mono ?_;rintro e u3 ⟨y,s,rfl,bF,aP,F⟩;obtain⟨sa,sc,es⟩:∃a c,s=.slice a y.gG.length c:=by obtain⟨_,_,h2,_⟩:=aP;exact h2.bW
 subst es;have HT:=Ag bF;have bO:X+1<u3.heap.size:=(Z.o.1.rb.aa F).lt;have b3:=Aa u3 (.cells #[iZ y.code,iZ y.at_,iZ y.depth,.slice sa y.gG.length sc] 213);have E4:=Ag (f7 ((Z.o.1.aa F).aa b3) (f7 ((Z.o.2.1.aa F).aa b3) (f7 ((Z.o.2.2.hT F lR).hT b3 lR) (f7 ((Aw.new _ _ _):Aw (u3.alloc (.cells #[iZ y.code,iZ y.at_,iZ y.depth,.slice sa y.gG.length sc] 213)) u3.heap.size #[iZ y.code,iZ y.at_,iZ y.depth,.slice sa y.gG.length sc] 213) ((OJ.of aP).aa b3)))));clear bF aP F b3 Z p0 p1 p2 p3 y0 y1 y2 y3 y4 y5;clear U;go_upto_region 5 with fail
 generalize u3.heap.size=TB at E4 bO⊢;refine Ao (fun U=>Hid (Rq w u U X gc cc gd cd p.funcs.length #[.slice O p.aB.length P,.slice L p.ag.length M,sO K N p.funcs.length f3,.slice J p.a7.length Q]/\Aw U FB #[iZ r.code,iZ r.at_,.slice v1 r.blocks.length c1,.slice v2 r.order.length c2,.slice v3 r.ej.length c3,.slice v4 r.loops.length c4] 210/\Gx U (.slice v1 r.blocks.length c1) (.slice v2 r.order.length c2) (.slice v3 r.ej.length c3) (.slice v4 r.loops.length c4) r/\Aw U TB #[iZ y.code,iZ y.at_,iZ y.depth,.slice sa y.gG.length sc] 213/\OJ U (.slice sa y.gG.length sc) y.gG.length)) E4 ?_
 rintro U B;clear E4;obtain⟨z0,z1,z2,z3⟩:=Ce B.o.2.2.2.1;by_cases aD:y.code=0;case neg=>
  have cY:(y.code != 0)=true:=by simpa using aD
  obtain⟨n,x,b,z,A⟩:=CF B.o.1.rb;obtain⟨a8,ae,ah,aj,am⟩:=JB B.o.1.rb;go_wp2_with fail;have G:Hid _:=((((B.o.1.rb.set 0 (iZ 4)).set 1 (iZ (q:Int))).set 2 (iZ y.at_)).set 3 sN).set 4 sN;simp only[kI,kX,kb]at G;clear n x b z A;obtain⟨n,x,b,z,A⟩:=CF G.o;exact i6 (v:=.agg #[iZ 4,iZ (q:Int),iZ y.at_,sN,sN]) (by simp[results,Tryz.results119,go_sem,n,x,b,z,A]) rfl ⟨4,(q:Int),y.at_,rfl,(B.o.1.bd.gW _ _ _ _ _).aC,(B.o.1.bd.gW _ _ _ _ _)⟩
 have bJ:=Ag (HT.o.len aD H.o.2.2.2.2.1);rw[aD]at z0;clear aD;have F0:=Ag (f7 ((Aa _ _):Below U.heap.size U (U.alloc (.cells #[] 2))) (BK U 2 1));go_wp2_with fail;clear z0 z1 z2 z3;go_loopw [11,12,13] (fun V i _ wr=>∃(j:Nat) (aV:Option Addr) (E:List Int) (cV:Nat),j<=r.loops.length/\V=.slice aV E.length cV/\i=iZ j/\E.length<=j/\Hid (Below U.heap.size U wr/\wr.ownsRow U.heap.size 2 1 (.slice aV E.length cV) E.length (E.flatMap Ad))) (fun _ i _ _=>r.loops.length-(intOf i).toNat)
 case atStart=>exact⟨0,_,[],_,oM,rfl,rfl,sP,F0.o.1,F0.o.2⟩
 obtain⟨j,aV,E,cV,hj,rfl,rfl,bH,R⟩:=hrel;have y5:=Af R.o.1 (FV B.o.2.1).2.2.2.2.2;by_cases bZ:j<r.loops.length;case pos=>
  have cP:(j:Int)<(r.loops.length:Int):=oM;obtain⟨l,hl⟩:∃l,r.loops[j]?=some l:=⟨_,an bZ⟩;obtain⟨gl,ol,a1,x1,b,x2,bK,i0,i1,i2,bx⟩:=Qf B.o.2.2.1.loops hl;subst bK;have bt:=d9 hl;obtain⟨⟨hd,aF,bX⟩,bT,bR,bS⟩:=HI.o.loop _ bt;rw[aF]at i0;obtain⟨hb,aJ⟩:∃hb,r.blocks[hd]?=some hb:=⟨_,an bX⟩;obtain⟨gb,ob,b1,b2,eb,j0,_,_,_⟩:=Hd B.o.2.2.1.blocks aJ;subst eb;obtain⟨ja,je,e2,e3,bP,bV⟩:=HI.o.cC hd hb aJ;rw[e2]at j0;have cL:(hd:Int)<(r.blocks.length:Int):=oM;have HZ:Hid (Kw U ⟨.slice a1 l.back.length x1,.slice b l.blocks.length x2⟩ l/\l.head=(hd:Int)/\l.small):=⟨bx,aF,by unfold ML.small;omega⟩
  have HC:Hid (∀W:World,Below U.heap.size U W->(W.cell? ⟨X,0,none⟩=some (.slice O p.aB.length P)/\W.cell? ⟨X,1,none⟩=some (.slice L p.ag.length M)/\W.cell? ⟨X,2,none⟩=some (sO K N p.funcs.length f3)/\W.cell? ⟨X,3,none⟩=some (.slice J p.a7.length Q))/\W.cell? ⟨FB,2,none⟩=some (sO gb ob r.blocks.length c1)/\W.cell? ⟨FB,5,none⟩=some (sO gl ol r.loops.length c4)/\W.cell? ⟨gl,ol+j*3,none⟩=some (iZ (hd:Int))/\W.cell? ⟨gl,ol+j*3+1,none⟩=some (.slice a1 l.back.length x1)/\W.cell? ⟨gl,ol+j*3+2,none⟩=some (.slice b l.blocks.length x2)/\W.cell? ⟨gb,ob+hd*3,none⟩=some (iZ (ja:Int))):=fun W hW=>⟨⟨Af hW (Ce B.o.1.pb).1,Af hW (Ce B.o.1.pb).2.1,Af hW (Ce B.o.1.pb).2.2.1,Af hW (Ce B.o.1.pb).2.2.2⟩,Af hW (FV B.o.2.1).2.2.1,Af hW (FV B.o.2.1).2.2.2.2.2,Af hW i0,Af hW i1,Af hW i2,Af hW j0⟩
  clear i0 i1 i2 j0 e2 e3 aF bT bR bS bt hl aJ bx bP bV;go_upto_region 11 with fail
  clear y5;have I:Hid (Below U.heap.size U wr.drew/\wr.drew.ownsRow U.heap.size 2 1 (.slice aV E.length cV) E.length (E.flatMap Ad)):=⟨Ac R.o.1 lR (Ae _),Ai R.o.2 (Ae _) lR⟩
  refine wp_region_held_drew (S:=fun W=>W.cell? ⟨FB,2,none⟩=some (sO gb ob r.blocks.length c1)/\W.cell? ⟨FB,5,none⟩=some (sO gl ol r.loops.length c4)/\W.cell? ⟨gl,ol+j*3,none⟩=some (iZ (hd:Int))/\W.cell? ⟨gb,ob+hd*3,none⟩=some (iZ (ja:Int))) kR (by obtain⟨_,h5,h6,h7,_,_,h8⟩:=HC.o _ I.o.1;exact⟨h5,h6,h7,h8⟩) (fun aq=> ?_)
  clear R;generalize wr.drew=UD at I aq⊢;refine An 0 ?_;refine An 1 ?_;refine An 2 ?_;refine An 3 ?_;refine An 4 ?_;refine An 5 ?_;refine An 6 ?_;refine An 7 ?_;refine An 8 ?_;refine An 9 ?_;refine An 10 ?_;refine An 11 ?_;refine wpAnyH_done kR ?_ _;go_simp;go_upto_region 12 with fail
  have E9:Hid (Below U.heap.size U UD.drew/\UD.drew.ownsRow U.heap.size 2 1 (.slice aV E.length cV) E.length (E.flatMap Ad)):=⟨Ac I.o.1 lR (Ae _),Ai I.o.2 (Ae _) lR⟩
  refine wp_region_held_drew (S:=fun W=>W.cell? ⟨X,0,none⟩=some (.slice O p.aB.length P)/\W.cell? ⟨X,1,none⟩=some (.slice L p.ag.length M)/\W.cell? ⟨X,2,none⟩=some (sO K N p.funcs.length f3)/\W.cell? ⟨X,3,none⟩=some (.slice J p.a7.length Q)/\W.cell? ⟨FB,5,none⟩=some (sO gl ol r.loops.length c4)/\W.cell? ⟨gl,ol+j*3,none⟩=some (iZ (hd:Int))/\W.cell? ⟨gl,ol+j*3+1,none⟩=some (.slice a1 l.back.length x1)/\W.cell? ⟨gl,ol+j*3+2,none⟩=some (.slice b l.blocks.length x2)) kR (by obtain⟨⟨h1,h2,h3,h4⟩,_,h6,h7,h8,h9,_⟩:=HC.o _ E9.o.1;exact⟨h1,h2,h3,h4,h6,h7,h8,h9⟩) (fun aq=> ?_)
  clear I;generalize UD.drew=UE at E9 aq⊢;refine An 0 ?_;refine An 1 ?_;refine An 2 ?_;refine An 3 ?_;refine An 4 ?_;refine An 5 ?_;refine An 6 ?_;refine rdH 7 ?_;intro KC bL;go_simp;have aG:=Jq ⟨.slice O p.aB.length P,.slice L p.ag.length M,sO K N p.funcs.length f3,.slice J p.a7.length Q⟩ p (q:Int) ⟨.slice a1 l.back.length x1,.slice b l.blocks.length x2⟩ l UE H.o.1 H.o.2.1 H.o.2.2.2.2.2.2.2 (H.o.2.2.2.1.aa (B.o.1.aa E9.o.1).bd.aC lR) HZ.o.2.2 (HZ.o.1.aa E9.o.1 lR);rw[HZ.o.2.1]at aG;refine aG.mono ?_;clear aG;rintro e u6 ⟨⟨nf,rfl,ch⟩,F⟩;have au:=Ag (f7 (Ac E9.o.1 lR F) (Ai E9.o.2 F lR));clear ch F;refine bL.o _ _ (by obtain⟨⟨h1,h2,h3,h4⟩,_,h6,h7,h8,h9,_⟩:=HC.o _ au.o.1;exact⟨h1,h2,h3,h4,h6,h7,h8,h9⟩) (fun aq=> ?_);refine An 8 ?_;refine wpAnyH_done kR ?_ _;clear aq;go_simp;clear E9 HC;by_cases aL:nf=0;case neg=>(have cQ:(nf != 0)=true:=by simpa using aL);have ao:Hid _:=B.o.1.aa au.o.1;obtain⟨n,x,b,z,A⟩:=CF ao.o.rb;obtain⟨a8,ae,ah,aj,am⟩:=JB ao.o.rb;go_wp2_with fail;have G:Hid _:=((((ao.o.rb.set 0 (iZ 5)).set 1 (iZ (q:Int))).set 2 (iZ (ja:Int))).set 3 sN).set 4 sN;simp only[kI,kX,kb]at G;clear n x b z A;obtain⟨n,x,b,z,A⟩:=CF G.o;exact i6 (v:=.agg #[iZ 5,iZ (q:Int),iZ (ja:Int),sN,sN]) (by simp[results,Tryz.results119,go_sem,n,x,b,z,A]) rfl ⟨5,(q:Int),(ja:Int),rfl,(ao.o.bd.gW _ _ _ _ _).aC,(ao.o.bd.gW _ _ _ _ _)⟩
  subst aL;have EA:Hid (Below U.heap.size U (u6.alloc (.cells #[iZ (ja:Int)] 2))/\(u6.alloc (.cells #[iZ (ja:Int)] 2)).ownsRow U.heap.size 2 1 (.slice aV E.length cV) E.length (E.flatMap Ad)):=⟨Ac au.o.1 lR (Aa _ _),Ai au.o.2 (Aa _ _) lR⟩
  generalize hm:E.length=m at bH EA⊢;have HM:=Ag hm;clear hm;go_wp2_with (first|(at_builtin;refine wpList_append_lies _ rfl _ _ 58 rfl U.heap.size 2 cF (iZ 0) 1 8 Tryz.underlying58 hi cA cD cE rfl dC (.slice aV m cV) m (E.flatMap Ad) rfl EA.o.2 ⟨u6.heap.size,0,none⟩ 1 1 [iZ (ja:Int)] rfl rfl (Ci u6 _ _) (Dz _) oM oX oM EA.o.1.size _ rfl ?_;intro g5 aR w5 bw bp bQ ce;have aQ:Hid (Below U.heap.size U w5/\w5.ownsRow U.heap.size 2 1 (sG g5 (m+1) aR) (m+1) ((E++[(ja:Int)]).flatMap Ad)):=⟨EA.o.1.grown bp EA.o.1.size (fun q hq=>(EA.o.2.lt q hq).1),by rw[<-Ja];exact bw⟩;clear bw bp bQ ce)|go_in)
  have bu:(E++[(ja:Int)]).length=m+1:=by rw[f6,HM.o];rfl
  clear EA;go_roundw;case rel=>exact⟨j+1,some ⟨g5,0,none⟩,E++[(ja:Int)],aR,oM,by rw[bu],by go_num,oM,aQ.o.1,by rw[bu];exact aQ.o.2⟩
  exact oI
 case neg=>
  go_wp2_with fail;clear y5;generalize hm:E.length=m at bH R⊢;have HM:=Ag hm;go_loopw [14] (fun i cG=>∃j:Nat,j<=p.a7.length/\i=iZ j/\cG=wr) (fun i _=>p.a7.length-(intOf i).toNat)
  case atStart=>exact⟨0,oM,rfl,rfl⟩
  obtain⟨k,hk,rfl,rfl⟩:=hrel;have p3:=Af R.o.1 (Ce B.o.1.pb).2.2.2;by_cases bY:k<p.a7.length;case pos=>
   have cM:(k:Int)<(p.a7.length:Int):=oM;obtain⟨ct,aH⟩:∃c,p.a7[k]?=some c:=⟨_,an bY⟩;obtain⟨gt,ot,et,bz,bB⟩:∃gt ot,J=some ⟨gt,ot,none⟩/\w.cell? ⟨gt,ot+k*4,none⟩=some (iZ ct.func)/\w.cell? ⟨gt,ot+k*4+1,none⟩=some (iZ ct.head):=by
    rcases H.o.2.2.2.1.a7.2 with⟨e0,_⟩|⟨gt,ot,c',e1,hc⟩
    . omega
    simp only[ip,kU]at e1;exact⟨gt,ot,e1.1,Rd.elem MT.aK hc k ct aH 0 _ rfl,Rd.elem MT.aK hc k ct aH 1 _ rfl⟩
   subst et;have I:Hid _:=B.o.1.aa R.o.1;have c0:=Af I.o.bd.aC bz;have cI:=Af I.o.bd.aC bB;(have HR:Hid (Rd wr 1 (.slice aV E.length cV) E.length (E.flatMap Ad)):=by have:=Rd.cB R.o.2;rw[HM.o];exact this);rw[HM.o]at HR;clear bz bB aH;(cases hfq:(ct.func==(q:Int)));(case false=>go_wp2_with fail;go_roundw;(case rel=>exact⟨k+1,oM,by go_num,trivial⟩);exact oI);case true=>go_wp2_with fail;refine(D9 (.slice aV m cV) E ct.head wr (by rw[HM.o];omega) (by rw[HM.o];exact HR.o)).mono ?_;rintro e u3 ⟨⟨F,rfl,cu⟩,rfl⟩;clear cu;(cases F);(case true=>go_wp2_with fail;go_roundw;(case rel=>exact⟨k+1,oM,by go_num,trivial⟩);exact oI);case false=>(skip);obtain⟨n,x,b,z,A⟩:=CF I.o.rb;obtain⟨a8,ae,ah,aj,am⟩:=JB I.o.rb;go_wp2_with fail;have G:Hid _:=((((I.o.rb.set 0 (iZ 6)).set 1 (iZ (q:Int))).set 2 (iZ ct.head)).set 3 sN).set 4 sN;simp only[kI,kX,kb]at G;clear n x b z A;obtain⟨n,x,b,z,A⟩:=CF G.o;exact i6 (v:=.agg #[iZ 6,iZ (q:Int),iZ ct.head,sN,sN]) (by simp[results,Tryz.results119,go_sem,n,x,b,z,A]) rfl ⟨6,(q:Int),ct.head,rfl,(I.o.bd.gW _ _ _ _ _).aC,(I.o.bd.gW _ _ _ _ _)⟩
  case neg=>
   obtain⟨C,aT,aU⟩:=(B.o.1.aa R.o.1).bd.c;have I:=Ag (f7 (B.o.1.aa R.o.1) (f7 (B.o.2.1.aa R.o.1) (f7 (B.o.2.2.1.hT R.o.1 lR) (f7 (B.o.2.2.2.1.aa R.o.1) (B.o.2.2.2.2.aa R.o.1)))));have aw:=Ag (f7 aT (Rd.cB aU));clear aT aU R p3;obtain⟨p0,p1,p2,p3⟩:=Ce I.o.1.pb;go_wp2_with fail;refine(JL ⟨.slice O p.aB.length P,.slice L p.ag.length M,sO K N p.funcs.length f3,.slice J p.a7.length Q⟩ p (q:Int) (sG gc p.funcs.length cc) C wr H.o.1 H.o.2.1 H.o.2.2.2.2.2.2.2 (H.o.2.2.2.1.aa I.o.1.bd.aC lR) (by rw[aw.o.1];exact aw.o.2) (by rw[aw.o.1];exact cj)).mono ?_;rintro e u6 ⟨⟨nc,rfl,cg⟩,F⟩;have E9:=Ag (f7 (I.o.1.aa F) (f7 (I.o.2.1.aa F) (f7 (I.o.2.2.1.hT F lR) (f7 (I.o.2.2.2.1.aa F) (I.o.2.2.2.2.aa F)))));clear F I aw p0 p1 p2 p3 cg;obtain⟨⟨zc,d0⟩,d1,a6⟩:=E9.o.1.bd.cost hq;have T:Hid (Rq w u (u6.setCell ⟨gc,q,none⟩ (iZ nc)) X gc cc gd cd p.funcs.length #[.slice O p.aB.length P,.slice L p.ag.length M,sO K N p.funcs.length f3,.slice J p.a7.length Q]/\Aw (u6.setCell ⟨gc,q,none⟩ (iZ nc)) TB #[iZ y.code,iZ y.at_,iZ y.depth,.slice sa y.gG.length sc] 213/\OJ (u6.setCell ⟨gc,q,none⟩ (iZ nc)) (.slice sa y.gG.length sc) y.gG.length/\(u6.setCell ⟨gc,q,none⟩ (iZ nc)).cell? ⟨gc,q,none⟩=some (iZ nc)):=⟨⟨(a6 nc).1,E9.o.1.pb.other (a:=⟨gc,q,none⟩) (by show X≠gc;omega) _,E9.o.1.rb.other (a:=⟨gc,q,none⟩) (by show X+1≠gc;omega) _⟩,E9.o.2.2.2.1.other (a:=⟨gc,q,none⟩) (by show TB≠gc;omega) _,E9.o.2.2.2.2.set d0 _,(a6 nc).2⟩
   clear a6;(go_upto_region 21 with fail);refine Ao (fun U=>Hid (Rq w u U X gc cc gd cd p.funcs.length #[.slice O p.aB.length P,.slice L p.ag.length M,sO K N p.funcs.length f3,.slice J p.a7.length Q]/\Aw U TB #[iZ y.code,iZ y.at_,iZ y.depth,.slice sa y.gG.length sc] 213/\OJ U (.slice sa y.gG.length sc) y.gG.length/\U.cell? ⟨gc,q,none⟩=some (iZ nc))) T ?_
   clear T;rintro U2 T;have d0:=T.o.2.2.2;by_cases aL:nc<0;(case pos=>(skip);obtain⟨n,x,b,z,A⟩:=CF T.o.1.rb;obtain⟨a8,ae,ah,aj,am⟩:=JB T.o.1.rb;go_wp2_with fail;have G:Hid _:=((((T.o.1.rb.set 0 (iZ 7)).set 1 (iZ (q:Int))).set 2 (iZ 0)).set 3 sN).set 4 sN;simp only[kI,kX,kb]at G;clear n x b z A;obtain⟨n,x,b,z,A⟩:=CF G.o;exact i6 (v:=.agg #[iZ 7,iZ (q:Int),iZ 0,sN,sN]) (by simp[results,Tryz.results119,go_sem,n,x,b,z,A]) rfl ⟨7,(q:Int),0,rfl,(T.o.1.bd.gW _ _ _ _ _).aC,(T.o.1.bd.gW _ _ _ _ _)⟩);obtain⟨D,aW,aX⟩:=T.o.1.bd.d;have aE:=Ag (f7 aW (Rd.cB aX));clear aW aX;obtain⟨p0,p1,p2,p3⟩:=Ce T.o.1.pb;obtain⟨z0,z1,z2,z3⟩:=Ce T.o.2.1;go_wp2_with fail;refine(Og ⟨.slice O p.aB.length P,.slice L p.ag.length M,sO K N p.funcs.length f3,.slice J p.a7.length Q⟩ p q f y (.slice sa y.gG.length sc) (sG gd p.funcs.length cd) D U2 H.o.1 H.o.2.2.1 (H.o.2.2.2.1.aa T.o.1.bd.aC lR) H.o.2.2.2.2.1 T.o.2.2.1 bJ.o (by rw[aE.o.1];exact aE.o.2) aE.o.1).mono ?_;rintro e u7 ⟨⟨nd,rfl⟩,F⟩;have EC:=Ag (T.o.1.aa F);obtain⟨⟨zd,d0⟩,d1,a6⟩:=EC.o.bd.depth hq;have Y:=Ag (f7 ((⟨(a6 nd).1,EC.o.pb.other (a:=⟨gd,q,none⟩) (by show X≠gd;omega) _,EC.o.rb.other (a:=⟨gd,q,none⟩) (by show X+1≠gd;omega) _⟩):Rq w u (u7.setCell ⟨gd,q,none⟩ (iZ nd)) X gc cc gd cd p.funcs.length #[.slice O p.aB.length P,.slice L p.ag.length M,sO K N p.funcs.length f3,.slice J p.a7.length Q]) ((a6 nd).2));clear a6;(go_upto_region 24 with fail);clear EC d0 d1
   refine Ao (fun U=>Hid (Rq w u U X gc cc gd cd p.funcs.length #[.slice O p.aB.length P,.slice L p.ag.length M,sO K N p.funcs.length f3,.slice J p.a7.length Q]/\U.cell? ⟨gd,q,none⟩=some (iZ nd))) Y ?_
   clear Y;rintro U3 Y;have d0:=Y.o.2;by_cases cR:nd>64;(case pos=>(skip);obtain⟨n,x,b,z,A⟩:=CF Y.o.1.rb;obtain⟨a8,ae,ah,aj,am⟩:=JB Y.o.1.rb;go_wp2_with fail;have G:Hid _:=((((Y.o.1.rb.set 0 (iZ 8)).set 1 (iZ (q:Int))).set 2 (iZ 0)).set 3 sN).set 4 sN;simp only[kI,kX,kb]at G;obtain⟨n,x,b,z,A⟩:=CF G.o;exact i6 (v:=.agg #[iZ 8,iZ (q:Int),iZ 0,sN,sN]) (by simp[results,Tryz.results119,go_sem,n,x,b,z,A]) rfl ⟨8,(q:Int),0,rfl,(Y.o.1.bd.gW _ _ _ _ _).aC,(Y.o.1.bd.gW _ _ _ _ _)⟩);obtain⟨n,x,b,z,A⟩:=CF Y.o.1.rb;obtain⟨a8,ae,ah,aj,am⟩:=JB Y.o.1.rb;go_wp2_with fail;have G:Hid _:=((((Y.o.1.rb.set 0 (iZ 0)).set 1 (iZ 0)).set 2 (iZ 0)).set 3 sN).set 4 sN;simp only[kI,kX,kb]at G;clear n x b z A;obtain⟨n,x,b,z,A⟩:=CF G.o;exact i6 (v:=.agg #[iZ 0,iZ 0,iZ 0,sN,sN]) (by simp[results,Tryz.results119,go_sem,n,x,b,z,A]) rfl ⟨0,0,0,rfl,(Y.o.1.bd.gW _ _ _ _ _).aC,(Y.o.1.bd.gW _ _ _ _ _)⟩
theorem Mn(a:List MF):∀(n:Nat) (done:List Int),(∀z∈done,∃q:Nat,z=(q:Int)/\q<a.length)->(∀z∈GM a n done,∃q:Nat,z=(q:Int)/\q<a.length)/\(GM a n done).length<=done.length+n:=by
 intro n;induction n with
 |zero=>intro done h;exact⟨h,Nat.le_refl _⟩
 | succ n f=>
   intro done h;unfold GM;split
   . rename_i i c;(have d:i<a.length:=by have:=List.mem_of_find?_eq_some c;simpa using this);obtain⟨h1,h2⟩:=f (done++[(i:Int)]) fun z b=>by
      rcases kB.1 b with e|e
      . exact h z e
      exact⟨i,kM.1 e,d⟩
     refine⟨h1,?_⟩;rw[f6,jY]at h2;omega
   exact⟨fun z b=>(by cases b),sP⟩
def Ub(w:World)(n:Nat)(e:Ending)(u':World):Prop:=∃(c f a:Int) (vC vD:Value),e=.returned (.agg #[iZ c,iZ f,iZ a,vC,vD])/\Below w.heap.size w u'/\(∃g i c1 h j c2,vC=.slice g i c1/\vD=.slice h j c2)/\(c=0->∃(d b:Nat) (C:List Int),vC=sG d n b/\C.length=n/\u'.ownsRow w.heap.size 2 1 (sG d n b) n (C.flatMap Ad))
structure Bp(w u:World)(X OB:Nat)(kc kd:Nat)(P4:Array Value)(vC vD:Value)(C D:List Int):Prop where
 pb:Aw u X P4 29
 rb:Aw u (X+1) #[iZ 0,iZ 0,iZ 0,sN,sN] 161
 ob:Aw u OB #[iZ 0,iZ 0,iZ 0,vC,vD] 161
 lo:X+1<w.heap.size/\w.heap.size<=OB
 c:u.ownsRow w.heap.size 2 1 vC kc (C.flatMap Ad)
 d:u.ownsRow w.heap.size 2 1 vD kd (D.flatMap Ad)
 ne:∀b,vC.ownBlock=some b->vD.ownBlock=some b->False
 cl:C.length=kc
 dl:D.length=kd
 aC:Below w.heap.size w u
section
variable {w u u':World} {X OB kc kd:Nat} {P4:Array Value} {vC vD:Value} {C D:List Int}
theorem Bp.aa(h:Bp w u X OB kc kd P4 vC vD C D)(a:Below u.heap.size u u'):Bp w u' X OB kc kd P4 vC vD C D:={h with pb:=h.pb.aa a,rb:=h.rb.aa a,ob:=h.ob.aa a,c:=Ai h.c a lR,d:=Ai h.d a lR,aC:=Ac h.aC lR a}
theorem Bp.iL(h:Bp w u X OB kc kd P4 vC vD C D)(z:Int)(V:Value)(l:u'.ownsRow w.heap.size 2 1 V (kc+1) (C.flatMap Ad++[iZ z]))(f:u.grownBy u' vC.ownBlock)(m:V.ownBlock=vC.ownBlock\/V.ownBlock=some u.heap.size):Bp w (u'.setCell ⟨OB,3,none⟩ V) X OB (kc+1) kd P4 V vD (C++[z]) D/\u'.cell? ⟨OB,3,none⟩=some vC/\u'.frozen? ⟨OB,3,none⟩=false:=by
 have k:=h.lo;have g:Aw u' OB _ _:=h.ob.grown f h.c dC;have r:Aw u' X _ _:=h.pb.grown f h.c dC;have s:Aw u' (X+1) _ _:=h.rb.grown f h.c dC;have i:u'.ownsRow w.heap.size 2 1 vD kd (D.flatMap Ad):=Fg h.d f (fun b n q=>h.ne b q.symm n);refine⟨⟨r.other (a:=⟨OB,3,none⟩) (by show X≠OB;omega) _,s.other (a:=⟨OB,3,none⟩) (by show X+1≠OB;omega) _,by have:=g.set 3 V;simpa using this,k,?_,i9 i (a:=⟨OB,3,none⟩) (fun q=>B3 i g dC _ q rfl) _,fun b h1 h2=> ?_,by rw[f6,h.cl];rfl,h.dl,((h.aC.grown f h.aC.size (fun j p=>(h.c.lt j p).1)).setCell k.2 _)⟩,by rw[g.cell];rfl,g.frozen 3⟩
 . rw[kO];exact i9 l (a:=⟨OB,3,none⟩) (fun q=>B3 l g dC _ q rfl) V
 rcases m with e|e
 . exact h.ne b (e▸h1) h2
 rw[e]at h1;have:=Ko h.d h2;simp only[i4]at h1;omega
theorem Bp.j4(h:Bp w u X OB kc kd P4 vC vD C D)(z:Int)(V:Value)(k:u'.ownsRow w.heap.size 2 1 V (kd+1) (D.flatMap Ad++[iZ z]))(f:u.grownBy u' vD.ownBlock)(l:V.ownBlock=vD.ownBlock\/V.ownBlock=some u.heap.size):Bp w (u'.setCell ⟨OB,4,none⟩ V) X OB kc (kd+1) P4 vC V C (D++[z])/\u'.cell? ⟨OB,4,none⟩=some vD/\u'.frozen? ⟨OB,4,none⟩=false:=by
 have i:=h.lo;have g:Aw u' OB _ _:=h.ob.grown f h.d dC;have p:Aw u' X _ _:=h.pb.grown f h.d dC;have r:Aw u' (X+1) _ _:=h.rb.grown f h.d dC;have c':u'.ownsRow w.heap.size 2 1 vC kc (C.flatMap Ad):=Fg h.c f (fun b m q=>h.ne b m q.symm);refine⟨⟨p.other (a:=⟨OB,4,none⟩) (by show X≠OB;omega) _,r.other (a:=⟨OB,4,none⟩) (by show X+1≠OB;omega) _,by have:=g.set 4 V;simpa using this,i,i9 c' (a:=⟨OB,4,none⟩) (fun q=>B3 c' g dC _ q rfl) _,?_,fun b h1 h2=> ?_,h.cl,by rw[f6,h.dl];rfl,((h.aC.grown f h.aC.size (fun j n=>(h.d.lt j n).1)).setCell i.2 _)⟩,by rw[g.cell];rfl,g.frozen 4⟩
 . rw[kO];exact i9 k (a:=⟨OB,4,none⟩) (fun q=>B3 k g dC _ q rfl) V
 rcases l with e|e
 . exact h.ne b h1 (e▸h2)
 rw[e]at h2;have:=Ko h.c h1;simp only[i4]at h2;omega
end
structure Bq(w u:World)(X OB gc cc gd cd n:Nat)(P4:Array Value):Prop where
 bd:Bd w u u u.heap.size gc cc gd cd n
 pb:Aw u X P4 29
 rb:Aw u (X+1) #[iZ 0,iZ 0,iZ 0,sN,sN] 161
 ob:Aw u OB #[iZ 0,iZ 0,iZ 0,sG gc n cc,sG gd n cd] 161
 lo:X+1<w.heap.size
theorem Bq.aa{w u u':World}{X OB d b e c n:Nat}{P4:Array Value}(h:Bq w u X OB d b e c n P4)(a:Below u.heap.size u u'):Bq w u' X OB d b e c n P4:=⟨(h.bd.aa a).re,h.pb.aa a,h.rb.aa a,h.ob.aa a,h.lo⟩
theorem GB{u:World}{B k n c g b:Nat}{e:TypeId}{xs:List Value}{d:Array Value}(h:u.ownsRow B e k (sG g n c) n xs)(a:Aw u b d t)(i:e≠t):b≠g:=fun q=>by
 obtain⟨_,c1,f⟩:=AQ h;unfold Aw at a;rw[q,f]at a;injection a with a
 injection a with _ a
 exact i a
theorem Bq.set{w u:World}{X OB e g f j n b:Nat}{P4:Array Value}(h:Bq w u X OB e g f j n P4)(t:b≠X/\b≠X+1/\b≠OB/\w.heap.size<=b/\b≠e/\b≠f)(i:Nat)(V:Value):Bq w (u.setCell ⟨b,i,none⟩ V) X OB e g f j n P4:=by obtain⟨h1,h2,p,q,r,s⟩:=t;obtain⟨C,c1,c2⟩:=h.bd.c;obtain⟨D,l,m⟩:=h.bd.d;have c3:=Cv (i:=i) (z:=V) c2 r.symm;have k:=Cv (i:=i) (z:=V) m s.symm;exact⟨⟨⟨C,c1,c3⟩,⟨D,l,k⟩,h.bd.ne,h.bd.aC.setCell q _,⟨(c3.lt e rfl).2,(k.lt f rfl).2,by rw[lM];exact h.bd.aC.size⟩,Nat.le_refl _,fun _ _ _ _=>rfl⟩,h.pb.other (a:=⟨b,i,none⟩) h1.symm _,h.rb.other (a:=⟨b,i,none⟩) h2.symm _,h.ob.other (a:=⟨b,i,none⟩) p.symm _,h.lo⟩
theorem Bq.of{w u u':World}{X OB g e i f n:Nat}{P4:Array Value}(h:Bq w u X OB g e i f n P4)(l:Bd w u u' u.heap.size g e i f n):Bq w u' X OB g e i f n P4:=by
 obtain⟨C,c1,c2⟩:=h.bd.c;obtain⟨D,q,p⟩:=h.bd.d;have j:∀{b:Nat} {k:Array Value} {t:TypeId},2≠t->Aw u b k t->Aw u' b k t:=fun m a=>by have:=l.fr _ a.lt (GB c2 a m) (GB p a m);unfold Aw at a⊢;rw[this];exact a
 exact⟨l.re,j dC h.pb,j dC h.rb,j dC h.ob,h.lo⟩
theorem LO(v:VP)(p:MP)(w:World)(hs:p.small)(hw:p.wf)(h:Ft w v p):
 Calls Tryz.prog 90 #[.agg #[v.r,v.k,v.f,v.t]] w (Ub w p.funcs.length):=by
 obtain⟨aS,hi,aP,aQ,aR⟩:=kS Co;obtain⟨s,u,l,m,x,y,f1,f3,rfl⟩:=h.sl;have bL:=hs.funcs;have H:=Ag (f7 hs (f7 hw h));obtain⟨X,hX⟩:∃X,w.heap.size=X:=⟨_,rfl⟩;have E0:Hid (Aw ((w.alloc (.cells #[.slice s p.aB.length u,.slice l p.ag.length m,.slice f1 p.funcs.length f3,.slice x p.a7.length y] 29)).alloc (.cells #[iZ 0,iZ 0,iZ 0,sN,sN] 161)) X #[.slice s p.aB.length u,.slice l p.ag.length m,.slice f1 p.funcs.length f3,.slice x p.a7.length y] 29/\Aw ((w.alloc (.cells #[.slice s p.aB.length u,.slice l p.ag.length m,.slice f1 p.funcs.length f3,.slice x p.a7.length y] 29)).alloc (.cells #[iZ 0,iZ 0,iZ 0,sN,sN] 161)) (X+1) #[iZ 0,iZ 0,iZ 0,sN,sN] 161/\Below X w ((w.alloc (.cells #[.slice s p.aB.length u,.slice l p.ag.length m,.slice f1 p.funcs.length f3,.slice x p.a7.length y] 29)).alloc (.cells #[iZ 0,iZ 0,iZ 0,sN,sN] 161))):=by have e:=GP w #[.slice s p.aB.length u,.slice l p.ag.length m,.slice f1 p.funcs.length f3,.slice x p.a7.length y] #[iZ 0,iZ 0,iZ 0,sN,sN] 29 161;rw[hX]at e;exact e
 have g:=Ag hX;go_enter Tryz.func90,Tryz.ntmps90;go_upto_region 1 with fail
 refine Ao (fun U=>Hid (Aw U X #[.slice s p.aB.length u,.slice l p.ag.length m,.slice f1 p.funcs.length f3,.slice x p.a7.length y] 29/\Aw U (X+1) #[iZ 0,iZ 0,iZ 0,sN,sN] 161/\Below X w U)) E0 ?_
 rintro U E1;obtain⟨p0,p1,p2,p3⟩:=Ce E1.o.1;have am:Hid (∀U,Below X w U->Below w.heap.size w U):=fun U hU=>by rw[g.o];exact hU
 go_wp2_with fail;refine(CO ⟨.slice s p.aB.length u,.slice l p.ag.length m,.slice f1 p.funcs.length f3,.slice x p.a7.length y⟩ p U H.o.1 H.o.2.1 (H.o.2.2.aa (am.o _ E1.o.2.2) lR)).mono ?_;rintro e u1 ⟨⟨n,rfl,hn⟩,bb⟩;have E2:=Ag (f7 (E1.o.1.aa bb) (f7 (E1.o.2.1.aa bb) (Ac E1.o.2.2 (by rw[g.o];exact Nat.le_refl _) bb)));by_cases aN:n=0;case neg=>
  have bJ:(n != 0)=true:=by simpa using aN
  obtain⟨P,Q,R,T,W⟩:=CF E2.o.2.1;obtain⟨aD,aE,aF,aG,aH⟩:=JB E2.o.2.1;go_wp2_with fail;have G:Hid _:=((((E2.o.2.1.set 0 (iZ 1)).set 1 (iZ 0)).set 2 (iZ 0)).set 3 sN).set 4 sN;simp only[kI,kX,kb]at G;obtain⟨P,Q,R,T,W⟩:=CF G.o;exact i6 (v:=.agg #[iZ 1,iZ 0,iZ 0,sN,sN]) (by simp[results,Tryz.results90,go_sem,P,Q,R,T,W]) rfl ⟨1,0,0,sN,sN,rfl,((((((am.o _ E2.o.2.2).setCell (by show w.heap.size<=X+1;rw[g.o];omega) _).setCell (by show w.heap.size<=X+1;rw[g.o];omega) _).setCell (by show w.heap.size<=X+1;rw[g.o];omega) _).setCell (by show w.heap.size<=X+1;rw[g.o];omega) _).setCell (by show w.heap.size<=X+1;rw[g.o];omega) _),⟨_,_,_,_,_,_,rfl,rfl⟩,fun e=>absurd e dC⟩
 subst aN;have aA:=Ag hn;obtain⟨p0,p1,p2,p3⟩:=Ce E2.o.1;go_wp2_with fail;refine(LQ ⟨.slice s p.aB.length u,.slice l p.ag.length m,.slice f1 p.funcs.length f3,.slice x p.a7.length y⟩ p u1 H.o.1 H.o.2.1 (H.o.2.2.aa (am.o _ E2.o.2.2) lR)).mono ?_;rintro e a ⟨V,Y,rfl,hV,hO,bb⟩;obtain⟨aV,cV,eV⟩:=hV.bW;subst eV;have E3:=Ag (f7 (E2.o.1.aa bb) (f7 (E2.o.2.1.aa bb) (Ac E2.o.2.2 (by rw[g.o];exact Nat.le_refl _) bb)));have HO:Hid (Rd a 1 (.slice aV Y.length cV) Y.length (Y.flatMap Ad)/\∀z∈Y,∃q:Nat,z=(q:Int)/\q<p.funcs.length):=⟨hV,by
  rcases hO with⟨_,e⟩|⟨e,_⟩
  . rw[e];exact(Mn p.funcs p.funcs.length [] (fun z hz=>by cases hz)).1
  exact absurd aA.o e⟩
 have bP:Y.length<=1048576:=by
  rcases hO with⟨_,e⟩|⟨e,_⟩
  . rw[e];have:=(Mn p.funcs p.funcs.length [] (fun z hz=>by cases hz)).2;unfold IR;simp at this;omega
  exact absurd aA.o e
 by_cases bO:Y.length=0;case pos=>
  have bx:((Y.length:Int)==0)=true:=by rw[beq_iff_eq];omega
  obtain⟨P,Q,R,T,W⟩:=CF E3.o.2.1;obtain⟨aD,aE,aF,aG,aH⟩:=JB E3.o.2.1;go_wp2_with fail;have G:Hid _:=((((E3.o.2.1.set 0 (iZ 2)).set 1 (iZ 0)).set 2 (iZ 0)).set 3 sN).set 4 sN;simp only[kI,kX,kb]at G;obtain⟨P,Q,R,T,W⟩:=CF G.o;exact i6 (v:=.agg #[iZ 2,iZ 0,iZ 0,sN,sN]) (by simp[results,Tryz.results90,go_sem,P,Q,R,T,W]) rfl ⟨2,0,0,sN,sN,rfl,((((((am.o _ E3.o.2.2).setCell (by show w.heap.size<=X+1;rw[g.o];omega) _).setCell (by show w.heap.size<=X+1;rw[g.o];omega) _).setCell (by show w.heap.size<=X+1;rw[g.o];omega) _).setCell (by show w.heap.size<=X+1;rw[g.o];omega) _).setCell (by show w.heap.size<=X+1;rw[g.o];omega) _),⟨_,_,_,_,_,_,rfl,rfl⟩,fun e=>absurd e dC⟩
 have bx:((Y.length:Int)==0)=false:=by rw[mV];omega
 have F0:Hid (Bp a (a.alloc (.cells #[iZ 0,iZ 0,iZ 0,sN,sN] 161)) X a.heap.size 0 0 #[.slice s p.aB.length u,.slice l p.ag.length m,.slice f1 p.funcs.length f3,.slice x p.a7.length y] sN sN [] []):=⟨E3.o.1.aa (Aa _ _),E3.o.2.1.aa (Aa _ _),Aw.new _ _ _,⟨E3.o.2.1.lt,Nat.le_refl _⟩,lJ _ _ _ _,lJ _ _ _ _,fun b hb=>(by cases hb),rfl,rfl,Aa _ _⟩;have W3:=Ag (am.o _ E3.o.2.2);go_wp2_with fail;generalize a.heap.size=OB at F0⊢;go_loopw [5] (fun i wr=>∃k:Nat,k<=p.funcs.length/\i=iZ k/\Hid (∃vC vD C D,Bp a wr X OB k k #[.slice s p.aB.length u,.slice l p.ag.length m,.slice f1 p.funcs.length f3,.slice x p.a7.length y] vC vD C D)) (fun i _=>p.funcs.length-(intOf i).toNat)
 case atStart=>exact⟨0,oM,rfl,_,_,_,_,F0.o⟩
 obtain⟨k,hk,rfl,E4⟩:=hrel;obtain⟨vC,vD,C,D,bt⟩:=E4.o;have I:=Ag bt;have p2:=(Ce I.o.pb).2.2.1;by_cases aM:k<p.funcs.length;case pos=>
  have bw:(k:Int)<(p.funcs.length:Int):=oM;have o3:=(CF I.o.ob).2.2.2.1;have EA:Hid (Bp a (wr.alloc (.cells #[iZ (-1)] 2)) X OB k k #[.slice s p.aB.length u,.slice l p.ag.length m,.slice f1 p.funcs.length f3,.slice x p.a7.length y] vC vD C D):=I.o.aa (Aa _ _);have q3:=(CF EA.o.ob).2.2.2.1;go_upto_region 11 with(first|(at_builtin;refine wpList_append_lies _ rfl _ _ 58 rfl a.heap.size 2 aS (iZ 0) 1 8 Tryz.underlying58 hi aP aQ aR rfl dC vC k (C.flatMap Ad) rfl EA.o.c ⟨wr.heap.size,0,none⟩ 1 1 [iZ (-1)] rfl rfl (Ci wr _ _) (Dz _) oM oX oM EA.o.aC.size _ rfl ?_;intro g5 ao w5 aw au aq aJ;have PI:Hid (Bp a (w5.setCell ⟨OB,3,none⟩ (sG g5 (k+1) ao)) X OB (k+1) k #[.slice s p.aB.length u,.slice l p.ag.length m,.slice f1 p.funcs.length f3,.slice x p.a7.length y] (sG g5 (k+1) ao) vD (C++[-1]) D/\w5.cell? ⟨OB,3,none⟩=some vC/\w5.frozen? ⟨OB,3,none⟩=false):=EA.o.iL (-1) _ aw au (Ck aq);have s6:=PI.o.2.1;have bz:=PI.o.2.2;clear aw au aq aJ)|go_in)
  have Z:Hid _:=PI.o.1;refine Ao (fun U=>Hid (Bp a U X OB (k+1) k #[.slice s p.aB.length u,.slice l p.ag.length m,.slice f1 p.funcs.length f3,.slice x p.a7.length y] (sG g5 (k+1) ao) vD (C++[-1]) D)) Z ?_;rintro U Z;have o4:=(CF Z.o.ob).2.2.2.2;have EB:Hid (Bp a (U.alloc (.cells #[iZ 0] 2)) X OB (k+1) k #[.slice s p.aB.length u,.slice l p.ag.length m,.slice f1 p.funcs.length f3,.slice x p.a7.length y] (sG g5 (k+1) ao) vD (C++[-1]) D):=Z.o.aa (Aa _ _);have q4:=(CF EB.o.ob).2.2.2.2;go_wp2_with (first|(at_builtin;refine wpList_append_lies _ rfl _ _ 58 rfl a.heap.size 2 aS (iZ 0) 1 8 Tryz.underlying58 hi aP aQ aR rfl dC vD k (D.flatMap Ad) rfl EB.o.d ⟨U.heap.size,0,none⟩ 1 1 [iZ 0] rfl rfl (Ci U _ _) (Dz _) oM oX oM EB.o.aC.size _ rfl ?_;intro g6 aL w6 aw au aq aJ;have PI:Hid (Bp a (w6.setCell ⟨OB,4,none⟩ (sG g6 (k+1) aL)) X OB (k+1) (k+1) #[.slice s p.aB.length u,.slice l p.ag.length m,.slice f1 p.funcs.length f3,.slice x p.a7.length y] (sG g5 (k+1) ao) (sG g6 (k+1) aL) (C++[-1]) (D++[0])/\w6.cell? ⟨OB,4,none⟩=some vD/\w6.frozen? ⟨OB,4,none⟩=false):=EB.o.j4 0 _ aw au (Ck aq);have s6:=PI.o.2.1;have bz:=PI.o.2.2;clear aw au aq aJ)|go_in)
  go_roundw;case rel=>exact⟨k+1,oM,by go_num,_,_,_,_,PI.o.1⟩
  exact oI
 case neg=>
  obtain rfl:k=p.funcs.length:=oM;have bK:0<p.funcs.length:=by obtain⟨z,hz⟩:∃z,Y[0]?=some z:=⟨_,an oM⟩;obtain⟨q,_,hq⟩:=HO.o.2 z (d9 hz);omega
  obtain⟨A,F,eC⟩:∃A F,vC=sG A p.funcs.length F:=by
   rcases B9 I.o.c with⟨e,h0⟩|⟨A,F,e⟩
   . omega
   exact⟨A,F,e⟩
  obtain⟨J,L,eD⟩:∃J L,vD=sG J p.funcs.length L:=by
   rcases B9 I.o.d with⟨e,h0⟩|⟨J,L,e⟩
   . omega
   exact⟨J,L,e⟩
  subst eC eD;have F1:Hid (Bq a wr X OB A F J L p.funcs.length #[.slice s p.aB.length u,.slice l p.ag.length m,.slice f1 p.funcs.length f3,.slice x p.a7.length y]):=⟨⟨⟨C,I.o.cl,I.o.c⟩,⟨D,I.o.dl,I.o.d⟩,fun e=>I.o.ne A rfl (by rw[e];rfl),I.o.aC,⟨(I.o.c.lt A rfl).2,(I.o.d.lt J rfl).2,I.o.aC.size⟩,Nat.le_refl _,fun _ _ _ _=>rfl⟩,I.o.pb,I.o.rb,I.o.ob,I.o.lo.1⟩;go_wp2_with fail;go_loopw [6,7] (fun i _ wr=>∃j:Nat,j<=Y.length/\i=iZ j/\Hid (Bq a wr X OB A F J L p.funcs.length #[.slice s p.aB.length u,.slice l p.ag.length m,.slice f1 p.funcs.length f3,.slice x p.a7.length y])) (fun i _ _=>Y.length-(intOf i).toNat)
  case atStart=>exact⟨0,oM,rfl,F1⟩
  obtain⟨j,hj,rfl,Z⟩:=hrel;have bI:=Z.o.lo;have a8:=Ag W3.o;by_cases aM:j<Y.length;case neg=>obtain⟨P,Q,R,T,W⟩:=CF Z.o.rb;obtain⟨b0,b1,b2,b3,b4⟩:=CF Z.o.ob;obtain⟨aD,aE,aF,aG,aH⟩:=JB Z.o.rb;obtain⟨C9,l9,o9⟩:=Z.o.bd.c;(have aT:Hid (∀U:World,U.ownsRow a.heap.size 2 1 (sG A p.funcs.length F) p.funcs.length (C9.flatMap Ad)->U.ownsRow w.heap.size 2 1 (sG A p.funcs.length F) p.funcs.length (C9.flatMap Ad)):=fun U hU=>BD hU a8.o.size);go_wp2_with fail;have G:Hid _:=((((Z.o.rb.set 0 (iZ 0)).set 1 (iZ 0)).set 2 (iZ 0)).set 3 (sG A p.funcs.length F)).set 4 (sG J p.funcs.length L);simp only[kI,kX,kb]at G;obtain⟨P,Q,R,T,W⟩:=CF G.o;exact i6 (v:=.agg #[iZ 0,iZ 0,iZ 0,sG A p.funcs.length F,sG J p.funcs.length L]) (by simp[results,Tryz.results90,go_sem,P,Q,R,T,W]) rfl ⟨0,0,0,_,_,rfl,(((((a8.o.trans (Z.o.bd.aC.mono a8.o.size)).setCell (by show w.heap.size<=X+1;rw[g.o];omega) _).setCell (by show w.heap.size<=X+1;rw[g.o];omega) _).setCell (by show w.heap.size<=X+1;rw[g.o];omega) _).setCell (by show w.heap.size<=X+1;rw[g.o];omega) _).setCell (by show w.heap.size<=X+1;rw[g.o];omega) _,⟨_,_,_,_,_,_,rfl,rfl⟩,fun _=>⟨A,F,C9,rfl,l9,aT.o _ (ks (ks (ks (ks (ks o9 (by show X+1<a.heap.size;omega) _) (by show X+1<a.heap.size;omega) _) (by show X+1<a.heap.size;omega) _) (by show X+1<a.heap.size;omega) _) (by show X+1<a.heap.size;omega) _)⟩⟩
  have bw:(j:Int)<(Y.length:Int):=oM;obtain⟨z,hz⟩:∃z,Y[j]?=some z:=⟨_,an aM⟩;obtain⟨q,eq,hq⟩:=HO.o.2 z (d9 hz);subst eq;obtain⟨ga,oa,ea,kz⟩:∃ga oa,aV=some ⟨ga,oa,none⟩/\a.cell? ⟨ga,oa+j,none⟩=some (iZ (q:Int)):=by
   rcases HO.o.1.2 with⟨e0,_⟩|⟨g1,o1,bH,e1,hc⟩
   . omega
   simp only[ip,kU]at e1;exact⟨g1,o1,e1.1,hc j _ (FN hz)⟩
  subst ea;have HS:Hid (∀U:World,Bq a U X OB A F J L p.funcs.length #[.slice s p.aB.length u,.slice l p.ag.length m,.slice f1 p.funcs.length f3,.slice x p.a7.length y]->U.cell? ⟨X,0,none⟩=some (.slice s p.aB.length u)/\U.cell? ⟨X,1,none⟩=some (.slice l p.ag.length m)/\U.cell? ⟨X,2,none⟩=some (.slice f1 p.funcs.length f3)/\U.cell? ⟨X,3,none⟩=some (.slice x p.a7.length y)/\U.cell? ⟨ga,oa+j,none⟩=some (iZ (q:Int))/\U.cell? ⟨OB,3,none⟩=some (sG A p.funcs.length F)/\U.cell? ⟨OB,4,none⟩=some (sG J p.funcs.length L)):=fun U hU=>⟨(Ce hU.pb).1,(Ce hU.pb).2.1,(Ce hU.pb).2.2.1,(Ce hU.pb).2.2.2,Af hU.bd.aC kz,(CF hU.ob).2.2.2.1,(CF hU.ob).2.2.2.2⟩
  go_upto_region 15 with fail
  have ED:=Ag (Z.o.aa (Ae _));refine wp_region_held_drew (S:=fun U=>U.cell? ⟨X,0,none⟩=some (.slice s p.aB.length u)/\U.cell? ⟨X,1,none⟩=some (.slice l p.ag.length m)/\U.cell? ⟨X,2,none⟩=some (.slice f1 p.funcs.length f3)/\U.cell? ⟨X,3,none⟩=some (.slice x p.a7.length y)/\U.cell? ⟨ga,oa+j,none⟩=some (iZ (q:Int))/\U.cell? ⟨OB,3,none⟩=some (sG A p.funcs.length F)/\U.cell? ⟨OB,4,none⟩=some (sG J p.funcs.length L)) kR (by exact HS.o _ ED.o) (fun ae=> ?_)
  generalize wr.drew=O at ED ae⊢;refine An 0 ?_;refine An 1 ?_;refine An 2 ?_;refine An 3 ?_;refine An 4 ?_;refine An 5 ?_;refine An 6 ?_;refine An 7 ?_;refine An 8 ?_;refine wpAnyH_ready (rs:=[9,10]) kR sP ?_;refine AllReadyH.cons rfl (fun KC a6=> ?_) (AllReadyH.cons rfl (fun KC a6=> ?_) AllReadyH.nil);focus
   go_simp;refine(Oi ⟨.slice s p.aB.length u,.slice l p.ag.length m,.slice f1 p.funcs.length f3,.slice x p.a7.length y⟩ p q (O).heap.size A F J L a (O) rfl H.o.1 H.o.2.1 aA.o (H.o.2.2.aa a8.o lR) hq ED.o.bd).mono ?_;rintro e u6 ⟨B,N,M,rfl,aU,aI⟩;have EC:=Ag (ED.o.of aI);refine a6.o _ _ (by exact HS.o _ EC.o) (fun ae=> ?_);refine rdH 10 ?_;intro KC a6;go_simp;refine a6.o _ _ (by exact HS.o _ (EC.o.aa (Aa _ _))) (fun ae=> ?_);refine rdH 11 ?_;intro KC a6;go_simp;refine a6.o _ _ (by exact HS.o _ (EC.o.aa (Aa _ _))) (fun ae=> ?_);refine wpAnyH_done kR ?_ _;go_simp;have E:Hid (Bq a (u6.alloc (.cells #[iZ B,iZ N,iZ M,sN,sN] 161)) X OB A F J L p.funcs.length #[.slice s p.aB.length u,.slice l p.ag.length m,.slice f1 p.funcs.length f3,.slice x p.a7.length y]/\Aw (u6.alloc (.cells #[iZ B,iZ N,iZ M,sN,sN] 161)) u6.heap.size #[iZ B,iZ N,iZ M,sN,sN] 161):=⟨EC.o.aa (Aa _ _),Aw.new _ _ _⟩
   generalize u6.heap.size=K at E⊢;generalize u6.alloc (.cells #[iZ B,iZ N,iZ M,sN,sN] 161)=UW at E⊢;by_cases ah:B=0;(case pos=>subst ah;have t0:=(CF E.o.2).1;go_wp2_with fail;go_roundw;(case rel=>exact⟨j+1,oM,by go_num,E.o.1⟩);exact oI);case neg=>(have bu:(B != 0)=true:=by simpa using ah);obtain⟨t0,bB,t2,bF,t4⟩:=CF E.o.2;have EX:=Ag (a8.o.trans (E.o.1.bd.aC.mono a8.o.size));obtain⟨P,Q,R,T,W⟩:=CF E.o.1.rb;obtain⟨aD,aE,aF,aG,aH⟩:=JB E.o.1.rb;go_wp2_with fail;have G:Hid _:=((((E.o.1.rb.set 0 (iZ B)).set 1 (iZ N)).set 2 (iZ M)).set 3 sN).set 4 sN;simp only[kI,kX,kb]at G;obtain⟨P,Q,R,T,W⟩:=CF G.o;exact i6 (v:=.agg #[iZ B,iZ N,iZ M,sN,sN]) (by simp[results,Tryz.results90,go_sem,P,Q,R,T,W]) rfl ⟨B,N,M,sN,sN,rfl,((((((EX.o).setCell (by show w.heap.size<=X+1;rw[g.o];omega) _).setCell (by show w.heap.size<=X+1;rw[g.o];omega) _).setCell (by show w.heap.size<=X+1;rw[g.o];omega) _).setCell (by show w.heap.size<=X+1;rw[g.o];omega) _).setCell (by show w.heap.size<=X+1;rw[g.o];omega) _),⟨_,_,_,_,_,_,rfl,rfl⟩,fun e=>absurd e ah⟩
  focus
   go_simp;have EA:Hid (Bq a (O.alloc (.cells #[iZ 0,iZ 0,iZ 0,sN,sN] 161)) X OB A F J L p.funcs.length #[.slice s p.aB.length u,.slice l p.ag.length m,.slice f1 p.funcs.length f3,.slice x p.a7.length y]):=ED.o.aa (Aa _ _);refine a6.o _ _ (by exact HS.o _ EA.o) (fun ae=> ?_);refine rdH 9 ?_;intro KC a6;go_simp;refine(Oi ⟨.slice s p.aB.length u,.slice l p.ag.length m,.slice f1 p.funcs.length f3,.slice x p.a7.length y⟩ p q (O.alloc (.cells #[iZ 0,iZ 0,iZ 0,sN,sN] 161)).heap.size A F J L a (O.alloc (.cells #[iZ 0,iZ 0,iZ 0,sN,sN] 161)) rfl H.o.1 H.o.2.1 aA.o (H.o.2.2.aa a8.o lR) hq EA.o.bd).mono ?_;rintro e u6 ⟨B,N,M,rfl,aU,aI⟩;have EC:=Ag (EA.o.of aI);(have ET:Hid (Aw u6 O.heap.size #[iZ 0,iZ 0,iZ 0,sN,sN] 161):=by obtain⟨C,c1,c2⟩:=EA.o.bd.c;obtain⟨D,d1,d2⟩:=EA.o.bd.d;have hB:=Aw.new O #[iZ 0,iZ 0,iZ 0,sN,sN] 161;have:=aI.fr _ hB.lt (GB c2 hB dC) (GB d2 hB dC);show Aw u6 O.heap.size _ _;unfold Aw at hB⊢;rw[this];exact hB);refine a6.o _ _ (by exact HS.o _ EC.o) (fun ae=> ?_);obtain⟨s0,s1,s2,s3,s4⟩:=CF ET.o;obtain⟨aW,aX,aY,aZ,bp⟩:=JB ET.o;have aj:Hid (O.heap.size≠X/\O.heap.size≠X+1/\O.heap.size≠OB/\a.heap.size<=O.heap.size/\O.heap.size≠A/\O.heap.size≠J):=⟨fun e=>by have:=ED.o.pb.lt;omega,fun e=>by have:=ED.o.rb.lt;omega,fun e=>by have:=ED.o.ob.lt;omega,ED.o.bd.aC.size,fun e=>by have:=ED.o.bd.up.1;omega,fun e=>by have:=ED.o.bd.up.2.1;omega⟩
   generalize O.heap.size=K at ET aj s0 s1 s2 s3 s4 aW aX aY aZ bp⊢;have E:Hid (Bq a (((((u6.setCell ⟨K,0,none⟩ (iZ B)).setCell ⟨K,1,none⟩ (iZ N)).setCell ⟨K,2,none⟩ (iZ M)).setCell ⟨K,3,none⟩ sN).setCell ⟨K,4,none⟩ sN) X OB A F J L p.funcs.length #[.slice s p.aB.length u,.slice l p.ag.length m,.slice f1 p.funcs.length f3,.slice x p.a7.length y]/\Aw (((((u6.setCell ⟨K,0,none⟩ (iZ B)).setCell ⟨K,1,none⟩ (iZ N)).setCell ⟨K,2,none⟩ (iZ M)).setCell ⟨K,3,none⟩ sN).setCell ⟨K,4,none⟩ sN) K #[iZ B,iZ N,iZ M,sN,sN] 161):=by refine⟨((((EC.o.set aj.o _ _).set aj.o _ _).set aj.o _ _).set aj.o _ _).set aj.o _ _,?_⟩;have:=((((ET.o.set 0 (iZ B)).set 1 (iZ N)).set 2 (iZ M)).set 3 sN).set 4 sN;simpa using this
   refine rdH 11 ?_;intro KC a6;go_simp;refine a6.o _ _ (by exact HS.o _ E.o.1) (fun ae=> ?_);refine wpAnyH_done kR ?_ _;go_simp;generalize ((((u6.setCell ⟨K,0,none⟩ (iZ B)).setCell ⟨K,1,none⟩ (iZ N)).setCell ⟨K,2,none⟩ (iZ M)).setCell ⟨K,3,none⟩ sN).setCell ⟨K,4,none⟩ sN=UW at E⊢;by_cases ah:B=0;(case pos=>subst ah;have t0:=(CF E.o.2).1;go_wp2_with fail;go_roundw;(case rel=>exact⟨j+1,oM,by go_num,E.o.1⟩);exact oI);case neg=>(have bu:(B != 0)=true:=by simpa using ah);obtain⟨t0,bB,t2,bF,t4⟩:=CF E.o.2;have EX:=Ag (a8.o.trans (E.o.1.bd.aC.mono a8.o.size));obtain⟨P,Q,R,T,W⟩:=CF E.o.1.rb;obtain⟨aD,aE,aF,aG,aH⟩:=JB E.o.1.rb;go_wp2_with fail;have G:Hid _:=((((E.o.1.rb.set 0 (iZ B)).set 1 (iZ N)).set 2 (iZ M)).set 3 sN).set 4 sN;simp only[kI,kX,kb]at G;obtain⟨P,Q,R,T,W⟩:=CF G.o;exact i6 (v:=.agg #[iZ B,iZ N,iZ M,sN,sN]) (by simp[results,Tryz.results90,go_sem,P,Q,R,T,W]) rfl ⟨B,N,M,sN,sN,rfl,((((((EX.o).setCell (by show w.heap.size<=X+1;rw[g.o];omega) _).setCell (by show w.heap.size<=X+1;rw[g.o];omega) _).setCell (by show w.heap.size<=X+1;rw[g.o];omega) _).setCell (by show w.heap.size<=X+1;rw[g.o];omega) _).setCell (by show w.heap.size<=X+1;rw[g.o];omega) _),⟨_,_,_,_,_,_,rfl,rfl⟩,fun e=>absurd e ah⟩
end Go.Proofs.YthjbicggfnnonaaGreatDoor
