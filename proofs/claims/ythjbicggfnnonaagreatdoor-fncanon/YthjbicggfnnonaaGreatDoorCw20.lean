import Derived.Test.YthjbicggfnnonaaGreatDoorCw16
import Derived.Test.YthjbicggfnnonaaGreatDoorCw13
import Derived.Lib.SlBytesConst
import Derived.ArgAppend
namespace Go.Proofs.YthjbicggfnnonaaGreatDoor
open Go.ChangeShapes Go.WideShapes Go.ChangeAt Go.RowKit
set_option linter.unusedVariables false
set_option maxHeartbeats 8000000
set_option maxRecDepth 100000
variable {p:MP}{n k base i:Nat}{a c d e x1 x2 x3:Value}{b done:List Int}{f:MF}{w:World}{v:VP}{α:Type}{z:Int}
def Fp(p:MP)(f:MF):Prop:=∀k,k<f.code.length->∀x,f.code[k]?=some x->A8 p f x
def CI(p:MP):Prop:=∀j,j<p.funcs.length->∀f,p.funcs[j]?=some f->Fp p f
def Bj(p:MP)(n:Int):Prop:=
 (n=1/\¬AD p.aB)\/(n=2/\AD p.aB/\¬Bg p.ag)\/(n=3/\AD p.aB/\Bg p.ag/\¬Bk p.funcs)\/
 (n=4/\AD p.aB/\Bg p.ag/\Bk p.funcs/\¬CI p)\/(n=5/\AD p.aB/\Bg p.ag/\Bk p.funcs/\CI p/\¬BG p)\/
 (n=0/\AD p.aB/\Bg p.ag/\Bk p.funcs/\CI p/\BG p)
theorem Bj.one{n m:Int}(h:Bj p n)(a:Bj p m):n=m:=by unfold Bj at h a;by_cases b:AD p.aB<;>by_cases c:Bg p.ag<;>by_cases d:Bk p.funcs<;>by_cases e:CI p<;>by_cases f:BG p<;>simp[b,c,d,e,f]at h a<;>omega
def Cu(e:Ending)(p:MP):Prop:=∃n,e=.returned (.int .i64 n)/\Bj p n
theorem Cu.f1(h:¬AD p.aB):Cu (.returned (.int .i64 1)) p:=⟨_,rfl,.inl ⟨rfl,h⟩⟩
theorem Cu.f2(h1:AD p.aB)(h:¬Bg p.ag):Cu (.returned (.int .i64 2)) p:=⟨_,rfl,.inr (.inl ⟨rfl,h1,h⟩)⟩
theorem Cu.f3(h1:AD p.aB/\Bg p.ag)(h:¬Bk p.funcs):Cu (.returned (.int .i64 3)) p:=⟨_,rfl,.inr (.inr (.inl ⟨rfl,h1.1,h1.2,h⟩))⟩
theorem Cu.f4(h1:AD p.aB/\Bg p.ag)(h2:Bk p.funcs)(h:¬CI p):Cu (.returned (.int .i64 4)) p:=⟨_,rfl,.inr (.inr (.inr (.inl ⟨rfl,h1.1,h1.2,h2,h⟩)))⟩
theorem Cu.f5(h1:AD p.aB/\Bg p.ag)(h2:Bk p.funcs)(a:CI p)(h:¬BG p):Cu (.returned (.int .i64 5)) p:=⟨_,rfl,.inr (.inr (.inr (.inr (.inl ⟨rfl,h1.1,h1.2,h2,a,h⟩))))⟩
theorem Cu.f0(h1:AD p.aB/\Bg p.ag)(h2:Bk p.funcs)(a:CI p)(h:BG p):Cu (.returned (.int .i64 0)) p:=⟨_,rfl,.inr (.inr (.inr (.inr (.inr ⟨rfl,h1.1,h1.2,h2,a,h⟩))))⟩
theorem NR{a:List MF}(c:a.length=n)(d:¬n=0)(h1:n<=32)(h:∀j,j<n->∀f,a[j]?=some f->Cw f (decide (j=0))):Bk a:=by refine⟨by rw[c];exact d,by rw[c];exact h1,fun j e f b=>(h j oM f b).1,fun f b=>(h 0 oM f b).2 sP⟩
theorem NV{b:List MF}(h:Bk b)(a:b[k]?=some f):Cw f (decide (k=0)):=by
 refine⟨h.2.2.1 k (d7.1 a).1 f a,fun e=> ?_⟩;obtain rfl:k=0:=by simpa using e
 exact h.2.2.2 f a
theorem TK{a:List MF}(h1:a[k]?=some f)(c:Cw f (decide (k=0)))(h:∀j,j<k->∀f,a[j]?=some f->Cw f (decide (j=0))):∀j,j<k+1->∀f,a[j]?=some f->Cw f (decide (j=0)):=by
 intro j d g b;by_cases e:j=k
 . subst e;rw[h1]at b;exact(kH b)▸c
 exact h j oM g b
structure Lq(w u:World)(a b c d:Value):Prop where
 aC:Below w.heap.size w u
 prog:Ep u w.heap.size a b c d
theorem Lq.aa{u f:World}{b:Value}(h:Lq w u a b c d)(e:Below u.heap.size u f):Lq w f a b c d:=⟨Ac h.aC lR e,h.prog.aa e⟩
theorem Lq.of(w:World)(a b c d:Value)(t:TypeId):Lq w (w.alloc (.cells #[a,b,c,d] t)) a b c d:=⟨Aa _ _,Ep.new _ _ _ _ _ _⟩
structure Pg(w:World)(vr vk vf vt:Value)(p:MP)(xs:List (List Int×Value))(ys:List (MF×VF)):Prop where
 small:p.small
 wf:p.wf
 rd:Ft w ⟨vr,vk,vf,vt⟩ p
 rr:Rd w 1 vr p.aB.length (xs.flatMap Bi)
 rm:xs.map Prod.fst=p.aB
 re:∀x∈xs,Rd w 1 x.2 x.1.length (x.1.flatMap Ad)
 rl:xs.length=p.aB.length
 fr:Rd w 4 vf p.funcs.length (ys.flatMap AJ)
 fm:ys.map Prod.fst=p.funcs
 fe:∀x∈ys,IG w x.2 x.1
 fl:ys.length=p.funcs.length
theorem Pg.of(d:p.small)(hw:p.wf)(h:Ft w v p):∃xs a,Pg w v.r v.k v.f v.t p xs a:=by obtain⟨xs,h1,h2,c⟩:=h.aB;obtain⟨a,b,e,g⟩:=h.funcs;exact⟨xs,a,d,hw,h,h2,h1,c,by rw[<-h1];simp,e,b,g,by rw[<-b];simp⟩
theorem CO(v:VP)(p:MP)(w:World)(hs:p.small)(hw:p.wf)(h:Ft w v p):
 Calls Tryz.prog 15 #[.agg #[v.r,v.k,v.f,v.t]] w fun e w'=>Cu e p/\Below w.heap.size w w':=by
 obtain⟨xs,ys,hP⟩:=Pg.of hs hw h;obtain⟨vr,vk,vf,O⟩:=v;simp only[]at hP;obtain⟨N,c1,d⟩:=hP.rr.bW;obtain⟨Z,c3,e3⟩:=hP.fr.bW;have hm:=hs.funcs;subst d e3;clear hs hw h;have s:Hid _:=hP;clear hP;have a:Hid _:=Lq.of w (.slice N p.aB.length c1) vk (.slice Z p.funcs.length c3) O 29;by_cases q0:p.aB.length=3
 . generalize hN:p.aB.length=n at*;subst q0;generalize hM:p.funcs.length=m at*;have A:=Ag (f7 hN hM);have s:=Ag s;clear hN hM;go_enter Tryz.func15,Tryz.ntmps15;go_wp2;go_loopw [3] (fun i wr=>∃k:Nat,k<=3/\i=.int .i64 k/\Hid (∀j,j<k->∀r,p.aB[j]?=some r->Hb r)/\Hid (Lq w wr (.slice N 3 c1) vk (.slice Z m c3) O)) (fun i _=>3-(intOf i).toNat)
   (case atStart=>exact⟨0,oM,rfl,fun j R=>oM,a⟩);clear a;obtain⟨k,hk,rfl,J,a⟩:=hrel;obtain⟨F,G,H,I⟩:=a.o.prog;by_cases K:k<3
   . obtain⟨⟨f,v⟩,g⟩:∃x,xs[k]?=some x:=⟨_,an (by rw[s.o.rl,A.o.1];exact K)⟩;have d:=CK s.o.rm g;have U:=(s.o.re _ (d9 g)).aa a.o.aC lR;have y:=Ag (f7 U (f7 (s.o.small.region _ (d9 d)) d));clear d;rcases s.o.rr.2 with⟨Q,_⟩|⟨b,o,c,d,E⟩
     . rw[A.o.1]at Q;omega
     rw[A.o.1]at d;simp only[ip,kU]at d;obtain⟨rfl,rfl⟩:=d;have C:=Rd.elem Bc E k _ g 0 _ rfl;rw[<-a.o.aC.cell (d5 C)]at C;rw[kn,kD]at C;clear E g;simp only[]at C U;obtain⟨av,cv,ev⟩:=U.bW;subst ev;clear U;have hz:=y.o.2.1;by_cases q1:256<f.length
     . (have B:Hid (¬AD p.aB):=fun e=>absurd (e.2 k (by rw[A.o.1];exact K) f y.o.2.2).1 oM);have aS:(256:Int)<(f.length:Int):=oM;generalize f.length=z at*;go_wp2;go_ret;exact⟨.f1 B.o,a.o.aC⟩
     have aS:¬(256:Int)<(f.length:Int):=oM;go_wp2_with fail;refine(Hk _ f _ y.o.2.1 y.o.1).mono ?_;rintro e u ⟨rfl,rfl⟩;cases t1:f.all Fk
     . (have B:Hid (¬AD p.aB):=fun e=>by have:=(e.2 k (by rw[A.o.1];exact K) f y.o.2.2).2;simp[t1]at this);clear t1;go_wp2;go_ret;exact⟨.f1 B.o,a.o.aC⟩
     have B:Hid (Hb f):=⟨oM,t1⟩;clear t1;go_wp2;go_roundw;(case rel=>exact⟨k+1,oM,by go_num,Dc y.o.2.2 B.o J.o,a⟩);exact oI
   have ae:3=k:=oM;subst ae;have HR:Hid (AD p.aB):=⟨A.o.1,by rw[A.o.1];exact J.o⟩;clear J K hk;go_wp2_with fail;refine(MQ ⟨.slice N 3 c1,vk,.slice Z m c3,O⟩ p _ s.o.small (s.o.rd.aa a.o.aC lR)).mono ?_;rintro e u1 ⟨⟨b1,rfl,ao⟩,aH⟩;have S:=Ag (a.o.aa aH);clear aH F G H I a;cases b1
   . (have B:Hid (¬Bg p.ag):=fun e=>by simp[e]at ao);clear ao;go_wp2;go_ret;exact⟨.f2 HR.o B.o,S.o.aC⟩
   have T:=Ag (f7 HR.o (ao.1 rfl));clear ao HR;obtain⟨F,G,H,I⟩:=S.o.prog;by_cases q2:m=0
   . (have B:Hid (¬Bk p.funcs):=fun e=>e.1 (A.o.2.trans q2));subst q2;go_wp2;go_ret;exact⟨.f3 T.o B.o,S.o.aC⟩
   (have aT:((m:Int)==0)=false:=by simpa using q2);by_cases q3:32<m
   . (have B:Hid (¬Bk p.funcs):=fun e=>absurd e.2.1 (by rw[A.o.2];omega));have aP:(32:Int)<(m:Int):=oM;go_wp2;go_ret;exact⟨.f3 T.o B.o,S.o.aC⟩
   have aP:¬(32:Int)<(m:Int):=oM;go_wp2;clear F G H I aT aP;go_loopw [4] (fun i wr=>∃k:Nat,k<=m/\i=.int .i64 k/\Hid (∀j,j<k->∀f,p.funcs[j]?=some f->Cw f (decide (j=0)))/\Hid (Lq w wr (.slice N 3 c1) vk (.slice Z m c3) O)) (fun i _=>m-(intOf i).toNat)
   (case atStart=>exact⟨0,oM,rfl,fun j R=>oM,S⟩);clear S;obtain⟨k,hk,rfl,J,a⟩:=hrel;obtain⟨F,G,H,I⟩:=a.o.prog;by_cases K:k<m
   . obtain⟨⟨f,v⟩,g⟩:∃x,ys[k]?=some x:=⟨_,an (by rw[s.o.fl,A.o.2];exact K)⟩;have d:=CK s.o.fm g;have y:=Ag (f7 ((s.o.fe _ (d9 g)).aa a.o.aC lR) (f7 (s.o.small.func _ (d9 d)) d));clear d;rcases s.o.fr.2 with⟨Q,_⟩|⟨b,o,c,d,E⟩
     . rw[A.o.2]at Q;omega
     rw[A.o.2]at d;simp only[ip,kU]at d;obtain⟨rfl,rfl⟩:=d;have C:=Rd.elem Aj E k _ g 0 _ rfl;have L:=Rd.elem Aj E k _ g 1 _ rfl;have M:=Rd.elem Aj E k _ g 2 _ rfl;have D:=Rd.elem Aj E k _ g 3 _ rfl;rw[<-a.o.aC.cell (d5 C),kD]at C;rw[<-a.o.aC.cell (d5 L)]at L;rw[<-a.o.aC.cell (d5 M)]at M;rw[<-a.o.aC.cell (d5 D)]at D;clear E g;simp only[]at C L M D;go_wp2_with fail;refine(Pe v f ((k:Int)==0) _ y.o.2.1 y.o.1).mono ?_;rintro e u2 ⟨⟨b2,rfl,a6⟩,aI⟩;have aE:=Ag (a.o.aa aI);have aL:((k:Int)==0)=decide (k=0):=by
      by_cases e:k=0
      . subst e;rfl
      rw[ld e];simpa using e
     rw[aL]at a6;clear aI a F G H I C L M D aL;cases b2
     . (have B:Hid (¬Bk p.funcs):=fun e=>by simp[NV e y.o.2.2]at a6);clear a6;go_wp2;go_ret;exact⟨.f3 T.o B.o,aE.o.aC⟩
     have HC:Hid (Cw f (decide (k=0))):=a6.1 rfl;clear a6;go_wp2;go_roundw;(case rel=>exact⟨k+1,oM,by go_num,TK y.o.2.2 HC.o J.o,aE⟩);exact oI
   have ae:m=k:=oM;subst ae;have au:=Ag (NR A.o.2 q2 oM J.o);clear J K hk;go_wp2;clear F G H I;go_loopw [5,6] (fun i kk wr=>∃k:Nat,k<=m/\i=.int .i64 k/\Hid (∀j,j<k->∀f,p.funcs[j]?=some f->Fp p f)/\Hid (Lq w wr (.slice N 3 c1) vk (.slice Z m c3) O)) (fun i _ _=>m-(intOf i).toNat)
   (case atStart=>exact⟨0,oM,rfl,fun j R=>oM,a⟩);clear a;obtain⟨k,hk,rfl,J,a⟩:=hrel;obtain⟨F,G,H,I⟩:=a.o.prog;by_cases K:k<m
   . obtain⟨⟨f,v⟩,g⟩:∃x,ys[k]?=some x:=⟨_,an (by rw[s.o.fl,A.o.2];exact K)⟩;have d:=CK s.o.fm g;have y:=Ag (f7 (s.o.fe _ (d9 g)) (f7 (s.o.small.func _ (d9 d)) (f7 d (s.o.wf.funcs _ (d9 d)))));clear d;rcases s.o.fr.2 with⟨Q,_⟩|⟨b,o,c,d,E⟩
     . rw[A.o.2]at Q;omega
     rw[A.o.2]at d;simp only[ip,kU]at d;obtain⟨rfl,rfl⟩:=d;have aA:Hid (w.cell? ⟨b,o+k*4,none⟩=some v.p/\w.cell? ⟨b,o+k*4+1,none⟩=some (.int .i64 f.result)/\w.cell? ⟨b,o+k*4+2,none⟩=some v.l/\w.cell? ⟨b,o+k*4+3,none⟩=some v.c):=⟨Rd.elem Aj E k _ g 0 _ rfl,Rd.elem Aj E k _ g 1 _ rfl,Rd.elem Aj E k _ g 2 _ rfl,Rd.elem Aj E k _ g 3 _ rfl⟩
     clear E g;obtain⟨ac,cc,ec⟩:=y.o.1.2.2.bW;obtain⟨vp,vl,vc⟩:=v;simp only[]at ec;subst ec;have hz:=y.o.2.1.2.2;generalize hZ:f.code.length=z at*;have HZ:=Ag hZ;clear hZ;have D:=aA.o.2.2.2;rw[<-a.o.aC.cell (d5 D)]at D;simp only[]at D;go_wp2;clear F G H I D;go_loopw [6] (fun i wr=>∃q:Nat,q<=z/\i=.int .i64 q/\Hid (∀j,j<q->∀x,f.code[j]?=some x->A8 p f x)/\Hid (Lq w wr (.slice N 3 c1) vk (.slice (some ⟨b,o,none⟩) m c3) O)) (fun i _=>z-(intOf i).toNat)
     (case atStart=>exact⟨0,oM,rfl,fun j R=>oM,a⟩);clear a;obtain⟨q,hq,rfl,aG,a⟩:=hrel;obtain⟨F,G,H,I⟩:=a.o.prog;obtain⟨C,L,M,D⟩:=aA.o;rw[<-a.o.aC.cell (d5 C)]at C;rw[<-a.o.aC.cell (d5 L)]at L;rw[<-a.o.aC.cell (d5 M)]at M;rw[<-a.o.aC.cell (d5 D)]at D;by_cases aM:q<z
     . obtain⟨x,g⟩:∃x,f.code[q]?=some x:=⟨_,an (by rw[HZ.o];exact aM)⟩;have aN:=y.o.2.2.2.code x (d9 g);rcases y.o.1.2.2.2 with⟨Q,_⟩|⟨b',o',c',d,a8⟩
       . rw[HZ.o]at Q;omega
       rw[HZ.o]at d;simp only[ip,kU]at d;obtain⟨rfl,rfl⟩:=d;have V:=Rd.elem MI.aK a8 q x g 0 _ rfl;have W:=Rd.elem MI.aK a8 q x g 1 _ rfl;have X:=Rd.elem MI.aK a8 q x g 2 _ rfl;have Y:=Rd.elem MI.aK a8 q x g 3 _ rfl;rw[<-a.o.aC.cell (d5 V),kD]at V;rw[<-a.o.aC.cell (d5 W)]at W;rw[<-a.o.aC.cell (d5 X)]at X;rw[<-a.o.aC.cell (d5 Y)]at Y;have P:Hid (f.code[q]?=some x/\x.wf):=⟨g,aN⟩
       clear a8 g aN;obtain⟨xo,xa,xb,xc⟩:=x;simp only[]at V W X Y;have inst:=At.some wr;(have P0:=fun n:At wr=>At.cell F n);(have P1:=fun n:At wr=>At.cell G n);(have P2:=fun n:At wr=>At.cell H n);(have P3:=fun n:At wr=>At.cell I n);(have I0:=fun n:At wr=>At.cell C n);(have I1:=fun n:At wr=>At.cell L n);(have I2:=fun n:At wr=>At.cell M n);(have I3:=fun n:At wr=>At.cell D n);(have J0:=fun n:At wr=>At.cell V n);(have J1:=fun n:At wr=>At.cell W n);(have J2:=fun n:At wr=>At.cell X n);(have J3:=fun n:At wr=>At.cell Y n);by_cases ah:A8 p f ⟨xo,xa,xb,xc⟩
       . have am:Hid (A8 p f ⟨xo,xa,xb,xc⟩):=ah;clear ah;go_wp2_with fail;refine AF kR kR ?_;(repeat(go_big_quiet_step ((go_at_call 41;rename_i n;exact(JT ⟨.slice N 3 c1,vk,.slice (some ⟨b,o,none⟩) m c3,O⟩ p ⟨vp,vl,.slice (some ⟨b',o',none⟩) z cc⟩ f xo xa xb xc n.u s.o.small A.o.1 y.o.2.1 P.o.2.2.1 P.o.2.2.2.1 P.o.2.2.2.2 (s.o.rd.aa (Ac a.o.aC lR n.h) lR) (y.o.1.aa (Ac a.o.aC lR n.h) lR)).mono fun e aj h=>⟨h.1.true am.o,⟨⟨aj,Ac n.h lR h.2⟩,rfl⟩⟩))));refine wpQuiet_nil ?_;rintro aj ⟨n,rfl⟩;have aw:=Ag (a.o.aa n.h);clear a F G H I C L M D V W X Y P0 P1 P2 P3 I0 I1 I2 I3 J0 J1 J2 J3 inst;go_wp2;go_roundw;(case rel=>exact⟨q+1,oM,by go_num,Dc P.o.1 am.o aG.o,aw⟩);exact oI
       have am:Hid (¬A8 p f ⟨xo,xa,xb,xc⟩):=ah;(have B:Hid (¬CI p):=fun e=>ah (e k (by rw[A.o.2];exact K) f y.o.2.2.1 q (by rw[HZ.o];exact aM) _ P.o.1));clear ah;go_wp2_with fail;refine AF kR kR ?_;(repeat(go_big_quiet_step ((go_at_call 41;rename_i n;exact(JT ⟨.slice N 3 c1,vk,.slice (some ⟨b,o,none⟩) m c3,O⟩ p ⟨vp,vl,.slice (some ⟨b',o',none⟩) z cc⟩ f xo xa xb xc n.u s.o.small A.o.1 y.o.2.1 P.o.2.2.1 P.o.2.2.2.1 P.o.2.2.2.2 (s.o.rd.aa (Ac a.o.aC lR n.h) lR) (y.o.1.aa (Ac a.o.aC lR n.h) lR)).mono fun e aj h=>⟨h.1.false am.o,⟨⟨aj,Ac n.h lR h.2⟩,rfl⟩⟩))));refine wpQuiet_nil ?_;rintro aj ⟨n,rfl⟩;have aw:=Ag (a.o.aa n.h);clear a F G H I C L M D V W X Y P0 P1 P2 P3 I0 I1 I2 I3 J0 J1 J2 J3 inst;go_wp2;go_ret;exact⟨.f4 T.o au.o B.o,aw.o.aC⟩
     have aR:z=q:=oM;subst aR;(have aQ:Hid (Fp p f):=fun j R x g=>aG.o j (by rw[<-HZ.o];exact R) x g);go_wp2;go_roundw;(case rel=>exact⟨k+1,oM,by go_num,Dc y.o.2.2.1 aQ.o J.o,a⟩);exact oI
   have ae:m=k:=oM;subst ae;(have aD:Hid (CI p):=fun j R f U=>J.o j (by rw[<-A.o.2];exact R) f U);go_wp2_with fail;refine(Of ⟨.slice N 3 c1,vk,.slice Z m c3,O⟩ p _ s.o.small s.o.wf (s.o.rd.aa a.o.aC lR)).mono ?_;rintro e u5 ⟨⟨b5,rfl,aq⟩,aJ⟩;have aF:=Ag (Ac a.o.aC lR aJ);clear aJ F G H I;cases b5
   . (have B:Hid (¬BG p):=fun e=>by simp[e]at aq);clear aq;go_wp2;go_ret;exact⟨.f5 T.o au.o aD.o B.o,aF.o⟩
   have HY:Hid (BG p):=aq.1 rfl;clear aq;go_wp2;go_ret;exact⟨.f0 T.o au.o aD.o HY.o,aF.o⟩
 have B:Hid (¬AD p.aB):=fun e=>q0 e.1
 have aU:((p.aB.length:Int)==3)=false:=oT;have aW:¬(p.aB.length:Int)=3:=oM;go_enter Tryz.func15,Tryz.ntmps15;go_wp2;go_ret;exact⟨.f1 B.o,a.o.aC⟩
theorem JY(u:World)(fr:Nat×Nat):∀j a,B8[j]?=some a->(u.alloc (.cells #[.int .u8 80,.int .u8 76,.int .u8 67,.int .u8 49] 5 fr)).cell? ((⟨u.heap.size,0,none⟩:Addr).add j)=some a:=by intro j a b;have e:(u.alloc (.cells #[.int .u8 80,.int .u8 76,.int .u8 67,.int .u8 49] 5 fr)).heap[u.heap.size]?=some (.cells #[.int .u8 80,.int .u8 76,.int .u8 67,.int .u8 49] 5 fr):=nB;rw[Addr.add_lit];simp only[World.cell?,e];unfold B8 at b;simpa using b
theorem Ht(rs:List (List Int))(h:AD rs)(k:Nat):((rs.take k).flatMap Cb).length<=k*258:=by
 induction k with
 |zero=>simp
 | succ k b=>
   by_cases a:k<rs.length
   . rw[kQ a,kO,f6];have:=(h.2 k a _ (an a)).1;(have e:([rs[k]].flatMap Cb).length=2+rs[k].length:=by simp[JA]);rw[e];omega
   (have e:rs.take (k+1)=rs.take k:=by rw[lH oM,lH oM]);rw[e];omega
theorem Rg(f:α->List Value){xs:List α}{x:α}(h:xs[k]?=some x):(xs.take (k+1)).flatMap f=(xs.take k).flatMap f++f x:=by obtain⟨a,rfl⟩:=d7.1 h;rw[kQ a,kO];simp
theorem Nu(rs:List (List Int))(h:AD rs):(rs.flatMap Cb).length<=774:=by have:=Ht rs h 3;rw[lH (by rw[h.1];omega)]at this;omega
theorem Rx(h:Nc z):0<=z/\z<=4294967295:=by simpa[Nc,Lit.wf,IntKind.min,IntKind.max,IntKind.signed,IntKind.bits]using h
def Uy:Value->Int
 |.int _ z=>z
 |_=>0
def BN(a:List Value):List Int:=a.map Uy
def B5(a:List Value):Prop:=∀u∈a,∃z:Int,u=.int .u8 z/\0<=z/\z<=255
theorem Di{a:List Value}(h:B5 a):(BN a).map (Value.int .u8)=a/\∀j,0<=(BN a).getD j 0/\(BN a).getD j 0<=255:=by
 constructor
 . unfold BN;rw[nT];(conv=>rhs;rw[<-List.map_id a]);apply mW;intro u d;obtain⟨z,rfl,_⟩:=h u d;rfl
 intro j;rw[kF];unfold BN;rw[kh];by_cases b:j<a.length
 . obtain⟨z,e,c,h1⟩:=h _ (ku b);rw[an b,e];exact⟨c,h1⟩
 rw[kK oM];simp
theorem B5.append{a b:List Value}(c:B5 a)(d:B5 b):B5 (a++b):=fun u e=>(kB.1 e).elim (c u) (d u)
theorem B5.flat{f:α->List Value}(a:∀y,B5 (f y))(d:List α):B5 (d.flatMap f):=fun u b=>by obtain⟨y,_,c⟩:=lP.1 b;exact a y u c
theorem AK(v:Int)(n:Nat):B5 (Az v n):=fun u a=>by unfold Az at a;obtain⟨i,_,rfl⟩:=lL.1 a;exact⟨_,rfl,lh _ dC,by have:=lT (v / 2 ^ (8*i)) (show(0:Int)<256 from dC);omega⟩
theorem Dq(n:Nat)(a:List Int):B5 (CV n a):=B5.flat (fun y=>AK y n) a
theorem Jh:B5 B8:=fun u a=>by simp[B8]at a;rcases a with rfl|rfl|rfl|rfl<;>exact⟨_,rfl,oM,oM⟩
theorem Lz(p:MP):B5 (CY p):=by
 unfold CY;refine .append (.append (.append (.append (.append (.append (.append (.append Jh (AK _ _)) (.flat (fun r=> ?_) _)) (AK _ _)) (.flat (fun c=> ?_) _)) (AK _ _)) (.flat (fun f=> ?_) _)) (AK _ _)) (.flat (fun c=> ?_) _)
 . exact .append (AK _ _) (Dq _ _)
 . exact .append (AK _ _) (AK _ _)
 . exact .append (.append (.append (.append (.append (AK _ _) (Dq _ _)) (Dq _ _)) (Dq _ _)) (AK _ _)) (.flat (fun x=>.append (.append (Dq _ _) (AK _ _)) (AK _ _)) _)
 exact .append (.append (Dq _ _) (AK _ _)) (AK _ _)
theorem Cg{e:TypeId}{r:Value}{xs:List Value}(h:w.ownsRow base e 1 r n xs)(d:1<=n):∃ad c,r=.slice (some ad) n c:=by
 rcases h.2 with⟨_,e⟩|⟨b,cap,a,e,_⟩
 . omega
 exact⟨_,_,e⟩
def ME(p:MP):List Value:=CY p++Az (DO (~~~(BU (BN (CY p)) (CY p).length))) 4
def Vx(p:MP)(a:List Value):Prop:=(Bj p 0/\a=ME p)\/(¬Bj p 0/\a=[])
theorem CJ.ik{F:List (List Int×Value)}{a:List MC}{G:List (MF×VF)}{ts:List MT}{B:List Ax}(h:CJ w base (Ab v F a G ts B)):EZ w base v ⟨F.map Prod.fst,a,G.map Prod.fst,ts⟩:=by
 have h1:=h.own (Bf v.r F) (by simp[Ab]);have d:=h.own (AP v.f G) (by simp[Ab]);refine⟨⟨F,rfl,by simpa[Bf,Ax.own]using h1,fun x b=>h.own (Ay x.2 x.1) ?_⟩,h.own (Cd v.k a) (by simp[Ab]),⟨G,rfl,by simpa[AP,Ax.own]using d,fun x b=>⟨h.own (Ay x.2.p x.1.params) ?_,h.own (Ay x.2.l x.1.locals) ?_,h.own (A3 x.2.c x.1.code) ?_⟩⟩,h.own (BS v.t ts) (by simp[Ab])⟩
 . have:Ay x.2 x.1∈A5 F:=lL.2 ⟨x,b,rfl⟩;simp[Ab,this]
 all_goals
  have e:∀r∈Bl x,r∈AV G:=fun r g=>lP.2 ⟨x,b,g⟩
 . have:=e (Ay x.2.p x.1.params) (by simp[Bl]);simp[Ab,this]
 . have:=e (Ay x.2.l x.1.locals) (by simp[Bl]);simp[Ab,this]
 have:=e (A3 x.2.c x.1.code) (by simp[Bl]);simp[Ab,this]
theorem Qv(a:0<=z)(h1:z<=4294967295):Nc z:=by simp[Nc,Lit.wf,IntKind.min,IntKind.max,IntKind.signed,IntKind.bits];omega
def A7{α:Type}(r:FT α)(P:α->Prop):Prop:=∀k x a,r k=some (x,a)->P x
theorem A7.mono{r:FT α}{P Q:α->Prop}(h:A7 r P)(a:∀x,P x->Q x):A7 r Q:=fun k x b e=>a x (h k x b e)
theorem A7.gM{P:α->Prop}{x:α}(h:P x):A7 (Fc x) P:=fun k y a e=>by simp only[Fc,i4,Prod.mk.injEq]at e;rw[<-e.1];exact h
theorem A7.then{β:Type}{r:FT α}{f:α->FT β}{P:α->Prop}{Q:β->Prop}(h:A7 r P)(a:∀x,P x->A7 (f x) Q):A7 (CD r f) Q:=fun k y c e=>by
 cases e1:r k with
 |none=>rw[AB e1]at e;cases e
 | some z=>obtain⟨z,b⟩:=z;rw[Cp e1]at e;exact a z (h k z b e1) _ _ _ e
theorem A7.many{r:FT α}{P:α->Prop}(h:A7 r P)(c:Nat):A7 (A9 r c) (fun xs=>xs.length=c/\∀x∈xs,P x):=by
 induction c with
 |zero=>exact A7.gM ⟨rfl,fun x b=>by cases b⟩
 |succ c e=>exact e.then fun xs d=>h.then fun x b=>A7.gM ⟨by simp[d.1],fun y a=>by
  rcases kB.1 a with a|a
  . exact d.2 y a
  rw[kM.1 a];exact b⟩
theorem A7.num{a:List Int}(c:C7 a)(n:Nat)(b:n<=7):A7 (Cz a n) (fun x=>0<=x/\x<2 ^ (8*n)):=fun k x d e=>Jl c b e
theorem A7.list{d:List Int}(e:C7 d)(n:Nat)(f:n<=2){r:FT α}{P:α->Prop}(h:A7 r P):A7 (Eg d n r) (fun xs=>xs.length<=65535/\∀x∈xs,P x):=by
 refine(A7.num e n oM).then fun c a=>(h.many c.toNat).mono fun xs b=>⟨?_,b.2⟩
 have:(2:Int) ^ (8*n)<=65536:=by
  have:n=0\/n=1\/n=2:=oM
  rcases this with rfl|rfl|rfl<;>decide
 have:=a.1;have:=a.2;rw[b.1];omega
theorem A7.types(a:C7 b)(n:Nat)(c:n<=2):A7 (B4 b n) (fun xs=>xs.length<=65535/\∀x∈xs,Cr x):=A7.list a n c ((A7.num a 1 oM).mono fun x d=>Ah oM oM)
theorem A7.const(a:C7 b):A7 (D6 b) MC.wf:=(A7.num a 1 oM).then fun t c=>(A7.num a 4 oM).then fun x d=>A7.gM ⟨Ah (z:=t) oM oM,Qv (z:=x) oM oM⟩
theorem A7.iq{e:List Int}(d:C7 e):A7 (FY e) MI.wf:=(A7.num d 1 oM).then fun o i=>(A7.num d 1 oM).then fun a f=>(A7.num d 2 oM).then fun b g=>(A7.num d 4 oM).then fun c h=>A7.gM ⟨Ah (z:=o) oM oM,Ah (z:=a) oM oM,Ah (z:=b) oM oM,Ah (z:=c) oM oM⟩
theorem A7.hY(a:C7 b):A7 (Iv b) MT.wf:=(A7.num a 2 oM).then fun f e=>(A7.num a 2 oM).then fun h g=>(A7.num a 1 oM).then fun c d=>(A7.num a 4 oM).then fun i j=>A7.gM ⟨Ah (z:=f) oM oM,Ah (z:=h) oM oM,Ah (z:=c) oM oM,Qv (z:=i) oM oM⟩
theorem A7.func{e:List Int}(a:C7 e):A7 (Fb e) (fun f=>f.small/\f.wf):=(A7.types a 1 oM).then fun i d=>(A7.num a 1 oM).then fun r g=>(A7.types a 1 oM).then fun h c=>(A7.list a 2 oM (A7.iq a)).then fun code b=>A7.gM ⟨⟨jX d.1 oM,jX c.1 oM,jX b.1 oM⟩,⟨d.2,Ah (z:=r) oM oM,c.2,b.2⟩⟩
theorem A7.prog{h:List Int}(b:C7 h):A7 (FR h) (fun p=>p.small/\p.wf):=((A7.types b 2 oM).many 3).then fun rs d=>(A7.list b 2 oM (A7.const b)).then fun i e=>(A7.list b 2 oM (A7.func b)).then fun j c=>(A7.list b 2 oM (A7.hY b)).then fun ts g=>A7.gM ⟨⟨by have:=d.1;simp only[];omega,fun r a=>by have:=(d.2 r a).1;omega,by have:=e.1;simp only[];omega,by have:=c.1;simp only[];omega,fun f a=>(c.2 f a).1,by have:=g.1;simp only[];omega⟩,⟨fun r a=>(d.2 r a).2,e.2,fun f a=>(c.2 f a).2,g.2⟩⟩
theorem AY(n:Int)(c:Int)(w:World):
 Calls Tryz.prog 105 #[iZ n,iZ c] w fun e b=>e=.returned (.bool (decide (0<=n/\n<c)))/\b=w:=by
 by_cases d:n<0
 . rw[ld (by omega:¬(0<=n/\n<c))]
   have a:¬0<=n:=oM;go_enter Tryz.func105,Tryz.ntmps105;go_wp2;go_ret;exact⟨rfl,rfl⟩
 have a:0<=n:=oM;by_cases f:n<c
 . rw[decide_eq_true (by omega:0<=n/\n<c)]
   go_enter Tryz.func105,Tryz.ntmps105;go_wp2;go_ret;exact⟨rfl,rfl⟩
 rw[ld (by omega:¬(0<=n/\n<c))]
 go_enter Tryz.func105,Tryz.ntmps105;go_wp2;go_ret;exact⟨rfl,rfl⟩
theorem FX(F t:Int)(w:World)(a:F=5\/F=6\/F=7):Calls Tryz.prog 110 #[iZ F,iZ t] w fun e b=>Au e (Bb F t)/\b=w:=by
 rcases a with rfl|rfl|rfl
 . go_enter Tryz.func110,Tryz.ntmps110;go_wp2;all_goals(go_ret;refine⟨Au.of ?_,rfl⟩;go_light;simp_all [Bb])
 . go_enter Tryz.func110,Tryz.ntmps110;go_wp2;all_goals(go_ret;refine⟨Au.of ?_,rfl⟩;go_light;simp_all [Bb])
 go_enter Tryz.func110,Tryz.ntmps110;go_wp2_with fail;refine(Ex t _).mono ?_;rintro e u ⟨rfl,rfl⟩;go_wp2;all_goals(go_ret;refine⟨Au.of ?_,rfl⟩;go_light;simp_all [Bb])
structure Nd(w:World)(b:Nat)(x0 x1 x2 x3 x4 x5 x6 x7:Value):Prop where
 c0:w.cell? ⟨b,0,none⟩=some x0
 c1:w.cell? ⟨b,1,none⟩=some x1
 c2:w.cell? ⟨b,2,none⟩=some x2
 c3:w.cell? ⟨b,3,none⟩=some x3
 c4:w.cell? ⟨b,4,none⟩=some x4
 c5:w.cell? ⟨b,5,none⟩=some x5
 c6:w.cell? ⟨b,6,none⟩=some x6
 c7:w.cell? ⟨b,7,none⟩=some x7
theorem Nd.lt{b:Nat}{f:Value}(h:Nd w b a x1 x2 x3 c d e f):b<w.heap.size:=d5 h.c0
theorem Nd.aa{c:World}{b:Nat}{f g i:Value}(h:Nd w b d x1 x2 x3 e f g i)(a:Below w.heap.size w c):Nd c b d x1 x2 x3 e f g i:=⟨by rw[a.cell h.lt];exact h.c0,by rw[a.cell h.lt];exact h.c1,by rw[a.cell h.lt];exact h.c2,by rw[a.cell h.lt];exact h.c3,by rw[a.cell h.lt];exact h.c4,by rw[a.cell h.lt];exact h.c5,by rw[a.cell h.lt];exact h.c6,by rw[a.cell h.lt];exact h.c7⟩
theorem Nd.new(w:World)(a x1 x2 x3 b c d f:Value)(g:TypeId):Nd (w.alloc (.cells #[a,x1,x2,x3,b,c,d,f] g)) w.heap.size a x1 x2 x3 b c d f:=by have h:=ko (base:=w.heap.size) (e:=g) (size:=8) w #[a,x1,x2,x3,b,c,d,f] 1 lR oX sP;exact⟨h.cellAt 0 oM,h.cellAt 1 oM,h.cellAt 2 oM,h.cellAt 3 oM,h.cellAt 4 oM,h.cellAt 5 oM,h.cellAt 6 oM,h.cellAt 7 oM⟩
theorem Nd.alloc{b:Nat}{f:Value}(h:Nd w b a x1 x2 x3 c d e f)(o:Obj):Nd (w.alloc o) b a x1 x2 x3 c d e f:=h.aa (Aa _ _)
def I4(f:MF)(n:Int):Prop:=0<=n/\n<(f.params.length:Int)+(f.locals.length:Int)
theorem GH(j x1 x2 x3:Value)(g:VF)(f:MF)(n:Int)(w:World)(d:f.small)(h:IG w g f):
 Calls Tryz.prog 107 #[.agg #[j,x1,x2,x3,g.p,iZ f.result,g.l,g.c],iZ n] w fun e i=>Au e (I4 f n)/\Below w.heap.size w i:=by
 obtain⟨k,c1,a⟩:=h.1.bW;obtain⟨m,c2,b⟩:=h.2.1.bW;obtain⟨x,v,t⟩:=g;obtain⟨q,r,s⟩:=d;simp only[]at a b;subst a b;clear h;go_enter Tryz.func107,Tryz.ntmps107;go_wp2_with fail;refine(AY n ((f.params.length:Int)+(f.locals.length:Int)) _).mono ?_;rintro e u ⟨rfl,rfl⟩;go_wp2;go_ret;exact⟨.of (by unfold I4;simp),Aa _ _⟩
def Dv(p:MP)(op a b:Int):Prop:=∃l,0<=a/\p.aB[a.toNat]?=some l/\0<=b/\b<(l.length:Int)/\¬((op=5\/op=7)/\a=0)
theorem EO(v:VP)(p:MP)(S T U V:Value)(op a b c:Int)(w:World)(Q:p.small)(m:p.aB.length=3)(h:Ft w v p):
 Calls Tryz.prog 108 #[.agg #[v.r,v.k,v.f,v.t,S,T,U,V],.agg #[iZ op,iZ a,iZ b,iZ c]] w fun e w'=>Au e (Dv p op a b)/\Below w.heap.size w w':=by
 obtain⟨vr,vk,Z,vt⟩:=v;obtain⟨xs,J,E,P⟩:=h.aB;simp only[]at E;rw[m]at E;have R:xs.length=3:=by rw[<-m,<-J];simp
 have n:=Ag (f7 E (f7 J (f7 P (f7 Q.region (f7 R m)))));clear E J P R Q h m;have j:Hid (Below w.heap.size w ((w.alloc (.cells #[vr,vk,Z,vt,S,T,U,V] 143)).alloc (.cells #[iZ op,iZ a,iZ b,iZ c] 96))):=Ac (Aa _ _) lR (Aa _ _);by_cases L:0<=a/\a<3
 . obtain⟨i,rfl⟩:=i7 L.1;have hi:i<3:=oM;obtain⟨⟨l,y⟩,F⟩:∃x,xs[i]?=some x:=⟨_,an (by rw[n.o.2.2.2.2.1];omega)⟩;have D:=CK n.o.2.1 F;have K:=n.o.2.2.1 _ (d9 F);have Y:=n.o.2.2.2.1 _ (d9 D);simp only[]at D K Y;rcases n.o.1.2 with⟨e0,_⟩|⟨g,o,cc,W,O⟩
   . omega
   subst W;have B:=Rd.elem Bc O i _ F 0 _ rfl;rw[kn,kD]at B;simp only[]at B;clear O F;have N:=Ag D;clear D;obtain⟨ay,cy,rfl⟩:=K.bW;clear K;have a1:=(j.o.cell (d5 B)).trans B;have ga:¬g=w.heap.size:=kg (d5 B);have z:Hid (Dv p op (i:Int) b↔¬((op=5\/op=7)/\(i:Int)=0)/\0<=b/\b<(l.length:Int)):=by
    show _↔_;constructor
    . rintro⟨l',h1,h2,m,H,I⟩;rw[kJ,N.o]at h2;obtain rfl:=kH h2;exact⟨I,m,H⟩
    rintro⟨I,m,H⟩;exact⟨l,oM,by rw[kJ];exact N.o,m,H,I⟩
   by_cases d:(op=5\/op=7)/\(i:Int)=0
   . (have A:Hid (¬Dv p op (i:Int) b):=fun e=>(z.o.1 e).1 d);obtain⟨d,q2⟩:=d;obtain rfl:i=0:=oM;rcases d with rfl|rfl
     . go_enter Tryz.func108,Tryz.ntmps108;go_wp2_with fail;refine(AY 0 3 _).mono ?_;rintro e u ⟨rfl,rfl⟩;go_wp2;go_ret;exact⟨.no A.o,j.o⟩
     go_enter Tryz.func108,Tryz.ntmps108;go_wp2_with fail;refine(AY 0 3 _).mono ?_;rintro e u ⟨rfl,rfl⟩;go_wp2;go_ret;exact⟨.no A.o,j.o⟩
   have C:((i:Int)==0)=decide (i=0):=by
    by_cases e:i=0
    . subst e;rfl
    rw[ld e];simpa using e
   have s:decide (0<=(i:Int)/\(i:Int)<3)=true:=decide_eq_true oM
   have G:Hid (decide (0<=b/\b<(l.length:Int))=true↔Dv p op (i:Int) b):=by show _↔_;rw[z.o,mP];exact⟨fun e=>⟨d,e⟩,fun e=>e.2⟩
   by_cases q:op=5
   . subst q;(have X:((i:Int)==0)=false:=by (have:¬i=0:=fun e=>d ⟨.inl rfl,oM⟩);rw[C,ld this]);clear d z C;go_enter Tryz.func108,Tryz.ntmps108;go_wp2_with fail;refine(AY (i:Int) 3 _).mono ?_;rintro e u ⟨rfl,rfl⟩;rw[s];go_wp2_with fail;go_quiet ((go_at_call 105;exact Calls.quiet_of_same (AY b (l.length:Int) _)));go_wp2;go_ret;exact⟨.of G.o,j.o.trans (Aq _ _ _)⟩
   by_cases M:op=7
   . subst M;(have X:((i:Int)==0)=false:=by (have:¬i=0:=fun e=>d ⟨.inr rfl,oM⟩);rw[C,ld this]);clear d z C q;go_enter Tryz.func108,Tryz.ntmps108;go_wp2_with fail;refine(AY (i:Int) 3 _).mono ?_;rintro e u ⟨rfl,rfl⟩;rw[s];go_wp2_with fail;go_quiet ((go_at_call 105;exact Calls.quiet_of_same (AY b (l.length:Int) _)));go_wp2;go_ret;exact⟨.of G.o,j.o.trans (Aq _ _ _)⟩
   (have a6:(op==5)=false:=by simpa using q);(have a8:(op==7)=false:=by simpa using M);clear d z C q M;go_enter Tryz.func108,Tryz.ntmps108;go_wp2_with fail;refine(AY (i:Int) 3 _).mono ?_;rintro e u ⟨rfl,rfl⟩;rw[s];go_wp2_with fail;go_quiet ((go_at_call 105;exact Calls.quiet_of_same (AY b (l.length:Int) _)));go_wp2;go_ret;exact⟨.of G.o,j.o.trans (Aq _ _ _)⟩
 have A:Hid (¬Dv p op a b):=fun⟨l,h1,h2,_⟩=>L ⟨h1,by have:=(d7.1 h2).1;rw[n.o.2.2.2.2.2]at this;omega⟩
 have s:decide (0<=a/\a<3)=false:=ld L
 clear n;by_cases q:op=5
 . subst q;go_enter Tryz.func108,Tryz.ntmps108;go_wp2_with fail;refine(AY a 3 _).mono ?_;rintro e u ⟨rfl,rfl⟩;rw[s];go_wp2;go_ret;exact⟨.no A.o,j.o⟩
 have a6:(op==5)=false:=by simpa using q
 go_enter Tryz.func108,Tryz.ntmps108;go_wp2_with fail;refine(AY a 3 _).mono ?_;rintro e u ⟨rfl,rfl⟩;rw[s];go_wp2;go_ret;exact⟨.no A.o,j.o⟩
def FW(p:MP)(x:MI):Int:=match p.aB[x.a.toNat]? with|some r=>(r[x.b.toNat]?).getD 0|none=>0
def Cm(f:MF):List Int:=if f.result=0 then[]else[f.result]
def AC(p:MP)(f:MF)(x:MI):List Int:=
 if x.op=3 then[AR f x.a]else if x.op=5 then[FW p x]else if x.op=6 then[3]else if x.op=7 then[3,FW p x]
 else if(8<=x.op/\x.op<=15)\/x.op=20\/x.op=21 then[x.a,x.a]else if x.op=16\/x.op=22 then[x.a]
 else if x.op=17\/x.op=18 then[3,3]else if x.op=19 then[2]else if x.op=23\/x.op=24 then[0]else if x.op=26 then[1]
 else if x.op=28 then(match p.funcs[x.a.toNat]? with|some g=>g.params|none=>[])else[]
def Wt(l:List MC)(i:Nat):MC:=(l[i]?).getD ⟨0,0⟩
def AE(p:MP)(f:MF)(x:MI):List Int:=
 if x.op=1 then[(Wt p.ag x.a.toNat).type]else if x.op=2 then[AR f x.a]else if x.op=4\/x.op=6 then[FW p x]
 else if 8<=x.op/\x.op<=16 then[x.a]else if x.op=17\/x.op=18 then[3]else if x.op=19 then[2]else if x.op=20\/x.op=21 then[1]
 else if x.op=22 then[x.b]else if x.op=23 then[0,0]else if x.op=28 then(match p.funcs[x.a.toNat]? with|some g=>Cm g|none=>[])else[]
def Km(f:MF):List Int:=(f.code.filter fun x=>decide (x.op=28)).map MI.a
def FG(b:List MF)(done:List Int)(i:Nat):Bool:= !done.contains (i:Int)&&match b[i]? with|some f=>(Km f).all fun a=>done.contains a|none=>false
def K2(a:List MF)(done:List Int):Option Nat:=(List.range a.length).find? (FG a done)
def GM(a:List MF):Nat->List Int->List Int
 |0,done=>done
 |k+1,done=>match K2 a done with|some i=>GM a k (done++[(i:Int)])|none=>[]
def IR(a:List MF):List Int:=GM a a.length []
theorem Ol{b:List MF}(h1:i<b.length)(h2:FG b done i=true)(c:∀j,j<i->FG b done j=false):K2 b done=some i:=by
 unfold K2;rw[List.find?_eq_some_iff_append];refine⟨h2,(List.range i),(List.range' (i+1) (b.length-i-1)),?_,fun a d=> ?_⟩
 . rw[List.range_eq_range',List.range_eq_range',show b.length=i+(1+(b.length-i-1))from oM,<-List.range'_append_1,<-List.range'_append_1];simp
 rw[c a (by simpa using d)];rfl
theorem Ok{b:List MF}(h:∀j,j<b.length->FG b done j=false):K2 b done=none:=by unfold K2;rw[List.find?_eq_none];intro a c;rw[h a (by simpa using c)];exact mS
theorem RM(h:CI p)(d:p.funcs[i]?=some f){a:Int}(c:a∈Km f):0<=a/\a<(p.funcs.length:Int):=by
 unfold Km at c;obtain⟨x,m,rfl⟩:=lL.1 c;obtain⟨n,j⟩:=ms.1 m;simp only[mP]at j;obtain⟨k,g⟩:=lY n;have l:=h i (d7.1 d).1 f d k (d7.1 g).1 x g;obtain⟨_,_,b⟩:=l;have e:AW x.op=11:=by rw[j];rfl
 rw[e]at b;unfold A4 at b;simp[Bb]at b;exact⟨b.1,b.2.1⟩
def NM:List Int->List Int->Bool
 |[],[]=>true
 |s::ss,t::ts=>(t==0||s==t)&&NM ss ts
 |_,_=>false
theorem L5{a:List Int}(e:a.length=b.length):NM a b=true↔∀(i:Nat) s t,a[i]?=some s->b[i]?=some t->t=0\/s=t:=by
 induction a generalizing b with
 | nil=>
   cases b with
   |nil=>simp[NM]
   |cons _ _=>simp at e
 | cons v r f=>
   cases b with
   |nil=>simp at e
   | cons t q=>
     simp only[NM,nL,Bool.or_eq_true,beq_iff_eq];rw[f (by simpa using e)];constructor
     . rintro⟨h1,h2⟩ i s u c d;cases i with
       |zero=>simp only[i5,i4]at c d;subst c d;exact h1
       |succ i=>simp only[i8]at c d;exact h2 i s u c d
     intro h;exact⟨h 0 v t rfl rfl,fun i s u c d=>h (i+1) s u (by simpa using c) (by simpa using d)⟩
def SH(p:MP)(f:MF)(x:MI)(sh:List Int):Nat:=sh.length-(AC p f x).length
def IU(p:MP)(f:MF)(x:MI)(sh:List Int):List Int:=sh.take (SH p f x sh)++(AE p f x).map fun t=>if t=0 then(sh[SH p f x sh]?).getD 0 else t
def Dj(p:MP)(f:MF)(x:MI)(sh:List Int):Int:=
 if sh.length<(AC p f x).length then 1
 else if NM (sh.drop (SH p f x sh)) (AC p f x)=false\/(x.op=27/\AR f x.a≠3)then 2
 else if 64<(IU p f x sh).length then 3 else 0
def V6(op:Int):Prop:=op=25\/op=26\/op=27
structure Ui(p:MP)(f:MF)(shs:List (List Int))(i:Nat)(x:MI)(sh:List Int):Prop where
 types:sh.all Fk=true
 jB:sh.length<=64
 ret:x.op=29->sh=Cm f
 code:x.op≠29->Dj p f x sh=0
 next:x.op≠29->x.op≠25->shs[i+1]?=some (IU p f x sh)
 named:V6 x.op->shs[x.c.toNat]?=some (IU p f x sh)
structure Wq(p:MP)(f:MF)(shs:List (List Int)):Prop where
 len:shs.length=f.code.length
 cK:shs[0]?=some []
 all:∀(i:Nat) x sh,f.code[i]?=some x->shs[i]?=some sh->Ui p f shs i x sh
end Go.Proofs.YthjbicggfnnonaaGreatDoor
