import Derived.Test.YtmalfecapdmdbaaGreatHo12
import Derived.Test.YtmalfecapdmdbaaGreatHo4
import Derived.Test.YtmalfecapdmdbaaGreatHo11
namespace Go.Proofs.YtmalfecapdmdbaaGreat
open Go.ChangeShapes Go.WideShapes Go.ChangeAt Go.RowKit Go.Proofs.Tryz
set_option linter.unusedVariables false
open Go renaming Value → J,World → Y,Calls → Ai,TypeId → Aj
open Go.RowKit renaming Below → Ah,Hid → Ae
open Go.Value renaming slice → Z,int → Ag,agg → Am,bool → An
open Option renaming some → K,none → M
open Go.IntKind renaming i64 → Af
open Go.Obj renaming cells → Ak
open Go.Ending renaming returned → Al
open Go.Proofs.Tryz renaming prog → Ap
open Go.World renaming alloc → Ac
open List renaming flatMap → Ad
set_option maxHeartbeats 8000000
set_option maxRecDepth 100000
variable {xs:List MI}{c d V a e g i j:J}{b base k:Nat}{w:Y}{F:List (MB×J)}{p:MP}{fs:List MF}{f:MF}{q:Prop}{done:List Int}
def OL(xs:List MI)(a:List MB):Prop:=(¬A3 xs/\a=[])\/A3 xs/\a=AM xs
theorem OL.one{c d:List MB}(h:OL xs c)(e:OL xs d):c=d:=by
 rcases h with⟨a,rfl⟩|⟨a,rfl⟩<;>rcases e with⟨b,rfl⟩|⟨b,rfl⟩
 . rfl
 . exact absurd b a
 . exact absurd a b
 rfl
theorem OL.small{b:List MB}(h:OL xs b):b.length<=1048576/\∀f∈b,f.small:=by
 rcases h with⟨c,rfl⟩|⟨c,rfl⟩
 . exact⟨sP, λf a=>(by cases a)⟩
 refine⟨?_,?_⟩
 . unfold AM;rw[lC,BG];have:=mW (Bv xs xs) (List.range xs);have d:=c.2.1;simp only[mM]at this;exact kV this oM
 intro f a;unfold AM at a;obtain⟨m,_,rfl⟩:=lA.1 a;show(FK xs m).next.length<=1048576;simp only[FK,Er];split<;>split<;>simp
theorem GU.rd(h:GU w base V F):Kp w V (F.map Prod.fst):=by refine⟨F,rfl,?_, λx a=>Rd.gM (h.gV.own (x.2,x.1.next) (by unfold Dx;exact nN (f:= λx=>(x.2,x.1.next)) a))⟩;rw[lC];exact Rd.gM h.row
theorem GU.a7{b:Y}(h:GU w base V F)(a:Ah w w b):GU b base V F:=⟨Aw h.row a lR,h.gV.a7 a⟩
def Fj(p:MP)(f:MF):Prop:=∀k,k<f.eC.length->∀x,f.eC[k]?=K x->AS p f x
def CD(p:MP):Prop:=∀j,j<p.bW.length->∀f,p.bW[j]?=K f->Fj p f
def A4(p:MP)(n:Int):Prop:=
 (n=1/\¬AU p.bO)\/(n=2/\AU p.bO/\¬Be p.ej)\/(n=3/\AU p.bO/\Be p.ej/\¬Bj p.bW)\/
 (n=4/\AU p.bO/\Be p.ej/\Bj p.bW/\¬CD p)\/(n=5/\AU p.bO/\Be p.ej/\Bj p.bW/\CD p/\¬Bi p)\/
 (n=0/\AU p.bO/\Be p.ej/\Bj p.bW/\CD p/\Bi p)
theorem A4.one{n m:Int}(h:A4 p n)(a:A4 p m):n=m:=by unfold A4 at h a;by_cases b:AU p.bO<;>by_cases c:Be p.ej<;>by_cases d:Bj p.bW<;>by_cases e:CD p<;>by_cases f:Bi p<;>simp[b,c,d,e,f]at h a<;>omega
def Cc(e:Ending)(p:MP):Prop:=∃n,e=Al (iZ n)/\A4 p n
theorem Cc.f1(h:¬AU p.bO):Cc (Al (iZ 1)) p:=⟨_,rfl,.inl ⟨rfl,h⟩⟩
theorem Cc.f2(a:AU p.bO)(h:¬Be p.ej):Cc (Al (iZ 2)) p:=⟨_,rfl,.inr (.inl ⟨rfl,a,h⟩)⟩
theorem Cc.f3(a:AU p.bO/\Be p.ej)(h:¬Bj p.bW):Cc (Al (iZ 3)) p:=⟨_,rfl,.inr (.inr (.inl ⟨rfl,a.1,a.2,h⟩))⟩
theorem Cc.f4(a:AU p.bO/\Be p.ej)(b:Bj p.bW)(h:¬CD p):Cc (Al (iZ 4)) p:=⟨_,rfl,.inr (.inr (.inr (.inl ⟨rfl,a.1,a.2,b,h⟩)))⟩
theorem Cc.f5(a:AU p.bO/\Be p.ej)(b:Bj p.bW)(c:CD p)(h:¬Bi p):Cc (Al (iZ 5)) p:=⟨_,rfl,.inr (.inr (.inr (.inr (.inl ⟨rfl,a.1,a.2,b,c,h⟩))))⟩
theorem Cc.f0(a:AU p.bO/\Be p.ej)(b:Bj p.bW)(c:CD p)(h:Bi p):Cc (Al (iZ 0)) p:=⟨_,rfl,.inr (.inr (.inr (.inr (.inr ⟨rfl,a.1,a.2,b,c,h⟩))))⟩
theorem Po{n:Nat}(b: ↑fs=n)(c:¬n=0)(d:n<=32)(h:∀j,j<n->∀f,fs[j]?=K f->Cd f (decide (j=0))):Bj fs:=by refine⟨by rw[b];exact c,by rw[b];exact d, λj e f a=>(h j oM f a).1, λf a=>(h 0 oM f a).2 sP⟩
theorem Pr(h:Bj fs)(a:fs[k]?=K f):Cd f (decide (k=0)):=by
 refine⟨h.2.2.1 k (i6.1 a).1 f a, λe=> ?_⟩;obtain rfl:k=0:=by simpa using e
 exact h.2.2.2 f a
theorem VI(b:fs[k]?=K f)(c:Cd f (decide (k=0)))(h:∀j,j<k->∀f,fs[j]?=K f->Cd f (decide (j=0))):∀j,j<k+1->∀f,fs[j]?=K f->Cd f (decide (j=0)):=by
 intro j d g a;by_cases e:j=k
 . subst e;rw[b]at a;exact(kH a)▸c
 exact h j oM g a
structure Mc(w u:Y)(a b c d:J):Prop where
 e8:Ah w w u
 prog:CX u w a b c d
theorem Mc.a7{u f:Y}{b:J}(h:Mc w u a b c d)(e:Ah u u f):Mc w f a b c d:=⟨Ar h.e8 lR e,h.prog.a7 e⟩
theorem Mc.of(w:Y)(a b c d:J)(t:Aj):Mc w (Ac w (Ak #[a,b,c,d] t)) a b c d:=⟨Aq _ _,CX.new _ _ _ _ _ _⟩
structure Pg(w:Y)(vr vk vf vt:J)(p:MP)(xs:List (List Int×J))(ys:List (MF×VF)):Prop where
 small:p.small
 wf:p.wf
 rd:Da w ⟨vr,vk,vf,vt⟩ p
 rr:Rd w 1 vr p.bO (Ad BW xs)
 rm:xs.map Prod.fst=p.bO
 re:∀x∈xs,Rd w 1 x.2 x.1 (x.1.flatMap As)
 rl:xs.length= ↑p.bO
 fr:Rd w 4 vf p.bW (Ad Ch ys)
 fm:ys.map Prod.fst=p.bW
 fe:∀x∈ys,DE w x.2 x.1
 fl:ys.length= ↑p.bW
theorem Pg.of{v:VP}(g:p.small)(hw:p.wf)(h:Da w v p):∃xs a,Pg w v.r v.k v.f v.t p xs a:=by obtain⟨xs,b,d,e⟩:=h.bO;obtain⟨a,c,i,j⟩:=h.bW;exact⟨xs,a,g,hw,h,d,b,e,by rw[<-b];simp,i,c,j,by rw[<-c];simp⟩
theorem Dj(v:VP)(p:MP)(w:Y)(hs:p.small)(hw:p.wf)(h:Da w v p):
 Ai Ap 17 #[Am #[v.r,v.k,v.f,v.t]] w λe w'=>Cc e p/\Ah w w w':=by
 obtain⟨xs,ys,hP⟩:=Pg.of hs hw h;obtain⟨vr,R,vf,S⟩:=v;simp only[]at hP;obtain⟨Q,c1,d⟩:=hP.rr.dk;obtain⟨r3,c3,e3⟩:=hP.fr.dk;have hm:=hs.bW;subst d e3;clear hs hw h;have s:Ae _:=hP;clear hP;have a:Ae _:=Mc.of w (Z Q p.bO c1) R (Z r3 p.bW c3) S 36;by_cases q0:p.bO.length=3
 . generalize hN:p.bO.length=n at*;subst q0;generalize hM:p.bW.length=m at*;have A:=Av (d5 hN hM);have s:=Av s;clear hN hM;go_enter func17,ntmps17;go_wp2;go_loopw [3] (λi wr=>∃k:Nat,k<=3/\i=iZ k/\Ae (∀j,j<k->∀r,p.bO[j]?=K r->GX r)/\Ae (Mc w wr (Z Q 3 c1) R (Z r3 m c3) S)) (λi _=>3-(intOf i).toNat)
   (case atStart=>exact⟨0,oM,rfl, λj V=>oM,a⟩);clear a;obtain⟨k,hk,rfl,L,a⟩:=hrel;obtain⟨F,G,H,I⟩:=a.prog;by_cases N:k<3
   . obtain⟨⟨f,v⟩,g⟩:∃x,xs[k]?=K x:=⟨_,an (by rw[s.rl,A.1];exact N)⟩;have d:=Bo s.rm g;have hf:=(s.re _ (i7 g)).a7 a.e8 lR;have y:=Av (d5 hf (d5 (s.small.region _ (i7 d)) d));clear d;rcases s.rr.2 with⟨U,_⟩|⟨b,o,c,d,E⟩
     . rw[A.1]at U;omega
     rw[A.1]at d;simp only[i8,lB]at d;obtain⟨rfl,rfl⟩:=d;have C:=Rd.elem A5 E k _ g 0 _ rfl;rw[<-a.e8.cell (hC C)]at C;rw[lN,kJ]at C;clear E g;simp only[]at C hf;obtain⟨av,cv,ev⟩:=hf.dk;subst ev;clear hf;have hz:=y.2.1;by_cases q1:256<f.length
     . (have B:Ae (¬AU p.bO):= λe=>absurd (e.2 k (by rw[A.1];exact N) f y.2.2).1 oM);have aY:(256:Int)<(f.length:Int):=oM;generalize f.length=z at*;go_wp2;go_ret;exact⟨.f1 B,a.e8⟩
     have aY:¬(256:Int)<(f.length:Int):=oM;go_wp2_with fail;refine(FF _ f _ y.2.1 y.1).mono ?_;rintro e u ⟨rfl,rfl⟩;cases t1:f.all Ec
     . (have B:Ae (¬AU p.bO):= λe=>by have:=(e.2 k (by rw[A.1];exact N) f y.2.2).2;simp[t1]at this);clear t1;go_wp2;go_ret;exact⟨.f1 B,a.e8⟩
     have B:Ae (GX f):=⟨oM,t1⟩;clear t1;go_wp2;go_roundw;(case rel=>exact⟨k+1,oM,by go_num,CO y.2.2 B L,a⟩);exact oI
   have aj:3=k:=oM;subst aj;have HR:Ae (AU p.bO):=⟨A.1,by rw[A.1];exact L⟩;clear L N hk;go_wp2_with fail;refine(Oe ⟨Z Q 3 c1,R,Z r3 m c3,S⟩ p _ s.small (s.rd.a7 a.e8 lR)).mono ?_;rintro e u1 ⟨⟨b1,rfl,au⟩,aM⟩;have W:=Av (a.a7 aM);clear aM F G H I a;cases b1
   . (have B:Ae (¬Be p.ej):= λe=>by simp[e]at au);clear au;go_wp2;go_ret;exact⟨.f2 HR B,W.e8⟩
   have X:=Av (d5 HR.o (au.1 rfl));clear au HR;obtain⟨F,G,H,I⟩:=W.prog;by_cases q2:m=0
   . (have B:Ae (¬Bj p.bW):= λe=>e.1 (A.2.trans q2));subst q2;go_wp2;go_ret;exact⟨.f3 X B,W.e8⟩
   (have aZ:((m:Int)==0)=false:=by simpa using q2);by_cases q3:32<m
   . (have B:Ae (¬Bj p.bW):= λe=>absurd e.2.1 (by rw[A.2];omega));have aU:(32:Int)<(m:Int):=oM;go_wp2;go_ret;exact⟨.f3 X B,W.e8⟩
   have aU:¬(32:Int)<(m:Int):=oM;go_wp2;clear F G H I aZ aU;go_loopw [4] (λi wr=>∃k:Nat,k<=m/\i=iZ k/\Ae (∀j,j<k->∀f,p.bW[j]?=K f->Cd f (decide (j=0)))/\Ae (Mc w wr (Z Q 3 c1) R (Z r3 m c3) S)) (λi _=>m-(intOf i).toNat)
   (case atStart=>exact⟨0,oM,rfl, λj V=>oM,W⟩);clear W;obtain⟨k,hk,rfl,L,a⟩:=hrel;obtain⟨F,G,H,I⟩:=a.prog;by_cases N:k<m
   . obtain⟨⟨f,v⟩,g⟩:∃x,ys[k]?=K x:=⟨_,an (by rw[s.fl,A.2];exact N)⟩;have d:=Bo s.fm g;have y:=Av (d5 ((s.fe _ (i7 g)).a7 a.e8 lR) (d5 (s.small.func _ (i7 d)) d));clear d;rcases s.fr.2 with⟨U,_⟩|⟨b,o,c,d,E⟩
     . rw[A.2]at U;omega
     rw[A.2]at d;simp only[i8,lB]at d;obtain⟨rfl,rfl⟩:=d;have C:=Rd.elem Ay E k _ g 0 _ rfl;have O:=Rd.elem Ay E k _ g 1 _ rfl;have P:=Rd.elem Ay E k _ g 2 _ rfl;have D:=Rd.elem Ay E k _ g 3 _ rfl;rw[<-a.e8.cell (hC C),kJ]at C;rw[<-a.e8.cell (hC O)]at O;rw[<-a.e8.cell (hC P)]at P;rw[<-a.e8.cell (hC D)]at D;clear E g;simp only[]at C O P D;go_wp2_with fail;refine(Ri v f ((k:Int)==0) _ y.2.1 y.1).mono ?_;rintro e u2 ⟨⟨b2,rfl,ae⟩,aP⟩;have aH:=Av (a.a7 aP);have aR:((k:Int)==0)=decide (k=0):=by
      by_cases e:k=0
      . subst e;rfl
      rw[lZ e];simpa using e
     rw[aR]at ae;clear aP a F G H I C O P D aR;cases b2
     . (have B:Ae (¬Bj p.bW):= λe=>by simp[Pr e y.2.2]at ae);clear ae;go_wp2;go_ret;exact⟨.f3 X B,aH.e8⟩
     have HC:Ae (Cd f (decide (k=0))):=ae.1 rfl;clear ae;go_wp2;go_roundw;(case rel=>exact⟨k+1,oM,by go_num,VI y.2.2 HC L,aH⟩);exact oI
   have aj:m=k:=oM;subst aj;have aA:=Av (Po A.2 q2 oM L);clear L N hk;go_wp2;clear F G H I;go_loopw [5,6] (λi kk wr=>∃k:Nat,k<=m/\i=iZ k/\Ae (∀j,j<k->∀f,p.bW[j]?=K f->Fj p f)/\Ae (Mc w wr (Z Q 3 c1) R (Z r3 m c3) S)) (λi _ _=>m-(intOf i).toNat)
   (case atStart=>exact⟨0,oM,rfl, λj V=>oM,a⟩);clear a;obtain⟨k,hk,rfl,L,a⟩:=hrel;obtain⟨F,G,H,I⟩:=a.prog;by_cases N:k<m
   . obtain⟨⟨f,v⟩,g⟩:∃x,ys[k]?=K x:=⟨_,an (by rw[s.fl,A.2];exact N)⟩;have d:=Bo s.fm g;have y:=Av (d5 (s.fe _ (i7 g)) (d5 (s.small.func _ (i7 d)) (d5 d (s.wf.bW _ (i7 d)))));clear d;rcases s.fr.2 with⟨U,_⟩|⟨b,o,c,d,E⟩
     . rw[A.2]at U;omega
     rw[A.2]at d;simp only[i8,lB]at d;obtain⟨rfl,rfl⟩:=d;have aF:Ae (w ⟨b,o+k*4,M⟩=K v.p/\w ⟨b,o+k*4+1,M⟩=K ↑f.gy/\w ⟨b,o+k*4+2,M⟩=K v.l/\w ⟨b,o+k*4+3,M⟩=K v.c):=⟨Rd.elem Ay E k _ g 0 _ rfl,Rd.elem Ay E k _ g 1 _ rfl,Rd.elem Ay E k _ g 2 _ rfl,Rd.elem Ay E k _ g 3 _ rfl⟩
     clear E g;obtain⟨ac,cc,ec⟩:=y.1.2.2.dk;obtain⟨vp,vl,vc⟩:=v;simp only[]at ec;subst ec;have hz:=y.2.1.2.2;generalize hZ:f.eC.length=z at*;have HZ:=Av hZ;clear hZ;have D:=aF.2.2.2;rw[<-a.e8.cell (hC D)]at D;simp only[]at D;go_wp2;clear F G H I D;go_loopw [6] (λi wr=>∃q:Nat,q<=z/\i=Ag Af q/\Ae (∀j,j<q->∀x,f.eC[j]?=K x->AS p f x)/\Ae (Mc w wr (Z Q 3 c1) R (Z (K ⟨b,o,M⟩) m c3) S)) (λi _=>z-(intOf i).toNat)
     (case atStart=>exact⟨0,oM,rfl, λj V=>oM,a⟩);clear a;obtain⟨q,hq,rfl,aJ,a⟩:=hrel;obtain⟨F,G,H,I⟩:=a.prog;obtain⟨C,O,P,D⟩:=aF.o;rw[<-a.e8.cell (hC C)]at C;rw[<-a.e8.cell (hC O)]at O;rw[<-a.e8.cell (hC P)]at P;rw[<-a.e8.cell (hC D)]at D;by_cases aS:q<z
     . obtain⟨x,g⟩:∃x,f.eC[q]?=K x:=⟨_,an (by rw[HZ];exact aS)⟩;have aT:=y.2.2.2.eC x (i7 g);rcases y.1.2.2.2 with⟨U,_⟩|⟨b',o',c',d,ah⟩
       . rw[HZ]at U;omega
       rw[HZ]at d;simp only[i8,lB]at d;obtain⟨rfl,rfl⟩:=d;have j0:=Rd.elem MI.dr ah q x g 0 _ rfl;have j1:=Rd.elem MI.dr ah q x g 1 _ rfl;have j2:=Rd.elem MI.dr ah q x g 2 _ rfl;have j3:=Rd.elem MI.dr ah q x g 3 _ rfl;rw[<-a.e8.cell (hC j0),kJ]at j0;rw[<-a.e8.cell (hC j1)]at j1;rw[<-a.e8.cell (hC j2)]at j2;rw[<-a.e8.cell (hC j3)]at j3;have T:Ae (f.eC[q]?=K x/\x.wf):=⟨g,aT⟩
       clear ah g aT;obtain⟨xo,xa,xb,xc⟩:=x;simp only[]at j0 j1 j2 j3;have inst:=AB.some wr;(have P0:= λn:AB wr=>AB.cell F n);(have P1:= λn:AB wr=>AB.cell G n);(have P2:= λn:AB wr=>AB.cell H n);(have P3:= λn:AB wr=>AB.cell I n);(have I0:= λn:AB wr=>AB.cell C n);(have I1:= λn:AB wr=>AB.cell O n);(have I2:= λn:AB wr=>AB.cell P n);(have I3:= λn:AB wr=>AB.cell D n);(have J0:= λn:AB wr=>AB.cell j0 n);(have J1:= λn:AB wr=>AB.cell j1 n);(have J2:= λn:AB wr=>AB.cell j2 n);(have J3:= λn:AB wr=>AB.cell j3 n);by_cases am:AS p f ⟨xo,xa,xb,xc⟩
       . have aq:Ae (AS p f ⟨xo,xa,xb,xc⟩):=am;clear am;go_wp2_with fail;refine AL kR kR ?_;(repeat(go_big_quiet_step ((go_at_call 33;rename_i n;exact(Kb ⟨Z Q 3 c1,R,Z (K ⟨b,o,M⟩) m c3,S⟩ p ⟨vp,vl,Z (K ⟨b',o',M⟩) z cc⟩ f xo xa xb xc n.u s.small A.1 y.2.1 T.2.2.1 T.2.2.2.1 T.2.2.2.2 (s.rd.a7 (Ar a.e8 lR n.h) lR) (y.1.a7 (Ar a.e8 lR n.h) lR)).mono λe ao h=>⟨h.1.true aq,⟨⟨ao,Ar n.h lR h.2⟩,rfl⟩⟩))));refine wpQuiet_nil ?_;rintro ao ⟨n,rfl⟩;have aE:=Av (a.a7 n.h);clear a F G H I C O P D j0 j1 j2 j3 P0 P1 P2 P3 I0 I1 I2 I3 J0 J1 J2 J3 inst;go_wp2;go_roundw;(case rel=>exact⟨q+1,oM,by go_num,CO T.1 aq aJ,aE⟩);exact oI
       have aq:Ae (¬AS p f ⟨xo,xa,xb,xc⟩):=am;(have B:Ae (¬CD p):= λe=>am (e k (by rw[A.2];exact N) f y.2.2.1 q (by rw[HZ];exact aS) _ T.1));clear am;go_wp2_with fail;refine AL kR kR ?_;(repeat(go_big_quiet_step ((go_at_call 33;rename_i n;exact(Kb ⟨Z Q 3 c1,R,Z (K ⟨b,o,M⟩) m c3,S⟩ p ⟨vp,vl,Z (K ⟨b',o',M⟩) z cc⟩ f xo xa xb xc n.u s.small A.1 y.2.1 T.2.2.1 T.2.2.2.1 T.2.2.2.2 (s.rd.a7 (Ar a.e8 lR n.h) lR) (y.1.a7 (Ar a.e8 lR n.h) lR)).mono λe ao h=>⟨h.1.false aq,⟨⟨ao,Ar n.h lR h.2⟩,rfl⟩⟩))));refine wpQuiet_nil ?_;rintro ao ⟨n,rfl⟩;have aE:=Av (a.a7 n.h);clear a F G H I C O P D j0 j1 j2 j3 P0 P1 P2 P3 I0 I1 I2 I3 J0 J1 J2 J3 inst;go_wp2;go_ret;exact⟨.f4 X aA B,aE.e8⟩
     have aX:z=q:=oM;subst aX;(have aW:Ae (Fj p f):= λj V x g=>aJ.o j (by rw[<-HZ];exact V) x g);go_wp2;go_roundw;(case rel=>exact⟨k+1,oM,by go_num,CO y.2.2.1 aW L,a⟩);exact oI
   have aj:m=k:=oM;subst aj;(have aG:Ae (CD p):= λj V f hf=>L.o j (by rw[<-A.2];exact V) f hf);go_wp2_with fail;refine(Py ⟨Z Q 3 c1,R,Z r3 m c3,S⟩ p _ s.small s.wf (s.rd.a7 a.e8 lR)).mono ?_;rintro e u5 ⟨⟨b5,rfl,aw⟩,aQ⟩;have aI:=Av (Ar a.e8 lR aQ);clear aQ F G H I;cases b5
   . (have B:Ae (¬Bi p):= λe=>by simp[e]at aw);clear aw;go_wp2;go_ret;exact⟨.f5 X aA aG B,aI⟩
   have HY:Ae (Bi p):=aw.1 rfl;clear aw;go_wp2;go_ret;exact⟨.f0 X aA aG HY,aI⟩
 have B:Ae (¬AU p.bO):= λe=>q0 e.1
 have b7:((p.bO:Int)==3)=false:=oT;have bf:¬(p.bO:Int)=3:=oM;go_enter func17,ntmps17;go_wp2;go_ret;exact⟨.f1 B,a.e8⟩
def DK(p:MP)(x:MI):Int:=match p.bO[x.a.toNat]? with|some r=>(r[x.b.toNat]?).getD 0|none=>0
def A7(f:MF):List Int:=if f.gy=0 then[]else[f.gy]
def AG(p:MP)(f:MF)(x:MI):List Int:=
 if x.op=3 then[AN f x.a]else if x.op=5 then[DK p x]else if x.op=6 then[3]else if x.op=7 then[3,DK p x]
 else if(8<=x.op/\x.op<=15)\/x.op=20\/x.op=21 then[x.a,x.a]else if x.op=16\/x.op=22 then[x.a]
 else if x.op=17\/x.op=18 then[3,3]else if x.op=19 then[2]else if x.op=23\/x.op=24 then[0]else if x.op=26 then[1]
 else if x.op=28 then(match p.bW[x.a.toNat]? with|some g=>g.gw|none=>[])else[]
def Xx(l:List MC)(i:Nat):MC:=(l[i]?).getD ⟨0,0⟩
def AF(p:MP)(f:MF)(x:MI):List Int:=
 if x.op=1 then[(Xx p.ej x.a.toNat).type]else if x.op=2 then[AN f x.a]else if x.op=4\/x.op=6 then[DK p x]
 else if 8<=x.op/\x.op<=16 then[x.a]else if x.op=17\/x.op=18 then[3]else if x.op=19 then[2]else if x.op=20\/x.op=21 then[1]
 else if x.op=22 then[x.b]else if x.op=23 then[0,0]else if x.op=28 then(match p.bW[x.a.toNat]? with|some g=>A7 g|none=>[])else[]
def CH(p:MP)(f:MF)(x:MI):List Int:=if x.op=29 then A7 f else AG p f x
theorem JR(h:q:=by go_enter func120,ntmps120;go_wp2;go_ret;exact⟨rfl,rfl⟩):q:=h
theorem Bc(n:Int)(c:Int)(w:Y):
 Ai Ap 120 #[n,c] w λe b=>e=Al (An (decide (0<=n/\n<c)))/\b=w:=by
 by_cases d:n<0
 . rw[lZ (by omega:¬(0<=n/\n<c))]
   have a:¬0<=n:=oM;exact JR
 have a:0<=n:=oM;by_cases f:n<c
 . rw[decide_eq_true (by omega:0<=n/\n<c)]
   exact JR
 rw[lZ (by omega:¬(0<=n/\n<c))]
 exact JR
theorem JS(h:q:=by go_wp2;all_goals(go_ret;refine⟨AJ.of ?_,rfl⟩;go_light;simp_all [Bz])):q:=h
theorem FQ(F t:Int)(w:Y)(a:F=5\/F=6\/F=7):Ai Ap 125 #[F,t] w λe b=>AJ e (Bz F t)/\b=w:=by
 rcases a with rfl|rfl|rfl
 . go_enter func125,ntmps125;exact JS
 . go_enter func125,ntmps125;exact JS
 go_enter func125,ntmps125;go_wp2_with fail;refine(DT t _).mono ?_;rintro e u ⟨rfl,rfl⟩;exact JS
structure OK(w:Y)(b:Nat)(x0 x1 x2 x3 x4 x5 x6 x7:J):Prop where
 c0:w b=K x0
 c1:w ⟨b,1,M⟩=K x1
 c2:w ⟨b,2,M⟩=K x2
 c3:w ⟨b,3,M⟩=K x3
 c4:w ⟨b,4,M⟩=K x4
 c5:w ⟨b,5,M⟩=K x5
 c6:w ⟨b,6,M⟩=K x6
 c7:w ⟨b,7,M⟩=K x7
theorem OK.lt{f:J}(h:OK w b a c d e f g i j):b<w.heap.size:=hC h.c0
theorem OK.a7{c:Y}{f k l:J}(h:OK w b d e f g i j k l)(a:Ah w w c):OK c b d e f g i j k l:=⟨by rw[a.cell h.lt];exact h.c0,by rw[a.cell h.lt];exact h.c1,by rw[a.cell h.lt];exact h.c2,by rw[a.cell h.lt];exact h.c3,by rw[a.cell h.lt];exact h.c4,by rw[a.cell h.lt];exact h.c5,by rw[a.cell h.lt];exact h.c6,by rw[a.cell h.lt];exact h.c7⟩
theorem OK.new(w:Y)(a b c d f g i j:J)(ty:Aj):OK (Ac w (Ak #[a,b,c,d,f,g,i,j] ty)) w a b c d f g i j:=by have h:=mj (base:=w) (e:=ty) (size:=8) w #[a,b,c,d,f,g,i,j] 1 lR oX sP;exact⟨h.cellAt 0 oM,h.cellAt 1 oM,h.cellAt 2 oM,h.cellAt 3 oM,h.cellAt 4 oM,h.cellAt 5 oM,h.cellAt 6 oM,h.cellAt 7 oM⟩
theorem OK.alloc{f:J}(h:OK w b a c d e f g i j)(o:Obj):OK (w.alloc o) b a c d e f g i j:=h.a7 (Aq _ _)
def I4(f:MF)(n:Int):Prop:=0<=n/\n<(f.gw:Int)+(f.gG:Int)
theorem Gy(j k m q:J)(g:VF)(f:MF)(n:Int)(w:Y)(d:f.small)(h:DE w g f):
 Ai Ap 122 #[Am #[j,k,m,q,g.p,f.gy,g.l,g.c],n] w λe i=>AJ e (I4 f n)/\Ah w w i:=by
 obtain⟨r,c1,a⟩:=h.1.dk;obtain⟨s,c2,b⟩:=h.2.1.dk;obtain⟨A,z,y⟩:=g;obtain⟨t,v,x⟩:=d;simp only[]at a b;subst a b;clear h;go_enter func122,ntmps122;go_wp2_with fail;refine(Bc n ((f.gw:Int)+(f.gG:Int)) _).mono ?_;rintro e u ⟨rfl,rfl⟩;go_wp2;go_ret;exact⟨.of (by unfold I4;simp),Aq _ _⟩
def CY(p:MP)(op a b:Int):Prop:=∃l,0<=a/\p.bO[a.toNat]?=K l/\0<=b/\b<(l.length:Int)/\¬((op=5\/op=7)/\a=0)
theorem JQ(h:q:=by go_enter func123,ntmps123;go_wp2_with fail;refine(Bc (i:Int) 3 _).mono ?_;rintro e u ⟨rfl,rfl⟩;rw[hit];go_wp2_with fail;go_quiet ((go_at_call 120;exact Calls.quiet_of_same (Bc b (l:Int) _)));go_wp2;go_ret;exact⟨.of HD,HB.trans (Az _ _ _)⟩):q:=h
theorem NB(h:q:=by go_enter func123,ntmps123;go_wp2_with fail;refine(Bc a 3 _).mono ?_;rintro e u ⟨rfl,rfl⟩;rw[hit];go_wp2;go_ret;exact⟨.no HN,HB⟩):q:=h
theorem NC(h:q:=by go_wp2_with fail;refine(Bc 0 3 _).mono ?_;rintro e u ⟨rfl,rfl⟩;go_wp2;go_ret;exact⟨.no HN,HB⟩):q:=h
theorem Ea(v:VP)(p:MP)(S T U V:J)(op a b c:Int)(w:Y)(Q:p.small)(j:p.bO.length=3)(h:Da w v p):
 Ai Ap 123 #[Am #[v.r,v.k,v.f,v.t,S,T,U,V],Am #[op,a,b,c]] w λe w'=>AJ e (CY p op a b)/\Ah w w w':=by
 obtain⟨vr,vk,vf,vt⟩:=v;obtain⟨xs,F,B,P⟩:=h.bO;simp only[]at B;rw[j]at B;have R:xs.length=3:=by rw[<-j,<-F];simp
 have m:=Av (d5 B (d5 F (d5 P (d5 Q.region (d5 R j)))));clear B F P R Q h j;have HB:Ae (Ah w w (Ac (Ac w (Ak #[vr,vk,vf,vt,S,T,U,V] 158)) (Ak #[op,a,b,c] 72))):=Ar (Aq _ _) lR (Aq _ _);by_cases H:0<=a/\a<3
 . obtain⟨i,rfl⟩:=kX H.1;have hi:i<3:=oM;obtain⟨⟨l,y⟩,C⟩:∃x,xs[i]?=K x:=⟨_,an (by rw[m.2.2.2.2.1];omega)⟩;have z:=Bo m.2.1 C;have G:=m.2.2.1 _ (i7 C);have ae:=m.2.2.2.1 _ (i7 z);simp only[]at z G ae;rcases m.1.2 with⟨e0,_⟩|⟨g,o,cc,W,O⟩
   . omega
   subst W;have a0:=Rd.elem A5 O i _ C 0 _ rfl;rw[lN,kJ]at a0;simp only[]at a0;clear O C;have L:=Av z;clear z;obtain⟨ay,cy,rfl⟩:=G.dk;clear G;have a1:=(HB.cell (hC a0)).trans a0;have ga:¬g=w.heap.size:=mA (hC a0);have q:Ae (CY p op (i:Int) b↔¬((op=5\/op=7)/\(i:Int)=0)/\0<=b/\b<(l:Int)):=by
    show _↔_;constructor
    . rintro⟨l',N,A,j,D,E⟩;rw[kA,L]at A;obtain rfl:=kH A;exact⟨E,j,D⟩
    rintro⟨E,j,D⟩;exact⟨l,oM,by rw[kA];exact L,j,D,E⟩
   by_cases d:(op=5\/op=7)/\(i:Int)=0
   . (have HN:Ae (¬CY p op (i:Int) b):= λe=>(q.1 e).1 d);obtain⟨d,q2⟩:=d;obtain rfl:i=0:=oM;rcases d with rfl|rfl
     . go_enter func123,ntmps123;exact NC
     go_enter func123,ntmps123;exact NC
   have s:((i:Int)==0)=decide (i=0):=by
    by_cases e:i=0
    . subst e;rfl
    rw[lZ e];simpa using e
   have hit:decide (0<=(i:Int)/\(i:Int)<3)=true:=decide_eq_true oM
   have HD:Ae (decide (0<=b/\b<(l:Int))=true↔CY p op (i:Int) b):=by show _↔_;rw[q.o,mB];exact⟨λe=>⟨d,e⟩, λe=>e.2⟩
   by_cases n:op=5
   . subst n;(have X:((i:Int)==0)=false:=by (have:¬i=0:= λe=>d ⟨.inl rfl,oM⟩);rw[s,lZ this]);clear d q s;exact JQ
   by_cases I:op=7
   . subst I;(have X:((i:Int)==0)=false:=by (have:¬i=0:= λe=>d ⟨.inr rfl,oM⟩);rw[s,lZ this]);clear d q s n;exact JQ
   (have ah:(op==5)=false:=by simpa using n);(have aj:(op==7)=false:=by simpa using I);clear d q s n I;exact JQ
 have HN:Ae (¬CY p op a b):= λ⟨l,N,A,_⟩=>H ⟨N,by have:=(i6.1 A).1;rw[m.2.2.2.2.2]at this;omega⟩
 have hit:decide (0<=a/\a<3)=false:=lZ H
 clear m;by_cases n:op=5
 . subst n;exact NB
 have ah:(op==5)=false:=by simpa using n
 exact NB
def FD(f:MF):List Int:=(f.eC.filter λx=>decide (x.op=28)).map MI.a
def CP(fs:List MF)(done:List Int)(i:Nat):Bool:= !done.contains (i:Int)&&match fs[i]? with|some f=>(FD f).all λa=>done.contains a|none=>false
def GC(fs:List MF)(done:List Int):Option Nat:=(List.range fs).find? (CP fs done)
def Cx(fs:List MF):Nat->List Int->List Int
 |0,done=>done
 |k+1,done=>match GC fs done with|some i=>Cx fs k (done++[(i:Int)])|none=>[]
def BT(fs:List MF):List Int:=Cx fs fs []
theorem Ke{i:Nat}(e:i< ↑fs)(b:CP fs done i=true)(c:∀j,j<i->CP fs done j=false):GC fs done=K i:=by
 unfold GC;rw[List.find?_eq_some_iff_append];refine⟨b,(List.range i),(List.range' (i+1) (↑fs-i-1)),?_, λa d=> ?_⟩
 . rw[List.range_eq_range',List.range_eq_range',show ↑fs=i+(1+(↑fs-i-1))from oM,<-List.range'_append_1,<-List.range'_append_1]
   simp
 rw[c a (by simpa using d)];rfl
theorem Kd(h:∀j,j< ↑fs->CP fs done j=false):GC fs done=M:=by unfold GC;rw[List.find?_eq_none];intro a b;rw[h a (by simpa using b)];exact mY
theorem TY(h:CD p){i:Nat}(d:p.bW[i]?=K f){a:Int}(c:a∈FD f):0<=a/\a<(p.bW:Int):=by
 unfold FD at c;obtain⟨x,m,rfl⟩:=lA.1 c;obtain⟨n,j⟩:=mO.1 m;simp only[mB]at j;obtain⟨k,g⟩:=lH n;have l:=h i (i6.1 d).1 f d k (i6.1 g).1 x g;obtain⟨_,_,b⟩:=l;have e:AV x.op=11:=by rw[j];rfl
 rw[e]at b;unfold BA at b;simp[Bz]at b;exact⟨b.1,b.2.1⟩
def CR:List Int->List Int->Bool
 |[],[]=>true
 |s::ss,t::ts=>(t==0||s==t)&&CR ss ts
 |_,_=>false
theorem M0{a b:List Int}(h:CR a b=true):a.length=b.length:=by
 induction a generalizing b with
 |nil=>cases b with|nil=>rfl|cons _ _=>simp[CR]at h
 |cons v r c=>cases b with|nil=>simp[CR]at h|cons t q=>simp only[CR,mR]at h;simp[c h.2]
theorem Hw{a b:List Int}(e:a.length= ↑b):CR a b=true↔∀(i:Nat) s t,a[i]?=K s->b[i]?=K t->t=0\/s=t:=by
 induction a generalizing b with
 | nil=>
   cases b with
   |nil=>simp[CR]
   |cons _ _=>simp at e
 | cons v r j=>
   cases b with
   |nil=>simp at e
   | cons t q=>
     simp only[CR,mR,Bool.or_eq_true,beq_iff_eq];rw[j (by simpa using e)];constructor
     . rintro⟨f,g⟩ i s u c d;cases i with
       |zero=>simp only[i9,kI]at c d;subst c d;exact f
       |succ i=>simp only[kC]at c d;exact g i s u c d
     intro h;exact⟨h 0 v t rfl rfl, λi s u c d=>h (i+1) s u (by simpa using c) (by simpa using d)⟩
def IJ(p:MP)(f:MF)(x:MI)(a:List Int):Nat:= ↑a-(AG p f x).length
def BO(p:MP)(f:MF)(x:MI)(a:List Int):List Int:=a.take (IJ p f x a)++(AF p f x).map λt=>if t=0 then(a[IJ p f x a]?).getD 0 else t
def Cf(p:MP)(f:MF)(x:MI)(b:List Int):Int:=
 if ↑b<(AG p f x).length then 1
 else if CR (b.drop (IJ p f x b)) (AG p f x)=false\/(x.op=27/\AN f x.a≠3)then 2
 else if 64<(BO p f x b).length then 3 else 0
def Ip(op:Int):Prop:=op=25\/op=26\/op=27
structure CU(p:MP)(f:MF)(shs:List (List Int))(i:Nat)(x:MI)(sh:List Int):Prop where
 types:sh.all Ec=true
 jn:sh.length<=64
 ret:x.op=29->sh=A7 f
 eC:x.op≠29->Cf p f x sh=0
 next:x.op≠29->x.op≠25->shs[i+1]?=K (BO p f x sh)
 named:Ip x.op->shs[x.c.toNat]?=K (BO p f x sh)
structure D8(p:MP)(f:MF)(shs:List (List Int)):Prop where
 len:shs.length= ↑f.eC
 gH:shs[0]?=K []
 all:∀(i:Nat) x sh,f.eC[i]?=K x->shs[i]?=K sh->CU p f shs i x sh
end Go.Proofs.YtmalfecapdmdbaaGreat
