import Derived.Test.YtadcneiiokbofaaGreatBo10
import Derived.Test.YtadcneiiokbofaaGreatBo7
namespace Go.Proofs.YtadcneiiokbofaaGreat
open Go.ChangeShapes Go.WideShapes Go.ChangeAt Go.RowKit Go.Proofs.Tryz
set_option linter.unusedVariables false
open Go.Value renaming slice → Z,int → Ag,agg → Am,bool → An
open Option renaming some → K,none → M
open Go renaming Value → J,World → Y,Calls → Ai,TypeId → Aj
open Go.RowKit renaming Hid → Ae,Below → Ah
open Go.IntKind renaming i64 → Af
open Go.Obj renaming cells → Ak
open Go.Ending renaming returned → Al
open Go.Proofs.Tryz renaming prog → Ap
open Go.World renaming alloc → Ac
open List renaming flatMap → Ad
set_option maxHeartbeats 8000000
set_option maxRecDepth 100000
variable {p:MP}{fs:List MF}{k b:Nat}{f:MF}{w:Y}{a c d e g i j:J}{q:Prop}{done:List Int}
def Fy(p:MP)(f:MF):Prop:=∀k,k<f.bO.length->∀x,f.bO[k]?=K x->AW p f x
def CE(p:MP):Prop:=∀j,j<p.aD.length->∀f,p.aD[j]?=K f->Fy p f
def A6(p:MP)(n:Int):Prop:=
 (n=1/\¬AS p.aC)\/(n=2/\AS p.aC/\¬Bh p.dk)\/(n=3/\AS p.aC/\Bh p.dk/\¬Bl p.aD)\/
 (n=4/\AS p.aC/\Bh p.dk/\Bl p.aD/\¬CE p)\/(n=5/\AS p.aC/\Bh p.dk/\Bl p.aD/\CE p/\¬Bz p)\/
 (n=0/\AS p.aC/\Bh p.dk/\Bl p.aD/\CE p/\Bz p)
theorem A6.one{n m:Int}(h:A6 p n)(a:A6 p m):n=m:=by unfold A6 at h a;by_cases b:AS p.aC<;>by_cases c:Bh p.dk<;>by_cases d:Bl p.aD<;>by_cases e:CE p<;>by_cases f:Bz p<;>simp[b,c,d,e,f]at h a<;>omega
def Cd(e:Ending)(p:MP):Prop:=∃n,e=Al (iZ n)/\A6 p n
theorem Cd.f1(h:¬AS p.aC):Cd (Al (iZ 1)) p:=⟨_,rfl,.inl ⟨rfl,h⟩⟩
theorem Cd.f2(a:AS p.aC)(h:¬Bh p.dk):Cd (Al (iZ 2)) p:=⟨_,rfl,.inr (.inl ⟨rfl,a,h⟩)⟩
theorem Cd.f3(a:AS p.aC/\Bh p.dk)(h:¬Bl p.aD):Cd (Al (iZ 3)) p:=⟨_,rfl,.inr (.inr (.inl ⟨rfl,a.1,a.2,h⟩))⟩
theorem Cd.f4(a:AS p.aC/\Bh p.dk)(b:Bl p.aD)(h:¬CE p):Cd (Al (iZ 4)) p:=⟨_,rfl,.inr (.inr (.inr (.inl ⟨rfl,a.1,a.2,b,h⟩)))⟩
theorem Cd.f5(a:AS p.aC/\Bh p.dk)(b:Bl p.aD)(c:CE p)(h:¬Bz p):Cd (Al (iZ 5)) p:=⟨_,rfl,.inr (.inr (.inr (.inr (.inl ⟨rfl,a.1,a.2,b,c,h⟩))))⟩
theorem Cd.f0(a:AS p.aC/\Bh p.dk)(b:Bl p.aD)(c:CE p)(h:Bz p):Cd (Al (iZ 0)) p:=⟨_,rfl,.inr (.inr (.inr (.inr (.inr ⟨rfl,a.1,a.2,b,c,h⟩))))⟩
theorem Qe{n:Nat}(b: ↑fs=n)(c:¬n=0)(d:n<=32)(h:∀j,j<n->∀f,fs[j]?=K f->Ce f (decide (j=0))):Bl fs:=by refine⟨by rw[b];exact c,by rw[b];exact d, λj e f a=>(h j oM f a).1, λf a=>(h 0 oM f a).2 sP⟩
theorem Qi(h:Bl fs)(a:fs[k]?=K f):Ce f (decide (k=0)):=by
 refine⟨h.2.2.1 k (i8.1 a).1 f a, λe=> ?_⟩;obtain rfl:k=0:=by simpa using e
 exact h.2.2.2 f a
theorem WR(b:fs[k]?=K f)(c:Ce f (decide (k=0)))(h:∀j,j<k->∀f,fs[j]?=K f->Ce f (decide (j=0))):∀j,j<k+1->∀f,fs[j]?=K f->Ce f (decide (j=0)):=by
 intro j d g a;by_cases e:j=k
 . subst e;rw[b]at a;exact(lP a)▸c
 exact h j oM g a
structure Mz(w u:Y)(a b c d:J):Prop where
 ej:Ah w w u
 prog:En u w a b c d
theorem Mz.a7{u f:Y}{b:J}(h:Mz w u a b c d)(e:Ah u u f):Mz w f a b c d:=⟨Ar h.ej lR e,h.prog.a7 e⟩
theorem Mz.of(w:Y)(a b c d:J)(t:Aj):Mz w (Ac w (Ak #[a,b,c,d] t)) a b c d:=⟨Aq _ _,En.new _ _ _ _ _ _⟩
structure Pg(w:Y)(vr vk vf vt:J)(p:MP)(xs:List (List Int×J))(ys:List (MF×VF)):Prop where
 small:p.small
 wf:p.wf
 rd:Dm w ⟨vr,vk,vf,vt⟩ p
 rr:Rd w 1 vr p.aC (Ad BH xs)
 rm:xs.map Prod.fst=p.aC
 re:∀x∈xs,Rd w 1 x.2 x.1 (x.1.flatMap As)
 rl:xs.length= ↑p.aC
 fr:Rd w 4 vf p.aD (Ad BR ys)
 fm:ys.map Prod.fst=p.aD
 fe:∀x∈ys,DF w x.2 x.1
 fl:ys.length= ↑p.aD
theorem Pg.of{v:VP}(g:p.small)(hw:p.wf)(h:Dm w v p):∃xs a,Pg w v.r v.k v.f v.t p xs a:=by obtain⟨xs,b,d,e⟩:=h.aC;obtain⟨a,c,i,j⟩:=h.aD;exact⟨xs,a,g,hw,h,d,b,e,by rw[<-b];simp,i,c,j,by rw[<-c];simp⟩
theorem Du(v:VP)(p:MP)(w:Y)(hs:p.small)(hw:p.wf)(h:Dm w v p):
 Ai Ap 17 #[Am #[v.r,v.k,v.f,v.t]] w λe w'=>Cd e p/\Ah w w w':=by
 obtain⟨xs,ys,hP⟩:=Pg.of hs hw h;obtain⟨vr,R,vf,S⟩:=v;simp only[]at hP;obtain⟨Q,c1,d⟩:=hP.rr.bW;obtain⟨r3,c3,e3⟩:=hP.fr.bW;have hm:=hs.aD;subst d e3;clear hs hw h;have s:Ae _:=hP;clear hP;have a:Ae _:=Mz.of w (Z Q p.aC c1) R (Z r3 p.aD c3) S 37;by_cases q0:p.aC.length=3
 . generalize hN:p.aC.length=n at*;subst q0;generalize hM:p.aD.length=m at*;have A:=Av (d5 hN hM);have s:=Av s;clear hN hM;go_enter func17,ntmps17;go_wp2;go_loopw [3] (λi wr=>∃k:Nat,k<=3/\i=iZ k/\Ae (∀j,j<k->∀r,p.aC[j]?=K r->Hi r)/\Ae (Mz w wr (Z Q 3 c1) R (Z r3 m c3) S)) (λi _=>3-(intOf i).toNat)
   (case atStart=>exact⟨0,oM,rfl, λj V=>oM,a⟩);clear a;obtain⟨k,hk,rfl,L,a⟩:=hrel;obtain⟨F,G,H,I⟩:=a.prog;by_cases N:k<3
   . obtain⟨⟨f,v⟩,g⟩:∃x,xs[k]?=K x:=⟨_,an (by rw[s.rl,A.1];exact N)⟩;have d:=BF s.rm g;have hf:=(s.re _ (lA g)).a7 a.ej lR;have y:=Av (d5 hf (d5 (s.small.region _ (lA d)) d));clear d;rcases s.rr.2 with⟨U,_⟩|⟨b,o,c,d,E⟩
     . rw[A.1]at U;omega
     rw[A.1]at d;simp only[lB,mB]at d;obtain⟨rfl,rfl⟩:=d;have C:=Rd.elem A5 E k _ g 0 _ rfl;rw[<-a.ej.cell (g8 C)]at C;rw[mO,lJ]at C;clear E g;simp only[]at C hf;obtain⟨av,cv,ev⟩:=hf.bW;subst ev;clear hf;have hz:=y.2.1;by_cases q1:256<f.length
     . (have B:Ae (¬AS p.aC):= λe=>absurd (e.2 k (by rw[A.1];exact N) f y.2.2).1 oM);have aY:(256:Int)<(f.length:Int):=oM;generalize f.length=z at*;go_wp2;go_ret;exact⟨.f1 B,a.ej⟩
     have aY:¬(256:Int)<(f.length:Int):=oM;go_wp2_with fail;refine(Hv _ f _ y.2.1 y.1).mono ?_;rintro e u ⟨rfl,rfl⟩;cases t1:f.all Fo
     . (have B:Ae (¬AS p.aC):= λe=>by have:=(e.2 k (by rw[A.1];exact N) f y.2.2).2;simp[t1]at this);clear t1;go_wp2;go_ret;exact⟨.f1 B,a.ej⟩
     have B:Ae (Hi f):=⟨oM,t1⟩;clear t1;go_wp2;go_roundw;(case rel=>exact⟨k+1,oM,by go_num,CO y.2.2 B L,a⟩);exact oI
   have aj:3=k:=oM;subst aj;have HR:Ae (AS p.aC):=⟨A.1,by rw[A.1];exact L⟩;clear L N hk;go_wp2_with fail;refine(OS ⟨Z Q 3 c1,R,Z r3 m c3,S⟩ p _ s.small (s.rd.a7 a.ej lR)).mono ?_;rintro e u1 ⟨⟨b1,rfl,au⟩,aM⟩;have W:=Av (a.a7 aM);clear aM F G H I a;cases b1
   . (have B:Ae (¬Bh p.dk):= λe=>by simp[e]at au);clear au;go_wp2;go_ret;exact⟨.f2 HR B,W.ej⟩
   have X:=Av (d5 HR.o (au.1 rfl));clear au HR;obtain⟨F,G,H,I⟩:=W.prog;by_cases q2:m=0
   . (have B:Ae (¬Bl p.aD):= λe=>e.1 (A.2.trans q2));subst q2;go_wp2;go_ret;exact⟨.f3 X B,W.ej⟩
   (have aZ:((m:Int)==0)=false:=by simpa using q2);by_cases q3:32<m
   . (have B:Ae (¬Bl p.aD):= λe=>absurd e.2.1 (by rw[A.2];omega));have aU:(32:Int)<(m:Int):=oM;go_wp2;go_ret;exact⟨.f3 X B,W.ej⟩
   have aU:¬(32:Int)<(m:Int):=oM;go_wp2;clear F G H I aZ aU;go_loopw [4] (λi wr=>∃k:Nat,k<=m/\i=iZ k/\Ae (∀j,j<k->∀f,p.aD[j]?=K f->Ce f (decide (j=0)))/\Ae (Mz w wr (Z Q 3 c1) R (Z r3 m c3) S)) (λi _=>m-(intOf i).toNat)
   (case atStart=>exact⟨0,oM,rfl, λj V=>oM,W⟩);clear W;obtain⟨k,hk,rfl,L,a⟩:=hrel;obtain⟨F,G,H,I⟩:=a.prog;by_cases N:k<m
   . obtain⟨⟨f,v⟩,g⟩:∃x,ys[k]?=K x:=⟨_,an (by rw[s.fl,A.2];exact N)⟩;have d:=BF s.fm g;have y:=Av (d5 ((s.fe _ (lA g)).a7 a.ej lR) (d5 (s.small.func _ (lA d)) d));clear d;rcases s.fr.2 with⟨U,_⟩|⟨b,o,c,d,E⟩
     . rw[A.2]at U;omega
     rw[A.2]at d;simp only[lB,mB]at d;obtain⟨rfl,rfl⟩:=d;have C:=Rd.elem Az E k _ g 0 _ rfl;have O:=Rd.elem Az E k _ g 1 _ rfl;have P:=Rd.elem Az E k _ g 2 _ rfl;have D:=Rd.elem Az E k _ g 3 _ rfl;rw[<-a.ej.cell (g8 C),lJ]at C;rw[<-a.ej.cell (g8 O)]at O;rw[<-a.ej.cell (g8 P)]at P;rw[<-a.ej.cell (g8 D)]at D;clear E g;simp only[]at C O P D;go_wp2_with fail;refine(R5 v f ((k:Int)==0) _ y.2.1 y.1).mono ?_;rintro e u2 ⟨⟨b2,rfl,ae⟩,aP⟩;have aH:=Av (a.a7 aP);have aR:((k:Int)==0)=decide (k=0):=by
      by_cases e:k=0
      . subst e;rfl
      rw[mU e];simpa using e
     rw[aR]at ae;clear aP a F G H I C O P D aR;cases b2
     . (have B:Ae (¬Bl p.aD):= λe=>by simp[Qi e y.2.2]at ae);clear ae;go_wp2;go_ret;exact⟨.f3 X B,aH.ej⟩
     have HC:Ae (Ce f (decide (k=0))):=ae.1 rfl;clear ae;go_wp2;go_roundw;(case rel=>exact⟨k+1,oM,by go_num,WR y.2.2 HC L,aH⟩);exact oI
   have aj:m=k:=oM;subst aj;have aA:=Av (Qe A.2 q2 oM L);clear L N hk;go_wp2;clear F G H I;go_loopw [5,6] (λi kk wr=>∃k:Nat,k<=m/\i=iZ k/\Ae (∀j,j<k->∀f,p.aD[j]?=K f->Fy p f)/\Ae (Mz w wr (Z Q 3 c1) R (Z r3 m c3) S)) (λi _ _=>m-(intOf i).toNat)
   (case atStart=>exact⟨0,oM,rfl, λj V=>oM,a⟩);clear a;obtain⟨k,hk,rfl,L,a⟩:=hrel;obtain⟨F,G,H,I⟩:=a.prog;by_cases N:k<m
   . obtain⟨⟨f,v⟩,g⟩:∃x,ys[k]?=K x:=⟨_,an (by rw[s.fl,A.2];exact N)⟩;have d:=BF s.fm g;have y:=Av (d5 (s.fe _ (lA g)) (d5 (s.small.func _ (lA d)) (d5 d (s.wf.aD _ (lA d)))));clear d;rcases s.fr.2 with⟨U,_⟩|⟨b,o,c,d,E⟩
     . rw[A.2]at U;omega
     rw[A.2]at d;simp only[lB,mB]at d;obtain⟨rfl,rfl⟩:=d;have aF:Ae (w ⟨b,o+k*4,M⟩=K v.p/\w ⟨b,o+k*4+1,M⟩=K ↑f.gV/\w ⟨b,o+k*4+2,M⟩=K v.l/\w ⟨b,o+k*4+3,M⟩=K v.c):=⟨Rd.elem Az E k _ g 0 _ rfl,Rd.elem Az E k _ g 1 _ rfl,Rd.elem Az E k _ g 2 _ rfl,Rd.elem Az E k _ g 3 _ rfl⟩
     clear E g;obtain⟨ac,cc,ec⟩:=y.1.2.2.bW;obtain⟨vp,vl,vc⟩:=v;simp only[]at ec;subst ec;have hz:=y.2.1.2.2;generalize hZ:f.bO.length=z at*;have HZ:=Av hZ;clear hZ;have D:=aF.2.2.2;rw[<-a.ej.cell (g8 D)]at D;simp only[]at D;go_wp2;clear F G H I D;go_loopw [6] (λi wr=>∃q:Nat,q<=z/\i=Ag Af q/\Ae (∀j,j<q->∀x,f.bO[j]?=K x->AW p f x)/\Ae (Mz w wr (Z Q 3 c1) R (Z (K ⟨b,o,M⟩) m c3) S)) (λi _=>z-(intOf i).toNat)
     (case atStart=>exact⟨0,oM,rfl, λj V=>oM,a⟩);clear a;obtain⟨q,hq,rfl,aJ,a⟩:=hrel;obtain⟨F,G,H,I⟩:=a.prog;obtain⟨C,O,P,D⟩:=aF.o;rw[<-a.ej.cell (g8 C)]at C;rw[<-a.ej.cell (g8 O)]at O;rw[<-a.ej.cell (g8 P)]at P;rw[<-a.ej.cell (g8 D)]at D;by_cases aS:q<z
     . obtain⟨x,g⟩:∃x,f.bO[q]?=K x:=⟨_,an (by rw[HZ];exact aS)⟩;have aT:=y.2.2.2.bO x (lA g);rcases y.1.2.2.2 with⟨U,_⟩|⟨b',o',c',d,ah⟩
       . rw[HZ]at U;omega
       rw[HZ]at d;simp only[lB,mB]at d;obtain⟨rfl,rfl⟩:=d;have j0:=Rd.elem MI.dr ah q x g 0 _ rfl;have j1:=Rd.elem MI.dr ah q x g 1 _ rfl;have j2:=Rd.elem MI.dr ah q x g 2 _ rfl;have j3:=Rd.elem MI.dr ah q x g 3 _ rfl;rw[<-a.ej.cell (g8 j0),lJ]at j0;rw[<-a.ej.cell (g8 j1)]at j1;rw[<-a.ej.cell (g8 j2)]at j2;rw[<-a.ej.cell (g8 j3)]at j3;have T:Ae (f.bO[q]?=K x/\x.wf):=⟨g,aT⟩
       clear ah g aT;obtain⟨xo,xa,xb,xc⟩:=x;simp only[]at j0 j1 j2 j3;have inst:=AC.some wr;(have P0:= λn:AC wr=>AC.cell F n);(have P1:= λn:AC wr=>AC.cell G n);(have P2:= λn:AC wr=>AC.cell H n);(have P3:= λn:AC wr=>AC.cell I n);(have I0:= λn:AC wr=>AC.cell C n);(have I1:= λn:AC wr=>AC.cell O n);(have I2:= λn:AC wr=>AC.cell P n);(have I3:= λn:AC wr=>AC.cell D n);(have J0:= λn:AC wr=>AC.cell j0 n);(have J1:= λn:AC wr=>AC.cell j1 n);(have J2:= λn:AC wr=>AC.cell j2 n);(have J3:= λn:AC wr=>AC.cell j3 n);by_cases am:AW p f ⟨xo,xa,xb,xc⟩
       . have aq:Ae (AW p f ⟨xo,xa,xb,xc⟩):=am;clear am;go_wp2_with fail;refine AN kR kR ?_;(repeat(go_big_quiet_step ((go_at_call 41;rename_i n;exact(KE ⟨Z Q 3 c1,R,Z (K ⟨b,o,M⟩) m c3,S⟩ p ⟨vp,vl,Z (K ⟨b',o',M⟩) z cc⟩ f xo xa xb xc n.u s.small A.1 y.2.1 T.2.2.1 T.2.2.2.1 T.2.2.2.2 (s.rd.a7 (Ar a.ej lR n.h) lR) (y.1.a7 (Ar a.ej lR n.h) lR)).mono λe ao h=>⟨h.1.true aq,⟨⟨ao,Ar n.h lR h.2⟩,rfl⟩⟩))));refine wpQuiet_nil ?_;rintro ao ⟨n,rfl⟩;have aE:=Av (a.a7 n.h);clear a F G H I C O P D j0 j1 j2 j3 P0 P1 P2 P3 I0 I1 I2 I3 J0 J1 J2 J3 inst;go_wp2;go_roundw;(case rel=>exact⟨q+1,oM,by go_num,CO T.1 aq aJ,aE⟩);exact oI
       have aq:Ae (¬AW p f ⟨xo,xa,xb,xc⟩):=am;(have B:Ae (¬CE p):= λe=>am (e k (by rw[A.2];exact N) f y.2.2.1 q (by rw[HZ];exact aS) _ T.1));clear am;go_wp2_with fail;refine AN kR kR ?_;(repeat(go_big_quiet_step ((go_at_call 41;rename_i n;exact(KE ⟨Z Q 3 c1,R,Z (K ⟨b,o,M⟩) m c3,S⟩ p ⟨vp,vl,Z (K ⟨b',o',M⟩) z cc⟩ f xo xa xb xc n.u s.small A.1 y.2.1 T.2.2.1 T.2.2.2.1 T.2.2.2.2 (s.rd.a7 (Ar a.ej lR n.h) lR) (y.1.a7 (Ar a.ej lR n.h) lR)).mono λe ao h=>⟨h.1.false aq,⟨⟨ao,Ar n.h lR h.2⟩,rfl⟩⟩))));refine wpQuiet_nil ?_;rintro ao ⟨n,rfl⟩;have aE:=Av (a.a7 n.h);clear a F G H I C O P D j0 j1 j2 j3 P0 P1 P2 P3 I0 I1 I2 I3 J0 J1 J2 J3 inst;go_wp2;go_ret;exact⟨.f4 X aA B,aE.ej⟩
     have aX:z=q:=oM;subst aX;(have aW:Ae (Fy p f):= λj V x g=>aJ.o j (by rw[<-HZ];exact V) x g);go_wp2;go_roundw;(case rel=>exact⟨k+1,oM,by go_num,CO y.2.2.1 aW L,a⟩);exact oI
   have aj:m=k:=oM;subst aj;(have aG:Ae (CE p):= λj V f hf=>L.o j (by rw[<-A.2];exact V) f hf);go_wp2_with fail;refine(Qp ⟨Z Q 3 c1,R,Z r3 m c3,S⟩ p _ s.small s.wf (s.rd.a7 a.ej lR)).mono ?_;rintro e u5 ⟨⟨b5,rfl,aw⟩,aQ⟩;have aI:=Av (Ar a.ej lR aQ);clear aQ F G H I;cases b5
   . (have B:Ae (¬Bz p):= λe=>by simp[e]at aw);clear aw;go_wp2;go_ret;exact⟨.f5 X aA aG B,aI⟩
   have HY:Ae (Bz p):=aw.1 rfl;clear aw;go_wp2;go_ret;exact⟨.f0 X aA aG HY,aI⟩
 have B:Ae (¬AS p.aC):= λe=>q0 e.1
 have bf:((p.aC:Int)==3)=false:=oT;have bg:¬(p.aC:Int)=3:=oM;go_enter func17,ntmps17;go_wp2;go_ret;exact⟨.f1 B,a.ej⟩
def D6(p:MP)(x:MI):Int:=match p.aC[x.a.toNat]? with|some r=>(r[x.b.toNat]?).getD 0|none=>0
def Ba(f:MF):List Int:=if f.gV=0 then[]else[f.gV]
def AJ(p:MP)(f:MF)(x:MI):List Int:=
 if x.op=3 then[AO f x.a]else if x.op=5 then[D6 p x]else if x.op=6 then[3]else if x.op=7 then[3,D6 p x]
 else if(8<=x.op/\x.op<=15)\/x.op=20\/x.op=21 then[x.a,x.a]else if x.op=16\/x.op=22 then[x.a]
 else if x.op=17\/x.op=18 then[3,3]else if x.op=19 then[2]else if x.op=23\/x.op=24 then[0]else if x.op=26 then[1]
 else if x.op=28 then(match p.aD[x.a.toNat]? with|some g=>g.gU|none=>[])else[]
def YA(l:List MC)(i:Nat):MC:=(l[i]?).getD ⟨0,0⟩
def AG(p:MP)(f:MF)(x:MI):List Int:=
 if x.op=1 then[(YA p.dk x.a.toNat).type]else if x.op=2 then[AO f x.a]else if x.op=4\/x.op=6 then[D6 p x]
 else if 8<=x.op/\x.op<=16 then[x.a]else if x.op=17\/x.op=18 then[3]else if x.op=19 then[2]else if x.op=20\/x.op=21 then[1]
 else if x.op=22 then[x.b]else if x.op=23 then[0,0]else if x.op=28 then(match p.aD[x.a.toNat]? with|some g=>Ba g|none=>[])else[]
def CI(p:MP)(f:MF)(x:MI):List Int:=if x.op=29 then Ba f else AJ p f x
theorem Kj(h:q:=by go_enter func129,ntmps129;go_wp2;go_ret;exact⟨rfl,rfl⟩):q:=h
theorem Bf(n:Int)(c:Int)(w:Y):
 Ai Ap 129 #[n,c] w λe b=>e=Al (An (decide (0<=n/\n<c)))/\b=w:=by
 by_cases d:n<0
 . rw[mU (by omega:¬(0<=n/\n<c))]
   have a:¬0<=n:=oM;exact Kj
 have a:0<=n:=oM;by_cases f:n<c
 . rw[decide_eq_true (by omega:0<=n/\n<c)]
   exact Kj
 rw[mU (by omega:¬(0<=n/\n<c))]
 exact Kj
theorem Kk(h:q:=by go_wp2;all_goals(go_ret;refine⟨AM.of ?_,rfl⟩;go_light;simp_all [BN])):q:=h
theorem Gh(F t:Int)(w:Y)(a:F=5\/F=6\/F=7):Ai Ap 134 #[F,t] w λe b=>AM e (BN F t)/\b=w:=by
 rcases a with rfl|rfl|rfl
 . go_enter func134,ntmps134;exact Kk
 . go_enter func134,ntmps134;exact Kk
 go_enter func134,ntmps134;go_wp2_with fail;refine(Eh t _).mono ?_;rintro e u ⟨rfl,rfl⟩;exact Kk
structure Pt(w:Y)(b:Nat)(x0 x1 x2 x3 x4 x5 x6 x7:J):Prop where
 c0:w b=K x0
 c1:w ⟨b,1,M⟩=K x1
 c2:w ⟨b,2,M⟩=K x2
 c3:w ⟨b,3,M⟩=K x3
 c4:w ⟨b,4,M⟩=K x4
 c5:w ⟨b,5,M⟩=K x5
 c6:w ⟨b,6,M⟩=K x6
 c7:w ⟨b,7,M⟩=K x7
theorem Pt.lt{f:J}(h:Pt w b a c d e f g i j):b<w.heap.size:=g8 h.c0
theorem Pt.a7{c:Y}{f k l:J}(h:Pt w b d e f g i j k l)(a:Ah w w c):Pt c b d e f g i j k l:=⟨by rw[a.cell h.lt];exact h.c0,by rw[a.cell h.lt];exact h.c1,by rw[a.cell h.lt];exact h.c2,by rw[a.cell h.lt];exact h.c3,by rw[a.cell h.lt];exact h.c4,by rw[a.cell h.lt];exact h.c5,by rw[a.cell h.lt];exact h.c6,by rw[a.cell h.lt];exact h.c7⟩
theorem Pt.new(w:Y)(a b c d f g i j:J)(ty:Aj):Pt (Ac w (Ak #[a,b,c,d,f,g,i,j] ty)) w a b c d f g i j:=by have h:=nT (base:=w) (e:=ty) (size:=8) w #[a,b,c,d,f,g,i,j] 1 lR oX sP;exact⟨h.cellAt 0 oM,h.cellAt 1 oM,h.cellAt 2 oM,h.cellAt 3 oM,h.cellAt 4 oM,h.cellAt 5 oM,h.cellAt 6 oM,h.cellAt 7 oM⟩
theorem Pt.alloc{f:J}(h:Pt w b a c d e f g i j)(o:Obj):Pt (w.alloc o) b a c d e f g i j:=h.a7 (Aq _ _)
def Jm(f:MF)(n:Int):Prop:=0<=n/\n<(f.gU:Int)+(f.gW:Int)
theorem GW(j k m q:J)(g:VF)(f:MF)(n:Int)(w:Y)(d:f.small)(h:DF w g f):
 Ai Ap 131 #[Am #[j,k,m,q,g.p,f.gV,g.l,g.c],n] w λe i=>AM e (Jm f n)/\Ah w w i:=by
 obtain⟨r,c1,a⟩:=h.1.bW;obtain⟨s,c2,b⟩:=h.2.1.bW;obtain⟨A,z,y⟩:=g;obtain⟨t,v,x⟩:=d;simp only[]at a b;subst a b;clear h;go_enter func131,ntmps131;go_wp2_with fail;refine(Bf n ((f.gU:Int)+(f.gW:Int)) _).mono ?_;rintro e u ⟨rfl,rfl⟩;go_wp2;go_ret;exact⟨.of (by unfold Jm;simp),Aq _ _⟩
def C8(p:MP)(op a b:Int):Prop:=∃l,0<=a/\p.aC[a.toNat]?=K l/\0<=b/\b<(l.length:Int)/\¬((op=5\/op=7)/\a=0)
theorem Ki(h:q:=by go_enter func132,ntmps132;go_wp2_with fail;refine(Bf (i:Int) 3 _).mono ?_;rintro e u ⟨rfl,rfl⟩;rw[hit];go_wp2_with fail;go_quiet ((go_at_call 129;exact Calls.quiet_of_same (Bf b (l:Int) _)));go_wp2;go_ret;exact⟨.of HD,HB.trans (AB _ _ _)⟩):q:=h
theorem Od(h:q:=by go_enter func132,ntmps132;go_wp2_with fail;refine(Bf a 3 _).mono ?_;rintro e u ⟨rfl,rfl⟩;rw[hit];go_wp2;go_ret;exact⟨.no HN,HB⟩):q:=h
theorem Oe(h:q:=by go_wp2_with fail;refine(Bf 0 3 _).mono ?_;rintro e u ⟨rfl,rfl⟩;go_wp2;go_ret;exact⟨.no HN,HB⟩):q:=h
theorem Eo(v:VP)(p:MP)(S T U V:J)(op a b c:Int)(w:Y)(Q:p.small)(j:p.aC.length=3)(h:Dm w v p):
 Ai Ap 132 #[Am #[v.r,v.k,v.f,v.t,S,T,U,V],Am #[op,a,b,c]] w λe w'=>AM e (C8 p op a b)/\Ah w w w':=by
 obtain⟨vr,vk,vf,vt⟩:=v;obtain⟨xs,F,B,P⟩:=h.aC;simp only[]at B;rw[j]at B;have R:xs.length=3:=by rw[<-j,<-F];simp
 have m:=Av (d5 B (d5 F (d5 P (d5 Q.region (d5 R j)))));clear B F P R Q h j;have HB:Ae (Ah w w (Ac (Ac w (Ak #[vr,vk,vf,vt,S,T,U,V] 162)) (Ak #[op,a,b,c] 79))):=Ar (Aq _ _) lR (Aq _ _);by_cases H:0<=a/\a<3
 . obtain⟨i,rfl⟩:=mA H.1;have hi:i<3:=oM;obtain⟨⟨l,y⟩,C⟩:∃x,xs[i]?=K x:=⟨_,an (by rw[m.2.2.2.2.1];omega)⟩;have z:=BF m.2.1 C;have G:=m.2.2.1 _ (lA C);have ae:=m.2.2.2.1 _ (lA z);simp only[]at z G ae;rcases m.1.2 with⟨e0,_⟩|⟨g,o,cc,W,O⟩
   . omega
   subst W;have a0:=Rd.elem A5 O i _ C 0 _ rfl;rw[mO,lJ]at a0;simp only[]at a0;clear O C;have L:=Av z;clear z;obtain⟨ay,cy,rfl⟩:=G.bW;clear G;have a1:=(HB.cell (g8 a0)).trans a0;have ga:¬g=w.heap.size:=mR (g8 a0);have q:Ae (C8 p op (i:Int) b↔¬((op=5\/op=7)/\(i:Int)=0)/\0<=b/\b<(l:Int)):=by
    show _↔_;constructor
    . rintro⟨l',N,A,j,D,E⟩;rw[lD,L]at A;obtain rfl:=lP A;exact⟨E,j,D⟩
    rintro⟨E,j,D⟩;exact⟨l,oM,by rw[lD];exact L,j,D,E⟩
   by_cases d:(op=5\/op=7)/\(i:Int)=0
   . (have HN:Ae (¬C8 p op (i:Int) b):= λe=>(q.1 e).1 d);obtain⟨d,q2⟩:=d;obtain rfl:i=0:=oM;rcases d with rfl|rfl
     . go_enter func132,ntmps132;exact Oe
     go_enter func132,ntmps132;exact Oe
   have s:((i:Int)==0)=decide (i=0):=by
    by_cases e:i=0
    . subst e;rfl
    rw[mU e];simpa using e
   have hit:decide (0<=(i:Int)/\(i:Int)<3)=true:=decide_eq_true oM
   have HD:Ae (decide (0<=b/\b<(l:Int))=true↔C8 p op (i:Int) b):=by show _↔_;rw[q.o,my];exact⟨λe=>⟨d,e⟩, λe=>e.2⟩
   by_cases n:op=5
   . subst n;(have X:((i:Int)==0)=false:=by (have:¬i=0:= λe=>d ⟨.inl rfl,oM⟩);rw[s,mU this]);clear d q s;exact Ki
   by_cases I:op=7
   . subst I;(have X:((i:Int)==0)=false:=by (have:¬i=0:= λe=>d ⟨.inr rfl,oM⟩);rw[s,mU this]);clear d q s n;exact Ki
   (have ah:(op==5)=false:=by simpa using n);(have aj:(op==7)=false:=by simpa using I);clear d q s n I;exact Ki
 have HN:Ae (¬C8 p op a b):= λ⟨l,N,A,_⟩=>H ⟨N,by have:=(i8.1 A).1;rw[m.2.2.2.2.2]at this;omega⟩
 have hit:decide (0<=a/\a<3)=false:=mU H
 clear m;by_cases n:op=5
 . subst n;exact Od
 have ah:(op==5)=false:=by simpa using n
 exact Od
def FY(f:MF):List Int:=(f.bO.filter λx=>decide (x.op=28)).map MI.a
def C7(fs:List MF)(done:List Int)(i:Nat):Bool:= !done.contains (i:Int)&&match fs[i]? with|some f=>(FY f).all λa=>done.contains a|none=>false
def Hy(fs:List MF)(done:List Int):Option Nat:=(List.range fs).find? (C7 fs done)
def C6(fs:List MF):Nat->List Int->List Int
 |0,done=>done
 |k+1,done=>match Hy fs done with|some i=>C6 fs k (done++[(i:Int)])|none=>[]
def Cq(fs:List MF):List Int:=C6 fs fs []
theorem KH{i:Nat}(e:i< ↑fs)(b:C7 fs done i=true)(c:∀j,j<i->C7 fs done j=false):Hy fs done=K i:=by
 unfold Hy;rw[List.find?_eq_some_iff_append];refine⟨b,(List.range i),(List.range' (i+1) (↑fs-i-1)),?_, λa d=> ?_⟩
 . rw[List.range_eq_range',List.range_eq_range',show ↑fs=i+(1+(↑fs-i-1))from oM,<-List.range'_append_1,<-List.range'_append_1]
   simp
 rw[c a (by simpa using d)];rfl
theorem KG(h:∀j,j< ↑fs->C7 fs done j=false):Hy fs done=M:=by unfold Hy;rw[List.find?_eq_none];intro a b;rw[h a (by simpa using b)];exact nR
theorem UO(h:CE p){i:Nat}(d:p.aD[i]?=K f){a:Int}(c:a∈FY f):0<=a/\a<(p.aD:Int):=by
 unfold FY at c;obtain⟨x,m,rfl⟩:=mG.1 c;obtain⟨n,j⟩:=nh.1 m;simp only[my]at j;obtain⟨k,g⟩:=mJ n;have l:=h i (i8.1 d).1 f d k (i8.1 g).1 x g;obtain⟨_,_,b⟩:=l;have e:AX x.op=11:=by rw[j];rfl
 rw[e]at b;unfold BO at b;simp[BN]at b;exact⟨b.1,b.2.1⟩
def CU:List Int->List Int->Bool
 |[],[]=>true
 |s::ss,t::ts=>(t==0||s==t)&&CU ss ts
 |_,_=>false
theorem Ny{a b:List Int}(h:CU a b=true):a.length=b.length:=by
 induction a generalizing b with
 |nil=>cases b with|nil=>rfl|cons _ _=>simp[CU]at h
 |cons v r c=>cases b with|nil=>simp[CU]at h|cons t q=>simp only[CU,nO]at h;simp[c h.2]
theorem Ip{a b:List Int}(e:a.length= ↑b):CU a b=true↔∀(i:Nat) s t,a[i]?=K s->b[i]?=K t->t=0\/s=t:=by
 induction a generalizing b with
 | nil=>
   cases b with
   |nil=>simp[CU]
   |cons _ _=>simp at e
 | cons v r j=>
   cases b with
   |nil=>simp at e
   | cons t q=>
     simp only[CU,nO,Bool.or_eq_true,beq_iff_eq];rw[j (by simpa using e)];constructor
     . rintro⟨f,g⟩ i s u c d;cases i with
       |zero=>simp only[lC,lH]at c d;subst c d;exact f
       |succ i=>simp only[lF]at c d;exact g i s u c d
     intro h;exact⟨h 0 v t rfl rfl, λi s u c d=>h (i+1) s u (by simpa using c) (by simpa using d)⟩
def Jd(p:MP)(f:MF)(x:MI)(sh:List Int):Nat:= ↑sh-(AJ p f x).length
def FR(p:MP)(f:MF)(x:MI)(sh:List Int):List Int:=sh.take (Jd p f x sh)++(AG p f x).map λt=>if t=0 then(sh[Jd p f x sh]?).getD 0 else t
def Cf(p:MP)(f:MF)(x:MI)(sh:List Int):Int:=
 if ↑sh<(AJ p f x).length then 1
 else if CU (sh.drop (Jd p f x sh)) (AJ p f x)=false\/(x.op=27/\AO f x.a≠3)then 2
 else if 64<(FR p f x sh).length then 3 else 0
def Y7(op:Int):Prop:=op=25\/op=26\/op=27
structure XT(p:MP)(f:MF)(shs:List (List Int))(i:Nat)(x:MI)(sh:List Int):Prop where
 types:sh.all Fo=true
 kC:sh.length<=64
 ret:x.op=29->sh=Ba f
 bO:x.op≠29->Cf p f x sh=0
 next:x.op≠29->x.op≠25->shs[i+1]?=K (FR p f x sh)
 named:Y7 x.op->shs[x.c.toNat]?=K (FR p f x sh)
structure Zq(p:MP)(f:MF)(shs:List (List Int)):Prop where
 len:shs.length= ↑f.bO
 gZ:shs[0]?=K []
 all:∀(i:Nat) x sh,f.bO[i]?=K x->shs[i]?=K sh->XT p f shs i x sh
end Go.Proofs.YtadcneiiokbofaaGreat
