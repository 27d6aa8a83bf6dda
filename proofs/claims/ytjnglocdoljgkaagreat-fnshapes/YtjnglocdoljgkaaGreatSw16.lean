import Derived.Test.YtjnglocdoljgkaaGreatSw10
import Derived.Test.YtjnglocdoljgkaaGreatSw6
namespace Go.Proofs.YtjnglocdoljgkaaGreat
open Go.ChangeShapes Go.WideShapes Go.ChangeAt Go.RowKit
set_option linter.unusedVariables false
open Go.Value renaming slice → Z,int → Ac
open Option renaming some → K,none → M
open Go renaming Value → J,World → Y,Calls → Ae,TypeId → Af
open Go.RowKit renaming Hid → Aa,Below → Ad
open Go.IntKind renaming i64 → Ab
set_option maxHeartbeats 8000000
set_option maxRecDepth 100000
variable {q:Prop}{r:Int}{done:List Int}{i:Nat}
def Fd(p:MP)(f:MF):Prop:=∀k,k<f.ch.length->∀x,f.ch[k]?=K x->AK p f x
def CQ(p:MP):Prop:=∀j,j<p.cC.length->∀f,p.cC[j]?=K f->Fd p f
def A8(p:MP)(n:Int):Prop:=
 (n=1/\¬AP p.a7)\/(n=2/\AP p.a7/\¬Bg p.aC)\/(n=3/\AP p.a7/\Bg p.aC/\¬Bn p.cC)\/
 (n=4/\AP p.a7/\Bg p.aC/\Bn p.cC/\¬CQ p)\/(n=5/\AP p.a7/\Bg p.aC/\Bn p.cC/\CQ p/\¬BD p)\/
 (n=0/\AP p.a7/\Bg p.aC/\Bn p.cC/\CQ p/\BD p)
theorem A8.one{p:MP}{n m:Int}(h:A8 p n)(a:A8 p m):n=m:=by unfold A8 at h a;by_cases b:AP p.a7<;>by_cases e:Bg p.aC<;>by_cases f:Bn p.cC<;>by_cases g:CQ p<;>by_cases i:BD p<;>simp[b,e,f,g,i]at h a<;>omega
def Cj(e:Ending)(p:MP):Prop:=∃n,e=.returned (Ac Ab n)/\A8 p n
theorem Cj.f1{p:MP}(h:¬AP p.a7):Cj (.returned (Ac Ab 1)) p:=⟨_,rfl,.inl ⟨rfl,h⟩⟩
theorem Cj.f2{p:MP}(h1:AP p.a7)(h:¬Bg p.aC):Cj (.returned (Ac Ab 2)) p:=⟨_,rfl,.inr (.inl ⟨rfl,h1,h⟩)⟩
theorem Cj.f3{p:MP}(h1:AP p.a7/\Bg p.aC)(h:¬Bn p.cC):Cj (.returned (Ac Ab 3)) p:=⟨_,rfl,.inr (.inr (.inl ⟨rfl,h1.1,h1.2,h⟩))⟩
theorem Cj.f4{p:MP}(h1:AP p.a7/\Bg p.aC)(h2:Bn p.cC)(h:¬CQ p):Cj (.returned (Ac Ab 4)) p:=⟨_,rfl,.inr (.inr (.inr (.inl ⟨rfl,h1.1,h1.2,h2,h⟩)))⟩
theorem Cj.f5{p:MP}(h1:AP p.a7/\Bg p.aC)(h2:Bn p.cC)(a:CQ p)(h:¬BD p):Cj (.returned (Ac Ab 5)) p:=⟨_,rfl,.inr (.inr (.inr (.inr (.inl ⟨rfl,h1.1,h1.2,h2,a,h⟩))))⟩
theorem Cj.f0{p:MP}(h1:AP p.a7/\Bg p.aC)(h2:Bn p.cC)(a:CQ p)(h:BD p):Cj (.returned (Ac Ab 0)) p:=⟨_,rfl,.inr (.inr (.inr (.inr (.inr ⟨rfl,h1.1,h1.2,h2,a,h⟩))))⟩
theorem Ow{a:List MF}{n:Nat}(e: ↑a=n)(g:¬n=0)(h1:n<=32)(h:∀j,j<n->∀f,a[j]?=K f->Cl f (decide (j=0))):Bn a:=by refine⟨by rw[e];exact g,by rw[e];exact h1, λj i f b=>(h j oM f b).1, λf b=>(h 0 oM f b).2 sP⟩
theorem Oy{b:List MF}{k:Nat}{f:MF}(h:Bn b)(a:b[k]?=K f):Cl f (decide (k=0)):=by
 refine⟨h.2.2.1 k (iV.1 a).1 f a, λe=> ?_⟩;obtain rfl:k=0:=by simpa using e
 exact h.2.2.2 f a
theorem Vm{a:List MF}{k:Nat}{f:MF}(h1:a[k]?=K f)(i:Cl f (decide (k=0)))(h:∀j,j<k->∀f,a[j]?=K f->Cl f (decide (j=0))):∀j,j<k+1->∀f,a[j]?=K f->Cl f (decide (j=0)):=by
 intro j l g b;by_cases e:j=k
 . subst e;rw[h1]at b;exact(kN b)▸i
 exact h j oM g b
structure LG(w u:Y)(a b c d:J):Prop where
 gG:Ad w w u
 prog:DU u w a b c d
theorem LG.bM{w u f:Y}{a b c d:J}(h:LG w u a b c d)(e:Ad u u f):LG w f a b c d:=⟨Ai h.gG lR e,h.prog.bM e⟩
theorem LG.of(w:Y)(a b c d:J)(t:Af):LG w (w.alloc (.cells #[a,b,c,d] t)) a b c d:=⟨Ag _ _,DU.new _ _ _ _ _ _⟩
structure Pg(w:Y)(vr vk vf vt:J)(p:MP)(xs:List (List Int×J))(ys:List (MF×VF)):Prop where
 small:p.small
 wf:p.wf
 rd:Cz w ⟨vr,vk,vf,vt⟩ p
 rr:Rd w 1 vr p.a7 (xs.flatMap AZ)
 rm:xs.map Prod.fst=p.a7
 re:∀x∈xs,Rd w 1 x.2 x.1 (x.1.flatMap Ah)
 rl:xs.length= ↑p.a7
 fr:Rd w 4 vf p.cC (ys.flatMap AX)
 fm:ys.map Prod.fst=p.cC
 fe:∀x∈ys,Dt w x.2 x.1
 fl:ys.length= ↑p.cC
theorem Pg.of{w:Y}{v:VP}{p:MP}(g:p.small)(i:p.wf)(h:Cz w v p):∃xs a,Pg w v.r v.k v.f v.t p xs a:=by obtain⟨xs,h1,h2,e⟩:=h.a7;obtain⟨a,b,j,l⟩:=h.cC;exact⟨xs,a,g,i,h,h2,h1,e,by rw[<-h1];simp,j,b,l,by rw[<-b];simp⟩
theorem CZ(v:VP)(p:MP)(w:Y)(hs:p.small)(hw:p.wf)(h:Cz w v p):
 Ae Tryz.prog 15 #[.agg #[v.r,v.k,v.f,v.t]] w λe w'=>Cj e p/\Ad w w w':=by
 obtain⟨xs,ys,hP⟩:=Pg.of hs hw h;obtain⟨vr,vk,vf,W⟩:=v;simp only[]at hP;obtain⟨T,c1,g⟩:=hP.rr.fu;obtain⟨r3,c3,e3⟩:=hP.fr.fu;have hm:=hs.cC;subst g e3;clear hs hw h;have y:Aa _:=hP;clear hP;have a:Aa _:=LG.of w (Z T p.a7 c1) vk (Z r3 p.cC c3) W 28;by_cases q0:p.a7.length=3
 . generalize hN:p.a7.length=n at*;subst q0;generalize hM:p.cC.length=m at*;have B:=Ap (ji hN hM);have y:=Ap y;clear hN hM;go_enter Tryz.func15,Tryz.ntmps15;go_wp2;go_loopw [3] (λi wr=>∃k:Nat,k<=3/\i=Ac Ab k/\Aa (∀j,j<k->∀r,p.a7[j]?=K r->GZ r)/\Aa (LG w wr (Z T 3 c1) vk (Z r3 m c3) W)) (λi _=>3-(intOf i).toNat)
   (case atStart=>exact⟨0,oM,rfl, λj hj=>oM,a⟩);clear a;obtain⟨k,hk,rfl,O,a⟩:=hrel;obtain⟨H,I,L,N⟩:=a.o.prog;by_cases Q:k<3
   . obtain⟨⟨f,v⟩,s⟩:∃x,xs[k]?=K x:=⟨_,an (by rw[y.o.rl,B.o.1];exact Q)⟩;have g:=CT y.o.rm s;have hf:=(y.o.re _ (i8 s)).bM a.o.gG lR;have A:=Ap (ji hf (ji (y.o.small.region _ (i8 g)) g));clear g;rcases y.o.rr.2 with⟨e0,_⟩|⟨b,o,c,g,G⟩
     . rw[B.o.1]at e0;omega
     rw[B.o.1]at g;simp only[jc,lO]at g;obtain⟨rfl,rfl⟩:=g;have D:=Rd.elem AY G k _ s 0 _ rfl;rw[<-a.o.gG.cell (jC D)]at D;rw[lr,kZ]at D;clear G s;simp only[]at D hf;obtain⟨av,cv,ev⟩:=hf.fu;subst ev;clear hf;have hz:=A.o.2.1;by_cases q1:256<f.length
     . (have C:Aa (¬AP p.a7):= λe=>absurd (e.2 k (by rw[B.o.1];exact Q) f A.o.2.2).1 oM);have aZ:(256:Int)<(f.length:Int):=oM;generalize f.length=z at*;go_wp2;go_ret;exact⟨.f1 C.o,a.o.gG⟩
     have aZ:¬(256:Int)<(f.length:Int):=oM;go_wp2_with fail;refine(FE _ f _ A.o.2.1 A.o.1).mono ?_;rintro e u ⟨rfl,rfl⟩;cases t1:f.all DC
     . (have C:Aa (¬AP p.a7):= λe=>by have:=(e.2 k (by rw[B.o.1];exact Q) f A.o.2.2).2;simp[t1]at this);clear t1;go_wp2;go_ret;exact⟨.f1 C.o,a.o.gG⟩
     have C:Aa (GZ f):=⟨oM,t1⟩;clear t1;go_wp2;go_roundw;(case rel=>exact⟨k+1,oM,by go_num,C4 A.o.2.2 C.o O.o,a⟩);exact oI
   have ao:3=k:=oM;subst ao;have HR:Aa (AP p.a7):=⟨B.o.1,by rw[B.o.1];exact O.o⟩;clear O Q hk;go_wp2_with fail;refine(Nw ⟨Z T 3 c1,vk,Z r3 m c3,W⟩ p _ y.o.small (y.o.rd.bM a.o.gG lR)).mono ?_;rintro e u1 ⟨⟨b1,rfl,aA⟩,aP⟩;have ae:=Ap (a.o.bM aP);clear aP H I L N a;cases b1
   . (have C:Aa (¬Bg p.aC):= λe=>by simp[e]at aA);clear aA;go_wp2;go_ret;exact⟨.f2 HR.o C.o,ae.o.gG⟩
   have ah:=Ap (ji HR.o (aA.1 rfl));clear aA HR;obtain⟨H,I,L,N⟩:=ae.o.prog;by_cases q2:m=0
   . (have C:Aa (¬Bn p.cC):= λe=>e.1 (B.o.2.trans q2));subst q2;go_wp2;go_ret;exact⟨.f3 ah.o C.o,ae.o.gG⟩
   (have bf:((m:Int)==0)=false:=by simpa using q2);by_cases q3:32<m
   . (have C:Aa (¬Bn p.cC):= λe=>absurd e.2.1 (by rw[B.o.2];omega));have aW:(32:Int)<(m:Int):=oM;go_wp2;go_ret;exact⟨.f3 ah.o C.o,ae.o.gG⟩
   have aW:¬(32:Int)<(m:Int):=oM;go_wp2;clear H I L N bf aW;go_loopw [4] (λi wr=>∃k:Nat,k<=m/\i=Ac Ab k/\Aa (∀j,j<k->∀f,p.cC[j]?=K f->Cl f (decide (j=0)))/\Aa (LG w wr (Z T 3 c1) vk (Z r3 m c3) W)) (λi _=>m-(intOf i).toNat)
   (case atStart=>exact⟨0,oM,rfl, λj hj=>oM,ae⟩);clear ae;obtain⟨k,hk,rfl,O,a⟩:=hrel;obtain⟨H,I,L,N⟩:=a.o.prog;by_cases Q:k<m
   . obtain⟨⟨f,v⟩,s⟩:∃x,ys[k]?=K x:=⟨_,an (by rw[y.o.fl,B.o.2];exact Q)⟩;have g:=CT y.o.fm s;have A:=Ap (ji ((y.o.fe _ (i8 s)).bM a.o.gG lR) (ji (y.o.small.func _ (i8 g)) g));clear g;rcases y.o.fr.2 with⟨e0,_⟩|⟨b,o,c,g,G⟩
     . rw[B.o.2]at e0;omega
     rw[B.o.2]at g;simp only[jc,lO]at g;obtain⟨rfl,rfl⟩:=g;have D:=Rd.elem Aq G k _ s 0 _ rfl;have R:=Rd.elem Aq G k _ s 1 _ rfl;have S:=Rd.elem Aq G k _ s 2 _ rfl;have F:=Rd.elem Aq G k _ s 3 _ rfl;rw[<-a.o.gG.cell (jC D),kZ]at D;rw[<-a.o.gG.cell (jC R)]at R;rw[<-a.o.gG.cell (jC S)]at S;rw[<-a.o.gG.cell (jC F)]at F;clear G s;simp only[]at D R S F;go_wp2_with fail;refine(Qn v f ((k:Int)==0) _ A.o.2.1 A.o.1).mono ?_;rintro e u2 ⟨⟨b2,rfl,aj⟩,aQ⟩;have aI:=Ap (a.o.bM aQ);have aS:((k:Int)==0)=decide (k=0):=by
      by_cases e:k=0
      . subst e;rfl
      rw[mj e];simpa using e
     rw[aS]at aj;clear aQ a H I L N D R S F aS;cases b2
     . (have C:Aa (¬Bn p.cC):= λe=>by simp[Oy e A.o.2.2]at aj);clear aj;go_wp2;go_ret;exact⟨.f3 ah.o C.o,aI.o.gG⟩
     have HC:Aa (Cl f (decide (k=0))):=aj.1 rfl;clear aj;go_wp2;go_roundw;(case rel=>exact⟨k+1,oM,by go_num,Vm A.o.2.2 HC.o O.o,aI⟩);exact oI
   have ao:m=k:=oM;subst ao;have aE:=Ap (Ow B.o.2 q2 oM O.o);clear O Q hk;go_wp2;clear H I L N;go_loopw [5,6] (λi kk wr=>∃k:Nat,k<=m/\i=Ac Ab k/\Aa (∀j,j<k->∀f,p.cC[j]?=K f->Fd p f)/\Aa (LG w wr (Z T 3 c1) vk (Z r3 m c3) W)) (λi _ _=>m-(intOf i).toNat)
   (case atStart=>exact⟨0,oM,rfl, λj hj=>oM,a⟩);clear a;obtain⟨k,hk,rfl,O,a⟩:=hrel;obtain⟨H,I,L,N⟩:=a.o.prog;by_cases Q:k<m
   . obtain⟨⟨f,v⟩,s⟩:∃x,ys[k]?=K x:=⟨_,an (by rw[y.o.fl,B.o.2];exact Q)⟩;have g:=CT y.o.fm s;have A:=Ap (ji (y.o.fe _ (i8 s)) (ji (y.o.small.func _ (i8 g)) (ji g (y.o.wf.cC _ (i8 g)))));clear g;rcases y.o.fr.2 with⟨e0,_⟩|⟨b,o,c,g,G⟩
     . rw[B.o.2]at e0;omega
     rw[B.o.2]at g;simp only[jc,lO]at g;obtain⟨rfl,rfl⟩:=g;have aG:Aa (w.cell? ⟨b,o+k*4,M⟩=K v.p/\w.cell? ⟨b,o+k*4+1,M⟩=K (Ac Ab f.gz)/\w.cell? ⟨b,o+k*4+2,M⟩=K v.l/\w.cell? ⟨b,o+k*4+3,M⟩=K v.c):=⟨Rd.elem Aq G k _ s 0 _ rfl,Rd.elem Aq G k _ s 1 _ rfl,Rd.elem Aq G k _ s 2 _ rfl,Rd.elem Aq G k _ s 3 _ rfl⟩
     clear G s;obtain⟨ac,cc,ec⟩:=A.o.1.2.2.fu;obtain⟨vp,vl,vc⟩:=v;simp only[]at ec;subst ec;have hz:=A.o.2.1.2.2;generalize hZ: ↑f.ch=z at*
     have HZ:=Ap hZ;clear hZ;have F:=aG.o.2.2.2;rw[<-a.o.gG.cell (jC F)]at F;simp only[]at F;go_wp2;clear H I L N F;go_loopw [6] (λi wr=>∃q:Nat,q<=z/\i=Ac Ab q/\Aa (∀j,j<q->∀x,f.ch[j]?=K x->AK p f x)/\Aa (LG w wr (Z T 3 c1) vk (Z (K ⟨b,o,M⟩) m c3) W)) (λi _=>z-(intOf i).toNat)
     (case atStart=>exact⟨0,oM,rfl, λj hj=>oM,a⟩);clear a;obtain⟨q,hq,rfl,aM,a⟩:=hrel;obtain⟨H,I,L,N⟩:=a.o.prog;obtain⟨D,R,S,F⟩:=aG.o;rw[<-a.o.gG.cell (jC D)]at D;rw[<-a.o.gG.cell (jC R)]at R;rw[<-a.o.gG.cell (jC S)]at S;rw[<-a.o.gG.cell (jC F)]at F;by_cases aT:q<z
     . obtain⟨x,s⟩:∃x,f.ch[q]?=K x:=⟨_,an (by rw[HZ.o];exact aT)⟩;have aU:=A.o.2.2.2.ch x (i8 s);rcases A.o.1.2.2.2 with⟨e0,_⟩|⟨b',o',c',g,am⟩
       . rw[HZ.o]at e0;omega
       rw[HZ.o]at g;simp only[jc,lO]at g;obtain⟨rfl,rfl⟩:=g;have j0:=Rd.elem MI.gH am q x s 0 _ rfl;have j1:=Rd.elem MI.gH am q x s 1 _ rfl;have j2:=Rd.elem MI.gH am q x s 2 _ rfl;have j3:=Rd.elem MI.gH am q x s 3 _ rfl;rw[<-a.o.gG.cell (jC j0),kZ]at j0;rw[<-a.o.gG.cell (jC j1)]at j1;rw[<-a.o.gG.cell (jC j2)]at j2;rw[<-a.o.gG.cell (jC j3)]at j3;have a8:Aa (f.ch[q]?=K x/\x.wf):=⟨s,aU⟩
       clear am s aU;obtain⟨xo,xa,xb,xc⟩:=x;simp only[]at j0 j1 j2 j3;have inst:=Av.some wr;(have P0:= λn:Av wr=>Av.cell H n);(have P1:= λn:Av wr=>Av.cell I n);(have P2:= λn:Av wr=>Av.cell L n);(have P3:= λn:Av wr=>Av.cell N n);(have I0:= λn:Av wr=>Av.cell D n);(have I1:= λn:Av wr=>Av.cell R n);(have I2:= λn:Av wr=>Av.cell S n);(have I3:= λn:Av wr=>Av.cell F n);(have J0:= λn:Av wr=>Av.cell j0 n);(have J1:= λn:Av wr=>Av.cell j1 n);(have J2:= λn:Av wr=>Av.cell j2 n);(have J3:= λn:Av wr=>Av.cell j3 n);by_cases aq:AK p f ⟨xo,xa,xb,xc⟩
       . have aw:Aa (AK p f ⟨xo,xa,xb,xc⟩):=aq;clear aq;go_wp2_with fail;refine AL kR kR ?_;(repeat(go_big_quiet_step ((go_at_call 34;rename_i n;exact(JZ ⟨Z T 3 c1,vk,Z (K ⟨b,o,M⟩) m c3,W⟩ p ⟨vp,vl,Z (K ⟨b',o',M⟩) z cc⟩ f xo xa xb xc n.u y.o.small B.o.1 A.o.2.1 a8.o.2.2.1 a8.o.2.2.2.1 a8.o.2.2.2.2 (y.o.rd.bM (Ai a.o.gG lR n.h) lR) (A.o.1.bM (Ai a.o.gG lR n.h) lR)).mono λe au h=>⟨h.1.true aw.o,⟨⟨au,Ai n.h lR h.2⟩,rfl⟩⟩))));refine wpQuiet_nil ?_;rintro au ⟨n,rfl⟩;have aF:=Ap (a.o.bM n.h);clear a H I L N D R S F j0 j1 j2 j3 P0 P1 P2 P3 I0 I1 I2 I3 J0 J1 J2 J3 inst;go_wp2;go_roundw;(case rel=>exact⟨q+1,oM,by go_num,C4 a8.o.1 aw.o aM.o,aF⟩);exact oI
       have aw:Aa (¬AK p f ⟨xo,xa,xb,xc⟩):=aq;(have C:Aa (¬CQ p):= λe=>aq (e k (by rw[B.o.2];exact Q) f A.o.2.2.1 q (by rw[HZ.o];exact aT) _ a8.o.1));clear aq;go_wp2_with fail;refine AL kR kR ?_;(repeat(go_big_quiet_step ((go_at_call 34;rename_i n;exact(JZ ⟨Z T 3 c1,vk,Z (K ⟨b,o,M⟩) m c3,W⟩ p ⟨vp,vl,Z (K ⟨b',o',M⟩) z cc⟩ f xo xa xb xc n.u y.o.small B.o.1 A.o.2.1 a8.o.2.2.1 a8.o.2.2.2.1 a8.o.2.2.2.2 (y.o.rd.bM (Ai a.o.gG lR n.h) lR) (A.o.1.bM (Ai a.o.gG lR n.h) lR)).mono λe au h=>⟨h.1.false aw.o,⟨⟨au,Ai n.h lR h.2⟩,rfl⟩⟩))));refine wpQuiet_nil ?_;rintro au ⟨n,rfl⟩;have aF:=Ap (a.o.bM n.h);clear a H I L N D R S F j0 j1 j2 j3 P0 P1 P2 P3 I0 I1 I2 I3 J0 J1 J2 J3 inst;go_wp2;go_ret;exact⟨.f4 ah.o aE.o C.o,aF.o.gG⟩
     have aY:z=q:=oM;subst aY;(have aX:Aa (Fd p f):= λj hj x s=>aM.o j (by rw[<-HZ.o];exact hj) x s);go_wp2;go_roundw;(case rel=>exact⟨k+1,oM,by go_num,C4 A.o.2.2.1 aX.o O.o,a⟩);exact oI
   have ao:m=k:=oM;subst ao;(have aH:Aa (CQ p):= λj hj f hf=>O.o j (by rw[<-B.o.2];exact hj) f hf);go_wp2_with fail;refine(ON ⟨Z T 3 c1,vk,Z r3 m c3,W⟩ p _ y.o.small y.o.wf (y.o.rd.bM a.o.gG lR)).mono ?_;rintro e u5 ⟨⟨b5,rfl,aD⟩,aR⟩;have aJ:=Ap (Ai a.o.gG lR aR);clear aR H I L N;cases b5
   . (have C:Aa (¬BD p):= λe=>by simp[e]at aD);clear aD;go_wp2;go_ret;exact⟨.f5 ah.o aE.o aH.o C.o,aJ.o⟩
   have HY:Aa (BD p):=aD.1 rfl;clear aD;go_wp2;go_ret;exact⟨.f0 ah.o aE.o aH.o HY.o,aJ.o⟩
 have C:Aa (¬AP p.a7):= λe=>q0 e.1
 have bg:((p.a7:Int)==3)=false:=oT;have bi:¬(p.a7:Int)=3:=oM;go_enter Tryz.func15,Tryz.ntmps15;go_wp2;go_ret;exact⟨.f1 C.o,a.o.gG⟩
def DJ(p:MP)(x:MI):Int:=match p.a7[x.a.toNat]? with|some r=>(r[x.b.toNat]?).getD 0|none=>0
def AV(f:MF):List Int:=if f.gz=0 then[]else[f.gz]
def Ax(p:MP)(f:MF)(x:MI):List Int:=
 if x.op=3 then[Ay f x.a]else if x.op=5 then[DJ p x]else if x.op=6 then[3]else if x.op=7 then[3,DJ p x]
 else if(8<=x.op/\x.op<=15)\/x.op=20\/x.op=21 then[x.a,x.a]else if x.op=16\/x.op=22 then[x.a]
 else if x.op=17\/x.op=18 then[3,3]else if x.op=19 then[2]else if x.op=23\/x.op=24 then[0]else if x.op=26 then[1]
 else if x.op=28 then(match p.cC[x.a.toNat]? with|some g=>g.d5|none=>[])else[]
def VN(l:List MC)(i:Nat):MC:=(l[i]?).getD ⟨0,0⟩
def Aw(p:MP)(f:MF)(x:MI):List Int:=
 if x.op=1 then[(VN p.aC x.a.toNat).type]else if x.op=2 then[Ay f x.a]else if x.op=4\/x.op=6 then[DJ p x]
 else if 8<=x.op/\x.op<=16 then[x.a]else if x.op=17\/x.op=18 then[3]else if x.op=19 then[2]else if x.op=20\/x.op=21 then[1]
 else if x.op=22 then[x.b]else if x.op=23 then[0,0]else if x.op=28 then(match p.cC[x.a.toNat]? with|some g=>AV g|none=>[])else[]
def Ch(p:MP)(f:MF)(x:MI):List Int:=if x.op=29 then AV f else Ax p f x
theorem JP(h:q:=by go_enter Tryz.func28,Tryz.ntmps28;go_wp2;go_ret;exact⟨rfl,rfl⟩):q:=h
theorem Bf(n:Int)(c:Int)(w:Y):
 Ae Tryz.prog 28 #[iZ n,iZ c] w λe b=>e=.returned (.bool (decide (0<=n/\n<c)))/\b=w:=by
 by_cases f:n<0
 . rw[mj (by omega:¬(0<=n/\n<c))]
   have a:¬0<=n:=oM;exact JP
 have a:0<=n:=oM;by_cases g:n<c
 . rw[decide_eq_true (by omega:0<=n/\n<c)]
   exact JP
 rw[mj (by omega:¬(0<=n/\n<c))]
 exact JP
theorem JQ(h:q:=by go_wp2;all_goals(go_ret;refine⟨AC.of ?_,rfl⟩;go_light;simp_all [BM])):q:=h
theorem FL(F t:Int)(w:Y)(a:F=5\/F=6\/F=7):Ae Tryz.prog 128 #[iZ F,iZ t] w λe b=>AC e (BM F t)/\b=w:=by
 rcases a with rfl|rfl|rfl
 . go_enter Tryz.func128,Tryz.ntmps128;exact JQ
 . go_enter Tryz.func128,Tryz.ntmps128;exact JQ
 go_enter Tryz.func128,Tryz.ntmps128;go_wp2_with fail;refine(D6 t _).mono ?_;rintro e u ⟨rfl,rfl⟩;exact JQ
structure NO(w:Y)(b:Nat)(x0 x1 x2 x3 x4 x5 x6 x7:J):Prop where
 c0:w.cell? b=K x0
 c1:w.cell? ⟨b,1,M⟩=K x1
 c2:w.cell? ⟨b,2,M⟩=K x2
 c3:w.cell? ⟨b,3,M⟩=K x3
 c4:w.cell? ⟨b,4,M⟩=K x4
 c5:w.cell? ⟨b,5,M⟩=K x5
 c6:w.cell? ⟨b,6,M⟩=K x6
 c7:w.cell? ⟨b,7,M⟩=K x7
theorem NO.lt{w:Y}{b:Nat}{a x1 x2 x3 e f g i:J}(h:NO w b a x1 x2 x3 e f g i):b<w.heap.size:=jC h.c0
theorem NO.bM{w e:Y}{b:Nat}{f x1 x2 x3 g i j k:J}(h:NO w b f x1 x2 x3 g i j k)(a:Ad w w e):NO e b f x1 x2 x3 g i j k:=⟨by rw[a.cell h.lt];exact h.c0,by rw[a.cell h.lt];exact h.c1,by rw[a.cell h.lt];exact h.c2,by rw[a.cell h.lt];exact h.c3,by rw[a.cell h.lt];exact h.c4,by rw[a.cell h.lt];exact h.c5,by rw[a.cell h.lt];exact h.c6,by rw[a.cell h.lt];exact h.c7⟩
theorem NO.new(w:Y)(a x1 x2 x3 b f g i:J)(ty:Af):NO (w.alloc (.cells #[a,x1,x2,x3,b,f,g,i] ty)) w a x1 x2 x3 b f g i:=by have h:=mQ (base:=w) (e:=ty) (size:=8) w #[a,x1,x2,x3,b,f,g,i] 1 lR oX sP;exact⟨h.cellAt 0 oM,h.cellAt 1 oM,h.cellAt 2 oM,h.cellAt 3 oM,h.cellAt 4 oM,h.cellAt 5 oM,h.cellAt 6 oM,h.cellAt 7 oM⟩
theorem NO.alloc{w:Y}{b:Nat}{a x1 x2 x3 e f g i:J}(h:NO w b a x1 x2 x3 e f g i)(o:Obj):NO (w.alloc o) b a x1 x2 x3 e f g i:=h.bM (Ag _ _)
def IL(f:MF)(n:Int):Prop:=0<=n/\n<(f.d5:Int)+(f.en:Int)
theorem Gx(k x1 x2 x3:J)(g:VF)(f:MF)(n:Int)(w:Y)(i:f.small)(h:Dt w g f):
 Ae Tryz.prog 125 #[.agg #[k,x1,x2,x3,g.p,iZ f.gz,g.l,g.c],iZ n] w λe j=>AC e (IL f n)/\Ad w w j:=by
 obtain⟨m,c1,a⟩:=h.1.fu;obtain⟨q,c2,b⟩:=h.2.1.fu;obtain⟨z,y,v⟩:=g;obtain⟨r,s,t⟩:=i;simp only[]at a b;subst a b;clear h;go_enter Tryz.func125,Tryz.ntmps125;go_wp2_with fail;refine(Bf n ((f.d5:Int)+(f.en:Int)) _).mono ?_;rintro e u ⟨rfl,rfl⟩;go_wp2;go_ret;exact⟨.of (by unfold IL;simp),Ag _ _⟩
def Df(p:MP)(op a b:Int):Prop:=∃l,0<=a/\p.a7[a.toNat]?=K l/\0<=b/\b<(l.length:Int)/\¬((op=5\/op=7)/\a=0)
theorem JO(h:q:=by go_enter Tryz.func126,Tryz.ntmps126;go_wp2_with fail;refine(Bf (i:Int) 3 _).mono ?_;rintro e u ⟨rfl,rfl⟩;rw[hit];go_wp2_with fail;go_quiet ((go_at_call 28;exact Calls.quiet_of_same (Bf b (l:Int) _)));go_wp2;go_ret;exact⟨.of HD.o,HB.o.trans (As _ _ _)⟩):q:=h
theorem MW(h:q:=by go_enter Tryz.func126,Tryz.ntmps126;go_wp2_with fail;refine(Bf a 3 _).mono ?_;rintro e u ⟨rfl,rfl⟩;rw[hit];go_wp2;go_ret;exact⟨.no HN.o,HB.o⟩):q:=h
theorem MX(h:q:=by go_wp2_with fail;refine(Bf 0 3 _).mono ?_;rintro e u ⟨rfl,rfl⟩;go_wp2;go_ret;exact⟨.no HN.o,HB.o⟩):q:=h
theorem Ed(v:VP)(p:MP)(x4 x5 x6 x7:J)(op a b c:Int)(w:Y)(hs:p.small)(s:p.a7.length=3)(h:Cz w v p):
 Ae Tryz.prog 126 #[.agg #[v.r,v.k,v.f,v.t,x4,x5,x6,x7],.agg #[iZ op,iZ a,iZ b,iZ c]] w λe w'=>AC e (Df p op a b)/\Ad w w w':=by
 obtain⟨vr,vk,vf,vt⟩:=v;obtain⟨xs,N,G,W⟩:=h.a7;simp only[]at G;rw[s]at G;have a8:xs.length=3:=by rw[<-s,<-N];simp
 have z:=Ap (ji G (ji N (ji W (ji hs.region (ji a8 s)))));clear G N W a8 hs h s;have HB:Aa (Ad w w ((w.alloc (.cells #[vr,vk,vf,vt,x4,x5,x6,x7] 53)).alloc (.cells #[iZ op,iZ a,iZ b,iZ c] 60))):=Ai (Ag _ _) lR (Ag _ _);by_cases Q:0<=a/\a<3
 . obtain⟨i,rfl⟩:=kU Q.1;have hi:i<3:=oM;obtain⟨⟨l,y⟩,H⟩:∃x,xs[i]?=K x:=⟨_,an (by rw[z.o.2.2.2.2.1];omega)⟩;have F:=CT z.o.2.1 H;have O:=z.o.2.2.1 _ (i8 H);have ah:=z.o.2.2.2.1 _ (i8 F);simp only[]at F O ah;rcases z.o.1.2 with⟨e0,_⟩|⟨g,o,cc,e2,T⟩
   . omega
   subst e2;have C:=Rd.elem AY T i _ H 0 _ rfl;rw[lr,kZ]at C;simp only[]at C;clear T H;have S:=Ap F;clear F;obtain⟨ay,cy,rfl⟩:=O.fu;clear O;have a1:=(HB.o.cell (jC C)).trans C;have ga:¬g=w.heap.size:=mE (jC C);have B:Aa (Df p op (i:Int) b↔¬((op=5\/op=7)/\(i:Int)=0)/\0<=b/\b<(l:Int)):=by
    show _↔_;constructor
    . rintro⟨l',h1,h2,s,I,L⟩;rw[kM,S.o]at h2;obtain rfl:=kN h2;exact⟨L,s,I⟩
    rintro⟨L,s,I⟩;exact⟨l,oM,by rw[kM];exact S.o,s,I,L⟩
   by_cases j:(op=5\/op=7)/\(i:Int)=0
   . (have HN:Aa (¬Df p op (i:Int) b):= λe=>(B.o.1 e).1 j);obtain⟨j,q2⟩:=j;obtain rfl:i=0:=oM;rcases j with rfl|rfl
     . go_enter Tryz.func126,Tryz.ntmps126;exact MX
     go_enter Tryz.func126,Tryz.ntmps126;exact MX
   have D:((i:Int)==0)=decide (i=0):=by
    by_cases e:i=0
    . subst e;rfl
    rw[mj e];simpa using e
   have hit:decide (0<=(i:Int)/\(i:Int)<3)=true:=decide_eq_true oM
   have HD:Aa (decide (0<=b/\b<(l:Int))=true↔Df p op (i:Int) b):=by show _↔_;rw[B.o,mi];exact⟨λe=>⟨j,e⟩, λe=>e.2⟩
   by_cases A:op=5
   . subst A;(have ae:((i:Int)==0)=false:=by (have:¬i=0:= λe=>j ⟨.inl rfl,oM⟩);rw[D,mj this]);clear j B D;exact JO
   by_cases R:op=7
   . subst R;(have ae:((i:Int)==0)=false:=by (have:¬i=0:= λe=>j ⟨.inr rfl,oM⟩);rw[D,mj this]);clear j B D A;exact JO
   (have aj:(op==5)=false:=by simpa using A);(have am:(op==7)=false:=by simpa using R);clear j B D A R;exact JO
 have HN:Aa (¬Df p op a b):= λ⟨l,h1,h2,_⟩=>Q ⟨h1,by have:=(iV.1 h2).1;rw[z.o.2.2.2.2.2]at this;omega⟩
 have hit:decide (0<=a/\a<3)=false:=mj Q
 clear z;by_cases A:op=5
 . subst A;exact MW
 have aj:(op==5)=false:=by simpa using A
 exact MW
structure Gn where
 ch:List MI
 aC:List MC
 dr:List MT
structure GK where
 F:List (List Int×Value)
 G:List (MF×VF)
 P:Nat
 Gb:Nat
 fi:Nat
 L0:Int
 nc:Nat
 J:List Nat
abbrev Ty(t:Int):Prop:=1<=t/\t<=3
theorem Ty.is{t:Int}(h:Ty t):DC t=true:=by simpa[DC]using h
theorem Ty.w{t:Int}(h:Ty t):CO t:=Bm oM oM
theorem NE{z:Int}(a:0<=z)(h1:z<4294967296):Ta z:=by simp[Ta,Lit.wf,IntKind.min,IntKind.max,IntKind.signed,IntKind.bits];omega
structure SZ(f:MF):Prop where
 pl:f.d5.length<=3
 pt:∀z∈f.d5,Ty z
 rs:0<=f.gz/\f.gz<=3
 lc:∃l,f.en=l++[3,3,3]/\l.length<=3/\∀z∈l,Ty z
theorem SZ.lt{f:MF}(h:SZ f):(3<=f.en.length/\f.en.length<=6)/\∀z∈f.en,Ty z:=by
 obtain⟨l,e,i,b⟩:=h.lc;rw[e];refine⟨oT, λz g=> ?_⟩;rcases kS.1 g with a|a
 . exact b z a
 simp at a;omega
theorem SZ.ctr{f:MF}(h:SZ f){a:Int}(b:0<=a/\a<=2):Ay f ((f.d5:Int)+ ↑f.en-3+a)=3:=by
 obtain⟨l,e,_,_⟩:=h.lc;have h1:((f.d5:Int)+ ↑f.en-3+a).toNat= ↑f.d5+(↑l+a.toNat):=by rw[e];simp;omega
 unfold Ay;rw[lE (by rw[e];simp;omega),h1,e,lD,lN oM,lN oM];obtain rfl|rfl|rfl:a=0\/a=1\/a=2:=oM
 all_goals simp
theorem SZ.wf{f:MF}(h:SZ f)(b:∀x∈f.ch,x.wf):f.wf:=⟨λz a=>(h.pt z a).w,Bm (by have:=h.rs;omega) (by have:=h.rs;omega), λz a=>(h.lt.2 z a).w,b⟩
structure LF(k:GK):Prop where
 f3:k.F.length=3
 fr:∀x∈k.F,x.1.length<=100
 ft:∀x∈k.F,∀z∈x.1,Ty z
 fi:k.fi< ↑k.G
 gl:k.G.length<=32
 fn:∀y∈k.G,SZ y.1
 l0:0<=k.L0/\k.L0<=300
def Tt(x:MI):Prop:=(0<=x.op/\x.op<=255)/\(0<=x.a/\x.a<=255)/\(0<=x.b/\x.b<=255)/\0<=x.c/\x.c<=1000000
theorem Tt.wf{x:MI}(h:Tt x):x.wf:=by obtain⟨h1,h2,a,b⟩:=h;exact⟨Bm oM oM,Bm oM oM,Bm oM oM,Bm oM oM⟩
def Ib(k:GK)(nc:Nat)(len:Int)(x:MI):Prop:=Tt x
def V9(k:GK)(a t:Int):Prop:=∃y,k.G[k.fi]?=K y/\Ay y.1 a=t
def Ya(k:GK)(q b:Nat)(t:Int):Prop:=∃y,k.F[q]?=K y/\y.1[b]?=K t
section
variable {k:GK} {nc nc':Nat} {len len':Int} {x:MI} {op a b c t:Int} {p:MP} {f:MF}
theorem Ib.mono(h:Ib k nc len x)(h1:nc<=nc')(h2:len<=len'):Ib k nc' len' x:=h
theorem Ib.J{J:List Nat}(h:Ib k nc len x):Ib {k with J:=J} nc len x:=h
theorem Ib.unJ{J:List Nat}(h:Ib {k with J:=J} nc len x):Ib k nc len x:=h
theorem WR{f:MF}(h:SZ f)(e:Ay f a=t)(i:¬t=0):0<=a/\a<=10:=by
 have h1:=h.pl;have h2:=h.lt.1;unfold Ay at e;by_cases b:a<0
 . rw[lS b]at e;omega
 rw[lE b]at e;by_cases g:a.toNat<(f.d5++f.en).length
 . simp at g;omega
 rw[lD,lB oM]at e;exact absurd e.symm i
theorem TK(b:LF k)(f:V9 k a t)(g:¬t=0):0<=a/\a<=10:=by obtain⟨y,h,e⟩:=f;exact WR (b.fn y (i8 h)) e g
theorem Wd{q b:Nat}(a:LF k)(g:Ya k q b t):q<3/\b<100/\Ty t:=by obtain⟨y,f,e⟩:=g;have h1:=(iV.1 f).1;have h2:=(iV.1 e).1;have h:=a.fr y (i8 f);have:=a.f3;exact⟨oM,oM,a.ft y (i8 f) t (i8 e)⟩
theorem SX(h1:0<=op/\op<=29)(h2:0<=a/\a<=255)(e:0<=b/\b<=255)(f:0<=c/\c<=1000000):Tt ⟨op,a,b,c⟩:=⟨⟨h1.1,by show op<=255;omega⟩,h2,e,f⟩
theorem XX(h:AG op=0:=by kernel_rfl)(h1:0<=op/\op<=29:=by omega):Ib k nc len ⟨op,0,0,0⟩:=SX h1 oM oM oM
theorem ok1{r:Nat}(h:r<nc)(a:nc<=64):Ib k nc len ⟨1,r,0,0⟩:=SX oM oM oM oM
theorem YN(b:LF k)(h:V9 k a t)(f:1<=t/\t<=3:=by omega)(e:AG op=2:=by kernel_rfl)(h1:0<=op/\op<=29:=by omega):Ib k nc len ⟨op,a,0,0⟩:=
 have:=TK b h oM
 SX h1 oM oM oM
theorem ok3{q b:Nat}(a:LF k)(h:Ya k q b t)(e:op=4\/op=5/\0<q:=by omega):Ib k nc len ⟨op,q,b,0⟩:=
 have:=Wd a h
 SX oM oM oM oM
def Mk(m:Nat):Prop:=m=0\/m=1\/m=3\/m=7\/m=15\/m=31\/m=63\/m=127
theorem ok4{q b m:Nat}(a:LF k)(h:∀j,j<=m->Ya k q (b+j) t)(e:Mk m)(g:op=6\/op=7/\0<q:=by omega):Ib k nc len ⟨op,q,b,m⟩:=by
 have h1:=Wd a (h 0 (mu _));have f:(m:Int)<256:=by unfold Mk at e;omega
 exact SX oM oM oM oM
theorem YO(h:BM (AG op) t)(h1:0<=op/\op<=29:=by omega):Ib k nc len ⟨op,t,0,0⟩:=
 have:Ty t:=by
  rcases h with⟨_,h⟩|⟨_,h⟩|⟨_,h⟩
  . omega
  . omega
  simpa[DC]using h
 SX h1 oM oM oM
theorem okE(a:1<=t/\t<=3:=by omega):Ib k nc len ⟨20,t,0,0⟩:=YO (.inr (.inr ⟨kR,Ty.is a⟩))
theorem ok5(b:t=2\/t=3:=by omega)(a:AG op=5:=by kernel_rfl)(h1:0<=op/\op<=29:=by omega):Ib k nc len ⟨op,t,0,0⟩:=YO (.inl ⟨a,b⟩) h1
theorem Yl(b:t=1\/t=3:=by omega)(a:AG op=6:=by kernel_rfl)(h1:0<=op/\op<=29:=by omega):Ib k nc len ⟨op,t,0,0⟩:=YO (.inr (.inl ⟨a,b⟩)) h1
theorem okA(b:0<=r/\r<5)(a:t=2\/t=3:=by omega):Ib k nc len ⟨8+r,t,0,0⟩:=by
 obtain rfl|rfl|rfl|rfl|rfl:r=0\/r=1\/r=2\/r=3\/r=4:=oM
 all_goals exact ok5 a
theorem okB(b:0<=r/\r<3)(a:t=1\/t=3:=by omega):Ib k nc len ⟨13+r,t,0,0⟩:=by
 obtain rfl|rfl|rfl:r=0\/r=1\/r=2:=oM
 all_goals exact Yl a
theorem ok8(e:1<=a/\a<=3:=by omega)(f:1<=b/\b<=3:=by omega)(g:¬a=b:=by omega):Ib k nc len ⟨22,a,b,0⟩:=SX oM oM oM oM
theorem XZ(a:0<=c:=by omega)(b:c<=len:=by first|omega|(simp only[];omega))(e:len<=1000000:=by first|omega|(simp only[];omega))(f:op=25\/op=26:=by omega):Ib k nc len ⟨op,0,0,c⟩:=SX oM oM oM oM
theorem YL(b:LF k)(h:V9 k a t)(i:1<=t/\t<=3:=by omega)(e:0<=c:=by omega)(f:c<=len:=by first|omega|(simp only[];omega))(g:len<=1000000:=by first|omega|(simp only[];omega)):Ib k nc len ⟨27,a,0,c⟩:=
 have:=TK b h oM
 SX oM oM oM oM
theorem YM{q:Nat}(h:q< ↑k.G)(a:k.G.length<=32):Ib k nc len ⟨28,q,0,0⟩:=SX oM oM oM oM
theorem Ib.ix(h:Ib k nc len x)(g:AG x.op=9\/AG x.op=10)(e:0<=c)(f:c<=len)(i:len<=1000000):Ib k nc len ⟨x.op,x.a,x.b,c⟩:=⟨h.1,h.2.1,h.2.2.1,e,by show c<=1000000;omega⟩
end
def Yg(k:GK)(len:Int)(c:MT):Prop:=c.wf/\(0<=c.func/\0<=c.head)/\((c.func<k.fi/\∃y,k.G[c.func.toNat]?=K y/\c.head<y.1.ch.length/\Ay y.1 c.gQ=3)\/(c.func=k.fi/\c.head<len/\V9 k c.gQ 3))
theorem Yg.mono{k:GK}{len len':Int}{c:MT}(h:Yg k len c)(a:len<=len'):Yg k len' c:=⟨h.1,h.2.1,h.2.2.imp_right λe=>⟨e.1,oM,e.2.2⟩⟩
structure M9(k:GK)(g:Gn)(left:Int)(nt:Nat):Prop where
 len:(g.ch:Int)+left=k.L0
 nc:g.aC.length<=64
 lc:k.nc<= ↑g.aC
 nt: ↑g.dr<=nt
 wc:∀x∈g.ch,Ib k g.aC g.ch x
 wk:∀x∈g.aC,x.wf/\CR x
 bk:∀t,Ty t->∃x∈g.aC,x.type=t
 wt:∀x∈g.dr,Yg k g.ch x
 ri:g.dr.Pairwise Ih
 jm:∀j∈k.J,∃x,g.ch[j]?=K x/\(AG x.op=9\/AG x.op=10)
section
variable {k:GK} {g:Gn} {left:Int} {nt:Nat} {x:MI}
theorem M9.put(h:M9 k g left nt)(l:Ib k g.aC (k.L0-left+1) x):M9 k ⟨g.ch++[x],g.aC,g.dr⟩ (left-1) nt:=by
 have m:=h.len;have i:((g.ch++[x]).length:Int)=k.L0-left+1:=oT;refine⟨oS,h.nc,h.lc,h.nt, λy a=> ?_,h.wk,h.bk, λy a=>(h.wt y a).mono oS,h.ri, λj f=> ?_⟩
 . simp only[i];rcases kS.1 a with e|e
   . exact(h.wc y e).mono lR oM
   rw[lT.1 e];exact l
 obtain⟨y,a,b⟩:=h.jm j f;exact⟨y,by rw[ld (iV.1 a).1];exact a,b⟩
theorem M9.jump(h:M9 k ⟨g.ch++[x],g.aC,g.dr⟩ left nt)(a:AG x.op=9\/AG x.op=10):M9 {k with J:= ↑g.ch::k.J} ⟨g.ch++[x],g.aC,g.dr⟩ left nt:=
 ⟨h.len,h.nc,h.lc,h.nt, λx f=>(h.wc x f).J,h.wk,h.bk,h.wt,h.ri, λj b=>by
  rcases lA.1 b with rfl|e
  . exact⟨x,sP,a⟩
  exact h.jm j e⟩
theorem M9.back{J:List Nat}(h:M9 {k with J:=J} g left nt)(a:∀j∈k.J,j∈J):M9 k g left nt:=⟨h.len,h.nc,h.lc,h.nt, λx b=>(h.wc x b).unJ,h.wk,h.bk,h.wt,h.ri, λj e=>h.jm j (a j e)⟩
theorem M9.cst{cs:List MC}{y:MC}(h:M9 k g left nt)(f:y.wf/\CR y)(i:g.aC.length<64):M9 k ⟨g.ch,g.aC++[y],g.dr⟩ left nt:=
 ⟨h.len,oT,by have:=h.lc;simp;omega,h.nt, λx a=>(h.wc x a).mono sP (Int.le_refl _), λx a=>by
  rcases kS.1 a with e|e
  . exact h.wk x e
  . rw[lT.1 e];exact f, λt b=>by
  obtain⟨x,a,e⟩:=h.bk t b;exact⟨x,List.mem_append_left _ a,e⟩,h.wt,h.ri,h.jm⟩
theorem M9.kx{c:MT}(h:M9 k g left nt)(l:c.wf)(i:c.func=k.fi)(b:0<=c.head)(j:∀x∈g.dr,x.func=k.fi->x.head<c.head)(n:c.head<k.L0-left)(f:V9 k c.gQ 3):M9 k ⟨g.ch,g.aC,g.dr++[c]⟩ left (nt+1):=by
 have p:=h.len;refine⟨h.len,h.nc,h.lc,by simp;exact h.nt,h.wc,h.wk,h.bk, λx a=> ?_,?_,h.jm⟩
 . rcases kS.1 a with e|e
   . exact h.wt x e
   rw[lT.1 e];exact⟨l,⟨oM,b⟩,.inr ⟨i,oS,f⟩⟩
 rw[mP];refine⟨h.ri,oq _ _, λx a y m=> ?_⟩;rw[lT.1 m];rcases(h.wt x a).2.2 with e|e
 . exact .inl oM
 exact .inr ⟨oM,j x a e.1⟩
end
def Kh(f:MF):List Int:=(f.ch.filter λx=>decide (x.op=28)).map MI.a
def Ft(b:List MF)(done:List Int)(i:Nat):Bool:= !done.contains (i:Int)&&match b[i]? with|some f=>(Kh f).all λa=>done.contains a|none=>false
def K3(a:List MF)(done:List Int):Option Nat:=(List.range a).find? (Ft a done)
def GB(a:List MF):Nat->List Int->List Int
 |0,done=>done
 |k+1,done=>match K3 a done with|some i=>GB a k (done++[(i:Int)])|none=>[]
def IC(a:List MF):List Int:=GB a a []
theorem OS{b:List MF}(h1:i< ↑b)(h2:Ft b done i=true)(e:∀j,j<i->Ft b done j=false):K3 b done=K i:=by
 unfold K3;rw[List.find?_eq_some_iff_append];refine⟨h2,(List.range i),(List.range' (i+1) (↑b-i-1)),?_, λa f=> ?_⟩
 . rw[List.range_eq_range',List.range_eq_range',show ↑b=i+(1+(↑b-i-1))from oM,<-List.range'_append_1,<-List.range'_append_1]
   simp
 rw[e a (by simpa using f)];rfl
theorem OR{b:List MF}(h:∀j,j< ↑b->Ft b done j=false):K3 b done=M:=by unfold K3;rw[List.find?_eq_none];intro a e;rw[h a (by simpa using e)];exact ms
theorem Ti{p:MP}(h:CQ p){f:MF}(j:p.cC[i]?=K f){a:Int}(g:a∈Kh f):0<=a/\a<(p.cC:Int):=by
 unfold Kh at g;obtain⟨x,q,rfl⟩:=lK.1 g;obtain⟨r,m⟩:=nj.1 q;simp only[mi]at m;obtain⟨k,l⟩:=lw r;have n:=h i (iV.1 j).1 f j k (iV.1 l).1 x l;obtain⟨_,_,b⟩:=n;have e:AG x.op=11:=by rw[m];rfl
 rw[e]at b;unfold BQ at b;simp[BM]at b;exact⟨b.1,b.2.1⟩
def CP:List Int->List Int->Bool
 |[],[]=>true
 |s::ss,t::ts=>(t==0||s==t)&&CP ss ts
 |_,_=>false
theorem Ml{a b:List Int}(h:CP a b=true):a.length=b.length:=by
 induction a generalizing b with
 |nil=>cases b with|nil=>rfl|cons _ _=>simp[CP]at h
 |cons v r e=>cases b with|nil=>simp[CP]at h|cons t q=>simp only[CP,nL]at h;simp[e h.2]
theorem Ht{a b:List Int}(g:a.length= ↑b):CP a b=true↔∀(i:Nat) s t,a[i]?=K s->b[i]?=K t->t=0\/s=t:=by
 induction a generalizing b with
 | nil=>
   cases b with
   |nil=>simp[CP]
   |cons _ _=>simp at g
 | cons v r j=>
   cases b with
   |nil=>simp at g
   | cons t q=>
     simp only[CP,nL,Bool.or_eq_true,beq_iff_eq];rw[j (by simpa using g)];constructor
     . rintro⟨h1,h2⟩ i s u e f;cases i with
       |zero=>simp only[jt,kK]at e f;subst e f;exact h1
       |succ i=>simp only[kI]at e f;exact h2 i s u e f
     intro h;exact⟨h 0 v t rfl rfl, λi s u e f=>h (i+1) s u (by simpa using e) (by simpa using f)⟩
def Hf(p:MP)(f:MF)(x:MI)(sh:List Int):Nat:= ↑sh-(Ax p f x).length
def BT(p:MP)(f:MF)(x:MI)(sh:List Int):List Int:=sh.take (Hf p f x sh)++(Aw p f x).map λt=>if t=0 then(sh[Hf p f x sh]?).getD 0 else t
def BJ(p:MP)(f:MF)(x:MI)(sh:List Int):Int:=
 if ↑sh<(Ax p f x).length then 1
 else if CP (sh.drop (Hf p f x sh)) (Ax p f x)=false\/(x.op=27/\Ay f x.a≠3)then 2
 else if 64<(BT p f x sh).length then 3 else 0
def FZ(op:Int):Prop:=op=25\/op=26\/op=27
structure C7(p:MP)(f:MF)(shs:List (List Int))(i:Nat)(x:MI)(sh:List Int):Prop where
 types:sh.all DC=true
 j4:sh.length<=64
 ret:x.op=29->sh=AV f
 ch:x.op≠29->BJ p f x sh=0
 next:x.op≠29->x.op≠25->shs[i+1]?=K (BT p f x sh)
 named:FZ x.op->shs[x.c.toNat]?=K (BT p f x sh)
structure Eb(p:MP)(f:MF)(shs:List (List Int)):Prop where
 len:shs.length= ↑f.ch
 gK:shs[0]?=K []
 all:∀(i:Nat) x sh,f.ch[i]?=K x->shs[i]?=K sh->C7 p f shs i x sh
end Go.Proofs.YtjnglocdoljgkaaGreat
