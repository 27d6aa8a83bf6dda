import Derived.Test.YtkgohaigebcgoaaGreatDoorLo6
namespace Go.Proofs.YtkgohaigebcgoaaGreatDoor
open Go.ChangeShapes Go.WideShapes Go.ChangeAt Go.RowKit Go.Proofs.Tryz
set_option linter.unusedVariables false
open Go.Value renaming slice → Z,agg → An
open Option renaming some → K,none → M
open Go renaming Value → J,World → Y,Calls → Ai
open Go.RowKit renaming Hid → Ae,Below → Ah
open Go.Obj renaming cells → Ak
open Go.Proofs.Tryz renaming prog → Aq
open Go.World renaming alloc → Ac
open List renaming flatMap → Ad
set_option maxHeartbeats 4000000
set_option maxRecDepth 100000
variable {w e:Y}{s:J}{rs:List (List Int)}{q:Prop}
def EY(w:Y)(s:J)(rs:List (List Int)):Prop:=∃xs:List (List Int×J),xs.map Prod.fst=rs/\Rd w 1 s rs (Ad Ia xs)/\∀x∈xs,Rd w 1 x.2 x.1 (x.1.flatMap As)/\∃a c,x.2=Z a x.1 c/\ ↑x.1<=c
theorem EY.rd(h:EY w s rs):OT w s rs:=by obtain⟨xs,a,b,c⟩:=h;exact⟨xs,a,b, λx d=>(c x d).1⟩
theorem EY.av(h:EY w s rs){B:Nat}(c:Ah B w e)(b: ↑w<=B):EY e s rs:=by obtain⟨xs,f,g,a⟩:=h;exact⟨xs,f,g.av c b, λx d=>⟨(a x d).1.av c b,(a x d).2⟩⟩
theorem Rd.drop{g o n c c':Nat}{xs:List Int}(h:∀j u,(Ad As xs)[j]?=K u->w ⟨g,o+j,M⟩=K u)(b:Nat)(k:b< ↑xs):Rd w 1 (Z (K ⟨g,o+b,M⟩) (↑xs-b) c') (xs.drop b).length (Ad As (xs.drop b)):=by
 refine⟨by rw[AV As 1 AE],.inr ⟨g,o+b,c',by rw[kZ], λj u a=> ?_⟩⟩;have f:j<(xs.drop b).length:=by have:=(f7.1 a).1;rw[AV As 1 AE,lJ]at this;exact this
 have d:=BM As 1 AE (xs.drop b) j 0 _ (an f) oM;rw[lJ,jV]at d;rw[d]at a;have i:b+j<xs.length:=by rw[kZ]at f;omega
 have e:=BM As 1 AE xs (b+j) 0 _ (an i) oM;rw[lJ,jV]at e;rw[Nat.add_assoc];refine h (b+j) u ?_;rw[e];rw[List.getElem_drop]at a;exact a
structure pR(w u:Y)(v:VP)(g:VF)(f:MF)(op a b c:Int):Prop where
 cq:Ah w w u
 scope:P7 u w v.r v.k v.f v.t g.p f.cu g.l g.c
 ins:Kr u ((w:Nat)+1) op a b c
theorem pR.av{u:Y}{v:VP}{g:VF}{f:MF}{op a b c:Int}(h:pR w u v g f op a b c)(d:Ah u u e):pR w e v g f op a b c:=⟨Ar h.cq lR d,h.scope.av d,h.ins.av d⟩
theorem pR.of(w:Y)(v:VP)(g:VF)(f:MF)(op a b c:Int):pR w (Ac (Ac w (Ak #[v.r,v.k,v.f,v.t,g.p,f.cu,g.l,g.c] 109)) (Ak #[op,a,b,c] 25)) v g f op a b c:=by refine⟨Ar (Al _ _) lR (Al _ _),(P7.new w _ _ _ _ _ _ _ _ _).alloc _,?_⟩;have:=Kr.new (Ac w (Ak #[v.r,v.k,v.f,v.t,g.p,f.cu,g.l,g.c] 109)) op a b c 25;simpa using this
theorem Fp(h:q:=by clear hbm;go_wp2_with fail;all_goals(go_ret;refine⟨AM.of ?_,HJ.o.cq⟩;rw[HIF.o];obtain⟨l1,l2,l3⟩:=HL.o;have lt:=HT.o;go_light;simp_all [BU,Cb]<;>omega)):q:=h
theorem Fq(h:q:=by go_wp2_with fail;all_goals(go_ret;refine⟨AM.of ?_,HJ.o.cq⟩;rw[HIF.o];obtain⟨l1,l2,l3⟩:=HL.o;go_light;simp_all [BU,Cb]<;>omega)):q:=h
theorem Io(h:q:=by clear hbh;go_wp2_with fail;all_goals(go_ret;refine⟨AM.of ?_,HK.o.cq⟩;rw[HIF.o];obtain⟨l1,l2,l3⟩:=HL.o;have lt:=HT.o;go_light;simp_all [BU,Cb]<;>omega)):q:=h
theorem OM(h:q:=by refine wpQuiet_nil ?_;rintro w'' ⟨n,rfl⟩;have HB9:=Aw (Ar HJ.o.cq lR n.h);clear P0 P1 P2 P3 G0 G1 G2 G3 I0 I1 I2 I3 inst;go_wp2_with fail;all_goals(go_ret;exact⟨.no HN.o,HB9.o⟩)):q:=h
theorem ON(h:q:=by go_wp2_with fail;all_goals(go_ret;refine⟨AM.of ?_,HK.o.cq⟩;rw[HIF.o];obtain⟨l1,l2,l3⟩:=HL.o;have lt:=HT.o;have l4:=HQ.o;go_light;simp_all [BU,Cb]<;>omega)):q:=h
theorem OO(h:q:=by go_wp2_with fail;all_goals(go_ret;refine⟨AM.of ?_,HJ.o.cq⟩;rw[HIF.o];obtain⟨l1,l2,l3⟩:=HL.o;have l4:=HQ.o;go_light;simp_all [BU,Cb]<;>omega)):q:=h
theorem UT(v:VP)(p:MP)(g:VF)(f:MF)(op a b c:Int)(w:Y)(hs:p.small)(hp:A7 p.az)(aQ:Cj f)(au:f.small)(ha:Fb a)(hb:Fb b)(hc:Fb c)(h:ET w v p)(aM:EY w v.r p.az)(hf:FH w g f):
 Ai Aq 159 #[An #[v.r,v.k,v.f,v.t,g.p,f.cu,g.l,g.c],An #[op,a,b,c]] w λe w'=>AM e (AW p f ⟨op,a,b,c⟩)/\Ah w w w':=by
 have H:=Aw (fd hs (fd hp (fd au (fd aQ (fd h (fd hf aM))))));have HI:Ae _:=pR.of w v g f op a b c;obtain⟨vr,vk,vf,vt⟩:=v;obtain⟨T,S,gc⟩:=g;obtain⟨V,c2,ek⟩:∃a c,vk=Z a p.b8 c:=h.b8.aP;obtain⟨W,c3,ef⟩:∃a c,vf=Z a p.aB c:=by obtain⟨xs,h1,h2,h3⟩:=h.aB;exact h2.aP
 obtain⟨X,c4,ec⟩:∃a k,gc=Z a f.aU k:=hf.2.2.aP;subst ek ef ec;have bx:=hs.b8;have bB:=hs.aB;have bC:=au.2.2;obtain⟨a0,a1⟩:=LD ha;obtain⟨b0,b1⟩:=LD hb;obtain⟨c0,c1⟩:=LD hc;clear hs hp aQ au ha hb hc h hf aM;by_cases q0:0<=op/\op<30
 . have HO:Ae (0<=op/\op<=29):=⟨oM,oM⟩
   have aj:decide (0<=op/\op<30)=true:=decide_eq_true q0
   clear q0;go_enter func159,ntmps159;go_wp2_with fail;refine(A8 op 30 _).mono ?_;rintro e u ⟨rfl,rfl⟩;rw[aj];go_wp2_with fail;refine(Qf op _).mono ?_;rintro e u ⟨rfl,bl⟩;have HJ:=Aw (HI.o.av bl);clear HI bl aj;obtain⟨s,co,aR⟩:=Nt op;rw[aR];clear aR;have HIF:Ae (AW p f ⟨op,a,b,c⟩↔BU p f (AG op) op a b c):=⟨λe=>e.2.2, λe=>⟨HO.o.1,HO.o.2,e⟩⟩;have hF:(0<=AG op/\AG op<=11)/\(AG op=3->op=4\/op=5)/\(AG op=4->op=6\/op=7):=by obtain⟨k,rfl⟩:=jW HO.o.1;have:=SF k (by have:=HO.o.2;omega);exact⟨this.1, λe=>by have:=this.2.1 e;omega, λe=>by have:=this.2.2 e;omega⟩
   generalize bg:AG op=F at*;clear bg;obtain⟨⟨f0,f1⟩,aI⟩:=hF;have aF:=Aw aI;clear aI;generalize aT:p.b8.length=B at*;generalize aW:p.aB.length=C at*;generalize aX:f.aU.length=G at*;have HL:=Aw (fd aT (fd aW aX));clear aT aW aX;obtain⟨p0,p1,p2,p3,g0,g1,A,I⟩:=HJ.o.scope;obtain⟨i0,O,P,Q⟩:=HJ.o.ins;simp only[]at p0 p1 p2 p3 g0 g1 A I;have br:=SS s co F;by_cases F1:F=1
   . subst F1;go_wp2_with fail;refine(A8 a (B:Int) _).mono ?_;rintro e q ⟨rfl,rfl⟩;by_cases D:0<=a/\a<(B:Int)
     . rw[decide_eq_true D];obtain⟨q2,q3⟩:=D;exact Fq
     rw[kj D];(have bj:0<=a->(B:Int)<=a:= λe=>oM);clear D;exact Fq
   by_cases aZ:F=11
   . subst aZ;go_wp2_with fail;refine(A8 a (C:Int) _).mono ?_;rintro e q ⟨rfl,rfl⟩;by_cases D:0<=a/\a<(C:Int)
     . rw[decide_eq_true D];obtain⟨q2,q3⟩:=D;exact Fq
     rw[kj D];(have bj:0<=a->(C:Int)<=a:= λe=>oM);clear D;exact Fq
   by_cases F9:F=9
   . subst F9;by_cases R:a=0
     . (have bq:(a==0)=true:=by simpa using R);by_cases d:b=0
       . (have aE:(b==0)=true:=by simpa using d);have HQ:Ae (a=0/\b=0):=⟨R,d⟩
         clear R d;go_wp2_with fail;refine(A8 c (G:Int) _).mono ?_;rintro e q ⟨rfl,rfl⟩;go_wp2_with fail;all_goals(go_ret;refine⟨AM.of ?_,HJ.o.cq⟩;rw[HIF.o];obtain⟨l1,l2,l3⟩:=HL.o;obtain⟨l4,l5⟩:=HQ.o;go_light;simp_all [BU,Cb]<;>omega)
       (have aE:(b==0)=false:=by simpa using d);have HQ:=Aw d;clear d R;exact OO
     (have bq:(a==0)=false:=by simpa using R);have HQ:=Aw R;clear R;exact OO
   by_cases F8:F=8
   . subst F8;go_wp2_with fail;refine(Ck a _).mono ?_;rintro e q ⟨rfl,rfl⟩;cases t1:Fd a
     . go_wp2_with fail;all_goals(go_ret;refine⟨AM.of ?_,HJ.o.cq⟩;rw[HIF.o];obtain⟨l1,l2,l3⟩:=HL.o;go_light;simp_all [BU,Cb]<;>omega)
     go_wp2_with fail;refine(Ck b _).mono ?_;rintro e q ⟨rfl,rfl⟩;(cases t2:Fd b);all_goals
      exact Fq
   by_cases F2:F=2
   . subst F2;go_wp2_with fail;refine(GO vr (Z V B c2) (Z W C c3) vt ⟨T,S,Z X G c4⟩ f a _ H.2.2.1 (H.2.2.2.2.2.1.av HJ.cq lR)).mono ?_;rintro e q ⟨⟨bh,rfl,hbh⟩,E⟩;have HK:=Aw (HJ.av E);clear E;clear p0 p1 p2 p3 i0 O P Q g0 g1 A I;obtain⟨i0,O,P,Q⟩:=HK.ins;rw[Jq H.2.2.2.1]at hbh;cases bh
     . (have HT:Ae (AJ f a=0):=kV λe=>absurd (hbh.2 e) lF);exact Io
     have HT:Ae (¬AJ f a=0):=hbh.1 rfl;exact Io
   by_cases aY:F=10
   . subst aY;go_wp2_with fail;refine(GO vr (Z V B c2) (Z W C c3) vt ⟨T,S,Z X G c4⟩ f a _ H.2.2.1 (H.2.2.2.2.2.1.av HJ.cq lR)).mono ?_;rintro e q ⟨⟨bh,rfl,hbh⟩,E⟩;have HK:=Aw (HJ.av E);clear E;clear p0 p1 p2 p3 i0 O P Q g0 g1 A I;obtain⟨i0,O,P,Q⟩:=HK.ins;rw[Jq H.2.2.2.1]at hbh;obtain⟨_,_,_,_,_,_,_,I⟩:=HK.scope;simp only[]at I;cases bh
     . (have HT:Ae (AJ f a=0):=kV λe=>absurd (hbh.2 e) lF);exact Io
     have HT:Ae (¬AJ f a=0):=hbh.1 rfl;clear hbh;by_cases d:b=0
     . (have aE:(b==0)=true:=by simpa using d);have HQ:=Aw d;clear d;go_wp2_with fail;refine(A8 c (G:Int) _).mono ?_;rintro e u3 ⟨rfl,rfl⟩;exact ON
     (have aE:(b==0)=false:=by simpa using d);have HQ:=Aw d;clear d;exact ON
   by_cases F3:F=3
   . subst F3;have N:=aF.1 rfl;have aa:=Ix H.2.1 op a b oM;have z:=Aw (fd N aa);clear N aa;go_wp2_with fail;refine(Eu ⟨vr,Z V B c2,Z W C c3,vt⟩ p T f.cu S (Z X G c4) op a b c _ H.1 H.2.1.1 (H.2.2.2.2.1.av HJ.cq lR)).mono ?_;rintro e q ⟨⟨bh,rfl,hbh⟩,E⟩;have HK:=Aw (HJ.av E);clear E;clear p0 p1 p2 p3 i0 O P Q g0 g1 A I;obtain⟨i0,O,P,Q⟩:=HK.ins;rw[z.2]at hbh;cases bh
     . have HN:Ae (¬AW p f ⟨op,a,b,c⟩):= λe=>by
        have:=HIF.1 e;have N:=z.1;go_light;simp[BU,Cb]at this;have h5:(op=4\/op=6)\/¬a=0:=oM
        simp[this.1,h5]at hbh
       clear hbh;go_wp2_with fail;all_goals(go_ret;exact⟨.no HN,HK.cq⟩)
     . have HT:Ae (¬CJ p a b=0/\(op=4\/¬a=0)):=⟨(hbh.1 rfl).1,by have:=(hbh.1 rfl).2;have:=z.1;omega⟩
       exact Io
   by_cases F4:F=4
   . subst F4;have N:=aF.2 rfl;have aa:=Ix H.2.1 op a b oM;have z:=Aw (fd N aa);clear N aa;have inst:=Ax.some u;(have P0:= λn:Ax u=>Ax.cell p0 n);(have P1:= λn:Ax u=>Ax.cell p1 n);(have P2:= λn:Ax u=>Ax.cell p2 n);(have P3:= λn:Ax u=>Ax.cell p3 n);(have G0:= λn:Ax u=>Ax.cell g0 n);(have G1:= λn:Ax u=>Ax.cell g1 n);(have G2:= λn:Ax u=>Ax.cell A n);(have G3:= λn:Ax u=>Ax.cell I n);(have I0:= λn:Ax u=>Ax.cell i0 n);(have I1:= λn:Ax u=>Ax.cell O n);(have I2:= λn:Ax u=>Ax.cell P n);(have I3:= λn:Ax u=>Ax.cell Q n);by_cases L:Df p op a b
     . have ai:Ae (Df p op a b):=L;have bf:Ae (¬CJ p a b=0/\(op=6\/¬a=0)):=⟨(z.2.1 L).1,by have:=(z.2.1 L).2;have:=z.1;omega⟩
       obtain⟨l,z0,z1,z2,z3,_⟩:=L;obtain⟨i,rfl⟩:=jW z0;obtain⟨j,rfl⟩:=jW z2;rw[i9]at z1;have aS:j<l.length:=oM;have aG:=Aw (S5 H.2.1 z1 aS c);obtain⟨xs,aA,ax,aO⟩:=H.2.2.2.2.2.2;obtain⟨⟨m,y⟩,hx⟩:∃x,xs[i]?=K x:=⟨_,an (by have:=(f7.1 z1).1;rw[<-aA]at this;simpa using this)⟩;have e1:=Ga aA hx;simp only[]at e1;(obtain rfl:m=l:=by rw[z1]at e1;exact(jM e1).symm);obtain⟨hy,ay,cy,ey,bi⟩:=aO _ (hC hx);simp only[]at hy ey bi;subst ey;have bu:=H.1.region _ (hC z1);(have bt:i<3:=by have:=(f7.1 z1).1;have:=H.2.1.1;omega);rw[H.2.1.1]at ax;rcases ax.2 with⟨e0,_⟩|⟨gg,o,cc,e2,aJ⟩
       . omega
       subst e2;have k0:=Rd.elem DB aJ i _ hx 0 _ rfl;rw[lJ,jV]at k0;simp only[]at k0;rw[<-HJ.cq.cell (i7 k0)]at k0;rcases hy.2 with⟨e0,_⟩|⟨A,o2,c5,e3,aK⟩
       . omega
       simp only[i8,kW]at e3;obtain⟨rfl,rfl⟩:=e3;have aH:Ae (Rd u 1 (Z (K ⟨A,o2+j,M⟩) (↑m-j) (cy-j)) (m.drop j).length (Ad As (m.drop j))):=(Rd.drop (n:=0) (c:=0) aK j aS).av HJ.cq lR
       clear aJ aK hx aO ax aA hy e1;(have K0:= λn:Ax u=>Ax.cell k0 n);have y1:(j:Int)<=(m:Int):=oM;have y2:(m:Int)<=(cy:Int):=oM;have y3:(i:Int)<3:=oM;by_cases U:GJ (m.drop j) c
       . have aq:Ae (GJ (m.drop j) c):=U;have HY:=Aw (HIF.2 (.inr (.inr (.inr (.inr (.inl ⟨rfl,aG.1 U,bf.2⟩))))));clear U;go_wp2_with fail;refine AD kR kR ?_;(repeat(go_big_quiet_step ((first|(go_at_call 184;rename_i n;exact(Eu ⟨sO gg o 3 cc,Z V B c2,Z W C c3,vt⟩ p T f.cu S (Z X G c4) op (i:Int) (j:Int) c n.u H.1 H.2.1.1 (H.2.2.2.2.1.av (Ar HJ.cq lR n.h) lR)).mono λe w'' h=>⟨h.1.true ai,⟨⟨w'',Ar n.h lR h.2⟩,rfl⟩⟩)|(go_at_call 185;rename_i n;have ae:=IF (K ⟨A,o2+j,M⟩) (cy-j) (m.drop j) c n.u (by rw[kZ];omega) (by rw[kZ];omega) (by have:=aH.av n.h lR;rw[kZ]at this⊢;exact this);rw[kZ]at ae;exact ae.mono λe w'' h=>⟨h.1.true aq,⟨⟨w'',Ar n.h lR h.2⟩,rfl⟩⟩)))));refine wpQuiet_nil ?_;rintro w'' ⟨n,rfl⟩;have HB9:=Aw (Ar HJ.cq lR n.h);clear P0 P1 P2 P3 G0 G1 G2 G3 I0 I1 I2 I3 inst;go_wp2_with fail;all_goals(go_ret;exact⟨.fk HY,HB9⟩)
       have aq:Ae (¬GJ (m.drop j) c):=U;(have HN:Ae (¬AW p f ⟨op,(i:Int),(j:Int),c⟩):= λe=>by have:=HIF.1 e;go_light;simp[BU,Cb]at this;exact U (aG.2 this.1));clear U;go_wp2_with fail;refine AD kR kR ?_;(repeat(go_big_quiet_step ((first|(go_at_call 184;rename_i n;exact(Eu ⟨sO gg o 3 cc,Z V B c2,Z W C c3,vt⟩ p T f.cu S (Z X G c4) op (i:Int) (j:Int) c n.u H.1 H.2.1.1 (H.2.2.2.2.1.av (Ar HJ.cq lR n.h) lR)).mono λe w'' h=>⟨h.1.true ai,⟨⟨w'',Ar n.h lR h.2⟩,rfl⟩⟩)|(go_at_call 185;rename_i n;have ae:=IF (K ⟨A,o2+j,M⟩) (cy-j) (m.drop j) c n.u (by rw[kZ];omega) (by rw[kZ];omega) (by have:=aH.av n.h lR;rw[kZ]at this⊢;exact this);rw[kZ]at ae;exact ae.mono λe w'' h=>⟨h.1.false aq,⟨⟨w'',Ar n.h lR h.2⟩,rfl⟩⟩)))));exact OM
     have ai:Ae (¬Df p op a b):=L;(have HN:Ae (¬AW p f ⟨op,a,b,c⟩):= λe=>by have:=HIF.1 e;have N:=z.1;have hh:=z.2;go_light;simp[BU,Cb]at this;exact L (hh.2 ⟨this.1.there,oM⟩));clear L;go_wp2_with fail;refine AD kR kR ?_;(repeat(go_big_quiet_step ((first|(go_at_call 184;rename_i n;exact(Eu ⟨vr,Z V B c2,Z W C c3,vt⟩ p T f.cu S (Z X G c4) op a b c n.u H.1 H.2.1.1 (H.2.2.2.2.1.av (Ar HJ.cq lR n.h) lR)).mono λe w'' h=>⟨h.1.false ai,⟨⟨w'',Ar n.h lR h.2⟩,rfl⟩⟩)))));exact OM
   by_cases F0:F=0
   . subst F0;exact Fq
   rcases(show F=5\/F=6\/F=7 from oM)with rfl|rfl|rfl
   . go_wp2_with fail;refine(F7 5 a _ oM).mono ?_;rintro e q ⟨⟨bm,rfl,hbm⟩,rfl⟩;cases bm
     . (have HT:Ae (¬Cb 5 a):= λe=>by simp[e]at hbm);exact Fp
     have HT:Ae (Cb 5 a):=hbm.1 rfl;exact Fp
   . go_wp2_with fail;refine(F7 6 a _ oM).mono ?_;rintro e q ⟨⟨bm,rfl,hbm⟩,rfl⟩;cases bm
     . (have HT:Ae (¬Cb 6 a):= λe=>by simp[e]at hbm);exact Fp
     have HT:Ae (Cb 6 a):=hbm.1 rfl;exact Fp
   go_wp2_with fail;refine(F7 7 a _ oM).mono ?_;rintro e q ⟨⟨bm,rfl,hbm⟩,rfl⟩;cases bm
   . (have HT:Ae (¬Cb 7 a):= λe=>by simp[e]at hbm);exact Fp
   have HT:Ae (Cb 7 a):=hbm.1 rfl;exact Fp
 have HN:Ae (¬AW p f ⟨op,a,b,c⟩):= λe=>q0 ⟨e.1,by have:=e.2.1;dsimp only at this;omega⟩
 have aj:decide (0<=op/\op<30)=false:=kj q0
 go_enter func159,ntmps159;go_wp2_with fail;refine(A8 op 30 _).mono ?_;rintro e u ⟨rfl,rfl⟩;rw[aj];go_wp2;go_ret;exact⟨.no HN,HI.cq⟩
end Go.Proofs.YtkgohaigebcgoaaGreatDoor
