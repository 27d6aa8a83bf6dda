import Derived.Test.YtmalfecapdmdbaaGreatHo18
namespace Go.Proofs.YtmalfecapdmdbaaGreat
open Go.ChangeShapes Go.WideShapes Go.ChangeAt Go.RowKit Go.Proofs.Tryz
set_option linter.unusedVariables false
open Go.Value renaming slice → Z,agg → Am
open Option renaming some → K,none → M
open Go renaming Value → J,World → Y,Calls → Ai
open Go.RowKit renaming Hid → Ae,Below → Ah
open Go.Obj renaming cells → Ak
open Go.Proofs.Tryz renaming prog → Ap
open Go.World renaming alloc → Ac
open List renaming flatMap → Ad
set_option maxHeartbeats 4000000
set_option maxRecDepth 100000
variable {w e:Y}{s:J}{rs:List (List Int)}{q:Prop}
def EP(w:Y)(s:J)(rs:List (List Int)):Prop:=∃xs:List (List Int×J),xs.map Prod.fst=rs/\Rd w 1 s rs (Ad BW xs)/\∀x∈xs,Rd w 1 x.2 x.1 (x.1.flatMap As)/\∃a c,x.2=Z a x.1 c/\ ↑x.1<=c
theorem EP.rd(h:EP w s rs):Gi w s rs:=by obtain⟨xs,a,b,c⟩:=h;exact⟨xs,a,b, λx d=>(c x d).1⟩
theorem EP.a7(h:EP w s rs){B:Nat}(c:Ah B w e)(b: ↑w<=B):EP e s rs:=by obtain⟨xs,f,g,a⟩:=h;exact⟨xs,f,g.a7 c b, λx d=>⟨(a x d).1.a7 c b,(a x d).2⟩⟩
theorem Rd.drop{g o n c c':Nat}{xs:List Int}(h:∀j u,(Ad As xs)[j]?=K u->w ⟨g,o+j,M⟩=K u)(b:Nat)(k:b< ↑xs):Rd w 1 (Z (K ⟨g,o+b,M⟩) (↑xs-b) c') (xs.drop b).length (Ad As (xs.drop b)):=by
 refine⟨by rw[AE As 1 AA],.inr ⟨g,o+b,c',by rw[mQ], λj u a=> ?_⟩⟩;have f:j<(xs.drop b).length:=by have:=(i6.1 a).1;rw[AE As 1 AA,lN]at this;exact this
 have d:=Jd As 1 AA (xs.drop b) j 0 _ (an f) oM;rw[lN,kJ]at d;rw[d]at a;have i:b+j<xs.length:=by rw[mQ]at f;omega
 have e:=Jd As 1 AA xs (b+j) 0 _ (an i) oM;rw[lN,kJ]at e;rw[Nat.add_assoc];refine h (b+j) u ?_;rw[e];rw[List.getElem_drop]at a;exact a
structure XF(w u:Y)(v:VP)(g:VF)(f:MF)(op a b c:Int):Prop where
 e8:Ah w w u
 scope:OK u w v.r v.k v.f v.t g.p f.gy g.l g.c
 ins:CX u ((w:Nat)+1) op a b c
theorem XF.a7{u:Y}{v:VP}{g:VF}{f:MF}{op a b c:Int}(h:XF w u v g f op a b c)(d:Ah u u e):XF w e v g f op a b c:=⟨Ar h.e8 lR d,h.scope.a7 d,h.ins.a7 d⟩
theorem XF.of(w:Y)(v:VP)(g:VF)(f:MF)(op a b c:Int):XF w (Ac (Ac w (Ak #[v.r,v.k,v.f,v.t,g.p,f.gy,g.l,g.c] 158)) (Ak #[op,a,b,c] 72)) v g f op a b c:=by refine⟨Ar (Aq _ _) lR (Aq _ _),(OK.new w _ _ _ _ _ _ _ _ _).alloc _,?_⟩;have:=CX.new (Ac w (Ak #[v.r,v.k,v.f,v.t,g.p,f.gy,g.l,g.c] 158)) op a b c 72;simpa using this
theorem Ff(h:q:=by clear hbm;go_wp2_with fail;all_goals(go_ret;refine⟨AJ.of ?_,HJ.o.e8⟩;rw[HIF.o];obtain⟨l1,l2,l3⟩:=HL.o;have lt:=HT.o;go_light;simp_all [BA,Bz]<;>omega)):q:=h
theorem Fg(h:q:=by go_wp2_with fail;all_goals(go_ret;refine⟨AJ.of ?_,HJ.o.e8⟩;rw[HIF.o];obtain⟨l1,l2,l3⟩:=HL.o;go_light;simp_all [BA,Bz]<;>omega)):q:=h
theorem H8(h:q:=by clear hbh;go_wp2_with fail;all_goals(go_ret;refine⟨AJ.of ?_,HK.o.e8⟩;rw[HIF.o];obtain⟨l1,l2,l3⟩:=HL.o;have lt:=HT.o;go_light;simp_all [BA,Bz]<;>omega)):q:=h
theorem ND(h:q:=by refine wpQuiet_nil ?_;rintro w'' ⟨n,rfl⟩;have HB9:=Av (Ar HJ.o.e8 lR n.h);clear P0 P1 P2 P3 G0 G1 G2 G3 I0 I1 I2 I3 inst;go_wp2_with fail;all_goals(go_ret;exact⟨.no HN.o,HB9.o⟩)):q:=h
theorem NE(h:q:=by go_wp2_with fail;all_goals(go_ret;refine⟨AJ.of ?_,HK.o.e8⟩;rw[HIF.o];obtain⟨l1,l2,l3⟩:=HL.o;have lt:=HT.o;have l4:=HQ.o;go_light;simp_all [BA,Bz]<;>omega)):q:=h
theorem NF(h:q:=by go_wp2_with fail;all_goals(go_ret;refine⟨AJ.of ?_,HJ.o.e8⟩;rw[HIF.o];obtain⟨l1,l2,l3⟩:=HL.o;have l4:=HQ.o;go_light;simp_all [BA,Bz]<;>omega)):q:=h
theorem Tf(v:VP)(p:MP)(g:VF)(f:MF)(op a b c:Int)(w:Y)(hs:p.small)(hp:AU p.bO)(aQ:CE f)(aq:f.small)(ha:Dg a)(hb:Dg b)(hc:Dg c)(h:Da w v p)(aM:EP w v.r p.bO)(hf:DE w g f):
 Ai Ap 98 #[Am #[v.r,v.k,v.f,v.t,g.p,f.gy,g.l,g.c],Am #[op,a,b,c]] w λe w'=>AJ e (AS p f ⟨op,a,b,c⟩)/\Ah w w w':=by
 have H:=Av (d5 hs (d5 hp (d5 aq (d5 aQ (d5 h (d5 hf aM))))));have HI:Ae _:=XF.of w v g f op a b c;obtain⟨vr,vk,vf,vt⟩:=v;obtain⟨T,S,gc⟩:=g;obtain⟨V,c2,ek⟩:∃a c,vk=Z a p.ej c:=h.ej.dk;obtain⟨W,c3,ef⟩:∃a c,vf=Z a p.bW c:=by obtain⟨xs,h1,h2,h3⟩:=h.bW;exact h2.dk
 obtain⟨X,c4,ec⟩:∃a k,gc=Z a f.eC k:=hf.2.2.dk;subst ek ef ec;have bq:=hs.ej;have br:=hs.bW;have bt:=aq.2.2;obtain⟨a0,a1⟩:=Gs ha;obtain⟨b0,b1⟩:=Gs hb;obtain⟨c0,c1⟩:=Gs hc;clear hs hp aQ aq ha hb hc h hf aM;by_cases q0:0<=op/\op<30
 . have HO:Ae (0<=op/\op<=29):=⟨oM,oM⟩
   have am:decide (0<=op/\op<30)=true:=decide_eq_true q0
   clear q0;go_enter func98,ntmps98;go_wp2_with fail;refine(Bc op 30 _).mono ?_;rintro e u ⟨rfl,rfl⟩;rw[am];go_wp2_with fail;refine(OQ op _).mono ?_;rintro e u ⟨rfl,bl⟩;have HJ:=Av (HI.o.a7 bl);clear HI bl am;obtain⟨s,co,aR⟩:=Iq op;rw[aR];clear aR;have HIF:Ae (AS p f ⟨op,a,b,c⟩↔BA p f (AV op) op a b c):=⟨λe=>e.2.2, λe=>⟨HO.o.1,HO.o.2,e⟩⟩;have hF:(0<=AV op/\AV op<=11)/\(AV op=3->op=4\/op=5)/\(AV op=4->op=6\/op=7):=by obtain⟨k,rfl⟩:=kX HO.o.1;have:=Lb k (by have:=HO.o.2;omega);exact⟨this.1, λe=>by have:=this.2.1 e;omega, λe=>by have:=this.2.2 e;omega⟩
   generalize b7:AV op=F at*;clear b7;obtain⟨⟨f0,f1⟩,aH⟩:=hF;have aE:=Av aH;clear aH;generalize aT:p.ej.length=A at*;generalize aU:p.bW.length=B at*;generalize aW:f.eC.length=E at*;have HL:=Av (d5 aT (d5 aU aW));clear aT aU aW;obtain⟨p0,p1,p2,p3,g0,g1,z,G⟩:=HJ.o.scope;obtain⟨N,O,P,Q⟩:=HJ.o.ins;simp only[]at p0 p1 p2 p3 g0 g1 z G;have bj:=Lq s co F;by_cases F1:F=1
   . subst F1;go_wp2_with fail;refine(Bc a (A:Int) _).mono ?_;rintro e m ⟨rfl,rfl⟩;by_cases C:0<=a/\a<(A:Int)
     . rw[decide_eq_true C];obtain⟨q2,q3⟩:=C;exact Fg
     rw[lZ C];(have bg:0<=a->(A:Int)<=a:= λe=>oM);clear C;exact Fg
   by_cases aY:F=11
   . subst aY;go_wp2_with fail;refine(Bc a (B:Int) _).mono ?_;rintro e m ⟨rfl,rfl⟩;by_cases C:0<=a/\a<(B:Int)
     . rw[decide_eq_true C];obtain⟨q2,q3⟩:=C;exact Fg
     rw[lZ C];(have bg:0<=a->(B:Int)<=a:= λe=>oM);clear C;exact Fg
   by_cases F9:F=9
   . subst F9;by_cases R:a=0
     . (have bi:(a==0)=true:=by simpa using R);by_cases d:b=0
       . (have aA:(b==0)=true:=by simpa using d);have HQ:Ae (a=0/\b=0):=⟨R,d⟩
         clear R d;go_wp2_with fail;refine(Bc c (E:Int) _).mono ?_;rintro e m ⟨rfl,rfl⟩;go_wp2_with fail;all_goals(go_ret;refine⟨AJ.of ?_,HJ.o.e8⟩;rw[HIF.o];obtain⟨l1,l2,l3⟩:=HL.o;obtain⟨l4,l5⟩:=HQ.o;go_light;simp_all [BA,Bz]<;>omega)
       (have aA:(b==0)=false:=by simpa using d);have HQ:=Av d;clear d R;exact NF
     (have bi:(a==0)=false:=by simpa using R);have HQ:=Av R;clear R;exact NF
   by_cases F8:F=8
   . subst F8;go_wp2_with fail;refine(DT a _).mono ?_;rintro e m ⟨rfl,rfl⟩;cases t1:Ec a
     . go_wp2_with fail;all_goals(go_ret;refine⟨AJ.of ?_,HJ.o.e8⟩;rw[HIF.o];obtain⟨l1,l2,l3⟩:=HL.o;go_light;simp_all [BA,Bz]<;>omega)
     go_wp2_with fail;refine(DT b _).mono ?_;rintro e m ⟨rfl,rfl⟩;(cases t2:Ec b);all_goals
      exact Fg
   by_cases F2:F=2
   . subst F2;go_wp2_with fail;refine(Gy vr (Z V A c2) (Z W B c3) vt ⟨T,S,Z X E c4⟩ f a _ H.2.2.1 (H.2.2.2.2.2.1.a7 HJ.e8 lR)).mono ?_;rintro e m ⟨⟨bh,rfl,hbh⟩,D⟩;have HK:=Av (HJ.a7 D);clear D;clear p0 p1 p2 p3 N O P Q g0 g1 z G;obtain⟨N,O,P,Q⟩:=HK.ins;rw[Je H.2.2.2.1]at hbh;cases bh
     . (have HT:Ae (AN f a=0):=lW λe=>absurd (hbh.2 e) mY);exact H8
     have HT:Ae (¬AN f a=0):=hbh.1 rfl;exact H8
   by_cases aX:F=10
   . subst aX;go_wp2_with fail;refine(Gy vr (Z V A c2) (Z W B c3) vt ⟨T,S,Z X E c4⟩ f a _ H.2.2.1 (H.2.2.2.2.2.1.a7 HJ.e8 lR)).mono ?_;rintro e m ⟨⟨bh,rfl,hbh⟩,D⟩;have HK:=Av (HJ.a7 D);clear D;clear p0 p1 p2 p3 N O P Q g0 g1 z G;obtain⟨N,O,P,Q⟩:=HK.ins;rw[Je H.2.2.2.1]at hbh;obtain⟨_,_,_,_,_,_,_,G⟩:=HK.scope;simp only[]at G;cases bh
     . (have HT:Ae (AN f a=0):=lW λe=>absurd (hbh.2 e) mY);exact H8
     have HT:Ae (¬AN f a=0):=hbh.1 rfl;clear hbh;by_cases d:b=0
     . (have aA:(b==0)=true:=by simpa using d);have HQ:=Av d;clear d;go_wp2_with fail;refine(Bc c (E:Int) _).mono ?_;rintro e u3 ⟨rfl,rfl⟩;exact NE
     (have aA:(b==0)=false:=by simpa using d);have HQ:=Av d;clear d;exact NE
   by_cases F3:F=3
   . subst F3;have L:=aE.1 rfl;have ae:=Im H.2.1 op a b oM;have q:=Av (d5 L ae);clear L ae;go_wp2_with fail;refine(Ea ⟨vr,Z V A c2,Z W B c3,vt⟩ p T f.gy S (Z X E c4) op a b c _ H.1 H.2.1.1 (H.2.2.2.2.1.a7 HJ.e8 lR)).mono ?_;rintro e m ⟨⟨bh,rfl,hbh⟩,D⟩;have HK:=Av (HJ.a7 D);clear D;clear p0 p1 p2 p3 N O P Q g0 g1 z G;obtain⟨N,O,P,Q⟩:=HK.ins;rw[q.2]at hbh;cases bh
     . have HN:Ae (¬AS p f ⟨op,a,b,c⟩):= λe=>by
        have:=HIF.1 e;have L:=q.1;go_light;simp[BA,Bz]at this;have h5:(op=4\/op=6)\/¬a=0:=oM
        simp[this.1,h5]at hbh
       clear hbh;go_wp2_with fail;all_goals(go_ret;exact⟨.no HN,HK.e8⟩)
     . have HT:Ae (¬BC p a b=0/\(op=4\/¬a=0)):=⟨(hbh.1 rfl).1,by have:=(hbh.1 rfl).2;have:=q.1;omega⟩
       exact H8
   by_cases F4:F=4
   . subst F4;have L:=aE.2 rfl;have ae:=Im H.2.1 op a b oM;have q:=Av (d5 L ae);clear L ae;have inst:=AB.some u;(have P0:= λn:AB u=>AB.cell p0 n);(have P1:= λn:AB u=>AB.cell p1 n);(have P2:= λn:AB u=>AB.cell p2 n);(have P3:= λn:AB u=>AB.cell p3 n);(have G0:= λn:AB u=>AB.cell g0 n);(have G1:= λn:AB u=>AB.cell g1 n);(have G2:= λn:AB u=>AB.cell z n);(have G3:= λn:AB u=>AB.cell G n);(have I0:= λn:AB u=>AB.cell N n);(have I1:= λn:AB u=>AB.cell O n);(have I2:= λn:AB u=>AB.cell P n);(have I3:= λn:AB u=>AB.cell Q n);by_cases I:CY p op a b
     . have aj:Ae (CY p op a b):=I;have aZ:Ae (¬BC p a b=0/\(op=6\/¬a=0)):=⟨(q.2.1 I).1,by have:=(q.2.1 I).2;have:=q.1;omega⟩
       obtain⟨l,z0,z1,z2,z3,_⟩:=I;obtain⟨i,rfl⟩:=kX z0;obtain⟨j,rfl⟩:=kX z2;rw[kA]at z1;have aS:j<l.length:=oM;have aF:=Av (Rv H.2.1 z1 aS c);obtain⟨xs,aw,au,aP⟩:=H.2.2.2.2.2.2;obtain⟨⟨l',y⟩,hx⟩:∃x,xs[i]?=K x:=⟨_,an (by have:=(i6.1 z1).1;rw[<-aw]at this;simpa using this)⟩;have e1:=Bo aw hx;simp only[]at e1;(obtain rfl:l'=l:=by rw[z1]at e1;exact(kH e1).symm);obtain⟨hy,ay,cy,ey,bf⟩:=aP _ (i7 hx);simp only[]at hy ey bf;subst ey;have bp:=H.1.region _ (i7 z1);(have bo:i<3:=by have:=(i6.1 z1).1;have:=H.2.1.1;omega);rw[H.2.1.1]at au;rcases au.2 with⟨e0,_⟩|⟨gg,o,cc,e2,aI⟩
       . omega
       subst e2;have k0:=Rd.elem A5 aI i _ hx 0 _ rfl;rw[lN,kJ]at k0;simp only[]at k0;rw[<-HJ.e8.cell (hC k0)]at k0;rcases hy.2 with⟨e0,_⟩|⟨z,o2,c5,e3,aJ⟩
       . omega
       simp only[i8,lB]at e3;obtain⟨rfl,rfl⟩:=e3;have aG:Ae (Rd u 1 (Z (K ⟨z,o2+j,M⟩) (↑l'-j) (cy-j)) (l'.drop j).length (Ad As (l'.drop j))):=(Rd.drop (n:=0) (c:=0) aJ j aS).a7 HJ.e8 lR
       clear aI aJ hx aP au aw hy e1;(have K0:= λn:AB u=>AB.cell k0 n);have y1:(j:Int)<=(l':Int):=oM;have y2:(l':Int)<=(cy:Int):=oM;have y3:(i:Int)<3:=oM;by_cases U:Gl (l'.drop j) c
       . have ao:Ae (Gl (l'.drop j) c):=U;have HY:=Av (HIF.2 (.inr (.inr (.inr (.inr (.inl ⟨rfl,aF.1 U,aZ.2⟩))))));clear U;go_wp2_with fail;refine AL kR kR ?_;(repeat(go_big_quiet_step ((first|(go_at_call 123;rename_i n;exact(Ea ⟨sO gg o 3 cc,Z V A c2,Z W B c3,vt⟩ p T f.gy S (Z X E c4) op (i:Int) (j:Int) c n.u H.1 H.2.1.1 (H.2.2.2.2.1.a7 (Ar HJ.e8 lR n.h) lR)).mono λe w'' h=>⟨h.1.true aj,⟨⟨w'',Ar n.h lR h.2⟩,rfl⟩⟩)|(go_at_call 124;rename_i n;have ah:=It (K ⟨z,o2+j,M⟩) (cy-j) (l'.drop j) c n.u (by rw[mQ];omega) (by rw[mQ];omega) (by have:=aG.a7 n.h lR;rw[mQ]at this⊢;exact this);rw[mQ]at ah;exact ah.mono λe w'' h=>⟨h.1.true ao,⟨⟨w'',Ar n.h lR h.2⟩,rfl⟩⟩)))));refine wpQuiet_nil ?_;rintro w'' ⟨n,rfl⟩;have HB9:=Av (Ar HJ.e8 lR n.h);clear P0 P1 P2 P3 G0 G1 G2 G3 I0 I1 I2 I3 inst;go_wp2_with fail;all_goals(go_ret;exact⟨.gY HY,HB9⟩)
       have ao:Ae (¬Gl (l'.drop j) c):=U;(have HN:Ae (¬AS p f ⟨op,(i:Int),(j:Int),c⟩):= λe=>by have:=HIF.1 e;go_light;simp[BA,Bz]at this;exact U (aF.2 this.1));clear U;go_wp2_with fail;refine AL kR kR ?_;(repeat(go_big_quiet_step ((first|(go_at_call 123;rename_i n;exact(Ea ⟨sO gg o 3 cc,Z V A c2,Z W B c3,vt⟩ p T f.gy S (Z X E c4) op (i:Int) (j:Int) c n.u H.1 H.2.1.1 (H.2.2.2.2.1.a7 (Ar HJ.e8 lR n.h) lR)).mono λe w'' h=>⟨h.1.true aj,⟨⟨w'',Ar n.h lR h.2⟩,rfl⟩⟩)|(go_at_call 124;rename_i n;have ah:=It (K ⟨z,o2+j,M⟩) (cy-j) (l'.drop j) c n.u (by rw[mQ];omega) (by rw[mQ];omega) (by have:=aG.a7 n.h lR;rw[mQ]at this⊢;exact this);rw[mQ]at ah;exact ah.mono λe w'' h=>⟨h.1.false ao,⟨⟨w'',Ar n.h lR h.2⟩,rfl⟩⟩)))));exact ND
     have aj:Ae (¬CY p op a b):=I;(have HN:Ae (¬AS p f ⟨op,a,b,c⟩):= λe=>by have:=HIF.1 e;have L:=q.1;have hh:=q.2;go_light;simp[BA,Bz]at this;exact I (hh.2 ⟨this.1.there,oM⟩));clear I;go_wp2_with fail;refine AL kR kR ?_;(repeat(go_big_quiet_step ((first|(go_at_call 123;rename_i n;exact(Ea ⟨vr,Z V A c2,Z W B c3,vt⟩ p T f.gy S (Z X E c4) op a b c n.u H.1 H.2.1.1 (H.2.2.2.2.1.a7 (Ar HJ.e8 lR n.h) lR)).mono λe w'' h=>⟨h.1.false aj,⟨⟨w'',Ar n.h lR h.2⟩,rfl⟩⟩)))));exact ND
   by_cases F0:F=0
   . subst F0;exact Fg
   rcases(show F=5\/F=6\/F=7 from oM)with rfl|rfl|rfl
   . go_wp2_with fail;refine(FQ 5 a _ oM).mono ?_;rintro e m ⟨⟨bm,rfl,hbm⟩,rfl⟩;cases bm
     . (have HT:Ae (¬Bz 5 a):= λe=>by simp[e]at hbm);exact Ff
     have HT:Ae (Bz 5 a):=hbm.1 rfl;exact Ff
   . go_wp2_with fail;refine(FQ 6 a _ oM).mono ?_;rintro e m ⟨⟨bm,rfl,hbm⟩,rfl⟩;cases bm
     . (have HT:Ae (¬Bz 6 a):= λe=>by simp[e]at hbm);exact Ff
     have HT:Ae (Bz 6 a):=hbm.1 rfl;exact Ff
   go_wp2_with fail;refine(FQ 7 a _ oM).mono ?_;rintro e m ⟨⟨bm,rfl,hbm⟩,rfl⟩;cases bm
   . (have HT:Ae (¬Bz 7 a):= λe=>by simp[e]at hbm);exact Ff
   have HT:Ae (Bz 7 a):=hbm.1 rfl;exact Ff
 have HN:Ae (¬AS p f ⟨op,a,b,c⟩):= λe=>q0 ⟨e.1,by have:=e.2.1;dsimp only at this;omega⟩
 have am:decide (0<=op/\op<30)=false:=lZ q0
 go_enter func98,ntmps98;go_wp2_with fail;refine(Bc op 30 _).mono ?_;rintro e u ⟨rfl,rfl⟩;rw[am];go_wp2;go_ret;exact⟨.no HN,HI.e8⟩
end Go.Proofs.YtmalfecapdmdbaaGreat
