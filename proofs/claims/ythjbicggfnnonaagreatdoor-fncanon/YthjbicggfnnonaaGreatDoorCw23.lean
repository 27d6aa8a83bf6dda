import Derived.Test.YthjbicggfnnonaaGreatDoorCw22
namespace Go.Proofs.YthjbicggfnnonaaGreatDoor
open Go.ChangeShapes Go.WideShapes Go.ChangeAt Go.RowKit
set_option linter.unusedVariables false
set_option maxHeartbeats 4000000
set_option maxRecDepth 100000
variable {w e:World}{s:Value}{rs:List (List Int)}
def Mw(w:World)(s:Value)(rs:List (List Int)):Prop:=∃xs:List (List Int×Value),xs.map Prod.fst=rs/\Rd w 1 s rs.length (xs.flatMap Bi)/\∀x∈xs,Rd w 1 x.2 x.1.length (x.1.flatMap Ad)/\∃a c,x.2=.slice a x.1.length c/\x.1.length<=c
theorem Mw.rd(h:Mw w s rs):OR w s rs:=by obtain⟨xs,h1,h2,a⟩:=h;exact⟨xs,h1,h2,fun x b=>(a x b).1⟩
theorem Mw.aa(h:Mw w s rs){B:Nat}(c:Below B w e)(b:w.heap.size<=B):Mw e s rs:=by obtain⟨xs,h1,h2,a⟩:=h;exact⟨xs,h1,h2.aa c b,fun x d=>⟨(a x d).1.aa c b,(a x d).2⟩⟩
theorem Rd.drop{g o n c c':Nat}{xs:List Int}(h:∀j u,(xs.flatMap Ad)[j]?=some u->w.cell? ⟨g,o+j,none⟩=some u)(b:Nat)(k:b<xs.length):Rd w 1 (.slice (some ⟨g,o+b,none⟩) (xs.length-b) c') (xs.drop b).length ((xs.drop b).flatMap Ad):=by
 refine⟨by rw[Av Ad 1 Ar],.inr ⟨g,o+b,c',by rw[lN],fun j u a=> ?_⟩⟩;have f:j<(xs.drop b).length:=by have:=(d7.1 a).1;rw[Av Ad 1 Ar,kn]at this;exact this
 have d:=CQ Ad 1 Ar (xs.drop b) j 0 _ (an f) oM;rw[kn,kD]at d;rw[d]at a;have i:b+j<xs.length:=by rw[lN]at f;omega
 have e:=CQ Ad 1 Ar xs (b+j) 0 _ (an i) oM;rw[kn,kD]at e;rw[Nat.add_assoc];refine h (b+j) u ?_;rw[e];rw[List.getElem_drop]at a;exact a
structure Vt(w u:World)(v:VP)(g:VF)(f:MF)(op a b c:Int):Prop where
 aC:Below w.heap.size w u
 scope:Nd u w.heap.size v.r v.k v.f v.t g.p (iZ f.result) g.l g.c
 ins:Ep u (w.heap.size+1) (iZ op) (iZ a) (iZ b) (iZ c)
theorem Vt.aa{u:World}{v:VP}{g:VF}{f:MF}{op a b c:Int}(h:Vt w u v g f op a b c)(d:Below u.heap.size u e):Vt w e v g f op a b c:=⟨Ac h.aC lR d,h.scope.aa d,h.ins.aa d⟩
theorem Vt.of(w:World)(v:VP)(g:VF)(f:MF)(op a b c:Int):Vt w ((w.alloc (.cells #[v.r,v.k,v.f,v.t,g.p,iZ f.result,g.l,g.c] 143)).alloc (.cells #[iZ op,iZ a,iZ b,iZ c] 96)) v g f op a b c:=by refine⟨Ac (Aa _ _) lR (Aa _ _),(Nd.new w _ _ _ _ _ _ _ _ _).alloc _,?_⟩;have:=Ep.new (w.alloc (.cells #[v.r,v.k,v.f,v.t,g.p,iZ f.result,g.l,g.c] 143)) (iZ op) (iZ a) (iZ b) (iZ c) 96;simpa using this
theorem QV(v:VP)(p:MP)(g:VF)(f:MF)(op a b c:Int)(w:World)(hs:p.small)(hp:AD p.aB)(aM:Dh f)(aq:f.small)(ha:Cr a)(hb:Cr b)(hc:Cr c)(h:Ft w v p)(aJ:Mw w v.r p.aB)(hf:IG w g f):
 Calls Tryz.prog 79 #[.agg #[v.r,v.k,v.f,v.t,g.p,iZ f.result,g.l,g.c],.agg #[iZ op,iZ a,iZ b,iZ c]] w fun e w'=>Au e (A8 p f ⟨op,a,b,c⟩)/\Below w.heap.size w w':=by
 have H:=Ag (f7 hs (f7 hp (f7 aq (f7 aM (f7 h (f7 hf aJ))))));have HI:Hid _:=Vt.of w v g f op a b c;obtain⟨vr,vk,vf,vt⟩:=v;obtain⟨gp,gl,gc⟩:=g;obtain⟨r2,c2,ek⟩:∃a c,vk=.slice a p.ag.length c:=h.ag.bW;obtain⟨r3,c3,ef⟩:∃a c,vf=.slice a p.funcs.length c:=by obtain⟨xs,h1,h2,h3⟩:=h.funcs;exact h2.bW
 obtain⟨r4,c4,ec⟩:∃a k,gc=.slice a f.code.length k:=hf.2.2.bW;subst ek ef ec;have bx:=hs.ag;have bz:=hs.funcs;have bB:=aq.2.2;obtain⟨a0,a1⟩:=Gy ha;obtain⟨b0,b1⟩:=Gy hb;obtain⟨c0,c1⟩:=Gy hc;clear hs hp aM aq ha hb hc h hf aJ;by_cases q0:0<=op/\op<30
 . have HO:Hid (0<=op/\op<=29):=⟨oM,oM⟩
   have am:decide (0<=op/\op<30)=true:=decide_eq_true q0
   clear q0;go_enter Tryz.func79,Tryz.ntmps79;go_wp2_with fail;refine(AY op 30 _).mono ?_;rintro e u ⟨rfl,rfl⟩;rw[am];go_wp2_with fail;refine(Rp op _).mono ?_;rintro e u ⟨rfl,bl⟩;have d:=Ag (HI.o.aa bl);clear HI bl am;obtain⟨s,co,aN⟩:=Ix op;rw[aN];clear aN;have m:Hid (A8 p f ⟨op,a,b,c⟩↔A4 p f (AW op) op a b c):=⟨fun e=>e.2.2,fun e=>⟨HO.o.1,HO.o.2,e⟩⟩;have hF:(0<=AW op/\AW op<=11)/\(AW op=3->op=4\/op=5)/\(AW op=4->op=6\/op=7):=by obtain⟨k,rfl⟩:=i7 HO.o.1;have:=KJ k (by have:=HO.o.2;omega);exact⟨this.1,fun e=>by have:=this.2.1 e;omega,fun e=>by have:=this.2.2 e;omega⟩
   generalize aX:AW op=F at*;clear aX;obtain⟨⟨f0,f1⟩,aG⟩:=hF;have aD:=Ag aG;clear aG;generalize aQ:p.ag.length=O at*;generalize aR:p.funcs.length=P at*;generalize aS:f.code.length=S at*;have q:=Ag (f7 aQ (f7 aR aS));clear aQ aR aS;obtain⟨p0,p1,p2,p3,g0,g1,N,U⟩:=d.o.scope;obtain⟨X,Y,Z,i3⟩:=d.o.ins;simp only[]at p0 p1 p2 p3 g0 g1 N U;have bt:=KP s co F;by_cases F1:F=1
   . subst F1;go_wp2_with fail;refine(AY a (O:Int) _).mono ?_;rintro e K ⟨rfl,rfl⟩;by_cases Q:0<=a/\a<(O:Int)
     . rw[decide_eq_true Q];obtain⟨q2,q3⟩:=Q;go_wp2_with fail;all_goals(go_ret;refine⟨Au.of ?_,d.o.aC⟩;rw[m.o];obtain⟨A,B,C⟩:=q.o;go_light;simp_all [A4,Bb]<;>omega)
     rw[ld Q];(have aZ:0<=a->(O:Int)<=a:=fun e=>oM);clear Q;go_wp2_with fail;all_goals(go_ret;refine⟨Au.of ?_,d.o.aC⟩;rw[m.o];obtain⟨A,B,C⟩:=q.o;go_light;simp_all [A4,Bb]<;>omega)
   by_cases aU:F=11
   . subst aU;go_wp2_with fail;refine(AY a (P:Int) _).mono ?_;rintro e K ⟨rfl,rfl⟩;by_cases Q:0<=a/\a<(P:Int)
     . rw[decide_eq_true Q];obtain⟨q2,q3⟩:=Q;go_wp2_with fail;all_goals(go_ret;refine⟨Au.of ?_,d.o.aC⟩;rw[m.o];obtain⟨A,B,C⟩:=q.o;go_light;simp_all [A4,Bb]<;>omega)
     rw[ld Q];(have aZ:0<=a->(P:Int)<=a:=fun e=>oM);clear Q;go_wp2_with fail;all_goals(go_ret;refine⟨Au.of ?_,d.o.aC⟩;rw[m.o];obtain⟨A,B,C⟩:=q.o;go_light;simp_all [A4,Bb]<;>omega)
   by_cases F9:F=9
   . subst F9;by_cases qa:a=0
     . (have bp:(a==0)=true:=by simpa using qa);by_cases I:b=0
       . (have aA:(b==0)=true:=by simpa using I);have M:Hid (a=0/\b=0):=⟨qa,I⟩
         clear qa I;go_wp2_with fail;refine(AY c (S:Int) _).mono ?_;rintro e K ⟨rfl,rfl⟩;go_wp2_with fail;all_goals(go_ret;refine⟨Au.of ?_,d.o.aC⟩;rw[m.o];obtain⟨A,B,C⟩:=q.o;obtain⟨l4,l5⟩:=M.o;go_light;simp_all [A4,Bb]<;>omega)
       (have aA:(b==0)=false:=by simpa using I);have M:=Ag I;clear I qa;go_wp2_with fail;all_goals(go_ret;refine⟨Au.of ?_,d.o.aC⟩;rw[m.o];obtain⟨A,B,C⟩:=q.o;have l4:=M.o;go_light;simp_all [A4,Bb]<;>omega)
     (have bp:(a==0)=false:=by simpa using qa);have M:=Ag qa;clear qa;go_wp2_with fail;all_goals(go_ret;refine⟨Au.of ?_,d.o.aC⟩;rw[m.o];obtain⟨A,B,C⟩:=q.o;have l4:=M.o;go_light;simp_all [A4,Bb]<;>omega)
   by_cases F8:F=8
   . subst F8;go_wp2_with fail;refine(Ex a _).mono ?_;rintro e K ⟨rfl,rfl⟩;cases t1:Fk a
     . go_wp2_with fail;all_goals(go_ret;refine⟨Au.of ?_,d.o.aC⟩;rw[m.o];obtain⟨A,B,C⟩:=q.o;go_light;simp_all [A4,Bb]<;>omega)
     go_wp2_with fail;refine(Ex b _).mono ?_;rintro e K ⟨rfl,rfl⟩;(cases t2:Fk b);all_goals
      go_wp2_with fail;all_goals(go_ret;refine⟨Au.of ?_,d.o.aC⟩;rw[m.o];obtain⟨A,B,C⟩:=q.o;go_light;simp_all [A4,Bb]<;>omega)
   by_cases F2:F=2
   . subst F2;go_wp2_with fail;refine(GH vr (.slice r2 O c2) (.slice r3 P c3) vt ⟨gp,gl,.slice r4 S c4⟩ f a _ H.o.2.2.1 (H.o.2.2.2.2.2.1.aa d.o.aC lR)).mono ?_;rintro e K ⟨⟨bh,rfl,D⟩,R⟩;have G:=Ag (d.o.aa R);clear R;clear p0 p1 p2 p3 X Y Z i3 g0 g1 N U;obtain⟨X,Y,Z,i3⟩:=G.o.ins;rw[Jb H.o.2.2.2.1]at D;cases bh
     . (have z:Hid (AR f a=0):=mZ fun e=>absurd (D.2 e) mS);clear D;go_wp2_with fail;all_goals(go_ret;refine⟨Au.of ?_,G.o.aC⟩;rw[m.o];obtain⟨A,B,C⟩:=q.o;have lt:=z.o;go_light;simp_all [A4,Bb]<;>omega)
     have z:Hid (¬AR f a=0):=D.1 rfl;clear D;go_wp2_with fail;all_goals(go_ret;refine⟨Au.of ?_,G.o.aC⟩;rw[m.o];obtain⟨A,B,C⟩:=q.o;have lt:=z.o;go_light;simp_all [A4,Bb]<;>omega)
   by_cases aT:F=10
   . subst aT;go_wp2_with fail;refine(GH vr (.slice r2 O c2) (.slice r3 P c3) vt ⟨gp,gl,.slice r4 S c4⟩ f a _ H.o.2.2.1 (H.o.2.2.2.2.2.1.aa d.o.aC lR)).mono ?_;rintro e K ⟨⟨bh,rfl,D⟩,R⟩;have G:=Ag (d.o.aa R);clear R;clear p0 p1 p2 p3 X Y Z i3 g0 g1 N U;obtain⟨X,Y,Z,i3⟩:=G.o.ins;rw[Jb H.o.2.2.2.1]at D;obtain⟨_,_,_,_,_,_,_,U⟩:=G.o.scope;simp only[]at U;cases bh
     . (have z:Hid (AR f a=0):=mZ fun e=>absurd (D.2 e) mS);clear D;go_wp2_with fail;all_goals(go_ret;refine⟨Au.of ?_,G.o.aC⟩;rw[m.o];obtain⟨A,B,C⟩:=q.o;have lt:=z.o;go_light;simp_all [A4,Bb]<;>omega)
     have z:Hid (¬AR f a=0):=D.1 rfl;clear D;by_cases I:b=0
     . (have aA:(b==0)=true:=by simpa using I);have M:=Ag I;clear I;go_wp2_with fail;refine(AY c (S:Int) _).mono ?_;rintro e u3 ⟨rfl,rfl⟩;go_wp2_with fail;all_goals(go_ret;refine⟨Au.of ?_,G.o.aC⟩;rw[m.o];obtain⟨A,B,C⟩:=q.o;have lt:=z.o;have l4:=M.o;go_light;simp_all [A4,Bb]<;>omega)
     (have aA:(b==0)=false:=by simpa using I);have M:=Ag I;clear I;go_wp2_with fail;all_goals(go_ret;refine⟨Au.of ?_,G.o.aC⟩;rw[m.o];obtain⟨A,B,C⟩:=q.o;have lt:=z.o;have l4:=M.o;go_light;simp_all [A4,Bb]<;>omega)
   by_cases F3:F=3
   . subst F3;have W:=aD.o.1 rfl;have ae:=Iu H.o.2.1 op a b oM;have L:=Ag (f7 W ae);clear W ae;go_wp2_with fail;refine(EO ⟨vr,.slice r2 O c2,.slice r3 P c3,vt⟩ p gp (iZ f.result) gl (.slice r4 S c4) op a b c _ H.o.1 H.o.2.1.1 (H.o.2.2.2.2.1.aa d.o.aC lR)).mono ?_;rintro e K ⟨⟨bh,rfl,D⟩,R⟩;have G:=Ag (d.o.aa R);clear R;clear p0 p1 p2 p3 X Y Z i3 g0 g1 N U;obtain⟨X,Y,Z,i3⟩:=G.o.ins;rw[L.o.2]at D;cases bh
     . have T:Hid (¬A8 p f ⟨op,a,b,c⟩):=fun e=>by
        have:=m.o.1 e;have W:=L.o.1;go_light;simp[A4,Bb]at this;have h5:(op=4\/op=6)\/¬a=0:=oM
        simp[this.1,h5]at D
       clear D;go_wp2_with fail;all_goals(go_ret;exact⟨.no T.o,G.o.aC⟩)
     . have z:Hid (¬Ch p a b=0/\(op=4\/¬a=0)):=⟨(D.1 rfl).1,by have:=(D.1 rfl).2;have:=L.o.1;omega⟩
       clear D;go_wp2_with fail;all_goals(go_ret;refine⟨Au.of ?_,G.o.aC⟩;rw[m.o];obtain⟨A,B,C⟩:=q.o;have lt:=z.o;go_light;simp_all [A4,Bb]<;>omega)
   by_cases F4:F=4
   . subst F4;have W:=aD.o.2 rfl;have ae:=Iu H.o.2.1 op a b oM;have L:=Ag (f7 W ae);clear W ae;have inst:=At.some u;(have P0:=fun n:At u=>At.cell p0 n);(have P1:=fun n:At u=>At.cell p1 n);(have P2:=fun n:At u=>At.cell p2 n);(have P3:=fun n:At u=>At.cell p3 n);(have G0:=fun n:At u=>At.cell g0 n);(have G1:=fun n:At u=>At.cell g1 n);(have G2:=fun n:At u=>At.cell N n);(have G3:=fun n:At u=>At.cell U n);(have I0:=fun n:At u=>At.cell X n);(have I1:=fun n:At u=>At.cell Y n);(have I2:=fun n:At u=>At.cell Z n);(have I3:=fun n:At u=>At.cell i3 n);by_cases V:Dv p op a b
     . have aj:Hid (Dv p op a b):=V;have aW:Hid (¬Ch p a b=0/\(op=6\/¬a=0)):=⟨(L.o.2.1 V).1,by have:=(L.o.2.1 V).2;have:=L.o.1;omega⟩
       obtain⟨l,z0,z1,z2,z3,_⟩:=V;obtain⟨i,rfl⟩:=i7 z0;obtain⟨j,rfl⟩:=i7 z2;rw[kJ]at z1;have aP:j<l.length:=oM;have aE:=Ag (Pv H.o.2.1 z1 aP c);obtain⟨xs,aw,au,aL⟩:=H.o.2.2.2.2.2.2;obtain⟨⟨l',y⟩,hx⟩:∃x,xs[i]?=some x:=⟨_,an (by have:=(d7.1 z1).1;rw[<-aw]at this;simpa using this)⟩;have e1:=CK aw hx;simp only[]at e1;(obtain rfl:l'=l:=by rw[z1]at e1;exact(kH e1).symm);obtain⟨hy,ay,cy,ey,aY⟩:=aL _ (d9 hx);simp only[]at hy ey aY;subst ey;have bw:=H.o.1.region _ (d9 z1);(have bu:i<3:=by have:=(d7.1 z1).1;have:=H.o.2.1.1;omega);rw[H.o.2.1.1]at au;rcases au.2 with⟨e0,_⟩|⟨gg,o,cc,e2,aH⟩
       . omega
       subst e2;have k0:=Rd.elem Bc aH i _ hx 0 _ rfl;rw[kn,kD]at k0;simp only[]at k0;rw[<-d.o.aC.cell (d5 k0)]at k0;rcases hy.2 with⟨e0,_⟩|⟨N,o2,c5,e3,aI⟩
       . omega
       simp only[ip,kU]at e3;obtain⟨rfl,rfl⟩:=e3;have aF:Hid (Rd u 1 (.slice (some ⟨N,o2+j,none⟩) (l'.length-j) (cy-j)) (l'.drop j).length ((l'.drop j).flatMap Ad)):=(Rd.drop (n:=0) (c:=0) aI j aP).aa d.o.aC lR;clear aH aI hx aL au aw hy e1;(have K0:=fun n:At u=>At.cell k0 n);have y1:(j:Int)<=(l'.length:Int):=oM;have y2:(l'.length:Int)<=(cy:Int):=oM;have y3:(i:Int)<3:=oM;by_cases a6:Gu (l'.drop j) c
       . have ao:Hid (Gu (l'.drop j) c):=a6;have HY:=Ag (m.o.2 (.inr (.inr (.inr (.inr (.inl ⟨rfl,aE.o.1 a6,aW.o.2⟩))))));clear a6;go_wp2_with fail;refine AF kR kR ?_;(repeat(go_big_quiet_step ((first|(go_at_call 108;rename_i n;exact(EO ⟨sO gg o 3 cc,.slice r2 O c2,.slice r3 P c3,vt⟩ p gp (iZ f.result) gl (.slice r4 S c4) op (i:Int) (j:Int) c n.u H.o.1 H.o.2.1.1 (H.o.2.2.2.2.1.aa (Ac d.o.aC lR n.h) lR)).mono fun e J h=>⟨h.1.true aj.o,⟨⟨J,Ac n.h lR h.2⟩,rfl⟩⟩)|(go_at_call 109;rename_i n;have ah:=IC (some ⟨N,o2+j,none⟩) (cy-j) (l'.drop j) c n.u (by rw[lN];omega) (by rw[lN];omega) (by have:=aF.o.aa n.h lR;rw[lN]at this⊢;exact this);rw[lN]at ah;exact ah.mono fun e J h=>⟨h.1.true ao.o,⟨⟨J,Ac n.h lR h.2⟩,rfl⟩⟩)))));refine wpQuiet_nil ?_;rintro J ⟨n,rfl⟩;have a8:=Ag (Ac d.o.aC lR n.h);clear P0 P1 P2 P3 G0 G1 G2 G3 I0 I1 I2 I3 inst;go_wp2_with fail;all_goals(go_ret;exact⟨.hQ HY.o,a8.o⟩)
       have ao:Hid (¬Gu (l'.drop j) c):=a6;(have T:Hid (¬A8 p f ⟨op,(i:Int),(j:Int),c⟩):=fun e=>by have:=m.o.1 e;go_light;simp[A4,Bb]at this;exact a6 (aE.o.2 this.1));clear a6;go_wp2_with fail;refine AF kR kR ?_;(repeat(go_big_quiet_step ((first|(go_at_call 108;rename_i n;exact(EO ⟨sO gg o 3 cc,.slice r2 O c2,.slice r3 P c3,vt⟩ p gp (iZ f.result) gl (.slice r4 S c4) op (i:Int) (j:Int) c n.u H.o.1 H.o.2.1.1 (H.o.2.2.2.2.1.aa (Ac d.o.aC lR n.h) lR)).mono fun e J h=>⟨h.1.true aj.o,⟨⟨J,Ac n.h lR h.2⟩,rfl⟩⟩)|(go_at_call 109;rename_i n;have ah:=IC (some ⟨N,o2+j,none⟩) (cy-j) (l'.drop j) c n.u (by rw[lN];omega) (by rw[lN];omega) (by have:=aF.o.aa n.h lR;rw[lN]at this⊢;exact this);rw[lN]at ah;exact ah.mono fun e J h=>⟨h.1.false ao.o,⟨⟨J,Ac n.h lR h.2⟩,rfl⟩⟩)))));refine wpQuiet_nil ?_;rintro J ⟨n,rfl⟩;have a8:=Ag (Ac d.o.aC lR n.h);clear P0 P1 P2 P3 G0 G1 G2 G3 I0 I1 I2 I3 inst;go_wp2_with fail;all_goals(go_ret;exact⟨.no T.o,a8.o⟩)
     have aj:Hid (¬Dv p op a b):=V;(have T:Hid (¬A8 p f ⟨op,a,b,c⟩):=fun e=>by have:=m.o.1 e;have W:=L.o.1;have hh:=L.o.2;go_light;simp[A4,Bb]at this;exact V (hh.2 ⟨this.1.there,oM⟩));clear V;go_wp2_with fail;refine AF kR kR ?_;(repeat(go_big_quiet_step ((first|(go_at_call 108;rename_i n;exact(EO ⟨vr,.slice r2 O c2,.slice r3 P c3,vt⟩ p gp (iZ f.result) gl (.slice r4 S c4) op a b c n.u H.o.1 H.o.2.1.1 (H.o.2.2.2.2.1.aa (Ac d.o.aC lR n.h) lR)).mono fun e J h=>⟨h.1.false aj.o,⟨⟨J,Ac n.h lR h.2⟩,rfl⟩⟩)))));refine wpQuiet_nil ?_;rintro J ⟨n,rfl⟩;have a8:=Ag (Ac d.o.aC lR n.h);clear P0 P1 P2 P3 G0 G1 G2 G3 I0 I1 I2 I3 inst;go_wp2_with fail;all_goals(go_ret;exact⟨.no T.o,a8.o⟩)
   by_cases F0:F=0
   . subst F0;go_wp2_with fail;all_goals(go_ret;refine⟨Au.of ?_,d.o.aC⟩;rw[m.o];obtain⟨A,B,C⟩:=q.o;go_light;simp_all [A4,Bb]<;>omega)
   rcases(show F=5\/F=6\/F=7 from oM)with rfl|rfl|rfl
   . go_wp2_with fail;refine(FX 5 a _ oM).mono ?_;rintro e K ⟨⟨bm,rfl,E⟩,rfl⟩;cases bm
     . (have z:Hid (¬Bb 5 a):=fun e=>by simp[e]at E);clear E;go_wp2_with fail;all_goals(go_ret;refine⟨Au.of ?_,d.o.aC⟩;rw[m.o];obtain⟨A,B,C⟩:=q.o;have lt:=z.o;go_light;simp_all [A4,Bb]<;>omega)
     have z:Hid (Bb 5 a):=E.1 rfl;clear E;go_wp2_with fail;all_goals(go_ret;refine⟨Au.of ?_,d.o.aC⟩;rw[m.o];obtain⟨A,B,C⟩:=q.o;have lt:=z.o;go_light;simp_all [A4,Bb]<;>omega)
   . go_wp2_with fail;refine(FX 6 a _ oM).mono ?_;rintro e K ⟨⟨bm,rfl,E⟩,rfl⟩;cases bm
     . (have z:Hid (¬Bb 6 a):=fun e=>by simp[e]at E);clear E;go_wp2_with fail;all_goals(go_ret;refine⟨Au.of ?_,d.o.aC⟩;rw[m.o];obtain⟨A,B,C⟩:=q.o;have lt:=z.o;go_light;simp_all [A4,Bb]<;>omega)
     have z:Hid (Bb 6 a):=E.1 rfl;clear E;go_wp2_with fail;all_goals(go_ret;refine⟨Au.of ?_,d.o.aC⟩;rw[m.o];obtain⟨A,B,C⟩:=q.o;have lt:=z.o;go_light;simp_all [A4,Bb]<;>omega)
   go_wp2_with fail;refine(FX 7 a _ oM).mono ?_;rintro e K ⟨⟨bm,rfl,E⟩,rfl⟩;cases bm
   . (have z:Hid (¬Bb 7 a):=fun e=>by simp[e]at E);clear E;go_wp2_with fail;all_goals(go_ret;refine⟨Au.of ?_,d.o.aC⟩;rw[m.o];obtain⟨A,B,C⟩:=q.o;have lt:=z.o;go_light;simp_all [A4,Bb]<;>omega)
   have z:Hid (Bb 7 a):=E.1 rfl;clear E;go_wp2_with fail;all_goals(go_ret;refine⟨Au.of ?_,d.o.aC⟩;rw[m.o];obtain⟨A,B,C⟩:=q.o;have lt:=z.o;go_light;simp_all [A4,Bb]<;>omega)
 have T:Hid (¬A8 p f ⟨op,a,b,c⟩):=fun e=>q0 ⟨e.1,by have:=e.2.1;dsimp only at this;omega⟩
 have am:decide (0<=op/\op<30)=false:=ld q0
 go_enter Tryz.func79,Tryz.ntmps79;go_wp2_with fail;refine(AY op 30 _).mono ?_;rintro e u ⟨rfl,rfl⟩;rw[am];go_wp2;go_ret;exact⟨.no T.o,HI.o.aC⟩
end Go.Proofs.YthjbicggfnnonaaGreatDoor
