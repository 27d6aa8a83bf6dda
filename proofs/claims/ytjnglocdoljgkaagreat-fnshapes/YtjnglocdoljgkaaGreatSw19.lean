import Derived.Test.YtjnglocdoljgkaaGreatSw18
namespace Go.Proofs.YtjnglocdoljgkaaGreat
open Go.ChangeShapes Go.WideShapes Go.ChangeAt Go.RowKit
set_option linter.unusedVariables false
open Go.Value renaming slice → Z,int → Ac
open Option renaming some → K,none → M
open Go renaming Value → J,World → Y,Calls → Ae
open Go.RowKit renaming Hid → Aa,Below → Ad
set_option maxHeartbeats 4000000
set_option maxRecDepth 100000
variable {w u:Y}{s:J}{rs:List (List Int)}{v:VP}{b p:Int}{q:Prop}{D:List AB}
def Dm(w:Y)(s:J)(rs:List (List Int)):Prop:=∃xs:List (List Int×J),xs.map Prod.fst=rs/\Rd w 1 s rs (xs.flatMap AZ)/\∀x∈xs,Rd w 1 x.2 x.1 (x.1.flatMap Ah)/\∃a c,x.2=Z a x.1 c/\ ↑x.1<=c
theorem Dm.rd(h:Dm w s rs):NM w s rs:=by obtain⟨xs,h1,h2,a⟩:=h;exact⟨xs,h1,h2, λx b=>(a x b).1⟩
theorem Dm.bM{g:Y}(h:Dm w s rs){B:Nat}(e:Ad B w g)(b: ↑w<=B):Dm g s rs:=by obtain⟨xs,h1,h2,a⟩:=h;exact⟨xs,h1,h2.bM e b, λx f=>⟨(a x f).1.bM e b,(a x f).2⟩⟩
theorem Rd.drop{g o n c c':Nat}{xs:List Int}(h:∀j u,(xs.flatMap Ah)[j]?=K u->w.cell? ⟨g,o+j,M⟩=K u)(b:Nat)(l:b< ↑xs):Rd w 1 (Z (K ⟨g,o+b,M⟩) (↑xs-b) c') (xs.drop b).length ((xs.drop b).flatMap Ah):=by
 refine⟨by rw[Au Ah 1 Ao],.inr ⟨g,o+b,c',by rw[mO], λj u a=> ?_⟩⟩;have i:j<(xs.drop b).length:=by have:=(iV.1 a).1;rw[Au Ah 1 Ao,lr]at this;exact this
 have e:=Cr Ah 1 Ao (xs.drop b) j 0 _ (an i) oM;rw[lr,kZ]at e;rw[e]at a;have k:b+j<xs.length:=by rw[mO]at i;omega
 have f:=Cr Ah 1 Ao xs (b+j) 0 _ (an k) oM;rw[lr,kZ]at f;rw[Nat.add_assoc];refine h (b+j) u ?_;rw[f];rw[List.getElem_drop]at a;exact a
structure Xg(w u:Y)(v:VP)(g:VF)(f:MF)(op a b c:Int):Prop where
 gG:Ad w w u
 scope:NO u w v.r v.k v.f v.t g.p (iZ f.gz) g.l g.c
 ins:DU u ((w:Nat)+1) (iZ op) (iZ a) (iZ b) (iZ c)
theorem Xg.bM{i:Y}{g:VF}{f:MF}{op a c:Int}(h:Xg w u v g f op a b c)(e:Ad u u i):Xg w i v g f op a b c:=⟨Ai h.gG lR e,h.scope.bM e,h.ins.bM e⟩
theorem Xg.of(w:Y)(v:VP)(g:VF)(f:MF)(op a b c:Int):Xg w ((w.alloc (.cells #[v.r,v.k,v.f,v.t,g.p,iZ f.gz,g.l,g.c] 53)).alloc (.cells #[iZ op,iZ a,iZ b,iZ c] 60)) v g f op a b c:=by refine⟨Ai (Ag _ _) lR (Ag _ _),(NO.new w _ _ _ _ _ _ _ _ _).alloc _,?_⟩;have:=DU.new (w.alloc (.cells #[v.r,v.k,v.f,v.t,g.p,iZ f.gz,g.l,g.c] 53)) (iZ op) (iZ a) (iZ b) (iZ c) 60;simpa using this
theorem EY(h:q:=by clear hbm;go_wp2_with fail;all_goals(go_ret;refine⟨AC.of ?_,HJ.o.gG⟩;rw[HIF.o];obtain⟨l1,l2,l3⟩:=HL.o;have lt:=HT.o;go_light;simp_all [BQ,BM]<;>omega)):q:=h
theorem Fa(h:q:=by go_wp2_with fail;all_goals(go_ret;refine⟨AC.of ?_,HJ.o.gG⟩;rw[HIF.o];obtain⟨l1,l2,l3⟩:=HL.o;go_light;simp_all [BQ,BM]<;>omega)):q:=h
theorem Hy(h:q:=by clear hbh;go_wp2_with fail;all_goals(go_ret;refine⟨AC.of ?_,HK.o.gG⟩;rw[HIF.o];obtain⟨l1,l2,l3⟩:=HL.o;have lt:=HT.o;go_light;simp_all [BQ,BM]<;>omega)):q:=h
theorem MY(h:q:=by refine wpQuiet_nil ?_;rintro w'' ⟨n,rfl⟩;have HB9:=Ap (Ai HJ.o.gG lR n.h);clear P0 P1 P2 P3 G0 G1 G2 G3 I0 I1 I2 I3 inst;go_wp2_with fail;all_goals(go_ret;exact⟨.no HN.o,HB9.o⟩)):q:=h
theorem MZ(h:q:=by go_wp2_with fail;all_goals(go_ret;refine⟨AC.of ?_,HK.o.gG⟩;rw[HIF.o];obtain⟨l1,l2,l3⟩:=HL.o;have lt:=HT.o;have l4:=HQ.o;go_light;simp_all [BQ,BM]<;>omega)):q:=h
theorem M0(h:q:=by go_wp2_with fail;all_goals(go_ret;refine⟨AC.of ?_,HJ.o.gG⟩;rw[HIF.o];obtain⟨l1,l2,l3⟩:=HL.o;have l4:=HQ.o;go_light;simp_all [BQ,BM]<;>omega)):q:=h
theorem Sk(v:VP)(p:MP)(g:VF)(f:MF)(op a b c:Int)(w:Y)(hs:p.small)(hp:AP p.a7)(aP:Cd f)(aq:f.small)(ha:CO a)(hb:CO b)(hc:CO c)(h:Cz w v p)(aJ:Dm w v.r p.a7)(hf:Dt w g f):
 Ae Tryz.prog 91 #[.agg #[v.r,v.k,v.f,v.t,g.p,iZ f.gz,g.l,g.c],.agg #[iZ op,iZ a,iZ b,iZ c]] w λe w'=>AC e (AK p f ⟨op,a,b,c⟩)/\Ad w w w':=by
 have H:=Ap (ji hs (ji hp (ji aq (ji aP (ji h (ji hf aJ))))));have HI:Aa _:=Xg.of w v g f op a b c;obtain⟨vr,vk,vf,vt⟩:=v;obtain⟨gp,gl,gc⟩:=g;obtain⟨r2,c2,ek⟩:∃a c,vk=Z a p.aC c:=h.aC.fu;obtain⟨r3,c3,ef⟩:∃a c,vf=Z a p.cC c:=by obtain⟨xs,h1,h2,h3⟩:=h.cC;exact h2.fu
 obtain⟨r4,c4,ec⟩:∃a k,gc=Z a f.ch k:=hf.2.2.fu;subst ek ef ec;have br:=hs.aC;have bt:=hs.cC;have bu:=aq.2.2;obtain⟨a0,a1⟩:=Gs ha;obtain⟨b0,b1⟩:=Gs hb;obtain⟨c0,c1⟩:=Gs hc;clear hs hp aP aq ha hb hc h hf aJ;by_cases q0:0<=op/\op<30
 . have HO:Aa (0<=op/\op<=29):=⟨oM,oM⟩
   have am:decide (0<=op/\op<30)=true:=decide_eq_true q0
   clear q0;go_enter Tryz.func91,Tryz.ntmps91;go_wp2_with fail;refine(Bf op 30 _).mono ?_;rintro e u ⟨rfl,rfl⟩;rw[am];go_wp2_with fail;refine(S6 op _).mono ?_;rintro e u ⟨rfl,bl⟩;have HJ:=Ap (HI.o.bM bl);clear HI bl am;obtain⟨s,co,aQ⟩:=Il op;rw[aQ];clear aQ;have HIF:Aa (AK p f ⟨op,a,b,c⟩↔BQ p f (AG op) op a b c):=⟨λe=>e.2.2, λe=>⟨HO.o.1,HO.o.2,e⟩⟩;have hF:(0<=AG op/\AG op<=11)/\(AG op=3->op=4\/op=5)/\(AG op=4->op=6\/op=7):=by obtain⟨k,rfl⟩:=kU HO.o.1;have:=KE k (by have:=HO.o.2;omega);exact⟨this.1, λe=>by have:=this.2.1 e;omega, λe=>by have:=this.2.2 e;omega⟩
   generalize aZ:AG op=F at*;clear aZ;obtain⟨⟨f0,f1⟩,aG⟩:=hF;have aD:=Ap aG;clear aG;generalize aS: ↑p.aC=D at*
   generalize aT: ↑p.cC=G at*
   generalize aU: ↑f.ch=N at*
   have HL:=Ap (ji aS (ji aT aU));clear aS aT aU;obtain⟨p0,p1,p2,p3,g0,g1,C,O⟩:=HJ.o.scope;obtain⟨S,T,W,i3⟩:=HJ.o.ins;simp only[]at p0 p1 p2 p3 g0 g1 C O;have bj:=KP s co F;by_cases F1:F=1
   . subst F1;go_wp2_with fail;refine(Bf a (D:Int) _).mono ?_;rintro e A ⟨rfl,rfl⟩;by_cases I:0<=a/\a<(D:Int)
     . rw[decide_eq_true I];obtain⟨q2,q3⟩:=I;exact Fa
     rw[mj I];(have bg:0<=a->(D:Int)<=a:= λe=>oM);clear I;exact Fa
   by_cases aX:F=11
   . subst aX;go_wp2_with fail;refine(Bf a (G:Int) _).mono ?_;rintro e A ⟨rfl,rfl⟩;by_cases I:0<=a/\a<(G:Int)
     . rw[decide_eq_true I];obtain⟨q2,q3⟩:=I;exact Fa
     rw[mj I];(have bg:0<=a->(G:Int)<=a:= λe=>oM);clear I;exact Fa
   by_cases F9:F=9
   . subst F9;by_cases qa:a=0
     . (have bi:(a==0)=true:=by simpa using qa);by_cases z:b=0
       . (have aA:(b==0)=true:=by simpa using z);have HQ:Aa (a=0/\b=0):=⟨qa,z⟩
         clear qa z;go_wp2_with fail;refine(Bf c (N:Int) _).mono ?_;rintro e A ⟨rfl,rfl⟩;go_wp2_with fail;all_goals(go_ret;refine⟨AC.of ?_,HJ.o.gG⟩;rw[HIF.o];obtain⟨l1,l2,l3⟩:=HL.o;obtain⟨l4,l5⟩:=HQ.o;go_light;simp_all [BQ,BM]<;>omega)
       (have aA:(b==0)=false:=by simpa using z);have HQ:=Ap z;clear z qa;exact M0
     (have bi:(a==0)=false:=by simpa using qa);have HQ:=Ap qa;clear qa;exact M0
   by_cases F8:F=8
   . subst F8;go_wp2_with fail;refine(D6 a _).mono ?_;rintro e A ⟨rfl,rfl⟩;cases t1:DC a
     . go_wp2_with fail;all_goals(go_ret;refine⟨AC.of ?_,HJ.o.gG⟩;rw[HIF.o];obtain⟨l1,l2,l3⟩:=HL.o;go_light;simp_all [BQ,BM]<;>omega)
     go_wp2_with fail;refine(D6 b _).mono ?_;rintro e A ⟨rfl,rfl⟩;(cases t2:DC b);all_goals
      exact Fa
   by_cases F2:F=2
   . subst F2;go_wp2_with fail;refine(Gx vr (Z r2 D c2) (Z r3 G c3) vt ⟨gp,gl,Z r4 N c4⟩ f a _ H.o.2.2.1 (H.o.2.2.2.2.2.1.bM HJ.o.gG lR)).mono ?_;rintro e A ⟨⟨bh,rfl,hbh⟩,L⟩;have HK:=Ap (HJ.o.bM L);clear L;clear p0 p1 p2 p3 S T W i3 g0 g1 C O;obtain⟨S,T,W,i3⟩:=HK.o.ins;rw[Jb H.o.2.2.2.1]at hbh;cases bh
     . (have HT:Aa (Ay f a=0):=ly λe=>absurd (hbh.2 e) ms);exact Hy
     have HT:Aa (¬Ay f a=0):=hbh.1 rfl;exact Hy
   by_cases aW:F=10
   . subst aW;go_wp2_with fail;refine(Gx vr (Z r2 D c2) (Z r3 G c3) vt ⟨gp,gl,Z r4 N c4⟩ f a _ H.o.2.2.1 (H.o.2.2.2.2.2.1.bM HJ.o.gG lR)).mono ?_;rintro e A ⟨⟨bh,rfl,hbh⟩,L⟩;have HK:=Ap (HJ.o.bM L);clear L;clear p0 p1 p2 p3 S T W i3 g0 g1 C O;obtain⟨S,T,W,i3⟩:=HK.o.ins;rw[Jb H.o.2.2.2.1]at hbh;obtain⟨_,_,_,_,_,_,_,O⟩:=HK.o.scope;simp only[]at O;cases bh
     . (have HT:Aa (Ay f a=0):=ly λe=>absurd (hbh.2 e) ms);exact Hy
     have HT:Aa (¬Ay f a=0):=hbh.1 rfl;clear hbh;by_cases z:b=0
     . (have aA:(b==0)=true:=by simpa using z);have HQ:=Ap z;clear z;go_wp2_with fail;refine(Bf c (N:Int) _).mono ?_;rintro e u3 ⟨rfl,rfl⟩;exact MZ
     (have aA:(b==0)=false:=by simpa using z);have HQ:=Ap z;clear z;exact MZ
   by_cases F3:F=3
   . subst F3;have R:=aD.o.1 rfl;have ae:=Ii H.o.2.1 op a b oM;have B:=Ap (ji R ae);clear R ae;go_wp2_with fail;refine(Ed ⟨vr,Z r2 D c2,Z r3 G c3,vt⟩ p gp (iZ f.gz) gl (Z r4 N c4) op a b c _ H.o.1 H.o.2.1.1 (H.o.2.2.2.2.1.bM HJ.o.gG lR)).mono ?_;rintro e A ⟨⟨bh,rfl,hbh⟩,L⟩;have HK:=Ap (HJ.o.bM L);clear L;clear p0 p1 p2 p3 S T W i3 g0 g1 C O;obtain⟨S,T,W,i3⟩:=HK.o.ins;rw[B.o.2]at hbh;cases bh
     . have HN:Aa (¬AK p f ⟨op,a,b,c⟩):= λe=>by
        have:=HIF.o.1 e;have R:=B.o.1;go_light;simp[BQ,BM]at this;have h5:(op=4\/op=6)\/¬a=0:=oM
        simp[this.1,h5]at hbh
       clear hbh;go_wp2_with fail;all_goals(go_ret;exact⟨.no HN.o,HK.o.gG⟩)
     . have HT:Aa (¬BR p a b=0/\(op=4\/¬a=0)):=⟨(hbh.1 rfl).1,by have:=(hbh.1 rfl).2;have:=B.o.1;omega⟩
       exact Hy
   by_cases F4:F=4
   . subst F4;have R:=aD.o.2 rfl;have ae:=Ii H.o.2.1 op a b oM;have B:=Ap (ji R ae);clear R ae;have inst:=Av.some u;(have P0:= λn:Av u=>Av.cell p0 n);(have P1:= λn:Av u=>Av.cell p1 n);(have P2:= λn:Av u=>Av.cell p2 n);(have P3:= λn:Av u=>Av.cell p3 n);(have G0:= λn:Av u=>Av.cell g0 n);(have G1:= λn:Av u=>Av.cell g1 n);(have G2:= λn:Av u=>Av.cell C n);(have G3:= λn:Av u=>Av.cell O n);(have I0:= λn:Av u=>Av.cell S n);(have I1:= λn:Av u=>Av.cell T n);(have I2:= λn:Av u=>Av.cell W n);(have I3:= λn:Av u=>Av.cell i3 n);by_cases Q:Df p op a b
     . have aj:Aa (Df p op a b):=Q;have aY:Aa (¬BR p a b=0/\(op=6\/¬a=0)):=⟨(B.o.2.1 Q).1,by have:=(B.o.2.1 Q).2;have:=B.o.1;omega⟩
       obtain⟨l,z0,z1,z2,z3,_⟩:=Q;obtain⟨i,rfl⟩:=kU z0;obtain⟨j,rfl⟩:=kU z2;rw[kM]at z1;have aR:j<l.length:=oM;have aE:=Ap (QD H.o.2.1 z1 aR c);obtain⟨xs,aw,au,aM⟩:=H.o.2.2.2.2.2.2;obtain⟨⟨l',y⟩,hx⟩:∃x,xs[i]?=K x:=⟨_,an (by have:=(iV.1 z1).1;rw[<-aw]at this;simpa using this)⟩;have e1:=CT aw hx;simp only[]at e1;(obtain rfl:l'=l:=by rw[z1]at e1;exact(kN e1).symm);obtain⟨hy,ay,cy,ey,bf⟩:=aM _ (i8 hx);simp only[]at hy ey bf;subst ey;have bq:=H.o.1.region _ (i8 z1);(have bp:i<3:=by have:=(iV.1 z1).1;have:=H.o.2.1.1;omega);rw[H.o.2.1.1]at au;rcases au.2 with⟨e0,_⟩|⟨gg,o,cc,e2,aH⟩
       . omega
       subst e2;have k0:=Rd.elem AY aH i _ hx 0 _ rfl;rw[lr,kZ]at k0;simp only[]at k0;rw[<-HJ.o.gG.cell (jC k0)]at k0;rcases hy.2 with⟨e0,_⟩|⟨C,o2,c5,e3,aI⟩
       . omega
       simp only[jc,lO]at e3;obtain⟨rfl,rfl⟩:=e3;have aF:Aa (Rd u 1 (Z (K ⟨C,o2+j,M⟩) (↑l'-j) (cy-j)) (l'.drop j).length ((l'.drop j).flatMap Ah)):=(Rd.drop (n:=0) (c:=0) aI j aR).bM HJ.o.gG lR
       clear aH aI hx aM au aw hy e1;(have K0:= λn:Av u=>Av.cell k0 n);have y1:(j:Int)<=(l':Int):=oM;have y2:(l':Int)<=(cy:Int):=oM;have y3:(i:Int)<3:=oM;by_cases a8:Gm (l'.drop j) c
       . have ao:Aa (Gm (l'.drop j) c):=a8;have HY:=Ap (HIF.o.2 (.inr (.inr (.inr (.inr (.inl ⟨rfl,aE.o.1 a8,aY.o.2⟩))))));clear a8;go_wp2_with fail;refine AL kR kR ?_;(repeat(go_big_quiet_step ((first|(go_at_call 126;rename_i n;exact(Ed ⟨sO gg o 3 cc,Z r2 D c2,Z r3 G c3,vt⟩ p gp (iZ f.gz) gl (Z r4 N c4) op (i:Int) (j:Int) c n.u H.o.1 H.o.2.1.1 (H.o.2.2.2.2.1.bM (Ai HJ.o.gG lR n.h) lR)).mono λe w'' h=>⟨h.1.true aj.o,⟨⟨w'',Ai n.h lR h.2⟩,rfl⟩⟩)|(go_at_call 127;rename_i n;have ah:=In (K ⟨C,o2+j,M⟩) (cy-j) (l'.drop j) c n.u (by rw[mO];omega) (by rw[mO];omega) (by have:=aF.o.bM n.h lR;rw[mO]at this⊢;exact this);rw[mO]at ah;exact ah.mono λe w'' h=>⟨h.1.true ao.o,⟨⟨w'',Ai n.h lR h.2⟩,rfl⟩⟩)))));refine wpQuiet_nil ?_;rintro w'' ⟨n,rfl⟩;have HB9:=Ap (Ai HJ.o.gG lR n.h);clear P0 P1 P2 P3 G0 G1 G2 G3 I0 I1 I2 I3 inst;go_wp2_with fail;all_goals(go_ret;exact⟨.ik HY.o,HB9.o⟩)
       have ao:Aa (¬Gm (l'.drop j) c):=a8;(have HN:Aa (¬AK p f ⟨op,(i:Int),(j:Int),c⟩):= λe=>by have:=HIF.o.1 e;go_light;simp[BQ,BM]at this;exact a8 (aE.o.2 this.1));clear a8;go_wp2_with fail;refine AL kR kR ?_;(repeat(go_big_quiet_step ((first|(go_at_call 126;rename_i n;exact(Ed ⟨sO gg o 3 cc,Z r2 D c2,Z r3 G c3,vt⟩ p gp (iZ f.gz) gl (Z r4 N c4) op (i:Int) (j:Int) c n.u H.o.1 H.o.2.1.1 (H.o.2.2.2.2.1.bM (Ai HJ.o.gG lR n.h) lR)).mono λe w'' h=>⟨h.1.true aj.o,⟨⟨w'',Ai n.h lR h.2⟩,rfl⟩⟩)|(go_at_call 127;rename_i n;have ah:=In (K ⟨C,o2+j,M⟩) (cy-j) (l'.drop j) c n.u (by rw[mO];omega) (by rw[mO];omega) (by have:=aF.o.bM n.h lR;rw[mO]at this⊢;exact this);rw[mO]at ah;exact ah.mono λe w'' h=>⟨h.1.false ao.o,⟨⟨w'',Ai n.h lR h.2⟩,rfl⟩⟩)))));exact MY
     have aj:Aa (¬Df p op a b):=Q;(have HN:Aa (¬AK p f ⟨op,a,b,c⟩):= λe=>by have:=HIF.o.1 e;have R:=B.o.1;have hh:=B.o.2;go_light;simp[BQ,BM]at this;exact Q (hh.2 ⟨this.1.there,oM⟩));clear Q;go_wp2_with fail;refine AL kR kR ?_;(repeat(go_big_quiet_step ((first|(go_at_call 126;rename_i n;exact(Ed ⟨vr,Z r2 D c2,Z r3 G c3,vt⟩ p gp (iZ f.gz) gl (Z r4 N c4) op a b c n.u H.o.1 H.o.2.1.1 (H.o.2.2.2.2.1.bM (Ai HJ.o.gG lR n.h) lR)).mono λe w'' h=>⟨h.1.false aj.o,⟨⟨w'',Ai n.h lR h.2⟩,rfl⟩⟩)))));exact MY
   by_cases F0:F=0
   . subst F0;exact Fa
   rcases(show F=5\/F=6\/F=7 from oM)with rfl|rfl|rfl
   . go_wp2_with fail;refine(FL 5 a _ oM).mono ?_;rintro e A ⟨⟨bm,rfl,hbm⟩,rfl⟩;cases bm
     . (have HT:Aa (¬BM 5 a):= λe=>by simp[e]at hbm);exact EY
     have HT:Aa (BM 5 a):=hbm.1 rfl;exact EY
   . go_wp2_with fail;refine(FL 6 a _ oM).mono ?_;rintro e A ⟨⟨bm,rfl,hbm⟩,rfl⟩;cases bm
     . (have HT:Aa (¬BM 6 a):= λe=>by simp[e]at hbm);exact EY
     have HT:Aa (BM 6 a):=hbm.1 rfl;exact EY
   go_wp2_with fail;refine(FL 7 a _ oM).mono ?_;rintro e A ⟨⟨bm,rfl,hbm⟩,rfl⟩;cases bm
   . (have HT:Aa (¬BM 7 a):= λe=>by simp[e]at hbm);exact EY
   have HT:Aa (BM 7 a):=hbm.1 rfl;exact EY
 have HN:Aa (¬AK p f ⟨op,a,b,c⟩):= λe=>q0 ⟨e.1,by have:=e.2.1;dsimp only at this;omega⟩
 have am:decide (0<=op/\op<30)=false:=mj q0
 go_enter Tryz.func91,Tryz.ntmps91;go_wp2_with fail;refine(Bf op 30 _).mono ?_;rintro e u ⟨rfl,rfl⟩;rw[am];go_wp2;go_ret;exact⟨.no HN.o,HI.o.gG⟩
theorem Bs.kt{s:Ci}{F:List (List Int×J)}{cs:List MC}{G:List (MF×VF)}{ts:List MT}(h:Bs w u s p (Al v F cs G ts D)){q:Nat}{x:MC}(f:cs[q]?=K x):∃gt ct,v.k=sG gt cs ct/\u.cell? ⟨gt,q*2,M⟩=K (iZ x.type)/\u.cell? ⟨gt,q*2+1,M⟩=K (Ac .u32 x.word):=by
 have l:=(iV.1 f).1;have a:=h.gY.2.2.1;rcases Bz a with⟨e,i⟩|⟨gt,ct,e⟩
 . omega
 rw[e]at a;have b:∀j,j<2->u.cell? ⟨gt,q*2+j,M⟩=x.cells[j]?:= λj g=>by rw[lV a (q*2+j) oM,Cr MC.cells 2 MC.gH cs q j x f g]
 exact⟨gt,ct,e,b 0 oM,b 1 oM⟩
theorem Ns(w u:Y)(s:Ci)(k:GK)(p:Int)(v:VP)(V:J)(g:Gn)(left T:Int)(D:List AB)(t z:Int)(h:SM w u s k p v V g left T D)(hl:g.aC.length<=64)(hb:∃x∈g.aC,x.type=t):
 Ae Tryz.prog 119 #[.pointer (K ⟨k.Gb,0,M⟩),iZ t,Ac .u32 z] u λe u'=>∃r:Nat,e=.returned (iZ (r:Int))/\∃v' cs,SM w u' s k p v' V ⟨g.ch,cs,g.dr⟩ left T D/\r<cs.length/\(cs=g.aC\/cs=g.aC++[⟨t,z⟩]/\g.aC.length<64):=by
 obtain⟨iC,C,ao,aq,au⟩:=lU TC;obtain⟨⟨a1,c1,Q,c2,a3,c3,a4,c4,e1⟩,_⟩:=h.bl.gY;subst e1;have H:=Ap h;have HB:=Ap hb;obtain⟨_,q0,_,_,_,_⟩:=h.cells;obtain⟨_,U,_,_⟩:=h.ia;clear h hb;simp only[]at U;generalize hn:g.aC.length=n at H U hl⊢;have a:=Ap hn;clear hn;go_enter Tryz.func119,Tryz.ntmps119;go_wp2_with fail;go_loopw [7] (λi wr=>∃j:Nat,j<=n/\i=iZ j/\wr=u) (λi _=>n-(intOf i).toNat)
 case atStart=>exact⟨0,oM,rfl,rfl⟩
 obtain⟨j,hj,rfl,rfl⟩:=hrel;by_cases E:j<n;case pos=>
  obtain⟨x,f⟩:∃x,g.aC[j]?=K x:=⟨_,an (by rw[a.o];exact E)⟩;obtain⟨gt,ct,A,j0,j1⟩:=H.o.bl.kt f;simp only[jc,a.o,lO]at A;obtain⟨rfl,rfl⟩:=A;have aw:(j:Int)<(n:Int):=oM;cases ht:(x.type==t)
  case false=>go_wp2_with fail;go_roundw;(case rel=>exact⟨j+1,oM,by go_num,trivial⟩);exact oI
  cases hw:(x.word==z)
  case false=>go_wp2_with fail;go_roundw;(case rel=>exact⟨j+1,oM,by go_num,trivial⟩);exact oI
  go_wp2_with fail;go_ret;exact⟨j,rfl,_,_,H.o,by show j< ↑g.aC;rw[a.o];exact E,.inl rfl⟩
 by_cases a8:n=64;case pos=>
  have am:((n:Int)==64)=true:=oT;have aD:=Ap a8;clear a8;go_wp2_with fail;go_loopw [8] (λi aA=>∃j:Nat,j<=n/\i=iZ j/\aA=wr/\Aa (∀i x,i<j->g.aC[i]?=K x->¬x.type=t)) (λi _=>n-(intOf i).toNat)
  case atStart=>exact⟨0,oM,rfl,rfl, λi x h=>absurd h (Nat.not_lt_zero _)⟩
  obtain⟨j,hj,rfl,rfl,X⟩:=hrel;by_cases E:j<n;case neg=>(exfalso);obtain⟨x,f,e⟩:=HB.o;obtain⟨i,C⟩:=lw f;exact X.o i x (by have:=(iV.1 C).1;rw[a.o]at this;omega) C e
  obtain⟨x,f⟩:∃x,g.aC[j]?=K x:=⟨_,an (by rw[a.o];exact E)⟩;obtain⟨gt,ct,A,j0,j1⟩:=H.o.bl.kt f;simp only[jc,a.o,lO]at A;obtain⟨rfl,rfl⟩:=A;have aw:(j:Int)<(n:Int):=oM;have HX:=Ap f;clear f;cases ht:(x.type==t)
  case false=>
   go_wp2_with fail;go_roundw;case rel=>exact⟨j+1,oM,by go_num,trivial, λi y C R=>by
    by_cases e:i=j
    . subst e;rw[HX.o]at R;(cases R);simpa using ht
    exact X.o i y oM R⟩
   case measure=>exact oI
  go_wp2_with fail;go_ret;exact⟨j,rfl,_,_,H.o,by show j< ↑g.aC;rw[a.o];exact E,.inl rfl⟩
 have am:((n:Int)==64)=false:=oT;go_upto_region 12 with fail
 refine AF 18 (S:= λW=>W.cell? ⟨k.Gb,1,M⟩=K (.pointer (K ⟨k.P,0,M⟩))/\W.cell? ⟨k.P,1,M⟩=K (Z Q n c2)) kR ⟨(H.o.bM (Aj _)).cells.2.1,(H.o.bM (Aj _)).ia.2.1⟩ (λL=> ?_)
 have N:=Ap (H.o.bM (Aj _));clear U;generalize wr.drew=O at N L⊢;refine AW 0 ?_;refine AW 1 ?_;refine AW 2 ?_;refine AW 3 ?_;refine AW 4 ?_;refine AW 5 ?_;refine AW 6 ?_;refine AW 7 ?_;refine AW 8 ?_;refine AW 9 ?_;refine AW 10 ?_;refine AW 11 ?_;refine AW 12 ?_;refine AW 13 ?_;refine DD 14 ?_;intro q b;go_simp;have l:Aa (SM w (O.alloc (.cells #[iZ t,Ac .u32 z] 105)) s k p ⟨Z a1 k.F c1,Z Q n c2,Z a3 k.G c3,Z a4 g.dr c4⟩ V g left T D):=N.o.bM (Ag _ _);have O3:=Ap ((by have:=l.o.bl.gY.2.2.1;rw[a.o]at this;exact this));refine b.o _ _ (λ_=>⟨l.o.cells.2.1,l.o.ia.2.1⟩) (λB=> ?_);clear b q;have L:=B dC;refine DD 15 ?_;intro q b;refine step_append_lies _ rfl (.tmp 95) (.tmp 99) 24 rfl w 105 iC (.agg #[iZ 0,Ac .u32 0]) 2 16 Tryz.underlying24 C ao aq au rfl dC (Z Q n c2) n (g.aC.flatMap MC.cells) oE O3.o O 1 1 [iZ t,Ac .u32 z] oE rfl (Dw O [iZ t,Ac .u32 z] 105) (by intro u hu;simp at hu;rcases hu with rfl|rfl<;>rfl) oM oX oM l.o.bl.size _ rfl ?_;intro gg cap u8 aj ah ae _;have m:=Ap (l.o.iO ⟨t,z⟩ (sG gg (n+1) cap) (by rw[a.o];exact aj) ah (D3 ae));have y0:=m.o.2.1.1;have y1:=m.o.2.1.2;clear aj ah ae O3 l;refine b.o _ _ (λ_=>⟨m.o.2.2.1,y0⟩) (λB=> ?_);clear b q;have L:=B dC;refine AW 16 ?_;refine AW 17 ?_;refine DD 18 ?_;intro q b;go_simp;refine b.o _ _ (λh=>absurd h dC) (λB=> ?_);clear b q B L;refine A5 kR ?_ _;have I:Aa _:=m.o.1;generalize u8.setCell ⟨k.P,1,M⟩ (sG gg (n+1) cap)=W5 at I⊢;clear m y0 y1 q0 N;obtain⟨_,z0,_,_,_,_⟩:=I.o.cells;obtain⟨_,z1,_,_⟩:=I.o.ia;simp only[]at z1;go_wp2_with fail;go_ret;exact⟨n,sP,_,_,I.o,by simp only[kJ,a.o,kQ];omega,.inr ⟨rfl,oM⟩⟩
theorem WA{s:Ci}{k:GK}{left:Int}{l:Nat}(E:Aa (GS w u s k p left b l D)){t z:Int}(a:Ty t)(j:0<=z/\z<4294967296)(n:t=1->z<=1):
 Ae Tryz.prog 119 #[.pointer (K ⟨k.Gb,0,M⟩),iZ t,Ac .u32 z] u λe m=>∃r:Nat,e=.returned (iZ (r:Int))/\Aa (GSC w m s k p left b l D r):=by
 obtain⟨v,f,g,h1,h2⟩:=E.o.ex;refine(Ns w u s k p v f g left b D t z h1 h2.nc (h2.bk t a)).mono ?_;rintro e m ⟨r,rfl,v',cs,h,i,rfl|⟨rfl,q⟩⟩
 . exact⟨r,rfl,E.o.ok,v',f,_,h,h2,i⟩
 exact⟨r,rfl,E.o.ok,v',f,_,h,h2.cst (cs:=[]) ⟨⟨a.w,NE j.1 j.2⟩,a.is,n⟩ q,i⟩
end Go.Proofs.YtjnglocdoljgkaaGreat
