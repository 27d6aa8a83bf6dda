import Derived.Test.YtkgohaigebcgoaaGreatDoorCh6
namespace Go.Proofs.YtkgohaigebcgoaaGreatDoor
open Go.ChangeShapes Go.WideShapes Go.ChangeAt Go.RowKit Go.Proofs.Tryz
set_option linter.unusedVariables false
open Go.Value renaming slice → Z,agg → An
open Option renaming some → K,none → M
open Go renaming Value → J,World → Y,Calls → Ai
open Go.RowKit renaming Hid → Ae,Below → Ah
open Go.Obj renaming cells → Ak
open Go.Proofs.Tryz renaming prog → Aq
open Go.World renaming alloc → Ac
open List renaming flatMap → Ad
set_option maxHeartbeats 4000000
set_option maxRecDepth 100000
variable {w e:Y}{s:J}{rs:List (List Int)}{q:Prop}
def D8(w:Y)(s:J)(rs:List (List Int)):Prop:=∃xs:List (List Int×J),xs.map Prod.fst=rs/\Rd w 1 s rs (Ad Hy xs)/\∀x∈xs,Rd w 1 x.2 x.1 (x.1.flatMap At)/\∃a c,x.2=Z a x.1 c/\ ↑x.1<=c
theorem D8.rd(h:D8 w s rs):OO w s rs:=by obtain⟨xs,a,b,c⟩:=h;exact⟨xs,a,b, λx d=>(c x d).1⟩
theorem D8.av(h:D8 w s rs){B:Nat}(c:Ah B w e)(b: ↑w<=B):D8 e s rs:=by obtain⟨xs,f,g,a⟩:=h;exact⟨xs,f,g.av c b, λx d=>⟨(a x d).1.av c b,(a x d).2⟩⟩
theorem Rd.drop{g o n c c':Nat}{xs:List Int}(h:∀j u,(Ad At xs)[j]?=K u->w ⟨g,o+j,M⟩=K u)(b:Nat)(l:b< ↑xs):Rd w 1 (Z (K ⟨g,o+b,M⟩) (↑xs-b) c') (xs.drop b).length (Ad At (xs.drop b)):=by
 refine⟨by rw[AX At 1 AE],.inr ⟨g,o+b,c',by rw[m8], λj u a=> ?_⟩⟩;have f:j<(xs.drop b).length:=by have:=(f7.1 a).1;rw[AX At 1 AE,nX]at this;exact this
 have d:=BI At 1 AE (xs.drop b) j 0 _ (an f) oM;rw[nX,mL]at d;rw[d]at a;have k:b+j<xs.length:=by rw[m8]at f;omega
 have e:=BI At 1 AE xs (b+j) 0 _ (an k) oM;rw[nX,mL]at e;rw[Nat.add_assoc];refine h (b+j) u ?_;rw[e];rw[List.getElem_drop]at a;exact a
structure sf(w u:Y)(v:VP)(g:VF)(f:MF)(op a b c:Int):Prop where
 cq:Ah w w u
 scope:PP u w v.r v.k v.f v.t g.p f.cu g.l g.c
 ins:Kg u ((w:Nat)+1) op a b c
theorem sf.av{u:Y}{v:VP}{g:VF}{f:MF}{op a b c:Int}(h:sf w u v g f op a b c)(d:Ah u u e):sf w e v g f op a b c:=⟨Ar h.cq lR d,h.scope.av d,h.ins.av d⟩
theorem sf.of(w:Y)(v:VP)(g:VF)(f:MF)(op a b c:Int):sf w (Ac (Ac w (Ak #[v.r,v.k,v.f,v.t,g.p,f.cu,g.l,g.c] 109)) (Ak #[op,a,b,c] 25)) v g f op a b c:=by refine⟨Ar (Al _ _) lR (Al _ _),(PP.new w _ _ _ _ _ _ _ _ _).alloc _,?_⟩;have:=Kg.new (Ac w (Ak #[v.r,v.k,v.f,v.t,g.p,f.cu,g.l,g.c] 109)) op a b c 25;simpa using this
theorem Fj(h:q:=by clear hbm;go_wp2_with fail;all_goals(go_ret;refine⟨AM.of ?_,HJ.o.cq⟩;rw[HIF.o];obtain⟨l1,l2,l3⟩:=HL.o;have lt:=HT.o;go_light;simp_all [BQ,BW]<;>omega)):q:=h
theorem Fk(h:q:=by go_wp2_with fail;all_goals(go_ret;refine⟨AM.of ?_,HJ.o.cq⟩;rw[HIF.o];obtain⟨l1,l2,l3⟩:=HL.o;go_light;simp_all [BQ,BW]<;>omega)):q:=h
theorem Ie(h:q:=by clear hbh;go_wp2_with fail;all_goals(go_ret;refine⟨AM.of ?_,HK.o.cq⟩;rw[HIF.o];obtain⟨l1,l2,l3⟩:=HL.o;have lt:=HT.o;go_light;simp_all [BQ,BW]<;>omega)):q:=h
theorem OG(h:q:=by refine wpQuiet_nil ?_;rintro w'' ⟨n,rfl⟩;have HB9:=Aw (Ar HJ.o.cq lR n.h);clear P0 P1 P2 P3 G0 G1 G2 G3 I0 I1 I2 I3 inst;go_wp2_with fail;all_goals(go_ret;exact⟨.no HN.o,HB9.o⟩)):q:=h
theorem OH(h:q:=by go_wp2_with fail;all_goals(go_ret;refine⟨AM.of ?_,HK.o.cq⟩;rw[HIF.o];obtain⟨l1,l2,l3⟩:=HL.o;have lt:=HT.o;have l4:=HQ.o;go_light;simp_all [BQ,BW]<;>omega)):q:=h
theorem OI(h:q:=by go_wp2_with fail;all_goals(go_ret;refine⟨AM.of ?_,HJ.o.cq⟩;rw[HIF.o];obtain⟨l1,l2,l3⟩:=HL.o;have l4:=HQ.o;go_light;simp_all [BQ,BW]<;>omega)):q:=h
theorem UO(v:VP)(p:MP)(g:VF)(f:MF)(op a b c:Int)(w:Y)(hs:p.small)(hp:A7 p.az)(aQ:Cb f)(au:f.small)(ha:Fa a)(hb:Fa b)(hc:Fa c)(h:Eb w v p)(aM:D8 w v.r p.az)(hf:FD w g f):
 Ai Aq 159 #[An #[v.r,v.k,v.f,v.t,g.p,f.cu,g.l,g.c],An #[op,a,b,c]] w λe w'=>AM e (AV p f ⟨op,a,b,c⟩)/\Ah w w w':=by
 have H:=Aw (lN hs (lN hp (lN au (lN aQ (lN h (lN hf aM))))));have HI:Ae _:=sf.of w v g f op a b c;obtain⟨vr,vk,vf,vt⟩:=v;obtain⟨U,T,gc⟩:=g;obtain⟨W,c2,ek⟩:∃a c,vk=Z a p.b8 c:=h.b8.aD;obtain⟨X,c3,ef⟩:∃a c,vf=Z a p.aC c:=by obtain⟨xs,h1,h2,h3⟩:=h.aC;exact h2.aD
 obtain⟨r4,c4,ec⟩:∃a k,gc=Z a f.aU k:=hf.2.2.aD;subst ek ef ec;have bx:=hs.b8;have bB:=hs.aC;have bC:=au.2.2;obtain⟨a0,a1⟩:=Lq ha;obtain⟨b0,b1⟩:=Lq hb;obtain⟨c0,c1⟩:=Lq hc;clear hs hp aQ au ha hb hc h hf aM;by_cases q0:0<=op/\op<30
 . have HO:Ae (0<=op/\op<=29):=⟨oM,oM⟩
   have aj:decide (0<=op/\op<30)=true:=decide_eq_true q0
   clear q0;go_enter func159,ntmps159;go_wp2_with fail;refine(A6 op 30 _).mono ?_;rintro e u ⟨rfl,rfl⟩;rw[aj];go_wp2_with fail;refine(P5 op _).mono ?_;rintro e u ⟨rfl,bl⟩;have HJ:=Aw (HI.o.av bl);clear HI bl aj;obtain⟨s,co,aR⟩:=Nt op;rw[aR];clear aR;have HIF:Ae (AV p f ⟨op,a,b,c⟩↔BQ p f (AH op) op a b c):=⟨λe=>e.2.2, λe=>⟨HO.o.1,HO.o.2,e⟩⟩;have hF:(0<=AH op/\AH op<=11)/\(AH op=3->op=4\/op=5)/\(AH op=4->op=6\/op=7):=by obtain⟨k,rfl⟩:=mJ HO.o.1;have:=SA k (by have:=HO.o.2;omega);exact⟨this.1, λe=>by have:=this.2.1 e;omega, λe=>by have:=this.2.2 e;omega⟩
   generalize bg:AH op=F at*;clear bg;obtain⟨⟨f0,f1⟩,aI⟩:=hF;have aF:=Aw aI;clear aI;generalize aT:p.b8.length=B at*;generalize aW:p.aC.length=C at*;generalize aX:f.aU.length=G at*;have HL:=Aw (lN aT (lN aW aX));clear aT aW aX;obtain⟨p0,p1,p2,p3,g0,g1,A,I⟩:=HJ.o.scope;obtain⟨O,P,Q,R⟩:=HJ.o.ins;simp only[]at p0 p1 p2 p3 g0 g1 A I;have br:=SO s co F;by_cases F1:F=1
   . subst F1;go_wp2_with fail;refine(A6 a (B:Int) _).mono ?_;rintro e q ⟨rfl,rfl⟩;by_cases D:0<=a/\a<(B:Int)
     . rw[decide_eq_true D];obtain⟨q2,q3⟩:=D;exact Fk
     rw[nC D];(have bj:0<=a->(B:Int)<=a:= λe=>oM);clear D;exact Fk
   by_cases aZ:F=11
   . subst aZ;go_wp2_with fail;refine(A6 a (C:Int) _).mono ?_;rintro e q ⟨rfl,rfl⟩;by_cases D:0<=a/\a<(C:Int)
     . rw[decide_eq_true D];obtain⟨q2,q3⟩:=D;exact Fk
     rw[nC D];(have bj:0<=a->(C:Int)<=a:= λe=>oM);clear D;exact Fk
   by_cases F9:F=9
   . subst F9;by_cases S:a=0
     . (have bq:(a==0)=true:=by simpa using S);by_cases d:b=0
       . (have aE:(b==0)=true:=by simpa using d);have HQ:Ae (a=0/\b=0):=⟨S,d⟩
         clear S d;go_wp2_with fail;refine(A6 c (G:Int) _).mono ?_;rintro e q ⟨rfl,rfl⟩;go_wp2_with fail;all_goals(go_ret;refine⟨AM.of ?_,HJ.o.cq⟩;rw[HIF.o];obtain⟨l1,l2,l3⟩:=HL.o;obtain⟨l4,l5⟩:=HQ.o;go_light;simp_all [BQ,BW]<;>omega)
       (have aE:(b==0)=false:=by simpa using d);have HQ:=Aw d;clear d S;exact OI
     (have bq:(a==0)=false:=by simpa using S);have HQ:=Aw S;clear S;exact OI
   by_cases F8:F=8
   . subst F8;go_wp2_with fail;refine(Ce a _).mono ?_;rintro e q ⟨rfl,rfl⟩;cases t1:EL a
     . go_wp2_with fail;all_goals(go_ret;refine⟨AM.of ?_,HJ.o.cq⟩;rw[HIF.o];obtain⟨l1,l2,l3⟩:=HL.o;go_light;simp_all [BQ,BW]<;>omega)
     go_wp2_with fail;refine(Ce b _).mono ?_;rintro e q ⟨rfl,rfl⟩;(cases t2:EL b);all_goals
      exact Fk
   by_cases F2:F=2
   . subst F2;go_wp2_with fail;refine(GJ vr (Z W B c2) (Z X C c3) vt ⟨U,T,Z r4 G c4⟩ f a _ H.2.2.1 (H.2.2.2.2.2.1.av HJ.cq lR)).mono ?_;rintro e q ⟨⟨bh,rfl,hbh⟩,E⟩;have HK:=Aw (HJ.av E);clear E;clear p0 p1 p2 p3 O P Q R g0 g1 A I;obtain⟨O,P,Q,R⟩:=HK.ins;rw[Jp H.2.2.2.1]at hbh;cases bh
     . (have HT:Ae (AJ f a=0):=mr λe=>absurd (hbh.2 e) nU);exact Ie
     have HT:Ae (¬AJ f a=0):=hbh.1 rfl;exact Ie
   by_cases aY:F=10
   . subst aY;go_wp2_with fail;refine(GJ vr (Z W B c2) (Z X C c3) vt ⟨U,T,Z r4 G c4⟩ f a _ H.2.2.1 (H.2.2.2.2.2.1.av HJ.cq lR)).mono ?_;rintro e q ⟨⟨bh,rfl,hbh⟩,E⟩;have HK:=Aw (HJ.av E);clear E;clear p0 p1 p2 p3 O P Q R g0 g1 A I;obtain⟨O,P,Q,R⟩:=HK.ins;rw[Jp H.2.2.2.1]at hbh;obtain⟨_,_,_,_,_,_,_,I⟩:=HK.scope;simp only[]at I;cases bh
     . (have HT:Ae (AJ f a=0):=mr λe=>absurd (hbh.2 e) nU);exact Ie
     have HT:Ae (¬AJ f a=0):=hbh.1 rfl;clear hbh;by_cases d:b=0
     . (have aE:(b==0)=true:=by simpa using d);have HQ:=Aw d;clear d;go_wp2_with fail;refine(A6 c (G:Int) _).mono ?_;rintro e u3 ⟨rfl,rfl⟩;exact OH
     (have aE:(b==0)=false:=by simpa using d);have HQ:=Aw d;clear d;exact OH
   by_cases F3:F=3
   . subst F3;have N:=aF.1 rfl;have aa:=Iq H.2.1 op a b oM;have z:=Aw (lN N aa);clear N aa;go_wp2_with fail;refine(En ⟨vr,Z W B c2,Z X C c3,vt⟩ p U f.cu T (Z r4 G c4) op a b c _ H.1 H.2.1.1 (H.2.2.2.2.1.av HJ.cq lR)).mono ?_;rintro e q ⟨⟨bh,rfl,hbh⟩,E⟩;have HK:=Aw (HJ.av E);clear E;clear p0 p1 p2 p3 O P Q R g0 g1 A I;obtain⟨O,P,Q,R⟩:=HK.ins;rw[z.2]at hbh;cases bh
     . have HN:Ae (¬AV p f ⟨op,a,b,c⟩):= λe=>by
        have:=HIF.1 e;have N:=z.1;go_light;simp[BQ,BW]at this;have h5:(op=4\/op=6)\/¬a=0:=oM
        simp[this.1,h5]at hbh
       clear hbh;go_wp2_with fail;all_goals(go_ret;exact⟨.no HN,HK.cq⟩)
     . have HT:Ae (¬CJ p a b=0/\(op=4\/¬a=0)):=⟨(hbh.1 rfl).1,by have:=(hbh.1 rfl).2;have:=z.1;omega⟩
       exact Ie
   by_cases F4:F=4
   . subst F4;have N:=aF.2 rfl;have aa:=Iq H.2.1 op a b oM;have z:=Aw (lN N aa);clear N aa;have inst:=Ax.some u;(have P0:= λn:Ax u=>Ax.cell p0 n);(have P1:= λn:Ax u=>Ax.cell p1 n);(have P2:= λn:Ax u=>Ax.cell p2 n);(have P3:= λn:Ax u=>Ax.cell p3 n);(have G0:= λn:Ax u=>Ax.cell g0 n);(have G1:= λn:Ax u=>Ax.cell g1 n);(have G2:= λn:Ax u=>Ax.cell A n);(have G3:= λn:Ax u=>Ax.cell I n);(have I0:= λn:Ax u=>Ax.cell O n);(have I1:= λn:Ax u=>Ax.cell P n);(have I2:= λn:Ax u=>Ax.cell Q n);(have I3:= λn:Ax u=>Ax.cell R n);by_cases L:C8 p op a b
     . have ai:Ae (C8 p op a b):=L;have bf:Ae (¬CJ p a b=0/\(op=6\/¬a=0)):=⟨(z.2.1 L).1,by have:=(z.2.1 L).2;have:=z.1;omega⟩
       obtain⟨l,z0,z1,z2,z3,_⟩:=L;obtain⟨i,rfl⟩:=mJ z0;obtain⟨j,rfl⟩:=mJ z2;rw[lV]at z1;have aS:j<l.length:=oM;have aG:=Aw (SW H.2.1 z1 aS c);obtain⟨xs,aA,ax,aO⟩:=H.2.2.2.2.2.2;obtain⟨⟨m,y⟩,hx⟩:∃x,xs[i]?=K x:=⟨_,an (by have:=(f7.1 z1).1;rw[<-aA]at this;simpa using this)⟩;have e1:=FU aA hx;simp only[]at e1;(obtain rfl:m=l:=by rw[z1]at e1;exact(mD e1).symm);obtain⟨hy,ay,cy,ey,bi⟩:=aO _ (lP hx);simp only[]at hy ey bi;subst ey;have bu:=H.1.region _ (lP z1);(have bt:i<3:=by have:=(f7.1 z1).1;have:=H.2.1.1;omega);rw[H.2.1.1]at ax;rcases ax.2 with⟨e0,_⟩|⟨gg,o,cc,e2,aJ⟩
       . omega
       subst e2;have k0:=Rd.elem Dx aJ i _ hx 0 _ rfl;rw[nX,mL]at k0;simp only[]at k0;rw[<-HJ.cq.cell (lT k0)]at k0;rcases hy.2 with⟨e0,_⟩|⟨A,o2,c5,e3,aK⟩
       . omega
       simp only[lU,mj]at e3;obtain⟨rfl,rfl⟩:=e3;have aH:Ae (Rd u 1 (Z (K ⟨A,o2+j,M⟩) (↑m-j) (cy-j)) (m.drop j).length (Ad At (m.drop j))):=(Rd.drop (n:=0) (c:=0) aK j aS).av HJ.cq lR
       clear aJ aK hx aO ax aA hy e1;(have K0:= λn:Ax u=>Ax.cell k0 n);have y1:(j:Int)<=(m:Int):=oM;have y2:(m:Int)<=(cy:Int):=oM;have y3:(i:Int)<3:=oM;by_cases V:GA (m.drop j) c
       . have aq:Ae (GA (m.drop j) c):=V;have HY:=Aw (HIF.2 (.inr (.inr (.inr (.inr (.inl ⟨rfl,aG.1 V,bf.2⟩))))));clear V;go_wp2_with fail;refine AC kR kR ?_;(repeat(go_big_quiet_step ((first|(go_at_call 184;rename_i n;exact(En ⟨sO gg o 3 cc,Z W B c2,Z X C c3,vt⟩ p U f.cu T (Z r4 G c4) op (i:Int) (j:Int) c n.u H.1 H.2.1.1 (H.2.2.2.2.1.av (Ar HJ.cq lR n.h) lR)).mono λe w'' h=>⟨h.1.true ai,⟨⟨w'',Ar n.h lR h.2⟩,rfl⟩⟩)|(go_at_call 185;rename_i n;have ae:=Iz (K ⟨A,o2+j,M⟩) (cy-j) (m.drop j) c n.u (by rw[m8];omega) (by rw[m8];omega) (by have:=aH.av n.h lR;rw[m8]at this⊢;exact this);rw[m8]at ae;exact ae.mono λe w'' h=>⟨h.1.true aq,⟨⟨w'',Ar n.h lR h.2⟩,rfl⟩⟩)))));refine wpQuiet_nil ?_;rintro w'' ⟨n,rfl⟩;have HB9:=Aw (Ar HJ.cq lR n.h);clear P0 P1 P2 P3 G0 G1 G2 G3 I0 I1 I2 I3 inst;go_wp2_with fail;all_goals(go_ret;exact⟨.iQ HY,HB9⟩)
       have aq:Ae (¬GA (m.drop j) c):=V;(have HN:Ae (¬AV p f ⟨op,(i:Int),(j:Int),c⟩):= λe=>by have:=HIF.1 e;go_light;simp[BQ,BW]at this;exact V (aG.2 this.1));clear V;go_wp2_with fail;refine AC kR kR ?_;(repeat(go_big_quiet_step ((first|(go_at_call 184;rename_i n;exact(En ⟨sO gg o 3 cc,Z W B c2,Z X C c3,vt⟩ p U f.cu T (Z r4 G c4) op (i:Int) (j:Int) c n.u H.1 H.2.1.1 (H.2.2.2.2.1.av (Ar HJ.cq lR n.h) lR)).mono λe w'' h=>⟨h.1.true ai,⟨⟨w'',Ar n.h lR h.2⟩,rfl⟩⟩)|(go_at_call 185;rename_i n;have ae:=Iz (K ⟨A,o2+j,M⟩) (cy-j) (m.drop j) c n.u (by rw[m8];omega) (by rw[m8];omega) (by have:=aH.av n.h lR;rw[m8]at this⊢;exact this);rw[m8]at ae;exact ae.mono λe w'' h=>⟨h.1.false aq,⟨⟨w'',Ar n.h lR h.2⟩,rfl⟩⟩)))));exact OG
     have ai:Ae (¬C8 p op a b):=L;(have HN:Ae (¬AV p f ⟨op,a,b,c⟩):= λe=>by have:=HIF.1 e;have N:=z.1;have hh:=z.2;go_light;simp[BQ,BW]at this;exact L (hh.2 ⟨this.1.there,oM⟩));clear L;go_wp2_with fail;refine AC kR kR ?_;(repeat(go_big_quiet_step ((first|(go_at_call 184;rename_i n;exact(En ⟨vr,Z W B c2,Z X C c3,vt⟩ p U f.cu T (Z r4 G c4) op a b c n.u H.1 H.2.1.1 (H.2.2.2.2.1.av (Ar HJ.cq lR n.h) lR)).mono λe w'' h=>⟨h.1.false ai,⟨⟨w'',Ar n.h lR h.2⟩,rfl⟩⟩)))));exact OG
   by_cases F0:F=0
   . subst F0;exact Fk
   rcases(show F=5\/F=6\/F=7 from oM)with rfl|rfl|rfl
   . go_wp2_with fail;refine(FR 5 a _ oM).mono ?_;rintro e q ⟨⟨bm,rfl,hbm⟩,rfl⟩;cases bm
     . (have HT:Ae (¬BW 5 a):= λe=>by simp[e]at hbm);exact Fj
     have HT:Ae (BW 5 a):=hbm.1 rfl;exact Fj
   . go_wp2_with fail;refine(FR 6 a _ oM).mono ?_;rintro e q ⟨⟨bm,rfl,hbm⟩,rfl⟩;cases bm
     . (have HT:Ae (¬BW 6 a):= λe=>by simp[e]at hbm);exact Fj
     have HT:Ae (BW 6 a):=hbm.1 rfl;exact Fj
   go_wp2_with fail;refine(FR 7 a _ oM).mono ?_;rintro e q ⟨⟨bm,rfl,hbm⟩,rfl⟩;cases bm
   . (have HT:Ae (¬BW 7 a):= λe=>by simp[e]at hbm);exact Fj
   have HT:Ae (BW 7 a):=hbm.1 rfl;exact Fj
 have HN:Ae (¬AV p f ⟨op,a,b,c⟩):= λe=>q0 ⟨e.1,by have:=e.2.1;dsimp only at this;omega⟩
 have aj:decide (0<=op/\op<30)=false:=nC q0
 go_enter func159,ntmps159;go_wp2_with fail;refine(A6 op 30 _).mono ?_;rintro e u ⟨rfl,rfl⟩;rw[aj];go_wp2;go_ret;exact⟨.no HN,HI.cq⟩
end Go.Proofs.YtkgohaigebcgoaaGreatDoor
