import Derived.Test.YtadcneiiokbofaaGreatBo5
import Derived.Deep.Light
namespace Go.Proofs.YtadcneiiokbofaaGreat
open Go.ChangeShapes Go.WideShapes Go.ChangeAt Go.RowKit Go.Proofs.Tryz
set_option linter.unusedVariables false
open Go.Value renaming slice → Z,int → Ag,agg → Am,bool → An
open Go renaming Value → J,World → Y,Calls → Ai
open Go.RowKit renaming Hid → Ae,Below → Ah
open Go.Obj renaming cells → Ak
open Go.Proofs.Tryz renaming prog → Ap
open Go.World renaming alloc → Ac
set_option maxHeartbeats 4000000
set_option maxRecDepth 100000
variable {q:Prop}
def Zd:Option J->Int
 |some (Ag _ z)=>z
 |_=>0
def AX(op:Int):Int:=Zd (Cx op)[2]?
theorem IL(op:Int):∃(s:ByteArray) (c:Int),Cx op=#[.string s,iZ c,iZ (AX op)]:=by
 obtain⟨s,c,f,h⟩:=Qj op;refine⟨s,c,?_⟩;rw[h];have:AX op=f:=by unfold AX;rw[h];rfl
 rw[this]
theorem LG(k:Nat)(a:k<30):(0<=AX k/\AX k<=11)/\(AX k=3->k=4\/k=5)/\(AX k=4->k=6\/k=7):=by
 have h:∀k:Fin 30,(0<=AX (k.val:Int)/\AX (k.val:Int)<=11)/\(AX (k.val:Int)=3->k.val=4\/k.val=5)/\(AX (k.val:Int)=4->k.val=6\/k.val=7):=by decide+kernel
 exact h ⟨k,a⟩
def BN(F t:Int):Prop:=(F=5/\(t=2\/t=3))\/(F=6/\(t=1\/t=3))\/(F=7/\Fo t=true)
def BO(p:MP)(f:MF)(F op a b c:Int):Prop:=
 (F=0/\a=0/\b=0/\c=0)\/(F=1/\0<=a/\a< ↑p.dk/\b=0/\c=0)\/(F=2/\¬AO f a=0/\b=0/\c=0)\/
 (F=3/\¬BQ p a b=0/\c=0/\(op=4\/¬a=0))\/(F=4/\ER p a b c/\(op=6\/¬a=0))\/(BN F a/\b=0/\c=0)\/
 (F=8/\Fo a=true/\Fo b=true/\¬a=b/\c=0)\/(F=9/\a=0/\b=0/\0<=c/\c< ↑f.bO)\/
 (F=10/\¬AO f a=0/\b=0/\0<=c/\c< ↑f.bO)\/(F=11/\0<=a/\a< ↑p.aD/\b=0/\c=0)
def AW(p:MP)(f:MF)(x:MI):Prop:=0<=x.op/\x.op<=29/\BO p f (AX x.op) x.op x.a x.b x.c
structure Uw(w u:Y)(v:VP)(g:VF)(f:MF)(op a b c:Int):Prop where
 ej:Ah w w u
 prog:En u w v.r v.k v.f v.t
 func:En u ((w:Nat)+1) g.p f.gV g.l g.c
 ins:En u ((w:Nat)+1+1) op a b c
theorem Uw.a7{w u e:Y}{v:VP}{g:VF}{f:MF}{op a b c:Int}(h:Uw w u v g f op a b c)(d:Ah u u e):Uw w e v g f op a b c:=⟨Ar h.ej lR d,h.prog.a7 d,h.func.a7 d,h.ins.a7 d⟩
theorem Uw.of(w:Y)(v:VP)(g:VF)(f:MF)(op a b c:Int):Uw w (Ac (Ac (Ac w (Ak #[v.r,v.k,v.f,v.t] 37)) (Ak #[g.p,f.gV,g.l,g.c] 76)) (Ak #[op,a,b,c] 79)) v g f op a b c:=by
 refine⟨Ar (Ar (Aq _ _) lR (Aq _ _)) lR (Aq _ _),((En.new w _ _ _ _ _).alloc _).alloc _,?_,?_⟩
 . have:=(En.new (Ac w (Ak #[v.r,v.k,v.f,v.t] 37)) g.p f.gV g.l g.c 76).alloc (Ak #[op,a,b,c] 79);simpa using this
 have:=En.new (Ac (Ac w (Ak #[v.r,v.k,v.f,v.t] 37)) (Ak #[g.p,f.gV,g.l,g.c] 76)) op a b c 79;simpa using this
theorem Kl(h:q:=by go_wp2;all_goals(go_ret;refine⟨AM.of ?_,rfl⟩;go_light;simp_all [BN])):q:=h
theorem Qo(F t:Int)(w:Y)(a:F=5\/F=6\/F=7):Ai Ap 66 #[F,t] w λe b=>AM e (BN F t)/\b=w:=by
 rcases a with rfl|rfl|rfl
 . go_enter func66,ntmps66;exact Kl
 . go_enter func66,ntmps66;exact Kl
 go_enter func66,ntmps66;go_wp2_with fail;refine(Ei t _).mono ?_;rintro e u ⟨rfl,rfl⟩;exact Kl
theorem LT(s:ByteArray)(co F:Int)(w:Y):(Instr.field 125 (Am #[.string s,co,F]) 2).run Ap w=.ok F w:=kR
theorem Ix(h:q:=by go_wp2_with fail;all_goals(go_ret;refine⟨AM.of ?_,HK.ej⟩;rw[HIF.o];obtain⟨l1,l2,l3⟩:=HL.o;go_light;have lt:=HT.o;simp_all [BO,BN]<;>omega)):q:=h
theorem GA(h:q:=by go_wp2_with fail;all_goals(go_ret;refine⟨AM.of ?_,HJ.ej⟩;rw[HIF.o];obtain⟨l1,l2,l3⟩:=HL.o;go_light;simp_all [BO,BN]<;>omega)):q:=h
theorem Ol(h:q:=by go_wp2_with fail;refine(EH ⟨gp,gl,Z r4 n3 c4⟩ f a _ H.o.2.2.1 H.o.2.2.2.1 ((H.o.2.2.2.2.2.2.2).a7 HJ.o.ej lR)).mono ?_;rintro e u2 ⟨rfl,bl2⟩;have HK:=Av (HJ.o.a7 bl2);clear bl2;clear p0 p1 p2 p3 i0 i1 i2 i3 g0 g1 g2 g3;obtain⟨i0,i1,i2,i3⟩:=HK.o.ins;generalize hT:AO f a=T;have HT:=Av hT;clear hT;exact Ix):q:=h
theorem Om(h:q:=by clear hbm;go_wp2_with fail;all_goals(go_ret;refine⟨AM.of ?_,HJ.o.ej⟩;rw[HIF.o];obtain⟨l1,l2,l3⟩:=HL.o;go_light;have lt:=HT.o;simp_all [BO]<;>omega)):q:=h
theorem On(h:q:=by go_meet;exact⟨by rw[show decide (0<=c/\c<(f.bO.length:Int))=false from mU (by omega)],HI⟩):q:=h
theorem KE(v:VP)(p:MP)(g:VF)(f:MF)(op a b c:Int)(w:Y)(i:p.small)(q:p.aC.length=3)(B:f.small)(x:Dv a)(y:Dv b)(z:Dv c)(h:Dm w v p)(A:DF w g f):
 Ai Ap 41 #[Am #[v.r,v.k,v.f,v.t],Am #[g.p,f.gV,g.l,g.c],Am #[op,a,b,c]] w λe w'=>AM e (AW p f ⟨op,a,b,c⟩)/\Ah w w w':=by
 have H:=Av (d5 i (d5 q (d5 B (d5 x (d5 y (d5 z (d5 h A)))))));have HI:Ae _:=Uw.of w v g f op a b c;obtain⟨E,vk,vf,G⟩:=v;obtain⟨gp,gl,gc⟩:=g;obtain⟨C,c2,ek⟩:∃a c,vk=Z a p.dk c:=h.dk.bW;obtain⟨D,c3,ef⟩:∃a c,vf=Z a p.aD c:=by obtain⟨xs,h1,h2,q⟩:=h.aD;exact h2.bW
 obtain⟨r4,c4,ec⟩:∃a k,gc=Z a f.bO k:=A.2.2.bW;subst ek ef ec;have au:=i.dk;have aw:=i.aD;have aA:=B.2.2;obtain⟨a0,a1⟩:=GN x;obtain⟨b0,b1⟩:=GN y;obtain⟨c0,c1⟩:=GN z;clear i q B x y z h A;by_cases q0:op<0
 . (have m:Ae (¬AW p f ⟨op,a,b,c⟩):= λe=>absurd e.1 (by dsimp only;omega));go_enter func41,ntmps41;go_wp2;go_ret;exact⟨.no m.o,HI.o.ej⟩
 by_cases q1:29<op
 . (have m:Ae (¬AW p f ⟨op,a,b,c⟩):= λe=>absurd e.2.1 (by dsimp only;omega));go_enter func41,ntmps41;go_wp2;go_ret;exact⟨.no m.o,HI.o.ej⟩
 have d:Ae (0<=op/\op<=29):=⟨oM,oM⟩
 go_enter func41,ntmps41;go_upto_region 3 with fail
 clear q0 q1;go_cut [7]from 9 to 27 (λs wx=>s=An (decide (0<=c/\c<(f.bO:Int)))/\Ae (Uw w wx ⟨E,Z C p.dk c2,Z D p.aD c3,G⟩ ⟨gp,gl,Z r4 f.bO c4⟩ f op a b c))
 case first=>
  by_cases q2:c<0
  . go_wp2_with fail;exact On
  by_cases q3:(f.bO:Int)<=c
  . have ao:¬c<(f.bO:Int):=oM;go_wp2_with fail;exact On
  have ao:c<(f.bO:Int):=oM;go_wp2_with fail;go_meet;exact⟨by rw[show decide (0<=c/\c<(f.bO:Int))=true from decide_eq_true oM],HI⟩
 case rest=>
 obtain⟨rfl,j⟩:=hcut;clear HI;obtain⟨i0,i1,i2,i3⟩:=j.o.ins;go_wp2_with fail;clear i0 i1 i2 i3;refine(Cu op _).mono ?_;rintro e u ⟨rfl,I⟩;have HJ:=Av (j.o.a7 I);clear j I;obtain⟨s,co,L⟩:=IL op;rw[L];clear L;have HIF:Ae (AW p f ⟨op,a,b,c⟩↔BO p f (AX op) op a b c):=⟨λe=>e.2.2, λe=>⟨d.o.1,d.o.2,e⟩⟩;have hF:0<=AX op/\AX op<=11:=by obtain⟨k,rfl⟩:=mA d.o.1;exact(LG k (by have:=d.o.2;omega)).1
 generalize ae:AX op=F at*;clear ae;obtain⟨f0,f1⟩:=hF;generalize ah:p.dk.length=N at*;generalize aj:p.aD.length=O at*;generalize am:f.bO.length=n3 at*;have HL:=Av (d5 ah (d5 aj am));obtain⟨p0,p1,p2,p3⟩:=HJ.o.prog;obtain⟨i0,i1,i2,i3⟩:=HJ.o.ins;obtain⟨g0,g1,g2,g3⟩:=HJ.o.func;simp only[]at p0 p1 p2 p3 g0 g1 g2 g3;have aq:=LT s co F;by_cases P:F=0
 . subst P;exact GA
 by_cases Q:F=1
 . subst Q;exact GA
 by_cases F9:F=9
 . subst F9;exact GA
 by_cases S:F=11
 . subst S;exact GA
 by_cases U:F=2
 . subst U;exact Ol
 by_cases R:F=10
 . subst R;exact Ol
 by_cases V:F=3
 . subst V;go_wp2_with fail;refine(Jb ⟨E,Z C N c2,Z D O c3,G⟩ p a b _ H.o.1 H.o.2.1 H.o.2.2.2.1 H.o.2.2.2.2.1 ((H.o.2.2.2.2.2.2.1).a7 HJ.o.ej lR)).mono ?_;rintro e u2 ⟨rfl,bl2⟩;have HK:=Av (HJ.o.a7 bl2);clear bl2;obtain⟨i0,i1,i2,i3⟩:=HK.o.ins;generalize hT:BQ p a b=T;have HT:=Av hT;clear hT;exact Ix
 by_cases W:F=4
 . subst W;go_wp2_with fail;refine(R6 ⟨E,Z C N c2,Z D O c3,G⟩ p op a b c _ H.o.1 H.o.2.1 H.o.2.2.2.1 H.o.2.2.2.2.1 H.o.2.2.2.2.2.1 ((H.o.2.2.2.2.2.2.1).a7 HJ.o.ej lR)).mono ?_;rintro e u2 ⟨⟨n,rfl,hbm⟩,bl2⟩;have HK:=Av (HJ.o.a7 bl2);clear bl2;clear p0 p1 p2 p3 i0 i1 i2 i3 g0 g1 g2 g3;obtain⟨i0,i1,i2,i3⟩:=HK.o.ins;cases n
   . (have HT:Ae (¬ER p a b c):= λe=>by simp[e]at hbm);clear hbm;exact Ix
   have HT:Ae (ER p a b c):=hbm.1 rfl;clear hbm;exact Ix
 by_cases X:F=8
 . subst X;go_wp2_with fail;refine(Ei a _).mono ?_;rintro e u2 ⟨rfl,rfl⟩;cases t1:Fo a
   . go_wp2_with fail;all_goals(go_ret;refine⟨AM.of ?_,HJ.o.ej⟩;rw[HIF.o];obtain⟨l1,l2,l3⟩:=HL.o;go_light;simp_all [BO,BN]<;>omega)
   go_wp2_with fail;refine(Ei b _).mono ?_;rintro e u2 ⟨rfl,rfl⟩;(cases t2:Fo b);all_goals
    exact GA
 go_wp2_with fail;refine(Qo F a _ oM).mono ?_;rintro e u2 ⟨⟨n,rfl,hbm⟩,rfl⟩;cases n
 . (have HT:Ae (¬BN F a):= λe=>by simp[e]at hbm);exact Om
 have HT:Ae (BN F a):=hbm.1 rfl;exact Om
end Go.Proofs.YtadcneiiokbofaaGreat
