import Derived.Test.YthjbicggfnnonaaGreatDoorCw10
import Derived.Deep.Light
namespace Go.Proofs.YthjbicggfnnonaaGreatDoor
open Go.ChangeShapes Go.WideShapes Go.ChangeAt Go.RowKit
set_option linter.unusedVariables false
set_option maxHeartbeats 4000000
set_option maxRecDepth 100000
def Wc:Option Value->Int
 |some (.int _ z)=>z
 |_=>0
def AW(op:Int):Int:=Wc (Dk op)[2]?
theorem Ix(op:Int):∃(s:ByteArray) (c:Int),Dk op=#[.string s,iZ c,iZ (AW op)]:=by
 obtain⟨s,c,f,h⟩:=NZ op;refine⟨s,c,?_⟩;rw[h];have:AW op=f:=by unfold AW;rw[h];rfl
 rw[this]
theorem KJ(k:Nat)(a:k<30):(0<=AW k/\AW k<=11)/\(AW k=3->k=4\/k=5)/\(AW k=4->k=6\/k=7):=by
 have h:∀k:Fin 30,(0<=AW (k.val:Int)/\AW (k.val:Int)<=11)/\(AW (k.val:Int)=3->k.val=4\/k.val=5)/\(AW (k.val:Int)=4->k.val=6\/k.val=7):=by decide+kernel
 exact h ⟨k,a⟩
def Bb(F t:Int):Prop:=(F=5/\(t=2\/t=3))\/(F=6/\(t=1\/t=3))\/(F=7/\Fk t=true)
def A4(p:MP)(f:MF)(F op a b c:Int):Prop:=
 (F=0/\a=0/\b=0/\c=0)\/(F=1/\0<=a/\a<p.ag.length/\b=0/\c=0)\/(F=2/\¬AR f a=0/\b=0/\c=0)\/
 (F=3/\¬Ch p a b=0/\c=0/\(op=4\/¬a=0))\/(F=4/\EY p a b c/\(op=6\/¬a=0))\/(Bb F a/\b=0/\c=0)\/
 (F=8/\Fk a=true/\Fk b=true/\¬a=b/\c=0)\/(F=9/\a=0/\b=0/\0<=c/\c<f.code.length)\/
 (F=10/\¬AR f a=0/\b=0/\0<=c/\c<f.code.length)\/(F=11/\0<=a/\a<p.funcs.length/\b=0/\c=0)
def A8(p:MP)(f:MF)(x:MI):Prop:=0<=x.op/\x.op<=29/\A4 p f (AW x.op) x.op x.a x.b x.c
structure Rm(w u:World)(v:VP)(g:VF)(f:MF)(op a b c:Int):Prop where
 aC:Below w.heap.size w u
 prog:Ep u w.heap.size v.r v.k v.f v.t
 func:Ep u (w.heap.size+1) g.p (iZ f.result) g.l g.c
 ins:Ep u (w.heap.size+1+1) (iZ op) (iZ a) (iZ b) (iZ c)
theorem Rm.aa{w u e:World}{v:VP}{g:VF}{f:MF}{op a b c:Int}(h:Rm w u v g f op a b c)(d:Below u.heap.size u e):Rm w e v g f op a b c:=⟨Ac h.aC lR d,h.prog.aa d,h.func.aa d,h.ins.aa d⟩
theorem Rm.of(w:World)(v:VP)(g:VF)(f:MF)(op a b c:Int):Rm w (((w.alloc (.cells #[v.r,v.k,v.f,v.t] 29)).alloc (.cells #[g.p,iZ f.result,g.l,g.c] 68)).alloc (.cells #[iZ op,iZ a,iZ b,iZ c] 96)) v g f op a b c:=by
 refine⟨Ac (Ac (Aa _ _) lR (Aa _ _)) lR (Aa _ _),((Ep.new w _ _ _ _ _).alloc _).alloc _,?_,?_⟩
 . have:=(Ep.new (w.alloc (.cells #[v.r,v.k,v.f,v.t] 29)) g.p (iZ f.result) g.l g.c 68).alloc (.cells #[iZ op,iZ a,iZ b,iZ c] 96);simpa using this
 have:=Ep.new ((w.alloc (.cells #[v.r,v.k,v.f,v.t] 29)).alloc (.cells #[g.p,iZ f.result,g.l,g.c] 68)) (iZ op) (iZ a) (iZ b) (iZ c) 96;simpa using this
theorem Oe(F t:Int)(w:World)(a:F=5\/F=6\/F=7):Calls Tryz.prog 75 #[iZ F,iZ t] w fun e b=>Au e (Bb F t)/\b=w:=by
 rcases a with rfl|rfl|rfl
 . go_enter Tryz.func75,Tryz.ntmps75;go_wp2;all_goals(go_ret;refine⟨Au.of ?_,rfl⟩;go_light;simp_all [Bb])
 . go_enter Tryz.func75,Tryz.ntmps75;go_wp2;all_goals(go_ret;refine⟨Au.of ?_,rfl⟩;go_light;simp_all [Bb])
 go_enter Tryz.func75,Tryz.ntmps75;go_wp2_with fail;refine(Ey t _).mono ?_;rintro e u ⟨rfl,rfl⟩;go_wp2;all_goals(go_ret;refine⟨Au.of ?_,rfl⟩;go_light;simp_all [Bb])
theorem KP(s:ByteArray)(a F:Int)(w:World):(Instr.field 133 (.agg #[.string s,iZ a,iZ F]) 2).run Tryz.prog w=.ok (iZ F) w:=kR
theorem JT(v:VP)(p:MP)(g:VF)(f:MF)(op a b c:Int)(w:World)(P:p.small)(h3:p.aB.length=3)(a6:f.small)(ha:Cr a)(hb:Cr b)(hc:Cr c)(h:Ft w v p)(hf:IG w g f):
 Calls Tryz.prog 41 #[.agg #[v.r,v.k,v.f,v.t],.agg #[g.p,iZ f.result,g.l,g.c],.agg #[iZ op,iZ a,iZ b,iZ c]] w fun e w'=>Au e (A8 p f ⟨op,a,b,c⟩)/\Below w.heap.size w w':=by
 have H:Hid (p.small/\p.aB.length=3/\f.small/\Cr a/\Cr b/\Cr c/\Ft w v p/\IG w g f):=⟨P,h3,a6,ha,hb,hc,h,hf⟩
 have I:Hid _:=Rm.of w v g f op a b c;obtain⟨vr,vk,vf,vt⟩:=v;obtain⟨Z,Y,gc⟩:=g;obtain⟨r2,c2,ek⟩:∃a c,vk=.slice a p.ag.length c:=h.ag.bW;obtain⟨r3,c3,ef⟩:∃a c,vf=.slice a p.funcs.length c:=by obtain⟨xs,h1,h2,h3⟩:=h.funcs;exact h2.bW
 obtain⟨r4,c4,ec⟩:∃a k,gc=.slice a f.code.length k:=hf.2.2.bW;subst ek ef ec;have aA:=P.ag;have aD:=P.funcs;have aE:=a6.2.2;obtain⟨a0,a1⟩:=Gy ha;obtain⟨b0,b1⟩:=Gy hb;obtain⟨c0,c1⟩:=Gy hc;clear P h3 a6 ha hb hc h hf;by_cases q0:op<0
 . (have W:Hid (¬A8 p f ⟨op,a,b,c⟩):=fun e=>absurd e.1 (by dsimp only;omega));go_enter Tryz.func41,Tryz.ntmps41;go_wp2;go_ret;exact⟨.no W.o,I.o.aC⟩
 by_cases q1:29<op
 . (have W:Hid (¬A8 p f ⟨op,a,b,c⟩):=fun e=>absurd e.2.1 (by dsimp only;omega));go_enter Tryz.func41,Tryz.ntmps41;go_wp2;go_ret;exact⟨.no W.o,I.o.aC⟩
 have K:Hid (0<=op/\op<=29):=⟨oM,oM⟩
 go_enter Tryz.func41,Tryz.ntmps41;go_upto_region 3 with fail
 clear q0 q1;go_cut [7]from 9 to 27 (fun s wx=>s=.bool (decide (0<=c/\c<(f.code.length:Int)))/\Hid (Rm w wx ⟨vr,.slice r2 p.ag.length c2,.slice r3 p.funcs.length c3,vt⟩ ⟨Z,Y,.slice r4 f.code.length c4⟩ f op a b c))
 case first=>
  by_cases q2:c<0
  . go_wp2_with fail;go_meet;exact⟨by rw[show decide (0<=c/\c<(f.code.length:Int))=false from ld oM],I⟩
  by_cases q3:(f.code.length:Int)<=c
  . have au:¬c<(f.code.length:Int):=oM;go_wp2_with fail;go_meet;exact⟨by rw[show decide (0<=c/\c<(f.code.length:Int))=false from ld oM],I⟩
  have au:c<(f.code.length:Int):=oM;go_wp2_with fail;go_meet;exact⟨by rw[show decide (0<=c/\c<(f.code.length:Int))=true from decide_eq_true oM],I⟩
 case rest=>
 obtain⟨rfl,V⟩:=hcut;clear I;obtain⟨B,C,D,E⟩:=V.o.ins;go_wp2_with fail;clear B C D E;refine(CS op _).mono ?_;rintro e u ⟨rfl,bl⟩;have d:=Ag (V.o.aa bl);clear V bl;obtain⟨s,co,a8⟩:=Ix op;rw[a8];clear a8;have i:Hid (A8 p f ⟨op,a,b,c⟩↔A4 p f (AW op) op a b c):=⟨fun e=>e.2.2,fun e=>⟨K.o.1,K.o.2,e⟩⟩;have hF:0<=AW op/\AW op<=11:=by obtain⟨k,rfl⟩:=i7 K.o.1;exact(KJ k (by have:=K.o.2;omega)).1
 generalize aj:AW op=F at*;clear aj;obtain⟨f0,f1⟩:=hF;generalize am:p.ag.length=n1 at*;generalize ao:p.funcs.length=n2 at*;generalize aq:f.code.length=n3 at*;have j:Hid (p.ag.length=n1/\p.funcs.length=n2/\f.code.length=n3):=⟨am,ao,aq⟩
 obtain⟨Q,R,S,U⟩:=d.o.prog;obtain⟨B,C,D,E⟩:=d.o.ins;obtain⟨L,M,N,O⟩:=d.o.func;simp only[]at Q R S U L M N O;have aw:=KP s co F;by_cases F0:F=0
 . subst F0;go_wp2_with fail;all_goals(go_ret;refine⟨Au.of ?_,d.o.aC⟩;rw[i.o];obtain⟨q,x,y⟩:=j.o;go_light;simp_all [A4,Bb]<;>omega)
 by_cases F1:F=1
 . subst F1;go_wp2_with fail;all_goals(go_ret;refine⟨Au.of ?_,d.o.aC⟩;rw[i.o];obtain⟨q,x,y⟩:=j.o;go_light;simp_all [A4,Bb]<;>omega)
 by_cases F9:F=9
 . subst F9;go_wp2_with fail;all_goals(go_ret;refine⟨Au.of ?_,d.o.aC⟩;rw[i.o];obtain⟨q,x,y⟩:=j.o;go_light;simp_all [A4,Bb]<;>omega)
 by_cases ah:F=11
 . subst ah;go_wp2_with fail;all_goals(go_ret;refine⟨Au.of ?_,d.o.aC⟩;rw[i.o];obtain⟨q,x,y⟩:=j.o;go_light;simp_all [A4,Bb]<;>omega)
 by_cases F2:F=2
 . subst F2;go_wp2_with fail;refine(DS ⟨Z,Y,.slice r4 n3 c4⟩ f a _ H.o.2.2.1 H.o.2.2.2.1 ((H.o.2.2.2.2.2.2.2).aa d.o.aC lR)).mono ?_;rintro e J ⟨rfl,z⟩;have n:=Ag (d.o.aa z);clear z;clear Q R S U B C D E L M N O;obtain⟨B,C,D,E⟩:=n.o.ins;generalize G:AR f a=T;have m:=Ag G;clear G;go_wp2_with fail;all_goals(go_ret;refine⟨Au.of ?_,n.o.aC⟩;rw[i.o];obtain⟨q,x,y⟩:=j.o;go_light;have lt:=m.o;simp_all [A4,Bb]<;>omega)
 by_cases ae:F=10
 . subst ae;go_wp2_with fail;refine(DS ⟨Z,Y,.slice r4 n3 c4⟩ f a _ H.o.2.2.1 H.o.2.2.2.1 ((H.o.2.2.2.2.2.2.2).aa d.o.aC lR)).mono ?_;rintro e J ⟨rfl,z⟩;have n:=Ag (d.o.aa z);clear z;clear Q R S U B C D E L M N O;obtain⟨B,C,D,E⟩:=n.o.ins;generalize G:AR f a=T;have m:=Ag G;clear G;go_wp2_with fail;all_goals(go_ret;refine⟨Au.of ?_,n.o.aC⟩;rw[i.o];obtain⟨q,x,y⟩:=j.o;go_light;have lt:=m.o;simp_all [A4,Bb]<;>omega)
 by_cases F3:F=3
 . subst F3;go_wp2_with fail;refine(IL ⟨vr,.slice r2 n1 c2,.slice r3 n2 c3,vt⟩ p a b _ H.o.1 H.o.2.1 H.o.2.2.2.1 H.o.2.2.2.2.1 ((H.o.2.2.2.2.2.2.1).aa d.o.aC lR)).mono ?_;rintro e J ⟨rfl,z⟩;have n:=Ag (d.o.aa z);clear z;obtain⟨B,C,D,E⟩:=n.o.ins;generalize G:Ch p a b=T;have m:=Ag G;clear G;go_wp2_with fail;all_goals(go_ret;refine⟨Au.of ?_,n.o.aC⟩;rw[i.o];obtain⟨q,x,y⟩:=j.o;go_light;have lt:=m.o;simp_all [A4,Bb]<;>omega)
 by_cases F4:F=4
 . subst F4;go_wp2_with fail;refine(Pf ⟨vr,.slice r2 n1 c2,.slice r3 n2 c3,vt⟩ p op a b c _ H.o.1 H.o.2.1 H.o.2.2.2.1 H.o.2.2.2.2.1 H.o.2.2.2.2.2.1 ((H.o.2.2.2.2.2.2.1).aa d.o.aC lR)).mono ?_;rintro e J ⟨⟨X,rfl,A⟩,z⟩;have n:=Ag (d.o.aa z);clear z;clear Q R S U B C D E L M N O;obtain⟨B,C,D,E⟩:=n.o.ins;cases X
   . (have m:Hid (¬EY p a b c):=fun e=>by simp[e]at A);clear A;go_wp2_with fail;all_goals(go_ret;refine⟨Au.of ?_,n.o.aC⟩;rw[i.o];obtain⟨q,x,y⟩:=j.o;go_light;have lt:=m.o;simp_all [A4,Bb]<;>omega)
   have m:Hid (EY p a b c):=A.1 rfl;clear A;go_wp2_with fail;all_goals(go_ret;refine⟨Au.of ?_,n.o.aC⟩;rw[i.o];obtain⟨q,x,y⟩:=j.o;go_light;have lt:=m.o;simp_all [A4,Bb]<;>omega)
 by_cases F8:F=8
 . subst F8;go_wp2_with fail;refine(Ey a _).mono ?_;rintro e J ⟨rfl,rfl⟩;cases t1:Fk a
   . go_wp2_with fail;all_goals(go_ret;refine⟨Au.of ?_,d.o.aC⟩;rw[i.o];obtain⟨q,x,y⟩:=j.o;go_light;simp_all [A4,Bb]<;>omega)
   go_wp2_with fail;refine(Ey b _).mono ?_;rintro e J ⟨rfl,rfl⟩;(cases t2:Fk b);all_goals
    go_wp2_with fail;all_goals(go_ret;refine⟨Au.of ?_,d.o.aC⟩;rw[i.o];obtain⟨q,x,y⟩:=j.o;go_light;simp_all [A4,Bb]<;>omega)
 go_wp2_with fail;refine(Oe F a _ oM).mono ?_;rintro e J ⟨⟨X,rfl,A⟩,rfl⟩;cases X
 . (have m:Hid (¬Bb F a):=fun e=>by simp[e]at A);clear A;go_wp2_with fail;all_goals(go_ret;refine⟨Au.of ?_,d.o.aC⟩;rw[i.o];obtain⟨q,x,y⟩:=j.o;go_light;have lt:=m.o;simp_all [A4]<;>omega)
 have m:Hid (Bb F a):=A.1 rfl;clear A;go_wp2_with fail;all_goals(go_ret;refine⟨Au.of ?_,d.o.aC⟩;rw[i.o];obtain⟨q,x,y⟩:=j.o;go_light;have lt:=m.o;simp_all [A4]<;>omega)
end Go.Proofs.YthjbicggfnnonaaGreatDoor
