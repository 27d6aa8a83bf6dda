import Derived.Test.YtmalfecapdmdbaaGreatHo6
import Derived.Deep.Light
namespace Go.Proofs.YtmalfecapdmdbaaGreat
open Go.ChangeShapes Go.WideShapes Go.ChangeAt Go.RowKit Go.Proofs.Tryz
set_option linter.unusedVariables false
open Go.Value renaming slice → Z,int → Ag,agg → Am,bool → An
open Go renaming Value → J,World → Y,Calls → Ai
open Go.RowKit renaming Hid → Ae,Below → Ah
open Go.Obj renaming cells → Ak
open Go.Proofs.Tryz renaming prog → Ap
open Go.World renaming alloc → Ac
set_option maxHeartbeats 4000000
set_option maxRecDepth 100000
variable {q:Prop}
def X4:Option J->Int
 |some (Ag _ z)=>z
 |_=>0
def AV(op:Int):Int:=X4 (Cv op)[2]?
theorem Iq(op:Int):∃(s:ByteArray) (c:Int),Cv op=#[.string s,iZ c,iZ (AV op)]:=by
 obtain⟨s,c,f,h⟩:=Ps op;refine⟨s,c,?_⟩;rw[h];have:AV op=f:=by unfold AV;rw[h];rfl
 rw[this]
theorem Lb(k:Nat)(a:k<30):(0<=AV k/\AV k<=11)/\(AV k=3->k=4\/k=5)/\(AV k=4->k=6\/k=7):=by
 have h:∀k:Fin 30,(0<=AV (k.val:Int)/\AV (k.val:Int)<=11)/\(AV (k.val:Int)=3->k.val=4\/k.val=5)/\(AV (k.val:Int)=4->k.val=6\/k.val=7):=by decide+kernel
 exact h ⟨k,a⟩
def Bz(F t:Int):Prop:=(F=5/\(t=2\/t=3))\/(F=6/\(t=1\/t=3))\/(F=7/\Ec t=true)
def BA(p:MP)(f:MF)(F op a b c:Int):Prop:=
 (F=0/\a=0/\b=0/\c=0)\/(F=1/\0<=a/\a< ↑p.ej/\b=0/\c=0)\/(F=2/\¬AN f a=0/\b=0/\c=0)\/
 (F=3/\¬BC p a b=0/\c=0/\(op=4\/¬a=0))\/(F=4/\Ex p a b c/\(op=6\/¬a=0))\/(Bz F a/\b=0/\c=0)\/
 (F=8/\Ec a=true/\Ec b=true/\¬a=b/\c=0)\/(F=9/\a=0/\b=0/\0<=c/\c< ↑f.eC)\/
 (F=10/\¬AN f a=0/\b=0/\0<=c/\c< ↑f.eC)\/(F=11/\0<=a/\a< ↑p.bW/\b=0/\c=0)
def AS(p:MP)(f:MF)(x:MI):Prop:=0<=x.op/\x.op<=29/\BA p f (AV x.op) x.op x.a x.b x.c
structure TK(w u:Y)(v:VP)(g:VF)(f:MF)(op a b c:Int):Prop where
 e8:Ah w w u
 prog:CX u w v.r v.k v.f v.t
 func:CX u ((w:Nat)+1) g.p f.gy g.l g.c
 ins:CX u ((w:Nat)+1+1) op a b c
theorem TK.a7{w u e:Y}{v:VP}{g:VF}{f:MF}{op a b c:Int}(h:TK w u v g f op a b c)(d:Ah u u e):TK w e v g f op a b c:=⟨Ar h.e8 lR d,h.prog.a7 d,h.func.a7 d,h.ins.a7 d⟩
theorem TK.of(w:Y)(v:VP)(g:VF)(f:MF)(op a b c:Int):TK w (Ac (Ac (Ac w (Ak #[v.r,v.k,v.f,v.t] 36)) (Ak #[g.p,f.gy,g.l,g.c] 70)) (Ak #[op,a,b,c] 72)) v g f op a b c:=by
 refine⟨Ar (Ar (Aq _ _) lR (Aq _ _)) lR (Aq _ _),((CX.new w _ _ _ _ _).alloc _).alloc _,?_,?_⟩
 . have:=(CX.new (Ac w (Ak #[v.r,v.k,v.f,v.t] 36)) g.p f.gy g.l g.c 70).alloc (Ak #[op,a,b,c] 72);simpa using this
 have:=CX.new (Ac (Ac w (Ak #[v.r,v.k,v.f,v.t] 36)) (Ak #[g.p,f.gy,g.l,g.c] 70)) op a b c 72;simpa using this
theorem JT(h:q:=by go_wp2;all_goals(go_ret;refine⟨AJ.of ?_,rfl⟩;go_light;simp_all [Bz])):q:=h
theorem Px(F t:Int)(w:Y)(a:F=5\/F=6\/F=7):Ai Ap 57 #[F,t] w λe b=>AJ e (Bz F t)/\b=w:=by
 rcases a with rfl|rfl|rfl
 . go_enter func57,ntmps57;exact JT
 . go_enter func57,ntmps57;exact JT
 go_enter func57,ntmps57;go_wp2_with fail;refine(DU t _).mono ?_;rintro e u ⟨rfl,rfl⟩;exact JT
theorem Lq(s:ByteArray)(co F:Int)(w:Y):(Instr.field 117 (Am #[.string s,co,F]) 2).run Ap w=.ok F w:=kR
theorem Ia(h:q:=by go_wp2_with fail;all_goals(go_ret;refine⟨AJ.of ?_,HK.e8⟩;rw[HIF.o];obtain⟨l1,l2,l3⟩:=HL.o;go_light;have lt:=HT.o;simp_all [BA,Bz]<;>omega)):q:=h
theorem Gg(h:q:=by go_wp2_with fail;all_goals(go_ret;refine⟨AJ.of ?_,HJ.e8⟩;rw[HIF.o];obtain⟨l1,l2,l3⟩:=HL.o;go_light;simp_all [BA,Bz]<;>omega)):q:=h
theorem NK(h:q:=by go_wp2_with fail;refine(Eo ⟨gp,gl,Z r4 n3 c4⟩ f a _ H.o.2.2.1 H.o.2.2.2.1 ((H.o.2.2.2.2.2.2.2).a7 HJ.o.e8 lR)).mono ?_;rintro e u2 ⟨rfl,bl2⟩;have HK:=Av (HJ.o.a7 bl2);clear bl2;clear p0 p1 p2 p3 i0 i1 i2 i3 g0 g1 g2 g3;obtain⟨i0,i1,i2,i3⟩:=HK.o.ins;generalize hT:AN f a=T;have HT:=Av hT;clear hT;exact Ia):q:=h
theorem NM(h:q:=by clear hbm;go_wp2_with fail;all_goals(go_ret;refine⟨AJ.of ?_,HJ.o.e8⟩;rw[HIF.o];obtain⟨l1,l2,l3⟩:=HL.o;go_light;have lt:=HT.o;simp_all [BA]<;>omega)):q:=h
theorem NN(h:q:=by go_meet;exact⟨by rw[show decide (0<=c/\c<(f.eC.length:Int))=false from lZ (by omega)],HI⟩):q:=h
theorem Kb(v:VP)(p:MP)(g:VF)(f:MF)(op a b c:Int)(w:Y)(i:p.small)(q:p.bO.length=3)(B:f.small)(x:Dg a)(y:Dg b)(z:Dg c)(h:Da w v p)(A:DE w g f):
 Ai Ap 33 #[Am #[v.r,v.k,v.f,v.t],Am #[g.p,f.gy,g.l,g.c],Am #[op,a,b,c]] w λe w'=>AJ e (AS p f ⟨op,a,b,c⟩)/\Ah w w w':=by
 have H:=Av (d5 i (d5 q (d5 B (d5 x (d5 y (d5 z (d5 h A)))))));have HI:Ae _:=TK.of w v g f op a b c;obtain⟨E,vk,vf,G⟩:=v;obtain⟨gp,gl,gc⟩:=g;obtain⟨C,c2,ek⟩:∃a c,vk=Z a p.ej c:=h.ej.dk;obtain⟨D,c3,ef⟩:∃a c,vf=Z a p.bW c:=by obtain⟨xs,h1,h2,q⟩:=h.bW;exact h2.dk
 obtain⟨r4,c4,ec⟩:∃a k,gc=Z a f.eC k:=A.2.2.dk;subst ek ef ec;have au:=i.ej;have aw:=i.bW;have aA:=B.2.2;obtain⟨a0,a1⟩:=Gs x;obtain⟨b0,b1⟩:=Gs y;obtain⟨c0,c1⟩:=Gs z;clear i q B x y z h A;by_cases q0:op<0
 . (have m:Ae (¬AS p f ⟨op,a,b,c⟩):= λe=>absurd e.1 (by dsimp only;omega));go_enter func33,ntmps33;go_wp2;go_ret;exact⟨.no m.o,HI.o.e8⟩
 by_cases q1:29<op
 . (have m:Ae (¬AS p f ⟨op,a,b,c⟩):= λe=>absurd e.2.1 (by dsimp only;omega));go_enter func33,ntmps33;go_wp2;go_ret;exact⟨.no m.o,HI.o.e8⟩
 have d:Ae (0<=op/\op<=29):=⟨oM,oM⟩
 go_enter func33,ntmps33;go_upto_region 3 with fail
 clear q0 q1;go_cut [7]from 9 to 27 (λs wx=>s=An (decide (0<=c/\c<(f.eC:Int)))/\Ae (TK w wx ⟨E,Z C p.ej c2,Z D p.bW c3,G⟩ ⟨gp,gl,Z r4 f.eC c4⟩ f op a b c))
 case first=>
  by_cases q2:c<0
  . go_wp2_with fail;exact NN
  by_cases q3:(f.eC:Int)<=c
  . have ao:¬c<(f.eC:Int):=oM;go_wp2_with fail;exact NN
  have ao:c<(f.eC:Int):=oM;go_wp2_with fail;go_meet;exact⟨by rw[show decide (0<=c/\c<(f.eC:Int))=true from decide_eq_true oM],HI⟩
 case rest=>
 obtain⟨rfl,j⟩:=hcut;clear HI;obtain⟨i0,i1,i2,i3⟩:=j.o.ins;go_wp2_with fail;clear i0 i1 i2 i3;refine(Cs op _).mono ?_;rintro e u ⟨rfl,I⟩;have HJ:=Av (j.o.a7 I);clear j I;obtain⟨s,co,L⟩:=Iq op;rw[L];clear L;have HIF:Ae (AS p f ⟨op,a,b,c⟩↔BA p f (AV op) op a b c):=⟨λe=>e.2.2, λe=>⟨d.o.1,d.o.2,e⟩⟩;have hF:0<=AV op/\AV op<=11:=by obtain⟨k,rfl⟩:=kX d.o.1;exact(Lb k (by have:=d.o.2;omega)).1
 generalize ae:AV op=F at*;clear ae;obtain⟨f0,f1⟩:=hF;generalize ah:p.ej.length=N at*;generalize aj:p.bW.length=O at*;generalize am:f.eC.length=n3 at*;have HL:=Av (d5 ah (d5 aj am));obtain⟨p0,p1,p2,p3⟩:=HJ.o.prog;obtain⟨i0,i1,i2,i3⟩:=HJ.o.ins;obtain⟨g0,g1,g2,g3⟩:=HJ.o.func;simp only[]at p0 p1 p2 p3 g0 g1 g2 g3;have aq:=Lq s co F;by_cases P:F=0
 . subst P;exact Gg
 by_cases Q:F=1
 . subst Q;exact Gg
 by_cases F9:F=9
 . subst F9;exact Gg
 by_cases S:F=11
 . subst S;exact Gg
 by_cases U:F=2
 . subst U;exact NK
 by_cases R:F=10
 . subst R;exact NK
 by_cases V:F=3
 . subst V;go_wp2_with fail;refine(IG ⟨E,Z C N c2,Z D O c3,G⟩ p a b _ H.o.1 H.o.2.1 H.o.2.2.2.1 H.o.2.2.2.2.1 ((H.o.2.2.2.2.2.2.1).a7 HJ.o.e8 lR)).mono ?_;rintro e u2 ⟨rfl,bl2⟩;have HK:=Av (HJ.o.a7 bl2);clear bl2;obtain⟨i0,i1,i2,i3⟩:=HK.o.ins;generalize hT:BC p a b=T;have HT:=Av hT;clear hT;exact Ia
 by_cases W:F=4
 . subst W;go_wp2_with fail;refine(Rj ⟨E,Z C N c2,Z D O c3,G⟩ p op a b c _ H.o.1 H.o.2.1 H.o.2.2.2.1 H.o.2.2.2.2.1 H.o.2.2.2.2.2.1 ((H.o.2.2.2.2.2.2.1).a7 HJ.o.e8 lR)).mono ?_;rintro e u2 ⟨⟨n,rfl,hbm⟩,bl2⟩;have HK:=Av (HJ.o.a7 bl2);clear bl2;clear p0 p1 p2 p3 i0 i1 i2 i3 g0 g1 g2 g3;obtain⟨i0,i1,i2,i3⟩:=HK.o.ins;cases n
   . (have HT:Ae (¬Ex p a b c):= λe=>by simp[e]at hbm);clear hbm;exact Ia
   have HT:Ae (Ex p a b c):=hbm.1 rfl;clear hbm;exact Ia
 by_cases X:F=8
 . subst X;go_wp2_with fail;refine(DU a _).mono ?_;rintro e u2 ⟨rfl,rfl⟩;cases t1:Ec a
   . go_wp2_with fail;all_goals(go_ret;refine⟨AJ.of ?_,HJ.o.e8⟩;rw[HIF.o];obtain⟨l1,l2,l3⟩:=HL.o;go_light;simp_all [BA,Bz]<;>omega)
   go_wp2_with fail;refine(DU b _).mono ?_;rintro e u2 ⟨rfl,rfl⟩;(cases t2:Ec b);all_goals
    exact Gg
 go_wp2_with fail;refine(Px F a _ oM).mono ?_;rintro e u2 ⟨⟨n,rfl,hbm⟩,rfl⟩;cases n
 . (have HT:Ae (¬Bz F a):= λe=>by simp[e]at hbm);exact NM
 have HT:Ae (Bz F a):=hbm.1 rfl;exact NM
end Go.Proofs.YtmalfecapdmdbaaGreat
