import Derived.Test.YtjnglocdoljgkaaGreatSw5
import Derived.Deep.Light
namespace Go.Proofs.YtjnglocdoljgkaaGreat
open Go.ChangeShapes Go.WideShapes Go.ChangeAt Go.RowKit
set_option linter.unusedVariables false
open Go.Value renaming slice → Z,int → Ac
open Go renaming Value → J,World → Y,Calls → Ae
open Go.RowKit renaming Hid → Aa,Below → Ad
set_option maxHeartbeats 4000000
set_option maxRecDepth 100000
variable {q:Prop}
def XR:Option J->Int
 |some (Ac _ z)=>z
 |_=>0
def AG(op:Int):Int:=XR (Dc op)[2]?
theorem Il(op:Int):∃(s:ByteArray) (c:Int),Dc op=#[.string s,iZ c,iZ (AG op)]:=by
 obtain⟨s,c,f,h⟩:=OC op;refine⟨s,c,?_⟩;rw[h];have:AG op=f:=by unfold AG;rw[h];rfl
 rw[this]
theorem KE(k:Nat)(a:k<30):(0<=AG k/\AG k<=11)/\(AG k=3->k=4\/k=5)/\(AG k=4->k=6\/k=7):=by
 have h:∀k:Fin 30,(0<=AG (k.val:Int)/\AG (k.val:Int)<=11)/\(AG (k.val:Int)=3->k.val=4\/k.val=5)/\(AG (k.val:Int)=4->k.val=6\/k.val=7):=by decide+kernel
 exact h ⟨k,a⟩
def BM(F t:Int):Prop:=(F=5/\(t=2\/t=3))\/(F=6/\(t=1\/t=3))\/(F=7/\DC t=true)
def BQ(p:MP)(f:MF)(F op a b c:Int):Prop:=
 (F=0/\a=0/\b=0/\c=0)\/(F=1/\0<=a/\a< ↑p.aC/\b=0/\c=0)\/(F=2/\¬Ay f a=0/\b=0/\c=0)\/
 (F=3/\¬BR p a b=0/\c=0/\(op=4\/¬a=0))\/(F=4/\Et p a b c/\(op=6\/¬a=0))\/(BM F a/\b=0/\c=0)\/
 (F=8/\DC a=true/\DC b=true/\¬a=b/\c=0)\/(F=9/\a=0/\b=0/\0<=c/\c< ↑f.ch)\/
 (F=10/\¬Ay f a=0/\b=0/\0<=c/\c< ↑f.ch)\/(F=11/\0<=a/\a< ↑p.cC/\b=0/\c=0)
def AK(p:MP)(f:MF)(x:MI):Prop:=0<=x.op/\x.op<=29/\BQ p f (AG x.op) x.op x.a x.b x.c
structure S3(w u:Y)(v:VP)(g:VF)(f:MF)(op a b c:Int):Prop where
 gG:Ad w w u
 prog:DU u w v.r v.k v.f v.t
 func:DU u ((w:Nat)+1) g.p (iZ f.gz) g.l g.c
 ins:DU u ((w:Nat)+1+1) (iZ op) (iZ a) (iZ b) (iZ c)
theorem S3.bM{w u i:Y}{v:VP}{g:VF}{f:MF}{op a b c:Int}(h:S3 w u v g f op a b c)(e:Ad u u i):S3 w i v g f op a b c:=⟨Ai h.gG lR e,h.prog.bM e,h.func.bM e,h.ins.bM e⟩
theorem S3.of(w:Y)(v:VP)(g:VF)(f:MF)(op a b c:Int):S3 w (((w.alloc (.cells #[v.r,v.k,v.f,v.t] 28)).alloc (.cells #[g.p,iZ f.gz,g.l,g.c] 51)).alloc (.cells #[iZ op,iZ a,iZ b,iZ c] 60)) v g f op a b c:=by
 refine⟨Ai (Ai (Ag _ _) lR (Ag _ _)) lR (Ag _ _),((DU.new w _ _ _ _ _).alloc _).alloc _,?_,?_⟩
 . have:=(DU.new (w.alloc (.cells #[v.r,v.k,v.f,v.t] 28)) g.p (iZ f.gz) g.l g.c 51).alloc (.cells #[iZ op,iZ a,iZ b,iZ c] 60);simpa using this
 have:=DU.new ((w.alloc (.cells #[v.r,v.k,v.f,v.t] 28)).alloc (.cells #[g.p,iZ f.gz,g.l,g.c] 51)) (iZ op) (iZ a) (iZ b) (iZ c) 60;simpa using this
theorem JR(h:q:=by go_wp2;all_goals(go_ret;refine⟨AC.of ?_,rfl⟩;go_light;simp_all [BM])):q:=h
theorem OM(F t:Int)(w:Y)(a:F=5\/F=6\/F=7):Ae Tryz.prog 74 #[iZ F,iZ t] w λe b=>AC e (BM F t)/\b=w:=by
 rcases a with rfl|rfl|rfl
 . go_enter Tryz.func74,Tryz.ntmps74;exact JR
 . go_enter Tryz.func74,Tryz.ntmps74;exact JR
 go_enter Tryz.func74,Tryz.ntmps74;go_wp2_with fail;refine(D7 t _).mono ?_;rintro e u ⟨rfl,rfl⟩;exact JR
theorem KP(s:ByteArray)(a F:Int)(w:Y):(Instr.field 143 (.agg #[.string s,iZ a,iZ F]) 2).run Tryz.prog w=.ok (iZ F) w:=kR
theorem H6(h:q:=by go_wp2_with fail;all_goals(go_ret;refine⟨AC.of ?_,HK.o.gG⟩;rw[HIF.o];obtain⟨l1,l2,l3⟩:=HL.o;go_light;have lt:=HT.o;simp_all [BQ,BM]<;>omega)):q:=h
theorem Gi(h:q:=by go_wp2_with fail;all_goals(go_ret;refine⟨AC.of ?_,HJ.o.gG⟩;rw[HIF.o];obtain⟨l1,l2,l3⟩:=HL.o;go_light;simp_all [BQ,BM]<;>omega)):q:=h
theorem M5(h:q:=by go_wp2_with fail;refine(Ek ⟨gp,gl,Z r4 n3 c4⟩ f a _ H.o.2.2.1 H.o.2.2.2.1 ((H.o.2.2.2.2.2.2.2).bM HJ.o.gG lR)).mono ?_;rintro e u2 ⟨rfl,bl2⟩;have HK:=Ap (HJ.o.bM bl2);clear bl2;clear p0 p1 p2 p3 i0 i1 i2 i3 g0 g1 g2 g3;obtain⟨i0,i1,i2,i3⟩:=HK.o.ins;generalize hT:Ay f a=T;have HT:=Ap hT;clear hT;exact H6):q:=h
theorem M6(h:q:=by clear hbm;go_wp2_with fail;all_goals(go_ret;refine⟨AC.of ?_,HJ.o.gG⟩;rw[HIF.o];obtain⟨l1,l2,l3⟩:=HL.o;go_light;have lt:=HT.o;simp_all [BQ]<;>omega)):q:=h
theorem M7(h:q:=by go_meet;exact⟨by rw[show decide (0<=c/\c<(f.ch:Int))=false from mj (by omega)],HI⟩):q:=h
theorem JZ(v:VP)(p:MP)(g:VF)(f:MF)(op a b c:Int)(w:Y)(j:p.small)(y:p.a7.length=3)(D:f.small)(z:CO a)(A:CO b)(B:CO c)(h:Cz w v p)(C:Dt w g f):
 Ae Tryz.prog 34 #[.agg #[v.r,v.k,v.f,v.t],.agg #[g.p,iZ f.gz,g.l,g.c],.agg #[iZ op,iZ a,iZ b,iZ c]] w λe w'=>AC e (AK p f ⟨op,a,b,c⟩)/\Ad w w w':=by
 have H:Aa (p.small/\p.a7.length=3/\f.small/\CO a/\CO b/\CO c/\Cz w v p/\Dt w g f):=⟨j,y,D,z,A,B,h,C⟩
 have HI:Aa _:=S3.of w v g f op a b c;obtain⟨N,vk,vf,O⟩:=v;obtain⟨gp,gl,gc⟩:=g;obtain⟨I,c2,ek⟩:∃a c,vk=Z a p.aC c:=h.aC.fu;obtain⟨L,c3,ef⟩:∃a c,vf=Z a p.cC c:=by obtain⟨xs,h1,h2,y⟩:=h.cC;exact h2.fu
 obtain⟨r4,c4,ec⟩:∃a k,gc=Z a f.ch k:=C.2.2.fu;subst ek ef ec;have aq:=j.aC;have au:=j.cC;have aw:=D.2.2;obtain⟨a0,a1⟩:=Gs z;obtain⟨b0,b1⟩:=Gs A;obtain⟨c0,c1⟩:=Gs B;clear j y D z A B h C;by_cases q0:op<0
 . (have n:Aa (¬AK p f ⟨op,a,b,c⟩):= λe=>absurd e.1 (by dsimp only;omega));go_enter Tryz.func34,Tryz.ntmps34;go_wp2;go_ret;exact⟨.no n.o,HI.o.gG⟩
 by_cases q1:29<op
 . (have n:Aa (¬AK p f ⟨op,a,b,c⟩):= λe=>absurd e.2.1 (by dsimp only;omega));go_enter Tryz.func34,Tryz.ntmps34;go_wp2;go_ret;exact⟨.no n.o,HI.o.gG⟩
 have i:Aa (0<=op/\op<=29):=⟨oM,oM⟩
 go_enter Tryz.func34,Tryz.ntmps34;go_upto_region 3 with fail
 clear q0 q1;go_cut [7]from 9 to 27 (λs wx=>s=.bool (decide (0<=c/\c<(f.ch:Int)))/\Aa (S3 w wx ⟨N,Z I p.aC c2,Z L p.cC c3,O⟩ ⟨gp,gl,Z r4 f.ch c4⟩ f op a b c))
 case first=>
  by_cases q2:c<0
  . go_wp2_with fail;exact M7
  by_cases q3:(f.ch:Int)<=c
  . have am:¬c<(f.ch:Int):=oM;go_wp2_with fail;exact M7
  have am:c<(f.ch:Int):=oM;go_wp2_with fail;go_meet;exact⟨by rw[show decide (0<=c/\c<(f.ch:Int))=true from decide_eq_true oM],HI⟩
 case rest=>
 obtain⟨rfl,m⟩:=hcut;clear HI;obtain⟨i0,i1,i2,i3⟩:=m.o.ins;go_wp2_with fail;clear i0 i1 i2 i3;refine(CG op _).mono ?_;rintro e u ⟨rfl,P⟩;have HJ:=Ap (m.o.bM P);clear m P;obtain⟨s,co,Q⟩:=Il op;rw[Q];clear Q;have HIF:Aa (AK p f ⟨op,a,b,c⟩↔BQ p f (AG op) op a b c):=⟨λe=>e.2.2, λe=>⟨i.o.1,i.o.2,e⟩⟩;have hF:0<=AG op/\AG op<=11:=by obtain⟨k,rfl⟩:=kU i.o.1;exact(KE k (by have:=i.o.2;omega)).1
 generalize a8:AG op=F at*;clear a8;obtain⟨f0,f1⟩:=hF;generalize ae: ↑p.aC=E at*
 generalize ah: ↑p.cC=G at*
 generalize aj: ↑f.ch=n3 at*
 have HL:Aa (↑p.aC=E/\ ↑p.cC=G/\ ↑f.ch=n3):=⟨ae,ah,aj⟩
 obtain⟨p0,p1,p2,p3⟩:=HJ.o.prog;obtain⟨i0,i1,i2,i3⟩:=HJ.o.ins;obtain⟨g0,g1,g2,g3⟩:=HJ.o.func;simp only[]at p0 p1 p2 p3 g0 g1 g2 g3;have ao:=KP s co F;by_cases R:F=0
 . subst R;exact Gi
 by_cases S:F=1
 . subst S;exact Gi
 by_cases F9:F=9
 . subst F9;exact Gi
 by_cases V:F=11
 . subst V;exact Gi
 by_cases W:F=2
 . subst W;exact M5
 by_cases U:F=10
 . subst U;exact M5
 by_cases X:F=3
 . subst X;go_wp2_with fail;refine(Iz ⟨N,Z I E c2,Z L G c3,O⟩ p a b _ H.o.1 H.o.2.1 H.o.2.2.2.1 H.o.2.2.2.2.1 ((H.o.2.2.2.2.2.2.1).bM HJ.o.gG lR)).mono ?_;rintro e u2 ⟨rfl,bl2⟩;have HK:=Ap (HJ.o.bM bl2);clear bl2;obtain⟨i0,i1,i2,i3⟩:=HK.o.ins;generalize hT:BR p a b=T;have HT:=Ap hT;clear hT;exact H6
 by_cases F4:F=4
 . subst F4;go_wp2_with fail;refine(Qo ⟨N,Z I E c2,Z L G c3,O⟩ p op a b c _ H.o.1 H.o.2.1 H.o.2.2.2.1 H.o.2.2.2.2.1 H.o.2.2.2.2.2.1 ((H.o.2.2.2.2.2.2.1).bM HJ.o.gG lR)).mono ?_;rintro e u2 ⟨⟨q,rfl,hbm⟩,bl2⟩;have HK:=Ap (HJ.o.bM bl2);clear bl2;clear p0 p1 p2 p3 i0 i1 i2 i3 g0 g1 g2 g3;obtain⟨i0,i1,i2,i3⟩:=HK.o.ins;cases q
   . (have HT:Aa (¬Et p a b c):= λe=>by simp[e]at hbm);clear hbm;exact H6
   have HT:Aa (Et p a b c):=hbm.1 rfl;clear hbm;exact H6
 by_cases F8:F=8
 . subst F8;go_wp2_with fail;refine(D7 a _).mono ?_;rintro e u2 ⟨rfl,rfl⟩;cases t1:DC a
   . go_wp2_with fail;all_goals(go_ret;refine⟨AC.of ?_,HJ.o.gG⟩;rw[HIF.o];obtain⟨l1,l2,l3⟩:=HL.o;go_light;simp_all [BQ,BM]<;>omega)
   go_wp2_with fail;refine(D7 b _).mono ?_;rintro e u2 ⟨rfl,rfl⟩;(cases t2:DC b);all_goals
    exact Gi
 go_wp2_with fail;refine(OM F a _ oM).mono ?_;rintro e u2 ⟨⟨q,rfl,hbm⟩,rfl⟩;cases q
 . (have HT:Aa (¬BM F a):= λe=>by simp[e]at hbm);exact M6
 have HT:Aa (BM F a):=hbm.1 rfl;exact M6
end Go.Proofs.YtjnglocdoljgkaaGreat
