import Derived.Test.YtlejplpkomddeaaGreatR0
import Derived.Test.YtlejplpkomddeaaGreatR7
import Derived.Test.YtlejplpkomddeaaGreatR1
import Derived.Deep.Light
namespace Go.Proofs.YtlejplpkomddeaaGreat
open Go.ChangeShapes Go.WideShapes Go.ChangeAt Go.RowKit
set_option linter.unusedVariables false
set_option maxHeartbeats 4000000
set_option maxRecDepth 100000
def Pn:Option Value->Int
 |some (.int _ z)=>z
 |_=>0
def AC(op:Int):Int:=Pn (Bt op)[2]?
theorem FT(op:Int):∃(s:ByteArray) (c:Int),Bt op=#[.string s,.int .i64 c,.int .i64 (AC op)]:=by
 obtain⟨s,c,f,h⟩:=GQ op;refine⟨s,c,?_⟩;rw[h];have:AC op=f:=by unfold AC;rw[h];rfl
 rw[this]
theorem In(k:Nat)(hk:k<30):(0<=AC k/\AC k<=11)/\(AC k=3->k=4\/k=5)/\(AC k=4->k=6\/k=7):=by
 have h:∀k:Fin 30,(0<=AC (k.val:Int)/\AC (k.val:Int)<=11)/\(AC (k.val:Int)=3->k.val=4\/k.val=5)/\(AC (k.val:Int)=4->k.val=6\/k.val=7):=by decide+kernel
 exact h ⟨k,hk⟩
def AQ(F t:Int):Prop:=(F=5/\(t=2\/t=3))\/(F=6/\(t=1\/t=3))\/(F=7/\CE t=true)
def AP(p:MP)(f:MF)(F op a b c:Int):Prop:=
 (F=0/\a=0/\b=0/\c=0)\/(F=1/\0<=a/\a<p.consts.length/\b=0/\c=0)\/(F=2/\¬Av f a=0/\b=0/\c=0)\/
 (F=3/\¬Bl p a b=0/\c=0/\(op=4\/¬a=0))\/(F=4/\DP p a b c/\(op=6\/¬a=0))\/(AQ F a/\b=0/\c=0)\/
 (F=8/\CE a=true/\CE b=true/\¬a=b/\c=0)\/(F=9/\a=0/\b=0/\0<=c/\c<f.code.length)\/
 (F=10/\¬Av f a=0/\b=0/\0<=c/\c<f.code.length)\/(F=11/\0<=a/\a<p.funcs.length/\b=0/\c=0)
def AN(p:MP)(f:MF)(x:MI):Prop:=0<=x.op/\x.op<=29/\AP p f (AC x.op) x.op x.a x.b x.c
structure On(w u:World)(v:VP)(g:VF)(f:MF)(op a b c:Int):Prop where
 bel:Below w.heap.size w u
 prog:CY u w.heap.size v.r v.k v.f v.t
 func:CY u (w.heap.size+1) g.p (.int .i64 f.result) g.l g.c
 ins:CY u (w.heap.size+1+1) (.int .i64 op) (.int .i64 a) (.int .i64 b) (.int .i64 c)
theorem On.keep{w u u':World}{v:VP}{g:VF}{f:MF}{op a b c:Int}(h:On w u v g f op a b c)(hb:Below u.heap.size u u'):On w u' v g f op a b c:=⟨Ab h.bel lR hb,h.prog.keep hb,h.func.keep hb,h.ins.keep hb⟩
theorem On.of(w:World)(v:VP)(g:VF)(f:MF)(op a b c:Int):On w (((w.alloc (.cells #[v.r,v.k,v.f,v.t] 45)).alloc (.cells #[g.p,.int .i64 f.result,g.l,g.c] 131)).alloc (.cells #[.int .i64 op,.int .i64 a,.int .i64 b,.int .i64 c] 134)) v g f op a b c:=by
 refine⟨Ab (Ab (Aa _ _) lR (Aa _ _)) lR (Aa _ _),((CY.new w _ _ _ _ _).alloc _).alloc _,?_,?_⟩
 ·have:=(CY.new (w.alloc (.cells #[v.r,v.k,v.f,v.t] 45)) g.p (.int .i64 f.result) g.l g.c 131).alloc (.cells #[.int .i64 op,.int .i64 a,.int .i64 b,.int .i64 c] 134)
  simpa using this
 ·have:=CY.new ((w.alloc (.cells #[v.r,v.k,v.f,v.t] 45)).alloc (.cells #[g.p,.int .i64 f.result,g.l,g.c] 131)) (.int .i64 op) (.int .i64 a) (.int .i64 b) (.int .i64 c) 134
  simpa using this
theorem Lc(F t:Int)(w:World)(hF:F=5\/F=6\/F=7):Calls Tryz.prog 182 #[.int .i64 F,.int .i64 t] w fun e w'=>Ar e (AQ F t)/\w'=w:=by
 rcases hF with rfl|rfl|rfl
 ·go_enter Tryz.func182,Tryz.ntmps182
  go_wp2
  all_goals(go_ret;refine⟨Ar.of ?_,rfl⟩;go_light;simp_all [AQ])
 ·go_enter Tryz.func182,Tryz.ntmps182
  go_wp2
  all_goals(go_ret;refine⟨Ar.of ?_,rfl⟩;go_light;simp_all [AQ])
 ·go_enter Tryz.func182,Tryz.ntmps182
  go_wp2_with fail
  refine(BH t _).mono ?_;rintro e u ⟨rfl,rfl⟩;go_wp2
  all_goals(go_ret;refine⟨Ar.of ?_,rfl⟩;go_light;simp_all [AQ])
theorem Hr(s:ByteArray)(co F:Int)(w:World):(Instr.field 85 (.agg #[.string s,.int .i64 co,.int .i64 F]) 2).run Tryz.prog w=.ok (.int .i64 F) w:=by kernel_rfl
theorem GO(v:VP)(p:MP)(g:VF)(f:MF)(op a b c:Int)(w:World)(hs:p.small)(h3:p.regions.length=3)(hfs:f.small)(ha:Dr a)(hb:Dr b)(hc:Dr c)(h:Cx w v p)(hf:CP w g f):
 Calls Tryz.prog 120 #[.agg #[v.r,v.k,v.f,v.t],.agg #[g.p,.int .i64 f.result,g.l,g.c],.agg #[.int .i64 op,.int .i64 a,.int .i64 b,.int .i64 c]] w fun e w'=>Ar e (AN p f ⟨op,a,b,c⟩)/\Below w.heap.size w w':=by
 have H:Hid (p.small/\p.regions.length=3/\f.small/\Dr a/\Dr b/\Dr c/\Cx w v p/\CP w g f):=⟨hs,h3,hfs,ha,hb,hc,h,hf⟩
 have HI:Hid _:=On.of w v g f op a b c;obtain⟨vr,vk,vf,vt⟩:=v;obtain⟨gp,gl,gc⟩:=g;obtain⟨r2,c2,ek⟩:∃a c,vk=.slice a p.consts.length c:=h.consts.is_slice;obtain⟨r3,c3,ef⟩:∃a c,vf=.slice a p.funcs.length c:=by obtain⟨xs,h1,h2,h3⟩:=h.funcs;exact h2.is_slice
 obtain⟨r4,c4,ec⟩:∃a k,gc=.slice a f.code.length k:=hf.2.2.is_slice;subst ek ef ec;have hz1:=hs.consts;have hz2:=hs.funcs;have hz3:=hfs.2.2;obtain⟨a0,a1⟩:=Dz ha;obtain⟨b0,b1⟩:=Dz hb;obtain⟨c0,c1⟩:=Dz hc;clear hs h3 hfs ha hb hc h hf;by_cases q0:op<0
 ·have HN:Hid (¬AN p f ⟨op,a,b,c⟩):=fun e=>absurd e.1 (by dsimp only;omega)
  go_enter Tryz.func120,Tryz.ntmps120;go_wp2
  go_ret
  exact⟨.no HN.out,HI.out.bel⟩
 by_cases q1:29<op
 ·have HN:Hid (¬AN p f ⟨op,a,b,c⟩):=fun e=>absurd e.2.1 (by dsimp only;omega)
  go_enter Tryz.func120,Tryz.ntmps120;go_wp2
  go_ret
  exact⟨.no HN.out,HI.out.bel⟩
 have HO:Hid (0<=op/\op<=29):=⟨by omega,by omega⟩
 go_enter Tryz.func120,Tryz.ntmps120;go_upto_region 3 with fail
 clear q0 q1;go_cut [7]from 9 to 27 (fun s wx=>s=.bool (decide (0<=c/\c<(f.code.length:Int)))/\Hid (On w wx ⟨vr,.slice r2 p.consts.length c2,.slice r3 p.funcs.length c3,vt⟩ ⟨gp,gl,.slice r4 f.code.length c4⟩ f op a b c))
 case first=>
  by_cases q2:c<0
  ·go_wp2_with fail
   go_meet
   exact⟨by rw[show decide (0<=c/\c<(f.code.length:Int))=false from decide_eq_false (by omega)],HI⟩
  by_cases q3:(f.code.length:Int)<=c
  ·have q3':¬c<(f.code.length:Int):=by omega
   go_wp2_with fail
   go_meet
   exact⟨by rw[show decide (0<=c/\c<(f.code.length:Int))=false from decide_eq_false (by omega)],HI⟩
  ·have q3':c<(f.code.length:Int):=by omega
   go_wp2_with fail
   go_meet
   exact⟨by rw[show decide (0<=c/\c<(f.code.length:Int))=true from decide_eq_true (by omega)],HI⟩
 case rest=>
 obtain⟨rfl,HI2⟩:=hcut;clear HI;obtain⟨i0,i1,i2,i3⟩:=HI2.out.ins;go_wp2_with fail
 clear i0 i1 i2 i3;refine(AZ op _).mono ?_;rintro e u ⟨rfl,bl⟩;have HJ:=AS (HI2.out.keep bl);clear HI2 bl;obtain⟨s,co,hinf⟩:=FT op;rw[hinf];clear hinf;have HIF:Hid (AN p f ⟨op,a,b,c⟩↔AP p f (AC op) op a b c):=⟨fun e=>e.2.2,fun e=>⟨HO.out.1,HO.out.2,e⟩⟩
 have hF:0<=AC op/\AC op<=11:=by
  obtain⟨k,rfl⟩:=Int.eq_ofNat_of_zero_le HO.out.1;exact(In k (by have:=HO.out.2;omega)).1
 generalize hFF:AC op=F at*;clear hFF;obtain⟨f0,f1⟩:=hF;generalize hn1:p.consts.length=n1 at*;generalize hn2:p.funcs.length=n2 at*;generalize hn3:f.code.length=n3 at*;have HL:=h3 hn1 hn2 hn3;clear hn1 hn2 hn3;obtain⟨p0,p1,p2,p3⟩:=HJ.out.prog;obtain⟨i0,i1,i2,i3⟩:=HJ.out.ins;obtain⟨g0,g1,g2,g3⟩:=HJ.out.func;simp only[]at p0 p1 p2 p3 g0 g1 g2 g3;have hfd:=Hr s co F;by_cases F0:F=0
 ·subst F0
  go_wp2_with fail
  all_goals(go_ret;refine⟨Ar.of ?_,HJ.out.bel⟩;rw[HIF.out];obtain⟨l1,l2,l3⟩:=HL.out;go_light;simp_all [AP,AQ]<;>omega)
 by_cases F1:F=1
 ·subst F1
  go_wp2_with fail
  all_goals(go_ret;refine⟨Ar.of ?_,HJ.out.bel⟩;rw[HIF.out];obtain⟨l1,l2,l3⟩:=HL.out;go_light;simp_all [AP,AQ]<;>omega)
 by_cases F9:F=9
 ·subst F9
  go_wp2_with fail
  all_goals(go_ret;refine⟨Ar.of ?_,HJ.out.bel⟩;rw[HIF.out];obtain⟨l1,l2,l3⟩:=HL.out;go_light;simp_all [AP,AQ]<;>omega)
 by_cases F11:F=11
 ·subst F11
  go_wp2_with fail
  all_goals(go_ret;refine⟨Ar.of ?_,HJ.out.bel⟩;rw[HIF.out];obtain⟨l1,l2,l3⟩:=HL.out;go_light;simp_all [AP,AQ]<;>omega)
 by_cases F2:F=2
 ·subst F2
  go_wp2_with fail
  refine(Dh ⟨gp,gl,.slice r4 n3 c4⟩ f a _ H.out.2.2.1 H.out.2.2.2.1 ((H.out.2.2.2.2.2.2.2).keep HJ.out.bel lR)).mono ?_;rintro e u2 ⟨rfl,bl2⟩;have HK:=AS (HJ.out.keep bl2);clear bl2;clear p0 p1 p2 p3 i0 i1 i2 i3 g0 g1 g2 g3;obtain⟨i0,i1,i2,i3⟩:=HK.out.ins;generalize hT:Av f a=T;have HT:Hid (Av f a=T):=hT;clear hT;go_wp2_with fail
  all_goals(go_ret;refine⟨Ar.of ?_,HK.out.bel⟩;rw[HIF.out];obtain⟨l1,l2,l3⟩:=HL.out;go_light;have lt:=HT.out;simp_all [AP,AQ]<;>omega)
 by_cases F10:F=10
 ·subst F10
  go_wp2_with fail
  refine(Dh ⟨gp,gl,.slice r4 n3 c4⟩ f a _ H.out.2.2.1 H.out.2.2.2.1 ((H.out.2.2.2.2.2.2.2).keep HJ.out.bel lR)).mono ?_;rintro e u2 ⟨rfl,bl2⟩;have HK:=AS (HJ.out.keep bl2);clear bl2;clear p0 p1 p2 p3 i0 i1 i2 i3 g0 g1 g2 g3;obtain⟨i0,i1,i2,i3⟩:=HK.out.ins;generalize hT:Av f a=T;have HT:Hid (Av f a=T):=hT;clear hT;go_wp2_with fail
  all_goals(go_ret;refine⟨Ar.of ?_,HK.out.bel⟩;rw[HIF.out];obtain⟨l1,l2,l3⟩:=HL.out;go_light;have lt:=HT.out;simp_all [AP,AQ]<;>omega)
 by_cases F3:F=3
 ·subst F3
  go_wp2_with fail
  refine(Gb ⟨vr,.slice r2 n1 c2,.slice r3 n2 c3,vt⟩ p a b _ H.out.1 H.out.2.1 H.out.2.2.2.1 H.out.2.2.2.2.1 ((H.out.2.2.2.2.2.2.1).keep HJ.out.bel lR)).mono ?_;rintro e u2 ⟨rfl,bl2⟩;have HK:=AS (HJ.out.keep bl2);clear bl2;clear p0 p1 p2 p3 i0 i1 i2 i3 g0 g1 g2 g3;obtain⟨i0,i1,i2,i3⟩:=HK.out.ins;generalize hT:Bl p a b=T;have HT:Hid (Bl p a b=T):=hT;clear hT;go_wp2_with fail
  all_goals(go_ret;refine⟨Ar.of ?_,HK.out.bel⟩;rw[HIF.out];obtain⟨l1,l2,l3⟩:=HL.out;go_light;have lt:=HT.out;simp_all [AP,AQ]<;>omega)
 by_cases F4:F=4
 ·subst F4
  go_wp2_with fail
  refine(Lw ⟨vr,.slice r2 n1 c2,.slice r3 n2 c3,vt⟩ p op a b c _ H.out.1 H.out.2.1 H.out.2.2.2.1 H.out.2.2.2.2.1 H.out.2.2.2.2.2.1 ((H.out.2.2.2.2.2.2.1).keep HJ.out.bel lR)).mono ?_;rintro e u2 ⟨⟨bm,rfl,hbm⟩,bl2⟩;have HK:=AS (HJ.out.keep bl2);clear bl2;clear p0 p1 p2 p3 i0 i1 i2 i3 g0 g1 g2 g3;obtain⟨i0,i1,i2,i3⟩:=HK.out.ins;cases bm
  ·have HT:Hid (¬DP p a b c):=fun e=>by simp[e]at hbm
   clear hbm;go_wp2_with fail
   all_goals(go_ret;refine⟨Ar.of ?_,HK.out.bel⟩;rw[HIF.out];obtain⟨l1,l2,l3⟩:=HL.out;go_light;have lt:=HT.out;simp_all [AP,AQ]<;>omega)
  ·have HT:=AS (hbm.1 rfl)
   clear hbm;go_wp2_with fail
   all_goals(go_ret;refine⟨Ar.of ?_,HK.out.bel⟩;rw[HIF.out];obtain⟨l1,l2,l3⟩:=HL.out;go_light;have lt:=HT.out;simp_all [AP,AQ]<;>omega)
 by_cases F8:F=8
 ·subst F8
  go_wp2_with fail
  refine(BH a _).mono ?_;rintro e u2 ⟨rfl,rfl⟩;cases t1:CE a
  ·go_wp2_with fail
   all_goals(go_ret;refine⟨Ar.of ?_,HJ.out.bel⟩;rw[HIF.out];obtain⟨l1,l2,l3⟩:=HL.out;go_light;simp_all [AP,AQ]<;>omega)
  go_wp2_with fail
  refine(BH b _).mono ?_;rintro e u2 ⟨rfl,rfl⟩;cases t2:CE b
  all_goals
   go_wp2_with fail
   all_goals(go_ret;refine⟨Ar.of ?_,HJ.out.bel⟩;rw[HIF.out];obtain⟨l1,l2,l3⟩:=HL.out;go_light;simp_all [AP,AQ]<;>omega)
 go_wp2_with fail
 refine(Lc F a _ (by omega)).mono ?_;rintro e u2 ⟨⟨bm,rfl,hbm⟩,rfl⟩;cases bm
 ·have HT:Hid (¬AQ F a):=fun e=>by simp[e]at hbm
  clear hbm;go_wp2_with fail
  all_goals(go_ret;refine⟨Ar.of ?_,HJ.out.bel⟩;rw[HIF.out];obtain⟨l1,l2,l3⟩:=HL.out;go_light;have lt:=HT.out;simp_all [AP]<;>omega)
 ·have HT:Hid (AQ F a):=hbm.1 rfl
  clear hbm;go_wp2_with fail
  all_goals(go_ret;refine⟨Ar.of ?_,HJ.out.bel⟩;rw[HIF.out];obtain⟨l1,l2,l3⟩:=HL.out;go_light;have lt:=HT.out;simp_all [AP]<;>omega)
end Go.Proofs.YtlejplpkomddeaaGreat
