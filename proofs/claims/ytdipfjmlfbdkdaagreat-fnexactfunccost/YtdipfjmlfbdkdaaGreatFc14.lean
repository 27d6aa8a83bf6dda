import Derived.Test.YtdipfjmlfbdkdaaGreatFc8
import Derived.Deep.Light
namespace Go.Proofs.YtdipfjmlfbdkdaaGreat
open Go.ChangeShapes Go.WideShapes Go.ChangeAt Go.RowKit
set_option linter.unusedVariables false
set_option maxHeartbeats 4000000
set_option maxRecDepth 100000
def Rr:Option Value->Int
 |some (.int _ z)=>z
 |_=>0
def AM(op:Int):Int:=Rr (BO op)[2]?
theorem Fv(op:Int):∃(s:ByteArray) (c:Int),BO op=#[.string s,.int .i64 c,.int .i64 (AM op)]:=by
 obtain⟨s,c,f,h⟩:=Lg op;refine⟨s,c,?_⟩;rw[h];have:AM op=f:=by unfold AM;rw[h];rfl
 rw[this]
theorem Ii(k:Nat)(hk:k<30):(0<=AM k/\AM k<=11)/\(AM k=3->k=4\/k=5)/\(AM k=4->k=6\/k=7):=by
 have h:∀k:Fin 30,(0<=AM (k.val:Int)/\AM (k.val:Int)<=11)/\(AM (k.val:Int)=3->k.val=4\/k.val=5)/\(AM (k.val:Int)=4->k.val=6\/k.val=7):=by decide+kernel
 exact h ⟨k,hk⟩
def AE(F t:Int):Prop:=(F=5/\(t=2\/t=3))\/(F=6/\(t=1\/t=3))\/(F=7/\Db t=true)
def AC(p:MP)(f:MF)(F op a b c:Int):Prop:=
 (F=0/\a=0/\b=0/\c=0)\/(F=1/\0<=a/\a<p.consts.length/\b=0/\c=0)\/(F=2/\¬AN f a=0/\b=0/\c=0)\/
 (F=3/\¬A3 p a b=0/\c=0/\(op=4\/¬a=0))\/(F=4/\CL p a b c/\(op=6\/¬a=0))\/(AE F a/\b=0/\c=0)\/
 (F=8/\Db a=true/\Db b=true/\¬a=b/\c=0)\/(F=9/\a=0/\b=0/\0<=c/\c<f.code.length)\/
 (F=10/\¬AN f a=0/\b=0/\0<=c/\c<f.code.length)\/(F=11/\0<=a/\a<p.funcs.length/\b=0/\c=0)
def AP(p:MP)(f:MF)(x:MI):Prop:=0<=x.op/\x.op<=29/\AC p f (AM x.op) x.op x.a x.b x.c
structure Oy(w u:World)(v:VP)(g:VF)(f:MF)(op a b c:Int):Prop where
 bel:Below w.heap.size w u
 prog:Cd u w.heap.size v.r v.k v.f v.t
 func:Cd u (w.heap.size+1) g.p (.int .i64 f.result) g.l g.c
 ins:Cd u (w.heap.size+1+1) (.int .i64 op) (.int .i64 a) (.int .i64 b) (.int .i64 c)
theorem Oy.keep{w u u':World}{v:VP}{g:VF}{f:MF}{op a b c:Int}(h:Oy w u v g f op a b c)(hb:Below u.heap.size u u'):Oy w u' v g f op a b c:=⟨Ab h.bel lR hb,h.prog.keep hb,h.func.keep hb,h.ins.keep hb⟩
theorem Oy.of(w:World)(v:VP)(g:VF)(f:MF)(op a b c:Int):Oy w (((w.alloc (.cells #[v.r,v.k,v.f,v.t] 35)).alloc (.cells #[g.p,.int .i64 f.result,g.l,g.c] 48)).alloc (.cells #[.int .i64 op,.int .i64 a,.int .i64 b,.int .i64 c] 60)) v g f op a b c:=by
 refine⟨Ab (Ab (Aa _ _) lR (Aa _ _)) lR (Aa _ _),((Cd.new w _ _ _ _ _).alloc _).alloc _,?_,?_⟩
 . have:=(Cd.new (w.alloc (.cells #[v.r,v.k,v.f,v.t] 35)) g.p (.int .i64 f.result) g.l g.c 48).alloc (.cells #[.int .i64 op,.int .i64 a,.int .i64 b,.int .i64 c] 60)
   simpa using this
 . have:=Cd.new ((w.alloc (.cells #[v.r,v.k,v.f,v.t] 35)).alloc (.cells #[g.p,.int .i64 f.result,g.l,g.c] 48)) (.int .i64 op) (.int .i64 a) (.int .i64 b) (.int .i64 c) 60
   simpa using this
theorem Ll(F t:Int)(w:World)(hF:F=5\/F=6\/F=7):Calls Tryz.prog 72 #[.int .i64 F,.int .i64 t] w fun e w'=>Aj e (AE F t)/\w'=w:=by
 rcases hF with rfl|rfl|rfl
 . go_enter Tryz.func72,Tryz.ntmps72
   go_wp2
   all_goals(go_ret;refine⟨Aj.of ?_,rfl⟩;go_light;simp_all [AE])
 . go_enter Tryz.func72,Tryz.ntmps72
   go_wp2
   all_goals(go_ret;refine⟨Aj.of ?_,rfl⟩;go_light;simp_all [AE])
 . go_enter Tryz.func72,Tryz.ntmps72
   go_wp2_with fail
   refine(CO t _).mono ?_;rintro e u ⟨rfl,rfl⟩;go_wp2
   all_goals(go_ret;refine⟨Aj.of ?_,rfl⟩;go_light;simp_all [AE])
theorem Iq(s:ByteArray)(co F:Int)(w:World):(Instr.field 63 (.agg #[.string s,.int .i64 co,.int .i64 F]) 2).run Tryz.prog w=.ok (.int .i64 F) w:=by kernel_rfl
theorem GX(v:VP)(p:MP)(g:VF)(f:MF)(op a b c:Int)(w:World)(hs:p.small)(h3:p.regions.length=3)(hfs:f.small)(ha:CD a)(hb:CD b)(hc:CD c)(h:Dg w v p)(hf:C9 w g f):
 Calls Tryz.prog 40 #[.agg #[v.r,v.k,v.f,v.t],.agg #[g.p,.int .i64 f.result,g.l,g.c],.agg #[.int .i64 op,.int .i64 a,.int .i64 b,.int .i64 c]] w fun e w'=>Aj e (AP p f ⟨op,a,b,c⟩)/\Below w.heap.size w w':=by
 have H:Hid (p.small/\p.regions.length=3/\f.small/\CD a/\CD b/\CD c/\Dg w v p/\C9 w g f):=⟨hs,h3,hfs,ha,hb,hc,h,hf⟩
 have HI:Hid _:=Oy.of w v g f op a b c;obtain⟨vr,vk,vf,vt⟩:=v;obtain⟨gp,gl,gc⟩:=g;obtain⟨r2,c2,ek⟩:∃a c,vk=.slice a p.consts.length c:=h.consts.is_slice;obtain⟨r3,c3,ef⟩:∃a c,vf=.slice a p.funcs.length c:=by obtain⟨xs,h1,h2,h3⟩:=h.funcs;exact h2.is_slice
 obtain⟨r4,c4,ec⟩:∃a k,gc=.slice a f.code.length k:=hf.2.2.is_slice;subst ek ef ec;have hz1:=hs.consts;have hz2:=hs.funcs;have hz3:=hfs.2.2;obtain⟨a0,a1⟩:=Ei ha;obtain⟨b0,b1⟩:=Ei hb;obtain⟨c0,c1⟩:=Ei hc;clear hs h3 hfs ha hb hc h hf;by_cases q0:op<0
 . have HN:Hid (¬AP p f ⟨op,a,b,c⟩):=fun e=>absurd e.1 (by dsimp only;omega)
   go_enter Tryz.func40,Tryz.ntmps40;go_wp2
   go_ret
   exact⟨.no HN.o,HI.o.bel⟩
 by_cases q1:29<op
 . have HN:Hid (¬AP p f ⟨op,a,b,c⟩):=fun e=>absurd e.2.1 (by dsimp only;omega)
   go_enter Tryz.func40,Tryz.ntmps40;go_wp2
   go_ret
   exact⟨.no HN.o,HI.o.bel⟩
 have HO:Hid (0<=op/\op<=29):=⟨by omega,by omega⟩
 go_enter Tryz.func40,Tryz.ntmps40;go_upto_region 3 with fail
 clear q0 q1;go_cut [7]from 9 to 27 (fun s wx=>s=.bool (decide (0<=c/\c<(f.code.length:Int)))/\Hid (Oy w wx ⟨vr,.slice r2 p.consts.length c2,.slice r3 p.funcs.length c3,vt⟩ ⟨gp,gl,.slice r4 f.code.length c4⟩ f op a b c))
 case first=>
  by_cases q2:c<0
  . go_wp2_with fail
    go_meet
    exact⟨by rw[show decide (0<=c/\c<(f.code.length:Int))=false from bI (by omega)],HI⟩
  by_cases q3:(f.code.length:Int)<=c
  . have q3':¬c<(f.code.length:Int):=by omega
    go_wp2_with fail
    go_meet
    exact⟨by rw[show decide (0<=c/\c<(f.code.length:Int))=false from bI (by omega)],HI⟩
  . have q3':c<(f.code.length:Int):=by omega
    go_wp2_with fail
    go_meet
    exact⟨by rw[show decide (0<=c/\c<(f.code.length:Int))=true from decide_eq_true (by omega)],HI⟩
 case rest=>
 obtain⟨rfl,HI2⟩:=hcut;clear HI;obtain⟨i0,i1,i2,i3⟩:=HI2.o.ins;go_wp2_with fail
 clear i0 i1 i2 i3;refine(Jy op _).mono ?_;rintro e u ⟨rfl,bl⟩;have HJ:Hid (Oy w u ⟨vr,.slice r2 p.consts.length c2,.slice r3 p.funcs.length c3,vt⟩ ⟨gp,gl,.slice r4 f.code.length c4⟩ f op a b c):=HI2.o.keep bl;clear HI2 bl;obtain⟨s,co,hinf⟩:=Fv op;rw[hinf];clear hinf;have HIF:Hid (AP p f ⟨op,a,b,c⟩↔AC p f (AM op) op a b c):=⟨fun e=>e.2.2,fun e=>⟨HO.o.1,HO.o.2,e⟩⟩
 have hF:0<=AM op/\AM op<=11:=by
  obtain⟨k,rfl⟩:=aT HO.o.1;exact(Ii k (by have:=HO.o.2;omega)).1
 generalize hFF:AM op=F at*;clear hFF;obtain⟨f0,f1⟩:=hF;generalize hn1:p.consts.length=n1 at*;generalize hn2:p.funcs.length=n2 at*;generalize hn3:f.code.length=n3 at*;have HL:Hid (p.consts.length=n1/\p.funcs.length=n2/\f.code.length=n3):=⟨hn1,hn2,hn3⟩
 clear hn1 hn2 hn3;obtain⟨p0,p1,p2,p3⟩:=HJ.o.prog;obtain⟨i0,i1,i2,i3⟩:=HJ.o.ins;obtain⟨g0,g1,g2,g3⟩:=HJ.o.func;simp only[]at p0 p1 p2 p3 g0 g1 g2 g3;have hfd:=Iq s co F;by_cases F0:F=0
 . subst F0
   go_wp2_with fail
   all_goals(go_ret;refine⟨Aj.of ?_,HJ.o.bel⟩;rw[HIF.o];obtain⟨l1,l2,l3⟩:=HL.o;go_light;simp_all [AC,AE]<;>omega)
 by_cases F1:F=1
 . subst F1
   go_wp2_with fail
   all_goals(go_ret;refine⟨Aj.of ?_,HJ.o.bel⟩;rw[HIF.o];obtain⟨l1,l2,l3⟩:=HL.o;go_light;simp_all [AC,AE]<;>omega)
 by_cases F9:F=9
 . subst F9
   go_wp2_with fail
   all_goals(go_ret;refine⟨Aj.of ?_,HJ.o.bel⟩;rw[HIF.o];obtain⟨l1,l2,l3⟩:=HL.o;go_light;simp_all [AC,AE]<;>omega)
 by_cases F11:F=11
 . subst F11
   go_wp2_with fail
   all_goals(go_ret;refine⟨Aj.of ?_,HJ.o.bel⟩;rw[HIF.o];obtain⟨l1,l2,l3⟩:=HL.o;go_light;simp_all [AC,AE]<;>omega)
 by_cases F2:F=2
 . subst F2
   go_wp2_with fail
   refine(EO ⟨gp,gl,.slice r4 n3 c4⟩ f a _ H.o.2.2.1 H.o.2.2.2.1 ((H.o.2.2.2.2.2.2.2).keep HJ.o.bel lR)).mono ?_;rintro e u2 ⟨rfl,bl2⟩;have HK:Hid (Oy w u2 ⟨vr,.slice r2 n1 c2,.slice r3 n2 c3,vt⟩ ⟨gp,gl,.slice r4 n3 c4⟩ f op a b c):=HJ.o.keep bl2;clear bl2;clear p0 p1 p2 p3 i0 i1 i2 i3 g0 g1 g2 g3;obtain⟨i0,i1,i2,i3⟩:=HK.o.ins;generalize hT:AN f a=T;have HT:Hid (AN f a=T):=hT;clear hT;go_wp2_with fail
   all_goals(go_ret;refine⟨Aj.of ?_,HK.o.bel⟩;rw[HIF.o];obtain⟨l1,l2,l3⟩:=HL.o;go_light;have lt:=HT.o;simp_all [AC,AE]<;>omega)
 by_cases F10:F=10
 . subst F10
   go_wp2_with fail
   refine(EO ⟨gp,gl,.slice r4 n3 c4⟩ f a _ H.o.2.2.1 H.o.2.2.2.1 ((H.o.2.2.2.2.2.2.2).keep HJ.o.bel lR)).mono ?_;rintro e u2 ⟨rfl,bl2⟩;have HK:Hid (Oy w u2 ⟨vr,.slice r2 n1 c2,.slice r3 n2 c3,vt⟩ ⟨gp,gl,.slice r4 n3 c4⟩ f op a b c):=HJ.o.keep bl2;clear bl2;clear p0 p1 p2 p3 i0 i1 i2 i3 g0 g1 g2 g3;obtain⟨i0,i1,i2,i3⟩:=HK.o.ins;generalize hT:AN f a=T;have HT:Hid (AN f a=T):=hT;clear hT;go_wp2_with fail
   all_goals(go_ret;refine⟨Aj.of ?_,HK.o.bel⟩;rw[HIF.o];obtain⟨l1,l2,l3⟩:=HL.o;go_light;have lt:=HT.o;simp_all [AC,AE]<;>omega)
 by_cases F3:F=3
 . subst F3
   go_wp2_with fail
   refine(FI ⟨vr,.slice r2 n1 c2,.slice r3 n2 c3,vt⟩ p a b _ H.o.1 H.o.2.1 H.o.2.2.2.1 H.o.2.2.2.2.1 ((H.o.2.2.2.2.2.2.1).keep HJ.o.bel lR)).mono ?_;rintro e u2 ⟨rfl,bl2⟩;have HK:Hid (Oy w u2 ⟨vr,.slice r2 n1 c2,.slice r3 n2 c3,vt⟩ ⟨gp,gl,.slice r4 n3 c4⟩ f op a b c):=HJ.o.keep bl2;clear bl2;clear p0 p1 p2 p3 i0 i1 i2 i3 g0 g1 g2 g3;obtain⟨i0,i1,i2,i3⟩:=HK.o.ins;generalize hT:A3 p a b=T;have HT:Hid (A3 p a b=T):=hT;clear hT;go_wp2_with fail
   all_goals(go_ret;refine⟨Aj.of ?_,HK.o.bel⟩;rw[HIF.o];obtain⟨l1,l2,l3⟩:=HL.o;go_light;have lt:=HT.o;simp_all [AC,AE]<;>omega)
 by_cases F4:F=4
 . subst F4
   go_wp2_with fail
   refine(MA ⟨vr,.slice r2 n1 c2,.slice r3 n2 c3,vt⟩ p op a b c _ H.o.1 H.o.2.1 H.o.2.2.2.1 H.o.2.2.2.2.1 H.o.2.2.2.2.2.1 ((H.o.2.2.2.2.2.2.1).keep HJ.o.bel lR)).mono ?_;rintro e u2 ⟨⟨bm,rfl,hbm⟩,bl2⟩;have HK:Hid (Oy w u2 ⟨vr,.slice r2 n1 c2,.slice r3 n2 c3,vt⟩ ⟨gp,gl,.slice r4 n3 c4⟩ f op a b c):=HJ.o.keep bl2;clear bl2;clear p0 p1 p2 p3 i0 i1 i2 i3 g0 g1 g2 g3;obtain⟨i0,i1,i2,i3⟩:=HK.o.ins;cases bm
   . have HT:Hid (¬CL p a b c):=fun e=>by simp[e]at hbm
     clear hbm;go_wp2_with fail
     all_goals(go_ret;refine⟨Aj.of ?_,HK.o.bel⟩;rw[HIF.o];obtain⟨l1,l2,l3⟩:=HL.o;go_light;have lt:=HT.o;simp_all [AC,AE]<;>omega)
   . have HT:Hid (CL p a b c):=hbm.1 rfl
     clear hbm;go_wp2_with fail
     all_goals(go_ret;refine⟨Aj.of ?_,HK.o.bel⟩;rw[HIF.o];obtain⟨l1,l2,l3⟩:=HL.o;go_light;have lt:=HT.o;simp_all [AC,AE]<;>omega)
 by_cases F8:F=8
 . subst F8
   go_wp2_with fail
   refine(CO a _).mono ?_;rintro e u2 ⟨rfl,rfl⟩;cases t1:Db a
   . go_wp2_with fail
     all_goals(go_ret;refine⟨Aj.of ?_,HJ.o.bel⟩;rw[HIF.o];obtain⟨l1,l2,l3⟩:=HL.o;go_light;simp_all [AC,AE]<;>omega)
   go_wp2_with fail
   refine(CO b _).mono ?_;rintro e u2 ⟨rfl,rfl⟩;cases t2:Db b
   all_goals
    go_wp2_with fail
    all_goals(go_ret;refine⟨Aj.of ?_,HJ.o.bel⟩;rw[HIF.o];obtain⟨l1,l2,l3⟩:=HL.o;go_light;simp_all [AC,AE]<;>omega)
 go_wp2_with fail
 refine(Ll F a _ (by omega)).mono ?_;rintro e u2 ⟨⟨bm,rfl,hbm⟩,rfl⟩;cases bm
 . have HT:Hid (¬AE F a):=fun e=>by simp[e]at hbm
   clear hbm;go_wp2_with fail
   all_goals(go_ret;refine⟨Aj.of ?_,HJ.o.bel⟩;rw[HIF.o];obtain⟨l1,l2,l3⟩:=HL.o;go_light;have lt:=HT.o;simp_all [AC]<;>omega)
 . have HT:Hid (AE F a):=hbm.1 rfl
   clear hbm;go_wp2_with fail
   all_goals(go_ret;refine⟨Aj.of ?_,HJ.o.bel⟩;rw[HIF.o];obtain⟨l1,l2,l3⟩:=HL.o;go_light;have lt:=HT.o;simp_all [AC]<;>omega)
end Go.Proofs.YtdipfjmlfbdkdaaGreat
