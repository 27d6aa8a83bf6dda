import Derived.Test.YtdipfjmlfbdkdaaGreatFc24
namespace Go.Proofs.YtdipfjmlfbdkdaaGreat
open Go.ChangeShapes Go.WideShapes Go.ChangeAt Go.RowKit
set_option linter.unusedVariables false
set_option maxHeartbeats 4000000
set_option maxRecDepth 100000
def Fo(w:World)(s:Value)(rs:List (List Int)):Prop:=∃xs:List (List Int×Value),xs.map Prod.fst=rs/\Rd w 1 s rs.length (xs.flatMap Bl)/\∀x∈xs,Rd w 1 x.2 x.1.length (x.1.flatMap Ac)/\∃a c,x.2=.slice a x.1.length c/\x.1.length<=c
theorem Fo.rd{w:World}{s:Value}{rs:List (List Int)}(h:Fo w s rs):OI w s rs:=by
 obtain⟨xs,h1,h2,h3⟩:=h;exact⟨xs,h1,h2,fun x hx=>(h3 x hx).1⟩
theorem Fo.keep{w w':World}{s:Value}{rs:List (List Int)}(h:Fo w s rs){B:Nat}(hb:Below B w w')(hB:w.heap.size<=B):Fo w' s rs:=by
 obtain⟨xs,h1,h2,h3⟩:=h;exact⟨xs,h1,h2.keep hb hB,fun x hx=>⟨(h3 x hx).1.keep hb hB,(h3 x hx).2⟩⟩
theorem Rd.drop{w:World}{g o n c c':Nat}{xs:List Int}(h:∀j u,(xs.flatMap Ac)[j]?=some u->w.cell? ⟨g,o+j,none⟩=some u)(b:Nat)(hb:b<xs.length):Rd w 1 (.slice (some ⟨g,o+b,none⟩) (xs.length-b) c') (xs.drop b).length ((xs.drop b).flatMap Ac):=by
 refine⟨by rw[As Ac 1 Ap],.inr ⟨g,o+b,c',by rw[dA],fun j u hj=> ?_⟩⟩
 have hl:j<(xs.drop b).length:=by
  have:=(aD.1 hj).1;rw[As Ac 1 Ap,bf]at this;exact this
 have e1:=FZ Ac 1 Ap (xs.drop b) j 0 _ (aA hl) (by omega);rw[bf,aS]at e1;rw[e1]at hj;have hl':b+j<xs.length:=by rw[dA]at hl;omega
 have e2:=FZ Ac 1 Ap xs (b+j) 0 _ (aA hl') (by omega);rw[bf,aS]at e2;rw[Nat.add_assoc];refine h (b+j) u ?_;rw[e2];rw[List.getElem_drop]at hj;exact hj
structure PA(w u:World)(v:VP)(g:VF)(f:MF)(op a b c:Int):Prop where
 bel:Below w.heap.size w u
 scope:Jw u w.heap.size v.r v.k v.f v.t g.p (.int .i64 f.result) g.l g.c
 ins:Cd u (w.heap.size+1) (.int .i64 op) (.int .i64 a) (.int .i64 b) (.int .i64 c)
theorem PA.keep{w u u':World}{v:VP}{g:VF}{f:MF}{op a b c:Int}(h:PA w u v g f op a b c)(hb:Below u.heap.size u u'):PA w u' v g f op a b c:=⟨Ab h.bel lR hb,h.scope.keep hb,h.ins.keep hb⟩
theorem PA.of(w:World)(v:VP)(g:VF)(f:MF)(op a b c:Int):PA w ((w.alloc (.cells #[v.r,v.k,v.f,v.t,g.p,.int .i64 f.result,g.l,g.c] 83)).alloc (.cells #[.int .i64 op,.int .i64 a,.int .i64 b,.int .i64 c] 60)) v g f op a b c:=by
 refine⟨Ab (Aa _ _) lR (Aa _ _),(Jw.new w _ _ _ _ _ _ _ _ _).alloc _,?_⟩;have:=Cd.new (w.alloc (.cells #[v.r,v.k,v.f,v.t,g.p,.int .i64 f.result,g.l,g.c] 83)) (.int .i64 op) (.int .i64 a) (.int .i64 b) (.int .i64 c) 60;simpa using this
theorem N8(v:VP)(p:MP)(g:VF)(f:MF)(op a b c:Int)(w:World)(hs:p.small)(hp:Aq p.regions)(hfo:B6 f)(hfs:f.small)(ha:CD a)(hb:CD b)(hc:CD c)(h:Dg w v p)(hcap:Fo w v.r p.regions)(hf:C9 w g f):
 Calls Tryz.prog 109 #[.agg #[v.r,v.k,v.f,v.t,g.p,.int .i64 f.result,g.l,g.c],.agg #[.int .i64 op,.int .i64 a,.int .i64 b,.int .i64 c]] w fun e w'=>Aj e (AP p f ⟨op,a,b,c⟩)/\Below w.heap.size w w':=by
 have H:Hid (p.small/\Aq p.regions/\f.small/\B6 f/\Dg w v p/\C9 w g f/\Fo w v.r p.regions):=⟨hs,hp,hfs,hfo,h,hf,hcap⟩
 have HI:Hid _:=PA.of w v g f op a b c
 obtain⟨vr,vk,vf,vt⟩:=v
 obtain⟨gp,gl,gc⟩:=g
 obtain⟨r2,c2,ek⟩:∃a c,vk=.slice a p.consts.length c:=h.consts.is_slice
 obtain⟨r3,c3,ef⟩:∃a c,vf=.slice a p.funcs.length c:=by obtain⟨xs,h1,h2,h3⟩:=h.funcs;exact h2.is_slice
 obtain⟨r4,c4,ec⟩:∃a k,gc=.slice a f.code.length k:=hf.2.2.is_slice
 subst ek ef ec
 have hz1:=hs.consts
 have hz2:=hs.funcs
 have hz3:=hfs.2.2
 obtain⟨a0,a1⟩:=Ei ha
 obtain⟨b0,b1⟩:=Ei hb
 obtain⟨c0,c1⟩:=Ei hc
 clear hs hp hfo hfs ha hb hc h hf hcap
 by_cases q0:0<=op/\op<30
 . have HO:Hid (0<=op/\op<=29):=⟨by omega,by omega⟩
   have hit:decide (0<=op/\op<30)=true:=decide_eq_true q0
   clear q0
   go_enter Tryz.func109,Tryz.ntmps109
   go_wp2_with fail
   refine(Ay op 30 _).mono ?_
   rintro e u ⟨rfl,rfl⟩
   rw[hit]
   go_wp2_with fail
   refine(KP op _).mono ?_
   rintro e u ⟨rfl,bl⟩
   have HJ:Hid (PA w u ⟨vr,.slice r2 p.consts.length c2,.slice r3 p.funcs.length c3,vt⟩ ⟨gp,gl,.slice r4 f.code.length c4⟩ f op a b c):=HI.o.keep bl
   clear HI bl hit
   obtain⟨s,co,hinf⟩:=Fv op
   rw[hinf]
   clear hinf
   have HIF:Hid (AP p f ⟨op,a,b,c⟩↔AC p f (AM op) op a b c):=⟨fun e=>e.2.2,fun e=>⟨HO.o.1,HO.o.2,e⟩⟩
   have hF:(0<=AM op/\AM op<=11)/\(AM op=3->op=4\/op=5)/\(AM op=4->op=6\/op=7):=by
    obtain⟨k,rfl⟩:=aT HO.o.1
    have:=Ii k (by have:=HO.o.2;omega)
    exact⟨this.1,fun e=>by have:=this.2.1 e;omega,fun e=>by have:=this.2.2 e;omega⟩
   generalize hFF:AM op=F at*
   clear hFF
   obtain⟨⟨f0,f1⟩,h34⟩:=hF
   have HF34:Hid ((F=3->op=4\/op=5)/\(F=4->op=6\/op=7)):=h34
   clear h34
   generalize hn1:p.consts.length=n1 at*
   generalize hn2:p.funcs.length=n2 at*
   generalize hn3:f.code.length=n3 at*
   have HL:Hid (p.consts.length=n1/\p.funcs.length=n2/\f.code.length=n3):=⟨hn1,hn2,hn3⟩
   clear hn1 hn2 hn3
   obtain⟨p0,p1,p2,p3,g0,g1,g2,g3⟩:=HJ.o.scope
   obtain⟨i0,i1,i2,i3⟩:=HJ.o.ins
   simp only[]at p0 p1 p2 p3 g0 g1 g2 g3
   have hfd:=Iq s co F
   by_cases F1:F=1
   . subst F1
     go_wp2_with fail
     refine(Ay a (n1:Int) _).mono ?_
     rintro e u2 ⟨rfl,rfl⟩
     by_cases q1:0<=a/\a<(n1:Int)
     . rw[decide_eq_true q1]
       obtain⟨q2,q3⟩:=q1
       go_wp2_with fail
       all_goals(go_ret;refine⟨Aj.of ?_,HJ.o.bel⟩;rw[HIF.o];obtain⟨l1,l2,l3⟩:=HL.o;go_light;simp_all [AC,AE]<;>omega)
     . rw[bI q1]
       have q1':0<=a->(n1:Int)<=a:=fun e=>by omega
       clear q1
       go_wp2_with fail
       all_goals(go_ret;refine⟨Aj.of ?_,HJ.o.bel⟩;rw[HIF.o];obtain⟨l1,l2,l3⟩:=HL.o;go_light;simp_all [AC,AE]<;>omega)
   by_cases F11:F=11
   . subst F11
     go_wp2_with fail
     refine(Ay a (n2:Int) _).mono ?_
     rintro e u2 ⟨rfl,rfl⟩
     by_cases q1:0<=a/\a<(n2:Int)
     . rw[decide_eq_true q1]
       obtain⟨q2,q3⟩:=q1
       go_wp2_with fail
       all_goals(go_ret;refine⟨Aj.of ?_,HJ.o.bel⟩;rw[HIF.o];obtain⟨l1,l2,l3⟩:=HL.o;go_light;simp_all [AC,AE]<;>omega)
     . rw[bI q1]
       have q1':0<=a->(n2:Int)<=a:=fun e=>by omega
       clear q1
       go_wp2_with fail
       all_goals(go_ret;refine⟨Aj.of ?_,HJ.o.bel⟩;rw[HIF.o];obtain⟨l1,l2,l3⟩:=HL.o;go_light;simp_all [AC,AE]<;>omega)
   by_cases F9:F=9
   . subst F9
     by_cases qa:a=0
     . have qa':(a==0)=true:=by simpa using qa
       by_cases qb:b=0
       . have qb':(b==0)=true:=by simpa using qb
         have HQ:Hid (a=0/\b=0):=⟨qa,qb⟩
         clear qa qb
         go_wp2_with fail
         refine(Ay c (n3:Int) _).mono ?_
         rintro e u2 ⟨rfl,rfl⟩
         go_wp2_with fail
         all_goals(go_ret;refine⟨Aj.of ?_,HJ.o.bel⟩;rw[HIF.o];obtain⟨l1,l2,l3⟩:=HL.o;obtain⟨l4,l5⟩:=HQ.o;go_light;simp_all [AC,AE]<;>omega)
       . have qb':(b==0)=false:=by simpa using qb
         have HQ:Hid (¬b=0):=qb
         clear qb qa
         go_wp2_with fail
         all_goals(go_ret;refine⟨Aj.of ?_,HJ.o.bel⟩;rw[HIF.o];obtain⟨l1,l2,l3⟩:=HL.o;have l4:=HQ.o;go_light;simp_all [AC,AE]<;>omega)
     . have qa':(a==0)=false:=by simpa using qa
       have HQ:Hid (¬a=0):=qa
       clear qa
       go_wp2_with fail
       all_goals(go_ret;refine⟨Aj.of ?_,HJ.o.bel⟩;rw[HIF.o];obtain⟨l1,l2,l3⟩:=HL.o;have l4:=HQ.o;go_light;simp_all [AC,AE]<;>omega)
   by_cases F8:F=8
   . subst F8
     go_wp2_with fail
     refine(CM a _).mono ?_
     rintro e u2 ⟨rfl,rfl⟩
     cases t1:Db a
     . go_wp2_with fail
       all_goals(go_ret;refine⟨Aj.of ?_,HJ.o.bel⟩;rw[HIF.o];obtain⟨l1,l2,l3⟩:=HL.o;go_light;simp_all [AC,AE]<;>omega)
     go_wp2_with fail
     refine(CM b _).mono ?_
     rintro e u2 ⟨rfl,rfl⟩
     cases t2:Db b
     all_goals
      go_wp2_with fail
      all_goals(go_ret;refine⟨Aj.of ?_,HJ.o.bel⟩;rw[HIF.o];obtain⟨l1,l2,l3⟩:=HL.o;go_light;simp_all [AC,AE]<;>omega)
   by_cases F2:F=2
   . subst F2
     go_wp2_with fail
     refine(Ep vr (.slice r2 n1 c2) (.slice r3 n2 c3) vt ⟨gp,gl,.slice r4 n3 c4⟩ f a _ H.o.2.2.1 (H.o.2.2.2.2.2.1.keep HJ.o.bel lR)).mono ?_
     rintro e u2 ⟨⟨bh,rfl,hbh⟩,bl2⟩
     have HK:Hid (PA w u2 ⟨vr,.slice r2 n1 c2,.slice r3 n2 c3,vt⟩ ⟨gp,gl,.slice r4 n3 c4⟩ f op a b c):=HJ.o.keep bl2
     clear bl2
     clear p0 p1 p2 p3 i0 i1 i2 i3 g0 g1 g2 g3
     obtain⟨i0,i1,i2,i3⟩:=HK.o.ins
     rw[Ga H.o.2.2.2.1]at hbh
     cases bh
     . have HT:Hid (AN f a=0):=cQ fun e=>absurd (hbh.2 e) cU
       clear hbh
       go_wp2_with fail
       all_goals(go_ret;refine⟨Aj.of ?_,HK.o.bel⟩;rw[HIF.o];obtain⟨l1,l2,l3⟩:=HL.o;have lt:=HT.o;go_light;simp_all [AC,AE]<;>omega)
     . have HT:Hid (¬AN f a=0):=hbh.1 rfl
       clear hbh
       go_wp2_with fail
       all_goals(go_ret;refine⟨Aj.of ?_,HK.o.bel⟩;rw[HIF.o];obtain⟨l1,l2,l3⟩:=HL.o;have lt:=HT.o;go_light;simp_all [AC,AE]<;>omega)
   by_cases F10:F=10
   . subst F10
     go_wp2_with fail
     refine(Ep vr (.slice r2 n1 c2) (.slice r3 n2 c3) vt ⟨gp,gl,.slice r4 n3 c4⟩ f a _ H.o.2.2.1 (H.o.2.2.2.2.2.1.keep HJ.o.bel lR)).mono ?_
     rintro e u2 ⟨⟨bh,rfl,hbh⟩,bl2⟩
     have HK:Hid (PA w u2 ⟨vr,.slice r2 n1 c2,.slice r3 n2 c3,vt⟩ ⟨gp,gl,.slice r4 n3 c4⟩ f op a b c):=HJ.o.keep bl2
     clear bl2
     clear p0 p1 p2 p3 i0 i1 i2 i3 g0 g1 g2 g3
     obtain⟨i0,i1,i2,i3⟩:=HK.o.ins
     rw[Ga H.o.2.2.2.1]at hbh
     obtain⟨_,_,_,_,_,_,_,g3⟩:=HK.o.scope
     simp only[]at g3
     cases bh
     . have HT:Hid (AN f a=0):=cQ fun e=>absurd (hbh.2 e) cU
       clear hbh
       go_wp2_with fail
       all_goals(go_ret;refine⟨Aj.of ?_,HK.o.bel⟩;rw[HIF.o];obtain⟨l1,l2,l3⟩:=HL.o;have lt:=HT.o;go_light;simp_all [AC,AE]<;>omega)
     . have HT:Hid (¬AN f a=0):=hbh.1 rfl
       clear hbh
       by_cases qb:b=0
       . have qb':(b==0)=true:=by simpa using qb
         have HQ:Hid (b=0):=qb
         clear qb
         go_wp2_with fail
         refine(Ay c (n3:Int) _).mono ?_
         rintro e u3 ⟨rfl,rfl⟩
         go_wp2_with fail
         all_goals(go_ret;refine⟨Aj.of ?_,HK.o.bel⟩;rw[HIF.o];obtain⟨l1,l2,l3⟩:=HL.o;have lt:=HT.o;have l4:=HQ.o;go_light;simp_all [AC,AE]<;>omega)
       . have qb':(b==0)=false:=by simpa using qb
         have HQ:Hid (¬b=0):=qb
         clear qb
         go_wp2_with fail
         all_goals(go_ret;refine⟨Aj.of ?_,HK.o.bel⟩;rw[HIF.o];obtain⟨l1,l2,l3⟩:=HL.o;have lt:=HT.o;have l4:=HQ.o;go_light;simp_all [AC,AE]<;>omega)
   by_cases F3:F=3
   . subst F3
     have ho:=HF34.o.1 rfl
     have hci:=Fu H.o.2.1 op a b (by omega)
     have HO2:Hid ((op=4\/op=5)/\(BL p op a b↔¬A3 p a b=0/\((op=4\/op=6)\/¬a=0))):=⟨ho,hci⟩
     clear ho hci
     go_wp2_with fail
     refine(CS ⟨vr,.slice r2 n1 c2,.slice r3 n2 c3,vt⟩ p gp (.int .i64 f.result) gl (.slice r4 n3 c4) op a b c _ H.o.1 H.o.2.1.1 (H.o.2.2.2.2.1.keep HJ.o.bel lR)).mono ?_
     rintro e u2 ⟨⟨bh,rfl,hbh⟩,bl2⟩
     have HK:Hid (PA w u2 ⟨vr,.slice r2 n1 c2,.slice r3 n2 c3,vt⟩ ⟨gp,gl,.slice r4 n3 c4⟩ f op a b c):=HJ.o.keep bl2
     clear bl2
     clear p0 p1 p2 p3 i0 i1 i2 i3 g0 g1 g2 g3
     obtain⟨i0,i1,i2,i3⟩:=HK.o.ins
     rw[HO2.o.2]at hbh
     cases bh
     . have HN:Hid (¬AP p f ⟨op,a,b,c⟩):=fun e=>by
        have:=HIF.o.1 e
        have ho:=HO2.o.1
        go_light
        simp[AC,AE]at this
        have h5:(op=4\/op=6)\/¬a=0:=by omega
        simp[this.1,h5]at hbh
       clear hbh
       go_wp2_with fail
       all_goals(go_ret;exact⟨.no HN.o,HK.o.bel⟩)
     . have HT:Hid (¬A3 p a b=0/\(op=4\/¬a=0)):=⟨(hbh.1 rfl).1,by have:=(hbh.1 rfl).2;have:=HO2.o.1;omega⟩
       clear hbh
       go_wp2_with fail
       all_goals(go_ret;refine⟨Aj.of ?_,HK.o.bel⟩;rw[HIF.o];obtain⟨l1,l2,l3⟩:=HL.o;have lt:=HT.o;go_light;simp_all [AC,AE]<;>omega)
   by_cases F4:F=4
   . subst F4
     have ho:=HF34.o.2 rfl
     have hci:=Fu H.o.2.1 op a b (by omega)
     have HO2:Hid ((op=6\/op=7)/\(BL p op a b↔¬A3 p a b=0/\((op=4\/op=6)\/¬a=0))):=⟨ho,hci⟩
     clear ho hci
     have inst:=Ai.some u
     have P0:=fun n:Ai u=>Ai.cell p0 n
     have P1:=fun n:Ai u=>Ai.cell p1 n
     have P2:=fun n:Ai u=>Ai.cell p2 n
     have P3:=fun n:Ai u=>Ai.cell p3 n
     have G0:=fun n:Ai u=>Ai.cell g0 n
     have G1:=fun n:Ai u=>Ai.cell g1 n
     have G2:=fun n:Ai u=>Ai.cell g2 n
     have G3:=fun n:Ai u=>Ai.cell g3 n
     have I0:=fun n:Ai u=>Ai.cell i0 n
     have I1:=fun n:Ai u=>Ai.cell i1 n
     have I2:=fun n:Ai u=>Ai.cell i2 n
     have I3:=fun n:Ai u=>Ai.cell i3 n
     by_cases hch:BL p op a b
     . have HCT:Hid (BL p op a b):=hch
       have HCH:Hid (¬A3 p a b=0/\(op=6\/¬a=0)):=⟨(HO2.o.2.1 hch).1,by have:=(HO2.o.2.1 hch).2;have:=HO2.o.1;omega⟩
       obtain⟨l,z0,z1,z2,z3,_⟩:=hch
       obtain⟨i,rfl⟩:=aT z0
       obtain⟨j,rfl⟩:=aT z2
       rw[aG]at z1
       have hjl:j<l.length:=by omega
       have HMI:Hid (DP (l.drop j) c↔CL p i j c):=MS H.o.2.1 z1 hjl c
       obtain⟨xs,hxs,hrd,hel⟩:=H.o.2.2.2.2.2.2
       obtain⟨⟨l',y⟩,hx⟩:∃x,xs[i]?=some x:=⟨_,aA (by have:=(aD.1 z1).1;rw[<-hxs]at this;simpa using this)⟩
       have e1:=BM hxs hx
       simp only[]at e1
       obtain rfl:l'=l:=by rw[z1]at e1;exact(ae e1).symm
       obtain⟨hy,ay,cy,ey,hcy⟩:=hel _ (aE hx)
       simp only[]at hy ey hcy
       subst ey
       have hll:=H.o.1.region _ (aE z1)
       have hi3:i<3:=by have:=(aD.1 z1).1;have:=H.o.2.1.1;omega
       rw[H.o.2.1.1]at hrd
       rcases hrd.2 with⟨e0,_⟩|⟨gg,o,cc,e2,hc1⟩
       . omega
       subst e2
       have k0:=Rd.elem AW hc1 i _ hx 0 _ rfl
       rw[bf,aS]at k0
       simp only[]at k0
       rw[<-HJ.o.bel.cell (aC k0)]at k0
       rcases hy.2 with⟨e0,_⟩|⟨g2,o2,c5,e3,hc2⟩
       . omega
       simp only[aF,aw]at e3
       obtain⟨rfl,rfl⟩:=e3
       have HRD:Hid (Rd u 1 (.slice (some ⟨g2,o2+j,none⟩) (l'.length-j) (cy-j)) (l'.drop j).length ((l'.drop j).flatMap Ac)):=(Rd.drop (n:=0) (c:=0) hc2 j hjl).keep HJ.o.bel lR
       clear hc1 hc2 hx hel hrd hxs hy e1
       have K0:=fun n:Ai u=>Ai.cell k0 n
       have y1:(j:Int)<=(l'.length:Int):=by omega
       have y2:(l'.length:Int)<=(cy:Int):=by omega
       have y3:(i:Int)<3:=by omega
       by_cases hmk:DP (l'.drop j) c
       . have HMK:Hid (DP (l'.drop j) c):=hmk
         have HY:Hid (AP p f ⟨op,(i:Int),(j:Int),c⟩):=HIF.o.2 (.inr (.inr (.inr (.inr (.inl ⟨rfl,HMI.o.1 hmk,HCH.o.2⟩)))))
         clear hmk
         go_wp2_with fail
         refine At (by kernel_rfl) (by kernel_rfl) ?_
         repeat(go_big_quiet_step ((first|(go_at_call 139;rename_i n;exact(CS ⟨.slice (some ⟨gg,o,none⟩) 3 cc,.slice r2 n1 c2,.slice r3 n2 c3,vt⟩ p gp (.int .i64 f.result) gl (.slice r4 n3 c4) op (i:Int) (j:Int) c n.u H.o.1 H.o.2.1.1 (H.o.2.2.2.2.1.keep (Ab HJ.o.bel lR n.h) lR)).mono fun e w'' h=>⟨h.1.true HCT.o,⟨⟨w'',Ab n.h lR h.2⟩,rfl⟩⟩)|(go_at_call 140;rename_i n;have hmh:=Fw (some ⟨g2,o2+j,none⟩) (cy-j) (l'.drop j) c n.u (by rw[dA];omega) (by rw[dA];omega) (by have:=HRD.o.keep n.h lR;rw[dA]at this⊢;exact this);rw[dA]at hmh;exact hmh.mono fun e w'' h=>⟨h.1.true HMK.o,⟨⟨w'',Ab n.h lR h.2⟩,rfl⟩⟩))))
         refine wpQuiet_nil ?_
         rintro w'' ⟨n,rfl⟩
         have HB9:Hid (Below w.heap.size w n.u):=Ab HJ.o.bel lR n.h
         clear P0 P1 P2 P3 G0 G1 G2 G3 I0 I1 I2 I3 inst
         go_wp2_with fail
         all_goals(go_ret;exact⟨.yes HY.o,HB9.o⟩)
       . have HMK:Hid (¬DP (l'.drop j) c):=hmk
         have HN:Hid (¬AP p f ⟨op,(i:Int),(j:Int),c⟩):=fun e=>by
          have:=HIF.o.1 e
          go_light
          simp[AC,AE]at this
          exact hmk (HMI.o.2 this.1)
         clear hmk
         go_wp2_with fail
         refine At (by kernel_rfl) (by kernel_rfl) ?_
         repeat(go_big_quiet_step ((first|(go_at_call 139;rename_i n;exact(CS ⟨.slice (some ⟨gg,o,none⟩) 3 cc,.slice r2 n1 c2,.slice r3 n2 c3,vt⟩ p gp (.int .i64 f.result) gl (.slice r4 n3 c4) op (i:Int) (j:Int) c n.u H.o.1 H.o.2.1.1 (H.o.2.2.2.2.1.keep (Ab HJ.o.bel lR n.h) lR)).mono fun e w'' h=>⟨h.1.true HCT.o,⟨⟨w'',Ab n.h lR h.2⟩,rfl⟩⟩)|(go_at_call 140;rename_i n;have hmh:=Fw (some ⟨g2,o2+j,none⟩) (cy-j) (l'.drop j) c n.u (by rw[dA];omega) (by rw[dA];omega) (by have:=HRD.o.keep n.h lR;rw[dA]at this⊢;exact this);rw[dA]at hmh;exact hmh.mono fun e w'' h=>⟨h.1.false HMK.o,⟨⟨w'',Ab n.h lR h.2⟩,rfl⟩⟩))))
         refine wpQuiet_nil ?_
         rintro w'' ⟨n,rfl⟩
         have HB9:Hid (Below w.heap.size w n.u):=Ab HJ.o.bel lR n.h
         clear P0 P1 P2 P3 G0 G1 G2 G3 I0 I1 I2 I3 inst
         go_wp2_with fail
         all_goals(go_ret;exact⟨.no HN.o,HB9.o⟩)
     . have HCT:Hid (¬BL p op a b):=hch
       have HN:Hid (¬AP p f ⟨op,a,b,c⟩):=fun e=>by
        have:=HIF.o.1 e
        have ho:=HO2.o.1
        have hh:=HO2.o.2
        go_light
        simp[AC,AE]at this
        exact hch (hh.2 ⟨this.1.there,by omega⟩)
       clear hch
       go_wp2_with fail
       refine At (by kernel_rfl) (by kernel_rfl) ?_
       repeat(go_big_quiet_step ((first|(go_at_call 139;rename_i n;exact(CS ⟨vr,.slice r2 n1 c2,.slice r3 n2 c3,vt⟩ p gp (.int .i64 f.result) gl (.slice r4 n3 c4) op a b c n.u H.o.1 H.o.2.1.1 (H.o.2.2.2.2.1.keep (Ab HJ.o.bel lR n.h) lR)).mono fun e w'' h=>⟨h.1.false HCT.o,⟨⟨w'',Ab n.h lR h.2⟩,rfl⟩⟩))))
       refine wpQuiet_nil ?_
       rintro w'' ⟨n,rfl⟩
       have HB9:Hid (Below w.heap.size w n.u):=Ab HJ.o.bel lR n.h
       clear P0 P1 P2 P3 G0 G1 G2 G3 I0 I1 I2 I3 inst
       go_wp2_with fail
       all_goals(go_ret;exact⟨.no HN.o,HB9.o⟩)
   by_cases F0:F=0
   . subst F0
     go_wp2_with fail
     all_goals(go_ret;refine⟨Aj.of ?_,HJ.o.bel⟩;rw[HIF.o];obtain⟨l1,l2,l3⟩:=HL.o;go_light;simp_all [AC,AE]<;>omega)
   rcases(show F=5\/F=6\/F=7 by omega)with rfl|rfl|rfl
   . go_wp2_with fail
     refine(DV 5 a _ (by omega)).mono ?_
     rintro e u2 ⟨⟨bm,rfl,hbm⟩,rfl⟩
     cases bm
     . have HT:Hid (¬AE 5 a):=fun e=>by simp[e]at hbm
       clear hbm
       go_wp2_with fail
       all_goals(go_ret;refine⟨Aj.of ?_,HJ.o.bel⟩;rw[HIF.o];obtain⟨l1,l2,l3⟩:=HL.o;have lt:=HT.o;go_light;simp_all [AC,AE]<;>omega)
     . have HT:Hid (AE 5 a):=hbm.1 rfl
       clear hbm
       go_wp2_with fail
       all_goals(go_ret;refine⟨Aj.of ?_,HJ.o.bel⟩;rw[HIF.o];obtain⟨l1,l2,l3⟩:=HL.o;have lt:=HT.o;go_light;simp_all [AC,AE]<;>omega)
   . go_wp2_with fail
     refine(DV 6 a _ (by omega)).mono ?_
     rintro e u2 ⟨⟨bm,rfl,hbm⟩,rfl⟩
     cases bm
     . have HT:Hid (¬AE 6 a):=fun e=>by simp[e]at hbm
       clear hbm
       go_wp2_with fail
       all_goals(go_ret;refine⟨Aj.of ?_,HJ.o.bel⟩;rw[HIF.o];obtain⟨l1,l2,l3⟩:=HL.o;have lt:=HT.o;go_light;simp_all [AC,AE]<;>omega)
     . have HT:Hid (AE 6 a):=hbm.1 rfl
       clear hbm
       go_wp2_with fail
       all_goals(go_ret;refine⟨Aj.of ?_,HJ.o.bel⟩;rw[HIF.o];obtain⟨l1,l2,l3⟩:=HL.o;have lt:=HT.o;go_light;simp_all [AC,AE]<;>omega)
   . go_wp2_with fail
     refine(DV 7 a _ (by omega)).mono ?_
     rintro e u2 ⟨⟨bm,rfl,hbm⟩,rfl⟩
     cases bm
     . have HT:Hid (¬AE 7 a):=fun e=>by simp[e]at hbm
       clear hbm
       go_wp2_with fail
       all_goals(go_ret;refine⟨Aj.of ?_,HJ.o.bel⟩;rw[HIF.o];obtain⟨l1,l2,l3⟩:=HL.o;have lt:=HT.o;go_light;simp_all [AC,AE]<;>omega)
     . have HT:Hid (AE 7 a):=hbm.1 rfl
       clear hbm
       go_wp2_with fail
       all_goals(go_ret;refine⟨Aj.of ?_,HJ.o.bel⟩;rw[HIF.o];obtain⟨l1,l2,l3⟩:=HL.o;have lt:=HT.o;go_light;simp_all [AC,AE]<;>omega)
 . have HN:Hid (¬AP p f ⟨op,a,b,c⟩):=fun e=>q0 ⟨e.1,by have:=e.2.1;dsimp only at this;omega⟩
   have hit:decide (0<=op/\op<30)=false:=bI q0
   go_enter Tryz.func109,Tryz.ntmps109
   go_wp2_with fail
   refine(Ay op 30 _).mono ?_
   rintro e u ⟨rfl,rfl⟩
   rw[hit]
   go_wp2
   go_ret
   exact⟨.no HN.o,HI.o.bel⟩
end Go.Proofs.YtdipfjmlfbdkdaaGreat
