import Derived.Test.YtlejplpkomddeaaGreatR0
import Derived.Test.YtlejplpkomddeaaGreatR4
import Derived.Test.YtlejplpkomddeaaGreatR52
import Derived.Test.YtlejplpkomddeaaGreatR34
import Derived.Test.YtlejplpkomddeaaGreatR29
import Derived.Test.YtlejplpkomddeaaGreatR30
import Derived.Test.YtlejplpkomddeaaGreatR44
import Derived.Test.YtlejplpkomddeaaGreatR22
import Derived.Test.YtlejplpkomddeaaGreatR2
import Derived.Test.YtlejplpkomddeaaGreatR19
import Derived.Test.YtlejplpkomddeaaGreatR8
import Derived.Test.YtlejplpkomddeaaGreatR3
import Derived.Test.YtlejplpkomddeaaGreatR45
import Derived.Test.YtlejplpkomddeaaGreatR5
namespace Go.Proofs.YtlejplpkomddeaaGreat
open Go.ChangeShapes Go.WideShapes Go.ChangeAt Go.RowKit
set_option linter.unusedVariables false
set_option maxHeartbeats 8000000
set_option maxRecDepth 100000
theorem Lb(M k:Nat)(hk:k<30):(BM M)[k]?=some (P5 M k):=by
 have h:k=0\/k=1\/k=2\/k=3\/k=4\/k=5\/k=6\/k=7\/k=8\/k=9\/k=10\/k=11\/k=12\/k=13\/k=14\/k=15\/k=16\/k=17\/k=18\/k=19\/k=20\/k=21\/k=22\/k=23\/k=24\/k=25\/k=26\/k=27\/k=28\/k=29:=by omega
 rcases h with rfl|rfl|rfl|rfl|rfl|rfl|rfl|rfl|rfl|rfl|rfl|rfl|rfl|rfl|rfl|rfl|rfl|rfl|rfl|rfl|rfl|rfl|rfl|rfl|rfl|rfl|rfl|rfl|rfl|rfl<;>rfl
theorem MB.made{u:World}{M:Nat}{cur:Array Value}{t:Int}{d:Bool}{c n:Int}{X:VS}{hv:Value}(hb:Ap u M cur 94)(h:Nj cur t d c n X hv)(ha:∀k,k<30->cur[128+k]?=(BM M)[k]?):MB u M t d c n X hv:=⟨cur,hb,⟨h.c0,h.c1,h.c2,h.c3,h.c4,h.c5,h.c6,h.c7,h.rows,fun k hk=>(ha k hk).trans (Lb M k hk),h.size⟩⟩
structure Hi(w u:World)(v:VP)(vm:VM)(p:MP)(B M:Nat)(hv:Value)(t:Int)(d:Bool)(c n:Int)(X:VS)(C:List (Value×List MC))(K:List MC)(F:List (MG×Value)):Prop where
 at_:En w u v vm
 mb:MB u M t d c n X hv
 own:Ah u B X C K F
 hd:El u B v p hv
 hB:B<=u.heap.size
 low:w.heap.size+1+1<B
 hM:B<=M
theorem Hi.keep{w u u':World}{v:VP}{vm:VM}{p:MP}{B M:Nat}{hv:Value}{t c n:Int}{d:Bool}{X:VS}{C:List (Value×List MC)}{K:List MC}{F:List (MG×Value)}(h:Hi w u v vm p B M hv t d c n X C K F)(hb:Below u.heap.size u u'):Hi w u' v vm p B M hv t d c n X C K F:=⟨h.at_.keep hb,h.mb.keep hb,h.own.grow hb,h.hd.keep h.hB hb,Nat.le_trans h.hB hb.size,h.low,h.hM⟩
theorem Hi.next{w u u':World}{v:VP}{vm:VM}{p:MP}{B M:Nat}{hv:Value}{t c n t' c' n':Int}{d d':Bool}{X X':VS}{C C':List (Value×List MC)}{K K':List MC}{F F':List (MG×Value)}(h:Hi w u v vm p B M hv t d c n X C K F)(hm:MB u' M t' d' c' n' X' hv)(ho:Ah u' B X' C' K' F')(hc:C9 (fun j=>j=M\/C8 X C F j) u u'):Hi w u' v vm p B M hv t' d' c' n' X' C' K' F':=
 ⟨h.at_.low (hc.below h.hB (fun k hk e=>by
  rcases e with e|e
  . have:=h.hM;omega
  . have:=(h.own.ltOf e).1;omega)) h.low,hm,ho,h.hd.chg h.hB h.hM h.own h.mb hc,Nat.le_trans h.hB hc.size,h.low,h.hM⟩
theorem M7{p:MP}{m:MM}{k:Nat}{w u u':World}{v:VP}{vm:VM}{B M:Nat}{hv:Value}{c n t' c' n':Int}{d':Bool}{X X':VS}{C C':List (Value×List MC)}{K K':List MC}{F F':List (MG×Value)}(h:Hi w u v vm p B M hv 0 false c n X C K F/\C7 p m k (Ao 0 false c n C K F))(hpw:p.wf)(hk:k<=1048576)(hm:MB u' M t' d' c' n' X' hv)(ho:Ah u' B X' C' K' F')(hs:Bk p (Ao 0 false c n C K F) (Ao t' d' c' n' C' K' F'))(hc:C9 (fun j=>j=M\/C8 X C F j) u u'):Hid (Hi w u' v vm p B M hv t' d' c' n' X' C' K' F'/\C7 p m (k+1) (Ao t' d' c' n' C' K' F')):=by
 have a1:=h.1.next hm ho hc;have a2:=h.2.next hpw hk rfl rfl hs;exact⟨a1,a2⟩
set_option maxHeartbeats 4000000 in
set_option maxRecDepth 100000 in
theorem KL(v:VP)(p:MP)(vm:VM)(m:MM)(lim:Int)(nn:Nat)(w:World)(hn:nn=(min lim 1048576).toNat)(hl:Dr lim)(hs:p.small)(hw:p.wf)(h:Cx w v p)(hcap:EH w v.r p.regions)(hfp:DQ w v.f p.funcs)(ms:m.small)(mw:m.wf)(hm:Fs w vm m):
 Calls Tryz.prog 19 #[.agg #[v.r,v.k,v.f,v.t],.agg #[vm.i,vm.o,vm.k],.int .i64 lim] w (JW w p m nn):=by
 obtain⟨r1,r3,k1,k3,t1,t3,f1,f3,rfl⟩:=h.sl;obtain⟨am,cm,em⟩:=hm.ins.is_slice;obtain⟨ao,co,eo⟩:=hm.outs.is_slice;obtain⟨ak,ck,ek⟩:=hm.keeps.is_slice;obtain⟨vi,vo,vkk⟩:=vm;simp only[]at em eo ek;subst em eo ek;have H:Hid (p.small/\p.wf/\Cx w ⟨.slice r1 p.regions.length r3,.slice k1 p.consts.length k3,.slice f1 p.funcs.length f3,.slice t1 p.certs.length t3⟩ p/\EH w (.slice r1 p.regions.length r3) p.regions/\DQ w (.slice f1 p.funcs.length f3) p.funcs/\m.small/\m.wf/\Fs w ⟨.slice am m.ins.length cm,.slice ao m.outs.length co,.slice ak m.keeps.length ck⟩ m):=⟨hs,hw,h,hcap,hfp,ms,mw,hm⟩
 clear hs hw h hcap hfp ms mw hm;have E0:Hid (En w _ ⟨.slice r1 p.regions.length r3,.slice k1 p.consts.length k3,.slice f1 p.funcs.length f3,.slice t1 p.certs.length t3⟩ ⟨.slice am m.ins.length cm,.slice ao m.outs.length co,.slice ak m.keeps.length ck⟩):=En.of w ⟨.slice r1 p.regions.length r3,.slice k1 p.consts.length k3,.slice f1 p.funcs.length f3,.slice t1 p.certs.length t3⟩ ⟨.slice am m.ins.length cm,.slice ao m.outs.length co,.slice ak m.keeps.length ck⟩;go_enter Tryz.func19,Tryz.ntmps19;go_upto_region 1 with fail
 refine Af (fun u=>Hid (En w u ⟨.slice r1 p.regions.length r3,.slice k1 p.consts.length k3,.slice f1 p.funcs.length f3,.slice t1 p.certs.length t3⟩ ⟨.slice am m.ins.length cm,.slice ao m.outs.length co,.slice ak m.keeps.length ck⟩)) E0 ?_;rintro U0 E1;clear E0;have p0:=E1.out.pb.cell 0;have p1:=E1.out.pb.cell 1;have p2:=E1.out.pb.cell 2;have p3:=E1.out.pb.cell 3;have m0:=E1.out.mb.cell 0;have m1:=E1.out.mb.cell 1;have m2:=E1.out.mb.cell 2;simp only[List.getElem?_toArray,List.getElem?_cons_zero,List.getElem?_cons_succ]at p0 p1 p2 p3 m0 m1 m2;go_wp2_with fail
 refine(IJ ⟨.slice r1 p.regions.length r3,.slice k1 p.consts.length k3,.slice f1 p.funcs.length f3,.slice t1 p.certs.length t3⟩ p ⟨.slice am m.ins.length cm,.slice ao m.outs.length co,.slice ak m.keeps.length ck⟩ m U0 H.out.1 H.out.2.1 (H.out.2.2.1.keep E1.out.bel (Nat.le_refl _)) (H.out.2.2.2.1.keep E1.out.bel (Nat.le_refl _)) (H.out.2.2.2.2.1.keep E1.out.bel (Nat.le_refl _)) H.out.2.2.2.2.2.1 H.out.2.2.2.2.2.2.1 (H.out.2.2.2.2.2.2.2.keep E1.out.bel (Nat.le_refl _))).mono ?_;rintro e u1 ⟨C,K,F,tr,X,rfl,hbeg,hsm,own1,b1⟩;obtain⟨x1,x2,x3⟩:=X;obtain⟨g1,h1,eb1⟩:=Al own1.cells;obtain⟨g2,h2,eb2⟩:=Al (own1.fam.own (x2,K) (by simp));obtain⟨g3,h3,eb3⟩:=Al own1.frames;simp only[]at eb1 eb2 eb3;subst eb1 eb2 eb3;have HR:Hid (C7 p m 0 (Ao tr false 0 0 C K F)):=C7.of hbeg H.out.1 H.out.2.2.2.2.2.2.1;have hlt0:=E1.out.lt
 have E2:Hid (Fx w (u1.alloc (.cells #[.int .i64 tr,.bool false,.int .i64 0,.int .i64 0,.slice g1 C.length h1,.slice g2 K.length h2,.slice g3 F.length h3] 39)) ⟨.slice r1 p.regions.length r3,.slice k1 p.consts.length k3,.slice f1 p.funcs.length f3,.slice t1 p.certs.length t3⟩ ⟨.slice am m.ins.length cm,.slice ao m.outs.length co,.slice ak m.keeps.length ck⟩ U0.heap.size u1.heap.size tr false 0 0 ⟨.slice g1 C.length h1,.slice g2 K.length h2,.slice g3 F.length h3⟩ C K F):=⟨(E1.out.keep b1).keep (Aa _ _),Ap.new _ _ _,own1.grow (Aa _ _),by rw[World.size_alloc];exact Nat.le_succ_of_le b1.size,hlt0,b1.size⟩;clear hbeg hsm own1 b1 E1 p0 p1 p2 p3 m0 m1 m2;go_upto_region 2 with fail
 generalize u1.heap.size=N at E2⊢;generalize U0.heap.size=B at E2 hlt0;refine Af (fun u=>Hid (Fx w u ⟨.slice r1 p.regions.length r3,.slice k1 p.consts.length k3,.slice f1 p.funcs.length f3,.slice t1 p.certs.length t3⟩ ⟨.slice am m.ins.length cm,.slice ao m.outs.length co,.slice ak m.keeps.length ck⟩ B N tr false 0 0 ⟨.slice g1 C.length h1,.slice g2 K.length h2,.slice g3 F.length h3⟩ C K F)) E2 ?_;rintro U1 E3;clear E2;clear u1 U0;have m0:=E3.out.sb.cell 0;have m1:=E3.out.sb.cell 1;have m2:=E3.out.sb.cell 2;have m3:=E3.out.sb.cell 3;have m4:=E3.out.sb.cell 4;have m5:=E3.out.sb.cell 5;have m6:=E3.out.sb.cell 6;simp only[List.getElem?_toArray,List.getElem?_cons_zero,List.getElem?_cons_succ]at m0 m1 m2 m3 m4 m5 m6;go_wp2_with fail
 refine(Ig tr 0 0 false g1 g2 g3 C.length h1 K.length h2 F.length h3 U1).mono ?_;rintro e u2 ⟨he,b2⟩;have E4:Hid (Fx w u2 ⟨.slice r1 p.regions.length r3,.slice k1 p.consts.length k3,.slice f1 p.funcs.length f3,.slice t1 p.certs.length t3⟩ ⟨.slice am m.ins.length cm,.slice ao m.outs.length co,.slice ak m.keeps.length ck⟩ B N tr false 0 0 ⟨.slice g1 C.length h1,.slice g2 K.length h2,.slice g3 F.length h3⟩ C K F):=E3.out.keep b2;clear b2 E3 m0 m1 m2 m3 m4 m5 m6;clear U1;by_cases hov:tr≠0\/false=true
 . obtain rfl:=he.true hov
   have HE:Hid (DN p m nn (Ao tr false 0 0 C K F)/\(Ao tr false 0 0 C K F).small):=⟨HR.out.ends (Nat.zero_le _) (.inr hov),HR.out.small⟩
   clear he hov;have hz:w.heap.size+1+1<N:=Nat.lt_of_lt_of_le E4.out.low E4.out.hN;have HO:Hid (Ah u2 w.heap.size ⟨.slice g1 C.length h1,.slice g2 K.length h2,.slice g3 F.length h3⟩ C K F):=E4.out.own.base (by have:=E4.out.low;omega);have m0:=E4.out.sb.cell 0;have m1:=E4.out.sb.cell 1;have m2:=E4.out.sb.cell 2;have m3:=E4.out.sb.cell 3;have m4:=E4.out.sb.cell 4;have m5:=E4.out.sb.cell 5;have m6:=E4.out.sb.cell 6;simp only[List.getElem?_toArray,List.getElem?_cons_zero,List.getElem?_cons_succ]at m0 m1 m2 m3 m4 m5 m6;have r0:=E4.out.at_.rb.cell 0;have r1:=E4.out.at_.rb.cell 1;have r2:=E4.out.at_.rb.cell 2;have r3:=E4.out.at_.rb.cell 3;have r4:=E4.out.at_.rb.cell 4;have r5:=E4.out.at_.rb.cell 5;have r6:=E4.out.at_.rb.cell 6;have z0:=E4.out.at_.rb.frozen 0;have z1:=E4.out.at_.rb.frozen 1;have z2:=E4.out.at_.rb.frozen 2;have z3:=E4.out.at_.rb.frozen 3;have z4:=E4.out.at_.rb.frozen 4;have z5:=E4.out.at_.rb.frozen 5;have z6:=E4.out.at_.rb.frozen 6;simp only[List.getElem?_toArray,List.getElem?_cons_zero,List.getElem?_cons_succ]at r0 r1 r2 r3 r4 r5 r6;go_wp2_with fail
   have R6:=E4.out.at_.rb.w7 (.int .i64 tr) (.bool false) (.int .i64 0) (.int .i64 0) (.slice g1 C.length h1) (.slice g2 K.length h2) (.slice g3 F.length h3);have q0:=R6.cell 0;have q1:=R6.cell 1;have q2:=R6.cell 2;have q3:=R6.cell 3;have q4:=R6.cell 4;have q5:=R6.cell 5;have q6:=R6.cell 6;simp only[List.getElem?_toArray,List.getElem?_cons_zero,List.getElem?_cons_succ]at q0 q1 q2 q3 q4 q5 q6;have OW:=HO.out.o7 E4.out.at_.rb (.int .i64 tr) (.bool false) (.int .i64 0) (.int .i64 0) (.slice g1 C.length h1) (.slice g2 K.length h2) (.slice g3 F.length h3);exact bodyPost_ret (v:=.agg #[.int .i64 tr,.bool false,.int .i64 0,.int .i64 0,.slice g1 C.length h1,.slice g2 K.length h2,.slice g3 F.length h3]) (by simp[results,Tryz.results19,go_sem,q0,q1,q2,q3,q4,q5,q6]) rfl ⟨tr,false,0,0,⟨.slice g1 C.length h1,.slice g2 K.length h2,.slice g3 F.length h3⟩,C,K,F,rfl,OW,HE.out.1,HE.out.2,Iq E4.out.at_.bel (by omega) _ _ _ _ _ _ _⟩
 . obtain rfl:=he.false hov
   obtain rfl:tr=0:=Classical.byContradiction fun e=>hov (.inl e)
   clear he hov;have HY0:=H.out.2.2.2.2.1;obtain⟨ys,hy1,hy2,hy3⟩:=HY0;have HBw:Hid (Below w.heap.size w u2/\w.heap.size<=B):=⟨E4.out.at_.bel,by have:=E4.out.low;omega⟩
   have HY:Hid (ys.map Prod.fst=p.funcs/\(∀u,Below B u2 u->Rd u 4 (.slice f1 p.funcs.length f3) p.funcs.length (ys.flatMap BK))/\∀x∈ys,(∀u,Below B u2 u->CP u x.2 x.1)/\Cb x.2.p/\Cb x.2.l):=⟨hy1,fun u hu=>hy2.keep (HBw.out.1.trans (hu.mono HBw.out.2)) (Nat.le_refl _),fun x hx=>⟨fun u hu=>(hy3 x hx).1.keep (HBw.out.1.trans (hu.mono HBw.out.2)) (Nat.le_refl _),(hy3 x hx).2⟩⟩
   clear hy1 hy2 hy3;have m0:=E4.out.sb.cell 0;have m1:=E4.out.sb.cell 1;have m2:=E4.out.sb.cell 2;have m3:=E4.out.sb.cell 3;have m4:=E4.out.sb.cell 4;have m5:=E4.out.sb.cell 5;have m6:=E4.out.sb.cell 6;have p0:=E4.out.at_.pb.cell 0;have p1:=E4.out.at_.pb.cell 1;have p2:=E4.out.at_.pb.cell 2;have p3:=E4.out.at_.pb.cell 3;simp only[List.getElem?_toArray,List.getElem?_cons_zero,List.getElem?_cons_succ]at m0 m1 m2 m3 m4 m5 m6 p0 p1 p2 p3;go_wp2_with fail
   refine(Hw ⟨.slice r1 p.regions.length r3,.slice k1 p.consts.length k3,.slice f1 p.funcs.length f3,.slice t1 p.certs.length t3⟩ p B 0 false 0 0 ⟨.slice g1 C.length h1,.slice g2 K.length h2,.slice g3 F.length h3⟩ u2 E4.out.hB H.out.1 (H.out.2.2.1.keep E4.out.at_.bel (Nat.le_refl _)) ys HY.out.1 HY.out.2.1 HY.out.2.2).mono ?_;rintro e u4 ⟨M,hv,cur,HH,rfl,hM,hbk,hnc,hac,hhd,b4⟩;have E5:Hid (Hi w u4 ⟨.slice r1 p.regions.length r3,.slice k1 p.consts.length k3,.slice f1 p.funcs.length f3,.slice t1 p.certs.length t3⟩ ⟨.slice am m.ins.length cm,.slice ao m.outs.length co,.slice ak m.keeps.length ck⟩ p B M hv 0 false 0 0 ⟨.slice g1 C.length h1,.slice g2 K.length h2,.slice g3 F.length h3⟩ C K F):=⟨E4.out.at_.keep b4,MB.made hbk hnc hac,E4.out.own.grow b4,⟨HH,hhd⟩,Nat.le_trans E4.out.hB b4.size,E4.out.low,Nat.le_trans E4.out.hB hM⟩;clear hM hbk hnc hac hhd b4 E4 m0 m1 m2 m3 m4 m5 m6 p0 p1 p2 p3 HY HBw;clear u2;have hl1:=Dz hl;clear hl;obtain⟨L,hL,hLn,hL0⟩:∃L:Int,min lim 1048576=L/\nn=L.toNat/\L<=1048576:=⟨_,rfl,hn,by omega⟩
   clear hn;go_wp2
   clear hL hl1;go_loopw [20] (fun i wr=>∃(k:Nat) (t:Int) (d:Bool) (c n:Int) (g1 g2 g3:Option Addr) (h1 h2 h3:Nat) (C:List (Value×List MC)) (K:List MC) (F:List (MG×Value)),k<=nn/\i=.int .i64 k/\Hid (Hi w wr ⟨.slice r1 p.regions.length r3,.slice k1 p.consts.length k3,.slice f1 p.funcs.length f3,.slice t1 p.certs.length t3⟩ ⟨.slice am m.ins.length cm,.slice ao m.outs.length co,.slice ak m.keeps.length ck⟩ p B M hv t d c n ⟨.slice g1 C.length h1,.slice g2 K.length h2,.slice g3 F.length h3⟩ C K F/\C7 p m k (Ao t d c n C K F))) (fun i _=>nn-(intOf i).toNat)
   case atStart=>exact⟨0,0,false,0,0,g1,g2,g3,h1,h2,h3,C,K,F,by omega,rfl,E5.out,HR.out⟩
   case round=>
    clear E5 HR;obtain⟨k,t,d,c,n,g1,g2,g3,h1,h2,h3,C,K,F,hk,rfl,HI⟩:=hrel;have hmM:w.heap.size+1+1<M:=by have:=HI.out.1.low;have:=HI.out.1.hM;omega
    by_cases hlt:(k:Int)<L
    . obtain⟨m0,m1,m2,m3,m4,m5,m6,_⟩:=HI.out.1.mb.at
      simp only[]at m4 m5 m6;have hk1:k<=1048576:=by omega
      go_wp2_with fail
      refine(Ig t c n d g1 g2 g3 C.length h1 K.length h2 F.length h3 wr).mono ?_;rintro e u2 ⟨he,b2⟩;have HI2:Hid (Hi w u2 ⟨.slice r1 p.regions.length r3,.slice k1 p.consts.length k3,.slice f1 p.funcs.length f3,.slice t1 p.certs.length t3⟩ ⟨.slice am m.ins.length cm,.slice ao m.outs.length co,.slice ak m.keeps.length ck⟩ p B M hv t d c n ⟨.slice g1 C.length h1,.slice g2 K.length h2,.slice g3 F.length h3⟩ C K F/\C7 p m k (Ao t d c n C K F)):=⟨HI.out.1.keep b2,HI.out.2⟩
      clear b2 HI m0 m1 m2 m3 m4 m5 m6;by_cases hov:t≠0\/d=true
      . obtain rfl:=he.true hov
        have HE:Hid (DN p m nn (Ao t d c n C K F)/\(Ao t d c n C K F).small):=⟨HI2.out.2.ends hk (.inr hov),HI2.out.2.small⟩
        clear he hov;have HO:Hid (Ah u2 w.heap.size ⟨.slice g1 C.length h1,.slice g2 K.length h2,.slice g3 F.length h3⟩ C K F):=HI2.out.1.own.base (by have:=HI2.out.1.low;omega);obtain⟨m0,m1,m2,m3,m4,m5,m6,_⟩:=HI2.out.1.mb.at;simp only[]at m4 m5 m6;have r0:=HI2.out.1.at_.rb.cell 0;have r1:=HI2.out.1.at_.rb.cell 1;have r2:=HI2.out.1.at_.rb.cell 2;have r3:=HI2.out.1.at_.rb.cell 3;have r4:=HI2.out.1.at_.rb.cell 4;have r5:=HI2.out.1.at_.rb.cell 5;have r6:=HI2.out.1.at_.rb.cell 6;have z0:=HI2.out.1.at_.rb.frozen 0;have z1:=HI2.out.1.at_.rb.frozen 1;have z2:=HI2.out.1.at_.rb.frozen 2;have z3:=HI2.out.1.at_.rb.frozen 3;have z4:=HI2.out.1.at_.rb.frozen 4;have z5:=HI2.out.1.at_.rb.frozen 5;have z6:=HI2.out.1.at_.rb.frozen 6;simp only[List.getElem?_toArray,List.getElem?_cons_zero,List.getElem?_cons_succ]at r0 r1 r2 r3 r4 r5 r6;go_wp2_with fail;have R6:=HI2.out.1.at_.rb.w7 (.int .i64 t) (.bool d) (.int .i64 c) (.int .i64 n) (.slice g1 C.length h1) (.slice g2 K.length h2) (.slice g3 F.length h3);have q0:=R6.cell 0;have q1:=R6.cell 1;have q2:=R6.cell 2;have q3:=R6.cell 3;have q4:=R6.cell 4;have q5:=R6.cell 5;have q6:=R6.cell 6
        simp only[List.getElem?_toArray,List.getElem?_cons_zero,List.getElem?_cons_succ]at q0 q1 q2 q3 q4 q5 q6;have OW:=HO.out.o7 HI2.out.1.at_.rb (.int .i64 t) (.bool d) (.int .i64 c) (.int .i64 n) (.slice g1 C.length h1) (.slice g2 K.length h2) (.slice g3 F.length h3);exact bodyPost_ret (v:=.agg #[.int .i64 t,.bool d,.int .i64 c,.int .i64 n,.slice g1 C.length h1,.slice g2 K.length h2,.slice g3 F.length h3]) (by simp[results,Tryz.results19,go_sem,q0,q1,q2,q3,q4,q5,q6]) rfl ⟨t,d,c,n,⟨.slice g1 C.length h1,.slice g2 K.length h2,.slice g3 F.length h3⟩,C,K,F,rfl,OW,HE.out.1,HE.out.2,Iq HI2.out.1.at_.bel (by omega) _ _ _ _ _ _ _⟩
      . obtain rfl:=he.false hov
        obtain rfl:t=0:=Classical.byContradiction fun e=>hov (.inl e)
        obtain rfl:d=false:=by
         cases d
         . rfl
         . exact absurd (.inr rfl) hov
        clear he hov;go_wp2_with fail
        refine(Oa ⟨.slice r1 p.regions.length r3,.slice k1 p.consts.length k3,.slice f1 p.funcs.length f3,.slice t1 p.certs.length t3⟩ p c n ⟨.slice g1 C.length h1,.slice g2 K.length h2,.slice g3 F.length h3⟩ C K F hv B M u2 HI2.out.1.hB HI2.out.1.hM HI2.out.1.own HI2.out.1.mb HI2.out.1.hd (HI2.out.2.going rfl rfl).sh (HI2.out.2.going rfl rfl).wf H.out.1 H.out.2.1 (fun u hu=>H.out.2.2.1.keep (HI2.out.1.at_.bel.trans (hu.mono (by have:=HI2.out.1.low;omega))) (Nat.le_refl _))).mono ?_;rintro e u5 ⟨rfl,t',d',c',n',X',C',K',F',mb5,own5,hst5,chg5⟩;obtain⟨z1,z2,z3⟩:=X';obtain⟨g4,h4,eb4⟩:=Al own5.cells;obtain⟨g5,h5,eb5⟩:=Al (own5.fam.own (z2,K') (by simp));obtain⟨g6,h6,eb6⟩:=Al own5.frames;simp only[]at eb4 eb5 eb6;subst eb4 eb5 eb6;have HN:=M7 HI2.out H.out.2.1 hk1 mb5 own5 hst5 chg5;clear mb5 own5 hst5 chg5 HI2;go_wp2;go_roundw
        case rel=>exact⟨k+1,t',d',c',n',g4,g5,g6,h4,h5,h6,C',K',F',by omega,by go_num,HN⟩
        case measure=>simp[intOf];omega
    . have HE:Hid (DN p m nn (Ao t d c n C K F)/\(Ao t d c n C K F).small):=⟨HI.out.2.ends hk (.inl (by omega)),HI.out.2.small⟩
      clear hLn;have HO:Hid (Ah wr w.heap.size ⟨.slice g1 C.length h1,.slice g2 K.length h2,.slice g3 F.length h3⟩ C K F):=HI.out.1.own.base (by have:=HI.out.1.low;omega);obtain⟨m0,m1,m2,m3,m4,m5,m6,_⟩:=HI.out.1.mb.at;simp only[]at m4 m5 m6;have r0:=HI.out.1.at_.rb.cell 0;have r1:=HI.out.1.at_.rb.cell 1;have r2:=HI.out.1.at_.rb.cell 2;have r3:=HI.out.1.at_.rb.cell 3;have r4:=HI.out.1.at_.rb.cell 4;have r5:=HI.out.1.at_.rb.cell 5;have r6:=HI.out.1.at_.rb.cell 6;have z0:=HI.out.1.at_.rb.frozen 0;have z1:=HI.out.1.at_.rb.frozen 1;have z2:=HI.out.1.at_.rb.frozen 2;have z3:=HI.out.1.at_.rb.frozen 3;have z4:=HI.out.1.at_.rb.frozen 4;have z5:=HI.out.1.at_.rb.frozen 5;have z6:=HI.out.1.at_.rb.frozen 6;simp only[List.getElem?_toArray,List.getElem?_cons_zero,List.getElem?_cons_succ]at r0 r1 r2 r3 r4 r5 r6;go_wp2_with fail;have R6:=HI.out.1.at_.rb.w7 (.int .i64 t) (.bool d) (.int .i64 c) (.int .i64 n) (.slice g1 C.length h1) (.slice g2 K.length h2) (.slice g3 F.length h3);have q0:=R6.cell 0;have q1:=R6.cell 1;have q2:=R6.cell 2;have q3:=R6.cell 3;have q4:=R6.cell 4;have q5:=R6.cell 5;have q6:=R6.cell 6
      simp only[List.getElem?_toArray,List.getElem?_cons_zero,List.getElem?_cons_succ]at q0 q1 q2 q3 q4 q5 q6;have OW:=HO.out.o7 HI.out.1.at_.rb (.int .i64 t) (.bool d) (.int .i64 c) (.int .i64 n) (.slice g1 C.length h1) (.slice g2 K.length h2) (.slice g3 F.length h3);exact bodyPost_ret (v:=.agg #[.int .i64 t,.bool d,.int .i64 c,.int .i64 n,.slice g1 C.length h1,.slice g2 K.length h2,.slice g3 F.length h3]) (by simp[results,Tryz.results19,go_sem,q0,q1,q2,q3,q4,q5,q6]) rfl ⟨t,d,c,n,⟨.slice g1 C.length h1,.slice g2 K.length h2,.slice g3 F.length h3⟩,C,K,F,rfl,OW,HE.out.1,HE.out.2,Iq HI.out.1.at_.bel (by omega) _ _ _ _ _ _ _⟩
theorem Oh{u:World}{X:Nat}{x0 x1 x2 x3 x4 x5 x6:Value}{t:TypeId}(h:Ap u X #[x0,x1,x2,x3,x4,x5,x6] t):u.cell? ⟨X,0,none⟩=some x0/\u.cell? ⟨X,1,none⟩=some x1/\u.cell? ⟨X,2,none⟩=some x2/\u.cell? ⟨X,3,none⟩=some x3/\u.cell? ⟨X,4,none⟩=some x4/\u.cell? ⟨X,5,none⟩=some x5/\u.cell? ⟨X,6,none⟩=some x6:=
 ⟨h.cell 0,h.cell 1,h.cell 2,h.cell 3,h.cell 4,h.cell 5,h.cell 6⟩
theorem Ah.rdS{u:World}{B:Nat}{v:VS}{C:List (Value×List MC)}{K:List MC}{F:List (MG×Value)}{s:MS}(h:Ah u B v C K F)(hs:s=Ao s.trap s.done s.cost s.steps C K F):Og u v s:=by
 have k:=h.own s.trap s.done s.cost s.steps;rw[<-hs]at k;exact k.rd
structure Ok(u:World)(X:Nat)(s:MS)(a1 a2 a3:Option Addr)(c1 c2 c3:Nat):Prop where
 blk:Ap u X #[.int .i64 s.trap,.bool s.done,.int .i64 s.cost,.int .i64 s.steps,.slice a1 s.cells.length c1,.slice a2 s.stack.length c2,.slice a3 s.frames.length c3] 39
 rd:Og u ⟨.slice a1 s.cells.length c1,.slice a2 s.stack.length c2,.slice a3 s.frames.length c3⟩ s
theorem Ok.keep{u u':World}{X:Nat}{s:MS}{a1 a2 a3:Option Addr}{c1 c2 c3:Nat}(h:Ok u X s a1 a2 a3 c1 c2 c3)(hb:Below u.heap.size u u'):Ok u' X s a1 a2 a3 c1 c2 c3:=⟨h.blk.keep hb,h.rd.keep hb lR⟩
theorem Ah.marks{u u':World}{B lo hi:Nat}{v:VS}{C:List (Value×List MC)}{K:List MC}{F:List (MG×Value)}(h:Ah u B v C K F)(mg:Dn lo hi u u')(hB:hi<=B):Ah u' B v C K F:=⟨mg.own h.cells hB,mg.own h.frames hB,⟨fun x hx=>mg.own (h.fam.own x hx) hB,h.fam.sep⟩⟩
theorem Ap.marks{u u':World}{b lo hi:Nat}{cur:Array Value}{t:TypeId}(h:Ap u b cur t)(mg:Dn lo hi u u')(hb:hi<=b):Ap u' b cur t:=by
 have k:=mg.out b h.lt (.inr hb);unfold Ap at*;rw[k];exact h
theorem NZ{C:List (Value×List MC)}{K:List MC}{F:List (MG×Value)}(h:DC C K F):¬Dx (Fo C K) F<0:=by
 have h1:=GB 1 C h.cell;have h2:=Hf (Fo C K) F h.frame;unfold Fo at*;omega
structure Lm(w u:World)(v:VP)(vm:VM):Prop where
 p:CY u w.heap.size v.r v.k v.f v.t
 m:He u (w.heap.size+1) vm.i vm.o vm.k
 bel:Below w.heap.size w u
theorem Lm.keep{w u u':World}{v:VP}{vm:VM}(h:Lm w u v vm)(hb:Below u.heap.size u u'):Lm w u' v vm:=⟨h.p.keep hb,h.m.keep hb,Ab h.bel (Nat.le_refl _) hb⟩
theorem Lm.all{w u:World}{v:VP}{vm:VM}(h:Lm w u v vm):u.cell? ⟨w.heap.size,0,none⟩=some v.r/\u.cell? ⟨w.heap.size,1,none⟩=some v.k/\u.cell? ⟨w.heap.size,2,none⟩=some v.f/\u.cell? ⟨w.heap.size,3,none⟩=some v.t/\u.cell? ⟨w.heap.size+1,0,none⟩=some vm.i/\u.cell? ⟨w.heap.size+1,1,none⟩=some vm.o/\u.cell? ⟨w.heap.size+1,2,none⟩=some vm.k:=
 ⟨h.p.c0,h.p.c1,h.p.c2,h.p.c3,h.m.c0,h.m.c1,h.m.c2⟩
def Hc(p:MP)(m:MM)(nn:Nat)(s:MS):Prop:=DN p m nn s/\s.small
theorem Hc.one{p:MP}{m:MM}{nn:Nat}{a b:MS}(h:Hc p m nn a)(h':Hc p m nn b):a=b:=h.1.one h'.1
def Lx(p:MP)(m:MM)(nn:Nat)(w:World)(e:Ending)(w':World):Prop:=∃(C:List (Value×List MC)) (K:List MC) (F:List (MG×Value)) (s:MS) (a1:Option Addr) (c1:Nat) (a2:Option Addr) (c2:Nat) (a3:Option Addr) (c3:Nat),e=.returned (.agg #[.int .i64 s.trap,.bool s.done,.int .i64 s.cost,.int .i64 s.steps,.slice a1 s.cells.length c1,.slice a2 s.stack.length c2,.slice a3 s.frames.length c3])/\Hc p m nn s/\s=Ao s.trap s.done s.cost s.steps C K F/\DC C K F/\Ah w' w.heap.size ⟨.slice a1 s.cells.length c1,.slice a2 s.stack.length c2,.slice a3 s.frames.length c3⟩ C K F/\Below w.heap.size w w'
theorem JW.to{w w':World}{p:MP}{m:MM}{nn:Nat}{e:Ending}(h:JW w p m nn e w'):Lx p m nn w e w':=by
 obtain⟨t,d,c,n,X,C,K,F,rfl,own,hst,hsm,bl⟩:=h;obtain⟨x1,x2,x3⟩:=X;obtain⟨g1,h1,eb1⟩:=Al own.cells;obtain⟨g2,h2,eb2⟩:=Al (own.fam.own (x2,K) (by simp));obtain⟨g3,h3,eb3⟩:=Al own.frames;simp only[]at eb1 eb2 eb3;subst eb1 eb2 eb3;have e1:(Ao t d c n C K F).cells.length=C.length:=by simp[Ao]
 have e3:(Ao t d c n C K F).frames.length=F.length:=by simp[Ao]
 refine⟨C,K,F,Ao t d c n C K F,g1,h1,g2,h2,g3,h3,?_,⟨hst,hsm⟩,rfl,MS.smallSE hsm,?_,bl⟩
 . rw[e1,e3]
   rfl
 . rw[e1,e3]
   exact own
theorem Lu(v:VP)(p:MP)(vm:VM)(m:MM)(lim:Int)(nn:Nat)(w:World)(hl:nn=(min lim 1048576).toNat/\Dr lim)(hs:p.small)(hw:p.wf)(ms:m.small)(mw:m.wf)(h:Cx w v p/\EH w v.r p.regions/\DQ w v.f p.funcs)(hm:Fs w vm m):
 Calls Tryz.prog 17 #[.agg #[v.r,v.k,v.f,v.t],.agg #[vm.i,vm.o,vm.k],.int .i64 lim] w (Lx p m nn w):=(Lq v p vm m lim nn w hl.1 hl.2 hs hw h.1 h.2.2 ms mw hm).mono fun _ _ h=>h.to
theorem Il(v:VP)(p:MP)(vm:VM)(m:MM)(lim:Int)(nn:Nat)(w:World)(hl:nn=(min lim 1048576).toNat/\Dr lim)(hs:p.small)(hw:p.wf)(ms:m.small)(mw:m.wf)(h:Cx w v p/\EH w v.r p.regions/\DQ w v.f p.funcs)(hm:Fs w vm m):
 Calls Tryz.prog 19 #[.agg #[v.r,v.k,v.f,v.t],.agg #[vm.i,vm.o,vm.k],.int .i64 lim] w (Lx p m nn w):=(KL v p vm m lim nn w hl.1 hl.2 hs hw h.1 h.2.1 h.2.2 ms mw hm).mono fun _ _ h=>h.to
def IE(p:MP)(m:MM)(nn:Nat)(u wx:World)(X:Nat):Prop:=∃s a1 c1 a2 c2 a3 c3,Hc p m nn s/\Ok wx X s a1 a2 a3 c1 c2 c3/\Below u.heap.size u wx
theorem IE.late{p:MP}{m:MM}{nn:Nat}{u0 u:World}{s:MS}{a1 a2 a3:Option Addr}{c1 c2 c3 B:Nat}{C:List (Value×List MC)}{K:List MC}{F:List (MG×Value)}(h:Hc p m nn s)(hs:s=Ao s.trap s.done s.cost s.steps C K F)(ho:Ah u B ⟨.slice a1 s.cells.length c1,.slice a2 s.stack.length c2,.slice a3 s.frames.length c3⟩ C K F)(hb:Below u0.heap.size u0 u):Hid (IE p m nn u0 (u.alloc (.cells #[.int .i64 s.trap,.bool s.done,.int .i64 s.cost,.int .i64 s.steps,.slice a1 s.cells.length c1,.slice a2 s.stack.length c2,.slice a3 s.frames.length c3] 39)) u.heap.size):=
 ⟨s,a1,c1,a2,c2,a3,c3,h,⟨Ap.new _ _ _,(ho.rdS hs).keep (Aa _ _) (Nat.le_refl _)⟩,Ab hb (Nat.le_refl _) (Aa _ _)⟩
theorem IE.early{p:MP}{m:MM}{nn:Nat}{u0 u:World}{X:Nat}{s:MS}{a1 a2 a3:Option Addr}{c1 c2 c3 B:Nat}{C:List (Value×List MC)}{K:List MC}{F:List (MG×Value)}(h:Hc p m nn s)(hs:s=Ao s.trap s.done s.cost s.steps C K F)(ho:Ah u B ⟨.slice a1 s.cells.length c1,.slice a2 s.stack.length c2,.slice a3 s.frames.length c3⟩ C K F)(hb:Below u0.heap.size u0 u)(hk:Ap u X #[.int .i64 0,.bool false,.int .i64 0,.int .i64 0,.slice none 0 0,.slice none 0 0,.slice none 0 0] 39)(hX:u0.heap.size<=X):Hid (IE p m nn u0 (((((((u.setCell ⟨X,0,none⟩ (.int .i64 s.trap)).setCell ⟨X,1,none⟩ (.bool s.done)).setCell ⟨X,2,none⟩ (.int .i64 s.cost)).setCell ⟨X,3,none⟩ (.int .i64 s.steps)).setCell ⟨X,4,none⟩ (.slice a1 s.cells.length c1)).setCell ⟨X,5,none⟩ (.slice a2 s.stack.length c2)).setCell ⟨X,6,none⟩ (.slice a3 s.frames.length c3)) X):=
 ⟨s,a1,c1,a2,c2,a3,c3,h,⟨hk.w7 _ _ _ _ _ _ _,(ho.o7 hk _ _ _ _ _ _ _).rdS hs⟩,Iq hb hX _ _ _ _ _ _ _⟩
end Go.Proofs.YtlejplpkomddeaaGreat
