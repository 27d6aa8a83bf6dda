import Derived.Test.YtlejplpkomddeaaGreatG0
import Derived.Test.YtlejplpkomddeaaGreatG5
import Derived.Test.YtlejplpkomddeaaGreatG13
import Derived.Test.YtlejplpkomddeaaGreatG42
import Derived.Test.YtlejplpkomddeaaGreatG14
import Derived.Test.YtlejplpkomddeaaGreatG17
import Derived.Test.YtlejplpkomddeaaGreatG9
import Derived.Test.YtlejplpkomddeaaGreatG6
import Derived.Test.YtlejplpkomddeaaGreatG33
import Derived.Deep.RegionHeldLaw
import Derived.Deep.RegionLaw
import Derived.Deep.AppendLies
namespace Go.Proofs.YtlejplpkomddeaaGreat
open Go.ChangeShapes Go.WideShapes Go.ChangeAt Go.RowKit
set_option linter.unusedVariables false
set_option maxHeartbeats 4000000
set_option maxRecDepth 100000
def BU(p:MP)(s s':MS):Prop:=((s.trap≠0\/s.done=true)/\s'=s)\/(s.trap=0/\s.done=false/\¬BM p s/\s'={s with trap:=7})\/(s.trap=0/\s.done=false/\BM p s/\Bu p s s')
theorem BU.one{p:MP}{s a b:MS}(h:BU p s a)(h':BU p s b):a=b:=by
 rcases h with⟨h1,h2⟩|⟨h1,h2,h3,h4⟩|⟨h1,h2,h3,h4⟩<;>rcases h' with⟨k1,k2⟩|⟨k1,k2,k3,k4⟩|⟨k1,k2,k3,k4⟩
 ·rw[h2,k2]
 ·simp[k1,k2]at h1
 ·simp[k1,k2]at h1
 ·simp[h1,h2]at k1
 ·rw[h4,k4]
 ·exact absurd k3 h3
 ·simp[h1,h2]at k1
 ·exact absurd h3 k3
 ·exact h4.one k4
structure DH(w u:World)(v:VP)(t:Int)(d:Bool)(c n:Int)(X:VS):Prop where
 pb:Aq u w.heap.size #[v.r,v.k,v.f,v.t] 45
 sb:Aq u (w.heap.size+1) #[.int .i64 t,.bool d,.int .i64 c,.int .i64 n,X.c,X.k,X.f] 39
 rb:Aq u (w.heap.size+1+1) #[.int .i64 0,.bool false,.int .i64 0,.int .i64 0,.slice none 0 0,.slice none 0 0,.slice none 0 0] 39
 bel:Below w.heap.size w u
theorem DH.keep{w u u':World}{v:VP}{t:Int}{d:Bool}{c n:Int}{X:VS}(h:DH w u v t d c n X)(hb:Below u.heap.size u u'):DH w u' v t d c n X:=⟨h.pb.keep hb,h.sb.keep hb,h.rb.keep hb,Ac h.bel lR hb⟩
theorem DH.of(w:World)(v:VP)(t:Int)(d:Bool)(c n:Int)(X:VS):DH w (((w.alloc (.cells #[v.r,v.k,v.f,v.t] 45)).alloc (.cells #[.int .i64 t,.bool d,.int .i64 c,.int .i64 n,X.c,X.k,X.f] 39)).alloc (.cells #[.int .i64 0,.bool false,.int .i64 0,.int .i64 0,.slice none 0 0,.slice none 0 0,.slice none 0 0] 39)) v t d c n X:=by
 have b1:=Aa w (.cells #[v.r,v.k,v.f,v.t] 45);have k1:=Aq.new w #[v.r,v.k,v.f,v.t] 45;generalize hU1:w.alloc (.cells #[v.r,v.k,v.f,v.t] 45)=U1 at b1 k1⊢;have z1:U1.heap.size=w.heap.size+1:=by rw[<-hU1];simp
 have b2:=Aa U1 (.cells #[.int .i64 t,.bool d,.int .i64 c,.int .i64 n,X.c,X.k,X.f] 39);have k2:=Aq.new U1 #[.int .i64 t,.bool d,.int .i64 c,.int .i64 n,X.c,X.k,X.f] 39;rw[z1]at k2;generalize hU2:U1.alloc (.cells #[.int .i64 t,.bool d,.int .i64 c,.int .i64 n,X.c,X.k,X.f] 39)=U2 at b2 k2⊢;have z2:U2.heap.size=w.heap.size+1+1:=by rw[<-hU2];simp[z1]
 have b3:=Aa U2 (.cells #[.int .i64 0,.bool false,.int .i64 0,.int .i64 0,.slice none 0 0,.slice none 0 0,.slice none 0 0] 39);have k3:=Aq.new U2 #[.int .i64 0,.bool false,.int .i64 0,.int .i64 0,.slice none 0 0,.slice none 0 0,.slice none 0 0] 39;rw[z2]at k3;exact⟨(k1.keep b2).keep b3,k2.keep b3,k3,Ac (Ac b1 lR b2) lR b3⟩
theorem Pd{u:World}{b:Nat}{ty:TypeId}{a0 a1 a2 a3 a4 a5 a6:Value}(h:Aq u b #[a0,a1,a2,a3,a4,a5,a6] ty)(x0 x1 x2 x3 x4 x5 x6:Value):Aq (((((((u.setCell ⟨b,0,none⟩ x0).setCell ⟨b,1,none⟩ x1).setCell ⟨b,2,none⟩ x2).setCell ⟨b,3,none⟩ x3).setCell ⟨b,4,none⟩ x4).setCell ⟨b,5,none⟩ x5).setCell ⟨b,6,none⟩ x6) b #[x0,x1,x2,x3,x4,x5,x6] ty:=by
 have:=((((((h.set 0 x0).set 1 x1).set 2 x2).set 3 x3).set 4 x4).set 5 x5).set 6 x6;simpa using this
theorem DH.store{w u:World}{v:VP}{t:Int}{d:Bool}{c n:Int}{X:VS}(h:DH w u v t d c n X)(t':Int)(d':Bool)(c' n':Int)(X':VS):DH w (((((((u.setCell ⟨w.heap.size+1,0,none⟩ (.int .i64 t')).setCell ⟨w.heap.size+1,1,none⟩ (.bool d')).setCell ⟨w.heap.size+1,2,none⟩ (.int .i64 c')).setCell ⟨w.heap.size+1,3,none⟩ (.int .i64 n')).setCell ⟨w.heap.size+1,4,none⟩ (X'.c)).setCell ⟨w.heap.size+1,5,none⟩ (X'.k)).setCell ⟨w.heap.size+1,6,none⟩ (X'.f)) v t' d' c' n' X':=by
 refine⟨?_,Pd h.sb _ _ _ _ _ _ _,?_,?_⟩
 ·exact((((((h.pb.other (by simp only[];omega) _).other (by simp only[];omega) _).other (by simp only[];omega) _).other (by simp only[];omega) _).other (by simp only[];omega) _).other (by simp only[];omega) _).other (by simp only[];omega) _
 ·exact((((((h.rb.other (by simp only[];omega) _).other (by simp only[];omega) _).other (by simp only[];omega) _).other (by simp only[];omega) _).other (by simp only[];omega) _).other (by simp only[];omega) _).other (by simp only[];omega) _
 ·exact((((((h.bel.setCell (by simp only[];omega) _).setCell (by simp only[];omega) _).setCell (by simp only[];omega) _).setCell (by simp only[];omega) _).setCell (by simp only[];omega) _).setCell (by simp only[];omega) _).setCell (by simp only[];omega) _
theorem Aj.seven{u:World}{B:Nat}{V:VS}{C:List (Value×List MC)}{K:List MC}{F:List (MG×Value)}(h:Aj u B V C K F){b:Nat}{a0 a1 a2 a3 a4 a5 a6:Value}(hb:Aq u b #[a0,a1,a2,a3,a4,a5,a6] 39)(x0 x1 x2 x3 x4 x5 x6:Value):Aj (((((((u.setCell ⟨b,0,none⟩ x0).setCell ⟨b,1,none⟩ x1).setCell ⟨b,2,none⟩ x2).setCell ⟨b,3,none⟩ x3).setCell ⟨b,4,none⟩ x4).setCell ⟨b,5,none⟩ x5).setCell ⟨b,6,none⟩ x6) B V C K F:=by
 have R0:=hb.set 0 x0;have R1:=R0.set 1 x1;have R2:=R1.set 2 x2;have R3:=R2.set 3 x3;have R4:=R3.set 4 x4;have R5:=R4.set 5 x5;exact((((((h.other hb (by decide) (by decide) (by decide) 0 x0).other R0 (by decide) (by decide) (by decide) 1 x1).other R1 (by decide) (by decide) (by decide) 2 x2).other R2 (by decide) (by decide) (by decide) 3 x3).other R3 (by decide) (by decide) (by decide) 4 x4).other R4 (by decide) (by decide) (by decide) 5 x5).other R5 (by decide) (by decide) (by decide) 6 x6
theorem st7{s:MS}{c n:Int}{C:List (Value×List MC)}{K:List MC}{F:List (MG×Value)}(h:s=Av 0 false c n C K F):Av 7 false c n C K F={s with trap:=7}:=by
 rw[h];rfl
def GS(w:World)(p:MP)(s:MS)(e:Ending)(w':World):Prop:=∃(t:Int) (d:Bool) (c n:Int) (X:VS) (C:List (Value×List MC)) (K:List MC) (F:List (MG×Value)),e=.returned (.agg #[.int .i64 t,.bool d,.int .i64 c,.int .i64 n,X.c,X.k,X.f])/\Aj w' w.heap.size X C K F/\BU p s (Av t d c n C K F)/\Below w.heap.size w w'
theorem JD(v:VP)(p:MP)(x:VS)(s:MS)(w:World)(hps:p.small)(hpw:p.wf)(hP:Cx w v p)(hss:s.small)(hsw:s.wf)(hS:Fc w x s):
  Calls Tryz.prog 7 #[.agg #[v.r,v.k,v.f,v.t],.agg #[.int .i64 s.trap,.bool s.done,.int .i64 s.cost,.int .i64 s.steps,x.c,x.k,x.f]] w (GS w p s):=by
 obtain⟨r1,r3,er⟩:=(show∃a c,v.r=.slice a p.regions.length c from by obtain⟨_,_,h2,_⟩:=hP.regions;exact h2.is_slice)
 obtain⟨k1,k3,ek⟩:=hP.consts.is_slice
 obtain⟨t1,t3,et⟩:=hP.certs.is_slice
 obtain⟨f1,f3,ef⟩:=(show∃a c,v.f=.slice a p.funcs.length c from by obtain⟨_,_,h2,_⟩:=hP.funcs;exact h2.is_slice)
 obtain⟨a1,c1,e1⟩:=(show∃a c,x.c=.slice a s.cells.length c from by obtain⟨_,_,h2,_⟩:=hS.cells;exact h2.is_slice)
 obtain⟨a2,c2,e2⟩:=hS.stack.is_slice
 obtain⟨a3,c3,e3⟩:=(show∃a c,x.f=.slice a s.frames.length c from by obtain⟨_,_,h2,_⟩:=hS.frames;exact h2.is_slice)
 obtain⟨vr,vk,vf,vt⟩:=v
 obtain⟨xc,xk,xf⟩:=x
 simp only[]at er ek et ef e1 e2 e3
 subst er ek et ef e1 e2 e3
 have H:Hid (p.small/\p.wf/\Cx w _ p/\s.small/\s.wf/\Fc w _ s):=⟨hps,hpw,hP,hss,hsw,hS⟩
 have HSD:Hid (s.trap=s.trap/\s.done=s.done):=⟨rfl,rfl⟩
 clear hps hpw hP hss hsw hS
 have E0:Hid (DH w (((w.alloc (.cells #[.slice r1 p.regions.length r3,.slice k1 p.consts.length k3,.slice f1 p.funcs.length f3,.slice t1 p.certs.length t3] 45)).alloc (.cells #[.int .i64 s.trap,.bool s.done,.int .i64 s.cost,.int .i64 s.steps,.slice a1 s.cells.length c1,.slice a2 s.stack.length c2,.slice a3 s.frames.length c3] 39)).alloc (.cells #[.int .i64 0,.bool false,.int .i64 0,.int .i64 0,.slice none 0 0,.slice none 0 0,.slice none 0 0] 39)) _ _ _ _ _ _):=DH.of w ⟨.slice r1 p.regions.length r3,.slice k1 p.consts.length k3,.slice f1 p.funcs.length f3,.slice t1 p.certs.length t3⟩ s.trap s.done s.cost s.steps ⟨.slice a1 s.cells.length c1,.slice a2 s.stack.length c2,.slice a3 s.frames.length c3⟩
 go_enter Tryz.func7,Tryz.ntmps7
 go_upto_region 1 with fail
 refine Ag (fun u=>Hid (DH w u _ _ _ _ _ _)) E0 ?_
 rintro U0 E1
 clear E0
 obtain⟨m0,m1,m2,m3,m4,m5,m6⟩:=E1.out.sb.c7
 try dsimp only at m0 m1 m2 m3 m4 m5 m6
 go_wp2_with fail
 refine(L8 ⟨.slice a1 s.cells.length c1,.slice a2 s.stack.length c2,.slice a3 s.frames.length c3⟩ s U0 H.out.2.2.2.1 (H.out.2.2.2.2.2.keep E1.out.bel lR)).mono ?_
 rintro e u1 ⟨C,F,V,rfl,hst,own1,bl1⟩
 obtain⟨b1,d1,eb1⟩:=An own1.cells
 obtain⟨b2,d2,eb2⟩:=An (own1.fam.own (V.k,s.stack) (by simp))
 obtain⟨b3,d3,eb3⟩:=An own1.frames
 obtain⟨v1,v2,v3⟩:=V
 simp only[]at eb1 eb2 eb3
 subst eb1 eb2 eb3
 have HST:=AM hst
 have E2:=E1.out.keep bl1
 have EN:Hid (DH w (((((((u1.setCell ⟨w.heap.size+1,0,none⟩ (.int .i64 s.trap)).setCell ⟨w.heap.size+1,1,none⟩ (.bool s.done)).setCell ⟨w.heap.size+1,2,none⟩ (.int .i64 s.cost)).setCell ⟨w.heap.size+1,3,none⟩ (.int .i64 s.steps)).setCell ⟨w.heap.size+1,4,none⟩ (.slice b1 C.length d1)).setCell ⟨w.heap.size+1,5,none⟩ (.slice b2 s.stack.length d2)).setCell ⟨w.heap.size+1,6,none⟩ (.slice b3 F.length d3)) _ _ _ _ _ _/\Aj (((((((u1.setCell ⟨w.heap.size+1,0,none⟩ (.int .i64 s.trap)).setCell ⟨w.heap.size+1,1,none⟩ (.bool s.done)).setCell ⟨w.heap.size+1,2,none⟩ (.int .i64 s.cost)).setCell ⟨w.heap.size+1,3,none⟩ (.int .i64 s.steps)).setCell ⟨w.heap.size+1,4,none⟩ (.slice b1 C.length d1)).setCell ⟨w.heap.size+1,5,none⟩ (.slice b2 s.stack.length d2)).setCell ⟨w.heap.size+1,6,none⟩ (.slice b3 F.length d3)) _ _ C _ F/\U0.heap.size<=(((((((u1.setCell ⟨w.heap.size+1,0,none⟩ (.int .i64 s.trap)).setCell ⟨w.heap.size+1,1,none⟩ (.bool s.done)).setCell ⟨w.heap.size+1,2,none⟩ (.int .i64 s.cost)).setCell ⟨w.heap.size+1,3,none⟩ (.int .i64 s.steps)).setCell ⟨w.heap.size+1,4,none⟩ (.slice b1 C.length d1)).setCell ⟨w.heap.size+1,5,none⟩ (.slice b2 s.stack.length d2)).setCell ⟨w.heap.size+1,6,none⟩ (.slice b3 F.length d3)).heap.size):=⟨E2.store s.trap s.done s.cost s.steps ⟨.slice b1 C.length d1,.slice b2 s.stack.length d2,.slice b3 F.length d3⟩,own1.seven E2.sb (.int .i64 s.trap) (.bool s.done) (.int .i64 s.cost) (.int .i64 s.steps) (.slice b1 C.length d1) (.slice b2 s.stack.length d2) (.slice b3 F.length d3),by simpa only[World.size_setCell]using bl1.size⟩
 have hB0:w.heap.size<=U0.heap.size:=E1.out.bel.size
 clear m0 m1 m2 m3 m4 m5 m6 hst own1
 obtain⟨m0,m1,m2,m3,m4,m5,m6⟩:=E2.sb.c7
 obtain⟨mz0,mz1,mz2,mz3,mz4,mz5,mz6⟩:=E2.sb.z7
 try dsimp only at m0 m1 m2 m3 m4 m5 m6
 clear E2
 go_upto_region 2 with fail
 clear m0 m1 m2 m3 m4 m5 m6 mz0 mz1 mz2 mz3 mz4 mz5 mz6
 generalize U0.heap.size=B0 at EN hB0
 refine Ag (fun u=>Hid (DH w u _ _ _ _ _ _/\Aj u B0 _ C _ F/\B0<=u.heap.size)) EN ?_
 rintro U EU
 clear EN E1 bl1
 clear u1 U0
 have HSS:Hid (BM p s↔BM p (Av s.trap s.done s.cost s.steps C s.stack F)):=by rw[<-HST.out];exact Iff.rfl
 have HTD:Hid ((s.trap=s.trap)/\(s.done=s.done)):=⟨rfl,rfl⟩
 by_cases ht:s.trap=0
 ·have htb:(s.trap != 0)=false:=by simpa using ht
  have HTR:Hid (s.trap=0):=ht
  clear ht
  cases hd:s.done with
  |true=>
   have HJ:Hid (BU p s (Av s.trap true s.cost s.steps C s.stack F)):=.inl ⟨.inr hd,by have:=HST.out;rw[hd]at this;exact this.symm⟩
   rw[hd]at EU
   have HDN:Hid (s.done=true):=hd
   clear hd
   obtain⟨m0,m1,m2,m3,m4,m5,m6⟩:=EU.out.1.sb.c7
   try dsimp only at m0 m1 m2 m3 m4 m5 m6
   go_upto_region 3 with fail
   obtain⟨r0,r1,r2,r3,r4,r5,r6⟩:=EU.out.1.rb.c7
   obtain⟨rz0,rz1,rz2,rz3,rz4,rz5,rz6⟩:=EU.out.1.rb.z7
   try dsimp only at r0 r1 r2 r3 r4 r5 r6
   go_wp2_with fail
   exact bodyPost_ret (results_cell_row Tryz.results7 _ _ _ 39 _ (0,0) _ rfl (EU.out.1.rb.w7 _ _ _ _ _ _ _) Tryz.underlying39 rfl (by kernel_rfl)) rfl ⟨s.trap,true,s.cost,s.steps,⟨.slice b1 C.length d1,.slice b2 s.stack.length d2,.slice b3 F.length d3⟩,_,_,_,rfl,(EU.out.2.1.base hB0).o7 EU.out.1.rb _ _ _ _ _ _ _,HJ.out,KB EU.out.1.bel (by omega) _ _ _ _ _ _ _⟩
  | false=>
   rw[hd]at EU
   have HDN:Hid (s.done=false):=hd
   have HST2:Hid (s=Av 0 false s.cost s.steps C s.stack F):=by have:=HST.out;rw[hd,HTR.out]at this;exact this
   have HRS:Hid (Fc U ⟨.slice b1 C.length d1,.slice b2 s.stack.length d2,.slice b3 F.length d3⟩ s):=by
    have h1:=(EU.out.2.1.own 0 false s.cost s.steps).rd
    rw[<-HST2.out]at h1
    exact h1
   have HSH:Hid (∀u,Below U.heap.size U u->Calls Tryz.prog 30 #[.agg #[.slice r1 p.regions.length r3,.slice k1 p.consts.length k3,.slice f1 p.funcs.length f3,.slice t1 p.certs.length t3],.agg #[.int .i64 s.trap,.bool false,.int .i64 s.cost,.int .i64 s.steps,.slice b1 C.length d1,.slice b2 s.stack.length d2,.slice b3 F.length d3]] u fun e w'=>Ao e (BM p s)/\Below u.heap.size u w'):=fun u hu=>by
    have h1:=Kx ⟨.slice r1 p.regions.length r3,.slice k1 p.consts.length k3,.slice f1 p.funcs.length f3,.slice t1 p.certs.length t3⟩ p ⟨.slice b1 C.length d1,.slice b2 s.stack.length d2,.slice b3 F.length d3⟩ s u H.out.1 H.out.2.1 (H.out.2.2.1.keep (Ac EU.out.1.bel lR hu) lR) H.out.2.2.2.1 (HRS.out.keep hu lR)
    rw[HDN.out]at h1
    exact h1
   clear hd
   obtain⟨m0,m1,m2,m3,m4,m5,m6⟩:=EU.out.1.sb.c7
   try dsimp only at m0 m1 m2 m3 m4 m5 m6
   obtain⟨p0,p1,p2,p3⟩:=EU.out.1.pb.c4
   try dsimp only at p0 p1 p2 p3
   by_cases hin:BM p s
   ·have HIN:=AM hin
    clear hin
    go_wp2_with fail
    refine(HSH.out U (Below.refl _ _)).mono ?_
    rintro e u1 ⟨he,bq⟩
    obtain rfl:=he.true HIN.out
    have EU2:=h3 (EU.out.1.keep bq) (EU.out.2.1.grow bq) (Nat.le_trans EU.out.2.2 bq.size)
    clear m0 m1 m2 m3 m4 m5 m6 p0 p1 p2 p3 HSH bq he HRS EU
    clear U
    rw[HTR.out]at EU2
    obtain⟨m0,m1,m2,m3,m4,m5,m6⟩:=EU2.out.1.sb.c7
    try dsimp only at m0 m1 m2 m3 m4 m5 m6
    obtain⟨p0,p1,p2,p3⟩:=EU2.out.1.pb.c4
    try dsimp only at p0 p1 p2 p3
    go_wp2_with fail
    refine(LB ⟨.slice r1 p.regions.length r3,.slice k1 p.consts.length k3,.slice f1 p.funcs.length f3,.slice t1 p.certs.length t3⟩ p s.cost s.steps ⟨.slice b1 C.length d1,.slice b2 s.stack.length d2,.slice b3 F.length d3⟩ C s.stack F B0 u1 EU2.out.2.2 EU2.out.2.1 (by rw[<-HST2.out];exact HIN.out) (by rw[<-HST2.out];exact H.out.2.2.2.2.1) H.out.1 H.out.2.1 (fun u hu=>H.out.2.2.1.keep (EU2.out.1.bel.trans (hu.mono hB0)) lR)).mono ?_
    rintro e u2 ⟨t',d',c',n',X',C',K',F',rfl,own2,hst2,bk2⟩
    obtain⟨x1,x2,x3⟩:=X'
    obtain⟨g1,h1,eb1⟩:=An own2.cells
    obtain⟨g2,h2,eb2⟩:=An (own2.fam.own (x2,K') (by simp))
    obtain⟨g3,h3,eb3⟩:=An own2.frames
    simp only[]at eb1 eb2 eb3
    subst eb1 eb2 eb3
    have HJ:Hid (BU p s (Av t' d' c' n' C' K' F')):=.inr (.inr ⟨HTR.out,HDN.out,HIN.out,by rw[<-HST2.out]at hst2;exact hst2⟩)
    have HB:Hid (Below w.heap.size w u2):=EU2.out.1.bel.trans (bk2.low.mono hB0)
    have HRB:Hid (Aq u2 (w.heap.size+1+1) _ 39):=bk2.st _ _ EU2.out.1.rb
    have HO:=AM (own2.base hB0)
    clear hst2 own2 bk2 EU2 m0 m1 m2 m3 m4 m5 m6 p0 p1 p2 p3
    clear u1
    obtain⟨r0,r1,r2,r3,r4,r5,r6⟩:=HRB.out.c7
    obtain⟨rz0,rz1,rz2,rz3,rz4,rz5,rz6⟩:=HRB.out.z7
    try dsimp only at r0 r1 r2 r3 r4 r5 r6
    go_wp2_with fail
    exact bodyPost_ret (results_cell_row Tryz.results7 _ _ _ 39 _ (0,0) _ rfl (HRB.out.w7 _ _ _ _ _ _ _) Tryz.underlying39 rfl (by kernel_rfl)) rfl ⟨t',d',c',n',⟨.slice g1 C'.length h1,.slice g2 K'.length h2,.slice g3 F'.length h3⟩,_,_,_,rfl,HO.out.o7 HRB.out _ _ _ _ _ _ _,HJ.out,KB HB.out (by omega) _ _ _ _ _ _ _⟩
   ·have HIN:Hid (¬BM p s):=hin
    clear hin
    go_wp2_with fail
    refine(HSH.out U (Below.refl _ _)).mono ?_
    rintro e u1 ⟨he,bq⟩
    obtain rfl:=he.false HIN.out
    have EU2:=h3 (EU.out.1.keep bq) (EU.out.2.1.grow bq) (Nat.le_trans EU.out.2.2 bq.size)
    clear m0 m1 m2 m3 m4 m5 m6 p0 p1 p2 p3 HSH bq he HRS EU
    clear U
    obtain⟨m0,m1,m2,m3,m4,m5,m6⟩:=EU2.out.1.sb.c7
    try dsimp only at m0 m1 m2 m3 m4 m5 m6
    go_wp2_with fail
    refine(Br s.trap s.cost s.steps 7 false b1 b2 b3 C.length d1 s.stack.length d2 F.length d3 _).mono ?_
    rintro e u2 ⟨rfl,bl2⟩
    have EU3:=h2 (EU2.out.1.keep bl2) (EU2.out.2.1.grow bl2)
    clear bl2 EU2 m0 m1 m2 m3 m4 m5 m6
    clear u1
    have HJ:Hid (BU p s (Av 7 false s.cost s.steps C s.stack F)):=.inr (.inl ⟨HTR.out,HDN.out,HIN.out,st7 HST2.out⟩)
    obtain⟨r0,r1,r2,r3,r4,r5,r6⟩:=EU3.out.1.rb.c7
    obtain⟨rz0,rz1,rz2,rz3,rz4,rz5,rz6⟩:=EU3.out.1.rb.z7
    try dsimp only at r0 r1 r2 r3 r4 r5 r6
    go_wp2_with fail
    exact bodyPost_ret (results_cell_row Tryz.results7 _ _ _ 39 _ (0,0) _ rfl (EU3.out.1.rb.w7 _ _ _ _ _ _ _) Tryz.underlying39 rfl (by kernel_rfl)) rfl ⟨7,false,s.cost,s.steps,⟨.slice b1 C.length d1,.slice b2 s.stack.length d2,.slice b3 F.length d3⟩,_,_,_,rfl,(EU3.out.2.base hB0).o7 EU3.out.1.rb _ _ _ _ _ _ _,HJ.out,KB EU3.out.1.bel (by omega) _ _ _ _ _ _ _⟩
 ·have htb:(s.trap != 0)=true:=by simpa using ht
  have HJ:Hid (BU p s (Av s.trap s.done s.cost s.steps C s.stack F)):=.inl ⟨.inl ht,HST.out.symm⟩
  clear ht
  obtain⟨m0,m1,m2,m3,m4,m5,m6⟩:=EU.out.1.sb.c7
  try dsimp only at m0 m1 m2 m3 m4 m5 m6
  go_upto_region 3 with fail
  obtain⟨r0,r1,r2,r3,r4,r5,r6⟩:=EU.out.1.rb.c7
  obtain⟨rz0,rz1,rz2,rz3,rz4,rz5,rz6⟩:=EU.out.1.rb.z7
  try dsimp only at r0 r1 r2 r3 r4 r5 r6
  go_wp2_with fail
  exact bodyPost_ret (results_cell_row Tryz.results7 _ _ _ 39 _ (0,0) _ rfl (EU.out.1.rb.w7 _ _ _ _ _ _ _) Tryz.underlying39 rfl (by kernel_rfl)) rfl ⟨s.trap,s.done,s.cost,s.steps,⟨.slice b1 C.length d1,.slice b2 s.stack.length d2,.slice b3 F.length d3⟩,_,_,_,rfl,(EU.out.2.1.base hB0).o7 EU.out.1.rb _ _ _ _ _ _ _,HJ.out,KB EU.out.1.bel (by omega) _ _ _ _ _ _ _⟩
theorem FD{α:Type}{l:List α}{i:Nat}{h:α->α}{g:α}(hg:g∈l.modify i h):∃a∈l,g=a\/g=h a:=by
 obtain⟨j,hj⟩:=List.mem_iff_getElem?.1 hg;rw[List.getElem?_modify]at hj;cases ha:l[j]? with
 |none=>rw[ha]at hj;cases hj
 |some a=>
  rw[ha]at hj;simp only[Option.map_eq_map,Option.map_some,Option.some.injEq]at hj;refine⟨a,mG ha,?_⟩;split at hj
  ·exact .inr hj.symm
  ·exact .inl hj.symm
theorem Gx{fs:List MG}{h:MG->MG}(H:∀g∈fs,g.small)(hh:∀g,(h g).locals.length=g.locals.length):∀g∈CW fs h,g.small:=fun g hg=>by
 obtain⟨a,ha,e|e⟩:=FD hg
 ·rw[e];exact H a ha
 ·unfold MG.small
  rw[e,hh];exact H a ha
theorem IQ{fs:List MG}{h:MG->MG}:(CW fs h).length=fs.length:=by unfold CW;rw[List.length_modify]
theorem Jv{cs:List (List MC)}{a b:Nat}{v:MC}(H:∀r∈cs,r.length<=1048576):∀r∈Fj cs a b v,r.length<=1048576:=fun r hr=>by
 obtain⟨q,hq,e|e⟩:=FD hr
 ·rw[e];exact H q hq
 ·rw[e,List.length_set];exact H q hq
theorem LW{cs:List (List MC)}{a b:Nat}{v:MC}:(Fj cs a b v).length=cs.length:=by unfold Fj;rw[List.length_modify]
theorem MY{p:MP}{f:MF}{g:MG}{s:MS}{x:MI}(hp:Be p 0)(hs:s.small)(hK:s.stack.length<=64)(hF:s.frames.length<=32):(C8 p f g s x).small:=by
 have hgo:∀q∈CW s.frames (fun h=>{h with at_:=g.at_+1}),q.small:=Gx hs.frame (fun _=>rfl);have hgl:(CW s.frames (fun h=>{h with at_:=g.at_+1})).length<=32:=by rw[IQ];exact hF
 have hst:(s.stack.take (s.stack.length-(Am p f x).length)).length<=64:=by rw[List.length_take];omega
 have har:(s.stack.drop (s.stack.length-(Am p f x).length)).length<=64:=by rw[List.length_drop];omega
 have hz:∀c:MF,p.funcs[x.a.toNat]?=some c->c.locals.length<=32:=fun c hc=>by
  have h4:Ch c:=hp.parts.2.2.1.2.2.1 _ (gI.1 hc).1 c hc;have:=h4.loc;omega
 have mk:∀(t:Int) (d:Bool) (c n:Int) (cs:List (List MC)) (stk:List MC) (fr:List MG),cs.length<=1048576->(∀r∈cs,r.length<=1048576)->stk.length<=66->fr.length<=33->(∀q∈fr,q.small)->(⟨t,d,c,n,cs,stk,fr⟩:MS).small:=fun t d c n cs stk fr h1 h2 h3 h4 h5=>⟨h1,h2,by simp only[];omega,by simp only[];omega,h5⟩
 unfold C8;simp only[];generalize s.stack.take (s.stack.length-(Am p f x).length)=st at hst⊢;generalize s.stack.drop (s.stack.length-(Am p f x).length)=ar at har⊢;generalize CW s.frames (fun h=>{h with at_:=g.at_+1})=go at hgo hgl⊢;have h1:∀v:MC,(st++[v]).length<=66:=fun v=>by simp;omega
 have h2:∀v v':MC,(st++[v,v']).length<=66:=fun v v'=>by simp;omega
 have ot:∀h:MG->MG,(∀q,(h q).locals.length=q.locals.length)->(CW go h).length<=33/\∀q∈CW go h,q.small:=fun h hh=>⟨by rw[IQ];omega,Gx hgo hh⟩
 have p1:∀v:MC,(⟨s.trap,s.done,s.cost,s.steps,s.cells,st++[v],go⟩:MS).small:=fun v=>mk _ _ _ _ _ _ _ hs.cells hs.cell (h1 v) (by omega) hgo
 have p0:(⟨s.trap,s.done,s.cost,s.steps,s.cells,st,go⟩:MS).small:=mk _ _ _ _ _ _ _ hs.cells hs.cell (by omega) (by omega) hgo;have pt:∀h:MG->MG,(∀q,(h q).locals.length=q.locals.length)->(⟨s.trap,s.done,s.cost,s.steps,s.cells,st,CW go h⟩:MS).small:=fun h hh=>mk _ _ _ _ _ _ _ hs.cells hs.cell (by omega) (ot h hh).1 (ot h hh).2
 have pc:∀a b v,(⟨s.trap,s.done,s.cost,s.steps,Fj s.cells a b v,st,go⟩:MS).small:=fun a b v=>mk _ _ _ _ _ _ _ (by rw[LW];exact hs.cells) (Jv hs.cell) (by omega) (by omega) hgo
 by_cases c0:x.op=0\/x.op=24
 ·rw[if_pos c0];exact p0
 rw[if_neg c0];by_cases c1:x.op=1
 ·rw[if_pos c1];exact p1 _
 rw[if_neg c1];by_cases c2:x.op=2
 ·rw[if_pos c2];exact p1 _
 rw[if_neg c2];by_cases c3:x.op=3
 ·rw[if_pos c3];exact pt _ (fun q=>by simp)
 rw[if_neg c3];by_cases c4:x.op=4
 ·rw[if_pos c4];exact p1 _
 rw[if_neg c4];by_cases c5:x.op=5
 ·rw[if_pos c5];exact pc _ _ _
 rw[if_neg c5];by_cases c6:x.op=6
 ·rw[if_pos c6];exact p1 _
 rw[if_neg c6];by_cases c7:x.op=7
 ·rw[if_pos c7];exact pc _ _ _
 rw[if_neg c7];by_cases c8:x.op=16\/x.op=19
 ·rw[if_pos c8];exact p1 _
 rw[if_neg c8];by_cases c9:x.op=20\/x.op=21
 ·rw[if_pos c9];exact p1 _
 rw[if_neg c9];by_cases cA:8<=x.op/\x.op<=18
 ·rw[if_pos cA];exact p1 _
 rw[if_neg cA];by_cases cB:x.op=22
 ·rw[if_pos cB];exact p1 _
 rw[if_neg cB];by_cases cC:x.op=23
 ·rw[if_pos cC];exact mk _ _ _ _ _ _ _ hs.cells hs.cell (h2 _ _) (by omega) hgo
 rw[if_neg cC];by_cases cD:x.op=25
 ·rw[if_pos cD];exact pt _ (fun q=>rfl)
 rw[if_neg cD];by_cases cE:x.op=26
 ·rw[if_pos cE]
  split
  ·exact pt _ (fun q=>rfl)
  ·exact p0
 rw[if_neg cE];by_cases cF:x.op=27
 ·rw[if_pos cF]
  split
  ·exact pt _ (fun q=>rfl)
  ·exact pt _ (fun q=>by simp)
 rw[if_neg cF];by_cases cG:x.op=28
 ·rw[if_pos cG]
  refine mk _ _ _ _ _ _ _ hs.cells hs.cell (by omega) (by simp;omega) (fun q hq=> ?_);simp only[List.mem_append,List.mem_singleton]at hq;rcases hq with hq|rfl
  ·exact hgo q hq
  ·unfold MG.small
   simp only[List.length_append];split
   ·rename_i c hc
    have:=hz c hc;rw[List.length_map];omega
   ·simp only[List.length_nil]
    omega
 ·rw[if_neg cG]
  exact mk _ _ _ _ _ _ _ hs.cells hs.cell (by omega) (by simp;omega) (fun q hq=>hs.frame q ((List.dropLast_sublist _).subset hq))
theorem BU.small{p:MP}{s s':MS}(h:BU p s s')(hs:s.small):s'.small:=by
 rcases h with⟨_,rfl⟩|⟨_,_,_,rfl⟩|⟨_,_,hin,hst⟩
 ·exact hs
 ·exact⟨hs.cells,hs.cell,hs.stack,hs.frames,hs.frame⟩
 ·cases hst with
  |jump=>exact⟨hs.cells,hs.cell,hs.stack,hs.frames,hs.frame⟩
  |trap=>exact⟨hs.cells,hs.cell,hs.stack,hs.frames,hs.frame⟩
  |does=>exact MY hin.prog ⟨hs.cells,hs.cell,hs.stack,hs.frames,hs.frame⟩ hin.high hin.deep
theorem MS.smallSE{t:Int}{d:Bool}{c n:Int}{C:List (Value×List MC)}{K:List MC}{F:List (MG×Value)}(h:(Av t d c n C K F).small):Eb C K F:=by
 refine⟨by have:=h.cells;simpa[Av]using this,fun x hx=>h.cell x.2 (List.mem_map_of_mem (f:=Prod.snd) hx),h.stack,by have:=h.frames;simpa[Av]using this,fun x hx=>h.frame x.1 (List.mem_map_of_mem (f:=Prod.fst) hx)⟩
theorem Gs(W0:World)(base:Nat)(v:VS)(s:MS)(k0:Int)(w:World)(hn:s.small)(h0:0<=k0)(h1:k0<=140737488355328)(h:Gm W0 base v s)(hs:Bb W0 w):
  Calls Tryz.prog 14 #[.agg #[.int .i64 s.trap,.bool s.done,.int .i64 s.cost,.int .i64 s.steps,v.c,v.k,v.f],.int .i64 k0] w fun e w'=>(∃k1:Int,e=.returned (.int .i64 k1)/\0<=k1)/\Ds base W0.heap.size w w':=by
 have H:=h2 hn h;clear hn h;have hA:(w.alloc (.cells #[.int .i64 s.trap,.bool s.done,.int .i64 s.cost,.int .i64 s.steps,v.c,v.k,v.f] 39)).ownsRow w.heap.size 39 7 (.slice (some ⟨w.heap.size,0,none⟩) 1 1) 1 [.int .i64 s.trap,.bool s.done,.int .i64 s.cost,.int .i64 s.steps,v.c,v.k,v.f]:=World.ownsRow_lit (base:=w.heap.size) (e:=39) (size:=7) w #[.int .i64 s.trap,.bool s.done,.int .i64 s.cost,.int .i64 s.steps,v.c,v.k,v.f] 1 lR (by unfold maxLen;omega) (by simp);have HS:Hid (Bb W0 (w.alloc (.cells #[.int .i64 s.trap,.bool s.done,.int .i64 s.cost,.int .i64 s.steps,v.c,v.k,v.f] 39))):=hs.trans (Bb.of_below ((Below.refl _ _).alloc lR _));have hWs:=hs.size;have HB:Hid (Below w.heap.size w (w.alloc (.cells #[.int .i64 s.trap,.bool s.done,.int .i64 s.cost,.int .i64 s.steps,v.c,v.k,v.f] 39))):=(Below.refl _ _).alloc lR _;go_enter Tryz.func14,Tryz.ntmps14;go_wp2_with fail;generalize w.alloc (.cells #[.int .i64 s.trap,.bool s.done,.int .i64 s.cost,.int .i64 s.steps,v.c,v.k,v.f] 39)=W1 at hA HS HB⊢;refine(GO W0 base v.c s.cells k0 _ H.out.1.cells H.out.1.cell (by omega) (by omega) H.out.2.cells HS.out).mono ?_;rintro e u1 ⟨⟨k1,rfl,k10,k11⟩,m1⟩;have HM1:=AM m1;have hl1:=H.out.1.cells
 have hl2:=H.out.1.stack;have hl3:=H.out.1.frames
 have keep:∀{u:World},AY base W0.heap.size W1 u->∀(i:Nat) x,W1.cell? ⟨w.heap.size,i,none⟩=some x->u.cell? ⟨w.heap.size,i,none⟩=some x:=fun hm i x hx=>by
  have:=hm.out w.heap.size (.inr hWs);unfold World.cell? at*;rw[this];exact hx
 have HK:Hid (∀{u:World},AY base W0.heap.size W1 u->u.cell? ⟨w.heap.size,4,none⟩=some v.c/\u.cell? ⟨w.heap.size,5,none⟩=some v.k/\u.cell? ⟨w.heap.size,6,none⟩=some v.f):=fun hm=>⟨keep hm 4 _ (hA.cellAt 4 (by omega)),keep hm 5 _ (hA.cellAt 5 (by omega)),keep hm 6 _ (hA.cellAt 6 (by omega))⟩
 clear m1 keep hA;obtain⟨p4,p5,p6⟩:=HK.out HM1.out;go_wp2_with fail
 refine(DX W0 base v.k s.stack k1 _ hl2 (by omega) (by omega) H.out.2.stack (HS.out.trans HM1.out.shaped)).mono ?_;rintro e u2 ⟨rfl,m2⟩;have HM2:=AM (HM1.out.trans m2);clear m2 p4 p5 p6;obtain⟨p4,p5,p6⟩:=HK.out HM2.out;go_wp2_with fail
 refine(Hs W0 base v.f s.frames (k1+2*(s.stack.length:Int)) _ hl3 H.out.1.frame (by omega) (by omega) H.out.2.frames (HS.out.trans HM2.out.shaped)).mono ?_;rintro e u3 ⟨⟨k3,rfl,k30,k31⟩,m3⟩;have HM3:=AM (HM2.out.trans m3);clear m3 p4 p5 p6;go_wp2
 go_ret
 exact⟨⟨k3,rfl,by omega⟩,Ds.of HB.out lR HM3.out⟩
structure C5(R:Nat->Prop)(u u':World):Prop where
 os:u'.os=u.os
 tape:u'.tape=u.tape
 output:u'.output=u.output
 size:u.heap.size<=u'.heap.size
 block:∀k,k<u.heap.size->¬R k->u'.heap[k]?=u.heap[k]?
theorem C5.of{R:Nat->Prop}{u u':World}(h:Below u.heap.size u u'):C5 R u u':=⟨h.os,h.tape,h.output,h.size,fun k hk _=>h.block k hk⟩
theorem C5.refl(R:Nat->Prop)(u:World):C5 R u u:=⟨rfl,rfl,rfl,Nat.le_refl _,fun _ _ _=>rfl⟩
theorem C5.trans{R R':Nat->Prop}{a b c:World}(h:C5 R a b)(h':C5 R' b c)(hR:∀k,k<a.heap.size->R' k->R k):C5 R a c:=⟨h'.os.trans h.os,h'.tape.trans h.tape,h'.output.trans h.output,Nat.le_trans h.size h'.size,fun k hk hn=>(h'.block k (Nat.lt_of_lt_of_le hk h.size) (fun e=>hn (hR k hk e))).trans (h.block k hk hn)⟩
theorem C5.below{R:Nat->Prop}{a b:World}(h:C5 R a b){B:Nat}(hB:B<=a.heap.size)(hR:∀k,k<B->¬R k):Below B a b:=⟨h.os,h.tape,h.output,h.size,fun k hk=>h.block k (by omega) (hR k hk)⟩
theorem C5.blk{R:Nat->Prop}{a b:World}(h:C5 R a b){g:Nat}{cur:Array Value}{ty:TypeId}(hg:Aq a g cur ty)(hn:¬R g):Aq b g cur ty:=by
 unfold Aq at*;rw[h.block g (Array.getElem?_eq_some_iff.1 hg).1 hn];exact hg
theorem C5.setCell{R:Nat->Prop}{a b:World}(h:C5 R a b){ad:Addr}(ha:R ad.block\/a.heap.size<=ad.block)(x:Value):C5 R a (b.setCell ad x):=by
 refine⟨h.os,h.tape,h.output,by rw[World.size_setCell];exact h.size,fun k hk hn=> ?_⟩
 have hne:k≠ad.block:=fun e=>by
  rcases ha with ha|ha
  ·exact hn (e▸ha)
  ·omega
 rw[Below.heap_setCell _ _ _ _ hne];exact h.block k hk hn
theorem C5.grown{R:Nat->Prop}{a b c:World}(h:C5 R a b){r:Option Nat}(hg:b.grownBy c r)(hr:∀k,k<a.heap.size->some k=r->R k):C5 R a c:=⟨hg.os.trans h.os,hg.tape.trans h.tape,hg.output.trans h.output,Nat.le_trans h.size hg.size,fun k hk hn=>(hg.block k (Nat.lt_of_lt_of_le hk h.size) (fun e=>hn (hr k hk e))).trans (h.block k hk hn)⟩
def C1(X:VS)(C:List (Value×List MC))(F:List (MG×Value))(b:Nat):Prop:=X.c.ownBlock=some b\/X.k.ownBlock=some b\/X.f.ownBlock=some b\/(∃r∈C,r.1.ownBlock=some b)\/∃r∈AC F,r.1.ownBlock=some b
theorem Aj.ltOf{u:World}{B:Nat}{X:VS}{C:List (Value×List MC)}{K:List MC}{F:List (MG×Value)}(h:Aj u B X C K F){b:Nat}(hb:C1 X C F b):B<=b/\b<u.heap.size:=by
 rcases hb with hb|hb|hb|⟨r,hr,hb⟩|⟨r,hr,hb⟩
 ·exact h.cells.lt b hb
 ·exact(h.fam.own (X.k,K) (by simp)).lt b hb
 ·exact h.frames.lt b hb
 ·exact(h.fam.own r (by simp only[List.mem_append];exact .inl (.inl hr))).lt b hb
 ·exact(h.fam.own r (by simp only[List.mem_append];exact .inr hr)).lt b hb
theorem C5.own{R:Nat->Prop}{u u':World}(hc:C5 R u u'){B:Nat}{e:TypeId}{k n:Nat}{s:Value}{xs:List Value}(h:u.ownsRow B e k s n xs)(hn:∀b,s.ownBlock=some b->¬R b):u'.ownsRow B e k s n xs:=by
 refine⟨h.1,?_⟩;rcases h.2 with h2|⟨g,cap,cur,e1,hb1,hg,hr⟩
 ·exact .inl h2
 ·refine .inr ⟨g,cap,cur,e1,hb1,?_,hr⟩
  rw[hc.block g (Array.getElem?_eq_some_iff.1 hg).1 (hn g (by rw[e1];rfl))];exact hg
theorem Aj.chg{R:Nat->Prop}{u u':World}{B:Nat}{X:VS}{C:List (Value×List MC)}{K:List MC}{F:List (MG×Value)}(h:Aj u B X C K F)(hc:C5 R u u')(hn:∀b,C1 X C F b->¬R b):Aj u' B X C K F:=by
 refine⟨hc.own h.cells (fun b hb=>hn b (.inl hb)),hc.own h.frames (fun b hb=>hn b (.inr (.inr (.inl hb)))),⟨fun r hr=>hc.own (h.fam.own r hr) (fun b hb=>hn b ?_),h.fam.sep⟩⟩;simp only[List.mem_append,List.mem_singleton]at hr;rcases hr with(hr|rfl)|hr
 ·exact .inr (.inr (.inr (.inl ⟨r,hr,hb⟩)))
 ·exact .inr (.inl hb)
 ·exact .inr (.inr (.inr (.inr ⟨r,hr,hb⟩)))
theorem Aj.setFar{u:World}{B:Nat}{X:VS}{C:List (Value×List MC)}{K:List MC}{F:List (MG×Value)}(h:Aj u B X C K F){a:Addr}(hn:¬C1 X C F a.block)(x:Value):Aj (u.setCell a x) B X C K F:=h.chg (R:=fun j=>j=a.block) (C5.setCell (R:=fun j=>j=a.block) (C5.refl _ u) (.inl rfl) x) (fun b hb e=>hn (e▸hb))
def GF(k:Nat):Nat:=(#[150,151,152,153,154,155,156,157,158,158,158,158,158,158,158,158,159,158,158,159,160,160,161,162,163,164,165,166,167,168]:Array Nat).getD k 0
def OP(M k:Nat):Value:=.func (.func (GF k)) #[.pointer (some ⟨M,0,none⟩)] #[]
structure MCs(cur:Array Value)(M:Nat)(t:Int)(d:Bool)(c n:Int)(X:VS)(hv:Value):Prop where
 c0:cur[0]?=some (.int .i64 t)
 c1:cur[1]?=some (.bool d)
 c2:cur[2]?=some (.int .i64 c)
 c3:cur[3]?=some (.int .i64 n)
 c4:cur[4]?=some X.c
 c5:cur[5]?=some X.k
 c6:cur[6]?=some X.f
 c7:cur[7]?=some hv
 rows:∀k v,BA[k]?=some v->cur[8+k]?=some v
 acts:∀k,k<30->cur[128+k]?=some (OP M k)
 size:cur.size=158
structure MB(u:World)(M:Nat)(t:Int)(d:Bool)(c n:Int)(X:VS)(hv:Value):Prop where
 blk:∃cur,Aq u M cur 94/\MCs cur M t d c n X hv
theorem MB.lt{u:World}{M:Nat}{t:Int}{d:Bool}{c n:Int}{X:VS}{hv:Value}(h:MB u M t d c n X hv):M<u.heap.size:=by
 obtain⟨cur,h1,_⟩:=h.blk;exact h1.lt
theorem MB.keep{u u':World}{M:Nat}{t:Int}{d:Bool}{c n:Int}{X:VS}{hv:Value}(h:MB u M t d c n X hv)(hb:Below u.heap.size u u'):MB u' M t d c n X hv:=by
 obtain⟨cur,h1,h2⟩:=h.blk;exact⟨cur,h1.keep hb,h2⟩
theorem MB.chg{R:Nat->Prop}{u u':World}{M:Nat}{t:Int}{d:Bool}{c n:Int}{X:VS}{hv:Value}(h:MB u M t d c n X hv)(hc:C5 R u u')(hn:¬R M):MB u' M t d c n X hv:=by
 obtain⟨cur,h1,h2⟩:=h.blk;exact⟨cur,hc.blk h1 hn,h2⟩
theorem MB.other{u:World}{M:Nat}{t:Int}{d:Bool}{c n:Int}{X:VS}{hv:Value}(h:MB u M t d c n X hv){a:Addr}(ha:M≠a.block)(x:Value):MB (u.setCell a x) M t d c n X hv:=by
 obtain⟨cur,h1,h2⟩:=h.blk;exact⟨cur,h1.other ha x,h2⟩
theorem MB.at{u:World}{M:Nat}{t:Int}{d:Bool}{c n:Int}{X:VS}{hv:Value}(h:MB u M t d c n X hv):u.cell? ⟨M,0,none⟩=some (.int .i64 t)/\u.cell? ⟨M,1,none⟩=some (.bool d)/\u.cell? ⟨M,2,none⟩=some (.int .i64 c)/\u.cell? ⟨M,3,none⟩=some (.int .i64 n)/\u.cell? ⟨M,4,none⟩=some X.c/\u.cell? ⟨M,5,none⟩=some X.k/\u.cell? ⟨M,6,none⟩=some X.f/\u.cell? ⟨M,7,none⟩=some hv:=by
 obtain⟨cur,h1,h2⟩:=h.blk;exact⟨(h1.cell 0).trans h2.c0,(h1.cell 1).trans h2.c1,(h1.cell 2).trans h2.c2,(h1.cell 3).trans h2.c3,(h1.cell 4).trans h2.c4,(h1.cell 5).trans h2.c5,(h1.cell 6).trans h2.c6,(h1.cell 7).trans h2.c7⟩
theorem MB.row{u:World}{M:Nat}{t:Int}{d:Bool}{c n:Int}{X:VS}{hv:Value}(h:MB u M t d c n X hv)(k:Nat)(v:Value)(hk:BA[k]?=some v):u.cell? ⟨M,8+k,none⟩=some v:=by
 obtain⟨cur,h1,h2⟩:=h.blk;exact(h1.cell _).trans (h2.rows k v hk)
theorem MB.act{u:World}{M:Nat}{t:Int}{d:Bool}{c n:Int}{X:VS}{hv:Value}(h:MB u M t d c n X hv)(k:Nat)(hk:k<30):u.cell? ⟨M,128+k,none⟩=some (OP M k):=by
 obtain⟨cur,h1,h2⟩:=h.blk;exact(h1.cell _).trans (h2.acts k hk)
theorem MB.frozen{u:World}{M:Nat}{t:Int}{d:Bool}{c n:Int}{X:VS}{hv:Value}(h:MB u M t d c n X hv)(i:Nat):u.frozen? ⟨M,i,none⟩=false:=by
 obtain⟨cur,h1,h2⟩:=h.blk;exact h1.frozen i
theorem AD{cur:Array Value}{i j:Nat}{x v:Value}(hne:i≠j)(h:cur[j]?=some v):(cur.setIfInBounds i x)[j]?=some v:=by
 rw[Array.getElem?_setIfInBounds_ne hne];exact h
theorem Eo{cur:Array Value}{i:Nat}{x:Value}(h:i<cur.size):(cur.setIfInBounds i x)[i]?=some x:=by
 simp[h]
theorem MB.setT{u:World}{M:Nat}{t:Int}{d:Bool}{c n:Int}{X:VS}{hv:Value}(h:MB u M t d c n X hv)(z:Int):MB (u.setCell ⟨M,0,none⟩ (.int .i64 z)) M z d c n X hv:=by
 obtain⟨cur,h1,h2⟩:=h.blk;have hs:=h2.size;exact⟨_,h1.set 0 _,Eo (by omega),AD (by omega) h2.c1,AD (by omega) h2.c2,AD (by omega) h2.c3,AD (by omega) h2.c4,AD (by omega) h2.c5,AD (by omega) h2.c6,AD (by omega) h2.c7,fun k v hk=>AD (by omega) (h2.rows k v hk),fun k hk=>AD (by omega) (h2.acts k hk),by simp[hs]⟩
theorem MB.setD{u:World}{M:Nat}{t:Int}{d:Bool}{c n:Int}{X:VS}{hv:Value}(h:MB u M t d c n X hv)(z:Bool):MB (u.setCell ⟨M,1,none⟩ (.bool z)) M t z c n X hv:=by
 obtain⟨cur,h1,h2⟩:=h.blk;have hs:=h2.size;exact⟨_,h1.set 1 _,AD (by omega) h2.c0,Eo (by omega),AD (by omega) h2.c2,AD (by omega) h2.c3,AD (by omega) h2.c4,AD (by omega) h2.c5,AD (by omega) h2.c6,AD (by omega) h2.c7,fun k v hk=>AD (by omega) (h2.rows k v hk),fun k hk=>AD (by omega) (h2.acts k hk),by simp[hs]⟩
theorem MB.setCo{u:World}{M:Nat}{t:Int}{d:Bool}{c n:Int}{X:VS}{hv:Value}(h:MB u M t d c n X hv)(z:Int):MB (u.setCell ⟨M,2,none⟩ (.int .i64 z)) M t d z n X hv:=by
 obtain⟨cur,h1,h2⟩:=h.blk;have hs:=h2.size;exact⟨_,h1.set 2 _,AD (by omega) h2.c0,AD (by omega) h2.c1,Eo (by omega),AD (by omega) h2.c3,AD (by omega) h2.c4,AD (by omega) h2.c5,AD (by omega) h2.c6,AD (by omega) h2.c7,fun k v hk=>AD (by omega) (h2.rows k v hk),fun k hk=>AD (by omega) (h2.acts k hk),by simp[hs]⟩
theorem MB.setN{u:World}{M:Nat}{t:Int}{d:Bool}{c n:Int}{X:VS}{hv:Value}(h:MB u M t d c n X hv)(z:Int):MB (u.setCell ⟨M,3,none⟩ (.int .i64 z)) M t d c z X hv:=by
 obtain⟨cur,h1,h2⟩:=h.blk;have hs:=h2.size;exact⟨_,h1.set 3 _,AD (by omega) h2.c0,AD (by omega) h2.c1,AD (by omega) h2.c2,Eo (by omega),AD (by omega) h2.c4,AD (by omega) h2.c5,AD (by omega) h2.c6,AD (by omega) h2.c7,fun k v hk=>AD (by omega) (h2.rows k v hk),fun k hk=>AD (by omega) (h2.acts k hk),by simp[hs]⟩
theorem MB.setK{u:World}{M:Nat}{t:Int}{d:Bool}{c n:Int}{X:VS}{hv:Value}(h:MB u M t d c n X hv)(z:Value):MB (u.setCell ⟨M,5,none⟩ (z)) M t d c n {X with k:=z} hv:=by
 obtain⟨cur,h1,h2⟩:=h.blk;have hs:=h2.size;exact⟨_,h1.set 5 _,AD (by omega) h2.c0,AD (by omega) h2.c1,AD (by omega) h2.c2,AD (by omega) h2.c3,AD (by omega) h2.c4,Eo (by omega),AD (by omega) h2.c6,AD (by omega) h2.c7,fun k v hk=>AD (by omega) (h2.rows k v hk),fun k hk=>AD (by omega) (h2.acts k hk),by simp[hs]⟩
theorem MB.setF{u:World}{M:Nat}{t:Int}{d:Bool}{c n:Int}{X:VS}{hv:Value}(h:MB u M t d c n X hv)(z:Value):MB (u.setCell ⟨M,6,none⟩ (z)) M t d c n {X with f:=z} hv:=by
 obtain⟨cur,h1,h2⟩:=h.blk;have hs:=h2.size;exact⟨_,h1.set 6 _,AD (by omega) h2.c0,AD (by omega) h2.c1,AD (by omega) h2.c2,AD (by omega) h2.c3,AD (by omega) h2.c4,AD (by omega) h2.c5,Eo (by omega),AD (by omega) h2.c7,fun k v hk=>AD (by omega) (h2.rows k v hk),fun k hk=>AD (by omega) (h2.acts k hk),by simp[hs]⟩
theorem EM{u:World}{B M:Nat}{t:Int}{d:Bool}{c n:Int}{X X':VS}{C:List (Value×List MC)}{K:List MC}{F:List (MG×Value)}{hv x:Value}{i:Nat}(h:Aj u B X C K F)(hm:MB u M t d c n X' hv):Aj (u.setCell ⟨M,i,none⟩ x) B X C K F:=by
 obtain⟨cur,hb,_⟩:=hm.blk;exact h.other hb (by decide) (by decide) (by decide) i x
theorem C1.stack{x1 s s' x3:Value}{C:List (Value×List MC)}{F:List (MG×Value)}{b:Nat}(h:C1 ⟨x1,s,x3⟩ C F b)(e:s.ownBlock=s'.ownBlock):C1 ⟨x1,s',x3⟩ C F b:=by
 rcases h with h|h|h|h|h
 ·exact .inl h
 ·exact .inr (.inl (e▸h))
 ·exact .inr (.inr (.inl h))
 ·exact .inr (.inr (.inr (.inl h)))
 ·exact .inr (.inr (.inr (.inr h)))
def PD(w:World)(B M:Nat)(t:Int)(d:Bool)(c n:Int)(X:VS)(C:List (Value×List MC))(K:List MC)(F:List (MG×Value))(hv:Value)(z:MC)(e:Ending)(w':World):Prop:=e=.returned (.agg #[.int .i64 z.type,.int .u32 z.word])/\∃k',MB w' M t d c n ⟨X.c,k',X.f⟩ hv/\Aj w' B ⟨X.c,k',X.f⟩ C K F/\C5 (fun j=>j=M) w w'/\k'.ownBlock=X.k.ownBlock
theorem Cv(B M:Nat)(t:Int)(d:Bool)(c n:Int)(X:VS)(C:List (Value×List MC))(K:List MC)(F:List (MG×Value))(hv:Value)(z:MC)(w:World)(hB:B<=w.heap.size)(h:Aj w B X C (K++[z]) F)(hm:MB w M t d c n X hv)(hK:K.length<=1048576):
  Calls Tryz.prog 197 #[.pointer (some ⟨M,0,none⟩)] w (PD w B M t d c n X C K F hv z):=by
 obtain⟨x1,x2,x3⟩:=X;have hk:=h.fam.own (x2,K++[z]) (by simp);simp only[]at hk;rcases Au hk with⟨_,e⟩|⟨gk,ck,e⟩
 ·simp at e
 subst e;have hcap:=CG hk;rw[List.length_append]at hcap hk;simp only[List.length_cons,List.length_nil,Nat.zero_add]at hcap hk;have HZ:Hid (∀u,Aj u B ⟨x1,.slice (some ⟨gk,0,none⟩) (K.length+1) ck,x3⟩ C (K++[z]) F->u.cell? ⟨gk,K.length*2,none⟩=some (.int .i64 z.type)/\u.cell? ⟨gk,K.length*2+1,none⟩=some (.int .u32 z.word)):=fun u hu=>hu.rowc (r:=(.slice (some ⟨gk,0,none⟩) (K.length+1) ck,K++[z])) (by simp) rfl (by simp)
 have hlen:(K++[z]).length=K.length+1:=by simp
 rw[hlen]at hm h⊢;have H:Hid (Aj w B ⟨x1,.slice (some ⟨gk,0,none⟩) (K.length+1) ck,x3⟩ C (K++[z]) F):=h;have HM:Hid (MB w M t d c n ⟨x1,.slice (some ⟨gk,0,none⟩) (K.length+1) ck,x3⟩ hv):=hm;have hlM:=hm.lt;clear h hm hk hlen;generalize hkl:K.length=kl at*;have HKL:Hid (K.length=kl):=hkl;clear hkl;have hkI:(kl:Int)<=(ck:Int):=by omega
 have E0:Hid (MB (w.alloc (.cells #[.int .i64 0,.int .u32 0] 128)) M t d c n ⟨x1,.slice (some ⟨gk,0,none⟩) (kl+1) ck,x3⟩ hv/\Aj (w.alloc (.cells #[.int .i64 0,.int .u32 0] 128)) B ⟨x1,.slice (some ⟨gk,0,none⟩) (kl+1) ck,x3⟩ C (K++[z]) F/\Aq (w.alloc (.cells #[.int .i64 0,.int .u32 0] 128)) w.heap.size #[.int .i64 0,.int .u32 0] 128/\Below w.heap.size w (w.alloc (.cells #[.int .i64 0,.int .u32 0] 128))):=⟨HM.out.keep (Aa _ _),H.out.grow (Aa _ _),Aq.new _ _ _,Aa _ _⟩
 go_enter Tryz.func197,Tryz.ntmps197;go_upto_region 1 with fail
 refine Ag (fun u=>Hid (MB u M t d c n ⟨x1,.slice (some ⟨gk,0,none⟩) (kl+1) ck,x3⟩ hv/\Aj u B ⟨x1,.slice (some ⟨gk,0,none⟩) (kl+1) ck,x3⟩ C (K++[z]) F/\Aq u w.heap.size #[.int .i64 0,.int .u32 0] 128/\Below w.heap.size w u)) E0 ?_
 rintro U0 E1;clear E0;have m5:=E1.out.1.at.2.2.2.2.2.1;obtain⟨z0,z1⟩:=HZ.out U0 E1.out.2.1;simp only[]at m5;have E2:Hid ((MB (U0.alloc (.cells #[.int .i64 z.type,.int .u32 z.word] 128)) M t d c n ⟨x1,.slice (some ⟨gk,0,none⟩) (kl+1) ck,x3⟩ hv/\Aj (U0.alloc (.cells #[.int .i64 z.type,.int .u32 z.word] 128)) B ⟨x1,.slice (some ⟨gk,0,none⟩) (kl+1) ck,x3⟩ C (K++[z]) F/\Aq (U0.alloc (.cells #[.int .i64 z.type,.int .u32 z.word] 128)) w.heap.size #[.int .i64 0,.int .u32 0] 128/\Below w.heap.size w (U0.alloc (.cells #[.int .i64 z.type,.int .u32 z.word] 128)))/\Aq (U0.alloc (.cells #[.int .i64 z.type,.int .u32 z.word] 128)) U0.heap.size #[.int .i64 z.type,.int .u32 z.word] 128):=⟨⟨E1.out.1.keep (Aa _ _),E1.out.2.1.grow (Aa _ _),E1.out.2.2.1.keep (Aa _ _),Ac E1.out.2.2.2 lR (Aa _ _)⟩,Aq.new _ _ _⟩
 have hY:w.heap.size<U0.heap.size:=E1.out.2.2.1.lt;go_upto_region 3 with fail
 clear m5 z0 z1 E1;generalize U0.heap.size=Y at E2 hY⊢;refine Ag (fun u=>Hid ((MB u M t d c n ⟨x1,.slice (some ⟨gk,0,none⟩) (kl+1) ck,x3⟩ hv/\Aj u B ⟨x1,.slice (some ⟨gk,0,none⟩) (kl+1) ck,x3⟩ C (K++[z]) F/\Aq u w.heap.size #[.int .i64 0,.int .u32 0] 128/\Below w.heap.size w u)/\Aq u Y #[.int .i64 z.type,.int .u32 z.word] 128)) E2 ?_
 rintro U1 E1;clear E2;clear U0;have m5:=E1.out.1.1.at.2.2.2.2.2.1;have mz:=E1.out.1.1.frozen 5;simp only[]at m5
 have E2:Hid (MB (U1.setCell ⟨M,5,none⟩ (.slice (some ⟨gk,0,none⟩) kl ck)) M t d c n ⟨x1,.slice (some ⟨gk,0,none⟩) kl ck,x3⟩ hv/\Aj (U1.setCell ⟨M,5,none⟩ (.slice (some ⟨gk,0,none⟩) kl ck)) B ⟨x1,.slice (some ⟨gk,0,none⟩) kl ck,x3⟩ C K F/\Aq (U1.setCell ⟨M,5,none⟩ (.slice (some ⟨gk,0,none⟩) kl ck)) w.heap.size #[.int .i64 0,.int .u32 0] 128/\Aq (U1.setCell ⟨M,5,none⟩ (.slice (some ⟨gk,0,none⟩) kl ck)) Y #[.int .i64 z.type,.int .u32 z.word] 128/\C5 (fun j=>j=M) w (U1.setCell ⟨M,5,none⟩ (.slice (some ⟨gk,0,none⟩) kl ck))):=by
  have h1:=E1.out.1.2.1.popK (Nat.le_trans hB E1.out.1.2.2.2.size) (m:=kl) rfl (by rw[List.length_append,HKL.out];exact Nat.le_add_right _ _);have h2:(K++[z]).take kl=K:=by rw[<-HKL.out];exact List.take_left
  rw[h2]at h1;obtain⟨cur,hb,_⟩:=E1.out.1.1.blk;exact⟨E1.out.1.1.setK _,h1.other hb (by decide) (by decide) (by decide) 5 _,E1.out.1.2.2.1.other (by simp only[];omega) _,E1.out.2.other (by simp only[];omega) _,C5.setCell (R:=fun j=>j=M) (C5.of E1.out.1.2.2.2) (.inl rfl) _⟩
 go_upto_region 4 with fail
 clear m5 mz E1;refine Ag (fun u=>Hid (MB u M t d c n ⟨x1,.slice (some ⟨gk,0,none⟩) kl ck,x3⟩ hv/\Aj u B ⟨x1,.slice (some ⟨gk,0,none⟩) kl ck,x3⟩ C K F/\Aq u w.heap.size #[.int .i64 0,.int .u32 0] 128/\Aq u Y #[.int .i64 z.type,.int .u32 z.word] 128/\C5 (fun j=>j=M) w u)) E2 ?_
 rintro U2 E3;clear E2;clear U1;obtain⟨v0,v1⟩:=E3.out.2.2.2.1.c2;obtain⟨r0,r1⟩:=E3.out.2.2.1.c2;obtain⟨rz0,rz1⟩:=E3.out.2.2.1.z2;try dsimp only at v0 v1 r0 r1
 go_wp2_with fail
 have R0:=E3.out.2.2.1.set 0 (.int .i64 z.type);have R1:=R0.set 1 (.int .u32 z.word);obtain⟨q0,q1⟩:=R1.c2;try simp only[sA,List.set_cons_zero,List.set_cons_succ,gA,gZ,gS]at q0 q1
 refine bodyPost_ret (v:=.agg #[.int .i64 z.type,.int .u32 z.word]) (by simp[results,Tryz.results197,go_sem,q0,q1]) rfl ⟨rfl,.slice (some ⟨gk,0,none⟩) kl ck,(E3.out.1.other (by simp only[];omega) _).other (by simp only[];omega) _,?_,(E3.out.2.2.2.2.setCell (.inr (by simp only[];omega)) _).setCell (.inr (by simp only[];omega)) _,rfl⟩
 have hno:¬C1 ⟨x1,.slice (some ⟨gk,0,none⟩) kl ck,x3⟩ C F w.heap.size:=fun e=>by
  have:=(H.out.ltOf (e.stack (s':=.slice (some ⟨gk,0,none⟩) (kl+1) ck) rfl)).2;omega
 exact(E3.out.2.1.setFar hno _).setFar hno _
def OH(w:World)(B M:Nat)(t:Int)(d:Bool)(c n:Int)(X:VS)(C:List (Value×List MC))(K:List MC)(F:List (MG×Value))(hv:Value)(e:Ending)(w':World):Prop:=e=.returned (.tuple #[])/\∃k',MB w' M t d c n ⟨X.c,k',X.f⟩ hv/\Aj w' B ⟨X.c,k',X.f⟩ C K F/\C5 (fun j=>j=M\/X.k.ownBlock=some j) w w'/\(k'.ownBlock=X.k.ownBlock\/∀g,k'.ownBlock=some g->w.heap.size<=g)
theorem Pc{w U u6 u8:World}{B M:Nat}{t:Int}{d:Bool}{c n:Int}{x1 x3:Value}{a2:Option Addr}{c2:Nat}{C:List (Value×List MC)}{K:List MC}{z:MC}{F:List (MG×Value)}{hv:Value}{gg cap:Nat}(HM:MB U M t d c n ⟨x1,.slice a2 K.length c2,x3⟩ hv)(HO:Aj U B ⟨x1,.slice a2 K.length c2,x3⟩ C K F)(hB:B<=w.heap.size)(hbw:Below w.heap.size w U)(hb:Below U.heap.size U u6)(h1:u6.ownsRow B 128 2 (.slice a2 K.length c2) K.length (K.flatMap MC.cells))(hgrow:u6.grownBy u8 (Value.slice a2 K.length c2).ownBlock)(hown:u8.ownsRow B 128 2 (.slice (some ⟨gg,0,none⟩) (K.length+1) cap) (K.length+1) (K.flatMap MC.cells++([z]:List MC).flatMap MC.cells))(hat:(Value.slice a2 K.length c2).ownBlock=some gg\/gg=u6.heap.size):MB u8 M t d c n ⟨x1,.slice a2 K.length c2,x3⟩ hv/\Aj u8 B ⟨x1,.slice (some ⟨gg,0,none⟩) (K.length+1) cap,x3⟩ C (K++[z]) F/\C5 (fun j=>j=M\/(Value.slice a2 K.length c2).ownBlock=some j) w u8/\((Value.slice (some ⟨gg,0,none⟩) (K.length+1) cap).ownBlock=(Value.slice a2 K.length c2).ownBlock\/w.heap.size<=gg):=by
 obtain⟨cur,hbk,hmc⟩:=(HM.keep hb).blk;have o6:=HO.grow hb;have hB6:B<=u6.heap.size:=Nat.le_trans hB (Nat.le_trans hbw.size hb.size);refine⟨⟨cur,hbk.grown hgrow h1 (by decide),hmc⟩,?_,?_,?_⟩
 ·have hl:(K++[z]).length=K.length+1:=by simp
  exact o6.stack (K':=K++[z]) hB6 hgrow (by rw[hl,List.flatMap_append];exact hown) (by
   rcases hat with hat|hat
   ·exact .inl hat.symm
   ·exact .inr (fun g hg=>by simp only[Value.ownBlock,Option.some.injEq]at hg;omega))
 ·exact(C5.of (Ac hbw lR hb)).grown hgrow (fun k hk e=>.inr e.symm)
 ·rcases hat with hat|hat
  ·exact .inl hat.symm
  ·have h1:=hbw.size
   have h2:=hb.size;exact .inr (by omega)
theorem CP(B M:Nat)(t:Int)(d:Bool)(c n:Int)(X:VS)(C:List (Value×List MC))(K:List MC)(F:List (MG×Value))(hv:Value)(z:MC)(w:World)(hB:B<=w.heap.size)(h:Aj w B X C K F)(hm:MB w M t d c n X hv)(hK:K.length<=1048576):
  Calls Tryz.prog 196 #[.pointer (some ⟨M,0,none⟩),.agg #[.int .i64 z.type,.int .u32 z.word]] w (OH w B M t d c n X C (K++[z]) F hv):=by
 obtain⟨i0,hi,hz0,hz1,hz2⟩:=info_parts DP;obtain⟨x1,x2,x3⟩:=X;obtain⟨a2,c2,e2⟩:=An (h.fam.own (x2,K) (by simp));simp only[]at e2;subst e2;have H:=AM h;have HM:=AM hm;have hlM:=hm.lt;clear h hm;have E0:Hid (MB (w.alloc (.cells #[.int .i64 z.type,.int .u32 z.word] 128)) M t d c n _ hv/\Aj (w.alloc (.cells #[.int .i64 z.type,.int .u32 z.word] 128)) B _ C K F/\Aq (w.alloc (.cells #[.int .i64 z.type,.int .u32 z.word] 128)) w.heap.size _ _/\Below w.heap.size w (w.alloc (.cells #[.int .i64 z.type,.int .u32 z.word] 128))):=⟨HM.out.keep (Aa _ _),H.out.grow (Aa _ _),Aq.new _ _ _,Aa _ _⟩
 go_enter Tryz.func196,Tryz.ntmps196;go_upto_region 1 with fail
 refine Ag (fun u=>Hid (MB u M t d c n _ hv/\Aj u B _ C K F/\Aq u w.heap.size _ _/\Below w.heap.size w u)) E0 ?_
 rintro U E1;clear E0;have m5:=E1.out.1.at.2.2.2.2.2.1;obtain⟨b0,b1⟩:=E1.out.2.2.1.c2;simp only[]at m5;try dsimp only at b0 b1
 have bD:=Ad U;have bE:Below U.heap.size U (U.alloc (.cells #[.int .i64 z.type,.int .u32 z.word] 128)).drew:=Ac (Aa _ _) lR (Ad _);have m5d:=Ab bD m5;have m5e:=Ab bE m5;have b0d:=Ab bD b0;have b1d:=Ab bD b1;have b0e:=Ab bE b0;have b1e:=Ab bE b1;have HC:Hid ((U.alloc (.cells #[.int .i64 z.type,.int .u32 z.word] 128)).drew.ownsRow B 128 2 (.slice a2 K.length c2) K.length (K.flatMap MC.cells)/\(∀j u,(([z]:List MC).flatMap MC.cells)[j]?=some u->(U.alloc (.cells #[.int .i64 z.type,.int .u32 z.word] 128)).drew.cell? ((⟨U.heap.size,0,none⟩:Addr).add j)=some u)/\Below U.heap.size U (U.alloc (.cells #[.int .i64 z.type,.int .u32 z.word] 128)).drew/\B<=(U.alloc (.cells #[.int .i64 z.type,.int .u32 z.word] 128)).drew.heap.size):=⟨Ai (E1.out.2.1.fam.own (.slice a2 K.length c2,K) (by simp)) bE lR,fun j u hj=>De U [z] j u hj,bE,Nat.le_trans (Nat.le_trans hB E1.out.2.2.2.size) bE.size⟩
 clear m5 b0 b1 bD bE;go_upto_region 1 with fail
 go_region_law (refine step_append_lies _ rfl (.tmp 9) (.tmp 11) 36 rfl B 128 i0 (.agg #[.int .i64 0,.int .u32 0]) 2 16 Tryz.underlying36 hi hz0 hz1 hz2 rfl (by decide) (.slice a2 K.length c2) K.length (K.flatMap MC.cells) (by simp[Act.eval]) HC.out.1 ⟨U.heap.size,0,none⟩ 1 1 (([z]:List MC).flatMap MC.cells) (by simp[Act.eval]) rfl HC.out.2.1 (Cb _) (by omega) (by unfold maxLen;omega) (by omega) HC.out.2.2.2 _ rfl ?_;intro gg cap u8 hown hgrow hat hlt8;have HN:Hid (MB u8 M t d c n ⟨x1,.slice a2 K.length c2,x3⟩ hv/\Aj u8 B ⟨x1,.slice (some ⟨gg,0,none⟩) (K.length+1) cap,x3⟩ C (K++[z]) F/\C5 (fun j=>j=M\/(Value.slice a2 K.length c2).ownBlock=some j) w u8/\((Value.slice (some ⟨gg,0,none⟩) (K.length+1) cap).ownBlock=(Value.slice a2 K.length c2).ownBlock\/w.heap.size<=gg)):=Pc (HM:=E1.out.1) (HO:=E1.out.2.1) hB E1.out.2.2.2 HC.out.2.2.1 HC.out.1 hgrow hown hat;have y0:=HN.out.1.at.2.2.2.2.2.1;have y1:=HN.out.1.frozen 5;simp only[]at y0;clear hown hgrow hat hlt8)
 all_goals
  refine bodyPost_end (v:=.tuple #[]) (by kernel_rfl) rfl ?_;exact⟨rfl,.slice (some ⟨gg,0,none⟩) (K.length+1) cap,HN.out.1.setK _,EM HN.out.2.1 HN.out.1,HN.out.2.2.1.setCell (.inl (.inl rfl)) _,HN.out.2.2.2.imp_right (fun h g hg=>by simp only[Value.ownBlock,Option.some.injEq]at hg;omega)⟩
end Go.Proofs.YtlejplpkomddeaaGreat
