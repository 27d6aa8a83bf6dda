import Derived.Test.YtlejplpkomddeaaGreatR0
import Derived.Test.YtlejplpkomddeaaGreatR4
import Derived.Test.YtlejplpkomddeaaGreatR2
import Derived.Test.YtlejplpkomddeaaGreatR41
import Derived.Test.YtlejplpkomddeaaGreatR50
import Derived.Test.YtlejplpkomddeaaGreatR6
import Derived.Test.YtlejplpkomddeaaGreatR8
import Derived.Deep.DeepCutAuto
import Derived.Deep.RegionHeldLaw
import Derived.Deep.RegionLaw
namespace Go.Proofs.YtlejplpkomddeaaGreat
open Go.ChangeShapes Go.WideShapes Go.ChangeAt Go.RowKit
set_option linter.unusedVariables false
set_option maxHeartbeats 8000000
set_option maxRecDepth 100000
def Ep(v:MC)(t:Int):Prop:=t=0\/v.type=t
theorem Jf{q:MC->Int->Prop}{v:MC}{vs:List MC}{t:Int}{ts:List Int}:DR q (v::vs) (t::ts)↔q v t/\DR q vs ts:=by
 constructor
 ·rintro⟨hl,h⟩
  exact⟨h 0 (by simp) v rfl t rfl,by simpa using hl,fun j hj x hx y hy=>h (j+1) (by simp;omega) x hx y hy⟩
 ·rintro⟨h1,hl,h⟩
  refine⟨by simpa using hl,fun j hj x hx y hy=> ?_⟩;cases j with
  |zero=>
   simp only[gZ,Option.some.injEq]at hx hy;subst hx hy;exact h1
  |succ j=>exact h j (by simp at hj;omega) x hx y hy
theorem C1(vs:List MC)(ts:List Int):DR Ep vs ts↔Bc vs ts=true:=by
 induction vs generalizing ts with
 |nil=>
  cases ts with
  |nil=>exact⟨fun _=>rfl,fun _=>⟨rfl,fun j hj=>by simp at hj⟩⟩
  |cons t ts=>exact⟨fun h=>by have:=h.1;simp at this,fun h=>by simp[Bc]at h⟩
 | cons v vs ih=>
  cases ts with
  |nil=>exact⟨fun h=>by have:=h.1;simp at this,fun h=>by simp[Bc]at h⟩
  |cons t ts=>
   rw[Jf,ih];simp[Bc,Ep]
theorem Mh(vs:List MC)(f:MF):DR Ep vs (AR f)↔vs.map MC.type=AR f:=by
 unfold AR;split
 ·cases vs with
  |nil=>exact⟨fun _=>rfl,fun _=>⟨rfl,fun j hj=>by simp at hj⟩⟩
  |cons v vs=>exact⟨fun h=>by have:=h.1;simp at this,fun h=>by simp at h⟩
 ·rename_i hr
  cases vs with
  |nil=>exact⟨fun h=>by have:=h.1;simp at this,fun h=>by simp at h⟩
  | cons v vs=>
   rw[Jf];cases vs with
   |nil=>
    simp only[List.map_cons,List.map_nil,List.cons.injEq,and_true];exact⟨fun h=>h.1.resolve_left hr,fun h=>⟨.inr h,rfl,fun j hj=>by simp at hj⟩⟩
   |cons u us=>exact⟨fun h=>by have:=h.2.1;simp at this,fun h=>by simp at h⟩
theorem Ns{w:World}{g o n c c' kl m:Nat}{K:List MC}(h:Rd w 2 (.slice (some ⟨g,o,none⟩) n c) n (K.flatMap MC.cells))(hn:K.length=n)(hm:n=kl+m):Rd w 2 (.slice (some ⟨g,o+kl*2,none⟩) m c') m ((K.drop kl).flatMap MC.cells):=by
 refine⟨by rw[Az MC.cells 2 MC.cells_length,List.length_drop];congr 1;omega,?_⟩;rcases h.2 with⟨e,_⟩|⟨g',o',c'',e,hc⟩
 ·exact .inl ⟨by omega,_,_,by rw[show m=0 by omega]⟩
 ·simp only[sJ,Option.some.injEq,Addr.mk.injEq,true_and,and_true]at e
  obtain⟨⟨rfl,rfl⟩,_⟩:=e;refine .inr ⟨g,o+kl*2,c',rfl,fun j u hj=> ?_⟩
  have:(K.flatMap MC.cells)[kl*2+j]?=some u:=by
   rw[<-hj]
   have e2:(K.drop kl).flatMap MC.cells=(K.flatMap MC.cells).drop (kl*2):=by
    have h1:K.flatMap MC.cells=(K.take kl).flatMap MC.cells++(K.drop kl).flatMap MC.cells:=by rw[<-List.flatMap_append,List.take_append_drop]
    rw[h1];have h2:((K.take kl).flatMap MC.cells).length=kl*2:=by rw[Az MC.cells 2 MC.cells_length,List.length_take,Nat.min_eq_left (by omega)]
    rw[<-h2,List.drop_left]
   rw[e2,List.getElem?_drop]
  have h3:=hc _ _ this;rw[<-Nat.add_assoc]at h3;exact h3
theorem L8(B M top:Nat)(t:Int)(d:Bool)(c n:Int)(X:VS)(C:List (Value×List MC))(K:List MC)(F:List (MG×Value))(hv:Value)(gh oh gf c3 b:Nat)(y:MG×Value)(v:VP)(p:MP)(g:VF)(f:MF)(x:MI)(w:World)(hB:B<=w.heap.size)(h:Ah w B X C K F)(hm:MB w M t d c n X hv)(hF:F.length=top+1)(hF1:F.length<=32)(hy:F[top]?=some y)(hXf:X.f=.slice (some ⟨gf,0,none⟩) (top+1) c3)
  (hb:y.1.base=(b:Int)) (hbK:b<=K.length) (hK:K.length<=64) (hKw:∀z∈K,0<=z.word) (hps:p.small) (h3:p.regions.length=3) (hs:f.small) (hP:Cx w v p) (hr:CP w g f) (hx:AN p f x) (hpf:A4 p 0)
  (c0:w.cell? ⟨gh,oh,none⟩=some v.r) (c1':w.cell? ⟨gh,oh+1,none⟩=some v.k) (c2':w.cell? ⟨gh,oh+2,none⟩=some v.f) (c3':w.cell? ⟨gh,oh+3,none⟩=some v.t) (c4':w.cell? ⟨gh,oh+4,none⟩=some g.p) (c5':w.cell? ⟨gh,oh+5,none⟩=some (.int .i64 f.result)) (c6':w.cell? ⟨gh,oh+6,none⟩=some g.l) (c7':w.cell? ⟨gh,oh+7,none⟩=some g.c):
  Calls Tryz.prog 100 #[.pointer (some ⟨M,0,none⟩),.agg #[.pointer (some ⟨gh,oh,none⟩),.pointer (some ⟨gf,top*4,none⟩)],.agg #[.int .i64 x.op,.int .i64 x.a,.int .i64 x.b,.int .i64 x.c]] w fun e w'=>e=.returned (.int .i64 (Ds p f y.1 (Ao 0 false c n C K F) x))/\Below w.heap.size w w':=by
 obtain⟨r1,r3,k1,k3,t1,t3,f1,f3,rfl⟩:=hP.sl
 obtain⟨g1,g3,g4,g6,g7,g9,rfl⟩:=DU hr
 have HP:=AS hP
 have HR:=AS hr
 clear hP hr
 simp only[]at c0 c1' c2' c3' c4' c6' c7'
 obtain⟨x1,x2,x3⟩:=X
 simp only[]at hXf
 subst hXf
 obtain⟨a2,c2,e2⟩:=Al (h.fam.own (x2,K) (by simp))
 simp only[]at e2
 have hcap:K.length<=c2:=by
  have h2:=h.fam.own (x2,K) (by simp)
  simp only[]at h2
  rw[e2]at h2
  exact CR h2
 subst e2
 have E0:Hid (Ax w ((w.alloc (.cells #[.pointer (some ⟨gh,oh,none⟩),.pointer (some ⟨gf,top*4,none⟩)] 172)).alloc (.cells #[.int .i64 x.op,.int .i64 x.a,.int .i64 x.b,.int .i64 x.c] 134)) B M _ t d c n _ C K F hv gh oh gf _ _ _ _ _ C F/\Below w.heap.size w ((w.alloc (.cells #[.pointer (some ⟨gh,oh,none⟩),.pointer (some ⟨gf,top*4,none⟩)] 172)).alloc (.cells #[.int .i64 x.op,.int .i64 x.a,.int .i64 x.b,.int .i64 x.c] 134))):=⟨Ax.of gh oh gf x.op x.a x.b x.c hB h hm,Ab (Aa _ _) lR (Aa _ _)⟩
 have H:Hid (F.length=top+1/\F[top]?=some y/\y.1.base=(b:Int)/\AN p f x/\A4 p 0/\(∀z∈K,0<=z.word)/\p.regions.length=3):=⟨hF,hy,hb,hx,hpf,hKw,h3⟩
 have HH:=AS h
 obtain⟨res,hres⟩:∃res,Ds p f y.1 (Ao 0 false c n C K F) x=res:=⟨_,rfl⟩
 have HRES:=AS hres
 rw[hres]
 have htl:top+1<=32:=by omega
 clear h hm hF hF1 hy hb hx hpf hKw h3 hres
 go_enter Tryz.func100,Tryz.ntmps100
 go_upto_region 1 with fail
 refine Af (fun u=>Hid (Ax w u B M _ t d c n _ C K F hv gh oh gf _ _ _ _ _ C F/\Below w.heap.size w u)) E0 ?_
 rintro U E1
 clear E0
 have f0:=E1.out.1.fb.cell 0
 obtain⟨i0,i1,i2,i3⟩:=E1.out.1.ib.c4
 simp only[gA,gZ]at f0
 try dsimp only at i0 i1 i2 i3
 have bD:=Ad U
 have f0d:=Ac bD f0
 have i0d:=Ac bD i0
 have i1d:=Ac bD i1
 have i2d:=Ac bD i2
 have i3d:=Ac bD i3
 have d0:=Ac bD (Ac E1.out.2 c0)
 have d1:=Ac bD (Ac E1.out.2 c1')
 have d2:=Ac bD (Ac E1.out.2 c2')
 have d3:=Ac bD (Ac E1.out.2 c3')
 have d4:=Ac bD (Ac E1.out.2 c4')
 have d5:=Ac bD (Ac E1.out.2 c5')
 have d6:=Ac bD (Ac E1.out.2 c6')
 have d7:=Ac bD (Ac E1.out.2 c7')
 have HCC:Hid (w.cell? ⟨gh,oh,none⟩=some (.slice r1 p.regions.length r3)/\w.cell? ⟨gh,oh+1,none⟩=some (.slice k1 p.consts.length k3)/\w.cell? ⟨gh,oh+2,none⟩=some (.slice f1 p.funcs.length f3)/\w.cell? ⟨gh,oh+3,none⟩=some (.slice t1 p.certs.length t3)/\w.cell? ⟨gh,oh+4,none⟩=some (.slice g1 f.params.length g3)/\w.cell? ⟨gh,oh+5,none⟩=some (.int .i64 f.result)/\w.cell? ⟨gh,oh+6,none⟩=some (.slice g4 f.locals.length g6)/\w.cell? ⟨gh,oh+7,none⟩=some (.slice g7 f.code.length g9)):=⟨c0,c1',c2',c3',c4',c5',c6',c7'⟩
 clear f0 i0 i1 i2 i3 c0 c1' c2' c3' c4' c5' c6' c7'
 obtain⟨ts,hts⟩:∃ts,CH p f x=ts:=⟨_,rfl⟩
 have HTS:Hid (CH p f x=ts):=hts
 clear hts
 go_upto_region 1 with fail
 go_cut [7] (fun s wx=>∃ta tc,s=.slice ta ts.length tc/\Hid ((Ax w wx B M top t d c n ⟨x1,.slice a2 K.length c2,.slice (some ⟨gf,0,none⟩) (top+1) c3⟩ C K F hv gh oh gf x.op x.a x.b x.c ⟨x1,.slice a2 K.length c2,.slice (some ⟨gf,0,none⟩) (top+1) c3⟩ C F/\Below w.heap.size w wx)/\Rd wx 1 (.slice ta ts.length tc) ts.length (ts.flatMap Ae)))
 case first=>
  go_region_law (go_simp;go_at_call 169;refine(Nd ⟨.slice r1 p.regions.length r3,.slice k1 p.consts.length k3,.slice f1 p.funcs.length f3,.slice t1 p.certs.length t3⟩ p ⟨.slice g1 f.params.length g3,.slice g4 f.locals.length g6,.slice g7 f.code.length g9⟩ f x U.drew hps H.out.2.2.2.2.2.2 hs (HP.out.keep (Ab E1.out.2 lR bD) lR) (HR.out.keep (Ab E1.out.2 lR bD) lR) H.out.2.2.2.1).mono ?_;rintro e u1 ⟨sv,rfl,hrd,b1⟩;rw[HTS.out]at hrd;obtain⟨ta,tc,rfl⟩:=hrd.is_slice;have B1:Hid (Below U.heap.size U u1):=As b1 lR;have E2:Hid ((Ax w u1 B M top t d c n ⟨x1,.slice a2 K.length c2,.slice (some ⟨gf,0,none⟩) (top+1) c3⟩ C K F hv gh oh gf x.op x.a x.b x.c ⟨x1,.slice a2 K.length c2,.slice (some ⟨gf,0,none⟩) (top+1) c3⟩ C F/\Below w.heap.size w u1)/\Rd u1 1 (.slice ta ts.length tc) ts.length (ts.flatMap Ae)):=⟨⟨E1.out.1.keep B1.out,Ab E1.out.2 lR B1.out⟩,hrd⟩;clear b1 hrd)
  all_goals
   go_wp2_with fail
   go_meet
   exact⟨ta,tc,rfl,E2⟩
 case rest=>
  obtain⟨ta,tc,rfl,E2⟩:=hcut
  clear E1 f0d i0d i1d i2d i3d d0 d1 d2 d3 d4 d5 d6 d7 bD
  obtain⟨m,hm⟩:∃m,K.length=b+m:=⟨K.length-b,by omega⟩
  have HMB:Hid (K.length=b+m/\(K.drop b).length=m):=⟨hm,by rw[List.length_drop];omega⟩
  have hlen:K.length-b=m:=by omega
  have hm64:m<=64:=by omega
  have hk1:(b:Int)<=(K.length:Int):=by omega
  have hk2:(K.length:Int)<=(c2:Int):=by omega
  have hk3:(b:Int)<=(c2:Int):=by omega
  clear hm
  have m5:=E2.out.1.1.mb.at.2.2.2.2.2.1
  simp only[]at m5
  have f1:=E2.out.1.1.fb.cell 1
  simp only[gA,gZ,gS]at f1
  have ho:=E2.out.1.1.own.frames
  simp only[]at ho
  rw[H.out.1]at ho
  have fc2:=ho.cellAt (top*4+2) (by omega)
  rw[AF AA 4 Au F top 2 _ H.out.2.1 (by omega)]at fc2
  simp only[AA,gZ,gS,H.out.2.2.1]at fc2
  clear ho
  have inst:=Aj.some wc
  go_upto_region 2 with fail
  go_cut [8] (fun s wx=>∃a8 c8,s=.slice a8 m c8/\m<=c8/\Hid (((Ax w wx B M top t d c n ⟨x1,.slice a2 K.length c2,.slice (some ⟨gf,0,none⟩) (top+1) c3⟩ C K F hv gh oh gf x.op x.a x.b x.c ⟨x1,.slice a2 K.length c2,.slice (some ⟨gf,0,none⟩) (top+1) c3⟩ C F/\Below w.heap.size w wx)/\Rd wx 1 (.slice ta ts.length tc) ts.length (ts.flatMap Ae))/\Rd wx 2 (.slice a8 m c8) m ((K.drop b).flatMap MC.cells)))
  case first=>
   have hrow:=E2.out.1.1.own.fam.own (.slice a2 K.length c2,K) (by simp)
   rcases At hrow with⟨e,e0⟩|⟨g2,c2',e⟩
   ·simp only[sJ]at e
    obtain⟨rfl,hK0,rfl⟩:=e
    have HM0:Hid (m=0):=by show m=0;omega
    clear hK0 e0
    have J0:=fun n:Aj wc=>Aj.cell m5 n
    have J1:=fun n:Aj wc=>Aj.cell f1 n
    have J2:=fun n:Aj wc=>Aj.cell fc2 n
    go_wp2_with fail
    refine Am (by kernel_rfl) (by kernel_rfl) ?_
    repeat(go_big_quiet_step (fail))
    refine wpQuiet_nil ?_
    rintro w'' ⟨n',rfl⟩
    go_wp2_with fail
    go_meet
    exact⟨_,_,rfl,by have:=HM0.out;omega,⟨⟨E2.out.1.1.keep n'.h,Ab E2.out.1.2 lR n'.h⟩,E2.out.2.keep n'.h lR⟩,Cp HM0.out HMB.out.2⟩
   ·simp only[sJ,true_and]at e
    obtain⟨rfl,rfl⟩:=e
    have J0:=fun n:Aj wc=>Aj.cell m5 n
    have J1:=fun n:Aj wc=>Aj.cell f1 n
    have J2:=fun n:Aj wc=>Aj.cell fc2 n
    by_cases hne:c2=b
    ·have hneI:((c2:Int)==(b:Int))=true:=by simp;omega
     have hneN:(c2==b)=true:=by simp;omega
     have hneZ:c2-b=0:=by omega
     have HM0:Hid (m=0):=by show m=0;omega
     clear hne
     go_wp2_with fail
     refine Am (by kernel_rfl) (by kernel_rfl) ?_
     repeat(go_big_quiet_step (fail))
     refine wpQuiet_nil ?_
     rintro w'' ⟨n',rfl⟩
     go_wp2_with fail
     go_meet
     exact⟨_,_,rfl,by have:=HM0.out;omega,⟨⟨E2.out.1.1.keep n'.h,Ab E2.out.1.2 lR n'.h⟩,E2.out.2.keep n'.h lR⟩,Cp HM0.out HMB.out.2⟩
    ·have hrt:=Jy (kl:=b) (m:=m) (c':=c2-b) (Rd.of_own hrow) rfl HMB.out.1
     go_wp2_with fail
     refine Am (by kernel_rfl) (by kernel_rfl) ?_
     repeat(go_big_quiet_step (fail))
     refine wpQuiet_nil ?_
     rintro w'' ⟨n',rfl⟩
     go_wp2_with fail
     go_meet
     exact⟨_,_,rfl,by have:=HMB.out.1;omega,⟨⟨E2.out.1.1.keep n'.h,Ab E2.out.1.2 lR n'.h⟩,E2.out.2.keep n'.h lR⟩,hrt.keep n'.h lR⟩
  case rest=>
   obtain⟨a8,c8,rfl,hmc,E3⟩:=hcut
   clear E2 m5 f1 fc2 inst hk1 hk2 hk3
   have i0:=E3.out.1.1.1.ib.cell 0
   simp only[gA,gZ]at i0
   have hTs:ts.length<=64:=by
    rw[<-HTS.out]
    unfold CH
    split
    ·unfold AR
     split<;>simp
    ·have:=Gw (f:=f) (x:=x) H.out.2.2.2.2.1
     omega
   by_cases h29:x.op=29
   ·have h29b:(x.op==29)=true:=by simpa using h29
    have HTR:Hid (res=if(K.drop b).map MC.type=AR f then 0 else 6):=by rw[<-HRES.out];exact I7 h29 H.out.2.2.1
    have HT9:Hid (ts=AR f):=by rw[<-HTS.out];unfold CH;rw[if_pos h29];exact rfl
    go_upto_region 4 with fail
    clear i0 h29b
    go_wp2_with fail
    refine(GW Ep (fun x t w _=>GP x t w) (.slice a8 m c8) (.slice ta ts.length tc) (K.drop b) ts wc (by rw[HMB.out.2];omega) (by omega) (fun z hz=>H.out.2.2.2.2.2.1 z (List.mem_of_mem_drop hz)) (by rw[HMB.out.2];exact E3.out.2) E3.out.1.2).mono ?_
    rintro e u1 ⟨he,b1⟩
    have HB:Hid (Below w.heap.size w u1):=Ab E3.out.1.1.2 lR b1
    by_cases hq:DR Ep (K.drop b) ts
    ·obtain rfl:=he.true hq
     have HR0:Hid (res=0):=by rw[HTR.out,if_pos ((Mh _ f).1 (HT9.out▸hq))];exact rfl
     clear hq he b1
     go_wp2_with fail
     refine(Cr true 6 u1).mono ?_
     rintro e u2 ⟨rfl,rfl⟩
     go_wp2_with fail
     go_ret
     exact⟨by rw[HR0.out];rfl,HB.out⟩
    ·obtain rfl:=he.false hq
     have HR0:Hid (res=6):=by rw[HTR.out,if_neg (fun e=>hq (HT9.out▸(Mh _ f).2 e))];exact rfl
     clear hq he b1
     go_wp2_with fail
     refine(Cr false 6 u1).mono ?_
     rintro e u2 ⟨rfl,rfl⟩
     go_wp2_with fail
     go_ret
     exact⟨by rw[HR0.out];rfl,HB.out⟩
   have h29b:(x.op==29)=false:=by simpa using h29
   have HTL:Hid (Ak p f x=ts):=by rw[<-HTS.out];unfold CH;rw[if_neg h29];exact rfl
   have HTR:Hid (res=_):=HRES.out.symm.trans (Hz (C:=C) (K:=K) (F:=F) (c:=c) (n:=n) h29 H.out.2.2.1 hbK HTL.out)
   have hwl:IntKind.i64.wrap ((m:Int)-(ts.length:Int))=(m:Int)-(ts.length:Int):=IntWalk.i64_in _ (by omega)
   by_cases hfew:m<ts.length
   ·have hd:decide ((m:Int)-(ts.length:Int)<0)=true:=decide_eq_true (by omega)
    have HR0:Hid (res=1):=by rw[HTR.out,if_pos (by rw[hlen];exact hfew)];exact rfl
    go_upto_region 7 with fail
    go_wp2_with fail
    go_ret
    exact⟨by rw[HR0.out];rfl,E3.out.1.1.2⟩
   obtain⟨l,hl⟩:∃l,m=l+ts.length:=⟨m-ts.length,by omega⟩
   obtain⟨ar,har⟩:∃ar,(K.drop b).drop l=ar:=⟨_,rfl⟩
   have HL:Hid (m=l+ts.length/\(K.drop b).drop l=ar/\ar.length=ts.length/\K.drop (K.length-ts.length)=ar):=⟨hl,har,by rw[<-har,List.length_drop,HMB.out.2];omega,by rw[<-har,List.drop_drop];congr 1;have:=HMB.out.1;omega⟩
   have hml:(m:Int)-(ts.length:Int)=(l:Int):=by omega
   have hd:decide ((l:Int)<0)=false:=decide_eq_false (by omega)
   have hwl2:IntKind.i64.wrap (l:Int)=(l:Int):=IntWalk.i64_in _ (by omega)
   have hlm:m-l=ts.length:=by omega
   have hl1:(l:Int)<=(m:Int):=by omega
   have hl2:(m:Int)<=(c8:Int):=by omega
   have hl3:(l:Int)<=(c8:Int):=by omega
   clear hl har
   go_upto_region 8 with fail
   clear i0 h29b
   have f0:=E3.out.1.1.1.fb.cell 0
   obtain⟨i0,i1,i2,i3⟩:=E3.out.1.1.1.ib.c4
   simp only[gA,gZ]at f0
   try dsimp only at i0 i1 i2 i3
   have d0:=Ac E3.out.1.1.2 HCC.out.1
   have d1:=Ac E3.out.1.1.2 HCC.out.2.1
   have d2:=Ac E3.out.1.1.2 HCC.out.2.2.1
   have d3:=Ac E3.out.1.1.2 HCC.out.2.2.2.1
   have d4:=Ac E3.out.1.1.2 HCC.out.2.2.2.2.1
   have d5:=Ac E3.out.1.1.2 HCC.out.2.2.2.2.2.1
   have d6:=Ac E3.out.1.1.2 HCC.out.2.2.2.2.2.2.1
   have d7:=Ac E3.out.1.1.2 HCC.out.2.2.2.2.2.2.2
   have inst:=Aj.some wc
   go_cut [58] (fun s wx=>∃bb:Bool,s=.bool bb/\Hid (bb=true↔(Bc ar ts=false\/(x.op=27/\Av f x.a≠3)))/\Hid ((Ax w wx B M top t d c n ⟨x1,.slice a2 K.length c2,.slice (some ⟨gf,0,none⟩) (top+1) c3⟩ C K F hv gh oh gf x.op x.a x.b x.c ⟨x1,.slice a2 K.length c2,.slice (some ⟨gf,0,none⟩) (top+1) c3⟩ C F/\Below w.heap.size w wx)/\Rd wx 1 (.slice ta ts.length tc) ts.length (ts.flatMap Ae)))
   case first=>
    have G0:=fun n:Aj wc=>Aj.cell f0 n
    have G1:=fun n:Aj wc=>Aj.cell i0 n
    have G2:=fun n:Aj wc=>Aj.cell i1 n
    have G3:=fun n:Aj wc=>Aj.cell i2 n
    have G4:=fun n:Aj wc=>Aj.cell i3 n
    have D0:=fun n:Aj wc=>Aj.cell d0 n
    have D1:=fun n:Aj wc=>Aj.cell d1 n
    have D2:=fun n:Aj wc=>Aj.cell d2 n
    have D3:=fun n:Aj wc=>Aj.cell d3 n
    have D4:=fun n:Aj wc=>Aj.cell d4 n
    have D5:=fun n:Aj wc=>Aj.cell d5 n
    have D6:=fun n:Aj wc=>Aj.cell d6 n
    have D7:=fun n:Aj wc=>Aj.cell d7 n
    have HGU:Hid (∀u,Below wc.heap.size wc u->Calls Tryz.prog 172 #[.agg #[.slice r1 p.regions.length r3,.slice k1 p.consts.length k3,.slice f1 p.funcs.length f3,.slice t1 p.certs.length t3,.slice g1 f.params.length g3,.int .i64 f.result,.slice g4 f.locals.length g6,.slice g7 f.code.length g9],.agg #[.int .i64 x.op,.int .i64 x.a,.int .i64 x.b,.int .i64 x.c]] u fun e w'=>Ar e (¬(x.op=27/\Av f x.a≠3))/\Below u.heap.size u w'):=fun u hu=>Hn ⟨.slice r1 p.regions.length r3,.slice k1 p.consts.length k3,.slice f1 p.funcs.length f3,.slice t1 p.certs.length t3⟩ p ⟨.slice g1 f.params.length g3,.slice g4 f.locals.length g6,.slice g7 f.code.length g9⟩ f x.op x.a x.b x.c u hs (HP.out.keep (Ab E3.out.1.1.2 lR hu) lR) (HR.out.keep (Ab E3.out.1.1.2 lR hu) lR) (fun e=>H.out.2.2.2.1.local (.inr (.inr e)))
    have HEQ:Hid (∀(s:Value) u,Below wc.heap.size wc u->Rd u 2 s ts.length (ar.flatMap MC.cells)->Calls Tryz.prog 134 #[s,.slice ta ts.length tc,.func (.func 171) #[] #[]] u fun e w'=>Ar e (DR Ep ar ts)/\Below u.heap.size u w'):=fun s u hu hrd=>GW Ep (fun x t w _=>GP x t w) s (.slice ta ts.length tc) ar ts u (by rw[HL.out.2.2.1];omega) (by omega) (fun z hz=>H.out.2.2.2.2.2.1 z (by rw[<-HL.out.2.1]at hz;exact List.mem_of_mem_drop (List.mem_of_mem_drop hz))) (by rw[HL.out.2.2.1];exact hrd) (E3.out.1.2.keep hu lR)
    rcases E3.out.2.2 with⟨e0,_⟩|⟨g8,o8,c8',e8,hc8⟩
    ·have HT0:Hid (ts.length=0):=by have:=HL.out.1;show ts.length=0;omega
     have HM0:Hid (m=0/\l=0):=by have:=HL.out.1;show _/\_;omega
     clear e0
     cases a8 with
     | none=>
      by_cases hq:DR Ep ar ts
      ·have HQ:Hid (DR Ep ar ts):=hq
       clear hq
       by_cases hg:¬(x.op=27/\Av f x.a≠3)
       ·have HG:=AS hg
        clear hg
        go_wp2_with fail
        refine Am (by kernel_rfl) (by kernel_rfl) ?_
        repeat(go_big_quiet_step (first|(go_at_call 134;rename_i n';exact(HEQ.out _ n'.u n'.h (Cp HT0.out HL.out.2.2.1)).mono fun e w'' h=>⟨h.1.true HQ.out,⟨⟨w'',Ab n'.h lR h.2⟩,rfl⟩⟩)|(go_at_call 172;rename_i n';exact(HGU.out n'.u n'.h).mono fun e w'' h=>⟨h.1.true HG.out,⟨⟨w'',Ab n'.h lR h.2⟩,rfl⟩⟩)))
        refine wpQuiet_nil ?_
        rintro w'' ⟨n',rfl⟩
        go_wp2_with fail
        go_meet
        exact⟨false,rfl,⟨fun e=>(by cases e),fun e=>e.elim (fun e=>by rw[(C1 ar ts).1 HQ.out]at e;cases e) (fun e=>absurd e HG.out)⟩,⟨⟨E3.out.1.1.1.keep n'.h,Ab E3.out.1.1.2 lR n'.h⟩,E3.out.1.2.keep n'.h lR⟩⟩
       ·have HG:=AS hg
        clear hg
        go_wp2_with fail
        refine Am (by kernel_rfl) (by kernel_rfl) ?_
        repeat(go_big_quiet_step (first|(go_at_call 134;rename_i n';exact(HEQ.out _ n'.u n'.h (Cp HT0.out HL.out.2.2.1)).mono fun e w'' h=>⟨h.1.true HQ.out,⟨⟨w'',Ab n'.h lR h.2⟩,rfl⟩⟩)|(go_at_call 172;rename_i n';exact(HGU.out n'.u n'.h).mono fun e w'' h=>⟨h.1.false HG.out,⟨⟨w'',Ab n'.h lR h.2⟩,rfl⟩⟩)))
        refine wpQuiet_nil ?_
        rintro w'' ⟨n',rfl⟩
        go_wp2_with fail
        go_meet
        exact⟨true,rfl,⟨fun _=>.inr (Classical.not_not.1 HG.out),fun _=>rfl⟩,⟨⟨E3.out.1.1.1.keep n'.h,Ab E3.out.1.1.2 lR n'.h⟩,E3.out.1.2.keep n'.h lR⟩⟩
      ·have HQ:Hid (¬DR Ep ar ts):=hq
       clear hq
       go_wp2_with fail
       refine Am (by kernel_rfl) (by kernel_rfl) ?_
       repeat(go_big_quiet_step ((go_at_call 134;rename_i n';exact(HEQ.out _ n'.u n'.h (Cp HT0.out HL.out.2.2.1)).mono fun e w'' h=>⟨h.1.false HQ.out,⟨⟨w'',Ab n'.h lR h.2⟩,rfl⟩⟩)))
       refine wpQuiet_nil ?_
       rintro w'' ⟨n',rfl⟩
       go_wp2_with fail
       go_meet
       exact⟨true,rfl,⟨fun _=>.inl (by cases h:Bc ar ts with|false=>rfl|true=>exact absurd ((C1 ar ts).2 h) HQ.out),fun _=>rfl⟩,⟨⟨E3.out.1.1.1.keep n'.h,Ab E3.out.1.1.2 lR n'.h⟩,E3.out.1.2.keep n'.h lR⟩⟩
     | some ad=>
      by_cases hne:c8=l
      ·have hneI:((c8:Int)==(l:Int))=true:=by simp;omega
       have hneN:(c8==l)=true:=by simp;omega
       have hneZ:c8-l=0:=by omega
       clear hne
       by_cases hq:DR Ep ar ts
       ·have HQ:Hid (DR Ep ar ts):=hq
        clear hq
        by_cases hg:¬(x.op=27/\Av f x.a≠3)
        ·have HG:=AS hg
         clear hg
         go_wp2_with fail
         refine Am (by kernel_rfl) (by kernel_rfl) ?_
         repeat(go_big_quiet_step (first|(go_at_call 134;rename_i n';exact(HEQ.out _ n'.u n'.h (Cp HT0.out HL.out.2.2.1)).mono fun e w'' h=>⟨h.1.true HQ.out,⟨⟨w'',Ab n'.h lR h.2⟩,rfl⟩⟩)|(go_at_call 172;rename_i n';exact(HGU.out n'.u n'.h).mono fun e w'' h=>⟨h.1.true HG.out,⟨⟨w'',Ab n'.h lR h.2⟩,rfl⟩⟩)))
         refine wpQuiet_nil ?_
         rintro w'' ⟨n',rfl⟩
         go_wp2_with fail
         go_meet
         exact⟨false,rfl,⟨fun e=>(by cases e),fun e=>e.elim (fun e=>by rw[(C1 ar ts).1 HQ.out]at e;cases e) (fun e=>absurd e HG.out)⟩,⟨⟨E3.out.1.1.1.keep n'.h,Ab E3.out.1.1.2 lR n'.h⟩,E3.out.1.2.keep n'.h lR⟩⟩
        ·have HG:=AS hg
         clear hg
         go_wp2_with fail
         refine Am (by kernel_rfl) (by kernel_rfl) ?_
         repeat(go_big_quiet_step (first|(go_at_call 134;rename_i n';exact(HEQ.out _ n'.u n'.h (Cp HT0.out HL.out.2.2.1)).mono fun e w'' h=>⟨h.1.true HQ.out,⟨⟨w'',Ab n'.h lR h.2⟩,rfl⟩⟩)|(go_at_call 172;rename_i n';exact(HGU.out n'.u n'.h).mono fun e w'' h=>⟨h.1.false HG.out,⟨⟨w'',Ab n'.h lR h.2⟩,rfl⟩⟩)))
         refine wpQuiet_nil ?_
         rintro w'' ⟨n',rfl⟩
         go_wp2_with fail
         go_meet
         exact⟨true,rfl,⟨fun _=>.inr (Classical.not_not.1 HG.out),fun _=>rfl⟩,⟨⟨E3.out.1.1.1.keep n'.h,Ab E3.out.1.1.2 lR n'.h⟩,E3.out.1.2.keep n'.h lR⟩⟩
       ·have HQ:Hid (¬DR Ep ar ts):=hq
        clear hq
        go_wp2_with fail
        refine Am (by kernel_rfl) (by kernel_rfl) ?_
        repeat(go_big_quiet_step ((go_at_call 134;rename_i n';exact(HEQ.out _ n'.u n'.h (Cp HT0.out HL.out.2.2.1)).mono fun e w'' h=>⟨h.1.false HQ.out,⟨⟨w'',Ab n'.h lR h.2⟩,rfl⟩⟩)))
        refine wpQuiet_nil ?_
        rintro w'' ⟨n',rfl⟩
        go_wp2_with fail
        go_meet
        exact⟨true,rfl,⟨fun _=>.inl (by cases h:Bc ar ts with|false=>rfl|true=>exact absurd ((C1 ar ts).2 h) HQ.out),fun _=>rfl⟩,⟨⟨E3.out.1.1.1.keep n'.h,Ab E3.out.1.1.2 lR n'.h⟩,E3.out.1.2.keep n'.h lR⟩⟩
      ·skip
       by_cases hq:DR Ep ar ts
       ·have HQ:Hid (DR Ep ar ts):=hq
        clear hq
        by_cases hg:¬(x.op=27/\Av f x.a≠3)
        ·have HG:=AS hg
         clear hg
         go_wp2_with fail
         refine Am (by kernel_rfl) (by kernel_rfl) ?_
         repeat(go_big_quiet_step (first|(go_at_call 134;rename_i n';exact(HEQ.out _ n'.u n'.h (Cp HT0.out HL.out.2.2.1)).mono fun e w'' h=>⟨h.1.true HQ.out,⟨⟨w'',Ab n'.h lR h.2⟩,rfl⟩⟩)|(go_at_call 172;rename_i n';exact(HGU.out n'.u n'.h).mono fun e w'' h=>⟨h.1.true HG.out,⟨⟨w'',Ab n'.h lR h.2⟩,rfl⟩⟩)))
         refine wpQuiet_nil ?_
         rintro w'' ⟨n',rfl⟩
         go_wp2_with fail
         go_meet
         exact⟨false,rfl,⟨fun e=>(by cases e),fun e=>e.elim (fun e=>by rw[(C1 ar ts).1 HQ.out]at e;cases e) (fun e=>absurd e HG.out)⟩,⟨⟨E3.out.1.1.1.keep n'.h,Ab E3.out.1.1.2 lR n'.h⟩,E3.out.1.2.keep n'.h lR⟩⟩
        ·have HG:=AS hg
         clear hg
         go_wp2_with fail
         refine Am (by kernel_rfl) (by kernel_rfl) ?_
         repeat(go_big_quiet_step (first|(go_at_call 134;rename_i n';exact(HEQ.out _ n'.u n'.h (Cp HT0.out HL.out.2.2.1)).mono fun e w'' h=>⟨h.1.true HQ.out,⟨⟨w'',Ab n'.h lR h.2⟩,rfl⟩⟩)|(go_at_call 172;rename_i n';exact(HGU.out n'.u n'.h).mono fun e w'' h=>⟨h.1.false HG.out,⟨⟨w'',Ab n'.h lR h.2⟩,rfl⟩⟩)))
         refine wpQuiet_nil ?_
         rintro w'' ⟨n',rfl⟩
         go_wp2_with fail
         go_meet
         exact⟨true,rfl,⟨fun _=>.inr (Classical.not_not.1 HG.out),fun _=>rfl⟩,⟨⟨E3.out.1.1.1.keep n'.h,Ab E3.out.1.1.2 lR n'.h⟩,E3.out.1.2.keep n'.h lR⟩⟩
       ·have HQ:Hid (¬DR Ep ar ts):=hq
        clear hq
        go_wp2_with fail
        refine Am (by kernel_rfl) (by kernel_rfl) ?_
        repeat(go_big_quiet_step ((go_at_call 134;rename_i n';exact(HEQ.out _ n'.u n'.h (Cp HT0.out HL.out.2.2.1)).mono fun e w'' h=>⟨h.1.false HQ.out,⟨⟨w'',Ab n'.h lR h.2⟩,rfl⟩⟩)))
        refine wpQuiet_nil ?_
        rintro w'' ⟨n',rfl⟩
        go_wp2_with fail
        go_meet
        exact⟨true,rfl,⟨fun _=>.inl (by cases h:Bc ar ts with|false=>rfl|true=>exact absurd ((C1 ar ts).2 h) HQ.out),fun _=>rfl⟩,⟨⟨E3.out.1.1.1.keep n'.h,Ab E3.out.1.1.2 lR n'.h⟩,E3.out.1.2.keep n'.h lR⟩⟩
    ·simp only[sJ,true_and]at e8
     obtain⟨rfl,hx⟩:=e8
     clear hx hc8
     by_cases hne:c8=l
     ·have hneI:((c8:Int)==(l:Int))=true:=by simp;omega
      have hneN:(c8==l)=true:=by simp;omega
      have hneZ:c8-l=0:=by omega
      have HT0:Hid (ts.length=0):=by have:=HL.out.1;show ts.length=0;omega
      clear hne
      by_cases hq:DR Ep ar ts
      ·have HQ:Hid (DR Ep ar ts):=hq
       clear hq
       by_cases hg:¬(x.op=27/\Av f x.a≠3)
       ·have HG:=AS hg
        clear hg
        go_wp2_with fail
        refine Am (by kernel_rfl) (by kernel_rfl) ?_
        repeat(go_big_quiet_step (first|(go_at_call 134;rename_i n';exact(HEQ.out _ n'.u n'.h (Cp HT0.out HL.out.2.2.1)).mono fun e w'' h=>⟨h.1.true HQ.out,⟨⟨w'',Ab n'.h lR h.2⟩,rfl⟩⟩)|(go_at_call 172;rename_i n';exact(HGU.out n'.u n'.h).mono fun e w'' h=>⟨h.1.true HG.out,⟨⟨w'',Ab n'.h lR h.2⟩,rfl⟩⟩)))
        refine wpQuiet_nil ?_
        rintro w'' ⟨n',rfl⟩
        go_wp2_with fail
        go_meet
        exact⟨false,rfl,⟨fun e=>(by cases e),fun e=>e.elim (fun e=>by rw[(C1 ar ts).1 HQ.out]at e;cases e) (fun e=>absurd e HG.out)⟩,⟨⟨E3.out.1.1.1.keep n'.h,Ab E3.out.1.1.2 lR n'.h⟩,E3.out.1.2.keep n'.h lR⟩⟩
       ·have HG:=AS hg
        clear hg
        go_wp2_with fail
        refine Am (by kernel_rfl) (by kernel_rfl) ?_
        repeat(go_big_quiet_step (first|(go_at_call 134;rename_i n';exact(HEQ.out _ n'.u n'.h (Cp HT0.out HL.out.2.2.1)).mono fun e w'' h=>⟨h.1.true HQ.out,⟨⟨w'',Ab n'.h lR h.2⟩,rfl⟩⟩)|(go_at_call 172;rename_i n';exact(HGU.out n'.u n'.h).mono fun e w'' h=>⟨h.1.false HG.out,⟨⟨w'',Ab n'.h lR h.2⟩,rfl⟩⟩)))
        refine wpQuiet_nil ?_
        rintro w'' ⟨n',rfl⟩
        go_wp2_with fail
        go_meet
        exact⟨true,rfl,⟨fun _=>.inr (Classical.not_not.1 HG.out),fun _=>rfl⟩,⟨⟨E3.out.1.1.1.keep n'.h,Ab E3.out.1.1.2 lR n'.h⟩,E3.out.1.2.keep n'.h lR⟩⟩
      ·have HQ:Hid (¬DR Ep ar ts):=hq
       clear hq
       go_wp2_with fail
       refine Am (by kernel_rfl) (by kernel_rfl) ?_
       repeat(go_big_quiet_step ((go_at_call 134;rename_i n';exact(HEQ.out _ n'.u n'.h (Cp HT0.out HL.out.2.2.1)).mono fun e w'' h=>⟨h.1.false HQ.out,⟨⟨w'',Ab n'.h lR h.2⟩,rfl⟩⟩)))
       refine wpQuiet_nil ?_
       rintro w'' ⟨n',rfl⟩
       go_wp2_with fail
       go_meet
       exact⟨true,rfl,⟨fun _=>.inl (by cases h:Bc ar ts with|false=>rfl|true=>exact absurd ((C1 ar ts).2 h) HQ.out),fun _=>rfl⟩,⟨⟨E3.out.1.1.1.keep n'.h,Ab E3.out.1.1.2 lR n'.h⟩,E3.out.1.2.keep n'.h lR⟩⟩
     ·have hrt:Rd wc 2 (.slice (some ⟨g8,o8+l*2,none⟩) ts.length (c8-l)) ts.length (ar.flatMap MC.cells):=by
       rw[<-HL.out.2.1]
       exact Ns E3.out.2 HMB.out.2 HL.out.1
      have HRT:=AS hrt
      clear hrt
      by_cases hq:DR Ep ar ts
      ·have HQ:Hid (DR Ep ar ts):=hq
       clear hq
       by_cases hg:¬(x.op=27/\Av f x.a≠3)
       ·have HG:=AS hg
        clear hg
        go_wp2_with fail
        refine Am (by kernel_rfl) (by kernel_rfl) ?_
        repeat(go_big_quiet_step (first|(go_at_call 134;rename_i n';exact(HEQ.out _ n'.u n'.h (HRT.out.keep n'.h lR)).mono fun e w'' h=>⟨h.1.true HQ.out,⟨⟨w'',Ab n'.h lR h.2⟩,rfl⟩⟩)|(go_at_call 172;rename_i n';exact(HGU.out n'.u n'.h).mono fun e w'' h=>⟨h.1.true HG.out,⟨⟨w'',Ab n'.h lR h.2⟩,rfl⟩⟩)))
        refine wpQuiet_nil ?_
        rintro w'' ⟨n',rfl⟩
        go_wp2_with fail
        go_meet
        exact⟨false,rfl,⟨fun e=>(by cases e),fun e=>e.elim (fun e=>by rw[(C1 ar ts).1 HQ.out]at e;cases e) (fun e=>absurd e HG.out)⟩,⟨⟨E3.out.1.1.1.keep n'.h,Ab E3.out.1.1.2 lR n'.h⟩,E3.out.1.2.keep n'.h lR⟩⟩
       ·have HG:=AS hg
        clear hg
        go_wp2_with fail
        refine Am (by kernel_rfl) (by kernel_rfl) ?_
        repeat(go_big_quiet_step (first|(go_at_call 134;rename_i n';exact(HEQ.out _ n'.u n'.h (HRT.out.keep n'.h lR)).mono fun e w'' h=>⟨h.1.true HQ.out,⟨⟨w'',Ab n'.h lR h.2⟩,rfl⟩⟩)|(go_at_call 172;rename_i n';exact(HGU.out n'.u n'.h).mono fun e w'' h=>⟨h.1.false HG.out,⟨⟨w'',Ab n'.h lR h.2⟩,rfl⟩⟩)))
        refine wpQuiet_nil ?_
        rintro w'' ⟨n',rfl⟩
        go_wp2_with fail
        go_meet
        exact⟨true,rfl,⟨fun _=>.inr (Classical.not_not.1 HG.out),fun _=>rfl⟩,⟨⟨E3.out.1.1.1.keep n'.h,Ab E3.out.1.1.2 lR n'.h⟩,E3.out.1.2.keep n'.h lR⟩⟩
      ·have HQ:Hid (¬DR Ep ar ts):=hq
       clear hq
       go_wp2_with fail
       refine Am (by kernel_rfl) (by kernel_rfl) ?_
       repeat(go_big_quiet_step ((go_at_call 134;rename_i n';exact(HEQ.out _ n'.u n'.h (HRT.out.keep n'.h lR)).mono fun e w'' h=>⟨h.1.false HQ.out,⟨⟨w'',Ab n'.h lR h.2⟩,rfl⟩⟩)))
       refine wpQuiet_nil ?_
       rintro w'' ⟨n',rfl⟩
       go_wp2_with fail
       go_meet
       exact⟨true,rfl,⟨fun _=>.inl (by cases h:Bc ar ts with|false=>rfl|true=>exact absurd ((C1 ar ts).2 h) HQ.out),fun _=>rfl⟩,⟨⟨E3.out.1.1.1.keep n'.h,Ab E3.out.1.1.2 lR n'.h⟩,E3.out.1.2.keep n'.h lR⟩⟩
   case rest=>
    obtain⟨bb,rfl,HBB,E4⟩:=hcut
    clear E3 f0 i0 i1 i2 i3 d0 d1 d2 d3 d4 d5 d6 d7 inst
    rcases Bool.eq_false_or_eq_true bb with hbb|hbb
    ·subst hbb
     have HR0:Hid (res=2):=by rw[HTR.out,if_neg (by rw[hlen];exact hfew),if_pos (by rw[HL.out.2.2.2];exact HBB.out.1 rfl)];exact rfl
     go_upto_region 9 with fail
     go_wp2_with fail
     go_ret
     exact⟨by rw[HR0.out];rfl,E4.out.1.2⟩
    subst hbb
    have HNB:Hid (¬(Bc (K.drop (K.length-ts.length)) ts=false\/(x.op=27/\Av f x.a≠3))):=by
     rw[HL.out.2.2.2]
     exact fun e=>by have:=HBB.out.2 e;cases this
    have i0:=E4.out.1.1.ib.cell 0
    simp only[gA,gZ]at i0
    by_cases h28:x.op=28
    ·have h28b:(x.op==28)=true:=by simpa using h28
     have m6:=E4.out.1.1.mb.at.2.2.2.2.2.2.1
     simp only[]at m6
     by_cases hdp:top+1<32
     ·have hdt:decide ((top:Int)+1<32)=true:=decide_eq_true (by omega)
      have HR0:Hid (res=0):=by rw[HTR.out,if_neg (by rw[hlen];exact hfew),if_neg HNB.out,if_pos h28,if_pos (by rw[H.out.1];exact hdp)];exact rfl
      go_wp2_with fail
      refine(Cr true 5 _).mono ?_
      rintro e u2 ⟨rfl,rfl⟩
      go_wp2_with fail
      go_ret
      exact⟨by rw[HR0.out];rfl,E4.out.1.2⟩
     ·have hdt:decide ((top:Int)+1<32)=false:=decide_eq_false (by omega)
      have HR0:Hid (res=5):=by rw[HTR.out,if_neg (by rw[hlen];exact hfew),if_neg HNB.out,if_pos h28,if_neg (by rw[H.out.1];exact hdp)];exact rfl
      go_wp2_with fail
      refine(Cr false 5 _).mono ?_
      rintro e u2 ⟨rfl,rfl⟩
      go_wp2_with fail
      go_ret
      exact⟨by rw[HR0.out];rfl,E4.out.1.2⟩
    have h28b:(x.op==28)=false:=by simpa using h28
    go_upto_region 12 with fail
    clear i0 h28b
    obtain⟨gs,hgs⟩:∃gs,Ay p f x=gs:=⟨_,rfl⟩
    have hgl:gs.length=Dd x:=by rw[<-hgs];exact FW p f x h28
    have hg2:gs.length<=2:=by
     rw[hgl]
     unfold Dd
     repeat' split
     all_goals omega
    have HGS:=h2 hgs hgl
    clear hgs hgl
    have hw1:IntKind.i64.wrap ((b:Int)+(l:Int))=(b:Int)+(l:Int):=IntWalk.i64_in _ (by omega)
    have hw2:IntKind.i64.wrap ((b:Int)+(l:Int)+(gs.length:Int))=(b:Int)+(l:Int)+(gs.length:Int):=IntWalk.i64_in _ (by omega)
    obtain⟨fb0,fb1⟩:=E4.out.1.1.fb.c2
    obtain⟨i0,i1,i2,i3⟩:=E4.out.1.1.ib.c4
    try dsimp only at fb0 fb1 i0 i1 i2 i3
    have d0:=Ac E4.out.1.2 HCC.out.1
    have d1:=Ac E4.out.1.2 HCC.out.2.1
    have d2:=Ac E4.out.1.2 HCC.out.2.2.1
    have d3:=Ac E4.out.1.2 HCC.out.2.2.2.1
    have d4:=Ac E4.out.1.2 HCC.out.2.2.2.2.1
    have d5:=Ac E4.out.1.2 HCC.out.2.2.2.2.2.1
    have d6:=Ac E4.out.1.2 HCC.out.2.2.2.2.2.2.1
    have d7:=Ac E4.out.1.2 HCC.out.2.2.2.2.2.2.2
    have ho:=E4.out.1.1.own.frames
    simp only[]at ho
    rw[H.out.1]at ho
    have fc2:=ho.cellAt (top*4+2) (by omega)
    rw[AF AA 4 Au F top 2 _ H.out.2.1 (by omega)]at fc2
    simp only[AA,gZ,gS,H.out.2.2.1]at fc2
    clear ho
    have bD:=Ad wc
    have KD:wc.drew.cell? ⟨w.heap.size,0,none⟩=some (.pointer (some ⟨gh,oh,none⟩))/\wc.drew.cell? ⟨w.heap.size,1,none⟩=some (.pointer (some ⟨gf,top*4,none⟩))/\wc.drew.cell? ⟨gf,top*4+2,none⟩=some (.int .i64 (b:Int))/\wc.drew.cell? ⟨gh,oh,none⟩=some (.slice r1 p.regions.length r3)/\wc.drew.cell? ⟨gh,oh+1,none⟩=some (.slice k1 p.consts.length k3)/\wc.drew.cell? ⟨gh,oh+2,none⟩=some (.slice f1 p.funcs.length f3)/\wc.drew.cell? ⟨gh,oh+3,none⟩=some (.slice t1 p.certs.length t3)/\wc.drew.cell? ⟨gh,oh+4,none⟩=some (.slice g1 f.params.length g3)/\wc.drew.cell? ⟨gh,oh+5,none⟩=some (.int .i64 f.result)/\wc.drew.cell? ⟨gh,oh+6,none⟩=some (.slice g4 f.locals.length g6)/\wc.drew.cell? ⟨gh,oh+7,none⟩=some (.slice g7 f.code.length g9)/\wc.drew.cell? ⟨w.heap.size+1,0,none⟩=some (.int .i64 x.op)/\wc.drew.cell? ⟨w.heap.size+1,1,none⟩=some (.int .i64 x.a)/\wc.drew.cell? ⟨w.heap.size+1,2,none⟩=some (.int .i64 x.b)/\wc.drew.cell? ⟨w.heap.size+1,3,none⟩=some (.int .i64 x.c):=⟨Ac bD fb0,Ac bD fb1,Ac bD fc2,Ac bD d0,Ac bD d1,Ac bD d2,Ac bD d3,Ac bD d4,Ac bD d5,Ac bD d6,Ac bD d7,Ac bD i0,Ac bD i1,Ac bD i2,Ac bD i3⟩
    clear fb0 fb1 fc2 d0 d1 d2 d3 d4 d5 d6 d7 i0 i1 i2 i3
    go_cut [10] (fun s wx=>s=.int .i64 ((b:Int)+(l:Int)+(gs.length:Int))/\Hid (Below w.heap.size w wx))
    case first=>
     go_region_held_law (fun w'=>w'.cell? ⟨w.heap.size,0,none⟩=some (.pointer (some ⟨gh,oh,none⟩))/\w'.cell? ⟨w.heap.size,1,none⟩=some (.pointer (some ⟨gf,top*4,none⟩))/\w'.cell? ⟨gf,top*4+2,none⟩=some (.int .i64 (b:Int))/\w'.cell? ⟨gh,oh,none⟩=some (.slice r1 p.regions.length r3)/\w'.cell? ⟨gh,oh+1,none⟩=some (.slice k1 p.consts.length k3)/\w'.cell? ⟨gh,oh+2,none⟩=some (.slice f1 p.funcs.length f3)/\w'.cell? ⟨gh,oh+3,none⟩=some (.slice t1 p.certs.length t3)/\w'.cell? ⟨gh,oh+4,none⟩=some (.slice g1 f.params.length g3)/\w'.cell? ⟨gh,oh+5,none⟩=some (.int .i64 f.result)/\w'.cell? ⟨gh,oh+6,none⟩=some (.slice g4 f.locals.length g6)/\w'.cell? ⟨gh,oh+7,none⟩=some (.slice g7 f.code.length g9)/\w'.cell? ⟨w.heap.size+1,0,none⟩=some (.int .i64 x.op)/\w'.cell? ⟨w.heap.size+1,1,none⟩=some (.int .i64 x.a)/\w'.cell? ⟨w.heap.size+1,2,none⟩=some (.int .i64 x.b)/\w'.cell? ⟨w.heap.size+1,3,none⟩=some (.int .i64 x.c)) (first|exact KD|exact KW|go_keep) (first|(go_simp;go_at_call 173;refine(M9 ⟨.slice r1 p.regions.length r3,.slice k1 p.consts.length k3,.slice f1 p.funcs.length f3,.slice t1 p.certs.length t3⟩ p ⟨.slice g1 f.params.length g3,.slice g4 f.locals.length g6,.slice g7 f.code.length g9⟩ f x _ hps H.out.2.2.2.2.2.2 hs (HP.out.keep (Ab E4.out.1.2 lR bD) lR) (HR.out.keep (Ab E4.out.1.2 lR bD) lR) H.out.2.2.2.1).mono ?_;rintro e u1 ⟨sv,rfl,hrd,b1⟩;rw[HGS.out.1]at hrd;obtain⟨sa,sc,rfl⟩:=hrd.is_slice;have B1:Hid (Below w.heap.size w u1):=Ab E4.out.1.2 lR (As b1 lR);have KW:u1.cell? ⟨w.heap.size,0,none⟩=some (.pointer (some ⟨gh,oh,none⟩))/\u1.cell? ⟨w.heap.size,1,none⟩=some (.pointer (some ⟨gf,top*4,none⟩))/\u1.cell? ⟨gf,top*4+2,none⟩=some (.int .i64 (b:Int))/\u1.cell? ⟨gh,oh,none⟩=some (.slice r1 p.regions.length r3)/\u1.cell? ⟨gh,oh+1,none⟩=some (.slice k1 p.consts.length k3)/\u1.cell? ⟨gh,oh+2,none⟩=some (.slice f1 p.funcs.length f3)/\u1.cell? ⟨gh,oh+3,none⟩=some (.slice t1 p.certs.length t3)/\u1.cell? ⟨gh,oh+4,none⟩=some (.slice g1 f.params.length g3)/\u1.cell? ⟨gh,oh+5,none⟩=some (.int .i64 f.result)/\u1.cell? ⟨gh,oh+6,none⟩=some (.slice g4 f.locals.length g6)/\u1.cell? ⟨gh,oh+7,none⟩=some (.slice g7 f.code.length g9)/\u1.cell? ⟨w.heap.size+1,0,none⟩=some (.int .i64 x.op)/\u1.cell? ⟨w.heap.size+1,1,none⟩=some (.int .i64 x.a)/\u1.cell? ⟨w.heap.size+1,2,none⟩=some (.int .i64 x.b)/\u1.cell? ⟨w.heap.size+1,3,none⟩=some (.int .i64 x.c):=⟨Ac b1 KD.1,Ac b1 KD.2.1,Ac b1 KD.2.2.1,Ac b1 KD.2.2.2.1,Ac b1 KD.2.2.2.2.1,Ac b1 KD.2.2.2.2.2.1,Ac b1 KD.2.2.2.2.2.2.1,Ac b1 KD.2.2.2.2.2.2.2.1,Ac b1 KD.2.2.2.2.2.2.2.2.1,Ac b1 KD.2.2.2.2.2.2.2.2.2.1,Ac b1 KD.2.2.2.2.2.2.2.2.2.2.1,Ac b1 KD.2.2.2.2.2.2.2.2.2.2.2.1,Ac b1 KD.2.2.2.2.2.2.2.2.2.2.2.2.1,Ac b1 KD.2.2.2.2.2.2.2.2.2.2.2.2.2.1,Ac b1 KD.2.2.2.2.2.2.2.2.2.2.2.2.2.2⟩;clear b1 hrd))
     all_goals
      go_wp2_with fail
      go_meet
      exact⟨rfl,B1⟩
    case rest=>
     obtain⟨rfl,HB⟩:=hcut
     clear KD bD E4
     by_cases hfl:b+l+gs.length<=64
     ·have hfd:decide ((b:Int)+(l:Int)+(gs.length:Int)<=64)=true:=decide_eq_true (by omega)
      have HR0:Hid (res=0):=by rw[HTR.out,if_neg (by rw[hlen];exact hfew),if_neg HNB.out,if_neg h28,if_neg (by rw[<-HGS.out.2];have:=HL.out.1;have:=HMB.out.1;omega)];exact rfl
      clear hfl
      go_wp2_with fail
      refine(Cr true 3 _).mono ?_
      rintro e u2 ⟨rfl,rfl⟩
      go_wp2_with fail
      go_ret
      exact⟨by rw[HR0.out];rfl,HB.out⟩
     ·have hfd:decide ((b:Int)+(l:Int)+(gs.length:Int)<=64)=false:=decide_eq_false (by omega)
      have HR0:Hid (res=3):=by rw[HTR.out,if_neg (by rw[hlen];exact hfew),if_neg HNB.out,if_neg h28,if_pos (by rw[<-HGS.out.2];have:=HL.out.1;have:=HMB.out.1;omega)];exact rfl
      clear hfl
      go_wp2_with fail
      refine(Cr false 3 _).mono ?_
      rintro e u2 ⟨rfl,rfl⟩
      go_wp2_with fail
      go_ret
      exact⟨by rw[HR0.out];rfl,HB.out⟩
end Go.Proofs.YtlejplpkomddeaaGreat
