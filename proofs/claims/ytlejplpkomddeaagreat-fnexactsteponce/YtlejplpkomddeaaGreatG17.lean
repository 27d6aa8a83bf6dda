import Derived.Test.YtlejplpkomddeaaGreatG0
import Derived.Test.YtlejplpkomddeaaGreatG15
import Derived.Test.YtlejplpkomddeaaGreatG4
import Derived.Test.YtlejplpkomddeaaGreatG2
import Derived.Deep.RegionHeld3
import Derived.Deep.RegionLaw
namespace Go.Proofs.YtlejplpkomddeaaGreat
open Go.ChangeShapes Go.WideShapes Go.ChangeAt Go.RowKit
set_option linter.unusedVariables false
set_option maxHeartbeats 8000000
set_option maxRecDepth 100000
structure Ep(w u:World)(v:VP)(s:MS)(x:VS):Prop where
 pb:Aq u w.heap.size #[v.r,v.k,v.f,v.t] 45
 sb:Aq u (w.heap.size+1) #[.int .i64 s.trap,.bool s.done,.int .i64 s.cost,.int .i64 s.steps,x.c,x.k,x.f] 39
 bel:Below w.heap.size w u
theorem Ep.keep{w u u':World}{v:VP}{s:MS}{x:VS}(h:Ep w u v s x)(hb:Below u.heap.size u u'):Ep w u' v s x:=⟨h.pb.keep hb,h.sb.keep hb,Ac h.bel lR hb⟩
theorem Ep.of(w:World)(v:VP)(s:MS)(x:VS):Ep w ((w.alloc (.cells #[v.r,v.k,v.f,v.t] 45)).alloc (.cells #[.int .i64 s.trap,.bool s.done,.int .i64 s.cost,.int .i64 s.steps,x.c,x.k,x.f] 39)) v s x:=by
 have b1:=Aa w (.cells #[v.r,v.k,v.f,v.t] 45);have k1:=Aq.new w #[v.r,v.k,v.f,v.t] 45;generalize hU1:w.alloc (.cells #[v.r,v.k,v.f,v.t] 45)=U1 at b1 k1⊢;have z1:U1.heap.size=w.heap.size+1:=by rw[<-hU1];simp
 have b2:=Aa U1 (.cells #[.int .i64 s.trap,.bool s.done,.int .i64 s.cost,.int .i64 s.steps,x.c,x.k,x.f] 39);have k2:=Aq.new U1 #[.int .i64 s.trap,.bool s.done,.int .i64 s.cost,.int .i64 s.steps,x.c,x.k,x.f] 39;rw[z1]at k2;exact⟨k1.keep b2,k2,Ac b1 lR b2⟩
theorem Be.three{p:MP}(h:Be p 0):p.regions.length=3:=by
 unfold Be at h;rcases h with⟨h,_⟩|⟨h,_⟩|⟨h,_⟩|⟨h,_⟩|⟨h,_⟩|⟨_,h,_⟩
 ·cases h
 ·cases h
 ·cases h
 ·cases h
 ·cases h
 ·exact h.1
theorem BM.three'{p:MP}{s:MS}(h:BM p s):s.cells.length=3:=by rw[h.three,h.prog.three]
theorem Kx (v:VP)(p:MP)(x:VS)(s:MS)(w:World)(hs:p.small)(hw:p.wf)(h:Cx w v p)(ss:s.small)(hS:Fc w x s):
  Calls Tryz.prog 30 #[.agg #[v.r,v.k,v.f,v.t],.agg #[.int .i64 s.trap,.bool s.done,.int .i64 s.cost,.int .i64 s.steps,x.c,x.k,x.f]] w fun e w'=>Ao e (BM p s)/\Below w.heap.size w w':=by
 obtain⟨rs,qs,hpg⟩:=Pg.of hs hw h
 have HP:=AM hpg
 have HS:=h2 ss hS
 obtain⟨xs,hxs,hxr,hxe⟩:=hS.cells
 obtain⟨a1,c1,e1⟩:=hxr.is_slice
 obtain⟨a2,c2,e2⟩:=hS.stack.is_slice
 obtain⟨ys,hys,hyr,hye⟩:=hS.frames
 obtain⟨a3,c3,e3⟩:=hyr.is_slice
 obtain⟨vc,vk',vf'⟩:=x
 simp only[]at e1 e2 e3
 have hlc:=ss.cells
 generalize hNC:s.cells.length=nc at e1 hxr hlc
 subst e1 e2 e3
 have HNC:Hid (s.cells.length=nc):=hNC
 clear hNC
 have HC:=h3 hxs hxr hxe
 have HF:=h3 hys hyr hye
 obtain⟨b1,d1,f1⟩:=hpg.rr.is_slice
 obtain⟨b3,d3,f3⟩:=hpg.fr.is_slice
 obtain⟨vr,vk,vf,vt⟩:=v
 simp only[]at f1 f3
 generalize hNR:p.regions.length=nr at f1
 have HNR:Hid (p.regions.length=nr):=hNR
 clear hNR
 subst f1 f3
 simp only[]at HP
 have hlk:=ss.stack
 have hlf:=ss.frames
 clear hs hw h ss hS hpg hxs hxr hxe hys hyr hye
 have E0:Hid _:=Ep.of w ⟨.slice b1 nr d1,vk,.slice b3 p.funcs.length d3,vt⟩ s ⟨.slice a1 nc c1,.slice a2 s.stack.length c2,.slice a3 s.frames.length c3⟩
 go_enter Tryz.func30,Tryz.ntmps30
 go_wp2_with fail
 refine(Is ⟨.slice b1 nr d1,vk,.slice b3 p.funcs.length d3,vt⟩ p _ HP.out.small HP.out.wf (HP.out.rd.keep E0.out.bel lR)).mono ?_
 rintro e u1 ⟨⟨n,rfl,hn⟩,bl1⟩
 have E1:Hid _:=E0.out.keep bl1
 clear bl1 E0
 by_cases hn0:n=0
 rotate_left
 ·have HN:Hid (¬BM p s):=fun e=>hn0 (hn.one e.prog)
  have hn0':(n != 0)=true:=by simpa using hn0
  clear hn hn0
  go_wp2
  go_ret
  exact⟨.no HN.out,E1.out.bel⟩
 subst hn0
 have HQ:Hid (Be p 0):=hn
 clear hn
 obtain rfl:nr=3:=by rw[<-HNR.out];exact HQ.out.three
 have m4:=E1.out.sb.cell 4
 have m5:=E1.out.sb.cell 5
 have m6:=E1.out.sb.cell 6
 have m2:=E1.out.sb.cell 2
 have m3:=E1.out.sb.cell 3
 simp only[gA,gZ,gS]at m2 m3 m4 m5 m6
 by_cases g1:s.frames.length<1
 ·have HN:Hid (¬BM p s):=fun e=>e.some (List.eq_nil_of_length_eq_zero (by omega))
  go_wp2
  go_ret
  exact⟨.no HN.out,E1.out.bel⟩
 by_cases g2:32<s.frames.length
 ·have HN:Hid (¬BM p s):=fun e=>by have:=e.deep;omega
  go_wp2
  go_ret
  exact⟨.no HN.out,E1.out.bel⟩
 by_cases g3:nc=3
 rotate_left
 ·have HN:Hid (¬BM p s):=fun e=>g3 (HNC.out.symm.trans e.three')
  have g3':¬(nc:Int)=3:=by omega
  go_wp2
  go_ret
  exact⟨.no HN.out,E1.out.bel⟩
 subst g3
 by_cases g4:64<s.stack.length
 ·have HN:Hid (¬BM p s):=fun e=>by have:=e.high;omega
  go_wp2
  go_ret
  exact⟨.no HN.out,E1.out.bel⟩
 go_wp2_with fail
 refine(Dz (.slice a2 s.stack.length c2) s.stack _ HS.out.1.stack (HS.out.2.stack.keep E1.out.bel lR)).mono ?_
 rintro e u2 ⟨⟨bv,rfl,hbv⟩,bl2⟩
 have E2:Hid _:=E1.out.keep bl2
 clear bl2 E1 m2 m3 m4 m5 m6
 cases bv
 ·have HN:Hid (¬BM p s):=fun e=>absurd (hbv.2 e.stack) Bool.false_ne_true
  clear hbv
  go_wp2
  go_ret
  exact⟨.no HN.out,E2.out.bel⟩
 have HV:Hid (CO s.stack):=hbv.1 rfl
 clear hbv
 have m2:=E2.out.sb.cell 2
 have m3:=E2.out.sb.cell 3
 simp only[gA,gZ,gS]at m2 m3
 by_cases k1:s.cost<0
 ·have HN:Hid (¬BM p s):=fun e=>by have:=e.cost;omega
  go_wp2
  go_ret
  exact⟨.no HN.out,E2.out.bel⟩
 by_cases k2:4611686018427387904<s.cost
 ·have HN:Hid (¬BM p s):=fun e=>by have:=e.cost;omega
  go_wp2
  go_ret
  exact⟨.no HN.out,E2.out.bel⟩
 by_cases k3:s.steps<0
 ·have HN:Hid (¬BM p s):=fun e=>by have:=e.steps;omega
  go_wp2
  go_ret
  exact⟨.no HN.out,E2.out.bel⟩
 by_cases k4:4611686018427387904<s.steps
 ·have HN:Hid (¬BM p s):=fun e=>by have:=e.steps;omega
  go_wp2
  go_ret
  exact⟨.no HN.out,E2.out.bel⟩
 go_wp2_with fail
 have HG:Hid ((0<=s.cost/\s.cost<=4611686018427387904)/\(0<=s.steps/\s.steps<=4611686018427387904)/\s.stack.length<=64/\s.frames≠[]/\s.frames.length<=32):=⟨by omega,by omega,by omega,fun e=>by rw[e]at g1;simp at g1,by omega⟩
 clear k1 k2 k3 k4 m2 m3
 go_loopw [5] (fun i wr=>∃k:Nat,k<=3/\i=.int .i64 k/\Hid (∀j,j<k->∀c r,s.cells[j]?=some c->p.regions[j]?=some r->Cu c r)/\Hid (Ep w wr ⟨.slice b1 3 d1,vk,.slice b3 p.funcs.length d3,vt⟩ s ⟨.slice a1 3 c1,.slice a2 s.stack.length c2,.slice a3 s.frames.length c3⟩)) (fun i _=>3-(intOf i).toNat)
 case atStart=>exact⟨0,by omega,rfl,fun j hj=>by omega,E2⟩
 case round=>
  clear E2
  obtain⟨k,hk,rfl,HT,HI⟩:=hrel
  by_cases hlt:k<3
  ·obtain⟨⟨f,y⟩,hx⟩:∃x,xs[k]?=some x:=⟨_,gE (by rw[<-List.length_map (f:=Prod.fst),HC.out.1,HNC.out];exact hlt)⟩
   have hfx:=AO HC.out.1 hx
   have hrx:=HC.out.2.2 _ (mG hx)
   simp only[]at hrx hfx
   obtain⟨bf,df,rfl⟩:∃a c,y=.slice a f.length c:=hrx.is_slice
   obtain⟨⟨r,z⟩,hz⟩:∃x,rs[k]?=some x:=⟨_,gE (by rw[HP.out.rl,HNR.out];exact hlt)⟩
   have hfz:=AO HP.out.rm hz
   have hrz:=HP.out.re _ (mG hz)
   simp only[]at hrz hfz
   obtain⟨br,dr,rfl⟩:∃a c,z=.slice a r.length c:=hrz.is_slice
   rcases HC.out.2.1.2 with⟨e0,_⟩|⟨g,o,c,e1,hc1⟩
   ·omega
   simp only[sJ,true_and]at e1
   obtain⟨rfl,rfl⟩:=e1
   rcases HP.out.rr.2 with⟨e0,_⟩|⟨g',o',c',e1,hc2⟩
   ·have:=HNR.out;omega
   simp only[sJ]at e1
   obtain⟨rfl,hq3,rfl⟩:=e1
   clear hq3
   have i1:=Rd.elem Bf hc1 k _ hx 0 _ rfl
   rw[<-HI.out.bel.cell (bL i1)]at i1
   have i2:=Rd.elem AK hc2 k _ hz 0 _ rfl
   rw[<-HI.out.bel.cell (bL i2)]at i2
   rw[Nat.mul_one,Nat.add_zero]at i1 i2
   have m4:=HI.out.sb.cell 4
   have m0:=HI.out.pb.cell 0
   simp only[gA,gZ,gS]at i1 i2 m4 m0
   have HD:Hid (Rd wr 2 (.slice bf f.length df) f.length (f.flatMap MC.cells)/\Rd wr 1 (.slice br r.length dr) r.length (r.flatMap Af)/\s.cells[k]?=some f/\p.regions[k]?=some r/\f.length<=1048576/\r.length<=1048576):=⟨hrx.keep HI.out.bel lR,hrz.keep HI.out.bel lR,hfx,hfz,HS.out.1.cell f (mG hfx),HP.out.small.region r (mG hfz)⟩
   clear hc1 hc2 hx hz hrx hrz hfx hfz
   have hk3:(k:Int)<3:=by omega
   have HI2c:=AM i2
   have inst:=Ae.some wr
   have I1:=fun n:Ae wr=>Ae.cell i1 n
   have I2:=fun n:Ae wr=>Ae.cell i2 n
   have M4:=fun n:Ae wr=>Ae.cell m4 n
   have M0:=fun n:Ae wr=>Ae.cell m0 n
   by_cases hll:f.length=r.length
   rotate_left
   ·have HN:Hid (¬BM p s):=fun e=>hll (by have:=(e.cells k f r HD.out.2.2.1 HD.out.2.2.2.1).1;rw[<-this,List.length_map])
    have hll':((f.length:Int)==(r.length:Int))=false:=by simp;omega
    have hll2:((f.length:Int) != (r.length:Int))=true:=by simp;omega
    have hll3:¬(f.length:Int)=(r.length:Int):=by omega
    go_wp2_with fail
    refine Ak (by kernel_rfl) (by kernel_rfl) ?_
    repeat(go_big_quiet_step (fail))
    refine wpQuiet_nil ?_
    rintro w'' ⟨n',rfl⟩
    have HE:Hid (Below w.heap.size w n'.u):=Ac HI.out.bel lR n'.h
    go_wp2
    go_ret
    exact⟨.no HN.out,HE.out⟩
   have HLL:Hid (f.length=r.length):=hll
   clear i2 I2
   have i2:wr.cell? ⟨g',o'+k,none⟩=some (.slice br f.length dr):=by rw[hll];exact HI2c.out
   have I2:=fun n:Ae wr=>Ae.cell i2 n
   clear hll
   by_cases hvf:CO f
   rotate_left
   ·have HN:Hid (¬BM p s):=fun e=>hvf (e.cells k f r HD.out.2.2.1 HD.out.2.2.2.1).2
    have HV2:Hid (¬CO f):=hvf
    clear hvf
    go_wp2_with fail
    refine Ak (by kernel_rfl) (by kernel_rfl) ?_
    repeat(go_big_quiet_step ((go_at_call 73;rename_i n';exact(Dz (.slice bf f.length df) f n'.u HD.out.2.2.2.2.1 (HD.out.1.keep n'.h lR)).mono fun e w'' h=>⟨h.1.false HV2.out,⟨⟨w'',Ac n'.h lR h.2⟩,rfl⟩⟩)))
    refine wpQuiet_nil ?_
    rintro w'' ⟨n',rfl⟩
    have HE:Hid (Below w.heap.size w n'.u):=Ac HI.out.bel lR n'.h
    go_wp2
    go_ret
    exact⟨.no HN.out,HE.out⟩
   have HV2:Hid (CO f):=hvf
   clear hvf
   go_wp2_with fail
   refine Ak (by kernel_rfl) (by kernel_rfl) ?_
   repeat(go_big_quiet_step ((go_at_call 73;rename_i n';exact(Dz (.slice bf f.length df) f n'.u HD.out.2.2.2.2.1 (HD.out.1.keep n'.h lR)).mono fun e w'' h=>⟨h.1.true HV2.out,⟨⟨w'',Ac n'.h lR h.2⟩,rfl⟩⟩)))
   refine wpQuiet_nil ?_
   rintro w'' ⟨n',rfl⟩
   have HI2:Hid (Ep w n'.u _ s _/\Rd n'.u 2 (.slice bf f.length df) f.length (f.flatMap MC.cells)/\Rd n'.u 1 (.slice br f.length dr) f.length (r.flatMap Af)):=⟨HI.out.keep n'.h,HD.out.1.keep n'.h lR,by rw[HLL.out];exact HD.out.2.1.keep n'.h lR⟩
   have i1:=I1 n'
   have i2:=I2 n'
   have m4:=M4 n'
   have m0:=M0 n'
   clear I1 I2 M4 M0 HI inst
   generalize n'.u=U at HI2 i1 i2 m4 m0⊢
   go_wp2_with fail
   go_loopw [6] (fun i wr'=>∃q:Nat,q<=f.length/\i=.int .i64 q/\Hid (∀j,j<q->∀c t,f[j]?=some c->r[j]?=some t->c.type=t)/\Below U.heap.size U wr') (fun i _=>f.length-(intOf i).toNat)
   case atStart=>exact⟨0,by omega,rfl,fun j hj=>by omega,Below.refl _ _⟩
   case round=>
    obtain⟨q,hq,rfl,HTq,hbU⟩:=hrel
    have HBU:Hid (Below U.heap.size U wr):=hbU
    rw[<-hbU.cell (bL i1)]at i1
    rw[<-hbU.cell (bL i2)]at i2
    rw[<-hbU.cell (bL m4)]at m4
    rw[<-hbU.cell (bL m0)]at m0
    clear hbU
    have hfl:f.length<=1048576:=HD.out.2.2.2.2.1
    by_cases hqlt:q<f.length
    ·obtain⟨cv,hcv⟩:∃x,f[q]?=some x:=⟨_,gE hqlt⟩
     obtain⟨tv,htv⟩:∃x,r[q]?=some x:=⟨_,gE (by rw[<-HLL.out];exact hqlt)⟩
     rcases HI2.out.2.1.2 with⟨e0,_⟩|⟨gf,of,cf,e1,hc1⟩
     ·omega
     simp only[sJ,true_and]at e1
     obtain⟨rfl,rfl⟩:=e1
     rcases HI2.out.2.2.2 with⟨e0,_⟩|⟨gr,or_,cr,e1,hc2⟩
     ·omega
     simp only[sJ,true_and]at e1
     obtain⟨rfl,rfl⟩:=e1
     have j1:=Rd.elem MC.cells_length hc1 q _ hcv 0 _ rfl
     have j2:=Rd.elem Ap hc2 q _ htv 0 _ rfl
     rw[<-HBU.out.cell (bL j1)]at j1
     rw[<-HBU.out.cell (bL j2)]at j2
     rw[Nat.add_zero]at j1
     rw[Nat.mul_one,Nat.add_zero]at j2
     have HX:=h2 hcv htv
     clear hc1 hc2 hcv htv
     have hqL:(q:Int)<(f.length:Int):=by omega
     have inst:=Ae.some wr
     have I1:=fun n:Ae wr=>Ae.cell i1 n
     have I2:=fun n:Ae wr=>Ae.cell i2 n
     have M4:=fun n:Ae wr=>Ae.cell m4 n
     have M0:=fun n:Ae wr=>Ae.cell m0 n
     have J1:=fun n:Ae wr=>Ae.cell j1 n
     have J2:=fun n:Ae wr=>Ae.cell j2 n
     by_cases hty:cv.type=tv
     ·subst hty
      go_wp2_with fail
      refine Ak (by kernel_rfl) (by kernel_rfl) ?_
      repeat(go_big_quiet_step (fail))
      refine wpQuiet_nil ?_
      rintro w'' ⟨n',rfl⟩
      have HBn:Hid (Below U.heap.size U n'.u):=Ac HBU.out lR n'.h
      clear I1 I2 M4 M0 J1 J2 inst i1 i2 m4 m0 j1 j2
      go_wp2
      go_roundw
      case rel=>exact⟨q+1,by omega,by go_num,fun j hj c t hc ht=>by
        by_cases ej:j=q
        ·subst ej
         rw[HX.out.1]at hc
         rw[HX.out.2]at ht
         rw[<-Option.some.inj hc,<-Option.some.inj ht]
        ·exact HTq.out j (by omega) c t hc ht,HBn.out⟩
      case measure=>simp[intOf];omega
     ·have hty':(cv.type==tv)=false:=by simpa using hty
      have hty2:(cv.type != tv)=true:=by simpa using hty
      have HN:Hid (¬BM p s):=fun e=>by
       have:=(e.cells k f r HD.out.2.2.1 HD.out.2.2.2.1).1
       rw[<-this,List.getElem?_map,HX.out.1]at HX
       exact hty (Option.some.inj HX.out.2)
      go_wp2_with fail
      refine Ak (by kernel_rfl) (by kernel_rfl) ?_
      repeat(go_big_quiet_step (fail))
      refine wpQuiet_nil ?_
      rintro w'' ⟨n',rfl⟩
      have HBn:Hid (Below U.heap.size U n'.u):=Ac HBU.out lR n'.h
      clear I1 I2 M4 M0 J1 J2 inst i1 i2 m4 m0 j1 j2
      go_wp2
      go_ret
      exact⟨.no HN.out,Ac HI2.out.1.bel lR HBn.out⟩
    ·have hqn:q=f.length:=by omega
     have HVA:Hid (Cu f r):=by
      refine⟨?_,HV2.out⟩
      apply List.ext_getElem?
      intro j
      by_cases hj:j<f.length
      ·have h1:f[j]?=some f[j]:=gE hj
       have h2:r[j]?=some (r[j]'(by have:=HLL.out;omega)):=gE (by have:=HLL.out;omega)
       rw[List.getElem?_map,h1,h2]
       exact congrArg some (HTq.out j (by omega) _ _ h1 h2)
      ·rw[List.getElem?_eq_none (by rw[List.length_map];omega),List.getElem?_eq_none (by have:=HLL.out;omega)]
     go_wp2
     go_roundw
     case rel=>exact⟨k+1,by omega,by go_num,fun j hj c t hc ht=>by
       by_cases ej:j=k
       ·subst ej
        rw[HD.out.2.2.1]at hc
        rw[HD.out.2.2.2.1]at ht
        rw[<-Option.some.inj hc,<-Option.some.inj ht]
        exact HVA.out
       ·exact HT.out j (by omega) c t hc ht,HI2.out.1.keep HBU.out⟩
     case measure=>simp[intOf];omega
  ·have hkn:k=3:=by omega
   have HCe:Hid (∀(i:Nat) c r,s.cells[i]?=some c->p.regions[i]?=some r->Cu c r):=fun i c r hc hr=>HT.out i (by have:=(gI.1 hc).1;have:=HNC.out;omega) c r hc hr
   clear HT
   go_wp2_with fail
   go_loopw [7,8] (fun b i wr=>∃(k:Nat) (bs:Int),k<=s.frames.length/\b=.int .i64 bs/\i=.int .i64 k/\Hid (BD p s.stack.length 0 s.frames↔BD p s.stack.length bs (s.frames.drop k))/\Hid (Ep w wr ⟨.slice b1 3 d1,vk,.slice b3 p.funcs.length d3,vt⟩ s ⟨.slice a1 3 c1,.slice a2 s.stack.length c2,.slice a3 s.frames.length c3⟩)) (fun _ i _=>s.frames.length-(intOf i).toNat)
   case atStart=>exact⟨0,0,by omega,rfl,rfl,by show _↔_;simp,HI⟩
   case round=>
    clear HI hkn hlt hk
    obtain⟨k,bs,hk,rfl,rfl,HB,HI⟩:=hrel
    have m6:=HI.out.sb.cell 6
    have m5:=HI.out.sb.cell 5
    have m2:=HI.out.pb.cell 2
    simp only[gA,gZ,gS]at m6 m5 m2
    by_cases hlt:k<s.frames.length
    ·obtain⟨⟨f,y⟩,hx⟩:∃x,ys[k]?=some x:=⟨_,gE (by rw[<-List.length_map (f:=Prod.fst),HF.out.1];exact hlt)⟩
     have hfx:=AO HF.out.1 hx
     have hrx:=HF.out.2.2 _ (mG hx)
     simp only[]at hrx hfx
     unfold Ju at hrx
     obtain⟨bf,df,rfl⟩:∃a c,y=.slice a f.locals.length c:=hrx.is_slice
     have hfl:f.locals.length<=1048576:=HS.out.1.frame f (mG hfx)
     rcases HF.out.2.1.2 with⟨e0,_⟩|⟨g,o,c,e1,hc1⟩
     ·omega
     simp only[sJ,true_and]at e1
     obtain⟨rfl,rfl⟩:=e1
     have i1:=Rd.elem Al hc1 k _ hx 0 _ rfl
     have i2:=Rd.elem Al hc1 k _ hx 1 _ rfl
     have i3:=Rd.elem Al hc1 k _ hx 2 _ rfl
     have i4:=Rd.elem Al hc1 k _ hx 3 _ rfl
     rw[<-HI.out.bel.cell (bL i1),Nat.add_zero]at i1
     rw[<-HI.out.bel.cell (bL i2)]at i2
     rw[<-HI.out.bel.cell (bL i3)]at i3
     rw[<-HI.out.bel.cell (bL i4)]at i4
     simp only[]at i1 i2 i3 i4
     have HD:=h3 (hrx.keep HI.out.bel lR) hfx hfl
     have HNo:Hid ((¬(Fp p s.stack.length f/\bs<=f.base))->¬BM p s):=fun hno e=>by
      have h1:=(IE p s.stack.length 0 s.frames).2 ⟨e.frames,e.bases⟩
      have h2:=(BD.drop HD.out.2.1).1 (HB.out.1 h1)
      exact hno ⟨h2.1,h2.2.1⟩
     clear hc1 hx hrx hfx
     have hkL:(k:Int)<(s.frames.length:Int):=by omega
     have hfs:p.funcs.length<=1048576:=HP.out.small.funcs
     have ne0:¬w.heap.size=wr.heap.size:=by have:=HI.out.pb.lt;omega
     have ne1:¬w.heap.size+1=wr.heap.size:=by have:=HI.out.sb.lt;omega
     have lt0:w.heap.size<wr.heap.size:=HI.out.pb.lt
     have lt1:w.heap.size+1<wr.heap.size:=HI.out.sb.lt
     by_cases n1:f.func<0
     ·have HN:Hid (¬BM p s):=HNo.out (fun e=>by have:=e.1.lo;omega)
      go_wp2
      go_ret
      exact⟨.no HN.out,Ac HI.out.bel lR (Aa _ _)⟩
     by_cases n2:(p.funcs.length:Int)<=f.func
     ·have HN:Hid (¬BM p s):=HNo.out (fun e=>by
       obtain⟨f',h1,_⟩:=e.1.locals
       have:=(gI.1 h1).1
       omega)
      go_wp2
      go_ret
      exact⟨.no HN.out,Ac HI.out.bel lR (Aa _ _)⟩
     by_cases n3:f.base<bs
     ·have HN:Hid (¬BM p s):=HNo.out (fun e=>by have:=e.2;omega)
      go_wp2
      go_ret
      exact⟨.no HN.out,Ac HI.out.bel lR (Aa _ _)⟩
     by_cases n4:(s.stack.length:Int)<f.base
     ·have HN:Hid (¬BM p s):=HNo.out (fun e=>by have:=e.1.base;omega)
      go_wp2
      go_ret
      exact⟨.no HN.out,Ac HI.out.bel lR (Aa _ _)⟩
     go_wp2_with fail
     have HI5:Hid (Ep w (wr.alloc (.cells #[.int .i64 f.func,.int .i64 f.at_,.int .i64 f.base,.slice bf f.locals.length df] 123)) _ s _/\Aq (wr.alloc (.cells #[.int .i64 f.func,.int .i64 f.at_,.int .i64 f.base,.slice bf f.locals.length df] 123)) wr.heap.size _ _/\Rd (wr.alloc (.cells #[.int .i64 f.func,.int .i64 f.at_,.int .i64 f.base,.slice bf f.locals.length df] 123)) 2 (.slice bf f.locals.length df) f.locals.length (f.locals.flatMap MC.cells)):=⟨HI.out.keep (Aa _ _),Aq.new _ _ _,HD.out.1.keep (Aa _ _) lR⟩
     refine(Dz (.slice bf f.locals.length df) f.locals _ HD.out.2.2 HI5.out.2.2).mono ?_
     rintro e u6 ⟨⟨bv,rfl,hbv⟩,bl6⟩
     have HI6:=h3 (HI5.out.1.keep bl6) (HI5.out.2.1.keep bl6) (HI5.out.2.2.keep bl6 lR)
     clear HI5 bl6 i1 i2 i3 i4 m6 m5 m2 HI
     cases bv
     ·have HN:Hid (¬BM p s):=HNo.out (fun e=>by
       obtain⟨f',_,h2⟩:=e.1.locals
       exact absurd (hbv.2 h2.2) Bool.false_ne_true)
      clear hbv
      go_wp2
      go_ret
      exact⟨.no HN.out,HI6.out.1.bel⟩
     have HV3:Hid (CO f.locals):=hbv.1 rfl
     clear hbv
     obtain⟨q,hqe⟩:∃q:Nat,f.func=(q:Int):=⟨f.func.toNat,by omega⟩
     have hqn:q<p.funcs.length:=by omega
     obtain⟨⟨fq,z⟩,hz⟩:∃x,qs[q]?=some x:=⟨_,gE (by rw[HP.out.fl];exact hqn)⟩
     have hfz:=AO HP.out.fm hz
     have hrz:=HP.out.fe _ (mG hz)
     simp only[]at hrz hfz
     obtain⟨zp,zl,zc⟩:=z
     obtain⟨bp,dp,ep⟩:∃a c,zp=.slice a fq.params.length c:=hrz.1.is_slice
     obtain⟨bl,dl,el⟩:∃a c,zl=.slice a fq.locals.length c:=hrz.2.1.is_slice
     subst ep el
     have HQf:Hid (p.funcs[q]?=some fq/\fq.small/\CK w _ fq/\f.func=(q:Int)):=⟨hfz,HP.out.small.func fq (mG hfz),hrz,hqe⟩
     rcases HP.out.fr.2 with⟨e0,_⟩|⟨gq,oq,cq,e1,hc1⟩
     ·omega
     simp only[sJ,true_and]at e1
     obtain⟨rfl,rfl⟩:=e1
     have k1:=Rd.elem Ah hc1 q _ hz 0 _ rfl
     have k2:=Rd.elem Ah hc1 q _ hz 1 _ rfl
     have k3:=Rd.elem Ah hc1 q _ hz 2 _ rfl
     have k4:=Rd.elem Ah hc1 q _ hz 3 _ rfl
     rw[<-HI6.out.1.bel.cell (bL k1),Nat.add_zero]at k1
     rw[<-HI6.out.1.bel.cell (bL k2)]at k2
     rw[<-HI6.out.1.bel.cell (bL k3)]at k3
     rw[<-HI6.out.1.bel.cell (bL k4)]at k4
     simp only[]at k1 k2 k3 k4
     have b0:=HI6.out.2.1.cell 0
     have b2:=HI6.out.2.1.cell 2
     have b4:=HI6.out.2.1.cell 3
     have m2:=HI6.out.1.pb.cell 2
     simp only[gA,gZ,gS]at b0 b2 b4 m2
     rw[hqe]at b0
     have hs1:fq.params.length<=1048576:=HQf.out.2.1.1
     have hs2:fq.locals.length<=1048576:=HQf.out.2.1.2.1
     clear hc1 hz hrz hfz n1 n2 hqe
     have hqL:(q:Int)<(p.funcs.length:Int):=by omega
     have inst:=Ae.some u6
     have K1:=fun n:Ae u6=>Ae.cell k1 n
     have K3:=fun n:Ae u6=>Ae.cell k3 n
     have B0:=fun n:Ae u6=>Ae.cell b0 n
     have M2:=fun n:Ae u6=>Ae.cell m2 n
     go_wp2_with fail
     refine Ak (by kernel_rfl) (by kernel_rfl) ?_
     repeat(go_big_quiet_step (fail))
     refine wpQuiet_nil ?_
     rintro w'' ⟨n',rfl⟩
     have HI7:=h3 (HI6.out.1.keep n'.h) (HI6.out.2.1.keep n'.h) (HI6.out.2.2.keep n'.h lR)
     rw[<-n'.h.cell (bL k1)]at k1
     rw[<-n'.h.cell (bL k2)]at k2
     rw[<-n'.h.cell (bL k3)]at k3
     rw[<-n'.h.cell (bL k4)]at k4
     rw[<-n'.h.cell (bL b0)]at b0
     rw[<-n'.h.cell (bL b4)]at b4
     rw[<-n'.h.cell (bL m2)]at m2
     clear K1 K3 B0 M2 inst HI6 b2
     generalize n'.u=U at HI7 k1 k2 k3 k4 b0 b4 m2⊢
     by_cases hnl:f.locals.length=fq.params.length+fq.locals.length
     rotate_left
     ·have HN:Hid (¬BM p s):=HNo.out (fun e=>by
       obtain⟨f',h1,h2⟩:=e.1.locals
       rw[HQf.out.2.2.2,Int.toNat_natCast,HQf.out.1]at h1
       obtain rfl:=Option.some.inj h1
       have:=congrArg List.length h2.1
       rw[List.length_map,List.length_append]at this
       exact hnl this)
      have hnl':((f.locals.length:Int)==(fq.params.length:Int)+(fq.locals.length:Int))=false:=by simp;omega
      have hnl2:((f.locals.length:Int) != (fq.params.length:Int)+(fq.locals.length:Int))=true:=by simp;omega
      have hnl3:¬(f.locals.length:Int)=(fq.params.length:Int)+(fq.locals.length:Int):=by omega
      go_wp2
      go_ret
      exact⟨.no HN.out,HI7.out.1.bel⟩
     have HNL:=AM hnl
     have hnl3:(f.locals.length:Int)=(fq.params.length:Int)+(fq.locals.length:Int):=by omega
     go_wp2_with fail
     clear hnl
     go_loopw [11] (fun i wr'=>∃q2:Nat,q2<=f.locals.length/\i=.int .i64 q2/\Hid (∀j,j<q2->∀c,f.locals[j]?=some c->c.type=At fq j)/\Below U.heap.size U wr') (fun i _=>f.locals.length-(intOf i).toNat)
     case atStart=>exact⟨0,by omega,rfl,fun j hj=>by omega,Below.refl _ _⟩
     case round=>
      obtain⟨q2,hq2,rfl,HTq,hbU⟩:=hrel
      have HBU:Hid (Below U.heap.size U wr):=hbU
      have HWU:Hid (Below w.heap.size w wr):=Ac HI7.out.1.bel lR hbU
      rw[<-hbU.cell (bL k1)]at k1
      rw[<-hbU.cell (bL k2)]at k2
      rw[<-hbU.cell (bL k3)]at k3
      rw[<-hbU.cell (bL k4)]at k4
      rw[<-hbU.cell (bL b0)]at b0
      rw[<-hbU.cell (bL b4)]at b4
      rw[<-hbU.cell (bL m2)]at m2
      clear hbU
      by_cases hlt2:q2<f.locals.length
      ·have hlt3:(q2:Int)<(fq.params.length:Int)+(fq.locals.length:Int):=by omega
       have hlt4:(q2:Int)<(f.locals.length:Int):=by omega
       obtain⟨cv,hcv⟩:∃x,f.locals[q2]?=some x:=⟨_,gE hlt2⟩
       rcases HI7.out.2.2.2 with⟨e0,_⟩|⟨gf,of,cf,e1,hc1⟩
       ·omega
       simp only[sJ,true_and]at e1
       obtain⟨rfl,rfl⟩:=e1
       have j1:=Rd.elem MC.cells_length hc1 q2 _ hcv 0 _ rfl
       rw[<-HBU.out.cell (bL j1)]at j1
       rw[Nat.add_zero]at j1
       have HX:Hid (f.locals[q2]?=some cv/\Dn (q2:Int)):=⟨hcv,by simp[Dn,Lit.wf,IntKind.min,IntKind.max,IntKind.signed,IntKind.bits];omega⟩
       clear hc1 hcv
       have inst:=Ae.some wr
       have K1:=fun n:Ae wr=>Ae.cell k1 n
       have K2:=fun n:Ae wr=>Ae.cell k2 n
       have K3:=fun n:Ae wr=>Ae.cell k3 n
       have K4:=fun n:Ae wr=>Ae.cell k4 n
       have B0:=fun n:Ae wr=>Ae.cell b0 n
       have B4:=fun n:Ae wr=>Ae.cell b4 n
       have M2:=fun n:Ae wr=>Ae.cell m2 n
       have J1:=fun n:Ae wr=>Ae.cell j1 n
       by_cases hty:cv.type=At fq q2
       ·have hty':(cv.type==At fq q2)=true:=by simpa using hty
        have hty2:(cv.type != At fq q2)=false:=by simpa using hty
        have HTy:Hid (cv.type=At fq q2):=hty
        clear hty
        go_wp2_with fail
        refine Ak (by kernel_rfl) (by kernel_rfl) ?_
        repeat(go_big_quiet_step ((go_at_call 74;rename_i n';exact(Co ⟨.slice bp fq.params.length dp,.slice bl fq.locals.length dl,zc⟩ fq q2 n'.u HQf.out.2.1 HX.out.2 (HQf.out.2.2.1.keep (Ac HWU.out lR n'.h) lR)).mono fun e w'' h=>⟨h.1,⟨⟨w'',Ac n'.h lR h.2⟩,rfl⟩⟩)))
        refine wpQuiet_nil ?_
        rintro w'' ⟨n',rfl⟩
        have HBn:Hid (Below U.heap.size U n'.u):=Ac HBU.out lR n'.h
        clear K1 K2 K3 K4 B0 B4 M2 J1 inst k1 k2 k3 k4 b0 b4 m2 j1
        go_wp2
        go_roundw
        case rel=>exact⟨q2+1,by omega,by go_num,fun j hj c hc=>by
          by_cases ej:j=q2
          ·subst ej
           rw[HX.out.1]at hc
           rw[<-Option.some.inj hc]
           exact HTy.out
          ·exact HTq.out j (by omega) c hc,HBn.out⟩
        case measure=>simp[intOf];omega
       ·have hty':(cv.type==At fq q2)=false:=by simpa using hty
        have hty2:(cv.type != At fq q2)=true:=by simpa using hty
        have HN:Hid (¬BM p s):=HNo.out (fun e=>by
         obtain⟨f',h1,h2⟩:=e.1.locals
         rw[HQf.out.2.2.2,Int.toNat_natCast,HQf.out.1]at h1
         obtain rfl:=Option.some.inj h1
         refine hty ?_
         unfold At
         rw[if_neg (by omega),<-h2.1,Int.toNat_natCast,List.getD_eq_getElem?_getD,List.getElem?_map,HX.out.1]
         rfl)
        clear hty
        go_wp2_with fail
        refine Ak (by kernel_rfl) (by kernel_rfl) ?_
        repeat(go_big_quiet_step ((go_at_call 74;rename_i n';exact(Co ⟨.slice bp fq.params.length dp,.slice bl fq.locals.length dl,zc⟩ fq q2 n'.u HQf.out.2.1 HX.out.2 (HQf.out.2.2.1.keep (Ac HWU.out lR n'.h) lR)).mono fun e w'' h=>⟨h.1,⟨⟨w'',Ac n'.h lR h.2⟩,rfl⟩⟩)))
        refine wpQuiet_nil ?_
        rintro w'' ⟨n',rfl⟩
        have HBn:Hid (Below w.heap.size w n'.u):=Ac HWU.out lR n'.h
        clear K1 K2 K3 K4 B0 B4 M2 J1 inst k1 k2 k3 k4 b0 b4 m2 j1
        go_wp2
        go_ret
        exact⟨.no HN.out,HBn.out⟩
      ·have hq2n:q2=f.locals.length:=by omega
       have hlt3:¬(q2:Int)<(fq.params.length:Int)+(fq.locals.length:Int):=by omega
       have hlt4:¬(q2:Int)<(f.locals.length:Int):=by omega
       have HB2:Hid (BD p s.stack.length 0 s.frames↔BD p s.stack.length f.base (s.frames.drop (k+1))):=by
        have hva:Cu f.locals (fq.params++fq.locals):=by
         refine⟨?_,HV3.out⟩
         apply List.ext_getElem?
         intro j
         by_cases hj:j<f.locals.length
         ·have h1:f.locals[j]?=some f.locals[j]:=gE hj
          have h2:(fq.params++fq.locals)[j]?=some ((fq.params++fq.locals)[j]'(by rw[List.length_append,<-HNL.out];exact hj)):=gE _
          have h3:=HTq.out j (by omega) _ h1
          unfold At at h3
          rw[if_neg (by omega),Int.toNat_natCast,List.getD_eq_getElem?_getD,h2]at h3
          rw[List.getElem?_map,h1,h2]
          exact congrArg some h3
         ·rw[List.getElem?_eq_none (by rw[List.length_map];omega),List.getElem?_eq_none (by rw[List.length_append,<-HNL.out];omega)]
        have hfo:Fp p s.stack.length f:=⟨by have:=HQf.out.2.2.2;omega,⟨fq,by rw[HQf.out.2.2.2,Int.toNat_natCast];exact HQf.out.1,hva⟩,by omega⟩
        refine HB.out.trans ((BD.drop HD.out.2.1).trans ⟨fun e=>e.2.2,fun e=>⟨hfo,by omega,e⟩⟩)
       go_wp2
       go_roundw
       case rel=>
        exact⟨k+1,_,by omega,rfl,by go_num,HB2,HI7.out.1.keep HBU.out⟩
       case measure=>simp[intOf];omega
    ·have hkn:k=s.frames.length:=by omega
     have HY:Hid (BM p s):=by
      refine(KG p s).2 ⟨HQ.out,HG.out.1,HG.out.2.1,(Ki _ _).2 ⟨by rw[HNC.out,HNR.out],HCe.out⟩,⟨HG.out.2.2.1,HV.out⟩,HG.out.2.2.2.1,HG.out.2.2.2.2,?_⟩
      exact HB.out.2 (BD.end (by omega))
     go_wp2
     go_ret
     exact⟨.yes HY.out,HI.out.bel⟩
end Go.Proofs.YtlejplpkomddeaaGreat
