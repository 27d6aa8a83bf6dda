import Derived.Test.YtlejplpkomddeaaGreatR0
import Derived.Test.YtlejplpkomddeaaGreatR11
import Derived.Test.YtlejplpkomddeaaGreatR9
import Derived.Deep.RegionLaw
import Derived.Test.YtlejplpkomddeaaGreatR10
import Derived.Test.YtlejplpkomddeaaGreatR8
import Derived.Test.YtlejplpkomddeaaGreatR4
import Derived.Test.YtlejplpkomddeaaGreatR1
import Derived.Test.YtlejplpkomddeaaGreatR6
namespace Go.Proofs.YtlejplpkomddeaaGreat
open Go.ChangeShapes Go.WideShapes Go.ChangeAt Go.RowKit
set_option linter.unusedVariables false
set_option maxHeartbeats 8000000
set_option maxRecDepth 100000
theorem Ms{u:World}{B b k n i:Nat}{e t:TypeId}{s x:Value}{xs:List Value}{cur:Array Value}(h:u.ownsRow B e k s n xs)(hb:Ap u b cur t)(hne:e≠t):(u.setCell ⟨b,i,none⟩ x).ownsRow B e k s n xs:=ownsRow_setCell_other h (a:=⟨b,i,none⟩) (fun e=>AJ h hb hne b e rfl) _
def Ek(p:MP)(f:MF):Prop:=∀k,k<f.code.length->∀x,f.code[k]?=some x->AN p f x
def Ct(p:MP):Prop:=∀j,j<p.funcs.length->∀f,p.funcs[j]?=some f->Ek p f
def A4(p:MP)(n:Int):Prop:=
 (n=1/\¬AB p.regions)\/(n=2/\AB p.regions/\¬AV p.consts)\/(n=3/\AB p.regions/\AV p.consts/\¬AY p.funcs)\/
 (n=4/\AB p.regions/\AV p.consts/\AY p.funcs/\¬Ct p)\/(n=5/\AB p.regions/\AV p.consts/\AY p.funcs/\Ct p/\¬Bi p)\/
 (n=0/\AB p.regions/\AV p.consts/\AY p.funcs/\Ct p/\Bi p)
theorem A4.one{p:MP}{n m:Int}(h:A4 p n)(h':A4 p m):n=m:=by
 unfold A4 at h h';by_cases q1:AB p.regions<;>by_cases q2:AV p.consts<;>by_cases q3:AY p.funcs<;>by_cases q4:Ct p<;>by_cases q5:Bi p<;>simp[q1,q2,q3,q4,q5]at h h'<;>omega
def Bv(e:Ending)(p:MP):Prop:=∃n,e=.returned (.int .i64 n)/\A4 p n
theorem Bv.f1{p:MP}(h:¬AB p.regions):Bv (.returned (.int .i64 1)) p:=⟨_,rfl,.inl ⟨rfl,h⟩⟩
theorem Bv.f2{p:MP}(h1:AB p.regions)(h:¬AV p.consts):Bv (.returned (.int .i64 2)) p:=⟨_,rfl,.inr (.inl ⟨rfl,h1,h⟩)⟩
theorem Bv.f3{p:MP}(h1:AB p.regions/\AV p.consts)(h:¬AY p.funcs):Bv (.returned (.int .i64 3)) p:=⟨_,rfl,.inr (.inr (.inl ⟨rfl,h1.1,h1.2,h⟩))⟩
theorem Bv.f4{p:MP}(h1:AB p.regions/\AV p.consts)(h2:AY p.funcs)(h:¬Ct p):Bv (.returned (.int .i64 4)) p:=⟨_,rfl,.inr (.inr (.inr (.inl ⟨rfl,h1.1,h1.2,h2,h⟩)))⟩
theorem Bv.f5{p:MP}(h1:AB p.regions/\AV p.consts)(h2:AY p.funcs)(h3:Ct p)(h:¬Bi p):Bv (.returned (.int .i64 5)) p:=⟨_,rfl,.inr (.inr (.inr (.inr (.inl ⟨rfl,h1.1,h1.2,h2,h3,h⟩))))⟩
theorem Bv.f0{p:MP}(h1:AB p.regions/\AV p.consts)(h2:AY p.funcs)(h3:Ct p)(h:Bi p):Bv (.returned (.int .i64 0)) p:=⟨_,rfl,.inr (.inr (.inr (.inr (.inr ⟨rfl,h1.1,h1.2,h2,h3,h⟩))))⟩
theorem KM{fs:List MF}{n:Nat}(hl:fs.length=n)(h0:¬n=0)(h1:n<=32)(h:∀j,j<n->∀f,fs[j]?=some f->Ce f (decide (j=0))):AY fs:=by
 refine⟨by rw[hl];exact h0,by rw[hl];exact h1,fun j hj f hf=>(h j (by omega) f hf).1,fun f hf=>(h 0 (by omega) f hf).2 (by simp)⟩
theorem Lk{fs:List MF}{k:Nat}{f:MF}(h:AY fs)(hf:fs[k]?=some f):Ce f (decide (k=0)):=by
 refine⟨h.2.2.1 k (gI.1 hf).1 f hf,fun e=> ?_⟩;obtain rfl:k=0:=by simpa using e
 exact h.2.2.2 f hf
theorem Ot{fs:List MF}{k:Nat}{f:MF}(h1:fs[k]?=some f)(hx:Ce f (decide (k=0)))(h:∀j,j<k->∀f,fs[j]?=some f->Ce f (decide (j=0))):∀j,j<k+1->∀f,fs[j]?=some f->Ce f (decide (j=0)):=by
 intro j hj g hg;by_cases e:j=k
 ·subst e
  rw[h1]at hg;exact(Option.some.inj hg)▸hx
 ·exact h j (by omega) g hg
structure GD(w u:World)(a b c d:Value):Prop where
 bel:Below w.heap.size w u
 prog:CY u w.heap.size a b c d
theorem GD.keep{w u u':World}{a b c d:Value}(h:GD w u a b c d)(hb:Below u.heap.size u u'):GD w u' a b c d:=⟨Ab h.bel lR hb,h.prog.keep hb⟩
theorem GD.of(w:World)(a b c d:Value)(t:TypeId):GD w (w.alloc (.cells #[a,b,c,d] t)) a b c d:=⟨Aa _ _,CY.new _ _ _ _ _ _⟩
structure Pg(w:World)(vr vk vf vt:Value)(p:MP)(xs:List (List Int×Value))(ys:List (MF×VF)):Prop where
 small:p.small
 wf:p.wf
 rd:Cx w ⟨vr,vk,vf,vt⟩ p
 rr:Rd w 1 vr p.regions.length (xs.flatMap Cu)
 rm:xs.map Prod.fst=p.regions
 re:∀x∈xs,Rd w 1 x.2 x.1.length (x.1.flatMap Ae)
 rl:xs.length=p.regions.length
 fr:Rd w 4 vf p.funcs.length (ys.flatMap BK)
 fm:ys.map Prod.fst=p.funcs
 fe:∀x∈ys,CP w x.2 x.1
 fl:ys.length=p.funcs.length
theorem Pg.of{w:World}{v:VP}{p:MP}(hs:p.small)(hw:p.wf)(h:Cx w v p):∃xs ys,Pg w v.r v.k v.f v.t p xs ys:=by
 obtain⟨xs,h1,h2,h3⟩:=h.regions;obtain⟨ys,k1,k2,k3⟩:=h.funcs;exact⟨xs,ys,hs,hw,h,h2,h1,h3,by rw[<-h1];simp,k2,k1,k3,by rw[<-k1];simp⟩
theorem CZ (v:VP)(p:MP)(w:World)(hs:p.small)(hw:p.wf)(h:Cx w v p):
 Calls Tryz.prog 72 #[.agg #[v.r,v.k,v.f,v.t]] w fun e w'=>Bv e p/\Below w.heap.size w w':=by
 obtain⟨xs,ys,hP⟩:=Pg.of hs hw h
 obtain⟨vr,vk,vf,vt⟩:=v
 simp only[]at hP
 obtain⟨r1,c1,e1⟩:=hP.rr.is_slice
 obtain⟨r3,c3,e3⟩:=hP.fr.is_slice
 have hm:=hs.funcs
 subst e1 e3
 clear hs hw h
 have HP:Hid _:=hP
 clear hP
 have HI:Hid _:=GD.of w (.slice r1 p.regions.length c1) vk (.slice r3 p.funcs.length c3) vt 45
 by_cases q0:p.regions.length=3
 ·generalize hN:p.regions.length=n at*
  subst q0
  generalize hM:p.funcs.length=m at*
  have HL:=h2 hN hM
  have HP:=AS HP
  clear hN hM
  go_enter Tryz.func72,Tryz.ntmps72
  go_wp2
  go_loopw [3] (fun i wr=>∃k:Nat,k<=3/\i=.int .i64 k/\Hid (∀j,j<k->∀r,p.regions[j]?=some r->ER r)/\Hid (GD w wr (.slice r1 3 c1) vk (.slice r3 m c3) vt)) (fun i _=>3-(intOf i).toNat)
  case atStart=>exact⟨0,by omega,rfl,fun j hj=>by omega,HI⟩
  case round=>
   clear HI
   obtain⟨k,hk,rfl,HT,HI⟩:=hrel
   obtain⟨p0,p1,p2,p3⟩:=HI.out.prog
   by_cases hlt:k<3
   ·obtain⟨⟨f,v⟩,hx⟩:∃x,xs[k]?=some x:=⟨_,gE (by rw[HP.out.rl,HL.out.1];exact hlt)⟩
    have e1:=Bh HP.out.rm hx
    have hf:=(HP.out.re _ (mG hx)).keep HI.out.bel lR
    have HX:Hid (Rd wr 1 v f.length (f.flatMap Ae)/\f.length<=1048576/\p.regions[k]?=some f):=⟨hf,HP.out.small.region _ (mG e1),e1⟩
    clear e1
    rcases HP.out.rr.2 with⟨e0,_⟩|⟨b,o,c,e1,hc1⟩
    ·rw[HL.out.1]at e0
     omega
    ·rw[HL.out.1]at e1
     simp only[sJ,true_and]at e1
     obtain⟨rfl,rfl⟩:=e1
     have i0:=Rd.elem AO hc1 k _ hx 0 _ rfl
     rw[<-HI.out.bel.cell (bL i0)]at i0
     rw[Nat.mul_one,Nat.add_zero]at i0
     clear hc1 hx
     simp only[]at i0 hf
     obtain⟨av,cv,ev⟩:=hf.is_slice
     subst ev
     clear hf
     have hz:=HX.out.2.1
     by_cases q1:256<f.length
     ·have HN:Hid (¬AB p.regions):=fun e=>absurd (e.2 k (by rw[HL.out.1];exact hlt) f HX.out.2.2).1 (by omega)
      have q1':(256:Int)<(f.length:Int):=by omega
      generalize f.length=z at*
      go_wp2
      go_ret
      exact⟨.f1 HN.out,HI.out.bel⟩
     ·have q1':¬(256:Int)<(f.length:Int):=by omega
      go_wp2_with fail
      refine(Fq _ f _ HX.out.2.1 HX.out.1).mono ?_
      rintro e u ⟨rfl,rfl⟩
      cases t1:f.all CE
      ·have HN:Hid (¬AB p.regions):=fun e=>by have:=(e.2 k (by rw[HL.out.1];exact hlt) f HX.out.2.2).2;simp[t1]at this
       clear t1
       go_wp2
       go_ret
       exact⟨.f1 HN.out,HI.out.bel⟩
      ·have HN:Hid (ER f):=⟨by omega,t1⟩
       clear t1
       go_wp2
       go_roundw
       case rel=>exact⟨k+1,by omega,by go_num,Cz HX.out.2.2 HN.out HT.out,HI⟩
       case measure=>simp[intOf];omega
   ·have hkn:3=k:=by omega
    subst hkn
    have HR:Hid (AB p.regions):=⟨HL.out.1,by rw[HL.out.1];exact HT.out⟩
    clear HT hlt hk
    go_wp2_with fail
    refine(Jo ⟨.slice r1 3 c1,vk,.slice r3 m c3,vt⟩ p _ HP.out.small (HP.out.rd.keep HI.out.bel lR)).mono ?_
    rintro e u1 ⟨⟨b1,rfl,hb1⟩,bl1⟩
    have HI1:=AS (HI.out.keep bl1)
    clear bl1 p0 p1 p2 p3 HI
    cases b1
    ·have HN:Hid (¬AV p.consts):=fun e=>by simp[e]at hb1
     clear hb1
     go_wp2
     go_ret
     exact⟨.f2 HR.out HN.out,HI1.out.bel⟩
    have HRC:=h2 HR.out (hb1.1 rfl)
    clear hb1 HR
    obtain⟨p0,p1,p2,p3⟩:=HI1.out.prog
    by_cases q2:m=0
    ·have HN:Hid (¬AY p.funcs):=fun e=>e.1 (HL.out.2.trans q2)
     subst q2
     go_wp2
     go_ret
     exact⟨.f3 HRC.out HN.out,HI1.out.bel⟩
    have q2':((m:Int)==0)=false:=by simpa using q2
    by_cases q3:32<m
    ·have HN:Hid (¬AY p.funcs):=fun e=>absurd e.2.1 (by rw[HL.out.2];omega)
     have q3':(32:Int)<(m:Int):=by omega
     go_wp2
     go_ret
     exact⟨.f3 HRC.out HN.out,HI1.out.bel⟩
    have q3':¬(32:Int)<(m:Int):=by omega
    go_wp2
    clear p0 p1 p2 p3 q2' q3'
    go_loopw [4] (fun i wr=>∃k:Nat,k<=m/\i=.int .i64 k/\Hid (∀j,j<k->∀f,p.funcs[j]?=some f->Ce f (decide (j=0)))/\Hid (GD w wr (.slice r1 3 c1) vk (.slice r3 m c3) vt)) (fun i _=>m-(intOf i).toNat)
    case atStart=>exact⟨0,by omega,rfl,fun j hj=>by omega,HI1⟩
    case round=>
     clear HI1
     obtain⟨k,hk,rfl,HT,HI⟩:=hrel
     obtain⟨p0,p1,p2,p3⟩:=HI.out.prog
     by_cases hlt:k<m
     ·obtain⟨⟨f,v⟩,hx⟩:∃x,ys[k]?=some x:=⟨_,gE (by rw[HP.out.fl,HL.out.2];exact hlt)⟩
      have e1:=Bh HP.out.fm hx
      have HX:Hid (CP wr v f/\f.small/\p.funcs[k]?=some f):=⟨(HP.out.fe _ (mG hx)).keep HI.out.bel lR,HP.out.small.func _ (mG e1),e1⟩
      clear e1
      rcases HP.out.fr.2 with⟨e0,_⟩|⟨b,o,c,e1,hc1⟩
      ·rw[HL.out.2]at e0
       omega
      rw[HL.out.2]at e1
      simp only[sJ,true_and]at e1
      obtain⟨rfl,rfl⟩:=e1
      have i0:=Rd.elem Ai hc1 k _ hx 0 _ rfl
      have i1:=Rd.elem Ai hc1 k _ hx 1 _ rfl
      have i2:=Rd.elem Ai hc1 k _ hx 2 _ rfl
      have i3:=Rd.elem Ai hc1 k _ hx 3 _ rfl
      rw[<-HI.out.bel.cell (bL i0),Nat.add_zero]at i0
      rw[<-HI.out.bel.cell (bL i1)]at i1
      rw[<-HI.out.bel.cell (bL i2)]at i2
      rw[<-HI.out.bel.cell (bL i3)]at i3
      clear hc1 hx
      simp only[]at i0 i1 i2 i3
      go_wp2_with fail
      refine(Lv v f ((k:Int)==0) _ HX.out.2.1 HX.out.1).mono ?_
      rintro e u2 ⟨⟨b2,rfl,hb2⟩,bl2⟩
      have HI2:=AS (HI.out.keep bl2)
      have hk0:((k:Int)==0)=decide (k=0):=by
       by_cases e:k=0
       ·subst e
        rfl
       ·rw[decide_eq_false e]
        simpa using e
      rw[hk0]at hb2
      clear bl2 HI p0 p1 p2 p3 i0 i1 i2 i3 hk0
      cases b2
      ·have HN:Hid (¬AY p.funcs):=fun e=>by simp[Lk e HX.out.2.2]at hb2
       clear hb2
       go_wp2
       go_ret
       exact⟨.f3 HRC.out HN.out,HI2.out.bel⟩
      ·have HC:=AS (hb2.1 rfl)
       clear hb2
       go_wp2
       go_roundw
       case rel=>exact⟨k+1,by omega,by go_num,Ot HX.out.2.2 HC.out HT.out,HI2⟩
       case measure=>simp[intOf];omega
     ·have hkn:m=k:=by omega
      subst hkn
      have HFo:Hid (AY p.funcs):=KM HL.out.2 q2 (by omega) HT.out
      clear HT hlt hk
      go_wp2
      clear p0 p1 p2 p3
      go_loopw [5,6] (fun i kk wr=>∃k:Nat,k<=m/\i=.int .i64 k/\Hid (∀j,j<k->∀f,p.funcs[j]?=some f->Ek p f)/\Hid (GD w wr (.slice r1 3 c1) vk (.slice r3 m c3) vt)) (fun i _ _=>m-(intOf i).toNat)
      case atStart=>exact⟨0,by omega,rfl,fun j hj=>by omega,HI⟩
      case round=>
       clear HI
       obtain⟨k,hk,rfl,HT,HI⟩:=hrel
       obtain⟨p0,p1,p2,p3⟩:=HI.out.prog
       by_cases hlt:k<m
       ·obtain⟨⟨f,v⟩,hx⟩:∃x,ys[k]?=some x:=⟨_,gE (by rw[HP.out.fl,HL.out.2];exact hlt)⟩
        have e1:=Bh HP.out.fm hx
        have HX:Hid (CP w v f/\f.small/\p.funcs[k]?=some f/\f.wf):=⟨HP.out.fe _ (mG hx),HP.out.small.func _ (mG e1),e1,HP.out.wf.funcs _ (mG e1)⟩
        clear e1
        rcases HP.out.fr.2 with⟨e0,_⟩|⟨b,o,c,e1,hc1⟩
        ·rw[HL.out.2]at e0
         omega
        rw[HL.out.2]at e1
        simp only[sJ,true_and]at e1
        obtain⟨rfl,rfl⟩:=e1
        have HCF:Hid (w.cell? ⟨b,o+k*4,none⟩=some v.p/\w.cell? ⟨b,o+k*4+1,none⟩=some (.int .i64 f.result)/\w.cell? ⟨b,o+k*4+2,none⟩=some v.l/\w.cell? ⟨b,o+k*4+3,none⟩=some v.c):=⟨Rd.elem Ai hc1 k _ hx 0 _ rfl,Rd.elem Ai hc1 k _ hx 1 _ rfl,Rd.elem Ai hc1 k _ hx 2 _ rfl,Rd.elem Ai hc1 k _ hx 3 _ rfl⟩
        clear hc1 hx
        obtain⟨ac,cc,ec⟩:=HX.out.1.2.2.is_slice
        obtain⟨vp,vl,vc⟩:=v
        simp only[]at ec
        subst ec
        have hz:=HX.out.2.1.2.2
        generalize hZ:f.code.length=z at*
        have HZ:Hid (f.code.length=z):=hZ
        clear hZ
        have i3:=HCF.out.2.2.2
        rw[<-HI.out.bel.cell (bL i3)]at i3
        simp only[]at i3
        go_wp2
        clear p0 p1 p2 p3 i3
        go_loopw [6] (fun i wr=>∃q:Nat,q<=z/\i=.int .i64 q/\Hid (∀j,j<q->∀x,f.code[j]?=some x->AN p f x)/\Hid (GD w wr (.slice r1 3 c1) vk (.slice (some ⟨b,o,none⟩) m c3) vt)) (fun i _=>z-(intOf i).toNat)
        case atStart=>exact⟨0,by omega,rfl,fun j hj=>by omega,HI⟩
        case round=>
         clear HI
         obtain⟨q,hq,rfl,HTT,HI⟩:=hrel
         obtain⟨p0,p1,p2,p3⟩:=HI.out.prog
         obtain⟨i0,i1,i2,i3⟩:=HCF.out
         rw[<-HI.out.bel.cell (bL i0)]at i0
         rw[<-HI.out.bel.cell (bL i1)]at i1
         rw[<-HI.out.bel.cell (bL i2)]at i2
         rw[<-HI.out.bel.cell (bL i3)]at i3
         by_cases hlq:q<z
         ·obtain⟨x,hx⟩:∃x,f.code[q]?=some x:=⟨_,gE (by rw[HZ.out];exact hlq)⟩
          have hxw:=HX.out.2.2.2.code x (mG hx)
          rcases HX.out.1.2.2.2 with⟨e0,_⟩|⟨b',o',c',e1,hc2⟩
          ·rw[HZ.out]at e0
           omega
          rw[HZ.out]at e1
          simp only[sJ,true_and]at e1
          obtain⟨rfl,rfl⟩:=e1
          have j0:=Rd.elem MI.cells_length hc2 q x hx 0 _ rfl
          have j1:=Rd.elem MI.cells_length hc2 q x hx 1 _ rfl
          have j2:=Rd.elem MI.cells_length hc2 q x hx 2 _ rfl
          have j3:=Rd.elem MI.cells_length hc2 q x hx 3 _ rfl
          rw[<-HI.out.bel.cell (bL j0),Nat.add_zero]at j0
          rw[<-HI.out.bel.cell (bL j1)]at j1
          rw[<-HI.out.bel.cell (bL j2)]at j2
          rw[<-HI.out.bel.cell (bL j3)]at j3
          have HXX:=h2 hx hxw
          clear hc2 hx hxw
          obtain⟨xo,xa,xb,xc⟩:=x
          simp only[]at j0 j1 j2 j3
          have inst:=Aj.some wr
          have P0:=fun n:Aj wr=>Aj.cell p0 n
          have P1:=fun n:Aj wr=>Aj.cell p1 n
          have P2:=fun n:Aj wr=>Aj.cell p2 n
          have P3:=fun n:Aj wr=>Aj.cell p3 n
          have I0:=fun n:Aj wr=>Aj.cell i0 n
          have I1:=fun n:Aj wr=>Aj.cell i1 n
          have I2:=fun n:Aj wr=>Aj.cell i2 n
          have I3:=fun n:Aj wr=>Aj.cell i3 n
          have J0:=fun n:Aj wr=>Aj.cell j0 n
          have J1:=fun n:Aj wr=>Aj.cell j1 n
          have J2:=fun n:Aj wr=>Aj.cell j2 n
          have J3:=fun n:Aj wr=>Aj.cell j3 n
          by_cases hok:AN p f ⟨xo,xa,xb,xc⟩
          ·have HOK:=AS hok
           clear hok
           go_wp2_with fail
           refine Am (by kernel_rfl) (by kernel_rfl) ?_
           repeat(go_big_quiet_step ((go_at_call 120;rename_i n;exact(GO ⟨.slice r1 3 c1,vk,.slice (some ⟨b,o,none⟩) m c3,vt⟩ p ⟨vp,vl,.slice (some ⟨b',o',none⟩) z cc⟩ f xo xa xb xc n.u HP.out.small HL.out.1 HX.out.2.1 HXX.out.2.2.1 HXX.out.2.2.2.1 HXX.out.2.2.2.2 (HP.out.rd.keep (Ab HI.out.bel lR n.h) lR) (HX.out.1.keep (Ab HI.out.bel lR n.h) lR)).mono fun e w'' h=>⟨h.1.true HOK.out,⟨⟨w'',Ab n.h lR h.2⟩,rfl⟩⟩)))
           refine wpQuiet_nil ?_
           rintro w'' ⟨n,rfl⟩
           have HI4:=AS (HI.out.keep n.h)
           clear HI p0 p1 p2 p3 i0 i1 i2 i3 j0 j1 j2 j3 P0 P1 P2 P3 I0 I1 I2 I3 J0 J1 J2 J3 inst
           go_wp2
           go_roundw
           case rel=>exact⟨q+1,by omega,by go_num,Cz HXX.out.1 HOK.out HTT.out,HI4⟩
           case measure=>simp[intOf];omega
          ·have HOK:=AS hok
           have HN:Hid (¬Ct p):=fun e=>hok (e k (by rw[HL.out.2];exact hlt) f HX.out.2.2.1 q (by rw[HZ.out];exact hlq) _ HXX.out.1)
           clear hok
           go_wp2_with fail
           refine Am (by kernel_rfl) (by kernel_rfl) ?_
           repeat(go_big_quiet_step ((go_at_call 120;rename_i n;exact(GO ⟨.slice r1 3 c1,vk,.slice (some ⟨b,o,none⟩) m c3,vt⟩ p ⟨vp,vl,.slice (some ⟨b',o',none⟩) z cc⟩ f xo xa xb xc n.u HP.out.small HL.out.1 HX.out.2.1 HXX.out.2.2.1 HXX.out.2.2.2.1 HXX.out.2.2.2.2 (HP.out.rd.keep (Ab HI.out.bel lR n.h) lR) (HX.out.1.keep (Ab HI.out.bel lR n.h) lR)).mono fun e w'' h=>⟨h.1.false HOK.out,⟨⟨w'',Ab n.h lR h.2⟩,rfl⟩⟩)))
           refine wpQuiet_nil ?_
           rintro w'' ⟨n,rfl⟩
           have HI4:=AS (HI.out.keep n.h)
           clear HI p0 p1 p2 p3 i0 i1 i2 i3 j0 j1 j2 j3 P0 P1 P2 P3 I0 I1 I2 I3 J0 J1 J2 J3 inst
           go_wp2
           go_ret
           exact⟨.f4 HRC.out HFo.out HN.out,HI4.out.bel⟩
         ·have hqz:z=q:=by omega
          subst hqz
          have HFC:Hid (Ek p f):=fun j hj x hx=>HTT.out j (by rw[<-HZ.out];exact hj) x hx
          go_wp2
          go_roundw
          case rel=>exact⟨k+1,by omega,by go_num,Cz HX.out.2.2.1 HFC.out HT.out,HI⟩
          case measure=>simp[intOf];omega
       ·have hkn:m=k:=by omega
        subst hkn
        have HCo:Hid (Ct p):=fun j hj f hf=>HT.out j (by rw[<-HL.out.2];exact hj) f hf
        go_wp2_with fail
        refine(Kk ⟨.slice r1 3 c1,vk,.slice r3 m c3,vt⟩ p _ HP.out.small HP.out.wf (HP.out.rd.keep HI.out.bel lR)).mono ?_
        rintro e u5 ⟨⟨b5,rfl,hb5⟩,bl5⟩
        have HI5:Hid (Below w.heap.size w u5):=Ab HI.out.bel lR bl5
        clear bl5 p0 p1 p2 p3
        cases b5
        ·have HN:Hid (¬Bi p):=fun e=>by simp[e]at hb5
         clear hb5
         go_wp2
         go_ret
         exact⟨.f5 HRC.out HFo.out HCo.out HN.out,HI5.out⟩
        ·have HY:Hid (Bi p):=hb5.1 rfl
         clear hb5
         go_wp2
         go_ret
         exact⟨.f0 HRC.out HFo.out HCo.out HY.out,HI5.out⟩
 ·have HN:Hid (¬AB p.regions):=fun e=>q0 e.1
  have q0':((p.regions.length:Int)==3)=false:=by simp;omega
  have q0'':¬(p.regions.length:Int)=3:=by omega
  go_enter Tryz.func72,Tryz.ntmps72
  go_wp2
  go_ret
  exact⟨.f1 HN.out,HI.out.bel⟩
def CQ(vs:List MC)(ts:List Int):Prop:=vs.map MC.type=ts/\∀v∈vs,Cc v
structure OQ(p:MP)(n:Nat)(g:MG):Prop where
 lo:0<=g.func
 locals:∃f,p.funcs[g.func.toNat]?=some f/\CQ g.locals (f.params++f.locals)
 base:g.base<=(n:Int)
def Cj:Int->List MG->Prop
 |_,[]=>True
 |b,g::r=>b<=g.base/\Cj g.base r
structure FA(p:MP)(s:MS):Prop where
 prog:A4 p 0
 cost:0<=s.cost/\s.cost<=4611686018427387904
 steps:0<=s.steps/\s.steps<=4611686018427387904
 three:s.cells.length=p.regions.length
 cells:∀(i:Nat) c r,s.cells[i]?=some c->p.regions[i]?=some r->CQ c r
 high:s.stack.length<=64
 stack:∀v∈s.stack,Cc v
 some:s.frames≠[]
 deep:s.frames.length<=32
 frames:∀g∈s.frames,OQ p s.stack.length g
 bases:Cj 0 s.frames
def BC(op:Int):Int:=Pn (Bt op)[1]?
def Cf(p:MP)(x:MI):Int:=match p.regions[x.a.toNat]? with|some r=>(r[x.b.toNat]?).getD 0|none=>0
def AR(f:MF):List Int:=if f.result=0 then[]else[f.result]
def Ak(p:MP)(f:MF)(x:MI):List Int:=
 if x.op=3 then[Av f x.a]else if x.op=5 then[Cf p x]else if x.op=6 then[3]else if x.op=7 then[3,Cf p x]
 else if(8<=x.op/\x.op<=15)\/x.op=20\/x.op=21 then[x.a,x.a]else if x.op=16\/x.op=22 then[x.a]
 else if x.op=17\/x.op=18 then[3,3]else if x.op=19 then[2]else if x.op=23\/x.op=24 then[0]else if x.op=26 then[1]
 else if x.op=28 then(match p.funcs[x.a.toNat]? with|some g=>g.params|none=>[])else[]
def Dd(x:MI):Nat:=if x.op=1\/x.op=2\/x.op=4\/x.op=6\/(8<=x.op/\x.op<=22)then 1 else if x.op=23 then 2 else 0
def Bc:List MC->List Int->Bool
 |[],[]=>true
 |v::vs,t::ts=>(t==0||v.type==t)&&Bc vs ts
 |_,_=>false
def Ds(p:MP)(f:MF)(g:MG)(s:MS)(x:MI):Int:=
 let above:=s.stack.drop g.base.toNat
 let ts:=Ak p f x
 if x.op=29 then(if above.map MC.type=AR f then 0 else 6)
 else if above.length<ts.length then 1
 else if Bc (above.drop (above.length-ts.length)) ts=false\/(x.op=27/\Av f x.a≠3)then 2
 else if x.op=28 then(if s.frames.length<32 then 0 else 5)
 else if 64<s.stack.length-ts.length+Dd x then 3 else 0
def Cn(l:List MC)(i:Nat):MC:=(l[i]?).getD ⟨0,0⟩
def CV(fs:List MG)(h:MG->MG):List MG:=fs.modify (fs.length-1) h
def Dy(cs:List (List MC))(a b:Nat)(v:MC):List (List MC):=cs.modify a fun r=>r.set b v
def cellAt(s:MS)(a b:Nat):MC:=Cn ((s.cells[a]?).getD []) b
def CF(p:MP)(f:MF)(g:MG)(s:MS)(x:MI):MS:=
 let n:=(Ak p f x).length
 let ar:=s.stack.drop (s.stack.length-n)
 let st:=s.stack.take (s.stack.length-n)
 let go:List MG:=CV s.frames fun h=>{h with at_:=g.at_+1}
 let t:MS:={s with stack:=st,frames:=go}
 let push:List MC->MS:=fun vs=>{t with stack:=st++vs}
 if x.op=0\/x.op=24 then t
 else if x.op=1 then push [Cn p.consts x.a.toNat]
 else if x.op=2 then push [Cn g.locals x.a.toNat]
 else if x.op=3 then{t with frames:=CV go fun h=>{h with locals:=h.locals.set x.a.toNat (Cn ar 0)}}
 else if x.op=4 then push [cellAt s x.a.toNat x.b.toNat]
 else if x.op=5 then{t with cells:=Dy s.cells x.a.toNat x.b.toNat (Cn ar 0)}
 else if x.op=6 then push [cellAt s x.a.toNat (x.b.toNat+((Cn ar 0).word.toNat &&& x.c.toNat))]
 else if x.op=7 then{t with cells:=Dy s.cells x.a.toNat (x.b.toNat+((Cn ar 0).word.toNat &&& x.c.toNat)) (Cn ar 1)}
 else if x.op=16\/x.op=19 then push [⟨(Cn ar 0).type,AD x.op (Cn ar 0).type (Cn ar 0).word 0⟩]
 else if x.op=20\/x.op=21 then push [⟨1,AD x.op (Cn ar 0).type (Cn ar 0).word (Cn ar 1).word⟩]
 else if 8<=x.op/\x.op<=18 then push [⟨(Cn ar 0).type,AD x.op (Cn ar 0).type (Cn ar 0).word (Cn ar 1).word⟩]
 else if x.op=22 then push [⟨x.b,Eo x.a x.b (Cn ar 0).word⟩]
 else if x.op=23 then push [Cn ar 0,Cn ar 0]
 else if x.op=25 then{t with frames:=CV go fun h=>{h with at_:=x.c}}
 else if x.op=26 then(if(Cn ar 0).word=0 then{t with frames:=CV go fun h=>{h with at_:=x.c}}else t)
 else if x.op=27 then(if(Cn g.locals x.a.toNat).word=0 then{t with frames:=CV go fun h=>{h with at_:=x.c}}else{t with frames:=CV go fun h=>{h with locals:=h.locals.modify x.a.toNat fun v=>{v with word:=v.word-1}}})
 else if x.op=28 then{t with frames:=go++[⟨x.a,0,(st.length:Int),ar++(match p.funcs[x.a.toNat]? with|some c=>c.locals.map fun ty=>(⟨ty,0⟩:MC)|none=>[])⟩]}
 else{s with frames:=s.frames.dropLast,done:=decide (s.frames.length=1)}
inductive Bk (p:MP) (s:MS):MS->Prop
 |jump {g:MG} {f:MF}:s.frames.getLast?=some g->p.funcs[g.func.toNat]?=some f->(g.at_<0\/(f.code.length:Int)<=g.at_)->Bk p s {s with trap:=4}
 |trap {g:MG} {f:MF} {x:MI} {n:Int}:s.frames.getLast?=some g->p.funcs[g.func.toNat]?=some f->0<=g.at_->f.code[g.at_.toNat]?=some x->Ds p f g s x=n->n≠0->Bk p s {s with trap:=n,steps:=s.steps+1,cost:=s.cost+BC x.op}
 |does {g:MG} {f:MF} {x:MI}:s.frames.getLast?=some g->p.funcs[g.func.toNat]?=some f->0<=g.at_->f.code[g.at_.toNat]?=some x->Ds p f g s x=0->Bk p s (CF p f g {s with steps:=s.steps+1,cost:=s.cost+BC x.op} x)
theorem Bk.one{p:MP}{s a b:MS}(h:Bk p s a)(h':Bk p s b):a=b:=by
 cases h with
 | jump e1 e2 e3=>
  cases h' with
  |jump d1 d2 d3=>rfl
  |trap d1 d2 d3 d4 _ _=>
   rw[e1]at d1;obtain rfl:=Option.some.inj d1;rw[e2]at d2;obtain rfl:=Option.some.inj d2;have:=(gI.1 d4).1;omega
  |does d1 d2 d3 d4 _=>
   rw[e1]at d1;obtain rfl:=Option.some.inj d1;rw[e2]at d2;obtain rfl:=Option.some.inj d2;have:=(gI.1 d4).1;omega
 | trap e1 e2 e3 e4 e5 e6=>
  cases h' with
  |jump d1 d2 d3=>
   rw[e1]at d1;obtain rfl:=Option.some.inj d1;rw[e2]at d2;obtain rfl:=Option.some.inj d2;have:=(gI.1 e4).1;omega
  |trap d1 d2 d3 d4 d5 d6=>
   rw[e1]at d1;obtain rfl:=Option.some.inj d1;rw[e2]at d2;obtain rfl:=Option.some.inj d2;rw[e4]at d4;obtain rfl:=Option.some.inj d4;rw[<-e5,<-d5]
  |does d1 d2 d3 d4 d5=>
   rw[e1]at d1;obtain rfl:=Option.some.inj d1;rw[e2]at d2;obtain rfl:=Option.some.inj d2;rw[e4]at d4;obtain rfl:=Option.some.inj d4;exact absurd (e5.symm.trans d5) e6
 | does e1 e2 e3 e4 e5=>
  cases h' with
  |jump d1 d2 d3=>
   rw[e1]at d1;obtain rfl:=Option.some.inj d1;rw[e2]at d2;obtain rfl:=Option.some.inj d2;have:=(gI.1 e4).1;omega
  |trap d1 d2 d3 d4 d5 d6=>
   rw[e1]at d1;obtain rfl:=Option.some.inj d1;rw[e2]at d2;obtain rfl:=Option.some.inj d2;rw[e4]at d4;obtain rfl:=Option.some.inj d4;exact absurd (d5.symm.trans e5) d6
  |does d1 d2 d3 d4 d5=>
   rw[e1]at d1;obtain rfl:=Option.some.inj d1;rw[e2]at d2;obtain rfl:=Option.some.inj d2;rw[e4]at d4;obtain rfl:=Option.some.inj d4;rfl
theorem AM(n:Int)(c:Int)(w:World):
  Calls Tryz.prog 99 #[.int .i64 n,.int .i64 c] w fun e w'=>e=.returned (.bool (decide (0<=n/\n<c)))/\w'=w:=by
 by_cases q0:n<0
 ·rw[decide_eq_false (by omega:¬(0<=n/\n<c))]
  have q0':¬0<=n:=by omega
  go_enter Tryz.func99,Tryz.ntmps99;go_wp2
  go_ret
  exact⟨rfl,rfl⟩
 have q0':0<=n:=by omega
 by_cases q1:n<c
 ·rw[decide_eq_true (by omega:0<=n/\n<c)]
  go_enter Tryz.func99,Tryz.ntmps99;go_wp2
  go_ret
  exact⟨rfl,rfl⟩
 ·rw[decide_eq_false (by omega:¬(0<=n/\n<c))]
  go_enter Tryz.func99,Tryz.ntmps99;go_wp2
  go_ret
  exact⟨rfl,rfl⟩
theorem Ew(F t:Int)(w:World)(hF:F=5\/F=6\/F=7):Calls Tryz.prog 208 #[.int .i64 F,.int .i64 t] w fun e w'=>Ar e (AQ F t)/\w'=w:=by
 rcases hF with rfl|rfl|rfl
 ·go_enter Tryz.func208,Tryz.ntmps208
  go_wp2
  all_goals(go_ret;refine⟨Ar.of ?_,rfl⟩;go_light;simp_all [AQ])
 ·go_enter Tryz.func208,Tryz.ntmps208
  go_wp2
  all_goals(go_ret;refine⟨Ar.of ?_,rfl⟩;go_light;simp_all [AQ])
 ·go_enter Tryz.func208,Tryz.ntmps208
  go_wp2_with fail
  refine(Ca t _).mono ?_;rintro e u ⟨rfl,rfl⟩;go_wp2
  all_goals(go_ret;refine⟨Ar.of ?_,rfl⟩;go_light;simp_all [AQ])
structure Ji(w:World)(b:Nat)(x0 x1 x2 x3 x4 x5 x6 x7:Value):Prop where
 c0:w.cell? ⟨b,0,none⟩=some x0
 c1:w.cell? ⟨b,1,none⟩=some x1
 c2:w.cell? ⟨b,2,none⟩=some x2
 c3:w.cell? ⟨b,3,none⟩=some x3
 c4:w.cell? ⟨b,4,none⟩=some x4
 c5:w.cell? ⟨b,5,none⟩=some x5
 c6:w.cell? ⟨b,6,none⟩=some x6
 c7:w.cell? ⟨b,7,none⟩=some x7
theorem Ji.lt{w:World}{b:Nat}{x0 x1 x2 x3 x4 x5 x6 x7:Value}(h:Ji w b x0 x1 x2 x3 x4 x5 x6 x7):b<w.heap.size:=bL h.c0
theorem Ji.keep{w w':World}{b:Nat}{x0 x1 x2 x3 x4 x5 x6 x7:Value}(h:Ji w b x0 x1 x2 x3 x4 x5 x6 x7)(hb:Below w.heap.size w w'):Ji w' b x0 x1 x2 x3 x4 x5 x6 x7:=
 ⟨by rw[hb.cell h.lt];exact h.c0,by rw[hb.cell h.lt];exact h.c1,by rw[hb.cell h.lt];exact h.c2,by rw[hb.cell h.lt];exact h.c3,by rw[hb.cell h.lt];exact h.c4,by rw[hb.cell h.lt];exact h.c5,by rw[hb.cell h.lt];exact h.c6,by rw[hb.cell h.lt];exact h.c7⟩
theorem Ji.new(w:World)(x0 x1 x2 x3 x4 x5 x6 x7:Value)(ty:TypeId):Ji (w.alloc (.cells #[x0,x1,x2,x3,x4,x5,x6,x7] ty)) w.heap.size x0 x1 x2 x3 x4 x5 x6 x7:=by
 have h:=World.ownsRow_lit (base:=w.heap.size) (e:=ty) (size:=8) w #[x0,x1,x2,x3,x4,x5,x6,x7] 1 lR (by unfold maxLen;omega) (by simp);exact⟨h.cellAt 0 (by omega),h.cellAt 1 (by omega),h.cellAt 2 (by omega),h.cellAt 3 (by omega),h.cellAt 4 (by omega),h.cellAt 5 (by omega),h.cellAt 6 (by omega),h.cellAt 7 (by omega)⟩
theorem Ji.alloc{w:World}{b:Nat}{x0 x1 x2 x3 x4 x5 x6 x7:Value}(h:Ji w b x0 x1 x2 x3 x4 x5 x6 x7)(o:Obj):Ji (w.alloc o) b x0 x1 x2 x3 x4 x5 x6 x7:=h.keep (Aa _ _)
def Gy(f:MF)(n:Int):Prop:=0<=n/\n<(f.params.length:Int)+(f.locals.length:Int)
theorem EU(x0 x1 x2 x3:Value)(g:VF)(f:MF)(n:Int)(w:World)(hs:f.small)(h:CP w g f):
  Calls Tryz.prog 205 #[.agg #[x0,x1,x2,x3,g.p,.int .i64 f.result,g.l,g.c],.int .i64 n] w fun e w'=>Ar e (Gy f n)/\Below w.heap.size w w':=by
 obtain⟨a1,c1,e1⟩:=h.1.is_slice;obtain⟨a2,c2,e2⟩:=h.2.1.is_slice;obtain⟨vp,vl,vc⟩:=g;obtain⟨s1,s2,s3⟩:=hs;simp only[]at e1 e2;subst e1 e2;clear h;go_enter Tryz.func205,Tryz.ntmps205;go_wp2_with fail
 refine(AM n ((f.params.length:Int)+(f.locals.length:Int)) _).mono ?_;rintro e u ⟨rfl,rfl⟩;go_wp2
 go_ret
 exact⟨.of (by unfold Gy;simp),Aa _ _⟩
def CS(p:MP)(op a b:Int):Prop:=∃l,0<=a/\p.regions[a.toNat]?=some l/\0<=b/\b<(l.length:Int)/\¬((op=5\/op=7)/\a=0)
theorem DD(v:VP)(p:MP)(x4 x5 x6 x7:Value)(op a b c:Int)(w:World)(hs:p.small)(h3:p.regions.length=3)(h:Cx w v p):
  Calls Tryz.prog 206 #[.agg #[v.r,v.k,v.f,v.t,x4,x5,x6,x7],.agg #[.int .i64 op,.int .i64 a,.int .i64 b,.int .i64 c]] w fun e w'=>Ar e (CS p op a b)/\Below w.heap.size w w':=by
 obtain⟨vr,vk,vf,vt⟩:=v;obtain⟨xs,hxs,hrd,hel⟩:=h.regions;simp only[]at hrd;rw[h3]at hrd;have hxl:xs.length=3:=by rw[<-h3,<-hxs];simp
 have H1:Hid (Rd w 1 vr 3 (xs.flatMap Cu)/\xs.map Prod.fst=p.regions/\(∀x∈xs,Rd w 1 x.2 x.1.length (x.1.flatMap Ae))/\(∀l∈p.regions,l.length<=1048576)/\xs.length=3/\p.regions.length=3):=⟨hrd,hxs,hel,hs.region,hxl,h3⟩
 clear hrd hxs hel hxl hs h h3;have HB:Hid (Below w.heap.size w ((w.alloc (.cells #[vr,vk,vf,vt,x4,x5,x6,x7] 164)).alloc (.cells #[.int .i64 op,.int .i64 a,.int .i64 b,.int .i64 c] 134))):=Ab (Aa _ _) lR (Aa _ _);by_cases q0:0<=a/\a<3
 ·obtain⟨i,rfl⟩:=Int.eq_ofNat_of_zero_le q0.1
  have hi:i<3:=by omega
  obtain⟨⟨l,y⟩,hx⟩:∃x,xs[i]?=some x:=⟨_,gE (by rw[H1.out.2.2.2.2.1];omega)⟩;have e1:=Bh H1.out.2.1 hx;have hy:=H1.out.2.2.1 _ (mG hx);have hll:=H1.out.2.2.2.1 _ (mG e1);simp only[]at e1 hy hll;rcases H1.out.1.2 with⟨e0,_⟩|⟨g,o,cc,e2,hc1⟩
  ·omega
  subst e2;have a0:=Rd.elem AO hc1 i _ hx 0 _ rfl;rw[Nat.mul_one,Nat.add_zero]at a0;simp only[]at a0;clear hc1 hx;have HX:Hid (p.regions[i]?=some l):=e1;clear e1;obtain⟨ay,cy,rfl⟩:=hy.is_slice;clear hy;have a1:=(HB.out.cell (bL a0)).trans a0;have ga:¬g=w.heap.size:=Nat.ne_of_lt (bL a0)
  have HC:Hid (CS p op (i:Int) b↔¬((op=5\/op=7)/\(i:Int)=0)/\0<=b/\b<(l.length:Int)):=by
   show _↔_;constructor
   ·rintro⟨l',h1,h2,h3,h4,h5⟩
    rw[Int.toNat_natCast,HX.out]at h2;obtain rfl:=Option.some.inj h2;exact⟨h5,h3,h4⟩
   ·rintro⟨h5,h3,h4⟩
    exact⟨l,by omega,by rw[Int.toNat_natCast];exact HX.out,h3,h4,h5⟩
  by_cases q1:(op=5\/op=7)/\(i:Int)=0
  ·have HN:Hid (¬CS p op (i:Int) b):=fun e=>(HC.out.1 e).1 q1
   obtain⟨q1,q2⟩:=q1;obtain rfl:i=0:=by omega
   rcases q1 with rfl|rfl
   ·go_enter Tryz.func206,Tryz.ntmps206
    go_wp2_with fail
    refine(AM 0 3 _).mono ?_;rintro e u ⟨rfl,rfl⟩;go_wp2
    go_ret
    exact⟨.no HN.out,HB.out⟩
   ·go_enter Tryz.func206,Tryz.ntmps206
    go_wp2_with fail
    refine(AM 0 3 _).mono ?_;rintro e u ⟨rfl,rfl⟩;go_wp2
    go_ret
    exact⟨.no HN.out,HB.out⟩
  ·have hiz:((i:Int)==0)=decide (i=0):=by
    by_cases e:i=0
    ·subst e
     rfl
    ·rw[decide_eq_false e]
     simpa using e
   have hit:decide (0<=(i:Int)/\(i:Int)<3)=true:=decide_eq_true (by omega)
   have HD:Hid (decide (0<=b/\b<(l.length:Int))=true↔CS p op (i:Int) b):=by
    show _↔_;rw[HC.out,decide_eq_true_eq];exact⟨fun e=>⟨q1,e⟩,fun e=>e.2⟩
   by_cases w5:op=5
   ·subst w5
    have hi0:((i:Int)==0)=false:=by
     have:¬i=0:=fun e=>q1 ⟨.inl rfl,by omega⟩
     rw[hiz,decide_eq_false this]
    clear q1 HC hiz;go_enter Tryz.func206,Tryz.ntmps206;go_wp2_with fail
    refine(AM (i:Int) 3 _).mono ?_;rintro e u ⟨rfl,rfl⟩;rw[hit];go_wp2_with fail
    go_quiet ((go_at_call 99;exact Calls.quiet_of_same (AM b (l.length:Int) _)))
    go_wp2
    go_ret
    exact⟨.of HD.out,HB.out.trans (A3 _ _ _)⟩
   ·by_cases w7:op=7
    ·subst w7
     have hi0:((i:Int)==0)=false:=by
      have:¬i=0:=fun e=>q1 ⟨.inr rfl,by omega⟩
      rw[hiz,decide_eq_false this]
     clear q1 HC hiz w5;go_enter Tryz.func206,Tryz.ntmps206;go_wp2_with fail
     refine(AM (i:Int) 3 _).mono ?_;rintro e u ⟨rfl,rfl⟩;rw[hit];go_wp2_with fail
     go_quiet ((go_at_call 99;exact Calls.quiet_of_same (AM b (l.length:Int) _)))
     go_wp2
     go_ret
     exact⟨.of HD.out,HB.out.trans (A3 _ _ _)⟩
    ·have w5':(op==5)=false:=by simpa using w5
     have w7':(op==7)=false:=by simpa using w7
     clear q1 HC hiz w5 w7;go_enter Tryz.func206,Tryz.ntmps206;go_wp2_with fail
     refine(AM (i:Int) 3 _).mono ?_;rintro e u ⟨rfl,rfl⟩;rw[hit];go_wp2_with fail
     go_quiet ((go_at_call 99;exact Calls.quiet_of_same (AM b (l.length:Int) _)))
     go_wp2
     go_ret
     exact⟨.of HD.out,HB.out.trans (A3 _ _ _)⟩
 ·have HN:Hid (¬CS p op a b):=fun⟨l,h1,h2,_⟩=>q0 ⟨h1,by have:=(gI.1 h2).1;rw[H1.out.2.2.2.2.2]at this;omega⟩
  have hit:decide (0<=a/\a<3)=false:=decide_eq_false q0
  clear H1;by_cases w5:op=5
  ·subst w5
   go_enter Tryz.func206,Tryz.ntmps206;go_wp2_with fail
   refine(AM a 3 _).mono ?_;rintro e u ⟨rfl,rfl⟩;rw[hit];go_wp2
   go_ret
   exact⟨.no HN.out,HB.out⟩
  ·have w5':(op==5)=false:=by simpa using w5
   go_enter Tryz.func206,Tryz.ntmps206;go_wp2_with fail
   refine(AM a 3 _).mono ?_;rintro e u ⟨rfl,rfl⟩;rw[hit];go_wp2
   go_ret
   exact⟨.no HN.out,HB.out⟩
theorem A4.ok{p:MP}(h:A4 p 0):AB p.regions/\AV p.consts/\AY p.funcs/\Ct p/\Bi p:=by
 rcases h with h|h|h|h|h|h
 . exact absurd h.1 (by decide)
 . exact absurd h.1 (by decide)
 . exact absurd h.1 (by decide)
 . exact absurd h.1 (by decide)
 . exact absurd h.1 (by decide)
 . exact h.2
theorem A4.ex(p:MP):∃n,A4 p n:=by
 by_cases h1:AB p.regions
 . by_cases h2:AV p.consts
   . by_cases h3:AY p.funcs
     . by_cases h4:Ct p
       . by_cases h5:Bi p
         . exact⟨0,.inr (.inr (.inr (.inr (.inr ⟨rfl,h1,h2,h3,h4,h5⟩))))⟩
         . exact⟨5,.inr (.inr (.inr (.inr (.inl ⟨rfl,h1,h2,h3,h4,h5⟩))))⟩
       . exact⟨4,.inr (.inr (.inr (.inl ⟨rfl,h1,h2,h3,h4⟩)))⟩
     . exact⟨3,.inr (.inr (.inl ⟨rfl,h1,h2,h3⟩))⟩
   . exact⟨2,.inr (.inl ⟨rfl,h1,h2⟩)⟩
 . exact⟨1,.inl ⟨rfl,h1⟩⟩
theorem Bv.is{e:Ending}{p:MP}{n:Int}(h:Bv e p)(hn:A4 p n):e=.returned (.int .i64 n):=by
 obtain⟨m,rfl,hm⟩:=h;rw[A4.one hm hn]
def Bp(p:MP)(m:MM):Prop:=A4 p 0/\∃r0 r1 r2,p.regions=[r0,r1,r2]/\m.ins.length=r0.length/\Bd m.outs r1/\Bd m.keeps r2
theorem Bp.iff{p:MP}{m:MM}(hf:A4 p 0){r0 r1 r2:List Int}(h:p.regions=[r0,r1,r2]):Bp p m↔m.ins.length=r0.length/\Bd m.outs r1/\Bd m.keeps r2:=by
 constructor
 . rintro⟨_,s0,s1,s2,e,k⟩
   rw[h]at e;simp only[List.cons.injEq,and_true]at e;obtain⟨rfl,rfl,rfl⟩:=e;exact k
 . exact fun k=>⟨hf,r0,r1,r2,h,k⟩
structure JT(w:World)(vr:Value)(p:MP)(g o c:Nat)(r0 r1 r2:List Int)(y0 y1 y2:Value):Prop where
 rows:vr=.slice (some ⟨g,o,none⟩) 3 c
 eq:p.regions=[r0,r1,r2]
 i0:w.cell? ⟨g,o,none⟩=some y0
 i1:w.cell? ⟨g,o+1,none⟩=some y1
 i2:w.cell? ⟨g,o+2,none⟩=some y2
 k0:Rd w 1 y0 r0.length (r0.flatMap Ae)
 k1:Rd w 1 y1 r1.length (r1.flatMap Ae)
 k2:Rd w 1 y2 r2.length (r2.flatMap Ae)
theorem JT.of{w:World}{v:VP}{p:MP}(h:Cx w v p)(h3:p.regions.length=3):∃g o c r0 r1 r2 y0 y1 y2,JT w v.r p g o c r0 r1 r2 y0 y1 y2:=by
 obtain⟨xs,hxs,hrd,hel⟩:=h.regions;have hxl:xs.length=3:=by rw[<-h3,<-hxs];simp
 obtain⟨⟨r0,y0⟩,⟨r1,y1⟩,⟨r2,y2⟩,rfl⟩:∃a b c,xs=[a,b,c]:=by
  match xs,hxl with
  |[a,b,c],_=>exact⟨a,b,c,rfl⟩
 rcases hrd.2 with⟨e0,_⟩|⟨g,o,c,e1,hc⟩
 . omega
 . rw[h3]at e1
   exact⟨g,o,c,r0,r1,r2,y0,y1,y2,e1,by rw[<-hxs];rfl,by simpa using hc 0 y0 rfl,hc 1 y1 rfl,hc 2 y2 rfl,hel (r0,y0) (by simp),hel (r1,y1) (by simp),hel (r2,y2) (by simp)⟩
set_option maxHeartbeats 4000000 in
set_option maxRecDepth 100000 in
theorem IP(v:VP)(p:MP)(vm:VM)(m:MM)(w:World)(hs:p.small)(hw:p.wf)(h:Cx w v p)(ms:m.small)(hm:Fs w vm m):
 Calls Tryz.prog 109 #[.agg #[v.r,v.k,v.f,v.t],.agg #[vm.i,vm.o,vm.k]] w fun e w'=>Ar e (Bp p m)/\Below w.heap.size w w':=by
 have H:Hid (p.small/\p.wf/\Cx w v p/\m.small/\Fs w vm m):=⟨hs,hw,h,ms,hm⟩
 have HI:Hid (GD w ((w.alloc (.cells #[v.r,v.k,v.f,v.t] 45)).alloc (.cells #[vm.i,vm.o,vm.k] 58)) v.r v.k v.f v.t/\He ((w.alloc (.cells #[v.r,v.k,v.f,v.t] 45)).alloc (.cells #[vm.i,vm.o,vm.k] 58)) (w.heap.size+1) vm.i vm.o vm.k):=by
  refine⟨(GD.of w v.r v.k v.f v.t _).keep (Aa _ _),?_⟩
  have:=He.new (w.alloc (.cells #[v.r,v.k,v.f,v.t] 45)) vm.i vm.o vm.k 58
  simpa using this
 clear hs hw h ms hm
 obtain⟨n,hn⟩:=A4.ex p
 obtain⟨vr,vk,vf,vt⟩:=v
 obtain⟨vi,vo,vkk⟩:=vm
 simp only[]at HI
 go_enter Tryz.func109,Tryz.ntmps109
 go_wp2_with fail
 generalize ((w.alloc (.cells #[vr,vk,vf,vt] 45)).alloc (.cells #[vi,vo,vkk] 58))=W1 at HI⊢
 have HJ:Hid (GD w W1 vr vk vf vt/\He W1 (w.heap.size+1) vi vo vkk):=HI
 have HB:Hid (Below w.heap.size w W1):=HI.out.1.bel
 clear HI
 have inst:=Aj.some W1
 obtain⟨p0,p1,p2,p3⟩:=HJ.out.1.prog
 obtain⟨m0,m1,m2⟩:=HJ.out.2
 have P0:=fun n:Aj W1=>Aj.cell p0 n
 have P1:=fun n:Aj W1=>Aj.cell p1 n
 have P2:=fun n:Aj W1=>Aj.cell p2 n
 have P3:=fun n:Aj W1=>Aj.cell p3 n
 have M0:=fun n:Aj W1=>Aj.cell m0 n
 have M1:=fun n:Aj W1=>Aj.cell m1 n
 have M2:=fun n:Aj W1=>Aj.cell m2 n
 have HF:Hid (A4 p n):=hn
 clear hn
 by_cases q0:n=0
 . subst q0
   obtain⟨g,o,c,r0,r1,r2,y0,y1,y2,hR⟩:=JT.of (H.out.2.2.1.keep HB.out (Nat.le_refl _)) HF.out.ok.1.1
   have HR:Hid (JT W1 vr p g o c r0 r1 r2 y0 y1 y2):=hR
   have HV:Hid (Bp p m↔m.ins.length=r0.length/\Bd m.outs r1/\Bd m.keeps r2):=Bp.iff HF.out hR.eq
   have HS:Hid (r0.length<=1048576/\r1.length<=1048576/\r2.length<=1048576):=by
    have:=H.out.1.region
    rw[hR.eq]at this
    exact⟨this r0 (by simp),this r1 (by simp),this r2 (by simp)⟩
   obtain⟨b1,d1,e1⟩:=HR.out.k0.is_slice
   obtain⟨am,cm,em⟩:=H.out.2.2.2.2.ins.is_slice
   have hrows:=hR.rows
   simp only[]at hrows em
   subst hrows em
   subst e1
   clear hR
   have i0:=HR.out.i0
   have i1:=HR.out.i1
   have i2:=HR.out.i2
   have I0:=fun n:Aj W1=>Aj.cell i0 n
   have I1:=fun n:Aj W1=>Aj.cell i1 n
   have I2:=fun n:Aj W1=>Aj.cell i2 n
   have HM:Hid (m.small/\Rd W1 1 vo m.outs.length (m.outs.flatMap Bs)/\Rd W1 1 vkk m.keeps.length (m.keeps.flatMap Bs)):=⟨H.out.2.2.2.1,H.out.2.2.2.2.outs.keep HB.out (Nat.le_refl _),H.out.2.2.2.2.keeps.keep HB.out (Nat.le_refl _)⟩
   by_cases q1:m.ins.length=r0.length
   . have HQ:Hid (m.ins.length=r0.length):=q1
     have q1':((m.ins.length:Int)==(r0.length:Int))=true:=by simp;omega
     clear q1
     by_cases q2:Bd m.outs r1
     . have HO:Hid (Bd m.outs r1):=q2
       clear q2
       by_cases q3:Bd m.keeps r2
       . have HK:Hid (Bd m.keeps r2):=q3
         have HY:Hid (Bp p m):=HV.out.2 ⟨HQ.out,HO.out,q3⟩
         clear q3
         refine Am (by kernel_rfl) (by kernel_rfl) ?_
         repeat(go_big_quiet_step ((first|(go_at_call 72;rename_i n';exact(CZ ⟨.slice (some ⟨g,o,none⟩) 3 c,vk,vf,vt⟩ p n'.u H.out.1 H.out.2.1 (H.out.2.2.1.keep (Ab HB.out (Nat.le_refl _) n'.h) (Nat.le_refl _))).mono fun e w'' h=>⟨h.1.is HF.out,⟨⟨w'',Ab n'.h (Nat.le_refl _) h.2⟩,rfl⟩⟩)|(go_at_call_of 175 y1;rename_i n';exact(DI vo y1 m.outs r1 n'.u HM.out.1.outs HS.out.2.1 (HM.out.2.1.keep n'.h (Nat.le_refl _)) (HR.out.k1.keep n'.h (Nat.le_refl _))).mono fun e w'' h=>⟨h.1.true HO.out,⟨⟨w'',h.2▸n'.h⟩,rfl⟩⟩)|(go_at_call_of 175 y2;rename_i n';exact(DI vkk y2 m.keeps r2 n'.u HM.out.1.keeps HS.out.2.2 (HM.out.2.2.keep n'.h (Nat.le_refl _)) (HR.out.k2.keep n'.h (Nat.le_refl _))).mono fun e w'' h=>⟨h.1.true HK.out,⟨⟨w'',h.2▸n'.h⟩,rfl⟩⟩))))
         refine wpQuiet_nil ?_
         rintro w'' ⟨n',rfl⟩
         have HE:Hid (Below w.heap.size w n'.u):=Ab HB.out (Nat.le_refl _) n'.h
         go_wp2
         go_ret
         exact⟨.yes HY.out,HE.out⟩
       . have HK:Hid (¬Bd m.keeps r2):=q3
         have HN:Hid (¬Bp p m):=fun e=>q3 (HV.out.1 e).2.2
         clear q3
         refine Am (by kernel_rfl) (by kernel_rfl) ?_
         repeat(go_big_quiet_step ((first|(go_at_call 72;rename_i n';exact(CZ ⟨.slice (some ⟨g,o,none⟩) 3 c,vk,vf,vt⟩ p n'.u H.out.1 H.out.2.1 (H.out.2.2.1.keep (Ab HB.out (Nat.le_refl _) n'.h) (Nat.le_refl _))).mono fun e w'' h=>⟨h.1.is HF.out,⟨⟨w'',Ab n'.h (Nat.le_refl _) h.2⟩,rfl⟩⟩)|(go_at_call_of 175 y1;rename_i n';exact(DI vo y1 m.outs r1 n'.u HM.out.1.outs HS.out.2.1 (HM.out.2.1.keep n'.h (Nat.le_refl _)) (HR.out.k1.keep n'.h (Nat.le_refl _))).mono fun e w'' h=>⟨h.1.true HO.out,⟨⟨w'',h.2▸n'.h⟩,rfl⟩⟩)|(go_at_call_of 175 y2;rename_i n';exact(DI vkk y2 m.keeps r2 n'.u HM.out.1.keeps HS.out.2.2 (HM.out.2.2.keep n'.h (Nat.le_refl _)) (HR.out.k2.keep n'.h (Nat.le_refl _))).mono fun e w'' h=>⟨h.1.false HK.out,⟨⟨w'',h.2▸n'.h⟩,rfl⟩⟩))))
         refine wpQuiet_nil ?_
         rintro w'' ⟨n',rfl⟩
         have HE:Hid (Below w.heap.size w n'.u):=Ab HB.out (Nat.le_refl _) n'.h
         go_wp2
         go_ret
         exact⟨.no HN.out,HE.out⟩
     . have HO:Hid (¬Bd m.outs r1):=q2
       have HN:Hid (¬Bp p m):=fun e=>q2 (HV.out.1 e).2.1
       clear q2
       refine Am (by kernel_rfl) (by kernel_rfl) ?_
       repeat(go_big_quiet_step ((first|(go_at_call 72;rename_i n';exact(CZ ⟨.slice (some ⟨g,o,none⟩) 3 c,vk,vf,vt⟩ p n'.u H.out.1 H.out.2.1 (H.out.2.2.1.keep (Ab HB.out (Nat.le_refl _) n'.h) (Nat.le_refl _))).mono fun e w'' h=>⟨h.1.is HF.out,⟨⟨w'',Ab n'.h (Nat.le_refl _) h.2⟩,rfl⟩⟩)|(go_at_call_of 175 y1;rename_i n';exact(DI vo y1 m.outs r1 n'.u HM.out.1.outs HS.out.2.1 (HM.out.2.1.keep n'.h (Nat.le_refl _)) (HR.out.k1.keep n'.h (Nat.le_refl _))).mono fun e w'' h=>⟨h.1.false HO.out,⟨⟨w'',h.2▸n'.h⟩,rfl⟩⟩))))
       refine wpQuiet_nil ?_
       rintro w'' ⟨n',rfl⟩
       have HE:Hid (Below w.heap.size w n'.u):=Ab HB.out (Nat.le_refl _) n'.h
       go_wp2
       go_ret
       exact⟨.no HN.out,HE.out⟩
   . have q1':((m.ins.length:Int)==(r0.length:Int))=false:=by simp;omega
     have HN:Hid (¬Bp p m):=fun e=>q1 (HV.out.1 e).1
     clear q1
     refine Am (by kernel_rfl) (by kernel_rfl) ?_
     repeat(go_big_quiet_step ((first|(go_at_call 72;rename_i n';exact(CZ ⟨.slice (some ⟨g,o,none⟩) 3 c,vk,vf,vt⟩ p n'.u H.out.1 H.out.2.1 (H.out.2.2.1.keep (Ab HB.out (Nat.le_refl _) n'.h) (Nat.le_refl _))).mono fun e w'' h=>⟨h.1.is HF.out,⟨⟨w'',Ab n'.h (Nat.le_refl _) h.2⟩,rfl⟩⟩))))
     refine wpQuiet_nil ?_
     rintro w'' ⟨n',rfl⟩
     have HE:Hid (Below w.heap.size w n'.u):=Ab HB.out (Nat.le_refl _) n'.h
     go_wp2
     go_ret
     exact⟨.no HN.out,HE.out⟩
 . have HN:Hid (¬Bp p m):=fun e=>q0 (A4.one HF.out e.1)
   have q0':(n==0)=false:=by simpa using q0
   clear q0
   refine Am (by kernel_rfl) (by kernel_rfl) ?_
   repeat(go_big_quiet_step ((first|(go_at_call 72;rename_i n';exact(CZ ⟨vr,vk,vf,vt⟩ p n'.u H.out.1 H.out.2.1 (H.out.2.2.1.keep (Ab HB.out (Nat.le_refl _) n'.h) (Nat.le_refl _))).mono fun e w'' h=>⟨h.1.is HF.out,⟨⟨w'',Ab n'.h (Nat.le_refl _) h.2⟩,rfl⟩⟩))))
   refine wpQuiet_nil ?_
   rintro w'' ⟨n',rfl⟩
   have HE:Hid (Below w.heap.size w n'.u):=Ab HB.out (Nat.le_refl _) n'.h
   go_wp2
   go_ret
   exact⟨.no HN.out,HE.out⟩
def Ay(p:MP)(f:MF)(x:MI):List Int:=
 if x.op=1 then[(Cn p.consts x.a.toNat).type]else if x.op=2 then[Av f x.a]else if x.op=4\/x.op=6 then[Cf p x]
 else if 8<=x.op/\x.op<=16 then[x.a]else if x.op=17\/x.op=18 then[3]else if x.op=19 then[2]else if x.op=20\/x.op=21 then[1]
 else if x.op=22 then[x.b]else if x.op=23 then[0,0]else if x.op=28 then(match p.funcs[x.a.toNat]? with|some g=>AR g|none=>[])else[]
theorem FW(p:MP)(f:MF)(x:MI)(h:x.op≠28):(Ay p f x).length=Dd x:=by
 unfold Ay Dd;repeat' split
 all_goals first|rfl|(exfalso;omega)
def CH(p:MP)(f:MF)(x:MI):List Int:=if x.op=29 then AR f else Ak p f x
structure Fv(xs:List Int)(c:Int):Prop where
 low:0<=c
 high:c<(xs.length:Int)
 mask:bits .and .i64 c (c+1)=0
 one:∀j:Nat,(j:Int)<=c->xs[j]?=xs[0]?
theorem FM(a1:Option Addr)(c1:Nat)(xs:List Int)(c:Int)(w:World)(hn:xs.length<=1048576)(hcap:xs.length<=c1)(h:Rd w 1 (.slice a1 xs.length c1) xs.length (xs.flatMap Ae)):
  Calls Tryz.prog 207 #[.slice a1 xs.length c1,.int .i64 c] w fun e w'=>Ar e (Fv xs c)/\Below w.heap.size w w':=by
 have H1:=AS h;clear h;generalize hLL:xs.length=n at hn hcap H1;have HL:Hid (xs.length=n):=hLL;clear hLL;by_cases q0:0<=c/\c<(n:Int)
 ·have hit:decide (0<=c/\c<(n:Int))=true:=decide_eq_true q0
  obtain⟨c,rfl⟩:=Int.eq_ofNat_of_zero_le q0.1;have hcn:c<n:=by omega
  clear q0;by_cases q1:bits .and .i64 (c:Int) ((c:Int)+1)=0
  ·have HM:=AS q1
   obtain⟨y,hy⟩:∃y,xs[0]?=some y:=⟨_,gE (by rw[HL.out];omega)⟩;rcases H1.out.2 with⟨e0,_⟩|⟨g,o,cc,e1,hc1⟩
   ·omega
   simp only[sJ,true_and]at e1;obtain⟨rfl,rfl⟩:=e1;have j0:=Rd.elem An hc1 0 y hy 0 _ rfl;simp only[Nat.zero_mul,Nat.add_zero]at j0;have HC:=AS hc1;have HY:Hid (xs[0]?=some y):=hy;clear hc1 hy;go_enter Tryz.func207,Tryz.ntmps207;go_wp2_with fail
   refine(AM (c:Int) (n:Int) _).mono ?_;rintro e u ⟨rfl,rfl⟩;rw[hit];have k1:(c:Int)+1<=(c1:Int):=by omega
   have k2:(0:Int)<=(c:Int)+1:=by omega
   have k3:(0:Int)<(n:Int):=by omega
   have k4:((c:Int)+1).toNat=c+1:=by omega
   go_wp2
   clear k1 k2 hit q1;go_loopw [24] (fun i wr=>∃k:Nat,k<=c+1/\i=.int .i64 k/\Hid (∀j,j<k->xs[j]?=some y)/\∃m,wr=u.drewN m) (fun i _=>c+1-(intOf i).toNat)
   case atStart=>exact⟨0,by omega,rfl,fun j hj=>by omega,0,rfl⟩
   case round=>
    obtain⟨k,hk,rfl,HT,m,rfl⟩:=hrel;by_cases hlt:k<c+1
    ·obtain⟨x,hx⟩:∃x,xs[k]?=some x:=⟨_,gE (by rw[HL.out];omega)⟩
     have i0:=Rd.elem An HC.out k x hx 0 _ rfl;rw[Nat.mul_one,Nat.add_zero]at i0;have HX:Hid (xs[k]?=some x):=hx;clear hx;have hlt':(k:Int)<(c:Int)+1:=by omega
     by_cases hxy:x=y
     ·subst hxy
      have HT2:Hid (∀j,j<k+1->xs[j]?=some x):=fun j hj=>by
       by_cases e:j=k
       ·rw[e];exact HX.out
       ·exact HT.out j (by omega)
      go_wp2
      go_roundw
      case rel=>exact⟨k+1,by omega,by go_num,HT2,_,rfl⟩
      case measure=>simp[intOf];omega
     ·have HN:Hid (¬Fv xs c):=fun e=>by
       have:=e.one k (by omega);rw[HX.out,HY.out]at this;exact hxy (Option.some.inj this)
      have hxy':(x==y)=false:=by simpa using hxy
      have hxy'':(x != y)=true:=by simpa using hxy
      go_wp2
      go_ret
      exact⟨.no HN.out,A3 _ _ _⟩
    ·have hkn:k=c+1:=by omega
     subst hkn;have HY2:Hid (Fv xs c):=⟨by omega,by rw[HL.out];omega,HM.out,fun j hj=>by rw[HY.out];exact HT.out j (by omega)⟩;go_wp2;go_ret;exact⟨.yes HY2.out,A3 _ _ _⟩
  ·have HN:Hid (¬Fv xs c):=fun e=>q1 e.mask
   have q1':(bits .and .i64 (c:Int) ((c:Int)+1)==0)=false:=by simpa using q1
   clear H1;go_enter Tryz.func207,Tryz.ntmps207;go_wp2_with fail
   refine(AM (c:Int) (n:Int) _).mono ?_;rintro e u ⟨rfl,rfl⟩;rw[hit];go_wp2
   go_ret
   exact⟨.no HN.out,Below.refl _ _⟩
 ·have HN:Hid (¬Fv xs c):=fun e=>q0 ⟨e.low,by have:=e.high;rw[HL.out]at this;exact this⟩
  have hit:decide (0<=c/\c<(n:Int))=false:=decide_eq_false q0
  clear H1;go_enter Tryz.func207,Tryz.ntmps207;go_wp2_with fail
  refine(AM c (n:Int) _).mono ?_;rintro e u ⟨rfl,rfl⟩;rw[hit];go_wp2
  go_ret
  exact⟨.no HN.out,Below.refl _ _⟩
end Go.Proofs.YtlejplpkomddeaaGreat
