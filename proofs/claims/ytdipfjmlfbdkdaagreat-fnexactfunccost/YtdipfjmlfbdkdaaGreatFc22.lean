import Derived.Test.YtdipfjmlfbdkdaaGreatFc14
import Derived.Test.YtdipfjmlfbdkdaaGreatFc9
import Derived.Test.YtdipfjmlfbdkdaaGreatFc20
namespace Go.Proofs.YtdipfjmlfbdkdaaGreat
open Go.ChangeShapes Go.WideShapes Go.ChangeAt Go.RowKit
set_option linter.unusedVariables false
set_option maxHeartbeats 8000000
set_option maxRecDepth 100000
def Ds(p:MP)(f:MF):Prop:=∀k,k<f.code.length->∀x,f.code[k]?=some x->AP p f x
def B4(p:MP):Prop:=∀j,j<p.funcs.length->∀f,p.funcs[j]?=some f->Ds p f
def Be(p:MP)(n:Int):Prop:=
 (n=1/\¬Aq p.regions)\/(n=2/\Aq p.regions/\¬AH p.consts)\/(n=3/\Aq p.regions/\AH p.consts/\¬AO p.funcs)\/
 (n=4/\Aq p.regions/\AH p.consts/\AO p.funcs/\¬B4 p)\/(n=5/\Aq p.regions/\AH p.consts/\AO p.funcs/\B4 p/\¬AY p)\/
 (n=0/\Aq p.regions/\AH p.consts/\AO p.funcs/\B4 p/\AY p)
theorem Be.one{p:MP}{n m:Int}(h:Be p n)(h':Be p m):n=m:=by
 unfold Be at h h';by_cases q1:Aq p.regions<;>by_cases q2:AH p.consts<;>by_cases q3:AO p.funcs<;>by_cases q4:B4 p<;>by_cases q5:AY p<;>simp[q1,q2,q3,q4,q5]at h h'<;>omega
def Bn(e:Ending)(p:MP):Prop:=∃n,e=.returned (.int .i64 n)/\Be p n
theorem Bn.f1{p:MP}(h:¬Aq p.regions):Bn (.returned (.int .i64 1)) p:=⟨_,rfl,.inl ⟨rfl,h⟩⟩
theorem Bn.f2{p:MP}(h1:Aq p.regions)(h:¬AH p.consts):Bn (.returned (.int .i64 2)) p:=⟨_,rfl,.inr (.inl ⟨rfl,h1,h⟩)⟩
theorem Bn.f3{p:MP}(h1:Aq p.regions/\AH p.consts)(h:¬AO p.funcs):Bn (.returned (.int .i64 3)) p:=⟨_,rfl,.inr (.inr (.inl ⟨rfl,h1.1,h1.2,h⟩))⟩
theorem Bn.f4{p:MP}(h1:Aq p.regions/\AH p.consts)(h2:AO p.funcs)(h:¬B4 p):Bn (.returned (.int .i64 4)) p:=⟨_,rfl,.inr (.inr (.inr (.inl ⟨rfl,h1.1,h1.2,h2,h⟩)))⟩
theorem Bn.f5{p:MP}(h1:Aq p.regions/\AH p.consts)(h2:AO p.funcs)(h3:B4 p)(h:¬AY p):Bn (.returned (.int .i64 5)) p:=⟨_,rfl,.inr (.inr (.inr (.inr (.inl ⟨rfl,h1.1,h1.2,h2,h3,h⟩))))⟩
theorem Bn.f0{p:MP}(h1:Aq p.regions/\AH p.consts)(h2:AO p.funcs)(h3:B4 p)(h:AY p):Bn (.returned (.int .i64 0)) p:=⟨_,rfl,.inr (.inr (.inr (.inr (.inr ⟨rfl,h1.1,h1.2,h2,h3,h⟩))))⟩
theorem La{fs:List MF}{n:Nat}(hl:fs.length=n)(h0:¬n=0)(h1:n<=32)(h:∀j,j<n->∀f,fs[j]?=some f->Bo f (decide (j=0))):AO fs:=by
 refine⟨by rw[hl];exact h0,by rw[hl];exact h1,fun j hj f hf=>(h j (by omega) f hf).1,fun f hf=>(h 0 (by omega) f hf).2 (by simp)⟩
theorem Ld{fs:List MF}{k:Nat}{f:MF}(h:AO fs)(hf:fs[k]?=some f):Bo f (decide (k=0)):=by
 refine⟨h.2.2.1 k (aD.1 hf).1 f hf,fun e=> ?_⟩;obtain rfl:k=0:=by simpa using e
 exact h.2.2.2 f hf
theorem PY{fs:List MF}{k:Nat}{f:MF}(h1:fs[k]?=some f)(hx:Bo f (decide (k=0)))(h:∀j,j<k->∀f,fs[j]?=some f->Bo f (decide (j=0))):∀j,j<k+1->∀f,fs[j]?=some f->Bo f (decide (j=0)):=by
 intro j hj g hg;by_cases e:j=k
 . subst e
   rw[h1]at hg;exact(ae hg)▸hx
 . exact h j (by omega) g hg
structure FQ(w u:World)(a b c d:Value):Prop where
 bel:Below w.heap.size w u
 prog:Cd u w.heap.size a b c d
theorem FQ.keep{w u u':World}{a b c d:Value}(h:FQ w u a b c d)(hb:Below u.heap.size u u'):FQ w u' a b c d:=⟨Ab h.bel lR hb,h.prog.keep hb⟩
theorem FQ.of(w:World)(a b c d:Value)(t:TypeId):FQ w (w.alloc (.cells #[a,b,c,d] t)) a b c d:=⟨Aa _ _,Cd.new _ _ _ _ _ _⟩
structure Pg(w:World)(vr vk vf vt:Value)(p:MP)(xs:List (List Int×Value))(ys:List (MF×VF)):Prop where
 small:p.small
 wf:p.wf
 rd:Dg w ⟨vr,vk,vf,vt⟩ p
 rr:Rd w 1 vr p.regions.length (xs.flatMap Bl)
 rm:xs.map Prod.fst=p.regions
 re:∀x∈xs,Rd w 1 x.2 x.1.length (x.1.flatMap Ac)
 rl:xs.length=p.regions.length
 fr:Rd w 4 vf p.funcs.length (ys.flatMap Bi)
 fm:ys.map Prod.fst=p.funcs
 fe:∀x∈ys,C9 w x.2 x.1
 fl:ys.length=p.funcs.length
theorem Pg.of{w:World}{v:VP}{p:MP}(hs:p.small)(hw:p.wf)(h:Dg w v p):∃xs ys,Pg w v.r v.k v.f v.t p xs ys:=by
 obtain⟨xs,h1,h2,h3⟩:=h.regions;obtain⟨ys,k1,k2,k3⟩:=h.funcs;exact⟨xs,ys,hs,hw,h,h2,h1,h3,by rw[<-h1];simp,k2,k1,k3,by rw[<-k1];simp⟩
theorem Fz (v :VP)(p:MP)(w:World)(hs:p.small)(hw:p.wf)(h:Dg w v p):
 Calls Tryz.prog 15 #[.agg #[v.r,v.k,v.f,v.t]] w fun e w'=>Bn e p/\Below w.heap.size w w':=by
 obtain⟨xs,ys,hP⟩:=Pg.of hs hw h
 obtain⟨vr,vk,vf,vt⟩:=v
 simp only[]at hP
 obtain⟨r1,c1,e1⟩:=hP.rr.is_slice
 obtain⟨r3,c3,e3⟩:=hP.fr.is_slice
 have hm:=hs.funcs
 subst e1 e3
 clear hs hw h
 have HP:Hid _:=hP
 clear hP
 have HI:Hid _:=FQ.of w (.slice r1 p.regions.length c1) vk (.slice r3 p.funcs.length c3) vt 35
 by_cases q0:p.regions.length=3
 . generalize hN :p.regions.length=n at*
   subst q0
   generalize hM:p.funcs.length=m at*
   have HL:Hid (p.regions.length=3/\p.funcs.length=m):=⟨hN,hM⟩
   have HP:Hid (Pg w (.slice r1 3 c1) vk (.slice r3 m c3) vt p xs ys):=HP
   clear hN hM
   go_enter Tryz.func15,Tryz.ntmps15
   go_wp2
   go_loopw [3] (fun i wr=>∃k:Nat,k<=3/\i=.int .i64 k/\Hid (∀j,j<k->∀r,p.regions[j]?=some r->EH r)/\Hid (FQ w wr (.slice r1 3 c1) vk (.slice r3 m c3) vt)) (fun i _=>3-(intOf i).toNat)
   case atStart=>exact⟨0,by omega,rfl,fun j hj=>by omega,HI⟩
   case round =>
    clear HI
    obtain⟨k,hk,rfl,HT,HI⟩:=hrel
    obtain⟨p0,p1,p2,p3⟩:=HI.o.prog
    by_cases hlt:k<3
    . obtain⟨⟨f,v⟩,hx⟩:∃x,xs[k]?=some x:=⟨_,aA (by rw[HP.o.rl,HL.o.1];exact hlt)⟩
      have e1:=BM HP.o.rm hx
      have hf:=(HP.o.re _ (aE hx)).keep HI.o.bel lR
      have HX:Hid (Rd wr 1 v f.length (f.flatMap Ac)/\f.length<=1048576/\p.regions[k]?=some f):=⟨hf,HP.o.small.region _ (aE e1),e1⟩
      clear e1
      rcases HP.o.rr.2 with⟨e0,_⟩|⟨b,o,c,e1,hc1⟩
      . rw[HL.o.1]at e0
        omega
      . rw [HL.o.1]at e1
        simp only[aF,aw]at e1
        obtain⟨rfl,rfl⟩:=e1
        have i0:=Rd.elem AW hc1 k _ hx 0 _ rfl
        rw[<-HI.o.bel.cell (aC i0)]at i0
        rw[bf,aS]at i0
        clear hc1 hx
        simp only[]at i0 hf
        obtain⟨av,cv,ev⟩:=hf.is_slice
        subst ev
        clear hf
        have hz:=HX.o.2.1
        by_cases q1:256<f.length
        . have HN:Hid (¬Aq p.regions):=fun e=>absurd (e.2 k (by rw[HL.o.1];exact hlt) f HX.o.2.2).1 (by omega)
          have q1':(256:Int)<(f.length:Int):=by omega
          generalize f.length=z at*
          go_wp2
          go_ret
          exact⟨.f1 HN.o,HI.o.bel⟩
        . have q1':¬(256:Int)<(f.length:Int):=by omega
          go_wp2_with fail
          refine(EP _ f _ HX.o.2.1 HX.o.1).mono ?_
          rintro e u ⟨rfl,rfl⟩
          cases t1:f.all Db
          . have HN:Hid (¬Aq p.regions):=fun e=>by have:=(e.2 k (by rw[HL.o.1];exact hlt) f HX.o.2.2).2;simp[t1]at this
            clear t1
            go_wp2
            go_ret
            exact⟨.f1 HN.o,HI.o.bel⟩
          . have HN:Hid (EH f):=⟨by omega,t1⟩
            clear t1
            go_wp2
            go_roundw
            case rel=>exact⟨k+1,by omega,by go_num,BW HX.o.2.2 HN.o HT.o,HI⟩
            case measure=>simp[intOf];omega
    . have hkn : 3=k:=by omega
      subst hkn
      have HR:Hid (Aq p.regions):=⟨HL.o.1,by rw[HL.o.1];exact HT.o⟩
      clear HT hlt hk
      go_wp2_with fail
      refine(Ko ⟨.slice r1 3 c1,vk,.slice r3 m c3,vt⟩ p _ HP.o.small (HP.o.rd.keep HI.o.bel lR)).mono ?_
      rintro e u1 ⟨⟨b1,rfl,hb1⟩,bl1⟩
      have HI1:Hid (FQ w u1 (.slice r1 3 c1) vk (.slice r3 m c3) vt):=HI.o.keep bl1
      clear bl1 p0 p1 p2 p3 HI
      cases b1
      . have HN:Hid (¬AH p.consts):=fun e=>by simp[e]at hb1
        clear hb1
        go_wp2
        go_ret
        exact⟨.f2 HR.o HN.o,HI1.o.bel⟩
      have HRC:Hid (Aq p.regions/\AH p.consts):=⟨HR.o,hb1.1 rfl⟩
      clear hb1 HR
      obtain⟨p0,p1,p2,p3⟩:=HI1.o.prog
      by_cases q2:m=0
      . have HN:Hid (¬AO p.funcs):=fun e=>e.1 (HL.o.2.trans q2)
        subst q2
        go_wp2
        go_ret
        exact⟨.f3 HRC.o HN.o,HI1.o.bel⟩
      have q2':((m:Int)==0)=false:=by simpa using q2
      by_cases q3:32<m
      . have HN:Hid (¬AO p.funcs):=fun e=>absurd e.2.1 (by rw[HL.o.2];omega)
        have q3':(32:Int)<(m:Int):=by omega
        go_wp2
        go_ret
        exact⟨.f3 HRC.o HN.o,HI1.o.bel⟩
      have q3':¬(32:Int)<(m:Int):=by omega
      go_wp2
      clear p0 p1 p2 p3 q2' q3'
      go_loopw [4] (fun i wr=>∃k:Nat,k<=m/\i=.int .i64 k/\Hid (∀j,j<k->∀f,p.funcs[j]?=some f->Bo f (decide (j=0)))/\Hid (FQ w wr (.slice r1 3 c1) vk (.slice r3 m c3) vt)) (fun i _=>m-(intOf i).toNat)
      case atStart=>exact⟨0,by omega,rfl,fun j hj=>by omega,HI1⟩
      case round =>
       clear HI1
       obtain⟨k,hk,rfl,HT,HI⟩:=hrel
       obtain⟨p0,p1,p2,p3⟩:=HI.o.prog
       by_cases hlt:k<m
       . obtain⟨⟨f,v⟩,hx⟩:∃x,ys[k]?=some x:=⟨_,aA (by rw[HP.o.fl,HL.o.2];exact hlt)⟩
         have e1:=BM HP.o.fm hx
         have HX:Hid (C9 wr v f/\f.small/\p.funcs[k]?=some f):=⟨(HP.o.fe _ (aE hx)).keep HI.o.bel lR,HP.o.small.func _ (aE e1),e1⟩
         clear e1
         rcases HP.o.fr.2 with⟨e0,_⟩|⟨b,o,c,e1,hc1⟩
         . rw[HL.o.2]at e0
           omega
         rw[HL.o.2]at e1
         simp only[aF,aw]at e1
         obtain⟨rfl,rfl⟩:=e1
         have i0:=Rd.elem Ah hc1 k _ hx 0 _ rfl
         have i1:=Rd.elem Ah hc1 k _ hx 1 _ rfl
         have i2:=Rd.elem Ah hc1 k _ hx 2 _ rfl
         have i3:=Rd.elem Ah hc1 k _ hx 3 _ rfl
         rw[<-HI.o.bel.cell (aC i0),aS]at i0
         rw[<-HI.o.bel.cell (aC i1)]at i1
         rw[<-HI.o.bel.cell (aC i2)]at i2
         rw[<-HI.o.bel.cell (aC i3)]at i3
         clear hc1 hx
         simp only[]at i0 i1 i2 i3
         go_wp2_with fail
         refine(Mz v f ((k:Int)==0) _ HX.o.2.1 HX.o.1).mono ?_
         rintro e u2 ⟨⟨b2,rfl,hb2⟩,bl2⟩
         have HI2:Hid (FQ w u2 (.slice r1 3 c1) vk (.slice (some ⟨b,o,none⟩) m c3) vt):=HI.o.keep bl2
         have hk0:((k:Int)==0)=decide (k=0):=by
          by_cases e:k=0
          . subst e
            rfl
          . rw[bI e]
            simpa using e
         rw[hk0]at hb2
         clear bl2 HI p0 p1 p2 p3 i0 i1 i2 i3 hk0
         cases b2
         . have HN:Hid (¬AO p.funcs):=fun e=>by simp[Ld e HX.o.2.2]at hb2
           clear hb2
           go_wp2
           go_ret
           exact⟨.f3 HRC.o HN.o,HI2.o.bel⟩
         . have HC:Hid (Bo f (decide (k=0))):=hb2.1 rfl
           clear hb2
           go_wp2
           go_roundw
           case rel=>exact⟨k+1,by omega,by go_num,PY HX.o.2.2 HC.o HT.o,HI2⟩
           case measure=>simp[intOf];omega
       . have hkn:m=k:=by omega
         subst hkn
         have HFo:Hid (AO p.funcs):=La HL.o.2 q2 (by omega) HT.o
         clear HT hlt hk
         go_wp2
         clear p0 p1 p2 p3
         go_loopw [5,6] (fun i kk wr=>∃k:Nat,k<=m/\i=.int .i64 k/\Hid (∀j,j<k->∀f,p.funcs[j]?=some f->Ds p f)/\Hid (FQ w wr (.slice r1 3 c1) vk (.slice r3 m c3) vt)) (fun i _ _=>m-(intOf i).toNat)
         case atStart=>exact⟨0,by omega,rfl,fun j hj=>by omega,HI⟩
         case round=>
          clear HI
          obtain⟨k,hk,rfl,HT,HI⟩:=hrel
          obtain⟨p0,p1,p2,p3⟩:=HI.o.prog
          by_cases hlt:k<m
          . obtain⟨⟨f,v⟩,hx⟩:∃x,ys[k]?=some x:=⟨_,aA (by rw[HP.o.fl,HL.o.2];exact hlt)⟩
            have e1:=BM HP.o.fm hx
            have HX:Hid (C9 w v f/\f.small/\p.funcs[k]?=some f/\f.wf):=⟨HP.o.fe _ (aE hx),HP.o.small.func _ (aE e1),e1,HP.o.wf.funcs _ (aE e1)⟩
            clear e1
            rcases HP.o.fr.2 with⟨e0,_⟩|⟨b,o,c,e1,hc1⟩
            . rw[HL.o.2]at e0
              omega
            rw[HL.o.2]at e1
            simp only[aF,aw]at e1
            obtain⟨rfl,rfl⟩:=e1
            have HCF:Hid (w.cell? ⟨b,o+k*4,none⟩=some v.p/\w.cell? ⟨b,o+k*4+1,none⟩=some (.int .i64 f.result)/\w.cell? ⟨b,o+k*4+2,none⟩=some v.l/\w.cell? ⟨b,o+k*4+3,none⟩=some v.c):=⟨Rd.elem Ah hc1 k _ hx 0 _ rfl,Rd.elem Ah hc1 k _ hx 1 _ rfl,Rd.elem Ah hc1 k _ hx 2 _ rfl,Rd.elem Ah hc1 k _ hx 3 _ rfl⟩
            clear hc1 hx
            obtain⟨ac,cc,ec⟩:=HX.o.1.2.2.is_slice
            obtain⟨vp,vl,vc⟩:=v
            simp only[]at ec
            subst ec
            have hz:=HX.o.2.1.2.2
            generalize hZ:f.code.length=z at*
            have HZ:Hid (f.code.length=z):=hZ
            clear hZ
            have i3:=HCF.o.2.2.2
            rw[<-HI.o.bel.cell (aC i3)]at i3
            simp only[]at i3
            go_wp2
            clear p0 p1 p2 p3 i3
            go_loopw [6] (fun i wr=>∃q:Nat,q<=z/\i=.int .i64 q/\Hid (∀j,j<q->∀x,f.code[j]?=some x->AP p f x)/\Hid (FQ w wr (.slice r1 3 c1) vk (.slice (some ⟨b,o,none⟩) m c3) vt)) (fun i _=>z-(intOf i).toNat)
            case atStart=>exact⟨0,by omega,rfl,fun j hj=>by omega,HI⟩
            case round=>
             clear HI
             obtain⟨q,hq,rfl,HTT,HI⟩:=hrel
             obtain⟨p0,p1,p2,p3⟩:=HI.o.prog
             obtain⟨i0,i1,i2,i3⟩:=HCF.o
             rw[<-HI.o.bel.cell (aC i0)]at i0
             rw[<-HI.o.bel.cell (aC i1)]at i1
             rw[<-HI.o.bel.cell (aC i2)]at i2
             rw[<-HI.o.bel.cell (aC i3)]at i3
             by_cases hlq:q<z
             . obtain⟨x,hx⟩:∃x,f.code[q]?=some x:=⟨_,aA (by rw[HZ.o];exact hlq)⟩
               have hxw:=HX.o.2.2.2.code x (aE hx)
               rcases HX.o.1.2.2.2 with⟨e0,_⟩|⟨b',o',c',e1,hc2⟩
               . rw[HZ.o]at e0
                 omega
               rw[HZ.o]at e1
               simp only[aF,aw]at e1
               obtain⟨rfl,rfl⟩:=e1
               have j0:=Rd.elem MI.cells_length hc2 q x hx 0 _ rfl
               have j1:=Rd.elem MI.cells_length hc2 q x hx 1 _ rfl
               have j2:=Rd.elem MI.cells_length hc2 q x hx 2 _ rfl
               have j3:=Rd.elem MI.cells_length hc2 q x hx 3 _ rfl
               rw[<-HI.o.bel.cell (aC j0),aS]at j0
               rw[<-HI.o.bel.cell (aC j1)]at j1
               rw[<-HI.o.bel.cell (aC j2)]at j2
               rw[<-HI.o.bel.cell (aC j3)]at j3
               have HXX:Hid (f.code[q]?=some x/\x.wf):=⟨hx,hxw⟩
               clear hc2 hx hxw
               obtain⟨xo,xa,xb,xc⟩:=x
               simp only[]at j0 j1 j2 j3
               have inst:=Ai.some wr
               have P0:=fun n:Ai wr=>Ai.cell p0 n
               have P1:=fun n:Ai wr=>Ai.cell p1 n
               have P2:=fun n:Ai wr=>Ai.cell p2 n
               have P3:=fun n:Ai wr=>Ai.cell p3 n
               have I0:=fun n:Ai wr=>Ai.cell i0 n
               have I1:=fun n:Ai wr=>Ai.cell i1 n
               have I2:=fun n:Ai wr=>Ai.cell i2 n
               have I3:=fun n:Ai wr=>Ai.cell i3 n
               have J0:=fun n:Ai wr=>Ai.cell j0 n
               have J1:=fun n:Ai wr=>Ai.cell j1 n
               have J2:=fun n:Ai wr=>Ai.cell j2 n
               have J3:=fun n:Ai wr=>Ai.cell j3 n
               by_cases hok:AP p f ⟨xo,xa,xb,xc⟩
               . have HOK:Hid (AP p f ⟨xo,xa,xb,xc⟩):=hok
                 clear hok
                 go_wp2_with fail
                 refine At (by kernel_rfl) (by kernel_rfl) ?_
                 repeat(go_big_quiet_step ((go_at_call 40;rename_i n;exact(GX ⟨.slice r1 3 c1,vk,.slice (some ⟨b,o,none⟩) m c3,vt⟩ p ⟨vp,vl,.slice (some ⟨b',o',none⟩) z cc⟩ f xo xa xb xc n.u HP.o.small HL.o.1 HX.o.2.1 HXX.o.2.2.1 HXX.o.2.2.2.1 HXX.o.2.2.2.2 (HP.o.rd.keep (Ab HI.o.bel lR n.h) lR) (HX.o.1.keep (Ab HI.o.bel lR n.h) lR)).mono fun e w'' h=>⟨h.1.true HOK.o,⟨⟨w'',Ab n.h lR h.2⟩,rfl⟩⟩)))
                 refine wpQuiet_nil ?_
                 rintro w'' ⟨n,rfl⟩
                 have HI4:Hid (FQ w n.u (.slice r1 3 c1) vk (.slice (some ⟨b,o,none⟩) m c3) vt):=HI.o.keep n.h
                 clear HI p0 p1 p2 p3 i0 i1 i2 i3 j0 j1 j2 j3 P0 P1 P2 P3 I0 I1 I2 I3 J0 J1 J2 J3 inst
                 go_wp2
                 go_roundw
                 case rel=>exact⟨q+1,by omega,by go_num,BW HXX.o.1 HOK.o HTT.o,HI4⟩
                 case measure=>simp[intOf];omega
               . have HOK:Hid (¬AP p f ⟨xo,xa,xb,xc⟩):=hok
                 have HN:Hid (¬B4 p):=fun e=>hok (e k (by rw[HL.o.2];exact hlt) f HX.o.2.2.1 q (by rw[HZ.o];exact hlq) _ HXX.o.1)
                 clear hok
                 go_wp2_with fail
                 refine At (by kernel_rfl) (by kernel_rfl) ?_
                 repeat(go_big_quiet_step ((go_at_call 40;rename_i n;exact(GX ⟨.slice r1 3 c1,vk,.slice (some ⟨b,o,none⟩) m c3,vt⟩ p ⟨vp,vl,.slice (some ⟨b',o',none⟩) z cc⟩ f xo xa xb xc n.u HP.o.small HL.o.1 HX.o.2.1 HXX.o.2.2.1 HXX.o.2.2.2.1 HXX.o.2.2.2.2 (HP.o.rd.keep (Ab HI.o.bel lR n.h) lR) (HX.o.1.keep (Ab HI.o.bel lR n.h) lR)).mono fun e w'' h=>⟨h.1.false HOK.o,⟨⟨w'',Ab n.h lR h.2⟩,rfl⟩⟩)))
                 refine wpQuiet_nil ?_
                 rintro w'' ⟨n,rfl⟩
                 have HI4:Hid (FQ w n.u (.slice r1 3 c1) vk (.slice (some ⟨b,o,none⟩) m c3) vt):=HI.o.keep n.h
                 clear HI p0 p1 p2 p3 i0 i1 i2 i3 j0 j1 j2 j3 P0 P1 P2 P3 I0 I1 I2 I3 J0 J1 J2 J3 inst
                 go_wp2
                 go_ret
                 exact⟨.f4 HRC.o HFo.o HN.o,HI4.o.bel⟩
             . have hqz:z=q:=by omega
               subst hqz
               have HFC:Hid (Ds p f):=fun j hj x hx=>HTT.o j (by rw[<-HZ.o];exact hj) x hx
               go_wp2
               go_roundw
               case rel=>exact⟨k+1,by omega,by go_num,BW HX.o.2.2.1 HFC.o HT.o,HI⟩
               case measure=>simp[intOf];omega
          . have hkn:m=k:=by omega
            subst hkn
            have HCo:Hid (B4 p):=fun j hj f hf=>HT.o j (by rw[<-HL.o.2];exact hj) f hf
            go_wp2_with fail
            refine(Lm ⟨.slice r1 3 c1,vk,.slice r3 m c3,vt⟩ p _ HP.o.small HP.o.wf (HP.o.rd.keep HI.o.bel lR)).mono ?_
            rintro e u5 ⟨⟨b5,rfl,hb5⟩,bl5⟩
            have HI5:Hid (Below w.heap.size w u5):=Ab HI.o.bel lR bl5
            clear bl5 p0 p1 p2 p3
            cases b5
            . have HN:Hid (¬AY p):=fun e=>by simp[e]at hb5
              clear hb5
              go_wp2
              go_ret
              exact⟨.f5 HRC.o HFo.o HCo.o HN.o,HI5.o⟩
            . have HY:Hid (AY p):=hb5.1 rfl
              clear hb5
              go_wp2
              go_ret
              exact⟨.f0 HRC.o HFo.o HCo.o HY.o,HI5.o⟩
 . have HN:Hid (¬Aq p.regions):=fun e=>q0 e.1
   have q0':((p.regions.length:Int)==3)=false:=by simp;omega
   have q0'':¬(p.regions.length:Int)=3:=by omega
   go_enter Tryz.func15,Tryz.ntmps15
   go_wp2
   go_ret
   exact⟨.f1 HN.o,HI.o.bel⟩
structure LP(w u:World)(V:Value)(ys:List (ML×Value×Value)):Prop where
 lps:u.ownsRow w.heap.size 68 3 V ys.length (ys.flatMap Ba)
 fam:Cc u w.heap.size (ys.map fun y=>(y.2.2,y.1.blocks))
 bel:Below w.heap.size w u
theorem LP.keep{w u u':World}{V:Value}{ys:List (ML×Value×Value)}(h:LP w u V ys)(hb:Below u.heap.size u u'):LP w u' V ys:=⟨Ag h.lps hb lR,h.fam.keepB hb,Ab h.bel lR hb⟩
theorem LP.add{w u u1 u':World}{g cap:Nat}{V BV KV:Value}{ys:List (ML×Value×Value)}{m:ML}(h:LP w u V ys)(hb:Below u.heap.size u u1)(h2:u1.ownsRow u.heap.size 2 1 KV m.blocks.length (m.blocks.flatMap Ac))(hown:u'.ownsRow w.heap.size 68 3 (.slice (some ⟨g,0,none⟩) (ys.length+1) cap) (ys.length+1) (ys.flatMap Ba++[.int .i64 m.head,BV,KV]))(hg:u1.grownBy u' V.ownBlock):LP w u' (.slice (some ⟨g,0,none⟩) (ys.length+1) cap) (ys++[(m,BV,KV)]):=by
 have h':=h.keep hb
 have kf:Cc u1 w.heap.size ((ys++[(m,BV,KV)]).map fun y=>(y.2.2,y.1.blocks)):=by
  have:=h.fam.join hb h2 h.bel.size;simpa using this
 refine⟨?_,kf.grown_other hg h'.lps (by decide),h'.bel.grown hg h'.bel.size (fun i hi=>(h'.lps.lt i hi).1)⟩;rw[aH,aI,bP];exact hown
theorem KX{E:Nat->List Nat}{D:Nat->Nat->Bool}{n b:Nat}{S O:List Nat}{Lf:Nat->Bool}(hE:∀b,b<n->∀x∈E b,x<n)(hb:b<n)(hv:Vs (AV E n) [b] [] (An E D n b) S O)(hL:∀x,Lf x=true↔Ar E D n b x):((ints (O++[b])).mergeSort fun x y=>decide (x<=y))=ints ((List.range n).filter Lf)/\O.length+1<=n:=by
 obtain⟨N,t⟩:=hv.told;obtain rfl:O=N:=by simpa using t.o
 have hfr:∀q,q<n->∀x∈AV E n q,x<n:=fun q _ x hx=>((BS E n q x).1 hx).1
 have hOlt:∀x∈O,x<n:=fun x hx=>by
  obtain⟨q,q1,q2⟩:=t.from_ x hx;exact q2.lt hfr ((Cu E D n b q).1 q1).1
 have hbO:b∉O:=fun q=>t.fresh b q (bR ..)
 have hnd:(O++[b]).Nodup:=dX.2 ⟨t.nodup,by simp,fun a ha c hc e=>by
  simp only[aa,ao,cH]at hc;subst hc e;exact hbO ha⟩
 have hm:∀x,x∈O++[b]↔Ar E D n b x:=fun x=>by
  rw[aU,dU];unfold Ar;rw[Or.comm];refine or_congr_right ?_;rw[t.iff x];constructor
  . rintro⟨q,q1,q2⟩
    exact⟨q,q1,q2.mono fun y hy e=>hy (by rw[e];simp)⟩
  . rintro⟨q,q1,q2⟩
    exact⟨q,q1,q2.mono fun y hy e=>hy (by simpa using e)⟩
 have hint:(ints (O++[b])).Nodup:=by
  unfold ints;refine dH.2 (hnd.imp fun h e=>h (by omega))
 refine⟨?_,?_⟩
 . refine FL _ _ (JT _ hint) ?_ fun z=> ?_
   . unfold ints
     refine dH.2 ((List.Pairwise.filter _ dg).imp fun h=>by omega)
   . rw [(dd _ _).mem_iff]
     unfold ints;rw[au,au];constructor
     . rintro⟨x,h1,h2⟩
       refine⟨x,da.2 ⟨br.2 ?_,(hL x).2 ((hm x).1 h1)⟩,h2⟩;rcases aU.1 h1 with q|q
       . exact hOlt x q
       . have:x=b:=by simpa using q
         omega
     . rintro⟨x,h1,h2⟩
       exact⟨x,(hm x).2 ((hL x).1 (da.1 h1).2),h2⟩
 . have:=Eb (O++[b]) n (fun x hx=>by
    rcases aU.1 hx with q|q
    . exact hOlt x q
    . have:x=b:=by simpa using q
      omega) hnd
   rw[aH,aI]at this;omega
theorem Od(G n gF cF gB:Nat)(E:Nat->List Nat)(D Lf:Nat->Nat->Bool)(FS:List (Value×List Nat))(w:World)(hn:n<=1024)(hE:∀b,b<n->∀x∈E b,x<n)(hsz:∀b,(E b).length<=2)(hL:∀h x,Lf h x=true↔Ar E D n h x)(h1:w.cell? ⟨G,1,none⟩=some (.slice (some ⟨gF,0,none⟩) n cF))(hF:CK w gF 0 n (AV E n))(hB:∀x,x<n->∃V,FS[x]?=some (V,An E D n x)/\w.cell? ⟨gB,x,none⟩=some V/\DR w V (An E D n x)):
 Calls Tryz.prog 89 #[.pointer (some ⟨G,0,none⟩),.slice (some ⟨gB,0,none⟩) n n] w fun e w'=>∃V,e=.returned V/\∃ys,LP w w' V ys/\ys.map Prod.fst=AZ E D Lf n n/\List.Sublist (ys.map fun y=>(y.2.1,y.1.back)) (FS.map fun x=>(x.1,ints x.2)):=by
 obtain⟨k0,hk,hx0,hx1,hx2⟩:=bQ BE;obtain⟨l0,hl,hl0,hl1,hl2⟩:=bQ Kk;have H:Hid (CK w gF 0 n (AV E n)/\(∀b,b<n->∀x∈E b,x<n)/\(∀b,(E b).length<=2)/\(∀h x,Lf h x=true↔Ar E D n h x)/\w.cell? ⟨G,1,none⟩=some (.slice (some ⟨gF,0,none⟩) n cF)/\(∀x,x<n->∃V,FS[x]?=some (V,An E D n x)/\w.cell? ⟨gB,x,none⟩=some V/\DR w V (An E D n x))):=⟨hF,hE,hsz,hL,h1,hB⟩
 clear hF hE hsz hL h1 hB;go_enter Tryz.func89,Tryz.ntmps89;go_wp2
 go_loopw [5,12] (fun V i wr=>∃(b:Nat) (ys:List (ML×Value×Value)) (a:Option Addr) (c:Nat),b<=n/\i=.int .i64 b/\V=.slice a ys.length c/\ys.length<=b/\Hid (LP w wr V ys/\ys.map Prod.fst=AZ E D Lf n b/\List.Sublist (ys.map fun y=>(y.2.1,y.1.back)) ((FS.take b).map fun x=>(x.1,ints x.2)))) (fun _ i _=>n-(intOf i).toNat)
 case atStart=>exact⟨0,[],none,0,by omega,rfl,rfl,by simp,⟨bL _ _ _ _,⟨fun x hx=>(by cases hx),List.Pairwise.nil⟩,aX _ _⟩,rfl,by simp⟩
 case round=>
  obtain⟨b,ys,al,cl,hb,rfl,rfl,hyl,HL⟩:=hrel;by_cases hlt:b<n
  . have hltI:(b:Int)<(n:Int):=by omega
    obtain⟨VB,q1,q2,q3⟩:=H.o.2.2.2.2.2 b hlt;obtain⟨aB,cB,rfl⟩:=Rd.is_slice q3;have HV:Hid (FS[b]?=some (.slice aB (An E D n b).length cB,An E D n b)/\DR w (.slice aB (An E D n b).length cB) (An E D n b)):=⟨q1,q3⟩
    have HTK:Hid ((FS.take (b+1)).map (fun x=>(x.1,ints x.2))=(FS.take b).map (fun x=>(x.1,ints x.2))++[(.slice aB (An E D n b).length cB,ints (An E D n b))]):=by
     obtain⟨hl,e⟩:=aD.1 q1;show _=_;rw[ah hl,e,bx];rfl
    replace q2:=Ad HL.o.1.bel q2
    have hbm:(An E D n b).length<=2048:=by have:=D7 H.o.2.2.1 D b n;omega
    clear q1 q3;by_cases hBL:An E D n b=[]
    . have hbl0:(An E D n b).length=0:=by rw[hBL];rfl
      have HN:Hid (ys.map Prod.fst=AZ E D Lf n (b+1)/\List.Sublist (ys.map fun y=>(y.2.1,y.1.back)) ((FS.take (b+1)).map fun x=>(x.1,ints x.2))):=by
       refine⟨?_,?_⟩
       . rw[Di,a8 hBL,dR]
         exact HL.o.2.1
       . rw[HTK.o]
         exact HL.o.2.2.trans (List.sublist_append_left _ _)
      rw[hbl0]at q2;go_wp2
      go_roundw
      case rel=>exact⟨b+1,ys,al,cl,by omega,by go_num,by trivial,by omega,HL.o.1,HN.o.1,HN.o.2⟩
      case measure=>simp[intOf];omega
    . have hbp:0<(An E D n b).length:=dQ.2 hBL
      have hbpB:(((An E D n b).length:Int)==0)=false:=by simp;omega
      have hbpI:¬((An E D n b).length:Int)=0:=by omega
      have f1:=Ad HL.o.1.bel H.o.2.2.2.2.1;have bA:=Aa wr (.cells #[.int .i64 (b:Int)] 2);have f2:=Ad bA f1;have HAA:Hid (Below w.heap.size w (wr.alloc (.cells #[.int .i64 (b:Int)] 2))/\(wr.alloc (.cells #[.int .i64 (b:Int)] 2)).cell? ⟨wr.heap.size,0,none⟩=some (.int .i64 (b:Int))/\Below wr.heap.size wr (wr.alloc (.cells #[.int .i64 (b:Int)] 2))):=⟨Ab HL.o.1.bel lR bA,(Ak.new wr #[.int .i64 (b:Int)] 2).cell 0,bA⟩
      clear bA;go_wp2_with fail
      refine(Fy gF 0 cF n (AV E n) _ (An E D n b) _ [b] _ hn (fun q hq x hx=>((BS E n q x).1 hx).1) (fun q=>by have:=GA H.o.2.2.1 n q;omega) (H.o.1.keep HAA.o.1) (fun x hx=>((Cu E D n b x).1 hx).1) (by omega) (HV.o.2.keep HAA.o.1) (.inr ⟨b,wr.heap.size,1,rfl,hlt,rfl,HAA.o.2.1⟩)).mono ?_;rintro e u2 ⟨V2,S2,O2,rfl,hv2,ho2,b2⟩;obtain⟨a2,c2,rfl⟩:=Ax ho2;obtain⟨hsort,hOl⟩:=KX H.o.2.1 hlt hv2 (H.o.2.2.2.1 b);have HO2:Hid (DQ u2 wr.heap.size (.slice a2 O2.length c2) O2/\Below wr.heap.size wr u2/\((ints (O2++[b])).mergeSort fun x y=>decide (x<=y))=ints ((List.range n).filter (Lf b))):=⟨AF ho2 HAA.o.2.2.size,Ab HAA.o.2.2 lR b2,hsort⟩
      have hA2:=Aa u2 (.cells #[.int .i64 (b:Int)] 2);have HOA:Hid ((u2.alloc (.cells #[.int .i64 (b:Int)] 2)).ownsRow wr.heap.size 2 1 (.slice a2 O2.length c2) O2.length (nv O2)/\wr.heap.size<=(u2.alloc (.cells #[.int .i64 (b:Int)] 2)).heap.size/\Below wr.heap.size wr (u2.alloc (.cells #[.int .i64 (b:Int)] 2))):=⟨HO2.o.1.keep hA2,aY HO2.o.2.1.size hA2.size,Ab HO2.o.2.1 lR hA2⟩
      clear hv2 ho2 b2 hsort HAA f1 f2 hA2
      go_wp2_with (first
       |(at_builtin;refine wpList_append_lies _ rfl _ _ 28 rfl wr.heap.size 2 k0 (.int .i64 0) 1 8 Tryz.underlying28 hk hx0 hx1 hx2 rfl (by decide) _ O2.length (nv O2) rfl HOA.o.1 ⟨u2.heap.size,0,none⟩ 1 1 [.int .i64 (b:Int)] rfl rfl (A5 u2 (b:Int)) (fun u hu=>by simp at hu;subst hu;rfl) (by omega) (by simp[maxLen];omega) (by omega) HOA.o.2.1 _ rfl ?_;intro g3 cap3 w3 hown hgrow hat hlt9;have HO3:Hid (w3.ownsRow wr.heap.size 2 1 (.slice (some ⟨g3,0,none⟩) (O2.length+1) cap3) (O2.length+1) (nv (O2++[b]))/\Below wr.heap.size wr w3):=⟨by rw[DC];exact hown,HOA.o.2.2.grown hgrow HOA.o.2.2.size (fun i hi=>(HO2.o.1.lt i hi).1)⟩;clear hown hgrow hat hlt9)
       |fail)
      have HZ:Hid (w3.ownsRow wr.heap.size 2 1 (.slice (some ⟨g3,0,none⟩) (ints (O2++[b])).length cap3) (ints (O2++[b])).length ((ints (O2++[b])).flatMap Ac)/\(ints (O2++[b])).length=O2.length+1):=by
       have e:(ints (O2++[b])).length=O2.length+1:=by rw[AA,aH,aI]
       rw[e,<-Ck];exact⟨HO3.o.1,rfl⟩
      have HSO:=Pu g3 cap3 wr.heap.size (ints (O2++[b])) w3 (by rw[HZ.o.2];omega) HZ.o.1;rw[HZ.o.2,HO2.o.2.2]at HSO;refine HSO.mono ?_;rintro e u4 ⟨rfl,ho4,g4⟩
      have hlenF:((List.range n).filter (Lf b)).length=O2.length+1:=by
       have:=congrArg List.length HO2.o.2.2;rw[(dd _ _).length_eq,HZ.o.2,AA]at this;exact this.symm
      have HU4:Hid (u4.ownsRow wr.heap.size 2 1 (.slice (some ⟨g3,0,none⟩) (O2.length+1) cap3) (ints ((List.range n).filter (Lf b))).length ((ints ((List.range n).filter (Lf b))).flatMap Ac)/\Below wr.heap.size wr u4):=by
       refine⟨by rw[AA,hlenF];exact ho4,HO3.o.2.grown g4 HO3.o.2.size (fun j hj=>by cases hj;exact(Am HO3.o.1).1)⟩
      clear ho4 g4 HSO HZ HO3 HOA HO2 hlenF;have bN:=Aa u4 (.cells #[.int .i64 (b:Int),.slice aB (An E D n b).length cB,.slice (some ⟨g3,0,none⟩) (O2.length+1) cap3] 68)
      have HPN:Hid (LP w (u4.alloc (.cells #[.int .i64 (b:Int),.slice aB (An E D n b).length cB,.slice (some ⟨g3,0,none⟩) (O2.length+1) cap3] 68)) (.slice al ys.length cl) ys/\Below wr.heap.size wr (u4.alloc (.cells #[.int .i64 (b:Int),.slice aB (An E D n b).length cB,.slice (some ⟨g3,0,none⟩) (O2.length+1) cap3] 68))/\w.heap.size<=(u4.alloc (.cells #[.int .i64 (b:Int),.slice aB (An E D n b).length cB,.slice (some ⟨g3,0,none⟩) (O2.length+1) cap3] 68)).heap.size):=by
       have hb4:=Ab HU4.o.2 lR bN;exact⟨HL.o.1.keep hb4,hb4,aY HL.o.1.bel.size hb4.size⟩
      have HNW:Hid (∀j u,[(.int .i64 (b:Int):Value),.slice aB (An E D n b).length cB,.slice (some ⟨g3,0,none⟩) (O2.length+1) cap3][j]?=some u->(u4.alloc (.cells #[.int .i64 (b:Int),.slice aB (An E D n b).length cB,.slice (some ⟨g3,0,none⟩) (O2.length+1) cap3] 68)).cell? ((⟨u4.heap.size,0,none⟩:Addr).add j)=some u):=fun j u hj=>World.news_of_block (Ak.new u4 #[.int .i64 (b:Int),.slice aB (An E D n b).length cB,.slice (some ⟨g3,0,none⟩) (O2.length+1) cap3] 68) j u hj
      have HGO:Hid (∀g9 cap9 w9,w9.ownsRow w.heap.size 68 3 (.slice (some ⟨g9,0,none⟩) (ys.length+1) cap9) (ys.length+1) (ys.flatMap Ba++[.int .i64 (b:Int),.slice aB (An E D n b).length cB,.slice (some ⟨g3,0,none⟩) (O2.length+1) cap3])->(u4.alloc (.cells #[.int .i64 (b:Int),.slice aB (An E D n b).length cB,.slice (some ⟨g3,0,none⟩) (O2.length+1) cap3] 68)).grownBy w9 (Value.slice al ys.length cl).ownBlock->LP w w9 (.slice (some ⟨g9,0,none⟩) (ys.length+1) cap9) (ys++[((⟨(b:Int),ints (An E D n b),ints ((List.range n).filter (Lf b))⟩:ML),(.slice aB (An E D n b).length cB:Value),(.slice (some ⟨g3,0,none⟩) (O2.length+1) cap3:Value))])):=fun g9 cap9 w9 hown hgrow=>HL.o.1.add (m:=⟨(b:Int),ints (An E D n b),ints ((List.range n).filter (Lf b))⟩) HPN.o.2.1 (Ag HU4.o.1 bN lR) hown hgrow
      have HFN:Hid ((ys++[((⟨(b:Int),ints (An E D n b),ints ((List.range n).filter (Lf b))⟩:ML),(.slice aB (An E D n b).length cB:Value),(.slice (some ⟨g3,0,none⟩) (O2.length+1) cap3:Value))]).map Prod.fst=AZ E D Lf n (b+1)/\List.Sublist ((ys++[((⟨(b:Int),ints (An E D n b),ints ((List.range n).filter (Lf b))⟩:ML),(.slice aB (An E D n b).length cB:Value),(.slice (some ⟨g3,0,none⟩) (O2.length+1) cap3:Value))]).map fun y=>(y.2.1,y.1.back)) ((FS.take (b+1)).map fun x=>(x.1,ints x.2))):=by
       refine⟨?_,?_⟩
       . rw[Di,bF hBL,bx,HL.o.2.1]
         rfl
       . rw[HTK.o,bx]
         exact HL.o.2.2.append (List.Sublist.refl _)
      have hmx9:ys.length+1<=maxLen:=by unfold maxLen;omega
      have hby9:(ys.length+1)*56<=140737488355328:=by omega
      have hne9:∀u∈[(.int .i64 (b:Int):Value),.slice aB (An E D n b).length cB,.slice (some ⟨g3,0,none⟩) (O2.length+1) cap3],u.oneCell'=true:=fun u hu=>by simp at hu;rcases hu with rfl|rfl|rfl<;>rfl
      go_wp2_with (at_builtin;refine wpList_append_lies _ rfl _ _ 50 rfl w.heap.size 68 l0 (.agg #[.int .i64 0,.slice none 0 0,.slice none 0 0]) 3 56 Tryz.underlying50 hl hl0 hl1 hl2 rfl (by decide) _ ys.length (ys.flatMap Ba) rfl HPN.o.1.lps ⟨u4.heap.size,0,none⟩ 1 1 [.int .i64 (b:Int),.slice aB (An E D n b).length cB,.slice (some ⟨g3,0,none⟩) (O2.length+1) cap3] rfl rfl HNW.o hne9 Nat.one_pos hmx9 hby9 HPN.o.2.2 _ rfl ?_;intro g9 cap9 w9 hown9 hgrow9 hat9 hlt9;have HU10:Hid (LP w w9 (.slice (some ⟨g9,0,none⟩) (ys.length+1) cap9) (ys++[((⟨(b:Int),ints (An E D n b),ints ((List.range n).filter (Lf b))⟩:ML),(.slice aB (An E D n b).length cB:Value),(.slice (some ⟨g3,0,none⟩) (O2.length+1) cap3:Value))])):=HGO.o g9 cap9 w9 hown9 hgrow9;clear hown9 hgrow9 hat9 hlt9)
      go_roundw
      case rel=>exact⟨b+1,_,some ⟨g9,0,none⟩,cap9,by omega,by go_num,by rw[aH,aI],by rw[aH,aI];omega,HU10.o,HFN.o.1,HFN.o.2⟩
      case measure=>simp[intOf];omega
  . have ebn:b=n:=by omega
    have hltI:¬(b:Int)<(n:Int):=by omega
    rw[ebn]at HL;have HN:Hid (List.Sublist (ys.map fun y=>(y.2.1,y.1.back)) (FS.map fun x=>(x.1,ints x.2))):=HL.o.2.2.trans (List.Sublist.map _ (List.take_sublist _ _));go_wp2
    go_ret
    exact⟨_,rfl,ys,HL.o.1,HL.o.2.1,HN.o⟩
end Go.Proofs.YtdipfjmlfbdkdaaGreat
