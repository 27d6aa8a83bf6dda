import Derived.Test.YtjpobijiblcgaaaGreatFw0
import Derived.Test.YtjpobijiblcgaaaGreatFw6
namespace Go.Proofs.YtjpobijiblcgaaaGreat
open Go.ChangeShapes Go.WideShapes Go.ChangeAt Go.RowKit
set_option linter.unusedVariables false
set_option maxHeartbeats 4000000
set_option maxRecDepth 100000
def N7(p:MP)(c:MT):Prop:=∃f,p.funcs[c.func.toNat]?=some f/\0<=c.func/\0<=c.head/\c.head<f.code.length/\AS f c.counter=3
def Kp(d c:MT):Prop:=d.func<c.func\/d.func=c.func/\d.head<c.head
def Fs(p:MP)(cs:List MT)(j:Nat):Prop:=∀c,cs[j]?=some c->N7 p c/\∀i d,i+1=j->cs[i]?=some d->Kp d c
def Ci(p:MP):Prop:=p.certs.length<=64/\∀j,j<p.certs.length->Fs p p.certs j
theorem Gq{p:MP}{cs:List MT}{k:Nat}(hx:Fs p cs k)(h:∀j,j<k->Fs p cs j):∀j,j<k+1->Fs p cs j:=by
  intro j hj;by_cases e:j=k
  . subst e
    exact hx
  . exact h j (by omega)
theorem K7 (v : VP)(p:MP)(w:World)(hs:p.small)(hw:p.wf)(h:Fr w v p):
    Calls Tryz.prog 97 #[.agg #[v.r,v.k,v.f,v.t]] w fun e w'=>AM e (Ci p)/\Below w.heap.size w w':=by
  obtain⟨vr,vk,vf,vt⟩:=v;have H1:Hid (Rd w 4 vt p.certs.length (p.certs.flatMap MT.cells)):=h.certs;obtain⟨xs,hxs,hrd,hel⟩:=h.funcs;simp only[]at hrd;have hxl:xs.length=p.funcs.length:=by rw[<-hxs];simp
  have H2:=Ah (aH hrd (aH hxs (aH hel (aH hs.func hxl))));have hn:=hs.certs;have hm:=hs.funcs;obtain⟨a1,c1,e1⟩:∃a c,vt=.slice a p.certs.length c:=h.certs.is_slice;obtain⟨a2,c2,e2⟩:=hrd.is_slice;subst e1 e2;have HV:Hid p.wf:=hw;clear h hs hrd hxs hel hxl hw;have HW:Hid (Below w.heap.size w (w.alloc (.cells #[vr,vk,.slice a2 p.funcs.length c2,.slice a1 p.certs.length c1] 65))/\DS (w.alloc (.cells #[vr,vk,.slice a2 p.funcs.length c2,.slice a1 p.certs.length c1] 65)) w.heap.size vr vk (.slice a2 p.funcs.length c2) (.slice a1 p.certs.length c1)):=⟨Aa _ _,DS.new _ _ _ _ _ _⟩
  generalize hcs:p.certs.length=n at*;generalize hfs:p.funcs.length=m at*;have HL:=Ah (aH hcs hfs);clear hcs hfs;go_enter Tryz.func97,Tryz.ntmps97;go_wp2
  go_loopw [3] (fun i wr=>∃k:Nat,k<=n/\i=.int .i64 k/\Hid (∀j,j<k->Fs p p.certs j)/\Hid (Below w.heap.size w wr/\DS wr w.heap.size vr vk (.slice a2 m c2) (.slice a1 n c1))) (fun i _=>n-(intOf i).toNat)
  case atStart=>exact⟨0,by omega,rfl,fun j hj=>by omega,HW⟩
  case round=>
    clear HW;obtain⟨k,hk,rfl,HT,HW⟩:=hrel;obtain⟨p0,p1,p2,p3⟩:=HW.o.2;by_cases hlt:k<n
    . obtain ⟨x,hx⟩:∃x,p.certs[k]?=some x:=⟨_,aA (by rw[HL.o.1];exact hlt)⟩
      have hxw:=HV.o.certs x (aE hx);rcases H1.o.2 with⟨e0,_⟩|⟨b,o,c,e1,hc1⟩
      . omega
      simp only[aI,bU]at e1;obtain⟨rfl,rfl⟩:=e1;have i0:=Rd.elem MT.cells_length hc1 k x hx 0 _ rfl;have i1:=Rd.elem MT.cells_length hc1 k x hx 1 _ rfl;have i2:=Rd.elem MT.cells_length hc1 k x hx 2 _ rfl;have i3:=Rd.elem MT.cells_length hc1 k x hx 3 _ rfl;rw[<-HW.o.1.cell (aF i0),aw]at i0;rw[<-HW.o.1.cell (aF i1)]at i1;rw[<-HW.o.1.cell (aF i2)]at i2;rw[<-HW.o.1.cell (aF i3)]at i3;have HX:Hid (p.certs[k]?=some x):=hx;have HC:Hid (∀j u,(p.certs.flatMap MT.cells)[j]?=some u->w.cell? ⟨b,o+j,none⟩=some u):=hc1;clear hc1 hx;obtain⟨fu,hd,co,ini⟩:=x;simp only[]at i0 i1 i2 i3;obtain⟨x0,x1⟩:=Hb hxw.1;obtain⟨x2,x3⟩:=Hb hxw.2.1;have HCO:Hid (BN co):=hxw.2.2.1;clear hxw;have nb:¬b=wr.heap.size:=cI (aF i0);have mb:b<wr.heap.size:=aF i0;have np:¬w.heap.size=wr.heap.size:=cI HW.o.2.lt;have mp:w.heap.size<wr.heap.size:=HW.o.2.lt
      have HW1:Hid (Below w.heap.size w (wr.alloc (.cells #[.int .i64 fu,.int .i64 hd,.int .i64 co,.int .u32 ini] 118))/\DS (wr.alloc (.cells #[.int .i64 fu,.int .i64 hd,.int .i64 co,.int .u32 ini] 118)) w.heap.size vr vk (.slice a2 m c2) (.slice (some ⟨b,o,none⟩) n c1)/\DS (wr.alloc (.cells #[.int .i64 fu,.int .i64 hd,.int .i64 co,.int .u32 ini] 118)) wr.heap.size (.int .i64 fu) (.int .i64 hd) (.int .i64 co) (.int .u32 ini)):=⟨Af HW.o.1 lR (Aa _ _),HW.o.2.alloc _,DS.new _ _ _ _ _ _⟩
      by_cases q0:fu<0
      . have HN:Hid (¬Ci p):=fun e=>by obtain⟨⟨f,h1,h2,_⟩,_⟩:=e.2 k (by rw[HL.o.1];exact hlt) _ HX.o;simp only[]at h2;omega
        go_wp2
        go_ret
        exact⟨.no HN.o,HW1.o.1⟩
      obtain⟨fn,rfl⟩:=aq (show 0<=fu by omega);clear x0 x1;by_cases q1:m<=fn
      . have HN:Hid (¬Ci p):=fun e=>by
          obtain⟨⟨f,h1,h2,_⟩,_⟩:=e.2 k (by rw[HL.o.1];exact hlt) _ HX.o;have:=(aD.1 h1).1;simp only[]at this;rw[HL.o.2]at this;omega
        have q1':¬(fn:Int)<(m:Int):=by omega
        have q1'':(m:Int)<=(fn:Int):=by omega
        go_wp2
        go_ret
        exact⟨.no HN.o,HW1.o.1⟩
      have q1':¬(m:Int)<=(fn:Int):=by omega
      obtain⟨⟨f,v⟩,hy⟩:∃y,xs[fn]?=some y:=⟨_,aA (by rw[H2.o.2.2.2.2];omega)⟩;have e1:=D1 H2.o.2.1 hy;have HF:Hid (Hq wr v f/\f.small/\p.funcs[fn]?=some f):=⟨(H2.o.2.2.1 _ (aE hy)).keep HW.o.1 lR,H2.o.2.2.2.1 _ (aE e1),e1⟩
      clear e1;rcases H2.o.1.2 with⟨e0,_⟩|⟨b',o',c',e1,hc2⟩
      . omega
      simp only[aI,bU]at e1;obtain⟨rfl,rfl⟩:=e1;have j0:=Rd.elem Ao hc2 fn _ hy 0 _ rfl;have j1:=Rd.elem Ao hc2 fn _ hy 1 _ rfl;have j2:=Rd.elem Ao hc2 fn _ hy 2 _ rfl;have j3:=Rd.elem Ao hc2 fn _ hy 3 _ rfl;rw[<-HW.o.1.cell (aF j0),aw]at j0;rw[<-HW.o.1.cell (aF j1)]at j1;rw[<-HW.o.1.cell (aF j2)]at j2;rw[<-HW.o.1.cell (aF j3)]at j3;clear hc2 hy;simp only[]at j0 j1 j2 j3;obtain⟨ap,cp,ep⟩:=HF.o.1.1.is_slice;obtain⟨al,cl,el⟩:=HF.o.1.2.1.is_slice;obtain⟨ac,cc,ec⟩:=HF.o.1.2.2.is_slice;obtain⟨vp,vl,vc⟩:=v;simp only[]at ep el ec j0 j1 j2 j3;subst ep el ec;have nb':¬b'=wr.heap.size:=cI (aF j0);have mb':b'<wr.heap.size:=aF j0;have hcl:=HF.o.2.1.2.2;have HW2:Hid (Below w.heap.size w ((wr.alloc (.cells #[.int .i64 (fn:Int),.int .i64 hd,.int .i64 co,.int .u32 ini] 118)).alloc (.cells #[.slice ap f.params.length cp,.int .i64 f.result,.slice al f.locals.length cl,.slice ac f.code.length cc] 68))):=Af HW1.o.1 lR (Aa _ _);by_cases q2:hd<0
      . have HN:Hid (¬Ci p):=fun e=>by obtain⟨⟨f,h1,h2,h3,_⟩,_⟩:=e.2 k (by rw[HL.o.1];exact hlt) _ HX.o;simp only[]at h3;omega
        go_wp2
        go_ret
        exact⟨.no HN.o,HW2.o⟩
      by_cases q3:(f.code.length:Int)<=hd
      . have HN:Hid (¬Ci p):=fun e=>by
          obtain⟨⟨g,h1,h2,h3,h4,_⟩,_⟩:=e.2 k (by rw[HL.o.1];exact hlt) _ HX.o;simp only[ao]at h1 h4;rw[HF.o.2.2]at h1;obtain rfl:=bC h1;omega
        go_wp2
        go_ret
        exact⟨.no HN.o,HW2.o⟩
      go_wp2_with fail
      refine(Dc ⟨.slice ap f.params.length cp,.slice al f.locals.length cl,.slice ac f.code.length cc⟩ f co _ HF.o.2.1 HCO.o (HF.o.1.keep (Af (Aa _ _) lR (Aa _ _)) lR)).mono ?_;rintro e u ⟨rfl,bl⟩;have HW3:=Ah (aH (Af HW2.o lR bl) (aH ((HW1.o.2.1.alloc _).keep bl) ((HW1.o.2.2.alloc _).keep bl)));clear bl HW1 HW2 i0 i1 i2 i3 j0 j1 j2 j3 p0 p1 p2 p3 nb mb nb' mb' np mp;by_cases q4:AS f co=3
      . rw [q4]
        have HOK:Hid (N7 p ⟨(fn:Int),hd,co,ini⟩):=⟨f,by simp only[ao];exact HF.o.2.2,by simp only[];omega,by simp only[];omega,by simp only[];omega,q4⟩;clear q4;by_cases q5:k=0
        . subst q5
          have HA:Hid (Fs p p.certs 0):=fun c hc=>by
            rw[HX.o]at hc;obtain rfl:=bC hc;exact⟨HOK.o,fun i d hi=>by omega⟩
          go_wp2
          go_quiet (fail)
          go_wp2
          go_roundw
          case rel=>exact⟨1,by omega,by go_num,Gq HA.o HT.o,⟨HW3.o.1.trans (Am _ _ _),HW3.o.2.1.keep (Am _ _ _)⟩⟩
          case measure=>simp[intOf];omega
        . obtain⟨i,rfl⟩:∃i,k=i+1:=⟨k-1,by omega⟩
          obtain⟨d,hd'⟩:∃d,p.certs[i]?=some d:=⟨_,aA (by rw[HL.o.1];omega)⟩;have y0:=Rd.elem MT.cells_length HC.o i d hd' 0 _ rfl;have y1:=Rd.elem MT.cells_length HC.o i d hd' 1 _ rfl;rw[<-HW3.o.1.cell (aF y0),aw]at y0;rw[<-HW3.o.1.cell (aF y1)]at y1;obtain⟨p0,p1,p2,p3⟩:=HW3.o.2.1;obtain⟨r0,r1,r2,r3⟩:=HW3.o.2.2;obtain⟨dfu,dhd,dco,dini⟩:=d;simp only[]at y0 y1;have HD:Hid (p.certs[i]?=some ⟨dfu,dhd,dco,dini⟩):=hd';clear hd';have hki:((i+1:Nat):Int)-1=(i:Int):=by omega
          have hkp:(0:Int)<((i+1:Nat):Int):=by omega
          by_cases q6:(fn:Int)<dfu
          . have HN:Hid (¬Ci p):=fun e=>by
              have:=(e.2 (i+1) (by rw[HL.o.1];exact hlt) _ HX.o).2 i _ rfl HD.o;simp only[Kp]at this;omega
            go_wp2
            go_quiet (fail)
            go_wp2
            go_ret
            exact⟨.no HN.o,HW3.o.1.trans (Am _ _ _)⟩
          by_cases q7:dfu=(fn:Int)
          . subst q7
            by_cases q8:hd<=dhd
            . have HN:Hid (¬Ci p):=fun e=>by
                have:=(e.2 (i+1) (by rw[HL.o.1];exact hlt) _ HX.o).2 i _ rfl HD.o;simp only[Kp]at this;omega
              go_wp2
              go_quiet (fail)
              go_wp2
              go_ret
              exact⟨.no HN.o,HW3.o.1.trans (Am _ _ _)⟩
            . have HA:Hid (Fs p p.certs (i+1)):=fun c hc=>by
                rw[HX.o]at hc;obtain rfl:=bC hc;refine⟨HOK.o,fun i' d' hi hd'=> ?_⟩;obtain rfl:i'=i:=by omega
                rw[HD.o]at hd';obtain rfl:=bC hd';unfold Kp;dsimp only;omega
              go_wp2
              go_quiet (fail)
              go_wp2
              go_roundw
              case rel=>exact⟨i+1+1,by omega,by go_num,Gq HA.o HT.o,⟨HW3.o.1.trans (Am _ _ _),HW3.o.2.1.keep (Am _ _ _)⟩⟩
              case measure=>simp[intOf];omega
          . have q7':(dfu==(fn:Int))=false:=by simpa using q7
            have q6':decide ((fn:Int)<dfu)=false:=by simpa using q6
            have q9:dfu<(fn:Int):=by omega
            have HA:Hid (Fs p p.certs (i+1)):=fun c hc=>by
              rw[HX.o]at hc;obtain rfl:=bC hc;refine⟨HOK.o,fun i' d' hi hd'=> ?_⟩;obtain rfl:i'=i:=by omega
              rw[HD.o]at hd';obtain rfl:=bC hd';unfold Kp;dsimp only;omega
            go_wp2
            go_quiet (fail)
            go_wp2
            go_roundw
            case rel=>exact⟨i+1+1,by omega,by go_num,Gq HA.o HT.o,⟨HW3.o.1.trans (Am _ _ _),HW3.o.2.1.keep (Am _ _ _)⟩⟩
            case measure=>simp[intOf];omega
      . have HN:Hid (¬Ci p):=fun e=>by
          obtain⟨⟨g,h1,h2,h3,h4,h5⟩,_⟩:=e.2 k (by rw[HL.o.1];exact hlt) _ HX.o;simp only[ao]at h1 h5;rw[HF.o.2.2]at h1;obtain rfl:=bC h1;exact q4 h5
        have q4':(AS f co==3)=false:=by simpa using q4
        have q4'':(AS f co != 3)=true:=by simpa using q4
        go_wp2
        go_ret
        exact⟨.no HN.o,HW3.o.1⟩
    . have hkn:n=k:=by omega
      subst hkn
      have HY:Hid (decide ((n:Int)<=64)=true↔Ci p):=by
        show _↔_;rw[dI];exact⟨fun e=>⟨by rw[HL.o.1];omega,by rw[HL.o.1];exact HT.o⟩,fun e=>by have:=e.1;rw[HL.o.1]at this;omega⟩
      go_wp2
      go_ret
      exact⟨.of HY.o,HW.o.1⟩
end Go.Proofs.YtjpobijiblcgaaaGreat
