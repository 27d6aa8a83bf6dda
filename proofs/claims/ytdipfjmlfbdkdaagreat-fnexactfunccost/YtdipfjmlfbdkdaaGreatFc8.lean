import Derived.Test.YtdipfjmlfbdkdaaGreatFc7
namespace Go.Proofs.YtdipfjmlfbdkdaaGreat
open Go.ChangeShapes Go.WideShapes Go.ChangeAt Go.RowKit
set_option linter.unusedVariables false
set_option maxHeartbeats 4000000
set_option maxRecDepth 100000
def C8(p:MP)(c:MT):Prop:=∃f,p.funcs[c.func.toNat]?=some f/\0<=c.func/\0<=c.head/\c.head<f.code.length/\AN f c.counter=3
def Ft(d c:MT):Prop:=d.func<c.func\/d.func=c.func/\d.head<c.head
def Dr(p:MP)(cs:List MT)(j:Nat):Prop:=∀c,cs[j]?=some c->C8 p c/\∀i d,i+1=j->cs[i]?=some d->Ft d c
def AY(p:MP):Prop:=p.certs.length<=64/\∀j,j<p.certs.length->Dr p p.certs j
theorem Dw{p:MP}{cs:List MT}{k:Nat}(hx:Dr p cs k)(h:∀j,j<k->Dr p cs j):∀j,j<k+1->Dr p cs j:=by
 intro j hj;by_cases e:j=k
 . subst e
   exact hx
 . exact h j (by omega)
theorem Lm (v:VP)(p:MP)(w:World)(hs:p.small)(hw:p.wf)(h:Dg w v p):
 Calls Tryz.prog 41 #[.agg #[v.r,v.k,v.f,v.t]] w fun e w'=>Aj e (AY p)/\Below w.heap.size w w':=by
 obtain⟨vr,vk,vf,vt⟩:=v;have H1:Hid (Rd w 4 vt p.certs.length (p.certs.flatMap MT.cells)):=h.certs;obtain⟨xs,hxs,hrd,hel⟩:=h.funcs;simp only[]at hrd;have hxl:xs.length=p.funcs.length:=by rw[<-hxs];simp
 have H2:Hid (Rd w 4 vf p.funcs.length (xs.flatMap Bi)/\xs.map Prod.fst=p.funcs/\(∀x∈xs,C9 w x.2 x.1)/\(∀f∈p.funcs,f.small)/\xs.length=p.funcs.length):=⟨hrd,hxs,hel,hs.func,hxl⟩
 have hn:=hs.certs;have hm:=hs.funcs;obtain⟨a1,c1,e1⟩:∃a c,vt=.slice a p.certs.length c:=h.certs.is_slice;obtain⟨a2,c2,e2⟩:=hrd.is_slice;subst e1 e2;have HV:Hid p.wf:=hw;clear h hs hrd hxs hel hxl hw;have HW:Hid (Below w.heap.size w (w.alloc (.cells #[vr,vk,.slice a2 p.funcs.length c2,.slice a1 p.certs.length c1] 35))/\Cd (w.alloc (.cells #[vr,vk,.slice a2 p.funcs.length c2,.slice a1 p.certs.length c1] 35)) w.heap.size vr vk (.slice a2 p.funcs.length c2) (.slice a1 p.certs.length c1)):=⟨Aa _ _,Cd.new _ _ _ _ _ _⟩
 generalize hcs:p.certs.length=n at*;generalize hfs:p.funcs.length=m at*;have HL:Hid (p.certs.length=n/\p.funcs.length=m):=⟨hcs,hfs⟩
 clear hcs hfs;go_enter Tryz.func41,Tryz.ntmps41;go_wp2
 go_loopw [3] (fun i wr=>∃k:Nat,k<=n/\i=.int .i64 k/\Hid (∀j,j<k->Dr p p.certs j)/\Hid (Below w.heap.size w wr/\Cd wr w.heap.size vr vk (.slice a2 m c2) (.slice a1 n c1))) (fun i _=>n-(intOf i).toNat)
 case atStart=>exact⟨0,by omega,rfl,fun j hj=>by omega,HW⟩
 case round =>
  clear HW;obtain⟨k,hk,rfl,HT,HW⟩:=hrel;obtain⟨p0,p1,p2,p3⟩:=HW.o.2;by_cases hlt:k<n
  . obtain ⟨x,hx⟩:∃x,p.certs[k]?=some x:=⟨_,aA (by rw[HL.o.1];exact hlt)⟩
    have hxw:=HV.o.certs x (aE hx);rcases H1.o.2 with⟨e0,_⟩|⟨b,o,c,e1,hc1⟩
    . omega
    simp only[aF,aw]at e1;obtain⟨rfl,rfl⟩:=e1;have i0:=Rd.elem MT.cells_length hc1 k x hx 0 _ rfl;have i1:=Rd.elem MT.cells_length hc1 k x hx 1 _ rfl;have i2:=Rd.elem MT.cells_length hc1 k x hx 2 _ rfl;have i3:=Rd.elem MT.cells_length hc1 k x hx 3 _ rfl;rw[<-HW.o.1.cell (aC i0),aS]at i0;rw[<-HW.o.1.cell (aC i1)]at i1;rw[<-HW.o.1.cell (aC i2)]at i2;rw[<-HW.o.1.cell (aC i3)]at i3;have HX:Hid (p.certs[k]?=some x):=hx;have HC:Hid (∀j u,(p.certs.flatMap MT.cells)[j]?=some u->w.cell? ⟨b,o+j,none⟩=some u):=hc1;clear hc1 hx;obtain⟨fu,hd,co,ini⟩:=x;simp only[]at i0 i1 i2 i3;obtain⟨x0,x1⟩:=Ei hxw.1;obtain⟨x2,x3⟩:=Ei hxw.2.1;have HCO:Hid (CD co):=hxw.2.2.1;clear hxw;have nb:¬b=wr.heap.size:=bJ (aC i0);have mb:b<wr.heap.size:=aC i0;have np:¬w.heap.size=wr.heap.size:=bJ HW.o.2.lt;have mp:w.heap.size<wr.heap.size:=HW.o.2.lt
    have HW1:Hid (Below w.heap.size w (wr.alloc (.cells #[.int .i64 fu,.int .i64 hd,.int .i64 co,.int .u32 ini] 72))/\Cd (wr.alloc (.cells #[.int .i64 fu,.int .i64 hd,.int .i64 co,.int .u32 ini] 72)) w.heap.size vr vk (.slice a2 m c2) (.slice (some ⟨b,o,none⟩) n c1)/\Cd (wr.alloc (.cells #[.int .i64 fu,.int .i64 hd,.int .i64 co,.int .u32 ini] 72)) wr.heap.size (.int .i64 fu) (.int .i64 hd) (.int .i64 co) (.int .u32 ini)):=⟨Ab HW.o.1 lR (Aa _ _),HW.o.2.alloc _,Cd.new _ _ _ _ _ _⟩
    by_cases q0:fu<0
    . have HN:Hid (¬AY p):=fun e=>by obtain⟨⟨f,h1,h2,_⟩,_⟩:=e.2 k (by rw[HL.o.1];exact hlt) _ HX.o;simp only[]at h2;omega
      go_wp2
      go_ret
      exact⟨.no HN.o,HW1.o.1⟩
    obtain⟨fn,rfl⟩:=aT (show 0<=fu by omega);clear x0 x1;by_cases q1:m<=fn
    . have HN:Hid (¬AY p):=fun e=>by
       obtain⟨⟨f,h1,h2,_⟩,_⟩:=e.2 k (by rw[HL.o.1];exact hlt) _ HX.o;have:=(aD.1 h1).1;simp only[]at this;rw[HL.o.2]at this;omega
      have q1':¬(fn:Int)<(m:Int):=by omega
      have q1'':(m:Int)<=(fn:Int):=by omega
      go_wp2
      go_ret
      exact⟨.no HN.o,HW1.o.1⟩
    have q1':¬(m:Int)<=(fn:Int):=by omega
    obtain⟨⟨f,v⟩,hy⟩:∃y,xs[fn]?=some y:=⟨_,aA (by rw[H2.o.2.2.2.2];omega)⟩;have e1:=BM H2.o.2.1 hy;have HF:Hid (C9 wr v f/\f.small/\p.funcs[fn]?=some f):=⟨(H2.o.2.2.1 _ (aE hy)).keep HW.o.1 lR,H2.o.2.2.2.1 _ (aE e1),e1⟩
    clear e1;rcases H2.o.1.2 with⟨e0,_⟩|⟨b',o',c',e1,hc2⟩
    . omega
    simp only[aF,aw]at e1;obtain⟨rfl,rfl⟩:=e1;have j0:=Rd.elem Ah hc2 fn _ hy 0 _ rfl;have j1:=Rd.elem Ah hc2 fn _ hy 1 _ rfl;have j2:=Rd.elem Ah hc2 fn _ hy 2 _ rfl;have j3:=Rd.elem Ah hc2 fn _ hy 3 _ rfl;rw[<-HW.o.1.cell (aC j0),aS]at j0;rw[<-HW.o.1.cell (aC j1)]at j1;rw[<-HW.o.1.cell (aC j2)]at j2;rw[<-HW.o.1.cell (aC j3)]at j3;clear hc2 hy;simp only[]at j0 j1 j2 j3;obtain⟨ap,cp,ep⟩:=HF.o.1.1.is_slice;obtain⟨al,cl,el⟩:=HF.o.1.2.1.is_slice;obtain⟨ac,cc,ec⟩:=HF.o.1.2.2.is_slice;obtain⟨vp,vl,vc⟩:=v;simp only[]at ep el ec j0 j1 j2 j3;subst ep el ec;have nb':¬b'=wr.heap.size:=bJ (aC j0);have mb':b'<wr.heap.size:=aC j0;have hcl:=HF.o.2.1.2.2;have HW2:Hid (Below w.heap.size w ((wr.alloc (.cells #[.int .i64 (fn:Int),.int .i64 hd,.int .i64 co,.int .u32 ini] 72)).alloc (.cells #[.slice ap f.params.length cp,.int .i64 f.result,.slice al f.locals.length cl,.slice ac f.code.length cc] 48))):=Ab HW1.o.1 lR (Aa _ _);by_cases q2:hd<0
    . have HN:Hid (¬AY p):=fun e=>by obtain⟨⟨f,h1,h2,h3,_⟩,_⟩:=e.2 k (by rw[HL.o.1];exact hlt) _ HX.o;simp only[]at h3;omega
      go_wp2
      go_ret
      exact⟨.no HN.o,HW2.o⟩
    by_cases q3:(f.code.length:Int)<=hd
    . have HN:Hid (¬AY p):=fun e=>by
       obtain⟨⟨g,h1,h2,h3,h4,_⟩,_⟩:=e.2 k (by rw[HL.o.1];exact hlt) _ HX.o;simp only[aG]at h1 h4;rw[HF.o.2.2]at h1;obtain rfl:=ae h1;omega
      go_wp2
      go_ret
      exact⟨.no HN.o,HW2.o⟩
    go_wp2_with fail
    refine(EO ⟨.slice ap f.params.length cp,.slice al f.locals.length cl,.slice ac f.code.length cc⟩ f co _ HF.o.2.1 HCO.o (HF.o.1.keep (Ab (Aa _ _) lR (Aa _ _)) lR)).mono ?_;rintro e u ⟨rfl,bl⟩;have HW3:Hid (Below w.heap.size w u/\Cd u w.heap.size vr vk (.slice (some ⟨b',o',none⟩) m c2) (.slice (some ⟨b,o,none⟩) n c1)/\Cd u wr.heap.size (.int .i64 (fn:Int)) (.int .i64 hd) (.int .i64 co) (.int .u32 ini)):=⟨Ab HW2.o lR bl,(HW1.o.2.1.alloc _).keep bl,(HW1.o.2.2.alloc _).keep bl⟩
    clear bl HW1 HW2 i0 i1 i2 i3 j0 j1 j2 j3 p0 p1 p2 p3 nb mb nb' mb' np mp;by_cases q4:AN f co=3
    . rw [q4]
      have HOK:Hid (C8 p ⟨(fn:Int),hd,co,ini⟩):=⟨f,by simp only[aG];exact HF.o.2.2,by simp only[];omega,by simp only[];omega,by simp only[];omega,q4⟩;clear q4;by_cases q5:k=0
      . subst q5
        have HA:Hid (Dr p p.certs 0):=fun c hc=>by
         rw[HX.o]at hc;obtain rfl:=ae hc;exact⟨HOK.o,fun i d hi=>by omega⟩
        go_wp2
        go_quiet (fail)
        go_wp2
        go_roundw
        case rel=>exact⟨1,by omega,by go_num,Dw HA.o HT.o,⟨HW3.o.1.trans (Af _ _ _),HW3.o.2.1.keep (Af _ _ _)⟩⟩
        case measure=>simp[intOf];omega
      . obtain⟨i,rfl⟩:∃i,k=i+1:=⟨k-1,by omega⟩
        obtain⟨d,hd'⟩:∃d,p.certs[i]?=some d:=⟨_,aA (by rw[HL.o.1];omega)⟩;have y0:=Rd.elem MT.cells_length HC.o i d hd' 0 _ rfl;have y1:=Rd.elem MT.cells_length HC.o i d hd' 1 _ rfl;rw[<-HW3.o.1.cell (aC y0),aS]at y0;rw[<-HW3.o.1.cell (aC y1)]at y1;obtain⟨p0,p1,p2,p3⟩:=HW3.o.2.1;obtain⟨r0,r1,r2,r3⟩:=HW3.o.2.2;obtain⟨dfu,dhd,dco,dini⟩:=d;simp only[]at y0 y1;have HD:Hid (p.certs[i]?=some ⟨dfu,dhd,dco,dini⟩):=hd';clear hd';have hki:((i+1:Nat):Int)-1=(i:Int):=by omega
        have hkp:(0:Int)<((i+1:Nat):Int):=by omega
        by_cases q6:(fn:Int)<dfu
        . have HN:Hid (¬AY p):=fun e=>by
           have:=(e.2 (i+1) (by rw[HL.o.1];exact hlt) _ HX.o).2 i _ rfl HD.o;simp only[Ft]at this;omega
          go_wp2
          go_quiet (fail)
          go_wp2
          go_ret
          exact⟨.no HN.o,HW3.o.1.trans (Af _ _ _)⟩
        by_cases q7:dfu=(fn:Int)
        . subst q7
          by_cases q8:hd<=dhd
          . have HN:Hid (¬AY p):=fun e=>by
             have:=(e.2 (i+1) (by rw[HL.o.1];exact hlt) _ HX.o).2 i _ rfl HD.o;simp only[Ft]at this;omega
            go_wp2
            go_quiet (fail)
            go_wp2
            go_ret
            exact⟨.no HN.o,HW3.o.1.trans (Af _ _ _)⟩
          . have HA:Hid (Dr p p.certs (i+1)):=fun c hc=>by
             rw[HX.o]at hc;obtain rfl:=ae hc;refine⟨HOK.o,fun i' d' hi hd'=> ?_⟩;obtain rfl:i'=i:=by omega
             rw[HD.o]at hd';obtain rfl:=ae hd';unfold Ft;dsimp only;omega
            go_wp2
            go_quiet (fail)
            go_wp2
            go_roundw
            case rel=>exact⟨i+1+1,by omega,by go_num,Dw HA.o HT.o,⟨HW3.o.1.trans (Af _ _ _),HW3.o.2.1.keep (Af _ _ _)⟩⟩
            case measure=>simp[intOf];omega
        . have q7':(dfu==(fn:Int))=false:=by simpa using q7
          have q6':decide ((fn:Int)<dfu)=false:=by simpa using q6
          have q9:dfu<(fn:Int):=by omega
          have HA:Hid (Dr p p.certs (i+1)):=fun c hc=>by
           rw[HX.o]at hc;obtain rfl:=ae hc;refine⟨HOK.o,fun i' d' hi hd'=> ?_⟩;obtain rfl:i'=i:=by omega
           rw[HD.o]at hd';obtain rfl:=ae hd';unfold Ft;dsimp only;omega
          go_wp2
          go_quiet (fail)
          go_wp2
          go_roundw
          case rel=>exact⟨i+1+1,by omega,by go_num,Dw HA.o HT.o,⟨HW3.o.1.trans (Af _ _ _),HW3.o.2.1.keep (Af _ _ _)⟩⟩
          case measure=>simp[intOf];omega
    . have HN:Hid (¬AY p):=fun e=>by
       obtain⟨⟨g,h1,h2,h3,h4,h5⟩,_⟩:=e.2 k (by rw[HL.o.1];exact hlt) _ HX.o;simp only[aG]at h1 h5;rw[HF.o.2.2]at h1;obtain rfl:=ae h1;exact q4 h5
      have q4':(AN f co==3)=false:=by simpa using q4
      have q4'':(AN f co != 3)=true:=by simpa using q4
      go_wp2
      go_ret
      exact⟨.no HN.o,HW3.o.1⟩
  . have hkn:n=k:=by omega
    subst hkn
    have HY:Hid (decide ((n:Int)<=64)=true↔AY p):=by
     show _↔_;rw[cG];exact⟨fun e=>⟨by rw[HL.o.1];omega,by rw[HL.o.1];exact HT.o⟩,fun e=>by have:=e.1;rw[HL.o.1]at this;omega⟩
    go_wp2
    go_ret
    exact⟨.of HY.o,HW.o.1⟩
theorem AF{w:World}{base b:Nat}{e:TypeId}{k n:Nat}{v:Value}{xs:List Value}(h:w.ownsRow base e k v n xs)(hb:b<=base):w.ownsRow b e k v n xs:=
 ⟨h.1,h.2.imp id fun⟨g,cap,cur,e1,hb1,r⟩=>⟨g,cap,cur,e1,aY hb hb1,r⟩⟩
theorem Av{Q:Exit->Act->World->Prop}{a:Act}{U:World}(P:World->Prop)(h:P U)(k:∀u,P u->Q .normal a u):Q .normal a U:=k U h
theorem Ad{W u:World}(hb:Below W.heap.size W u){a:Addr}{x:Value}(h:W.cell? a=some x):u.cell? a=some x:=by rw[hb.cell (aC h)];exact h
def Cy(xs:List MI)(m:MB):MB:=⟨m.first,m.last,C4 xs (xs.getD m.last.toNat ⟨0,0,0,0⟩) m.last.toNat⟩
def Ao(xs:List MI):List MB:=(AX xs xs.length).map (Cy xs)
structure TW(w u:World)(xs:List MI)(n q:Nat)(V:Value)(D:List (MB×Value)):Prop where
 num:u.ownsRow w.heap.size 2 1 (.slice (some ⟨q,0,none⟩) n n) n ((List.range n).flatMap (EW xs))
 o:u.ownsRow w.heap.size 58 3 V (AX xs n).length (D.flatMap A9++((AX xs n).drop D.length).flatMap Hw)
 rows:∀x∈D,u.ownsRow w.heap.size 2 1 x.2 x.1.next.length (x.1.next.flatMap Ac)
 done:D.map Prod.fst=((AX xs n).take D.length).map (Cy xs)
 bel:Below w.heap.size w u
theorem TW.of{w u:World}{xs:List MI}{n q:Nat}{V:Value}(h:SW w u xs n n q V):TW w u xs n q V []:=by
 refine⟨?_,by simpa using h.o,fun x hx=>(by cases hx),by simp,h.bel⟩;have:=h.num;rw[Dx _ _ _ _ (by simp)]at this;exact this
structure NW(wr U:World)(x:MI)(V:Value)(ns:List Int):Prop where
 bel:Below wr.heap.size wr U
 xb:Ak U wr.heap.size #[.int .i64 x.op,.int .i64 x.a,.int .i64 x.b,.int .i64 x.c] 60
 row:U.ownsRow wr.heap.size 2 1 V ns.length (ns.flatMap Ac)
theorem NW.of(wr:World)(x:MI):NW wr ((wr.alloc (.cells #[.int .i64 x.op,.int .i64 x.a,.int .i64 x.b,.int .i64 x.c] 60)).alloc (.cells #[] 2)) x (.slice (some ⟨wr.heap.size+1,0,none⟩) 0 0) []:=by
 have b1:=Aa wr (.cells #[.int .i64 x.op,.int .i64 x.a,.int .i64 x.b,.int .i64 x.c] 60);have k1:=Ak.new wr #[.int .i64 x.op,.int .i64 x.a,.int .i64 x.b,.int .i64 x.c] 60;have z1:(wr.alloc (.cells #[.int .i64 x.op,.int .i64 x.a,.int .i64 x.b,.int .i64 x.c] 60)).heap.size=wr.heap.size+1:=by simp
 generalize wr.alloc (.cells #[.int .i64 x.op,.int .i64 x.a,.int .i64 x.b,.int .i64 x.c] 60)=Wx at b1 k1 z1⊢;have b2:=Aa Wx (.cells #[] 2);have k2:=Ak.new Wx #[] 2;rw[z1]at k2;exact⟨Ab b1 lR b2,k1.keep b2,⟨rfl,.inr ⟨wr.heap.size+1,0,#[],rfl,Nat.le_succ _,k2,Nat.le_refl _,dq _,rfl,rfl⟩⟩⟩
theorem NW.drew{wr U:World}{x:MI}{V:Value}{ns:List Int}(h:NW wr U x V ns)(k:Nat):NW wr (U.drewN k) x V ns:=⟨⟨h.bel.os,h.bel.tape,h.bel.output,h.bel.size,h.bel.block⟩,h.xb,⟨h.row.1,h.row.2⟩⟩
theorem NW.app{wr U u':World}{x:MI}{V V':Value}{ns:List Int}{z:Int}{m:Nat}(h:NW wr U x V ns)(hown:u'.ownsRow wr.heap.size 2 1 V' m (ns.flatMap Ac++[.int .i64 z]))(hm:m=ns.length+1)(hg:(U.alloc (.cells #[.int .i64 z] 2)).grownBy u' V.ownBlock):NW wr u' x V' (ns++[z]):=by
 have bA:=Aa U (.cells #[.int .i64 z] 2);refine⟨(Ab h.bel lR bA).grown hg (aY h.bel.size bA.size) (fun i hi=>(h.row.lt i hi).1),(h.xb.keep bA).grown hg (Ag h.row bA lR) (by decide),?_⟩;rw[aH,aI,<-hm,bP];exact hown
theorem A5(U:World)(z:Int):∀j u,[(.int .i64 z:Value)][j]?=some u->(U.alloc (.cells #[.int .i64 z] 2)).cell? ((⟨U.heap.size,0,none⟩:Addr).add j)=some u:=fun j u hj=>by
 rw[Ej,bt,(Ak.new U #[.int .i64 z] 2).cell j];simpa using hj
theorem NW.al{wr U:World}{x:MI}{V:Value}{ns:List Int}(h:NW wr U x V ns)(o:Obj):(U.alloc o).ownsRow wr.heap.size 2 1 V ns.length (ns.flatMap Ac)/\wr.heap.size<=(U.alloc o).heap.size:=⟨Ag h.row (Aa _ _) lR,aY h.bel.size (Aa _ _).size⟩
theorem TW.next{w wr U:World}{xs:List MI}{n q gv len cap:Nat}{D:List (MB×Value)}{m:MB}{e:Nat}{x:MI}{Vn:Value}{ns:List Int}(h:TW w wr xs n q (.slice (some ⟨gv,0,none⟩) len cap) D)(hl:len=(AX xs n).length)(hm:(AX xs n)[D.length]?=some m)(he:m.last=(e:Int))(hx:xs[e]?=some x)(hn:NW wr U x Vn ns)(hns:ns=C4 xs x e):TW w (U.setCell ⟨gv,D.length*3+2,none⟩ Vn) xs n q (.slice (some ⟨gv,0,none⟩) len cap) (D++[(Cy xs m,Vn)]):=by
 subst hl;have hb:Below wr.heap.size wr U:=hn.bel;have hout:=Ag h.o hb lR;obtain⟨hlt,hmm⟩:=aD.1 hm
 have hB:Cy xs m=⟨m.first,m.last,ns⟩:=by
  unfold Cy;rw[he,hns,aG,aJ,hx];rfl
 have hnr:=AF hn.row (b:=w.heap.size) h.bel.size;refine⟨Bb (Ag h.num hb lR) hout (by decide) _ _,?_,?_,?_,(Ab h.bel lR hb).setCell (Am hout).1 _⟩
 . have k1:=(hout.stored (D.length*3+2) Vn).1
   have e1:(D.flatMap A9++((AX xs n).drop D.length).flatMap Hw).set (D.length*3+2) Vn=(D++[(Cy xs m,Vn)]).flatMap A9++((AX xs n).drop (D++[(Cy xs m,Vn)]).length).flatMap Hw:=by
    rw[cE hlt,hmm,bT,dE _ _ (by rw[As A9 3 AJ];omega),As A9 3 AJ,hB];simp[Hw,A9,List.length_append]
   rw[e1]at k1;exact k1
 . intro y hy
   rcases aU.1 hy with hy|hy
   . exact Bb (Ag (h.rows y hy) hb lR) hout (by decide) _ _
   . simp only[aa,ao,cH]at hy
     subst hy;simp only[hB];exact Bb hnr hout (by decide) _ _
 . rw[bx,h.done,aH,aI,ah hlt,hmm]
   simp
theorem TW.rd{w u:World}{xs:List MI}{n q:Nat}{V:Value}{D:List (MB×Value)}(h:TW w u xs n q V D)(hn:xs.length=n)(hl:D.length=(AX xs n).length):FR u V (Ao xs):=by
 have e1:D.map Prod.fst=Ao xs:=by
  rw[h.done,hl,an lR];unfold Ao;rw[hn]
 have e2:(Ao xs).length=(AX xs n).length:=by unfold Ao;rw[a7,hn]
 refine⟨D,e1,?_,fun x hx=>Rd.of_own (h.rows x hx)⟩;have:=Rd.of_own h.o;rw[hl,df lR]at this;rw[e2];simpa using this
end Go.Proofs.YtdipfjmlfbdkdaaGreat
