import Derived.Test.YtjcamlobelcepaaGreatDoorCt7
namespace Go.Proofs.YtjcamlobelcepaaGreatDoor
open Go.ChangeShapes Go.WideShapes Go.ChangeAt Go.RowKit
set_option linter.unusedVariables false
set_option maxHeartbeats 4000000
set_option maxRecDepth 100000
def Em(p:MP)(c:MT):Prop:=∃f,p.funcs[c.func.toNat]?=some f/\0<=c.func/\0<=c.head/\c.head<f.code.length/\AA f c.counter=3
def FQ(d c:MT):Prop:=d.func<c.func\/d.func=c.func/\d.head<c.head
def El(p:MP)(cs:List MT)(j:Nat):Prop:=∀c,cs[j]?=some c->Em p c/\∀i d,i+1=j->cs[i]?=some d->FQ d c
def Bc(p:MP):Prop:=p.certs.length<=64/\∀j,j<p.certs.length->El p p.certs j
theorem Ew{p:MP}{cs:List MT}{k:Nat}(hx:El p cs k)(h:∀j,j<k->El p cs j):∀j,j<k+1->El p cs j:=by
 intro j hj;by_cases e:j=k
 . subst e
   exact hx
 . exact h j (by omega)
theorem M9 (v:VP)(p:MP)(w:World)(hs:p.small)(hw:p.wf)(h:Ej w v p):
 Calls Tryz.prog 96 #[.agg #[v.r,v.k,v.f,v.t]] w fun e w'=>Am e (Bc p)/\Below w.heap.size w w':=by
 obtain⟨vr,vk,vf,vt⟩:=v;have H1:=Af h.certs;obtain⟨xs,hxs,hrd,hel⟩:=h.funcs;simp only[]at hrd;have hxl:xs.length=p.funcs.length:=by rw[<-hxs];simp
 have H2:=Af (aG hrd (aG hxs (aG hel (aG hs.func hxl))));have hn:=hs.certs;have hm:=hs.funcs;obtain⟨a1,c1,e1⟩:∃a c,vt=.slice a p.certs.length c:=h.certs.is_slice;obtain⟨a2,c2,e2⟩:=hrd.is_slice;subst e1 e2;have HV:Hid p.wf:=hw;have HW:Hid (Below w.heap.size w (w.alloc (.cells #[vr,vk,.slice a2 p.funcs.length c2,.slice a1 p.certs.length c1] 28))/\DE (w.alloc (.cells #[vr,vk,.slice a2 p.funcs.length c2,.slice a1 p.certs.length c1] 28)) w.heap.size vr vk (.slice a2 p.funcs.length c2) (.slice a1 p.certs.length c1)):=⟨Aa _ _,DE.new _ _ _ _ _ _⟩
 generalize hcs:p.certs.length=n at*;generalize hfs:p.funcs.length=m at*;have HL:=Af (aG hcs hfs);go_enter Tryz.func96,Tryz.ntmps96;go_wp2
 go_loopw [3] (fun i wr=>∃k:Nat,k<=n/\i=.int .i64 k/\Hid (∀j,j<k->El p p.certs j)/\Hid (Below w.heap.size w wr/\DE wr w.heap.size vr vk (.slice a2 m c2) (.slice a1 n c1))) (fun i _=>n-(intOf i).toNat)
 case atStart=>exact⟨0,by omega,rfl,fun j hj=>by omega,HW⟩
 case round =>
  obtain⟨k,hk,rfl,HT,HW⟩:=hrel;obtain⟨p0,p1,p2,p3⟩:=HW.o.2;by_cases hlt:k<n
  . obtain ⟨x,hx⟩:∃x,p.certs[k]?=some x:=⟨_,aA (by rw[HL.o.1];exact hlt)⟩
    have hxw:=HV.o.certs x (aF hx);rcases H1.o.2 with⟨e0,_⟩|⟨b,o,c,e1,hc1⟩
    . omega
    simp only[aI,ao]at e1;obtain⟨rfl,rfl⟩:=e1;have i0:=Rd.elem MT.cells_length hc1 k x hx 0 _ rfl;have i1:=Rd.elem MT.cells_length hc1 k x hx 1 _ rfl;have i2:=Rd.elem MT.cells_length hc1 k x hx 2 _ rfl;have i3:=Rd.elem MT.cells_length hc1 k x hx 3 _ rfl;rw[<-HW.o.1.cell (aD i0),aT]at i0;rw[<-HW.o.1.cell (aD i1)]at i1;rw[<-HW.o.1.cell (aD i2)]at i2;rw[<-HW.o.1.cell (aD i3)]at i3;have HX:=Af hx;have HC:=Af hc1;obtain⟨fu,hd,co,ini⟩:=x;simp only[]at i0 i1 i2 i3;obtain⟨x0,x1⟩:=Fv hxw.1;obtain⟨x2,x3⟩:=Fv hxw.2.1;have HCO:=Af hxw.2.2.1;have nb:¬b=wr.heap.size:=bC (aD i0);have mb:b<wr.heap.size:=aD i0;have np:¬w.heap.size=wr.heap.size:=bC HW.o.2.lt;have mp:w.heap.size<wr.heap.size:=HW.o.2.lt;have HW1:Hid (Below w.heap.size w (wr.alloc (.cells #[.int .i64 fu,.int .i64 hd,.int .i64 co,.int .u32 ini] 62))/\DE (wr.alloc (.cells #[.int .i64 fu,.int .i64 hd,.int .i64 co,.int .u32 ini] 62)) w.heap.size vr vk (.slice a2 m c2) (.slice (some ⟨b,o,none⟩) n c1)/\DE (wr.alloc (.cells #[.int .i64 fu,.int .i64 hd,.int .i64 co,.int .u32 ini] 62)) wr.heap.size (.int .i64 fu) (.int .i64 hd) (.int .i64 co) (.int .u32 ini)):=⟨Ab HW.o.1 lR (Aa _ _),HW.o.2.alloc _,DE.new _ _ _ _ _ _⟩
    by_cases q0:fu<0
    . have HN:Hid (¬Bc p):=fun e=>by obtain⟨⟨f,h1,h2,_⟩,_⟩:=e.2 k (by rw[HL.o.1];exact hlt) _ HX.o;simp only[]at h2;omega
      go_wp2
      go_ret
      exact⟨.no HN.o,HW1.o.1⟩
    obtain⟨fn,rfl⟩:=aS (show 0<=fu by omega);by_cases q1:m<=fn
    . have HN:Hid (¬Bc p):=fun e=>by
       obtain⟨⟨f,h1,h2,_⟩,_⟩:=e.2 k (by rw[HL.o.1];exact hlt) _ HX.o;have:=(aE.1 h1).1;simp only[]at this;rw[HL.o.2]at this;omega
      have q1':¬(fn:Int)<(m:Int):=by omega
      have q1'':(m:Int)<=(fn:Int):=by omega
      go_wp2
      go_ret
      exact⟨.no HN.o,HW1.o.1⟩
    have q1':¬(m:Int)<=(fn:Int):=by omega
    obtain⟨⟨f,v⟩,hy⟩:∃y,xs[fn]?=some y:=⟨_,aA (by rw[H2.o.2.2.2.2];omega)⟩;have e1:=BG H2.o.2.1 hy;have HF:Hid (EI wr v f/\f.small/\p.funcs[fn]?=some f):=⟨(H2.o.2.2.1 _ (aF hy)).keep HW.o.1 lR,H2.o.2.2.2.1 _ (aF e1),e1⟩
    rcases H2.o.1.2 with⟨e0,_⟩|⟨b',o',c',e1,hc2⟩
    . omega
    simp only[aI,ao]at e1;obtain⟨rfl,rfl⟩:=e1;have j0:=Rd.elem Ag hc2 fn _ hy 0 _ rfl;have j1:=Rd.elem Ag hc2 fn _ hy 1 _ rfl;have j2:=Rd.elem Ag hc2 fn _ hy 2 _ rfl;have j3:=Rd.elem Ag hc2 fn _ hy 3 _ rfl;rw[<-HW.o.1.cell (aD j0),aT]at j0;rw[<-HW.o.1.cell (aD j1)]at j1;rw[<-HW.o.1.cell (aD j2)]at j2;rw[<-HW.o.1.cell (aD j3)]at j3;simp only[]at j0 j1 j2 j3;obtain⟨ap,cp,ep⟩:=HF.o.1.1.is_slice;obtain⟨al,cl,el⟩:=HF.o.1.2.1.is_slice;obtain⟨ac,cc,ec⟩:=HF.o.1.2.2.is_slice;obtain⟨vp,vl,vc⟩:=v;simp only[]at ep el ec j0 j1 j2 j3;subst ep el ec;have nb':¬b'=wr.heap.size:=bC (aD j0);have mb':b'<wr.heap.size:=aD j0;have hcl:=HF.o.2.1.2.2;have HW2:Hid (Below w.heap.size w ((wr.alloc (.cells #[.int .i64 (fn:Int),.int .i64 hd,.int .i64 co,.int .u32 ini] 62)).alloc (.cells #[.slice ap f.params.length cp,.int .i64 f.result,.slice al f.locals.length cl,.slice ac f.code.length cc] 58))):=Ab HW1.o.1 lR (Aa _ _);by_cases q2:hd<0
    . have HN:Hid (¬Bc p):=fun e=>by obtain⟨⟨f,h1,h2,h3,_⟩,_⟩:=e.2 k (by rw[HL.o.1];exact hlt) _ HX.o;simp only[]at h3;omega
      go_wp2
      go_ret
      exact⟨.no HN.o,HW2.o⟩
    by_cases q3:(f.code.length:Int)<=hd
    . have HN:Hid (¬Bc p):=fun e=>by
       obtain⟨⟨g,h1,h2,h3,h4,_⟩,_⟩:=e.2 k (by rw[HL.o.1];exact hlt) _ HX.o;simp only[aX]at h1 h4;rw[HF.o.2.2]at h1;obtain rfl:=aZ h1;omega
      go_wp2
      go_ret
      exact⟨.no HN.o,HW2.o⟩
    go_wp2_with fail
    refine(Di ⟨.slice ap f.params.length cp,.slice al f.locals.length cl,.slice ac f.code.length cc⟩ f co _ HF.o.2.1 HCO.o (HF.o.1.keep (Ab (Aa _ _) lR (Aa _ _)) lR)).mono ?_;rintro e u ⟨rfl,bl⟩;have HW3:=Af (aG (Ab HW2.o lR bl) (aG ((HW1.o.2.1.alloc _).keep bl) ((HW1.o.2.2.alloc _).keep bl)));by_cases q4:AA f co=3
    . rw [q4]
      have HOK:Hid (Em p ⟨(fn:Int),hd,co,ini⟩):=⟨f,by simp only[aX];exact HF.o.2.2,by simp only[];omega,by simp only[];omega,by simp only[];omega,q4⟩;by_cases q5:k=0
      . subst q5
        have HA:Hid (El p p.certs 0):=fun c hc=>by
         rw[HX.o]at hc;obtain rfl:=aZ hc;exact⟨HOK.o,fun i d hi=>by omega⟩
        go_wp2
        go_quiet (fail)
        go_wp2
        go_roundw
        case rel=>exact⟨1,by omega,by go_num,Ew HA.o HT.o,⟨HW3.o.1.trans (Aj _ _ _),HW3.o.2.1.keep (Aj _ _ _)⟩⟩
        case measure=>simp[intOf];omega
      . obtain⟨i,rfl⟩:∃i,k=i+1:=⟨k-1,by omega⟩
        obtain⟨d,hd'⟩:∃d,p.certs[i]?=some d:=⟨_,aA (by rw[HL.o.1];omega)⟩;have y0:=Rd.elem MT.cells_length HC.o i d hd' 0 _ rfl;have y1:=Rd.elem MT.cells_length HC.o i d hd' 1 _ rfl;rw[<-HW3.o.1.cell (aD y0),aT]at y0;rw[<-HW3.o.1.cell (aD y1)]at y1;obtain⟨p0,p1,p2,p3⟩:=HW3.o.2.1;obtain⟨r0,r1,r2,r3⟩:=HW3.o.2.2;obtain⟨dfu,dhd,dco,dini⟩:=d;simp only[]at y0 y1;have HD:=Af hd';clear hd';have hki:((i+1:Nat):Int)-1=(i:Int):=by omega
        have hkp:(0:Int)<((i+1:Nat):Int):=by omega
        by_cases q6:(fn:Int)<dfu
        . have HN:Hid (¬Bc p):=fun e=>by
           have:=(e.2 (i+1) (by rw[HL.o.1];exact hlt) _ HX.o).2 i _ rfl HD.o;simp only[FQ]at this;omega
          go_wp2
          go_quiet (fail)
          go_wp2
          go_ret
          exact⟨.no HN.o,HW3.o.1.trans (Aj _ _ _)⟩
        by_cases q7:dfu=(fn:Int)
        . subst q7
          by_cases q8:hd<=dhd
          . have HN:Hid (¬Bc p):=fun e=>by
             have:=(e.2 (i+1) (by rw[HL.o.1];exact hlt) _ HX.o).2 i _ rfl HD.o;simp only[FQ]at this;omega
            go_wp2
            go_quiet (fail)
            go_wp2
            go_ret
            exact⟨.no HN.o,HW3.o.1.trans (Aj _ _ _)⟩
          . have HA:Hid (El p p.certs (i+1)):=fun c hc=>by
             rw[HX.o]at hc;obtain rfl:=aZ hc;refine⟨HOK.o,fun i' d' hi hd'=> ?_⟩;obtain rfl:i'=i:=by omega
             rw[HD.o]at hd';obtain rfl:=aZ hd';unfold FQ;dsimp only;omega
            go_wp2
            go_quiet (fail)
            go_wp2
            go_roundw
            case rel=>exact⟨i+1+1,by omega,by go_num,Ew HA.o HT.o,⟨HW3.o.1.trans (Aj _ _ _),HW3.o.2.1.keep (Aj _ _ _)⟩⟩
            case measure=>simp[intOf];omega
        . have q7':(dfu==(fn:Int))=false:=by simpa using q7
          have q6':decide ((fn:Int)<dfu)=false:=by simpa using q6
          have q9:dfu<(fn:Int):=by omega
          have HA:Hid (El p p.certs (i+1)):=fun c hc=>by
           rw[HX.o]at hc;obtain rfl:=aZ hc;refine⟨HOK.o,fun i' d' hi hd'=> ?_⟩;obtain rfl:i'=i:=by omega
           rw[HD.o]at hd';obtain rfl:=aZ hd';unfold FQ;dsimp only;omega
          go_wp2
          go_quiet (fail)
          go_wp2
          go_roundw
          case rel=>exact⟨i+1+1,by omega,by go_num,Ew HA.o HT.o,⟨HW3.o.1.trans (Aj _ _ _),HW3.o.2.1.keep (Aj _ _ _)⟩⟩
          case measure=>simp[intOf];omega
    . have HN:Hid (¬Bc p):=fun e=>by
       obtain⟨⟨g,h1,h2,h3,h4,h5⟩,_⟩:=e.2 k (by rw[HL.o.1];exact hlt) _ HX.o;simp only[aX]at h1 h5;rw[HF.o.2.2]at h1;obtain rfl:=aZ h1;exact q4 h5
      have q4':(AA f co==3)=false:=by simpa using q4
      have q4'':(AA f co != 3)=true:=by simpa using q4
      go_wp2
      go_ret
      exact⟨.no HN.o,HW3.o.1⟩
  . have hkn:n=k:=by omega
    subst hkn
    have HY:Hid (decide ((n:Int)<=64)=true↔Bc p):=by
     show _↔_;rw[dE];exact⟨fun e=>⟨by rw[HL.o.1];omega,by rw[HL.o.1];exact HT.o⟩,fun e=>by have:=e.1;rw[HL.o.1]at this;omega⟩
    go_wp2
    go_ret
    exact⟨.of HY.o,HW.o.1⟩
structure Ux(F:List (List Int×Value))(cs:List MC)(G:List (MF×VF))(ts:List MT):Prop where
 fl:F.length<=1048576
 f:∀x∈F,x.1.length<=1048576
 c:cs.length<=1048576
 gl:G.length<=1048576
 g:∀x∈G,x.1.small
 t:ts.length<=1048576
theorem CI.front{w:World}{base:Nat}{L M:List As}(h:CI w base (L++M)):CI w base L:=⟨fun r hr=>h.own r (by simp[hr]),(cA.1 h.sep).1⟩
theorem Dv:(Tryz.prog.info? 4).map (fun i=>(i.zero,i.size,i.bytes))=some (some (.bool false),1,1):=by kernel_rfl
theorem Cs{w w':World}{base B:Nat}{e e':TypeId}{s v:Value}{k k' n m:Nat}{xs bs:List Value}(h:w.ownsRow base e k s n xs)(hg:w.grownBy w' v.ownBlock)(ho:w.ownsRow B e' k' v m bs)(hne:e≠e'):w'.ownsRow base e k s n xs:=by
 refine⟨h.1,?_⟩;rcases h.2 with h|⟨g,cap,cur,e1,hb1,hgg,hr⟩
 . exact .inl h
 . refine .inr ⟨g,cap,cur,e1,hb1,?_,hr⟩
   rw[hg.block g (an.1 hgg).1 ?_]
   . exact hgg
   . intro hv
     rcases ho.2 with⟨rfl,_⟩|⟨g',cap',cur',rfl,_,hg',_⟩
     . cases hv
     . simp only[Value.ownBlock,aM]at hv
       subst hv;rw[hgg]at hg';simp only[aM,cD]at hg';exact hne hg'.2.1
def CN(xs:List MI)(k n:Nat):List Value:=(List.range (n+1)).map fun j=>Value.bool (BN xs k j)
theorem Ic(xs:List MI)(k n:Nat):(CN xs k n).length=n+1:=by simp[CN]
theorem Gl(xs:List MI)(k n j:Nat)(hj:j<=n):(CN xs k n)[j]?=some (.bool (BN xs k j)):=by simp[CN,show j<n+1 by omega]
theorem Od(xs:List MI)(n:Nat):(List.replicate (n+1) (Value.bool false)).set 0 (.bool true)=CN xs 0 n:=by
 apply cL;intro j;by_cases hj:j<n+1
 . rw[Gl _ _ _ _ (by omega),Nd]
   by_cases h0:j=0
   . subst h0
     simp
   . rw[cJ (by omega)]
     simp[h0,hj]
 . rw[ae (by simp;omega),ae (by simp[CN];omega)]
theorem K8(xs:List MI)(k n c:Nat)(hc:c<=n)(P:Nat->Bool)(h:∀j,P j=(BN xs k j||decide (j=c))):(CN xs k n).set c (.bool true)=(List.range (n+1)).map fun j=>Value.bool (P j):=by
 apply cL;intro j;by_cases hj:j<n+1
 . by_cases h0:j=c
   . subst h0
     rw[cR (by rw[Ic];omega)];simp[hj,h]
   . rw[cJ (by omega),Gl _ _ _ _ (by omega)]
     simp[hj,h,h0]
 . rw[ae (by simp[CN];omega),ae (by simp;omega)]
theorem Oc(P:Nat->Bool)(n c:Nat)(hc:c<=n)(Q:Nat->Bool)(h:∀j,Q j=(P j||decide (j=c))):((List.range (n+1)).map fun j=>Value.bool (P j)).set c (.bool true)=(List.range (n+1)).map fun j=>Value.bool (Q j):=by
 apply cL;intro j;by_cases hj:j<n+1
 . by_cases h0:j=c
   . subst h0
     rw[cR (by simp;omega)];simp[hj,h]
   . rw[cJ (by omega)]
     simp[hj,h,h0]
 . rw[ae (by simp;omega),ae (by simp;omega)]
theorem PK(xs:List MI)(k n c:Nat)(x:MI)(hx:xs[k]?=some x)(hg:Bj x=true)(hc:x.c=(c:Int))(hcn:c<=n)(hk:k+1<=n):((CN xs k n).set c (.bool true)).set (k+1) (.bool true)=CN xs (k+1) n:=by
 rw[K8 xs k n c hcn (fun j=>BN xs k j||decide (j=c)) (fun j=>rfl)];refine(Oc _ n (k+1) hk (fun j=>BN xs (k+1) j) (fun j=> ?_)).trans rfl;rw[Hm xs k j x hx]
 have e:decide ((c:Int)=(j:Int))=decide (j=c):=by
  by_cases h:j=c
  . simp[h]
  . have:¬(c:Int)=(j:Int):=by omega
    simp[h,this]
 simp[Ie,hg,hc,e,Bool.or_assoc]
theorem QV(xs:List MI)(k n:Nat)(x:MI)(hx:xs[k]?=some x)(hg:Bj x=false)(hr:x.op=29)(hk:k+1<=n):(CN xs k n).set (k+1) (.bool true)=CN xs (k+1) n:=by
 rw[K8 xs k n (k+1) hk (fun j=>BN xs (k+1) j) (fun j=> ?_)]
 . rfl
 . rw[Hm xs k j x hx]
   simp[Ie,hg,hr]
theorem PL(xs:List MI)(k n:Nat)(x:MI)(hx:xs[k]?=some x)(hg:Bj x=false)(hr:¬x.op=29):CN xs k n=CN xs (k+1) n:=by
 unfold CN;congr 1
 funext j
 rw[Hm xs k j x hx];simp[Ie,hg,hr]
def Gs(xs:List MI)(j:Nat):List Value:=Ac (AN xs j)
theorem Dk(xs:List MI)(j:Nat):(Gs xs j).length=1:=rfl
def Ke(m:MB):List Value:=[.int .i64 m.first,.int .i64 m.last,.slice none 0 0]
theorem Eu(m:MB):(Ke m).length=3:=rfl
theorem RJ(bs:List MB)(b:MB)(i:Int):((bs++[b]).flatMap Ke).set (bs.length*3+1) (.int .i64 i)=(bs++[(⟨b.first,i,b.next⟩:MB)]).flatMap Ke:=by
 have hA:(bs.flatMap Ke).length=bs.length*3:=Aq Ke 3 Eu bs;simp only[a8,am,bi,dV];rw[di _ _ (by omega),hA];simp[Ke]
theorem QT(xs:List MI)(n:Nat)(h:1<=n)(m:MB)(hm:m∈Bi xs n):∃e:Nat,m.last=(e:Int)/\e<n:=by
 rw[Df]at hm;unfold build at hm;obtain⟨i,hi⟩:=bt hm;rw[dQ]at hi;cases h1:(Hs xs n)[i]? with
 |none=>rw[h1]at hi;simp at hi
 | some a =>
   cases h2:((Hs xs n).tail++[n])[i]? with
   |none=>rw[h1,h2]at hi;simp at hi
   | some q=>
     rw[h1,h2]at hi;simp only[aM]at hi;subst hi
     have hq:1<=q/\q<=n:=by
      rcases ah.1 (aF h2)with h3|h3
      . have hs:=FH xs n
        have hlt:=((Dy xs n q).1 (dn h3)).1;cases hL:Hs xs n with
        |nil=>rw[hL]at h3;cases h3
        | cons y r=>
          rw[hL]at hs h3;have:=(cW.1 hs).1 q h3;omega
      . simp at h3
        omega
     exact⟨q-1,by simp only[];omega,by omega⟩
theorem MP.eq_iff(p q:MP):p=q↔p.regions=q.regions/\p.consts=q.consts/\p.funcs=q.funcs/\p.certs=q.certs:=by
 cases p
 cases q
 simp
theorem GX(v v':VP)(p q:MP)(w:World)(hs:p.small)(hs':q.small)(h:Ej w v p)(h':Ej w v' q):
 Calls Tryz.prog 9 #[.agg #[v.r,v.k,v.f,v.t],.agg #[v'.r,v'.k,v'.f,v'.t]] w fun e w'=>Am e (p=q)/\Below w.heap.size w w':=by
 have F0:=Lq.of w 28 #[v.r,v.k,v.f,v.t] #[v'.r,v'.k,v'.f,v'.t] rfl rfl;have HS:Hid (p.small/\q.small):=⟨hs,hs'⟩
 have H:Hid (Ej w v p/\Ej w v' q):=⟨h,h'⟩
 clear h h' hs hs';go_enter Tryz.func9,Tryz.ntmps9;go_wp2_with fail
 refine(KI v.r v'.r p.regions q.regions _ HS.o.1.regions HS.o.2.regions HS.o.1.region HS.o.2.region (H.o.1.regions.keep F0.bel lR) (H.o.2.regions.keep F0.bel lR)).mono ?_;rintro e u1 ⟨⟨b1,rfl,hb1⟩,bel1⟩;have F1:=F0.keep bel1;clear F0 bel1;cases b1
 . have HN:Hid (¬p=q):=fun e=>by simp[(MP.eq_iff p q).1 e]at hb1
   clear hb1;go_wp2
   go_ret
   exact⟨.no HN.o,F1.bel⟩
 . have HE1:Hid (p.regions=q.regions):=hb1.1 rfl
   clear hb1;obtain⟨p0,p1,p2,p3,_⟩:=DA F1.par;obtain⟨o0,o1,o2,o3,_⟩:=DA F1.par';go_wp2_with fail
   refine(KE v.k v'.k p.consts q.consts _ HS.o.1.consts HS.o.2.consts (H.o.1.consts.keep F1.bel lR) (H.o.2.consts.keep F1.bel lR)).mono ?_;rintro e u2 ⟨⟨b2,rfl,hb2⟩,m2,e2⟩;have F2:=F1.keep (e2▸Aj _ _ _);clear F1 e2 p0 p1 p2 p3 o0 o1 o2 o3;cases b2
   . have HN:Hid (¬p=q):=fun e=>by simp[(MP.eq_iff p q).1 e]at hb2
     clear hb2;go_wp2
     go_ret
     exact⟨.no HN.o,F2.bel⟩
   . have HE2:Hid (p.consts=q.consts):=hb2.1 rfl
     clear hb2;obtain⟨p0,p1,p2,p3,_⟩:=DA F2.par;obtain⟨o0,o1,o2,o3,_⟩:=DA F2.par';go_wp2_with fail
     refine(KG v.f v'.f p.funcs q.funcs _ HS.o.1.funcs HS.o.2.funcs HS.o.1.func HS.o.2.func (H.o.1.funcs.keep F2.bel lR) (H.o.2.funcs.keep F2.bel lR)).mono ?_;rintro e u3 ⟨⟨b3,rfl,hb3⟩,bel3⟩;have F3:=F2.keep bel3;clear F2 bel3 p0 p1 p2 p3 o0 o1 o2 o3;cases b3
     . have HN:Hid (¬p=q):=fun e=>by simp[(MP.eq_iff p q).1 e]at hb3
       clear hb3;go_wp2
       go_ret
       exact⟨.no HN.o,F3.bel⟩
     . have HE3:Hid (p.funcs=q.funcs):=hb3.1 rfl
       clear hb3;obtain⟨p0,p1,p2,p3,_⟩:=DA F3.par;obtain⟨o0,o1,o2,o3,_⟩:=DA F3.par';go_wp2_with fail
       refine(KJ v.t v'.t p.certs q.certs _ HS.o.1.certs HS.o.2.certs (H.o.1.certs.keep F3.bel lR) (H.o.2.certs.keep F3.bel lR)).mono ?_;rintro e u4 ⟨⟨b4,rfl,hb4⟩,m4,e4⟩;have F4:=F3.keep (e4▸Aj _ _ _);clear F3 e4 p0 p1 p2 p3 o0 o1 o2 o3
       have HB:Hid (b4=true↔p=q):=by
        show _↔_;rw[hb4,MP.eq_iff];simp[HE1.o,HE2.o,HE3.o]
       clear hb4;go_wp2
       go_ret
       exact⟨.of HB.o,F4.bel⟩
theorem DI.then{α β:Type}{r:EQ α}{f:α->EQ β}{k k1 k2:Nat}{b b1 b2:Bool}{x:α}{y:β}(h:DI r k b x k1 b1)(h':DI (f x) k1 b1 y k2 b2):DI (AU r f) k b y k2 b2:=by
 rcases h with⟨h1,h2,h3⟩|⟨h1,h2⟩
 . rcases h' with⟨g1,g2,g3⟩|⟨g1,g2⟩
   . exact .inl ⟨h1,g2,by rw[CQ h3];exact g3⟩
   . rcases g2 with g2|g2
     . rw[h2]at g2;cases g2
     . exact .inr ⟨g1,.inr (by rw[CQ h3];exact g2)⟩
 . rcases h' with⟨g1,g2,g3⟩|⟨g1,g2⟩
   . rw[h1]at g1;cases g1
   . exact .inr ⟨g1,h2.imp_right fun e=>Aw e⟩
theorem DI.give{α:Type}(x:α)(k:Nat)(b:Bool):DI (B5 x) k b x k b:=by
 cases b
 . exact .inl ⟨rfl,rfl,rfl⟩
 . exact .inr ⟨rfl,.inl rfl⟩
theorem Bb.ob(X:Nat)(t:TypeId)(k:Nat)(xs:List Value):(Bb X t k xs).v.ownBlock=some X:=rfl
section
variable {w u v:World} {Ls:List As} {B I L:Nat} {a:Option Addr} {c:Nat} {zs:List Int} {k k':Nat} {bad bad':Bool}
end
theorem EY{w:World}{base:Nat}{v:VP}{F:List (List Int×Value)}{cs:List MC}{G:List (MF×VF)}{ts:List MT}{B:List As}(h:CI w base (Ai v F cs G ts B)):∃a1 c1 a2 c2 a3 c3 a4 c4,v=⟨.slice a1 F.length c1,.slice a2 cs.length c2,.slice a3 G.length c3,.slice a4 ts.length c4⟩:=by
 obtain⟨vr,vk,vf,vt⟩:=v;obtain⟨a1,c1,e1⟩:∃a c,vr=.slice a F.length c:=A9 (h.own (Ct vr F) (by simp[Ai]));obtain⟨a2,c2,e2⟩:∃a c,vk=.slice a cs.length c:=A9 (h.own (DY vk cs) (by simp[Ai]));obtain⟨a3,c3,e3⟩:∃a c,vf=.slice a G.length c:=A9 (h.own (BT vf G) (by simp[Ai]));obtain⟨a4,c4,e4⟩:∃a c,vt=.slice a ts.length c:=A9 (h.own (CZ vt ts) (by simp[Ai]));exact⟨a1,c1,a2,c2,a3,c3,a4,c4,by rw[e1,e2,e3,e4]⟩
def AX(fs:List MF):Prop:=¬fs.length=0/\fs.length<=32/\(∀j,j<fs.length->∀f,fs[j]?=some f->CJ f)/\∀f,fs[0]?=some f->Iv f
theorem Kq(s:Value)(fs:List MF)(w:World)(hL:fs.length<=1048576)(hs:∀f∈fs,f.small)(h:Jd w s fs):
 Calls Tryz.prog 42 #[s] w fun e w'=>Am e (AX fs)/\Below w.heap.size w w':=by
 obtain⟨xs,hxs,hrd,hel⟩:=h;have hxl:xs.length=fs.length:=by rw[<-hxs];simp
 have H1:=Af (aG hrd (aG hxs (aG hel (aG hs hxl))));obtain⟨a1,c1,rfl⟩:=hrd.is_slice;generalize hLL:fs.length=n at hL H1;have HL:=Af hLL;by_cases q0:n=0
 . subst q0
   have HN:Hid (¬AX fs):=fun e=>e.1 HL.o
   go_enter Tryz.func42,Tryz.ntmps42;go_wp2
   go_ret
   exact⟨.no HN.o,aq _ _⟩
 have q0':((n:Int)==0)=false:=by simpa using q0
 by_cases q1:32<n
 . have HN:Hid (¬AX fs):=fun e=>absurd e.2.1 (by rw[HL.o];omega)
   have q1':(32:Int)<(n:Int):=by omega
   go_enter Tryz.func42,Tryz.ntmps42;go_wp2
   go_ret
   exact⟨.no HN.o,aq _ _⟩
 have q1':¬(32:Int)<(n:Int):=by omega
 go_enter Tryz.func42,Tryz.ntmps42;go_wp2
 go_loopw [15] (fun i wr=>∃k:Nat,k<=n/\i=iZ k/\Hid (∀j,j<k->∀f,fs[j]?=some f->CJ f)/\Hid (Below w.heap.size w wr)) (fun i _=>n-(intOf i).toNat)
 case atStart=>exact⟨0,by omega,rfl,fun j hj=>by omega,aq _ _⟩
 case round=>
  obtain⟨k,hk,rfl,HT,HB⟩:=hrel;by_cases hlt:k<n
  . obtain⟨⟨f,v⟩,hx⟩:∃x,xs[k]?=some x:=⟨_,aA (by rw[H1.o.2.2.2.2];exact hlt)⟩
    have e1:=BG H1.o.2.1 hx;have HX:=Af (aG ((H1.o.2.2.1 _ (aF hx)).keep HB.o lR) (aG (H1.o.2.2.2.1 _ (aF e1)) e1));rcases H1.o.1.2 with⟨e0,_⟩|⟨b,o,c,e1,hc1⟩
    . omega
    . simp only[aI,ao]at e1
      obtain⟨rfl,rfl⟩:=e1;have i0:=Rd.elem Ag hc1 k _ hx 0 _ rfl;have i1:=Rd.elem Ag hc1 k _ hx 1 _ rfl;have i2:=Rd.elem Ag hc1 k _ hx 2 _ rfl;have i3:=Rd.elem Ag hc1 k _ hx 3 _ rfl;rw[<-HB.o.cell (aD i0),aT]at i0;rw[<-HB.o.cell (aD i1)]at i1;rw[<-HB.o.cell (aD i2)]at i2;rw[<-HB.o.cell (aD i3)]at i3;simp only[]at i0 i1 i2 i3;obtain⟨ap,cp,ep⟩:=HX.o.1.1.is_slice;obtain⟨al,cl,el⟩:=HX.o.1.2.1.is_slice;obtain⟨ac,cc,ec⟩:=HX.o.1.2.2.is_slice;obtain⟨vp,vl,vc⟩:=v;simp only[]at ep el ec i0 i1 i2 i3;subst ep el ec;have nb:¬b=wr.heap.size:=bC (aD i0);have mb:b<wr.heap.size:=aD i0;go_wp2_with fail
      have A1:=fun W (hW:Below wr.heap.size wr W)=>Kp ⟨.slice ap f.params.length cp,.slice al f.locals.length cl,.slice ac f.code.length cc⟩ f W HX.o.2.1 (HX.o.1.keep hW lR)
      refine(A1 _ (Aa _ _)).mono ?_;rintro e u ⟨⟨b0,rfl,hb0⟩,hbu⟩;have HB2:Hid (Below w.heap.size w u):=Ab HB.o lR (Ab (Aa _ _) lR hbu);cases b0
      . have HN:Hid (¬AX fs):=fun e=>by have:=e.2.2.1 k (by rw[HL.o];exact hlt) f HX.o.2.2;simp[this]at hb0
        go_wp2
        go_ret
        exact⟨.no HN.o,HB2.o⟩
      . have HC:Hid (CJ f):=hb0.1 rfl
        go_wp2
        go_roundw
        case rel=>exact⟨k+1,by omega,by go_num,CC HX.o.2.2 HC.o HT.o,HB2⟩
        case measure=>simp[intOf];omega
  . have hkn:n=k:=by omega
    subst hkn;obtain⟨⟨f,v⟩,hx⟩:∃x,xs[0]?=some x:=⟨_,aA (by rw[H1.o.2.2.2.2];omega)⟩;have e1:=BG H1.o.2.1 hx;have HX:=Af (aG ((H1.o.2.2.1 _ (aF hx)).keep HB.o lR) (aG (H1.o.2.2.2.1 _ (aF e1)) e1));rcases H1.o.1.2 with⟨e0,_⟩|⟨b,o,c,e1,hc1⟩
    . omega
    . simp only[aI,ao]at e1
      obtain⟨rfl,rfl⟩:=e1;have i0:=Rd.elem Ag hc1 0 _ hx 0 _ rfl;have i1:=Rd.elem Ag hc1 0 _ hx 1 _ rfl;rw[<-HB.o.cell (aD i0)]at i0;simp only[Nat.zero_mul,aT]at i0;rw[<-HB.o.cell (aD i1),Nat.zero_mul,aT]at i1;obtain⟨ap,cp,ep⟩:=HX.o.1.1.is_slice;obtain⟨vp,vl,vc⟩:=v;simp only[]at ep i0 i1;subst ep
      have HM:Hid (AX fs↔Iv f):=by
       show _↔_;refine⟨fun e=>e.2.2.2 f HX.o.2.2,fun e=>⟨by rw[HL.o];exact q0,by rw[HL.o];omega,by rw[HL.o];exact HT.o,fun g hg=> ?_⟩⟩;rw[HX.o.2.2]at hg;exact(aZ hg)▸e
      have hn1:=HX.o.2.1.1;generalize hN1:f.params.length=n1 at*;generalize hN2:f.result=R at*;have HE:=Af (aG hN1 hN2);have hl0:(0:Int)<(n:Int):=by omega
      by_cases z1:n1=0
      . subst z1
        have HY:Hid ((R==0)=true↔AX fs):=by
         show _↔_;rw[HM.o,beq_iff_eq];exact⟨fun e=>⟨HE.o.1,HE.o.2.trans e⟩,fun e=>HE.o.2.symm.trans e.2⟩
        go_wp2
        go_ret
        exact⟨.of HY.o,HB.o⟩
      . have z1':((n1:Int)==0)=false:=by simpa using z1
        have HN:Hid (¬AX fs):=fun e=>z1 (HE.o.1.symm.trans (HM.o.1 e).1)
        go_wp2
        go_ret
        exact⟨.no HN.o,HB.o⟩
def TQ(b:Bool):List Value:=[.bool b]
structure SW(w u:World)(xs:List MI)(n k q:Nat)(V:Value):Prop where
 lead:u.ownsRow w.heap.size 4 1 (.slice (some ⟨w.heap.size+1,0,none⟩) (n+1) (n+1)) (n+1) (CN xs n n)
 num:u.ownsRow w.heap.size 2 1 (sG q n n) n (CE (Gs xs) [iZ 0] (List.range n) k n)
 o:u.ownsRow w.heap.size 169 3 V (Bi xs k).length ((Bi xs k).flatMap Ke)
 bel:Below w.heap.size w u
theorem Oy{u:World}{B B' g g' k k' n n' c c':Nat}{e e':TypeId}{xs ys:List Value}(h:u.ownsRow B e k (sG g n c) n xs)(h':u.ownsRow B' e' k' (sG g' n' c') n' ys)(hne:e≠e'):¬g=g':=fun eq=>by
 subst eq;obtain⟨_,cur,h1⟩:=AF h;obtain⟨_,cur',h2⟩:=AF h';rw[h1]at h2;simp only[aM,cD]at h2;exact hne h2.2.1
theorem Cc{u:World}{B B' g k k' n n' c:Nat}{e e':TypeId}{s:Value}{xs ys:List Value}(h:u.ownsRow B e k s n xs)(h':u.ownsRow B' e' k' (sG g n' c) n' ys)(hne:e≠e')(i:Nat)(z:Value):(u.setCell ⟨g,i,none⟩ z).ownsRow B e k s n xs:=by
 obtain⟨_,cur,h1⟩:=AF h';exact aN h (a:=⟨g,i,none⟩) (fun q=>Bn h h1 hne _ q rfl) z
theorem SW.fin{w u:World}{xs:List MI}{n k q gg cap:Nat}{bs:List MB}{b:MB}(hk:k<n)(h1:u.ownsRow w.heap.size 4 1 (.slice (some ⟨w.heap.size+1,0,none⟩) (n+1) (n+1)) (n+1) (CN xs n n))(h2:u.ownsRow w.heap.size 2 1 (sG q n n) n (CE (Gs xs) [iZ 0] (List.range n) k n))(h3:u.ownsRow w.heap.size 169 3 (sG gg (bs.length+1) cap) (bs.length+1) ((bs++[b]).flatMap Ke))(h4:Below w.heap.size w u)(ho:Bi xs (k+1)=bs++[(⟨b.first,(k:Int),b.next⟩:MB)])(hm:AN xs k=(bs.length:Int)):
 SW w ((u.setCell ⟨q,k,none⟩ (iZ bs.length)).setCell ⟨gg,bs.length*3+1,none⟩ (iZ k)) xs n (k+1) q (sG gg (bs.length+1) cap):=by
 have hq:w.heap.size<=q:=(AF h2).1;have hg:w.heap.size<=gg:=(AF h3).1;have g1:=Cc h1 h2 (by decide) k (iZ bs.length);have g3:=Cc h3 h2 (by decide) k (iZ bs.length);have g2:=(h2.stored k (iZ bs.length)).1
 have e2:(CE (Gs xs) [iZ 0] (List.range n) k n).set k (iZ bs.length)=CE (Gs xs) [iZ 0] (List.range n) (k+1) n:=by
  rw[Fz _ _ _ _ _ hk,Ue _ _ _ _ k (by rw[Aq (Gs xs) 1 (Dk xs),b9,br];omega),MQ (Gs xs) _ _ k n k (by simp[hk])];simp[Gs,Ac,hm]
 rw[e2]at g2;refine⟨Cc g1 g3 (by decide) _ _,Cc g2 g3 (by decide) _ _,?_,(h4.setCell hq _).setCell hg _⟩;have g4:=(g3.stored (bs.length*3+1) (iZ k)).1;rw[RJ]at g4;rw[ho,aH,aP];exact g4
theorem TR{w wr w3:World}{xs:List MI}{k j q gg cap:Nat}{v:Value}(h:SW w wr xs k j q v)(ho:Bi xs (j+1)=Bi xs j++[(⟨(j:Int),(j:Int),[]⟩:MB)])(hm:AN xs j=((Bi xs j).length:Int))(hj:j<k)(hown:w3.ownsRow w.heap.size 169 3 (sG gg ((Bi xs j).length+1) cap) ((Bi xs j).length+1) ((Bi xs j).flatMap Ke++[iZ j,iZ 0,sN]))(hg:(wr.alloc (.cells #[iZ j,iZ 0,sN] 169)).grownBy w3 v.ownBlock):
 Hid (SW w ((w3.setCell ⟨q,j,none⟩ (iZ (Bi xs j).length)).setCell ⟨gg,(Bi xs j).length*3+1,none⟩ (iZ j)) xs k (j+1) q (sG gg ((Bi xs j).length+1) cap))/\¬gg=q/\¬q=gg/\w3.cell? ⟨q,j,none⟩=some (iZ 0)/\w3.frozen? ⟨q,j,none⟩=false/\w3.cell? ⟨gg,(Bi xs j).length*3+1,none⟩=some (iZ 0)/\w3.frozen? ⟨gg,(Bi xs j).length*3+1,none⟩=false:=by
 have bA:=Aa wr (.cells #[iZ j,iZ 0,sN] 169);have r3:=Ah h.o bA lR;have r1:=Cs (Ah h.lead bA lR) hg r3 (by decide);have r2:=Cs (Ah h.num bA lR) hg r3 (by decide);have bel:=(Ab h.bel lR bA).grown hg (aR h.bel.size bA.size) (fun i hi=>(r3.lt i hi).1);have hne:=Oy hown r2 (by decide);have n0:=r2.cellAt j (by omega);have o0:=hown.cellAt ((Bi xs j).length*3+1) (by omega);rw[Fz _ _ _ _ _ hj,bH (by rw[Aq (Gs xs) 1 (Dk xs),b9,br];omega),show j-(List.flatMap (Gs xs) (List.take j (List.range k))).length=0 by rw[Aq (Gs xs) 1 (Dk xs),b9,br];omega]at n0;simp only[bK,aJ]at n0;rw[bH (by rw[Aq Ke 3 Eu];omega),show(Bi xs j).length*3+1-(List.flatMap Ke (Bi xs j)).length=1 by rw[Aq Ke 3 Eu];omega]at o0;simp only[aL,aJ]at o0;refine⟨SW.fin (b:=⟨(j:Int),0,[]⟩) hj r1 r2 (by rw[a8];exact hown) bel ho hm,hne,fun e=>hne e.symm,n0,r2.frozenAt j,o0,hown.frozenAt _⟩
theorem Dj(n:Nat):(madeCells (Value.bool false).cells (n*1)).toList=List.replicate n (.bool false):=by
 rw[EK TQ [.bool false] [] n (.bool false) 1 rfl rfl (by omega)];simp[CE,List.flatten_replicate_singleton]
theorem JX(n:Nat)(f:Nat->List Value)(ys:List Nat):(madeCells (Value.int .i64 0).cells (n*1)).toList=CE f [iZ 0] ys 0 n:=by
 rw[EK f [iZ 0] ys n (iZ 0) 1 rfl rfl (by omega)]
structure SV(w u:World)(xs:List MI)(n k:Nat):Prop where
 lead:u.ownsRow w.heap.size 4 1 (.slice (some ⟨w.heap.size+1,0,none⟩) (n+1) (n+1)) (n+1) (CN xs k n)
 o:Ap u w.heap.size #[] 169
 bel:Below w.heap.size w u
theorem SV.set{w u:World}{xs:List MI}{n k k':Nat}(h:SV w u xs n k)(j:Nat)(hl:(CN xs k n).set j (.bool true)=CN xs k' n):SV w (u.setCell ⟨w.heap.size+1,j,none⟩ (.bool true)) xs n k':=by
 refine⟨?_,h.o.other (by simp only[];omega) _,h.bel.setCell (by simp only[];omega) _⟩;have:=(h.lead.stored j (.bool true)).1;rw[hl]at this;exact this
theorem SV.set2{w u:World}{xs:List MI}{n k k':Nat}(h:SV w u xs n k)(j j':Nat)(hl:((CN xs k n).set j (.bool true)).set j' (.bool true)=CN xs k' n):SV w ((u.setCell ⟨w.heap.size+1,j,none⟩ (.bool true)).setCell ⟨w.heap.size+1,j',none⟩ (.bool true)) xs n k':=by
 refine⟨?_,(h.o.other (by simp only[];omega) _).other (by simp only[];omega) _,(h.bel.setCell (by simp only[];omega) _).setCell (by simp only[];omega) _⟩;have:=((h.lead.stored j (.bool true)).1.stored j' (.bool true)).1;rw[hl]at this;exact this
theorem JN (v v':VF)(f g:MF)(w:World)(hs:f.small)(hs':g.small)(h:EI w v f)(h':EI w v' g):
 Calls Tryz.prog 26 #[.agg #[v.p,.int .i64 f.result,v.l,v.c],.agg #[v'.p,.int .i64 g.result,v'.l,v'.c]] w fun e w'=>Am e (f=g)/\Below w.heap.size w w':=by
 have F0:=Lq.of w 58 #[v.p,.int .i64 f.result,v.l,v.c] #[v'.p,.int .i64 g.result,v'.l,v'.c] rfl rfl;have H:Hid (EI w v f/\EI w v' g/\f.small/\g.small):=⟨h,h',hs,hs'⟩
 clear h h' hs hs';go_enter Tryz.func26,Tryz.ntmps26;go_wp2_with fail
 refine(Dd v.p v'.p f.params g.params _ H.o.2.2.1.1 H.o.2.2.2.1 (H.o.1.1.keep F0.bel lR) (H.o.2.1.1.keep F0.bel lR)).mono ?_;rintro e u1 ⟨⟨b1,rfl,hb1⟩,m1,e1⟩;have F1:=F0.keep (e1▸Aj _ _ _);clear F0 e1;cases b1
 . have HN:Hid (¬f=g):=fun e=>by simp[(MF.eq_iff f g).1 e]at hb1
   clear hb1;go_wp2
   go_ret
   exact⟨.no HN.o,F1.bel⟩
 . have HP : Hid (f.params=g.params):=hb1.1 rfl
   clear hb1;obtain⟨p0,p1,p2,p3,_⟩:=DA F1.par;obtain⟨o0,o1,o2,o3,_⟩:=DA F1.par';by_cases hr:f.result=g.result
   . rw [← hr] at o1
     rw[<-hr];have HR:Hid (f.result=g.result):=hr;clear hr;go_wp2_with fail
     refine(Dd v.l v'.l f.locals g.locals _ H.o.2.2.1.2.1 H.o.2.2.2.2.1 (H.o.1.2.1.keep F1.bel lR) (H.o.2.1.2.1.keep F1.bel lR)).mono ?_;rintro e u2 ⟨⟨b2,rfl,hb2⟩,m2,e2⟩;have F2:=F1.keep (e2▸Aj _ _ _);clear F1 e2 p0 p1 p2 p3 o0 o1 o2 o3;cases b2
     . have HN:Hid (¬f=g):=fun e=>by simp[(MF.eq_iff f g).1 e]at hb2
       clear hb2;go_wp2
       go_ret
       exact⟨.no HN.o,F2.bel⟩
     . have HL:Hid (f.locals=g.locals):=hb2.1 rfl
       clear hb2;have HF:Hid (Lq w u2 58 #[v.p,.int .i64 f.result,v.l,v.c].toList #[v'.p,.int .i64 g.result,v'.l,v'.c].toList):=F2;obtain⟨_,_,_,p3,_⟩:=DA F2.par;obtain⟨_,_,_,o3,_⟩:=DA F2.par';have H1:Hid (Rd u2 4 v.c f.code.length (f.code.flatMap MI.cells)):=H.o.1.2.2.keep F2.bel lR;have H2:Hid (Rd u2 4 v'.c g.code.length (g.code.flatMap MI.cells)):=H.o.2.1.2.2.keep F2.bel lR;have hn:f.code.length<=1048576:=H.o.2.2.1.2.2;have hn':g.code.length<=1048576:=H.o.2.2.2.2.2;clear F2
       have HC:Hid (f=g↔f.code=g.code):=by
        show _↔_;rw[MF.eq_iff];simp[HP.o,HR.o,HL.o]
       obtain⟨a1,c1,ec1⟩:=H1.o.is_slice;obtain⟨a2,c2,ec2⟩:=H2.o.is_slice;rw[ec1]at p3 H1;rw[ec2]at o3 H2;generalize hfc:f.code=xs at*;generalize hgc:g.code=ys at*;have HG:Hid (v.c=.slice a1 xs.length c1/\v'.c=.slice a2 ys.length c2):=⟨ec1,ec2⟩
       clear ec1 ec2 hfc hgc;by_cases hll:xs.length=ys.length
       . rw [<-hll]at H2 o3
         clear hn';generalize hLL:xs.length=n at hn H1 H2 p3 o3;have HLn:Hid (xs.length=n/\ys.length=n):=⟨hLL,hll▸hLL⟩
         clear hLL hll;have hm:Tryz.prog.eqGuardType Tryz.prog.depth 97=false:=by kernel_rfl
         go_wp2
         go_loopw [5] (fun i wr=>∃k:Nat,k<=n/\i=.int .i64 k/\Hid (∀j,j<k->xs[j]?=ys[j]?)/\∃m,wr=u2.drewN m) (fun i _=>n-(intOf i).toNat)
         case atStart=>exact⟨0,by omega,rfl,fun j hj=>by omega,0,rfl⟩
         case round=>
          obtain⟨k,hk,rfl,HT,m,rfl⟩:=hrel;by_cases hlt:k<n
          . obtain⟨x,hx⟩:∃x,xs[k]?=some x:=⟨_,aA (by rw[HLn.o.1];exact hlt)⟩
            obtain⟨y,hy⟩:∃y,ys[k]?=some y:=⟨_,aA (by rw[HLn.o.2];exact hlt)⟩;rcases H1.o.2 with⟨e0,_⟩|⟨g1,o,c,e1,hc1⟩
            . omega
            . rcases H2.o.2 with⟨e0,_⟩|⟨g',o',c',e2,hc2⟩
              . omega
              . simp only[aI,ao]at e1 e2
                obtain⟨rfl,rfl⟩:=e1;obtain⟨rfl,rfl⟩:=e2;have i0:=Rd.elem MI.cells_length hc1 k x hx 0 _ rfl;have i1:=Rd.elem MI.cells_length hc1 k x hx 1 _ rfl;have i2:=Rd.elem MI.cells_length hc1 k x hx 2 _ rfl;have i3:=Rd.elem MI.cells_length hc1 k x hx 3 _ rfl;have j0:=Rd.elem MI.cells_length hc2 k y hy 0 _ rfl;have j1:=Rd.elem MI.cells_length hc2 k y hy 1 _ rfl;have j2:=Rd.elem MI.cells_length hc2 k y hy 2 _ rfl;have j3:=Rd.elem MI.cells_length hc2 k y hy 3 _ rfl;rw[aT]at i0 j0;have HX:Hid (xs[k]?=some x/\ys[k]?=some y):=⟨hx,hy⟩
                clear hc1 hc2 hx hy;by_cases hxy:x=y
                . subst hxy
                  have hq:∀w,(binOp .neq 97 (.agg #[.int .i64 x.op,.int .i64 x.a,.int .i64 x.b,.int .i64 x.c]) (.agg #[.int .i64 x.op,.int .i64 x.a,.int .i64 x.b,.int .i64 x.c])).run Tryz.prog w=.ok (.bool false) w:=MI.neq_same x;go_wp2
                  go_quiet (fail)
                  go_wp2
                  go_roundw
                  case rel=>exact⟨k+1,by omega,by go_num,Cf HX.o.1 HX.o.2 HT.o,_,rfl⟩
                  case measure=>simp[intOf];omega
                . have hq:∀w,(binOp .neq 97 (.agg #[.int .i64 x.op,.int .i64 x.a,.int .i64 x.b,.int .i64 x.c]) (.agg #[.int .i64 y.op,.int .i64 y.a,.int .i64 y.b,.int .i64 y.c])).run Tryz.prog w=.ok (.bool true) w:=MI.neq_ne x y hxy
                  have HN:Hid (¬f=g):=fun e=>Db HX.o.1 HX.o.2 hxy (HC.o.1 e)
                  go_wp2
                  go_quiet (fail)
                  go_wp2
                  go_ret
                  exact⟨.no HN.o,HF.o.bel.trans (by rw[World.drewN_drewN];exact Aj _ _ _)⟩
          . have hkn:k=n:=by omega
            subst hkn;have HY:Hid (f=g):=HC.o.2 (Cz HLn.o.1 HLn.o.2 HT.o);go_wp2
            go_ret
            exact⟨.yes HY.o,HF.o.bel.trans (Aj _ _ _)⟩
       . have HN:Hid (¬f=g):=fun e=>hll (by rw[HC.o.1 e])
         clear H1 H2 HG;generalize xs.length=n at*;generalize ys.length=n' at*;have hi:¬(n:Int)=(n':Int):=by omega
         go_wp2
         go_ret
         exact⟨.no HN.o,HF.o.bel⟩
   . have HN:Hid (¬f=g):=fun e=>hr (by rw[e])
     go_wp2
     go_ret
     exact⟨.no HN.o,F1.bel⟩
end Go.Proofs.YtjcamlobelcepaaGreatDoor
