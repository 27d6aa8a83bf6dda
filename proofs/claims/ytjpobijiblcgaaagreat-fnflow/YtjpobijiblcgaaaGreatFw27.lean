import Derived.Test.YtjpobijiblcgaaaGreatFw26
import Derived.Test.YtjpobijiblcgaaaGreatFw3
import Derived.Test.YtjpobijiblcgaaaGreatFw2
import Derived.Deep.AppendLies
import Derived.Deep.RegionLaw
import Derived.Maps.AppendAt
import Derived.Test.YtjpobijiblcgaaaGreatFw0
import Derived.Test.YtjpobijiblcgaaaGreatFw23
import Derived.Test.YtjpobijiblcgaaaGreatFw22
import Derived.Test.YtjpobijiblcgaaaGreatFw21
import Derived.Test.YtjpobijiblcgaaaGreatFw16
import Derived.Test.YtjpobijiblcgaaaGreatFw18
import Derived.Test.YtjpobijiblcgaaaGreatFw4
import Derived.Lib.AppendZeros
import Derived.Deep.RegionHeld
import Derived.Test.YtjpobijiblcgaaaGreatFw24
namespace Go.Proofs.YtjpobijiblcgaaaGreat
open Go.ChangeShapes Go.WideShapes Go.ChangeAt Go.RowKit
set_option linter.unusedVariables false
set_option maxHeartbeats 4000000
set_option maxRecDepth 100000
theorem DV{P:Program}{w:World}(base:Nat)(t ty e:TypeId)(i:TypeInfo)(size:Nat)(ht:P.underlying t=some (.slice e))(hi:P.info? e=some i)(v:Value)(n:Nat)(xs:List Value)(hown:w.ownsRow base e size v n xs)(c:Nat):(Builtin.append_ #[t,t] ty #[v,.slice none 0 c]).run P w=.ok v w:=by
 rcases hown.2 with⟨rfl,rfl⟩|⟨g,cap,cur,rfl,_,_,hnc,_⟩
 . simp[Builtin.append_,run_underlying ht,sizeOf,typeInfo,hi,Builtin.lenOf,Builtin.firstCells]
 . simp[Builtin.append_,run_underlying ht,sizeOf,typeInfo,hi,Builtin.lenOf,Builtin.firstCells,hnc,storeCells]
theorem O6{w:World}{base:Nat}{e:TypeId}{s:Value}{k n:Nat}{xs:List Value}(h:w.ownsRow base e k s n xs):∃a c,s=.slice a n c/\n<=c:=by
 rcases h.2 with⟨rfl,rfl⟩|⟨g,cap,cur,rfl,_,_,hc,_⟩
 . exact⟨_,_,rfl,Nat.le_refl _⟩
 . exact⟨_,_,rfl,hc⟩
theorem Oi{P:Program}(u:World)(B:Nat)(t ty e:TypeId)(i:TypeInfo)(z:Value)(k bytes:Nat)(ht:P.underlying t=some (.slice e))(hi:P.info? e=some i)(hz:i.zero=some z)(hk:i.size=k)(hby:i.bytes=bytes)(hzs:z.cells.size=k)(hsz:0<k)(V:Value)(n:Nat)(xs:List Value)(ho:u.ownsRow B e k V n xs)(Vs:Value)(m:Nat)(ys:List Value)(hr:Rd u k Vs m ys)(hl:ys.length=m*k)(h1:∀x∈ys,x.oneCell'=true)(h63:n+m<=maxLen)(hbytes:(n+m)*bytes<=140737488355328)(hB:B<=u.heap.size):∃v' w',(Builtin.append_ #[t,t] ty #[V,Vs]).run P u=.ok v' w'/\w'.ownsRow B e k v' (n+m) (xs++ys)/\u.grownBy w' V.ownBlock/\(v'.ownBlock=V.ownBlock\/v'.ownBlock=some u.heap.size):=by
 obtain⟨a,c,rfl⟩:=hr.is_slice;cases a with
 | none=>
   have hm:m=0:=by
    rcases hr.2 with⟨e0,_⟩|⟨g,o,c,e1,_⟩
    . exact e0
    . cases e1
   subst hm;have h0:ys=[]:=cX (by omega);subst h0;exact⟨_,_,DV (P:=P) B t ty e i k ht hi _ _ _ ho c,by simpa using ho,⟨rfl,rfl,rfl,Nat.le_refl _,fun _ _ _=>rfl⟩,.inl rfl⟩
 | some ad=>
   have hN:∀j v,ys[j]?=some v->u.cell? (ad.add j)=some v:=fun j v hj=>by
    rcases hr.2 with⟨e0,_⟩|⟨g,o,c,e1,hc⟩
    . subst e0
      have:ys=[]:=cX (by omega);subst this;simp at hj
    . simp only[aI,aJ]at e1
      obtain⟨rfl,_⟩:=e1;rw[Di];exact hc j v hj
   obtain⟨v',w',h2,h3,h4,_,h5⟩:=run_append_own_at (P:=P) (w:=u) B t ty e i z k bytes ht hi hz hk hby hzs hsz V n xs ho ad m c ys hl hN h1 h63 hbytes hB;exact⟨v',w',h2,h3,h4,h5⟩
theorem Ni{P:Program}{o:Oper}{a:Act}{K:Act->World->Prop}{Q:Exit->Act->World->Prop}{u:World}(s x:Operand)(B:Nat)(t e:TypeId)(i:TypeInfo)(z:Value)(k bytes:Nat)(ho:o.op=.call {callee:=.builtin .append,args:=#[s,x],argTypes:=#[t,t]})(ht:P.underlying t=some (.slice e))(hi:P.info? e=some i)(hz:i.zero=some z)(hk:i.size=k)(hby:i.bytes=bytes)(hzs:z.cells.size=k)(hsz:0<k)(V:Value)(n:Nat)(xs:List Value)(hs:a.eval s=V)(hw:u.ownsRow B e k V n xs)(Vs:Value)(m:Nat)(ys:List Value)(hx:a.eval x=Vs)(hr:Rd u k Vs m ys)(hl:ys.length=m*k)(h1:∀x∈ys,x.oneCell'=true)(h63:n+m<=maxLen)(hbytes:(n+m)*bytes<=140737488355328)(hB:B<=u.heap.size)(hK:∀v' w',w'.ownsRow B e k v' (n+m) (xs++ys)->u.grownBy w' V.ownBlock->(v'.ownBlock=V.ownBlock\/v'.ownBlock=some u.heap.size)->K (a.put o.dst v') w'):o.wp P a u K Q:=by
 obtain⟨v',w',h2,h3,h4,h5⟩:=Oi (P:=P) u B t o.type e i z k bytes ht hi hz hk hby hzs hsz V n xs hw Vs m ys hr hl h1 h63 hbytes hB;exact Lib.wp_append_run _ s x t t ho _ _ hs hx v' w' h2 (hK v' w' h3 h4 h5)
theorem LH{P:Program}{ops:Array Oper}{rest:List Oper}{o:Oper}{a:Act}{Q:Exit->Act->World->Prop}{u:World}(hgd:o.guard=none)(s x:Operand)(B:Nat)(t e:TypeId)(i:TypeInfo)(z:Value)(k bytes:Nat)(ho:o.op=.call {callee:=.builtin .append,args:=#[s,x],argTypes:=#[t,t]})(ht:P.underlying t=some (.slice e))(hi:P.info? e=some i)(hz:i.zero=some z)(hk:i.size=k)(hby:i.bytes=bytes)(hzs:z.cells.size=k)(hsz:0<k)(V:Value)(n:Nat)(xs:List Value)(hs:a.eval s=V)(hw:u.ownsRow B e k V n xs)(Vs:Value)(m:Nat)(ys:List Value)(hx:a.eval x=Vs)(hr:Rd u k Vs m ys)(hl:ys.length=m*k)(h1:∀x∈ys,x.oneCell'=true)(h63:n+m<=maxLen)(hbytes:(n+m)*bytes<=140737488355328)(hB:B<=u.heap.size)(hK:∀v' w',w'.ownsRow B e k v' (n+m) (xs++ys)->u.grownBy w' V.ownBlock->(v'.ownBlock=V.ownBlock\/v'.ownBlock=some u.heap.size)->wpList P ops Q rest (a.put o.dst v') w'):wpList P ops Q (o::rest) a u:=
 wpList_plain hgd fun _ hK'=>Ni s x B t e i z k bytes ho ht hi hz hk hby hzs hsz V n xs hs hw Vs m ys hx hr hl h1 h63 hbytes hB fun v' w' q1 q2 q3=>hK' _ _ (hK v' w' q1 q2 q3)
theorem Br{P:Program}{ops:Array Oper}{o:Oper}{a:Act}{K:Act->World->Prop}{Q:Exit->Act->World->Prop}{E:Prop}{u:World}(hgd:o.guard=none)(s x:Operand)(B:Nat)(t e:TypeId)(i:TypeInfo)(z:Value)(k bytes:Nat)(ho:o.op=.call {callee:=.builtin .append,args:=#[s,x],argTypes:=#[t,t]})(ht:P.underlying t=some (.slice e))(hi:P.info? e=some i)(hz:i.zero=some z)(hk:i.size=k)(hby:i.bytes=bytes)(hzs:z.cells.size=k)(hsz:0<k)(V:Value)(n:Nat)(xs:List Value)(hs:a.eval s=V)(hw:u.ownsRow B e k V n xs)(Vs:Value)(m:Nat)(ys:List Value)(hx:a.eval x=Vs)(hr:Rd u k Vs m ys)(hl:ys.length=m*k)(h1:∀x∈ys,x.oneCell'=true)(h63:n+m<=maxLen)(hbytes:(n+m)*bytes<=140737488355328)(hB:B<=u.heap.size)(hK:∀v' w',w'.ownsRow B e k v' (n+m) (xs++ys)->u.grownBy w' V.ownBlock->(v'.ownBlock=V.ownBlock\/v'.ownBlock=some u.heap.size)->K (a.put o.dst v') w'):if Region.wanted o (yielded ops a.tmps)=true then Oper.wp P o a u K Q else E:=by
 have hwd:Region.wanted o (yielded ops a.tmps)=true:=by simp[Region.wanted,hgd]
 rw[cD hwd];exact Ni s x B t e i z k bytes ho ht hi hz hk hby hzs hsz V n xs hs hw Vs m ys hx hr hl h1 h63 hbytes hB hK
theorem A5(u:World)(e:TypeId)(k:Nat):(u.alloc (.cells #[] e)).ownsRow u.heap.size e k (.slice (some ⟨u.heap.size,0,none⟩) 0 0) 0 []:=⟨by simp,.inr ⟨u.heap.size,0,#[],rfl,Nat.le_refl _,dT _ _,Nat.le_refl _,dP _,by simp,by simp⟩⟩
theorem Rd.front{u:World}{k n m c:Nat}{a:Option Addr}{xs:List Value}(h:Rd u k (.slice a n c) n xs)(hl:xs.length=n*k)(hm:m<=n)(c':Nat):Rd u k (.slice a m c') m (xs.take (m*k)):=by
 refine⟨by rw[bh,hl];exact Nat.min_eq_left (Nat.mul_le_mul_right k hm),?_⟩;rcases h.2 with⟨e0,_⟩|⟨g,o,c1,e1,hc⟩
 . obtain rfl:m=0:=by omega
   exact .inl ⟨rfl,a,c',rfl⟩
 . simp only[aI]at e1
   obtain⟨rfl,_⟩:=e1;refine .inr ⟨g,o,c',rfl,fun j u hj=>hc j u ?_⟩;rw[List.getElem?_take]at hj;split at hj
   . exact hj
   . cases hj
structure GV where
 fc:Int
 fa:Int
 gb:Nat
 ob:Nat
 cb:Nat
 go:Nat
 oo:Nat
 co:Nat
 vi:Value
 vl:Value
 gi:Nat
 ci:Nat
 gc:Nat
 cc:Nat
def I5(x:Int):Prop:=0<=x/\x<=4294967295
structure Gr(w u:World)(G n:Nat)(x:GV)(bad:Bool)(I:List Nat)(C:List Int):Prop where
 blk:An u G #[iZ x.fc,iZ x.fa,sO x.gb x.ob n x.cb,sO x.go x.oo n x.co,x.vi,x.vl,sG x.gi n x.ci,sG x.gc n x.cc,.bool bad] 182
 lo:w.heap.size<=G
 is_:u.ownsRow w.heap.size 2 1 (sG x.gi n x.ci) n (nv I)
 cost:u.ownsRow w.heap.size 2 1 (sG x.gc n x.cc) n (C.flatMap Ab)
 ne:x.gi≠x.gc
 bel:Below w.heap.size w u
 il:I.length=n
 ib:∀y∈I,y<n
 cl:C.length=n
 cb:∀y∈C,I5 y
structure GF(w:World)(n:Nat)(x:GV)(E:Nat->List Nat)(O:List Nat):Prop where
 gr:Ft w x.gb x.ob n E
 ord:∀k y:Nat,O[k]?=some y->w.cell? ⟨x.go,x.oo+k,none⟩=some (iZ (y:Int))
 ol:O.length=n
 ob:∀y∈O,y<n
 eb:∀b,b<n->∀y∈E b,y<n
 sz:∀b,(E b).length<=2
theorem Gr.keep{w u u':World}{G n:Nat}{x:GV}{bad:Bool}{I:List Nat}{C:List Int}(h:Gr w u G n x bad I C)(hb:Below u.heap.size u u'):Gr w u' G n x bad I C:={h with blk:=h.blk.keep hb,is_:=Aj h.is_ hb lR,cost:=Aj h.cost hb lR,bel:=Af h.bel lR hb}
theorem Gr.gi_ne{w u:World}{G n:Nat}{x:GV}{bad:Bool}{I:List Nat}{C:List Int}(h:Gr w u G n x bad I C):x.gi≠G/\x.gc≠G:=by
 obtain⟨_,c1,e1⟩:=At h.is_;obtain⟨_,c2,e2⟩:=At h.cost;have e3:=h.blk;unfold An at e3;constructor
 . intro e
   rw[e,e3]at e1;cases e1
 . intro e
   rw[e,e3]at e2;cases e2
theorem BW{u:World}{B g g' k n c i:Nat}{e:TypeId}{xs:List Value}{z:Value}(h:u.ownsRow B e k (sG g n c) n xs)(hne:g≠g'):(u.setCell ⟨g',i,none⟩ z).ownsRow B e k (sG g n c) n xs:=aR h (a:=⟨g',i,none⟩) (fun e=>hne (by simpa[Value.ownBlock]using e)) z
theorem Gr.bad_{w u:World}{G n:Nat}{x:GV}{bad:Bool}{I:List Nat}{C:List Int}(h:Gr w u G n x bad I C):Gr w (u.setCell ⟨G,8,none⟩ (.bool true)) G n x true I C:=
 {h with blk:=by have:=h.blk.set 8 (.bool true);simpa using this,is_:=BW h.is_ h.gi_ne.1,cost:=BW h.cost h.gi_ne.2,bel:=h.bel.setCell h.lo _}
theorem Gr.other{w u:World}{G n g i:Nat}{x:GV}{bad:Bool}{I:List Nat}{C:List Int}{z:Value}(h:Gr w u G n x bad I C)(hg:w.heap.size<=g)(h1:g≠G)(h2:g≠x.gi)(h3:g≠x.gc):Gr w (u.setCell ⟨g,i,none⟩ z) G n x bad I C:=
 {h with blk:=h.blk.other (a:=⟨g,i,none⟩) (fun e=>h1 e.symm) _,is_:=BW h.is_ h2.symm,cost:=BW h.cost h3.symm,bel:=h.bel.setCell hg _}
theorem Gr.cells{w u:World}{G n:Nat}{x:GV}{bad:Bool}{I:List Nat}{C:List Int}(h:Gr w u G n x bad I C):u.cell? ⟨G,2,none⟩=some (sO x.gb x.ob n x.cb)/\u.cell? ⟨G,3,none⟩=some (sO x.go x.oo n x.co)/\u.cell? ⟨G,6,none⟩=some (sG x.gi n x.ci)/\u.cell? ⟨G,7,none⟩=some (sG x.gc n x.cc)/\u.cell? ⟨G,8,none⟩=some (.bool bad)/\u.frozen? ⟨G,8,none⟩=false:=
 ⟨by rw[h.blk.cell];rfl,by rw[h.blk.cell];rfl,by rw[h.blk.cell];rfl,by rw[h.blk.cell];rfl,by rw[h.blk.cell];rfl,h.blk.frozen 8⟩
theorem Gr.isAt{w u:World}{G n:Nat}{x:GV}{bad:Bool}{I:List Nat}{C:List Int}(h:Gr w u G n x bad I C){b:Nat}(hb:b<n):∃y,I[b]?=some y/\y<n/\u.cell? ⟨x.gi,b,none⟩=some (iZ (y:Int)):=by
 have hb':b<I.length:=by rw[h.il];exact hb
 have:=au h.is_ b (by omega);rw[M6 (aA hb')]at this;exact⟨_,aA hb',h.ib _ (bq hb'),this⟩
theorem Ed{C:List Int}{b:Nat}{y:Int}(h:C[b]?=some y):(C.flatMap Ab)[b]?=some (iZ y):=by
 have:C.flatMap Ab=C.map (Value.int .i64):=by
  induction C generalizing b with
  |nil=>rfl
  | cons x r ih=>
    have:List.flatMap Ab r=List.map (Value.int .i64) r:=by
     clear ih h;induction r with
     |nil=>rfl
     |cons x r ih=>rw[aW,ih];rfl
    rw[aW,this];rfl
 rw[this,a7,h];rfl
theorem Gr.costAt{w u:World}{G n:Nat}{x:GV}{bad:Bool}{I:List Nat}{C:List Int}(h:Gr w u G n x bad I C){b:Nat}(hb:b<n):∃y,C[b]?=some y/\I5 y/\u.cell? ⟨x.gc,b,none⟩=some (iZ y):=by
 have hb':b<C.length:=by rw[h.cl];exact hb
 have:=au h.cost b (by omega);rw[Ed (aA hb')]at this;exact⟨_,aA hb',h.cb _ (bq hb'),this⟩
theorem GF.at_{w u:World}{n:Nat}{x:GV}{E:Nat->List Nat}{O:List Nat}(h:GF w n x E O)(hb:Below w.heap.size w u):(∀k,k<n->∃y:Nat,y<n/\u.cell? ⟨x.go,x.oo+k,none⟩=some (iZ (y:Int)))/\Ft u x.gb x.ob n E:=
 ⟨fun k hk=>⟨O[k]'(by rw[h.ol];exact hk),h.ob _ (bq _),Ac hb (h.ord k _ (aA _))⟩,h.gr.keep hb⟩
theorem Ex(G:Nat)(a b:Int)(v0:Value)(u:World)(ha:I5 a)(hb:I5 b)(h:u.cell? ⟨G,8,none⟩=some v0)(hf:u.frozen? ⟨G,8,none⟩=false):
 Calls Tryz.prog 116 #[.pointer (some ⟨G,0,none⟩),iZ a,iZ b] u fun e u'=>∃c,e=.returned (iZ c)/\I5 c/\(u'=u\/u'=u.setCell ⟨G,8,none⟩ (.bool true)):=by
 obtain⟨a1,a2⟩:=ha;obtain⟨b1,b2⟩:=hb;by_cases hc:a+b>4294967295
 . go_enter Tryz.func116,Tryz.ntmps116
   go_wp2
   go_ret
   exact⟨0,rfl,⟨by omega,by omega⟩,.inr rfl⟩
 . go_enter Tryz.func116,Tryz.ntmps116
   go_wp2
   go_ret
   exact⟨a+b,rfl,⟨by omega,by omega⟩,.inl rfl⟩
structure Ii(w:World)(base:Nat)(vb vo vi vl:Value)(F:List (MB×Value))(ys:List (ML×Value×Value))(r:F7):Prop where
 brow:w.ownsRow base 32 3 vb F.length (F.flatMap Cg)
 lrow:w.ownsRow base 35 3 vl ys.length (ys.flatMap Bw)
 fam:CJ w base (Dm F++(vo,r.order)::(vi,r.idom)::DK ys)
 eb:F.map Prod.fst=r.blocks
 el:ys.map Prod.fst=r.loops
theorem Ii.none(w:World)(base:Nat)(c a:Int):Ii w base sN sN sN sN [] [] (Dl c a):=by
 refine⟨ba _ _ _ _,ba _ _ _ _,⟨fun x hx=> ?_,?_⟩,rfl,rfl⟩
 . simp[Dm,DK,Dl]at hx
   rcases hx with rfl|rfl<;>exact ba _ _ _ _
 . refine List.Pairwise.cons ?_ (List.Pairwise.cons ?_ List.Pairwise.nil)
   . intro y _ g hg
     cases hg
   . intro y _ g hg
     cases hg
theorem CJ.ranges{w:World}{B M:Nat}{A C:List (Value×List Int)}(hA:CJ w B A)(hC:CJ w M C)(hBM:B<=M)(hlt:∀x∈A,∀g,x.1.ownBlock=some g->g<M):CJ w B (A++C):=by
 refine⟨fun x hx=> ?_,cG.2 ⟨hA.sep,hC.sep,fun a ha c hc g hg e=> ?_⟩⟩
 . rcases aS.1 hx with q|q
   . exact hA.own x q
   . exact AP (hC.own x q) hBM
 . have h1:=hlt a ha g hg
   have h2:=((hC.own c hc).lt g e).1;omega
theorem NJ{w:World}{B M:Nat}{ys:List (ML×Value×Value)}(hA:CJ w B (ys.map fun y=>(y.2.1,y.1.back)))(hC:CJ w M (ys.map fun y=>(y.2.2,y.1.blocks)))(hBM:B<=M)(hlt:∀y∈ys,∀g,y.2.1.ownBlock=some g->g<M):CJ w B (DK ys):=by
 have hx:∀y∈ys,∀z∈ys,Gx (y.2.1,y.1.back) (z.2.2,z.1.blocks):=fun y hy z hz g hg e=>by
  have h1:=hlt y hy g hg;have h2:=((hC.own (z.2.2,z.1.blocks) (bJ.2 ⟨z,hz,rfl⟩)).lt g e).1;omega
 refine⟨fun x hx'=> ?_,?_⟩
 . obtain⟨y,hy,q⟩:=cE.1 hx'
   simp only[aX,bB,cW]at q;rcases q with rfl|rfl
   . exact hA.own _ (bJ.2 ⟨y,hy,rfl⟩)
   . exact AP (hC.own _ (bJ.2 ⟨y,hy,rfl⟩)) hBM
 . have hs1:=dX.1 hA.sep
   have hs2:=dX.1 hC.sep;clear hA hC hlt;unfold DK;induction ys with
   |nil=>exact List.Pairwise.nil
   | cons y r ih=>
     obtain⟨a1,a2⟩:=bi.1 hs1;obtain⟨b1,b2⟩:=bi.1 hs2;have ih':=ih (fun y' hy' z hz=>hx y' (bR _ hy') z (bR _ hz)) a2 b2;rw[aW];refine cG.2 ⟨?_,ih',fun p hp q hq=> ?_⟩
     . refine List.Pairwise.cons (fun z hz=> ?_) (by simp)
       simp only[aX,bB,cW]at hz;subst hz;exact hx y (bc ..) y (bc ..)
     . obtain⟨z,hz,hq'⟩:=cE.1 hq
       simp only[aX,bB,cW]at hp hq';rcases hp with rfl|rfl
       . rcases hq' with rfl|rfl
         . exact a1 z hz
         . exact hx y (bc ..) z (bR _ hz)
       . rcases hq' with rfl|rfl
         . exact(hx z (bR _ hz) y (bc ..)).symm
         . exact b1 z hz
theorem Ez{E:Nat->List Nat}{S O:List Nat}(h:Vs E [] [] [0] S O)(x:Nat):x∈S↔x∈O:=by
 obtain⟨N,t⟩:=h.told;have:O=N:=by simpa using t.o
 subst this;rw[t.seen x];simp
theorem Hn.ints{w:World}{base:Nat}{V:Value}{F:List (MB×Value)}{bs:List MB}{gb ob cb n:Nat}(h:Hn w base V F)(hF:F.map Prod.fst=bs)(hV:V=sO gb ob n cb)(hn:n=bs.length):∀b,b<n->∃f l:Int,w.cell? ⟨gb,ob+b*3,none⟩=some (iZ f)/\w.cell? ⟨gb,ob+b*3+1,none⟩=some (iZ l):=fun b hb=>by
 have hl:F.length=n:=by rw[hn,<-hF,aj]
 have hr:=Rd.of_own h.row;rcases hr.2 with⟨e0,_⟩|⟨g,o,c,e1,hc⟩
 . omega
 . rw[hV]at e1
   simp only[aI,aJ,bf,cg]at e1;obtain⟨⟨rfl,rfl⟩,_,rfl⟩:=e1;obtain⟨x,hx⟩:∃x,F[b]?=some x:=⟨_,aA (by omega)⟩;have i0:=Rd.elem AQ hc b _ hx 0 _ rfl;have i1:=Rd.elem AQ hc b _ hx 1 _ rfl;rw[aw]at i0;exact⟨_,_,i0,i1⟩
theorem LF{E:Nat->List Nat}{n:Nat}{S O:List Nat}(hn:0<n)(hE:∀b,b<n->∀x∈E b,x<n)(h:Vs E [] [] [0] S O):(∀x∈O,x<n)/\O.Nodup/\O.length<=n/\∀x∈O,CX E (fun _=>True) 0 x:=by
 obtain⟨N,t⟩:=h.told;have:O=N:=by simpa using t.o
 subst this
 have hr:∀x∈O,CX E (fun _=>True) 0 x:=fun x hx=>by
  obtain⟨q,q1,q2⟩:=t.from_ x hx;have:q=0:=by simpa using q1
  subst this;exact q2.mono fun _ _=>trivial
 have hl:∀x∈O,x<n:=fun x hx=>(hr x hx).lt hE hn
 refine⟨hl,t.nodup,?_,hr⟩;have:=Ey O n hl t.nodup;omega
theorem PY{w:World}{base k n c g:Nat}{e:TypeId}{xs:List Value}(h:w.ownsRow base e k (sG g n c) n xs):n<=c:=by
 rcases h.2 with⟨h',_⟩|⟨g',cap',cur,h',_,_,h3,_⟩
 . cases h'
 . cases h'
   exact h3
structure GD(w1 u:World)(n G gN cN gF gO cO gP gi:Nat)(E:Nat->List Nat)(O:List Nat)(I:Nat->Int):Prop where
 blk:An u G #[sG gN n cN,sG gF n n,sG gO n cO,sG gP n n,sG gi n n] 51
 nx:Er u gN 0 n E
 fr:Er u gF 0 n (Bc E n)
 ord:EM u w1.heap.size (sG gO n cO) O.reverse
 gi_:GI u G n gP n gi n (DE O) I
 idom:u.ownsRow w1.heap.size 2 1 (sG gi n n) n (zv I n)
 bel:Below w1.heap.size w1 u
 ne:gO≠gi
theorem GD.keep{w1 u u':World}{n G gN cN gF gO cO gP gi:Nat}{E:Nat->List Nat}{O:List Nat}{I:Nat->Int}(h:GD w1 u n G gN cN gF gO cO gP gi E O I)(hb:Below u.heap.size u u'):GD w1 u' n G gN cN gF gO cO gP gi E O I:=⟨h.blk.keep hb,h.nx.keep hb,h.fr.keep hb,h.ord.keep hb,h.gi_.keep hb,Aj h.idom hb lR,Af h.bel lR hb,h.ne⟩
theorem GD.of{w1 u3 u4 u5:World}{n G gN cN gF gO cO gP gi:Nat}{E:Nat->List Nat}{S O:List Nat}{I:Nat->Int}(h:GM w1 u3 n G gN cN gF gO cO gP E S O)(hO:O.length=n)(hOm:∀x,x∈O↔x<n)(hb:Below u3.heap.size u3 u4)(hd:DW u4 u5 G n #[sG gN n cN,sG gF n n,sG gO n cO,sG gP n n] gi I):GD w1 u5 n G gN cN gF gO cO gP gi E O I:=by
 obtain⟨x0,x1,x2,x3,e,kk⟩:=hd.blk;simp only[Array.mk.injEq,fB,cg]at e;obtain⟨rfl,rfl,rfl,rfl⟩:=e
 have hn0:∀(g b:Nat),g≠G->g<u3.heap.size->u4.cell? ⟨g,b,none⟩=u3.cell? ⟨g,b,none⟩:=fun g b _ hl=>by
  unfold World.cell?;rw[hb.block g hl]
 have fx:∀k,k<u4.heap.size->k∉[G]->u5.heap[k]?=u4.heap[k]?:=fun k hk hne=>hd.fx k hk (by simpa using hne)
 have hord:EM u4 w1.heap.size (sG gO n cO) O.reverse:=by
  have:=h.ord.keep hb;rw[hO]at this;exact this
 have hgl:∀(g:Nat) {E':Nat->List Nat},Er u3 g 0 n E'->n≠0->g<u3.heap.size:=fun g E' q hne=>by
  obtain⟨a,c,h1,_⟩:=q 0 (by omega);exact aF h1
 refine⟨kk,(h.nx.keep hb).fxs fx (by simpa using h.ne.1) (fun b a m c hb' hc hm=> ?_),(h.fr.keep hb).fxs fx (by simpa using h.ne.2.1) (fun b a m c hb' hc hm=> ?_),hord.fx hd.fx (fun g hg=>by simp only[Value.ownBlock,aJ]at hg;rw[<-hg];exact h.ne.2.2.1),⟨kk.cell 3,kk.cell 4,fun x hx=>hd.cell (Ac hb (h.pl x ((hOm x).2 hx))) h.ne.2.2.2,fun x hx=> ?_⟩,AP hd.row (aY h.bel.size hb.size),?_,?_⟩
 . rw[hn0 gN b h.ne.1 (hgl gN h.nx (by omega))]at hc
   simpa using h.nn b a m c hb' hc hm
 . rw[hn0 gF b h.ne.2.1 (hgl gF h.fr (by omega))]at hc
   simpa using h.nf b a m c hb' hc
 . have:=hd.row.cellAt x (by omega)
   rw[LK _ _ _ hx]at this;exact this
 . exact(Af h.bel lR hb).trans (hd.bel.mono h.ge)
 . have h1:=(At hd.row).1
   have:=(hord.lt gO rfl).2;omega
theorem Nz{E:Nat->List Nat}{n:Nat}{pl:Nat->Nat}{I:Nat->Int}(h:Kl E n pl I)(b:Nat)(hb:b<n):(b=0/\I b=-1)\/b≠0/\∃c:Nat,c<n/\I b=(c:Int)/\EQ E b c:=by
 by_cases e:b=0
 . exact .inl ⟨e,by rw[e];exact h.z⟩
 . obtain⟨c,c1,c2,c3,_⟩:=h.dinv.tree.up b hb e ((h.all b hb).resolve_left e)
   refine .inr ⟨e,c,c2,c1,fun q=>by rw[q]at c3;omega,(h.dom c b hb).1 (.up e c1 .here),fun d hd hdom=> ?_⟩;obtain⟨_,c',e1,e2⟩:=((h.dom d b hb).2 hdom).cases' hd;obtain rfl:c'=c:=by omega
   exact(h.dom d c' c2).1 e2
theorem CJ.sub{w:World}{B:Nat}{A C:List (Value×List Int)}(h:CJ w B C)(hs:List.Sublist A C):CJ w B A:=⟨fun x hx=>h.own x (hs.subset hx),h.sep.sublist hs⟩
theorem CJ.low{w:World}{B b:Nat}{A:List (Value×List Int)}(h:CJ w B A)(hb:b<=B):CJ w b A:=⟨fun x hx=>AP (h.own x hx) hb,h.sep⟩
theorem CJ.six{w:World}{B b:Nat}{A:List (Value×List Int)}(h:CJ w B A)(hb:b<B)(x0 x1 x2 x3 x4 x5:Value):CJ (six w b x0 x1 x2 x3 x4 x5) B A:=⟨fun x hx=>Ig (h.own x hx) (MA (h.own x hx) hb) _ _ _ _ _ _,h.sep⟩
theorem NN{w u1 u2 u5 u6 u7:World}{n G gN cN gF gO cO gP gi gB cL:Nat}{E:Nat->List Nat}{O:List Nat}{I:Nat->Int}{vb:Value}{aL:Option Addr}{F:List (MB×Value)}{FS:List (Value×List Nat)}{ys:List (ML×Value×Value)}{bs:List MB}{ls:List ML}(hb:Hn u1 (w.heap.size+1) vb F)(hF:F.map Prod.fst=bs)(hw1:w.heap.size<u1.heap.size)(h12:u1.heap.size<=u2.heap.size)(hb6:Below u1.heap.size u1 u6)(hd5:GD u2 u5 n G gN cN gF gO cO gP gi E O I)(hd6:GD u2 u6 n G gN cN gF gO cO gP gi E O I)(hO:O.length=n)(hb56:Below u5.heap.size u5 u6)(hbk:BK u5 u6 n gB FS)(hb7:Below u6.heap.size u6 u7)(hlp:LP u6.drew u7 (.slice aL ys.length cL) ys)(hys:ys.map Prod.fst=ls)(hsub:List.Sublist (ys.map fun y=>(y.2.1,y.1.back)) (FS.map fun x=>(x.1,ints x.2)))(v0 v1 v2 v3 v4 v5:Value):Ii (six u7 w.heap.size v0 v1 v2 v3 v4 v5) w.heap.size vb (sG gO n cO) (sG gi n n) (.slice aL ys.length cL) F ys ⟨0,0,bs,ints O.reverse,(List.range n).map I,ls⟩:=by
 have hb17:Below u1.heap.size u1 u7:=Af hb6 lR hb7;have s25:u2.heap.size<=u5.heap.size:=hd5.bel.size;have s56:=hb56.size;have hd7:=hd6.keep hb7;have A0:CJ u7 (w.heap.size+1) (Dm F):=hb.fam.keepB hb17
 have hO7:u7.ownsRow u2.heap.size 2 1 (sG gO n cO) (ints O.reverse).length ((ints O.reverse).flatMap Ab):=by
  have:=hd7.ord;unfold EM at this;rw[CS,<-Az]at this;exact this
 have hI7:u7.ownsRow u2.heap.size 2 1 (sG gi n n) ((List.range n).map I).length (((List.range n).map I).flatMap Ab):=by
  have:=hd7.idom;rw[P8]at this;rw[aj,cM];exact this
 have A1:CJ u7 u2.heap.size [((sG gO n cO:Value),ints O.reverse),(sG gi n n,(List.range n).map I)]:=by
  refine⟨fun x hx=> ?_,?_⟩
  . simp only[aX,bB,cW]at hx
    rcases hx with rfl|rfl
    . exact hO7
    . exact hI7
  . refine List.Pairwise.cons (fun y hy=> ?_) (by simp)
    simp only[aX,bB,cW]at hy;subst hy;intro g hg e;simp only[Value.ownBlock,aJ]at hg e;exact hd6.ne (by rw[hg,e])
 have A2:CJ u7 u5.heap.size (DK ys):=by
  refine NJ ((hbk.fam.keepB hb7).sub hsub) hlp.fam hb56.size fun y hy g hg=> ?_
  have hm:=hsub.subset (bJ.2 ⟨y,hy,rfl⟩);exact((hbk.fam.own _ hm).lt g hg).2
 have A12:CJ u7 u2.heap.size ([((sG gO n cO:Value),ints O.reverse),(sG gi n n,(List.range n).map I)]++DK ys):=by
  refine A1.ranges A2 s25 fun x hx g hg=> ?_
  simp only[aX,bB,cW]at hx;rcases hx with rfl|rfl
  . exact(hd5.ord.lt g hg).2
  . exact(hd5.idom.lt g hg).2
 have A012:=A0.ranges A12 (by omega) (fun x hx g hg=>by
  have:=((hb.fam.own x hx).lt g hg).2;omega)
 have hbr:=Aj hb.row hb17 lR;have hlr:u7.ownsRow u6.heap.size 35 3 (.slice aL ys.length cL) ys.length (ys.flatMap Bw):=hlp.lps;refine⟨AP (Ig hbr (MA hbr (eS _)) _ _ _ _ _ _) (Nat.le_succ _),AP (Ig hlr (MA hlr (by omega)) _ _ _ _ _ _) (by omega),?_,hF,hys⟩;exact(A012.six (eS _) v0 v1 v2 v3 v4 v5).low (Nat.le_succ _)
def LS(y:ML×Value×Value):Prop:=(∃a c,y.2.1=.slice a y.1.back.length c)/\∃a c,y.2.2=.slice a y.1.blocks.length c
theorem Lj{ys:List (ML×Value×Value)}(h:∀y∈ys,LS y):∀u∈ys.flatMap Bw,u.oneCell'=true:=by
 intro u hu;obtain⟨y,hy,hu⟩:=cE.1 hu;obtain⟨⟨a,c,e1⟩,a',c',e2⟩:=h y hy;simp only[Bw,aX,bB,cW]at hu;rcases hu with rfl|rfl|rfl
 . rfl
 . rw[e1];rfl
 . rw[e2];rfl
theorem Nw(ty:TypeId)(u:World)(B':Nat)(V:Value)(ys:List (ML×Value×Value))(h:Rd u 3 V ys.length (ys.flatMap Bw))(hS:∀y∈ys,LS y)(hB:B'<=u.heap.size)(hl:ys.length<=1048576):∃v' w',(Builtin.append_ #[27,27] ty #[.slice (some ⟨u.heap.size,0,none⟩) 0 0,V]).run Tryz.prog (u.alloc (.cells #[] 35))=.ok v' w'/\w'.ownsRow B' 35 3 v' ys.length (ys.flatMap Bw)/\Below u.heap.size u w':=by
 obtain⟨i0,hi,hz0,hz1,hz2⟩:=bH Mc;have ho:(u.alloc (.cells #[] 35)).ownsRow u.heap.size 35 3 (.slice (some ⟨u.heap.size,0,none⟩) 0 0) 0 []:=⟨rfl,.inr ⟨u.heap.size,0,#[],rfl,Nat.le_refl _,dT _ _,Nat.le_refl _,dP _,rfl,by simp⟩⟩;obtain⟨a,c,rfl⟩:=Rd.is_slice h;cases a with
 | none=>
   have hz:ys.length=0:=by
    rcases h.2 with⟨e0,_⟩|⟨g,o,c,e1,_⟩
    . exact e0
    . cases e1
   have h0:ys=[]:=cX hz;subst h0;exact⟨_,_,DV (P:=Tryz.prog) u.heap.size 27 ty 35 i0 3 Tryz.underlying27 hi _ _ _ ho c,AP ho hB,Aa _ _⟩
 | some ad=>
   have hN:∀j v,(ys.flatMap Bw)[j]?=some v->(u.alloc (.cells #[] 35)).cell? (ad.add j)=some v:=fun j v hj=>by
    rcases h.2 with⟨e0,_⟩|⟨g,o,c,e1,hc⟩
    . have:ys=[]:=cX e0
      subst this;simp at hj
    . simp only[aI,aJ]at e1
      obtain⟨rfl,_⟩:=e1;have:=hc j v hj;rw[Di,(Aa u (.cells #[] 35)).cell (aF this)];exact this
   obtain⟨v',w',hr,h2,h3,h4⟩:=run_append_own (P:=Tryz.prog) (u.alloc (.cells #[] 35)) u.heap.size 27 ty 35 i0 (.agg #[.int .i64 0,.slice none 0 0,.slice none 0 0]) 3 56 Tryz.underlying27 hi hz0 hz1 hz2 rfl (by decide) _ 0 [] ho ad ys.length c (ys.flatMap Bw) (by rw[Ax Bw 3 Bo]) hN (Lj hS) (by unfold maxLen;omega) (by omega) (Aa _ _).size;have h5:w'.ownsRow u.heap.size 35 3 v' ys.length (ys.flatMap Bw):=by simpa using h2
   exact⟨_,w',hr,AP h5 hB,(Aa u (.cells #[] 35)).grown h3 (Aa _ _).size (fun j hj=>(ho.lt j hj).1)⟩
theorem Kj{ops:Array Oper}{rest:List Oper}{o:Oper}{a:Act}{Q:Exit->Act->World->Prop}(hgd:o.guard=none)(s x:Operand)(ho:o.op=.call {callee:=.builtin .append,args:=#[s,x],argTypes:=#[27,27]})(u:World)(B':Nat)(V:Value)(ys:List (ML×Value×Value))(hs:a.eval s=.slice (some ⟨u.heap.size,0,none⟩) 0 0)(hx:a.eval x=V)(h:Rd u 3 V ys.length (ys.flatMap Bw))(hS:∀y∈ys,LS y)(hB:B'<=u.heap.size)(hl:ys.length<=1048576)(hK:∀v' w',w'.ownsRow B' 35 3 v' ys.length (ys.flatMap Bw)->Below u.heap.size u w'->wpList Tryz.prog ops Q rest (a.put o.dst v') w'):wpList Tryz.prog ops Q (o::rest) a (u.alloc (.cells #[] 35)):=
 wpList_plain hgd fun _ hK'=>by
  obtain⟨v',w',hr,h1,h2⟩:=Nw o.type u B' V ys h hS hB hl;exact Lib.wp_append_run _ s x 27 27 ho _ _ hs hx v' w' hr (hK' _ _ (hK v' w' h1 h2))
structure FZ(w u:World)(V:Value)(n:Nat)(ys zs:List (ML×Value×Value)):Prop where
 own:u.ownsRow w.heap.size 35 3 V n (zs.flatMap Bw)
 len:zs.length=n
 sub:∀z∈zs,z∈ys
 bel:Below w.heap.size w u
theorem FZ.at_{w u:World}{g n c:Nat}{ys zs:List (ML×Value×Value)}(h:FZ w u (.slice (some ⟨g,0,none⟩) n c) n ys zs)(hS:∀y∈ys,LS y){k:Nat}(hk:k<n):∃z a b d e,zs[k]?=some z/\z∈ys/\z.2.1=.slice a z.1.back.length b/\z.2.2=.slice d z.1.blocks.length e/\u.cell? ⟨g,k*3,none⟩=some (.int .i64 z.1.head)/\u.cell? ⟨g,k*3+1,none⟩=some (.slice a z.1.back.length b)/\u.cell? ⟨g,k*3+2,none⟩=some (.slice d z.1.blocks.length e):=by
 have hk':k<zs.length:=by rw[h.len];exact hk
 have hz:zs[k]?=some zs[k]:=aA hk';have hm:=h.sub _ (bq hk');obtain⟨⟨a,b,e1⟩,d,e,e2⟩:=hS _ hm;rcases(Rd.of_own h.own).2 with⟨e0,_⟩|⟨g',o',c',e0,hc⟩
 . omega
 . simp only[aI,aJ,bf,bU,cg]at e0
   obtain⟨⟨rfl,rfl⟩,rfl⟩:=e0;have q0:=Rd.elem Bo hc k _ hz 0 _ rfl;have q1:=Rd.elem Bo hc k _ hz 1 _ rfl;have q2:=Rd.elem Bo hc k _ hz 2 _ rfl;rw[e1]at q1;rw[e2]at q2;simp only[bG,aw]at q0 q1 q2;exact⟨_,a,b,d,e,hz,hm,e1,e2,q0,q1,q2⟩
theorem FZ.keep{w u u':World}{V:Value}{n:Nat}{ys zs:List (ML×Value×Value)}(h:FZ w u V n ys zs)(hb:Below u.heap.size u u'):FZ w u' V n ys zs:=⟨Aj h.own hb lR,h.len,h.sub,Af h.bel lR hb⟩
theorem PU{zs:List (ML×Value×Value)}{k:Nat}{z:ML×Value×Value}:(((zs.flatMap Bw).set (k*3) (.int .i64 z.1.head)).set (k*3+1) z.2.1).set (k*3+2) z.2.2=(zs.set k z).flatMap Bw:=by
 induction zs generalizing k with
 |nil=>rfl
 | cons y r ih=>
   cases k with
   |zero=>rfl
   | succ k=>
     rw[bI,aW,aW,<-ih,show(k+1)*3=k*3+1+1+1 by omega];rfl
theorem FZ.put3{w U:World}{g n c k:Nat}{ys zs:List (ML×Value×Value)}(h:FZ w U (.slice (some ⟨g,0,none⟩) n c) n ys zs){z:ML×Value×Value}(hz:z∈ys){v1 v2:Value}(h1:z.2.1=v1)(h2:z.2.2=v2):FZ w (((U.setCell ⟨g,k*3,none⟩ (.int .i64 z.1.head)).setCell ⟨g,k*3+1,none⟩ v1).setCell ⟨g,k*3+2,none⟩ v2) (.slice (some ⟨g,0,none⟩) n c) n ys (zs.set k z):=by
 subst h1 h2;have hg:=(At h.own).1;have s1:=(dA h.own (k*3) (.int .i64 z.1.head)).1;have s2:=(dA s1 (k*3+1) z.2.1).1;have s3:=(dA s2 (k*3+2) z.2.2).1;rw[PU]at s3;refine⟨s3,by rw[dD];exact h.len,fun y hy=> ?_,((h.bel.setCell hg _).setCell hg _).setCell hg _⟩;rcases dK hy with e|e
 . exact h.sub y e
 . subst e
   exact hz
theorem FZ.cells2{w U:World}{g n c q r:Nat}{ys zs:List (ML×Value×Value)}(h:FZ w U (.slice (some ⟨g,0,none⟩) n c) n ys zs)(hS:∀y∈ys,LS y)(hq:q<n)(hr:r<n){z1 z2:ML×Value×Value}{a1 a2 d1 d2:Option Addr}{b1 b2 e1 e2:Nat}(hz1:zs[q]?=some z1)(hz2:zs[r]?=some z2)(f1:z1.2.1=.slice a1 z1.1.back.length b1)(f2:z1.2.2=.slice d1 z1.1.blocks.length e1)(f3:z2.2.1=.slice a2 z2.1.back.length b2)(f4:z2.2.2=.slice d2 z2.1.blocks.length e2):U.cell? ⟨g,q*3,none⟩=some (.int .i64 z1.1.head)/\U.cell? ⟨g,q*3+1,none⟩=some (.slice a1 z1.1.back.length b1)/\U.cell? ⟨g,q*3+2,none⟩=some (.slice d1 z1.1.blocks.length e1)/\U.cell? ⟨g,r*3,none⟩=some (.int .i64 z2.1.head)/\U.cell? ⟨g,r*3+1,none⟩=some (.slice a2 z2.1.back.length b2)/\U.cell? ⟨g,r*3+2,none⟩=some (.slice d2 z2.1.blocks.length e2):=by
 obtain⟨y1,_,_,_,_,k1,_,k2,k3,k4,k5,k6⟩:=h.at_ hS hq;obtain⟨y2,_,_,_,_,l1,_,l2,l3,l4,l5,l6⟩:=h.at_ hS hr;rw[hz1]at k1;rw[hz2]at l1;cases k1
 cases l1
 rw[f1]at k2;rw[f2]at k3;rw[f3]at l2;rw[f4]at l3;cases k2
 cases k3
 cases l2
 cases l3
 exact⟨k4,k5,k6,l4,l5,l6⟩
theorem K9(s:Value)(n:Nat)(ys:List (ML×Value×Value))(w:World)(hN:ys.length=n)(hn:n<=1048576)(h:Rd w 3 s n (ys.flatMap Bw))(hS:∀y∈ys,LS y):
 Calls Tryz.prog 117 #[s] w fun e w'=>∃V zs,e=.returned V/\FZ w w' V n ys zs:=by
 obtain⟨a1,c1,e1⟩:=Rd.is_slice h;subst e1;have H:=Ah (aH h hS);have HN:Hid (ys.length=n):=hN;clear h hS hN;go_enter Tryz.func117,Tryz.ntmps117;go_wp2_with (at_builtin;refine Kj rfl (.tmp 7) (.tmp 8) rfl w w.heap.size (.slice a1 n c1) ys rfl rfl (by rw[HN.o];exact H.o.1) H.o.2 lR (by rw[HN.o];exact hn) ?_;intro V w3 hown hb3);have E0:Hid (FZ w w3 V n ys ys):=⟨by rw[<-HN.o];exact hown,HN.o,fun z hz=>hz,hb3⟩;clear hown hb3;rcases Ba E0.o.own with⟨rfl,hz⟩|⟨g,c,rfl⟩
 . subst hz
   go_wp2_with fail
   go_loopw [4,5,6] (fun i _ _ wr=>i=.int .i64 0/\wr=w3) (fun _ _ _ _=>0)
   case atStart=>exact⟨rfl,rfl⟩
   case round=>
    obtain⟨rfl,rfl⟩:=hrel;go_wp2_with fail
    go_ret
    exact⟨.slice none 0 0,_,rfl,E0.o⟩
 . go_wp2_with fail
   go_loopw [4,5,6] (fun i _ _ wr=>∃(m:Nat) (zs:List (ML×Value×Value)),m<=n/\i=.int .i64 m/\Hid (FZ w wr (.slice (some ⟨g,0,none⟩) n c) n ys zs)) (fun i _ _ _=>n-(intOf i).toNat)
   case atStart=>exact⟨0,_,by omega,rfl,E0⟩
   case round=>
    clear E0;obtain⟨m,zs,hm,rfl,E0⟩:=hrel;by_cases hlt:m<n
    case neg=>
     go_wp2_with fail
     go_ret
     exact⟨.slice (some ⟨g,0,none⟩) n c,_,rfl,E0.o⟩
    have hltI:(m:Int)<(n:Int):=by omega
    go_wp2_with fail
    go_loopw [5,6] (fun k _ wr=>∃(q:Nat) (zs:List (ML×Value×Value)),q<n/\k=.int .i64 q/\Hid (FZ w wr (.slice (some ⟨g,0,none⟩) n c) n ys zs)) (fun k _ _=>(intOf k).toNat)
    case atStart=>exact⟨n-1,zs,by omega,by go_num,E0⟩
    case round=>
     clear E0;obtain⟨q,zs,hq,rfl,E0⟩:=hrel;by_cases hgt:m<q
     case neg=>
      go_wp2_with fail
      go_roundw
      case rel=>exact⟨m+1,zs,by omega,by go_num,E0⟩
      case measure=>simp[intOf];omega
     have hgtI:(q:Int)>(m:Int):=by omega
     have hqI:(q:Int)<(n:Int):=by omega
     obtain⟨r,hr⟩:∃r,q=r+1:=⟨q-1,by omega⟩;have HQ:Hid (q=r+1):=hr;obtain⟨z1,a1,b1,d1,e1,hz1,hm1,f1,f2,p0,p1,p2⟩:=E0.o.at_ H.o.2 hq;obtain⟨z2,a2,b2,d2,e2,hz2,hm2,f3,f4,q0,q1,q2⟩:=E0.o.at_ H.o.2 (show r<n by have:=HQ.o;omega);have g6:(q:Int)-1=(r:Int):=by omega
     have g3:(0:Int)<=(r:Int):=by omega
     have g4:(r:Int)<(n:Int):=by omega
     clear hr;have g5:IntKind.i64.wrap (r:Int)=(r:Int):=bp _ ⟨by omega,by omega⟩;go_upto_region 8 with fail
     have ED:Hid (FZ w wr.drew (.slice (some ⟨g,0,none⟩) n c) n ys zs):=⟨Aj E0.o.own (Ad _) lR,E0.o.len,E0.o.sub,Af E0.o.bel lR (Ad _)⟩;refine wp_region_held_drew (S:=fun W=>W.cell? ⟨g,q*3+2,none⟩=some (.slice d1 z1.1.blocks.length e1)/\W.cell? ⟨g,r*3+2,none⟩=some (.slice d2 z2.1.blocks.length e2)) (by kernel_rfl) (by exact⟨p2,q2⟩) (fun hHeld=> ?_)
     clear E0 p0 p1 p2 q0 q1 q2;generalize wr.drew=UD at ED hHeld⊢;refine Ak 0 ?_;refine Ak 1 ?_;refine Ak 2 ?_;refine Ak 3 ?_;refine Ak 4 ?_;refine Ak 5 ?_;refine Ak 6 ?_;refine Ak 7 ?_;refine Ak 8 ?_;refine Ak 9 ?_;refine Ak 10 ?_;refine Ak 11 ?_;refine Ak 12 ?_;refine Ak 13 ?_;refine wpAnyH_done (by kernel_rfl) ?_ _;clear hHeld;go_simp;by_cases hls:z1.1.blocks.length<z2.1.blocks.length
     case neg=>
      rw[eo hls];clear hls f1 f2 f3 f4 hz1 hz2 hm1 hm2;go_wp2_with fail
      go_roundw
      case rel=>exact⟨r,zs,by have:=HQ.o;omega,by go_num,ED⟩
      case measure=>simp[intOf];have:=HQ.o;omega
     rw[decide_eq_true hls];have PC:Hid _:=ED.o.cells2 H.o.2 hq (show r<n by have:=HQ.o;omega) hz1 hz2 f1 f2 f3 f4;obtain⟨p0,p1,p2,q0,q1,q2⟩:=PC.o;go_upto_region 10 with fail
     have E6:Hid (FZ w (UD.alloc (.cells #[.int .i64 z1.1.head,.slice a1 z1.1.back.length b1,.slice d1 z1.1.blocks.length e1] 35)) (.slice (some ⟨g,0,none⟩) n c) n ys zs/\An (UD.alloc (.cells #[.int .i64 z1.1.head,.slice a1 z1.1.back.length b1,.slice d1 z1.1.blocks.length e1] 35)) UD.heap.size #[.int .i64 z1.1.head,.slice a1 z1.1.back.length b1,.slice d1 z1.1.blocks.length e1] 35/\g≠UD.heap.size):=⟨ED.o.keep (Aa _ _),An.new _ _ _,fun e=>by obtain⟨_,_,h1⟩:=At ED.o.own;have:=(an.1 h1).1;omega⟩
     clear p0 p1 p2 q0 q1 q2 PC ED;generalize UD.heap.size=X at E6⊢;refine Al (fun U=>Hid (FZ w U (.slice (some ⟨g,0,none⟩) n c) n ys zs/\An U X #[.int .i64 z1.1.head,.slice a1 z1.1.back.length b1,.slice d1 z1.1.blocks.length e1] 35/\g≠X)) E6 ?_
     clear E6;rintro U E6;have PC:Hid _:=E6.o.1.cells2 H.o.2 hq (show r<n by have:=HQ.o;omega) hz1 hz2 f1 f2 f3 f4;obtain⟨p0,p1,p2,q0,q1,q2⟩:=PC.o;have y0:=E6.o.1.own.frozenAt (q*3);have y1:=E6.o.1.own.frozenAt (q*3+1);have y2:=E6.o.1.own.frozenAt (q*3+2);go_upto_region 11 with fail
     have E7:Hid (FZ w (((U.setCell ⟨g,q*3,none⟩ (.int .i64 z2.1.head)).setCell ⟨g,q*3+1,none⟩ (.slice a2 z2.1.back.length b2)).setCell ⟨g,q*3+2,none⟩ (.slice d2 z2.1.blocks.length e2)) (.slice (some ⟨g,0,none⟩) n c) n ys (zs.set q z2)/\An (((U.setCell ⟨g,q*3,none⟩ (.int .i64 z2.1.head)).setCell ⟨g,q*3+1,none⟩ (.slice a2 z2.1.back.length b2)).setCell ⟨g,q*3+2,none⟩ (.slice d2 z2.1.blocks.length e2)) X #[.int .i64 z1.1.head,.slice a1 z1.1.back.length b1,.slice d1 z1.1.blocks.length e1] 35):=⟨E6.o.1.put3 hm2 f3 f4,((E6.o.2.1.other (a:=⟨g,q*3,none⟩) (fun e=>E6.o.2.2 e.symm) _).other (a:=⟨g,q*3+1,none⟩) (fun e=>E6.o.2.2 e.symm) _).other (a:=⟨g,q*3+2,none⟩) (fun e=>E6.o.2.2 e.symm) _⟩
     clear p0 p1 p2 q0 q1 q2 PC E6 y0 y1 y2;refine Al (fun U=>Hid (FZ w U (.slice (some ⟨g,0,none⟩) n c) n ys (zs.set q z2)/\An U X #[.int .i64 z1.1.head,.slice a1 z1.1.back.length b1,.slice d1 z1.1.blocks.length e1] 35)) E7 ?_
     clear E7;rintro U' E7;have x0:U'.cell? ⟨X,0,none⟩=some (.int .i64 z1.1.head):=by rw[E7.o.2.cell];rfl
     have x1:U'.cell? ⟨X,1,none⟩=some (.slice a1 z1.1.back.length b1):=by rw[E7.o.2.cell];rfl
     have x2:U'.cell? ⟨X,2,none⟩=some (.slice d1 z1.1.blocks.length e1):=by rw[E7.o.2.cell];rfl
     obtain⟨zz,_,_,_,_,_,_,_,_,k4,k5,k6⟩:=E7.o.1.at_ H.o.2 (show r<n by have:=HQ.o;omega);have y0:=E7.o.1.own.frozenAt (r*3);have y1:=E7.o.1.own.frozenAt (r*3+1);have y2:=E7.o.1.own.frozenAt (r*3+2);have E8:Hid (FZ w (((U'.setCell ⟨g,r*3,none⟩ (.int .i64 z1.1.head)).setCell ⟨g,r*3+1,none⟩ (.slice a1 z1.1.back.length b1)).setCell ⟨g,r*3+2,none⟩ (.slice d1 z1.1.blocks.length e1)) (.slice (some ⟨g,0,none⟩) n c) n ys ((zs.set q z2).set r z1)):=E7.o.1.put3 hm1 f1 f2;clear E7;go_wp2_with fail;go_roundw
     case rel=>exact⟨r,_,by have:=HQ.o;omega,by go_num,E8⟩
     case measure=>simp[intOf];have:=HQ.o;omega
def Rs:Value->Nat
 |.slice _ n _=>n
 |_=>0
def GJ(zs:List Int)(n:Nat):List Value:=(List.range n).map fun(i:Nat)=>Value.bool (zs.contains (i:Int))
theorem DL(zs:List Int)(n:Nat):(GJ zs n).length=n:=by simp[GJ]
theorem Ew(zs:List Int)(n i:Nat)(h:i<n):(GJ zs n)[i]?=some (.bool (zs.contains (i:Int))):=by simp[GJ,h]
theorem Nx(n:Nat):List.replicate n (Value.bool false)=GJ [] n:=by
 apply cQ;intro j;by_cases hj:j<n
 . rw[Ew _ _ _ hj]
   simp[hj]
 . rw[ae (by simp;omega),ae (by rw[DL];omega)]
theorem Ny(zs:List Int)(n i:Nat)(h:i<n):(GJ zs n).set i (.bool true)=GJ (zs++[(i:Int)]) n:=by
 apply cQ;intro j;by_cases hj:j<n
 . rw[Ew _ _ _ hj]
   by_cases e:j=i
   . subst e
     rw[cY (by rw[DL];exact h)];simp
   . rw[cU (by omega),Ew _ _ _ hj]
     have:¬(j:Int)=(i:Int):=by omega
     simp[this]
 . rw[ae (by simp[DL];omega),ae (by rw[DL];omega)]
def Hz(zs:List Int)(code:List MI)(k:Nat):Bool:=(code.take k).all fun x=> !decide (x.op=28)||zs.contains x.a
theorem IQ(fs:List MF)(zs:List Int)(i:Nat)(f:MF)(hf:fs[i]?=some f):D8 fs zs i=(!zs.contains (i:Int)&&Hz zs f.code f.code.length):=by
 unfold D8 Hz Ia;rw[hf,bZ lR];congr 1
 simp only[List.all_map,List.all_filter,Function.comp_def]
theorem JC(zs:List Int)(code:List MI)(k:Nat)(x:MI)(hx:code[k]?=some x):Hz zs code (k+1)=(Hz zs code k&&(!decide (x.op=28)||zs.contains x.a)):=by
 obtain⟨hlt,rfl⟩:=aD.1 hx;unfold Hz;rw[a6 hlt,List.all_append];simp
theorem Mz(zs:List Int)(code:List MI)(k:Nat)(h:Hz zs code k=false):Hz zs code code.length=false:=by
 unfold Hz at*;rw[bZ lR];rw[List.all_eq_false]at*;obtain⟨x,hx,h2⟩:=h;exact⟨x,dQ hx,h2⟩
theorem Mw(n:Nat):(madeCells (Value.bool false).cells (n*1)).toList=List.replicate n (.bool false):=by
 rw[DC (fun b:Bool=>[Value.bool b]) [.bool false] [] n (.bool false) 1 rfl rfl (by omega)];simp[Cs,List.flatten_replicate_singleton]
structure CW(w u:World)(v:VP)(n bd:Nat)(V:Value)(zs:List Int):Prop where
 pb:DS u w.heap.size v.r v.k v.f v.t
 done:u.ownsRow w.heap.size 4 1 (.slice (some ⟨bd,0,none⟩) n n) n (GJ zs n)
 o:u.ownsRow (w.heap.size+1) 2 1 V zs.length (zs.flatMap Ab)
 bel:Below w.heap.size w u
theorem CW.keep{w u u':World}{v:VP}{n bd:Nat}{V:Value}{zs:List Int}(h:CW w u v n bd V zs)(hb:Below u.heap.size u u'):CW w u' v n bd V zs:=⟨h.pb.keep hb,Aj h.done hb lR,Aj h.o hb lR,Af h.bel lR hb⟩
end Go.Proofs.YtjpobijiblcgaaaGreat
