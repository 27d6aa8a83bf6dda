import Derived.Test.YtjpobijiblcgaaaGreatFw1
import Derived.Lib.SmallJoins
import Derived.Deep.Slices
import Derived.Test.YtjpobijiblcgaaaGreatFw0
import Derived.Deep.Cut
import Derived.Deep.CutRange
namespace Go.Proofs.YtjpobijiblcgaaaGreat
open Go.ChangeShapes Go.WideShapes Go.ChangeAt Go.RowKit
set_option linter.unusedVariables false
set_option maxHeartbeats 2000000
set_option maxRecDepth 100000
section
variable {H:Type} {enc:TypeId×Value->H} {P:Program} {w:World} {spare:Nat->Bool} {held:Bool}
theorem Di(b off:Nat)(i:Nat):(⟨b,off,none⟩:Addr).add i=⟨b,off+i,none⟩:=by unfold Addr.add;split<;>simp_all
end
instance:Inhabited MI:=⟨⟨0,0,0,0⟩⟩
instance:Inhabited MC:=⟨⟨0,0⟩⟩
instance:Inhabited MT:=⟨⟨0,0,0,0⟩⟩
instance:Inhabited MF:=⟨⟨[],0,[],[]⟩⟩
instance:Inhabited VF:=⟨⟨.bool true,.bool true,.bool true⟩⟩
def BN(z:Int):Prop:=(Lit.int .i64 z).wf=true
def Pl(z:Int):Prop:=(Lit.int .u32 z).wf=true
def MI.wf(x:MI):Prop:=BN x.op/\BN x.a/\BN x.b/\BN x.c
def MC.wf(x:MC):Prop:=BN x.type/\Pl x.word
def MT.wf(x:MT):Prop:=BN x.func/\BN x.head/\BN x.counter/\Pl x.init
structure MF.wf(f:MF):Prop where
 params:∀z∈f.params,BN z
 result:BN f.result
 locals:∀z∈f.locals,BN z
 code:∀x∈f.code,x.wf
structure MP.wf(p:MP):Prop where
 regions:∀r∈p.regions,∀z∈r,BN z
 consts:∀x∈p.consts,x.wf
 funcs:∀f∈p.funcs,f.wf
 certs:∀x∈p.certs,x.wf
section
variable {H:Type} {enc:TypeId×Value->H} {w:World} {spare:Nat->Bool} {held:Bool} {fuel:Nat} {cs:List Value} {x:DataW H×List MemPlace}
end
def AM(e:Ending)(q:Prop):Prop:=∃b,e=.returned (.bool b)/\(b=true↔q)
theorem AM.yes{q:Prop}(h:q):AM (.returned (.bool true)) q:=⟨_,rfl,by simp[h]⟩
theorem AM.no{q:Prop}(h:¬q):AM (.returned (.bool false)) q:=⟨_,rfl,by simp[h]⟩
theorem AM.of{q:Prop}{b:Bool}(h:b=true↔q):AM (.returned (.bool b)) q:=⟨_,rfl,h⟩
theorem Ba{w:World}{base:Nat}{e:TypeId}{s:Value}{k n:Nat}{xs:List Value}(h:w.ownsRow base e k s n xs):(s=.slice none 0 0/\n=0)\/∃g c,s=.slice (some ⟨g,0,none⟩) n c:=by
 rcases h.2 with h|⟨g,cap,cur,rfl,hb,_⟩
 . exact .inl h
 . exact .inr ⟨g,cap,rfl⟩
theorem AJ{w:World}{base:Nat}{e:TypeId}{s:Value}{k n:Nat}{xs:List Value}(h:w.ownsRow base e k s n xs):∃a c,s=.slice a n c:=by
 rcases Ba h with⟨rfl,rfl⟩|⟨g,c,rfl⟩<;>exact⟨_,_,rfl⟩
theorem Al{P:Program}{c:Code}{Q:Exit->Act->World->Prop}{a:Act}{U:World}(R:World->Prop)(h:R U)(k:∀u,R u->Code.wp P c Q a u):Code.wp P c Q a U:=k U h
theorem Oh{α:Type}(q:α->Bool)(ys:List α)(k:Nat)(x:α)(hx:ys[k]?=some x)(h:(ys.take k).all q=true):(ys.take (k+1)).all q=q x:=by
 obtain⟨hlt,rfl⟩:=aD.1 hx;rw[a6 hlt,List.all_append,h];simp
theorem Pv{α:Type}(q:α->Bool)(ys:List α)(x:α)(hx:x∈ys)(h:q x=false):ys.all q=false:=by
 rw[List.all_eq_false];exact⟨x,hx,by simp[h]⟩
theorem FE(s:Value)(ys:List Int)(w:World)(hn:ys.length<=1048576)(h:Rd w 1 s ys.length (ys.flatMap Ab)):
 Calls Tryz.prog 93 #[s] w fun e w'=>e=.returned (.bool (ys.all FC))/\w'=w:=by
 have H1:Hid (Rd w 1 s ys.length (ys.flatMap Ab)):=h;obtain⟨a1,c1,rfl⟩:=h.is_slice;clear h;generalize hLL:ys.length=n at hn H1;have HL:Hid (ys.length=n):=hLL;clear hLL;generalize hR:ys.all FC=R;have HR:Hid (ys.all FC=R):=hR;clear hR;go_enter Tryz.func93,Tryz.ntmps93;go_wp2
 go_loopw [3] (fun i wr=>∃k:Nat,k<=n/\i=.int .i64 k/\Hid ((ys.take k).all FC=true)/\wr=w) (fun i _=>n-(intOf i).toNat)
 case atStart=>exact⟨0,by omega,rfl,by simp[Hid],rfl⟩
 case round=>
  obtain⟨k,hk,rfl,HT,rfl⟩:=hrel;by_cases hlt:k<n
  . obtain⟨x,hx⟩:∃x,ys[k]?=some x:=⟨_,aA (by rw[HL.o];exact hlt)⟩
    rcases H1.o.2 with⟨e0,_⟩|⟨g,o,c,e1,hc1⟩
    . omega
    . simp only[aI,bU]at e1
      obtain⟨rfl,rfl⟩:=e1;have i0:=Rd.elem Aq hc1 k x hx 0 _ rfl;rw[cZ,aw]at i0;have HX:Hid (ys[k]?=some x):=hx;clear hc1 hx;go_wp2_with fail
      refine(Dv x wr).mono ?_;rintro e u ⟨rfl,rfl⟩;cases hq:FC x with
      | false=>
        have hR:R=false:=by
         rw[<-HR.o];exact Pv _ _ _ (aE HX.o) hq
        subst hR;clear hq;go_wp2
        go_ret
        exact⟨rfl,rfl⟩
      | true=>
        have HN:Hid ((ys.take (k+1)).all FC=true):=by
         show _=_;rw[Oh _ _ _ _ HX.o HT.o];exact hq
        clear hq;go_wp2
        go_roundw
        case rel=>exact⟨k+1,by omega,by go_num,HN,by trivial⟩
        case measure=>simp[intOf];omega
  . have hkn:k=n:=by omega
    subst hkn
    have hR:R=true:=by
     rw[<-HR.o,<-HT.o,<-HL.o,List.take_length]
    subst hR;go_wp2
    go_ret
    exact⟨rfl,rfl⟩
structure DS(w:World)(b:Nat)(x y z t:Value):Prop where
 c0:w.cell? ⟨b,0,none⟩=some x
 c1:w.cell? ⟨b,1,none⟩=some y
 c2:w.cell? ⟨b,2,none⟩=some z
 c3:w.cell? ⟨b,3,none⟩=some t
theorem DS.lt{w:World}{b:Nat}{x y z t:Value}(h:DS w b x y z t):b<w.heap.size:=aF h.c0
theorem DS.keep{w w':World}{b:Nat}{x y z t:Value}(h:DS w b x y z t)(hb:Below w.heap.size w w'):DS w' b x y z t:=
 ⟨by rw[hb.cell h.lt];exact h.c0,by rw[hb.cell h.lt];exact h.c1,by rw[hb.cell h.lt];exact h.c2,by rw[hb.cell h.lt];exact h.c3⟩
theorem DS.new(w:World)(x y z t:Value)(ty:TypeId):DS (w.alloc (.cells #[x,y,z,t] ty)) w.heap.size x y z t:=by
 have h:=ce (base:=w.heap.size) (e:=ty) (size:=4) w #[x,y,z,t] 1 lR (by unfold maxLen;omega) (by simp);exact⟨h.cellAt 0 (by omega),h.cellAt 1 (by omega),h.cellAt 2 (by omega),h.cellAt 3 (by omega)⟩
theorem DS.alloc{w:World}{b:Nat}{x y z t:Value}(h:DS w b x y z t)(o:Obj):DS (w.alloc o) b x y z t:=h.keep ((bY _ _).alloc lR _)
theorem Aa(w:World)(o:Obj):Below w.heap.size w (w.alloc o):=(bY _ _).alloc lR _
theorem Ad(w:World):Below w.heap.size w w.drew:=⟨rfl,rfl,rfl,Nat.le_refl _,fun _ _=>rfl⟩
theorem Af{B:Nat}{w u u':World}(h:Below B w u)(hB:B<=w.heap.size)(h':Below u.heap.size u u'):Below B w u':=h.trans (h'.mono (aY hB h.size))
theorem PZ{α:Type}{xs ys:List α}{k:Nat}{x y:α}(h1:xs[k]?=some x)(h2:ys[k]?=some y)(h:¬x=y):¬xs=ys:=by
 rintro rfl;rw[h1]at h2;exact h (bC h2)
theorem NX{α:Type}{xs ys:List α}{k:Nat}{x:α}(h1:xs[k]?=some x)(h2:ys[k]?=some x)(h:∀j,j<k->xs[j]?=ys[j]?):∀j,j<k+1->xs[j]?=ys[j]?:=by
 intro j hj;by_cases e:j=k
 . subst e
   rw[h1,h2]
 . exact h j (by omega)
theorem Pc{α:Type}{xs ys:List α}{n:Nat}(h1:xs.length=n)(h2:ys.length=n)(h:∀j,j<n->xs[j]?=ys[j]?):xs=ys:=by
 apply cQ;intro j;by_cases hj:j<n
 . exact h j hj
 . rw[ae (by omega),ae (by omega)]
theorem Fg (s s':Value)(xs ys:List Int)(w:World)(hn:xs.length<=1048576)(hn':ys.length<=1048576)(h:Rd w 1 s xs.length (xs.flatMap Ab))(h':Rd w 1 s' ys.length (ys.flatMap Ab)):
 Calls Tryz.prog 110 #[s,s'] w fun e w'=>AM e (xs=ys)/\∃m,w'=w.drewN m:=by
 have H1:Hid (Rd w 1 s xs.length (xs.flatMap Ab)):=h;have H2:Hid (Rd w 1 s' ys.length (ys.flatMap Ab)):=h';obtain⟨a1,c1,rfl⟩:=h.is_slice;obtain⟨a2,c2,rfl⟩:=h'.is_slice;clear h h';by_cases hll:xs.length=ys.length
 . rw [<-hll]at H2
   rw[<-hll];clear hn';generalize hLL:xs.length=n at hn H1 H2;have HL:Hid (xs.length=n/\ys.length=n):=⟨hLL,hll▸hLL⟩
   clear hLL hll;go_enter Tryz.func110,Tryz.ntmps110;go_wp2
   go_loopw [5] (fun i wr=>∃k:Nat,k<=n/\i=.int .i64 k/\Hid (∀j,j<k->xs[j]?=ys[j]?)/\∃m,wr=w.drewN m) (fun i _=>n-(intOf i).toNat)
   case atStart=>exact⟨0,by omega,rfl,fun j hj=>by omega,0,rfl⟩
   case round=>
    obtain⟨k,hk,rfl,HT,m,rfl⟩:=hrel;by_cases hlt:k<n
    . obtain⟨x,hx⟩:∃x,xs[k]?=some x:=⟨_,aA (by rw[HL.o.1];exact hlt)⟩
      obtain⟨y,hy⟩:∃y,ys[k]?=some y:=⟨_,aA (by rw[HL.o.2];exact hlt)⟩;rcases H1.o.2 with⟨e0,_⟩|⟨g,o,c,e1,hc1⟩
      . omega
      . rcases H2.o.2 with⟨e0,_⟩|⟨g',o',c',e2,hc2⟩
        . omega
        . simp only[aI,bU]at e1 e2
          obtain⟨rfl,rfl⟩:=e1;obtain⟨rfl,rfl⟩:=e2;have i0:=Rd.elem Aq hc1 k x hx 0 _ rfl;have j0:=Rd.elem Aq hc2 k y hy 0 _ rfl;rw[cZ,aw]at i0 j0;have HX:Hid (xs[k]?=some x/\ys[k]?=some y):=⟨hx,hy⟩
          clear hc1 hc2 hx hy;by_cases hxy:x=y
          . subst hxy
            go_wp2
            go_quiet (fail)
            go_wp2
            go_roundw
            case rel=>exact⟨k+1,by omega,by go_num,NX HX.o.1 HX.o.2 HT.o,_,rfl⟩
            case measure=>simp[intOf];omega
          . go_wp2
            go_quiet (fail)
            go_wp2
            go_ret
            exact⟨.no (PZ HX.o.1 HX.o.2 hxy),m+nq,World.drewN_drewN _ _ _⟩
    . have hkn:k=n:=by omega
      subst hkn;go_wp2
      go_ret
      exact⟨.yes (Pc HL.o.1 HL.o.2 HT.o),_,rfl⟩
 . have hne:¬xs=ys:=fun e=>hll (by rw[e])
   clear H1 H2;generalize xs.length=n at*;generalize ys.length=n' at*;have HN:Hid (¬xs=ys):=hne;clear hne;have hi:¬(n:Int)=(n':Int):=by omega
   go_enter Tryz.func110,Tryz.ntmps110;go_wp2
   go_ret
   exact⟨.no HN.o,0,rfl⟩
structure AB(w:World) where
 u:World
 h:Below w.heap.size w u
theorem AB.some(w:World):Nonempty (AB w):=⟨⟨w,bY _ _⟩⟩
theorem AV{P:Program}{id:Nat}{Q:Exit->Act->World->Prop}{a:Act}{w:World}{l:List Oper}(hm:P.follows .mixedOrders=true)(hB:Region.lexB .any l.toArray=true)
 (h:wpQuiet P l.toArray (fun w'=>∃n:AB w,w'=n.u) (fun a'=>∀w',(∃n:AB w,w'=n.u)->Q .normal a' w') l a):(Code.region id l.toArray true).wp P Q a w:=
 wp_region_quiet (C:=fun w'=>∃n:AB w,w'=n.u) hm hB ⟨⟨_,Ad w⟩,rfl⟩ (by simpa using h)
theorem AM.true{e:Ending}{q:Prop}(h:AM e q)(hq:q):e=.returned (.bool true):=by
 obtain⟨b,rfl,hb⟩:=h;rw[hb.2 hq]
theorem AM.false{e:Ending}{q:Prop}(h:AM e q)(hq:¬q):e=.returned (.bool false):=by
 obtain⟨b,rfl,hb⟩:=h;cases b
 . rfl
 . exact absurd (hb.1 rfl) hq
theorem AB.cell{w:World}{a:Addr}{x:Value}(h:w.cell? a=Option.some x)(n:AB w):n.u.cell? a=Option.some x:=by rw[n.h.cell (aF h)];exact h
def An(w:World)(b:Nat)(cur:Array Value)(t:TypeId):Prop:=w.heap[b]?=some (.cells cur t (0,0))
theorem An.new(w:World)(cur:Array Value)(t:TypeId):An (w.alloc (.cells cur t)) w.heap.size cur t:=fD
theorem An.lt{w:World}{b:Nat}{cur:Array Value}{t:TypeId}(h:An w b cur t):b<w.heap.size:=(an.1 h).1
theorem An.keep{w w':World}{b:Nat}{cur:Array Value}{t:TypeId}(h:An w b cur t)(hb:Below w.heap.size w w'):An w' b cur t:=by
 unfold An at*;rw[hb.block b (an.1 h).1];exact h
theorem An.cell{w:World}{b:Nat}{cur:Array Value}{t:TypeId}(h:An w b cur t)(i:Nat):w.cell? ⟨b,i,none⟩=cur[i]?:=dY w b i cur t _ h
theorem An.frozen{w:World}{b:Nat}{cur:Array Value}{t:TypeId}(h:An w b cur t)(i:Nat):w.frozen? ⟨b,i,none⟩=false:=frozen_of_row w b i cur t h
theorem An.set{w:World}{b:Nat}{cur:Array Value}{t:TypeId}(h:An w b cur t)(i:Nat)(x:Value):An (w.setCell ⟨b,i,none⟩ x) b (cur.setIfInBounds i x) t:=heap_setCell_same w b i cur t x h
theorem An.other{w:World}{b:Nat}{cur:Array Value}{t:TypeId}(h:An w b cur t){a:Addr}(ha:b≠a.block)(x:Value):An (w.setCell a x) b cur t:=by
 unfold An at*;rw[bO w a b x ha];exact h
theorem An.grown{w w':World}{b:Nat}{cur:Array Value}{t e:TypeId}(h:An w b cur t){B k m:Nat}{v:Value}{bs:List Value}(hg:w.grownBy w' v.ownBlock)(ho:w.ownsRow B e k v m bs)(hne:t≠e):An w' b cur t:=by
 unfold An at*;rw[hg.block b (an.1 h).1 ?_]
 . exact h
 . intro hv
   rcases ho.2 with⟨rfl,_⟩|⟨g',cap',cur',rfl,_,hg',_⟩
   . cases hv
   . simp only[Value.ownBlock,aJ]at hv
     subst hv;rw[h]at hg';simp only[aJ,dC]at hg';exact hne hg'.2.1
def AS(f:MF)(k:Int):Int:=if k<0 then 0 else(f.params++f.locals).getD k.toNat 0
theorem Lg{f:MF}{k:Int}(h:k<0):AS f k=0:=cD h
theorem Li{f:MF}{k:Nat}{x:Int}(h:f.params[k]?=some x):AS f k=x:=by
 obtain⟨hlt,rfl⟩:=aD.1 h;unfold AS;rw[bu (by omega),bQ,ao,bW hlt,aA hlt];rfl
theorem Ld{f:MF}{k:Nat}{x:Int}(h:f.locals[k]?=some x):AS f ((f.params.length:Int)+k)=x:=by
 obtain⟨hlt,rfl⟩:=aD.1 h;unfold AS;have e:((f.params.length:Int)+k).toNat=f.params.length+k:=by omega
 rw[bu (by omega),bQ,e,bV (by omega),dm,aA hlt];rfl
theorem Lh{f:MF}{k:Int}(h:(f.params.length:Int)+f.locals.length<=k):AS f k=0:=by
 unfold AS;rw[bu (by omega),bQ,ae (by rw[aG];omega)];rfl
theorem Dc(v:VF)(f:MF)(k:Int)(w:World)(hs:f.small)(hk:BN k)(h:Hq w v f):
 Calls Tryz.prog 106 #[.agg #[v.p,.int .i64 f.result,v.l,v.c],.int .i64 k] w fun e w'=>e=.returned (.int .i64 (AS f k))/\Below w.heap.size w w':=by
 have hk':-9223372036854775808<=k/\k<=9223372036854775807:=by simpa[BN,Lit.wf,IntKind.min,IntKind.max,IntKind.signed,IntKind.bits]using hk
 obtain⟨k0,k1⟩:=hk';obtain⟨s1,s2,s3⟩:=hs;have H1:Hid (Hq w v f):=h;obtain⟨a1,c1,e1⟩:=h.1.is_slice;obtain⟨a2,c2,e2⟩:=h.2.1.is_slice;obtain⟨vp,vl,vc⟩:=v;simp only[]at e1 e2;subst e1;subst e2;clear h hk s3;have F0:=Rv.of w 68 #[.slice a1 f.params.length c1,.int .i64 f.result,.slice a2 f.locals.length c2,vc] rfl;have HB:Hid _:=F0.bel;clear F0;generalize hn1:f.params.length=n1 at*;generalize hn2:f.locals.length=n2 at*;have HN:Hid (f.params.length=n1/\f.locals.length=n2):=⟨hn1,hn2⟩
 clear hn1 hn2;by_cases q0:k<0
 . rw[Lg q0]
   go_enter Tryz.func106,Tryz.ntmps106;go_wp2
   go_ret
   exact⟨rfl,HB.o⟩
 . obtain⟨j,rfl⟩:=aq (show 0<=k by omega)
   by_cases q1:j<n1
   . obtain⟨x,hx⟩:∃x,f.params[j]?=some x:=⟨_,aA (by rw[HN.o.1];exact q1)⟩
     rw[Li hx];rcases H1.o.1.2 with⟨e0,_⟩|⟨g,o,c,e1,hc1⟩
     . rw[HN.o.1]at e0
       omega
     . simp only[aI]at e1
       obtain⟨rfl,hh,rfl⟩:=e1;clear hh;have i0:=Rd.elem Aq hc1 j x hx 0 _ rfl;rw[cZ,aw]at i0;have i1:=(HB.o.cell (aF i0)).trans i0;clear hc1 hx i0;go_enter Tryz.func106,Tryz.ntmps106;go_wp2
       go_ret
       exact⟨rfl,HB.o⟩
   . by_cases q2:j<n1+n2
     . obtain⟨x,hx⟩:∃x,f.locals[j-n1]?=some x:=⟨_,aA (by rw[HN.o.2];omega)⟩
       have hl:=Ld hx;rw[HN.o.1]at hl;have ej:((n1:Int)+((j-n1:Nat):Int))=(j:Int):=by omega
       rw[ej]at hl;rw[hl];rcases H1.o.2.1.2 with⟨e0,_⟩|⟨g,o,c,e1,hc1⟩
       . rw[HN.o.2]at e0
         omega
       . simp only[aI]at e1
         obtain⟨rfl,hh,rfl⟩:=e1;clear hh;have i0:=Rd.elem Aq hc1 (j-n1) x hx 0 _ rfl;rw[cZ,aw]at i0;have i1:=(HB.o.cell (aF i0)).trans i0;clear hc1 hx i0 hl ej;go_enter Tryz.func106,Tryz.ntmps106;go_wp2
         go_ret
         exact⟨rfl,HB.o⟩
     . rw[Lh (by rw[HN.o.1,HN.o.2];omega)]
       go_enter Tryz.func106,Tryz.ntmps106;go_wp2
       go_ret
       exact⟨rfl,HB.o⟩
end Go.Proofs.YtjpobijiblcgaaaGreat
