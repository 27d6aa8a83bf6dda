import Derived.Test.YtjcamlobelcepaaGreatDoorCt2
import Derived.Deep.Cut
import Derived.Deep.CutRange
namespace Go.Proofs.YtjcamlobelcepaaGreatDoor
open Go.ChangeShapes Go.WideShapes Go.ChangeAt Go.RowKit
set_option linter.unusedVariables false
set_option maxHeartbeats 2000000
set_option maxRecDepth 100000
def Fe(x y:Value):Prop:=x=y\/∃k a b,x=.int k a/\y=.int k b
theorem Fe.refl(x:Value):Fe x x:=.inl rfl
theorem Fe.trans{x y z:Value}(h:Fe x y)(h':Fe y z):Fe x z:=by
 rcases h with rfl|⟨k,a,b,rfl,rfl⟩
 . exact h'
 . rcases h' with rfl|⟨k',a',b',e,rfl⟩
   . exact .inr ⟨k,a,b,rfl,rfl⟩
   . cases e
     exact .inr ⟨k,a,b',rfl,rfl⟩
theorem Fe.int{k:IntKind}{a:Int}{y:Value}(h:Fe (.int k a) y):∃b,y=.int k b:=by
 rcases h with rfl|⟨k',a',b',e,rfl⟩
 . exact⟨_,rfl⟩
 . cases e
   exact⟨_,rfl⟩
theorem Fe.slice{a:Option Addr}{n c:Nat}{y:Value}(h:Fe (.slice a n c) y):y=.slice a n c:=by
 rcases h with rfl|⟨k',a',b',e,rfl⟩
 . rfl
 . cases e
def Fo(xs ys:Array Value):Prop:=xs.size=ys.size/\∀(i:Nat) x y,xs[i]?=some x->ys[i]?=some y->Fe x y
theorem Fo.refl(xs:Array Value):Fo xs xs:=⟨rfl,fun i x y h1 h2=>by rw[h1]at h2;exact .inl (aZ h2)⟩
theorem Fo.at{xs ys:Array Value}(h:Fo xs ys){i:Nat}{x:Value}(hx:xs[i]?=some x):∃y,ys[i]?=some y/\Fe x y:=by
 have hi:i<ys.size:=by rw[<-h.1];exact(an.1 hx).1
 exact⟨_,dU hi,h.2 i x _ hx (dU hi)⟩
theorem Fo.trans{xs ys zs:Array Value}(h:Fo xs ys)(h':Fo ys zs):Fo xs zs:=by
 refine⟨h.1.trans h'.1,fun i x z hx hz=> ?_⟩;obtain⟨y,hy,a1⟩:=h.at hx;exact a1.trans (h'.2 i y z hy hz)
structure Er(w w':World):Prop where
 size:w.heap.size<=w'.heap.size
 block:∀(k:Nat) (cur:Array Value) (t:TypeId),w.heap[k]?=some (Obj.cells cur t (0,0))->∃cur',w'.heap[k]?=some (Obj.cells cur' t (0,0))/\Fo cur cur'
theorem Er.refl(w:World):Er w w:=⟨Nat.le_refl _,fun k cur t h=>⟨cur,h,.refl _⟩⟩
theorem Er.trans{w u v:World}(h:Er w u)(h':Er u v):Er w v:=by
 refine⟨aR h.size h'.size,fun k cur t hk=> ?_⟩;obtain⟨c1,h1,a1⟩:=h.block k cur t hk;obtain⟨c2,h2,a2⟩:=h'.block k c1 t h1;exact⟨c2,h2,a1.trans a2⟩
theorem Er.of_below{w w':World}(h:Below w.heap.size w w'):Er w w':=
 ⟨h.size,fun k cur t hk=>⟨cur,by rw[h.block k (an.1 hk).1];exact hk,.refl _⟩⟩
structure EE(lo hi:Nat)(w w':World):Prop where
 os:w'.os=w.os
 tape:w'.tape=w.tape
 output:w'.output=w.output
 size:w'.heap.size=w.heap.size
 o:∀(k:Nat),k<lo\/hi<=k->w'.heap[k]?=w.heap[k]?
 shaped:Er w w'
theorem EE.refl(lo hi:Nat)(w:World):EE lo hi w w:=⟨rfl,rfl,rfl,rfl,fun _ _=>rfl,.refl _⟩
theorem EE.trans{lo hi:Nat}{w u v:World}(h:EE lo hi w u)(h':EE lo hi u v):EE lo hi w v:=
 ⟨h'.os.trans h.os,h'.tape.trans h.tape,h'.output.trans h.output,h'.size.trans h.size,fun k hk=>(h'.o k hk).trans (h.o k hk),h.shaped.trans h'.shaped⟩
theorem EE.below{lo hi:Nat}{w w':World}(h:EE lo hi w w'):Below lo w w':=⟨h.os,h.tape,h.output,Nat.le_of_eq h.size.symm,fun k hk=>h.o k (.inl hk)⟩
theorem EE.drew{lo hi:Nat}{w w':World}(h:EE lo hi w w')(n:Nat):EE lo hi w (w'.drewN n):=⟨h.os,h.tape,h.output,h.size,h.o,⟨h.shaped.size,h.shaped.block⟩⟩
theorem EE.set{lo hi:Nat}{w:World}{g i:Nat}{cur:Array Value}{t:TypeId}{v x:Value}(hb:w.heap[g]?=some (Obj.cells cur t (0,0)))(hx:cur[i]?=some x)(ha:Fe x v)(hg:lo<=g)(hh:g<hi):EE lo hi w (w.setCell ⟨g,i,none⟩ v):=by
 refine⟨rfl,rfl,rfl,by simp,fun k hk=>bI w _ k v (by simp only[];omega),by simp,fun k c' t' hk=> ?_⟩;by_cases e:k=g
 . subst e
   rw[hb]at hk;simp only[aM,cD,cj]at hk;obtain⟨rfl,rfl⟩:=hk;refine⟨_,heap_setCell_same w k i cur t v hb,by simp,fun j a b h1 h2=> ?_⟩;by_cases ej:j=i
   . subst ej
     rw[hx]at h1;obtain rfl:=aZ h1;have hlt:=(an.1 hx).1;rw[Array.getElem?_setIfInBounds_self_of_lt hlt]at h2;obtain rfl:=aZ h2;exact ha
   . rw[Array.getElem?_setIfInBounds_ne (Ne.symm ej),h1]at h2
     exact .inl (aZ h2)
 . exact⟨c',by rw[bI w _ k v e];exact hk,.refl _⟩
structure F6(lo hi:Nat)(w w':World):Prop where
 os:w'.os=w.os
 tape:w'.tape=w.tape
 output:w'.output=w.output
 size:w.heap.size<=w'.heap.size
 o:∀(k:Nat),k<w.heap.size->k<lo\/hi<=k->w'.heap[k]?=w.heap[k]?
 shaped:Er w w'
theorem F6.of{lo hi B:Nat}{w u w':World}(hb:Below B w u)(hB:w.heap.size<=B)(h:EE lo hi u w'):F6 lo hi w w':=
 ⟨h.os.trans hb.os,h.tape.trans hb.tape,h.output.trans hb.output,by rw[h.size];exact hb.size,fun k hk hh=>(h.o k hh).trans (hb.block k (bZ hk hB)),(Er.of_below (hb.mono hB)).trans h.shaped⟩
theorem F6.below{lo hi:Nat}{w w':World}(h:F6 lo hi w w')(hl:lo<=w.heap.size):Below lo w w':=⟨h.os,h.tape,h.output,h.size,fun k hk=>h.o k (bZ hk hl) (.inl hk)⟩
theorem F6.cell{lo hi:Nat}{w w':World}(h:F6 lo hi w w'){a:Addr}{x:Value}(hx:w.cell? a=some x)(ha:a.block<lo\/hi<=a.block):w'.cell? a=some x:=by
 have:=h.o a.block (aD hx) ha;unfold World.cell? at*;rw[this];exact hx
theorem F6.own{lo hi:Nat}{w w':World}(h:F6 lo hi w w'){B:Nat}{e:TypeId}{s:Value}{k n:Nat}{xs:List Value}(ho:w.ownsRow B e k s n xs)(hB:hi<=B):w'.ownsRow B e k s n xs:=by
 refine⟨ho.1,?_⟩;rcases ho.2 with h'|⟨g,cap,cur,e1,hb1,hg,hr⟩
 . exact .inl h'
 . refine .inr ⟨g,cap,cur,e1,hb1,?_,hr⟩
   rw[h.o g (an.1 hg).1 (.inr (aR hB hb1))];exact hg
structure DE(w:World)(b:Nat)(x y z t:Value):Prop where
 c0:w.cell? ⟨b,0,none⟩=some x
 c1:w.cell? ⟨b,1,none⟩=some y
 c2:w.cell? ⟨b,2,none⟩=some z
 c3:w.cell? ⟨b,3,none⟩=some t
theorem DE.lt{w:World}{b:Nat}{x y z t:Value}(h:DE w b x y z t):b<w.heap.size:=aD h.c0
theorem DE.keep{w w':World}{b:Nat}{x y z t:Value}(h:DE w b x y z t)(hb:Below w.heap.size w w'):DE w' b x y z t:=
 ⟨by rw[hb.cell h.lt];exact h.c0,by rw[hb.cell h.lt];exact h.c1,by rw[hb.cell h.lt];exact h.c2,by rw[hb.cell h.lt];exact h.c3⟩
theorem DE.new(w:World)(x y z t:Value)(ty:TypeId):DE (w.alloc (.cells #[x,y,z,t] ty)) w.heap.size x y z t:=by
 have h:=cF (base:=w.heap.size) (e:=ty) (size:=4) w #[x,y,z,t] 1 lR (by unfold maxLen;omega) (by simp);exact⟨h.cellAt 0 (by omega),h.cellAt 1 (by omega),h.cellAt 2 (by omega),h.cellAt 3 (by omega)⟩
theorem DE.alloc{w:World}{b:Nat}{x y z t:Value}(h:DE w b x y z t)(o:Obj):DE (w.alloc o) b x y z t:=h.keep ((aq _ _).alloc lR _)
theorem Aa(w:World)(o:Obj):Below w.heap.size w (w.alloc o):=(aq _ _).alloc lR _
theorem Ae(w:World):Below w.heap.size w w.drew:=⟨rfl,rfl,rfl,Nat.le_refl _,fun _ _=>rfl⟩
theorem Ab{B:Nat}{w u u':World}(h:Below B w u)(hB:B<=w.heap.size)(h':Below u.heap.size u u'):Below B w u':=h.trans (h'.mono (aR hB h.size))
def Am(e:Ending)(q:Prop):Prop:=∃b,e=.returned (.bool b)/\(b=true↔q)
theorem Am.yes{q:Prop}(h:q):Am (.returned (.bool true)) q:=⟨_,rfl,by simp[h]⟩
theorem Am.no{q:Prop}(h:¬q):Am (.returned (.bool false)) q:=⟨_,rfl,by simp[h]⟩
theorem Am.of{q:Prop}{b:Bool}(h:b=true↔q):Am (.returned (.bool b)) q:=⟨_,rfl,h⟩
theorem Am.iff{e:Ending}{q q':Prop}(h:Am e q)(hq:q↔q'):Am e q':=by
 obtain⟨b,rfl,hb⟩:=h;exact⟨b,rfl,hb.trans hq⟩
abbrev EQ(α:Type):=Nat->Option (α×Nat)
def Cb(zs:List Int)(n:Nat):EQ Int:=fun k=>if k+n<=zs.length then some (wrap64 (Cd zs k n),k+n)else none
def AU{α β:Type}(r:EQ α)(f:α->EQ β):EQ β:=fun k=>match r k with|none=>none|some (x,k1)=>f x k1
def B5{α:Type}(x:α):EQ α:=fun k=>some (x,k)
def Bu{α:Type}(r:EQ α):Nat->EQ (List α)
 |0=>B5 []
 |c+1=>AU (Bu r c) fun xs=>AU r fun x=>B5 (xs++[x])
theorem CQ{α β:Type}{r:EQ α}{f:α->EQ β}{k k1:Nat}{x:α}(h:r k=some (x,k1)):AU r f k=f x k1:=by unfold AU;rw[h]
theorem Aw{α β:Type}{r:EQ α}{f:α->EQ β}{k:Nat}(h:r k=none):AU r f k=none:=by unfold AU;rw[h]
def Cu{α:Type}(zs:List Int)(n:Nat)(r:EQ α):EQ (List α):=AU (Cb zs n) fun c=>Bu r c.toNat
def BF(zs:List Int)(n:Nat):EQ (List Int):=Cu zs n (Cb zs 1)
def D9(zs:List Int):EQ MC:=AU (Cb zs 1) fun t=>AU (Cb zs 4) fun x=>B5 ⟨t,x⟩
def EV(zs:List Int):EQ MI:=AU (Cb zs 1) fun o=>AU (Cb zs 1) fun a=>AU (Cb zs 2) fun b=>AU (Cb zs 4) fun c=>B5 ⟨o,a,b,c⟩
def Fi(zs:List Int):EQ MF:=AU (BF zs 1) fun ps=>AU (Cb zs 1) fun r=>AU (BF zs 1) fun ls=>AU (Cu zs 2 (EV zs)) fun code=>B5 ⟨ps,r,ls,code⟩
def G9(zs:List Int):EQ MT:=AU (Cb zs 2) fun f=>AU (Cb zs 2) fun h=>AU (Cb zs 1) fun c=>AU (Cb zs 4) fun i=>B5 ⟨f,h,c,i⟩
def Im(zs:List Int):EQ MP:=AU (Bu (BF zs 2) 3) fun rs=>AU (Cu zs 2 (D9 zs)) fun cs=>AU (Cu zs 2 (Fi zs)) fun fs=>AU (Cu zs 2 (G9 zs)) fun ts=>B5 ⟨rs,cs,fs,ts⟩
theorem Jn{zs:List Int}{n k k1:Nat}{x:Int}(h:Cb zs n k=some (x,k1)):k1=k+n/\k1<=zs.length/\x=wrap64 (Cd zs k n):=by
 unfold Cb at h;split at h
 . simp only[aM,Prod.mk.injEq]at h;exact⟨h.2.symm,by omega,h.1.symm⟩
 . cases h
theorem CO {α:Type}{r:EQ α}{c d k:Nat}(h:Bu r c k=none)(hd:c<=d):Bu r d k=none:=by
 induction d with
 | zero => obtain rfl:c=0:=by omega
           exact h
 | succ d ih=>
   by_cases e:c=d+1
   . rw[<-e];exact h
   . exact Aw (ih (by omega))
theorem DR{α:Type}{r:EQ α}{c k k1 k2:Nat}{xs:List α}{x:α}(h:Bu r c k=some (xs,k1))(hx:r k1=some (x,k2)):Bu r (c+1) k=some (xs++[x],k2):=by
 show AU (Bu r c) _ k=_;rw[CQ h,CQ hx];rfl
theorem DS{α:Type}{r:EQ α}{c k k1:Nat}{xs:List α}(h:Bu r c k=some (xs,k1))(hx:r k1=none):Bu r (c+1) k=none:=by
 show AU (Bu r c) _ k=_;rw[CQ h,Aw hx]
def DI{α:Type}(r:EQ α)(k:Nat)(bad:Bool)(x:α)(k':Nat)(bad':Bool):Prop:=(bad=false/\bad'=false/\r k=some (x,k'))\/(bad'=true/\(bad=true\/r k=none))
theorem An{P:Program}{c:Code}{Q:Exit->Act->World->Prop}{a:Act}{U:World}(R:World->Prop)(h:R U)(k:∀u,R u->Code.wp P c Q a u):Code.wp P c Q a U:=k U h
theorem Mt{α:Type}(q:α->Bool)(ys:List α)(k:Nat)(x:α)(hx:ys[k]?=some x)(h:(ys.take k).all q=true):(ys.take (k+1)).all q=q x:=by
 obtain⟨hlt,rfl⟩:=aE.1 hx;rw[aj hlt,List.all_append,h];simp
theorem OH{α:Type}(q:α->Bool)(ys:List α)(x:α)(hx:x∈ys)(h:q x=false):ys.all q=false:=by
 rw[List.all_eq_false];exact⟨x,hx,by simp[h]⟩
theorem Gj(s:Value)(ys:List Int)(w:World)(hn:ys.length<=1048576)(h:Rd w 1 s ys.length (ys.flatMap Ac)):
 Calls Tryz.prog 92 #[s] w fun e w'=>e=.returned (.bool (ys.all DZ))/\w'=w:=by
 have H1:Hid (Rd w 1 s ys.length (ys.flatMap Ac)):=h;obtain⟨a1,c1,rfl⟩:=h.is_slice;clear h;generalize hLL:ys.length=n at hn H1;have HL:Hid (ys.length=n):=hLL;clear hLL;generalize hR:ys.all DZ=R;have HR:Hid (ys.all DZ=R):=hR;clear hR;go_enter Tryz.func92,Tryz.ntmps92;go_wp2
 go_loopw [3] (fun i wr=>∃k:Nat,k<=n/\i=.int .i64 k/\Hid ((ys.take k).all DZ=true)/\wr=w) (fun i _=>n-(intOf i).toNat)
 case atStart=>exact⟨0,by omega,rfl,by simp[Hid],rfl⟩
 case round=>
  obtain⟨k,hk,rfl,HT,rfl⟩:=hrel;by_cases hlt:k<n
  . obtain⟨x,hx⟩:∃x,ys[k]?=some x:=⟨_,aA (by rw[HL.o];exact hlt)⟩
    rcases H1.o.2 with⟨e0,_⟩|⟨g,o,c,e1,hc1⟩
    . omega
    . simp only[aI,ao]at e1
      obtain⟨rfl,rfl⟩:=e1;have i0:=Rd.elem Al hc1 k x hx 0 _ rfl;rw[bR,aT]at i0;have HX:Hid (ys[k]?=some x):=hx;clear hc1 hx;go_wp2_with fail
      refine(DQ x wr).mono ?_;rintro e u ⟨rfl,rfl⟩;cases hq:DZ x with
      | false=>
        have hR:R=false:=by
         rw[<-HR.o];exact OH _ _ _ (aF HX.o) hq
        subst hR;clear hq;go_wp2
        go_ret
        exact⟨rfl,rfl⟩
      | true=>
        have HN:Hid ((ys.take (k+1)).all DZ=true):=by
         show _=_;rw[Mt _ _ _ _ HX.o HT.o];exact hq
        clear hq;go_wp2
        go_roundw
        case rel=>exact⟨k+1,by omega,by go_num,HN,by trivial⟩
        case measure=>simp[intOf];omega
  . have hkn:k=n:=by omega
    subst hkn
    have hR:R=true:=by
     rw[<-HR.o,<-HT.o,<-HL.o,List.take_length]
    subst hR;go_wp2
    go_ret
    exact⟨rfl,rfl⟩
theorem Db{α:Type}{xs ys:List α}{k:Nat}{x y:α}(h1:xs[k]?=some x)(h2:ys[k]?=some y)(h:¬x=y):¬xs=ys:=by
 rintro rfl;rw[h1]at h2;exact h (aZ h2)
theorem Cf{α:Type}{xs ys:List α}{k:Nat}{x:α}(h1:xs[k]?=some x)(h2:ys[k]?=some x)(h:∀j,j<k->xs[j]?=ys[j]?):∀j,j<k+1->xs[j]?=ys[j]?:=by
 intro j hj;by_cases e:j=k
 . subst e
   rw[h1,h2]
 . exact h j (by omega)
theorem Cz{α:Type}{xs ys:List α}{n:Nat}(h1:xs.length=n)(h2:ys.length=n)(h:∀j,j<n->xs[j]?=ys[j]?):xs=ys:=by
 apply cL;intro j;by_cases hj:j<n
 . exact h j hj
 . rw[ae (by omega),ae (by omega)]
theorem Dd (s s':Value)(xs ys:List Int)(w:World)(hn:xs.length<=1048576)(hn':ys.length<=1048576)(h:Rd w 1 s xs.length (xs.flatMap Ac))(h':Rd w 1 s' ys.length (ys.flatMap Ac)):
 Calls Tryz.prog 25 #[s,s'] w fun e w'=>Am e (xs=ys)/\∃m,w'=w.drewN m:=by
 have H1:Hid (Rd w 1 s xs.length (xs.flatMap Ac)):=h;have H2:Hid (Rd w 1 s' ys.length (ys.flatMap Ac)):=h';obtain⟨a1,c1,rfl⟩:=h.is_slice;obtain⟨a2,c2,rfl⟩:=h'.is_slice;clear h h';by_cases hll:xs.length=ys.length
 . rw [<-hll]at H2
   rw[<-hll];clear hn';generalize hLL:xs.length=n at hn H1 H2;have HL:Hid (xs.length=n/\ys.length=n):=⟨hLL,hll▸hLL⟩
   clear hLL hll;go_enter Tryz.func25,Tryz.ntmps25;go_wp2
   go_loopw [5] (fun i wr=>∃k:Nat,k<=n/\i=.int .i64 k/\Hid (∀j,j<k->xs[j]?=ys[j]?)/\∃m,wr=w.drewN m) (fun i _=>n-(intOf i).toNat)
   case atStart=>exact⟨0,by omega,rfl,fun j hj=>by omega,0,rfl⟩
   case round=>
    obtain⟨k,hk,rfl,HT,m,rfl⟩:=hrel;by_cases hlt:k<n
    . obtain⟨x,hx⟩:∃x,xs[k]?=some x:=⟨_,aA (by rw[HL.o.1];exact hlt)⟩
      obtain⟨y,hy⟩:∃y,ys[k]?=some y:=⟨_,aA (by rw[HL.o.2];exact hlt)⟩;rcases H1.o.2 with⟨e0,_⟩|⟨g,o,c,e1,hc1⟩
      . omega
      . rcases H2.o.2 with⟨e0,_⟩|⟨g',o',c',e2,hc2⟩
        . omega
        . simp only[aI,ao]at e1 e2
          obtain⟨rfl,rfl⟩:=e1;obtain⟨rfl,rfl⟩:=e2;have i0:=Rd.elem Al hc1 k x hx 0 _ rfl;have j0:=Rd.elem Al hc2 k y hy 0 _ rfl;rw[bR,aT]at i0 j0;have HX:Hid (xs[k]?=some x/\ys[k]?=some y):=⟨hx,hy⟩
          clear hc1 hc2 hx hy;by_cases hxy:x=y
          . subst hxy
            go_wp2
            go_quiet (fail)
            go_wp2
            go_roundw
            case rel=>exact⟨k+1,by omega,by go_num,Cf HX.o.1 HX.o.2 HT.o,_,rfl⟩
            case measure=>simp[intOf];omega
          . go_wp2
            go_quiet (fail)
            go_wp2
            go_ret
            exact⟨.no (Db HX.o.1 HX.o.2 hxy),m+nq,World.drewN_drewN _ _ _⟩
    . have hkn:k=n:=by omega
      subst hkn;go_wp2
      go_ret
      exact⟨.yes (Cz HL.o.1 HL.o.2 HT.o),_,rfl⟩
 . have hne:¬xs=ys:=fun e=>hll (by rw[e])
   clear H1 H2;generalize xs.length=n at*;generalize ys.length=n' at*;have HN:Hid (¬xs=ys):=hne;clear hne;have hi:¬(n:Int)=(n':Int):=by omega
   go_enter Tryz.func25,Tryz.ntmps25;go_wp2
   go_ret
   exact⟨.no HN.o,0,rfl⟩
theorem Ez (s s':Value)(xs ys:List Int)(w:World)(hn:xs.length<=1048576)(hn':ys.length<=1048576)(h:Rd w 1 s xs.length (xs.flatMap Ac))(h':Rd w 1 s' ys.length (ys.flatMap Ac)):
 Calls Tryz.prog 28 #[s,s'] w fun e w'=>Am e (xs=ys)/\∃m,w'=w.drewN m:=by
 have H1:Hid (Rd w 1 s xs.length (xs.flatMap Ac)):=h;have H2:Hid (Rd w 1 s' ys.length (ys.flatMap Ac)):=h';obtain⟨a1,c1,rfl⟩:=h.is_slice;obtain⟨a2,c2,rfl⟩:=h'.is_slice;clear h h';by_cases hll:xs.length=ys.length
 . rw [<-hll]at H2
   rw[<-hll];clear hn';generalize hLL:xs.length=n at hn H1 H2;have HL:Hid (xs.length=n/\ys.length=n):=⟨hLL,hll▸hLL⟩
   clear hLL hll;go_enter Tryz.func28,Tryz.ntmps28;go_wp2
   go_loopw [13] (fun i wr=>∃k:Nat,k<=n/\i=.int .i64 k/\Hid (∀j,j<k->xs[j]?=ys[j]?)/\∃m,wr=w.drewN m) (fun i _=>n-(intOf i).toNat)
   case atStart=>exact⟨0,by omega,rfl,fun j hj=>by omega,0,rfl⟩
   case round=>
    obtain⟨k,hk,rfl,HT,m,rfl⟩:=hrel;by_cases hlt:k<n
    . obtain⟨x,hx⟩:∃x,xs[k]?=some x:=⟨_,aA (by rw[HL.o.1];exact hlt)⟩
      obtain⟨y,hy⟩:∃y,ys[k]?=some y:=⟨_,aA (by rw[HL.o.2];exact hlt)⟩;rcases H1.o.2 with⟨e0,_⟩|⟨g,o,c,e1,hc1⟩
      . omega
      . rcases H2.o.2 with⟨e0,_⟩|⟨g',o',c',e2,hc2⟩
        . omega
        . simp only[aI,ao]at e1 e2
          obtain⟨rfl,rfl⟩:=e1;obtain⟨rfl,rfl⟩:=e2;have i0:=Rd.elem Al hc1 k x hx 0 _ rfl;have j0:=Rd.elem Al hc2 k y hy 0 _ rfl;rw[bR,aT]at i0 j0;have HX:Hid (xs[k]?=some x/\ys[k]?=some y):=⟨hx,hy⟩
          clear hc1 hc2 hx hy;by_cases hxy:x=y
          . subst hxy
            go_wp2
            go_quiet (fail)
            go_wp2
            go_roundw
            case rel=>exact⟨k+1,by omega,by go_num,Cf HX.o.1 HX.o.2 HT.o,_,rfl⟩
            case measure=>simp[intOf];omega
          . go_wp2
            go_quiet (fail)
            go_wp2
            go_ret
            exact⟨.no (Db HX.o.1 HX.o.2 hxy),m+nq,World.drewN_drewN _ _ _⟩
    . have hkn:k=n:=by omega
      subst hkn;go_wp2
      go_ret
      exact⟨.yes (Cz HL.o.1 HL.o.2 HT.o),_,rfl⟩
 . have hne:¬xs=ys:=fun e=>hll (by rw[e])
   clear H1 H2;generalize xs.length=n at*;generalize ys.length=n' at*;have HN:Hid (¬xs=ys):=hne;clear hne;have hi:¬(n:Int)=(n':Int):=by omega
   go_enter Tryz.func28,Tryz.ntmps28;go_wp2
   go_ret
   exact⟨.no HN.o,0,rfl⟩
def Ap(w:World)(b:Nat)(cur:Array Value)(t:TypeId):Prop:=w.heap[b]?=some (.cells cur t (0,0))
theorem Ap.new(w:World)(cur:Array Value)(t:TypeId):Ap (w.alloc (.cells cur t)) w.heap.size cur t:=d6
theorem Ap.lt{w:World}{b:Nat}{cur:Array Value}{t:TypeId}(h:Ap w b cur t):b<w.heap.size:=(an.1 h).1
theorem Ap.keep{w w':World}{b:Nat}{cur:Array Value}{t:TypeId}(h:Ap w b cur t)(hb:Below w.heap.size w w'):Ap w' b cur t:=by
 unfold Ap at*;rw[hb.block b (an.1 h).1];exact h
theorem Ap.cell{w:World}{b:Nat}{cur:Array Value}{t:TypeId}(h:Ap w b cur t)(i:Nat):w.cell? ⟨b,i,none⟩=cur[i]?:=cu w b i cur t _ h
theorem Ap.frozen{w:World}{b:Nat}{cur:Array Value}{t:TypeId}(h:Ap w b cur t)(i:Nat):w.frozen? ⟨b,i,none⟩=false:=frozen_of_row w b i cur t h
theorem Ap.set{w:World}{b:Nat}{cur:Array Value}{t:TypeId}(h:Ap w b cur t)(i:Nat)(x:Value):Ap (w.setCell ⟨b,i,none⟩ x) b (cur.setIfInBounds i x) t:=heap_setCell_same w b i cur t x h
theorem Ap.other{w:World}{b:Nat}{cur:Array Value}{t:TypeId}(h:Ap w b cur t){a:Addr}(ha:b≠a.block)(x:Value):Ap (w.setCell a x) b cur t:=by
 unfold Ap at*;rw[bI w a b x ha];exact h
theorem Ap.grown{w w':World}{b:Nat}{cur:Array Value}{t e:TypeId}(h:Ap w b cur t){B k m:Nat}{v:Value}{bs:List Value}(hg:w.grownBy w' v.ownBlock)(ho:w.ownsRow B e k v m bs)(hne:t≠e):Ap w' b cur t:=by
 unfold Ap at*;rw[hg.block b (an.1 h).1 ?_]
 . exact h
 . intro hv
   rcases ho.2 with⟨rfl,_⟩|⟨g',cap',cur',rfl,_,hg',_⟩
   . cases hv
   . simp only[Value.ownBlock,aM]at hv
     subst hv;rw[h]at hg';simp only[aM,cD]at hg';exact hne hg'.2.1
structure Ao(w:World) where
 u:World
 h:Below w.heap.size w u
theorem Ao.some(w:World):Nonempty (Ao w):=⟨⟨w,aq _ _⟩⟩
theorem AC{P:Program}{id:Nat}{Q:Exit->Act->World->Prop}{a:Act}{w:World}{l:List Oper}(hm:P.follows .mixedOrders=true)(hB:Region.lexB .any l.toArray=true)
 (h:wpQuiet P l.toArray (fun w'=>∃n:Ao w,w'=n.u) (fun a'=>∀w',(∃n:Ao w,w'=n.u)->Q .normal a' w') l a):(Code.region id l.toArray true).wp P Q a w:=
 wp_region_quiet (C:=fun w'=>∃n:Ao w,w'=n.u) hm hB ⟨⟨_,Ae w⟩,rfl⟩ (by simpa using h)
theorem Am.true{e:Ending}{q:Prop}(h:Am e q)(hq:q):e=.returned (.bool true):=by
 obtain⟨b,rfl,hb⟩:=h;rw[hb.2 hq]
theorem Am.false{e:Ending}{q:Prop}(h:Am e q)(hq:¬q):e=.returned (.bool false):=by
 obtain⟨b,rfl,hb⟩:=h;cases b
 . rfl
 . exact absurd (hb.1 rfl) hq
theorem Ao.cell{w:World}{a:Addr}{x:Value}(h:w.cell? a=Option.some x)(n:Ao w):n.u.cell? a=Option.some x:=by rw[n.h.cell (aD h)];exact h
theorem CP{w w':World}{base B:Nat}{e e':TypeId}{s v:Value}{k k' n m:Nat}{xs bs:List Value}(h:w.ownsRow base e k s n xs)(hg:w.grownBy w' v.ownBlock)(ho:w.ownsRow B e' k' v m bs)(hne:e≠e'):w'.ownsRow base e k s n xs:=by
 refine⟨h.1,?_⟩;rcases h.2 with h|⟨g,cap,cur,e1,hb1,hgg,hr⟩
 . exact .inl h
 . refine .inr ⟨g,cap,cur,e1,hb1,?_,hr⟩
   rw[hg.block g (an.1 hgg).1 ?_]
   . exact hgg
   . intro hv
     rcases ho.2 with⟨rfl,_⟩|⟨g',cap',cur',rfl,_,hg',_⟩
     . cases hv
     . simp only[Value.ownBlock,aM]at hv
       subst hv;rw[hgg]at hg';simp only[aM,cD]at hg';exact hne hg'.2.1
theorem Ep.grown{w w':World}{base B:Nat}{v:VF}{f:MF}{e':TypeId}{b:Value}{k' m:Nat}{bs:List Value}(h:Ep w base v f)(hg:w.grownBy w' b.ownBlock)(ho:w.ownsRow B e' k' b m bs)(h1:2≠e')(h2:97≠e'):Ep w' base v f:=⟨CP h.1 hg ho h1,CP h.2.1 hg ho h1,CP h.2.2 hg ho h2⟩
theorem Do.grown{w w':World}{base B:Nat}{s:Value}{fs:List MF}{b:Value}{k' m:Nat}{bs:List Value}(h:Do w base s fs)(hg:w.grownBy w' b.ownBlock)(ho:w.ownsRow B 5 k' b m bs):Do w' base s fs:=by
 obtain⟨xs,h1,h2,h3⟩:=h;exact⟨xs,h1,CP h2 hg ho (by decide),fun x hx=>(h3 x hx).grown hg ho (by decide) (by decide)⟩
theorem Ft.grown{w w':World}{base B:Nat}{s:Value}{rs:List (List Int)}{b:Value}{k' m:Nat}{bs:List Value}(h:Ft w base s rs)(hg:w.grownBy w' b.ownBlock)(ho:w.ownsRow B 5 k' b m bs):Ft w' base s rs:=by
 obtain⟨xs,h1,h2,h3⟩:=h;exact⟨xs,h1,CP h2 hg ho (by decide),fun x hx=>CP (h3 x hx) hg ho (by decide)⟩
theorem Dc.grown{w w':World}{base B:Nat}{v:VP}{p:MP}{b:Value}{k' m:Nat}{bs:List Value}(h:Dc w base v p)(hg:w.grownBy w' b.ownBlock)(ho:w.ownsRow B 5 k' b m bs):Dc w' base v p:=
 ⟨h.regions.grown hg ho,CP h.consts hg ho (by decide),h.funcs.grown hg ho,CP h.certs hg ho (by decide)⟩
theorem Jg{w w':World}(h:Below w.heap.size w w')(row:Option Nat):w.grownBy w' row:=⟨h.os,h.tape,h.output,h.size,fun k hk _=>h.block k hk⟩
def Eb(n:Nat)(ys:List Int):List Value:=ys.flatMap fun y=>At y n
theorem Ef(n:Nat)(ys:List Int):(Eb n ys).length=ys.length*n:=Aq (fun y=>At y n) n (fun y=>Av y n) ys
theorem Ii(v:Int)(n:Nat):∀u∈At v n,u.oneCell'=true:=by
 intro u hu;unfold At at hu;obtain⟨i,_,rfl⟩:=cE.1 hu;rfl
def AA(f:MF)(k:Int):Int:=if k<0 then 0 else(f.params++f.locals).getD k.toNat 0
theorem Gq{f:MF}{k:Int}(h:k<0):AA f k=0:=bj h
theorem IZ{f:MF}{k:Nat}{x:Int}(h:f.params[k]?=some x):AA f k=x:=by
 obtain⟨hlt,rfl⟩:=aE.1 h;unfold AA;rw[bX (by omega),aU,aX,bS hlt,aA hlt];rfl
theorem IX{f:MF}{k:Nat}{x:Int}(h:f.locals[k]?=some x):AA f ((f.params.length:Int)+k)=x:=by
 obtain⟨hlt,rfl⟩:=aE.1 h;unfold AA;have e:((f.params.length:Int)+k).toNat=f.params.length+k:=by omega
 rw[bX (by omega),aU,e,bH (by omega),df,aA hlt];rfl
theorem IY{f:MF}{k:Int}(h:(f.params.length:Int)+f.locals.length<=k):AA f k=0:=by
 unfold AA;rw[bX (by omega),aU,ae (by rw[aH];omega)];rfl
theorem Di(v:VF)(f:MF)(k:Int)(w:World)(hs:f.small)(hk:Ec k)(h:EI w v f):
 Calls Tryz.prog 122 #[.agg #[v.p,.int .i64 f.result,v.l,v.c],.int .i64 k] w fun e w'=>e=.returned (.int .i64 (AA f k))/\Below w.heap.size w w':=by
 have hk':-9223372036854775808<=k/\k<=9223372036854775807:=by simpa[Ec,Lit.wf,IntKind.min,IntKind.max,IntKind.signed,IntKind.bits]using hk
 obtain⟨k0,k1⟩:=hk';obtain⟨s1,s2,s3⟩:=hs;have H1:Hid (EI w v f):=h;obtain⟨a1,c1,e1⟩:=h.1.is_slice;obtain⟨a2,c2,e2⟩:=h.2.1.is_slice;obtain⟨vp,vl,vc⟩:=v;simp only[]at e1 e2;subst e1;subst e2;clear h hk s3;have F0:=SH.of w 58 #[.slice a1 f.params.length c1,.int .i64 f.result,.slice a2 f.locals.length c2,vc] rfl;have HB:Hid _:=F0.bel;clear F0;generalize hn1:f.params.length=n1 at*;generalize hn2:f.locals.length=n2 at*;have HN:Hid (f.params.length=n1/\f.locals.length=n2):=⟨hn1,hn2⟩
 clear hn1 hn2;by_cases q0:k<0
 . rw[Gq q0]
   go_enter Tryz.func122,Tryz.ntmps122;go_wp2
   go_ret
   exact⟨rfl,HB.o⟩
 . obtain⟨j,rfl⟩:=aS (show 0<=k by omega)
   by_cases q1:j<n1
   . obtain⟨x,hx⟩:∃x,f.params[j]?=some x:=⟨_,aA (by rw[HN.o.1];exact q1)⟩
     rw[IZ hx];rcases H1.o.1.2 with⟨e0,_⟩|⟨g,o,c,e1,hc1⟩
     . rw[HN.o.1]at e0
       omega
     . simp only[aI]at e1
       obtain⟨rfl,hh,rfl⟩:=e1;clear hh;have i0:=Rd.elem Al hc1 j x hx 0 _ rfl;rw[bR,aT]at i0;have i1:=(HB.o.cell (aD i0)).trans i0;clear hc1 hx i0;go_enter Tryz.func122,Tryz.ntmps122;go_wp2
       go_ret
       exact⟨rfl,HB.o⟩
   . by_cases q2:j<n1+n2
     . obtain⟨x,hx⟩:∃x,f.locals[j-n1]?=some x:=⟨_,aA (by rw[HN.o.2];omega)⟩
       have hl:=IX hx;rw[HN.o.1]at hl;have ej:((n1:Int)+((j-n1:Nat):Int))=(j:Int):=by omega
       rw[ej]at hl;rw[hl];rcases H1.o.2.1.2 with⟨e0,_⟩|⟨g,o,c,e1,hc1⟩
       . rw[HN.o.2]at e0
         omega
       . simp only[aI]at e1
         obtain⟨rfl,hh,rfl⟩:=e1;clear hh;have i0:=Rd.elem Al hc1 (j-n1) x hx 0 _ rfl;rw[bR,aT]at i0;have i1:=(HB.o.cell (aD i0)).trans i0;clear hc1 hx i0 hl ej;go_enter Tryz.func122,Tryz.ntmps122;go_wp2
         go_ret
         exact⟨rfl,HB.o⟩
     . rw[IY (by rw[HN.o.1,HN.o.2];omega)]
       go_enter Tryz.func122,Tryz.ntmps122;go_wp2
       go_ret
       exact⟨rfl,HB.o⟩
theorem Ub(x y:Nat)(hx:x<18446744073709551616)(hy:y<18446744073709551616):bits .or .u64 (x:Int) (y:Int)=((x ||| y:Nat):Int):=by
 show(((BitVec.ofInt 64 (x:Int) ||| BitVec.ofInt 64 (y:Int)).toNat:Nat):Int) % 2 ^ 64=_;rw[BitVec.ofInt_natCast,BitVec.ofInt_natCast,BitVec.toNat_or,BitVec.toNat_ofNat,BitVec.toNat_ofNat,Nat.mod_eq_of_lt hx,Nat.mod_eq_of_lt hy];have:=Nat.or_lt_two_pow (n:=64) hx hy;omega
def DC(zs:List Int):Prop:=∀j,0<=zs.getD j 0/\zs.getD j 0<=255
theorem K6(zs:List Int)(hz:DC zs)(p:Nat):∀n,n<=7->∃x:Nat,Cd zs p n=(x:Int)/\x<2 ^ (8*n)
 |0,_=>⟨0,rfl,by decide⟩
 | n +1,hn=>by
   obtain⟨x,hx,hlt⟩:=K6 zs hz p n (by omega);have hb:=hz (p+n);rw[aU]at hb;obtain⟨c,hc⟩:=aS hb.1;have hP56:(2:Nat) ^ (8*n)<=2 ^ 48:=Nat.pow_le_pow_right (by decide) (by omega);have hcast:((2 ^ (8*n):Nat):Int)=2 ^ (8*n):=by simp
   have hc':c<=255:=by omega
   have hcP:c*2 ^ (8*n)<=255*2 ^ (8*n):=Nat.mul_le_mul_right _ hc';have hpow:(2:Nat) ^ (8*(n+1))=256*2 ^ (8*n):=by rw[show 8*(n+1)=8*n+8 by omega,Nat.pow_add,Nat.mul_comm]
   have w1:IntKind.u64.wrap (c:Int)=(c:Int):=by
    show(c:Int) % 2 ^ 64=c;omega
   have w2:IntKind.u64.wrap ((c:Int)*2 ^ (8*n))=((c*2 ^ (8*n):Nat):Int):=by
    show(c:Int)*2 ^ (8*n) % 2 ^ 64=_;rw[<-hcast,<-Int.natCast_mul];generalize c*2 ^ (8*n)=q at*;omega
   refine⟨x ||| (c*2 ^ (8*n)),?_,?_⟩
   . show bits .or .u64 (Cd zs p n) _=_
     rw[hx,hc,w1,w2,Ub _ _ (by omega) (by omega)]
   . refine Nat.or_lt_two_pow (by rw[hpow];omega) (by rw[hpow];omega)
theorem Nn{zs:List Int}(hz:DC zs){n k k1:Nat}{x:Int}(hn:n<=7)(h:Cb zs n k=some (x,k1)):0<=x/\x<2 ^ (8*n):=by
 obtain⟨_,_,rfl⟩:=Jn h;obtain⟨y,hy,hlt⟩:=K6 zs hz k n hn;rw[hy];have h56:(2:Nat) ^ (8*n)<=2 ^ 56:=Nat.pow_le_pow_right (by decide) (by omega);have hcast:((2 ^ (8*n):Nat):Int)=2 ^ (8*n):=by simp
 have e:wrap64 (y:Int)=y:=by unfold wrap64;omega
 rw[e,<-hcast];omega
end Go.Proofs.YtjcamlobelcepaaGreatDoor
