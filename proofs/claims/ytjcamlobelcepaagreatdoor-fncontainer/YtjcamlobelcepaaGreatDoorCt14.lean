import Derived.Test.YtjcamlobelcepaaGreatDoorCt13
namespace Go.Proofs.YtjcamlobelcepaaGreatDoor
open Go.ChangeShapes Go.WideShapes Go.ChangeAt Go.RowKit
set_option linter.unusedVariables false
set_option maxHeartbeats 4000000
set_option maxRecDepth 100000
theorem My{L:List Nat}{n b:Nat}{m:MB}(hs:L.Pairwise (· < ·))(hl:∀x∈L,x<n)(h:(build L n)[b]?=some m):∃a e:Nat,m.first=(a:Int)/\m.last=(e:Int)/\a<=e/\e<n:=by
 unfold build at h;rw[dQ]at h;cases h1:L[b]? with
 |none=>rw[h1]at h;simp at h
 | some a=>
   cases h2:(L.tail++[n])[b]? with
   |none=>rw[h1,h2]at h;simp at h
   | some q=>
     rw[h1,h2]at h;simp only[aM]at h;subst h;have ha:=hl a (aF h1)
     have hq:a<q/\q<=n:=by
      by_cases hb:b<L.tail.length
      . rw[bS hb]at h2
        have hq:=dn (aF h2);refine⟨?_,dY (hl q hq)⟩;have h3:L[b+1]?=some q:=by rw[<-h2];cases L<;>simp
        obtain⟨i1,e1⟩:=aE.1 h1;obtain⟨i2,e2⟩:=aE.1 h3;rw[<-e1,<-e2];exact(dS.1 hs) b (b+1) i1 i2 (by omega)
      . rw[bH (by omega)]at h2
        have:=aF h2;simp only[bG,bY,cZ]at this;subst this;exact⟨ha,Nat.le_refl _⟩
     exact⟨a,q-1,rfl,by simp only[];omega,by omega,by omega⟩
theorem Ja{xs:List MI}{b:Nat}{m:MB}(h:(AE xs)[b]?=some m):∃a e:Nat,m.first=(a:Int)/\m.last=(e:Int)/\a<=e/\e<xs.length:=by
 unfold AE at h;rw[bQ]at h;obtain⟨m0,h1,rfl⟩:=bz.1 h;rw[Df]at h1;obtain⟨a,e,q1,q2,q3,q4⟩:=My (FH _ _) (fun x hx=>((Dy _ _ _).1 hx).1) h1;exact⟨a,e,q1,q2,q3,q4⟩
structure Uv(xs:List MI)(r:IL):Prop where
 len:xs.length<=1024
 nb:r.blocks.length<=1024
 two:∀m∈r.blocks,m.next.length<=2
 nl:r.loops.length<=1024
 blk:∀(i:Nat) (m:MB),r.blocks[i]?=some m->∃a e:Nat,m.first=(a:Int)/\m.last=(e:Int)/\a<=e/\e<xs.length
 loop:∀l∈r.loops,(∃h:Nat,l.head=(h:Int)/\h<r.blocks.length)/\(∀z∈l.blocks,∃b:Nat,z=(b:Int)/\b<r.blocks.length)/\l.blocks.length<=1024/\l.back.length<=2048
theorem MO{α β:Type}(f:α->List β)(l:List α)(h:∀a∈l,(f a).length<=2):(l.flatMap f).length<=2*l.length:=by
 induction l with
 |nil=>simp
 | cons a l ih=>
   have h1:=h a (by simp);have h2:=ih fun b hb=>h b (by simp[hb])
   rw[am,aH,bL];omega
theorem Pp{E:Nat->List Nat}{D:Nat->Nat->Bool}(h:∀b,(E b).length<=2)(n y:Nat):(Bg E D n y).length<=2*n:=by
 have h1:=MO (fun p=>((E p).filter fun x=>decide (x=y)&&D y p).map fun _=>p) (List.range n) (fun p _=>by
  rw[bB];exact aR (cT _ _) (h p))
 rw[br]at h1;exact h1
theorem Ko{α β:Type}(f:α->Option β)(l:List α):(l.filterMap f).length<=l.length:=List.length_filterMap_le f l
theorem Of{E:Nat->List Nat}{D L:Nat->Nat->Bool}{n j:Nat}(hj:j<=n){l:ML}(h:l∈Da E D L n j):(∃h:Nat,l.head=(h:Int)/\h<n)/\(∀z∈l.blocks,∃b:Nat,z=(b:Int)/\b<n)/\l.blocks.length<=n/\∃g,l.back=Ea (Bg E D n g):=by
 unfold Da at h;obtain⟨g,hg,e⟩:=List.mem_filterMap.1 h;split at e
 . cases e
 . cases e
   refine⟨⟨g,rfl,by have:=cX.1 hg;omega⟩,?_,?_,g,rfl⟩
   . intro z hz
     obtain⟨b,hb,rfl⟩:=cE.1 hz;exact⟨b,rfl,cX.1 (dW.1 hb).1⟩
   . simp only[]
     rw[CM];exact aR (cT _ _) (by simp)
theorem BO.inn{xs:List MI}{r:IL}(h:BO xs r)(h0:r.code=0):Uv xs r:=by
 cases h with
 |none _=>cases h0
 |off _ _ _=>cases h0
 |lost _ _ _ _ _ _ _ _=>cases h0
 |two _ _ _ _ _ _ _ _=>cases h0
 | good g x1 o1 v1 s1 d1 b1 i1 l1=>
   refine⟨g.2.1,Fm g,GO xs,?_,fun i m h=>Ja h,fun l hl=> ?_⟩
   . simp only[]
     unfold Da;exact aR (Ko _ _) (by rw[br];exact Fm g)
   . obtain⟨a1,a2,a3,y,a4⟩:=Of lR hl
     refine⟨a1,a2,aR a3 (Fm g),?_⟩;rw[a4,CM];exact aR (Pp (J4 _ (GO xs)) _ _) (by have:=Fm g;omega)
def Dt(ts:List MT)(fi h:Int):Option MT:=ts.find? fun c=>decide (c.func=fi)&&decide (c.head=h)
theorem MA{ts:List MT}{fi h:Int}(q:∀(j:Nat) (c:MT),ts[j]?=some c->¬(c.func=fi/\c.head=h)):Dt ts fi h=none:=by
 unfold Dt;rw[List.find?_eq_none];intro c hc;obtain⟨j,hj⟩:=bt hc;have:=q j c hj;simpa using this
theorem MD{ts:List MT}{fi h:Int}{i:Nat}{c:MT}(hi:ts[i]?=some c)(hc:c.func=fi/\c.head=h)(q:∀(j:Nat) (c:MT),j<i->ts[j]?=some c->¬(c.func=fi/\c.head=h)):Dt ts fi h=some c:=by
 unfold Dt;rw[List.find?_eq_some_iff_getElem];obtain⟨hlt,he⟩:=aE.1 hi;refine⟨by simp[hc],i,hlt,he,fun j hj=> ?_⟩;have:=q j _ hj (aA (by omega));by_cases h1:ts[j].func=fi
 . simp only[h1,ao]at this
   simp[this]
 . simp[h1]
def Hf(bs:List MB)(l:List Int)(a:Int):Prop:=∃z∈l,∃m,bs[z.toNat]?=some m/\m.first<=a/\a<=m.last
def NF(xs:List MI)(k a:Int):Prop:=∃x,xs[a.toNat]?=some x/\(x.op=3\/x.op=27)/\x.a=k
def Gh(xs:List MI)(m:MB):Int:=match xs[m.last.toNat]? with|some x=>if x.op=25 then m.last-1 else m.last|none=>m.last
def CG(ks:List MC)(xs:List MI)(m:MB)(c:MT):Prop:=m.first<=Gh xs m-1/\∃x y v,xs[(Gh xs m-1).toNat]?=some x/\xs[(Gh xs m).toNat]?=some y/\x.op=1/\y.op=3/\y.a=c.counter/\ks[x.a.toNat]?=some v/\v.type=3/\v.word=c.init
def KO(ks:List MC)(xs:List MI)(bs:List MB)(l:ML)(c:MT):Prop:=∃(b:Nat) (m:MB),bs[b]?=some m/\l.head∈m.next/\¬((b:Int)∈l.blocks)/\¬CG ks xs m c
def BK (p:MP)(fi:Int)(xs:List MI)(bs:List MB)(l:ML)(n:Int):Prop:=∃hb,bs[l.head.toNat]?=some hb/\
 ((Dt p.certs fi hb.first=none/\n=1)\/∃c g,Dt p.certs fi hb.first=some c/\xs[hb.first.toNat]?=some g/\
   ((¬ (g.op=27/\g.a=c.counter)/\n=2)\/((g.op=27/\g.a=c.counter)/\
     ((Hf bs l.blocks g.c/\n=3)\/(¬Hf bs l.blocks g.c/\
       (((∃a,Hf bs l.blocks a/\a≠hb.first/\NF xs c.counter a)/\n=4)\/((¬∃a,Hf bs l.blocks a/\a≠hb.first/\NF xs c.counter a)/\
         (((l.head=0\/KO p.consts xs bs l c)/\n=5)\/(¬(l.head=0\/KO p.consts xs bs l c)/\n=0)))))))))
theorem BK.one{p:MP}{fi:Int}{xs:List MI}{bs:List MB}{l:ML}{n n':Int}(h:BK p fi xs bs l n)(h':BK p fi xs bs l n'):n=n':=by
 obtain⟨hb,e1,h⟩:=h;obtain⟨hb',e1',h'⟩:=h';obtain rfl:hb=hb':=by rw[e1]at e1';exact aZ e1'
 rcases h with⟨q,rfl⟩|⟨c,g,q,e2,h⟩<;>rcases h' with⟨q',rfl⟩|⟨c',g',q',e2',h'⟩
 . rfl
 . rw[q]at q';cases q'
 . rw[q]at q';cases q'
 . obtain rfl:c=c':=by rw[q]at q';exact aZ q'
   obtain rfl:g=g':=by rw[e2]at e2';exact aZ e2'
   rcases h with⟨a,rfl⟩|⟨a,h⟩<;>rcases h' with⟨a',rfl⟩|⟨a',h'⟩
   . rfl
   . exact absurd a' a
   . exact absurd a a'
   . rcases h with⟨a,rfl⟩|⟨a,h⟩<;>rcases h' with⟨a',rfl⟩|⟨a',h'⟩
     . rfl
     . exact absurd a a'
     . exact absurd a' a
     . rcases h with⟨a,rfl⟩|⟨a,h⟩<;>rcases h' with⟨a',rfl⟩|⟨a',h'⟩
       . rfl
       . exact absurd a a'
       . exact absurd a' a
       . rcases h with⟨a,rfl⟩|⟨a,rfl⟩<;>rcases h' with⟨a',rfl⟩|⟨a',rfl⟩
         . rfl
         . exact absurd a a'
         . exact absurd a' a
         . rfl
theorem Gm(B I L:Nat)(a:Option Addr)(c:Nat)(zs:List Int)(n k:Nat)(w:World)(hn:n<=65535)(h:Hh w B I L a c zs k):
 Calls Tryz.prog 113 #[iZ (n:Int),.func (Fn.func 114) #[.pointer (some ⟨I,0,none⟩)] #[]] w (Pj (Bu (Cb zs 1) n) (fun w' ys V=>(A8 V ys).own w' w.heap.size) w B I L a c zs k):=by
 obtain⟨i0,hi,hz0,hz1,hz2⟩:=bJ CF;have H0:=Af ((Br.start h).nil 2 1);clear h;go_enter Tryz.func113,Tryz.ntmps113;go_wp2
 go_loopw [5,7] (fun o i wr=>∃(j:Nat) (ys:List Int) (kk:Nat) (b:Option Addr) (d:Nat),o=.slice b ys.length d/\i=iZ (j:Int)/\j<=n/\Hid (ys.length=j/\Bu (Cb zs 1) j k=some (ys,kk)/\Br w wr [A8 (.slice b ys.length d) ys] B I L a c zs kk)) (fun _ i _=>n-(intOf i).toNat)
 case atStart=>
  exact⟨0,[],k,none,0,rfl,rfl,by omega,rfl,rfl,H0.o⟩
 case round=>
  clear H0;obtain⟨j,ys,kk,b,d,rfl,rfl,hj,HM⟩:=hrel;have HL:=Af HM.o.1;have hlb:ys.length<=65535:=by rw[HL.o];omega
  by_cases hlt:j<n
  . have hlt':(j:Int)<(n:Int):=by omega
    go_wp2_with fail
    refine(FP B I L a c zs kk wr HM.o.2.2.got.at_).mono ?_;rintro e u1 (⟨x,V,k1,rfl,hr,rfl,hg⟩|⟨rfl,hnn,hc⟩);rotate_left
    . unfold Ba
      go_wp2
      exact⟨rfl,.inr ⟨rfl,CO (DS HM.o.2.1 hnn) (by omega),HM.o.2.2.got.chg.onD hc⟩⟩
    have H2:Hid (Br w (u1.alloc (.cells #[iZ x] 2)) [A8 (.slice b ys.length d) ys] B I L a c zs k1):=(HM.o.2.2.read hg).keep (Aa _ _);have RM:=Af (DR HM.o.2.1 hr);have O2:Hid ((u1.alloc (.cells #[iZ x] 2)).ownsRow w.heap.size 2 1 (.slice b ys.length d) ys.length (ys.flatMap Ac)):=H2.o.sep.own (A8 (.slice b ys.length d) ys) (by simp);have hs2:=H2.o.size;clear hr hg HM;go_wp2_with (at_builtin;refine wpList_append_own_at _ rfl _ _ 47 rfl w.heap.size 2 i0 (iZ 0) 1 8 Tryz.underlying47 hi hz0 hz1 hz2 rfl (by decide) _ _ _ rfl O2.o ⟨u1.heap.size,0,none⟩ 1 1 [iZ x] rfl rfl (GH u1 [iZ x] 2) (by intro u hu;simp at hu;subst hu;rfl) (by unfold maxLen;omega) (by omega) hs2 ?_;intro V' u5 ho hgr _ hat;obtain⟨b',d',e5⟩:=A9 ho;subst e5;have H5:Hid (Br w u5 [A8 (.slice b' (ys.length+1) d') (ys++[x])] B I L a c zs k1):=Br.app (A:=[]) H2.o (A8 (.slice b' (ys.length+1) d') (ys++[x])) (by simpa[As.own,A8,Ac]using ho) hgr hat;clear ho hgr hat H2 O2);go_roundw
    case rel=>
     have el:(ys++[x]).length=ys.length+1:=by simp
     refine⟨j+1,ys++[x],k1,b',d',by rw[el],by go_num,by omega,by rw[el,HL.o],RM.o,?_⟩;rw[el];exact H5.o
    case measure=>simp[intOf];omega
  . have hjn:n=j:=by omega
    have hge:¬(j:Int)<(n:Int):=by omega
    go_wp2
    go_ret
    exact .inl ⟨ys,_,kk,rfl,HM.o.2.1,HM.o.2.2.sep.own (A8 (.slice b ys.length d) ys) (by simp),HM.o.2.2.got⟩
theorem Kw(B I L:Nat)(a:Option Addr)(c:Nat)(zs:List Int)(n k:Nat)(w:World)(hn:n<=65535)(h:Hh w B I L a c zs k):
 Calls Tryz.prog 115 #[iZ (n:Int),.func (Fn.func 116) #[.pointer (some ⟨I,0,none⟩)] #[]] w (Pj (Bu (EV zs) n) (fun w' ys V=>(Ca V ys).own w' w.heap.size) w B I L a c zs k):=by
 obtain⟨i0,hi,hz0,hz1,hz2⟩:=bJ QJ;have H0:=Af ((Br.start h).nil 97 4);clear h;go_enter Tryz.func115,Tryz.ntmps115;go_wp2
 go_loopw [5,7] (fun o i wr=>∃(j:Nat) (ys:List MI) (kk:Nat) (b:Option Addr) (d:Nat),o=.slice b ys.length d/\i=iZ (j:Int)/\j<=n/\Hid (ys.length=j/\Bu (EV zs) j k=some (ys,kk)/\Br w wr [Ca (.slice b ys.length d) ys] B I L a c zs kk)) (fun _ i _=>n-(intOf i).toNat)
 case atStart=>
  exact⟨0,[],k,none,0,rfl,rfl,by omega,rfl,rfl,H0.o⟩
 case round=>
  clear H0;obtain⟨j,ys,kk,b,d,rfl,rfl,hj,HM⟩:=hrel;have HL:=Af HM.o.1;have hlb:ys.length<=65535:=by rw[HL.o];omega
  by_cases hlt:j<n
  . have hlt':(j:Int)<(n:Int):=by omega
    go_wp2_with fail
    refine(Jh B I L a c zs kk wr HM.o.2.2.got.at_).mono ?_;rintro e u1 (⟨x,V,k1,rfl,hr,rfl,hg⟩|⟨rfl,hnn,hc⟩);rotate_left
    . unfold Ba
      go_wp2
      exact⟨rfl,.inr ⟨rfl,CO (DS HM.o.2.1 hnn) (by omega),HM.o.2.2.got.chg.onD hc⟩⟩
    have H2:Hid (Br w (u1.alloc (.cells #[iZ x.op,iZ x.a,iZ x.b,iZ x.c] 97)) [Ca (.slice b ys.length d) ys] B I L a c zs k1):=(HM.o.2.2.read hg).keep (Aa _ _);have RM:=Af (DR HM.o.2.1 hr);have O2:Hid ((u1.alloc (.cells #[iZ x.op,iZ x.a,iZ x.b,iZ x.c] 97)).ownsRow w.heap.size 97 4 (.slice b ys.length d) ys.length (ys.flatMap MI.cells)):=H2.o.sep.own (Ca (.slice b ys.length d) ys) (by simp);have hs2:=H2.o.size;clear hr hg HM;go_wp2_with (at_builtin;refine wpList_append_own_at _ rfl _ _ 56 rfl w.heap.size 97 i0 (.agg #[iZ 0,iZ 0,iZ 0,iZ 0]) 4 32 Tryz.underlying56 hi hz0 hz1 hz2 rfl (by decide) _ _ _ rfl O2.o ⟨u1.heap.size,0,none⟩ 1 1 [iZ x.op,iZ x.a,iZ x.b,iZ x.c] rfl rfl (GH u1 [iZ x.op,iZ x.a,iZ x.b,iZ x.c] 97) (by intro u hu;simp at hu;rcases hu with rfl|rfl|rfl|rfl<;>rfl) (by unfold maxLen;omega) (by omega) hs2 ?_;intro V' u5 ho hgr _ hat;obtain⟨b',d',e5⟩:=A9 ho;subst e5;have H5:Hid (Br w u5 [Ca (.slice b' (ys.length+1) d') (ys++[x])] B I L a c zs k1):=Br.app (A:=[]) H2.o (Ca (.slice b' (ys.length+1) d') (ys++[x])) (by simpa[As.own,Ca,MI.cells]using ho) hgr hat;clear ho hgr hat H2 O2);go_roundw
    case rel=>
     have el:(ys++[x]).length=ys.length+1:=by simp
     refine⟨j+1,ys++[x],k1,b',d',by rw[el],by go_num,by omega,by rw[el,HL.o],RM.o,?_⟩;rw[el];exact H5.o
    case measure=>simp[intOf];omega
  . have hjn:n=j:=by omega
    have hge:¬(j:Int)<(n:Int):=by omega
    go_wp2
    go_ret
    exact .inl ⟨ys,_,kk,rfl,HM.o.2.1,HM.o.2.2.sep.own (Ca (.slice b ys.length d) ys) (by simp),HM.o.2.2.got⟩
theorem Kv(B I L:Nat)(a:Option Addr)(c:Nat)(zs:List Int)(n k:Nat)(w:World)(hn:n<=65535)(h:Hh w B I L a c zs k):
 Calls Tryz.prog 76 #[iZ (n:Int),.func (Fn.func 77) #[.pointer (some ⟨I,0,none⟩)] #[]] w (Pj (Bu (D9 zs) n) (fun w' ys V=>(DY V ys).own w' w.heap.size) w B I L a c zs k):=by
 obtain⟨i0,hi,hz0,hz1,hz2⟩:=bJ QI;have H0:=Af ((Br.start h).nil 53 2);clear h;go_enter Tryz.func76,Tryz.ntmps76;go_wp2
 go_loopw [5,7] (fun o i wr=>∃(j:Nat) (ys:List MC) (kk:Nat) (b:Option Addr) (d:Nat),o=.slice b ys.length d/\i=iZ (j:Int)/\j<=n/\Hid (ys.length=j/\Bu (D9 zs) j k=some (ys,kk)/\Br w wr [DY (.slice b ys.length d) ys] B I L a c zs kk)) (fun _ i _=>n-(intOf i).toNat)
 case atStart=>
  exact⟨0,[],k,none,0,rfl,rfl,by omega,rfl,rfl,H0.o⟩
 case round=>
  clear H0;obtain⟨j,ys,kk,b,d,rfl,rfl,hj,HM⟩:=hrel;have HL:=Af HM.o.1;have hlb:ys.length<=65535:=by rw[HL.o];omega
  by_cases hlt:j<n
  . have hlt':(j:Int)<(n:Int):=by omega
    go_wp2_with fail
    refine(LA B I L a c zs kk wr HM.o.2.2.got.at_).mono ?_;rintro e u1 (⟨x,V,k1,rfl,hr,rfl,hg⟩|⟨rfl,hnn,hc⟩);rotate_left
    . unfold Ba
      go_wp2
      exact⟨rfl,.inr ⟨rfl,CO (DS HM.o.2.1 hnn) (by omega),HM.o.2.2.got.chg.onD hc⟩⟩
    have H2:Hid (Br w (u1.alloc (.cells #[iZ x.type,.int .u32 x.word] 53)) [DY (.slice b ys.length d) ys] B I L a c zs k1):=(HM.o.2.2.read hg).keep (Aa _ _);have RM:=Af (DR HM.o.2.1 hr);have O2:Hid ((u1.alloc (.cells #[iZ x.type,.int .u32 x.word] 53)).ownsRow w.heap.size 53 2 (.slice b ys.length d) ys.length (ys.flatMap MC.cells)):=H2.o.sep.own (DY (.slice b ys.length d) ys) (by simp);have hs2:=H2.o.size;clear hr hg HM;go_wp2_with (at_builtin;refine wpList_append_own_at _ rfl _ _ 24 rfl w.heap.size 53 i0 (.agg #[iZ 0,.int .u32 0]) 2 16 Tryz.underlying24 hi hz0 hz1 hz2 rfl (by decide) _ _ _ rfl O2.o ⟨u1.heap.size,0,none⟩ 1 1 [iZ x.type,.int .u32 x.word] rfl rfl (GH u1 [iZ x.type,.int .u32 x.word] 53) (by intro u hu;simp at hu;rcases hu with rfl|rfl<;>rfl) (by unfold maxLen;omega) (by omega) hs2 ?_;intro V' u5 ho hgr _ hat;obtain⟨b',d',e5⟩:=A9 ho;subst e5;have H5:Hid (Br w u5 [DY (.slice b' (ys.length+1) d') (ys++[x])] B I L a c zs k1):=Br.app (A:=[]) H2.o (DY (.slice b' (ys.length+1) d') (ys++[x])) (by simpa[As.own,DY,MC.cells]using ho) hgr hat;clear ho hgr hat H2 O2);go_roundw
    case rel=>
     have el:(ys++[x]).length=ys.length+1:=by simp
     refine⟨j+1,ys++[x],k1,b',d',by rw[el],by go_num,by omega,by rw[el,HL.o],RM.o,?_⟩;rw[el];exact H5.o
    case measure=>simp[intOf];omega
  . have hjn:n=j:=by omega
    have hge:¬(j:Int)<(n:Int):=by omega
    go_wp2
    go_ret
    exact .inl ⟨ys,_,kk,rfl,HM.o.2.1,HM.o.2.2.sep.own (DY (.slice b ys.length d) ys) (by simp),HM.o.2.2.got⟩
theorem LL(B I L:Nat)(a:Option Addr)(c:Nat)(zs:List Int)(n k:Nat)(w:World)(hn:n<=65535)(h:Hh w B I L a c zs k):
 Calls Tryz.prog 80 #[iZ (n:Int),.func (Fn.func 81) #[.pointer (some ⟨I,0,none⟩)] #[]] w (Pj (Bu (G9 zs) n) (fun w' ys V=>(CZ V ys).own w' w.heap.size) w B I L a c zs k):=by
 obtain⟨i0,hi,hz0,hz1,hz2⟩:=bJ QL;have H0:=Af ((Br.start h).nil 62 4);clear h;go_enter Tryz.func80,Tryz.ntmps80;go_wp2
 go_loopw [5,7] (fun o i wr=>∃(j:Nat) (ys:List MT) (kk:Nat) (b:Option Addr) (d:Nat),o=.slice b ys.length d/\i=iZ (j:Int)/\j<=n/\Hid (ys.length=j/\Bu (G9 zs) j k=some (ys,kk)/\Br w wr [CZ (.slice b ys.length d) ys] B I L a c zs kk)) (fun _ i _=>n-(intOf i).toNat)
 case atStart=>
  exact⟨0,[],k,none,0,rfl,rfl,by omega,rfl,rfl,H0.o⟩
 case round=>
  clear H0;obtain⟨j,ys,kk,b,d,rfl,rfl,hj,HM⟩:=hrel;have HL:=Af HM.o.1;have hlb:ys.length<=65535:=by rw[HL.o];omega
  by_cases hlt:j<n
  . have hlt':(j:Int)<(n:Int):=by omega
    go_wp2_with fail
    refine(Qu B I L a c zs kk wr HM.o.2.2.got.at_).mono ?_;rintro e u1 (⟨x,V,k1,rfl,hr,rfl,hg⟩|⟨rfl,hnn,hc⟩);rotate_left
    . unfold Ba
      go_wp2
      exact⟨rfl,.inr ⟨rfl,CO (DS HM.o.2.1 hnn) (by omega),HM.o.2.2.got.chg.onD hc⟩⟩
    have H2:Hid (Br w (u1.alloc (.cells #[iZ x.func,iZ x.head,iZ x.counter,.int .u32 x.init] 62)) [CZ (.slice b ys.length d) ys] B I L a c zs k1):=(HM.o.2.2.read hg).keep (Aa _ _);have RM:=Af (DR HM.o.2.1 hr);have O2:Hid ((u1.alloc (.cells #[iZ x.func,iZ x.head,iZ x.counter,.int .u32 x.init] 62)).ownsRow w.heap.size 62 4 (.slice b ys.length d) ys.length (ys.flatMap MT.cells)):=H2.o.sep.own (CZ (.slice b ys.length d) ys) (by simp);have hs2:=H2.o.size;clear hr hg HM;go_wp2_with (at_builtin;refine wpList_append_own_at _ rfl _ _ 26 rfl w.heap.size 62 i0 (.agg #[iZ 0,iZ 0,iZ 0,.int .u32 0]) 4 32 Tryz.underlying26 hi hz0 hz1 hz2 rfl (by decide) _ _ _ rfl O2.o ⟨u1.heap.size,0,none⟩ 1 1 [iZ x.func,iZ x.head,iZ x.counter,.int .u32 x.init] rfl rfl (GH u1 [iZ x.func,iZ x.head,iZ x.counter,.int .u32 x.init] 62) (by intro u hu;simp at hu;rcases hu with rfl|rfl|rfl|rfl<;>rfl) (by unfold maxLen;omega) (by omega) hs2 ?_;intro V' u5 ho hgr _ hat;obtain⟨b',d',e5⟩:=A9 ho;subst e5;have H5:Hid (Br w u5 [CZ (.slice b' (ys.length+1) d') (ys++[x])] B I L a c zs k1):=Br.app (A:=[]) H2.o (CZ (.slice b' (ys.length+1) d') (ys++[x])) (by simpa[As.own,CZ,MT.cells]using ho) hgr hat;clear ho hgr hat H2 O2)
    go_roundw
    case rel=>
     have el:(ys++[x]).length=ys.length+1:=by simp
     refine⟨j+1,ys++[x],k1,b',d',by rw[el],by go_num,by omega,by rw[el,HL.o],RM.o,?_⟩;rw[el];exact H5.o
    case measure=>simp[intOf];omega
  . have hjn:n=j:=by omega
    have hge:¬(j:Int)<(n:Int):=by omega
    go_wp2
    go_ret
    exact .inl ⟨ys,_,kk,rfl,HM.o.2.1,HM.o.2.2.sep.own (CZ (.slice b ys.length d) ys) (by simp),HM.o.2.2.got⟩
structure G5(E:Nat->List Nat)(ok:Nat->Prop)(f n:Nat)(L:List Nat):Prop where
 nodup:L.Nodup
 lt:∀x∈L,x<n
 reach:∀x∈L,EH E ok f x
 start:f∈L
theorem G5.len{E:Nat->List Nat}{ok:Nat->Prop}{f n:Nat}{L:List Nat}(h:G5 E ok f n L):L.length<=n:=by
 have:=JZ L n h.lt h.nodup;omega
theorem G5.add{E:Nat->List Nat}{ok:Nat->Prop}{f n:Nat}{L:List Nat}(h:G5 E ok f n L){b y:Nat}(hb:b∈L)(hy:y∈E b)(ho:ok y)(hn:y<n)(hL:y∉L):G5 E ok f n (L++[y]):=by
 refine⟨dk.2 ⟨h.nodup,by simp,fun a ha c hc e=> ?_⟩,fun x hx=> ?_,fun x hx=> ?_,ah.2 (.inl h.start)⟩
 . simp only[bG,bY,cZ]at hc
   subst hc e;exact hL ha
 . rcases ah.1 hx with hx|hx
   . exact h.lt x hx
   . simp only[bG,bY,cZ]at hx
     subst hx;exact hn
 . rcases ah.1 hx with hx|hx
   . exact h.reach x hx
   . simp only[bG,bY,cZ]at hx
     subst hx;exact .step (h.reach b hb) hy ho
def Dm(E:Nat->List Nat)(ok:Nat->Prop)(L:List Nat)(i:Nat):Prop:=∀j x,L[j]?=some x->j<i->∀y∈E x,ok y->y∈L
def Gy(E:Nat->List Nat)(ok:Nat->Prop)(L:List Nat)(b k:Nat):Prop:=∀y∈(E b).take k,ok y->y∈L
theorem Dm.app{E:Nat->List Nat}{ok:Nat->Prop}{L:List Nat}{i:Nat}(h:Dm E ok L i)(hi:i<=L.length)(y:Nat):Dm E ok (L++[y]) i:=fun j x hj hl z hz ho=>by
 rw[bS (by omega)]at hj;exact ah.2 (.inl (h j x hj hl z hz ho))
theorem Gy.next{E:Nat->List Nat}{ok:Nat->Prop}{L L':List Nat}{b k y:Nat}(h:Gy E ok L b k)(hs:∀x∈L,x∈L')(hy:(E b)[k]?=some y)(hL:ok y->y∈L'):Gy E ok L' b (k+1):=fun z hz ho=>by
 obtain⟨hlt,rfl⟩:=aE.1 hy;rw[aj hlt]at hz;rcases ah.1 hz with hz|hz
 . exact hs z (h z hz ho)
 . simp only[bG,bY,cZ]at hz
   subst hz;exact hL ho
theorem Dm.next{E:Nat->List Nat}{ok:Nat->Prop}{L:List Nat}{i b:Nat}(h:Dm E ok L i)(hb:L[i]?=some b)(ht:Gy E ok L b (E b).length):Dm E ok L (i+1):=fun j x hj hl y hy ho=>by
 by_cases e:j=i
 . subst e
   rw[hb]at hj;cases hj
   exact ht y (by rw[bg lR];exact hy) ho
 . exact h j x hj (by omega) y hy ho
theorem G5.iff{E:Nat->List Nat}{ok:Nat->Prop}{f n:Nat}{L:List Nat}(h:G5 E ok f n L)(hc:Dm E ok L L.length)(x:Nat):x∈L↔EH E ok f x:=by
 refine⟨h.reach x,fun hr=> ?_⟩;induction hr with
 |here _=>exact h.start
 | step _ h2 h3 ih=>
   obtain⟨j,hj⟩:=bt ih;exact hc j _ hj (aE.1 hj).1 _ h2 h3
structure SN(w u:World)(n gs:Nat)(V:Value)(P:Nat->Bool)(L:List Nat):Prop where
 seen:Fs u w.heap.size gs n P
 list:Jc u w.heap.size V L
 bel:Below w.heap.size w u
theorem SN.mark{w u:World}{n gs:Nat}{V:Value}{P Q:Nat->Bool}{L:List Nat}(h:SN w u n gs V P L)(i:Nat)(b:Bool)(hQ:∀j,j<n->Q j=if j=i then b else P j):SN w (u.setCell ⟨gs,i,none⟩ (.bool b)) n gs V Q L:=⟨h.seen.set i b hQ,Cc h.list h.seen (by decide) i _,h.bel.setCell (AF h.seen).1 _⟩
theorem SN.al{w u:World}{n gs:Nat}{V:Value}{P:Nat->Bool}{L:List Nat}(h:SN w u n gs V P L)(o:Obj):(u.alloc o).ownsRow w.heap.size 2 1 V L.length (nv L)/\w.heap.size<=(u.alloc o).heap.size:=⟨h.list.keep (Aa _ _),aR h.bel.size (Aa _ _).size⟩
theorem SN.app{w u u':World}{n gs:Nat}{V V':Value}{P:Nat->Bool}{L:List Nat}{y:Nat}(h:SN w u n gs V P L)(hown:u'.ownsRow w.heap.size 2 1 V' (L.length+1) (nv L++[iZ (y:Int)]))(hg:(u.alloc (.cells #[iZ (y:Int)] 2)).grownBy u' V.ownBlock):SN w u' n gs V' P (L++[y]):=by
 have bA:=Aa u (.cells #[iZ (y:Int)] 2);have o1:=h.list.keep bA;refine⟨Cs (h.seen.keep bA) hg o1 (by decide),?_,(Ab h.bel lR bA).grown hg (aR h.bel.size bA.size) (fun i hi=>(h.list.lt i hi).1)⟩;unfold Jc;rw[aH,aP,IE];exact hown
theorem SN.keep{w u u':World}{n gs:Nat}{V:Value}{P:Nat->Bool}{L:List Nat}(h:SN w u n gs V P L)(hb:Below u.heap.size u u'):SN w u' n gs V P L:=⟨h.seen.keep hb,h.list.keep hb,Ab h.bel lR hb⟩
theorem Qx(L:List Nat)(y:Nat)(n:Nat):∀j,j<n->(L++[y]).contains j=if j=y then true else L.contains j:=fun j _=>by
 by_cases e:j=y
 . subst e;simp
 . simp[e]
theorem Oa (g o c n f:Nat)(z:Int)(E:Nat->List Nat)(w:World)(hn:n<=1048576)(hE:∀b,b<n->∀x∈E b,x<n)(hsz:∀b,(E b).length<=2)(hf:f<n)(h:Iu w g o n E):
 Calls Tryz.prog 145 #[sO g o n c,iZ (f:Int),iZ z] w fun e w'=>∃gs P,e=.returned (sG gs n n)/\Fs w' w.heap.size gs n P/\(∀x,x<n->(P x=true↔EH E (fun y=>(y:Int)≠z) f x))/\Below w.heap.size w w':=by
 obtain⟨j0,hj,hy0,hy1,hy2⟩:=bJ Dv;obtain⟨k0,hk,hx0,hx1,hx2⟩:=bJ CF;have H:Hid (Iu w g o n E/\(∀b,b<n->∀x∈E b,x<n)/\(∀b,(E b).length<=2)):=⟨h,hE,hsz⟩
 clear h hE hsz;go_enter Tryz.func145,Tryz.ntmps145;by_cases q:(f:Int)=z
 . subst q
   go_wp2_with (at_make;refine bu _ rfl _ _ 159 rfl w.heap.size 4 j0 (.bool false) 1 Tryz.underlying159 hj hy0 hy1 .i64 .i64 _ _ n rfl rfl rfl rfl (by rw[hy2];omega) (by unfold maxLen;omega) lR ?_;intro w3 hown hgrow;rw[Dj,GD]at hown)
   go_ret
   refine⟨_,_,rfl,hown,fun x hx=>⟨fun q=>by simp at q,fun q=>absurd rfl q.ok0⟩,(aq _ _).grown hgrow lR (fun k hk=>by cases hk)⟩
 . have q' : ((f:Int)==z)=false:=by simpa using q
   have hfz:(f:Int)<(n:Int):=by omega
   go_wp2_with (at_make;refine bu _ rfl _ _ 159 rfl w.heap.size 4 j0 (.bool false) 1 Tryz.underlying159 hj hy0 hy1 .i64 .i64 _ _ n rfl rfl rfl rfl (by rw[hy2];omega) (by unfold maxLen;omega) lR ?_;intro w3 hown hgrow;rw[Dj,GD]at hown;have z0:=dM hown f;have d0:w3.cell? ⟨w.heap.size,f,none⟩=some (.bool false):=Fs.cell hown (by omega))
   have HS:Hid (SN w ((w3.setCell ⟨w.heap.size,f,none⟩ (.bool true)).alloc (.cells #[iZ (f:Int)] 2)) n w.heap.size (sG w3.heap.size 1 1) (fun x=>[f].contains x) [f]):=by
    have hb3:Below w.heap.size w w3:=(aq _ _).grown hgrow lR (fun k hk=>by cases hk)
    have k1:Fs (w3.setCell ⟨w.heap.size,f,none⟩ (.bool true)) w.heap.size w.heap.size n (fun x=>[f].contains x):=Fs.set (P:=fun _=>false) hown f true fun j hj=>by
     by_cases e:j=f
     . subst e;simp
     . simp[e]
    have b1:Below w.heap.size w (w3.setCell ⟨w.heap.size,f,none⟩ (.bool true)):=hb3.setCell lR _;have hz4:(w3.setCell ⟨w.heap.size,f,none⟩ (.bool true)).heap.size=w3.heap.size:=bf ..;rw[<-hz4];generalize w3.setCell ⟨w.heap.size,f,none⟩ (.bool true)=W4 at k1 b1⊢;exact⟨k1.keep (Aa _ _),CA (cF W4 #[iZ (f:Int)] 1 lR (by unfold maxLen;omega) (by simp)) b1.size,Ab b1 lR (Aa _ _)⟩
   clear hown hgrow z0 d0;have HB0:Hid (G5 E (fun y=>(y:Int)≠z) f n [f]):=⟨by simp,fun x hx=>by simp at hx;omega,fun x hx=>by simp at hx;subst hx;exact .here q,by simp⟩;go_loopw [8,9] (fun V i wr=>∃(L:List Nat) (k gl cl:Nat),V=sG gl L.length cl/\i=iZ k/\k<=L.length/\L.length<=n/\Hid (SN w wr n w.heap.size V (fun x=>L.contains x) L/\G5 E (fun y=>(y:Int)≠z) f n L/\Dm E (fun y=>(y:Int)≠z) L k)) (fun _ i _=>n-(intOf i).toNat)
   case atStart=>exact⟨[f],0,_,_,rfl,rfl,by simp,HB0.o.len,HS.o,HB0.o,fun j x hj hl=>by omega⟩
   case round=>
    clear HS HB0;obtain⟨L,k,gl,cl,rfl,rfl,hkL,hLn,HL⟩:=hrel;by_cases hlt:k<L.length
    . have hltI:(k:Int)<(L.length:Int):=by omega
      obtain⟨b,hb⟩:∃b,L[k]?=some b:=⟨_,aA hlt⟩;have hbn:b<n:=HL.o.2.1.lt b (aF hb);have hbnI:(b:Int)<(n:Int):=by omega
      have HBB:=Af hb;obtain⟨_,_,ee,_,l0⟩:=HL.o.1.list.rd.at_ hb;simp only[aM,cN,cj]at ee;obtain⟨rfl,rfl⟩:=ee;rw[bV]at l0;obtain⟨a,ca,g0,g1⟩:=H.o.1 b hbn;have HR:=Af g1;replace g0:=Ad HL.o.1.bel g0
      have hE2:=H.o.2.2 b;clear g1 hb;go_wp2
      go_loopw [8,11] (fun V i wr=>∃(L:List Nat) (m gl cl:Nat),V=sG gl L.length cl/\i=iZ m/\m<=(E b).length/\k<L.length/\L.length<=n/\Hid (SN w wr n w.heap.size V (fun x=>L.contains x) L/\G5 E (fun y=>(y:Int)≠z) f n L/\Dm E (fun y=>(y:Int)≠z) L k/\L[k]?=some b/\Gy E (fun y=>(y:Int)≠z) L b m)) (fun _ i _=>2-(intOf i).toNat)
      case atStart=>exact⟨L,0,gl,cl,rfl,rfl,by omega,hlt,hLn,HL.o.1,HL.o.2.1,HL.o.2.2,HBB.o,fun y hy=>by simp at hy⟩
      case round=>
       clear l0 g0 HL HBB hlt hltI hkL hLn;obtain⟨L,m,gl,cl,rfl,rfl,hm,hkl,hLn,HL⟩:=hrel;by_cases hlt:m<(E b).length
       . have hltI:(m:Int)<((E b).length:Int):=by omega
         obtain⟨y,hy⟩:∃y,(E b)[m]?=some y:=⟨_,aA hlt⟩;have hyn:y<n:=H.o.2.1 b hbn y (aF hy);have hynI:(y:Int)<(n:Int):=by omega
         have HY:=Af hy;obtain⟨ga,oa,rfl,_,y0⟩:=HR.o.at_ hy;have HY0:=Af y0;replace y0:=Ad HL.o.1.bel y0
         have s0:=HL.o.1.seen.cell hyn;clear hy;by_cases qz:(y:Int)=z
         . subst qz
           have HN:=Af (HL.o.2.2.2.2.next (fun x hx=>hx) HY.o (fun q=>absurd rfl q));go_wp2
           go_roundw
           case rel=>exact⟨L,m+1,gl,cl,rfl,by go_num,by omega,hkl,hLn,HL.o.1,HL.o.2.1,HL.o.2.2.1,HL.o.2.2.2.1,HN.o⟩
           case measure=>simp[intOf];omega
         . have qz':((y:Int)==z)=false:=by simpa using qz
           have qz2:((y:Int) != z)=true:=by simpa using qz
           cases hc:L.contains y
           . simp only[hc]at s0
             have z0:=HL.o.1.seen.frozen y;have hyL:y∉L:=by simpa using hc
             have HSM:=Af (HL.o.1.mark y true (Qx L y n));have HBN:=Af (HL.o.2.1.add (aF HL.o.2.2.2.1) (aF HY.o) qz hyn hyL);have hLn2:=HBN.o.len;rw[aH,aP]at hLn2;have HN:Hid (Gy E (fun x=>(x:Int)≠z) (L++[y]) b (m+1)):=HL.o.2.2.2.2.next (fun x hx=>ah.2 (.inl hx)) HY.o (fun _=>by simp);go_upto_region 15 with fail
             refine An (fun u=>Hid (SN w u n w.heap.size (sG gl L.length cl) (fun x=>(L++[y]).contains x) L)) HSM ?_;intro U HU;clear HSM s0 z0 y0;have y1:=Ad HU.o.bel HY0.o;go_wp2_with (at_builtin;refine wpList_append_lies _ rfl _ _ 47 rfl w.heap.size 2 k0 (iZ 0) 1 8 Tryz.underlying47 hk hx0 hx1 hx2 rfl (by decide) _ L.length (nv L) rfl (HU.o.al (.cells #[iZ (y:Int)] 2)).1 ⟨U.heap.size,0,none⟩ 1 1 [iZ (y:Int)] rfl rfl (Cx U (y:Int)) (fun u hu=>by simp at hu;subst hu;rfl) (by omega) (by simp[maxLen];omega) (by omega) (HU.o.al (.cells #[iZ (y:Int)] 2)).2 _ rfl ?_;intro g5 cap5 w5 hown hgrow hat hlt3;have HU5:Hid (SN w w5 n w.heap.size (sG g5 (L.length+1) cap5) (fun x=>(L++[y]).contains x) (L++[y])):=HU.o.app hown hgrow;clear hown hgrow hat hlt3);go_roundw
             case rel=>exact⟨L++[y],m+1,g5,cap5,by rw[aH,aP],by go_num,by omega,by rw[aH];omega,by rw[aH,aP];exact hLn2,HU5.o,HBN.o,HL.o.2.2.1.app (by omega) y,by rw[bS hkl];exact HL.o.2.2.2.1,HN.o⟩
             case measure=>simp[intOf];omega
           . simp only[hc]at s0
             have HN:=Af (HL.o.2.2.2.2.next (fun x hx=>hx) HY.o (fun q=>by simpa using hc));go_wp2
             go_roundw
             case rel=>exact⟨L,m+1,gl,cl,rfl,by go_num,by omega,hkl,hLn,HL.o.1,HL.o.2.1,HL.o.2.2.1,HL.o.2.2.2.1,HN.o⟩
             case measure=>simp[intOf];omega
       . obtain rfl:m=(E b).length:=by omega
         have HN:=Af (HL.o.2.2.1.next HL.o.2.2.2.1 HL.o.2.2.2.2);go_wp2
         go_roundw
         case rel=>exact⟨L,k+1,gl,cl,rfl,by go_num,by omega,hLn,HL.o.1,HL.o.2.1,HN.o⟩
         case measure=>simp[intOf];omega
    . obtain rfl:k=L.length:=by omega
      have HE:Hid (∀x,x<n->(L.contains x=true↔EH E (fun y=>(y:Int)≠z) f x)):=fun x hx=>by
       rw[<-HL.o.2.1.iff HL.o.2.2 x];simp
      go_wp2
      go_ret
      exact⟨_,_,rfl,HL.o.1.seen,HE.o,HL.o.1.bel⟩
theorem Dx(s:Value)(xs:List Int)(v:Int)(w:World)(hn:xs.length<=1048576)(h:Rd w 1 s xs.length (xs.flatMap Ac)):
 Calls Tryz.prog 100 #[s,.int .i64 v] w fun e w'=>Am e (v∈xs)/\w'=w:=by
 have H1:=Af h;obtain⟨a1,c1,rfl⟩:=h.is_slice;clear h;generalize hLL:xs.length=n at hn H1⊢;have HL:=Af hLL;clear hLL;go_enter Tryz.func100,Tryz.ntmps100;go_wp2
 go_loopw [5] (fun i wr=>∃k:Nat,k<=n/\i=.int .i64 k/\Hid (∀j,j<k->¬xs[j]?=some v)/\wr=w) (fun i _=>n-(intOf i).toNat)
 case atStart=>exact⟨0,by omega,rfl,fun j hj=>by omega,rfl⟩
 case round=>
  obtain⟨k,hk,rfl,HT,rfl⟩:=hrel;by_cases hlt:k<n
  . obtain⟨x,hx⟩:∃x,xs[k]?=some x:=⟨_,aA (by rw[HL.o];exact hlt)⟩
    rcases H1.o.2 with⟨e0,_⟩|⟨g,o,c,e1,hc1⟩
    . omega
    simp only[aI,ao]at e1;obtain⟨rfl,rfl⟩:=e1;have i0:=Rd.elem Al hc1 k x hx 0 _ rfl;rw[bR,aT]at i0;have HX:=Af hx;clear hc1 hx;by_cases hxy:x=v
    . subst hxy
      go_wp2
      go_ret
      exact⟨.yes (aF HX.o),rfl⟩
    . go_wp2
      go_roundw
      case rel=>
       refine⟨k+1,by omega,by go_num,fun j hj=> ?_,trivial⟩;by_cases e:j=k
       . subst e
         rw[HX.o];exact fun e=>hxy (aZ e)
       . exact HT.o j (by omega)
      case measure=>simp[intOf];omega
  . have hkn:k=n:=by omega
    subst hkn;go_wp2
    go_ret
    refine⟨.no fun hm=> ?_,rfl⟩;obtain⟨j,hj⟩:=bt hm;exact HT.o j (by have:=(aE.1 hj).1;rw[HL.o]at this;exact this) hj
def SF(ts:List MT)(fi hd n:Int):Prop:=(n=-1/\Dt ts fi hd=none)\/∃(k:Nat) (c:MT),n=(k:Int)/\ts[k]?=some c/\Dt ts fi hd=some c
theorem JO(v:VP)(p:MP)(fi hd:Int)(w:World)(hs:p.small)(h:Ej w v p):
 Calls Tryz.prog 134 #[.agg #[v.r,v.k,v.f,v.t],.int .i64 fi,.int .i64 hd] w fun e w'=>(∃n,e=.returned (.int .i64 n)/\SF p.certs fi hd n)/\Below w.heap.size w w':=by
 obtain⟨vr,vk,vf,vt⟩:=v;have H1:=Af h.certs;have hn:=hs.certs;obtain⟨a1,c1,e1⟩:∃a c,vt=.slice a p.certs.length c:=h.certs.is_slice;subst e1;clear h hs;have HW:Hid (Below w.heap.size w (w.alloc (.cells #[vr,vk,vf,.slice a1 p.certs.length c1] 28))/\DE (w.alloc (.cells #[vr,vk,vf,.slice a1 p.certs.length c1] 28)) w.heap.size vr vk vf (.slice a1 p.certs.length c1)):=⟨Aa _ _,DE.new _ _ _ _ _ _⟩
 generalize hcs:p.certs.length=n at hn H1 HW⊢;have HL:=Af hcs;clear hcs;go_enter Tryz.func134,Tryz.ntmps134;go_wp2
 go_loopw [7] (fun i wr=>∃k:Nat,k<=n/\i=.int .i64 k/\Hid (∀j c,j<k->p.certs[j]?=some c->¬(c.func=fi/\c.head=hd))/\Hid (Below w.heap.size w wr/\DE wr w.heap.size vr vk vf (.slice a1 n c1))) (fun i _=>n-(intOf i).toNat)
 case atStart=>exact⟨0,by omega,rfl,fun j c hj=>by omega,HW⟩
 case round=>
  clear HW;obtain⟨k,hk,rfl,HT,HW⟩:=hrel;obtain⟨p0,p1,p2,p3⟩:=HW.o.2;by_cases hlt:k<n
  . obtain⟨x,hx⟩:∃x,p.certs[k]?=some x:=⟨_,aA (by rw[HL.o];exact hlt)⟩
    rcases H1.o.2 with⟨e0,_⟩|⟨b,o,c,e1,hc1⟩
    . omega
    simp only[aI,ao]at e1;obtain⟨rfl,rfl⟩:=e1;have i0:=Rd.elem MT.cells_length hc1 k x hx 0 _ rfl;have i1:=Rd.elem MT.cells_length hc1 k x hx 1 _ rfl;rw[<-HW.o.1.cell (aD i0),aT]at i0;rw[<-HW.o.1.cell (aD i1)]at i1;have HX:=Af hx;clear hc1 hx;by_cases q:x.func=fi/\x.head=hd
    . obtain⟨q1,q2⟩:=q
      have HC:=Af (MD HX.o ⟨q1,q2⟩ fun j c hj hc=>HT.o j c hj hc);rw[q1]at i0;rw[q2]at i1;clear q1 q2;go_wp2
      go_ret
      exact⟨⟨_,rfl,.inr ⟨k,x,rfl,HX.o,HC.o⟩⟩,HW.o.1⟩
    . have HT':Hid (∀j c,j<k+1->p.certs[j]?=some c->¬(c.func=fi/\c.head=hd)):=fun j c hj hc=>by
       by_cases e:j=k
       . subst e
         rw[HX.o]at hc;cases hc
         exact q
       . exact HT.o j c (by omega) hc
      by_cases q1:x.func=fi
      . have q2:¬x.head=hd:=fun e=>q ⟨q1,e⟩
        clear q;go_wp2
        go_roundw
        case rel=>exact⟨k+1,by omega,by go_num,HT'.o,HW.o⟩
        case measure=>simp[intOf];omega
      . clear q
        go_wp2
        go_roundw
        case rel=>exact⟨k+1,by omega,by go_num,HT'.o,HW.o⟩
        case measure=>simp[intOf];omega
  . have hkn:k=n:=by omega
    subst hkn;go_wp2
    go_ret
    exact⟨⟨_,rfl,.inl ⟨by go_num,MA fun j c hj=>HT.o j c (by have:=(aE.1 hj).1;rw[HL.o]at this;exact this) hj⟩⟩,HW.o.1⟩
theorem Ox(B I L:Nat)(a:Option Addr)(c:Nat)(zs:List Int)(k:Nat)(w:World)(h:Hh w B I L a c zs k):
 Calls Tryz.prog 75 #[.pointer (some ⟨I,0,none⟩)] w (Pj (BF zs 2) (fun w' ys V=>(A8 V ys).own w' w.heap.size) w B I L a c zs k):=by
 have H0:=Af (Br.start h);have HZ:=Af h.hz;go_enter Tryz.func75,Tryz.ntmps75;go_wp2_with fail
 refine(A6 B I L a c zs 2 k _ (by omega) (by omega) H0.o.got.at_).mono ?_;rintro e u1 (⟨x1,V,k1,rfl,hr,rfl,hg⟩|⟨rfl,hn,hc⟩);rotate_left
 . unfold Ba
   go_wp2
   exact⟨rfl,.inr ⟨rfl,Aw hn,H0.o.got.chg.onD hc⟩⟩
 have H1:=Af (H0.o.read hg);have R1:=Af hr;obtain⟨p1,p1'⟩:=Ee HZ.o (by omega) hr;obtain⟨m1,rfl⟩:=aS p1;have hm1:m1<=65535:=by omega
 go_wp2_with fail
 refine(Gm B I L a c zs m1 k1 _ (by omega) H1.o.got.at_).mono ?_;rintro e u2 (⟨ps,V2,k2,rfl,hr,ho,hg⟩|⟨rfl,hn,hc⟩);rotate_left
 . unfold Ba
   go_wp2
   exact⟨rfl,.inr ⟨rfl,(Ak R1.o hn),H1.o.got.chg.onD hc⟩⟩
 obtain⟨a2,d2,e2⟩:∃a c,V2=.slice a ps.length c:=A9 ho;subst e2;have H2:=Af (H1.o.row hg ho);have R2:=Af hr;go_wp2
 go_ret
 exact .inl ⟨ps,_,k2,rfl,Ak R1.o R2.o,H2.o.sep.own (A8 (.slice a2 ps.length d2) ps) (by simp),H2.o.got⟩
theorem LD(B I L:Nat)(a:Option Addr)(c:Nat)(zs:List Int)(k:Nat)(w:World)(h:Hh w B I L a c zs k):
 Calls Tryz.prog 79 #[.pointer (some ⟨I,0,none⟩)] w (Pj (Fi zs) (fun w' f V=>∃vf:VF,V=.agg #[vf.p,iZ f.result,vf.l,vf.c]/\CI w' w.heap.size (Co (f,vf))) w B I L a c zs k):=by
 have H0:Hid (Br w (w.alloc (.cells #[sN,iZ 0,sN,sN] 58)) [fb w.heap.size sN 0 sN sN] B I L a c zs k):=(Br.start h).box 58 4 _ rfl;have HZ:=Af h.hz;go_enter Tryz.func79,Tryz.ntmps79;go_wp2_with fail
 refine(A6 B I L a c zs 1 k _ (by omega) (by omega) H0.o.got.at_).mono ?_;rintro e u1 (⟨x1,V,k1,rfl,hr,rfl,hg⟩|⟨rfl,hn,hc⟩);rotate_left
 . unfold Ba
   go_wp2
   exact⟨rfl,.inr ⟨rfl,Aw (Aw hn),H0.o.got.chg.onD hc⟩⟩
 have H1:=Af (H0.o.read hg);have R1:=Af hr;obtain⟨p1,p1'⟩:=Ee HZ.o (by omega) hr;obtain⟨m1,rfl⟩:=aS p1;have hm1:m1<=65535:=by omega
 go_wp2_with fail
 refine(Gm B I L a c zs m1 k1 _ (by omega) H1.o.got.at_).mono ?_;rintro e u2 (⟨ps,V2,k2,rfl,hr,ho,hg⟩|⟨rfl,hn,hc⟩);rotate_left
 . unfold Ba
   go_wp2
   exact⟨rfl,.inr ⟨rfl,(Aw (Ak R1.o hn)),H1.o.got.chg.onD hc⟩⟩
 obtain⟨a2,d2,e2⟩:∃a c,V2=.slice a ps.length c:=A9 ho;subst e2;have H2:=Af (H1.o.row hg ho);have R2:=Af hr;go_wp2_with fail
 refine(FP B I L a c zs k2 _ H2.o.got.at_).mono ?_;rintro e u3 (⟨x3,V,k3,rfl,hr,rfl,hg⟩|⟨rfl,hn,hc⟩);rotate_left
 . unfold Ba
   go_wp2
   exact⟨rfl,.inr ⟨rfl,(Ak (r:=BF zs 1) (Ak R1.o R2.o) (Aw hn)),H2.o.got.chg.onD hc⟩⟩
 have H3:=Af (H2.o.read hg);have R3:=Af hr;go_wp2_with fail
 refine(A6 B I L a c zs 1 k3 _ (by omega) (by omega) H3.o.got.at_).mono ?_;rintro e u4 (⟨x4,V,k4,rfl,hr,rfl,hg⟩|⟨rfl,hn,hc⟩);rotate_left
 . unfold Ba
   go_wp2
   exact⟨rfl,.inr ⟨rfl,(Ak (r:=BF zs 1) (Ak R1.o R2.o) (Ak R3.o (Aw (Aw hn)))),H3.o.got.chg.onD hc⟩⟩
 have H4:=Af (H3.o.read hg);have R4:=Af hr;obtain⟨p4,p4'⟩:=Ee HZ.o (by omega) hr;obtain⟨m4,rfl⟩:=aS p4;have hm4:m4<=65535:=by omega
 go_wp2_with fail
 refine(Gm B I L a c zs m4 k4 _ (by omega) H4.o.got.at_).mono ?_;rintro e u5 (⟨ls,V5,k5,rfl,hr,ho,hg⟩|⟨rfl,hn,hc⟩);rotate_left
 . unfold Ba
   go_wp2
   exact⟨rfl,.inr ⟨rfl,(Ak (r:=BF zs 1) (Ak R1.o R2.o) (Ak R3.o (Aw (Ak R4.o hn)))),H4.o.got.chg.onD hc⟩⟩
 obtain⟨a5,d5,e5⟩:∃a c,V5=.slice a ls.length c:=A9 ho;subst e5;have H5:=Af (H4.o.row hg ho);have R5:=Af hr;go_wp2_with fail
 refine(A6 B I L a c zs 2 k5 _ (by omega) (by omega) H5.o.got.at_).mono ?_;rintro e u6 (⟨x6,V,k6,rfl,hr,rfl,hg⟩|⟨rfl,hn,hc⟩);rotate_left
 . unfold Ba
   go_wp2
   exact⟨rfl,.inr ⟨rfl,(Ak (r:=BF zs 1) (Ak R1.o R2.o) (Ak R3.o (Ak (r:=BF zs 1) (Ak R4.o R5.o) (Aw (Aw hn))))),H5.o.got.chg.onD hc⟩⟩
 have H6:=Af (H5.o.read hg);have R6:=Af hr;obtain⟨p6,p6'⟩:=Ee HZ.o (by omega) hr;obtain⟨m6,rfl⟩:=aS p6;have hm6:m6<=65535:=by omega
 go_wp2_with fail
 refine(Kw B I L a c zs m6 k6 _ (by omega) H6.o.got.at_).mono ?_;rintro e u7 (⟨code,V7,k7,rfl,hr,ho,hg⟩|⟨rfl,hn,hc⟩);rotate_left
 . unfold Ba
   go_wp2
   exact⟨rfl,.inr ⟨rfl,(Ak (r:=BF zs 1) (Ak R1.o R2.o) (Ak R3.o (Ak (r:=BF zs 1) (Ak R4.o R5.o) (Aw (Ak R6.o hn))))),H6.o.got.chg.onD hc⟩⟩
 obtain⟨a7,d7,e7⟩:∃a c,V7=.slice a code.length c:=A9 ho;subst e7;have H7:=Af (H6.o.row hg ho);have R7:=Af hr;obtain⟨⟨q0,q1,q2,q3⟩,f0,f1,f2,f3⟩:=H7.o.four (show fb w.heap.size sN 0 sN sN∈_ by simp);go_wp2
 have HF:=Af (H7.o.four_set (.slice a2 ps.length d2) (iZ x3) (.slice a5 ls.length d5) (.slice a7 code.length d7));generalize (((u7.setCell ⟨w.heap.size,0,none⟩ (.slice a2 ps.length d2)).setCell ⟨w.heap.size,1,none⟩ (iZ x3)).setCell ⟨w.heap.size,2,none⟩ (.slice a5 ls.length d5)).setCell ⟨w.heap.size,3,none⟩ (.slice a7 code.length d7)=WF at HF⊢;obtain⟨⟨r0,r1,r2,r3⟩,-⟩:=HF.o.four (show fb w.heap.size (.slice a2 ps.length d2) x3 (.slice a5 ls.length d5) (.slice a7 code.length d7)∈_ by simp);have HE:Hid (Fi zs k=some (⟨ps,x3,ls,code⟩,k7)):=(Ak (r:=BF zs 1) (Ak R1.o R2.o) (Ak R3.o (Ak (r:=BF zs 1) (Ak R4.o R5.o) (Ak (r:=Cu zs 2 (EV zs)) (Ak R6.o R7.o) rfl))));exact aW (v:=.agg #[.slice a2 ps.length d2,iZ x3,.slice a5 ls.length d5,.slice a7 code.length d7]) (by simp[results,Tryz.results79,go_sem,r0,r1,r2,r3]) rfl (.inl ⟨⟨ps,x3,ls,code⟩,_,k7,rfl,HE.o,⟨⟨.slice a2 ps.length d2,.slice a5 ls.length d5,.slice a7 code.length d7⟩,rfl,HF.o.sep.sub (List.sublist_cons_self _ _)⟩,HF.o.got⟩)
theorem Nw{S S':List Nat}(n:Nat)(h:∀x∈S,x∈S'):Bz S' n<=Bz S n:=by
 unfold Bz;rw[<-List.countP_eq_length_filter,<-List.countP_eq_length_filter];apply List.countP_mono_left;intro x _ hx;simp only[Bool.not_eq_true',List.contains_eq_mem,eR]at hx⊢;exact fun q=>hx (h x q)
theorem Vs.more{E:Nat->List Nat}{S O r S' O':List Nat}(h:Vs E S O r S' O'):∀x∈S,x∈S':=by
 obtain⟨N,t⟩:=h.told;exact fun x hx=>(t.seen x).2 (.inl hx)
theorem N9(g o c n gs:Nat)(E:Nat->List Nat)(w:World)(hn:n<=1048576)(hE:∀b,b<n->∀x∈E b,x<n)(hsz:∀b,(E b).length<=2)(h:Iu w g o n E):
 ∀(m:Nat) (S O:List Nat) (b:Nat) (V:Value) (u:World),Bz S n=m->b<n->b∉S->O.length+Bz S n<=n->SN w u n gs V (fun x=>S.contains x) O->
 Calls Tryz.prog 127 #[sO g o n c,iZ (b:Int),sG gs n n,V] u fun e u'=>∃V' S' O',e=.returned V'/\Vs E (b::S) O (E b) S' O'/\SN w u' n gs V' (fun x=>S'.contains x) (O'++[b])/\(O'++[b]).length+Bz S' n<=O.length+Bz S n:=by
 obtain⟨k0,hk,hx0,hx1,hx2⟩:=bJ CF;have H:Hid (Iu w g o n E/\(∀b,b<n->∀x∈E b,x<n)/\(∀b,(E b).length<=2)):=⟨h,hE,hsz⟩
 clear h hE hsz;intro m;induction m using Nat.strongRecOn with
 | ind m ih=>
   intro S O b V u hm hb hbS hlen hsn
   have IH:Hid (∀m',m'<m->∀(S O:List Nat) (b:Nat) (V:Value) (u:World),Bz S n=m'->b<n->b∉S->O.length+Bz S n<=n->SN w u n gs V (fun x=>S.contains x) O->
    Calls Tryz.prog 127 #[sO g o n c,iZ (b:Int),sG gs n n,V] u fun e u'=>∃V' S' O',e=.returned V'/\Vs E (b::S) O (E b) S' O'/\SN w u' n gs V' (fun x=>S'.contains x) (O'++[b])/\(O'++[b]).length+Bz S' n<=O.length+Bz S n):=ih
   have hu1:=Jb S n b hb hbS;have HU1:Hid (Bz (b::S) n+1=Bz S n/\Bz S n=m/\O.length+Bz S n<=n):=⟨hu1,hm,hlen⟩
   obtain⟨aV,cV,rfl⟩:=AZ hsn.list;have hbI:(b:Int)<(n:Int):=by omega
   have d0:=hsn.seen.cell hb;have z0:=hsn.seen.frozen b
   have HS0:Hid (SN w (u.setCell ⟨gs,b,none⟩ (.bool true)) n gs (.slice aV O.length cV) (fun x=>(b::S).contains x) O):=hsn.mark b true fun j hj=>by
    by_cases e:j=b
    . subst e;simp
    . simp[e]
   obtain⟨a,ca,g0,g1⟩:=H.o.1 b hb;have HG:Hid (w.cell? ⟨g,o+b*3+2,none⟩=some (.slice a (E b).length ca)/\KP w (.slice a (E b).length ca) (E b)):=⟨g0,g1⟩
   have hE2:=H.o.2.2 b;clear ih hsn g0 g1 hu1 hm hlen;go_enter Tryz.func127,Tryz.ntmps127;go_wp2
   go_loopw [3,9] (fun V i wr=>∃(S' O':List Nat) (k:Nat) (aV:Option Addr) (cV:Nat),V=.slice aV O'.length cV/\i=iZ k/\k<=(E b).length/\O'.length+1<=n/\Hid (Vs E (b::S) O ((E b).take k) S' O'/\SN w wr n gs V (fun x=>S'.contains x) O'/\O'.length+Bz S' n+1<=O.length+Bz S n)) (fun _ i _=>2-(intOf i).toNat)
   case atStart=>exact⟨b::S,O,0,aV,cV,rfl,rfl,by omega,by have:=HU1.o;omega,by simpa using Vs.nil (b::S) O,HS0.o,by have:=HU1.o;omega⟩
   case round=>
    clear HS0 d0 z0;obtain⟨S',O',k,aV,cV,rfl,rfl,hkE,hO,HL⟩:=hrel;have g0:=Ad HL.o.2.1.bel HG.o.1;by_cases hlt:k<(E b).length
    . have hltI:(k:Int)<((E b).length:Int):=by omega
      obtain⟨y,hy⟩:∃y,(E b)[k]?=some y:=⟨_,aA hlt⟩;have hyn:y<n:=H.o.2.1 b hb y (aF hy);have hynI:(y:Int)<(n:Int):=by omega
      have HY:=Af hy;obtain⟨ga,oa,rfl,_,y0⟩:=HG.o.2.at_ hy;replace y0:=Ad HL.o.2.1.bel y0
      have s0:=HL.o.2.1.seen.cell hyn
      have HT:Hid ((E b).take (k+1)=(E b).take k++[y]):=by
       obtain⟨hl,rfl⟩:=aE.1 hy;exact aj hl
      clear hy;cases hc:S'.contains y
      . simp only[hc]at s0
        have hyS:y∉S':=by simpa using hc
        have hmo:=HL.o.1.more;have hun:=Nw n hmo;have HC:=Af (IH.o (Bz S' n) (by have:=HU1.o;omega) S' O' y _ wr rfl hyn hyS (by have:=HL.o.2.2;have:=HU1.o;omega) HL.o.2.1);clear hmo hun;go_wp2_with fail;refine HC.o.mono ?_;rintro e u2 ⟨V2,S2,O2,rfl,hv2,hs2,hl2⟩;obtain⟨a2,c2,rfl⟩:=AZ hs2.list
        have HN:Hid (Vs E (b::S) O ((E b).take (k+1)) S2 (O2++[y])/\SN w u2 n gs (.slice a2 (O2++[y]).length c2) (fun x=>S2.contains x) (O2++[y])/\(O2++[y]).length+Bz S2 n+1<=O.length+Bz S n):=by
         refine⟨?_,hs2,by have:=HL.o.2.2;omega⟩;rw[HT.o];exact HL.o.1.app (.new hyS hv2 (.nil _ _))
        have hO2:(O2++[y]).length+1<=n:=by have:=HN.o.2.2;have:=HU1.o;omega
        clear hv2 hs2 hl2 s0 y0 g0;go_wp2
        go_roundw
        case rel=>exact⟨S2,O2++[y],k+1,a2,c2,by rw[aH,aP],by go_num,by omega,hO2,HN.o.1,by have:=HN.o.2.1;rw[aH,aP]at this;exact this,HN.o.2.2⟩
        case measure=>simp[intOf];omega
      . simp only[hc]at s0
        have HN:Hid (Vs E (b::S) O ((E b).take (k+1)) S' O'):=by
         show Vs E (b::S) O ((E b).take (k+1)) S' O';rw[HT.o];exact HL.o.1.app (.old (by simpa using hc) (.nil _ _))
        go_wp2
        go_roundw
        case rel=>exact⟨S',O',k+1,aV,cV,rfl,by go_num,by omega,hO,HN.o,HL.o.2.1,HL.o.2.2⟩
        case measure=>simp[intOf];omega
    . obtain rfl:k=(E b).length:=by omega
      have hO3:=HU1.o;have hO4:=HL.o.2.2;go_upto_region 7 with fail
      refine An (fun u=>Hid (SN w u n gs (.slice aV O'.length cV) (fun x=>S'.contains x) O')) HL.o.2.1 ?_;intro U HU;clear g0;go_wp2_with (at_builtin;refine wpList_append_lies _ rfl _ _ 47 rfl w.heap.size 2 k0 (iZ 0) 1 8 Tryz.underlying47 hk hx0 hx1 hx2 rfl (by decide) _ O'.length (nv O') rfl (HU.o.al (.cells #[iZ (b:Int)] 2)).1 ⟨U.heap.size,0,none⟩ 1 1 [iZ (b:Int)] rfl rfl (Cx U (b:Int)) (fun u hu=>by simp at hu;subst hu;rfl) (by omega) (by simp[maxLen];omega) (by omega) (HU.o.al (.cells #[iZ (b:Int)] 2)).2 _ rfl ?_;intro g5 cap5 w5 hown hgrow hat hlt3;have HU5:Hid (SN w w5 n gs (sG g5 (O'.length+1) cap5) (fun x=>S'.contains x) (O'++[b])):=HU.o.app hown hgrow;clear hown hgrow hat hlt3);go_ret;refine⟨_,S',O',rfl,?_,HU5.o,by rw[aH,aP];omega⟩;have:=HL.o.1;rw[bg lR]at this;exact this
section
variable {w u u':World} {B I L:Nat} {a:Option Addr} {c:Nat} {zs:List Int} {k:Nat}
theorem Br.push_rr{F:List (List Int×Value)}{s x V:Value}{xs:List Int}(h:Br w u ((Ct s F::BS F)++[A8 x xs]) B I L a c zs k)(ho:u'.ownsRow w.heap.size 47 1 V (F.length+1) (F.flatMap BE++[x]))(hg:u.grownBy u' s.ownBlock)(hat:V.ownBlock=s.ownBlock\/V.ownBlock=some u.heap.size):Br w u' (Ct V (F++[(xs,x)])::BS (F++[(xs,x)])) B I L a c zs k:=by
 have h2:=Br.app (A:=[]) (C:=BS F++[A8 x xs]) h (Ct V (F++[(xs,x)])) (by simpa[As.own,Ct,BE]using ho) hg hat;rw[Nu];exact h2
theorem Br.push_ff{G:List (MF×VF)}{s V:Value}{y:MF×VF}(h:Br w u ((BT s G::BQ G)++Co y) B I L a c zs k)(ho:u'.ownsRow w.heap.size 58 4 V (G.length+1) (G.flatMap AW++AW y))(hg:u.grownBy u' s.ownBlock)(hat:V.ownBlock=s.ownBlock\/V.ownBlock=some u.heap.size):Br w u' (BT V (G++[y])::BQ (G++[y])) B I L a c zs k:=by
 have h2:=Br.app (A:=[]) (C:=BQ G++Co y) h (BT V (G++[y])) (by simpa[As.own,BT]using ho) hg hat;rw[IQ];exact h2
end
theorem JW(B I L:Nat)(a:Option Addr)(c:Nat)(zs:List Int)(n k:Nat)(w:World)(hn:n<=65535)(h:Hh w B I L a c zs k):
 Calls Tryz.prog 74 #[iZ (n:Int),.func (Fn.func 75) #[.pointer (some ⟨I,0,none⟩)] #[]] w (Pj (Bu (BF zs 2) n) (fun w' ys V=>∃F:List (List Int×Value),F.map Prod.fst=ys/\CI w' w.heap.size (Ct V F::BS F)) w B I L a c zs k):=by
 obtain⟨i0,hi,hz0,hz1,hz2⟩:=bJ T1;have H0:=Af ((Br.start h).nil 47 1);clear h;go_enter Tryz.func74,Tryz.ntmps74;go_wp2
 go_loopw [5,7] (fun o i wr=>∃(j:Nat) (F:List (List Int×Value)) (kk:Nat) (b:Option Addr) (d:Nat),o=.slice b F.length d/\i=iZ (j:Int)/\j<=n/\Hid (F.length=j/\Bu (BF zs 2) j k=some (F.map Prod.fst,kk)/\Br w wr (Ct (.slice b F.length d) F::BS F) B I L a c zs kk)) (fun _ i _=>n-(intOf i).toNat)
 case atStart=>
  exact⟨0,[],k,none,0,rfl,rfl,by omega,rfl,rfl,H0.o⟩
 case round=>
  clear H0;obtain⟨j,F,kk,b,d,rfl,rfl,hj,HM⟩:=hrel;have HL:=Af HM.o.1;have hlb:F.length<=65535:=by rw[HL.o];omega
  by_cases hlt:j<n
  . have hlt':(j:Int)<(n:Int):=by omega
    go_wp2_with fail
    refine(Ox B I L a c zs kk wr HM.o.2.2.got.at_).mono ?_;rintro e u1 (⟨x,V,k1,rfl,hr,hv,hg⟩|⟨rfl,hnn,hc⟩);rotate_left
    . unfold Ba
      go_wp2
      exact⟨rfl,.inr ⟨rfl,CO (DS HM.o.2.1 hnn) (by omega),HM.o.2.2.got.chg.onD hc⟩⟩
    obtain⟨a5,c5,e5⟩:∃a c,V=.slice a x.length c:=A9 hv;subst e5;replace hv:CI u1 wr.heap.size [A8 (.slice a5 x.length c5) x]:=⟨fun r hr=>by rw[bO.1 hr];exact hv,dg _ _⟩;have H2:Hid (Br w (u1.alloc (.cells #[.slice a5 x.length c5] 47)) ((Ct (.slice b F.length d) F::BS F)++[A8 (.slice a5 x.length c5) x]) B I L a c zs k1):=(HM.o.2.2.rows hg hv).keep (Aa _ _);have RM:Hid (Bu (BF zs 2) (j+1) k=some ((F++[(x,Value.slice a5 x.length c5)]).map Prod.fst,k1)):=by have:=DR HM.o.2.1 hr;simpa[Hid]using this
    have O2:Hid ((u1.alloc (.cells #[.slice a5 x.length c5] 47)).ownsRow w.heap.size 47 1 (.slice b F.length d) F.length (F.flatMap BE)):=H2.o.sep.own (Ct (.slice b F.length d) F) (by simp);have hs2:=H2.o.size;clear hr hg hv HM;go_wp2_with (at_builtin;refine wpList_append_own_at _ rfl _ _ 23 rfl w.heap.size 47 i0 sN 1 24 Tryz.underlying23 hi hz0 hz1 hz2 rfl (by decide) _ _ _ rfl O2.o ⟨u1.heap.size,0,none⟩ 1 1 [.slice a5 x.length c5] rfl rfl (GH u1 [.slice a5 x.length c5] 47) (by intro u hu;simp at hu;subst hu;rfl) (by unfold maxLen;omega) (by omega) hs2 ?_;intro V' u5 ho hgr _ hat;obtain⟨b',d',e5⟩:=A9 ho;subst e5;have H5:Hid (Br w u5 (Ct (.slice b' (F.length+1) d') (F++[(x,Value.slice a5 x.length c5)])::BS (F++[(x,Value.slice a5 x.length c5)])) B I L a c zs k1):=H2.o.push_rr ho hgr hat;clear ho hgr hat H2 O2);go_roundw
    case rel=>
     have el:(F++[(x,Value.slice a5 x.length c5)]).length=F.length+1:=by simp
     refine⟨j+1,(F++[(x,Value.slice a5 x.length c5)]),k1,b',d',by rw[el],by go_num,by omega,by rw[el,HL.o],RM.o,?_⟩;rw[el];exact H5.o
    case measure=>simp[intOf];omega
  . have hjn:n=j:=by omega
    have hge:¬(j:Int)<(n:Int):=by omega
    go_wp2
    go_ret
    exact .inl ⟨_,_,kk,rfl,HM.o.2.1,⟨F,rfl,HM.o.2.2.sep⟩,HM.o.2.2.got⟩
theorem LM(B I L:Nat)(a:Option Addr)(c:Nat)(zs:List Int)(n k:Nat)(w:World)(hn:n<=65535)(h:Hh w B I L a c zs k):
 Calls Tryz.prog 78 #[iZ (n:Int),.func (Fn.func 79) #[.pointer (some ⟨I,0,none⟩)] #[]] w (Pj (Bu (Fi zs) n) (fun w' ys V=>∃F:List (MF×VF),F.map Prod.fst=ys/\CI w' w.heap.size (BT V F::BQ F)) w B I L a c zs k):=by
 obtain⟨i0,hi,hz0,hz1,hz2⟩:=bJ Sy;have H0:=Af ((Br.start h).nil 58 4);clear h;go_enter Tryz.func78,Tryz.ntmps78;go_wp2
 go_loopw [5,7] (fun o i wr=>∃(j:Nat) (F:List (MF×VF)) (kk:Nat) (b:Option Addr) (d:Nat),o=.slice b F.length d/\i=iZ (j:Int)/\j<=n/\Hid (F.length=j/\Bu (Fi zs) j k=some (F.map Prod.fst,kk)/\Br w wr (BT (.slice b F.length d) F::BQ F) B I L a c zs kk)) (fun _ i _=>n-(intOf i).toNat)
 case atStart=>
  exact⟨0,[],k,none,0,rfl,rfl,by omega,rfl,rfl,H0.o⟩
 case round=>
  clear H0;obtain⟨j,F,kk,b,d,rfl,rfl,hj,HM⟩:=hrel;have HL:=Af HM.o.1;have hlb:F.length<=65535:=by rw[HL.o];omega
  by_cases hlt:j<n
  . have hlt':(j:Int)<(n:Int):=by omega
    go_wp2_with fail
    refine(LD B I L a c zs kk wr HM.o.2.2.got.at_).mono ?_;rintro e u1 (⟨x,V,k1,rfl,hr,hv,hg⟩|⟨rfl,hnn,hc⟩);rotate_left
    . unfold Ba
      go_wp2
      exact⟨rfl,.inr ⟨rfl,CO (DS HM.o.2.1 hnn) (by omega),HM.o.2.2.got.chg.onD hc⟩⟩
    obtain⟨⟨vp,vl,vc⟩,rfl,hv⟩:=hv;obtain⟨e1,e2,h1⟩:∃a c,vp=.slice a x.params.length c:=A9 (hv.own (A8 vp x.params) (by simp[Co]));obtain⟨e3,e4,h2⟩:∃a c,vl=.slice a x.locals.length c:=A9 (hv.own (A8 vl x.locals) (by simp[Co]));obtain⟨e5,e6,h3⟩:∃a c,vc=.slice a x.code.length c:=A9 (hv.own (Ca vc x.code) (by simp[Co]));subst h1 h2 h3;have H2:Hid (Br w (u1.alloc (.cells #[.slice e1 x.params.length e2,iZ x.result,.slice e3 x.locals.length e4,.slice e5 x.code.length e6] 58)) ((BT (.slice b F.length d) F::BQ F)++Co (x,(⟨.slice e1 x.params.length e2,.slice e3 x.locals.length e4,.slice e5 x.code.length e6⟩:VF))) B I L a c zs k1):=(HM.o.2.2.rows hg hv).keep (Aa _ _);have RM:Hid (Bu (Fi zs) (j+1) k=some ((F++[(x,(⟨.slice e1 x.params.length e2,.slice e3 x.locals.length e4,.slice e5 x.code.length e6⟩:VF))]).map Prod.fst,k1)):=by have:=DR HM.o.2.1 hr;simpa[Hid]using this
    have O2:Hid ((u1.alloc (.cells #[.slice e1 x.params.length e2,iZ x.result,.slice e3 x.locals.length e4,.slice e5 x.code.length e6] 58)).ownsRow w.heap.size 58 4 (.slice b F.length d) F.length (F.flatMap AW)):=H2.o.sep.own (BT (.slice b F.length d) F) (by simp);have hs2:=H2.o.size;clear hr hg hv HM
    go_wp2_with (at_builtin;refine wpList_append_own_at _ rfl _ _ 25 rfl w.heap.size 58 i0 (.agg #[sN,iZ 0,sN,sN]) 4 80 Tryz.underlying25 hi hz0 hz1 hz2 rfl (by decide) _ _ _ rfl O2.o ⟨u1.heap.size,0,none⟩ 1 1 [.slice e1 x.params.length e2,iZ x.result,.slice e3 x.locals.length e4,.slice e5 x.code.length e6] rfl rfl (GH u1 [.slice e1 x.params.length e2,iZ x.result,.slice e3 x.locals.length e4,.slice e5 x.code.length e6] 58) (by intro u hu;simp at hu;rcases hu with rfl|rfl|rfl|rfl<;>rfl) (by unfold maxLen;omega) (by omega) hs2 ?_;intro V' u5 ho hgr _ hat;obtain⟨b',d',e5⟩:=A9 ho;subst e5;have H5:Hid (Br w u5 (BT (.slice b' (F.length+1) d') (F++[(x,(⟨.slice e1 x.params.length e2,.slice e3 x.locals.length e4,.slice e5 x.code.length e6⟩:VF))])::BQ (F++[(x,(⟨.slice e1 x.params.length e2,.slice e3 x.locals.length e4,.slice e5 x.code.length e6⟩:VF))])) B I L a c zs k1):=H2.o.push_ff ho hgr hat;clear ho hgr hat H2 O2)
    go_roundw
    case rel=>
     have el:(F++[(x,(⟨.slice e1 x.params.length e2,.slice e3 x.locals.length e4,.slice e5 x.code.length e6⟩:VF))]).length=F.length+1:=by simp
     refine⟨j+1,(F++[(x,(⟨.slice e1 x.params.length e2,.slice e3 x.locals.length e4,.slice e5 x.code.length e6⟩:VF))]),k1,b',d',by rw[el],by go_num,by omega,by rw[el,HL.o],RM.o,?_⟩;rw[el];exact H5.o
    case measure=>simp[intOf];omega
  . have hjn:n=j:=by omega
    have hge:¬(j:Int)<(n:Int):=by omega
    go_wp2
    go_ret
    exact .inl ⟨_,_,kk,rfl,HM.o.2.1,⟨F,rfl,HM.o.2.2.sep⟩,HM.o.2.2.got⟩
end Go.Proofs.YtjcamlobelcepaaGreatDoor
