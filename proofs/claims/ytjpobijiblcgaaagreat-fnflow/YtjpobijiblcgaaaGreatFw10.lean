import Derived.Test.YtjpobijiblcgaaaGreatFw0
import Derived.Test.YtjpobijiblcgaaaGreatFw2
import Derived.Test.YtjpobijiblcgaaaGreatFw6
import Derived.Test.YtjpobijiblcgaaaGreatFw8
import Derived.Test.YtjpobijiblcgaaaGreatFw5
namespace Go.Proofs.YtjpobijiblcgaaaGreat
open Go.ChangeShapes Go.WideShapes Go.ChangeAt Go.RowKit
set_option linter.unusedVariables false
theorem AP{w:World}{base b:Nat}{e:TypeId}{k n:Nat}{v:Value}{xs:List Value}(h:w.ownsRow base e k v n xs)(hb:b<=base):w.ownsRow b e k v n xs:=
 ⟨h.1,h.2.imp id fun⟨g,cap,cur,e1,hb1,r⟩=>⟨g,cap,cur,e1,aY hb hb1,r⟩⟩
theorem AE{Q:Exit->Act->World->Prop}{a:Act}{U:World}(P:World->Prop)(h:P U)(k:∀u,P u->Q .normal a u):Q .normal a U:=k U h
theorem Ac{W u:World}(hb:Below W.heap.size W u){a:Addr}{x:Value}(h:W.cell? a=some x):u.cell? a=some x:=by rw[hb.cell (aF h)];exact h
def Df(xs:List MI)(m:MB):MB:=⟨m.first,m.last,Ds xs (xs.getD m.last.toNat ⟨0,0,0,0⟩) m.last.toNat⟩
def Ap(xs:List MI):List MB:=(A8 xs xs.length).map (Df xs)
structure TW(w u:World)(xs:List MI)(n q:Nat)(V:Value)(D:List (MB×Value)):Prop where
 num:u.ownsRow w.heap.size 2 1 (sG q n n) n ((List.range n).flatMap (FJ xs))
 o:u.ownsRow w.heap.size 32 3 V (A8 xs n).length (D.flatMap Cg++((A8 xs n).drop D.length).flatMap Io)
 rows:∀x∈D,u.ownsRow w.heap.size 2 1 x.2 x.1.next.length (x.1.next.flatMap Ab)
 done:D.map Prod.fst=((A8 xs n).take D.length).map (Df xs)
 bel:Below w.heap.size w u
theorem TW.of{w u:World}{xs:List MI}{n q:Nat}{V:Value}(h:SW w u xs n n q V):TW w u xs n q V []:=by
 refine⟨?_,by simpa using h.o,fun x hx=>(by cases hx),by simp,h.bel⟩;have:=h.num;rw[L3 _ _ _ _ (by simp)]at this;exact this
structure NW(wr U:World)(x:MI)(V:Value)(ns:List Int):Prop where
 bel:Below wr.heap.size wr U
 xb:An U wr.heap.size #[iZ x.op,iZ x.a,iZ x.b,iZ x.c] 43
 row:U.ownsRow wr.heap.size 2 1 V ns.length (ns.flatMap Ab)
theorem NW.of(wr:World)(x:MI):NW wr ((wr.alloc (.cells #[iZ x.op,iZ x.a,iZ x.b,iZ x.c] 43)).alloc (.cells #[] 2)) x (.slice (some ⟨wr.heap.size+1,0,none⟩) 0 0) []:=by
 have b1:=Aa wr (.cells #[iZ x.op,iZ x.a,iZ x.b,iZ x.c] 43);have k1:=An.new wr #[iZ x.op,iZ x.a,iZ x.b,iZ x.c] 43;have z1:(wr.alloc (.cells #[iZ x.op,iZ x.a,iZ x.b,iZ x.c] 43)).heap.size=wr.heap.size+1:=by simp
 generalize wr.alloc (.cells #[iZ x.op,iZ x.a,iZ x.b,iZ x.c] 43)=Wx at b1 k1 z1⊢;have b2:=Aa Wx (.cells #[] 2);have k2:=An.new Wx #[] 2;rw[z1]at k2;exact⟨Af b1 lR b2,k1.keep b2,⟨rfl,.inr ⟨wr.heap.size+1,0,#[],rfl,Nat.le_succ _,k2,Nat.le_refl _,dP _,rfl,rfl⟩⟩⟩
theorem NW.drew{wr U:World}{x:MI}{V:Value}{ns:List Int}(h:NW wr U x V ns)(k:Nat):NW wr (U.drewN k) x V ns:=⟨⟨h.bel.os,h.bel.tape,h.bel.output,h.bel.size,h.bel.block⟩,h.xb,⟨h.row.1,h.row.2⟩⟩
theorem NW.app{wr U u':World}{x:MI}{V V':Value}{ns:List Int}{z:Int}{m:Nat}(h:NW wr U x V ns)(hown:u'.ownsRow wr.heap.size 2 1 V' m (ns.flatMap Ab++[iZ z]))(hm:m=ns.length+1)(hg:(U.alloc (.cells #[iZ z] 2)).grownBy u' V.ownBlock):NW wr u' x V' (ns++[z]):=by
 have bA:=Aa U (.cells #[iZ z] 2);refine⟨(Af h.bel lR bA).grown hg (aY h.bel.size bA.size) (fun i hi=>(h.row.lt i hi).1),(h.xb.keep bA).grown hg (Aj h.row bA lR) (by decide),?_⟩;rw[aG,aP,<-hm,a8];exact hown
theorem Bg(U:World)(z:Int):∀j u,[(iZ z:Value)][j]?=some u->(U.alloc (.cells #[iZ z] 2)).cell? ((⟨U.heap.size,0,none⟩:Addr).add j)=some u:=fun j u hj=>by
 rw[Di,bG,(An.new U #[iZ z] 2).cell j];simpa using hj
theorem NW.al{wr U:World}{x:MI}{V:Value}{ns:List Int}(h:NW wr U x V ns)(o:Obj):(U.alloc o).ownsRow wr.heap.size 2 1 V ns.length (ns.flatMap Ab)/\wr.heap.size<=(U.alloc o).heap.size:=⟨Aj h.row (Aa _ _) lR,aY h.bel.size (Aa _ _).size⟩
theorem TW.next{w wr U:World}{xs:List MI}{n q gv len cap:Nat}{D:List (MB×Value)}{m:MB}{e:Nat}{x:MI}{Vn:Value}{ns:List Int}(h:TW w wr xs n q (sG gv len cap) D)(hl:len=(A8 xs n).length)(hm:(A8 xs n)[D.length]?=some m)(he:m.last=(e:Int))(hx:xs[e]?=some x)(hn:NW wr U x Vn ns)(hns:ns=Ds xs x e):TW w (U.setCell ⟨gv,D.length*3+2,none⟩ Vn) xs n q (sG gv len cap) (D++[(Df xs m,Vn)]):=by
 subst hl;have hb:Below wr.heap.size wr U:=hn.bel;have hout:=Aj h.o hb lR;obtain⟨hlt,hmm⟩:=aD.1 hm
 have hB:Df xs m=⟨m.first,m.last,ns⟩:=by
  unfold Df;rw[he,hns,ao,bQ,hx];rfl
 have hnr:=AP hn.row (b:=w.heap.size) h.bel.size;refine⟨Bz (Aj h.num hb lR) hout (by decide) _ _,?_,?_,?_,(Af h.bel lR hb).setCell (At hout).1 _⟩
 . have k1:=(hout.stored (D.length*3+2) Vn).1
   have e1:(D.flatMap Cg++((A8 xs n).drop D.length).flatMap Io).set (D.length*3+2) Vn=(D++[(Df xs m,Vn)]).flatMap Cg++((A8 xs n).drop (D++[(Df xs m,Vn)]).length).flatMap Io:=by
    rw[dJ hlt,hmm,aW,df _ _ (by rw[Ax Cg 3 AQ];omega),Ax Cg 3 AQ,hB];simp[Io,Cg,List.length_append]
   rw[e1]at k1;exact k1
 . intro y hy
   rcases aS.1 hy with hy|hy
   . exact Bz (Aj (h.rows y hy) hb lR) hout (by decide) _ _
   . simp only[aX,bB,cW]at hy
     subst hy;simp only[hB];exact Bz hnr hout (by decide) _ _
 . rw[br,h.done,aG,aP,a6 hlt,hmm]
   simp
def Cj(fs:List MF):Prop:=¬fs.length=0/\fs.length<=32/\(∀j,j<fs.length->∀f,fs[j]?=some f->LQ f)/\∀f,fs[0]?=some f->Ob f
structure ML where
 head:Int
 back:List Int
 blocks:List Int
structure F7 where
 code:Int
 at_:Int
 blocks:List MB
 order:List Int
 idom:List Int
 loops:List ML
def ints(l:List Nat):List Int:=l.map fun(x:Nat)=>(x:Int)
theorem Az(l:List Nat):(ints l).length=l.length:=by simp[ints]
def nx(bs:List MB)(b:Nat):List Nat:=match bs[b]? with|some m=>m.next.map Int.toNat|none=>[]
def Dl(c a:Int):F7:=⟨c,a,[],[],[],[]⟩
def Bh(E:Nat->List Nat)(D L:Nat->Nat->Bool)(n j:Nat):List ML:=(List.range j).filterMap fun h=>if Au E D n h=[]then none else some ⟨(h:Int),ints (Au E D n h),ints ((List.range n).filter (L h))⟩
inductive Bm (xs:List MI):F7->Prop
 |none:¬AD xs->Bm xs (Dl 4 0)
 |off {x:MI}:AD xs->xs[xs.length-1]?=some x->Eg x=true->Bm xs (Dl 1 ((xs.length:Int)-1))
 |lost {x:MI} {S O:List Nat} {b:Nat} {m:MB}:AD xs->xs[xs.length-1]?=some x->Eg x=false->Vs (nx (Ap xs)) [] [] [0] S O->b<(Ap xs).length->b∉S->(∀c,c<b->c∈S)->(Ap xs)[b]?=some m->Bm xs (Dl 2 m.first)
 |two {x:MI} {S O:List Nat} {D:Nat->Nat->Bool} {b k t:Nat} {m:MB}:AD xs->xs[xs.length-1]?=some x->Eg x=false->Vs (nx (Ap xs)) [] [] [0] S O->(∀c,c<(Ap xs).length->c∈S)->(∀d b,D d b=true↔DA (nx (Ap xs)) d b)->Es (nx (Ap xs)) (Ap xs).length (I6 O D) b k t->(Ap xs)[t]?=some m->Bm xs (Dl 3 m.first)
 |good {x:MI} {S O:List Nat} {D L:Nat->Nat->Bool} {I:Nat->Int}:AD xs->xs[xs.length-1]?=some x->Eg x=false->Vs (nx (Ap xs)) [] [] [0] S O->(∀c,c<(Ap xs).length->c∈S)->(∀d b,D d b=true↔DA (nx (Ap xs)) d b)->(∀b,b<(Ap xs).length->∀t∈nx (Ap xs) b,¬I6 O D b t)->
  (∀b,b<(Ap xs).length->(b=0/\I b=-1)\/b≠0/\∃c:Nat,c<(Ap xs).length/\I b=(c:Int)/\EQ (nx (Ap xs)) b c)->(∀h y,L h y=true↔Dh (nx (Ap xs)) D (Ap xs).length h y)->
  Bm xs ⟨0,0,Ap xs,ints O.reverse,(List.range (Ap xs).length).map I,Bh (nx (Ap xs)) D L (Ap xs).length (Ap xs).length⟩
theorem Ee{xs:List MI}(h:AD xs):0<(Ap xs).length:=by
 unfold Ap;rw[aj,BI];exact dN.2 (Gt xs _ h.1)
theorem Kd{xs:List MI}(hg:AD xs){b e:Nat}{x:MI}{m:MB}(hb:(A8 xs xs.length)[b]?=some m)(he:m.last=(e:Int))(hx:xs[e]?=some x){p:Int}(hp:p∈AU xs x e):p.toNat∈CA xs xs.length:=by
 have hen:e<xs.length:=(aD.1 hx).1;rw[Cb]at hb;unfold AU at hp;rcases aS.1 hp with hp|hp
 . by_cases h:Eg x=true/\e+1<xs.length
   . rw[cD h]at hp
     simp only[aX,bB,cW]at hp;subst hp;rw[ao];exact Iq _ _ _ _ _ hb he h.2
   . rw[bu h]at hp
     cases hp
 . by_cases h:AG x=true/\¬(Eg x=true/\e+1<xs.length/\x.c=((e+1:Nat):Int))
   . rw[cD h]at hp
     simp only[aX,bB,cW]at hp;subst hp;obtain⟨h1,h2⟩:=hg.2.2 e x hx h.1;have h3:(x.c.toNat:Int)=x.c:=d7 h1;exact(Co _ _ _).2 ⟨by omega,GT xs _ e _ x hen hx (by simp[Ef,h.1,h3])⟩
   . rw[bu h]at hp
     cases hp
theorem LW{L:List Nat}{n b:Nat}{m:MB}(hs:L.Pairwise (· < ·))(hl:∀x∈L,x<n)(h:(build L n)[b]?=some m):∃e:Nat,m.last=(e:Int)/\e<n:=by
 unfold build at h;rw[dS]at h;cases h1:L[b]? with
 |none=>rw[h1]at h;simp at h
 | some a=>
   cases h2:(L.tail++[n])[b]? with
   |none=>rw[h1,h2]at h;simp at h
   | some q=>
     rw[h1,h2]at h;simp only[aJ]at h;subst h;have ha:=hl a (aE h1)
     have hq:a<q/\q<=n:=by
      by_cases hb:b<L.tail.length
      . rw[bW hb]at h2
        have hq:=eM (aE h2);refine⟨?_,dr (hl q hq)⟩;have h3:L[b+1]?=some q:=by rw[<-h2];cases L<;>simp
        obtain⟨i1,e1⟩:=aD.1 h1;obtain⟨i2,e2⟩:=aD.1 h3;rw[<-e1,<-e2];exact(dd.1 hs) b (b+1) i1 i2 (by omega)
      . rw[bV (by omega)]at h2
        have:=aE h2;simp only[aX,bB,cW]at this;subst this;exact⟨ha,Nat.le_refl _⟩
     exact⟨q-1,by simp only[];omega,by omega⟩
theorem OZ{xs:List MI}{b:Nat}{m:MB}(h:(A8 xs xs.length)[b]?=some m):∃(e:Nat) (x:MI),m.last=(e:Int)/\xs[e]?=some x:=by
 rw[Cb]at h;obtain⟨e,h1,h2⟩:=LW (C8 _ _) (fun x hx=>((Co _ _ _).1 hx).1) h;exact⟨e,_,h1,aA h2⟩
theorem Gw{xs:List MI}(hg:AD xs){b:Nat}{m:MB}(h:(Ap xs)[b]?=some m){z:Int}(hz:z∈m.next):0<=z/\z<((Ap xs).length:Int):=by
 unfold Ap at h⊢;rw[a7]at h;obtain⟨m0,h1,rfl⟩:=cS.1 h;obtain⟨e,x,he,hx⟩:=OZ h1
 have hB:(Df xs m0).next=Ds xs x e:=by
  unfold Df;rw[he,ao,bQ,hx];rfl
 rw[hB,Jz xs b e x m0 hg h1 he hx]at hz;obtain⟨p,hp,rfl⟩:=bJ.1 hz;have:=dk.2 (Kd hg h1 he hx hp);rw[aj,BI];omega
theorem Qj{bs:List MB}{b:Nat}{m:MB}(h:bs[b]?=some m):nx bs b=m.next.map Int.toNat:=by unfold nx;rw[h]
theorem PX{xs:List MI}(hg:AD xs){b:Nat}{m:MB}(h:(Ap xs)[b]?=some m):m.next=ints (nx (Ap xs) b):=by
 rw[Qj h];unfold ints;rw[eF];symm
 rw[eZ (g:=id),List.map_id];intro z hz;exact d7 (Gw hg h hz).1
theorem JB{xs:List MI}(hg:AD xs):∀b,b<(Ap xs).length->∀x∈nx (Ap xs) b,x<(Ap xs).length:=fun b hb x hx=>by
 rw[Qj (aA hb)]at hx;obtain⟨z,hz,rfl⟩:=bJ.1 hx;have:=Gw hg (aA hb) hz;omega
theorem DG{xs:List MI}(hg:AD xs):(Ap xs).length<=1024:=by
 unfold Ap;rw[aj,BI];have:=cj (BD xs xs.length) (List.range xs.length);have h2:=hg.2.1;simp only[cM]at this;exact aY this h2
theorem FK(bs:List MB)(h:∀m∈bs,m.next.length<=2)(b:Nat):(nx bs b).length<=2:=by
 unfold nx;cases hb:bs[b]? with
 |none=>simp
 |some m=>simpa using h m (aE hb)
theorem DT(xs:List MI):∀m∈Ap xs,m.next.length<=2:=by
 intro f hf;unfold Ap at hf;obtain⟨m,_,rfl⟩:=bJ.1 hf;simp only[Df,Ds];split<;>split<;>simp
theorem Bm.one{xs:List MI}{r r':F7}(h:Bm xs r)(h':Bm xs r'):r=r':=by
 have hD:∀{E:Nat->List Nat} {D D':Nat->Nat->Bool},(∀d b,D d b=true↔DA E d b)->(∀d b,D' d b=true↔DA E d b)->D=D':=fun h1 h2=>by
  funext d b
  rw[dz,h1,h2]
 cases h with
 | none g=>
   cases h' with
   |none _=>rfl
   |_ g'=>exact absurd g' g
 | off g x1 o1=>
   cases h' with
   |none g'=>exact absurd g g'
   |off _ _ _=>rfl
   | lost _ x2 o2|two _ x2 o2|good _ x2 o2=>
     rw[x1]at x2;cases x2
     rw[o1]at o2;cases o2
 | @lost _ _ _ b m g x1 o1 v1 b1 n1 l1 m1=>
   cases h' with
   |none g'=>exact absurd g g'
   | off _ x2 o2=>
     rw[x1]at x2;cases x2
     rw[o1]at o2;cases o2
   | @lost _ _ _ b' m' _ x2 o2 v2 b2 n2 l2 m2=>
     obtain⟨rfl,rfl⟩:=v1.one v2
     have:b=b':=by
      rcases Nat.lt_trichotomy b b' with q|q|q
      . exact absurd (l2 _ q) n1
      . exact q
      . exact absurd (l1 _ q) n2
     subst this;rw[m1]at m2;cases m2
     rfl
   | two _ _ _ v2 s2|good _ _ _ v2 s2=>
     obtain⟨rfl,rfl⟩:=v1.one v2;exact absurd (s2 _ b1) n1
 | two g x1 o1 v1 s1 d1 f1 m1=>
   cases h' with
   |none g'=>exact absurd g g'
   | off _ x2 o2=>
     rw[x1]at x2;cases x2
     rw[o1]at o2;cases o2
   | lost _ _ _ v2 b2 n2=>
     obtain⟨rfl,rfl⟩:=v1.one v2;exact absurd (s1 _ b2) n2
   | two _ _ _ v2 _ d2 f2 m2=>
     obtain⟨rfl,rfl⟩:=v1.one v2;obtain rfl:=hD d1 d2;obtain rfl:=f1.one f2;rw[m1]at m2;cases m2
     rfl
   | good _ _ _ v2 _ d2 f2=>
     obtain⟨rfl,rfl⟩:=v1.one v2;obtain rfl:=hD d1 d2;exact absurd f1.is (f2 _ f1.lt _ (aE f1.at_))
 | good g x1 o1 v1 s1 d1 f1 i1 l1=>
   cases h' with
   |none g'=>exact absurd g g'
   | off _ x2 o2=>
     rw[x1]at x2;cases x2
     rw[o1]at o2;cases o2
   | lost _ _ _ v2 b2 n2=>
     obtain⟨rfl,rfl⟩:=v1.one v2;exact absurd (s1 _ b2) n2
   | two _ _ _ v2 _ d2 f2 m2=>
     obtain⟨rfl,rfl⟩:=v1.one v2;obtain rfl:=hD d1 d2;exact absurd f2.is (f1 _ f2.lt _ (aE f2.at_))
   | good _ _ _ v2 _ d2 f2 i2 l2=>
     obtain⟨rfl,rfl⟩:=v1.one v2;obtain rfl:=hD d1 d2;have hL:=fun h y=>dz.2 ((l1 h y).trans (l2 h y).symm)
     obtain rfl:=funext fun h=>funext (hL h)
     obtain⟨hP,_⟩:=De (Ee g) (JB g) v1 s1;congr 1
     apply eZ;intro b hb;have hb:=c6.1 hb;rcases i1 b hb with⟨e1,e2⟩|⟨e1,c,c1,c2,c3⟩
     . rcases i2 b hb with⟨_,e4⟩|⟨e3,_⟩
       . rw[e2,e4]
       . exact absurd e1 e3
     . rcases i2 b hb with⟨e3,_⟩|⟨e3,c',c1',c2',c3'⟩
       . exact absurd e3 e1
       . rw[c2,c2',c3.one hP c1 c1' c3']
end Go.Proofs.YtjpobijiblcgaaaGreat
