import Derived.Test.YtjcamlobelcepaaGreatDoorCt10
import Derived.Deep.CutBlock
namespace Go.Proofs.YtjcamlobelcepaaGreatDoor
open Go.ChangeShapes Go.WideShapes Go.ChangeAt Go.RowKit
set_option linter.unusedVariables false
theorem Eo.refl{w:World}{B I L:Nat}{a:Option Addr}{c:Nat}{zs:List Int}{k:Nat}(h:Hh w B I L a c zs k):Eo w w B I L a c zs k:=⟨h,DX.refl _ _⟩
theorem Eo.trans{w u v:World}{B I L:Nat}{a:Option Addr}{c:Nat}{zs:List Int}{k k':Nat}(h:Eo w u B I L a c zs k)(h':Eo u v B I L a c zs k'):Eo w v B I L a c zs k':=⟨h'.at_,h.chg.onD h'.chg⟩
theorem Eo.keep{w u v:World}{B I L:Nat}{a:Option Addr}{c:Nat}{zs:List Int}{k:Nat}(h:Eo w u B I L a c zs k)(hb:Below u.heap.size u v):Eo w v B I L a c zs k:=⟨h.at_.keep hb,h.chg.onD (DX.of hb)⟩
theorem Eo.grow{w u v:World}{B I L:Nat}{a:Option Addr}{c:Nat}{zs:List Int}{k:Nat}(h:Eo w u B I L a c zs k){r:Option Nat}(hg:u.grownBy v r)(hr:∀g,r=some g->w.heap.size<=g)(hI:I<w.heap.size):Eo w v B I L a c zs k:=by
 have hBI:=h.at_.hB;have hIu:=h.at_.lt;refine⟨h.at_.low ⟨hg.os,hg.tape,hg.output,hg.size,fun j hj=>hg.block j (by omega) (fun e=>by have:=hr j e.symm;omega)⟩ h.at_.at_ ?_,h.chg.grown hg (fun j hj e=>by have:=hr j e.symm;omega)⟩;have hb:=h.at_.blk;unfold Ap at*;rw[hg.block I hIu (fun e=>by have:=hr I e.symm;omega)];exact hb
theorem Eo.set{w u:World}{B I L:Nat}{a:Option Addr}{c:Nat}{zs:List Int}{k:Nat}(h:Eo w u B I L a c zs k)(g i:Nat)(x:Value)(hg:w.heap.size<=g)(hI:I<w.heap.size):Eo w (u.setCell ⟨g,i,none⟩ x) B I L a c zs k:=
 h.grow (r:=some g) (by exact FC ⟨rfl,rfl,rfl,Nat.le_refl _,fun _ _ _=>rfl⟩ i x) (fun g' e=>by cases e;exact hg) hI
theorem Eo.own{u v:World}{B I L:Nat}{a:Option Addr}{c:Nat}{zs:List Int}{k:Nat}(h:Eo u v B I L a c zs k){N:Nat}(hI:I<N){e:TypeId}{s:Value}{q n:Nat}{xs:List Value}(ho:u.ownsRow N e q s n xs):v.ownsRow N e q s n xs:=h.chg.own ho (fun b hb e=>by have:=(ho.lt b hb).1;omega)
structure Br(w u:World)(Ls:List As)(B I L:Nat)(a:Option Addr)(c:Nat)(zs:List Int)(k:Nat):Prop where
 sep:CI u w.heap.size Ls
 got:Eo w u B I L a c zs k
 lt:I<w.heap.size
section
variable {w u v:World} {Ls:List As} {B I L:Nat} {a:Option Addr} {c:Nat} {zs:List Int} {k k':Nat}
theorem Br.start(h:Hh w B I L a c zs k):Br w w [] B I L a c zs k:=⟨CI.nil _ _,Eo.refl h,h.lt⟩
theorem Br.size(h:Br w u Ls B I L a c zs k):w.heap.size<=u.heap.size:=h.got.chg.size
theorem Br.keep(h:Br w u Ls B I L a c zs k)(hb:Below u.heap.size u v):Br w v Ls B I L a c zs k:=⟨h.sep.keep hb,h.got.keep hb,h.lt⟩
theorem Br.read(h:Br w u Ls B I L a c zs k)(hg:Eo u v B I L a c zs k'):Br w v Ls B I L a c zs k':=⟨h.sep.chg hg.chg (fun j hj e=>by have:=h.lt;omega),h.got.trans hg,h.lt⟩
theorem Br.box(h:Br w u Ls B I L a c zs k)(t:TypeId)(q:Nat)(xs:List Value)(hk:xs.length=q):Br w (u.alloc (.cells xs.toArray t)) (Ls++[Bb u.heap.size t q xs]) B I L a c zs k:=⟨h.sep.box h.size t q xs hk,h.got.keep (Aa _ _),h.lt⟩
theorem Br.rows(h:Br w u Ls B I L a c zs k)(hg:Eo u v B I L a c zs k'){M:List As}(hs:CI v u.heap.size M):Br w v (Ls++M) B I L a c zs k':=
 ⟨(h.read hg).sep.app hs (fun x hx g hgx=>(h.sep.lt x hx g hgx).2) h.size,(h.read hg).got,h.lt⟩
theorem Br.row(h:Br w u Ls B I L a c zs k)(hg:Eo u v B I L a c zs k'){r:As}(ho:r.own v u.heap.size):Br w v (Ls++[r]) B I L a c zs k':=
 h.rows hg ⟨fun x hx=>by rw[bO.1 hx];exact ho,dg _ _⟩
theorem Br.set{A C:List As}{X:Nat}{t:TypeId}{q:Nat}{xs:List Value}(h:Br w u (A++Bb X t q xs::C) B I L a c zs k)(i:Nat)(hi:i<q)(x:Value):Br w (u.setCell ⟨X,i,none⟩ x) (A++Bb X t q (xs.set i x)::C) B I L a c zs k:=
 ⟨h.sep.setBox i hi x,h.got.set X i x ((h.sep.lt (Bb X t q xs) (by simp) X rfl).1) h.lt,h.lt⟩
theorem Br.grow{A C:List As}{r:As}(h:Br w u (A++r::C) B I L a c zs k)(r':As)(ho:r'.own v w.heap.size)(hg:u.grownBy v r.v.ownBlock)(hat:r'.v.ownBlock=r.v.ownBlock\/∀g,r'.v.ownBlock=some g->u.heap.size<=g):Br w v (A++r'::C) B I L a c zs k:=
 ⟨h.sep.grow r' ho hg hat,h.got.grow hg (fun g e=>(h.sep.lt r (by simp) g e).1) h.lt,h.lt⟩
theorem Br.app{A C:List As}{r:As}(h:Br w u (A++r::C) B I L a c zs k)(r':As)(ho:r'.own v w.heap.size)(hg:u.grownBy v r.v.ownBlock)(hat:r'.v.ownBlock=r.v.ownBlock\/r'.v.ownBlock=some u.heap.size):Br w v (A++r'::C) B I L a c zs k:=
 h.grow r' ho hg (hat.imp_right fun e g hg=>by rw[e]at hg;cases hg;exact Nat.le_refl _)
theorem Br.sub{M:List As}(h:Br w u Ls B I L a c zs k)(hs:M.Sublist Ls):Br w u M B I L a c zs k:=⟨h.sep.sub hs,h.got,h.lt⟩
theorem Br.perm{M:List As}(h:Br w u Ls B I L a c zs k)(hs:Ls.Perm M):Br w u M B I L a c zs k:=⟨h.sep.perm hs,h.got,h.lt⟩
theorem Br.nil(h:Br w u Ls B I L a c zs k)(e:TypeId)(q:Nat):Br w u (Ls++[⟨e,q,sN,0,[]⟩]) B I L a c zs k:=
 ⟨h.sep.snoc (N:=u.heap.size) (fun x hx g hg=>(h.sep.lt x hx g hg).2) (bq _ _ _ _) h.size,h.got,h.lt⟩
theorem Br.cell{X:Nat}{t:TypeId}{q:Nat}{xs:List Value}(h:Br w u Ls B I L a c zs k)(hm:Bb X t q xs∈Ls)(i:Nat)(hi:i<q):u.cell? ⟨X,i,none⟩=xs[i]?:=Bb.cell (h.sep.own _ hm) i hi
theorem Br.frozen{X:Nat}{t:TypeId}{q:Nat}{xs:List Value}(h:Br w u Ls B I L a c zs k)(hm:Bb X t q xs∈Ls)(i:Nat):u.frozen? ⟨X,i,none⟩=false:=dM (show u.ownsRow w.heap.size t q (sG X 1 1) 1 xs from h.sep.own _ hm) i
theorem Br.four{X:Nat}{t:TypeId}{x0 x1 x2 x3:Value}(h:Br w u Ls B I L a c zs k)(hm:Bb X t 4 [x0,x1,x2,x3]∈Ls):(u.cell? ⟨X,0,none⟩=some x0/\u.cell? ⟨X,1,none⟩=some x1/\u.cell? ⟨X,2,none⟩=some x2/\u.cell? ⟨X,3,none⟩=some x3)/\(u.frozen? ⟨X,0,none⟩=false/\u.frozen? ⟨X,1,none⟩=false/\u.frozen? ⟨X,2,none⟩=false/\u.frozen? ⟨X,3,none⟩=false):=
 ⟨⟨h.cell hm 0 (by omega),h.cell hm 1 (by omega),h.cell hm 2 (by omega),h.cell hm 3 (by omega)⟩,h.frozen hm 0,h.frozen hm 1,h.frozen hm 2,h.frozen hm 3⟩
theorem Br.four_set{X:Nat}{t:TypeId}{x0 x1 x2 x3:Value}{C:List As}(h:Br w u (Bb X t 4 [x0,x1,x2,x3]::C) B I L a c zs k)(y0 y1 y2 y3:Value):Br w ((((u.setCell ⟨X,0,none⟩ y0).setCell ⟨X,1,none⟩ y1).setCell ⟨X,2,none⟩ y2).setCell ⟨X,3,none⟩ y3) (Bb X t 4 [y0,y1,y2,y3]::C) B I L a c zs k:=
 Br.set (A:=[]) (Br.set (A:=[]) (Br.set (A:=[]) (Br.set (A:=[]) h 0 (by omega) y0) 1 (by omega) y1) 2 (by omega) y2) 3 (by omega) y3
end
structure ML where
 head:Int
 back:List Int
 blocks:List Int
structure IL where
 code:Int
 at_:Int
 blocks:List MB
 order:List Int
 idom:List Int
 loops:List ML
def Ea(l:List Nat):List Int:=l.map fun(x:Nat)=>(x:Int)
theorem CM(l:List Nat):(Ea l).length=l.length:=by simp[Ea]
def nx(bs:List MB)(b:Nat):List Nat:=match bs[b]? with|some m=>m.next.map Int.toNat|none=>[]
def GY(c a:Int):IL:=⟨c,a,[],[],[],[]⟩
def Da(E:Nat->List Nat)(D L:Nat->Nat->Bool)(n j:Nat):List ML:=(List.range j).filterMap fun h=>if Bg E D n h=[]then none else some ⟨(h:Int),Ea (Bg E D n h),Ea ((List.range n).filter (L h))⟩
inductive BO (xs:List MI):IL->Prop
 |none:¬Be xs->BO xs (GY 4 0)
 |off {x:MI}:Be xs->xs[xs.length-1]?=some x->I6 x=true->BO xs (GY 1 ((xs.length:Int)-1))
 |lost {x:MI} {S O:List Nat} {b:Nat} {m:MB}:Be xs->xs[xs.length-1]?=some x->I6 x=false->Vs (nx (AE xs)) [] [] [0] S O->b<(AE xs).length->b∉S->(∀c,c<b->c∈S)->(AE xs)[b]?=some m->BO xs (GY 2 m.first)
 |two {x:MI} {S O:List Nat} {D:Nat->Nat->Bool} {b k t:Nat} {m:MB}:Be xs->xs[xs.length-1]?=some x->I6 x=false->Vs (nx (AE xs)) [] [] [0] S O->(∀c,c<(AE xs).length->c∈S)->(∀d b,D d b=true↔Fd (nx (AE xs)) d b)->Hu (nx (AE xs)) (AE xs).length (Rr O D) b k t->(AE xs)[t]?=some m->BO xs (GY 3 m.first)
 |good {x:MI} {S O:List Nat} {D L:Nat->Nat->Bool} {I:Nat->Int}:Be xs->xs[xs.length-1]?=some x->I6 x=false->Vs (nx (AE xs)) [] [] [0] S O->(∀c,c<(AE xs).length->c∈S)->(∀d b,D d b=true↔Fd (nx (AE xs)) d b)->(∀b,b<(AE xs).length->∀t∈nx (AE xs) b,¬Rr O D b t)->
  (∀b,b<(AE xs).length->(b=0/\I b=-1)\/b≠0/\∃c:Nat,c<(AE xs).length/\I b=(c:Int)/\F5 (nx (AE xs)) b c)->(∀h y,L h y=true↔Hg (nx (AE xs)) D (AE xs).length h y)->
  BO xs ⟨0,0,AE xs,Ea O.reverse,(List.range (AE xs).length).map I,Da (nx (AE xs)) D L (AE xs).length (AE xs).length⟩
theorem GG{xs:List MI}(h:Be xs):0<(AE xs).length:=by
 unfold AE;rw[bB,Ch];exact dw.2 (JS xs _ h.1)
theorem LP{xs:List MI}(hg:Be xs){b e:Nat}{x:MI}{m:MB}(hb:(Bi xs xs.length)[b]?=some m)(he:m.last=(e:Int))(hx:xs[e]?=some x){p:Int}(hp:p∈Jp xs x e):p.toNat∈Hs xs xs.length:=by
 have hen:e<xs.length:=(aE.1 hx).1;rw[Df]at hb;unfold Jp at hp;rcases ah.1 hp with hp|hp
 . by_cases h:I6 x=true/\e+1<xs.length
   . rw[bj h]at hp
     simp only[bG,bY,cZ]at hp;subst hp;rw[aX];exact MJ _ _ _ _ _ hb he h.2
   . rw[bX h]at hp
     cases hp
 . by_cases h:Bj x=true/\¬(I6 x=true/\e+1<xs.length/\x.c=((e+1:Nat):Int))
   . rw[bj h]at hp
     simp only[bG,bY,cZ]at hp;subst hp;obtain⟨h1,h2⟩:=hg.2.2 e x hx h.1;have h3:(x.c.toNat:Int)=x.c:=dx h1;exact(Dy _ _ _).2 ⟨by omega,JU xs _ e _ x hen hx (by simp[Ie,h.1,h3])⟩
   . rw[bX h]at hp
     cases hp
theorem NN{L:List Nat}{n b:Nat}{m:MB}(hs:L.Pairwise (· < ·))(hl:∀x∈L,x<n)(h:(build L n)[b]?=some m):∃e:Nat,m.last=(e:Int)/\e<n:=by
 unfold build at h;rw[dQ]at h;cases h1:L[b]? with
 |none=>rw[h1]at h;simp at h
 | some a=>
   cases h2:(L.tail++[n])[b]? with
   |none=>rw[h1,h2]at h;simp at h
   | some q=>
     rw[h1,h2]at h;simp only[aM]at h;subst h;have ha:=hl a (aF h1)
     have hq:a<q/\q<=n:=by
      by_cases hb:b<L.tail.length
      . rw[bS hb]at h2
        have hq:=dn (aF h2);refine⟨?_,dY (hl q hq)⟩;have h3:L[b+1]?=some q:=by rw[<-h2];cases L<;>simp
        obtain⟨i1,e1⟩:=aE.1 h1;obtain⟨i2,e2⟩:=aE.1 h3;rw[<-e1,<-e2];exact(dS.1 hs) b (b+1) i1 i2 (by omega)
      . rw[bH (by omega)]at h2
        have:=aF h2;simp only[bG,bY,cZ]at this;subst this;exact⟨ha,Nat.le_refl _⟩
     exact⟨q-1,by simp only[];omega,by omega⟩
theorem Q4{xs:List MI}{b:Nat}{m:MB}(h:(Bi xs xs.length)[b]?=some m):∃(e:Nat) (x:MI),m.last=(e:Int)/\xs[e]?=some x:=by
 rw[Df]at h;obtain⟨e,h1,h2⟩:=NN (FH _ _) (fun x hx=>((Dy _ _ _).1 hx).1) h;exact⟨e,_,h1,aA h2⟩
theorem Hr{xs:List MI}(hg:Be xs){b:Nat}{m:MB}(h:(AE xs)[b]?=some m){z:Int}(hz:z∈m.next):0<=z/\z<((AE xs).length:Int):=by
 unfold AE at h⊢;rw[bQ]at h;obtain⟨m0,h1,rfl⟩:=bz.1 h;obtain⟨e,x,he,hx⟩:=Q4 h1
 have hB:(DB xs m0).next=DH xs x e:=by
  unfold DB;rw[he,aX,aU,hx];rfl
 rw[hB,PM xs b e x m0 hg h1 he hx]at hz;obtain⟨p,hp,rfl⟩:=cE.1 hz;have:=dd.2 (LP hg h1 he hx hp);rw[bB,Ch];omega
theorem Sz{bs:List MB}{b:Nat}{m:MB}(h:bs[b]?=some m):nx bs b=m.next.map Int.toNat:=by unfold nx;rw[h]
theorem Sf{xs:List MI}(hg:Be xs){b:Nat}{m:MB}(h:(AE xs)[b]?=some m):m.next=Ea (nx (AE xs) b):=by
 rw[Sz h];unfold Ea;rw[eU];symm
 rw[dL (g:=id),List.map_id];intro z hz;exact dx (Hr hg h hz).1
theorem OV{xs:List MI}(hg:Be xs):∀b,b<(AE xs).length->∀x∈nx (AE xs) b,x<(AE xs).length:=fun b hb x hx=>by
 rw[Sz (aA hb)]at hx;obtain⟨z,hz,rfl⟩:=cE.1 hx;have:=Hr hg (aA hb) hz;omega
theorem Fm{xs:List MI}(hg:Be xs):(AE xs).length<=1024:=by
 unfold AE;rw[bB,Ch];have:=cT (BN xs xs.length) (List.range xs.length);have h2:=hg.2.1;simp only[br]at this;exact aR this h2
theorem J4(bs:List MB)(h:∀m∈bs,m.next.length<=2)(b:Nat):(nx bs b).length<=2:=by
 unfold nx;cases hb:bs[b]? with
 |none=>simp
 |some m=>simpa using h m (aF hb)
theorem GO(xs:List MI):∀m∈AE xs,m.next.length<=2:=by
 intro f hf;unfold AE at hf;obtain⟨m,_,rfl⟩:=cE.1 hf;simp only[DB,DH];split<;>split<;>simp
theorem BO.one{xs:List MI}{r r':IL}(h:BO xs r)(h':BO xs r'):r=r':=by
 have hD:∀{E:Nat->List Nat} {D D':Nat->Nat->Bool},(∀d b,D d b=true↔Fd E d b)->(∀d b,D' d b=true↔Fd E d b)->D=D':=fun h1 h2=>by
  funext d b
  rw[eA,h1,h2]
 cases h with
 | none g=>
   cases h' with
   |none _=>rfl
   |_ g'=>exact absurd g' g
 | off g x1 o1=>
   cases h' with
   |none g'=>exact absurd g g'
   |off _ _ _=>rfl
   | lost _ x2 o2|two _ x2 o2|good _ x2 o2=>
     rw[x1]at x2;cases x2
     rw[o1]at o2;cases o2
 | @lost _ _ _ b m g x1 o1 v1 b1 n1 l1 m1=>
   cases h' with
   |none g'=>exact absurd g g'
   | off _ x2 o2=>
     rw[x1]at x2;cases x2
     rw[o1]at o2;cases o2
   | @lost _ _ _ b' m' _ x2 o2 v2 b2 n2 l2 m2=>
     obtain⟨rfl,rfl⟩:=v1.one v2
     have:b=b':=by
      rcases Nat.lt_trichotomy b b' with q|q|q
      . exact absurd (l2 _ q) n1
      . exact q
      . exact absurd (l1 _ q) n2
     subst this;rw[m1]at m2;cases m2
     rfl
   | two _ _ _ v2 s2|good _ _ _ v2 s2=>
     obtain⟨rfl,rfl⟩:=v1.one v2;exact absurd (s2 _ b1) n1
 | two g x1 o1 v1 s1 d1 f1 m1=>
   cases h' with
   |none g'=>exact absurd g g'
   | off _ x2 o2=>
     rw[x1]at x2;cases x2
     rw[o1]at o2;cases o2
   | lost _ _ _ v2 b2 n2=>
     obtain⟨rfl,rfl⟩:=v1.one v2;exact absurd (s1 _ b2) n2
   | two _ _ _ v2 _ d2 f2 m2=>
     obtain⟨rfl,rfl⟩:=v1.one v2;obtain rfl:=hD d1 d2;obtain rfl:=f1.one f2;rw[m1]at m2;cases m2
     rfl
   | good _ _ _ v2 _ d2 f2=>
     obtain⟨rfl,rfl⟩:=v1.one v2;obtain rfl:=hD d1 d2;exact absurd f1.is (f2 _ f1.lt _ (aF f1.at_))
 | good g x1 o1 v1 s1 d1 f1 i1 l1=>
   cases h' with
   |none g'=>exact absurd g g'
   | off _ x2 o2=>
     rw[x1]at x2;cases x2
     rw[o1]at o2;cases o2
   | lost _ _ _ v2 b2 n2=>
     obtain⟨rfl,rfl⟩:=v1.one v2;exact absurd (s1 _ b2) n2
   | two _ _ _ v2 _ d2 f2 m2=>
     obtain⟨rfl,rfl⟩:=v1.one v2;obtain rfl:=hD d1 d2;exact absurd f2.is (f1 _ f2.lt _ (aF f2.at_))
   | good _ _ _ v2 _ d2 f2 i2 l2=>
     obtain⟨rfl,rfl⟩:=v1.one v2;obtain rfl:=hD d1 d2;have hL:=fun h y=>eA.2 ((l1 h y).trans (l2 h y).symm)
     obtain rfl:=funext fun h=>funext (hL h)
     obtain⟨hP,_⟩:=EO (GG g) (OV g) v1 s1;congr 1
     apply dL;intro b hb;have hb:=cX.1 hb;rcases i1 b hb with⟨e1,e2⟩|⟨e1,c,c1,c2,c3⟩
     . rcases i2 b hb with⟨_,e4⟩|⟨e3,_⟩
       . rw[e2,e4]
       . exact absurd e1 e3
     . rcases i2 b hb with⟨e3,_⟩|⟨e3,c',c1',c2',c3'⟩
       . exact absurd e3 e1
       . rw[c2,c2',c3.one hP c1 c1' c3']
end Go.Proofs.YtjcamlobelcepaaGreatDoor
