import Derived.Test.YtjnglocdoljgkaaGreatSw5
namespace Go.Proofs.YtjnglocdoljgkaaGreat
open Go.ChangeShapes Go.WideShapes Go.ChangeAt Go.RowKit
set_option linter.unusedVariables false
open Go.Value renaming slice → Z
open Option renaming some → K,none → M
open Go renaming Value → J,World → Y,Calls → Ae
open Go.RowKit renaming Hid → Aa,Below → Ad
set_option maxHeartbeats 2000000
set_option maxRecDepth 100000
variable {xs:List MI}{b:Nat}{m:MB}
def Bn(a:List MF):Prop:=¬a.length=0/\a.length<=32/\(∀j,j<a.length->∀f,a[j]?=K f->Cd f)/\∀f,a[0]?=K f->Js f
theorem LS(s:J)(a:List MF)(w:Y)(hL:a.length<=1048576)(hs:∀f∈a,f.small)(h:NX w s a):
 Ae Tryz.prog 55 #[s] w λe w'=>AC e (Bn a)/\Ad w.heap.size w w':=by
 obtain⟨xs,aj,ah,aw⟩:=h;have aD:xs.length=a.length:=by rw[<-aj];simp
 have p:=Ap (ji ah (ji aj (ji aw (ji hs aD))));obtain⟨a1,c1,rfl⟩:=ah.fu;generalize am:a.length=n at hL p;have F:=Ap am;by_cases N:n=0
 . subst N;(have C:Aa (¬Bn a):= λe=>e.1 F.o);go_enter Tryz.func55,Tryz.ntmps55;go_wp2;go_ret;exact⟨.no C.o,lQ _ _⟩
 have aH:((n:Int)==0)=false:=by simpa using N
 by_cases q1:32<n
 . (have C:Aa (¬Bn a):= λe=>absurd e.2.1 (by rw[F.o];omega));have aE:(32:Int)<(n:Int):=oM;go_enter Tryz.func55,Tryz.ntmps55;go_wp2;go_ret;exact⟨.no C.o,lQ _ _⟩
 have aE:¬(32:Int)<(n:Int):=oM;go_enter Tryz.func55,Tryz.ntmps55;go_wp2;go_loopw [15] (λi wr=>∃k:Nat,k<=n/\i=iZ k/\Aa (∀j,j<k->∀f,a[j]?=K f->Cd f)/\Aa (Ad w w wr)) (λi _=>n-(intOf i).toNat)
 case atStart=>exact⟨0,oM,rfl, λj hj=>oM,lQ _ _⟩
 obtain⟨k,hk,rfl,S,t⟩:=hrel;by_cases ae:k<n
 . obtain⟨⟨f,v⟩,z⟩:∃x,xs[k]?=K x:=⟨_,an (by rw[p.o.2.2.2.2];exact ae)⟩;have y:=CT p.o.2.1 z;have l:=Ap (ji ((p.o.2.2.1 _ (i8 z)).bM t.o lR) (ji (p.o.2.2.2.1 _ (i8 y)) y));rcases p.o.1.2 with⟨e0,_⟩|⟨b,o,c,y,D⟩
   . omega
   simp only[jc,lO]at y;obtain⟨rfl,rfl⟩:=y;have A:=Rd.elem Aq D k _ z 0 _ rfl;have B:=Rd.elem Aq D k _ z 1 _ rfl;have I:=Rd.elem Aq D k _ z 2 _ rfl;have L:=Rd.elem Aq D k _ z 3 _ rfl;rw[<-t.o.cell (jC A),kZ]at A;rw[<-t.o.cell (jC B)]at B;rw[<-t.o.cell (jC I)]at I;rw[<-t.o.cell (jC L)]at L;simp only[]at A B I L;obtain⟨T,cp,G⟩:=l.o.1.1.fu;obtain⟨al,cl,el⟩:=l.o.1.2.1.fu;obtain⟨ac,cc,ec⟩:=l.o.1.2.2.fu;obtain⟨vp,vl,vc⟩:=v;simp only[]at G el ec A B I L;subst G el ec;have nb:¬b=wr.heap.size:=mE (jC A);have mb:b<wr.heap.size:=jC A;go_wp2_with fail;(have A1:= λW (hW:Ad wr wr W)=>LR ⟨Z T f.d5 cp,Z al f.en cl,Z ac f.ch cc⟩ f W l.o.2.1 (l.o.1.bM hW lR));refine(A1 _ (Ag _ _)).mono ?_;rintro e u ⟨⟨b0,rfl,a8⟩,au⟩;have O:Aa (Ad w w u):=Ai t.o lR (Ai (Ag _ _) lR au);cases b0
   . (have C:Aa (¬Bn a):= λe=>by have:=e.2.2.1 k (by rw[F.o];exact ae) f l.o.2.2;simp[this]at a8);go_wp2;go_ret;exact⟨.no C.o,O.o⟩
   have HC:Aa (Cd f):=a8.1 rfl;go_wp2;go_roundw;(case rel=>exact⟨k+1,oM,by go_num,C4 l.o.2.2 HC.o S.o,O⟩);exact oI
 have aA:n=k:=oM;subst aA;obtain⟨⟨f,v⟩,z⟩:∃x,xs[0]?=K x:=⟨_,an (by rw[p.o.2.2.2.2];omega)⟩;have y:=CT p.o.2.1 z;have l:=Ap (ji ((p.o.2.2.1 _ (i8 z)).bM t.o lR) (ji (p.o.2.2.2.1 _ (i8 y)) y));rcases p.o.1.2 with⟨e0,_⟩|⟨b,o,c,y,D⟩
 . omega
 simp only[jc,lO]at y;obtain⟨rfl,rfl⟩:=y;have A:=Rd.elem Aq D 0 _ z 0 _ rfl;have B:=Rd.elem Aq D 0 _ z 1 _ rfl;rw[<-t.o.cell (jC A)]at A;simp only[Nat.zero_mul,kZ]at A;rw[<-t.o.cell (jC B),Nat.zero_mul,kZ]at B;obtain⟨T,cp,G⟩:=l.o.1.1.fu;obtain⟨vp,vl,vc⟩:=v;simp only[]at G A B;subst G;have Q:Aa (Bn a↔Js f):=by show _↔_;refine⟨λe=>e.2.2.2 f l.o.2.2, λe=>⟨by rw[F.o];exact N,by rw[F.o];omega,by rw[F.o];exact S.o, λg hg=> ?_⟩⟩;rw[l.o.2.2]at hg;exact(kN hg)▸e
 have aG:=l.o.2.1.1;generalize ao:f.d5.length=n1 at*;generalize aq:f.gz=R at*;have H:=Ap (ji ao aq);have aF:(0:Int)<(n:Int):=oM;by_cases z1:n1=0
 . subst z1;(have HY:Aa ((R==0)=true↔Bn a):=by show _↔_;rw[Q.o,beq_iff_eq];exact⟨λe=>⟨H.o.1,H.o.2.trans e⟩, λe=>H.o.2.symm.trans e.2⟩);go_wp2;go_ret;exact⟨.of HY.o,t.o⟩
 have aI:((n1:Int)==0)=false:=by simpa using z1
 have C:Aa (¬Bn a):= λe=>z1 (H.o.1.symm.trans (Q.o.1 e).1)
 go_wp2;go_ret;exact⟨.no C.o,t.o⟩
structure ML where
 head:Int
 back:List Int
 ej:List Int
structure Fy where
 ch:Int
 at_:Int
 ej:List MB
 gJ:List Int
 gS:List Int
 gI:List ML
def ints(l:List Nat):List Int:=l.map λ(x:Nat)=>(x:Int)
theorem AU(l:List Nat):(ints l).length=l.length:=by simp[ints]
def nx(a:List MB)(b:Nat):List Nat:=match a[b]? with|some m=>m.next.map Int.toNat|none=>[]
def El(c a:Int):Fy:=⟨c,a,[],[],[],[]⟩
def Cg(E:Nat->List Nat)(D L:Nat->Nat->Bool)(n j:Nat):List ML:=(List.range j).filterMap λh=>if AJ E D n h=[]then M else K ⟨(h:Int),ints (AJ E D n h),ints ((List.range n).filter (L h))⟩
inductive Bc (xs:List MI):Fy->Prop
 |none:¬AH xs->Bc xs (El 4 0)
 |off {x:MI}:AH xs->xs[xs.length-1]?=K x->DQ x=true->Bc xs (El 1 ((xs:Int)-1))
 |lost {x:MI} {S O:List Nat} {b:Nat} {m:MB}:AH xs->xs[xs.length-1]?=K x->DQ x=false->Vs (nx (At xs)) [] [] [0] S O->b<(At xs).length->b∉S->(∀c,c<b->c∈S)->(At xs)[b]?=K m->Bc xs (El 2 m.gK)
 |two {x:MI} {S O:List Nat} {D:Nat->Nat->Bool} {b k t:Nat} {m:MB}:AH xs->xs[xs.length-1]?=K x->DQ x=false->Vs (nx (At xs)) [] [] [0] S O->(∀c,c<(At xs).length->c∈S)->(∀d b,D d b=true↔Es (nx (At xs)) d b)->FU (nx (At xs)) (At xs).length (LE O D) b k t->(At xs)[t]?=K m->Bc xs (El 3 m.gK)
 |good {x:MI} {S O:List Nat} {D L:Nat->Nat->Bool} {I:Nat->Int}:AH xs->xs[xs.length-1]?=K x->DQ x=false->Vs (nx (At xs)) [] [] [0] S O->(∀c,c<(At xs).length->c∈S)->(∀d b,D d b=true↔Es (nx (At xs)) d b)->(∀b,b<(At xs).length->∀t∈nx (At xs) b,¬LE O D b t)->
  (∀b,b<(At xs).length->(b=0/\I b=-1)\/b≠0/\∃c:Nat,c<(At xs).length/\I b=(c:Int)/\Gl (nx (At xs)) b c)->(∀h y,L h y=true↔DZ (nx (At xs)) D (At xs).length h y)->
  Bc xs ⟨0,0,At xs,ints O.reverse,(List.range (At xs).length).map I,Cg (nx (At xs)) D L (At xs).length (At xs).length⟩
theorem Dj(h:AH xs):0<(At xs).length:=by unfold At;rw[kW,BH];exact nV.2 (IA xs _ h.1)
theorem EJ(l:AH xs){e:Nat}{x:MI}(g:(Bw xs xs)[b]?=K m)(j:m.last=(e:Int))(f:xs[e]?=K x){p:Int}(a:p∈AO xs x e):p.toNat∈Cs xs xs:=by
 have k:e<xs.length:=(iV.1 f).1;rw[Cp]at g;unfold AO at a;rcases kS.1 a with a|a
 . by_cases h:DQ x=true/\e+1< ↑xs
   . rw[lS h]at a;simp only[lA,lW,mZ]at a;subst a;rw[kM];exact KA _ _ _ _ _ g j h.2
   rw[lE h]at a;cases a
 by_cases h:AR x=true/\¬(DQ x=true/\e+1< ↑xs/\x.c=((e+1:Nat):Int))
 . rw[lS h]at a;simp only[lA,lW,mZ]at a;subst a;obtain⟨h1,h2⟩:=l.2.2 e x f h.1;have i:(x.c.toNat:Int)=x.c:=nE h1;exact(Cf _ _ _).2 ⟨oM,Hb xs _ e _ x k f (by simp[Fq,h.1,i])⟩
 rw[lE h]at a;cases a
theorem P7{L:List Nat}{n:Nat}(r:L.Pairwise (· < ·))(f:∀x∈L,x<n)(h:(build L n)[b]?=K m):∃e:Nat,m.last=(e:Int)/\e<n:=by
 unfold build at h;rw[my]at h;cases h1:L[b]? with
 |none=>rw[h1]at h;simp at h
 | some a=>
   cases h2:(L.tail++[n])[b]? with
   |none=>rw[h1,h2]at h;simp at h
   | some q=>
     rw[h1,h2]at h;simp only[kK]at h;subst h;have l:=f a (i8 h1);have g:a<q/\q<=n:=by
      by_cases p:b< ↑L.tail
      . rw[ld p]at h2;have g:=oP (i8 h2);refine⟨?_,nM (f q g)⟩;(have k:L[b+1]?=K q:=by rw[<-h2];cases L<;>simp);obtain⟨s,i⟩:=iV.1 h1;obtain⟨t,j⟩:=iV.1 k;rw[<-i,<-j];exact(nN.1 r) b (b+1) s t oM
      rw[lN oM]at h2;have:=i8 h2;simp only[lA,lW,mZ]at this;subst this;exact⟨l,Nat.le_refl _⟩
     exact⟨q-1,oS,oM⟩
theorem T1(h:(Bw xs xs)[b]?=K m):∃(e:Nat) (x:MI),m.last=(e:Int)/\xs[e]?=K x:=by rw[Cp]at h;obtain⟨e,h1,h2⟩:=P7 (CC _ _) (λx a=>((Cf _ _ _).1 a).1) h;exact⟨e,_,h1,an h2⟩
theorem GG(g:AH xs)(h:(At xs)[b]?=K m){z:Int}(i:z∈m.next):0<=z/\z<((At xs).length:Int):=by
 unfold At at h⊢;rw[lG]at h;obtain⟨j,h1,rfl⟩:=mK.1 h;obtain⟨e,x,a,f⟩:=T1 h1;have k:(DY xs j).next=DA xs x e:=by unfold DY;rw[a,kM,lD,f];rfl
 rw[k,JE xs b e x j g h1 a f]at i;obtain⟨p,l,rfl⟩:=lK.1 i;have:=nh.2 (EJ g h1 a f l);rw[kW,BH];omega
theorem K6{a:List MB}(h:a[b]?=K m):nx a b=m.next.map Int.toNat:=by unfold nx;rw[h]
theorem Vw(a:AH xs)(h:(At xs)[b]?=K m):m.next=ints (nx (At xs) b):=by
 rw[K6 h];unfold ints;rw[ni];symm
 rw[nF (g:=id),List.map_id];intro z e;exact nE (GG a h e).1
theorem Io(f:AH xs):∀b,b<(At xs).length->∀x∈nx (At xs) b,x<(At xs).length:= λb a x e=>by rw[K6 (an a)]at e;obtain⟨z,g,rfl⟩:=lK.1 e;have:=GG f (an a) g;omega
theorem Eo(a:AH xs):(At xs).length<=1024:=by unfold At;rw[kW,BH];have:=mc (BO xs xs) (List.range xs);have h2:=a.2.1;simp only[mS]at this;exact kT this h2
theorem Jh(a:List MB)(h:∀m∈a,m.next.length<=2)(b:Nat):(nx a b).length<=2:=by
 unfold nx;cases hb:a[b]? with
 |none=>simp
 |some m=>simpa using h m (i8 hb)
theorem Gg(xs:List MI):∀m∈At xs,m.next.length<=2:=by intro f a;unfold At at a;obtain⟨m,_,rfl⟩:=lK.1 a;simp only[DY,DA];split<;>split<;>simp
theorem Bc.one{r p:Fy}(h:Bc xs r)(f:Bc xs p):r=p:=by
 have j:∀{E:Nat->List Nat} {D l:Nat->Nat->Bool},(∀d b,D d b=true↔Es E d b)->(∀d b,l d b=true↔Es E d b)->D=l:= λh1 h2=>by
  funext d b
  rw[n9,h1,h2]
 cases h with
 | none g=>
   cases f with
   |none _=>rfl
   |_ a=>exact absurd a g
 | off g x1 o1=>
   cases f with
   |none a=>exact absurd g a
   |off _ _ _=>rfl
   | lost _ x2 o2|two _ x2 o2|good _ x2 o2=>rw[x1]at x2;(cases x2);rw[o1]at o2;cases o2
 | @lost _ _ _ b m g x1 o1 v1 b1 n1 l1 m1=>
   cases f with
   |none a=>exact absurd g a
   | off _ x2 o2=>rw[x1]at x2;(cases x2);rw[o1]at o2;cases o2
   | @lost _ _ _ b' m' _ x2 o2 v2 b2 n2 l2 m2=>
     obtain⟨rfl,rfl⟩:=v1.one v2;have:b=b':=by
      rcases Nat.lt_trichotomy b b' with q|q|q
      . exact absurd (l2 _ q) n1
      . exact q
      exact absurd (l1 _ q) n2
     subst this;rw[m1]at m2;(cases m2);rfl
   | two _ _ _ v2 s2|good _ _ _ v2 s2=>obtain⟨rfl,rfl⟩:=v1.one v2;exact absurd (s2 _ b1) n1
 | two g x1 o1 v1 s1 d1 f1 m1=>
   cases f with
   |none a=>exact absurd g a
   | off _ x2 o2=>rw[x1]at x2;(cases x2);rw[o1]at o2;cases o2
   | lost _ _ _ v2 b2 n2=>obtain⟨rfl,rfl⟩:=v1.one v2;exact absurd (s1 _ b2) n2
   | two _ _ _ v2 _ d2 f2 m2=>obtain⟨rfl,rfl⟩:=v1.one v2;obtain rfl:=j d1 d2;obtain rfl:=f1.one f2;rw[m1]at m2;(cases m2);rfl
   | good _ _ _ v2 _ d2 f2=>obtain⟨rfl,rfl⟩:=v1.one v2;obtain rfl:=j d1 d2;exact absurd f1.is (f2 _ f1.lt _ (i8 f1.at_))
 | good g x1 o1 v1 s1 d1 f1 i1 l1=>
   cases f with
   |none a=>exact absurd g a
   | off _ x2 o2=>rw[x1]at x2;(cases x2);rw[o1]at o2;cases o2
   | lost _ _ _ v2 b2 n2=>obtain⟨rfl,rfl⟩:=v1.one v2;exact absurd (s1 _ b2) n2
   | two _ _ _ v2 _ d2 f2 m2=>obtain⟨rfl,rfl⟩:=v1.one v2;obtain rfl:=j d1 d2;exact absurd f2.is (f1 _ f2.lt _ (i8 f2.at_))
   | good _ _ _ v2 _ d2 f2 i2 l2=>
     obtain⟨rfl,rfl⟩:=v1.one v2;obtain rfl:=j d1 d2;(have B:= λh y=>n9.2 ((l1 h y).trans (l2 h y).symm));(obtain rfl:=funext λh=>funext (B h));obtain⟨C,_⟩:=Cx (Dj g) (Io g) v1 s1;(congr 1);apply nF;intro b i;have i:=mz.1 i;rcases i1 b i with⟨k,A⟩|⟨k,c,c1,c2,c3⟩
     . rcases i2 b i with⟨_,e4⟩|⟨e3,_⟩
       . rw[A,e4]
       exact absurd k e3
     rcases i2 b i with⟨e3,_⟩|⟨e3,c',s,t,z⟩
     . exact absurd e3 k
     rw[c2,t,c3.one C c1 s z]
end Go.Proofs.YtjnglocdoljgkaaGreat
