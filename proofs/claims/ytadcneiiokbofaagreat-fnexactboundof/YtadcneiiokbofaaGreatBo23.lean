import Derived.Test.YtadcneiiokbofaaGreatBo21
namespace Go.Proofs.YtadcneiiokbofaaGreat
open Go.ChangeShapes Go.WideShapes Go.ChangeAt Go.RowKit Go.Proofs.Tryz
set_option linter.unusedVariables false
open Option renaming some → K,none → M
open Go.Value renaming slice → Z,tuple → Ao
open Go renaming Value → J,World → Y,Calls → Ai
open Go.RowKit renaming Hid → Ae,Below → Ah
open Go.IntKind renaming i64 → Af
open Go.Obj renaming cells → Ak
open Go.Ending renaming returned → Al
open Go.Proofs.Tryz renaming prog → Ap
open Go.World renaming setCell → Aa,ownsRow → Ab,alloc → Ac
set_option maxHeartbeats 8000000
set_option maxRecDepth 100000
variable {f:MF}{done l:List Nat}{b:Nat}{a:List MB}{m:MB}{p:MP}
structure WI where
 c:Nat->Bool
 r:Nat->List Int
 d:Nat
def FG(a:List MB)(b:Nat):Nat:=match a[b]? with|some m=>m.gZ.toNat|none=>0
def Ji(C:Nat->Bool)(t:Nat):Nat->Bool:= λj=>if j=t then true else C j
def Fa(a:List MB):List Nat->List Int->(Nat->Bool)->(Nat->List Int)->Option ((Nat->Bool)×(Nat->List Int))
 |[],_,C,R=>K (C,R)
 |t::r,sh,C,R=>if C t=true then(if R (FG a t)=sh then Fa a r sh C R else M)else Fa a r sh (Ji C t) (CR R (FG a t) sh)
abbrev Ow:=Sum (Int×Nat) WI
def G7(p:MP)(f:MF)(a:List MB)(m:MB)(s:WI):Ow:=match CY p f (m.last-m.gZ+1).toNat m.gZ.toNat (s.r m.gZ.toNat) s.r s.d with
 |.inl e=>.inl e
 | .inr (sh,R,D)=>match Fa a (m.next.map Int.toNat) sh s.c R with
   |none=>.inl (4,m.last.toNat)
   |some (C,R')=>.inr ⟨C,R',D⟩
def Ie(p:MP)(f:MF)(a:List MB):List Nat->WI->Ow
 |[],s=>.inr s
 | b ::r,s=>match a[b]? with
   |none=>.inr s
   | some m=>match G7 p f a m s with
     |.inl e=>.inl e
     |.inr s'=>Ie p f a r s'
def Uy:WI:=⟨λb=>decide (b=0), λ_=>[],0⟩
def XF(n:Nat):Ow->RC
 |.inl (c,a)=>⟨c,(a:Int),0,[]⟩
 |.inr s=>⟨0,0,(s.d:Int),(List.range n).map s.r⟩
theorem V8(p:MP)(f:MF)(c:Nat):∀(a:Nat) (sh:List Int) (T d:Nat->List Int) (D:Nat),a+c<= ↑f.bO->(∀e,CY p f c a sh T D=.inl e->CY p f c a sh d D=.inl e)/\∀i b g,CY p f c a sh T D=.inr (i,b,g)->∃k,CY p f c a sh d D=.inr (i,k,g)/\(∀j,j<a\/a+c<=j->b j=T j/\k j=d j)/\(∀j,a<=j->j<a+c->b j=k j)/\(0<c->b a=sh):=by
 induction c with
 | zero=>intro a sh T d D s;refine⟨λe h=>by simp[CY]at h, λi b g h=> ?_⟩;simp only[CY,Sum.inr.injEq,Prod.mk.injEq]at h;obtain⟨rfl,rfl,rfl⟩:=h;exact⟨d,rfl, λj _=>⟨rfl,rfl⟩, λj q n=>oM, λh=>oM⟩
 | succ c w=>
   intro a sh T d D s;obtain⟨x,t⟩:∃x,f.bO[a]?=K x:=⟨_,an oM⟩;simp only[CY,t];by_cases m:BJ p f x sh=0
   . rw[lZ m,lZ m];obtain⟨u,v⟩:=w (a+1) (Dt p f x sh) (CR T a sh) (CR d a sh) (max D (Dt p f x sh).length) oM;refine⟨u, λi b g h=> ?_⟩;obtain⟨k,q,n,r,y⟩:=v i b g h;have l:=n a (.inl oM);simp only[CR,if_true]at l;refine⟨k,q, λj z=> ?_, λj A B=> ?_, λ_=>l.1⟩
     . have:=n j oM;simp only[CR]at this;rw[lS oM,lS oM]at this;exact this
     by_cases e:j=a
     . subst e;rw[l.1,l.2]
     exact r j oM oM
   rw[lS m,lS m];exact⟨λe h=>h, λi b g h=>by cases h⟩
structure Ov(bs:List MB)(done:List Nat)(s:WS)(s':WI):Prop where
 c:∀b,s'.c b=(s.c b).isSome
 d:s'.d=s.d
 dn:∀b∈done,b< ↑bs/\s.c b=K (s.t (FG bs b))
 wt:∀b,b< ↑bs->b∉done->∀sh,s.c b=K sh->s'.r (FG bs b)=sh
 eq:∀j,(∀b,b< ↑bs->b∉done->FG bs b=j->s.c b=M)->s'.r j=s.t j
theorem Vx{f:List MB}(G:∀a b,a< ↑f->b< ↑f->FG f a=FG f b->a=b){T:Nat->List Int}{D:Nat}(sh:List Int)(nx:List Nat):∀(C:Nat->Option (List Int)) (m:Nat->Bool) (R:Nat->List Int),(∀t∈nx,t< ↑f)->Ov f done ⟨C,T,D⟩ ⟨m,R,D⟩->(Gv nx sh C=M/\Fa f nx sh m R=M)\/∃C2 p r,Gv nx sh C=K C2/\Fa f nx sh m R=K (p,r)/\Ov f done ⟨C2,T,D⟩ ⟨p,r,D⟩/\(∀t∈nx,(C2 t).isSome=true)/\(∀t,(C t).isSome=true->(C2 t).isSome=true):=by
 induction nx with
 | nil=>intro C m R _ h;exact .inr ⟨C,m,R,rfl,rfl,h, λt F=>(by cases F), λt F=>F⟩
 | cons t nx O=>
   intro C m R I h;have z:=I t sP;(have L:∀t∈nx,t<f.length:= λq k=>I q (by simp[k]));have n:=h.c t;simp only[]at n;cases e:C t with
   | some w=>
     have P:R (FG f t)=w:=by
      by_cases v:t∈done
      . have d:=h.eq (FG f t) (λb l u x=>absurd (by rw[G b t l z x];exact v) u);have g:=(h.dn t v).2;simp only[]at d g;rw[d];rw[e]at g;exact(lP g).symm
      exact h.wt t z v w e
     rw[e]at n;simp only[Option.isSome_some]at n;simp only[Gv,Fa,e,n,P,if_true];by_cases y:w=sh
     . rw[lZ y,lZ y];rcases O C m R L h with⟨d,g⟩|⟨C2,p,r,d,g,A,B,s⟩
       . exact .inl ⟨d,g⟩
       refine .inr ⟨C2,p,r,d,g,A, λq k=> ?_,s⟩;rcases lw.1 k with rfl|k
       . exact s q (by rw[e];rfl)
       exact B q k
     rw[lS y,lS y];exact .inl ⟨rfl,rfl⟩
   | none =>
     rw[e]at n;simp only[Option.isSome_none]at n;(have N:t∉done:= λv=>by have:=(h.dn t v).2;simp only[]at this;rw[e]at this;cases this);have hrel:Ov f done ⟨Gy C t sh,T,D⟩ ⟨Ji m t,CR R (FG f t) sh,D⟩:=by
      refine⟨λb=> ?_,rfl, λb l=> ?_, λb l u w d=> ?_, λj H=> ?_⟩
      . simp only[Gy,Ji];by_cases i:b=t
        . rw[lZ i,lZ i];rfl
        rw[lS i,lS i];exact h.c b
      . have:=h.dn b l;refine⟨this.1,?_⟩;simp only[Gy];rw[lS (λq:b=t=>N (q▸l))];exact this.2
      . simp only[Gy]at d;simp only[CR];by_cases i:b=t
        . subst i;rw[lZ rfl]at d;rw[lZ rfl];exact lP d
        rw[lS i]at d;rw[lS (λq=>i (G b t l z q))];exact h.wt b l u w d
      simp only[CR];by_cases E:j=FG f t
      . have:=H t z N E.symm;simp only[Gy,if_true]at this;cases this
      rw[lS E];(refine h.eq j λb l u x=> ?_);have:=H b l u x;simp only[Gy]at this;by_cases i:b=t
      . subst i;exact absurd x.symm E
      rw[lS i]at this;exact this
     simp only[Gv,Fa,e,n];rw[lS sP];rcases O _ _ _ L hrel with⟨d,g⟩|⟨C2,p,r,d,g,A,B,s⟩
     . exact .inl ⟨d,g⟩
     refine .inr ⟨C2,p,r,d,g,A, λq k=> ?_, λq k=>s q ?_⟩
     . rcases lw.1 k with rfl|k
       . exact s q (by simp[Gy])
       exact B q k
     simp only[Gy];split
     . rfl
     exact k
structure Pu(xs:List MI)(bs:List MB):Prop where
 inj:∀a b,a< ↑bs->b< ↑bs->FG bs a=FG bs b->a=b
 part:∀(b:Nat) (m:MB),bs[b]?=K m->∃a e:Nat,m.gZ=(a:Int)/\m.last=(e:Int)/\a<=e/\e< ↑xs
 apart:∀(b t:Nat) (m:MB),bs[b]?=K m->t< ↑bs->b≠t->¬(m.gZ<=(FG bs t:Int)/\(FG bs t:Int)<=m.last)
 next:∀(b:Nat) (m:MB),bs[b]?=K m->∀t∈m.next.map Int.toNat,t< ↑bs
theorem Jx{c:List MB}{a:Nat}(h:c[b]?=K m)(d:m.gZ=(a:Int)):FG c b=a:=by unfold FG;rw[h];simp only[d,lD]
theorem PN{xs:List MI}(l:AZ xs):Pu xs (AL xs):=by
 refine⟨λa b e c h=> ?_, λb m h=>DO h, λb t m h d f=> ?_, λb m h t d=> ?_⟩
 . apply mr;intro f;obtain⟨s,u,n,w,x,y⟩:=DO (an e);obtain⟨i,j,g,p,q,r⟩:=DO (an c);have v:=Jx (an e) n;have k:=Jx (an c) g;exact Nt (an e) (an c) f oM
 . obtain⟨i,j,g,p,q,r⟩:=DO (an d);have k:=Jx (an d) g;have:=Nt h (an d) f;omega
 have c:=(i8.1 h).1;exact JF l b c t (by rw[Tg h];exact d)
theorem V5(n:Pu f.bO a)(k:a[b]?=K m)(I:b∉done){s:WS}{l:WI}(T:(s.c b).isSome=true)(h:Ov a done s l):(∃e,QM p f m b s=.inl e/\G7 p f a m l=.inl e)\/∃w Q,QM p f m b s=.inr w/\G7 p f a m l=.inr Q/\Ov a (b::done) w Q/\(∀t∈m.next.map Int.toNat,(w.c t).isSome=true)/\(∀t,(s.c t).isSome=true->(w.c t).isSome=true):=by
 obtain⟨A,z⟩:=Option.isSome_iff_exists.1 T;obtain⟨i,me,F,S,h3,h4⟩:=n.part b m k;have G:=(i8.1 k).1;have L:=Jx k F;have P:=h.wt b G I A z;rw[L]at P;unfold QM G7;have R:(m.last-m.gZ+1).toNat=me+1-i:=oM;rw[R,F,S,lD,lD,z,P,ov,h.d];obtain⟨W,X⟩:=V8 p f (me+1-i) i A s.t l.r s.d oM;cases hk:CY p f (me+1-i) i A s.t s.d with
 |inl e=>exact .inl ⟨e,rfl,by rw[W e hk]⟩
 | inr q=>
   obtain⟨sh,E,x⟩:=q;obtain⟨D,q1,v,q3,q4⟩:=X sh E x hk;have qa:=q4 oM;rw[q1];have hrel:Ov a (b::done) ⟨s.c,E,x⟩ ⟨l.c,D,x⟩:=by
    refine⟨h.c,rfl, λt g=> ?_, λt g u ae V=> ?_, λj N=> ?_⟩
    . rcases lw.1 g with rfl|g
      . exact⟨G,by simp only[];rw[L,qa];exact z⟩
      have q:=h.dn t g;(have y:b≠t:= λq=>I (q▸g));have:=n.apart b t m k q.1 y;refine⟨q.1,?_⟩;simp only[];rw[(v (FG a t) oM).1];exact q.2
    . (have y:b≠t:= λq=>u (by simp[q]));have:=n.apart b t m k g y;simp only[];rw[(v (FG a t) oM).2];exact h.wt t g (λq=>u (by simp[q])) ae V
    simp only[]at N⊢;by_cases O:i<=j/\j<i+(me+1-i)
    . exact(q3 j O.1 O.2).symm
    rw[(v j oM).1,(v j oM).2];(refine h.eq j λt g u U=> ?_);by_cases H:t=b
    . subst H;omega
    exact N t g (by simp[H,u]) U
   rcases Vx n.inj sh (m.next.map Int.toNat) s.c l.c D (n.next b m k) hrel with⟨B,C⟩|⟨C2,ah,R3,B,C,z3,z4,z5⟩
   . simp only[];rw[B,C];exact .inl ⟨_,rfl,rfl⟩
   simp only[];rw[B,C];exact .inr ⟨_,_,rfl,rfl,z3,z4,z5⟩
theorem Wa(D:Pu f.bO a)(ord:List Nat):∀(done:List Nat) (s:WS) (i:WI),(∀b∈ord,b< ↑a)->ord.Nodup->(∀b∈ord,b∉done)->(∀(A B:List Nat) (b:Nat),ord=A++b::B->(s.c b).isSome=true\/∃q∈A,b∈nx a q)->Ov a done s i->(∃e,FU p f a ord s=.inl e/\Ie p f a ord i=.inl e)\/∃j k,FU p f a ord s=.inr j/\Ie p f a ord i=.inr k/\Ov a (ord.reverse++done) j k:=by
 induction ord with
 | nil=>intro done s i _ _ _ _ h;exact .inr ⟨s,i,rfl,rfl,h⟩
 | cons b ord I=>
   intro done s i w F v x h;obtain⟨m,t⟩:∃m,a[b]?=K m:=⟨_,an (w b sP)⟩;have E:(s.c b).isSome=true:=by
    rcases x [] ord b rfl with q|⟨_,q,_⟩
    . exact q
    cases q
   obtain⟨G,H⟩:=List.nodup_cons.1 F;simp only[FU,Ie,t];rcases V5 (p:=p) D t (v b sP) E h with⟨e,l,n⟩|⟨j,k,l,n,y,z,C⟩
   . rw[l,n];exact .inl ⟨e,rfl,rfl⟩
   rw[l,n];simp only[];have:=I (b::done) j k (λq d=>w q (by simp[d])) H (λq d u=>by
    rcases lw.1 u with rfl|u
    . exact G d
    exact v q (by simp[d]) u) (λA B q d=> ?_) y
   . simpa[List.reverse_cons,List.append_assoc]using this
   rcases x (b::A) B q (by rw[d];rfl)with g|⟨g,r,hgq⟩
   . exact .inl (C q g)
   rcases lw.1 r with rfl|r
   . rw[Tg t]at hgq;exact .inl (z q hgq)
   exact .inr ⟨g,r,hgq⟩
theorem NN(h:l.Nodup):l.reverse.Nodup:=by unfold List.Nodup at*;rw[List.pairwise_reverse];exact h.imp λh=> λe=>h e.symm
theorem Yz{r:CS}(h:Be f.bO r)(k:r.bO=0):Q1 f.bO (FU p f r.a8 (r.gY.map Int.toNat) Mq)=XF f.bO (Ie p f r.a8 (r.gY.map Int.toNat) Uy):=by
 cases h with
 |none _=>cases k
 |off _ _ _=>cases k
 |lost _ _ _ _ _ _ _ _=>cases k
 |two _ _ _ _ _ _ _ _=>cases k
 | @good x S O D L I g x1 o1 v1 s1 d1 b1 i1 l1=>
   obtain⟨C,w,U,s,T⟩:=CA (Es g) (JF g) v1 s1;simp only[];(have e:(ints O.reverse).map Int.toNat=O.reverse:=by unfold ints;rw[oP];(conv=>rhs;rw[<-List.map_id O.reverse]);apply oG;intro a _;simp);rw[e];have hrel:Ov (AL f.bO) [] Mq Uy:=by
    refine⟨λb=> ?_,rfl, λb i=>(by cases i), λb _ _ sh l=> ?_, λj _=>rfl⟩
    . simp only[Mq,Uy];by_cases i:b=0
      . simp[i]
      simp[i]
    simp only[Mq]at l;split at l
    . exact lP l
    cases l
   (have v:∀b∈O.reverse,b<(AL f.bO).length:= λb i=>(s b).1 (m7.1 i));have N:∀(A B:List Nat) (b:Nat),O.reverse=A++b::B->(Mq.c b).isSome=true\/∃q∈A,b∈nx (AL f.bO) q:= λA B b i=>by
    by_cases u:b=0
    . subst u;exact .inl rfl
    (have G:b∈O.reverse:=by rw[i];simp);obtain⟨q,P,Q,W⟩:=C.par b (v b G) u;refine .inr ⟨q,?_,Q⟩;have R:q∈O.reverse:=m7.2 ((s q).2 P);(have V:Dl O b=A.length:=by unfold Dl;(have E:b∉A:= λz=>by (have H:(A++b::B).Nodup:=by rw[<-i];exact NN w);exact(oH.1 H).2.2 b z b sP rfl);rw[i,List.idxOf_append];simp[E]);have y:(O.reverse)[Dl O q]?=K q:=Ic (m7.1 R);rw[i,mP oM]at y;exact lA y
   rcases Wa (p:=p) (PN g) O.reverse [] Mq Uy v (NN w) (λb _ i=>by cases i) N hrel with⟨q,m,n⟩|⟨X,ae,m,n,t⟩
   . rw[m,n];rfl
   rw[m,n];simp only[Q1,XF,t.d];(congr 1);apply oG;intro j _;refine(t.eq j λb i F _=>absurd ?_ F).symm;rw[ny,m7,m7];exact(s b).2 i
structure BK(w u:Y)(n gB:Nat)(FS:List (J×List Nat)):Prop where
 iD:Ab u w 29 1 (sG gB n n) n (FS.map Prod.fst)
 io:Cl u w (FS.map λx=>(x.1,ints x.2))
 ej:Ah w w u
theorem BK.a7{w u d:Y}{n c:Nat}{b:List (J×List Nat)}(h:BK w u n c b)(a:Ah u u d):BK w d n c b:=⟨Aw h.iD a lR,h.io.iQ a,Ar h.ej lR a⟩
theorem BK.ir{w u f:Y}{n d g cap y b:Nat}{V:J}{c:List (J×List Nat)}(h:BK w u n d c)(s:c[y]?=K (V,l))(D:Ab f w 2 1 (sG g (l.length+1) cap) (l.length+1) (nv l++[iZ (b:Int)]))(j:u.grownBy f V.ownBlock)(v:V.ownBlock=K g\/g= ↑u):Ab f w 29 1 (sG d n n) n (c.map Prod.fst)/\BK w (Aa f ⟨d,y,M⟩ (sG g (l.length+1) cap)) n d (c.set y (sG g (l.length+1) cap,l++[b])):=by
 obtain⟨G,F⟩:=i8.1 s;have q:c=c.take y++(V,l)::c.drop (y+1):=by rw[<-F,<-mq G,n9]
 have C:(c.take y).length=y:=by rw[mY];omega
 have t:=h.io.own (V,ints l) (mG.2 ⟨(V,l),lA s,rfl⟩);have k:Ab f w 29 1 (sG d n n) n (c.map Prod.fst):=B3 h.iD j t dC;have E:c.set y (sG g (l.length+1) cap,l++[b])=c.take y++(sG g (l.length+1) cap,l++[b])::c.drop (y+1):=by have:=To (c.take y) (c.drop (y+1)) (V,l) (sG g (l.length+1) cap,l++[b]);rw[C,<-q]at this;exact this
 have m:Cl f w ((c.set y (sG g (l.length+1) cap,l++[b])).map λx=>(x.1,ints x.2)):=by have p:=h.io;rw[q,m9,nQ]at p;rw[E,m9,nQ];refine Cl.grow (g:=g) p ?_ rfl j (v.imp id λe=>oM);simp only[];rw[AV,lG,lL,<-Df,FQ];exact D
 obtain⟨A,H,z⟩:=AD k;refine⟨k,?_,⟨λx r=>lI (m.own x r) (a:=⟨d,y,M⟩) (λe=>Bt (m.own x r) z dC d e rfl) _,m.sep⟩,(h.ej.grown j h.ej.size (λi B=>(t.lt i B).1)).setCell A _⟩;have:=(k.stored y (sG g (l.length+1) cap)).1;rw[List.map_set];exact this
theorem PL{E:Nat->List Nat}{D:Nat->Nat->Bool}{k y:Nat}(a:(E b)[k]?=K y)(x:Nat):Cv E D x b (k+1)=if x=y/\D y b=true then Cv E D x b k++[b]else Cv E D x b k:=by
 by_cases e:x=y
 . subst e;by_cases q:D x b=true
   . rw[lZ ⟨rfl,q⟩,Nr a q]
   rw[lS (λr=>q r.2),Jq a (λr=>q r.2)]
 rw[lS (λr=>e r.1),Jq a (λr=>e r.1.symm)]
def XJ(w d:Y)(n:Nat)(E:Nat->List Nat)(O:List Nat)(D:Nat->Nat->Bool)(e:Ending):Prop:=(∃b k y:Nat,e=Al (Ao #[sN,y])/\Gk E n (My O D) b k y)\/∃c a,e=Al (Ao #[sG c n n,iZ (-1)])/\(∀b,b<n->∀t∈E b,¬My O D b t)/\BK w d n c a/\a.length=n/\∀x,x<n->∃V,a[x]?=K (V,AK E D n x)
theorem MQ(G n gN cN gP cP gi ci:Nat)(E:Nat->List Nat)(O:List Nat)(I:Nat->Int)(D:Nat->Nat->Bool)(w:Y)(hn:n<=1024)(hP:DZ E n (Dl O))(hI:Pz E n (Dl O) I)(hD:∀d b,D d b=true↔C9 E d b)(aQ:∀b,(E b).length<=2)
 (h0:w G=K (sG gN n cN)) (hN:Gj w gN 0 n E) (hG:GI w G n gP cP gi ci (Dl O) I):
 Ai Ap 117 #[.pointer G] w λe w'=>XJ w w' n E O D e/\Ah w w w':=by
 obtain⟨k0,hk,bt,bu,bx⟩:=mN Br;obtain⟨j0,hj,bB,bC,bF⟩:=mN OR;have H:=Av (d5 hN (d5 hG (d5 hP (d5 hI (d5 hD (d5 aQ h0))))));clear hN hG hP hI hD aQ;go_enter func117,ntmps117;go_upto_region 2 with(at_make;refine mm _ rfl _ _ 22 rfl w 29 j0 sN 1 underlying22 hj bB bC Af Af _ _ n rfl rfl rfl rfl (by rw[bF];omega) oX lR ?_;intro w3 Q R)
 rw[Fp]at Q;have aq:Ae (BK w w3 n w ((List.range n).map λx=>((sN:J),AK E D 0 x))):=by
  refine⟨?_,⟨λx B=> ?_,?_⟩,BD R⟩
  . rw[oP];have e:(List.range n).map (Prod.fst ∘ λx=>((sN:J),AK E D 0 x))=List.replicate n sN:=by
     apply nB;intro j;by_cases hj:j<n
     . simp[hj]
     rw[lW oT,lW oT]
    rw[e];exact Q
  . simp only[mG]at B;obtain⟨y,⟨z,_,rfl⟩,rfl⟩:=B;(have:ints (AK E D 0 z)=[]:=by simp[AK,ints]);simp only[this];exact mI _ _ _ _
  rw[oP];refine nm.2 (oh.imp λ_=> ?_);intro g hg;cases hg
 have x0:=Au aq.ej h0;clear Q R h0;obtain⟨v,aA⟩:∃v,v=w.heap.size:=⟨_,rfl⟩;have aT:=Av aA;rw[<-aA]at⊢;have aF:Ae (BK w w3 n v ((List.range n).map λx=>((sN:J),AK E D 0 x))):=by rw[aT];exact aq
 clear aA aq;go_wp2;go_loopw [20] (λi wr=>∃(b:Nat) (h:List (J×List Nat)),b<=n/\i=iZ b/\ ↑h=n/\Ae (BK w wr n v h/\(∀x,x<n->∃V,h[x]?=K (V,AK E D b x))/\(∀l,l<b->∀t∈E l,¬My O D l t))) (λi _=>n-(intOf i).toNat)
 case atStart=>exact⟨0,_,oM,rfl,sP,aF, λx B=>⟨sN,by simp[B]⟩, λl aM=>oM⟩
 clear aF x0;obtain⟨b,h,hb,rfl,W,c⟩:=hrel;by_cases P:b<n
 . have bj:(b:Int)<(n:Int):=oM;obtain⟨a,ca,g0,g1⟩:=H.1 b P;rw[mQ]at g0;have aU:=Av g1;(replace g0:=Au c.1.ej g0);have bG:=H.2.2.2.2.2.1 b;clear g1;go_wp2;go_loopw [27] (λi wr=>∃(k:Nat) (h:List (J×List Nat)),k<=(E b).length/\i=iZ k/\ ↑h=n/\Ae (BK w wr n v h/\(∀x,x<n->∃V,h[x]?=K (V,AK E D b x++Cv E D x b k))/\(∀l,l<b->∀t∈E l,¬My O D l t)/\(∀s t,s<k->(E b)[s]?=K t->¬My O D b t))) (λi _=>2-(intOf i).toNat)
   (case atStart=>exact⟨0,h,oM,rfl,W,c.1, λx B=>by obtain⟨V,X⟩:=c.2.1 x B;exact⟨V,by rw[Lo,ny];exact X⟩,c.2.2, λs t aZ=>oM⟩);clear c g0;obtain⟨k,h,aZ,rfl,W,c⟩:=hrel;by_cases bg:k<(E b).length
   . have bI:(k:Int)<((E b).length:Int):=oM;obtain⟨y,hy⟩:∃y,(E b)[k]?=K y:=⟨_,an bg⟩;have ae:y<n:=H.2.2.1.jb b P y (lA hy);have bK:(y:Int)<(n:Int):=oM;have HY:=Av hy;obtain⟨ga,oa,rfl,_,y0⟩:=aU.at_ hy;(replace y0:=Au c.1.ej y0);have hg:=H.2.1.a7 c.1.ej;have p0:=hg.p;have py:=hg.pc y ae;have pb:=hg.pc b P;clear hy hg;have aH:Ae (¬My O D b y->∀s F,s<k+1->(E b)[s]?=K F->¬My O D b F):= λbp s F h1 h2=>by
      by_cases e:s=k
      . subst e;rw[HY]at h2;(cases h2);exact bp
      exact c.2.2.2 s F oM h2
     by_cases hp:Dl O b<Dl O y
     . have bq:(Dl O b:Int)<(Dl O y:Int):=oM;have N:Ae ((∀x,x<n->∃V,h[x]?=K (V,AK E D b x++Cv E D x b (k+1)))/\∀s F,s<k+1->(E b)[s]?=K F->¬My O D b F):=by
        refine⟨λx B=> ?_,aH.o (λq=>by have:=q.1;omega)⟩;rw[PL HY x,lS]
        . exact c.2.1 x B
        rintro⟨_,q⟩;have:=(((H.2.2.2.2.1 y b).1 q).jp H.2.2.1 P).2.1;omega
       go_wp2;go_quiet (fail);refine AY (λu=>Ae (BK w u n v h)) (c.1.a7 (AB _ _ _)) ?_;intro U HU;clear y0 p0 py pb;go_wp2;go_roundw;(case rel=>exact⟨k+1,h,oM,by go_num,W,HU,N.1,c.2.2.1,N.2⟩);exact oI
     have bq:¬(Dl O b:Int)<(Dl O y:Int):=oM;go_wp2;go_quiet (fail);refine AY (λu=>Ae (BK w u n v h)) (c.1.a7 (AB _ _ _)) ?_;intro U HU;clear y0 p0 py pb;go_wp2_with fail;refine(Qv G n gP cP gi ci y b (Dl O) I U hn H.2.2.2.1.iL.tree H.2.2.1.zero H.2.2.1.inj ae P (H.2.2.2.1.all y ae) (H.2.2.2.1.all b P) (H.2.1.a7 HU.ej)).mono ?_;rintro e u5 ⟨m,rfl,hm,bH,hM,b5⟩;have aw:Ae (m=y↔D y b=true):=by
      rw[H.2.2.2.2.1,<-H.2.2.2.1.jt y b P];constructor
      . intro e;subst e;exact((hM m).1 .here).2
      intro q;exact Ev.jk H.2.2.2.1.iL.tree ae ((hM m).1 .here).1 ((hM y).2 ⟨.here,q⟩)
     have aj:=Av (HU.a7 b5);clear hM b5 HU;by_cases aP:m=y
     . subst aP;have aG:=Av (aw.1 rfl);obtain⟨V,X⟩:=c.2.1 m ae;obtain⟨S,T,eV⟩:=AF (c.1.io.own (V,ints (AK E D b m++Cv E D m b k)) (mG.2 ⟨(V,_),lA X,rfl⟩));simp only[AV]at eV;subst eV;(have bf:(AK E D b m++Cv E D m b k).length<=4096:=by have h1:=Gq H.2.2.2.2.2.1 D m b;have h2:=JY E D m b k;rw[lG];omega);generalize aJ:AK E D b m++Cv E D m b k=f at X bf;have ah:=Av (d5 aJ X);clear X aJ aw;(have au:Ae (∀(u':Y),Ab u' w 29 1 (sG v n n) n (h.map Prod.fst)->u' ⟨v,m,M⟩=K (Z S f T)):= λu' br=>by have:=br.cellAt m oM;rw[mE,ah.2]at this;exact this);have bE:=Aq u5 (Ak #[(b:Int)] 2);have x2:=au.o _ aj.iD;have am:=Av (d5 (aj.a7 bE) (lQ aj.ej.size bE.size));(have aI:Ae (Ab (Ac u5 (Ak #[(b:Int)] 2)) w 2 1 (Z S f T) f (nv f)):=by have:=am.1.io.own (Z S f T,ints f) (mG.2 ⟨(_,f),lA ah.2,rfl⟩);rw[AV,<-Df]at this;exact this);have aE:Ae (∀A C L,L.ownsRow w 2 1 (sG A (f.length+1) C) (f.length+1) (nv f++[iZ (b:Int)])->(Ac u5 (Ak #[iZ (b:Int)] 2)).grownBy L (Z S f T).ownBlock->((Z S f T).ownBlock=K A\/A=(Ac u5 (Ak #[iZ (b:Int)] 2)).heap.size)->L.cell? ⟨v,m,M⟩=K (Z S f T)/\L.frozen? ⟨v,m,M⟩=false/\BK w (L.setCell ⟨v,m,M⟩ (sG A (f.length+1) C)) n v (h.set m (sG A (f.length+1) C,f++[b]))):= λA C L Q R ao=>by obtain⟨q1,q2⟩:=am.1.ir ah.2 Q R ao;exact⟨au.o _ q1,q1.frozenAt m,q2⟩
       clear bE;go_wp2_with (at_builtin;refine wpList_append_lies _ rfl _ _ 29 rfl w 2 k0 (iZ 0) 1 8 underlying29 hk bt bu bx rfl dC _ f (nv f) rfl aI u5 1 1 [(b:Int)] rfl rfl (BM u5 (b:Int)) (λu hu=>by simp at hu;subst hu;rfl) oM (by simp[maxLen];omega) oM am.2 _ rfl ?_;intro A C L Q R ao bi;obtain⟨t6,z6,l6⟩:=aE.o A C L Q R ao;have aW:Ae (BK w (L.setCell ⟨v,m,M⟩ (sG A (f.length+1) C)) n v (h.set m (sG A (f.length+1) C,f++[b]))):=l6;clear Q R ao bi l6);have N:Ae ((∀x,x<n->∃V,(h.set m (sG A (f.length+1) C,f++[b]))[x]?=K (V,AK E D b x++Cv E D x b (k+1)))/\∀s F,s<k+1->(E b)[s]?=K F->¬My O D b F):=by
        refine⟨λx B=> ?_,aH.o (λq=>q.2 aG)⟩;rw[PL HY x];by_cases e:x=m
        . subst e;refine⟨sG A (f.length+1) C,?_⟩;rw[lZ ⟨rfl,aG⟩,<-nN,ah.1,mi oM]
        rw[lS (λr=>e r.1),mu (Ne.symm e)];exact c.2.1 x B
       clear x2 am aI aE au;go_roundw;(case rel=>exact⟨k+1,h.set m (sG A (f.length+1) C,f++[b]),oM,by go_num,by rw[mZ];exact W,aW,N.1,c.2.2.1,N.2⟩);exact oI
     have bJ:((m:Int)==(y:Int))=false:=oT;(have aY:¬D y b=true:= λq=>aP (aw.2 q));have aS:Ae (Gk E n (My O D) b k y):=⟨P,HY,⟨oM,aY⟩, λl s x' aM aR hl=>by
      rcases hl with q|⟨rfl,q⟩
      . exact c.2.2.1 l q x' (lA aR)
      exact c.2.2.2 s x' q aR⟩
     go_wp2;go_ret2;exact⟨Or.inl ⟨b,k,y,rfl,aS⟩,aj.ej⟩
   obtain rfl:k=(E b).length:=oM;have N:Ae ((∀x,x<n->∃V,h[x]?=K (V,AK E D (b+1) x))/\∀l,l<b+1->∀t∈E l,¬My O D l t):=by
    refine⟨λx B=>by rw[I7];exact c.2.1 x B, λl aM t ht=> ?_⟩;by_cases e:l=b
    . subst e;obtain⟨q,hq⟩:=mJ ht;exact c.2.2.2 q t (i8.1 hq).1 hq
    exact c.2.2.1 l oM t ht
   go_wp2;go_roundw;(case rel=>exact⟨b+1,h,oM,by go_num,W,c.1,N.1,N.2⟩);exact oI
 have aX:b=n:=oM;have bj:¬(b:Int)<(n:Int):=oM;rw[aX]at c;go_wp2;go_ret2;exact⟨Or.inr ⟨v,h,rfl,c.2.2,c.1,W,c.2.1⟩,c.1.ej⟩
end Go.Proofs.YtadcneiiokbofaaGreat
