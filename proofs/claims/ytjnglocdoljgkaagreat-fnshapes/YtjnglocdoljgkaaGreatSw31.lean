import Derived.Test.YtjnglocdoljgkaaGreatSw29
namespace Go.Proofs.YtjnglocdoljgkaaGreat
open Go.ChangeShapes Go.WideShapes Go.ChangeAt Go.RowKit
set_option linter.unusedVariables false
open Option renaming some → K
set_option maxHeartbeats 8000000
set_option maxRecDepth 100000
theorem Ue(p:MP)(f:MF)(c:Nat):∀(a:Nat) (sh:List Int) (T:Nat->List Int) (D:Nat) (e:Int×Nat),Cv p f c a sh T D=.inl e->e.1≠0:=by
 induction c with
 |zero=>intro a sh T D e h;simp[Cv]at h
 | succ c g=>
   intro a sh T D e h;rw[Cv]at h;cases hx:f.ch[a]? with
   |none=>rw[hx]at h;simp at h
   | some x=>
     rw[hx]at h;simp only[]at h;by_cases b:A6 p f x sh=0
     . rw[lS b]at h;exact g _ _ _ _ _ h
     rw[lE b]at h;rw[<-Sum.inl.inj h];exact b
theorem Uj(p:MP)(f:MF)(a:List MB)(ord:List Nat):∀(s:WS) (e:Int×Nat),Ds p f a ord s=.inl e->e.1≠0:=by
 induction ord with
 |nil=>intro s e h;simp[Ds]at h
 | cons b ord g=>
   intro s e h;rw[Ds]at h;cases hm:a[b]? with
   |none=>rw[hm]at h;simp at h
   | some m=>
     rw[hm]at h;simp only[]at h;unfold Lg at h;cases hk:Cv p f (m.last-m.gK+1).toNat m.gK.toNat ((s.c b).getD []) s.t s.d with
     | inl q=>rw[hk]at h;rw[<-Sum.inl.inj h];exact Ue _ _ _ _ _ _ _ _ hk
     | inr q=>
       obtain⟨sh,T,D⟩:=q;rw[hk]at h;simp only[]at h;cases hme:DX (m.next.map Int.toNat) sh s.c with
       | none=>rw[hme]at h;rw[<-Sum.inl.inj h];simp
       | some C=>rw[hme]at h;exact g _ _ h
theorem IU.law{p:MP}{g:Int}{y:RQ}(h:IU p g y):(y.ch≠0/\y.gU=[])\/(y.ch=0/\B8 p g y.gU/\(∀(j:Nat) (sh:List Int),y.gU[j]?=K sh->(sh:Int)<=y.depth)/\1<=y.gU.length/\∀(k:Nat) (sh:List Int) (t:Int),y.gU[k]?=K sh->¬B8 p g (y.gU.set k (sh++[t]))):=by
 rcases h with⟨_,rfl⟩|⟨n,v,f,r,b,l,q,rfl⟩
 . exact .inl ⟨sP,rfl⟩
 cases hrun:Ds p f r.ej (r.gJ.map Int.toNat) Jo with
 | inl e=>obtain⟨c,a⟩:=e;exact .inl ⟨Uj _ _ _ _ _ _ hrun,rfl⟩
 | inr s=>
   obtain⟨h1,h2⟩:=Ou n b l q hrun;have B:Cd f:=n.parts.2.2.1.2.2.1 _ (iV.1 b).1 f b;refine .inr ⟨rfl,⟨n,v,f,b,⟨r,l,q⟩,h1⟩, λj sh m=> ?_,?_, λk sh t D z=> ?_⟩
   . simp only[Lv]at m⊢;rw[lG]at m;obtain⟨i,C,rfl⟩:=mK.1 m;obtain⟨E,rfl⟩:=iV.1 C;have:=h2 ((List.range f.ch)[j]) (by simpa using E);omega
   . simp only[Lv,kW,mS];have:=B.iG;omega
   obtain⟨_,_,f',u,_,A⟩:=z;rw[b]at u;obtain rfl:=kN u;exact QY l q h1 D A
theorem gL{q:Prop}(h:q:=by go_wp2_with fail;refine(XS E).mono ?_;rintro e u ⟨rfl,_,_,_,E⟩;exact gE):q:=h
theorem Va:VS 0 8 1:=by
 intro w u s k p left j l D t deep E a f h g i;obtain⟨_,_,m,_⟩:=E.o.cells;have b:decide (deep<=0)=true:=by simpa using a
 go_enter Tryz.func47,Tryz.ntmps47;exact gL
theorem Rh{n A P:Int}(R:8<=A/\A<=100000)(S:1<=P/\P<=100)(W:0<=n/\n<=1000)(i:VS n A P):VS (n+1) (3*A+124) (3*P+1):=by
 intro w u s k p left lv nt D t deep E T U X V ht;have H:=Ap i;have a8:=E.o.le;obtain⟨_,_,I,_,_,_,L,_⟩:=E.o.cells;clear i;go_enter Tryz.func47,Tryz.ntmps47;by_cases h1:deep<=0;rotate_left;by_cases h2:left<6;rotate_left;have ah:IntKind.i64.wrap (deep-1)=deep-1:=mY _ ⟨oM,oM⟩;go_wp2_with fail;refine(QF E).mono ?_;rintro e u ⟨r,rfl,f,E⟩;clear I L;rcases(show r=0\/r=1\/r=2\/r=3\/r=4\/r=5\/r=6\/r=7 from oM)with rfl|rfl|rfl|rfl|rfl|rfl|rfl|rfl
 . go_wp2_with fail;refine(XU E _).mono ?_;rintro e u ⟨r,rfl,f,E,B⟩;obtain⟨j,F,hv⟩:=YJ r f;rw[F]at B;by_cases h:j=t;(case pos=>subst h;exact gL);(have ae:(j != t)=true:=by simpa using h);go_wp2_with fail;refine(NN H E).mono ?_;rintro e u ⟨rfl,_,_,_,E⟩;go_wp2_with fail;refine(FO E ok8).mono ?_;rintro e u ⟨n,rfl,_,E⟩;exact gE
 . go_wp2_with fail;refine(XK E).mono ?_;rintro e u ⟨r,G,rfl,rfl|⟨b,rfl,y⟩,C,E⟩;(case inl=>exact gL);have z:(b:Int)>=0:=oM;go_wp2_with fail;refine(VY H E y).mono ?_;rintro e u ⟨rfl,_,_,_,E⟩;exact gE
 . go_wp2_with fail;refine(QF E).mono ?_;rintro e u ⟨r,rfl,f,E⟩;obtain⟨q,rfl⟩:=kU f.1;have hq:=f.2;obtain⟨gr,cr,a,n,c,N,O,Q,_,l⟩:=VE E (show q<3 from oM);go_wp2_with fail;refine(l.o t).mono ?_;rintro e u ⟨r,m',G,rfl,rfl|⟨b,m,rfl,rfl,g⟩,C,E⟩;(case inl=>exact gL);have z:(b:Int)>=0:=oM;go_wp2_with fail;refine(NN H E).mono ?_;rintro e u ⟨rfl,_,_,_,E⟩;go_wp2_with fail;refine(FO E (ok4 E.o.ok g.2 g.1)).mono ?_;rintro e u ⟨n,rfl,_,E⟩;exact gE
 iterate 3
  go_wp2_with fail;refine(opG H E).mono ?_;rintro e u ⟨rfl,_,_,_,E⟩;exact gE
 all_goals exact gL
theorem Qd:VS 1 148 4:=Rh (n:=0) (A:=8) (P:=1) oM oM oM Va
theorem Tq:VS 2 568 13:=Rh (n:=1) (A:=148) (P:=4) oM oM oM Qd
end Go.Proofs.YtjnglocdoljgkaaGreat
