import Derived.Test.YtjnglocdoljgkaaGreatSw44
import Derived.Deep.RegionHeldLaw
import Derived.Test.YtjnglocdoljgkaaGreatSw35
namespace Go.Proofs.YtjnglocdoljgkaaGreat
open Go.ChangeShapes Go.WideShapes Go.ChangeAt Go.RowKit
set_option linter.unusedVariables false
open Go.Value renaming slice → Z,int → Ac
open Option renaming some → K,none → M
open Go renaming Value → J,World → Y,Calls → Ae
open Go.RowKit renaming Hid → Aa,Below → Ad
open Go.IntKind renaming i64 → Ab
set_option maxHeartbeats 8000000
set_option maxRecDepth 100000
variable {R:Nat->Prop}{u w i:Y}{e V:J}{b base:Nat}{a:List J}{D:DataW Unit}{v:VP}{g:VF}{f:MF}{s:WI}{j:List (ML×J×J)}{sh:List Int}{p:MP}{x:MI}{F:List (MB×J)}{r:Fy}
theorem Mv(S:Nat)(V:J)(xs:List Int)(w:Y)(h:Du w S V xs)(L:xs.length<=1048576):Ae Tryz.prog 67 #[.pointer S] w λe b=>∃a c,e=.returned (Z a xs c)/\Cm b w (Z a xs c) xs/\Ad w w b:=by
 obtain⟨C,z,O,Q,R⟩:=lU Bt;obtain⟨F,c1,rfl⟩:=Az h.own;have c0:=h.gR.cell 0;simp only[kL,jt]at c0;have k:=Rd.gM h.own;have l:Aa (w.ownsRow w 2 1 (Z M 0 0) 0 []):=lq _ _ _ _;cases F with
 | none=>
   have B:xs.length=0:=by
    rcases k.2 with⟨e0,_⟩|⟨g,o,c,f,_⟩
    . exact e0
    cases f
   have N:xs=[]:=lP B;subst N;(have I:∀ty,(Builtin.append_ #[36,36] ty #[Z M 0 0,Z M 0 c1]).run Tryz.prog w=.ok (Z M 0 0) w:= λty=>Db (P:=Tryz.prog) w 36 ty 2 C 1 Tryz.underlying36 z _ _ _ l.o c1);clear h k B;rw[mD]at c0⊢;go_enter Tryz.func67,Tryz.ntmps67;go_wp2_with (at_builtin;refine Lib.wpList_append_run _ rfl _ _ _ _ rfl _ _ rfl rfl _ _ (I _) ?_);go_ret;exact⟨_,_,rfl,l.o,lQ _ _⟩
 | some ad=>
   have D:Aa (∀j u,(xs.flatMap Ah)[j]?=K u->w.cell? (ad.add j)=K u):= λj u i=>by
    rcases k.2 with⟨e0,_⟩|⟨g,o,c,f,G⟩
    . have:xs=[]:=lP e0;subst this;simp at i
    simp only[jc,kK]at f;obtain⟨rfl,_⟩:=f;rw[Da];exact G j u i
   clear h k;generalize A:xs.length=m at L c0⊢;have t:Aa (↑xs=m):=A
   clear A;go_enter Tryz.func67,Tryz.ntmps67;go_wp2_with (at_builtin;refine wpList_append_own _ rfl _ _ 36 rfl w 2 C (.int Ab 0) 1 8 Tryz.underlying36 z O Q R rfl dC _ 0 [] rfl l.o ad m c1 (xs.flatMap Ah) rfl ?c1 D.o (BZ _) ?c4 ?c5 lR ?_);(case c1=>rw[Au Ah 1 Ao,t.o]);(case c4=>unfold maxLen;omega);(case c5=>omega);intro v' b p y H;(obtain⟨a2,c2,rfl⟩:∃a c,v'=Z a m c:=by have:=(Rd.gM p).fu;simpa using this);have s:Aa (Cm b w (Z a2 m c2) xs/\Ad w w b):=⟨by unfold Cm;rw[t.o];simpa using p,(lQ _ _).grown y lR (λj i=>by cases i)⟩
   clear p y H;go_wp2;go_ret;exact⟨_,_,rfl,s.o.1,s.o.2⟩
structure Ff(w u:Y)(v:VP)(g:VF)(f:MF)(bv:J)(TB MB GS n B N:Nat)(RS:List J)(s:WI):Prop where
 tb:Ar u TB #[v.r,v.k,v.f,v.t,g.p,.int Ab f.gz,g.l,g.c,bv,.map (K MB),Z GS n n,.int Ab (s.d:Int)] 84
 mp:∃cnt D,Bo u MB cnt D/\cnt<=N/\∀b:Nat,Go.Maps.has D (.int Ab (b:Int))=s.c b
 sa:u.ownsRow w 36 1 (Z GS n n) n RS
 sl: ↑RS=n
 rs:∀(j:Nat) (V:J),RS[j]?=K V->Cm u B V (s.r j)
 gG:Ad w w u
 lo: ↑w<=TB/\ ↑w<=MB/\ ↑w<=GS
 ne:TB≠MB/\TB≠GS/\MB≠GS/\TB<B/\MB<B/\GS<B
 sz:B<= ↑u
 dl:s.d<=64
 rl:∀j,(s.r j).length<=64
 ap:∀(i j:Nat) (V W:J),i≠j->RS[i]?=K V->RS[j]?=K W->∀g,V.ownBlock=K g->W.ownBlock≠K g
theorem Bo.io{e:Y}{a:Nat}(h:Bo u b a D)(k:DV R u e)(m:¬R b):Bo e b a D:=by have l:=nu h;obtain⟨g,f,j,F,n,i⟩:=h;exact⟨g,f,(k.block b l m).trans j,F,n,i⟩
def NL(a:List J)(R:Nat->Prop):Prop:=∀(j:Nat) (V:J),a[j]?=K V->∀g,V.ownBlock=K g->¬R g
theorem Ff.io{q:Y}{bv:J}{p MB GS n B N:Nat}{m:List J}(h:Ff w u v g f bv p MB GS n B N m s)(a:DV R u q)(i:∀k,R k->B<=k)(t:NL m R):Ff w q v g f bv p MB GS n B N m s:=by
 obtain⟨I,L,O,E,P,Q⟩:=h.ne;obtain⟨r,D,A,y,z⟩:=h.mp;obtain⟨C,G,H⟩:=h.lo;refine⟨a.gR h.tb (λe=>by have:=i _ e;omega),⟨r,D,A.io a (λe=>by have:=i _ e;omega),y,z⟩,a.own h.sa (λb l e=> ?_),h.sl, λj V e=>a.own (h.rs j V e) (λb l=>t j V e b l),?_,h.lo,h.ne,kT h.sz a.size,h.dl,h.rl,h.ap⟩
 . simp only[Value.ownBlock,kK]at l;subst l;have:=i _ e;omega
 exact h.gG.trans (a.below (kT (kT C (nM E)) h.sz) (λk F e=>by have:=i _ e;omega))
theorem Ff.bM{bv:J}{b MB GS n B N:Nat}(h:Ff w u v g f bv b MB GS n B N a s)(j:Ad u u i):Ff w i v g f bv b MB GS n B N a s:=h.io (R:= λ_=>False) (DV.of j) (λ_ e=>e.elim) (λ_ _ _ _ _ e=>e)
theorem Ff.jf{bv:J}{q MB GS n B N:Nat}{l:List J}(h:Ff w u v g f bv q MB GS n B N l s){j:Nat}(E:Cm u B V sh)(b:sh.length<=64)(z:∀(i:Nat) (W:J),l[i]?=K W->∀g,V.ownBlock=K g->W.ownBlock≠K g):Ff w (u.setCell ⟨GS,j,M⟩ V) v g f bv q MB GS n B N (l.set j V) ⟨s.c,CE s.r j sh,s.d⟩:=by
 obtain⟨R,S,L,T,U,n6⟩:=h.ne;obtain⟨C,D,I,F,H⟩:=h.mp;obtain⟨O,P,Q⟩:=h.lo;refine⟨h.tb.other oS V,⟨C,D,World.ownsMap.setCell I (by simp only[];exact L) V,F,H⟩,(h.sa.stored j V).1,by rw[mU];exact h.sl, λi W e=> ?_,h.gG.setCell oS V,h.lo,h.ne,by rw[Fm];exact h.sz,h.dl, λi=> ?_, λi k X t A p a=> ?_⟩
 . simp only[CE];by_cases m:i=j
   . subst m;(have b:i<l.length:=by have:=(iV.1 e).1;rw[mU]at this;exact this);rw[mG b]at e;(cases e);rw[lS rfl];exact E.set oS V
   rw[mC (λe=>m e.symm)]at e;rw[lE m];exact(h.rs i W e).set oS V
 . simp only[CE];split
   . exact b
   exact h.rl i
 by_cases m:i=j
 . subst m;(have b:i<l.length:=by have:=(iV.1 p).1;rw[mU]at this;exact this);rw[mG b]at p;(cases p);rw[mC A]at a;exact z k t a
 rw[mC (λe=>m e.symm)]at p;by_cases y:k=j
 . subst y;(have b:k<l.length:=by have:=(iV.1 a).1;rw[mU]at this;exact this);rw[mG b]at a;(cases a);exact λg G e=>z i X p g e G
 rw[mC (λe=>y e.symm)]at a;exact h.ap i k X t A p a
theorem Ff.jq{bv:J}{a MB GS n B N:Nat}{b:List J}(h:Ff w u v g f bv a MB GS n B N b s)(d:Nat)(m:d<=64):Ff w (u.setCell ⟨a,11,M⟩ (.int Ab (d:Int))) v g f bv a MB GS n B N b ⟨s.c,s.r,d⟩:=by obtain⟨A,C,E,F,G,H⟩:=h.ne;obtain⟨k,D,q,l,p⟩:=h.mp;obtain⟨t,y,z⟩:=h.lo;have j:=h.tb.set 11 (.int Ab (d:Int));simp only[kV,lI,lM]at j;exact⟨j,⟨k,D,World.ownsMap.setCell q oS _,l,p⟩,kO h.sa (by simp[Value.ownBlock];omega) _,h.sl, λi W e=>(h.rs i W e).set oS _,h.gG.setCell oS _,h.lo,h.ne,by rw[Fm];exact h.sz,m,h.rl,h.ap⟩
theorem Ff.put{l:Y}{bv:J}{q MB GS n B N:Nat}{p:List J}(h:Ff w u v g f bv q MB GS n B N p s){t i:Nat}(A:Bo u MB i D)(I:i<=N)(z:∀b:Nat,Go.Maps.has D (.int Ab (b:Int))=s.c b)(C:Bo l MB (i+1) (D.put (.int Ab (t:Int)) (.agg [])))(y:u.grownBy l (K MB)):Ff w l v g f bv q MB GS n B (N+1) p ⟨IF s.c t,s.r,s.d⟩:=by
 obtain⟨F,Q,R,G,S,T⟩:=h.ne;obtain⟨E,O,P⟩:=h.lo;have a:DV (λk=>k=MB) u l:=(DV.refl _ _).grown y (λk _ e=>by cases e;rfl);refine⟨a.gR h.tb F,⟨i+1,_,C,oM, λb=> ?_⟩,a.own h.sa (λb m e=> ?_),h.sl, λj V e=>a.own (h.rs j V e) (λb m H=> ?_),h.gG.trans (a.below (kT (kT E (nM G)) h.sz) (λk L e=>oM)),h.lo,h.ne,kT h.sz a.size,h.dl,h.rl,h.ap⟩
 . rw[FD D (oH A),z b];simp only[IF];by_cases e:b=t
   . subst e;simp
   have:¬((b:Int)=(t:Int)):=oM;simp[e,this]
 . simp only[Value.ownBlock,kK]at m;omega
 have:=(h.rs j V e).lt b m;omega
theorem Du.iX{S:Nat}{xs:List Int}(h:Du u S V xs){a:Addr}(b:a.block<S)(x:J):Du (u.setCell a x) S V xs:=⟨h.gR.other oM x,lL h.own oM x⟩
theorem NL.set(h:NL a R){j:Nat}(k:∀g,V.ownBlock=K g->¬R g):NL (a.set j V) R:= λi W e g f=>by
 by_cases b:i=j
 . subst b;(have l:i<a.length:=by have:=(iV.1 e).1;rw[mU]at this;exact this);rw[mG l]at e;(cases e);exact k g f
 rw[mC (λe=>b e.symm)]at e;exact h i W e g f
def Xh(w u:Y)(v:VP)(g:VF)(f:MF)(bv:J)(l h GS n B N:Nat)(i:List J)(s:WI)(S:Nat)(V:J)(sh:List Int)(t a:Nat)(e:Ending)(b:Y):Prop:=(s.c t=true/\∃j,e=.returned (.bool j)/\(j=true↔sh=s.r a)/\Ad u u b)\/(s.c t=false/\e=.returned (.bool true)/\∃V',Ff w b v g f bv l h GS n B (N+1) (i.set a V') ⟨IF s.c t,CE s.r a sh,s.d⟩/\Du b S V sh/\NL (i.set a V') (Dl S V)/\DV (λk=>k=h\/k=GS) u b)
theorem Of(w u:Y)(v:VP)(g:VF)(f:MF)(bv:J)(z l GS n B N:Nat)(j:List J)(s:WI)(y:List MB)(S:Nat)(V:J)(sh:List Int)(t a:Nat)(m:MB)(h:Ff w u v g f bv z l GS n B N j s)(hb:Ic w bv y)(hm:y[t]?=K m)(aP:m.gK=(a:Int))(ha:a<n)(hn:n<=1024)(bi:y.length<=1024)(hN:N<=4096)(aS:Du u S V sh)(hS:B<=S)(aG:NL j (Dl S V))(aZ:sh.length<=64):
 Ae Tryz.prog 70 #[.pointer z,.int Ab (t:Int),.pointer S] u (Xh w u v g f bv z l GS n B N j s S V sh t a):=by
 obtain⟨ba,P,rfl⟩:∃a c,bv=Z a y c:=by obtain⟨_,_,h2,_⟩:=hb;exact h2.fu
 obtain⟨gb,ob,xa,xc,ev,x0,x1,x2,aY⟩:=Nf hb hm;subst ev;rw[aP,<-h.gG.cell (jC x0)]at x0;have bq:t<y.length:=(iV.1 hm).1;have bp:(t:Int)<(y:Int):=oM;have bg:(a:Int)<(n:Int):=oM;have aT:CO (t:Int):=EP oM;have H:Aa (Ff w u v g f (Z (K ⟨gb,ob,M⟩) y P) z l GS n B N j s/\Du u S V sh/\B<=S/\NL j (Dl S V)):=⟨h,aS,hS,aG⟩
 obtain⟨R,D,aR,aJ,aM⟩:=h.mp;have U:Aa (Bo u l R D/\R<=N/\∀b:Nat,Go.Maps.has D (.int Ab (b:Int))=s.c b):=⟨aR,aJ,aM⟩
 have c8:=h.tb.cell 8;have Q:=h.tb.cell 9;simp only[kL,jt,kI]at c8 Q;clear x1 x2 aY aR aJ aM h aS hS aG hm aP hb;go_enter Tryz.func70,Tryz.ntmps70;go_wp2_with fail;refine(Ri l R D (t:Int) u aT U.o.1).mono ?_;rintro e A ⟨rfl,O⟩;rw[U.o.2.2 t];have p:Aa (Ff w A v g f (Z (K ⟨gb,ob,M⟩) y P) z l GS n B N j s/\Du A S V sh/\B<=S/\NL j (Dl S V)):=⟨H.o.1.bM O,H.o.2.1.bM O,H.o.2.2⟩
 have aA:Aa (Ad u u A):=O;have aD:Aa (DV (λk=>k=l\/k=GS) u A):=DV.of O
 have L:Aa (Bo A l R D/\R<=N/\∀b:Nat,Go.Maps.has D (.int Ab (b:Int))=s.c b):=⟨U.o.1.bM O,U.o.2⟩
 clear O U H x0 c8 Q;have Q:=p.o.1.tb.cell 9;have am:=p.o.1.tb.cell 10;simp only[kL,jt,kI]at Q am;obtain⟨V0,au⟩:∃V,j[a]?=K V:=⟨_,an (by rw[p.o.1.sl];exact ha)⟩;have ae:=p.o.1.rs a V0 au;have bj:=p.o.1.rl a;obtain⟨va,vc,aW⟩:=Az ae;subst aW;have ao:=p.o.1.sa.cellAt a oM;rw[au]at ao;cases hc:s.c t with
 | true=>
   have HR:Aa (Cm A B (Z va (s.r a).length vc) (s.r a)):=ae;clear ae;go_wp2_with fail;refine(Iy S V (Z va (s.r a).length vc) sh (s.r a) A p.o.2.1 (Rd.gM HR.o) oM oM).mono ?_;rintro e C ⟨⟨bb,rfl,aH⟩,b2⟩;have HE:Aa ((bb=true↔sh=s.r a)/\Ad u u C/\s.c t=true):=⟨aH,Ai aA.o lR b2,hc⟩
   clear aH b2 Q am ao;go_wp2_with fail;go_ret;exact .inl ⟨HE.o.2.2,bb,rfl,HE.o.1,HE.o.2.1⟩
 | false=>
   have HC:Aa (s.c t=false):=hc;clear ae au hc;(go_upto_region 5 with(go_at_call 65;refine(Ec l R A 1 D (t:Int) _ aT (by have:=L.o.2.1;omega) sP (by have:=p.o.1.ne;have:=p.o.1.sz;omega) (L.o.1.bM (Ag _ _))).mono ?_;rintro e C ⟨rfl,aQ,a8⟩));have H2:Aa (Ff w C v g f (Z (K ⟨gb,ob,M⟩) y P) z l GS n B (N+1) j ⟨IF s.c t,s.r,s.d⟩/\Du C S V sh/\B<=S/\NL j (Dl S V)):=by have hA:=Ag A (.cells #[.int Ab (t:Int)] 2);obtain⟨n1,n2,n3,n4,n5,n6⟩:=p.o.1.ne;have hS:=p.o.2.2.1;have aI:DV (λk=>k=l) (A.alloc (.cells #[.int Ab (t:Int)] 2)) C:=(DV.refl _ _).grown a8 (λk _ e=>by cases e;rfl);have aw:=p.o.2.1.bM hA;exact⟨(p.o.1.bM hA).put (L.o.1.bM hA) L.o.2.1 L.o.2.2 aQ a8,⟨aI.gR aw.gR oM,aI.own aw.own (λb hb e=>by have:=(aw.lt b hb).1;omega)⟩,p.o.2.2⟩
   have aE:Aa (DV (λk=>k=l\/k=GS) u C.drew):=((aD.o.on (Ag A (.cells #[.int Ab (t:Int)] 2))).grown a8 (λk _ e=>by cases e;exact .inl rfl)).on (Aj _)
   clear aQ a8 L p aA aD Q am ao;have F:Aa (Ff w C.drew v g f (Z (K ⟨gb,ob,M⟩) y P) z l GS n B (N+1) j ⟨IF s.c t,s.r,s.d⟩/\Du C.drew S V sh/\B<=S/\NL j (Dl S V)):=⟨H2.o.1.bM (Aj _),H2.o.2.1.bM (Aj _),H2.o.2.2⟩
   have bo:C.drew.cell? ⟨z,10,M⟩=K (Z GS n n):=F.o.1.tb.cell 10;refine wp_region_held_drew (S:= λw'=>w'.cell? ⟨z,10,M⟩=K (Z GS n n)) kR bo (λaq=> ?_);refine wpAnyH_take (i:=0) (v:= ?_) rfl kR kR kR (λ_ _ _ h=>h) (Or.inl ⟨by rfl,?_⟩) (by assumption) ?_;rotate_left
   . (intro w q;(try dsimp only at q);go_simp;(try with_reducible rfl))
   refine wpAnyH_take (i:=1) (v:= ?_) rfl kR kR kR (λ_ _ _ h=>h) (Or.inl ⟨by rfl,?_⟩) (by assumption) ?_;rotate_left
   . (intro w q;(try dsimp only at q);go_simp;(try with_reducible rfl))
   refine wpAnyH_take (i:=2) (v:= ?_) rfl kR kR kR (λ_ _ _ h=>h) (Or.inl ⟨by rfl,?_⟩) (by assumption) ?_;rotate_left
   . (intro w q;(try dsimp only at q);go_simp;(try with_reducible rfl))
   refine wpAnyH_take (i:=3) (v:= ?_) rfl kR kR kR (λ_ _ _ h=>h) (Or.inl ⟨by rfl,?_⟩) (by assumption) ?_;rotate_left
   . (intro w q;(try dsimp only at q);go_simp;(try with_reducible rfl))
   refine wpAnyH_take (i:=4) (v:= ?_) rfl kR kR kR (λ_ _ _ h=>h) (Or.inl ⟨by rfl,?_⟩) (by assumption) ?_;rotate_left
   . (intro w q;(try dsimp only at q);go_simp;(try with_reducible rfl))
   refine wpAnyH_take (i:=5) (v:= ?_) rfl kR kR kR (λ_ _ _ h=>h) (Or.inl ⟨by rfl,?_⟩) (by assumption) ?_;rotate_left
   . (intro w q;(try dsimp only at q);go_simp;(try with_reducible rfl))
   refine wpAnyH_ready (rs:=[6]) kR sP ?_;refine AllReadyH.cons rfl (λKC X=> ?_) AllReadyH.nil;go_simp;refine(Mv S V sh C.drew F.o.2.1 oM).mono ?_;rintro e T ⟨G,I,rfl,ah,b3⟩;have E:Aa (Ff w T v g f (Z (K ⟨gb,ob,M⟩) y P) z l GS n B (N+1) j ⟨IF s.c t,s.r,s.d⟩/\Du T S V sh/\B<=S/\NL j (Dl S V)):=⟨F.o.1.bM b3,F.o.2.1.bM b3,F.o.2.2⟩
   have aj:Aa (Cm T B (Z G sh I) sh/\(∀(i:Nat) (W:J),j[i]?=K W->∀g,(Z G sh I).ownBlock=K g->W.ownBlock≠K g)/\∀g,(Z G sh I).ownBlock=K g->¬Dl S V g):=by
    refine⟨Bb ah F.o.1.sz, λi W e g hg e2=> ?_, λg hg e2=> ?_⟩
    . have h1:=(ah.lt g hg).1;have h2:=((F.o.1.rs i W e).lt g e2).2;omega
    have h1:=(ah.lt g hg).1;have h2:=(Dl.ge F.o.2.1 e2).2;omega
   have aU:Aa (DV (λk=>k=l\/k=GS) u T):=aE.o.on b3
   clear ah b3 aE;go_simp;refine X.out _ _ (by have:=E.o.1.tb.cell 10;exact this) (λaq=> ?_);clear X KC;refine wpAnyH_take (i:=7) (v:= ?_) rfl kR kR kR (λ_ _ _ h=>h) (Or.inl ⟨by rfl,?_⟩) (by assumption) ?_;rotate_left
   . (intro w q;(try dsimp only at q);go_simp;(try with_reducible rfl))
   refine wpAnyH_ready (rs:=[8]) kR sP ?_;refine AllReadyH.cons rfl (λKC X=> ?_) AllReadyH.nil;have aF:=E.o.1.sa.cellAt a oM;have bf:=E.o.1.sa.frozenAt a;obtain⟨V1,aX⟩:∃V,j[a]?=K V:=⟨_,an (by rw[E.o.1.sl];exact ha)⟩;rw[aX]at aF;have H4:Aa (Ff w (T.setCell ⟨GS,a,M⟩ (Z G sh I)) v g f (Z (K ⟨gb,ob,M⟩) y P) z l GS n B (N+1) (j.set a (Z G sh I)) ⟨IF s.c t,CE s.r a sh,s.d⟩/\Du (T.setCell ⟨GS,a,M⟩ (Z G sh I)) S V sh/\NL (j.set a (Z G sh I)) (Dl S V)):=⟨E.o.1.jf aj.o.1 aZ aj.o.2.1,E.o.2.1.iX (by have:=E.o.1.ne;have:=E.o.2.2.1;simp only[];omega) _,E.o.2.2.2.set aj.o.2.2⟩
   go_simp;refine X.out _ _ (by have:=H4.o.1.tb.cell 10;exact this) (λaq=> ?_);clear X KC;refine wpAnyH_done kR ?_ _;clear aq bo aF bf;go_wp2_with fail;go_ret;exact .inr ⟨HC.o,rfl,_,H4.o.1,H4.o.2.1,H4.o.2.2,aU.o.setCell (.inl (.inr rfl)) _⟩
theorem Sl{q:List (List Int)}{k:Nat}(t:DQ x=true->k+1< ↑f.ch)(u:AR x=true->0<=x.c):
 C7 p f q k x sh↔sh.length<=64/\sh.all DC=true/\A6 p f x sh=0/\∀z∈AO f.ch x k,q[z.toNat]?=K (Bv p f x sh):=by
 have n:DQ x=true↔x.op≠29/\x.op≠25:=by simp[DQ];exact And.comm
 constructor
 . intro h;have s:A6 p f x sh=0:=by
    unfold A6;split
    . rename_i e;rw[lS (h.ret e)]
    rename_i e;exact h.ch e
   refine⟨h.j4,h.types,s, λz a=> ?_⟩;unfold AO at a;rw[kS]at a;rcases a with a|a
   . split at a
     . rename_i e;simp only[lT]at a;subst a;have g:=n.1 e.1;rw[kM,h.next g.1 g.2];unfold Bv;rw[lE g.1]
     cases a
   split at a
   . rename_i e;simp only[lT]at a;subst a;have i:=Hv.1 e.1;rw[h.named i];unfold Bv;rw[lE (by unfold FZ at i;omega)]
   cases a
 rintro⟨h1,h2,b,m⟩;refine⟨h2,h1, λe=> ?_, λe=> ?_, λe g=> ?_, λe=> ?_⟩
 . unfold A6 at b;rw[lS e]at b;split at b
   . assumption
   cases b
 . unfold A6 at b;rw[lE e]at b;exact b
 . have j:=n.2 ⟨e,g⟩;have:=m ((k+1:Nat):Int) (by unfold AO;rw[lS ⟨j,t j⟩];simp);rw[kM]at this;rw[this];unfold Bv;rw[lE e]
 have i:=Hv.2 e;have r:x.op≠29:=by unfold FZ at e;omega
 have j:Bv p f x sh=BT p f x sh:=by unfold Bv;rw[lE r]
 rw[<-j];by_cases l:DQ x=true/\k+1< ↑f.ch/\x.c=((k+1:Nat):Int)
 . rw[l.2.2];exact m ((k+1:Nat):Int) (by unfold AO;rw[lS ⟨l.1,l.2.1⟩];simp)
 exact m x.c (by unfold AO;rw[kS];exact .inr (by rw[lS ⟨i,l⟩];simp))
theorem QO{xs:List MI}(f:Ei xs){e:Nat}(g:xs[e]?=K x):∀z∈AO xs x e,∃q:Nat,z=q/\q<xs.length:= λz a=>by
 unfold AO at a;rw[kS]at a;rcases a with a|a
 . split at a
   . rename_i e;simp only[lT]at a;exact⟨_,a,e.2⟩
   cases a
 split at a
 . rename_i b;simp only[lT]at a;have:=f e x g b.1;exact⟨x.c.toNat,oM,oM⟩
 cases a
theorem Pa(xs:List MI)(x:MI)(e:Nat):(AO xs x e).length<=2:=by unfold AO;rw[kJ];split<;>split<;>simp
structure RT(w:Y)(v:VP)(p:MP)(g:VF)(f:MF)(shv:J)(shs:List (List Int)):Prop where
 ps:p.small
 pf:A8 p 0
 fs:f.small
 rp:Cz w v p
 rf:Dt w g f
 rs:Dm w shv shs
 len:shs.length= ↑f.ch
 cl:f.ch.length<=1024
 pl:Ei f.ch
 rows:∀r∈shs,r.length<=1048576
 ok:∀x∈f.ch,AK p f x
theorem RT.bM{b:List (List Int)}(h:RT w v p g f e b)(a:Ad w w i):RT i v p g f e b:=⟨h.ps,h.pf,h.fs,h.rp.bM a lR,h.rf.bM a lR,h.rs.bM a lR,h.len,h.cl,h.pl,h.rows,h.ok⟩
theorem Lm (v:VP)(p:MP)(g:VF)(f:MF)(aG:J)(y:List (List Int))(k:Nat)(x:MI)(sh:List Int)(w:Y)(h:RT w v p g f aG y)(hx:f.ch[k]?=K x)(ah:y[k]?=K sh)(aU:DQ x=true->k+1< ↑f.ch):
 Ae Tryz.prog 43 #[.agg #[v.r,v.k,v.f,v.t,g.p,Ac Ab f.gz,g.l,g.c],aG,Ac Ab (k:Int)] w λe w'=>AC e (C7 p f y k x sh)/\Ad w w w':=by
 have HQ:Aa (C7 p f y k x sh↔sh.length<=64/\sh.all DC=true/\A6 p f x sh=0/\∀z∈AO f.ch x k,y[z.toNat]?=K (Bv p f x sh)):=Sl aU (λe=>(h.pl k x hx e).1)
 obtain⟨r1,r3,k1,k3,t1,t3,f1,f3,rfl⟩:=h.rp.sl;obtain⟨R,T,X,g6,g7,N,rfl⟩:=C5 h.rf;obtain⟨ha,hc,rfl⟩:∃a c,aG=Z a y c:=by obtain⟨_,_,h2,_⟩:=h.rs;exact h2.fu
 obtain⟨gg,oo,sa,sc,bz,j0,bg,bH⟩:=Ea h.rs rfl ah;subst bz;obtain⟨B,C,ci,ei,i0,i1,i2,i3⟩:=KL h.rf.2.2 hx;simp only[jc,lO]at ei;obtain⟨rfl,rfl⟩:=ei;have H:Aa (RT w ⟨Z r1 p.a7 r3,Z k1 p.aC k3,Z f1 p.cC f3,Z t1 p.dr t3⟩ p ⟨Z R f.d5 T,Z X f.en g6,Z (K ⟨B,C,M⟩) f.ch N⟩ f (Z (K ⟨gg,oo,M⟩) y hc) y/\f.ch[k]?=K x/\y[k]?=K sh/\Rd w 1 (Z sa sh sc) sh (sh.flatMap Ah)/\sh.length<=1048576):=⟨h,hx,ah,bg,h.rows sh (i8 ah)⟩
 have bL:k<f.ch.length:=(iV.1 hx).1;have bO:k<y.length:=(iV.1 ah).1;have aF:f.ch.length<=1024:=h.cl;have aI:Aa (∀u,Ad w w u->u.cell? ⟨gg,oo+k,M⟩=K (Z sa sh sc)/\u.cell? ⟨B,C+k*4,M⟩=K (Ac Ab x.op)/\u.cell? ⟨B,C+k*4+1,M⟩=K (Ac Ab x.a)/\u.cell? ⟨B,C+k*4+2,M⟩=K (Ac Ab x.b)/\u.cell? ⟨B,C+k*4+3,M⟩=K (Ac Ab x.c)):= λu hu=>⟨AS hu j0,AS hu i0,AS hu i1,AS hu i2,AS hu i3⟩
 have bF:y.length<=1024:=by rw[h.len];exact aF
 clear h hx ah bg bH j0 i0 i1 i2 i3 aU;generalize p.a7.length=nr at H⊢;generalize p.aC.length=nk at H⊢;generalize p.cC.length=nf at H⊢;generalize p.dr.length=nt at H⊢;generalize f.d5.length=np at H⊢;generalize f.en.length=nl at H⊢;generalize aW:f.ch.length=I at H bL aF⊢;have aJ:Aa (↑f.ch=I):=aW
 clear aW;generalize aX:y.length=ns at H bO bF⊢;have aM:Aa (↑y=ns):=aX
 clear aX;have bT:(k:Int)<(I:Int):=oM;have bV:(k:Int)<(ns:Int):=oM;have E0:Aa (Ar (w.alloc (.cells #[Z r1 nr r3,Z k1 nk k3,Z f1 nf f3,Z t1 nt t3,Z R np T,Ac Ab f.gz,Z X nl g6,Z (K ⟨B,C,M⟩) I N] 53)) w #[Z r1 nr r3,Z k1 nk k3,Z f1 nf f3,Z t1 nt t3,Z R np T,Ac Ab f.gz,Z X nl g6,Z (K ⟨B,C,M⟩) I N] 53/\Ad w w (w.alloc (.cells #[Z r1 nr r3,Z k1 nk k3,Z f1 nf f3,Z t1 nt t3,Z R np T,Ac Ab f.gz,Z X nl g6,Z (K ⟨B,C,M⟩) I N] 53))):=⟨Ar.new _ _ _,Ag _ _⟩
 go_enter Tryz.func43,Tryz.ntmps43;go_upto_region 1 with fail
 refine An (λu=>Aa (Ar u w #[Z r1 nr r3,Z k1 nk k3,Z f1 nf f3,Z t1 nt t3,Z R np T,Ac Ab f.gz,Z X nl g6,Z (K ⟨B,C,M⟩) I N] 53/\Ad w w u)) E0 ?_
 rintro U G;clear E0;obtain⟨j0,i0,i1,i2,i3⟩:=aI.o U G.o.2;by_cases aR:64<sh.length
 . have bC:(64:Int)<(sh:Int):=oM;(have Q:Aa (¬C7 p f y k x sh):= λe=>by have:=(HQ.o.1 e).1;omega);clear aR;go_wp2_with fail;go_ret;exact⟨.no Q.o,G.o.2⟩
 have bC:¬(64:Int)<(sh:Int):=oM;have bq:Aa (sh.length<=64):=by show sh.length<=64;omega
 clear aR;go_wp2_with fail;refine(Ex (Z sa sh sc) sh U H.o.2.2.2.2 (H.o.2.2.2.1.bM G.o.2 lR)).mono ?_;rintro e A ⟨rfl,rfl⟩;cases hty:sh.all DC with
 | false=>(have Q:Aa (¬C7 p f y k x sh):= λe=>by have:=(HQ.o.1 e).2.1;rw[hty]at this;cases this);clear hty;go_wp2_with fail;go_ret;exact⟨.no Q.o,G.o.2⟩
 | true=>
   have bu:Aa (sh.all DC=true):=hty;clear hty;go_wp2_with fail;refine(Kb (Z sa sh sc) sh A (H.o.2.2.2.1.bM G.o.2 lR) H.o.2.2.2.2).mono ?_;rintro e P ⟨rfl,⟨V,bj⟩,b1⟩;have ae:Aa (RT A ⟨Z r1 nr r3,Z k1 nk k3,Z f1 nf f3,Z t1 nt t3⟩ p ⟨Z R np T,Z X nl g6,Z (K ⟨B,C,M⟩) I N⟩ f (Z (K ⟨gg,oo,M⟩) ns hc) y):=H.o.1.bM G.o.2;have F:Aa (Ar P w #[Z r1 nr r3,Z k1 nk k3,Z f1 nf f3,Z t1 nt t3,Z R np T,Ac Ab f.gz,Z X nl g6,Z (K ⟨B,C,M⟩) I N] 53/\Ad w w P/\Ad A A P/\Du P A V sh/\Ad w w A/\(w:Nat)< ↑A):=⟨G.o.1.bM b1,Ai G.o.2 lR b1,b1,bj,G.o.2,G.o.1.lt⟩
   clear bj b1 G j0 i0 i1 i2 i3;(go_upto_region 4 with fail);have bD:=Aj P;obtain⟨s0,E,s2,s3,s4,s5,s6,s7⟩:=Ix (F.o.1.bM bD);obtain⟨j0,i0,i1,i2,i3⟩:=aI.o P.drew (Ai F.o.2.1 lR bD);clear bD;go_cut [38] (λs wx=>∃bb:Bool,s=.bool bb/\Aa (bb=true↔¬A6 p f x sh=0)/\Aa (Yn P.drew A V (A6 p f x sh) (Bv p f x sh) wx))
   case first=>
    go_region_with (go_at_call 68;refine(Ky ⟨Z r1 nr r3,Z k1 nk k3,Z f1 nf f3,Z t1 nt t3⟩ p ⟨Z R np T,Z X nl g6,Z (K ⟨B,C,M⟩) I N⟩ f x A V sh A P.drew ae.o.ps ae.o.pf ae.o.fs ae.o.rp ae.o.rf (ae.o.ok x (i8 H.o.2.1)) lR (Ai F.o.2.2.1 lR (Aj _)) (F.o.2.2.2.1.bM (Aj _)) H.o.2.2.2.2).mono ?_;rintro e u2 ⟨rfl,aT⟩;have a8:Aa (Yn P.drew A V (A6 p f x sh) (Bv p f x sh) u2):=aT;clear aT);all_goals
     go_wp2_with fail;go_meet;exact⟨_,rfl,by show(_=true↔_);simp,a8⟩
   case rest=>
    obtain⟨bb,rfl,aA,a8⟩:=hcut;clear s0 E s2 s3 s4 s5 s6 s7 j0 i0 i1 i2 i3;obtain⟨W2,bG⟩:∃W,W=wc:=⟨_,rfl⟩;subst bG;have aw:Aa (Ad A A W2):=(Ai F.o.2.2.1 lR (Aj _)).trans (a8.o.1.below (kT F.o.2.2.1.size lR) (λj hj e=>by have:=(Dl.ge F.o.2.2.2.1 e).1;omega));have aj:Aa (Ad w w W2):=Ai F.o.2.2.2.2.1 lR aw.o;have aQ:Aa (Ar W2 w #[Z r1 nr r3,Z k1 nk k3,Z f1 nf f3,Z t1 nt t3,Z R np T,Ac Ab f.gz,Z X nl g6,Z (K ⟨B,C,M⟩) I N] 53):=a8.o.1.gR (F.o.1.bM (Aj _)) (λe=>by have:=(Dl.ge F.o.2.2.2.1 e).1;have:=F.o.2.2.2.2.2;omega);(cases bb);(case true=>(have Q:Aa (¬C7 p f y k x sh):= λe=>aA.o.1 (by first|rfl|trivial) (HQ.o.1 e).2.2.1);go_wp2_with fail;go_ret;exact⟨.no Q.o,aj.o⟩);case false=>
     (have aD:Aa (A6 p f x sh=0):=ly λe=>by have:=aA.o.2 e;cases this);obtain⟨V',bp,bQ⟩:=a8.o.2 aD.o;clear bQ;have aE:Aa (Du W2 A V' (Bv p f x sh)):=bp;have bt:Aa ((Bv p f x sh).length<=1048576):=by
      have h1:=aD.o;show(Bv p f x sh).length<=1048576;unfold A6 at h1;unfold Bv;split
      . simp
      rename_i hn;rw[lE hn]at h1;unfold BJ at h1;split at h1
      . cases h1
      split at h1
      . cases h1
      split at h1
      . cases h1
      omega
     clear bp a8 aA F;clear P;generalize A.heap.size=S at aE aw⊢;obtain⟨s0,E,s2,s3,s4,s5,s6,s7⟩:=Ix aQ.o;go_wp2_with fail;refine(Hj (Z (K ⟨B,C,M⟩) I N) f.ch x k W2 (by rw[aJ.o];exact aF) H.o.1.pl H.o.2.1 (by have:=(H.o.1.bM aj.o).rf.2.2;rw[aJ.o]at this⊢;exact this)).mono ?_;rintro e u3 ⟨pv,rfl,aq,b3⟩;obtain⟨pa,pc,bB⟩:=Az aq;subst bB;have aP:Aa (∀z∈AO f.ch x k,∃q:Nat,z=q/\q< ↑f.ch):=QO H.o.1.pl H.o.2.1
     have aY:=Pa f.ch x k;generalize bP:AO f.ch x k=D at HQ aq aY aP⊢;clear bP;have E4:Aa (Rd u3 1 (Z pa D pc) D (D.flatMap Ah)/\Du u3 S V' (Bv p f x sh)/\Ad w w u3):=⟨Rd.gM aq,aE.o.bM b3,Ai aj.o lR b3⟩
     clear aq b3 aE aj aQ aw s0 E s2 s3 s4 s5 s6 s7;clear W2;generalize aZ:D.length=ll at E4 aY⊢;have am:Aa (↑D=ll):=aZ
     clear aZ;go_wp2_with fail;go_loopw [9,45] (λ_ i wr=>∃j:Nat,j<=ll/\i=Ac Ab (j:Int)/\Aa ((∀(m:Nat) z,m<j->D[m]?=K z->y[z.toNat]?=K (Bv p f x sh))/\Rd wr 1 (Z pa ll pc) ll (D.flatMap Ah)/\Du wr S V' (Bv p f x sh)/\Ad w w wr)) (λ_ i _=>ll-(intOf i).toNat)
     (case atStart=>exact⟨0,oM,rfl, λm z hm=>absurd hm oM,E4.o.1,E4.o.2.1,E4.o.2.2⟩);clear E4;obtain⟨j,hj,rfl,L⟩:=hrel;by_cases bJ:j<ll
     . obtain⟨z,O⟩:∃z,D[j]?=K z:=⟨_,an (by rw[am.o];exact bJ)⟩;obtain⟨q,bR,bf⟩:=aP.o z (i8 O);subst bR;obtain⟨E,au⟩:∃s,y[q]?=K s:=⟨_,an (by rw[H.o.1.len];exact bf)⟩;obtain⟨bS,bY,sb,sd,e',j1,bi,bI⟩:=Ea (H.o.1.bM L.o.2.2.2).rs aM.o.symm au;simp only[kK,mA,mg]at e';obtain⟨rfl,rfl⟩:=e';obtain⟨gp,op,ep,p0⟩:=Ld (a:=pa) (n:=ll) (c:=pc) (zs:=D) (by rw[am.o];exact L.o.2.1) am.o.symm O;subst ep;(have bX:(q:Int)<(ns:Int):=by have h1:=H.o.1.len;have h2:=aM.o;omega);have HZ:Aa (D[j]?=K (q:Int)/\y[q]?=K E/\Rd wr 1 (Z sb E sd) E (E.flatMap Ah)/\E.length<=1048576):=⟨O,au,bi,H.o.1.rows E (i8 au)⟩
       clear O au bi bI bf;go_wp2_with fail;refine(Iy S V' (Z sb E sd) (Bv p f x sh) E wr L.o.2.2.1 HZ.o.2.2.1 bt.o HZ.o.2.2.2).mono ?_;rintro e u5 ⟨⟨b5,rfl,aS⟩,ao⟩;have E5:Aa (Rd u5 1 (Z (K ⟨gp,op,M⟩) ll pc) ll (D.flatMap Ah)/\Du u5 S V' (Bv p f x sh)/\Ad w w u5):=⟨L.o.2.1.bM ao lR,L.o.2.2.1.bM ao,Ai L.o.2.2.2 lR ao⟩
       have aH:Aa (b5=true↔Bv p f x sh=E):=aS;have br:Aa (∀(m:Nat) z,m<j->D[m]?=K z->y[z.toNat]?=K (Bv p f x sh)):=L.o.1;clear aS ao L j1 p0;cases b5
       . (have Q:Aa (¬C7 p f y k x sh):= λe=>by have h1:=(HQ.o.1 e).2.2.2 (q:Int) (i8 HZ.o.1);rw[kM,HZ.o.2.1]at h1;have:=aH.o.2 (kN h1).symm;cases this);go_wp2_with fail;go_ret;exact⟨.no Q.o,E5.o.2.2⟩
       . have Q:Aa (∀(m:Nat) z,m<j+1->D[m]?=K z->y[z.toNat]?=K (Bv p f x sh)):= λm z hm O=>by
          by_cases e:m=j
          . subst e;rw[HZ.o.1]at O;obtain rfl:=kN O;rw[kM,HZ.o.2.1,aH.o.1 (by first|rfl|trivial)]
          exact br.o m z oM O
         go_wp2_with fail;go_roundw;(case rel=>exact⟨j+1,oM,by go_num,Q.o,E5.o⟩);exact oI
     have bK:j=ll:=oM;subst bK;have HY:Aa (C7 p f y k x sh):=HQ.o.2 ⟨bq.o,bu.o,aD.o, λz O=>by obtain⟨m,hm⟩:=lw O;exact L.o.1 m z (by have:=(iV.1 hm).1;rw[am.o]at this;exact this) hm⟩;go_wp2_with fail;go_ret;exact⟨.ik HY.o,L.o.2.2.2⟩
structure IQ(w:Y)(v:VP)(p:MP)(g:VF)(f:MF):Prop where
 ps:p.small
 pf:A8 p 0
 fs:f.small
 rp:Cz w v p
 rf:Dt w g f
 c1:1<=f.ch.length
 cl:f.ch.length<=1024
 pl:Ei f.ch
 ok:∀x∈f.ch,AK p f x
 last:∀(k:Nat) x,f.ch[k]?=K x->DQ x=true->k+1< ↑f.ch
theorem Ln(v:VP)(p:MP)(g:VF)(f:MF)(am:J)(b:List (List Int))(w:Y)(h:IQ w v p g f)(ah:Dm w am b)(aE:∀r∈b,r.length<=1048576)(aS:b.length<=1048576):
 Ae Tryz.prog 20 #[.agg #[v.r,v.k,v.f,v.t,g.p,Ac Ab f.gz,g.l,g.c],am] w λe w'=>AC e (Eb p f b)/\Ad w w w':=by
 obtain⟨G,I,E,F,L,N,f1,f3,rfl⟩:=h.rp.sl;obtain⟨q,z,A,B,C,D,rfl⟩:=C5 h.rf;obtain⟨ha,hc,rfl⟩:∃a c,am=Z a b c:=by obtain⟨_,_,h2,_⟩:=ah;exact h2.fu
 have H:Aa (IQ w ⟨Z G p.a7 I,Z E p.aC F,Z f1 p.cC f3,Z L p.dr N⟩ p ⟨Z q f.d5 z,Z A f.en B,Z C f.ch D⟩ f/\Dm w (Z ha b hc) b/\∀r∈b,r.length<=1048576):=⟨h,ah,aE⟩
 have aM:=h.cl;have aJ:=h.c1;have n:Aa (Ar (w.alloc (.cells #[Z G p.a7 I,Z E p.aC F,Z f1 p.cC f3,Z L p.dr N,Z q f.d5 z,Ac Ab f.gz,Z A f.en B,Z C f.ch D] 53)) w #[Z G p.a7 I,Z E p.aC F,Z f1 p.cC f3,Z L p.dr N,Z q f.d5 z,Ac Ab f.gz,Z A f.en B,Z C f.ch D] 53/\Ad w w (w.alloc (.cells #[Z G p.a7 I,Z E p.aC F,Z f1 p.cC f3,Z L p.dr N,Z q f.d5 z,Ac Ab f.gz,Z A f.en B,Z C f.ch D] 53))):=⟨Ar.new _ _ _,Ag _ _⟩
 clear h ah aE;generalize p.a7.length=nr at H n⊢;generalize p.aC.length=nk at H n⊢;generalize p.cC.length=X at H n⊢;generalize p.dr.length=nt at H n⊢;generalize f.d5.length=np at H n⊢;generalize f.en.length=nl at H n⊢;generalize aA:f.ch.length=W at H n aM aJ⊢;have S:Aa (↑f.ch=W):=aA
 clear aA;generalize aD:b.length=j at H aS⊢;have R:Aa (↑b=j):=aD
 clear aD;go_enter Tryz.func20,Tryz.ntmps20;go_upto_region 1 with fail
 refine An (λu=>Aa (Ar u w #[Z G nr I,Z E nk F,Z f1 X f3,Z L nt N,Z q np z,Ac Ab f.gz,Z A nl B,Z C W D] 53/\Ad w w u)) n ?_
 rintro U Q;clear n;obtain⟨s0,s1,s2,s3,s4,s5,s6,s7⟩:=Ix Q.o.1;by_cases ae:j=W
 . subst ae;obtain⟨V,aj⟩:∃s,b[0]?=K s:=⟨_,an (by rw[R.o];omega)⟩;obtain⟨gg,oo,sa,sc,aI,j0,aR,_⟩:=Ea (H.o.2.1.bM Q.o.2 lR) R.o.symm aj;subst aI;rw[kZ]at j0;have aQ:(0:Int)<(j:Int):=oM;have aq:Aa (b[0]?=K V):=aj;clear aj aR;by_cases hz:0<V.length
   . have aG:(0:Int)<(V:Int):=oM;(have O:Aa (¬Eb p f b):= λe=>by have:=e.gK;rw[aq.o]at this;obtain rfl:=kN this;simp at hz);clear hz;go_wp2_with fail;go_ret;exact⟨.no O.o,Q.o.2⟩
   have aG:¬(0:Int)<(V:Int):=oM;(have HZ:Aa (b[0]?=K []):=by have:=aq.o;rw[lP (show V.length=0 from oM)]at this;exact this);clear hz;go_wp2_with fail;clear j0 s0 s1 s2 s3 s4 s5 s6 s7 aG aQ;go_loopw [5,22] (λ_ i wr=>∃k:Nat,k<=j/\i=Ac Ab (k:Int)/\Aa ((∀(i:Nat) x sh,i<k->f.ch[i]?=K x->b[i]?=K sh->C7 p f b i x sh)/\Ar wr w #[Z G nr I,Z E nk F,Z f1 X f3,Z L nt N,Z q np z,Ac Ab f.gz,Z A nl B,Z C j D] 53/\Ad w w wr)) (λ_ i _=>j-(intOf i).toNat)
   (case atStart=>exact⟨0,oM,rfl, λi x sh hi=>absurd hi oM,Q.o⟩);clear Q;obtain⟨k,hk,rfl,m⟩:=hrel;by_cases aw:k<j
   . obtain⟨x,T⟩:∃x,f.ch[k]?=K x:=⟨_,an (by rw[S.o];exact aw)⟩;obtain⟨sh,aF⟩:∃s,b[k]?=K s:=⟨_,an (by rw[R.o];exact aw)⟩;have P:Aa (f.ch[k]?=K x/\b[k]?=K sh):=⟨T,aF⟩
     clear T aF;obtain⟨s0,s1,s2,s3,s4,s5,s6,s7⟩:=Ix m.o.2.1;go_wp2_with fail;refine(Lm ⟨Z G nr I,Z E nk F,Z f1 X f3,Z L nt N⟩ p ⟨Z q np z,Z A nl B,Z C j D⟩ f (Z (K ⟨gg,oo,M⟩) j hc) b k x sh wr ⟨H.o.1.ps,H.o.1.pf,H.o.1.fs,H.o.1.rp.bM m.o.2.2 lR,H.o.1.rf.bM m.o.2.2 lR,H.o.2.1.bM m.o.2.2 lR,by rw[R.o,S.o],H.o.1.cl,H.o.1.pl,H.o.2.2,H.o.1.ok⟩ P.o.1 P.o.2 (H.o.1.last k x P.o.1)).mono ?_;rintro e u2 ⟨⟨b2,rfl,au⟩,a8⟩;have E2:Aa (Ar u2 w #[Z G nr I,Z E nk F,Z f1 X f3,Z L nt N,Z q np z,Ac Ab f.gz,Z A nl B,Z C j D] 53/\Ad w w u2):=⟨m.o.2.1.bM a8,Ai m.o.2.2 lR a8⟩
     have ao:Aa (b2=true↔C7 p f b k x sh):=au;have aH:Aa (∀(i:Nat) x sh,i<k->f.ch[i]?=K x->b[i]?=K sh->C7 p f b i x sh):=m.o.1;clear au a8 m s0 s1 s2 s3 s4 s5 s6 s7;cases b2
     . (have O:Aa (¬Eb p f b):= λe=>by have:=ao.o.2 (e.all k x sh P.o.1 P.o.2);cases this);go_wp2_with fail;go_ret;exact⟨.no O.o,E2.o.2⟩
     . have O:Aa (∀(i:Nat) x sh,i<k+1->f.ch[i]?=K x->b[i]?=K sh->C7 p f b i x sh):= λi y t hi hy ht=>by
        by_cases e:i=k
        . subst e;rw[P.o.1]at hy;rw[P.o.2]at ht;obtain rfl:=kN hy;obtain rfl:=kN ht;exact ao.o.1 (by first|rfl|trivial)
        exact aH.o i y t oM hy ht
       go_wp2_with fail;go_roundw;(case rel=>exact⟨k+1,oM,by go_num,O.o,E2.o⟩);exact oI
   have aP:k=j:=oM;subst aP;have HY:Aa (Eb p f b):=⟨by rw[R.o,S.o],HZ.o, λi x sh T hs=>m.o.1 i x sh (by have:=(iV.1 T).1;rw[S.o]at this;exact this) T hs⟩;go_wp2_with fail;go_ret;exact⟨.ik HY.o,m.o.2.2⟩
 have aT:((j:Int) != (W:Int))=true:=oT;have O:Aa (¬Eb p f b):= λe=>ae (by rw[<-R.o,<-S.o];exact e.len)
 clear ae;go_wp2_with fail;go_ret;exact⟨.no O.o,Q.o.2⟩
theorem Nr(n c:Int)(w:Y):Ae Tryz.prog 28 #[Ac Ab n,Ac Ab c] w λe a=>AC e (0<=n/\n<c)/\a=w:=(Bf n c w).mono λe a h=>⟨⟨_,h.1,sP⟩,h.2⟩
theorem D2.jK{b g f:J}(h:D2 w base b g e f F j r)(a:Ad w w i):D2 i base b g e f F j r:=⟨Am h.j9 a lR,Am h.j7 a lR,h.gW.bM a,h.eb,h.el⟩
theorem D2.sl{g f b i:J}{y:List (ML×J×J)}(h:D2 w base g f b i F y r):∃v1 l c1 v2 p c2 v3 s c3 a t c4,g=Z v1 l c1/\f=Z v2 p c2/\b=Z v3 s c3/\i=Z a t c4:=by obtain⟨v1,c1,j⟩:=Az h.j9;obtain⟨a,c4,e4⟩:=Az h.j7;obtain⟨v2,c2,k⟩:=Az (h.gW.own (f,r.gJ) sP);obtain⟨v3,c3,e3⟩:=Az (h.gW.own (b,r.gS) sP);exact⟨v1,_,c1,v2,_,c2,v3,_,c3,a,_,c4,j,k,e3,e4⟩
theorem D2.set{i f g:J}(h:D2 w base e i f g F j r){a:Addr}(b:a.block<base)(x:J):D2 (w.setCell a x) base e i f g F j r:=⟨lL h.j9 b x,lL h.j7 b x,⟨λr k=>lL (h.gW.own r k) b x,h.gW.sep⟩,h.eb,h.el⟩
theorem D2.down{i f g:J}(h:D2 w base e i f g F j r)(a:b<=base):D2 w b e i f g F j r:=⟨Bb h.j9 a,Bb h.j7 a,⟨λr k=>Bb (h.gW.own r k) a,h.gW.sep⟩,h.eb,h.el⟩
def Xm(w:Y)(p:MP)(g:Int)(e:Ending)(m:Y):Prop:=∃(c a:Int) (v1:Option Addr) (h c1:Nat) (v2:Option Addr) (i c2:Nat) (v3:Option Addr) (j c3:Nat) (l:Option Addr) (k c4:Nat) (b:Bool),e=.returned (.tuple #[.agg #[Ac Ab c,Ac Ab a,Z v1 h c1,Z v2 i c2,Z v3 j c3,Z l k c4],.bool b])/\(b=true↔GJ p g)/\(b=true->∃f r F n,p.cC[g.toNat]?=K f/\Bc f.ch r/\r.ch=0/\c=0/\D2 m w (Z v1 h c1) (Z v2 i c2) (Z v3 j c3) (Z l k c4) F n r)/\Ad w w m
theorem Wh{q:Prop}(h:q:=by go_wp2_with fail;have G:Aa _:=(((((E2.o.2.1.set 0 (Ac Ab 0)).set 1 (Ac Ab 0)).set 2 (Z M 0 0)).set 3 (Z M 0 0)).set 4 (Z M 0 0)).set 5 (Z M 0 0);simp only[kV,lI,lM]at G;clear q0 q1 q2 q3 q4 q5;obtain⟨q0,q1,q2,q3,q4,q5⟩:=Dq G.o;exact kY (v:=.tuple #[.agg #[Ac Ab 0,Ac Ab 0,Z M 0 0,Z M 0 0,Z M 0 0,Z M 0 0],.bool false]) (by simp[results,Tryz.results13,go_sem,q0,q1,q2,q3,q4,q5]) rfl ⟨0,0,_,_,_,_,_,_,_,_,_,_,_,_,false,rfl,⟨λe=>(by cases e), λe=>absurd e HNP.o⟩, λe=>(by cases e),(((((E2.o.2.2.setCell (by simp only[];omega) _).setCell (by simp only[];omega) _).setCell (by simp only[];omega) _).setCell (by simp only[];omega) _).setCell (by simp only[];omega) _).setCell (by simp only[];omega) _⟩):q:=h
theorem G8(v:VP)(p:MP)(V:Int)(w:World)(hs:p.small)(hw:p.wf)(h:Cz w v p)(aw:Dm w v.r p.a7)(aE:GY w v.f p.cC):Ae Tryz.prog 13 #[.agg #[v.r,v.k,v.f,v.t],Ac Ab V] w (Xm w p V):=by
 have H:Aa (p.small/\p.wf/\Cz w v p/\Dm w v.r p.a7/\GY w v.f p.cC):=⟨hs,hw,h,aw,aE⟩
 obtain⟨I,L,A,B,N,O,f1,f3,rfl⟩:=h.sl;clear hs hw h aw aE;have aG:Aa (p.cC.length<=1048576):=H.o.1.cC;generalize aF:p.cC.length=y at H aG⊢;have aj:Aa (↑p.cC=y):=aF
 clear aF;generalize p.a7.length=D at H⊢;generalize p.aC.length=C at H⊢;generalize p.dr.length=E at H⊢;simp only[]at H;have E0:Aa (Ar ((w.alloc (.cells #[Z I D L,Z A C B,Z f1 y f3,Z N E O] 28)).alloc (.cells #[Ac Ab 0,Ac Ab 0,Z M 0 0,Z M 0 0,Z M 0 0,Z M 0 0] 45)) w #[Z I D L,Z A C B,Z f1 y f3,Z N E O] 28/\Ar ((w.alloc (.cells #[Z I D L,Z A C B,Z f1 y f3,Z N E O] 28)).alloc (.cells #[Ac Ab 0,Ac Ab 0,Z M 0 0,Z M 0 0,Z M 0 0,Z M 0 0] 45)) ((w:Nat)+1) #[Ac Ab 0,Ac Ab 0,Z M 0 0,Z M 0 0,Z M 0 0,Z M 0 0] 45/\Ad w w ((w.alloc (.cells #[Z I D L,Z A C B,Z f1 y f3,Z N E O] 28)).alloc (.cells #[Ac Ab 0,Ac Ab 0,Z M 0 0,Z M 0 0,Z M 0 0,Z M 0 0] 45))):=by
  have W:=Ag w (.cells #[Z I D L,Z A C B,Z f1 y f3,Z N E O] 28);have b2:=Ag (w.alloc (.cells #[Z I D L,Z A C B,Z f1 y f3,Z N E O] 28)) (.cells #[Ac Ab 0,Ac Ab 0,Z M 0 0,Z M 0 0,Z M 0 0,Z M 0 0] 45);refine⟨(Ar.new w _ _).bM b2,?_,Ai W lR b2⟩;have k2:=Ar.new (w.alloc (.cells #[Z I D L,Z A C B,Z f1 y f3,Z N E O] 28)) #[Ac Ab 0,Ac Ab 0,Z M 0 0,Z M 0 0,Z M 0 0,Z M 0 0] 45;have e1:(w.alloc (.cells #[Z I D L,Z A C B,Z f1 y f3,Z N E O] 28)).heap.size= ↑w+1:=sP
  rw[e1]at k2;exact k2
 go_enter Tryz.func13,Tryz.ntmps13;go_upto_region 1 with fail
 refine An (λu=>Aa (Ar u w #[Z I D L,Z A C B,Z f1 y f3,Z N E O] 28/\Ar u ((w:Nat)+1) #[Ac Ab 0,Ac Ab 0,Z M 0 0,Z M 0 0,Z M 0 0,Z M 0 0] 45/\Ad w w u)) E0 ?_
 rintro U S;clear E0;obtain⟨p0,p1,p2,p3⟩:=Bi S.o.1;go_wp2_with fail;refine(Jx ⟨Z I D L,Z A C B,Z f1 y f3,Z N E O⟩ p U H.o.1 H.o.2.1 (H.o.2.2.1.bM S.o.2.2 lR) (H.o.2.2.2.1.bM S.o.2.2 lR) (H.o.2.2.2.2.bM S.o.2.2 lR)).mono ?_;rintro e u1 ⟨⟨n,rfl,hn⟩,W⟩;have E2:Aa (Ar u1 w #[Z I D L,Z A C B,Z f1 y f3,Z N E O] 28/\Ar u1 ((w:Nat)+1) #[Ac Ab 0,Ac Ab 0,Z M 0 0,Z M 0 0,Z M 0 0,Z M 0 0] 45/\Ad w w u1):=⟨S.o.1.bM W,S.o.2.1.bM W,Ai S.o.2.2 lR W⟩
 have HN:Aa (A8 p n):=hn;clear W hn S p0 p1 p2 p3;obtain⟨q0,q1,q2,q3,q4,q5⟩:=Dq E2.o.2.1;obtain⟨z0,z1,z2,z3,z4,z5⟩:=WC E2.o.2.1;by_cases ae:n=0
 . subst ae;rw[show Rf 0=.nilIface from rfl];obtain⟨p0,p1,p2,p3⟩:=Bi E2.o.1;go_wp2_with fail;refine(Nr V (y:Int) u1).mono ?_;rintro e R ⟨⟨b2,rfl,Q⟩,rfl⟩;have ah:Aa (b2=true↔(0<=V/\V<(y:Int))):=Q
   clear Q;cases b2
   . (have HNP:Aa (¬GJ p V):= λe=>by obtain⟨f,X,_⟩:=e.2.2;have h1:=(iV.1 X).1;have h2:=aj.o;have:=ah.o.2 ⟨e.2.1,by have:=e.2.1;omega⟩;cases this);exact Wh
   . have am:=ah.o.1 (by first|rfl|trivial);obtain⟨q,rfl⟩:=kU am.1;obtain⟨f,X⟩:∃f,p.cC[q]?=K f:=⟨_,an (by rw[aj.o];omega)⟩;obtain⟨gk,ok,ck,au,g,aq,m0,m1,m2,m3⟩:=GO (H.o.2.2.1.bM E2.o.2.2 lR).cC X;simp only[jc,aj.o,lO]at au;obtain⟨rfl,rfl⟩:=au;obtain⟨g1,g3,g4,g6,g7,g9,rfl⟩:=C5 aq;have bz:(q:Int)<(y:Int):=am.2;have HF:Aa (p.cC[q]?=K f/\f.small/\Dt R ⟨Z g1 f.d5 g3,Z g4 f.en g6,Z g7 f.ch g9⟩ f):=⟨X,H.o.1.func f (i8 X),aq⟩
     clear X aq am ah;simp only[]at m0 m1 m2 m3;go_wp2_with fail;refine(Np (Z g7 f.ch g9) f.ch R HF.o.2.1.2.2 HF.o.2.2.2.2).mono ?_;rintro e P ⟨r,vb,vo,vi,vl,F,ys,rfl,aD,ao,b3⟩;obtain⟨v1,i,c1,v2,j,c2,v3,l,c3,s,m,c4,rfl,rfl,rfl,rfl⟩:=ao.sl;have T:Aa (Bc f.ch r/\D2 P R (Z v1 i c1) (Z v2 j c2) (Z v3 l c3) (Z s m c4) F ys r/\Ar P ((w:Nat)+1) #[Ac Ab 0,Ac Ab 0,Z M 0 0,Z M 0 0,Z M 0 0,Z M 0 0] 45/\Ad w w P/\(w:Nat)+1< ↑R):=⟨aD,ao,E2.o.2.1.bM b3,Ai E2.o.2.2 lR b3,E2.o.2.1.lt⟩
     clear aD ao b3 E2 m0 m1 m2 m3 p0 p1 p2 p3 q0 q1 q2 q3 q4 q5 z0 z1 z2 z3 z4 z5;have E4:Aa (Ar (P.alloc (.cells #[Ac Ab r.ch,Ac Ab r.at_,Z v1 i c1,Z v2 j c2,Z v3 l c3,Z s m c4] 45)) P #[Ac Ab r.ch,Ac Ab r.at_,Z v1 i c1,Z v2 j c2,Z v3 l c3,Z s m c4] 45/\Ar (P.alloc (.cells #[Ac Ab r.ch,Ac Ab r.at_,Z v1 i c1,Z v2 j c2,Z v3 l c3,Z s m c4] 45)) ((w:Nat)+1) #[Ac Ab 0,Ac Ab 0,Z M 0 0,Z M 0 0,Z M 0 0,Z M 0 0] 45/\D2 (P.alloc (.cells #[Ac Ab r.ch,Ac Ab r.at_,Z v1 i c1,Z v2 j c2,Z v3 l c3,Z s m c4] 45)) R (Z v1 i c1) (Z v2 j c2) (Z v3 l c3) (Z s m c4) F ys r/\Ad w w (P.alloc (.cells #[Ac Ab r.ch,Ac Ab r.at_,Z v1 i c1,Z v2 j c2,Z v3 l c3,Z s m c4] 45))/\(w:Nat)+1< ↑P):=⟨Ar.new _ _ _,T.o.2.2.1.bM (Ag _ _),T.o.2.1.jK (Ag _ _),Ai T.o.2.2.2.1 lR (Ag _ _),T.o.2.2.1.lt⟩
     have a8:Aa (Bc f.ch r/\(w:Nat)+1< ↑R):=⟨T.o.1,T.o.2.2.2.2⟩
     (go_upto_region 4 with fail);clear T;generalize P.heap.size=Y at E4⊢;refine An (λu=>Aa (Ar u Y #[Ac Ab r.ch,Ac Ab r.at_,Z v1 i c1,Z v2 j c2,Z v3 l c3,Z s m c4] 45/\Ar u ((w:Nat)+1) #[Ac Ab 0,Ac Ab 0,Z M 0 0,Z M 0 0,Z M 0 0,Z M 0 0] 45/\D2 u R (Z v1 i c1) (Z v2 j c2) (Z v3 l c3) (Z s m c4) F ys r/\Ad w w u/\ ↑w+1<Y)) E4 ?_
     rintro U5 z;clear E4;have E6:Aa (D2 U5 R (Z v1 i c1) (Z v2 j c2) (Z v3 l c3) (Z s m c4) F ys r/\Ad w w U5):=⟨z.o.2.2.1,z.o.2.2.2.1⟩
     obtain⟨y0,y1,y2,y3,y4,y5⟩:=Dq (z.o.1.bM (Aj _));obtain⟨q0,q1,q2,q3,q4,q5⟩:=Dq (z.o.2.1.bM (Aj _));obtain⟨z0,z1,z2,z3,z4,z5⟩:=WC (z.o.2.1.bM (Aj _));obtain⟨aX,aY,aZ,bf,bg,bi⟩:=Dq z.o.1;obtain⟨aQ,aR,aS,aT,aU,aW⟩:=Dq z.o.2.1;obtain⟨bj,bp,bq,br,bt,bu⟩:=WC z.o.2.1;have aH:¬Y= ↑w+1:=by have:=z.o.2.2.2.2;omega
     have aI:¬ ↑w+1=Y:=by have:=z.o.2.2.2.2;omega
     go_region;have G:Aa _:=(((((z.o.2.1.set 0 (Ac Ab r.ch)).set 1 (Ac Ab r.at_)).set 2 (Z v1 i c1)).set 3 (Z v2 j c2)).set 4 (Z v3 l c3)).set 5 (Z s m c4);simp only[kV,lI,lM]at G;have Q:=a8.o.2;have OW:Aa _:=((((((E6.o.1.set (a:=⟨(w:Nat)+1,0,M⟩) Q (Ac Ab r.ch)).set (a:=⟨(w:Nat)+1,1,M⟩) Q (Ac Ab r.at_)).set (a:=⟨(w:Nat)+1,2,M⟩) Q (Z v1 i c1)).set (a:=⟨(w:Nat)+1,3,M⟩) Q (Z v2 j c2)).set (a:=⟨(w:Nat)+1,4,M⟩) Q (Z v3 l c3)).set (a:=⟨(w:Nat)+1,5,M⟩) Q (Z s m c4)).jK (Aj _);have BB:Aa _:=Ai (RX (RX (RX (RX (RX (RX E6.o.2 ((w:Nat)+1) 0 (Nat.le_succ _) (Ac Ab r.ch)) ((w:Nat)+1) 1 (Nat.le_succ _) (Ac Ab r.at_)) ((w:Nat)+1) 2 (Nat.le_succ _) (Z v1 i c1)) ((w:Nat)+1) 3 (Nat.le_succ _) (Z v2 j c2)) ((w:Nat)+1) 4 (Nat.le_succ _) (Z v3 l c3)) ((w:Nat)+1) 5 (Nat.le_succ _) (Z s m c4)) lR (Aj _);clear q0 q1 q2 q3 q4 q5 aQ aR aS aT aU aW y0 y1 y2 y3 y4 y5 aX aY aZ bf bg bi z0 z1 z2 z3 z4 z5 bj bp bq br bt bu aH aI;obtain⟨q0,q1,q2,q3,q4,q5⟩:=Dq (Ar.bM (w:=(((((U5.setCell ⟨(w:Nat)+1,0,M⟩ (Ac Ab r.ch)).setCell ⟨(w:Nat)+1,1,M⟩ (Ac Ab r.at_)).setCell ⟨(w:Nat)+1,2,M⟩ (Z v1 i c1)).setCell ⟨(w:Nat)+1,3,M⟩ (Z v2 j c2)).setCell ⟨(w:Nat)+1,4,M⟩ (Z v3 l c3)).setCell ⟨(w:Nat)+1,5,M⟩ (Z s m c4)) (b:=(w:Nat)+1) (t:=45) G.o (Aj _));go_wp2_with fail;have aJ:(w:Nat)<=R.heap.size:=oM
     exact kY (v:=.tuple #[.agg #[Ac Ab r.ch,Ac Ab r.at_,Z v1 i c1,Z v2 j c2,Z v3 l c3,Z s m c4],.bool (r.ch==0)]) (by simp[results,Tryz.results13,go_sem,q0,q1,q2,q3,q4,q5]) rfl ⟨r.ch,r.at_,v1,i,c1,v2,j,c2,v3,l,c3,s,m,c4,r.ch==0,rfl,⟨λe=>⟨HN.o,oM,f,by rw[kM];exact HF.o.1,r,a8.o.1,by simpa using e⟩, λe=>by obtain⟨f',aA,r',aP,aM⟩:=e.2.2;rw[kM,HF.o.1]at aA;obtain rfl:=kN aA;have:=aP.one a8.o.1;rw[<-this];simpa using aM⟩, λe=>⟨f,r,F,ys,by rw[kM];exact HF.o.1,a8.o.1,by simpa using e,by simpa using e,OW.o.down aJ⟩,BB.o⟩
 rw[show Rf n=.iface 124 (Ac Ab n)from by unfold Rf;rw[lE ae]];have HNP:Aa (¬GJ p V):= λe=>ae (HN.o.one e.1)
 clear ae;exact Wh
end Go.Proofs.YtjnglocdoljgkaaGreat
