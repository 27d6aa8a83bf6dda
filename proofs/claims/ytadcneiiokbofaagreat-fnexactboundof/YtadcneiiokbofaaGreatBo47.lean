import Derived.Test.YtadcneiiokbofaaGreatBo45
namespace Go.Proofs.YtadcneiiokbofaaGreat
open Go.ChangeShapes Go.WideShapes Go.ChangeAt Go.RowKit Go.Proofs.Tryz
set_option linter.unusedVariables false
open Go.Value renaming slice → Z
open Option renaming some → K,none → M
open Go renaming Value → J,World → Y,Calls → Ai
open Go.RowKit renaming Hid → Ae,Below → Ah
open Go.IntKind renaming i64 → Af
open Go.Ending renaming returned → Al
open Go.Proofs.Tryz renaming prog → Ap
open Go.World renaming setCell → Aa,ownsRow → Ab,alloc → Ac
open List renaming flatMap → Ad
open Go.Obj renaming cells → Ak
set_option maxHeartbeats 8000000
set_option maxRecDepth 100000
variable {R:Nat->Prop}{u w d:Y}{D:DataW Unit}{v:VP}{g:VF}{f:MF}{s:WI}{j:Nat}{V:J}
theorem NJ(S:Nat)(V:J)(xs:List Int)(w:Y)(h:Fl w S V xs)(E:xs.length<=1048576):Ai Ap 250 #[.pointer S] w λe i=>∃a c,e=Al (Z a xs c)/\Ch i w (Z a xs c) xs/\Ah w w i:=by
 obtain⟨x,s,G,H,I⟩:=mN Br;obtain⟨z,c1,rfl⟩:=AF h.own;have c0:=h.ie.cell 0;simp only[lE,lC]at c0;have f:=Rd.ij h.own;have k:Ae (Ab w w 2 1 (Z M 0 0) 0 []):=mI _ _ _ _;cases z with
 | none=>
   have v:xs.length=0:=by
    rcases f.2 with⟨l,_⟩|⟨g,o,c,b,_⟩
    . exact l
    cases b
   have F:xs=[]:=mL v;subst F;(have D:∀ty,(Builtin.append_ #[29,29] ty #[sN,Z M 0 c1]).run Ap w=.ok sN w:= λty=>D3 (P:=Ap) w 29 ty 2 x 1 underlying29 s _ _ _ k c1);clear h f v;rw[mh]at c0⊢;go_enter func250,ntmps250;go_wp2_with (at_builtin;refine Lib.wpList_append_run _ rfl _ _ _ _ rfl _ _ rfl rfl _ _ (D _) ?_);go_ret;exact⟨_,_,rfl,k,lu _ _⟩
 | some ad=>
   have y:Ae (∀j u,(Ad As xs)[j]?=K u->w (ad.add j)=K u):= λj u d=>by
    rcases f.2 with⟨l,_⟩|⟨g,o,c,b,B⟩
    . have:xs=[]:=mL l;subst this;simp at d
    simp only[lB,lH]at b;obtain⟨rfl,_⟩:=b;rw[CQ];exact B j u d
   clear h f;generalize t:xs.length=m at E c0⊢;have q:=Av t;clear t;go_enter func250,ntmps250;go_wp2_with (at_builtin;refine wpList_append_own _ rfl _ _ 29 rfl w 2 x (iZ 0) 1 8 underlying29 s G H I rfl dC _ 0 [] rfl k ad m c1 (Ad As xs) rfl ?c1 y.o (De _) ?c4 ?c5 lR ?_);(case c1=>rw[AE As 1 Ay,q]);(case c4=>unfold maxLen;omega);(case c5=>omega);intro v' i n r C;(obtain⟨A,c2,rfl⟩:∃a c,v'=Z a m c:=by have:=(Rd.ij n).bW;simpa using this);have p:=Av (d5 ((by unfold Ch;rw[q];simpa using n):Ch i w (Z A m c2) xs) ((lu _ _).grown r lR (λj d=>by cases d)));clear n r C;go_wp2;go_ret;exact⟨_,_,rfl,p.1,p.2⟩
structure Gn(w u:Y)(v:VP)(g:VF)(f:MF)(bv:J)(TB MB GS n B N:Nat)(RS:List J)(s:WI):Prop where
 tb:AA u TB #[v.r,v.k,v.f,v.t,g.p,f.gV,g.l,g.c,bv,.map (K MB),sG GS n n,s.d] 306
 mp:∃cnt D,AP u MB cnt D/\cnt<=N/\∀b:Nat,Go.Maps.has D (.int Af (b:Int))=s.c b
 sa:Ab u w 29 1 (Z GS n n) n RS
 sl: ↑RS=n
 rs:∀(j:Nat) (V:J),RS[j]?=K V->Ch u B V (s.r j)
 ej:Ah w w u
 lo: ↑w<=TB/\ ↑w<=MB/\ ↑w<=GS
 ne:TB≠MB/\TB≠GS/\MB≠GS/\TB<B/\MB<B/\GS<B
 sz:B<=u.heap.size
 dl:s.d<=64
 rl:∀j,(s.r j).length<=64
 ap:∀(i j:Nat) (V W:J),i≠j->RS[i]?=K V->RS[j]?=K W->∀g,V.ownBlock=K g->W.ownBlock≠K g
theorem AP.iA{c:Y}{b a:Nat}(h:AP u b a D)(i:DB R u c)(k:¬R b):AP c b a D:=by have j:=nj h;obtain⟨e,d,g,F,l,f⟩:=h;exact⟨e,d,(i.block b j k).trans g,F,l,f⟩
def Rs(a:List J)(R:Nat->Prop):Prop:=∀(j:Nat) (V:J),a[j]?=K V->∀g,V.ownBlock=K g->¬R g
theorem Gn.iA{p:Y}{bv:J}{m MB l n B N:Nat}{i:List J}(h:Gn w u v g f bv m MB l n B N i s)(a:DB R u p)(c:∀k,R k->B<=k)(r:Rs i R):Gn w p v g f bv m MB l n B N i s:=by
 obtain⟨G,H,I,A,L,O⟩:=h.ne;obtain⟨q,D,y,t,x⟩:=h.mp;obtain⟨z,E,F⟩:=h.lo;refine⟨a.ie h.tb (λe=>by have:=c _ e;omega),⟨q,D,y.iA a (λe=>by have:=c _ e;omega),t,x⟩,a.own h.sa (λb d e=> ?_),h.sl, λj V e=>a.own (h.rs j V e) (λb d=>r j V e b d),?_,h.lo,h.ne,lQ h.sz a.size,h.dl,h.rl,h.ap⟩
 . simp only[Value.ownBlock,lH]at d;subst d;have:=c _ e;omega
 exact h.ej.trans (a.below (lQ (lQ z (o7 A)) h.sz) (λk C e=>by have:=c _ e;omega))
theorem Gn.a7{bv:J}{c MB a n B N:Nat}{b:List J}(h:Gn w u v g f bv c MB a n B N b s)(i:Ah u.heap.size u d):Gn w d v g f bv c MB a n B N b s:=h.iA (R:= λ_=>False) (DB.of i) (λ_ e=>e.elim) (λ_ _ _ _ _ e=>e)
theorem Gn.iO{bv:J}{t MB q n B N:Nat}{l:List J}(h:Gn w u v g f bv t MB q n B N l s){sh:List Int}(E:Ch u B V sh)(b:sh.length<=64)(z:∀(i:Nat) (W:J),l[i]?=K W->∀g,V.ownBlock=K g->W.ownBlock≠K g):Gn w (Aa u ⟨q,j,M⟩ V) v g f bv t MB q n B N (l.set j V) ⟨s.c,CR s.r j sh,s.d⟩:=by
 obtain⟨R,S,L,T,U,n6⟩:=h.ne;obtain⟨C,D,I,F,H⟩:=h.mp;obtain⟨O,P,Q⟩:=h.lo;refine⟨h.tb.other oS V,⟨C,D,World.ownsMap.setCell I (by simp only[];exact L) V,F,H⟩,(h.sa.stored j V).1,by rw[mZ];exact h.sl, λi W e=> ?_,h.ej.setCell oS V,h.lo,h.ne,by rw[FH];exact h.sz,h.dl, λi=> ?_, λi k X x A p a=> ?_⟩
 . simp only[CR];by_cases m:i=j
   . subst m;(have b:i<l.length:=by have:=(i8.1 e).1;rw[mZ]at this;exact this);rw[mi b]at e;(cases e);rw[lZ rfl];exact E.set oS V
   rw[mu (λe=>m e.symm)]at e;rw[lS m];exact(h.rs i W e).set oS V
 . simp only[CR];split
   . exact b
   exact h.rl i
 by_cases m:i=j
 . subst m;(have b:i<l.length:=by have:=(i8.1 p).1;rw[mZ]at this;exact this);rw[mi b]at p;(cases p);rw[mu A]at a;exact z k x a
 rw[mu (λe=>m e.symm)]at p;by_cases y:k=j
 . subst y;(have b:k<l.length:=by have:=(i8.1 a).1;rw[mZ]at this;exact this);rw[mi b]at a;(cases a);exact λg G e=>z i X p g e G
 rw[mu (λe=>y e.symm)]at a;exact h.ap i k X x A p a
theorem Gn.jl{bv:J}{a MB b n B N:Nat}{j:List J}(h:Gn w u v g f bv a MB b n B N j s)(d:Nat)(p:d<=64):Gn w (Aa u ⟨a,11,M⟩ (.int Af (d:Int))) v g f bv a MB b n B N j ⟨s.c,s.r,d⟩:=by obtain⟨A,C,E,F,G,H⟩:=h.ne;obtain⟨l,D,t,m,q⟩:=h.mp;obtain⟨x,y,z⟩:=h.lo;have k:=h.tb.set 11 d;simp only[lM,lU,lX]at k;exact⟨k,⟨l,D,World.ownsMap.setCell t oS _,m,q⟩,lI h.sa (by simp[Value.ownBlock];omega) _,h.sl, λi W e=>(h.rs i W e).set oS _,h.ej.setCell oS _,h.lo,h.ne,by rw[FH];exact h.sz,p,h.rl,h.ap⟩
theorem Gn.put{l:Y}{bv:J}{x MB p n B N:Nat}{q:List J}(h:Gn w u v g f bv x MB p n B N q s){t i:Nat}(A:AP u MB i D)(I:i<=N)(z:∀b:Nat,Go.Maps.has D (.int Af (b:Int))=s.c b)(C:AP l MB (i+1) (D.put (.int Af (t:Int)) (.agg [])))(y:u.grownBy l (K MB)):Gn w l v g f bv x MB p n B (N+1) q ⟨Ji s.c t,s.r,s.d⟩:=by
 obtain⟨F,Q,R,G,S,T⟩:=h.ne;obtain⟨E,O,P⟩:=h.lo;have a:DB (λk=>k=MB) u l:=(DB.refl _ _).grown y (λk _ e=>by cases e;rfl);refine⟨a.ie h.tb F,⟨i+1,_,C,oM, λb=> ?_⟩,a.own h.sa (λb m e=> ?_),h.sl, λj V e=>a.own (h.rs j V e) (λb m H=> ?_),h.ej.trans (a.below (lQ (lQ E (o7 G)) h.sz) (λk L e=>oM)),h.lo,h.ne,lQ h.sz a.size,h.dl,h.rl,h.ap⟩
 . rw[Er D (nV A),z b];simp only[Ji];by_cases e:b=t
   . subst e;simp
   have:¬((b:Int)=(t:Int)):=oM;simp[e,this]
 . simp only[Value.ownBlock,lH]at m;omega
 have:=(h.rs j V e).lt b m;omega
structure XX(w:Y)(v:VP)(p:MP)(g:VF)(f:MF)(shv:J)(shs:List (List Int)):Prop where
 ps:p.small
 pf:A6 p 0
 fs:f.small
 rp:Dm w v p
 rf:DF w g f
 rs:Jp w shv shs
 len:shs.length= ↑f.bO
 cl:f.bO.length<=1024
 pl:Fz f.bO
 rows:∀r∈shs,r.length<=1048576
 ok:∀x∈f.bO,AW p f x
theorem XX.a7{p:MP}{c:J}{b:List (List Int)}(h:XX w v p g f c b)(a:Ah w w d):XX d v p g f c b:=⟨h.ps,h.pf,h.fs,h.rp.a7 a lR,h.rf.a7 a lR,h.rs.a7 a lR,h.len,h.cl,h.pl,h.rows,h.ok⟩
structure PE(w:Y)(v:VP)(p:MP)(g:VF)(f:MF):Prop where
 ps:p.small
 pf:A6 p 0
 fs:f.small
 rp:Dm w v p
 rf:DF w g f
 c1:1<=f.bO.length
 cl:f.bO.length<=1024
 pl:Fz f.bO
 ok:∀x∈f.bO,AW p f x
 last:∀(k:Nat) x,f.bO[k]?=K x->FW x=true->k+1< ↑f.bO
theorem Fl.jm{S:Nat}{xs:List Int}(h:Fl u S V xs){a:Addr}(b:a.block<S)(x:J):Fl (u.setCell a x) S V xs:=⟨h.ie.other oM x,lV h.own oM x⟩
theorem Rs.set{a:List J}(h:Rs a R)(d:∀g,V.ownBlock=K g->¬R g):Rs (a.set j V) R:= λi W e g c=>by
 by_cases b:i=j
 . subst b;(have f:i<a.length:=by have:=(i8.1 e).1;rw[mZ]at this;exact this);rw[mi f]at e;(cases e);exact d g c
 rw[mu (λe=>b e.symm)]at e;exact h i W e g c
def YK(w u:Y)(v:VP)(g:VF)(f:MF)(bv:J)(m i h n B N:Nat)(j:List J)(s:WI)(S:Nat)(V:J)(sh:List Int)(t a:Nat)(e:Ending)(b:Y):Prop:=(s.c t=true/\∃l,e=Al (.bool l)/\(l=true↔sh=s.r a)/\Ah u u b)\/(s.c t=false/\e=Al true/\∃V',Gn w b v g f bv m i h n B (N+1) (j.set a V') ⟨Ji s.c t,CR s.r a sh,s.d⟩/\Fl b S V sh/\Rs (j.set a V') (Ee S V)/\DB (λk=>k=i\/k=h) u b)
theorem PX(w u:Y)(v:VP)(g:VF)(f:MF)(bv:J)(y q p n B N:Nat)(j:List J)(s:WI)(x:List MB)(S:Nat)(V:J)(sh:List Int)(t a:Nat)(m:MB)(h:Gn w u v g f bv y q p n B N j s)(R:I4 w bv x)(hm:x[t]?=K m)(aS:m.gZ=(a:Int))(ha:a<n)(hn:n<=1024)(bq:x.length<=1024)(hN:N<=4096)(aW:Fl u S V sh)(hS:B<=S)(aJ:Rs j (Ee S V))(bi:sh.length<=64):
 Ai Ap 253 #[.pointer y,t,.pointer S] u (YK w u v g f bv y q p n B N j s S V sh t a):=by
 obtain⟨ba,bc,rfl⟩:∃a c,bv=Z a x c:=by obtain⟨_,_,h2,_⟩:=R;exact h2.bW
 obtain⟨gb,ob,xa,xc,ev,x0,x1,x2,bg⟩:=Oy R hm;subst ev;rw[aS,<-h.ej.cell (g8 x0)]at x0;have bu:t<x.length:=(i8.1 hm).1;have bt:(t:Int)<(x:Int):=oM;have bp:(a:Int)<(n:Int):=oM;have aX:Dv (t:Int):=Dh oM;have H:=Av (d5 h (d5 aW (d5 hS aJ)));obtain⟨ae,D,aU,aQ,aR⟩:=h.mp;have P:=Av (d5 aU (d5 aQ aR));have c8:=h.tb.cell 8;have O:=h.tb.cell 9;simp only[lE,lC,lF]at c8 O;clear x1 x2 bg aU aQ aR h aW hS aJ hm aS R;go_enter func253,ntmps253;go_wp2_with fail;refine(Jz q ae D (t:Int) u aX P.1).mono ?_;rintro e A ⟨rfl,L⟩;rw[P.2.2 t];have l:Ae (Gn w A v g f (sO gb ob x bc) y q p n B N j s/\Fl A S V sh/\B<=S/\Rs j (Ee S V)):=⟨H.1.a7 L,H.2.1.a7 L,H.2.2⟩
 have aF:=Av L;have aG:Ae (DB (λk=>k=q\/k=p) u A):=DB.of L
 have I:Ae (AP A q ae D/\ae<=N/\∀b:Nat,Go.Maps.has D (.int Af (b:Int))=s.c b):=⟨P.1.a7 L,P.2⟩
 clear L P H x0 c8 O;have O:=l.1.tb.cell 9;have aq:=l.1.tb.cell 10;simp only[lE,lC,lF]at O aq;obtain⟨V0,aA⟩:∃V,j[a]?=K V:=⟨_,an (by rw[l.1.sl];exact ha)⟩;have aj:=l.1.rs a V0 aA;have br:=l.1.rl a;obtain⟨va,vc,aZ⟩:=AF aj;subst aZ;have au:=l.1.sa.cellAt a oM;rw[aA]at au;cases hc:s.c t with
 | true=>have HR:=Av aj;clear aj;go_wp2_with fail;refine(LU S V (Z va (s.r a).length vc) sh (s.r a) A l.2.1 (Rd.ij HR) oM oM).mono ?_;rintro e E ⟨⟨bb,rfl,aM⟩,b2⟩;have HE:=Av (d5 aM (d5 (Ar aF lR b2) hc));clear aM b2 O aq au;go_wp2_with fail;go_ret;exact .inl ⟨HE.2.2,bb,rfl,HE.1,HE.2.1⟩
 | false=>
   have HC:=Av hc;clear aj aA hc;(go_upto_region 5 with(go_at_call 110;refine(Db q ae A 1 D (t:Int) _ aX (by have:=I.2.1;omega) sP (by have:=l.1.ne;have:=l.1.sz;omega) (I.1.a7 (Aq _ _))).mono ?_;rintro e E ⟨rfl,aT,ah⟩));have H2:Ae (Gn w E v g f (sO gb ob x bc) y q p n B (N+1) j ⟨Ji s.c t,s.r,s.d⟩/\Fl E S V sh/\B<=S/\Rs j (Ee S V)):=by have hA:=Aq A (Ak #[t] 2);obtain⟨n1,n2,n3,n4,n5,n6⟩:=l.1.ne;have hS:=l.2.2.1;have aP:DB (λk=>k=q) (Ac A (Ak #[t] 2)) E:=(DB.refl _ _).grown ah (λk _ e=>by cases e;rfl);have aE:=l.2.1.a7 hA;exact⟨(l.1.a7 hA).put (I.1.a7 hA) I.2.1 I.2.2 aT ah,⟨aP.ie aE.ie oM,aP.own aE.own (λb R e=>by have:=(aE.lt b R).1;omega)⟩,l.2.2⟩
   have aH:=Av (((aG.on (Aq A (Ak #[t] 2))).grown ah (λk _ e=>by cases e;exact .inl rfl)).on (At _));clear aT ah I l aF aG O aq au;have C:Ae (Gn w E.drew v g f (sO gb ob x bc) y q p n B (N+1) j ⟨Ji s.c t,s.r,s.d⟩/\Fl E.drew S V sh/\B<=S/\Rs j (Ee S V)):=⟨H2.1.a7 (At _),H2.2.1.a7 (At _),H2.2.2⟩
   have bo:E.drew ⟨y,10,M⟩=K (sG p n n):=C.1.tb.cell 10;refine wp_region_held_drew (S:= λw'=>w' ⟨y,10,M⟩=K (sG p n n)) kR bo (λaw=> ?_);refine AH 0 ?_;refine AH 1 ?_;refine AH 2 ?_;refine AH 3 ?_;refine AH 4 ?_;refine AH 5 ?_;refine CX 6 ?_;intro KC Q;go_simp;refine(NJ S V sh E.drew C.2.1 oM).mono ?_;rintro e T ⟨F,G,rfl,am,X⟩;have z:Ae (Gn w T v g f (sO gb ob x bc) y q p n B (N+1) j ⟨Ji s.c t,s.r,s.d⟩/\Fl T S V sh/\B<=S/\Rs j (Ee S V)):=⟨C.1.a7 X,C.2.1.a7 X,C.2.2⟩
   have ao:Ae (Ch T B (Z F sh G) sh/\(∀(i:Nat) (W:J),j[i]?=K W->∀g,(Z F sh G).ownBlock=K g->W.ownBlock≠K g)/\∀g,(Z F sh G).ownBlock=K g->¬Ee S V g):=by
    refine⟨A9 am C.1.sz, λi W e g hg e2=> ?_, λg hg e2=> ?_⟩
    . have h1:=(am.lt g hg).1;have h2:=((C.1.rs i W e).lt g e2).2;omega
    have h1:=(am.lt g hg).1;have h2:=(Ee.ge C.2.1 e2).2;omega
   have aY:=Av (aH.on X);clear am X aH;go_simp;refine Q.o _ _ (by have:=z.1.tb.cell 10;exact this) (λaw=> ?_);clear Q KC;refine AH 7 ?_;refine CX 8 ?_;intro KC Q;have aI:=z.1.sa.cellAt a oM;have bj:=z.1.sa.frozenAt a;obtain⟨V1,bf⟩:∃V,j[a]?=K V:=⟨_,an (by rw[z.1.sl];exact ha)⟩;rw[bf]at aI;have U:Ae (Gn w (Aa T ⟨p,a,M⟩ (Z F sh G)) v g f (Z (K ⟨gb,ob,M⟩) x bc) y q p n B (N+1) (j.set a (Z F sh G)) ⟨Ji s.c t,CR s.r a sh,s.d⟩/\Fl (Aa T ⟨p,a,M⟩ (Z F sh G)) S V sh/\Rs (j.set a (Z F sh G)) (Ee S V)):=⟨z.1.iO ao.1 bi ao.2.1,z.2.1.jm (by have:=z.1.ne;have:=z.2.2.1;simp only[];omega) _,z.2.2.2.set ao.2.2⟩
   go_simp;refine Q.o _ _ (by have:=U.1.tb.cell 10;exact this) (λaw=> ?_);clear Q KC;refine wpAnyH_done kR ?_ _;clear aw bo aI bj;go_wp2_with fail;go_ret;exact .inr ⟨HC,rfl,_,U.1,U.2.1,U.2.2,aY.setCell (.inl (.inr rfl)) _⟩
end Go.Proofs.YtadcneiiokbofaaGreat
