import Derived.Test.YtjnglocdoljgkaaGreatSw2
namespace Go.Proofs.YtjnglocdoljgkaaGreat
open Go.ChangeShapes Go.WideShapes Go.ChangeAt Go.RowKit
set_option linter.unusedVariables false
open Option renaming some → K,none → M
open Go renaming World → Y,Calls → Ae,Value → J,TypeId → Af
open Go.RowKit renaming Hid → Aa,Below → Ad
open Go.IntKind renaming i64 → Ab
open Go.Value renaming int → Ac,slice → Z
set_option maxHeartbeats 2000000
set_option maxRecDepth 100000
variable {r:Option Nat}{q B g X:Nat}{fr:Nat×Nat}{t:Af}{b:Oper}{code:List MI}
def BR(p:MP)(r c:Int):Int:=if r<0\/2<r\/c<0 then 0 else(p.a7.getD r.toNat []).getD c.toNat 0
theorem Fi{p:MP}{r c:Int}(h:r<0\/2<r\/c<0):BR p r c=0:=lS h
theorem Jw{p:MP}{r c:Nat}(h:r<=2){l:List Int}(a:p.a7[r]?=K l):BR p r c=l.getD c 0:=by
 unfold BR;have e:p.a7.getD r []=l:=by rw[lD,a];rfl
 rw[lE oM,kM,kM,e]
theorem Gh{q:Prop}(h:q:=by go_enter Tryz.func72,Tryz.ntmps72;go_wp2;go_ret;exact⟨rfl,HB.o⟩):q:=h
theorem Iz(v:VP)(p:MP)(r c:Int)(w:Y)(S:p.small)(G:p.a7.length=3)(R:CO r)(L:CO c)(h:Cz w v p):
 Ae Tryz.prog 72 #[.agg #[v.r,v.k,v.f,v.t],Ac Ab r,Ac Ab c] w λe w'=>e=.returned (Ac Ab (BR p r c))/\Ad w w w':=by
 have ah:-9223372036854775808<=r/\r<=9223372036854775807:=by simpa[CO,Lit.wf,IntKind.min,IntKind.max,IntKind.signed,IntKind.bits]using R
 have a8:-9223372036854775808<=c/\c<=9223372036854775807:=by simpa[CO,Lit.wf,IntKind.min,IntKind.max,IntKind.signed,IntKind.bits]using L
 obtain⟨r0,r1⟩:=ah;obtain⟨c0,c1⟩:=a8;clear R L;obtain⟨W,vk,vf,vt⟩:=v;obtain⟨xs,H,D,Q⟩:=h.a7;simp only[]at D;rw[G]at D;have T:xs.length=3:=by rw[<-G,<-H];simp
 have s:Aa (Rd w 1 W 3 (xs.flatMap AZ)/\xs.map Prod.fst=p.a7/\(∀x∈xs,Rd w 1 x.2 x.1 (x.1.flatMap Ah))/\(∀l∈p.a7,l.length<=1048576)/\xs.length=3):=⟨D,H,Q,S.region,T⟩
 clear D H Q T S h G;have HB:Aa _:=(Wn.of w 28 #[W,vk,vf,vt] rfl).gG;by_cases q0:r<0
 . rw[Fi (.inl q0)];exact Gh
 by_cases q1:2<r
 . rw[Fi (.inr (.inl q1))];exact Gh
 by_cases q2:c<0
 . rw[Fi (.inr (.inr q2))];exact Gh
 obtain⟨i,rfl⟩:=kU (show 0<=r from oM);obtain⟨j,rfl⟩:=kU (show 0<=c from oM);obtain⟨⟨l,y⟩,F⟩:∃x,xs[i]?=K x:=⟨_,an (by rw[s.o.2.2.2.2];omega)⟩;have C:=CT s.o.2.1 F;have b:=s.o.2.2.1 _ (i8 F);have ae:=s.o.2.2.2.1 _ (i8 C);simp only[]at C b ae;rw[Jw oM C];rcases s.o.1.2 with⟨e0,_⟩|⟨g,o,cc,e2,N⟩
 . omega
 subst e2;have a:=Rd.elem AY N i _ F 0 _ rfl;rw[lr,kZ]at a;simp only[]at a;clear N F C;obtain⟨ay,cy,rfl⟩:=b.fu;have a1:=(HB.o.cell (jC a)).trans a;by_cases q3:j< ↑l
 . obtain⟨z,I⟩:∃z,l[j]?=K z:=⟨_,an q3⟩;(have A:l.getD j 0=z:=by rw[lD,I];rfl);rw[A];rcases b.2 with⟨e0,_⟩|⟨g2,o2,c2,e3,O⟩
   . omega
   simp only[jc,lO]at e3;obtain⟨rfl,rfl⟩:=e3;have B:=Rd.elem Ao O j z I 0 _ rfl;rw[lr,kZ]at B;have b1:=(HB.o.cell (jC B)).trans B;clear O I B a A;have HY:Aa _:=b;clear b;generalize l.length=n at*;exact Gh
 have A:l.getD j 0=0:=by rw[lD,lB oM];rfl
 rw[A];clear A a b;generalize l.length=n at*;exact Gh
structure MB where
 gK:Int
 last:Int
 next:List Int
def Ct(x:MB×J):List J:=[Ac Ab x.1.gK,Ac Ab x.1.last,x.2]
theorem Bh(x:MB×J):(Ct x).length=3:=rfl
theorem V7:(Tryz.prog.info? 58).map (λi=>(i.zero,i.size,i.bytes))=K (K (.agg #[Ac Ab 0,Ac Ab 0,Z M 0 0]),3,40):=kR
def DP(F:List (MB×J)):List (J×List Int):=F.map λx=>(x.2,x.1.next)
theorem Bu{w:Y}{base g k n:Nat}{e t:Af}{s:J}{xs:List J}{f:Array J}(h:w.ownsRow base e k s n xs)(l:w.heap[g]?=K (Obj.cells f t fr))(m:e≠t):∀j,s.ownBlock=K j->j≠g:=by
 intro j b i;subst i;rcases h.2 with⟨rfl,_⟩|⟨r,p,q,rfl,_,a,_⟩
 . cases b
 simp only[Value.ownBlock,kK]at b;subst b;rw[l]at a;simp only[kK,mh]at a;exact m a.2.1.symm
theorem CU.set{w:Y}{base g:Nat}{L:List (J×List Int)}(h:CU w base L){f:Array J}(j:w.heap[g]?=K (Obj.cells f t fr))(k:2≠t)(i:Nat)(x:J):CU (w.setCell ⟨g,i,M⟩ x) base L:=⟨λy b=>kO (h.own y b) (a:=⟨g,i,M⟩) (λe=>Bu (h.own y b) j k g e rfl) x,h.sep⟩
structure Wb(base:Nat)(w w':Y):Prop where
 gG:Ad base w w'
 gR:∀(k:Nat) (cur:Array J) (t:Af),w.heap[k]?=K (Obj.cells cur t (0,0))->t≠2->t≠58->w'.heap[k]?=K (Obj.cells cur t (0,0))
theorem Wb.refl(base:Nat)(w:Y):Wb base w w:=⟨lQ _ _, λ_ _ _ h _ _=>h⟩
theorem Wb.trans{base:Nat}{u v w:Y}(h:Wb base u v)(b:Wb base v w):Wb base u w:=⟨h.gG.trans b.gG, λk a t e h1 h2=>b.gR k a t (h.gR k a t e h1 h2) h1 h2⟩
theorem Wv.wb{base:Nat}{w a:Y}(h:Wv base w a):Wb base w a:=⟨h.gG, λk b t e h1 _=>h.gR k b t e h1⟩
theorem AD{w:Y}{base g k n c:Nat}{e:Af}{xs:List J}(h:w.ownsRow base e k (Z g n c) n xs):base<=g/\∃a,w.heap[g]?=K (Obj.cells a e (0,0)):=by
 rcases h.2 with⟨b,_⟩|⟨l,j,a,b,f,i,_⟩
 . cases b
 cases b
 exact⟨f,a,i⟩
structure AB where
 e:Af
 k:Nat
 v:J
 n:Nat
 xs:List J
def AB.own(w:Y)(base:Nat)(r:AB):Prop:=w.ownsRow base r.e r.k r.v r.n r.xs
def Xs(a b:AB):Prop:=∀g,a.v.ownBlock=K g->b.v.ownBlock≠K g
structure Ew(w:Y)(base:Nat)(L:List AB):Prop where
 own:∀r∈L,r.own w base
 sep:L.Pairwise Xs
theorem Ew.nil(w:Y)(base:Nat):Ew w base []:=⟨λr a=>(by cases a),List.Pairwise.nil⟩
theorem Ew.bM{w a:Y}{base:Nat}{L:List AB}(h:Ew w base L)(b:Ad w w a):Ew a base L:=⟨λr e=>Am (h.own r e) b lR,h.sep⟩
theorem Ew.base{w:Y}{base a:Nat}{L:List AB}(h:Ew w base L)(b:a<=base):Ew w a L:=⟨λr e=>Bb (h.own r e) b,h.sep⟩
theorem Ew.put{w m:Y}{base:Nat}{A B:List AB}{r:AB}(h:Ew w base (A++r::B))(t:List J)(z:m.ownsRow base r.e r.k r.v r.n t)(q:w.grownBy m r.v.ownBlock):Ew m base (A++{r with xs:=t}::B):=by
 obtain⟨D,E,l⟩:=mP.1 h.sep;obtain⟨s,F⟩:=mH.1 E;refine⟨λx f=> ?_,mP.2 ⟨D,mH.2 ⟨λy C=>s y C,F⟩, λa p b i=> ?_⟩⟩
 . rcases kS.1 f with f|f
   . exact BG (h.own x (kS.2 (.inl f))) q (λg j e=>l x f r sP g j e.symm)
   rcases lA.1 f with rfl|f
   . exact z
   exact BG (h.own x (kS.2 (.inr (lX _ f)))) q (λg j e=>s x f g e.symm j)
 rcases lA.1 i with rfl|i
 . exact λg u=>l a p r sP g u
 exact l a p b (lX _ i)
theorem Ew.grow{w s:Y}{base:Nat}{A B:List AB}{r:AB}(h:Ew w base (A++r::B))(l:AB)(C:l.own s base)(k:w.grownBy s r.v.ownBlock)(t:l.v.ownBlock=r.v.ownBlock\/∀g,l.v.ownBlock=K g-> ↑w<=g):Ew s base (A++l::B):=by
 obtain⟨D,E,q⟩:=mP.1 h.sep;obtain⟨z,F⟩:=mH.1 E;have lt:∀x∈A++r::B,∀g,x.v.ownBlock=K g->g<w.heap.size:= λx f g k=>((h.own x f).lt g k).2
 refine⟨λx f=> ?_,mP.2 ⟨D,mH.2 ⟨λy u=> ?_,F⟩, λa m b n=> ?_⟩⟩
 . rcases kS.1 f with f|f
   . exact BG (h.own x (kS.2 (.inl f))) k (λg p e=>q x f r sP g p e.symm)
   rcases lA.1 f with rfl|f
   . exact C
   exact BG (h.own x (kS.2 (.inr (lX _ f)))) k (λg p e=>z x f g e.symm p)
 . intro g i j;rcases t with e|e
   . exact z y u g (e▸i) j
   have:=lt y (kS.2 (.inr (lX _ u))) g j;have:=e g i;omega
 rcases lA.1 n with rfl|n
 . intro g i j;rcases t with e|e
   . exact q a m r sP g i (e▸j)
   have:=lt a (kS.2 (.inl m)) g i;have:=e g j;omega
 exact q a m b (lX _ n)
theorem Ew.snoc{w:Y}{base N:Nat}{L:List AB}{r:AB}(h:Ew w base L)(s:∀x∈L,∀g,x.v.ownBlock=K g->g<N)(j:w.ownsRow N r.e r.k r.v r.n r.xs)(l:base<=N):Ew w base (L++[r]):=by
 refine⟨λx f=> ?_,mP.2 ⟨h.sep,mH.2 ⟨λy t=>(by cases t),List.Pairwise.nil⟩, λa m b p=> ?_⟩⟩
 . rcases kS.1 f with f|f
   . exact h.own x f
   rw[lT.1 f];exact Bb j l
 intro g q i;rw[lT.1 p]at i;have:=s a m g q;have:=(j.lt g i).1;omega
theorem Ew.lt{w:Y}{base:Nat}{L:List AB}(h:Ew w base L):∀x∈L,∀g,x.v.ownBlock=K g->base<=g/\g<w.heap.size:= λx b g a=>(h.own x b).lt g a
theorem Ew.gX{w:Y}{base N:Nat}{L M:List AB}(h:Ew w base L)(f:Ew w N M)(n:∀x∈L,∀g,x.v.ownBlock=K g->g<N)(i:base<=N):Ew w base (L++M):=by
 refine⟨λx e=> ?_,mP.2 ⟨h.sep,f.sep, λa j b k=> ?_⟩⟩
 . rcases kS.1 e with e|e
   . exact h.own x e
   exact Bb (f.own x e) i
 intro g l m;have:=n a j g l;have:=(f.lt b k g m).1;omega
theorem Xs.symm{a b:AB}(h:Xs a b):Xs b a:= λg h1 h2=>h g h2 h1
theorem Ew.perm{w:Y}{base:Nat}{L M:List AB}(h:Ew w base L)(a:L.Perm M):Ew w base M:=⟨λr b=>h.own r (a.mem_iff.2 b),a.pairwise h.sep Xs.symm⟩
def A7(v:J)(cs:List Int):AB:=⟨2,1,v,cs,cs.flatMap Ah⟩
def BI(v:J)(cs:List MI):AB:=⟨60,4,v,cs,cs.flatMap MI.cells⟩
def BN(F:List (List Int×J)):List AB:=F.map λx=>A7 x.2 x.1
def Cn(y:MF×VF):List AB:=[A7 y.2.p y.1.d5,A7 y.2.l y.1.en,BI y.2.c y.1.ch]
def Br(G:List (MF×VF)):List AB:=G.flatMap Cn
def Cc(s:J)(F:List (List Int×J)):AB:=⟨36,1,s,F,F.flatMap AZ⟩
def BC(s:J)(G:List (MF×VF)):AB:=⟨51,4,s,G,G.flatMap AX⟩
def Di(v:J)(cs:List MC):AB:=⟨105,2,v,cs,cs.flatMap MC.cells⟩
def CN(v:J)(cs:List MT):AB:=⟨121,4,v,cs,cs.flatMap MT.cells⟩
theorem CD{w:Y}{base:Nat}{e:Af}{s:J}{k n:Nat}{xs:List J}(h:w.ownsRow base e k s n xs):∃a c,s=Z a n c:=(Rd.gM h).fu
def Al(v:VP)(F:List (List Int×J))(cs:List MC)(G:List (MF×VF))(ts:List MT)(B:List AB):List AB:=Cc v.r F::BN F++(Di v.k cs::(BC v.f G::Br G++(CN v.t ts::B)))
def CH(b:Nat)(t:Af)(k:Nat)(xs:List J):AB:=⟨t,k,Z b 1 1,1,xs⟩
theorem CH.new(w:Y)(t:Af)(k:Nat)(xs:List J)(a: ↑xs=k):(CH w t k xs).own (w.alloc (.cells xs.toArray t)) w:=by have:=mQ (base:=w) (e:=t) (size:=k) w xs.toArray 1 lR oX (by simpa using a);simpa[CH,AB.own]using this
theorem CH.cell{w:Y}{base b:Nat}{k:Nat}{xs:List J}(h:(CH b t k xs).own w base)(i:Nat)(a:i<k):w.cell? ⟨b,i,M⟩=xs[i]?:=lV (show w.ownsRow base t k (Z b 1 1) 1 xs from h) i oM
theorem Ew.box{w:Y}{base:Nat}{L:List AB}(h:Ew w base L)(a:base<= ↑w)(t:Af)(k:Nat)(xs:List J)(e: ↑xs=k):Ew (w.alloc (.cells xs.toArray t)) base (L++[CH w t k xs]):=(h.bM (Ag _ _)).snoc (λx f g b=>(h.lt x f g b).2) (CH.new w t k xs e) a
theorem Ew.sub{w:Y}{base:Nat}{L M:List AB}(h:Ew w base L)(a:M.Sublist L):Ew w base M:=⟨λr b=>h.own r (a.subset b),h.sep.sublist a⟩
theorem CH.set{w:Y}{base X:Nat}{k:Nat}{xs:List J}(h:(CH X t k xs).own w base)(i:Nat)(b:i<k)(x:J):(CH X t k (xs.set i x)).own (w.setCell ⟨X,i,M⟩ x) base:=by have a:w.ownsRow base t k (Z X 1 1) 1 xs:=h;have:=a.stored i x;exact this.1
theorem Ew.jT{w:Y}{base X:Nat}{A B:List AB}{k:Nat}{xs:List J}(h:Ew w base (A++CH X t k xs::B))(i:Nat)(a:i<k)(x:J):Ew (w.setCell ⟨X,i,M⟩ x) base (A++CH X t k (xs.set i x)::B):=h.put (xs.set i x) (CH.set (h.own _ sP) i a x) (Fl (⟨rfl,rfl,rfl,Nat.le_refl _, λ_ _ _=>rfl⟩:w.grownBy w (K X)) i x)
abbrev gb(X:Nat)(v:VP):AB:=CH X 28 4 [v.r,v.k,v.f,v.t]
theorem K7(v:VP)(F:List (List Int×J))(cs:List MC)(G:List (MF×VF))(ts:List MT)(B C:List AB):Al v F cs G ts (B++C)=Al v F cs G ts B++C:=by simp[Al,List.append_assoc]
theorem De(v:VP)(F:List (List Int×J))(cs:List MC)(G:List (MF×VF))(ts:List MT)(B:List AB):Al v F cs G ts B=Al v F cs G ts []++B:=by simp[Al,List.append_assoc]
theorem Ol(G:List (MF×VF))(y:MF×VF):Br (G++[y])=Br G++Cn y:=by simp[Br]
theorem D3{o:Option Nat}{g H n c:Nat}(h:o=K g\/g=H):(Z g n c).ownBlock=o\/(Z g n c).ownBlock=K H:=h.elim (λe=>.inl e.symm) (λe=>.inr (by rw[e];rfl))
structure Cd(f:MF):Prop where
 iA:f.d5.length<=8
 loc:f.d5.length+ ↑f.en<=32
 pt:f.d5.all DC=true
 lt:f.en.all DC=true
 im:f.gz=0\/DC f.gz=true
 iG:¬f.ch.length=0
 js:f.ch.length<=1024
def Js(f:MF):Prop:=f.d5.length=0/\f.gz=0
def Cl(f:MF)(a:Bool):Prop:=Cd f/\(a=true->Js f)
theorem Qn(v:VF)(f:MF)(i:Bool)(w:Y)(N:f.small)(h:Dt w v f):
 Ae Tryz.prog 33 #[.agg #[v.p,Ac Ab f.gz,v.l,v.c],.bool i] w λe w'=>AC e (Cl f i)/\Ad w w w':=by
 have y:Aa (Dt w v f/\f.small):=⟨h,N⟩
 obtain⟨Q,c1,G⟩:=h.1.fu;obtain⟨a2,c2,H⟩:=h.2.1.fu;obtain⟨S,c3,e3⟩:=h.2.2.fu;obtain⟨vp,vl,vc⟩:=v;obtain⟨s1,s2,s3⟩:=N;simp only[]at G H e3;subst G H e3;clear h;have g:Aa (Ad w w (w.alloc (.cells #[Z Q f.d5 c1,Ac Ab f.gz,Z a2 f.en c2,Z S f.ch c3] 51))):=Ag _ _;by_cases T:8<f.d5.length
 . (have b:Aa (¬(Cl f i)):= λe=>absurd e.1.iA oM);clear y;generalize f.d5.length=s at*;go_enter Tryz.func33,Tryz.ntmps33;go_wp2;go_ret;exact⟨.no b.o,g.o⟩
 by_cases W:32<f.d5.length+ ↑f.en
 . (have b:Aa (¬(Cl f i)):= λe=>absurd e.1.loc oM);clear y;generalize f.d5.length=s at*;generalize f.en.length=n2 at*;go_enter Tryz.func33,Tryz.ntmps33;go_wp2;go_ret;exact⟨.no b.o,g.o⟩
 have ah:¬(8:Int)<(f.d5:Int):=oM;have aj:¬(32:Int)<(f.d5:Int)+(f.en:Int):=oM;have z:Aa (f.d5.length<=8/\f.d5.length+ ↑f.en<=32):=⟨oM,oM⟩
 go_enter Tryz.func33,Tryz.ntmps33;go_wp2_with fail;refine(FE _ f.d5 _ y.o.2.1 (y.o.1.1.bM g.o lR)).mono ?_;rintro e u ⟨rfl,rfl⟩;cases t1:f.d5.all DC
 . (have b:Aa (¬(Cl f i)):= λe=>by have:=e.1.pt;simp[t1]at this);clear t1;go_wp2;go_ret;exact⟨.no b.o,g.o⟩
 have C:=Ap t1;clear t1;go_wp2_with fail;refine(FE _ f.en _ y.o.2.2.1 (y.o.1.2.1.bM g.o lR)).mono ?_;rintro e u ⟨rfl,rfl⟩;cases t1:f.en.all DC
 . (have b:Aa (¬(Cl f i)):= λe=>by have:=e.1.lt;simp[t1]at this);clear t1;go_wp2;go_ret;exact⟨.no b.o,g.o⟩
 have D:=Ap t1;clear t1;generalize L:f.gz=R at*;generalize h1:f.d5.length=s at*;generalize I:f.ch.length=j at*;have a:Aa (f.gz=R/\f.d5.length=s/\f.ch.length=j):=⟨L,h1,I⟩
 clear L h1 I T W;by_cases B:R=0
 . subst B;by_cases k:j=0
   . subst k;(have b:Aa (¬(Cl f i)):= λe=>e.1.iG a.o.2.2);go_wp2;go_ret;exact⟨.no b.o,g.o⟩
   (have a8:((j:Int)==0)=false:=by simpa using k);by_cases q5:1024<j
   . have F:(1024:Int)<(j:Int):=oM;(have b:Aa (¬(Cl f i)):= λe=>absurd e.1.js (by rw[a.o.2.2];omega));go_wp2;go_ret;exact⟨.no b.o,g.o⟩
   have F:¬(1024:Int)<(j:Int):=oM;cases i
   . have A:Aa (Cl f false):=⟨⟨by rw[a.o.2.1];exact z.o.1,by rw[a.o.2.1];exact z.o.2,C.o,D.o,.inl a.o.1,by rw[a.o.2.2];exact k,by rw[a.o.2.2];omega⟩, λh=>by cases h⟩;go_wp2;go_ret;exact⟨.ik A.o,g.o⟩
   by_cases t:s=0
   . subst t;have A:Aa (Cl f true):=⟨⟨by rw[a.o.2.1];exact z.o.1,by rw[a.o.2.1];exact z.o.2,C.o,D.o,.inl a.o.1,by rw[a.o.2.2];exact k,by rw[a.o.2.2];omega⟩, λ_=>⟨a.o.2.1,a.o.1⟩⟩;go_wp2;go_ret;exact⟨.ik A.o,g.o⟩
   (have ae:((s:Int)==0)=false:=by simpa using t);(have b:Aa (¬(Cl f true)):= λe=>t (by rw[<-a.o.2.1];exact(e.2 rfl).1));go_wp2;go_ret;exact⟨.no b.o,g.o⟩
 have am:(R==0)=false:=by simpa using B
 go_wp2_with fail;refine(D7 R _).mono ?_;rintro e u ⟨rfl,rfl⟩;cases t1:DC R
 . (have b:Aa (¬(Cl f i)):= λe=>by have:=e.1.im;rw[a.o.1]at this;simp[B,t1]at this);go_wp2;go_ret;exact⟨.no b.o,g.o⟩
 have O:=Ap t1;clear t1;by_cases k:j=0
 . subst k;(have b:Aa (¬(Cl f i)):= λe=>e.1.iG a.o.2.2);go_wp2;go_ret;exact⟨.no b.o,g.o⟩
 have a8:((j:Int)==0)=false:=by simpa using k
 by_cases q5:1024<j
 . have F:(1024:Int)<(j:Int):=oM;(have b:Aa (¬(Cl f i)):= λe=>absurd e.1.js (by rw[a.o.2.2];omega));go_wp2;go_ret;exact⟨.no b.o,g.o⟩
 have F:¬(1024:Int)<(j:Int):=oM;cases i
 . have A:Aa (Cl f false):=⟨⟨by rw[a.o.2.1];exact z.o.1,by rw[a.o.2.1];exact z.o.2,C.o,D.o,.inr (by rw[a.o.1];exact O.o),by rw[a.o.2.2];exact k,by rw[a.o.2.2];omega⟩, λh=>by cases h⟩;go_wp2;go_ret;exact⟨.ik A.o,g.o⟩
 by_cases t:s=0
 . subst t;(have b:Aa (¬(Cl f true)):= λe=>B (by rw[<-a.o.1];exact(e.2 rfl).2));go_wp2;go_ret;exact⟨.no b.o,g.o⟩
 have ae:((s:Int)==0)=false:=by simpa using t
 have b:Aa (¬(Cl f true)):= λe=>t (by rw[<-a.o.2.1];exact(e.2 rfl).1)
 go_wp2;go_ret;exact⟨.no b.o,g.o⟩
section
variable {P:Program} {ops:Array Oper} {Q:Exit->Act->Y->Prop} {md:Region.Mode} {S:Y->Prop} {n f:Nat} {d:Array Bool} {a:Act} {w:Y}
def Yc(md:Region.Mode)(ops:Array Oper)(d:Array Bool)(i:Nat):Bool:=Region.noSelect ops&&Region.free md ops d i&&(Region.ready md ops d).contains i
theorem Up{i:Nat}(h:Yc md ops d i=true):Region.noSelect ops=true/\Region.free md ops d i=true/\(Region.ready md ops d).contains i=true:=by simp only[Yc,nL]at h;exact⟨h.1.1,h.1.2,h.2⟩
theorem AE(i:Nat){v:J}(h:wpAnyH P md ops Q S f (d.setIfInBounds i true) (a.put b.dst v) w)(l:ops[i]?=K b:=by rfl)(j:Yc md ops d i=true:=by kernel_rfl)(e:∀c a w,Q (.panic c) (a.put b.dst v) w->Q (.panic c) a w:=by exact λ_ _ _ h=>h)(m:Region.wanted b (yielded ops a.tmps)=true:=by rfl)
 (n:∀w,S w->(execOp a.eval b).run P w=.ok (.value v) w:=by(intro w hSw;(try dsimp only at hSw);(repeat obtain⟨hSa,hSw⟩:=hSw);go_simp;(try with_reducible rfl))) (g:S w:=by assumption):wpAnyH P md ops Q S (f+1) d a w:=
 have k:=Up j
 wpAnyH_take l k.1 k.2.1 k.2.2 e (.inl ⟨m,n⟩) g h
theorem tkU(i:Nat)(h:wpAnyH P md ops Q S f (d.setIfInBounds i true) (a.put b.dst undef) w)(l:ops[i]?=K b:=by rfl)(j:Yc md ops d i=true:=by kernel_rfl)(e:∀c a w,Q (.panic c) (a.put b.dst undef) w->Q (.panic c) a w:=by exact λ_ _ _ h=>h)(m:Region.wanted b (yielded ops a.tmps)=false:=by rfl)(g:S w:=by assumption):wpAnyH P md ops Q S (f+1) d a w:=
 have k:=Up j
 wpAnyH_take l k.1 k.2.1 k.2.2 e (.inr ⟨m,rfl⟩) g h
theorem AW(i:Nat){v:J}(h:Do P md ops Q S n f (d.setIfInBounds i true) (a.put b.dst v) w)(p:ops[i]?=K b:=by rfl)(m:(Yc md ops d i&&Rk md ops n d&&decide (i<n))=true:=by kernel_rfl)(j:∀c a w,Q (.panic c) (a.put b.dst v) w->Q (.panic c) a w:=by exact λ_ _ _ h=>h)(q:Region.wanted b (yielded ops a.tmps)=true:=by rfl)
 (r:∀w,S w->(execOp a.eval b).run P w=.ok (.value v) w:=by(intro w hSw;(try dsimp only at hSw);(repeat obtain⟨hSa,hSw⟩:=hSw);go_simp;(try with_reducible rfl))) (l:S w:=by assumption):Do P md ops Q S n (f+1) d a w:=
 have e:=Bool.and_eq_true_iff.1 m
 have g:=Bool.and_eq_true_iff.1 e.1
 have k:=Up g.1
 Pr p k.1 k.2.1 k.2.2 g.2 (oF e.2) j (.inl ⟨q,r⟩) l h
theorem rdH(i:Nat){o:Oper}(h:∀b:Act->Y->Prop,Shut (∀a w,S w->(S w->wpAnyH P md ops Q S f (d.setIfInBounds i true) a w)->b a w)->if Region.wanted o (yielded ops a.tmps)=true then Oper.wp P o a w b Q else b (a.put o.dst undef) w)(g:Region.ready md ops d=[i]:=by kernel_rfl)(e:ops[i]?=K o:=by rfl):wpAnyH P md ops Q S (f+1) d a w:=wpAnyH_ready g sP (AllReadyH.cons e h AllReadyH.nil)
theorem DD(i:Nat){o:Oper}(h:∀b:Act->Y->Prop,Shut (∀a w,(i<n->S w)->((i<n->S w)->Do P md ops Q S n f (d.setIfInBounds i true) a w)->b a w)->if Region.wanted o (yielded ops a.tmps)=true then Oper.wp P o a w b Q else b (a.put o.dst undef) w)(g:Region.ready md ops d=[i]:=by kernel_rfl)(e:ops[i]?=K o:=by rfl):Do P md ops Q S n (f+1) d a w:=GH g sP (B7.cons e h B7.nil)
theorem SK(i j:Nat){o e:Oper}(h:(∀b:Act->Y->Prop,Shut (∀a w,S w->(S w->wpAnyH P md ops Q S f (d.setIfInBounds i true) a w)->b a w)->if Region.wanted o (yielded ops a.tmps)=true then Oper.wp P o a w b Q else b (a.put o.dst undef) w))(g:(∀b:Act->Y->Prop,Shut (∀a w,S w->(S w->wpAnyH P md ops Q S f (d.setIfInBounds j true) a w)->b a w)->if Region.wanted e (yielded ops a.tmps)=true then Oper.wp P e a w b Q else b (a.put e.dst undef) w))(m:Region.ready md ops d=[i,j]:=by kernel_rfl)(k:ops[i]?=K o:=by rfl)(l:ops[j]?=K e:=by rfl):wpAnyH P md ops Q S (f+1) d a w:=wpAnyH_ready m sP (AllReadyH.cons k h (AllReadyH.cons l g AllReadyH.nil))
theorem X9(i j k:Nat){o e q:Oper}(h:(∀b:Act->Y->Prop,Shut (∀a w,S w->(S w->wpAnyH P md ops Q S f (d.setIfInBounds i true) a w)->b a w)->if Region.wanted o (yielded ops a.tmps)=true then Oper.wp P o a w b Q else b (a.put o.dst undef) w))(g:(∀b:Act->Y->Prop,Shut (∀a w,S w->(S w->wpAnyH P md ops Q S f (d.setIfInBounds j true) a w)->b a w)->if Region.wanted e (yielded ops a.tmps)=true then Oper.wp P e a w b Q else b (a.put e.dst undef) w))(h2:(∀b:Act->Y->Prop,Shut (∀a w,S w->(S w->wpAnyH P md ops Q S f (d.setIfInBounds k true) a w)->b a w)->if Region.wanted q (yielded ops a.tmps)=true then Oper.wp P q a w b Q else b (a.put q.dst undef) w))(p:Region.ready md ops d=[i,j,k]:=by kernel_rfl)(l:ops[i]?=K o:=by rfl)(m:ops[j]?=K e:=by rfl)(n:ops[k]?=K q:=by rfl):wpAnyH P md ops Q S (f+1) d a w:=wpAnyH_ready p sP (AllReadyH.cons l h (AllReadyH.cons m g (AllReadyH.cons n h2 AllReadyH.nil)))
end
theorem _root_.Go.Shut.o{p:Prop}(h:Shut p):p:=h
def UO(w:Y)(v:J)(f:MB):Prop:=Rd w 1 v f.next (f.next.flatMap Ah)
def MB.small(f:MB):Prop:=f.next.length<=1048576
theorem UO.bM{w a:Y}{v:J}{f:MB}(h:UO w v f)(e:Ad B w a)(b: ↑w<=B):UO a v f:=Rd.bM h e b
def Ic(w:Y)(s:J)(a:List MB):Prop:=∃xs:List (MB×J),xs.map Prod.fst=a/\Rd w 3 s a (xs.flatMap Ct)/\∀x∈xs,UO w x.2 x.1
theorem Ic.bM{w f:Y}{s:J}{a:List MB}(h:Ic w s a)(e:Ad B w f)(b: ↑w<=B):Ic f s a:=by obtain⟨xs,h1,h2,g⟩:=h;exact⟨xs,h1,h2.bM e b, λx i=>(g x i).bM e b⟩
structure Ci where
 S:Nat
 a:Option Addr
 len:Nat
 cap:Nat
theorem AM.grow{w a:Y}(h:AM g w a):w.grownBy a (K g):=⟨h.os,h.tape,h.output,h.size, λk b f=>h.block k b (λe=>f (by rw[e]))⟩
theorem AM.setCell{w u:Y}(h:AM g w u){a:Addr}(f: ↑w<=a.block)(x:J):AM g w (u.setCell a x):=⟨h.os,h.tape,h.output,by rw[mB];exact h.size, λk e b=>(lZ u a k x oM).trans (h.block k e b)⟩
theorem AM.grown{w u u':Y}(h:AM g w u)(a:u.grownBy u' r)(i:∀k,r=K k-> ↑w<=k):AM g w u':=⟨a.os.trans h.os,a.tape.trans h.tape,a.output.trans h.output,kT h.size a.size, λk b f=>(a.block k (lm b h.size) (λe=>by have:=i k e.symm;omega)).trans (h.block k b f)⟩
structure PT(w u:Y)(s:Ci)(p:Int):Prop where
 ij:AM s.S w u
 src:DE u s.S s.a s.len s.cap p
 lo:s.S< ↑w
section
variable {w u u':Y} {s:Ci} {p p':Int}
theorem PT.size(h:PT w u s p):(w:Nat)<=u.heap.size:=h.ij.size
theorem PT.on(h:PT w u s p)(a:Ad u u u'):PT w u' s p:=⟨h.ij.trans (.iw a),h.src.below a,h.lo⟩
theorem PT.draw(h:PT w u s p)(e:DE u' s.S s.a s.len s.cap p')(b:AM s.S u u'):PT w u' s p':=⟨h.ij.trans b,e,h.lo⟩
theorem PT.setCell(h:PT w u s p){a:Addr}(b: ↑w<=a.block)(x:J):PT w (u.setCell a x) s p:=⟨h.ij.setCell b x,h.src.bM λk e=>lZ u a k x (by have:=h.lo;omega),h.lo⟩
theorem PT.grown(h:PT w u s p)(a:u.grownBy u' r)(b:∀k,r=K k-> ↑w<=k):PT w u' s p:=⟨h.ij.grown a b,h.src.bM λk f=>a.block k (by have:=h.lo;have:=h.size;omega) (λe=>by have:=b k e.symm;have:=h.lo;omega),h.lo⟩
end
theorem Ew.drawn{w u u':Y}{L:List AB}(h:Ew u w L)(i:AM g u u')(j:g< ↑w):Ew u' w L:=⟨λr a=>BG (h.own r a) i.grow (λb f e=>by have:=(h.lt r a b f).1;simp only[kK]at e;omega),h.sep⟩
structure Bs(w u:Y)(s:Ci)(p:Int)(Ls:List AB):Prop where
 sep:Ew u w Ls
 gG:PT w u s p
section
variable {w u u':Y} {s:Ci} {p:Int} {Ls:List AB} {v:VP} {F:List (List Int×J)} {cs:List MC} {G:List (MF×VF)} {ts:List MT} {D:List AB}
theorem Bs.start(h:PT w u s p):Bs w u s p []:=⟨Ew.nil _ _,h⟩
theorem Bs.draw{p':Int}(h:Bs w u s p Ls)(e:DE u' s.S s.a s.len s.cap p')(b:AM s.S u u'):Bs w u' s p' Ls:=⟨h.sep.drawn b h.gG.lo,h.gG.draw e b⟩
theorem Bs.size(h:Bs w u s p Ls):(w:Nat)<=u.heap.size:=h.gG.size
theorem Bs.bM(h:Bs w u s p Ls)(a:Ad u u u'):Bs w u' s p Ls:=⟨h.sep.bM a,h.gG.on a⟩
theorem Bs.box(h:Bs w u s p Ls)(t:Af)(q:Nat)(xs:List J)(a: ↑xs=q):Bs w (u.alloc (.cells xs.toArray t)) s p (Ls++[CH u t q xs]):=⟨h.sep.box h.size t q xs a,h.gG.on (Ag _ _)⟩
theorem Bs.rows(h:Bs w u s p Ls)(a:Ad u u u'){M:List AB}(e:Ew u' u M):Bs w u' s p (Ls++M):=⟨(h.bM a).sep.gX e (λx f g b=>(h.sep.lt x f g b).2) h.size,(h.bM a).gG⟩
theorem Bs.row(h:Bs w u s p Ls)(a:Ad u u u'){r:AB}(b:r.own u' u):Bs w u' s p (Ls++[r]):=h.rows a ⟨λx e=>by rw[lT.1 e];exact b,oq _ _⟩
theorem Bs.set{A C:List AB}{xs:List J}(h:Bs w u s p (A++CH X t q xs::C))(i:Nat)(a:i<q)(x:J):Bs w (u.setCell ⟨X,i,M⟩ x) s p (A++CH X t q (xs.set i x)::C):=⟨h.sep.jT i a x,h.gG.setCell ((h.sep.lt (CH X t q xs) sP X rfl).1) _⟩
theorem Bs.grow{A C:List AB}{r:AB}(h:Bs w u s p (A++r::C))(a:AB)(i:a.own u' w)(b:u.grownBy u' r.v.ownBlock)(e:a.v.ownBlock=r.v.ownBlock\/∀g,a.v.ownBlock=K g-> ↑u<=g):Bs w u' s p (A++a::C):=⟨h.sep.grow a i b e,h.gG.grown b (λk f=>(h.sep.lt r sP k f).1)⟩
theorem Bs.gX{A C:List AB}{r:AB}(h:Bs w u s p (A++r::C))(a:AB)(i:a.own u' w)(b:u.grownBy u' r.v.ownBlock)(f:a.v.ownBlock=r.v.ownBlock\/a.v.ownBlock=K u):Bs w u' s p (A++a::C):=h.grow a i b (f.imp_right λe g b=>by rw[e]at b;cases b;exact Nat.le_refl _)
theorem Bs.sub{M:List AB}(h:Bs w u s p Ls)(a:M.Sublist Ls):Bs w u s p M:=⟨h.sep.sub a,h.gG⟩
theorem Bs.perm{M:List AB}(h:Bs w u s p Ls)(a:Ls.Perm M):Bs w u s p M:=⟨h.sep.perm a,h.gG⟩
theorem Bs.nil(h:Bs w u s p Ls)(e:Af)(q:Nat):Bs w u s p (Ls++[⟨e,q,sN,0,[]⟩]):=⟨h.sep.snoc (N:=u) (λx b g a=>(h.sep.lt x b g a).2) (lq _ _ _ _) h.size,h.gG⟩
theorem Bs.cell{xs:List J}(h:Bs w u s p Ls)(b:CH X t q xs∈Ls)(i:Nat)(a:i<q):u.cell? ⟨X,i,M⟩=xs[i]?:=CH.cell (h.sep.own _ b) i a
theorem Bs.frozen{xs:List J}(h:Bs w u s p Ls)(a:CH X t q xs∈Ls)(i:Nat):u.frozen? ⟨X,i,M⟩=false:=mR (show u.ownsRow w t q (sG X 1 1) 1 xs from h.sep.own _ a) i
theorem Bs.iH{a:J}(h:Bs w u s p (Al v F cs G ts (BI a code::D)))(xs:List MI)(V:J)(f:u'.ownsRow w 60 4 V (code.length+ ↑xs) (code.flatMap MI.cells++xs.flatMap MI.cells))(e:u.grownBy u' a.ownBlock)(b:V.ownBlock=a.ownBlock\/V.ownBlock=K u):Bs w u' s p (Al v F cs G ts (BI V (code++xs)::D)):=by rw[De]at h⊢;exact h.gX (BI V (code++xs)) (by simpa[AB.own,BI]using f) e b
theorem Bs.iO(h:Bs w u s p (Al v F cs G ts D))(x:MC)(V:J)(e:u'.ownsRow w 105 2 V (cs.length+1) (cs.flatMap MC.cells++x.cells))(b:u.grownBy u' v.k.ownBlock)(a:V.ownBlock=v.k.ownBlock\/V.ownBlock=K u):Bs w u' s p (Al {v with k:=V} F (cs++[x]) G ts D):=Bs.gX (A:=Cc v.r F::BN F) h (Di V (cs++[x])) (by simpa[AB.own,Di]using e) b a
theorem Bs.j6{y:MF×VF}(h:Bs w u s p (Al v F cs G ts D++Cn y))(V:J)(g:u'.ownsRow w 51 4 V (G.length+1) (G.flatMap AX++AX y))(b:u.grownBy u' v.f.ownBlock)(a:V.ownBlock=v.f.ownBlock\/V.ownBlock=K u):Bs w u' s p (Al {v with f:=V} F cs (G++[y]) ts D):=by
 have h1:Bs w u s p ((Cc v.r F::BN F++[Di v.k cs])++BC v.f G::(Br G++(Cn y++(CN v.t ts::D)))):=h.perm (by simp only[Al,lF,mI,lg];refine .cons _ (List.Perm.append_left _ (.cons _ (.cons _ (List.Perm.append_left _ ?_))));exact(oL (l₁:=CN v.t ts::D) (l₂:=Cn y)));have h2:=h1.gX (BC V (G++[y])) (by simpa[AB.own,BC]using g) b a;have e:(Cc v.r F::BN F++[Di v.k cs])++BC V (G++[y])::(Br G++(Cn y++(CN v.t ts::D)))=Al {v with f:=V} F cs (G++[y]) ts D:=by simp[Al,Ol,List.append_assoc]
 rwa [e]at h2
theorem Bs.iP(h:Bs w u s p (Al v F cs G ts D))(x:MT)(V:J)(g:u'.ownsRow w 121 4 V (ts.length+1) (ts.flatMap MT.cells++x.cells))(b:u.grownBy u' v.t.ownBlock)(a:V.ownBlock=v.t.ownBlock\/V.ownBlock=K u):Bs w u' s p (Al {v with t:=V} F cs G (ts++[x]) D):=by
 have h1:Bs w u s p ((Cc v.r F::BN F++(Di v.k cs::(BC v.f G::Br G)))++CN v.t ts::D):=by simpa[Al,List.append_assoc]using h
 have h2:=h1.gX (CN V (ts++[x])) (by simpa[AB.own,CN]using g) b a;have e:(Cc v.r F::BN F++(Di v.k cs::(BC v.f G::Br G)))++CN V (ts++[x])::D=Al {v with t:=V} F cs G (ts++[x]) D:=by simp[Al,List.append_assoc]
 rwa [e]at h2
theorem Bs.gZ{xs:List J}{E:List AB}(h:Bs w u s p (Al v F cs G ts (D++CH X t q xs::E)))(i:Nat)(a:i<q)(x:J):Bs w (u.setCell ⟨X,i,M⟩ x) s p (Al v F cs G ts (D++CH X t q (xs.set i x)::E)):=by rw[K7]at h⊢;exact h.set i a x
theorem AQ{r:AB}(h:r∈D):r∈Al v F cs G ts D:=by simp[Al,h]
theorem Bs.gY(h:Bs w u s p (Al v F cs G ts D)):(∃b c1 a2 c2 g c3 a4 c4,v=⟨Z b F c1,Z a2 cs c2,Z g G c3,Z a4 ts c4⟩)/\u.ownsRow w 36 1 v.r F (F.flatMap AZ)/\u.ownsRow w 105 2 v.k cs (cs.flatMap MC.cells)/\u.ownsRow w 51 4 v.f G (G.flatMap AX)/\u.ownsRow w 121 4 v.t ts (ts.flatMap MT.cells):=by refine⟨?_,h.sep.own (Cc v.r F) (by simp[Al]),h.sep.own (Di v.k cs) (by simp[Al]),h.sep.own (BC v.f G) (by simp[Al]),h.sep.own (CN v.t ts) (by simp[Al])⟩;obtain⟨v1,v2,v3,i⟩:=v;obtain⟨b,c1,j⟩:∃a c,v1=Z a F c:=CD (h.sep.own (Cc v1 F) (by simp[Al]));obtain⟨a2,c2,l⟩:∃a c,v2=Z a cs c:=CD (h.sep.own (Di v2 cs) (by simp[Al]));obtain⟨g,c3,e3⟩:∃a c,v3=Z a G c:=CD (h.sep.own (BC v3 G) (by simp[Al]));obtain⟨a4,c4,e4⟩:∃a c,i=Z a ts c:=CD (h.sep.own (CN i ts) (by simp[Al]));exact⟨b,c1,a2,c2,g,c3,a4,c4,by rw[j,l,e3,e4]⟩
theorem Bs.jJ{b:J}{n cap:Nat}{code a:List MI}(l:b=sG g code cap)(f:a.length= ↑code)(h:Bs w u s p (Al v F cs G ts (BI b code::D)))(i:Nat)(x:J)(m:(code.flatMap MI.cells).set i x=a.flatMap MI.cells):Bs w (u.setCell ⟨g,i,M⟩ x) s p (Al v F cs G ts (BI b a::D)):=by subst l;rw[De]at h⊢;have e:u.ownsRow w 60 4 (sG g code cap) code (code.flatMap MI.cells):=h.sep.own (BI (sG g code cap) code) sP;have k:=e.stored i x;have j:=(e.lt g rfl).1;have:=h.sep.put (A:=Al v F cs G ts []) (r:=BI (sG g code cap) code) (a.flatMap MI.cells) (by rw[<-m];exact k.1) (Fl (⟨rfl,rfl,rfl,Nat.le_refl _, λ_ _ _=>rfl⟩:u.grownBy u (K g)) i x);refine⟨?_,h.gG.setCell j _⟩;simpa[BI,f]using this
theorem Bs.ie{b:J}(h:Bs w u s p (Al v F cs G ts (BI b code::D))):(∃a c,b=Z a code c)/\u.ownsRow w 60 4 b code (code.flatMap MI.cells):=⟨CD (h.sep.own (BI b code) (by simp[Al])),h.sep.own (BI b code) (by simp[Al])⟩
end
def AR(x:MI):Bool:=decide (x.op=25)||decide (x.op=26)||decide (x.op=27)
def DQ(x:MI):Bool:=decide (¬x.op=25)&&decide (¬x.op=29)
def AH(xs:List MI):Prop:=1<=xs.length/\xs.length<=1024/\∀(i:Nat) (x:MI),xs[i]?=K x->AR x=true->0<=x.c/\x.c<(xs:Int)
def Fq(x:MI)(i j:Nat):Bool:=(AR x&&decide (x.c=(j:Int)))||((AR x||decide (x.op=29))&&decide (j=i+1))
def BO(xs:List MI)(k j:Nat):Bool:=decide (j=0)||(List.range k).any λi=>match xs[i]? with|some x=>Fq x i j|none=>false
theorem Gz(xs:List MI)(k:Nat):BO xs k 0=true:=by simp[BO]
theorem J5(xs:List MI)(j:Nat):BO xs 0 j=decide (j=0):=by simp[BO]
theorem D8(xs:List MI)(k j:Nat)(x:MI)(a:xs[k]?=K x):BO xs (k+1) j=(BO xs k j||Fq x k j):=by simp[BO,List.range_succ,a,Bool.or_assoc]
theorem Hb(xs:List MI)(k i j:Nat)(x:MI)(a:i<k)(b:xs[i]?=K x)(h:Fq x i j=true):BO xs k j=true:=by simp only[BO,Bool.or_eq_true,List.any_eq_true,mz];exact .inr ⟨i,a,by rw[b];exact h⟩
def Cs(xs:List MI)(i:Nat):List Nat:=(List.range i).filter (BO xs xs)
theorem K2(xs:List MI)(i:Nat):Cs xs (i+1)=if BO xs xs i=true then Cs xs i++[i]else Cs xs i:=by
 unfold Cs;rw[m9,mr];by_cases h:BO xs xs i=true
 . simp[h]
 simp[h]
theorem Cf(xs:List MI)(i j:Nat):j∈Cs xs i↔j<i/\BO xs xs j=true:=by simp[Cs]
theorem CC(xs:List MI)(i:Nat):(Cs xs i).Pairwise (· < ·):=List.Pairwise.filter _ oJ
theorem IA(xs:List MI)(i:Nat)(h:0<i):Cs xs i≠[]:= λe=>by have:=(Cf xs i 0).2 ⟨h,Gz _ _⟩;rw[e]at this;cases this
theorem Sn(xs:List MI)(i n:Nat)(h:i<=n):∃r,Cs xs n=Cs xs i++r:=by
 induction n with
 | zero=>obtain rfl:i=0:=oM;exact⟨[],sP⟩
 | succ n e=>
   by_cases a:i=n+1
   . subst a;exact⟨[],sP⟩
   obtain⟨r,b⟩:=e oM;rw[K2,b];split
   . exact⟨r++[n],sP⟩
   exact⟨r,rfl⟩
theorem Vq(xs:List MI)(p n:Nat)(b:p<n)(a:BO xs xs p=true):(Cs xs n).idxOf p=(Cs xs p).length/\(Cs xs (p+1)).length=(Cs xs p).length+1:=by have h1:=K2 xs p;rw[lS a]at h1;obtain⟨r,e⟩:=Sn xs (p+1) n b;refine⟨?_,by rw[h1];simp⟩;rw[e,h1,mI,List.idxOf_append,lE (by rw[Cf];omega)];simp
theorem Vr(xs:List MI)(p q n:Nat)(g:p<n)(i:q<n)(e:BO xs xs p=true)(f:BO xs xs q=true)(h:(Cs xs n).idxOf p=(Cs xs n).idxOf q):p=q:=by have h1:p∈Cs xs n:=(Cf _ _ _).2 ⟨g,e⟩;have h2:q∈Cs xs n:=(Cf _ _ _).2 ⟨i,f⟩;have a:=List.getElem_idxOf (nh.2 h1);have b:=List.getElem_idxOf (nh.2 h2);rw[<-a,<-b];congr 1
def Kk(a:List MB)(i:Int):List MB:=match a.getLast? with|some b=>a.dropLast++[⟨b.gK,i,b.next⟩]|none=>[]
theorem EM(a:List MB)(b:MB)(i:Int):Kk (a++[b]) i=a++[⟨b.gK,i,b.next⟩]:=by simp[Kk]
def Bw(xs:List MI):Nat->List MB
 |0=>[]
 |i+1=>Kk (if BO xs xs i=true then Bw xs i++[⟨i,0,[]⟩]else Bw xs i) i
def build(L:List Nat)(e:Nat):List MB:=List.zipWith (λ(a b:Nat)=>(⟨(a:Int),(b:Int)-1,[]⟩:MB)) L (L.tail++[e])
theorem Iw(L:List Nat)(i e:Nat)(h:L≠[]):build (L++[i]) e=build L i++[⟨(i:Int),(e:Int)-1,[]⟩]:=by
 unfold build;rw[List.tail_append_of_ne_nil h,mI,show(L.tail++([i]++[e]))=(L.tail++[i])++[e]from sP,List.zipWith_append (by
  cases L with
  |nil=>exact absurd rfl h
  |cons a r=>simp)]
 rfl
theorem Cp(xs:List MI)(i:Nat):Bw xs i=build (Cs xs i) i:=by
 induction i with
 |zero=>rfl
 | succ i e=>
   simp only[Bw];rw[K2];by_cases h:BO xs xs i=true
   . rw[lS h,lS h,EM];by_cases b:i=0
     . subst b;simp[Bw,Cs,build]
     rw[Iw _ _ _ (IA xs i oM),e];simp
   rw[lE h,lE h];have b:0<i:=by
    cases i with
    |zero=>exact absurd (Gz _ _) h
    |succ i=>omega
   obtain⟨M,a,f⟩:∃M a,Cs xs i=M++[a]:=⟨_,_,(List.dropLast_concat_getLast (IA xs i b)).symm⟩;rw[e,f];cases M with
   |nil=>simp[build,Kk]
   | cons m M=>rw[Iw _ _ _ sP,Iw _ _ _ sP,EM];simp
theorem I4(L:List Nat)(e:Nat):(build L e).length=L.length:=by
 unfold build;cases L with
 |nil=>rfl
 |cons a r=>simp
theorem BH(xs:List MI)(i:Nat):(Bw xs i).length=(Cs xs i).length:=by rw[Cp,I4]
def A9(xs:List MI)(i:Nat):Int:=((Cs xs (i+1)).length:Int)-1
theorem Fs(xs:List MI)(p n:Nat)(b:p<n)(a:BO xs xs p=true):A9 xs p=((Cs xs n).idxOf p:Int):=by have:=Vq xs p n b a;unfold A9;omega
theorem TY(xs:List MI)(p q n:Nat)(e:p<n)(f:q<n)(a:BO xs xs p=true)(b:BO xs xs q=true):A9 xs p=A9 xs q↔p=q:=by rw[Fs xs p n e a,Fs xs q n f b];exact⟨λh=>Vr xs p q n e f a b oM, λh=>by rw[h]⟩
def AO(xs:List MI)(x:MI)(e:Nat):List Int:=(if DQ x=true/\e+1< ↑xs then[((e+1:Nat):Int)]else[])++(if AR x=true/\¬(DQ x=true/\e+1< ↑xs/\x.c=((e+1:Nat):Int))then[x.c]else[])
def DA(xs:List MI)(x:MI)(e:Nat):List Int:=
 let a:=if DQ x=true/\e+1< ↑xs then[A9 xs (e+1)]else[]
 a++(if AR x=true/\(a=[]\/¬a=[A9 xs x.c.toNat])then[A9 xs x.c.toNat]else[])
theorem KA(L:List Nat)(n b e:Nat)(m:MB)(h:(build L n)[b]?=K m)(g:m.last=(e:Int))(j:e+1<n):e+1∈L:=by
 unfold build at h;rw[my]at h;cases h1:L[b]? with
 |none=>rw[h1]at h;simp at h
 | some a=>
   cases h2:(L.tail++[n])[b]? with
   |none=>rw[h1,h2]at h;simp at h
   | some q=>
     rw[h1,h2]at h;simp only[kK]at h;subst h;simp only[]at g;have i:q=e+1:=oM;subst i;have:=i8 h2;rcases kS.1 this with f|f
     . exact oP f
     simp at f;omega
theorem JE(xs:List MI)(b e:Nat)(x:MI)(m:MB)(u:AH xs)(k:(Bw xs xs)[b]?=K m)(s:m.last=(e:Int))(g:xs[e]?=K x):DA xs x e=(AO xs x e).map λp=>((Cs xs xs).idxOf p.toNat:Int):=by
 have t:e<xs.length:=(iV.1 g).1;rw[Cp]at k;have l:e+1< ↑xs->BO xs xs (e+1)=true:= λh=>((Cf _ _ _).1 (KA _ _ _ _ _ k s h)).2
 have n:AR x=true->x.c.toNat< ↑xs/\BO xs xs x.c.toNat=true/\(x.c.toNat:Int)=x.c:= λh=>by obtain⟨h1,h2⟩:=u.2.2 e x g h;have a:(x.c.toNat:Int)=x.c:=nE h1;exact⟨oM,Hb xs _ e _ x t g (by simp[Fq,h,a]),a⟩
 unfold DA AO;by_cases h1:DQ x=true/\e+1< ↑xs
 . have i:=Fs xs (e+1) xs h1.2 (l h1.2);simp only[lS h1];by_cases h2:AR x=true
   . obtain⟨c1,c2,c3⟩:=n h2;have j:=Fs xs x.c.toNat xs c1 c2;have r:=TY xs (e+1) x.c.toNat xs h1.2 c1 (l h1.2) c2;by_cases a:x.c=((e+1:Nat):Int)
     . have f:¬(AR x=true/\([A9 xs (e+1)]=[]\/¬[A9 xs (e+1)]=[A9 xs x.c.toNat])):= λh=>h.2.elim (λq=>by cases q) (λq=>q (by rw[r.2 oM]))
       simp only[lE f];rw[lE (λh=>h.2 ⟨h1.1,h1.2,a⟩)];simp[i]
     have f:(AR x=true/\([A9 xs (e+1)]=[]\/¬[A9 xs (e+1)]=[A9 xs x.c.toNat])):=⟨h2,.inr (λq=>a (by have:=r.1 (by simpa using q);omega))⟩
     simp only[lS f];rw[lS ⟨h2, λh=>a h.2.2⟩];simp[i,j]
   simp only[h2,false_and,if_false,nw];simp[i]
 simp only[lE h1];by_cases h2:AR x=true
 . obtain⟨c1,c2,c3⟩:=n h2;have j:=Fs xs x.c.toNat xs c1 c2;have f:(AR x=true/\(True\/¬([]:List Int)=[A9 xs x.c.toNat])):=⟨h2,.inl trivial⟩
   rw[lS f,lS ⟨h2, λh=>h1 ⟨h.1,h.2.1⟩⟩];simp[j]
 simp only[h2,false_and,if_false,nw];rfl
end Go.Proofs.YtjnglocdoljgkaaGreat
