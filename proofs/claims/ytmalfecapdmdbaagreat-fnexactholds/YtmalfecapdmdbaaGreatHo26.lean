import Derived.Test.YtmalfecapdmdbaaGreatHo23
import Derived.Test.YtmalfecapdmdbaaGreatHo13
import Derived.Test.YtmalfecapdmdbaaGreatHo14
namespace Go.Proofs.YtmalfecapdmdbaaGreat
open Go.ChangeShapes Go.WideShapes Go.ChangeAt Go.RowKit Go.Proofs.Tryz
set_option linter.unusedVariables false
open Go.Value renaming slice → Z,int → Ag,tuple → Ao
open Option renaming some → K,none → M
open Go renaming Value → J,World → Y,TypeId → Aj,Calls → Ai
open Go.RowKit renaming Below → Ah,Hid → Ae
open List renaming flatMap → Ad
open Go.Obj renaming cells → Ak
open Go.World renaming setCell → Aa,ownsRow → Ab,alloc → Ac
open Go.Ending renaming returned → Al
open Go.Proofs.Tryz renaming prog → Ap
open Go.IntKind renaming i64 → Af
set_option maxHeartbeats 4000000
set_option maxRecDepth 100000
variable {w u:Y}{a:Option Addr}{b B k i j n G:Nat}{e:Int}{s x:J}{S:List (List (List Int))}{p:MP}{l:ML}{f:MF}{r:DC}{xs:List MI}{g:MI}{m:MB}{E:Nat->List Nat}{O:List Nat}
theorem Uf:(Tryz.prog.info? 46).map (λi=>(i.zero,i.size,i.bytes))=K (K sN,1,24):=kR
theorem Nc(n:Nat):(madeCells (Z M 0 0).cells (n*1)).toList=List.replicate n sN:=by rw[Cb (λb:Bool=>[b]) [sN] [] n sN 1 rfl rfl oM];simp[Bu,List.flatten_replicate_singleton]
theorem Cn{a:Y}(b:w.grownBy a M):Ah w w a:=(kS _ _).grown b lR (λk c=>by cases c)
def KN(xs:List MI):Prop:=∃r,Bg xs r/\r.eC=0
theorem BP{t:Aj}{a0 a c d:J}(h:AC w b #[a0,a,c,d] t):w b=K a0/\w ⟨b,1,M⟩=K a/\w ⟨b,2,M⟩=K c/\w ⟨b,3,M⟩=K d:=⟨h.cell 0,h.cell 1,h.cell 2,h.cell 3⟩
theorem G4{t:Aj}{a0 a c d e f:J}(h:AC w b #[a0,a,c,d,e,f] t):w b=K a0/\w ⟨b,1,M⟩=K a/\w ⟨b,2,M⟩=K c/\w ⟨b,3,M⟩=K d/\w ⟨b,4,M⟩=K e/\w ⟨b,5,M⟩=K f:=⟨h.cell 0,h.cell 1,h.cell 2,h.cell 3,h.cell 4,h.cell 5⟩
def XL(p:MP)(a:Int):Prop:=A4 p 0/\0<=a/\∃f,p.bW[a.toNat]?=K f/\KN f.eC
def Iz(w:Y)(s:J)(S:List (List (List Int))):Prop:=∃xs:List (List (List Int)×J),xs.map Prod.fst=S/\Rd w 1 s S (Ad B2 xs)/\∀x∈xs,EP w x.2 x.1/\x.1.length<=1048576/\∀r∈x.1,r.length<=1048576
theorem Iz.a7{e:Y}(h:Iz w s S)(c:Ah B w e)(b: ↑w<=B):Iz e s S:=by obtain⟨xs,f,g,a⟩:=h;exact⟨xs,f,g.a7 c b, λx d=>⟨(a x d).1.a7 c b,(a x d).2⟩⟩
theorem Iz.at{n c:Nat}(h:Iz w (Z a n c) S){q:Nat}{b:List (List Int)}(d:S[q]?=K b):∃g o i j,a=K ⟨g,o,M⟩/\n= ↑S/\w ⟨g,o+q,M⟩=K (Z i b j)/\EP w (Z i b j) b/\b.length<=1048576/\∀r∈b,r.length<=1048576:=by
 obtain⟨xs,t,k,u⟩:=h;have B:=(i6.1 d).1;obtain⟨x,f,z⟩:∃x,xs[q]?=K x/\x.1=b:=by
  rw[<-t,lE]at d;cases f:xs[q]? with
  |none=>rw[f]at d;cases d
  |some x=>rw[f]at d;exact⟨x,rfl,kH d⟩
 subst z;rcases k.2 with⟨e,_⟩|⟨s,A,cc,e,v⟩
 . omega
 simp only[i8]at e;have m:=Rd.elem BH v q _ f 0 _ rfl;rw[lN,kJ]at m;obtain⟨l,y⟩:=u x (i7 f);obtain⟨i,j,p⟩:∃a c,x.2=Z a x.1 c:=by obtain⟨_,_,k,_⟩:=l;exact k.dk
 rw[p]at m l;exact⟨s,A,i,j,e.1,e.2.1,m,l,y⟩
theorem Iz.dk(h:Iz w s S):∃a c,s=Z a S c:=by obtain⟨_,_,b,_⟩:=h;exact b.dk
theorem SF.ss{base:Nat}(h:SF w base s S)(e:∀f∈S,f.length<=1048576/\∀g∈f,g.length<=1048576):Iz w s S:=by obtain⟨xs,a,c,d⟩:=h;exact⟨xs,a,Rd.gM c, λx b=>⟨(d x b).rdc,e x.1 (by rw[<-a];exact nN b)⟩⟩
def FC(p:MP)(a:Int)(l:ML):Prop:=A4 p 0/\0<=a/\∃f r,p.bW[a.toNat]?=K f/\Bg f.eC r/\r.eC=0/\l∈r.gE
def JY(p:MP)(a:Int)(l:ML)(f:MF)(r:DC):Prop:=A4 p 0/\0<=a/\p.bW[a.toNat]?=K f/\Bg f.eC r/\r.eC=0/\l∈r.gE
def NQ(p:MP)(a:Int)(l:ML)(n:Int):Prop:=(¬FC p a l/\n=7)\/∃f r,JY p a l f r/\AP p a f.eC r.a8 l n
theorem JY.own{a:Int}(h:JY p a l f r):FC p a l:=⟨h.1,h.2.1,f,r,h.2.2⟩
theorem JY.one{b:Int}{a:MF}{r d:DC}(h:JY p b l f r)(c:JY p b l a d):f=a/\r=d:=by have e:=h.2.2.1;rw[c.2.2.1]at e;have e:=(kH e).symm;subst e;exact⟨rfl,h.2.2.2.1.one c.2.2.2.1⟩
theorem NQ.one{c:Int}{n d:Int}(h:NQ p c l n)(b:NQ p c l d):n=d:=by
 rcases h with⟨a,rfl⟩|⟨f,r,a,h⟩<;>rcases b with⟨a',rfl⟩|⟨e,g,a',b⟩
 . rfl
 . exact absurd a'.own a
 . exact absurd a.own a'
 obtain⟨rfl,rfl⟩:=a.one a';exact h.one b
theorem Gx(h:Bg xs r):r.gE.length<=1024/\∀m∈r.gE,m.back.length<=1048576/\m.a8.length<=1048576:=by
 by_cases b:r.eC=0
 . have q:=h.gW b;exact⟨q.nl, λm a=>⟨by have:=(q.loop m a).2.2.2;omega,by have:=(q.loop m a).2.2.1;omega⟩⟩
 cases h with
 |none _=>exact⟨by simp[DY], λm a=>by cases a⟩
 |off _ _ _=>exact⟨by simp[DY], λm a=>by cases a⟩
 |lost _ _ _ _ _ _ _ _=>exact⟨by simp[DY], λm a=>by cases a⟩
 |two _ _ _ _ _ _ _ _=>exact⟨by simp[DY], λm a=>by cases a⟩
 |good _ _ _ _ _ _ _ _ _=>exact absurd rfl b
theorem AP.c1{c:Int}{b:List MB}{a:MB}(h:b[l.head.toNat]?=K a)(d:Ce p.eD c a.gH=M):AP p c xs b l 1:=⟨a,h,.inl ⟨d,rfl⟩⟩
structure QP(p:MP)(fi:Int)(xs:List MI)(bs:List MB)(l:ML)(hb:MB)(c:MT)(g:MI):Prop where
 ia:bs[l.head.toNat]?=K hb
 hQ:Ce p.eD fi hb.gH=K c
 at_:xs[hb.gH.toNat]?=K g
theorem AP.c2{d:Int}{b:List MB}{e:MB}{c:MT}(h:QP p d xs b l e c g)(f:¬(g.op=27/\g.a=c.gI)):AP p d xs b l 2:=⟨e,h.ia,.inr ⟨c,g,h.hQ,h.at_,.inl ⟨f,rfl⟩⟩⟩
theorem AP.c3{d:Int}{b:List MB}{e:MB}{c:MT}(h:QP p d xs b l e c g)(f:g.op=27/\g.a=c.gI)(i:DB b l.a8 g.c):AP p d xs b l 3:=⟨e,h.ia,.inr ⟨c,g,h.hQ,h.at_,.inr ⟨f,.inl ⟨i,rfl⟩⟩⟩⟩
theorem AP.c4{b:List MB}{d:MB}{c:MT}(h:QP p e xs b l d c g)(f:g.op=27/\g.a=c.gI)(i:¬DB b l.a8 g.c)(j:∃a,DB b l.a8 a/\a≠d.gH/\JA xs c.gI a):AP p e xs b l 4:=⟨d,h.ia,.inr ⟨c,g,h.hQ,h.at_,.inr ⟨f,.inr ⟨i,.inl ⟨j,rfl⟩⟩⟩⟩⟩
theorem AP.c5{b:List MB}{d:MB}{c:MT}(h:QP p e xs b l d c g)(f:g.op=27/\g.a=c.gI)(i:¬DB b l.a8 g.c)(j:¬∃a,DB b l.a8 a/\a≠d.gH/\JA xs c.gI a)(k:l.head=0\/JX p.ej xs b l c):AP p e xs b l 5:=⟨d,h.ia,.inr ⟨c,g,h.hQ,h.at_,.inr ⟨f,.inr ⟨i,.inr ⟨j,.inl ⟨k,rfl⟩⟩⟩⟩⟩⟩
theorem AP.c0{b:List MB}{d:MB}{c:MT}(h:QP p e xs b l d c g)(f:g.op=27/\g.a=c.gI)(i:¬DB b l.a8 g.c)(j:¬∃a,DB b l.a8 a/\a≠d.gH/\JA xs c.gI a)(k:¬(l.head=0\/JX p.ej xs b l c)):AP p e xs b l 0:=⟨d,h.ia,.inr ⟨c,g,h.hQ,h.at_,.inr ⟨f,.inr ⟨i,.inr ⟨j,.inr ⟨k,rfl⟩⟩⟩⟩⟩⟩
theorem H0{n c:Nat}{t:List ML}(h:Mi u (Z a n c) t){m:ML}(p:t[k]?=K m):∃g o b f d i,a=K ⟨g,o,M⟩/\u ⟨g,o+k*3,M⟩=K ↑m.head/\u ⟨g,o+k*3+1,M⟩=K (Z b m.back f)/\u ⟨g,o+k*3+2,M⟩=K (Z d m.a8 i)/\TP u (m,Z b m.back f,Z d m.a8 i):=by
 obtain⟨xs,z,A,B⟩:=h;have F:=(i6.1 p).1;obtain⟨⟨G,H,I⟩,j,r⟩:∃x,xs[k]?=K x/\x.1=m:=by rw[<-z,lE]at p;exact mT.1 p
 simp only[]at r;subst r;have q:=B _ (i7 j);obtain⟨b,f,v⟩:=Rd.dk q.1;obtain⟨d,i,w⟩:=Rd.dk q.2;simp only[]at v w;subst v w;rcases A.2 with⟨e,_⟩|⟨y,E,cc,e,l⟩
 . omega
 simp only[i8]at e;have s:=Rd.elem Co l k _ j 0 _ rfl;have C:=Rd.elem Co l k _ j 1 _ rfl;have D:=Rd.elem Co l k _ j 2 _ rfl;rw[kJ]at s;exact⟨y,E,b,f,d,i,e.1,s,C,D,q⟩
theorem ID{n c:Nat}{l:List MB}(h:Kp u (Z a n c) l)(j:l[k]?=K m):∃g o b d,a=K ⟨g,o,M⟩/\u ⟨g,o+k*3,M⟩=K ↑m.gH/\u ⟨g,o+k*3+1,M⟩=K ↑m.last/\u ⟨g,o+k*3+2,M⟩=K (Z b m.next d)/\Vg u (Z b m.next d) m:=by
 obtain⟨xs,v,w,y⟩:=h;have C:=(i6.1 j).1;obtain⟨⟨D,E⟩,f,q⟩:∃x,xs[k]?=K x/\x.1=m:=by rw[<-v,lE]at j;exact mT.1 j
 simp only[]at q;subst q;have p:=y _ (i7 f);obtain⟨b,d,s⟩:=Rd.dk p;simp only[]at s;subst s;rcases w.2 with⟨e,_⟩|⟨t,B,cc,e,i⟩
 . omega
 simp only[i8]at e;have r:=Rd.elem A9 i k _ f 0 _ rfl;have z:=Rd.elem A9 i k _ f 1 _ rfl;have A:=Rd.elem A9 i k _ f 2 _ rfl;rw[kJ]at r;exact⟨t,B,b,d,e.1,r,z,A,p⟩
theorem FN.iT{g:Y}{c f d e:J}(h:FN w c f d e r)(b:Ah B w g)(a: ↑w<=B):FN g c f d e r:=⟨h.a8.a7 b a,h.gJ.a7 b a,h.gQ.a7 b a,h.gE.a7 b a⟩
theorem Jm{i l k j:J}(h:FN w i l k j r):∃d c1 e c2 f c3 g c4,i=Z d r.a8 c1/\l=Z e r.gJ c2/\k=Z f r.gQ c3/\j=Z g r.gE c4:=by
 obtain⟨d,c1,m⟩:∃a c,i=Z a r.a8 c:=by obtain⟨_,_,b,_⟩:=h.a8;exact b.dk
 obtain⟨e,c2,n⟩:=h.gJ.dk;obtain⟨f,c3,p⟩:=h.gQ.dk;obtain⟨g,c4,q⟩:∃a c,j=Z a r.gE c:=by obtain⟨_,_,b,_⟩:=h.gE;exact b.dk
 exact⟨d,c1,e,c2,f,c3,g,c4,m,n,p,q⟩
structure QO(w u:Y)(v:VP)(lv:VL)(l:ML)(FB:Nat)(r:DC)(z1 z2 z3 z4:J):Prop where
 pb:AC u w #[v.r,v.k,v.f,v.t] 36
 lb:AC u ((w:Nat)+1) #[l.head,lv.b,lv.k] 85
 fb:AC u FB #[r.eC,r.at_,z1,z2,z3,z4] 80
 rf:FN u z1 z2 z3 z4 r
 e8:Ah w w u
theorem QO.a7{w u d:Y}{v:VP}{c:VL}{e f z3 g:J}(h:QO w u v c l b r e f z3 g)(a:Ah u u d):QO w d v c l b r e f z3 g:=⟨h.pb.a7 a,h.lb.a7 a,h.fb.a7 a,h.rf.iT a lR,Ar h.e8 lR a⟩
theorem Wx{c:List MB}{d:List Int}{z:Int}{a:Int}(i:d[j]?=K z)(g:z=(b:Int))(h:c[b]?=K m)(e:m.gH<=a)(f:a<=m.last):DB c d a:=⟨z,i7 i,m,by rw[g,kA];exact h,e,f⟩
theorem Nf{b:List MB}{c:List Int}{P:Int->Prop}(h:∀(j:Nat) (z:Int) (m:MB),c[j]?=K z->b[z.toNat]?=K m->∀a,m.gH<=a->a<=m.last->¬P a):¬∃a,DB b c a/\P a:=by rintro⟨a,⟨z,k,m,g,d,e⟩,i⟩;obtain⟨j,f⟩:=lH k;exact h j z m f g a d e i
def BQ(p:MP)(f:MF)(x:MI)(a:List Int):Int:=if x.op=29 then(if a=A7 f then 0 else 5)else Cf p f x a
def Cy(p:MP)(f:MF)(x:MI)(a:List Int):List Int:=if x.op=29 then[]else BO p f x a
structure WS where
 c:Nat->Option (List Int)
 t:Nat->List Int
 d:Nat
def Yw(T:Nat->List Int)(a:Nat)(b:List Int):Nat->List Int:= λj=>if j=a then b else T j
def Yv(C:Nat->Option (List Int))(b:Nat)(a:List Int):Nat->Option (List Int):= λj=>if j=b then K a else C j
abbrev Yn:=Sum (Int×Nat) (List Int×(Nat->List Int)×Nat)
def VZ(p:MP)(f:MF):Nat->Nat->List Int->(Nat->List Int)->Nat->Yn
 |0,_,sh,T,D=>.inr (sh,T,D)
 | c+1,a,sh,T,D=>match f.eC[a]? with
   |none=>.inr (sh,T,D)
   |some x=>if BQ p f x sh=0 then VZ p f c (a+1) (Cy p f x sh) (Yw T a sh) (max D (Cy p f x sh).length)else .inl (BQ p f x sh,a)
def Uo:List Nat->List Int->(Nat->Option (List Int))->Option (Nat->Option (List Int))
 |[],_,C=>K C
 | t::r,sh,C=>match C t with
   |none=>Uo r sh (Yv C t sh)
   |some s=>if s=sh then Uo r sh C else M
abbrev WL:=Sum (Int×Nat) WS
def X6(p:MP)(f:MF)(m:MB)(b:Nat)(s:WS):WL:=match VZ p f (m.last-m.gH+1).toNat m.gH.toNat ((s.c b).getD []) s.t s.d with
 |.inl e=>.inl e
 | .inr (sh,T,D)=>match Uo (m.next.map Int.toNat) sh s.c with
   |none=>.inl (4,m.last.toNat)
   |some C=>.inr ⟨C,T,D⟩
def UM(p:MP)(f:MF)(a:List MB):List Nat->WS->WL
 |[],s=>.inr s
 | b ::r,s=>match a[b]? with
   |none=>.inr s
   | some m=>match X6 p f m b s with
     |.inl e=>.inl e
     |.inr s'=>UM p f a r s'
def ws0:WS:=⟨λb=>if b=0 then K []else M, λ_=>[],0⟩
structure Me where
 eC:Int
 at_:Int
 depth:Int
 gR:List (List Int)
def X8(n:Nat):WL->Me
 |.inl (c,a)=>⟨c,(a:Int),0,[]⟩
 |.inr s=>⟨0,0,(s.d:Int),(List.range n).map s.t⟩
def TS(p:MP)(a:Int)(y:Me):Prop:=(¬XL p a/\y=⟨6,0,0,[]⟩)\/(A4 p 0/\0<=a/\∃f r,p.bW[a.toNat]?=K f/\Bg f.eC r/\r.eC=0/\y=X8 f.eC.length (UM p f r.a8 (r.gJ.map Int.toNat) ws0))
theorem TS.one{c:Int}{y j:Me}(h:TS p c y)(l:TS p c j):y=j:=by
 rcases h with⟨a,rfl⟩|⟨q,t,f,r,d,g,m,rfl⟩<;>rcases l with⟨a',rfl⟩|⟨s,u,k,v,b,i,n,rfl⟩
 . rfl
 . exact absurd ⟨s,u,k,b,v,i,n⟩ a
 . exact absurd ⟨q,t,f,d,r,g,m⟩ a'
 rw[d]at b;have e:=kH b;subst e;have e:=g.one i;subst e;rfl
theorem SS{L:List Nat}(r:L.Pairwise (· < ·))(w:∀x∈L,x<n)(h:(build L n)[b]?=K m)(f:m.gH<(i:Int))(g:(i:Int)<=m.last):i∉L:=by
 unfold build at h;rw[nH]at h;cases e1:L[b]? with
 |none=>rw[e1]at h;simp at h
 | some a=>
   cases e2:(L.tail++[n])[b]? with
   |none=>rw[e1,e2]at h;simp at h
   | some q=>
     rw[e1,e2]at h;simp only[kI]at h;subst h;simp only[]at f g;intro l;obtain⟨j,p⟩:=lH l;obtain⟨ib,eb⟩:=i6.1 e1;obtain⟨d,u⟩:=i6.1 p;have c:=mi.1 r;have v:b<j:=by
      apply lW;intro y;by_cases e:j=b
      . subst e;omega
      have:=c j b d ib oM;omega
     (have k:L[b+1]?=K q:=by rw[<-e2,lO oT];cases L<;>simp);obtain⟨s,t⟩:=i6.1 k;by_cases e:j=b+1
     . subst e;omega
     have:=c (b+1) j s d oM;omega
theorem Nv(h:(AM xs)[b]?=K m):∃a,(build (CS xs xs) xs)[b]?=K a/\m.gH=a.gH/\m.last=a.last:=by unfold AM at h;rw[lE]at h;obtain⟨a,c,rfl⟩:=mT.1 h;rw[Cp]at c;exact⟨a,c,rfl,rfl⟩
theorem SR{b t:Nat}{j:MB}(h:(AM xs)[b]?=K m)(u:(AM xs)[t]?=K j)(w:b≠t):¬(m.gH<=j.gH/\j.gH<=m.last):=by
 obtain⟨L,l,B,D⟩:=Nv h;obtain⟨N,f,C,E⟩:=Nv u;rintro⟨G,H⟩;have p:∀{c:Nat} {k:MB},(build (CS xs xs) xs)[c]?=K k->∃a,(CS xs xs)[c]?=K a/\k.gH=(a:Int):=by
  intro c k d;unfold build at d;rw[nH]at d;cases f:(CS xs xs)[c]? with
  |none=>rw[f]at d;simp at d
  | some a=>
    cases e2:((CS xs xs).tail++[xs.length])[c]? with
    |none=>rw[f,e2]at d;simp at d
    | some q=>rw[f,e2]at d;simp only[kI]at d;subst d;exact⟨a,rfl,rfl⟩
 obtain⟨a,v,z⟩:=p l;obtain⟨a',n,A⟩:=p f;have r:=mi.1 (Dm xs xs);obtain⟨ib,eb⟩:=i6.1 v;obtain⟨s,F⟩:=i6.1 n;have I:a≠a':=by
  intro e;rcases Nat.lt_or_gt_of_ne w with g|g
  . have:=r b t ib s g;omega
  have:=r t b s ib g;omega
 exact SS (Dm _ _) (λx y=>((C6 _ _ _).1 y).1) l (i:=a') oM oM (i7 n)
def BR(p:MP)(a:Int)(b:List (List Int)):Prop:=A4 p 0/\0<=a/\∃f,p.bW[a.toNat]?=K f/\KN f.eC/\D8 p f b
structure XM(w u:Y)(n G gF gP:Nat):Prop where
 gK:AC u G #[sN,sG gF n n,sN,sG gP n n,sN] 191
 io:Ab u w 46 1 (sG gF n n) n (List.replicate n sN)
 jt:Ab u w 2 1 (sG gP n n) n (iv (λ_=>0) n)
 e8:Ah w w u
 ge: ↑w<=G
theorem XM.of{W:Y}{a:Nat}(d:Ab W w 46 1 (sG a n n) n (List.replicate n sN))(e:Ab W w 2 1 (sG b n n) n (iv (λ_=>0) n))(c:Ah w w W):XM w (Ac W (Ak #[sN,sG a n n,sN,sG b n n,sN] 191)) n W a b:=⟨AC.new _ _ _,Aw d (Aq _ _) lR,Aw e (Aq _ _) lR,Ar c lR (Aq _ _),c.size⟩
def Fq(E:Nat->List Nat)(b k x:Nat):List Nat:=(((E b).take k).filter λy=>decide (y=x)).map λ_=>b
theorem Ld(E:Nat->List Nat)(b x:Nat):Bs E (b+1) x=Bs E b x++Fq E b (E b).length x:=by unfold Bs Fq;rw[mw,lL];simp
theorem Ra(E:Nat->List Nat)(b x:Nat):Fq E b 0 x=[]:=by simp[Fq]
theorem Q9{y:Nat}(c:(E b)[k]?=K y)(x:Nat):Fq E b (k+1) x=if x=y then Fq E b k x++[b]else Fq E b k x:=by
 obtain⟨a,e⟩:=i6.1 c;unfold Fq;rw[kU a,mh,mF,e];by_cases q:x=y
 . subst q;simp
 simp[q,Ne.symm q]
theorem M5(E:Nat->List Nat)(b k x:Nat):(Fq E b k x).length<=(E b).length:=by unfold Fq;rw[lC];refine kV (mW _ _) ?_;rw[lh];omega
theorem JF(a:∀b,(E b).length<=2)(b x:Nat):(Bs E b x).length<=2*b:=by
 induction b with
 |zero=>simp[Bs]
 | succ b e=>have c:=M5 E b (E b).length x;have d:=a b;rw[Ld,kE];omega
structure NG(w w2 u:Y)(n G gF:Nat)(PV:J)(NV:J)(NS:List J)(FS:List (J×List Nat)):Prop where
 gK:AC u G #[NV,sG gF n n,sN,PV,sN] 191
 iA:Ab u w2 46 1 NV NS NS
 io:Ab u w 46 1 (sG gF n n) n (FS.map Prod.fst)
 gV:CI u w2 (FS.map λx=>(x.1,ints x.2))
 fx:∀k,k< ↑w2->k≠G->k≠gF->u.heap[k]?=w2.heap[k]?
 size:(w2:Nat)<= ↑u
 e8:Ah w w u
 lt: ↑w<=G/\G< ↑w2/\gF< ↑w2
theorem NG.a7{j i:Y}{f:Nat}{e d:J}{c:List J}{b:List (J×List Nat)}(h:NG w j u n G f e d c b)(a:Ah u u i):NG w j i n G f e d c b:=⟨h.gK.a7 a,Aw h.iA a lR,Aw h.io a lR,h.gV.iF a, λk g l m=>by rw[a.block k (lq g h.size)];exact h.fx k g l m,kV h.size a.size,Ar h.e8 lR a,h.lt⟩
theorem NG.next{w l u d:Y}{g cap:Nat}{q p:J}{b:List J}{m:List (J×List Nat)}(h:NG w l u n G j q p b m)(hw:(w:Nat)<= ↑l)(t:Ab d l 46 1 (sG g (b.length+1) cap) (b.length+1) (b++[x]))(c:u.grownBy d p.ownBlock):AC d G #[p,sG j n n,sN,q,sN] 191/\NG w l (d.setCell G (sG g (b.length+1) cap)) n G j q (sG g (b.length+1) cap) (b++[x]) m:=by
 have f:=h.gK.grown c h.iA dC;have v:Ab d w 46 1 (sG j n n) n (m.map Prod.fst):=Do h.io c (λy A e=>by have r:=(h.iA.lt y e.symm).1;simp only[Value.ownBlock,kI]at A;have:=h.lt.2.2;omega);have C:=h.gV.iu c h.iA dC;refine⟨f,?_,?_,?_,C.other f dC 0 _, λk s r z=> ?_,?_,?_,h.lt⟩
 . have:=f.set 0 (sG g (b.length+1) cap);simpa using this
 . rw[kE,kK];exact kN t (a:=⟨G,0,M⟩) (FO f t dC) _
 . exact kN v (a:=⟨G,0,M⟩) (FO f v dC) _
 . rw[lY d _ k _ r,c.block k (lq s h.size) (λe=>by have:=(h.iA.lt k e.symm).1;omega)];exact h.fx k s r z
 . rw[lr];exact kV h.size c.size
 exact(h.e8.grown c h.e8.size (λi B=>kV hw (h.iA.lt i B).1)).setCell h.lt.1 _
theorem Sw{α:Type}(A B:List α)(x y:α):(A++x::B).set A y=A++y::B:=by rw[m8 _ _ lR,mU];rfl
theorem NG.gX{m f:Y}{n G d g cap y b:Nat}{v r V:J}{q:List J}{c:List (J×List Nat)}{l:List Nat}(h:NG w m u n G d v r q c)(hw:(w:Nat)<= ↑m)(E:c[y]?=K (V,l))(Q:Ab f m 2 1 (sG g (l.length+1) cap) (l.length+1) (nv l++[iZ (b:Int)]))(j:u.grownBy f V.ownBlock)(L:V.ownBlock=K g\/g= ↑u):Ab f w 46 1 (sG d n n) n (c.map Prod.fst)/\NG w m (Aa f ⟨d,y,M⟩ (sG g (l.length+1) cap)) n G d v r q (c.set y (sG g (l.length+1) cap,l++[b])):=by
 obtain⟨T,S⟩:=i6.1 E;have B:c=c.take y++(V,l)::c.drop (y+1):=by rw[<-S,<-mD T,m9]
 have O:(c.take y).length=y:=by rw[lh];omega
 have p:=h.gV.own (V,ints l) (lA.2 ⟨(V,l),i7 E,rfl⟩);have F:=h.gK.grown j p dC;have kn:Ab f m 46 1 r q q:=BJ h.iA j p dC;have s:Ab f w 46 1 (sG d n n) n (c.map Prod.fst):=BJ h.io j p dC;have R:c.set y (sG g (l.length+1) cap,l++[b])=c.take y++(sG g (l.length+1) cap,l++[b])::c.drop (y+1):=by have:=Sw (c.take y) (c.drop (y+1)) (V,l) (sG g (l.length+1) cap,l++[b]);rw[O,<-B]at this;exact this
 have t:CI f m ((c.set y (sG g (l.length+1) cap,l++[b])).map λx=>(x.1,ints x.2)):=by have z:=h.gV;rw[B,mF,mX]at z;rw[R,mF,mX];refine CI.grow (g:=g) z ?_ rfl j (L.imp id λe=>oM);simp only[];rw[AZ,kE,kK,<-C7,Fx];exact Q
 have U:=h.lt.2.2;have I:d≠G:= λe=>FO F s dC (by rw[e];rfl)
 have P:r.ownBlock≠K d:= λe=>by have:=(kn.lt d e).1;omega
 refine⟨s,F.other (Ne.symm I) _,kN kn (a:=⟨d,y,M⟩) P _,?_,⟨λx D=> ?_,t.sep⟩, λk C H A=> ?_,?_,?_,h.lt⟩
 . have:=(s.stored y (sG g (l.length+1) cap)).1;rw[List.map_set];exact this
 . refine kN (t.own x D) (a:=⟨d,y,M⟩) (λe=> ?_) _;have:=((t.own x D).lt d e).1;omega
 . rw[lY f _ k _ A,j.block k (lq C h.size) (λe=>by have:=(p.lt k e.symm).1;omega)];exact h.fx k C H A
 . rw[lr];exact kV h.size j.size
 exact(h.e8.grown j h.e8.size (λi N=>kV hw (p.lt i N).1)).setCell (AD s).1 _
theorem Rq(s:J)(n:Nat)(j:List (ML×J×J))(w:Y)(hN: ↑j=n)(hn:n<=1048576)(h:Rd w 3 s n (Ad BD j))(hS:∀y∈j,QQ y)(aj:j.Pairwise λa b=>a.1.head<b.1.head):
 Ai Ap 71 #[s] w λe w'=>∃V zs,e=Al V/\Ix w w' V n j zs/\zs.Perm j/\(zs.map Prod.fst).Pairwise Iy:=by
 obtain⟨v,c1,t⟩:=Rd.dk h;subst t;have H:=Av (d5 h hS);have D:=Av hN;have Q:=Av (Vc.start aj);clear aj;go_enter func71,ntmps71;go_wp2_with (at_builtin;refine OD rfl (.tmp 7) (.tmp 8) rfl w w (Z v n c1) j rfl rfl (by rw[D];exact H.1) H.2 lR (by rw[D];exact hn) ?_;intro V w3 aA aq);have f:Ae (Ix w w3 V n j j):=⟨by rw[<-D];exact aA,D, λz hz=>hz,aq⟩;rcases BU f.own with⟨rfl,hz⟩|⟨g,c,rfl⟩
 . subst hz;go_wp2_with fail;go_loopw [4,5,6] (λi _ _ wr=>i=iZ 0/\wr=w3) (λ_ _ _ _=>0)
   (case atStart=>exact⟨rfl,rfl⟩);obtain⟨rfl,rfl⟩:=hrel;go_wp2_with fail;go_ret;exact⟨sN,_,rfl,f,Q.perm,Q.done (by rw[D];exact Nat.le_refl _)⟩
 go_wp2_with fail;go_loopw [4,5,6] (λi _ _ wr=>∃(m:Nat) (zs:List (ML×J×J)),m<=n/\i=iZ m/\Ae (Ix w wr (sG g n c) n j zs/\Vc Prod.fst j zs m)) (λi _ _ _=>n-(intOf i).toNat)
 case atStart=>exact⟨0,_,oM,rfl,f,Q⟩
 obtain⟨m,zs,hm,rfl,f⟩:=hrel;by_cases aG:m<n;case neg=>go_wp2_with fail;go_ret;exact⟨sG g n c,_,rfl,f.1,f.2.perm,f.2.done (by rw[f.1.len];omega)⟩
 have aH:(m:Int)<(n:Int):=oM;go_wp2_with fail;go_loopw [5,6] (λk _ wr=>∃(q:Nat) (zs:List (ML×J×J)),q<n/\k=iZ q/\Ae (Ix w wr (sG g n c) n j zs/\m<=q/\Kk Prod.fst j zs m q)) (λk _ _=>(intOf k).toNat)
 case atStart=>exact⟨n-1,zs,oM,by go_num,f.1,oM,f.2.toI f.1.len⟩
 obtain⟨q,zs,hq,rfl,f⟩:=hrel;by_cases aE:m<q;case neg=>
  go_wp2_with fail;go_roundw;case rel=>have h1:=f.2.1;obtain rfl:m=q:=oM;exact⟨m+1,zs,oM,by go_num,f.1,f.2.2.next⟩
  case measure=>exact oI
 have aF:(q:Int)>(m:Int):=oM;have aI:(q:Int)<(n:Int):=oM;obtain⟨r,L⟩:∃r,q=r+1:=⟨q-1,oM⟩;have x:=Av L;have HI:Ae (Kk Prod.fst j zs m (r+1)):=by rw[<-L];exact f.2.2
 have P:Ae (m<=r):=by show m<=r;omega
 obtain⟨d,v,B,A,t,ae,au,f1,f2,p0,p1,N⟩:=f.1.at_ H.2 hq;obtain⟨l,a2,b2,R,T,ah,aw,f3,f4,q0,q1,O⟩:=f.1.at_ H.2 (show r<n by have:=x.o;omega);have F:Ae (zs[r+1]?=K d/\zs[r]?=K l):=⟨by rw[<-L];exact ae,ah⟩
 have g6:(q:Int)-1=(r:Int):=oM;have g3:(0:Int)<=(r:Int):=oM;have g4:(r:Int)<(n:Int):=oM;clear L;have g5:IntKind.i64.wrap (r:Int)=(r:Int):=IntWalk.i64_in _ ⟨oM,oM⟩;go_upto_region 8 with fail
 have C:Ae (Ix w wr.drew (sG g n c) n j zs):=⟨Aw f.1.own (At _) lR,f.1.len,f.1.sub,Ar f.1.e8 lR (At _)⟩;refine wp_region_held_drew (S:= λW=>W ⟨g,q*3+2,M⟩=K (Z A d.1.a8 t)/\W ⟨g,r*3+2,M⟩=K (Z R l.1.a8 T)) kR (by exact⟨N,O⟩) (λao=> ?_)
 clear f p0 p1 N q0 q1 O;generalize wr.drew=E at C ao⊢;refine AK 0 ?_;refine AK 1 ?_;refine AK 2 ?_;refine AK 3 ?_;refine AK 4 ?_;refine AK 5 ?_;refine AK 6 ?_;refine AK 7 ?_;refine AK 8 ?_;refine AK 9 ?_;refine AK 10 ?_;refine AK 11 ?_;refine AK 12 ?_;refine AK 13 ?_;refine wpAnyH_done kR ?_ _;go_simp;by_cases I:d.1.a8.length< ↑l.1.a8
 case neg=>
  rw[lZ I];go_wp2_with fail;go_roundw;case rel=>exact⟨r,zs,by have:=x.o;omega,by go_num,C,P,HI.skip F.1 F.2 I⟩
  simp[intOf];have:=x.o;omega
 have am:Ae (Kk Prod.fst j ((zs.set q l).set r d) m r):=by rw[x];exact HI.swap P F.1 F.2 I
 rw[decide_eq_true I];have PC:Ae _:=C.js H.2 hq (show r<n by have:=x.o;omega) ae ah f1 f2 f3 f4;obtain⟨p0,p1,N,q0,q1,O⟩:=PC.o;go_upto_region 10 with fail
 have p:Ae (Ix w (Ac E (Ak #[d.1.head,Z v d.1.back B,Z A d.1.a8 t] 85)) (sG g n c) n j zs/\AC (Ac E (Ak #[d.1.head,Z v d.1.back B,Z A d.1.a8 t] 85)) E #[d.1.head,Z v d.1.back B,Z A d.1.a8 t] 85/\g≠ ↑E):=⟨C.a7 (Aq _ _),AC.new _ _ _, λe=>by obtain⟨_,_,h1⟩:=AD C.own;have:=(kM.1 h1).1;omega⟩
 generalize E.heap.size=X at p⊢;refine Ax (λU=>Ae (Ix w U (sG g n c) n j zs/\AC U X #[d.1.head,Z v d.1.back B,Z A d.1.a8 t] 85/\g≠X)) p ?_
 rintro U p;have PC:Ae _:=p.1.js H.2 hq (show r<n by have:=x.o;omega) ae ah f1 f2 f3 f4;obtain⟨p0,p1,N,q0,q1,O⟩:=PC.o;have y0:=p.1.own.frozenAt (q*3);have y1:=p.1.own.frozenAt (q*3+1);have y2:=p.1.own.frozenAt (q*3+2);go_upto_region 11 with fail
 have u:Ae (Ix w (Aa (Aa (Aa U ⟨g,q*3,M⟩ l.1.head) ⟨g,q*3+1,M⟩ (Z a2 l.1.back b2)) ⟨g,q*3+2,M⟩ (Z R l.1.a8 T)) (Z g n c) n j (zs.set q l)/\AC (Aa (Aa (Aa U ⟨g,q*3,M⟩ l.1.head) ⟨g,q*3+1,M⟩ (Z a2 l.1.back b2)) ⟨g,q*3+2,M⟩ (Z R l.1.a8 T)) X #[d.1.head,Z v d.1.back B,Z A d.1.a8 t] 85):=⟨p.1.jX aw f3 f4,((p.2.1.other (a:=⟨g,q*3,M⟩) (λe=>p.2.2 e.symm) _).other (a:=⟨g,q*3+1,M⟩) (λe=>p.2.2 e.symm) _).other (a:=⟨g,q*3+2,M⟩) (λe=>p.2.2 e.symm) _⟩
 refine Ax (λU=>Ae (Ix w U (sG g n c) n j (zs.set q l)/\AC U X #[d.1.head,Z v d.1.back B,Z A d.1.a8 t] 85)) u ?_
 rintro G u;have x0:G X=K ↑d.1.head:=by rw[u.2.cell];rfl
 have x1:G ⟨X,1,M⟩=K (Z v d.1.back B):=by rw[u.2.cell];rfl
 have x2:G ⟨X,2,M⟩=K (Z A d.1.a8 t):=by rw[u.2.cell];rfl
 obtain⟨zz,_,_,_,_,_,_,_,_,k4,k5,k6⟩:=u.1.at_ H.2 (show r<n by have:=x.o;omega);have y0:=u.1.own.frozenAt (r*3);have y1:=u.1.own.frozenAt (r*3+1);have y2:=u.1.own.frozenAt (r*3+2);have E8:Ae (Ix w (Aa (Aa (Aa G ⟨g,r*3,M⟩ d.1.head) ⟨g,r*3+1,M⟩ (Z v d.1.back B)) ⟨g,r*3+2,M⟩ (Z A d.1.a8 t)) (Z g n c) n j ((zs.set q l).set r d)):=u.1.jX au f1 f2;go_wp2_with fail;go_roundw;case rel=>exact⟨r,_,by have:=x.o;omega,by go_num,E8,P,am⟩
 simp[intOf];have:=x.o;omega
theorem Ux(l:List Nat):nv l=(ints l).map (Ag Af):=by simp[nv,ints]
theorem Ug(l:List Nat):ints l.reverse=(ints l).reverse:=by simp[ints]
theorem P5(g c base:Nat)(O:List Nat)(w:Y)(v:O.length<=1048576)(h:Gh w base (sG g O c) O):
 Ai Ap 133 #[sG g O c] w λe a=>e=Al (Ao #[])/\Gh a base (sG g O c) O.reverse/\w.grownBy a (K g):=by
 rcases h.2 with⟨b,_⟩|⟨u,s,t,b,q,i,j,k,l,m⟩
 . cases b
 cases b
 have p:Go.Sort.Holds (Ag Af) w g 0 (ints O).toArray:=holds_of_blockI i (by rw[AZ,<-Ux];simpa using m);have f:=PZ g c (ints O) w p (by rw[AZ];omega);rw[AZ]at f;refine f.mono ?_;rintro e a ⟨rfl,n,r⟩;have d:a=Go.Sort.grow (Go.Sort.putRow (Ag Af) (Go.Sort.ahead w n) g 0 (ints O).reverse.toArray) #[]:=by rw[Go.Sort.grow_empty];exact r
 refine⟨rfl,?_,?_⟩
 . have:=ownsRow_sortedI (w:=w) (base:=base) (g:=g) (cap:=c) (n:=n) (os:=#[]) (ss:=ints O) (ts:=(ints O).reverse) sP q i (by rw[AZ];exact j) k l;rw[<-d,AZ,<-Ug,<-Ux]at this;unfold Gh;rw[mC];exact this
 rw[d];exact grownBy_sortedI _
theorem UP(g c base:Nat)(zs:List Int)(w:Y)(s:zs.length<=1048576)(h:Ab w base 2 1 (sG g zs c) zs (Ad As zs)):
 Ai Ap 127 #[sG g zs c] w λe d=>e=Al (Ao #[])/\Ab d base 2 1 (sG g zs c) zs (Ad As (zs.mergeSort λx y=>decide (x<=y)))/\w.grownBy d (K g):=by
 rcases h.2 with⟨a,_⟩|⟨r,p,q,a,m,b,f,i,j,k⟩
 . cases a
 cases a
 have l:Go.Sort.Holds (Ag Af) w g 0 zs.toArray:=holds_of_blockI b (by rw[<-C5];simpa using k);refine(Qa g c zs w l (kM.1 b).1 oM).mono ?_;rintro e d ⟨rfl,n,os,rfl⟩;refine⟨rfl,?_,grownBy_sortedI _⟩;rw[C5];exact ownsRow_sortedI (nS zs _).length_eq m b f i j
theorem FW.jR{g:Nat}{X:List Nat}(h:FW w g 0 n E)(t:∀k,k< ↑w->k∉X->u.heap[k]?=w.heap[k]?)(y:g∉X)(A:∀b a m c,b<n->w ⟨g,b,M⟩=K (Z (K a) m c)->0<m->a.block∉X):FW u g 0 n E:= λb l=>by
 have p:∀{a:Addr} {x:J},w a=K x->a.block∉X->u a=K x:= λ{a x} q z=>by have:=t a.block (hC q) z;unfold World.cell? at*;rw[this];exact q
 obtain⟨a,c,d,i⟩:=h b l;rw[lM]at d;refine⟨a,c,by rw[lM];exact p d y,i.1,i.2.imp id ?_⟩;rintro⟨f,s,c',e,q⟩;refine⟨f,s,c',e, λj v r=>p (q j v r) ?_⟩;simp only[i8,lB]at e;exact A b ⟨f,s,M⟩ _ c l (by rw[d,e.1]) (by have:=(i6.1 r).1;rw[Tq]at this;omega)
structure GM(w u:Y)(n G gN cN gF gO cO gP:Nat)(E:Nat->List Nat)(S O:List Nat):Prop where
 ge: ↑w<=G
 gK:AC u G #[sG gN n cN,sG gF n n,sG gO O cO,sG gP n n,sN] 191
 nx:FW u gN 0 n E
 fr:FW u gF 0 n (Bs E n)
 vs:Vs E [] [] [0] S O
 ord:Gh u w (sG gO O cO) O.reverse
 pl:∀x,x∈O->u ⟨gP,x,M⟩=K ↑(Dp O x:Int)
 e8:Ah w w u
 ne:gN≠G/\gF≠G/\gO≠G/\gP≠G
 nn:∀b a m c,b<n->u ⟨gN,b,M⟩=K (Z (K a) m c)->0<m->a.block≠G
 nf:∀b a m c,b<n->u ⟨gF,b,M⟩=K (Z (K a) m c)->a.block≠G
theorem Uv{y:Y}{F f:Nat}{s:List J}{r:List (J×List Nat)}(h:NG w y u n G i (sG f n n) (sG j n F) s r)(hN: ↑s=n)(T: ↑r=n)(C:∀x,x<n->∃V,r[x]?=K (V,Bs E n x))(D:∀x,x<n->∃a c,s[x]?=K (Z a (E x).length c)/\I5 w (Z a (E x).length c) (E x))(I:Ab y w 2 1 (sG f n n) n (iv (λ_=>0) n))(N:f≠G)(L:f≠i):FW u j 0 n E/\FW u i 0 n (Bs E n)/\(j≠G/\i≠G/\f≠G/\j≠f/\i≠f)/\(∀b a m c,b<n->u ⟨j,b,M⟩=K (Z (K a) m c)->0<m->a.block≠G/\a.block≠f)/\(∀b a m c,b<n->u ⟨i,b,M⟩=K (Z (K a) m c)->a.block≠G/\a.block≠f):=by
 have X: ↑w<=f/\f<y.heap.size:=by obtain⟨k,Q,l⟩:=AD I;exact⟨k,(kM.1 l).1⟩
 have U:=h.lt;have v:=h.iA;rw[hN]at v;have W:=(AD v).1;have A:∀b,b<n->u ⟨j,b,M⟩=s[b]?:= λb d=>by have:=v.cellAt b oM;exact this
 have z:∀b,b<n->u ⟨i,b,M⟩=(r.map Prod.fst)[b]?:= λb d=>h.io.cellAt b oM
 have H:i≠G:= λe=>FO h.gK h.io dC (by rw[e];rfl)
 refine⟨λb d=> ?_, λb d=> ?_,⟨oM,H,N,oM,Ne.symm L⟩, λb a m c d g O=> ?_, λb a m c d g=> ?_⟩
 . obtain⟨a,c,k,l⟩:=D b d;exact⟨a,c,by rw[lM,A b d];exact k,Rd.a7 l h.e8 lR⟩
 . obtain⟨V,p⟩:=C b d;have t:=h.gV.own (V,ints (Bs E n b)) (lA.2 ⟨(V,_),i7 p,rfl⟩);obtain⟨a,c,e⟩:=AO t;simp only[AZ]at e;subst e;refine⟨a,c,by rw[lM,z b d,lE,p];rfl,?_⟩;have:=Rd.gM t;simp only[AZ]at this;rw[<-C7]at this;exact this
 . rw[A b d]at g;obtain⟨a',c',k,l⟩:=D b d;rw[k]at g;simp only[kI,i8]at g;obtain⟨rfl,rfl,rfl⟩:=g;rcases l.2 with⟨R,_⟩|⟨S,o',c',B,q⟩
   . omega
   simp only[i8,kI,lB]at B;obtain⟨rfl,rfl⟩:=B;obtain⟨x,P⟩:∃x,(E b)[0]?=K x:=⟨_,an O⟩;have:=hC (q 0 _ (Ng P));simp only[]at this⊢;omega
 rw[z b d]at g;obtain⟨V,p⟩:=C b d;rw[lE,p]at g;simp only[nI,kI]at g;subst g;have t:=h.gV.own _ (lA.2 ⟨(_,_),i7 p,rfl⟩);have:=(t.lt a.block rfl).1;omega
structure WJ(w u3 u:Y)(n G gN cN gF gO cO gP:Nat)(R:List Nat):Prop where
 gK:AC u G #[sG gN n cN,sG gF n n,sG gO R cO,sG gP n n,sN] 191
 ord:Gh u u3 (sG gO R cO) R
 jt:Ab u w 2 1 (sG gP n n) n (iv (λ_=>0) n)
 fx:∀k,k< ↑u3->k≠G->k≠gP->u.heap[k]?=u3.heap[k]?
 size:(u3:Nat)<= ↑u
 e8:Ah w w u
theorem WJ.rev{a g:Y}{n G m i l b d f:Nat}(h:WJ w a u n G m i l b d f O)(A: ↑a<=b)(y:G< ↑a)(z:f< ↑a)(hw:(w:Nat)<= ↑a)(v:Gh g a (sG b O d) O.reverse)(c:u.grownBy g (K b)):WJ w a g n G m i l b d f O.reverse:=by
 refine⟨?_,by rw[mC];exact v,Do h.jt c (λq x e=>by simp only[Value.ownBlock,kI]at x;have:=kH e;omega), λk p r s=> ?_,kV h.size c.size,h.e8.grown c h.e8.size (λj t=>by cases t;omega)⟩
 . rw[mC];exact h.gK.gb c (λe=>by have:=kH e;omega)
 rw[c.block k (lq p h.size) (λe=>by have:=kH e;omega)];exact h.fx k p r s
structure Wn(w u7 u:Y)(n gP:Nat)(O:List Nat)(k:Nat):Prop where
 row:Ab u w 2 1 (sG gP n n) n (iv (LD O k) n)
 fx:∀k,k< ↑u7->k≠gP->u.heap[k]?=u7.heap[k]?
 e8:Ah w w u
theorem Wn.set{w c u:Y}{a x:Nat}(h:Wn w c u n a O k)(d:O.Nodup)(f:O.reverse[k]?=K x):Wn w c (Aa u ⟨a,x,M⟩ k) n a O (k+1):=by refine⟨?_, λk e b=>by rw[lY u _ k _ b];exact h.fx k e b,h.e8.setCell (AD h.row).1 _⟩;have:=(h.row.stored x k).1;rw[Ui (Np d f n)]at this;exact this
theorem Wn.cell{w d u:Y}(h:Wn w d u n b O k){a:Addr}(c:d a=K x)(e:a.block≠b):u a=K x:=by have:=h.fx a.block (hC c) e;unfold World.cell? at*;rw[this];exact c
theorem WX{w d T u:Y}{n G i y f v t e:Nat}{S:List Nat}(p:WJ w d T n G i y f v t e O.reverse)(s:Wn w T u n e O O)(hv:Vs E [] [] [0] S O)(H:∀x∈O,x<n)(U: ↑w<=G)(aj:G< ↑d)(am:e< ↑d)(ah:(w:Nat)<= ↑d)(C:FW d i 0 n E)(D:FW d f 0 n (Bs E n))(ne:i≠G/\f≠G/\e≠G/\i≠e/\f≠e)(Q:∀b a m c,b<n->d ⟨i,b,M⟩=K (Z (K a) m c)->0<m->a.block≠G/\a.block≠e)(R:∀b a m c,b<n->d ⟨f,b,M⟩=K (Z (K a) m c)->a.block≠G/\a.block≠e):GM w u n G i y f v t e E S O:=by
 have ao:=(AD p.ord).1;have fx:∀k,k< ↑d->k∉[G,e]->u.heap[k]?=d.heap[k]?:= λk L r=>by simp only[kY,lG,mS,not_or]at r;rw[s.fx k (lq L p.size) r.2];exact p.fx k L r.1 r.2
 have I:∀(g b:Nat),g∉[G,e]->g< ↑d->u ⟨g,b,M⟩=d ⟨g,b,M⟩:= λg b r ae=>by unfold World.cell?;rw[fx g ae r]
 have X:i< ↑d\/n=0:=by
  by_cases q:n=0
  . exact .inr q
  obtain⟨a,c,z,_⟩:=C 0 oM;exact .inl (hC z)
 have W:f< ↑d\/n=0:=by
  by_cases q:n=0
  . exact .inr q
  obtain⟨a,c,z,_⟩:=D 0 oM;exact .inl (hC z)
 have N:i∉[G,e]:=by simp[ne]
 have P:f∉[G,e]:=by simp[ne]
 have kb:AC u G #[sG i n y,sG f n n,sG v O t,sG e n n,sN] 191:=by have h:=p.gK;rw[mC]at h;unfold AC at*;rw[s.fx G p.gK.lt (Ne.symm ne.2.2.1)];exact h
 refine⟨U,kb,C.jR fx N (λb a m c l j A=>by have:=Q b a m c l j A;simp[this]),D.jR fx P (λb a m c l j _=>by have:=R b a m c l j;simp[this]),hv,?_, λx B=> ?_,s.e8,⟨ne.1,ne.2.1,oM,ne.2.2.1⟩, λb a m c l j A=> ?_, λb a m c l j=> ?_⟩
 . have h:=p.ord;have F:Gh u d (sG v O.reverse t) O.reverse:=h.fx s.fx (λg V=>by simp only[Value.ownBlock,kI]at V;omega);rw[mC]at F;exact Ba F ah
 . have:=s.row.cellAt x (by have:=H x B;omega);rw[M9 _ _ _ (H x B),PQ O x B]at this;exact this
 . rw[I i b N (X.resolve_right oM)]at j;exact(Q b a m c l j A).1
 rw[I f b P (W.resolve_right oM)]at j;exact(R b a m c l j).1
end Go.Proofs.YtmalfecapdmdbaaGreat
