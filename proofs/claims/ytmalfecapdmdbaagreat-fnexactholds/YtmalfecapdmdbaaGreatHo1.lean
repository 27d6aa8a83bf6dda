import Derived.Test.YtmalfecapdmdbaaGreatHo0
import Derived.Lib.SmallJoins
import Derived.Deep.Slices
import Derived.Deep.Cut
import Derived.Deep.CutRange
import Derived.Deep.RegionHeld
import Derived.StillTail
namespace Go.Proofs.YtmalfecapdmdbaaGreat
open Go.ChangeShapes Go.WideShapes Go.ChangeAt Go.RowKit Go.Proofs.Tryz
set_option linter.unusedVariables false
open Go.Value renaming slice → Z,int → Ag,agg → Am,bool → An
open Option renaming some → K,none → M
open Go renaming Value → J,World → Y,Calls → Ai,TypeId → Aj
open Go.RowKit renaming Hid → Ae,Below → Ah
open Go.IntKind renaming i64 → Af
open Go.Obj renaming cells → Ak
open Go.Ending renaming returned → Al
open Go.Proofs.Tryz renaming prog → Ap
open Go.World renaming ownsRow → Ab,alloc → Ac,setCell → Aa
open List renaming flatMap → Ad
set_option maxHeartbeats 4000000
set_option maxRecDepth 100000
variable {b base B L k c f i lo g id:Nat}{p xs:List J}{s v y:J}{fs:List (List (List Int))}{α:Type}{t e:Aj}{q:Prop}{a:Act}{d:Array Bool}{rs:List Nat}{R:Nat->Prop}
structure WH(w u:Y)(tp:Aj)(p r:List J):Prop where
 par:Ab u w tp 4 (Z w 1 1) 1 p
 jd:Ab u w tp 4 (Z (K ⟨(w:Nat)+1,0,M⟩) 1 1) 1 r
 e8:Ah w w u
theorem WH.of(w:Y)(a:Aj)(p r:Array J)(f:p.size=4)(g:r.size=4):
 WH w (Ac (Ac w (Ak p a)) (Ak r a)) a p.toList r.toList:=by
 have b:Ah w w (Ac w (Ak p a)):=(kS _ _).alloc lR _;have c2:Ah (Ac w (Ak p a)).heap.size (Ac w (Ak p a)) (Ac (Ac w (Ak p a)) (Ak r a)):=(kS _ _).alloc lR _;have c:=mj (base:=w) (e:=a) (size:=4) w p 1 lR oX oM;have d:=mj (base:=w) (e:=a) (size:=4) (Ac w (Ak p a)) r 1 sP oX oM;refine⟨Aw c c2 lR,?_,b.trans (c2.mono sP)⟩;simpa using d
theorem WH.a7{w u c:Y}{b:Aj}{r:List J}(h:WH w u b p r)(a:Ah u u c):WH w c b p r:=⟨Aw h.par a lR,Aw h.jd a lR,h.e8.trans (a.mono h.e8.size)⟩
theorem Pl(v v':VF)(f:MF)(w:Y)(y:f.small)(h:DE w v f)(x:DE w v' f):
 Ai Ap 49 #[Am #[v.p,f.gy,v.l,v.c],Am #[v'.p,f.gy,v'.l,v'.c]] w λe A=>e=Al true/\Ah w w A:=by
 have d:=WH.of w 70 #[v.p,f.gy,v.l,v.c] #[v'.p,f.gy,v'.l,v'.c] rfl rfl;have H:Ae (DE w v f/\DE w v' f/\f.small):=⟨h,x,y⟩
 clear h x y;go_enter func49,ntmps49;go_wp2_with fail;refine(FP v.p v'.p f.gw _ (kV H.2.2.1 oM) (H.1.1.a7 d.e8 lR) (H.2.1.1.a7 d.e8 lR)).mono ?_;rintro e B ⟨rfl,s⟩;have a:=d.a7 s;clear s d;obtain⟨m,n,q,r,_⟩:=DF a.par;obtain⟨g,i,j,k,_⟩:=DF a.jd;go_wp2_with fail;refine(FP v.l v'.l f.gG _ (kV H.2.2.2.1 oM) (H.1.2.1.a7 a.e8 lR) (H.2.1.2.1.a7 a.e8 lR)).mono ?_;rintro e C ⟨rfl,t⟩;have b:=a.a7 t;clear t a m n q r g i j k;obtain⟨m,n,q,r,_⟩:=DF b.par;obtain⟨g,i,j,k,_⟩:=DF b.jd;go_wp2_with fail;refine(Ms v.c v'.c f.eC _ H.2.2.2.2 (H.1.2.2.a7 b.e8 lR) (H.2.1.2.2.a7 b.e8 lR)).mono ?_;rintro e D ⟨rfl,u⟩;have z:=b.a7 u;clear u b m n q r g i j k;go_wp2;go_ret;exact⟨rfl,z.e8⟩
theorem N9(s Q:J)(fs:List MF)(w:Y)(hL:fs.length<=1048576)(N:∀f∈fs,f.small)(h:Jy w s fs)(h':Jy w Q fs):
 Ai Ap 26 #[s,Q] w λe w'=>e=Al true/\Ah w w w':=by
 obtain⟨xs,O,I,T⟩:=h;obtain⟨p,P,L,U⟩:=h';have W:xs.length=fs.length:=by rw[<-O];simp
 have X:p.length=fs.length:=by rw[<-P];simp
 have j:Ae (Rd w 4 s fs (Ad Ch xs)/\xs.map Prod.fst=fs/\(∀x∈xs,DE w x.2 x.1)/\(∀f∈fs,f.small)/\xs.length= ↑fs):=⟨I,O,T,N,W⟩
 have q:Ae (Rd w 4 Q fs (Ad Ch p)/\p.map Prod.fst=fs/\(∀x∈p,DE w x.2 x.1)/\(∀f∈fs,f.small)/\p.length= ↑fs):=⟨L,P,U,N,X⟩
 obtain⟨a1,c1,rfl⟩:=I.dk;obtain⟨a2,c2,rfl⟩:=L.dk;clear I O T N W L P U X;generalize ah:fs.length=n at hL j q;clear ah;go_enter func26,ntmps26;go_wp2;go_loopw [5] (λi wr=>∃k:Nat,k<=n/\i=Ag Af k/\Ah w w wr) (λi _=>n-(intOf i).toNat)
 case atStart=>exact⟨0,oM,rfl,kS _ _⟩
 obtain⟨k,hk,rfl,R⟩:=hrel;have a:Ae (Ah w w wr):=R;clear R;by_cases V:k<n
 . obtain⟨⟨f,v⟩,b⟩:∃x,xs[k]?=K x:=⟨_,an (by rw[j.2.2.2.2];exact V)⟩;obtain⟨⟨r,v'⟩,d⟩:∃x,p[k]?=K x:=⟨_,an (by rw[q.2.2.2.2];exact V)⟩;have l:=Bo j.2.1 b;have m:=Bo q.2.1 d;(have aj:r=f:=by rw[l]at m;exact(kH m).symm);subst aj;have H:Ae (DE wr v r/\DE wr v' r/\r.small):=⟨(j.2.2.1 _ (i7 b)).a7 a lR,(q.2.2.1 _ (i7 d)).a7 a lR,j.2.2.2.1 _ (i7 l)⟩
   clear l m;rcases j.1.2 with⟨e0,_⟩|⟨g,o,c,l,t⟩
   . omega
   rcases q.1.2 with⟨e0,_⟩|⟨g',o',c',m,y⟩
   . omega
   simp only[i8,lB]at l m;obtain⟨rfl,rfl⟩:=l;obtain⟨rfl,rfl⟩:=m;have z:=Rd.elem Ay t k _ b 0 _ rfl;have A:=Rd.elem Ay t k _ b 1 _ rfl;have B:=Rd.elem Ay t k _ b 2 _ rfl;have C:=Rd.elem Ay t k _ b 3 _ rfl;have D:=Rd.elem Ay y k _ d 0 _ rfl;have E:=Rd.elem Ay y k _ d 1 _ rfl;have F:=Rd.elem Ay y k _ d 2 _ rfl;have G:=Rd.elem Ay y k _ d 3 _ rfl;rw[<-a.cell (hC z),kJ]at z;rw[<-a.cell (hC A)]at A;rw[<-a.cell (hC B)]at B;rw[<-a.cell (hC C)]at C;rw[<-a.cell (hC D),kJ]at D;rw[<-a.cell (hC E)]at E;rw[<-a.cell (hC F)]at F;rw[<-a.cell (hC G)]at G;clear t y b d;simp only[]at z A B C D E F G;go_wp2_with fail;go_region_with (go_at_call 49;refine(Pl v v' r _ H.2.2 (by exact H.1) (by exact H.2.1)).mono ?_;rintro e u ⟨rfl,S⟩);all_goals
    have ae:Ae (Ah w w u):=a.trans (Bm S a.size);clear S a z A B C D E F G;go_wp2;go_roundw;(case rel=>exact⟨k+1,oM,by go_num,ae⟩);exact oI
 go_wp2;go_ret;exact⟨rfl,a⟩
theorem G8(s F:J)(fs:List (List Int))(w:Y)(V:fs.length<=1048576)(C:∀f∈fs,f.length<=1048576)(h:Gi w s fs)(U:Gi w F fs):
 Ai Ap 24 #[s,F] w λe w'=>e=Al true/\Ah w w w':=by
 obtain⟨xs,D,A,N⟩:=h;obtain⟨m,E,B,O⟩:=U;have Q:xs.length=fs.length:=by rw[<-D];simp
 have R:m.length=fs.length:=by rw[<-E];simp
 have d:Ae (Rd w 1 s fs (Ad BW xs)/\xs.map Prod.fst=fs/\(∀x∈xs,Rd w 1 x.2 x.1 (x.1.flatMap As))/\(∀f∈fs,f.length<=1048576)/\xs.length= ↑fs):=⟨A,D,N,C,Q⟩
 have p:Ae (Rd w 1 F fs (Ad BW m)/\m.map Prod.fst=fs/\(∀x∈m,Rd w 1 x.2 x.1 (x.1.flatMap As))/\(∀f∈fs,f.length<=1048576)/\m.length= ↑fs):=⟨B,E,O,C,R⟩
 obtain⟨a1,c1,rfl⟩:=A.dk;obtain⟨a2,c2,rfl⟩:=B.dk;clear A D N C Q B E O R;generalize W:fs.length=n at V d p;clear W;go_enter func24,ntmps24;go_wp2;go_loopw [5] (λi wr=>∃k:Nat,k<=n/\i=Ag Af k/\Ah w w wr) (λi _=>n-(intOf i).toNat)
 case atStart=>exact⟨0,oM,rfl,kS _ _⟩
 obtain⟨k,hk,rfl,G⟩:=hrel;have a:Ae (Ah w w wr):=G;clear G;by_cases P:k<n
 . obtain⟨⟨f,v⟩,t⟩:∃x,xs[k]?=K x:=⟨_,an (by rw[d.2.2.2.2];exact P)⟩;obtain⟨⟨b,v'⟩,y⟩:∃x,m[k]?=K x:=⟨_,an (by rw[p.2.2.2.2];exact P)⟩;have j:=Bo d.2.1 t;have l:=Bo p.2.1 y;(have X:b=f:=by rw[j]at l;exact(kH l).symm);subst X;have z:Ae (Rd wr 1 v b (Ad As b)/\Rd wr 1 v' b (Ad As b)/\b.length<=140737488355328):=⟨(d.2.2.1 _ (i7 t)).a7 a lR,(p.2.2.1 _ (i7 y)).a7 a lR,kV (d.2.2.2.1 _ (i7 j)) oM⟩
   clear j l;rcases d.1.2 with⟨T,_⟩|⟨g,o,c,j,I⟩
   . omega
   rcases p.1.2 with⟨T,_⟩|⟨g',o',c',l,L⟩
   . omega
   simp only[i8,lB]at j l;obtain⟨rfl,rfl⟩:=j;obtain⟨rfl,rfl⟩:=l;have q:=Rd.elem A5 I k _ t 0 _ rfl;have r:=Rd.elem A5 L k _ y 0 _ rfl;rw[<-a.cell (hC q)]at q;rw[<-a.cell (hC r)]at r;rw[lN,kJ]at q r;clear I L t y;simp only[]at q r;go_wp2_with fail;go_region_with (go_at_call 47;refine(FP v v' b _ z.2.2 (by exact z.1) (by exact z.2.1)).mono ?_;rintro e u ⟨rfl,H⟩);all_goals
    have S:Ae (Ah w w u):=a.trans (Bm H a.size);clear H a q r;go_wp2;go_roundw;(case rel=>exact⟨k+1,oM,by go_num,S⟩);exact oI
 go_wp2;go_ret;exact⟨rfl,a⟩
theorem K8(v v':VP)(p:MP)(w:Y)(d:p.small)(h:Da w v p)(x:Da w v' p):
 Ai Ap 10 #[Am #[v.r,v.k,v.f,v.t],Am #[v'.r,v'.k,v'.f,v'.t]] w λe D=>e=Al true/\Ah w w D:=by
 have u:=WH.of w 36 #[v.r,v.k,v.f,v.t] #[v'.r,v'.k,v'.f,v'.t] rfl rfl;go_enter func10,ntmps10;go_wp2_with fail;refine(G8 v.r v'.r p.bO _ d.bO d.region (h.bO.a7 u.e8 lR) (x.bO.a7 u.e8 lR)).mono ?_;rintro e E ⟨rfl,y⟩;have a:=u.a7 y;clear y u;obtain⟨m,n,q,s,_⟩:=DF a.par;obtain⟨g,i,j,l,_⟩:=DF a.jd;go_wp2_with fail;refine(Mr v.k v'.k p.ej _ d.ej (h.ej.a7 a.e8 lR) (x.ej.a7 a.e8 lR)).mono ?_;rintro e F ⟨rfl,z⟩;have b:=a.a7 z;clear z a m n q s g i j l;obtain⟨m,n,q,s,_⟩:=DF b.par;obtain⟨g,i,j,l,_⟩:=DF b.jd;go_wp2_with fail;refine(N9 v.f v'.f p.bW _ d.bW d.func (h.bW.a7 b.e8 lR) (x.bW.a7 b.e8 lR)).mono ?_;rintro e G ⟨rfl,A⟩;have c:=b.a7 A;clear A b m n q s g i j l;obtain⟨m,n,q,s,_⟩:=DF c.par;obtain⟨g,i,j,l,_⟩:=DF c.jd;go_wp2_with fail;refine(N7 v.t v'.t p.eD _ d.eD (h.eD.a7 c.e8 lR) (x.eD.a7 c.e8 lR)).mono ?_;rintro e H ⟨rfl,B⟩;have C:=c.a7 B;clear B c m n q s g i j l;go_wp2;go_ret;exact⟨rfl,C.e8⟩
def Kj(left n:Int):Int:=if left-n<0 then -1 else left-n
theorem Ca(a:Option Addr)(n c:Nat)(left:Int)(w:Y)(h:n<=9223372036854775807)(f:0<=left)(g:left<=1048576):
 Ai Ap 28 #[Z a n c,Ag Af left] w λe d=>e=Al (Ag Af (Kj left n))/\d=w:=by
 by_cases b:left-n<0
 . have e:Kj left n=-1:=kZ b;rw[e];go_enter func28,ntmps28;go_wp2;go_ret;exact⟨rfl,rfl⟩
 have e:Kj left n=left-n:=kP b;rw[e];go_enter func28,ntmps28;go_wp2;go_ret;exact⟨rfl,rfl⟩
theorem Jq(a:Option Addr)(n c:Nat)(left:Int)(w:Y)(h:n<=9223372036854775807)(f:0<=left)(g:left<=1048576):
 Ai Ap 51 #[Z a n c,Ag Af left] w λe d=>e=Al (Ag Af (Kj left n))/\d=w:=by
 by_cases b:left-n<0
 . have e:Kj left n=-1:=kZ b;rw[e];go_enter func51,ntmps51;go_wp2;go_ret;exact⟨rfl,rfl⟩
 have e:Kj left n=left-n:=kP b;rw[e];go_enter func51,ntmps51;go_wp2;go_ret;exact⟨rfl,rfl⟩
theorem Oq(a:Option Addr)(n c:Nat)(left:Int)(w:Y)(h:n<=9223372036854775807)(f:0<=left)(g:left<=1048576):
 Ai Ap 13 #[Z a n c,Ag Af left] w λe d=>e=Al (Ag Af (Kj left n))/\d=w:=by
 by_cases b:left-n<0
 . have e:Kj left n=-1:=kZ b;rw[e];go_enter func13,ntmps13;go_wp2;go_ret;exact⟨rfl,rfl⟩
 have e:Kj left n=left-n:=kP b;rw[e];go_enter func13,ntmps13;go_wp2;go_ret;exact⟨rfl,rfl⟩
theorem Qe(a:Option Addr)(n c:Nat)(left:Int)(w:Y)(h:n<=9223372036854775807)(f:0<=left)(g:left<=1048576):
 Ai Ap 15 #[Z a n c,Ag Af left] w λe d=>e=Al (Ag Af (Kj left n))/\d=w:=by
 by_cases b:left-n<0
 . have e:Kj left n=-1:=kZ b;rw[e];go_enter func15,ntmps15;go_wp2;go_ret;exact⟨rfl,rfl⟩
 have e:Kj left n=left-n:=kP b;rw[e];go_enter func15,ntmps15;go_wp2;go_ret;exact⟨rfl,rfl⟩
theorem Iv(s:J)(fs:List (List Int))(left:Int)(w:Y)(T:fs.length<=9223372036854775807)(N:∀f∈fs,f.length<=9223372036854775807)(h:Gi w s fs)(h0:0<=left)(h1:left<=1048576):
 Ai Ap 12 #[s,Ag Af left] w λe w'=>∃r:Int,e=Al r/\(r=-1\/0<=r/\r<=left/\(fs:Int)<=left/\∀f∈fs,(f:Int)<=left)/\w'=w:=by
 obtain⟨xs,B,z,I⟩:=h;have O:xs.length=fs.length:=by rw[<-B];simp
 have b:Ae (Rd w 1 s fs (Ad BW xs)/\xs.map Prod.fst=fs/\(∀x∈xs,Rd w 1 x.2 x.1 (x.1.flatMap As))/\(∀f∈fs,f.length<=9223372036854775807)/\xs.length= ↑fs):=⟨z,B,I,N,O⟩
 obtain⟨a1,c1,rfl⟩:=z.dk;clear z B I N O;generalize G:fs.length=n at T b⊢;have S:Ae (↑fs=n):=G
 clear G;by_cases hb:left-n<0
 . go_enter func12,ntmps12;go_wp2;go_ret;exact⟨-1,rfl,.inl rfl,rfl⟩
 go_enter func12,ntmps12;go_wp2;go_loopw [1,5] (λl i wr=>∃(k:Nat) (q:Int),k<=n/\l=Ag Af q/\i=Ag Af k/\0<=q/\q<=left/\Ae (∀f∈fs.take k,(f:Int)<=left)/\wr=w) (λ_ i _=>n-(intOf i).toNat)
 case atStart=>exact⟨0,left-n,oM,rfl,rfl,oM,oM,(λf U=>by simp at U),rfl⟩
 obtain⟨k,q,hk,rfl,rfl,C,q1,p,rfl⟩:=hrel;by_cases X:k<n
 . obtain⟨⟨f,v⟩,m⟩:∃x,xs[k]?=K x:=⟨_,an (by rw[b.2.2.2.2];exact X)⟩;have j:=Bo b.2.1 m;have A:=b.2.2.1 _ (i7 m);have t:=b.2.2.2.1 _ (i7 j);simp only[]at A t j;obtain⟨D,E,rfl⟩:=A.dk;rcases b.1.2 with⟨e0,_⟩|⟨g,o,c,F,H⟩
   . omega
   simp only[i8,lB]at F;obtain⟨rfl,rfl⟩:=F;have P:=Rd.elem A5 H k _ m 0 _ rfl;rw[lN,kJ]at P;simp only[]at P;have R:Ae (fs[k]?=K f):=j;clear H m A j;by_cases L:q-↑f<0
   . have d:Kj q f=-1:=kZ L;go_wp2_with fail;refine(Ca D f E q wr t C oM).mono ?_;rw[d];rintro e u ⟨rfl,rfl⟩;clear d;go_wp2;go_ret;exact⟨-1,rfl,.inl rfl,rfl⟩
   have d:Kj q f=q-f.length:=kP L;go_wp2_with fail;refine(Ca D f E q wr t C oM).mono ?_;rw[d];rintro e u ⟨rfl,rfl⟩;clear d;go_wp2;go_roundw;case rel=>
    refine⟨k+1,q-↑f,oM,rfl,by go_num,oM,oM,?_,by trivial⟩
    intro y a;obtain⟨ae,V⟩:=i6.1 R;rw[kU ae,V]at a;rcases kO.1 a with a|a
    . exact p.o y a
    simp only[ld]at a;subst a;omega
   case measure=>exact oI
 have W:k=n:=oM;subst W;have Q:Ae (∀f∈fs,(f:Int)<=left):=by have:=p.o;rw[<-S,List.take_length]at this;exact this
 clear p;go_wp2;go_ret;exact⟨q,rfl,.inr ⟨C,q1,oM,Q⟩,rfl⟩
def MF.fits(f:MF):Prop:=f.gw.length<=9223372036854775807/\f.gG.length<=9223372036854775807/\f.eC.length<=9223372036854775807
theorem RT(v:VF)(f:MF)(left:Int)(w:Y)(D:f.fits)(h:DE w v f)(q:0<=left)(s:left<=1048576):
 Ai Ap 29 #[Am #[v.p,f.gy,v.l,v.c],Ag Af left] w λe E=>∃r:Int,e=Al r/\(r=-1\/0<=r/\r<=left/\f.small)/\Ah w w E:=by
 obtain⟨j,c1,x⟩:=h.1.dk;obtain⟨n,c2,y⟩:=h.2.1.dk;obtain⟨t,c3,z⟩:=h.2.2.dk;rw[x,y,z];clear x y z h;have k:Ah w w (Ac w (Ak #[Z j f.gw c1,f.gy,Z n f.gG c2,Z t f.eC c3] 66)):=(kS _ _).alloc lR _;obtain⟨f1,f2,f3⟩:=D;unfold MF.small;generalize f.gw.length=a at f1 k;generalize f.gG.length=b at f2 k;generalize f.eC.length=g at f3 k;have m:Ae _:=k;clear k;by_cases A:left-a<0
 . have d:Kj left a=-1:=kZ A;go_enter func29,ntmps29;go_wp2_with fail;refine(Ca j a c1 left _ f1 q s).mono ?_;rw[d];rintro e u ⟨rfl,rfl⟩;clear d;go_wp2;go_ret;exact⟨-1,rfl,.inl rfl,m⟩
 have d:Kj left a=left-a:=kP A;by_cases B:left-a-b<0
 . have i:Kj (left-a) b=-1:=kZ B;go_enter func29,ntmps29;go_wp2_with fail;refine(Ca j a c1 left _ f1 q s).mono ?_;rw[d];rintro e u ⟨rfl,rfl⟩;go_wp2_with fail;refine(Ca n b c2 (left-a) _ f2 oM oM).mono ?_;rw[i];rintro e u ⟨rfl,rfl⟩;clear d i;go_wp2;go_ret;exact⟨-1,rfl,.inl rfl,m⟩
 have i:Kj (left-a) b=left-a-b:=kP B;by_cases C:left-a-b-g<0
 . have z3:Kj (left-a-b) g=-1:=kZ C;go_enter func29,ntmps29;go_wp2_with fail;refine(Ca j a c1 left _ f1 q s).mono ?_;rw[d];rintro e u ⟨rfl,rfl⟩;go_wp2_with fail;refine(Ca n b c2 (left-a) _ f2 oM oM).mono ?_;rw[i];rintro e u ⟨rfl,rfl⟩;go_wp2_with fail;refine(Jq t g c3 (left-a-b) _ f3 oM oM).mono ?_;rw[z3];rintro e u ⟨rfl,rfl⟩;clear d i z3;go_wp2;go_ret;exact⟨-1,rfl,.inl rfl,m⟩
 have z3:Kj (left-a-b) g=left-a-b-g:=kP C;go_enter func29,ntmps29;go_wp2_with fail;refine(Ca j a c1 left _ f1 q s).mono ?_;rw[d];rintro e u ⟨rfl,rfl⟩;go_wp2_with fail;refine(Ca n b c2 (left-a) _ f2 oM oM).mono ?_;rw[i];rintro e u ⟨rfl,rfl⟩;go_wp2_with fail;refine(Jq t g c3 (left-a-b) _ f3 oM oM).mono ?_;rw[z3];rintro e u ⟨rfl,rfl⟩;clear d i z3;go_wp2;go_ret;exact⟨left-a-b-g,rfl,.inr ⟨oM,oM,oM,oM,oM⟩,m⟩
theorem Qf(s:J)(fs:List MF)(left:Int)(w:Y)(hL:fs.length<=9223372036854775807)(R:∀f∈fs,f.fits)(h:Jy w s fs)(h0:0<=left)(h1:left<=1048576):
 Ai Ap 14 #[s,Ag Af left] w λe w'=>∃r:Int,e=Al r/\(r=-1\/0<=r/\r<=left/\(fs:Int)<=left/\∀f∈fs,f.small)/\Ah w w w':=by
 obtain⟨xs,H,F,Q⟩:=h;have T:xs.length=fs.length:=by rw[<-H];simp
 have j:Ae (Rd w 4 s fs (Ad Ch xs)/\xs.map Prod.fst=fs/\(∀x∈xs,DE w x.2 x.1)/\(∀f∈fs,f.fits)/\xs.length= ↑fs):=⟨F,H,Q,R,T⟩
 obtain⟨a1,c1,rfl⟩:=F.dk;clear F H Q R T;generalize N:fs.length=n at hL j⊢;have W:Ae (↑fs=n):=N
 clear N;by_cases hb:left-n<0
 . go_enter func14,ntmps14;go_wp2;go_ret;exact⟨-1,rfl,.inl rfl,kS _ _⟩
 go_enter func14,ntmps14;go_wp2;go_loopw [1,5] (λl i wr=>∃(k:Nat) (q:Int),k<=n/\l=Ag Af q/\i=Ag Af k/\0<=q/\q<=left/\Ae (∀f∈fs.take k,f.small)/\Ah w w wr) (λ_ i _=>n-(intOf i).toNat)
 case atStart=>exact⟨0,left-n,oM,rfl,rfl,oM,oM,(λf hf=>by simp at hf),kS _ _⟩
 obtain⟨k,q,hk,rfl,rfl,U,q1,D,O⟩:=hrel;have a:Ae (Ah w w wr):=O;clear O;by_cases aj:k<n
 . obtain⟨⟨f,v⟩,b⟩:∃x,xs[k]?=K x:=⟨_,an (by rw[j.2.2.2.2];exact aj)⟩;have p:=Bo j.2.1 b;have G:=j.2.2.1 _ (i7 b);have E:=j.2.2.2.1 _ (i7 p);simp only[]at G E p;rcases j.1.2 with⟨e0,_⟩|⟨g,o,c,L,m⟩
   . omega
   simp only[i8,lB]at L;obtain⟨rfl,rfl⟩:=L;have t:=Rd.elem Ay m k _ b 0 _ rfl;have z:=Rd.elem Ay m k _ b 1 _ rfl;have A:=Rd.elem Ay m k _ b 2 _ rfl;have B:=Rd.elem Ay m k _ b 3 _ rfl;rw[<-a.cell (hC t),kJ]at t;rw[<-a.cell (hC z)]at z;rw[<-a.cell (hC A)]at A;rw[<-a.cell (hC B)]at B;simp only[]at t z A B;have C:Ae (fs[k]?=K f/\DE wr v f/\f.fits):=⟨p,G.a7 a lR,E⟩
   clear m b G p E;go_wp2_with fail;refine(RT v f q wr C.2.2 C.2.1 U oM).mono ?_;rintro e u ⟨r,rfl,hr,P⟩;have I:Ae (Ah w w u):=a.trans (P.mono a.size);clear P a t z A B;rcases hr with rfl|⟨r0,r1,S⟩
   . go_wp2;go_ret;exact⟨-1,rfl,.inl rfl,I⟩
   have X:Ae f.small:=S;clear S;go_wp2;go_roundw;case rel=>
    refine⟨k+1,r,oM,rfl,by go_num,oM,oM,?_,I⟩;intro y d;obtain⟨am,ae⟩:=i6.1 C.1;rw[kU am,ae]at d;rcases kO.1 d with d|d
    . exact D.o y d
    simp only[ld]at d;subst d;exact X
   case measure=>exact oI
 have ah:k=n:=oM;subst ah;have V:Ae (∀f∈fs,f.small):=by have:=D.o;rw[<-W,List.take_length]at this;exact this
 clear D;go_wp2;go_ret;exact⟨q,rfl,.inr ⟨U,q1,oM,V⟩,a⟩
structure MP.fits(p:MP):Prop where
 bO:p.bO.length<=9223372036854775807
 region:∀r∈p.bO,r.length<=9223372036854775807
 ej:p.ej.length<=9223372036854775807
 bW:p.bW.length<=9223372036854775807
 func:∀f∈p.bW,f.fits
 eD:p.eD.length<=9223372036854775807
theorem Nx{left:Int}{n:Nat}(a:0<=left)(b:left<=1048576):Kj left n=-1\/0<=Kj left n/\Kj left n<=left/\(n:Int)<=left:=by
 unfold Kj;by_cases h:left-n<0
 . rw[kZ h];exact .inl rfl
 rw[kP h];exact .inr ⟨oM,oM,oM⟩
structure Wl(w u:Y)(tp:Aj)(p:List J):Prop where
 par:Ab u w tp 4 (Z w 1 1) 1 p
 e8:Ah w w u
theorem Wl.of(w:Y)(a:Aj)(p:Array J)(b:p.size=4):Wl w (Ac w (Ak p a)) a p.toList:=⟨mj (base:=w) (e:=a) (size:=4) w p 1 lR oX oM,(kS _ _).alloc lR _⟩
theorem Wl.a7{w u c:Y}{b:Aj}(h:Wl w u b p)(a:Ah u u c):Wl w c b p:=⟨Aw h.par a lR,h.e8.trans (a.mono h.e8.size)⟩
theorem MQ(v:VP)(p:MP)(left:Int)(w:Y)(g:p.fits)(h:Da w v p)(N:0<=left)(O:left<=1048576):
 Ai Ap 4 #[Am #[v.r,v.k,v.f,v.t],Ag Af left] w λe T=>∃r:Int,e=Al r/\(r=-1\/0<=r/\r<=left/\p.small)/\Ah w w T:=by
 obtain⟨j,c2,q⟩:=h.ej.dk;obtain⟨l,c4,s⟩:=h.eD.dk;obtain⟨H,vk,G,vt⟩:=v;simp only[]at q s;subst q;subst s;have a:=Wl.of w 27 #[H,Z j p.ej c2,G,Z l p.eD c4] rfl;have b:Ae p.fits:=g;clear g;go_enter func4,ntmps4;go_wp2_with fail;refine(Iv H p.bO left _ b.bO b.region (h.bO.a7 a.e8 lR) N O).mono ?_;rintro e u1 ⟨A,rfl,i,rfl⟩;rcases i with rfl|⟨B,U,V,C⟩
 . go_wp2;go_ret;exact⟨-1,rfl,.inl rfl,a.e8⟩
 have I:Ae (∀f∈p.bO,(f:Int)<=left):=C;clear C;obtain⟨u,x,y,z,_⟩:=DF a.par;go_wp2_with fail;refine(Oq j p.ej c2 A _ b.ej B oM).mono ?_;rintro e u2 ⟨rfl,rfl⟩;have c:=Nx (n:=p.ej) B oM;generalize Kj A p.ej=P at c;rcases c with rfl|⟨Q,W,X⟩
 . go_wp2;go_ret;exact⟨-1,rfl,.inl rfl,a.e8⟩
 go_wp2_with fail;refine(Qf G p.bW P _ b.bW b.func (h.bW.a7 a.e8 lR) Q oM).mono ?_;rintro e u3 ⟨D,rfl,i,m⟩;have d:=a.a7 m;clear m u x y z;rcases i with rfl|⟨E,ae,ah,F⟩
 . go_wp2;go_ret;exact⟨-1,rfl,.inl rfl,d.e8⟩
 have L:Ae (∀f∈p.bW,f.small):=F;clear F;obtain⟨u,x,y,z,_⟩:=DF d.par;go_wp2_with fail;refine(Qe l p.eD c4 D _ b.eD E oM).mono ?_;rintro e u4 ⟨rfl,rfl⟩;have c:=Nx (n:=p.eD) E oM;generalize Kj D p.eD=R at c;rcases c with rfl|⟨S,aj,am⟩
 . go_wp2;go_ret;exact⟨-1,rfl,.inl rfl,d.e8⟩
 go_wp2;go_ret;refine⟨R,rfl,.inr ⟨S,oM,⟨oM, λf g=> ?_,oM,oM,L,oM⟩⟩,d.e8⟩;have:=I.o f g;omega
def B2(x:List (List Int)×J):List J:=[x.2]
theorem BH(x:List (List Int)×J):(B2 x).length=1:=rfl
theorem W9:(Tryz.prog.info? 22).map (λi=>(i.zero,i.size,i.bytes))=K (K (Z M 0 0),1,24):=kR
def OH(w:Y)(s:J)(S:List (List (List Int))):Prop:=∃xs:List (List (List Int)×J),xs.map Prod.fst=S/\Rd w 1 s S (Ad B2 xs)/\∀x∈xs,Gi w x.2 x.1
def SF(w:Y)(base:Nat)(s:J)(S:List (List (List Int))):Prop:=∃xs:List (List (List Int)×J),xs.map Prod.fst=S/\Ab w base 22 1 s S (Ad B2 xs)/\∀x∈xs,Fk w base x.2 x.1
theorem SF.rd{w:Y}{S:List (List (List Int))}(h:SF w base s S):OH w s S:=by obtain⟨xs,a,b,c⟩:=h;exact⟨xs,a,Rd.gM b, λx d=>(c x d).rd⟩
theorem OH.a7{w c:Y}{S:List (List (List Int))}(h:OH w s S)(b:Ah B w c)(a: ↑w<=B):OH c s S:=by obtain⟨xs,d,e,f⟩:=h;exact⟨xs,d,e.a7 b a, λx g=>(f x g).a7 b a⟩
theorem Gi.dk{w:Y}{S:List (List Int)}(h:Gi w s S):∃a c,s=Z a S c:=by obtain⟨_,_,b,_⟩:=h;exact b.dk
theorem OH.dk{w:Y}{S:List (List (List Int))}(h:OH w s S):∃a c,s=Z a S c:=by obtain⟨_,_,b,_⟩:=h;exact b.dk
theorem LT(s:J)(fs:List (List (List Int)))(left:Int)(w:Y)(R:fs.length<=9223372036854775807)(G:∀f∈fs,f.length<=9223372036854775807/\∀g∈f,g.length<=9223372036854775807)(h:OH w s fs)(h0:0<=left)(h1:left<=1048576):
 Ai Ap 5 #[s,Ag Af left] w λe w'=>∃r:Int,e=Al r/\(r=-1\/0<=r/\r<=left/\(fs:Int)<=left/\∀f∈fs,(f:Int)<=left/\∀g∈f,(g:Int)<=left)/\w'=w:=by
 obtain⟨xs,B,z,F⟩:=h;have H:xs.length=fs.length:=by rw[<-B];simp
 have b:Ae (Rd w 1 s fs (Ad B2 xs)/\xs.map Prod.fst=fs/\(∀x∈xs,Gi w x.2 x.1)/\(∀f∈fs,f.length<=9223372036854775807/\∀g∈f,g.length<=9223372036854775807)/\xs.length= ↑fs):=⟨z,B,F,G,H⟩
 obtain⟨a1,c1,rfl⟩:=z.dk;clear z B F G H;generalize D:fs.length=n at R b⊢;have P:Ae (↑fs=n):=D
 clear D;by_cases hb:left-n<0
 . go_enter func5,ntmps5;go_wp2;go_ret;exact⟨-1,rfl,.inl rfl,rfl⟩
 go_enter func5,ntmps5;go_wp2;go_loopw [1,5] (λl i wr=>∃(k:Nat) (q:Int),k<=n/\l=Ag Af q/\i=Ag Af k/\0<=q/\q<=left/\Ae (∀f∈fs.take k,(f:Int)<=left/\∀g∈f,(g:Int)<=left)/\wr=w) (λ_ i _=>n-(intOf i).toNat)
 case atStart=>exact⟨0,left-n,oM,rfl,rfl,oM,oM,(λf S=>by simp at S),rfl⟩
 obtain⟨k,q,hk,rfl,rfl,L,q1,j,rfl⟩:=hrel;by_cases W:k<n
 . obtain⟨⟨f,v⟩,t⟩:∃x,xs[k]?=K x:=⟨_,an (by rw[b.2.2.2.2];exact W)⟩;have m:=Bo b.2.1 t;have A:=b.2.2.1 _ (i7 t);have p:=b.2.2.2.1 _ (i7 m);simp only[]at A p m;rcases b.1.2 with⟨e0,_⟩|⟨g,o,c,C,E⟩
   . omega
   simp only[i8,lB]at C;obtain⟨rfl,rfl⟩:=C;have I:=Rd.elem BH E k _ t 0 _ rfl;rw[lN,kJ]at I;simp only[]at I;have d:Ae (fs[k]?=K f/\Gi wr v f/\f.length<=9223372036854775807/\∀g∈f,g.length<=9223372036854775807):=⟨m,A,p.1,p.2⟩
   clear E t A m p;go_wp2_with fail;refine(Iv v f q wr d.2.2.1 d.2.2.2 d.2.1 L oM).mono ?_;rintro e u ⟨r,rfl,hr,rfl⟩;rcases hr with rfl|⟨r0,r1,r2,N⟩
   . go_wp2;go_ret;exact⟨-1,rfl,.inl rfl,rfl⟩
   have ae:¬r<0:=oM;have Q:Ae (∀f∈fs.take (k+1),(f:Int)<=left/\∀g∈f,(g:Int)<=left):=by
    intro y a;obtain⟨X,T⟩:=i6.1 d.1;rw[kU X,T]at a;rcases kO.1 a with a|a
    . exact j.o y a
    simp only[ld]at a;subst a;exact⟨oM, λg U=>by have:=N g U;omega⟩
   clear r2 N j d;go_wp2;go_roundw;(case rel=>exact⟨k+1,r,oM,rfl,by go_num,oM,oM,Q,by trivial⟩);exact oI
 have V:k=n:=oM;subst V;have O:Ae (∀f∈fs,(f:Int)<=left/\∀g∈f,(g:Int)<=left):=by have:=j.o;rw[<-P,List.take_length]at this;exact this
 clear j;go_wp2;go_ret;exact⟨q,rfl,.inr ⟨L,q1,oM,O⟩,rfl⟩
theorem Kt(s E:J)(fs:List (List (List Int)))(w:Y)(V:fs.length<=1048576)(P:∀f∈fs,f.length<=1048576/\∀g∈f,g.length<=1048576)(h:OH w s fs)(U:OH w E fs):
 Ai Ap 11 #[s,E] w λe w'=>e=Al true/\Ah w w w':=by
 obtain⟨xs,C,A,L⟩:=h;obtain⟨m,D,B,N⟩:=U;have Q:xs.length=fs.length:=by rw[<-C];simp
 have R:m.length=fs.length:=by rw[<-D];simp
 have b:Ae (Rd w 1 s fs (Ad B2 xs)/\xs.map Prod.fst=fs/\(∀x∈xs,Gi w x.2 x.1)/\(∀f∈fs,f.length<=1048576/\∀g∈f,g.length<=1048576)/\xs.length= ↑fs):=⟨A,C,L,P,Q⟩
 have p:Ae (Rd w 1 E fs (Ad B2 m)/\m.map Prod.fst=fs/\(∀x∈m,Gi w x.2 x.1)/\m.length= ↑fs):=⟨B,D,N,R⟩
 obtain⟨a1,c1,rfl⟩:=A.dk;obtain⟨a2,c2,rfl⟩:=B.dk;clear A C L P Q B D N R;generalize W:fs.length=n at V b p;clear W;go_enter func11,ntmps11;go_wp2;go_loopw [5] (λi wr=>∃k:Nat,k<=n/\i=Ag Af k/\Ah w w wr) (λi _=>n-(intOf i).toNat)
 case atStart=>exact⟨0,oM,rfl,kS _ _⟩
 obtain⟨k,hk,rfl,F⟩:=hrel;have a:Ae (Ah w w wr):=F;clear F;by_cases O:k<n
 . obtain⟨⟨f,v⟩,y⟩:∃x,xs[k]?=K x:=⟨_,an (by rw[b.2.2.2.2];exact O)⟩;obtain⟨⟨l,v'⟩,z⟩:∃x,m[k]?=K x:=⟨_,an (by rw[p.2.2.2];exact O)⟩;have d:=Bo b.2.1 y;have j:=Bo p.2.1 z;(have X:l=f:=by rw[d]at j;exact(kH j).symm);subst X;have t:Ae (Gi wr v l/\Gi wr v' l/\l.length<=1048576/\∀g∈l,g.length<=1048576):=⟨(b.2.2.1 _ (i7 y)).a7 a lR,(p.2.2.1 _ (i7 z)).a7 a lR,b.2.2.2.1 _ (i7 d)⟩
   clear d j;rcases b.1.2 with⟨T,_⟩|⟨g,o,c,d,H⟩
   . omega
   rcases p.1.2 with⟨T,_⟩|⟨g',o',c',j,I⟩
   . omega
   simp only[i8,lB]at d j;obtain⟨rfl,rfl⟩:=d;obtain⟨rfl,rfl⟩:=j;have q:=Rd.elem BH H k _ y 0 _ rfl;have r:=Rd.elem BH I k _ z 0 _ rfl;rw[<-a.cell (hC q)]at q;rw[<-a.cell (hC r)]at r;rw[lN,kJ]at q r;clear H I y z;simp only[]at q r;go_wp2_with fail;go_region_with (go_at_call 24;refine(G8 v v' l _ t.2.2.1 t.2.2.2 (by exact t.1.a7 (Az _ _ _) lR) (by exact t.2.1.a7 (Az _ _ _) lR)).mono ?_;rintro e u ⟨rfl,G⟩);all_goals
    have S:Ae (Ah w w u):=a.trans (Bm G a.size);clear G a q r;go_wp2;go_roundw;(case rel=>exact⟨k+1,oM,by go_num,S⟩);exact oI
 go_wp2;go_ret;exact⟨rfl,a⟩
structure WN(w wr:Y)(fs:List (List (List Int)))(L k:Nat)(ys:List (List (List Int)×J)):Prop where
 fst:ys.map Prod.fst=fs.take k
 len: ↑ys=k
 row:Ab wr w 22 1 (Z w L L) L (Hk B2 [Z M 0 0] ys L)
 j8:∀y∈ys,Fk wr ((w:Nat)+1) y.2 y.1
 e8:Ah w w wr
 ik:(w:Nat)+1<= ↑wr
theorem WN.places{w wr:Y}{c:List (List (List Int)×J)}(h:WN w wr fs L k c)(f:k<L){u:Y}(e:Ah wr wr u):
 u ⟨w,k,M⟩=K (Z M 0 0)/\u.frozen? ⟨w,k,M⟩=false:=by
 have b:=Aw h.row e lR;rw[Dw B2 _ c k L f h.len]at b;have d:(Ad B2 c).length=k:=by rw[AE B2 1 BH,h.len,lN]
 have a:=b.cellAt k oM;rw[kT oM,d]at a;rw[mU]at a;exact⟨a,b.frozenAt _⟩
theorem WN.next{w wr:Y}{b:List (List (List Int)×J)}(h:WN w wr fs L k b)(j:k<L){u:Y}(c:Ah wr wr u){f:List (List Int)}(i:fs[k]?=K f)(l:Fk u wr v f):
 WN w (Aa u ⟨w,k,M⟩ v) fs L (k+1) (b++[(f,v)]):=by
 have d:=Aw h.row c lR;rw[Dw B2 _ b k L j h.len]at d;have g:(Ad B2 b).length=k:=by rw[AE B2 1 BH,h.len,lN]
 have e:=(d.stored k v).1;rw[UN _ _ _ _ k g]at e;refine⟨Lg h.fst i v,by simp[h.len],?_,?_,?_,?_⟩
 . rw[IK B2 _ b k L (f,v) h.len];exact e
 . intro y a;have m:Fk u ((w:Nat)+1) y.2 y.1:=by
    rcases kO.1 a with a|a
    . exact(h.j8 y a).a7 c lR
    simp only[ld]at a;subst a;exact l.base h.ik
   exact m.below sP _
 . exact(h.e8.trans (c.mono (by have:=h.ik;omega))).setCell lR _
 have:=c.size;have:=h.ik;simp;omega
theorem Fy(s:J)(fs:List (List (List Int)))(w:Y)(X:fs.length<=1048576)(R:∀f∈fs,f.length<=1048576/\∀g∈f,g.length<=1048576)(h:OH w s fs):
 Ai Ap 8 #[s] w λe U=>∃a c,e=Al (Z a fs c)/\SF U w (Z a fs c) fs/\Ah w w U:=by
 obtain⟨d,hi,ah,aj,am⟩:=lS W9;obtain⟨xs,z,t,H⟩:=h;have T:xs.length=fs.length:=by rw[<-z];simp
 have j:Ae (Rd w 1 s fs (Ad B2 xs)/\xs.map Prod.fst=fs/\(∀x∈xs,Gi w x.2 x.1)/\(∀f∈fs,f.length<=1048576/\∀g∈f,g.length<=1048576)/\xs.length= ↑fs):=⟨t,z,H,R,T⟩
 obtain⟨a1,c1,rfl⟩:=t.dk;clear t z H R T;generalize F:fs.length=L at X j;have C:Ae (↑fs=L):=F
 clear F;go_enter func8,ntmps8;go_wp2_with (at_make;refine l8 _ rfl _ _ 28 rfl w 22 d (Z M 0 0) 1 underlying28 hi ah aj Af Af _ _ L rfl rfl rfl rfl (by rw[am];omega) oX lR ?_;intro V m I);rw[IL B2 [Z M 0 0] L (Z M 0 0) 1 rfl rfl oM]at m;have E:Ah w w V:=(kS _ _).grown I lR (λk N=>by cases N);have b:WN w V fs L 0 []:=⟨sP,rfl,m,(λy A=>by cases A),E,RF m⟩;clear I m E;go_loopw [4] (λi wr=>∃k:Nat,k<=L/\i=Ag Af k/\∃B,WN w wr fs L k B) (λi _=>L-(intOf i).toNat)
 case atStart=>exact⟨0,oM,rfl,_,b⟩
 clear b;obtain⟨k,N,rfl,B,b⟩:=hrel;by_cases r:k<L
 . obtain⟨x,n⟩:∃x,xs[k]?=K x:=⟨_,an (by rw[j.2.2.2.2];exact r)⟩;have q:=Bo j.2.1 n;have Q:=j.2.2.1 x (i7 n);have S:=j.2.2.2.1 x.1 (i7 q);rcases j.1.2 with⟨e0,_⟩|⟨g,o,c,D,G⟩
   . omega
   simp only[i8,lB]at D;obtain⟨rfl,rfl⟩:=D;have d:=Rd.elem BH G k x n 0 _ rfl;rw[<-b.e8.cell (hC d)]at d;rw[lN,kJ]at d;obtain⟨f,v⟩:=x;have l:Ae (fs[k]?=K f/\Gi wr v f/\f.length<=1048576/\∀g∈f,g.length<=1048576):=⟨q,Q.a7 b.e8 lR,S⟩
   clear q Q S n G;simp only[]at d;go_wp2_with fail;refine(Iw v f wr l.2.2.1 l.2.2.2 l.2.1).mono ?_;rintro e u ⟨b1,d1,rfl,O,p⟩;obtain⟨q0,f0⟩:=b.places r p;have W:Ae _:=b.next r p l.1 O;clear O p d b l;go_wp2;go_roundw;(case rel=>exact⟨k+1,oM,by go_num,_,W⟩);exact oI
 have ae:k=L:=oM;subst ae;go_wp2;go_ret;refine⟨K w,k,rfl,⟨B,?_,?_, λy A=>(b.j8 y A).base oM⟩,b.e8⟩
 . rw[b.fst,<-C,List.take_length]
 have P:=b.row;rw[JI _ _ _ _ b.len]at P;rw[C];exact P
section
variable {H:Type} {enc:Aj×J->H} {P:Program} {w:Y} {spare:Nat->Bool} {held:Bool}
theorem Dk(b a:Nat)(i:Nat):(⟨b,a,M⟩:Addr).add i=⟨b,a+i,M⟩:=by unfold Addr.add;split<;>simp_all
theorem Dz[Inhabited α](f:α->List J)(G:α->Prop)(m:Nat)(d:∀y,(f y).length=m)(c:0<m)(V:P.underlying t=K (.slice e))(T:P.cellsOf e=m)
 (N:∀k cs x,DataW.trod enc P w 0 spare held k e cs=K x->∃y,cs=f y/\G y) {k:Nat} {cs:List J} {x:DataW H×List MemPlace} (h:DataW.trod enc P w 0 spare held k t cs=K x):
 ∃(s:J) (g:List α),cs=[s]/\Rd w m s g (Ad f g)/\ ↑g<=maxLen/\∀y∈g,G y:=by
 rcases DataW.trod_slice V h with⟨rfl,_⟩|⟨a,len,cap,am,rest,n,_,rfl,_,_,hl,aq,ao,z,_,_⟩
 . exact⟨_,[],rfl,⟨sP,.inl ⟨rfl,_,_,rfl⟩⟩,sP, λy q=>by cases q⟩
 rw[T]at z;have q:∀i,i<len->∃y,w.cells? 0 (a.add (i*m)) m=K (f y)/\G y:=by intro i p;have v:=z i p;rw[an oM]at v;obtain⟨aj,L,W⟩:=Option.bind_eq_some_iff.1 v;obtain⟨y,rfl,Q⟩:=N _ _ _ W;exact⟨y,L,Q⟩
 obtain⟨F,l⟩:=Go.Deep.choose_lt q;refine⟨_,(List.range len).map F,rfl,⟨?_,?_⟩,oT,?_⟩
 . rw[AE f m d]
 . by_cases hz:len=0
   . subst hz;exact .inl ⟨sP,_,_,rfl⟩
   obtain⟨b,ae,ah⟩:=a;have B:=(World.cells?_some (l 0 oM).1).2.2 0 c;(have O:0<(f (F 0)).length:=by rw[d];exact c);rw[an O]at B;(have U:ah=M:=by simpa[Addr.add]using World.cell?_spot B);subst U;refine .inr ⟨b,ae,cap,sP, λj u D=> ?_⟩;(have R:j<len*m:=by have:=(i6.1 D).1;rw[AE f m d]at this;simpa using this);have E:j / m<len:=(Nat.div_lt_iff_lt_mul c).2 R;have I:=Nat.mod_lt j c;(have r:j=j / m*m+j % m:=by rw[Nat.mul_comm];exact(Nat.div_add_mod j m).symm);(have S:((List.range len).map F)[j / m]?=K (F (j / m)):=by simp[E]);have C:=(World.cells?_some (l (j / m) E).1).2.2 (j % m) I;have A:=Jd f m d _ (j / m) (j % m) _ S I;rw[<-r,D]at A;rw[Dk,Dk,Nat.add_assoc,<-r]at C;rw[C,<-A]
 intro y X;obtain⟨i,p,rfl⟩:=lA.1 X;exact(l i (mL.1 p)).2
end
instance:Inhabited MI:=⟨⟨0,0,0,0⟩⟩
instance:Inhabited MC:=⟨⟨0,0⟩⟩
instance:Inhabited MT:=⟨⟨0,0,0,0⟩⟩
instance:Inhabited MF:=⟨⟨[],0,[],[]⟩⟩
instance:Inhabited VF:=⟨⟨true,true,true⟩⟩
def Dg(z:Int):Prop:=(Lit.int Af z).wf=true
def WO(z:Int):Prop:=(Lit.int .u32 z).wf=true
def MI.wf(x:MI):Prop:=Dg x.op/\Dg x.a/\Dg x.b/\Dg x.c
def MC.wf(x:MC):Prop:=Dg x.type/\WO x.word
def MT.wf(x:MT):Prop:=Dg x.func/\Dg x.head/\Dg x.gI/\WO x.init
structure MF.wf(f:MF):Prop where
 gw:∀z∈f.gw,Dg z
 gy:Dg f.gy
 gG:∀z∈f.gG,Dg z
 eC:∀x∈f.eC,x.wf
structure MP.wf(p:MP):Prop where
 bO:∀r∈p.bO,∀z∈r,Dg z
 ej:∀x∈p.ej,x.wf
 bW:∀f∈p.bW,f.wf
 eD:∀x∈p.eD,x.wf
theorem I8:Tryz.prog.cellsOf 2=1:=kR
theorem Sb:Tryz.prog.cellsOf 86=1:=kR
theorem K1:Tryz.prog.cellsOf 46=1:=kR
theorem MW:Tryz.prog.cellsOf 22=1:=kR
theorem Se:Tryz.prog.cellsOf 178=4:=kR
theorem Sc:Tryz.prog.cellsOf 96=2:=kR
theorem Sf:Tryz.prog.cellsOf 99=4:=kR
theorem Sd:Tryz.prog.cellsOf 66=4:=kR
theorem Vn:Tryz.prog.cellsOf 27=4:=kR
theorem Vr:Tryz.prog.cellsOf 64=1:=kR
theorem Vp:Tryz.prog.cellsOf 23=1:=kR
theorem Vt:Tryz.prog.cellsOf 25=1:=kR
theorem Vq:Tryz.prog.cellsOf 24=1:=kR
section
variable {H:Type} {enc:Aj×J->H} {w:Y} {spare:Nat->Bool} {held:Bool} {fuel:Nat} {cs:List J} {x:DataW H×List MemPlace}
theorem Vy{cs:List J}(h:cs.length=4):∃a b c d,cs=[a,b,c,d]:=by
 match cs,h with
 |[a,b,c,d],_=>exact⟨a,b,c,d,rfl⟩
theorem two{cs:List J}(h:cs.length=2):∃a b,cs=[a,b]:=by
 match cs,h with
 |[a,b],_=>exact⟨a,b,rfl⟩
theorem Di(h:DataW.trod enc Ap w 0 spare held fuel 2 cs=K x):∃z,cs=As z/\Dg z:=by obtain⟨n,a,_,b⟩:=DataW.trod_int underlying2 h;exact⟨n,a,b⟩
theorem PJ(h:DataW.trod enc Ap w 0 spare held fuel 86 cs=K x):∃z,cs=[.int .u32 z]/\WO z:=by obtain⟨n,a,_,b⟩:=DataW.trod_int underlying86 h;exact⟨n,a,b⟩
theorem RC(h:DataW.trod enc Ap w 0 spare held fuel 178 cs=K x):∃y:MI,cs=y.cells/\y.wf:=by obtain⟨A,B,C,D,n,_,p,j,k,l,m⟩:=Go.Joins.trod_struct4 underlying178 h;rw[Se]at p;obtain⟨a,b,c,d,rfl⟩:=Vy p;simp only[I8,List.drop_zero,List.drop_succ_cons,List.take_succ_cons,List.take_zero]at j k l m;obtain⟨u,e,q⟩:=Di j;obtain⟨v,f,r⟩:=Di k;obtain⟨z,g,s⟩:=Di l;obtain⟨z3,i,t⟩:=Di m;simp only[As,nJ,mV]at e f g i;subst e f g i;exact⟨⟨u,v,z,z3⟩,rfl,q,r,s,t⟩
theorem Tr(h:DataW.trod enc Ap w 0 spare held fuel 99 cs=K x):∃y:MT,cs=y.cells/\y.wf:=by obtain⟨A,B,C,D,n,_,p,j,k,l,m⟩:=Go.Joins.trod_struct4 underlying99 h;rw[Sf]at p;obtain⟨a,b,c,d,rfl⟩:=Vy p;simp only[I8,Sb,List.drop_zero,List.drop_succ_cons,List.take_succ_cons,List.take_zero]at j k l m;obtain⟨u,e,q⟩:=Di j;obtain⟨v,f,r⟩:=Di k;obtain⟨z,g,s⟩:=Di l;obtain⟨z3,i,t⟩:=PJ m;simp only[As,nJ,mV]at e f g i;subst e f g i;exact⟨⟨u,v,z,z3⟩,rfl,q,r,s,t⟩
theorem RB(h:DataW.trod enc Ap w 0 spare held fuel 96 cs=K x):∃y:MC,cs=y.cells/\y.wf:=by obtain⟨m,p,n,_,g,e,f⟩:=trod_struct2 underlying96 h;rw[Sc]at g;obtain⟨a,b,rfl⟩:=two g;simp only[I8,Sb,List.drop_zero,List.drop_succ_cons,List.take_succ_cons,List.take_zero]at e f;obtain⟨k,c,i⟩:=Di e;obtain⟨l,d,j⟩:=PJ f;simp only[As,nJ,mV]at c d;subst c d;exact⟨⟨k,l⟩,rfl,i,j⟩
theorem FI(h:DataW.trod enc Ap w 0 spare held fuel 46 cs=K x):∃y:List Int×J,cs=BW y/\Rd w 1 y.2 y.1 (Ad As y.1)/\ ↑y.1<=maxLen/\∀z∈y.1,Dg z:=by obtain⟨s,d,e,a,b,c⟩:=Dz As Dg 1 AA oM underlying46 I8 (λ_ _ _=>Di) h;exact⟨(d,s),e,a,b,c⟩
theorem Ts(h:DataW.trod enc Ap w 0 spare held fuel 66 cs=K x):∃y:MF×VF,cs=Ch y/\DE w y.2 y.1/\y.1.fits/\y.1.wf:=by obtain⟨N,O,P,Q,n,_,p,j,k,l,m⟩:=Go.Joins.trod_struct4 underlying66 h;rw[Sd]at p;obtain⟨a,b,c,d,rfl⟩:=Vy p;simp only[I8,K1,Vr,List.drop_zero,List.drop_succ_cons,List.take_succ_cons,List.take_zero]at j k l m;obtain⟨⟨z,H⟩,e,C,q,t⟩:=FI j;obtain⟨G,f,D⟩:=Di k;obtain⟨⟨A,I⟩,g,E,r,u⟩:=FI l;obtain⟨L,B,i,F,s,v⟩:=Dz MI.cells MI.wf 4 MI.dr oM underlying64 Se (λ_ _ _=>RC) m;simp only[As,BW,nJ,mV]at e f g i;subst e f g i;exact⟨(⟨z,G,A,B⟩,⟨a,c,d⟩),rfl,⟨C,E,F⟩,⟨by simp[maxLen]at q;exact q,by simp[maxLen]at r;exact r,by simp[maxLen]at s;exact s⟩,⟨t,D,u,v⟩⟩
theorem Oj(h:DataW.trod enc Ap w 0 spare held fuel 27 cs=K x):∃(p:MP) (v:VP),cs=[v.r,v.k,v.f,v.t]/\Da w v p/\p.fits/\p.wf:=by
 obtain⟨y0,y1,y2,y3,n,_,E,A,B,C,D⟩:=Go.Joins.trod_struct4 underlying27 h;rw[Vn]at E;obtain⟨a,b,c,d,rfl⟩:=Vy E;simp only[MW,Vp,Vq,Vt,List.drop_zero,List.drop_succ_cons,List.take_succ_cons,List.take_zero]at A B C D;obtain⟨W,F,m,S,O,j⟩:=Dz BW (λy=>Rd w 1 y.2 y.1 (Ad As y.1)/\ ↑y.1<=maxLen/\∀z∈y.1,Dg z) 1 A5 oM underlying22 K1 (λ_ _ _=>FI) A
 obtain⟨X,L,q,T,P,H⟩:=Dz MC.cells MC.wf 2 MC.dr oM underlying23 Sc (λ_ _ _=>RB) B;obtain⟨s2,G,s,U,Q,l⟩:=Dz Ch (λy=>DE w y.2 y.1/\y.1.fits/\y.1.wf) 4 Ay oM underlying24 Sd (λ_ _ _=>Ts) C
 obtain⟨s3,N,u,V,R,I⟩:=Dz MT.cells MT.wf 4 MT.dr oM underlying25 Sf (λ_ _ _=>Tr) D;simp only[nJ,mV]at m q s u;subst m q s u;have i:∀n:Nat,n<=maxLen->n<=9223372036854775807:= λn h=>by simp[maxLen]at h;exact h
 refine⟨⟨F.map Prod.fst,L,G.map Prod.fst,N⟩,⟨a,b,c,d⟩,rfl,⟨⟨F,rfl,by simpa using S, λy e=>(j y e).1⟩,T,⟨G,rfl,by simpa using U, λy e=>(l y e).1⟩,V⟩,⟨by simpa using i _ O,?_,i _ P,by simpa using i _ Q,?_,i _ R⟩,⟨?_,H,?_,I⟩⟩
 . intro r g;obtain⟨y,e,rfl⟩:=lA.1 g;exact i _ (j y e).2.1
 . intro r g;obtain⟨y,e,rfl⟩:=lA.1 g;exact(l y e).2.1
 . intro r g;obtain⟨y,e,rfl⟩:=lA.1 g;exact(j y e).2.2
 intro r g;obtain⟨y,e,rfl⟩:=lA.1 g;exact(l y e).2.2
end
section
variable {H:Type} {enc:Aj×J->H} {w:Y} {spare:Nat->Bool} {held:Bool} {fuel:Nat} {cs:List J} {x:DataW H×List MemPlace}
theorem PH(h:DataW.trod enc Ap w 0 spare held fuel 22 cs=K x):∃y:List (List Int)×J,cs=B2 y/\Gi w y.2 y.1/\ ↑y.1<=maxLen/\∀g∈y.1, ↑g<=maxLen:=by
 obtain⟨s,l,e,c,m,k⟩:=Dz BW (λy=>Rd w 1 y.2 y.1 (Ad As y.1)/\ ↑y.1<=maxLen/\∀z∈y.1,Dg z) 1 A5 oM underlying22 K1 (λ_ _ _=>FI) h
 exact⟨(l.map Prod.fst,s),e,⟨l,rfl,by simpa using c, λy a=>(k y a).1⟩,by simpa using m, λg b=>by obtain⟨y,a,rfl⟩:=lA.1 b;exact(k y a).2.1⟩
theorem Oi(h:DataW.trod enc Ap w 0 spare held fuel 28 cs=K x):∃(s:J) (S:List (List (List Int))),cs=[s]/\OH w s S/\ ↑S<=maxLen/\∀f∈S, ↑f<=maxLen/\∀g∈f, ↑g<=maxLen:=by
 obtain⟨s,l,e,c,m,k⟩:=Dz B2 (λy=>Gi w y.2 y.1/\ ↑y.1<=maxLen/\∀g∈y.1, ↑g<=maxLen) 1 BH oM underlying28 MW (λ_ _ _=>PH) h
 exact⟨s,l.map Prod.fst,e,⟨l,rfl,by simpa using c, λy a=>(k y a).1⟩,by simpa using m, λf b=>by obtain⟨y,a,rfl⟩:=lA.1 b;exact(k y a).2⟩
end
def AJ(e:Ending)(q:Prop):Prop:=∃b,e=Al (An b)/\(b=true↔q)
theorem AJ.gY(h:q):AJ (Al true) q:=⟨_,rfl,by simp[h]⟩
theorem AJ.no(h:¬q):AJ (Al false) q:=⟨_,rfl,by simp[h]⟩
theorem AJ.of{b:Bool}(h:b=true↔q):AJ (Al b) q:=⟨_,rfl,h⟩
theorem AJ.iff{e:Ending}{a:Prop}(h:AJ e q)(d:q↔a):AJ e a:=by obtain⟨b,rfl,c⟩:=h;exact⟨b,rfl,c.trans d⟩
structure CX(w:Y)(b:Nat)(x y z t:J):Prop where
 c0:w b=K x
 c1:w ⟨b,1,M⟩=K y
 c2:w ⟨b,2,M⟩=K z
 c3:w ⟨b,3,M⟩=K t
theorem CX.lt{w:Y}{x y z t:J}(h:CX w b x y z t):b<w.heap.size:=hC h.c0
theorem CX.a7{w c:Y}{x y z t:J}(h:CX w b x y z t)(a:Ah w w c):CX c b x y z t:=⟨by rw[a.cell h.lt];exact h.c0,by rw[a.cell h.lt];exact h.c1,by rw[a.cell h.lt];exact h.c2,by rw[a.cell h.lt];exact h.c3⟩
theorem CX.new(w:Y)(x y z t:J)(ty:Aj):CX (Ac w (Ak #[x,y,z,t] ty)) w x y z t:=by have h:=mj (base:=w) (e:=ty) (size:=4) w #[x,y,z,t] 1 lR oX sP;exact⟨h.cellAt 0 oM,h.cellAt 1 oM,h.cellAt 2 oM,h.cellAt 3 oM⟩
theorem CX.alloc{w:Y}{x y z t:J}(h:CX w b x y z t)(o:Obj):CX (w.alloc o) b x y z t:=h.a7 ((kS _ _).alloc lR _)
theorem Aq(w:Y)(o:Obj):Ah w w (w.alloc o):=(kS _ _).alloc lR _
theorem At(w:Y):Ah w w w.drew:=⟨rfl,rfl,rfl,Nat.le_refl _, λ_ _=>rfl⟩
theorem Ar{w u a:Y}(h:Ah B w u)(c:B<= ↑w)(b:Ah u u a):Ah B w a:=h.trans (b.mono (kV c h.size))
theorem BU{w:Y}{k n:Nat}(h:Ab w base e k s n xs):(s=Z M 0 0/\n=0)\/∃g c,s=Z (K ⟨g,0,M⟩) n c:=by
 rcases h.2 with h|⟨g,cap,a,rfl,b,_⟩
 . exact .inl h
 exact .inr ⟨g,cap,rfl⟩
theorem AO{w:Y}{k n:Nat}(h:Ab w base e k s n xs):∃a c,s=Z a n c:=by rcases BU h with⟨rfl,rfl⟩|⟨g,c,rfl⟩<;>exact⟨_,_,rfl⟩
def FV(x y:J):Prop:=x=y\/∃k a b,x=Ag k a/\y=Ag k b
theorem FV.refl(x:J):FV x x:=.inl rfl
theorem FV.trans{x y z:J}(h:FV x y)(c:FV y z):FV x z:=by
 rcases h with rfl|⟨k,a,b,rfl,rfl⟩
 . exact c
 rcases c with rfl|⟨f,a',d,e,rfl⟩
 . exact .inr ⟨k,a,b,rfl,rfl⟩
 cases e
 exact .inr ⟨k,a,d,rfl,rfl⟩
theorem FV.int{k:IntKind}{a:Int}(h:FV (Ag k a) y):∃b,y=Ag k b:=by
 rcases h with rfl|⟨d,a',c,e,rfl⟩
 . exact⟨_,rfl⟩
 cases e
 exact⟨_,rfl⟩
theorem FV.slice{a:Option Addr}{n c:Nat}(h:FV (Z a n c) y):y=Z a n c:=by
 rcases h with rfl|⟨d,a',b,e,rfl⟩
 . rfl
 cases e
def Gj(xs a:Array J):Prop:=xs.size=a.size/\∀(i:Nat) x y,xs[i]?=K x->a[i]?=K y->FV x y
theorem Gj.refl(xs:Array J):Gj xs xs:=⟨rfl, λi x y b a=>by rw[b]at a;exact .inl (kH a)⟩
theorem Gj.at{xs a:Array J}(h:Gj xs a){x:J}(c:xs[i]?=K x):∃y,a[i]?=K y/\FV x y:=by
 have b:i<a.size:=by rw[<-h.1];exact(kM.1 c).1
 exact⟨_,nz b,h.2 i x _ c (nz b)⟩
theorem Gj.trans{xs b zs:Array J}(h:Gj xs b)(a:Gj b zs):Gj xs zs:=by refine⟨h.1.trans a.1, λi x z d f=> ?_⟩;obtain⟨y,e,c⟩:=h.at d;exact c.trans (a.2 i y z e f)
structure Fl(w w':Y):Prop where
 size:(w:Nat)<= ↑w'
 block:∀(k:Nat) (cur:Array J) (t:Aj),w.heap[k]?=K (Obj.cells cur t (0,0))->∃cur',w'.heap[k]?=K (Obj.cells cur' t (0,0))/\Gj cur cur'
theorem Fl.refl(w:Y):Fl w w:=⟨Nat.le_refl _, λk a t h=>⟨a,h,.refl _⟩⟩
theorem Fl.trans{w u v:Y}(h:Fl w u)(a:Fl u v):Fl w v:=by refine⟨kV h.size a.size, λk d t g=> ?_⟩;obtain⟨c1,e,b⟩:=h.block k d t g;obtain⟨c2,f,c⟩:=a.block k c1 t e;exact⟨c2,f,b.trans c⟩
theorem Fl.jy{w b:Y}(h:Ah w w b):Fl w b:=⟨h.size, λk c t a=>⟨c,by rw[h.block k (kM.1 a).1];exact a,.refl _⟩⟩
structure FA(lo hi:Nat)(w w':Y):Prop where
 os:w'.os=w.os
 tape:w'.tape=w.tape
 output:w'.output=w.output
 size:(w':Nat)= ↑w
 o:∀(k:Nat),k<lo\/hi<=k->w'.heap[k]?=w.heap[k]?
 shaped:Fl w w'
theorem FA.refl(lo a:Nat)(w:Y):FA lo a w w:=⟨rfl,rfl,rfl,rfl, λ_ _=>rfl,.refl _⟩
theorem FA.trans{w u v:Y}(h:FA lo b w u)(a:FA lo b u v):FA lo b w v:=⟨a.os.trans h.os,a.tape.trans h.tape,a.output.trans h.output,a.size.trans h.size, λk c=>(a.o k c).trans (h.o k c),h.shaped.trans a.shaped⟩
theorem FA.below{w a:Y}(h:FA lo b w a):Ah lo w a:=⟨h.os,h.tape,h.output,Nat.le_of_eq h.size.symm, λk c=>h.o k (.inl c)⟩
theorem FA.drew{a:Nat}{w b:Y}(h:FA lo a w b)(n:Nat):FA lo a w (b.drewN n):=⟨h.os,h.tape,h.output,h.size,h.o,⟨h.shaped.size,h.shaped.block⟩⟩
theorem FA.set{lo n:Nat}{w:Y}{f:Array J}{v x:J}(m:w.heap[g]?=K (Obj.cells f t (0,0)))(p:f[i]?=K x)(q:FV x v)(s:lo<=g)(u:g<n):FA lo n w (Aa w ⟨g,i,M⟩ v):=by
 refine⟨rfl,rfl,rfl,sP, λk c=>lY w _ k v oS,sP, λk c' y c=> ?_⟩;by_cases e:k=g
 . subst e;rw[m]at c;simp only[kI,mg,mV]at c;obtain⟨rfl,rfl⟩:=c;refine⟨_,heap_setCell_same w k i f t v m,sP, λj a b h d=> ?_⟩;by_cases l:j=i
   . subst l;rw[p]at h;obtain rfl:=kH h;have r:=(kM.1 p).1;rw[Array.getElem?_setIfInBounds_self_of_lt r]at d;obtain rfl:=kH d;exact q
   rw[Array.getElem?_setIfInBounds_ne (Ne.symm l),h]at d;exact .inl (kH d)
 exact⟨c',by rw[lY w _ k v e];exact c,.refl _⟩
structure GR(lo hi:Nat)(w w':Y):Prop where
 os:w'.os=w.os
 tape:w'.tape=w.tape
 output:w'.output=w.output
 size:(w:Nat)<= ↑w'
 o:∀(k:Nat),k< ↑w->k<lo\/hi<=k->w'.heap[k]?=w.heap[k]?
 shaped:Fl w w'
theorem GR.of{w u d:Y}(a:Ah B w u)(b: ↑w<=B)(h:FA lo c u d):GR lo c w d:=⟨h.os.trans a.os,h.tape.trans a.tape,h.output.trans a.output,by rw[h.size];exact a.size, λk f e=>(h.o k e).trans (a.block k (lq f b)),(Fl.jy (a.mono b)).trans h.shaped⟩
theorem GR.below{w b:Y}(h:GR lo c w b)(d:lo<= ↑w):Ah lo w b:=⟨h.os,h.tape,h.output,h.size, λk a=>h.o k (lq a d) (.inl a)⟩
theorem GR.cell{w d:Y}(h:GR lo b w d){a:Addr}{x:J}(c:w a=K x)(e:a.block<lo\/b<=a.block):d a=K x:=by have:=h.o a.block (hC c) e;unfold World.cell? at*;rw[this];exact c
theorem GR.own{w f:Y}(h:GR lo c w f){k n:Nat}(d:Ab w B e k s n xs)(m:c<=B):Ab f B e k s n xs:=by
 refine⟨d.1,?_⟩;rcases d.2 with l|⟨g,cap,i,j,a,b,p⟩
 . exact .inl l
 refine .inr ⟨g,cap,i,j,a,?_,p⟩;rw[h.o g (kM.1 b).1 (.inr (kV m a))];exact b
theorem Ax{P:Program}{c:Code}{Q:Exit->Act->Y->Prop}{U:Y}(R:Y->Prop)(h:R U)(k:∀u,R u->Code.wp P c Q a u):Code.wp P c Q a U:=k U h
theorem OV(q:α->Bool)(a:List α)(k:Nat)(x:α)(c:a[k]?=K x)(h:(a.take k).all q=true):(a.take (k+1)).all q=q x:=by obtain⟨b,rfl⟩:=i6.1 c;rw[kU b,List.all_append,h];simp
theorem Sa(q:α->Bool)(a:List α)(x:α)(b:x∈a)(h:q x=false):a.all q=false:=by rw[List.all_eq_false];exact⟨x,b,by simp[h]⟩
theorem FF(s:J)(a:List Int)(w:Y)(A:a.length<=1048576)(h:Rd w 1 s a (Ad As a)):
 Ai Ap 30 #[s] w λe C=>e=Al (a.all Ec)/\C=w:=by
 have f:Ae (Rd w 1 s a (Ad As a)):=h;obtain⟨D,c1,rfl⟩:=h.dk;clear h;generalize r:a.length=n at A f;have j:Ae (a.length=n):=r;clear r;generalize b:a.all Ec=R;have l:Ae (a.all Ec=R):=b;clear b;go_enter func30,ntmps30;go_wp2;go_loopw [3] (λi wr=>∃k:Nat,k<=n/\i=Ag Af k/\Ae ((a.take k).all Ec=true)/\wr=w) (λi _=>n-(intOf i).toNat)
 case atStart=>exact⟨0,oM,rfl,by simp[Ae],rfl⟩
 obtain⟨k,F,rfl,m,rfl⟩:=hrel;by_cases z:k<n
 . obtain⟨x,d⟩:∃x,a[k]?=K x:=⟨_,an (by rw[j];exact z)⟩;rcases f.2 with⟨E,_⟩|⟨g,o,c,q,t⟩
   . omega
   simp only[i8,lB]at q;obtain⟨rfl,rfl⟩:=q;have B:=Rd.elem AA t k x d 0 _ rfl;rw[lN,kJ]at B;have p:Ae (a[k]?=K x):=d;clear t d;go_wp2_with fail;refine(DU x wr).mono ?_;rintro e u ⟨rfl,rfl⟩;cases hq:Ec x with
   | false=>(have b:R=false:=by rw[<-l];exact Sa _ _ _ (i7 p) hq);subst b;clear hq;go_wp2;go_ret;exact⟨rfl,rfl⟩
   | true=>(have v:Ae ((a.take (k+1)).all Ec=true):=by show _=_;rw[OV _ _ _ _ p m];exact hq);clear hq;go_wp2;go_roundw;(case rel=>exact⟨k+1,oM,by go_num,v,by trivial⟩);exact oI
 have y:k=n:=oM;subst y;have b:R=true:=by rw[<-l,<-m,<-j,List.take_length]
 subst b;go_wp2;go_ret;exact⟨rfl,rfl⟩
theorem Su{xs b:List α}{x y:α}(c:xs[k]?=K x)(a:b[k]?=K y)(h:¬x=y):¬xs=b:=by rintro rfl;rw[c]at a;exact h (kH a)
theorem Nt{xs a:List α}{x:α}(b:xs[k]?=K x)(c:a[k]?=K x)(h:∀j,j<k->xs[j]?=a[j]?):∀j,j<k+1->xs[j]?=a[j]?:=by
 intro j d;by_cases e:j=k
 . subst e;rw[b,c]
 exact h j oM
theorem P8{xs a:List α}{n:Nat}(c: ↑xs=n)(d: ↑a=n)(h:∀j,j<n->xs[j]?=a[j]?):xs=a:=by
 apply mP;intro j;by_cases b:j<n
 . exact h j b
 rw[kW oM,kW oM]
theorem Fu(s v:J)(xs a:List Int)(w:Y)(N:xs.length<=1048576)(O:a.length<=1048576)(h:Rd w 1 s xs (Ad As xs))(q:Rd w 1 v a (Ad As a)):
 Ai Ap 63 #[s,v] w λe S=>AJ e (xs=a)/\∃m,S=w.drewN m:=by
 have p:Ae (Rd w 1 s xs (Ad As xs)):=h;have d:Ae (Rd w 1 v a (Ad As a)):=q;obtain⟨T,c1,rfl⟩:=h.dk;obtain⟨U,c2,rfl⟩:=q.dk;clear h q;by_cases b:xs.length= ↑a
 . rw [<-b]at d;rw[<-b];clear O;generalize r:xs.length=n at N p d;have f:Ae (↑xs=n/\ ↑a=n):=⟨r,b▸r⟩
   clear r b;go_enter func63,ntmps63;go_wp2;go_loopw [5] (λi wr=>∃k:Nat,k<=n/\i=Ag Af k/\Ae (∀j,j<k->xs[j]?=a[j]?)/\∃m,wr=w.drewN m) (λi _=>n-(intOf i).toNat)
   (case atStart=>exact⟨0,oM,rfl, λj X=>oM,0,rfl⟩);obtain⟨k,hk,rfl,z,m,rfl⟩:=hrel;by_cases E:k<n
   . obtain⟨x,t⟩:∃x,xs[k]?=K x:=⟨_,an (by rw[f.1];exact E)⟩;obtain⟨y,u⟩:∃y,a[k]?=K y:=⟨_,an (by rw[f.2];exact E)⟩;rcases p.2 with⟨I,_⟩|⟨g,o,c,A,C⟩
     . omega
     rcases d.2 with⟨I,_⟩|⟨V,o',c',B,D⟩
     . omega
     simp only[i8,lB]at A B;obtain⟨rfl,rfl⟩:=A;obtain⟨rfl,rfl⟩:=B;have P:=Rd.elem AA C k x t 0 _ rfl;have Q:=Rd.elem AA D k y u 0 _ rfl;rw[lN,kJ]at P Q;have l:Ae (xs[k]?=K x/\a[k]?=K y):=⟨t,u⟩
     clear C D t u;by_cases G:x=y
     . subst G;go_wp2;go_quiet (fail);go_wp2;go_roundw;(case rel=>exact⟨k+1,oM,by go_num,Nt l.1 l.2 z,_,rfl⟩);exact oI
     go_wp2;go_quiet (fail);go_wp2;go_ret;exact⟨.no (Su l.1 l.2 G),m+nq,World.drewN_drewN _ _ _⟩
   have L:k=n:=oM;subst L;go_wp2;go_ret;exact⟨.gY (P8 f.1 f.2 z),_,rfl⟩
 have F:¬xs=a:= λe=>b (by rw[e])
 clear p d;generalize xs.length=n at*;generalize a.length=R at*;have H:Ae (¬xs=a):=F;clear F;have W:¬(n:Int)=(R:Int):=oM;go_enter func63,ntmps63;go_wp2;go_ret;exact⟨.no H,0,rfl⟩
theorem LO(s v:J)(xs a:List Int)(w:Y)(N:xs.length<=1048576)(O:a.length<=1048576)(h:Rd w 1 s xs (Ad As xs))(q:Rd w 1 v a (Ad As a)):
 Ai Ap 249 #[s,v] w λe S=>AJ e (xs=a)/\∃m,S=w.drewN m:=by
 have p:Ae (Rd w 1 s xs (Ad As xs)):=h;have d:Ae (Rd w 1 v a (Ad As a)):=q;obtain⟨T,c1,rfl⟩:=h.dk;obtain⟨U,c2,rfl⟩:=q.dk;clear h q;by_cases b:xs.length= ↑a
 . rw [<-b]at d;rw[<-b];clear O;generalize r:xs.length=n at N p d;have f:Ae (↑xs=n/\ ↑a=n):=⟨r,b▸r⟩
   clear r b;go_enter func249,ntmps249;go_wp2;go_loopw [13] (λi wr=>∃k:Nat,k<=n/\i=Ag Af k/\Ae (∀j,j<k->xs[j]?=a[j]?)/\∃m,wr=w.drewN m) (λi _=>n-(intOf i).toNat)
   (case atStart=>exact⟨0,oM,rfl, λj X=>oM,0,rfl⟩);obtain⟨k,hk,rfl,z,m,rfl⟩:=hrel;by_cases E:k<n
   . obtain⟨x,t⟩:∃x,xs[k]?=K x:=⟨_,an (by rw[f.1];exact E)⟩;obtain⟨y,u⟩:∃y,a[k]?=K y:=⟨_,an (by rw[f.2];exact E)⟩;rcases p.2 with⟨I,_⟩|⟨g,o,c,A,C⟩
     . omega
     rcases d.2 with⟨I,_⟩|⟨V,o',c',B,D⟩
     . omega
     simp only[i8,lB]at A B;obtain⟨rfl,rfl⟩:=A;obtain⟨rfl,rfl⟩:=B;have P:=Rd.elem AA C k x t 0 _ rfl;have Q:=Rd.elem AA D k y u 0 _ rfl;rw[lN,kJ]at P Q;have l:Ae (xs[k]?=K x/\a[k]?=K y):=⟨t,u⟩
     clear C D t u;by_cases G:x=y
     . subst G;go_wp2;go_quiet (fail);go_wp2;go_roundw;(case rel=>exact⟨k+1,oM,by go_num,Nt l.1 l.2 z,_,rfl⟩);exact oI
     go_wp2;go_quiet (fail);go_wp2;go_ret;exact⟨.no (Su l.1 l.2 G),m+nq,World.drewN_drewN _ _ _⟩
   have L:k=n:=oM;subst L;go_wp2;go_ret;exact⟨.gY (P8 f.1 f.2 z),_,rfl⟩
 have F:¬xs=a:= λe=>b (by rw[e])
 clear p d;generalize xs.length=n at*;generalize a.length=R at*;have H:Ae (¬xs=a):=F;clear F;have W:¬(n:Int)=(R:Int):=oM;go_enter func249,ntmps249;go_wp2;go_ret;exact⟨.no H,0,rfl⟩
structure AB(w:Y) where
 u:Y
 h:Ah w w u
theorem AB.some(w:Y):Nonempty (AB w):=⟨⟨w,kS _ _⟩⟩
theorem AL{P:Program}{Q:Exit->Act->Y->Prop}{w:Y}{l:List Oper}(d:P.follows .mixedOrders=true)(c:Region.lexB .any l.toArray=true)
 (h:wpQuiet P l.toArray (λb=>∃n:AB w,b=n.u) (λa'=>∀b,(∃n:AB w,b=n.u)->Q .normal a' b) l a):(Code.region id l.toArray true).wp P Q a w:=
 wp_region_quiet (C:= λb=>∃n:AB w,b=n.u) d c ⟨⟨_,At w⟩,rfl⟩ (by simpa using h)
theorem AJ.true{e:Ending}(h:AJ e q)(c:q):e=Al true:=by obtain⟨b,rfl,a⟩:=h;rw[a.2 c]
theorem AJ.false{e:Ending}(h:AJ e q)(c:¬q):e=Al false:=by
 obtain⟨b,rfl,a⟩:=h;cases b
 . rfl
 exact absurd (a.1 rfl) c
theorem AB.cell{w:Y}{a:Addr}{x:J}(h:w a=Option.some x)(n:AB w):n.u a=Option.some x:=by rw[n.h.cell (hC h)];exact h
def AC(w:Y)(b:Nat)(a:Array J)(t:Aj):Prop:=w.heap[b]?=K (Ak a t (0,0))
theorem AC.new(w:Y)(a:Array J)(t:Aj):AC (Ac w (Ak a t)) w a t:=oD
theorem AC.lt{w:Y}{a:Array J}(h:AC w b a t):b<w.heap.size:=(kM.1 h).1
theorem AC.a7{w c:Y}{a:Array J}(h:AC w b a t)(d:Ah w w c):AC c b a t:=by unfold AC at*;rw[d.block b (kM.1 h).1];exact h
theorem AC.cell{w:Y}{a:Array J}(h:AC w b a t)(i:Nat):w ⟨b,i,M⟩=a[i]?:=nh w b i a t _ h
theorem AC.frozen{w:Y}{a:Array J}(h:AC w b a t)(i:Nat):w.frozen? ⟨b,i,M⟩=false:=frozen_of_row w b i a t h
theorem AC.set{w:Y}{a:Array J}(h:AC w b a t)(i:Nat)(x:J):AC (Aa w ⟨b,i,M⟩ x) b (a.setIfInBounds i x) t:=heap_setCell_same w b i a t x h
theorem AC.other{w:Y}{c:Array J}(h:AC w b c t){a:Addr}(d:b≠a.block)(x:J):AC (w.setCell a x) b c t:=by unfold AC at*;rw[lY w a b x d];exact h
theorem AC.grown{w f:Y}{d:Array J}(h:AC w b d t){m:Nat}{g:List J}(i:w.grownBy f v.ownBlock)(l:Ab w B e k v m g)(j:t≠e):AC f b d t:=by
 unfold AC at*;rw[i.block b (kM.1 h).1 ?_]
 . exact h
 intro c;rcases l.2 with⟨rfl,_⟩|⟨q,n,p,rfl,_,a,_⟩
 . cases c
 simp only[Value.ownBlock,kI]at c;subst c;rw[h]at a;simp only[kI,mg]at a;exact j a.2.1
def AN(f:MF)(k:Int):Int:=if k<0 then 0 else(f.gw++f.gG).getD k.toNat 0
theorem Hg{f:MF}{k:Int}(h:k<0):AN f k=0:=kZ h
theorem Kh{f:MF}{x:Int}(h:f.gw[k]?=K x):AN f k=x:=by obtain⟨a,rfl⟩:=i6.1 h;unfold AN;rw[kP oM,kL,kA,lO a,an a];rfl
theorem Kf{f:MF}{x:Int}(h:f.gG[k]?=K x):AN f ((f.gw:Int)+k)=x:=by
 obtain⟨a,rfl⟩:=i6.1 h;unfold AN;have e:((f.gw:Int)+k).toNat= ↑f.gw+k:=oM
 rw[kP oM,kL,e,kT oM,mH,an a];rfl
theorem Kg{f:MF}{k:Int}(h:(f.gw:Int)+ ↑f.gG<=k):AN f k=0:=by unfold AN;rw[kP oM,kL,kW (by rw[kE];omega)];rfl
theorem H9(h:q:=by go_enter func54,ntmps54;go_wp2;go_ret;exact⟨rfl,HB⟩):q:=h
theorem Eo(v:VF)(f:MF)(k:Int)(w:Y)(H:f.small)(A:Dg k)(h:DE w v f):
 Ai Ap 54 #[Am #[v.p,f.gy,v.l,v.c],k] w λe Q=>e=Al (AN f k)/\Ah w w Q:=by
 have G:-9223372036854775808<=k/\k<=9223372036854775807:=by simpa[Dg,Lit.wf,IntKind.min,IntKind.max,IntKind.signed,IntKind.bits]using A
 obtain⟨R,S⟩:=G;obtain⟨U,V,O⟩:=H;have u:Ae (DE w v f):=h;obtain⟨E,c1,b⟩:=h.1.dk;obtain⟨F,c2,y⟩:=h.2.1.dk;obtain⟨X,W,P⟩:=v;simp only[]at b y;subst b;subst y;clear h A O;have t:=Wl.of w 70 #[Z E f.gw c1,f.gy,Z F f.gG c2,P] rfl;have HB:Ae _:=t.e8;clear t;generalize B:f.gw.length=m at*;generalize C:f.gG.length=D at*;have d:Ae (↑f.gw=m/\ ↑f.gG=D):=⟨B,C⟩
 clear B C;by_cases L:k<0
 . rw[Hg L];exact H9
 obtain⟨j,rfl⟩:=kX (show 0<=k from oM);by_cases N:j<m
 . obtain⟨x,i⟩:∃x,f.gw[j]?=K x:=⟨_,an (by rw[d.1];exact N)⟩;rw[Kh i];rcases u.1.2 with⟨r,_⟩|⟨g,o,c,b,n⟩
   . rw[d.1]at r;omega
   simp only[i8]at b;obtain⟨rfl,s,rfl⟩:=b;clear s;have a:=Rd.elem AA n j x i 0 _ rfl;rw[lN,kJ]at a;have I:=(HB.cell (hC a)).trans a;clear n i a;exact H9
 by_cases T:j<m+D
 . obtain⟨x,i⟩:∃x,f.gG[j-m]?=K x:=⟨_,an (by rw[d.2];omega)⟩;have q:=Kf i;rw[d.1]at q;have z:((m:Int)+((j-m:Nat):Int))=(j:Int):=oM;rw[z]at q;rw[q];rcases u.2.1.2 with⟨r,_⟩|⟨g,o,c,b,n⟩
   . rw[d.2]at r;omega
   simp only[i8]at b;obtain⟨rfl,s,rfl⟩:=b;clear s;have a:=Rd.elem AA n (j-m) x i 0 _ rfl;rw[lN,kJ]at a;have I:=(HB.cell (hC a)).trans a;clear n i a q z;exact H9
 rw[Kg (by rw[d.1,d.2];omega)];exact H9
section
variable {P:Program} {ops:Array Oper} {Q:Exit->Act->Y->Prop} {md:Region.Mode} {S:Y->Prop} {n:Nat}
def De(P:Program)(md:Region.Mode)(ops:Array Oper)(Q:Exit->Act->Y->Prop)(S:Y->Prop)(n:Nat):Nat->Array Bool->Act->Y->Prop
 |0,d,a,w=>Region.ready md ops d=[]/\Q .normal a w
 |f+1,d,a,w=>(Region.ready md ops d=[]->Q .normal a w)/\∀i∈Region.ready md ops d,wpOp P ops Q i (λa' b=>(i<n->S b)/\De P md ops Q S n f (d.setIfInBounds i true) a' b) a w
theorem LU:∀(f:Nat) (d:Array Bool) (a:Act) (w:Y),De P md ops Q S n f d a w->wpAny P md ops Q f d a w
 |0,_,_,_,h=>h
 |f+1,_,_,_,h=>⟨h.1, λi c=>wpOp_mono (λa' e b=>LU f _ a' e b.2) (h.2 i c)⟩
theorem Oz{m:Oper}(x:ops[i]?=K m)(D:∀(j:Nat) (o:Oper) cs b,ops[j]?=K o->o.op≠ .select cs b)
 (I:∀c a w,Q (.panic c) (a.put m.dst v) w->Q (.panic c) a w) (hs:Region.sinkB md ops n=true) (O:Region.chainB md ops n=true) (hn:n<ops.size) (V:i<n):
 ∀ (f:Nat) (d:Array Bool) (a:Act) (w:Y),HeadInv md ops n d->
   (∀j p,ops[j]?=K p->j≠i->d.getD j true=false->(∀e∈p.after,Region.binds md e=true->e.on≠i)->m.apart ops p=true)->
   i∈Region.ready md ops d->YieldsIf P ops S m v a->S w->
   De P md ops Q S n f (d.setIfInBounds i true) (a.put m.dst v) w->De P md ops Q S n (f+1) d a w:=by
 intro f;induction f with
 | zero=>
   intro d a w _ _ l u r H;refine⟨λh=>(by rw[h]at l;cases l), λj q=> ?_⟩;by_cases g:j=i
   . subst g;exact u.wpOp x r ⟨λ_=>r,H⟩
   have:=ready_mono q g;rw[H.1]at this;cases this
 | succ f ih=>
   intro d a w F z l u r H;refine⟨λh=>(by rw[h]at l;cases l), λj q=> ?_⟩;by_cases g:j=i
   . subst g;exact u.wpOp x r ⟨λ_=>r,H⟩
   (have B:j<n:=Nat.lt_of_not_le λh=>tail_waits hs O hn F _ i rfl V (mem_ready.1 l).1 j h q);have s:=H.2 j (ready_mono q g);obtain⟨C,p,y,L⟩:=mem_ready.1 q;(have ah:∀e∈p.after,Region.binds md e=true->e.on≠i:= λe R N T=>by have s:=L e R N;rw[T,getD_both (mem_ready.1 l).1]at s;cases s);have G:=wpOp_putIf y (z j p y g C ah) (λcs b=>D i m cs b x) (λcs b=>D j p cs b y) I u s;have U:∀k ok,ops[k]?=K ok->k≠i->(d.setIfInBounds j true).getD k true=false->
    (∀e∈ok.after,Region.binds md e=true->e.on≠i)->m.apart ops ok=true:= λk ok W X E ae=>by
    refine z k ok W X ?_ ae;by_cases A:j=k
    . subst A;exact C
    rw[getD_set_ne true A]at E;exact E
   refine wpOp_mono (λa' w' t=>⟨t.2.1,ih (d.setIfInBounds j true) a' w' (F.set q B) U (ready_mono l (Ne.symm g)) t.1 (t.2.1 B) ?_⟩) G;rw[Array.setIfInBounds_comm _ _ g];exact t.2.2
def Si(md:Region.Mode)(ops:Array Oper)(n:Nat)(d:Array Bool):Bool:=d.size==ops.size&&(List.range ops.size).all (λj=> !d.getD j false||((ops[j]?).map (·.after.all λe=> !Region.binds md e||d.getD e.on false)).getD true)&&(List.range ops.size).all (λt=>decide (t<n)|| !d.getD t true)&&Region.sinkB md ops n&&Region.chainB md ops n&&decide (n<ops.size)
theorem Re(h:Si md ops n d=true):HeadInv md ops n d/\Region.sinkB md ops n=true/\Region.chainB md ops n=true/\n<ops.size:=by
 simp only[Si,mR,mB,beq_iff_eq]at h;obtain⟨⟨⟨⟨⟨b,c⟩,f⟩,g⟩,i⟩,k⟩:=h;refine⟨⟨b, λj s a p e m l=> ?_, λt r q=> ?_⟩,g,i,k⟩
 . have:=nV.1 c j (mL.2 (kM.1 a).1);rw[p,a]at this;simp only[Bool.not_true,Bool.false_or,nI,nL]at this;have:=Array.all_eq_true'.1 this e m;rw[l]at this;simpa using this
 have:=nV.1 f t (mL.2 q);rw[lZ oM]at this;simpa using this
theorem Qn{e:Oper}{w:Y}(g:ops[i]?=K e)
 (r:Region.noSelect ops=true) (m:Region.free md ops d i=true) (q:(Region.ready md ops d).contains i=true) (l:Si md ops n d=true) (p:i<n)
 (j:∀c a w,Q (.panic c) (a.put e.dst v) w->Q (.panic c) a w) (s:YieldsIf P ops S e v a) (k:S w)
 (h:De P md ops Q S n f (d.setIfInBounds i true) (a.put e.dst v) w):De P md ops Q S n (f+1) d a w:=
 have b:=Re l
 Oz g (Region.noSelect_spec r) j b.2.1 b.2.2.1 b.2.2.2 p f d a w b.1 (Region.free_spec g m) (by simpa using q) s k h
def Dq(P:Program)(md:Region.Mode)(ops:Array Oper)(Q:Exit->Act->Y->Prop)(S:Y->Prop)(n f:Nat)(d:Array Bool)(a:Act)(w:Y)(rs:List Nat):Prop:=∀i∈rs,wpOp P ops Q i (λa' b=>(i<n->S b)/\De P md ops Q S n f (d.setIfInBounds i true) a' b) a w
theorem Dq.nil{w:Y}:Dq P md ops Q S n f d a w []:= λ_ h=>by cases h
theorem Dq.cons{w:Y}{o:Oper}(l:ops[i]?=K o)
 (h:∀b:Act->Y->Prop,Shut (∀a w,(i<n->S w)->((i<n->S w)->De P md ops Q S n f (d.setIfInBounds i true) a w)->b a w)->if Region.wanted o (yielded ops a.tmps)=true then Oper.wp P o a w b Q else b (a.put o.dst undef) w)
 (m:Dq P md ops Q S n f d a w rs):Dq P md ops Q S n f d a w (i::rs):= λj c=>by
 rcases kY.1 c with rfl|c
 . have:=h (λa' g=>(j<n->S g)/\De P md ops Q S n f (d.setIfInBounds j true) a' g) (show Shut _ from λa w e k=>⟨e,k e⟩)
   unfold wpOp;simp only[l];split
   . rename_i hw;simp only[hw,if_true]at this;exact .inl this
   rename_i hw;simp only[hw]at this;exact this
 exact m j c
theorem OC{w:Y}(b:Region.ready md ops d=rs)(e:rs≠[])
 (h:Dq P md ops Q S n f d a w rs):De P md ops Q S n (f+1) d a w:=⟨λc=>absurd (b▸c) e,b▸h⟩
theorem Hq{w:Y}(b:Region.ready md ops d=[])(h:Q .normal a w):∀f,De P md ops Q S n f d a w
 |0=>⟨b,h⟩
 |_+1=>⟨λ_=>h,by rw[b];simp⟩
theorem D7(n:Nat){w:Y}(c:P.follows .mixedOrders=true)(b:S w.drew)
 (h:S w.drew->De P .any ops Q S n ops.size (Array.replicate ops.size false) a w.drew):(Code.region id ops true).wp P Q a w:=
 wp_region_any c (LU _ _ _ _ (h b))
end
theorem Rc{w wr:Y}(h:w.grownBy wr (K g))(i:Nat)(x:J):w.grownBy (Aa wr ⟨g,i,M⟩ x) (K g):=⟨h.os,h.tape,h.output,by rw[lr];exact h.size, λk b a=>(lY wr _ k x (λe=>a (by rw[e]))).trans (h.block k b a)⟩
theorem Do{w b:Y}{k n:Nat}{row:Option Nat}(h:Ab w base e k s n xs)(f:w.grownBy b row)(i:∀g,s.ownBlock=K g->K g≠row):Ab b base e k s n xs:=by
 refine⟨h.1,?_⟩;rcases h.2 with h|⟨g,cap,c,rfl,d,a,j⟩
 . exact .inl h
 refine .inr ⟨g,cap,c,rfl,d,?_,j⟩;rw[f.block g (kM.1 a).1 (i g rfl)];exact a
def IY(x y:J×List Int):Prop:=∀g,x.1.ownBlock=K g->y.1.ownBlock≠K g
theorem IY.symm{x y:J×List Int}(h:IY x y):IY y x:= λg a e=>h g e a
structure CI(w:Y)(base:Nat)(L:List (J×List Int)):Prop where
 own:∀x∈L,Ab w base 2 1 x.1 x.2 (x.2.flatMap As)
 sep:L.Pairwise IY
structure Wv(base:Nat)(w w':Y):Prop where
 e8:Ah base w w'
 gK:∀(k:Nat) (cur:Array J) (t:Aj),w.heap[k]?=K (Obj.cells cur t (0,0))->t≠2->w'.heap[k]?=K (Obj.cells cur t (0,0))
theorem Wv.refl(base:Nat)(w:Y):Wv base w w:=⟨kS _ _, λ_ _ _ h _=>h⟩
theorem Wv.trans{u v w:Y}(h:Wv base u v)(b:Wv base v w):Wv base u w:=⟨h.e8.trans b.e8, λk a t d c=>b.gK k a t (h.gK k a t d c) c⟩
theorem Wv.own{w d:Y}(h:Wv base w d){k n:Nat}(c:Ab w b e k s n xs)(j:e≠2):Ab d b e k s n xs:=by
 refine⟨c.1,?_⟩;rcases c.2 with i|⟨g,cap,a,f,l,m,p⟩
 . exact .inl i
 exact .inr ⟨g,cap,a,f,l,h.gK g a e m j,p⟩
theorem CI.put{w k:Y}{A B:List (J×List Int)}{c c':List Int}(h:CI w base (A++(v,c)::B))(q:c'.length= ↑c)(r:Ab k base 2 1 v c (Ad As c'))(m:w.grownBy k v.ownBlock):CI k base (A++(v,c')::B):=by
 obtain⟨t,u,j⟩:=mq.1 h.sep;obtain⟨n,z⟩:=lg.1 u;refine⟨λx d=> ?_,mq.2 ⟨t,lg.2 ⟨λy s=>n y s,z⟩, λa l b f=> ?_⟩⟩
 . rcases kO.1 d with d|d
   . exact Do (h.own x (kO.2 (.inl d))) m (λg i e=>j x d (v,c) sP g i e.symm)
   rcases kY.1 d with rfl|d
   . simp only[];rw[q];exact r
   exact Do (h.own x (kO.2 (.inr (lU _ d)))) m (λg i e=>n x d g e.symm i)
 rcases kY.1 f with rfl|f
 . exact λg p=>j a l (v,c) sP g p
 exact j a l b (lU _ f)
structure EI(R:Nat->Prop)(u u':Y):Prop where
 os:u'.os=u.os
 tape:u'.tape=u.tape
 output:u'.output=u.output
 size:(u:Nat)<= ↑u'
 block:∀k,k< ↑u->¬R k->u'.heap[k]?=u.heap[k]?
theorem EI.of{u a:Y}(h:Ah u u a):EI R u a:=⟨h.os,h.tape,h.output,h.size, λk b _=>h.block k b⟩
theorem EI.refl(R:Nat->Prop)(u:Y):EI R u u:=⟨rfl,rfl,rfl,Nat.le_refl _, λ_ _ _=>rfl⟩
theorem EI.trans{g:Nat->Prop}{a b c:Y}(h:EI R a b)(d:EI g b c)(j:∀k,k< ↑a->g k->R k):EI R a c:=⟨d.os.trans h.os,d.tape.trans h.tape,d.output.trans h.output,kV h.size d.size, λk f i=>(d.block k (lq f h.size) (λe=>i (j k f e))).trans (h.block k f i)⟩
theorem EI.below{a b:Y}(h:EI R a b)(e:B<= ↑a)(c:∀k,k<B->¬R k):Ah B a b:=⟨h.os,h.tape,h.output,h.size, λk d=>h.block k oM (c k d)⟩
theorem EI.gK{a b:Y}(h:EI R a b){c:Array J}{ty:Aj}(d:AC a g c ty)(e:¬R g):AC b g c ty:=by unfold AC at*;rw[h.block g (kM.1 d).1 e];exact d
theorem EI.setCell{a b:Y}(h:EI R a b){c:Addr}(d:R c.block\/ ↑a<=c.block)(x:J):EI R a (b.setCell c x):=by
 refine⟨h.os,h.tape,h.output,by rw[lr];exact h.size, λk g f=> ?_⟩;have i:k≠c.block:= λe=>by
  rcases d with d|d
  . exact f (e▸d)
  omega
 rw[Below.heap_setCell _ _ _ _ i];exact h.block k g f
theorem EI.mono{c:Nat->Prop}{a b:Y}(h:EI R a b)(f:∀k,k< ↑a->R k->c k):EI c a b:=⟨h.os,h.tape,h.output,h.size, λk d g=>h.block k d (λe=>g (f k d e))⟩
theorem EI.grown{a b c:Y}(h:EI R a b){r:Option Nat}(d:b.grownBy c r)(i:∀k,k< ↑a->K k=r->R k):EI R a c:=⟨d.os.trans h.os,d.tape.trans h.tape,d.output.trans h.output,kV h.size d.size, λk f g=>(d.block k (lq f h.size) (λe=>g (i k f e))).trans (h.block k f g)⟩
theorem EI.own{u d:Y}(l:EI R u d){k n:Nat}(h:Ab u B e k s n xs)(m:∀b,s.ownBlock=K b->¬R b):Ab d B e k s n xs:=by
 refine⟨h.1,?_⟩;rcases h.2 with i|⟨g,cap,f,a,j,c,p⟩
 . exact .inl i
 refine .inr ⟨g,cap,f,a,j,?_,p⟩;rw[l.block g (kM.1 c).1 (m g (by rw[a];rfl))];exact c
theorem EI.on{a b c:Y}(h:EI R a b)(d:Ah b b c):EI R a c:=h.trans (EI.of (R:=R) d) (λ_ _ e=>e)
theorem Ht(w:Y)(cs:Array J)(t:Aj):(Ac w (Ak cs t)).heap[w.heap.size]?=K (Ak cs t (0,0)):=oD
theorem CF(s:ByteArray)(c f:Int)(w:Y):(Instr.field 117 (Am #[.string s,c,f]) 2).run Ap w=.ok f w:=kR
theorem Io{w:Y}{fs:List MF}{q:Nat}{f:MF}(h:Jy w s fs)(b:fs[q]?=K f):∃gk ok ck,s=Z (K ⟨gk,ok,M⟩) fs ck/\∃g:VF,DE w g f/\w ⟨gk,ok+q*4,M⟩=K g.p/\w ⟨gk,ok+q*4+1,M⟩=K ↑f.gy/\w ⟨gk,ok+q*4+2,M⟩=K g.l/\w ⟨gk,ok+q*4+3,M⟩=K g.c:=by
 obtain⟨xs,i,j,k⟩:=h;have n:=(i6.1 b).1;rcases j.2 with⟨e,_⟩|⟨gk,ok,ck,e,d⟩
 . omega
 obtain⟨x,a,m⟩:∃x,xs[q]?=K x/\x.1=f:=by
  rw[<-i,lE]at b;cases a:xs[q]? with
  |none=>rw[a]at b;cases b
  |some x=>rw[a]at b;exact⟨x,rfl,kH b⟩
 subst m;exact⟨gk,ok,ck,e,x.2,k x (i7 a),Rd.elem Ay d q x a 0 _ rfl,Rd.elem Ay d q x a 1 _ rfl,Rd.elem Ay d q x a 2 _ rfl,Rd.elem Ay d q x a 3 _ rfl⟩
theorem M6{w:Y}{is:List MI}{q:Nat}{x:MI}(h:Rd w 4 s is (Ad MI.cells is))(d:is[q]?=K x):∃gk ok ck,s=Z (K ⟨gk,ok,M⟩) is ck/\w ⟨gk,ok+q*4,M⟩=K ↑x.op/\w ⟨gk,ok+q*4+1,M⟩=K ↑x.a/\w ⟨gk,ok+q*4+2,M⟩=K ↑x.b/\w ⟨gk,ok+q*4+3,M⟩=K ↑x.c:=by
 have g:=(i6.1 d).1;rcases h.2 with⟨e,_⟩|⟨gk,ok,ck,e,f⟩
 . omega
 exact⟨gk,ok,ck,e,Rd.elem MI.dr f q x d 0 _ rfl,Rd.elem MI.dr f q x d 1 _ rfl,Rd.elem MI.dr f q x d 2 _ rfl,Rd.elem MI.dr f q x d 3 _ rfl⟩
def BC(p:MP)(r c:Int):Int:=if r<0\/2<r\/c<0 then 0 else(p.bO.getD r.toNat []).getD c.toNat 0
theorem Fo{p:MP}{r c:Int}(h:r<0\/2<r\/c<0):BC p r c=0:=kZ h
theorem JC{p:MP}{r:Nat}(h:r<=2){l:List Int}(a:p.bO[r]?=K l):BC p r c=l.getD c 0:=by
 unfold BC;have e:p.bO.getD r []=l:=by rw[kL,a];rfl
 rw[kP oM,kA,kA,e]
theorem Gf(h:q:=by go_enter func55,ntmps55;go_wp2;go_ret;exact⟨rfl,HB⟩):q:=h
theorem IG(v:VP)(p:MP)(r c:Int)(w:Y)(L:p.small)(A:p.bO.length=3)(I:Dg r)(E:Dg c)(h:Da w v p):
 Ai Ap 55 #[Am #[v.r,v.k,v.f,v.t],r,c] w λe w'=>e=Al (BC p r c)/\Ah w w w':=by
 have T:-9223372036854775808<=r/\r<=9223372036854775807:=by simpa[Dg,Lit.wf,IntKind.min,IntKind.max,IntKind.signed,IntKind.bits]using I
 have R:-9223372036854775808<=c/\c<=9223372036854775807:=by simpa[Dg,Lit.wf,IntKind.min,IntKind.max,IntKind.signed,IntKind.bits]using E
 obtain⟨r0,r1⟩:=T;obtain⟨c0,c1⟩:=R;clear I E;obtain⟨O,vk,vf,vt⟩:=v;obtain⟨xs,B,s,H⟩:=h.bO;simp only[]at s;rw[A]at s;have N:xs.length=3:=by rw[<-A,<-B];simp
 have b:Ae (Rd w 1 O 3 (Ad BW xs)/\xs.map Prod.fst=p.bO/\(∀x∈xs,Rd w 1 x.2 x.1 (x.1.flatMap As))/\(∀l∈p.bO,l.length<=1048576)/\xs.length=3):=⟨s,B,H,L.region,N⟩
 clear s B H N L h A;have HB:Ae _:=(Wl.of w 36 #[O,vk,vf,vt] rfl).e8;by_cases U:r<0
 . rw[Fo (.inl U)];exact Gf
 by_cases V:2<r
 . rw[Fo (.inr (.inl V))];exact Gf
 by_cases W:c<0
 . rw[Fo (.inr (.inr W))];exact Gf
 obtain⟨i,rfl⟩:=kX (show 0<=r from oM);obtain⟨j,rfl⟩:=kX (show 0<=c from oM);obtain⟨⟨l,y⟩,u⟩:∃x,xs[i]?=K x:=⟨_,an (by rw[b.2.2.2.2];omega)⟩;have q:=Bo b.2.1 u;have a:=b.2.2.1 _ (i7 u);have S:=b.2.2.2.1 _ (i7 q);simp only[]at q a S;rw[JC oM q];rcases b.1.2 with⟨P,_⟩|⟨g,o,cc,Q,F⟩
 . omega
 subst Q;have a0:=Rd.elem A5 F i _ u 0 _ rfl;rw[lN,kJ]at a0;simp only[]at a0;clear F u q;obtain⟨ay,cy,rfl⟩:=a.dk;have a1:=(HB.cell (hC a0)).trans a0;by_cases X:j< ↑l
 . obtain⟨z,C⟩:∃z,l[j]?=K z:=⟨_,an X⟩;(have d:l.getD j 0=z:=by rw[kL,C];rfl);rw[d];rcases a.2 with⟨P,_⟩|⟨g2,o2,c2,D,G⟩
   . omega
   simp only[i8,lB]at D;obtain⟨rfl,rfl⟩:=D;have m:=Rd.elem AA G j z C 0 _ rfl;rw[lN,kJ]at m;have b1:=(HB.cell (hC m)).trans m;clear G C m a0 d;have HY:Ae _:=a;clear a;generalize l.length=n at*;exact Gf
 have d:l.getD j 0=0:=by rw[kL,kW oM];rfl
 rw[d];clear d a0 a;generalize l.length=n at*;exact Gf
end Go.Proofs.YtmalfecapdmdbaaGreat
