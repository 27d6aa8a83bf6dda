import Derived.Test.YtjnglocdoljgkaaGreatSw1
import Derived.Deep.Cut
import Derived.Deep.CutRange
import Derived.Deep.RegionHeld
import Derived.StillTail
namespace Go.Proofs.YtjnglocdoljgkaaGreat
open Go.ChangeShapes Go.WideShapes Go.ChangeAt Go.RowKit
set_option linter.unusedVariables false
open Option renaming some → K,none → M
open Go renaming Value → J,World → Y,TypeId → Af,Calls → Ae
open Go.RowKit renaming Below → Ad,Hid → Aa
open Go.IntKind renaming i64 → Ab
open Go.Value renaming int → Ac,slice → Z
set_option maxHeartbeats 2000000
set_option maxRecDepth 100000
variable {q:Prop}{b B base k i g f id:Nat}{e t:Af}{a:Act}{w c:Y}{x y z s v:J}{α:Type}{xs:List J}{d:Array Bool}{rs:List Nat}{R:Nat->Prop}
def AC(e:Ending)(q:Prop):Prop:=∃b,e=.returned (.bool b)/\(b=true↔q)
theorem AC.ik(h:q):AC (.returned (.bool true)) q:=⟨_,rfl,by simp[h]⟩
theorem AC.no(h:¬q):AC (.returned (.bool false)) q:=⟨_,rfl,by simp[h]⟩
theorem AC.of{b:Bool}(h:b=true↔q):AC (.returned (.bool b)) q:=⟨_,rfl,h⟩
theorem AC.iff{e:Ending}{a:Prop}(h:AC e q)(g:q↔a):AC e a:=by obtain⟨b,rfl,f⟩:=h;exact⟨b,rfl,f.trans g⟩
structure DU(w:Y)(b:Nat)(x y z t:J):Prop where
 c0:w.cell? b=K x
 c1:w.cell? ⟨b,1,M⟩=K y
 c2:w.cell? ⟨b,2,M⟩=K z
 c3:w.cell? ⟨b,3,M⟩=K t
theorem DU.lt{t:J}(h:DU w b x y z t):b<w.heap.size:=jC h.c0
theorem DU.bM{e:Y}{t:J}(h:DU w b x y z t)(a:Ad w w e):DU e b x y z t:=⟨by rw[a.cell h.lt];exact h.c0,by rw[a.cell h.lt];exact h.c1,by rw[a.cell h.lt];exact h.c2,by rw[a.cell h.lt];exact h.c3⟩
theorem DU.new(w:Y)(x y z t:J)(ty:Af):DU (w.alloc (.cells #[x,y,z,t] ty)) w x y z t:=by have h:=mQ (base:=w) (e:=ty) (size:=4) w #[x,y,z,t] 1 lR oX sP;exact⟨h.cellAt 0 oM,h.cellAt 1 oM,h.cellAt 2 oM,h.cellAt 3 oM⟩
theorem DU.alloc{t:J}(h:DU w b x y z t)(o:Obj):DU (w.alloc o) b x y z t:=h.bM ((lQ _ _).alloc lR _)
theorem Ag(w:Y)(o:Obj):Ad w w (w.alloc o):=(lQ _ _).alloc lR _
theorem Aj(w:Y):Ad w w w.drew:=⟨rfl,rfl,rfl,Nat.le_refl _, λ_ _=>rfl⟩
theorem Ai{w u a:Y}(h:Ad B w u)(e:B<= ↑w)(b:Ad u u a):Ad B w a:=h.trans (b.mono (kT e h.size))
theorem N1(q:α->Bool)(a:List α)(k:Nat)(x:α)(e:a[k]?=K x)(h:(a.take k).all q=true):(a.take (k+1)).all q=q x:=by obtain⟨b,rfl⟩:=iV.1 e;rw[lH b,List.all_append,h];simp
theorem Q9(q:α->Bool)(a:List α)(x:α)(b:x∈a)(h:q x=false):a.all q=false:=by rw[List.all_eq_false];exact⟨x,b,by simp[h]⟩
theorem FE(s:J)(a:List Int)(w:Y)(F:a.length<=1048576)(h:Rd w 1 s a (a.flatMap Ah)):
 Ae Tryz.prog 21 #[s] w λe H=>e=.returned (.bool (a.all DC))/\H=w:=by
 have j:Aa (Rd w 1 s a (a.flatMap Ah)):=h;obtain⟨I,c1,rfl⟩:=h.fu;clear h;generalize z:a.length=n at F j;have l:Aa (a.length=n):=z;clear z;generalize b:a.all DC=R;have HR:Aa (a.all DC=R):=b;clear b;go_enter Tryz.func21,Tryz.ntmps21;go_wp2;go_loopw [3] (λi wr=>∃k:Nat,k<=n/\i=Ac Ab k/\Aa ((a.take k).all DC=true)/\wr=w) (λi _=>n-(intOf i).toNat)
 case atStart=>exact⟨0,oM,rfl,by simp[Aa],rfl⟩
 obtain⟨k,L,rfl,p,rfl⟩:=hrel;by_cases D:k<n
 . obtain⟨x,f⟩:∃x,a[k]?=K x:=⟨_,an (by rw[l.o];exact D)⟩;rcases j.o.2 with⟨e0,_⟩|⟨g,o,c,y,A⟩
   . omega
   simp only[jc,lO]at y;obtain⟨rfl,rfl⟩:=y;have G:=Rd.elem Ao A k x f 0 _ rfl;rw[lr,kZ]at G;have t:Aa (a[k]?=K x):=f;clear A f;go_wp2_with fail;refine(D7 x wr).mono ?_;rintro e u ⟨rfl,rfl⟩;cases hq:DC x with
   | false=>(have b:R=false:=by rw[<-HR.o];exact Q9 _ _ _ (i8 t.o) hq);subst b;clear hq;go_wp2;go_ret;exact⟨rfl,rfl⟩
   | true=>(have B:Aa ((a.take (k+1)).all DC=true):=by show _=_;rw[N1 _ _ _ _ t.o p.o];exact hq);clear hq;go_wp2;go_roundw;(case rel=>exact⟨k+1,oM,by go_num,B,by trivial⟩);exact oI
 have C:k=n:=oM;subst C;have b:R=true:=by rw[<-HR.o,<-p.o,<-l.o,List.take_length]
 subst b;go_wp2;go_ret;exact⟨rfl,rfl⟩
theorem Bz{k n:Nat}(h:w.ownsRow base e k s n xs):(s=Z M 0 0/\n=0)\/∃g c,s=Z (K ⟨g,0,M⟩) n c:=by
 rcases h.2 with h|⟨g,cap,a,rfl,b,_⟩
 . exact .inl h
 exact .inr ⟨g,cap,rfl⟩
theorem Az{k n:Nat}(h:w.ownsRow base e k s n xs):∃a c,s=Z a n c:=by rcases Bz h with⟨rfl,rfl⟩|⟨g,c,rfl⟩<;>exact⟨_,_,rfl⟩
def FQ(x y:J):Prop:=x=y\/∃k a b,x=Ac k a/\y=Ac k b
theorem FQ.refl(x:J):FQ x x:=.inl rfl
theorem FQ.trans(h:FQ x y)(f:FQ y z):FQ x z:=by
 rcases h with rfl|⟨k,a,b,rfl,rfl⟩
 . exact f
 rcases f with rfl|⟨i,a',g,e,rfl⟩
 . exact .inr ⟨k,a,b,rfl,rfl⟩
 cases e
 exact .inr ⟨k,a,g,rfl,rfl⟩
theorem FQ.int{k:IntKind}{a:Int}(h:FQ (Ac k a) y):∃b,y=Ac k b:=by
 rcases h with rfl|⟨g,a',f,e,rfl⟩
 . exact⟨_,rfl⟩
 cases e
 exact⟨_,rfl⟩
theorem FQ.slice{a:Option Addr}{n c:Nat}(h:FQ (Z a n c) y):y=Z a n c:=by
 rcases h with rfl|⟨f,a',b,e,rfl⟩
 . rfl
 cases e
def Gk(xs a:Array J):Prop:=xs.size=a.size/\∀(i:Nat) x y,xs[i]?=K x->a[i]?=K y->FQ x y
theorem Gk.refl(xs:Array J):Gk xs xs:=⟨rfl, λi x y h1 h2=>by rw[h1]at h2;exact .inl (kN h2)⟩
theorem Gk.at{xs a:Array J}(h:Gk xs a)(e:xs[i]?=K x):∃y,a[i]?=K y/\FQ x y:=by
 have b:i<a.size:=by rw[<-h.1];exact(lC.1 e).1
 exact⟨_,nz b,h.2 i x _ e (nz b)⟩
theorem Gk.trans{xs b zs:Array J}(h:Gk xs b)(a:Gk b zs):Gk xs zs:=by refine⟨h.1.trans a.1, λi x z f j=> ?_⟩;obtain⟨y,g,e⟩:=h.at f;exact e.trans (a.2 i y z g j)
structure Fe(w w':Y):Prop where
 size:(w:Nat)<= ↑w'
 block:∀(k:Nat) (cur:Array J) (t:Af),w.heap[k]?=K (Obj.cells cur t (0,0))->∃cur',w'.heap[k]?=K (Obj.cells cur' t (0,0))/\Gk cur cur'
theorem Fe.refl(w:Y):Fe w w:=⟨Nat.le_refl _, λk a t h=>⟨a,h,.refl _⟩⟩
theorem Fe.trans{w u v:Y}(h:Fe w u)(a:Fe u v):Fe w v:=by refine⟨kT h.size a.size, λk f t g=> ?_⟩;obtain⟨c1,h1,b⟩:=h.block k f t g;obtain⟨c2,h2,e⟩:=a.block k c1 t h1;exact⟨c2,h2,b.trans e⟩
theorem Fe.iw{b:Y}(h:Ad w w b):Fe w b:=⟨h.size, λk e t a=>⟨e,by rw[h.block k (lC.1 a).1];exact a,.refl _⟩⟩
structure Fz(lo hi:Nat)(w w':Y):Prop where
 os:w'.os=w.os
 tape:w'.tape=w.tape
 output:w'.output=w.output
 size:(w':Nat)= ↑w
 o:∀(k:Nat),k<lo\/hi<=k->w'.heap[k]?=w.heap[k]?
 shaped:Fe w w'
theorem Fz.refl(b a:Nat)(w:Y):Fz b a w w:=⟨rfl,rfl,rfl,rfl, λ_ _=>rfl,.refl _⟩
theorem Fz.trans{e:Nat}{w u v:Y}(h:Fz e b w u)(a:Fz e b u v):Fz e b w v:=⟨a.os.trans h.os,a.tape.trans h.tape,a.output.trans h.output,a.size.trans h.size, λk f=>(a.o k f).trans (h.o k f),h.shaped.trans a.shaped⟩
theorem Fz.below{a e:Nat}{b:Y}(h:Fz a e w b):Ad a w b:=⟨h.os,h.tape,h.output,Nat.le_of_eq h.size.symm, λk f=>h.o k (.inl f)⟩
theorem Fz.drew{a:Nat}{e:Y}(h:Fz b a w e)(n:Nat):Fz b a w (e.drewN n):=⟨h.os,h.tape,h.output,h.size,h.o,⟨h.shaped.size,h.shaped.block⟩⟩
theorem Fz.set{q n:Nat}{h:Array J}(m:w.heap[g]?=K (Obj.cells h t (0,0)))(p:h[i]?=K x)(r:FQ x v)(u:q<=g)(y:g<n):Fz q n w (w.setCell ⟨g,i,M⟩ v):=by
 refine⟨rfl,rfl,rfl,sP, λk f=>lZ w _ k v oS,sP, λk c' z f=> ?_⟩;by_cases e:k=g
 . subst e;rw[m]at f;simp only[kK,mh,mg]at f;obtain⟨rfl,rfl⟩:=f;refine⟨_,heap_setCell_same w k i h t v m,sP, λj a b h1 h2=> ?_⟩;by_cases l:j=i
   . subst l;rw[p]at h1;obtain rfl:=kN h1;have s:=(lC.1 p).1;rw[Array.getElem?_setIfInBounds_self_of_lt s]at h2;obtain rfl:=kN h2;exact r
   rw[Array.getElem?_setIfInBounds_ne (Ne.symm l),h1]at h2;exact .inl (kN h2)
 exact⟨c',by rw[lZ w _ k v e];exact f,.refl _⟩
structure GU(lo hi:Nat)(w w':Y):Prop where
 os:w'.os=w.os
 tape:w'.tape=w.tape
 output:w'.output=w.output
 size:(w:Nat)<= ↑w'
 o:∀(k:Nat),k< ↑w->k<lo\/hi<=k->w'.heap[k]?=w.heap[k]?
 shaped:Fe w w'
theorem GU.of{e:Nat}{w u g:Y}(a:Ad B w u)(b: ↑w<=B)(h:Fz f e u g):GU f e w g:=⟨h.os.trans a.os,h.tape.trans a.tape,h.output.trans a.output,by rw[h.size];exact a.size, λk j i=>(h.o k i).trans (a.block k (lm j b)),(Fe.iw (a.mono b)).trans h.shaped⟩
theorem GU.below{a:Nat}{e:Y}(h:GU a f w e)(g:a<= ↑w):Ad a w e:=⟨h.os,h.tape,h.output,h.size, λk b=>h.o k (lm b g) (.inl b)⟩
theorem GU.cell{g:Y}(h:GU f b w g){a:Addr}(e:w.cell? a=K x)(i:a.block<f\/b<=a.block):g.cell? a=K x:=by have:=h.o a.block (jC e) i;unfold World.cell? at*;rw[this];exact e
theorem GU.own{t:Nat}{j:Y}(h:GU t f w j){k n:Nat}(i:w.ownsRow B e k s n xs)(q:f<=B):j.ownsRow B e k s n xs:=by
 refine⟨i.1,?_⟩;rcases i.2 with p|⟨g,cap,l,m,a,b,r⟩
 . exact .inl p
 refine .inr ⟨g,cap,l,m,a,?_,r⟩;rw[h.o g (lC.1 b).1 (.inr (kT q a))];exact b
theorem An{P:Program}{c:Code}{Q:Exit->Act->Y->Prop}{U:Y}(R:Y->Prop)(h:R U)(k:∀u,R u->Code.wp P c Q a u):Code.wp P c Q a U:=k U h
theorem RA{xs a:List α}{x y:α}(h1:xs[k]?=K x)(h2:a[k]?=K y)(h:¬x=y):¬xs=a:=by rintro rfl;rw[h1]at h2;exact h (kN h2)
theorem MO{xs a:List α}{x:α}(h1:xs[k]?=K x)(h2:a[k]?=K x)(h:∀j,j<k->xs[j]?=a[j]?):∀j,j<k+1->xs[j]?=a[j]?:=by
 intro j b;by_cases e:j=k
 . subst e;rw[h1,h2]
 exact h j oM
theorem Pm{xs a:List α}{n:Nat}(h1: ↑xs=n)(h2: ↑a=n)(h:∀j,j<n->xs[j]?=a[j]?):xs=a:=by
 apply mV;intro j;by_cases b:j<n
 . exact h j b
 rw[lB oM,lB oM]
theorem Dv(s D:J)(xs a:List Int)(w:Y)(T:xs.length<=1048576)(W:a.length<=1048576)(h:Rd w 1 s xs (xs.flatMap Ah))(z:Rd w 1 D a (a.flatMap Ah)):
 Ae Tryz.prog 17 #[s,D] w λe w'=>AC e (xs=a)/\∃m,w'=w.drewN m:=by
 have t:Aa (Rd w 1 s xs (xs.flatMap Ah)):=h;have f:Aa (Rd w 1 D a (a.flatMap Ah)):=z;obtain⟨a1,c1,rfl⟩:=h.fu;obtain⟨a2,c2,rfl⟩:=z.fu;clear h z;by_cases b:xs.length= ↑a
 . rw [<-b]at f;rw[<-b];clear W;generalize A:xs.length=n at T t f;have l:Aa (↑xs=n/\ ↑a=n):=⟨A,b▸A⟩
   clear A b;go_enter Tryz.func17,Tryz.ntmps17;go_wp2;go_loopw [5] (λi wr=>∃k:Nat,k<=n/\i=Ac Ab k/\Aa (∀j,j<k->xs[j]?=a[j]?)/\∃m,wr=w.drewN m) (λi _=>n-(intOf i).toNat)
   (case atStart=>exact⟨0,oM,rfl, λj hj=>oM,0,rfl⟩);obtain⟨k,hk,rfl,F,m,rfl⟩:=hrel;by_cases N:k<n
   . obtain⟨x,B⟩:∃x,xs[k]?=K x:=⟨_,an (by rw[l.o.1];exact N)⟩;obtain⟨y,C⟩:∃y,a[k]?=K y:=⟨_,an (by rw[l.o.2];exact N)⟩;rcases t.o.2 with⟨e0,_⟩|⟨g,o,c,G,I⟩
     . omega
     rcases f.o.2 with⟨e0,_⟩|⟨g',o',c',H,L⟩
     . omega
     simp only[jc,lO]at G H;obtain⟨rfl,rfl⟩:=G;obtain⟨rfl,rfl⟩:=H;have i0:=Rd.elem Ao I k x B 0 _ rfl;have j0:=Rd.elem Ao L k y C 0 _ rfl;rw[lr,kZ]at i0 j0;have p:Aa (xs[k]?=K x/\a[k]?=K y):=⟨B,C⟩
     clear I L B C;by_cases Q:x=y
     . subst Q;go_wp2;go_quiet (fail);go_wp2;go_roundw;(case rel=>exact⟨k+1,oM,by go_num,MO p.o.1 p.o.2 F.o,_,rfl⟩);exact oI
     go_wp2;go_quiet (fail);go_wp2;go_ret;exact⟨.no (RA p.o.1 p.o.2 Q),m+nq,World.drewN_drewN _ _ _⟩
   have S:k=n:=oM;subst S;go_wp2;go_ret;exact⟨.ik (Pm l.o.1 l.o.2 F.o),_,rfl⟩
 have O:¬xs=a:= λe=>b (by rw[e])
 clear t f;generalize xs.length=n at*;generalize a.length=n' at*;have R:Aa (¬xs=a):=O;clear O;have hi:¬(n:Int)=(n':Int):=oM;go_enter Tryz.func17,Tryz.ntmps17;go_wp2;go_ret;exact⟨.no R.o,0,rfl⟩
theorem Lo(s D:J)(xs a:List Int)(w:Y)(T:xs.length<=1048576)(W:a.length<=1048576)(h:Rd w 1 s xs (xs.flatMap Ah))(z:Rd w 1 D a (a.flatMap Ah)):
 Ae Tryz.prog 115 #[s,D] w λe w'=>AC e (xs=a)/\∃m,w'=w.drewN m:=by
 have t:Aa (Rd w 1 s xs (xs.flatMap Ah)):=h;have f:Aa (Rd w 1 D a (a.flatMap Ah)):=z;obtain⟨a1,c1,rfl⟩:=h.fu;obtain⟨a2,c2,rfl⟩:=z.fu;clear h z;by_cases b:xs.length= ↑a
 . rw [<-b]at f;rw[<-b];clear W;generalize A:xs.length=n at T t f;have l:Aa (↑xs=n/\ ↑a=n):=⟨A,b▸A⟩
   clear A b;go_enter Tryz.func115,Tryz.ntmps115;go_wp2;go_loopw [13] (λi wr=>∃k:Nat,k<=n/\i=Ac Ab k/\Aa (∀j,j<k->xs[j]?=a[j]?)/\∃m,wr=w.drewN m) (λi _=>n-(intOf i).toNat)
   (case atStart=>exact⟨0,oM,rfl, λj hj=>oM,0,rfl⟩);obtain⟨k,hk,rfl,F,m,rfl⟩:=hrel;by_cases N:k<n
   . obtain⟨x,B⟩:∃x,xs[k]?=K x:=⟨_,an (by rw[l.o.1];exact N)⟩;obtain⟨y,C⟩:∃y,a[k]?=K y:=⟨_,an (by rw[l.o.2];exact N)⟩;rcases t.o.2 with⟨e0,_⟩|⟨g,o,c,G,I⟩
     . omega
     rcases f.o.2 with⟨e0,_⟩|⟨g',o',c',H,L⟩
     . omega
     simp only[jc,lO]at G H;obtain⟨rfl,rfl⟩:=G;obtain⟨rfl,rfl⟩:=H;have i0:=Rd.elem Ao I k x B 0 _ rfl;have j0:=Rd.elem Ao L k y C 0 _ rfl;rw[lr,kZ]at i0 j0;have p:Aa (xs[k]?=K x/\a[k]?=K y):=⟨B,C⟩
     clear I L B C;by_cases Q:x=y
     . subst Q;go_wp2;go_quiet (fail);go_wp2;go_roundw;(case rel=>exact⟨k+1,oM,by go_num,MO p.o.1 p.o.2 F.o,_,rfl⟩);exact oI
     go_wp2;go_quiet (fail);go_wp2;go_ret;exact⟨.no (RA p.o.1 p.o.2 Q),m+nq,World.drewN_drewN _ _ _⟩
   have S:k=n:=oM;subst S;go_wp2;go_ret;exact⟨.ik (Pm l.o.1 l.o.2 F.o),_,rfl⟩
 have O:¬xs=a:= λe=>b (by rw[e])
 clear t f;generalize xs.length=n at*;generalize a.length=n' at*;have R:Aa (¬xs=a):=O;clear O;have hi:¬(n:Int)=(n':Int):=oM;go_enter Tryz.func115,Tryz.ntmps115;go_wp2;go_ret;exact⟨.no R.o,0,rfl⟩
structure Av(w:Y) where
 u:Y
 h:Ad w w u
theorem Av.some(w:Y):Nonempty (Av w):=⟨⟨w,lQ _ _⟩⟩
theorem AL{P:Program}{Q:Exit->Act->Y->Prop}{l:List Oper}(f:P.follows .mixedOrders=true)(e:Region.lexB .any l.toArray=true)
 (h:wpQuiet P l.toArray (λb=>∃n:Av w,b=n.u) (λa'=>∀b,(∃n:Av w,b=n.u)->Q .normal a' b) l a):(Code.region id l.toArray true).wp P Q a w:=
 wp_region_quiet (C:= λb=>∃n:Av w,b=n.u) f e ⟨⟨_,Aj w⟩,rfl⟩ (by simpa using h)
theorem AC.true{e:Ending}(h:AC e q)(f:q):e=.returned (.bool true):=by obtain⟨b,rfl,a⟩:=h;rw[a.2 f]
theorem AC.false{e:Ending}(h:AC e q)(f:¬q):e=.returned (.bool false):=by
 obtain⟨b,rfl,a⟩:=h;cases b
 . rfl
 exact absurd (a.1 rfl) f
theorem Av.cell{a:Addr}(h:w.cell? a=Option.some x)(n:Av w):n.u.cell? a=Option.some x:=by rw[n.h.cell (jC h)];exact h
def Ar(w:Y)(b:Nat)(a:Array J)(t:Af):Prop:=w.heap[b]?=K (.cells a t (0,0))
theorem Ar.new(w:Y)(a:Array J)(t:Af):Ar (w.alloc (.cells a t)) w a t:=oe
theorem Ar.lt{a:Array J}(h:Ar w b a t):b<w.heap.size:=(lC.1 h).1
theorem Ar.bM{e:Y}{a:Array J}(h:Ar w b a t)(f:Ad w w e):Ar e b a t:=by unfold Ar at*;rw[f.block b (lC.1 h).1];exact h
theorem Ar.cell{a:Array J}(h:Ar w b a t)(i:Nat):w.cell? ⟨b,i,M⟩=a[i]?:=nO w b i a t _ h
theorem Ar.frozen{a:Array J}(h:Ar w b a t)(i:Nat):w.frozen? ⟨b,i,M⟩=false:=frozen_of_row w b i a t h
theorem Ar.set{a:Array J}(h:Ar w b a t)(i:Nat)(x:J):Ar (w.setCell ⟨b,i,M⟩ x) b (a.setIfInBounds i x) t:=heap_setCell_same w b i a t x h
theorem Ar.other{e:Array J}(h:Ar w b e t){a:Addr}(f:b≠a.block)(x:J):Ar (w.setCell a x) b e t:=by unfold Ar at*;rw[lZ w a b x f];exact h
theorem Ar.grown{i:Y}{g:Array J}(h:Ar w b g t){m:Nat}{j:List J}(l:w.grownBy i v.ownBlock)(p:w.ownsRow B e k v m j)(n:t≠e):Ar i b g t:=by
 unfold Ar at*;rw[l.block b (lC.1 h).1 ?_]
 . exact h
 intro f;rcases p.2 with⟨rfl,_⟩|⟨s,q,r,rfl,_,a,_⟩
 . cases f
 simp only[Value.ownBlock,kK]at f;subst f;rw[h]at a;simp only[kK,mh]at a;exact n a.2.1
def Ay(f:MF)(k:Int):Int:=if k<0 then 0 else(f.d5++f.en).getD k.toNat 0
theorem Hd{f:MF}{k:Int}(h:k<0):Ay f k=0:=lS h
theorem J8{f:MF}{x:Int}(h:f.d5[k]?=K x):Ay f k=x:=by obtain⟨a,rfl⟩:=iV.1 h;unfold Ay;rw[lE oM,lD,kM,ld a,an a];rfl
theorem J6{f:MF}{x:Int}(h:f.en[k]?=K x):Ay f ((f.d5:Int)+k)=x:=by
 obtain⟨a,rfl⟩:=iV.1 h;unfold Ay;have e:((f.d5:Int)+k).toNat= ↑f.d5+k:=oM
 rw[lE oM,lD,e,lN oM,nI,an a];rfl
theorem J7{f:MF}{k:Int}(h:(f.d5:Int)+ ↑f.en<=k):Ay f k=0:=by unfold Ay;rw[lE oM,lD,lB (by rw[kJ];omega)];rfl
theorem Hz(h:q:=by go_enter Tryz.func42,Tryz.ntmps42;go_wp2;go_ret;exact⟨rfl,HB.o⟩):q:=h
theorem Ek(v:VF)(f:MF)(k:Int)(w:Y)(Q:f.small)(G:CO k)(h:Dt w v f):
 Ae Tryz.prog 42 #[.agg #[v.p,Ac Ab f.gz,v.l,v.c],Ac Ab k] w λe w'=>e=.returned (Ac Ab (Ay f k))/\Ad w w w':=by
 have O:-9223372036854775808<=k/\k<=9223372036854775807:=by simpa[CO,Lit.wf,IntKind.min,IntKind.max,IntKind.signed,IntKind.bits]using G
 obtain⟨k0,k1⟩:=O;obtain⟨s1,s2,W⟩:=Q;have C:Aa (Dt w v f):=h;obtain⟨N,c1,b⟩:=h.1.fu;obtain⟨a2,c2,D⟩:=h.2.1.fu;obtain⟨vp,vl,vc⟩:=v;simp only[]at b D;subst b;subst D;clear h G W;have B:=Wn.of w 51 #[Z N f.d5 c1,Ac Ab f.gz,Z a2 f.en c2,vc] rfl;have HB:Aa _:=B.gG;clear B;generalize H: ↑f.d5=t at*
 generalize I: ↑f.en=L at*
 have i:Aa (↑f.d5=t/\ ↑f.en=L):=⟨H,I⟩
 clear H I;by_cases S:k<0
 . rw[Hd S];exact Hz
 obtain⟨j,rfl⟩:=kU (show 0<=k from oM);by_cases T:j<t
 . obtain⟨x,s⟩:∃x,f.d5[j]?=K x:=⟨_,an (by rw[i.o.1];exact T)⟩;rw[J8 s];rcases C.o.1.2 with⟨e0,_⟩|⟨g,o,c,b,y⟩
   . rw[i.o.1]at e0;omega
   simp only[jc]at b;obtain⟨rfl,A,rfl⟩:=b;clear A;have a:=Rd.elem Ao y j x s 0 _ rfl;rw[lr,kZ]at a;have R:=(HB.o.cell (jC a)).trans a;clear y s a;exact Hz
 by_cases q2:j<t+L
 . obtain⟨x,s⟩:∃x,f.en[j-t]?=K x:=⟨_,an (by rw[i.o.2];omega)⟩;have z:=J6 s;rw[i.o.1]at z;have F:((t:Int)+((j-t:Nat):Int))=(j:Int):=oM;rw[F]at z;rw[z];rcases C.o.2.1.2 with⟨e0,_⟩|⟨g,o,c,b,y⟩
   . rw[i.o.2]at e0;omega
   simp only[jc]at b;obtain⟨rfl,A,rfl⟩:=b;clear A;have a:=Rd.elem Ao y (j-t) x s 0 _ rfl;rw[lr,kZ]at a;have R:=(HB.o.cell (jC a)).trans a;clear y s a z F;exact Hz
 rw[J7 (by rw[i.o.1,i.o.2];omega)];exact Hz
section
variable {P:Program} {ops:Array Oper} {Q:Exit->Act->Y->Prop} {md:Region.Mode} {S:Y->Prop} {n:Nat}
def Do(P:Program)(md:Region.Mode)(ops:Array Oper)(Q:Exit->Act->Y->Prop)(S:Y->Prop)(n:Nat):Nat->Array Bool->Act->Y->Prop
 |0,d,a,w=>Region.ready md ops d=[]/\Q .normal a w
 |f+1,d,a,w=>(Region.ready md ops d=[]->Q .normal a w)/\∀i∈Region.ready md ops d,wpOp P ops Q i (λa' b=>(i<n->S b)/\Do P md ops Q S n f (d.setIfInBounds i true) a' b) a w
theorem Lw:∀(f:Nat) (d:Array Bool) (a:Act) (w:Y),Do P md ops Q S n f d a w->wpAny P md ops Q f d a w
 |0,_,_,_,h=>h
 |f+1,_,_,_,h=>⟨h.1, λi e=>wpOp_mono (λa' g b=>Lw f _ a' g b.2) (h.2 i e)⟩
theorem NH{m:Oper}(u:ops[i]?=K m)(D:∀(j:Nat) (o:Oper) cs b,ops[j]?=K o->o.op≠ .select cs b)
 (G:∀c a w,Q (.panic c) (a.put m.dst v) w->Q (.panic c) a w) (hs:Region.sinkB md ops n=true) (N:Region.chainB md ops n=true) (X:n<ops.size) (U:i<n):
 ∀ (f:Nat) (d:Array Bool) (a:Act) (w:Y),HeadInv md ops n d->
   (∀j p,ops[j]?=K p->j≠i->d.getD j true=false->(∀e∈p.after,Region.binds md e=true->e.on≠i)->m.apart ops p=true)->
   i∈Region.ready md ops d->YieldsIf P ops S m v a->S w->
   Do P md ops Q S n f (d.setIfInBounds i true) (a.put m.dst v) w->Do P md ops Q S n (f+1) d a w:=by
 intro f;induction f with
 | zero=>
   intro d a w _ _ l t r H;refine⟨λh=>(by rw[h]at l;cases l), λj q=> ?_⟩;by_cases g:j=i
   . subst g;exact t.wpOp u r ⟨λ_=>r,H⟩
   have:=ready_mono q g;rw[H.1]at this;cases this
 | succ f ih=>
   intro d a w F z l t r H;refine⟨λh=>(by rw[h]at l;cases l), λj q=> ?_⟩;by_cases g:j=i
   . subst g;exact t.wpOp u r ⟨λ_=>r,H⟩
   (have B:j<n:=Nat.lt_of_not_le λh=>tail_waits hs N X F _ i rfl U (mem_ready.1 l).1 j h q);have h1:=H.2 j (ready_mono q g);obtain⟨C,p,y,I⟩:=mem_ready.1 q;(have ae:∀e∈p.after,Region.binds md e=true->e.on≠i:= λe O L R=>by have h1:=I e O L;rw[R,getD_both (mem_ready.1 l).1]at h1;cases h1);have h2:=wpOp_putIf y (z j p y g C ae) (λcs b=>D i m cs b u) (λcs b=>D j p cs b y) G t h1;have T:∀k ok,ops[k]?=K ok->k≠i->(d.setIfInBounds j true).getD k true=false->
    (∀e∈ok.after,Region.binds md e=true->e.on≠i)->m.apart ops ok=true:= λk ok V W E a8=>by
    refine z k ok V W ?_ a8;by_cases A:j=k
    . subst A;exact C
    rw[getD_set_ne true A]at E;exact E
   refine wpOp_mono (λa' w' s=>⟨s.2.1,ih (d.setIfInBounds j true) a' w' (F.set q B) T (ready_mono l (Ne.symm g)) s.1 (s.2.1 B) ?_⟩) h2;rw[Array.setIfInBounds_comm _ _ g];exact s.2.2
def Rk(md:Region.Mode)(ops:Array Oper)(n:Nat)(d:Array Bool):Bool:=d.size==ops.size&&(List.range ops.size).all (λj=> !d.getD j false||((ops[j]?).map (·.after.all λe=> !Region.binds md e||d.getD e.on false)).getD true)&&(List.range ops.size).all (λt=>decide (t<n)|| !d.getD t true)&&Region.sinkB md ops n&&Region.chainB md ops n&&decide (n<ops.size)
theorem Qk(h:Rk md ops n d=true):HeadInv md ops n d/\Region.sinkB md ops n=true/\Region.chainB md ops n=true/\n<ops.size:=by
 simp only[Rk,nL,mi,beq_iff_eq]at h;obtain⟨⟨⟨⟨⟨h1,h2⟩,b⟩,f⟩,g⟩,i⟩:=h;refine⟨⟨h1, λj r a m e l k=> ?_, λt q p=> ?_⟩,f,g,i⟩
 . have:=nC.1 h2 j (mz.2 (lC.1 a).1);rw[m,a]at this;simp only[Bool.not_true,Bool.false_or,nW,nT]at this;have:=Array.all_eq_true'.1 this e l;rw[k]at this;simpa using this
 have:=nC.1 b t (mz.2 p);rw[mj oM]at this;simpa using this
theorem Pr{e:Oper}(g:ops[i]?=K e)
 (r:Region.noSelect ops=true) (m:Region.free md ops d i=true) (q:(Region.ready md ops d).contains i=true) (l:Rk md ops n d=true) (p:i<n)
 (j:∀c a w,Q (.panic c) (a.put e.dst v) w->Q (.panic c) a w) (s:YieldsIf P ops S e v a) (k:S w)
 (h:Do P md ops Q S n f (d.setIfInBounds i true) (a.put e.dst v) w):Do P md ops Q S n (f+1) d a w:=
 have b:=Qk l
 NH g (Region.noSelect_spec r) j b.2.1 b.2.2.1 b.2.2.2 p f d a w b.1 (Region.free_spec g m) (by simpa using q) s k h
def B7(P:Program)(md:Region.Mode)(ops:Array Oper)(Q:Exit->Act->Y->Prop)(S:Y->Prop)(n f:Nat)(d:Array Bool)(a:Act)(w:Y)(rs:List Nat):Prop:=∀i∈rs,wpOp P ops Q i (λa' b=>(i<n->S b)/\Do P md ops Q S n f (d.setIfInBounds i true) a' b) a w
theorem B7.nil:B7 P md ops Q S n f d a w []:= λ_ h=>by cases h
theorem B7.cons{o:Oper}(l:ops[i]?=K o)
 (h:∀b:Act->Y->Prop,Shut (∀a w,(i<n->S w)->((i<n->S w)->Do P md ops Q S n f (d.setIfInBounds i true) a w)->b a w)->if Region.wanted o (yielded ops a.tmps)=true then Oper.wp P o a w b Q else b (a.put o.dst undef) w)
 (m:B7 P md ops Q S n f d a w rs):B7 P md ops Q S n f d a w (i::rs):= λj e=>by
 rcases lA.1 e with rfl|e
 . have:=h (λa' k=>(j<n->S k)/\Do P md ops Q S n f (d.setIfInBounds j true) a' k) (show Shut _ from λa w h1 h2=>⟨h1,h2 h1⟩)
   unfold wpOp;simp only[l];split
   . rename_i g;simp only[g,if_true]at this;exact .inl this
   rename_i g;simp only[g]at this;exact this
 exact m j e
theorem GH(b:Region.ready md ops d=rs)(g:rs≠[])
 (h:B7 P md ops Q S n f d a w rs):Do P md ops Q S n (f+1) d a w:=⟨λe=>absurd (b▸e) g,b▸h⟩
theorem A5(b:Region.ready md ops d=[])(h:Q .normal a w):∀f,Do P md ops Q S n f d a w
 |0=>⟨b,h⟩
 |_+1=>⟨λ_=>h,by rw[b];simp⟩
theorem AF(n:Nat)(e:P.follows .mixedOrders=true)(b:S w.drew)
 (h:S w.drew->Do P .any ops Q S n ops.size (Array.replicate ops.size false) a w.drew):(Code.region id ops true).wp P Q a w:=
 wp_region_any e (Lw _ _ _ _ (h b))
end
theorem Fl{wr:Y}(h:w.grownBy wr (K g))(i:Nat)(x:J):w.grownBy (wr.setCell ⟨g,i,M⟩ x) (K g):=⟨h.os,h.tape,h.output,by rw[mB];exact h.size, λk b a=>(lZ wr _ k x (λe=>a (by rw[e]))).trans (h.block k b a)⟩
theorem BG{b:Y}{k n:Nat}{row:Option Nat}(h:w.ownsRow base e k s n xs)(j:w.grownBy b row)(l:∀g,s.ownBlock=K g->K g≠row):b.ownsRow base e k s n xs:=by
 refine⟨h.1,?_⟩;rcases h.2 with h|⟨g,cap,f,rfl,i,a,m⟩
 . exact .inl h
 refine .inr ⟨g,cap,f,rfl,i,?_,m⟩;rw[j.block g (lC.1 a).1 (l g rfl)];exact a
def IG(x y:J×List Int):Prop:=∀g,x.1.ownBlock=K g->y.1.ownBlock≠K g
theorem IG.symm{x y:J×List Int}(h:IG x y):IG y x:= λg a e=>h g e a
structure CU(w:Y)(base:Nat)(L:List (J×List Int)):Prop where
 own:∀x∈L,w.ownsRow base 2 1 x.1 x.2 (x.2.flatMap Ah)
 sep:L.Pairwise IG
structure Wv(base:Nat)(w w':Y):Prop where
 gG:Ad base w w'
 gR:∀(k:Nat) (cur:Array J) (t:Af),w.heap[k]?=K (Obj.cells cur t (0,0))->t≠2->w'.heap[k]?=K (Obj.cells cur t (0,0))
theorem Wv.refl(base:Nat)(w:Y):Wv base w w:=⟨lQ _ _, λ_ _ _ h _=>h⟩
theorem Wv.trans{u v w:Y}(h:Wv base u v)(b:Wv base v w):Wv base u w:=⟨h.gG.trans b.gG, λk a t e h1=>b.gR k a t (h.gR k a t e h1) h1⟩
theorem Wv.own{i:Y}(h:Wv base w i){k n:Nat}(f:w.ownsRow b e k s n xs)(h1:e≠2):i.ownsRow b e k s n xs:=by
 refine⟨f.1,?_⟩;rcases f.2 with l|⟨g,cap,a,j,m,p,q⟩
 . exact .inl l
 exact .inr ⟨g,cap,a,j,m,h.gR g a e p h1,q⟩
theorem CU.put{l:Y}{A B:List (J×List Int)}{c c':List Int}(h:CU w base (A++(v,c)::B))(r:c'.length= ↑c)(s:l.ownsRow base 2 1 v c (c'.flatMap Ah))(n:w.grownBy l v.ownBlock):CU l base (A++(v,c')::B):=by
 obtain⟨u,z,k⟩:=mP.1 h.sep;obtain⟨p,C⟩:=mH.1 z;refine⟨λx f=> ?_,mP.2 ⟨u,mH.2 ⟨λy t=>p y t,C⟩, λa m b i=> ?_⟩⟩
 . rcases kS.1 f with f|f
   . exact BG (h.own x (kS.2 (.inl f))) n (λg j e=>k x f (v,c) sP g j e.symm)
   rcases lA.1 f with rfl|f
   . simp only[];rw[r];exact s
   exact BG (h.own x (kS.2 (.inr (lX _ f)))) n (λg j e=>p x f g e.symm j)
 rcases lA.1 i with rfl|i
 . exact λg q=>k a m (v,c) sP g q
 exact k a m b (lX _ i)
theorem Hq(w:Y)(cs:Array J)(t:Af):(w.alloc (.cells cs t)).heap[w.heap.size]?=K (.cells cs t (0,0)):=oe
theorem CS(s:ByteArray)(c f:Int)(w:Y):(Instr.field 143 (.agg #[.string s,Ac Ab c,Ac Ab f]) 2).run Tryz.prog w=.ok (Ac Ab f) w:=kR
theorem GO{m:List MF}{q:Nat}{f:MF}(h:NX w s m)(i:m[q]?=K f):∃b ok k,s=Z (K ⟨b,ok,M⟩) m k/\∃g:VF,Dt w g f/\w.cell? ⟨b,ok+q*4,M⟩=K g.p/\w.cell? ⟨b,ok+q*4+1,M⟩=K (Ac Ab f.gz)/\w.cell? ⟨b,ok+q*4+2,M⟩=K g.l/\w.cell? ⟨b,ok+q*4+3,M⟩=K g.c:=by
 obtain⟨xs,h1,h2,n⟩:=h;have t:=(iV.1 i).1;rcases h2.2 with⟨e,_⟩|⟨b,ok,k,e,j⟩
 . omega
 obtain⟨x,a,r⟩:∃x,xs[q]?=K x/\x.1=f:=by
  rw[<-h1,lG]at i;cases a:xs[q]? with
  |none=>rw[a]at i;cases i
  |some x=>rw[a]at i;exact⟨x,rfl,kN i⟩
 subst r;exact⟨b,ok,k,e,x.2,n x (i8 a),Rd.elem Aq j q x a 0 _ rfl,Rd.elem Aq j q x a 1 _ rfl,Rd.elem Aq j q x a 2 _ rfl,Rd.elem Aq j q x a 3 _ rfl⟩
theorem KL{is:List MI}{q:Nat}{x:MI}(h:Rd w 4 s is (is.flatMap MI.cells))(g:is[q]?=K x):∃f ok j,s=Z (K ⟨f,ok,M⟩) is j/\w.cell? ⟨f,ok+q*4,M⟩=K (Ac Ab x.op)/\w.cell? ⟨f,ok+q*4+1,M⟩=K (Ac Ab x.a)/\w.cell? ⟨f,ok+q*4+2,M⟩=K (Ac Ab x.b)/\w.cell? ⟨f,ok+q*4+3,M⟩=K (Ac Ab x.c):=by
 have k:=(iV.1 g).1;rcases h.2 with⟨e,_⟩|⟨f,ok,j,e,i⟩
 . omega
 exact⟨f,ok,j,e,Rd.elem MI.gH i q x g 0 _ rfl,Rd.elem MI.gH i q x g 1 _ rfl,Rd.elem MI.gH i q x g 2 _ rfl,Rd.elem MI.gH i q x g 3 _ rfl⟩
structure DV(R:Nat->Prop)(u u':Y):Prop where
 os:u'.os=u.os
 tape:u'.tape=u.tape
 output:u'.output=u.output
 size:(u:Nat)<= ↑u'
 block:∀k,k< ↑u->¬R k->u'.heap[k]?=u.heap[k]?
theorem DV.of{u a:Y}(h:Ad u u a):DV R u a:=⟨h.os,h.tape,h.output,h.size, λk b _=>h.block k b⟩
theorem DV.refl(R:Nat->Prop)(u:Y):DV R u u:=⟨rfl,rfl,rfl,Nat.le_refl _, λ_ _ _=>rfl⟩
theorem DV.trans{i:Nat->Prop}{a b:Y}(h:DV R a b)(f:DV i b c)(l:∀k,k< ↑a->i k->R k):DV R a c:=⟨f.os.trans h.os,f.tape.trans h.tape,f.output.trans h.output,kT h.size f.size, λk g j=>(f.block k (lm g h.size) (λe=>j (l k g e))).trans (h.block k g j)⟩
theorem DV.below{a b:Y}(h:DV R a b)(g:B<= ↑a)(e:∀k,k<B->¬R k):Ad B a b:=⟨h.os,h.tape,h.output,h.size, λk f=>h.block k oM (e k f)⟩
theorem DV.gR{a b:Y}(h:DV R a b){e:Array J}{ty:Af}(f:Ar a g e ty)(i:¬R g):Ar b g e ty:=by unfold Ar at*;rw[h.block g (lC.1 f).1 i];exact f
theorem DV.setCell{a b:Y}(h:DV R a b){ad:Addr}(f:R ad.block\/ ↑a<=ad.block)(x:J):DV R a (b.setCell ad x):=by
 refine⟨h.os,h.tape,h.output,by rw[mB];exact h.size, λk i g=> ?_⟩;have j:k≠ad.block:= λe=>by
  rcases f with f|f
  . exact g (e▸f)
  omega
 rw[Below.heap_setCell _ _ _ _ j];exact h.block k i g
theorem DV.mono{f:Nat->Prop}{a b:Y}(h:DV R a b)(i:∀k,k< ↑a->R k->f k):DV f a b:=⟨h.os,h.tape,h.output,h.size, λk g j=>h.block k g (λe=>j (i k g e))⟩
theorem DV.grown{a b:Y}(h:DV R a b){r:Option Nat}(f:b.grownBy c r)(j:∀k,k< ↑a->K k=r->R k):DV R a c:=⟨f.os.trans h.os,f.tape.trans h.tape,f.output.trans h.output,kT h.size f.size, λk g i=>(f.block k (lm g h.size) (λe=>i (j k g e))).trans (h.block k g i)⟩
theorem DV.own{u i:Y}(m:DV R u i){k n:Nat}(h:u.ownsRow B e k s n xs)(p:∀b,s.ownBlock=K b->¬R b):i.ownsRow B e k s n xs:=by
 refine⟨h.1,?_⟩;rcases h.2 with h2|⟨g,cap,j,a,l,f,q⟩
 . exact .inl h2
 refine .inr ⟨g,cap,j,a,l,?_,q⟩;rw[m.block g (lC.1 f).1 (p g (by rw[a];rfl))];exact f
theorem DV.on{a b:Y}(h:DV R a b)(f:Ad b b c):DV R a c:=h.trans (DV.of (R:=R) f) (λ_ _ e=>e)
end Go.Proofs.YtjnglocdoljgkaaGreat
