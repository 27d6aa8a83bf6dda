import Derived.Test.YtkgohaigebcgoaaGreatDoorCh13
import Derived.Test.YtkgohaigebcgoaaGreatDoorCh16
namespace Go.Proofs.YtkgohaigebcgoaaGreatDoor
open Go.ChangeShapes Go.WideShapes Go.ChangeAt Go.RowKit Go.Proofs.Tryz
set_option linter.unusedVariables false
open Go renaming Value → J,World → Y,Calls → Ai,TypeId → Aj
open Go.Value renaming slice → Z,int → Ag,agg → An
open Option renaming some → K,none → M
open Go.RowKit renaming Hid → Ae,Below → Ah
open Go.IntKind renaming i64 → Af
open Go.Ending renaming returned → Am
open Go.Proofs.Tryz renaming prog → Aq
open Go.World renaming ownsRow → Ab,alloc → Ac
open List renaming flatMap → Ad
open Go.Obj renaming cells → Ak
set_option maxHeartbeats 2000000
set_option maxRecDepth 100000
variable {w u b:Y}{base n c B S:Nat}{V v:J}{ad:Addr}{xs:List Int}{e:Aj}
theorem Kl.rd{F:List (MB×J)}(h:Kl w base V F):KQ w V (F.map Prod.fst):=by refine⟨F,rfl,?_, λx a=>Rd.eP (h.fg.own (x.2,x.1.next) (by unfold Dt;exact oF (f:= λx=>(x.2,x.1.next)) a))⟩;rw[mQ];exact Rd.eP h.row
theorem Rd.jv(h:Rd w 1 (Z (K ad) n c) n (Ad At xs)):∀j u,(Ad At xs)[j]?=K u->w (ad.add j)=K u:=by
 intro j u a;rcases h.2 with⟨rfl,_⟩|⟨g,o,c',e,b⟩
 . have:=(f7.1 a).1;rw[h.1]at this;omega
 simp only[lU,lX,mj]at e;obtain⟨rfl,rfl⟩:=e;rw[Addr.add_lit];exact b j u a
theorem Cn(xs:List Int):∀u∈Ad At xs,u.oneCell'=true:=by intro u b;obtain⟨x,_,a⟩:=oK.1 b;simp[At]at a;subst a;rfl
theorem Rc(h:Ab w base e 1 v n (Ad At xs))(ys:List Int)(a:ys.length=0):Ab w base e 1 v (n+ ↑ys) (Ad At (xs++ys)):=by obtain rfl:=mG a;simpa using h
theorem NW{xs:List J}(h:Ah B w u)(f:Ab u w e 1 v n xs)(a:B<= ↑w)(c:u.grownBy b v.ownBlock):Ah B w b:=h.grown c (mC a h.size) (λk d=>mC a (f.lt k d).1)
theorem QD(g:Nat)(s1 s2:J)(xs ys:List Int)(w:Y)(R:xs.length<=1048576)(S:ys.length<=1048576)(r:Rd w 1 s1 xs (Ad At xs))(t:Rd w 1 s2 ys (Ad At ys))(F:BR s1)(G:BR s2)
 (f:w g=K s1) (h:w ⟨g,1,M⟩=K s2):
 Ai Aq 79 #[Z g 2 2] w λe d=>∃v,e=Am v/\Ab d w 2 1 v (xs.length+ ↑ys) (Ad At (xs++ys))/\Ah w w d:=by
 have H:Ae (xs.length<=1048576/\ys.length<=1048576/\Rd w 1 s1 xs (Ad At xs)/\Rd w 1 s2 ys (Ad At ys)/\BR s1/\BR s2):=⟨R,S,r,t,F,G⟩
 obtain⟨N,c1,rfl⟩:=r.aD;obtain⟨O,c2,rfl⟩:=t.aD;clear r t F G;obtain⟨m,l,C,D,E⟩:=nE Ct;have A:Ae (w g=K (Z N xs c1)/\w ⟨g,1,M⟩=K (Z O ys c2)):=⟨f,h⟩
 go_enter func79,ntmps79;go_wp2;go_loopw [3,11] (λs c wr=>((c=Ag Af 0/\s=Ag Af 0)\/(c=Ag Af 1/\s=Ag Af (xs:Int))\/(c=Ag Af 2/\s=Ag Af ((xs.length+ ↑ys:Nat):Int)))/\wr=w) (λ_ c _=>2-(intOf c).toNat)
 case atStart=>exact⟨.inl ⟨rfl,rfl⟩,rfl⟩
 obtain⟨u,rfl⟩:=hrel;rcases u with⟨rfl,rfl⟩|⟨rfl,rfl⟩|⟨rfl,rfl⟩
 . go_wp2;go_roundw;(case rel=>exact⟨.inr (.inl ⟨rfl,sP⟩),by trivial⟩);simp[intOf]
 . go_wp2;go_roundw;(case rel=>exact⟨.inr (.inr ⟨rfl,sP⟩),by trivial⟩);simp[intOf]
 go_wp2_with fail;refine(QM (xs.length+ys.length) _ oM).mono ?_;rintro e L ⟨U,rfl,I,B⟩;have HO:Ae (Ab L wr 2 1 U 0 []/\Ah wr wr L):=⟨I,B⟩
 clear I B f h;obtain⟨W,Q⟩:∃W,W=wr:=⟨_,rfl⟩;subst Q;go_wp2;go_loopw [6,27] (λv c wr=>((c=Ag Af 0/\Ae (Ab wr W 2 1 v 0 ([]:List J)))\/(c=Ag Af 1/\Ae (Ab wr W 2 1 v (0+xs.length) (Ad At ([]++xs))))\/(c=Ag Af 2/\Ae (Ab wr W 2 1 v (xs.length+ ↑ys) (Ad At (xs++ys)))))/\Ae (Ah W W wr)) (λ_ c _=>2-(intOf c).toNat)
 case atStart=>exact⟨.inl ⟨rfl,HO.1⟩,HO.2⟩
 clear HO;obtain⟨u,a⟩:=hrel;have f:=A.1;have h:=A.2;rw[<-a.cell (lT f)]at f;rw[<-a.cell (lT h)]at h;rcases u with⟨rfl,HO⟩|⟨rfl,HO⟩|⟨rfl,HO⟩
 . rcases H.2.2.2.2.1 with e|⟨ad,T,c',e⟩
   . simp only[lU]at e;obtain⟨rfl,b,rfl⟩:=e;have hN:Ae (xs.length=0):=b;rw[b]at f;(have z:∀ty,(Builtin.append_ #[27,27] ty #[u6,Z M 0 0]).run Aq wr=.ok u6 wr:= λty=>run_append_owned_none (P:=Aq) wr W 27 ty 2 m 1 underlying27 l u6 _ _ HO);clear b;go_wp2_with (at_builtin;refine Lib.wpList_append_run _ rfl _ _ _ _ rfl _ _ rfl rfl _ _ (z _) ?_);go_roundw;(case rel=>exact⟨.inr (.inl ⟨rfl,Rc (xs:=[]) HO xs hN⟩),a⟩);simp[intOf]
   simp only[lU]at e;obtain⟨rfl,b,rfl⟩:=e;have q:Ae (Rd wr 1 (Z (K ad) xs c1) xs (Ad At xs)):=H.2.2.1.av a lR;clear b;go_wp2_with (at_builtin;refine wpList_append_own _ rfl _ _ 27 rfl W 2 m (Ag Af 0) 1 8 underlying27 l C D E rfl dC _ _ _ rfl HO ad xs c1 (Ad At xs) rfl ?c1 ?c2 ?c3 ?c4 ?c5 ?c6 ?_);(case c1=>rw[AX At 1 AE]);(case c2=>exact q.jv);(case c3=>exact Cn _);(case c4=>unfold maxLen;omega);(case c5=>omega);(case c6=>exact a.size);intro v' d k j y;(have p:Ae (Ab d W 2 1 v' (0+xs.length) (Ad At ([]++xs))):=by show World.ownsRow _ _ _ _ _ _ _;simpa using k);have n:Ae (Ah W W d):=NW a HO lR j;clear k j y;go_wp2;go_roundw;(case rel=>exact⟨.inr (.inl ⟨rfl,p⟩),n⟩);simp[intOf]
 . rcases H.2.2.2.2.2 with e|⟨ad,T,c',e⟩
   . simp only[lU]at e;obtain⟨rfl,b,rfl⟩:=e;have hN:Ae (ys.length=0):=b;rw[b]at h;(have z:∀ty,(Builtin.append_ #[27,27] ty #[u6,Z M 0 0]).run Aq wr=.ok u6 wr:= λty=>run_append_owned_none (P:=Aq) wr W 27 ty 2 m 1 underlying27 l u6 _ _ HO);clear b;go_wp2_with (at_builtin;refine Lib.wpList_append_run _ rfl _ _ _ _ rfl _ _ rfl rfl _ _ (z _) ?_);go_roundw;(case rel=>exact⟨.inr (.inr ⟨rfl,by have:=Rc (xs:=[]++xs) HO ys hN;simpa[Ae]using this⟩),a⟩);simp[intOf]
   simp only[lU]at e;obtain⟨rfl,b,rfl⟩:=e;have q:Ae (Rd wr 1 (Z (K ad) ys c2) ys (Ad At ys)):=H.2.2.2.1.av a lR;clear b;go_wp2_with (at_builtin;refine wpList_append_own _ rfl _ _ 27 rfl W 2 m (Ag Af 0) 1 8 underlying27 l C D E rfl dC _ _ _ rfl HO ad ys c2 (Ad At ys) rfl ?c1 ?c2 ?c3 ?c4 ?c5 ?c6 ?_);(case c1=>rw[AX At 1 AE]);(case c2=>exact q.jv);(case c3=>exact Cn _);(case c4=>unfold maxLen;omega);(case c5=>omega);(case c6=>exact a.size);intro v' d k j y;have p:Ae (Ab d W 2 1 v' (xs.length+ ↑ys) (Ad At (xs++ys))):=by show World.ownsRow _ _ _ _ _ _ _;simpa using k
   have n:Ae (Ah W W d):=NW a HO lR j;clear k j y;go_wp2;go_roundw;(case rel=>exact⟨.inr (.inr ⟨rfl,p⟩),n⟩);simp[intOf]
 go_wp2;go_ret;exact⟨_,rfl,HO,a⟩
theorem Wp(w:Y)(x y:J)(ty:Aj):(Ac w (Ak #[x,y] ty)) w=K x/\(Ac w (Ak #[x,y] ty)) ⟨w,1,M⟩=K y:=by have h:=pY (base:=w) (e:=ty) (size:=2) w #[x,y] 1 lR oX sP;exact⟨h.cellAt 0 oM,h.cellAt 1 oM⟩
theorem Iu(xs:List Int):∀u∈Ad At xs,u.oneCell'=true:=by intro u b;obtain⟨x,_,a⟩:=oK.1 b;simp[At]at a;subst a;rfl
theorem Ol(h:Ab w base e 1 v n (Ad At xs))(ys:List Int)(a:ys.length=0):Ab w base e 1 v (n+ ↑ys) (Ad At (xs++ys)):=by obtain rfl:=mG a;simpa using h
theorem Lw{xs:List J}(h:Ah B w u)(f:Ab u w e 1 v n xs)(a:B<= ↑w)(c:u.grownBy b v.ownBlock):Ah B w b:=h.grown c (mC a h.size) (λk d=>mC a (f.lt k d).1)
theorem O6(g:Nat)(s1 s2:J)(xs ys:List Int)(w:Y)(R:xs.length<=1048576)(S:ys.length<=1048576)(r:Rd w 1 s1 xs (Ad At xs))(t:Rd w 1 s2 ys (Ad At ys))(F:BR s1)(G:BR s2)
 (f:w g=K s1) (h:w ⟨g,1,M⟩=K s2):
 Ai Aq 79 #[Z g 2 2] w λe d=>∃v,e=Am v/\Ab d w 2 1 v (xs.length+ ↑ys) (Ad At (xs++ys))/\Ah w w d:=by
 have H:Ae (xs.length<=1048576/\ys.length<=1048576/\Rd w 1 s1 xs (Ad At xs)/\Rd w 1 s2 ys (Ad At ys)/\BR s1/\BR s2):=⟨R,S,r,t,F,G⟩
 obtain⟨N,c1,rfl⟩:=r.aD;obtain⟨O,c2,rfl⟩:=t.aD;clear r t F G;obtain⟨m,l,C,D,E⟩:=nE Ct;have A:Ae (w g=K (Z N xs c1)/\w ⟨g,1,M⟩=K (Z O ys c2)):=⟨f,h⟩
 go_enter func79,ntmps79;go_wp2;go_loopw [3,11] (λs c wr=>((c=Ag Af 0/\s=Ag Af 0)\/(c=Ag Af 1/\s=Ag Af (xs:Int))\/(c=Ag Af 2/\s=Ag Af ((xs.length+ ↑ys:Nat):Int)))/\wr=w) (λ_ c _=>2-(intOf c).toNat)
 case atStart=>exact⟨.inl ⟨rfl,rfl⟩,rfl⟩
 obtain⟨u,rfl⟩:=hrel;rcases u with⟨rfl,rfl⟩|⟨rfl,rfl⟩|⟨rfl,rfl⟩
 . go_wp2;go_roundw;(case rel=>exact⟨.inr (.inl ⟨rfl,sP⟩),by trivial⟩);simp[intOf]
 . go_wp2;go_roundw;(case rel=>exact⟨.inr (.inr ⟨rfl,sP⟩),by trivial⟩);simp[intOf]
 go_wp2_with fail;refine(QM (xs.length+ys.length) _ oM).mono ?_;rintro e L ⟨U,rfl,I,B⟩;have HO:Ae (Ab L wr 2 1 U 0 []/\Ah wr wr L):=⟨I,B⟩
 clear I B f h;obtain⟨W,Q⟩:∃W,W=wr:=⟨_,rfl⟩;subst Q;go_wp2;go_loopw [6,27] (λv c wr=>((c=Ag Af 0/\Ae (Ab wr W 2 1 v 0 ([]:List J)))\/(c=Ag Af 1/\Ae (Ab wr W 2 1 v (0+xs.length) (Ad At ([]++xs))))\/(c=Ag Af 2/\Ae (Ab wr W 2 1 v (xs.length+ ↑ys) (Ad At (xs++ys)))))/\Ae (Ah W W wr)) (λ_ c _=>2-(intOf c).toNat)
 case atStart=>exact⟨.inl ⟨rfl,HO.o.1⟩,HO.o.2⟩
 clear HO;obtain⟨u,a⟩:=hrel;have f:=A.o.1;have h:=A.o.2;rw[<-a.o.cell (lT f)]at f;rw[<-a.o.cell (lT h)]at h;rcases u with⟨rfl,HO⟩|⟨rfl,HO⟩|⟨rfl,HO⟩
 . rcases H.o.2.2.2.2.1 with e|⟨ad,T,c',e⟩
   . simp only[lU]at e;obtain⟨rfl,b,rfl⟩:=e;have hN:Ae (xs.length=0):=b;rw[b]at f;(have z:∀ty,(Builtin.append_ #[27,27] ty #[u6,Z M 0 0]).run Aq wr=.ok u6 wr:= λty=>run_append_owned_none (P:=Aq) wr W 27 ty 2 m 1 underlying27 l u6 _ _ HO.o);clear b;go_wp2_with (at_builtin;refine Lib.wpList_append_run _ rfl _ _ _ _ rfl _ _ rfl rfl _ _ (z _) ?_);go_roundw;(case rel=>exact⟨.inr (.inl ⟨rfl,Ol (xs:=[]) HO.o xs hN.o⟩),a⟩);simp[intOf]
   simp only[lU]at e;obtain⟨rfl,b,rfl⟩:=e;have q:Ae (Rd wr 1 (Z (K ad) xs c1) xs (Ad At xs)):=H.o.2.2.1.av a.o lR;clear b;go_wp2_with (at_builtin;refine wpList_append_own _ rfl _ _ 27 rfl W 2 m (Ag Af 0) 1 8 underlying27 l C D E rfl dC _ _ _ rfl HO.o ad xs c1 (Ad At xs) rfl ?c1 ?c2 ?c3 ?c4 ?c5 ?c6 ?_);(case c1=>rw[AX At 1 AE]);(case c2=>exact q.o.jv);(case c3=>exact Iu _);(case c4=>unfold maxLen;omega);(case c5=>omega);(case c6=>exact a.o.size);intro v' d k j y;(have p:Ae (Ab d W 2 1 v' (0+xs.length) (Ad At ([]++xs))):=by show World.ownsRow _ _ _ _ _ _ _;simpa using k);have n:Ae (Ah W W d):=Lw a.o HO.o lR j;clear k j y;go_wp2;go_roundw;(case rel=>exact⟨.inr (.inl ⟨rfl,p⟩),n⟩);simp[intOf]
 . rcases H.o.2.2.2.2.2 with e|⟨ad,T,c',e⟩
   . simp only[lU]at e;obtain⟨rfl,b,rfl⟩:=e;have hN:Ae (ys.length=0):=b;rw[b]at h;(have z:∀ty,(Builtin.append_ #[27,27] ty #[u6,Z M 0 0]).run Aq wr=.ok u6 wr:= λty=>run_append_owned_none (P:=Aq) wr W 27 ty 2 m 1 underlying27 l u6 _ _ HO.o);clear b;go_wp2_with (at_builtin;refine Lib.wpList_append_run _ rfl _ _ _ _ rfl _ _ rfl rfl _ _ (z _) ?_);go_roundw;(case rel=>exact⟨.inr (.inr ⟨rfl,by have:=Ol (xs:=[]++xs) HO.o ys hN.o;simpa[Ae]using this⟩),a⟩);simp[intOf]
   simp only[lU]at e;obtain⟨rfl,b,rfl⟩:=e;have q:Ae (Rd wr 1 (Z (K ad) ys c2) ys (Ad At ys)):=H.o.2.2.2.1.av a.o lR;clear b;go_wp2_with (at_builtin;refine wpList_append_own _ rfl _ _ 27 rfl W 2 m (Ag Af 0) 1 8 underlying27 l C D E rfl dC _ _ _ rfl HO.o ad ys c2 (Ad At ys) rfl ?c1 ?c2 ?c3 ?c4 ?c5 ?c6 ?_);(case c1=>rw[AX At 1 AE]);(case c2=>exact q.o.jv);(case c3=>exact Iu _);(case c4=>unfold maxLen;omega);(case c5=>omega);(case c6=>exact a.o.size);intro v' d k j y;have p:Ae (Ab d W 2 1 v' (xs.length+ ↑ys) (Ad At (xs++ys))):=by show World.ownsRow _ _ _ _ _ _ _;simpa using k
   have n:Ae (Ah W W d):=Lw a.o HO.o lR j;clear k j y;go_wp2;go_roundw;(case rel=>exact⟨.inr (.inr ⟨rfl,p⟩),n⟩);simp[intOf]
 go_wp2;go_ret;exact⟨_,rfl,HO.o,a.o⟩
theorem GO(v:VF)(f:MF)(w:Y)(q:f.small)(h:FD w v f)(t:BR v.p)(y:BR v.l):
 Ai Aq 42 #[An #[v.p,f.cu,v.l,v.c]] w λe z=>∃r,e=Am r/\Ab z w 2 1 r (f.aP.length+ ↑f.aB) (Ad At (f.aP++f.aB))/\Ah w w z:=by
 have H:Ae (f.small/\FD w v f/\BR v.p/\BR v.l):=⟨q,h,t,y⟩
 obtain⟨a,c1,m⟩:=h.1.aD;obtain⟨b,c2,n⟩:=h.2.1.aD;obtain⟨A,vl,j⟩:=v;simp only[]at m n;subst m n;clear q h t y;go_enter func42,ntmps42;go_wp2_with fail;have d:Ah w w (Ac (Ac w (Ak #[Z a f.aP c1,f.cu,Z b f.aB c2,j] 34)) (Ak #[Z a f.aP c1,Z b f.aB c2] 27)):=Ar (Al _ _) lR (Al _ _);have g:=Wp (Ac w (Ak #[Z a f.aP c1,f.cu,Z b f.aB c2,j] 34)) (Z a f.aP c1) (Z b f.aB c2) 27;have s:(Ac w (Ak #[Z a f.aP c1,f.cu,Z b f.aB c2,j] 34)).heap.size= ↑w+1:=sP
 rw[s]at g;refine(O6 ((w:Nat)+1) (Z a f.aP c1) (Z b f.aB c2) f.aP f.aB _ H.o.1.1 H.o.1.2.1 (H.o.2.1.1.av d lR) (H.o.2.1.2.1.av d lR) H.o.2.2.1 H.o.2.2.2 g.1 g.2).mono ?_;rintro e u ⟨r,rfl,own,k⟩;have HO:Ae (Ab u w 2 1 r (f.aP.length+ ↑f.aB) (Ad At (f.aP++f.aB))/\Ah w w u):=⟨Bm own d.size,Ar d lR k⟩
 clear own k d g s;go_wp2;go_ret;exact⟨_,rfl,HO.o.1,HO.o.2⟩
structure Fg(w:Y)(S:Nat)(V:J)(xs:List Int):Prop where
 eI:Ay w S #[V] 337
 own:Ab w (S+1) 2 1 V xs (Ad At xs)
theorem Fg.av(h:Fg w S V xs)(a:Ah w w b):Fg b S V xs:=⟨h.eI.av a,AD h.own a lR⟩
theorem Ft(S:Nat)(V:J)(xs:List Int)(w:Y)(h:Fg w S V xs):Ai Aq 248 #[.pointer S] w λe a=>e=Am xs/\a=w:=by obtain⟨b,c1,rfl⟩:=AF h.own;have c0:=h.eI.cell 0;simp only[lQ,lO]at c0;clear h;go_enter func248,ntmps248;go_wp2;go_ret;exact⟨rfl,rfl⟩
theorem L8(S:Nat)(V g:J)(xs ys:List Int)(w:Y)(h:Fg w S V xs)(a:Rd w 1 g ys (Ad At ys))(d:xs.length<=1048576)(f:ys.length<=1048576):Ai Aq 251 #[.pointer S,g] w λe k=>AM e (xs=ys)/\Ah w w k:=by have c0:=h.eI.cell 0;simp only[lQ,lO]at c0;have H:=Aw (lN h (lN a (lN d f)));obtain⟨l,c1,rfl⟩:=AF h.own;obtain⟨n,c2,rfl⟩:=a.aD;clear h a d f;go_enter func251,ntmps251;go_wp2_with fail;refine(Fz _ _ xs ys w H.2.2.1 H.2.2.2 (Rd.eP H.1.own) H.2.1).mono ?_;rintro e u ⟨⟨b,rfl,c⟩,m,rfl⟩;have j:=Aw c;clear c;go_wp2;go_ret;exact⟨⟨b,rfl,j⟩,AL _ _ _⟩
def Lm(w:Y)(S:Nat)(V:J)(c:List Int)(b:Y):Prop:=∃a,Fg b S a c/\DT (λj=>j=S\/V.ownBlock=K j) w b/\(a.ownBlock=V.ownBlock\/∀g,a.ownBlock=K g-> ↑w<=g)
theorem Fg.lt(h:Fg w S V xs):∀g,V.ownBlock=K g->S<g/\g<w.heap.size:= λg a=>by have:=h.own.lt g a;omega
theorem Fo{P:Program}(base:Nat)(t ty e:Aj)(i:TypeInfo)(size:Nat)(b:P.underlying t=K (.slice e))(a:P.info? e=K i)(v:J)(n:Nat)(xs:List J)(f:Ab w base e size v n xs)(c:Nat):(Builtin.append_ #[t,t] ty #[v,Z M 0 c]).run P w=.ok v w:=by
 rcases f.2 with⟨rfl,rfl⟩|⟨g,cap,h,rfl,_,_,d,_⟩
 . simp[Builtin.append_,run_underlying b,sizeOf,typeInfo,a,Builtin.lenOf,Builtin.firstCells]
 simp[Builtin.append_,run_underlying b,sizeOf,typeInfo,a,Builtin.lenOf,Builtin.firstCells,d,storeCells]
theorem Lm.of{a:J}{ys:List Int}(h:Fg w S V xs)(n:Ab b (S+1) 2 1 a (xs.length+ ↑ys) (Ad At xs++Ad At ys))(d:w.grownBy b V.ownBlock)(f:a.ownBlock=V.ownBlock\/a.ownBlock=K w):Lm w S V (xs++ys) (b.setCell S a):=by
 have l:=h.eI.grown d h.own dC;have m:(xs++ys).length= ↑xs+ys.length:=mB
 refine⟨a,⟨by have:=l.set 0 a;simpa using this,?_⟩,?_,?_⟩
 . rw[m,mW];exact mY n oS _
 . exact(DT.grown (R:= λj=>j=S\/V.ownBlock=K j) (DT.refl _ _) d (λk p e=>.inr e.symm)).setCell (.inl (.inl rfl)) _
 exact f.imp_right λe g c=>by rw[e]at c;cases c;exact Nat.le_refl _
theorem On(S:Nat)(V C:J)(xs ys:List Int)(w:Y)(h:Fg w S V xs)(b:Rd w 1 C ys (Ad At ys))(hx:xs.length<=1048576)(y:ys.length<=1048576):Ai Aq 250 #[.pointer S,C] w λe W=>e=Am (.tuple #[])/\Lm w S V (xs++ys) W:=by
 obtain⟨B,s,O,Q,R⟩:=nE Ct;obtain⟨a,c1,rfl⟩:=AF h.own;have d:=Aw h;have c0:=h.eI.cell 0;have f0:=h.eI.frozen 0;have G:S+1<=w.heap.size:=h.eI.lt;simp only[lQ,lO]at c0;obtain⟨E,c2,rfl⟩:=b.aD;cases E with
 | none=>
   have A:ys.length=0:=by
    rcases b.2 with⟨l,_⟩|⟨g,o,c,f,_⟩
    . exact l
    cases f
   have N:ys=[]:=mG A;subst N;(have L:∀ty,(Builtin.append_ #[27,27] ty #[Z a xs c1,Z M 0 c2]).run Aq w=.ok (Z a xs c1) w:= λty=>Fo (P:=Aq) (S+1) 27 ty 2 B 1 underlying27 s _ _ _ h.own c2);have k:Ae (Lm w S (Z a xs c1) (xs++[]) (w.setCell S (Z a xs c1))):=Lm.of h (by simpa using h.own) ⟨rfl,rfl,rfl,Nat.le_refl _, λ_ _ _=>rfl⟩ (.inl rfl);clear h b y A;rw[nT];go_enter func250,ntmps250;go_wp2_with (at_builtin;refine Lib.wpList_append_run _ rfl _ _ _ _ rfl _ _ rfl rfl _ _ (L _) ?_);refine nR (v:=.tuple #[]) kR rfl ?_;exact⟨rfl,k⟩
 | some ad=>
   have D:Ae (∀j u,(Ad At ys)[j]?=K u->w (ad.add j)=K u):= λj u t=>by
    rcases b.2 with⟨l,_⟩|⟨g,o,c,f,H⟩
    . have:ys=[]:=mG l;subst this;simp at t
    simp only[lU,lX]at f;obtain⟨rfl,_⟩:=f;rw[Cq];exact H j u t
   clear h b;generalize z:ys.length=m at y⊢;have HM:=Aw z;clear z;go_enter func250,ntmps250;go_wp2_with (at_builtin;refine wpList_append_own_at _ rfl _ _ 27 rfl (S+1) 2 B (iZ 0) 1 8 underlying27 s O Q R rfl dC _ xs (Ad At xs) rfl d.own ad m c2 (Ad At ys) rfl (by rw[AX At 1 AE,HM]) D (Cn _) (by simp[maxLen];omega) oM G ?_;intro U X q p I r;have k:Ae (Lm w S (Z a xs c1) (xs++ys) (X.setCell S U)):=Lm.of d (by rw[HM];exact q) p r;have n:=d.eI.grown p d.own dC;have T:=n.cell 0;have k1:=n.frozen 0;simp only[lQ,lO]at T;obtain⟨a5,c5,F⟩:=AF q;subst F;clear q p I r n);refine nR (v:=.tuple #[]) kR rfl ?_;exact⟨rfl,k⟩
theorem Rx(b:J)(ys:List Int)(w:Y)(h:Rd w 1 b ys (Ad At ys))(j:ys.length<=1048576):Ai Aq 245 #[b] w λe l=>e=Am (.pointer w)/\(∃V,Fg l w V ys)/\Ah w w l:=by
 have a:Ae (Fg (Ac w (Ak #[sN] 337)) w sN []/\Ah w w (Ac w (Ak #[sN] 337))):=⟨⟨Ay.new _ _ _,mX _ _ _ _⟩,Al _ _⟩
 have H:=Aw (lN h j);clear h j;go_enter func245,ntmps245;go_wp2_with fail;refine(On w sN b [] ys _ a.1 (H.1.av a.2 lR) sP H.2).mono ?_;rintro e u ⟨rfl,d,g,f,_⟩;have c:Ae (Fg u w d ys/\Ah w w u):=⟨g,a.2.trans (f.below a.2.size (λk m e=>by
  rcases e with e|e
  . omega
  cases e))⟩
 clear g f a;go_wp2_with fail;go_ret;exact⟨rfl,⟨d,c.1⟩,c.2⟩
theorem Qt:(Tryz.prog.info? 2).map (λi=>(i.zero,i.size,i.bytes))=K (K (Ag Af 0),1,8):=kR
theorem Sp(c:Nat)(w:Y):(binOp .eql 27 (Z M 0 c) (Z M 0 0)).run Aq w=.ok true w:=kR
theorem Qu(ad:Addr)(m c:Nat)(w:Y):(binOp .eql 27 (Z (K ad) m c) (Z M 0 0)).run Aq w=.ok false w:=kR
theorem IM(s:J)(m:Nat)(xs:List J)(w:Y)(O:m<=1048576)(t:∀u∈xs,u.oneCell'=true)(h:Rd w 1 s m xs):
 Ai Aq 38 #[s] w λe d=>∃a c,e=Am (Z a m c)/\Ab d w 2 1 (Z a m c) m xs/\Ah w w d:=by
 obtain⟨N,E,H,I,L⟩:=nE Qt;have f:Ae (Ah w w (w.alloc (Ak #[] 2))):=Al _ _;have HO:Ae ((w.alloc (Ak #[] 2)).ownsRow w 2 1 (Z w 0 0) 0 []):=⟨rfl,.inr ⟨w,0,#[],rfl,Nat.le_refl _,oe _ _,Nat.le_refl _,oC _,rfl,sP⟩⟩;obtain⟨A,c1,rfl⟩:=h.aD;cases A with
 | none=>
   have G:m=0:=by
    rcases h.2 with⟨l,_⟩|⟨g,o,c,k,_⟩
    . exact l
    cases k
   subst G;have p:xs=[]:=mG (by have:=h.1;simpa using this);subst p;have z:Ae (w.ownsRow w 2 1 (Z M 0 0) 0 []):=mX _ _ _ _;(have C:∀w,_:= λw=>Sp c1 w);clear h;go_enter func38,ntmps38;go_wp2;go_ret;exact⟨_,_,rfl,z,mP _ _⟩
 | some ad=>
   have y:Ae (∀j u,xs[j]?=K u->(w.alloc (Ak #[] 2)) (ad.add j)=K u):= λj u b=>by
    rcases h.2 with⟨l,_⟩|⟨g,o,c,k,D⟩
    . have p:xs=[]:=mG (by have:=h.1;rw[l]at this;simpa using this);rw[p]at b;simp at b
    simp only[lU,lX]at k;obtain⟨rfl,_,_⟩:=k;have:=D j u b;rw[Cq,f.cell (lT this)];exact this
   have r:Ae (↑xs=m*1/\∀u∈xs,u.oneCell'=true):=⟨h.1,t⟩
   (have C:∀w,_:= λw=>Qu ad m c1 w);clear h t;go_enter func38,ntmps38;go_wp2_with (at_builtin;refine wpList_append_own _ rfl _ _ 27 rfl w 2 N (Ag Af 0) 1 8 underlying27 E H I L rfl dC _ 0 [] rfl HO ad m c1 xs rfl ?c1 ?c2 ?c3 ?c4 ?c5 ?c6 ?_);(case c1=>exact r.1);(case c2=>exact y);(case c3=>exact r.2);(case c4=>unfold maxLen;omega);(case c5=>omega);(case c6=>exact f.size);intro v' d n v F;(obtain⟨B,c2,rfl⟩:∃a c,v'=Z a m c:=by have:=(Rd.eP n).aD;simpa using this);have q:Ae (Ab d w 2 1 (Z B m c2) m xs/\Ah w w d):=⟨by simpa using n,f.grown v f.size (λj b=>(HO.lt j b).1)⟩
   clear n v F;go_wp2;go_ret;exact⟨_,_,rfl,q.1,q.2⟩
theorem Qx:(Tryz.prog.info? 25).map (λi=>(i.zero,i.size,i.bytes))=K (K (An #[Ag Af 0,Ag Af 0,Ag Af 0,Ag Af 0]),4,32):=kR
theorem Ss(c:Nat)(w:Y):(binOp .eql 26 (Z M 0 c) (Z M 0 0)).run Aq w=.ok true w:=kR
theorem Qy(ad:Addr)(m c:Nat)(w:Y):(binOp .eql 26 (Z (K ad) m c) (Z M 0 0)).run Aq w=.ok false w:=kR
theorem Sr(s:J)(m:Nat)(xs:List J)(w:Y)(O:m<=1048576)(t:∀u∈xs,u.oneCell'=true)(h:Rd w 4 s m xs):
 Ai Aq 39 #[s] w λe d=>∃a c,e=Am (Z a m c)/\Ab d w 25 4 (Z a m c) m xs/\Ah w w d:=by
 obtain⟨N,E,H,I,L⟩:=nE Qx;have f:Ae (Ah w w (w.alloc (Ak #[] 25))):=Al _ _;have HO:Ae ((w.alloc (Ak #[] 25)).ownsRow w 25 4 (Z w 0 0) 0 []):=⟨rfl,.inr ⟨w,0,#[],rfl,Nat.le_refl _,oe _ _,Nat.le_refl _,oC _,rfl,sP⟩⟩;obtain⟨A,c1,rfl⟩:=h.aD;cases A with
 | none=>
   have G:m=0:=by
    rcases h.2 with⟨l,_⟩|⟨g,o,c,k,_⟩
    . exact l
    cases k
   subst G;have p:xs=[]:=mG (by have:=h.1;simpa using this);subst p;have z:Ae (w.ownsRow w 25 4 (Z M 0 0) 0 []):=mX _ _ _ _;(have C:∀w,_:= λw=>Ss c1 w);clear h;go_enter func39,ntmps39;go_wp2;go_ret;exact⟨_,_,rfl,z,mP _ _⟩
 | some ad=>
   have y:Ae (∀j u,xs[j]?=K u->(w.alloc (Ak #[] 25)) (ad.add j)=K u):= λj u b=>by
    rcases h.2 with⟨l,_⟩|⟨g,o,c,k,D⟩
    . have p:xs=[]:=mG (by have:=h.1;rw[l]at this;simpa using this);rw[p]at b;simp at b
    simp only[lU,lX]at k;obtain⟨rfl,_,_⟩:=k;have:=D j u b;rw[Cq,f.cell (lT this)];exact this
   have r:Ae (↑xs=m*4/\∀u∈xs,u.oneCell'=true):=⟨h.1,t⟩
   (have C:∀w,_:= λw=>Qy ad m c1 w);clear h t;go_enter func39,ntmps39;go_wp2_with (at_builtin;refine wpList_append_own _ rfl _ _ 26 rfl w 25 N (An #[Ag Af 0,Ag Af 0,Ag Af 0,Ag Af 0]) 4 32 underlying26 E H I L rfl dC _ 0 [] rfl HO ad m c1 xs rfl ?c1 ?c2 ?c3 ?c4 ?c5 ?c6 ?_);(case c1=>exact r.1);(case c2=>exact y);(case c3=>exact r.2);(case c4=>unfold maxLen;omega);(case c5=>omega);(case c6=>exact f.size);intro v' d n v F;(obtain⟨B,c2,rfl⟩:∃a c,v'=Z a m c:=by have:=(Rd.eP n).aD;simpa using this);have q:Ae (Ab d w 25 4 (Z B m c2) m xs/\Ah w w d):=⟨by simpa using n,f.grown v f.size (λj b=>(HO.lt j b).1)⟩
   clear n v F;go_wp2;go_ret;exact⟨_,_,rfl,q.1,q.2⟩
theorem Qr:(Tryz.prog.info? 31).map (λi=>(i.zero,i.size,i.bytes))=K (K (An #[Ag Af 0,Ag .u32 0]),2,16):=kR
theorem So(c:Nat)(w:Y):(binOp .eql 32 (Z M 0 c) (Z M 0 0)).run Aq w=.ok true w:=kR
theorem Qs(ad:Addr)(m c:Nat)(w:Y):(binOp .eql 32 (Z (K ad) m c) (Z M 0 0)).run Aq w=.ok false w:=kR
theorem LJ(s:J)(m:Nat)(xs:List J)(w:Y)(O:m<=1048576)(t:∀u∈xs,u.oneCell'=true)(h:Rd w 2 s m xs):
 Ai Aq 36 #[s] w λe d=>∃a c,e=Am (Z a m c)/\Ab d w 31 2 (Z a m c) m xs/\Ah w w d:=by
 obtain⟨N,E,H,I,L⟩:=nE Qr;have f:Ae (Ah w w (w.alloc (Ak #[] 31))):=Al _ _;have HO:Ae ((w.alloc (Ak #[] 31)).ownsRow w 31 2 (Z w 0 0) 0 []):=⟨rfl,.inr ⟨w,0,#[],rfl,Nat.le_refl _,oe _ _,Nat.le_refl _,oC _,rfl,sP⟩⟩;obtain⟨A,c1,rfl⟩:=h.aD;cases A with
 | none=>
   have G:m=0:=by
    rcases h.2 with⟨l,_⟩|⟨g,o,c,k,_⟩
    . exact l
    cases k
   subst G;have p:xs=[]:=mG (by have:=h.1;simpa using this);subst p;have z:Ae (w.ownsRow w 31 2 (Z M 0 0) 0 []):=mX _ _ _ _;(have C:∀w,_:= λw=>So c1 w);clear h;go_enter func36,ntmps36;go_wp2;go_ret;exact⟨_,_,rfl,z,mP _ _⟩
 | some ad=>
   have y:Ae (∀j u,xs[j]?=K u->(w.alloc (Ak #[] 31)) (ad.add j)=K u):= λj u b=>by
    rcases h.2 with⟨l,_⟩|⟨g,o,c,k,D⟩
    . have p:xs=[]:=mG (by have:=h.1;rw[l]at this;simpa using this);rw[p]at b;simp at b
    simp only[lU,lX]at k;obtain⟨rfl,_,_⟩:=k;have:=D j u b;rw[Cq,f.cell (lT this)];exact this
   have r:Ae (↑xs=m*2/\∀u∈xs,u.oneCell'=true):=⟨h.1,t⟩
   (have C:∀w,_:= λw=>Qs ad m c1 w);clear h t;go_enter func36,ntmps36;go_wp2_with (at_builtin;refine wpList_append_own _ rfl _ _ 32 rfl w 31 N (An #[Ag Af 0,Ag .u32 0]) 2 16 underlying32 E H I L rfl dC _ 0 [] rfl HO ad m c1 xs rfl ?c1 ?c2 ?c3 ?c4 ?c5 ?c6 ?_);(case c1=>exact r.1);(case c2=>exact y);(case c3=>exact r.2);(case c4=>unfold maxLen;omega);(case c5=>omega);(case c6=>exact f.size);intro v' d n v F;(obtain⟨B,c2,rfl⟩:∃a c,v'=Z a m c:=by have:=(Rd.eP n).aD;simpa using this);have q:Ae (Ab d w 31 2 (Z B m c2) m xs/\Ah w w d):=⟨by simpa using n,f.grown v f.size (λj b=>(HO.lt j b).1)⟩
   clear n v F;go_wp2;go_ret;exact⟨_,_,rfl,q.1,q.2⟩
theorem Qv:(Tryz.prog.info? 37).map (λi=>(i.zero,i.size,i.bytes))=K (K (An #[Ag Af 0,Ag Af 0,Ag Af 0,Ag .u32 0]),4,32):=kR
theorem Sq(c:Nat)(w:Y):(binOp .eql 38 (Z M 0 c) (Z M 0 0)).run Aq w=.ok true w:=kR
theorem Qw(ad:Addr)(m c:Nat)(w:Y):(binOp .eql 38 (Z (K ad) m c) (Z M 0 0)).run Aq w=.ok false w:=kR
theorem IP(s:J)(m:Nat)(xs:List J)(w:Y)(O:m<=1048576)(t:∀u∈xs,u.oneCell'=true)(h:Rd w 4 s m xs):
 Ai Aq 37 #[s] w λe d=>∃a c,e=Am (Z a m c)/\Ab d w 37 4 (Z a m c) m xs/\Ah w w d:=by
 obtain⟨N,E,H,I,L⟩:=nE Qv;have f:Ae (Ah w w (w.alloc (Ak #[] 37))):=Al _ _;have HO:Ae ((w.alloc (Ak #[] 37)).ownsRow w 37 4 (Z w 0 0) 0 []):=⟨rfl,.inr ⟨w,0,#[],rfl,Nat.le_refl _,oe _ _,Nat.le_refl _,oC _,rfl,sP⟩⟩;obtain⟨A,c1,rfl⟩:=h.aD;cases A with
 | none=>
   have G:m=0:=by
    rcases h.2 with⟨l,_⟩|⟨g,o,c,k,_⟩
    . exact l
    cases k
   subst G;have p:xs=[]:=mG (by have:=h.1;simpa using this);subst p;have z:Ae (w.ownsRow w 37 4 (Z M 0 0) 0 []):=mX _ _ _ _;(have C:∀w,_:= λw=>Sq c1 w);clear h;go_enter func37,ntmps37;go_wp2;go_ret;exact⟨_,_,rfl,z,mP _ _⟩
 | some ad=>
   have y:Ae (∀j u,xs[j]?=K u->(w.alloc (Ak #[] 37)) (ad.add j)=K u):= λj u b=>by
    rcases h.2 with⟨l,_⟩|⟨g,o,c,k,D⟩
    . have p:xs=[]:=mG (by have:=h.1;rw[l]at this;simpa using this);rw[p]at b;simp at b
    simp only[lU,lX]at k;obtain⟨rfl,_,_⟩:=k;have:=D j u b;rw[Cq,f.cell (lT this)];exact this
   have r:Ae (↑xs=m*4/\∀u∈xs,u.oneCell'=true):=⟨h.1,t⟩
   (have C:∀w,_:= λw=>Qw ad m c1 w);clear h t;go_enter func37,ntmps37;go_wp2_with (at_builtin;refine wpList_append_own _ rfl _ _ 38 rfl w 37 N (An #[Ag Af 0,Ag Af 0,Ag Af 0,Ag .u32 0]) 4 32 underlying38 E H I L rfl dC _ 0 [] rfl HO ad m c1 xs rfl ?c1 ?c2 ?c3 ?c4 ?c5 ?c6 ?_);(case c1=>exact r.1);(case c2=>exact y);(case c3=>exact r.2);(case c4=>unfold maxLen;omega);(case c5=>omega);(case c6=>exact f.size);intro v' d n v F;(obtain⟨B,c2,rfl⟩:∃a c,v'=Z a m c:=by have:=(Rd.eP n).aD;simpa using this);have q:Ae (Ab d w 37 4 (Z B m c2) m xs/\Ah w w d):=⟨by simpa using n,f.grown v f.size (λj b=>(HO.lt j b).1)⟩
   clear n v F;go_wp2;go_ret;exact⟨_,_,rfl,q.1,q.2⟩
end Go.Proofs.YtkgohaigebcgoaaGreatDoor
