import Derived.Test.YtkgohaigebcgoaaGreatDoorLo13
import Derived.Test.YtkgohaigebcgoaaGreatDoorLo16
namespace Go.Proofs.YtkgohaigebcgoaaGreatDoor
open Go.ChangeShapes Go.WideShapes Go.ChangeAt Go.RowKit Go.Proofs.Tryz
set_option linter.unusedVariables false
open Go renaming Value → J,World → Y,Calls → Ai,TypeId → Aj
open Go.Value renaming slice → Z,int → Ag,agg → An
open Option renaming some → K,none → M
open Go.RowKit renaming Hid → Ae,Below → Ah
open Go.IntKind renaming i64 → Af
open Go.Ending renaming returned → Am
open Go.Proofs.Tryz renaming prog → Aq
open Go.World renaming ownsRow → Ab,alloc → Ac
open List renaming flatMap → Ad
open Go.Obj renaming cells → Ak
set_option maxHeartbeats 2000000
set_option maxRecDepth 100000
variable {w u b:Y}{base n c B S:Nat}{V v:J}{ad:Addr}{xs:List Int}{e:Aj}
theorem Kv.rd{F:List (MB×J)}(h:Kv w base V F):K8 w V (F.map Prod.fst):=by refine⟨F,rfl,?_, λx a=>Rd.eS (h.eT.own (x.2,x.1.next) (by unfold DQ;exact l9 (f:= λx=>(x.2,x.1.next)) a))⟩;rw[kC];exact Rd.eS h.row
theorem Rd.fP(h:Rd w 1 (Z (K ad) n c) n (Ad As xs)):∀j u,(Ad As xs)[j]?=K u->w (ad.add j)=K u:=by
 intro j u a;rcases h.2 with⟨rfl,_⟩|⟨g,o,c',e,b⟩
 . have:=(f7.1 a).1;rw[h.1]at this;omega
 simp only[i8,jJ,kW]at e;obtain⟨rfl,rfl⟩:=e;rw[Addr.add_lit];exact b j u a
theorem Ct(xs:List Int):∀u∈Ad As xs,u.oneCell'=true:=by intro u b;obtain⟨x,_,a⟩:=lZ.1 b;simp[As]at a;subst a;rfl
theorem Ru(h:Ab w base e 1 v n (Ad As xs))(ys:List Int)(a:ys.length=0):Ab w base e 1 v (n+ ↑ys) (Ad As (xs++ys)):=by obtain rfl:=jR a;simpa using h
theorem NY{xs:List J}(h:Ah B w u)(f:Ab u w e 1 v n xs)(a:B<= ↑w)(c:u.grownBy b v.ownBlock):Ah B w b:=h.grown c (jN a h.size) (λk d=>jN a (f.lt k d).1)
theorem QO(g:Nat)(s1 s2:J)(xs ys:List Int)(w:Y)(N:xs.length<=1048576)(O:ys.length<=1048576)(p:Rd w 1 s1 xs (Ad As xs))(q:Rd w 1 s2 ys (Ad As ys))(C:BP s1)(D:BP s2)
 (f:w g=K s1) (h:w ⟨g,1,M⟩=K s2):
 Ai Aq 79 #[Z g 2 2] w λe d=>∃v,e=Am v/\Ab d w 2 1 v (xs.length+ ↑ys) (Ad As (xs++ys))/\Ah w w d:=by
 have H:Ae (xs.length<=1048576/\ys.length<=1048576/\Rd w 1 s1 xs (Ad As xs)/\Rd w 1 s2 ys (Ad As ys)/\BP s1/\BP s2):=⟨N,O,p,q,C,D⟩
 obtain⟨G,c1,rfl⟩:=p.aP;obtain⟨I,c2,rfl⟩:=q.aP;clear p q C D;obtain⟨i0,k,z,A,B⟩:=km Cy;have x:Ae (w g=K (Z G xs c1)/\w ⟨g,1,M⟩=K (Z I ys c2)):=⟨f,h⟩
 go_enter func79,ntmps79;go_wp2;go_loopw [3,11] (λs c wr=>((c=Ag Af 0/\s=Ag Af 0)\/(c=Ag Af 1/\s=Ag Af (xs:Int))\/(c=Ag Af 2/\s=Ag Af ((xs.length+ ↑ys:Nat):Int)))/\wr=w) (λ_ c _=>2-(intOf c).toNat)
 case atStart=>exact⟨.inl ⟨rfl,rfl⟩,rfl⟩
 obtain⟨r,rfl⟩:=hrel;rcases r with⟨rfl,rfl⟩|⟨rfl,rfl⟩|⟨rfl,rfl⟩
 . go_wp2;go_roundw;(case rel=>exact⟨.inr (.inl ⟨rfl,sP⟩),by trivial⟩);simp[intOf]
 . go_wp2;go_roundw;(case rel=>exact⟨.inr (.inr ⟨rfl,sP⟩),by trivial⟩);simp[intOf]
 go_wp2_with fail;refine(Q0 (xs.length+ys.length) _ oM).mono ?_;rintro e F ⟨R,rfl,E,y⟩;have HO:Ae (Ab F wr 2 1 R 0 []/\Ah wr wr F):=⟨E,y⟩
 clear E y f h;obtain⟨W,L⟩:∃W,W=wr:=⟨_,rfl⟩;subst L;go_wp2;go_loopw [6,27] (λv c wr=>((c=Ag Af 0/\Ae (Ab wr W 2 1 v 0 ([]:List J)))\/(c=Ag Af 1/\Ae (Ab wr W 2 1 v (0+xs.length) (Ad As ([]++xs))))\/(c=Ag Af 2/\Ae (Ab wr W 2 1 v (xs.length+ ↑ys) (Ad As (xs++ys)))))/\Ae (Ah W W wr)) (λ_ c _=>2-(intOf c).toNat)
 case atStart=>exact⟨.inl ⟨rfl,HO.1⟩,HO.2⟩
 clear HO;obtain⟨r,a⟩:=hrel;have f:=x.1;have h:=x.2;rw[<-a.cell (i7 f)]at f;rw[<-a.cell (i7 h)]at h;rcases r with⟨rfl,HO⟩|⟨rfl,HO⟩|⟨rfl,HO⟩
 . rcases H.2.2.2.2.1 with e|⟨ad,Q,c',e⟩
   . simp only[i8]at e;obtain⟨rfl,b,rfl⟩:=e;have hN:Ae (xs.length=0):=b;rw[b]at f;(have u:∀ty,(Builtin.append_ #[27,27] ty #[u6,Z M 0 0]).run Aq wr=.ok u6 wr:= λty=>run_append_owned_none (P:=Aq) wr W 27 ty 2 i0 1 underlying27 k u6 _ _ HO);clear b;go_wp2_with (at_builtin;refine Lib.wpList_append_run _ rfl _ _ _ _ rfl _ _ rfl rfl _ _ (u _) ?_);go_roundw;(case rel=>exact⟨.inr (.inl ⟨rfl,Ru (xs:=[]) HO xs hN⟩),a⟩);simp[intOf]
   simp only[i8]at e;obtain⟨rfl,b,rfl⟩:=e;have n:Ae (Rd wr 1 (Z (K ad) xs c1) xs (Ad As xs)):=H.2.2.1.av a lR;clear b;go_wp2_with (at_builtin;refine wpList_append_own _ rfl _ _ 27 rfl W 2 i0 (Ag Af 0) 1 8 underlying27 k z A B rfl dC _ _ _ rfl HO ad xs c1 (Ad As xs) rfl ?c1 ?c2 ?c3 ?c4 ?c5 ?c6 ?_);(case c1=>rw[AV As 1 AE]);(case c2=>exact n.fP);(case c3=>exact Ct _);(case c4=>unfold maxLen;omega);(case c5=>omega);(case c6=>exact a.size);intro v' d j i t;(have m:Ae (Ab d W 2 1 v' (0+xs.length) (Ad As ([]++xs))):=by show World.ownsRow _ _ _ _ _ _ _;simpa using j);have l:Ae (Ah W W d):=NY a HO lR i;clear j i t;go_wp2;go_roundw;(case rel=>exact⟨.inr (.inl ⟨rfl,m⟩),l⟩);simp[intOf]
 . rcases H.2.2.2.2.2 with e|⟨ad,Q,c',e⟩
   . simp only[i8]at e;obtain⟨rfl,b,rfl⟩:=e;have hN:Ae (ys.length=0):=b;rw[b]at h;(have u:∀ty,(Builtin.append_ #[27,27] ty #[u6,Z M 0 0]).run Aq wr=.ok u6 wr:= λty=>run_append_owned_none (P:=Aq) wr W 27 ty 2 i0 1 underlying27 k u6 _ _ HO);clear b;go_wp2_with (at_builtin;refine Lib.wpList_append_run _ rfl _ _ _ _ rfl _ _ rfl rfl _ _ (u _) ?_);go_roundw;(case rel=>exact⟨.inr (.inr ⟨rfl,by have:=Ru (xs:=[]++xs) HO ys hN;simpa[Ae]using this⟩),a⟩);simp[intOf]
   simp only[i8]at e;obtain⟨rfl,b,rfl⟩:=e;have n:Ae (Rd wr 1 (Z (K ad) ys c2) ys (Ad As ys)):=H.2.2.2.1.av a lR;clear b;go_wp2_with (at_builtin;refine wpList_append_own _ rfl _ _ 27 rfl W 2 i0 (Ag Af 0) 1 8 underlying27 k z A B rfl dC _ _ _ rfl HO ad ys c2 (Ad As ys) rfl ?c1 ?c2 ?c3 ?c4 ?c5 ?c6 ?_);(case c1=>rw[AV As 1 AE]);(case c2=>exact n.fP);(case c3=>exact Ct _);(case c4=>unfold maxLen;omega);(case c5=>omega);(case c6=>exact a.size);intro v' d j i t;have m:Ae (Ab d W 2 1 v' (xs.length+ ↑ys) (Ad As (xs++ys))):=by show World.ownsRow _ _ _ _ _ _ _;simpa using j
   have l:Ae (Ah W W d):=NY a HO lR i;clear j i t;go_wp2;go_roundw;(case rel=>exact⟨.inr (.inr ⟨rfl,m⟩),l⟩);simp[intOf]
 go_wp2;go_ret;exact⟨_,rfl,HO,a⟩
theorem WH(w:Y)(x y:J)(ty:Aj):(Ac w (Ak #[x,y] ty)) w=K x/\(Ac w (Ak #[x,y] ty)) ⟨w,1,M⟩=K y:=by have h:=nB (base:=w) (e:=ty) (size:=2) w #[x,y] 1 lR oX sP;exact⟨h.cellAt 0 oM,h.cellAt 1 oM⟩
theorem IB(xs:List Int):∀u∈Ad As xs,u.oneCell'=true:=by intro u b;obtain⟨x,_,a⟩:=lZ.1 b;simp[As]at a;subst a;rfl
theorem Ou(h:Ab w base e 1 v n (Ad As xs))(ys:List Int)(a:ys.length=0):Ab w base e 1 v (n+ ↑ys) (Ad As (xs++ys)):=by obtain rfl:=jR a;simpa using h
theorem LI{xs:List J}(h:Ah B w u)(f:Ab u w e 1 v n xs)(a:B<= ↑w)(c:u.grownBy b v.ownBlock):Ah B w b:=h.grown c (jN a h.size) (λk d=>jN a (f.lt k d).1)
theorem O9(g:Nat)(s1 s2:J)(xs ys:List Int)(w:Y)(N:xs.length<=1048576)(O:ys.length<=1048576)(p:Rd w 1 s1 xs (Ad As xs))(q:Rd w 1 s2 ys (Ad As ys))(C:BP s1)(D:BP s2)
 (f:w g=K s1) (h:w ⟨g,1,M⟩=K s2):
 Ai Aq 79 #[Z g 2 2] w λe d=>∃v,e=Am v/\Ab d w 2 1 v (xs.length+ ↑ys) (Ad As (xs++ys))/\Ah w w d:=by
 have H:Ae (xs.length<=1048576/\ys.length<=1048576/\Rd w 1 s1 xs (Ad As xs)/\Rd w 1 s2 ys (Ad As ys)/\BP s1/\BP s2):=⟨N,O,p,q,C,D⟩
 obtain⟨G,c1,rfl⟩:=p.aP;obtain⟨I,c2,rfl⟩:=q.aP;clear p q C D;obtain⟨i0,k,z,A,B⟩:=km Cy;have x:Ae (w g=K (Z G xs c1)/\w ⟨g,1,M⟩=K (Z I ys c2)):=⟨f,h⟩
 go_enter func79,ntmps79;go_wp2;go_loopw [3,11] (λs c wr=>((c=Ag Af 0/\s=Ag Af 0)\/(c=Ag Af 1/\s=Ag Af (xs:Int))\/(c=Ag Af 2/\s=Ag Af ((xs.length+ ↑ys:Nat):Int)))/\wr=w) (λ_ c _=>2-(intOf c).toNat)
 case atStart=>exact⟨.inl ⟨rfl,rfl⟩,rfl⟩
 obtain⟨r,rfl⟩:=hrel;rcases r with⟨rfl,rfl⟩|⟨rfl,rfl⟩|⟨rfl,rfl⟩
 . go_wp2;go_roundw;(case rel=>exact⟨.inr (.inl ⟨rfl,sP⟩),by trivial⟩);simp[intOf]
 . go_wp2;go_roundw;(case rel=>exact⟨.inr (.inr ⟨rfl,sP⟩),by trivial⟩);simp[intOf]
 go_wp2_with fail;refine(Q0 (xs.length+ys.length) _ oM).mono ?_;rintro e F ⟨R,rfl,E,y⟩;have HO:Ae (Ab F wr 2 1 R 0 []/\Ah wr wr F):=⟨E,y⟩
 clear E y f h;obtain⟨W,L⟩:∃W,W=wr:=⟨_,rfl⟩;subst L;go_wp2;go_loopw [6,27] (λv c wr=>((c=Ag Af 0/\Ae (Ab wr W 2 1 v 0 ([]:List J)))\/(c=Ag Af 1/\Ae (Ab wr W 2 1 v (0+xs.length) (Ad As ([]++xs))))\/(c=Ag Af 2/\Ae (Ab wr W 2 1 v (xs.length+ ↑ys) (Ad As (xs++ys)))))/\Ae (Ah W W wr)) (λ_ c _=>2-(intOf c).toNat)
 case atStart=>exact⟨.inl ⟨rfl,HO.o.1⟩,HO.o.2⟩
 clear HO;obtain⟨r,a⟩:=hrel;have f:=x.o.1;have h:=x.o.2;rw[<-a.o.cell (i7 f)]at f;rw[<-a.o.cell (i7 h)]at h;rcases r with⟨rfl,HO⟩|⟨rfl,HO⟩|⟨rfl,HO⟩
 . rcases H.o.2.2.2.2.1 with e|⟨ad,Q,c',e⟩
   . simp only[i8]at e;obtain⟨rfl,b,rfl⟩:=e;have hN:Ae (xs.length=0):=b;rw[b]at f;(have u:∀ty,(Builtin.append_ #[27,27] ty #[u6,Z M 0 0]).run Aq wr=.ok u6 wr:= λty=>run_append_owned_none (P:=Aq) wr W 27 ty 2 i0 1 underlying27 k u6 _ _ HO.o);clear b;go_wp2_with (at_builtin;refine Lib.wpList_append_run _ rfl _ _ _ _ rfl _ _ rfl rfl _ _ (u _) ?_);go_roundw;(case rel=>exact⟨.inr (.inl ⟨rfl,Ou (xs:=[]) HO.o xs hN.o⟩),a⟩);simp[intOf]
   simp only[i8]at e;obtain⟨rfl,b,rfl⟩:=e;have n:Ae (Rd wr 1 (Z (K ad) xs c1) xs (Ad As xs)):=H.o.2.2.1.av a.o lR;clear b;go_wp2_with (at_builtin;refine wpList_append_own _ rfl _ _ 27 rfl W 2 i0 (Ag Af 0) 1 8 underlying27 k z A B rfl dC _ _ _ rfl HO.o ad xs c1 (Ad As xs) rfl ?c1 ?c2 ?c3 ?c4 ?c5 ?c6 ?_);(case c1=>rw[AV As 1 AE]);(case c2=>exact n.o.fP);(case c3=>exact IB _);(case c4=>unfold maxLen;omega);(case c5=>omega);(case c6=>exact a.o.size);intro v' d j i t;(have m:Ae (Ab d W 2 1 v' (0+xs.length) (Ad As ([]++xs))):=by show World.ownsRow _ _ _ _ _ _ _;simpa using j);have l:Ae (Ah W W d):=LI a.o HO.o lR i;clear j i t;go_wp2;go_roundw;(case rel=>exact⟨.inr (.inl ⟨rfl,m⟩),l⟩);simp[intOf]
 . rcases H.o.2.2.2.2.2 with e|⟨ad,Q,c',e⟩
   . simp only[i8]at e;obtain⟨rfl,b,rfl⟩:=e;have hN:Ae (ys.length=0):=b;rw[b]at h;(have u:∀ty,(Builtin.append_ #[27,27] ty #[u6,Z M 0 0]).run Aq wr=.ok u6 wr:= λty=>run_append_owned_none (P:=Aq) wr W 27 ty 2 i0 1 underlying27 k u6 _ _ HO.o);clear b;go_wp2_with (at_builtin;refine Lib.wpList_append_run _ rfl _ _ _ _ rfl _ _ rfl rfl _ _ (u _) ?_);go_roundw;(case rel=>exact⟨.inr (.inr ⟨rfl,by have:=Ou (xs:=[]++xs) HO.o ys hN.o;simpa[Ae]using this⟩),a⟩);simp[intOf]
   simp only[i8]at e;obtain⟨rfl,b,rfl⟩:=e;have n:Ae (Rd wr 1 (Z (K ad) ys c2) ys (Ad As ys)):=H.o.2.2.2.1.av a.o lR;clear b;go_wp2_with (at_builtin;refine wpList_append_own _ rfl _ _ 27 rfl W 2 i0 (Ag Af 0) 1 8 underlying27 k z A B rfl dC _ _ _ rfl HO.o ad ys c2 (Ad As ys) rfl ?c1 ?c2 ?c3 ?c4 ?c5 ?c6 ?_);(case c1=>rw[AV As 1 AE]);(case c2=>exact n.o.fP);(case c3=>exact IB _);(case c4=>unfold maxLen;omega);(case c5=>omega);(case c6=>exact a.o.size);intro v' d j i t;have m:Ae (Ab d W 2 1 v' (xs.length+ ↑ys) (Ad As (xs++ys))):=by show World.ownsRow _ _ _ _ _ _ _;simpa using j
   have l:Ae (Ah W W d):=LI a.o HO.o lR i;clear j i t;go_wp2;go_roundw;(case rel=>exact⟨.inr (.inr ⟨rfl,m⟩),l⟩);simp[intOf]
 go_wp2;go_ret;exact⟨_,rfl,HO.o,a.o⟩
theorem GU(v:VF)(f:MF)(w:Y)(n:f.small)(h:FH w v f)(s:BP v.p)(t:BP v.l):
 Ai Aq 42 #[An #[v.p,f.cu,v.l,v.c]] w λe x=>∃r,e=Am r/\Ab x w 2 1 r (f.aD.length+ ↑f.a7) (Ad As (f.aD++f.a7))/\Ah w w x:=by
 have H:Ae (f.small/\FH w v f/\BP v.p/\BP v.l):=⟨n,h,s,t⟩
 obtain⟨a,c1,k⟩:=h.1.aP;obtain⟨b,c2,m⟩:=h.2.1.aP;obtain⟨y,vl,i⟩:=v;simp only[]at k m;subst k m;clear n h s t;go_enter func42,ntmps42;go_wp2_with fail;have d:Ah w w (Ac (Ac w (Ak #[Z a f.aD c1,f.cu,Z b f.a7 c2,i] 34)) (Ak #[Z a f.aD c1,Z b f.a7 c2] 27)):=Ar (Al _ _) lR (Al _ _);have g:=WH (Ac w (Ak #[Z a f.aD c1,f.cu,Z b f.a7 c2,i] 34)) (Z a f.aD c1) (Z b f.a7 c2) 27;have q:(Ac w (Ak #[Z a f.aD c1,f.cu,Z b f.a7 c2,i] 34)).heap.size= ↑w+1:=sP
 rw[q]at g;refine(O9 ((w:Nat)+1) (Z a f.aD c1) (Z b f.a7 c2) f.aD f.a7 _ H.o.1.1 H.o.1.2.1 (H.o.2.1.1.av d lR) (H.o.2.1.2.1.av d lR) H.o.2.2.1 H.o.2.2.2 g.1 g.2).mono ?_;rintro e u ⟨r,rfl,own,j⟩;have HO:Ae (Ab u w 2 1 r (f.aD.length+ ↑f.a7) (Ad As (f.aD++f.a7))/\Ah w w u):=⟨Bt own d.size,Ar d lR j⟩
 clear own j d g q;go_wp2;go_ret;exact⟨_,rfl,HO.o.1,HO.o.2⟩
structure Fj(w:Y)(S:Nat)(V:J)(xs:List Int):Prop where
 eP:Ay w S #[V] 337
 own:Ab w (S+1) 2 1 V xs (Ad As xs)
theorem Fj.av(h:Fj w S V xs)(a:Ah w w b):Fj b S V xs:=⟨h.eP.av a,AC h.own a lR⟩
theorem Fy(S:Nat)(V:J)(xs:List Int)(w:Y)(h:Fj w S V xs):Ai Aq 248 #[.pointer S] w λe a=>e=Am xs/\a=w:=by obtain⟨b,c1,rfl⟩:=AF h.own;have c0:=h.eP.cell 0;simp only[i5,f8]at c0;clear h;go_enter func248,ntmps248;go_wp2;go_ret;exact⟨rfl,rfl⟩
theorem Mh(S:Nat)(V g:J)(xs ys:List Int)(w:Y)(h:Fj w S V xs)(a:Rd w 1 g ys (Ad As ys))(d:xs.length<=1048576)(f:ys.length<=1048576):Ai Aq 251 #[.pointer S,g] w λe j=>AM e (xs=ys)/\Ah w w j:=by have c0:=h.eP.cell 0;simp only[i5,f8]at c0;have H:=Aw (fd h (fd a (fd d f)));obtain⟨k,c1,rfl⟩:=AF h.own;obtain⟨l,c2,rfl⟩:=a.aP;clear h a d f;go_enter func251,ntmps251;go_wp2_with fail;refine(MU _ _ xs ys w H.2.2.1 H.2.2.2 (Rd.eS H.1.own) H.2.1).mono ?_;rintro e u ⟨⟨b,rfl,c⟩,m,rfl⟩;have i:=Aw c;clear c;go_wp2;go_ret;exact⟨⟨b,rfl,i⟩,AL _ _ _⟩
def LA(w:Y)(S:Nat)(V:J)(c:List Int)(b:Y):Prop:=∃a,Fj b S a c/\DX (λj=>j=S\/V.ownBlock=K j) w b/\(a.ownBlock=V.ownBlock\/∀g,a.ownBlock=K g-> ↑w<=g)
theorem Fj.lt(h:Fj w S V xs):∀g,V.ownBlock=K g->S<g/\g<w.heap.size:= λg a=>by have:=h.own.lt g a;omega
theorem Ft{P:Program}(base:Nat)(t ty e:Aj)(i:TypeInfo)(size:Nat)(ht:P.underlying t=K (.slice e))(a:P.info? e=K i)(v:J)(n:Nat)(xs:List J)(d:Ab w base e size v n xs)(c:Nat):(Builtin.append_ #[t,t] ty #[v,Z M 0 c]).run P w=.ok v w:=by
 rcases d.2 with⟨rfl,rfl⟩|⟨g,cap,f,rfl,_,_,b,_⟩
 . simp[Builtin.append_,run_underlying ht,sizeOf,typeInfo,a,Builtin.lenOf,Builtin.firstCells]
 simp[Builtin.append_,run_underlying ht,sizeOf,typeInfo,a,Builtin.lenOf,Builtin.firstCells,b,storeCells]
theorem LA.of{a:J}{ys:List Int}(h:Fj w S V xs)(m:Ab b (S+1) 2 1 a (xs.length+ ↑ys) (Ad As xs++Ad As ys))(d:w.grownBy b V.ownBlock)(f:a.ownBlock=V.ownBlock\/a.ownBlock=K w):LA w S V (xs++ys) (b.setCell S a):=by
 have i:=h.eP.grown d h.own dC;have l:(xs++ys).length= ↑xs+ys.length:=jI
 refine⟨a,⟨by have:=i.set 0 a;simpa using this,?_⟩,?_,?_⟩
 . rw[l,kJ];exact kQ m oS _
 . exact(DX.grown (R:= λj=>j=S\/V.ownBlock=K j) (DX.refl _ _) d (λk n e=>.inr e.symm)).setCell (.inl (.inl rfl)) _
 exact f.imp_right λe g c=>by rw[e]at c;cases c;exact Nat.le_refl _
theorem Ow(S:Nat)(V z:J)(xs ys:List Int)(w:Y)(h:Fj w S V xs)(b:Rd w 1 z ys (Ad As ys))(W:xs.length<=1048576)(t:ys.length<=1048576):Ai Aq 250 #[.pointer S,z] w λe R=>e=Am (.tuple #[])/\LA w S V (xs++ys) R:=by
 obtain⟨i0,r,I,L,N⟩:=km Cy;obtain⟨a,c1,rfl⟩:=AF h.own;have d:=Aw h;have c0:=h.eP.cell 0;have f0:=h.eP.frozen 0;have D:S+1<=w.heap.size:=h.eP.lt;simp only[i5,f8]at c0;obtain⟨B,c2,rfl⟩:=b.aP;cases B with
 | none=>
   have y:ys.length=0:=by
    rcases b.2 with⟨k,_⟩|⟨g,o,c,f,_⟩
    . exact k
    cases f
   have H:ys=[]:=jR y;subst H;(have G:∀ty,(Builtin.append_ #[27,27] ty #[Z a xs c1,Z M 0 c2]).run Aq w=.ok (Z a xs c1) w:= λty=>Ft (P:=Aq) (S+1) 27 ty 2 i0 1 underlying27 r _ _ _ h.own c2);have i:Ae (LA w S (Z a xs c1) (xs++[]) (w.setCell S (Z a xs c1))):=LA.of h (by simpa using h.own) ⟨rfl,rfl,rfl,Nat.le_refl _, λ_ _ _=>rfl⟩ (.inl rfl);clear h b t y;rw[lH];go_enter func250,ntmps250;go_wp2_with (at_builtin;refine Lib.wpList_append_run _ rfl _ _ _ _ rfl _ _ rfl rfl _ _ (G _) ?_);refine lD (v:=.tuple #[]) kR rfl ?_;exact⟨rfl,i⟩
 | some ad=>
   have A:Ae (∀j u,(Ad As ys)[j]?=K u->w (ad.add j)=K u):= λj u s=>by
    rcases b.2 with⟨k,_⟩|⟨g,o,c,f,E⟩
    . have:ys=[]:=jR k;subst this;simp at s
    simp only[i8,jJ]at f;obtain⟨rfl,_⟩:=f;rw[Cx];exact E j u s
   clear h b;generalize x:ys.length=m at t⊢;have HM:=Aw x;clear x;go_enter func250,ntmps250;go_wp2_with (at_builtin;refine wpList_append_own_at _ rfl _ _ 27 rfl (S+1) 2 i0 (iZ 0) 1 8 underlying27 r I L N rfl dC _ xs (Ad As xs) rfl d.own ad m c2 (Ad As ys) rfl (by rw[AV As 1 AE,HM]) A (Ct _) (by simp[maxLen];omega) oM D ?_;intro Q T p n F q;have i:Ae (LA w S (Z a xs c1) (xs++ys) (T.setCell S Q)):=LA.of d (by rw[HM];exact p) n q;have l:=d.eP.grown n d.own dC;have O:=l.cell 0;have X:=l.frozen 0;simp only[i5,f8]at O;obtain⟨U,c5,C⟩:=AF p;subst C;clear p n F q l);refine lD (v:=.tuple #[]) kR rfl ?_;exact⟨rfl,i⟩
theorem RN(b:J)(ys:List Int)(w:Y)(g:Rd w 1 b ys (Ad As ys))(h:ys.length<=1048576):Ai Aq 245 #[b] w λe i=>e=Am (.pointer w)/\(∃V,Fj i w V ys)/\Ah w w i:=by
 have a:Ae (Fj (Ac w (Ak #[sN] 337)) w sN []/\Ah w w (Ac w (Ak #[sN] 337))):=⟨⟨Ay.new _ _ _,kH _ _ _ _⟩,Al _ _⟩
 have H:=Aw (fd g h);clear g h;go_enter func245,ntmps245;go_wp2_with fail;refine(Ow w sN b [] ys _ a.1 (H.1.av a.2 lR) sP H.2).mono ?_;rintro e u ⟨rfl,c,f,d,_⟩;have E1:Ae (Fj u w c ys/\Ah w w u):=⟨f,a.2.trans (d.below a.2.size (λk j e=>by
  rcases e with e|e
  . omega
  cases e))⟩
 clear f d a;go_wp2_with fail;go_ret;exact⟨rfl,⟨c,E1.1⟩,E1.2⟩
theorem QF:(Tryz.prog.info? 2).map (λi=>(i.zero,i.size,i.bytes))=K (K (Ag Af 0),1,8):=kR
theorem St(c:Nat)(w:Y):(binOp .eql 27 (Z M 0 c) (Z M 0 0)).run Aq w=.ok true w:=kR
theorem QG(ad:Addr)(m c:Nat)(w:Y):(binOp .eql 27 (Z (K ad) m c) (Z M 0 0)).run Aq w=.ok false w:=kR
theorem IV(s:J)(m:Nat)(xs:List J)(w:Y)(I:m<=1048576)(r:∀u∈xs,u.oneCell'=true)(h:Rd w 1 s m xs):
 Ai Aq 38 #[s] w λe d=>∃a c,e=Am (Z a m c)/\Ab d w 2 1 (Z a m c) m xs/\Ah w w d:=by
 obtain⟨i0,C,F,G,H⟩:=km QF;have f:Ae (Ah w w (w.alloc (Ak #[] 2))):=Al _ _;have HO:Ae ((w.alloc (Ak #[] 2)).ownsRow w 2 1 (Z w 0 0) 0 []):=⟨rfl,.inr ⟨w,0,#[],rfl,Nat.le_refl _,lu _ _,Nat.le_refl _,ku _,rfl,sP⟩⟩;obtain⟨y,c1,rfl⟩:=h.aP;cases y with
 | none=>
   have E:m=0:=by
    rcases h.2 with⟨k,_⟩|⟨g,o,c,i,_⟩
    . exact k
    cases i
   subst E;have n:xs=[]:=jR (by have:=h.1;simpa using this);subst n;have x:Ae (w.ownsRow w 2 1 (Z M 0 0) 0 []):=kH _ _ _ _;(have A:∀w,_:= λw=>St c1 w);clear h;go_enter func38,ntmps38;go_wp2;go_ret;exact⟨_,_,rfl,x,jZ _ _⟩
 | some ad=>
   have v:Ae (∀j u,xs[j]?=K u->(w.alloc (Ak #[] 2)) (ad.add j)=K u):= λj u b=>by
    rcases h.2 with⟨k,_⟩|⟨g,o,c,i,B⟩
    . have n:xs=[]:=jR (by have:=h.1;rw[k]at this;simpa using this);rw[n]at b;simp at b
    simp only[i8,jJ]at i;obtain⟨rfl,_,_⟩:=i;have:=B j u b;rw[Cx,f.cell (i7 this)];exact this
   have q:Ae (↑xs=m*1/\∀u∈xs,u.oneCell'=true):=⟨h.1,r⟩
   (have A:∀w,_:= λw=>QG ad m c1 w);clear h r;go_enter func38,ntmps38;go_wp2_with (at_builtin;refine wpList_append_own _ rfl _ _ 27 rfl w 2 i0 (Ag Af 0) 1 8 underlying27 C F G H rfl dC _ 0 [] rfl HO ad m c1 xs rfl ?c1 ?c2 ?c3 ?c4 ?c5 ?c6 ?_);(case c1=>exact q.1);(case c2=>exact v);(case c3=>exact q.2);(case c4=>unfold maxLen;omega);(case c5=>omega);(case c6=>exact f.size);intro v' d l t D;(obtain⟨z,c2,rfl⟩:∃a c,v'=Z a m c:=by have:=(Rd.eS l).aP;simpa using this);have p:Ae (Ab d w 2 1 (Z z m c2) m xs/\Ah w w d):=⟨by simpa using l,f.grown t f.size (λj b=>(HO.lt j b).1)⟩
   clear l t D;go_wp2;go_ret;exact⟨_,_,rfl,p.1,p.2⟩
theorem QJ:(Tryz.prog.info? 25).map (λi=>(i.zero,i.size,i.bytes))=K (K (An #[Ag Af 0,Ag Af 0,Ag Af 0,Ag Af 0]),4,32):=kR
theorem Sw(c:Nat)(w:Y):(binOp .eql 26 (Z M 0 c) (Z M 0 0)).run Aq w=.ok true w:=kR
theorem QK(ad:Addr)(m c:Nat)(w:Y):(binOp .eql 26 (Z (K ad) m c) (Z M 0 0)).run Aq w=.ok false w:=kR
theorem Sv(s:J)(m:Nat)(xs:List J)(w:Y)(I:m<=1048576)(r:∀u∈xs,u.oneCell'=true)(h:Rd w 4 s m xs):
 Ai Aq 39 #[s] w λe d=>∃a c,e=Am (Z a m c)/\Ab d w 25 4 (Z a m c) m xs/\Ah w w d:=by
 obtain⟨i0,C,F,G,H⟩:=km QJ;have f:Ae (Ah w w (w.alloc (Ak #[] 25))):=Al _ _;have HO:Ae ((w.alloc (Ak #[] 25)).ownsRow w 25 4 (Z w 0 0) 0 []):=⟨rfl,.inr ⟨w,0,#[],rfl,Nat.le_refl _,lu _ _,Nat.le_refl _,ku _,rfl,sP⟩⟩;obtain⟨y,c1,rfl⟩:=h.aP;cases y with
 | none=>
   have E:m=0:=by
    rcases h.2 with⟨k,_⟩|⟨g,o,c,i,_⟩
    . exact k
    cases i
   subst E;have n:xs=[]:=jR (by have:=h.1;simpa using this);subst n;have x:Ae (w.ownsRow w 25 4 (Z M 0 0) 0 []):=kH _ _ _ _;(have A:∀w,_:= λw=>Sw c1 w);clear h;go_enter func39,ntmps39;go_wp2;go_ret;exact⟨_,_,rfl,x,jZ _ _⟩
 | some ad=>
   have v:Ae (∀j u,xs[j]?=K u->(w.alloc (Ak #[] 25)) (ad.add j)=K u):= λj u b=>by
    rcases h.2 with⟨k,_⟩|⟨g,o,c,i,B⟩
    . have n:xs=[]:=jR (by have:=h.1;rw[k]at this;simpa using this);rw[n]at b;simp at b
    simp only[i8,jJ]at i;obtain⟨rfl,_,_⟩:=i;have:=B j u b;rw[Cx,f.cell (i7 this)];exact this
   have q:Ae (↑xs=m*4/\∀u∈xs,u.oneCell'=true):=⟨h.1,r⟩
   (have A:∀w,_:= λw=>QK ad m c1 w);clear h r;go_enter func39,ntmps39;go_wp2_with (at_builtin;refine wpList_append_own _ rfl _ _ 26 rfl w 25 i0 (An #[Ag Af 0,Ag Af 0,Ag Af 0,Ag Af 0]) 4 32 underlying26 C F G H rfl dC _ 0 [] rfl HO ad m c1 xs rfl ?c1 ?c2 ?c3 ?c4 ?c5 ?c6 ?_);(case c1=>exact q.1);(case c2=>exact v);(case c3=>exact q.2);(case c4=>unfold maxLen;omega);(case c5=>omega);(case c6=>exact f.size);intro v' d l t D;(obtain⟨z,c2,rfl⟩:∃a c,v'=Z a m c:=by have:=(Rd.eS l).aP;simpa using this);have p:Ae (Ab d w 25 4 (Z z m c2) m xs/\Ah w w d):=⟨by simpa using l,f.grown t f.size (λj b=>(HO.lt j b).1)⟩
   clear l t D;go_wp2;go_ret;exact⟨_,_,rfl,p.1,p.2⟩
theorem QD:(Tryz.prog.info? 31).map (λi=>(i.zero,i.size,i.bytes))=K (K (An #[Ag Af 0,Ag .u32 0]),2,16):=kR
theorem Ss(c:Nat)(w:Y):(binOp .eql 32 (Z M 0 c) (Z M 0 0)).run Aq w=.ok true w:=kR
theorem QE(ad:Addr)(m c:Nat)(w:Y):(binOp .eql 32 (Z (K ad) m c) (Z M 0 0)).run Aq w=.ok false w:=kR
theorem LT(s:J)(m:Nat)(xs:List J)(w:Y)(I:m<=1048576)(r:∀u∈xs,u.oneCell'=true)(h:Rd w 2 s m xs):
 Ai Aq 36 #[s] w λe d=>∃a c,e=Am (Z a m c)/\Ab d w 31 2 (Z a m c) m xs/\Ah w w d:=by
 obtain⟨i0,C,F,G,H⟩:=km QD;have f:Ae (Ah w w (w.alloc (Ak #[] 31))):=Al _ _;have HO:Ae ((w.alloc (Ak #[] 31)).ownsRow w 31 2 (Z w 0 0) 0 []):=⟨rfl,.inr ⟨w,0,#[],rfl,Nat.le_refl _,lu _ _,Nat.le_refl _,ku _,rfl,sP⟩⟩;obtain⟨y,c1,rfl⟩:=h.aP;cases y with
 | none=>
   have E:m=0:=by
    rcases h.2 with⟨k,_⟩|⟨g,o,c,i,_⟩
    . exact k
    cases i
   subst E;have n:xs=[]:=jR (by have:=h.1;simpa using this);subst n;have x:Ae (w.ownsRow w 31 2 (Z M 0 0) 0 []):=kH _ _ _ _;(have A:∀w,_:= λw=>Ss c1 w);clear h;go_enter func36,ntmps36;go_wp2;go_ret;exact⟨_,_,rfl,x,jZ _ _⟩
 | some ad=>
   have v:Ae (∀j u,xs[j]?=K u->(w.alloc (Ak #[] 31)) (ad.add j)=K u):= λj u b=>by
    rcases h.2 with⟨k,_⟩|⟨g,o,c,i,B⟩
    . have n:xs=[]:=jR (by have:=h.1;rw[k]at this;simpa using this);rw[n]at b;simp at b
    simp only[i8,jJ]at i;obtain⟨rfl,_,_⟩:=i;have:=B j u b;rw[Cx,f.cell (i7 this)];exact this
   have q:Ae (↑xs=m*2/\∀u∈xs,u.oneCell'=true):=⟨h.1,r⟩
   (have A:∀w,_:= λw=>QE ad m c1 w);clear h r;go_enter func36,ntmps36;go_wp2_with (at_builtin;refine wpList_append_own _ rfl _ _ 32 rfl w 31 i0 (An #[Ag Af 0,Ag .u32 0]) 2 16 underlying32 C F G H rfl dC _ 0 [] rfl HO ad m c1 xs rfl ?c1 ?c2 ?c3 ?c4 ?c5 ?c6 ?_);(case c1=>exact q.1);(case c2=>exact v);(case c3=>exact q.2);(case c4=>unfold maxLen;omega);(case c5=>omega);(case c6=>exact f.size);intro v' d l t D;(obtain⟨z,c2,rfl⟩:∃a c,v'=Z a m c:=by have:=(Rd.eS l).aP;simpa using this);have p:Ae (Ab d w 31 2 (Z z m c2) m xs/\Ah w w d):=⟨by simpa using l,f.grown t f.size (λj b=>(HO.lt j b).1)⟩
   clear l t D;go_wp2;go_ret;exact⟨_,_,rfl,p.1,p.2⟩
theorem QH:(Tryz.prog.info? 37).map (λi=>(i.zero,i.size,i.bytes))=K (K (An #[Ag Af 0,Ag Af 0,Ag Af 0,Ag .u32 0]),4,32):=kR
theorem Su(c:Nat)(w:Y):(binOp .eql 38 (Z M 0 c) (Z M 0 0)).run Aq w=.ok true w:=kR
theorem QI(ad:Addr)(m c:Nat)(w:Y):(binOp .eql 38 (Z (K ad) m c) (Z M 0 0)).run Aq w=.ok false w:=kR
theorem IX(s:J)(m:Nat)(xs:List J)(w:Y)(I:m<=1048576)(r:∀u∈xs,u.oneCell'=true)(h:Rd w 4 s m xs):
 Ai Aq 37 #[s] w λe d=>∃a c,e=Am (Z a m c)/\Ab d w 37 4 (Z a m c) m xs/\Ah w w d:=by
 obtain⟨i0,C,F,G,H⟩:=km QH;have f:Ae (Ah w w (w.alloc (Ak #[] 37))):=Al _ _;have HO:Ae ((w.alloc (Ak #[] 37)).ownsRow w 37 4 (Z w 0 0) 0 []):=⟨rfl,.inr ⟨w,0,#[],rfl,Nat.le_refl _,lu _ _,Nat.le_refl _,ku _,rfl,sP⟩⟩;obtain⟨y,c1,rfl⟩:=h.aP;cases y with
 | none=>
   have E:m=0:=by
    rcases h.2 with⟨k,_⟩|⟨g,o,c,i,_⟩
    . exact k
    cases i
   subst E;have n:xs=[]:=jR (by have:=h.1;simpa using this);subst n;have x:Ae (w.ownsRow w 37 4 (Z M 0 0) 0 []):=kH _ _ _ _;(have A:∀w,_:= λw=>Su c1 w);clear h;go_enter func37,ntmps37;go_wp2;go_ret;exact⟨_,_,rfl,x,jZ _ _⟩
 | some ad=>
   have v:Ae (∀j u,xs[j]?=K u->(w.alloc (Ak #[] 37)) (ad.add j)=K u):= λj u b=>by
    rcases h.2 with⟨k,_⟩|⟨g,o,c,i,B⟩
    . have n:xs=[]:=jR (by have:=h.1;rw[k]at this;simpa using this);rw[n]at b;simp at b
    simp only[i8,jJ]at i;obtain⟨rfl,_,_⟩:=i;have:=B j u b;rw[Cx,f.cell (i7 this)];exact this
   have q:Ae (↑xs=m*4/\∀u∈xs,u.oneCell'=true):=⟨h.1,r⟩
   (have A:∀w,_:= λw=>QI ad m c1 w);clear h r;go_enter func37,ntmps37;go_wp2_with (at_builtin;refine wpList_append_own _ rfl _ _ 38 rfl w 37 i0 (An #[Ag Af 0,Ag Af 0,Ag Af 0,Ag .u32 0]) 4 32 underlying38 C F G H rfl dC _ 0 [] rfl HO ad m c1 xs rfl ?c1 ?c2 ?c3 ?c4 ?c5 ?c6 ?_);(case c1=>exact q.1);(case c2=>exact v);(case c3=>exact q.2);(case c4=>unfold maxLen;omega);(case c5=>omega);(case c6=>exact f.size);intro v' d l t D;(obtain⟨z,c2,rfl⟩:∃a c,v'=Z a m c:=by have:=(Rd.eS l).aP;simpa using this);have p:Ae (Ab d w 37 4 (Z z m c2) m xs/\Ah w w d):=⟨by simpa using l,f.grown t f.size (λj b=>(HO.lt j b).1)⟩
   clear l t D;go_wp2;go_ret;exact⟨_,_,rfl,p.1,p.2⟩
end Go.Proofs.YtkgohaigebcgoaaGreatDoor
