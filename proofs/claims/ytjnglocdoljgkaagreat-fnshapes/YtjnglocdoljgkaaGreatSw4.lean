import Derived.Test.YtjnglocdoljgkaaGreatSw3
import Derived.Maps.OwnSet
import Derived.Shelf.SlGeneric
import Derived.Shelf.SortG.Plain
import Derived.Shelf.SortG.SortNone
import Derived.Shelf.SlicesG.SearchI
import Derived.Shelf.SlicesG.Turned
import Derived.Ground.SlgnProg
import Derived.Sort.OwnSortedInts
import Derived.Deep.AppendLies
import Derived.Deep.RegionLaw
import Derived.Maps.RangeWalk
import Derived.Sort.KeysCollected
namespace Go.Proofs
open Go.Shelf
def Tryz.lSort_ren:Go.Shelf.Ren:=⟨λ |53=>103|64=>135|63=>134|78=>162|79=>163|70=>154|71=>155|72=>156|73=>157|74=>158|75=>159|59=>130|76=>160|77=>161|88=>165|89=>166|90=>167|91=>168|92=>169|68=>151|96=>184|n=>n, λ |22=>36|23=>2|3=>3|51=>159|0=>0|67=>103|69=>214|4=>4|61=>219|60=>218|44=>166|5=>5|9=>9|75=>228|79=>232|83=>234|84=>235|n=>n, λ |n=>n⟩
theorem Tryz.lSort:Go.Proofs.SlLaysN.n53 Tryz.prog Tryz.lSort_ren:={
 mixed:=by kernel_rfl
 f53:=⟨Tryz.f103.name,by decide,Tryz.func103.trans (congrArg some (by kernel_rfl))⟩
 f59:=⟨Tryz.f130.name,by decide,Tryz.func130.trans (congrArg some (by kernel_rfl))⟩
 f63:=⟨Tryz.f134.name,by decide,Tryz.func134.trans (congrArg some (by kernel_rfl))⟩
 f64:=Tryz.func135.trans (congrArg some (by kernel_rfl))
 f68:=⟨Tryz.f151.name,by decide,Tryz.func151.trans (congrArg some (by kernel_rfl))⟩
 f70:=⟨Tryz.f154.name,by decide,Tryz.func154.trans (congrArg some (by kernel_rfl))⟩
 f71:=⟨Tryz.f155.name,by decide,Tryz.func155.trans (congrArg some (by kernel_rfl))⟩
 f72:=⟨Tryz.f156.name,by decide,Tryz.func156.trans (congrArg some (by kernel_rfl))⟩
 f73:=⟨Tryz.f157.name,by decide,Tryz.func157.trans (congrArg some (by kernel_rfl))⟩
 f74:=⟨Tryz.f158.name,by decide,Tryz.func158.trans (congrArg some (by kernel_rfl))⟩
 f75:=⟨Tryz.f159.name,by decide,Tryz.func159.trans (congrArg some (by kernel_rfl))⟩
 f76:=⟨Tryz.f160.name,by decide,Tryz.func160.trans (congrArg some (by kernel_rfl))⟩
 f77:=⟨Tryz.f161.name,by decide,Tryz.func161.trans (congrArg some (by kernel_rfl))⟩
 f78:=Tryz.func162.trans (congrArg some (by kernel_rfl))
 f79:=Tryz.func163.trans (congrArg some (by kernel_rfl))
 f88:=⟨Tryz.f165.name,by decide,Tryz.func165.trans (congrArg some (by kernel_rfl))⟩
 f89:=Tryz.func166.trans (congrArg some (by kernel_rfl))
 f90:=Tryz.func167.trans (congrArg some (by kernel_rfl))
 f91:=⟨Tryz.f168.name,by decide,Tryz.func168.trans (congrArg some (by kernel_rfl))⟩
 f92:=⟨Tryz.f169.name,by decide,Tryz.func169.trans (congrArg some (by kernel_rfl))⟩
 f96:=⟨Tryz.f184.name,by decide,Tryz.func184.trans (congrArg some (by kernel_rfl))⟩
 t0:=Tryz.underlying0
 a0:=Tryz.isAgg0
 z0:=Tryz.sizeOf0
 v0:=Tryz.zeroValue0
 t3:=Tryz.underlying3
 a3:=Tryz.isAgg3
 z3:=Tryz.sizeOf3
 v3:=Tryz.zeroValue3
 t4:=Tryz.underlying4
 a4:=Tryz.isAgg4
 z4:=Tryz.sizeOf4
 v4:=Tryz.zeroValue4
 t5:=Tryz.underlying5
 a5:=Tryz.isAgg5
 z5:=Tryz.sizeOf5
 v5:=Tryz.zeroValue5
 t9:=Tryz.underlying9
 a9:=Tryz.isAgg9
 z9:=Tryz.sizeOf9
 v9:=Tryz.zeroValue9
 t22:=Tryz.underlying36
 a22:=Tryz.isAgg36
 z22:=Tryz.sizeOf36
 v22:=Tryz.zeroValue36
 t23:=Tryz.underlying2
 a23:=Tryz.isAgg2
 z23:=Tryz.sizeOf2
 v23:=Tryz.zeroValue2
 t44:=Tryz.underlying166
 a44:=Tryz.isAgg166
 z44:=Tryz.sizeOf166
 v44:=Tryz.zeroValue166
 t51:=Tryz.underlying159
 a51:=Tryz.isAgg159
 z51:=Tryz.sizeOf159
 v51:=Tryz.zeroValue159
 t60:=Tryz.underlying218
 a60:=Tryz.isAgg218
 z60:=Tryz.sizeOf218
 v60:=Tryz.zeroValue218
 t61:=Tryz.underlying219
 a61:=Tryz.isAgg219
 z61:=Tryz.sizeOf219
 v61:=Tryz.zeroValue219
 t67:=Tryz.underlying103
 a67:=Tryz.isAgg103
 z67:=Tryz.sizeOf103
 v67:=Tryz.zeroValue103
 t69:=Tryz.underlying214
 a69:=Tryz.isAgg214
 z69:=Tryz.sizeOf214
 v69:=Tryz.zeroValue214
 t75:=Tryz.underlying228
 a75:=Tryz.isAgg228
 z75:=Tryz.sizeOf228
 v75:=Tryz.zeroValue228
 t79:=Tryz.underlying232
 a79:=Tryz.isAgg232
 z79:=Tryz.sizeOf232
 v79:=Tryz.zeroValue232
 t83:=Tryz.underlying234
 a83:=Tryz.isAgg234
 z83:=Tryz.sizeOf234
 v83:=Tryz.zeroValue234
 t84:=Tryz.underlying235
 a84:=Tryz.isAgg235
 z84:=Tryz.sizeOf235
 v84:=Tryz.zeroValue235}
def Tryz.lSearch_ren:Go.Shelf.Ren:=⟨λ |49=>96|59=>130|60=>131|68=>151|n=>n, λ |22=>36|23=>2|3=>3|4=>4|51=>159|0=>0|n=>n, λ |n=>n⟩
theorem Tryz.lSearch:Go.Proofs.SlLaysN.n49 Tryz.prog Tryz.lSearch_ren:={
 mixed:=by kernel_rfl
 f49:=⟨Tryz.f96.name,by decide,Tryz.func96.trans (congrArg some (by kernel_rfl))⟩
 f59:=⟨Tryz.f130.name,by decide,Tryz.func130.trans (congrArg some (by kernel_rfl))⟩
 f60:=⟨Tryz.f131.name,by decide,Tryz.func131.trans (congrArg some (by kernel_rfl))⟩
 f68:=⟨Tryz.f151.name,by decide,Tryz.func151.trans (congrArg some (by kernel_rfl))⟩
 t0:=Tryz.underlying0
 a0:=Tryz.isAgg0
 z0:=Tryz.sizeOf0
 v0:=Tryz.zeroValue0
 t3:=Tryz.underlying3
 a3:=Tryz.isAgg3
 z3:=Tryz.sizeOf3
 v3:=Tryz.zeroValue3
 t4:=Tryz.underlying4
 a4:=Tryz.isAgg4
 z4:=Tryz.sizeOf4
 v4:=Tryz.zeroValue4
 t22:=Tryz.underlying36
 a22:=Tryz.isAgg36
 z22:=Tryz.sizeOf36
 v22:=Tryz.zeroValue36
 t23:=Tryz.underlying2
 a23:=Tryz.isAgg2
 z23:=Tryz.sizeOf2
 v23:=Tryz.zeroValue2
 t51:=Tryz.underlying159
 a51:=Tryz.isAgg159
 z51:=Tryz.sizeOf159
 v51:=Tryz.zeroValue159}
def Tryz.lContains_ren:Go.Shelf.Ren:=⟨λ |31=>114|29=>142|n=>n, λ |22=>36|23=>2|4=>4|3=>3|0=>0|n=>n, λ |n=>n⟩
theorem Tryz.lContains:Go.Proofs.SlLaysN.n31 Tryz.prog Tryz.lContains_ren:={
 mixed:=by kernel_rfl
 f29:=⟨Tryz.f142.name,by decide,Tryz.func142.trans (congrArg some (by kernel_rfl))⟩
 f31:=⟨Tryz.f114.name,by decide,Tryz.func114.trans (congrArg some (by kernel_rfl))⟩
 t0:=Tryz.underlying0
 a0:=Tryz.isAgg0
 z0:=Tryz.sizeOf0
 v0:=Tryz.zeroValue0
 t3:=Tryz.underlying3
 a3:=Tryz.isAgg3
 z3:=Tryz.sizeOf3
 v3:=Tryz.zeroValue3
 t4:=Tryz.underlying4
 a4:=Tryz.isAgg4
 z4:=Tryz.sizeOf4
 v4:=Tryz.zeroValue4
 t22:=Tryz.underlying36
 a22:=Tryz.isAgg36
 z22:=Tryz.sizeOf36
 v22:=Tryz.zeroValue36
 t23:=Tryz.underlying2
 a23:=Tryz.isAgg2
 z23:=Tryz.sizeOf2
 v23:=Tryz.zeroValue2}
end Go.Proofs
namespace Go.Proofs.YtjnglocdoljgkaaGreat
open Go.ChangeShapes Go.WideShapes Go.ChangeAt Go.RowKit
set_option linter.unusedVariables false
open Option renaming some → K,none → M
open Go renaming Value → J,World → Y,Calls → Ae,TypeId → Af
open Go.RowKit renaming Hid → Aa,Below → Ad
open Go.IntKind renaming i64 → Ab
open Go.Value renaming int → Ac,slice → Z
set_option maxHeartbeats 4000000
set_option maxRecDepth 100000
variable {z:Int}{S O:List Nat}{D:Nat->Nat->Bool}{q:Prop}
inductive Er (E:Nat->List Nat) (ok:Nat->Prop) (a:Nat):Nat->Prop
 |here:ok a->Er E ok a a
 |step {b c:Nat}:Er E ok a b->c∈E b->ok c->Er E ok a c
inductive FJ (E:Nat->List Nat) (ok:Nat->Prop) (a:Nat):Nat->Nat->Prop
 |here (k:Nat):ok a->FJ E ok a k a
 |step {k b c:Nat}:FJ E ok a k b->c∈E b->ok c->FJ E ok a (k+1) c
section
variable {E:Nat->List Nat} {ok ok':Nat->Prop} {a b c:Nat}
theorem Er.trans(h:Er E ok a b)(e:Er E ok b c):Er E ok a c:=by
 induction e with
 |here _=>exact h
 |step _ h2 f g=>exact .step g h2 f
theorem Er.mono(h:Er E ok a b)(e:∀x,ok x->ok' x):Er E ok' a b:=by
 induction h with
 |here h=>exact .here (e _ h)
 |step _ h2 f g=>exact .step g h2 (e _ f)
theorem Er.kv(h:Er E ok a b):ok b:=by
 cases h with
 |here h=>exact h
 |step _ _ h=>exact h
theorem Er.jF(h:Er E ok a b):ok a:=by
 induction h with
 |here h=>exact h
 |step _ _ _ e=>exact e
theorem Er.lt{n:Nat}(e:∀b,b<n->∀x∈E b,x<n)(f:a<n)(h:Er E ok a b):b<n:=by
 induction h with
 |here _=>exact f
 |step _ h2 _ g=>exact e _ g _ h2
theorem FJ.mono{k e:Nat}(h:FJ E ok a k b)(i:k<=e):FJ E ok a e b:=by
 induction h generalizing e with
 |here k h=>exact .here _ h
 | step _ h2 f g=>
   cases e with
   |zero=>omega
   |succ e=>exact .step (g oM) h2 f
theorem FJ.jP{k:Nat}(h:FJ E ok a k b):Er E ok a b:=by
 induction h with
 |here k h=>exact .here h
 |step _ h2 e f=>exact .step f h2 e
theorem Er.some(h:Er E ok a b):∃k,FJ E ok a k b:=by
 induction h with
 |here h=>exact⟨0,.here _ h⟩
 | step _ h2 e g=>obtain⟨k,f⟩:=g;exact⟨k+1,.step f h2 e⟩
end
theorem MD(m:Nat)(Q:Nat->Nat->Prop)(j:∀i k n,Q i k->k<=n->Q i n)(P:Nat->Prop)(h:∀i,P i->∃k,Q i k):∃a,∀i,i<m->P i->Q i a:=by
 induction m with
 |zero=>exact⟨0, λi f=>absurd f (Nat.not_lt_zero _)⟩
 | succ m q=>
   obtain⟨a,g⟩:=q;by_cases l:P m
   . obtain⟨k,p⟩:=h m l;refine⟨max a k, λi f b=> ?_⟩;by_cases e:i=m
     . subst e;exact j _ _ _ p (Nat.le_max_right _ _)
     exact j _ _ _ (g i oM b) (Nat.le_max_left _ _)
   refine⟨a, λi f b=> ?_⟩;by_cases e:i=m
   . subst e;exact absurd b l
   exact g i oM b
theorem SH(E:Nat->List Nat)(n:Nat):∃a,∀e,e<n->∀x,x<n->Er E (· ≠e) 0 x->FJ E (· ≠e) 0 a x:=by
 have h1:∀e,∃k,∀x,x<n->Er E (· ≠e) 0 x->FJ E (· ≠e) 0 k x:= λe=>
  MD n (λx k=>FJ E (· ≠e) 0 k x) (λi k m h b=>h.mono b) (λx=>Er E (· ≠e) 0 x) (λi h=>h.some)
 obtain⟨a,j⟩:=MD n (λe k=>∀x,x<n->Er E (· ≠e) 0 x->FJ E (· ≠e) 0 k x) (λi k m h b x g f=>(h x g f).mono b) (λ_=>True) (λi _=>h1 i);exact⟨a, λe l x g f=>j e l trivial x g f⟩
def Es(E:Nat->List Nat)(d b:Nat):Prop:=¬Er E (· ≠d) 0 b
inductive Eg (I:Nat->Int) (d:Nat):Nat->Prop
 |here:Eg I d d
 |up {b c:Nat}:b≠0->I b=(c:Int)->Eg I d c->Eg I d b
def Kn(I:Nat->Int)(b:Nat):Prop:=b=0\/I b≠ -1
structure Nd(n:Nat)(pl:Nat->Nat)(I:Nat->Int):Prop where
 up:∀b,b<n->b≠0->I b≠ -1->∃c:Nat,I b=(c:Int)/\c<n/\pl c<pl b/\Kn I c
section
variable {n:Nat} {pl:Nat->Nat} {I J:Nat->Int} {d e b c x:Nat}
theorem Eg.trans(h:Eg I d c)(a:Eg I c b):Eg I d b:=by
 induction a with
 |here=>exact h
 |up h1 h2 _ ih=>exact .up h1 h2 ih
theorem Eg.iN(g:Nd n pl I)(a:b<n)(h:Eg I d b):pl d<=pl b/\(d≠b->pl d<pl b)/\d<n:=by
 induction h with
 |here=>exact⟨Nat.le_refl _, λh=>absurd rfl h,a⟩
 | @up b c h1 h2 _ ih=>obtain⟨c',e,f,j,_⟩:=g.up b a h1 (by rw[h2];omega);obtain rfl:c'=c:=oM;obtain⟨k,l,i⟩:=ih f;exact⟨oM, λ_=>oM,i⟩
theorem Eg.kn(j:Nd n pl I)(g:b<n)(i:Kn I b)(h:Eg I d b):Kn I d:=by
 induction h with
 |here=>exact i
 | @up b c h1 h2 _ ih=>obtain⟨c',e,a,k,f⟩:=j.up b g h1 (by rw[h2];omega);obtain rfl:c'=c:=oM;exact ih a f
theorem Eg.zero(h:Eg I d 0):d=0:=by
 cases h with
 |here=>rfl
 |up h1=>exact absurd rfl h1
theorem Eg.iJ(h:Eg I d b)(a:d≠b):b≠0/\∃c:Nat,I b=(c:Int)/\Eg I d c:=by
 cases h with
 |here=>exact absurd rfl a
 |up h1 h2 h3=>exact⟨h1,_,h2,h3⟩
theorem Eg.jo(a:Nd n pl I)(g:b<n)(h:Eg I d b)(f:Eg I b d):d=b:=by
 have h1:=h.iN a g;have h2:=f.iN a h1.2.2;by_cases e:d=b
 . exact e
 have:=h1.2.1 e;omega
theorem Eg.turn(f:∀y,y≠b->I y=J y)(h:Eg I d x):Eg J d x\/(Eg J b x/\Eg I b x/\Eg I d b):=by
 induction h with
 |here=>exact .inl .here
 | @up x c h1 h2 h3 a=>
   by_cases e:x=b
   . subst e;exact .inr ⟨.here,.here,.up h1 h2 h3⟩
   rcases a with a|⟨g,i,j⟩
   . exact .inl (.up h1 (by rw[<-f x e];exact h2) a)
   exact .inr ⟨.up h1 (by rw[<-f x e];exact h2) g,.up h1 h2 i,j⟩
end
def Cy(I:Nat->Int)(a b m:Nat):Prop:=∀d,Eg I d m↔Eg I d a/\Eg I d b
theorem Cy.same(I:Nat->Int)(a:Nat):Cy I a a a:= λd=>⟨λh=>⟨h,h⟩, λh=>h.1⟩
theorem Cy.symm{I:Nat->Int}{a b m:Nat}(h:Cy I a b m):Cy I b a m:= λd=>(h d).trans And.comm
theorem Cy.left{n:Nat}{pl:Nat->Nat}{I:Nat->Int}{a b m c:Nat}(k:Nd n pl I)(i:b<n)(p:pl b<pl a)(g:a≠0)(j:I a=(c:Int))(h:Cy I c b m):Cy I a b m:= λd=>by
 rw[h d];refine⟨λq=>⟨.up g j q.1,q.2⟩, λq=>⟨?_,q.2⟩⟩;by_cases e:d=a
 . subst e;have:=(q.2.iN k i).1;omega
 obtain⟨_,c',l,f⟩:=q.1.iJ e;obtain rfl:c'=c:=oM;exact f
def Bj(n:Nat)(I:Nat->Int)(ps:List Nat)(z:Int):Prop:=(z=-1/\∀p∈ps,¬Kn I p)\/∃m:Nat,z=(m:Int)/\m<n/\Kn I m/\(∃p∈ps,Kn I p)/\∀d,Eg I d m↔∀p∈ps,Kn I p->Eg I d p
structure II(E:Nat->List Nat)(n:Nat)(pl:Nat->Nat)(I:Nat->Int):Prop where
 tree:Nd n pl I
 jp:∀x,x<n->Kn I x->∀d,Es E d x->Eg I d x
 ju:∀b c:Nat,b<n->b≠0->I b=(c:Int)->Er E (λx=>pl c<=pl x) c b
def LI(E:Nat->List Nat)(n:Nat)(pl:Nat->Nat)(I:Nat->Int)(k j:Nat):Prop:=∀x,x<n->Kn I x->∀e,Eg I e x->¬FJ E (· ≠e) 0 k x/\(pl x<j->¬FJ E (· ≠e) 0 (k+1) x)
theorem II.down{E:Nat->List Nat}{n:Nat}{pl:Nat->Nat}{I:Nat->Int}(h:II E n pl I){b x:Nat}(f:x<n)(g:Eg I b x):Er E (λy=>pl b<=pl y) b x:=by
 induction g with
 |here=>exact .here lR
 | @up x c h1 h2 h3 ih=>obtain⟨c',e,a,i,_⟩:=h.tree.up x f h1 (by rw[h2];omega);obtain rfl:c'=c:=oM;have j:=(h3.iN h.tree a).1;exact(ih a).trans ((h.ju x c' f h1 h2).mono λy k=>oM)
theorem FJ.split{E:Nat->List Nat}{e b k x:Nat}(h:FJ E (· ≠e) 0 k x):FJ E (· ≠b) 0 k x\/FJ E (· ≠e) 0 k b:=by
 induction h with
 | here k h=>
   by_cases q:(0:Nat)=b
   . subst q;exact .inr (.here _ h)
   exact .inl (.here _ q)
 | @step k p c h1 h2 h3 a=>
   rcases a with a|a
   . by_cases q:c=b
     . subst q;exact .inr (.step h1 h2 h3)
     exact .inl (.step a h2 q)
   exact .inr (a.mono oM)
def JV(E:Nat->List Nat)(n b:Nat)(ps:List Nat):Prop:=∀p,p∈ps↔p<n/\b∈E p
theorem Oj{E:Nat->List Nat}{n b d:Nat}{ps:List Nat}(f:JV E n b ps)(h:Es E d b)(a:d≠b):∀p∈ps,Es E d p:= λp e g=>h (.step g ((f p).1 e).2 a.symm)
theorem Nl{E:Nat->List Nat}{n b d:Nat}{ps:List Nat}(a:∀b,b<n->∀x∈E b,x<n)(f:0<n)(g:JV E n b ps)(e:b≠0)(h:∀p∈ps,Es E d p):Es E d b:= λi=>by
 cases i with
 |here _=>exact e rfl
 |step h1 h2 _=>exact h _ ((g _).2 ⟨h1.lt a f,h2⟩) h1
structure DI(E:Nat->List Nat)(n:Nat)(pl:Nat->Nat):Prop where
 pos:0<n
 jx:∀b,b<n->∀x∈E b,x<n
 zero:pl 0=0
 gK:∀b,b<n->b≠0->0<pl b
 inj:∀a b,a<n->b<n->pl a=pl b->a=b
 iA:∀b,b<n->b≠0->∃q,q<n/\b∈E q/\pl q<pl b
section
variable {E:Nat->List Nat} {n:Nat} {pl:Nat->Nat} {I J:Nat->Int} {b m k:Nat} {ps:List Nat}
theorem Jy(k:DI E n pl)(j:II E n pl I)(l:b<n)(r:b≠0)(u:JV E n b ps)(t:∀x,x<n->pl x<pl b->Kn I x)(s:Bj n I ps z):∃m:Nat,z=(m:Int)/\m<n/\Kn I m/\pl m<pl b/\∀d,Eg I d m↔∀p∈ps,Kn I p->Eg I d p:=by
 obtain⟨q,a,v,y⟩:=k.iA b l r;have f:=t q a y;have g:=(u q).2 ⟨a,v⟩;rcases s with⟨_,h⟩|⟨m,h1,h2,i,_,e⟩
 . exact absurd f (h q g)
 have:=((e m).1 .here q g f).iN j.tree a;exact⟨m,h1,h2,i,oM,e⟩
theorem II.set(O:DI E n pl)(a:II E n pl I)(P:b<n)(Q:b≠0)(t:JV E n b ps)(T:∀x,x<n->pl x<pl b->Kn I x)(s:m<n)(U:Kn I m)(D:pl m<pl b)(C:∀d,Eg I d m↔∀p∈ps,Kn I p->Eg I d p)(f:∀y,y≠b->I y=J y)(k:J b=(m:Int)):II E n pl J/\(∀x,Kn I x->Kn J x)/\(∀x,Kn J x->x=b\/Kn I x)/\(∀d,Eg I d m↔Eg J d m):=by
 have r:∀x,Kn I x->Kn J x:= λx h=>by
  by_cases e:x=b
  . subst e;exact .inr (by rw[k];omega)
  rcases h with h|h
  . exact .inl h
  exact .inr (by rw[<-f x e];exact h)
 have B:∀x,Kn J x->x=b\/Kn I x:= λx h=>by
  by_cases e:x=b
  . exact .inl e
  rcases h with h|h
  . exact .inr (.inl h)
  exact .inr (.inr (by rw[f x e];exact h))
 have z:Nd n pl J:=⟨λx g j h1=>by
  by_cases e:x=b
  . subst e;exact⟨m,k,s,D,r m U⟩
  obtain⟨c,c1,c2,c3,c4⟩:=a.tree.up x g j (by rw[f x e];exact h1);exact⟨c,by rw[<-f x e];exact c1,c2,c3,r c c4⟩⟩
 have F:∀d,Eg I d m↔Eg J d m:= λd=>by
  constructor
  . intro h;rcases h.turn f with h|⟨_,h2,_⟩
    . exact h
    have:=(h2.iN a.tree s).1;omega
  intro h;rcases h.turn (λy H=>(f y H).symm)with h|⟨_,h2,_⟩
  . exact h
  have:=(h2.iN z s).1;omega
 have A:∀d,Es E d b->Eg J d b:= λd i=>by
  by_cases e:d=b
  . subst e;exact .here
  refine .up Q k ((F d).1 ((C d).2 λp G l=>a.jp p ((t p).1 G).1 l d (Oj t i e p G)))
 refine⟨⟨z, λx g l d i=> ?_, λx c g j R=> ?_⟩,r,B,F⟩
 . by_cases e:x=b
   . subst e;exact A d i
   have S:=(B x l).resolve_left e;rcases(a.jp x g S d i).turn f with h|⟨h1,h2,N⟩
   . exact h
   by_cases v:d=b
   . subst v;exact h1
   refine(A d λV=>i (V.trans ((a.down g h2).mono λy H q=> ?_))).trans h1;subst q;have:=(N.iN a.tree P).2.1 v;omega
 by_cases e:x=b
 . subst e;obtain rfl:c=m:=oM;obtain⟨q,u,L,W⟩:=O.iA x g j;have X:=(C c).1 .here q ((t q).2 ⟨u,L⟩) (T q u W);exact .step (a.down u X) L (nM D)
 exact a.ju x c g j (by rw[f x e];exact R)
theorem LI.set(i:DI E n pl)(u:II E n pl I)(j:LI E n pl I k (pl b))(z:b<n)(A:b≠0)(D:JV E n b ps)(P:∀x,x<n->pl x<pl b->Kn I x)(H:k=0\/∀x,x<n->Kn I x)(R:m<n)(S:Kn I m)(T:pl m<pl b)(B:∀d,Eg I d m↔∀p∈ps,Kn I p->Eg I d p)(v:∀y,y≠b->I y=J y)(G:J b=(m:Int)):LI E n pl J k (pl b+1):=by
 obtain⟨W,X,O,U⟩:=u.set i z A D P R S T B v G;have s:∀e,Eg J e b->¬FJ E (· ≠e) 0 (k+1) b:= λe f a=>by
  by_cases q:e=b
  . subst q;exact a.jP.kv rfl
  obtain⟨_,c,c1,c2⟩:=f.iJ q;obtain rfl:c=m:=oM;have L:=(B e).1 ((U e).2 c2);cases a with
  |here _ h=>exact A rfl
  | @step _ p _ h1 h2 t=>
    have r:p<n:=h1.jP.lt i.jx i.pos;have C:Kn I p:=by
     rcases H with rfl|h
     . (cases h1);exact .inl rfl
     exact h p r
    exact(j p r C e (L p ((D p).2 ⟨r,h2⟩) C)).1 h1
 intro x g N e f;by_cases q:x=b
 . subst q;exact⟨λh=>s e f (h.mono oM), λ_=>s e f⟩
 have l:=(O x N).resolve_left q;rcases f.turn (λy V=>(v y V).symm)with h|⟨h1,h2,t⟩
 . refine⟨(j x g l e h).1, λQ=>(j x g l e h).2 ?_⟩;by_cases F:pl x=pl b
   . exact absurd (i.inj x b g z F) q
   omega
 refine⟨λa=> ?_, λQ=> ?_⟩
 . rcases a.split (b:=b)with a|a
   . exact(j x g l b h1).1 a
   exact s e t (a.mono oM)
 have:=(h1.iN u.tree g).2.1 (Ne.symm q);omega
theorem Vc(e:DI E n pl)(j:II E n pl I)(f:∀x,x<n->Kn I x)(q:Nat->List Nat)(t:∀b,b<n->JV E n b (q b))(s:∀b,b<n->b≠0->Bj n I (q b) (I b)){d x:Nat}(a:x<n):Eg I d x↔Es E d x:=by
 refine⟨λk u=> ?_,j.jp x a (f x a) d⟩;induction u with
 |here h=>exact h (Eg.zero k).symm
 | @step p c h1 h2 h3 ih=>have g:p<n:=h1.lt e.jx e.pos;obtain⟨i,m,A,r⟩:=k.iJ (Ne.symm h3);have l:=t c a;obtain⟨z,f1,_,_,_,f2⟩:=Jy e j a i l (λy v _=>f y v) (s c a i);obtain rfl:z=m:=oM;exact ih g ((f2 d).1 r p ((l p).2 ⟨g,h2⟩) (f p g))
theorem UZ(q:DI E n pl)(a:II E n pl I)(k:∀x,x<n->Kn I x)(t:∀x,x<n->∀d,Eg I d x->Es E d x)(f:b<n)(j:b≠0)(i:JV E n b ps)(A:Bj n I ps z):z=I b:=by
 obtain⟨m,h1,h2,F,G,s⟩:=Jy q a f j i (λy C _=>k y C) A;obtain⟨c,c1,c2,c3,c4⟩:=a.tree.up b f j ((k b f).resolve_left j);have u:∀d,Eg I d m↔Eg I d c:= λd=>by
  constructor
  . intro h;(have r:d≠b:= λe=>by have:=(h.iN a.tree h2).1;rw[e]at this;omega);(have l:Es E d b:=Nl q.jx q.pos i j λp g=>t p ((i p).1 g).1 d ((s d).1 h p g (k p ((i p).1 g).1)));obtain⟨_,c',D,v⟩:=(a.jp b f (k b f) d l).iJ r;obtain rfl:c'=c:=oM;exact v
  intro h;have r:d≠b:= λe=>by have:=(h.iN a.tree c2).1;rw[e]at this;omega
  have l:=t b f d (.up j c1 h);exact(s d).2 λp g B=>a.jp p ((i p).1 g).1 B d (Oj i l r p g)
 have:=Eg.jo a.tree c2 ((u m).1 .here) ((u c).2 .here);rw[h1,c1,this]
theorem II.start(a:∀y,I y=-1):II E n pl I:=⟨⟨λb _ _ h=>absurd (a b) h⟩, λx i g d f=>by
 obtain rfl:x=0:=g.resolve_right λh=>h (a x)
 by_cases e:d=0
 . subst e;exact .here
 exact absurd (.here (Ne.symm e)) f, λb c _ _ h=>by rw[a b]at h;omega⟩
theorem LI.start(g:DI E n pl)(a:∀y,I y=-1):LI E n pl I 0 1:= λx i f e b=>by
 obtain rfl:x=0:=f.resolve_right λh=>h (a x)
 obtain rfl:=b.zero;exact⟨λh=>h.jP.jF rfl, λ_ h=>h.jP.jF rfl⟩
theorem LI.pass(f:DI E n pl)(g:LI E n pl I k n)(j:∀x,x<n->pl x<n):LI E n pl I (k+1) 1:= λx a i e b=>by
 refine⟨(g x a i e b).2 (j x a), λl=> ?_⟩;by_cases q:x=0
 . subst q;obtain rfl:=b.zero;exact λh=>h.jP.jF rfl
 have:=f.gK x a q;omega
end
inductive Vs (E:Nat->List Nat):List Nat->List Nat->List Nat->List Nat->List Nat->Prop
 |nil (S O:List Nat):Vs E S O [] S O
 |old {S O r S' O':List Nat} {b:Nat}:b∈S->Vs E S O r S' O'->Vs E S O (b::r) S' O'
 |new {S O r S1 O1 S2 O2:List Nat} {b:Nat}:b∉S->Vs E (b::S) O (E b) S1 O1->Vs E S1 (O1++[b]) r S2 O2->Vs E S O (b::r) S2 O2
theorem Vs.one{E:Nat->List Nat}{S O r g f b a:List Nat}(h:Vs E S O r g f)(e:Vs E S O r b a):g=b/\f=a:=by
 induction h generalizing b a with
 |nil S O=>cases e with|nil=>exact⟨rfl,rfl⟩
 | old h1 _ ih=>
   cases e with
   |old _ h3=>exact ih h3
   |new h3=>exact absurd h1 h3
 | new h1 _ _ ih1 ih2=>
   cases e with
   |old h3=>exact absurd h3 h1
   | new _ h3 h4=>obtain⟨rfl,rfl⟩:=ih1 h3;exact ih2 h4
theorem Vs.gX{E:Nat->List Nat}{S O r i f b g e:List Nat}(h:Vs E S O r f b)(a:Vs E f b i g e):Vs E S O (r++i) g e:=by
 induction h with
 |nil S O=>exact a
 |old h1 _ ih=>exact .old h1 (ih a)
 |new h1 h2 _ _ ih=>exact .new h1 h2 (ih a)
structure Wt(E:Nat->List Nat)(S O r S' O' N:List Nat):Prop where
 o:O'=O++N
 seen:∀x,x∈S'↔x∈S\/x∈N
 nodup:N.Nodup
 fresh:∀x∈N,x∉S
 todo:∀x∈r,x∈S'
 closed:∀x∈N,∀y∈E x,y∈S'
 iA:∀x∈N,x∈r\/∃p A B C,N=A++x::B++p::C/\x∈E p
 from_:∀x∈N,∃t∈r,Er E (· ∉S) t x
theorem Vs.told{E:Nat->List Nat}{r S' u:List Nat}(h:Vs E S O r S' u):∃N,Wt E S O r S' u N:=by
 induction h with
 |nil S O=>exact⟨[],sP,sP,List.nodup_nil,sP,sP,sP,sP,sP⟩
 | @old S O r S' u b h1 _ ih=>
   obtain⟨N,t⟩:=ih;refine⟨N,t.o,t.seen,t.nodup,t.fresh, λx a=> ?_,t.closed, λx a=> ?_, λx a=> ?_⟩
   . rcases lA.1 a with rfl|a
     . exact(t.seen x).2 (.inl h1)
     exact t.todo x a
   . rcases t.iA x a with h|h
     . exact .inl (lX _ h)
     exact .inr h
   obtain⟨y,h2,D⟩:=t.from_ x a;exact⟨y,lX _ h2,D⟩
 | @new S O r S1 O1 S2 O2 b h1 _ _ ih1 ih2=>
   obtain⟨l,i⟩:=ih1;obtain⟨m,f⟩:=ih2;have s:∀x,x∈S1↔x=b\/x∈S\/x∈l:= λx=>by rw[i.seen,lA,or_assoc]
   have v:∀x,x∈S2↔x=b\/x∈S\/x∈l\/x∈m:= λx=>by
    rw[f.seen,s];constructor
    . rintro((h|h|h)|h)
      . exact .inl h
      . exact .inr (.inl h)
      . exact .inr (.inr (.inl h))
      exact .inr (.inr (.inr h))
    rintro(h|h|h|h)
    . exact .inl (.inl h)
    . exact .inl (.inr (.inl h))
    . exact .inl (.inr (.inr h))
    exact .inr h
   have n:∀x,x∈l++b::m↔x=b\/x∈l\/x∈m:= λx=>by
    rw[kS,lA];constructor
    . rintro(h|h|h)
      . exact .inr (.inl h)
      . exact .inl h
      exact .inr (.inr h)
    rintro(h|h|h)
    . exact .inr (.inl h)
    . exact .inl h
    exact .inr (.inr h)
   refine⟨l++b::m,?_, λx=> ?_,?_, λx a=> ?_, λx a=> ?_, λx a y g=> ?_, λx a=> ?_, λx a=> ?_⟩
   . rw[f.o,i.o];simp
   . rw[v,n];constructor
     . rintro(h|h|h)
       . exact .inr (.inl h)
       . exact .inl h
       exact .inr (.inr h)
     rintro(h|h|h)
     . exact .inr (.inl h)
     . exact .inl h
     exact .inr (.inr h)
   . rw[nQ];refine⟨i.nodup,List.nodup_cons.2 ⟨λh=>f.fresh b h ((s b).2 (.inl rfl)),f.nodup⟩, λx a y g e=> ?_⟩;subst e;rcases lA.1 g with rfl|g
     . exact i.fresh x a (ln ..)
     exact f.fresh x g ((s x).2 (.inr (.inr a)))
   . rcases(n x).1 a with rfl|h|h
     . exact h1
     . exact λq=>i.fresh x h (lX _ q)
     exact λq=>f.fresh x h ((s x).2 (.inr (.inl q)))
   . rcases lA.1 a with rfl|a
     . exact(v x).2 (.inl rfl)
     exact f.todo x a
   . rcases(n x).1 a with rfl|h|h
     . exact(f.seen y).2 (.inl (i.todo y g))
     . exact(f.seen y).2 (.inl (i.closed x h y g))
     exact f.closed x h y g
   . rcases(n x).1 a with rfl|h|h
     . exact .inl (ln ..)
     . rcases i.iA x h with q|⟨p,A,B,C,j,k⟩
       . obtain⟨A,B,rfl⟩:=List.append_of_mem h;exact .inr ⟨b,A,B,m,sP,q⟩
       exact .inr ⟨p,A,B,C++b::m,by rw[j];simp,k⟩
     rcases f.iA x h with q|⟨p,A,B,C,j,k⟩
     . exact .inl (lX _ q)
     exact .inr ⟨p,l++b::A,B,C,by rw[j];simp,k⟩
   rcases(n x).1 a with rfl|h|h
   . exact⟨x,ln ..,.here h1⟩
   . obtain⟨t,j,k⟩:=i.from_ x h;(have z:Er E (· ∉S) t x:=k.mono λy g q=>g (lX _ q));exact⟨b,ln ..,(Er.step (.here h1) j z.jF).trans z⟩
   obtain⟨t,j,k⟩:=f.from_ x h;exact⟨t,lX _ j,k.mono λy g q=>g ((s y).2 (.inr (.inl q)))⟩
theorem Wt.iff{E:Nat->List Nat}{S O r S' a N:List Nat}(t:Wt E S O r S' a N)(x:Nat):x∈N↔∃q∈r,Er E (· ∉S) q x:=by
 refine⟨t.from_ x,?_⟩;rintro⟨q,h1,h2⟩;induction h2 with
 |here h=>exact((t.seen _).1 (t.todo _ h1)).resolve_left h
 |step _ b e f=>exact((t.seen _).1 (t.closed _ f _ b)).resolve_left e
def A4(S:List Nat)(n:Nat):Nat:=((List.range n).filter λi=> !S.contains i).length
theorem Ep(S:List Nat)(n x:Nat)(h:x<n)(f:x∉S):A4 (x::S) n+1=A4 S n:=by
 unfold A4;induction n with
 |zero=>omega
 | succ n g=>
   rw[m9,mr,mr,kJ,kJ];by_cases e:x=n
   . subst e;(have h1:(List.range x).filter (λi=> !(x::S).contains i)=(List.range x).filter (λi=> !S.contains i):=by apply List.filter_congr;intro i b;(have:i≠x:=by have:=mz.1 b;omega);simp[this]);rw[h1];simp[f]
   have:=g oM;(have a:((x::S).contains n)=S.contains n:=by (have:¬n=x:= λq=>e q.symm);simp[this]);rw[nY,nY,a];simp only[oC];omega
theorem Fu(n:Nat):A4 [] n=n:=by unfold A4;simp only[List.contains_nil,Bool.not_false];rw[List.filter_eq_self.2 (λa _=>rfl),mS]
theorem Ga(L:List Nat)(n:Nat)(a:∀x∈L,x<n)(b:L.Nodup): ↑L+A4 L n=n:=by
 induction L with
 |nil=>simp[Fu]
 | cons x L f=>obtain⟨h1,h2⟩:=List.nodup_cons.1 b;have:=f (λy e=>a y (lX _ e)) h2;have:=Ep L n x (a x (ln ..)) h1;rw[lh];omega
def DF(O:List Nat)(b:Nat):Nat:=O.reverse.idxOf b
theorem WW{b:Nat}(h:b∈O):DF O b<O.length:=by have:b∈O.reverse:=mT.2 h;have:=nh.2 this;unfold DF;simpa using this
theorem JH{b:Nat}(h:b∈O):O.reverse[DF O b]?=K b:=by have a:b∈O.reverse:=mT.2 h;have h2:=nh.2 a;unfold DF;rw[an h2,List.getElem_idxOf]
theorem Rv{a b:Nat}(e:a∈O)(f:b∈O)(h:DF O a=DF O b):a=b:=by have h1:=JH e;have h2:=JH f;rw[h,h2]at h1;exact(kN h1).symm
theorem SG{A B C:List Nat}{x p:Nat}(g:O.Nodup)(h:O=A++x::B++p::C):DF O p<DF O x:=by
 unfold DF;subst h;have b:(A++x::B++p::C).reverse=C.reverse++p::(B.reverse++x::A.reverse):=sP;have i:(C.reverse++p::(B.reverse++x::A.reverse)).Nodup:=by rw[<-b];exact List.pairwise_reverse.2 (g.imp Ne.symm)
 rw[b];obtain⟨m,e,a⟩:=nQ.1 i;obtain⟨f,n⟩:=List.nodup_cons.1 e;have j:p∉C.reverse:= λq=>a p q p (ln ..) rfl
 have l:x∉C.reverse:= λq=>a x q x sP rfl
 have k:p≠x:= λq=>f (by rw[q];simp)
 rw[List.idxOf_append,List.idxOf_append,lE j,lE l,oh,oh];have:(p==x)=false:=by simpa using k
 simp[this]
theorem Cx{E:Nat->List Nat}{n:Nat}(l:0<n)(m:∀b,b<n->∀x∈E b,x<n)(h:Vs E [] [] [0] S O)(v:∀b,b<n->b∈S):DI E n (DF O)/\O.Nodup/\ ↑O=n/\(∀x,x∈O↔x<n)/\O.reverse[0]?=K 0:=by
 obtain⟨N,t⟩:=h.told;obtain rfl:O=N:=by simpa using t.o
 have f:∀x,x∈O↔x<n:= λx=>by
  constructor
  . intro i;obtain⟨q,h1,h2⟩:=t.from_ x i;(have:q=0:=by simpa using h1);subst this;exact h2.lt m l
  intro i;have:=(t.seen x).1 (v x i);simpa using this
 have D: ↑O=n:=by
  have h1:=Ga O n (λx i=>(f x).1 i) t.nodup;have:A4 O n=0:=by unfold A4;rw[List.length_eq_zero_iff,List.filter_eq_nil_iff];intro a k;simp[(f a).2 (List.mem_range.1 k)]
  omega
 have z:∃M,O=M++[0]:=by
  cases h with
  |old h1=>cases h1
  | new _ h2 h3=>
    cases h3 with
    |nil=>exact⟨_,rfl⟩
 obtain⟨M,r⟩:=z;have j:O.reverse[0]?=K 0:=by rw[r];simp
 have s:DF O 0=0:=by unfold DF;rw[r];simp
 refine⟨⟨l,m,s, λb g j=> ?_, λa b k g=>Rv ((f a).2 k) ((f b).2 g), λb g y=> ?_⟩,t.nodup,D,f,j⟩
 . rcases Nat.eq_zero_or_pos (DF O b)with e|e
   . exact absurd (Rv ((f b).2 g) ((f 0).2 l) (by rw[e,s])) j
   exact e
 rcases t.iA b ((f b).2 g)with q|⟨p,A,B,C,u,F⟩
 . exact absurd (by simpa using q) y
 exact⟨p,(f p).1 (by rw[u];simp),F,SG t.nodup u⟩
section
variable {E:Nat->List Nat} {n:Nat} {pl:Nat->Nat} {b c d k:Nat}
theorem Es.kE(E:Nat->List Nat)(d:Nat):Es E d d:= λh=>h.kv rfl
theorem Es.iQ(h:Es E d 0):d=0:=by
 by_cases e:d=0
 . exact e
 exact absurd (.here (Ne.symm e)) h
theorem Es.zero(E:Nat->List Nat)(b:Nat):Es E 0 b:= λh=>h.jF rfl
theorem Er.split{e x:Nat}(h:Er E (· ≠e) 0 x):Er E (· ≠b) 0 x\/Er E (· ≠e) 0 b:=by
 induction h with
 | here h=>
   by_cases q:(0:Nat)=b
   . subst q;exact .inr (.here h)
   exact .inl (.here q)
 | @step p c h1 h2 h3 a=>
   rcases a with a|a
   . by_cases q:c=b
     . subst q;exact .inr (.step h1 h2 h3)
     exact .inl (.step a h2 q)
   exact .inr a
theorem Es.trans(h:Es E k d)(e:Es E d c):Es E k c:= λa=>by
 rcases a.split (b:=d)with a|a
 . exact e a
 exact h a
theorem Es.ju(f:DI E n pl)(i:b<n)(h:Es E d b):Er E (λx=>pl d<=pl x) d b/\pl d<=pl b/\(d≠b->pl d<pl b):=by
 suffices ∀m b,pl b<=m->b<n->Es E d b->Er E (λx=>pl d<=pl x) d b/\pl d<=pl b/\(d≠b->pl d<pl b)from this _ b lR i h
 intro m;induction m with
 | zero=>
   intro b h1 h2 a;by_cases e:d=b
   . subst e;exact⟨.here lR,Nat.le_refl _, λq=>absurd rfl q⟩
   by_cases e0:b=0
   . subst e0;exact absurd a.iQ e
   have:=f.gK b h2 e0;omega
 | succ m l=>
   intro b h1 h2 a;by_cases e:d=b
   . subst e;exact⟨.here lR,Nat.le_refl _, λq=>absurd rfl q⟩
   by_cases e0:b=0
   . subst e0;exact absurd a.iQ e
   obtain⟨q,p,g,t⟩:=f.iA b h2 e0;(obtain⟨k,s,_⟩:=l q oM p λj=>a (.step j g (Ne.symm e)));exact⟨.step k g oM,oM, λ_=>oM⟩
theorem Es.jo(a:DI E n pl)(g:b<n)(i:d<n)(h:Es E d b)(f:Es E b d):d=b:=by
 by_cases e:d=b
 . exact e
 have:=(h.ju a g).2.2 e;have:=(f.ju a i).2.1;omega
def Gl(E:Nat->List Nat)(b c:Nat):Prop:=c≠b/\Es E c b/\∀d,d≠b->Es E d b->Es E d c
theorem Gl.one(e:DI E n pl){c':Nat}(f:c<n)(g:c'<n)(h:Gl E b c)(a:Gl E b c'):c=c':=Es.jo e g f (a.2.2 c h.1 h.2.1) (h.2.2 c' a.1 a.2.1)
theorem WT(P:Nat->Prop)(pl:Nat->Nat)(B:Nat)(f:∀d,P d->pl d<=B)(h:∃d,P d):∃c,P c/\∀d,P d->pl d<=pl c:=by
 obtain⟨d,a⟩:=h;suffices ∀m d,P d->B<=pl d+m->∃c,P c/\∀d,P d->pl d<=pl c from this B d a oM
 intro m;induction m with
 | zero=>intro d a h;exact⟨d,a, λe b=>by have:=f e b;omega⟩
 | succ m g=>
   intro d a h;by_cases q:∃e,P e/\pl d<pl e
   . obtain⟨e,h1,h2⟩:=q;exact g e h1 oM
   exact⟨d,a, λe b=>by
    by_cases r:pl e<=pl d
    . exact r
    exact absurd ⟨e,b,oM⟩ q⟩
theorem Qc(a:DI E n pl)(i:∀x,x<n->Er E (λ_=>True) 0 x)(g:b<n)(h:Es E d b):d<n:=by
 by_cases e:d<n
 . exact e
 refine absurd ?_ h;have h1:=i b g;clear h;induction h1 with
 |here _=>exact .here oM
 | step k l m j=>have f:=k.lt a.jx a.pos;exact .step (j f) l oM
theorem Rl(a:DI E n pl)(i:∀x,x<n->Er E (λ_=>True) 0 x)(f:b<n)(l:b≠0):∃c,c<n/\Gl E b c:=by
 obtain⟨c,⟨c1,c2⟩,c3⟩:=WT (λd=>d≠b/\Es E d b) pl (pl b) (λd h=>(h.2.ju a f).2.1) ⟨0,Ne.symm l,Es.zero E b⟩
 refine⟨c,Qc a i f c2,c1,c2, λd k g j=> ?_⟩;by_cases e:d=c
 . subst e;exact j.kv rfl
 have m:pl d<pl c:=by
  have h1:=c3 d ⟨k,g⟩;have h2:=a.inj d c (Qc a i f g) (Qc a i f c2);by_cases q:pl d=pl c
  . exact absurd (h2 q) e
  omega
 exact g (j.trans (((c2.ju a f).1).mono λx p q=>by subst q;omega))
end
def Ni(D:Nat->Nat->Bool)(n d:Nat):Nat:=((List.range n).filter λk=>D k d).length
theorem On(P Q:Nat->Bool)(n c:Nat)(h:∀k,k<n->P k=true->Q k=true)(a:c<n)(h1:P c=false)(h2:Q c=true):((List.range n).filter P).length<((List.range n).filter Q).length:=by
 have i:∀m,m<=n->((List.range m).filter P).length+(if c<m then 1 else 0)<=((List.range m).filter Q).length:=by
  intro m;induction m with
  |zero=>simp
  | succ m g=>
    intro j;have:=g oM;rw[m9,mr,mr,kJ,kJ];by_cases e:m=c
    . subst e;simp only[nY,h1,h2,oC];simp at this⊢;omega
    have b:(c<m+1)=(c<m):=oT;simp only[b];cases hp:P m with
    | false=>simp only[nY,hp,oC];simp only[nw,if_false,mD];omega
    | true=>have f:=h m oM hp;simp only[nY,hp,f,oC];simp only[if_true,lh,mD];omega
 have:=i n lR;rw[lS a]at this;omega
theorem Tk{E:Nat->List Nat}{n:Nat}{pl:Nat->Nat}(f:DI E n pl)(a:∀d b,D d b=true↔Es E d b){c d:Nat}(e:c<n)(g:d<n)(h:Es E d c)(j:d≠c):Ni D n d<Ni D n c:=by
 refine On _ _ n c (λk _ i=>(a k c).2 (((a k d).1 i).trans h)) e ?_ ((a c c).2 (Es.kE E c));cases q:D c d with
 |false=>rfl
 |true=>exact absurd (Es.jo f e g h ((a c d).1 q)) j
def CF(D:Nat->Nat->Bool)(n b j:Nat)(a e:Int):Prop:=(a=-1/\e=-1/\∀d,d<j->¬(d≠b/\D d b=true))\/∃c:Nat,c<j/\a=(c:Int)/\e=(Ni D n c:Int)/\c≠b/\D c b=true/\∀d,d<j->d≠b->D d b=true->Ni D n d<=Ni D n c
theorem CF.end_{E:Nat->List Nat}{n:Nat}{pl:Nat->Nat}(l:DI E n pl)(s:∀x,x<n->Er E (λ_=>True) 0 x)(f:∀d b,D d b=true↔Es E d b){b:Nat}{i t:Int}(r:b<n)(h:CF D n b n i t):(b=0/\i=-1)\/b≠0/\∃c:Nat,c<n/\i=(c:Int)/\Gl E b c:=by
 by_cases j:b=0
 . subst j;rcases h with⟨h1,_⟩|⟨c,_,_,_,h2,k,_⟩
   . exact .inl ⟨rfl,h1⟩
   exact absurd ((f c 0).1 k).iQ h2
 obtain⟨c,g,a⟩:=Rl l s r j;refine .inr ⟨j,c,g,?_,a⟩;rcases h with⟨_,_,h1⟩|⟨d,h1,h2,_,k,m,p⟩
 . exact absurd ⟨a.1,(f c b).2 a.2.1⟩ (h1 c g)
 by_cases e:d=c
 . rw[h2,e]
 have q:=a.2.2 d k ((f d b).1 m);have u:=Tk l f g h1 q e;have v:=p c g a.1 ((f c b).2 a.2.1);omega
theorem CF.start(D:Nat->Nat->Bool)(n b:Nat):CF D n b 0 (-1) (-1):=.inl ⟨rfl,rfl, λd a=>oM⟩
theorem CF.skip{n b j:Nat}{f l:Int}(h:CF D n b j f l)(k:¬(j≠b/\D j b=true)):CF D n b (j+1) f l:=by
 rcases h with⟨h1,h2,a⟩|⟨c,h1,h2,a,m,p,q⟩
 . exact .inl ⟨h1,h2, λd r=>by
    by_cases e:d=j
    . subst e;exact k
    exact a d oM⟩
 . exact .inr ⟨c,oM,h2,a,m,p, λd r g i=>by
    by_cases e:d=j
    . subst e;exact absurd ⟨g,i⟩ k
    exact q d oM g i⟩
theorem CF.less{n b j:Nat}{f a:Int}(h:CF D n b j f a)(r:(Ni D n j:Int)<=a):CF D n b (j+1) f a:=by
 rcases h with⟨h1,h2,g⟩|⟨c,h1,h2,g,l,m,p⟩
 . omega
 exact .inr ⟨c,oM,h2,g,l,m, λd q i k=>by
  by_cases e:d=j
  . subst e;omega
  exact p d oM i k⟩
theorem CF.more{n b j:Nat}{k i:Int}(h:CF D n b j k i)(h1:j≠b)(h2:D j b=true)(p:i<(Ni D n j:Int)):CF D n b (j+1) (j:Int) (Ni D n j:Int):=by
 refine .inr ⟨j,oM,rfl,rfl,h1,h2, λd m a f=> ?_⟩;by_cases e:d=j
 . subst e;omega
 rcases h with⟨_,_,g⟩|⟨c,_,_,g,_,_,l⟩
 . exact absurd ⟨a,f⟩ (g d oM)
 have:=l d oM a f;omega
def BF(E:Nat->List Nat)(n b:Nat):List Nat:=(List.range n).flatMap λp=>((E p).filter λx=>decide (x=b)).map λ_=>p
def AJ(E:Nat->List Nat)(D:Nat->Nat->Bool)(n h:Nat):List Nat:=(List.range n).flatMap λp=>((E p).filter λx=>decide (x=h)&&D h p).map λ_=>p
theorem ES(E:Nat->List Nat)(n b p:Nat):p∈BF E n b↔p<n/\b∈E p:=by
 simp only[BF,mN,mz,lK,nj,mi];constructor
 . rintro⟨q,h1,x,⟨h2,rfl⟩,rfl⟩;exact⟨h1,h2⟩
 rintro⟨h1,h2⟩;exact⟨p,h1,b,⟨h2,rfl⟩,rfl⟩
theorem G9(E:Nat->List Nat)(n b:Nat):JV E n b (BF E n b):=ES E n b
theorem Jt(E:Nat->List Nat)(D:Nat->Nat->Bool)(n h p:Nat):p∈AJ E D n h↔p<n/\h∈E p/\D h p=true:=by
 simp only[AJ,mN,mz,lK,nj,nL,mi];constructor
 . rintro⟨q,h1,x,⟨h2,rfl,a⟩,rfl⟩;exact⟨h1,h2,a⟩
 rintro⟨h1,h2,a⟩;exact⟨p,h1,h,⟨h2,rfl,a⟩,rfl⟩
def DZ(E:Nat->List Nat)(D:Nat->Nat->Bool)(n h x:Nat):Prop:=x=h\/∃t∈AJ E D n h,Er (BF E n) (· ≠h) t x
structure FU(E:Nat->List Nat)(n:Nat)(bad:Nat->Nat->Prop)(b k x:Nat):Prop where
 lt:b<n
 at_:(E b)[k]?=K x
 is:bad b x
 less:∀b' k' x',b'<n->(E b')[k']?=K x'->b'<b\/(b'=b/\k'<k)->¬bad b' x'
theorem FU.one{E:Nat->List Nat}{n:Nat}{bad:Nat->Nat->Prop}{b k x g f x':Nat}(h:FU E n bad b k x)(a:FU E n bad g f x'):x=x':=by
 by_cases e:b=g
 . subst e;by_cases i:k=f
   . subst i;have h1:=h.at_;rw[a.at_]at h1;exact(kN h1).symm
   rcases Nat.lt_or_gt_of_ne i with q|q
   . exact absurd h.is (a.less b k x h.lt h.at_ (.inr ⟨rfl,q⟩))
   exact absurd a.is (h.less b f x' a.lt a.at_ (.inr ⟨rfl,q⟩))
 rcases Nat.lt_or_gt_of_ne e with q|q
 . exact absurd h.is (a.less b k x h.lt h.at_ (.inl q))
 exact absurd a.is (h.less g f x' a.lt a.at_ (.inl q))
def LE(O:List Nat)(D:Nat->Nat->Bool)(b x:Nat):Prop:=DF O x<=DF O b/\¬D x b=true
theorem Jq(h:q:=by go_enter Tryz.func22,Tryz.ntmps22;go_wp2;go_ret;exact⟨rfl,rfl⟩):q:=h
theorem Co(x:MI)(w:Y):Ae Tryz.prog 22 #[Ac Ab x.op] w λe h=>e=.returned (.bool (AR x))/\h=w:=by
 by_cases h1:x.op=25
 . (have e:AR x=true:=by simp[AR,h1]);rw[e,h1];exact Jq
 by_cases h2:x.op=26
 . (have e:AR x=true:=by simp[AR,h2]);rw[e,h2];exact Jq
 by_cases a:x.op=27
 . (have e:AR x=true:=by simp[AR,a]);rw[e,a];exact Jq
 have e:AR x=false:=by simp[AR,h1,h2,a]
 have b:(x.op==25)=false:=by simpa using h1
 have f:(x.op==26)=false:=by simpa using h2
 have g:(x.op==27)=false:=by simpa using a
 rw[e];generalize x.op=op at h1 h2 a b f g;exact Jq
theorem Pv{q:Prop}(h:q:=by
 go_wp2;go_roundw;case rel=>exact⟨k+1,by omega,by go_num,HN,by trivial⟩
 simp[intOf];omega):q:=h
theorem Qq(s:J)(xs:List MI)(w:Y)(I:xs.length<=1048576)(h:Rd w 4 s xs (xs.flatMap MI.cells)):
 Ae Tryz.prog 75 #[s] w λe Q=>AC e (AH xs)/\Q=w:=by
 have H:Aa (Rd w 4 s xs (xs.flatMap MI.cells)):=h;obtain⟨R,c1,rfl⟩:=h.fu;clear h;generalize C:xs.length=n at I H;have a:Aa (xs.length=n):=C;clear C;by_cases q0:n<1
 . (have HN:Aa (¬AH xs):= λe=>by have:=e.1;rw[a.o]at this;omega);have N:(n:Int)<1:=oM;go_enter Tryz.func75,Tryz.ntmps75;go_wp2;go_ret;exact⟨.no HN.o,rfl⟩
 have N:¬(n:Int)<1:=oM;by_cases q1:1024<n
 . (have HN:Aa (¬AH xs):= λe=>by have:=e.2.1;rw[a.o]at this;omega);have O:(1024:Int)<(n:Int):=oM;go_enter Tryz.func75,Tryz.ntmps75;go_wp2;go_ret;exact⟨.no HN.o,rfl⟩
 have O:¬(1024:Int)<(n:Int):=oM;go_enter Tryz.func75,Tryz.ntmps75;go_wp2;go_loopw [4] (λi wr=>∃k:Nat,k<=n/\i=Ac Ab k/\Aa (∀j,j<k->∀x,xs[j]?=K x->AR x=true->0<=x.c/\x.c<(n:Int))/\wr=w) (λi _=>n-(intOf i).toNat)
 case atStart=>exact⟨0,oM,rfl, λj F=>oM,rfl⟩
 obtain⟨k,S,rfl,t,rfl⟩:=hrel;by_cases A:k<n
 . obtain⟨x,p⟩:∃x,xs[k]?=K x:=⟨_,an (by rw[a.o];exact A)⟩;have l:Aa (xs[k]?=K x):=p;rcases H.o.2 with⟨e0,_⟩|⟨g,o,c,B,z⟩
   . omega
   simp only[jc,lO]at B;obtain⟨rfl,rfl⟩:=B;have L:=Rd.elem MI.gH z k _ p 0 _ rfl;have W:=Rd.elem MI.gH z k _ p 3 _ rfl;rw[kZ]at L;clear z p;have T:(k:Int)<(n:Int):=oM;go_wp2_with fail;refine(Co x _).mono ?_;rintro e u ⟨rfl,rfl⟩;cases hgo:AR x
   . have HN:Aa (∀j,j<k+1->∀x,xs[j]?=K x->AR x=true->0<=x.c/\x.c<(n:Int)):= λj F y f b=>by
      by_cases e:j=k
      . subst e;rw[l.o]at f;(cases f);rw[hgo]at b;cases b
      exact t.o j oM y f b
     exact Pv
   . by_cases r0:x.c<0
     . (have HN:Aa (¬AH xs):= λe=>by have:=e.2.2 k x l.o hgo;omega);go_wp2;go_ret;exact⟨.no HN.o,rfl⟩
     by_cases r1:(n:Int)<=x.c
     . (have HN:Aa (¬AH xs):= λe=>by have:=e.2.2 k x l.o hgo;rw[a.o]at this;omega);go_wp2;go_ret;exact⟨.no HN.o,rfl⟩
     have HN:Aa (∀j,j<k+1->∀x,xs[j]?=K x->AR x=true->0<=x.c/\x.c<(n:Int)):= λj F y f b=>by
      by_cases e:j=k
      . subst e;rw[l.o]at f;(cases f);omega
      exact t.o j oM y f b
     exact Pv
 have G:Aa (AH xs):=⟨by rw[a.o];omega,by rw[a.o];omega, λi x D b=>by have A:=(iV.1 D).1;rw[a.o]at A⊢;exact t.o i oM x D b⟩;go_wp2;go_ret;exact⟨.ik G.o,rfl⟩
theorem Jp(h:q:=by go_enter Tryz.func113,Tryz.ntmps113;go_wp2;go_ret;exact⟨rfl,(lQ _ _).alloc lR _⟩):q:=h
theorem CL(x:MI)(w:Y):Ae Tryz.prog 113 #[.agg #[iZ x.op,iZ x.a,iZ x.b,iZ x.c]] w λe j=>e=.returned (.bool (AR x))/\Ad w w j:=by
 by_cases h1:x.op=25
 . (have e:AR x=true:=by simp[AR,h1]);rw[e,h1];exact Jp
 by_cases h2:x.op=26
 . (have e:AR x=true:=by simp[AR,h2]);rw[e,h2];exact Jp
 by_cases f:x.op=27
 . (have e:AR x=true:=by simp[AR,f]);rw[e,f];exact Jp
 have e:AR x=false:=by simp[AR,h1,h2,f]
 have g:(x.op==25)=false:=by simpa using h1
 have h:(x.op==26)=false:=by simpa using h2
 have i:(x.op==27)=false:=by simpa using f
 rw[e];generalize x.op=op at h1 h2 f g h i;exact Jp
theorem Lx(h:q:=by go_enter Tryz.func59,Tryz.ntmps59;go_wp2;go_ret;exact⟨rfl,(lQ _ _).alloc lR _⟩):q:=h
theorem KG(x:MI)(w:Y):Ae Tryz.prog 59 #[.agg #[iZ x.op,iZ x.a,iZ x.b,iZ x.c]] w λe h=>e=.returned (.bool (DQ x))/\Ad w w h:=by
 by_cases h1:x.op=25
 . (have e:DQ x=false:=by simp[DQ,h1]);rw[e,h1];exact Lx
 by_cases h2:x.op=29
 . (have e:DQ x=false:=by simp[DQ,h2]);rw[e,h2];exact Lx
 have e:DQ x=true:=by simp[DQ,h1,h2]
 have f:(x.op != 25)=true:=by simpa using h1
 have g:(x.op != 29)=true:=by simpa using h2
 rw[e];generalize x.op=op at h1 h2 f g;exact Lx
theorem Ly(h:q:=by rw[e];go_enter Tryz.func28,Tryz.ntmps28;go_wp2;go_ret;exact⟨rfl,rfl⟩):q:=h
theorem Mr(z:Int)(c:Nat)(w:Y)(b:(c:Int)<=1048576):Ae Tryz.prog 28 #[iZ z,iZ (c:Int)] w λe a=>e=.returned (.bool (decide (0<=z/\z<(c:Int))))/\a=w:=by
 by_cases h1:0<=z
 . by_cases h2:z<(c:Int)
   . have e:decide (0<=z/\z<(c:Int))=true:=by simp[h1,h2]
     exact Ly
   have e:decide (0<=z/\z<(c:Int))=false:=by simp[h1,h2]
   exact Ly
 have e:decide (0<=z/\z<(c:Int))=false:=by simp[h1]
 exact Ly
theorem Mt:Go.Maps.Keyed Tryz.prog 2:=Go.Maps.int_keyed Tryz.underlying2
def Bo(w:Y)(b a:Nat)(D:DataW Unit):Prop:=w.ownsMap Tryz.prog 2 (unitElem (H:=Unit)) b a D
theorem Ec(b a g c:Nat)(D:DataW Unit)(z:Int)(w:Y)(q:CO z)(t:a<=1048576)(s:w.cell? g=K (iZ z))(u:¬g=b)(h:Bo w b a D):
 Ae Tryz.prog 65 #[.map (K b),Z g 1 c] w λe m=>e=.returned (.tuple #[])/\Bo m b (a+1) (D.put (.int Ab z) (.agg []))/\w.grownBy m (K b):=by
 have H:Aa (Bo w b a D):=h;clear h;go_enter Tryz.func65,Tryz.ntmps65;go_wp2;go_loopw [8] (λi wr=>∃k:Nat,k<=1/\i=.int Ab k/\((k=0/\wr=w)\/(k=1/\Aa (Bo wr b (a+1) (D.put (.int Ab z) (.agg []))/\w.grownBy wr (K b))))) (λi _=>1-(intOf i).toNat)
 case atStart=>exact⟨0,oM,rfl,.inl ⟨rfl,rfl⟩⟩
 obtain⟨k,v,rfl,p⟩:=hrel;rcases p with⟨rfl,rfl⟩|⟨rfl,f⟩
 . rw[show((0:Nat):Int)=0 from rfl];go_wp2_with (at_mapUpdate;refine wpList_mapUpdate_own _ rfl _ _ _ 82 rfl 2 173 Mt Tryz.underlying82 (unitElem (H:=Unit)) b a D rfl H.o oX _ _ _ rfl rfl (oQ Tryz.underlying2 q) _ [] unitElem_mk ?_;intro r l j);have n:Aa (Bo r b (a+1) (D.put (.int Ab z) (.agg []))/\_):=⟨l,j⟩
   clear l j;go_wp2;go_roundw;(case rel=>exact⟨1,oM,by go_num,.inr ⟨rfl,n⟩⟩);simp[intOf]
 rw[show((1:Nat):Int)=1 from rfl];go_wp2;go_end0;exact⟨rfl,f.o.1,f.o.2⟩
theorem Pn(g cap:Nat)(zs:List Int)(w:World)(hH:Go.Sort.Holds (Value.int .i64) w g 0 zs.toArray)(hb:g<w.heap.size)(hl:zs.length<4611686018427387904):
 Calls Tryz.prog 103 #[.slice (some ⟨g,0,none⟩) zs.length cap] w λe w'=>e=.returned (.tuple #[])/\∃n os,w'=Go.Sort.grow (Go.Sort.putRow (Value.int .i64) (Go.Sort.ahead w n) g 0 (zs.mergeSort λx y=>decide (x<=y)).toArray) os:=by
 have h:=AnyG.slices_Sort_int Tryz.lSort g 0 cap zs w hH hb hl;exact h
def CR(c:MC):Prop:=DC c.type=true/\(c.type=1->c.word<=1)
def Bg(cs:List MC):Prop:=cs.length<=64/\∀j,j<cs.length->∀c,cs[j]?=K c->CR c
theorem C4{α:Type}{q:α->Prop}{xs:List α}{k:Nat}{x:α}(h1:xs[k]?=K x)(b:q x)(h:∀j,j<k->∀c,xs[j]?=K c->q c):∀j,j<k+1->∀c,xs[j]?=K c->q c:=by
 intro j f c a;by_cases e:j=k
 . subst e;rw[h1]at a;exact(kN a)▸b
 exact h j oM c a
theorem Nw(v:VP)(p:MP)(w:Y)(hs:p.small)(h:Cz w v p):
 Ae Tryz.prog 32 #[.agg #[v.r,v.k,v.f,v.t]] w λe w'=>AC e (Bg p.aC)/\Ad w w w':=by
 have S:Aa (Rd w 2 v.k p.aC (p.aC.flatMap MC.cells)):=h.aC;have hn:=hs.aC;obtain⟨A,vk,z,B⟩:=v;obtain⟨D,c1,F⟩:∃a c,vk=Z a p.aC c:=h.aC.fu;subst F;clear h hs;have g:Aa (Ad w w (w.alloc (.cells #[A,Z D p.aC c1,z,B] 28))/\DU (w.alloc (.cells #[A,Z D p.aC c1,z,B] 28)) w A (Z D p.aC c1) z B):=⟨Ag _ _,DU.new _ _ _ _ _ _⟩
 generalize a8:p.aC=cs at*;clear a8;generalize W:cs.length=n at hn S g;have l:Aa (cs.length=n):=W;clear W;go_enter Tryz.func32,Tryz.ntmps32;go_wp2;go_loopw [3] (λi wr=>∃k:Nat,k<=n/\i=Ac Ab k/\Aa (∀j,j<k->∀c,cs[j]?=K c->CR c)/\Aa (Ad w.heap.size w wr/\DU wr w.heap.size A (Z D n c1) z B)) (λi _=>n-(intOf i).toNat)
 case atStart=>exact⟨0,oM,rfl, λj hj=>oM,g⟩
 clear g;obtain⟨k,hk,rfl,N,g⟩:=hrel;obtain⟨p0,p1,p2,p3⟩:=g.o.2;by_cases Q:k<n
 . obtain⟨x,G⟩:∃x,cs[k]?=K x:=⟨_,an (by rw[l.o];exact Q)⟩;rcases S.o.2 with⟨e0,_⟩|⟨b,o,c,F,O⟩
   . omega
   simp only[jc,lO]at F;obtain⟨rfl,rfl⟩:=F;have y:=Rd.elem MC.gH O k x G 0 _ rfl;have R:=Rd.elem MC.gH O k x G 1 _ rfl;rw[<-g.o.1.cell (jC y),kZ]at y;rw[<-g.o.1.cell (jC R)]at R;have C:Aa (cs[k]?=K x):=G;clear O G;have nb:¬b=wr.heap.size:=mE (jC y);have mb:b<wr.heap.size:=jC y;have s:Aa (Ad w w (wr.alloc (.cells #[Ac Ab x.type,Ac .u32 x.word] 105))/\DU (wr.alloc (.cells #[Ac Ab x.type,Ac .u32 x.word] 105)) w A (Z (K ⟨b,o,M⟩) n c1) z B):=⟨Ai g.o.1 lR (Ag _ _),g.o.2.alloc _⟩
   go_wp2_with fail;refine(D7 x.type _).mono ?_;rintro e u ⟨rfl,rfl⟩;clear y R nb mb p0 p1 p2 p3;cases t1:DC x.type
   . (have L:Aa (¬Bg cs):= λe=>by have:=(e.2 k (by rw[l.o];exact Q) x C.o).1;simp[t1]at this);clear t1;go_wp2;go_ret;exact⟨.no L.o,s.o.1⟩
   have T:Aa (DC x.type=true):=t1;clear t1;by_cases H:x.type=1
   . rw[H]at s;by_cases q2:1<x.word
     . (have L:Aa (¬Bg cs):= λe=>by have:=(e.2 k (by rw[l.o];exact Q) x C.o).2 H;omega);go_wp2;go_ret;exact⟨.no L.o,s.o.1⟩
     have I:Aa (CR x):=⟨T.o, λ_=>oM⟩;go_wp2;go_roundw;(case rel=>exact⟨k+1,oM,by go_num,C4 C.o I.o N.o,s⟩);exact oI
   (have ah:(x.type==1)=false:=by simpa using H);have I:Aa (CR x):=⟨T.o, λe=>absurd e H⟩;go_wp2;go_roundw;(case rel=>exact⟨k+1,oM,by go_num,C4 C.o I.o N.o,s⟩);exact oI
 have ae:n=k:=oM;subst ae;have HY:Aa (decide ((n:Int)<=64)=true↔Bg cs):=by show _↔_;rw[mi];exact⟨λe=>⟨by rw[l.o];omega,by rw[l.o];exact N.o⟩, λe=>by have:=e.1;rw[l.o]at this;omega⟩
 go_wp2;go_ret;exact⟨.of HY.o,g.o.1⟩
theorem DL:(Tryz.prog.info? 4).map (λi=>(i.zero,i.size,i.bytes))=K (K (.bool false),1,1):=kR
theorem BU{w j:Y}{base B:Nat}{e i:Af}{s v:J}{k A n m:Nat}{xs l:List J}(h:w.ownsRow base e k s n xs)(t:w.grownBy j v.ownBlock)(y:w.ownsRow B i A v m l)(u:e≠i):j.ownsRow base e k s n xs:=by
 refine⟨h.1,?_⟩;rcases h.2 with h|⟨g,cap,p,q,r,b,z⟩
 . exact .inl h
 refine .inr ⟨g,cap,p,q,r,?_,z⟩;rw[t.block g (lC.1 b).1 ?_]
 . exact b
 intro f;rcases y.2 with⟨rfl,_⟩|⟨E,C,D,rfl,_,a,_⟩
 . cases f
 simp only[Value.ownBlock,kK]at f;subst f;rw[b]at a;simp only[kK,mh]at a;exact u a.2.1
def Dd(xs:List MI)(k n:Nat):List J:=(List.range (n+1)).map λj=>Value.bool (BO xs k j)
theorem Jf(xs:List MI)(k n:Nat):(Dd xs k n).length=n+1:=by simp[Dd]
theorem Hc(xs:List MI)(k n j:Nat)(a:j<=n):(Dd xs k n)[j]?=K (.bool (BO xs k j)):=by simp[Dd,show j<n+1 from oM]
theorem Qx(xs:List MI)(n:Nat):(List.replicate (n+1) (Value.bool false)).set 0 (.bool true)=Dd xs 0 n:=by
 apply mV;intro j;by_cases b:j<n+1
 . rw[Hc _ _ _ _ oM,J5];by_cases a:j=0
   . subst a;simp
   rw[mC oM];simp[a,b]
 rw[lB oT,lB (by simp[Dd];omega)]
theorem Mu(xs:List MI)(k n c:Nat)(e:c<=n)(P:Nat->Bool)(h:∀j,P j=(BO xs k j||decide (j=c))):(Dd xs k n).set c (.bool true)=(List.range (n+1)).map λj=>Value.bool (P j):=by
 apply mV;intro j;by_cases b:j<n+1
 . by_cases a:j=c
   . subst a;rw[mG (by rw[Jf];omega)];simp[b,h]
   rw[mC oM,Hc _ _ _ _ oM];simp[b,h,a]
 rw[lB (by simp[Dd];omega),lB oT]
theorem Qw(P:Nat->Bool)(n c:Nat)(e:c<=n)(Q:Nat->Bool)(h:∀j,Q j=(P j||decide (j=c))):((List.range (n+1)).map λj=>Value.bool (P j)).set c (.bool true)=(List.range (n+1)).map λj=>Value.bool (Q j):=by
 apply mV;intro j;by_cases b:j<n+1
 . by_cases a:j=c
   . subst a;rw[mG oT];simp[b,h]
   rw[mC oM];simp[b,h,a]
 rw[lB oT,lB oT]
theorem So(xs:List MI)(k n c:Nat)(x:MI)(i:xs[k]?=K x)(f:AR x=true)(a:x.c=(c:Int))(b:c<=n)(g:k+1<=n):((Dd xs k n).set c (.bool true)).set (k+1) (.bool true)=Dd xs (k+1) n:=by
 rw[Mu xs k n c b (λj=>BO xs k j||decide (j=c)) (λj=>rfl)];refine(Qw _ n (k+1) g (λj=>BO xs (k+1) j) (λj=> ?_)).trans rfl;rw[D8 xs k j x i];have e:decide ((c:Int)=(j:Int))=decide (j=c):=by
  by_cases h:j=c
  . simp[h]
  have:¬(c:Int)=(j:Int):=oM;simp[h,this]
 simp[Fq,f,a,e,Bool.or_assoc]
theorem TL(xs:List MI)(k n:Nat)(x:MI)(f:xs[k]?=K x)(a:AR x=false)(e:x.op=29)(b:k+1<=n):(Dd xs k n).set (k+1) (.bool true)=Dd xs (k+1) n:=by
 rw[Mu xs k n (k+1) b (λj=>BO xs (k+1) j) (λj=> ?_)]
 . rfl
 rw[D8 xs k j x f];simp[Fq,a,e]
theorem Sp(xs:List MI)(k n:Nat)(x:MI)(e:xs[k]?=K x)(a:AR x=false)(b:¬x.op=29):Dd xs k n=Dd xs (k+1) n:=by
 unfold Dd;congr 1
 funext j
 rw[D8 xs k j x e];simp[Fq,a,b]
def Hh(xs:List MI)(j:Nat):List J:=Ah (A9 xs j)
theorem DB(xs:List MI)(j:Nat):(Hh xs j).length=1:=rfl
def Ku(m:MB):List J:=[Ac Ab m.gK,Ac Ab m.last,Z M 0 0]
theorem Fh(m:MB):(Ku m).length=3:=rfl
theorem UU(a:List MB)(b:MB)(i:Int):((a++[b]).flatMap Ku).set (a.length*3+1) (Ac Ab i)=(a++[(⟨b.gK,i,b.next⟩:MB)]).flatMap Ku:=by
 have e:(a.flatMap Ku).length= ↑a*3:=Au Ku 3 Fh a
 simp only[lJ,kX,mM,nA];rw[nG _ _ oM,e];simp[Ku]
theorem Je(xs:List MI)(n:Nat)(h:1<=n)(m:MB)(g:m∈Bw xs n):∃e:Nat,m.last=(e:Int)/\e<n:=by
 rw[Cp]at g;unfold build at g;obtain⟨i,b⟩:=lw g;rw[my]at b;cases h1:(Cs xs n)[i]? with
 |none=>rw[h1]at b;simp at b
 | some a =>
   cases h2:((Cs xs n).tail++[n])[i]? with
   |none=>rw[h1,h2]at b;simp at b
   | some q=>
     rw[h1,h2]at b;simp only[kK]at b;subst b;have l:1<=q/\q<=n:=by
      rcases kS.1 (i8 h2)with f|f
      . have j:=CC xs n;have k:=((Cf xs n q).1 (oP f)).1;cases hL:Cs xs n with
        |nil=>rw[hL]at f;cases f
        | cons y r=>rw[hL]at j f;have:=(mH.1 j).1 q f;omega
      simp at f;omega
     exact⟨q-1,oS,oM⟩
structure Km(D:DataW Unit)(left:Lit->Bool)(zs:List Int):Prop where
 nodup:zs.Nodup
 mem:∀z,z∈zs↔CO z/\Go.Maps.has D (.int Ab z)=true/\left (.int Ab z)=false
theorem Km.start(D:DataW Unit):Km D (Go.Maps.has D) []:=⟨List.nodup_nil, λz=>⟨λh=>(by cases h), λh=>by rw[h.2.1]at h;exact absurd h.2.2 sP⟩⟩
theorem Pl(z x:Int):(Lit.int Ab z).sameKey (.int Ab x)=decide (z=x):=by
 by_cases h:z=x
 . subst h;simp[Lit.sameKey]
 rw[Go.Maps.sameKey_ne (λe=>h (by cases e;rfl))];simp[h]
theorem Km.step{D:DataW Unit}{left:Lit->Bool}{zs:List Int}{x:Int}{y:DataW Unit}(h:Km D left zs)(l:CO x)(k:left (.int Ab x)=true)(j:∀n,D.atKey (.int Ab x) n=y):Km D (λz=>left z&& !z.sameKey (.int Ab x)) (zs++[x]):=by
 have m:x∉zs:= λe=>by have:=((h.mem x).1 e).2.2;rw[k]at this;cases this
 refine⟨?_, λz=> ?_⟩
 . rw[nQ];refine⟨h.nodup,sP,?_⟩;intro a i b g;simp only[lA,lW,mZ]at g;subst g;exact λe=>m (e▸i)
 rw[kS,h.mem];simp only[lA,lW,mZ,Pl];constructor
 . rintro(⟨h1,h2,f⟩|rfl)
   . exact⟨h1,h2,by simp[f]⟩
   exact⟨l,Go.Maps.has_true_of_atKey j,sP⟩
 rintro⟨h1,h2,f⟩;by_cases e:z=x
 . exact .inr e
 refine .inl ⟨h1,h2,?_⟩;simpa[e]using f
theorem Dy(zs:List Int):zs.flatMap Ah=zs.map (Value.int Ab):=by
 induction zs with
 |nil=>rfl
 |cons z r a=>simp[Ah,a]
theorem MQ(zs:List Int)(h:zs.Nodup):(zs.mergeSort λx y=>decide (x<=y)).Pairwise (· < ·):=by have h1:(zs.mergeSort λx y=>decide (x<=y)).Pairwise (λa b=>decide (a<=b)=true):=List.pairwise_mergeSort (λa b c h1 h2=>by simp at*;omega) (λa b=>oT) zs;have h2:(zs.mergeSort λx y=>decide (x<=y)).Nodup:=(nm zs _).nodup_iff.2 h;refine(h1.and h2).imp ?_;rintro a b ⟨e,f⟩;simp at e;omega
theorem Lc(b f:Nat)(D:DataW Unit)(w:Y)(aP:f<=1048576)(h:Bo w b f D):
 Ae Tryz.prog 99 #[.map (K b)] w λe C=>∃(g cap:Nat) (zs:List Int),e=.returned (Z g zs cap)/\C.ownsRow w 2 1 (Z g zs cap) zs (zs.flatMap Ah)/\zs.Pairwise (· < ·)/\(∀z,z∈zs↔CO z/\Go.Maps.has D (.int Ab z)=true)/\Ad w w C:=by
 obtain⟨U,L,R,S,T⟩:=lU Bt;have n:w.ownsMap Tryz.prog 2 (unitElem (H:=Unit)) b f D:=h;have ae:=n.lt;have aT:=n.size_le;clear h;go_enter Tryz.func99,Tryz.ntmps99;go_wp2_with (first
  |(at_len;refine wpList_len_own _ rfl _ 82 rfl 2 173 Tryz.underlying82 _ b f _ rfl n ?_)
  |(at_make;refine wpList_make_own _ rfl _ _ 36 rfl w 2 U (iZ 0) 1 Tryz.underlying36 L R S _ _ _ (Go.Maps.size D) rfl rfl rfl (by rw[T];omega) oX lR ?_;intro E aF m)
  |(at_range;refine wpList_range_own _ rfl _ 82 rfl 2 173 Mt Tryz.underlying82 _ b f _ rfl (n.kept m sP) ?_;intro w0 aE G aS)
  |go_in)
 go_frame;go_loopw [3] (λv wr=>∃(left:Lit->Bool) (r:Nat) (zs:List Int),wr.ranges Tryz.prog 2 (unitElem (H:=Unit)) b E f D left r/\ ↑zs+r<=Go.Maps.size D/\wr.ownsRow w 2 1 v zs (zs.map (Value.int Ab))/\v≠sN/\Km D left zs/\Ad w w wr) (λ_ wr=>wr.rangeLeft b E)
 case atStart=>exact⟨_,_,[],aE,sP,aF.kept G (Or.inr (by simp[Value.ownBlock])),sP,Km.start D,((lQ _ _).grown m lR (λj a=>by cases a)).grown G m.size (λj a=>by cases a)⟩
 case round=>
  obtain⟨left,r,zs,A,aQ,B,aA,s,i⟩:=hrel;go_wp2_with (first
   |(at_next;refine wpList_next_ranges _ rfl _ rfl 2 Mt (unitElem (H:=Unit)) (Value.int Ab) (λ(_:Unit)=>Value.agg #[]) (λaU kl hk=>by obtain⟨x,hx,_⟩:=Go.Maps.keyOf_int_inv Tryz.underlying2 hk;exact⟨x,hx⟩) (λv y Q=>by obtain⟨rfl,_⟩:=unitElem_inv Q;exact⟨(),rfl⟩) b E f _ _ _ rfl A ?_ ?_)
   |go_in)
  . intro aM am;rcases B.2 with⟨au,_⟩|⟨g,cap,aJ,rfl,F,t,h1,h2,X,h4⟩
    . exact absurd au aA
    have hH:Go.Sort.Holds (Value.int Ab) wr g 0 zs.toArray:=holds_of_blockI t (by simpa using h4);have ah:g<wr.heap.size:=(lC.1 t).1;have hc:=Pn g cap zs wr hH ah oM;have k:Aa ((zs.mergeSort λx y=>decide (x<=y)).Pairwise (· < ·)/\(∀z,z∈(zs.mergeSort λx y=>decide (x<=y))↔CO z/\Go.Maps.has D (.int Ab z)=true)/\(zs.mergeSort λx y=>decide (x<=y)).length= ↑zs):=by refine⟨MQ zs s.nodup, λz=> ?_,(nm zs _).length_eq⟩;rw[(nm zs _).mem_iff,s.mem];exact⟨λq=>⟨q.1,q.2.1⟩, λq=>⟨q.1,q.2,am _⟩⟩
    go_wp2_with (go_at_call 103;refine hc.mono ?_;rintro e C ⟨rfl,nn,os,rfl⟩);go_ret;refine⟨g,cap,zs.mergeSort λx y=>decide (x<=y),?_,?_,k.o.1,k.o.2.1,i.grown (grownBy_sortedI _) i.size (λj a=>by cases a;exact F)⟩
    . rw[k.o.2.2];rfl
    rw[k.o.2.2,Dy];exact ownsRow_sortedI k.o.2.2 F t h1 h2 X
  intro x c kl y w2 V aj ao Q a8 N aq l aG aR;obtain⟨x',W,rfl,aI⟩:=Go.Maps.keyOf_int_inv Tryz.underlying2 aj;obtain rfl:x=x':=by cases W;rfl
  have p:=B.kept l (Or.inr (Go.row_ne_iter B A).symm);clear aG;go_wp2_with (first
   |(at_builtin;refine wpList_append_own _ rfl _ _ 36 rfl w 2 U (iZ 0) 1 8 Tryz.underlying36 L R S T rfl dC _ _ _ rfl (p.alloc _) w2 1 1 [iZ x] rfl rfl (Go.cell_one_new _ _ _) (λu P=>by simp at P;subst P;rfl) oX oM (by have:=i.size;have:=l.size;simp;omega) ?_;intro v' w3 aD I aw;go_frame)
   |go_in)
  have O:=(N.alloc (.cells #[iZ x] 2)).kept I (Go.row_ne_low p ae) (Go.row_ne_iter p N);go_roundw;case rel=>refine⟨_,V,zs++[x],O,oT,by simpa using aD, λaH=>by have:=(aw.1 aH).2;omega,s.step aI ao a8,?_⟩;exact((i.grown l i.size (λj a=>by cases a;exact m.size)).alloc (by have:=i.size;have:=l.size;omega) _).grown I (by have:=i.size;have:=l.size;simp;omega) (λj a=>(p.lt j a).1)
  case measure=>rw[O.left_eq,A.left_eq];exact aq
structure Et(p:MP)(a b c:Int):Prop where
 low:0<=c
 j4:c<256
 jy:bits .and Ab c (c+1)=0
 there:¬BR p a b=0
 one:∀j:Nat,(j:Int)<=c->BR p a (b+j)=BR p a b
theorem RZ{p:MP}{r c:Int}(b:∀l∈p.a7,l.length<=1048576)(h:¬BR p r c=0):0<=c/\c<1048576:=by
 unfold BR at h;split at h
 . exact absurd rfl h
 rename_i i;refine⟨oM,?_⟩;by_cases a:r.toNat< ↑p.a7
 . have g:=b _ (mW a);(have e:p.a7.getD r.toNat []=p.a7[r.toNat]:=by rw[lD,an a];rfl);rw[e]at h;by_cases f:c.toNat<p.a7[r.toNat].length
   . omega
   exact absurd (by rw[lD,lB oM];rfl) h
 have e:p.a7.getD r.toNat []=[]:=by rw[lD,lB oM];rfl
 rw[e]at h;exact absurd rfl h
theorem Bm(a:-9223372036854775808<=z:=by omega)(h1:z<=9223372036854775807:=by omega):CO z:=by simp[CO,Lit.wf,IntKind.min,IntKind.max,IntKind.signed,IntKind.bits];omega
theorem Gs(h:CO z):-9223372036854775808<=z/\z<=9223372036854775807:=by simpa[CO,Lit.wf,IntKind.min,IntKind.max,IntKind.signed,IntKind.bits]using h
theorem Qo(v:VP)(p:MP)(op a b c:Int)(w:Y)(hs:p.small)(Q:p.a7.length=3)(S:CO a)(U:CO b)(W:CO c)(h:Cz w v p):
 Ae Tryz.prog 73 #[.agg #[v.r,v.k,v.f,v.t],.agg #[iZ op,iZ a,iZ b,iZ c]] w λe w'=>AC e (Et p a b c)/\Ad w w w':=by
 have m:Aa (Ad w w ((w.alloc (.cells #[v.r,v.k,v.f,v.t] 28)).alloc (.cells #[iZ op,iZ a,iZ b,iZ c] 60))):=Ai (Ag _ _) lR (Ag _ _);have L:Aa (DU ((w.alloc (.cells #[v.r,v.k,v.f,v.t] 28)).alloc (.cells #[iZ op,iZ a,iZ b,iZ c] 60)) w v.r v.k v.f v.t):=(DU.new w _ _ _ _ _).alloc _;have O:Aa (DU ((w.alloc (.cells #[v.r,v.k,v.f,v.t] 28)).alloc (.cells #[iZ op,iZ a,iZ b,iZ c] 60)) ((w:Nat)+1) (iZ op) (iZ a) (iZ b) (iZ c)):=by have:=DU.new (w.alloc (.cells #[v.r,v.k,v.f,v.t] 28)) (iZ op) (iZ a) (iZ b) (iZ c) 60;simpa[Aa]using this
 have H:Aa (p.small/\p.a7.length=3/\CO a/\CO b/\Cz w v p):=⟨hs,Q,S,U,h⟩
 obtain⟨c0,c1⟩:=Gs W;by_cases q0:c<0
 . (have g:Aa (¬Et p a b c):= λe=>absurd e.low oM);go_enter Tryz.func73,Tryz.ntmps73;go_wp2;go_ret;exact⟨.no g.o,m.o⟩
 by_cases q1:256<=c
 . (have g:Aa (¬Et p a b c):= λe=>absurd e.j4 oM);go_enter Tryz.func73,Tryz.ntmps73;go_wp2;go_ret;exact⟨.no g.o,m.o⟩
 obtain⟨c,rfl⟩:=kU (show 0<=c from oM);have ah:c<256:=oM;have q0:¬(c:Int)<0:=oM;have q1:¬(256:Int)<=(c:Int):=oM;by_cases A:bits .and Ab (c:Int) ((c:Int)+1)=0
 . have I:Aa (bits .and Ab (c:Int) ((c:Int)+1)=0):=A;go_enter Tryz.func73,Tryz.ntmps73;go_wp2_with fail;refine(Iz v p a b _ H.o.1 H.o.2.1 H.o.2.2.1 H.o.2.2.2.1 (H.o.2.2.2.2.bM m.o lR)).mono ?_;rintro e B ⟨rfl,y⟩;have F:Aa (Ad w w B/\DU B w v.r v.k v.f v.t/\DU B ((w:Nat)+1) (iZ op) (iZ a) (iZ b) (iZ (c:Int))):=⟨Ai m.o lR y,L.o.bM y,O.o.bM y⟩
   generalize R:BR p a b=T;have n:=Ap R;go_wp2;go_loopw [6] (λi wr=>∃k:Nat,k<=c+1/\i=iZ k/\Aa ((0<k->¬T=0)/\∀j:Nat,j<k->BR p a (b+j)=T)/\Aa (Ad w w wr/\DU wr w v.r v.k v.f v.t/\DU wr ((w:Nat)+1) (iZ op) (iZ a) (iZ b) (iZ (c:Int)))) (λi _=>c+1-(intOf i).toNat)
   (case atStart=>exact⟨0,oM,rfl,⟨λh=>oM, λj E=>oM⟩,F⟩);obtain⟨k,hk,rfl,u,l⟩:=hrel;obtain⟨p0,p1,p2,p3⟩:=l.o.2.1;obtain⟨i0,i1,i2,i3⟩:=l.o.2.2;by_cases am:k<c+1
   . have a8:(k:Int)<=(c:Int):=oM;by_cases q:T=0
     . (have ae:(T==0)=true:=by simpa using q);(have g:Aa (¬Et p a b c):= λe=>e.there (n.o.trans q));go_wp2;go_ret;exact⟨.no g.o,l.o.1⟩
     (have ae:(T==0)=false:=by simpa using q);have V:=RZ H.o.1.region (by rw[n.o];exact q);obtain⟨b0,b1⟩:=V;have N:=Ap q;go_wp2_with fail;refine(Iz v p a (b+k) _ H.o.1 H.o.2.1 H.o.2.2.1 Bm (H.o.2.2.2.2.bM l.o.1 lR)).mono ?_;rintro e C ⟨rfl,z⟩;have D:Aa (Ad w w C/\DU C w v.r v.k v.f v.t/\DU C ((w:Nat)+1) (iZ op) (iZ a) (iZ b) (iZ (c:Int))):=⟨Ai l.o.1 lR z,l.o.2.1.bM z,l.o.2.2.bM z⟩
     by_cases s:BR p a (b+k)=T
     . rw[s];have G:Aa ((0<k+1->¬T=0)/\∀j:Nat,j<k+1->BR p a (b+j)=T):=⟨λ_=>N.o, λj E=>by
        by_cases e:j=k
        . rw[e];exact s
        exact u.o.2 j oM⟩
       go_wp2;go_roundw;(case rel=>exact⟨k+1,oM,by go_num,G,D⟩);exact oI
     (have g:Aa (¬Et p a b c):= λe=>s ((e.one k a8).trans n.o));(have aq:(BR p a (b+k)==T)=false:=by simpa using s);(have au:(BR p a (b+k) != T)=true:=by simpa using s);go_wp2;go_ret;exact⟨.no g.o,D.o.1⟩
   have X:k=c+1:=oM;subst X;have P:Aa (Et p a b c):=⟨oM,oM,I.o,by rw[n.o];exact u.o.1 oM, λj E=>by rw[n.o];exact u.o.2 j oM⟩;have aj:¬((c:Int)+1)<=(c:Int):=oM;go_wp2;go_ret;exact⟨.ik P.o,l.o.1⟩
 have g:Aa (¬Et p a b c):= λe=>A e.jy
 have ao:(bits .and Ab (c:Int) ((c:Int)+1)==0)=false:=by simpa using A
 go_enter Tryz.func73,Tryz.ntmps73;go_wp2;go_ret;exact⟨.no g.o,m.o⟩
theorem Ex(s:J)(a:List Int)(w:Y)(F:a.length<=1048576)(h:Rd w 1 s a (a.flatMap Ah)):
 Ae Tryz.prog 77 #[s] w λe H=>e=.returned (.bool (a.all DC))/\H=w:=by
 have f:=Ap h;obtain⟨I,c1,rfl⟩:=h.fu;generalize A:a.length=n at F f;have j:=Ap A;generalize b:a.all DC=R;have HR:=Ap b;go_enter Tryz.func77,Tryz.ntmps77;go_wp2;go_loopw [7] (λi wr=>∃k:Nat,k<=n/\i=iZ k/\Aa ((a.take k).all DC=true)/\wr=w) (λi _=>n-(intOf i).toNat)
 case atStart=>exact⟨0,oM,rfl,by simp[Aa],rfl⟩
 obtain⟨k,L,rfl,l,rfl⟩:=hrel;by_cases D:k<n
 . obtain⟨x,y⟩:∃x,a[k]?=K x:=⟨_,an (by rw[j.o];exact D)⟩;rcases f.o.2 with⟨e0,_⟩|⟨g,o,c,t,B⟩
   . omega
   simp only[jc,lO]at t;obtain⟨rfl,rfl⟩:=t;have G:=Rd.elem Ao B k x y 0 _ rfl;rw[lr,kZ]at G;have p:=Ap y;go_wp2_with fail;refine(D6 x wr).mono ?_;rintro e u ⟨rfl,rfl⟩;cases hq:DC x with
   | false=>(have b:R=false:=by rw[<-HR.o];exact Q9 _ _ _ (i8 p.o) hq);subst b;go_wp2;go_ret;exact⟨rfl,rfl⟩
   | true=>(have z:Aa ((a.take (k+1)).all DC=true):=by show _=_;rw[N1 _ _ _ _ p.o l.o];exact hq);go_wp2;go_roundw;(case rel=>exact⟨k+1,oM,by go_num,z,by trivial⟩);exact oI
 have C:k=n:=oM;subst C;have b:R=true:=by rw[<-HR.o,<-l.o,<-j.o,List.take_length]
 subst b;go_wp2;go_ret;exact⟨rfl,rfl⟩
def GZ(r:List Int):Prop:=r.length<=256/\r.all DC=true
def AP(rs:List (List Int)):Prop:=rs.length=3/\∀j,j<rs.length->∀r,rs[j]?=K r->GZ r
theorem Kf(s:J)(a:List (List Int))(w:Y)(N:a.length<=1048576)(T:∀f∈a,f.length<=1048576)(h:NM w s a):
 Ae Tryz.prog 53 #[s] w λe w'=>AC e (AP a)/\w'=w:=by
 obtain⟨xs,F,D,R⟩:=h;have W:xs.length=a.length:=by rw[<-F];simp
 have l:=Ap (ji D (ji F (ji R (ji T W))));obtain⟨a1,c1,rfl⟩:=D.fu;generalize O:a.length=n at N l;have t:=Ap O;by_cases H:n=3
 . subst H;go_enter Tryz.func53,Tryz.ntmps53;go_wp2;go_loopw [10] (λi wr=>∃k:Nat,k<=3/\i=iZ k/\Aa (∀j,j<k->∀r,a[j]?=K r->GZ r)/\wr=w) (λi _=>3-(intOf i).toNat)
   (case atStart=>exact⟨0,oM,rfl, λj hj=>oM,rfl⟩);obtain⟨k,hk,rfl,C,rfl⟩:=hrel;by_cases A:k<3
   . obtain⟨⟨f,v⟩,B⟩:∃x,xs[k]?=K x:=⟨_,an (by rw[l.o.2.2.2.2];exact A)⟩;have y:=CT l.o.2.1 B;have z:=l.o.2.2.1 _ (i8 B);have p:=Ap (ji z (ji (l.o.2.2.2.1 _ (i8 y)) y));rcases l.o.1.2 with⟨e0,_⟩|⟨b,o,c,y,Q⟩
     . omega
     simp only[jc,lO]at y;obtain⟨rfl,rfl⟩:=y;have G:=Rd.elem AY Q k _ B 0 _ rfl;rw[lr,kZ]at G;simp only[]at G z;obtain⟨av,cv,L⟩:=z.fu;subst L;have hz:=p.o.2.1;by_cases q1:256<f.length
     . (have g:Aa (¬AP a):= λe=>absurd (e.2 k (by rw[t.o];exact A) f p.o.2.2).1 oM);generalize f.length=m at*;go_wp2;go_ret;exact⟨.no g.o,rfl⟩
     go_wp2_with fail;refine(Ex _ f _ p.o.2.1 p.o.1).mono ?_;rintro e u ⟨rfl,rfl⟩;cases t1:f.all DC
     . (have g:Aa (¬AP a):= λe=>by have:=(e.2 k (by rw[t.o];exact A) f p.o.2.2).2;simp[t1]at this);go_wp2;go_ret;exact⟨.no g.o,rfl⟩
     have g:Aa (GZ f):=⟨oM,t1⟩;go_wp2;go_roundw;(case rel=>exact⟨k+1,oM,by go_num,C4 p.o.2.2 g.o C.o,by trivial⟩);exact oI
   have S:k=3:=oM;subst S;have I:Aa (AP a):=⟨t.o,by rw[t.o];exact C.o⟩;go_wp2;go_ret;exact⟨.ik I.o,rfl⟩
 have g:Aa (¬AP a):= λe=>H (by rw[<-t.o];exact e.1)
 have hi:¬(n:Int)=3:=oM;go_enter Tryz.func53,Tryz.ntmps53;go_wp2;go_ret;exact⟨.no g.o,rfl⟩
end Go.Proofs.YtjnglocdoljgkaaGreat
