import Derived.Test.YthjbicggfnnonaaGreatDoorCw1
import Derived.Deep.RegionHeld
import Derived.StillTail
namespace Go.Proofs.YthjbicggfnnonaaGreatDoor
open Go.ChangeShapes Go.WideShapes Go.ChangeAt Go.RowKit
set_option linter.unusedVariables false
set_option maxHeartbeats 2000000
set_option maxRecDepth 100000
variable {q:Prop}{b a w c:World}{s x y:Value}{i g B m id:Nat}{d:Array Bool}{t:TypeId}{f:MF}{P:Program}{Q:Exit->Act->World->Prop}{α β:Type}{rs:List Nat}{p:MP}{R:Nat->Prop}{ad:Addr}
def Au(e:Ending)(q:Prop):Prop:=∃b,e=.returned (.bool b)/\(b=true↔q)
theorem Au.hQ(h:q):Au (.returned (.bool true)) q:=⟨_,rfl,by simp[h]⟩
theorem Au.no(h:¬q):Au (.returned (.bool false)) q:=⟨_,rfl,by simp[h]⟩
theorem Au.of{b:Bool}(h:b=true↔q):Au (.returned (.bool b)) q:=⟨_,rfl,h⟩
theorem Au.iff{e:Ending}{a:Prop}(h:Au e q)(d:q↔a):Au e a:=by obtain⟨b,rfl,c⟩:=h;exact⟨b,rfl,c.trans d⟩
theorem B9{base:Nat}{e:TypeId}{k n:Nat}{xs:List Value}(h:w.ownsRow base e k s n xs):(s=.slice none 0 0/\n=0)\/∃g c,s=.slice (some ⟨g,0,none⟩) n c:=by
 rcases h.2 with h|⟨g,cap,a,rfl,b,_⟩
 . exact .inl h
 exact .inr ⟨g,cap,rfl⟩
theorem Bo{base:Nat}{e:TypeId}{k n:Nat}{xs:List Value}(h:w.ownsRow base e k s n xs):∃a c,s=.slice a n c:=by rcases B9 h with⟨rfl,rfl⟩|⟨g,c,rfl⟩<;>exact⟨_,_,rfl⟩
def Gd(x y:Value):Prop:=x=y\/∃k a b,x=.int k a/\y=.int k b
theorem Gd.refl(x:Value):Gd x x:=.inl rfl
theorem Gd.trans{z:Value}(h:Gd x y)(c:Gd y z):Gd x z:=by
 rcases h with rfl|⟨k,a,b,rfl,rfl⟩
 . exact c
 rcases c with rfl|⟨f,a',d,e,rfl⟩
 . exact .inr ⟨k,a,b,rfl,rfl⟩
 cases e
 exact .inr ⟨k,a,d,rfl,rfl⟩
theorem Gd.int{k:IntKind}{a:Int}(h:Gd (.int k a) y):∃b,y=.int k b:=by
 rcases h with rfl|⟨d,a',c,e,rfl⟩
 . exact⟨_,rfl⟩
 cases e
 exact⟨_,rfl⟩
theorem Gd.slice{a:Option Addr}{n c:Nat}(h:Gd (.slice a n c) y):y=.slice a n c:=by
 rcases h with rfl|⟨d,a',b,e,rfl⟩
 . rfl
 cases e
def Gs(xs a:Array Value):Prop:=xs.size=a.size/\∀(i:Nat) x y,xs[i]?=some x->a[i]?=some y->Gd x y
theorem Gs.refl(xs:Array Value):Gs xs xs:=⟨rfl,fun i x y h1 h2=>by rw[h1]at h2;exact .inl (kH h2)⟩
theorem Gs.at{xs a:Array Value}(h:Gs xs a)(c:xs[i]?=some x):∃y,a[i]?=some y/\Gd x y:=by
 have b:i<a.size:=by rw[<-h.1];exact(kN.1 c).1
 exact⟨_,mc b,h.2 i x _ c (mc b)⟩
theorem Gs.trans{xs b c:Array Value}(h:Gs xs b)(a:Gs b c):Gs xs c:=by refine⟨h.1.trans a.1,fun i x z e g=> ?_⟩;obtain⟨y,f,d⟩:=h.at e;exact d.trans (a.2 i y z f g)
structure Fu(w w':World):Prop where
 size:w.heap.size<=w'.heap.size
 block:∀(k:Nat) (cur:Array Value) (t:TypeId),w.heap[k]?=some (Obj.cells cur t (0,0))->∃cur',w'.heap[k]?=some (Obj.cells cur' t (0,0))/\Gs cur cur'
theorem Fu.refl(w:World):Fu w w:=⟨Nat.le_refl _,fun k a t h=>⟨a,h,.refl _⟩⟩
theorem Fu.trans{w u v:World}(h:Fu w u)(a:Fu u v):Fu w v:=by refine⟨jX h.size a.size,fun k d t e=> ?_⟩;obtain⟨c1,h1,b⟩:=h.block k d t e;obtain⟨c2,h2,c⟩:=a.block k c1 t h1;exact⟨c2,h2,b.trans c⟩
theorem Fu.gz(h:Below w.heap.size w b):Fu w b:=⟨h.size,fun k c t a=>⟨c,by rw[h.block k (kN.1 a).1];exact a,.refl _⟩⟩
structure FI(lo hi:Nat)(w w':World):Prop where
 os:w'.os=w.os
 tape:w'.tape=w.tape
 output:w'.output=w.output
 size:w'.heap.size=w.heap.size
 o:∀(k:Nat),k<lo\/hi<=k->w'.heap[k]?=w.heap[k]?
 shaped:Fu w w'
theorem FI.refl(b a:Nat)(w:World):FI b a w w:=⟨rfl,rfl,rfl,rfl,fun _ _=>rfl,.refl _⟩
theorem FI.trans{c b:Nat}{w u v:World}(h:FI c b w u)(a:FI c b u v):FI c b w v:=⟨a.os.trans h.os,a.tape.trans h.tape,a.output.trans h.output,a.size.trans h.size,fun k d=>(a.o k d).trans (h.o k d),h.shaped.trans a.shaped⟩
theorem FI.below{a c:Nat}(h:FI a c w b):Below a w b:=⟨h.os,h.tape,h.output,Nat.le_of_eq h.size.symm,fun k d=>h.o k (.inl d)⟩
theorem FI.drew{b a:Nat}(h:FI b a w c)(n:Nat):FI b a w (c.drewN n):=⟨h.os,h.tape,h.output,h.size,h.o,⟨h.shaped.size,h.shaped.block⟩⟩
theorem FI.set{n l:Nat}{d:Array Value}{v x:Value}(h:w.heap[g]?=some (Obj.cells d t (0,0)))(m:d[i]?=some x)(p:Gd x v)(r:n<=g)(s:g<l):FI n l w (w.setCell ⟨g,i,none⟩ v):=by
 refine⟨rfl,rfl,rfl,sP,fun k c=>km w _ k v oS,sP,fun k c' u c=> ?_⟩;by_cases e:k=g
 . subst e;rw[h]at c;simp only[i4,lZ,lp]at c;obtain⟨rfl,rfl⟩:=c;refine⟨_,heap_setCell_same w k i d t v h,sP,fun j a b h1 h2=> ?_⟩;by_cases f:j=i
   . subst f;rw[m]at h1;obtain rfl:=kH h1;have q:=(kN.1 m).1;rw[Array.getElem?_setIfInBounds_self_of_lt q]at h2;obtain rfl:=kH h2;exact p
   rw[Array.getElem?_setIfInBounds_ne (Ne.symm f),h1]at h2;exact .inl (kH h2)
 exact⟨c',by rw[km w _ k v e];exact c,.refl _⟩
structure G7(lo hi:Nat)(w w':World):Prop where
 os:w'.os=w.os
 tape:w'.tape=w.tape
 output:w'.output=w.output
 size:w.heap.size<=w'.heap.size
 o:∀(k:Nat),k<w.heap.size->k<lo\/hi<=k->w'.heap[k]?=w.heap[k]?
 shaped:Fu w w'
theorem G7.of{d c:Nat}{w u e:World}(a:Below B w u)(b:w.heap.size<=B)(h:FI d c u e):G7 d c w e:=⟨h.os.trans a.os,h.tape.trans a.tape,h.output.trans a.output,by rw[h.size];exact a.size,fun k g f=>(h.o k f).trans (a.block k (lA g b)),(Fu.gz (a.mono b)).trans h.shaped⟩
theorem G7.below{a d:Nat}(h:G7 a d w c)(e:a<=w.heap.size):Below a w c:=⟨h.os,h.tape,h.output,h.size,fun k b=>h.o k (lA b e) (.inl b)⟩
theorem G7.cell{d b:Nat}{w e:World}(h:G7 d b w e){a:Addr}(c:w.cell? a=some x)(f:a.block<d\/b<=a.block):e.cell? a=some x:=by have:=h.o a.block (d5 c) f;unfold World.cell? at*;rw[this];exact c
theorem G7.own{q c:Nat}{f:World}(h:G7 q c w f){e:TypeId}{k n:Nat}{xs:List Value}(d:w.ownsRow B e k s n xs)(m:c<=B):f.ownsRow B e k s n xs:=by
 refine⟨d.1,?_⟩;rcases d.2 with l|⟨g,cap,i,j,a,b,p⟩
 . exact .inl l
 refine .inr ⟨g,cap,i,j,a,?_,p⟩;rw[h.o g (kN.1 b).1 (.inr (jX m a))];exact b
theorem Ao{c:Code}{a:Act}{U:World}(R:World->Prop)(h:R U)(k:∀u,R u->Code.wp P c Q a u):Code.wp P c Q a U:=k U h
abbrev FT(α:Type):=Nat->Option (α×Nat)
def Cz(a:List Int)(n:Nat):FT Int:=fun k=>if k+n<=a.length then some (wrap64 (BW a k n),k+n)else none
def CD{α β:Type}(r:FT α)(f:α->FT β):FT β:=fun k=>match r k with|none=>none|some (x,k1)=>f x k1
def Fc{α:Type}(x:α):FT α:=fun k=>some (x,k)
def A9{α:Type}(r:FT α):Nat->FT (List α)
 |0=>Fc []
 |c+1=>CD (A9 r c) fun xs=>CD r fun x=>Fc (xs++[x])
theorem Cp{r:FT α}{f:α->FT β}{k a:Nat}{x:α}(h:r k=some (x,a)):CD r f k=f x a:=by unfold CD;rw[h]
theorem AB{r:FT α}{f:α->FT β}{k:Nat}(h:r k=none):CD r f k=none:=by unfold CD;rw[h]
def Eg{α:Type}(a:List Int)(n:Nat)(r:FT α):FT (List α):=CD (Cz a n) fun c=>A9 r c.toNat
def B4(a:List Int)(n:Nat):FT (List Int):=Eg a n (Cz a 1)
def D6(a:List Int):FT MC:=CD (Cz a 1) fun t=>CD (Cz a 4) fun x=>Fc ⟨t,x⟩
def FY(d:List Int):FT MI:=CD (Cz d 1) fun o=>CD (Cz d 1) fun a=>CD (Cz d 2) fun b=>CD (Cz d 4) fun c=>Fc ⟨o,a,b,c⟩
def Fb(a:List Int):FT MF:=CD (B4 a 1) fun c=>CD (Cz a 1) fun r=>CD (B4 a 1) fun b=>CD (Eg a 2 (FY a)) fun code=>Fc ⟨c,r,b,code⟩
def Iv(a:List Int):FT MT:=CD (Cz a 2) fun f=>CD (Cz a 2) fun h=>CD (Cz a 1) fun c=>CD (Cz a 4) fun i=>Fc ⟨f,h,c,i⟩
def FR(a:List Int):FT MP:=CD (A9 (B4 a 2) 3) fun rs=>CD (Eg a 2 (D6 a)) fun b=>CD (Eg a 2 (Fb a)) fun c=>CD (Eg a 2 (Iv a)) fun ts=>Fc ⟨rs,b,c,ts⟩
theorem Jk{b:List Int}{n k a:Nat}{x:Int}(h:Cz b n k=some (x,a)):a=k+n/\a<=b.length/\x=wrap64 (BW b k n):=by
 unfold Cz at h;split at h
 . simp only[i4,Prod.mk.injEq]at h;exact⟨h.2.symm,oM,h.1.symm⟩
 cases h
theorem Dp {r:FT α}{c d k:Nat}(h:A9 r c k=none)(b:c<=d):A9 r d k=none:=by
 induction d with
 | zero => obtain rfl:c=0:=oM
           exact h
 | succ d a=>
   by_cases e:c=d+1
   . rw[<-e];exact h
   exact AB (a oM)
theorem Ez{r:FT α}{c k a b:Nat}{xs:List α}{x:α}(h:A9 r c k=some (xs,a))(d:r a=some (x,b)):A9 r (c+1) k=some (xs++[x],b):=by show CD (A9 r c) _ k=_;rw[Cp h,Cp d];rfl
theorem EE{r:FT α}{c k a:Nat}{xs:List α}(h:A9 r c k=some (xs,a))(b:r a=none):A9 r (c+1) k=none:=by show CD (A9 r c) _ k=_;rw[Cp h,AB b]
theorem On{r:FT α}{c k a:Nat}{xs:List α}(h:A9 r c k=some (xs,a)):xs.length=c:=by
 induction c generalizing xs a with
 |zero=>simp only[A9,Fc,i4,Prod.mk.injEq]at h;rw[<-h.1];rfl
 | succ c b=>
   simp only[A9]at h;cases e:A9 r c k with
   |none=>rw[AB e]at h;cases h
   | some y=>
     obtain⟨g,d⟩:=y;rw[Cp e]at h;cases e2:r d with
     |none=>rw[AB e2]at h;cases h
     | some z=>obtain⟨z,f⟩:=z;rw[Cp e2]at h;simp only[Fc,i4,Prod.mk.injEq]at h;rw[<-h.1,f6,b e];rfl
def AZ{α:Type}(r:FT α)(k:Nat)(bad:Bool)(x:α)(b:Nat)(a:Bool):Prop:=(bad=false/\a=false/\r k=some (x,b))\/(a=true/\(bad=true\/r k=none))
theorem TT{xs a:List α}{k:Nat}{x y:α}(h1:xs[k]?=some x)(h2:a[k]?=some y)(h:¬x=y):¬xs=a:=by rintro rfl;rw[h1]at h2;exact h (kH h2)
theorem Rb{xs a:List α}{k:Nat}{x:α}(h1:xs[k]?=some x)(h2:a[k]?=some x)(h:∀j,j<k->xs[j]?=a[j]?):∀j,j<k+1->xs[j]?=a[j]?:=by
 intro j b;by_cases e:j=k
 . subst e;rw[h1,h2]
 exact h j oM
theorem Tc{xs a:List α}{n:Nat}(h1:xs.length=n)(h2:a.length=n)(h:∀j,j<n->xs[j]?=a[j]?):xs=a:=by
 apply la;intro j;by_cases b:j<n
 . exact h j b
 rw[kK oM,kK oM]
theorem GI(s v:Value)(xs a:List Int)(w:World)(K:xs.length<=1048576)(L:a.length<=1048576)(h:Rd w 1 s xs.length (xs.flatMap Ad))(q:Rd w 1 v a.length (a.flatMap Ad)):
 Calls Tryz.prog 139 #[s,v] w fun e O=>Au e (xs=a)/\∃m,O=w.drewN m:=by
 have p:Hid (Rd w 1 s xs.length (xs.flatMap Ad)):=h;have d:Hid (Rd w 1 v a.length (a.flatMap Ad)):=q;obtain⟨P,c1,rfl⟩:=h.bW;obtain⟨Q,c2,rfl⟩:=q.bW;clear h q;by_cases b:xs.length=a.length
 . rw [<-b]at d;rw[<-b];clear L;generalize r:xs.length=n at K p d;have f:Hid (xs.length=n/\a.length=n):=⟨r,b▸r⟩
   clear r b;go_enter Tryz.func139,Tryz.ntmps139;go_wp2;go_loopw [5] (fun i wr=>∃k:Nat,k<=n/\i=.int .i64 k/\Hid (∀j,j<k->xs[j]?=a[j]?)/\∃m,wr=w.drewN m) (fun i _=>n-(intOf i).toNat)
   (case atStart=>exact⟨0,oM,rfl,fun j T=>oM,0,rfl⟩);obtain⟨k,U,rfl,z,m,rfl⟩:=hrel;by_cases E:k<n
   . obtain⟨x,t⟩:∃x,xs[k]?=some x:=⟨_,an (by rw[f.o.1];exact E)⟩;obtain⟨y,u⟩:∃y,a[k]?=some y:=⟨_,an (by rw[f.o.2];exact E)⟩;rcases p.o.2 with⟨I,_⟩|⟨g,o,c,A,C⟩
     . omega
     rcases d.o.2 with⟨I,_⟩|⟨R,V,c',B,D⟩
     . omega
     simp only[ip,kU]at A B;obtain⟨rfl,rfl⟩:=A;obtain⟨rfl,rfl⟩:=B;have M:=Rd.elem Ar C k x t 0 _ rfl;have N:=Rd.elem Ar D k y u 0 _ rfl;rw[kn,kD]at M N;have l:Hid (xs[k]?=some x/\a[k]?=some y):=⟨t,u⟩
     clear C D t u;by_cases G:x=y
     . subst G;go_wp2;go_quiet (fail);go_wp2;go_roundw;(case rel=>exact⟨k+1,oM,by go_num,Rb l.o.1 l.o.2 z.o,_,rfl⟩);exact oI
     go_wp2;go_quiet (fail);go_wp2;go_ret;exact⟨.no (TT l.o.1 l.o.2 G),m+nq,World.drewN_drewN _ _ _⟩
   have J:k=n:=oM;subst J;go_wp2;go_ret;exact⟨.hQ (Tc f.o.1 f.o.2 z.o),_,rfl⟩
 have F:¬xs=a:=fun e=>b (by rw[e])
 clear p d;generalize xs.length=n at*;generalize a.length=n' at*;have H:Hid (¬xs=a):=F;clear F;have S:¬(n:Int)=(n':Int):=oM;go_enter Tryz.func139,Tryz.ntmps139;go_wp2;go_ret;exact⟨.no H.o,0,rfl⟩
theorem C6{f:World}{base B:Nat}{e d:TypeId}{s v:Value}{k x n m:Nat}{xs i:List Value}(h:w.ownsRow base e k s n xs)(q:w.grownBy f v.ownBlock)(t:w.ownsRow B d x v m i)(r:e≠d):f.ownsRow base e k s n xs:=by
 refine⟨h.1,?_⟩;rcases h.2 with h|⟨g,cap,j,l,p,b,u⟩
 . exact .inl h
 refine .inr ⟨g,cap,j,l,p,?_,u⟩;rw[q.block g (kN.1 b).1 ?_]
 . exact b
 intro c;rcases t.2 with⟨rfl,_⟩|⟨A,y,z,rfl,_,a,_⟩
 . cases c
 simp only[Value.ownBlock,i4]at c;subst c;rw[b]at a;simp only[i4,lZ]at a;exact r a.2.1
theorem Fs.grown{w e:World}{base B:Nat}{v:VF}{a:TypeId}{b:Value}{g:List Value}(h:Fs w base v f)(c:w.grownBy e b.ownBlock)(d:w.ownsRow B a i b m g)(h1:2≠a)(h2:96≠a):Fs e base v f:=⟨C6 h.1 c d h1,C6 h.2.1 c d h1,C6 h.2.2 c d h2⟩
theorem DZ.grown{w e:World}{base B:Nat}{a:List MF}{b:Value}{j:Nat}{f:List Value}(h:DZ w base s a)(c:w.grownBy e b.ownBlock)(d:w.ownsRow B 5 j b m f):DZ e base s a:=by obtain⟨xs,h1,h2,g⟩:=h;exact⟨xs,h1,C6 h2 c d dC,fun x i=>(g x i).grown c d dC dC⟩
theorem Gw.grown{d:World}{base B:Nat}{rs:List (List Int)}{b:Value}{e:List Value}(h:Gw w base s rs)(a:w.grownBy d b.ownBlock)(c:w.ownsRow B 5 i b m e):Gw d base s rs:=by obtain⟨xs,h1,h2,f⟩:=h;exact⟨xs,h1,C6 h2 a c dC,fun x g=>C6 (f x g) a c dC⟩
theorem EZ.grown{d:World}{base B:Nat}{v:VP}{b:Value}{f:Nat}{e:List Value}(h:EZ w base v p)(a:w.grownBy d b.ownBlock)(c:w.ownsRow B 5 f b m e):EZ d base v p:=⟨h.aB.grown a c,C6 h.ag a c dC,h.funcs.grown a c,C6 h.a7 a c dC⟩
theorem Kf(h:Below w.heap.size w a)(row:Option Nat):w.grownBy a row:=⟨h.os,h.tape,h.output,h.size,fun k b _=>h.block k b⟩
def CV(n:Nat)(a:List Int):List Value:=a.flatMap fun y=>Az y n
theorem C5(n:Nat)(a:List Int):(CV n a).length=a.length*n:=Av (fun y=>Az y n) n (fun y=>Ak y n) a
theorem PA(n:Nat)(a:List Int)(k:Nat)(x:Int)(h:a[k]?=some x):CV n (a.take (k+1))=CV n (a.take k)++Az x n:=by obtain⟨b,rfl⟩:=d7.1 h;unfold CV;rw[kQ b,kO];simp
theorem AX(v:Int)(n:Nat):∀u∈Az v n,u.oneCell'=true:=by intro u a;unfold Az at a;obtain⟨i,_,rfl⟩:=lL.1 a;rfl
def Aw(w:World)(b:Nat)(a:Array Value)(t:TypeId):Prop:=w.heap[b]?=some (.cells a t (0,0))
theorem Aw.new(w:World)(a:Array Value)(t:TypeId):Aw (w.alloc (.cells a t)) w.heap.size a t:=nB
theorem Aw.lt{b:Nat}{a:Array Value}(h:Aw w b a t):b<w.heap.size:=(kN.1 h).1
theorem Aw.aa{b:Nat}{a:Array Value}(h:Aw w b a t)(d:Below w.heap.size w c):Aw c b a t:=by unfold Aw at*;rw[d.block b (kN.1 h).1];exact h
theorem Aw.cell{b:Nat}{a:Array Value}(h:Aw w b a t)(i:Nat):w.cell? ⟨b,i,none⟩=a[i]?:=mJ w b i a t _ h
theorem Aw.frozen{b:Nat}{a:Array Value}(h:Aw w b a t)(i:Nat):w.frozen? ⟨b,i,none⟩=false:=frozen_of_row w b i a t h
theorem Aw.set{b:Nat}{a:Array Value}(h:Aw w b a t)(i:Nat)(x:Value):Aw (w.setCell ⟨b,i,none⟩ x) b (a.setIfInBounds i x) t:=heap_setCell_same w b i a t x h
theorem Aw.other{b:Nat}{c:Array Value}(h:Aw w b c t){a:Addr}(d:b≠a.block)(x:Value):Aw (w.setCell a x) b c t:=by unfold Aw at*;rw[km w a b x d];exact h
theorem Aw.grown{f:World}{b:Nat}{d:Array Value}{t e:TypeId}(h:Aw w b d t){B k m:Nat}{v:Value}{g:List Value}(i:w.grownBy f v.ownBlock)(l:w.ownsRow B e k v m g)(j:t≠e):Aw f b d t:=by
 unfold Aw at*;rw[i.block b (kN.1 h).1 ?_]
 . exact h
 intro c;rcases l.2 with⟨rfl,_⟩|⟨q,n,p,rfl,_,a,_⟩
 . cases c
 simp only[Value.ownBlock,i4]at c;subst c;rw[h]at a;simp only[i4,lZ]at a;exact j a.2.1
structure At(w:World) where
 u:World
 h:Below w.heap.size w u
theorem At.some(w:World):Nonempty (At w):=⟨⟨w,kV _ _⟩⟩
theorem AF{a:Act}{l:List Oper}(d:P.follows .mixedOrders=true)(c:Region.lexB .any l.toArray=true)
 (h:wpQuiet P l.toArray (fun b=>∃n:At w,b=n.u) (fun a'=>∀b,(∃n:At w,b=n.u)->Q .normal a' b) l a):(Code.region id l.toArray true).wp P Q a w:=
 wp_region_quiet (C:=fun b=>∃n:At w,b=n.u) d c ⟨⟨_,Ae w⟩,rfl⟩ (by simpa using h)
theorem Au.true{e:Ending}(h:Au e q)(c:q):e=.returned (.bool true):=by obtain⟨b,rfl,a⟩:=h;rw[a.2 c]
theorem Au.false{e:Ending}(h:Au e q)(c:¬q):e=.returned (.bool false):=by
 obtain⟨b,rfl,a⟩:=h;cases b
 . rfl
 exact absurd (a.1 rfl) c
theorem At.cell{a:Addr}(h:w.cell? a=Option.some x)(n:At w):n.u.cell? a=Option.some x:=by rw[n.h.cell (d5 h)];exact h
def AR(f:MF)(k:Int):Int:=if k<0 then 0 else(f.params++f.locals).getD k.toNat 0
theorem Ho{k:Int}(h:k<0):AR f k=0:=lI h
theorem JW{k:Nat}{x:Int}(h:f.params[k]?=some x):AR f k=x:=by obtain⟨a,rfl⟩:=d7.1 h;unfold AR;rw[lE oM,kF,kJ,lK a,an a];rfl
theorem JU{k:Nat}{x:Int}(h:f.locals[k]?=some x):AR f ((f.params.length:Int)+k)=x:=by obtain⟨a,rfl⟩:=d7.1 h;unfold AR;have e:((f.params.length:Int)+k).toNat=f.params.length+k:=oM;rw[lE oM,kF,e,ky oM,mO,an a];rfl
theorem JV{k:Int}(h:(f.params.length:Int)+f.locals.length<=k):AR f k=0:=by unfold AR;rw[lE oM,kF,kK (by rw[f6];omega)];rfl
theorem DS(v:VF)(f:MF)(k:Int)(w:World)(I:f.small)(B:Cr k)(h:IG w v f):
 Calls Tryz.prog 72 #[.agg #[v.p,.int .i64 f.result,v.l,v.c],.int .i64 k] w fun e O=>e=.returned (.int .i64 (AR f k))/\Below w.heap.size w O:=by
 have H:-9223372036854775808<=k/\k<=9223372036854775807:=by simpa[Cr,Lit.wf,IntKind.min,IntKind.max,IntKind.signed,IntKind.bits]using B
 obtain⟨P,Q⟩:=H;obtain⟨S,T,M⟩:=I;have y:Hid (IG w v f):=h;obtain⟨F,c1,b⟩:=h.1.bW;obtain⟨G,c2,z⟩:=h.2.1.bW;obtain⟨V,U,N⟩:=v;simp only[]at b z;subst b;subst z;clear h B M;have u:=Uh.of w 68 #[.slice F f.params.length c1,.int .i64 f.result,.slice G f.locals.length c2,N] rfl;have n:Hid _:=u.aC;clear u;generalize C:f.params.length=m at*;generalize D:f.locals.length=E at*;have d:Hid (f.params.length=m/\f.locals.length=E):=⟨C,D⟩
 clear C D;by_cases K:k<0
 . rw[Ho K];go_enter Tryz.func72,Tryz.ntmps72;go_wp2;go_ret;exact⟨rfl,n.o⟩
 obtain⟨j,rfl⟩:=i7 (show 0<=k from oM);by_cases L:j<m
 . obtain⟨x,i⟩:∃x,f.params[j]?=some x:=⟨_,an (by rw[d.o.1];exact L)⟩;rw[JW i];rcases y.o.1.2 with⟨s,_⟩|⟨g,o,c,b,q⟩
   . rw[d.o.1]at s;omega
   simp only[ip]at b;obtain⟨rfl,t,rfl⟩:=b;clear t;have a:=Rd.elem Ar q j x i 0 _ rfl;rw[kn,kD]at a;have J:=(n.o.cell (d5 a)).trans a;clear q i a;go_enter Tryz.func72,Tryz.ntmps72;go_wp2;go_ret;exact⟨rfl,n.o⟩
 by_cases R:j<m+E
 . obtain⟨x,i⟩:∃x,f.locals[j-m]?=some x:=⟨_,an (by rw[d.o.2];omega)⟩;have r:=JU i;rw[d.o.1]at r;have A:((m:Int)+((j-m:Nat):Int))=(j:Int):=oM;rw[A]at r;rw[r];rcases y.o.2.1.2 with⟨s,_⟩|⟨g,o,c,b,q⟩
   . rw[d.o.2]at s;omega
   simp only[ip]at b;obtain⟨rfl,t,rfl⟩:=b;clear t;have a:=Rd.elem Ar q (j-m) x i 0 _ rfl;rw[kn,kD]at a;have J:=(n.o.cell (d5 a)).trans a;clear q i a r A;go_enter Tryz.func72,Tryz.ntmps72;go_wp2;go_ret;exact⟨rfl,n.o⟩
 rw[JV (by rw[d.o.1,d.o.2];omega)];go_enter Tryz.func72,Tryz.ntmps72;go_wp2;go_ret;exact⟨rfl,n.o⟩
theorem Wh(x y:Nat)(a:x<18446744073709551616)(b:y<18446744073709551616):bits .or .u64 (x:Int) (y:Int)=((x ||| y:Nat):Int):=by show(((BitVec.ofInt 64 (x:Int) ||| BitVec.ofInt 64 (y:Int)).toNat:Nat):Int) % 2 ^ 64=_;rw[BitVec.ofInt_natCast,BitVec.ofInt_natCast,BitVec.toNat_or,BitVec.toNat_ofNat,BitVec.toNat_ofNat,Nat.mod_eq_of_lt a,Nat.mod_eq_of_lt b];have:=Nat.or_lt_two_pow (n:=64) a b;omega
def C7(a:List Int):Prop:=∀j,0<=a.getD j 0/\a.getD j 0<=255
theorem Md(a:List Int)(e:C7 a)(p:Nat):∀n,n<=7->∃x:Nat,BW a p n=(x:Int)/\x<2 ^ (8*n)
 |0,_=>⟨0,rfl,by decide⟩
 | n +1,hn=>by
   obtain⟨x,i,r⟩:=Md a e p n oM;have b:=e (p+n);rw[kF]at b;obtain⟨c,f⟩:=i7 b.1;have l:(2:Nat) ^ (8*n)<=2 ^ 48:=Nat.pow_le_pow_right dC oM;have h:((2 ^ (8*n):Nat):Int)=2 ^ (8*n):=sP;have g:c<=255:=oM;have m:c*2 ^ (8*n)<=255*2 ^ (8*n):=Nat.mul_le_mul_right _ g;(have d:(2:Nat) ^ (8*(n+1))=256*2 ^ (8*n):=by rw[show 8*(n+1)=8*n+8 from oM,Nat.pow_add,Nat.mul_comm]);(have j:IntKind.u64.wrap (c:Int)=(c:Int):=by show(c:Int) % 2 ^ 64=c;omega);(have k:IntKind.u64.wrap ((c:Int)*2 ^ (8*n))=((c*2 ^ (8*n):Nat):Int):=by show(c:Int)*2 ^ (8*n) % 2 ^ 64=_;rw[<-h,<-Int.natCast_mul];generalize c*2 ^ (8*n)=q at*;omega);refine⟨x ||| (c*2 ^ (8*n)),?_,?_⟩
   . show bits .or .u64 (BW a p n) _=_;rw[i,f,j,k,Wh _ _ oM oM]
   refine Nat.or_lt_two_pow (by rw[d];omega) (by rw[d];omega)
theorem Jl{a:List Int}(f:C7 a){n k g:Nat}{x:Int}(c:n<=7)(h:Cz a n k=some (x,g)):0<=x/\x<2 ^ (8*n):=by
 obtain⟨_,_,rfl⟩:=Jk h;obtain⟨y,d,j⟩:=Md a f k n c;rw[d];have i:(2:Nat) ^ (8*n)<=2 ^ 56:=Nat.pow_le_pow_right dC oM;have b:((2 ^ (8*n):Nat):Int)=2 ^ (8*n):=sP;have e:wrap64 (y:Int)=y:=by unfold wrap64;omega
 rw[e,<-b];omega
section
variable {P:Program} {ops:Array Oper} {Q:Exit->Act->World->Prop} {md:Region.Mode} {S:World->Prop} {n:Nat}
def DG(P:Program)(md:Region.Mode)(ops:Array Oper)(Q:Exit->Act->World->Prop)(S:World->Prop)(n:Nat):Nat->Array Bool->Act->World->Prop
 |0,d,a,w=>Region.ready md ops d=[]/\Q .normal a w
 |f+1,d,a,w=>(Region.ready md ops d=[]->Q .normal a w)/\∀i∈Region.ready md ops d,wpOp P ops Q i (fun a' b=>(i<n->S b)/\DG P md ops Q S n f (d.setIfInBounds i true) a' b) a w
theorem Lk:∀(f:Nat) (d:Array Bool) (a:Act) (w:World),DG P md ops Q S n f d a w->wpAny P md ops Q f d a w
 |0,_,_,_,h=>h
 |f+1,_,_,_,h=>⟨h.1,fun i c=>wpOp_mono (fun a' e b=>Lk f _ a' e b.2) (h.2 i c)⟩
theorem M8{m:Oper}{v:Value}(y:ops[i]?=some m)(E:∀(j:Nat) (o:Oper) r b,ops[j]?=some o->o.op≠ .select r b)
 (I:∀c a w,Q (.panic c) (a.put m.dst v) w->Q (.panic c) a w) (Y:Region.sinkB md ops n=true) (L:Region.chainB md ops n=true) (V:n<ops.size) (R:i<n):
 ∀ (f:Nat) (d:Array Bool) (a:Act) (w:World),HeadInv md ops n d->
   (∀j p,ops[j]?=some p->j≠i->d.getD j true=false->(∀e∈p.after,Region.binds md e=true->e.on≠i)->m.apart ops p=true)->
   i∈Region.ready md ops d->YieldsIf P ops S m v a->S w->
   DG P md ops Q S n f (d.setIfInBounds i true) (a.put m.dst v) w->DG P md ops Q S n (f+1) d a w:=by
 intro f;induction f with
 | zero=>
   intro d a w _ _ l x s H;refine⟨fun h=>(by rw[h]at l;cases l),fun j q=> ?_⟩;by_cases g:j=i
   . subst g;exact x.wpOp y s ⟨fun _=>s,H⟩
   have:=ready_mono q g;rw[H.1]at this;cases this
 | succ f Z=>
   intro d a w G A l x s H;refine⟨fun h=>(by rw[h]at l;cases l),fun j q=> ?_⟩;by_cases g:j=i
   . subst g;exact x.wpOp y s ⟨fun _=>s,H⟩
   (have C:j<n:=Nat.lt_of_not_le fun h=>tail_waits Y L V G _ i rfl R (mem_ready.1 l).1 j h q);have h1:=H.2 j (ready_mono q g);obtain⟨D,p,z,J⟩:=mem_ready.1 q;(have X:∀e∈p.after,Region.binds md e=true->e.on≠i:=fun e M K N=>by have h1:=J e M K;rw[N,getD_both (mem_ready.1 l).1]at h1;cases h1);have h2:=wpOp_putIf z (A j p z g D X) (fun r b=>E i m r b y) (fun r b=>E j p r b z) I x h1;have O:∀k t,ops[k]?=some t->k≠i->(d.setIfInBounds j true).getD k true=false->
    (∀e∈t.after,Region.binds md e=true->e.on≠i)->m.apart ops t=true:=fun k t T U F W=>by
    refine A k t T U ?_ W;by_cases B:j=k
    . subst B;exact D
    rw[getD_set_ne true B]at F;exact F
   refine wpOp_mono (fun a' w' u=>⟨u.2.1,Z (d.setIfInBounds j true) a' w' (G.set q C) O (ready_mono l (Ne.symm g)) u.1 (u.2.1 C) ?_⟩) h2;rw[Array.setIfInBounds_comm _ _ g];exact u.2.2
def Qa(md:Region.Mode)(ops:Array Oper)(n:Nat)(d:Array Bool):Bool:=d.size==ops.size&&(List.range ops.size).all (fun j=> !d.getD j false||((ops[j]?).map (·.after.all fun e=> !Region.binds md e||d.getD e.on false)).getD true)&&(List.range ops.size).all (fun t=>decide (t<n)|| !d.getD t true)&&Region.sinkB md ops n&&Region.chainB md ops n&&decide (n<ops.size)
theorem Pb(h:Qa md ops n d=true):HeadInv md ops n d/\Region.sinkB md ops n=true/\Region.chainB md ops n=true/\n<ops.size:=by
 simp only[Qa,nL,mP,beq_iff_eq]at h;obtain⟨⟨⟨⟨⟨h1,h2⟩,b⟩,c⟩,f⟩,g⟩:=h;refine⟨⟨h1,fun j q a l e k i=> ?_,fun t p m=> ?_⟩,c,f,g⟩
 . have:=nM.1 h2 j (mD.2 (kN.1 a).1);rw[l,a]at this;simp only[Bool.not_true,Bool.false_or,nF,mm]at this;have:=Array.all_eq_true'.1 this e k;rw[i]at this;simpa using this
 have:=nM.1 b t (mD.2 m);rw[ld oM]at this;simpa using this
theorem OC{e:Oper}{v:Value}{f:Nat}{a:Act}(g:ops[i]?=some e)
 (r:Region.noSelect ops=true) (m:Region.free md ops d i=true) (q:(Region.ready md ops d).contains i=true) (l:Qa md ops n d=true) (p:i<n)
 (j:∀c a w,Q (.panic c) (a.put e.dst v) w->Q (.panic c) a w) (s:YieldsIf P ops S e v a) (k:S w)
 (h:DG P md ops Q S n f (d.setIfInBounds i true) (a.put e.dst v) w):DG P md ops Q S n (f+1) d a w:=
 have b:=Pb l
 M8 g (Region.noSelect_spec r) j b.2.1 b.2.2.1 b.2.2.2 p f d a w b.1 (Region.free_spec g m) (by simpa using q) s k h
def Cl(P:Program)(md:Region.Mode)(ops:Array Oper)(Q:Exit->Act->World->Prop)(S:World->Prop)(n f:Nat)(d:Array Bool)(a:Act)(w:World)(rs:List Nat):Prop:=∀i∈rs,wpOp P ops Q i (fun a' b=>(i<n->S b)/\DG P md ops Q S n f (d.setIfInBounds i true) a' b) a w
theorem Cl.nil{f:Nat}{a:Act}:Cl P md ops Q S n f d a w []:=fun _ h=>by cases h
theorem Cl.cons{f:Nat}{a:Act}{o:Oper}(g:ops[i]?=some o)
 (h:∀b:Act->World->Prop,Shut (∀a w,(i<n->S w)->((i<n->S w)->DG P md ops Q S n f (d.setIfInBounds i true) a w)->b a w)->if Region.wanted o (yielded ops a.tmps)=true then Oper.wp P o a w b Q else b (a.put o.dst undef) w)
 (k:Cl P md ops Q S n f d a w rs):Cl P md ops Q S n f d a w (i::rs):=fun j c=>by
 rcases ka.1 c with rfl|c
 . have:=h (fun a' e=>(j<n->S e)/\DG P md ops Q S n f (d.setIfInBounds j true) a' e) (show Shut _ from fun a w h1 h2=>⟨h1,h2 h1⟩)
   unfold wpOp;simp only[g];split
   . rename_i hw;simp only[hw,if_true]at this;exact .inl this
   rename_i hw;simp only[hw]at this;exact this
 exact k j c
theorem GT{f:Nat}{a:Act}(b:Region.ready md ops d=rs)(e:rs≠[])
 (h:Cl P md ops Q S n f d a w rs):DG P md ops Q S n (f+1) d a w:=⟨fun c=>absurd (b▸c) e,b▸h⟩
theorem BL{a:Act}(b:Region.ready md ops d=[])(h:Q .normal a w):∀f,DG P md ops Q S n f d a w
 |0=>⟨b,h⟩
 |_+1=>⟨fun _=>h,by rw[b];simp⟩
theorem A6(n:Nat){a:Act}(c:P.follows .mixedOrders=true)(b:S w.drew)
 (h:S w.drew->DG P .any ops Q S n ops.size (Array.replicate ops.size false) a w.drew):(Code.region id ops true).wp P Q a w:=
 wp_region_any c (Lk _ _ _ _ (h b))
end
theorem Ew{wr:World}(h:w.grownBy wr (some g))(i:Nat)(x:Value):w.grownBy (wr.setCell ⟨g,i,none⟩ x) (some g):=⟨h.os,h.tape,h.output,by rw[lM];exact h.size,fun k b a=>(km wr _ k x (fun e=>a (by rw[e]))).trans (h.block k b a)⟩
theorem BJ{base:Nat}{e:TypeId}{k n:Nat}{xs:List Value}{row:Option Nat}(h:w.ownsRow base e k s n xs)(f:w.grownBy b row)(i:∀g,s.ownBlock=some g->some g≠row):b.ownsRow base e k s n xs:=by
 refine⟨h.1,?_⟩;rcases h.2 with h|⟨g,cap,c,rfl,d,a,j⟩
 . exact .inl h
 refine .inr ⟨g,cap,c,rfl,d,?_,j⟩;rw[f.block g (kN.1 a).1 (i g rfl)];exact a
def Ks(x y:Value×List Int):Prop:=∀g,x.1.ownBlock=some g->y.1.ownBlock≠some g
theorem Ks.symm{x y:Value×List Int}(h:Ks x y):Ks y x:=fun g a e=>h g e a
structure JN(w:World)(base:Nat)(L:List (Value×List Int)):Prop where
 own:∀x∈L,w.ownsRow base 2 1 x.1 x.2.length (x.2.flatMap Ad)
 sep:L.Pairwise Ks
structure Wv(base:Nat)(w w':World):Prop where
 aC:Below base w w'
 cC:∀(k:Nat) (cur:Array Value) (t:TypeId),w.heap[k]?=some (Obj.cells cur t (0,0))->t≠2->w'.heap[k]?=some (Obj.cells cur t (0,0))
theorem Wv.refl(base:Nat)(w:World):Wv base w w:=⟨kV _ _,fun _ _ _ h _=>h⟩
theorem Wv.trans{base:Nat}{u v w:World}(h:Wv base u v)(b:Wv base v w):Wv base u w:=⟨h.aC.trans b.aC,fun k a t c h1=>b.cC k a t (h.cC k a t c h1) h1⟩
theorem Wv.own{base b:Nat}{d:World}(h:Wv base w d){e:TypeId}{k n:Nat}{xs:List Value}(c:w.ownsRow b e k s n xs)(h1:e≠2):d.ownsRow b e k s n xs:=by
 refine⟨c.1,?_⟩;rcases c.2 with i|⟨g,cap,a,f,j,l,m⟩
 . exact .inl i
 exact .inr ⟨g,cap,a,f,j,h.cC g a e l h1,m⟩
theorem JN.put{w k:World}{base:Nat}{A B:List (Value×List Int)}{v:Value}{c c':List Int}(h:JN w base (A++(v,c)::B))(q:c'.length=c.length)(r:k.ownsRow base 2 1 v c.length (c'.flatMap Ad))(m:w.grownBy k v.ownBlock):JN k base (A++(v,c')::B):=by
 obtain⟨t,u,j⟩:=lX.1 h.sep;obtain⟨n,z⟩:=l3.1 u;refine⟨fun x d=> ?_,lX.2 ⟨t,l3.2 ⟨fun y s=>n y s,z⟩,fun a l b f=> ?_⟩⟩
 . rcases kB.1 d with d|d
   . exact BJ (h.own x (kB.2 (.inl d))) m (fun g i e=>j x d (v,c) sP g i e.symm)
   rcases ka.1 d with rfl|d
   . simp only[];rw[q];exact r
   exact BJ (h.own x (kB.2 (.inr (kw _ d)))) m (fun g i e=>n x d g e.symm i)
 rcases ka.1 f with rfl|f
 . exact fun g p=>j a l (v,c) sP g p
 exact j a l b (kw _ f)
theorem Hx(w:World)(a:Array Value)(t:TypeId):(w.alloc (.cells a t)).heap[w.heap.size]?=some (.cells a t (0,0)):=nB
theorem CZ(s:ByteArray)(c f:Int)(w:World):(Instr.field 133 (.agg #[.string s,.int .i64 c,.int .i64 f]) 2).run Tryz.prog w=.ok (.int .i64 f) w:=kR
theorem Ma{m:List MF}{q:Nat}(h:Nq w s m)(i:m[q]?=some f):∃b d k,s=.slice (some ⟨b,d,none⟩) m.length k/\∃g:VF,IG w g f/\w.cell? ⟨b,d+q*4,none⟩=some g.p/\w.cell? ⟨b,d+q*4+1,none⟩=some (.int .i64 f.result)/\w.cell? ⟨b,d+q*4+2,none⟩=some g.l/\w.cell? ⟨b,d+q*4+3,none⟩=some g.c:=by
 obtain⟨xs,h1,h2,n⟩:=h;have t:=(d7.1 i).1;rcases h2.2 with⟨e,_⟩|⟨b,d,k,e,j⟩
 . omega
 obtain⟨x,a,r⟩:∃x,xs[q]?=some x/\x.1=f:=by
  rw[<-h1,kh]at i;cases a:xs[q]? with
  |none=>rw[a]at i;cases i
  |some x=>rw[a]at i;exact⟨x,rfl,kH i⟩
 subst r;exact⟨b,d,k,e,x.2,n x (d9 a),Rd.elem Aj j q x a 0 _ rfl,Rd.elem Aj j q x a 1 _ rfl,Rd.elem Aj j q x a 2 _ rfl,Rd.elem Aj j q x a 3 _ rfl⟩
theorem St{is:List MI}{q:Nat}{x:MI}(h:Rd w 4 s is.length (is.flatMap MI.cells))(g:is[q]?=some x):∃d f j,s=.slice (some ⟨d,f,none⟩) is.length j/\w.cell? ⟨d,f+q*4,none⟩=some (.int .i64 x.op)/\w.cell? ⟨d,f+q*4+1,none⟩=some (.int .i64 x.a)/\w.cell? ⟨d,f+q*4+2,none⟩=some (.int .i64 x.b)/\w.cell? ⟨d,f+q*4+3,none⟩=some (.int .i64 x.c):=by
 have k:=(d7.1 g).1;rcases h.2 with⟨e,_⟩|⟨d,f,j,e,i⟩
 . omega
 exact⟨d,f,j,e,Rd.elem MI.aK i q x g 0 _ rfl,Rd.elem MI.aK i q x g 1 _ rfl,Rd.elem MI.aK i q x g 2 _ rfl,Rd.elem MI.aK i q x g 3 _ rfl⟩
structure En(R:Nat->Prop)(u u':World):Prop where
 os:u'.os=u.os
 tape:u'.tape=u.tape
 output:u'.output=u.output
 size:u.heap.size<=u'.heap.size
 block:∀k,k<u.heap.size->¬R k->u'.heap[k]?=u.heap[k]?
theorem En.of{u a:World}(h:Below u.heap.size u a):En R u a:=⟨h.os,h.tape,h.output,h.size,fun k b _=>h.block k b⟩
theorem En.refl(R:Nat->Prop)(u:World):En R u u:=⟨rfl,rfl,rfl,Nat.le_refl _,fun _ _ _=>rfl⟩
theorem En.trans{g:Nat->Prop}(h:En R a b)(d:En g b c)(j:∀k,k<a.heap.size->g k->R k):En R a c:=⟨d.os.trans h.os,d.tape.trans h.tape,d.output.trans h.output,jX h.size d.size,fun k f i=>(d.block k (lA f h.size) (fun e=>i (j k f e))).trans (h.block k f i)⟩
theorem En.below(h:En R a b)(e:B<=a.heap.size)(c:∀k,k<B->¬R k):Below B a b:=⟨h.os,h.tape,h.output,h.size,fun k d=>h.block k oM (c k d)⟩
theorem En.cC(h:En R a b){c:Array Value}{e:TypeId}(d:Aw a g c e)(f:¬R g):Aw b g c e:=by unfold Aw at*;rw[h.block g (kN.1 d).1 f];exact d
theorem En.setCell(h:En R a b)(c:R ad.block\/a.heap.size<=ad.block)(x:Value):En R a (b.setCell ad x):=by
 refine⟨h.os,h.tape,h.output,by rw[lM];exact h.size,fun k f d=> ?_⟩;have g:k≠ad.block:=fun e=>by
  rcases c with c|c
  . exact d (e▸c)
  omega
 rw[Below.heap_setCell _ _ _ _ g];exact h.block k f d
theorem En.mono{c:Nat->Prop}(h:En R a b)(f:∀k,k<a.heap.size->R k->c k):En c a b:=⟨h.os,h.tape,h.output,h.size,fun k d g=>h.block k d (fun e=>g (f k d e))⟩
theorem En.grown(h:En R a b){r:Option Nat}(d:b.grownBy c r)(i:∀k,k<a.heap.size->some k=r->R k):En R a c:=⟨d.os.trans h.os,d.tape.trans h.tape,d.output.trans h.output,jX h.size d.size,fun k f g=>(d.block k (lA f h.size) (fun e=>g (i k f e))).trans (h.block k f g)⟩
theorem En.own{u d:World}(j:En R u d){e:TypeId}{k n:Nat}{xs:List Value}(h:u.ownsRow B e k s n xs)(l:∀b,s.ownBlock=some b->¬R b):d.ownsRow B e k s n xs:=by
 refine⟨h.1,?_⟩;rcases h.2 with h2|⟨g,cap,f,a,i,c,m⟩
 . exact .inl h2
 refine .inr ⟨g,cap,f,a,i,?_,m⟩;rw[j.block g (kN.1 c).1 (l g (by rw[a];rfl))];exact c
theorem En.on(h:En R a b)(d:Below b.heap.size b c):En R a c:=h.trans (En.of (R:=R) d) (fun _ _ e=>e)
structure Bw(B:Nat)(w:World)(out:Value)(u:World)(v:Value)(bs:List Value):Prop where
 own:u.ownsRow B 5 1 v bs.length bs
 grown:w.grownBy u out.ownBlock
 place:v.ownBlock=out.ownBlock\/∃k,v.ownBlock=some k/\w.heap.size<=k
theorem Bw.refl{b:Value}{a:List Value}(h:w.ownsRow B 5 1 b a.length a):Bw B w b w b a:=⟨h,World.grownBy.refl _ _,.inl rfl⟩
theorem Bw.call{d:Value}{u a:World}{v:Value}{c:List Value}(h:Bw B w d u v c)(b:Below u.heap.size u a):Bw B w d a v c:=⟨Ai h.own b lR,h.grown.trans (grown_of_below' b h.grown.size),h.place⟩
where grown_of_below' {w u a:World} {row:Option Nat} (b:Below u.heap.size u a) (_:w.heap.size<=u.heap.size):u.grownBy a row:=Kf b row
theorem Bw.more{i:Value}{u d:World}{v v':Value}{b c:List Value}(h:Bw B w i u v b)(t:B<=w.heap.size)(n:Nat)(q:n=b.length)(m:Nat)(p:m=c.length)
 (r:d.ownsRow B 5 1 v' (n+m) (b++c)) (a:u.grownBy d v.ownBlock) (s:v'.ownBlock=v.ownBlock\/v'.ownBlock=some u.heap.size):Bw B w i d v' (b++c):=by
 refine⟨by rw[f6];subst q p;exact r,⟨a.os.trans h.grown.os,a.tape.trans h.grown.tape,a.output.trans h.grown.output,jX h.grown.size a.size,fun k f g=> ?_⟩,?_⟩
 . rw[a.block k (lA f h.grown.size) ?_,h.grown.block k f g];rcases h.place with e|⟨j,e,x⟩
   . rw[e];exact g
   rw[e];intro l;simp only[i4]at l;omega
 rcases s with e|e
 . rw[e];exact h.place
 exact .inr ⟨_,e,h.grown.size⟩
theorem Bm{base:Nat}{e:TypeId}{n c:Nat}{xs:List Value}(h:w.ownsRow base e 1 (.slice (some ad) n c) n xs):∀j u,xs[j]?=some u->w.cell? (ad.add j)=some u:=by
 intro j u a;rcases(Rd.cB h).2 with⟨rfl,_⟩|⟨g,o,c',e,b⟩
 . have:=(d7.1 a).1;rw[h.1]at this;omega
 simp only[ip,i4,kU]at e;obtain⟨rfl,rfl⟩:=e;rw[Addr.add_lit];exact b j u a
theorem Fl(B:Nat)(d:Value)(b:List Value)(n:Nat)(s:Value)(a:List Int)(w:World)(V:B<=w.heap.size)(h1:1<=n)(A:n<=8)(hy:a.length<=1048576)(hb:b.length<=1073741824)
 (K:w.ownsRow B 5 1 d b.length b) (p:∀Q,w.grownBy Q d.ownBlock->Rd Q 1 s a.length (a.flatMap Ad)):
 Calls Tryz.prog 51 #[d,iZ n,s] w fun e t=>∃v,e=.returned v/\Bw B w d t v (b++CV n a):=by
 obtain⟨i0,W,a6,a8,ae⟩:=kS infoBD;have H:=Ag (f7 K (f7 p V));obtain⟨a1,c1,j⟩:=(p w (World.grownBy.refl _ _)).bW;subst j;clear K p;generalize D:a.length=L at*;have l:=Ag D;clear D;go_enter Tryz.func51,Tryz.ntmps51;go_wp2;go_loopw [0,7] (fun v i wr=>∃k:Nat,k<=L/\i=iZ k/\Hid (Bw B w d wr v (b++CV n (a.take k)))) (fun _ i _=>L-(intOf i).toNat)
 case atStart=>exact⟨0,oM,rfl,by show Bw _ _ _ _ _ _;simpa[CV]using Bw.refl H.o.1⟩
 obtain⟨k,I,rfl,h⟩:=hrel;by_cases Y:k<L
 . obtain⟨x,q⟩:∃x,a[k]?=some x:=⟨_,an (by rw[l.o];exact Y)⟩;have O:=H.o.2.1 _ h.o.grown;rcases O.2 with⟨e0,_⟩|⟨g,o,c,j,E⟩
   . omega
   simp only[ip,kU]at j;obtain⟨rfl,rfl⟩:=j;have P:=Rd.elem Ar E k x q 0 _ rfl;rw[kn,kD]at P;have T:=Ag q;clear E q O;go_wp2_with fail;refine(AU x n wr h1 A).mono ?_;rintro e u ⟨r,rfl,own,z⟩;have f:=Ag (h.o.call z);obtain⟨ad,cr,U⟩:∃ad c,r=.slice (some ad) n c:=by
    rcases own.2 with⟨_,e⟩|⟨g2,cap,ah,e,_⟩
    . omega
    exact⟨_,_,e⟩
   subst U;have F:=Bm own;have y:=Ag F;(have J:(b++CV n (a.take k)).length=b.length+k*n:=by rw[f6,C5,lB,l.o,Nat.min_eq_left I]);have aj:k*n<=8388608:=jX (Nat.mul_le_mul (jX I hy) A) oM;have m:=Ag J;clear own z h F J P;generalize C:b++CV n (a.take k)=cs at f m;have R:=Ag C;clear C;go_wp2_with (at_builtin;refine wpList_append_own_at _ rfl _ _ 22 rfl B 5 i0 (.int .u8 0) 1 1 Tryz.underlying22 W a6 a8 ae rfl dC _ _ _ rfl f.o.own ad n cr (Az x n) rfl ?c1 ?c2 ?c3 ?c4 ?c5 ?c6 ?_);(case c1=>rw[Ak,kn]);(case c2=>exact y.o);(case c3=>exact AX _ _);(case c4=>rw[m.o];unfold maxLen;omega);(case c5=>rw[m.o];omega);(case c6=>exact jX H.o.2.2 f.o.grown.size);intro v' t M G Z N;(have S:Hid (Bw B w d t v' (b++CV n (a.take (k+1)))):=by have:=f.o.more H.o.2.2 _ rfl n (Ak _ _).symm M G N;rw[PA n a k x T.o,<-kT,R.o];exact this);clear M G Z N f y;go_wp2;go_roundw;(case rel=>exact⟨k+1,oM,by go_num,S⟩);exact oI
 have X:k=L:=oM;subst X;go_wp2;go_ret;exact⟨_,rfl,by have:=h.o;rw[<-l.o,List.take_length]at this;exact this⟩
def Ch(p:MP)(r c:Int):Int:=if r<0\/2<r\/c<0 then 0 else(p.aB.getD r.toNat []).getD c.toNat 0
theorem FA{r c:Int}(h:r<0\/2<r\/c<0):Ch p r c=0:=lI h
theorem Jz{r c:Nat}(h:r<=2){l:List Int}(a:p.aB[r]?=some l):Ch p r c=l.getD c 0:=by
 unfold Ch;have e:p.aB.getD r []=l:=by rw[kF,a];rfl
 rw[lE oM,kJ,kJ,e]
theorem IL(v:VP)(p:MP)(r c:Int)(w:World)(L:p.small)(C:p.aB.length=3)(K:Cr r)(G:Cr c)(h:Ft w v p):
 Calls Tryz.prog 73 #[.agg #[v.r,v.k,v.f,v.t],.int .i64 r,.int .i64 c] w fun e Z=>e=.returned (.int .i64 (Ch p r c))/\Below w.heap.size w Z:=by
 have S:-9223372036854775808<=r/\r<=9223372036854775807:=by simpa[Cr,Lit.wf,IntKind.min,IntKind.max,IntKind.signed,IntKind.bits]using K
 have Q:-9223372036854775808<=c/\c<=9223372036854775807:=by simpa[Cr,Lit.wf,IntKind.min,IntKind.max,IntKind.signed,IntKind.bits]using G
 obtain⟨r0,r1⟩:=S;obtain⟨c0,c1⟩:=Q;clear K G;obtain⟨N,vk,X,Y⟩:=v;obtain⟨xs,D,A,J⟩:=h.aB;simp only[]at A;rw[C]at A;have M:xs.length=3:=by rw[<-C,<-D];simp
 have m:Hid (Rd w 1 N 3 (xs.flatMap Bi)/\xs.map Prod.fst=p.aB/\(∀x∈xs,Rd w 1 x.2 x.1.length (x.1.flatMap Ad))/\(∀l∈p.aB,l.length<=1048576)/\xs.length=3):=⟨A,D,J,L.region,M⟩
 clear A D J M L h C;have a:Hid _:=(Uh.of w 29 #[N,vk,X,Y] rfl).aC;by_cases T:r<0
 . rw[FA (.inl T)];go_enter Tryz.func73,Tryz.ntmps73;go_wp2;go_ret;exact⟨rfl,a.o⟩
 by_cases U:2<r
 . rw[FA (.inr (.inl U))];go_enter Tryz.func73,Tryz.ntmps73;go_wp2;go_ret;exact⟨rfl,a.o⟩
 by_cases V:c<0
 . rw[FA (.inr (.inr V))];go_enter Tryz.func73,Tryz.ntmps73;go_wp2;go_ret;exact⟨rfl,a.o⟩
 obtain⟨i,rfl⟩:=i7 (show 0<=r from oM);obtain⟨j,rfl⟩:=i7 (show 0<=c from oM);obtain⟨⟨l,y⟩,B⟩:∃x,xs[i]?=some x:=⟨_,an (by rw[m.o.2.2.2.2];omega)⟩;have u:=CK m.o.2.1 B;have d:=m.o.2.2.1 _ (d9 B);have R:=m.o.2.2.2.1 _ (d9 u);simp only[]at u d R;rw[Jz oM u];rcases m.o.1.2 with⟨O,_⟩|⟨g,o,cc,P,H⟩
 . omega
 subst P;have b:=Rd.elem Bc H i _ B 0 _ rfl;rw[kn,kD]at b;simp only[]at b;clear H B u;obtain⟨ay,cy,rfl⟩:=d.bW;have a1:=(a.o.cell (d5 b)).trans b;by_cases W:j<l.length
 . obtain⟨z,E⟩:∃z,l[j]?=some z:=⟨_,an W⟩;(have q:l.getD j 0=z:=by rw[kF,E];rfl);rw[q];rcases d.2 with⟨O,_⟩|⟨g2,o2,c2,F,I⟩
   . omega
   simp only[ip,kU]at F;obtain⟨rfl,rfl⟩:=F;have s:=Rd.elem Ar I j z E 0 _ rfl;rw[kn,kD]at s;have b1:=(a.o.cell (d5 s)).trans s;clear I E s b q;have HY:Hid _:=d;clear d;generalize l.length=n at*;go_enter Tryz.func73,Tryz.ntmps73;go_wp2;go_ret;exact⟨rfl,a.o⟩
 have q:l.getD j 0=0:=by rw[kF,kK oM];rfl
 rw[q];clear q b d;generalize l.length=n at*;go_enter Tryz.func73,Tryz.ntmps73;go_wp2;go_ret;exact⟨rfl,a.o⟩
theorem En.gP(h:En R a b)(d:En R b c):En R a c:=h.trans d (fun _ _ e=>e)
theorem En.cell{u b:World}(h:En R u b){v:Value}(a:u.cell? ad=some v)(c:¬R ad.block):b.cell? ad=some v:=by rw[mK (h.block _ (d5 a) c)];exact a
structure Ax where
 e:TypeId
 k:Nat
 v:Value
 n:Nat
 xs:List Value
def Ax.own(w:World)(base:Nat)(r:Ax):Prop:=w.ownsRow base r.e r.k r.v r.n r.xs
def Uk(a b:Ax):Prop:=∀g,a.v.ownBlock=some g->b.v.ownBlock≠some g
structure CJ(w:World)(base:Nat)(L:List Ax):Prop where
 own:∀r∈L,r.own w base
 sep:L.Pairwise Uk
theorem CJ.nil(w:World)(base:Nat):CJ w base []:=⟨fun r a=>(by cases a),List.Pairwise.nil⟩
theorem CJ.aa{base:Nat}{L:List Ax}(h:CJ w base L)(b:Below w.heap.size w a):CJ a base L:=⟨fun r c=>Ai (h.own r c) b lR,h.sep⟩
theorem CJ.base{base a:Nat}{L:List Ax}(h:CJ w base L)(b:a<=base):CJ w a L:=⟨fun r c=>BD (h.own r c) b,h.sep⟩
theorem CJ.put{j:World}{base:Nat}{A B:List Ax}{r:Ax}(h:CJ w base (A++r::B))(q:List Value)(t:j.ownsRow base r.e r.k r.v r.n q)(m:w.grownBy j r.v.ownBlock):CJ j base (A++{r with xs:=q}::B):=by
 obtain⟨z,C,i⟩:=lX.1 h.sep;obtain⟨p,D⟩:=l3.1 C;refine⟨fun x c=> ?_,lX.2 ⟨z,l3.2 ⟨fun y u=>p y u,D⟩,fun a l b d=> ?_⟩⟩
 . rcases kB.1 c with c|c
   . exact BJ (h.own x (kB.2 (.inl c))) m (fun g f e=>i x c r sP g f e.symm)
   rcases ka.1 c with rfl|c
   . exact t
   exact BJ (h.own x (kB.2 (.inr (kw _ c)))) m (fun g f e=>p x c g e.symm f)
 rcases ka.1 d with rfl|d
 . exact fun g s=>i a l r sP g s
 exact i a l b (kw _ d)
theorem CJ.grow{p:World}{base:Nat}{A B:List Ax}{r:Ax}(h:CJ w base (A++r::B))(j:Ax)(u:j.own p base)(i:w.grownBy p r.v.ownBlock)(q:j.v.ownBlock=r.v.ownBlock\/∀g,j.v.ownBlock=some g->w.heap.size<=g):CJ p base (A++j::B):=by
 obtain⟨z,C,n⟩:=lX.1 h.sep;obtain⟨t,D⟩:=l3.1 C;have lt:∀x∈A++r::B,∀g,x.v.ownBlock=some g->g<w.heap.size:=fun x c g i=>((h.own x c).lt g i).2
 refine⟨fun x c=> ?_,lX.2 ⟨z,l3.2 ⟨fun y s=> ?_,D⟩,fun a k b l=> ?_⟩⟩
 . rcases kB.1 c with c|c
   . exact BJ (h.own x (kB.2 (.inl c))) i (fun g m e=>n x c r sP g m e.symm)
   rcases ka.1 c with rfl|c
   . exact u
   exact BJ (h.own x (kB.2 (.inr (kw _ c)))) i (fun g m e=>t x c g e.symm m)
 . intro g d f;rcases q with e|e
   . exact t y s g (e▸d) f
   have:=lt y (kB.2 (.inr (kw _ s))) g f;have:=e g d;omega
 rcases ka.1 l with rfl|l
 . intro g d f;rcases q with e|e
   . exact n a k r sP g d (e▸f)
   have:=lt a (kB.2 (.inl k)) g d;have:=e g f;omega
 exact n a k b (kw _ l)
theorem CJ.snoc{base N:Nat}{L:List Ax}{r:Ax}(h:CJ w base L)(p:∀x∈L,∀g,x.v.ownBlock=some g->g<N)(f:w.ownsRow N r.e r.k r.v r.n r.xs)(i:base<=N):CJ w base (L++[r]):=by
 refine⟨fun x c=> ?_,lX.2 ⟨h.sep,l3.2 ⟨fun y q=>(by cases q),List.Pairwise.nil⟩,fun a j b l=> ?_⟩⟩
 . rcases kB.1 c with c|c
   . exact h.own x c
   rw[kM.1 c];exact BD f i
 intro g m d;rw[kM.1 l]at d;have:=p a j g m;have:=(f.lt g d).1;omega
theorem CJ.lt{base:Nat}{L:List Ax}(h:CJ w base L):∀x∈L,∀g,x.v.ownBlock=some g->base<=g/\g<w.heap.size:=fun x b g a=>(h.own x b).lt g a
theorem CJ.en{base N:Nat}{L M:List Ax}(h:CJ w base L)(d:CJ w N M)(l:∀x∈L,∀g,x.v.ownBlock=some g->g<N)(e:base<=N):CJ w base (L++M):=by
 refine⟨fun x c=> ?_,lX.2 ⟨h.sep,d.sep,fun a f b i=> ?_⟩⟩
 . rcases kB.1 c with c|c
   . exact h.own x c
   exact BD (d.own x c) e
 intro g j k;have:=l a f g j;have:=(d.lt b i g k).1;omega
theorem Uk.symm{a b:Ax}(h:Uk a b):Uk b a:=fun g h1 h2=>h g h2 h1
theorem CJ.perm{base:Nat}{L M:List Ax}(h:CJ w base L)(a:L.Perm M):CJ w base M:=⟨fun r b=>h.own r (a.mem_iff.2 b),a.pairwise h.sep Uk.symm⟩
def Ay(v:Value)(a:List Int):Ax:=⟨2,1,v,a.length,a.flatMap Ad⟩
def A3(v:Value)(a:List MI):Ax:=⟨96,4,v,a.length,a.flatMap MI.cells⟩
def A5(F:List (List Int×Value)):List Ax:=F.map fun x=>Ay x.2 x.1
def Bl(y:MF×VF):List Ax:=[Ay y.2.p y.1.params,Ay y.2.l y.1.locals,A3 y.2.c y.1.code]
def AV(G:List (MF×VF)):List Ax:=G.flatMap Bl
def Bf(s:Value)(F:List (List Int×Value)):Ax:=⟨58,1,s,F.length,F.flatMap Bi⟩
def AP(s:Value)(G:List (MF×VF)):Ax:=⟨68,4,s,G.length,G.flatMap AJ⟩
def Cd(v:Value)(a:List MC):Ax:=⟨63,2,v,a.length,a.flatMap MC.cells⟩
def BS(v:Value)(a:List MT):Ax:=⟨72,4,v,a.length,a.flatMap MT.cells⟩
theorem AO{base:Nat}{e:TypeId}{k n:Nat}{xs:List Value}(h:w.ownsRow base e k s n xs):∃a c,s=.slice a n c:=(Rd.cB h).bW
def Ab(v:VP)(F:List (List Int×Value))(a:List MC)(G:List (MF×VF))(ts:List MT)(B:List Ax):List Ax:=Bf v.r F::A5 F++(Cd v.k a::(AP v.f G::AV G++(BS v.t ts::B)))
def AH(b:Nat)(t:TypeId)(k:Nat)(xs:List Value):Ax:=⟨t,k,.slice (some ⟨b,0,none⟩) 1 1,1,xs⟩
theorem AH.new(w:World)(t:TypeId)(k:Nat)(xs:List Value)(a:xs.length=k):(AH w.heap.size t k xs).own (w.alloc (.cells xs.toArray t)) w.heap.size:=by have:=ko (base:=w.heap.size) (e:=t) (size:=k) w xs.toArray 1 lR oX (by simpa using a);simpa[AH,Ax.own]using this
theorem AH.cell{base b:Nat}{k:Nat}{xs:List Value}(h:(AH b t k xs).own w base)(i:Nat)(a:i<k):w.cell? ⟨b,i,none⟩=xs[i]?:=kW (show w.ownsRow base t k (.slice (some ⟨b,0,none⟩) 1 1) 1 xs from h) i oM
theorem CJ.box{base:Nat}{L:List Ax}(h:CJ w base L)(a:base<=w.heap.size)(t:TypeId)(k:Nat)(xs:List Value)(c:xs.length=k):CJ (w.alloc (.cells xs.toArray t)) base (L++[AH w.heap.size t k xs]):=(h.aa (Aa _ _)).snoc (fun x d g b=>(h.lt x d g b).2) (AH.new w t k xs c) a
theorem CJ.sub{base:Nat}{L M:List Ax}(h:CJ w base L)(a:M.Sublist L):CJ w base M:=⟨fun r b=>h.own r (a.subset b),h.sep.sublist a⟩
theorem AH.set{base X:Nat}{k:Nat}{xs:List Value}(h:(AH X t k xs).own w base)(i:Nat)(b:i<k)(x:Value):(AH X t k (xs.set i x)).own (w.setCell ⟨X,i,none⟩ x) base:=by have a:w.ownsRow base t k (.slice (some ⟨X,0,none⟩) 1 1) 1 xs:=h;have:=a.stored i x;exact this.1
theorem CJ.iK{base X:Nat}{A B:List Ax}{k:Nat}{xs:List Value}(h:CJ w base (A++AH X t k xs::B))(i:Nat)(a:i<k)(x:Value):CJ (w.setCell ⟨X,i,none⟩ x) base (A++AH X t k (xs.set i x)::B):=h.put (xs.set i x) (AH.set (h.own _ sP) i a x) (Ew (⟨rfl,rfl,rfl,Nat.le_refl _,fun _ _ _=>rfl⟩:w.grownBy w (some X)) i x)
abbrev gb(X:Nat)(v:VP):Ax:=AH X 29 4 [v.r,v.k,v.f,v.t]
theorem Ds(v:VP)(F:List (List Int×Value))(a:List MC)(G:List (MF×VF))(ts:List MT)(B C:List Ax):Ab v F a G ts (B++C)=Ab v F a G ts B++C:=by simp[Ab,List.append_assoc]
theorem Dt(v:VP)(F:List (List Int×Value))(a:List MC)(G:List (MF×VF))(ts:List MT)(B:List Ax):Ab v F a G ts B=Ab v F a G ts []++B:=by simp[Ab,List.append_assoc]
theorem Hh(G:List (MF×VF))(y:MF×VF):AV (G++[y])=AV G++Bl y:=by simp[AV]
theorem Ck{o:Option Nat}{g H n c:Nat}(h:o=some g\/g=H):(Value.slice (some ⟨g,0,none⟩) n c).ownBlock=o\/(Value.slice (some ⟨g,0,none⟩) n c).ownBlock=some H:=h.elim (fun e=>.inl e.symm) (fun e=>.inr (by rw[e];rfl))
end Go.Proofs.YthjbicggfnnonaaGreatDoor
