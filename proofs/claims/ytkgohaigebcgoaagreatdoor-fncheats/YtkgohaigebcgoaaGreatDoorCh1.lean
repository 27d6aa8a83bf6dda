import Derived.Test.YtkgohaigebcgoaaGreatDoorCh0
import Derived.Lib.SmallJoins
import Derived.Deep.Slices
import Derived.Deep.CutRange
namespace Go.Proofs.YtkgohaigebcgoaaGreatDoor
open Go.ChangeShapes Go.WideShapes Go.ChangeAt Go.RowKit Go.Proofs.Tryz
set_option linter.unusedVariables false
open Go.Value renaming slice → Z,bool → Ao,int → Ag
open Go renaming World → Y,Value → J,TypeId → Aj,Calls → Ai
open Option renaming none → M,some → K
open Go.IntKind renaming i64 → Af
open Go.World renaming ownsRow → Ab,alloc → Ac,setCell → Aa
open Go.RowKit renaming Below → Ah,Hid → Ae
open Go.Obj renaming cells → Ak
open Go.Ending renaming returned → Am
open List renaming flatMap → Ad
open Go.Proofs.Tryz renaming prog → Aq
set_option maxHeartbeats 1000000
variable {base b B:Nat}{e t:Aj}{s:J}{xs:List J}{Q:Exit->Act->Y->Prop}{a:Array J}{q:Prop}{α:Type}
theorem Eb.sl{w:Y}{v:VP}{p:MP}(h:Eb w v p):∃g j d e k l f1 f3,v=⟨Z g p.az j,Z d p.b8 e,Z f1 p.aC f3,Z k p.bO l⟩:=by obtain⟨g,j,q⟩:=(show∃a c,v.r=Z a p.az c from by obtain⟨_,_,b,_⟩:=h.az;exact b.aD);obtain⟨d,e,n⟩:=h.b8.aD;obtain⟨k,l,et⟩:=h.bO.aD;obtain⟨f1,f3,m⟩:=(show∃a c,v.f=Z a p.aC c from by obtain⟨_,_,b,_⟩:=h.aC;exact b.aD);obtain⟨u,t,s,y⟩:=v;simp only[]at q n et m;subst q n et m;exact⟨g,j,d,e,k,l,f1,f3,rfl⟩
theorem GU{w:Y}{g:VF}{f:MF}(h:FD w g f):∃a b c d e j,g=⟨Z a f.aP b,Z c f.aB d,Z e f.aU j⟩:=by obtain⟨a,b,k⟩:=h.1.aD;obtain⟨c,d,l⟩:=h.2.1.aD;obtain⟨e,j,m⟩:=h.2.2.aD;obtain⟨p,n,gc⟩:=g;simp only[]at k l m;subst k l m;exact⟨a,b,c,d,e,j,rfl⟩
section
variable {H:Type} {enc:Aj×J->H} {P:Program} {w:Y} {spare:Nat->Bool} {held:Bool}
theorem Cq(b off:Nat)(i:Nat):(⟨b,off,M⟩:Addr).add i=⟨b,off+i,M⟩:=by unfold Addr.add;split<;>simp_all
end
instance:Inhabited MI:=⟨⟨0,0,0,0⟩⟩
instance:Inhabited MC:=⟨⟨0,0⟩⟩
instance:Inhabited MT:=⟨⟨0,0,0,0⟩⟩
instance:Inhabited MF:=⟨⟨[],0,[],[]⟩⟩
instance:Inhabited VF:=⟨⟨.bool true,.bool true,.bool true⟩⟩
def Fa(z:Int):Prop:=(Lit.int Af z).wf=true
def RT(z:Int):Prop:=(Lit.int .u32 z).wf=true
def MI.wf(x:MI):Prop:=Fa x.op/\Fa x.a/\Fa x.b/\Fa x.c
def MC.wf(x:MC):Prop:=Fa x.type/\RT x.word
def MT.wf(x:MT):Prop:=Fa x.func/\Fa x.head/\Fa x.dT/\RT x.init
structure MF.wf(f:MF):Prop where
 aP:∀z∈f.aP,Fa z
 cu:Fa f.cu
 aB:∀z∈f.aB,Fa z
 aU:∀x∈f.aU,x.wf
structure MP.wf(p:MP):Prop where
 az:∀r∈p.az,∀z∈r,Fa z
 b8:∀x∈p.b8,x.wf
 aC:∀f∈p.aC,f.wf
 bO:∀x∈p.bO,x.wf
section
variable {H:Type} {enc:Aj×J->H} {w:Y} {spare:Nat->Bool} {held:Bool} {fuel:Nat} {cs:List J} {x:DataW H×List MemPlace}
theorem two{cs:List J}(h:cs.length=2):∃a b,cs=[a,b]:=by
 match cs,h with
 |[a,b],_=>exact⟨a,b,rfl⟩
end
theorem Bf{w:Y}{k n:Nat}(h:Ab w base e k s n xs):(s=Z M 0 0/\n=0)\/∃g c,s=Z (K ⟨g,0,M⟩) n c:=by
 rcases h.2 with h|⟨g,cap,a,rfl,b,_⟩
 . exact .inl h
 exact .inr ⟨g,cap,rfl⟩
theorem AF{w:Y}{k n:Nat}(h:Ab w base e k s n xs):∃a c,s=Z a n c:=by rcases Bf h with⟨rfl,rfl⟩|⟨g,c,rfl⟩<;>exact⟨_,_,rfl⟩
structure Kg(w:Y)(b:Nat)(x y z t:J):Prop where
 c0:w b=K x
 c1:w ⟨b,1,M⟩=K y
 c2:w ⟨b,2,M⟩=K z
 c3:w ⟨b,3,M⟩=K t
theorem Kg.lt{w:Y}{x y z t:J}(h:Kg w b x y z t):b<w.heap.size:=lT h.c0
theorem Kg.av{w c:Y}{x y z t:J}(h:Kg w b x y z t)(a:Ah w w c):Kg c b x y z t:=⟨by rw[a.cell h.lt];exact h.c0,by rw[a.cell h.lt];exact h.c1,by rw[a.cell h.lt];exact h.c2,by rw[a.cell h.lt];exact h.c3⟩
theorem Kg.new(w:Y)(x y z t:J)(ty:Aj):Kg (Ac w (Ak #[x,y,z,t] ty)) w x y z t:=by have h:=pY (base:=w) (e:=ty) (size:=4) w #[x,y,z,t] 1 lR oX sP;exact⟨h.cellAt 0 oM,h.cellAt 1 oM,h.cellAt 2 oM,h.cellAt 3 oM⟩
theorem Kg.alloc{w:Y}{x y z t:J}(h:Kg w b x y z t)(o:Obj):Kg (w.alloc o) b x y z t:=h.av ((mP _ _).alloc lR _)
theorem Al(w:Y)(o:Obj):Ah w w (w.alloc o):=(mP _ _).alloc lR _
theorem As(w:Y):Ah w w w.drew:=⟨rfl,rfl,rfl,Nat.le_refl _, λ_ _=>rfl⟩
theorem Ar{w u a:Y}(h:Ah B w u)(c:B<= ↑w)(b:Ah u u a):Ah B w a:=h.trans (b.mono (mC c h.size))
theorem Av{P:Program}{c:Code}{a:Act}{U:Y}(R:Y->Prop)(h:R U)(k:∀u,R u->Code.wp P c Q a u):Code.wp P c Q a U:=k U h
def AM(e:Ending)(q:Prop):Prop:=∃b,e=Am (Ao b)/\(b=true↔q)
theorem AM.iQ(h:q):AM (Am true) q:=⟨_,rfl,by simp[h]⟩
theorem AM.no(h:¬q):AM (Am false) q:=⟨_,rfl,by simp[h]⟩
theorem AM.of{b:Bool}(h:b=true↔q):AM (Am b) q:=⟨_,rfl,h⟩
theorem Wm(q:α->Bool)(ys:List α)(k:Nat)(x:α)(b:ys[k]?=K x)(h:(ys.take k).all q=true):(ys.take (k+1)).all q=q x:=by obtain⟨a,rfl⟩:=f7.1 b;rw[mZ a,List.all_append,h];simp
theorem Yy(q:α->Bool)(ys:List α)(x:α)(a:x∈ys)(h:q x=false):ys.all q=false:=by rw[List.all_eq_false];exact⟨x,a,by simp[h]⟩
def JC(z:Int):List J:=[Ag .u32 z]
theorem JD(z:Int):(JC z).length=1:=rfl
structure MM where
 ins:List Int
 outs:List Int
 keeps:List Int
structure VM where
 i:J
 o:J
 k:J
structure Yr(w:Y)(v:VM)(m:MM):Prop where
 ins:Rd w 1 v.i m.ins (Ad JC m.ins)
 outs:Rd w 1 v.o m.outs (Ad JC m.outs)
 keeps:Rd w 1 v.k m.keeps (Ad JC m.keeps)
structure MM.small(m:MM):Prop where
 ins:m.ins.length<=1048576
 outs:m.outs.length<=1048576
 keeps:m.keeps.length<=1048576
structure MM.wf(m:MM):Prop where
 ins:∀z∈m.ins,RT z
 outs:∀z∈m.outs,RT z
 keeps:∀z∈m.keeps,RT z
theorem Yr.av{w c:Y}{v:VM}{m:MM}(h:Yr w v m)(b:Ah B w c)(a: ↑w<=B):Yr c v m:=⟨h.ins.av b a,h.outs.av b a,h.keeps.av b a⟩
section
variable {H:Type} {enc:Aj×J->H} {w:Y} {spare:Nat->Bool} {held:Bool} {fuel:Nat} {cs:List J} {x:DataW H×List MemPlace}
theorem three{cs:List J}(h:cs.length=3):∃a b c,cs=[a,b,c]:=by
 match cs,h with
 |[a,b,c],_=>exact⟨a,b,c,rfl⟩
end
theorem ZM{xs ys:List α}{k:Nat}{x y:α}(b:xs[k]?=K x)(a:ys[k]?=K y)(h:¬x=y):¬xs=ys:=by rintro rfl;rw[b]at a;exact h (mD a)
theorem VH{xs ys:List α}{k:Nat}{x:α}(a:xs[k]?=K x)(b:ys[k]?=K x)(h:∀j,j<k->xs[j]?=ys[j]?):∀j,j<k+1->xs[j]?=ys[j]?:=by
 intro j c;by_cases e:j=k
 . subst e;rw[a,b]
 exact h j oM
theorem X8{xs ys:List α}{n:Nat}(b: ↑xs=n)(c: ↑ys=n)(h:∀j,j<n->xs[j]?=ys[j]?):xs=ys:=by
 apply nj;intro j;by_cases a:j<n
 . exact h j a
 rw[mc oM,mc oM]
theorem Fz(s s':J)(xs ys:List Int)(w:Y)(I:xs.length<=1048576)(L:ys.length<=1048576)(h:Rd w 1 s xs (Ad At xs))(p:Rd w 1 s' ys (Ad At ys)):
 Ai Aq 65 #[s,s'] w λe Q=>AM e (xs=ys)/\∃m,Q=w.drewN m:=by
 have l:Ae (Rd w 1 s xs (Ad At xs)):=h;have b:Ae (Rd w 1 s' ys (Ad At ys)):=p;obtain⟨R,c1,rfl⟩:=h.aD;obtain⟨S,c2,rfl⟩:=p.aD;clear h p;by_cases a:xs.length= ↑ys
 . rw [<-a]at b;rw[<-a];clear L;generalize q:xs.length=n at I l b;have d:Ae (↑xs=n/\ ↑ys=n):=⟨q,a▸q⟩
   clear q a;go_enter func65,ntmps65;go_wp2;go_loopw [13] (λi wr=>∃k:Nat,k<=n/\i=Ag Af k/\Ae (∀j,j<k->xs[j]?=ys[j]?)/\∃m,wr=w.drewN m) (λi _=>n-(intOf i).toNat)
   (case atStart=>exact⟨0,oM,rfl, λj V=>oM,0,rfl⟩);obtain⟨k,W,rfl,u,m,rfl⟩:=hrel;by_cases C:k<n
   . obtain⟨x,r⟩:∃x,xs[k]?=K x:=⟨_,an (by rw[d.1];exact C)⟩;obtain⟨y,t⟩:∃y,ys[k]?=K y:=⟨_,an (by rw[d.2];exact C)⟩;rcases l.2 with⟨G,_⟩|⟨g,o,c,v,A⟩
     . omega
     rcases b.2 with⟨G,_⟩|⟨T,X,c',z,B⟩
     . omega
     simp only[lU,mj]at v z;obtain⟨rfl,rfl⟩:=v;obtain⟨rfl,rfl⟩:=z;have N:=Rd.elem AE A k x r 0 _ rfl;have O:=Rd.elem AE B k y t 0 _ rfl;rw[nX,mL]at N O;have f:Ae (xs[k]?=K x/\ys[k]?=K y):=⟨r,t⟩
     clear A B r t;by_cases E:x=y
     . subst E;go_wp2;go_quiet (fail);go_wp2;go_roundw;(case rel=>exact⟨k+1,oM,by go_num,VH f.1 f.2 u,_,rfl⟩);exact oI
     go_wp2;go_quiet (fail);go_wp2;go_ret;exact⟨.no (ZM f.1 f.2 E),m+nq,World.drewN_drewN _ _ _⟩
   have H:k=n:=oM;subst H;go_wp2;go_ret;exact⟨.iQ (X8 d.1 d.2 u),_,rfl⟩
 have D:¬xs=ys:= λe=>a (by rw[e])
 clear l b;generalize xs.length=n at*;generalize ys.length=P at*;have F:Ae (¬xs=ys):=D;clear D;have U:¬(n:Int)=(P:Int):=oM;go_enter func65,ntmps65;go_wp2;go_ret;exact⟨.no F,0,rfl⟩
def AJ(f:MF)(k:Int):Int:=if k<0 then 0 else(f.aP++f.aB).getD k.toNat 0
theorem KH{f:MF}{k:Int}(h:k<0):AJ f k=0:=mE h
theorem Q1{f:MF}{k:Nat}{x:Int}(h:f.aP[k]?=K x):AJ f k=x:=by obtain⟨a,rfl⟩:=f7.1 h;unfold AJ;rw[lY oM,mI,lV,mq a,an a];rfl
theorem QZ{f:MF}{k:Nat}{x:Int}(h:f.aB[k]?=K x):AJ f ((f.aP:Int)+k)=x:=by
 obtain⟨a,rfl⟩:=f7.1 h;unfold AJ;have e:((f.aP:Int)+k).toNat= ↑f.aP+k:=oM
 rw[lY oM,mI,e,mg oM,oV,an a];rfl
theorem Q0{f:MF}{k:Int}(h:(f.aP:Int)+ ↑f.aB<=k):AJ f k=0:=by unfold AJ;rw[lY oM,mI,mc (by rw[mB];omega)];rfl
def Ay(w:Y)(b:Nat)(a:Array J)(t:Aj):Prop:=w.heap[b]?=K (Ak a t (0,0))
theorem Ay.new(w:Y)(a:Array J)(t:Aj):Ay (Ac w (Ak a t)) w a t:=pI
theorem Ay.lt{w:Y}(h:Ay w b a t):b<w.heap.size:=(mH.1 h).1
theorem Ay.av{w c:Y}(h:Ay w b a t)(d:Ah w w c):Ay c b a t:=by unfold Ay at*;rw[d.block b (mH.1 h).1];exact h
theorem Ay.cell{w:Y}(h:Ay w b a t)(i:Nat):w ⟨b,i,M⟩=a[i]?:=pD w b i a t _ h
theorem Ay.frozen{w:Y}(h:Ay w b a t)(i:Nat):w.frozen? ⟨b,i,M⟩=false:=frozen_of_row w b i a t h
theorem Ay.set{w:Y}(h:Ay w b a t)(i:Nat)(x:J):Ay (Aa w ⟨b,i,M⟩ x) b (a.setIfInBounds i x) t:=heap_setCell_same w b i a t x h
theorem Ay.other{w:Y}{c:Array J}(h:Ay w b c t){a:Addr}(d:b≠a.block)(x:J):Ay (w.setCell a x) b c t:=by unfold Ay at*;rw[oJ w a b x d];exact h
theorem Ay.grown{w f:Y}{d:Array J}(h:Ay w b d t){B k m:Nat}{v:J}{g:List J}(j:w.grownBy f v.ownBlock)(n:Ab w B e k v m g)(l:t≠e):Ay f b d t:=by
 unfold Ay at*;rw[j.block b (mH.1 h).1 ?_]
 . exact h
 intro c;rcases n.2 with⟨rfl,_⟩|⟨r,p,q,rfl,_,a,_⟩
 . cases c
 simp only[Value.ownBlock,lX]at c;subst c;rw[h]at a;simp only[lX,nz]at a;exact l a.2.1
structure Ax(w:Y) where
 u:Y
 h:Ah w w u
theorem Ax.some(w:Y):Nonempty (Ax w):=⟨⟨w,mP _ _⟩⟩
theorem AC{P:Program}{id:Nat}{a:Act}{w:Y}{l:List Oper}(d:P.follows .mixedOrders=true)(c:Region.lexB .any l.toArray=true)
 (h:wpQuiet P l.toArray (λb=>∃n:Ax w,b=n.u) (λa'=>∀b,(∃n:Ax w,b=n.u)->Q .normal a' b) l a):(Code.region id l.toArray true).wp P Q a w:=
 wp_region_quiet (C:= λb=>∃n:Ax w,b=n.u) d c ⟨⟨_,As w⟩,rfl⟩ (by simpa using h)
theorem AM.true{e:Ending}(h:AM e q)(c:q):e=Am true:=by obtain⟨b,rfl,a⟩:=h;rw[a.2 c]
theorem AM.false{e:Ending}(h:AM e q)(c:¬q):e=Am false:=by
 obtain⟨b,rfl,a⟩:=h;cases b
 . rfl
 exact absurd (a.1 rfl) c
theorem Ax.cell{w:Y}{a:Addr}{x:J}(h:w a=Option.some x)(n:Ax w):n.u a=Option.some x:=by rw[n.h.cell (lT h)];exact h
end Go.Proofs.YtkgohaigebcgoaaGreatDoor
