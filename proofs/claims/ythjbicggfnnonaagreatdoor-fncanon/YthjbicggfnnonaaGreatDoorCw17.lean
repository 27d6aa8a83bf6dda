import Derived.Test.YthjbicggfnnonaaGreatDoorCw10
import Derived.Test.YthjbicggfnnonaaGreatDoorCw15
import Derived.Deep.RegionHeld3
namespace Go.Proofs.YthjbicggfnnonaaGreatDoor
open Go.ChangeShapes Go.WideShapes Go.ChangeAt Go.RowKit
set_option linter.unusedVariables false
set_option maxHeartbeats 4000000
set_option maxRecDepth 100000
variable {w u:World}{p r o:List Value}
theorem D9(s:Value)(xs:List Int)(v:Int)(w:World)(A:xs.length<=1048576)(h:Rd w 1 s xs.length (xs.flatMap Ad)):
 Calls Tryz.prog 130 #[s,.int .i64 v] w fun e C=>Au e (v∈xs)/\C=w:=by
 have d:=Ag h;obtain⟨D,c1,rfl⟩:=h.bW;clear h;generalize q:xs.length=n at A d⊢;have f:=Ag q;clear q;go_enter Tryz.func130,Tryz.ntmps130;go_wp2;go_loopw [5] (fun i wr=>∃k:Nat,k<=n/\i=.int .i64 k/\Hid (∀j,j<k->¬xs[j]?=some v)/\wr=w) (fun i _=>n-(intOf i).toNat)
 case atStart=>exact⟨0,oM,rfl,fun j a=>oM,rfl⟩
 obtain⟨k,F,rfl,l,rfl⟩:=hrel;by_cases y:k<n
 . obtain⟨x,b⟩:∃x,xs[k]?=some x:=⟨_,an (by rw[f.o];exact y)⟩;rcases d.o.2 with⟨E,_⟩|⟨g,o,c,p,r⟩
   . omega
   simp only[ip,kU]at p;obtain⟨rfl,rfl⟩:=p;have B:=Rd.elem Ar r k x b 0 _ rfl;rw[kn,kD]at B;have m:=Ag b;clear r b;by_cases t:x=v
   . subst t;go_wp2;go_ret;exact⟨.hQ (d9 m.o),rfl⟩
   go_wp2;go_roundw;case rel=>
    refine⟨k+1,oM,by go_num,fun j a=> ?_,trivial⟩;by_cases e:j=k
    . subst e;rw[m.o];exact fun e=>t (kH e)
    exact l.o j oM
   case measure=>exact oI
 have u:k=n:=oM;subst u;go_wp2;go_ret;refine⟨.no fun z=> ?_,rfl⟩;obtain⟨j,a⟩:=lY z;exact l.o j (by have:=(d7.1 a).1;rw[f.o]at this;exact this) a
def Uc(ts:List MT)(a b n:Int):Prop:=(n=-1/\D4 ts a b=none)\/∃(k:Nat) (c:MT),n=(k:Int)/\ts[k]?=some c/\D4 ts a b=some c
theorem KT(v:VP)(p:MP)(g l:Int)(w:World)(N:p.small)(h:Ft w v p):
 Calls Tryz.prog 143 #[.agg #[v.r,v.k,v.f,v.t],.int .i64 g,.int .i64 l] w fun e T=>(∃n,e=.returned (.int .i64 n)/\Uc p.a7 g l n)/\Below w.heap.size w T:=by
 obtain⟨D,vk,C,S⟩:=v;have J:=Ag h.a7;have R:=N.a7;obtain⟨y,c1,z⟩:∃a c,S=.slice a p.a7.length c:=h.a7.bW;subst z;clear h N;have d:Hid (Below w.heap.size w (w.alloc (.cells #[D,vk,C,.slice y p.a7.length c1] 29))/\Ep (w.alloc (.cells #[D,vk,C,.slice y p.a7.length c1] 29)) w.heap.size D vk C (.slice y p.a7.length c1)):=⟨Aa _ _,Ep.new _ _ _ _ _ _⟩
 generalize M:p.a7.length=n at R J d⊢;have K:=Ag M;clear M;go_enter Tryz.func143,Tryz.ntmps143;go_wp2;go_loopw [7] (fun i wr=>∃k:Nat,k<=n/\i=.int .i64 k/\Hid (∀j c,j<k->p.a7[j]?=some c->¬(c.func=g/\c.head=l))/\Hid (Below w.heap.size w wr/\Ep wr w.heap.size D vk C (.slice y n c1))) (fun i _=>n-(intOf i).toNat)
 case atStart=>exact⟨0,oM,rfl,fun j c m=>oM,d⟩
 clear d;obtain⟨k,V,rfl,E,d⟩:=hrel;obtain⟨W,X,Y,Z⟩:=d.o.2;by_cases Q:k<n
 . obtain⟨x,A⟩:∃x,p.a7[k]?=some x:=⟨_,an (by rw[K.o];exact Q)⟩;rcases J.o.2 with⟨U,_⟩|⟨b,o,c,z,G⟩
   . omega
   simp only[ip,kU]at z;obtain⟨rfl,rfl⟩:=z;have H:=Rd.elem MT.aK G k x A 0 _ rfl;have I:=Rd.elem MT.aK G k x A 1 _ rfl;rw[<-d.o.1.cell (d5 H),kD]at H;rw[<-d.o.1.cell (d5 I)]at I;have F:=Ag A;clear G A;by_cases q:x.func=g/\x.head=l
   . obtain⟨u,B⟩:=q;have O:=Ag (NE F.o ⟨u,B⟩ fun j c m s=>E.o j c m s);rw[u]at H;rw[B]at I;clear u B;go_wp2;go_ret;exact⟨⟨_,rfl,.inr ⟨k,x,rfl,F.o,O.o⟩⟩,d.o.1⟩
   have L:Hid (∀j c,j<k+1->p.a7[j]?=some c->¬(c.func=g/\c.head=l)):=fun j c m s=>by
    by_cases e:j=k
    . subst e;rw[F.o]at s;(cases s);exact q
    exact E.o j c oM s
   by_cases u:x.func=g
   . (have B:¬x.head=l:=fun e=>q ⟨u,e⟩);clear q;go_wp2;go_roundw;(case rel=>exact⟨k+1,oM,by go_num,L.o,d.o⟩);exact oI
   clear q;go_wp2;go_roundw;(case rel=>exact⟨k+1,oM,by go_num,L.o,d.o⟩);exact oI
 have P:k=n:=oM;subst P;go_wp2;go_ret;exact⟨⟨_,rfl,.inl ⟨by go_num,ND fun j c m=>E.o j c (by have:=(d7.1 m).1;rw[K.o]at this;exact this) m⟩⟩,d.o.1⟩
theorem GA{b:Nat}{t:TypeId}{a c d:Value}(h:Aw w b #[a,c,d] t):w.cell? ⟨b,0,none⟩=some a/\w.cell? ⟨b,1,none⟩=some c/\w.cell? ⟨b,2,none⟩=some d:=⟨h.cell 0,h.cell 1,h.cell 2⟩
theorem GP(w:World)(A B:Array Value)(s t:TypeId):Aw ((w.alloc (.cells A s)).alloc (.cells B t)) w.heap.size A s/\Aw ((w.alloc (.cells A s)).alloc (.cells B t)) (w.heap.size+1) B t/\Below w.heap.size w ((w.alloc (.cells A s)).alloc (.cells B t)):=by have c:=Aa w (.cells A s);have a:=Aa (w.alloc (.cells A s)) (.cells B t);refine⟨(Aw.new w _ _).aa a,?_,Ac c lR a⟩;have b:=Aw.new (w.alloc (.cells A s)) B t;have d:(w.alloc (.cells A s)).heap.size=w.heap.size+1:=sP;rw[d]at b;exact b
theorem Rh(w:World)(A B C:Array Value)(s t r:TypeId):Aw (((w.alloc (.cells A s)).alloc (.cells B t)).alloc (.cells C r)) w.heap.size A s/\Aw (((w.alloc (.cells A s)).alloc (.cells B t)).alloc (.cells C r)) (w.heap.size+1) B t/\Aw (((w.alloc (.cells A s)).alloc (.cells B t)).alloc (.cells C r)) (w.heap.size+1+1) C r/\Below w.heap.size w (((w.alloc (.cells A s)).alloc (.cells B t)).alloc (.cells C r)):=by
 obtain⟨h1,h2,e⟩:=GP w A B s t;generalize c:(w.alloc (.cells A s)).alloc (.cells B t)=u at*;have d:u.heap.size=w.heap.size+1+1:=by rw[<-c];simp
 have a:=Aa u (.cells C r);have b:=Aw.new u C r;rw[d]at b;exact⟨h1.aa a,h2.aa a,b,Ac e lR a⟩
theorem ML.ig(a b:ML):a=b↔a.head=b.head/\a.back=b.back/\a.blocks=b.blocks:=by obtain⟨c,d,e⟩:=a;obtain⟨f,g,h⟩:=b;simp
theorem Hl(a b:ML)(v1 v2 d f:Value)(w:World)(B:a.back.length<=1048576/\a.blocks.length<=1048576)(C:b.back.length<=1048576/\b.blocks.length<=1048576)(h:Tw w (a,v1,v2))(A:Tw w (b,d,f)):
 Calls Tryz.prog 142 #[.agg #[.int .i64 a.head,v1,v2],.agg #[.int .i64 b.head,d,f]] w fun e K=>Au e (a=b)/\Below w.heap.size w K:=by
 have H:Hid (Tw w (a,v1,v2)/\Tw w (b,d,f)/\(a.back.length<=1048576/\a.blocks.length<=1048576)/\b.back.length<=1048576/\b.blocks.length<=1048576):=⟨h,A,B,C⟩
 clear h A B C;have r:=GP w #[.int .i64 a.head,v1,v2] #[.int .i64 b.head,d,f] 218 218;go_enter Tryz.func142,Tryz.ntmps142;go_upto_region 1 with fail
 refine Ao (fun u=>Aw u w.heap.size #[.int .i64 a.head,v1,v2] 218/\Aw u (w.heap.size+1) #[.int .i64 b.head,d,f] 218/\Below w.heap.size w u) r ?_
 rintro U s;clear r;have c:Hid (Aw U w.heap.size #[.int .i64 a.head,v1,v2] 218/\Aw U (w.heap.size+1) #[.int .i64 b.head,d,f] 218/\Below w.heap.size w U):=s
 clear s;obtain⟨i,n,p⟩:=GA c.o.1;obtain⟨k,l,m⟩:=GA c.o.2.1;by_cases q:a.head=b.head
 . have G:Hid (a.head=b.head):=q;rw[q]at i;clear q;go_wp2_with fail;refine(GI v1 d a.back b.back U H.o.2.2.1.1 H.o.2.2.2.1 (H.o.1.1.aa c.o.2.2 lR) (H.o.2.1.1.aa c.o.2.2 lR)).mono ?_;rintro e j ⟨⟨x,rfl,D⟩,L,y⟩;have g:Hid (Aw j w.heap.size #[.int .i64 a.head,v1,v2] 218/\Aw j (w.heap.size+1) #[.int .i64 b.head,d,f] 218/\Below w.heap.size w j):=by subst y;exact⟨c.o.1.aa (Aq _ _ _),c.o.2.1.aa (Aq _ _ _),Ac c.o.2.2 lR (Aq _ _ _)⟩
   have t:Hid (x=true↔a.back=b.back):=D;clear c i n p k l m y D;obtain⟨i,n,p⟩:=GA g.o.1;obtain⟨k,l,m⟩:=GA g.o.2.1;cases x
   . go_wp2;go_ret;exact⟨.no (fun e=>by have:=t.o.2 ((ML.ig a b).1 e).2.1;simp at this),g.o.2.2⟩
   go_wp2_with fail;refine(GI v2 f a.blocks b.blocks j H.o.2.2.1.2 H.o.2.2.2.2 (H.o.1.2.aa g.o.2.2 lR) (H.o.2.1.2.aa g.o.2.2 lR)).mono ?_;rintro e J ⟨⟨I,rfl,E⟩,M,z⟩;(have F:Hid (Below w.heap.size w J):=by subst z;exact Ac g.o.2.2 lR (Aq _ _ _));have v:Hid (I=true↔a.blocks=b.blocks):=E;clear g i n p k l m z E;go_wp2;go_ret;exact⟨.of ⟨fun e=>(ML.ig a b).2 ⟨G.o,t.o.1 (by first|rfl|trivial),v.o.1 e⟩,fun e=>v.o.2 ((ML.ig a b).1 e).2.2⟩,F.o⟩
 go_wp2;go_ret;exact⟨.no fun e=>q ((ML.ig a b).1 e).1,c.o.2.2⟩
structure TZ(k:Nat)(w u:World)(tp tr:TypeId)(p r o:List Value):Prop where
 ij:u.ownsRow w.heap.size tp k (.slice (some ⟨w.heap.size,0,none⟩) 1 1) 1 p
 gT:u.ownsRow w.heap.size tr k (.slice (some ⟨w.heap.size+1,0,none⟩) 1 1) 1 r
 loc:u.ownsRow w.heap.size tr k (.slice (some ⟨w.heap.size+1+1,0,none⟩) 1 1) 1 o
 aC:Below w.heap.size w u
 iA:w.heap.size+3<=u.heap.size
theorem TZ.of(k:Nat)(w:World)(a b:TypeId)(p r o:Array Value)(i:p.size=k)(j:r.size=k)(h:o.size=k):
 TZ k w (((w.alloc (.cells p a)).alloc (.cells r b)).alloc (.cells o b)) a b p.toList r.toList o.toList:=by
 have c:Below w.heap.size w (w.alloc (.cells p a)):=(kV _ _).alloc lR _;have c2:Below (w.alloc (.cells p a)).heap.size (w.alloc (.cells p a)) ((w.alloc (.cells p a)).alloc (.cells r b)):=(kV _ _).alloc lR _;have c3:Below ((w.alloc (.cells p a)).alloc (.cells r b)).heap.size ((w.alloc (.cells p a)).alloc (.cells r b)) (((w.alloc (.cells p a)).alloc (.cells r b)).alloc (.cells o b)):=(kV _ _).alloc lR _;have d:=ko (base:=w.heap.size) (e:=a) (size:=k) w p 1 lR oX oM;have f:=ko (base:=w.heap.size) (e:=b) (size:=k) (w.alloc (.cells p a)) r 1 sP oX oM;have g:=ko (base:=w.heap.size) (e:=b) (size:=k) ((w.alloc (.cells p a)).alloc (.cells r b)) o 1 (by simp<;>omega) oX oM;refine⟨Ai (Ai d c2 lR) c3 lR,?_,?_,(c.trans (c2.mono sP)).trans (c3.mono (by simp<;>omega)),by simp<;>omega⟩
 . have:=Ai f c3 lR;simpa using this
 simpa using g
theorem TZ.aa{k:Nat}{d:World}{b c:TypeId}(h:TZ k w u b c p r o)(a:Below u.heap.size u d):TZ k w d b c p r o:=⟨Ai h.ij a lR,Ai h.gT a lR,Ai h.loc a lR,h.aC.trans (a.mono (by have:=h.iA;omega)),jX h.iA a.size⟩
theorem TZ.set{k:Nat}{a b:TypeId}(h:TZ k w u a b p r o)(j:Nat)(x:Value):TZ k w (u.setCell ⟨w.heap.size+1+1,j,none⟩ x) a b p r (o.set j x):=⟨i9 h.ij (by simp[Value.ownBlock]<;>omega) x,i9 h.gT (by simp[Value.ownBlock]) x,(h.loc.stored j x).1,h.aC.setCell (by simp<;>omega) x,by have:=h.iA;simpa using this⟩
structure VL where
 b:Value
 k:Value
def Kw(w:World)(v:VL)(m:ML):Prop:=Tw w (m,v.b,v.k)
def ML.small(m:ML):Prop:=m.back.length<=1048576/\m.blocks.length<=1048576
def ML.fits(m:ML):Prop:=m.back.length<=9223372036854775807/\m.blocks.length<=9223372036854775807
def ML.wf(m:ML):Prop:=Cr m.head
theorem Kw.aa{c:World}{v:VL}{m:ML}(h:Kw w v m){B:Nat}(b:Below B w c)(a:w.heap.size<=B):Kw c v m:=⟨Rd.aa h.1 b a,Rd.aa h.2 b a⟩
end Go.Proofs.YthjbicggfnnonaaGreatDoor
