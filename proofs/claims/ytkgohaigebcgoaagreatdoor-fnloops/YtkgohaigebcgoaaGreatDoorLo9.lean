import Derived.Test.YtkgohaigebcgoaaGreatDoorLo8
import Derived.Deep.DeepCutAuto
import Derived.Deep.RegionHeldLaw
namespace Go.Proofs.YtkgohaigebcgoaaGreatDoor
open Go.ChangeShapes Go.WideShapes Go.ChangeAt Go.RowKit Go.Proofs.Tryz
set_option linter.unusedVariables false
open Go.Value renaming slice → Z,agg → An,tuple → Ap,int → Ag,bool → Ao
open Option renaming some → K,none → M
open Go renaming Value → J,World → Y,Calls → Ai,TypeId → Aj
open Go.IntKind renaming i64 → Af
open Go.RowKit renaming Below → Ah,Hid → Ae
open Go.Obj renaming cells → Ak
open Go.Ending renaming returned → Am
open Go.Proofs.Tryz renaming prog → Aq
open Go.World renaming ownsRow → Ab,alloc → Ac,setCell → Aa
open List renaming flatMap → Ad
set_option maxHeartbeats 8000000
set_option maxRecDepth 100000
variable {w u:Y}{e t:Aj}{i top B:Nat}{a g:MG}{v:MC}{xs:List J}{V vl:J}{r ts:List Int}{z:Int}{p:MP}{F:List (MG×J)}{s:MS}{cs:List MC}
theorem qD(w:Y):(zeroValue 89).run Aq w=.ok (.agg #[]) w:=kR
theorem Jr(b a:Nat)(D:DataW Unit)(z:Int)(w:Y)(d:Fb z)(h:AP w b a D):
 Ai Aq 135 #[.map (K b),z] w λe f=>e=Am (Go.Maps.has D (.int Af z))/\Ah w w f:=by
 have c:w.ownsMap Aq 2 (unitElem (H:=Unit)) b a D:=h;go_enter func135,ntmps135;go_wp2_with (at_lookup;refine wpList_lookup_own_unit _ rfl _ _ 164 rfl 2 89 Fe underlying164 (qD _) b a D rfl c _ _ rfl (mE underlying2 d) ?_);go_ret;exact⟨rfl,Al _ _⟩
theorem WC(b:Nat)(w:Y):
 Ai Aq 59 #[.map (K b),Z M 0 0] w λe a=>e=Am (.tuple #[])/\a=w:=by
 go_enter func59,ntmps59;go_wp2;go_loopw [8] (λi wr=>i=.int Af 0/\wr=w) (λ_ _=>0)
 case atStart=>exact⟨rfl,rfl⟩
 obtain⟨rfl,rfl⟩:=hrel;go_wp2;go_end0;exact⟨rfl,rfl⟩
def Gh(w:Y)(g o n:Nat)(E:Nat->List Nat):Prop:=∀b,b<n->∃a c,w ⟨g,o+b,M⟩=K (Z a (E b).length c)/\Lp w (Z a (E b).length c) (E b)
theorem Gh.av{e:Y}{g o n:Nat}{E:Nat->List Nat}(h:Gh w g o n E)(d:Ah w w e):Gh e g o n E:= λb j=>by obtain⟨a,c,f,i⟩:=h b j;exact⟨a,c,Az d f,i.av d⟩
def nX(c a d b:Nat):J:=.func (.func 134) #[] #[.pointer c,.pointer a,.pointer d,.pointer b]
structure PO(w u:Y)(n bm bs be bw bl:Nat)(EV V:J)(S O:List Nat):Prop where
 set:∃cnt D,AP u bm cnt D/\cnt+Br S n<=n+1/\∀x:Nat,Go.Maps.has D (.int Af (x:Int))=S.contains x
 sb:Ay u bs #[.map (K bm)] 164
 eb:Ay u be #[EV] 28
 wb:Ay u bw #[nX bs be bw bl] 219
 lb:Ay u bl #[V] 27
 list:K5 u w V O
 cq:Ah w w u
 ge: ↑w<=bm/\ ↑w<=bl
 len: ↑O+Br S n<=n
theorem PO.av{i:Y}{n e f c g d:Nat}{b V:J}{S O:List Nat}(h:PO w u n e f c g d b V S O)(a:Ah u.heap.size u i):PO w i n e f c g d b V S O:=by obtain⟨j,D,k,l,m⟩:=h.set;exact⟨⟨j,D,k.av a,l,m⟩,h.sb.av a,h.eb.av a,h.wb.av a,h.lb.av a,h.list.av a,Ar h.cq lR a,h.ge,h.len⟩
theorem Ay.gb{c:Y}{b:Nat}{a:Array J}{row:Option Nat}(h:Ay w b a t)(d:w.grownBy c row)(e:K b≠row):Ay c b a t:=by unfold Ay at*;rw[d.block b (jS.1 h).1 e];exact h
theorem MQ{b a f:Nat}{D:DataW Unit}{g:Array J}(h:AP w b f D)(d:Ay w a g t):a≠b:= λe=>by obtain⟨j,i,c,_⟩:=h;subst e;unfold Ay at d;rw[d]at c;cases c
theorem MR{base k n b d:Nat}{v:J}{D:DataW Unit}(h:Ab w base e k v n xs)(i:AP w b d D):K b≠v.ownBlock:=by
 obtain⟨m,j,f,_⟩:=i;intro a;rcases h.2 with⟨rfl,_⟩|⟨g,cap,l,rfl,_,c,_⟩
 . cases a
 simp only[Value.ownBlock,jJ]at a;subst a;rw[f]at c;cases c
theorem PO.add{l:Y}{n a s q v r f b:Nat}{m V:J}{S O:List Nat}{D:DataW Unit}(h:PO w u n a s q v r m V S O)(i:AP u a f D)(G:f+Br S n<=n+1)(A:∀x:Nat,Go.Maps.has D (.int Af (x:Int))=S.contains x)(B:b<n)(C:b∉S)(F:AP l a (f+1) (D.put (.int Af (b:Int)) (.agg [])))(c:u.grownBy l (K a)):PO w l n a s q v r m V (b::S) O:=by
 have H:=FW S n b B C;have d:∀{p:Nat} {z:Array J} {t:Aj},Ay u p z t->K p≠K a:= λk e=>MQ i k (jM e)
 refine⟨⟨_,_,F,oM, λx=> ?_⟩,h.sb.gb c (d h.sb),h.eb.gb c (d h.eb),h.wb.gb c (d h.wb),h.lb.gb c (d h.lb),DI h.list c (λg y e=>by rw[e]at y;exact MR h.list i y.symm),h.cq.grown c h.cq.size (λj E=>by cases E;exact h.ge.1),h.ge,by have:=h.len;omega⟩;rw[Ew D (lU i),A x];by_cases e:x=b
 . subst e;simp
 have:¬(x:Int)=(b:Int):=oM;simp[e,this]
theorem PO.al{n d e b f c:Nat}{a:J}{S O:List Nat}(h:PO w u n d e b f c a V S O)(o:Obj):Ab (u.alloc o) w 2 1 V O (nv O)/\ ↑w<=(u.alloc o).heap.size:=⟨h.list.av (Al _ _),jN h.cq.size (Al _ _).size⟩
theorem PO.fK{w u f:Y}{n m x v y d b:Nat}{r l:J}{S O:List Nat}(h:PO w u n m x v y d r V S O)(B:Ab f w 2 1 l (O.length+1) (nv O++[.int Af (b:Int)]))(g:(Ac u (Ak #[.int Af (b:Int)] 2)).grownBy f V.ownBlock)(Q: ↑O+1+Br S n<=n):Ay f d #[V] 27/\PO w (f.setCell d l) n m x v y d r l S (O++[b]):=by
 have G:=Al u (Ak #[b] 2);have c:=h.av G;obtain⟨z,D,A,I,L⟩:=c.set;have s1:AP f m z D:=World.ownsMap.kept A g (MR c.list A);have j:Ay f d #[V] 27:=c.lb.grown g c.list dC;have E:=c.sb.grown g c.list dC;have C:=c.eb.grown g c.list dC;have F:=c.wb.grown g c.list dC;have N:Ah w w f:=c.cq.grown g c.cq.size (λi P=>(c.list.lt i P).1);have p:∀{s:Nat} {H:Array J} {t:Aj},Ay f s H t->t≠27->s≠(⟨d,0,M⟩:Addr).block:= λk q e=>by simp only[]at e;subst e;unfold Ay at k j;rw[j]at k;simp only[jJ,lQ]at k;exact q k.2.1.symm
 refine⟨j,⟨z,D,?_,I,L⟩,E.other (p E dC) _,C.other (p C dC) _,F.other (p F dC) _,?_,?_,N.setCell h.ge.2 _,h.ge,by rw[jI,kE];exact Q⟩
 . refine World.ownsMap.kept s1 (row:=K d) ⟨rfl,rfl,rfl,by rw[lk];exact Nat.le_refl _, λk T R=>lj f _ k _ (λe=>R (by rw[e]))⟩ (λe=>MQ s1 j (jM e).symm)
 . have:=j.set 0 l;simpa using this
 unfold K5;rw[jI,kE,Mu];exact kK B (a:=⟨d,0,M⟩) (λq=>FF B j dC d q rfl) _
theorem Qr{X:Nat}{a b c x3:J}(h:Ay u X #[a,b,c,x3] t):u X=K a/\u ⟨X,1,M⟩=K b/\u ⟨X,2,M⟩=K c/\u ⟨X,3,M⟩=K x3:=⟨h.cell 0,h.cell 1,h.cell 2,h.cell 3⟩
theorem Fo(a:0<=z)(b:z<=1048576):Fb z:=WalkArith.wf_i64 oM
theorem Nw(s:J)(xs:List MI)(w:Y)(R:Bb xs)(h:Rd w 4 s xs (Ad MI.cells xs)):
 Ai Aq 54 #[s] w λe w'=>∃g cap,e=Am (sG g (lds xs xs).length cap)/\Ab w' w 2 1 (sG g (lds xs xs).length cap) (lds xs xs).length (Ad As ((lds xs xs).map Int.ofNat))/\Ah w w w':=by
 have H:=Aw h;have HG:=Aw R;have aJ:=R.1;have aK:=R.2.1;obtain⟨a1,c1,rfl⟩:=h.aP;clear h R;generalize aj:xs.length=n at H aJ aK;have E:=Aw aj;clear aj;have aS:= @run_makeMap Aq;have S0:AP (Ac w (.map #[] 0)) w 0 (.map []):=World.ownsMap_made _ _ _ _;have B0:Ah w w (Ac w (.map #[] 0)):=Al _ _;have z0:(Ac w (.map #[] 0)).heap.size= ↑w+1:=sP
 have au:(Ac (Ac w (.map #[] 0)) (Ak #[iZ 0] 2)) ⟨(w:Nat)+1,0,M⟩=K (iZ 0):=by have:=(Ay.new (Ac w (.map #[] 0)) #[iZ 0] 2).cell 0;rw[z0]at this;exact this
 have Q:Ae (AP (Ac (Ac w (.map #[] 0)) (Ak #[iZ 0] 2)) w 0 (.map [])/\Ah w w (Ac (Ac w (.map #[] 0)) (Ak #[iZ 0] 2))):=⟨S0.av (Al _ _),Ar B0 lR (Al _ _)⟩
 have f:Ae _:=au;clear S0 B0 z0 au;go_enter func54,ntmps54;go_wp2_with fail;refine(Dh w 0 ((w:Nat)+1) 1 (.map []) 0 _ (Fo oM oM) oM f oM Q.1).mono ?_;rintro e u1 ⟨rfl,s1,g1⟩;have G:Ae (∃d D,d<=1/\AP u1 w d D/\EH D xs 0/\Ah w w u1):=⟨_,_,Nat.le_refl _,s1,EH.start xs _,Q.2.grown g1 Q.2.size (λj O=>by cases O;exact Nat.le_refl _)⟩
 clear s1 g1 Q f;go_wp2;go_loopw [12] (λi wr=>∃k:Nat,k<=n/\i=iZ k/\Ae (∃d D,d<=2*k+1/\AP wr w d D/\EH D xs k/\Ah w w wr)) (λi _=>n-(intOf i).toNat)
 case atStart=>exact⟨0,oM,rfl,G⟩
 clear G;obtain⟨k,hk,rfl,G⟩:=hrel;obtain⟨d,D,aQ,aa,ax,aq⟩:=G.o;have l:=Aw (fd ax (fd aq (fd aa (lU aa))));clear aa ax aq G;by_cases aO:k<n
 . obtain⟨x,A⟩:∃x,xs[k]?=K x:=⟨_,an (by rw[E];exact aO)⟩;have P:=Aw A;rcases H.2 with⟨e0,_⟩|⟨g,o,c,e1,y⟩
   . omega
   simp only[i8,kW]at e1;obtain⟨rfl,rfl⟩:=e1;have x0:=Rd.elem MI.bW y k _ A 0 _ rfl;have x1:=Rd.elem MI.bW y k _ A 1 _ rfl;have x2:=Rd.elem MI.bW y k _ A 2 _ rfl;have x3:=Rd.elem MI.bW y k _ A 3 _ rfl;rw[<-l.2.1.cell (i7 x0),jV]at x0;rw[<-l.2.1.cell (i7 x1)]at x1;rw[<-l.2.1.cell (i7 x2)]at x2;rw[<-l.2.1.cell (i7 x3)]at x3;clear y A;have aR:(k:Int)<(n:Int):=oM;have ai:Ae (LX w wr (Ac wr (Ak #[x.op,x.a,x.b,x.c] 25)) x d D):=⟨l.2.2.1.av (Al _ _),Ay.new _ _ _,Ar l.2.1 lR (Al _ _),lg l.2.2.1⟩;(go_upto_region 6 with fail);refine Av (λu=>Ae (LX w wr u x d D)) ai ?_;intro U1 V;clear ai x0 x1 x2 x3;obtain⟨a0,m,p,r⟩:=Qr V.xb;go_wp2_with fail;refine(CD x _).mono ?_;rintro e T ⟨rfl,b2⟩;have v:=Aw (V.av b2);clear b2 a0 m p r V;cases hgo:Bv x
   . obtain⟨a0,m,p,r⟩:=Qr v.xb;go_wp2_with fail;refine(CD x _).mono ?_;rintro e t ⟨rfl,b3⟩;have I:=Aw (v.av b3);clear b3 a0 m p r v;rw[hgo];obtain⟨a0,m,p,r⟩:=Qr I.xb;by_cases S:x.op=29
     . rw[S]at a0;have f:Ae ((Ac t (Ak #[iZ ((k:Int)+1)] 2)) t=K (iZ ((k:Int)+1))/\LX w wr (Ac t (Ak #[iZ ((k:Int)+1)] 2)) x d D/\¬(t:Nat)= ↑w):=⟨(Ay.new t #[iZ ((k:Int)+1)] 2).cell 0,I.av (Al _ _),by have:=lg I.set;omega⟩
       go_wp2_with fail;refine(Dh w d t 1 D ((k:Int)+1) _ (Fo oM oM) oM f.1 f.2.2 f.2.1.set).mono ?_;rintro e u4 ⟨rfl,B,L⟩;have F:Ae (∃d D,d<=2*(k+1)+1/\AP u4 w d D/\EH D xs (k+1)/\Ah w w u4):=⟨_,_,oM,B,l.1.ret l.2.2.2 P hgo S,(f.2.1.grown B L).cq⟩
       clear B L a0 m p r;go_wp2;go_roundw;(case rel=>exact⟨k+1,oM,by go_num,F⟩);exact oI
     (have aT:(x.op==29)=false:=by simpa using S);have F:Ae (∃d D,d<=2*(k+1)+1/\AP t w d D/\EH D xs (k+1)/\Ah w w t):=⟨_,_,oM,I.set,l.1.none P hgo S,I.cq⟩
     go_wp2;go_roundw;(case rel=>exact⟨k+1,oM,by go_num,F⟩);exact oI
   obtain⟨aI,y⟩:=HG.2.2 k x P hgo;rw[E]at y;obtain⟨a0,m,p,r⟩:=Qr v.xb;have f:=Aw (fd ((Ay.new T #[x.c] 2).cell 0) (fd ((v.av (Al _ _)):LX w wr (Ac T (Ak #[x.c] 2)) x d D) ((by have:=lg v.set;omega):¬(T:Nat)= ↑w)))
   go_wp2_with fail;refine(Dh w d T 1 D x.c _ (Fo oM oM) oM f.1 f.2.2 f.2.1.set).mono ?_;rintro e u4 ⟨rfl,B,L⟩;have W:=Aw (f.2.1.grown B L);clear B L a0 m p r f v;obtain⟨a0,m,p,r⟩:=Qr W.xb;go_wp2_with fail;refine(CD x _).mono ?_;rintro e C ⟨rfl,b5⟩;have X:=Aw (W.av b5);clear b5 a0 m p r W;rw[hgo];obtain⟨a0,m,p,r⟩:=Qr X.xb;have f:Ae ((Ac C (Ak #[.int Af ((k:Int)+1)] 2)).cell? C=K (.int Af ((k:Int)+1))/\LX w wr (Ac C (Ak #[.int Af ((k:Int)+1)] 2)) x (d+1) (D.put (.int Af x.c) (.agg []))/\¬(C:Nat)= ↑w):=⟨(Ay.new C #[.int Af ((k:Int)+1)] 2).cell 0,X.av (Al _ _),by have:=lg X.set;omega⟩
   go_wp2_with fail;refine(Dh w (d+1) C 1 (D.put (.int Af x.c) (.agg [])) ((k:Int)+1) _ (Fo oM oM) oM f.1 f.2.2 f.2.1.set).mono ?_;rintro e u6 ⟨rfl,s6,g6⟩;have F:Ae (∃d D,d<=2*(k+1)+1/\AP u6 w d D/\EH D xs (k+1)/\Ah w w u6):=⟨_,_,oM,s6,l.1.goes l.2.2.2 P hgo aI,(f.2.1.grown s6 g6).cq⟩
   clear s6 g6 a0 m p r;go_wp2;go_roundw;(case rel=>exact⟨k+1,oM,by go_num,F⟩);exact oI
 obtain rfl:k=n:=oM;go_wp2_with (at_delete;refine wpList_delete_own _ rfl _ _ 164 2 rfl 89 Fe underlying164 _ w d D rfl l.2.2.1 _ _ rfl (mE underlying2 (Fo (z:=(k:Int)) oM oM)) ?_;intro w1 aE aG);have U:=Aw (fd aE (l.2.1.grown aG.grown l.2.1.size (λj O=>by cases O;exact Nat.le_refl _)));clear aE aG;go_wp2_with fail;refine(Ja w d _ _ oM U.1).mono ?_;rintro e u9 ⟨g9,aH,zs,rfl,ae,aF,aA,b9⟩;have ez:zs=(lds xs k).map Int.ofNat:=by
  refine Jb _ _ aF (mH.2 ((DG xs k).imp (λh=>by simpa using h))) λz=> ?_
  rw[aA,kI];constructor
  . rintro⟨h1,N⟩;by_cases e:z=(k:Int)
    . subst e;rw[Go.Maps.has_del_same]at N;cases N
    rw[Go.Maps.has_del_other (λq=>e (by cases q;rfl)),l.1 z]at N;simp only[ky,lC]at N;have:=N.2;rw[<-E]at this;have aM:=ZJ xs _ HG this;rw[E]at aM;exact⟨z.toNat,(Dk _ _ _).2 ⟨oM,this⟩,oT⟩
  rintro⟨j,O,rfl⟩;obtain⟨j1,j2⟩:=(Dk _ _ _).1 O;rw[E]at j2;refine⟨Fo sP oT,?_⟩;rw[Go.Maps.has_del_other (λq=>by cases q;omega),l.1];simp[j2]
 subst ez;rw[kC]at ae;have HE:=Aw (fd (BI ae U.2.size) (Ar U.2 lR b9));clear ae aF aA b9;rw[kC];go_wp2;go_ret;exact⟨g9,aH,rfl,HE.1,HE.2⟩
structure Iu(w u:Y)(v:VP)(g:VF)(f:MF)(op a b c:Int):Prop where
 sb:Ay u w #[v.r,v.k,v.f,v.t,g.p,f.cu,g.l,g.c] 109
 ib:Ay u ((w:Nat)+1) #[op,a,b,c] 25
 cq:Ah w w u
theorem Iu.of(w:Y)(v:VP)(g:VF)(f:MF)(op a b c:Int):Iu w (Ac (Ac w (Ak #[v.r,v.k,v.f,v.t,g.p,f.cu,g.l,g.c] 109)) (Ak #[op,a,b,c] 25)) v g f op a b c:=by
 have e:=Al w (Ak #[v.r,v.k,v.f,v.t,g.p,f.cu,g.l,g.c] 109);have i:=Ay.new w #[v.r,v.k,v.f,v.t,g.p,f.cu,g.l,g.c] 109;generalize m:Ac w (Ak #[v.r,v.k,v.f,v.t,g.p,f.cu,g.l,g.c] 109)=d at e i⊢;have n:(d:Nat)= ↑w+1:=by rw[<-m];simp
 have h:=Al d (Ak #[op,a,b,c] 25);have j:=Ay.new d #[op,a,b,c] 25;rw[n]at j;exact⟨i.av h,j,Ar e lR h⟩
def DM(w:Y)(ts:List Int)(e:Ending)(a:Y):Prop:=∃s,e=Am s/\Rd a 1 s ts (Ad As ts)/\Ah w w a
theorem G9(a:Ah w w u)(ts:List Int)(n c:Nat)(d:n= ↑ts):DM w ts (Am (Z u n c)) (Ac u (Ak (Ad As ts).toArray 2)):=by subst d;refine⟨_,rfl,⟨by rw[AV As 1 AE],.inr ⟨u,0,c,rfl, λj v b=> ?_⟩⟩,Ar a lR (Al _ _)⟩;rw[mU _ u (0+j) _ _ _ (Uq u (Ad As ts).toArray 2),kT];simpa using b
theorem Ub(a:Ah w w u):DM w [] (Am (Z M 0 0)) u:=⟨_,rfl,⟨rfl,.inl ⟨rfl,_,_,rfl⟩⟩,a⟩
theorem Fg(v:VP)(p:MP)(g:VF)(f:MF)(op c:Int)(q z:Nat)(r:List Int)(T:Int)(w:Y)(O:p.small)(hr:OT w v.r p.az)(b:p.az[q]?=K r)(C:r[z]?=K T):
 Ai Aq 155 #[An #[v.r,v.k,v.f,v.t,g.p,f.cu,g.l,g.c],An #[op,q,z,c]] w λe w'=>e=Am T/\Ah w w w':=by
 obtain⟨xs,A,I,L⟩:=hr;have aa:=(f7.1 b).1;have ae:=(f7.1 C).1;have aq:=O.az;have aj:=O.region r (hC b);obtain⟨⟨r',yv⟩,d⟩:∃x,xs[q]?=K x:=⟨_,an (by rw[<-kC (f:=Prod.fst),A];exact aa)⟩;have y:=Ga A d;rw[b]at y;obtain rfl:r=r':=jM y;have B:=L _ (hC d);simp only[]at B;rcases I.2 with⟨e0,_⟩|⟨a,j,c1,H,N⟩
 . omega
 have i:=Rd.elem DB N q _ d 0 _ rfl;rw[lJ,jV]at i;simp only[]at i;obtain⟨gk,ok,ck,e,Q⟩:=ZW B rfl C;subst e;obtain⟨vr,s,m,vt⟩:=v;simp only[]at H;subst H;have ai:(q:Int)<(p.az:Int):=oM;have au:(z:Int)<(r:Int):=oM;have G:Ae (Iu w (Ac (Ac w (Ak #[Z (K ⟨a,j,M⟩) p.az c1,s,m,vt,g.p,f.cu,g.l,g.c] 109)) (Ak #[op,q,z,c] 25)) ⟨Z (K ⟨a,j,M⟩) p.az c1,s,m,vt⟩ g f op q z c):=Iu.of w ⟨Z (K ⟨a,j,M⟩) p.az c1,s,m,vt⟩ g f op q z c;clear N I L B d y A b C;go_enter func155,ntmps155;go_upto_region 1 with fail
 refine Av (λu=>Ae (Iu w u ⟨Z (K ⟨a,j,M⟩) p.az c1,s,m,vt⟩ g f op q z c)) G ?_;rintro U E1;clear G;have F:=E1.sb.cell 0;have D:=E1.ib.cell 1;have E:=E1.ib.cell 2;simp only[i5,f8,i6]at F D E;have P:=Au E1.cq i;have R:=Au E1.cq Q;have inst:=Ax.some U;have W:= λn:Ax U=>Ax.cell F n
 have X:= λn:Ax U=>Ax.cell D n
 have J2:= λn:Ax U=>Ax.cell E n
 have J3:= λn:Ax U=>Ax.cell P n
 have J4:= λn:Ax U=>Ax.cell R n
 clear i Q;go_wp2_with fail;refine AD kR kR ?_;repeat(go_big_quiet_step (fail))
 refine wpQuiet_nil ?_;rintro ax ⟨S,rfl⟩;have V:Ae (Ah w w S.u):=Ar E1.cq lR S.h;clear W X J2 J3 J4 inst F D E P R;go_wp2_with fail;go_ret;exact⟨rfl,V⟩
theorem RD(g:VF)(f:MF)(w:Y):Ai Aq 156 #[An #[g.p,f.cu,g.l,g.c]] w (DM w (Bj f)):=by
 have b:Ae (Ay (Ac w (Ak #[g.p,f.cu,g.l,g.c] 34)) w #[g.p,f.cu,g.l,g.c] 34/\Ah w w (Ac w (Ak #[g.p,f.cu,g.l,g.c] 34))):=⟨Ay.new _ _ _,Al _ _⟩
 by_cases a:f.cu=0
 . (have h:(f.cu==0)=true:=by simpa using a);(have d:Ae (Bj f=[]):=by unfold Bj;rw[jP a];exact rfl);rw[d];clear a;go_enter func156,ntmps156;(go_upto_region 1 with fail);refine Av (λu=>Ae (Ay u w #[g.p,f.cu,g.l,g.c] 34/\Ah w w u)) b ?_
   rintro U E1;clear b;have e:=E1.1.cell 1;simp only[i5,f8,i6]at e;go_wp2_with fail;go_ret;exact Ub E1.2
 have h:(f.cu==0)=false:=by simpa using a
 have d:Ae (Bj f=[f.cu]):=by unfold Bj;rw[jH a];exact rfl
 rw[d];clear a;go_enter func156,ntmps156;go_upto_region 1 with fail
 refine Av (λu=>Ae (Ay u w #[g.p,f.cu,g.l,g.c] 34/\Ah w w u)) b ?_
 rintro U E1;clear b;have e:=E1.1.cell 1;simp only[i5,f8,i6]at e;go_wp2_with fail;go_ret;exact G9 E1.2 [f.cu] 1 1 rfl
theorem Xx{f:MF}{x:MI}(B:AX p 0)(c:AW p f x):∀t∈Bh p f x,t=0->x.op=23:=by
 have h:=B.parts;have one:∀t:Int,t≠0->(∀u∈[t],u=0->x.op=23):= λt ht u w e=>by simp only[jU]at w;exact absurd (w.symm.trans e) ht
 unfold Bh;by_cases c1:x.op=1
 . rw[jP c1];obtain⟨q,z,d,b⟩:=c.const c1;have A:=h.2.1.2 q (f7.1 b).1 z b;(have g:C8 p.b8 x.a.toNat=z:=by unfold C8;rw[d,i9,b];rfl);rw[g];exact one _ (CU A.1)
 rw[jH c1];by_cases c2:x.op=2
 . rw[jP c2];exact one _ (c.jg c2)
 rw[jH c2];by_cases c4:x.op=4\/x.op=6
 . rw[jP c4];obtain⟨q,z,r,d,b,g,y⟩:=c.cell h.1.1 oM;have:=(h.1.2 q (f7.1 g).1 r g).2;exact one _ (CU (lX.1 this _ (hC y)))
 rw[jH c4];by_cases v:8<=x.op/\x.op<=16
 . rw[jP v];exact one _ (CU (c.type oM))
 rw[jH v];by_cases m:x.op=17\/x.op=18
 . rw[jP m];exact one _ dC
 rw[jH m];by_cases n:x.op=19
 . rw[jP n];exact one _ dC
 rw[jH n];by_cases s:x.op=20\/x.op=21
 . rw[jP s];exact one _ dC
 rw[jH s];by_cases i:x.op=22
 . rw[jP i];exact one _ (CU (c.conv i).2)
 rw[jH i];by_cases j:x.op=23
 . rw[jP j];exact λ_ _ _=>j
 rw[jH j];by_cases k:x.op=28
 . rw[jP k];obtain⟨q,fq,d,b⟩:=c.callee k;have C:Cj fq:=h.2.2.1.2.2.1 q (f7.1 b).1 fq b;rw[d,i9,b];simp only[];unfold Bj;by_cases l:fq.cu=0
   . rw[jP l];exact λt ht=>(by cases ht)
   rw[jH l];exact one _ l
 rw[jH k];exact λt ht=>(by cases ht)
def jf(I:List Nat)(b:Nat):Nat:=I.getD b 0
def cf(C:List Int)(c:Nat):Int:=C.getD c 0
def Js(P:Nat->Bool)(n b:Nat):Prop:=b<n/\P b=true
theorem nT{I:List Nat}{b t:Nat}(h:I[b]?=K t):jf I b=t:=by unfold jf;rw[jQ,h];rfl
theorem KG{C:List Int}{b:Nat}{t:Int}(h:C[b]?=K t):cf C b=t:=by unfold cf;rw[jQ,h];rfl
theorem Hn{C:List Int}{k b:Nat}{c y:Int}(h:C[k]?=K y):cf (C.set k c) b=if b=k then c else cf C b:=by
 have a:=(f7.1 h).1;unfold cf;rw[jQ,jQ,List.getElem?_set];by_cases e:b=k
 . subst e;simp[a]
 rw[jH (Ne.symm e),jH e]
section
variable {E:Nat->List Nat} {n:Nat} {P:Nat->Bool} {I:List Nat} {C:List Int} {f:Nat} {bd0 bd:Bool} {L L0:List Int} {O eb:List Nat} {ag:Bool} {m b q x:Nat}
end
theorem Uo{b:Int}{fs:List MG}(h:Cp b fs):∀g∈fs,b<=g.base:=by
 induction fs generalizing b with
 |nil=>intro g a;cases a
 | cons x r c=>
   intro g a;rcases jK.1 a with rfl|a
   . exact h.1
   exact Int.le_trans h.1 (c h.2 g a)
theorem SA(k:Nat)(a:k<30):0<=B4 k/\B4 k<=8:=by
 have h:∀k:Fin 30,0<=B4 (k.val:Int)/\B4 (k.val:Int)<=8:=by decide+kernel
 exact h ⟨k,a⟩
theorem N1{op:Int}(a:0<=op)(c:op<=29):0<=B4 op/\B4 op<=8:=by obtain⟨k,b⟩:=jW a;subst b;exact SA k oM
theorem ZG{y:MG×J}(a: ↑F=top+1)(b:F[top]?=K y):(F.map Prod.fst).getLast?=K y.1:=by rw[List.getLast?_eq_getElem?,kC,a,Nat.add_sub_cancel,jY,b];rfl
theorem pe{s:J}{is:List MI}{q:Nat}{x:MI}(h:Rd w 4 s is (Ad MI.cells is))(d:is[q]?=K x):∃gk ok ck,s=Z (K ⟨gk,ok,M⟩) is ck/\w ⟨gk,ok+q*4,M⟩=K ↑x.op/\w ⟨gk,ok+q*4+1,M⟩=K ↑x.a/\w ⟨gk,ok+q*4+2,M⟩=K ↑x.b/\w ⟨gk,ok+q*4+3,M⟩=K ↑x.c:=by
 have g:=(f7.1 d).1;rcases h.2 with⟨e,_⟩|⟨gk,ok,ck,e,f⟩
 . omega
 exact⟨gk,ok,ck,e,Rd.elem MI.bW f q x d 0 _ rfl,Rd.elem MI.bW f q x d 1 _ rfl,Rd.elem MI.bW f q x d 2 _ rfl,Rd.elem MI.bW f q x d 3 _ rfl⟩
theorem Eo{y:MG×J}(a: ↑F=top+1)(c:F[top]?=K y)(h:MG->MG):CQ (F.map Prod.fst) h=(F.set top (h y.1,y.2)).map Prod.fst:=by
 unfold CQ;rw[kC,a,Nat.add_sub_cancel,List.map_set];apply lN;intro j;rw[List.getElem?_modify,List.getElem?_set];by_cases b:top=j
 . subst b;obtain⟨_,rfl⟩:=f7.1 c;simp[a]
 cases (List.map Prod.fst F)[j]?<;>simp[b]
theorem PK{f:MF}{x:MI}(h:AX p 0):(AA p f x).length<=8:=by
 unfold AA;repeat' split
 all_goals first|(rename_i g a;exact(h.parts.2.2.1.2.2.1 _ (f7.1 a).1 g a).par)|simp
theorem ZX{a:Option Addr}{c:Nat}(h:cs.length=0):Rd w 2 (Z a 0 c) 0 (Ad MC.cells cs):=by obtain rfl:=jR h;exact⟨rfl,.inl ⟨rfl,_,_,rfl⟩⟩
theorem C7{a:Option Addr}{c m:Nat}(b:m=0)(h: ↑cs=m):Rd w 2 (Z a m c) m (Ad MC.cells cs):=by subst b;exact ZX h
theorem T2{g n c c' kl m:Nat}{K:List MC}(h:Rd w 2 (Z g n c) n (Ad MC.cells K))(r: ↑K=n)(q:n=kl+m):Rd w 2 (Z (some ⟨g,kl*2,M⟩) m c') m (Ad MC.cells (K.drop kl)):=by
 refine⟨by rw[AV MC.cells 2 MC.bW,kZ];congr 1;omega,?_⟩;rcases h.2 with⟨e,_⟩|⟨p,s,l,e,i⟩
 . exact .inl ⟨oM,_,_,by rw[show m=0 from oM]⟩
 simp only[i8,jJ,lT,kW,mD]at e;obtain⟨⟨rfl,rfl⟩,_⟩:=e;refine .inr ⟨g,kl*2,c',rfl, λj u k=> ?_⟩;have:(Ad MC.cells K)[kl*2+j]?=some u:=by
  rw[<-k];have b:Ad MC.cells (K.drop kl)=(Ad MC.cells K).drop (kl*2):=by (have d:Ad MC.cells K=Ad MC.cells (K.take kl)++Ad MC.cells (K.drop kl):=by rw[<-kJ,lS]);rw[d];(have f:(Ad MC.cells (K.take kl)).length=kl*2:=by rw[AV MC.cells 2 MC.bW,kp,Nat.min_eq_left oM]);rw[<-f,List.drop_left]
  rw[b,mh]
 have a:=i _ _ this;rw[kT]at a;exact a
theorem Vq(h:F[top]?=K (a,vl))(z:Int):Bm (F.set top ({a with at_:=z},vl))=Bm F:=by rw[Gw];have e:=BE h;exact RJ _ _ _ e
theorem YC{C:List (J×List MC)}{K:List MC}{c n co k:Int}{f:MF}{x:MI}{b:Nat}(d:(A3 0 false c n C K F).dk.getLast?=some a)(e:p.aB[a.func.toNat]?=some f)(g:a.at_=(b:Int))(j:f.aU[b]?=some x)(h:B4 x.op=co)(ht:Do p f a (A3 0 false c n C K F) x=k)(i:k≠0):Bf p (A3 0 false c n C K F) (A3 k false (c+co) (n+1) C K F):=by subst h;exact Bf.trap d e oM (by rw[g,i9];exact j) ht i
theorem YA{C:List (J×List MC)}{K:List MC}{c n co:Int}{f:MF}{x:MI}{b:Nat}(d:(A3 0 false c n C K F).dk.getLast?=some a)(e:p.aB[a.func.toNat]?=some f)(g:a.at_=(b:Int))(j:f.aU[b]?=some x)(h:B4 x.op=co)(ht:Do p f a (A3 0 false c n C K F) x=0)(i:s=Eb p f a (A3 0 false (c+co) (n+1) C K F) x):Bf p (A3 0 false c n C K F) s:=by subst h i;exact Bf.does d e oM (by rw[g,i9];exact j) ht
theorem We{C:List (J×List MC)}{K:List MC}{c n:Int}{f:MF}{x:MI}{b:Nat}(d:x.op=29)(e:a.base=(b:Int)):Do p f a (A3 0 false c n C K F) x=if(K.drop b).map MC.type=Bj f then 0 else 6:=by unfold Do;simp only[d,e,i9,if_true,A3]
theorem Xh{K:List MC}{b m:Nat}(a:b<= ↑K)(c:m<= ↑K-b):(K.drop b).drop ((K.drop b).length-m)=K.drop (↑K-m):=by
 rw[List.drop_drop,kZ];congr 1
 omega
theorem RQ{C:List (J×List MC)}{K:List MC}{c n:Int}{e:MG}{f:MF}{x:MI}{b:Nat}(g:x.op≠29)(h:e.base=(b:Int))(i:b<= ↑K)(j:AA p f x=ts):Do p f e (A3 0 false c n C K F) x=if ↑K-b< ↑ts then 1 else if Bw (K.drop (K.length-↑ts)) ts=false\/(x.op=27/\AJ f x.a≠3)then 2 else if x.op=28 then(if F.length<32 then 0 else 5)else if 64< ↑K-↑ts+El x then 3 else 0:=by
 subst j;unfold Do;simp only[h,i9,A3,jH g,kC];rw[kZ];by_cases d: ↑K-b<(AA p f x).length
 . rw[jP d,jP d]
 rw[jH d,jH d];have:=Xh (m:=(AA p f x).length) i oM;rw[kZ]at this;rw[this];rfl
theorem Y9{f:MF}{C:List (J×List MC)}{K:List MC}{c n:Int}{x:MI}(a:x.op=29):A3 0 (decide (F.length=1)) c n C K (F.take (F.length-1))=Eb p f g (A3 0 false c n C K F) x:=by simp[Eb,a,A3];rw[List.dropLast_eq_take,kC]
theorem W8{f fq:MF}{C:List (J×List MC)}{K ar:List MC}{vv:J}{c n:Int}{x:MI}{q top:Nat}(j:x.op=28)(r:x.a=(q:Int))(m:p.aB[q]?=some fq)(b: ↑ar=(AA p f x).length)(l:K.drop (K.length-↑ar)=ar)(k: ↑F=top+1)(s:F[top]?=some (g,vl)):A3 0 false c n C (K.take (K.length-↑ar)) (F.set top ({g with at_:=g.at_+1},vl)++[(⟨q,0,((K.length-↑ar:Nat):Int),ar++A9 fq.a7⟩,vv)])=Eb p f g (A3 0 false c n C K F) x:=by
 have d:(A3 0 false c n C K F).stack.drop ((A3 0 false c n C K F).stack.length-(AA p f x).length)=ar:=by rw[<-b];exact l
 have e:(A3 0 false c n C K F).stack.take ((A3 0 false c n C K F).stack.length-(AA p f x).length)=K.take (K.length-↑ar):=by rw[<-b];rfl
 have i:CQ (A3 0 false c n C K F).dk (λh=>{h with at_:=g.at_+1})=(F.set top ({g with at_:=g.at_+1},vl)).map Prod.fst:=Eo k s _;simp only[Eb,d,e,i,j];simp[A3,r,m,A9]
theorem PP{b:List MC}{t:Int}(h:DC b ts)(ht:ts[i]?=K t):∃v,b[i]?=K v/\v.type=t:=by
 have a:(b.map MC.type)[i]?=K t:=by rw[h.1];exact ht
 rw[jY]at a;cases hv:b[i]? with
 |none=>rw[hv]at a;cases a
 |some v=>rw[hv]at a;exact⟨v,rfl,jM a⟩
theorem PN{l:List MC}(h:l[i]?=K v):C8 l i=v:=by unfold C8;rw[h];rfl
theorem M0{b:List MC}(h:DC b ts)(c:CI v)(ht:ts[i]?=K v.type):DC (b.set i v) ts:=by
 refine⟨?_, λq a=> ?_⟩
 . rw[List.map_set,h.1];apply lN;intro j;rw[List.getElem?_set];split
   . rename_i e;subst e;split
     . exact ht.symm
     rename_i d;rw[kO oM]
   rfl
 rcases lP a with a|rfl
 . exact h.2 q a
 exact c
theorem N0(h:IP p s)(hw:s.wf){a b:Nat}(u:p.az[a]?=K r)(n:Jj v)(ht:r[b]?=K v.type):
 (∀(i:Nat) c q,(En s.cells a b v)[i]?=K c->p.az[i]?=K q->DC c q)/\(∀c∈En s.cells a b v,∀z∈c,z.wf):=by
 unfold En;refine⟨λi c q d k=> ?_, λc d z g=> ?_⟩
 . rw [List.getElem?_modify]at d;cases e:s.cells[i]? with
   |none=>rw[e]at d;cases d
   | some c0=>
     rw[e]at d;have m:=h.cells i c0 q e k;simp only[Option.map_eq_map,lw,jJ]at d;split at d
     . rename_i t;subst t;rw[u]at k;obtain rfl:=jM k;rw[<-d];exact M0 m n.1 ht
     rw[<-d];exact m
 obtain⟨j,f⟩:=List.mem_iff_getElem?.1 d;rw[List.getElem?_modify]at f;cases e:s.cells[j]? with
 |none=>rw[e]at f;cases f
 | some c0=>
   rw[e]at f;simp only[Option.map_eq_map,lw,jJ]at f;have l:=hw.cells c0 (hC e);split at f
   . rw[<-f]at g;rcases lP g with g|rfl
     . exact l z g
     exact n.2
   rw[<-f]at g;exact l z g
theorem TG(h:IP p s)(hw:s.wf){a b:Nat}{t:Int}(f:p.az[a]?=K r)(ht:r[b]?=K t):∃v,cellAt s a b=v/\Jj v/\v.type=t:=by
 have g:a<s.cells.length:=by rw[h.three];exact(f7.1 f).1
 have c:=an g;have e:=h.cells a _ r c f;obtain⟨v,d,i⟩:=PP e ht;refine⟨v,?_,⟨e.2 v (hC d),hw.cells _ (hC c) v (hC d)⟩,i⟩;unfold cellAt;rw[c];exact PN d
theorem masked{a b c:Nat}{t:Int}(k:p.az[a]?=K r)(h:a<=2)(ht:r[b]?=K t)(i:OR p a b c)(j:Nat):r[b+(j &&& c)]?=K t:=by
 have d:=i.one (j &&& c) (by have:= @Nat.and_le_right j c;omega);have f:CJ p a b=t:=by rw[Ei h k,jQ,ht];rfl
 have l:CJ p a ((b:Int)+((j &&& c:Nat):Int))=r.getD (b+(j &&& c)) 0:=by rw[show(b:Int)+((j &&& c:Nat):Int)=((b+(j &&& c):Nat):Int)from oM];exact Ei h k
 rw[l,f,jQ]at d;have g:=i.there;rw[f]at g;cases e:r[b+(j &&& c)]? with
 |none=>rw[e]at d;exact absurd d.symm g
 |some z=>rw[e]at d;exact congrArg K d
theorem Tt{f:MF}{x:MI}(h:Do p f g s x=0)(k:0<=g.base)(l:g.base<=(s.stack:Int))(i:x.op≠29):
 (AA p f x).length+g.base.toNat<= ↑s.stack/\Bw (s.stack.drop (↑s.stack-(AA p f x).length)) (AA p f x)=true/\(x.op=27->AJ f x.a=3)/\(x.op=28->s.dk.length<32)/\(x.op≠28-> ↑s.stack-(AA p f x).length+El x<=64):=by
 unfold Do at h;simp only[]at h;rw[jH i]at h;split at h
 . cases h
 rename_i j;rw[kZ]at j;split at h
 . cases h
 rename_i b;have c:(s.stack.drop g.base.toNat).drop ((s.stack.drop g.base.toNat).length-(AA p f x).length)=s.stack.drop (↑s.stack-(AA p f x).length):=by rw[List.drop_drop,kZ];congr 1;omega
 rw[c]at b;refine⟨oM,by cases e:Bw (s.stack.drop (↑s.stack-(AA p f x).length)) (AA p f x);exact absurd (.inl e) b;rfl, λe=>kV λd=>b (.inr ⟨e,d⟩), λe=> ?_, λe=> ?_⟩
 . rw[jP e]at h;split at h
   . assumption
   cases h
 rw[jH e]at h;split at h
 . cases h
 omega
section
variable {E:Nat->List Nat} {D:Nat->Nat->Bool} {n h b k y:Nat}
def Du(E:Nat->List Nat)(D:Nat->Nat->Bool)(h b k:Nat):List Nat:=(((E b).take k).filter λx=>decide (x=h)&&D h b).map λ_=>b
theorem LH(E:Nat->List Nat)(D:Nat->Nat->Bool)(b h:Nat):AO E D (b+1) h=AO E D b h++Du E D h b (E b).length:=by unfold AO Du;rw[mR,kJ];simp
theorem Sl(E:Nat->List Nat)(D:Nat->Nat->Bool)(h b:Nat):Du E D h b 0=[]:=by simp[Du]
theorem Un(d:(E b)[k]?=K h)(a:D h b=true):Du E D h b (k+1)=Du E D h b k++[b]:=by obtain⟨c,e⟩:=f7.1 d;unfold Du;rw[kN c,lq,k8,e];simp[a]
theorem Qq(d:(E b)[k]?=K y)(c:¬(y=h/\D h b=true)):Du E D h b (k+1)=Du E D h b k:=by
 obtain⟨a,e⟩:=f7.1 d;unfold Du;rw[kN a,lq,k8,e];have:(decide (y=h)&&D h b)=false:=by
  cases q:D h b with
  |false=>simp
  |true=>simp;exact λe=>c ⟨e,q⟩
 simp[this]
theorem NX(E:Nat->List Nat)(D:Nat->Nat->Bool)(h b k:Nat):(Du E D h b k).length<=(E b).length:=by unfold Du;rw[kC];refine jN (mO _ _) ?_;rw[kp];omega
theorem NW(a:∀b,(E b).length<=2)(D:Nat->Nat->Bool)(h b:Nat):(AO E D b h).length<=2*b:=by
 induction b with
 |zero=>simp[AO]
 | succ b e=>have c:=NX E D h b (E b).length;have d:=a b;rw[LH,jI];omega
end
theorem XD:(Tryz.prog.info? 65).map (λi=>(i.zero,i.size,i.bytes))=K (K (An #[iZ 0,sN,sN]),3,56):=kR
structure L1(w u:Y)(n h bl gi:Nat)(BV:J)(B:List Nat):Prop where
 eY:Ay u w #[iZ 0,sN,sN] 65
 eP:Ay u bl #[h,BV,sN] 65
 fh:OwB u w gi n (λx=>[h].contains x)
 back:K5 u w BV B
 cq:Ah w w u
 lt: ↑w<bl
structure L2(w w1 u:Y)(n gi:Nat)(P:Nat->Bool)(LV:J)(L:List Nat):Prop where
 fh:OwB u w gi n P
 list:K5 u w1 LV L
 fx:∀k,k< ↑w1->k≠gi->u.heap[k]?=w1.heap[k]?
 cq:Ah w w u
 size:(w1:Nat)<= ↑u
 glt:gi< ↑w1
theorem K5.fx{a:Y}{base x:Nat}{s:J}{l:List Nat}(h:K5 a base s l)(e:∀k,k< ↑a->k≠x->u.heap[k]?=a.heap[k]?)(i:∀g,s.ownBlock=K g->g≠x):K5 u base s l:=by
 refine⟨h.1,?_⟩;rcases h.2 with h|⟨g,cap,c,rfl,d,b,f⟩
 . exact .inl h
 refine .inr ⟨g,cap,c,rfl,d,?_,f⟩;rw[e g (jS.1 b).1 (i g rfl)];exact b
theorem Dm{x:Nat}(h:x<=1048576):Fb (x:Int):=by simp[Fb,Lit.wf,IntKind.min,IntKind.max,IntKind.signed,IntKind.bits];omega
theorem YL(w:Y)(g o c n j l p q f:Nat)(E:Nat->List Nat)(hn:n<=1024)(hE:∀b,b<n->∀x∈E b,x<n)(aG:∀b,(E b).length<=2048)(h:Gh w g o n E):
 ∀(m:Nat) (S O:List Nat) (b:Nat) (V:J) (u:Y),Br S n=m->b<n->PO w u n j l p q f (sO g o n c) V S O->(b∉S-> ↑O+Br S n<=n)->
 Ai Aq 134 #[(b:Int),.pointer (K ⟨l,0,M⟩),.pointer (K ⟨p,0,M⟩),.pointer (K ⟨q,0,M⟩),.pointer (K ⟨f,0,M⟩)] u λe u'=>e=Am (Ap #[])/\∃t S' d,Vs E S O [b] S' d/\PO w u' n j l p q f (sO g o n c) t S' d/\d.length+Br S' n<=O.length+Br S n:=by
 obtain⟨k0,hk,aS,aT,aW⟩:=km Cy;have H:=Aw (fd h (fd hE aG));clear h hE aG;intro m;induction m using Nat.strongRecOn with
 | ind m ih=>
   intro S O b V u hm P R ax;have IH:Ae (∀m',m'<m->∀(S O:List Nat) (b:Nat) (V:J) (u:Y),Br S n=m'->b<n->PO w u n j l p q f (sO g o n c) V S O->(b∉S-> ↑O+Br S n<=n)->
    Ai Aq 134 #[(b:Int),.pointer l,.pointer p,.pointer q,.pointer f] u λe u'=>e=Am (Ap #[])/\∃t S' d,Vs E S O [b] S' d/\PO w u' n j l p q f (sO g o n c) t S' d/\ ↑d+Br S' n<= ↑O+Br S n):=ih
   have HP:=Aw R;obtain⟨aa,D,hs,aq,hD⟩:=R.set;have B:=Aw (fd hs (fd aq hD));have aj:=hD b;have s0:u l=K (.map (K j)):=R.sb.cell 0;have bg:(b:Int)<(n:Int):=oM;clear ih R hs hD;go_enter func134,ntmps134;go_wp2_with fail;refine(Jr j aa D (b:Int) u (Dm oM) B.1).mono ?_;rintro e s ⟨rfl,X⟩;rw[aj];have A:=Aw (fd (HP.av X) (B.1.av X));clear X s0 aj;cases hc:S.contains b
   . (have Q:b∉S:=by simpa using hc);have aH:=FW S n b P Q;have G:=Aw (fd aH (fd hm (ax Q)));clear aH hm ax;have s0:s l=K (.map (K j)):=A.1.sb.cell 0;have z:Ae ((Ac s (Ak #[(b:Int)] 2)) s=K ↑(b:Int)/\AP (Ac s (Ak #[(b:Int)] 2)) j aa D/\PO w (Ac s (Ak #[(b:Int)] 2)) n j l p q f (sO g o n c) V S O/\¬ ↑s=j):=⟨(Ay.new s #[(b:Int)] 2).cell 0,A.2.av (Al _ _),A.1.av (Al _ _),by have:=lg A.2;omega⟩
     go_wp2_with fail;refine(Dh j aa s 1 D (b:Int) _ (Dm oM) (by have:=B.2.1;omega) z.1 z.2.2.2 z.2.1).mono ?_;rintro e u2 ⟨rfl,s2,g2⟩;have C:=Aw (z.2.2.1.add z.2.1 B.2.1 B.2.2 P Q s2 g2);clear s2 g2 s0 z A B HP aq;obtain⟨a,ca,N,g1⟩:=H.1 b P;have HG:=Aw (fd N g1);(replace N:=Az C.cq N);have e0:u2 p=K (sO g o n c):=C.eb.cell 0;have aY:=H.2.2 b;clear g1;go_wp2;go_loopw [20] (λi wr=>∃(S' d:List Nat) (t:J) (k:Nat),i=iZ k/\k<=(E b).length/\Ae (Vs E (b::S) O ((E b).take k) S' d/\PO w wr n j l p q f (sO g o n c) t S' d/\ ↑d+Br S' n+1<= ↑O+Br S n)) (λi _=>(E b).length-(intOf i).toNat)
     (case atStart=>exact⟨b::S,O,V,0,rfl,oM,by simpa using Vs.nil (b::S) O,C,by have:=G.o;omega⟩);clear C N e0;obtain⟨S',d,t,k,rfl,bi,r⟩:=hrel;by_cases aO:k<(E b).length
     . have bj:(k:Int)<((E b).length:Int):=oM;obtain⟨y,T⟩:∃y,(E b)[k]?=K y:=⟨_,an aO⟩;have aX:y<n:=H.2.1 b P y (hC T);obtain⟨ga,oa,rfl,_,y0⟩:=HG.2.at_ T;(replace y0:=Az r.2.1.cq y0);have f0:wr q=K (.func (.func 134) #[] #[.pointer l,.pointer p,.pointer q,.pointer f]):=r.2.1.wb.cell 0;(have HT:Ae ((E b).take (k+1)=(E b).take k++[y]):=by obtain⟨hl,rfl⟩:=f7.1 T;exact kN hl);have aA:=r.1.more;have aR:=KY n aA;have HC:=Aw (IH.o (Br S' n) (by have:=G.o;omega) S' d y t wr rfl aX r.2.1 (λ_=>by have:=r.2.2;have:=G.o;omega));clear T aA aR;go_wp2_with fail;refine HC.mono ?_;rintro e u3 ⟨rfl,V3,L,I,aI,aF,aM⟩;have HN:Ae (Vs E (b::S) O ((E b).take (k+1)) L I/\PO w u3 n j l p q f (sO g o n c) V3 L I/\ ↑I+Br L n+1<= ↑O+Br S n):=by refine⟨?_,aF,by have:=r.2.2;omega⟩;rw[HT];exact r.1.fK aI
       clear aI aF aM y0 f0 HC;go_wp2;go_roundw;(case rel=>exact⟨L,I,V3,k+1,by go_num,oM,HN⟩);exact oI
     obtain rfl:k=(E b).length:=oM;obtain⟨W,cV,rfl⟩:=AF r.2.1.list;have aZ:=G.o;have bf:=r.2.2;(go_upto_region 7 with fail);refine Av (λu=>Ae (PO w u n j l p q f (sO g o n c) (Z W d cV) S' d)) r.2.1 ?_;intro U F;have l0:U f=K (Z W d cV):=F.lb.cell 0;go_wp2_with (at_builtin;refine wpList_append_lies _ rfl _ _ 27 rfl w 2 k0 (iZ 0) 1 8 underlying27 hk aS aT aW rfl dC _ d (nv d) rfl (F.al (Ak #[(b:Int)] 2)).1 U 1 1 [(b:Int)] rfl rfl (FC U (b:Int)) (λu hu=>by simp at hu;subst hu;rfl) oM (by simp[maxLen];omega) oM (F.al (Ak #[(b:Int)] 2)).2 _ rfl ?_;intro g5 ai w5 aE au aK aQ;obtain⟨ae,l5⟩:=F.fK aE au oM;have aJ:Ae (PO w (w5.setCell f (sG g5 (d.length+1) ai)) n j l p q f (sO g o n c) (sG g5 (d.length+1) ai) S' (d++[b])):=l5;have t5:w5 f=K (Z W d cV):=ae.cell 0;have z5:=ae.frozen 0;clear aE au aK aQ ae l5);go_end0;refine⟨rfl,_,S',d++[b],?_,aJ,by rw[jI,kE];omega⟩;have:=r.1;rw[kP lR]at this;exact .new Q this (.nil _ _)
   go_wp2_with fail;exact kA (v:=Ap #[]) (by simp[results,results134,go_sem]) rfl ⟨rfl,V,S,O,.old (by simpa using hc) (.nil _ _),A.1,Nat.le_refl _⟩
theorem Hu(v:VP)(p:MP)(g:VF)(f:MF)(op a b c:Int)(w:Y)(hs:f.small)(h:ET w v p)(j:FH w g f)(L:op=27->∃q:Nat,a=q/\(f.aD++f.a7)[q]?=K (AJ f a)):
 Ai Aq 118 #[An #[v.r,v.k,v.f,v.t,g.p,f.cu,g.l,g.c],An #[op,a,b,c]] w λe w'=>AM e (¬(op=27/\AJ f a≠3))/\Ah w w w':=by
 obtain⟨D,E,T⟩:=(show∃a c,v.r=Z a p.az c from by obtain⟨_,_,I,_⟩:=h.az;exact I.aP);obtain⟨B,C,S⟩:=h.b8.aP;obtain⟨F,G,et⟩:=h.bO.aP;obtain⟨f1,f3,O⟩:=(show∃a c,v.f=Z a p.aB c from by obtain⟨_,_,I,_⟩:=h.aB;exact I.aP);obtain⟨n,s,P⟩:=j.1.aP;obtain⟨x,y,Q⟩:=j.2.1.aP;obtain⟨z,A,R⟩:=j.2.2.aP;obtain⟨gp,gl,gc⟩:=g;obtain⟨vr,vk,vf,vt⟩:=v;simp only[]at T S et O P Q R;subst T S et O P Q R;have HP:=Aw h;have HR:=Aw j;clear h j;have m:=Aw (Iu.of w ⟨Z D p.az E,Z B p.b8 C,Z f1 p.aB f3,Z F p.bO G⟩ ⟨Z n f.aD s,Z x f.a7 y,Z z f.aU A⟩ f op a b c);by_cases i:op=27
 . obtain⟨q,rfl,V⟩:=L i;subst i;have X:=Aw V;clear L V;go_enter func118,ntmps118;(go_upto_region 1 with fail);refine Av (λu=>Ae (Iu w u ⟨Z D p.az E,Z B p.b8 C,Z f1 p.aB f3,Z F p.bO G⟩ ⟨Z n f.aD s,Z x f.a7 y,Z z f.aU A⟩ f 27 q b c)) m ?_;rintro U E1;clear m;have i0:=E1.ib.cell 0;have i1:=E1.ib.cell 1;have s0:=E1.sb.cell 0;have s1:=E1.sb.cell 1;have s2:=E1.sb.cell 2;have s3:=E1.sb.cell 3;have s4:=E1.sb.cell 4;have s5:=E1.sb.cell 5;have s6:=E1.sb.cell 6;have s7:=E1.sb.cell 7;simp only[i5,f8,i6]at i0 i1 s0 s1 s2 s3 s4 s5 s6 s7;go_wp2_with fail;refine(H1 ⟨Z D p.az E,Z B p.b8 C,Z f1 p.aB f3,Z F p.bO G⟩ ⟨Z n f.aD s,Z x f.a7 y,Z z f.aU A⟩ f q (AJ f q) U hs (HR.av E1.cq lR) X).mono ?_;rintro e u1 ⟨rfl,b1⟩;have N:=Aw (Ar E1.cq lR b1);by_cases d:AJ f q=3
   . (have aa:(AJ f q==3)=true:=by simpa using d);have H:=Aw d;clear d;go_wp2_with fail;go_ret;exact⟨⟨true,rfl, λ_ e=>e.2 H, λ_=>rfl⟩,N⟩
   (have aa:(AJ f q==3)=false:=by simpa using d);have H:=Aw d;clear d;go_wp2_with fail;go_ret;exact⟨.no (λe=>e ⟨by trivial,H⟩),N⟩
 have ae:(op != 27)=true:=by simpa using i
 have W:=Aw i;clear i L;go_enter func118,ntmps118;go_upto_region 1 with fail
 refine Av (λu=>Ae (Iu w u ⟨Z D p.az E,Z B p.b8 C,Z f1 p.aB f3,Z F p.bO G⟩ ⟨Z n f.aD s,Z x f.a7 y,Z z f.aU A⟩ f op a b c)) m ?_;rintro U E1;clear m;have i0:=E1.ib.cell 0;simp only[i5,f8]at i0;go_wp2_with fail;go_ret;exact⟨⟨true,rfl, λ_ e=>W.o e.1, λ_=>rfl⟩,E1.cq⟩
theorem Vw(w:Y)(xs:List MC):∀j u,(Ad MC.cells xs)[j]?=K u->(Ac w (Ak (Ad MC.cells xs).toArray 193)).drew.cell? ((⟨w,0,M⟩:Addr).add j)=K u:= λj u a=>by have:=mU _ w (0+j) _ _ _ (Fu w (Ad MC.cells xs).toArray 193);rw[Cx];show(Ac w (Ak (Ad MC.cells xs).toArray 193)) ⟨w,0+j,M⟩=K u;rw[this,kT];simpa using a
theorem AB.frm{x:VS}{C:List (J×List MC)}{K:List MC}(h:AB u B x C K F){gf m c top:Nat}{y:MG×J}(e:x.f=Z gf m c)(b:F[top]?=some y):u ⟨gf,top*4+3,M⟩=some y.2:=by have a:=h.dk;rw[e]at a;have d:m=F.length:=CM a;subst d;have g:=(f7.1 b).1;rw[a.cellAt (top*4+3) oM,BM BG 4 Ch F top 3 y b oM];rfl
theorem AB.fG{x:VS}{C:List (J×List MC)}{K:List MC}(h:AB u B x C K F){r:J×List MC}(f:r∈C++[(x.k,K)]++Bm F){b d cl q:Nat}{z:MC}(g:r.1=Z b d cl)(c:r.2[q]?=some z):u ⟨b,q*2,M⟩=some ↑z.type/\u ⟨b,q*2+1,M⟩=some (Ag .u32 z.word):=by
 have a:=h.eT.own r f;rw[g]at a;have e:d=r.2.length:=CM a;subst e;have i:=(f7.1 c).1;refine⟨?_,?_⟩
 . rw[a.cellAt (q*2) oM];have:=BM MC.cells 2 MC.bW r.2 q 0 z c oM;rw[jV]at this;rw[this];rfl
 rw[a.cellAt (q*2+1) oM,BM MC.cells 2 MC.bW r.2 q 1 z c oM];rfl
theorem AB.iA{x:VS}{C:List (J×List MC)}{K:List MC}(h:AB u B x C K F){gc m c a:Nat}{r:J×List MC}(f:x.c=Z gc m c)(d:C[a]?=some r):u ⟨gc,a,M⟩=some r.1:=by have b:=h.cells;rw[f]at b;have e:m=C.length:=CM b;subst e;have g:=(f7.1 d).1;have:=BM JE 1 PH C a 0 r d oM;rw[lJ,jV]at this;rw[b.cellAt a oM,this];rfl
theorem YZ(a b:Nat)(f:a<=4294967295)(g:b<=4294967295):bits .and Af (a:Int) (b:Int)=((a &&& b:Nat):Int):=by
 have c:bits .and Af (a:Int) (b:Int)=IntKind.i64.wrap ((BitVec.ofInt 64 a &&& BitVec.ofInt 64 b).toNat:Int):=by rfl
 have d:(BitVec.ofInt 64 (a:Int) &&& BitVec.ofInt 64 (b:Int)).toNat=a &&& b:=by rw[BitVec.toNat_and];simp;rw[Nat.mod_eq_of_lt oM,Nat.mod_eq_of_lt oM]
 rw[c,d];have e:a &&& b<=a:=Nat.and_le_left;rw[lr _ oM]
theorem JI(xs:List MC):∀u∈Ad MC.cells xs,u.oneCell'=true:= λu a=>by obtain⟨x,_,b⟩:=lZ.1 a;exact Nh x u b
def Gk(xs:List MI):Prop:=∀(i:Nat) (x:MI),xs[i]?=K x->Bv x=true->0<=x.c/\x.c<(xs:Int)
theorem Iz(a:Option Addr)(c:Nat)(z:Int)(w:Y):Ai Aq 69 #[Z a 0 c,z] w λe b=>e=Am false/\b=w:=by have h:=AnyG.slices_Contains_int_empty Tryz.lContains a c z w;exact h
theorem Pb(g c:Nat)(y z:Int)(w:Y)(a:w g=K ↑y):Ai Aq 69 #[sG g 1 c,z] w λe d=>e=Am (Ao (decide (z=y)))/\d=w:=by
 have h:=AnyG.slices_Contains_int Tryz.lContains g 0 1 c [y] z w sP oM (λj b=>by
  have:j=0:=by simpa using b
  subst this;simpa using a)
 have e:([y].take 1).contains z=decide (z=y):=by
  by_cases q:z=y
  . simp[q]
  simp[q]
 rw[e]at h;exact h
theorem Tl(g c:Nat)(d:List Int)(z:Int)(w:Y)(G:d.length<=1048576)(k:d.Pairwise (· < ·))(h:Rd w 1 (sG g d c) d (Ad As d))(B:z∈d):
 Ai Aq 56 #[sG g d c,z] w λe n=>(∃b,e=Am (Ap #[iZ (d.idxOf z:Nat),Ao b]))/\∃q,n=w.drewN q:=by
 have s:∀j,j< ↑d->w ⟨g,0+j,M⟩=K ↑(d.getD j 0):= λj t=>by
  rcases h.2 with⟨E,_⟩|⟨F,H,c',i,f⟩
  . omega
  simp only[i8,jJ,lT,mD,kW]at i;obtain⟨⟨rfl,rfl⟩,rfl⟩:=i;have:=f j (d.getD j 0) (by rw[Dj];simp[List.getD_eq_getElem?_getD,List.getElem?_eq_getElem t]);exact this
 have f:=AnyG.slices_BinarySearch_int Tryz.lSearch g 0 d c d z w lR oM s (by rw[kP lR];exact k.imp (λh=>oM));rw[kP lR]at f;have e:∀(l:List Int),l.Pairwise (· < ·)->z∈l->l.countP (λx=>decide (x<z))=l.idxOf z:=by
  intro l;induction l with
  |nil=>intro _ h;cases h
  | cons y r C=>
    intro v u;obtain⟨m,D⟩:=kY.1 v;by_cases q:y=z
    . subst q;rw[List.countP_cons_of_neg sP,List.idxOf_cons_self];exact List.countP_eq_zero.2 (λa p=>by have:=m a p;simp;omega)
    rcases jK.1 u with e|e
    . exact absurd e.symm q
    have:=m z e;rw[List.countP_cons_of_pos (by simpa using this),C D e,nA];rw[show(y==z)=false from by simpa using q];rfl
 refine f.mono ?_;rintro i n ⟨rfl,A⟩;rw[e d k B];exact⟨⟨_,rfl⟩,A⟩
theorem MI.iM{xs:List MI}{g o n e:Nat}{x:MI}(f:∀j v,(Ad MI.cells xs)[j]?=K v->w ⟨g,o+j,M⟩=K v)(h:xs[e]?=K x)(d:Ah w w u):u ⟨g,o+e*4,M⟩=K ↑x.op/\u ⟨g,o+e*4+1,M⟩=K ↑x.a/\u ⟨g,o+e*4+2,M⟩=K ↑x.b/\u ⟨g,o+e*4+3,M⟩=K ↑x.c:=by have i:=Rd.elem MI.bW f e _ h 0 _ rfl;have k:=Rd.elem MI.bW f e _ h 1 _ rfl;have l:=Rd.elem MI.bW f e _ h 2 _ rfl;have x3:=Rd.elem MI.bW f e _ h 3 _ rfl;rw[<-d.cell (i7 i),jV]at i;rw[<-d.cell (i7 k)]at k;rw[<-d.cell (i7 l)]at l;rw[<-d.cell (i7 x3)]at x3;exact⟨i,k,l,x3⟩
theorem MN(s:J)(xs:List MI)(w:Y)(R:xs.length<=1048576)(h:Rd w 4 s xs (Ad MI.cells xs)):
 Ai Aq 53 #[s] w λe T=>AM e (Gk xs)/\Ah w w T:=by
 have H:Ae (Rd w 4 s xs (Ad MI.cells xs)):=h;obtain⟨a1,c1,rfl⟩:=h.aP;clear h;generalize I:xs.length=n at R H;have v:Ae (↑xs=n):=I
 clear I;go_enter func53,ntmps53;go_wp2;go_loopw [7] (λi wr=>∃k:Nat,k<=n/\i=iZ k/\Ae ((∀j,j<k->∀x,xs[j]?=K x->Bv x=true->0<=x.c/\x.c<(n:Int))/\Ah w w wr)) (λi _=>n-(intOf i).toNat)
 case atStart=>exact⟨0,oM,rfl,⟨λj O=>oM,jZ _ _⟩⟩
 obtain⟨k,hk,rfl,l⟩:=hrel;by_cases B:k<n
 . obtain ⟨x,C⟩:∃x,xs[k]?=K x:=⟨_,an (by rw[v];exact B)⟩;have z:Ae (xs[k]?=K x):=C;rcases H.2 with⟨e0,_⟩|⟨g,o,c,G,L⟩
   . omega
   simp only[i8,kW]at G;obtain⟨rfl,rfl⟩:=G;obtain⟨U,V,W,x3⟩:=MI.iM (n:=0) L C l.2;clear L C;have aa:(k:Int)<(n:Int):=oM;(go_upto_region 4 with fail);refine Av (λu=>Ae (Ay u wr #[x.op,x.a,x.b,x.c] 25/\Ah w w u)) ⟨Ay.new _ _ _,Ar l.2 lR (Al _ _)⟩ ?_
   intro X p;clear U V W x3;obtain⟨a0,D,E,F⟩:=Qr p.1;go_wp2_with fail;refine(CD x _).mono ?_;rintro e t ⟨rfl,A⟩;have q:Ae (Ay t wr #[x.op,x.a,x.b,x.c] 25/\Ah w w t):=⟨p.1.av A,Ar p.2 lR A⟩
   clear A a0 D E F p;obtain⟨a0,D,E,F⟩:=Qr q.1;cases hgo:Bv x
   . have m:Ae ((∀j,j<k+1->∀x,xs[j]?=K x->Bv x=true->0<=x.c/\x.c<(n:Int))/\Ah w w t):=⟨λj O y f d=>by
      by_cases e:j=k
      . subst e;rw[z]at f;(cases f);rw[hgo]at d;cases d
      exact l.1 j oM y f d,q.2⟩
     go_wp2;go_roundw;(case rel=>exact⟨k+1,oM,by go_num,m⟩);exact oI
   . go_wp2_with fail;refine(Oc x.c n _ oM).mono ?_;rintro e u3 ⟨rfl,P⟩;have S:=P.symm;clear P;subst S;by_cases r:0<=x.c/\x.c<(n:Int)
     . rw [show decide (0<=x.c/\x.c<(n:Int))=true from by simpa using r]
       have m:Ae ((∀j,j<k+1->∀x,xs[j]?=K x->Bv x=true->0<=x.c/\x.c<(n:Int))/\Ah w w t):=⟨λj O y f d=>by
        by_cases e:j=k
        . subst e;rw[z]at f;(cases f);exact r
        exact l.1 j oM y f d,q.2⟩
       go_wp2;go_roundw;(case rel=>exact⟨k+1,oM,by go_num,m⟩);exact oI
     rw[show decide (0<=x.c/\x.c<(n:Int))=false from by simpa using r]
     (have m:Ae (¬Gk xs):= λe=>r (by have:=e k x z hgo;rw[v]at this;exact this));go_wp2;go_ret;exact⟨.no m,q.2⟩
 have Q:Ae (Gk xs):= λi x N d=>by have B:=(f7.1 N).1;rw[v]at B⊢;exact l.1 i oM x N d
 go_wp2;go_ret;exact⟨.fk Q,l.2⟩
structure NP(w U:Y)(V:J)(ns:List Int):Prop where
 cq:Ah w w U
 row:Ab U w 2 1 V ns (Ad As ns)
theorem NP.av{U a:Y}{c:List Int}(h:NP w U V c)(b:Ah U U a):NP w a V c:=⟨Ar h.cq lR b,AC h.row b lR⟩
theorem NP.fK{w U b:Y}{c:J}{a:List Int}{m:Nat}(h:NP w U V a)(j:Ab b w 2 1 c m (Ad As a++[iZ z]))(g:m= ↑a+1)(e:(Ac U (Ak #[iZ z] 2)).grownBy b V.ownBlock):NP w b c (a++[z]):=by have d:=Al U (Ak #[z] 2);refine⟨(Ar h.cq lR d).grown e (jN h.cq.size d.size) (λi f=>(h.row.lt i f).1),?_⟩;rw[jI,kE,<-g,kJ];exact j
theorem CO.grow{w n:Y}{base g:Nat}{A B:List (J×List Int)}{V f:J}{l i:List Int}(h:CO w base (A++(V,l)::B))(C:Ab n base 2 1 f i (Ad As i))(v:f.ownBlock=K g)(q:w.grownBy n V.ownBlock)(z:V.ownBlock=K g\/ ↑w<=g):CO n base (A++(f,i)::B):=by
 obtain⟨D,E,m⟩:=kv.1 h.sep;obtain⟨u,F⟩:=kY.1 E;have s:∀x:J×List Int,x∈A++(V,l)::B->Kq x (V,l)->Kq x (f,i):= λx c d G r e=>by
  rw[v]at e;have e:=jM e;subst e;rcases z with p|p
  . exact d _ r p
  have:=((h.own x c).lt _ r).2;omega
 refine⟨λx c=> ?_,kv.2 ⟨D,kY.2 ⟨λy t=>(s y (by simp[t]) (u y t).symm).symm,F⟩, λa d b j=> ?_⟩⟩
 . rcases jL.1 c with c|c
   . exact DI (h.own x (jL.2 (.inl c))) q (λg k e=>m x c (V,l) sP g k e.symm)
   rcases jK.1 c with rfl|c
   . exact C
   exact DI (h.own x (jL.2 (.inr (kh _ c)))) q (λg k e=>u x c g e.symm k)
 rcases jK.1 j with rfl|j
 . exact s a (by simp[d]) (m a d (V,l) sP)
 exact m a d b (kh _ j)
theorem CO.fY{a:Y}{L:List (J×List Int)}(h:CO u B L)(b:Ah u u a):CO a B L:=⟨λr c=>AC (h.own r c) b lR,h.sep⟩
theorem CO.join{i:Y}{L:List (J×List Int)}{b:J}{f:List Int}(h:CO u B L)(n:Ah u u i)(k:Ab i u 2 1 b f (Ad As f))(l:B<= ↑u):CO i B (L++[(b,f)]):=by
 refine⟨λx d=> ?_,kv.2 ⟨h.sep,sP, λa m c j g p e=> ?_⟩⟩
 . rcases jL.1 d with d|d
   . exact AC (h.own x d) n lR
   simp only[jK,jO,kM]at d;subst d;exact BI k l
 simp only[jK,jO,kM]at j;subst j;have q:=((h.own a m).lt g p).2;have r:=(k.lt g e).1;omega
theorem CO.other{base b:Nat}{L:List (J×List Int)}{a:Array J}(h:CO w base L)(c:Ay w b a t)(d:2≠t)(i:Nat)(x:J):CO (Aa w ⟨b,i,M⟩ x) base L:=h.set c d i x
theorem CO.fM{a:Y}{base B k m:Nat}{L:List (J×List Int)}{v:J}{b:List J}(h:CO w base L)(c:w.grownBy a v.ownBlock)(f:Ab w B e k v m b)(d:2≠e):CO a base L:=⟨λx g=>Er (h.own x g) c f d,h.sep⟩
def GQ(x:ML×J×J):List J:=[x.1.head,x.2.1,x.2.2]
theorem Gb(x:ML×J×J):(GQ x).length=3:=rfl
def pS(w:Y)(x:ML×J×J):Prop:=Rd w 1 x.2.1 x.1.back (Ad As x.1.back)/\Rd w 1 x.2.2 x.1.aC (Ad As x.1.aC)
def Sg(w:Y)(s:J)(a:List ML):Prop:=∃ys:List (ML×J×J),ys.map Prod.fst=a/\Rd w 3 s a (Ad GQ ys)/\∀y∈ys,pS w y
theorem Sg.av{w f:Y}{s:J}{e:List ML}(h:Sg w s e)(b:Ah B w f)(a: ↑w<=B):Sg f s e:=by obtain⟨ys,g,i,c⟩:=h;exact⟨ys,g,i.av b a, λy d=>⟨(c y d).1.av b a,(c y d).2.av b a⟩⟩
def Jz(ys:List (ML×J×J)):List (J×List Int):=ys.flatMap λy=>[(y.2.1,y.1.back),(y.2.2,y.1.aC)]
def iv(f:Nat->Nat)(n:Nat):List J:=(List.range n).map λi=>Ag Af (f i:Int)
theorem Kb(f:Nat->Nat)(n:Nat):(iv f n).length=n:=by simp[iv]
theorem TQ(f:Nat->Nat)(n i:Nat)(h:i<n):(iv f n)[i]?=K ↑(f i:Int):=by simp[iv,h]
theorem ph{f g:Nat->Nat}{n i x:Nat}(h:∀j,j<n->g j=if j=i then x else f j):(iv f n).set i x=iv g n:=by
 apply lN;intro j;by_cases a:j<n
 . rw[TQ _ _ _ a,h j a];by_cases e:j=i
   . subst e;rw[kw (by rw[Kb];exact a),jP rfl]
   rw[lh oM,TQ _ _ _ a,jH e]
 rw[kO (by simp[Kb];omega),kO (by rw[Kb];omega)]
theorem Zy(n:Nat):(madeCells (Ag Af 0).cells (n*1)).toList=iv (λ_=>0) n:=by
 rw[Mo n (λ_=>[]) []];simp[CK,iv,List.flatten_replicate_singleton];apply lN;intro j;by_cases a:j<n
 . simp[a]
 rw[kO oT,kO oT]
def Rv(O:List Nat)(k x:Nat):Nat:=if(O.reverse.take k).contains x then Ea O x else 0
theorem VQ(O:List Nat):Rv O 0= λ_=>0:=by funext x;simp[Rv]
theorem Ye(O:List Nat)(x:Nat)(h:x∈O):Rv O O x=Ea O x:=by unfold Rv;rw[kP sP,jP (by simpa using h)]
theorem VO{O:List Nat}(d:O.Nodup){k x:Nat}(i:O.reverse[k]?=K x)(n:Nat):∀j,j<n->Rv O (k+1) j=if j=x then k else Rv O k j:= λj _=>by
 obtain⟨a,e⟩:=f7.1 i;have f:O.reverse.Nodup:=List.pairwise_reverse.2 (d.imp Ne.symm);have h:Ea O x=k:=by
  have g:x∈O:=by rw[<-kx,<-e];exact mu a
  have c:=H9 g;obtain⟨l,b⟩:=f7.1 c;exact(List.getElem_inj f).1 (b.trans e.symm)
 unfold Rv;rw[kN a,e];by_cases q:j=x
 . subst q;rw[jP sP,jP rfl,h]
 rw[jH q];have:(O.reverse.take k++[x]).contains j=(O.reverse.take k).contains j:=by simp[q]
 rw[this]
theorem LJ{b base k n:Nat}{a:Array J}{s:J}(c:Ay w b a t)(h:Ab w base e k s n xs)(d:e≠t):s.ownBlock≠K b:= λq=>FF h c d b q rfl
theorem KR{cs:List (List MC)}{a b:Nat}:(En cs a b v).length=cs.length:=by unfold En;rw[List.length_modify]
theorem Xt:AG 8=5/\AG 9=5/\AG 10=5/\AG 11=5/\AG 12=5/\AG 13=6/\AG 14=6/\AG 15=6/\AG 16=6/\AG 20=7/\AG 21=5/\AG 22=8:=by decide+kernel
theorem ZP{f:MF}{x:MI}(aW:p.wf)(h:IP p s)(hw:s.wf)(aQ:s.dk.getLast?=K g)(T:p.aB[g.func.toNat]?=K f)(bP:0<=g.at_)(hx:f.aU[g.at_.toNat]?=K x)(bC:Do p f g s x=0)(m:(Eb p f g s x).done=false):
 IP p (Eb p f g s x)/\(Eb p f g s x).wf:=by
 obtain⟨D,I⟩:∃D,s.dk=D++[g]:=by rw[List.getLast?_eq_some_iff]at aQ;exact aQ
 have au:g∈s.dk:=by rw[I];simp
 have hg:=h.dk g au;have L:=hw.dk g au;have u:AW p f x:=h.prog.ft T hx;have aY:x.wf:=(aW.aB f (hC T)).aU x (hC hx);have bj:0<=g.base:=RG h.fW g au;have aI:=h.fW;rw[I]at aI;have G:DC g.a7 (f.aD++f.a7):=by obtain⟨f',aK,hl⟩:=hg.a7;rw[T]at aK;obtain rfl:=jM aK;exact hl
 have bq:Cj f:=h.prog.parts.2.2.1.2.2.1 _ (f7.1 T).1 f T;have bS:=(f7.1 hx).1;have bQ:=bq.j7;have h3:p.az.length=3:=h.prog.parts.1.1;have aT:∀v∈g.a7,Jj v:= λv d=>⟨G.2 v d,L.a7 v d⟩
 by_cases bi:x.op=29
 . (have e:Eb p f g s x={s with dk:=s.dk.dropLast,done:=decide (s.dk.length=1)}:=by unfold Eb;simp only[];repeat rw[jH oM]);rw[e]at m⊢;simp only[mQ]at m;(have k:s.dk.dropLast=D:=by rw[I];simp);rw[k];have aJ:=h.deep;rw[I]at m aJ;simp only[jI,kE]at m aJ;refine⟨⟨h.prog,h.cost,h.steps,h.three,h.cells,h.fS,h.stack, λi=> ?_,oS, λq W=>h.dk q (by rw[I];simp only[]at W;simp[W]),VV aI⟩,⟨hw.trap,hw.cost,hw.steps,hw.cells,hw.stack, λq W=>hw.dk q (by rw[I];simp only[]at W;simp[W])⟩⟩;simp only[]at i;rw[i]at m;exact m rfl
 obtain⟨hn,w,bf,bg,aO⟩:=Tt bC bj hg.base bi;have aH:∀v∈s.stack,Jj v:= λv d=>⟨h.stack v d,hw.stack v d⟩
 have bJ:=h.fS;have aq:=qv h hw I T;unfold Eb at m⊢;simp only[]at m⊢;rw[I]at m⊢;simp only[S9]at m⊢;have bB:(s.stack.take (↑s.stack-(AA p f x).length)).length= ↑s.stack-(AA p f x).length:=by rw[kp];omega
 have X:∀v∈s.stack.take (↑s.stack-(AA p f x).length),Jj v:= λv d=>aH v (nF d)
 have F:∀v∈s.stack.drop (↑s.stack-(AA p f x).length),Jj v:= λv d=>aH v (mr d)
 generalize s.stack.take (s.stack.length-(AA p f x).length)=st at bB X m⊢;generalize s.stack.drop (s.stack.length-(AA p f x).length)=ar at w F m⊢;have aj:g.base<=(st:Int):=oM;have H:({g with at_:=g.at_+1}:MG).wf:=⟨L.func,C9 oS oS,L.base,L.a7⟩;have bH:0<=x.c->({ {g with at_:=g.at_+1}with at_:=x.c}:MG).wf:= λ_=>⟨L.func,aY.2.2.2,L.base,L.a7⟩
 have T0:st.length<=64:=oM;have push:∀U:List MC,(∀v∈U,Jj v)->st.length+ ↑U<=64->IP p ⟨s.trap,s.done,s.cost,s.steps,s.cells,st++U,D++[{g with at_:=g.at_+1}]⟩/\(⟨s.trap,s.done,s.cost,s.steps,s.cells,st++U,D++[{g with at_:=g.at_+1}]⟩:MS).wf:= λU d hl=>aq s.cells (st++U) _ rfl h.cells hw.cells oT (λv V=>(jL.1 V).elim (X v) (d v)) (by simp only[jI];omega) rfl rfl G H
 have ae:∀N:MG,N.base=g.base->N.func=g.func->DC N.a7 (f.aD++f.a7)->N.wf->IP p ⟨s.trap,s.done,s.cost,s.steps,s.cells,st,D++[N]⟩/\(⟨s.trap,s.done,s.cost,s.steps,s.cells,st,D++[N]⟩:MS).wf:= λN l k i B=>aq s.cells st N rfl h.cells hw.cells T0 X aj l k i B
 have aE:0<=x.c->IP p ⟨s.trap,s.done,s.cost,s.steps,s.cells,st,D++[{ {g with at_:=g.at_+1}with at_:=x.c}]⟩/\(⟨s.trap,s.done,s.cost,s.steps,s.cells,st,D++[{ {g with at_:=g.at_+1}with at_:=x.c}]⟩:MS).wf:= λe=>ae _ rfl rfl G (bH e)
 have aF:=ae {g with at_:=g.at_+1} rfl rfl G H;have one:∀v:MC,Jj v->El x=1->x.op≠28->IP p ⟨s.trap,s.done,s.cost,s.steps,s.cells,st++[v],D++[{g with at_:=g.at_+1}]⟩/\(⟨s.trap,s.done,s.cost,s.steps,s.cells,st++[v],D++[{g with at_:=g.at_+1}]⟩:MS).wf:= λv d bV bu=>push [v] (λz A=>by simp only[jU]at A;rw[A];exact d) (by have:=aO bu;simp only[kE];omega)
 have O:(x.op=1\/x.op=2\/x.op=4\/x.op=6\/(8<=x.op/\x.op<=22))->El x=1:= λe=>by unfold El;rw[jP e]
 by_cases c0:x.op=0\/x.op=24
 . rw[jP c0];exact aF
 rw[jH c0]at m⊢;by_cases c1:x.op=1
 . rw[jP c1];obtain⟨q,z,l,k⟩:=u.const c1;(have i:C8 p.b8 x.a.toNat=z:=by rw[l];exact PN k);rw[i];exact one z ⟨h.prog.parts.2.1.2 q (f7.1 k).1 z k,aW.b8 z (hC k)⟩ (O oM) oM
 rw[jH c1]at m⊢;by_cases c2:x.op=2
 . rw[jP c2];obtain⟨q,l,k⟩:=u.local (.inl c2);obtain⟨v,d,_⟩:=PP G k;(have i:C8 g.a7 x.a.toNat=v:=by rw[l];exact PN d);rw[i];exact one v (aT v (hC d)) (O oM) oM
 rw[jH c2]at m⊢;by_cases c3:x.op=3
 . rw[jP c3];obtain⟨q,l,k⟩:=u.local (.inr (.inl c3));(have et:AA p f x=[AJ f x.a]:=by unfold AA;rw[jP c3]);rw[et]at w;obtain⟨v,rfl,d⟩:=Hs w;have n:=F v sP;(have bt:AJ f x.a≠0:= λe=>by have h5:=u.2.2;(have bT:AG x.op=2:=by rw[c3];exact Gt.2.2.1);unfold BU Cb at h5;rcases h5 with h|h|h|h|h|h|h|h|h|h<;>first|(exfalso;omega)|exact h.2.1 e);have i:C8 [v] 0=v:=rfl;rw[i];refine ae _ rfl rfl ?_ ⟨H.func,H.at_,H.base, λz A=> ?_⟩
   . simp only[l,i9];exact M0 G n.1 (by rw[d bt];exact k)
   rcases lP A with A|rfl
   . exact L.a7 z A
   exact n.2
 rw[jH c3]at m⊢;by_cases c4:x.op=4
 . rw[jP c4];obtain⟨q,z,r,l,k,i,B⟩:=u.cell h3 (.inl c4);obtain⟨v,S,d,_⟩:=TG h hw i B;rw[l,k,i9,i9,S];exact one v d (O oM) oM
 rw[jH c4]at m⊢;by_cases c5:x.op=5
 . rw[jP c5];obtain⟨q,z,r,l,k,i,B⟩:=u.cell h3 (.inr (.inl c5));(have et:AA p f x=[CT p x]:=by unfold AA;rw[jH oM,jP c5]);rw[et]at w;obtain⟨v,rfl,d⟩:=Hs w;(have ht:Fd (CT p x)=true:=by have:=(h.prog.parts.1.2 q (f7.1 i).1 r i).2;exact lX.1 this _ (hC B));have n:=F v sP;have C:C8 [v] 0=v:=rfl;rw[C,l,k,i9,i9];obtain⟨k1,k2⟩:=N0 h hw i n (by rw[d (CU ht)];exact B);exact aq _ st _ KR k1 k2 T0 X aj rfl rfl G H
 rw[jH c5]at m⊢;have aZ:∀j:Nat,x.op=6\/x.op=7->∃(q:Nat) (r:List Int),x.a=q/\p.az[q]?=K r/\r[x.b.toNat+(j &&& x.c.toNat)]?=K (CT p x)/\Fd (CT p x)=true:= λj e=>by
  obtain⟨q,z,r,l,k,i,B⟩:=u.cell h3 oM;have V:=u.gv e;obtain⟨c,hc⟩:=jW V.low;rw[l,k,hc]at V;refine⟨q,r,l,i,?_,?_⟩
  . rw[k,hc,i9,i9];exact masked i (by have:=(f7.1 i).1;omega) B V j
  have:=(h.prog.parts.1.2 q (f7.1 i).1 r i).2;exact lX.1 this _ (hC B)
 by_cases c6:x.op=6
 . rw[jP c6];obtain⟨q,r,l,i,B,_⟩:=aZ (C8 ar 0).word.toNat (.inl c6);obtain⟨v,S,d,_⟩:=TG h hw i B;rw[l,i9,S];exact one v d (O oM) oM
 rw[jH c6]at m⊢;by_cases c7:x.op=7
 . rw[jP c7];obtain⟨q,r,l,i,B,ht⟩:=aZ (C8 ar 0).word.toNat (.inr c7);(have et:AA p f x=[3,CT p x]:=by unfold AA;rw[jH oM,jH oM,jH oM,jP c7]);rw[et]at w;obtain⟨v0,v,rfl,_,d⟩:=QX w;have n:=F v sP;have C:C8 [v0,v] 1=v:=rfl;rw[C,l,i9];obtain⟨k1,k2⟩:=N0 h hw i n (by rw[d (CU ht)];exact B);exact aq _ st _ KR k1 k2 T0 X aj rfl rfl G H
 rw[jH c7]at m⊢;by_cases c8:x.op=16\/x.op=19
 . rw[jP c8];have et:∃t,AA p f x=[t]/\Fd t=true/\(x.op=19->t≠1):=by
    rcases c8 with e|e
    . exact⟨x.a,by unfold AA;rw[jH oM,jH oM,jH oM,jH oM,jH oM,jP oM],u.type oM, λk=>oM⟩
    exact⟨2,by unfold AA;rw[jH oM,jH oM,jH oM,jH oM,jH oM,jH oM,jH oM,jP e],rfl, λ_=>oM⟩
   obtain⟨t,l,ht,bI⟩:=et;rw[l]at w;obtain⟨v,rfl,d⟩:=Hs w;have n:=F v sP;have C:C8 [v] 0=v:=rfl;rw[C];have ax:=d (CU ht);obtain⟨P,Q,R⟩:=Mg (op:=x.op) (t:=v.type) n.word (show(0:Int)<=0/\(0:Int)<=4294967295 from oM) (λe=>⟨n.1.2 e,oM⟩) (λe=>oM)
   exact one _ (Jj.of n.1.1 P Q (λe=>R (.inl e))) (O oM) oM
 rw[jH c8]at m⊢;have aG:Ae ((8<=x.op/\x.op<=18)\/x.op=20\/x.op=21->∃v v',ar=[v,v']/\v.type=v'.type/\Jj v/\Jj v'/\((x.op=17\/x.op=18)->v.type≠1)):= λe=>by
  have:∃t,AA p f x=[t,t]/\Fd t=true/\((x.op=17\/x.op=18)->t≠1):=by
   by_cases k:x.op=17\/x.op=18
   . exact⟨3,by unfold AA;rw[jH oM,jH oM,jH oM,jH oM,jH oM,jH oM,jP k],rfl, λ_=>oM⟩
   exact⟨x.a,by unfold AA;rw[jH oM,jH oM,jH oM,jH oM,jP oM],u.type oM, λi=>absurd i k⟩
  obtain⟨t,l,ht,ai⟩:=this;rw[l]at w;obtain⟨v,v',rfl,d,bG⟩:=QX w;exact⟨v,v',rfl,by rw[d (CU ht),bG (CU ht)],F v sP,F v' sP, λi=>by rw[d (CU ht)];exact ai i⟩
 by_cases c9:x.op=20\/x.op=21
 . rw[jP c9];obtain⟨v,v',rfl,aA,n,aa,_⟩:=aG.o oM;have C:C8 [v,v'] 0=v:=rfl;have e7:C8 [v,v'] 1=v':=rfl;rw[C,e7];obtain⟨P,Q,R⟩:=Mg (op:=x.op) (t:=v.type) n.word aa.word (λe=>⟨n.1.2 e,aa.1.2 (by rw[<-aA];exact e)⟩) (λe=>oM);exact one _ (Jj.of rfl P Q (λ_=>R (.inr c9))) (O oM) oM
 rw[jH c9]at m⊢;by_cases cA:8<=x.op/\x.op<=18
 . rw[jP cA];obtain⟨v,v',rfl,aA,n,aa,ai⟩:=aG.o oM;have C:C8 [v,v'] 0=v:=rfl;have e7:C8 [v,v'] 1=v':=rfl;rw[C,e7];obtain⟨P,Q,R⟩:=Mg (op:=x.op) (t:=v.type) n.word aa.word (λe=>⟨n.1.2 e,aa.1.2 (by rw[<-aA];exact e)⟩) (λe=>⟨λk=>ai (.inl k) e, λk=>ai (.inr k) e,oM⟩);exact one _ (Jj.of n.1.1 P Q (λe=>R (.inl e))) (O oM) oM
 rw[jH cA]at m⊢;by_cases cB:x.op=22
 . rw[jP cB];(have l:AA p f x=[x.a]:=by unfold AA;rw[jH oM,jH oM,jH oM,jH oM,jH oM,jP oM]);rw[l]at w;obtain⟨v,rfl,d⟩:=Hs w;have n:=F v sP;have C:C8 [v] 0=v:=rfl;rw[C];obtain⟨P,Q,R⟩:=oR (a:=x.a) (b:=x.b) n.word;exact one _ (Jj.of (u.conv cB).2 P Q R) (O oM) oM
 rw[jH cB]at m⊢;by_cases cC:x.op=23
 . rw[jP cC];(have l:AA p f x=[0]:=by unfold AA;rw[jH oM,jH oM,jH oM,jH oM,jH oM,jH oM,jH oM,jH oM,jP oM]);have br:=aO oM;rw[show El x=2 by unfold El;rw[jH oM,jP cC]]at br;rw[l]at w;obtain⟨v,rfl,_⟩:=Hs w;have n:=F v sP;have C:C8 [v] 0=v:=rfl;rw[C];exact push [v,v] (λz A=>by simp only[jK,jO,kM,or_self]at A;rw[A];exact n) (by simp only[lG,lH];omega)
 rw[jH cC]at m⊢;by_cases cD:x.op=25
 . rw[jP cD];exact aE (u.target oM).1
 rw[jH cD]at m⊢;by_cases cE:x.op=26
 . rw[jP cE];split
   . exact aE (u.target oM).1
   exact aF
 rw[jH cE]at m⊢;by_cases cF:x.op=27
 . rw [jP cF];obtain⟨q,l,k⟩:=u.local (.inr (.inr cF));obtain⟨v,d,ax⟩:=PP G k;(have i:C8 g.a7 x.a.toNat=v:=by rw[l];exact PN d);rw[i];split
   . exact aE (u.target oM).1
   rename_i bY;have n:=aT v (hC d);have bZ:=n.word;have S:g.a7.modify q (λv=>{v with word:=v.word-1})=g.a7.set q {v with word:=v.word-1}:=by
    apply lN;intro j;rw[List.getElem?_modify,List.getElem?_set];split
    . rename_i ej;subst ej;have hj:=(f7.1 d).1;rw[d,jP hj];simp
    cases g.a7[j]?<;>rfl
   have aX:Jj {v with word:=v.word-1}:=Jj.of n.1.1 oM oM (λe=>by rw[ax,bf cF]at e;omega);refine ae _ rfl rfl ?_ ⟨H.func,H.at_,H.base, λz A=> ?_⟩
   . simp only[l,i9];rw[S];exact M0 G aX.1 (by simp only[];rw[ax];exact k)
   simp only[l,i9]at A;rw[S]at A;rcases lP A with A|rfl
   . exact L.a7 z A
   exact aX.2
 rw[jH cF]at m⊢;have cG:x.op=28:=by have:=u.1;have:=u.2.1;omega
 rw[jP cG];obtain⟨q,fq,l,k⟩:=u.callee cG;have i:p.aB[x.a.toNat]?=K fq:=by rw[l];exact k
 have aM:Cj fq:=h.prog.parts.2.2.1.2.2.1 _ (f7.1 k).1 fq k;have et:AA p f x=fq.aD:=by
  unfold AA;repeat rw[jH oM]
  rw[jP cG,i]
 rw[et]at w;have bx:=Xp w (λt ht=>CU (lX.1 aM.pt t ht));have aS:=bg cG;rw[I]at aS;simp only[jI,kE]at aS;rw[i];simp only[];have A:∀v∈fq.a7.map λty=>(⟨ty,0⟩:MC),Jj v:= λv d=>by obtain⟨t,ht,rfl⟩:=kI.1 d;exact Jj.of (lX.1 aM.lt t ht) oM oM (λ_=>oM)
 obtain⟨s1,s2⟩:=aF;have aR:∀v∈ar++fq.a7.map λty=>(⟨ty,0⟩:MC),Jj v:= λv d=>(jL.1 d).elim (F v) (A v)
 refine⟨⟨s1.prog,s1.cost,s1.steps,s1.three,s1.cells,s1.fS,s1.stack,sP,oT, λy E=> ?_,VW s1.fW (by simp only[];exact aj)⟩,⟨s2.trap,s2.cost,s2.steps,s2.cells,s2.stack, λy E=> ?_⟩⟩
 . rcases jL.1 E with E|E
   . exact s1.dk y E
   simp only[jU]at E;subst E;refine⟨oS,⟨fq,i,?_, λv d=>(aR v d).1⟩,Int.le_refl _⟩;simp only[k8,bx,mJ];(congr 1);exact List.map_id' _
 rcases jL.1 E with E|E
 . exact s2.dk y E
 simp only[jU]at E;subst E;exact⟨aY.2.1,C9 oS oS,C9 oS oS, λv d=>(aR v d).2⟩
end Go.Proofs.YtkgohaigebcgoaaGreatDoor
