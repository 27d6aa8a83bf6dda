import Derived.Test.YtkgohaigebcgoaaGreatDoorCh8
import Derived.Deep.DeepCutAuto
import Derived.Deep.RegionHeldLaw
namespace Go.Proofs.YtkgohaigebcgoaaGreatDoor
open Go.ChangeShapes Go.WideShapes Go.ChangeAt Go.RowKit Go.Proofs.Tryz
set_option linter.unusedVariables false
open Go.Value renaming slice → Z,agg → An,tuple → Ap,int → Ag,bool → Ao
open Option renaming some → K,none → M
open Go renaming Value → J,World → Y,Calls → Ai,TypeId → Aj
open Go.IntKind renaming i64 → Af
open Go.RowKit renaming Below → Ah,Hid → Ae
open Go.Obj renaming cells → Ak
open Go.Ending renaming returned → Am
open Go.Proofs.Tryz renaming prog → Aq
open Go.World renaming ownsRow → Ab,alloc → Ac,setCell → Aa
open List renaming flatMap → Ad
set_option maxHeartbeats 8000000
set_option maxRecDepth 100000
variable {w u j:Y}{e t:Aj}{a g:MG}{v:MC}{xs:List J}{p:MP}{V vl:J}{r ts:List Int}{z:Int}{F:List (MG×J)}{top i B:Nat}{s:MS}{cs:List MC}
theorem tE(w:Y):(zeroValue 89).run Aq w=.ok (.agg #[]) w:=kR
theorem Jq(b a:Nat)(D:DataW Unit)(z:Int)(w:Y)(d:Fa z)(h:AQ w b a D):
 Ai Aq 135 #[.map (K b),z] w λe f=>e=Am (Go.Maps.has D (.int Af z))/\Ah w w f:=by
 have c:w.ownsMap Aq 2 (unitElem (H:=Unit)) b a D:=h;go_enter func135,ntmps135;go_wp2_with (at_lookup;refine wpList_lookup_own_unit _ rfl _ _ 164 rfl 2 89 EX underlying164 (tE _) b a D rfl c _ _ rfl (og underlying2 d) ?_);go_ret;exact⟨rfl,Al _ _⟩
theorem Wl(b:Nat)(w:Y):
 Ai Aq 59 #[.map (K b),Z M 0 0] w λe a=>e=Am (.tuple #[])/\a=w:=by
 go_enter func59,ntmps59;go_wp2;go_loopw [8] (λi wr=>i=.int Af 0/\wr=w) (λ_ _=>0)
 case atStart=>exact⟨rfl,rfl⟩
 obtain⟨rfl,rfl⟩:=hrel;go_wp2;go_end0;exact⟨rfl,rfl⟩
def Gb(w:Y)(g o n:Nat)(E:Nat->List Nat):Prop:=∀b,b<n->∃a c,w ⟨g,o+b,M⟩=K (Z a (E b).length c)/\Lb w (Z a (E b).length c) (E b)
theorem Gb.av{e:Y}{g o n:Nat}{E:Nat->List Nat}(h:Gb w g o n E)(d:Ah w w e):Gb e g o n E:= λb k=>by obtain⟨a,c,f,j⟩:=h b k;exact⟨a,c,Az d f,j.av d⟩
def qg(c a d b:Nat):J:=.func (.func 134) #[] #[.pointer c,.pointer a,.pointer d,.pointer b]
structure PO(w u:Y)(n bm bs be bw bl:Nat)(EV V:J)(S O:List Nat):Prop where
 set:∃cnt D,AQ u bm cnt D/\cnt+Bq S n<=n+1/\∀x:Nat,Go.Maps.has D (.int Af (x:Int))=S.contains x
 sb:Ay u bs #[.map (K bm)] 164
 eb:Ay u be #[EV] 28
 wb:Ay u bw #[qg bs be bw bl] 219
 lb:Ay u bl #[V] 27
 list:Kk u w V O
 cq:Ah w w u
 ge: ↑w<=bm/\ ↑w<=bl
 len: ↑O+Bq S n<=n
theorem PO.av{n e f c g d:Nat}{b V:J}{S O:List Nat}(h:PO w u n e f c g d b V S O)(a:Ah u.heap.size u j):PO w j n e f c g d b V S O:=by obtain⟨k,D,l,m,p⟩:=h.set;exact⟨⟨k,D,l.av a,m,p⟩,h.sb.av a,h.eb.av a,h.wb.av a,h.lb.av a,h.list.av a,Ar h.cq lR a,h.ge,h.len⟩
theorem Ay.gb{c:Y}{b:Nat}{a:Array J}{row:Option Nat}(h:Ay w b a t)(d:w.grownBy c row)(e:K b≠row):Ay c b a t:=by unfold Ay at*;rw[d.block b (mH.1 h).1 e];exact h
theorem MA{b a f:Nat}{D:DataW Unit}{g:Array J}(h:AQ w b f D)(d:Ay w a g t):a≠b:= λe=>by obtain⟨k,j,c,_⟩:=h;subst e;unfold Ay at d;rw[d]at c;cases c
theorem MD{base k n b d:Nat}{v:J}{D:DataW Unit}(h:Ab w base e k v n xs)(j:AQ w b d D):K b≠v.ownBlock:=by
 obtain⟨p,l,f,_⟩:=j;intro a;rcases h.2 with⟨rfl,_⟩|⟨g,cap,m,rfl,_,c,_⟩
 . cases a
 simp only[Value.ownBlock,lX]at a;subst a;rw[f]at c;cases c
theorem PO.add{w u m:Y}{n a v r y s f b:Nat}{p:J}{S O:List Nat}{D:DataW Unit}(h:PO w u n a v r y s p V S O)(l:AQ u a f D)(H:f+Bq S n<=n+1)(B:∀x:Nat,Go.Maps.has D (.int Af (x:Int))=S.contains x)(C:b<n)(E:b∉S)(G:AQ m a (f+1) (D.put (.int Af (b:Int)) (.agg [])))(c:u.grownBy m (K a)):PO w m n a v r y s p V (b::S) O:=by
 have I:=FP S n b C E;have d:∀{q:Nat} {A:Array J} {t:Aj},Ay u q A t->K q≠K a:= λk e=>MA l k (mD e)
 refine⟨⟨_,_,G,oM, λx=> ?_⟩,h.sb.gb c (d h.sb),h.eb.gb c (d h.eb),h.wb.gb c (d h.wb),h.lb.gb c (d h.lb),DF h.list c (λg z e=>by rw[e]at z;exact MD h.list l z.symm),h.cq.grown c h.cq.size (λj F=>by cases F;exact h.ge.1),h.ge,by have:=h.len;omega⟩;rw[Ep D (oD l),B x];by_cases e:x=b
 . subst e;simp
 have:¬(x:Int)=(b:Int):=oM;simp[e,this]
theorem PO.al{n d e b f c:Nat}{a:J}{S O:List Nat}(h:PO w u n d e b f c a V S O)(o:Obj):Ab (u.alloc o) w 2 1 V O (nv O)/\ ↑w<=(u.alloc o).heap.size:=⟨h.list.av (Al _ _),mC h.cq.size (Al _ _).size⟩
theorem PO.jt{w u f:Y}{n m y v z d b:Nat}{r l:J}{S O:List Nat}(h:PO w u n m y v z d r V S O)(C:Ab f w 2 1 l (O.length+1) (nv O++[.int Af (b:Int)]))(g:(Ac u (Ak #[.int Af (b:Int)] 2)).grownBy f V.ownBlock)(R: ↑O+1+Bq S n<=n):Ay f d #[V] 27/\PO w (f.setCell d l) n m y v z d r l S (O++[b]):=by
 have H:=Al u (Ak #[b] 2);have c:=h.av H;obtain⟨A,D,B,L,N⟩:=c.set;have s1:AQ f m A D:=World.ownsMap.kept B g (MD c.list B);have j:Ay f d #[V] 27:=c.lb.grown g c.list dC;have F:=c.sb.grown g c.list dC;have E:=c.eb.grown g c.list dC;have G:=c.wb.grown g c.list dC;have P:Ah w w f:=c.cq.grown g c.cq.size (λi Q=>(c.list.lt i Q).1);have p:∀{s:Nat} {I:Array J} {t:Aj},Ay f s I t->t≠27->s≠(⟨d,0,M⟩:Addr).block:= λk q e=>by simp only[]at e;subst e;unfold Ay at k j;rw[j]at k;simp only[lX,nz]at k;exact q k.2.1.symm
 refine⟨j,⟨A,D,?_,L,N⟩,F.other (p F dC) _,E.other (p E dC) _,G.other (p G dC) _,?_,?_,P.setCell h.ge.2 _,h.ge,by rw[mB,mT];exact R⟩
 . refine World.ownsMap.kept s1 (row:=K d) ⟨rfl,rfl,rfl,by rw[oN];exact Nat.le_refl _, λk U T=>oJ f _ k _ (λe=>T (by rw[e]))⟩ (λe=>MA s1 j (mD e).symm)
 . have:=j.set 0 l;simpa using this
 unfold Kk;rw[mB,mT,Mk];exact mR C (a:=⟨d,0,M⟩) (λq=>FA C j dC d q rfl) _
theorem Qc{X:Nat}{a b c x3:J}(h:Ay u X #[a,b,c,x3] t):u X=K a/\u ⟨X,1,M⟩=K b/\u ⟨X,2,M⟩=K c/\u ⟨X,3,M⟩=K x3:=⟨h.cell 0,h.cell 1,h.cell 2,h.cell 3⟩
theorem Fi(a:0<=z)(b:z<=1048576):Fa z:=WalkArith.wf_i64 oM
theorem Nw(s:J)(xs:List MI)(w:Y)(R:Bd xs)(h:Rd w 4 s xs (Ad MI.cells xs)):
 Ai Aq 54 #[s] w λe w'=>∃g cap,e=Am (sG g (CY xs xs).length cap)/\Ab w' w 2 1 (sG g (CY xs xs).length cap) (CY xs xs).length (Ad At ((CY xs xs).map Int.ofNat))/\Ah w w w':=by
 have H:=Aw h;have HG:=Aw R;have aJ:=R.1;have aK:=R.2.1;obtain⟨a1,c1,rfl⟩:=h.aD;clear h R;generalize aj:xs.length=n at H aJ aK;have E:=Aw aj;clear aj;have aS:= @run_makeMap Aq;have S0:AQ (Ac w (.map #[] 0)) w 0 (.map []):=World.ownsMap_made _ _ _ _;have B0:Ah w w (Ac w (.map #[] 0)):=Al _ _;have z0:(Ac w (.map #[] 0)).heap.size= ↑w+1:=sP
 have au:(Ac (Ac w (.map #[] 0)) (Ak #[iZ 0] 2)) ⟨(w:Nat)+1,0,M⟩=K (iZ 0):=by have:=(Ay.new (Ac w (.map #[] 0)) #[iZ 0] 2).cell 0;rw[z0]at this;exact this
 have Q:Ae (AQ (Ac (Ac w (.map #[] 0)) (Ak #[iZ 0] 2)) w 0 (.map [])/\Ah w w (Ac (Ac w (.map #[] 0)) (Ak #[iZ 0] 2))):=⟨S0.av (Al _ _),Ar B0 lR (Al _ _)⟩
 have f:Ae _:=au;clear S0 B0 z0 au;go_enter func54,ntmps54;go_wp2_with fail;refine(Da w 0 ((w:Nat)+1) 1 (.map []) 0 _ (Fi oM oM) oM f oM Q.1).mono ?_;rintro e u1 ⟨rfl,s1,g1⟩;have G:Ae (∃d D,d<=1/\AQ u1 w d D/\Eu D xs 0/\Ah w w u1):=⟨_,_,Nat.le_refl _,s1,Eu.start xs _,Q.2.grown g1 Q.2.size (λj O=>by cases O;exact Nat.le_refl _)⟩
 clear s1 g1 Q f;go_wp2;go_loopw [12] (λi wr=>∃k:Nat,k<=n/\i=iZ k/\Ae (∃d D,d<=2*k+1/\AQ wr w d D/\Eu D xs k/\Ah w w wr)) (λi _=>n-(intOf i).toNat)
 case atStart=>exact⟨0,oM,rfl,G⟩
 clear G;obtain⟨k,hk,rfl,G⟩:=hrel;obtain⟨d,D,aQ,aa,ax,aq⟩:=G.o;have l:=Aw (lN ax (lN aq (lN aa (oD aa))));clear aa ax aq G;by_cases aO:k<n
 . obtain⟨x,A⟩:∃x,xs[k]?=K x:=⟨_,an (by rw[E];exact aO)⟩;have P:=Aw A;rcases H.2 with⟨e0,_⟩|⟨g,o,c,e1,y⟩
   . omega
   simp only[lU,mj]at e1;obtain⟨rfl,rfl⟩:=e1;have x0:=Rd.elem MI.bW y k _ A 0 _ rfl;have x1:=Rd.elem MI.bW y k _ A 1 _ rfl;have x2:=Rd.elem MI.bW y k _ A 2 _ rfl;have x3:=Rd.elem MI.bW y k _ A 3 _ rfl;rw[<-l.2.1.cell (lT x0),mL]at x0;rw[<-l.2.1.cell (lT x1)]at x1;rw[<-l.2.1.cell (lT x2)]at x2;rw[<-l.2.1.cell (lT x3)]at x3;clear y A;have aR:(k:Int)<(n:Int):=oM;have ai:Ae (LX w wr (Ac wr (Ak #[x.op,x.a,x.b,x.c] 25)) x d D):=⟨l.2.2.1.av (Al _ _),Ay.new _ _ _,Ar l.2.1 lR (Al _ _),oL l.2.2.1⟩;(go_upto_region 6 with fail);refine Av (λu=>Ae (LX w wr u x d D)) ai ?_;intro U1 V;clear ai x0 x1 x2 x3;obtain⟨a0,m,p,r⟩:=Qc V.xb;go_wp2_with fail;refine(CA x _).mono ?_;rintro e T ⟨rfl,b2⟩;have v:=Aw (V.av b2);clear b2 a0 m p r V;cases hgo:Bt x
   . obtain⟨a0,m,p,r⟩:=Qc v.xb;go_wp2_with fail;refine(CA x _).mono ?_;rintro e t ⟨rfl,b3⟩;have I:=Aw (v.av b3);clear b3 a0 m p r v;rw[hgo];obtain⟨a0,m,p,r⟩:=Qc I.xb;by_cases S:x.op=29
     . rw[S]at a0;have f:Ae ((Ac t (Ak #[iZ ((k:Int)+1)] 2)) t=K (iZ ((k:Int)+1))/\LX w wr (Ac t (Ak #[iZ ((k:Int)+1)] 2)) x d D/\¬(t:Nat)= ↑w):=⟨(Ay.new t #[iZ ((k:Int)+1)] 2).cell 0,I.av (Al _ _),by have:=oL I.set;omega⟩
       go_wp2_with fail;refine(Da w d t 1 D ((k:Int)+1) _ (Fi oM oM) oM f.1 f.2.2 f.2.1.set).mono ?_;rintro e u4 ⟨rfl,B,L⟩;have F:Ae (∃d D,d<=2*(k+1)+1/\AQ u4 w d D/\Eu D xs (k+1)/\Ah w w u4):=⟨_,_,oM,B,l.1.ret l.2.2.2 P hgo S,(f.2.1.grown B L).cq⟩
       clear B L a0 m p r;go_wp2;go_roundw;(case rel=>exact⟨k+1,oM,by go_num,F⟩);exact oI
     (have aT:(x.op==29)=false:=by simpa using S);have F:Ae (∃d D,d<=2*(k+1)+1/\AQ t w d D/\Eu D xs (k+1)/\Ah w w t):=⟨_,_,oM,I.set,l.1.none P hgo S,I.cq⟩
     go_wp2;go_roundw;(case rel=>exact⟨k+1,oM,by go_num,F⟩);exact oI
   obtain⟨aI,y⟩:=HG.2.2 k x P hgo;rw[E]at y;obtain⟨a0,m,p,r⟩:=Qc v.xb;have f:=Aw (lN ((Ay.new T #[x.c] 2).cell 0) (lN ((v.av (Al _ _)):LX w wr (Ac T (Ak #[x.c] 2)) x d D) ((by have:=oL v.set;omega):¬(T:Nat)= ↑w)))
   go_wp2_with fail;refine(Da w d T 1 D x.c _ (Fi oM oM) oM f.1 f.2.2 f.2.1.set).mono ?_;rintro e u4 ⟨rfl,B,L⟩;have W:=Aw (f.2.1.grown B L);clear B L a0 m p r f v;obtain⟨a0,m,p,r⟩:=Qc W.xb;go_wp2_with fail;refine(CA x _).mono ?_;rintro e C ⟨rfl,b5⟩;have X:=Aw (W.av b5);clear b5 a0 m p r W;rw[hgo];obtain⟨a0,m,p,r⟩:=Qc X.xb;have f:Ae ((Ac C (Ak #[.int Af ((k:Int)+1)] 2)).cell? C=K (.int Af ((k:Int)+1))/\LX w wr (Ac C (Ak #[.int Af ((k:Int)+1)] 2)) x (d+1) (D.put (.int Af x.c) (.agg []))/\¬(C:Nat)= ↑w):=⟨(Ay.new C #[.int Af ((k:Int)+1)] 2).cell 0,X.av (Al _ _),by have:=oL X.set;omega⟩
   go_wp2_with fail;refine(Da w (d+1) C 1 (D.put (.int Af x.c) (.agg [])) ((k:Int)+1) _ (Fi oM oM) oM f.1 f.2.2 f.2.1.set).mono ?_;rintro e u6 ⟨rfl,s6,g6⟩;have F:Ae (∃d D,d<=2*(k+1)+1/\AQ u6 w d D/\Eu D xs (k+1)/\Ah w w u6):=⟨_,_,oM,s6,l.1.goes l.2.2.2 P hgo aI,(f.2.1.grown s6 g6).cq⟩
   clear s6 g6 a0 m p r;go_wp2;go_roundw;(case rel=>exact⟨k+1,oM,by go_num,F⟩);exact oI
 obtain rfl:k=n:=oM;go_wp2_with (at_delete;refine wpList_delete_own _ rfl _ _ 164 2 rfl 89 EX underlying164 _ w d D rfl l.2.2.1 _ _ rfl (og underlying2 (Fi (z:=(k:Int)) oM oM)) ?_;intro w1 aE aG);have U:=Aw (lN aE (l.2.1.grown aG.grown l.2.1.size (λj O=>by cases O;exact Nat.le_refl _)));clear aE aG;go_wp2_with fail;refine(I7 w d _ _ oM U.1).mono ?_;rintro e u9 ⟨g9,aH,zs,rfl,ae,aF,aA,b9⟩;have ez:zs=(CY xs k).map Int.ofNat:=by
  refine I8 _ _ aF (oj.2 ((DC xs k).imp (λh=>by simpa using h))) λz=> ?_
  rw[aA,mV];constructor
  . rintro⟨h1,N⟩;by_cases e:z=(k:Int)
    . subst e;rw[Go.Maps.has_del_same]at N;cases N
    rw[Go.Maps.has_del_other (λq=>e (by cases q;rfl)),l.1 z]at N;simp only[mu,mo]at N;have:=N.2;rw[<-E]at this;have aM:=Zq xs _ HG this;rw[E]at aM;exact⟨z.toNat,(Df _ _ _).2 ⟨oM,this⟩,oT⟩
  rintro⟨j,O,rfl⟩;obtain⟨j1,j2⟩:=(Df _ _ _).1 O;rw[E]at j2;refine⟨Fi sP oT,?_⟩;rw[Go.Maps.has_del_other (λq=>by cases q;omega),l.1];simp[j2]
 subst ez;rw[mQ]at ae;have HE:=Aw (lN (BG ae U.2.size) (Ar U.2 lR b9));clear ae aF aA b9;rw[mQ];go_wp2;go_ret;exact⟨g9,aH,rfl,HE.1,HE.2⟩
structure Im(w u:Y)(v:VP)(g:VF)(f:MF)(op a b c:Int):Prop where
 sb:Ay u w #[v.r,v.k,v.f,v.t,g.p,f.cu,g.l,g.c] 109
 ib:Ay u ((w:Nat)+1) #[op,a,b,c] 25
 cq:Ah w w u
theorem Im.of(w:Y)(v:VP)(g:VF)(f:MF)(op a b c:Int):Im w (Ac (Ac w (Ak #[v.r,v.k,v.f,v.t,g.p,f.cu,g.l,g.c] 109)) (Ak #[op,a,b,c] 25)) v g f op a b c:=by
 have e:=Al w (Ak #[v.r,v.k,v.f,v.t,g.p,f.cu,g.l,g.c] 109);have j:=Ay.new w #[v.r,v.k,v.f,v.t,g.p,f.cu,g.l,g.c] 109;generalize n:Ac w (Ak #[v.r,v.k,v.f,v.t,g.p,f.cu,g.l,g.c] 109)=d at e j⊢;have q:(d:Nat)= ↑w+1:=by rw[<-n];simp
 have h:=Al d (Ak #[op,a,b,c] 25);have m:=Ay.new d #[op,a,b,c] 25;rw[q]at m;exact⟨j.av h,m,Ar e lR h⟩
def DI(w:Y)(ts:List Int)(e:Ending)(a:Y):Prop:=∃s,e=Am s/\Rd a 1 s ts (Ad At ts)/\Ah w w a
theorem GX(a:Ah w w u)(ts:List Int)(n c:Nat)(d:n= ↑ts):DI w ts (Am (Z u n c)) (Ac u (Ak (Ad At ts).toArray 2)):=by subst d;refine⟨_,rfl,⟨by rw[AX At 1 AE],.inr ⟨u,0,c,rfl, λj v b=> ?_⟩⟩,Ar a lR (Al _ _)⟩;rw[pD _ u (0+j) _ _ _ (Uj u (Ad At ts).toArray 2),m9];simpa using b
theorem T1(a:Ah w w u):DI w [] (Am (Z M 0 0)) u:=⟨_,rfl,⟨rfl,.inl ⟨rfl,_,_,rfl⟩⟩,a⟩
theorem Fb(v:VP)(p:MP)(g:VF)(f:MF)(op c:Int)(q z:Nat)(r:List Int)(X:Int)(w:Y)(R:p.small)(hr:OO w v.r p.az)(d:p.az[q]?=K r)(F:r[z]?=K X):
 Ai Aq 155 #[An #[v.r,v.k,v.f,v.t,g.p,f.cu,g.l,g.c],An #[op,q,z,c]] w λe w'=>e=Am X/\Ah w w w':=by
 obtain⟨xs,D,O,P⟩:=hr;have aa:=(f7.1 d).1;have ae:=(f7.1 F).1;have aq:=R.az;have aj:=R.region r (lP d);obtain⟨⟨r',yv⟩,j⟩:∃x,xs[q]?=K x:=⟨_,an (by rw[<-mQ (f:=Prod.fst),D];exact aa)⟩;have C:=FU D j;rw[d]at C;obtain rfl:r=r':=mD C;have E:=P _ (lP j);simp only[]at E;rcases O.2 with⟨e0,_⟩|⟨b,s,c1,N,Q⟩
 . omega
 have m:=Rd.elem Dx Q q _ j 0 _ rfl;rw[nX,mL]at m;simp only[]at m;obtain⟨gk,ok,ck,e,T⟩:=ZD E rfl F;subst e;obtain⟨vr,A,y,B⟩:=v;simp only[]at N;subst N;have ai:(q:Int)<(p.az:Int):=oM;have au:(z:Int)<(r:Int):=oM;have L:Ae (Im w (Ac (Ac w (Ak #[Z (K ⟨b,s,M⟩) p.az c1,A,y,B,g.p,f.cu,g.l,g.c] 109)) (Ak #[op,q,z,c] 25)) ⟨Z (K ⟨b,s,M⟩) p.az c1,A,y,B⟩ g f op q z c):=Im.of w ⟨Z (K ⟨b,s,M⟩) p.az c1,A,y,B⟩ g f op q z c;clear Q O P E j C D d F;go_enter func155,ntmps155;go_upto_region 1 with fail
 refine Av (λu=>Ae (Im w u ⟨Z (K ⟨b,s,M⟩) p.az c1,A,y,B⟩ g f op q z c)) L ?_;rintro U a;clear L;have I:=a.sb.cell 0;have G:=a.ib.cell 1;have H:=a.ib.cell 2;simp only[lQ,lO,lS]at I G H;have S:=Au a.cq m;have V:=Au a.cq T;have inst:=Ax.some U;have J0:= λn:Ax U=>Ax.cell I n
 have J1:= λn:Ax U=>Ax.cell G n
 have J2:= λn:Ax U=>Ax.cell H n
 have J3:= λn:Ax U=>Ax.cell S n
 have J4:= λn:Ax U=>Ax.cell V n
 clear m T;go_wp2_with fail;refine AC kR kR ?_;repeat(go_big_quiet_step (fail))
 refine wpQuiet_nil ?_;rintro ax ⟨W,rfl⟩;have HE:Ae (Ah w w W.u):=Ar a.cq lR W.h;clear J0 J1 J2 J3 J4 inst I G H S V;go_wp2_with fail;go_ret;exact⟨rfl,HE⟩
theorem Ro(g:VF)(f:MF)(w:Y):Ai Aq 156 #[An #[g.p,f.cu,g.l,g.c]] w (DI w (Bn f)):=by
 have d:Ae (Ay (Ac w (Ak #[g.p,f.cu,g.l,g.c] 34)) w #[g.p,f.cu,g.l,g.c] 34/\Ah w w (Ac w (Ak #[g.p,f.cu,g.l,g.c] 34))):=⟨Ay.new _ _ _,Al _ _⟩
 by_cases a:f.cu=0
 . (have j:(f.cu==0)=true:=by simpa using a);(have e:Ae (Bn f=[]):=by unfold Bn;rw[mE a];exact rfl);rw[e];clear a;go_enter func156,ntmps156;(go_upto_region 1 with fail);refine Av (λu=>Ae (Ay u w #[g.p,f.cu,g.l,g.c] 34/\Ah w w u)) d ?_
   rintro U b;clear d;have h:=b.1.cell 1;simp only[lQ,lO,lS]at h;go_wp2_with fail;go_ret;exact T1 b.2
 have j:(f.cu==0)=false:=by simpa using a
 have e:Ae (Bn f=[f.cu]):=by unfold Bn;rw[lY a];exact rfl
 rw[e];clear a;go_enter func156,ntmps156;go_upto_region 1 with fail
 refine Av (λu=>Ae (Ay u w #[g.p,f.cu,g.l,g.c] 34/\Ah w w u)) d ?_
 rintro U b;clear d;have h:=b.1.cell 1;simp only[lQ,lO,lS]at h;go_wp2_with fail;go_ret;exact GX b.2 [f.cu] 1 1 rfl
theorem Xa{f:MF}{x:MI}(D:AY p 0)(c:AV p f x):∀t∈Bg p f x,t=0->x.op=23:=by
 have j:=D.parts;have one:∀t:Int,t≠0->(∀u∈[t],u=0->x.op=23):= λt d u A e=>by simp only[mK]at A;exact absurd (A.symm.trans e) d
 unfold Bg;by_cases c1:x.op=1
 . rw[mE c1];obtain⟨q,z,g,b⟩:=c.const c1;have C:=j.2.1.2 q (f7.1 b).1 z b;(have h:C5 p.b8 x.a.toNat=z:=by unfold C5;rw[g,lV,b];rfl);rw[h];exact one _ (CV C.1)
 rw[lY c1];by_cases c2:x.op=2
 . rw[mE c2];exact one _ (c.kU c2)
 rw[lY c2];by_cases c4:x.op=4\/x.op=6
 . rw[mE c4];obtain⟨q,z,r,g,b,h,B⟩:=c.cell j.1.1 oM;have:=(j.1.2 q (f7.1 h).1 r h).2;exact one _ (CV (nV.1 this _ (lP B)))
 rw[lY c4];by_cases y:8<=x.op/\x.op<=16
 . rw[mE y];exact one _ (CV (c.type oM))
 rw[lY y];by_cases s:x.op=17\/x.op=18
 . rw[mE s];exact one _ dC
 rw[lY s];by_cases v:x.op=19
 . rw[mE v];exact one _ dC
 rw[lY v];by_cases w:x.op=20\/x.op=21
 . rw[mE w];exact one _ dC
 rw[lY w];by_cases k:x.op=22
 . rw[mE k];exact one _ (CV (c.conv k).2)
 rw[lY k];by_cases l:x.op=23
 . rw[mE l];exact λ_ _ _=>l
 rw[lY l];by_cases m:x.op=28
 . rw[mE m];obtain⟨q,fq,g,b⟩:=c.callee m;have E:Cb fq:=j.2.2.1.2.2.1 q (f7.1 b).1 fq b;rw[g,lV,b];simp only[];unfold Bn;by_cases n:fq.cu=0
   . rw[mE n];exact λt d=>(by cases d)
   rw[lY n];exact one _ n
 rw[lY m];exact λt d=>(by cases d)
def jf(I:List Nat)(b:Nat):Nat:=I.getD b 0
def cf(C:List Int)(c:Nat):Int:=C.getD c 0
def Jr(P:Nat->Bool)(n b:Nat):Prop:=b<n/\P b=true
theorem px{I:List Nat}{b t:Nat}(h:I[b]?=K t):jf I b=t:=by unfold jf;rw[mI,h];rfl
theorem Kt{C:List Int}{b:Nat}{t:Int}(h:C[b]?=K t):cf C b=t:=by unfold cf;rw[mI,h];rfl
theorem Hg{C:List Int}{k b:Nat}{c y:Int}(h:C[k]?=K y):cf (C.set k c) b=if b=k then c else cf C b:=by
 have a:=(f7.1 h).1;unfold cf;rw[mI,mI,List.getElem?_set];by_cases e:b=k
 . subst e;simp[a]
 rw[lY (Ne.symm e),lY e]
section
variable {E:Nat->List Nat} {n:Nat} {P:Nat->Bool} {I:List Nat} {C:List Int} {f:Nat} {bd0 bd:Bool} {L L0:List Int} {O eb:List Nat} {ag:Bool} {m b q x:Nat}
end
theorem Uh{b:Int}{fs:List MG}(h:Ck b fs):∀g∈fs,b<=g.base:=by
 induction fs generalizing b with
 |nil=>intro g a;cases a
 | cons x r c=>
   intro g a;rcases lW.1 a with rfl|a
   . exact h.1
   exact Int.le_trans h.1 (c h.2 g a)
theorem Sw(k:Nat)(a:k<30):0<=Bl k/\Bl k<=8:=by
 have h:∀k:Fin 30,0<=Bl (k.val:Int)/\Bl (k.val:Int)<=8:=by decide+kernel
 exact h ⟨k,a⟩
theorem N3{op:Int}(a:0<=op)(c:op<=29):0<=Bl op/\Bl op<=8:=by obtain⟨k,b⟩:=mJ a;subst b;exact Sw k oM
theorem Zn{y:MG×J}(a: ↑F=top+1)(b:F[top]?=K y):(F.map Prod.fst).getLast?=K y.1:=by rw[List.getLast?_eq_getElem?,mQ,a,Nat.add_sub_cancel,mN,b];rfl
theorem ru{s:J}{is:List MI}{q:Nat}{x:MI}(h:Rd w 4 s is (Ad MI.cells is))(d:is[q]?=K x):∃gk ok ck,s=Z (K ⟨gk,ok,M⟩) is ck/\w ⟨gk,ok+q*4,M⟩=K ↑x.op/\w ⟨gk,ok+q*4+1,M⟩=K ↑x.a/\w ⟨gk,ok+q*4+2,M⟩=K ↑x.b/\w ⟨gk,ok+q*4+3,M⟩=K ↑x.c:=by
 have g:=(f7.1 d).1;rcases h.2 with⟨e,_⟩|⟨gk,ok,ck,e,f⟩
 . omega
 exact⟨gk,ok,ck,e,Rd.elem MI.bW f q x d 0 _ rfl,Rd.elem MI.bW f q x d 1 _ rfl,Rd.elem MI.bW f q x d 2 _ rfl,Rd.elem MI.bW f q x d 3 _ rfl⟩
theorem Ei{y:MG×J}(a: ↑F=top+1)(c:F[top]?=K y)(h:MG->MG):Du (F.map Prod.fst) h=(F.set top (h y.1,y.2)).map Prod.fst:=by
 unfold Du;rw[mQ,a,Nat.add_sub_cancel,List.map_set];apply nj;intro j;rw[List.getElem?_modify,List.getElem?_set];by_cases b:top=j
 . subst b;obtain⟨_,rfl⟩:=f7.1 c;simp[a]
 cases (List.map Prod.fst F)[j]?<;>simp[b]
theorem Pz{f:MF}{x:MI}(h:AY p 0):(AA p f x).length<=8:=by
 unfold AA;repeat' split
 all_goals first|(rename_i g a;exact(h.parts.2.2.1.2.2.1 _ (f7.1 a).1 g a).par)|simp
theorem ZE{a:Option Addr}{c:Nat}(h:cs.length=0):Rd w 2 (Z a 0 c) 0 (Ad MC.cells cs):=by obtain rfl:=mG h;exact⟨rfl,.inl ⟨rfl,_,_,rfl⟩⟩
theorem C4{a:Option Addr}{c m:Nat}(b:m=0)(h: ↑cs=m):Rd w 2 (Z a m c) m (Ad MC.cells cs):=by subst b;exact ZE h
theorem TR{g n c c' kl m:Nat}{K:List MC}(h:Rd w 2 (Z g n c) n (Ad MC.cells K))(s: ↑K=n)(r:n=kl+m):Rd w 2 (Z (some ⟨g,kl*2,M⟩) m c') m (Ad MC.cells (K.drop kl)):=by
 refine⟨by rw[AX MC.cells 2 MC.bW,m8];congr 1;omega,?_⟩;rcases h.2 with⟨e,_⟩|⟨q,t,p,e,k⟩
 . exact .inl ⟨oM,_,_,by rw[show m=0 from oM]⟩
 simp only[lU,lX,ny,mj,oZ]at e;obtain⟨⟨rfl,rfl⟩,_⟩:=e;refine .inr ⟨g,kl*2,c',rfl, λj u l=> ?_⟩;have:(Ad MC.cells K)[kl*2+j]?=some u:=by
  rw[<-l];have b:Ad MC.cells (K.drop kl)=(Ad MC.cells K).drop (kl*2):=by (have d:Ad MC.cells K=Ad MC.cells (K.take kl)++Ad MC.cells (K.drop kl):=by rw[<-mW,n9]);rw[d];(have f:(Ad MC.cells (K.take kl)).length=kl*2:=by rw[AX MC.cells 2 MC.bW,nF,Nat.min_eq_left oM]);rw[<-f,List.drop_left]
  rw[b,pM]
 have a:=k _ _ this;rw[m9]at a;exact a
theorem UU(h:F[top]?=K (a,vl))(z:Int):Bh (F.set top ({a with at_:=z},vl))=Bh F:=by rw[Gp];have e:=BA h;exact Rt _ _ _ e
theorem Yb{C:List (J×List MC)}{K:List MC}{c n co k:Int}{f:MF}{x:MI}{b:Nat}(d:(A3 0 false c n C K F).dk.getLast?=some a)(e:p.aC[a.func.toNat]?=some f)(g:a.at_=(b:Int))(m:f.aU[b]?=some x)(h:Bl x.op=co)(l:EH p f a (A3 0 false c n C K F) x=k)(j:k≠0):Bb p (A3 0 false c n C K F) (A3 k false (c+co) (n+1) C K F):=by subst h;exact Bb.trap d e oM (by rw[g,lV];exact m) l j
theorem Ya{C:List (J×List MC)}{K:List MC}{c n co:Int}{f:MF}{x:MI}{b:Nat}(d:(A3 0 false c n C K F).dk.getLast?=some a)(e:p.aC[a.func.toNat]?=some f)(g:a.at_=(b:Int))(l:f.aU[b]?=some x)(h:Bl x.op=co)(k:EH p f a (A3 0 false c n C K F) x=0)(j:s=DR p f a (A3 0 false (c+co) (n+1) C K F) x):Bb p (A3 0 false c n C K F) s:=by subst h j;exact Bb.does d e oM (by rw[g,lV];exact l) k
theorem VR{C:List (J×List MC)}{K:List MC}{c n:Int}{f:MF}{x:MI}{b:Nat}(d:x.op=29)(e:a.base=(b:Int)):EH p f a (A3 0 false c n C K F) x=if(K.drop b).map MC.type=Bn f then 0 else 6:=by unfold EH;simp only[d,e,lV,if_true,A3]
theorem WJ{K:List MC}{b m:Nat}(a:b<= ↑K)(c:m<= ↑K-b):(K.drop b).drop ((K.drop b).length-m)=K.drop (↑K-m):=by
 rw[List.drop_drop,m8];congr 1
 omega
theorem RC{C:List (J×List MC)}{K:List MC}{c n:Int}{e:MG}{f:MF}{x:MI}{b:Nat}(g:x.op≠29)(h:e.base=(b:Int))(j:b<= ↑K)(k:AA p f x=ts):EH p f e (A3 0 false c n C K F) x=if ↑K-b< ↑ts then 1 else if BH (K.drop (K.length-↑ts)) ts=false\/(x.op=27/\AJ f x.a≠3)then 2 else if x.op=28 then(if F.length<32 then 0 else 5)else if 64< ↑K-↑ts+Ef x then 3 else 0:=by
 subst k;unfold EH;simp only[h,lV,A3,lY g,mQ];rw[m8];by_cases d: ↑K-b<(AA p f x).length
 . rw[mE d,mE d]
 rw[lY d,lY d];have:=WJ (m:=(AA p f x).length) j oM;rw[m8]at this;rw[this];rfl
theorem YM{f:MF}{C:List (J×List MC)}{K:List MC}{c n:Int}{x:MI}(a:x.op=29):A3 0 (decide (F.length=1)) c n C K (F.take (F.length-1))=DR p f g (A3 0 false c n C K F) x:=by simp[DR,a,A3];rw[List.dropLast_eq_take,mQ]
theorem WE{f fq:MF}{C:List (J×List MC)}{K ar:List MC}{vv:J}{c n:Int}{x:MI}{q top:Nat}(k:x.op=28)(s:x.a=(q:Int))(r:p.aC[q]?=some fq)(b: ↑ar=(AA p f x).length)(m:K.drop (K.length-↑ar)=ar)(l: ↑F=top+1)(t:F[top]?=some (g,vl)):A3 0 false c n C (K.take (K.length-↑ar)) (F.set top ({g with at_:=g.at_+1},vl)++[(⟨q,0,((K.length-↑ar:Nat):Int),ar++A8 fq.aB⟩,vv)])=DR p f g (A3 0 false c n C K F) x:=by
 have d:(A3 0 false c n C K F).stack.drop ((A3 0 false c n C K F).stack.length-(AA p f x).length)=ar:=by rw[<-b];exact m
 have e:(A3 0 false c n C K F).stack.take ((A3 0 false c n C K F).stack.length-(AA p f x).length)=K.take (K.length-↑ar):=by rw[<-b];rfl
 have j:Du (A3 0 false c n C K F).dk (λh=>{h with at_:=g.at_+1})=(F.set top ({g with at_:=g.at_+1},vl)).map Prod.fst:=Ei l t _;simp only[DR,d,e,j,k];simp[A3,s,r,A8]
theorem PC{b:List MC}{t:Int}(h:Dy b ts)(c:ts[i]?=K t):∃v,b[i]?=K v/\v.type=t:=by
 have a:(b.map MC.type)[i]?=K t:=by rw[h.1];exact c
 rw[mN]at a;cases hv:b[i]? with
 |none=>rw[hv]at a;cases a
 |some v=>rw[hv]at a;exact⟨v,rfl,mD a⟩
theorem PB{l:List MC}(h:l[i]?=K v):C5 l i=v:=by unfold C5;rw[h];rfl
theorem MR{b:List MC}(h:Dy b ts)(d:CH v)(c:ts[i]?=K v.type):Dy (b.set i v) ts:=by
 refine⟨?_, λq a=> ?_⟩
 . rw[List.map_set,h.1];apply nj;intro j;rw[List.getElem?_set];split
   . rename_i e;subst e;split
     . exact c.symm
     rename_i f;rw[mc oM]
   rfl
 rcases nw a with a|rfl
 . exact h.2 q a
 exact d
theorem NY(h:IF p s)(hw:s.wf){a b:Nat}(u:p.az[a]?=K r)(n:Jf v)(w:r[b]?=K v.type):
 (∀(i:Nat) c q,(Eh s.cells a b v)[i]?=K c->p.az[i]?=K q->Dy c q)/\(∀c∈Eh s.cells a b v,∀z∈c,z.wf):=by
 unfold Eh;refine⟨λi c q d k=> ?_, λc d z g=> ?_⟩
 . rw [List.getElem?_modify]at d;cases e:s.cells[i]? with
   |none=>rw[e]at d;cases d
   | some c0=>
     rw[e]at d;have m:=h.cells i c0 q e k;simp only[Option.map_eq_map,oO,lX]at d;split at d
     . rename_i t;subst t;rw[u]at k;obtain rfl:=mD k;rw[<-d];exact MR m n.1 w
     rw[<-d];exact m
 obtain⟨j,f⟩:=List.mem_iff_getElem?.1 d;rw[List.getElem?_modify]at f;cases e:s.cells[j]? with
 |none=>rw[e]at f;cases f
 | some c0=>
   rw[e]at f;simp only[Option.map_eq_map,oO,lX]at f;have l:=hw.cells c0 (lP e);split at f
   . rw[<-f]at g;rcases nw g with g|rfl
     . exact l z g
     exact n.2
   rw[<-f]at g;exact l z g
theorem Tz(h:IF p s)(hw:s.wf){a b:Nat}{t:Int}(f:p.az[a]?=K r)(j:r[b]?=K t):∃v,cellAt s a b=v/\Jf v/\v.type=t:=by
 have g:a<s.cells.length:=by rw[h.three];exact(f7.1 f).1
 have c:=an g;have e:=h.cells a _ r c f;obtain⟨v,d,k⟩:=PC e j;refine⟨v,?_,⟨e.2 v (lP d),hw.cells _ (lP c) v (lP d)⟩,k⟩;unfold cellAt;rw[c];exact PB d
theorem masked{a b c:Nat}{t:Int}(l:p.az[a]?=K r)(h:a<=2)(n:r[b]?=K t)(k:OM p a b c)(j:Nat):r[b+(j &&& c)]?=K t:=by
 have d:=k.one (j &&& c) (by have:= @Nat.and_le_right j c;omega);have f:CJ p a b=t:=by rw[Ee h l,mI,n];rfl
 have m:CJ p a ((b:Int)+((j &&& c:Nat):Int))=r.getD (b+(j &&& c)) 0:=by rw[show(b:Int)+((j &&& c:Nat):Int)=((b+(j &&& c):Nat):Int)from oM];exact Ee h l
 rw[m,f,mI]at d;have g:=k.there;rw[f]at g;cases e:r[b+(j &&& c)]? with
 |none=>rw[e]at d;exact absurd d.symm g
 |some z=>rw[e]at d;exact congrArg K d
theorem Tm{f:MF}{x:MI}(h:EH p f g s x=0)(l:0<=g.base)(m:g.base<=(s.stack:Int))(j:x.op≠29):
 (AA p f x).length+g.base.toNat<= ↑s.stack/\BH (s.stack.drop (↑s.stack-(AA p f x).length)) (AA p f x)=true/\(x.op=27->AJ f x.a=3)/\(x.op=28->s.dk.length<32)/\(x.op≠28-> ↑s.stack-(AA p f x).length+Ef x<=64):=by
 unfold EH at h;simp only[]at h;rw[lY j]at h;split at h
 . cases h
 rename_i k;rw[m8]at k;split at h
 . cases h
 rename_i b;have c:(s.stack.drop g.base.toNat).drop ((s.stack.drop g.base.toNat).length-(AA p f x).length)=s.stack.drop (↑s.stack-(AA p f x).length):=by rw[List.drop_drop,m8];congr 1;omega
 rw[c]at b;refine⟨oM,by cases e:BH (s.stack.drop (↑s.stack-(AA p f x).length)) (AA p f x);exact absurd (.inl e) b;rfl, λe=>mr λd=>b (.inr ⟨e,d⟩), λe=> ?_, λe=> ?_⟩
 . rw[mE e]at h;split at h
   . assumption
   cases h
 rw[lY e]at h;split at h
 . cases h
 omega
section
variable {E:Nat->List Nat} {D:Nat->Nat->Bool} {n h b k y:Nat}
def Dp(E:Nat->List Nat)(D:Nat->Nat->Bool)(h b k:Nat):List Nat:=(((E b).take k).filter λx=>decide (x=h)&&D h b).map λ_=>b
theorem Lv(E:Nat->List Nat)(D:Nat->Nat->Bool)(b h:Nat):AP E D (b+1) h=AP E D b h++Dp E D h b (E b).length:=by unfold AP Dp;rw[pA,mW];simp
theorem Se(E:Nat->List Nat)(D:Nat->Nat->Bool)(h b:Nat):Dp E D h b 0=[]:=by simp[Dp]
theorem Ug(d:(E b)[k]?=K h)(a:D h b=true):Dp E D h b (k+1)=Dp E D h b k++[b]:=by obtain⟨c,e⟩:=f7.1 d;unfold Dp;rw[mZ c,oy,nS,e];simp[a]
theorem Qb(d:(E b)[k]?=K y)(c:¬(y=h/\D h b=true)):Dp E D h b (k+1)=Dp E D h b k:=by
 obtain⟨a,e⟩:=f7.1 d;unfold Dp;rw[mZ a,oy,nS,e];have:(decide (y=h)&&D h b)=false:=by
  cases q:D h b with
  |false=>simp
  |true=>simp;exact λe=>c ⟨e,q⟩
 simp[this]
theorem NU(E:Nat->List Nat)(D:Nat->Nat->Bool)(h b k:Nat):(Dp E D h b k).length<=(E b).length:=by unfold Dp;rw[mQ];refine mC (o5 _ _) ?_;rw[nF];omega
theorem NR(a:∀b,(E b).length<=2)(D:Nat->Nat->Bool)(h b:Nat):(AP E D b h).length<=2*b:=by
 induction b with
 |zero=>simp[AP]
 | succ b e=>have c:=NU E D h b (E b).length;have d:=a b;rw[Lv,mB];omega
end
theorem Xh:(Tryz.prog.info? 65).map (λi=>(i.zero,i.size,i.bytes))=K (K (An #[iZ 0,sN,sN]),3,56):=kR
structure L1(w u:Y)(n h bl gi:Nat)(BV:J)(B:List Nat):Prop where
 ia:Ay u w #[iZ 0,sN,sN] 65
 eI:Ay u bl #[h,BV,sN] 65
 iy:tZ u w gi n (λx=>[h].contains x)
 back:Kk u w BV B
 cq:Ah w w u
 lt: ↑w<bl
structure L2(w w1 u:Y)(n gi:Nat)(P:Nat->Bool)(LV:J)(L:List Nat):Prop where
 iy:tZ u w gi n P
 list:Kk u w1 LV L
 fx:∀k,k< ↑w1->k≠gi->u.heap[k]?=w1.heap[k]?
 cq:Ah w w u
 size:(w1:Nat)<= ↑u
 glt:gi< ↑w1
theorem Kk.fx{a:Y}{base x:Nat}{s:J}{l:List Nat}(h:Kk a base s l)(e:∀k,k< ↑a->k≠x->u.heap[k]?=a.heap[k]?)(j:∀g,s.ownBlock=K g->g≠x):Kk u base s l:=by
 refine⟨h.1,?_⟩;rcases h.2 with h|⟨g,cap,c,rfl,d,b,f⟩
 . exact .inl h
 refine .inr ⟨g,cap,c,rfl,d,?_,f⟩;rw[e g (mH.1 b).1 (j g rfl)];exact b
structure L4(w w2 u:Y)(n h bl gi:Nat)(BV KV:J)(K:List Nat)(P:Nat->Bool):Prop where
 ia:Ay u w #[iZ 0,sN,sN] 65
 eI:Ay u bl #[h,BV,KV] 65
 iy:tZ u w gi n P
 row:Kk u w2 KV K
 fx:∀k,k< ↑w2->k≠bl->u.heap[k]?=w2.heap[k]?
 cq:Ah w w u
 size:(w2:Nat)<= ↑u
 blt:bl< ↑w2
theorem Hp(v:VP)(p:MP)(g:VF)(f:MF)(op a b c:Int)(w:Y)(hs:f.small)(j:Eb w v p)(n:FD w g f)(P:op=27->∃q:Nat,a=q/\(f.aP++f.aB)[q]?=K (AJ f a)):
 Ai Aq 118 #[An #[v.r,v.k,v.f,v.t,g.p,f.cu,g.l,g.c],An #[op,a,b,c]] w λe w'=>AM e (¬(op=27/\AJ f a≠3))/\Ah w w w':=by
 obtain⟨G,H,er⟩:=(show∃a c,v.r=Z a p.az c from by obtain⟨_,_,O,_⟩:=j.az;exact O.aD);obtain⟨E,F,X⟩:=j.b8.aD;obtain⟨I,L,et⟩:=j.bO.aD;obtain⟨f1,f3,S⟩:=(show∃a c,v.f=Z a p.aC c from by obtain⟨_,_,O,_⟩:=j.aC;exact O.aD);obtain⟨y,z,T⟩:=n.1.aD;obtain⟨A,B,V⟩:=n.2.1.aD;obtain⟨C,D,W⟩:=n.2.2.aD;obtain⟨gp,gl,gc⟩:=g;obtain⟨vr,vk,vf,vt⟩:=v;simp only[]at er X et S T V W;subst er X et S T V W;have HP:=Aw j;have HR:=Aw n;clear j n;have s:=Aw (Im.of w ⟨Z G p.az H,Z E p.b8 F,Z f1 p.aC f3,Z I p.bO L⟩ ⟨Z y f.aP z,Z A f.aB B,Z C f.aU D⟩ f op a b c);by_cases m:op=27
 . obtain⟨q,rfl,hq⟩:=P m;subst m;have HQ:=Aw hq;clear P hq;go_enter func118,ntmps118;(go_upto_region 1 with fail);refine Av (λu=>Ae (Im w u ⟨Z G p.az H,Z E p.b8 F,Z f1 p.aC f3,Z I p.bO L⟩ ⟨Z y f.aP z,Z A f.aB B,Z C f.aU D⟩ f 27 q b c)) s ?_;rintro U d;clear s;have Q:=d.ib.cell 0;have i1:=d.ib.cell 1;have s0:=d.sb.cell 0;have s1:=d.sb.cell 1;have s2:=d.sb.cell 2;have s3:=d.sb.cell 3;have s4:=d.sb.cell 4;have s5:=d.sb.cell 5;have s6:=d.sb.cell 6;have s7:=d.sb.cell 7;simp only[lQ,lO,lS]at Q i1 s0 s1 s2 s3 s4 s5 s6 s7;go_wp2_with fail;refine(Ht ⟨Z G p.az H,Z E p.b8 F,Z f1 p.aC f3,Z I p.bO L⟩ ⟨Z y f.aP z,Z A f.aB B,Z C f.aU D⟩ f q (AJ f q) U hs (HR.av d.cq lR) HQ).mono ?_;rintro e u1 ⟨rfl,b1⟩;have R:=Aw (Ar d.cq lR b1);by_cases h:AJ f q=3
   . (have ae:(AJ f q==3)=true:=by simpa using h);have N:=Aw h;clear h;go_wp2_with fail;go_ret;exact⟨⟨true,rfl, λ_ e=>e.2 N, λ_=>rfl⟩,R⟩
   (have ae:(AJ f q==3)=false:=by simpa using h);have N:=Aw h;clear h;go_wp2_with fail;go_ret;exact⟨.no (λe=>e ⟨by trivial,N⟩),R⟩
 have ai:(op != 27)=true:=by simpa using m
 have aa:=Aw m;clear m P;go_enter func118,ntmps118;go_upto_region 1 with fail
 refine Av (λu=>Ae (Im w u ⟨Z G p.az H,Z E p.b8 F,Z f1 p.aC f3,Z I p.bO L⟩ ⟨Z y f.aP z,Z A f.aB B,Z C f.aU D⟩ f op a b c)) s ?_;rintro U d;clear s;have Q:=d.ib.cell 0;simp only[lQ,lO]at Q;go_wp2_with fail;go_ret;exact⟨⟨true,rfl, λ_ e=>aa.o e.1, λ_=>rfl⟩,d.cq⟩
theorem Dh{x:Nat}(h:x<=1048576):Fa (x:Int):=by simp[Fa,Lit.wf,IntKind.min,IntKind.max,IntKind.signed,IntKind.bits];omega
theorem Ym(w:Y)(g o c n j l p q f:Nat)(E:Nat->List Nat)(hn:n<=1024)(hE:∀b,b<n->∀x∈E b,x<n)(aG:∀b,(E b).length<=2048)(h:Gb w g o n E):
 ∀(m:Nat) (S O:List Nat) (b:Nat) (V:J) (u:Y),Bq S n=m->b<n->PO w u n j l p q f (sO g o n c) V S O->(b∉S-> ↑O+Bq S n<=n)->
 Ai Aq 134 #[(b:Int),.pointer (K ⟨l,0,M⟩),.pointer (K ⟨p,0,M⟩),.pointer (K ⟨q,0,M⟩),.pointer (K ⟨f,0,M⟩)] u λe u'=>e=Am (Ap #[])/\∃t S' d,Vs E S O [b] S' d/\PO w u' n j l p q f (sO g o n c) t S' d/\d.length+Bq S' n<=O.length+Bq S n:=by
 obtain⟨k0,hk,aS,aT,aW⟩:=nE Ct;have H:=Aw (lN h (lN hE aG));clear h hE aG;intro m;induction m using Nat.strongRecOn with
 | ind m ih=>
   intro S O b V u hm P R ax;have IH:Ae (∀m',m'<m->∀(S O:List Nat) (b:Nat) (V:J) (u:Y),Bq S n=m'->b<n->PO w u n j l p q f (sO g o n c) V S O->(b∉S-> ↑O+Bq S n<=n)->
    Ai Aq 134 #[(b:Int),.pointer l,.pointer p,.pointer q,.pointer f] u λe u'=>e=Am (Ap #[])/\∃t S' d,Vs E S O [b] S' d/\PO w u' n j l p q f (sO g o n c) t S' d/\ ↑d+Bq S' n<= ↑O+Bq S n):=ih
   have HP:=Aw R;obtain⟨aa,D,hs,aq,hD⟩:=R.set;have B:=Aw (lN hs (lN aq hD));have aj:=hD b;have s0:u l=K (.map (K j)):=R.sb.cell 0;have bg:(b:Int)<(n:Int):=oM;clear ih R hs hD;go_enter func134,ntmps134;go_wp2_with fail;refine(Jq j aa D (b:Int) u (Dh oM) B.1).mono ?_;rintro e s ⟨rfl,X⟩;rw[aj];have A:=Aw (lN (HP.av X) (B.1.av X));clear X s0 aj;cases hc:S.contains b
   . (have Q:b∉S:=by simpa using hc);have aH:=FP S n b P Q;have G:=Aw (lN aH (lN hm (ax Q)));clear aH hm ax;have s0:s l=K (.map (K j)):=A.1.sb.cell 0;have z:Ae ((Ac s (Ak #[(b:Int)] 2)) s=K ↑(b:Int)/\AQ (Ac s (Ak #[(b:Int)] 2)) j aa D/\PO w (Ac s (Ak #[(b:Int)] 2)) n j l p q f (sO g o n c) V S O/\¬ ↑s=j):=⟨(Ay.new s #[(b:Int)] 2).cell 0,A.2.av (Al _ _),A.1.av (Al _ _),by have:=oL A.2;omega⟩
     go_wp2_with fail;refine(Da j aa s 1 D (b:Int) _ (Dh oM) (by have:=B.2.1;omega) z.1 z.2.2.2 z.2.1).mono ?_;rintro e u2 ⟨rfl,s2,g2⟩;have C:=Aw (z.2.2.1.add z.2.1 B.2.1 B.2.2 P Q s2 g2);clear s2 g2 s0 z A B HP aq;obtain⟨a,ca,N,g1⟩:=H.1 b P;have HG:=Aw (lN N g1);(replace N:=Az C.cq N);have e0:u2 p=K (sO g o n c):=C.eb.cell 0;have aY:=H.2.2 b;clear g1;go_wp2;go_loopw [20] (λi wr=>∃(S' d:List Nat) (t:J) (k:Nat),i=iZ k/\k<=(E b).length/\Ae (Vs E (b::S) O ((E b).take k) S' d/\PO w wr n j l p q f (sO g o n c) t S' d/\ ↑d+Bq S' n+1<= ↑O+Bq S n)) (λi _=>(E b).length-(intOf i).toNat)
     (case atStart=>exact⟨b::S,O,V,0,rfl,oM,by simpa using Vs.nil (b::S) O,C,by have:=G.o;omega⟩);clear C N e0;obtain⟨S',d,t,k,rfl,bi,r⟩:=hrel;by_cases aO:k<(E b).length
     . have bj:(k:Int)<((E b).length:Int):=oM;obtain⟨y,T⟩:∃y,(E b)[k]?=K y:=⟨_,an aO⟩;have aX:y<n:=H.2.1 b P y (lP T);obtain⟨ga,oa,rfl,_,y0⟩:=HG.2.at_ T;(replace y0:=Az r.2.1.cq y0);have f0:wr q=K (.func (.func 134) #[] #[.pointer l,.pointer p,.pointer q,.pointer f]):=r.2.1.wb.cell 0;(have HT:Ae ((E b).take (k+1)=(E b).take k++[y]):=by obtain⟨hl,rfl⟩:=f7.1 T;exact mZ hl);have aA:=r.1.more;have aR:=KL n aA;have HC:=Aw (IH.o (Bq S' n) (by have:=G.o;omega) S' d y t wr rfl aX r.2.1 (λ_=>by have:=r.2.2;have:=G.o;omega));clear T aA aR;go_wp2_with fail;refine HC.mono ?_;rintro e u3 ⟨rfl,V3,L,I,aI,aF,aM⟩;have HN:Ae (Vs E (b::S) O ((E b).take (k+1)) L I/\PO w u3 n j l p q f (sO g o n c) V3 L I/\ ↑I+Bq L n+1<= ↑O+Bq S n):=by refine⟨?_,aF,by have:=r.2.2;omega⟩;rw[HT];exact r.1.jt aI
       clear aI aF aM y0 f0 HC;go_wp2;go_roundw;(case rel=>exact⟨L,I,V3,k+1,by go_num,oM,HN⟩);exact oI
     obtain rfl:k=(E b).length:=oM;obtain⟨W,cV,rfl⟩:=AF r.2.1.list;have aZ:=G.o;have bf:=r.2.2;(go_upto_region 7 with fail);refine Av (λu=>Ae (PO w u n j l p q f (sO g o n c) (Z W d cV) S' d)) r.2.1 ?_;intro U F;have l0:U f=K (Z W d cV):=F.lb.cell 0;go_wp2_with (at_builtin;refine wpList_append_lies _ rfl _ _ 27 rfl w 2 k0 (iZ 0) 1 8 underlying27 hk aS aT aW rfl dC _ d (nv d) rfl (F.al (Ak #[(b:Int)] 2)).1 U 1 1 [(b:Int)] rfl rfl (Fw U (b:Int)) (λu hu=>by simp at hu;subst hu;rfl) oM (by simp[maxLen];omega) oM (F.al (Ak #[(b:Int)] 2)).2 _ rfl ?_;intro g5 ai w5 aE au aK aQ;obtain⟨ae,l5⟩:=F.jt aE au oM;have aJ:Ae (PO w (w5.setCell f (sG g5 (d.length+1) ai)) n j l p q f (sO g o n c) (sG g5 (d.length+1) ai) S' (d++[b])):=l5;have t5:w5 f=K (Z W d cV):=ae.cell 0;have z5:=ae.frozen 0;clear aE au aK aQ ae l5);go_end0;refine⟨rfl,_,S',d++[b],?_,aJ,by rw[mB,mT];omega⟩;have:=r.1;rw[mm lR]at this;exact .new Q this (.nil _ _)
   go_wp2_with fail;exact mM (v:=Ap #[]) (by simp[results,results134,go_sem]) rfl ⟨rfl,V,S,O,.old (by simpa using hc) (.nil _ _),A.1,Nat.le_refl _⟩
theorem Va(w:Y)(xs:List MC):∀j u,(Ad MC.cells xs)[j]?=K u->(Ac w (Ak (Ad MC.cells xs).toArray 193)).drew.cell? ((⟨w,0,M⟩:Addr).add j)=K u:= λj u a=>by have:=pD _ w (0+j) _ _ _ (Fp w (Ad MC.cells xs).toArray 193);rw[Cq];show(Ac w (Ak (Ad MC.cells xs).toArray 193)) ⟨w,0+j,M⟩=K u;rw[this,m9];simpa using a
theorem AB.frm{x:VS}{C:List (J×List MC)}{K:List MC}(h:AB u B x C K F){gf m c top:Nat}{y:MG×J}(e:x.f=Z gf m c)(b:F[top]?=some y):u ⟨gf,top*4+3,M⟩=some y.2:=by have a:=h.dk;rw[e]at a;have d:m=F.length:=CM a;subst d;have g:=(f7.1 b).1;rw[a.cellAt (top*4+3) oM,BI BE 4 Ca F top 3 y b oM];rfl
theorem AB.jd{x:VS}{C:List (J×List MC)}{K:List MC}(h:AB u B x C K F){r:J×List MC}(f:r∈C++[(x.k,K)]++Bh F){b d cl q:Nat}{z:MC}(g:r.1=Z b d cl)(c:r.2[q]?=some z):u ⟨b,q*2,M⟩=some ↑z.type/\u ⟨b,q*2+1,M⟩=some (Ag .u32 z.word):=by
 have a:=h.fg.own r f;rw[g]at a;have e:d=r.2.length:=CM a;subst e;have j:=(f7.1 c).1;refine⟨?_,?_⟩
 . rw[a.cellAt (q*2) oM];have:=BI MC.cells 2 MC.bW r.2 q 0 z c oM;rw[mL]at this;rw[this];rfl
 rw[a.cellAt (q*2+1) oM,BI MC.cells 2 MC.bW r.2 q 1 z c oM];rfl
theorem AB.kq{x:VS}{C:List (J×List MC)}{K:List MC}(h:AB u B x C K F){gc m c a:Nat}{r:J×List MC}(f:x.c=Z gc m c)(d:C[a]?=some r):u ⟨gc,a,M⟩=some r.1:=by have b:=h.cells;rw[f]at b;have e:m=C.length:=CM b;subst e;have g:=(f7.1 d).1;have:=BI Jy 1 Pv C a 0 r d oM;rw[nX,mL]at this;rw[b.cellAt a oM,this];rfl
theorem Yz(a b:Nat)(f:a<=4294967295)(g:b<=4294967295):bits .and Af (a:Int) (b:Int)=((a &&& b:Nat):Int):=by
 have c:bits .and Af (a:Int) (b:Int)=IntKind.i64.wrap ((BitVec.ofInt 64 a &&& BitVec.ofInt 64 b).toNat:Int):=by rfl
 have d:(BitVec.ofInt 64 (a:Int) &&& BitVec.ofInt 64 (b:Int)).toNat=a &&& b:=by rw[BitVec.toNat_and];simp;rw[Nat.mod_eq_of_lt oM,Nat.mod_eq_of_lt oM]
 rw[c,d];have e:a &&& b<=a:=Nat.and_le_left;rw[oY _ oM]
theorem JB(xs:List MC):∀u∈Ad MC.cells xs,u.oneCell'=true:= λu a=>by obtain⟨x,_,b⟩:=oK.1 a;exact Nc x u b
def Ge(xs:List MI):Prop:=∀(i:Nat) (x:MI),xs[i]?=K x->Bt x=true->0<=x.c/\x.c<(xs:Int)
theorem It(a:Option Addr)(c:Nat)(z:Int)(w:Y):Ai Aq 69 #[Z a 0 c,z] w λe b=>e=Am false/\b=w:=by have h:=AnyG.slices_Contains_int_empty Tryz.lContains a c z w;exact h
theorem O8(g c:Nat)(y z:Int)(w:Y)(a:w g=K ↑y):Ai Aq 69 #[sG g 1 c,z] w λe d=>e=Am (Ao (decide (z=y)))/\d=w:=by
 have h:=AnyG.slices_Contains_int Tryz.lContains g 0 1 c [y] z w sP oM (λj b=>by
  have:j=0:=by simpa using b
  subst this;simpa using a)
 have e:([y].take 1).contains z=decide (z=y):=by
  by_cases q:z=y
  . simp[q]
  simp[q]
 rw[e]at h;exact h
theorem Td(g c:Nat)(d:List Int)(z:Int)(w:Y)(H:d.length<=1048576)(m:d.Pairwise (· < ·))(h:Rd w 1 (sG g d c) d (Ad At d))(C:z∈d):
 Ai Aq 56 #[sG g d c,z] w λe p=>(∃b,e=Am (Ap #[iZ (d.idxOf z:Nat),Ao b]))/\∃q,p=w.drewN q:=by
 have t:∀j,j< ↑d->w ⟨g,0+j,M⟩=K ↑(d.getD j 0):= λj u=>by
  rcases h.2 with⟨F,_⟩|⟨G,I,c',k,f⟩
  . omega
  simp only[lU,lX,ny,oZ,mj]at k;obtain⟨⟨rfl,rfl⟩,rfl⟩:=k;have:=f j (d.getD j 0) (by rw[De];simp[List.getD_eq_getElem?_getD,List.getElem?_eq_getElem u]);exact this
 have f:=AnyG.slices_BinarySearch_int Tryz.lSearch g 0 d c d z w lR oM t (by rw[mm lR];exact m.imp (λh=>oM));rw[mm lR]at f;have e:∀(l:List Int),l.Pairwise (· < ·)->z∈l->l.countP (λx=>decide (x<z))=l.idxOf z:=by
  intro l;induction l with
  |nil=>intro _ h;cases h
  | cons y r D=>
    intro A v;obtain⟨n,E⟩:=my.1 A;by_cases q:y=z
    . subst q;rw[List.countP_cons_of_neg sP,List.idxOf_cons_self];exact List.countP_eq_zero.2 (λa s=>by have:=n a s;simp;omega)
    rcases lW.1 v with e|e
    . exact absurd e.symm q
    have:=n z e;rw[List.countP_cons_of_pos (by simpa using this),D E e,pX];rw[show(y==z)=false from by simpa using q];rfl
 refine f.mono ?_;rintro k p ⟨rfl,B⟩;rw[e d m C];exact⟨⟨_,rfl⟩,B⟩
theorem MI.kE{xs:List MI}{g o n e:Nat}{x:MI}(f:∀j v,(Ad MI.cells xs)[j]?=K v->w ⟨g,o+j,M⟩=K v)(h:xs[e]?=K x)(d:Ah w w u):u ⟨g,o+e*4,M⟩=K ↑x.op/\u ⟨g,o+e*4+1,M⟩=K ↑x.a/\u ⟨g,o+e*4+2,M⟩=K ↑x.b/\u ⟨g,o+e*4+3,M⟩=K ↑x.c:=by have k:=Rd.elem MI.bW f e _ h 0 _ rfl;have l:=Rd.elem MI.bW f e _ h 1 _ rfl;have m:=Rd.elem MI.bW f e _ h 2 _ rfl;have x3:=Rd.elem MI.bW f e _ h 3 _ rfl;rw[<-d.cell (lT k),mL]at k;rw[<-d.cell (lT l)]at l;rw[<-d.cell (lT m)]at m;rw[<-d.cell (lT x3)]at x3;exact⟨k,l,m,x3⟩
theorem Mw(s:J)(xs:List MI)(w:Y)(R:xs.length<=1048576)(h:Rd w 4 s xs (Ad MI.cells xs)):
 Ai Aq 53 #[s] w λe T=>AM e (Ge xs)/\Ah w w T:=by
 have H:Ae (Rd w 4 s xs (Ad MI.cells xs)):=h;obtain⟨a1,c1,rfl⟩:=h.aD;clear h;generalize I:xs.length=n at R H;have v:Ae (↑xs=n):=I
 clear I;go_enter func53,ntmps53;go_wp2;go_loopw [7] (λi wr=>∃k:Nat,k<=n/\i=iZ k/\Ae ((∀j,j<k->∀x,xs[j]?=K x->Bt x=true->0<=x.c/\x.c<(n:Int))/\Ah w w wr)) (λi _=>n-(intOf i).toNat)
 case atStart=>exact⟨0,oM,rfl,⟨λj O=>oM,mP _ _⟩⟩
 obtain⟨k,hk,rfl,l⟩:=hrel;by_cases B:k<n
 . obtain ⟨x,C⟩:∃x,xs[k]?=K x:=⟨_,an (by rw[v];exact B)⟩;have z:Ae (xs[k]?=K x):=C;rcases H.2 with⟨e0,_⟩|⟨g,o,c,G,L⟩
   . omega
   simp only[lU,mj]at G;obtain⟨rfl,rfl⟩:=G;obtain⟨U,V,W,x3⟩:=MI.kE (n:=0) L C l.2;clear L C;have aa:(k:Int)<(n:Int):=oM;(go_upto_region 4 with fail);refine Av (λu=>Ae (Ay u wr #[x.op,x.a,x.b,x.c] 25/\Ah w w u)) ⟨Ay.new _ _ _,Ar l.2 lR (Al _ _)⟩ ?_
   intro X p;clear U V W x3;obtain⟨a0,D,E,F⟩:=Qc p.1;go_wp2_with fail;refine(CA x _).mono ?_;rintro e t ⟨rfl,A⟩;have q:Ae (Ay t wr #[x.op,x.a,x.b,x.c] 25/\Ah w w t):=⟨p.1.av A,Ar p.2 lR A⟩
   clear A a0 D E F p;obtain⟨a0,D,E,F⟩:=Qc q.1;cases hgo:Bt x
   . have m:Ae ((∀j,j<k+1->∀x,xs[j]?=K x->Bt x=true->0<=x.c/\x.c<(n:Int))/\Ah w w t):=⟨λj O y f d=>by
      by_cases e:j=k
      . subst e;rw[z]at f;(cases f);rw[hgo]at d;cases d
      exact l.1 j oM y f d,q.2⟩
     go_wp2;go_roundw;(case rel=>exact⟨k+1,oM,by go_num,m⟩);exact oI
   . go_wp2_with fail;refine(Oc x.c n _ oM).mono ?_;rintro e u3 ⟨rfl,P⟩;have S:=P.symm;clear P;subst S;by_cases r:0<=x.c/\x.c<(n:Int)
     . rw [show decide (0<=x.c/\x.c<(n:Int))=true from by simpa using r]
       have m:Ae ((∀j,j<k+1->∀x,xs[j]?=K x->Bt x=true->0<=x.c/\x.c<(n:Int))/\Ah w w t):=⟨λj O y f d=>by
        by_cases e:j=k
        . subst e;rw[z]at f;(cases f);exact r
        exact l.1 j oM y f d,q.2⟩
       go_wp2;go_roundw;(case rel=>exact⟨k+1,oM,by go_num,m⟩);exact oI
     rw[show decide (0<=x.c/\x.c<(n:Int))=false from by simpa using r]
     (have m:Ae (¬Ge xs):= λe=>r (by have:=e k x z hgo;rw[v]at this;exact this));go_wp2;go_ret;exact⟨.no m,q.2⟩
 have Q:Ae (Ge xs):= λi x N d=>by have B:=(f7.1 N).1;rw[v]at B⊢;exact l.1 i oM x N d
 go_wp2;go_ret;exact⟨.iQ Q,l.2⟩
structure NP(w U:Y)(V:J)(ns:List Int):Prop where
 cq:Ah w w U
 row:Ab U w 2 1 V ns (Ad At ns)
theorem NP.av{U a:Y}{c:List Int}(h:NP w U V c)(b:Ah U U a):NP w a V c:=⟨Ar h.cq lR b,AD h.row b lR⟩
theorem NP.jt{w U b:Y}{c:J}{a:List Int}{m:Nat}(h:NP w U V a)(j:Ab b w 2 1 c m (Ad At a++[iZ z]))(g:m= ↑a+1)(e:(Ac U (Ak #[iZ z] 2)).grownBy b V.ownBlock):NP w b c (a++[z]):=by have d:=Al U (Ak #[z] 2);refine⟨(Ar h.cq lR d).grown e (mC h.cq.size d.size) (λi f=>(h.row.lt i f).1),?_⟩;rw[mB,mT,<-g,mW];exact j
theorem KI{cs:List (List MC)}{a b:Nat}:(Eh cs a b v).length=cs.length:=by unfold Eh;rw[List.length_modify]
theorem WY:AH 8=5/\AH 9=5/\AH 10=5/\AH 11=5/\AH 12=5/\AH 13=6/\AH 14=6/\AH 15=6/\AH 16=6/\AH 20=7/\AH 21=5/\AH 22=8:=by decide+kernel
theorem Zu{f:MF}{x:MI}(aX:p.wf)(h:IF p s)(hw:s.wf)(aR:s.dk.getLast?=K g)(V:p.aC[g.func.toNat]?=K f)(bQ:0<=g.at_)(hx:f.aU[g.at_.toNat]?=K x)(bG:EH p f g s x=0)(n:(DR p f g s x).done=false):
 IF p (DR p f g s x)/\(DR p f g s x).wf:=by
 obtain⟨D,N⟩:∃D,s.dk=D++[g]:=by rw[List.getLast?_eq_some_iff]at aR;exact aR
 have ax:g∈s.dk:=by rw[N];simp
 have hg:=h.dk g ax;have O:=hw.dk g ax;have w:AV p f x:=h.prog.iR V hx;have aZ:x.wf:=(aX.aC f (lP V)).aU x (lP hx);have bq:0<=g.base:=Rr h.j9 g ax;have aJ:=h.j9;rw[N]at aJ;have I:Dy g.aB (f.aP++f.aB):=by obtain⟨f',aM,hl⟩:=hg.aB;rw[V]at aM;obtain rfl:=mD aM;exact hl
 have br:Cb f:=h.prog.parts.2.2.1.2.2.1 _ (f7.1 V).1 f V;have bT:=(f7.1 hx).1;have bS:=br.lq;have h3:p.az.length=3:=h.prog.parts.1.1;have aW:∀v∈g.aB,Jf v:= λv d=>⟨I.2 v d,O.aB v d⟩
 by_cases bj:x.op=29
 . (have e:DR p f g s x={s with dk:=s.dk.dropLast,done:=decide (s.dk.length=1)}:=by unfold DR;simp only[];repeat rw[lY oM]);rw[e]at n⊢;simp only[o9]at n;(have l:s.dk.dropLast=D:=by rw[N];simp);rw[l];have aK:=h.deep;rw[N]at n aK;simp only[mB,mT]at n aK;refine⟨⟨h.prog,h.cost,h.steps,h.three,h.cells,h.jy,h.stack, λk=> ?_,oS, λq hq=>h.dk q (by rw[N];simp only[]at hq;simp[hq]),Vy aJ⟩,⟨hw.trap,hw.cost,hw.steps,hw.cells,hw.stack, λq hq=>hw.dk q (by rw[N];simp only[]at hq;simp[hq])⟩⟩;simp only[]at k;rw[k]at n;exact n rfl
 obtain⟨hn,A,bg,bi,aQ⟩:=Tm bG bq hg.base bj;have aI:∀v∈s.stack,Jf v:= λv d=>⟨h.stack v d,hw.stack v d⟩
 have bP:=h.jy;have au:=tw h hw N V;unfold DR at n⊢;simp only[]at n⊢;rw[N]at n⊢;simp only[SZ]at n⊢;have bC:(s.stack.take (↑s.stack-(AA p f x).length)).length= ↑s.stack-(AA p f x).length:=by rw[nF];omega
 have aa:∀v∈s.stack.take (↑s.stack-(AA p f x).length),Jf v:= λv d=>aI v (pi d)
 have H:∀v∈s.stack.drop (↑s.stack-(AA p f x).length),Jf v:= λv d=>aI v (pR d)
 generalize s.stack.take (s.stack.length-(AA p f x).length)=st at bC aa n⊢;generalize s.stack.drop (s.stack.length-(AA p f x).length)=ar at A H n⊢;have aq:g.base<=(st:Int):=oM;have L:({g with at_:=g.at_+1}:MG).wf:=⟨O.func,DB oS oS,O.base,O.aB⟩;have bI:0<=x.c->({ {g with at_:=g.at_+1}with at_:=x.c}:MG).wf:= λ_=>⟨O.func,aZ.2.2.2,O.base,O.aB⟩
 have T0:st.length<=64:=oM;have push:∀W:List MC,(∀v∈W,Jf v)->st.length+ ↑W<=64->IF p ⟨s.trap,s.done,s.cost,s.steps,s.cells,st++W,D++[{g with at_:=g.at_+1}]⟩/\(⟨s.trap,s.done,s.cost,s.steps,s.cells,st++W,D++[{g with at_:=g.at_+1}]⟩:MS).wf:= λW d hl=>au s.cells (st++W) _ rfl h.cells hw.cells oT (λv X=>(mA.1 X).elim (aa v) (d v)) (by simp only[mB];omega) rfl rfl I L
 have ai:∀P:MG,P.base=g.base->P.func=g.func->Dy P.aB (f.aP++f.aB)->P.wf->IF p ⟨s.trap,s.done,s.cost,s.steps,s.cells,st,D++[P]⟩/\(⟨s.trap,s.done,s.cost,s.steps,s.cells,st,D++[P]⟩:MS).wf:= λP m l k C=>au s.cells st P rfl h.cells hw.cells T0 aa aq m l k C
 have aF:0<=x.c->IF p ⟨s.trap,s.done,s.cost,s.steps,s.cells,st,D++[{ {g with at_:=g.at_+1}with at_:=x.c}]⟩/\(⟨s.trap,s.done,s.cost,s.steps,s.cells,st,D++[{ {g with at_:=g.at_+1}with at_:=x.c}]⟩:MS).wf:= λe=>ai _ rfl rfl I (bI e)
 have aG:=ai {g with at_:=g.at_+1} rfl rfl I L;have one:∀v:MC,Jf v->Ef x=1->x.op≠28->IF p ⟨s.trap,s.done,s.cost,s.steps,s.cells,st++[v],D++[{g with at_:=g.at_+1}]⟩/\(⟨s.trap,s.done,s.cost,s.steps,s.cells,st++[v],D++[{g with at_:=g.at_+1}]⟩:MS).wf:= λv d bY bx=>push [v] (λz B=>by simp only[mK]at B;rw[B];exact d) (by have:=aQ bx;simp only[mT];omega)
 have Q:(x.op=1\/x.op=2\/x.op=4\/x.op=6\/(8<=x.op/\x.op<=22))->Ef x=1:= λe=>by unfold Ef;rw[mE e]
 by_cases c0:x.op=0\/x.op=24
 . rw[mE c0];exact aG
 rw[lY c0]at n⊢;by_cases c1:x.op=1
 . rw[mE c1];obtain⟨q,z,m,l⟩:=w.const c1;(have k:C5 p.b8 x.a.toNat=z:=by rw[m];exact PB l);rw[k];exact one z ⟨h.prog.parts.2.1.2 q (f7.1 l).1 z l,aX.b8 z (lP l)⟩ (Q oM) oM
 rw[lY c1]at n⊢;by_cases c2:x.op=2
 . rw[mE c2];obtain⟨q,m,l⟩:=w.local (.inl c2);obtain⟨v,d,_⟩:=PC I l;(have k:C5 g.aB x.a.toNat=v:=by rw[m];exact PB d);rw[k];exact one v (aW v (lP d)) (Q oM) oM
 rw[lY c2]at n⊢;by_cases c3:x.op=3
 . rw[mE c3];obtain⟨q,m,l⟩:=w.local (.inr (.inl c3));(have et:AA p f x=[AJ f x.a]:=by unfold AA;rw[mE c3]);rw[et]at A;obtain⟨v,rfl,d⟩:=Hn A;have u:=H v sP;(have bu:AJ f x.a≠0:= λe=>by have h5:=w.2.2;(have bV:AH x.op=2:=by rw[c3];exact Gl.2.2.1);unfold BQ BW at h5;rcases h5 with h|h|h|h|h|h|h|h|h|h<;>first|(exfalso;omega)|exact h.2.1 e);have k:C5 [v] 0=v:=rfl;rw[k];refine ai _ rfl rfl ?_ ⟨L.func,L.at_,L.base, λz B=> ?_⟩
   . simp only[m,lV];exact MR I u.1 (by rw[d bu];exact l)
   rcases nw B with B|rfl
   . exact O.aB z B
   exact u.2
 rw[lY c3]at n⊢;by_cases c4:x.op=4
 . rw[mE c4];obtain⟨q,z,r,m,l,k,C⟩:=w.cell h3 (.inl c4);obtain⟨v,U,d,_⟩:=Tz h hw k C;rw[m,l,lV,lV,U];exact one v d (Q oM) oM
 rw[lY c4]at n⊢;by_cases c5:x.op=5
 . rw[mE c5];obtain⟨q,z,r,m,l,k,C⟩:=w.cell h3 (.inr (.inl c5));(have et:AA p f x=[CU p x]:=by unfold AA;rw[lY oM,mE c5]);rw[et]at A;obtain⟨v,rfl,d⟩:=Hn A;(have F:EL (CU p x)=true:=by have:=(h.prog.parts.1.2 q (f7.1 k).1 r k).2;exact nV.1 this _ (lP C));have u:=H v sP;have E:C5 [v] 0=v:=rfl;rw[E,m,l,lV,lV];obtain⟨k1,k2⟩:=NY h hw k u (by rw[d (CV F)];exact C);exact au _ st _ KI k1 k2 T0 aa aq rfl rfl I L
 rw[lY c5]at n⊢;have bf:∀j:Nat,x.op=6\/x.op=7->∃(q:Nat) (r:List Int),x.a=q/\p.az[q]?=K r/\r[x.b.toNat+(j &&& x.c.toNat)]?=K (CU p x)/\EL (CU p x)=true:= λj e=>by
  obtain⟨q,z,r,m,l,k,C⟩:=w.cell h3 oM;have X:=w.jK e;obtain⟨c,hc⟩:=mJ X.low;rw[m,l,hc]at X;refine⟨q,r,m,k,?_,?_⟩
  . rw[l,hc,lV,lV];exact masked k (by have:=(f7.1 k).1;omega) C X j
  have:=(h.prog.parts.1.2 q (f7.1 k).1 r k).2;exact nV.1 this _ (lP C)
 by_cases c6:x.op=6
 . rw[mE c6];obtain⟨q,r,m,k,C,_⟩:=bf (C5 ar 0).word.toNat (.inl c6);obtain⟨v,U,d,_⟩:=Tz h hw k C;rw[m,lV,U];exact one v d (Q oM) oM
 rw[lY c6]at n⊢;by_cases c7:x.op=7
 . rw[mE c7];obtain⟨q,r,m,k,C,F⟩:=bf (C5 ar 0).word.toNat (.inr c7);(have et:AA p f x=[3,CU p x]:=by unfold AA;rw[lY oM,lY oM,lY oM,mE c7]);rw[et]at A;obtain⟨v0,v,rfl,_,d⟩:=QK A;have u:=H v sP;have E:C5 [v0,v] 1=v:=rfl;rw[E,m,lV];obtain⟨k1,k2⟩:=NY h hw k u (by rw[d (CV F)];exact C);exact au _ st _ KI k1 k2 T0 aa aq rfl rfl I L
 rw[lY c7]at n⊢;by_cases c8:x.op=16\/x.op=19
 . rw[mE c8];have et:∃t,AA p f x=[t]/\EL t=true/\(x.op=19->t≠1):=by
    rcases c8 with e|e
    . exact⟨x.a,by unfold AA;rw[lY oM,lY oM,lY oM,lY oM,lY oM,mE oM],w.type oM, λl=>oM⟩
    exact⟨2,by unfold AA;rw[lY oM,lY oM,lY oM,lY oM,lY oM,lY oM,lY oM,mE e],rfl, λ_=>oM⟩
   obtain⟨t,m,F,bJ⟩:=et;rw[m]at A;obtain⟨v,rfl,d⟩:=Hn A;have u:=H v sP;have E:C5 [v] 0=v:=rfl;rw[E];have aA:=d (CV F);obtain⟨R,S,T⟩:=L7 (op:=x.op) (t:=v.type) u.word (show(0:Int)<=0/\(0:Int)<=4294967295 from oM) (λe=>⟨u.1.2 e,oM⟩) (λe=>oM)
   exact one _ (Jf.of u.1.1 R S (λe=>T (.inl e))) (Q oM) oM
 rw[lY c8]at n⊢;have aH:Ae ((8<=x.op/\x.op<=18)\/x.op=20\/x.op=21->∃v v',ar=[v,v']/\v.type=v'.type/\Jf v/\Jf v'/\((x.op=17\/x.op=18)->v.type≠1)):= λe=>by
  have:∃t,AA p f x=[t,t]/\EL t=true/\((x.op=17\/x.op=18)->t≠1):=by
   by_cases l:x.op=17\/x.op=18
   . exact⟨3,by unfold AA;rw[lY oM,lY oM,lY oM,lY oM,lY oM,lY oM,mE l],rfl, λ_=>oM⟩
   exact⟨x.a,by unfold AA;rw[lY oM,lY oM,lY oM,lY oM,mE oM],w.type oM, λk=>absurd k l⟩
  obtain⟨t,m,F,aj⟩:=this;rw[m]at A;obtain⟨v,v',rfl,d,bH⟩:=QK A;exact⟨v,v',rfl,by rw[d (CV F),bH (CV F)],H v sP,H v' sP, λk=>by rw[d (CV F)];exact aj k⟩
 by_cases c9:x.op=20\/x.op=21
 . rw[mE c9];obtain⟨v,v',rfl,aE,u,ae,_⟩:=aH.o oM;have E:C5 [v,v'] 0=v:=rfl;have e7:C5 [v,v'] 1=v':=rfl;rw[E,e7];obtain⟨R,S,T⟩:=L7 (op:=x.op) (t:=v.type) u.word ae.word (λe=>⟨u.1.2 e,ae.1.2 (by rw[<-aE];exact e)⟩) (λe=>oM);exact one _ (Jf.of rfl R S (λ_=>T (.inr c9))) (Q oM) oM
 rw[lY c9]at n⊢;by_cases cA:8<=x.op/\x.op<=18
 . rw[mE cA];obtain⟨v,v',rfl,aE,u,ae,aj⟩:=aH.o oM;have E:C5 [v,v'] 0=v:=rfl;have e7:C5 [v,v'] 1=v':=rfl;rw[E,e7];obtain⟨R,S,T⟩:=L7 (op:=x.op) (t:=v.type) u.word ae.word (λe=>⟨u.1.2 e,ae.1.2 (by rw[<-aE];exact e)⟩) (λe=>⟨λl=>aj (.inl l) e, λl=>aj (.inr l) e,oM⟩);exact one _ (Jf.of u.1.1 R S (λe=>T (.inl e))) (Q oM) oM
 rw[lY cA]at n⊢;by_cases cB:x.op=22
 . rw[mE cB];(have m:AA p f x=[x.a]:=by unfold AA;rw[lY oM,lY oM,lY oM,lY oM,lY oM,mE oM]);rw[m]at A;obtain⟨v,rfl,d⟩:=Hn A;have u:=H v sP;have E:C5 [v] 0=v:=rfl;rw[E];obtain⟨R,S,T⟩:=qY (a:=x.a) (b:=x.b) u.word;exact one _ (Jf.of (w.conv cB).2 R S T) (Q oM) oM
 rw[lY cB]at n⊢;by_cases cC:x.op=23
 . rw[mE cC];(have m:AA p f x=[0]:=by unfold AA;rw[lY oM,lY oM,lY oM,lY oM,lY oM,lY oM,lY oM,lY oM,mE oM]);have bt:=aQ oM;rw[show Ef x=2 by unfold Ef;rw[lY oM,mE cC]]at bt;rw[m]at A;obtain⟨v,rfl,_⟩:=Hn A;have u:=H v sP;have E:C5 [v] 0=v:=rfl;rw[E];exact push [v,v] (λz B=>by simp only[lW,lZ,mS,or_self]at B;rw[B];exact u) (by simp only[nQ,nT];omega)
 rw[lY cC]at n⊢;by_cases cD:x.op=25
 . rw[mE cD];exact aF (w.target oM).1
 rw[lY cD]at n⊢;by_cases cE:x.op=26
 . rw[mE cE];split
   . exact aF (w.target oM).1
   exact aG
 rw[lY cE]at n⊢;by_cases cF:x.op=27
 . rw [mE cF];obtain⟨q,m,l⟩:=w.local (.inr (.inr cF));obtain⟨v,d,aA⟩:=PC I l;(have k:C5 g.aB x.a.toNat=v:=by rw[m];exact PB d);rw[k];split
   . exact aF (w.target oM).1
   rename_i bZ;have u:=aW v (lP d);have ce:=u.word;have U:g.aB.modify q (λv=>{v with word:=v.word-1})=g.aB.set q {v with word:=v.word-1}:=by
    apply nj;intro j;rw[List.getElem?_modify,List.getElem?_set];split
    . rename_i ej;subst ej;have hj:=(f7.1 d).1;rw[d,mE hj];simp
    cases g.aB[j]?<;>rfl
   have aY:Jf {v with word:=v.word-1}:=Jf.of u.1.1 oM oM (λe=>by rw[aA,bg cF]at e;omega);refine ai _ rfl rfl ?_ ⟨L.func,L.at_,L.base, λz B=> ?_⟩
   . simp only[m,lV];rw[U];exact MR I aY.1 (by simp only[];rw[aA];exact l)
   simp only[m,lV]at B;rw[U]at B;rcases nw B with B|rfl
   . exact O.aB z B
   exact aY.2
 rw[lY cF]at n⊢;have cG:x.op=28:=by have:=w.1;have:=w.2.1;omega
 rw[mE cG];obtain⟨q,fq,m,l⟩:=w.callee cG;have k:p.aC[x.a.toNat]?=K fq:=by rw[m];exact l
 have aO:Cb fq:=h.prog.parts.2.2.1.2.2.1 _ (f7.1 l).1 fq l;have et:AA p f x=fq.aP:=by
  unfold AA;repeat rw[lY oM]
  rw[mE cG,k]
 rw[et]at A;have bB:=WR A (λt F=>CV (nV.1 aO.pt t F));have aT:=bi cG;rw[N]at aT;simp only[mB,mT]at aT;rw[k];simp only[];have B:∀v∈fq.aB.map λty=>(⟨ty,0⟩:MC),Jf v:= λv d=>by obtain⟨t,F,rfl⟩:=mV.1 d;exact Jf.of (nV.1 aO.lt t F) oM oM (λ_=>oM)
 obtain⟨s1,s2⟩:=aG;have aS:∀v∈ar++fq.aB.map λty=>(⟨ty,0⟩:MC),Jf v:= λv d=>(mA.1 d).elim (H v) (B v)
 refine⟨⟨s1.prog,s1.cost,s1.steps,s1.three,s1.cells,s1.jy,s1.stack,sP,oT, λy G=> ?_,Vz s1.j9 (by simp only[];exact aq)⟩,⟨s2.trap,s2.cost,s2.steps,s2.cells,s2.stack, λy G=> ?_⟩⟩
 . rcases mA.1 G with G|G
   . exact s1.dk y G
   simp only[mK]at G;subst G;refine⟨oS,⟨fq,k,?_, λv d=>(aS v d).1⟩,Int.le_refl _⟩;simp only[nS,bB,ot];(congr 1);exact List.map_id' _
 rcases mA.1 G with G|G
 . exact s2.dk y G
 simp only[mK]at G;subst G;exact⟨aZ.2.1,DB oS oS,DB oS oS, λv d=>(aS v d).2⟩
theorem CO.grow{p:Y}{base g:Nat}{A B:List (J×List Int)}{V f:J}{l j:List Int}(h:CO w base (A++(V,l)::B))(D:Ab p base 2 1 f j (Ad At j))(z:f.ownBlock=K g)(r:w.grownBy p V.ownBlock)(C:V.ownBlock=K g\/ ↑w<=g):CO p base (A++(f,j)::B):=by
 obtain⟨E,F,n⟩:=nI.1 h.sep;obtain⟨v,G⟩:=my.1 F;have t:∀x:J×List Int,x∈A++(V,l)::B->Kf x (V,l)->Kf x (f,j):= λx c d H s e=>by
  rw[z]at e;have e:=mD e;subst e;rcases C with q|q
  . exact d _ s q
  have:=((h.own x c).lt _ s).2;omega
 refine⟨λx c=> ?_,nI.2 ⟨E,my.2 ⟨λy u=>(t y (by simp[u]) (v y u).symm).symm,G⟩, λa d b k=> ?_⟩⟩
 . rcases mA.1 c with c|c
   . exact DF (h.own x (mA.2 (.inl c))) r (λg m e=>n x c (V,l) sP g m e.symm)
   rcases lW.1 c with rfl|c
   . exact D
   exact DF (h.own x (mA.2 (.inr (nA _ c)))) r (λg m e=>v x c g e.symm m)
 rcases lW.1 k with rfl|k
 . exact t a (by simp[d]) (n a d (V,l) sP)
 exact n a d b (nA _ k)
theorem CO.jA{a:Y}{L:List (J×List Int)}(h:CO u B L)(b:Ah u u a):CO a B L:=⟨λr c=>AD (h.own r c) b lR,h.sep⟩
theorem CO.join{L:List (J×List Int)}{b:J}{f:List Int}(h:CO u B L)(p:Ah u u j)(l:Ab j u 2 1 b f (Ad At f))(m:B<= ↑u):CO j B (L++[(b,f)]):=by
 refine⟨λx d=> ?_,nI.2 ⟨h.sep,sP, λa n c k g q e=> ?_⟩⟩
 . rcases mA.1 d with d|d
   . exact AD (h.own x d) p lR
   simp only[lW,lZ,mS]at d;subst d;exact BG l m
 simp only[lW,lZ,mS]at k;subst k;have r:=((h.own a n).lt g q).2;have s:=(l.lt g e).1;omega
theorem CO.other{base b:Nat}{L:List (J×List Int)}{a:Array J}(h:CO w base L)(c:Ay w b a t)(d:2≠t)(i:Nat)(x:J):CO (Aa w ⟨b,i,M⟩ x) base L:=h.set c d i x
theorem CO.jr{a:Y}{base B k m:Nat}{L:List (J×List Int)}{v:J}{b:List J}(h:CO w base L)(c:w.grownBy a v.ownBlock)(f:Ab w B e k v m b)(d:2≠e):CO a base L:=⟨λx g=>H9 (h.own x g) c f d,h.sep⟩
def FV(x:ML×J×J):List J:=[x.1.head,x.2.1,x.2.2]
theorem FW(x:ML×J×J):(FV x).length=3:=rfl
def M3(w:Y)(x:ML×J×J):Prop:=Rd w 1 x.2.1 x.1.back (Ad At x.1.back)/\Rd w 1 x.2.2 x.1.a7 (Ad At x.1.a7)
def Ln(w:Y)(s:J)(a:List ML):Prop:=∃ys:List (ML×J×J),ys.map Prod.fst=a/\Rd w 3 s a (Ad FV ys)/\∀y∈ys,M3 w y
theorem Ln.av{w f:Y}{s:J}{e:List ML}(h:Ln w s e)(b:Ah B w f)(a: ↑w<=B):Ln f s e:=by obtain⟨ys,g,j,c⟩:=h;exact⟨ys,g,j.av b a, λy d=>⟨(c y d).1.av b a,(c y d).2.av b a⟩⟩
def Gn(ys:List (ML×J×J)):List (J×List Int):=ys.flatMap λy=>[(y.2.1,y.1.back),(y.2.2,y.1.a7)]
def iv(f:Nat->Nat)(n:Nat):List J:=(List.range n).map λi=>Ag Af (f i:Int)
theorem JT(f:Nat->Nat)(n:Nat):(iv f n).length=n:=by simp[iv]
theorem TK(f:Nat->Nat)(n i:Nat)(h:i<n):(iv f n)[i]?=K ↑(f i:Int):=by simp[iv,h]
theorem ry{f g:Nat->Nat}{n i x:Nat}(h:∀j,j<n->g j=if j=i then x else f j):(iv f n).set i x=iv g n:=by
 apply nj;intro j;by_cases a:j<n
 . rw[TK _ _ _ a,h j a];by_cases e:j=i
   . subst e;rw[nK (by rw[JT];exact a),mE rfl]
   rw[ni oM,TK _ _ _ a,lY e]
 rw[mc (by simp[JT];omega),mc (by rw[JT];omega)]
theorem Ze(n:Nat):(madeCells (Ag Af 0).cells (n*1)).toList=iv (λ_=>0) n:=by
 rw[Mf n (λ_=>[]) []];simp[CK,iv,List.flatten_replicate_singleton];apply nj;intro j;by_cases a:j<n
 . simp[a]
 rw[mc oT,mc oT]
def Re(O:List Nat)(k x:Nat):Nat:=if(O.reverse.take k).contains x then DY O x else 0
theorem Vu(O:List Nat):Re O 0= λ_=>0:=by funext x;simp[Re]
theorem XP(O:List Nat)(x:Nat)(h:x∈O):Re O O x=DY O x:=by unfold Re;rw[mm sP,mE (by simpa using h)]
theorem Vt{O:List Nat}(d:O.Nodup){k x:Nat}(l:O.reverse[k]?=K x)(n:Nat):∀j,j<n->Re O (k+1) j=if j=x then k else Re O k j:= λj _=>by
 obtain⟨a,e⟩:=f7.1 l;have f:O.reverse.Nodup:=List.pairwise_reverse.2 (d.imp Ne.symm);have h:DY O x=k:=by
  have g:x∈O:=by rw[<-nL,<-e];exact pS a
  have c:=Hx g;obtain⟨m,b⟩:=f7.1 c;exact(List.getElem_inj f).1 (b.trans e.symm)
 unfold Re;rw[mZ a,e];by_cases q:j=x
 . subst q;rw[mE sP,mE rfl,h]
 rw[lY q];have:(O.reverse.take k++[x]).contains j=(O.reverse.take k).contains j:=by simp[q]
 rw[this]
theorem Lx{b base k n:Nat}{a:Array J}{s:J}(c:Ay w b a t)(h:Ab w base e k s n xs)(d:e≠t):s.ownBlock≠K b:= λq=>FA h c d b q rfl
end Go.Proofs.YtkgohaigebcgoaaGreatDoor
