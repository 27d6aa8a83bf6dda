import Derived.Test.YtadcneiiokbofaaGreatBo4
import Derived.Shelf.SlicesG.Reverse
import Derived.Shelf.Bits.Mul64
import Derived.Shelf.Lay
import Derived.Ground.NamesProg
import Derived.Shelf.SlSortCmp.WholeK
import Derived.Ground.SlsfProg
namespace Go.Proofs
open Go.Shelf
def Tryz.lReverse_ren:Go.Shelf.Ren:=⟨λ |35=>142|n=>n, λ |22=>29|23=>2|3=>3|4=>4|0=>0|n=>n, λ |n=>n⟩
theorem Tryz.lReverse:Go.Proofs.SlLaysN.n35 Tryz.prog Tryz.lReverse_ren:={
 mixed:=by kernel_rfl
 f35:=⟨Tryz.f142.name,by decide,Tryz.func142.trans (congrArg some (by kernel_rfl))⟩
 t0:=Tryz.underlying0
 a0:=Tryz.isAgg0
 z0:=Tryz.sizeOf0
 v0:=Tryz.zeroValue0
 t3:=Tryz.underlying3
 a3:=Tryz.isAgg3
 z3:=Tryz.sizeOf3
 v3:=Tryz.zeroValue3
 t4:=Tryz.underlying4
 a4:=Tryz.isAgg4
 z4:=Tryz.sizeOf4
 v4:=Tryz.zeroValue4
 t22:=Tryz.underlying29
 a22:=Tryz.isAgg29
 z22:=Tryz.sizeOf29
 v22:=Tryz.zeroValue29
 t23:=Tryz.underlying2
 a23:=Tryz.isAgg2
 z23:=Tryz.sizeOf2
 v23:=Tryz.zeroValue2}
def Tryz.lMul_ren:Go.Shelf.Ren:=⟨λ |212=>167|263=>188|264=>189|n=>n, λ |46=>238|51=>94|146=>259|53=>231|148=>261|n=>n, λ |n=>n⟩
theorem Tryz.lMul:Go.Proofs.Lays.n212 Tryz.prog Tryz.lMul_ren:={
 mixed:=by kernel_rfl
 f212:=Tryz.func167.trans (congrArg some (by kernel_rfl))
 f263:=Tryz.func188.trans (congrArg some (by kernel_rfl))
 f264:=Tryz.func189.trans (congrArg some (by kernel_rfl))
 t46:=Tryz.underlying238
 a46:=Tryz.isAgg238
 z46:=Tryz.sizeOf238
 v46:=Tryz.zeroValue238
 t51:=Tryz.underlying94
 a51:=Tryz.isAgg94
 z51:=Tryz.sizeOf94
 v51:=Tryz.zeroValue94
 t53:=Tryz.underlying231
 a53:=Tryz.isAgg231
 z53:=Tryz.sizeOf231
 v53:=Tryz.zeroValue231
 t146:=Tryz.underlying259
 a146:=Tryz.isAgg259
 z146:=Tryz.sizeOf259
 v146:=Tryz.zeroValue259
 t148:=Tryz.underlying261
 a148:=Tryz.isAgg261
 z148:=Tryz.sizeOf261
 v148:=Tryz.zeroValue261}
end Go.Proofs
namespace Go.Proofs
open Go.Shelf
def Tryz.lSortF_ren:Go.Shelf.Ren:=⟨λ |6=>173|15=>162|14=>191|28=>186|29=>187|20=>212|21=>213|22=>214|23=>215|24=>216|25=>217|26=>218|27=>219|46=>226|47=>208|48=>209|49=>227|50=>228|57=>229|n=>n, λ |22=>82|24=>92|25=>229|3=>3|39=>238|0=>0|53=>94|55=>231|4=>4|46=>252|45=>251|50=>215|5=>5|9=>9|66=>266|70=>270|76=>280|77=>281|n=>n, λ |n=>n⟩
theorem Tryz.lSortF:Go.Proofs.SlLaysF0.n6 Tryz.prog Tryz.lSortF_ren:={
 mixed:=by kernel_rfl
 f6:=⟨Tryz.f173.name,by decide,Tryz.func173.trans (congrArg some (by kernel_rfl))⟩
 f14:=⟨Tryz.f191.name,by decide,Tryz.func191.trans (congrArg some (by kernel_rfl))⟩
 f15:=Tryz.func162.trans (congrArg some (by kernel_rfl))
 f20:=⟨Tryz.f212.name,by decide,Tryz.func212.trans (congrArg some (by kernel_rfl))⟩
 f21:=⟨Tryz.f213.name,by decide,Tryz.func213.trans (congrArg some (by kernel_rfl))⟩
 f22:=⟨Tryz.f214.name,by decide,Tryz.func214.trans (congrArg some (by kernel_rfl))⟩
 f23:=⟨Tryz.f215.name,by decide,Tryz.func215.trans (congrArg some (by kernel_rfl))⟩
 f24:=⟨Tryz.f216.name,by decide,Tryz.func216.trans (congrArg some (by kernel_rfl))⟩
 f25:=⟨Tryz.f217.name,by decide,Tryz.func217.trans (congrArg some (by kernel_rfl))⟩
 f26:=⟨Tryz.f218.name,by decide,Tryz.func218.trans (congrArg some (by kernel_rfl))⟩
 f27:=⟨Tryz.f219.name,by decide,Tryz.func219.trans (congrArg some (by kernel_rfl))⟩
 f28:=Tryz.func186.trans (congrArg some (by kernel_rfl))
 f29:=Tryz.func187.trans (congrArg some (by kernel_rfl))
 f46:=⟨Tryz.f226.name,by decide,Tryz.func226.trans (congrArg some (by kernel_rfl))⟩
 f47:=Tryz.func208.trans (congrArg some (by kernel_rfl))
 f48:=Tryz.func209.trans (congrArg some (by kernel_rfl))
 f49:=⟨Tryz.f227.name,by decide,Tryz.func227.trans (congrArg some (by kernel_rfl))⟩
 f50:=⟨Tryz.f228.name,by decide,Tryz.func228.trans (congrArg some (by kernel_rfl))⟩
 f57:=⟨Tryz.f229.name,by decide,Tryz.func229.trans (congrArg some (by kernel_rfl))⟩
 t0:=Tryz.underlying0
 a0:=Tryz.isAgg0
 z0:=Tryz.sizeOf0
 v0:=Tryz.zeroValue0
 t3:=Tryz.underlying3
 a3:=Tryz.isAgg3
 z3:=Tryz.sizeOf3
 v3:=Tryz.zeroValue3
 t4:=Tryz.underlying4
 a4:=Tryz.isAgg4
 z4:=Tryz.sizeOf4
 v4:=Tryz.zeroValue4
 t5:=Tryz.underlying5
 a5:=Tryz.isAgg5
 z5:=Tryz.sizeOf5
 v5:=Tryz.zeroValue5
 t9:=Tryz.underlying9
 a9:=Tryz.isAgg9
 z9:=Tryz.sizeOf9
 v9:=Tryz.zeroValue9
 t22:=Tryz.underlying82
 a22:=Tryz.isAgg82
 z22:=Tryz.sizeOf82
 v22:=Tryz.zeroValue82
 t25:=Tryz.underlying229
 a25:=Tryz.isAgg229
 z25:=Tryz.sizeOf229
 v25:=Tryz.zeroValue229
 t39:=Tryz.underlying238
 a39:=Tryz.isAgg238
 z39:=Tryz.sizeOf238
 v39:=Tryz.zeroValue238
 t45:=Tryz.underlying251
 a45:=Tryz.isAgg251
 z45:=Tryz.sizeOf251
 v45:=Tryz.zeroValue251
 t46:=Tryz.underlying252
 a46:=Tryz.isAgg252
 z46:=Tryz.sizeOf252
 v46:=Tryz.zeroValue252
 t50:=Tryz.underlying215
 a50:=Tryz.isAgg215
 z50:=Tryz.sizeOf215
 v50:=Tryz.zeroValue215
 t53:=Tryz.underlying94
 a53:=Tryz.isAgg94
 z53:=Tryz.sizeOf94
 v53:=Tryz.zeroValue94
 t55:=Tryz.underlying231
 a55:=Tryz.isAgg231
 z55:=Tryz.sizeOf231
 v55:=Tryz.zeroValue231
 t66:=Tryz.underlying266
 a66:=Tryz.isAgg266
 z66:=Tryz.sizeOf266
 v66:=Tryz.zeroValue266
 t70:=Tryz.underlying270
 a70:=Tryz.isAgg270
 z70:=Tryz.sizeOf270
 v70:=Tryz.zeroValue270
 t76:=Tryz.underlying280
 a76:=Tryz.isAgg280
 z76:=Tryz.sizeOf280
 v76:=Tryz.zeroValue280
 t77:=Tryz.underlying281
 a77:=Tryz.isAgg281
 z77:=Tryz.sizeOf281
 v77:=Tryz.zeroValue281}
end Go.Proofs
namespace Go.Proofs.YtadcneiiokbofaaGreat
open Go.ChangeShapes Go.WideShapes Go.ChangeAt Go.RowKit Go.Proofs.Tryz
set_option linter.unusedVariables false
open Option renaming some → K,none → M
open Go renaming Value → J,World → Y,Calls → Ai,TypeId → Aj
open Go.RowKit renaming Hid → Ae,Below → Ah
open Go.IntKind renaming i64 → Af
open Go.Obj renaming cells → Ak
open Go.Ending renaming returned → Al
open Go.Proofs.Tryz renaming prog → Ap
open Go.World renaming ownsRow → Ab,alloc → Ac,setCell → Aa
open List renaming flatMap → Ad
open Go.Value renaming slice → Z,int → Ag,bool → An,tuple → Ao
set_option maxHeartbeats 8000000
set_option maxRecDepth 100000
variable {u w c:Y}{l e:List Nat}{base:Nat}{ts:List MT}{j:Int}{ok g S S':Nat->Prop}{W:World}
theorem PM{X:Nat}{a b c d:J}{t:Aj}(h:AA u X #[a,b,c,d] t):u X=K a/\u ⟨X,1,M⟩=K b/\u ⟨X,2,M⟩=K c/\u ⟨X,3,M⟩=K d:=⟨h.cell 0,h.cell 1,h.cell 2,h.cell 3⟩
theorem Ft{z:Int}(a:0<=z)(b:z<=1048576):Dv z:=WalkArith.wf_i64 oM
theorem M7(s:J)(xs:List MI)(w:Y)(R:AZ xs)(h:Rd w 4 s xs (Ad MI.cells xs)):
 Ai Ap 138 #[s] w λe w'=>∃g cap,e=Al (sG g (CV xs xs).length cap)/\Ab w' w 2 1 (sG g (CV xs xs).length cap) (CV xs xs).length (Ad As ((CV xs xs).map Int.ofNat))/\Ah w w w':=by
 have H:=Av h;have HG:=Av R;have aI:=R.1;have aJ:=R.2.1;obtain⟨a1,c1,rfl⟩:=h.bW;clear h R;generalize am:xs.length=n at H aI aJ;have E:=Av am;clear am;have aS:= @run_makeMap Ap;have S0:AP (Ac w (.map #[] 0)) w 0 (.map []):=World.ownsMap_made _ _ _ _;have B0:Ah w w (Ac w (.map #[] 0)):=Aq _ _;have z0:(Ac w (.map #[] 0)).heap.size= ↑w+1:=sP
 have aq:(Ac (Ac w (.map #[] 0)) (Ak #[iZ 0] 2)) ⟨(w:Nat)+1,0,M⟩=K (iZ 0):=by have:=(AA.new (Ac w (.map #[] 0)) #[iZ 0] 2).cell 0;rw[z0]at this;exact this
 have Q:Ae (AP (Ac (Ac w (.map #[] 0)) (Ak #[iZ 0] 2)) w 0 (.map [])/\Ah w w (Ac (Ac w (.map #[] 0)) (Ak #[iZ 0] 2))):=⟨S0.a7 (Aq _ _),Ar B0 lR (Aq _ _)⟩
 have f:Ae _:=aq;clear S0 B0 z0 aq;go_enter func138,ntmps138;go_wp2_with fail;refine(Db w 0 ((w:Nat)+1) 1 (.map []) 0 _ (Ft oM oM) oM f oM Q.1).mono ?_;rintro e u1 ⟨rfl,s1,g1⟩;have G:Ae (∃d D,d<=1/\AP u1 w d D/\Ew D xs 0/\Ah w w u1):=⟨_,_,Nat.le_refl _,s1,Ew.start xs _,Q.2.grown g1 Q.2.size (λj O=>by cases O;exact Nat.le_refl _)⟩
 clear s1 g1 Q f;go_wp2;go_loopw [12] (λi wr=>∃k:Nat,k<=n/\i=iZ k/\Ae (∃d D,d<=2*k+1/\AP wr w d D/\Ew D xs k/\Ah w w wr)) (λi _=>n-(intOf i).toNat)
 case atStart=>exact⟨0,oM,rfl,G⟩
 clear G;obtain⟨k,hk,rfl,G⟩:=hrel;obtain⟨d,D,aQ,ae,au,ao⟩:=G.o;have l:=Av (d5 au (d5 ao (d5 ae (nV ae))));clear ae au ao G;by_cases aP:k<n
 . obtain⟨x,A⟩:∃x,xs[k]?=K x:=⟨_,an (by rw[E];exact aP)⟩;have P:=Av A;rcases H.2 with⟨e0,_⟩|⟨g,o,c,e1,y⟩
   . omega
   simp only[lB,mB]at e1;obtain⟨rfl,rfl⟩:=e1;have x0:=Rd.elem MI.dr y k _ A 0 _ rfl;have x1:=Rd.elem MI.dr y k _ A 1 _ rfl;have x2:=Rd.elem MI.dr y k _ A 2 _ rfl;have x3:=Rd.elem MI.dr y k _ A 3 _ rfl;rw[<-l.2.1.cell (g8 x0),lJ]at x0;rw[<-l.2.1.cell (g8 x1)]at x1;rw[<-l.2.1.cell (g8 x2)]at x2;rw[<-l.2.1.cell (g8 x3)]at x3;clear y A;have aR:(k:Int)<(n:Int):=oM;have aj:Ae (LX w wr (Ac wr (Ak #[x.op,x.a,x.b,x.c] 79)) x d D):=⟨l.2.2.1.a7 (Aq _ _),AA.new _ _ _,Ar l.2.1 lR (Aq _ _),nj l.2.2.1⟩;(go_upto_region 6 with fail);refine Ax (λu=>Ae (LX w wr u x d D)) aj ?_;intro U1 V;clear aj x0 x1 x2 x3;obtain⟨a0,m,p,r⟩:=PM V.xb;go_wp2_with fail;refine(Cy x _).mono ?_;rintro e T ⟨rfl,b2⟩;have v:=Av (V.a7 b2);clear b2 a0 m p r V;cases hgo:A3 x
   . obtain⟨a0,m,p,r⟩:=PM v.xb;go_wp2_with fail;refine(Cy x _).mono ?_;rintro e t ⟨rfl,b3⟩;have I:=Av (v.a7 b3);clear b3 a0 m p r v;rw[hgo];obtain⟨a0,m,p,r⟩:=PM I.xb;by_cases S:x.op=29
     . rw[S]at a0;have f:Ae ((Ac t (Ak #[iZ ((k:Int)+1)] 2)) t=K (iZ ((k:Int)+1))/\LX w wr (Ac t (Ak #[iZ ((k:Int)+1)] 2)) x d D/\¬(t:Nat)= ↑w):=⟨(AA.new t #[iZ ((k:Int)+1)] 2).cell 0,I.a7 (Aq _ _),by have:=nj I.set;omega⟩
       go_wp2_with fail;refine(Db w d t 1 D ((k:Int)+1) _ (Ft oM oM) oM f.1 f.2.2 f.2.1.set).mono ?_;rintro e u4 ⟨rfl,B,L⟩;have F:Ae (∃d D,d<=2*(k+1)+1/\AP u4 w d D/\Ew D xs (k+1)/\Ah w w u4):=⟨_,_,oM,B,l.1.ret l.2.2.2 P hgo S,(f.2.1.grown B L).ej⟩
       clear B L a0 m p r;go_wp2;go_roundw;(case rel=>exact⟨k+1,oM,by go_num,F⟩);exact oI
     (have aT:(x.op==29)=false:=by simpa using S);have F:Ae (∃d D,d<=2*(k+1)+1/\AP t w d D/\Ew D xs (k+1)/\Ah w w t):=⟨_,_,oM,I.set,l.1.none P hgo S,I.ej⟩
     go_wp2;go_roundw;(case rel=>exact⟨k+1,oM,by go_num,F⟩);exact oI
   obtain⟨aH,y⟩:=HG.2.2 k x P hgo;rw[E]at y;obtain⟨a0,m,p,r⟩:=PM v.xb;have f:=Av (d5 ((AA.new T #[x.c] 2).cell 0) (d5 ((v.a7 (Aq _ _)):LX w wr (Ac T (Ak #[x.c] 2)) x d D) ((by have:=nj v.set;omega):¬(T:Nat)= ↑w)))
   go_wp2_with fail;refine(Db w d T 1 D x.c _ (Ft oM oM) oM f.1 f.2.2 f.2.1.set).mono ?_;rintro e u4 ⟨rfl,B,L⟩;have W:=Av (f.2.1.grown B L);clear B L a0 m p r f v;obtain⟨a0,m,p,r⟩:=PM W.xb;go_wp2_with fail;refine(Cy x _).mono ?_;rintro e C ⟨rfl,b5⟩;have X:=Av (W.a7 b5);clear b5 a0 m p r W;rw[hgo];obtain⟨a0,m,p,r⟩:=PM X.xb;have f:Ae ((Ac C (Ak #[.int Af ((k:Int)+1)] 2)).cell? C=K (.int Af ((k:Int)+1))/\LX w wr (Ac C (Ak #[.int Af ((k:Int)+1)] 2)) x (d+1) (D.put (.int Af x.c) (.agg []))/\¬(C:Nat)= ↑w):=⟨(AA.new C #[.int Af ((k:Int)+1)] 2).cell 0,X.a7 (Aq _ _),by have:=nj X.set;omega⟩
   go_wp2_with fail;refine(Db w (d+1) C 1 (D.put (.int Af x.c) (.agg [])) ((k:Int)+1) _ (Ft oM oM) oM f.1 f.2.2 f.2.1.set).mono ?_;rintro e u6 ⟨rfl,s6,g6⟩;have F:Ae (∃d D,d<=2*(k+1)+1/\AP u6 w d D/\Ew D xs (k+1)/\Ah w w u6):=⟨_,_,oM,s6,l.1.kZ l.2.2.2 P hgo aH,(f.2.1.grown s6 g6).ej⟩
   clear s6 g6 a0 m p r;go_wp2;go_roundw;(case rel=>exact⟨k+1,oM,by go_num,F⟩);exact oI
 obtain rfl:k=n:=oM;go_wp2_with (at_delete;refine wpList_delete_own _ rfl _ _ 158 2 rfl 56 EY underlying158 _ w d D rfl l.2.2.1 _ _ rfl (oD underlying2 (Ft (z:=(k:Int)) oM oM)) ?_;intro w1 aA aF);have U:=Av (d5 aA (l.2.1.grown aF.grown l.2.1.size (λj O=>by cases O;exact Nat.le_refl _)));clear aA aF;go_wp2_with fail;refine(Jg w d _ _ oM U.1).mono ?_;rintro e u9 ⟨g9,aG,zs,rfl,ah,aE,aw,b9⟩;have ez:zs=(CV xs k).map Int.ofNat:=by
  refine Jh _ _ aE (nm.2 ((C4 xs k).imp (λh=>by simpa using h))) λz=> ?_
  rw[aw,mG];constructor
  . rintro⟨h1,N⟩;by_cases e:z=(k:Int)
    . subst e;rw[Go.Maps.has_del_same]at N;cases N
    rw[Go.Maps.has_del_other (λq=>e (by cases q;rfl)),l.1 z]at N;simp only[nO,my]at N;have:=N.2;rw[<-E]at this;have aM:=WZ xs _ HG this;rw[E]at aM;exact⟨z.toNat,(CH _ _ _).2 ⟨oM,this⟩,oT⟩
  rintro⟨j,O,rfl⟩;obtain⟨j1,j2⟩:=(CH _ _ _).1 O;rw[E]at j2;refine⟨Ft sP oT,?_⟩;rw[Go.Maps.has_del_other (λq=>by cases q;omega),l.1];simp[j2]
 subst ez;rw[mD]at ah;have HE:=Av (d5 (Bb ah U.2.size) (Ar U.2 lR b9));clear ah aE aw b9;rw[mD];go_wp2;go_ret;exact⟨g9,aG,rfl,HE.1,HE.2⟩
def nv(l:List Nat):List J:=l.map λ(k:Nat)=>Ag Af (k:Int)
theorem Ub(l:List Nat):(nv l).length=l.length:=by simp[nv]
theorem FQ(l m:List Nat):nv (l++m)=nv l++nv m:=by simp[nv]
theorem Df(l:List Nat):nv l=Ad As (ints l):=by
 induction l with
 |nil=>rfl
 | cons x r a=>simp only[nv,ints,nQ,mF]at a⊢;rw[a];rfl
theorem NQ{k x:Nat}(h:l[k]?=K x):(nv l)[k]?=K ↑x:=by simp[nv,h]
def Jo(w:Y)(s:J)(l:List Nat):Prop:=Rd w 1 s l (nv l)
def GE(w:Y)(base:Nat)(s:J)(l:List Nat):Prop:=Ab w base 2 1 s l (nv l)
theorem GE.rd{s:J}(h:GE w base s l):Jo w s l:=Rd.ij h
theorem GE.a7{w a:Y}{s:J}(h:GE w base s l)(b:Ah w w a):GE a base s l:=Aw h b lR
theorem Jo.a7{w a:Y}{s:J}(h:Jo w s l)(b:Ah w w a):Jo a s l:=Rd.a7 h b lR
theorem Jo.at_{a:Option Addr}{n c:Nat}(h:Jo w (Z a n c) l){k x:Nat}(d:l[k]?=K x):∃g o,a=K ⟨g,o,M⟩/\n= ↑l/\w ⟨g,o+k,M⟩=K ↑x:=by
 rcases h.2 with⟨f,_⟩|⟨g,o,c',b,e⟩
 . have:=(i8.1 d).1;omega
 simp only[lB]at b;obtain⟨rfl,rfl,rfl⟩:=b;exact⟨g,o,rfl,rfl,e k _ (NQ d)⟩
theorem Jo.all{a:Option Addr}{n c:Nat}(h:Jo w (Z a n c) l)(i:0<l.length):∃g o,a=K ⟨g,o,M⟩/\n= ↑l/\∀k x:Nat,l[k]?=K x->w ⟨g,o+k,M⟩=K ↑x:=by
 rcases h.2 with⟨f,_⟩|⟨g,o,c',b,d⟩
 . omega
 simp only[lB]at b;obtain⟨rfl,rfl,rfl⟩:=b;exact⟨g,o,rfl,rfl, λk x e=>d k _ (NQ e)⟩
def bv(P:Nat->Bool)(n:Nat):List J:=(List.range n).map λi=>Value.bool (P i)
theorem In(P:Nat->Bool)(n:Nat):(bv P n).length=n:=by simp[bv]
theorem Lq(P:Nat->Bool)(n i:Nat)(h:i<n):(bv P n)[i]?=K ↑(P i):=by simp[bv,h]
theorem Jr{P Q:Nat->Bool}{n:Nat}(h:∀i,i<n->P i=Q i):bv P n=bv Q n:=by unfold bv;apply oG;intro i a;rw[h i (nE.1 a)]
theorem UN{P Q:Nat->Bool}{n i:Nat}{b:Bool}(h:∀j,j<n->Q j=if j=i then b else P j):(bv P n).set i b=bv Q n:=by
 apply nB;intro j;by_cases a:j<n
 . rw[Lq _ _ _ a,h j a];by_cases e:j=i
   . subst e;rw[mi (by rw[In];exact a),lZ rfl]
   rw[mu oM,Lq _ _ _ a,lS e]
 rw[lW (by simp[In];omega),lW (by rw[In];omega)]
theorem Io(n:Nat):List.replicate n (Value.bool false)=bv (λ_=>false) n:=by
 apply nB;intro j;by_cases a:j<n
 . rw[Lq _ _ _ a];simp[a]
 rw[lW oT,lW (by rw[In];omega)]
def GK(w:Y)(base g n:Nat)(P:Nat->Bool):Prop:=Ab w base 4 1 (Z g n n) n (bv P n)
theorem GK.a7{w a:Y}{base g n:Nat}{P:Nat->Bool}(h:GK w base g n P)(b:Ah w w a):GK a base g n P:=Aw h b lR
theorem GK.cell{base g n:Nat}{P:Nat->Bool}(h:GK w base g n P){i:Nat}(a:i<n):w ⟨g,i,M⟩=K ↑(P i):=by have:=ms h i oM;rw[Lq _ _ _ a]at this;exact this
theorem GK.frozen{base g n:Nat}{P:Nat->Bool}(h:GK w base g n P)(i:Nat):w.frozen? ⟨g,i,M⟩=false:=pK h i
theorem GK.set{base g n:Nat}{P Q:Nat->Bool}(h:GK w base g n P)(i:Nat)(b:Bool)(a:∀j,j<n->Q j=if j=i then b else P j):GK (Aa w ⟨g,i,M⟩ b) base g n Q:=by have:=(nC h i b).1;rw[UN a]at this;exact this
def KP(w:Y)(g o n:Nat)(E:Nat->List Nat):Prop:=∀b,b<n->∃a c,w ⟨g,o+b*3+2,M⟩=K (Z a (E b).length c)/\Jo w (Z a (E b).length c) (E b)
theorem KP.a7{e:Y}{g o n:Nat}{E:Nat->List Nat}(h:KP w g o n E)(d:Ah w w e):KP e g o n E:= λb j=>by obtain⟨a,c,f,i⟩:=h b j;exact⟨a,c,Au d f,i.a7 d⟩
theorem I4.iF{V:J}{xs:List MI}(k:AZ xs)(h:I4 w V (AL xs)):∃g o c,V=Z (K ⟨g,o,M⟩) (AL xs).length c/\KP w g o (AL xs).length (nx (AL xs))/\∀b m,(AL xs)[b]?=K m->w ⟨g,o+b*3,M⟩=K (Ag Af m.gZ):=by
 obtain⟨z,t,u,x⟩:=h;have B:=Es k;rcases u.2 with⟨A,_⟩|⟨g,o,c,q,j⟩
 . omega
 have l:∀b m,(AL xs)[b]?=K m->∃v,z[b]?=K (m,v):= λb m d=>by rw[<-t,mE]at d;obtain⟨⟨C,v⟩,y,n⟩:=m6.1 d;simp only[]at n;subst n;exact⟨v,y⟩
 refine⟨g,o,c,q, λb i=> ?_, λb m d=> ?_⟩
 . obtain⟨v,f⟩:=l b _ (an i);have r:=x _ (lA f);have e:=Tf k (an i);(have p:Jo w v (nx (AL xs) b):=by unfold Jo;rw[Df];unfold Ux at r;simp only[e]at r;rw[AV]at r;exact r);obtain⟨a,cc,s⟩:=Rd.bW p;subst s;exact⟨a,cc,Rd.elem A4 j b _ f 2 _ rfl,p⟩
 obtain⟨v,f⟩:=l b m d;have:=Rd.elem A4 j b _ f 0 _ rfl;rw[lJ]at this;exact this
theorem PS{L:List Nat}{n b:Nat}{m:MB}(l:L.Pairwise (· < ·))(c:∀x∈L,x<n)(h:(build L n)[b]?=K m):∃a e:Nat,m.gZ=(a:Int)/\m.last=(e:Int)/\a<=e/\e<n:=by
 unfold build at h;rw[oJ]at h;cases h1:L[b]? with
 |none=>rw[h1]at h;simp at h
 | some a=>
   cases h2:(L.tail++[n])[b]? with
   |none=>rw[h1,h2]at h;simp at h
   | some q=>
     rw[h1,h2]at h;simp only[lH]at h;subst h;have j:=c a (lA h1);have d:a<q/\q<=n:=by
      by_cases k:b< ↑L.tail
      . rw[mP k]at h2;have d:=pD (lA h2);refine⟨?_,o7 (c q d)⟩;(have i:L[b+1]?=K q:=by rw[<-h2];cases L<;>simp);obtain⟨p,f⟩:=i8.1 h1;obtain⟨r,g⟩:=i8.1 i;rw[<-f,<-g];exact(nS.1 l) b (b+1) p r oM
      rw[lY oM]at h2;have:=lA h2;simp only[lw,mK,nJ]at this;subst this;exact⟨j,Nat.le_refl _⟩
     exact⟨a,q-1,rfl,oS,oM,oM⟩
theorem DO{xs:List MI}{b:Nat}{m:MB}(h:(AL xs)[b]?=K m):∃a e:Nat,m.gZ=(a:Int)/\m.last=(e:Int)/\a<=e/\e<xs.length:=by unfold AL at h;rw[mE]at h;obtain⟨k,c,rfl⟩:=m6.1 h;rw[Cr]at c;obtain⟨a,e,f,g,i,j⟩:=PS (C4 _ _) (λx d=>((CH _ _ _).1 d).1) c;exact⟨a,e,f,g,i,j⟩
structure YN(xs:List MI)(r:CS):Prop where
 len:xs.length<=1024
 nb:r.a8.length<=1024
 two:∀m∈r.a8,m.next.length<=2
 nl:r.gX.length<=1024
 ie:∀(i:Nat) (m:MB),r.a8[i]?=K m->∃a e:Nat,m.gZ=(a:Int)/\m.last=(e:Int)/\a<=e/\e< ↑xs
 loop:∀l∈r.gX,(∃h:Nat,l.head=(h:Int)/\h< ↑r.a8)/\(∀z∈l.a8,∃b:Nat,z=(b:Int)/\b< ↑r.a8)/\l.a8.length<=1024/\l.back.length<=2048
theorem Qb{α β:Type}(f:α->List β)(l:List α)(h:∀a∈l,(f a).length<=2):(Ad f l).length<=2*l.length:=by
 induction l with
 |nil=>simp
 | cons a l d=>have e:=h a sP;(have g:=d λb c=>h b (by simp[c]));rw[mF,lG,mW];omega
theorem TF{E:Nat->List Nat}{D:Nat->Nat->Bool}(h:∀b,(E b).length<=2)(n y:Nat):(AK E D n y).length<=2*n:=by have a:=Qb (λp=>((E p).filter λx=>decide (x=y)&&D y p).map λ_=>p) (List.range n) (λp _=>by rw[mD];exact lQ (nP _ _) (h p));rw[m8]at a;exact a
theorem MY{α β:Type}(f:α->Option β)(l:List α):(l.filterMap f).length<=l.length:=List.length_filterMap_le f l
theorem Sk{E:Nat->List Nat}{D L:Nat->Nat->Bool}{n j:Nat}(f:j<=n){l:ML}(h:l∈BI E D L n j):(∃h:Nat,l.head=(h:Int)/\h<n)/\(∀z∈l.a8,∃b:Nat,z=(b:Int)/\b<n)/\ ↑l.a8<=n/\∃g,l.back=ints (AK E D n g):=by
 unfold BI at h;obtain⟨g,c,e⟩:=List.mem_filterMap.1 h;split at e
 . cases e
 cases e
 refine⟨⟨g,rfl,by have:=nE.1 c;omega⟩,?_,?_,g,rfl⟩
 . intro z d;obtain⟨b,a,rfl⟩:=mG.1 d;exact⟨b,rfl,nE.1 (nh.1 a).1⟩
 simp only[];rw[AV];exact lQ (nP _ _) sP
theorem Be.iq{xs:List MI}{r:CS}(h:Be xs r)(a:r.bO=0):YN xs r:=by
 cases h with
 |none _=>cases a
 |off _ _ _=>cases a
 |lost _ _ _ _ _ _ _ _=>cases a
 |two _ _ _ _ _ _ _ _=>cases a
 | good g x1 o1 v1 s1 d1 b1 i1 l1=>
   refine⟨g.2.1,EM g,Gx xs,?_, λi m h=>DO h, λl f=> ?_⟩
   . simp only[];unfold BI;exact lQ (MY _ _) (by rw[m8];exact EM g)
   obtain⟨b,c,d,y,e⟩:=Sk lR f;refine⟨b,c,lQ d (EM g),?_⟩;rw[e,AV];exact lQ (TF (JG _ (Gx xs)) _ _) (by have:=EM g;omega)
def Cj(ts:List MT)(a h:Int):Option MT:=ts.find? λc=>decide (c.func=a)&&decide (c.head=h)
theorem Kw{a h:Int}(q:∀(j:Nat) (c:MT),ts[j]?=K c->¬(c.func=a/\c.head=h)):Cj ts a h=M:=by unfold Cj;rw[List.find?_eq_none];intro c b;obtain⟨j,d⟩:=mJ b;have:=q j c d;simpa using this
theorem Kx{a h:Int}{i:Nat}{c:MT}(f:ts[i]?=K c)(d:c.func=a/\c.head=h)(q:∀(j:Nat) (c:MT),j<i->ts[j]?=K c->¬(c.func=a/\c.head=h)):Cj ts a h=K c:=by
 unfold Cj;rw[List.find?_eq_some_iff_getElem];obtain⟨k,e⟩:=i8.1 f;refine⟨by simp[d],i,k,e, λj g=> ?_⟩;have:=q j _ g (an oM);by_cases b:ts[j].func=a
 . simp only[b,mB]at this;simp[this]
 simp[b]
def DP(b:List MB)(l:List Int)(a:Int):Prop:=∃z∈l,∃m,b[z.toNat]?=K m/\m.gZ<=a/\a<=m.last
def JX(xs:List MI)(k a:Int):Prop:=∃x,xs[a.toNat]?=K x/\(x.op=3\/x.op=27)/\x.a=k
def GT(xs:List MI)(m:MB):Int:=match xs[m.last.toNat]? with|some x=>if x.op=25 then m.last-1 else m.last|none=>m.last
def Bm(b:List MC)(xs:List MI)(m:MB)(c:MT):Prop:=m.gZ<=GT xs m-1/\∃x y v,xs[(GT xs m-1).toNat]?=K x/\xs[(GT xs m).toNat]?=K y/\x.op=1/\y.op=3/\y.a=c.hQ/\b[x.a.toNat]?=K v/\v.type=3/\v.word=c.init
def Kp(d:List MC)(xs:List MI)(a:List MB)(l:ML)(c:MT):Prop:=∃(b:Nat) (m:MB),a[b]?=K m/\l.head∈m.next/\¬((b:Int)∈l.a8)/\¬Bm d xs m c
def AU (p:MP)(e:Int)(xs:List MI)(b:List MB)(l:ML)(n:Int):Prop:=∃d,b[l.head.toNat]?=K d/\
 ((Cj p.e8 e d.gZ=M/\n=1)\/∃c g,Cj p.e8 e d.gZ=K c/\xs[d.gZ.toNat]?=K g/\
   ((¬ (g.op=27/\g.a=c.hQ)/\n=2)\/((g.op=27/\g.a=c.hQ)/\
     ((DP b l.a8 g.c/\n=3)\/(¬DP b l.a8 g.c/\
       (((∃a,DP b l.a8 a/\a≠d.gZ/\JX xs c.hQ a)/\n=4)\/((¬∃a,DP b l.a8 a/\a≠d.gZ/\JX xs c.hQ a)/\
         (((l.head=0\/Kp p.dk xs b l c)/\n=5)\/(¬(l.head=0\/Kp p.dk xs b l c)/\n=0)))))))))
theorem AU.one{p:MP}{xs:List MI}{e:List MB}{l:ML}{n k:Int}(h:AU p j xs e l n)(b:AU p j xs e l k):n=k:=by
 obtain⟨t,m,h⟩:=h;obtain⟨u,f,b⟩:=b;obtain rfl:t=u:=by rw[m]at f;exact lP f
 rcases h with⟨q,rfl⟩|⟨c,g,q,r,h⟩<;>rcases b with⟨d,rfl⟩|⟨c',s,d,i,b⟩
 . rfl
 . rw[q]at d;cases d
 . rw[q]at d;cases d
 obtain rfl:c=c':=by rw[q]at d;exact lP d
 obtain rfl:g=s:=by rw[r]at i;exact lP i
 rcases h with⟨a,rfl⟩|⟨a,h⟩<;>rcases b with⟨a',rfl⟩|⟨a',b⟩
 . rfl
 . exact absurd a' a
 . exact absurd a a'
 rcases h with⟨a,rfl⟩|⟨a,h⟩<;>rcases b with⟨a',rfl⟩|⟨a',b⟩
 . rfl
 . exact absurd a a'
 . exact absurd a' a
 rcases h with⟨a,rfl⟩|⟨a,h⟩<;>rcases b with⟨a',rfl⟩|⟨a',b⟩
 . rfl
 . exact absurd a a'
 . exact absurd a' a
 rcases h with⟨a,rfl⟩|⟨a,rfl⟩<;>rcases b with⟨a',rfl⟩|⟨a',rfl⟩
 . rfl
 . exact absurd a a'
 . exact absurd a' a
 rfl
def IY(a b:ML):Prop:=a.a8.length<b.a8.length\/a.a8.length=b.a8.length/\a.head<b.head
theorem IY.irr(a:ML):¬IY a a:= λh=>by rcases h with h|⟨_,h⟩<;>omega
theorem IY.asy{a b:ML}(h:IY a b)(c:IY b a):False:=by rcases h with h|⟨d,e⟩<;>rcases c with c|⟨f,g⟩<;>omega
theorem Xi{l l':List ML}(j:l.Pairwise IY)(k:l'.Pairwise IY)(c:l.Perm l'):l=l':=by
 induction l generalizing l' with
 |nil=>exact(List.Perm.nil_eq c)
 | cons a r q=>
   cases l' with
   |nil=>exact(List.Perm.nil_eq c.symm).symm
   | cons b s=>
     obtain⟨f,g⟩:=mj.1 j;obtain⟨h,i⟩:=mj.1 k;have p:a=b:=by
      have m:=c.subset mV;have n:=c.symm.subset mV;rcases lw.1 m with e|e
      . exact e
      rcases lw.1 n with d|d
      . exact d.symm
      exact(IY.asy (h a e) (f b d)).elim
     subst p;rw[q g i (List.Perm.cons_inv c)]
section
variable {α:Type} {f:α->ML} {ys zs:List α} {m q r n:Nat} {z1 z2:α}
structure Wp(f:α->ML)(ys zs:List α)(m:Nat):Prop where
 perm:zs.Perm ys
 st:zs.Pairwise λa b=>(f a).a8.length=(f b).a8.length->(f a).head<(f b).head
 so:∀i j a b,i<m->i<j->zs[i]?=K a->zs[j]?=K b->(f a).a8.length<=(f b).a8.length
structure KN(f:α->ML)(ys zs:List α)(m q:Nat):Prop where
 b:Wp f ys zs m
 mn:∀j a b,q<=j->zs[q]?=K a->zs[j]?=K b->(f a).a8.length<=(f b).a8.length
theorem Wp.start(h:ys.Pairwise λa b=>(f a).head<(f b).head):Wp f ys ys 0:=⟨List.Perm.refl _,h.imp (S:= λa b=>(f a).a8.length=(f b).a8.length->(f a).head<(f b).head) (λh _=>h), λi _ _ _ c=>absurd c (Nat.not_lt_zero _)⟩
theorem Wp.toI(h:Wp f ys zs m)(i:zs.length=n):KN f ys zs m (n-1):=⟨h, λj a b g d c=>by
 have e:=(i8.1 c).1;obtain rfl:j=n-1:=oM;rw[d]at c;cases c
 exact Nat.le_refl _⟩
theorem KN.skip(h:KN f ys zs m (r+1))(i:zs[r+1]?=K z1)(d:zs[r]?=K z2)(l:¬(f z1).a8.length<(f z2).a8.length):KN f ys zs m r:=⟨h.b, λj a b k g c=>by
 rw[d]at g;cases g
 by_cases e:j=r
 . subst e;rw[d]at c;(cases c);exact Nat.le_refl _
 have:=h.mn j z1 b oM i c;omega⟩
theorem Yv(e:zs[r+1]?=K z1)(a:zs[r]?=K z2):∃A B,zs=A++z2::z1::B/\A.length=r:=by
 refine⟨zs.take r,zs.drop (r+2),?_,?_⟩
 . obtain⟨g,c⟩:=i8.1 e;obtain⟨h,d⟩:=i8.1 a;have b:=mq h;have f:=mq g;rw[d,f,c]at b;rw[<-b,n9]
 have:=(i8.1 a).1;simp;omega
theorem KN.swap(h:KN f ys zs m (r+1))(R:m<=r)(q:zs[r+1]?=K z1)(s:zs[r]?=K z2)(Q:(f z1).a8.length<(f z2).a8.length):KN f ys ((zs.set (r+1) z2).set r z1) m r:=by
 obtain⟨A,B,rfl,rfl⟩:=Yv q s;have e:(((A++z2::z1::B).set (A.length+1) z2).set A.length z1)=A++z1::z2::B:=by rw[nz _ _ oM,nz _ _ oM];simp
 have n:∀j x,(A++z1::z2::B)[j]?=K x->∃k,(A++z2::z1::B)[k]?=K x/\(j<A.length->k=j)/\(A.length<=j->A.length<=k)/\(A.length+1<j->k=j):= λj x g=>by
  by_cases c1:j<A.length
  . exact⟨j,by rw[mP c1]at g⊢;exact g, λ_=>rfl, λ_=>oM, λ_=>rfl⟩
  rw[lY oM]at g;obtain⟨i,p⟩:∃i,j=A.length+i:=⟨j-A.length,oM⟩;subst p;rw[nA]at g;rcases i with _|_|i
  . exact⟨A.length+1,by rw[lY oM,nA];exact g, λh=>oM, λ_=>oM, λh=>oM⟩
  . exact⟨A.length,by rw[lY oM,nM];exact g, λh=>oM, λ_=>oM, λh=>oM⟩
  exact⟨A.length+(i+1+1),by rw[lY oM,nA];exact g, λh=>oM, λ_=>oM, λh=>rfl⟩
 rw[e];refine⟨⟨(List.Perm.append_left A (List.Perm.swap _ _ _)).trans h.b.perm,?_, λi j a b p v l d=> ?_⟩, λj a b v l d=> ?_⟩
 . have:=h.b.st;rw[nw]at this⊢;obtain⟨G,H,I⟩:=this;refine⟨G,?_, λa l b d=>I a l b ?_⟩
   . obtain⟨L,N⟩:=mj.1 H;obtain⟨O,P⟩:=mj.1 N;refine mj.2 ⟨λx g=> ?_,mj.2 ⟨λx g=>L x (mX _ g),P⟩⟩;rcases lw.1 g with rfl|g
     . intro e;omega
     exact O x g
   simp only[lw]at d⊢;rcases d with d|d|d
   . exact .inr (.inl d)
   . exact .inl d
   exact .inr (.inr d)
 . obtain⟨E,t,u,_,_⟩:=n i a l;obtain⟨F,w,y,z,_⟩:=n j b d;have:=u oM;subst this;exact h.b.so E F a b p (by rcases Nat.lt_or_ge j A.length with c|c;{have:=y c;omega};{have:=z c;omega}) t w
 rw[lY oM,nM]at l;cases l
 by_cases c1:j=A.length
 . subst c1;rw[lY oM,nM]at d;(cases d);exact Nat.le_refl _
 by_cases c2:j=A.length+1
 . subst c2;rw[lY oM,nA]at d;(cases d);omega
 obtain⟨k,C,_,_,D⟩:=n j b d;have:=D oM;subst this;exact h.mn k z1 b oM q C
theorem KN.next(h:KN f ys zs m m):Wp f ys zs (m+1):=⟨h.b.perm,h.b.st, λi j a b k g c d=>by
 by_cases e:i=m
 . subst e;exact h.mn j a b oM c d
 exact h.b.so i j a b oM g c d⟩
theorem Wp.done(h:Wp f ys zs m)(n:zs.length<=m):(zs.map f).Pairwise IY:=by
 rw[nm];have d:zs.Pairwise λa b=>(f a).a8.length<=(f b).a8.length:=by rw[nS];intro i j g l k;exact h.so i j _ _ oM k (an g) (an l)
 refine(d.and h.st).imp ?_;rintro a b ⟨d,e⟩;rcases Nat.lt_or_ge (f a).a8.length (f b).a8.length with c|c
 . exact .inl c
 exact .inr ⟨oM,e oM⟩
end
structure Hd(E:Nat->List Nat)(n:Nat)(pl:Nat->Nat)(D:Nat->Nat->Bool):Prop where
 P:DZ E n pl
 D:∀d b,D d b=true↔C9 E d b
 B:∀b,b<n->∀t∈E b,pl t<=pl b->C9 E t b
 R:∀x,x<n->Ef E (λ_=>True) 0 x
section
variable {E:Nat->List Nat} {n:Nat} {pl:Nat->Nat} {D:Nat->Nat->Bool} {a b h x y p:Nat}
theorem Hd.i7(g:Hd E n pl D)(j:AR E D n h x):C9 E h x:=by
 rcases j with rfl|⟨t,i,e⟩
 . exact C9.jF _ _
 obtain⟨_,_,b⟩:=(DG _ _ _ _ _).1 i;induction e with
 |here _=>exact(g.D _ _).1 b
 | step f a l k=>obtain⟨_,c⟩:=(CK _ _ _ _).1 a;exact λd=>k (.step d c f.kB)
theorem Hd.i9(g:Hd E n pl D)(b:h<n)(e:AR E D n h x):x<n:=by
 rcases e with rfl|⟨t,d,c⟩
 . exact b
 cases c with
 |here _=>exact((DG _ _ _ _ _).1 d).1
 |step _ a _=>exact((CK _ _ _ _).1 a).1
theorem Hd.pred(g:AR E D n h x)(b:x≠h)(c:p<n)(a:x∈E p):AR E D n h p:=by
 rcases g with rfl|⟨t,f,d⟩
 . exact absurd rfl b
 by_cases e:p=h
 . exact .inl e
 exact .inr ⟨t,f,.step d ((CK _ _ _ _).2 ⟨c,a⟩) e⟩
theorem Hd.head(g:Hd E n pl D)(c:b<n)(f:x∈E b)(d:C9 E x b):b∈AK E D n x/\AR E D n x b:=by
 have a:b∈AK E D n x:=(DG _ _ _ _ _).2 ⟨c,f,(g.D _ _).2 d⟩;refine⟨a,?_⟩;by_cases e:b=x
 . exact .inl e
 exact .inr ⟨b,a,.here e⟩
theorem Hd.comp(g:Hd E n pl D)(h:x<n)(c:C9 E a x)(d:C9 E b x):C9 E a b\/C9 E b a:=by
 have j:=Ja g.P g.R h c;have k:=Ja g.P g.R h d;have i:∀a b,C9 E a x->C9 E b x->pl a<pl b->C9 E a b:= λa b c d f l=>by exact c (l.trans ((d.jp g.P h).1.mono λy m e=>by subst e;omega))
 by_cases e:a=b
 . subst e;exact .inl (C9.jF _ _)
 rcases Nat.lt_or_ge (pl a) (pl b)with f|f
 . exact .inl (i a b c d f)
 have:pl b≠pl a:= λq=>e (g.P.inj b a k j q).symm
 exact .inr (i b a d c oM)
theorem Hd.nest(g:Hd E n pl D)(i:b<n)(s:AR E D n a x)(d:AR E D n b x)(j:C9 E a b)(k:a≠b):(∀y,AR E D n b y->AR E D n a y)/\¬AR E D n b a:=by
 have r:=g.i9 i d;have G:=(j.jp g.P i).2.2 k;have z:=Ja g.P g.R i j;have p:∀y,AR E D n b y->y≠a:= λy f e=>by subst e;exact k (C9.jk g.P i z j (g.i7 f))
 have B:∀{x},Ef E (λy=>pl b<=pl y) b x->AR E D n a x->x<n->AR E D n a b:=by
  intro x c;induction c with
  |here _=>exact λh _=>h
  | step c d u l=>intro h H;have f:=c.lt g.P.jb i;exact l (Hd.pred h (λe=>by subst e;omega) f d) f
 have m:AR E D n a b:=B ((g.i7 d).jp g.P r).1 s r;refine⟨λy f=> ?_, λh=>p a h rfl⟩;rcases f with rfl|⟨t,q,c⟩
 . exact m
 obtain⟨C,F,I⟩:=(DG _ _ _ _ _).1 q;have A:AR E D n a t:=Hd.pred m (Ne.symm k) C F;induction c with
 |here _=>exact A
 | step c d u l=>obtain⟨v,w⟩:=(CK _ _ _ _).1 d;exact Hd.pred l (p _ (.inr ⟨t,q,c⟩)) v w
theorem Hd.jZ(g:Hd E n pl D)(e:a<n)(i:b<n)(c:AR E D n a x)(d:AR E D n b x)(f:a≠b):((∀y,AR E D n b y->AR E D n a y)/\¬AR E D n b a)\/((∀y,AR E D n a y->AR E D n b y)/\¬AR E D n a b):=by
 rcases g.comp (g.i9 e c) (g.i7 c) (g.i7 d)with h|h
 . exact .inl (g.nest i c d h f)
 exact .inr (g.nest e d c h (Ne.symm f))
end
structure K6(E:Nat->List Nat)(n:Nat)(D:Nat->Nat->Bool)(Dn:Nat->Prop)(J:Nat->Nat):Prop where
 st:∀b,b<n->(J b=b/\∀h,Dn h->¬AR E D n h b)\/(Dn (J b)/\AR E D n (J b) b/\∀h,Dn h->AR E D n h b->∀y,AR E D n h y->AR E D n (J b) y)
 dl:∀h,Dn h->h<n
structure TA(E:Nat->List Nat)(n:Nat)(D:Nat->Nat->Bool)(Dn:Nat->Prop)(J:Nat->Nat)(inn:Nat->Prop)(h:Nat):Prop where
 lt:∀b,inn b->b<n
 hd:inn h
 pr:∀b,inn b->b≠h->∀p,p<n->b∈E p->inn p
 dn:∀x,inn x->x≠h->AK E D n x≠[]->Dn x
 jh:J h=h
 jo:∀b,inn b->J b=h->b=h
 z:inn 0->h=0
section
variable {E:Nat->List Nat} {n:Nat} {pl:Nat->Nat} {D:Nat->Nat->Bool} {Dn:Nat->Prop} {J:Nat->Nat} {inn:Nat->Prop} {a b h k x y p:Nat}
theorem Hd.same(g:Hd E n pl D)(e:a<n)(f:b<n)(c:∀y,AR E D n a y->AR E D n b y)(d:∀y,AR E D n b y->AR E D n a y):a=b:=(C9.jk g.P e f (g.i7 (c a (.inl rfl))) (g.i7 (d b (.inl rfl)))).symm
theorem K6.jt(g:Hd E n pl D)(s:K6 E n D Dn J)(c:b<n):C9 E (J b) b/\J b<n/\pl (J b)<=pl b:=by
 have a:C9 E (J b) b:=by
  rcases s.st b c with⟨h,_⟩|⟨_,h,_⟩
  . rw[h];exact C9.jF _ _
  exact g.i7 h
 exact⟨a,Ja g.P g.R c a,(a.jp g.P c).2.1⟩
theorem TA.jb(g:Hd E n pl D)(s:K6 E n D Dn J)(r:TA E n D Dn J inn h)(I:inn b)(i:x∈E b)(v:inn x)(G:J x≠J b)(H:J x≠h):J x=x/\pl b<pl x:=by
 have c:=r.lt b I;have w:=r.lt x v;have N:x≠h:= λe=>H (by rw[e,r.jh])
 have z:∀k,Dn k->AR E D n k b->AR E D n k x->J x=k->False:= λk d p t a=>by
  rcases s.st b c with⟨_,q⟩|⟨f,l,A⟩
  . exact q k d p
  rcases s.st x w with⟨_,u⟩|⟨P,Q,C⟩
  . exact u k d t
  rw[a]at C;have m:=A k d p;have F:=C _ f (m x t);exact G (by rw[a];exact g.same (s.dl k d) (s.dl _ f) m F)
 have a:J x=x:=by
  rcases s.st x w with⟨q,_⟩|⟨f,l,A⟩
  . exact q
  by_cases e:x=J x
  . exact e.symm
  exact(z _ f (Hd.pred l e c i) l rfl).elim
 refine⟨a,?_⟩;rcases Nat.lt_or_ge (pl b) (pl x)with j|j
 . exact j
 obtain⟨y,O⟩:=g.head c i (g.B b c x i j);have L:=r.dn x v N (λe=>by rw[e]at y;cases y);exact(z x L O (.inl rfl) a).elim
theorem TA.lr(g:Hd E n pl D)(s:K6 E n D Dn J)(r:TA E n D Dn J inn h)(f:inn a)(i:inn b)(j:x∈E b)(k:inn x)(c:J x≠J b)(d:J x≠h)(e:J x=J a):pl b<pl a:=by obtain⟨l,m⟩:=r.jb g s i j k c d;have:=(s.jt g (r.lt a f)).2.2;rw[<-e,l]at this;omega
structure Wr(E:Nat->List Nat)(inn:Nat->Prop)(J:Nat->Nat)(h:Nat)(C t:Nat->Int):Prop where
 hd:t h=C h
 ed:∀b x,inn b->x∈E b->inn x->J x≠J b->J x≠h->t (J b)+C (J x)<=t (J x)
structure Zn(E:Nat->List Nat)(inn:Nat->Prop)(J:Nat->Nat)(h:Nat)(C s:Nat->Int):Prop where
 clo:Wr E inn J h C s
 le:∀t,Wr E inn J h C t->∀b,inn b->s (J b)<=t (J b)
theorem Zn.one{C s e:Nat->Int}(a:Zn E inn J h C s)(c:Zn E inn J h C e)(d:inn b):s (J b)=e (J b):=Int.le_antisymm (a.le _ c.clo b d) (c.le _ a.clo b d)
theorem Wr.ji{C t:Nat->Int}(g:Hd E n pl D)(r:TA E n D Dn J inn h)(f:∀c,0<=C c)(i:Wr E inn J h C t)(u:inn b):0<=t (J b):=by
 suffices ∀m b,pl b<=m->inn b->0<=t (J b)from this _ b lR u
 intro m;induction m with
 | zero=>
   intro b s a;by_cases e:b=h
   . rw[e,r.jh,i.hd];exact f _
   (have d:b≠0:= λq=>by subst q;exact e (r.z a).symm);have:=g.P.gZ b (r.lt b a) d;omega
 | succ m w=>
   intro b s a;by_cases e:b=h
   . rw[e,r.jh,i.hd];exact f _
   (have d:b≠0:= λq=>by subst q;exact e (r.z a).symm);obtain⟨q,x,p,A⟩:=g.P.par b (r.lt b a) d;have l:=r.pr b a e q x p;have v:=w q oM l;by_cases j:J b=J q
   . rw[j];exact v
   by_cases k:J b=h
   . exact absurd (r.jo b a k) e
   have y:=i.ed q b l p a j k;have:=f (J b);omega
structure Ty(E:Nat->List Nat)(n:Nat)(D L:Nat->Nat->Bool)(Dn:Nat->Prop)(h:Nat):Prop where
 lt:h<n
 il:∀h y,L h y=true↔AR E D n h y
 s1:∀x,AK E D n x≠[]->((List.range n).filter (L x)).length<((List.range n).filter (L h)).length->Dn x
 s2:∀k,Dn k->k≠h/\((List.range n).filter (L k)).length<=((List.range n).filter (L h)).length
theorem Ty.less{L:Nat->Nat->Bool}(g:Hd E n pl D)(c:∀h y,L h y=true↔AR E D n h y)(f:a<n)(d:∀y,AR E D n b y->AR E D n a y)(e:¬AR E D n b a):((List.range n).filter (L b)).length<((List.range n).filter (L a)).length:=KA _ _ n a (λk _ i=>(c _ _).2 (d k ((c _ _).1 i))) f (by rw[<-Bool.not_eq_true,c];exact e) ((c _ _).2 (.inl rfl))
theorem Ty.within{L:Nat->Nat->Bool}(g:Hd E n pl D)(s:K6 E n D Dn J)(q:Ty E n D L Dn h)(a:Dn k)(c:AR E D n h b)(d:AR E D n k b):(∀y,AR E D n k y->AR E D n h y)/\¬AR E D n k h:=by
 rcases g.jZ q.lt (s.dl k a) c d (Ne.symm (q.s2 k a).1)with i|⟨e,f⟩
 . exact i
 have:=Ty.less g q.il (s.dl k a) e f;have:=(q.s2 k a).2;omega
theorem Ty.jV{L:Nat->Nat->Bool}(g:Hd E n pl D)(s:K6 E n D Dn J)(q:Ty E n D L Dn h):TA E n D Dn J (AR E D n h) h where
 lt b hb:=g.i9 q.lt hb
 hd:=.inl rfl
 pr b hb hn p hp he:=Hd.pred hb hn hp he
 dn x hx hn hh:=by
  rcases g.jZ q.lt (g.i9 q.lt hx) hx (.inl rfl) (Ne.symm hn)with⟨a,c⟩|⟨a,c⟩
  . exact q.s1 x hh (Ty.less g q.il q.lt a c)
  exact absurd hx c
 jh:=by
  rcases s.st h q.lt with⟨i,_⟩|⟨a,c,_⟩
  . exact i
  exact absurd c (q.within g s a (.inl rfl) c).2
 jo b hb e:=by
  rcases s.st b (g.i9 q.lt hb)with⟨i,_⟩|⟨a,_,_⟩
  . rw[<-i,e]
  rw[e]at a;exact absurd rfl (q.s2 h a).1
 z h0:=(g.i7 h0).iJ
theorem Ty.step{L:Nat->Nat->Bool}(g:Hd E n pl D)(s:K6 E n D Dn J)(q:Ty E n D L Dn h):K6 E n D (λk=>Dn k\/k=h) (λb=>if L h b then h else J b) where
 st b hb:=by
  by_cases e:L h b=true
  . simp only[e,if_true];refine .inr ⟨sP,(q.il _ _).1 e, λk a c=> ?_⟩;rcases a with a|rfl
    . exact(q.within g s a ((q.il _ _).1 e) c).1
    exact λ_ h=>h
  simp only[lS e];have j:¬AR E D n h b:= λi=>e ((q.il _ _).2 i)
  rcases s.st b hb with⟨d,f⟩|⟨d,f,l⟩
  . exact .inl ⟨d, λk a=>a.elim (f k) (λe=>e▸j)⟩
  exact .inr ⟨.inl d,f, λk a c=>a.elim (λa=>l k a c) (λe=>absurd (e▸c) j)⟩
 dl k a:=a.elim (s.dl k) (λe=>e▸q.lt)
theorem K6.start:K6 E n D (λ_=>False) (λb=>b):=⟨λb _=>.inl ⟨rfl, λ_ h=>h.elim⟩, λ_ h=>h.elim⟩
theorem K6.whole(g:Hd E n pl D)(s:K6 E n D Dn J)(d:∀x,AK E D n x≠[]->Dn x)(c:¬Dn 0):TA E n D Dn J (λb=>b<n) 0 where
 lt b hb:=hb
 hd:=g.P.pos
 pr b hb hn p hp he:=hp
 dn x hx hn hh:=d x hh
 jh:=by
  rcases s.st 0 g.P.pos with⟨i,_⟩|⟨a,f,_⟩
  . exact i
  have:=(g.i7 f).iJ;rw[this]at a;exact absurd a c
 jo b hb e:=by
  rcases s.st b hb with⟨i,_⟩|⟨a,_,_⟩
  . rw[<-i,e]
  rw[e]at a;exact absurd a c
 z _:=rfl
end
def Fz(xs:List MI):Prop:=∀(i:Nat) (x:MI),xs[i]?=K x->A3 x=true->0<=x.c/\x.c<(xs:Int)
theorem II(a:Option Addr)(c:Nat)(z:Int)(w:Y):Ai Ap 147 #[Z a 0 c,z] w λe b=>e=Al false/\b=w:=by have h:=AnyG.slices_Contains_int_empty Tryz.lContains a c z w;exact h
theorem OH(g c:Nat)(y z:Int)(w:Y)(a:w g=K ↑y):Ai Ap 147 #[sG g 1 c,z] w λe d=>e=Al (An (decide (z=y)))/\d=w:=by
 have h:=AnyG.slices_Contains_int Tryz.lContains g 0 1 c [y] z w sP oM (λj b=>by
  have:j=0:=by simpa using b
  subst this;simpa using a)
 have e:([y].take 1).contains z=decide (z=y):=by
  by_cases q:z=y
  . simp[q]
  simp[q]
 rw[e]at h;exact h
theorem SH(g c:Nat)(d:List Int)(z:Int)(w:Y)(G:d.length<=1048576)(k:d.Pairwise (· < ·))(h:Rd w 1 (sG g d c) d (Ad As d))(B:z∈d):
 Ai Ap 140 #[sG g d c,z] w λe n=>(∃b,e=Al (Ao #[iZ (d.idxOf z:Nat),An b]))/\∃q,n=w.drewN q:=by
 have s:∀j,j< ↑d->w ⟨g,0+j,M⟩=K ↑(d.getD j 0):= λj t=>by
  rcases h.2 with⟨E,_⟩|⟨F,H,c',i,f⟩
  . omega
  simp only[lB,lH,nF,nU,mB]at i;obtain⟨⟨rfl,rfl⟩,rfl⟩:=i;have:=f j (d.getD j 0) (by rw[Dc];simp[List.getD_eq_getElem?_getD,List.getElem?_eq_getElem t]);exact this
 have f:=AnyG.slices_BinarySearch_int Tryz.lSearch g 0 d c d z w lR oM s (by rw[mC lR];exact k.imp (λh=>oM));rw[mC lR]at f;have e:∀(l:List Int),l.Pairwise (· < ·)->z∈l->l.countP (λx=>decide (x<z))=l.idxOf z:=by
  intro l;induction l with
  |nil=>intro _ h;cases h
  | cons y r C=>
    intro v u;obtain⟨m,D⟩:=mj.1 v;by_cases q:y=z
    . subst q;rw[List.countP_cons_of_neg sP,List.idxOf_cons_self];exact List.countP_eq_zero.2 (λa p=>by have:=m a p;simp;omega)
    rcases lw.1 u with e|e
    . exact absurd e.symm q
    have:=m z e;rw[List.countP_cons_of_pos (by simpa using this),C D e,pI];rw[show(y==z)=false from by simpa using q];rfl
 refine f.mono ?_;rintro i n ⟨rfl,A⟩;rw[e d k B];exact⟨⟨_,rfl⟩,A⟩
theorem MI.jY{xs:List MI}{g o n e:Nat}{x:MI}(f:∀j v,(Ad MI.cells xs)[j]?=K v->w ⟨g,o+j,M⟩=K v)(h:xs[e]?=K x)(d:Ah w w u):u ⟨g,o+e*4,M⟩=K ↑x.op/\u ⟨g,o+e*4+1,M⟩=K ↑x.a/\u ⟨g,o+e*4+2,M⟩=K ↑x.b/\u ⟨g,o+e*4+3,M⟩=K ↑x.c:=by have i:=Rd.elem MI.dr f e _ h 0 _ rfl;have k:=Rd.elem MI.dr f e _ h 1 _ rfl;have l:=Rd.elem MI.dr f e _ h 2 _ rfl;have m:=Rd.elem MI.dr f e _ h 3 _ rfl;rw[<-d.cell (g8 i),lJ]at i;rw[<-d.cell (g8 k)]at k;rw[<-d.cell (g8 l)]at l;rw[<-d.cell (g8 m)]at m;exact⟨i,k,l,m⟩
theorem Mh(s:J)(xs:List MI)(w:Y)(R:xs.length<=1048576)(h:Rd w 4 s xs (Ad MI.cells xs)):
 Ai Ap 137 #[s] w λe T=>AM e (Fz xs)/\Ah w w T:=by
 have H:Ae (Rd w 4 s xs (Ad MI.cells xs)):=h;obtain⟨a1,c1,rfl⟩:=h.bW;clear h;generalize I:xs.length=n at R H;have v:Ae (↑xs=n):=I
 clear I;go_enter func137,ntmps137;go_wp2;go_loopw [7] (λi wr=>∃k:Nat,k<=n/\i=iZ k/\Ae ((∀j,j<k->∀x,xs[j]?=K x->A3 x=true->0<=x.c/\x.c<(n:Int))/\Ah w w wr)) (λi _=>n-(intOf i).toNat)
 case atStart=>exact⟨0,oM,rfl,⟨λj O=>oM,lu _ _⟩⟩
 obtain⟨k,hk,rfl,l⟩:=hrel;by_cases B:k<n
 . obtain ⟨x,C⟩:∃x,xs[k]?=K x:=⟨_,an (by rw[v];exact B)⟩;have z:Ae (xs[k]?=K x):=C;rcases H.2 with⟨e0,_⟩|⟨g,o,c,G,L⟩
   . omega
   simp only[lB,mB]at G;obtain⟨rfl,rfl⟩:=G;obtain⟨U,V,W,X⟩:=MI.jY (n:=0) L C l.2;clear L C;have ae:(k:Int)<(n:Int):=oM;(go_upto_region 4 with fail);refine Ax (λu=>Ae (AA u wr #[x.op,x.a,x.b,x.c] 79/\Ah w w u)) ⟨AA.new _ _ _,Ar l.2 lR (Aq _ _)⟩ ?_
   intro U1 p;clear U V W X;obtain⟨a0,D,E,F⟩:=PM p.1;go_wp2_with fail;refine(Cy x _).mono ?_;rintro e t ⟨rfl,A⟩;have q:Ae (AA t wr #[x.op,x.a,x.b,x.c] 79/\Ah w w t):=⟨p.1.a7 A,Ar p.2 lR A⟩
   clear A a0 D E F p;obtain⟨a0,D,E,F⟩:=PM q.1;cases hgo:A3 x
   . have m:Ae ((∀j,j<k+1->∀x,xs[j]?=K x->A3 x=true->0<=x.c/\x.c<(n:Int))/\Ah w w t):=⟨λj O y f d=>by
      by_cases e:j=k
      . subst e;rw[z]at f;(cases f);rw[hgo]at d;cases d
      exact l.1 j oM y f d,q.2⟩
     go_wp2;go_roundw;(case rel=>exact⟨k+1,oM,by go_num,m⟩);exact oI
   . go_wp2_with fail;refine(NE x.c n _ oM).mono ?_;rintro e u3 ⟨rfl,P⟩;have S:=P.symm;clear P;subst S;by_cases r:0<=x.c/\x.c<(n:Int)
     . rw [show decide (0<=x.c/\x.c<(n:Int))=true from by simpa using r]
       have m:Ae ((∀j,j<k+1->∀x,xs[j]?=K x->A3 x=true->0<=x.c/\x.c<(n:Int))/\Ah w w t):=⟨λj O y f d=>by
        by_cases e:j=k
        . subst e;rw[z]at f;(cases f);exact r
        exact l.1 j oM y f d,q.2⟩
       go_wp2;go_roundw;(case rel=>exact⟨k+1,oM,by go_num,m⟩);exact oI
     rw[show decide (0<=x.c/\x.c<(n:Int))=false from by simpa using r]
     (have m:Ae (¬Fz xs):= λe=>r (by have:=e k x z hgo;rw[v]at this;exact this));go_wp2;go_ret;exact⟨.no m,q.2⟩
 have Q:Ae (Fz xs):= λi x N d=>by have B:=(i8.1 N).1;rw[v]at B⊢;exact l.1 i oM x N d
 go_wp2;go_ret;exact⟨.iu Q,l.2⟩
structure NP(w U:Y)(V:J)(ns:List Int):Prop where
 ej:Ah w w U
 row:Ab U w 2 1 V ns (Ad As ns)
theorem NP.a7{w U a:Y}{V:J}{c:List Int}(h:NP w U V c)(b:Ah U U a):NP w a V c:=⟨Ar h.ej lR b,Aw h.row b lR⟩
theorem NP.ir{w U b:Y}{V V':J}{a:List Int}{z:Int}{m:Nat}(h:NP w U V a)(g:Ab b w 2 1 V' m (Ad As a++[iZ z]))(f:m= ↑a+1)(d:(Ac U (Ak #[iZ z] 2)).grownBy b V.ownBlock):NP w b V' (a++[z]):=by have c:=Aq U (Ak #[z] 2);refine⟨(Ar h.ej lR c).grown d (lQ h.ej.size c.size) (λi e=>(h.row.lt i e).1),?_⟩;rw[lG,lL,<-f,mH];exact g
structure ID(E:Nat->List Nat)(ok:Nat->Prop)(f n:Nat)(L:List Nat):Prop where
 nodup:L.Nodup
 lt:∀x∈L,x<n
 reach:∀x∈L,Ef E ok f x
 start:f∈L
theorem ID.len{E:Nat->List Nat}{f n:Nat}{L:List Nat}(h:ID E ok f n L): ↑L<=n:=by have:=FO L n h.lt h.nodup;omega
theorem ID.add{E:Nat->List Nat}{f n:Nat}{L:List Nat}(h:ID E ok f n L){b y:Nat}(k:b∈L)(p:y∈E b)(m:ok y)(l:y<n)(i:y∉L):ID E ok f n (L++[y]):=by
 refine⟨oH.2 ⟨h.nodup,sP, λa j c g e=> ?_⟩, λx d=> ?_, λx d=> ?_,lT.2 (.inl h.start)⟩
 . simp only[lw,mK,nJ]at g;subst g e;exact i j
 . rcases lT.1 d with d|d
   . exact h.lt x d
   simp only[lw,mK,nJ]at d;subst d;exact l
 rcases lT.1 d with d|d
 . exact h.reach x d
 simp only[lw,mK,nJ]at d;subst d;exact .step (h.reach b k) p m
def DU(E:Nat->List Nat)(ok:Nat->Prop)(L:List Nat)(i:Nat):Prop:=∀j x,L[j]?=K x->j<i->∀y∈E x,ok y->y∈L
def Ik(E:Nat->List Nat)(ok:Nat->Prop)(L:List Nat)(b k:Nat):Prop:=∀y∈(E b).take k,ok y->y∈L
theorem DU.ir{E:Nat->List Nat}{L:List Nat}{i:Nat}(h:DU E ok L i)(e:i<= ↑L)(y:Nat):DU E ok (L++[y]) i:= λj x a b z d c=>by rw[mP oM]at a;exact lT.2 (.inl (h j x a b z d c))
theorem Ik.next{E:Nat->List Nat}{L c:List Nat}{b k y:Nat}(h:Ik E ok L b k)(g:∀x∈L,x∈c)(i:(E b)[k]?=K y)(e:ok y->y∈c):Ik E ok c b (k+1):= λz a d=>by
 obtain⟨f,rfl⟩:=i8.1 i;rw[l8 f]at a;rcases lT.1 a with a|a
 . exact g z (h z a d)
 simp only[lw,mK,nJ]at a;subst a;exact e d
theorem DU.next{E:Nat->List Nat}{L:List Nat}{i b:Nat}(h:DU E ok L i)(f:L[i]?=K b)(g:Ik E ok L b (E b).length):DU E ok L (i+1):= λj x a k y d c=>by
 by_cases e:j=i
 . subst e;rw[f]at a;(cases a);exact g y (by rw[mC lR];exact d) c
 exact h j x a oM y d c
theorem ID.iff{E:Nat->List Nat}{f n:Nat}{L:List Nat}(h:ID E ok f n L)(d:DU E ok L L)(x:Nat):x∈L↔Ef E ok f x:=by
 refine⟨h.reach x, λe=> ?_⟩;induction e with
 |here _=>exact h.start
 | step _ b c g=>obtain⟨j,a⟩:=mJ g;exact d j _ a (i8.1 a).1 _ b c
structure SN(w u:Y)(n gs:Nat)(V:J)(P:Nat->Bool)(L:List Nat):Prop where
 seen:GK u w gs n P
 list:GE u w V L
 ej:Ah w w u
theorem SN.mark{n a:Nat}{V:J}{P Q:Nat->Bool}{L:List Nat}(h:SN w u n a V P L)(i:Nat)(b:Bool)(c:∀j,j<n->Q j=if j=i then b else P j):SN w (Aa u ⟨a,i,M⟩ b) n a V Q L:=⟨h.seen.set i b c,BT h.list h.seen dC i _,h.ej.setCell (AD h.seen).1 _⟩
theorem SN.al{n a:Nat}{V:J}{P:Nat->Bool}{L:List Nat}(h:SN w u n a V P L)(o:Obj):Ab (u.alloc o) w 2 1 V L (nv L)/\ ↑w<=(u.alloc o).heap.size:=⟨h.list.a7 (Aq _ _),lQ h.ej.size (Aq _ _).size⟩
theorem SN.ir{w u b:Y}{n c:Nat}{V V':J}{P:Nat->Bool}{L:List Nat}{y:Nat}(h:SN w u n c V P L)(f:Ab b w 2 1 V' (L.length+1) (nv L++[iZ (y:Int)]))(d:(Ac u (Ak #[iZ (y:Int)] 2)).grownBy b V.ownBlock):SN w b n c V' P (L++[y]):=by have a:=Aq u (Ak #[y] 2);have g:=h.list.a7 a;refine⟨B3 (h.seen.a7 a) d g dC,?_,(Ar h.ej lR a).grown d (lQ h.ej.size a.size) (λi e=>(h.list.lt i e).1)⟩;unfold GE;rw[lG,lL,FQ];exact f
theorem SN.a7{n b:Nat}{V:J}{P:Nat->Bool}{L:List Nat}(h:SN w u n b V P L)(a:Ah u u c):SN w c n b V P L:=⟨h.seen.a7 a,h.list.a7 a,Ar h.ej lR a⟩
theorem US(L:List Nat)(y:Nat)(n:Nat):∀j,j<n->(L++[y]).contains j=if j=y then true else L.contains j:= λj _=>by
 by_cases e:j=y
 . subst e;simp
 simp[e]
theorem Sc(g o c n f:Nat)(z:Int)(E:Nat->List Nat)(w:Y)(hn:n<=1048576)(hE:∀b,b<n->∀x∈E b,x<n)(aw:∀b,(E b).length<=2)(hf:f<n)(h:KP w g o n E):
 Ai Ap 101 #[sO g o n c,f,z] w λe w'=>∃gs P,e=Al (sG gs n n)/\GK w' w gs n P/\(∀x,x<n->(P x=true↔Ef E (λy=>(y:Int)≠z) f x))/\Ah w w w':=by
 obtain⟨j0,N,aA,aE,aF⟩:=mN D8;obtain⟨k0,C,aR,aS,aT⟩:=mN Br;have H:=Av (d5 h (d5 hE aw));clear h hE aw;go_enter func101,ntmps101;by_cases q:(f:Int)=z
 . subst q;go_wp2_with (at_make;refine mm _ rfl _ _ 80 rfl w 4 j0 false 1 underlying80 N aA aE Af Af _ _ n rfl rfl rfl rfl (by rw[aF];omega) oX lR ?_;intro s p v;rw[DJ,Io]at p);go_ret;refine⟨_,_,rfl,p, λx l=>⟨λq=>by simp at q, λq=>absurd rfl q.jR⟩,(lu _ _).grown v lR (λk C=>by cases C)⟩
 have q':((f:Int)==z)=false:=by simpa using q
 have aZ:(f:Int)<(n:Int):=oM;go_wp2_with (at_make;refine mm _ rfl _ _ 80 rfl w 4 j0 false 1 underlying80 N aA aE Af Af _ _ n rfl rfl rfl rfl (by rw[aF];omega) oX lR ?_;intro s p v;rw[DJ,Io]at p;have z0:=pK p f;have d0:s ⟨w,f,M⟩=K ↑false:=GK.cell p oM)
 have HS:Ae (SN w (Ac (Aa s ⟨w,f,M⟩ true) (Ak #[f] 2)) n w (sG s 1 1) (λx=>[f].contains x) [f]):=by
  have aM:Ah w w s:=(lu _ _).grown v lR (λk C=>by cases C);have k1:GK (Aa s ⟨w,f,M⟩ true) w w n (λx=>[f].contains x):=GK.set (P:= λ_=>false) p f true λj N=>by
   by_cases e:j=f
   . subst e;simp
   simp[e]
  have S:Ah w w (Aa s ⟨w,f,M⟩ true):=aM.setCell lR _;have aW:(Aa s ⟨w,f,M⟩ true).heap.size=s.heap.size:=mc ..
  rw[<-aW];generalize Aa s ⟨w,f,M⟩ true=W4 at k1 S⊢;exact⟨k1.a7 (Aq _ _),Bb (nT W4 #[f] 1 lR oX sP) S.size,Ar S lR (Aq _ _)⟩
 clear p v z0 d0;have R:Ae (ID E (λy=>(y:Int)≠z) f n [f]):=⟨sP, λx l=>by simp at l;omega, λx l=>by simp at l;subst l;exact .here q,sP⟩;go_loopw [8,9] (λV i wr=>∃(L:List Nat) (k r cl:Nat),V=sG r L cl/\i=iZ k/\k<= ↑L/\ ↑L<=n/\Ae (SN w wr n w V (λx=>L.contains x) L/\ID E (λy=>(y:Int)≠z) f n L/\DU E (λy=>(y:Int)≠z) L k)) (λ_ i _=>n-(intOf i).toNat)
 case atStart=>exact⟨[f],0,_,_,rfl,rfl,sP,R.len,HS,R, λj x N hl=>oM⟩
 clear HS R;obtain⟨L,k,r,cl,rfl,rfl,aP,A,d⟩:=hrel;by_cases D:k< ↑L
 . have au:(k:Int)<(L:Int):=oM;obtain⟨b,I⟩:∃b,L[k]?=K b:=⟨_,an D⟩;have aq:b<n:=d.2.1.lt b (lA I);have aY:(b:Int)<(n:Int):=oM;have ae:=Av I;obtain⟨_,_,ee,_,l0⟩:=d.1.list.rd.at_ I;simp only[lH,nF,nU]at ee;obtain⟨rfl,rfl⟩:=ee;rw[mQ]at l0;obtain⟨a,ca,T,g1⟩:=H.1 b aq;have HR:=Av g1;(replace T:=Au d.1.ej T);have aX:=H.2.2 b;clear g1 I;go_wp2;go_loopw [8,11] (λV i wr=>∃(L:List Nat) (m r cl:Nat),V=sG r L cl/\i=iZ m/\m<=(E b).length/\k< ↑L/\ ↑L<=n/\Ae (SN w wr n w V (λx=>L.contains x) L/\ID E (λy=>(y:Int)≠z) f n L/\DU E (λy=>(y:Int)≠z) L k/\L[k]?=K b/\Ik E (λy=>(y:Int)≠z) L b m)) (λ_ i _=>2-(intOf i).toNat)
   (case atStart=>exact⟨L,0,r,cl,rfl,rfl,oM,D,A,d.1,d.2.1,d.2.2,ae, λy B=>by simp at B⟩);clear l0 T d ae D au aP A;obtain⟨L,m,r,cl,rfl,rfl,hm,W,A,d⟩:=hrel;by_cases D:m<(E b).length
   . have au:(m:Int)<((E b).length:Int):=oM;obtain⟨y,B⟩:∃y,(E b)[m]?=K y:=⟨_,an D⟩;have aG:y<n:=H.2.1 b aq y (lA B);have bf:(y:Int)<(n:Int):=oM;have G:=Av B;obtain⟨ga,oa,rfl,_,Q⟩:=HR.at_ B;have aI:=Av Q;(replace Q:=Au d.1.ej Q);have X:=d.1.seen.cell aG;clear B;by_cases O:(y:Int)=z
     . subst O;have t:=Av (d.2.2.2.2.next (λx l=>l) G (λq=>absurd rfl q));go_wp2;go_roundw;(case rel=>exact⟨L,m+1,r,cl,rfl,by go_num,oM,W,A,d.1,d.2.1,d.2.2.1,d.2.2.2.1,t⟩);exact oI
     (have bg:((y:Int)==z)=false:=by simpa using O);(have bi:((y:Int) != z)=true:=by simpa using O);cases hc:L.contains y
     . simp only[hc]at X;have z0:=d.1.seen.frozen y;(have aU:y∉L:=by simpa using hc);have aj:=Av (d.1.mark y true (US L y n));have ah:=Av (d.2.1.add (lA d.2.2.2.1) (lA G) O aG aU);have ao:=ah.len;rw[lG,lL]at ao;have t:Ae (Ik E (λx=>(x:Int)≠z) (L++[y]) b (m+1)):=d.2.2.2.2.next (λx l=>lT.2 (.inl l)) G (λ_=>sP);(go_upto_region 15 with fail);refine Ax (λu=>Ae (SN w u n w (sG r L cl) (λx=>(L++[y]).contains x) L)) aj ?_;intro U F;clear aj X z0 Q;have y1:=Au F.ej aI;go_wp2_with (at_builtin;refine wpList_append_lies _ rfl _ _ 29 rfl w 2 k0 (iZ 0) 1 8 underlying29 C aR aS aT rfl dC _ L (nv L) rfl (F.al (Ak #[iZ (y:Int)] 2)).1 U 1 1 [iZ (y:Int)] rfl rfl (BM U (y:Int)) (λu hu=>by simp at hu;subst hu;rfl) oM (by simp[maxLen];omega) oM (F.al (Ak #[iZ (y:Int)] 2)).2 _ rfl ?_;intro g5 am w5 p v aJ aQ;have aH:Ae (SN w w5 n w (sG g5 (L.length+1) am) (λx=>(L++[y]).contains x) (L++[y])):=F.ir p v;clear p v aJ aQ);go_roundw;(case rel=>exact⟨L++[y],m+1,g5,am,by rw[lG,lL],by go_num,oM,by rw[lG];omega,by rw[lG,lL];exact ao,aH,ah,d.2.2.1.ir oM y,by rw[mP W];exact d.2.2.2.1,t⟩);exact oI
     simp only[hc]at X;have t:=Av (d.2.2.2.2.next (λx l=>l) G (λq=>by simpa using hc));go_wp2;go_roundw;(case rel=>exact⟨L,m+1,r,cl,rfl,by go_num,oM,W,A,d.1,d.2.1,d.2.2.1,d.2.2.2.1,t⟩);exact oI
   obtain rfl:m=(E b).length:=oM;have t:=Av (d.2.2.1.next d.2.2.2.1 d.2.2.2.2);go_wp2;go_roundw;(case rel=>exact⟨L,k+1,r,cl,rfl,by go_num,oM,A,d.1,d.2.1,t⟩);exact oI
 obtain rfl:k=L.length:=oM;have HE:Ae (∀x,x<n->(L.contains x=true↔Ef E (λy=>(y:Int)≠z) f x)):= λx l=>by rw[<-d.2.1.iff d.2.2 x];simp
 go_wp2;go_ret;exact⟨_,_,rfl,d.1.seen,HE,d.1.ej⟩
structure GI(w:Y)(G n gp cp gi ci:Nat)(pl:Nat->Nat)(I:Nat->Int):Prop where
 p:w ⟨G,3,M⟩=K (sG gp n cp)
 i:w ⟨G,4,M⟩=K (sG gi n ci)
 pc:∀x,x<n->w ⟨gp,x,M⟩=K ↑(pl x:Int)
 ic:∀x,x<n->w ⟨gi,x,M⟩=K ↑(I x)
theorem GI.a7{j:Y}{G n f d e c:Nat}{g:Nat->Nat}{I:Nat->Int}(h:GI w G n f d e c g I)(a:Ah w w j):GI j G n f d e c g I:=⟨Au a h.p,Au a h.i, λx b=>Au a (h.pc x b), λx b=>Au a (h.ic x b)⟩
theorem Qv(G n gp X gi W a b:Nat)(d:Nat->Nat)(I:Nat->Int)(w:Y)(hn:n<=1024)(P:PH n d I)(Q:d 0=0)(L:∀a b,a<n->b<n->d a=d b->a=b)(ha:a<n)(hb:b<n)(R:Kn I a)(S:Kn I b)(h:GI w G n gp X gi W d I):
 Ai Ap 145 #[.pointer G,(a:Int),(b:Int)] w λe w'=>∃m:Nat,e=Al m/\m<n/\Kn I m/\Cn I a b m/\Ah w w w':=by
 have H:=Av (d5 h (d5 P (d5 Q L)));have E:=Av (d5 R S);clear h P Q L R S;go_enter func145,ntmps145;go_wp2;go_loopw [1,2] (λv u wr=>∃x y:Nat,x<n/\y<n/\v=iZ (x:Int)/\u=iZ (y:Int)/\Ae (Kn I x/\Kn I y/\(∀m,Cn I x y m->Cn I a b m)/\Ah w w wr)) (λv u _=>d (intOf v).toNat+d (intOf u).toNat)
 case atStart=>exact⟨a,b,ha,hb,rfl,rfl,E.1,E.2, λm h=>h,lu _ _⟩
 obtain⟨x,y,l,r,rfl,rfl,f⟩:=hrel;by_cases e:x=y
 . subst e;go_wp2;go_ret;exact⟨x,rfl,l,f.1,f.2.2.1 x (Cn.same I x),f.2.2.2⟩
 have F:¬(x:Int)=(y:Int):=oM;have eB:((x:Int)==(y:Int))=false:=by simpa using F
 have eN:((x:Int) != (y:Int))=true:=by simpa using F
 have k:=H.1.a7 f.2.2.2;have A:=k.p;have s:=k.i;have T:=k.pc x l;have V:=k.pc y r;have t:=k.ic x l;have z:=k.ic y r;clear k;have ah:(x:Int)<(n:Int):=oM;have aj:(y:Int)<(n:Int):=oM;by_cases N:d y<d x
 . have ae:(d y:Int)<(d x:Int):=oM;(have C:x≠0:= λq=>by have:=H.2.2.1;rw[q]at N;omega);obtain⟨c,c1,c2,c3,c4⟩:=H.2.1.up x l C (f.1.resolve_left C);rw[c1]at t;have g:=Av (d5 c4 (d5 f.2.1 (d5 ((λm B=>f.2.2.1 m (Cn.left H.2.1 r N C c1 B)):(∀m,Cn I c y m->Cn I a b m)) (d5 f.2.2.2 c3))));clear c1 c4;go_wp2;go_quiet (fail);refine AY (λu=>Ae (Ah wr wr u)) (AB _ _ _) ?_;intro U j;(replace A:=Au j A);(replace s:=Au j s);(replace t:=Au j t);clear T V z;go_wp2;go_roundw;(case rel=>exact⟨c,y,c2,r,rfl,rfl,g.1,g.2.1,g.2.2.1,Ar g.2.2.2.1 lR j⟩);simp[intOf];have:=g.2.2.2.2;omega
 have ae:¬(d y:Int)<(d x:Int):=oM;have O:d x<d y:=by have:=H.2.2.2 x y l r;omega
 have D:y≠0:= λq=>by have:=H.2.2.1;rw[q]at O;omega
 obtain⟨c,c1,c2,c3,c4⟩:=H.2.1.up y r D (f.2.1.resolve_left D);rw[c1]at z;have g:=Av (d5 f.1 (d5 c4 (d5 ((λm B=>f.2.2.1 m (Cn.symm (Cn.left H.2.1 l O D c1 B.symm))):(∀m,Cn I x c m->Cn I a b m)) (d5 f.2.2.2 c3))));clear c1 c4;go_wp2;go_quiet (fail);refine AY (λu=>Ae (Ah wr wr u)) (AB _ _ _) ?_;intro U j;replace A:=Au j A
 replace s:=Au j s
 replace z:=Au j z
 clear T V t;go_wp2;go_roundw;case rel=>exact⟨x,c,l,c2,rfl,rfl,g.1,g.2.1,g.2.2.1,Ar g.2.2.2.1 lR j⟩
 simp[intOf];have:=g.2.2.2.2;omega
theorem Bj.skip{n:Nat}{I:Nat->Int}{c:List Nat}{z:Int}{p:Nat}(h:Bj n I c z)(j:¬Kn I p):Bj n I (c++[p]) z:=by
 have i:∀q,q∈c++[p]->q∈c\/q=p:= λq a=>by simpa using a
 rcases h with⟨f,g⟩|⟨m,f,g,l,⟨q,s,t⟩,u⟩
 . exact .inl ⟨f, λq a=>(i q a).elim (g q) (λe=>by rw[e];exact j)⟩
 refine .inr ⟨m,f,g,l,⟨q,lT.2 (.inl s),t⟩, λd=> ?_⟩;rw[u d];exact⟨λk q a b=>(i q a).elim (λr=>k q r b) (λe=>absurd (e▸b) j), λk q a b=>k q (lT.2 (.inl a)) b⟩
theorem Bj.gZ{n:Nat}{I:Nat->Int}{a:List Nat}{p:Nat}(h:Bj n I a (-1))(b:Kn I p)(l:p<n):Bj n I (a++[p]) (p:Int):=by
 have j:∀q,q∈a++[p]->q∈a\/q=p:= λq c=>by simpa using c
 rcases h with⟨f,g⟩|⟨m,f,_⟩
 . refine .inr ⟨p,rfl,l,b,⟨p,sP,b⟩, λd=>⟨λk q c i=>(j q c).elim (λr=>absurd i (g q r)) (λe=>e▸k), λk=>k p sP b⟩⟩
 omega
theorem Bj.kI{n:Nat}{I:Nat->Int}{c:List Nat}{p m b:Nat}(h:Bj n I c (m:Int))(w:Kn I p)(v:b<n)(t:Kn I b)(s:Cn I m p b):Bj n I (c++[p]) (b:Int):=by
 have u:∀q,q∈c++[p]->q∈c\/q=p:= λq a=>by simpa using a
 rcases h with⟨g,_⟩|⟨x,g,y,z,⟨q,i,j⟩,l⟩
 . omega
 obtain rfl:m=x:=oM;refine .inr ⟨b,rfl,v,t,⟨q,lT.2 (.inl i),j⟩, λd=> ?_⟩;rw[s d,l d];exact⟨λk q a f=>(u q a).elim (λr=>k.1 q r f) (λe=>e▸k.2), λk=>⟨λq a f=>k q (lT.2 (.inl a)) f,k p sP w⟩⟩
theorem Bj.some{n:Nat}{I:Nat->Int}{z:Int}(h:Bj n I e z)(d:z≠ -1):∃m:Nat,z=(m:Int)/\m<n/\Kn I m:=by
 rcases h with⟨a,_⟩|⟨m,a,b,c,_⟩
 . exact absurd a d
 exact⟨m,a,b,c⟩
theorem OG(G n C A B y:Nat)(j:Nat->Nat)(I:Nat->Int)(s:J)(d:List Nat)(w:Y)(hn:n<=1024)(W:PH n j I)(hz:j 0=0)(T:∀a b,a<n->b<n->j a=j b->a=b)(V:∀p∈d,p<n)(au:d.length<=4096)(L:Jo w s d)(h:GI w G n C A B y j I):
 Ai Ap 144 #[.pointer G,s] w λe O=>∃z,e=Al (iZ z)/\Bj n I d z/\Ah w w O:=by
 have H:=Av (d5 h (d5 L V));obtain⟨a1,c1,rfl⟩:=Rd.bW L;have HT:Ae (∀(a b:Nat) (U:Y),a<n->b<n->Kn I a->Kn I b->GI U G n C A B y j I->Ai Ap 145 #[.pointer G,(a:Int),(b:Int)] U λe O=>∃m:Nat,e=Al m/\m<n/\Kn I m/\Cn I a b m/\Ah U U O):= λa b U ha hb ka kb hU=>Qv G n C A B y a b j I U hn W hz T ha hb ka kb hU
 clear h L V W hz T;go_enter func144,ntmps144;go_wp2;go_loopw [5,11] (λv i wr=>∃(k:Nat) (z:Int),k<= ↑d/\v=iZ z/\i=iZ k/\Ae (Bj n I (d.take k) z/\Ah w w wr)) (λ_ i _=> ↑d-(intOf i).toNat)
 case atStart=>exact⟨0,-1,oM,rfl,rfl,.inl ⟨rfl, λp l=>by simp at l⟩,lu _ _⟩
 obtain⟨k,z,hk,rfl,rfl,f⟩:=hrel;by_cases ah:k< ↑d
 . have am:(k:Int)<(d:Int):=oM;obtain⟨p,l⟩:∃p,d[k]?=K p:=⟨_,an ah⟩;have F:p<n:=H.2.2 p (lA l);have aw:(p:Int)<(n:Int):=oM;(have x:Ae (d.take (k+1)=d.take k++[p]):=by obtain⟨hl,rfl⟩:=i8.1 l;exact l8 hl);obtain⟨ga,oa,rfl,_,P⟩:=H.2.1.at_ l;(replace P:=Au f.2 P);have D:=H.1.a7 f.2;have i0:=D.i;have ip:=D.ic p F;clear l D;by_cases t:Kn I p
   . have r:Ae (Kn I p):=t;(go_upto_region 5 with fail);go_cut [8]from 15 to 26 (λc wx=>c=An true/\wx=wr)
     case first=>
      by_cases E:p=0
      . subst E;go_wp2;go_meet;exact⟨rfl,rfl⟩
      have aj:((p:Int)==0)=false:=oT;have u:=r.resolve_left E;(have ao:(I p== -1)=false:=by simpa using u);(have aq:(I p != -1)=true:=by simpa using u);go_wp2;go_meet;exact⟨rfl,rfl⟩
     case rest=>
      obtain⟨rfl,X⟩:=hcut;rw[X];clear X P i0 ip;by_cases N:z=-1
      . subst N;(have g:Ae (Bj n I (d.take (k+1)) (p:Int)):=by show Bj _ _ _ _;rw[x];exact f.1.gZ r F);go_wp2;go_roundw;(case rel=>exact⟨k+1,_,oM,rfl,by go_num,g,f.2⟩);exact oI
      (have aA:(z== -1)=false:=by simpa using N);obtain⟨m,rfl,hm,ae⟩:=f.1.some N;go_wp2_with fail;refine(HT.o m p wr hm F ae r (H.1.a7 f.2)).mono ?_;rintro e u1 ⟨m',rfl,h1,R,S,Q⟩;have g:Ae (Bj n I (d.take (k+1)) (m':Int)/\Ah w w u1):=by refine⟨?_,Ar f.2 lR Q⟩;rw[x];exact f.1.kI r h1 R S
      clear R S Q;go_wp2;go_roundw;(case rel=>exact⟨k+1,_,oM,rfl,by go_num,g⟩);exact oI
   (have E:¬p=0:= λq=>t (.inl q));(have u:I p=-1:=mr λq=>t (.inr q));have aj:((p:Int)==0)=false:=oT;rw[u]at ip;(have g:Ae (Bj n I (d.take (k+1)) z):=by show Bj _ _ _ _;rw[x];exact f.1.skip t);go_wp2;go_roundw;(case rel=>exact⟨k+1,z,oM,by trivial,by go_num,g,f.2⟩);exact oI
 obtain rfl:k=d.length:=oM;have g:Ae (Bj n I d z):=by have:=f.1;rw[mC lR]at this;exact this
 go_wp2;go_ret;exact⟨z,rfl,g,f.2⟩
theorem W9(x y:Nat)(hx:x<18446744073709551616)(hy:y<18446744073709551616)(w:World):
 Calls Tryz.prog 167 #[.int .u64 x,.int .u64 y] w λe w'=>e=.returned (.tuple #[.int .u64 ((x*y / 18446744073709551616:Nat):Int),.int .u64 ((x*y % 18446744073709551616:Nat):Int)])/\w'=w:=by
 have h:=Any.bits_Mul Tryz.lMul x y hx hy w;exact h
theorem QK(g cap:Nat)(zs:List Int)(w:World)(hH:Go.Sort.Holds (Value.int .i64) w g 0 zs.toArray)(hsz:zs.length<=9223372036854775807):
 Calls Tryz.prog 142 #[.slice (some ⟨g,0,none⟩) zs.length cap] w λe w'=>e=.returned (.tuple #[])/\∃n,w'=Go.Sort.putRow (Value.int .i64) (Go.Sort.ahead w n) g 0 zs.reverse.toArray:=by
 have h:=AnyG.slices_Reverse_int Tryz.lReverse g 0 cap zs w hH hsz;exact h
def EL(k n:Nat):List Value:=List.replicate k (.int .i64 (-1))++List.replicate (n-k) (.int .i64 0)
theorem QH(k n:Nat)(h:k<=n):(EL k n).length=n:=by simp[EL];omega
theorem QI(k c n:Nat)(h:k+c<=n):splice (EL k n) k (List.replicate c (.int .i64 (-1)))=EL (k+c) n:=by
 unfold splice EL;rw[List.take_left' (by simp),nH,List.drop_append,oF (by simp),mw,nH,List.drop_replicate,<-nN,List.replicate_append_replicate];congr 2
 omega
theorem P5(W:World)(G k n dl dc sl sc c:Nat)(ad:Addr)(hg:AA W G (EL k n).toArray 2)(hc:c=Nat.min sl dl)(hsrc:∀j,j<c->W.cell? (ad.add j)=some (.int .i64 (-1)))(hkc:k+c<=n):
 (Builtin.copy_ #[29,29] 3 #[.slice (some ⟨G,k,none⟩) dl dc,.slice (some ad) sl sc]).run Tryz.prog W=.ok (.int .i64 (c:Int)) (W.setRow G (EL (k+c) n).toArray):=by
 obtain⟨k0,hk,hx0,hx1,hx2⟩:=mN Br;have h:=run_copy_row (P:=Tryz.prog) W 29 29 3 2 G k dl dc ad sl sc (EL k n).toArray 2 (List.replicate c (.int .i64 (-1))) Tryz.underlying29 (by rw[hk];simp[hx1]) hg (by rw[nH];exact hc) (λj v hj=>by obtain⟨h1,h2⟩:=i8.1 hj;rw[nH]at h1;rw[hsrc j h1,<-h2];simp) (by rw[nH,List.size_toArray,QH k n (by omega)];exact hkc) (λv hv=>by rw[(List.mem_replicate.1 hv).2];rfl);rw[h];have e:=QI k c n hkc;unfold splice at e;simp only[nH]at e⊢;rw[nN,e];rfl
theorem Yt(k n i:Nat)(h:i<k)(hk:k<=n):(EL k n).toArray[i]?=some (.int .i64 (-1)):=by rw[lE];unfold EL;rw[mP (by simpa using h)];simp[h]
theorem Vw{B G n:Nat}(h:W.ownsRow B 2 1 (.slice (some ⟨G,0,none⟩) n n) n (madeCells (Value.int .i64 0).cells (n*1)).toList):AA W G (EL 0 n).toArray 2:=by
 rcases h.2 with⟨h',_⟩|⟨g',cap',cur,h',hb,hg,h3,h4,h5,h6⟩
 . cases h'
 cases h'
 have e:cur=(EL 0 n).toArray:=by rw[JE n (λ_=>[]) []]at h6;rw[mC (by simp[h5])]at h6;apply Array.toList_inj.1;rw[h6];simp[BG,EL,List.flatten_replicate_singleton]
 rw[<-e];exact hg
theorem Mk{G:Nat}{cur new:Array Value}{t:TypeId}(h:AA W G cur t):AA (W.setRow G new) G new t:=setRow_heap W G _ _ t _ h
theorem SF(g n:Nat)(w:World)(h1:1<=n)(hn:n<=1024)(h:w.cell? ⟨g,0,none⟩=some (.int .i64 (-1))):
 Calls Tryz.prog 143 #[.slice (some ⟨g,0,none⟩) 1 1,.int .i64 (n:Int)] w λe w'=>∃g',e=.returned (.slice (some ⟨g',0,none⟩) n n)/\w'.ownsRow w.heap.size 2 1 (.slice (some ⟨g',0,none⟩) n n) n (List.replicate n (.int .i64 (-1)))/\Below w.heap.size w w':=by
 obtain⟨k0,hk,hx0,hx1,hx2⟩:=mN Br;have hnI:¬(n:Int)<0:=by omega
 have hn2:(n:Int)<=1024:=by omega
 have hm1:1*n / 18446744073709551616=0:=by omega
 have hm2:1*n % 18446744073709551616=n:=by omega
 have HM:Hid (∀U:World,Calls Tryz.prog 167 #[.int .u64 1,.int .u64 (n:Int)] U λe w'=>e=.returned (.tuple #[.int .u64 0,.int .u64 (n:Int)])/\w'=U):= λU=>by have:=W9 1 n (by omega) (by omega) U;rw[hm1,hm2]at this;exact this
 clear hm1 hm2;go_enter Tryz.func143,Tryz.ntmps143;go_wp2_with fail;refine(HM.o w).mono ?_;rintro e u ⟨rfl,rfl⟩;have hgt:g<u.heap.size:=g8 h;have HOC:Hid (u.cell? ⟨g,0,none⟩=some (.int .i64 (-1))):=h;clear h;go_upto_region 7 with(at_make;refine mm _ rfl _ _ 29 rfl u.heap.size 2 k0 (.int .i64 0) 1 Tryz.underlying29 hk hx0 hx1 .i64 .i64 _ _ n rfl rfl rfl rfl (by rw[hx2];omega) (by unfold maxLen;omega) lR ?_;intro w3 hown hgrow)
 have hb3:Below u.heap.size u w3:=(lu _ _).grown hgrow lR (λk hk=>by cases hk);have k3:AA w3 u.heap.size (EL 0 n).toArray 2:=Vw hown;have hcp:=P5 w3 u.heap.size 0 n n n 1 1 1 ⟨g,0,none⟩ k3 (by simp[Nat.min_def];omega) (λj hj=>by
  obtain rfl:j=0:=by omega
  rw[CQ];exact Au hb3 HOC.o) (by omega)
 have HB4:Hid (AA (w3.setRow u.heap.size (EL (0+1) n).toArray) u.heap.size (EL (0+1) n).toArray 2/\Below u.heap.size u (w3.setRow u.heap.size (EL (0+1) n).toArray)):=⟨Mk k3,below_setRow hb3 lR _⟩
 clear hown hgrow hb3 k3;rw[mQ]at hcp HB4;obtain⟨W4,hW4⟩:∃W,W=w3.setRow u.heap.size (EL 1 n).toArray:=⟨_,rfl⟩;rw[<-hW4]at hcp HB4;clear hW4;obtain⟨G,hG⟩:∃G,G=u.heap.size:=⟨_,rfl⟩;rw[<-hG]at hcp HB4⊢;have HGG:Hid (G=u.heap.size):=hG;clear hG;go_wp2;go_loopw [8] (λi wr=>∃k:Nat,1<=k/\k<=n/\i=.int .i64 (k:Int)/\Hid (AA wr G (EL k n).toArray 2/\Below u.heap.size u wr)) (λi _=>n-(intOf i).toNat)
 case atStart=>exact⟨1,by omega,h1,rfl,by rw[<-HGG.o];exact HB4⟩
 clear HB4 hcp;obtain⟨k,hk1,hkn,rfl,HL⟩:=hrel;by_cases hlt:k<n
 . (have hltI:(k:Int)<(n:Int):=by omega);have kD:=HL.o.1.a7 (At wr);have bD:=Ar HL.o.2 lR (At wr);obtain⟨c,hc⟩:∃c,c=Nat.min k (n-k):=⟨_,rfl⟩;have hcl:1<=c/\c<=k/\k+c<=n:=by have e:c=min k (n-k):=hc;omega
   have hcp:=P5 wr.drew G k n (n-k) (n-k) k n c ⟨G,0,none⟩ kD hc (λj hj=>by rw[CQ,mQ,kD.cell j];exact Yt k n j (by omega) (by omega)) (by omega);have HN:Hid (AA (wr.drew.setRow G (EL (k+c) n).toArray) G (EL (k+c) n).toArray 2/\Below u.heap.size u (wr.drew.setRow G (EL (k+c) n).toArray)):=⟨Mk kD,below_setRow bD (by rw[HGG.o];exact Nat.le_refl _) _⟩
   clear kD bD hc;go_wp2;go_region;refine AY (λx=>Hid (AA x G (EL (k+c) n).toArray 2/\Below u.heap.size u x)) HN ?_
   intro U HU;clear HN hcp;go_wp2;go_roundw;(case rel=>exact⟨k+c,by omega,by omega,by go_num,HU⟩);simp[intOf];omega
 obtain rfl:k=n:=by omega
 have HE:Hid (wr.ownsRow u.heap.size 2 1 (.slice (some ⟨G,0,none⟩) k k) k (List.replicate k (.int .i64 (-1)))):=by refine⟨by simp,.inr ⟨G,k,(EL k k).toArray,rfl,by rw[HGG.o];exact Nat.le_refl _,HL.o.1,Nat.le_refl _,by unfold maxLen;omega,by simp[EL],by simp[EL]⟩⟩
 go_wp2;go_ret;exact⟨G,rfl,HE.o,HL.o.2⟩
structure LV where
 h:Int
 xa:Option Addr
 xn:Nat
 xc:Nat
 ya:Option Addr
 yn:Nat
 yc:Nat
instance:Inhabited LV:=⟨⟨0,none,0,0,none,0,0⟩⟩
def LV.enc(x:LV):List Value:=[.int .i64 x.h,.slice x.xa x.xn x.xc,.slice x.ya x.yn x.yc]
def LV.cmp(x y:LV):Int:=if x.yn<y.yn then -1 else if y.yn<x.yn then 1 else if x.h<y.h then -1 else if y.h<x.h then 1 else 0
theorem LV.lt_iff(x y:LV):ltOf LV.cmp x y=decide (x.yn<y.yn\/x.yn=y.yn/\x.h<y.h):=by
 unfold ltOf LV.cmp;by_cases h1:x.yn<y.yn
 . simp[h1]
 by_cases h2:y.yn<x.yn
 . have:¬(x.yn<y.yn\/x.yn=y.yn/\x.h<y.h):=by omega
   simp[h1,h2];omega
 have e:x.yn=y.yn:=by omega
 by_cases h3:x.h<y.h
 . simp[e,h3]
 by_cases h4:y.h<x.h<;>simp[e,h3,h4]
theorem LV.swo:Go.Sort.SWO (ltOf LV.cmp) where
 irrefl x:=by rw[LV.lt_iff];simp
 trans x y z h1 h2:=by rw[LV.lt_iff]at*;simp at*;omega
 ntrans x y z h1 h2:=by rw[LV.lt_iff]at*;simp at*;omega
structure Cm(f:Nat->Int)(S:Nat->Prop)(m:Int):Prop where
 nn:0<=m
 ub:∀b,S b->f b<=m
 at_:m=0\/∃b,S b/\f b=m
theorem Cm.one{f d:Nat->Int}{m i:Int}(h:Cm f S m)(c:Cm d S i)(g:∀b,S b->f b=d b):m=i:=by
 have j:=h.nn;have k:=c.nn;apply Int.le_antisymm
 . rcases h.at_ with e|⟨b,a,e⟩
   . omega
   have:=c.ub b a;have:=g b a;omega
 rcases c.at_ with e|⟨b,a,e⟩
 . omega
 have:=h.ub b a;have:=g b a;omega
theorem Cm.le{f:Nat->Int}{m B:Int}(h:Cm f S m)(d:0<=B)(a:∀b,S b->f b<=B):m<=B:=by
 rcases h.at_ with e|⟨b,c,e⟩
 . omega
 have:=a b c;omega
theorem Cm.none{f:Nat->Int}(h:∀b,¬S b):Cm f S 0:=⟨Int.le_refl _, λb a=>(h b a).elim,.inl rfl⟩
theorem Cm.add{f:Nat->Int}{m:Int}{b:Nat}(h:Cm f S m)(c:∀x,S' x↔S x\/x=b):Cm f S' (max m (f b)):=by
 have g:=h.nn;refine⟨oM, λx a=> ?_,?_⟩
 . rcases(c x).1 a with a|rfl
   . have:=h.ub x a;omega
   omega
 rcases Int.le_total m (f b)with d|d
 . exact .inr ⟨b,(c b).2 (.inr rfl),oM⟩
 rw[Int.max_eq_left d];exact h.at_.imp_right λ⟨x,a,e⟩=>⟨x,(c x).2 (.inl a),e⟩
theorem Cm.iff{f:Nat->Int}{m:Int}(h:Cm f S m)(a:∀x,S' x↔S x):Cm f S' m:=⟨h.nn, λb c=>h.ub b ((a b).1 c),h.at_.imp_right λ⟨x,d,e⟩=>⟨x,(a x).2 d,e⟩⟩
section
variable {E:Nat->List Nat} {n:Nat} {D L:Nat->Nat->Bool} {inn bk:Nat->Prop} {J:Nat->Nat} {C s s':Nat->Int} {h:Nat} {iv:Int}
structure Tz(E:Nat->List Nat)(inn:Nat->Prop)(J:Nat->Nat)(h:Nat)(C s:Nat->Int):Prop where
 jQ:Zn E inn J h C s
 sm:∀b,inn b->s (J b)<=4294967295
def Lj(E:Nat->List Nat)(inn:Nat->Prop)(J:Nat->Nat)(h:Nat)(C:Nat->Int):Prop:=∀t,Wr E inn J h C t->∃b,inn b/\4294967295<t (J b)
theorem Tz.not(p:Tz E inn J h C s)(q:Lj E inn J h C):False:=by obtain⟨b,a,c⟩:=q s p.jQ.clo;have:=p.sm b a;omega
def Wu(E:Nat->List Nat)(inn:Nat->Prop)(b:Nat):Prop:=inn b/\∃x∈E b,¬inn x
def Ox(E:Nat->List Nat)(inn bk:Nat->Prop)(J:Nat->Nat)(h:Nat)(C:Nat->Int)(iv:Int)(r:Option Int):Prop:=(r=M/\Lj E inn J h C)\/∃s a c,Tz E inn J h C s/\Cm (λb=>s (J b)) bk a/\Cm (λb=>s (J b)) (Wu E inn) c/\r=if 4294967295<iv*a+c then M else K (iv*a+c)
theorem Ox.one{r j:Option Int}(l:∀b,bk b->inn b)(d:Ox E inn bk J h C iv r)(a:Ox E inn bk J h C iv j):r=j:=by
 rcases d with⟨rfl,d⟩|⟨s,u,v,p,m,n,e⟩
 . rcases a with⟨rfl,_⟩|⟨s',k,t,c,g,i,f⟩
   . rfl
   exact(c.not d).elim
 rcases a with⟨rfl,a⟩|⟨s',k,t,c,g,i,f⟩
 . exact(p.not a).elim
 obtain rfl:=m.one g λb q=>p.jQ.one c.jQ (l b q)
 obtain rfl:=n.one i λb q=>p.jQ.one c.jQ q.1
 rw[e,f]
def Rx(E:Nat->List Nat)(n:Nat)(a:Nat->Prop)(J:Nat->Nat)(C:Nat->Int)(r:Int):Prop:=(r=-1/\Lj E (λb=>b<n) J 0 C)\/∃s,Tz E (λb=>b<n) J 0 C s/\Cm (λb=>s (J b)) (λb=>b<n/\a b) r
theorem Rx.one{r f:Int}(c:Rx E n g J C r)(a:Rx E n g J C f):r=f:=by
 rcases c with⟨rfl,c⟩|⟨s,p,m⟩
 . rcases a with⟨rfl,_⟩|⟨s',d,e⟩
   . rfl
   exact(d.not c).elim
 rcases a with⟨rfl,a⟩|⟨s',d,e⟩
 . exact(p.not a).elim
 exact m.one e λb q=>p.jQ.one d.jQ q.1
inductive Rv (E:Nat->List Nat) (n:Nat) (D L:Nat->Nat->Bool) (iv:Nat->Int) (rt:Nat->Prop):List Nat->(Nat->Nat)->(Nat->Int)->Int->Prop
 |nil {J:Nat->Nat} {C:Nat->Int} {r:Int}:Rx E n rt J C r->Rv E n D L iv rt [] J C r
 |bad {h:Nat} {hs:List Nat} {J:Nat->Nat} {C:Nat->Int}:Ox E (λb=>L h b=true) (· ∈AK E D n h) J h C (iv h) M->Rv E n D L iv rt (h::hs) J C (-1)
 |step {h:Nat} {hs:List Nat} {J:Nat->Nat} {C:Nat->Int} {v r:Int}:Ox E (λb=>L h b=true) (· ∈AK E D n h) J h C (iv h) (K v)->Rv E n D L iv rt hs (λb=>if L h b then h else J b) (λc=>if c=h then v else C c) r->Rv E n D L iv rt (h::hs) J C r
theorem Rv.one{iv:Nat->Int}(d:∀h b,b∈AK E D n h->L h b=true){J:Nat->Nat}{C:Nat->Int}{r f:Int}(i:Rv E n D L iv g e J C r)(c:Rv E n D L iv g e J C f):r=f:=by
 induction i with
 |nil h=>cases c with|nil a=>exact h.one a
 | bad h=>
   cases c with
   |bad _=>rfl
   |step a _=>cases h.one (d _) a
 | step h _ j=>
   cases c with
   |bad a=>cases h.one (d _) a
   |step a q=>cases h.one (d _) a;exact j q
end
theorem SD(xs:List MI)(x:MI)(e:Nat)(a:FW x=true/\e+1< ↑xs)(b:¬A3 x=true):Bg xs x e=[]++[((e:Int)+1)]:=by unfold Bg;rw[lZ a,lS (λq=>b q.1)];rfl
theorem Sy(xs:List MI)(x:MI)(e:Nat)(a:FW x=true/\e+1< ↑xs)(b:A3 x=true)(h:x.c=((e+1:Nat):Int)):Bg xs x e=[]++[((e:Int)+1)]:=by unfold Bg;rw[lZ a,lS (λq=>q.2 ⟨a.1,a.2,h⟩)];rfl
theorem SA(xs:List MI)(x:MI)(e:Nat)(a:FW x=true/\e+1< ↑xs)(b:A3 x=true)(h:¬x.c=((e+1:Nat):Int)):Bg xs x e=[]++[((e:Int)+1)]++[x.c]:=by unfold Bg;rw[lZ a,lZ ⟨b, λq=>h q.2.2⟩];rfl
theorem Sz(xs:List MI)(x:MI)(e:Nat)(a:¬(FW x=true/\e+1< ↑xs))(b:A3 x=true):Bg xs x e=[]++[x.c]:=by unfold Bg;rw[lS a,lZ ⟨b, λq=>a ⟨q.1,q.2.1⟩⟩]
theorem SC(xs:List MI)(x:MI)(e:Nat)(a:¬(FW x=true/\e+1< ↑xs))(b:¬A3 x=true):Bg xs x e=[]:=by unfold Bg;rw[lS a,lS (λq=>b q.1)];rfl
theorem Q9{q:Prop}(h:q:=by
 obtain⟨x0,x1,x2,x3⟩:=MI.jY (n:=0) HC HX HU1.ej;go_wp2_with fail;refine(Cy x _).mono ?_;rintro e4 u4 ⟨rfl,b4⟩;have HU4:Ae (NP w u4 sN []):=HU1.a7 b4;clear b4;clear x0 x1 x2 x3;cases hgo:A3 x
 . go_wp2;go_ret;exact⟨_,rfl,by rw[SC xs x e h1 (by rw[hgo];exact nR)];exact HU4.row,HU4.ej⟩
 obtain⟨hc0,hc1⟩:=HG.o e x HX hgo;go_wp2_with fail;refine(II M 0 x.c _).mono ?_;rintro e5 u5 ⟨rfl,hu⟩;have hu2:=hu.symm;clear hu;subst hu2;go_wp2_with (at_builtin;refine wpList_append_lies _ rfl _ _ 29 rfl w 2 k0 (iZ 0) 1 8 underlying29 hk hx0 hx1 hx2 rfl (by decide) _ ([]:List Int).length (Ad As ([]:List Int)) rfl (HU4.a7 (Aq _ (Ak #[iZ (x.c)] 2))).row u4 1 1 [iZ (x.c)] rfl rfl (BM u4 (x.c)) (λu hu=>by simp at hu;subst hu;rfl) (by omega) (by simp[maxLen]) (by simp) (HU4.a7 (Aq _ (Ak #[iZ (x.c)] 2))).ej.size _ rfl ?_;intro g3 cap3 w3 hown hgrow hat hlt3;have HU5:Ae (NP w w3 (sG g3 (0+1) cap3) ([]++[x.c])):=HU4.ir hown rfl hgrow;clear hown hgrow hat hlt3);go_wp2;go_ret;exact⟨_,rfl,by rw[Sz xs x e h1 hgo];exact HU5.row,HU5.ej⟩):q:=h
theorem Mg(s:J)(xs:List MI)(x:MI)(e:Nat)(w:Y)(D:xs.length<=1024)(y:Fz xs)(b:xs[e]?=K x)(h:Rd w 4 s xs (Ad MI.cells xs)):
 Ai Ap 139 #[s,e] w λm z=>∃r,m=Al r/\Ab z w 2 1 r (Bg xs x e).length (Ad As (Bg xs x e))/\Ah w w z:=by
 obtain⟨k0,hk,hx0,hx1,hx2⟩:=mN Br;have C:e<xs.length:=(i8.1 b).1;have HX:Ae (xs[e]?=K x):=b;have HG:Ae (Fz xs):=y;rcases h.2 with⟨F,_⟩|⟨g,o,c,rfl,hc1⟩
 . omega
 have HC:Ae (∀j v,(Ad MI.cells xs)[j]?=K v->w ⟨g,o+j,M⟩=K v):=hc1;clear h hc1 y b;generalize p:xs.length=n at D C;have f:Ae (↑xs=n):=p
 clear p;have H:(e:Int)<(n:Int):=oM;have i:Ae (NP w w sN []):=⟨lu _ _,mI _ _ _ _⟩;obtain⟨x0,x1,x2,x3⟩:=MI.jY (n:=0) HC HX (lu w w);go_enter func139,ntmps139;go_wp2_with fail;refine(LJ x _).mono ?_;rintro m d ⟨rfl,l⟩;have HU1:Ae (NP w d sN []):=i.a7 l;clear l x0 x1 x2 x3 i;cases hon:FW x
 . have h1:¬(FW x=true/\e+1< ↑xs):= λq=>by rw[hon]at q;exact absurd q.1 nR
   exact Q9
 go_wp2_with fail;refine(NE ((e:Int)+1) n _ oM).mono ?_;rintro G I ⟨rfl,hu⟩;have hu2:=hu.symm;clear hu;subst hu2;by_cases t:e+1<n
 . have h1:FW x=true/\e+1<xs.length:=⟨hon,by rw[f];exact t⟩
   rw[show decide (0<=(e:Int)+1/\(e:Int)+1<(n:Int))=true from oT]
   obtain⟨x0,x1,x2,x3⟩:=MI.jY (n:=0) HC HX HU1.ej;go_wp2_with (at_builtin;refine wpList_append_lies _ rfl _ _ 29 rfl w 2 k0 (iZ 0) 1 8 underlying29 hk hx0 hx1 hx2 rfl dC _ ([]:List Int).length (Ad As ([]:List Int)) rfl (HU1.a7 (Aq _ (Ak #[iZ ((e:Int)+1)] 2))).row d 1 1 [iZ ((e:Int)+1)] rfl rfl (BM d ((e:Int)+1)) (λu hu=>by simp at hu;subst hu;rfl) oM (by simp[maxLen]) sP (HU1.a7 (Aq _ (Ak #[iZ ((e:Int)+1)] 2))).ej.size _ rfl ?_;intro g3 cap3 w3 hown hgrow hat hlt3;have k:Ae (NP w w3 (sG g3 (0+1) cap3) ([]++[(e:Int)+1])):=HU1.ir hown rfl hgrow;clear hown hgrow hat hlt3;obtain⟨x0,x1,x2,x3⟩:=MI.jY (n:=0) HC HX k.ej);go_wp2_with fail;refine(Cy x _).mono ?_;rintro e4 u4 ⟨rfl,b4⟩;have HU4:Ae (NP w u4 (sG g3 (0+1) cap3) ([]++[((e:Int)+1)])):=k.a7 b4;clear b4;clear x0 x1 x2 x3;cases hgo:A3 x
   . go_wp2;go_ret;exact⟨_,rfl,by rw[SD xs x e h1 (by rw[hgo];exact nR)];exact HU4.row,HU4.ej⟩
   obtain⟨hc0,hc1⟩:=HG.o e x HX hgo;have f5:=HU4.row.cellAt 0 sP;simp only[mw,mF,As,mM,lC]at f5;go_wp2_with fail;refine(OH g3 cap3 ((e:Int)+1) x.c _ f5).mono ?_;rintro e5 u5 ⟨rfl,hu⟩;have hu2:=hu.symm;clear hu;subst hu2;by_cases a:x.c=(e:Int)+1
   . rw[show decide (x.c=(e:Int)+1)=true from by simpa using a];go_wp2;go_ret;exact⟨_,rfl,by rw[Sy xs x e h1 hgo (by rw[a];push_cast;rfl)];exact HU4.row,HU4.ej⟩
   rw[show decide (x.c=(e:Int)+1)=false from by simpa using a];go_wp2_with (at_builtin;refine wpList_append_lies _ rfl _ _ 29 rfl w 2 k0 (iZ 0) 1 8 underlying29 hk hx0 hx1 hx2 rfl dC _ (([]++[((e:Int)+1)]):List Int).length (Ad As (([]++[((e:Int)+1)]):List Int)) rfl (HU4.a7 (Aq _ (Ak #[iZ (x.c)] 2))).row u4 1 1 [iZ (x.c)] rfl rfl (BM u4 (x.c)) (λu hu=>by simp at hu;subst hu;rfl) oM (by simp[maxLen]) sP (HU4.a7 (Aq _ (Ak #[iZ (x.c)] 2))).ej.size _ rfl ?_;intro B A E hown hgrow hat hlt3;have HU5:Ae (NP w E (sG B ((([]++[((e:Int)+1)]):List Int).length+1) A) (([]++[((e:Int)+1)])++[x.c])):=HU4.ir hown rfl hgrow;clear hown hgrow hat hlt3);go_wp2;go_ret;exact⟨_,rfl,by rw[SA xs x e h1 hgo (λq=>a (by rw[q];push_cast;rfl))];exact HU5.row,HU5.ej⟩
 have h1:¬(FW x=true/\e+1< ↑xs):= λq=>t (by rw[<-f];exact q.2)
 rw[show decide (0<=(e:Int)+1/\(e:Int)+1<(n:Int))=false from oT]
 exact Q9
theorem Ih{S S':List Nat}(n:Nat)(h:∀x∈S,x∈S'):A8 S' n<=A8 S n:=by unfold A8;rw[<-List.countP_eq_length_filter,<-List.countP_eq_length_filter];apply List.countP_mono_left;intro x _ a;simp only[Bool.not_eq_true',List.contains_eq_mem,oW]at a⊢;exact λq=>a (h x q)
theorem Vs.more{E:Nat->List Nat}{S O r S' a:List Nat}(h:Vs E S O r S' a):∀x∈S,x∈S':=by obtain⟨N,t⟩:=h.told;exact λx b=>(t.seen x).2 (.inl b)
theorem Sb(g o c n l:Nat)(E:Nat->List Nat)(w:Y)(hn:n<=1048576)(W:∀b,b<n->∀x∈E b,x<n)(am:∀b,(E b).length<=2)(h:KP w g o n E):
 ∀(m:Nat) (S O:List Nat) (b:Nat) (V:J) (u:Y),A8 S n=m->b<n->b∉S-> ↑O+A8 S n<=n->SN w u n l V (λx=>S.contains x) O->
 Ai Ap 68 #[sO g o n c,(b:Int),sG l n n,V] u λe I=>∃V' S' d,e=Al V'/\Vs E (b::S) O (E b) S' d/\SN w I n l V' (λx=>S'.contains x) (d++[b])/\(d++[b]).length+A8 S' n<= ↑O+A8 S n:=by
 obtain⟨k0,hk,aQ,aR,aS⟩:=mN Br;have H:=Av (d5 h (d5 W am));clear h W am;intro m;induction m using Nat.strongRecOn with
 | ind m ih=>
   intro S O b V u hm C aH ae z;have IH:Ae (∀m',m'<m->∀(S O:List Nat) (b:Nat) (V:J) (u:Y),A8 S n=m'->b<n->b∉S-> ↑O+A8 S n<=n->SN w u n l V (λx=>S.contains x) O->
    Ai Ap 68 #[sO g o n c,(b:Int),sG l n n,V] u λe I=>∃V' S' d,e=Al V'/\Vs E (b::S) O (E b) S' d/\SN w I n l V' (λx=>S'.contains x) (d++[b])/\(d++[b]).length+A8 S' n<= ↑O+A8 S n):=ih
   have ao:=EO S n b C aH;have s:=Av (d5 ao (d5 hm ae));obtain⟨p,q,rfl⟩:=AF z.list;have aX:(b:Int)<(n:Int):=oM;have d0:=z.seen.cell C;have z0:=z.seen.frozen b;have P:Ae (SN w (Aa u ⟨l,b,M⟩ true) n l (Z p O q) (λx=>(b::S).contains x) O):=z.mark b true λj hj=>by
    by_cases e:j=b
    . subst e;simp
    simp[e]
   obtain⟨a,ca,v,T⟩:=H.1 b C;have N:=Av (d5 v T);have aT:=H.2.2 b;clear ih z v T ao hm ae;go_enter func68,ntmps68;go_wp2;go_loopw [3,9] (λV i wr=>∃(S' d:List Nat) (k:Nat) (p:Option Addr) (q:Nat),V=Z p d q/\i=iZ k/\k<=(E b).length/\ ↑d+1<=n/\Ae (Vs E (b::S) O ((E b).take k) S' d/\SN w wr n l V (λx=>S'.contains x) d/\ ↑d+A8 S' n+1<= ↑O+A8 S n)) (λ_ i _=>2-(intOf i).toNat)
   (case atStart=>exact⟨b::S,O,0,p,q,rfl,rfl,oM,by have:=s.o;omega,by simpa using Vs.nil (b::S) O,P,by have:=s.o;omega⟩);clear P d0 z0;obtain⟨S',d,k,p,q,rfl,rfl,aY,hO,f⟩:=hrel;have v:=Au f.2.1.ej N.1;by_cases aJ:k<(E b).length
   . have aZ:(k:Int)<((E b).length:Int):=oM;obtain⟨y,A⟩:∃y,(E b)[k]?=K y:=⟨_,an aJ⟩;have aw:y<n:=H.2.1 b C y (lA A);have bf:(y:Int)<(n:Int):=oM;have HY:=Av A;obtain⟨ga,oa,rfl,_,L⟩:=N.2.at_ A;(replace L:=Au f.2.1.ej L);have G:=f.2.1.seen.cell aw;(have Q:Ae ((E b).take (k+1)=(E b).take k++[y]):=by obtain⟨hl,rfl⟩:=i8.1 A;exact l8 hl);clear A;cases hc:S'.contains y
     . simp only[hc]at G;(have au:y∉S':=by simpa using hc);have ah:=f.1.more;have aP:=Ih n ah;have HC:=Av (IH.o (A8 S' n) (by have:=s.o;omega) S' d y _ wr rfl aw au (by have:=f.2.2;have:=s.o;omega) f.2.1);clear ah aP;go_wp2_with fail;refine HC.mono ?_;rintro e u2 ⟨V2,B,t,rfl,aq,F,aI⟩;obtain⟨R,c2,rfl⟩:=AF F.list;have r:Ae (Vs E (b::S) O ((E b).take (k+1)) B (t++[y])/\SN w u2 n l (Z R (t++[y]).length c2) (λx=>B.contains x) (t++[y])/\(t++[y]).length+A8 B n+1<= ↑O+A8 S n):=by refine⟨?_,F,by have:=f.2.2;omega⟩;rw[Q];exact f.1.ir (.new au aq (.nil _ _))
       (have aF:(t++[y]).length+1<=n:=by have:=r.2.2;have:=s.o;omega);clear aq F aI G L v;go_wp2;go_roundw;(case rel=>exact⟨B,t++[y],k+1,R,c2,by rw[lG,lL],by go_num,oM,aF,r.1,by have:=r.2.1;rw[lG,lL]at this;exact this,r.2.2⟩);exact oI
     simp only[hc]at G;(have r:Ae (Vs E (b::S) O ((E b).take (k+1)) S' d):=by show Vs E (b::S) O ((E b).take (k+1)) S' d;rw[Q];exact f.1.ir (.old (by simpa using hc) (.nil _ _)));go_wp2;go_roundw;(case rel=>exact⟨S',d,k+1,p,q,rfl,by go_num,oM,hO,r,f.2.1,f.2.2⟩);exact oI
   obtain rfl:k=(E b).length:=oM;have aU:=s.o;have aW:=f.2.2;(go_upto_region 7 with fail);refine Ax (λu=>Ae (SN w u n l (Z p d q) (λx=>S'.contains x) d)) f.2.1 ?_;intro U D;clear v;go_wp2_with (at_builtin;refine wpList_append_lies _ rfl _ _ 29 rfl w 2 k0 (iZ 0) 1 8 underlying29 hk aQ aR aS rfl dC _ d (nv d) rfl (D.al (Ak #[(b:Int)] 2)).1 U 1 1 [(b:Int)] rfl rfl (BM U (b:Int)) (λu hu=>by simp at hu;subst hu;rfl) oM (by simp[maxLen];omega) oM (D.al (Ak #[(b:Int)] 2)).2 _ rfl ?_;intro g5 aE w5 aj X aG aM;have aA:Ae (SN w w5 n l (sG g5 (d.length+1) aE) (λx=>S'.contains x) (d++[b])):=D.ir aj X;clear aj X aG aM);go_ret;refine⟨_,S',d,rfl,?_,aA,by rw[lG,lL];omega⟩;have:=f.1;rw[mC lR]at this;exact this
def jf(I:List Nat)(b:Nat):Nat:=I.getD b 0
def cf(C:List Int)(c:Nat):Int:=C.getD c 0
def EU(P:Nat->Bool)(n b:Nat):Prop:=b<n/\P b=true
theorem LW{I:List Nat}{b t:Nat}(h:I[b]?=K t):jf I b=t:=by unfold jf;rw[lN,h];rfl
theorem Ed{C:List Int}{b:Nat}{t:Int}(h:C[b]?=K t):cf C b=t:=by unfold cf;rw[lN,h];rfl
theorem Dx{C:List Int}{k b:Nat}{c y:Int}(h:C[k]?=K y):cf (C.set k c) b=if b=k then c else cf C b:=by
 have a:=(i8.1 h).1;unfold cf;rw[lN,lN,List.getElem?_set];by_cases e:b=k
 . subst e;simp[a]
 rw[lS (Ne.symm e),lS e]
structure K7(E:Nat->List Nat)(n:Nat)(P:Nat->Bool)(I:List Nat)(C:List Int)(f:Nat)(bd0 bd:Bool)(L:List Int):Prop where
 hd:cf L f=cf C f
 le:∀t,Wr E (EU P n) (jf I) f (cf C) t->(∀b,EU P n b->0<=t (jf I b))->∀b,EU P n b->cf L (jf I b)<=t (jf I b)
 bad:bd=true->bd0=true\/∀t,Wr E (EU P n) (jf I) f (cf C) t->(∀b,EU P n b->0<=t (jf I b))->∃b,EU P n b/\4294967295<t (jf I b)
 mono:bd0=true->bd=true
def YM(P:Nat->Bool)(I:List Nat)(C:List Int)(f:Nat)(L:List Int)(b x:Nat):Prop:=P b=true->P x=true->jf I x≠jf I b->jf I x≠f->0<=cf L (jf I b)->cf L (jf I b)+cf C (jf I x)<=cf L (jf I x)
def Zl(E:Nat->List Nat)(n:Nat)(P:Nat->Bool)(I:List Nat)(C:List Int)(f:Nat)(L:List Int):Prop:=∀b,b<n->∀x∈E b,YM P I C f L b x
def UK(E:Nat->List Nat)(O:List Nat)(P:Nat->Bool)(I:List Nat)(C:List Int)(f:Nat)(L0 L:List Int)(ag bd:Bool)(m:Nat):Prop:=ag=false->bd=false->L=L0/\∀j b,j<m->O[j]?=K b->∀x∈E b,YM P I C f L0 b x
def YV(eb:List Nat)(P:Nat->Bool)(I:List Nat)(C:List Int)(f:Nat)(L0:List Int)(ag bd:Bool)(b q:Nat):Prop:=ag=false->bd=false->∀j x,j<q->eb[j]?=K x->YM P I C f L0 b x
section
variable {E:Nat->List Nat} {n:Nat} {P:Nat->Bool} {I:List Nat} {C:List Int} {f:Nat} {bd0 bd:Bool} {L L0:List Int} {O eb:List Nat} {ag:Bool} {m b q x:Nat}
theorem K7.start(g:∀y∈L,y=-1)(a:L[f]?=K (-1)){y:Int}(c:cf C f=y)(m:∀b,EU P n b->jf I b=f->b=f)(p:jf I f=f):K7 E n P I C f bd bd (L.set f y):=by
 refine⟨by rw[Dx a,lZ rfl,c], λt j i b d=> ?_, λh=>.inl h, λh=>h⟩;rw[Dx a];by_cases e:jf I b=f
 . rw[lZ e,e,j.hd,c];exact Int.le_refl _
 rw[lS e];have k:=i b d;have l:cf L (jf I b)=-1\/cf L (jf I b)=0:=by
  unfold cf;rw[lN];cases h3:L[jf I b]? with
  |none=>exact .inr rfl
  |some z=>exact .inl (g z (lA h3))
 omega
theorem K7.over(h:K7 E n P I C f bd0 bd L)(g:EU P n b)(q:EU P n x)(p:x∈E b)(l:jf I x≠jf I b)(d:jf I x≠f)(r:0<=cf L (jf I b)){k:Int}(j:L[jf I x]?=K k)(u:cf L (jf I b)+cf C (jf I x)<=4294967295)(s:k<cf L (jf I b)+cf C (jf I x)):K7 E n P I C f bd0 bd (L.set (jf I x) (cf L (jf I b)+cf C (jf I x))):=by
 refine⟨by rw[Dx j,lS (Ne.symm d)];exact h.hd, λt a i c m=> ?_,h.bad,h.mono⟩;rw[Dx j];by_cases e:jf I c=jf I x
 . rw[lZ e,e];have:=h.le t a i b g;have:=a.ed b x g p q l d;omega
 rw[lS e];exact h.le t a i c m
theorem K7.zero(h:K7 E n P I C f bd0 bd L)(g:jf I x≠f)(d:L[jf I x]?=K j):K7 E n P I C f bd0 bd (L.set (jf I x) 0):=by
 refine⟨by rw[Dx d,lS (Ne.symm g)];exact h.hd, λt i c a b=> ?_,h.bad,h.mono⟩;rw[Dx d];by_cases e:jf I a=jf I x
 . rw[lZ e];exact c a b
 rw[lS e];exact h.le t i c a b
theorem K7.iC(h:K7 E n P I C f bd0 bd L)(a:EU P n b)(d:EU P n x)(i:x∈E b)(e:jf I x≠jf I b)(g:jf I x≠f)(k:4294967295<cf L (jf I b)+cf C (jf I x)):K7 E n P I C f bd0 true L:=⟨h.hd,h.le, λ_=>.inr λt c j=>⟨x,d,by have:=h.le t c j b a;have:=c.ed b x a i d e g;omega⟩, λ_=>rfl⟩
theorem K7.pass{y:Nat->Nat}{D:Nat->Nat->Bool}{F:Nat->Prop}(g:Hd E n y D)(r:TA E n D F (jf I) (EU P n) f)(i:∀c,0<=cf C c)(h:K7 E n P I C f bd0 bd L)(s:Zl E n P I C f L)(H:∀c,cf L c<=4294967295):Tz E (EU P n) (jf I) f (cf C) (cf L):=by
 have N:∀b,EU P n b->0<=cf L (jf I b):=by
  intro b d;suffices ∀m b,y b<=m->EU P n b->0<=cf L (jf I b)from this _ b lR d
  intro m;induction m with
  | zero=>
    intro b k a;by_cases e:b=f
    . rw[e,r.jh,h.hd];exact i _
    (have j:b≠0:= λq=>by subst q;exact e (r.z a).symm);have:=g.P.gZ b (r.lt b a) j;omega
  | succ m Q=>
    intro b k a;by_cases e:b=f
    . rw[e,r.jh,h.hd];exact i _
    (have j:b≠0:= λq=>by subst q;exact e (r.z a).symm);obtain⟨q,A,B,S⟩:=g.P.par b (r.lt b a) j;have u:=r.pr b a e q A B;have w:=Q q oM u;by_cases l:jf I b=jf I q
    . rw[l];exact w
    by_cases p:jf I b=f
    . exact absurd (r.jo b a p) e
    have R:=s q A b B u.2 a.2 l p w;have:=i (jf I b);omega
 refine⟨⟨⟨h.hd, λb x d G O k a=>s b d.1 x G d.2 O.2 k a (N b d)⟩, λt v b d=>h.le t v (λb d=>v.ji g r i d) b d⟩, λb d=>H _⟩
theorem K7.iS{l:Nat->Nat}{D:Nat->Nat->Bool}{d:Nat->Prop}(g:Hd E n l D)(r:TA E n D d (jf I) (EU P n) f)(i:∀c,0<=cf C c)(h:K7 E n P I C f false true L):Lj E (EU P n) (jf I) f (cf C):= λt a=>
 (h.bad rfl).elim (λe=>by cases e) λk=>k t a λb j=>a.ji g r i j
end
def Ua(xs:List MI)(m:MB):MB:=⟨m.gZ,m.last,Bg xs (xs.getD m.last.toNat ⟨0,0,0,0⟩) m.last.toNat⟩
def KZ(xs:List MI):List MB:=(BA xs xs).map (Ua xs)
theorem H8(xs:List MI):(KZ xs).length=(CV xs xs).length:=by unfold KZ;rw[mD,BW]
theorem PR(L:List Nat)(n b a q:Nat)(c:L[b]?=K a)(d:(L++[n])[b+1]?=K q):(build L n)[b]?=K ⟨(a:Int),(q:Int)-1,[]⟩:=by
 unfold build;rw[oJ,c];have e:(L.tail++[n])[b]?=K q:=by
  cases L with
  |nil=>simp at c
  |cons y r=>simpa using d
 rw[e]
def z3:List J:=[iZ 0,iZ 0,sN]
structure IW(w u:Y)(xs:List MI)(gl cl bl j:Nat)(D:List (MB×J)):Prop where
 row:Ab u w 90 3 (sG bl (CV xs xs).length (CV xs xs).length) (CV xs xs).length ((List.replicate j z3).flatten++Ad B4 D)
 io:Cl u w ((sG gl (CV xs xs).length cl,(CV xs xs).map Int.ofNat)::DK D)
 done:D.map Prod.fst=(KZ xs).drop j
 ej:Ah w w u
theorem IW.lead{xs:List MI}{a cl b j:Nat}{D:List (MB×J)}(h:IW w u xs a cl b j D):Ab u w 2 1 (sG a (CV xs xs).length cl) (CV xs xs).length (Ad As ((CV xs xs).map Int.ofNat)):=by have:=h.io.own _ (mV);simpa using this
theorem Cl.a7{u a:Y}{B:Nat}{L:List (J×List Int)}(h:Cl u B L)(b:Ah u u a):Cl a B L:=⟨λr c=>Aw (h.own r c) b lR,h.sep⟩
theorem Cl.add{B:Nat}{y:J×List Int}{L:List (J×List Int)}{b:J}{cb:List Int}(h:Cl u B (y::L))(f:Ah u u c)(i:Ab c u 2 1 b cb (Ad As cb))(j:B<= ↑u):Cl c B (y::(b,cb)::L):=by
 have d:∀r∈y::L,Jk (b,cb) r:=by intro r a g k e;have n:=i.lt g k;have p:=(h.own r a).lt g e;omega
 obtain⟨l,m⟩:=mj.1 h.sep;refine⟨?_,mj.2 ⟨?_,mj.2 ⟨λr a=>d r (by simp[a]),m⟩⟩⟩
 . intro r a;simp only[lw]at a;rcases a with rfl|rfl|a
   . exact Aw (h.own _ sP) f lR
   . exact Bb i j
   exact Aw (h.own r (by simp[a])) f lR
 intro r a;simp only[lw]at a;rcases a with rfl|a
 . exact(d y sP).symm
 exact l r a
theorem Cl.jm{g:Nat}{L:List (J×List Int)}{a k n c:Nat}{xs:List J}(h:Cl w base L)(b:Ab w a 90 k (sG g n c) n xs)(i:Nat)(x:J):Cl (Aa w ⟨g,i,M⟩ x) base L:=⟨λy d=>BT (h.own y d) b dC i x,h.sep⟩
theorem Xg(A R:List J)(a b c c0 c1 c2:J)(i:Nat)(h: ↑A=i):(((A++([a,b,c]++R)).set i c0).set (i+1) c1).set (i+2) c2=A++([c0,c1,c2]++R):=by subst h;simp[List.set_append_right]
theorem Q8(b:Nat)(R:List J):(List.replicate (b+1) z3).flatten++R=(List.replicate b z3).flatten++(z3++R):=by rw[List.replicate_succ'];simp
theorem SP(b:Nat):(List.replicate b z3).flatten.length=b*3:=by rw[List.length_flatten];simp[z3]
theorem IW.next{wr:Y}{xs:List MI}{k cl c b a q e:Nat}{D:List (MB×J)}{x:MI}{d:Option Addr}{f:Nat}(h:IW w wr xs k cl c (b+1) D)(g:Ah wr wr u)(A:Ab u wr 2 1 (Z d (Bg xs x e).length f) (Bg xs x e).length (Ad As (Bg xs x e)))(l:(CV xs xs)[b]?=K a)(z:(CV xs xs++[xs.length])[b+1]?=K q)(t:(q:Int)-1=(e:Int))(B:xs[e]?=K x):
 IW w (Aa (Aa (Aa u ⟨c,b*3,M⟩ a) ⟨c,b*3+1,M⟩ e) ⟨c,b*3+2,M⟩ (Z d (Bg xs x e).length f)) xs k cl c b ((⟨(a:Int),(e:Int),Bg xs x e⟩,Z d (Bg xs x e).length f)::D):=by
 have j:=Aw h.row g lR;have m:=(j.stored (b*3) a).1;have n:=(m.stored (b*3+1) e).1;have p:=(n.stored (b*3+2) (Z d (Bg xs x e).length f)).1;rw[Q8,show z3++Ad B4 D=[Ag Af 0,iZ 0,sN]++Ad B4 D from rfl,Xg _ _ _ _ _ _ _ _ _ (SP b)]at p;have i:=(AD j).1;have y:=PR _ _ _ _ _ l z;refine⟨?_,?_,?_,(((Ar h.ej lR g).setCell i _).setCell i _).setCell i _⟩
 . rw[mF];exact p
 . have f0:=Cl.add h.io g A h.ej.size;exact((f0.jm j _ _).jm m _ _).jm n _ _
 have v:b<(KZ xs).length:=by rw[H8];exact(i8.1 l).1
 rw[nQ,h.done,mq v];congr 1
 have r:(KZ xs)[b]?=K (Ua xs ⟨(a:Int),(q:Int)-1,[]⟩):=by unfold KZ;rw[mE,Cr,y];rfl
 have s:=(i8.1 r).2;rw[s];unfold Ua;rw[t,lD,lN,B];rfl
end Go.Proofs.YtadcneiiokbofaaGreat
