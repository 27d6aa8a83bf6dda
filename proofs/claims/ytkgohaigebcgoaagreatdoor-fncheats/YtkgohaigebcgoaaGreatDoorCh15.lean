import Derived.Test.YtkgohaigebcgoaaGreatDoorCh2
import Derived.Laws.IdiomCopy
import Derived.Test.YtkgohaigebcgoaaGreatDoorCh12
namespace Go.Proofs.YtkgohaigebcgoaaGreatDoor
open Go.ChangeShapes Go.WideShapes Go.ChangeAt Go.RowKit Go.Proofs.Tryz
set_option linter.unusedVariables false
open Option renaming some → K,none → M
open Go renaming Value → J,World → Y,TypeId → Aj,Calls → Ai
open Go.Value renaming int → Ag,agg → An,tuple → Ap,slice → Z
open Go.Obj renaming cells → Ak
open Go.Proofs.Tryz renaming prog → Aq
open Go.World renaming setCell → Aa,alloc → Ac,ownsRow → Ab
open Go.RowKit renaming Hid → Ae,Below → Ah
open Go.IntKind renaming i64 → Af
open Go.Ending renaming returned → Am
open List renaming flatMap → Ad
set_option maxHeartbeats 4000000
set_option maxRecDepth 100000
variable {v s:J}{y:MG×J}{w u g:Y}{b a t v' op c':Int}{d:Bool}{left:Lit->Bool}{c:Nat->List Int}{fs:List MF}{i B p top:Nat}{W:DataW Unit}{q X A:VS}{F:List (MG×J)}
section
open Go.Extern.Stop Go.Stop Go.Extern
theorem uo(p:Addr)(w:Y):(ReflectliteValue.mk 114 p ReflectliteValue.flagAddr).run Aq w=.ok (An #[.pointer (K ⟨1,114,M⟩),.pointer (K p),Ag .u64 390]) w:=kR
theorem Vq(a:Addr)(w:Y):(ReflectliteValue.parts (An #[.pointer (K ⟨1,114,M⟩),.pointer (K a),Ag .u64 390])).run Aq w=.ok (K (114,a,390)) w:=kR
theorem XO(a:Addr)(w:Y):(ReflectliteValue.parts (An #[.pointer (K ⟨1,114,M⟩),.pointer (K a),Ag .u64 134])).run Aq w=.ok (K (114,a,134)) w:=kR
theorem WC(w:Y):(Rtype.directlyAssignable 114 114).run Aq w=.ok true w:=kR
theorem un(p:Addr)(w:Y):(ReflectliteValue.mk 116 p ReflectliteValue.flagAddr).run Aq w=.ok (An #[.pointer (K ⟨1,116,M⟩),.pointer (K p),Ag .u64 409]) w:=kR
theorem Vp(a:Addr)(w:Y):(ReflectliteValue.parts (An #[.pointer (K ⟨1,116,M⟩),.pointer (K a),Ag .u64 409])).run Aq w=.ok (K (116,a,409)) w:=kR
theorem XN(a:Addr)(w:Y):(ReflectliteValue.parts (An #[.pointer (K ⟨1,116,M⟩),.pointer (K a),Ag .u64 153])).run Aq w=.ok (K (116,a,153)) w:=kR
theorem WB(w:Y):(Rtype.directlyAssignable 116 116).run Aq w=.ok true w:=kR
theorem rX(n:Int)(w:Y):(ReflectliteValue.unpack (.iface 114 n)).run Aq w=.ok (An #[.pointer (K ⟨1,114,M⟩),.pointer w,Ag .u64 134]) (Ac w (Ak #[n] 114)):=kR
theorem rW(x y z:J)(w:Y):(ReflectliteValue.unpack (.iface 116 (An #[x,y,z]))).run Aq w=.ok (An #[.pointer (K ⟨1,116,M⟩),.pointer w,Ag .u64 153]) (Ac w (Ak #[x,y,z] 116)):=kR
theorem YR(a p:Addr)(W:Y)(b:W a=K (.pointer (K p))):
 (ReflectliteValue.method (ReflectliteValue.valueError "reflectlite.Value.Elem" 0) ReflectliteValue.elem #[An #[.pointer (K ⟨1,122,M⟩),.pointer (K a),Ag .u64 150]]).run Aq W=.ok (An #[.pointer (K ⟨1,114,M⟩),.pointer (K p),Ag .u64 390]) W:=by
 change Sem.run Aq (ReflectliteValue.parts (An #[.pointer (K ⟨1,122,M⟩),.pointer (K a),Ag .u64 150])>>=_) W=_;simp only[Sem.run_bind,TP,Result.andThen];simp[ReflectliteValue.elem,loadVar,isAgg,underlying,underlying122,b,Result.andThen,WL,uo]
theorem tz(a b:Addr)(n:Int)(f:J)(W:Y)(c:W b=K ↑n)(e:W a=K f)(d:W.frozen? a=false):
 (ReflectliteValue.set #[An #[.pointer (K ⟨1,114,M⟩),.pointer (K a),Ag .u64 390],An #[.pointer (K ⟨1,114,M⟩),.pointer (K b),Ag .u64 134]]).run Aq W=.ok (Ap #[]) (W.setCell a n):=by
 change Sem.run Aq (ReflectliteValue.parts (An #[.pointer (K ⟨1,114,M⟩),.pointer (K a),Ag .u64 390])>>= λy=>ReflectliteValue.parts (An #[.pointer (K ⟨1,114,M⟩),.pointer (K b),Ag .u64 134])>>=_) W=_;simp only[Sem.run_bind,Vq,XO,Result.andThen];simp[ReflectliteValue.flagAddr,loadVar,isAgg,underlying,underlying114,c,Result.andThen,WC,storeVar,Value.cells,storeCells,Addr.add];rw[run_store Aq W a _ _ (by rfl)];simp[e,d]
theorem YQ(a p:Addr)(W:Y)(b:W a=K (.pointer (K p))):
 (ReflectliteValue.method (ReflectliteValue.valueError "reflectlite.Value.Elem" 0) ReflectliteValue.elem #[An #[.pointer (K ⟨1,123,M⟩),.pointer (K a),Ag .u64 150]]).run Aq W=.ok (An #[.pointer (K ⟨1,116,M⟩),.pointer (K p),Ag .u64 409]) W:=by
 change Sem.run Aq (ReflectliteValue.parts (An #[.pointer (K ⟨1,123,M⟩),.pointer (K a),Ag .u64 150])>>=_) W=_;simp only[Sem.run_bind,TO,Result.andThen];simp[ReflectliteValue.elem,loadVar,isAgg,underlying,underlying123,b,Result.andThen,WK,un]
theorem tx(c b:Nat)(g a:Int)(d:Aj)(z A B C:J)(W:Y)(l:W b=K ↑g)(m:W ⟨b,1,M⟩=K ↑a)(n:W ⟨b,2,M⟩=K (.iface d z))(t:W c=K A)(u:W ⟨c,1,M⟩=K B)(w:W ⟨c,2,M⟩=K C)(p:W.frozen? c=false)(q:W.frozen? ⟨c,1,M⟩=false)(r:W.frozen? ⟨c,2,M⟩=false):
 (ReflectliteValue.set #[An #[.pointer (K ⟨1,116,M⟩),.pointer c,Ag .u64 409],An #[.pointer (K ⟨1,116,M⟩),.pointer b,Ag .u64 153]]).run Aq W=.ok (Ap #[]) (Aa (Aa (W.setCell c g) ⟨c,1,M⟩ a) ⟨c,2,M⟩ (.iface d z)):=by
 have k:=run_loadCells_list (P:=Aq) W b [g,a,.iface d z] (λj v e=>by
  match j,e with
  |0,e=>cases e;exact l
  |1,e=>cases e;exact m
  |2,e=>cases e;exact n
  |j+3,e=>simp at e)
 have s:=run_storeCells_cells (P:=Aq) c 0 [g,a,.iface d z] 0 W (λj f=>by
  match j,f with
  |0,_=>rw[t];rfl
  |1,_=>rw[u];rfl
  |2,_=>rw[w];rfl
  |j+3,h=>simp only[nQ,nT]at h;omega) (λj f=>by
  match j,f with
  |0,_=>exact p
  |1,_=>exact q
  |2,_=>exact r
  |j+3,h=>simp only[nQ,nT]at h;omega) (by simp[Value.oneCell'])
 change Sem.run Aq (ReflectliteValue.parts (An #[.pointer (K ⟨1,116,M⟩),.pointer c,Ag .u64 409])>>= λy=>ReflectliteValue.parts (An #[.pointer (K ⟨1,116,M⟩),.pointer b,Ag .u64 153])>>=_) W=_;simp only[Sem.run_bind,Vp,XN,Result.andThen];simp only[nQ,nT,m9,Nat.reduceAdd]at k;simp[ReflectliteValue.flagAddr,loadVar,isAgg,underlying,underlying116,Result.andThen,WB,storeVar,Value.cells,k,s];rfl
end
theorem rD{I:List Nat}{k y:Nat}:(nv I).set k y=nv (I.set k y):=by unfold nv;rw[List.map_set]
structure Bx(w u0 u:Y)(G:Nat)(x:GV)(X hd:Nat)(vb vk:J):Prop where
 eI:Ay u X #[hd,vb,vk] 65
 lo: ↑w<=X
 up: ↑u0<=X
 fr:∀b,b< ↑u0->b≠G->b≠x.gi->b≠x.gc->u.heap[b]?=u0.heap[b]?
def Cy:J->Option (DataW Unit×List MemPlace)
 |.map (K b)=>K (.lit (.int Af (b:Int)),[])
 |_=>M
theorem FM{y:DataW Unit×List MemPlace}(h:Cy v=K y):∃b:Nat,v=.map (K b)/\y=(.lit (.int Af (b:Int)),[]):=by
 cases v with
 | map o=>
   cases o with
   |none=>cases h
   |some b=>exact⟨b,rfl,(mD h).symm⟩
 |_=>cases h
theorem II{H:Type}(f:Lit×DataW H->Bool):∀l:List (Lit×DataW H),(l.foldr DataW.insert []).any f=l.any f
 |[]=>rfl
 |x::r=>by rw[List.foldr_cons,Go.Maps.any_insert,II f r,List.any_cons]
theorem VI{b d:Nat}{D:DataW Unit}(h:AQ w b d D):Go.Maps.size D=0↔∀z,Go.Maps.has D (.int Af z)=false:=by
 obtain⟨a,k,l,f,m,rfl⟩:=h;rw[Go.Maps.size_eq,Go.length_read];constructor
 . intro e z;rw[Go.Maps.has_eq,II];have:a.toList=[]:=mG (by simpa using e);rw[this];rfl
 intro g;cases hl:a.toList with
 | nil=>(have:a.toList.length=0:=by rw[hl];rfl);simpa using this
 | cons x r=>obtain⟨y,c⟩:=f.reads x (by rw[hl];simp);obtain⟨z,_,j,_⟩:=Go.Maps.keyOf_int_inv underlying2 (Go.WideElems.rd_key c);have:=g z;rw[Go.Maps.has_eq,II,hl,nh,List.any_cons]at this;rw[Go.WideElems.rg_of c]at this;simp only[j,DP,decide_true,Bool.true_or]at this;cases this
def GC(D W:DataW Unit)(left:Lit->Bool)(E:Int->Bool):Prop:=∀z:Int,Go.Maps.has D (.int Af z)=(Go.Maps.has W (.int Af z)&& !left (.int Af z)&&E z)
theorem GC.iQ{D W:DataW Unit}{E:Int->Bool}{x:Int}(h:GC D W left E)(c:Go.Maps.IsMap D)(b:Go.Maps.has W (.int Af x)=true)(a:E x=true):GC (D.put (.int Af x) (.agg [])) W (λz=>left z&& !z.sameKey (.int Af x)) E:=by
 intro z;rw[L3 D c,h z];simp only[DP];by_cases e:z=x
 . subst e;simp[b,a]
 simp[e,Ne.symm e]
theorem GC.no{D W:DataW Unit}{E:Int->Bool}{x:Int}(h:GC D W left E)(a:E x=false):GC D W (λz=>left z&& !z.sameKey (.int Af x)) E:=by
 intro z;rw[h z];simp only[DP];by_cases e:z=x
 . subst e;simp[a]
 simp[e]
theorem Rh(l p:Nat)(W:DataW Unit)(E:Int->Bool)(w:Y)(bf:p<=1048576)(h:w.ownsMap Aq 2 Cy l p W)(aI:∀(z:Int) (c:Nat),(∀zd,W.atKey (.int Af z) zd=.lit (.int Af (c:Int)))->∃m D,m<=1048576/\AQ w c m D/\(Go.Maps.size D=0↔E z=true)):
 Ai Aq 126 #[.map (K l)] w λe w'=>∃(g cap:Nat) (a:List Int),e=Am (Z g a cap)/\Ab w' w 2 1 (Z g a cap) a (Ad At a)/\a.Pairwise (· < ·)/\(∀z,z∈a↔Fa z/\Go.Maps.has W (.int Af z)=true/\E z=true)/\Ah w w w':=by
 have aY:=h.lt;have HS:=Aw aI;clear aI;have br:= @run_makeMap Aq;have ax:=h.alloc (.map #[] 0);have U:AQ (Ac w (.map #[] 0)) w 0 (.map []):=World.ownsMap_made _ _ _ _;have S:(Ac w (.map #[] 0)).heap.size= ↑w+1:=sP
 go_enter func126,ntmps126;go_wp2_with (first
  |(at_range;refine wpList_range_own _ rfl _ 205 rfl 2 164 EX underlying205 _ l p _ rfl ax ?_;intro w0 aA N aS)
  |go_in)
 go_frame;have T:=Aw (lN (World.ownsMap.kept U N sP) (((Al w (.map #[] 0)).grown N (Al _ _).size (λj q=>by cases q)):Ah w w w0));have bu:=h.size_le;clear N aS U ax;generalize aX:(Ac w (.map #[] 0)).heap.size=F at aA S⊢;clear aX;have H:=Aw S;clear S;go_loopw [4] (λ_ wr=>∃(left:Lit->Bool) (m f:Nat) (D:DataW Unit),wr.ranges Aq 2 Cy l F p W left m/\f+m<=Go.Maps.size W/\AQ wr w f D/\GC D W left E/\Ah w w wr) (λ_ wr=>wr.rangeLeft l F)
 case atStart=>exact⟨_,_,0,.map [],aA,sP,T.1, λz=>by cases hh:Go.Maps.has W (.int Af z)<;>rfl,T.2⟩
 obtain⟨left,m,f,D,B,bg,s,A,r⟩:=hrel;go_wp2_with (first
  |(at_next;refine wpList_next_ranges _ rfl _ rfl 2 EX Cy (Value.int Af) (λ(c:Nat)=>Value.map (K c)) (λbx kl hk=>by obtain⟨x,R,_⟩:=Go.Maps.keyOf_int_inv underlying2 hk;exact⟨x,R⟩) (λv y Q=>by obtain⟨c,rfl,_⟩:=FM Q;exact⟨c,rfl⟩) l F p _ _ _ rfl B ?_ ?_)
  |go_in)
 . intro aZ aQ;have t:=Aw (lN s (lN A r));clear s A r B;go_wp2_with fail;refine(I7 w f D _ oM t.1).mono ?_;rintro e u9 ⟨g9,X,a,rfl,aK,aJ,au,V⟩;have u:Ae (Ab u9 w 2 1 (Z g9 a X) a (Ad At a)/\a.Pairwise (· < ·)/\(∀z,z∈a↔Fa z/\Go.Maps.has W (.int Af z)=true/\E z=true)/\Ah w w u9):=by refine⟨Bm aK t.2.2.size,aJ, λz=> ?_,Ar t.2.2 lR V⟩;rw[au,t.2.1 z,aQ];simp
   clear aK aJ au V;go_wp2;go_ret;exact⟨g9,X,a,rfl,u.1,u.2.1,u.2.2.1,u.2.2.2⟩
 intro x c kl y ps d aa aO bq Q ae C aq aj aT bj;obtain⟨x',ex,rfl,aW⟩:=Go.Maps.keyOf_int_inv underlying2 aO;obtain rfl:x=x':=by cases ex;rfl
 obtain⟨c',ec,ey⟩:=FM Q;obtain⟨rfl,rfl⟩:=Prod.mk.inj ey;clear ey;obtain rfl:c=c':=by cases ec;rfl
 obtain⟨cs,G,bi,aF,ai⟩:=HS.o x c ae;have P:Ah w w d:=r.grown aj r.size (λj q=>by cases q;have:=H.o;omega);have aH:AQ d w f D:=World.ownsMap.kept s aj (by have:=H.o;simp;omega);have aG:AQ d c cs G:=aF.av P;have O:=aG;unfold AQ at O;clear aT;have aR:¬F=w.heap.size:=by have:=H.o;omega
 have b:=Aw (lN aH (lN P (lN A (lN (oD s) (lN B.left_eq (Go.Maps.has_true_of_atKey ae))))));clear aH P A s B r aF aG;by_cases L:Go.Maps.size G=0
 . have k:Ae ((Ac d (Ak #[x] 2)) d=K ↑x/\AQ (Ac d (Ak #[x] 2)) w f D/\Ah w w (Ac d (Ak #[x] 2))/\¬(d:Nat)= ↑w/\¬l= ↑w/\E x=true):=⟨(Ay.new d #[x] 2).cell 0,b.1.av (Al _ _),Ar b.2.1 lR (Al _ _),by have:=oL b.1;omega,oM,ai.1 L⟩
   have aE:=C.alloc (Ak #[x] 2);have aM:=Aw aE;clear aE C;go_wp2_with (first
    |(at_len;refine wpList_len_own _ rfl _ 164 rfl 2 89 underlying164 _ c cs _ rfl O ?_;rw[L])
    |fail)
   refine(Da w f d 1 D x _ aW oM k.1 k.2.2.2.1 k.2.1).mono ?_;rintro e u4 ⟨rfl,s4,I⟩;have n:=Aw (lN (World.ranges.kept aM I (by simp;exact k.2.2.2.2.1) (by simp;exact aR)) (lN s4 (lN (b.2.2.1.iQ b.2.2.2.1 b.2.2.2.2.2 k.2.2.2.2.2) (k.2.2.1.grown I k.2.2.1.size (λj q=>by cases q;exact Nat.le_refl _)))));clear s4 I;go_wp2;go_roundw;(case rel=>exact⟨_,aa,f+1,_,n.1,oM,n.2.1,n.2.2.1,n.2.2.2⟩);rw[n.1.left_eq,b.2.2.2.2.1];exact aq
 have bt:((Go.Maps.size G:Nat):Int)≠0:=oM;have hE:E x=false:=by cases R:E x with
  |false=>rfl
  |true=>exact absurd (ai.2 R) L
 go_wp2_with (first
  |(at_len;refine wpList_len_own _ rfl _ 164 rfl 2 89 underlying164 _ c cs _ rfl O ?_)
  |go_in)
 go_roundw;case rel=>exact⟨_,aa,f,D,C,oM,b.1,b.2.2.1.no hE,b.2.1⟩
 rw[C.left_eq,b.2.2.2.2.1];exact aq
def qu(w:Y)(B g:Nat)(t:Int)(d:Bool)(c n:Int)(X:VS)(C:List (J×List MC))(K:List MC)(F:List (MG×J))(h:J)(z:MC)(e:Ending)(b:Y):Prop:=e=Am (An #[z.type,Ag .u32 z.word])/\∃a,BC b g t d c n ⟨X.c,a,X.f⟩ h/\AB b B ⟨X.c,a,X.f⟩ C K F/\Bp (λj=>j=g) w b/\a.ownBlock=X.k.ownBlock
theorem CZ(B b:Nat)(t:Int)(d:Bool)(c n:Int)(X:VS)(C:List (J×List MC))(K:List MC)(F:List (MG×J))(l:J)(z:MC)(w:Y)(hB:B<= ↑w)(h:AB w B X C (K++[z]) F)(A:BC w b t d c n X l)(hK:K.length<=1048576):
 Ai Aq 151 #[.pointer b] w (qu w B b t d c n X C K F l z):=by
 obtain⟨f,x2,x3⟩:=X;have s:=h.fg.own (x2,K++[z]) sP;simp only[]at s;rcases Bf s with⟨_,e⟩|⟨gk,ck,e⟩
 . simp at e
 subst e;have N:=Gq s;rw[mB]at N s;simp only[nQ,nT,m9]at N s;have U:Ae (∀u,AB u B ⟨f,Z gk (K.length+1) ck,x3⟩ C (K++[z]) F->u ⟨gk,K.length*2,M⟩=some ↑z.type/\u ⟨gk,K.length*2+1,M⟩=some (Ag .u32 z.word)):= λu hu=>hu.jd (r:=(Z gk (K.length+1) ck,K++[z])) sP rfl sP
 have P:(K++[z]).length= ↑K+1:=sP
 rw[P]at A h⊢;have H:Ae (AB w B ⟨f,Z gk (K.length+1) ck,x3⟩ C (K++[z]) F):=h;have HM:Ae (BC w b t d c n ⟨f,Z gk (K.length+1) ck,x3⟩ l):=A;have ai:=A.lt;clear h A s P;generalize O:K.length=kl at*;have G:Ae (↑K=kl):=O
 clear O;have ae:(kl:Int)<=(ck:Int):=oM;have E:Ae (BC (Ac w (Ak #[Ag Af 0,Ag .u32 0] 193)) b t d c n ⟨f,Z gk (kl+1) ck,x3⟩ l/\AB (Ac w (Ak #[Ag Af 0,Ag .u32 0] 193)) B ⟨f,Z gk (kl+1) ck,x3⟩ C (K++[z]) F/\Ay (Ac w (Ak #[Ag Af 0,Ag .u32 0] 193)) w #[Ag Af 0,Ag .u32 0] 193/\Ah w w (Ac w (Ak #[Ag Af 0,Ag .u32 0] 193))):=⟨HM.av (Al _ _),H.grow (Al _ _),Ay.new _ _ _,Al _ _⟩
 go_enter func151,ntmps151;go_upto_region 1 with fail
 refine Av (λu=>Ae (BC u b t d c n ⟨f,Z gk (kl+1) ck,x3⟩ l/\AB u B ⟨f,Z gk (kl+1) ck,x3⟩ C (K++[z]) F/\Ay u w #[Ag Af 0,Ag .u32 0] 193/\Ah w w u)) E ?_
 rintro k a;clear E;have y:=a.1.at.2.2.2.2.2.1;obtain⟨z0,z1⟩:=U.o k a.2.1;simp only[]at y;have p:Ae ((BC (Ac k (Ak #[z.type,Ag .u32 z.word] 193)) b t d c n ⟨f,Z gk (kl+1) ck,x3⟩ l/\AB (Ac k (Ak #[z.type,Ag .u32 z.word] 193)) B ⟨f,Z gk (kl+1) ck,x3⟩ C (K++[z]) F/\Ay (Ac k (Ak #[z.type,Ag .u32 z.word] 193)) w #[Ag Af 0,Ag .u32 0] 193/\Ah w w (Ac k (Ak #[z.type,Ag .u32 z.word] 193)))/\Ay (Ac k (Ak #[z.type,Ag .u32 z.word] 193)) k #[z.type,Ag .u32 z.word] 193):=⟨⟨a.1.av (Al _ _),a.2.1.grow (Al _ _),a.2.2.1.av (Al _ _),Ar a.2.2.2 lR (Al _ _)⟩,Ay.new _ _ _⟩
 have hY:(w:Nat)<k.heap.size:=a.2.2.1.lt;go_upto_region 3 with fail
 clear y z0 z1 a;generalize k.heap.size=D at p hY⊢;refine Av (λu=>Ae ((BC u b t d c n ⟨f,Z gk (kl+1) ck,x3⟩ l/\AB u B ⟨f,Z gk (kl+1) ck,x3⟩ C (K++[z]) F/\Ay u w #[Ag Af 0,Ag .u32 0] 193/\Ah w w u)/\Ay u D #[z.type,Ag .u32 z.word] 193)) p ?_
 rintro q a;clear p;clear k;have y:=a.1.1.at.2.2.2.2.2.1;have mz:=a.1.1.frozen 5;simp only[]at y;have p:Ae (BC (Aa q ⟨b,5,M⟩ (Z gk kl ck)) b t d c n ⟨f,Z gk kl ck,x3⟩ l/\AB (Aa q ⟨b,5,M⟩ (Z gk kl ck)) B ⟨f,Z gk kl ck,x3⟩ C K F/\Ay (Aa q ⟨b,5,M⟩ (Z gk kl ck)) w #[Ag Af 0,Ag .u32 0] 193/\Ay (Aa q ⟨b,5,M⟩ (Z gk kl ck)) D #[z.type,Ag .u32 z.word] 193/\Bp (λj=>j=b) w (Aa q ⟨b,5,M⟩ (Z gk kl ck))):=by
  have L:=a.1.2.1.jT (mC hB a.1.2.2.2.size) (m:=kl) rfl (by rw[mB,G];exact Nat.le_add_right _ _);have W:(K++[z]).take kl=K:=by rw[<-G];exact List.take_left
  rw[W]at L;obtain⟨aa,hb,_⟩:=a.1.1.eI;exact⟨a.1.1.ku _,L.other hb dC dC dC 5 _,a.1.2.2.1.other oS _,a.2.other oS _,Bp.setCell (R:= λj=>j=b) (Bp.of a.1.2.2.2) (.inl rfl) _⟩
 go_upto_region 4 with fail
 clear y mz a;refine Av (λu=>Ae (BC u b t d c n ⟨f,Z gk kl ck,x3⟩ l/\AB u B ⟨f,Z gk kl ck,x3⟩ C K F/\Ay u w #[Ag Af 0,Ag .u32 0] 193/\Ay u D #[z.type,Ag .u32 z.word] 193/\Bp (λj=>j=b) w u)) p ?_
 rintro U2 g;clear p;clear q;have v0:=g.2.2.2.1.cell 0;have v1:=g.2.2.2.1.cell 1;have r0:=g.2.2.1.cell 0;have r1:=g.2.2.1.cell 1;have aj:=g.2.2.1.frozen 0;have aq:=g.2.2.1.frozen 1;simp only[lQ,lO,lS]at v0 v1 r0 r1;go_wp2_with fail;have V:=g.2.2.1.set 0 z.type;have I:=V.set 1 (Ag .u32 z.word);have S:=I.cell 0;have T:=I.cell 1;simp only[mO,mi,mh,lQ,lO,lS]at S T;refine mM (v:=An #[z.type,Ag .u32 z.word]) (by simp[results,results151,go_sem,S,T]) rfl ⟨rfl,Z gk kl ck,(g.1.other oS _).other oS _,?_,(g.2.2.2.2.setCell (.inr oS) _).setCell (.inr oS) _,rfl⟩;have Q:¬Dm ⟨f,Z gk kl ck,x3⟩ C F w:= λe=>by have:=(H.ltOf (e.stack (s':=Z gk (kl+1) ck) rfl)).2;omega
 exact(g.2.1.jS Q _).jS Q _
structure Gd(r:DQ)(E:Nat->List Nat)(n:Nat)(O:List Nat)(D L:Nat->Nat->Bool):Prop where
 eE:E=nx r.a7
 nn:n= ↑r.a7
 fl:Ih E n (DY O) D
 ord:r.dr=ints O.reverse
 oa:∀b,b<n->∃j:Nat,O.reverse[j]?=K b
 il:∀h y,L h y=true↔AW E D n h y
 cv:r.cv=Bv E D L n n
 nd:O.Nodup
 om:∀x,x∈O↔x<n
def Ny(E:Nat->List Nat)(D L:Nat->Nat->Bool)(n h:Nat):ML:=⟨(h:Int),ints (AP E D n h),ints ((List.range n).filter (L h))⟩
theorem Ba.gd{xs:List MI}{r:DQ}(h:Ba xs r)(a:r.aU=0):∃O D L,Gd r (nx r.a7) r.a7 O D L:=by
 cases h with
 |none _=>cases a
 |off _ _ _=>cases a
 |lost _ _ _ _ _ _ _ _=>cases a
 |two _ _ _ _ _ _ _ _=>cases a
 | @good x S O D L I g x1 o1 v1 s1 d1 b1 i1 l1=>
   obtain⟨d,n,_,j,_⟩:=DN (GN g) (Ml g) v1 s1;refine⟨O,D,L,rfl,rfl,⟨d,d1, λb f t p l=> ?_, λy s=> ?_⟩,rfl, λb f=> ?_,l1,rfl,n,j⟩
   . by_cases e:D t b=true
     . exact(d1 t b).1 e
     exact absurd ⟨l,e⟩ (b1 b f t p)
   . (suffices ∀m y,DY O y<=m->y<(AR xs).length->DA (nx (AR xs)) (λ_=>True) 0 y from this _ y lR s);intro m;induction m with
     | zero=>
       intro y k c;by_cases e:y=0
       . subst e;exact .here trivial
       have:=d.cz y c e;omega
     | succ m u=>
       intro y k c;by_cases e:y=0
       . subst e;exact .here trivial
       obtain⟨q,v,w,z⟩:=d.par y c e;exact .step (u q oM v) w trivial
   exact⟨_,Hx ((j b).2 f)⟩
section
variable {r:DQ} {E:Nat->List Nat} {n:Nat} {O:List Nat} {D L:Nat->Nat->Bool} {sl:List ML} {k h:Nat} {l:ML}
theorem Gd.mem(g:Gd r E n O D L):l∈r.cv↔∃h,h<n/\AP E D n h≠[]/\l=Ny E D L n h:=by
 rw[g.cv];unfold Bv;rw[List.mem_filterMap];constructor
 . rintro⟨h,b,a⟩;by_cases e:AP E D n h=[]
   . rw[mE e]at a;cases a
   rw[lY e]at a;(cases a);exact⟨h,nN.1 b,e,rfl⟩
 rintro⟨h,b,a,rfl⟩;exact⟨h,nN.2 b,by rw[lY a];rfl⟩
theorem Gd.lM(g:Gd r E n O D L):r.cv.Pairwise λa b=>a.head<b.head:=by
 rw[g.cv];unfold Bv;rw[List.pairwise_filterMap];refine pC.imp ?_;intro a b h x c y d;by_cases e:AP E D n a=[]
 . rw[mE e]at c;cases c
 by_cases f:AP E D n b=[]
 . rw[mE f]at d;cases d
 rw[lY e]at c;rw[lY f]at d;cases c
 cases d
 show(a:Int)<(b:Int);omega
theorem Lu(g:Ih E n (DY O) D)(c:AP E D n h≠[]):h<n:=by obtain⟨p,d⟩:=List.exists_mem_of_ne_nil _ c;obtain⟨a,b,_⟩:=(Db _ _ _ _ _).1 d;exact g.P.jx p a h b
def hN(l:ML):Nat:=l.head.toNat
theorem Ob:hN (Ny E D L n h)=h:=by unfold hN Ny;exact lV h
theorem Pn:(Ny E D L n h).a7.length=((List.range n).filter (L h)).length:=by simp[Ny,ints]
theorem Gd.lG(g:Gd r E n O D L)(u:sl.Perm r.cv)(v:sl.Pairwise KO)(b:sl[k]?=K (Ny E D L n h))(y:AP E D n h≠[]):V8 E n D L (λx=>x∈(sl.take k).map hN) h where
 lt:=Lu g.fl y
 il:=g.il
 s1 x hx hl:=by
  have z:Ny E D L n x∈sl:=u.symm.subset (g.mem.2 ⟨x,Lu g.fl hx,hx,rfl⟩);obtain⟨j,a⟩:=nB z;obtain⟨p,l⟩:=f7.1 a;obtain⟨s,m⟩:=f7.1 b;rw[<-Pn (E:=E) (D:=D),<-Pn (E:=E) (D:=D)]at hl;have d:j<k:=by
   rcases Nat.lt_trichotomy j k with c|c|c
   . exact c
   . subst c;rw[a]at b;simp only[lX]at b;rw[b]at hl;exact absurd hl (Nat.lt_irrefl _)
   have:=(oH.1 v) k j s p c;rw[l,m]at this;rcases this with q|⟨q,_⟩<;>omega
  refine mV.2 ⟨Ny E D L n x,?_,Ob⟩;exact lP (i:=j) (by rw[pW d];exact a)
 s2 x hx:=by
  obtain⟨C,A,w⟩:=mV.1 hx;obtain⟨j,a⟩:=nB A;have d:j<k:=by have:=(f7.1 a).1;simp at this;omega
  rw[pW d]at a;obtain⟨p,l⟩:=f7.1 a;obtain⟨s,m⟩:=f7.1 b;have f:=(oH.1 v) j k p s d;rw[l,m]at f;obtain⟨B,_,_,t⟩:=g.mem.1 (u.subset (lP a));rw[t,Ob]at w;subst w;rw[t]at f;refine⟨λe=>by subst e;exact KO.irr _ f,?_⟩;rw[<-Pn (E:=E) (D:=D),<-Pn (E:=E) (D:=D)];rcases f with q|⟨q,_⟩<;>omega
theorem M6.iff{a b:Nat->Prop}{c:Nat->Nat}(s:M6 E n D a c)(d:∀x,b x↔a x):M6 E n D b c:=by
 have:b=a:=funext λx=>propext (d x)
 rw[this];exact s
theorem Gd.step(g:Gd r E n O D L)(e:sl.Perm r.cv)(f:sl.Pairwise KO)(c:sl[k]?=K (Ny E D L n h))(d:AP E D n h≠[]){a:Nat->Nat}(s:M6 E n D (λx=>x∈(sl.take k).map hN) a):M6 E n D (λx=>x∈(sl.take (k+1)).map hN) (λb=>if L h b then h else a b):=(V8.step g.fl s (g.lG e f c d)).iff λx=>by rw[List.take_add_one,c,nS,mA];simp only[Option.toList,nh,List.map_nil,lW,lZ,mS,Ob]
theorem M6.kK:M6 E n D (λx=>x∈(sl.take 0).map hN) (jf (List.range n)):=by refine⟨λb c=>.inl ⟨?_, λx a=>by simp at a⟩, λx a=>by simp at a⟩;exact px (pe c)
theorem Gd.iy(g:Gd r E n O D L)(a:h<n):Jr (λj=>decide (j∈(Ny E D L n h).a7.map Int.toNat)) n= λb=>L h b=true:=by
 funext b
 apply propext;unfold Jr;simp only[mo,Ny,ints,ot,mV,oP,nN,Function.comp,lV,exists_eq_right];constructor
 . exact λh=>h.2.2
 exact λh=>⟨g.fl.iU a ((g.il _ _).1 h),g.fl.iU a ((g.il _ _).1 h),h⟩
theorem Gd.inK(g:Gd r E n O D L)(a:h<n)(b:Nat):b∈(Ny E D L n h).a7.map Int.toNat↔L h b=true:=by simp only[Ny,ints,ot,mV,oP,nN,Function.comp,lV,exists_eq_right];exact⟨λh=>h.2, λh=>⟨g.fl.iU a ((g.il _ _).1 h),h⟩⟩
theorem Gd.inB(b:Nat):(b:Int)∈(Ny E D L n h).back↔b∈AP E D n h:=by simp only[Ny,ints,mV];exact⟨λ⟨a,c,d⟩=>(show a=b from oM)▸c, λh=>⟨b,h,rfl⟩⟩
theorem Gd.bk(g:Gd r E n O D L)(b:Nat)(a:b∈AP E D n h):L h b=true:=by
 refine(g.il _ _).2 ?_;by_cases e:b=h
 . exact .inl e
 exact .inr ⟨b,a,.here e⟩
end
def Es(fs:List MF)(b:List Int)(i:Nat)(z:Int):Bool:=match fs[i]? with|some f=>(f.aU.any λx=>decide (x.op=28)&&decide (x.a=z))&& !b.contains z|none=>false
def I6(fs:List MF)(b:List Int)(z:Int):Bool:=match fs[z.toNat]? with|some f=>(Jh f).all λa=>b.contains a|none=>false
theorem Vx{d:List Int}(k:i< ↑fs):(∀z,Es fs d i z=false)↔I6 fs d (i:Int)=true:=by
 unfold Es I6;rw[lV,an k];simp only[nV];constructor
 . intro h a e;unfold Jh at e;obtain⟨x,c,rfl⟩:=mV.1 e;obtain⟨f,g⟩:=oP.1 c;have:=h x.a;have j:(fs[i].aU.any λy=>decide (y.op=28)&&decide (y.a=x.a))=true:=List.any_eq_true.2 ⟨x,f,by simpa using g⟩;rw[j]at this;simpa using this
 intro h z;cases hz:d.contains z with
 |true=>simp
 | false=>simp only[Bool.not_false,Bool.and_true];rw[List.any_eq_false];intro x c b;simp only[mu,mo]at b;have:=h x.a (mV.2 ⟨x,oP.2 ⟨c,by simpa using b.1⟩,rfl⟩);rw[b.2,hz]at this;cases this
theorem ZF{a:List Int}:FX fs a i=(!a.contains (i:Int)&&I6 fs a (i:Int)):=by unfold FX I6;rw[lV];rfl
structure Di(u:Y)(fs:List MF)(base mb k:Nat)(Bk:Nat->Nat)(live:Nat->Bool)(dn:Nat->List Int):Prop where
 set:∀i,i<k->live i=true->∃cn D,cn<=1048576/\AQ u (Bk i) cn D/\∀z,Go.Maps.has D (.int Af z)=Es fs (dn i) i z
 inj:∀i j,i<k->j<k->Bk i=Bk j->i=j
 ne:∀i,i<k->base<=Bk i/\Bk i≠mb
structure DH(u:Y)(mb cnt k:Nat)(Bk:Nat->Nat)(zs:List Int)(W:DataW Unit):Prop where
 own:u.ownsMap Aq 2 Cy mb cnt W
 has:∀z,Go.Maps.has W (.int Af z)=(decide (0<=z/\z<(k:Int))&& !zs.contains z)
 at_:∀i,i<k->zs.contains (i:Int)=false->∀zd,W.atKey (.int Af (i:Int)) zd=.lit (.int Af (Bk i:Int))
 size:Go.Maps.size W+zs.length=k
theorem ul(z:Int):WideAt.IsKeyLit (Lit.int Af z):=trivial
theorem DH.start{a:Nat}{b:Nat->Nat}(h:u.ownsMap Aq 2 Cy a 0 (.map [])):DH u a 0 0 b [] (.map []):=⟨h, λz=>by
 have:¬(0<=z/\z<((0:Nat):Int)):=oM
 simp only[this,decide_false,Bool.false_and];rfl, λi c=>absurd c (Nat.not_lt_zero _),rfl⟩
theorem Di.start{base e:Nat}{b:Nat->Nat}{d:Nat->Bool}:Di u fs base e 0 b d c:=⟨λi a=>absurd a (Nat.not_lt_zero _), λi j a=>absurd a (Nat.not_lt_zero _), λi a=>absurd a (Nat.not_lt_zero _)⟩
theorem DH.put{a k c:Nat}{b:Nat->Nat}(h:DH u a k k b [] W)(j:g.ownsMap Aq 2 Cy a (k+1) (W.put (.int Af (k:Int)) (.lit (.int Af (c:Int))))):DH g a (k+1) (k+1) (λi=>if i=k then c else b i) [] (W.put (.int Af (k:Int)) (.lit (.int Af (c:Int)))):=by
 refine⟨j, λz=> ?_, λi l _ m=> ?_,?_⟩
 . rw[L3 W (oD h.own),h.has z];simp only[List.contains_nil,Bool.not_false,Bool.and_true];by_cases e:(k:Int)=z
   . subst e;have:(0<=(k:Int)/\(k:Int)<((k+1:Nat):Int)):=oM
     simp only[this,decide_true,Bool.or_true,and_self]
   by_cases d:0<=z/\z<(k:Int)
   . have:(0<=z/\z<((k+1:Nat):Int)):=oM
     simp only[d,this,decide_true,Bool.true_or,and_self]
   have:¬(0<=z/\z<((k+1:Nat):Int)):=oM
   simp only[d,this,e,decide_false,Bool.or_false]
 . by_cases e:i=k
   . subst e;rw[Go.Maps.atKey_put_same (oD h.own) (ul _)];simp
   rw[Go.Maps.atKey_put_other (λq=>e (by injection q with _ q;omega)),h.at_ i oM rfl];simp[e]
 rw[Go.Maps.size_put (World.ownsMap.tidy h.own EX),h.has];have:¬(0<=(k:Int)/\(k:Int)<(k:Int)):=oM
 have f:=h.size;simp only[this,decide_false,Bool.false_and,nT,mL]at f⊢;simp[f]
theorem Di.put{u m:Y}{base l k c:Nat}{b:Nat->Nat}{q:Nat->Bool}{f:Nat->List Int}(h:Di u fs base l k b q f)(w:∀i,i<k->∀a D,AQ u (b i) a D->AQ m (b i) a D)(p:∀i,i<k->b i≠c)(v:base<=c/\c≠l)(A:∃a D,a<=1048576/\AQ m c a D/\∀z,Go.Maps.has D (.int Af z)=Es fs (f k) k z):Di m fs base l (k+1) (λi=>if i=k then c else b i) q f:=by
 refine⟨λi n y=> ?_, λi j n B e=> ?_, λi n=> ?_⟩
 . by_cases e:i=k
   . subst e;simpa using A
   obtain⟨a,D,r,s,t⟩:=h.set i oM y;simp only[e,if_false];exact⟨a,D,r,w i oM _ _ s,t⟩
 . by_cases g:i=k
   . by_cases d:j=k
     . omega
     simp only[g,d,if_true,if_false]at e;exact absurd e.symm (p j oM)
   by_cases d:j=k
   . simp only[g,d,if_true,if_false]at e;exact absurd e (p i oM)
   simp only[g,d,if_false]at e;exact h.inj i j oM oM e
 by_cases e:i=k
 . simpa[e]using v
 simpa[e]using h.ne i oM
theorem Di.kept{base f k:Nat}{a:Nat->Nat}{e:Nat->Bool}(h:Di u fs base f k a e c)(n:∀i,i<k->∀b D,AQ u (a i) b D->AQ g (a i) b D):Di g fs base f k a e c:=⟨λi d p=>by obtain⟨b,D,j,l,m⟩:=h.set i d p;exact⟨b,D,j,n i d _ _ l,m⟩,h.inj,h.ne⟩
theorem Te{base p r:Nat}{d:Nat->Nat}{b:List Int}(h:Di u fs base p fs d (λi=> !b.contains (i:Int)) (λ_=>b))(n:DH u p r fs d b W)(z:Int)(c:Nat)(m:∀t,W.atKey (.int Af z) t=.lit (.int Af (c:Int))):∃a D,a<=1048576/\AQ u c a D/\(Go.Maps.size D=0↔I6 fs b z=true):=by
 have f:=Go.Maps.has_true_of_atKey m;rw[n.has]at f;simp only[mu,mo]at f;obtain⟨⟨v,w⟩,j⟩:=f;obtain⟨i,rfl⟩:∃i:Nat,z=(i:Int):=⟨z.toNat,oM⟩;have g:i<fs.length:=oM;have e:=(m (.agg [])).symm.trans (n.at_ i g (by simpa using j) (.agg []));obtain rfl:c=d i:=by
  injection e with e
  injection e with _ e
  omega
 obtain⟨a,D,s,k,l⟩:=h.set i g j;refine⟨a,D,s,k,?_⟩;rw[VI k,<-Vx g];exact⟨λq y=>by rw[<-l];exact q y, λq y=>by rw[l];exact q y⟩
theorem Jb{z:Int}(a:0<=z)(b:z<1048576):Fa z:=by simp[Fa,Lit.wf,IntKind.min,IntKind.max,IntKind.signed,IntKind.bits];omega
theorem Ri{a rs:List Int}(m:fs.length<=1048576)(f:∀z,Go.Maps.has W (.int Af z)=(decide (0<=z/\z<(fs:Int))&& !a.contains z))(l:rs.Pairwise (· < ·))(h:∀z,z∈rs↔Fa z/\Go.Maps.has W (.int Af z)=true/\I6 fs a z=true):(rs=[]/\Hs fs a=M)\/∃(q:Nat) (r:List Int),rs=(q:Int)::r/\q< ↑fs/\a.contains (q:Int)=false/\Hs fs a=K q:=by
 have c:∀i:Nat,i< ↑fs->(FX fs a i=true↔(i:Int)∈rs):= λi b=>by
  rw[h,f,ZF];have k:(0<=(i:Int)/\(i:Int)<(fs:Int)):=oM
  simp only[k,decide_true,Bool.true_and,mu,and_self];exact⟨λq=>⟨Jb oM oM,q⟩, λq=>q.2⟩
 cases rs with
 | nil=>
   refine .inl ⟨rfl,QW λj g=> ?_⟩;cases hr:FX fs a j with
   |false=>rfl
   |true=>exact absurd ((c j g).1 hr) sP
 | cons z r=>
   have d:=(h z).1 (nG ..);rw[f]at d;simp only[mu,mo]at d;obtain⟨i,rfl⟩:∃i:Nat,z=(i:Int):=⟨z.toNat,oM⟩;have b:i<fs.length:=oM;refine .inr ⟨i,r,rfl,b,by simpa using d.2.1.2,QX b ((c i b).2 (nG ..)) λj g=> ?_⟩;cases hr:FX fs a j with
   |false=>rfl
   | true=>
     have:=(c j oM).1 hr;rcases lW.1 this with e|e
     . omega
     have:=(my.1 l).1 _ e;omega
theorem QQ(D:DataW Unit)(z y:Int):Go.Maps.has (D.del (.int Af z)) (.int Af y)=(Go.Maps.has D (.int Af y)&& !decide (y=z)):=by
 by_cases h:y=z
 . subst h;rw[Go.Maps.has_del_same];simp
 rw[Go.Maps.has_del_other (λe=>h (by cases e;rfl))];simp[h]
theorem Fe(a:List Int)(q z:Int):(a++[q]).contains z=(a.contains z||decide (z=q)):=by rw[pN];simp
theorem DH.del{c b k q:Nat}{f:Nat->Nat}{d:List Int}(h:DH u c b k f d W)(p:q<k)(n:d.contains (q:Int)=false)(m:g.ownsMap Aq 2 Cy c b (W.del (.int Af (q:Int)))):DH g c b k f (d++[(q:Int)]) (W.del (.int Af (q:Int))):=by
 refine⟨m, λz=> ?_, λi l a s=> ?_,?_⟩
 . rw[QQ,h.has z,Fe,Bool.not_or,Bool.and_assoc]
 . rw[Fe]at a;simp only[Bool.or_eq_false_iff,o9]at a;rw[Go.Maps.atKey_del_other (λe=>a.2 (by injection e)),h.at_ i l a.1]
 have:=Go.Maps.size_del (k:=.int Af (q:Int)) (World.ownsMap.tidy h.own EX);have j:(0<=(q:Int)/\(q:Int)<(k:Int)):=oM
 rw[h.has,n]at this;simp only[j,and_self,decide_true,Bool.not_false,Bool.and_true,if_true]at this;have r:=h.size;rw[mB,mT];omega
theorem XW(fs:List MF)(a:List Int)(q:Int)(i:Nat)(z:Int):Es fs (a++[q]) i z=(Es fs a i z&& !decide (z=q)):=by
 unfold Es;cases fs[i]? with
 |none=>rfl
 |some f=>simp only[Fe,Bool.not_or,Bool.and_assoc]
def Yw(w:Y)(B h:Nat)(t:Int)(d:Bool)(c n:Int)(X:VS)(C:List (J×List MC))(K:List MC)(F:List (MG×J))(l:J)(e:Ending)(b:Y):Prop:=e=Am (Ap #[])/\∃a,BC b h t d c n ⟨X.c,a,X.f⟩ l/\AB b B ⟨X.c,a,X.f⟩ C K F/\Bp (λj=>j=h\/X.k.ownBlock=some j) w b/\(a.ownBlock=X.k.ownBlock\/∀g,a.ownBlock=some g-> ↑w<=g)
theorem rL{w U l m:Y}{q:Nat}{c n:Int}{p x3:J}{a:Option Addr}{c2:Nat}{C:List (J×List MC)}{K:List MC}{z:MC}{f cap:Nat}(HM:BC U q t d c n ⟨p,Z a K c2,x3⟩ v)(HO:AB U B ⟨p,Z a K c2,x3⟩ C K F)(A:B<= ↑w)(r:Ah w w U)(h:Ah U U l)(u:Ab l B 193 2 (Z a K c2) K (Ad MC.cells K))(s:l.grownBy m (Z a K c2).ownBlock)(L:Ab m B 193 2 (Z f (K.length+1) cap) (K.length+1) (Ad MC.cells K++Ad MC.cells ([z]:List MC)))(b:(Z a K c2).ownBlock=some f\/f= ↑l):BC m q t d c n ⟨p,Z a K c2,x3⟩ v/\AB m B ⟨p,Z f (K.length+1) cap,x3⟩ C (K++[z]) F/\Bp (λj=>j=q\/(Z a K c2).ownBlock=some j) w m/\((Z f (K.length+1) cap).ownBlock=(Z a K c2).ownBlock\/ ↑w<=f):=by
 obtain⟨y,E,I⟩:=(HM.av h).eI;have N:=HO.grow h;have D:B<=l.heap.size:=mC A (mC r.size h.size);refine⟨⟨y,E.grown s u dC,I⟩,?_,?_,?_⟩
 . have H:(K++[z]).length= ↑K+1:=sP
   exact N.stack (K':=K++[z]) D s (by rw[H,mW];exact L) (by
    rcases b with b|b
    . exact .inl b.symm
    exact .inr (λg G=>by simp only[Value.ownBlock,lX]at G;omega))
 . exact(Bp.of (Ar r lR h)).grown s (λk P e=>.inr e.symm)
 rcases b with b|b
 . exact .inl b.symm
 have u:=r.size;have O:=h.size;exact .inr oM
theorem Dw(B e:Nat)(t:Int)(d:Bool)(c n:Int)(X:VS)(C:List (J×List MC))(K:List MC)(F:List (MG×J))(m:J)(z:MC)(w:Y)(L:B<= ↑w)(h:AB w B X C K F)(D:BC w e t d c n X m)(hK:K.length<=1048576):
 Ai Aq 150 #[.pointer e,An #[z.type,Ag .u32 z.word]] w (Yw w B e t d c n X C (K++[z]) F m):=by
 obtain⟨i0,R,V,W,aa⟩:=nE Xi;obtain⟨f,x2,x3⟩:=X;obtain⟨a,c2,I⟩:=AF (h.fg.own (x2,K) sP);simp only[]at I;subst I;have H:Ae (AB w B ⟨f,Z a K c2,x3⟩ C K F):=h;have HM:Ae (BC w e t d c n ⟨f,Z a K c2,x3⟩ m):=D;have au:=D.lt;clear h D;have G:Ae (BC (Ac w (Ak #[z.type,Ag .u32 z.word] 193)) e t d c n ⟨f,Z a K c2,x3⟩ m/\AB (Ac w (Ak #[z.type,Ag .u32 z.word] 193)) B ⟨f,Z a K c2,x3⟩ C K F/\Ay (Ac w (Ak #[z.type,Ag .u32 z.word] 193)) w #[z.type,Ag .u32 z.word] 193/\Ah w w (Ac w (Ak #[z.type,Ag .u32 z.word] 193))):=⟨HM.av (Al _ _),H.grow (Al _ _),Ay.new _ _ _,Al _ _⟩
 go_enter func150,ntmps150;go_upto_region 1 with fail
 refine Av (λu=>Ae (BC u e t d c n ⟨f,Z a K c2,x3⟩ m/\AB u B ⟨f,Z a K c2,x3⟩ C K F/\Ay u w #[z.type,Ag .u32 z.word] 193/\Ah w w u)) G ?_
 rintro U b;clear G;have A:=b.1.at.2.2.2.2.2.1;have q:=b.2.2.1.cell 0;have r:=b.2.2.1.cell 1;simp only[]at A;simp only[lQ,lO,lS]at q r;have s:=As U;have l:Ah U U (Ac U (Ak #[z.type,Ag .u32 z.word] 193)).drew:=Ar (Al _ _) lR (As _);have ax:=Au s A;have aA:=Au l A;have ae:=Au s q;have aj:=Au s r;have ai:=Au l q;have aq:=Au l r;have p:Ae ((Ac U (Ak #[z.type,Ag .u32 z.word] 193)).drew.ownsRow B 193 2 (Z a K c2) K (Ad MC.cells K)/\(∀j u,(Ad MC.cells ([z]:List MC))[j]?=some u->(Ac U (Ak #[z.type,Ag .u32 z.word] 193)).drew.cell? ((⟨U,0,M⟩:Addr).add j)=some u)/\Ah U U (Ac U (Ak #[z.type,Ag .u32 z.word] 193)).drew/\B<=(Ac U (Ak #[z.type,Ag .u32 z.word] 193)).drew.heap.size):=⟨AD (b.2.1.fg.own (Z a K c2,K) sP) l lR, λj u S=>Va U [z] j u S,l,mC (mC L b.2.2.2.size) l.size⟩
 clear A q r s l;go_upto_region 1 with fail
 go_region_law (refine step_append_lies _ rfl (.tmp 9) (.tmp 11) 45 rfl B 193 i0 (An #[Ag Af 0,Ag .u32 0]) 2 16 underlying45 R V W aa rfl dC (Z a K c2) K (Ad MC.cells K) oE p.1 U 1 1 (Ad MC.cells ([z]:List MC)) oE rfl p.2.1 (JB _) oM oX oM p.2.2.2 _ rfl ?_;intro y cap E P O N T;have k:Ae (BC E e t d c n ⟨f,Z a K c2,x3⟩ m/\AB E B ⟨f,Z y (K.length+1) cap,x3⟩ C (K++[z]) F/\Bp (λj=>j=e\/(Z a K c2).ownBlock=some j) w E/\((Z y (K.length+1) cap).ownBlock=(Z a K c2).ownBlock\/ ↑w<=y)):=rL (HM:=b.1) (HO:=b.2.1) L b.2.2.2 p.2.2.1 p.1 O P N;have y0:=k.1.at.2.2.2.2.2.1;have y1:=k.1.frozen 5;simp only[]at y0;clear P O N T)
 all_goals
  refine nR (v:=Ap #[]) kR rfl ?_;exact⟨rfl,Z y (K.length+1) cap,k.1.ku _,GP k.2.1 k.1,k.2.2.1.setCell (.inl (.inl rfl)) _,k.2.2.2.imp_right (λh g Q=>by simp only[Value.ownBlock,lX]at Q;omega)⟩
def XF(op:Int):Int:=match ((CL op)[1]?:Option J)with|some (Ag _ c)=>c|_=>0
def OK(costs:List Int)(x:MI):Prop:=x.op=28->x.a.toNat< ↑costs/\0<=cf costs x.a.toNat/\cf costs x.a.toNat<=4294967295
def Gm(costs:List Int)(x:MI):Int:=XF x.op+if x.op=28 then cf costs x.a.toNat else 0
def FH(xs:List MI)(costs:List Int)(a:Nat):Nat->Int
 |0=>0
 |k+1=>FH xs costs a k+match xs[a+k]? with|some x=>Gm costs x|none=>0
def Cm(xs:List MI)(costs:List Int)(m:MB):Int:=FH xs costs m.cz.toNat (m.last.toNat+1-m.cz.toNat)
def FF(xs:List MI)(costs:List Int)(m:MB):Prop:=(∃(j:Nat) (x:MI),m.cz<=(j:Int)/\(j:Int)<=m.last/\xs[j]?=K x/\¬OK costs x)\/4294967295<Cm xs costs m
def Ju(p:MP)(b:Int)(a:List MB)(h:Nat):Int:=match a[h]? with|some m=>(match Cr p.bO b m.cz with|some c=>c.init|none=>0)|none=>0
def My(xs:List MI)(a:List MB)(b:Nat):Prop:=∃m x,a[b]?=K m/\xs[m.last.toNat]?=K x/\x.op=29
def RY(p:MP)(a:Int)(costs:List Int)(xs:List MI)(r:DQ)(v:Int):Prop:=
 (((∃l∈r.cv,∃k,k≠0/\A5 p a xs r.a7 l k)\/∃m∈r.a7,FF xs costs m)/\v=-1)\/
 ((∀l∈r.cv,A5 p a xs r.a7 l 0)/\(∀m∈r.a7,¬FF xs costs m)/\∃(O:List Nat) (D L:Nat->Nat->Bool) (sl:List ML),Gd r (nx r.a7) r.a7 O D L/\sl.Perm r.cv/\sl.Pairwise KO/\PW (nx r.a7) r.a7 D L (Ju p a r.a7) (My xs r.a7) (sl.map hN) (jf (List.range r.a7)) (cf (r.a7.map (Cm xs costs))) v)
def GZ(p:MP)(a:Int)(costs:List Int)(v:Int):Prop:=
 ((∀f r,AY p 0->0<=a->p.aC[a.toNat]?=K f->Ba f.aU r->r.aU≠0)/\v=-1)\/
 ∃f r,AY p 0/\0<=a/\p.aC[a.toNat]?=K f/\Ba f.aU r/\r.aU=0/\RY p a costs f.aU r v
theorem Gd.same{r:DQ}{E:Nat->List Nat}{n:Nat}{O f:List Nat}{D a L c:Nat->Nat->Bool}(g:Gd r E n O D L)(e:Gd r E n f a c):D=a/\L=c:=by
 have j:D=a:=by
  funext d b
  have:=(g.fl.D d b).trans (e.fl.D d b).symm;cases h:D d b<;>cases h':a d b<;>simp[h,h']at this<;>rfl
 subst j;refine⟨rfl,?_⟩;funext d b
 have:=(g.il d b).trans (e.il d b).symm;cases h:L d b<;>cases h':c d b<;>simp[h,h']at this<;>rfl
theorem RY.one{p:MP}{c:Int}{costs:List Int}{xs:List MI}{r:DQ}{v:Int}(h:RY p c costs xs r v)(d:RY p c costs xs r v'):v=v':=by
 have e:∀{v':Int},((∃l∈r.cv,∃k,k≠0/\A5 p c xs r.a7 l k)\/∃m∈r.a7,FF xs costs m)->(∀l∈r.cv,A5 p c xs r.a7 l 0)->(∀m∈r.a7,¬FF xs costs m)->False:=by
  rintro _ (⟨l,z,k,y,a⟩|⟨m,A,a⟩) t u
  . exact y (a.one (t l z))
  exact u m A a
 rcases h with⟨a,rfl⟩|⟨f,j,O,D,L,sl,g,B,s1,c1⟩
 . rcases d with⟨_,rfl⟩|⟨n,q,_⟩
   . rfl
   exact(e (v':=0) a n q).elim
 rcases d with⟨a,rfl⟩|⟨_,_,G,E,F,H,s,C,s2,c2⟩
 . exact(e (v':=0) a f j).elim
 obtain⟨rfl,rfl⟩:=g.same s;obtain rfl:=ZS s1 s2 (B.trans C.symm);exact c1.one (λh b w=>g.bk b w) c2
theorem GZ.one{p:MP}{m:Int}{costs:List Int}{v:Int}(h:GZ p m costs v)(n:GZ p m costs v'):v=v':=by
 rcases h with⟨c,rfl⟩|⟨f,r,q,s,d,e,t,u⟩
 . rcases n with⟨_,rfl⟩|⟨f,r,g,j,a,b,k,l⟩
   . rfl
   exact absurd k (c f r g j a b)
 rcases n with⟨c,rfl⟩|⟨w,y,g,j,a,b,k,l⟩
 . exact absurd t (c f r q s d e)
 rw[d]at a;cases a
 obtain rfl:=e.one b;exact u.one l
theorem XH{s:ByteArray}{c f:Int}(h:CL op=#[.string s,Ag Af c,Ag Af f]):XF op=c:=by unfold XF;rw[h];rfl
theorem Xd(a:∀op,0<=XF op){costs:List Int}{x:MI}(h:OK costs x):0<=Gm costs x:=by
 unfold Gm;have:=a x.op;by_cases e:x.op=28
 . rw[mE e];have:=(h e).2.1;omega
 rw[lY e];omega
theorem J7(f:∀op,0<=XF op){xs:List MI}{costs:List Int}{a k b:Nat}(m:k<=b)(h:∀j x,k<=j->j<b->xs[a+j]?=K x->OK costs x):FH xs costs a k<=FH xs costs a b:=by
 induction b with
 | zero=>obtain rfl:k=0:=oM;exact Int.le_refl _
 | succ b g=>
   by_cases e:k=b+1
   . subst e;exact Int.le_refl _
   (have c:=g oM λj x c l d=>h j x c oM d);simp only[FH];cases hx:xs[a+b]? with
   |none=>simp only[];omega
   | some x=>have:=Xd f (h b x oM oM hx);simp only[];omega
theorem FF.jJ(p:∀op,0<=XF op){xs:List MI}{costs:List Int}{m:MB}{a e k:Nat}(r:m.cz=(a:Int))(s:m.last=(e:Int))(t:k<=e+1-a){d:Int}(l:d<=FH xs costs a k\/∃x,xs[a+k]?=K x/\k<e+1-a/\d<=FH xs costs a k+XF x.op)(y:4294967295<d)(w:a<=e+1):FF xs costs m:=by
 by_cases n:∃(j:Nat) (x:MI),m.cz<=(j:Int)/\(j:Int)<=m.last/\xs[j]?=K x/\¬OK costs x
 . exact .inl n
 have h:∀j x,j<e+1-a->xs[a+j]?=K x->OK costs x:= λj x z f=>mr λq=>n ⟨a+j,x,oM,oM,f,q⟩
 right;unfold Cm;rw[r,s,lV,lV];rcases l with l|⟨x,f,u,l⟩
 . (have:=J7 p (xs:=xs) (costs:=costs) (a:=a) t λj x _ b c=>h j x b c);omega
 have b:=J7 p (xs:=xs) (costs:=costs) (a:=a) (show k+1<=e+1-a from oM) λj x _ b c=>h j x b c
 have c:FH xs costs a (k+1)=FH xs costs a k+Gm costs x:=by simp only[FH,f]
 have v:XF x.op<=Gm costs x:=by
  unfold Gm;by_cases g:x.op=28
  . rw[mE g];have:=((h k x u f) g).2.1;omega
  rw[lY g];omega
 omega
structure AG(w u:Y)(B M top:Nat)(t:Int)(d:Bool)(c n:Int)(X:VS)(C:List (J×List MC))(K:List MC)(F:List (MG×J))(hv:J)(gh oh gf:Nat)(op a b c':Int)(X0:VS)(C0:List (J×List MC))(F0:List (MG×J)):Prop where
 mb:BC u M t d c n X hv
 own:AB u B X C K F
 fb:Ay u w #[.pointer (some ⟨gh,oh,none⟩),.pointer (some ⟨gf,top*4,none⟩)] 143
 ib:Ay u ((w:Nat)+1) #[op,a,b,c'] 25
 gv:Bp (λj=>j=M\/Dm X0 C0 F0 j) w u
 iy:∀j,Dm X C F j->j< ↑w->Dm X0 C0 F0 j
 ji:∀j,Dm X C F j->j< ↑w\/ ↑w+1<j
 hB:B<= ↑w
 hM:M< ↑w
def B4(w:Y)(B b:Nat)(t:Int)(d:Bool)(c n:Int)(C:List (J×List MC))(K:List MC)(F:List (MG×J))(k:J)(h:VS)(f:List (J×List MC))(g:List (MG×J))(e:Ending)(a:Y):Prop:=e=Am (Ap #[])/\∃X,BC a b t d c n X k/\AB a B X C K F/\Bp (λj=>j=b\/Dm h f g j) w a
theorem AG.ia{g:Nat}{c n:Int}{C:List (J×List MC)}{K:List MC}{k:J}{l m gf:Nat}{j:VS}{e:List (J×List MC)}{f:List (MG×J)}(h:AG w u B g top t d c n X C K F k l m gf op a b c' j e f):B4 w B g t d c n C K F k j e f (Am (Ap #[])) u:=⟨rfl,X,h.mb,h.own,h.gv⟩
theorem AG.of{B m top:Nat}{c n:Int}{C:List (J×List MC)}{K:List MC}(e f gf:Nat)(op a b c':Int)(y:B<= ↑w)(h:AB w B X C K F)(r:BC w m t d c n X s):AG w (Ac (Ac w (Ak #[.pointer (some ⟨e,f,M⟩),.pointer (some ⟨gf,top*4,M⟩)] 143)) (Ak #[op,a,b,c'] 25)) B m top t d c n X C K F s e f gf op a b c' X C F:=by
 have p:=Al w (Ak #[.pointer (some ⟨e,f,M⟩),.pointer (some ⟨gf,top*4,M⟩)] 143);have u:=Ay.new w #[.pointer (some ⟨e,f,M⟩),.pointer (some ⟨gf,top*4,M⟩)] 143;generalize z:Ac w (Ak #[.pointer (some ⟨e,f,M⟩),.pointer (some ⟨gf,top*4,M⟩)] 143)=g at p u⊢;have A:(g:Nat)= ↑w+1:=by rw[<-z];simp
 have q:=Al g (Ak #[op,a,b,c'] 25);have v:=Ay.new g #[op,a,b,c'] 25;rw[A]at v;have k:=Ar p lR q;exact⟨r.av k,h.grow k,u.av q,v,.of k, λj l _=>l, λj l=>.inl (h.ltOf l).2,y,r.lt⟩
theorem AG.av{w u r:Y}{B k top:Nat}{c n:Int}{C:List (J×List MC)}{K:List MC}{p:J}{m q gf:Nat}{l:VS}{g:List (J×List MC)}{j:List (MG×J)}(h:AG w u B k top t d c n X C K F p m q gf op a b c' l g j)(f:Ah u u r):AG w r B k top t d c n X C K F p m q gf op a b c' l g j:=⟨h.mb.av f,h.own.grow f,h.fb.av f,h.ib.av f,h.gv.trans (.of (R:= λ_=>False) f) (λ_ _ e=>e.elim),h.iy,h.ji,h.hB,h.hM⟩
theorem AG.pop{w u m:Y}{g:Nat}{c n:Int}{C:List (J×List MC)}{K K':List MC}{r:J}{z D gf:Nat}{y:VS}{s:List (J×List MC)}{v:List (MG×J)}{l:J}(h:AG w u B g top t d c n X C K F r z D gf op a b c' y s v)(E:BC m g t d c n ⟨X.c,l,X.f⟩ r)(G:AB m B ⟨X.c,l,X.f⟩ C K' F)(p:Bp (λj=>j=g) u m)(A:l.ownBlock=X.k.ownBlock):AG w m B g top t d c n ⟨X.c,l,X.f⟩ C K' F r z D gf op a b c' y s v:=by have H:=h.hM;exact⟨E,G,p.eI h.fb oM,p.eI h.ib oM,h.gv.trans p (λ_ _ e=>.inl e), λj q=>h.iy j (q.stack (x3:=X.f) A), λj q=>h.ji j (q.stack (x3:=X.f) A),h.hB,h.hM⟩
theorem AG.push{w u r:Y}{c n:Int}{C:List (J×List MC)}{K K':List MC}{D H gf:Nat}{y:List (J×List MC)}{z:List (MG×J)}{m:J}(h:AG w u B p top t d c n X C K F v D H gf op a b c' A y z)(I:BC r p t d c n ⟨X.c,m,X.f⟩ v)(L:AB r B ⟨X.c,m,X.f⟩ C K' F)(s:Bp (λj=>j=p\/X.k.ownBlock=some j) u r)(q:m.ownBlock=X.k.ownBlock\/∀g,m.ownBlock=some g-> ↑u<=g):AG w r B p top t d c n ⟨X.c,m,X.f⟩ C K' F v D H gf op a b c' A y z:=by
 have O:=h.hM;have P:=h.ib.lt;have E:∀j,Dm ⟨X.c,m,X.f⟩ C F j->Dm X C F j\/ ↑u<=j:= λj l=>by
  rcases l with e|e|e|e|e
  . exact .inl (.inl e)
  . rcases q with q|q
    . exact .inl (.inr (.inl (q▸e)))
    exact .inr (q j e)
  . exact .inl (.inr (.inr (.inl e)))
  . exact .inl (.inr (.inr (.inr (.inl e))))
  exact .inl (.inr (.inr (.inr (.inr e))))
 have G:∀j,j=w.heap.size\/j=w.heap.size+1->¬(j=p\/X.k.ownBlock=some j):= λj l e=>by
  rcases e with e|e
  . omega
  have:=h.ji j (.inr (.inl e));omega
 refine⟨I,L,s.eI h.fb (G _ (.inl rfl)),s.eI h.ib (G _ (.inr rfl)),h.gv.trans s (λj l e=> ?_), λj l N=> ?_, λj l=> ?_,h.hB,h.hM⟩
 . rcases e with e|e
   . exact .inl e
   exact .inr (h.iy j (.inr (.inl e)) l)
 . rcases E j l with e|e
   . exact h.iy j e N
   omega
 rcases E j l with e|e
 . exact h.ji j e
 omega
theorem AG.rows{q:Y}{v:Nat}{c n:Int}{C r:List (J×List MC)}{K:List MC}{s:List (MG×J)}{I:J}{D L gf:Nat}{y:List (J×List MC)}{z:List (MG×J)}{g:Nat}{N:Array J}{ty:Aj}(h:AG w u B v top t d c n X C K F I D L gf op a b c' A y z)(l:u.grownBy q (some g))(R:AB q B X r K s)(H:Dm X C F g)(f:Ay u g N ty)(Q:87≠ty)(E:∀j,Dm X r s j->Dm X C F j):AG w q B v top t d c n X r K s I D L gf op a b c' A y z:=by
 have T:=h.hM;have U:=h.ji g H;have p:Bp (λj=>j=g) u q:=⟨l.os,l.tape,l.output,l.size, λk f P=>l.block k f (λe=>P (mD e))⟩;have O:¬v=g:= λe=>by obtain⟨S,G,_⟩:=h.mb.eI;subst e;unfold Ay at G f;rw[G]at f;simp only[lX,nz]at f;exact Q f.2.1
 exact⟨h.mb.gv p O,R,p.eI h.fb oM,p.eI h.ib oM,h.gv.trans p (λj m e=>.inr (h.iy j (e▸H) m)), λj m=>h.iy j (E j m), λj m=>h.ji j (E j m),h.hB,h.hM⟩
theorem Zv(B e top:Nat)(t:Int)(d:Bool)(c n:Int)(X:VS)(C:List (J×List MC))(K:List MC)(F:List (MG×J))(k:J)(g j gf c3:Nat)(y:MG×J)(op a b c':Int)(w:Y)(p:B<= ↑w)(h:AB w B X C K F)(l:BC w e t d c n X k)(r: ↑F=top+1)(s:top<=1048576)(q:F[top]?=some y)(u:X.f=Z gf (top+1) c3):
 Ai Aq 95 #[.pointer e,An #[.pointer (some ⟨g,j,M⟩),.pointer (some ⟨gf,top*4,M⟩)],An #[op,a,b,c']] w (B4 w B e t d c n C K F k X C F):=by
 have m:Ae (AG w (Ac (Ac w (Ak #[.pointer (some ⟨g,j,M⟩),.pointer (some ⟨gf,top*4,M⟩)] 143)) (Ak #[op,a,b,c'] 25)) B e top t d c n X C K F k g j gf op a b c' X C F):=AG.of g j gf op a b c' p h l;clear h l q;go_enter func95,ntmps95;go_wp2_with fail;exact nR (v:=Ap #[]) kR rfl m.ia
theorem WH(z:MC)(B g top:Nat)(t:Int)(d:Bool)(c n:Int)(X:VS)(C:List (J×List MC))(K:List MC)(F:List (MG×J))(k:J)(j l gf c3:Nat)(y:MG×J)(op a b c':Int)(w:Y)(I:B<= ↑w)(h:AB w B X C (K++[z]) F)(D:BC w g t d c n X k)(L: ↑F=top+1)(R:top<=1048576)(E:F[top]?=some y)(S:X.f=Z gf (top+1) c3)(N:K.length<=1048576):
 Ai Aq 108 #[.pointer g,An #[.pointer (some ⟨j,l,M⟩),.pointer (some ⟨gf,top*4,M⟩)],An #[op,a,b,c']] w (B4 w B g t d c n C K F k X C F):=by
 have p:Ae (AG w (Ac (Ac w (Ak #[.pointer (some ⟨j,l,M⟩),.pointer (some ⟨gf,top*4,M⟩)] 143)) (Ak #[op,a,b,c'] 25)) B g top t d c n X C (K++[z]) F k j l gf op a b c' X C F):=AG.of j l gf op a b c' I h D;have H:Ae (AB w B X C (K++[z]) F/\ ↑F=top+1/\F[top]?=some y):=⟨h,L,E⟩
 clear h D E;go_enter func108,ntmps108;go_upto_region 1 with fail
 refine Av (λu=>Ae (AG w u B g top t d c n X C (K++[z]) F k j l gf op a b c' X C F)/\Ah w w u) ⟨p,Ar (Al _ _) lR (Al _ _)⟩ ?_
 rintro U ⟨m,Q⟩;clear p;go_wp2_with fail;refine(CZ B g t d c n X C K F k z U (mC m.hB m.gv.size) m.own m.mb N).mono ?_;rintro e P ⟨rfl,O,q,r,s,A⟩;have G:Ae (AG w P B g top t d c n ⟨X.c,O,X.f⟩ C K F k j l gf op a b c' X C F):=m.pop q r s A;clear q r s A;go_wp2_with fail;exact nR (v:=Ap #[]) kR rfl G.ia
section
variable {xs:List MI} {costs:List Int} {r:DQ} {C:List Int} {k ja je jj:Nat} {bad bad2 bad3:Bool} {c0 c7 c8 ci z:Int} {x:MI} {m:MB}
theorem XG(op:Int)(a:∃(s:ByteArray) (c f:Int),CL op=#[.string s,Ag Af c,Ag Af f]/\Kh c):0<=XF op:=by obtain⟨s,c,f,e,h⟩:=a;rw[XH e];exact h.1
end
theorem YP(z:MC)(B g top:Nat)(t:Int)(d:Bool)(c n:Int)(X:VS)(C:List (J×List MC))(K:List MC)(F:List (MG×J))(k:J)(m p gf c3:Nat)(y:MG×J)(op a b c':Int)(w:Y)(hB:B<= ↑w)(h:AB w B X C (K++[z]) F)(T:BC w g t d c n X k)(hF: ↑F=top+1)(ai:top<=1048576)(V:F[top]?=some y)(aq:X.f=Z gf (top+1) c3)(hK:K.length<1048576):
 Ai Aq 107 #[.pointer g,An #[.pointer (some ⟨m,p,M⟩),.pointer (some ⟨gf,top*4,M⟩)],An #[op,a,b,c']] w (B4 w B g t d c n C (K++[z,z]) F k X C F):=by
 have S:Ae (AG w (Ac (Ac w (Ak #[.pointer (some ⟨m,p,M⟩),.pointer (some ⟨gf,top*4,M⟩)] 143)) (Ak #[op,a,b,c'] 25)) B g top t d c n X C (K++[z]) F k m p gf op a b c' X C F):=AG.of m p gf op a b c' hB h T;have H:Ae (AB w B X C (K++[z]) F/\ ↑F=top+1/\F[top]?=some y):=⟨h,hF,V⟩
 clear h T V;go_enter func107,ntmps107;go_upto_region 1 with fail
 refine Av (λu=>Ae (AG w u B g top t d c n X C (K++[z]) F k m p gf op a b c' X C F)/\Ah w w u) ⟨S,Ar (Al _ _) lR (Al _ _)⟩ ?_
 rintro U ⟨E,bU⟩;clear S;go_wp2_with fail;refine(CZ B g t d c n X C K F k z U (mC E.hB E.gv.size) E.own E.mb oM).mono ?_;rintro e D ⟨rfl,G,s,q,r,A⟩;have O:Ae (AG w D B g top t d c n ⟨X.c,G,X.f⟩ C K F k m p gf op a b c' X C F):=E.pop s q r A;have Q:∀j,Dm ⟨X.c,G,X.f⟩ C F j->j<D.heap.size:= λj hj=>(q.ltOf hj).2
 clear s q r A E bU;have ae:(w:Nat)+1<D.heap.size:=O.ib.lt;have P:Ae (AG w (Ac D (Ak #[z.type,Ag .u32 z.word] 193)) B g top t d c n ⟨X.c,G,X.f⟩ C K F k m p gf op a b c' X C F/\Ay (Ac D (Ak #[z.type,Ag .u32 z.word] 193)) D #[z.type,Ag .u32 z.word] 193):=⟨O.av (Al _ _),Ay.new _ _ _⟩
 go_upto_region 2 with fail
 generalize D.heap.size=I at P Q ae⊢;refine Av (λu=>Ae (AG w u B g top t d c n ⟨X.c,G,X.f⟩ C K F k m p gf op a b c' X C F/\Ay u I #[z.type,Ag .u32 z.word] 193)) P ?_
 rintro U2 l;clear P O;clear D;have L:=l.2.cell 0;have N:=l.2.cell 1;simp only[lQ,lO,lS]at L N;have aa:Ae (∀j,Dm ⟨X.c,G,X.f⟩ C F j->j<I):=Q;clear Q;go_wp2_with fail;refine(Dw B g t d c n ⟨X.c,G,X.f⟩ C K F k z U2 (mC l.1.hB l.1.gv.size) l.1.own l.1.mb oM).mono ?_;rintro e R ⟨rfl,W,s,q,r,A⟩;have E4:Ae (AG w R B g top t d c n ⟨X.c,W,X.f⟩ C (K++[z]) F k m p gf op a b c' X C F/\Ay R I #[z.type,Ag .u32 z.word] 193):=⟨l.1.push s q r A,r.eI l.2 (λe=>by
  have hM:=l.1.hM;rcases e with e|e
  . omega
  have:=aa.o I (.inr (.inl e));omega)⟩
 clear s q r A L N l;have L:=E4.2.cell 0;have N:=E4.2.cell 1;simp only[lQ,lO,lS]at L N;have aj:(K++[z]).length<=1048576+1:=oT;go_wp2_with fail;refine(Dw B g t d c n ⟨X.c,W,X.f⟩ C (K++[z]) F k z R (mC E4.1.hB E4.1.gv.size) E4.1.own E4.1.mb oT).mono ?_;rintro e u4 ⟨rfl,k3,s,q,r,A⟩;have E5:Ae (AG w u4 B g top t d c n ⟨X.c,k3,X.f⟩ C (K++[z,z]) F k m p gf op a b c' X C F):=E4.1.push s (by simpa using q) r A;clear s q r A;go_wp2_with fail;exact nR (v:=Ap #[]) kR rfl E5.ia
theorem Dm.at_{C:List (J×List MC)}(a:F[top]?=K y){z:Int}{j:Nat}(h:Dm X C (F.set top ({y.1 with at_:=z},y.2)) j):Dm X C F j:=by have e:Bh (F.set top ({y.1 with at_:=z},y.2))=Bh F:=UU a z;unfold Dm at*;rw[e]at h;exact h
theorem AG.jump{c n:Int}{C:List (J×List MC)}{K:List MC}{r A gf:Nat}{k:List (J×List MC)}{l:List (MG×J)}(h:AG w u B p top t d c n X C K F s r A gf op a b c' q k l){m c3:Nat}(e:X.f=Z gf m c3)(v:F[top]?=some y)(z:Int):AG w (Aa u ⟨gf,top*4+1,M⟩ z) B p top t d c n X C K (F.set top ({y.1 with at_:=z},y.2)) s r A gf op a b c' q k l:=by obtain⟨I,D⟩:=h.own.setAt e v z;have g:=h.own.dk;rw[e]at g;have H:=CM g;subst H;obtain⟨N,L,E⟩:=Dv g;exact h.rows D I (.inr (.inr (.inl (by rw[e];rfl)))) E dC (λj G=>G.at_ v)
theorem AG.j7{c n:Int}{C:List (J×List MC)}{K:List MC}{r z gf:Nat}{k:List (J×List MC)}{l:List (MG×J)}(h:AG w u B p top t d c n X C K F v r z gf op a b c' q k l){m c3:Nat}(j:X.f=Z gf m c3)(g:F[top]?=some y):u ⟨gf,top*4+1,M⟩=some ↑y.1.at_/\u.frozen? ⟨gf,top*4+1,M⟩=false/\u ⟨gf,top*4+3,M⟩=some y.2:=by have e:=h.own.dk;rw[j]at e;have s:=CM e;subst s;have A:=(f7.1 g).1;refine⟨?_,e.frozenAt _,h.own.frm j g⟩;rw[e.cellAt (top*4+1) oM,BI BE 4 Ca F top 1 y g oM];rfl
theorem Xn(B e top:Nat)(t:Int)(d:Bool)(c n:Int)(X:VS)(C:List (J×List MC))(K:List MC)(F:List (MG×J))(k:J)(g j gf c3:Nat)(y:MG×J)(op a b c':Int)(w:Y)(z:B<= ↑w)(h:AB w B X C K F)(q:BC w e t d c n X k)(A: ↑F=top+1)(L:top<=1048576)(r:F[top]?=some y)(m:X.f=Z gf (top+1) c3):
 Ai Aq 109 #[.pointer e,An #[.pointer (some ⟨g,j,M⟩),.pointer (some ⟨gf,top*4,M⟩)],An #[op,a,b,c']] w (B4 w B e t d c n C K (F.set top ({y.1 with at_:=c'},y.2)) k X C F):=by
 have p:Ae (AG w (Ac (Ac w (Ak #[.pointer (some ⟨g,j,M⟩),.pointer (some ⟨gf,top*4,M⟩)] 143)) (Ak #[op,a,b,c'] 25)) B e top t d c n X C K F k g j gf op a b c' X C F):=AG.of g j gf op a b c' z h q;have H:Ae (AB w B X C K F/\ ↑F=top+1/\F[top]?=some y):=⟨h,A,r⟩
 clear h q r;go_enter func109,ntmps109;go_upto_region 1 with fail
 refine Av (λu=>Ae (AG w u B e top t d c n X C K F k g j gf op a b c' X C F)/\Ah w w u) ⟨p,Ar (Al _ _) lR (Al _ _)⟩ ?_
 rintro U ⟨l,E⟩;clear p;have f1:=l.fb.cell 1;have D:=l.ib.cell 3;simp only[lQ,lO,lS]at f1 D;obtain⟨G,I,_⟩:=l.j7 m H.2.2;have s:Ae (AG w (Aa U ⟨gf,top*4+1,M⟩ c') B e top t d c n X C K (F.set top ({y.1 with at_:=c'},y.2)) k g j gf op a b c' X C F):=l.jump m H.2.2 c';clear m;go_wp2_with fail;exact nR (v:=Ap #[]) kR rfl s.ia
theorem Nx(B l top:Nat)(t:Int)(d:Bool)(c n:Int)(X:VS)(C:List (J×List MC))(K:List MC)(F:List (MG×J))(p:J)(m r gf c3:Nat)(y:MG×J)(op a b c':Int)(w:Y)(hB:B<= ↑w)(h:AB w B X C K F)(R:BC w l t d c n X p)(hF: ↑F=top+1)(ax:top<=1048576)(S:F[top]?=some y)(D:X.f=Z gf (top+1) c3)(hK:K.length<=1048576)(q:Nat)(z:MC)(ha:a=q)(G:y.1.aB[q]?=some z)(aa:y.1.aB.length<=1048576):
 Ai Aq 97 #[.pointer l,An #[.pointer (some ⟨m,r,M⟩),.pointer (some ⟨gf,top*4,M⟩)],An #[op,a,b,c']] w (B4 w B l t d c n C (K++[z]) F p X C F):=by
 subst ha;have L:Ae (AG w (Ac (Ac w (Ak #[.pointer (some ⟨m,r,M⟩),.pointer (some ⟨gf,top*4,M⟩)] 143)) (Ak #[op,q,b,c'] 25)) B l top t d c n X C K F p m r gf op q b c' X C F):=AG.of m r gf op q b c' hB h R;have H:Ae (AB w B X C K F/\ ↑F=top+1/\F[top]?=some y):=⟨h,hF,S⟩
 clear h R S;go_enter func97,ntmps97;go_upto_region 1 with fail
 refine Av (λu=>Ae (AG w u B l top t d c n X C K F p m r gf op q b c' X C F)/\Ah w w u) ⟨L,Ar (Al _ _) lR (Al _ _)⟩ ?_
 rintro U ⟨g,bU⟩;clear L;have f1:=g.fb.cell 1;have I:=g.ib.cell 1;simp only[lQ,lO,lS]at f1 I;obtain⟨_,_,A⟩:=g.j7 D H.2.2;have E:(y.2,y.1.aB)∈C++[(X.k,K)]++Bh F:=by simp only[mA];exact .inr (lP (BA H.2.2))
 have ai:=(f7.1 G).1;rcases Bf (g.own.fg.own _ E)with⟨_,e⟩|⟨gl,cl,s⟩
 . simp only[]at e;omega
 simp only[]at s;obtain⟨T,V⟩:=g.own.jd E s G;rw[s]at A;have ae:(q:Int)<(y.1.aB:Int):=oM;generalize y.1.aB.length=nl at A ae aa;have j:=As U;have aq:=Au j f1;have aA:=Au j I;have au:=Au j A;have aE:=Au j T;have aF:=Au j V;have aj:Ae (X.f=Z gf (top+1) c3):=D;clear f1 I A T V D E s G ai;go_upto_region 1 with fail
 go_region_law (go_simp;go_at_call 150;refine(Dw B l t d c n X C K F p z _ (mC g.hB (g.av j).gv.size) (g.av j).own (g.av j).mb hK).mono ?_;rintro e u1 ⟨rfl,k',N,O,P,Q⟩;have W:Ae (AG w u1 B l top t d c n ⟨X.c,k',X.f⟩ C (K++[z]) F p m r gf op q b c' X C F):=(g.av j).push N O P Q;clear N O P Q);all_goals
  go_wp2_with fail;exact nR (v:=Ap #[]) kR rfl W.ia
end Go.Proofs.YtkgohaigebcgoaaGreatDoor
