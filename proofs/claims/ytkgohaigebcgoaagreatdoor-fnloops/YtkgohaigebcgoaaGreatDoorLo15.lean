import Derived.Test.YtkgohaigebcgoaaGreatDoorLo2
import Derived.Laws.IdiomCopy
import Derived.Test.YtkgohaigebcgoaaGreatDoorLo12
namespace Go.Proofs.YtkgohaigebcgoaaGreatDoor
open Go.ChangeShapes Go.WideShapes Go.ChangeAt Go.RowKit Go.Proofs.Tryz
set_option linter.unusedVariables false
open Option renaming some → K,none → M
open Go renaming Value → J,World → Y,TypeId → Aj,Calls → Ai
open Go.Value renaming int → Ag,agg → An,tuple → Ap,slice → Z
open Go.Obj renaming cells → Ak
open Go.Proofs.Tryz renaming prog → Aq
open Go.World renaming setCell → Aa,alloc → Ac,ownsRow → Ab
open Go.RowKit renaming Hid → Ae,Below → Ah
open Go.IntKind renaming i64 → Af
open Go.Ending renaming returned → Am
open List renaming flatMap → Ad
set_option maxHeartbeats 4000000
set_option maxRecDepth 100000
variable {v b a t v' op c':Int}{y:MG×J}{w u g q:Y}{d:Bool}{left:Lit->Bool}{c:Nat->List Int}{fs:List MF}{i B top j gf:Nat}{W:DataW Unit}{p:MP}{F:List (MG×J)}{s:J}{X:VS}
section
open Go.Extern.Stop Go.Stop Go.Extern
theorem rj(p:Addr)(w:Y):(ReflectliteValue.mk 114 p ReflectliteValue.flagAddr).run Aq w=.ok (An #[.pointer (K ⟨1,114,M⟩),.pointer (K p),Ag .u64 390]) w:=kR
theorem VK(a:Addr)(w:Y):(ReflectliteValue.parts (An #[.pointer (K ⟨1,114,M⟩),.pointer (K a),Ag .u64 390])).run Aq w=.ok (K (114,a,390)) w:=kR
theorem Yd(a:Addr)(w:Y):(ReflectliteValue.parts (An #[.pointer (K ⟨1,114,M⟩),.pointer (K a),Ag .u64 134])).run Aq w=.ok (K (114,a,134)) w:=kR
theorem WZ(w:Y):(Rtype.directlyAssignable 114 114).run Aq w=.ok true w:=kR
theorem ri(p:Addr)(w:Y):(ReflectliteValue.mk 116 p ReflectliteValue.flagAddr).run Aq w=.ok (An #[.pointer (K ⟨1,116,M⟩),.pointer (K p),Ag .u64 409]) w:=kR
theorem VJ(a:Addr)(w:Y):(ReflectliteValue.parts (An #[.pointer (K ⟨1,116,M⟩),.pointer (K a),Ag .u64 409])).run Aq w=.ok (K (116,a,409)) w:=kR
theorem Yc(a:Addr)(w:Y):(ReflectliteValue.parts (An #[.pointer (K ⟨1,116,M⟩),.pointer (K a),Ag .u64 153])).run Aq w=.ok (K (116,a,153)) w:=kR
theorem WY(w:Y):(Rtype.directlyAssignable 116 116).run Aq w=.ok true w:=kR
theorem pI(n:Int)(w:Y):(ReflectliteValue.unpack (.iface 114 n)).run Aq w=.ok (An #[.pointer (K ⟨1,114,M⟩),.pointer w,Ag .u64 134]) (Ac w (Ak #[n] 114)):=kR
theorem pH(x y z:J)(w:Y):(ReflectliteValue.unpack (.iface 116 (An #[x,y,z]))).run Aq w=.ok (An #[.pointer (K ⟨1,116,M⟩),.pointer w,Ag .u64 153]) (Ac w (Ak #[x,y,z] 116)):=kR
theorem Zf(a p:Addr)(W:Y)(b:W a=K (.pointer (K p))):
 (ReflectliteValue.method (ReflectliteValue.valueError "reflectlite.Value.Elem" 0) ReflectliteValue.elem #[An #[.pointer (K ⟨1,122,M⟩),.pointer (K a),Ag .u64 150]]).run Aq W=.ok (An #[.pointer (K ⟨1,114,M⟩),.pointer (K p),Ag .u64 390]) W:=by
 change Sem.run Aq (ReflectliteValue.parts (An #[.pointer (K ⟨1,122,M⟩),.pointer (K a),Ag .u64 150])>>=_) W=_;simp only[Sem.run_bind,TZ,Result.andThen];simp[ReflectliteValue.elem,loadVar,isAgg,underlying,underlying122,b,Result.andThen,Xj,rj]
theorem qy(a b:Addr)(n:Int)(e:J)(W:Y)(c:W b=K ↑n)(ht:W a=K e)(d:W.frozen? a=false):
 (ReflectliteValue.set #[An #[.pointer (K ⟨1,114,M⟩),.pointer (K a),Ag .u64 390],An #[.pointer (K ⟨1,114,M⟩),.pointer (K b),Ag .u64 134]]).run Aq W=.ok (Ap #[]) (W.setCell a n):=by
 change Sem.run Aq (ReflectliteValue.parts (An #[.pointer (K ⟨1,114,M⟩),.pointer (K a),Ag .u64 390])>>= λy=>ReflectliteValue.parts (An #[.pointer (K ⟨1,114,M⟩),.pointer (K b),Ag .u64 134])>>=_) W=_;simp only[Sem.run_bind,VK,Yd,Result.andThen];simp[ReflectliteValue.flagAddr,loadVar,isAgg,underlying,underlying114,c,Result.andThen,WZ,storeVar,Value.cells,storeCells,Addr.add];rw[run_store Aq W a _ _ (by rfl)];simp[ht,d]
theorem Ze(a p:Addr)(W:Y)(b:W a=K (.pointer (K p))):
 (ReflectliteValue.method (ReflectliteValue.valueError "reflectlite.Value.Elem" 0) ReflectliteValue.elem #[An #[.pointer (K ⟨1,123,M⟩),.pointer (K a),Ag .u64 150]]).run Aq W=.ok (An #[.pointer (K ⟨1,116,M⟩),.pointer (K p),Ag .u64 409]) W:=by
 change Sem.run Aq (ReflectliteValue.parts (An #[.pointer (K ⟨1,123,M⟩),.pointer (K a),Ag .u64 150])>>=_) W=_;simp only[Sem.run_bind,TY,Result.andThen];simp[ReflectliteValue.elem,loadVar,isAgg,underlying,underlying123,b,Result.andThen,Xi,ri]
theorem qx(c b:Nat)(g a:Int)(d:Aj)(z w x A:J)(W:Y)(k:W b=K ↑g)(l:W ⟨b,1,M⟩=K ↑a)(m:W ⟨b,2,M⟩=K (.iface d z))(s:W c=K w)(t:W ⟨c,1,M⟩=K x)(u:W ⟨c,2,M⟩=K A)(n:W.frozen? c=false)(p:W.frozen? ⟨c,1,M⟩=false)(q:W.frozen? ⟨c,2,M⟩=false):
 (ReflectliteValue.set #[An #[.pointer (K ⟨1,116,M⟩),.pointer c,Ag .u64 409],An #[.pointer (K ⟨1,116,M⟩),.pointer b,Ag .u64 153]]).run Aq W=.ok (Ap #[]) (Aa (Aa (W.setCell c g) ⟨c,1,M⟩ a) ⟨c,2,M⟩ (.iface d z)):=by
 have i:=run_loadCells_list (P:=Aq) W b [g,a,.iface d z] (λj v e=>by
  match j,e with
  |0,e=>cases e;exact k
  |1,e=>cases e;exact l
  |2,e=>cases e;exact m
  |j+3,e=>simp at e)
 have r:=run_storeCells_cells (P:=Aq) c 0 [g,a,.iface d z] 0 W (λj f=>by
  match j,f with
  |0,_=>rw[s];rfl
  |1,_=>rw[t];rfl
  |2,_=>rw[u];rfl
  |j+3,h=>simp only[lG,lH]at h;omega) (λj f=>by
  match j,f with
  |0,_=>exact n
  |1,_=>exact p
  |2,_=>exact q
  |j+3,h=>simp only[lG,lH]at h;omega) (by simp[Value.oneCell'])
 change Sem.run Aq (ReflectliteValue.parts (An #[.pointer (K ⟨1,116,M⟩),.pointer c,Ag .u64 409])>>= λy=>ReflectliteValue.parts (An #[.pointer (K ⟨1,116,M⟩),.pointer b,Ag .u64 153])>>=_) W=_;simp only[Sem.run_bind,VJ,Yc,Result.andThen];simp only[lG,lH,kT,Nat.reduceAdd]at i;simp[ReflectliteValue.flagAddr,loadVar,isAgg,underlying,underlying116,Result.andThen,WY,storeVar,Value.cells,i,r];rfl
end
theorem pk{I:List Nat}{k y:Nat}:(nv I).set k y=nv (I.set k y):=by unfold nv;rw[List.map_set]
structure Bx(w u0 u:Y)(G:Nat)(x:GV)(X hd:Nat)(vb vk:J):Prop where
 eP:Ay u X #[hd,vb,vk] 65
 lo: ↑w<=X
 up: ↑u0<=X
 fr:∀b,b< ↑u0->b≠G->b≠x.gi->b≠x.gc->u.heap[b]?=u0.heap[b]?
def CA:J->Option (DataW Unit×List MemPlace)
 |.map (K b)=>K (.lit (.int Af (b:Int)),[])
 |_=>M
theorem FR{v:J}{y:DataW Unit×List MemPlace}(h:CA v=K y):∃b:Nat,v=.map (K b)/\y=(.lit (.int Af (b:Int)),[]):=by
 cases v with
 | map o=>
   cases o with
   |none=>cases h
   |some b=>exact⟨b,rfl,(jM h).symm⟩
 |_=>cases h
theorem IQ{H:Type}(f:Lit×DataW H->Bool):∀l:List (Lit×DataW H),(l.foldr DataW.insert []).any f=l.any f
 |[]=>rfl
 |x::r=>by rw[List.foldr_cons,Go.Maps.any_insert,IQ f r,List.any_cons]
theorem V8{b d:Nat}{D:DataW Unit}(h:AP w b d D):Go.Maps.size D=0↔∀z,Go.Maps.has D (.int Af z)=false:=by
 obtain⟨a,j,k,f,l,rfl⟩:=h;rw[Go.Maps.size_eq,Go.length_read];constructor
 . intro e z;rw[Go.Maps.has_eq,IQ];have:a.toList=[]:=jR (by simpa using e);rw[this];rfl
 intro g;cases hl:a.toList with
 | nil=>(have:a.toList.length=0:=by rw[hl];rfl);simpa using this
 | cons x r=>obtain⟨y,c⟩:=f.reads x (by rw[hl];simp);obtain⟨z,_,i,_⟩:=Go.Maps.keyOf_int_inv underlying2 (Go.WideElems.rd_key c);have:=g z;rw[Go.Maps.has_eq,IQ,hl,lM,List.any_cons]at this;rw[Go.WideElems.rg_of c]at this;simp only[i,DT,decide_true,Bool.true_or]at this;cases this
def GK(D W:DataW Unit)(left:Lit->Bool)(E:Int->Bool):Prop:=∀z:Int,Go.Maps.has D (.int Af z)=(Go.Maps.has W (.int Af z)&& !left (.int Af z)&&E z)
theorem GK.fk{D W:DataW Unit}{E:Int->Bool}{x:Int}(h:GK D W left E)(c:Go.Maps.IsMap D)(b:Go.Maps.has W (.int Af x)=true)(a:E x=true):GK (D.put (.int Af x) (.agg [])) W (λz=>left z&& !z.sameKey (.int Af x)) E:=by
 intro z;rw[Me D c,h z];simp only[DT];by_cases e:z=x
 . subst e;simp[b,a]
 simp[e,Ne.symm e]
theorem GK.no{D W:DataW Unit}{E:Int->Bool}{x:Int}(h:GK D W left E)(a:E x=false):GK D W (λz=>left z&& !z.sameKey (.int Af x)) E:=by
 intro z;rw[h z];simp only[DT];by_cases e:z=x
 . subst e;simp[a]
 simp[e]
theorem Rx(k n:Nat)(W:DataW Unit)(E:Int->Bool)(w:Y)(aZ:n<=1048576)(h:w.ownsMap Aq 2 CA k n W)(aH:∀(z:Int) (c:Nat),(∀zd,W.atKey (.int Af z) zd=.lit (.int Af (c:Int)))->∃l D,l<=1048576/\AP w c l D/\(Go.Maps.size D=0↔E z=true)):
 Ai Aq 126 #[.map (K k)] w λe w'=>∃(g cap:Nat) (a:List Int),e=Am (Z g a cap)/\Ab w' w 2 1 (Z g a cap) a (Ad As a)/\a.Pairwise (· < ·)/\(∀z,z∈a↔Fb z/\Go.Maps.has W (.int Af z)=true/\E z=true)/\Ah w w w':=by
 have aX:=h.lt;have HS:=Aw aH;clear aH;have bq:= @run_makeMap Aq;have au:=h.alloc (.map #[] 0);have T:AP (Ac w (.map #[] 0)) w 0 (.map []):=World.ownsMap_made _ _ _ _;have R:(Ac w (.map #[] 0)).heap.size= ↑w+1:=sP
 go_enter func126,ntmps126;go_wp2_with (first
  |(at_range;refine wpList_range_own _ rfl _ 205 rfl 2 164 Fe underlying205 _ k n _ rfl au ?_;intro w0 ax L aR)
  |go_in)
 go_frame;have S:=Aw (fd (World.ownsMap.kept T L sP) (((Al w (.map #[] 0)).grown L (Al _ _).size (λj p=>by cases p)):Ah w w w0));have bt:=h.size_le;clear L aR T au;generalize aW:(Ac w (.map #[] 0)).heap.size=C at ax R⊢;clear aW;have G:=Aw R;clear R;go_loopw [4] (λ_ wr=>∃(left:Lit->Bool) (l f:Nat) (D:DataW Unit),wr.ranges Aq 2 CA k C n W left l/\f+l<=Go.Maps.size W/\AP wr w f D/\GK D W left E/\Ah w w wr) (λ_ wr=>wr.rangeLeft k C)
 case atStart=>exact⟨_,_,0,.map [],ax,sP,S.1, λz=>by cases hh:Go.Maps.has W (.int Af z)<;>rfl,S.2⟩
 obtain⟨left,l,f,D,A,bf,r,u,q⟩:=hrel;go_wp2_with (first
  |(at_next;refine wpList_next_ranges _ rfl _ rfl 2 Fe CA (Value.int Af) (λ(c:Nat)=>Value.map (K c)) (λbu kl hk=>by obtain⟨x,Q,_⟩:=Go.Maps.keyOf_int_inv underlying2 hk;exact⟨x,Q⟩) (λv y P=>by obtain⟨c,rfl,_⟩:=FR P;exact⟨c,rfl⟩) k C n _ _ _ rfl A ?_ ?_)
  |go_in)
 . intro aY aO;have s:=Aw (fd r (fd u q));clear r u q A;go_wp2_with fail;refine(Ja w f D _ oM s.1).mono ?_;rintro e u9 ⟨g9,V,a,rfl,aJ,aI,aq,U⟩;have t:Ae (Ab u9 w 2 1 (Z g9 a V) a (Ad As a)/\a.Pairwise (· < ·)/\(∀z,z∈a↔Fb z/\Go.Maps.has W (.int Af z)=true/\E z=true)/\Ah w w u9):=by refine⟨Bt aJ s.2.2.size,aI, λz=> ?_,Ar s.2.2 lR U⟩;rw[aq,s.2.1 z,aO];simp
   clear aJ aI aq U;go_wp2;go_ret;exact⟨g9,V,a,rfl,t.1,t.2.1,t.2.2.1,t.2.2.2⟩
 intro x c kl y ps d X aM bj P aa B aj ai aS bi;obtain⟨x',ex,rfl,aT⟩:=Go.Maps.keyOf_int_inv underlying2 aM;obtain rfl:x=x':=by cases ex;rfl
 obtain⟨c',ec,ey⟩:=FR P;obtain⟨rfl,rfl⟩:=Prod.mk.inj ey;clear ey;obtain rfl:c=c':=by cases ec;rfl
 obtain⟨cs,F,bg,aE,ae⟩:=HS.o x c aa;have O:Ah w w d:=q.grown ai q.size (λj p=>by cases p;have:=G.o;omega);have aG:AP d w f D:=World.ownsMap.kept r ai (by have:=G.o;simp;omega);have aF:AP d c cs F:=aE.av O;have N:=aF;unfold AP at N;clear aS;have aQ:¬C=w.heap.size:=by have:=G.o;omega
 have b:=Aw (fd aG (fd O (fd u (fd (lU r) (fd A.left_eq (Go.Maps.has_true_of_atKey aa))))));clear aG O u r A q aE aF;by_cases I:Go.Maps.size F=0
 . have i:Ae ((Ac d (Ak #[x] 2)) d=K ↑x/\AP (Ac d (Ak #[x] 2)) w f D/\Ah w w (Ac d (Ak #[x] 2))/\¬(d:Nat)= ↑w/\¬k= ↑w/\E x=true):=⟨(Ay.new d #[x] 2).cell 0,b.1.av (Al _ _),Ar b.2.1 lR (Al _ _),by have:=lg b.1;omega,oM,ae.1 I⟩
   have aA:=B.alloc (Ak #[x] 2);have aK:=Aw aA;clear aA B;go_wp2_with (first
    |(at_len;refine wpList_len_own _ rfl _ 164 rfl 2 89 underlying164 _ c cs _ rfl N ?_;rw[I])
    |fail)
   refine(Dh w f d 1 D x _ aT oM i.1 i.2.2.2.1 i.2.1).mono ?_;rintro e u4 ⟨rfl,s4,H⟩;have m:=Aw (fd (World.ranges.kept aK H (by simp;exact i.2.2.2.2.1) (by simp;exact aQ)) (fd s4 (fd (b.2.2.1.fk b.2.2.2.1 b.2.2.2.2.2 i.2.2.2.2.2) (i.2.2.1.grown H i.2.2.1.size (λj p=>by cases p;exact Nat.le_refl _)))));clear s4 H;go_wp2;go_roundw;(case rel=>exact⟨_,X,f+1,_,m.1,oM,m.2.1,m.2.2.1,m.2.2.2⟩);rw[m.1.left_eq,b.2.2.2.2.1];exact aj
 have br:((Go.Maps.size F:Nat):Int)≠0:=oM;have hE:E x=false:=by cases Q:E x with
  |false=>rfl
  |true=>exact absurd (ae.2 Q) I
 go_wp2_with (first
  |(at_len;refine wpList_len_own _ rfl _ 164 rfl 2 89 underlying164 _ c cs _ rfl N ?_)
  |go_in)
 go_roundw;case rel=>exact⟨_,X,f,D,B,oM,b.1,b.2.2.1.no hE,b.2.1⟩
 rw[B.left_eq,b.2.2.2.2.1];exact aj
def ot(w:Y)(B g:Nat)(t:Int)(d:Bool)(c n:Int)(X:VS)(C:List (J×List MC))(K:List MC)(F:List (MG×J))(h:J)(z:MC)(e:Ending)(b:Y):Prop:=e=Am (An #[z.type,Ag .u32 z.word])/\∃a,BF b g t d c n ⟨X.c,a,X.f⟩ h/\AB b B ⟨X.c,a,X.f⟩ C K F/\Bp (λj=>j=g) w b/\a.ownBlock=X.k.ownBlock
theorem C6(B a:Nat)(t:Int)(d:Bool)(c n:Int)(X:VS)(C:List (J×List MC))(K:List MC)(F:List (MG×J))(i:J)(z:MC)(w:Y)(U:B<= ↑w)(h:AB w B X C (K++[z]) F)(s:BF w a t d c n X i)(hK:K.length<=1048576):
 Ai Aq 151 #[.pointer a] w (ot w B a t d c n X C K F i z):=by
 obtain⟨b,x2,x3⟩:=X;have p:=h.eT.own (x2,K++[z]) sP;simp only[]at p;rcases Bi p with⟨_,e⟩|⟨gk,ck,e⟩
 . simp at e
 subst e;have G:=Gx p;rw[jI]at G p;simp only[lG,lH,kT]at G p;have Q:Ae (∀u,AB u B ⟨b,Z gk (K.length+1) ck,x3⟩ C (K++[z]) F->u ⟨gk,K.length*2,M⟩=some ↑z.type/\u ⟨gk,K.length*2+1,M⟩=some (Ag .u32 z.word)):= λu hu=>hu.fG (r:=(Z gk (K.length+1) ck,K++[z])) sP rfl sP
 have L:(K++[z]).length= ↑K+1:=sP
 rw[L]at s h⊢;have H:Ae (AB w B ⟨b,Z gk (K.length+1) ck,x3⟩ C (K++[z]) F):=h;have HM:Ae (BF w a t d c n ⟨b,Z gk (K.length+1) ck,x3⟩ i):=s;have ai:=s.lt;clear h s p L;generalize I:K.length=kl at*;have A:Ae (↑K=kl):=I
 clear I;have ae:(kl:Int)<=(ck:Int):=oM;have y:Ae (BF (Ac w (Ak #[Ag Af 0,Ag .u32 0] 193)) a t d c n ⟨b,Z gk (kl+1) ck,x3⟩ i/\AB (Ac w (Ak #[Ag Af 0,Ag .u32 0] 193)) B ⟨b,Z gk (kl+1) ck,x3⟩ C (K++[z]) F/\Ay (Ac w (Ak #[Ag Af 0,Ag .u32 0] 193)) w #[Ag Af 0,Ag .u32 0] 193/\Ah w w (Ac w (Ak #[Ag Af 0,Ag .u32 0] 193))):=⟨HM.av (Al _ _),H.grow (Al _ _),Ay.new _ _ _,Al _ _⟩
 go_enter func151,ntmps151;go_upto_region 1 with fail
 refine Av (λu=>Ae (BF u a t d c n ⟨b,Z gk (kl+1) ck,x3⟩ i/\AB u B ⟨b,Z gk (kl+1) ck,x3⟩ C (K++[z]) F/\Ay u w #[Ag Af 0,Ag .u32 0] 193/\Ah w w u)) y ?_
 rintro g E1;clear y;have q:=E1.1.at.2.2.2.2.2.1;obtain⟨z0,z1⟩:=Q.o g E1.2.1;simp only[]at q;have k:Ae ((BF (Ac g (Ak #[z.type,Ag .u32 z.word] 193)) a t d c n ⟨b,Z gk (kl+1) ck,x3⟩ i/\AB (Ac g (Ak #[z.type,Ag .u32 z.word] 193)) B ⟨b,Z gk (kl+1) ck,x3⟩ C (K++[z]) F/\Ay (Ac g (Ak #[z.type,Ag .u32 z.word] 193)) w #[Ag Af 0,Ag .u32 0] 193/\Ah w w (Ac g (Ak #[z.type,Ag .u32 z.word] 193)))/\Ay (Ac g (Ak #[z.type,Ag .u32 z.word] 193)) g #[z.type,Ag .u32 z.word] 193):=⟨⟨E1.1.av (Al _ _),E1.2.1.grow (Al _ _),E1.2.2.1.av (Al _ _),Ar E1.2.2.2 lR (Al _ _)⟩,Ay.new _ _ _⟩
 have V:(w:Nat)<g.heap.size:=E1.2.2.1.lt;go_upto_region 3 with fail
 clear q z0 z1 E1;generalize g.heap.size=x at k V⊢;refine Av (λu=>Ae ((BF u a t d c n ⟨b,Z gk (kl+1) ck,x3⟩ i/\AB u B ⟨b,Z gk (kl+1) ck,x3⟩ C (K++[z]) F/\Ay u w #[Ag Af 0,Ag .u32 0] 193/\Ah w w u)/\Ay u x #[z.type,Ag .u32 z.word] 193)) k ?_
 rintro l E1;clear k;clear g;have q:=E1.1.1.at.2.2.2.2.2.1;have mz:=E1.1.1.frozen 5;simp only[]at q;have k:Ae (BF (Aa l ⟨a,5,M⟩ (Z gk kl ck)) a t d c n ⟨b,Z gk kl ck,x3⟩ i/\AB (Aa l ⟨a,5,M⟩ (Z gk kl ck)) B ⟨b,Z gk kl ck,x3⟩ C K F/\Ay (Aa l ⟨a,5,M⟩ (Z gk kl ck)) w #[Ag Af 0,Ag .u32 0] 193/\Ay (Aa l ⟨a,5,M⟩ (Z gk kl ck)) x #[z.type,Ag .u32 z.word] 193/\Bp (λj=>j=a) w (Aa l ⟨a,5,M⟩ (Z gk kl ck))):=by
  have E:=E1.1.2.1.gU (jN U E1.1.2.2.2.size) (m:=kl) rfl (by rw[jI,A];exact Nat.le_add_right _ _);have T:(K++[z]).take kl=K:=by rw[<-A];exact List.take_left
  rw[T]at E;obtain⟨aa,W,_⟩:=E1.1.1.eP;exact⟨E1.1.1.iO _,E.other W dC dC dC 5 _,E1.1.2.2.1.other oS _,E1.2.other oS _,Bp.setCell (R:= λj=>j=a) (Bp.of E1.1.2.2.2) (.inl rfl) _⟩
 go_upto_region 4 with fail
 clear q mz E1;refine Av (λu=>Ae (BF u a t d c n ⟨b,Z gk kl ck,x3⟩ i/\AB u B ⟨b,Z gk kl ck,x3⟩ C K F/\Ay u w #[Ag Af 0,Ag .u32 0] 193/\Ay u x #[z.type,Ag .u32 z.word] 193/\Bp (λj=>j=a) w u)) k ?_
 rintro U2 f;clear k;clear l;have v0:=f.2.2.2.1.cell 0;have v1:=f.2.2.2.1.cell 1;have r0:=f.2.2.1.cell 0;have r1:=f.2.2.1.cell 1;have aj:=f.2.2.1.frozen 0;have aq:=f.2.2.1.frozen 1;simp only[i5,f8,i6]at v0 v1 r0 r1;go_wp2_with fail;have S:=f.2.2.1.set 0 z.type;have D:=S.set 1 (Ag .u32 z.word);have O:=D.cell 0;have P:=D.cell 1;simp only[kB,kX,kU,i5,f8,i6]at O P;refine kA (v:=An #[z.type,Ag .u32 z.word]) (by simp[results,results151,go_sem,O,P]) rfl ⟨rfl,Z gk kl ck,(f.1.other oS _).other oS _,?_,(f.2.2.2.2.setCell (.inr oS) _).setCell (.inr oS) _,rfl⟩;have N:¬Dt ⟨b,Z gk kl ck,x3⟩ C F w:= λe=>by have:=(H.ltOf (e.stack (s':=Z gk (kl+1) ck) rfl)).2;omega
 exact(f.2.1.gY N _).gY N _
structure Gd(r:Ee)(E:Nat->List Nat)(n:Nat)(O:List Nat)(D L:Nat->Nat->Bool):Prop where
 eE:E=nx r.aC
 nn:n= ↑r.aC
 fl:Iq E n (Ea O) D
 ord:r.dr=ints O.reverse
 oa:∀b,b<n->∃j:Nat,O.reverse[j]?=K b
 il:∀h y,L h y=true↔AU E D n h y
 cv:r.cv=BA E D L n n
 nd:O.Nodup
 om:∀x,x∈O↔x<n
def Nz(E:Nat->List Nat)(D L:Nat->Nat->Bool)(n h:Nat):ML:=⟨(h:Int),ints (AO E D n h),ints ((List.range n).filter (L h))⟩
theorem Bl.gd{xs:List MI}{r:Ee}(h:Bl xs r)(a:r.aU=0):∃O D L,Gd r (nx r.aC) r.aC O D L:=by
 cases h with
 |none _=>cases a
 |off _ _ _=>cases a
 |lost _ _ _ _ _ _ _ _=>cases a
 |two _ _ _ _ _ _ _ _=>cases a
 | @good x S O D L I g x1 o1 v1 s1 d1 b1 i1 l1=>
   obtain⟨d,l,_,i,_⟩:=DR (GR g) (Mv g) v1 s1;refine⟨O,D,L,rfl,rfl,⟨d,d1, λb f t ht k=> ?_, λy n=> ?_⟩,rfl, λb f=> ?_,l1,rfl,l,i⟩
   . by_cases e:D t b=true
     . exact(d1 t b).1 e
     exact absurd ⟨k,e⟩ (b1 b f t ht)
   . (suffices ∀m y,Ea O y<=m->y<(AQ xs).length->ES (nx (AQ xs)) (λ_=>True) 0 y from this _ y lR n);intro m;induction m with
     | zero=>
       intro y j c;by_cases e:y=0
       . subst e;exact .here trivial
       have:=d.cz y c e;omega
     | succ m p=>
       intro y j c;by_cases e:y=0
       . subst e;exact .here trivial
       obtain⟨q,s,u,v⟩:=d.par y c e;exact .step (p q oM s) u trivial
   exact⟨_,H9 ((i b).2 f)⟩
section
variable {r:Ee} {E:Nat->List Nat} {n:Nat} {O:List Nat} {D L:Nat->Nat->Bool} {sl:List ML} {k h:Nat} {l:ML}
theorem Gd.mem(g:Gd r E n O D L):l∈r.cv↔∃h,h<n/\AO E D n h≠[]/\l=Nz E D L n h:=by
 rw[g.cv];unfold BA;rw[List.mem_filterMap];constructor
 . rintro⟨h,b,a⟩;by_cases e:AO E D n h=[]
   . rw[jP e]at a;cases a
   rw[jH e]at a;(cases a);exact⟨h,k6.1 b,e,rfl⟩
 rintro⟨h,b,a,rfl⟩;exact⟨h,k6.2 b,by rw[jH a];rfl⟩
theorem Gd.jE(g:Gd r E n O D L):r.cv.Pairwise λa b=>a.head<b.head:=by
 rw[g.cv];unfold BA;rw[List.pairwise_filterMap];refine mT.imp ?_;intro a b h x c y d;by_cases e:AO E D n a=[]
 . rw[jP e]at c;cases c
 by_cases f:AO E D n b=[]
 . rw[jP f]at d;cases d
 rw[jH e]at c;rw[jH f]at d;cases c
 cases d
 show(a:Int)<(b:Int);omega
theorem LG(g:Iq E n (Ea O) D)(c:AO E D n h≠[]):h<n:=by obtain⟨p,d⟩:=List.exists_mem_of_ne_nil _ c;obtain⟨a,b,_⟩:=(DN _ _ _ _ _).1 d;exact g.P.fQ p a h b
def hN(l:ML):Nat:=l.head.toNat
theorem Oa:hN (Nz E D L n h)=h:=by unfold hN Nz;exact i9 h
theorem Px:(Nz E D L n h).aC.length=((List.range n).filter (L h)).length:=by simp[Nz,ints]
theorem Gd.j9(g:Gd r E n O D L)(u:sl.Perm r.cv)(v:sl.Pairwise K4)(b:sl[k]?=K (Nz E D L n h))(y:AO E D n h≠[]):Wn E n D L (λx=>x∈(sl.take k).map hN) h where
 lt:=LG g.fl y
 il:=g.il
 s1 x hx hl:=by
  have z:Nz E D L n x∈sl:=u.symm.subset (g.mem.2 ⟨x,LG g.fl hx,hx,rfl⟩);obtain⟨j,a⟩:=kq z;obtain⟨p,l⟩:=f7.1 a;obtain⟨s,m⟩:=f7.1 b;rw[<-Px (E:=E) (D:=D),<-Px (E:=E) (D:=D)]at hl;have d:j<k:=by
   rcases Nat.lt_trichotomy j k with c|c|c
   . exact c
   . subst c;rw[a]at b;simp only[jJ]at b;rw[b]at hl;exact absurd hl (Nat.lt_irrefl _)
   have:=(lW.1 v) k j s p c;rw[l,m]at this;rcases this with q|⟨q,_⟩<;>omega
  refine kI.2 ⟨Nz E D L n x,?_,Oa⟩;exact hC (i:=j) (by rw[m9 d];exact a)
 s2 x hx:=by
  obtain⟨C,A,w⟩:=kI.1 hx;obtain⟨j,a⟩:=kq A;have d:j<k:=by have:=(f7.1 a).1;simp at this;omega
  rw[m9 d]at a;obtain⟨p,l⟩:=f7.1 a;obtain⟨s,m⟩:=f7.1 b;have f:=(lW.1 v) j k p s d;rw[l,m]at f;obtain⟨B,_,_,t⟩:=g.mem.1 (u.subset (hC a));rw[t,Oa]at w;subst w;rw[t]at f;refine⟨λe=>by subst e;exact K4.irr _ f,?_⟩;rw[<-Px (E:=E) (D:=D),<-Px (E:=E) (D:=D)];rcases f with q|⟨q,_⟩<;>omega
theorem Na.iff{a b:Nat->Prop}{c:Nat->Nat}(s:Na E n D a c)(d:∀x,b x↔a x):Na E n D b c:=by
 have:b=a:=funext λx=>propext (d x)
 rw[this];exact s
theorem Gd.step(g:Gd r E n O D L)(e:sl.Perm r.cv)(f:sl.Pairwise K4)(c:sl[k]?=K (Nz E D L n h))(d:AO E D n h≠[]){a:Nat->Nat}(s:Na E n D (λx=>x∈(sl.take k).map hN) a):Na E n D (λx=>x∈(sl.take (k+1)).map hN) (λb=>if L h b then h else a b):=(Wn.step g.fl s (g.j9 e f c d)).iff λx=>by rw[List.take_add_one,c,k8,jL];simp only[Option.toList,lM,List.map_nil,jK,jO,kM,Oa]
theorem Na.iP:Na E n D (λx=>x∈(sl.take 0).map hN) (jf (List.range n)):=by refine⟨λb c=>.inl ⟨?_, λx a=>by simp at a⟩, λx a=>by simp at a⟩;exact nT (m8 c)
theorem Gd.fh(g:Gd r E n O D L)(a:h<n):Js (λj=>decide (j∈(Nz E D L n h).aC.map Int.toNat)) n= λb=>L h b=true:=by
 funext b
 apply propext;unfold Js;simp only[lC,Nz,ints,mJ,kI,lY,k6,Function.comp,i9,exists_eq_right];constructor
 . exact λh=>h.2.2
 exact λh=>⟨g.fl.fv a ((g.il _ _).1 h),g.fl.fv a ((g.il _ _).1 h),h⟩
theorem Gd.inK(g:Gd r E n O D L)(a:h<n)(b:Nat):b∈(Nz E D L n h).aC.map Int.toNat↔L h b=true:=by simp only[Nz,ints,mJ,kI,lY,k6,Function.comp,i9,exists_eq_right];exact⟨λh=>h.2, λh=>⟨g.fl.fv a ((g.il _ _).1 h),h⟩⟩
theorem Gd.inB(b:Nat):(b:Int)∈(Nz E D L n h).back↔b∈AO E D n h:=by simp only[Nz,ints,kI];exact⟨λ⟨a,c,d⟩=>(show a=b from oM)▸c, λh=>⟨b,h,rfl⟩⟩
theorem Gd.bk(g:Gd r E n O D L)(b:Nat)(a:b∈AO E D n h):L h b=true:=by
 refine(g.il _ _).2 ?_;by_cases e:b=h
 . exact .inl e
 exact .inr ⟨b,a,.here e⟩
end
def Ey(fs:List MF)(b:List Int)(i:Nat)(z:Int):Bool:=match fs[i]? with|some f=>(f.aU.any λx=>decide (x.op=28)&&decide (x.a=z))&& !b.contains z|none=>false
def I9(fs:List MF)(b:List Int)(z:Int):Bool:=match fs[z.toNat]? with|some f=>(DE f).all λa=>b.contains a|none=>false
theorem VU{d:List Int}(k:i< ↑fs):(∀z,Ey fs d i z=false)↔I9 fs d (i:Int)=true:=by
 unfold Ey I9;rw[i9,an k];simp only[lX];constructor
 . intro h a e;unfold DE at e;obtain⟨x,c,rfl⟩:=kI.1 e;obtain⟨f,g⟩:=lY.1 c;have:=h x.a;have j:(fs[i].aU.any λy=>decide (y.op=28)&&decide (y.a=x.a))=true:=List.any_eq_true.2 ⟨x,f,by simpa using g⟩;rw[j]at this;simpa using this
 intro h z;cases hz:d.contains z with
 |true=>simp
 | false=>simp only[Bool.not_false,Bool.and_true];rw[List.any_eq_false];intro x c b;simp only[ky,lC]at b;have:=h x.a (kI.2 ⟨x,lY.2 ⟨c,by simpa using b.1⟩,rfl⟩);rw[b.2,hz]at this;cases this
theorem ZY{a:List Int}:Es fs a i=(!a.contains (i:Int)&&I9 fs a (i:Int)):=by unfold Es I9;rw[i9];rfl
structure Dp(u:Y)(fs:List MF)(base mb k:Nat)(Bk:Nat->Nat)(live:Nat->Bool)(dn:Nat->List Int):Prop where
 set:∀i,i<k->live i=true->∃cn D,cn<=1048576/\AP u (Bk i) cn D/\∀z,Go.Maps.has D (.int Af z)=Ey fs (dn i) i z
 inj:∀i j,i<k->j<k->Bk i=Bk j->i=j
 ne:∀i,i<k->base<=Bk i/\Bk i≠mb
structure DL(u:Y)(mb cnt k:Nat)(Bk:Nat->Nat)(zs:List Int)(W:DataW Unit):Prop where
 own:u.ownsMap Aq 2 CA mb cnt W
 has:∀z,Go.Maps.has W (.int Af z)=(decide (0<=z/\z<(k:Int))&& !zs.contains z)
 at_:∀i,i<k->zs.contains (i:Int)=false->∀zd,W.atKey (.int Af (i:Int)) zd=.lit (.int Af (Bk i:Int))
 size:Go.Maps.size W+zs.length=k
theorem rg(z:Int):WideAt.IsKeyLit (Lit.int Af z):=trivial
theorem DL.start{a:Nat}{b:Nat->Nat}(h:u.ownsMap Aq 2 CA a 0 (.map [])):DL u a 0 0 b [] (.map []):=⟨h, λz=>by
 have:¬(0<=z/\z<((0:Nat):Int)):=oM
 simp only[this,decide_false,Bool.false_and];rfl, λi c=>absurd c (Nat.not_lt_zero _),rfl⟩
theorem Dp.start{base e:Nat}{b:Nat->Nat}{d:Nat->Bool}:Dp u fs base e 0 b d c:=⟨λi a=>absurd a (Nat.not_lt_zero _), λi j a=>absurd a (Nat.not_lt_zero _), λi a=>absurd a (Nat.not_lt_zero _)⟩
theorem DL.put{a k c:Nat}{b:Nat->Nat}(h:DL u a k k b [] W)(j:g.ownsMap Aq 2 CA a (k+1) (W.put (.int Af (k:Int)) (.lit (.int Af (c:Int))))):DL g a (k+1) (k+1) (λi=>if i=k then c else b i) [] (W.put (.int Af (k:Int)) (.lit (.int Af (c:Int)))):=by
 refine⟨j, λz=> ?_, λi l _ m=> ?_,?_⟩
 . rw[Me W (lU h.own),h.has z];simp only[List.contains_nil,Bool.not_false,Bool.and_true];by_cases e:(k:Int)=z
   . subst e;have:(0<=(k:Int)/\(k:Int)<((k+1:Nat):Int)):=oM
     simp only[this,decide_true,Bool.or_true,and_self]
   by_cases d:0<=z/\z<(k:Int)
   . have:(0<=z/\z<((k+1:Nat):Int)):=oM
     simp only[d,this,decide_true,Bool.true_or,and_self]
   have:¬(0<=z/\z<((k+1:Nat):Int)):=oM
   simp only[d,this,e,decide_false,Bool.or_false]
 . by_cases e:i=k
   . subst e;rw[Go.Maps.atKey_put_same (lU h.own) (rg _)];simp
   rw[Go.Maps.atKey_put_other (λq=>e (by injection q with _ q;omega)),h.at_ i oM rfl];simp[e]
 rw[Go.Maps.size_put (World.ownsMap.tidy h.own Fe),h.has];have:¬(0<=(k:Int)/\(k:Int)<(k:Int)):=oM
 have f:=h.size;simp only[this,decide_false,Bool.false_and,lH,jV]at f⊢;simp[f]
theorem Dp.put{u m:Y}{base l k c:Nat}{b:Nat->Nat}{q:Nat->Bool}{f:Nat->List Int}(h:Dp u fs base l k b q f)(w:∀i,i<k->∀a D,AP u (b i) a D->AP m (b i) a D)(p:∀i,i<k->b i≠c)(v:base<=c/\c≠l)(y:∃a D,a<=1048576/\AP m c a D/\∀z,Go.Maps.has D (.int Af z)=Ey fs (f k) k z):Dp m fs base l (k+1) (λi=>if i=k then c else b i) q f:=by
 refine⟨λi n x=> ?_, λi j n A e=> ?_, λi n=> ?_⟩
 . by_cases e:i=k
   . subst e;simpa using y
   obtain⟨a,D,r,s,t⟩:=h.set i oM x;simp only[e,if_false];exact⟨a,D,r,w i oM _ _ s,t⟩
 . by_cases g:i=k
   . by_cases d:j=k
     . omega
     simp only[g,d,if_true,if_false]at e;exact absurd e.symm (p j oM)
   by_cases d:j=k
   . simp only[g,d,if_true,if_false]at e;exact absurd e (p i oM)
   simp only[g,d,if_false]at e;exact h.inj i j oM oM e
 by_cases e:i=k
 . simpa[e]using v
 simpa[e]using h.ne i oM
theorem Dp.kept{base f k:Nat}{a:Nat->Nat}{e:Nat->Bool}(h:Dp u fs base f k a e c)(n:∀i,i<k->∀b D,AP u (a i) b D->AP g (a i) b D):Dp g fs base f k a e c:=⟨λi d p=>by obtain⟨b,D,j,l,m⟩:=h.set i d p;exact⟨b,D,j,n i d _ _ l,m⟩,h.inj,h.ne⟩
theorem Tm{base p r:Nat}{d:Nat->Nat}{b:List Int}(h:Dp u fs base p fs d (λi=> !b.contains (i:Int)) (λ_=>b))(n:DL u p r fs d b W)(z:Int)(c:Nat)(m:∀t,W.atKey (.int Af z) t=.lit (.int Af (c:Int))):∃a D,a<=1048576/\AP u c a D/\(Go.Maps.size D=0↔I9 fs b z=true):=by
 have f:=Go.Maps.has_true_of_atKey m;rw[n.has]at f;simp only[ky,lC]at f;obtain⟨⟨v,w⟩,j⟩:=f;obtain⟨i,rfl⟩:∃i:Nat,z=(i:Int):=⟨z.toNat,oM⟩;have g:i<fs.length:=oM;have e:=(m (.agg [])).symm.trans (n.at_ i g (by simpa using j) (.agg []));obtain rfl:c=d i:=by
  injection e with e
  injection e with _ e
  omega
 obtain⟨a,D,s,k,l⟩:=h.set i g j;refine⟨a,D,s,k,?_⟩;rw[V8 k,<-VU g];exact⟨λq y=>by rw[<-l];exact q y, λq y=>by rw[l];exact q y⟩
theorem Je{z:Int}(a:0<=z)(b:z<1048576):Fb z:=by simp[Fb,Lit.wf,IntKind.min,IntKind.max,IntKind.signed,IntKind.bits];omega
theorem Ry{a rs:List Int}(m:fs.length<=1048576)(f:∀z,Go.Maps.has W (.int Af z)=(decide (0<=z/\z<(fs:Int))&& !a.contains z))(l:rs.Pairwise (· < ·))(h:∀z,z∈rs↔Fb z/\Go.Maps.has W (.int Af z)=true/\I9 fs a z=true):(rs=[]/\Gc fs a=M)\/∃(q:Nat) (r:List Int),rs=(q:Int)::r/\q< ↑fs/\a.contains (q:Int)=false/\Gc fs a=K q:=by
 have c:∀i:Nat,i< ↑fs->(Es fs a i=true↔(i:Int)∈rs):= λi b=>by
  rw[h,f,ZY];have k:(0<=(i:Int)/\(i:Int)<(fs:Int)):=oM
  simp only[k,decide_true,Bool.true_and,ky,and_self];exact⟨λq=>⟨Je oM oM,q⟩, λq=>q.2⟩
 cases rs with
 | nil=>
   refine .inl ⟨rfl,Q7 λj g=> ?_⟩;cases hr:Es fs a j with
   |false=>rfl
   |true=>exact absurd ((c j g).1 hr) sP
 | cons z r=>
   have d:=(h z).1 (kt ..);rw[f]at d;simp only[ky,lC]at d;obtain⟨i,rfl⟩:∃i:Nat,z=(i:Int):=⟨z.toNat,oM⟩;have b:i<fs.length:=oM;refine .inr ⟨i,r,rfl,b,by simpa using d.2.1.2,Hz b ((c i b).2 (kt ..)) λj g=> ?_⟩;cases hr:Es fs a j with
   |false=>rfl
   | true=>
     have:=(c j oM).1 hr;rcases jK.1 this with e|e
     . omega
     have:=(kY.1 l).1 _ e;omega
theorem Q2(D:DataW Unit)(z y:Int):Go.Maps.has (D.del (.int Af z)) (.int Af y)=(Go.Maps.has D (.int Af y)&& !decide (y=z)):=by
 by_cases h:y=z
 . subst h;rw[Go.Maps.has_del_same];simp
 rw[Go.Maps.has_del_other (λe=>h (by cases e;rfl))];simp[h]
theorem Fi(a:List Int)(q z:Int):(a++[q]).contains z=(a.contains z||decide (z=q)):=by rw[mi];simp
theorem DL.del{c b k q:Nat}{f:Nat->Nat}{d:List Int}(h:DL u c b k f d W)(p:q<k)(n:d.contains (q:Int)=false)(m:g.ownsMap Aq 2 CA c b (W.del (.int Af (q:Int)))):DL g c b k f (d++[(q:Int)]) (W.del (.int Af (q:Int))):=by
 refine⟨m, λz=> ?_, λi l a s=> ?_,?_⟩
 . rw[Q2,h.has z,Fi,Bool.not_or,Bool.and_assoc]
 . rw[Fi]at a;simp only[Bool.or_eq_false_iff,mQ]at a;rw[Go.Maps.atKey_del_other (λe=>a.2 (by injection e)),h.at_ i l a.1]
 have:=Go.Maps.size_del (k:=.int Af (q:Int)) (World.ownsMap.tidy h.own Fe);have j:(0<=(q:Int)/\(q:Int)<(k:Int)):=oM
 rw[h.has,n]at this;simp only[j,and_self,decide_true,Bool.not_false,Bool.and_true,if_true]at this;have r:=h.size;rw[jI,kE];omega
theorem Yl(fs:List MF)(a:List Int)(q:Int)(i:Nat)(z:Int):Ey fs (a++[q]) i z=(Ey fs a i z&& !decide (z=q)):=by
 unfold Ey;cases fs[i]? with
 |none=>rfl
 |some f=>simp only[Fi,Bool.not_or,Bool.and_assoc]
def YV(w:Y)(B h:Nat)(t:Int)(d:Bool)(c n:Int)(X:VS)(C:List (J×List MC))(K:List MC)(F:List (MG×J))(i:J)(e:Ending)(b:Y):Prop:=e=Am (Ap #[])/\∃a,BF b h t d c n ⟨X.c,a,X.f⟩ i/\AB b B ⟨X.c,a,X.f⟩ C K F/\Bp (λj=>j=h\/X.k.ownBlock=some j) w b/\(a.ownBlock=X.k.ownBlock\/∀g,a.ownBlock=some g-> ↑w<=g)
theorem pu{w U i l:Y}{p:Nat}{c n:Int}{m x3:J}{a:Option Addr}{c2:Nat}{C:List (J×List MC)}{K:List MC}{z:MC}{u:J}{f cap:Nat}(HM:BF U p t d c n ⟨m,Z a K c2,x3⟩ u)(HO:AB U B ⟨m,Z a K c2,x3⟩ C K F)(x:B<= ↑w)(q:Ah w w U)(h:Ah U U i)(s:Ab i B 193 2 (Z a K c2) K (Ad MC.cells K))(r:i.grownBy l (Z a K c2).ownBlock)(H:Ab l B 193 2 (Z f (K.length+1) cap) (K.length+1) (Ad MC.cells K++Ad MC.cells ([z]:List MC)))(b:(Z a K c2).ownBlock=some f\/f= ↑i):BF l p t d c n ⟨m,Z a K c2,x3⟩ u/\AB l B ⟨m,Z f (K.length+1) cap,x3⟩ C (K++[z]) F/\Bp (λj=>j=p\/(Z a K c2).ownBlock=some j) w l/\((Z f (K.length+1) cap).ownBlock=(Z a K c2).ownBlock\/ ↑w<=f):=by
 obtain⟨v,A,G⟩:=(HM.av h).eP;have I:=HO.grow h;have y:B<=i.heap.size:=jN x (jN q.size h.size);refine⟨⟨v,A.grown r s dC,G⟩,?_,?_,?_⟩
 . have E:(K++[z]).length= ↑K+1:=sP
   exact I.stack (K':=K++[z]) y r (by rw[E,kJ];exact H) (by
    rcases b with b|b
    . exact .inl b.symm
    exact .inr (λg D=>by simp only[Value.ownBlock,jJ]at D;omega))
 . exact(Bp.of (Ar q lR h)).grown r (λk N e=>.inr e.symm)
 rcases b with b|b
 . exact .inl b.symm
 have s:=q.size;have L:=h.size;exact .inr oM
theorem DA(B b:Nat)(t:Int)(d:Bool)(c n:Int)(X:VS)(C:List (J×List MC))(K:List MC)(F:List (MG×J))(k:J)(z:MC)(w:Y)(E:B<= ↑w)(h:AB w B X C K F)(x:BF w b t d c n X k)(hK:K.length<=1048576):
 Ai Aq 150 #[.pointer b,An #[z.type,Ag .u32 z.word]] w (YV w B b t d c n X C (K++[z]) F k):=by
 obtain⟨i0,O,R,S,T⟩:=km XE;obtain⟨e,V,x3⟩:=X;obtain⟨a,c2,D⟩:=AF (h.eT.own (V,K) sP);simp only[]at D;subst D;have H:Ae (AB w B ⟨e,Z a K c2,x3⟩ C K F):=h;have HM:Ae (BF w b t d c n ⟨e,Z a K c2,x3⟩ k):=x;have aq:=x.lt;clear h x;have A:Ae (BF (Ac w (Ak #[z.type,Ag .u32 z.word] 193)) b t d c n ⟨e,Z a K c2,x3⟩ k/\AB (Ac w (Ak #[z.type,Ag .u32 z.word] 193)) B ⟨e,Z a K c2,x3⟩ C K F/\Ay (Ac w (Ak #[z.type,Ag .u32 z.word] 193)) w #[z.type,Ag .u32 z.word] 193/\Ah w w (Ac w (Ak #[z.type,Ag .u32 z.word] 193))):=⟨HM.av (Al _ _),H.grow (Al _ _),Ay.new _ _ _,Al _ _⟩
 go_enter func150,ntmps150;go_upto_region 1 with fail
 refine Av (λu=>Ae (BF u b t d c n ⟨e,Z a K c2,x3⟩ k/\AB u B ⟨e,Z a K c2,x3⟩ C K F/\Ay u w #[z.type,Ag .u32 z.word] 193/\Ah w w u)) A ?_
 rintro U E1;clear A;have s:=E1.1.at.2.2.2.2.2.1;have m:=E1.2.2.1.cell 0;have p:=E1.2.2.1.cell 1;simp only[]at s;simp only[i5,f8,i6]at m p;have q:=At U;have i:Ah U U (Ac U (Ak #[z.type,Ag .u32 z.word] 193)).drew:=Ar (Al _ _) lR (At _);have au:=Au q s;have ax:=Au i s;have aa:=Au q m;have ai:=Au q p;have ae:=Au i m;have aj:=Au i p;have l:Ae ((Ac U (Ak #[z.type,Ag .u32 z.word] 193)).drew.ownsRow B 193 2 (Z a K c2) K (Ad MC.cells K)/\(∀j u,(Ad MC.cells ([z]:List MC))[j]?=some u->(Ac U (Ak #[z.type,Ag .u32 z.word] 193)).drew.cell? ((⟨U,0,M⟩:Addr).add j)=some u)/\Ah U U (Ac U (Ak #[z.type,Ag .u32 z.word] 193)).drew/\B<=(Ac U (Ak #[z.type,Ag .u32 z.word] 193)).drew.heap.size):=⟨AC (E1.2.1.eT.own (Z a K c2,K) sP) i lR, λj u P=>Vw U [z] j u P,i,jN (jN E E1.2.2.2.size) i.size⟩
 clear s m p q i;go_upto_region 1 with fail
 go_region_law (refine step_append_lies _ rfl (.tmp 9) (.tmp 11) 45 rfl B 193 i0 (An #[Ag Af 0,Ag .u32 0]) 2 16 underlying45 O R S T rfl dC (Z a K c2) K (Ad MC.cells K) oE l.1 U 1 1 (Ad MC.cells ([z]:List MC)) oE rfl l.2.1 (JI _) oM oX oM l.2.2.2 _ rfl ?_;intro r cap y L I G Q;have f:Ae (BF y b t d c n ⟨e,Z a K c2,x3⟩ k/\AB y B ⟨e,Z r (K.length+1) cap,x3⟩ C (K++[z]) F/\Bp (λj=>j=b\/(Z a K c2).ownBlock=some j) w y/\((Z r (K.length+1) cap).ownBlock=(Z a K c2).ownBlock\/ ↑w<=r)):=pu (HM:=E1.1) (HO:=E1.2.1) E E1.2.2.2 l.2.2.1 l.1 I L G;have W:=f.1.at.2.2.2.2.2.1;have y1:=f.1.frozen 5;simp only[]at W;clear L I G Q)
 all_goals
  refine lD (v:=Ap #[]) kR rfl ?_;exact⟨rfl,Z r (K.length+1) cap,f.1.iO _,GY f.2.1 f.1,f.2.2.1.setCell (.inl (.inl rfl)) _,f.2.2.2.imp_right (λh g N=>by simp only[Value.ownBlock,jJ]at N;omega)⟩
def PB(op:Int):Int:=match ((CL op)[1]?:Option J)with|some (Ag _ c)=>c|_=>0
def M7(costs:List Int)(x:MI):Prop:=x.op=28->x.a.toNat< ↑costs/\0<=cf costs x.a.toNat/\cf costs x.a.toNat<=4294967295
def C5(costs:List Int)(x:MI):Int:=PB x.op+if x.op=28 then cf costs x.a.toNat else 0
def CW(xs:List MI)(costs:List Int)(a:Nat):Nat->Int
 |0=>0
 |k+1=>CW xs costs a k+match xs[a+k]? with|some x=>C5 costs x|none=>0
def Cf(xs:List MI)(costs:List Int)(m:MB):Int:=CW xs costs m.cz.toNat (m.last.toNat+1-m.cz.toNat)
def FJ(xs:List MI)(costs:List Int)(m:MB):Prop:=(∃(j:Nat) (x:MI),m.cz<=(j:Int)/\(j:Int)<=m.last/\xs[j]?=K x/\¬M7 costs x)\/4294967295<Cf xs costs m
def Ka(p:MP)(b:Int)(a:List MB)(h:Nat):Int:=match a[h]? with|some m=>(match Da p.bO b m.cz with|some c=>c.init|none=>0)|none=>0
def Ll(xs:List MI)(a:List MB)(b:Nat):Prop:=∃m x,a[b]?=K m/\xs[m.last.toNat]?=K x/\x.op=29
def Sd(p:MP)(a:Int)(costs:List Int)(xs:List MI)(r:Ee)(v:Int):Prop:=
 (((∃l∈r.cv,∃k,k≠0/\A6 p a xs r.aC l k)\/∃m∈r.aC,FJ xs costs m)/\v=-1)\/
 ((∀l∈r.cv,A6 p a xs r.aC l 0)/\(∀m∈r.aC,¬FJ xs costs m)/\∃(O:List Nat) (D L:Nat->Nat->Bool) (sl:List ML),Gd r (nx r.aC) r.aC O D L/\sl.Perm r.cv/\sl.Pairwise K4/\PZ (nx r.aC) r.aC D L (Ka p a r.aC) (Ll xs r.aC) (sl.map hN) (jf (List.range r.aC)) (cf (r.aC.map (Cf xs costs))) v)
def Gi(p:MP)(a:Int)(costs:List Int)(v:Int):Prop:=
 ((∀f r,AX p 0->0<=a->p.aB[a.toNat]?=K f->Bl f.aU r->r.aU≠0)/\v=-1)\/
 ∃f r,AX p 0/\0<=a/\p.aB[a.toNat]?=K f/\Bl f.aU r/\r.aU=0/\Sd p a costs f.aU r v
theorem Gd.same{r:Ee}{E:Nat->List Nat}{n:Nat}{O f:List Nat}{D a L c:Nat->Nat->Bool}(g:Gd r E n O D L)(e:Gd r E n f a c):D=a/\L=c:=by
 have i:D=a:=by
  funext d b
  have:=(g.fl.D d b).trans (e.fl.D d b).symm;cases h:D d b<;>cases h':a d b<;>simp[h,h']at this<;>rfl
 subst i;refine⟨rfl,?_⟩;funext d b
 have:=(g.il d b).trans (e.il d b).symm;cases h:L d b<;>cases h':c d b<;>simp[h,h']at this<;>rfl
theorem Sd.one{c:Int}{costs:List Int}{xs:List MI}{r:Ee}(h:Sd p c costs xs r v)(d:Sd p c costs xs r v'):v=v':=by
 have e:∀{v':Int},((∃l∈r.cv,∃k,k≠0/\A6 p c xs r.aC l k)\/∃m∈r.aC,FJ xs costs m)->(∀l∈r.cv,A6 p c xs r.aC l 0)->(∀m∈r.aC,¬FJ xs costs m)->False:=by
  rintro _ (⟨l,x,k,w,a⟩|⟨m,y,a⟩) s t
  . exact w (a.one (s l x))
  exact t m y a
 rcases h with⟨a,rfl⟩|⟨f,i,O,D,L,sl,g,z,s1,c1⟩
 . rcases d with⟨_,rfl⟩|⟨j,n,_⟩
   . rfl
   exact(e (v':=0) a j n).elim
 rcases d with⟨a,rfl⟩|⟨_,_,E,B,C,F,q,A,s2,c2⟩
 . exact(e (v':=0) a f i).elim
 obtain⟨rfl,rfl⟩:=g.same q;obtain rfl:=Z6 s1 s2 (z.trans A.symm);exact c1.one (λh b u=>g.bk b u) c2
theorem Gi.one{l:Int}{costs:List Int}(h:Gi p l costs v)(m:Gi p l costs v'):v=v':=by
 rcases h with⟨c,rfl⟩|⟨f,r,n,q,d,e,s,t⟩
 . rcases m with⟨_,rfl⟩|⟨f,r,g,i,a,b,j,k⟩
   . rfl
   exact absurd j (c f r g i a b)
 rcases m with⟨c,rfl⟩|⟨u,w,g,i,a,b,j,k⟩
 . exact absurd s (c f r n q d e)
 rw[d]at a;cases a
 obtain rfl:=e.one b;exact t.one k
theorem X5{s:ByteArray}{c f:Int}(h:CL op=#[.string s,Ag Af c,Ag Af f]):PB op=c:=by unfold PB;rw[h];rfl
theorem Xz(a:∀op,0<=PB op){costs:List Int}{x:MI}(h:M7 costs x):0<=C5 costs x:=by
 unfold C5;have:=a x.op;by_cases e:x.op=28
 . rw[jP e];have:=(h e).2.1;omega
 rw[jH e];omega
theorem Kg(f:∀op,0<=PB op){xs:List MI}{costs:List Int}{a k b:Nat}(l:k<=b)(h:∀j x,k<=j->j<b->xs[a+j]?=K x->M7 costs x):CW xs costs a k<=CW xs costs a b:=by
 induction b with
 | zero=>obtain rfl:k=0:=oM;exact Int.le_refl _
 | succ b g=>
   by_cases e:k=b+1
   . subst e;exact Int.le_refl _
   (have c:=g oM λj x c i d=>h j x c oM d);simp only[CW];cases hx:xs[a+b]? with
   |none=>simp only[];omega
   | some x=>have:=Xz f (h b x oM oM hx);simp only[];omega
theorem FJ.gG(n:∀op,0<=PB op){xs:List MI}{costs:List Int}{m:MB}{a e k:Nat}(p:m.cz=(a:Int))(r:m.last=(e:Int))(s:k<=e+1-a){d:Int}(i:d<=CW xs costs a k\/∃x,xs[a+k]?=K x/\k<e+1-a/\d<=CW xs costs a k+PB x.op)(w:4294967295<d)(v:a<=e+1):FJ xs costs m:=by
 by_cases l:∃(j:Nat) (x:MI),m.cz<=(j:Int)/\(j:Int)<=m.last/\xs[j]?=K x/\¬M7 costs x
 . exact .inl l
 have h:∀j x,j<e+1-a->xs[a+j]?=K x->M7 costs x:= λj x y f=>kV λq=>l ⟨a+j,x,oM,oM,f,q⟩
 right;unfold Cf;rw[p,r,i9,i9];rcases i with i|⟨x,f,t,i⟩
 . (have:=Kg n (xs:=xs) (costs:=costs) (a:=a) s λj x _ b c=>h j x b c);omega
 have b:=Kg n (xs:=xs) (costs:=costs) (a:=a) (show k+1<=e+1-a from oM) λj x _ b c=>h j x b c
 have c:CW xs costs a (k+1)=CW xs costs a k+C5 costs x:=by simp only[CW,f]
 have u:PB x.op<=C5 costs x:=by
  unfold C5;by_cases g:x.op=28
  . rw[jP g];have:=((h k x t f) g).2.1;omega
  rw[jH g];omega
 omega
structure AH(w u:Y)(B M top:Nat)(t:Int)(d:Bool)(c n:Int)(X:VS)(C:List (J×List MC))(K:List MC)(F:List (MG×J))(hv:J)(gh oh gf:Nat)(op a b c':Int)(X0:VS)(C0:List (J×List MC))(F0:List (MG×J)):Prop where
 mb:BF u M t d c n X hv
 own:AB u B X C K F
 fb:Ay u w #[.pointer (some ⟨gh,oh,none⟩),.pointer (some ⟨gf,top*4,none⟩)] 143
 ib:Ay u ((w:Nat)+1) #[op,a,b,c'] 25
 eX:Bp (λj=>j=M\/Dt X0 C0 F0 j) w u
 fh:∀j,Dt X C F j->j< ↑w->Dt X0 C0 F0 j
 fJ:∀j,Dt X C F j->j< ↑w\/ ↑w+1<j
 hB:B<= ↑w
 hM:M< ↑w
def Cd(w:Y)(B b:Nat)(t:Int)(d:Bool)(c n:Int)(C:List (J×List MC))(K:List MC)(F:List (MG×J))(i:J)(h:VS)(f:List (J×List MC))(g:List (MG×J))(e:Ending)(a:Y):Prop:=e=Am (Ap #[])/\∃X,BF a b t d c n X i/\AB a B X C K F/\Bp (λj=>j=b\/Dt h f g j) w a
theorem AH.eY{g:Nat}{c n:Int}{C:List (J×List MC)}{K:List MC}{j:J}{k l gf:Nat}{i:VS}{e:List (J×List MC)}{f:List (MG×J)}(h:AH w u B g top t d c n X C K F j k l gf op a b c' i e f):Cd w B g t d c n C K F j i e f (Am (Ap #[])) u:=⟨rfl,X,h.mb,h.own,h.eX⟩
theorem AH.of{B l top:Nat}{c n:Int}{C:List (J×List MC)}{K:List MC}{r:J}(e f gf:Nat)(op a b c':Int)(v:B<= ↑w)(h:AB w B X C K F)(q:BF w l t d c n X r):AH w (Ac (Ac w (Ak #[.pointer (some ⟨e,f,M⟩),.pointer (some ⟨gf,top*4,M⟩)] 143)) (Ak #[op,a,b,c'] 25)) B l top t d c n X C K F r e f gf op a b c' X C F:=by
 have m:=Al w (Ak #[.pointer (some ⟨e,f,M⟩),.pointer (some ⟨gf,top*4,M⟩)] 143);have s:=Ay.new w #[.pointer (some ⟨e,f,M⟩),.pointer (some ⟨gf,top*4,M⟩)] 143;generalize x:Ac w (Ak #[.pointer (some ⟨e,f,M⟩),.pointer (some ⟨gf,top*4,M⟩)] 143)=g at m s⊢;have y:(g:Nat)= ↑w+1:=by rw[<-x];simp
 have p:=Al g (Ak #[op,a,b,c'] 25);have u:=Ay.new g #[op,a,b,c'] 25;rw[y]at u;have i:=Ar m lR p;exact⟨q.av i,h.grow i,s.av p,u,.of i, λj k _=>k, λj k=>.inl (h.ltOf k).2,v,q.lt⟩
theorem AH.av{c n:Int}{C:List (J×List MC)}{K:List MC}{m:J}{l p gf:Nat}{k:VS}{g:List (J×List MC)}{i:List (MG×J)}(h:AH w u B j top t d c n X C K F m l p gf op a b c' k g i)(f:Ah u u q):AH w q B j top t d c n X C K F m l p gf op a b c' k g i:=⟨h.mb.av f,h.own.grow f,h.fb.av f,h.ib.av f,h.eX.trans (.of (R:= λ_=>False) f) (λ_ _ e=>e.elim),h.fh,h.fJ,h.hB,h.hM⟩
theorem AH.pop{w u l:Y}{g:Nat}{c n:Int}{C:List (J×List MC)}{K K':List MC}{q:J}{x z gf:Nat}{v:VS}{r:List (J×List MC)}{s:List (MG×J)}{i:J}(h:AH w u B g top t d c n X C K F q x z gf op a b c' v r s)(A:BF l g t d c n ⟨X.c,i,X.f⟩ q)(D:AB l B ⟨X.c,i,X.f⟩ C K' F)(m:Bp (λj=>j=g) u l)(y:i.ownBlock=X.k.ownBlock):AH w l B g top t d c n ⟨X.c,i,X.f⟩ C K' F q x z gf op a b c' v r s:=by have E:=h.hM;exact⟨A,D,m.eP h.fb oM,m.eP h.ib oM,h.eX.trans m (λ_ _ e=>.inl e), λj p=>h.fh j (p.stack (x3:=X.f) y), λj p=>h.fJ j (p.stack (x3:=X.f) y),h.hB,h.hM⟩
theorem AH.push{B m top:Nat}{c n:Int}{C:List (J×List MC)}{K K':List MC}{z E gf:Nat}{y:VS}{v:List (J×List MC)}{x:List (MG×J)}{l:J}(h:AH w u B m top t d c n X C K F s z E gf op a b c' y v x)(G:BF q m t d c n ⟨X.c,l,X.f⟩ s)(H:AB q B ⟨X.c,l,X.f⟩ C K' F)(r:Bp (λj=>j=m\/X.k.ownBlock=some j) u q)(p:l.ownBlock=X.k.ownBlock\/∀g,l.ownBlock=some g-> ↑u<=g):AH w q B m top t d c n ⟨X.c,l,X.f⟩ C K' F s z E gf op a b c' y v x:=by
 have L:=h.hM;have N:=h.ib.lt;have A:∀j,Dt ⟨X.c,l,X.f⟩ C F j->Dt X C F j\/ ↑u<=j:= λj i=>by
  rcases i with e|e|e|e|e
  . exact .inl (.inl e)
  . rcases p with p|p
    . exact .inl (.inr (.inl (p▸e)))
    exact .inr (p j e)
  . exact .inl (.inr (.inr (.inl e)))
  . exact .inl (.inr (.inr (.inr (.inl e))))
  exact .inl (.inr (.inr (.inr (.inr e))))
 have D:∀j,j=w.heap.size\/j=w.heap.size+1->¬(j=m\/X.k.ownBlock=some j):= λj i e=>by
  rcases e with e|e
  . omega
  have:=h.fJ j (.inr (.inl e));omega
 refine⟨G,H,r.eP h.fb (D _ (.inl rfl)),r.eP h.ib (D _ (.inr rfl)),h.eX.trans r (λj i e=> ?_), λj i I=> ?_, λj i=> ?_,h.hB,h.hM⟩
 . rcases e with e|e
   . exact .inl e
   exact .inr (h.fh j (.inr (.inl e)) i)
 . rcases A j i with e|e
   . exact h.fh j e I
   omega
 rcases A j i with e|e
 . exact h.fJ j e
 omega
theorem AH.rows{p:Y}{s:Nat}{c n:Int}{C q:List (J×List MC)}{K:List MC}{F r:List (MG×J)}{G:J}{z H gf:Nat}{y:VS}{v:List (J×List MC)}{x:List (MG×J)}{g:Nat}{I:Array J}{ty:Aj}(h:AH w u B s top t d c n X C K F G z H gf op a b c' y v x)(i:u.grownBy p (some g))(P:AB p B X q K r)(E:Dt X C F g)(f:Ay u g I ty)(O:87≠ty)(A:∀j,Dt X q r j->Dt X C F j):AH w p B s top t d c n X q K r G z H gf op a b c' y v x:=by
 have R:=h.hM;have S:=h.fJ g E;have m:Bp (λj=>j=g) u p:=⟨i.os,i.tape,i.output,i.size, λk f N=>i.block k f (λe=>N (jM e))⟩;have L:¬s=g:= λe=>by obtain⟨Q,D,_⟩:=h.mb.eP;subst e;unfold Ay at D f;rw[D]at f;simp only[jJ,lQ]at f;exact O f.2.1
 exact⟨h.mb.eX m L,P,m.eP h.fb oM,m.eP h.ib oM,h.eX.trans m (λj l e=>.inr (h.fh j (e▸E) l)), λj l=>h.fh j (A j l), λj l=>h.fJ j (A j l),h.hB,h.hM⟩
theorem ZQ(B e top:Nat)(t:Int)(d:Bool)(c n:Int)(X:VS)(C:List (J×List MC))(K:List MC)(F:List (MG×J))(j:J)(g i gf c3:Nat)(y:MG×J)(op a b c':Int)(w:Y)(m:B<= ↑w)(h:AB w B X C K F)(k:BF w e t d c n X j)(q: ↑F=top+1)(r:top<=1048576)(p:F[top]?=some y)(s:X.f=Z gf (top+1) c3):
 Ai Aq 95 #[.pointer e,An #[.pointer (some ⟨g,i,M⟩),.pointer (some ⟨gf,top*4,M⟩)],An #[op,a,b,c']] w (Cd w B e t d c n C K F j X C F):=by
 have l:Ae (AH w (Ac (Ac w (Ak #[.pointer (some ⟨g,i,M⟩),.pointer (some ⟨gf,top*4,M⟩)] 143)) (Ak #[op,a,b,c'] 25)) B e top t d c n X C K F j g i gf op a b c' X C F):=AH.of g i gf op a b c' m h k;clear h k p;go_enter func95,ntmps95;go_wp2_with fail;exact lD (v:=Ap #[]) kR rfl l.eY
theorem Xg(z:MC)(B g top:Nat)(t:Int)(d:Bool)(c n:Int)(X:VS)(C:List (J×List MC))(K:List MC)(F:List (MG×J))(j:J)(i k gf c3:Nat)(y:MG×J)(op a b c':Int)(w:Y)(D:B<= ↑w)(h:AB w B X C (K++[z]) F)(s:BF w g t d c n X j)(E: ↑F=top+1)(O:top<=1048576)(x:F[top]?=some y)(P:X.f=Z gf (top+1) c3)(G:K.length<=1048576):
 Ai Aq 108 #[.pointer g,An #[.pointer (some ⟨i,k,M⟩),.pointer (some ⟨gf,top*4,M⟩)],An #[op,a,b,c']] w (Cd w B g t d c n C K F j X C F):=by
 have l:Ae (AH w (Ac (Ac w (Ak #[.pointer (some ⟨i,k,M⟩),.pointer (some ⟨gf,top*4,M⟩)] 143)) (Ak #[op,a,b,c'] 25)) B g top t d c n X C (K++[z]) F j i k gf op a b c' X C F):=AH.of i k gf op a b c' D h s;have H:Ae (AB w B X C (K++[z]) F/\ ↑F=top+1/\F[top]?=some y):=⟨h,E,x⟩
 clear h s x;go_enter func108,ntmps108;go_upto_region 1 with fail
 refine Av (λu=>Ae (AH w u B g top t d c n X C (K++[z]) F j i k gf op a b c' X C F)/\Ah w w u) ⟨l,Ar (Al _ _) lR (Al _ _)⟩ ?_
 rintro U ⟨E1,N⟩;clear l;go_wp2_with fail;refine(C6 B g t d c n X C K F j z U (jN E1.hB E1.eX.size) E1.own E1.mb G).mono ?_;rintro e L ⟨rfl,I,m,p,q,r⟩;have A:Ae (AH w L B g top t d c n ⟨X.c,I,X.f⟩ C K F j i k gf op a b c' X C F):=E1.pop m p q r;clear m p q r;go_wp2_with fail;exact lD (v:=Ap #[]) kR rfl A.eY
section
variable {xs:List MI} {costs:List Int} {r:Ee} {C:List Int} {k ja je jj:Nat} {bad bad2 bad3:Bool} {c0 c7 c8 ci z:Int} {x:MI} {m:MB}
theorem X4(op:Int)(a:∃(s:ByteArray) (c f:Int),CL op=#[.string s,Ag Af c,Ag Af f]/\Ks c):0<=PB op:=by obtain⟨s,c,f,e,h⟩:=a;rw[X5 e];exact h.1
end
theorem Zd(z:MC)(B g top:Nat)(t:Int)(d:Bool)(c n:Int)(X:VS)(C:List (J×List MC))(K:List MC)(F:List (MG×J))(i:J)(l m gf c3:Nat)(y:MG×J)(op a b c':Int)(w:Y)(hB:B<= ↑w)(h:AB w B X C (K++[z]) F)(Q:BF w g t d c n X i)(hF: ↑F=top+1)(ae:top<=1048576)(R:F[top]?=some y)(aj:X.f=Z gf (top+1) c3)(hK:K.length<1048576):
 Ai Aq 107 #[.pointer g,An #[.pointer (some ⟨l,m,M⟩),.pointer (some ⟨gf,top*4,M⟩)],An #[op,a,b,c']] w (Cd w B g t d c n C (K++[z,z]) F i X C F):=by
 have P:Ae (AH w (Ac (Ac w (Ak #[.pointer (some ⟨l,m,M⟩),.pointer (some ⟨gf,top*4,M⟩)] 143)) (Ak #[op,a,b,c'] 25)) B g top t d c n X C (K++[z]) F i l m gf op a b c' X C F):=AH.of l m gf op a b c' hB h Q;have H:Ae (AB w B X C (K++[z]) F/\ ↑F=top+1/\F[top]?=some y):=⟨h,hF,R⟩
 clear h Q R;go_enter func107,ntmps107;go_upto_region 1 with fail
 refine Av (λu=>Ae (AH w u B g top t d c n X C (K++[z]) F i l m gf op a b c' X C F)/\Ah w w u) ⟨P,Ar (Al _ _) lR (Al _ _)⟩ ?_
 rintro U ⟨E1,bU⟩;clear P;go_wp2_with fail;refine(C6 B g t d c n X C K F i z U (jN E1.hB E1.eX.size) E1.own E1.mb oM).mono ?_;rintro e x ⟨rfl,A,r,p,q,s⟩;have I:Ae (AH w x B g top t d c n ⟨X.c,A,X.f⟩ C K F i l m gf op a b c' X C F):=E1.pop r p q s;have N:∀j,Dt ⟨X.c,A,X.f⟩ C F j->j<x.heap.size:= λj hj=>(p.ltOf hj).2
 clear r p q s E1 bU;have aa:(w:Nat)+1<x.heap.size:=I.ib.lt;have L:Ae (AH w (Ac x (Ak #[z.type,Ag .u32 z.word] 193)) B g top t d c n ⟨X.c,A,X.f⟩ C K F i l m gf op a b c' X C F/\Ay (Ac x (Ak #[z.type,Ag .u32 z.word] 193)) x #[z.type,Ag .u32 z.word] 193):=⟨I.av (Al _ _),Ay.new _ _ _⟩
 go_upto_region 2 with fail
 generalize x.heap.size=D at L N aa⊢;refine Av (λu=>Ae (AH w u B g top t d c n ⟨X.c,A,X.f⟩ C K F i l m gf op a b c' X C F/\Ay u D #[z.type,Ag .u32 z.word] 193)) L ?_
 rintro W k;clear L I;clear x;have E:=k.2.cell 0;have G:=k.2.cell 1;simp only[i5,f8,i6]at E G;have V:Ae (∀j,Dt ⟨X.c,A,X.f⟩ C F j->j<D):=N;clear N;go_wp2_with fail;refine(DA B g t d c n ⟨X.c,A,X.f⟩ C K F i z W (jN k.1.hB k.1.eX.size) k.1.own k.1.mb oM).mono ?_;rintro e O ⟨rfl,S,r,p,q,s⟩;have E4:Ae (AH w O B g top t d c n ⟨X.c,S,X.f⟩ C (K++[z]) F i l m gf op a b c' X C F/\Ay O D #[z.type,Ag .u32 z.word] 193):=⟨k.1.push r p q s,q.eP k.2 (λe=>by
  have hM:=k.1.hM;rcases e with e|e
  . omega
  have:=V.o D (.inr (.inl e));omega)⟩
 clear r p q s E G k;have E:=E4.2.cell 0;have G:=E4.2.cell 1;simp only[i5,f8,i6]at E G;have ai:(K++[z]).length<=1048576+1:=oT;go_wp2_with fail;refine(DA B g t d c n ⟨X.c,S,X.f⟩ C (K++[z]) F i z O (jN E4.1.hB E4.1.eX.size) E4.1.own E4.1.mb oT).mono ?_;rintro e u4 ⟨rfl,k3,r,p,q,s⟩;have T:Ae (AH w u4 B g top t d c n ⟨X.c,k3,X.f⟩ C (K++[z,z]) F i l m gf op a b c' X C F):=E4.1.push r (by simpa using p) q s;clear r p q s;go_wp2_with fail;exact lD (v:=Ap #[]) kR rfl T.eY
theorem Dt.at_{C:List (J×List MC)}(a:F[top]?=K y){z:Int}(h:Dt X C (F.set top ({y.1 with at_:=z},y.2)) j):Dt X C F j:=by have e:Bm (F.set top ({y.1 with at_:=z},y.2))=Bm F:=Vq a z;unfold Dt at*;rw[e]at h;exact h
theorem AH.jump{B l top:Nat}{c n:Int}{C:List (J×List MC)}{K:List MC}{r:J}{q v:Nat}{p:VS}{i:List (J×List MC)}{k:List (MG×J)}(h:AH w u B l top t d c n X C K F r q v gf op a b c' p i k){m c3:Nat}(e:X.f=Z gf m c3)(s:F[top]?=some y)(z:Int):AH w (Aa u ⟨gf,top*4+1,M⟩ z) B l top t d c n X C K (F.set top ({y.1 with at_:=z},y.2)) r q v gf op a b c' p i k:=by obtain⟨G,x⟩:=h.own.setAt e s z;have g:=h.own.dk;rw[e]at g;have E:=CM g;subst E;obtain⟨I,H,A⟩:=Dz g;exact h.rows x G (.inr (.inr (.inl (by rw[e];rfl)))) A dC (λj D=>D.at_ s)
theorem AH.fV{B l top:Nat}{c n:Int}{C:List (J×List MC)}{K:List MC}{q v:Nat}{p:VS}{j:List (J×List MC)}{k:List (MG×J)}(h:AH w u B l top t d c n X C K F s q v gf op a b c' p j k){m c3:Nat}(i:X.f=Z gf m c3)(g:F[top]?=some y):u ⟨gf,top*4+1,M⟩=some ↑y.1.at_/\u.frozen? ⟨gf,top*4+1,M⟩=false/\u ⟨gf,top*4+3,M⟩=some y.2:=by have e:=h.own.dk;rw[i]at e;have r:=CM e;subst r;have x:=(f7.1 g).1;refine⟨?_,e.frozenAt _,h.own.frm i g⟩;rw[e.cellAt (top*4+1) oM,BM BG 4 Ch F top 1 y g oM];rfl
theorem XI(B e top:Nat)(t:Int)(d:Bool)(c n:Int)(X:VS)(C:List (J×List MC))(K:List MC)(F:List (MG×J))(j:J)(g i gf c3:Nat)(y:MG×J)(op a b c':Int)(w:Y)(r:B<= ↑w)(h:AB w B X C K F)(m:BF w e t d c n X j)(s: ↑F=top+1)(E:top<=1048576)(p:F[top]?=some y)(k:X.f=Z gf (top+1) c3):
 Ai Aq 109 #[.pointer e,An #[.pointer (some ⟨g,i,M⟩),.pointer (some ⟨gf,top*4,M⟩)],An #[op,a,b,c']] w (Cd w B e t d c n C K (F.set top ({y.1 with at_:=c'},y.2)) j X C F):=by
 have l:Ae (AH w (Ac (Ac w (Ak #[.pointer (some ⟨g,i,M⟩),.pointer (some ⟨gf,top*4,M⟩)] 143)) (Ak #[op,a,b,c'] 25)) B e top t d c n X C K F j g i gf op a b c' X C F):=AH.of g i gf op a b c' r h m;have H:Ae (AB w B X C K F/\ ↑F=top+1/\F[top]?=some y):=⟨h,s,p⟩
 clear h m p;go_enter func109,ntmps109;go_upto_region 1 with fail
 refine Av (λu=>Ae (AH w u B e top t d c n X C K F j g i gf op a b c' X C F)/\Ah w w u) ⟨l,Ar (Al _ _) lR (Al _ _)⟩ ?_
 rintro U ⟨E1,z⟩;clear l;have f1:=E1.fb.cell 1;have x:=E1.ib.cell 3;simp only[i5,f8,i6]at f1 x;obtain⟨A,D,_⟩:=E1.fV k H.2.2;have q:Ae (AH w (Aa U ⟨gf,top*4+1,M⟩ c') B e top t d c n X C K (F.set top ({y.1 with at_:=c'},y.2)) j g i gf op a b c' X C F):=E1.jump k H.2.2 c';clear k;go_wp2_with fail;exact lD (v:=Ap #[]) kR rfl q.eY
theorem Nx(B i top:Nat)(t:Int)(d:Bool)(c n:Int)(X:VS)(C:List (J×List MC))(K:List MC)(F:List (MG×J))(l:J)(j m gf c3:Nat)(y:MG×J)(op a b c':Int)(w:Y)(T:B<= ↑w)(h:AB w B X C K F)(O:BF w i t d c n X l)(V: ↑F=top+1)(ax:top<=1048576)(P:F[top]?=some y)(s:X.f=Z gf (top+1) c3)(W:K.length<=1048576)(q:Nat)(z:MC)(ha:a=q)(A:y.1.a7[q]?=some z)(aa:y.1.a7.length<=1048576):
 Ai Aq 97 #[.pointer i,An #[.pointer (some ⟨j,m,M⟩),.pointer (some ⟨gf,top*4,M⟩)],An #[op,a,b,c']] w (Cd w B i t d c n C (K++[z]) F l X C F):=by
 subst ha;have E:Ae (AH w (Ac (Ac w (Ak #[.pointer (some ⟨j,m,M⟩),.pointer (some ⟨gf,top*4,M⟩)] 143)) (Ak #[op,q,b,c'] 25)) B i top t d c n X C K F l j m gf op q b c' X C F):=AH.of j m gf op q b c' T h O;have H:Ae (AB w B X C K F/\ ↑F=top+1/\F[top]?=some y):=⟨h,V,P⟩
 clear h O P;go_enter func97,ntmps97;go_upto_region 1 with fail
 refine Av (λu=>Ae (AH w u B i top t d c n X C K F l j m gf op q b c' X C F)/\Ah w w u) ⟨E,Ar (Al _ _) lR (Al _ _)⟩ ?_
 rintro U ⟨E1,bU⟩;clear E;have f1:=E1.fb.cell 1;have D:=E1.ib.cell 1;simp only[i5,f8,i6]at f1 D;obtain⟨_,_,r⟩:=E1.fV s H.2.2;have x:(y.2,y.1.a7)∈C++[(X.k,K)]++Bm F:=by simp only[jL];exact .inr (hC (BE H.2.2))
 have ai:=(f7.1 A).1;rcases Bi (E1.own.eT.own _ x)with⟨_,e⟩|⟨gl,cl,p⟩
 . simp only[]at e;omega
 simp only[]at p;obtain⟨Q,R⟩:=E1.own.fG x p A;rw[p]at r;have ae:(q:Int)<(y.1.a7:Int):=oM;generalize y.1.a7.length=nl at r ae aa;have g:=At U;have aq:=Au g f1;have aA:=Au g D;have au:=Au g r;have aE:=Au g Q;have aF:=Au g R;have aj:Ae (X.f=Z gf (top+1) c3):=s;clear f1 D r Q R s x p A ai;go_upto_region 1 with fail
 go_region_law (go_simp;go_at_call 150;refine(DA B i t d c n X C K F l z _ (jN E1.hB (E1.av g).eX.size) (E1.av g).own (E1.av g).mb W).mono ?_;rintro e u1 ⟨rfl,k',G,I,L,N⟩;have S:Ae (AH w u1 B i top t d c n ⟨X.c,k',X.f⟩ C (K++[z]) F l j m gf op q b c' X C F):=(E1.av g).push G I L N;clear G I L N);all_goals
  go_wp2_with fail;exact lD (v:=Ap #[]) kR rfl S.eY
end Go.Proofs.YtkgohaigebcgoaaGreatDoor
