import Derived.Test.YtkgohaigebcgoaaGreatDoorRows
import Derived.WalkKit
import Derived.Below
import Derived.ProofKit
import Derived.OpenShut
import Derived.Outline
import Derived.WalkLawsBesides
import Derived.Laws.Rows
import Derived.Laws.OwnMore
import Derived.OwnWalk
import Derived.Deep.QuietTactic
import Derived.BigQuiet
import Derived.Laws.Tables
import Derived.Deep.WholeRow
import Derived.Great.BuildSlice
import Derived.Laws.CopyOwn
import Derived.Laws.EntriesVeiled
import Derived.Deep.MidRow
import Derived.OneCell
import Derived.Deep.Cut
import Derived.Deep.RegionWith
namespace Go.Proofs.YtkgohaigebcgoaaGreatDoor
open Go.ChangeShapes Go.WideShapes Go.ChangeAt Go.RowKit Go.Proofs.Tryz
set_option linter.unusedVariables false
open Go.RowKit renaming Hid → Ae,Below → Ah
open Go.Value renaming slice → Z,int → Ag,agg → An
open Option renaming some → K,none → M
open Go renaming Value → J,World → Y,TypeId → Aj,Calls → Ai
open Go.IntKind renaming i64 → Af
open Go.World renaming ownsRow → Ab
open List renaming flatMap → Ad
open Go.Ending renaming returned → Am
open Go.Proofs.Tryz renaming prog → Aq
open Go.Obj renaming cells → Ak
set_option maxHeartbeats 1000000
set_option maxRecDepth 100000
variable {n base B:Nat}{w:Y}{e:Aj}{s:J}{xs:List J}{α:Type}{P:Program}{Q:Exit->Act->Y->Prop}{a':Act}{rest:List Oper}
instance:Coe World Nat:=⟨λw=>w.heap.size⟩
instance {α:Type}:CoeOut (List α) Nat:=⟨List.length⟩
instance:Coe Nat (Option Addr):=⟨λn=>some ⟨n,0,none⟩⟩
instance:Coe Nat Addr:=⟨λn=>⟨n,0,none⟩⟩
instance:CoeFun World (λ_=>Addr->Option Value):=⟨World.cell?⟩
instance:Coe Int Value:=⟨.int .i64⟩
instance:Coe Nat Value:=⟨λn=>.int .i64 (n:Int)⟩
instance:Coe Bool Value:=⟨.bool⟩
theorem lR:n<=n:=Nat.le_refl n
theorem _root_.Go.RowKit.Hid.o{p:Prop}(h:Ae p):p:=h
theorem oM{p:Prop}(h:p:=by omega):p:=h
theorem dC{p:Prop}(h:p:=by decide):p:=h
theorem kR{p:Prop}(h:p:=by kernel_rfl):p:=h
theorem sP{p:Prop}(h:p:=by simp):p:=h
theorem oS{p:Prop}(h:p:=by simp only[];omega):p:=h
theorem oX{p:Prop}(h:p:=by unfold maxLen;omega):p:=h
theorem oT{p:Prop}(h:p:=by simp;omega):p:=h
theorem oE{p:Prop}(h:p:=by simp[Act.eval]):p:=h
theorem oI{p:Prop}(h:p:=by simp[intOf];omega):p:=h
abbrev an:=@List.getElem?_eq_getElem
abbrev f7:=@List.getElem?_eq_some_iff
abbrev lN:=@And.intro
abbrev lO:=@List.getElem?_cons_zero
abbrev lP:=@List.mem_of_getElem?
abbrev lQ:=@List.getElem?_toArray
abbrev lS:=@List.getElem?_cons_succ
abbrev lT:=@block_lt_of_cell
abbrev lU:=@Value.slice.injEq
abbrev lV:=@Int.toNat_natCast
abbrev lW:=@List.mem_cons
abbrev lX:=@Option.some.injEq
abbrev lY:=@if_neg
abbrev lZ:=@List.not_mem_nil
abbrev mA:=@List.mem_append
abbrev mB:=@List.length_append
abbrev mC:=@Nat.le_trans
abbrev mD:=@Option.some.inj
abbrev mE:=@if_pos
abbrev mF:=@List.length_set
abbrev mG:=@List.eq_nil_of_length_eq_zero
abbrev mH:=@Array.getElem?_eq_some_iff
abbrev mI:=@List.getD_eq_getElem?_getD
abbrev mJ:=@Int.eq_ofNat_of_zero_le
abbrev mK:=@List.mem_singleton
abbrev mL:=@Nat.add_zero
abbrev mM:=@bodyPost_ret
abbrev mN:=@List.getElem?_map
abbrev mO:=@List.setIfInBounds_toArray
abbrev mP:=@Below.refl
abbrev mQ:=@List.length_map
abbrev mR:=@ownsRow_setCell_other
abbrev mS:=@or_false
abbrev mT:=@List.length_singleton
abbrev mV:=@List.mem_map
abbrev mW:=@List.flatMap_append
abbrev mX:=@World.ownsRow_nil
abbrev mY:=@ownsRow_setCell_below
abbrev mZ:=@List.take_succ_eq_append_getElem
abbrev mc:=@List.getElem?_eq_none
abbrev mg:=@List.getElem?_append_right
abbrev mh:=@List.set_cons_succ
abbrev mi:=@List.set_cons_zero
abbrev mj:=@true_and
abbrev mm:=@List.take_of_length_le
abbrev mo:=@decide_eq_true_eq
abbrev mq:=@List.getElem?_append_left
abbrev mr:=@Classical.byContradiction
abbrev mu:=@Bool.and_eq_true
abbrev mv:=@List.flatMap_cons
abbrev my:=@List.pairwise_cons
abbrev m8:=@List.length_drop
abbrev m9:=@Nat.zero_add
abbrev nA:=@List.mem_cons_of_mem
abbrev nB:=@List.getElem?_of_mem
abbrev nC:=@decide_eq_false
abbrev nD:=@List.append_assoc
abbrev nE:=@info_parts
abbrev nF:=@List.length_take
abbrev nG:=@List.mem_cons_self
abbrev nH:=@Nat.lt_of_lt_of_le
abbrev nI:=@List.pairwise_append
abbrev nJ:=@Option.map_eq_some_iff
abbrev nK:=@List.getElem?_set_self
abbrev nL:=@List.mem_reverse
abbrev nN:=@List.mem_range
abbrev nO:=@List.nil_append
abbrev nP:=@List.length_reverse
abbrev nQ:=@List.length_cons
abbrev nR:=@bodyPost_end
abbrev nS:=@List.map_append
abbrev nT:=@List.length_nil
abbrev nU:=@Bool.false_ne_true
abbrev nV:=@List.all_eq_true
abbrev nW:=@List.cons_append
abbrev nX:=@Nat.mul_one
abbrev nY:=@List.length_replicate
abbrev nZ:=@Nat.ne_of_lt
abbrev nh:=@List.map_cons
abbrev ni:=@List.getElem?_set_ne
abbrev nj:=@List.ext_getElem?
abbrev nm:=@List.append_nil
abbrev nw:=@List.mem_or_eq_of_mem_set
abbrev ny:=@Addr.mk.injEq
abbrev nz:=@Obj.cells.injEq
abbrev n9:=@List.take_append_drop
abbrev oC:=@Nat.zero_le
abbrev oD:=@World.ownsMap.isMap
abbrev oF:=@List.mem_map_of_mem
abbrev oG:=@List.drop_eq_getElem_cons
abbrev oH:=@List.pairwise_iff_getElem
abbrev oJ:=@heap_setCell_other
abbrev oK:=@List.mem_flatMap
abbrev oL:=@World.ownsMap.lt
abbrev oN:=@World.size_setCell
abbrev oO:=@Option.map_some
abbrev oP:=@List.mem_filter
abbrev oQ:=@World.size_alloc
abbrev oR:=@List.getElem?_zipWith
abbrev oU:=@List.flatten_replicate_singleton
abbrev oV:=@Nat.add_sub_cancel_left
abbrev oW:=@World.ownsRow.cellAt
abbrev oY:=@IntWalk.i64_in
abbrev oZ:=@and_true
abbrev oe:=@heap_alloc_new
abbrev og:=@Go.Maps.keyOf_int_mk
abbrev oj:=@List.pairwise_map
abbrev oq:=@Nat.le_of_lt
abbrev ot:=@List.map_map
abbrev ov:=@List.cons.injEq
abbrev oy:=@List.filter_append
abbrev oz:=@Option.getD_some
abbrev o3:=@beq_eq_false_iff_ne
abbrev o4:=@List.map_congr_left
abbrev o5:=@List.length_filter_le
abbrev o6:=@List.idxOf_lt_length_iff
abbrev o9:=@decide_eq_false_iff_not
abbrev pA:=@List.range_succ
abbrev pB:=@List.mergeSort_perm
abbrev pC:=@List.pairwise_lt_range
abbrev pD:=@cell_of_row
abbrev pE:=@List.set_append_right
abbrev pF:=@World.ownsRow.stored
abbrev pG:=@Nat.sub_self
abbrev pH:=@List.nodup_append
abbrev pI:=@Array.getElem?_push_size
abbrev pJ:=@Int.toNat_of_nonneg
abbrev pK:=@wpList_make_full
abbrev pL:=@List.drop_of_length_le
abbrev pM:=@List.getElem?_drop
abbrev pN:=@Bool.eq_iff_iff
abbrev pO:=@List.length_range
abbrev pP:=@Nat.add_mul
abbrev pQ:=@List.mem_of_mem_tail
abbrev pR:=@List.mem_of_mem_drop
abbrev pS:=@List.getElem_mem
abbrev pT:=@List.filter_cons
abbrev pU:=@List.length_pos_iff
abbrev pV:=@List.replicate_succ
abbrev pW:=@List.getElem?_take_of_lt
abbrev pX:=@List.idxOf_cons
abbrev pY:=@World.ownsRow_lit
abbrev pZ:=@Go.IntWalk.i64_in
abbrev pd:=@List.filter_nil
abbrev pe:=@List.getElem?_range
abbrev pg:=@Bool.false_eq_true
abbrev ph:=@of_decide_eq_true
abbrev pi:=@List.mem_of_mem_take
abbrev pj:=@World.cell?_of_block
def Rd(w:Y)(k:Nat)(s:J)(n:Nat)(xs:List J):Prop:=↑xs=n*k/\((n=0/\∃a c,s=Z a 0 c)\/∃g o c,s=Z (K ⟨g,o,M⟩) n c/\∀j u,xs[j]?=K u->w ⟨g,o+j,M⟩=K u)
theorem Rd.eP{k n:Nat}(h:Ab w base e k s n xs):Rd w k s n xs:=by
 refine⟨by simpa using h.1,?_⟩;rcases h.2 with⟨rfl,rfl⟩|⟨g,cap,b,rfl,l,c,q,m,p,f⟩
 . exact .inl ⟨rfl,_,_,rfl⟩
 refine .inr ⟨g,0,cap,rfl, λj u a=> ?_⟩;rw[pD w g _ b e _ c,m9];rw[<-f]at a;obtain⟨d,a⟩:=f7.1 a;rw[List.getElem_take]at a;rw[<-a];simp at d;rw[Array.getElem?_eq_getElem oM];simp
theorem Rd.av{d:Y}{k n:Nat}(h:Rd w k s n xs)(f:Ah B w d)(e: ↑w<=B):Rd d k s n xs:=by
 obtain⟨b,h|⟨g,o,c,rfl,l⟩⟩:=h
 . exact⟨b,.inl h⟩
 refine⟨b,.inr ⟨g,o,c,rfl, λj u m=> ?_⟩⟩;have a:=l j u m;rw[f.cell (nH (lT a) e)];exact a
theorem Rd.aD{k:Nat}(h:Rd w k s n xs):∃a c,s=Z a n c:=by rcases h.2 with⟨rfl,a,c,rfl⟩|⟨g,o,c,rfl,_⟩<;>exact⟨_,_,rfl⟩
theorem AD{w b:Y}{k n:Nat}(h:Ab w base e k s n xs)(j:Ah B w b)(f: ↑w<=B):Ab b base e k s n xs:=by
 refine⟨h.1,?_⟩;rcases h.2 with h|⟨g,cap,c,d,l,a,m⟩
 . exact .inl h
 refine .inr ⟨g,cap,c,d,l,?_,m⟩;rw[j.block g (nH (mH.1 a).1 f)];exact a
theorem AX(f:α->List J)(m:Nat)(a:∀y,(f y).length=m)(ys:List α):(Ad f ys).length= ↑ys*m:=by
 induction ys with
 |nil=>simp
 |cons y r b=>rw[mv,mB,b,a,nQ,pP];omega
theorem BI(f:α->List J)(m:Nat)(b:∀y,(f y).length=m)(ys:List α)(k j:Nat)(y:α)(a:ys[k]?=K y)(c:j<m):(Ad f ys)[k*m+j]?=(f y)[j]?:=by
 induction ys generalizing k with
 |nil=>cases a
 | cons x r d=>
   rw[mv];cases k with
   | zero=>simp only[lO,lX]at a;subst a;rw[Nat.zero_mul,m9,mq (by rw[b];exact c)]
   | succ k=>rw[lS]at a;rw[mg (by rw[b,pP];omega),b,<-d k a];(congr 1);rw[pP];omega
def CK{α:Type}(f:α->List J)(z:List J)(ys:List α)(k n:Nat):List J:=Ad f (ys.take k)++(List.replicate (n-k) z).flatten
theorem LS(f:α->List J)(z:List J)(ys:List α)(n:Nat)(h: ↑ys=n):CK f z ys n n=Ad f ys:=by simp[CK,<-h]
theorem DM(f:α->List J)(z:List J)(ys:List α)(n:Nat)(v:J)(m:Nat)(p:v.cells=z.toArray)(k: ↑z=m)(c:0<m):(madeCells v.cells (n*m)).toList=CK f z ys 0 n:=by
 subst k;rw[p];unfold CK;rw[List.take_zero,List.flatMap_nil,nO,Nat.sub_zero];apply nj;intro i;have j:(List.replicate n z).flatten=Ad id (List.replicate n z):=by simp[List.flatMap_id]
 by_cases b:i<n* ↑z
 . have l:i / ↑z<n:=(Nat.div_lt_iff_lt_mul c).2 b
   have a:=Nat.mod_lt i c;have e:i=i / ↑z* ↑z+i % z.length:=by rw[Nat.mul_comm];exact(Nat.div_add_mod i z).symm
   have s:(List.replicate n z).flatten[i]?=z[i % ↑z]?:=by
    (conv=>lhs;rw[e]);clear e;generalize i / z.length=q at l;generalize i % z.length=r at a;clear b j;induction n generalizing q with
    |zero=>omega
    | succ n t=>
      rw[pV,List.flatten_cons];cases q with
      |zero=>rw[Nat.zero_mul,m9,mq a]
      | succ q=>rw[mg (by rw[pP];omega),<-t q oM];(congr 1);rw[pP];omega
   rw[s];have h:i<(madeCells z.toArray (n* ↑z)).toList.length:=by simp[madeCells];exact b
   rw[an h,an a];simp[madeCells];rw[an a];rfl
 have d:(madeCells z.toArray (n* ↑z)).toList.length<=i:=by simp[madeCells];omega
 have g:(List.replicate n z).flatten.length<=i:=by rw[List.length_flatten];simp;omega
 rw[mc d,mc g]
theorem Jm(f:α->List J)(z:List J)(ys:List α)(k n:Nat)(a:k<n):CK f z ys k n=Ad f (ys.take k)++(z++(List.replicate (n-(k+1)) z).flatten):=by unfold CK;have e:n-k=(n-(k+1))+1:=oM;rw[e,pV,List.flatten_cons]
theorem Ky(f:α->List J)(z:List J)(ys:List α)(k n:Nat)(y:α)(b:ys[k]?=K y):CK f z ys (k+1) n=Ad f (ys.take k)++(f y++(List.replicate (n-(k+1)) z).flatten):=by unfold CK;obtain⟨a,rfl⟩:=f7.1 b;rw[mZ a,mW,nD];simp
theorem uw(A R:List J)(a c0:J)(i:Nat)(h: ↑A=i):(A++([a]++R)).set i c0=A++([c0]++R):=by subst h;simp
theorem ZO(A R:List J)(a b c0 c1:J)(i:Nat)(h: ↑A=i):((A++([a,b]++R)).set i c0).set (i+1) c1=A++([c0,c1]++R):=by subst h;simp[List.set_append_right]
theorem Rd.elem{f:α->List J}{m:Nat}{ys:List α}{g o:Nat}(a:∀y,(f y).length=m)(h:∀j u,(Ad f ys)[j]?=K u->w ⟨g,o+j,M⟩=K u)(k:Nat)(y:α)(d:ys[k]?=K y)(j:Nat)(u:J)(b:(f y)[j]?=K u):w ⟨g,o+k*m+j,M⟩=K u:=by
 have c:j<m:=by rw[<-a y];exact(f7.1 b).1
 rw[Nat.add_assoc];exact h _ u ((BI f m a ys k j y d c).trans b)
theorem Aw{p:Prop}(h:p):Ae p:=h
abbrev sN:J:=Z M 0 0
abbrev sG(g n c:Nat):J:=Z g n c
abbrev sO(g o n c:Nat):J:=Z (K ⟨g,o,M⟩) n c
abbrev iZ(z:Int):J:=Ag Af z
def EL(t:Int):Bool:=decide (1<=t/\t<=3)
theorem Xm{t:Int}(h:1<=t)(a:t<=3):EL t=true:=by unfold EL;simp;omega
theorem Od{t:Int}(h:t<1\/3<t):EL t=false:=by unfold EL;simp;omega
def word(b:Bool):Int:=if b then 1 else 0
theorem Ce(t:Int)(w:Y):Ai Aq 181 #[t] w λe c=>e=Am (EL t)/\c=w:=by
 by_cases a:1<=t
 . by_cases b:t<=3
   . rw[Xm a b];go_enter func181,ntmps181;go_wp2;go_ret;exact⟨rfl,rfl⟩
   rw[Od oM];go_enter func181,ntmps181;go_wp2;go_ret;exact⟨rfl,rfl⟩
 rw[Od oM];go_enter func181,ntmps181;go_wp2;go_ret;exact⟨rfl,rfl⟩
theorem C7(b:Bool)(w:Y):Ai Aq 80 #[b] w λe a=>e=Am (Ag .u32 (word b))/\a=w:=by
 cases b<;>
 . go_enter func80,ntmps80;go_wp2;go_ret;exact⟨rfl,rfl⟩
def Gi(P:Program):List Oper->Act->Option Act
 |[],a=>K a
 | o ::r,a=>
   match o.guard,o.op with
   | none,.build t parts=>
     match P.built t (parts.map λ(i,x)=>(i,a.eval x)).toList with
     |some cells=>Gi P r (a.put o.dst (An cells))
     |none=>M
   |_,_=>M
theorem IC{c:Array Oper}(rest:List Oper)(h:wpList P c Q rest a' w):
 ∀(l:List Oper) (a:Act),Gi P l a=K a'->wpList P c Q (l++rest) a w
 | [],a,hb=>by simp only[Gi,lX]at hb;subst hb;exact h
 | o ::r,a,hb=>by
   unfold Gi at hb;split at hb
   . next t parts d e=>
     split at hb
     . next cells b=>
       refine wpList_build d t parts e (by rw[b];rfl) ?_;rw[b];exact IC rest h r _ hb
     . cases hb
   . cases hb
theorem PJ{s:Array Oper}{l:List Oper}{a:Act}(n:Nat)(ty t:Aj)(x y:Operand)(g:Nat)(cells d:Array J)(p:Tmp)
 (j:(Gi P (l.take n) a).map (λa'=>(a'.eval x,a'.eval y,a'.tmps.getD p undef,a'.defers))=K (.pointer g,An cells,.pointer g,[]))
 (b:(l.drop n).map (λo=>(o.guard,o.op,o.dst))=[(M,.store ty x y,M)])
 (k:w.heap[g]?=K (Ak d t (0,0))) (m:(P.info? ty).map (·.size)=K cells.size)
 (q:d.size=cells.size) (e:cells.all (·.oneCell')=true)
 (h:∀a',a'.tmps.getD p undef=.pointer g->a'.defers=[]->Q .normal a' (w.setRow g cells)):wpList P s Q l a w:=by
 rw[<-n9 n l];obtain⟨a',f,c⟩:=nJ.1 j;simp only[Prod.mk.injEq]at c;refine IC (a':=a') _ ?_ _ _ f;generalize l.drop n=r at b;rcases r with _|⟨o,_|⟨v,u⟩⟩
 . cases b
 . simp only[nh,List.map_nil,ov,Prod.mk.injEq,oZ]at b;refine wpList_store_row b.1 ty x y b.2.1 g cells c.1 c.2.1 t d k m q e ?_;rw[b.2.2];exact wpList_nil (h _ c.2.2.1 c.2.2.2)
 simp at b
def ZC(x y:Int):Int:=if y==0 then 0 else wrap32 (x.tdiv y)
def XR(x y:Int):Int:=if y==0 then 0 else IntKind.u32.wrap (x.tdiv y)
def XU(x y:Int):Int:=if y==0 then 0 else x.tmod y
theorem Ps(x y:Int)(w:Y):Ai Aq 146 #[Ag .i32 x,Ag .i32 y] w λe b=>e=Am (Ag .i32 (ZC x y))/\b=w:=by
 cases hy:(y==0)
 . (have c:¬y=0:=by simpa using hy);have a:ZC x y=_:=lY (by rw[hy];simp);rw[a];clear a;go_enter func146,ntmps146;go_wp2;go_ret;exact⟨rfl,rfl⟩
 have a:ZC x y=_:=mE hy;rw[a];clear a;go_enter func146,ntmps146;go_wp2;go_ret;exact⟨rfl,rfl⟩
theorem Pt(x y:Int)(w:Y):Ai Aq 147 #[Ag .u32 x,Ag .u32 y] w λe b=>e=Am (Ag .u32 (XR x y))/\b=w:=by
 cases hy:(y==0)
 . (have c:¬y=0:=by simpa using hy);have a:XR x y=_:=lY (by rw[hy];simp);rw[a];clear a;go_enter func147,ntmps147;go_wp2;go_ret;exact⟨rfl,rfl⟩
 have a:XR x y=_:=mE hy;rw[a];clear a;go_enter func147,ntmps147;go_wp2;go_ret;exact⟨rfl,rfl⟩
theorem NB(x y:Int)(w:Y):Ai Aq 148 #[Ag .i32 x,Ag .i32 y] w λe b=>e=Am (Ag .i32 (XU x y))/\b=w:=by
 cases hy:(y==0)
 . (have c:¬y=0:=by simpa using hy);have a:XU x y=_:=lY (by rw[hy];simp);rw[a];clear a;go_enter func148,ntmps148;go_wp2;go_ret;exact⟨rfl,rfl⟩
 have a:XU x y=_:=mE hy;rw[a];clear a;go_enter func148,ntmps148;go_wp2;go_ret;exact⟨rfl,rfl⟩
theorem NC(x y:Int)(w:Y):Ai Aq 149 #[Ag .u32 x,Ag .u32 y] w λe b=>e=Am (Ag .u32 (XU x y))/\b=w:=by
 cases hy:(y==0)
 . (have c:¬y=0:=by simpa using hy);have a:XU x y=_:=lY (by rw[hy];simp);rw[a];clear a;go_enter func149,ntmps149;go_wp2;go_ret;exact⟨rfl,rfl⟩
 have a:XU x y=_:=mE hy;rw[a];clear a;go_enter func149,ntmps149;go_wp2;go_ret;exact⟨rfl,rfl⟩
def YS(t x y:Int):Int:=(x+y) % 4294967296
def YX(t x y:Int):Int:=(x-y) % 4294967296
def YT(t x y:Int):Int:=x*y % 4294967296
def UH(t x y:Int):Int:=if t==2 then IntKind.u32.wrap (ZC (wrap32 x) (wrap32 y))else XR x y
def UI(t x y:Int):Int:=if t==2 then IntKind.u32.wrap (XU (wrap32 x) (wrap32 y))else XU x y
def rh(t x y:Int):Int:=bits .and .u32 x y
def uk(t x y:Int):Int:=bits .or .u32 x y
def ri(t x y:Int):Int:=bits .xor .u32 x y
def UJ(t x y:Int):Int:=if t==1 then word (x==0)else bits .xor .u32 IntKind.u32.max x
def YV(t x y:Int):Int:=x*2 ^ (bits .and .u32 y 31).toNat % 4294967296
def YW(t x y:Int):Int:=x / 2 ^ (bits .and .u32 y 31).toNat
def YU(t x y:Int):Int:=-x % 4294967296
def tO(t x y:Int):Int:=word (x==y)
def N4(t x y:Int):Int:=if t==2 then word (decide (wrap32 x<wrap32 y))else word (decide (x<y))
theorem Jg(y:Int):0<=bits .and .u32 y 31/\bits .and .u32 y 31<=31:=by
 have b:(BitVec.ofInt 32 y &&& BitVec.ofInt 32 31).toNat<=31:=by rw[BitVec.toNat_and];have:(BitVec.ofInt 32 31).toNat=31:=dC;rw[this];exact Nat.and_le_right
 have a:bits .and .u32 y 31=((BitVec.ofInt 32 y &&& BitVec.ofInt 32 31).toNat:Int) % 4294967296:=by rfl
 rw[a];omega
theorem rH(t x y:Int)(w:Y):Ai Aq 81 #[t,Ag .u32 x,Ag .u32 y] w λe a=>e=Am (Ag .u32 (YS t x y))/\a=w:=by have b:=Jg y;go_enter func81,ntmps81;go_wp2;go_ret;exact⟨rfl,rfl⟩
theorem Q9(t x y:Int)(w:Y):Ai Aq 82 #[t,Ag .u32 x,Ag .u32 y] w λe a=>e=Am (Ag .u32 (YX t x y))/\a=w:=by have b:=Jg y;go_enter func82,ntmps82;go_wp2;go_ret;exact⟨rfl,rfl⟩
theorem Q8(t x y:Int)(w:Y):Ai Aq 83 #[t,Ag .u32 x,Ag .u32 y] w λe a=>e=Am (Ag .u32 (YT t x y))/\a=w:=by have b:=Jg y;go_enter func83,ntmps83;go_wp2;go_ret;exact⟨rfl,rfl⟩
theorem Ve(t x y:Int)(w:Y):Ai Aq 86 #[t,Ag .u32 x,Ag .u32 y] w λe a=>e=Am (Ag .u32 (rh t x y))/\a=w:=by have b:=Jg y;go_enter func86,ntmps86;go_wp2;go_ret;exact⟨rfl,rfl⟩
theorem XD(t x y:Int)(w:Y):Ai Aq 87 #[t,Ag .u32 x,Ag .u32 y] w λe a=>e=Am (Ag .u32 (uk t x y))/\a=w:=by have b:=Jg y;go_enter func87,ntmps87;go_wp2;go_ret;exact⟨rfl,rfl⟩
theorem Vf(t x y:Int)(w:Y):Ai Aq 88 #[t,Ag .u32 x,Ag .u32 y] w λe a=>e=Am (Ag .u32 (ri t x y))/\a=w:=by have b:=Jg y;go_enter func88,ntmps88;go_wp2;go_ret;exact⟨rfl,rfl⟩
theorem Pq(t x y:Int)(w:Y):Ai Aq 90 #[t,Ag .u32 x,Ag .u32 y] w λe a=>e=Am (Ag .u32 (YV t x y))/\a=w:=by have b:=Jg y;go_enter func90,ntmps90;go_wp2;go_ret;exact⟨rfl,rfl⟩
theorem NA(t x y:Int)(w:Y):Ai Aq 91 #[t,Ag .u32 x,Ag .u32 y] w λe a=>e=Am (Ag .u32 (YW t x y))/\a=w:=by have b:=Jg y;go_enter func91,ntmps91;go_wp2;go_ret;exact⟨rfl,rfl⟩
theorem Vj(t x y:Int)(w:Y):Ai Aq 92 #[t,Ag .u32 x,Ag .u32 y] w λe a=>e=Am (Ag .u32 (YU t x y))/\a=w:=by have b:=Jg y;go_enter func92,ntmps92;go_wp2;go_ret;exact⟨rfl,rfl⟩
theorem XE(t x y:Int)(w:Y):Ai Aq 93 #[t,Ag .u32 x,Ag .u32 y] w λe a=>e=Am (Ag .u32 (tO t x y))/\a=w:=by go_enter func93,ntmps93;go_wp2_with (go_at_call 80;refine(C7 _ _).mono ?_;rintro e a ⟨rfl,rfl⟩);go_ret;exact⟨rfl,rfl⟩
theorem Zx(t x y:Int)(w:Y):Ai Aq 94 #[t,Ag .u32 x,Ag .u32 y] w λe b=>e=Am (Ag .u32 (N4 t x y))/\b=w:=by
 cases ht:(t==2)
 . have a:N4 t x y=_:=lY (by rw[ht];simp);rw[a];clear a;go_enter func94,ntmps94;go_wp2_with (go_at_call 80;refine(C7 _ _).mono ?_;rintro e b ⟨rfl,rfl⟩);go_ret;exact⟨rfl,rfl⟩
 have a:N4 t x y=_:=mE ht;rw[a];clear a;go_enter func94,ntmps94;go_wp2_with (go_at_call 80;refine(C7 _ _).mono ?_;rintro e b ⟨rfl,rfl⟩);go_ret;exact⟨rfl,rfl⟩
theorem rI(t x y:Int)(w:Y):Ai Aq 89 #[t,Ag .u32 x,Ag .u32 y] w λe b=>e=Am (Ag .u32 (UJ t x y))/\b=w:=by
 cases ht:(t==1)
 . have a:UJ t x y=_:=lY (by rw[ht];simp);rw[a];clear a;go_enter func89,ntmps89;go_wp2_with (go_at_call 80;refine(C7 _ _).mono ?_;rintro e b ⟨rfl,rfl⟩);go_ret;exact⟨rfl,rfl⟩
 have a:UJ t x y=_:=mE ht;rw[a];clear a;go_enter func89,ntmps89;go_wp2_with (go_at_call 80;refine(C7 _ _).mono ?_;rintro e b ⟨rfl,rfl⟩);go_ret;exact⟨rfl,rfl⟩
theorem Vg(t x y:Int)(w:Y):Ai Aq 84 #[t,Ag .u32 x,Ag .u32 y] w λe b=>e=Am (Ag .u32 (UH t x y))/\b=w:=by
 cases ht:(t==2)
 . have a:UH t x y=_:=lY (by rw[ht];simp);rw[a];clear a;go_enter func84,ntmps84;go_wp2_with (go_at_call 147;refine(Pt _ _ _).mono ?_;rintro e b ⟨rfl,rfl⟩);go_ret;exact⟨rfl,rfl⟩
 have a:UH t x y=_:=mE ht;rw[a];clear a;go_enter func84,ntmps84;go_wp2_with (go_at_call 146;refine(Ps _ _ _).mono ?_;rintro e b ⟨rfl,rfl⟩);go_ret;exact⟨rfl,rfl⟩
theorem Vh(t x y:Int)(w:Y):Ai Aq 85 #[t,Ag .u32 x,Ag .u32 y] w λe b=>e=Am (Ag .u32 (UI t x y))/\b=w:=by
 cases ht:(t==2)
 . have a:UI t x y=_:=lY (by rw[ht];simp);rw[a];clear a;go_enter func85,ntmps85;go_wp2_with (go_at_call 149;refine(NC _ _ _).mono ?_;rintro e b ⟨rfl,rfl⟩);go_ret;exact⟨rfl,rfl⟩
 have a:UI t x y=_:=mE ht;rw[a];clear a;go_enter func85,ntmps85;go_wp2_with (go_at_call 148;refine(NB _ _ _).mono ?_;rintro e b ⟨rfl,rfl⟩);go_ret;exact⟨rfl,rfl⟩
def M1(f t v:Int):Int:=if EL f&&(EL t&& !(f==t))then(if t==1 then word (v != 0)else v)else 0
theorem PT(f t v:Int)(w:Y):Ai Aq 153 #[f,t,Ag .u32 v] w λe b=>e=Am (Ag .u32 (M1 f t v))/\b=w:=by
 cases hf:EL f
 . (have a:M1 f t v=0:=by simp[M1,hf]);rw[a];go_enter func153,ntmps153;go_wp2_with (go_at_call 181;refine(Ce _ _).mono ?_;rintro e b ⟨rfl,rfl⟩);go_ret;exact⟨rfl,rfl⟩
 cases ht:EL t
 . (have a:M1 f t v=0:=by simp[M1,ht]);rw[a];go_enter func153,ntmps153;go_wp2_with (go_at_call 181;refine(Ce _ _).mono ?_;rintro e b ⟨rfl,rfl⟩);go_ret;exact⟨rfl,rfl⟩
 cases he:(f==t)
 . cases h1:(t==1)
   . (have a:M1 f t v=v:=by simp only[M1,hf,ht,he,h1];rfl);rw[a];go_enter func153,ntmps153;go_wp2_with (go_at_call 181;refine(Ce _ _).mono ?_;rintro e b ⟨rfl,rfl⟩);go_ret;exact⟨rfl,rfl⟩
   (have a:M1 f t v=word (v != 0):=by simp only[M1,hf,ht,he,h1];rfl);rw[a];go_enter func153,ntmps153;go_wp2_with (first|(go_at_call 181;refine(Ce _ _).mono ?_;rintro e b ⟨rfl,rfl⟩)|(go_at_call 80;refine(C7 _ _).mono ?_;rintro e b ⟨rfl,rfl⟩));go_ret;exact⟨rfl,rfl⟩
 have a:M1 f t v=0:=by simp only[M1,hf,ht,he];rfl
 rw[a];go_enter func153,ntmps153;go_wp2_with (go_at_call 181;refine(Ce _ _).mono ?_;rintro e b ⟨rfl,rfl⟩);go_ret;exact⟨rfl,rfl⟩
structure MI where
 op:Int
 a:Int
 b:Int
 c:Int
structure MC where
 type:Int
 word:Int
structure MT where
 func:Int
 head:Int
 dT:Int
 init:Int
def MI.cells(x:MI):List J:=[x.op,x.a,x.b,x.c]
def MC.cells(x:MC):List J:=[x.type,Ag .u32 x.word]
def MT.cells(x:MT):List J:=[x.func,x.head,x.dT,Ag .u32 x.init]
theorem MI.bW(x:MI):x.cells.length=4:=rfl
theorem MC.bW(x:MC):x.cells.length=2:=rfl
theorem MT.bW(x:MT):x.cells.length=4:=rfl
def At(z:Int):List J:=[z]
theorem AE(z:Int):(At z).length=1:=rfl
theorem Ct:(Tryz.prog.info? 2).map (λi=>(i.zero,i.size,i.bytes))=K (K (Ag Af 0),1,8):=kR
def Fx(P:Program):List Oper->Act->Option Act
 |[],a=>K a
 | o ::r,a=>
   match o.guard,o.op with
   | none,.build t parts=>
     match P.built t (parts.map λ(i,x)=>(i,a.eval x)).toList with
     |some cells=>Fx P r (a.put o.dst (An cells))
     |none=>M
   |none,.move x=>Fx P r (a.put o.dst (a.eval x))
   |none,.makeFunc (.func f) first captured=>Fx P r (a.put o.dst (.func (.func f) (first.map a.eval) (captured.map a.eval)))
   |_,_=>M
theorem PH{b:Array Oper}{o:Oper}{a:Act}(d:o.guard=M)(x:Operand)(e:o.op=.move x)(h:wpList P b Q rest (a.put o.dst (a.eval x)) w):wpList P b Q (o::rest) a w:=wpList_plain d λK c=>by unfold Oper.wp execOp;simp only[e,Sem.run_pure];exact c _ _ h
theorem Ka{c:Array Oper}{o:Oper}{a:Act}(e:o.guard=M)(f:Nat)(first b:Array Operand)(g:o.op=.makeFunc (.func f) first b)(h:wpList P c Q rest (a.put o.dst (.func (.func f) (first.map a.eval) (b.map a.eval))) w):wpList P c Q (o::rest) a w:=wpList_plain e λK d=>by unfold Oper.wp execOp;simp only[g,Instr.makeFunc,Sem.run_bind,Sem.run_pure,Result.andThen_ok];exact d _ _ h
theorem Et{e:Array Oper}(rest:List Oper)(h:wpList P e Q rest a' w):
 ∀(l:List Oper) (a:Act),Fx P l a=K a'->wpList P e Q (l++rest) a w
 | [],a,hb=>by simp only[Fx,lX]at hb;subst hb;exact h
 | o ::r,a,hb=>by
   unfold Fx at hb;split at hb
   . next t parts b c=>
     split at hb
     . next cells d=>
       refine wpList_build b t parts c (by rw[d];rfl) ?_;rw[d];exact Et rest h r _ hb
     . cases hb
   . next x b c=>exact PH b x c (Et rest h r _ hb)
   . next f first g b c=>exact Ka b f first g c (Et rest h r _ hb)
   cases hb
theorem NJ{s:Array Oper}{l:List Oper}{a:Act}(n:Nat)(ty t:Aj)(x y:Operand)(g:Nat)(cells d:Array J)(p:Tmp)
 (j:(Fx P (l.take n) a).map (λa'=>(a'.eval x,a'.eval y,a'.tmps.getD p undef,a'.defers))=K (.pointer g,An cells,.pointer g,[]))
 (b:(l.drop n).map (λo=>(o.guard,o.op,o.dst))=[(M,.store ty x y,M)])
 (k:w.heap[g]?=K (Ak d t (0,0))) (m:(P.info? ty).map (·.size)=K cells.size)
 (q:d.size=cells.size) (e:cells.all (·.oneCell')=true)
 (h:∀a',a'.tmps.getD p undef=.pointer g->a'.defers=[]->Q .normal a' (w.setRow g cells)):wpList P s Q l a w:=by
 rw[<-n9 n l];obtain⟨a',f,c⟩:=nJ.1 j;simp only[Prod.mk.injEq]at c;refine Et (a':=a') _ ?_ _ _ f;generalize l.drop n=r at b;rcases r with _|⟨o,_|⟨v,u⟩⟩
 . cases b
 . simp only[nh,List.map_nil,ov,Prod.mk.injEq,oZ]at b;refine wpList_store_row b.1 ty x y b.2.1 g cells c.1 c.2.1 t d k m q e ?_;rw[b.2.2];exact wpList_nil (h _ c.2.2.1 c.2.2.2)
 simp at b
def RM:Array J:=#[.string ⟨#[]⟩,Ag Af 0,Ag Af 0,.nilFunc,
 .string ⟨#[]⟩,Ag Af 0,Ag Af 0,.nilFunc,
 .string ⟨#[]⟩,Ag Af 0,Ag Af 0,.nilFunc,
 .string ⟨#[]⟩,Ag Af 0,Ag Af 0,.nilFunc,
 .string ⟨#[]⟩,Ag Af 0,Ag Af 0,.nilFunc,
 .string ⟨#[]⟩,Ag Af 0,Ag Af 0,.nilFunc,
 .string ⟨#[]⟩,Ag Af 0,Ag Af 0,.nilFunc,
 .string ⟨#[]⟩,Ag Af 0,Ag Af 0,.nilFunc,
 .string ⟨#[]⟩,Ag Af 0,Ag Af 0,.nilFunc,
 .string ⟨#[]⟩,Ag Af 0,Ag Af 0,.nilFunc,
 .string ⟨#[]⟩,Ag Af 0,Ag Af 0,.nilFunc,
 .string ⟨#[]⟩,Ag Af 0,Ag Af 0,.nilFunc,
 .string ⟨#[]⟩,Ag Af 0,Ag Af 0,.nilFunc,
 .string ⟨#[]⟩,Ag Af 0,Ag Af 0,.nilFunc,
 .string ⟨#[]⟩,Ag Af 0,Ag Af 0,.nilFunc,
 .string ⟨#[]⟩,Ag Af 0,Ag Af 0,.nilFunc,
 .string ⟨#[]⟩,Ag Af 0,Ag Af 0,.nilFunc,
 .string ⟨#[]⟩,Ag Af 0,Ag Af 0,.nilFunc,
 .string ⟨#[]⟩,Ag Af 0,Ag Af 0,.nilFunc,
 .string ⟨#[]⟩,Ag Af 0,Ag Af 0,.nilFunc,
 .string ⟨#[]⟩,Ag Af 0,Ag Af 0,.nilFunc,
 .string ⟨#[]⟩,Ag Af 0,Ag Af 0,.nilFunc,
 .string ⟨#[]⟩,Ag Af 0,Ag Af 0,.nilFunc,
 .string ⟨#[]⟩,Ag Af 0,Ag Af 0,.nilFunc,
 .string ⟨#[]⟩,Ag Af 0,Ag Af 0,.nilFunc,
 .string ⟨#[]⟩,Ag Af 0,Ag Af 0,.nilFunc,
 .string ⟨#[]⟩,Ag Af 0,Ag Af 0,.nilFunc,
 .string ⟨#[]⟩,Ag Af 0,Ag Af 0,.nilFunc,
 .string ⟨#[]⟩,Ag Af 0,Ag Af 0,.nilFunc,
 .string ⟨#[]⟩,Ag Af 0,Ag Af 0,.nilFunc]
def BP:Array J:=#[.string ⟨#[110,111,112]⟩,Ag Af 1,Ag Af 0,.nilFunc,
 .string ⟨#[99,111,110,115,116]⟩,Ag Af 1,Ag Af 1,.nilFunc,
 .string ⟨#[108,111,97,100,108,111,99,97,108]⟩,Ag Af 1,Ag Af 2,.nilFunc,
 .string ⟨#[115,116,111,114,101,108,111,99,97,108]⟩,Ag Af 1,Ag Af 2,.nilFunc,
 .string ⟨#[108,111,97,100]⟩,Ag Af 2,Ag Af 3,.nilFunc,
 .string ⟨#[115,116,111,114,101]⟩,Ag Af 2,Ag Af 3,.nilFunc,
 .string ⟨#[108,111,97,100,97,116]⟩,Ag Af 3,Ag Af 4,.nilFunc,
 .string ⟨#[115,116,111,114,101,97,116]⟩,Ag Af 3,Ag Af 4,.nilFunc,
 .string ⟨#[97,100,100]⟩,Ag Af 1,Ag Af 5,.func (.func 81) #[] #[],
 .string ⟨#[115,117,98]⟩,Ag Af 1,Ag Af 5,.func (.func 82) #[] #[],
 .string ⟨#[109,117,108]⟩,Ag Af 3,Ag Af 5,.func (.func 83) #[] #[],
 .string ⟨#[100,105,118]⟩,Ag Af 8,Ag Af 5,.func (.func 84) #[] #[],
 .string ⟨#[109,111,100]⟩,Ag Af 8,Ag Af 5,.func (.func 85) #[] #[],
 .string ⟨#[97,110,100]⟩,Ag Af 1,Ag Af 6,.func (.func 86) #[] #[],
 .string ⟨#[111,114]⟩,Ag Af 1,Ag Af 6,.func (.func 87) #[] #[],
 .string ⟨#[120,111,114]⟩,Ag Af 1,Ag Af 6,.func (.func 88) #[] #[],
 .string ⟨#[110,111,116]⟩,Ag Af 1,Ag Af 6,.func (.func 89) #[] #[],
 .string ⟨#[115,104,108]⟩,Ag Af 1,Ag Af 0,.func (.func 90) #[] #[],
 .string ⟨#[115,104,114]⟩,Ag Af 1,Ag Af 0,.func (.func 91) #[] #[],
 .string ⟨#[110,101,103]⟩,Ag Af 1,Ag Af 0,.func (.func 92) #[] #[],
 .string ⟨#[101,113]⟩,Ag Af 1,Ag Af 7,.func (.func 93) #[] #[],
 .string ⟨#[108,101,115,115]⟩,Ag Af 1,Ag Af 5,.func (.func 94) #[] #[],
 .string ⟨#[99,111,110,118]⟩,Ag Af 1,Ag Af 8,.nilFunc,
 .string ⟨#[100,117,112]⟩,Ag Af 1,Ag Af 0,.nilFunc,
 .string ⟨#[100,114,111,112]⟩,Ag Af 1,Ag Af 0,.nilFunc,
 .string ⟨#[106,117,109,112]⟩,Ag Af 2,Ag Af 9,.nilFunc,
 .string ⟨#[106,117,109,112,122,101,114,111]⟩,Ag Af 2,Ag Af 9,.nilFunc,
 .string ⟨#[103,117,97,114,100]⟩,Ag Af 2,Ag Af 10,.nilFunc,
 .string ⟨#[99,97,108,108]⟩,Ag Af 4,Ag Af 11,.nilFunc,
 .string ⟨#[114,101,116,117,114,110]⟩,Ag Af 2,Ag Af 0,.nilFunc]
theorem V4(w:Y):(zeroValue 82).run Aq w=.ok (An RM) w:=kR
theorem Mp(w:Y):Ai Aq 45 #[] w λe c=>e=Am (An BP)/\Ah w w c:=by have d:=V4;go_enter func45,ntmps45;go_wp2_with (show wpList _ _ _ ({dst:=K 1,op:=Op.build _ _,type:=_,pos:=_,after:=_,guard:=_}::_) _ _;refine PJ 61 82 82 (.tmp 0) (.tmp 61) w BP RM 0 kR rfl (oe _ _) kR kR kR ?_;intro a' b a);rw[World.setRow_alloc_new];exact mM (v:=An BP) (results_cell_row results45 _ _ w 82 BP (0,0) _ b (oe _ _) underlying82 rfl kR) a ⟨rfl,(mP _ _).alloc lR _⟩
def CR(k:Nat):Array J:=BP.extract (4*k) (4*k+4)
theorem SK(k:Nat)(a:k<30)(w:Y):(Instr.index 82 (An BP) k).run Aq w=.ok (An (CR k)) w:=by
 have h:k=0\/k=1\/k=2\/k=3\/k=4\/k=5\/k=6\/k=7\/k=8\/k=9\/k=10\/k=11\/k=12\/k=13\/k=14\/k=15\/k=16\/k=17\/k=18\/k=19\/k=20\/k=21\/k=22\/k=23\/k=24\/k=25\/k=26\/k=27\/k=28\/k=29:=oM
 clear a;rcases h with rfl|rfl|rfl|rfl|rfl|rfl|rfl|rfl|rfl|rfl|rfl|rfl|rfl|rfl|rfl|rfl|rfl|rfl|rfl|rfl|rfl|rfl|rfl|rfl|rfl|rfl|rfl|rfl|rfl|rfl<;>(show Sem.run _ _ _=Result.ok _ _;kernel_rfl)
theorem NE(k:Nat)(b:k<30):(CR k).size=4:=by have a:BP.size=120:=kR;simp[CR,a];omega
theorem Pu(k:Nat)(d:k<30):(CR k).all (·.oneCell')=true:=by have a:BP.all (·.oneCell')=true:=kR;rw[Array.all_eq_true_iff_forall_mem]at a⊢;intro v b;unfold CR at b;obtain⟨i,c,rfl⟩:=Array.mem_iff_getElem.1 b;rw[Array.getElem_extract];exact a _ (Array.getElem_mem _)
theorem RN(w:Y):(zeroValue 81).run Aq w=.ok (An #[.string ⟨#[]⟩,Ag Af 0,Ag Af 0,.nilFunc]) w:=kR
theorem VC(op:Int)(w:Y)(h:op<0\/29<op):Ai Aq 201 #[op] w λe a=>e=Am (An #[.string ⟨#[]⟩,Ag Af 0,Ag Af 0,.nilFunc])/\Ah w w a:=by
 have d:=RN;rcases h with h|h
 . go_enter func201,ntmps201;go_wp2;exact mM (v:=An #[.string ⟨#[]⟩,Ag Af 0,Ag Af 0,.nilFunc]) (by simp[results,results201,go_sem]) rfl ⟨rfl,(mP _ _).alloc lR _⟩
 have b:decide (op<0)=false:=oT;have c:decide (29<op)=true:=oT;go_enter func201,ntmps201;go_wp2;exact mM (v:=An #[.string ⟨#[]⟩,Ag Af 0,Ag Af 0,.nilFunc]) (by simp[results,results201,go_sem]) rfl ⟨rfl,(mP _ _).alloc lR _⟩
theorem XY(k:Nat)(b:k<30)(w:Y):Ai Aq 201 #[k] w λe h=>e=Am (An (CR k))/\Ah w w h:=by
 have p:=RN;have l:decide ((k:Int)<0)=false:=sP;have m:decide (29<(k:Int))=false:=oT;have n:=SK k b;have g:=NE k b;have d:=Pu k b;have a:Ae ((CR k).size=4/\(CR k).all (·.oneCell')=true):=⟨g,d⟩
 clear g d;go_enter func201,ntmps201;go_wp2_with (first
  |(go_at_call 45;refine(Mp _).mono ?_;rintro e j ⟨rfl,c⟩;have f:j.heap[w.heap.size]?=K (Ak #[.string ⟨#[]⟩,Ag Af 0,Ag Af 0,.nilFunc] 81):=(c.block _ sP).trans (oe _ _))
  |(show wpList _ _ _ ({dst:=M,op:=Op.store 81 _ _,type:=_,pos:=_,after:=_,guard:=_}::_) _ _;refine wpList_store_row rfl 81 (.tmp 2) (.tmp 12) rfl w (CR k) rfl rfl 81 #[.string ⟨#[]⟩,Ag Af 0,Ag Af 0,.nilFunc] f (by rw[a.1];kernel_rfl) (by rw[a.1];rfl) a.2 ?_))
 refine mM (v:=An (CR k)) (results_cell_row results201 _ _ w 81 (CR k) (0,0) _ rfl (setRow_heap _ _ _ _ _ _ f) underlying81 rfl (by rw[a.1];kernel_rfl)) rfl ⟨rfl,?_⟩;exact below_setRow (((mP _ _).alloc lR _).trans (c.mono sP)) lR _
def UQ:Array J:=#[.string ⟨#[110,111,112]⟩,Ag Af 1,Ag Af 0,
 .string ⟨#[99,111,110,115,116]⟩,Ag Af 1,Ag Af 1,
 .string ⟨#[108,111,97,100,108,111,99,97,108]⟩,Ag Af 1,Ag Af 2,
 .string ⟨#[115,116,111,114,101,108,111,99,97,108]⟩,Ag Af 1,Ag Af 2,
 .string ⟨#[108,111,97,100]⟩,Ag Af 2,Ag Af 3,
 .string ⟨#[115,116,111,114,101]⟩,Ag Af 2,Ag Af 3,
 .string ⟨#[108,111,97,100,97,116]⟩,Ag Af 3,Ag Af 4,
 .string ⟨#[115,116,111,114,101,97,116]⟩,Ag Af 3,Ag Af 4,
 .string ⟨#[97,100,100]⟩,Ag Af 1,Ag Af 5,
 .string ⟨#[115,117,98]⟩,Ag Af 1,Ag Af 5,
 .string ⟨#[109,117,108]⟩,Ag Af 3,Ag Af 5,
 .string ⟨#[100,105,118]⟩,Ag Af 8,Ag Af 5,
 .string ⟨#[109,111,100]⟩,Ag Af 8,Ag Af 5,
 .string ⟨#[97,110,100]⟩,Ag Af 1,Ag Af 6,
 .string ⟨#[111,114]⟩,Ag Af 1,Ag Af 6,
 .string ⟨#[120,111,114]⟩,Ag Af 1,Ag Af 6,
 .string ⟨#[110,111,116]⟩,Ag Af 1,Ag Af 6,
 .string ⟨#[115,104,108]⟩,Ag Af 1,Ag Af 0,
 .string ⟨#[115,104,114]⟩,Ag Af 1,Ag Af 0,
 .string ⟨#[110,101,103]⟩,Ag Af 1,Ag Af 0,
 .string ⟨#[101,113]⟩,Ag Af 1,Ag Af 7,
 .string ⟨#[108,101,115,115]⟩,Ag Af 1,Ag Af 5,
 .string ⟨#[99,111,110,118]⟩,Ag Af 1,Ag Af 8,
 .string ⟨#[100,117,112]⟩,Ag Af 1,Ag Af 0,
 .string ⟨#[100,114,111,112]⟩,Ag Af 1,Ag Af 0,
 .string ⟨#[106,117,109,112]⟩,Ag Af 2,Ag Af 9,
 .string ⟨#[106,117,109,112,122,101,114,111]⟩,Ag Af 2,Ag Af 9,
 .string ⟨#[103,117,97,114,100]⟩,Ag Af 2,Ag Af 10,
 .string ⟨#[99,97,108,108]⟩,Ag Af 4,Ag Af 11,
 .string ⟨#[114,101,116,117,114,110]⟩,Ag Af 2,Ag Af 0]
def Js(k:Nat):List J:=(UQ.extract (3*k) (3*k+3)).toList
theorem VZ(w:Y):(zeroValue 78).run Aq w=.ok (An #[.string ⟨#[]⟩,Ag Af 0,Ag Af 0]) w:=kR
def Ci(f t:Int):Bool:=if f==5 then(t==2||t==3)else if f==6 then(t==1||t==3)else if f==7 then EL t else true
def Ds(op t x y:Int):Int:=
 if op=8 then(if Ci 5 t then YS t x y else 0)else
 if op=9 then(if Ci 5 t then YX t x y else 0)else
 if op=10 then(if Ci 5 t then YT t x y else 0)else
 if op=11 then(if Ci 5 t then UH t x y else 0)else
 if op=12 then(if Ci 5 t then UI t x y else 0)else
 if op=13 then(if Ci 6 t then rh t x y else 0)else
 if op=14 then(if Ci 6 t then uk t x y else 0)else
 if op=15 then(if Ci 6 t then ri t x y else 0)else
 if op=16 then(if Ci 6 t then UJ t x y else 0)else
 if op=17 then(if Ci 0 t then YV t x y else 0)else
 if op=18 then(if Ci 0 t then YW t x y else 0)else
 if op=19 then(if Ci 0 t then YU t x y else 0)else
 if op=20 then(if Ci 7 t then tO t x y else 0)else
 if op=21 then(if Ci 5 t then N4 t x y else 0)else
 0
structure MF where
 aP:List Int
 cu:Int
 aB:List Int
 aU:List MI
structure VF where
 p:J
 l:J
 c:J
def FD(w:Y)(v:VF)(f:MF):Prop:=Rd w 1 v.p f.aP (Ad At f.aP)/\Rd w 1 v.l f.aB (Ad At f.aB)/\Rd w 4 v.c f.aU (Ad MI.cells f.aU)
def MF.small(f:MF):Prop:=f.aP.length<=1048576/\f.aB.length<=1048576/\f.aU.length<=1048576
theorem FD.av{w c:Y}{v:VF}{f:MF}(h:FD w v f)(b:Ah B w c)(a: ↑w<=B):FD c v f:=⟨h.1.av b a,h.2.1.av b a,h.2.2.av b a⟩
theorem Bm{base a:Nat}{k n:Nat}(h:Ab w base e k s n xs)(d:a<=base):Ab w a e k s n xs:=by
 refine⟨h.1,?_⟩;rcases h.2 with h|⟨g,cap,b,c,f,j,l⟩
 . exact .inl h
 exact .inr ⟨g,cap,b,c,mC d f,j,l⟩
def BT(a:Nat):Array J:=#[.func (.func 95) #[.pointer a] #[],.func (.func 96) #[.pointer a] #[],.func (.func 97) #[.pointer a] #[],.func (.func 98) #[.pointer a] #[],.func (.func 99) #[.pointer a] #[],.func (.func 100) #[.pointer a] #[],.func (.func 101) #[.pointer a] #[],.func (.func 102) #[.pointer a] #[],.func (.func 103) #[.pointer a] #[],.func (.func 103) #[.pointer a] #[],.func (.func 103) #[.pointer a] #[],.func (.func 103) #[.pointer a] #[],.func (.func 103) #[.pointer a] #[],.func (.func 103) #[.pointer a] #[],.func (.func 103) #[.pointer a] #[],.func (.func 103) #[.pointer a] #[],.func (.func 104) #[.pointer a] #[],.func (.func 103) #[.pointer a] #[],.func (.func 103) #[.pointer a] #[],.func (.func 104) #[.pointer a] #[],.func (.func 105) #[.pointer a] #[],.func (.func 105) #[.pointer a] #[],.func (.func 106) #[.pointer a] #[],.func (.func 107) #[.pointer a] #[],.func (.func 108) #[.pointer a] #[],.func (.func 109) #[.pointer a] #[],.func (.func 110) #[.pointer a] #[],.func (.func 111) #[.pointer a] #[],.func (.func 112) #[.pointer a] #[],.func (.func 113) #[.pointer a] #[]]
def JG:Array J:=#[.nilFunc,.nilFunc,.nilFunc,.nilFunc,.nilFunc,.nilFunc,.nilFunc,.nilFunc,.nilFunc,.nilFunc,.nilFunc,.nilFunc,.nilFunc,.nilFunc,.nilFunc,.nilFunc,.nilFunc,.nilFunc,.nilFunc,.nilFunc,.nilFunc,.nilFunc,.nilFunc,.nilFunc,.nilFunc,.nilFunc,.nilFunc,.nilFunc,.nilFunc,.nilFunc]
theorem VY(w:Y):(zeroValue 85).run Aq w=.ok (An JG) w:=kR
theorem Lr(a:Nat)(w:Y):Ai Aq 46 #[.pointer a] w λe d=>e=Am (An (BT a))/\Ah w w d:=by
 have f:=VY;go_enter func46,ntmps46;go_upto_region 1 with fail
 refine wp_region_lit ?_;refine NJ 61 85 85 (.tmp 2) (.tmp 63) w (BT a) JG 2 kR rfl (oe _ _) kR kR kR ?_;intro a' c b;go_wp2_with fail;rw[World.setRow_alloc_new];exact mM (v:=An (BT a)) (results_cell_row results46 _ _ w 85 (BT a) (0,0) _ c (oe _ _) underlying85 rfl kR) b ⟨rfl,(mP _ _).alloc lR _⟩
def CL(op:Int):Array J:=if 0<=op/\op<=29 then(Js op.toNat).toArray else #[.string ⟨#[]⟩,Ag Af 0,Ag Af 0]
theorem UR(k:Nat)(a:k<30):CL (k:Int)=(Js k).toArray:=by unfold CL;rw[mE oM];rfl
theorem SM{op:Int}(h:op<0\/29<op):CL op=#[.string ⟨#[]⟩,Ag Af 0,Ag Af 0]:=by unfold CL;rw[lY oM]
theorem Jt(k:Nat)(a:k<30):∃(s:ByteArray) (c f:Int),(Js k).toArray=#[.string s,Ag Af c,Ag Af f]:=by
 have h:k=0\/k=1\/k=2\/k=3\/k=4\/k=5\/k=6\/k=7\/k=8\/k=9\/k=10\/k=11\/k=12\/k=13\/k=14\/k=15\/k=16\/k=17\/k=18\/k=19\/k=20\/k=21\/k=22\/k=23\/k=24\/k=25\/k=26\/k=27\/k=28\/k=29:=oM
 clear a;rcases h with rfl|rfl|rfl|rfl|rfl|rfl|rfl|rfl|rfl|rfl|rfl|rfl|rfl|rfl|rfl|rfl|rfl|rfl|rfl|rfl|rfl|rfl|rfl|rfl|rfl|rfl|rfl|rfl|rfl|rfl<;>exact⟨_,_,_,rfl⟩
theorem QT(op:Int):∃(s:ByteArray) (c f:Int),CL op=#[.string s,Ag Af c,Ag Af f]:=by
 by_cases h:0<=op/\op<=29
 . unfold CL;rw[mE h];exact Jt _ oM
 unfold CL;rw[lY h];exact⟨_,_,_,rfl⟩
theorem Sx(k:Nat)(a:k<30)(w:Y):(Instr.field 81 (An (CR k)) 0).run Aq w=.ok (An (Js k).toArray) w:=by
 have h:k=0\/k=1\/k=2\/k=3\/k=4\/k=5\/k=6\/k=7\/k=8\/k=9\/k=10\/k=11\/k=12\/k=13\/k=14\/k=15\/k=16\/k=17\/k=18\/k=19\/k=20\/k=21\/k=22\/k=23\/k=24\/k=25\/k=26\/k=27\/k=28\/k=29:=oM
 clear a;rcases h with rfl|rfl|rfl|rfl|rfl|rfl|rfl|rfl|rfl|rfl|rfl|rfl|rfl|rfl|rfl|rfl|rfl|rfl|rfl|rfl|rfl|rfl|rfl|rfl|rfl|rfl|rfl|rfl|rfl|rfl<;>(show Sem.run _ _ _=Result.ok _ _;kernel_rfl)
theorem Sy(w:Y):(Instr.field 81 (An #[.string ⟨#[]⟩,Ag Af 0,Ag Af 0,.nilFunc]) 0).run Aq w=.ok (An #[.string ⟨#[]⟩,Ag Af 0,Ag Af 0]) w:=kR
theorem Ts(op:Int)(row:J)(s:ByteArray)(c f:Int)(l:CL op=#[.string s,Ag Af c,Ag Af f])
 (a:∀w,Ai Aq 201 #[op] w λe d=>e=Am row/\Ah w.heap.size w d)
 (m:∀w,(Instr.field 81 row 0).run Aq w=.ok (An #[.string s,c,f]) w) (w:Y):
 Ai Aq 182 #[op] w λe d=>e=Am (An (CL op))/\Ah w.heap.size w d:=by
 have n:=VZ;rw[l];clear l;have H:Ae (∀w,Ai Aq 201 #[op] w λe d=>e=Am row/\Ah w w d):=a
 clear a;go_enter func182,ntmps182;go_wp2_with (go_at_call 201;refine(H.o _).mono ?_;rintro e b ⟨rfl,g⟩;have a:b.heap[w.heap.size]?=K (Ak #[.string ⟨#[]⟩,Ag Af 0,Ag Af 0] 78):=(g.block _ sP).trans (oe _ _);have h:=pD b _ 0 _ _ _ a;have j:=pD b _ 1 _ _ _ a;have k:=pD b _ 2 _ _ _ a;have p:=frozen_of_row b _ 0 _ _ a;have q:=frozen_of_row b _ 1 _ _ a;have r:=frozen_of_row b _ 2 _ _ a;simp at h j k);refine mM (v:=An #[.string s,c,f]) (by simp[results,results182,go_sem,h,j,k]) rfl ⟨rfl,?_⟩;exact((((((mP _ _).alloc lR _).trans (g.mono sP)).setCell sP _).setCell sP _).setCell sP _)
theorem P5(op:Int)(w:Y):Ai Aq 182 #[Ag Af op] w λe b=>e=Am (An (CL op))/\Ah w w b:=by
 by_cases h:op<0\/29<op
 . exact Ts op _ _ _ _ (SM h) (λw=>VC op w h) Sy w
 obtain⟨k,rfl⟩:=mJ (show 0<=op from oM);obtain⟨s,c,f,a⟩:=Jt k oM;exact Ts _ _ s c f ((UR k oM).trans a) (λw=>XY k oM w) (λw=>by rw[<-a];exact Sx k oM w) w
def GH(x:MF×VF):List J:=[x.2.p,x.1.cu,x.2.l,x.2.c]
theorem AK(x:MF×VF):(GH x).length=4:=rfl
def Hy(x:List Int×J):List J:=[x.2]
theorem Dx(x:List Int×J):(Hy x).length=1:=rfl
def R8(w:Y)(s:J)(fs:List MF):Prop:=∃xs:List (MF×VF),xs.map Prod.fst=fs/\Rd w 4 s fs (Ad GH xs)/\∀x∈xs,FD w x.2 x.1
def OO(w:Y)(s:J)(rs:List (List Int)):Prop:=∃xs:List (List Int×J),xs.map Prod.fst=rs/\Rd w 1 s rs (Ad Hy xs)/\∀x∈xs,Rd w 1 x.2 x.1 (x.1.flatMap At)
theorem R8.av{w c:Y}{fs:List MF}(h:R8 w s fs)(b:Ah B w c)(a: ↑w<=B):R8 c s fs:=by obtain⟨xs,d,e,f⟩:=h;exact⟨xs,d,e.av b a, λx g=>(f x g).av b a⟩
theorem OO.av{w c:Y}{rs:List (List Int)}(h:OO w s rs)(b:Ah B w c)(a: ↑w<=B):OO c s rs:=by obtain⟨xs,d,e,f⟩:=h;exact⟨xs,d,e.av b a, λx g=>(f x g).av b a⟩
theorem FU{β:Type}{xs:List (α×β)}{fs:List α}(h:xs.map Prod.fst=fs){k:Nat}{x:α×β}(a:xs[k]?=K x):fs[k]?=K x.1:=by rw[<-h,mN,a];rfl
structure MP where
 az:List (List Int)
 b8:List MC
 aC:List MF
 bO:List MT
structure VP where
 r:J
 k:J
 f:J
 t:J
structure Eb(w:Y)(v:VP)(p:MP):Prop where
 az:OO w v.r p.az
 b8:Rd w 2 v.k p.b8 (Ad MC.cells p.b8)
 aC:R8 w v.f p.aC
 bO:Rd w 4 v.t p.bO (Ad MT.cells p.bO)
structure MP.small(p:MP):Prop where
 az:p.az.length<=1048576
 region:∀r∈p.az,r.length<=1048576
 b8:p.b8.length<=1048576
 aC:p.aC.length<=1048576
 func:∀f∈p.aC,f.small
 bO:p.bO.length<=1048576
theorem Eb.av{w c:Y}{v:VP}{p:MP}(h:Eb w v p)(b:Ah B w c)(a: ↑w<=B):Eb c v p:=⟨h.az.av b a,h.b8.av b a,h.aC.av b a,h.bO.av b a⟩
theorem AL(B:Nat)(w:Y)(nq:Nat):Ah B w (w.drewN nq):=⟨rfl,rfl,rfl,Nat.le_refl _, λ_ _=>rfl⟩
theorem Br{u:Y}(h:Ah w.drew w.drew u)(a:B<= ↑w):Ah B w u:=⟨h.os,h.tape,h.output,h.size, λk b=>h.block k (nH b a)⟩
end Go.Proofs.YtkgohaigebcgoaaGreatDoor
