import Derived.Test.YtkgohaigebcgoaaGreatDoorRows
import Derived.WalkKit
import Derived.Below
import Derived.ProofKit
import Derived.OpenShut
import Derived.Outline
import Derived.WalkLawsBesides
import Derived.Laws.Rows
import Derived.Laws.OwnMore
import Derived.OwnWalk
import Derived.Deep.QuietTactic
import Derived.BigQuiet
import Derived.Laws.Tables
import Derived.Deep.WholeRow
import Derived.Great.BuildSlice
import Derived.Laws.CopyOwn
import Derived.Laws.EntriesVeiled
import Derived.Deep.MidRow
import Derived.OneCell
import Derived.Deep.Cut
import Derived.Deep.RegionWith
namespace Go.Proofs.YtkgohaigebcgoaaGreatDoor
open Go.ChangeShapes Go.WideShapes Go.ChangeAt Go.RowKit Go.Proofs.Tryz
set_option linter.unusedVariables false
open Go.RowKit renaming Hid → Ae,Below → Ah
open Go.Value renaming slice → Z,int → Ag,agg → An
open Option renaming some → K,none → M
open Go renaming Value → J,World → Y,TypeId → Aj,Calls → Ai
open Go.IntKind renaming i64 → Af
open Go.World renaming ownsRow → Ab
open List renaming flatMap → Ad
open Go.Ending renaming returned → Am
open Go.Proofs.Tryz renaming prog → Aq
open Go.Obj renaming cells → Ak
set_option maxHeartbeats 1000000
set_option maxRecDepth 100000
variable {n base B:Nat}{w:Y}{e:Aj}{s:J}{xs:List J}{α:Type}{P:Program}{Q:Exit->Act->Y->Prop}{a':Act}{rest:List Oper}
instance:Coe World Nat:=⟨λw=>w.heap.size⟩
instance {α:Type}:CoeOut (List α) Nat:=⟨List.length⟩
instance:Coe Nat (Option Addr):=⟨λn=>some ⟨n,0,none⟩⟩
instance:Coe Nat Addr:=⟨λn=>⟨n,0,none⟩⟩
instance:CoeFun World (λ_=>Addr->Option Value):=⟨World.cell?⟩
instance:Coe Int Value:=⟨.int .i64⟩
instance:Coe Nat Value:=⟨λn=>.int .i64 (n:Int)⟩
instance:Coe Bool Value:=⟨.bool⟩
theorem lR:n<=n:=Nat.le_refl n
theorem _root_.Go.RowKit.Hid.o{p:Prop}(h:Ae p):p:=h
theorem oM{p:Prop}(h:p:=by omega):p:=h
theorem dC{p:Prop}(h:p:=by decide):p:=h
theorem kR{p:Prop}(h:p:=by kernel_rfl):p:=h
theorem sP{p:Prop}(h:p:=by simp):p:=h
theorem oS{p:Prop}(h:p:=by simp only[];omega):p:=h
theorem oX{p:Prop}(h:p:=by unfold maxLen;omega):p:=h
theorem oT{p:Prop}(h:p:=by simp;omega):p:=h
theorem oE{p:Prop}(h:p:=by simp[Act.eval]):p:=h
theorem oI{p:Prop}(h:p:=by simp[intOf];omega):p:=h
abbrev an:=@List.getElem?_eq_getElem
abbrev fd:=@And.intro
abbrev f7:=@List.getElem?_eq_some_iff
abbrev f8:=@List.getElem?_cons_zero
abbrev hC:=@List.mem_of_getElem?
abbrev i5:=@List.getElem?_toArray
abbrev i6:=@List.getElem?_cons_succ
abbrev i7:=@block_lt_of_cell
abbrev i8:=@Value.slice.injEq
abbrev i9:=@Int.toNat_natCast
abbrev jH:=@if_neg
abbrev jI:=@List.length_append
abbrev jJ:=@Option.some.injEq
abbrev jK:=@List.mem_cons
abbrev jL:=@List.mem_append
abbrev jM:=@Option.some.inj
abbrev jN:=@Nat.le_trans
abbrev jO:=@List.not_mem_nil
abbrev jP:=@if_pos
abbrev jQ:=@List.getD_eq_getElem?_getD
abbrev jR:=@List.eq_nil_of_length_eq_zero
abbrev jS:=@Array.getElem?_eq_some_iff
abbrev jT:=@List.length_replicate
abbrev jU:=@List.mem_singleton
abbrev jV:=@Nat.add_zero
abbrev jW:=@Int.eq_ofNat_of_zero_le
abbrev jX:=@List.getElem?_append_right
abbrev jY:=@List.getElem?_map
abbrev jZ:=@Below.refl
abbrev kA:=@bodyPost_ret
abbrev kB:=@List.setIfInBounds_toArray
abbrev kC:=@List.length_map
abbrev kE:=@List.length_singleton
abbrev kH:=@World.ownsRow_nil
abbrev kI:=@List.mem_map
abbrev kJ:=@List.flatMap_append
abbrev kK:=@ownsRow_setCell_other
abbrev kL:=@List.getElem?_append_left
abbrev kM:=@or_false
abbrev kN:=@List.take_succ_eq_append_getElem
abbrev kO:=@List.getElem?_eq_none
abbrev kP:=@List.take_of_length_le
abbrev kQ:=@ownsRow_setCell_below
abbrev kS:=@List.append_assoc
abbrev kT:=@Nat.zero_add
abbrev kU:=@List.set_cons_succ
abbrev kV:=@Classical.byContradiction
abbrev kW:=@true_and
abbrev kX:=@List.set_cons_zero
abbrev kY:=@List.pairwise_cons
abbrev kZ:=@List.length_drop
abbrev ke:=@List.flatMap_cons
abbrev kh:=@List.mem_cons_of_mem
abbrev ki:=@List.length_set
abbrev kj:=@decide_eq_false
abbrev km:=@info_parts
abbrev kp:=@List.length_take
abbrev kq:=@List.getElem?_of_mem
abbrev kt:=@List.mem_cons_self
abbrev ku:=@Nat.zero_le
abbrev kv:=@List.pairwise_append
abbrev kw:=@List.getElem?_set_self
abbrev kx:=@List.mem_reverse
abbrev ky:=@Bool.and_eq_true
abbrev k6:=@List.mem_range
abbrev k7:=@List.nil_append
abbrev k8:=@List.map_append
abbrev lA:=@Nat.lt_of_lt_of_le
abbrev lB:=@List.length_reverse
abbrev lC:=@decide_eq_true_eq
abbrev lD:=@bodyPost_end
abbrev lE:=@Option.map_eq_some_iff
abbrev lF:=@Bool.false_ne_true
abbrev lG:=@List.length_cons
abbrev lH:=@List.length_nil
abbrev lI:=@List.cons_append
abbrev lJ:=@Nat.mul_one
abbrev lK:=@List.append_nil
abbrev lL:=@Nat.ne_of_lt
abbrev lM:=@List.map_cons
abbrev lN:=@List.ext_getElem?
abbrev lO:=@Nat.add_sub_cancel_left
abbrev lP:=@List.mem_or_eq_of_mem_set
abbrev lQ:=@Obj.cells.injEq
abbrev lS:=@List.take_append_drop
abbrev lT:=@Addr.mk.injEq
abbrev lU:=@World.ownsMap.isMap
abbrev lV:=@List.drop_eq_getElem_cons
abbrev lW:=@List.pairwise_iff_getElem
abbrev lX:=@List.all_eq_true
abbrev lY:=@List.mem_filter
abbrev lZ:=@List.mem_flatMap
abbrev lg:=@World.ownsMap.lt
abbrev lh:=@List.getElem?_set_ne
abbrev lj:=@heap_setCell_other
abbrev lk:=@World.size_setCell
abbrev lq:=@List.filter_append
abbrev lr:=@IntWalk.i64_in
abbrev lu:=@heap_alloc_new
abbrev lw:=@Option.map_some
abbrev l8:=@World.size_alloc
abbrev l9:=@List.mem_map_of_mem
abbrev mA:=@List.getElem?_zipWith
abbrev mB:=@List.flatten_replicate_singleton
abbrev mC:=@World.ownsRow.cellAt
abbrev mD:=@and_true
abbrev mE:=@Go.Maps.keyOf_int_mk
abbrev mF:=@List.drop_of_length_le
abbrev mG:=@List.map_congr_left
abbrev mH:=@List.pairwise_map
abbrev mI:=@Nat.le_of_lt
abbrev mJ:=@List.map_map
abbrev mK:=@List.cons.injEq
abbrev mL:=@Option.getD_some
abbrev mM:=@Nat.sub_self
abbrev mN:=@beq_eq_false_iff_ne
abbrev mO:=@List.length_filter_le
abbrev mP:=@List.idxOf_lt_length_iff
abbrev mQ:=@decide_eq_false_iff_not
abbrev mR:=@List.range_succ
abbrev mS:=@List.mergeSort_perm
abbrev mT:=@List.pairwise_lt_range
abbrev mU:=@cell_of_row
abbrev mV:=@List.set_append_right
abbrev mW:=@World.ownsRow.stored
abbrev mX:=@List.nodup_append
abbrev mY:=@Array.getElem?_push_size
abbrev mZ:=@Int.toNat_of_nonneg
abbrev mc:=@wpList_make_full
abbrev mg:=@List.filter_cons
abbrev mh:=@List.getElem?_drop
abbrev mi:=@Bool.eq_iff_iff
abbrev mj:=@List.length_range
abbrev mm:=@of_decide_eq_true
abbrev mo:=@Nat.add_mul
abbrev mq:=@List.mem_of_mem_tail
abbrev mr:=@List.mem_of_mem_drop
abbrev mu:=@List.getElem_mem
abbrev mv:=@List.length_pos_iff
abbrev my:=@List.replicate_succ
abbrev m8:=@List.getElem?_range
abbrev m9:=@List.getElem?_take_of_lt
abbrev nA:=@List.idxOf_cons
abbrev nB:=@World.ownsRow_lit
abbrev nC:=@Go.IntWalk.i64_in
abbrev nD:=@List.filter_nil
abbrev nE:=@Bool.false_eq_true
abbrev nF:=@List.mem_of_mem_take
abbrev nG:=@World.cell?_of_block
def Rd(w:Y)(k:Nat)(s:J)(n:Nat)(xs:List J):Prop:=↑xs=n*k/\((n=0/\∃a c,s=Z a 0 c)\/∃g o c,s=Z (K ⟨g,o,M⟩) n c/\∀j u,xs[j]?=K u->w ⟨g,o+j,M⟩=K u)
theorem Rd.eS{k n:Nat}(h:Ab w base e k s n xs):Rd w k s n xs:=by
 refine⟨by simpa using h.1,?_⟩;rcases h.2 with⟨rfl,rfl⟩|⟨g,cap,b,rfl,f,c,m,i,l,ht⟩
 . exact .inl ⟨rfl,_,_,rfl⟩
 refine .inr ⟨g,0,cap,rfl, λj u a=> ?_⟩;rw[mU w g _ b e _ c,kT];rw[<-ht]at a;obtain⟨d,a⟩:=f7.1 a;rw[List.getElem_take]at a;rw[<-a];simp at d;rw[Array.getElem?_eq_getElem oM];simp
theorem Rd.av{d:Y}{k n:Nat}(h:Rd w k s n xs)(f:Ah B w d)(e: ↑w<=B):Rd d k s n xs:=by
 obtain⟨b,h|⟨g,o,c,rfl,i⟩⟩:=h
 . exact⟨b,.inl h⟩
 refine⟨b,.inr ⟨g,o,c,rfl, λj u l=> ?_⟩⟩;have a:=i j u l;rw[f.cell (lA (i7 a) e)];exact a
theorem Rd.aP{k:Nat}(h:Rd w k s n xs):∃a c,s=Z a n c:=by rcases h.2 with⟨rfl,a,c,rfl⟩|⟨g,o,c,rfl,_⟩<;>exact⟨_,_,rfl⟩
theorem AC{w b:Y}{k n:Nat}(h:Ab w base e k s n xs)(i:Ah B w b)(f: ↑w<=B):Ab b base e k s n xs:=by
 refine⟨h.1,?_⟩;rcases h.2 with h|⟨g,cap,c,d,j,a,l⟩
 . exact .inl h
 refine .inr ⟨g,cap,c,d,j,?_,l⟩;rw[i.block g (lA (jS.1 a).1 f)];exact a
theorem AV(f:α->List J)(m:Nat)(a:∀y,(f y).length=m)(ys:List α):(Ad f ys).length= ↑ys*m:=by
 induction ys with
 |nil=>simp
 |cons y r b=>rw[ke,jI,b,a,lG,mo];omega
theorem BM(f:α->List J)(m:Nat)(b:∀y,(f y).length=m)(ys:List α)(k j:Nat)(y:α)(a:ys[k]?=K y)(c:j<m):(Ad f ys)[k*m+j]?=(f y)[j]?:=by
 induction ys generalizing k with
 |nil=>cases a
 | cons x r d=>
   rw[ke];cases k with
   | zero=>simp only[f8,jJ]at a;subst a;rw[Nat.zero_mul,kT,kL (by rw[b];exact c)]
   | succ k=>rw[i6]at a;rw[jX (by rw[b,mo];omega),b,<-d k a];(congr 1);rw[mo];omega
def CK{α:Type}(f:α->List J)(z:List J)(ys:List α)(k n:Nat):List J:=Ad f (ys.take k)++(List.replicate (n-k) z).flatten
theorem L9(f:α->List J)(z:List J)(ys:List α)(n:Nat)(h: ↑ys=n):CK f z ys n n=Ad f ys:=by simp[CK,<-h]
theorem DP(f:α->List J)(z:List J)(ys:List α)(n:Nat)(v:J)(m:Nat)(p:v.cells=z.toArray)(k: ↑z=m)(c:0<m):(madeCells v.cells (n*m)).toList=CK f z ys 0 n:=by
 subst k;rw[p];unfold CK;rw[List.take_zero,List.flatMap_nil,k7,Nat.sub_zero];apply lN;intro i;have j:(List.replicate n z).flatten=Ad id (List.replicate n z):=by simp[List.flatMap_id]
 by_cases b:i<n* ↑z
 . have l:i / ↑z<n:=(Nat.div_lt_iff_lt_mul c).2 b
   have a:=Nat.mod_lt i c;have e:i=i / ↑z* ↑z+i % z.length:=by rw[Nat.mul_comm];exact(Nat.div_add_mod i z).symm
   have s:(List.replicate n z).flatten[i]?=z[i % ↑z]?:=by
    (conv=>lhs;rw[e]);clear e;generalize i / z.length=q at l;generalize i % z.length=r at a;clear b j;induction n generalizing q with
    |zero=>omega
    | succ n t=>
      rw[my,List.flatten_cons];cases q with
      |zero=>rw[Nat.zero_mul,kT,kL a]
      | succ q=>rw[jX (by rw[mo];omega),<-t q oM];(congr 1);rw[mo];omega
   rw[s];have h:i<(madeCells z.toArray (n* ↑z)).toList.length:=by simp[madeCells];exact b
   rw[an h,an a];simp[madeCells];rw[an a];rfl
 have d:(madeCells z.toArray (n* ↑z)).toList.length<=i:=by simp[madeCells];omega
 have g:(List.replicate n z).flatten.length<=i:=by rw[List.length_flatten];simp;omega
 rw[kO d,kO g]
theorem Jn(f:α->List J)(z:List J)(ys:List α)(k n:Nat)(a:k<n):CK f z ys k n=Ad f (ys.take k)++(z++(List.replicate (n-(k+1)) z).flatten):=by unfold CK;have e:n-k=(n-(k+1))+1:=oM;rw[e,my,List.flatten_cons]
theorem KM(f:α->List J)(z:List J)(ys:List α)(k n:Nat)(y:α)(b:ys[k]?=K y):CK f z ys (k+1) n=Ad f (ys.take k)++(f y++(List.replicate (n-(k+1)) z).flatten):=by unfold CK;obtain⟨a,rfl⟩:=f7.1 b;rw[kN a,kJ,kS];simp
theorem rq(A R:List J)(a c0:J)(i:Nat)(h: ↑A=i):(A++([a]++R)).set i c0=A++([c0]++R):=by subst h;simp
theorem Z2(A R:List J)(a b c0 c1:J)(i:Nat)(h: ↑A=i):((A++([a,b]++R)).set i c0).set (i+1) c1=A++([c0,c1]++R):=by subst h;simp[List.set_append_right]
theorem Rd.elem{f:α->List J}{m:Nat}{ys:List α}{g o:Nat}(a:∀y,(f y).length=m)(h:∀j u,(Ad f ys)[j]?=K u->w ⟨g,o+j,M⟩=K u)(k:Nat)(y:α)(d:ys[k]?=K y)(j:Nat)(u:J)(b:(f y)[j]?=K u):w ⟨g,o+k*m+j,M⟩=K u:=by
 have c:j<m:=by rw[<-a y];exact(f7.1 b).1
 rw[Nat.add_assoc];exact h _ u ((BM f m a ys k j y d c).trans b)
theorem Aw{p:Prop}(h:p):Ae p:=h
abbrev sN:J:=Z M 0 0
abbrev sG(g n c:Nat):J:=Z g n c
abbrev sO(g o n c:Nat):J:=Z (K ⟨g,o,M⟩) n c
abbrev iZ(z:Int):J:=Ag Af z
def Fd(t:Int):Bool:=decide (1<=t/\t<=3)
theorem XH{t:Int}(h:1<=t)(a:t<=3):Fd t=true:=by unfold Fd;simp;omega
theorem Od{t:Int}(h:t<1\/3<t):Fd t=false:=by unfold Fd;simp;omega
def word(b:Bool):Int:=if b then 1 else 0
theorem Ck(t:Int)(w:Y):Ai Aq 181 #[t] w λe c=>e=Am (Fd t)/\c=w:=by
 by_cases a:1<=t
 . by_cases b:t<=3
   . rw[XH a b];go_enter func181,ntmps181;go_wp2;go_ret;exact⟨rfl,rfl⟩
   rw[Od oM];go_enter func181,ntmps181;go_wp2;go_ret;exact⟨rfl,rfl⟩
 rw[Od oM];go_enter func181,ntmps181;go_wp2;go_ret;exact⟨rfl,rfl⟩
theorem De(b:Bool)(w:Y):Ai Aq 80 #[b] w λe a=>e=Am (Ag .u32 (word b))/\a=w:=by
 cases b<;>
 . go_enter func80,ntmps80;go_wp2;go_ret;exact⟨rfl,rfl⟩
def Gp(P:Program):List Oper->Act->Option Act
 |[],a=>K a
 | o ::r,a=>
   match o.guard,o.op with
   | none,.build t parts=>
     match P.built t (parts.map λ(i,x)=>(i,a.eval x)).toList with
     |some cells=>Gp P r (a.put o.dst (An cells))
     |none=>M
   |_,_=>M
theorem IJ{c:Array Oper}(rest:List Oper)(h:wpList P c Q rest a' w):
 ∀(l:List Oper) (a:Act),Gp P l a=K a'->wpList P c Q (l++rest) a w
 | [],a,hb=>by simp only[Gp,jJ]at hb;subst hb;exact h
 | o ::r,a,hb=>by
   unfold Gp at hb;split at hb
   . next t parts d e=>
     split at hb
     . next cells b=>
       refine wpList_build d t parts e (by rw[b];rfl) ?_;rw[b];exact IJ rest h r _ hb
     . cases hb
   . cases hb
theorem PW{r:Array Oper}{l:List Oper}{a:Act}(n:Nat)(ty t:Aj)(x y:Operand)(g:Nat)(cells d:Array J)(p:Tmp)
 (i:(Gp P (l.take n) a).map (λa'=>(a'.eval x,a'.eval y,a'.tmps.getD p undef,a'.defers))=K (.pointer g,An cells,.pointer g,[]))
 (b:(l.drop n).map (λo=>(o.guard,o.op,o.dst))=[(M,.store ty x y,M)])
 (j:w.heap[g]?=K (Ak d t (0,0))) (k:(P.info? ty).map (·.size)=K cells.size)
 (m:d.size=cells.size) (e:cells.all (·.oneCell')=true)
 (h:∀a',a'.tmps.getD p undef=.pointer g->a'.defers=[]->Q .normal a' (w.setRow g cells)):wpList P r Q l a w:=by
 rw[<-lS n l];obtain⟨a',f,c⟩:=lE.1 i;simp only[Prod.mk.injEq]at c;refine IJ (a':=a') _ ?_ _ _ f;generalize l.drop n=q at b;rcases q with _|⟨o,_|⟨u,s⟩⟩
 . cases b
 . simp only[lM,List.map_nil,mK,Prod.mk.injEq,mD]at b;refine wpList_store_row b.1 ty x y b.2.1 g cells c.1 c.2.1 t d j k m e ?_;rw[b.2.2];exact wpList_nil (h _ c.2.2.1 c.2.2.2)
 simp at b
def ZV(x y:Int):Int:=if y==0 then 0 else wrap32 (x.tdiv y)
def Yg(x y:Int):Int:=if y==0 then 0 else IntKind.u32.wrap (x.tdiv y)
def Yj(x y:Int):Int:=if y==0 then 0 else x.tmod y
theorem PD(x y:Int)(w:Y):Ai Aq 146 #[Ag .i32 x,Ag .i32 y] w λe b=>e=Am (Ag .i32 (ZV x y))/\b=w:=by
 cases hy:(y==0)
 . (have c:¬y=0:=by simpa using hy);have a:ZV x y=_:=jH (by rw[hy];simp);rw[a];clear a;go_enter func146,ntmps146;go_wp2;go_ret;exact⟨rfl,rfl⟩
 have a:ZV x y=_:=jP hy;rw[a];clear a;go_enter func146,ntmps146;go_wp2;go_ret;exact⟨rfl,rfl⟩
theorem PE(x y:Int)(w:Y):Ai Aq 147 #[Ag .u32 x,Ag .u32 y] w λe b=>e=Am (Ag .u32 (Yg x y))/\b=w:=by
 cases hy:(y==0)
 . (have c:¬y=0:=by simpa using hy);have a:Yg x y=_:=jH (by rw[hy];simp);rw[a];clear a;go_enter func147,ntmps147;go_wp2;go_ret;exact⟨rfl,rfl⟩
 have a:Yg x y=_:=jP hy;rw[a];clear a;go_enter func147,ntmps147;go_wp2;go_ret;exact⟨rfl,rfl⟩
theorem NC(x y:Int)(w:Y):Ai Aq 148 #[Ag .i32 x,Ag .i32 y] w λe b=>e=Am (Ag .i32 (Yj x y))/\b=w:=by
 cases hy:(y==0)
 . (have c:¬y=0:=by simpa using hy);have a:Yj x y=_:=jH (by rw[hy];simp);rw[a];clear a;go_enter func148,ntmps148;go_wp2;go_ret;exact⟨rfl,rfl⟩
 have a:Yj x y=_:=jP hy;rw[a];clear a;go_enter func148,ntmps148;go_wp2;go_ret;exact⟨rfl,rfl⟩
theorem ND(x y:Int)(w:Y):Ai Aq 149 #[Ag .u32 x,Ag .u32 y] w λe b=>e=Am (Ag .u32 (Yj x y))/\b=w:=by
 cases hy:(y==0)
 . (have c:¬y=0:=by simpa using hy);have a:Yj x y=_:=jH (by rw[hy];simp);rw[a];clear a;go_enter func149,ntmps149;go_wp2;go_ret;exact⟨rfl,rfl⟩
 have a:Yj x y=_:=jP hy;rw[a];clear a;go_enter func149,ntmps149;go_wp2;go_ret;exact⟨rfl,rfl⟩
def Zg(t x y:Int):Int:=(x+y) % 4294967296
def Zl(t x y:Int):Int:=(x-y) % 4294967296
def Zh(t x y:Int):Int:=x*y % 4294967296
def UM(t x y:Int):Int:=if t==2 then IntKind.u32.wrap (ZV (wrap32 x) (wrap32 y))else Yg x y
def UN(t x y:Int):Int:=if t==2 then IntKind.u32.wrap (Yj (wrap32 x) (wrap32 y))else Yj x y
def o3(t x y:Int):Int:=bits .and .u32 x y
def q9(t x y:Int):Int:=bits .or .u32 x y
def o4(t x y:Int):Int:=bits .xor .u32 x y
def UO(t x y:Int):Int:=if t==1 then word (x==0)else bits .xor .u32 IntKind.u32.max x
def Zj(t x y:Int):Int:=x*2 ^ (bits .and .u32 y 31).toNat % 4294967296
def Zk(t x y:Int):Int:=x / 2 ^ (bits .and .u32 y 31).toNat
def Zi(t x y:Int):Int:=-x % 4294967296
def qM(t x y:Int):Int:=word (x==y)
def N2(t x y:Int):Int:=if t==2 then word (decide (wrap32 x<wrap32 y))else word (decide (x<y))
theorem Jk(y:Int):0<=bits .and .u32 y 31/\bits .and .u32 y 31<=31:=by
 have b:(BitVec.ofInt 32 y &&& BitVec.ofInt 32 31).toNat<=31:=by rw[BitVec.toNat_and];have:(BitVec.ofInt 32 31).toNat=31:=dC;rw[this];exact Nat.and_le_right
 have a:bits .and .u32 y 31=((BitVec.ofInt 32 y &&& BitVec.ofInt 32 31).toNat:Int) % 4294967296:=by rfl
 rw[a];omega
theorem pm(t x y:Int)(w:Y):Ai Aq 81 #[t,Ag .u32 x,Ag .u32 y] w λe a=>e=Am (Ag .u32 (Zg t x y))/\a=w:=by have b:=Jk y;go_enter func81,ntmps81;go_wp2;go_ret;exact⟨rfl,rfl⟩
theorem Rp(t x y:Int)(w:Y):Ai Aq 82 #[t,Ag .u32 x,Ag .u32 y] w λe a=>e=Am (Ag .u32 (Zl t x y))/\a=w:=by have b:=Jk y;go_enter func82,ntmps82;go_wp2;go_ret;exact⟨rfl,rfl⟩
theorem Ro(t x y:Int)(w:Y):Ai Aq 83 #[t,Ag .u32 x,Ag .u32 y] w λe a=>e=Am (Ag .u32 (Zh t x y))/\a=w:=by have b:=Jk y;go_enter func83,ntmps83;go_wp2;go_ret;exact⟨rfl,rfl⟩
theorem Vz(t x y:Int)(w:Y):Ai Aq 86 #[t,Ag .u32 x,Ag .u32 y] w λe a=>e=Am (Ag .u32 (o3 t x y))/\a=w:=by have b:=Jk y;go_enter func86,ntmps86;go_wp2;go_ret;exact⟨rfl,rfl⟩
theorem X1(t x y:Int)(w:Y):Ai Aq 87 #[t,Ag .u32 x,Ag .u32 y] w λe a=>e=Am (Ag .u32 (q9 t x y))/\a=w:=by have b:=Jk y;go_enter func87,ntmps87;go_wp2;go_ret;exact⟨rfl,rfl⟩
theorem VA(t x y:Int)(w:Y):Ai Aq 88 #[t,Ag .u32 x,Ag .u32 y] w λe a=>e=Am (Ag .u32 (o4 t x y))/\a=w:=by have b:=Jk y;go_enter func88,ntmps88;go_wp2;go_ret;exact⟨rfl,rfl⟩
theorem PA(t x y:Int)(w:Y):Ai Aq 90 #[t,Ag .u32 x,Ag .u32 y] w λe a=>e=Am (Ag .u32 (Zj t x y))/\a=w:=by have b:=Jk y;go_enter func90,ntmps90;go_wp2;go_ret;exact⟨rfl,rfl⟩
theorem NB(t x y:Int)(w:Y):Ai Aq 91 #[t,Ag .u32 x,Ag .u32 y] w λe a=>e=Am (Ag .u32 (Zk t x y))/\a=w:=by have b:=Jk y;go_enter func91,ntmps91;go_wp2;go_ret;exact⟨rfl,rfl⟩
theorem VE(t x y:Int)(w:Y):Ai Aq 92 #[t,Ag .u32 x,Ag .u32 y] w λe a=>e=Am (Ag .u32 (Zi t x y))/\a=w:=by have b:=Jk y;go_enter func92,ntmps92;go_wp2;go_ret;exact⟨rfl,rfl⟩
theorem X3(t x y:Int)(w:Y):Ai Aq 93 #[t,Ag .u32 x,Ag .u32 y] w λe a=>e=Am (Ag .u32 (qM t x y))/\a=w:=by go_enter func93,ntmps93;go_wp2_with (go_at_call 80;refine(De _ _).mono ?_;rintro e a ⟨rfl,rfl⟩);go_ret;exact⟨rfl,rfl⟩
theorem ZR(t x y:Int)(w:Y):Ai Aq 94 #[t,Ag .u32 x,Ag .u32 y] w λe b=>e=Am (Ag .u32 (N2 t x y))/\b=w:=by
 cases ht:(t==2)
 . have a:N2 t x y=_:=jH (by rw[ht];simp);rw[a];clear a;go_enter func94,ntmps94;go_wp2_with (go_at_call 80;refine(De _ _).mono ?_;rintro e b ⟨rfl,rfl⟩);go_ret;exact⟨rfl,rfl⟩
 have a:N2 t x y=_:=jP ht;rw[a];clear a;go_enter func94,ntmps94;go_wp2_with (go_at_call 80;refine(De _ _).mono ?_;rintro e b ⟨rfl,rfl⟩);go_ret;exact⟨rfl,rfl⟩
theorem pn(t x y:Int)(w:Y):Ai Aq 89 #[t,Ag .u32 x,Ag .u32 y] w λe b=>e=Am (Ag .u32 (UO t x y))/\b=w:=by
 cases ht:(t==1)
 . have a:UO t x y=_:=jH (by rw[ht];simp);rw[a];clear a;go_enter func89,ntmps89;go_wp2_with (go_at_call 80;refine(De _ _).mono ?_;rintro e b ⟨rfl,rfl⟩);go_ret;exact⟨rfl,rfl⟩
 have a:UO t x y=_:=jP ht;rw[a];clear a;go_enter func89,ntmps89;go_wp2_with (go_at_call 80;refine(De _ _).mono ?_;rintro e b ⟨rfl,rfl⟩);go_ret;exact⟨rfl,rfl⟩
theorem VC(t x y:Int)(w:Y):Ai Aq 84 #[t,Ag .u32 x,Ag .u32 y] w λe b=>e=Am (Ag .u32 (UM t x y))/\b=w:=by
 cases ht:(t==2)
 . have a:UM t x y=_:=jH (by rw[ht];simp);rw[a];clear a;go_enter func84,ntmps84;go_wp2_with (go_at_call 147;refine(PE _ _ _).mono ?_;rintro e b ⟨rfl,rfl⟩);go_ret;exact⟨rfl,rfl⟩
 have a:UM t x y=_:=jP ht;rw[a];clear a;go_enter func84,ntmps84;go_wp2_with (go_at_call 146;refine(PD _ _ _).mono ?_;rintro e b ⟨rfl,rfl⟩);go_ret;exact⟨rfl,rfl⟩
theorem VD(t x y:Int)(w:Y):Ai Aq 85 #[t,Ag .u32 x,Ag .u32 y] w λe b=>e=Am (Ag .u32 (UN t x y))/\b=w:=by
 cases ht:(t==2)
 . have a:UN t x y=_:=jH (by rw[ht];simp);rw[a];clear a;go_enter func85,ntmps85;go_wp2_with (go_at_call 149;refine(ND _ _ _).mono ?_;rintro e b ⟨rfl,rfl⟩);go_ret;exact⟨rfl,rfl⟩
 have a:UN t x y=_:=jP ht;rw[a];clear a;go_enter func85,ntmps85;go_wp2_with (go_at_call 148;refine(NC _ _ _).mono ?_;rintro e b ⟨rfl,rfl⟩);go_ret;exact⟨rfl,rfl⟩
def Pc(f t v:Int):Int:=if Fd f&&(Fd t&& !(f==t))then(if t==1 then word (v != 0)else v)else 0
theorem Qb(f t v:Int)(w:Y):Ai Aq 153 #[f,t,Ag .u32 v] w λe b=>e=Am (Ag .u32 (Pc f t v))/\b=w:=by
 cases hf:Fd f
 . (have a:Pc f t v=0:=by simp[Pc,hf]);rw[a];go_enter func153,ntmps153;go_wp2_with (go_at_call 181;refine(Ck _ _).mono ?_;rintro e b ⟨rfl,rfl⟩);go_ret;exact⟨rfl,rfl⟩
 cases ht:Fd t
 . (have a:Pc f t v=0:=by simp[Pc,ht]);rw[a];go_enter func153,ntmps153;go_wp2_with (go_at_call 181;refine(Ck _ _).mono ?_;rintro e b ⟨rfl,rfl⟩);go_ret;exact⟨rfl,rfl⟩
 cases he:(f==t)
 . cases h1:(t==1)
   . (have a:Pc f t v=v:=by simp only[Pc,hf,ht,he,h1];rfl);rw[a];go_enter func153,ntmps153;go_wp2_with (go_at_call 181;refine(Ck _ _).mono ?_;rintro e b ⟨rfl,rfl⟩);go_ret;exact⟨rfl,rfl⟩
   (have a:Pc f t v=word (v != 0):=by simp only[Pc,hf,ht,he,h1];rfl);rw[a];go_enter func153,ntmps153;go_wp2_with (first|(go_at_call 181;refine(Ck _ _).mono ?_;rintro e b ⟨rfl,rfl⟩)|(go_at_call 80;refine(De _ _).mono ?_;rintro e b ⟨rfl,rfl⟩));go_ret;exact⟨rfl,rfl⟩
 have a:Pc f t v=0:=by simp only[Pc,hf,ht,he];rfl
 rw[a];go_enter func153,ntmps153;go_wp2_with (go_at_call 181;refine(Ck _ _).mono ?_;rintro e b ⟨rfl,rfl⟩);go_ret;exact⟨rfl,rfl⟩
structure MI where
 op:Int
 a:Int
 b:Int
 c:Int
structure MC where
 type:Int
 word:Int
structure MT where
 func:Int
 head:Int
 eI:Int
 init:Int
def MI.cells(x:MI):List J:=[x.op,x.a,x.b,x.c]
def MC.cells(x:MC):List J:=[x.type,Ag .u32 x.word]
def MT.cells(x:MT):List J:=[x.func,x.head,x.eI,Ag .u32 x.init]
theorem MI.bW(x:MI):x.cells.length=4:=rfl
theorem MC.bW(x:MC):x.cells.length=2:=rfl
theorem MT.bW(x:MT):x.cells.length=4:=rfl
def As(z:Int):List J:=[z]
theorem AE(z:Int):(As z).length=1:=rfl
theorem Cy:(Tryz.prog.info? 2).map (λi=>(i.zero,i.size,i.bytes))=K (K (Ag Af 0),1,8):=kR
def FD(P:Program):List Oper->Act->Option Act
 |[],a=>K a
 | o ::r,a=>
   match o.guard,o.op with
   | none,.build t parts=>
     match P.built t (parts.map λ(i,x)=>(i,a.eval x)).toList with
     |some cells=>FD P r (a.put o.dst (An cells))
     |none=>M
   |none,.move x=>FD P r (a.put o.dst (a.eval x))
   |none,.makeFunc (.func f) first captured=>FD P r (a.put o.dst (.func (.func f) (first.map a.eval) (captured.map a.eval)))
   |_,_=>M
theorem PU{b:Array Oper}{o:Oper}{a:Act}(d:o.guard=M)(x:Operand)(e:o.op=.move x)(h:wpList P b Q rest (a.put o.dst (a.eval x)) w):wpList P b Q (o::rest) a w:=wpList_plain d λK c=>by unfold Oper.wp execOp;simp only[e,Sem.run_pure];exact c _ _ h
theorem Kk{c:Array Oper}{o:Oper}{a:Act}(e:o.guard=M)(f:Nat)(first b:Array Operand)(g:o.op=.makeFunc (.func f) first b)(h:wpList P c Q rest (a.put o.dst (.func (.func f) (first.map a.eval) (b.map a.eval))) w):wpList P c Q (o::rest) a w:=wpList_plain e λK d=>by unfold Oper.wp execOp;simp only[g,Instr.makeFunc,Sem.run_bind,Sem.run_pure,Result.andThen_ok];exact d _ _ h
theorem Ez{e:Array Oper}(rest:List Oper)(h:wpList P e Q rest a' w):
 ∀(l:List Oper) (a:Act),FD P l a=K a'->wpList P e Q (l++rest) a w
 | [],a,hb=>by simp only[FD,jJ]at hb;subst hb;exact h
 | o ::r,a,hb=>by
   unfold FD at hb;split at hb
   . next t parts b c=>
     split at hb
     . next cells d=>
       refine wpList_build b t parts c (by rw[d];rfl) ?_;rw[d];exact Ez rest h r _ hb
     . cases hb
   . next x b c=>exact PU b x c (Ez rest h r _ hb)
   . next f first g b c=>exact Kk b f first g c (Ez rest h r _ hb)
   cases hb
theorem NK{r:Array Oper}{l:List Oper}{a:Act}(n:Nat)(ty t:Aj)(x y:Operand)(g:Nat)(cells d:Array J)(p:Tmp)
 (i:(FD P (l.take n) a).map (λa'=>(a'.eval x,a'.eval y,a'.tmps.getD p undef,a'.defers))=K (.pointer g,An cells,.pointer g,[]))
 (b:(l.drop n).map (λo=>(o.guard,o.op,o.dst))=[(M,.store ty x y,M)])
 (j:w.heap[g]?=K (Ak d t (0,0))) (k:(P.info? ty).map (·.size)=K cells.size)
 (m:d.size=cells.size) (e:cells.all (·.oneCell')=true)
 (h:∀a',a'.tmps.getD p undef=.pointer g->a'.defers=[]->Q .normal a' (w.setRow g cells)):wpList P r Q l a w:=by
 rw[<-lS n l];obtain⟨a',f,c⟩:=lE.1 i;simp only[Prod.mk.injEq]at c;refine Ez (a':=a') _ ?_ _ _ f;generalize l.drop n=q at b;rcases q with _|⟨o,_|⟨u,s⟩⟩
 . cases b
 . simp only[lM,List.map_nil,mK,Prod.mk.injEq,mD]at b;refine wpList_store_row b.1 ty x y b.2.1 g cells c.1 c.2.1 t d j k m e ?_;rw[b.2.2];exact wpList_nil (h _ c.2.2.1 c.2.2.2)
 simp at b
def R6:Array J:=#[.string ⟨#[]⟩,Ag Af 0,Ag Af 0,.nilFunc,
 .string ⟨#[]⟩,Ag Af 0,Ag Af 0,.nilFunc,
 .string ⟨#[]⟩,Ag Af 0,Ag Af 0,.nilFunc,
 .string ⟨#[]⟩,Ag Af 0,Ag Af 0,.nilFunc,
 .string ⟨#[]⟩,Ag Af 0,Ag Af 0,.nilFunc,
 .string ⟨#[]⟩,Ag Af 0,Ag Af 0,.nilFunc,
 .string ⟨#[]⟩,Ag Af 0,Ag Af 0,.nilFunc,
 .string ⟨#[]⟩,Ag Af 0,Ag Af 0,.nilFunc,
 .string ⟨#[]⟩,Ag Af 0,Ag Af 0,.nilFunc,
 .string ⟨#[]⟩,Ag Af 0,Ag Af 0,.nilFunc,
 .string ⟨#[]⟩,Ag Af 0,Ag Af 0,.nilFunc,
 .string ⟨#[]⟩,Ag Af 0,Ag Af 0,.nilFunc,
 .string ⟨#[]⟩,Ag Af 0,Ag Af 0,.nilFunc,
 .string ⟨#[]⟩,Ag Af 0,Ag Af 0,.nilFunc,
 .string ⟨#[]⟩,Ag Af 0,Ag Af 0,.nilFunc,
 .string ⟨#[]⟩,Ag Af 0,Ag Af 0,.nilFunc,
 .string ⟨#[]⟩,Ag Af 0,Ag Af 0,.nilFunc,
 .string ⟨#[]⟩,Ag Af 0,Ag Af 0,.nilFunc,
 .string ⟨#[]⟩,Ag Af 0,Ag Af 0,.nilFunc,
 .string ⟨#[]⟩,Ag Af 0,Ag Af 0,.nilFunc,
 .string ⟨#[]⟩,Ag Af 0,Ag Af 0,.nilFunc,
 .string ⟨#[]⟩,Ag Af 0,Ag Af 0,.nilFunc,
 .string ⟨#[]⟩,Ag Af 0,Ag Af 0,.nilFunc,
 .string ⟨#[]⟩,Ag Af 0,Ag Af 0,.nilFunc,
 .string ⟨#[]⟩,Ag Af 0,Ag Af 0,.nilFunc,
 .string ⟨#[]⟩,Ag Af 0,Ag Af 0,.nilFunc,
 .string ⟨#[]⟩,Ag Af 0,Ag Af 0,.nilFunc,
 .string ⟨#[]⟩,Ag Af 0,Ag Af 0,.nilFunc,
 .string ⟨#[]⟩,Ag Af 0,Ag Af 0,.nilFunc,
 .string ⟨#[]⟩,Ag Af 0,Ag Af 0,.nilFunc]
def BS:Array J:=#[.string ⟨#[110,111,112]⟩,Ag Af 1,Ag Af 0,.nilFunc,
 .string ⟨#[99,111,110,115,116]⟩,Ag Af 1,Ag Af 1,.nilFunc,
 .string ⟨#[108,111,97,100,108,111,99,97,108]⟩,Ag Af 1,Ag Af 2,.nilFunc,
 .string ⟨#[115,116,111,114,101,108,111,99,97,108]⟩,Ag Af 1,Ag Af 2,.nilFunc,
 .string ⟨#[108,111,97,100]⟩,Ag Af 2,Ag Af 3,.nilFunc,
 .string ⟨#[115,116,111,114,101]⟩,Ag Af 2,Ag Af 3,.nilFunc,
 .string ⟨#[108,111,97,100,97,116]⟩,Ag Af 3,Ag Af 4,.nilFunc,
 .string ⟨#[115,116,111,114,101,97,116]⟩,Ag Af 3,Ag Af 4,.nilFunc,
 .string ⟨#[97,100,100]⟩,Ag Af 1,Ag Af 5,.func (.func 81) #[] #[],
 .string ⟨#[115,117,98]⟩,Ag Af 1,Ag Af 5,.func (.func 82) #[] #[],
 .string ⟨#[109,117,108]⟩,Ag Af 3,Ag Af 5,.func (.func 83) #[] #[],
 .string ⟨#[100,105,118]⟩,Ag Af 8,Ag Af 5,.func (.func 84) #[] #[],
 .string ⟨#[109,111,100]⟩,Ag Af 8,Ag Af 5,.func (.func 85) #[] #[],
 .string ⟨#[97,110,100]⟩,Ag Af 1,Ag Af 6,.func (.func 86) #[] #[],
 .string ⟨#[111,114]⟩,Ag Af 1,Ag Af 6,.func (.func 87) #[] #[],
 .string ⟨#[120,111,114]⟩,Ag Af 1,Ag Af 6,.func (.func 88) #[] #[],
 .string ⟨#[110,111,116]⟩,Ag Af 1,Ag Af 6,.func (.func 89) #[] #[],
 .string ⟨#[115,104,108]⟩,Ag Af 1,Ag Af 0,.func (.func 90) #[] #[],
 .string ⟨#[115,104,114]⟩,Ag Af 1,Ag Af 0,.func (.func 91) #[] #[],
 .string ⟨#[110,101,103]⟩,Ag Af 1,Ag Af 0,.func (.func 92) #[] #[],
 .string ⟨#[101,113]⟩,Ag Af 1,Ag Af 7,.func (.func 93) #[] #[],
 .string ⟨#[108,101,115,115]⟩,Ag Af 1,Ag Af 5,.func (.func 94) #[] #[],
 .string ⟨#[99,111,110,118]⟩,Ag Af 1,Ag Af 8,.nilFunc,
 .string ⟨#[100,117,112]⟩,Ag Af 1,Ag Af 0,.nilFunc,
 .string ⟨#[100,114,111,112]⟩,Ag Af 1,Ag Af 0,.nilFunc,
 .string ⟨#[106,117,109,112]⟩,Ag Af 2,Ag Af 9,.nilFunc,
 .string ⟨#[106,117,109,112,122,101,114,111]⟩,Ag Af 2,Ag Af 9,.nilFunc,
 .string ⟨#[103,117,97,114,100]⟩,Ag Af 2,Ag Af 10,.nilFunc,
 .string ⟨#[99,97,108,108]⟩,Ag Af 4,Ag Af 11,.nilFunc,
 .string ⟨#[114,101,116,117,114,110]⟩,Ag Af 2,Ag Af 0,.nilFunc]
theorem Wk(w:Y):(zeroValue 82).run Aq w=.ok (An R6) w:=kR
theorem Mz(w:Y):Ai Aq 45 #[] w λe c=>e=Am (An BS)/\Ah w w c:=by have d:=Wk;go_enter func45,ntmps45;go_wp2_with (show wpList _ _ _ ({dst:=K 1,op:=Op.build _ _,type:=_,pos:=_,after:=_,guard:=_}::_) _ _;refine PW 61 82 82 (.tmp 0) (.tmp 61) w BS R6 0 kR rfl (lu _ _) kR kR kR ?_;intro a' b a);rw[World.setRow_alloc_new];exact kA (v:=An BS) (results_cell_row results45 _ _ w 82 BS (0,0) _ b (lu _ _) underlying82 rfl kR) a ⟨rfl,(jZ _ _).alloc lR _⟩
def CR(k:Nat):Array J:=BS.extract (4*k) (4*k+4)
theorem SP(k:Nat)(a:k<30)(w:Y):(Instr.index 82 (An BS) k).run Aq w=.ok (An (CR k)) w:=by
 have h:k=0\/k=1\/k=2\/k=3\/k=4\/k=5\/k=6\/k=7\/k=8\/k=9\/k=10\/k=11\/k=12\/k=13\/k=14\/k=15\/k=16\/k=17\/k=18\/k=19\/k=20\/k=21\/k=22\/k=23\/k=24\/k=25\/k=26\/k=27\/k=28\/k=29:=oM
 clear a;rcases h with rfl|rfl|rfl|rfl|rfl|rfl|rfl|rfl|rfl|rfl|rfl|rfl|rfl|rfl|rfl|rfl|rfl|rfl|rfl|rfl|rfl|rfl|rfl|rfl|rfl|rfl|rfl|rfl|rfl|rfl<;>(show Sem.run _ _ _=Result.ok _ _;kernel_rfl)
theorem NF(k:Nat)(b:k<30):(CR k).size=4:=by have a:BS.size=120:=kR;simp[CR,a];omega
theorem PG(k:Nat)(d:k<30):(CR k).all (·.oneCell')=true:=by have a:BS.all (·.oneCell')=true:=kR;rw[Array.all_eq_true_iff_forall_mem]at a⊢;intro v b;unfold CR at b;obtain⟨i,c,rfl⟩:=Array.mem_iff_getElem.1 b;rw[Array.getElem_extract];exact a _ (Array.getElem_mem _)
theorem R7(w:Y):(zeroValue 81).run Aq w=.ok (An #[.string ⟨#[]⟩,Ag Af 0,Ag Af 0,.nilFunc]) w:=kR
theorem VY(op:Int)(w:Y)(h:op<0\/29<op):Ai Aq 201 #[op] w λe a=>e=Am (An #[.string ⟨#[]⟩,Ag Af 0,Ag Af 0,.nilFunc])/\Ah w w a:=by
 have d:=R7;rcases h with h|h
 . go_enter func201,ntmps201;go_wp2;exact kA (v:=An #[.string ⟨#[]⟩,Ag Af 0,Ag Af 0,.nilFunc]) (by simp[results,results201,go_sem]) rfl ⟨rfl,(jZ _ _).alloc lR _⟩
 have b:decide (op<0)=false:=oT;have c:decide (29<op)=true:=oT;go_enter func201,ntmps201;go_wp2;exact kA (v:=An #[.string ⟨#[]⟩,Ag Af 0,Ag Af 0,.nilFunc]) (by simp[results,results201,go_sem]) rfl ⟨rfl,(jZ _ _).alloc lR _⟩
theorem Yn(k:Nat)(b:k<30)(w:Y):Ai Aq 201 #[k] w λe h=>e=Am (An (CR k))/\Ah w w h:=by
 have n:=R7;have j:decide ((k:Int)<0)=false:=sP;have l:decide (29<(k:Int))=false:=oT;have m:=SP k b;have g:=NF k b;have d:=PG k b;have a:Ae ((CR k).size=4/\(CR k).all (·.oneCell')=true):=⟨g,d⟩
 clear g d;go_enter func201,ntmps201;go_wp2_with (first
  |(go_at_call 45;refine(Mz _).mono ?_;rintro e i ⟨rfl,c⟩;have f:i.heap[w.heap.size]?=K (Ak #[.string ⟨#[]⟩,Ag Af 0,Ag Af 0,.nilFunc] 81):=(c.block _ sP).trans (lu _ _))
  |(show wpList _ _ _ ({dst:=M,op:=Op.store 81 _ _,type:=_,pos:=_,after:=_,guard:=_}::_) _ _;refine wpList_store_row rfl 81 (.tmp 2) (.tmp 12) rfl w (CR k) rfl rfl 81 #[.string ⟨#[]⟩,Ag Af 0,Ag Af 0,.nilFunc] f (by rw[a.1];kernel_rfl) (by rw[a.1];rfl) a.2 ?_))
 refine kA (v:=An (CR k)) (results_cell_row results201 _ _ w 81 (CR k) (0,0) _ rfl (setRow_heap _ _ _ _ _ _ f) underlying81 rfl (by rw[a.1];kernel_rfl)) rfl ⟨rfl,?_⟩;exact below_setRow (((jZ _ _).alloc lR _).trans (c.mono sP)) lR _
def UV:Array J:=#[.string ⟨#[110,111,112]⟩,Ag Af 1,Ag Af 0,
 .string ⟨#[99,111,110,115,116]⟩,Ag Af 1,Ag Af 1,
 .string ⟨#[108,111,97,100,108,111,99,97,108]⟩,Ag Af 1,Ag Af 2,
 .string ⟨#[115,116,111,114,101,108,111,99,97,108]⟩,Ag Af 1,Ag Af 2,
 .string ⟨#[108,111,97,100]⟩,Ag Af 2,Ag Af 3,
 .string ⟨#[115,116,111,114,101]⟩,Ag Af 2,Ag Af 3,
 .string ⟨#[108,111,97,100,97,116]⟩,Ag Af 3,Ag Af 4,
 .string ⟨#[115,116,111,114,101,97,116]⟩,Ag Af 3,Ag Af 4,
 .string ⟨#[97,100,100]⟩,Ag Af 1,Ag Af 5,
 .string ⟨#[115,117,98]⟩,Ag Af 1,Ag Af 5,
 .string ⟨#[109,117,108]⟩,Ag Af 3,Ag Af 5,
 .string ⟨#[100,105,118]⟩,Ag Af 8,Ag Af 5,
 .string ⟨#[109,111,100]⟩,Ag Af 8,Ag Af 5,
 .string ⟨#[97,110,100]⟩,Ag Af 1,Ag Af 6,
 .string ⟨#[111,114]⟩,Ag Af 1,Ag Af 6,
 .string ⟨#[120,111,114]⟩,Ag Af 1,Ag Af 6,
 .string ⟨#[110,111,116]⟩,Ag Af 1,Ag Af 6,
 .string ⟨#[115,104,108]⟩,Ag Af 1,Ag Af 0,
 .string ⟨#[115,104,114]⟩,Ag Af 1,Ag Af 0,
 .string ⟨#[110,101,103]⟩,Ag Af 1,Ag Af 0,
 .string ⟨#[101,113]⟩,Ag Af 1,Ag Af 7,
 .string ⟨#[108,101,115,115]⟩,Ag Af 1,Ag Af 5,
 .string ⟨#[99,111,110,118]⟩,Ag Af 1,Ag Af 8,
 .string ⟨#[100,117,112]⟩,Ag Af 1,Ag Af 0,
 .string ⟨#[100,114,111,112]⟩,Ag Af 1,Ag Af 0,
 .string ⟨#[106,117,109,112]⟩,Ag Af 2,Ag Af 9,
 .string ⟨#[106,117,109,112,122,101,114,111]⟩,Ag Af 2,Ag Af 9,
 .string ⟨#[103,117,97,114,100]⟩,Ag Af 2,Ag Af 10,
 .string ⟨#[99,97,108,108]⟩,Ag Af 4,Ag Af 11,
 .string ⟨#[114,101,116,117,114,110]⟩,Ag Af 2,Ag Af 0]
def Jt(k:Nat):List J:=(UV.extract (3*k) (3*k+3)).toList
theorem Wj(w:Y):(zeroValue 78).run Aq w=.ok (An #[.string ⟨#[]⟩,Ag Af 0,Ag Af 0]) w:=kR
def Cn(f t:Int):Bool:=if f==5 then(t==2||t==3)else if f==6 then(t==1||t==3)else if f==7 then Fd t else true
def Dy(op t x y:Int):Int:=
 if op=8 then(if Cn 5 t then Zg t x y else 0)else
 if op=9 then(if Cn 5 t then Zl t x y else 0)else
 if op=10 then(if Cn 5 t then Zh t x y else 0)else
 if op=11 then(if Cn 5 t then UM t x y else 0)else
 if op=12 then(if Cn 5 t then UN t x y else 0)else
 if op=13 then(if Cn 6 t then o3 t x y else 0)else
 if op=14 then(if Cn 6 t then q9 t x y else 0)else
 if op=15 then(if Cn 6 t then o4 t x y else 0)else
 if op=16 then(if Cn 6 t then UO t x y else 0)else
 if op=17 then(if Cn 0 t then Zj t x y else 0)else
 if op=18 then(if Cn 0 t then Zk t x y else 0)else
 if op=19 then(if Cn 0 t then Zi t x y else 0)else
 if op=20 then(if Cn 7 t then qM t x y else 0)else
 if op=21 then(if Cn 5 t then N2 t x y else 0)else
 0
structure MF where
 aD:List Int
 cu:Int
 a7:List Int
 aU:List MI
structure VF where
 p:J
 l:J
 c:J
def FH(w:Y)(v:VF)(f:MF):Prop:=Rd w 1 v.p f.aD (Ad As f.aD)/\Rd w 1 v.l f.a7 (Ad As f.a7)/\Rd w 4 v.c f.aU (Ad MI.cells f.aU)
def K7(w:Y)(base:Nat)(v:VF)(f:MF):Prop:=Ab w base 2 1 v.p f.aD (Ad As f.aD)/\Ab w base 2 1 v.l f.a7 (Ad As f.a7)/\Ab w base 25 4 v.c f.aU (Ad MI.cells f.aU)
def MF.small(f:MF):Prop:=f.aD.length<=1048576/\f.a7.length<=1048576/\f.aU.length<=1048576
theorem K7.rd{v:VF}{f:MF}(h:K7 w base v f):FH w v f:=⟨Rd.eS h.1,Rd.eS h.2.1,Rd.eS h.2.2⟩
theorem FH.av{w c:Y}{v:VF}{f:MF}(h:FH w v f)(b:Ah B w c)(a: ↑w<=B):FH c v f:=⟨h.1.av b a,h.2.1.av b a,h.2.2.av b a⟩
theorem K7.av{w c:Y}{v:VF}{f:MF}(h:K7 w base v f)(b:Ah B w c)(a: ↑w<=B):K7 c base v f:=⟨AC h.1 b a,AC h.2.1 b a,AC h.2.2 b a⟩
theorem Bt{base a:Nat}{k n:Nat}(h:Ab w base e k s n xs)(d:a<=base):Ab w a e k s n xs:=by
 refine⟨h.1,?_⟩;rcases h.2 with h|⟨g,cap,b,c,f,i,j⟩
 . exact .inl h
 exact .inr ⟨g,cap,b,c,jN d f,i,j⟩
def B9(a:Nat):Array J:=#[.func (.func 95) #[.pointer a] #[],.func (.func 96) #[.pointer a] #[],.func (.func 97) #[.pointer a] #[],.func (.func 98) #[.pointer a] #[],.func (.func 99) #[.pointer a] #[],.func (.func 100) #[.pointer a] #[],.func (.func 101) #[.pointer a] #[],.func (.func 102) #[.pointer a] #[],.func (.func 103) #[.pointer a] #[],.func (.func 103) #[.pointer a] #[],.func (.func 103) #[.pointer a] #[],.func (.func 103) #[.pointer a] #[],.func (.func 103) #[.pointer a] #[],.func (.func 103) #[.pointer a] #[],.func (.func 103) #[.pointer a] #[],.func (.func 103) #[.pointer a] #[],.func (.func 104) #[.pointer a] #[],.func (.func 103) #[.pointer a] #[],.func (.func 103) #[.pointer a] #[],.func (.func 104) #[.pointer a] #[],.func (.func 105) #[.pointer a] #[],.func (.func 105) #[.pointer a] #[],.func (.func 106) #[.pointer a] #[],.func (.func 107) #[.pointer a] #[],.func (.func 108) #[.pointer a] #[],.func (.func 109) #[.pointer a] #[],.func (.func 110) #[.pointer a] #[],.func (.func 111) #[.pointer a] #[],.func (.func 112) #[.pointer a] #[],.func (.func 113) #[.pointer a] #[]]
def JN:Array J:=#[.nilFunc,.nilFunc,.nilFunc,.nilFunc,.nilFunc,.nilFunc,.nilFunc,.nilFunc,.nilFunc,.nilFunc,.nilFunc,.nilFunc,.nilFunc,.nilFunc,.nilFunc,.nilFunc,.nilFunc,.nilFunc,.nilFunc,.nilFunc,.nilFunc,.nilFunc,.nilFunc,.nilFunc,.nilFunc,.nilFunc,.nilFunc,.nilFunc,.nilFunc,.nilFunc]
theorem Wi(w:Y):(zeroValue 85).run Aq w=.ok (An JN) w:=kR
theorem LE(a:Nat)(w:Y):Ai Aq 46 #[.pointer a] w λe d=>e=Am (An (B9 a))/\Ah w w d:=by
 have f:=Wi;go_enter func46,ntmps46;go_upto_region 1 with fail
 refine wp_region_lit ?_;refine NK 61 85 85 (.tmp 2) (.tmp 63) w (B9 a) JN 2 kR rfl (lu _ _) kR kR kR ?_;intro a' c b;go_wp2_with fail;rw[World.setRow_alloc_new];exact kA (v:=An (B9 a)) (results_cell_row results46 _ _ w 85 (B9 a) (0,0) _ c (lu _ _) underlying85 rfl kR) b ⟨rfl,(jZ _ _).alloc lR _⟩
def CL(op:Int):Array J:=if 0<=op/\op<=29 then(Jt op.toNat).toArray else #[.string ⟨#[]⟩,Ag Af 0,Ag Af 0]
theorem UW(k:Nat)(a:k<30):CL (k:Int)=(Jt k).toArray:=by unfold CL;rw[jP oM];rfl
theorem SQ{op:Int}(h:op<0\/29<op):CL op=#[.string ⟨#[]⟩,Ag Af 0,Ag Af 0]:=by unfold CL;rw[jH oM]
theorem Ju(k:Nat)(a:k<30):∃(s:ByteArray) (c f:Int),(Jt k).toArray=#[.string s,Ag Af c,Ag Af f]:=by
 have h:k=0\/k=1\/k=2\/k=3\/k=4\/k=5\/k=6\/k=7\/k=8\/k=9\/k=10\/k=11\/k=12\/k=13\/k=14\/k=15\/k=16\/k=17\/k=18\/k=19\/k=20\/k=21\/k=22\/k=23\/k=24\/k=25\/k=26\/k=27\/k=28\/k=29:=oM
 clear a;rcases h with rfl|rfl|rfl|rfl|rfl|rfl|rfl|rfl|rfl|rfl|rfl|rfl|rfl|rfl|rfl|rfl|rfl|rfl|rfl|rfl|rfl|rfl|rfl|rfl|rfl|rfl|rfl|rfl|rfl|rfl<;>exact⟨_,_,_,rfl⟩
theorem Q4(op:Int):∃(s:ByteArray) (c f:Int),CL op=#[.string s,Ag Af c,Ag Af f]:=by
 by_cases h:0<=op/\op<=29
 . unfold CL;rw[jP h];exact Ju _ oM
 unfold CL;rw[jH h];exact⟨_,_,_,rfl⟩
theorem SD(k:Nat)(a:k<30)(w:Y):(Instr.field 81 (An (CR k)) 0).run Aq w=.ok (An (Jt k).toArray) w:=by
 have h:k=0\/k=1\/k=2\/k=3\/k=4\/k=5\/k=6\/k=7\/k=8\/k=9\/k=10\/k=11\/k=12\/k=13\/k=14\/k=15\/k=16\/k=17\/k=18\/k=19\/k=20\/k=21\/k=22\/k=23\/k=24\/k=25\/k=26\/k=27\/k=28\/k=29:=oM
 clear a;rcases h with rfl|rfl|rfl|rfl|rfl|rfl|rfl|rfl|rfl|rfl|rfl|rfl|rfl|rfl|rfl|rfl|rfl|rfl|rfl|rfl|rfl|rfl|rfl|rfl|rfl|rfl|rfl|rfl|rfl|rfl<;>(show Sem.run _ _ _=Result.ok _ _;kernel_rfl)
theorem SE(w:Y):(Instr.field 81 (An #[.string ⟨#[]⟩,Ag Af 0,Ag Af 0,.nilFunc]) 0).run Aq w=.ok (An #[.string ⟨#[]⟩,Ag Af 0,Ag Af 0]) w:=kR
theorem Tz(op:Int)(row:J)(s:ByteArray)(c f:Int)(k:CL op=#[.string s,Ag Af c,Ag Af f])
 (a:∀w,Ai Aq 201 #[op] w λe d=>e=Am row/\Ah w.heap.size w d)
 (l:∀w,(Instr.field 81 row 0).run Aq w=.ok (An #[.string s,c,f]) w) (w:Y):
 Ai Aq 182 #[op] w λe d=>e=Am (An (CL op))/\Ah w.heap.size w d:=by
 have m:=Wj;rw[k];clear k;have H:Ae (∀w,Ai Aq 201 #[op] w λe d=>e=Am row/\Ah w w d):=a
 clear a;go_enter func182,ntmps182;go_wp2_with (go_at_call 201;refine(H.o _).mono ?_;rintro e b ⟨rfl,g⟩;have a:b.heap[w.heap.size]?=K (Ak #[.string ⟨#[]⟩,Ag Af 0,Ag Af 0] 78):=(g.block _ sP).trans (lu _ _);have h:=mU b _ 0 _ _ _ a;have i:=mU b _ 1 _ _ _ a;have j:=mU b _ 2 _ _ _ a;have n:=frozen_of_row b _ 0 _ _ a;have p:=frozen_of_row b _ 1 _ _ a;have q:=frozen_of_row b _ 2 _ _ a;simp at h i j);refine kA (v:=An #[.string s,c,f]) (by simp[results,results182,go_sem,h,i,j]) rfl ⟨rfl,?_⟩;exact((((((jZ _ _).alloc lR _).trans (g.mono sP)).setCell sP _).setCell sP _).setCell sP _)
theorem Qf(op:Int)(w:Y):Ai Aq 182 #[Ag Af op] w λe b=>e=Am (An (CL op))/\Ah w w b:=by
 by_cases h:op<0\/29<op
 . exact Tz op _ _ _ _ (SQ h) (λw=>VY op w h) SE w
 obtain⟨k,rfl⟩:=jW (show 0<=op from oM);obtain⟨s,c,f,a⟩:=Ju k oM;exact Tz _ _ s c f ((UW k oM).trans a) (λw=>Yn k oM w) (λw=>by rw[<-a];exact SD k oM w) w
def DF(x:MF×VF):List J:=[x.2.p,x.1.cu,x.2.l,x.2.c]
theorem AK(x:MF×VF):(DF x).length=4:=rfl
def Ia(x:List Int×J):List J:=[x.2]
theorem DB(x:List Int×J):(Ia x).length=1:=rfl
def Qi(w:Y)(s:J)(fs:List MF):Prop:=∃xs:List (MF×VF),xs.map Prod.fst=fs/\Rd w 4 s fs (Ad DF xs)/\∀x∈xs,FH w x.2 x.1
def FN(w:Y)(base:Nat)(s:J)(fs:List MF):Prop:=∃xs:List (MF×VF),xs.map Prod.fst=fs/\Ab w base 34 4 s fs (Ad DF xs)/\∀x∈xs,K7 w base x.2 x.1
def OT(w:Y)(s:J)(rs:List (List Int)):Prop:=∃xs:List (List Int×J),xs.map Prod.fst=rs/\Rd w 1 s rs (Ad Ia xs)/\∀x∈xs,Rd w 1 x.2 x.1 (x.1.flatMap As)
theorem FN.rd{fs:List MF}(h:FN w base s fs):Qi w s fs:=by obtain⟨xs,a,b,c⟩:=h;exact⟨xs,a,Rd.eS b, λx d=>(c x d).rd⟩
theorem Qi.av{w c:Y}{fs:List MF}(h:Qi w s fs)(b:Ah B w c)(a: ↑w<=B):Qi c s fs:=by obtain⟨xs,d,e,f⟩:=h;exact⟨xs,d,e.av b a, λx g=>(f x g).av b a⟩
theorem OT.av{w c:Y}{rs:List (List Int)}(h:OT w s rs)(b:Ah B w c)(a: ↑w<=B):OT c s rs:=by obtain⟨xs,d,e,f⟩:=h;exact⟨xs,d,e.av b a, λx g=>(f x g).av b a⟩
theorem FN.av{w c:Y}{fs:List MF}(h:FN w base s fs)(b:Ah B w c)(a: ↑w<=B):FN c base s fs:=by obtain⟨xs,d,e,f⟩:=h;exact⟨xs,d,AC e b a, λx g=>(f x g).av b a⟩
theorem qr:(Tryz.prog.info? 34).map (λi=>(i.zero,i.size,i.bytes))=K (K (An #[Z M 0 0,Ag Af 0,Z M 0 0,Z M 0 0]),4,80):=kR
theorem Ga{β:Type}{xs:List (α×β)}{fs:List α}(h:xs.map Prod.fst=fs){k:Nat}{x:α×β}(a:xs[k]?=K x):fs[k]?=K x.1:=by rw[<-h,jY,a];rfl
structure MP where
 az:List (List Int)
 b8:List MC
 aB:List MF
 bO:List MT
structure VP where
 r:J
 k:J
 f:J
 t:J
structure ET(w:Y)(v:VP)(p:MP):Prop where
 az:OT w v.r p.az
 b8:Rd w 2 v.k p.b8 (Ad MC.cells p.b8)
 aB:Qi w v.f p.aB
 bO:Rd w 4 v.t p.bO (Ad MT.cells p.bO)
structure MP.small(p:MP):Prop where
 az:p.az.length<=1048576
 region:∀r∈p.az,r.length<=1048576
 b8:p.b8.length<=1048576
 aB:p.aB.length<=1048576
 func:∀f∈p.aB,f.small
 bO:p.bO.length<=1048576
theorem ET.av{w c:Y}{v:VP}{p:MP}(h:ET w v p)(b:Ah B w c)(a: ↑w<=B):ET c v p:=⟨h.az.av b a,h.b8.av b a,h.aB.av b a,h.bO.av b a⟩
theorem AL(B:Nat)(w:Y)(nq:Nat):Ah B w (w.drewN nq):=⟨rfl,rfl,rfl,Nat.le_refl _, λ_ _=>rfl⟩
theorem Bs{u:Y}(h:Ah w.drew w.drew u)(a:B<= ↑w):Ah B w u:=⟨h.os,h.tape,h.output,h.size, λk b=>h.block k (lA b a)⟩
end Go.Proofs.YtkgohaigebcgoaaGreatDoor
