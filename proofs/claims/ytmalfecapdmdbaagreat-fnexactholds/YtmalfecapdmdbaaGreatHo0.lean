import Derived.Test.YtmalfecapdmdbaaGreatRows
import Derived.WalkKit
import Derived.Below
import Derived.ProofKit
import Derived.OpenShut
import Derived.Outline
import Derived.WalkLawsBesides
import Derived.Laws.Rows
import Derived.Laws.OwnMore
import Derived.OwnWalk
import Derived.Deep.QuietTactic
import Derived.BigQuiet
import Derived.Laws.Tables
import Derived.Deep.WholeRow
import Derived.Great.BuildSlice
import Derived.Laws.CopyOwn
import Derived.Laws.EntriesVeiled
import Derived.Deep.MidRow
import Derived.OneCell
import Derived.Deep.RegionWith
namespace Go.Proofs.YtmalfecapdmdbaaGreat
open Go.ChangeShapes Go.WideShapes Go.ChangeAt Go.RowKit Go.Proofs.Tryz
set_option linter.unusedVariables false
open Go.RowKit renaming Hid → Ae,Below → Ah
open Go.Value renaming slice → Z,int → Ag,agg → Am
open Option renaming some → K,none → M
open Go renaming Value → J,World → Y,TypeId → Aj,Calls → Ai
open Go.IntKind renaming i64 → Af
open Go.World renaming ownsRow → Ab,alloc → Ac,setCell → Aa
open List renaming flatMap → Ad
open Go.Ending renaming returned → Al
open Go.Proofs.Tryz renaming prog → Ap
open Go.Obj renaming cells → Ak
set_option maxHeartbeats 4000000
set_option maxRecDepth 100000
variable {n B:Nat}{w d u wr:Y}{e:Aj}{s:J}{xs:List J}{α β:Type}{P:Program}{Q:Exit->Act->Y->Prop}{rs fs:List (List Int)}
instance:Coe World Nat:=⟨λw=>w.heap.size⟩
instance {α:Type}:CoeOut (List α) Nat:=⟨List.length⟩
instance:Coe Nat (Option Addr):=⟨λn=>some ⟨n,0,none⟩⟩
instance:Coe Nat Addr:=⟨λn=>⟨n,0,none⟩⟩
instance:CoeFun World (λ_=>Addr->Option Value):=⟨World.cell?⟩
instance:Coe Int Value:=⟨.int .i64⟩
instance:Coe Nat Value:=⟨λn=>.int .i64 (n:Int)⟩
instance:Coe Bool Value:=⟨.bool⟩
theorem lR:n<=n:=Nat.le_refl n
theorem _root_.Go.RowKit.Hid.o{p:Prop}(h:Ae p):p:=h
theorem oM{p:Prop}(h:p:=by omega):p:=h
theorem dC{p:Prop}(h:p:=by decide):p:=h
theorem kR{p:Prop}(h:p:=by kernel_rfl):p:=h
theorem sP{p:Prop}(h:p:=by simp):p:=h
theorem oS{p:Prop}(h:p:=by simp only[];omega):p:=h
theorem oX{p:Prop}(h:p:=by unfold maxLen;omega):p:=h
theorem oT{p:Prop}(h:p:=by simp;omega):p:=h
theorem oE{p:Prop}(h:p:=by simp[Act.eval]):p:=h
theorem oI{p:Prop}(h:p:=by simp[intOf];omega):p:=h
abbrev an:=@List.getElem?_eq_getElem
abbrev d5:=@And.intro
abbrev hC:=@block_lt_of_cell
abbrev i6:=@List.getElem?_eq_some_iff
abbrev i7:=@List.mem_of_getElem?
abbrev i8:=@Value.slice.injEq
abbrev i9:=@List.getElem?_cons_zero
abbrev kA:=@Int.toNat_natCast
abbrev kB:=@List.getElem?_toArray
abbrev kC:=@List.getElem?_cons_succ
abbrev kE:=@List.length_append
abbrev kH:=@Option.some.inj
abbrev kI:=@Option.some.injEq
abbrev kJ:=@Nat.add_zero
abbrev kK:=@List.length_singleton
abbrev kL:=@List.getD_eq_getElem?_getD
abbrev kM:=@Array.getElem?_eq_some_iff
abbrev kN:=@ownsRow_setCell_other
abbrev kO:=@List.mem_append
abbrev kP:=@if_neg
abbrev kQ:=@bodyPost_ret
abbrev kS:=@Below.refl
abbrev kT:=@List.getElem?_append_right
abbrev kU:=@List.take_succ_eq_append_getElem
abbrev kV:=@Nat.le_trans
abbrev kW:=@List.getElem?_eq_none
abbrev kX:=@Int.eq_ofNat_of_zero_le
abbrev kY:=@List.mem_cons
abbrev kZ:=@if_pos
abbrev k8:=@List.take_of_length_le
abbrev lA:=@List.mem_map
abbrev lB:=@true_and
abbrev lC:=@List.length_map
abbrev lD:=@List.flatMap_cons
abbrev lE:=@List.getElem?_map
abbrev lF:=@List.setIfInBounds_toArray
abbrev lG:=@List.not_mem_nil
abbrev lH:=@List.getElem?_of_mem
abbrev lI:=@List.set_cons_zero
abbrev lJ:=@List.eq_nil_of_length_eq_zero
abbrev lK:=@List.cons_append
abbrev lL:=@List.flatMap_append
abbrev lM:=@Nat.zero_add
abbrev lN:=@Nat.mul_one
abbrev lO:=@List.getElem?_append_left
abbrev lP:=@ownsRow_setCell_below
abbrev lQ:=@World.ownsRow_nil
abbrev lS:=@info_parts
abbrev lT:=@List.set_cons_succ
abbrev lU:=@List.mem_cons_of_mem
abbrev lV:=@List.mem_cons_self
abbrev lW:=@Classical.byContradiction
abbrev lX:=@List.length_cons
abbrev lY:=@heap_setCell_other
abbrev lZ:=@decide_eq_false
abbrev ld:=@List.mem_singleton
abbrev lg:=@List.pairwise_cons
abbrev lh:=@List.length_take
abbrev lj:=@World.ownsRow.cellAt
abbrev lq:=@Nat.lt_of_lt_of_le
abbrev lr:=@World.size_setCell
abbrev lu:=@List.nil_append
abbrev lw:=@List.length_nil
abbrev l8:=@wpList_make_full
abbrev mA:=@Nat.ne_of_lt
abbrev mB:=@decide_eq_true_eq
abbrev mC:=@List.length_reverse
abbrev mD:=@List.drop_eq_getElem_cons
abbrev mE:=@Addr.mk.injEq
abbrev mF:=@List.map_append
abbrev mG:=@List.length_set
abbrev mH:=@Nat.add_sub_cancel_left
abbrev mI:=@World.ownsRow.stored
abbrev mJ:=@List.flatMap_nil
abbrev mK:=@List.length_replicate
abbrev mL:=@List.mem_range
abbrev mM:=@List.length_range
abbrev mN:=@List.getElem_mem
abbrev mO:=@List.mem_filter
abbrev mP:=@List.ext_getElem?
abbrev mQ:=@List.length_drop
abbrev mR:=@Bool.and_eq_true
abbrev mS:=@or_false
abbrev mT:=@Option.map_eq_some_iff
abbrev mU:=@Nat.sub_self
abbrev mV:=@and_true
abbrev mW:=@List.length_filter_le
abbrev mX:=@List.map_cons
abbrev mY:=@Bool.false_ne_true
abbrev mZ:=@List.getElem?_set_self
abbrev mc:=@List.mem_reverse
abbrev mg:=@Obj.cells.injEq
abbrev mh:=@List.filter_append
abbrev mi:=@List.pairwise_iff_getElem
abbrev mj:=@World.ownsRow_lit
abbrev mm:=@List.append_assoc
abbrev mq:=@List.pairwise_append
abbrev mr:=@List.getElem?_set_ne
abbrev ms:=@List.flatten_replicate_singleton
abbrev mu:=@List.pairwise_map
abbrev mv:=@World.ownsMap.isMap
abbrev mw:=@List.range_succ
abbrev my:=@List.mem_flatMap
abbrev mz:=@Nat.zero_le
abbrev m6:=@List.append_nil
abbrev m7:=@World.ownsMap.lt
abbrev m8:=@List.set_append_right
abbrev m9:=@List.take_append_drop
abbrev nA:=@Go.IntWalk.i64_in
abbrev nB:=@of_decide_eq_true
abbrev nC:=@Go.Maps.keyOf_int_mk
abbrev nD:=@List.drop_of_length_le
abbrev nE:=@List.map_map
abbrev nF:=@List.map_congr_left
abbrev nG:=@List.nodup_append
abbrev nH:=@List.getElem?_zipWith
abbrev nI:=@Option.map_some
abbrev nJ:=@List.cons.injEq
abbrev nL:=@Option.getD_some
abbrev nM:=@List.length_pos_iff
abbrev nN:=@List.mem_map_of_mem
abbrev nO:=@Bool.eq_iff_iff
abbrev nP:=@List.mem_or_eq_of_mem_set
abbrev nQ:=@List.idxOf_lt_length_iff
abbrev nR:=@decide_eq_false_iff_not
abbrev nS:=@List.mergeSort_perm
abbrev nT:=@List.pairwise_lt_range
abbrev nU:=@List.filter_cons
abbrev nV:=@List.all_eq_true
abbrev nW:=@Bool.false_eq_true
abbrev nX:=@beq_eq_false_iff_ne
abbrev nY:=@List.replicate_succ
abbrev nZ:=@World.size_alloc
abbrev nh:=@cell_of_row
abbrev ni:=@List.filter_nil
abbrev nj:=@heap_alloc_new
abbrev nm:=@List.mem_of_mem_tail
abbrev nw:=@Nat.le_of_lt
abbrev ny:=@Nat.lt_succ_self
abbrev nz:=@Array.getElem?_eq_getElem
abbrev n9:=@Int.toNat_of_nonneg
abbrev oC:=@List.getElem?_range
abbrev oD:=@Array.getElem?_push_size
abbrev oF:=@List.idxOf_cons
abbrev oG:=@List.getElem?_drop
abbrev oH:=@World.ownsRow.frozenAt
abbrev oJ:=@World.cell?_of_block
abbrev oL:=@Nat.add_mul
abbrev oN:=@World.cell?_setCell_same
abbrev oP:=@List.getElem?_take_of_lt
abbrev oQ:=@List.pairwise_singleton
abbrev oR:=@bodyPost_end
def Rd(w:Y)(k:Nat)(s:J)(n:Nat)(xs:List J):Prop:=↑xs=n*k/\((n=0/\∃a c,s=Z a 0 c)\/∃g o c,s=Z (K ⟨g,o,M⟩) n c/\∀j u,xs[j]?=K u->w ⟨g,o+j,M⟩=K u)
theorem Rd.gM{base:Nat}{k n:Nat}(h:Ab w base e k s n xs):Rd w k s n xs:=by
 refine⟨by simpa using h.1,?_⟩;rcases h.2 with⟨rfl,rfl⟩|⟨g,cap,b,rfl,i,c,p,l,m,f⟩
 . exact .inl ⟨rfl,_,_,rfl⟩
 refine .inr ⟨g,0,cap,rfl, λj u a=> ?_⟩;rw[nh w g _ b e _ c,lM];rw[<-f]at a;obtain⟨d,a⟩:=i6.1 a;rw[List.getElem_take]at a;rw[<-a];simp at d;rw[nz oM];simp
theorem Rd.a7{k n:Nat}(h:Rd w k s n xs)(f:Ah B w d)(e: ↑w<=B):Rd d k s n xs:=by
 obtain⟨b,h|⟨g,o,c,rfl,i⟩⟩:=h
 . exact⟨b,.inl h⟩
 refine⟨b,.inr ⟨g,o,c,rfl, λj u l=> ?_⟩⟩;have a:=i j u l;rw[f.cell (lq (hC a) e)];exact a
theorem Rd.dk{k:Nat}(h:Rd w k s n xs):∃a c,s=Z a n c:=by rcases h.2 with⟨rfl,a,c,rfl⟩|⟨g,o,c,rfl,_⟩<;>exact⟨_,_,rfl⟩
theorem Aw{w b:Y}{base:Nat}{k n:Nat}(h:Ab w base e k s n xs)(i:Ah B w b)(f: ↑w<=B):Ab b base e k s n xs:=by
 refine⟨h.1,?_⟩;rcases h.2 with h|⟨g,cap,c,d,j,a,l⟩
 . exact .inl h
 refine .inr ⟨g,cap,c,d,j,?_,l⟩;rw[i.block g (lq (kM.1 a).1 f)];exact a
theorem AE(f:α->List J)(m:Nat)(b:∀y,(f y).length=m)(a:List α):(Ad f a).length= ↑a*m:=by
 induction a with
 |nil=>simp
 |cons y r c=>rw[lD,kE,c,b,lX,oL];omega
theorem Jd(f:α->List J)(m:Nat)(b:∀y,(f y).length=m)(c:List α)(k j:Nat)(y:α)(a:c[k]?=K y)(d:j<m):(Ad f c)[k*m+j]?=(f y)[j]?:=by
 induction c generalizing k with
 |nil=>cases a
 | cons x r e=>
   rw[lD];cases k with
   | zero=>simp only[i9,kI]at a;subst a;rw[Nat.zero_mul,lM,lO (by rw[b];exact d)]
   | succ k=>rw[kC]at a;rw[kT (by rw[b,oL];omega),b,<-e k a];(congr 1);rw[oL];omega
def Bu{α:Type}(f:α->List J)(z:List J)(a:List α)(k n:Nat):List J:=Ad f (a.take k)++(List.replicate (n-k) z).flatten
theorem Fp(f:α->List J)(z:List J)(a:List α)(n:Nat)(h: ↑a=n):Bu f z a n n=Ad f a:=by simp[Bu,<-h]
theorem Cb(f:α->List J)(z:List J)(u:List α)(n:Nat)(v:J)(m:Nat)(p:v.cells=z.toArray)(k: ↑z=m)(c:0<m):(madeCells v.cells (n*m)).toList=Bu f z u 0 n:=by
 subst k;rw[p];unfold Bu;rw[List.take_zero,mJ,lu,Nat.sub_zero];apply mP;intro i;have j:(List.replicate n z).flatten=Ad id (List.replicate n z):=by simp[List.flatMap_id]
 by_cases b:i<n* ↑z
 . have l:i / ↑z<n:=(Nat.div_lt_iff_lt_mul c).2 b
   have a:=Nat.mod_lt i c;have e:i=i / ↑z* ↑z+i % z.length:=by rw[Nat.mul_comm];exact(Nat.div_add_mod i z).symm
   have s:(List.replicate n z).flatten[i]?=z[i % ↑z]?:=by
    (conv=>lhs;rw[e]);clear e;generalize i / z.length=q at l;generalize i % z.length=r at a;clear b j;induction n generalizing q with
    |zero=>omega
    | succ n t=>
      rw[nY,List.flatten_cons];cases q with
      |zero=>rw[Nat.zero_mul,lM,lO a]
      | succ q=>rw[kT (by rw[oL];omega),<-t q oM];(congr 1);rw[oL];omega
   rw[s];have h:i<(madeCells z.toArray (n* ↑z)).toList.length:=by simp[madeCells];exact b
   rw[an h,an a];simp[madeCells];rw[an a];rfl
 have d:(madeCells z.toArray (n* ↑z)).toList.length<=i:=by simp[madeCells];omega
 have g:(List.replicate n z).flatten.length<=i:=by rw[List.length_flatten];simp;omega
 rw[kW d,kW g]
theorem CG(f:α->List J)(z:List J)(a:List α)(k n:Nat)(b:k<n):Bu f z a k n=Ad f (a.take k)++(z++(List.replicate (n-(k+1)) z).flatten):=by unfold Bu;have e:n-k=(n-(k+1))+1:=oM;rw[e,nY,List.flatten_cons]
theorem El(f:α->List J)(z:List J)(a:List α)(k n:Nat)(y:α)(c:a[k]?=K y):Bu f z a (k+1) n=Ad f (a.take k)++(f y++(List.replicate (n-(k+1)) z).flatten):=by unfold Bu;obtain⟨b,rfl⟩:=i6.1 c;rw[kU b,lL,mm];simp
theorem UN(A R:List J)(a c0:J)(i:Nat)(h: ↑A=i):(A++([a]++R)).set i c0=A++([c0]++R):=by subst h;simp
theorem Yu(A R:List J)(a b c0 c1:J)(i:Nat)(h: ↑A=i):((A++([a,b]++R)).set i c0).set (i+1) c1=A++([c0,c1]++R):=by subst h;simp[List.set_append_right]
theorem Xr(A R:List J)(a b c z3 c0 c1 c2 c3:J)(i:Nat)(h: ↑A=i):((((A++([a,b,c,z3]++R)).set i c0).set (i+1) c1).set (i+2) c2).set (i+3) c3=A++([c0,c1,c2,c3]++R):=by subst h;simp[List.set_append_right]
theorem Rd.elem{f:α->List J}{m:Nat}{a:List α}{g o:Nat}(b:∀y,(f y).length=m)(h:∀j u,(Ad f a)[j]?=K u->w ⟨g,o+j,M⟩=K u)(k:Nat)(y:α)(e:a[k]?=K y)(j:Nat)(u:J)(c:(f y)[j]?=K u):w ⟨g,o+k*m+j,M⟩=K u:=by
 have d:j<m:=by rw[<-b y];exact(i6.1 c).1
 rw[Nat.add_assoc];exact h _ u ((Jd f m b a k j y e d).trans c)
theorem Av{p:Prop}(h:p):Ae p:=h
abbrev sN:J:=Z M 0 0
abbrev sG(g n c:Nat):J:=Z g n c
abbrev sO(g o n c:Nat):J:=Z (K ⟨g,o,M⟩) n c
abbrev iZ(z:Int):J:=Ag Af z
def Ec(t:Int):Bool:=decide (1<=t/\t<=3)
theorem Pu{t:Int}(h:1<=t)(a:t<=3):Ec t=true:=by unfold Ec;simp;omega
theorem Hy{t:Int}(h:t<1\/3<t):Ec t=false:=by unfold Ec;simp;omega
def word(b:Bool):Int:=if b then 1 else 0
theorem DT(t:Int)(w:Y):Ai Ap 119 #[t] w λe c=>e=Al (Ec t)/\c=w:=by
 by_cases a:1<=t
 . by_cases b:t<=3
   . rw[Pu a b];go_enter func119,ntmps119;go_wp2;go_ret;exact⟨rfl,rfl⟩
   rw[Hy oM];go_enter func119,ntmps119;go_wp2;go_ret;exact⟨rfl,rfl⟩
 rw[Hy oM];go_enter func119,ntmps119;go_wp2;go_ret;exact⟨rfl,rfl⟩
theorem DU(t:Int)(w:Y):Ai Ap 52 #[t] w λe c=>e=Al (Ec t)/\c=w:=by
 by_cases a:1<=t
 . by_cases b:t<=3
   . rw[Pu a b];go_enter func52,ntmps52;go_wp2;go_ret;exact⟨rfl,rfl⟩
   rw[Hy oM];go_enter func52,ntmps52;go_wp2;go_ret;exact⟨rfl,rfl⟩
 rw[Hy oM];go_enter func52,ntmps52;go_wp2;go_ret;exact⟨rfl,rfl⟩
def Fd(P:Program):List Oper->Act->Option Act
 |[],a=>K a
 | o ::r,a=>
   match o.guard,o.op with
   | none,.build t parts=>
     match P.built t (parts.map λ(i,x)=>(i,a.eval x)).toList with
     |some cells=>Fd P r (a.put o.dst (Am cells))
     |none=>M
   |_,_=>M
theorem FU{c:Array Oper}{a':Act}(rest:List Oper)(h:wpList P c Q rest a' w):
 ∀(l:List Oper) (a:Act),Fd P l a=K a'->wpList P c Q (l++rest) a w
 | [],a,hb=>by simp only[Fd,kI]at hb;subst hb;exact h
 | o ::r,a,hb=>by
   unfold Fd at hb;split at hb
   . next t parts d e=>
     split at hb
     . next cells b=>
       refine wpList_build d t parts e (by rw[b];rfl) ?_;rw[b];exact FU rest h r _ hb
     . cases hb
   . cases hb
theorem OE{r:Array Oper}{l:List Oper}{a:Act}(n:Nat)(ty t:Aj)(x y:Operand)(g:Nat)(cells d:Array J)(p:Tmp)
 (i:(Fd P (l.take n) a).map (λa'=>(a'.eval x,a'.eval y,a'.tmps.getD p undef,a'.defers))=K (.pointer g,Am cells,.pointer g,[]))
 (b:(l.drop n).map (λo=>(o.guard,o.op,o.dst))=[(M,.store ty x y,M)])
 (j:w.heap[g]?=K (Ak d t (0,0))) (k:(P.info? ty).map (·.size)=K cells.size)
 (m:d.size=cells.size) (e:cells.all (·.oneCell')=true)
 (h:∀a',a'.tmps.getD p undef=.pointer g->a'.defers=[]->Q .normal a' (w.setRow g cells)):wpList P r Q l a w:=by
 rw[<-m9 n l];obtain⟨a',f,c⟩:=mT.1 i;simp only[Prod.mk.injEq]at c;refine FU (a':=a') _ ?_ _ _ f;generalize l.drop n=q at b;rcases q with _|⟨o,_|⟨u,s⟩⟩
 . cases b
 . simp only[mX,List.map_nil,nJ,Prod.mk.injEq,mV]at b;refine wpList_store_row b.1 ty x y b.2.1 g cells c.1 c.2.1 t d j k m e ?_;rw[b.2.2];exact wpList_nil (h _ c.2.2.1 c.2.2.2)
 simp at b
theorem Jr{I:Array Oper}{l:List Oper}{a:Act}(n:Nat)(t e:Aj)(len:Nat)(parts:Array (Nat×Operand))(s p m:Nat)(cells:Array J)(b:TypeInfo)(z:J)
 (u:(Fd P (l.take n) a).map (λa'=>(Instr.fill (λi=>K (i*b.size,b.size)) ((Array.range (len*b.size)).map (z.cells[· % z.cells.size]!)) (parts.map λ(i,x)=>(i,a'.eval x)).toList,a'.tmps.size,a'.defers))=K (K cells,m,[]))
 (c:(l.drop n).map (λo=>(o.guard,o.op,o.dst))=[(M,.buildSlice t len parts,K s),(M,.assign (.tmp s),K p)])
 (B:s<m) (y:p<m)
 (D:P.underlying t=K (.slice e)) (v:P.info? e=K b) (E:b.zero=K z) (C:¬len*b.size>2 ^ 24) (A:¬len*b.size=0)
 (h:∀a',a'.tmps.getD p undef=Z w len len->a'.defers=[]->Q .normal a' (Ac w (Ak cells e))):wpList P I Q l a w:=by
 rw[<-m9 n l];obtain⟨a',r,d⟩:=mT.1 u;simp only[Prod.mk.injEq]at d;refine FU (a':=a') _ ?_ _ _ r;generalize l.drop n=F at c;rcases F with _|⟨o,_|⟨O,_|⟨R,N⟩⟩⟩
 . cases c
 . simp at c
 . simp only[mX,List.map_nil,nJ,Prod.mk.injEq,mV]at c;obtain⟨⟨j,G,g⟩,k,H,f⟩:=c;refine wpList_buildSlice j t e len parts G cells b z D v E C A d.1 ?_;rw[g];(refine wpList_plain k λL q=> ?_);unfold Oper.wp execOp;simp only[H,Sem.run_pure];refine q _ _ (wpList_nil (h _ ?_ ?_))
   . simp[Act.put,Act.eval,y,B,d.2.1,f]
   simp[Act.put,d.2.2,f]
 simp at c
def QF:Array J:=#[.string ⟨#[]⟩,Ag Af 0,Ag Af 0,.nilFunc,
 .string ⟨#[]⟩,Ag Af 0,Ag Af 0,.nilFunc,
 .string ⟨#[]⟩,Ag Af 0,Ag Af 0,.nilFunc,
 .string ⟨#[]⟩,Ag Af 0,Ag Af 0,.nilFunc,
 .string ⟨#[]⟩,Ag Af 0,Ag Af 0,.nilFunc,
 .string ⟨#[]⟩,Ag Af 0,Ag Af 0,.nilFunc,
 .string ⟨#[]⟩,Ag Af 0,Ag Af 0,.nilFunc,
 .string ⟨#[]⟩,Ag Af 0,Ag Af 0,.nilFunc,
 .string ⟨#[]⟩,Ag Af 0,Ag Af 0,.nilFunc,
 .string ⟨#[]⟩,Ag Af 0,Ag Af 0,.nilFunc,
 .string ⟨#[]⟩,Ag Af 0,Ag Af 0,.nilFunc,
 .string ⟨#[]⟩,Ag Af 0,Ag Af 0,.nilFunc,
 .string ⟨#[]⟩,Ag Af 0,Ag Af 0,.nilFunc,
 .string ⟨#[]⟩,Ag Af 0,Ag Af 0,.nilFunc,
 .string ⟨#[]⟩,Ag Af 0,Ag Af 0,.nilFunc,
 .string ⟨#[]⟩,Ag Af 0,Ag Af 0,.nilFunc,
 .string ⟨#[]⟩,Ag Af 0,Ag Af 0,.nilFunc,
 .string ⟨#[]⟩,Ag Af 0,Ag Af 0,.nilFunc,
 .string ⟨#[]⟩,Ag Af 0,Ag Af 0,.nilFunc,
 .string ⟨#[]⟩,Ag Af 0,Ag Af 0,.nilFunc,
 .string ⟨#[]⟩,Ag Af 0,Ag Af 0,.nilFunc,
 .string ⟨#[]⟩,Ag Af 0,Ag Af 0,.nilFunc,
 .string ⟨#[]⟩,Ag Af 0,Ag Af 0,.nilFunc,
 .string ⟨#[]⟩,Ag Af 0,Ag Af 0,.nilFunc,
 .string ⟨#[]⟩,Ag Af 0,Ag Af 0,.nilFunc,
 .string ⟨#[]⟩,Ag Af 0,Ag Af 0,.nilFunc,
 .string ⟨#[]⟩,Ag Af 0,Ag Af 0,.nilFunc,
 .string ⟨#[]⟩,Ag Af 0,Ag Af 0,.nilFunc,
 .string ⟨#[]⟩,Ag Af 0,Ag Af 0,.nilFunc,
 .string ⟨#[]⟩,Ag Af 0,Ag Af 0,.nilFunc]
def FH:Array J:=#[.string ⟨#[110,111,112]⟩,Ag Af 1,Ag Af 0,.nilFunc,
 .string ⟨#[99,111,110,115,116]⟩,Ag Af 1,Ag Af 1,.nilFunc,
 .string ⟨#[108,111,97,100,108,111,99,97,108]⟩,Ag Af 1,Ag Af 2,.nilFunc,
 .string ⟨#[115,116,111,114,101,108,111,99,97,108]⟩,Ag Af 1,Ag Af 2,.nilFunc,
 .string ⟨#[108,111,97,100]⟩,Ag Af 2,Ag Af 3,.nilFunc,
 .string ⟨#[115,116,111,114,101]⟩,Ag Af 2,Ag Af 3,.nilFunc,
 .string ⟨#[108,111,97,100,97,116]⟩,Ag Af 3,Ag Af 4,.nilFunc,
 .string ⟨#[115,116,111,114,101,97,116]⟩,Ag Af 3,Ag Af 4,.nilFunc,
 .string ⟨#[97,100,100]⟩,Ag Af 1,Ag Af 5,.func (.func 184) #[] #[],
 .string ⟨#[115,117,98]⟩,Ag Af 1,Ag Af 5,.func (.func 185) #[] #[],
 .string ⟨#[109,117,108]⟩,Ag Af 3,Ag Af 5,.func (.func 186) #[] #[],
 .string ⟨#[100,105,118]⟩,Ag Af 8,Ag Af 5,.func (.func 187) #[] #[],
 .string ⟨#[109,111,100]⟩,Ag Af 8,Ag Af 5,.func (.func 188) #[] #[],
 .string ⟨#[97,110,100]⟩,Ag Af 1,Ag Af 6,.func (.func 189) #[] #[],
 .string ⟨#[111,114]⟩,Ag Af 1,Ag Af 6,.func (.func 190) #[] #[],
 .string ⟨#[120,111,114]⟩,Ag Af 1,Ag Af 6,.func (.func 191) #[] #[],
 .string ⟨#[110,111,116]⟩,Ag Af 1,Ag Af 6,.func (.func 192) #[] #[],
 .string ⟨#[115,104,108]⟩,Ag Af 1,Ag Af 0,.func (.func 193) #[] #[],
 .string ⟨#[115,104,114]⟩,Ag Af 1,Ag Af 0,.func (.func 194) #[] #[],
 .string ⟨#[110,101,103]⟩,Ag Af 1,Ag Af 0,.func (.func 195) #[] #[],
 .string ⟨#[101,113]⟩,Ag Af 1,Ag Af 7,.func (.func 196) #[] #[],
 .string ⟨#[108,101,115,115]⟩,Ag Af 1,Ag Af 5,.func (.func 197) #[] #[],
 .string ⟨#[99,111,110,118]⟩,Ag Af 1,Ag Af 8,.nilFunc,
 .string ⟨#[100,117,112]⟩,Ag Af 1,Ag Af 0,.nilFunc,
 .string ⟨#[100,114,111,112]⟩,Ag Af 1,Ag Af 0,.nilFunc,
 .string ⟨#[106,117,109,112]⟩,Ag Af 2,Ag Af 9,.nilFunc,
 .string ⟨#[106,117,109,112,122,101,114,111]⟩,Ag Af 2,Ag Af 9,.nilFunc,
 .string ⟨#[103,117,97,114,100]⟩,Ag Af 2,Ag Af 10,.nilFunc,
 .string ⟨#[99,97,108,108]⟩,Ag Af 4,Ag Af 11,.nilFunc,
 .string ⟨#[114,101,116,117,114,110]⟩,Ag Af 2,Ag Af 0,.nilFunc]
theorem TI(w:Y):(zeroValue 244).run Ap w=.ok (Am QF) w:=kR
theorem Ry(w:Y):Ai Ap 168 #[] w λe c=>e=Al (Am FH)/\Ah w w c:=by have d:=TI;go_enter func168,ntmps168;go_wp2_with (show wpList _ _ _ ({dst:=K 1,op:=Op.build _ _,type:=_,pos:=_,after:=_,guard:=_}::_) _ _;refine OE 61 244 244 (.tmp 0) (.tmp 61) w FH QF 0 kR rfl (nj _ _) kR kR kR ?_;intro a' b a);rw[World.setRow_alloc_new];exact kQ (v:=Am FH) (results_cell_row results168 _ _ w 244 FH (0,0) _ b (nj _ _) underlying244 rfl kR) a ⟨rfl,(kS _ _).alloc lR _⟩
def CJ(k:Nat):Array J:=FH.extract (4*k) (4*k+4)
theorem Rh(k:Nat)(a:k<30)(w:Y):(Instr.index 244 (Am FH) k).run Ap w=.ok (Am (CJ k)) w:=by
 have h:k=0\/k=1\/k=2\/k=3\/k=4\/k=5\/k=6\/k=7\/k=8\/k=9\/k=10\/k=11\/k=12\/k=13\/k=14\/k=15\/k=16\/k=17\/k=18\/k=19\/k=20\/k=21\/k=22\/k=23\/k=24\/k=25\/k=26\/k=27\/k=28\/k=29:=oM
 clear a;rcases h with rfl|rfl|rfl|rfl|rfl|rfl|rfl|rfl|rfl|rfl|rfl|rfl|rfl|rfl|rfl|rfl|rfl|rfl|rfl|rfl|rfl|rfl|rfl|rfl|rfl|rfl|rfl|rfl|rfl|rfl<;>(show Sem.run _ _ _=Result.ok _ _;kernel_rfl)
theorem MK(k:Nat)(b:k<30):(CJ k).size=4:=by have a:FH.size=120:=kR;simp[CJ,a];omega
theorem On(k:Nat)(d:k<30):(CJ k).all (·.oneCell')=true:=by have a:FH.all (·.oneCell')=true:=kR;rw[Array.all_eq_true_iff_forall_mem]at a⊢;intro v b;unfold CJ at b;obtain⟨i,c,rfl⟩:=Array.mem_iff_getElem.1 b;rw[Array.getElem_extract];exact a _ (Array.getElem_mem _)
theorem QG(w:Y):(zeroValue 230).run Ap w=.ok (Am #[.string ⟨#[]⟩,Ag Af 0,Ag Af 0,.nilFunc]) w:=kR
theorem TD(op:Int)(w:Y)(h:op<0\/29<op):Ai Ap 151 #[op] w λe a=>e=Al (Am #[.string ⟨#[]⟩,Ag Af 0,Ag Af 0,.nilFunc])/\Ah w w a:=by
 have d:=QG;rcases h with h|h
 . go_enter func151,ntmps151;go_wp2;exact kQ (v:=Am #[.string ⟨#[]⟩,Ag Af 0,Ag Af 0,.nilFunc]) (by simp[results,results151,go_sem]) rfl ⟨rfl,(kS _ _).alloc lR _⟩
 have b:decide (op<0)=false:=oT;have c:decide (29<op)=true:=oT;go_enter func151,ntmps151;go_wp2;exact kQ (v:=Am #[.string ⟨#[]⟩,Ag Af 0,Ag Af 0,.nilFunc]) (by simp[results,results151,go_sem]) rfl ⟨rfl,(kS _ _).alloc lR _⟩
theorem UL(k:Nat)(b:k<30)(w:Y):Ai Ap 151 #[k] w λe h=>e=Al (Am (CJ k))/\Ah w w h:=by
 have n:=QG;have j:decide ((k:Int)<0)=false:=sP;have l:decide (29<(k:Int))=false:=oT;have m:=Rh k b;have g:=MK k b;have d:=On k b;have a:Ae ((CJ k).size=4/\(CJ k).all (·.oneCell')=true):=⟨g,d⟩
 clear g d;go_enter func151,ntmps151;go_wp2_with (first
  |(go_at_call 168;refine(Ry _).mono ?_;rintro e i ⟨rfl,c⟩;have f:i.heap[w.heap.size]?=K (Ak #[.string ⟨#[]⟩,Ag Af 0,Ag Af 0,.nilFunc] 230):=(c.block _ sP).trans (nj _ _))
  |(show wpList _ _ _ ({dst:=M,op:=Op.store 230 _ _,type:=_,pos:=_,after:=_,guard:=_}::_) _ _;refine wpList_store_row rfl 230 (.tmp 2) (.tmp 12) rfl w (CJ k) rfl rfl 230 #[.string ⟨#[]⟩,Ag Af 0,Ag Af 0,.nilFunc] f (by rw[a.1];kernel_rfl) (by rw[a.1];rfl) a.2 ?_))
 refine kQ (v:=Am (CJ k)) (results_cell_row results151 _ _ w 230 (CJ k) (0,0) _ rfl (setRow_heap _ _ _ _ _ _ f) underlying230 rfl (by rw[a.1];kernel_rfl)) rfl ⟨rfl,?_⟩;exact below_setRow (((kS _ _).alloc lR _).trans (c.mono sP)) lR _
structure MI where
 op:Int
 a:Int
 b:Int
 c:Int
structure MC where
 type:Int
 word:Int
structure MT where
 func:Int
 head:Int
 gI:Int
 init:Int
def MI.cells(x:MI):List J:=[x.op,x.a,x.b,x.c]
def MC.cells(x:MC):List J:=[x.type,Ag .u32 x.word]
def MT.cells(x:MT):List J:=[x.func,x.head,x.gI,Ag .u32 x.init]
theorem MI.dr(x:MI):x.cells.length=4:=rfl
theorem MC.dr(x:MC):x.cells.length=2:=rfl
theorem MT.dr(x:MT):x.cells.length=4:=rfl
def As(z:Int):List J:=[z]
theorem AA(z:Int):(As z).length=1:=rfl
theorem Bp:(Tryz.prog.info? 2).map (λi=>(i.zero,i.size,i.bytes))=K (K (Ag Af 0),1,8):=kR
theorem XX:(Tryz.prog.info? 72).map (λi=>(i.zero,i.size,i.bytes))=K (K (Am #[Ag Af 0,Ag Af 0,Ag Af 0,Ag Af 0]),4,32):=kR
theorem XV:(Tryz.prog.info? 94).map (λi=>(i.zero,i.size,i.bytes))=K (K (Am #[Ag Af 0,Ag .u32 0]),2,16):=kR
theorem X3:(Tryz.prog.info? 88).map (λi=>(i.zero,i.size,i.bytes))=K (K (Am #[Ag Af 0,Ag Af 0,Ag Af 0,Ag .u32 0]),4,32):=kR
theorem Qk(x:MI)(w:Y):
 Ai Ap 94 #[Am #[Ag Af x.op,Ag Af x.a,Ag Af x.b,Ag Af x.c]] w λe d=>e=Al (Am #[Ag Af x.op,Ag Af x.a,Ag Af x.b,Ag Af x.c])/\Ah w w d:=by
 go_enter func94,ntmps94;go_wp2;exact kQ (v:=Am #[Ag Af x.op,Ag Af x.a,Ag Af x.b,Ag Af x.c]) (by simp[results,results94,go_sem]) rfl ⟨rfl,(((kS _ _).alloc lR _).alloc sP _).alloc oT _⟩
theorem Qi(x:MC)(w:Y):
 Ai Ap 41 #[Am #[Ag Af x.type,Ag .u32 x.word]] w λe a=>e=Al (Am #[Ag Af x.type,Ag .u32 x.word])/\Ah w w a:=by
 go_enter func41,ntmps41;go_wp2;exact kQ (v:=Am #[Ag Af x.type,Ag .u32 x.word]) (by simp[results,results41,go_sem]) rfl ⟨rfl,(((kS _ _).alloc lR _).alloc sP _).alloc oT _⟩
theorem RU(x:MT)(w:Y):
 Ai Ap 43 #[Am #[Ag Af x.func,Ag Af x.head,Ag Af x.gI,Ag .u32 x.init]] w λe a=>e=Al (Am #[Ag Af x.func,Ag Af x.head,Ag Af x.gI,Ag .u32 x.init])/\Ah w w a:=by
 go_enter func43,ntmps43;go_wp2;exact kQ (v:=Am #[Ag Af x.func,Ag Af x.head,Ag Af x.gI,Ag .u32 x.init]) (by simp[results,results43,go_sem]) rfl ⟨rfl,(((kS _ _).alloc lR _).alloc sP _).alloc oT _⟩
theorem Oy(s:J)(L:Nat)(b:List Int)(w:Y)(Q:L<=1048576)(h:Rd w 1 s L (Ad As b))(z: ↑b=L):
 Ai Ap 40 #[s] w λe D=>e=Al (Z w L L)/\Ab D w 2 1 (Z w L L) L (Ad As b)/\Ah w w D:=by
 obtain⟨j,E,G,H,I⟩:=lS Bp;have l:Ae (Rd w 1 s L (Ad As b)/\ ↑b=L):=⟨h,z⟩
 obtain⟨O,c1,rfl⟩:=h.dk;clear h z;go_enter func40,ntmps40;go_wp2_with (at_make;refine l8 _ rfl _ _ 46 rfl w 2 j (Ag Af 0) 1 underlying46 E G H Af Af _ _ L rfl rfl rfl rfl (by rw[I];omega) oX lR ?_;intro N a y);rw[Cb As [Ag Af 0] b L (Ag Af 0) 1 rfl rfl oM]at a;have u:Ah w w N:=(kS _ _).grown y lR (λk p=>by cases p);clear y;go_loopw [4] (λi wr=>∃k:Nat,k<=L/\i=Ag Af k/\Ab wr w 2 1 (Z w L L) L (Bu As [Ag Af 0] b k L)/\Ah w w wr) (λi _=>L-(intOf i).toNat)
 case atStart=>exact⟨0,oM,rfl,a,u⟩
 clear a u;obtain⟨k,p,rfl,a,n⟩:=hrel;by_cases B:k<L
 . obtain⟨x,q⟩:∃x,b[k]?=K x:=⟨_,an (by rw[l.2];exact B)⟩;have m:=El As [Ag Af 0] b k L x q;rw[CG As [Ag Af 0] b k L B]at a;(have f:(Ad As (b.take k)).length=k*1:=by rw[AE As 1 AA,lh,l.2,Nat.min_eq_left p]);generalize Ad As (b.take k)=A at a m f;generalize (List.replicate (L-(k+1)) [Ag Af 0]).flatten=R at a m;rcases l.1.2 with⟨P,_⟩|⟨g,o,c,t,v⟩
   . omega
   simp only[i8,lB]at t;obtain⟨rfl,rfl⟩:=t;have j:=Rd.elem AA v k x q 0 _ rfl;rw[<-n.cell (hC j)]at j;rw[lN,kJ]at j;have f0:=a.frozenAt k;have r:=a.cellAt k oM;rw[lN]at f;rw[kT oM,f,mU]at r;have d:Ae (Ab wr w 2 1 (Z w L L) L (A++([Ag Af 0]++R))/\ ↑A=k/\Bu As [Ag Af 0] b (k+1) L=A++(As x++R)):=⟨a,f,m⟩
   clear a f m v q;simp only[lK,i9]at r;go_wp2;go_roundw;(case rel=>refine⟨k+1,oM,by go_num,?_,n.setCell lR _⟩;have C:=(d.1.stored k x).1;rw[UN A R _ _ k d.2.1]at C;rw[d.2.2];exact C);case measure=>exact oI
 have F:k=L:=oM;subst F;rw[Fp _ _ _ _ l.2]at a;have d:Ae (Ab wr w 2 1 (Z w k k) k (Ad As b)):=a;clear a;go_wp2;go_ret;exact⟨rfl,d,n⟩
def Dv:Array J:=#[.string ⟨#[110,111,112]⟩,Ag Af 1,Ag Af 0,
 .string ⟨#[99,111,110,115,116]⟩,Ag Af 1,Ag Af 1,
 .string ⟨#[108,111,97,100,108,111,99,97,108]⟩,Ag Af 1,Ag Af 2,
 .string ⟨#[115,116,111,114,101,108,111,99,97,108]⟩,Ag Af 1,Ag Af 2,
 .string ⟨#[108,111,97,100]⟩,Ag Af 2,Ag Af 3,
 .string ⟨#[115,116,111,114,101]⟩,Ag Af 2,Ag Af 3,
 .string ⟨#[108,111,97,100,97,116]⟩,Ag Af 3,Ag Af 4,
 .string ⟨#[115,116,111,114,101,97,116]⟩,Ag Af 3,Ag Af 4,
 .string ⟨#[97,100,100]⟩,Ag Af 1,Ag Af 5,
 .string ⟨#[115,117,98]⟩,Ag Af 1,Ag Af 5,
 .string ⟨#[109,117,108]⟩,Ag Af 3,Ag Af 5,
 .string ⟨#[100,105,118]⟩,Ag Af 8,Ag Af 5,
 .string ⟨#[109,111,100]⟩,Ag Af 8,Ag Af 5,
 .string ⟨#[97,110,100]⟩,Ag Af 1,Ag Af 6,
 .string ⟨#[111,114]⟩,Ag Af 1,Ag Af 6,
 .string ⟨#[120,111,114]⟩,Ag Af 1,Ag Af 6,
 .string ⟨#[110,111,116]⟩,Ag Af 1,Ag Af 6,
 .string ⟨#[115,104,108]⟩,Ag Af 1,Ag Af 0,
 .string ⟨#[115,104,114]⟩,Ag Af 1,Ag Af 0,
 .string ⟨#[110,101,103]⟩,Ag Af 1,Ag Af 0,
 .string ⟨#[101,113]⟩,Ag Af 1,Ag Af 7,
 .string ⟨#[108,101,115,115]⟩,Ag Af 1,Ag Af 5,
 .string ⟨#[99,111,110,118]⟩,Ag Af 1,Ag Af 8,
 .string ⟨#[100,117,112]⟩,Ag Af 1,Ag Af 0,
 .string ⟨#[100,114,111,112]⟩,Ag Af 1,Ag Af 0,
 .string ⟨#[106,117,109,112]⟩,Ag Af 2,Ag Af 9,
 .string ⟨#[106,117,109,112,122,101,114,111]⟩,Ag Af 2,Ag Af 9,
 .string ⟨#[103,117,97,114,100]⟩,Ag Af 2,Ag Af 10,
 .string ⟨#[99,97,108,108]⟩,Ag Af 4,Ag Af 11,
 .string ⟨#[114,101,116,117,114,110]⟩,Ag Af 2,Ag Af 0]
theorem Pw(w:Y):Ai Ap 91 #[] w λe c=>e=Al (Z w 30 30)/\c=Ac w (Ak Dv 117):=by go_enter func91,ntmps91;go_wp2_with (show wpList _ _ _ ({dst:=K 1,op:=Op.build _ _,type:=_,pos:=_,after:=_,guard:=_}::_) _ _;refine Jr 30 173 117 30 #[(0,.tmp 1),(1,.tmp 2),(2,.tmp 3),(3,.tmp 4),(4,.tmp 5),(5,.tmp 6),(6,.tmp 7),(7,.tmp 8),(8,.tmp 9),(9,.tmp 10),(10,.tmp 11),(11,.tmp 12),(12,.tmp 13),(13,.tmp 14),(14,.tmp 15),(15,.tmp 16),(16,.tmp 17),(17,.tmp 18),(18,.tmp 19),(19,.tmp 20),(20,.tmp 21),(21,.tmp 22),(22,.tmp 23),(23,.tmp 24),(24,.tmp 25),(25,.tmp 26),(26,.tmp 27),(27,.tmp 28),(28,.tmp 29),(29,.tmp 30)] 31 0 32 Dv ((Tryz.prog.info? 117).getD default) (Am #[.string ⟨#[]⟩,Ag Af 0,Ag Af 0]) kR rfl dC dC underlying173 kR kR (nB kR) (nB kR) ?_;intro a' b a);refine kQ (v:=Z w 30 30) ?_ a ⟨rfl,rfl⟩;rw[<-b];exact results_tmp results91 _ _ _
def BS(k:Nat):List J:=(Dv.extract (3*k) (3*k+3)).toList
theorem Lp(k:Nat)(b:k<30):(BS k).length=3:=by have a:Dv.size=90:=kR;simp[BS,a];omega
theorem Pt(k:Nat)(d:k<30):(BS k).toArray.all (·.oneCell')=true:=by have a:Dv.all (·.oneCell')=true:=kR;rw[Array.all_eq_true_iff_forall_mem]at a⊢;intro v b;simp only[BS,Array.toArray_toList]at b;obtain⟨i,c,rfl⟩:=Array.mem_iff_getElem.1 b;rw[Array.getElem_extract];exact a _ (Array.getElem_mem _)
theorem Mz(w:Y)(b k:Nat)(d:k<30)(h:w.heap[b]?=K (Ak Dv 117)):w.rangeAt b (k*3) (BS k):=by
 intro j v a;have c:Dv.size=90:=kR;rw[nh w b _ Dv _ _ h];simp only[BS,Array.getElem?_toList]at a;rw[Array.getElem?_extract]at a;split at a
 . rw[<-a,Nat.mul_comm]
 cases a
theorem JU(w:Y):(zeroValue 117).run Ap w=.ok (Am #[.string ⟨#[]⟩,Ag Af 0,Ag Af 0]) w:=kR
theorem SI(op:Int)(w:Y)(h:op<0\/29<op):Ai Ap 53 #[op] w λe a=>e=Al (Am #[.string ⟨#[]⟩,Ag Af 0,Ag Af 0])/\Ah w w a:=by
 have d:=JU;rcases h with h|h
 . go_enter func53,ntmps53;go_wp2;exact kQ (v:=Am #[.string ⟨#[]⟩,Ag Af 0,Ag Af 0]) (by simp[results,results53,go_sem]) rfl ⟨rfl,(kS _ _).alloc lR _⟩
 have b:decide (op<0)=false:=oT;have c:decide (29<op)=true:=oT;go_enter func53,ntmps53;go_wp2;exact kQ (v:=Am #[.string ⟨#[]⟩,Ag Af 0,Ag Af 0]) (by simp[results,results53,go_sem]) rfl ⟨rfl,(kS _ _).alloc lR _⟩
theorem TR(k:Nat)(b:k<30)(w:Y):Ai Ap 53 #[k] w λe c=>e=Al (Am (BS k).toArray)/\Ah w w c:=by
 have g:=JU;have d:decide ((k:Int)<0)=false:=sP;have f:decide (29<(k:Int))=false:=oT;have a:Ae ((BS k).length=3/\(BS k).toArray.all (·.oneCell')=true):=⟨Lp k b,Pt k b⟩
 go_enter func53,ntmps53;go_wp2_with (first
  |(go_at_call 91;refine(Pw _).mono ?_;rintro e h ⟨rfl,rfl⟩)
  |(show wpList _ _ _ ({dst:=K 13,op:=Op.load 117 _,type:=_,pos:=_,after:=_,guard:=_}::_) _ _;refine wpList_load_mid rfl 117 (.tmp 12) rfl ((w:Nat)+1) (k*3) rfl (BS k) _ (Mz _ _ _ b (heap_alloc2_new _ _ _)) underlying117 rfl (by rw[a.1];kernel_rfl) ?_)
  |(show wpList _ _ _ ({dst:=M,op:=Op.store 117 _ _,type:=_,pos:=_,after:=_,guard:=_}::_) _ _;refine wpList_store_row rfl 117 (.tmp 2) (.tmp 13) rfl w (BS k).toArray rfl rfl 117 #[.string ⟨#[]⟩,Ag Af 0,Ag Af 0] (heap_alloc2_old _ _ _) (by rw[List.size_toArray,a.1];kernel_rfl) (by show 3=(BS k).length;rw[a.1]) a.2 ?_))
 refine kQ (v:=Am (BS k).toArray) (results_cell_row results53 _ _ w 117 (BS k).toArray (0,0) _ rfl (setRow_heap _ _ _ _ _ _ (heap_alloc2_old _ _ _)) underlying117 rfl (by rw[List.size_toArray,a.1];kernel_rfl)) rfl ⟨rfl,?_⟩;exact below_setRow (((kS _ _).alloc lR _).alloc sP _) lR _
theorem Ow(s:J)(L:Nat)(f:List MI)(w:Y)(hL:L<=1048576)(h:Rd w 4 s L (Ad MI.cells f))(P: ↑f=L):
 Ai Ap 75 #[s] w λe T=>e=Al (Z w L L)/\Ab T w 72 4 (Z w L L) L (Ad MI.cells f)/\Ah w w T:=by
 obtain⟨p,U,W,X,ae⟩:=lS XX;have r:Ae (Rd w 4 s L (Ad MI.cells f)/\ ↑f=L):=⟨h,P⟩
 obtain⟨a1,c1,rfl⟩:=h.dk;clear h P;go_enter func75,ntmps75;go_wp2_with (at_make;refine l8 _ rfl _ _ 68 rfl w 72 p (Am #[Ag Af 0,Ag Af 0,Ag Af 0,Ag Af 0]) 4 underlying68 U W X Af Af _ _ L rfl rfl rfl rfl (by rw[ae];omega) oX lR ?_;intro w1 d O);rw[Cb MI.cells [Ag Af 0,Ag Af 0,Ag Af 0,Ag Af 0] f L (Am #[Ag Af 0,Ag Af 0,Ag Af 0,Ag Af 0]) 4 rfl rfl oM]at d;have N:Ah w w w1:=(kS _ _).grown O lR (λk D=>by cases D);clear O;go_loopw [4] (λi wr=>∃k:Nat,k<=L/\i=Ag Af k/\Ab wr w 72 4 (Z w L L) L (Bu MI.cells [Ag Af 0,Ag Af 0,Ag Af 0,Ag Af 0] f k L)/\Ah w w wr) (λi _=>L-(intOf i).toNat)
 case atStart=>exact⟨0,oM,rfl,d,N⟩
 clear d N;obtain⟨k,D,rfl,d,j⟩:=hrel;by_cases Q:k<L
 . obtain⟨x,n⟩:∃x,f[k]?=K x:=⟨_,an (by rw[r.2];exact Q)⟩;have t:=El MI.cells [Ag Af 0,Ag Af 0,Ag Af 0,Ag Af 0] f k L x n;rw[CG MI.cells [Ag Af 0,Ag Af 0,Ag Af 0,Ag Af 0] f k L Q]at d;(have m:(Ad MI.cells (f.take k)).length=k*4:=by rw[AE MI.cells 4 MI.dr,lh,r.2,Nat.min_eq_left D]);generalize Ad MI.cells (f.take k)=A at d t m;generalize (List.replicate (L-(k+1)) ([Ag Af 0,Ag Af 0,Ag Af 0,Ag Af 0]:List J)).flatten=R at d t;rcases r.1.2 with⟨e0,_⟩|⟨g,o,c,I,q⟩
   . omega
   simp only[i8,lB]at I;obtain⟨rfl,rfl⟩:=I;have p:=Rd.elem MI.dr q k x n 0 _ rfl;have E:=Rd.elem MI.dr q k x n 1 _ rfl;have F:=Rd.elem MI.dr q k x n 2 _ rfl;have G:=Rd.elem MI.dr q k x n 3 _ rfl;rw[<-j.cell (hC p)]at p;rw[<-j.cell (hC E)]at E;rw[<-j.cell (hC F)]at F;rw[<-j.cell (hC G)]at G;rw[kJ]at p;have l:Ae (Ab wr w 72 4 (Z w L L) L (A++([Ag Af 0,Ag Af 0,Ag Af 0,Ag Af 0]++R))/\ ↑A=k*4/\Bu MI.cells [Ag Af 0,Ag Af 0,Ag Af 0,Ag Af 0] f (k+1) L=A++(MI.cells x++R)):=⟨d,m,t⟩
   clear d m t q n;go_wp2_with fail;refine(Qk x wr).mono ?_;rintro e u ⟨rfl,C⟩;have d:=Aw l.1 C lR;have m:=l.2.1;have f0:=d.frozenAt (k*4);have f1:=d.frozenAt (k*4+1);have f2:=d.frozenAt (k*4+2);have f3:=d.frozenAt (k*4+3);have v:=d.cellAt (k*4) oM;have y:=d.cellAt (k*4+1) oM;have z:=d.cellAt (k*4+2) oM;have B:=d.cellAt (k*4+3) oM;rw[kT oM,m]at v y z B;rw[mU]at v;rw[mH]at y z B;simp only[lK,i9,kC]at v y z B;have H:Ae (Ah w w u/\Ab u w 72 4 (Z w L L) L (A++([Ag Af 0,Ag Af 0,Ag Af 0,Ag Af 0]++R))):=⟨j.trans (C.mono j.size),d⟩
   clear d m C j p E F G;go_wp2;go_roundw;(case rel=>refine⟨k+1,oM,by go_num,?_,(((H.1.setCell lR _).setCell lR _).setCell lR _).setCell lR _⟩;have s0:=(H.2.stored (k*4) (Ag Af x.op)).1;have s1:=(s0.stored (k*4+1) (Ag Af x.a)).1;have s2:=(s1.stored (k*4+2) (Ag Af x.b)).1;have S:=(s2.stored (k*4+3) (Ag Af x.c)).1;rw[Xr A R _ _ _ _ _ _ _ _ (k*4) l.2.1]at S;rw[l.2.2];exact S);case measure=>exact oI
 have V:k=L:=oM;subst V;rw[Fp _ _ _ _ r.2]at d;have l:Ae (Ab wr w 72 4 (Z w k k) k (Ad MI.cells f)):=d;clear d;go_wp2;go_ret;exact⟨rfl,l,j⟩
theorem Qg(s:J)(L:Nat)(b:List MT)(w:Y)(hL:L<=1048576)(h:Rd w 4 s L (Ad MT.cells b))(N: ↑b=L):
 Ai Ap 22 #[s] w λe Q=>e=Al (Z w L L)/\Ab Q w 88 4 (Z w L L) L (Ad MT.cells b)/\Ah w w Q:=by
 obtain⟨m,S,U,V,W⟩:=lS X3;have p:Ae (Rd w 4 s L (Ad MT.cells b)/\ ↑b=L):=⟨h,N⟩
 obtain⟨a1,c1,rfl⟩:=h.dk;clear h N;go_enter func22,ntmps22;go_wp2_with (at_make;refine l8 _ rfl _ _ 34 rfl w 88 m (Am #[Ag Af 0,Ag Af 0,Ag Af 0,Ag .u32 0]) 4 underlying34 S U V Af Af _ _ L rfl rfl rfl rfl (by rw[W];omega) oX lR ?_;intro w1 a I);rw[Cb MT.cells [Ag Af 0,Ag Af 0,Ag Af 0,Ag .u32 0] b L (Am #[Ag Af 0,Ag Af 0,Ag Af 0,Ag .u32 0]) 4 rfl rfl oM]at a;have H:Ah w w w1:=(kS _ _).grown I lR (λk B=>by cases B);clear I;go_loopw [4] (λi wr=>∃k:Nat,k<=L/\i=Ag Af k/\Ab wr w 88 4 (Z w L L) L (Bu MT.cells [Ag Af 0,Ag Af 0,Ag Af 0,Ag .u32 0] b k L)/\Ah w w wr) (λi _=>L-(intOf i).toNat)
 case atStart=>exact⟨0,oM,rfl,a,H⟩
 clear a H;obtain⟨k,B,rfl,a,d⟩:=hrel;by_cases O:k<L
 . obtain⟨x,l⟩:∃x,b[k]?=K x:=⟨_,an (by rw[p.2];exact O)⟩;have q:=El MT.cells [Ag Af 0,Ag Af 0,Ag Af 0,Ag .u32 0] b k L x l;rw[CG MT.cells [Ag Af 0,Ag Af 0,Ag Af 0,Ag .u32 0] b k L O]at a;(have j:(Ad MT.cells (b.take k)).length=k*4:=by rw[AE MT.cells 4 MT.dr,lh,p.2,Nat.min_eq_left B]);generalize Ad MT.cells (b.take k)=A at a q j;generalize (List.replicate (L-(k+1)) ([Ag Af 0,Ag Af 0,Ag Af 0,Ag .u32 0]:List J)).flatten=R at a q;rcases p.1.2 with⟨e0,_⟩|⟨g,o,c,G,n⟩
   . omega
   simp only[i8,lB]at G;obtain⟨rfl,rfl⟩:=G;have m:=Rd.elem MT.dr n k x l 0 _ rfl;have C:=Rd.elem MT.dr n k x l 1 _ rfl;have D:=Rd.elem MT.dr n k x l 2 _ rfl;have E:=Rd.elem MT.dr n k x l 3 _ rfl;rw[<-d.cell (hC m)]at m;rw[<-d.cell (hC C)]at C;rw[<-d.cell (hC D)]at D;rw[<-d.cell (hC E)]at E;rw[kJ]at m;have f:Ae (Ab wr w 88 4 (Z w L L) L (A++([Ag Af 0,Ag Af 0,Ag Af 0,Ag .u32 0]++R))/\ ↑A=k*4/\Bu MT.cells [Ag Af 0,Ag Af 0,Ag Af 0,Ag .u32 0] b (k+1) L=A++(MT.cells x++R)):=⟨a,j,q⟩
   clear a j q n l;go_wp2_with fail;refine(RU x wr).mono ?_;rintro e u ⟨rfl,z⟩;have a:=Aw f.1 z lR;have j:=f.2.1;have f0:=a.frozenAt (k*4);have f1:=a.frozenAt (k*4+1);have f2:=a.frozenAt (k*4+2);have f3:=a.frozenAt (k*4+3);have r:=a.cellAt (k*4) oM;have t:=a.cellAt (k*4+1) oM;have v:=a.cellAt (k*4+2) oM;have y:=a.cellAt (k*4+3) oM;rw[kT oM,j]at r t v y;rw[mU]at r;rw[mH]at t v y;simp only[lK,i9,kC]at r t v y;have F:Ae (Ah w w u/\Ab u w 88 4 (Z w L L) L (A++([Ag Af 0,Ag Af 0,Ag Af 0,Ag .u32 0]++R))):=⟨d.trans (z.mono d.size),a⟩
   clear a j z d m C D E;go_wp2;go_roundw;(case rel=>refine⟨k+1,oM,by go_num,?_,(((F.1.setCell lR _).setCell lR _).setCell lR _).setCell lR _⟩;have X:=(F.2.stored (k*4) (Ag Af x.func)).1;have s1:=(X.stored (k*4+1) (Ag Af x.head)).1;have s2:=(s1.stored (k*4+2) (Ag Af x.gI)).1;have P:=(s2.stored (k*4+3) (Ag .u32 x.init)).1;rw[Xr A R _ _ _ _ _ _ _ _ (k*4) f.2.1]at P;rw[f.2.2];exact P);case measure=>exact oI
 have T:k=L:=oM;subst T;rw[Fp _ _ _ _ p.2]at a;have f:Ae (Ab wr w 88 4 (Z w k k) k (Ad MT.cells b)):=a;clear a;go_wp2;go_ret;exact⟨rfl,f,d⟩
theorem Ou(s:J)(L:Nat)(b:List MC)(w:Y)(X:L<=1048576)(h:Rd w 2 s L (Ad MC.cells b))(F: ↑b=L):
 Ai Ap 20 #[s] w λe I=>e=Al (Z w L L)/\Ab I w 94 2 (Z w L L) L (Ad MC.cells b)/\Ah w w I:=by
 obtain⟨l,N,P,Q,S⟩:=lS XV;have m:Ae (Rd w 2 s L (Ad MC.cells b)/\ ↑b=L):=⟨h,F⟩
 obtain⟨V,c1,rfl⟩:=h.dk;clear h F;go_enter func20,ntmps20;go_wp2_with (at_make;refine l8 _ rfl _ _ 32 rfl w 94 l (Am #[Ag Af 0,Ag .u32 0]) 2 underlying32 N P Q Af Af _ _ L rfl rfl rfl rfl (by rw[S];omega) oX lR ?_;intro U a E);rw[Cb MC.cells [Ag Af 0,Ag .u32 0] b L (Am #[Ag Af 0,Ag .u32 0]) 2 rfl rfl oM]at a;have D:Ah w w U:=(kS _ _).grown E lR (λk y=>by cases y);clear E;go_loopw [4] (λi wr=>∃k:Nat,k<=L/\i=Ag Af k/\Ab wr w 94 2 (Z w L L) L (Bu MC.cells [Ag Af 0,Ag .u32 0] b k L)/\Ah w w wr) (λi _=>L-(intOf i).toNat)
 case atStart=>exact⟨0,oM,rfl,a,D⟩
 clear a D;obtain⟨k,y,rfl,a,j⟩:=hrel;by_cases G:k<L
 . obtain⟨x,p⟩:∃x,b[k]?=K x:=⟨_,an (by rw[m.2];exact G)⟩;have n:=El MC.cells [Ag Af 0,Ag .u32 0] b k L x p;rw[CG MC.cells [Ag Af 0,Ag .u32 0] b k L G]at a;(have f:(Ad MC.cells (b.take k)).length=k*2:=by rw[AE MC.cells 2 MC.dr,lh,m.2,Nat.min_eq_left y]);generalize Ad MC.cells (b.take k)=A at a n f;generalize (List.replicate (L-(k+1)) [Ag Af 0,Ag .u32 0]).flatten=R at a n;rcases m.1.2 with⟨W,_⟩|⟨g,o,c,C,v⟩
   . omega
   simp only[i8,lB]at C;obtain⟨rfl,rfl⟩:=C;have l:=Rd.elem MC.dr v k x p 0 _ rfl;have z:=Rd.elem MC.dr v k x p 1 _ rfl;rw[<-j.cell (hC l)]at l;rw[<-j.cell (hC z)]at z;rw[kJ]at l;have d:Ae (Ab wr w 94 2 (Z w L L) L (A++([Ag Af 0,Ag .u32 0]++R))/\ ↑A=k*2/\Bu MC.cells [Ag Af 0,Ag .u32 0] b (k+1) L=A++(MC.cells x++R)):=⟨a,f,n⟩
   clear a f n v p;go_wp2_with fail;refine(Qi x wr).mono ?_;rintro e u ⟨rfl,t⟩;have a:=Aw d.1 t lR;have f:=d.2.1;have f0:=a.frozenAt (k*2);have f1:=a.frozenAt (k*2+1);have q:=a.cellAt (k*2) oM;have r:=a.cellAt (k*2+1) oM;rw[kT oM,f]at q r;rw[mU]at q;rw[mH]at r;simp only[lK,i9,kC]at q r;have B:Ae (Ah w w u/\Ab u w 94 2 (Z w L L) L (A++([Ag Af 0,Ag .u32 0]++R))):=⟨j.trans (t.mono j.size),a⟩
   clear a f t j l z;go_wp2;go_roundw;(case rel=>refine⟨k+1,oM,by go_num,?_,(B.1.setCell lR _).setCell lR _⟩;have T:=(B.2.stored (k*2) x.type).1;have H:=(T.stored (k*2+1) (Ag .u32 x.word)).1;rw[Yu A R _ _ _ _ (k*2) d.2.1]at H;rw[d.2.2];exact H);case measure=>exact oI
 have O:k=L:=oM;subst O;rw[Fp _ _ _ _ m.2]at a;have d:Ae (Ab wr w 94 2 (Z w k k) k (Ad MC.cells b)):=a;clear a;go_wp2;go_ret;exact⟨rfl,d,j⟩
def Cv(op:Int):Array J:=if 0<=op/\op<=29 then(BS op.toNat).toArray else #[.string ⟨#[]⟩,Ag Af 0,Ag Af 0]
theorem M7(k:Nat)(a:k<30):Cv (k:Int)=(BS k).toArray:=by unfold Cv;rw[kZ oM];rfl
theorem Lo{op:Int}(h:op<0\/29<op):Cv op=#[.string ⟨#[]⟩,Ag Af 0,Ag Af 0]:=by unfold Cv;rw[kP oM]
theorem Jf(k:Nat)(a:k<30):∃(s:ByteArray) (c f:Int),(BS k).toArray=#[.string s,Ag Af c,Ag Af f]:=by
 have h:k=0\/k=1\/k=2\/k=3\/k=4\/k=5\/k=6\/k=7\/k=8\/k=9\/k=10\/k=11\/k=12\/k=13\/k=14\/k=15\/k=16\/k=17\/k=18\/k=19\/k=20\/k=21\/k=22\/k=23\/k=24\/k=25\/k=26\/k=27\/k=28\/k=29:=oM
 clear a;rcases h with rfl|rfl|rfl|rfl|rfl|rfl|rfl|rfl|rfl|rfl|rfl|rfl|rfl|rfl|rfl|rfl|rfl|rfl|rfl|rfl|rfl|rfl|rfl|rfl|rfl|rfl|rfl|rfl|rfl|rfl<;>exact⟨_,_,_,rfl⟩
theorem Ps(op:Int):∃(s:ByteArray) (c f:Int),Cv op=#[.string s,Ag Af c,Ag Af f]:=by
 by_cases h:0<=op/\op<=29
 . unfold Cv;rw[kZ h];exact Jf _ oM
 unfold Cv;rw[kP h];exact⟨_,_,_,rfl⟩
theorem Cs(op:Int)(w:Y):Ai Ap 53 #[op] w λe a=>e=Al (Am (Cv op))/\Ah w w a:=by
 by_cases h:op<0\/29<op
 . rw[Lo h];exact SI op w h
 obtain⟨k,rfl⟩:=kX (show 0<=op from oM);rw[M7 k oM];exact TR k oM w
theorem Q7(k:Nat)(a:k<30)(w:Y):(Instr.field 230 (Am (CJ k)) 0).run Ap w=.ok (Am (BS k).toArray) w:=by
 have h:k=0\/k=1\/k=2\/k=3\/k=4\/k=5\/k=6\/k=7\/k=8\/k=9\/k=10\/k=11\/k=12\/k=13\/k=14\/k=15\/k=16\/k=17\/k=18\/k=19\/k=20\/k=21\/k=22\/k=23\/k=24\/k=25\/k=26\/k=27\/k=28\/k=29:=oM
 clear a;rcases h with rfl|rfl|rfl|rfl|rfl|rfl|rfl|rfl|rfl|rfl|rfl|rfl|rfl|rfl|rfl|rfl|rfl|rfl|rfl|rfl|rfl|rfl|rfl|rfl|rfl|rfl|rfl|rfl|rfl|rfl<;>(show Sem.run _ _ _=Result.ok _ _;kernel_rfl)
theorem Q8(w:Y):(Instr.field 230 (Am #[.string ⟨#[]⟩,Ag Af 0,Ag Af 0,.nilFunc]) 0).run Ap w=.ok (Am #[.string ⟨#[]⟩,Ag Af 0,Ag Af 0]) w:=kR
theorem R7(op:Int)(row:J)(s:ByteArray)(c f:Int)(k:Cv op=#[.string s,Ag Af c,Ag Af f])
 (a:∀w,Ai Ap 151 #[op] w λe d=>e=Al row/\Ah w.heap.size w d)
 (l:∀w,(Instr.field 230 row 0).run Ap w=.ok (Am #[.string s,c,f]) w) (w:Y):
 Ai Ap 121 #[op] w λe d=>e=Al (Am (Cv op))/\Ah w.heap.size w d:=by
 have m:=JU;rw[k];clear k;have H:Ae (∀w,Ai Ap 151 #[op] w λe d=>e=Al row/\Ah w w d):=a
 clear a;go_enter func121,ntmps121;go_wp2_with (go_at_call 151;refine(H.o _).mono ?_;rintro e b ⟨rfl,g⟩;have a:b.heap[w.heap.size]?=K (Ak #[.string ⟨#[]⟩,Ag Af 0,Ag Af 0] 117):=(g.block _ sP).trans (nj _ _);have h:=nh b _ 0 _ _ _ a;have i:=nh b _ 1 _ _ _ a;have j:=nh b _ 2 _ _ _ a;have n:=frozen_of_row b _ 0 _ _ a;have p:=frozen_of_row b _ 1 _ _ a;have q:=frozen_of_row b _ 2 _ _ a;simp at h i j);refine kQ (v:=Am #[.string s,c,f]) (by simp[results,results121,go_sem,h,i,j]) rfl ⟨rfl,?_⟩;exact((((((kS _ _).alloc lR _).trans (g.mono sP)).setCell sP _).setCell sP _).setCell sP _)
theorem OQ(op:Int)(w:Y):Ai Ap 121 #[Ag Af op] w λe b=>e=Al (Am (Cv op))/\Ah w w b:=by
 by_cases h:op<0\/29<op
 . exact R7 op _ _ _ _ (Lo h) (λw=>TD op w h) Q8 w
 obtain⟨k,rfl⟩:=kX (show 0<=op from oM);obtain⟨s,c,f,a⟩:=Jf k oM;exact R7 _ _ s c f ((M7 k oM).trans a) (λw=>UL k oM w) (λw=>by rw[<-a];exact Q7 k oM w) w
structure MF where
 gw:List Int
 gy:Int
 gG:List Int
 eC:List MI
structure VF where
 p:J
 l:J
 c:J
def DE(w:Y)(v:VF)(f:MF):Prop:=Rd w 1 v.p f.gw (Ad As f.gw)/\Rd w 1 v.l f.gG (Ad As f.gG)/\Rd w 4 v.c f.eC (Ad MI.cells f.eC)
def Ic(w:Y)(base:Nat)(v:VF)(f:MF):Prop:=Ab w base 2 1 v.p f.gw (Ad As f.gw)/\Ab w base 2 1 v.l f.gG (Ad As f.gG)/\Ab w base 72 4 v.c f.eC (Ad MI.cells f.eC)
def MF.small(f:MF):Prop:=f.gw.length<=1048576/\f.gG.length<=1048576/\f.eC.length<=1048576
theorem Ic.rd{base:Nat}{v:VF}{f:MF}(h:Ic w base v f):DE w v f:=⟨Rd.gM h.1,Rd.gM h.2.1,Rd.gM h.2.2⟩
theorem DE.a7{w c:Y}{v:VF}{f:MF}(h:DE w v f)(b:Ah B w c)(a: ↑w<=B):DE c v f:=⟨h.1.a7 b a,h.2.1.a7 b a,h.2.2.a7 b a⟩
theorem Ic.a7{w c:Y}{base:Nat}{v:VF}{f:MF}(h:Ic w base v f)(b:Ah B w c)(a: ↑w<=B):Ic c base v f:=⟨Aw h.1 b a,Aw h.2.1 b a,Aw h.2.2 b a⟩
theorem Br{base a:Nat}{k n:Nat}(h:Ab w base e k s n xs)(d:a<=base):Ab w a e k s n xs:=by
 refine⟨h.1,?_⟩;rcases h.2 with h|⟨g,cap,b,c,f,i,j⟩
 . exact .inl h
 exact .inr ⟨g,cap,b,c,kV d f,i,j⟩
theorem DF{base:Nat}{g:Nat}{a b c d:J}(h:Ab w base e 4 (Z g 1 1) 1 [a,b,c,d]):
 w g=K a/\w ⟨g,1,M⟩=K b/\w ⟨g,2,M⟩=K c/\w ⟨g,3,M⟩=K d/\w.frozen? g=false/\w.frozen? ⟨g,1,M⟩=false/\w.frozen? ⟨g,2,M⟩=false/\w.frozen? ⟨g,3,M⟩=false:=
 ⟨h.cellAt 0 oM,h.cellAt 1 oM,h.cellAt 2 oM,h.cellAt 3 oM,h.frozenAt 0,h.frozenAt 1,h.frozenAt 2,h.frozenAt 3⟩
structure Fr(w u:Y)(tp tr:Aj)(p r o:List J):Prop where
 par:Ab u w tp 4 (Z w 1 1) 1 p
 gU:Ab u w tr 4 (Z (K ⟨(w:Nat)+1,0,M⟩) 1 1) 1 r
 loc:Ab u w tr 4 (Z (K ⟨(w:Nat)+1+1,0,M⟩) 1 1) 1 o
 e8:Ah w w u
 ik:(w:Nat)+3<= ↑u
theorem Fr.of(w:Y)(a b:Aj)(p r o:Array J)(i:p.size=4)(j:r.size=4)(h:o.size=4):
 Fr w (Ac (Ac (Ac w (Ak p a)) (Ak r b)) (Ak o b)) a b p.toList r.toList o.toList:=by
 have c:Ah w w (Ac w (Ak p a)):=(kS _ _).alloc lR _;have c2:Ah (Ac w (Ak p a)).heap.size (Ac w (Ak p a)) (Ac (Ac w (Ak p a)) (Ak r b)):=(kS _ _).alloc lR _;have c3:Ah (Ac (Ac w (Ak p a)) (Ak r b)).heap.size (Ac (Ac w (Ak p a)) (Ak r b)) (Ac (Ac (Ac w (Ak p a)) (Ak r b)) (Ak o b)):=(kS _ _).alloc lR _;have d:=mj (base:=w) (e:=a) (size:=4) w p 1 lR oX oM;have f:=mj (base:=w) (e:=b) (size:=4) (Ac w (Ak p a)) r 1 sP oX oM;have g:=mj (base:=w) (e:=b) (size:=4) (Ac (Ac w (Ak p a)) (Ak r b)) o 1 (by simp<;>omega) oX oM;refine⟨Aw (Aw d c2 lR) c3 lR,?_,?_,(c.trans (c2.mono sP)).trans (c3.mono (by simp<;>omega)),by simp<;>omega⟩
 . have:=Aw f c3 lR;simpa using this
 simpa using g
theorem Fr.a7{b c:Aj}{p r o:List J}(h:Fr w u b c p r o)(a:Ah u u d):Fr w d b c p r o:=⟨Aw h.par a lR,Aw h.gU a lR,Aw h.loc a lR,h.e8.trans (a.mono (by have:=h.ik;omega)),kV h.ik a.size⟩
theorem Fr.set{a b:Aj}{p r o:List J}(h:Fr w u a b p r o)(j:Nat)(x:J):Fr w (Aa u ⟨(w:Nat)+1+1,j,M⟩ x) a b p r (o.set j x):=⟨kN h.par (by simp[Value.ownBlock]<;>omega) x,kN h.gU (by simp[Value.ownBlock]) x,(h.loc.stored j x).1,h.e8.setCell (by simp<;>omega) x,by have:=h.ik;simpa using this⟩
theorem Fr.iK{a b:Aj}{p r o:List J}(h:Fr w u a b p r o)(j:Nat)(x:J):Fr w (Aa u ⟨(w:Nat)+1,j,M⟩ x) a b p (r.set j x) o:=⟨kN h.par (by simp[Value.ownBlock]<;>omega) x,(h.gU.stored j x).1,kN h.loc (by simp[Value.ownBlock]) x,h.e8.setCell sP x,by have:=h.ik;simpa using this⟩
theorem DP{k n:Nat}(h:Ab u ((w:Nat)+3) e k s n xs)(g j:Nat)(a:g< ↑w+3)(x:J):Ab (Aa u ⟨g,j,M⟩ x) ((w:Nat)+3) e k s n xs:=lP h a x
theorem GG(s:J)(b:List Int)(w:Y)(f:b.length<=1048576)(h:Rd w 1 s b (Ad As b)):
 Ai Ap 40 #[s] w λe d=>∃a c,e=Al (Z a b c)/\Ab d w 2 1 (Z a b c) b (Ad As b)/\Ah w w d:=
 (Oy s b b w f h rfl).mono λe d h=>⟨_,_,h.1,h.2.1,h.2.2⟩
theorem Ox(s:J)(b:List MI)(w:Y)(f:b.length<=1048576)(h:Rd w 4 s b (Ad MI.cells b)):
 Ai Ap 75 #[s] w λe d=>∃a c,e=Al (Z a b c)/\Ab d w 72 4 (Z a b c) b (Ad MI.cells b)/\Ah w w d:=
 (Ow s b b w f h rfl).mono λe d h=>⟨_,_,h.1,h.2.1,h.2.2⟩
theorem Ov(s:J)(b:List MC)(w:Y)(f:b.length<=1048576)(h:Rd w 2 s b (Ad MC.cells b)):
 Ai Ap 20 #[s] w λe d=>∃a c,e=Al (Z a b c)/\Ab d w 94 2 (Z a b c) b (Ad MC.cells b)/\Ah w w d:=
 (Ou s b b w f h rfl).mono λe d h=>⟨_,_,h.1,h.2.1,h.2.2⟩
theorem Qh(s:J)(b:List MT)(w:Y)(f:b.length<=1048576)(h:Rd w 4 s b (Ad MT.cells b)):
 Ai Ap 22 #[s] w λe d=>∃a c,e=Al (Z a b c)/\Ab d w 88 4 (Z a b c) b (Ad MT.cells b)/\Ah w w d:=
 (Qg s b b w f h rfl).mono λe d h=>⟨_,_,h.1,h.2.1,h.2.2⟩
theorem RV(v:VF)(f:MF)(w:Y)(hs:f.small)(h:DE w v f):
 Ai Ap 42 #[Am #[v.p,f.gy,v.l,v.c]] w λe w'=>∃a c1 b c2 d c3,e=Al (Am #[Z a f.gw c1,f.gy,Z b f.gG c2,Z d f.eC c3])/\Ic w' w ⟨Z a f.gw c1,Z b f.gG c2,Z d f.eC c3⟩ f/\Ah w w w':=by
 have H:Ae (DE w v f/\f.small):=⟨h,hs⟩
 clear h hs;have D:=Fr.of w 66 70 #[v.p,f.gy,v.l,v.c] #[Z M 0 0,Ag Af 0,Z M 0 0,Z M 0 0] #[Z M 0 0,Ag Af 0,Z M 0 0,Z M 0 0] rfl rfl rfl;go_enter func42,ntmps42;go_wp2_with fail;refine(GG v.p f.gw _ H.2.1 (H.1.1.a7 D.e8 lR)).mono ?_;rintro e u1 ⟨a,c1,rfl,ae,b1⟩;have W:Ae (Ab u1 ((w:Nat)+3) 2 1 (Z a f.gw c1) f.gw (Ad As f.gw)):=Br ae D.ik;have E:=D.a7 b1;clear ae b1 D;obtain⟨t,u,x,y,_⟩:=DF E.par;obtain⟨j,m,q,r,A,B,C,z3⟩:=DF E.loc;go_wp2_with fail;have g:=(E.set 0 (Z a f.gw c1)).set 1 f.gy;have X:Ae _:=DP (w:=w) (DP (w:=w) W ((w:Nat)+1+1) 0 oM (Z a f.gw c1)) ((w:Nat)+1+1) 1 oM f.gy;clear W E t u x y j m q r A B C z3;simp only[lI,lT]at g;refine(GG v.l f.gG _ H.2.2.1 (H.1.2.1.a7 g.e8 lR)).mono ?_;rintro e u2 ⟨b,c2,rfl,ah,Q⟩;have N:Ae (Ab u2 ((w:Nat)+3) 2 1 (Z a f.gw c1) f.gw (Ad As f.gw)/\Ab u2 ((w:Nat)+3) 2 1 (Z b f.gG c2) f.gG (Ad As f.gG)):=⟨Aw X Q lR,Br ah g.ik⟩
 have F:=g.a7 Q;clear ah Q g X;obtain⟨t,u,x,y,_⟩:=DF F.par;obtain⟨j,m,q,r,A,B,C,z3⟩:=DF F.loc;go_wp2_with fail;have i:=F.set 2 (Z b f.gG c2);have O:Ae _:=d5 (DP (w:=w) N.1 ((w:Nat)+1+1) 2 oM (Z b f.gG c2)) (DP (w:=w) N.2 ((w:Nat)+1+1) 2 oM (Z b f.gG c2));clear N F t u x y j m q r A B C z3;simp only[lI,lT]at i;refine(Ox v.c f.eC _ H.2.2.2 (H.1.2.2.a7 i.e8 lR)).mono ?_;rintro e z ⟨d,c3,rfl,aj,I⟩;have P:Ae (Ab z ((w:Nat)+3) 2 1 (Z a f.gw c1) f.gw (Ad As f.gw)/\Ab z ((w:Nat)+3) 2 1 (Z b f.gG c2) f.gG (Ad As f.gG)/\Ab z ((w:Nat)+3) 72 4 (Z d f.eC c3) f.eC (Ad MI.cells f.eC)):=⟨Aw O.1 I lR,Aw O.2 I lR,Br aj i.ik⟩
 have G:=i.a7 I;clear aj I i O;obtain⟨t,u,x,y,_⟩:=DF G.par;obtain⟨j,m,q,r,A,B,C,z3⟩:=DF G.loc;obtain⟨S,T,U,V,y0,y1,y2,y3⟩:=DF G.gU;go_wp2_with fail;clear t u x y j m q r A B C z3 S T U V y0 y1 y2 y3;have L:=((((G.set 3 (Z d f.eC c3)).iK 0 (Z a f.gw c1)).iK 1 f.gy).iK 2 (Z b f.gG c2)).iK 3 (Z d f.eC c3);simp only[lI,lT]at L;obtain⟨S,T,U,V,_⟩:=DF L.gU;have R:∀{e:Aj} {s:J} {k n:Nat} {xs:List J},Ab z ((w:Nat)+3) e k s n xs->Ab (Aa (Aa (Aa (Aa (Aa z ⟨(w:Nat)+1+1,3,M⟩ (Z d f.eC c3)) ⟨(w:Nat)+1,0,M⟩ (Z a f.gw c1)) ⟨(w:Nat)+1,1,M⟩ f.gy) ⟨(w:Nat)+1,2,M⟩ (Z b f.gG c2)) ⟨(w:Nat)+1,3,M⟩ (Z d f.eC c3)) w e k s n xs:= λh=>
  Br (DP (DP (DP (DP (DP h _ _ oM _) _ _ oM _) _ _ oM _) _ _ oM _) _ _ oM _) oM
 exact kQ (v:=Am #[Z a f.gw c1,f.gy,Z b f.gG c2,Z d f.eC c3]) (by simp[results,results42,go_sem,S,T,U,V]) rfl ⟨a,c1,b,c2,d,c3,rfl,⟨R P.1,R P.2.1,R P.2.2⟩,L.e8⟩
def Ch(x:MF×VF):List J:=[x.2.p,x.1.gy,x.2.l,x.2.c]
theorem Ay(x:MF×VF):(Ch x).length=4:=rfl
def BW(x:List Int×J):List J:=[x.2]
theorem A5(x:List Int×J):(BW x).length=1:=rfl
def Jy(w:Y)(s:J)(fs:List MF):Prop:=∃xs:List (MF×VF),xs.map Prod.fst=fs/\Rd w 4 s fs (Ad Ch xs)/\∀x∈xs,DE w x.2 x.1
def DQ(w:Y)(base:Nat)(s:J)(fs:List MF):Prop:=∃xs:List (MF×VF),xs.map Prod.fst=fs/\Ab w base 70 4 s fs (Ad Ch xs)/\∀x∈xs,Ic w base x.2 x.1
def Gi(w:Y)(s:J)(rs:List (List Int)):Prop:=∃xs:List (List Int×J),xs.map Prod.fst=rs/\Rd w 1 s rs (Ad BW xs)/\∀x∈xs,Rd w 1 x.2 x.1 (x.1.flatMap As)
def Fk(w:Y)(base:Nat)(s:J)(rs:List (List Int)):Prop:=∃xs:List (List Int×J),xs.map Prod.fst=rs/\Ab w base 46 1 s rs (Ad BW xs)/\∀x∈xs,Ab w base 2 1 x.2 x.1 (x.1.flatMap As)
theorem DQ.rd{base:Nat}{fs:List MF}(h:DQ w base s fs):Jy w s fs:=by obtain⟨xs,a,b,c⟩:=h;exact⟨xs,a,Rd.gM b, λx d=>(c x d).rd⟩
theorem Fk.rd{base:Nat}(h:Fk w base s rs):Gi w s rs:=by obtain⟨xs,a,b,c⟩:=h;exact⟨xs,a,Rd.gM b, λx d=>Rd.gM (c x d)⟩
theorem Jy.a7{w c:Y}{fs:List MF}(h:Jy w s fs)(b:Ah B w c)(a: ↑w<=B):Jy c s fs:=by obtain⟨xs,d,e,f⟩:=h;exact⟨xs,d,e.a7 b a, λx g=>(f x g).a7 b a⟩
theorem Gi.a7{w c:Y}(h:Gi w s rs)(b:Ah B w c)(a: ↑w<=B):Gi c s rs:=by obtain⟨xs,d,e,f⟩:=h;exact⟨xs,d,e.a7 b a, λx g=>(f x g).a7 b a⟩
theorem DQ.a7{w c:Y}{base:Nat}{fs:List MF}(h:DQ w base s fs)(b:Ah B w c)(a: ↑w<=B):DQ c base s fs:=by obtain⟨xs,d,e,f⟩:=h;exact⟨xs,d,Aw e b a, λx g=>(f x g).a7 b a⟩
theorem Fk.a7{w c:Y}{base:Nat}(h:Fk w base s rs)(b:Ah B w c)(a: ↑w<=B):Fk c base s rs:=by obtain⟨xs,d,e,f⟩:=h;exact⟨xs,d,Aw e b a, λx g=>Aw (f x g) b a⟩
theorem Ic.base{base b:Nat}{v:VF}{f:MF}(h:Ic w base v f)(a:b<=base):Ic w b v f:=⟨Br h.1 a,Br h.2.1 a,Br h.2.2 a⟩
theorem DQ.base{base a:Nat}{fs:List MF}(h:DQ w base s fs)(b:a<=base):DQ w a s fs:=by obtain⟨xs,c,d,e⟩:=h;exact⟨xs,c,Br d b, λx f=>(e x f).base b⟩
theorem Fk.base{base a:Nat}(h:Fk w base s rs)(b:a<=base):Fk w a s rs:=by obtain⟨xs,c,d,e⟩:=h;exact⟨xs,c,Br d b, λx f=>Br (e x f) b⟩
theorem Ic.below{base:Nat}{v:VF}{f:MF}(h:Ic w base v f){a:Addr}(b:a.block<base)(u:J):Ic (w.setCell a u) base v f:=⟨lP h.1 b u,lP h.2.1 b u,lP h.2.2 b u⟩
theorem DQ.below{base:Nat}{fs:List MF}(h:DQ w base s fs){a:Addr}(b:a.block<base)(u:J):DQ (w.setCell a u) base s fs:=by obtain⟨xs,c,d,e⟩:=h;exact⟨xs,c,lP d b u, λx f=>(e x f).below b u⟩
theorem Fk.below{base:Nat}(h:Fk w base s rs){a:Addr}(b:a.block<base)(u:J):Fk (w.setCell a u) base s rs:=by obtain⟨xs,c,d,e⟩:=h;exact⟨xs,c,lP d b u, λx f=>lP (e x f) b u⟩
theorem XW:(Tryz.prog.info? 70).map (λi=>(i.zero,i.size,i.bytes))=K (K (Am #[Z M 0 0,Ag Af 0,Z M 0 0,Z M 0 0]),4,80):=kR
theorem XZ:(Tryz.prog.info? 46).map (λi=>(i.zero,i.size,i.bytes))=K (K (Z M 0 0),1,24):=kR
theorem Bo{xs:List (α×β)}{fs:List α}(h:xs.map Prod.fst=fs){k:Nat}{x:α×β}(a:xs[k]?=K x):fs[k]?=K x.1:=by rw[<-h,lE,a];rfl
theorem Lg{a:List (α×β)}{fs:List α}{k:Nat}(h:a.map Prod.fst=fs.take k){f:α}(c:fs[k]?=K f)(b:β):(a++[(f,b)]).map Prod.fst=fs.take (k+1):=by obtain⟨d,rfl⟩:=i6.1 c;rw[mF,h,kU d];rfl
def Hk{α:Type}(f:α->List J)(z:List J)(a:List α)(n:Nat):List J:=Ad f a++(List.replicate (n-↑a) z).flatten
theorem IL(f:α->List J)(z:List J)(n:Nat)(v:J)(m:Nat)(c:v.cells=z.toArray)(b: ↑z=m)(a:0<m):(madeCells v.cells (n*m)).toList=Hk f z [] n:=by rw[Cb f z [] n v m c b a];simp[Bu,Hk]
theorem Dw(f:α->List J)(z:List J)(a:List α)(k n:Nat)(b:k<n)(c: ↑a=k):Hk f z a n=Ad f a++(z++(List.replicate (n-(k+1)) z).flatten):=by
 unfold Hk;have e:n-↑a=(n-(k+1))+1:=oM
 rw[e,nY,List.flatten_cons]
theorem IK(f:α->List J)(z:List J)(a:List α)(k n:Nat)(y:α)(b: ↑a=k):Hk f z (a++[y]) n=Ad f a++(f y++(List.replicate (n-(k+1)) z).flatten):=by unfold Hk;rw[lL,mm];simp[b]
theorem JI(f:α->List J)(z:List J)(a:List α)(n:Nat)(h: ↑a=n):Hk f z a n=Ad f a:=by simp[Hk,<-h]
theorem RF{base:Nat}{g k n c:Nat}(h:Ab w base e k (Z g n c) n xs):g+1<=w.heap.size:=by
 rcases h.2 with⟨a,_⟩|⟨i,d,f,a,_,b,_⟩
 . cases a
 cases a
 exact(kM.1 b).1
structure WF(w wr:Y)(fs:List MF)(L k:Nat)(ys:List (MF×VF)):Prop where
 fst:ys.map Prod.fst=fs.take k
 len: ↑ys=k
 row:Ab wr w 70 4 (Z w L L) L (Hk Ch [Z M 0 0,Ag Af 0,Z M 0 0,Z M 0 0] ys L)
 j8:∀y∈ys,Ic wr ((w:Nat)+1) y.2 y.1
 e8:Ah w w wr
 ik:(w:Nat)+1<= ↑wr
theorem WF.places{fs:List MF}{L k:Nat}{f:List (MF×VF)}(h:WF w wr fs L k f)(j:k<L)(i:Ah wr wr u):
 u ⟨w,k*4,M⟩=K (Z M 0 0)/\u ⟨w,k*4+1,M⟩=K (Ag Af 0)/\u ⟨w,k*4+2,M⟩=K (Z M 0 0)/\u ⟨w,k*4+3,M⟩=K (Z M 0 0)/\u.frozen? ⟨w,k*4,M⟩=false/\u.frozen? ⟨w,k*4+1,M⟩=false/\u.frozen? ⟨w,k*4+2,M⟩=false/\u.frozen? ⟨w,k*4+3,M⟩=false:=by
 have a:=Aw h.row i lR;rw[Dw Ch _ f k L j h.len]at a;have g:(Ad Ch f).length=k*4:=by rw[AE Ch 4 Ay,h.len]
 have b:=a.cellAt (k*4) oM;have c:=a.cellAt (k*4+1) oM;have d:=a.cellAt (k*4+2) oM;have e:=a.cellAt (k*4+3) oM;rw[kT oM,g]at b c d e;rw[mU]at b;rw[mH]at c d e;exact⟨b,c,d,e,a.frozenAt _,a.frozenAt _,a.frozenAt _,a.frozenAt _⟩
theorem WF.next{fs:List MF}{L k:Nat}{b:List (MF×VF)}(h:WF w wr fs L k b)(m:k<L)(d:Ah wr wr u){f:MF}(j:fs[k]?=K f){v:VF}(n:Ic u wr v f):
 WF w (Aa (Aa (Aa (Aa u ⟨w,k*4,M⟩ v.p) ⟨w,k*4+1,M⟩ f.gy) ⟨w,k*4+2,M⟩ v.l) ⟨w,k*4+3,M⟩ v.c) fs L (k+1) (b++[(f,v)]):=by
 have e:=Aw h.row d lR;rw[Dw Ch _ b k L m h.len]at e;have i:(Ad Ch b).length=k*4:=by rw[AE Ch 4 Ay,h.len]
 have r:=(e.stored (k*4) v.p).1;have s:=(r.stored (k*4+1) f.gy).1;have t:=(s.stored (k*4+2) v.l).1;have g:=(t.stored (k*4+3) v.c).1;rw[Xr _ _ _ _ _ _ _ _ _ _ (k*4) i]at g;refine⟨Lg h.fst j v,by simp[h.len],?_,?_,?_,?_⟩
 . rw[IK Ch _ b k L (f,v) h.len];exact g
 . intro y a;have q:Ic u ((w:Nat)+1) y.2 y.1:=by
    rcases kO.1 a with a|a
    . exact(h.j8 y a).a7 d lR
    simp only[ld]at a;subst a;exact n.base h.ik
   exact(((q.below sP _).below sP _).below sP _).below sP _
 . exact((((h.e8.trans (d.mono (by have:=h.ik;omega))).setCell lR _).setCell lR _).setCell lR _).setCell lR _
 have:=d.size;have:=h.ik;simp;omega
theorem Qj(s:J)(fs:List MF)(w:Y)(hL:fs.length<=1048576)(U:∀f∈fs,f.small)(h:Jy w s fs):
 Ai Ap 21 #[s] w λe X=>∃a c,e=Al (Z a fs c)/\DQ X w (Z a fs c) fs/\Ah w w X:=by
 obtain⟨j,hi,ah,aj,am⟩:=lS XW;obtain⟨xs,D,C,O⟩:=h;have W:xs.length=fs.length:=by rw[<-D];simp
 have l:Ae (Rd w 4 s fs (Ad Ch xs)/\xs.map Prod.fst=fs/\(∀x∈xs,DE w x.2 x.1)/\(∀f∈fs,f.small)/\xs.length= ↑fs):=⟨C,D,O,U,W⟩
 obtain⟨a1,c1,rfl⟩:=C.dk;clear C D O U W;generalize N:fs.length=L at hL l;have G:Ae (↑fs=L):=N
 clear N;go_enter func21,ntmps21;go_wp2_with (at_make;refine l8 _ rfl _ _ 33 rfl w 70 j (Am #[Z M 0 0,Ag Af 0,Z M 0 0,Z M 0 0]) 4 underlying33 hi ah aj Af Af _ _ L rfl rfl rfl rfl (by rw[am];omega) oX lR ?_;intro w1 p P);rw[IL Ch [Z M 0 0,Ag Af 0,Z M 0 0,Z M 0 0] L (Am #[Z M 0 0,Ag Af 0,Z M 0 0,Z M 0 0]) 4 rfl rfl oM]at p;have I:Ah w w w1:=(kS _ _).grown P lR (λk Q=>by cases Q);have b:WF w w1 fs L 0 []:=⟨sP,rfl,p,(λy E=>by cases E),I,RF p⟩;clear P p I;go_loopw [4] (λi wr=>∃k:Nat,k<=L/\i=Ag Af k/\∃F,WF w wr fs L k F) (λi _=>L-(intOf i).toNat)
 case atStart=>exact⟨0,oM,rfl,_,b⟩
 clear b;obtain⟨k,Q,rfl,F,b⟩:=hrel;by_cases B:k<L
 . obtain⟨x,d⟩:∃x,xs[k]?=K x:=⟨_,an (by rw[l.2.2.2.2];exact B)⟩;have A:=Bo l.2.1 d;have T:=l.2.2.1 x (i7 d);have V:=l.2.2.2.1 x.1 (i7 A);rcases l.1.2 with⟨e0,_⟩|⟨g,o,c,H,m⟩
   . omega
   simp only[i8,lB]at H;obtain⟨rfl,rfl⟩:=H;have j:=Rd.elem Ay m k x d 0 _ rfl;have q:=Rd.elem Ay m k x d 1 _ rfl;have r:=Rd.elem Ay m k x d 2 _ rfl;have t:=Rd.elem Ay m k x d 3 _ rfl;rw[<-b.e8.cell (hC j)]at j;rw[<-b.e8.cell (hC q)]at q;rw[<-b.e8.cell (hC r)]at r;rw[<-b.e8.cell (hC t)]at t;rw[kJ]at j;obtain⟨f,v⟩:=x;have n:Ae (fs[k]?=K f/\DE wr v f/\f.small):=⟨A,T.a7 b.e8 lR,V⟩
   clear A T V d m;simp only[]at j q r t;go_wp2_with fail;refine(RV v f wr n.2.2 n.2.1).mono ?_;rintro e u ⟨b1,d1,b2,d2,b3,d3,rfl,R,z⟩;obtain⟨q0,q1,q2,q3,f0,f1,f2,f3⟩:=b.places B z;have HN:Ae _:=b.next B z n.1 R;clear R z j q r t b n;go_wp2;go_roundw;(case rel=>exact⟨k+1,oM,by go_num,_,HN⟩);exact oI
 have ae:k=L:=oM;subst ae;go_wp2;go_ret;refine⟨K w,k,rfl,⟨F,?_,?_, λy E=>(b.j8 y E).base oM⟩,b.e8⟩
 . rw[b.fst,<-G,List.take_length]
 have S:=b.row;rw[JI _ _ _ _ b.len]at S;rw[G];exact S
structure WK(w wr:Y)(fs:List (List Int))(L k:Nat)(ys:List (List Int×J)):Prop where
 fst:ys.map Prod.fst=fs.take k
 len: ↑ys=k
 row:Ab wr w 46 1 (Z w L L) L (Hk BW [Z M 0 0] ys L)
 j8:∀y∈ys,Ab wr ((w:Nat)+1) 2 1 y.2 y.1 (y.1.flatMap As)
 e8:Ah w w wr
 ik:(w:Nat)+1<= ↑wr
theorem WK.places{L k:Nat}{c:List (List Int×J)}(h:WK w wr fs L k c)(f:k<L)(e:Ah wr wr u):
 u ⟨w,k,M⟩=K (Z M 0 0)/\u.frozen? ⟨w,k,M⟩=false:=by
 have b:=Aw h.row e lR;rw[Dw BW _ c k L f h.len]at b;have d:(Ad BW c).length=k:=by rw[AE BW 1 A5,h.len,lN]
 have a:=b.cellAt k oM;rw[kT oM,d]at a;rw[mU]at a;exact⟨a,b.frozenAt _⟩
theorem WK.next{L k:Nat}{b:List (List Int×J)}(h:WK w wr fs L k b)(j:k<L)(c:Ah wr wr u){f:List Int}(i:fs[k]?=K f){v:J}(l:Ab u wr 2 1 v f (Ad As f)):
 WK w (Aa u ⟨w,k,M⟩ v) fs L (k+1) (b++[(f,v)]):=by
 have d:=Aw h.row c lR;rw[Dw BW _ b k L j h.len]at d;have g:(Ad BW b).length=k:=by rw[AE BW 1 A5,h.len,lN]
 have e:=(d.stored k v).1;rw[UN _ _ _ _ k g]at e;refine⟨Lg h.fst i v,by simp[h.len],?_,?_,?_,?_⟩
 . rw[IK BW _ b k L (f,v) h.len];exact e
 . intro y a;have m:Ab u ((w:Nat)+1) 2 1 y.2 y.1 (Ad As y.1):=by
    rcases kO.1 a with a|a
    . exact Aw (h.j8 y a) c lR
    simp only[ld]at a;subst a;exact Br l h.ik
   exact lP m sP _
 . exact(h.e8.trans (c.mono (by have:=h.ik;omega))).setCell lR _
 have:=c.size;have:=h.ik;simp;omega
theorem Iw(s:J)(fs:List (List Int))(w:Y)(X:fs.length<=1048576)(R:∀f∈fs,f.length<=1048576)(h:Gi w s fs):
 Ai Ap 19 #[s] w λe U=>∃a c,e=Al (Z a fs c)/\Fk U w (Z a fs c) fs/\Ah w w U:=by
 obtain⟨d,hi,ah,aj,am⟩:=lS XZ;obtain⟨xs,z,t,H⟩:=h;have T:xs.length=fs.length:=by rw[<-z];simp
 have j:Ae (Rd w 1 s fs (Ad BW xs)/\xs.map Prod.fst=fs/\(∀x∈xs,Rd w 1 x.2 x.1 (x.1.flatMap As))/\(∀f∈fs,f.length<=1048576)/\xs.length= ↑fs):=⟨t,z,H,R,T⟩
 obtain⟨a1,c1,rfl⟩:=t.dk;clear t z H R T;generalize F:fs.length=L at X j;have C:Ae (↑fs=L):=F
 clear F;go_enter func19,ntmps19;go_wp2_with (at_make;refine l8 _ rfl _ _ 22 rfl w 46 d (Z M 0 0) 1 underlying22 hi ah aj Af Af _ _ L rfl rfl rfl rfl (by rw[am];omega) oX lR ?_;intro V m I);rw[IL BW [Z M 0 0] L (Z M 0 0) 1 rfl rfl oM]at m;have E:Ah w w V:=(kS _ _).grown I lR (λk N=>by cases N);have b:WK w V fs L 0 []:=⟨sP,rfl,m,(λy A=>by cases A),E,RF m⟩;clear I m E;go_loopw [4] (λi wr=>∃k:Nat,k<=L/\i=Ag Af k/\∃B,WK w wr fs L k B) (λi _=>L-(intOf i).toNat)
 case atStart=>exact⟨0,oM,rfl,_,b⟩
 clear b;obtain⟨k,N,rfl,B,b⟩:=hrel;by_cases r:k<L
 . obtain⟨x,n⟩:∃x,xs[k]?=K x:=⟨_,an (by rw[j.2.2.2.2];exact r)⟩;have q:=Bo j.2.1 n;have Q:=j.2.2.1 x (i7 n);have S:=j.2.2.2.1 x.1 (i7 q);rcases j.1.2 with⟨e0,_⟩|⟨g,o,c,D,G⟩
   . omega
   simp only[i8,lB]at D;obtain⟨rfl,rfl⟩:=D;have d:=Rd.elem A5 G k x n 0 _ rfl;rw[<-b.e8.cell (hC d)]at d;rw[lN,kJ]at d;obtain⟨f,v⟩:=x;have l:Ae (fs[k]?=K f/\Rd wr 1 v f (f.flatMap As)/\f.length<=1048576):=⟨q,Q.a7 b.e8 lR,S⟩
   clear q Q S n G;simp only[]at d;go_wp2_with fail;refine(GG v f wr l.2.2 l.2.1).mono ?_;rintro e u ⟨b1,d1,rfl,O,p⟩;obtain⟨q0,f0⟩:=b.places r p;have W:Ae _:=b.next r p l.1 O;clear O p d b l;go_wp2;go_roundw;(case rel=>exact⟨k+1,oM,by go_num,_,W⟩);exact oI
 have ae:k=L:=oM;subst ae;go_wp2;go_ret;refine⟨K w,k,rfl,⟨B,?_,?_, λy A=>Br (b.j8 y A) oM⟩,b.e8⟩
 . rw[b.fst,<-C,List.take_length]
 have P:=b.row;rw[JI _ _ _ _ b.len]at P;rw[C];exact P
structure MP where
 bO:List (List Int)
 ej:List MC
 bW:List MF
 eD:List MT
structure VP where
 r:J
 k:J
 f:J
 t:J
def VP.val(v:VP):J:=Am #[v.r,v.k,v.f,v.t]
structure Da(w:Y)(v:VP)(p:MP):Prop where
 bO:Gi w v.r p.bO
 ej:Rd w 2 v.k p.ej (Ad MC.cells p.ej)
 bW:Jy w v.f p.bW
 eD:Rd w 4 v.t p.eD (Ad MT.cells p.eD)
structure Ie(w:Y)(base:Nat)(v:VP)(p:MP):Prop where
 bO:Fk w base v.r p.bO
 ej:Ab w base 94 2 v.k p.ej (Ad MC.cells p.ej)
 bW:DQ w base v.f p.bW
 eD:Ab w base 88 4 v.t p.eD (Ad MT.cells p.eD)
structure MP.small(p:MP):Prop where
 bO:p.bO.length<=1048576
 region:∀r∈p.bO,r.length<=1048576
 ej:p.ej.length<=1048576
 bW:p.bW.length<=1048576
 func:∀f∈p.bW,f.small
 eD:p.eD.length<=1048576
theorem Ie.rd{base:Nat}{v:VP}{p:MP}(h:Ie w base v p):Da w v p:=⟨h.bO.rd,Rd.gM h.ej,h.bW.rd,Rd.gM h.eD⟩
theorem Da.a7{w c:Y}{v:VP}{p:MP}(h:Da w v p)(b:Ah B w c)(a: ↑w<=B):Da c v p:=⟨h.bO.a7 b a,h.ej.a7 b a,h.bW.a7 b a,h.eD.a7 b a⟩
theorem Ie.a7{w c:Y}{base:Nat}{v:VP}{p:MP}(h:Ie w base v p)(b:Ah B w c)(a: ↑w<=B):Ie c base v p:=⟨h.bO.a7 b a,Aw h.ej b a,h.bW.a7 b a,Aw h.eD b a⟩
theorem Ie.base{base b:Nat}{v:VP}{p:MP}(h:Ie w base v p)(a:b<=base):Ie w b v p:=⟨h.bO.base a,Br h.ej a,h.bW.base a,Br h.eD a⟩
theorem Ie.below{base:Nat}{v:VP}{p:MP}(h:Ie w base v p){a:Addr}(b:a.block<base)(u:J):Ie (w.setCell a u) base v p:=⟨h.bO.below b u,lP h.ej b u,h.bW.below b u,lP h.eD b u⟩
theorem FR(v:VP)(p:MP)(w:Y)(A:p.small)(h:Da w v p):
 Ai Ap 7 #[Am #[v.r,v.k,v.f,v.t]] w λe w'=>∃b c1 c c2 d c3 g c4,e=Al (Am #[Z b p.bO c1,Z c p.ej c2,Z d p.bW c3,Z g p.eD c4])/\Ie w' w ⟨Z b p.bO c1,Z c p.ej c2,Z d p.bW c3,Z g p.eD c4⟩ p/\Ah w w w':=by
 have F:=Fr.of w 27 36 #[v.r,v.k,v.f,v.t] #[Z M 0 0,Z M 0 0,Z M 0 0,Z M 0 0] #[Z M 0 0,Z M 0 0,Z M 0 0,Z M 0 0] rfl rfl rfl;go_enter func7,ntmps7;go_wp2_with fail;refine(Iw v.r p.bO _ A.bO A.region (h.bO.a7 F.e8 lR)).mono ?_;rintro e u1 ⟨b,c1,rfl,ae,b1⟩;have O1:Ae (Fk u1 ((w:Nat)+3) (Z b p.bO c1) p.bO):=ae.base F.ik;have G:=F.a7 b1;clear ae b1 F;obtain⟨n,q,s,u,_⟩:=DF G.par;obtain⟨i,j,l,m,x,y,z,z3⟩:=DF G.loc;go_wp2_with fail;have B:=G.set 0 (Z b p.bO c1);have O2:Ae (Fk (Aa u1 ⟨(w:Nat)+1+1,0,M⟩ (Z b p.bO c1)) ((w:Nat)+3) (Z b p.bO c1) p.bO):=O1.below sP _;clear O1 G n q s u i j l m x y z z3;simp only[lI]at B;refine(Ov v.k p.ej _ A.ej (h.ej.a7 B.e8 lR)).mono ?_;rintro e u2 ⟨c,c2,rfl,ah,T⟩;have R:Ae (Fk u2 ((w:Nat)+3) (Z b p.bO c1) p.bO/\Ab u2 ((w:Nat)+3) 94 2 (Z c p.ej c2) p.ej (Ad MC.cells p.ej)):=⟨O2.a7 T lR,Br ah B.ik⟩
 have H:=B.a7 T;clear ah T B O2;obtain⟨n,q,s,u,_⟩:=DF H.par;obtain⟨i,j,l,m,x,y,z,z3⟩:=DF H.loc;go_wp2_with fail;have C:=H.set 1 (Z c p.ej c2);have S:Ae _:=d5 (R.1.below (a:=⟨(w:Nat)+1+1,1,M⟩) sP (Z c p.ej c2)) (DP (w:=w) R.2 ((w:Nat)+1+1) 1 oM (Z c p.ej c2));clear R H n q s u i j l m x y z z3;simp only[lI,lT]at C;refine(Qj v.f p.bW _ A.bW A.func (h.bW.a7 C.e8 lR)).mono ?_;rintro e u3 ⟨d,c3,rfl,aj,P⟩;have N:Ae (Fk u3 ((w:Nat)+3) (Z b p.bO c1) p.bO/\Ab u3 ((w:Nat)+3) 94 2 (Z c p.ej c2) p.ej (Ad MC.cells p.ej)/\DQ u3 ((w:Nat)+3) (Z d p.bW c3) p.bW):=⟨S.1.a7 P lR,Aw S.2 P lR,aj.base C.ik⟩
 have I:=C.a7 P;clear aj P C S;obtain⟨n,q,s,u,_⟩:=DF I.par;obtain⟨i,j,l,m,x,y,z,z3⟩:=DF I.loc;go_wp2_with fail;have D:=I.set 2 (Z d p.bW c3);have O:Ae _:=d5 (N.1.below (a:=⟨(w:Nat)+1+1,2,M⟩) sP (Z d p.bW c3)) (d5 (DP (w:=w) N.2.1 ((w:Nat)+1+1) 2 oM (Z d p.bW c3)) (N.2.2.below (a:=⟨(w:Nat)+1+1,2,M⟩) sP (Z d p.bW c3)));clear N I n q s u i j l m x y z z3;simp only[lI,lT]at D;refine(Qh v.t p.eD _ A.eD (h.eD.a7 D.e8 lR)).mono ?_;rintro e u4 ⟨g,c4,rfl,am,E⟩;have O7:Ae (Ie u4 ((w:Nat)+3) ⟨Z b p.bO c1,Z c p.ej c2,Z d p.bW c3,Z g p.eD c4⟩ p):=⟨O.1.a7 E lR,Aw O.2.1 E lR,O.2.2.a7 E lR,Br am D.ik⟩;have L:=D.a7 E;clear am E D O;obtain⟨n,q,s,u,_⟩:=DF L.par;obtain⟨i,j,l,m,x,y,z,z3⟩:=DF L.loc;obtain⟨U,V,W,X,y0,y1,y2,y3⟩:=DF L.gU;go_wp2_with fail;clear n q s u i j l m x y z z3 U V W X y0 y1 y2 y3;have Q:=((((L.set 3 (Z g p.eD c4)).iK 0 (Z b p.bO c1)).iK 1 (Z c p.ej c2)).iK 2 (Z d p.bW c3)).iK 3 (Z g p.eD c4);simp only[lI,lT]at Q;obtain⟨U,V,W,X,_⟩:=DF Q.gU;have ao:=((((O7.below (a:=⟨(w:Nat)+1+1,3,M⟩) sP (Z g p.eD c4)).below (a:=⟨(w:Nat)+1,0,M⟩) (by simp<;>omega) (Z b p.bO c1)).below (a:=⟨(w:Nat)+1,1,M⟩) (by simp<;>omega) (Z c p.ej c2)).below (a:=⟨(w:Nat)+1,2,M⟩) (by simp<;>omega) (Z d p.bW c3)).below (a:=⟨(w:Nat)+1,3,M⟩) (by simp<;>omega) (Z g p.eD c4);exact kQ (v:=Am #[Z b p.bO c1,Z c p.ej c2,Z d p.bW c3,Z g p.eD c4]) (by simp[results,results7,go_sem,U,V,W,X]) rfl ⟨b,c1,c,c2,d,c3,g,c4,rfl,ao.base oM,Q.e8⟩
theorem Da.sl{v:VP}{p:MP}(h:Da w v p):∃g i d e j k f1 f3,v=⟨Z g p.bO i,Z d p.ej e,Z f1 p.bW f3,Z j p.eD k⟩:=by obtain⟨g,i,n⟩:=(show∃a c,v.r=Z a p.bO c from by obtain⟨_,_,b,_⟩:=h.bO;exact b.dk);obtain⟨d,e,m⟩:=h.ej.dk;obtain⟨j,k,q⟩:=h.eD.dk;obtain⟨f1,f3,l⟩:=(show∃a c,v.f=Z a p.bW c from by obtain⟨_,_,b,_⟩:=h.bW;exact b.dk);obtain⟨u,t,s,x⟩:=v;simp only[]at n m q l;subst n m q l;exact⟨g,i,d,e,j,k,f1,f3,rfl⟩
theorem EH{g:VF}{f:MF}(h:DE w g f):∃a b c d e i,g=⟨Z a f.gw b,Z c f.gG d,Z e f.eC i⟩:=by obtain⟨a,b,j⟩:=h.1.dk;obtain⟨c,d,k⟩:=h.2.1.dk;obtain⟨e,i,l⟩:=h.2.2.dk;obtain⟨p,n,m⟩:=g;simp only[]at j k l;subst j k l;exact⟨a,b,c,d,e,i,rfl⟩
theorem Az(B:Nat)(w:Y)(nq:Nat):Ah B w (w.drewN nq):=⟨rfl,rfl,rfl,Nat.le_refl _, λ_ _=>rfl⟩
theorem Bm(h:Ah w.drew w.drew u)(a:B<= ↑w):Ah B w u:=⟨h.os,h.tape,h.output,h.size, λk b=>h.block k (lq b a)⟩
theorem K7(s f:J)(a:List Int)(w:Y)(A:a.length<=140737488355328)(h:Rd w 1 s a (Ad As a))(b:Rd w 1 f a (Ad As a)):
 Ai Ap 47 #[s,f] w λe D=>e=Al true/\∃m,D=w.drewN m:=by
 have j:Ae (Rd w 1 s a (Ad As a)):=h;have l:Ae (Rd w 1 f a (Ad As a)):=b;obtain⟨E,c1,rfl⟩:=h.dk;obtain⟨F,c2,rfl⟩:=b.dk;clear h b;generalize r:a.length=n at A j l;have v:Ae (↑a=n):=r
 clear r;go_enter func47,ntmps47;go_wp2;go_loopw [5] (λi wr=>∃k:Nat,k<=n/\i=Ag Af k/\∃m,wr=w.drewN m) (λi _=>n-(intOf i).toNat)
 case atStart=>exact⟨0,oM,rfl,0,rfl⟩
 obtain⟨k,H,rfl,m,rfl⟩:=hrel;by_cases z:k<n
 . obtain⟨x,d⟩:∃x,a[k]?=K x:=⟨_,an (by rw[v];exact z)⟩;rcases j.2 with⟨y,_⟩|⟨g,o,c,p,t⟩
   . omega
   rcases l.2 with⟨y,_⟩|⟨G,I,c',q,u⟩
   . omega
   simp only[i8,lB]at p q;obtain⟨rfl,rfl⟩:=p;obtain⟨rfl,rfl⟩:=q;have B:=Rd.elem AA t k x d 0 _ rfl;have C:=Rd.elem AA u k x d 0 _ rfl;rw[lN,kJ]at B C;clear t u d;go_wp2;go_quiet (fail);go_wp2;go_roundw;(case rel=>exact⟨k+1,oM,by go_num,_,rfl⟩);exact oI
 go_wp2;go_ret;exact⟨rfl,_,rfl⟩
theorem FP(s b:J)(a:List Int)(w:Y)(i:a.length<=140737488355328)(h:Rd w 1 s a (Ad As a))(d:Rd w 1 b a (Ad As a)):
 Ai Ap 47 #[s,b] w λe c=>e=Al true/\Ah w w c:=
 (K7 s b a w i h d).mono λe c ⟨f,m,g⟩=>⟨f,g▸Az _ _ _⟩
theorem Oa(x:MI)(w:Y):
 Ai Ap 118 #[Am #[Ag Af x.op,Ag Af x.a,Ag Af x.b,Ag Af x.c],Am #[Ag Af x.op,Ag Af x.a,Ag Af x.b,Ag Af x.c]] w λe d=>e=Al true/\Ah w w d:=by
 go_enter func118,ntmps118;go_wp2;go_ret;exact⟨rfl,(((kS _ _).alloc lR _).alloc sP _)⟩
theorem N8(x:MC)(w:Y):
 Ai Ap 48 #[Am #[Ag Af x.type,Ag .u32 x.word],Am #[Ag Af x.type,Ag .u32 x.word]] w λe a=>e=Al true/\Ah w w a:=by
 go_enter func48,ntmps48;go_wp2;go_ret;exact⟨rfl,(((kS _ _).alloc lR _).alloc sP _)⟩
theorem Pk(x:MT)(w:Y):
 Ai Ap 50 #[Am #[Ag Af x.func,Ag Af x.head,Ag Af x.gI,Ag .u32 x.init],Am #[Ag Af x.func,Ag Af x.head,Ag Af x.gI,Ag .u32 x.init]] w λe a=>e=Al true/\Ah w w a:=by
 go_enter func50,ntmps50;go_wp2;go_ret;exact⟨rfl,(((kS _ _).alloc lR _).alloc sP _)⟩
theorem Ms(s A:J)(b:List MI)(w:Y)(P:b.length<=1048576)(h:Rd w 4 s b (Ad MI.cells b))(l:Rd w 4 A b (Ad MI.cells b)):
 Ai Ap 90 #[s,A] w λe Q=>e=Al true/\Ah w w Q:=by
 have B:Ae (Rd w 4 s b (Ad MI.cells b)):=h;have C:Ae (Rd w 4 A b (Ad MI.cells b)):=l;obtain⟨R,c1,rfl⟩:=h.dk;obtain⟨S,c2,rfl⟩:=l.dk;clear h l;generalize F:b.length=n at P B C;have L:Ae (↑b=n):=F
 clear F;go_enter func90,ntmps90;go_wp2;go_loopw [5] (λi wr=>∃k:Nat,k<=n/\i=Ag Af k/\Ah w w wr) (λi _=>n-(intOf i).toNat)
 case atStart=>exact⟨0,oM,rfl,kS _ _⟩
 obtain⟨k,U,rfl,G⟩:=hrel;have a:Ae (Ah w w wr):=G;clear G;by_cases O:k<n
 . obtain⟨x,d⟩:∃x,b[k]?=K x:=⟨_,an (by rw[L];exact O)⟩;rcases B.2 with⟨N,_⟩|⟨g,o,c,D,f⟩
   . omega
   rcases C.2 with⟨N,_⟩|⟨T,V,c',E,j⟩
   . omega
   simp only[i8,lB]at D E;obtain⟨rfl,rfl⟩:=D;obtain⟨rfl,rfl⟩:=E;have m:=Rd.elem MI.dr f k x d 0 _ rfl;have p:=Rd.elem MI.dr f k x d 1 _ rfl;have q:=Rd.elem MI.dr f k x d 2 _ rfl;have r:=Rd.elem MI.dr f k x d 3 _ rfl;have t:=Rd.elem MI.dr j k x d 0 _ rfl;have v:=Rd.elem MI.dr j k x d 1 _ rfl;have y:=Rd.elem MI.dr j k x d 2 _ rfl;have z:=Rd.elem MI.dr j k x d 3 _ rfl;rw[<-a.cell (hC m),kJ]at m;rw[<-a.cell (hC p)]at p;rw[<-a.cell (hC q)]at q;rw[<-a.cell (hC r)]at r;rw[<-a.cell (hC t),kJ]at t;rw[<-a.cell (hC v)]at v;rw[<-a.cell (hC y)]at y;rw[<-a.cell (hC z)]at z;clear f j d;go_wp2_with fail;go_region_with (go_at_call 118;refine(Oa x _).mono ?_;rintro e u ⟨rfl,H⟩);all_goals
    have I:Ae (Ah w w u):=a.trans (Bm H a.size);clear H a m p q r t v y z;go_wp2;go_roundw;(case rel=>exact⟨k+1,oM,by go_num,I⟩);exact oI
 go_wp2;go_ret;exact⟨rfl,a⟩
theorem N7(s A:J)(b:List MT)(w:Y)(P:b.length<=1048576)(h:Rd w 4 s b (Ad MT.cells b))(l:Rd w 4 A b (Ad MT.cells b)):
 Ai Ap 27 #[s,A] w λe Q=>e=Al true/\Ah w w Q:=by
 have B:Ae (Rd w 4 s b (Ad MT.cells b)):=h;have C:Ae (Rd w 4 A b (Ad MT.cells b)):=l;obtain⟨R,c1,rfl⟩:=h.dk;obtain⟨S,c2,rfl⟩:=l.dk;clear h l;generalize F:b.length=n at P B C;have L:Ae (↑b=n):=F
 clear F;go_enter func27,ntmps27;go_wp2;go_loopw [5] (λi wr=>∃k:Nat,k<=n/\i=Ag Af k/\Ah w w wr) (λi _=>n-(intOf i).toNat)
 case atStart=>exact⟨0,oM,rfl,kS _ _⟩
 obtain⟨k,U,rfl,G⟩:=hrel;have a:Ae (Ah w w wr):=G;clear G;by_cases O:k<n
 . obtain⟨x,d⟩:∃x,b[k]?=K x:=⟨_,an (by rw[L];exact O)⟩;rcases B.2 with⟨N,_⟩|⟨g,o,c,D,f⟩
   . omega
   rcases C.2 with⟨N,_⟩|⟨T,V,c',E,j⟩
   . omega
   simp only[i8,lB]at D E;obtain⟨rfl,rfl⟩:=D;obtain⟨rfl,rfl⟩:=E;have m:=Rd.elem MT.dr f k x d 0 _ rfl;have p:=Rd.elem MT.dr f k x d 1 _ rfl;have q:=Rd.elem MT.dr f k x d 2 _ rfl;have r:=Rd.elem MT.dr f k x d 3 _ rfl;have t:=Rd.elem MT.dr j k x d 0 _ rfl;have v:=Rd.elem MT.dr j k x d 1 _ rfl;have y:=Rd.elem MT.dr j k x d 2 _ rfl;have z:=Rd.elem MT.dr j k x d 3 _ rfl;rw[<-a.cell (hC m),kJ]at m;rw[<-a.cell (hC p)]at p;rw[<-a.cell (hC q)]at q;rw[<-a.cell (hC r)]at r;rw[<-a.cell (hC t),kJ]at t;rw[<-a.cell (hC v)]at v;rw[<-a.cell (hC y)]at y;rw[<-a.cell (hC z)]at z;clear f j d;go_wp2_with fail;go_region_with (go_at_call 50;refine(Pk x _).mono ?_;rintro e u ⟨rfl,H⟩);all_goals
    have I:Ae (Ah w w u):=a.trans (Bm H a.size);clear H a m p q r t v y z;go_wp2;go_roundw;(case rel=>exact⟨k+1,oM,by go_num,I⟩);exact oI
 go_wp2;go_ret;exact⟨rfl,a⟩
theorem Mr(s t:J)(a:List MC)(w:Y)(I:a.length<=1048576)(h:Rd w 2 s a (Ad MC.cells a))(f:Rd w 2 t a (Ad MC.cells a)):
 Ai Ap 25 #[s,t] w λe L=>e=Al true/\Ah w w L:=by
 have v:Ae (Rd w 2 s a (Ad MC.cells a)):=h;have y:Ae (Rd w 2 t a (Ad MC.cells a)):=f;obtain⟨N,c1,rfl⟩:=h.dk;obtain⟨O,c2,rfl⟩:=f.dk;clear h f;generalize B:a.length=n at I v y;have F:Ae (↑a=n):=B
 clear B;go_enter func25,ntmps25;go_wp2;go_loopw [5] (λi wr=>∃k:Nat,k<=n/\i=Ag Af k/\Ah w w wr) (λi _=>n-(intOf i).toNat)
 case atStart=>exact⟨0,oM,rfl,kS _ _⟩
 obtain⟨k,Q,rfl,C⟩:=hrel;have b:Ae (Ah w w wr):=C;clear C;by_cases H:k<n
 . obtain⟨x,d⟩:∃x,a[k]?=K x:=⟨_,an (by rw[F];exact H)⟩;rcases v.2 with⟨G,_⟩|⟨g,o,c,z,j⟩
   . omega
   rcases y.2 with⟨G,_⟩|⟨P,R,c',A,l⟩
   . omega
   simp only[i8,lB]at z A;obtain⟨rfl,rfl⟩:=z;obtain⟨rfl,rfl⟩:=A;have m:=Rd.elem MC.dr j k x d 0 _ rfl;have p:=Rd.elem MC.dr j k x d 1 _ rfl;have q:=Rd.elem MC.dr l k x d 0 _ rfl;have r:=Rd.elem MC.dr l k x d 1 _ rfl;rw[<-b.cell (hC m),kJ]at m;rw[<-b.cell (hC p)]at p;rw[<-b.cell (hC q),kJ]at q;rw[<-b.cell (hC r)]at r;clear j l d;go_wp2_with fail;go_region_with (go_at_call 48;refine(N8 x _).mono ?_;rintro e u ⟨rfl,D⟩);all_goals
    have E:Ae (Ah w w u):=b.trans (Bm D b.size);clear D b m p q r;go_wp2;go_roundw;(case rel=>exact⟨k+1,oM,by go_num,E⟩);exact oI
 go_wp2;go_ret;exact⟨rfl,b⟩
end Go.Proofs.YtmalfecapdmdbaaGreat
