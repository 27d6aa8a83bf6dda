import Derived.Test.YtadcneiiokbofaaGreatRows
import Derived.WalkKit
import Derived.ProofKit
import Derived.Below
import Derived.OpenShut
import Derived.Outline
import Derived.WalkLawsBesides
import Derived.Laws.Rows
import Derived.Laws.OwnMore
import Derived.OwnWalk
import Derived.Deep.QuietTactic
import Derived.BigQuiet
import Derived.Laws.Tables
import Derived.Deep.WholeRow
import Derived.Great.BuildSlice
import Derived.Laws.CopyOwn
import Derived.Laws.EntriesVeiled
import Derived.Deep.MidRow
import Derived.OneCell
import Derived.Deep.RegionWith
namespace Go.Proofs.YtadcneiiokbofaaGreat
open Go.ChangeShapes Go.WideShapes Go.ChangeAt Go.RowKit Go.Proofs.Tryz
set_option linter.unusedVariables false
open Go.RowKit renaming Hid → Ae,Below → Ah
open Go.Value renaming slice → Z,int → Ag,agg → Am
open Option renaming some → K,none → M
open Go renaming Value → J,World → Y,TypeId → Aj,Calls → Ai
open Go.IntKind renaming i64 → Af
open Go.World renaming ownsRow → Ab,alloc → Ac,setCell → Aa
open List renaming flatMap → Ad
open Go.Ending renaming returned → Al
open Go.Proofs.Tryz renaming prog → Ap
open Go.Obj renaming cells → Ak
set_option maxHeartbeats 4000000
set_option maxRecDepth 100000
variable {n B:Nat}{w d u wr:Y}{e:Aj}{s:J}{xs:List J}{α β:Type}{P:Program}{Q:Exit->Act->Y->Prop}{rs fs:List (List Int)}
theorem lR:n<=n:=Nat.le_refl n
theorem _root_.Go.RowKit.Hid.o{p:Prop}(h:Ae p):p:=h
theorem oM{p:Prop}(h:p:=by omega):p:=h
theorem dC{p:Prop}(h:p:=by decide):p:=h
theorem kR{p:Prop}(h:p:=by kernel_rfl):p:=h
theorem sP{p:Prop}(h:p:=by simp):p:=h
theorem oS{p:Prop}(h:p:=by simp only[];omega):p:=h
theorem oX{p:Prop}(h:p:=by unfold maxLen;omega):p:=h
theorem oT{p:Prop}(h:p:=by simp;omega):p:=h
theorem oE{p:Prop}(h:p:=by simp[Act.eval]):p:=h
theorem oI{p:Prop}(h:p:=by simp[intOf];omega):p:=h
abbrev an:=@List.getElem?_eq_getElem
abbrev d5:=@And.intro
abbrev g8:=@block_lt_of_cell
abbrev i8:=@List.getElem?_eq_some_iff
abbrev lA:=@List.mem_of_getElem?
abbrev lB:=@Value.slice.injEq
abbrev lC:=@List.getElem?_cons_zero
abbrev lD:=@Int.toNat_natCast
abbrev lE:=@List.getElem?_toArray
abbrev lF:=@List.getElem?_cons_succ
abbrev lG:=@List.length_append
abbrev lH:=@Option.some.injEq
abbrev lI:=@ownsRow_setCell_other
abbrev lJ:=@Nat.add_zero
abbrev lK:=@Array.getElem?_eq_some_iff
abbrev lL:=@List.length_singleton
abbrev lM:=@List.setIfInBounds_toArray
abbrev lN:=@List.getD_eq_getElem?_getD
abbrev lO:=@bodyPost_ret
abbrev lP:=@Option.some.inj
abbrev lQ:=@Nat.le_trans
abbrev lS:=@if_neg
abbrev lT:=@List.mem_append
abbrev lU:=@List.set_cons_zero
abbrev lV:=@ownsRow_setCell_below
abbrev lW:=@List.getElem?_eq_none
abbrev lX:=@List.set_cons_succ
abbrev lY:=@List.getElem?_append_right
abbrev lZ:=@if_pos
abbrev lu:=@Below.refl
abbrev lw:=@List.mem_cons
abbrev l8:=@List.take_succ_eq_append_getElem
abbrev mA:=@Int.eq_ofNat_of_zero_le
abbrev mB:=@true_and
abbrev mC:=@List.take_of_length_le
abbrev mD:=@List.length_map
abbrev mE:=@List.getElem?_map
abbrev mF:=@List.flatMap_cons
abbrev mG:=@List.mem_map
abbrev mH:=@List.flatMap_append
abbrev mI:=@World.ownsRow_nil
abbrev mJ:=@List.getElem?_of_mem
abbrev mK:=@List.not_mem_nil
abbrev mL:=@List.eq_nil_of_length_eq_zero
abbrev mM:=@List.cons_append
abbrev mN:=@info_parts
abbrev mO:=@Nat.mul_one
abbrev mP:=@List.getElem?_append_left
abbrev mQ:=@Nat.zero_add
abbrev mR:=@Nat.ne_of_lt
abbrev mS:=@heap_setCell_other
abbrev mT:=@Nat.lt_of_lt_of_le
abbrev mU:=@decide_eq_false
abbrev mV:=@List.mem_cons_self
abbrev mW:=@List.length_cons
abbrev mX:=@List.mem_cons_of_mem
abbrev mY:=@List.length_take
abbrev mZ:=@List.length_set
abbrev mc:=@World.size_setCell
abbrev mh:=@List.length_nil
abbrev mi:=@List.getElem?_set_self
abbrev mj:=@List.pairwise_cons
abbrev mm:=@wpList_make_full
abbrev mq:=@List.drop_eq_getElem_cons
abbrev mr:=@Classical.byContradiction
abbrev ms:=@World.ownsRow.cellAt
abbrev mu:=@List.getElem?_set_ne
abbrev mv:=@List.length_reverse
abbrev mw:=@List.nil_append
abbrev my:=@decide_eq_true_eq
abbrev mz:=@List.mem_singleton
abbrev m6:=@Option.map_eq_some_iff
abbrev m7:=@List.mem_reverse
abbrev m8:=@List.length_range
abbrev m9:=@List.map_append
abbrev nA:=@Nat.add_sub_cancel_left
abbrev nB:=@List.ext_getElem?
abbrev nC:=@World.ownsRow.stored
abbrev nD:=@List.flatMap_nil
abbrev nE:=@List.mem_range
abbrev nF:=@Addr.mk.injEq
abbrev nG:=@List.getElem_mem
abbrev nH:=@List.length_replicate
abbrev nI:=@List.length_drop
abbrev nJ:=@or_false
abbrev nL:=@Obj.cells.injEq
abbrev nM:=@Nat.sub_self
abbrev nN:=@List.append_assoc
abbrev nO:=@Bool.and_eq_true
abbrev nP:=@List.length_filter_le
abbrev nQ:=@List.map_cons
abbrev nR:=@Bool.false_ne_true
abbrev nS:=@List.pairwise_iff_getElem
abbrev nT:=@World.ownsRow_lit
abbrev nU:=@and_true
abbrev nV:=@World.ownsMap.isMap
abbrev nW:=@List.range_succ
abbrev nX:=@List.flatten_replicate_singleton
abbrev nY:=@List.filter_append
abbrev nZ:=@Nat.zero_le
abbrev nh:=@List.mem_filter
abbrev ni:=@List.mem_flatMap
abbrev nj:=@World.ownsMap.lt
abbrev nm:=@List.pairwise_map
abbrev nw:=@List.pairwise_append
abbrev ny:=@List.append_nil
abbrev nz:=@List.set_append_right
abbrev n9:=@List.take_append_drop
abbrev oC:=@Go.IntWalk.i64_in
abbrev oD:=@Go.Maps.keyOf_int_mk
abbrev oF:=@List.drop_of_length_le
abbrev oG:=@List.map_congr_left
abbrev oH:=@List.nodup_append
abbrev oJ:=@List.getElem?_zipWith
abbrev oL:=@Option.map_some
abbrev oN:=@List.cons.injEq
abbrev oP:=@List.map_map
abbrev oQ:=@List.length_pos_iff
abbrev oR:=@Bool.eq_iff_iff
abbrev oU:=@List.mem_or_eq_of_mem_set
abbrev oV:=@List.idxOf_lt_length_iff
abbrev oW:=@decide_eq_false_iff_not
abbrev oY:=@List.mergeSort_perm
abbrev oZ:=@Int.toNat_of_nonneg
abbrev oe:=@List.mem_map_of_mem
abbrev oh:=@List.pairwise_lt_range
abbrev oj:=@World.size_alloc
abbrev oq:=@List.filter_cons
abbrev ov:=@Option.getD_some
abbrev oy:=@List.all_eq_true
abbrev oz:=@heap_alloc_new
abbrev o5:=@Bool.false_eq_true
abbrev o6:=@cell_of_row
abbrev o7:=@Nat.le_of_lt
abbrev o8:=@of_decide_eq_true
abbrev o9:=@beq_eq_false_iff_ne
abbrev pA:=@List.replicate_succ
abbrev pB:=@List.getElem?_range
abbrev pC:=@List.filter_nil
abbrev pD:=@List.mem_of_mem_tail
abbrev pE:=@Nat.lt_succ_self
abbrev pF:=@Array.getElem?_eq_getElem
abbrev pG:=@List.getElem?_take_of_lt
abbrev pH:=@Array.getElem?_push_size
abbrev pI:=@List.idxOf_cons
abbrev pJ:=@List.getElem?_drop
abbrev pK:=@World.ownsRow.frozenAt
abbrev pL:=@World.cell?_of_block
abbrev pM:=@Nat.add_mul
abbrev pN:=@World.cell?_setCell_same
abbrev pO:=@bodyPost_end
instance:Coe World Nat:=⟨λw=>w.heap.size⟩
instance {α:Type}:CoeOut (List α) Nat:=⟨List.length⟩
instance:Coe Nat (Option Addr):=⟨λn=>some ⟨n,0,none⟩⟩
instance:Coe Nat Addr:=⟨λn=>⟨n,0,none⟩⟩
instance:CoeFun World (λ_=>Addr->Option Value):=⟨World.cell?⟩
instance:Coe Int Value:=⟨.int .i64⟩
instance:Coe Nat Value:=⟨λn=>.int .i64 (n:Int)⟩
instance:Coe Bool Value:=⟨.bool⟩
def Rd(w:Y)(k:Nat)(s:J)(n:Nat)(xs:List J):Prop:=↑xs=n*k/\((n=0/\∃a c,s=Z a 0 c)\/∃g o c,s=Z (K ⟨g,o,M⟩) n c/\∀j u,xs[j]?=K u->w ⟨g,o+j,M⟩=K u)
theorem Rd.ij{base:Nat}{k n:Nat}(h:Ab w base e k s n xs):Rd w k s n xs:=by
 refine⟨by simpa using h.1,?_⟩;rcases h.2 with⟨rfl,rfl⟩|⟨g,cap,b,rfl,i,c,p,l,m,f⟩
 . exact .inl ⟨rfl,_,_,rfl⟩
 refine .inr ⟨g,0,cap,rfl, λj u a=> ?_⟩;rw[o6 w g _ b e _ c,mQ];rw[<-f]at a;obtain⟨d,a⟩:=i8.1 a;rw[List.getElem_take]at a;rw[<-a];simp at d;rw[pF oM];simp
theorem Rd.a7{k n:Nat}(h:Rd w k s n xs)(f:Ah B w d)(e: ↑w<=B):Rd d k s n xs:=by
 obtain⟨b,h|⟨g,o,c,rfl,i⟩⟩:=h
 . exact⟨b,.inl h⟩
 refine⟨b,.inr ⟨g,o,c,rfl, λj u l=> ?_⟩⟩;have a:=i j u l;rw[f.cell (mT (g8 a) e)];exact a
theorem Rd.bW{k:Nat}(h:Rd w k s n xs):∃a c,s=Z a n c:=by rcases h.2 with⟨rfl,a,c,rfl⟩|⟨g,o,c,rfl,_⟩<;>exact⟨_,_,rfl⟩
theorem Aw{w b:Y}{base:Nat}{k n:Nat}(h:Ab w base e k s n xs)(i:Ah B w b)(f: ↑w<=B):Ab b base e k s n xs:=by
 refine⟨h.1,?_⟩;rcases h.2 with h|⟨g,cap,c,d,j,a,l⟩
 . exact .inl h
 refine .inr ⟨g,cap,c,d,j,?_,l⟩;rw[i.block g (mT (lK.1 a).1 f)];exact a
theorem AE(f:α->List J)(m:Nat)(b:∀y,(f y).length=m)(a:List α):(Ad f a).length= ↑a*m:=by
 induction a with
 |nil=>simp
 |cons y r c=>rw[mF,lG,c,b,mW,pM];omega
theorem BU(f:α->List J)(m:Nat)(b:∀y,(f y).length=m)(c:List α)(k j:Nat)(y:α)(a:c[k]?=K y)(d:j<m):(Ad f c)[k*m+j]?=(f y)[j]?:=by
 induction c generalizing k with
 |nil=>cases a
 | cons x r e=>
   rw[mF];cases k with
   | zero=>simp only[lC,lH]at a;subst a;rw[Nat.zero_mul,mQ,mP (by rw[b];exact d)]
   | succ k=>rw[lF]at a;rw[lY (by rw[b,pM];omega),b,<-e k a];(congr 1);rw[pM];omega
def BG{α:Type}(f:α->List J)(z:List J)(a:List α)(k n:Nat):List J:=Ad f (a.take k)++(List.replicate (n-k) z).flatten
theorem FE(f:α->List J)(z:List J)(a:List α)(n:Nat)(h: ↑a=n):BG f z a n n=Ad f a:=by simp[BG,<-h]
theorem Cc(f:α->List J)(z:List J)(u:List α)(n:Nat)(v:J)(m:Nat)(p:v.cells=z.toArray)(k: ↑z=m)(c:0<m):(madeCells v.cells (n*m)).toList=BG f z u 0 n:=by
 subst k;rw[p];unfold BG;rw[List.take_zero,nD,mw,Nat.sub_zero];apply nB;intro i;have j:(List.replicate n z).flatten=Ad id (List.replicate n z):=by simp[List.flatMap_id]
 by_cases b:i<n* ↑z
 . have l:i / ↑z<n:=(Nat.div_lt_iff_lt_mul c).2 b
   have a:=Nat.mod_lt i c;have e:i=i / ↑z* ↑z+i % z.length:=by rw[Nat.mul_comm];exact(Nat.div_add_mod i z).symm
   have s:(List.replicate n z).flatten[i]?=z[i % ↑z]?:=by
    (conv=>lhs;rw[e]);clear e;generalize i / z.length=q at l;generalize i % z.length=r at a;clear b j;induction n generalizing q with
    |zero=>omega
    | succ n t=>
      rw[pA,List.flatten_cons];cases q with
      |zero=>rw[Nat.zero_mul,mQ,mP a]
      | succ q=>rw[lY (by rw[pM];omega),<-t q oM];(congr 1);rw[pM];omega
   rw[s];have h:i<(madeCells z.toArray (n* ↑z)).toList.length:=by simp[madeCells];exact b
   rw[an h,an a];simp[madeCells];rw[an a];rfl
 have d:(madeCells z.toArray (n* ↑z)).toList.length<=i:=by simp[madeCells];omega
 have g:(List.replicate n z).flatten.length<=i:=by rw[List.length_flatten];simp;omega
 rw[lW d,lW g]
theorem CG(f:α->List J)(z:List J)(a:List α)(k n:Nat)(b:k<n):BG f z a k n=Ad f (a.take k)++(z++(List.replicate (n-(k+1)) z).flatten):=by unfold BG;have e:n-k=(n-(k+1))+1:=oM;rw[e,pA,List.flatten_cons]
theorem Ey(f:α->List J)(z:List J)(a:List α)(k n:Nat)(y:α)(c:a[k]?=K y):BG f z a (k+1) n=Ad f (a.take k)++(f y++(List.replicate (n-(k+1)) z).flatten):=by unfold BG;obtain⟨b,rfl⟩:=i8.1 c;rw[l8 b,mH,nN];simp
theorem Wc(A R:List J)(a c0:J)(i:Nat)(h: ↑A=i):(A++([a]++R)).set i c0=A++([c0]++R):=by subst h;simp
theorem ZF(A R:List J)(a b c0 c1:J)(i:Nat)(h: ↑A=i):((A++([a,b]++R)).set i c0).set (i+1) c1=A++([c0,c1]++R):=by subst h;simp[List.set_append_right]
theorem Yu(A R:List J)(a b c z3 c0 c1 c2 c3:J)(i:Nat)(h: ↑A=i):((((A++([a,b,c,z3]++R)).set i c0).set (i+1) c1).set (i+2) c2).set (i+3) c3=A++([c0,c1,c2,c3]++R):=by subst h;simp[List.set_append_right]
theorem Rd.elem{f:α->List J}{m:Nat}{a:List α}{g o:Nat}(b:∀y,(f y).length=m)(h:∀j u,(Ad f a)[j]?=K u->w ⟨g,o+j,M⟩=K u)(k:Nat)(y:α)(e:a[k]?=K y)(j:Nat)(u:J)(c:(f y)[j]?=K u):w ⟨g,o+k*m+j,M⟩=K u:=by
 have d:j<m:=by rw[<-b y];exact(i8.1 c).1
 rw[Nat.add_assoc];exact h _ u ((BU f m b a k j y e d).trans c)
theorem Av{p:Prop}(h:p):Ae p:=h
abbrev sN:J:=Z M 0 0
abbrev sG(g n c:Nat):J:=Z g n c
abbrev sO(g o n c:Nat):J:=Z (K ⟨g,o,M⟩) n c
abbrev iZ(z:Int):J:=Ag Af z
def Fo(t:Int):Bool:=decide (1<=t/\t<=3)
theorem Ql{t:Int}(h:1<=t)(a:t<=3):Fo t=true:=by unfold Fo;simp;omega
theorem Iq{t:Int}(h:t<1\/3<t):Fo t=false:=by unfold Fo;simp;omega
def word(b:Bool):Int:=if b then 1 else 0
theorem Eh(t:Int)(w:Y):Ai Ap 128 #[t] w λe c=>e=Al (Fo t)/\c=w:=by
 by_cases a:1<=t
 . by_cases b:t<=3
   . rw[Ql a b];go_enter func128,ntmps128;go_wp2;go_ret;exact⟨rfl,rfl⟩
   rw[Iq oM];go_enter func128,ntmps128;go_wp2;go_ret;exact⟨rfl,rfl⟩
 rw[Iq oM];go_enter func128,ntmps128;go_wp2;go_ret;exact⟨rfl,rfl⟩
theorem Ei(t:Int)(w:Y):Ai Ap 61 #[t] w λe c=>e=Al (Fo t)/\c=w:=by
 by_cases a:1<=t
 . by_cases b:t<=3
   . rw[Ql a b];go_enter func61,ntmps61;go_wp2;go_ret;exact⟨rfl,rfl⟩
   rw[Iq oM];go_enter func61,ntmps61;go_wp2;go_ret;exact⟨rfl,rfl⟩
 rw[Iq oM];go_enter func61,ntmps61;go_wp2;go_ret;exact⟨rfl,rfl⟩
def Fm(P:Program):List Oper->Act->Option Act
 |[],a=>K a
 | o ::r,a=>
   match o.guard,o.op with
   | none,.build t parts=>
     match P.built t (parts.map λ(i,x)=>(i,a.eval x)).toList with
     |some cells=>Fm P r (a.put o.dst (Am cells))
     |none=>M
   |_,_=>M
theorem Gi{c:Array Oper}{a':Act}(rest:List Oper)(h:wpList P c Q rest a' w):
 ∀(l:List Oper) (a:Act),Fm P l a=K a'->wpList P c Q (l++rest) a w
 | [],a,hb=>by simp only[Fm,lH]at hb;subst hb;exact h
 | o ::r,a,hb=>by
   unfold Fm at hb;split at hb
   . next t parts d e=>
     split at hb
     . next cells b=>
       refine wpList_build d t parts e (by rw[b];rfl) ?_;rw[b];exact Gi rest h r _ hb
     . cases hb
   . cases hb
theorem Pp{r:Array Oper}{l:List Oper}{a:Act}(n:Nat)(ty t:Aj)(x y:Operand)(g:Nat)(cells d:Array J)(p:Tmp)
 (i:(Fm P (l.take n) a).map (λa'=>(a'.eval x,a'.eval y,a'.tmps.getD p undef,a'.defers))=K (.pointer g,Am cells,.pointer g,[]))
 (b:(l.drop n).map (λo=>(o.guard,o.op,o.dst))=[(M,.store ty x y,M)])
 (j:w.heap[g]?=K (Ak d t (0,0))) (k:(P.info? ty).map (·.size)=K cells.size)
 (m:d.size=cells.size) (e:cells.all (·.oneCell')=true)
 (h:∀a',a'.tmps.getD p undef=.pointer g->a'.defers=[]->Q .normal a' (w.setRow g cells)):wpList P r Q l a w:=by
 rw[<-n9 n l];obtain⟨a',f,c⟩:=m6.1 i;simp only[Prod.mk.injEq]at c;refine Gi (a':=a') _ ?_ _ _ f;generalize l.drop n=q at b;rcases q with _|⟨o,_|⟨u,s⟩⟩
 . cases b
 . simp only[nQ,List.map_nil,oN,Prod.mk.injEq,nU]at b;refine wpList_store_row b.1 ty x y b.2.1 g cells c.1 c.2.1 t d j k m e ?_;rw[b.2.2];exact wpList_nil (h _ c.2.2.1 c.2.2.2)
 simp at b
theorem JN{I:Array Oper}{l:List Oper}{a:Act}(n:Nat)(t e:Aj)(len:Nat)(parts:Array (Nat×Operand))(s p m:Nat)(cells:Array J)(b:TypeInfo)(z:J)
 (u:(Fm P (l.take n) a).map (λa'=>(Instr.fill (λi=>K (i*b.size,b.size)) ((Array.range (len*b.size)).map (z.cells[· % z.cells.size]!)) (parts.map λ(i,x)=>(i,a'.eval x)).toList,a'.tmps.size,a'.defers))=K (K cells,m,[]))
 (c:(l.drop n).map (λo=>(o.guard,o.op,o.dst))=[(M,.buildSlice t len parts,K s),(M,.assign (.tmp s),K p)])
 (B:s<m) (y:p<m)
 (D:P.underlying t=K (.slice e)) (v:P.info? e=K b) (E:b.zero=K z) (C:¬len*b.size>2 ^ 24) (A:¬len*b.size=0)
 (h:∀a',a'.tmps.getD p undef=Z w len len->a'.defers=[]->Q .normal a' (Ac w (Ak cells e))):wpList P I Q l a w:=by
 rw[<-n9 n l];obtain⟨a',r,d⟩:=m6.1 u;simp only[Prod.mk.injEq]at d;refine Gi (a':=a') _ ?_ _ _ r;generalize l.drop n=F at c;rcases F with _|⟨o,_|⟨O,_|⟨R,N⟩⟩⟩
 . cases c
 . simp at c
 . simp only[nQ,List.map_nil,oN,Prod.mk.injEq,nU]at c;obtain⟨⟨j,G,g⟩,k,H,f⟩:=c;refine wpList_buildSlice j t e len parts G cells b z D v E C A d.1 ?_;rw[g];(refine wpList_plain k λL q=> ?_);unfold Oper.wp execOp;simp only[H,Sem.run_pure];refine q _ _ (wpList_nil (h _ ?_ ?_))
   . simp[Act.put,Act.eval,y,B,d.2.1,f]
   simp[Act.put,d.2.2,f]
 simp at c
def Rp:Array J:=#[.string ⟨#[]⟩,Ag Af 0,Ag Af 0,.nilFunc,
 .string ⟨#[]⟩,Ag Af 0,Ag Af 0,.nilFunc,
 .string ⟨#[]⟩,Ag Af 0,Ag Af 0,.nilFunc,
 .string ⟨#[]⟩,Ag Af 0,Ag Af 0,.nilFunc,
 .string ⟨#[]⟩,Ag Af 0,Ag Af 0,.nilFunc,
 .string ⟨#[]⟩,Ag Af 0,Ag Af 0,.nilFunc,
 .string ⟨#[]⟩,Ag Af 0,Ag Af 0,.nilFunc,
 .string ⟨#[]⟩,Ag Af 0,Ag Af 0,.nilFunc,
 .string ⟨#[]⟩,Ag Af 0,Ag Af 0,.nilFunc,
 .string ⟨#[]⟩,Ag Af 0,Ag Af 0,.nilFunc,
 .string ⟨#[]⟩,Ag Af 0,Ag Af 0,.nilFunc,
 .string ⟨#[]⟩,Ag Af 0,Ag Af 0,.nilFunc,
 .string ⟨#[]⟩,Ag Af 0,Ag Af 0,.nilFunc,
 .string ⟨#[]⟩,Ag Af 0,Ag Af 0,.nilFunc,
 .string ⟨#[]⟩,Ag Af 0,Ag Af 0,.nilFunc,
 .string ⟨#[]⟩,Ag Af 0,Ag Af 0,.nilFunc,
 .string ⟨#[]⟩,Ag Af 0,Ag Af 0,.nilFunc,
 .string ⟨#[]⟩,Ag Af 0,Ag Af 0,.nilFunc,
 .string ⟨#[]⟩,Ag Af 0,Ag Af 0,.nilFunc,
 .string ⟨#[]⟩,Ag Af 0,Ag Af 0,.nilFunc,
 .string ⟨#[]⟩,Ag Af 0,Ag Af 0,.nilFunc,
 .string ⟨#[]⟩,Ag Af 0,Ag Af 0,.nilFunc,
 .string ⟨#[]⟩,Ag Af 0,Ag Af 0,.nilFunc,
 .string ⟨#[]⟩,Ag Af 0,Ag Af 0,.nilFunc,
 .string ⟨#[]⟩,Ag Af 0,Ag Af 0,.nilFunc,
 .string ⟨#[]⟩,Ag Af 0,Ag Af 0,.nilFunc,
 .string ⟨#[]⟩,Ag Af 0,Ag Af 0,.nilFunc,
 .string ⟨#[]⟩,Ag Af 0,Ag Af 0,.nilFunc,
 .string ⟨#[]⟩,Ag Af 0,Ag Af 0,.nilFunc,
 .string ⟨#[]⟩,Ag Af 0,Ag Af 0,.nilFunc]
def Gc:Array J:=#[.string ⟨#[110,111,112]⟩,Ag Af 1,Ag Af 0,.nilFunc,
 .string ⟨#[99,111,110,115,116]⟩,Ag Af 1,Ag Af 1,.nilFunc,
 .string ⟨#[108,111,97,100,108,111,99,97,108]⟩,Ag Af 1,Ag Af 2,.nilFunc,
 .string ⟨#[115,116,111,114,101,108,111,99,97,108]⟩,Ag Af 1,Ag Af 2,.nilFunc,
 .string ⟨#[108,111,97,100]⟩,Ag Af 2,Ag Af 3,.nilFunc,
 .string ⟨#[115,116,111,114,101]⟩,Ag Af 2,Ag Af 3,.nilFunc,
 .string ⟨#[108,111,97,100,97,116]⟩,Ag Af 3,Ag Af 4,.nilFunc,
 .string ⟨#[115,116,111,114,101,97,116]⟩,Ag Af 3,Ag Af 4,.nilFunc,
 .string ⟨#[97,100,100]⟩,Ag Af 1,Ag Af 5,.func (.func 193) #[] #[],
 .string ⟨#[115,117,98]⟩,Ag Af 1,Ag Af 5,.func (.func 194) #[] #[],
 .string ⟨#[109,117,108]⟩,Ag Af 3,Ag Af 5,.func (.func 195) #[] #[],
 .string ⟨#[100,105,118]⟩,Ag Af 8,Ag Af 5,.func (.func 196) #[] #[],
 .string ⟨#[109,111,100]⟩,Ag Af 8,Ag Af 5,.func (.func 197) #[] #[],
 .string ⟨#[97,110,100]⟩,Ag Af 1,Ag Af 6,.func (.func 198) #[] #[],
 .string ⟨#[111,114]⟩,Ag Af 1,Ag Af 6,.func (.func 199) #[] #[],
 .string ⟨#[120,111,114]⟩,Ag Af 1,Ag Af 6,.func (.func 200) #[] #[],
 .string ⟨#[110,111,116]⟩,Ag Af 1,Ag Af 6,.func (.func 201) #[] #[],
 .string ⟨#[115,104,108]⟩,Ag Af 1,Ag Af 0,.func (.func 202) #[] #[],
 .string ⟨#[115,104,114]⟩,Ag Af 1,Ag Af 0,.func (.func 203) #[] #[],
 .string ⟨#[110,101,103]⟩,Ag Af 1,Ag Af 0,.func (.func 204) #[] #[],
 .string ⟨#[101,113]⟩,Ag Af 1,Ag Af 7,.func (.func 205) #[] #[],
 .string ⟨#[108,101,115,115]⟩,Ag Af 1,Ag Af 5,.func (.func 206) #[] #[],
 .string ⟨#[99,111,110,118]⟩,Ag Af 1,Ag Af 8,.nilFunc,
 .string ⟨#[100,117,112]⟩,Ag Af 1,Ag Af 0,.nilFunc,
 .string ⟨#[100,114,111,112]⟩,Ag Af 1,Ag Af 0,.nilFunc,
 .string ⟨#[106,117,109,112]⟩,Ag Af 2,Ag Af 9,.nilFunc,
 .string ⟨#[106,117,109,112,122,101,114,111]⟩,Ag Af 2,Ag Af 9,.nilFunc,
 .string ⟨#[103,117,97,114,100]⟩,Ag Af 2,Ag Af 10,.nilFunc,
 .string ⟨#[99,97,108,108]⟩,Ag Af 4,Ag Af 11,.nilFunc,
 .string ⟨#[114,101,116,117,114,110]⟩,Ag Af 2,Ag Af 0,.nilFunc]
theorem Uu(w:Y):(zeroValue 248).run Ap w=.ok (Am Rp) w:=kR
theorem So(w:Y):Ai Ap 177 #[] w λe c=>e=Al (Am Gc)/\Ah w w c:=by have d:=Uu;go_enter func177,ntmps177;go_wp2_with (show wpList _ _ _ ({dst:=K 1,op:=Op.build _ _,type:=_,pos:=_,after:=_,guard:=_}::_) _ _;refine Pp 61 248 248 (.tmp 0) (.tmp 61) w Gc Rp 0 kR rfl (oz _ _) kR kR kR ?_;intro a' b a);rw[World.setRow_alloc_new];exact lO (v:=Am Gc) (results_cell_row results177 _ _ w 248 Gc (0,0) _ b (oz _ _) underlying248 rfl kR) a ⟨rfl,(lu _ _).alloc lR _⟩
def CJ(k:Nat):Array J:=Gc.extract (4*k) (4*k+4)
theorem R4(k:Nat)(a:k<30)(w:Y):(Instr.index 248 (Am Gc) k).run Ap w=.ok (Am (CJ k)) w:=by
 have h:k=0\/k=1\/k=2\/k=3\/k=4\/k=5\/k=6\/k=7\/k=8\/k=9\/k=10\/k=11\/k=12\/k=13\/k=14\/k=15\/k=16\/k=17\/k=18\/k=19\/k=20\/k=21\/k=22\/k=23\/k=24\/k=25\/k=26\/k=27\/k=28\/k=29:=oM
 clear a;rcases h with rfl|rfl|rfl|rfl|rfl|rfl|rfl|rfl|rfl|rfl|rfl|rfl|rfl|rfl|rfl|rfl|rfl|rfl|rfl|rfl|rfl|rfl|rfl|rfl|rfl|rfl|rfl|rfl|rfl|rfl<;>(show Sem.run _ _ _=Result.ok _ _;kernel_rfl)
theorem Nf(k:Nat)(b:k<30):(CJ k).size=4:=by have a:Gc.size=120:=kR;simp[CJ,a];omega
theorem Pa(k:Nat)(d:k<30):(CJ k).all (·.oneCell')=true:=by have a:Gc.all (·.oneCell')=true:=kR;rw[Array.all_eq_true_iff_forall_mem]at a⊢;intro v b;unfold CJ at b;obtain⟨i,c,rfl⟩:=Array.mem_iff_getElem.1 b;rw[Array.getElem_extract];exact a _ (Array.getElem_mem _)
theorem Rq(w:Y):(zeroValue 234).run Ap w=.ok (Am #[.string ⟨#[]⟩,Ag Af 0,Ag Af 0,.nilFunc]) w:=kR
theorem Un(op:Int)(w:Y)(h:op<0\/29<op):Ai Ap 160 #[op] w λe a=>e=Al (Am #[.string ⟨#[]⟩,Ag Af 0,Ag Af 0,.nilFunc])/\Ah w w a:=by
 have d:=Rq;rcases h with h|h
 . go_enter func160,ntmps160;go_wp2;exact lO (v:=Am #[.string ⟨#[]⟩,Ag Af 0,Ag Af 0,.nilFunc]) (by simp[results,results160,go_sem]) rfl ⟨rfl,(lu _ _).alloc lR _⟩
 have b:decide (op<0)=false:=oT;have c:decide (29<op)=true:=oT;go_enter func160,ntmps160;go_wp2;exact lO (v:=Am #[.string ⟨#[]⟩,Ag Af 0,Ag Af 0,.nilFunc]) (by simp[results,results160,go_sem]) rfl ⟨rfl,(lu _ _).alloc lR _⟩
theorem V4(k:Nat)(b:k<30)(w:Y):Ai Ap 160 #[k] w λe h=>e=Al (Am (CJ k))/\Ah w w h:=by
 have n:=Rq;have j:decide ((k:Int)<0)=false:=sP;have l:decide (29<(k:Int))=false:=oT;have m:=R4 k b;have g:=Nf k b;have d:=Pa k b;have a:Ae ((CJ k).size=4/\(CJ k).all (·.oneCell')=true):=⟨g,d⟩
 clear g d;go_enter func160,ntmps160;go_wp2_with (first
  |(go_at_call 177;refine(So _).mono ?_;rintro e i ⟨rfl,c⟩;have f:i.heap[w.heap.size]?=K (Ak #[.string ⟨#[]⟩,Ag Af 0,Ag Af 0,.nilFunc] 234):=(c.block _ sP).trans (oz _ _))
  |(show wpList _ _ _ ({dst:=M,op:=Op.store 234 _ _,type:=_,pos:=_,after:=_,guard:=_}::_) _ _;refine wpList_store_row rfl 234 (.tmp 2) (.tmp 12) rfl w (CJ k) rfl rfl 234 #[.string ⟨#[]⟩,Ag Af 0,Ag Af 0,.nilFunc] f (by rw[a.1];kernel_rfl) (by rw[a.1];rfl) a.2 ?_))
 refine lO (v:=Am (CJ k)) (results_cell_row results160 _ _ w 234 (CJ k) (0,0) _ rfl (setRow_heap _ _ _ _ _ _ f) underlying234 rfl (by rw[a.1];kernel_rfl)) rfl ⟨rfl,?_⟩;exact below_setRow (((lu _ _).alloc lR _).trans (c.mono sP)) lR _
structure MI where
 op:Int
 a:Int
 b:Int
 c:Int
structure MC where
 type:Int
 word:Int
structure MT where
 func:Int
 head:Int
 hQ:Int
 init:Int
def MI.cells(x:MI):List J:=[x.op,x.a,x.b,x.c]
def MC.cells(x:MC):List J:=[x.type,Ag .u32 x.word]
def MT.cells(x:MT):List J:=[x.func,x.head,x.hQ,Ag .u32 x.init]
theorem MI.dr(x:MI):x.cells.length=4:=rfl
theorem MC.dr(x:MC):x.cells.length=2:=rfl
theorem MT.dr(x:MT):x.cells.length=4:=rfl
def As(z:Int):List J:=[z]
theorem Ay(z:Int):(As z).length=1:=rfl
theorem Br:(Tryz.prog.info? 2).map (λi=>(i.zero,i.size,i.bytes))=K (K (Ag Af 0),1,8):=kR
theorem Za:(Tryz.prog.info? 79).map (λi=>(i.zero,i.size,i.bytes))=K (K (Am #[Ag Af 0,Ag Af 0,Ag Af 0,Ag Af 0]),4,32):=kR
theorem Y8:(Tryz.prog.info? 102).map (λi=>(i.zero,i.size,i.bytes))=K (K (Am #[Ag Af 0,Ag .u32 0]),2,16):=kR
theorem Zc:(Tryz.prog.info? 96).map (λi=>(i.zero,i.size,i.bytes))=K (K (Am #[Ag Af 0,Ag Af 0,Ag Af 0,Ag .u32 0]),4,32):=kR
theorem Q0(x:MI)(w:Y):
 Ai Ap 103 #[Am #[Ag Af x.op,Ag Af x.a,Ag Af x.b,Ag Af x.c]] w λe d=>e=Al (Am #[Ag Af x.op,Ag Af x.a,Ag Af x.b,Ag Af x.c])/\Ah w w d:=by
 go_enter func103,ntmps103;go_wp2;exact lO (v:=Am #[Ag Af x.op,Ag Af x.a,Ag Af x.b,Ag Af x.c]) (by simp[results,results103,go_sem]) rfl ⟨rfl,(((lu _ _).alloc lR _).alloc sP _).alloc oT _⟩
theorem QY(x:MC)(w:Y):
 Ai Ap 50 #[Am #[Ag Af x.type,Ag .u32 x.word]] w λe a=>e=Al (Am #[Ag Af x.type,Ag .u32 x.word])/\Ah w w a:=by
 go_enter func50,ntmps50;go_wp2;exact lO (v:=Am #[Ag Af x.type,Ag .u32 x.word]) (by simp[results,results50,go_sem]) rfl ⟨rfl,(((lu _ _).alloc lR _).alloc sP _).alloc oT _⟩
theorem SK(x:MT)(w:Y):
 Ai Ap 52 #[Am #[Ag Af x.func,Ag Af x.head,Ag Af x.hQ,Ag .u32 x.init]] w λe a=>e=Al (Am #[Ag Af x.func,Ag Af x.head,Ag Af x.hQ,Ag .u32 x.init])/\Ah w w a:=by
 go_enter func52,ntmps52;go_wp2;exact lO (v:=Am #[Ag Af x.func,Ag Af x.head,Ag Af x.hQ,Ag .u32 x.init]) (by simp[results,results52,go_sem]) rfl ⟨rfl,(((lu _ _).alloc lR _).alloc sP _).alloc oT _⟩
theorem Pl(s:J)(L:Nat)(b:List Int)(w:Y)(Q:L<=1048576)(h:Rd w 1 s L (Ad As b))(z: ↑b=L):
 Ai Ap 49 #[s] w λe D=>e=Al (Z w L L)/\Ab D w 2 1 (Z w L L) L (Ad As b)/\Ah w w D:=by
 obtain⟨j,E,G,H,I⟩:=mN Br;have l:Ae (Rd w 1 s L (Ad As b)/\ ↑b=L):=⟨h,z⟩
 obtain⟨O,c1,rfl⟩:=h.bW;clear h z;go_enter func49,ntmps49;go_wp2_with (at_make;refine mm _ rfl _ _ 29 rfl w 2 j (Ag Af 0) 1 underlying29 E G H Af Af _ _ L rfl rfl rfl rfl (by rw[I];omega) oX lR ?_;intro N a y);rw[Cc As [Ag Af 0] b L (Ag Af 0) 1 rfl rfl oM]at a;have u:Ah w w N:=(lu _ _).grown y lR (λk p=>by cases p);clear y;go_loopw [4] (λi wr=>∃k:Nat,k<=L/\i=Ag Af k/\Ab wr w 2 1 (Z w L L) L (BG As [Ag Af 0] b k L)/\Ah w w wr) (λi _=>L-(intOf i).toNat)
 case atStart=>exact⟨0,oM,rfl,a,u⟩
 clear a u;obtain⟨k,p,rfl,a,n⟩:=hrel;by_cases B:k<L
 . obtain⟨x,q⟩:∃x,b[k]?=K x:=⟨_,an (by rw[l.2];exact B)⟩;have m:=Ey As [Ag Af 0] b k L x q;rw[CG As [Ag Af 0] b k L B]at a;(have f:(Ad As (b.take k)).length=k*1:=by rw[AE As 1 Ay,mY,l.2,Nat.min_eq_left p]);generalize Ad As (b.take k)=A at a m f;generalize (List.replicate (L-(k+1)) [Ag Af 0]).flatten=R at a m;rcases l.1.2 with⟨P,_⟩|⟨g,o,c,t,v⟩
   . omega
   simp only[lB,mB]at t;obtain⟨rfl,rfl⟩:=t;have j:=Rd.elem Ay v k x q 0 _ rfl;rw[<-n.cell (g8 j)]at j;rw[mO,lJ]at j;have f0:=a.frozenAt k;have r:=a.cellAt k oM;rw[mO]at f;rw[lY oM,f,nM]at r;have d:Ae (Ab wr w 2 1 (Z w L L) L (A++([Ag Af 0]++R))/\ ↑A=k/\BG As [Ag Af 0] b (k+1) L=A++(As x++R)):=⟨a,f,m⟩
   clear a f m v q;simp only[mM,lC]at r;go_wp2;go_roundw;(case rel=>refine⟨k+1,oM,by go_num,?_,n.setCell lR _⟩;have C:=(d.1.stored k x).1;rw[Wc A R _ _ k d.2.1]at C;rw[d.2.2];exact C);case measure=>exact oI
 have F:k=L:=oM;subst F;rw[FE _ _ _ _ l.2]at a;have d:Ae (Ab wr w 2 1 (Z w k k) k (Ad As b)):=a;clear a;go_wp2;go_ret;exact⟨rfl,d,n⟩
def DI:Array J:=#[.string ⟨#[110,111,112]⟩,Ag Af 1,Ag Af 0,
 .string ⟨#[99,111,110,115,116]⟩,Ag Af 1,Ag Af 1,
 .string ⟨#[108,111,97,100,108,111,99,97,108]⟩,Ag Af 1,Ag Af 2,
 .string ⟨#[115,116,111,114,101,108,111,99,97,108]⟩,Ag Af 1,Ag Af 2,
 .string ⟨#[108,111,97,100]⟩,Ag Af 2,Ag Af 3,
 .string ⟨#[115,116,111,114,101]⟩,Ag Af 2,Ag Af 3,
 .string ⟨#[108,111,97,100,97,116]⟩,Ag Af 3,Ag Af 4,
 .string ⟨#[115,116,111,114,101,97,116]⟩,Ag Af 3,Ag Af 4,
 .string ⟨#[97,100,100]⟩,Ag Af 1,Ag Af 5,
 .string ⟨#[115,117,98]⟩,Ag Af 1,Ag Af 5,
 .string ⟨#[109,117,108]⟩,Ag Af 3,Ag Af 5,
 .string ⟨#[100,105,118]⟩,Ag Af 8,Ag Af 5,
 .string ⟨#[109,111,100]⟩,Ag Af 8,Ag Af 5,
 .string ⟨#[97,110,100]⟩,Ag Af 1,Ag Af 6,
 .string ⟨#[111,114]⟩,Ag Af 1,Ag Af 6,
 .string ⟨#[120,111,114]⟩,Ag Af 1,Ag Af 6,
 .string ⟨#[110,111,116]⟩,Ag Af 1,Ag Af 6,
 .string ⟨#[115,104,108]⟩,Ag Af 1,Ag Af 0,
 .string ⟨#[115,104,114]⟩,Ag Af 1,Ag Af 0,
 .string ⟨#[110,101,103]⟩,Ag Af 1,Ag Af 0,
 .string ⟨#[101,113]⟩,Ag Af 1,Ag Af 7,
 .string ⟨#[108,101,115,115]⟩,Ag Af 1,Ag Af 5,
 .string ⟨#[99,111,110,118]⟩,Ag Af 1,Ag Af 8,
 .string ⟨#[100,117,112]⟩,Ag Af 1,Ag Af 0,
 .string ⟨#[100,114,111,112]⟩,Ag Af 1,Ag Af 0,
 .string ⟨#[106,117,109,112]⟩,Ag Af 2,Ag Af 9,
 .string ⟨#[106,117,109,112,122,101,114,111]⟩,Ag Af 2,Ag Af 9,
 .string ⟨#[103,117,97,114,100]⟩,Ag Af 2,Ag Af 10,
 .string ⟨#[99,97,108,108]⟩,Ag Af 4,Ag Af 11,
 .string ⟨#[114,101,116,117,114,110]⟩,Ag Af 2,Ag Af 0]
theorem Qn(w:Y):Ai Ap 98 #[] w λe c=>e=Al (Z w 30 30)/\c=Ac w (Ak DI 125):=by go_enter func98,ntmps98;go_wp2_with (show wpList _ _ _ ({dst:=K 1,op:=Op.build _ _,type:=_,pos:=_,after:=_,guard:=_}::_) _ _;refine JN 30 175 125 30 #[(0,.tmp 1),(1,.tmp 2),(2,.tmp 3),(3,.tmp 4),(4,.tmp 5),(5,.tmp 6),(6,.tmp 7),(7,.tmp 8),(8,.tmp 9),(9,.tmp 10),(10,.tmp 11),(11,.tmp 12),(12,.tmp 13),(13,.tmp 14),(14,.tmp 15),(15,.tmp 16),(16,.tmp 17),(17,.tmp 18),(18,.tmp 19),(19,.tmp 20),(20,.tmp 21),(21,.tmp 22),(22,.tmp 23),(23,.tmp 24),(24,.tmp 25),(25,.tmp 26),(26,.tmp 27),(27,.tmp 28),(28,.tmp 29),(29,.tmp 30)] 31 0 32 DI ((Tryz.prog.info? 125).getD default) (Am #[.string ⟨#[]⟩,Ag Af 0,Ag Af 0]) kR rfl dC dC underlying175 kR kR (o8 kR) (o8 kR) ?_;intro a' b a);refine lO (v:=Z w 30 30) ?_ a ⟨rfl,rfl⟩;rw[<-b];exact results_tmp results98 _ _ _
def Ca(k:Nat):List J:=(DI.extract (3*k) (3*k+3)).toList
theorem LS(k:Nat)(b:k<30):(Ca k).length=3:=by have a:DI.size=90:=kR;simp[Ca,a];omega
theorem Qk(k:Nat)(d:k<30):(Ca k).toArray.all (·.oneCell')=true:=by have a:DI.all (·.oneCell')=true:=kR;rw[Array.all_eq_true_iff_forall_mem]at a⊢;intro v b;simp only[Ca,Array.toArray_toList]at b;obtain⟨i,c,rfl⟩:=Array.mem_iff_getElem.1 b;rw[Array.getElem_extract];exact a _ (Array.getElem_mem _)
theorem M2(w:Y)(b k:Nat)(d:k<30)(h:w.heap[b]?=K (Ak DI 125)):w.rangeAt b (k*3) (Ca k):=by
 intro j v a;have c:DI.size=90:=kR;rw[o6 w b _ DI _ _ h];simp only[Ca,Array.getElem?_toList]at a;rw[Array.getElem?_extract]at a;split at a
 . rw[<-a,Nat.mul_comm]
 cases a
theorem Km(w:Y):(zeroValue 125).run Ap w=.ok (Am #[.string ⟨#[]⟩,Ag Af 0,Ag Af 0]) w:=kR
theorem TC(op:Int)(w:Y)(h:op<0\/29<op):Ai Ap 62 #[op] w λe a=>e=Al (Am #[.string ⟨#[]⟩,Ag Af 0,Ag Af 0])/\Ah w w a:=by
 have d:=Km;rcases h with h|h
 . go_enter func62,ntmps62;go_wp2;exact lO (v:=Am #[.string ⟨#[]⟩,Ag Af 0,Ag Af 0]) (by simp[results,results62,go_sem]) rfl ⟨rfl,(lu _ _).alloc lR _⟩
 have b:decide (op<0)=false:=oT;have c:decide (29<op)=true:=oT;go_enter func62,ntmps62;go_wp2;exact lO (v:=Am #[.string ⟨#[]⟩,Ag Af 0,Ag Af 0]) (by simp[results,results62,go_sem]) rfl ⟨rfl,(lu _ _).alloc lR _⟩
theorem UJ(k:Nat)(b:k<30)(w:Y):Ai Ap 62 #[k] w λe c=>e=Al (Am (Ca k).toArray)/\Ah w w c:=by
 have g:=Km;have d:decide ((k:Int)<0)=false:=sP;have f:decide (29<(k:Int))=false:=oT;have a:Ae ((Ca k).length=3/\(Ca k).toArray.all (·.oneCell')=true):=⟨LS k b,Qk k b⟩
 go_enter func62,ntmps62;go_wp2_with (first
  |(go_at_call 98;refine(Qn _).mono ?_;rintro e h ⟨rfl,rfl⟩)
  |(show wpList _ _ _ ({dst:=K 13,op:=Op.load 125 _,type:=_,pos:=_,after:=_,guard:=_}::_) _ _;refine wpList_load_mid rfl 125 (.tmp 12) rfl ((w:Nat)+1) (k*3) rfl (Ca k) _ (M2 _ _ _ b (heap_alloc2_new _ _ _)) underlying125 rfl (by rw[a.1];kernel_rfl) ?_)
  |(show wpList _ _ _ ({dst:=M,op:=Op.store 125 _ _,type:=_,pos:=_,after:=_,guard:=_}::_) _ _;refine wpList_store_row rfl 125 (.tmp 2) (.tmp 13) rfl w (Ca k).toArray rfl rfl 125 #[.string ⟨#[]⟩,Ag Af 0,Ag Af 0] (heap_alloc2_old _ _ _) (by rw[List.size_toArray,a.1];kernel_rfl) (by show 3=(Ca k).length;rw[a.1]) a.2 ?_))
 refine lO (v:=Am (Ca k).toArray) (results_cell_row results62 _ _ w 125 (Ca k).toArray (0,0) _ rfl (setRow_heap _ _ _ _ _ _ (heap_alloc2_old _ _ _)) underlying125 rfl (by rw[List.size_toArray,a.1];kernel_rfl)) rfl ⟨rfl,?_⟩;exact below_setRow (((lu _ _).alloc lR _).alloc sP _) lR _
theorem Pj(s:J)(L:Nat)(f:List MI)(w:Y)(hL:L<=1048576)(h:Rd w 4 s L (Ad MI.cells f))(P: ↑f=L):
 Ai Ap 82 #[s] w λe T=>e=Al (Z w L L)/\Ab T w 79 4 (Z w L L) L (Ad MI.cells f)/\Ah w w T:=by
 obtain⟨p,U,W,X,ae⟩:=mN Za;have r:Ae (Rd w 4 s L (Ad MI.cells f)/\ ↑f=L):=⟨h,P⟩
 obtain⟨a1,c1,rfl⟩:=h.bW;clear h P;go_enter func82,ntmps82;go_wp2_with (at_make;refine mm _ rfl _ _ 74 rfl w 79 p (Am #[Ag Af 0,Ag Af 0,Ag Af 0,Ag Af 0]) 4 underlying74 U W X Af Af _ _ L rfl rfl rfl rfl (by rw[ae];omega) oX lR ?_;intro w1 d O);rw[Cc MI.cells [Ag Af 0,Ag Af 0,Ag Af 0,Ag Af 0] f L (Am #[Ag Af 0,Ag Af 0,Ag Af 0,Ag Af 0]) 4 rfl rfl oM]at d;have N:Ah w w w1:=(lu _ _).grown O lR (λk D=>by cases D);clear O;go_loopw [4] (λi wr=>∃k:Nat,k<=L/\i=Ag Af k/\Ab wr w 79 4 (Z w L L) L (BG MI.cells [Ag Af 0,Ag Af 0,Ag Af 0,Ag Af 0] f k L)/\Ah w w wr) (λi _=>L-(intOf i).toNat)
 case atStart=>exact⟨0,oM,rfl,d,N⟩
 clear d N;obtain⟨k,D,rfl,d,j⟩:=hrel;by_cases Q:k<L
 . obtain⟨x,n⟩:∃x,f[k]?=K x:=⟨_,an (by rw[r.2];exact Q)⟩;have t:=Ey MI.cells [Ag Af 0,Ag Af 0,Ag Af 0,Ag Af 0] f k L x n;rw[CG MI.cells [Ag Af 0,Ag Af 0,Ag Af 0,Ag Af 0] f k L Q]at d;(have m:(Ad MI.cells (f.take k)).length=k*4:=by rw[AE MI.cells 4 MI.dr,mY,r.2,Nat.min_eq_left D]);generalize Ad MI.cells (f.take k)=A at d t m;generalize (List.replicate (L-(k+1)) ([Ag Af 0,Ag Af 0,Ag Af 0,Ag Af 0]:List J)).flatten=R at d t;rcases r.1.2 with⟨e0,_⟩|⟨g,o,c,I,q⟩
   . omega
   simp only[lB,mB]at I;obtain⟨rfl,rfl⟩:=I;have p:=Rd.elem MI.dr q k x n 0 _ rfl;have E:=Rd.elem MI.dr q k x n 1 _ rfl;have F:=Rd.elem MI.dr q k x n 2 _ rfl;have G:=Rd.elem MI.dr q k x n 3 _ rfl;rw[<-j.cell (g8 p)]at p;rw[<-j.cell (g8 E)]at E;rw[<-j.cell (g8 F)]at F;rw[<-j.cell (g8 G)]at G;rw[lJ]at p;have l:Ae (Ab wr w 79 4 (Z w L L) L (A++([Ag Af 0,Ag Af 0,Ag Af 0,Ag Af 0]++R))/\ ↑A=k*4/\BG MI.cells [Ag Af 0,Ag Af 0,Ag Af 0,Ag Af 0] f (k+1) L=A++(MI.cells x++R)):=⟨d,m,t⟩
   clear d m t q n;go_wp2_with fail;refine(Q0 x wr).mono ?_;rintro e u ⟨rfl,C⟩;have d:=Aw l.1 C lR;have m:=l.2.1;have f0:=d.frozenAt (k*4);have f1:=d.frozenAt (k*4+1);have f2:=d.frozenAt (k*4+2);have f3:=d.frozenAt (k*4+3);have v:=d.cellAt (k*4) oM;have y:=d.cellAt (k*4+1) oM;have z:=d.cellAt (k*4+2) oM;have B:=d.cellAt (k*4+3) oM;rw[lY oM,m]at v y z B;rw[nM]at v;rw[nA]at y z B;simp only[mM,lC,lF]at v y z B;have H:Ae (Ah w w u/\Ab u w 79 4 (Z w L L) L (A++([Ag Af 0,Ag Af 0,Ag Af 0,Ag Af 0]++R))):=⟨j.trans (C.mono j.size),d⟩
   clear d m C j p E F G;go_wp2;go_roundw;(case rel=>refine⟨k+1,oM,by go_num,?_,(((H.1.setCell lR _).setCell lR _).setCell lR _).setCell lR _⟩;have s0:=(H.2.stored (k*4) (Ag Af x.op)).1;have s1:=(s0.stored (k*4+1) (Ag Af x.a)).1;have s2:=(s1.stored (k*4+2) (Ag Af x.b)).1;have S:=(s2.stored (k*4+3) (Ag Af x.c)).1;rw[Yu A R _ _ _ _ _ _ _ _ (k*4) l.2.1]at S;rw[l.2.2];exact S);case measure=>exact oI
 have V:k=L:=oM;subst V;rw[FE _ _ _ _ r.2]at d;have l:Ae (Ab wr w 79 4 (Z w k k) k (Ad MI.cells f)):=d;clear d;go_wp2;go_ret;exact⟨rfl,l,j⟩
theorem QW(s:J)(L:Nat)(b:List MT)(w:Y)(hL:L<=1048576)(h:Rd w 4 s L (Ad MT.cells b))(N: ↑b=L):
 Ai Ap 23 #[s] w λe Q=>e=Al (Z w L L)/\Ab Q w 96 4 (Z w L L) L (Ad MT.cells b)/\Ah w w Q:=by
 obtain⟨m,S,U,V,W⟩:=mN Zc;have p:Ae (Rd w 4 s L (Ad MT.cells b)/\ ↑b=L):=⟨h,N⟩
 obtain⟨a1,c1,rfl⟩:=h.bW;clear h N;go_enter func23,ntmps23;go_wp2_with (at_make;refine mm _ rfl _ _ 35 rfl w 96 m (Am #[Ag Af 0,Ag Af 0,Ag Af 0,Ag .u32 0]) 4 underlying35 S U V Af Af _ _ L rfl rfl rfl rfl (by rw[W];omega) oX lR ?_;intro w1 a I);rw[Cc MT.cells [Ag Af 0,Ag Af 0,Ag Af 0,Ag .u32 0] b L (Am #[Ag Af 0,Ag Af 0,Ag Af 0,Ag .u32 0]) 4 rfl rfl oM]at a;have H:Ah w w w1:=(lu _ _).grown I lR (λk B=>by cases B);clear I;go_loopw [4] (λi wr=>∃k:Nat,k<=L/\i=Ag Af k/\Ab wr w 96 4 (Z w L L) L (BG MT.cells [Ag Af 0,Ag Af 0,Ag Af 0,Ag .u32 0] b k L)/\Ah w w wr) (λi _=>L-(intOf i).toNat)
 case atStart=>exact⟨0,oM,rfl,a,H⟩
 clear a H;obtain⟨k,B,rfl,a,d⟩:=hrel;by_cases O:k<L
 . obtain⟨x,l⟩:∃x,b[k]?=K x:=⟨_,an (by rw[p.2];exact O)⟩;have q:=Ey MT.cells [Ag Af 0,Ag Af 0,Ag Af 0,Ag .u32 0] b k L x l;rw[CG MT.cells [Ag Af 0,Ag Af 0,Ag Af 0,Ag .u32 0] b k L O]at a;(have j:(Ad MT.cells (b.take k)).length=k*4:=by rw[AE MT.cells 4 MT.dr,mY,p.2,Nat.min_eq_left B]);generalize Ad MT.cells (b.take k)=A at a q j;generalize (List.replicate (L-(k+1)) ([Ag Af 0,Ag Af 0,Ag Af 0,Ag .u32 0]:List J)).flatten=R at a q;rcases p.1.2 with⟨e0,_⟩|⟨g,o,c,G,n⟩
   . omega
   simp only[lB,mB]at G;obtain⟨rfl,rfl⟩:=G;have m:=Rd.elem MT.dr n k x l 0 _ rfl;have C:=Rd.elem MT.dr n k x l 1 _ rfl;have D:=Rd.elem MT.dr n k x l 2 _ rfl;have E:=Rd.elem MT.dr n k x l 3 _ rfl;rw[<-d.cell (g8 m)]at m;rw[<-d.cell (g8 C)]at C;rw[<-d.cell (g8 D)]at D;rw[<-d.cell (g8 E)]at E;rw[lJ]at m;have f:Ae (Ab wr w 96 4 (Z w L L) L (A++([Ag Af 0,Ag Af 0,Ag Af 0,Ag .u32 0]++R))/\ ↑A=k*4/\BG MT.cells [Ag Af 0,Ag Af 0,Ag Af 0,Ag .u32 0] b (k+1) L=A++(MT.cells x++R)):=⟨a,j,q⟩
   clear a j q n l;go_wp2_with fail;refine(SK x wr).mono ?_;rintro e u ⟨rfl,z⟩;have a:=Aw f.1 z lR;have j:=f.2.1;have f0:=a.frozenAt (k*4);have f1:=a.frozenAt (k*4+1);have f2:=a.frozenAt (k*4+2);have f3:=a.frozenAt (k*4+3);have r:=a.cellAt (k*4) oM;have t:=a.cellAt (k*4+1) oM;have v:=a.cellAt (k*4+2) oM;have y:=a.cellAt (k*4+3) oM;rw[lY oM,j]at r t v y;rw[nM]at r;rw[nA]at t v y;simp only[mM,lC,lF]at r t v y;have F:Ae (Ah w w u/\Ab u w 96 4 (Z w L L) L (A++([Ag Af 0,Ag Af 0,Ag Af 0,Ag .u32 0]++R))):=⟨d.trans (z.mono d.size),a⟩
   clear a j z d m C D E;go_wp2;go_roundw;(case rel=>refine⟨k+1,oM,by go_num,?_,(((F.1.setCell lR _).setCell lR _).setCell lR _).setCell lR _⟩;have X:=(F.2.stored (k*4) (Ag Af x.func)).1;have s1:=(X.stored (k*4+1) (Ag Af x.head)).1;have s2:=(s1.stored (k*4+2) (Ag Af x.hQ)).1;have P:=(s2.stored (k*4+3) (Ag .u32 x.init)).1;rw[Yu A R _ _ _ _ _ _ _ _ (k*4) f.2.1]at P;rw[f.2.2];exact P);case measure=>exact oI
 have T:k=L:=oM;subst T;rw[FE _ _ _ _ p.2]at a;have f:Ae (Ab wr w 96 4 (Z w k k) k (Ad MT.cells b)):=a;clear a;go_wp2;go_ret;exact⟨rfl,f,d⟩
theorem Ph(s:J)(L:Nat)(b:List MC)(w:Y)(X:L<=1048576)(h:Rd w 2 s L (Ad MC.cells b))(F: ↑b=L):
 Ai Ap 21 #[s] w λe I=>e=Al (Z w L L)/\Ab I w 102 2 (Z w L L) L (Ad MC.cells b)/\Ah w w I:=by
 obtain⟨l,N,P,Q,S⟩:=mN Y8;have m:Ae (Rd w 2 s L (Ad MC.cells b)/\ ↑b=L):=⟨h,F⟩
 obtain⟨V,c1,rfl⟩:=h.bW;clear h F;go_enter func21,ntmps21;go_wp2_with (at_make;refine mm _ rfl _ _ 33 rfl w 102 l (Am #[Ag Af 0,Ag .u32 0]) 2 underlying33 N P Q Af Af _ _ L rfl rfl rfl rfl (by rw[S];omega) oX lR ?_;intro U a E);rw[Cc MC.cells [Ag Af 0,Ag .u32 0] b L (Am #[Ag Af 0,Ag .u32 0]) 2 rfl rfl oM]at a;have D:Ah w w U:=(lu _ _).grown E lR (λk y=>by cases y);clear E;go_loopw [4] (λi wr=>∃k:Nat,k<=L/\i=Ag Af k/\Ab wr w 102 2 (Z w L L) L (BG MC.cells [Ag Af 0,Ag .u32 0] b k L)/\Ah w w wr) (λi _=>L-(intOf i).toNat)
 case atStart=>exact⟨0,oM,rfl,a,D⟩
 clear a D;obtain⟨k,y,rfl,a,j⟩:=hrel;by_cases G:k<L
 . obtain⟨x,p⟩:∃x,b[k]?=K x:=⟨_,an (by rw[m.2];exact G)⟩;have n:=Ey MC.cells [Ag Af 0,Ag .u32 0] b k L x p;rw[CG MC.cells [Ag Af 0,Ag .u32 0] b k L G]at a;(have f:(Ad MC.cells (b.take k)).length=k*2:=by rw[AE MC.cells 2 MC.dr,mY,m.2,Nat.min_eq_left y]);generalize Ad MC.cells (b.take k)=A at a n f;generalize (List.replicate (L-(k+1)) [Ag Af 0,Ag .u32 0]).flatten=R at a n;rcases m.1.2 with⟨W,_⟩|⟨g,o,c,C,v⟩
   . omega
   simp only[lB,mB]at C;obtain⟨rfl,rfl⟩:=C;have l:=Rd.elem MC.dr v k x p 0 _ rfl;have z:=Rd.elem MC.dr v k x p 1 _ rfl;rw[<-j.cell (g8 l)]at l;rw[<-j.cell (g8 z)]at z;rw[lJ]at l;have d:Ae (Ab wr w 102 2 (Z w L L) L (A++([Ag Af 0,Ag .u32 0]++R))/\ ↑A=k*2/\BG MC.cells [Ag Af 0,Ag .u32 0] b (k+1) L=A++(MC.cells x++R)):=⟨a,f,n⟩
   clear a f n v p;go_wp2_with fail;refine(QY x wr).mono ?_;rintro e u ⟨rfl,t⟩;have a:=Aw d.1 t lR;have f:=d.2.1;have f0:=a.frozenAt (k*2);have f1:=a.frozenAt (k*2+1);have q:=a.cellAt (k*2) oM;have r:=a.cellAt (k*2+1) oM;rw[lY oM,f]at q r;rw[nM]at q;rw[nA]at r;simp only[mM,lC,lF]at q r;have B:Ae (Ah w w u/\Ab u w 102 2 (Z w L L) L (A++([Ag Af 0,Ag .u32 0]++R))):=⟨j.trans (t.mono j.size),a⟩
   clear a f t j l z;go_wp2;go_roundw;(case rel=>refine⟨k+1,oM,by go_num,?_,(B.1.setCell lR _).setCell lR _⟩;have T:=(B.2.stored (k*2) x.type).1;have H:=(T.stored (k*2+1) (Ag .u32 x.word)).1;rw[ZF A R _ _ _ _ (k*2) d.2.1]at H;rw[d.2.2];exact H);case measure=>exact oI
 have O:k=L:=oM;subst O;rw[FE _ _ _ _ m.2]at a;have d:Ae (Ab wr w 102 2 (Z w k k) k (Ad MC.cells b)):=a;clear a;go_wp2;go_ret;exact⟨rfl,d,j⟩
def Cx(op:Int):Array J:=if 0<=op/\op<=29 then(Ca op.toNat).toArray else #[.string ⟨#[]⟩,Ag Af 0,Ag Af 0]
theorem ND(k:Nat)(a:k<30):Cx (k:Int)=(Ca k).toArray:=by unfold Cx;rw[lZ oM];rfl
theorem LR{op:Int}(h:op<0\/29<op):Cx op=#[.string ⟨#[]⟩,Ag Af 0,Ag Af 0]:=by unfold Cx;rw[lS oM]
theorem JA(k:Nat)(a:k<30):∃(s:ByteArray) (c f:Int),(Ca k).toArray=#[.string s,Ag Af c,Ag Af f]:=by
 have h:k=0\/k=1\/k=2\/k=3\/k=4\/k=5\/k=6\/k=7\/k=8\/k=9\/k=10\/k=11\/k=12\/k=13\/k=14\/k=15\/k=16\/k=17\/k=18\/k=19\/k=20\/k=21\/k=22\/k=23\/k=24\/k=25\/k=26\/k=27\/k=28\/k=29:=oM
 clear a;rcases h with rfl|rfl|rfl|rfl|rfl|rfl|rfl|rfl|rfl|rfl|rfl|rfl|rfl|rfl|rfl|rfl|rfl|rfl|rfl|rfl|rfl|rfl|rfl|rfl|rfl|rfl|rfl|rfl|rfl|rfl<;>exact⟨_,_,_,rfl⟩
theorem Qj(op:Int):∃(s:ByteArray) (c f:Int),Cx op=#[.string s,Ag Af c,Ag Af f]:=by
 by_cases h:0<=op/\op<=29
 . unfold Cx;rw[lZ h];exact JA _ oM
 unfold Cx;rw[lS h];exact⟨_,_,_,rfl⟩
theorem Cu(op:Int)(w:Y):Ai Ap 62 #[op] w λe a=>e=Al (Am (Cx op))/\Ah w w a:=by
 by_cases h:op<0\/29<op
 . rw[LR h];exact TC op w h
 obtain⟨k,rfl⟩:=mA (show 0<=op from oM);rw[ND k oM];exact UJ k oM w
theorem RT(k:Nat)(a:k<30)(w:Y):(Instr.field 234 (Am (CJ k)) 0).run Ap w=.ok (Am (Ca k).toArray) w:=by
 have h:k=0\/k=1\/k=2\/k=3\/k=4\/k=5\/k=6\/k=7\/k=8\/k=9\/k=10\/k=11\/k=12\/k=13\/k=14\/k=15\/k=16\/k=17\/k=18\/k=19\/k=20\/k=21\/k=22\/k=23\/k=24\/k=25\/k=26\/k=27\/k=28\/k=29:=oM
 clear a;rcases h with rfl|rfl|rfl|rfl|rfl|rfl|rfl|rfl|rfl|rfl|rfl|rfl|rfl|rfl|rfl|rfl|rfl|rfl|rfl|rfl|rfl|rfl|rfl|rfl|rfl|rfl|rfl|rfl|rfl|rfl<;>(show Sem.run _ _ _=Result.ok _ _;kernel_rfl)
theorem RU(w:Y):(Instr.field 234 (Am #[.string ⟨#[]⟩,Ag Af 0,Ag Af 0,.nilFunc]) 0).run Ap w=.ok (Am #[.string ⟨#[]⟩,Ag Af 0,Ag Af 0]) w:=kR
theorem ST(op:Int)(row:J)(s:ByteArray)(c f:Int)(k:Cx op=#[.string s,Ag Af c,Ag Af f])
 (a:∀w,Ai Ap 160 #[op] w λe d=>e=Al row/\Ah w.heap.size w d)
 (l:∀w,(Instr.field 234 row 0).run Ap w=.ok (Am #[.string s,c,f]) w) (w:Y):
 Ai Ap 130 #[op] w λe d=>e=Al (Am (Cx op))/\Ah w.heap.size w d:=by
 have m:=Km;rw[k];clear k;have H:Ae (∀w,Ai Ap 160 #[op] w λe d=>e=Al row/\Ah w w d):=a
 clear a;go_enter func130,ntmps130;go_wp2_with (go_at_call 160;refine(H.o _).mono ?_;rintro e b ⟨rfl,g⟩;have a:b.heap[w.heap.size]?=K (Ak #[.string ⟨#[]⟩,Ag Af 0,Ag Af 0] 125):=(g.block _ sP).trans (oz _ _);have h:=o6 b _ 0 _ _ _ a;have i:=o6 b _ 1 _ _ _ a;have j:=o6 b _ 2 _ _ _ a;have n:=frozen_of_row b _ 0 _ _ a;have p:=frozen_of_row b _ 1 _ _ a;have q:=frozen_of_row b _ 2 _ _ a;simp at h i j);refine lO (v:=Am #[.string s,c,f]) (by simp[results,results130,go_sem,h,i,j]) rfl ⟨rfl,?_⟩;exact((((((lu _ _).alloc lR _).trans (g.mono sP)).setCell sP _).setCell sP _).setCell sP _)
theorem PB(op:Int)(w:Y):Ai Ap 130 #[Ag Af op] w λe b=>e=Al (Am (Cx op))/\Ah w w b:=by
 by_cases h:op<0\/29<op
 . exact ST op _ _ _ _ (LR h) (λw=>Un op w h) RU w
 obtain⟨k,rfl⟩:=mA (show 0<=op from oM);obtain⟨s,c,f,a⟩:=JA k oM;exact ST _ _ s c f ((ND k oM).trans a) (λw=>V4 k oM w) (λw=>by rw[<-a];exact RT k oM w) w
structure MF where
 gU:List Int
 gV:Int
 gW:List Int
 bO:List MI
structure VF where
 p:J
 l:J
 c:J
def DF(w:Y)(v:VF)(f:MF):Prop:=Rd w 1 v.p f.gU (Ad As f.gU)/\Rd w 1 v.l f.gW (Ad As f.gW)/\Rd w 4 v.c f.bO (Ad MI.cells f.bO)
def Iz(w:Y)(base:Nat)(v:VF)(f:MF):Prop:=Ab w base 2 1 v.p f.gU (Ad As f.gU)/\Ab w base 2 1 v.l f.gW (Ad As f.gW)/\Ab w base 79 4 v.c f.bO (Ad MI.cells f.bO)
def MF.small(f:MF):Prop:=f.gU.length<=1048576/\f.gW.length<=1048576/\f.bO.length<=1048576
theorem Iz.rd{base:Nat}{v:VF}{f:MF}(h:Iz w base v f):DF w v f:=⟨Rd.ij h.1,Rd.ij h.2.1,Rd.ij h.2.2⟩
theorem DF.a7{w c:Y}{v:VF}{f:MF}(h:DF w v f)(b:Ah B w c)(a: ↑w<=B):DF c v f:=⟨h.1.a7 b a,h.2.1.a7 b a,h.2.2.a7 b a⟩
theorem Iz.a7{w c:Y}{base:Nat}{v:VF}{f:MF}(h:Iz w base v f)(b:Ah B w c)(a: ↑w<=B):Iz c base v f:=⟨Aw h.1 b a,Aw h.2.1 b a,Aw h.2.2 b a⟩
theorem A9{base a:Nat}{k n:Nat}(h:Ab w base e k s n xs)(d:a<=base):Ab w a e k s n xs:=by
 refine⟨h.1,?_⟩;rcases h.2 with h|⟨g,cap,b,c,f,i,j⟩
 . exact .inl h
 exact .inr ⟨g,cap,b,c,lQ d f,i,j⟩
theorem DR{base:Nat}{g:Nat}{a b c d:J}(h:Ab w base e 4 (Z g 1 1) 1 [a,b,c,d]):
 w g=K a/\w ⟨g,1,M⟩=K b/\w ⟨g,2,M⟩=K c/\w ⟨g,3,M⟩=K d/\w.frozen? g=false/\w.frozen? ⟨g,1,M⟩=false/\w.frozen? ⟨g,2,M⟩=false/\w.frozen? ⟨g,3,M⟩=false:=
 ⟨h.cellAt 0 oM,h.cellAt 1 oM,h.cellAt 2 oM,h.cellAt 3 oM,h.frozenAt 0,h.frozenAt 1,h.frozenAt 2,h.frozenAt 3⟩
structure Fr(w u:Y)(tp tr:Aj)(p r o:List J):Prop where
 par:Ab u w tp 4 (Z w 1 1) 1 p
 ik:Ab u w tr 4 (Z (K ⟨(w:Nat)+1,0,M⟩) 1 1) 1 r
 loc:Ab u w tr 4 (Z (K ⟨(w:Nat)+1+1,0,M⟩) 1 1) 1 o
 ej:Ah w w u
 iB:(w:Nat)+3<= ↑u
theorem Fr.of(w:Y)(a b:Aj)(p r o:Array J)(i:p.size=4)(j:r.size=4)(h:o.size=4):
 Fr w (Ac (Ac (Ac w (Ak p a)) (Ak r b)) (Ak o b)) a b p.toList r.toList o.toList:=by
 have c:Ah w w (Ac w (Ak p a)):=(lu _ _).alloc lR _;have c2:Ah (Ac w (Ak p a)).heap.size (Ac w (Ak p a)) (Ac (Ac w (Ak p a)) (Ak r b)):=(lu _ _).alloc lR _;have c3:Ah (Ac (Ac w (Ak p a)) (Ak r b)).heap.size (Ac (Ac w (Ak p a)) (Ak r b)) (Ac (Ac (Ac w (Ak p a)) (Ak r b)) (Ak o b)):=(lu _ _).alloc lR _;have d:=nT (base:=w) (e:=a) (size:=4) w p 1 lR oX oM;have f:=nT (base:=w) (e:=b) (size:=4) (Ac w (Ak p a)) r 1 sP oX oM;have g:=nT (base:=w) (e:=b) (size:=4) (Ac (Ac w (Ak p a)) (Ak r b)) o 1 (by simp<;>omega) oX oM;refine⟨Aw (Aw d c2 lR) c3 lR,?_,?_,(c.trans (c2.mono sP)).trans (c3.mono (by simp<;>omega)),by simp<;>omega⟩
 . have:=Aw f c3 lR;simpa using this
 simpa using g
theorem Fr.a7{b c:Aj}{p r o:List J}(h:Fr w u b c p r o)(a:Ah u u d):Fr w d b c p r o:=⟨Aw h.par a lR,Aw h.ik a lR,Aw h.loc a lR,h.ej.trans (a.mono (by have:=h.iB;omega)),lQ h.iB a.size⟩
theorem Fr.set{a b:Aj}{p r o:List J}(h:Fr w u a b p r o)(j:Nat)(x:J):Fr w (Aa u ⟨(w:Nat)+1+1,j,M⟩ x) a b p r (o.set j x):=⟨lI h.par (by simp[Value.ownBlock]<;>omega) x,lI h.ik (by simp[Value.ownBlock]) x,(h.loc.stored j x).1,h.ej.setCell (by simp<;>omega) x,by have:=h.iB;simpa using this⟩
theorem Fr.iU{a b:Aj}{p r o:List J}(h:Fr w u a b p r o)(j:Nat)(x:J):Fr w (Aa u ⟨(w:Nat)+1,j,M⟩ x) a b p (r.set j x) o:=⟨lI h.par (by simp[Value.ownBlock]<;>omega) x,(h.ik.stored j x).1,lI h.loc (by simp[Value.ownBlock]) x,h.ej.setCell sP x,by have:=h.iB;simpa using this⟩
theorem Eb{k n:Nat}(h:Ab u ((w:Nat)+3) e k s n xs)(g j:Nat)(a:g< ↑w+3)(x:J):Ab (Aa u ⟨g,j,M⟩ x) ((w:Nat)+3) e k s n xs:=lV h a x
theorem G5(s:J)(b:List Int)(w:Y)(f:b.length<=1048576)(h:Rd w 1 s b (Ad As b)):
 Ai Ap 49 #[s] w λe d=>∃a c,e=Al (Z a b c)/\Ab d w 2 1 (Z a b c) b (Ad As b)/\Ah w w d:=
 (Pl s b b w f h rfl).mono λe d h=>⟨_,_,h.1,h.2.1,h.2.2⟩
theorem Pk(s:J)(b:List MI)(w:Y)(f:b.length<=1048576)(h:Rd w 4 s b (Ad MI.cells b)):
 Ai Ap 82 #[s] w λe d=>∃a c,e=Al (Z a b c)/\Ab d w 79 4 (Z a b c) b (Ad MI.cells b)/\Ah w w d:=
 (Pj s b b w f h rfl).mono λe d h=>⟨_,_,h.1,h.2.1,h.2.2⟩
theorem Pi(s:J)(b:List MC)(w:Y)(f:b.length<=1048576)(h:Rd w 2 s b (Ad MC.cells b)):
 Ai Ap 21 #[s] w λe d=>∃a c,e=Al (Z a b c)/\Ab d w 102 2 (Z a b c) b (Ad MC.cells b)/\Ah w w d:=
 (Ph s b b w f h rfl).mono λe d h=>⟨_,_,h.1,h.2.1,h.2.2⟩
theorem QX(s:J)(b:List MT)(w:Y)(f:b.length<=1048576)(h:Rd w 4 s b (Ad MT.cells b)):
 Ai Ap 23 #[s] w λe d=>∃a c,e=Al (Z a b c)/\Ab d w 96 4 (Z a b c) b (Ad MT.cells b)/\Ah w w d:=
 (QW s b b w f h rfl).mono λe d h=>⟨_,_,h.1,h.2.1,h.2.2⟩
theorem SM(v:VF)(f:MF)(w:Y)(hs:f.small)(h:DF w v f):
 Ai Ap 51 #[Am #[v.p,f.gV,v.l,v.c]] w λe w'=>∃a c1 b c2 d c3,e=Al (Am #[Z a f.gU c1,f.gV,Z b f.gW c2,Z d f.bO c3])/\Iz w' w ⟨Z a f.gU c1,Z b f.gW c2,Z d f.bO c3⟩ f/\Ah w w w':=by
 have H:Ae (DF w v f/\f.small):=⟨h,hs⟩
 clear h hs;have D:=Fr.of w 70 76 #[v.p,f.gV,v.l,v.c] #[Z M 0 0,Ag Af 0,Z M 0 0,Z M 0 0] #[Z M 0 0,Ag Af 0,Z M 0 0,Z M 0 0] rfl rfl rfl;go_enter func51,ntmps51;go_wp2_with fail;refine(G5 v.p f.gU _ H.2.1 (H.1.1.a7 D.ej lR)).mono ?_;rintro e u1 ⟨a,c1,rfl,ae,b1⟩;have W:Ae (Ab u1 ((w:Nat)+3) 2 1 (Z a f.gU c1) f.gU (Ad As f.gU)):=A9 ae D.iB;have E:=D.a7 b1;clear ae b1 D;obtain⟨t,u,x,y,_⟩:=DR E.par;obtain⟨j,m,q,r,A,B,C,z3⟩:=DR E.loc;go_wp2_with fail;have g:=(E.set 0 (Z a f.gU c1)).set 1 f.gV;have X:Ae _:=Eb (w:=w) (Eb (w:=w) W ((w:Nat)+1+1) 0 oM (Z a f.gU c1)) ((w:Nat)+1+1) 1 oM f.gV;clear W E t u x y j m q r A B C z3;simp only[lU,lX]at g;refine(G5 v.l f.gW _ H.2.2.1 (H.1.2.1.a7 g.ej lR)).mono ?_;rintro e u2 ⟨b,c2,rfl,ah,Q⟩;have N:Ae (Ab u2 ((w:Nat)+3) 2 1 (Z a f.gU c1) f.gU (Ad As f.gU)/\Ab u2 ((w:Nat)+3) 2 1 (Z b f.gW c2) f.gW (Ad As f.gW)):=⟨Aw X Q lR,A9 ah g.iB⟩
 have F:=g.a7 Q;clear ah Q g X;obtain⟨t,u,x,y,_⟩:=DR F.par;obtain⟨j,m,q,r,A,B,C,z3⟩:=DR F.loc;go_wp2_with fail;have i:=F.set 2 (Z b f.gW c2);have O:Ae _:=d5 (Eb (w:=w) N.1 ((w:Nat)+1+1) 2 oM (Z b f.gW c2)) (Eb (w:=w) N.2 ((w:Nat)+1+1) 2 oM (Z b f.gW c2));clear N F t u x y j m q r A B C z3;simp only[lU,lX]at i;refine(Pk v.c f.bO _ H.2.2.2 (H.1.2.2.a7 i.ej lR)).mono ?_;rintro e z ⟨d,c3,rfl,aj,I⟩;have P:Ae (Ab z ((w:Nat)+3) 2 1 (Z a f.gU c1) f.gU (Ad As f.gU)/\Ab z ((w:Nat)+3) 2 1 (Z b f.gW c2) f.gW (Ad As f.gW)/\Ab z ((w:Nat)+3) 79 4 (Z d f.bO c3) f.bO (Ad MI.cells f.bO)):=⟨Aw O.1 I lR,Aw O.2 I lR,A9 aj i.iB⟩
 have G:=i.a7 I;clear aj I i O;obtain⟨t,u,x,y,_⟩:=DR G.par;obtain⟨j,m,q,r,A,B,C,z3⟩:=DR G.loc;obtain⟨S,T,U,V,y0,y1,y2,y3⟩:=DR G.ik;go_wp2_with fail;clear t u x y j m q r A B C z3 S T U V y0 y1 y2 y3;have L:=((((G.set 3 (Z d f.bO c3)).iU 0 (Z a f.gU c1)).iU 1 f.gV).iU 2 (Z b f.gW c2)).iU 3 (Z d f.bO c3);simp only[lU,lX]at L;obtain⟨S,T,U,V,_⟩:=DR L.ik;have R:∀{e:Aj} {s:J} {k n:Nat} {xs:List J},Ab z ((w:Nat)+3) e k s n xs->Ab (Aa (Aa (Aa (Aa (Aa z ⟨(w:Nat)+1+1,3,M⟩ (Z d f.bO c3)) ⟨(w:Nat)+1,0,M⟩ (Z a f.gU c1)) ⟨(w:Nat)+1,1,M⟩ f.gV) ⟨(w:Nat)+1,2,M⟩ (Z b f.gW c2)) ⟨(w:Nat)+1,3,M⟩ (Z d f.bO c3)) w e k s n xs:= λh=>
  A9 (Eb (Eb (Eb (Eb (Eb h _ _ oM _) _ _ oM _) _ _ oM _) _ _ oM _) _ _ oM _) oM
 exact lO (v:=Am #[Z a f.gU c1,f.gV,Z b f.gW c2,Z d f.bO c3]) (by simp[results,results51,go_sem,S,T,U,V]) rfl ⟨a,c1,b,c2,d,c3,rfl,⟨R P.1,R P.2.1,R P.2.2⟩,L.ej⟩
def BR(x:MF×VF):List J:=[x.2.p,x.1.gV,x.2.l,x.2.c]
theorem Az(x:MF×VF):(BR x).length=4:=rfl
def BH(x:List Int×J):List J:=[x.2]
theorem A5(x:List Int×J):(BH x).length=1:=rfl
def JU(w:Y)(s:J)(fs:List MF):Prop:=∃xs:List (MF×VF),xs.map Prod.fst=fs/\Rd w 4 s fs (Ad BR xs)/\∀x∈xs,DF w x.2 x.1
def DY(w:Y)(base:Nat)(s:J)(fs:List MF):Prop:=∃xs:List (MF×VF),xs.map Prod.fst=fs/\Ab w base 76 4 s fs (Ad BR xs)/\∀x∈xs,Iz w base x.2 x.1
def I5(w:Y)(s:J)(rs:List (List Int)):Prop:=∃xs:List (List Int×J),xs.map Prod.fst=rs/\Rd w 1 s rs (Ad BH xs)/\∀x∈xs,Rd w 1 x.2 x.1 (x.1.flatMap As)
def Gm(w:Y)(base:Nat)(s:J)(rs:List (List Int)):Prop:=∃xs:List (List Int×J),xs.map Prod.fst=rs/\Ab w base 29 1 s rs (Ad BH xs)/\∀x∈xs,Ab w base 2 1 x.2 x.1 (x.1.flatMap As)
theorem DY.rd{base:Nat}{fs:List MF}(h:DY w base s fs):JU w s fs:=by obtain⟨xs,a,b,c⟩:=h;exact⟨xs,a,Rd.ij b, λx d=>(c x d).rd⟩
theorem Gm.rd{base:Nat}(h:Gm w base s rs):I5 w s rs:=by obtain⟨xs,a,b,c⟩:=h;exact⟨xs,a,Rd.ij b, λx d=>Rd.ij (c x d)⟩
theorem JU.a7{w c:Y}{fs:List MF}(h:JU w s fs)(b:Ah B w c)(a: ↑w<=B):JU c s fs:=by obtain⟨xs,d,e,f⟩:=h;exact⟨xs,d,e.a7 b a, λx g=>(f x g).a7 b a⟩
theorem I5.a7{w c:Y}(h:I5 w s rs)(b:Ah B w c)(a: ↑w<=B):I5 c s rs:=by obtain⟨xs,d,e,f⟩:=h;exact⟨xs,d,e.a7 b a, λx g=>(f x g).a7 b a⟩
theorem DY.a7{w c:Y}{base:Nat}{fs:List MF}(h:DY w base s fs)(b:Ah B w c)(a: ↑w<=B):DY c base s fs:=by obtain⟨xs,d,e,f⟩:=h;exact⟨xs,d,Aw e b a, λx g=>(f x g).a7 b a⟩
theorem Gm.a7{w c:Y}{base:Nat}(h:Gm w base s rs)(b:Ah B w c)(a: ↑w<=B):Gm c base s rs:=by obtain⟨xs,d,e,f⟩:=h;exact⟨xs,d,Aw e b a, λx g=>Aw (f x g) b a⟩
theorem Iz.base{base b:Nat}{v:VF}{f:MF}(h:Iz w base v f)(a:b<=base):Iz w b v f:=⟨A9 h.1 a,A9 h.2.1 a,A9 h.2.2 a⟩
theorem DY.base{base a:Nat}{fs:List MF}(h:DY w base s fs)(b:a<=base):DY w a s fs:=by obtain⟨xs,c,d,e⟩:=h;exact⟨xs,c,A9 d b, λx f=>(e x f).base b⟩
theorem Gm.base{base a:Nat}(h:Gm w base s rs)(b:a<=base):Gm w a s rs:=by obtain⟨xs,c,d,e⟩:=h;exact⟨xs,c,A9 d b, λx f=>A9 (e x f) b⟩
theorem Iz.below{base:Nat}{v:VF}{f:MF}(h:Iz w base v f){a:Addr}(b:a.block<base)(u:J):Iz (w.setCell a u) base v f:=⟨lV h.1 b u,lV h.2.1 b u,lV h.2.2 b u⟩
theorem DY.below{base:Nat}{fs:List MF}(h:DY w base s fs){a:Addr}(b:a.block<base)(u:J):DY (w.setCell a u) base s fs:=by obtain⟨xs,c,d,e⟩:=h;exact⟨xs,c,lV d b u, λx f=>(e x f).below b u⟩
theorem Gm.below{base:Nat}(h:Gm w base s rs){a:Addr}(b:a.block<base)(u:J):Gm (w.setCell a u) base s rs:=by obtain⟨xs,c,d,e⟩:=h;exact⟨xs,c,lV d b u, λx f=>lV (e x f) b u⟩
theorem Y9:(Tryz.prog.info? 76).map (λi=>(i.zero,i.size,i.bytes))=K (K (Am #[Z M 0 0,Ag Af 0,Z M 0 0,Z M 0 0]),4,80):=kR
theorem Zb:(Tryz.prog.info? 29).map (λi=>(i.zero,i.size,i.bytes))=K (K (Z M 0 0),1,24):=kR
theorem BF{xs:List (α×β)}{fs:List α}(h:xs.map Prod.fst=fs){k:Nat}{x:α×β}(a:xs[k]?=K x):fs[k]?=K x.1:=by rw[<-h,mE,a];rfl
theorem Qd{a:List (α×β)}{fs:List α}{k:Nat}(h:a.map Prod.fst=fs.take k){f:α}(c:fs[k]?=K f)(b:β):(a++[(f,b)]).map Prod.fst=fs.take (k+1):=by obtain⟨d,rfl⟩:=i8.1 c;rw[m9,h,l8 d];rfl
def IU{α:Type}(f:α->List J)(z:List J)(a:List α)(n:Nat):List J:=Ad f a++(List.replicate (n-↑a) z).flatten
theorem Mb(f:α->List J)(z:List J)(n:Nat)(v:J)(m:Nat)(c:v.cells=z.toArray)(b: ↑z=m)(a:0<m):(madeCells v.cells (n*m)).toList=IU f z [] n:=by rw[Cc f z [] n v m c b a];simp[BG,IU]
theorem Gb(f:α->List J)(z:List J)(a:List α)(k n:Nat)(b:k<n)(c: ↑a=k):IU f z a n=Ad f a++(z++(List.replicate (n-(k+1)) z).flatten):=by
 unfold IU;have e:n-↑a=(n-(k+1))+1:=oM
 rw[e,pA,List.flatten_cons]
theorem Ma(f:α->List J)(z:List J)(a:List α)(k n:Nat)(y:α)(b: ↑a=k):IU f z (a++[y]) n=Ad f a++(f y++(List.replicate (n-(k+1)) z).flatten):=by unfold IU;rw[mH,nN];simp[b]
theorem NK(f:α->List J)(z:List J)(a:List α)(n:Nat)(h: ↑a=n):IU f z a n=Ad f a:=by simp[IU,<-h]
theorem VS{base:Nat}{g k n c:Nat}(h:Ab w base e k (Z g n c) n xs):g+1<=w.heap.size:=by
 rcases h.2 with⟨a,_⟩|⟨i,d,f,a,_,b,_⟩
 . cases a
 cases a
 exact(lK.1 b).1
structure XP(w wr:Y)(fs:List MF)(L k:Nat)(ys:List (MF×VF)):Prop where
 fst:ys.map Prod.fst=fs.take k
 len: ↑ys=k
 row:Ab wr w 76 4 (Z w L L) L (IU BR [Z M 0 0,Ag Af 0,Z M 0 0,Z M 0 0] ys L)
 kT:∀y∈ys,Iz wr ((w:Nat)+1) y.2 y.1
 ej:Ah w w wr
 iB:(w:Nat)+1<= ↑wr
theorem XP.places{fs:List MF}{L k:Nat}{f:List (MF×VF)}(h:XP w wr fs L k f)(j:k<L)(i:Ah wr wr u):
 u ⟨w,k*4,M⟩=K (Z M 0 0)/\u ⟨w,k*4+1,M⟩=K (Ag Af 0)/\u ⟨w,k*4+2,M⟩=K (Z M 0 0)/\u ⟨w,k*4+3,M⟩=K (Z M 0 0)/\u.frozen? ⟨w,k*4,M⟩=false/\u.frozen? ⟨w,k*4+1,M⟩=false/\u.frozen? ⟨w,k*4+2,M⟩=false/\u.frozen? ⟨w,k*4+3,M⟩=false:=by
 have a:=Aw h.row i lR;rw[Gb BR _ f k L j h.len]at a;have g:(Ad BR f).length=k*4:=by rw[AE BR 4 Az,h.len]
 have b:=a.cellAt (k*4) oM;have c:=a.cellAt (k*4+1) oM;have d:=a.cellAt (k*4+2) oM;have e:=a.cellAt (k*4+3) oM;rw[lY oM,g]at b c d e;rw[nM]at b;rw[nA]at c d e;exact⟨b,c,d,e,a.frozenAt _,a.frozenAt _,a.frozenAt _,a.frozenAt _⟩
theorem XP.next{fs:List MF}{L k:Nat}{b:List (MF×VF)}(h:XP w wr fs L k b)(m:k<L)(d:Ah wr wr u){f:MF}(j:fs[k]?=K f){v:VF}(n:Iz u wr v f):
 XP w (Aa (Aa (Aa (Aa u ⟨w,k*4,M⟩ v.p) ⟨w,k*4+1,M⟩ f.gV) ⟨w,k*4+2,M⟩ v.l) ⟨w,k*4+3,M⟩ v.c) fs L (k+1) (b++[(f,v)]):=by
 have e:=Aw h.row d lR;rw[Gb BR _ b k L m h.len]at e;have i:(Ad BR b).length=k*4:=by rw[AE BR 4 Az,h.len]
 have r:=(e.stored (k*4) v.p).1;have s:=(r.stored (k*4+1) f.gV).1;have t:=(s.stored (k*4+2) v.l).1;have g:=(t.stored (k*4+3) v.c).1;rw[Yu _ _ _ _ _ _ _ _ _ _ (k*4) i]at g;refine⟨Qd h.fst j v,by simp[h.len],?_,?_,?_,?_⟩
 . rw[Ma BR _ b k L (f,v) h.len];exact g
 . intro y a;have q:Iz u ((w:Nat)+1) y.2 y.1:=by
    rcases lT.1 a with a|a
    . exact(h.kT y a).a7 d lR
    simp only[mz]at a;subst a;exact n.base h.iB
   exact(((q.below sP _).below sP _).below sP _).below sP _
 . exact((((h.ej.trans (d.mono (by have:=h.iB;omega))).setCell lR _).setCell lR _).setCell lR _).setCell lR _
 have:=d.size;have:=h.iB;simp;omega
theorem QZ(s:J)(fs:List MF)(w:Y)(hL:fs.length<=1048576)(U:∀f∈fs,f.small)(h:JU w s fs):
 Ai Ap 22 #[s] w λe X=>∃a c,e=Al (Z a fs c)/\DY X w (Z a fs c) fs/\Ah w w X:=by
 obtain⟨j,hi,ah,aj,am⟩:=mN Y9;obtain⟨xs,D,C,O⟩:=h;have W:xs.length=fs.length:=by rw[<-D];simp
 have l:Ae (Rd w 4 s fs (Ad BR xs)/\xs.map Prod.fst=fs/\(∀x∈xs,DF w x.2 x.1)/\(∀f∈fs,f.small)/\xs.length= ↑fs):=⟨C,D,O,U,W⟩
 obtain⟨a1,c1,rfl⟩:=C.bW;clear C D O U W;generalize N:fs.length=L at hL l;have G:Ae (↑fs=L):=N
 clear N;go_enter func22,ntmps22;go_wp2_with (at_make;refine mm _ rfl _ _ 34 rfl w 76 j (Am #[Z M 0 0,Ag Af 0,Z M 0 0,Z M 0 0]) 4 underlying34 hi ah aj Af Af _ _ L rfl rfl rfl rfl (by rw[am];omega) oX lR ?_;intro w1 p P);rw[Mb BR [Z M 0 0,Ag Af 0,Z M 0 0,Z M 0 0] L (Am #[Z M 0 0,Ag Af 0,Z M 0 0,Z M 0 0]) 4 rfl rfl oM]at p;have I:Ah w w w1:=(lu _ _).grown P lR (λk Q=>by cases Q);have b:XP w w1 fs L 0 []:=⟨sP,rfl,p,(λy E=>by cases E),I,VS p⟩;clear P p I;go_loopw [4] (λi wr=>∃k:Nat,k<=L/\i=Ag Af k/\∃F,XP w wr fs L k F) (λi _=>L-(intOf i).toNat)
 case atStart=>exact⟨0,oM,rfl,_,b⟩
 clear b;obtain⟨k,Q,rfl,F,b⟩:=hrel;by_cases B:k<L
 . obtain⟨x,d⟩:∃x,xs[k]?=K x:=⟨_,an (by rw[l.2.2.2.2];exact B)⟩;have A:=BF l.2.1 d;have T:=l.2.2.1 x (lA d);have V:=l.2.2.2.1 x.1 (lA A);rcases l.1.2 with⟨e0,_⟩|⟨g,o,c,H,m⟩
   . omega
   simp only[lB,mB]at H;obtain⟨rfl,rfl⟩:=H;have j:=Rd.elem Az m k x d 0 _ rfl;have q:=Rd.elem Az m k x d 1 _ rfl;have r:=Rd.elem Az m k x d 2 _ rfl;have t:=Rd.elem Az m k x d 3 _ rfl;rw[<-b.ej.cell (g8 j)]at j;rw[<-b.ej.cell (g8 q)]at q;rw[<-b.ej.cell (g8 r)]at r;rw[<-b.ej.cell (g8 t)]at t;rw[lJ]at j;obtain⟨f,v⟩:=x;have n:Ae (fs[k]?=K f/\DF wr v f/\f.small):=⟨A,T.a7 b.ej lR,V⟩
   clear A T V d m;simp only[]at j q r t;go_wp2_with fail;refine(SM v f wr n.2.2 n.2.1).mono ?_;rintro e u ⟨b1,d1,b2,d2,b3,d3,rfl,R,z⟩;obtain⟨q0,q1,q2,q3,f0,f1,f2,f3⟩:=b.places B z;have HN:Ae _:=b.next B z n.1 R;clear R z j q r t b n;go_wp2;go_roundw;(case rel=>exact⟨k+1,oM,by go_num,_,HN⟩);exact oI
 have ae:k=L:=oM;subst ae;go_wp2;go_ret;refine⟨K w,k,rfl,⟨F,?_,?_, λy E=>(b.kT y E).base oM⟩,b.ej⟩
 . rw[b.fst,<-G,List.take_length]
 have S:=b.row;rw[NK _ _ _ _ b.len]at S;rw[G];exact S
structure XV(w wr:Y)(fs:List (List Int))(L k:Nat)(ys:List (List Int×J)):Prop where
 fst:ys.map Prod.fst=fs.take k
 len: ↑ys=k
 row:Ab wr w 29 1 (Z w L L) L (IU BH [Z M 0 0] ys L)
 kT:∀y∈ys,Ab wr ((w:Nat)+1) 2 1 y.2 y.1 (y.1.flatMap As)
 ej:Ah w w wr
 iB:(w:Nat)+1<= ↑wr
theorem XV.places{L k:Nat}{c:List (List Int×J)}(h:XV w wr fs L k c)(f:k<L)(e:Ah wr wr u):
 u ⟨w,k,M⟩=K (Z M 0 0)/\u.frozen? ⟨w,k,M⟩=false:=by
 have b:=Aw h.row e lR;rw[Gb BH _ c k L f h.len]at b;have d:(Ad BH c).length=k:=by rw[AE BH 1 A5,h.len,mO]
 have a:=b.cellAt k oM;rw[lY oM,d]at a;rw[nM]at a;exact⟨a,b.frozenAt _⟩
theorem XV.next{L k:Nat}{b:List (List Int×J)}(h:XV w wr fs L k b)(j:k<L)(c:Ah wr wr u){f:List Int}(i:fs[k]?=K f){v:J}(l:Ab u wr 2 1 v f (Ad As f)):
 XV w (Aa u ⟨w,k,M⟩ v) fs L (k+1) (b++[(f,v)]):=by
 have d:=Aw h.row c lR;rw[Gb BH _ b k L j h.len]at d;have g:(Ad BH b).length=k:=by rw[AE BH 1 A5,h.len,mO]
 have e:=(d.stored k v).1;rw[Wc _ _ _ _ k g]at e;refine⟨Qd h.fst i v,by simp[h.len],?_,?_,?_,?_⟩
 . rw[Ma BH _ b k L (f,v) h.len];exact e
 . intro y a;have m:Ab u ((w:Nat)+1) 2 1 y.2 y.1 (Ad As y.1):=by
    rcases lT.1 a with a|a
    . exact Aw (h.kT y a) c lR
    simp only[mz]at a;subst a;exact A9 l h.iB
   exact lV m sP _
 . exact(h.ej.trans (c.mono (by have:=h.iB;omega))).setCell lR _
 have:=c.size;have:=h.iB;simp;omega
theorem Nl(s:J)(fs:List (List Int))(w:Y)(X:fs.length<=1048576)(R:∀f∈fs,f.length<=1048576)(h:I5 w s fs):
 Ai Ap 20 #[s] w λe U=>∃a c,e=Al (Z a fs c)/\Gm U w (Z a fs c) fs/\Ah w w U:=by
 obtain⟨d,hi,ah,aj,am⟩:=mN Zb;obtain⟨xs,z,t,H⟩:=h;have T:xs.length=fs.length:=by rw[<-z];simp
 have j:Ae (Rd w 1 s fs (Ad BH xs)/\xs.map Prod.fst=fs/\(∀x∈xs,Rd w 1 x.2 x.1 (x.1.flatMap As))/\(∀f∈fs,f.length<=1048576)/\xs.length= ↑fs):=⟨t,z,H,R,T⟩
 obtain⟨a1,c1,rfl⟩:=t.bW;clear t z H R T;generalize F:fs.length=L at X j;have C:Ae (↑fs=L):=F
 clear F;go_enter func20,ntmps20;go_wp2_with (at_make;refine mm _ rfl _ _ 22 rfl w 29 d (Z M 0 0) 1 underlying22 hi ah aj Af Af _ _ L rfl rfl rfl rfl (by rw[am];omega) oX lR ?_;intro V m I);rw[Mb BH [Z M 0 0] L (Z M 0 0) 1 rfl rfl oM]at m;have E:Ah w w V:=(lu _ _).grown I lR (λk N=>by cases N);have b:XV w V fs L 0 []:=⟨sP,rfl,m,(λy A=>by cases A),E,VS m⟩;clear I m E;go_loopw [4] (λi wr=>∃k:Nat,k<=L/\i=Ag Af k/\∃B,XV w wr fs L k B) (λi _=>L-(intOf i).toNat)
 case atStart=>exact⟨0,oM,rfl,_,b⟩
 clear b;obtain⟨k,N,rfl,B,b⟩:=hrel;by_cases r:k<L
 . obtain⟨x,n⟩:∃x,xs[k]?=K x:=⟨_,an (by rw[j.2.2.2.2];exact r)⟩;have q:=BF j.2.1 n;have Q:=j.2.2.1 x (lA n);have S:=j.2.2.2.1 x.1 (lA q);rcases j.1.2 with⟨e0,_⟩|⟨g,o,c,D,G⟩
   . omega
   simp only[lB,mB]at D;obtain⟨rfl,rfl⟩:=D;have d:=Rd.elem A5 G k x n 0 _ rfl;rw[<-b.ej.cell (g8 d)]at d;rw[mO,lJ]at d;obtain⟨f,v⟩:=x;have l:Ae (fs[k]?=K f/\Rd wr 1 v f (f.flatMap As)/\f.length<=1048576):=⟨q,Q.a7 b.ej lR,S⟩
   clear q Q S n G;simp only[]at d;go_wp2_with fail;refine(G5 v f wr l.2.2 l.2.1).mono ?_;rintro e u ⟨b1,d1,rfl,O,p⟩;obtain⟨q0,f0⟩:=b.places r p;have W:Ae _:=b.next r p l.1 O;clear O p d b l;go_wp2;go_roundw;(case rel=>exact⟨k+1,oM,by go_num,_,W⟩);exact oI
 have ae:k=L:=oM;subst ae;go_wp2;go_ret;refine⟨K w,k,rfl,⟨B,?_,?_, λy A=>A9 (b.kT y A) oM⟩,b.ej⟩
 . rw[b.fst,<-C,List.take_length]
 have P:=b.row;rw[NK _ _ _ _ b.len]at P;rw[C];exact P
structure MP where
 aC:List (List Int)
 dk:List MC
 aD:List MF
 e8:List MT
structure VP where
 r:J
 k:J
 f:J
 t:J
def VP.val(v:VP):J:=Am #[v.r,v.k,v.f,v.t]
structure Dm(w:Y)(v:VP)(p:MP):Prop where
 aC:I5 w v.r p.aC
 dk:Rd w 2 v.k p.dk (Ad MC.cells p.dk)
 aD:JU w v.f p.aD
 e8:Rd w 4 v.t p.e8 (Ad MT.cells p.e8)
structure Jn(w:Y)(base:Nat)(v:VP)(p:MP):Prop where
 aC:Gm w base v.r p.aC
 dk:Ab w base 102 2 v.k p.dk (Ad MC.cells p.dk)
 aD:DY w base v.f p.aD
 e8:Ab w base 96 4 v.t p.e8 (Ad MT.cells p.e8)
structure MP.small(p:MP):Prop where
 aC:p.aC.length<=1048576
 region:∀r∈p.aC,r.length<=1048576
 dk:p.dk.length<=1048576
 aD:p.aD.length<=1048576
 func:∀f∈p.aD,f.small
 e8:p.e8.length<=1048576
theorem Jn.rd{base:Nat}{v:VP}{p:MP}(h:Jn w base v p):Dm w v p:=⟨h.aC.rd,Rd.ij h.dk,h.aD.rd,Rd.ij h.e8⟩
theorem Dm.a7{w c:Y}{v:VP}{p:MP}(h:Dm w v p)(b:Ah B w c)(a: ↑w<=B):Dm c v p:=⟨h.aC.a7 b a,h.dk.a7 b a,h.aD.a7 b a,h.e8.a7 b a⟩
theorem Jn.a7{w c:Y}{base:Nat}{v:VP}{p:MP}(h:Jn w base v p)(b:Ah B w c)(a: ↑w<=B):Jn c base v p:=⟨h.aC.a7 b a,Aw h.dk b a,h.aD.a7 b a,Aw h.e8 b a⟩
theorem Jn.base{base b:Nat}{v:VP}{p:MP}(h:Jn w base v p)(a:b<=base):Jn w b v p:=⟨h.aC.base a,A9 h.dk a,h.aD.base a,A9 h.e8 a⟩
theorem Jn.below{base:Nat}{v:VP}{p:MP}(h:Jn w base v p){a:Addr}(b:a.block<base)(u:J):Jn (w.setCell a u) base v p:=⟨h.aC.below b u,lV h.dk b u,h.aD.below b u,lV h.e8 b u⟩
theorem Eu(v:VP)(p:MP)(w:Y)(A:p.small)(h:Dm w v p):
 Ai Ap 6 #[Am #[v.r,v.k,v.f,v.t]] w λe w'=>∃b c1 c c2 d c3 g c4,e=Al (Am #[Z b p.aC c1,Z c p.dk c2,Z d p.aD c3,Z g p.e8 c4])/\Jn w' w ⟨Z b p.aC c1,Z c p.dk c2,Z d p.aD c3,Z g p.e8 c4⟩ p/\Ah w w w':=by
 have F:=Fr.of w 27 37 #[v.r,v.k,v.f,v.t] #[Z M 0 0,Z M 0 0,Z M 0 0,Z M 0 0] #[Z M 0 0,Z M 0 0,Z M 0 0,Z M 0 0] rfl rfl rfl;go_enter func6,ntmps6;go_wp2_with fail;refine(Nl v.r p.aC _ A.aC A.region (h.aC.a7 F.ej lR)).mono ?_;rintro e u1 ⟨b,c1,rfl,ae,b1⟩;have O1:Ae (Gm u1 ((w:Nat)+3) (Z b p.aC c1) p.aC):=ae.base F.iB;have G:=F.a7 b1;clear ae b1 F;obtain⟨n,q,s,u,_⟩:=DR G.par;obtain⟨i,j,l,m,x,y,z,z3⟩:=DR G.loc;go_wp2_with fail;have B:=G.set 0 (Z b p.aC c1);have O2:Ae (Gm (Aa u1 ⟨(w:Nat)+1+1,0,M⟩ (Z b p.aC c1)) ((w:Nat)+3) (Z b p.aC c1) p.aC):=O1.below sP _;clear O1 G n q s u i j l m x y z z3;simp only[lU]at B;refine(Pi v.k p.dk _ A.dk (h.dk.a7 B.ej lR)).mono ?_;rintro e u2 ⟨c,c2,rfl,ah,T⟩;have R:Ae (Gm u2 ((w:Nat)+3) (Z b p.aC c1) p.aC/\Ab u2 ((w:Nat)+3) 102 2 (Z c p.dk c2) p.dk (Ad MC.cells p.dk)):=⟨O2.a7 T lR,A9 ah B.iB⟩
 have H:=B.a7 T;clear ah T B O2;obtain⟨n,q,s,u,_⟩:=DR H.par;obtain⟨i,j,l,m,x,y,z,z3⟩:=DR H.loc;go_wp2_with fail;have C:=H.set 1 (Z c p.dk c2);have S:Ae _:=d5 (R.1.below (a:=⟨(w:Nat)+1+1,1,M⟩) sP (Z c p.dk c2)) (Eb (w:=w) R.2 ((w:Nat)+1+1) 1 oM (Z c p.dk c2));clear R H n q s u i j l m x y z z3;simp only[lU,lX]at C;refine(QZ v.f p.aD _ A.aD A.func (h.aD.a7 C.ej lR)).mono ?_;rintro e u3 ⟨d,c3,rfl,aj,P⟩;have N:Ae (Gm u3 ((w:Nat)+3) (Z b p.aC c1) p.aC/\Ab u3 ((w:Nat)+3) 102 2 (Z c p.dk c2) p.dk (Ad MC.cells p.dk)/\DY u3 ((w:Nat)+3) (Z d p.aD c3) p.aD):=⟨S.1.a7 P lR,Aw S.2 P lR,aj.base C.iB⟩
 have I:=C.a7 P;clear aj P C S;obtain⟨n,q,s,u,_⟩:=DR I.par;obtain⟨i,j,l,m,x,y,z,z3⟩:=DR I.loc;go_wp2_with fail;have D:=I.set 2 (Z d p.aD c3);have O:Ae _:=d5 (N.1.below (a:=⟨(w:Nat)+1+1,2,M⟩) sP (Z d p.aD c3)) (d5 (Eb (w:=w) N.2.1 ((w:Nat)+1+1) 2 oM (Z d p.aD c3)) (N.2.2.below (a:=⟨(w:Nat)+1+1,2,M⟩) sP (Z d p.aD c3)));clear N I n q s u i j l m x y z z3;simp only[lU,lX]at D;refine(QX v.t p.e8 _ A.e8 (h.e8.a7 D.ej lR)).mono ?_;rintro e u4 ⟨g,c4,rfl,am,E⟩;have O7:Ae (Jn u4 ((w:Nat)+3) ⟨Z b p.aC c1,Z c p.dk c2,Z d p.aD c3,Z g p.e8 c4⟩ p):=⟨O.1.a7 E lR,Aw O.2.1 E lR,O.2.2.a7 E lR,A9 am D.iB⟩;have L:=D.a7 E;clear am E D O;obtain⟨n,q,s,u,_⟩:=DR L.par;obtain⟨i,j,l,m,x,y,z,z3⟩:=DR L.loc;obtain⟨U,V,W,X,y0,y1,y2,y3⟩:=DR L.ik;go_wp2_with fail;clear n q s u i j l m x y z z3 U V W X y0 y1 y2 y3;have Q:=((((L.set 3 (Z g p.e8 c4)).iU 0 (Z b p.aC c1)).iU 1 (Z c p.dk c2)).iU 2 (Z d p.aD c3)).iU 3 (Z g p.e8 c4);simp only[lU,lX]at Q;obtain⟨U,V,W,X,_⟩:=DR Q.ik;have ao:=((((O7.below (a:=⟨(w:Nat)+1+1,3,M⟩) sP (Z g p.e8 c4)).below (a:=⟨(w:Nat)+1,0,M⟩) (by simp<;>omega) (Z b p.aC c1)).below (a:=⟨(w:Nat)+1,1,M⟩) (by simp<;>omega) (Z c p.dk c2)).below (a:=⟨(w:Nat)+1,2,M⟩) (by simp<;>omega) (Z d p.aD c3)).below (a:=⟨(w:Nat)+1,3,M⟩) (by simp<;>omega) (Z g p.e8 c4);exact lO (v:=Am #[Z b p.aC c1,Z c p.dk c2,Z d p.aD c3,Z g p.e8 c4]) (by simp[results,results6,go_sem,U,V,W,X]) rfl ⟨b,c1,c,c2,d,c3,g,c4,rfl,ao.base oM,Q.ej⟩
theorem AB(B:Nat)(w:Y)(nq:Nat):Ah B w (w.drewN nq):=⟨rfl,rfl,rfl,Nat.le_refl _, λ_ _=>rfl⟩
theorem BP(h:Ah w.drew w.drew u)(a:B<= ↑w):Ah B w u:=⟨h.os,h.tape,h.output,h.size, λk b=>h.block k (mT b a)⟩
theorem LC(s f:J)(a:List Int)(w:Y)(A:a.length<=140737488355328)(h:Rd w 1 s a (Ad As a))(b:Rd w 1 f a (Ad As a)):
 Ai Ap 25 #[s,f] w λe D=>e=Al true/\∃m,D=w.drewN m:=by
 have j:Ae (Rd w 1 s a (Ad As a)):=h;have l:Ae (Rd w 1 f a (Ad As a)):=b;obtain⟨E,c1,rfl⟩:=h.bW;obtain⟨F,c2,rfl⟩:=b.bW;clear h b;generalize r:a.length=n at A j l;have v:Ae (↑a=n):=r
 clear r;go_enter func25,ntmps25;go_wp2;go_loopw [5] (λi wr=>∃k:Nat,k<=n/\i=Ag Af k/\∃m,wr=w.drewN m) (λi _=>n-(intOf i).toNat)
 case atStart=>exact⟨0,oM,rfl,0,rfl⟩
 obtain⟨k,H,rfl,m,rfl⟩:=hrel;by_cases z:k<n
 . obtain⟨x,d⟩:∃x,a[k]?=K x:=⟨_,an (by rw[v];exact z)⟩;rcases j.2 with⟨y,_⟩|⟨g,o,c,p,t⟩
   . omega
   rcases l.2 with⟨y,_⟩|⟨G,I,c',q,u⟩
   . omega
   simp only[lB,mB]at p q;obtain⟨rfl,rfl⟩:=p;obtain⟨rfl,rfl⟩:=q;have B:=Rd.elem Ay t k x d 0 _ rfl;have C:=Rd.elem Ay u k x d 0 _ rfl;rw[mO,lJ]at B C;clear t u d;go_wp2;go_quiet (fail);go_wp2;go_roundw;(case rel=>exact⟨k+1,oM,by go_num,_,rfl⟩);exact oI
 go_wp2;go_ret;exact⟨rfl,_,rfl⟩
theorem Dp(s b:J)(a:List Int)(w:Y)(i:a.length<=140737488355328)(h:Rd w 1 s a (Ad As a))(d:Rd w 1 b a (Ad As a)):
 Ai Ap 25 #[s,b] w λe c=>e=Al true/\Ah w w c:=
 (LC s b a w i h d).mono λe c ⟨f,m,g⟩=>⟨f,g▸AB _ _ _⟩
theorem ON(x:MI)(w:Y):
 Ai Ap 127 #[Am #[Ag Af x.op,Ag Af x.a,Ag Af x.b,Ag Af x.c],Am #[Ag Af x.op,Ag Af x.a,Ag Af x.b,Ag Af x.c]] w λe d=>e=Al true/\Ah w w d:=by
 go_enter func127,ntmps127;go_wp2;go_ret;exact⟨rfl,(((lu _ _).alloc lR _).alloc sP _)⟩
theorem OL(x:MC)(w:Y):
 Ai Ap 56 #[Am #[Ag Af x.type,Ag .u32 x.word],Am #[Ag Af x.type,Ag .u32 x.word]] w λe a=>e=Al true/\Ah w w a:=by
 go_enter func56,ntmps56;go_wp2;go_ret;exact⟨rfl,(((lu _ _).alloc lR _).alloc sP _)⟩
theorem P9(x:MT)(w:Y):
 Ai Ap 58 #[Am #[Ag Af x.func,Ag Af x.head,Ag Af x.hQ,Ag .u32 x.init],Am #[Ag Af x.func,Ag Af x.head,Ag Af x.hQ,Ag .u32 x.init]] w λe a=>e=Al true/\Ah w w a:=by
 go_enter func58,ntmps58;go_wp2;go_ret;exact⟨rfl,(((lu _ _).alloc lR _).alloc sP _)⟩
theorem MX(s A:J)(b:List MI)(w:Y)(P:b.length<=1048576)(h:Rd w 4 s b (Ad MI.cells b))(l:Rd w 4 A b (Ad MI.cells b)):
 Ai Ap 97 #[s,A] w λe Q=>e=Al true/\Ah w w Q:=by
 have B:Ae (Rd w 4 s b (Ad MI.cells b)):=h;have C:Ae (Rd w 4 A b (Ad MI.cells b)):=l;obtain⟨R,c1,rfl⟩:=h.bW;obtain⟨S,c2,rfl⟩:=l.bW;clear h l;generalize F:b.length=n at P B C;have L:Ae (↑b=n):=F
 clear F;go_enter func97,ntmps97;go_wp2;go_loopw [5] (λi wr=>∃k:Nat,k<=n/\i=Ag Af k/\Ah w w wr) (λi _=>n-(intOf i).toNat)
 case atStart=>exact⟨0,oM,rfl,lu _ _⟩
 obtain⟨k,U,rfl,G⟩:=hrel;have a:Ae (Ah w w wr):=G;clear G;by_cases O:k<n
 . obtain⟨x,d⟩:∃x,b[k]?=K x:=⟨_,an (by rw[L];exact O)⟩;rcases B.2 with⟨N,_⟩|⟨g,o,c,D,f⟩
   . omega
   rcases C.2 with⟨N,_⟩|⟨T,V,c',E,j⟩
   . omega
   simp only[lB,mB]at D E;obtain⟨rfl,rfl⟩:=D;obtain⟨rfl,rfl⟩:=E;have m:=Rd.elem MI.dr f k x d 0 _ rfl;have p:=Rd.elem MI.dr f k x d 1 _ rfl;have q:=Rd.elem MI.dr f k x d 2 _ rfl;have r:=Rd.elem MI.dr f k x d 3 _ rfl;have t:=Rd.elem MI.dr j k x d 0 _ rfl;have v:=Rd.elem MI.dr j k x d 1 _ rfl;have y:=Rd.elem MI.dr j k x d 2 _ rfl;have z:=Rd.elem MI.dr j k x d 3 _ rfl;rw[<-a.cell (g8 m),lJ]at m;rw[<-a.cell (g8 p)]at p;rw[<-a.cell (g8 q)]at q;rw[<-a.cell (g8 r)]at r;rw[<-a.cell (g8 t),lJ]at t;rw[<-a.cell (g8 v)]at v;rw[<-a.cell (g8 y)]at y;rw[<-a.cell (g8 z)]at z;clear f j d;go_wp2_with fail;go_region_with (go_at_call 127;refine(ON x _).mono ?_;rintro e u ⟨rfl,H⟩);all_goals
    have I:Ae (Ah w w u):=a.trans (BP H a.size);clear H a m p q r t v y z;go_wp2;go_roundw;(case rel=>exact⟨k+1,oM,by go_num,I⟩);exact oI
 go_wp2;go_ret;exact⟨rfl,a⟩
theorem OK(s A:J)(b:List MT)(w:Y)(P:b.length<=1048576)(h:Rd w 4 s b (Ad MT.cells b))(l:Rd w 4 A b (Ad MT.cells b)):
 Ai Ap 29 #[s,A] w λe Q=>e=Al true/\Ah w w Q:=by
 have B:Ae (Rd w 4 s b (Ad MT.cells b)):=h;have C:Ae (Rd w 4 A b (Ad MT.cells b)):=l;obtain⟨R,c1,rfl⟩:=h.bW;obtain⟨S,c2,rfl⟩:=l.bW;clear h l;generalize F:b.length=n at P B C;have L:Ae (↑b=n):=F
 clear F;go_enter func29,ntmps29;go_wp2;go_loopw [5] (λi wr=>∃k:Nat,k<=n/\i=Ag Af k/\Ah w w wr) (λi _=>n-(intOf i).toNat)
 case atStart=>exact⟨0,oM,rfl,lu _ _⟩
 obtain⟨k,U,rfl,G⟩:=hrel;have a:Ae (Ah w w wr):=G;clear G;by_cases O:k<n
 . obtain⟨x,d⟩:∃x,b[k]?=K x:=⟨_,an (by rw[L];exact O)⟩;rcases B.2 with⟨N,_⟩|⟨g,o,c,D,f⟩
   . omega
   rcases C.2 with⟨N,_⟩|⟨T,V,c',E,j⟩
   . omega
   simp only[lB,mB]at D E;obtain⟨rfl,rfl⟩:=D;obtain⟨rfl,rfl⟩:=E;have m:=Rd.elem MT.dr f k x d 0 _ rfl;have p:=Rd.elem MT.dr f k x d 1 _ rfl;have q:=Rd.elem MT.dr f k x d 2 _ rfl;have r:=Rd.elem MT.dr f k x d 3 _ rfl;have t:=Rd.elem MT.dr j k x d 0 _ rfl;have v:=Rd.elem MT.dr j k x d 1 _ rfl;have y:=Rd.elem MT.dr j k x d 2 _ rfl;have z:=Rd.elem MT.dr j k x d 3 _ rfl;rw[<-a.cell (g8 m),lJ]at m;rw[<-a.cell (g8 p)]at p;rw[<-a.cell (g8 q)]at q;rw[<-a.cell (g8 r)]at r;rw[<-a.cell (g8 t),lJ]at t;rw[<-a.cell (g8 v)]at v;rw[<-a.cell (g8 y)]at y;rw[<-a.cell (g8 z)]at z;clear f j d;go_wp2_with fail;go_region_with (go_at_call 58;refine(P9 x _).mono ?_;rintro e u ⟨rfl,H⟩);all_goals
    have I:Ae (Ah w w u):=a.trans (BP H a.size);clear H a m p q r t v y z;go_wp2;go_roundw;(case rel=>exact⟨k+1,oM,by go_num,I⟩);exact oI
 go_wp2;go_ret;exact⟨rfl,a⟩
theorem MW(s t:J)(a:List MC)(w:Y)(I:a.length<=1048576)(h:Rd w 2 s a (Ad MC.cells a))(f:Rd w 2 t a (Ad MC.cells a)):
 Ai Ap 27 #[s,t] w λe L=>e=Al true/\Ah w w L:=by
 have v:Ae (Rd w 2 s a (Ad MC.cells a)):=h;have y:Ae (Rd w 2 t a (Ad MC.cells a)):=f;obtain⟨N,c1,rfl⟩:=h.bW;obtain⟨O,c2,rfl⟩:=f.bW;clear h f;generalize B:a.length=n at I v y;have F:Ae (↑a=n):=B
 clear B;go_enter func27,ntmps27;go_wp2;go_loopw [5] (λi wr=>∃k:Nat,k<=n/\i=Ag Af k/\Ah w w wr) (λi _=>n-(intOf i).toNat)
 case atStart=>exact⟨0,oM,rfl,lu _ _⟩
 obtain⟨k,Q,rfl,C⟩:=hrel;have b:Ae (Ah w w wr):=C;clear C;by_cases H:k<n
 . obtain⟨x,d⟩:∃x,a[k]?=K x:=⟨_,an (by rw[F];exact H)⟩;rcases v.2 with⟨G,_⟩|⟨g,o,c,z,j⟩
   . omega
   rcases y.2 with⟨G,_⟩|⟨P,R,c',A,l⟩
   . omega
   simp only[lB,mB]at z A;obtain⟨rfl,rfl⟩:=z;obtain⟨rfl,rfl⟩:=A;have m:=Rd.elem MC.dr j k x d 0 _ rfl;have p:=Rd.elem MC.dr j k x d 1 _ rfl;have q:=Rd.elem MC.dr l k x d 0 _ rfl;have r:=Rd.elem MC.dr l k x d 1 _ rfl;rw[<-b.cell (g8 m),lJ]at m;rw[<-b.cell (g8 p)]at p;rw[<-b.cell (g8 q),lJ]at q;rw[<-b.cell (g8 r)]at r;clear j l d;go_wp2_with fail;go_region_with (go_at_call 56;refine(OL x _).mono ?_;rintro e u ⟨rfl,D⟩);all_goals
    have E:Ae (Ah w w u):=b.trans (BP D b.size);clear D b m p q r;go_wp2;go_roundw;(case rel=>exact⟨k+1,oM,by go_num,E⟩);exact oI
 go_wp2;go_ret;exact⟨rfl,b⟩
theorem Dm.sl{v:VP}{p:MP}(h:Dm w v p):∃g i d e j k f1 f3,v=⟨Z g p.aC i,Z d p.dk e,Z f1 p.aD f3,Z j p.e8 k⟩:=by obtain⟨g,i,n⟩:=(show∃a c,v.r=Z a p.aC c from by obtain⟨_,_,b,_⟩:=h.aC;exact b.bW);obtain⟨d,e,m⟩:=h.dk.bW;obtain⟨j,k,q⟩:=h.e8.bW;obtain⟨f1,f3,l⟩:=(show∃a c,v.f=Z a p.aD c from by obtain⟨_,_,b,_⟩:=h.aD;exact b.bW);obtain⟨u,t,s,x⟩:=v;simp only[]at n m q l;subst n m q l;exact⟨g,i,d,e,j,k,f1,f3,rfl⟩
theorem Ec{g:VF}{f:MF}(h:DF w g f):∃a b c d e i,g=⟨Z a f.gU b,Z c f.gW d,Z e f.bO i⟩:=by obtain⟨a,b,j⟩:=h.1.bW;obtain⟨c,d,k⟩:=h.2.1.bW;obtain⟨e,i,l⟩:=h.2.2.bW;obtain⟨p,n,m⟩:=g;simp only[]at j k l;subst j k l;exact⟨a,b,c,d,e,i,rfl⟩
structure XR(w u:Y)(tp:Aj)(p r:List J):Prop where
 par:Ab u w tp 4 (Z w 1 1) 1 p
 j8:Ab u w tp 4 (Z (K ⟨(w:Nat)+1,0,M⟩) 1 1) 1 r
 ej:Ah w w u
theorem XR.of(w:Y)(a:Aj)(p r:Array J)(f:p.size=4)(g:r.size=4):
 XR w (Ac (Ac w (Ak p a)) (Ak r a)) a p.toList r.toList:=by
 have b:Ah w w (Ac w (Ak p a)):=(lu _ _).alloc lR _;have c2:Ah (Ac w (Ak p a)).heap.size (Ac w (Ak p a)) (Ac (Ac w (Ak p a)) (Ak r a)):=(lu _ _).alloc lR _;have c:=nT (base:=w) (e:=a) (size:=4) w p 1 lR oX oM;have d:=nT (base:=w) (e:=a) (size:=4) (Ac w (Ak p a)) r 1 sP oX oM;refine⟨Aw c c2 lR,?_,b.trans (c2.mono sP)⟩;simpa using d
theorem XR.a7{w u c:Y}{b:Aj}{p r:List J}(h:XR w u b p r)(a:Ah u u c):XR w c b p r:=⟨Aw h.par a lR,Aw h.j8 a lR,h.ej.trans (a.mono h.ej.size)⟩
theorem Qa(v v':VF)(f:MF)(w:Y)(y:f.small)(h:DF w v f)(x:DF w v' f):
 Ai Ap 57 #[Am #[v.p,f.gV,v.l,v.c],Am #[v'.p,f.gV,v'.l,v'.c]] w λe A=>e=Al true/\Ah w w A:=by
 have d:=XR.of w 76 #[v.p,f.gV,v.l,v.c] #[v'.p,f.gV,v'.l,v'.c] rfl rfl;have H:Ae (DF w v f/\DF w v' f/\f.small):=⟨h,x,y⟩
 clear h x y;go_enter func57,ntmps57;go_wp2_with fail;refine(Dp v.p v'.p f.gU _ (lQ H.2.2.1 oM) (H.1.1.a7 d.ej lR) (H.2.1.1.a7 d.ej lR)).mono ?_;rintro e B ⟨rfl,s⟩;have a:=d.a7 s;clear s d;obtain⟨m,n,q,r,_⟩:=DR a.par;obtain⟨g,i,j,k,_⟩:=DR a.j8;go_wp2_with fail;refine(Dp v.l v'.l f.gW _ (lQ H.2.2.2.1 oM) (H.1.2.1.a7 a.ej lR) (H.2.1.2.1.a7 a.ej lR)).mono ?_;rintro e C ⟨rfl,t⟩;have b:=a.a7 t;clear t a m n q r g i j k;obtain⟨m,n,q,r,_⟩:=DR b.par;obtain⟨g,i,j,k,_⟩:=DR b.j8;go_wp2_with fail;refine(MX v.c v'.c f.bO _ H.2.2.2.2 (H.1.2.2.a7 b.ej lR) (H.2.1.2.2.a7 b.ej lR)).mono ?_;rintro e D ⟨rfl,u⟩;have z:=b.a7 u;clear u b m n q r g i j k;go_wp2;go_ret;exact⟨rfl,z.ej⟩
theorem OM(s Q:J)(fs:List MF)(w:Y)(hL:fs.length<=1048576)(N:∀f∈fs,f.small)(h:JU w s fs)(h':JU w Q fs):
 Ai Ap 28 #[s,Q] w λe w'=>e=Al true/\Ah w w w':=by
 obtain⟨xs,O,I,T⟩:=h;obtain⟨p,P,L,U⟩:=h';have W:xs.length=fs.length:=by rw[<-O];simp
 have X:p.length=fs.length:=by rw[<-P];simp
 have j:Ae (Rd w 4 s fs (Ad BR xs)/\xs.map Prod.fst=fs/\(∀x∈xs,DF w x.2 x.1)/\(∀f∈fs,f.small)/\xs.length= ↑fs):=⟨I,O,T,N,W⟩
 have q:Ae (Rd w 4 Q fs (Ad BR p)/\p.map Prod.fst=fs/\(∀x∈p,DF w x.2 x.1)/\(∀f∈fs,f.small)/\p.length= ↑fs):=⟨L,P,U,N,X⟩
 obtain⟨a1,c1,rfl⟩:=I.bW;obtain⟨a2,c2,rfl⟩:=L.bW;clear I O T N W L P U X;generalize ah:fs.length=n at hL j q;clear ah;go_enter func28,ntmps28;go_wp2;go_loopw [5] (λi wr=>∃k:Nat,k<=n/\i=Ag Af k/\Ah w w wr) (λi _=>n-(intOf i).toNat)
 case atStart=>exact⟨0,oM,rfl,lu _ _⟩
 obtain⟨k,hk,rfl,R⟩:=hrel;have a:Ae (Ah w w wr):=R;clear R;by_cases V:k<n
 . obtain⟨⟨f,v⟩,b⟩:∃x,xs[k]?=K x:=⟨_,an (by rw[j.2.2.2.2];exact V)⟩;obtain⟨⟨r,v'⟩,d⟩:∃x,p[k]?=K x:=⟨_,an (by rw[q.2.2.2.2];exact V)⟩;have l:=BF j.2.1 b;have m:=BF q.2.1 d;(have aj:r=f:=by rw[l]at m;exact(lP m).symm);subst aj;have H:Ae (DF wr v r/\DF wr v' r/\r.small):=⟨(j.2.2.1 _ (lA b)).a7 a lR,(q.2.2.1 _ (lA d)).a7 a lR,j.2.2.2.1 _ (lA l)⟩
   clear l m;rcases j.1.2 with⟨e0,_⟩|⟨g,o,c,l,t⟩
   . omega
   rcases q.1.2 with⟨e0,_⟩|⟨g',o',c',m,y⟩
   . omega
   simp only[lB,mB]at l m;obtain⟨rfl,rfl⟩:=l;obtain⟨rfl,rfl⟩:=m;have z:=Rd.elem Az t k _ b 0 _ rfl;have A:=Rd.elem Az t k _ b 1 _ rfl;have B:=Rd.elem Az t k _ b 2 _ rfl;have C:=Rd.elem Az t k _ b 3 _ rfl;have D:=Rd.elem Az y k _ d 0 _ rfl;have E:=Rd.elem Az y k _ d 1 _ rfl;have F:=Rd.elem Az y k _ d 2 _ rfl;have G:=Rd.elem Az y k _ d 3 _ rfl;rw[<-a.cell (g8 z),lJ]at z;rw[<-a.cell (g8 A)]at A;rw[<-a.cell (g8 B)]at B;rw[<-a.cell (g8 C)]at C;rw[<-a.cell (g8 D),lJ]at D;rw[<-a.cell (g8 E)]at E;rw[<-a.cell (g8 F)]at F;rw[<-a.cell (g8 G)]at G;clear t y b d;simp only[]at z A B C D E F G;go_wp2_with fail;go_region_with (go_at_call 57;refine(Qa v v' r _ H.2.2 (by exact H.1) (by exact H.2.1)).mono ?_;rintro e u ⟨rfl,S⟩);all_goals
    have ae:Ae (Ah w w u):=a.trans (BP S a.size);clear S a z A B C D E F G;go_wp2;go_roundw;(case rel=>exact⟨k+1,oM,by go_num,ae⟩);exact oI
 go_wp2;go_ret;exact⟨rfl,a⟩
theorem LA(s F:J)(fs:List (List Int))(w:Y)(V:fs.length<=1048576)(C:∀f∈fs,f.length<=1048576)(h:I5 w s fs)(U:I5 w F fs):
 Ai Ap 26 #[s,F] w λe w'=>e=Al true/\Ah w w w':=by
 obtain⟨xs,D,A,N⟩:=h;obtain⟨m,E,B,O⟩:=U;have Q:xs.length=fs.length:=by rw[<-D];simp
 have R:m.length=fs.length:=by rw[<-E];simp
 have d:Ae (Rd w 1 s fs (Ad BH xs)/\xs.map Prod.fst=fs/\(∀x∈xs,Rd w 1 x.2 x.1 (x.1.flatMap As))/\(∀f∈fs,f.length<=1048576)/\xs.length= ↑fs):=⟨A,D,N,C,Q⟩
 have p:Ae (Rd w 1 F fs (Ad BH m)/\m.map Prod.fst=fs/\(∀x∈m,Rd w 1 x.2 x.1 (x.1.flatMap As))/\(∀f∈fs,f.length<=1048576)/\m.length= ↑fs):=⟨B,E,O,C,R⟩
 obtain⟨a1,c1,rfl⟩:=A.bW;obtain⟨a2,c2,rfl⟩:=B.bW;clear A D N C Q B E O R;generalize W:fs.length=n at V d p;clear W;go_enter func26,ntmps26;go_wp2;go_loopw [5] (λi wr=>∃k:Nat,k<=n/\i=Ag Af k/\Ah w w wr) (λi _=>n-(intOf i).toNat)
 case atStart=>exact⟨0,oM,rfl,lu _ _⟩
 obtain⟨k,hk,rfl,G⟩:=hrel;have a:Ae (Ah w w wr):=G;clear G;by_cases P:k<n
 . obtain⟨⟨f,v⟩,t⟩:∃x,xs[k]?=K x:=⟨_,an (by rw[d.2.2.2.2];exact P)⟩;obtain⟨⟨b,v'⟩,y⟩:∃x,m[k]?=K x:=⟨_,an (by rw[p.2.2.2.2];exact P)⟩;have j:=BF d.2.1 t;have l:=BF p.2.1 y;(have X:b=f:=by rw[j]at l;exact(lP l).symm);subst X;have z:Ae (Rd wr 1 v b (Ad As b)/\Rd wr 1 v' b (Ad As b)/\b.length<=140737488355328):=⟨(d.2.2.1 _ (lA t)).a7 a lR,(p.2.2.1 _ (lA y)).a7 a lR,lQ (d.2.2.2.1 _ (lA j)) oM⟩
   clear j l;rcases d.1.2 with⟨T,_⟩|⟨g,o,c,j,I⟩
   . omega
   rcases p.1.2 with⟨T,_⟩|⟨g',o',c',l,L⟩
   . omega
   simp only[lB,mB]at j l;obtain⟨rfl,rfl⟩:=j;obtain⟨rfl,rfl⟩:=l;have q:=Rd.elem A5 I k _ t 0 _ rfl;have r:=Rd.elem A5 L k _ y 0 _ rfl;rw[<-a.cell (g8 q)]at q;rw[<-a.cell (g8 r)]at r;rw[mO,lJ]at q r;clear I L t y;simp only[]at q r;go_wp2_with fail;go_region_with (go_at_call 25;refine(Dp v v' b _ z.2.2 (by exact z.1) (by exact z.2.1)).mono ?_;rintro e u ⟨rfl,H⟩);all_goals
    have S:Ae (Ah w w u):=a.trans (BP H a.size);clear H a q r;go_wp2;go_roundw;(case rel=>exact⟨k+1,oM,by go_num,S⟩);exact oI
 go_wp2;go_ret;exact⟨rfl,a⟩
theorem LD(v v':VP)(p:MP)(w:Y)(d:p.small)(h:Dm w v p)(x:Dm w v' p):
 Ai Ap 9 #[Am #[v.r,v.k,v.f,v.t],Am #[v'.r,v'.k,v'.f,v'.t]] w λe D=>e=Al true/\Ah w w D:=by
 have u:=XR.of w 37 #[v.r,v.k,v.f,v.t] #[v'.r,v'.k,v'.f,v'.t] rfl rfl;go_enter func9,ntmps9;go_wp2_with fail;refine(LA v.r v'.r p.aC _ d.aC d.region (h.aC.a7 u.ej lR) (x.aC.a7 u.ej lR)).mono ?_;rintro e E ⟨rfl,y⟩;have a:=u.a7 y;clear y u;obtain⟨m,n,q,s,_⟩:=DR a.par;obtain⟨g,i,j,l,_⟩:=DR a.j8;go_wp2_with fail;refine(MW v.k v'.k p.dk _ d.dk (h.dk.a7 a.ej lR) (x.dk.a7 a.ej lR)).mono ?_;rintro e F ⟨rfl,z⟩;have b:=a.a7 z;clear z a m n q s g i j l;obtain⟨m,n,q,s,_⟩:=DR b.par;obtain⟨g,i,j,l,_⟩:=DR b.j8;go_wp2_with fail;refine(OM v.f v'.f p.aD _ d.aD d.func (h.aD.a7 b.ej lR) (x.aD.a7 b.ej lR)).mono ?_;rintro e G ⟨rfl,A⟩;have c:=b.a7 A;clear A b m n q s g i j l;obtain⟨m,n,q,s,_⟩:=DR c.par;obtain⟨g,i,j,l,_⟩:=DR c.j8;go_wp2_with fail;refine(OK v.t v'.t p.e8 _ d.e8 (h.e8.a7 c.ej lR) (x.e8.a7 c.ej lR)).mono ?_;rintro e H ⟨rfl,B⟩;have C:=c.a7 B;clear B c m n q s g i j l;go_wp2;go_ret;exact⟨rfl,C.ej⟩
def KM(left n:Int):Int:=if left-n<0 then -1 else left-n
theorem Cb(a:Option Addr)(n c:Nat)(left:Int)(w:Y)(h:n<=9223372036854775807)(f:0<=left)(g:left<=1048576):
 Ai Ap 36 #[Z a n c,Ag Af left] w λe d=>e=Al (Ag Af (KM left n))/\d=w:=by
 by_cases b:left-n<0
 . have e:KM left n=-1:=lZ b;rw[e];go_enter func36,ntmps36;go_wp2;go_ret;exact⟨rfl,rfl⟩
 have e:KM left n=left-n:=lS b;rw[e];go_enter func36,ntmps36;go_wp2;go_ret;exact⟨rfl,rfl⟩
theorem JM(a:Option Addr)(n c:Nat)(left:Int)(w:Y)(h:n<=9223372036854775807)(f:0<=left)(g:left<=1048576):
 Ai Ap 60 #[Z a n c,Ag Af left] w λe d=>e=Al (Ag Af (KM left n))/\d=w:=by
 by_cases b:left-n<0
 . have e:KM left n=-1:=lZ b;rw[e];go_enter func60,ntmps60;go_wp2;go_ret;exact⟨rfl,rfl⟩
 have e:KM left n=left-n:=lS b;rw[e];go_enter func60,ntmps60;go_wp2;go_ret;exact⟨rfl,rfl⟩
theorem Pe(a:Option Addr)(n c:Nat)(left:Int)(w:Y)(h:n<=9223372036854775807)(f:0<=left)(g:left<=1048576):
 Ai Ap 14 #[Z a n c,Ag Af left] w λe d=>e=Al (Ag Af (KM left n))/\d=w:=by
 by_cases b:left-n<0
 . have e:KM left n=-1:=lZ b;rw[e];go_enter func14,ntmps14;go_wp2;go_ret;exact⟨rfl,rfl⟩
 have e:KM left n=left-n:=lS b;rw[e];go_enter func14,ntmps14;go_wp2;go_ret;exact⟨rfl,rfl⟩
theorem QT(a:Option Addr)(n c:Nat)(left:Int)(w:Y)(h:n<=9223372036854775807)(f:0<=left)(g:left<=1048576):
 Ai Ap 16 #[Z a n c,Ag Af left] w λe d=>e=Al (Ag Af (KM left n))/\d=w:=by
 by_cases b:left-n<0
 . have e:KM left n=-1:=lZ b;rw[e];go_enter func16,ntmps16;go_wp2;go_ret;exact⟨rfl,rfl⟩
 have e:KM left n=left-n:=lS b;rw[e];go_enter func16,ntmps16;go_wp2;go_ret;exact⟨rfl,rfl⟩
theorem Nj(s:J)(fs:List (List Int))(left:Int)(w:Y)(T:fs.length<=9223372036854775807)(N:∀f∈fs,f.length<=9223372036854775807)(h:I5 w s fs)(h0:0<=left)(h1:left<=1048576):
 Ai Ap 13 #[s,Ag Af left] w λe w'=>∃r:Int,e=Al r/\(r=-1\/0<=r/\r<=left/\(fs:Int)<=left/\∀f∈fs,(f:Int)<=left)/\w'=w:=by
 obtain⟨xs,B,z,I⟩:=h;have O:xs.length=fs.length:=by rw[<-B];simp
 have b:Ae (Rd w 1 s fs (Ad BH xs)/\xs.map Prod.fst=fs/\(∀x∈xs,Rd w 1 x.2 x.1 (x.1.flatMap As))/\(∀f∈fs,f.length<=9223372036854775807)/\xs.length= ↑fs):=⟨z,B,I,N,O⟩
 obtain⟨a1,c1,rfl⟩:=z.bW;clear z B I N O;generalize G:fs.length=n at T b⊢;have S:Ae (↑fs=n):=G
 clear G;by_cases hb:left-n<0
 . go_enter func13,ntmps13;go_wp2;go_ret;exact⟨-1,rfl,.inl rfl,rfl⟩
 go_enter func13,ntmps13;go_wp2;go_loopw [1,5] (λl i wr=>∃(k:Nat) (q:Int),k<=n/\l=Ag Af q/\i=Ag Af k/\0<=q/\q<=left/\Ae (∀f∈fs.take k,(f:Int)<=left)/\wr=w) (λ_ i _=>n-(intOf i).toNat)
 case atStart=>exact⟨0,left-n,oM,rfl,rfl,oM,oM,(λf U=>by simp at U),rfl⟩
 obtain⟨k,q,hk,rfl,rfl,C,q1,p,rfl⟩:=hrel;by_cases X:k<n
 . obtain⟨⟨f,v⟩,m⟩:∃x,xs[k]?=K x:=⟨_,an (by rw[b.2.2.2.2];exact X)⟩;have j:=BF b.2.1 m;have A:=b.2.2.1 _ (lA m);have t:=b.2.2.2.1 _ (lA j);simp only[]at A t j;obtain⟨D,E,rfl⟩:=A.bW;rcases b.1.2 with⟨e0,_⟩|⟨g,o,c,F,H⟩
   . omega
   simp only[lB,mB]at F;obtain⟨rfl,rfl⟩:=F;have P:=Rd.elem A5 H k _ m 0 _ rfl;rw[mO,lJ]at P;simp only[]at P;have R:Ae (fs[k]?=K f):=j;clear H m A j;by_cases L:q-↑f<0
   . have d:KM q f=-1:=lZ L;go_wp2_with fail;refine(Cb D f E q wr t C oM).mono ?_;rw[d];rintro e u ⟨rfl,rfl⟩;clear d;go_wp2;go_ret;exact⟨-1,rfl,.inl rfl,rfl⟩
   have d:KM q f=q-f.length:=lS L;go_wp2_with fail;refine(Cb D f E q wr t C oM).mono ?_;rw[d];rintro e u ⟨rfl,rfl⟩;clear d;go_wp2;go_roundw;case rel=>
    refine⟨k+1,q-↑f,oM,rfl,by go_num,oM,oM,?_,by trivial⟩
    intro y a;obtain⟨ae,V⟩:=i8.1 R;rw[l8 ae,V]at a;rcases lT.1 a with a|a
    . exact p.o y a
    simp only[mz]at a;subst a;omega
   case measure=>exact oI
 have W:k=n:=oM;subst W;have Q:Ae (∀f∈fs,(f:Int)<=left):=by have:=p.o;rw[<-S,List.take_length]at this;exact this
 clear p;go_wp2;go_ret;exact⟨q,rfl,.inr ⟨C,q1,oM,Q⟩,rfl⟩
def MF.fits(f:MF):Prop:=f.gU.length<=9223372036854775807/\f.gW.length<=9223372036854775807/\f.bO.length<=9223372036854775807
theorem SJ(v:VF)(f:MF)(left:Int)(w:Y)(D:f.fits)(h:DF w v f)(q:0<=left)(s:left<=1048576):
 Ai Ap 37 #[Am #[v.p,f.gV,v.l,v.c],Ag Af left] w λe E=>∃r:Int,e=Al r/\(r=-1\/0<=r/\r<=left/\f.small)/\Ah w w E:=by
 obtain⟨j,c1,x⟩:=h.1.bW;obtain⟨n,c2,y⟩:=h.2.1.bW;obtain⟨t,c3,z⟩:=h.2.2.bW;rw[x,y,z];clear x y z h;have k:Ah w w (Ac w (Ak #[Z j f.gU c1,f.gV,Z n f.gW c2,Z t f.bO c3] 70)):=(lu _ _).alloc lR _;obtain⟨f1,f2,f3⟩:=D;unfold MF.small;generalize f.gU.length=a at f1 k;generalize f.gW.length=b at f2 k;generalize f.bO.length=g at f3 k;have m:Ae _:=k;clear k;by_cases A:left-a<0
 . have d:KM left a=-1:=lZ A;go_enter func37,ntmps37;go_wp2_with fail;refine(Cb j a c1 left _ f1 q s).mono ?_;rw[d];rintro e u ⟨rfl,rfl⟩;clear d;go_wp2;go_ret;exact⟨-1,rfl,.inl rfl,m⟩
 have d:KM left a=left-a:=lS A;by_cases B:left-a-b<0
 . have i:KM (left-a) b=-1:=lZ B;go_enter func37,ntmps37;go_wp2_with fail;refine(Cb j a c1 left _ f1 q s).mono ?_;rw[d];rintro e u ⟨rfl,rfl⟩;go_wp2_with fail;refine(Cb n b c2 (left-a) _ f2 oM oM).mono ?_;rw[i];rintro e u ⟨rfl,rfl⟩;clear d i;go_wp2;go_ret;exact⟨-1,rfl,.inl rfl,m⟩
 have i:KM (left-a) b=left-a-b:=lS B;by_cases C:left-a-b-g<0
 . have z3:KM (left-a-b) g=-1:=lZ C;go_enter func37,ntmps37;go_wp2_with fail;refine(Cb j a c1 left _ f1 q s).mono ?_;rw[d];rintro e u ⟨rfl,rfl⟩;go_wp2_with fail;refine(Cb n b c2 (left-a) _ f2 oM oM).mono ?_;rw[i];rintro e u ⟨rfl,rfl⟩;go_wp2_with fail;refine(JM t g c3 (left-a-b) _ f3 oM oM).mono ?_;rw[z3];rintro e u ⟨rfl,rfl⟩;clear d i z3;go_wp2;go_ret;exact⟨-1,rfl,.inl rfl,m⟩
 have z3:KM (left-a-b) g=left-a-b-g:=lS C;go_enter func37,ntmps37;go_wp2_with fail;refine(Cb j a c1 left _ f1 q s).mono ?_;rw[d];rintro e u ⟨rfl,rfl⟩;go_wp2_with fail;refine(Cb n b c2 (left-a) _ f2 oM oM).mono ?_;rw[i];rintro e u ⟨rfl,rfl⟩;go_wp2_with fail;refine(JM t g c3 (left-a-b) _ f3 oM oM).mono ?_;rw[z3];rintro e u ⟨rfl,rfl⟩;clear d i z3;go_wp2;go_ret;exact⟨left-a-b-g,rfl,.inr ⟨oM,oM,oM,oM,oM⟩,m⟩
theorem QU(s:J)(fs:List MF)(left:Int)(w:Y)(hL:fs.length<=9223372036854775807)(R:∀f∈fs,f.fits)(h:JU w s fs)(h0:0<=left)(h1:left<=1048576):
 Ai Ap 15 #[s,Ag Af left] w λe w'=>∃r:Int,e=Al r/\(r=-1\/0<=r/\r<=left/\(fs:Int)<=left/\∀f∈fs,f.small)/\Ah w w w':=by
 obtain⟨xs,H,F,Q⟩:=h;have T:xs.length=fs.length:=by rw[<-H];simp
 have j:Ae (Rd w 4 s fs (Ad BR xs)/\xs.map Prod.fst=fs/\(∀x∈xs,DF w x.2 x.1)/\(∀f∈fs,f.fits)/\xs.length= ↑fs):=⟨F,H,Q,R,T⟩
 obtain⟨a1,c1,rfl⟩:=F.bW;clear F H Q R T;generalize N:fs.length=n at hL j⊢;have W:Ae (↑fs=n):=N
 clear N;by_cases hb:left-n<0
 . go_enter func15,ntmps15;go_wp2;go_ret;exact⟨-1,rfl,.inl rfl,lu _ _⟩
 go_enter func15,ntmps15;go_wp2;go_loopw [1,5] (λl i wr=>∃(k:Nat) (q:Int),k<=n/\l=Ag Af q/\i=Ag Af k/\0<=q/\q<=left/\Ae (∀f∈fs.take k,f.small)/\Ah w w wr) (λ_ i _=>n-(intOf i).toNat)
 case atStart=>exact⟨0,left-n,oM,rfl,rfl,oM,oM,(λf hf=>by simp at hf),lu _ _⟩
 obtain⟨k,q,hk,rfl,rfl,U,q1,D,O⟩:=hrel;have a:Ae (Ah w w wr):=O;clear O;by_cases aj:k<n
 . obtain⟨⟨f,v⟩,b⟩:∃x,xs[k]?=K x:=⟨_,an (by rw[j.2.2.2.2];exact aj)⟩;have p:=BF j.2.1 b;have G:=j.2.2.1 _ (lA b);have E:=j.2.2.2.1 _ (lA p);simp only[]at G E p;rcases j.1.2 with⟨e0,_⟩|⟨g,o,c,L,m⟩
   . omega
   simp only[lB,mB]at L;obtain⟨rfl,rfl⟩:=L;have t:=Rd.elem Az m k _ b 0 _ rfl;have z:=Rd.elem Az m k _ b 1 _ rfl;have A:=Rd.elem Az m k _ b 2 _ rfl;have B:=Rd.elem Az m k _ b 3 _ rfl;rw[<-a.cell (g8 t),lJ]at t;rw[<-a.cell (g8 z)]at z;rw[<-a.cell (g8 A)]at A;rw[<-a.cell (g8 B)]at B;simp only[]at t z A B;have C:Ae (fs[k]?=K f/\DF wr v f/\f.fits):=⟨p,G.a7 a lR,E⟩
   clear m b G p E;go_wp2_with fail;refine(SJ v f q wr C.2.2 C.2.1 U oM).mono ?_;rintro e u ⟨r,rfl,hr,P⟩;have I:Ae (Ah w w u):=a.trans (P.mono a.size);clear P a t z A B;rcases hr with rfl|⟨r0,r1,S⟩
   . go_wp2;go_ret;exact⟨-1,rfl,.inl rfl,I⟩
   have X:Ae f.small:=S;clear S;go_wp2;go_roundw;case rel=>
    refine⟨k+1,r,oM,rfl,by go_num,oM,oM,?_,I⟩;intro y d;obtain⟨am,ae⟩:=i8.1 C.1;rw[l8 am,ae]at d;rcases lT.1 d with d|d
    . exact D.o y d
    simp only[mz]at d;subst d;exact X
   case measure=>exact oI
 have ah:k=n:=oM;subst ah;have V:Ae (∀f∈fs,f.small):=by have:=D.o;rw[<-W,List.take_length]at this;exact this
 clear D;go_wp2;go_ret;exact⟨q,rfl,.inr ⟨U,q1,oM,V⟩,a⟩
end Go.Proofs.YtadcneiiokbofaaGreat
