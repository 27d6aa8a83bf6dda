import Derived.Test.YthjbicggfnnonaaGreatDoorRows
import Derived.WalkKit
import Derived.ProofKit
import Derived.Below
import Derived.OpenShut
import Derived.Outline
import Derived.WalkLawsBesides
import Derived.Laws.Rows
import Derived.Laws.OwnMore
import Derived.OwnWalk
import Derived.Deep.QuietTactic
import Derived.BigQuiet
import Derived.Laws.Tables
import Derived.Deep.WholeRow
import Derived.Laws.Entries
import Derived.Great.BuildSlice
import Derived.Laws.CopyOwn
import Derived.Laws.EntriesVeiled
namespace Go.Proofs.YthjbicggfnnonaaGreatDoor
open Go.ChangeShapes Go.WideShapes Go.ChangeAt Go.RowKit
set_option linter.unusedVariables false
set_option maxHeartbeats 2000000
set_option maxRecDepth 100000
variable {n base k B g cap len:Nat}{p:Prop}{w:World}{e:TypeId}{s:Value}{xs:List Value}{α:Type}{t v:Int}{P:Program}{Q:Exit->Act->World->Prop}{l:List Oper}
theorem lR:n<=n:=Nat.le_refl n
theorem _root_.Go.RowKit.Hid.o(h:Hid p):p:=h
theorem oM(h:p:=by omega):p:=h
theorem dC(h:p:=by decide):p:=h
theorem kR(h:p:=by kernel_rfl):p:=h
theorem sP(h:p:=by simp):p:=h
theorem oS(h:p:=by simp only[];omega):p:=h
theorem oX(h:p:=by unfold maxLen;omega):p:=h
theorem oT(h:p:=by simp;omega):p:=h
theorem oE(h:p:=by simp[Act.eval]):p:=h
theorem oI(h:p:=by simp[intOf];omega):p:=h
abbrev an:=@List.getElem?_eq_getElem
abbrev d5:=@block_lt_of_cell
abbrev d7:=@List.getElem?_eq_some_iff
abbrev d9:=@List.mem_of_getElem?
abbrev f6:=@List.length_append
abbrev f7:=@And.intro
abbrev ip:=@Value.slice.injEq
abbrev i4:=@Option.some.injEq
abbrev i5:=@List.getElem?_cons_zero
abbrev i6:=@bodyPost_ret
abbrev i7:=@Int.eq_ofNat_of_zero_le
abbrev i8:=@List.getElem?_cons_succ
abbrev i9:=@ownsRow_setCell_other
abbrev jX:=@Nat.le_trans
abbrev jY:=@List.length_singleton
abbrev jZ:=@List.getElem?_toArray
abbrev kB:=@List.mem_append
abbrev kD:=@Nat.add_zero
abbrev kF:=@List.getD_eq_getElem?_getD
abbrev kG:=@List.flatMap_cons
abbrev kH:=@Option.some.inj
abbrev kI:=@List.setIfInBounds_toArray
abbrev kJ:=@Int.toNat_natCast
abbrev kK:=@List.getElem?_eq_none
abbrev kL:=@List.cons_append
abbrev kM:=@List.mem_singleton
abbrev kN:=@Array.getElem?_eq_some_iff
abbrev kO:=@List.flatMap_append
abbrev kQ:=@List.take_succ_eq_append_getElem
abbrev kS:=@info_parts
abbrev kT:=@List.append_assoc
abbrev kU:=@true_and
abbrev kV:=@Below.refl
abbrev kW:=@World.ownsRow.cellAt
abbrev kX:=@List.set_cons_zero
abbrev kY:=@List.length_cons
abbrev kZ:=@List.length_map
abbrev ka:=@List.mem_cons
abbrev kb:=@List.set_cons_succ
abbrev ke:=@bodyPost_end
abbrev kf:=@List.nil_append
abbrev kg:=@Nat.ne_of_lt
abbrev kh:=@List.getElem?_map
abbrev ki:=@Nat.zero_add
abbrev kj:=@List.count_cons
abbrev kl:=@List.count_append
abbrev km:=@heap_setCell_other
abbrev kn:=@Nat.mul_one
abbrev ko:=@World.ownsRow_lit
abbrev kp:=@List.length_nil
abbrev kr:=@List.not_mem_nil
abbrev ks:=@ownsRow_setCell_below
abbrev ku:=@List.getElem_mem
abbrev kw:=@List.mem_cons_of_mem
abbrev kx:=@World.ownsRow.frozenAt
abbrev ky:=@List.getElem?_append_right
abbrev lA:=@Nat.lt_of_lt_of_le
abbrev lB:=@List.length_take
abbrev lC:=@List.count_nil
abbrev lD:=@List.sublist_append_left
abbrev lE:=@if_neg
abbrev lF:=@Addr.mk.injEq
abbrev lG:=@List.flatMap_nil
abbrev lH:=@List.take_of_length_le
abbrev lI:=@if_pos
abbrev lJ:=@World.ownsRow_nil
abbrev lK:=@List.getElem?_append_left
abbrev lL:=@List.mem_map
abbrev lM:=@World.size_setCell
abbrev lN:=@List.length_drop
abbrev lO:=@List.length_range
abbrev lP:=@List.mem_flatMap
abbrev lQ:=@wpList_make_full
abbrev lS:=@List.mem_cons_self
abbrev lT:=@Int.emod_lt_of_pos
abbrev lU:=@IntWalk.i64_in
abbrev lV:=@List.eq_nil_of_length_eq_zero
abbrev lW:=@List.map_append
abbrev lX:=@List.pairwise_append
abbrev lY:=@List.getElem?_of_mem
abbrev lZ:=@Obj.cells.injEq
abbrev la:=@List.ext_getElem?
abbrev ld:=@decide_eq_false
abbrev lg:=@Option.map_eq_some_iff
abbrev lh:=@Int.emod_nonneg
abbrev li:=@World.cell?_setCell_other
abbrev lj:=@List.getElem?_set_ne
abbrev lm:=@World.ownsRow.stored
abbrev ln:=@World.size_alloc
abbrev lp:=@and_true
abbrev lq:=@heap_alloc_new
abbrev lr:=@Nat.zero_le
abbrev lu:=@List.getElem?_set_self
abbrev lw:=@List.length_set
abbrev ly:=@or_false
abbrev lz:=@List.mem_of_mem_take
abbrev l3:=@List.pairwise_cons
abbrev mB:=@List.filter_append
abbrev mD:=@List.mem_range
abbrev mF:=@List.range_succ
abbrev mG:=@List.length_filter_le
abbrev mH:=@List.perm_append_comm
abbrev mI:=@List.flatten_replicate_singleton
abbrev mJ:=@cell_of_row
abbrev mK:=@World.cell?_of_block
abbrev mL:=@List.map_cons
abbrev mM:=@List.mem_or_eq_of_mem_set
abbrev mN:=@List.take_append_drop
abbrev mO:=@Nat.add_sub_cancel_left
abbrev mP:=@decide_eq_true_eq
abbrev mQ:=@List.length_reverse
abbrev mR:=@List.set_append_right
abbrev mS:=@Bool.false_ne_true
abbrev mT:=@Int.mul_le_mul_of_nonneg_right
abbrev mU:=@Bool.false_eq_true
abbrev mV:=@beq_eq_false_iff_ne
abbrev mW:=@List.map_congr_left
abbrev mX:=@List.filter_cons
abbrev mY:=@List.getElem?_zipWith
abbrev mZ:=@Classical.byContradiction
abbrev mc:=@Array.getElem?_eq_getElem
abbrev mg:=@Go.IntWalk.i64_in
abbrev mh:=@List.idxOf_lt_length_iff
abbrev mi:=@List.replicate_succ
abbrev mj:=@Int.toNat_of_nonneg
abbrev mm:=@Option.getD_some
abbrev mo:=@List.pairwise_singleton
abbrev mq:=@Nat.add_mul
abbrev mr:=@Nat.le_of_lt
abbrev ms:=@List.mem_filter
abbrev mt:=@List.filter_nil
abbrev mu:=@List.nodup_append
abbrev mv:=@of_decide_eq_true
abbrev mw:=@List.mem_of_mem_tail
abbrev mx:=@List.mem_of_mem_drop
abbrev my:=@List.drop_eq_getElem_cons
abbrev mz:=@List.pairwise_iff_getElem
abbrev m5:=@List.length_pos_iff
abbrev m7:=@List.perm_iff_count
abbrev m9:=@World.cell?_setCell_same
abbrev nB:=@Array.getElem?_push_size
abbrev nD:=@List.append_nil
abbrev nF:=@Option.map_some
abbrev nG:=@Bool.eq_iff_iff
abbrev nH:=@List.getElem?_drop
abbrev nI:=@List.drop_of_length_le
abbrev nJ:=@List.mem_reverse
abbrev nL:=@Bool.and_eq_true
abbrev nM:=@List.all_eq_true
abbrev nN:=@List.cons.injEq
abbrev nO:=@List.getElem?_range
abbrev nP:=@Nat.sub_self
abbrev nQ:=@Nat.lt_succ_self
abbrev nR:=@decide_eq_false_iff_not
abbrev nS:=@List.length_replicate
abbrev nT:=@List.map_map
def Rd(w:World)(k:Nat)(s:Value)(n:Nat)(xs:List Value):Prop:=xs.length=n*k/\((n=0/\∃a c,s=.slice a 0 c)\/∃g o c,s=.slice (some ⟨g,o,none⟩) n c/\∀j u,xs[j]?=some u->w.cell? ⟨g,o+j,none⟩=some u)
theorem Rd.cB(h:w.ownsRow base e k s n xs):Rd w k s n xs:=by
 refine⟨by simpa using h.1,?_⟩;rcases h.2 with⟨rfl,rfl⟩|⟨g,cap,b,rfl,i,c,p,l,m,f⟩
 . exact .inl ⟨rfl,_,_,rfl⟩
 refine .inr ⟨g,0,cap,rfl,fun j u a=> ?_⟩;rw[mJ w g _ b e _ c,ki];rw[<-f]at a;obtain⟨d,a⟩:=d7.1 a;rw[List.getElem_take]at a;rw[<-a];simp at d;rw[mc oM];simp
theorem Rd.aa{w b:World}(h:Rd w k s n xs)(e:Below B w b)(d:w.heap.size<=B):Rd b k s n xs:=by
 obtain⟨a,h|⟨g,o,c,rfl,f⟩⟩:=h
 . exact⟨a,.inl h⟩
 refine⟨a,.inr ⟨g,o,c,rfl,fun j u i=> ?_⟩⟩;have h1:=f j u i;rw[e.cell (lA (d5 h1) d)];exact h1
theorem Rd.bW(h:Rd w k s n xs):∃a c,s=.slice a n c:=by rcases h.2 with⟨rfl,a,c,rfl⟩|⟨g,o,c,rfl,_⟩<;>exact⟨_,_,rfl⟩
theorem Ai{w b:World}(h:w.ownsRow base e k s n xs)(i:Below B w b)(f:w.heap.size<=B):b.ownsRow base e k s n xs:=by
 refine⟨h.1,?_⟩;rcases h.2 with h|⟨g,cap,c,d,j,a,l⟩
 . exact .inl h
 refine .inr ⟨g,cap,c,d,j,?_,l⟩;rw[i.block g (lA (kN.1 a).1 f)];exact a
theorem Av(f:α->List Value)(m:Nat)(b:∀y,(f y).length=m)(a:List α):(a.flatMap f).length=a.length*m:=by
 induction a with
 |nil=>simp
 |cons y r c=>rw[kG,f6,c,b,kY,mq];omega
theorem CQ(f:α->List Value)(m:Nat)(b:∀y,(f y).length=m)(c:List α)(k j:Nat)(y:α)(a:c[k]?=some y)(d:j<m):(c.flatMap f)[k*m+j]?=(f y)[j]?:=by
 induction c generalizing k with
 |nil=>cases a
 | cons x r e=>
   rw[kG];cases k with
   | zero=>simp only[i5,i4]at a;subst a;rw[Nat.zero_mul,ki,lK (by rw[b];exact d)]
   | succ k=>rw[i8]at a;rw[ky (by rw[b,mq];omega),b,<-e k a];(congr 1);rw[mq];omega
def Dd{α:Type}(f:α->List Value)(z:List Value)(a:List α)(k n:Nat):List Value:=(a.take k).flatMap f++(List.replicate (n-k) z).flatten
theorem O9(f:α->List Value)(z:List Value)(a:List α)(n:Nat)(h:a.length=n):Dd f z a n n=a.flatMap f:=by simp[Dd,<-h]
theorem FM(f:α->List Value)(z:List Value)(s:List α)(n:Nat)(v:Value)(m:Nat)(k:v.cells=z.toArray)(h:z.length=m)(c:0<m):(madeCells v.cells (n*m)).toList=Dd f z s 0 n:=by
 subst h;rw[k];unfold Dd;rw[List.take_zero,lG,kf,Nat.sub_zero];apply la;intro i;have g:(List.replicate n z).flatten=(List.replicate n z).flatMap id:=by simp[List.flatMap_id]
 by_cases b:i<n*z.length
 . have j:i / z.length<n:=(Nat.div_lt_iff_lt_mul c).2 b;have a:=Nat.mod_lt i c;(have e:i=i / z.length*z.length+i % z.length:=by rw[Nat.mul_comm];exact(Nat.div_add_mod i z.length).symm);have l:(List.replicate n z).flatten[i]?=z[i % z.length]?:=by
    (conv=>lhs;rw[e]);clear e;generalize i / z.length=q at j;generalize i % z.length=r at a;clear b g;induction n generalizing q with
    |zero=>omega
    | succ n p=>
      rw[mi,List.flatten_cons];cases q with
      |zero=>rw[Nat.zero_mul,ki,lK a]
      | succ q=>rw[ky (by rw[mq];omega),<-p q oM];(congr 1);rw[mq];omega
   rw[l];(have d:i<(madeCells z.toArray (n*z.length)).toList.length:=by simp[madeCells];exact b);rw[an d,an a];simp[madeCells];rw[an a];rfl
 have h1:(madeCells z.toArray (n*z.length)).toList.length<=i:=by simp[madeCells];omega
 have h2:(List.replicate n z).flatten.length<=i:=by rw[List.length_flatten];simp;omega
 rw[kK h1,kK h2]
theorem GE(f:α->List Value)(z:List Value)(a:List α)(k n:Nat)(b:k<n):Dd f z a k n=(a.take k).flatMap f++(z++(List.replicate (n-(k+1)) z).flatten):=by unfold Dd;have e:n-k=(n-(k+1))+1:=oM;rw[e,mi,List.flatten_cons]
theorem NO(f:α->List Value)(z:List Value)(a:List α)(k n:Nat)(y:α)(c:a[k]?=some y):Dd f z a (k+1) n=(a.take k).flatMap f++(f y++(List.replicate (n-(k+1)) z).flatten):=by unfold Dd;obtain⟨b,rfl⟩:=d7.1 c;rw[kQ b,kO,kT];simp
theorem Wk(A R:List Value)(a c0:Value)(i:Nat)(h:A.length=i):(A++([a]++R)).set i c0=A++([c0]++R):=by subst h;simp
theorem set2(A R:List Value)(a b c0 c1:Value)(i:Nat)(h:A.length=i):((A++([a,b]++R)).set i c0).set (i+1) c1=A++([c0,c1]++R):=by subst h;simp[List.set_append_right]
theorem WE(A R:List Value)(a b c d c0 c1 c2 c3:Value)(i:Nat)(h:A.length=i):((((A++([a,b,c,d]++R)).set i c0).set (i+1) c1).set (i+2) c2).set (i+3) c3=A++([c0,c1,c2,c3]++R):=by subst h;simp[List.set_append_right]
theorem Rd.elem{f:α->List Value}{m:Nat}{a:List α}{g o:Nat}(b:∀y,(f y).length=m)(h:∀j u,(a.flatMap f)[j]?=some u->w.cell? ⟨g,o+j,none⟩=some u)(k:Nat)(y:α)(e:a[k]?=some y)(j:Nat)(u:Value)(c:(f y)[j]?=some u):w.cell? ⟨g,o+k*m+j,none⟩=some u:=by
 have d:j<m:=by rw[<-b y];exact(d7.1 c).1
 rw[Nat.add_assoc];exact h _ u ((CQ f m b a k j y e d).trans c)
theorem Ag(h:p):Hid p:=h
abbrev sN:Value:=.slice none 0 0
abbrev sG(g n c:Nat):Value:=.slice (some ⟨g,0,none⟩) n c
abbrev sO(g o n c:Nat):Value:=.slice (some ⟨g,o,none⟩) n c
abbrev iZ(z:Int):Value:=.int .i64 z
theorem infoBD:(Tryz.prog.info? 5).map (fun i=>(i.zero,i.size,i.bytes))=some (some (.int .u8 0),1,1):=kR
def DB(m:Int)(k n:Nat):List Value:=(List.range n).map fun i=>.int .u8 (if i<k then m / 2 ^ (8*i) % 256 else 0)
theorem Ig(m:Int)(n:Nat):(madeCells (Value.int .u8 0).cells (n*1)).toList=DB m 0 n:=by
 apply List.ext_getElem
 . simp[madeCells,DB]
 intro i h1 h2;simp[madeCells,DB,Value.cells,Nat.mod_one]
theorem Ie(m:Int)(k n:Nat)(b:k<n):(DB m k n).set k (.int .u8 (m / 2 ^ (8*k) % 256))=DB m (k+1) n:=by
 apply List.ext_getElem
 . simp[DB]
 intro i h1 h2;rw[List.getElem_set];by_cases e:k=i
 . subst e;simp[DB]
 simp only[e,if_false,DB,List.getElem_map,List.getElem_range];by_cases a:i<k
 . rw[lI a,lI oM]
 rw[lE a,lE oM]
theorem Ox(m:Int)(n:Nat)(w:World)(H:n<=2)(F:0<=m)(c:2=1->m<=255):
 Calls Tryz.prog 83 #[.int .u16 m,.int .i64 n] w fun e q=>∃v,e=.returned v/\q.ownsRow w.heap.size 5 1 v n (DB m n n)/\Below w.heap.size w q:=by
 obtain⟨D,u,A,B,C⟩:=kS infoBD;have r:Hid (2=1->m<=255):=c;clear c;go_enter Tryz.func83,Tryz.ntmps83;go_wp2_with (at_make;refine lQ _ rfl _ _ 22 rfl w.heap.size 5 D (.int .u8 0) 1 Tryz.underlying22 u A B .i64 .i64 _ _ n rfl rfl rfl rfl (by rw[C];omega) oX lR ?_;intro E a g);rw[Ig m n]at a;have d:Below w.heap.size w E:=(kV _ _).grown g lR (fun k h=>by cases h);clear g;go_loopw [11] (fun i wr=>∃k:Nat,k<=n/\i=.int .i64 k/\wr.ownsRow w.heap.size 5 1 (.slice (some ⟨w.heap.size,0,none⟩) n n) n (DB m k n)/\Below w.heap.size w wr) (fun i _=>n-(intOf i).toNat)
 case atStart=>exact⟨0,oM,rfl,a,d⟩
 clear a d;obtain⟨k,h,rfl,a,f⟩:=hrel;by_cases z:k<n
 . have s:=a.cellAt k oM;have G:=a.frozenAt k;have b:Hid (wr.ownsRow w.heap.size 5 1 (.slice (some ⟨w.heap.size,0,none⟩) n n) n (DB m k n)):=a;clear a;obtain⟨p,j⟩:∃p,(DB m k n)[k]?=some p:=⟨_,an (by simp[DB];omega)⟩;rw[j]at s;clear j;go_wp2;go_roundw;case rel=>
    refine⟨k+1,oM,by go_num,?_,f.setCell lR _⟩;have l:=(b.o.stored k (.int .u8 (m / 2 ^ (8*k) % 256))).1;rw[Ie m k n z]at l;have t:m / 2 ^ (8*k) % 256=m / 2 ^ (8*k) % 256:=by
     first
      |rfl
      | (have h1:=r.o (by first|rfl|trivial)
         have x:k=0:=oM;subst x;simp;omega)
    rw[t];exact l
   case measure=>exact oI
 have y:k=n:=oM;subst y;have b:Hid (wr.ownsRow w.heap.size 5 1 (.slice (some ⟨w.heap.size,0,none⟩) k k) k (DB m k k)):=a;clear a;go_wp2;go_ret;exact⟨_,rfl,b.o,f⟩
theorem J7(m:Int)(n:Nat)(w:World)(H:n<=4)(F:0<=m)(c:4=1->m<=255):
 Calls Tryz.prog 84 #[.int .u32 m,.int .i64 n] w fun e q=>∃v,e=.returned v/\q.ownsRow w.heap.size 5 1 v n (DB m n n)/\Below w.heap.size w q:=by
 obtain⟨D,u,A,B,C⟩:=kS infoBD;have r:Hid (4=1->m<=255):=c;clear c;go_enter Tryz.func84,Tryz.ntmps84;go_wp2_with (at_make;refine lQ _ rfl _ _ 22 rfl w.heap.size 5 D (.int .u8 0) 1 Tryz.underlying22 u A B .i64 .i64 _ _ n rfl rfl rfl rfl (by rw[C];omega) oX lR ?_;intro E a g);rw[Ig m n]at a;have d:Below w.heap.size w E:=(kV _ _).grown g lR (fun k h=>by cases h);clear g;go_loopw [11] (fun i wr=>∃k:Nat,k<=n/\i=.int .i64 k/\wr.ownsRow w.heap.size 5 1 (.slice (some ⟨w.heap.size,0,none⟩) n n) n (DB m k n)/\Below w.heap.size w wr) (fun i _=>n-(intOf i).toNat)
 case atStart=>exact⟨0,oM,rfl,a,d⟩
 clear a d;obtain⟨k,h,rfl,a,f⟩:=hrel;by_cases z:k<n
 . have s:=a.cellAt k oM;have G:=a.frozenAt k;have b:Hid (wr.ownsRow w.heap.size 5 1 (.slice (some ⟨w.heap.size,0,none⟩) n n) n (DB m k n)):=a;clear a;obtain⟨p,j⟩:∃p,(DB m k n)[k]?=some p:=⟨_,an (by simp[DB];omega)⟩;rw[j]at s;clear j;go_wp2;go_roundw;case rel=>
    refine⟨k+1,oM,by go_num,?_,f.setCell lR _⟩;have l:=(b.o.stored k (.int .u8 (m / 2 ^ (8*k) % 256))).1;rw[Ie m k n z]at l;have t:m / 2 ^ (8*k) % 256=m / 2 ^ (8*k) % 256:=by
     first
      |rfl
      | (have h1:=r.o (by first|rfl|trivial)
         have x:k=0:=oM;subst x;simp;omega)
    rw[t];exact l
   case measure=>exact oI
 have y:k=n:=oM;subst y;have b:Hid (wr.ownsRow w.heap.size 5 1 (.slice (some ⟨w.heap.size,0,none⟩) k k) k (DB m k k)):=a;clear a;go_wp2;go_ret;exact⟨_,rfl,b.o,f⟩
theorem FS(m:Int)(n:Nat)(w:World)(H:n<=8)(F:0<=m)(c:8=1->m<=255):
 Calls Tryz.prog 85 #[.int .u64 m,.int .i64 n] w fun e q=>∃v,e=.returned v/\q.ownsRow w.heap.size 5 1 v n (DB m n n)/\Below w.heap.size w q:=by
 obtain⟨D,u,A,B,C⟩:=kS infoBD;have r:Hid (8=1->m<=255):=c;clear c;go_enter Tryz.func85,Tryz.ntmps85;go_wp2_with (at_make;refine lQ _ rfl _ _ 22 rfl w.heap.size 5 D (.int .u8 0) 1 Tryz.underlying22 u A B .i64 .i64 _ _ n rfl rfl rfl rfl (by rw[C];omega) oX lR ?_;intro E a g);rw[Ig m n]at a;have d:Below w.heap.size w E:=(kV _ _).grown g lR (fun k h=>by cases h);clear g;go_loopw [11] (fun i wr=>∃k:Nat,k<=n/\i=.int .i64 k/\wr.ownsRow w.heap.size 5 1 (.slice (some ⟨w.heap.size,0,none⟩) n n) n (DB m k n)/\Below w.heap.size w wr) (fun i _=>n-(intOf i).toNat)
 case atStart=>exact⟨0,oM,rfl,a,d⟩
 clear a d;obtain⟨k,h,rfl,a,f⟩:=hrel;by_cases z:k<n
 . have s:=a.cellAt k oM;have G:=a.frozenAt k;have b:Hid (wr.ownsRow w.heap.size 5 1 (.slice (some ⟨w.heap.size,0,none⟩) n n) n (DB m k n)):=a;clear a;obtain⟨p,j⟩:∃p,(DB m k n)[k]?=some p:=⟨_,an (by simp[DB];omega)⟩;rw[j]at s;clear j;go_wp2;go_roundw;case rel=>
    refine⟨k+1,oM,by go_num,?_,f.setCell lR _⟩;have l:=(b.o.stored k (.int .u8 (m / 2 ^ (8*k) % 256))).1;rw[Ie m k n z]at l;have t:m / 2 ^ (8*k) % 256=m / 2 ^ (8*k) % 256:=by
     first
      |rfl
      | (have h1:=r.o (by first|rfl|trivial)
         have x:k=0:=oM;subst x;simp;omega)
    rw[t];exact l
   case measure=>exact oI
 have y:k=n:=oM;subst y;have b:Hid (wr.ownsRow w.heap.size 5 1 (.slice (some ⟨w.heap.size,0,none⟩) k k) k (DB m k k)):=a;clear a;go_wp2;go_ret;exact⟨_,rfl,b.o,f⟩
theorem PN(m:Int)(n:Nat)(w:World)(H:n<=1)(F:0<=m)(c:1=1->m<=255):
 Calls Tryz.prog 82 #[.int .u8 m,.int .i64 n] w fun e q=>∃v,e=.returned v/\q.ownsRow w.heap.size 5 1 v n (DB m n n)/\Below w.heap.size w q:=by
 obtain⟨D,u,A,B,C⟩:=kS infoBD;have r:Hid (1=1->m<=255):=c;clear c;go_enter Tryz.func82,Tryz.ntmps82;go_wp2_with (at_make;refine lQ _ rfl _ _ 22 rfl w.heap.size 5 D (.int .u8 0) 1 Tryz.underlying22 u A B .i64 .i64 _ _ n rfl rfl rfl rfl (by rw[C];omega) oX lR ?_;intro E a g);rw[Ig m n]at a;have d:Below w.heap.size w E:=(kV _ _).grown g lR (fun k h=>by cases h);clear g;go_loopw [11] (fun i wr=>∃k:Nat,k<=n/\i=.int .i64 k/\wr.ownsRow w.heap.size 5 1 (.slice (some ⟨w.heap.size,0,none⟩) n n) n (DB m k n)/\Below w.heap.size w wr) (fun i _=>n-(intOf i).toNat)
 case atStart=>exact⟨0,oM,rfl,a,d⟩
 clear a d;obtain⟨k,h,rfl,a,f⟩:=hrel;by_cases z:k<n
 . have s:=a.cellAt k oM;have G:=a.frozenAt k;have b:Hid (wr.ownsRow w.heap.size 5 1 (.slice (some ⟨w.heap.size,0,none⟩) n n) n (DB m k n)):=a;clear a;obtain⟨p,j⟩:∃p,(DB m k n)[k]?=some p:=⟨_,an (by simp[DB];omega)⟩;rw[j]at s;clear j;go_wp2;go_roundw;case rel=>
    refine⟨k+1,oM,by go_num,?_,f.setCell lR _⟩;have l:=(b.o.stored k (.int .u8 (m / 2 ^ (8*k) % 256))).1;rw[Ie m k n z]at l;have t:m / 2 ^ (8*k)=m / 2 ^ (8*k) % 256:=by
     first
      |rfl
      | (have h1:=r.o (by first|rfl|trivial)
         have x:k=0:=oM;subst x;simp;omega)
    rw[t];exact l
   case measure=>exact oI
 have y:k=n:=oM;subst y;have b:Hid (wr.ownsRow w.heap.size 5 1 (.slice (some ⟨w.heap.size,0,none⟩) k k) k (DB m k k)):=a;clear a;go_wp2;go_ret;exact⟨_,rfl,b.o,f⟩
def Fk(t:Int):Bool:=decide (1<=t/\t<=3)
theorem N7(h:1<=t)(a:t<=3):Fk t=true:=by unfold Fk;simp;omega
theorem Ib(h:t<1\/3<t):Fk t=false:=by unfold Fk;simp;omega
def word(b:Bool):Int:=if b then 1 else 0
theorem Ex(t:Int)(w:World):Calls Tryz.prog 104 #[.int .i64 t] w fun e b=>e=.returned (.bool (Fk t))/\b=w:=by
 by_cases h1:1<=t
 . by_cases a:t<=3
   . rw[N7 h1 a];go_enter Tryz.func104,Tryz.ntmps104;go_wp2;go_ret;exact⟨rfl,rfl⟩
   rw[Ib oM];go_enter Tryz.func104,Tryz.ntmps104;go_wp2;go_ret;exact⟨rfl,rfl⟩
 rw[Ib oM];go_enter Tryz.func104,Tryz.ntmps104;go_wp2;go_ret;exact⟨rfl,rfl⟩
theorem Ey(t:Int)(w:World):Calls Tryz.prog 70 #[.int .i64 t] w fun e b=>e=.returned (.bool (Fk t))/\b=w:=by
 by_cases h1:1<=t
 . by_cases a:t<=3
   . rw[N7 h1 a];go_enter Tryz.func70,Tryz.ntmps70;go_wp2;go_ret;exact⟨rfl,rfl⟩
   rw[Ib oM];go_enter Tryz.func70,Tryz.ntmps70;go_wp2;go_ret;exact⟨rfl,rfl⟩
 rw[Ib oM];go_enter Tryz.func70,Tryz.ntmps70;go_wp2;go_ret;exact⟨rfl,rfl⟩
def Fj(P:Program):List Oper->Act->Option Act
 |[],a=>some a
 | o ::r,a=>
   match o.guard,o.op with
   | none,.build t parts=>
     match P.built t (parts.map fun(i,x)=>(i,a.eval x)).toList with
     |some cells=>Fj P r (a.put o.dst (.agg cells))
     |none=>none
   |_,_=>none
theorem Ga{c:Array Oper}{a':Act}(rest:List Oper)(h:wpList P c Q rest a' w):
 ∀(l:List Oper) (a:Act),Fj P l a=some a'->wpList P c Q (l++rest) a w
 | [],a,hb=>by simp only[Fj,i4]at hb;subst hb;exact h
 | o ::r,a,hb=>by
   unfold Fj at hb;split at hb
   . next t parts d e=>
     split at hb
     . next cells b=>
       refine wpList_build d t parts e (by rw[b];rfl) ?_;rw[b];exact Ga rest h r _ hb
     . cases hb
   . cases hb
theorem Na{r:Array Oper}{a:Act}(n:Nat)(e t:TypeId)(x y:Operand)(g:Nat)(cells d:Array Value)(p:Tmp)
 (i:(Fj P (l.take n) a).map (fun a'=>(a'.eval x,a'.eval y,a'.tmps.getD p undef,a'.defers))=some (.pointer (some ⟨g,0,none⟩),.agg cells,.pointer (some ⟨g,0,none⟩),[]))
 (b:(l.drop n).map (fun o=>(o.guard,o.op,o.dst))=[(none,.store e x y,none)])
 (j:w.heap[g]?=some (.cells d t (0,0))) (k:(P.info? e).map (·.size)=some cells.size)
 (m:d.size=cells.size) (h1:cells.all (·.oneCell')=true)
 (h:∀a',a'.tmps.getD p undef=.pointer (some ⟨g,0,none⟩)->a'.defers=[]->Q .normal a' (w.setRow g cells)):wpList P r Q l a w:=by
 rw[<-mN n l];obtain⟨a',f,c⟩:=lg.1 i;simp only[Prod.mk.injEq]at c;refine Ga (a':=a') _ ?_ _ _ f;generalize l.drop n=q at b;rcases q with _|⟨o,_|⟨u,s⟩⟩
 . cases b
 . simp only[mL,List.map_nil,nN,Prod.mk.injEq,lp]at b;refine wpList_store_row b.1 e x y b.2.1 g cells c.1 c.2.1 t d j k m h1 ?_;rw[b.2.2];exact wpList_nil (h _ c.2.2.1 c.2.2.2)
 simp at b
abbrev B32:=BitVec 32
def Wi:B32:=3988292384#32
def Ly(r:B32):B32:=(r >>> 1) ^^^ (if r.getLsbD 0 then Wi else 0#32)
def GD:Nat->B32->B32
 |0,r=>r
 |n+1,r=>Ly (GD n r)
theorem NH(a b:B32):Ly (a ^^^ b)=Ly a ^^^ Ly b:=by unfold Ly;rw[BitVec.ushiftRight_xor_distrib,BitVec.getLsbD_xor];apply BitVec.eq_of_getLsbD_eq;intro i c;simp only[BitVec.getLsbD_xor];cases a.getLsbD 0<;>cases b.getLsbD 0<;>simp[Bool.xor_comm,Bool.xor_left_comm]
theorem RX(n:Nat)(a b:B32):GD n (a ^^^ b)=GD n a ^^^ GD n b:=by
 induction n with
 |zero=>rfl
 |succ n c=>unfold GD;rw[c,NH]
theorem RW(m n:Nat)(r:B32):GD (m+n) r=GD m (GD n r):=by
 induction m with
 |zero=>rw[ki];rfl
 |succ m a=>rw[Nat.succ_add];unfold GD;rw[a]
theorem QO(n:Nat)(r:B32)(h:∀i,i<n->r.getLsbD i=false):GD n r=r >>> n:=by
 induction n with
 |zero=>simp[GD]
 | succ n c=>unfold GD;rw[c fun i b=>h i oM];unfold Ly;(have a:(r >>> n).getLsbD 0=false:=by simp[h n oM]);rw[a];apply BitVec.eq_of_getLsbD_eq;intro i b;simp[Nat.add_comm,Nat.add_left_comm]
def sumTab:List Int:=[0,498536548,997073096,651767980,1994146192,1802195444,1303535960,1342533948,3988292384,4027552580,3604390888,3412177804,2607071920,2262029012,2685067896,3183342108]
theorem UY:∀k:Fin 16,GD 4 (BitVec.ofNat 32 k.val)=BitVec.ofInt 32 (sumTab.getD k.val 0):=dC
def Jj(r:B32):B32:=(r >>> 4) ^^^ BitVec.ofInt 32 (sumTab.getD (r &&& 15#32).toNat 0)
theorem SI(r:B32):(r &&& 15#32).toNat<16:=by rw[BitVec.toNat_and];have:(15#32).toNat=15:=dC;rw[this];exact Nat.lt_succ_of_le Nat.and_le_right
theorem Qh(r:B32):Jj r=GD 4 r:=by
 have d:r=(r &&& ~~~15#32) ^^^ (r &&& 15#32):=by apply BitVec.eq_of_getLsbD_eq;intro i a;simp only[BitVec.getLsbD_xor,BitVec.getLsbD_and,BitVec.getLsbD_not,a,decide_true,Bool.true_and];cases r.getLsbD i<;>cases (15#32).getLsbD i<;>rfl
 have c:r &&& 15#32=BitVec.ofNat 32 (r &&& 15#32).toNat:=sP;have h1:GD 4 (r &&& ~~~15#32)=r >>> 4:=by
  rw[QO]
  . apply BitVec.eq_of_getLsbD_eq;intro i a;rw[BitVec.getLsbD_ushiftRight,BitVec.getLsbD_ushiftRight,BitVec.getLsbD_and,BitVec.getLsbD_not];(have:(15#32).getLsbD (4+i)=false:=by rw[BitVec.getLsbD_ofNat,Nat.testBit_lt_two_pow (lA (show 15<2 ^ 4 from dC) (Nat.pow_le_pow_right dC oM))];simp);rw[this];by_cases h:4+i<32
    . simp[h]
    simp[BitVec.getLsbD_of_ge _ _ (show 32<=4+i from oM)]
  intro i a;have b:i=0\/i=1\/i=2\/i=3:=oM
  rcases b with rfl|rfl|rfl|rfl<;>simp
 have h2:GD 4 (r &&& 15#32)=BitVec.ofInt 32 (sumTab.getD (r &&& 15#32).toNat 0):=by have:=UY ⟨(r &&& 15#32).toNat,SI r⟩;rw[<-this,<-c]
 conv=>rhs;rw[d]
 rw[RX,h1,h2];rfl
def QH(r:B32)(b:Bool):B32:=(r >>> 1) ^^^ (if(b != r.getLsbD 0)then Wi else 0#32)
def Fz(r x:B32):Nat->B32
 |0=>r
 |k+1=>QH (Fz r x k) (x.getLsbD k)
theorem Tz(r:B32)(b:Bool):QH r b=Ly (r ^^^ (if b then 1#32 else 0#32)):=by
 unfold QH Ly;rw[BitVec.ushiftRight_xor_distrib,BitVec.getLsbD_xor];cases b
 . simp
 cases h:r.getLsbD 0<;>simp
theorem QI(r x:B32)(k:Nat):Fz r x k ^^^ (x >>> k)=GD k (r ^^^ x):=by
 induction k with
 |zero=>simp[Fz,GD]
 | succ k f=>
   unfold Fz GD;have a:((x >>> k) ^^^ (if x.getLsbD k then 1#32 else 0#32)).getLsbD 0=false:=by
    rw[BitVec.getLsbD_xor,BitVec.getLsbD_ushiftRight];cases h:x.getLsbD k
    . simp
    simp
   (have h1:(if x.getLsbD k then 1#32 else 0#32) >>> 1=0#32:=by cases x.getLsbD k<;>decide);(have d:Ly ((x >>> k) ^^^ (if x.getLsbD k then 1#32 else 0#32))=x >>> (k+1):=by unfold Ly;rw[a,BitVec.ushiftRight_xor_distrib,h1];apply BitVec.eq_of_getLsbD_eq;intro i c;simp[Nat.add_comm,Nat.add_left_comm]);(have e:Fz r x k ^^^ (x >>> k)=(Fz r x k ^^^ (if x.getLsbD k then 1#32 else 0#32)) ^^^ ((x >>> k) ^^^ (if x.getLsbD k then 1#32 else 0#32)):=by generalize (if x.getLsbD k then 1#32 else 0#32)=b;apply BitVec.eq_of_getLsbD_eq;intro i c;simp only[BitVec.getLsbD_xor];cases (Fz r x k).getLsbD i<;>cases (x >>> k).getLsbD i<;>cases b.getLsbD i<;>rfl);rw[<-f,e,NH,d,Tz]
theorem VR(r x:B32)(b:x.toNat<256):Fz r x 8=Jj (Jj (r ^^^ x)):=by
 have h:=QI r x 8;have a:x >>> 8=0#32:=by apply BitVec.eq_of_toNat_eq;rw[BitVec.toNat_ushiftRight,Nat.shiftRight_eq_div_pow];simp;omega
 rw[a,BitVec.xor_zero]at h;rw[h,Qh,Qh,<-RW]
def Cj(w:World)(s:Value)(n:Nat)(xs:List Value):Prop:=xs.length=n/\((n=0/\∃a c,s=.slice a 0 c)\/∃g o c,s=.slice (some ⟨g,o,none⟩) n c/\∀j u,xs[j]?=some u->w.cell? ⟨g,o+j,none⟩=some u)
theorem Cj.cB(h:w.ownsRow base e 1 s n xs):Cj w s n xs:=by
 refine⟨by simpa using h.1,?_⟩;rcases h.2 with⟨rfl,rfl⟩|⟨g,cap,b,rfl,i,c,m,k,l,f⟩
 . exact .inl ⟨rfl,_,_,rfl⟩
 refine .inr ⟨g,0,cap,rfl,fun j u a=> ?_⟩;rw[mJ w g _ b e _ c,ki];rw[<-f]at a;obtain⟨d,a⟩:=d7.1 a;rw[List.getElem_take]at a;rw[<-a];simp at d;rw[mc oM];simp
theorem Cj.aa{w b:World}(h:Cj w s n xs)(d:Below w.heap.size w b):Cj b s n xs:=by
 obtain⟨a,h|⟨g,o,c,rfl,e⟩⟩:=h
 . exact⟨a,.inl h⟩
 refine⟨a,.inr ⟨g,o,c,rfl,fun j u f=> ?_⟩⟩;have h1:=e j u f;rw[d.cell (d5 h1)];exact h1
def G5(w:World)(g:Nat)(a:Option Addr)(len:Nat):Prop:=len=0\/∃b c,a=some ⟨b,c,none⟩/\b<g/\∀i,i<len->∃v:Int,0<=v/\v<=255/\w.cell? ⟨b,c+i,none⟩=some (.int .u8 v)
structure Dy(w:World)(g:Nat)(a:Option Addr)(len cap:Nat)(p:Int):Prop where
 code:w.cell? ⟨g,0,none⟩=some (.slice a len cap)
 place:w.cell? ⟨g,1,none⟩=some (.int .i64 p)
 size:∃sz:Int,0<=sz/\sz<=12/\w.cell? ⟨g,2,none⟩=some (.int .i64 sz)
 free:w.frozen? ⟨g,1,none⟩=false
 low:0<=p
 jB:p<=1000000000000
 len_le:len<=140737488355328
 bytes:G5 w g a len
theorem Sy{a:Option Addr}{p n:Int}(h:Dy w g a 0 cap p)(k:1<=n)(l:n<=1000000):
 Calls Tryz.prog 30 #[.pointer (some ⟨g,0,none⟩),.int .i64 n] w fun e d=>∃(r:Int) (nq:Nat),0<=r/\r<n/\e=.returned (.int .i64 r)/\d=(w.setCell ⟨g,1,none⟩ (.int .i64 (p+1))).drewN nq:=by
 obtain⟨i,m,_,j,f,h1,_,_⟩:=h;have b:=lh (p*7) (show n≠0 from oM);have c:=lT (p*7) (show 0<n from oM);go_enter Tryz.func30,Tryz.ntmps30;go_wp2;go_ret;exact⟨_,0,b,c,rfl,rfl⟩
theorem Sz{b c len cap:Nat}{p n:Int}(h:Dy w g (some ⟨b,c,none⟩) len cap p)(t:0<len)(j:b<g)(A:1<=n)(B:n<=200)
 (E:0<=v) (F:v<=255) (l:w.cell? ⟨b,c+(p % len).toNat,none⟩=some (.int .u8 v)):
 Calls Tryz.prog 30 #[.pointer (some ⟨g,0,none⟩),.int .i64 n] w fun e i=>∃(r:Int) (nq:Nat),0<=r/\r<n/\e=.returned (.int .i64 r)/\i=(w.setCell ⟨g,1,none⟩ (.int .i64 (p+1))).drewN nq:=by
 obtain⟨k,D,_,s,a,h1,x,_⟩:=h;have y:=lh p (show(len:Int)≠0 from oM);have z:=lT p (show 0<(len:Int)from oM);have u:((len:Int)==0)=false:=oT;have C:¬b=g:=oM;have m:0<=p / (len:Int):=Int.ediv_nonneg a oM;have q:p / (len:Int)<=1000000000000:=Int.le_trans (Int.ediv_le_self _ a) h1;have d:=lh (v+p / (len:Int)*37) (show n≠0 from oM);have f:=lT (v+p / (len:Int)*37) (show 0<n from oM);go_enter Tryz.func30,Tryz.ntmps30;go_wp2;go_quiet (fail);go_wp2;go_ret;exact⟨_,nq,d,f,rfl,rfl⟩
theorem SA{b a len cap:Nat}{p n u:Int}(h:Dy w g (some ⟨b,a,none⟩) len cap p)(x:0<len)(j:b<g)(E:200<n)(F:n<=1000000)
 (K:0<=v) (L:v<=255) (l:w.cell? ⟨b,a+(p % len).toNat,none⟩=some (.int .u8 v)) (I:0<=u) (J:u<=255) (m:w.cell? ⟨b,a+((p+1) % len).toNat,none⟩=some (.int .u8 u)):
 Calls Tryz.prog 30 #[.pointer (some ⟨g,0,none⟩),.int .i64 n] w fun e i=>∃(r:Int) (nq:Nat),0<=r/\r<n/\e=.returned (.int .i64 r)/\i=(w.setCell ⟨g,1,none⟩ (.int .i64 (p+1))).drewN nq:=by
 obtain⟨k,H,_,t,c,h1,z,_⟩:=h;have A:=lh p (show(len:Int)≠0 from oM);have B:=lT p (show 0<(len:Int)from oM);have C:=lh (p+1) (show(len:Int)≠0 from oM);have D:=lT (p+1) (show 0<(len:Int)from oM);have y:((len:Int)==0)=false:=oT;have G:¬b=g:=oM;have q:0<=p / (len:Int):=Int.ediv_nonneg c oM;have s:p / (len:Int)<=1000000000000:=Int.le_trans (Int.ediv_le_self _ c) h1;have d:=lh ((v+p / (len:Int)*37)*251+u*13+p) (show n≠0 from oM);have f:=lT ((v+p / (len:Int)*37)*251+u*13+p) (show 0<n from oM);go_enter Tryz.func30,Tryz.ntmps30;go_wp2;go_quiet (fail);go_wp2;go_quiet (fail);go_wp2;go_ret;exact⟨_,_,d,f,rfl,rfl⟩
def BW(a:List Int)(p:Nat):Nat->Int
 |0=>0
 |k+1=>bits .or .u64 (BW a p k) (IntKind.u64.wrap (IntKind.u64.wrap (a[p+k]?.getD 0)*2 ^ (8*k)))
theorem Ju(w:World):(zeroValue 44).run Tryz.prog w=.ok (.agg #[.bool false,.int .i64 0]) w:=kR
theorem SK(a:List Int)(j:Nat)(h:j<a.length):(a.map (Value.int .u8))[j]?=some (.int .u8 (a.getD j 0)):=by rw[kh,an h,kF,an h];rfl
theorem FU(s:Value)(L:Nat)(a:List Int)(p n:Nat)(w:World)(A:L<=1048576)(h:Cj w s L (a.map (Value.int .u8)))(h1:1<=n)(z:n<=8)(G:p+n<=L):
 Calls Tryz.prog 12 #[s,.int .i64 p,.int .i64 n] w fun e m=>e=.returned (.agg #[.bool true,.int .i64 (wrap64 (BW a p n))])/\Below w.heap.size w m:=by
 have H:=Ju;have l:a.length=L:=by simpa using h.1
 obtain⟨g,o,c,rfl,d⟩:∃g o c,s=.slice (some ⟨g,o,none⟩) L c/\∀j u,(a.map (Value.int .u8))[j]?=some u->w.cell? ⟨g,o+j,none⟩=some u:=by
  rcases h.2 with⟨y,_⟩|h
  . omega
  exact h
 have b:Hid (∀j,j<L->w.cell? ⟨g,o+j,none⟩=some (.int .u8 (a.getD j 0))):=fun j D=>d j _ (SK a j oM)
 have C:g<w.heap.size:=d5 (b.o p oM);clear h d l;have q:decide ((n:Int)<1)=false:=oT;have r:decide (8<(n:Int))=false:=oT;have t:decide ((p:Int)<0)=false:=sP;have x:decide ((L:Int)-n<p)=false:=oT;go_enter Tryz.func12,Tryz.ntmps12;go_wp2;go_loopw [7,8] (fun v i wr=>∃k:Nat,k<=n/\v=.int .u64 (BW a p k)/\i=.int .i64 k/\wr=w.alloc (.cells #[.bool false,.int .i64 0] 44)) (fun _ i _=>n-(intOf i).toNat)
 case atStart=>exact⟨0,oM,rfl,rfl,rfl⟩
 obtain⟨k,E,rfl,rfl,rfl⟩:=hrel;by_cases F:k<n
 . have B:=b.o (p+k) oM;go_wp2;go_roundw;(case rel=>exact⟨k+1,oM,rfl,by go_num,trivial⟩);exact oI
 have f:k=n:=oM;subst f;go_wp2;exact i6 (v:=.agg #[.bool true,.int .i64 (wrap64 (BW a p k))]) (by simp[results,Tryz.results12,go_sem]) rfl ⟨rfl,(kV _ _).alloc lR _⟩
theorem IZ(s:Value)(L:Nat)(b:List Int)(p n:Nat)(w:World)(D:L<=1048576)(h:Cj w s L (b.map (Value.int .u8)))(l:∀a c,s=.slice a L c->L<=c)(h1:1<=n)(C:n<=8)(J:p+n<=L):
 Calls Tryz.prog 95 #[s,.int .i64 p,.int .i64 n] w fun e t=>e=.returned (.agg #[.bool true,.int .i64 (wrap64 (BW b p n))])/\Below w.heap.size w t:=by
 have K:=Ju;have r:b.length=L:=by simpa using h.1
 obtain⟨g,o,c,rfl,f⟩:∃g o c,s=.slice (some ⟨g,o,none⟩) L c/\∀j u,(b.map (Value.int .u8))[j]?=some u->w.cell? ⟨g,o+j,none⟩=some u:=by
  rcases h.2 with⟨B,_⟩|h
  . omega
  exact h
 have d:Hid (∀j,j<L->w.cell? ⟨g,o+j,none⟩=some (.int .u8 (b.getD j 0))):=fun j G=>f j _ (SK b j oM)
 have F:g<w.heap.size:=d5 (d.o p oM);have E:L<=c:=l _ _ rfl;clear h f r l;have x:decide ((n:Int)<1)=false:=oT;have y:decide (8<(n:Int))=false:=oT;have z:decide ((p:Int)<0)=false:=sP;have A:decide ((L:Int)-n<p)=false:=oT;go_enter Tryz.func95,Tryz.ntmps95;go_wp2;go_loopw [7,36] (fun v i wr=>∃k:Nat,k<=n/\v=.int .u64 (BW b p k)/\i=.int .i64 k/\wr=w.alloc (.cells #[.bool false,.int .i64 0] 44)) (fun _ i _=>n-(intOf i).toNat)
 case atStart=>exact⟨0,oM,rfl,rfl,rfl⟩
 obtain⟨k,H,rfl,rfl,rfl⟩:=hrel;by_cases I:k<n
 . have m:=d.o (p+k) oM;rw[<-Nat.add_assoc]at m;go_wp2;go_roundw;(case rel=>exact⟨k+1,oM,rfl,by go_num,trivial⟩);exact oI
 have q:k=n:=oM;subst q;go_wp2;exact i6 (v:=.agg #[.bool true,.int .i64 (wrap64 (BW b p k))]) (by simp[results,Tryz.results95,go_sem]) rfl ⟨rfl,(kV _ _).alloc lR _⟩
theorem Lo(a:Option Addr)(L c:Nat)(p n:Int)(w:World)(j:L<=1048576)(h:n<1\/8<n\/p<0\/(L:Int)-n<p):
 Calls Tryz.prog 95 #[.slice a L c,.int .i64 p,.int .i64 n] w fun e g=>e=.returned (.agg #[.bool false,.int .i64 0])/\Below w.heap.size w g:=by
 have k:=Ju;by_cases c1:n<1
 . (have b:decide (n<1)=true:=by simpa using c1);clear h;go_enter Tryz.func95,Tryz.ntmps95;go_wp2;exact i6 (v:=.agg #[.bool false,.int .i64 0]) (by simp[results,Tryz.results95,go_sem]) rfl ⟨rfl,(kV _ _).alloc lR _⟩
 have b:decide (n<1)=false:=by simpa using c1
 by_cases c2:8<n
 . (have d:decide (8<n)=true:=by simpa using c2);clear h;go_enter Tryz.func95,Tryz.ntmps95;go_wp2;exact i6 (v:=.agg #[.bool false,.int .i64 0]) (by simp[results,Tryz.results95,go_sem]) rfl ⟨rfl,(kV _ _).alloc lR _⟩
 have d:decide (8<n)=false:=by simpa using c2
 by_cases c3:p<0
 . (have f:decide (p<0)=true:=by simpa using c3);clear h;go_enter Tryz.func95,Tryz.ntmps95;go_wp2;exact i6 (v:=.agg #[.bool false,.int .i64 0]) (by simp[results,Tryz.results95,go_sem]) rfl ⟨rfl,(kV _ _).alloc lR _⟩
 have f:decide (p<0)=false:=by simpa using c3
 have i:decide ((L:Int)-n<p)=true:=oT;clear h;go_enter Tryz.func95,Tryz.ntmps95;go_wp2;exact i6 (v:=.agg #[.bool false,.int .i64 0]) (by simp[results,Tryz.results95,go_sem]) rfl ⟨rfl,(kV _ _).alloc lR _⟩
theorem Ky(a:Option Addr)(L c:Nat)(p n:Int)(w:World)(j:L<=1048576)(h:n<1\/8<n\/p<0\/(L:Int)-n<p):
 Calls Tryz.prog 12 #[.slice a L c,.int .i64 p,.int .i64 n] w fun e g=>e=.returned (.agg #[.bool false,.int .i64 0])/\Below w.heap.size w g:=by
 have k:=Ju;by_cases c1:n<1
 . (have b:decide (n<1)=true:=by simpa using c1);clear h;go_enter Tryz.func12,Tryz.ntmps12;go_wp2;exact i6 (v:=.agg #[.bool false,.int .i64 0]) (by simp[results,Tryz.results12,go_sem]) rfl ⟨rfl,(kV _ _).alloc lR _⟩
 have b:decide (n<1)=false:=by simpa using c1
 by_cases c2:8<n
 . (have d:decide (8<n)=true:=by simpa using c2);clear h;go_enter Tryz.func12,Tryz.ntmps12;go_wp2;exact i6 (v:=.agg #[.bool false,.int .i64 0]) (by simp[results,Tryz.results12,go_sem]) rfl ⟨rfl,(kV _ _).alloc lR _⟩
 have d:decide (8<n)=false:=by simpa using c2
 by_cases c3:p<0
 . (have f:decide (p<0)=true:=by simpa using c3);clear h;go_enter Tryz.func12,Tryz.ntmps12;go_wp2;exact i6 (v:=.agg #[.bool false,.int .i64 0]) (by simp[results,Tryz.results12,go_sem]) rfl ⟨rfl,(kV _ _).alloc lR _⟩
 have f:decide (p<0)=false:=by simpa using c3
 have i:decide ((L:Int)-n<p)=true:=oT;clear h;go_enter Tryz.func12,Tryz.ntmps12;go_wp2;exact i6 (v:=.agg #[.bool false,.int .i64 0]) (by simp[results,Tryz.results12,go_sem]) rfl ⟨rfl,(kV _ _).alloc lR _⟩
theorem Js{I:Array Oper}{a:Act}(n:Nat)(t e:TypeId)(len:Nat)(parts:Array (Nat×Operand))(s p m:Nat)(cells:Array Value)(b:TypeInfo)(z:Value)
 (u:(Fj P (l.take n) a).map (fun a'=>(Instr.fill (fun i=>some (i*b.size,b.size)) ((Array.range (len*b.size)).map (z.cells[· % z.cells.size]!)) (parts.map fun(i,x)=>(i,a'.eval x)).toList,a'.tmps.size,a'.defers))=some (some cells,m,[]))
 (c:(l.drop n).map (fun o=>(o.guard,o.op,o.dst))=[(none,.buildSlice t len parts,some s),(none,.assign (.tmp s),some p)])
 (B:s<m) (y:p<m)
 (D:P.underlying t=some (.slice e)) (v:P.info? e=some b) (E:b.zero=some z) (C:¬len*b.size>2 ^ 24) (A:¬len*b.size=0)
 (h:∀a',a'.tmps.getD p undef=.slice (some ⟨w.heap.size,0,none⟩) len len->a'.defers=[]->Q .normal a' (w.alloc (.cells cells e))):wpList P I Q l a w:=by
 rw[<-mN n l];obtain⟨a',r,d⟩:=lg.1 u;simp only[Prod.mk.injEq]at d;refine Ga (a':=a') _ ?_ _ _ r;generalize l.drop n=F at c;rcases F with _|⟨o,_|⟨L,_|⟨M,J⟩⟩⟩
 . cases c
 . simp at c
 . simp only[mL,List.map_nil,nN,Prod.mk.injEq,lp]at c;obtain⟨⟨j,G,g⟩,k,H,f⟩:=c;refine wpList_buildSlice j t e len parts G cells b z D v E C A d.1 ?_;rw[g];(refine wpList_plain k fun K q=> ?_);unfold Oper.wp execOp;simp only[H,Sem.run_pure];refine q _ _ (wpList_nil (h _ ?_ ?_))
   . simp[Act.put,Act.eval,y,B,d.2.1,f]
   simp[Act.put,d.2.2,f]
 simp at c
def OG:Array Value:=#[.string ⟨#[]⟩,.int .i64 0,.int .i64 0,.nilFunc,
 .string ⟨#[]⟩,.int .i64 0,.int .i64 0,.nilFunc,
 .string ⟨#[]⟩,.int .i64 0,.int .i64 0,.nilFunc,
 .string ⟨#[]⟩,.int .i64 0,.int .i64 0,.nilFunc,
 .string ⟨#[]⟩,.int .i64 0,.int .i64 0,.nilFunc,
 .string ⟨#[]⟩,.int .i64 0,.int .i64 0,.nilFunc,
 .string ⟨#[]⟩,.int .i64 0,.int .i64 0,.nilFunc,
 .string ⟨#[]⟩,.int .i64 0,.int .i64 0,.nilFunc,
 .string ⟨#[]⟩,.int .i64 0,.int .i64 0,.nilFunc,
 .string ⟨#[]⟩,.int .i64 0,.int .i64 0,.nilFunc,
 .string ⟨#[]⟩,.int .i64 0,.int .i64 0,.nilFunc,
 .string ⟨#[]⟩,.int .i64 0,.int .i64 0,.nilFunc,
 .string ⟨#[]⟩,.int .i64 0,.int .i64 0,.nilFunc,
 .string ⟨#[]⟩,.int .i64 0,.int .i64 0,.nilFunc,
 .string ⟨#[]⟩,.int .i64 0,.int .i64 0,.nilFunc,
 .string ⟨#[]⟩,.int .i64 0,.int .i64 0,.nilFunc,
 .string ⟨#[]⟩,.int .i64 0,.int .i64 0,.nilFunc,
 .string ⟨#[]⟩,.int .i64 0,.int .i64 0,.nilFunc,
 .string ⟨#[]⟩,.int .i64 0,.int .i64 0,.nilFunc,
 .string ⟨#[]⟩,.int .i64 0,.int .i64 0,.nilFunc,
 .string ⟨#[]⟩,.int .i64 0,.int .i64 0,.nilFunc,
 .string ⟨#[]⟩,.int .i64 0,.int .i64 0,.nilFunc,
 .string ⟨#[]⟩,.int .i64 0,.int .i64 0,.nilFunc,
 .string ⟨#[]⟩,.int .i64 0,.int .i64 0,.nilFunc,
 .string ⟨#[]⟩,.int .i64 0,.int .i64 0,.nilFunc,
 .string ⟨#[]⟩,.int .i64 0,.int .i64 0,.nilFunc,
 .string ⟨#[]⟩,.int .i64 0,.int .i64 0,.nilFunc,
 .string ⟨#[]⟩,.int .i64 0,.int .i64 0,.nilFunc,
 .string ⟨#[]⟩,.int .i64 0,.int .i64 0,.nilFunc,
 .string ⟨#[]⟩,.int .i64 0,.int .i64 0,.nilFunc]
def FP:Array Value:=#[.string ⟨#[110,111,112]⟩,.int .i64 1,.int .i64 0,.nilFunc,
 .string ⟨#[99,111,110,115,116]⟩,.int .i64 1,.int .i64 1,.nilFunc,
 .string ⟨#[108,111,97,100,108,111,99,97,108]⟩,.int .i64 1,.int .i64 2,.nilFunc,
 .string ⟨#[115,116,111,114,101,108,111,99,97,108]⟩,.int .i64 1,.int .i64 2,.nilFunc,
 .string ⟨#[108,111,97,100]⟩,.int .i64 2,.int .i64 3,.nilFunc,
 .string ⟨#[115,116,111,114,101]⟩,.int .i64 2,.int .i64 3,.nilFunc,
 .string ⟨#[108,111,97,100,97,116]⟩,.int .i64 3,.int .i64 4,.nilFunc,
 .string ⟨#[115,116,111,114,101,97,116]⟩,.int .i64 3,.int .i64 4,.nilFunc,
 .string ⟨#[97,100,100]⟩,.int .i64 1,.int .i64 5,.func (.func 149) #[] #[],
 .string ⟨#[115,117,98]⟩,.int .i64 1,.int .i64 5,.func (.func 150) #[] #[],
 .string ⟨#[109,117,108]⟩,.int .i64 3,.int .i64 5,.func (.func 151) #[] #[],
 .string ⟨#[100,105,118]⟩,.int .i64 8,.int .i64 5,.func (.func 152) #[] #[],
 .string ⟨#[109,111,100]⟩,.int .i64 8,.int .i64 5,.func (.func 153) #[] #[],
 .string ⟨#[97,110,100]⟩,.int .i64 1,.int .i64 6,.func (.func 154) #[] #[],
 .string ⟨#[111,114]⟩,.int .i64 1,.int .i64 6,.func (.func 155) #[] #[],
 .string ⟨#[120,111,114]⟩,.int .i64 1,.int .i64 6,.func (.func 156) #[] #[],
 .string ⟨#[110,111,116]⟩,.int .i64 1,.int .i64 6,.func (.func 157) #[] #[],
 .string ⟨#[115,104,108]⟩,.int .i64 1,.int .i64 0,.func (.func 158) #[] #[],
 .string ⟨#[115,104,114]⟩,.int .i64 1,.int .i64 0,.func (.func 159) #[] #[],
 .string ⟨#[110,101,103]⟩,.int .i64 1,.int .i64 0,.func (.func 160) #[] #[],
 .string ⟨#[101,113]⟩,.int .i64 1,.int .i64 7,.func (.func 161) #[] #[],
 .string ⟨#[108,101,115,115]⟩,.int .i64 1,.int .i64 5,.func (.func 162) #[] #[],
 .string ⟨#[99,111,110,118]⟩,.int .i64 1,.int .i64 8,.nilFunc,
 .string ⟨#[100,117,112]⟩,.int .i64 1,.int .i64 0,.nilFunc,
 .string ⟨#[100,114,111,112]⟩,.int .i64 1,.int .i64 0,.nilFunc,
 .string ⟨#[106,117,109,112]⟩,.int .i64 2,.int .i64 9,.nilFunc,
 .string ⟨#[106,117,109,112,122,101,114,111]⟩,.int .i64 2,.int .i64 9,.nilFunc,
 .string ⟨#[103,117,97,114,100]⟩,.int .i64 2,.int .i64 10,.nilFunc,
 .string ⟨#[99,97,108,108]⟩,.int .i64 4,.int .i64 11,.nilFunc,
 .string ⟨#[114,101,116,117,114,110]⟩,.int .i64 2,.int .i64 0,.nilFunc]
theorem Rl(w:World):(zeroValue 222).run Tryz.prog w=.ok (.agg OG) w:=kR
theorem PG(w:World):Calls Tryz.prog 133 #[] w fun e c=>e=.returned (.agg FP)/\Below w.heap.size w c:=by have d:=Rl;go_enter Tryz.func133,Tryz.ntmps133;go_wp2_with (show wpList _ _ _ ({dst:=some 1,op:=Op.build _ _,type:=_,pos:=_,after:=_,guard:=_}::_) _ _;refine Na 61 222 222 (.tmp 0) (.tmp 61) w.heap.size FP OG 0 kR rfl (lq _ _) kR kR kR ?_;intro a' b a);rw[World.setRow_alloc_new];exact i6 (v:=.agg FP) (results_cell_row Tryz.results133 _ _ w.heap.size 222 FP (0,0) _ b (lq _ _) Tryz.underlying222 rfl kR) a ⟨rfl,(kV _ _).alloc lR _⟩
def Da(k:Nat):Array Value:=FP.extract (4*k) (4*k+4)
theorem Pc(k:Nat)(a:k<30)(w:World):(Instr.index 222 (.agg FP) (.int .i64 (k:Int))).run Tryz.prog w=.ok (.agg (Da k)) w:=by
 have h:k=0\/k=1\/k=2\/k=3\/k=4\/k=5\/k=6\/k=7\/k=8\/k=9\/k=10\/k=11\/k=12\/k=13\/k=14\/k=15\/k=16\/k=17\/k=18\/k=19\/k=20\/k=21\/k=22\/k=23\/k=24\/k=25\/k=26\/k=27\/k=28\/k=29:=oM
 clear a;rcases h with rfl|rfl|rfl|rfl|rfl|rfl|rfl|rfl|rfl|rfl|rfl|rfl|rfl|rfl|rfl|rfl|rfl|rfl|rfl|rfl|rfl|rfl|rfl|rfl|rfl|rfl|rfl|rfl|rfl|rfl<;>(show Sem.run _ _ _=Result.ok _ _;kernel_rfl)
theorem LN(k:Nat)(b:k<30):(Da k).size=4:=by have a:FP.size=120:=kR;simp[Da,a];omega
theorem MZ(k:Nat)(d:k<30):(Da k).all (·.oneCell')=true:=by have a:FP.all (·.oneCell')=true:=kR;rw[Array.all_eq_true_iff_forall_mem]at a⊢;intro v b;unfold Da at b;obtain⟨i,c,rfl⟩:=Array.mem_iff_getElem.1 b;rw[Array.getElem_extract];exact a _ (Array.getElem_mem _)
theorem OH(w:World):(zeroValue 201).run Tryz.prog w=.ok (.agg #[.string ⟨#[]⟩,.int .i64 0,.int .i64 0,.nilFunc]) w:=kR
theorem Ra(op:Int)(w:World)(h:op<0\/29<op):Calls Tryz.prog 122 #[.int .i64 op] w fun e a=>e=.returned (.agg #[.string ⟨#[]⟩,.int .i64 0,.int .i64 0,.nilFunc])/\Below w.heap.size w a:=by
 have c:=OH;rcases h with h|h
 . go_enter Tryz.func122,Tryz.ntmps122;go_wp2;exact i6 (v:=.agg #[.string ⟨#[]⟩,.int .i64 0,.int .i64 0,.nilFunc]) (by simp[results,Tryz.results122,go_sem]) rfl ⟨rfl,(kV _ _).alloc lR _⟩
 have b:decide (op<0)=false:=oT;have h1:decide (29<op)=true:=oT;go_enter Tryz.func122,Tryz.ntmps122;go_wp2;exact i6 (v:=.agg #[.string ⟨#[]⟩,.int .i64 0,.int .i64 0,.nilFunc]) (by simp[results,Tryz.results122,go_sem]) rfl ⟨rfl,(kV _ _).alloc lR _⟩
theorem Ta(k:Nat)(b:k<30)(w:World):Calls Tryz.prog 122 #[.int .i64 (k:Int)] w fun e h=>e=.returned (.agg (Da k))/\Below w.heap.size w h:=by
 have m:=OH;have j:decide ((k:Int)<0)=false:=sP;have h1:decide (29<(k:Int))=false:=oT;have l:=Pc k b;have g:=LN k b;have d:=MZ k b;have a:Hid ((Da k).size=4/\(Da k).all (·.oneCell')=true):=⟨g,d⟩
 clear g d;go_enter Tryz.func122,Tryz.ntmps122;go_wp2_with (first
  |(go_at_call 133;refine(PG _).mono ?_;rintro e i ⟨rfl,c⟩;have f:i.heap[w.heap.size]?=some (.cells #[.string ⟨#[]⟩,.int .i64 0,.int .i64 0,.nilFunc] 201):=(c.block _ sP).trans (lq _ _))
  |(show wpList _ _ _ ({dst:=none,op:=Op.store 201 _ _,type:=_,pos:=_,after:=_,guard:=_}::_) _ _;refine wpList_store_row rfl 201 (.tmp 2) (.tmp 12) rfl w.heap.size (Da k) rfl rfl 201 #[.string ⟨#[]⟩,.int .i64 0,.int .i64 0,.nilFunc] f (by rw[a.o.1];kernel_rfl) (by rw[a.o.1];rfl) a.o.2 ?_))
 refine i6 (v:=.agg (Da k)) (results_cell_row Tryz.results122 _ _ w.heap.size 201 (Da k) (0,0) _ rfl (setRow_heap _ _ _ _ _ _ f) Tryz.underlying201 rfl (by rw[a.o.1];kernel_rfl)) rfl ⟨rfl,?_⟩;exact below_setRow (((kV _ _).alloc lR _).trans (c.mono sP)) lR _
structure AG(g:Nat)(w w':World):Prop where
 os:w'.os=w.os
 tape:w'.tape=w.tape
 output:w'.output=w.output
 size:w.heap.size<=w'.heap.size
 block:∀k,k<w.heap.size->k≠g->w'.heap[k]?=w.heap[k]?
theorem AG.refl(g:Nat)(w:World):AG g w w:=⟨rfl,rfl,rfl,Nat.le_refl _,fun _ _ _=>rfl⟩
theorem AG.trans{a b c:World}(h:AG g a b)(k:AG g b c):AG g a c:=⟨k.os.trans h.os,k.tape.trans h.tape,k.output.trans h.output,jX h.size k.size,fun i e d=>(k.block i (lA e h.size) d).trans (h.block i e d)⟩
theorem AG.alloc(g:Nat)(w:World)(o:Obj):AG g w (w.alloc o):=⟨rfl,rfl,rfl,sP,fun k a _=>Below.heap_alloc w o k a⟩
theorem AG.set(g:Nat)(w:World)(o:Nat)(v:Value)(nq:Nat):AG g w ((w.setCell ⟨g,o,none⟩ v).drewN nq):=⟨rfl,rfl,rfl,by show _<=(w.setCell _ _).heap.size;simp,fun k b a=>Below.heap_setCell w _ v k a⟩
theorem AG.below{w a:World}(h:AG g w a)(d:B<=g)(c:B<=w.heap.size):Below B w a:=⟨h.os,h.tape,h.output,h.size,fun k b=>h.block k (lA b c) oM⟩
theorem AG.gz{w a:World}(h:Below w.heap.size w a):AG g w a:=⟨h.os,h.tape,h.output,h.size,fun k b _=>h.block k b⟩
theorem AG.cell{w a:World}(h:AG g w a){p:Addr}(c:p.block<w.heap.size)(b:p.block≠g):a.cell? p=w.cell? p:=mK (w:=w) (h.block p.block c b)
theorem AG.frozen{w a:World}(h:AG g w a){p:Addr}(c:p.block<w.heap.size)(b:p.block≠g):a.frozen? p=w.frozen? p:=World.frozen?_of_block (w:=w) (h.block p.block c b)
theorem Dy.lt{a:Option Addr}{p:Int}(h:Dy w g a len cap p):g<w.heap.size:=d5 h.code
theorem G5.io{e:World}{g c:Nat}{a:Option Addr}(h:G5 w g a len)(p:g<=c)(q:g<=w.heap.size)(m:∀k,k<g->e.heap[k]?=w.heap[k]?):G5 e c a len:=by
 rcases h with h|⟨b,d,rfl,j,l⟩
 . exact .inl h
 refine .inr ⟨b,d,rfl,oM,fun i n=> ?_⟩;obtain⟨v,f,h1,h2⟩:=l i n;exact⟨v,f,h1,(mK (w:=w) (a:=⟨b,d+i,none⟩) (m b j)).trans h2⟩
theorem Dy.aa{d:World}{a:Option Addr}{p:Int}(h:Dy w g a len cap p)(c:∀k,k<=g->d.heap[k]?=w.heap[k]?):Dy d g a len cap p:=by obtain⟨h1,h2,⟨s,f,i,j⟩,l,m,n,q,e⟩:=h;have b:=c g lR;refine⟨(mK (w:=w) (a:=⟨g,0,none⟩) b).trans h1,(mK (w:=w) (a:=⟨g,1,none⟩) b).trans h2,⟨s,f,i,(mK (w:=w) (a:=⟨g,2,none⟩) b).trans j⟩,(World.frozen?_of_block (w:=w) (a:=⟨g,1,none⟩) b).trans l,m,n,q,?_⟩;exact e.io lR (mr (d5 h1)) fun k r=>c k (mr r)
theorem Dy.alloc{a:Option Addr}{p:Int}(h:Dy w g a len cap p)(o:Obj):Dy (w.alloc o) g a len cap p:=h.aa fun k b=>Below.heap_alloc w o k (Nat.lt_of_le_of_lt b h.lt)
theorem Dy.below{w b:World}{a:Option Addr}{p:Int}(h:Dy w g a len cap p)(c:Below w.heap.size w b):Dy b g a len cap p:=h.aa fun k d=>c.block k (Nat.lt_of_le_of_lt d h.lt)
theorem Dy.next{a:Option Addr}{p:Int}(h:Dy w g a len cap p)(j:p+1<=1000000000000)(nq:Nat):Dy ((w.setCell ⟨g,1,none⟩ (.int .i64 (p+1))).drewN nq) g a len cap (p+1):=by
 obtain⟨h1,h2,⟨l,c,d,e⟩,f,m,n,i,b⟩:=h;refine⟨?_,?_,⟨l,c,d,?_⟩,?_,oM,j,i,?_⟩
 . show(w.setCell _ _).cell? _=_;rw[li _ _ _ _ sP];exact h1
 . show(w.setCell _ _).cell? _=_;exact m9 w _ _ h2
 . show(w.setCell _ _).cell? _=_;rw[li _ _ _ _ sP];exact e
 . show(w.setCell _ _).frozen? _=_;simpa using f
 exact b.io lR (mr (d5 h1)) fun k q=>Below.heap_setCell w _ _ k (by show k≠g;omega)
theorem Al{a:Option Addr}{p n:Int}(h:Dy w g a len cap p)(x:p+1<=1000000000000:=by omega)(j:1<=n:=by omega)(k:n<=1000000:=by omega):
 Calls Tryz.prog 30 #[.pointer (some ⟨g,0,none⟩),.int .i64 n] w fun e c=>∃r:Int,0<=r/\r<n/\e=.returned (.int .i64 r)/\Dy c g a len cap (p+1)/\AG g w c:=by
 have fin:∀(e:Ending) (c:World),(∃(r:Int) (nq:Nat),0<=r/\r<n/\e=.returned (.int .i64 r)/\c=(w.setCell ⟨g,1,none⟩ (.int .i64 (p+1))).drewN nq)->∃r:Int,0<=r/\r<n/\e=.returned (.int .i64 r)/\Dy c g a len cap (p+1)/\AG g w c:=by rintro e c ⟨r,nq,d,h1,t,rfl⟩;exact⟨r,d,h1,t,h.next x nq,AG.set g w 1 _ nq⟩
 rcases Nat.eq_zero_or_pos len with rfl|i
 . exact(Sy h j k).mono fin
 rcases h.bytes with d|⟨b,y,rfl,f,s⟩
 . omega
 have hm (q:Int):∃v:Int,0<=v/\v<=255/\w.cell? ⟨b,y+(q % len).toNat,none⟩=some (.int .u8 v):=s _ (by have:=lh q (show(len:Int)≠0 from oM);have:=lT q (show 0<(len:Int)from oM);omega)
 obtain⟨v,l,v1,v2⟩:=hm p;by_cases m:n<=200
 . exact(Sz h i f j m l v1 v2).mono fin
 obtain⟨u,z,A,B⟩:=hm (p+1);exact(SA h i f oM k l v1 v2 z A B).mono fin
theorem Ti(w:World):(zeroValue 79).run Tryz.prog w=.ok (.agg #[.slice none 0 0,.int .i64 0,.int .i64 0]) w:=kR
theorem MO(a:Option Addr)(len cap:Nat)(w:World)(j:len<=140737488355328)(f:G5 w w.heap.size a len):
 Calls Tryz.prog 9 #[.slice a len cap] w fun e g=>e=.returned (.pointer (some ⟨w.heap.size,0,none⟩))/\Dy g w.heap.size a len cap 0/\Below w.heap.size w g:=by
 have n:=Ti;have fin:∀b:Int,0<=b->b<=12->Dy (w.alloc (.cells #[.slice a len cap,.int .i64 0,.int .i64 b] 79)) w.heap.size a len cap 0:=fun b h h1=>by
  have c:=lq w (.cells #[.slice a len cap,.int .i64 0,.int .i64 b] 79);refine⟨?_,?_,⟨b,h,h1,?_⟩,frozen_of_row _ _ _ _ _ c,oM,oM,j,?_⟩
  . rw[mJ _ _ _ _ _ _ c];rfl
  . rw[mJ _ _ _ _ _ _ c];rfl
  . rw[mJ _ _ _ _ _ _ c];rfl
  exact f.io lR lR fun k i=>Below.heap_alloc w _ k i
 have d:Hid (∀b:Int,0<=b->b<=12->Dy (w.alloc (.cells #[.slice a len cap,.int .i64 0,.int .i64 b] 79)) w.heap.size a len cap 0):=fin;clear fin f;have m:0<=(len:Int) / 16:=oM;by_cases l:12<(len:Int) / 16
 . go_enter Tryz.func9,Tryz.ntmps9;go_wp2;go_ret;exact⟨rfl,d.o _ oM oM,(kV _ _).alloc lR _⟩
 go_enter Tryz.func9,Tryz.ntmps9;go_wp2;go_ret;exact⟨rfl,d.o _ oM oM,(kV _ _).alloc lR _⟩
theorem BO{a:Option Addr}{p n:Int}(h:Dy w g a len cap p)(m:p+1<=1000000000000:=by omega)(k:1<=n:=by omega)(l:n<=1000000:=by omega):
 Calls Tryz.prog 53 #[.pointer (some ⟨g,0,none⟩),.int .i64 n] w fun e i=>∃b:Bool,e=.returned (.bool b)/\Dy i g a len cap (p+1)/\AG g w i:=by
 have H:Hid (Dy w g a len cap p):=h;clear h;go_enter Tryz.func53,Tryz.ntmps53;go_wp2_with fail;refine(Al H.o m k l).mono ?_;rintro e j ⟨r,q,h1,rfl,f,d⟩;have c:Hid (Dy j g a len cap (p+1)/\AG g w j):=⟨f,d⟩
 clear f d;go_wp2;go_ret;exact⟨_,rfl,c.o.1,c.o.2⟩
def DO(r:B32):Int:=(r.toNat:Int)
theorem Hu(r:B32):0<=DO r/\DO r<4294967296:=by have:=r.isLt;unfold DO;omega
theorem EI(r:B32):BitVec.ofInt 32 (DO r)=r:=by unfold DO;rw[BitVec.ofInt_natCast,BitVec.ofNat_toNat,BitVec.setWidth_eq]
theorem Ms{x:Int}(a:0<=x)(b:x<4294967296):DO (BitVec.ofInt 32 x)=x:=by unfold DO;rw[BitVec.toNat_ofInt];omega
theorem Jt(x y:Int):bits .xor .u32 x y=DO (BitVec.ofInt 32 x ^^^ BitVec.ofInt 32 y):=by show((BitVec.ofInt 32 x ^^^ BitVec.ofInt 32 y).toNat:Int) % 4294967296=_;have:=(BitVec.ofInt 32 x ^^^ BitVec.ofInt 32 y).isLt;unfold DO;omega
theorem Mx(x y:Int):bits .and .u32 x y=DO (BitVec.ofInt 32 x &&& BitVec.ofInt 32 y):=by show((BitVec.ofInt 32 x &&& BitVec.ofInt 32 y).toNat:Int) % 4294967296=_;have:=(BitVec.ofInt 32 x &&& BitVec.ofInt 32 y).isLt;unfold DO;omega
theorem M6(r:B32)(k:Nat):DO r / 2 ^ k=DO (r >>> k):=by unfold DO;rw[BitVec.toNat_ushiftRight,Nat.shiftRight_eq_div_pow];simp
theorem Qg(r:B32):bits .and .u32 (DO r) 1=if r.getLsbD 0 then 1 else 0:=by
 rw[Mx,EI];have h:r &&& BitVec.ofInt 32 1=if r.getLsbD 0 then 1#32 else 0#32:=by apply BitVec.eq_of_getLsbD_eq;intro i a;rw[BitVec.getLsbD_and];have e:(BitVec.ofInt 32 1)=1#32:=dC;rw[e,BitVec.getLsbD_one];cases h:r.getLsbD 0<;>by_cases b:i=0<;>simp_all
 rw[h];cases r.getLsbD 0<;>decide
def BU(a:List Int):Nat->B32
 |0=>4294967295#32
 |k+1=>Jj (Jj (BU a k ^^^ BitVec.ofInt 32 (a.getD k 0)))
def D3(w:World):Prop:=∀j,j<16->w.cell? ⟨0,j,none⟩=some (.int .u32 (sumTab.getD j 0))
theorem Nv(x:Int):0<=bits .and .u32 x 15/\bits .and .u32 x 15<16:=by rw[Mx];have e:BitVec.ofInt 32 15=15#32:=dC;rw[e];have:=SI (BitVec.ofInt 32 x);unfold DO;omega
theorem Qi(R:B32):bits .xor .u32 (DO R / 16) (sumTab.getD (bits .and .u32 (DO R) 15).toNat 0)=DO (Jj R):=by have e:BitVec.ofInt 32 15=15#32:=dC;rw[show(16:Int)=2 ^ 4 from dC,Jt,M6,EI,Mx,EI,e];rfl
theorem PT(s:Value)(L:Nat)(b:List Int)(w:World)(W:L<=1048576)(h:Cj w s L (b.map (Value.int .u8)))(C:∀j,0<=b.getD j 0/\b.getD j 0<=255)(B:D3 w):
 Calls Tryz.prog 26 #[s] w fun e N=>e=.returned (.int .u32 (DO (~~~(BU b L))))/\N=w:=by
 have J:b.length=L:=by simpa using h.1
 have E:Hid (Cj w s L (b.map (Value.int .u8))):=h;have M:∃a c,s=.slice a L c:=by rcases h.2 with⟨rfl,a,c,rfl⟩|⟨g,o,c,rfl,_⟩<;>exact⟨_,_,rfl⟩
 have u:Hid (D3 w):=B;have F:Hid (∀j,0<=b.getD j 0/\b.getD j 0<=255):=C
 clear h B C;obtain⟨P,c1,rfl⟩:=M;go_enter Tryz.func26,Tryz.ntmps26;go_wp2;go_loop [3,8] (fun r i=>∃k:Nat,k<=L/\r=.int .u32 (DO (BU b k))/\i=.int .i64 k) (fun _ i=>L-(intOf i).toNat)
 case atStart=>exact⟨0,oM,rfl,rfl⟩
 obtain⟨k,X,rfl,rfl⟩:=hrel;by_cases Y:k<L
 . (have D:(b.map (Value.int .u8))[k]?=some (.int .u8 (b.getD k 0)):=by rw[kh,an oM,kF,an oM];rfl);rcases E.o.2 with⟨V,_⟩|⟨g,o,c,v,m⟩
   . omega
   simp only[ip,kU]at v;obtain⟨rfl,rfl⟩:=v;have H:=m k _ D;have p:=F.o k;have n:BU b (k+1)=Jj (Jj (BU b k ^^^ BitVec.ofInt 32 (b.getD k 0))):=rfl;generalize b.getD k 0=x at H p n;generalize BU b k=R at n;have l:Hid (BU b (k+1)=Jj (Jj (R ^^^ BitVec.ofInt 32 x))):=n;have a6:=p.1;have a8:=p.2;clear m D p n J;(have K:bits .xor .u32 (DO R) x=DO (R ^^^ BitVec.ofInt 32 x):=by rw[Jt,EI]);generalize y:R ^^^ BitVec.ofInt 32 x=d at K;rw[y]at l;have q:=Nv (DO d);have m:=u.o (bits .and .u32 (DO d) 15).toNat oM;have z:=Qi d;generalize sumTab.getD (bits .and .u32 (DO d) 15).toNat 0=t1 at m z;generalize Jj d=f at z l;have t:=Nv (DO f);have G:=u.o (bits .and .u32 (DO f) 15).toNat oM;have A:=Qi f;generalize sumTab.getD (bits .and .u32 (DO f) 15).toNat 0=t2 at G A;generalize Jj f=O at A l;have Q:=q.1;have S:=q.2;have T:=t.1;have U:=t.2;clear y q t;go_wp2;go_round;(case rel=>exact⟨k+1,oM,by rw[l.o],by go_num⟩);exact oI
 . have I:k=L:=oM;subst I;have Z:bits .xor .u32 IntKind.u32.max (DO (BU b k))=DO (~~~(BU b k)):=by have e:BitVec.ofInt 32 IntKind.u32.max=BitVec.allOnes 32:=dC;rw[Jt,EI,e,BitVec.allOnes_xor]
   go_wp2;go_ret;exact⟨rfl,rfl⟩
theorem TA(x:Int)(k:Nat)(a:0<=x)(h1:x<=255):bits .and .u32 (x / 2 ^ k) 1=if(BitVec.ofInt 32 x).getLsbD k then 1 else 0:=by
 have e:x / 2 ^ k=DO (BitVec.ofInt 32 x >>> k):=by rw[<-M6,Ms a oM]
 rw[e,Qg];simp
theorem RD(B:B32)(b:Bool):DO (QH B b)=if(b != B.getLsbD 0)then bits .xor .u32 (DO B / 2) 3988292384 else DO B / 2:=by
 have e:DO B / (2:Int)=DO (B >>> 1):=by rw[<-M6 B 1,Int.pow_succ,Int.pow_zero,Int.one_mul]
 unfold QH;by_cases h:(b != B.getLsbD 0)=true
 . rw[lI h,lI h,e,Jt,EI];rfl
 rw[lE h,lE h,e,BitVec.xor_zero]
theorem Ge(s:Value)(L:Nat)(d:List Int)(w:World)(S:L<=1048576)(h:Cj w s L (d.map (Value.int .u8)))(z:∀j,0<=d.getD j 0/\d.getD j 0<=255):
 Calls Tryz.prog 13 #[s] w fun e O=>e=.returned (.int .u32 (DO (~~~(BU d L))))/\O=w:=by
 have K:d.length=L:=by simpa using h.1
 have C:Hid (Cj w s L (d.map (Value.int .u8))):=h;have N:∃a c,s=.slice a L c:=by rcases h.2 with⟨rfl,a,c,rfl⟩|⟨g,o,c,rfl,_⟩<;>exact⟨_,_,rfl⟩
 have F:Hid (∀j,0<=d.getD j 0/\d.getD j 0<=255):=z
 clear h z;obtain⟨P,c1,rfl⟩:=N;go_enter Tryz.func13,Tryz.ntmps13;go_wp2;go_loop [3,4] (fun r i=>∃k:Nat,k<=L/\r=.int .u32 (DO (BU d k))/\i=.int .i64 k) (fun _ i=>L-(intOf i).toNat)
 case atStart=>exact⟨0,oM,rfl,rfl⟩
 obtain⟨k,T,rfl,rfl⟩:=hrel;by_cases U:k<L
 . (have A:(d.map (Value.int .u8))[k]?=some (.int .u8 (d.getD k 0)):=by rw[kh,an oM,kF,an oM];rfl);rcases C.o.2 with⟨Q,_⟩|⟨g,o,c,t,v⟩
   . omega
   simp only[ip,kU]at t;obtain⟨rfl,rfl⟩:=t;have H:=v k _ A;have n:=F.o k;have f:BU d (k+1)=Jj (Jj (BU d k ^^^ BitVec.ofInt 32 (d.getD k 0))):=rfl;generalize d.getD k 0=x at H n f;generalize BU d k=R at f;have p:=n.1;have y:=n.2;rw[<-VR R (BitVec.ofInt 32 x) (by have:=Ms p oM;unfold DO at this;omega)]at f;have D:Hid (BU d (k+1)=Fz R (BitVec.ofInt 32 x) 8):=f;clear v A n f K;go_wp2;go_loop [3,5] (fun r j=>∃m:Nat,m<=8/\r=.int .u32 (DO (Fz R (BitVec.ofInt 32 x) m))/\j=.int .u64 m) (fun _ j=>8-(intOf j).toNat)
   (case atStart=>exact⟨0,oM,rfl,rfl⟩);obtain⟨m,V,rfl,rfl⟩:=hrel;by_cases W:m<8
   . have u:=TA x m p y;have q:=Qg (Fz R (BitVec.ofInt 32 x) m);have hstep:Fz R (BitVec.ofInt 32 x) (m+1)=QH (Fz R (BitVec.ofInt 32 x) m) ((BitVec.ofInt 32 x).getLsbD m):=rfl;have Y:0<=x / 2 ^ m:=Int.ediv_nonneg p (Int.le_of_lt (Int.pow_pos dC));have Z:x / 2 ^ m<=255:=Int.le_trans (Int.ediv_le_self _ p) y;generalize (BitVec.ofInt 32 x).getLsbD m=b at u hstep;generalize G:Fz R (BitVec.ofInt 32 x) m=B at q hstep;have l:=RD B b;rw[<-hstep]at l;clear hstep G;have J:(if B.getLsbD 0 then(1:Int)else 0)=0\/(if B.getLsbD 0 then(1:Int)else 0)=1:=by cases B.getLsbD 0<;>simp
     generalize B.getLsbD 0=c at q l;clear J;have E:Hid (DO (Fz R (BitVec.ofInt 32 x) (m+1))=if(b != c)then bits .xor .u32 (DO B / 2) 3988292384 else DO B / 2):=l;clear l;(cases b<;>cases c);all_goals
      simp only[if_true,if_false,mU]at u q;go_wp2;go_round;(case rel=>exact⟨m+1,oM,by rw[E.o];rfl,by go_num⟩);exact oI
   have M:m=8:=oM;subst M;rw[<-D.o];go_wp2;go_round;(case rel=>exact⟨k+1,oM,rfl,by go_num⟩);exact oI
 . have I:k=L:=oM;subst I;have X:bits .xor .u32 IntKind.u32.max (DO (BU d k))=DO (~~~(BU d k)):=by have e:BitVec.ofInt 32 IntKind.u32.max=BitVec.allOnes 32:=dC;rw[Jt,EI,e,BitVec.allOnes_xor]
   go_wp2;go_ret;exact⟨rfl,rfl⟩
structure MI where
 op:Int
 a:Int
 b:Int
 c:Int
structure MC where
 type:Int
 word:Int
structure MT where
 func:Int
 head:Int
 counter:Int
 init:Int
def MI.cells(x:MI):List Value:=[iZ x.op,iZ x.a,iZ x.b,iZ x.c]
def MC.cells(x:MC):List Value:=[iZ x.type,.int .u32 x.word]
def MT.cells(x:MT):List Value:=[iZ x.func,iZ x.head,iZ x.counter,.int .u32 x.init]
theorem MI.aK(x:MI):x.cells.length=4:=rfl
theorem MC.aK(x:MC):x.cells.length=2:=rfl
theorem MT.aK(x:MT):x.cells.length=4:=rfl
def Ad(z:Int):List Value:=[iZ z]
theorem Ar(z:Int):(Ad z).length=1:=rfl
theorem Co:(Tryz.prog.info? 2).map (fun i=>(i.zero,i.size,i.bytes))=some (some (iZ 0),1,8):=kR
theorem Me:(Tryz.prog.info? 96).map (fun i=>(i.zero,i.size,i.bytes))=some (some (.agg #[iZ 0,iZ 0,iZ 0,iZ 0]),4,32):=kR
theorem NX:(Tryz.prog.info? 63).map (fun i=>(i.zero,i.size,i.bytes))=some (some (.agg #[iZ 0,.int .u32 0]),2,16):=kR
theorem Mg:(Tryz.prog.info? 72).map (fun i=>(i.zero,i.size,i.bytes))=some (some (.agg #[iZ 0,iZ 0,iZ 0,.int .u32 0]),4,32):=kR
end Go.Proofs.YthjbicggfnnonaaGreatDoor
