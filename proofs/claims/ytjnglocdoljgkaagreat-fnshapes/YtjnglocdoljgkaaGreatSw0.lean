import Derived.Test.YtjnglocdoljgkaaGreatRows
import Derived.WalkKit
import Derived.Below
import Derived.ProofKit
import Derived.OpenShut
import Derived.Outline
import Derived.WalkLawsBesides
import Derived.Laws.Rows
import Derived.Laws.OwnMore
import Derived.OwnWalk
import Derived.Deep.QuietTactic
import Derived.BigQuiet
import Derived.Laws.Tables
import Derived.Deep.WholeRow
import Derived.Great.BuildSlice
import Derived.Laws.CopyOwn
import Derived.Laws.EntriesVeiled
import Derived.Deep.MidRow
namespace Go.Proofs.YtjnglocdoljgkaaGreat
open Go.ChangeShapes Go.WideShapes Go.ChangeAt Go.RowKit
set_option linter.unusedVariables false
open Go.RowKit renaming Hid → Aa,Below → Ad
open Go renaming World → Y,Calls → Ae,Value → J,TypeId → Af
open Go.IntKind renaming i64 → Ab
open Go.Value renaming int → Ac,slice → Z
open Option renaming some → K,none → M
set_option maxHeartbeats 1000000
set_option maxRecDepth 100000
variable {n base k B g cap len:Nat}{p:Prop}{t v:Int}{w:Y}{e:Af}{s:J}{xs:List J}{α:Type}{P:Program}{Q:Exit->Act->Y->Prop}{l:List Oper}
instance:Coe World Nat:=⟨λw=>w.heap.size⟩
instance {α:Type}:CoeOut (List α) Nat:=⟨List.length⟩
instance:Coe Nat (Option Addr):=⟨λn=>some ⟨n,0,none⟩⟩
instance:Coe Nat Addr:=⟨λn=>⟨n,0,none⟩⟩
theorem lR:n<=n:=Nat.le_refl n
theorem _root_.Go.RowKit.Hid.o(h:Aa p):p:=h
theorem oM(h:p:=by omega):p:=h
theorem dC(h:p:=by decide):p:=h
theorem kR(h:p:=by kernel_rfl):p:=h
theorem sP(h:p:=by simp):p:=h
theorem oS(h:p:=by simp only[];omega):p:=h
theorem oX(h:p:=by unfold maxLen;omega):p:=h
theorem oT(h:p:=by simp;omega):p:=h
theorem oE(h:p:=by simp[Act.eval]):p:=h
theorem oI(h:p:=by simp[intOf];omega):p:=h
abbrev an:=@List.getElem?_eq_getElem
abbrev iV:=@List.getElem?_eq_some_iff
abbrev i8:=@List.mem_of_getElem?
abbrev jC:=@block_lt_of_cell
abbrev jc:=@Value.slice.injEq
abbrev ji:=@And.intro
abbrev jt:=@List.getElem?_cons_zero
abbrev kI:=@List.getElem?_cons_succ
abbrev kJ:=@List.length_append
abbrev kK:=@Option.some.injEq
abbrev kL:=@List.getElem?_toArray
abbrev kM:=@Int.toNat_natCast
abbrev kN:=@Option.some.inj
abbrev kO:=@ownsRow_setCell_other
abbrev kQ:=@List.length_singleton
abbrev kS:=@List.mem_append
abbrev kT:=@Nat.le_trans
abbrev kU:=@Int.eq_ofNat_of_zero_le
abbrev kV:=@List.setIfInBounds_toArray
abbrev kW:=@List.length_map
abbrev kX:=@List.flatMap_cons
abbrev kY:=@bodyPost_ret
abbrev kZ:=@Nat.add_zero
abbrev lA:=@List.mem_cons
abbrev lB:=@List.getElem?_eq_none
abbrev lC:=@Array.getElem?_eq_some_iff
abbrev lD:=@List.getD_eq_getElem?_getD
abbrev lE:=@if_neg
abbrev lF:=@List.cons_append
abbrev lG:=@List.getElem?_map
abbrev lH:=@List.take_succ_eq_append_getElem
abbrev lI:=@List.set_cons_zero
abbrev lJ:=@List.flatMap_append
abbrev lK:=@List.mem_map
abbrev lL:=@ownsRow_setCell_below
abbrev lM:=@List.set_cons_succ
abbrev lN:=@List.getElem?_append_right
abbrev lO:=@true_and
abbrev lP:=@List.eq_nil_of_length_eq_zero
abbrev lQ:=@Below.refl
abbrev lS:=@if_pos
abbrev lT:=@List.mem_singleton
abbrev lU:=@info_parts
abbrev lV:=@World.ownsRow.cellAt
abbrev lW:=@List.not_mem_nil
abbrev lX:=@List.mem_cons_of_mem
abbrev lY:=@Nat.zero_add
abbrev lZ:=@heap_setCell_other
abbrev ld:=@List.getElem?_append_left
abbrev lg:=@List.nil_append
abbrev lh:=@List.length_cons
abbrev li:=@List.count_append
abbrev lj:=@List.length_take
abbrev lm:=@Nat.lt_of_lt_of_le
abbrev ln:=@List.mem_cons_self
abbrev lp:=@List.count_cons
abbrev lq:=@World.ownsRow_nil
abbrev lr:=@Nat.mul_one
abbrev lu:=@List.take_of_length_le
abbrev lw:=@List.getElem?_of_mem
abbrev ly:=@Classical.byContradiction
abbrev mA:=@Addr.mk.injEq
abbrev mB:=@World.size_setCell
abbrev mC:=@List.getElem?_set_ne
abbrev mD:=@List.length_nil
abbrev mE:=@Nat.ne_of_lt
abbrev mF:=@List.length_reverse
abbrev mG:=@List.getElem?_set_self
abbrev mH:=@List.pairwise_cons
abbrev mI:=@List.append_assoc
abbrev mJ:=@List.count_nil
abbrev mK:=@Option.map_eq_some_iff
abbrev mL:=@List.map_append
abbrev mM:=@List.flatMap_nil
abbrev mN:=@List.mem_flatMap
abbrev mO:=@List.length_drop
abbrev mP:=@List.pairwise_append
abbrev mQ:=@World.ownsRow_lit
abbrev mR:=@World.ownsRow.frozenAt
abbrev mS:=@List.length_range
abbrev mT:=@List.mem_reverse
abbrev mU:=@List.length_set
abbrev mV:=@List.ext_getElem?
abbrev mW:=@List.getElem_mem
abbrev mX:=@wpList_make_full
abbrev mY:=@IntWalk.i64_in
abbrev mZ:=@or_false
abbrev mc:=@List.length_filter_le
abbrev mg:=@and_true
abbrev mh:=@Obj.cells.injEq
abbrev mi:=@decide_eq_true_eq
abbrev mj:=@decide_eq_false
abbrev mo:=@List.map_cons
abbrev mq:=@World.ownsRow.stored
abbrev mr:=@List.filter_append
abbrev ms:=@Bool.false_ne_true
abbrev mu:=@Nat.zero_le
abbrev mv:=@List.drop_eq_getElem_cons
abbrev mw:=@List.flatten_replicate_singleton
abbrev mx:=@List.take_append_drop
abbrev my:=@List.getElem?_zipWith
abbrev mz:=@List.mem_range
abbrev m6:=@List.mem_of_mem_take
abbrev m7:=@List.mem_or_eq_of_mem_set
abbrev m8:=@Int.emod_lt_of_pos
abbrev m9:=@List.range_succ
abbrev nA:=@List.append_nil
abbrev nB:=@List.sublist_append_left
abbrev nC:=@List.all_eq_true
abbrev nD:=@beq_eq_false_iff_ne
abbrev nE:=@Int.toNat_of_nonneg
abbrev nF:=@List.map_congr_left
abbrev nG:=@List.set_append_right
abbrev nH:=@List.length_replicate
abbrev nI:=@Nat.add_sub_cancel_left
abbrev nJ:=@heap_alloc_new
abbrev nL:=@Bool.and_eq_true
abbrev nM:=@Nat.le_of_lt
abbrev nN:=@List.pairwise_iff_getElem
abbrev nO:=@cell_of_row
abbrev nP:=@List.pairwise_map
abbrev nQ:=@List.nodup_append
abbrev nR:=@Int.emod_nonneg
abbrev nS:=@World.cell?_of_block
abbrev nT:=@Option.getD_some
abbrev nU:=@List.drop_of_length_le
abbrev nV:=@List.length_pos_iff
abbrev nW:=@Option.map_some
abbrev nX:=@World.size_alloc
abbrev nY:=@List.filter_cons
abbrev nZ:=@Int.mul_le_mul_of_nonneg_right
abbrev ng:=@Nat.sub_self
abbrev nh:=@List.idxOf_lt_length_iff
abbrev ni:=@List.map_map
abbrev nj:=@List.mem_filter
abbrev nm:=@List.mergeSort_perm
abbrev nu:=@World.ownsMap.lt
abbrev nw:=@Bool.false_eq_true
abbrev ny:=@List.getElem?_drop
abbrev nz:=@Array.getElem?_eq_getElem
abbrev n9:=@Bool.eq_iff_iff
abbrev oC:=@List.filter_nil
abbrev oD:=@Go.IntWalk.i64_in
abbrev oF:=@of_decide_eq_true
abbrev oG:=@List.replicate_succ
abbrev oH:=@World.ownsMap.isMap
abbrev oJ:=@List.pairwise_lt_range
abbrev oL:=@List.perm_append_comm
abbrev oN:=@Nat.add_mul
abbrev oP:=@List.mem_of_mem_tail
abbrev oQ:=@Go.Maps.keyOf_int_mk
abbrev oR:=@bodyPost_end
abbrev oU:=@Nat.lt_succ_self
abbrev oV:=@World.cell?_setCell_other
abbrev oW:=@List.perm_iff_count
abbrev oY:=@List.mem_map_of_mem
abbrev oZ:=@World.cell?_setCell_same
abbrev oe:=@Array.getElem?_push_size
abbrev oh:=@List.idxOf_cons
abbrev oj:=@List.cons.injEq
abbrev om:=@decide_eq_false_iff_not
abbrev oq:=@List.pairwise_singleton
abbrev ou:=@List.mem_of_mem_drop
abbrev oy:=@List.getElem?_range
def DC(t:Int):Bool:=decide (1<=t/\t<=3)
theorem OG(h:1<=t)(a:t<=3):DC t=true:=by unfold DC;simp;omega
theorem Hw(h:t<1\/3<t):DC t=false:=by unfold DC;simp;omega
def word(b:Bool):Int:=if b then 1 else 0
theorem D6(t:Int)(w:Y):Ae Tryz.prog 112 #[Ac Ab t] w λe b=>e=.returned (.bool (DC t))/\b=w:=by
 by_cases h1:1<=t
 . by_cases a:t<=3
   . rw[OG h1 a];go_enter Tryz.func112,Tryz.ntmps112;go_wp2;go_ret;exact⟨rfl,rfl⟩
   rw[Hw oM];go_enter Tryz.func112,Tryz.ntmps112;go_wp2;go_ret;exact⟨rfl,rfl⟩
 rw[Hw oM];go_enter Tryz.func112,Tryz.ntmps112;go_wp2;go_ret;exact⟨rfl,rfl⟩
theorem D7(t:Int)(w:Y):Ae Tryz.prog 44 #[Ac Ab t] w λe b=>e=.returned (.bool (DC t))/\b=w:=by
 by_cases h1:1<=t
 . by_cases a:t<=3
   . rw[OG h1 a];go_enter Tryz.func44,Tryz.ntmps44;go_wp2;go_ret;exact⟨rfl,rfl⟩
   rw[Hw oM];go_enter Tryz.func44,Tryz.ntmps44;go_wp2;go_ret;exact⟨rfl,rfl⟩
 rw[Hw oM];go_enter Tryz.func44,Tryz.ntmps44;go_wp2;go_ret;exact⟨rfl,rfl⟩
def Rd(w:Y)(k:Nat)(s:J)(n:Nat)(xs:List J):Prop:=↑xs=n*k/\((n=0/\∃a c,s=Z a 0 c)\/∃g o c,s=Z (K ⟨g,o,M⟩) n c/\∀j u,xs[j]?=K u->w.cell? ⟨g,o+j,M⟩=K u)
theorem Rd.gM(h:w.ownsRow base e k s n xs):Rd w k s n xs:=by
 refine⟨by simpa using h.1,?_⟩;rcases h.2 with⟨rfl,rfl⟩|⟨g,cap,b,rfl,m,f,r,p,q,l⟩
 . exact .inl ⟨rfl,_,_,rfl⟩
 refine .inr ⟨g,0,cap,rfl, λj u a=> ?_⟩;rw[nO w g _ b e _ f,lY];rw[<-l]at a;obtain⟨i,a⟩:=iV.1 a;rw[List.getElem_take]at a;rw[<-a];simp at i;rw[nz oM];simp
theorem Rd.bM{w b:Y}(h:Rd w k s n xs)(f:Ad B w b)(e: ↑w<=B):Rd b k s n xs:=by
 obtain⟨a,h|⟨g,o,c,rfl,i⟩⟩:=h
 . exact⟨a,.inl h⟩
 refine⟨a,.inr ⟨g,o,c,rfl, λj u l=> ?_⟩⟩;have h1:=i j u l;rw[f.cell (lm (jC h1) e)];exact h1
theorem Rd.fu(h:Rd w k s n xs):∃a c,s=Z a n c:=by rcases h.2 with⟨rfl,a,c,rfl⟩|⟨g,o,c,rfl,_⟩<;>exact⟨_,_,rfl⟩
theorem Am{w b:Y}(h:w.ownsRow base e k s n xs)(l:Ad B w b)(j: ↑w<=B):b.ownsRow base e k s n xs:=by
 refine⟨h.1,?_⟩;rcases h.2 with h|⟨g,cap,f,i,m,a,p⟩
 . exact .inl h
 refine .inr ⟨g,cap,f,i,m,?_,p⟩;rw[l.block g (lm (lC.1 a).1 j)];exact a
theorem Au(f:α->List J)(m:Nat)(b:∀y,(f y).length=m)(a:List α):(a.flatMap f).length= ↑a*m:=by
 induction a with
 |nil=>simp
 |cons y r e=>rw[kX,kJ,e,b,lh,oN];omega
theorem Cr(f:α->List J)(m:Nat)(b:∀y,(f y).length=m)(e:List α)(k j:Nat)(y:α)(a:e[k]?=K y)(g:j<m):(e.flatMap f)[k*m+j]?=(f y)[j]?:=by
 induction e generalizing k with
 |nil=>cases a
 | cons x r h=>
   rw[kX];cases k with
   | zero=>simp only[jt,kK]at a;subst a;rw[Nat.zero_mul,lY,ld (by rw[b];exact g)]
   | succ k=>rw[kI]at a;rw[lN (by rw[b,oN];omega),b,<-h k a];(congr 1);rw[oN];omega
def CJ{α:Type}(f:α->List J)(z:List J)(a:List α)(k n:Nat):List J:=(a.take k).flatMap f++(List.replicate (n-k) z).flatten
theorem Qg(f:α->List J)(z:List J)(a:List α)(n:Nat)(h: ↑a=n):CJ f z a n n=a.flatMap f:=by simp[CJ,<-h]
theorem Ej(f:α->List J)(z:List J)(u:List α)(n:Nat)(v:J)(m:Nat)(p:v.cells=z.toArray)(k: ↑z=m)(g:0<m):(madeCells v.cells (n*m)).toList=CJ f z u 0 n:=by
 subst k;rw[p];unfold CJ;rw[List.take_zero,mM,lg,Nat.sub_zero];apply mV;intro i;have j:(List.replicate n z).flatten=(List.replicate n z).flatMap id:=by simp[List.flatMap_id]
 by_cases b:i<n* ↑z
 . have l:i / ↑z<n:=(Nat.div_lt_iff_lt_mul g).2 b
   have a:=Nat.mod_lt i g;have e:i=i / ↑z* ↑z+i % z.length:=by rw[Nat.mul_comm];exact(Nat.div_add_mod i z).symm
   have s:(List.replicate n z).flatten[i]?=z[i % ↑z]?:=by
    (conv=>lhs;rw[e]);clear e;generalize i / ↑z=q at l
    generalize i % ↑z=r at a
    clear b j;induction n generalizing q with
    |zero=>omega
    | succ n t=>
      rw[oG,List.flatten_cons];cases q with
      |zero=>rw[Nat.zero_mul,lY,ld a]
      | succ q=>rw[lN (by rw[oN];omega),<-t q oM];(congr 1);rw[oN];omega
   rw[s];have h:i<(madeCells z.toArray (n* ↑z)).toList.length:=by simp[madeCells];exact b
   rw[an h,an a];simp[madeCells];rw[an a];rfl
 have h1:(madeCells z.toArray (n* ↑z)).toList.length<=i:=by simp[madeCells];omega
 have h2:(List.replicate n z).flatten.length<=i:=by rw[List.length_flatten];simp;omega
 rw[lB h1,lB h2]
theorem Gv(f:α->List J)(z:List J)(a:List α)(k n:Nat)(b:k<n):CJ f z a k n=(a.take k).flatMap f++(z++(List.replicate (n-(k+1)) z).flatten):=by unfold CJ;have e:n-k=(n-(k+1))+1:=oM;rw[e,oG,List.flatten_cons]
theorem Oq(f:α->List J)(z:List J)(a:List α)(k n:Nat)(y:α)(e:a[k]?=K y):CJ f z a (k+1) n=(a.take k).flatMap f++(f y++(List.replicate (n-(k+1)) z).flatten):=by unfold CJ;obtain⟨b,rfl⟩:=iV.1 e;rw[lH b,lJ,mI];simp
theorem W6(A R:List J)(a c0:J)(i:Nat)(h: ↑A=i):(A++([a]++R)).set i c0=A++([c0]++R):=by subst h;simp
theorem set2(A R:List J)(a b c0 c1:J)(i:Nat)(h: ↑A=i):((A++([a,b]++R)).set i c0).set (i+1) c1=A++([c0,c1]++R):=by subst h;simp[List.set_append_right]
theorem YP(A R:List J)(a b e z3 c0 c1 c2 c3:J)(i:Nat)(h: ↑A=i):((((A++([a,b,e,z3]++R)).set i c0).set (i+1) c1).set (i+2) c2).set (i+3) c3=A++([c0,c1,c2,c3]++R):=by subst h;simp[List.set_append_right]
theorem Rd.elem{f:α->List J}{m:Nat}{a:List α}{g o:Nat}(b:∀y,(f y).length=m)(h:∀j u,(a.flatMap f)[j]?=K u->w.cell? ⟨g,o+j,M⟩=K u)(k:Nat)(y:α)(l:a[k]?=K y)(j:Nat)(u:J)(e:(f y)[j]?=K u):w.cell? ⟨g,o+k*m+j,M⟩=K u:=by
 have i:j<m:=by rw[<-b y];exact(iV.1 e).1
 rw[Nat.add_assoc];exact h _ u ((Cr f m b a k j y l i).trans e)
theorem Ap(h:p):Aa p:=h
abbrev sN:J:=Z M 0 0
abbrev sG(g n c:Nat):J:=Z g n c
abbrev sO(g o n c:Nat):J:=Z (K ⟨g,o,M⟩) n c
abbrev iZ(z:Int):J:=Ac Ab z
def EQ(P:Program):List Oper->Act->Option Act
 |[],a=>K a
 | o ::r,a=>
   match o.guard,o.op with
   | none,.build t parts=>
     match P.built t (parts.map λ(i,x)=>(i,a.eval x)).toList with
     |some cells=>EQ P r (a.put o.dst (.agg cells))
     |none=>M
   |_,_=>M
theorem FP{e:Array Oper}{a':Act}(rest:List Oper)(h:wpList P e Q rest a' w):
 ∀(l:List Oper) (a:Act),EQ P l a=K a'->wpList P e Q (l++rest) a w
 | [],a,hb=>by simp only[EQ,kK]at hb;subst hb;exact h
 | o ::r,a,hb=>by
   unfold EQ at hb;split at hb
   . next t parts f g=>
     split at hb
     . next cells b=>
       refine wpList_build f t parts g (by rw[b];rfl) ?_;rw[b];exact FP rest h r _ hb
     . cases hb
   . cases hb
theorem NJ{s:Array Oper}{a:Act}(n:Nat)(ty t:Af)(x y:Operand)(g:Nat)(cells f:Array J)(p:Tmp)
 (j:(EQ P (l.take n) a).map (λa'=>(a'.eval x,a'.eval y,a'.tmps.getD p undef,a'.defers))=K (.pointer g,.agg cells,.pointer g,[]))
 (b:(l.drop n).map (λo=>(o.guard,o.op,o.dst))=[(M,.store ty x y,M)])
 (k:w.heap[g]?=K (.cells f t (0,0))) (m:(P.info? ty).map (·.size)=K cells.size)
 (q:f.size=cells.size) (h1:cells.all (·.oneCell')=true)
 (h:∀a',a'.tmps.getD p undef=.pointer g->a'.defers=[]->Q .normal a' (w.setRow g cells)):wpList P s Q l a w:=by
 rw[<-mx n l];obtain⟨a',i,e⟩:=mK.1 j;simp only[Prod.mk.injEq]at e;refine FP (a':=a') _ ?_ _ _ i;generalize l.drop n=r at b;rcases r with _|⟨o,_|⟨v,u⟩⟩
 . cases b
 . simp only[mo,List.map_nil,oj,Prod.mk.injEq,mg]at b;refine wpList_store_row b.1 ty x y b.2.1 g cells e.1 e.2.1 t f k m q h1 ?_;rw[b.2.2];exact wpList_nil (h _ e.2.2.1 e.2.2.2)
 simp at b
def CodeAt(w:Y)(g:Nat)(a:Option Addr)(len:Nat):Prop:=len=0\/∃b e,a=K ⟨b,e,M⟩/\b<g/\∀i,i<len->∃v:Int,0<=v/\v<=255/\w.cell? ⟨b,e+i,M⟩=K (Ac .u8 v)
structure DE(w:Y)(g:Nat)(a:Option Addr)(len cap:Nat)(p:Int):Prop where
 ch:w.cell? g=K (Z a len cap)
 place:w.cell? ⟨g,1,M⟩=K (Ac Ab p)
 size:∃sz:Int,0<=sz/\sz<=12/\w.cell? ⟨g,2,M⟩=K (Ac Ab sz)
 free:w.frozen? ⟨g,1,M⟩=false
 low:0<=p
 j4:p<=1000000000000
 len_le:len<=140737488355328
 bytes:CodeAt w g a len
theorem TG{a:Option Addr}{p n:Int}(h:DE w g a 0 cap p)(m:1<=n)(q:n<=1000000):
 Ae Tryz.prog 26 #[.pointer g,Ac Ab n] w λe i=>∃(r:Int) (nq:Nat),0<=r/\r<n/\e=.returned (Ac Ab r)/\i=(w.setCell ⟨g,1,M⟩ (Ac Ab (p+1))).drewN nq:=by
 obtain⟨k,s,_,l,j,h1,_,_⟩:=h;have b:=nR (p*7) (show n≠0 from oM);have f:=m8 (p*7) (show 0<n from oM);go_enter Tryz.func26,Tryz.ntmps26;go_wp2;go_ret;exact⟨_,0,b,f,rfl,rfl⟩
theorem TH{b f len cap:Nat}{p n:Int}(h:DE w g (K ⟨b,f,M⟩) len cap p)(y:0<len)(l:b<g)(D:1<=n)(E:n<=200)
 (H:0<=v) (I:v<=255) (q:w.cell? ⟨b,f+(p % len).toNat,M⟩=K (Ac .u8 v)):
 Ae Tryz.prog 26 #[.pointer g,Ac Ab n] w λe k=>∃(r:Int) (nq:Nat),0<=r/\r<n/\e=.returned (Ac Ab r)/\k=(w.setCell ⟨g,1,M⟩ (Ac Ab (p+1))).drewN nq:=by
 obtain⟨m,G,_,u,a,h1,A,_⟩:=h;have B:=nR p (show(len:Int)≠0 from oM);have C:=m8 p (show 0<(len:Int)from oM);have z:((len:Int)==0)=false:=oT;have F:¬b=g:=oM;have s:0<=p / (len:Int):=Int.ediv_nonneg a oM;have t:p / (len:Int)<=1000000000000:=Int.le_trans (Int.ediv_le_self _ a) h1;have i:=nR (v+p / (len:Int)*37) (show n≠0 from oM);have j:=m8 (v+p / (len:Int)*37) (show 0<n from oM);go_enter Tryz.func26,Tryz.ntmps26;go_wp2;go_quiet (fail);go_wp2;go_ret;exact⟨_,nq,i,j,rfl,rfl⟩
theorem TI{b a len cap:Nat}{p n u:Int}(h:DE w g (K ⟨b,a,M⟩) len cap p)(A:0<len)(l:b<g)(H:200<n)(I:n<=1000000)
 (Q:0<=v) (R:v<=255) (q:w.cell? ⟨b,a+(p % len).toNat,M⟩=K (Ac .u8 v)) (O:0<=u) (P:u<=255) (s:w.cell? ⟨b,a+((p+1) % len).toNat,M⟩=K (Ac .u8 u)):
 Ae Tryz.prog 26 #[.pointer g,Ac Ab n] w λe k=>∃(r:Int) (nq:Nat),0<=r/\r<n/\e=.returned (Ac Ab r)/\k=(w.setCell ⟨g,1,M⟩ (Ac Ab (p+1))).drewN nq:=by
 obtain⟨m,N,_,z,f,h1,C,_⟩:=h;have D:=nR p (show(len:Int)≠0 from oM);have E:=m8 p (show 0<(len:Int)from oM);have F:=nR (p+1) (show(len:Int)≠0 from oM);have G:=m8 (p+1) (show 0<(len:Int)from oM);have B:((len:Int)==0)=false:=oT;have L:¬b=g:=oM;have t:0<=p / (len:Int):=Int.ediv_nonneg f oM;have y:p / (len:Int)<=1000000000000:=Int.le_trans (Int.ediv_le_self _ f) h1;have i:=nR ((v+p / (len:Int)*37)*251+u*13+p) (show n≠0 from oM);have j:=m8 ((v+p / (len:Int)*37)*251+u*13+p) (show 0<n from oM);go_enter Tryz.func26,Tryz.ntmps26;go_wp2;go_quiet (fail);go_wp2;go_quiet (fail);go_wp2;go_ret;exact⟨_,_,i,j,rfl,rfl⟩
def NZ(w:Y)(s:J)(n:Nat)(xs:List J):Prop:=↑xs=n/\((n=0/\∃a c,s=Z a 0 c)\/∃g o c,s=Z (K ⟨g,o,M⟩) n c/\∀j u,xs[j]?=K u->w.cell? ⟨g,o+j,M⟩=K u)
theorem NZ.gM(h:w.ownsRow base e 1 s n xs):NZ w s n xs:=by
 refine⟨by simpa using h.1,?_⟩;rcases h.2 with⟨rfl,rfl⟩|⟨g,cap,b,rfl,l,f,q,m,p,k⟩
 . exact .inl ⟨rfl,_,_,rfl⟩
 refine .inr ⟨g,0,cap,rfl, λj u a=> ?_⟩;rw[nO w g _ b e _ f,lY];rw[<-k]at a;obtain⟨i,a⟩:=iV.1 a;rw[List.getElem_take]at a;rw[<-a];simp at i;rw[nz oM];simp
theorem NZ.bM{w b:Y}(h:NZ w s n xs)(e:Ad w w b):NZ b s n xs:=by
 obtain⟨a,h|⟨g,o,c,rfl,f⟩⟩:=h
 . exact⟨a,.inl h⟩
 refine⟨a,.inr ⟨g,o,c,rfl, λj u i=> ?_⟩⟩;have h1:=f j u i;rw[e.cell (jC h1)];exact h1
theorem Jn{N:Array Oper}{a:Act}(n:Nat)(t e:Af)(len:Nat)(parts:Array (Nat×Operand))(s p m:Nat)(cells:Array J)(b:TypeInfo)(z:J)
 (y:(EQ P (l.take n) a).map (λa'=>(Instr.fill (λi=>K (i*b.size,b.size)) ((Array.range (len*b.size)).map (z.cells[· % z.cells.size]!)) (parts.map λ(i,x)=>(i,a'.eval x)).toList,a'.tmps.size,a'.defers))=K (K cells,m,[]))
 (f:(l.drop n).map (λo=>(o.guard,o.op,o.dst))=[(M,.buildSlice t len parts,K s),(M,.assign (.tmp s),K p)])
 (D:s<m) (B:p<m)
 (F:P.underlying t=K (.slice e)) (A:P.info? e=K b) (G:b.zero=K z) (E:¬len*b.size>2 ^ 24) (C:¬len*b.size=0)
 (h:∀a',a'.tmps.getD p undef=Z w len len->a'.defers=[]->Q .normal a' (w.alloc (.cells cells e))):wpList P N Q l a w:=by
 rw[<-mx n l];obtain⟨a',v,g⟩:=mK.1 y;simp only[Prod.mk.injEq]at g;refine FP (a':=a') _ ?_ _ _ v;generalize l.drop n=H at f;rcases H with _|⟨o,_|⟨S,_|⟨T,R⟩⟩⟩
 . cases f
 . simp at f
 . simp only[mo,List.map_nil,oj,Prod.mk.injEq,mg]at f;obtain⟨⟨q,I,k⟩,r,L,j⟩:=f;refine wpList_buildSlice q t e len parts I cells b z F A G E C g.1 ?_;rw[k];(refine wpList_plain r λO u=> ?_);unfold Oper.wp execOp;simp only[L,Sem.run_pure];refine u _ _ (wpList_nil (h _ ?_ ?_))
   . simp[Act.put,Act.eval,B,D,g.2.1,j]
   simp[Act.put,g.2.2,j]
 simp at f
def PQ:Array J:=#[.string ⟨#[]⟩,Ac Ab 0,Ac Ab 0,.nilFunc,
 .string ⟨#[]⟩,Ac Ab 0,Ac Ab 0,.nilFunc,
 .string ⟨#[]⟩,Ac Ab 0,Ac Ab 0,.nilFunc,
 .string ⟨#[]⟩,Ac Ab 0,Ac Ab 0,.nilFunc,
 .string ⟨#[]⟩,Ac Ab 0,Ac Ab 0,.nilFunc,
 .string ⟨#[]⟩,Ac Ab 0,Ac Ab 0,.nilFunc,
 .string ⟨#[]⟩,Ac Ab 0,Ac Ab 0,.nilFunc,
 .string ⟨#[]⟩,Ac Ab 0,Ac Ab 0,.nilFunc,
 .string ⟨#[]⟩,Ac Ab 0,Ac Ab 0,.nilFunc,
 .string ⟨#[]⟩,Ac Ab 0,Ac Ab 0,.nilFunc,
 .string ⟨#[]⟩,Ac Ab 0,Ac Ab 0,.nilFunc,
 .string ⟨#[]⟩,Ac Ab 0,Ac Ab 0,.nilFunc,
 .string ⟨#[]⟩,Ac Ab 0,Ac Ab 0,.nilFunc,
 .string ⟨#[]⟩,Ac Ab 0,Ac Ab 0,.nilFunc,
 .string ⟨#[]⟩,Ac Ab 0,Ac Ab 0,.nilFunc,
 .string ⟨#[]⟩,Ac Ab 0,Ac Ab 0,.nilFunc,
 .string ⟨#[]⟩,Ac Ab 0,Ac Ab 0,.nilFunc,
 .string ⟨#[]⟩,Ac Ab 0,Ac Ab 0,.nilFunc,
 .string ⟨#[]⟩,Ac Ab 0,Ac Ab 0,.nilFunc,
 .string ⟨#[]⟩,Ac Ab 0,Ac Ab 0,.nilFunc,
 .string ⟨#[]⟩,Ac Ab 0,Ac Ab 0,.nilFunc,
 .string ⟨#[]⟩,Ac Ab 0,Ac Ab 0,.nilFunc,
 .string ⟨#[]⟩,Ac Ab 0,Ac Ab 0,.nilFunc,
 .string ⟨#[]⟩,Ac Ab 0,Ac Ab 0,.nilFunc,
 .string ⟨#[]⟩,Ac Ab 0,Ac Ab 0,.nilFunc,
 .string ⟨#[]⟩,Ac Ab 0,Ac Ab 0,.nilFunc,
 .string ⟨#[]⟩,Ac Ab 0,Ac Ab 0,.nilFunc,
 .string ⟨#[]⟩,Ac Ab 0,Ac Ab 0,.nilFunc,
 .string ⟨#[]⟩,Ac Ab 0,Ac Ab 0,.nilFunc,
 .string ⟨#[]⟩,Ac Ab 0,Ac Ab 0,.nilFunc]
def FH:Array J:=#[.string ⟨#[110,111,112]⟩,Ac Ab 1,Ac Ab 0,.nilFunc,
 .string ⟨#[99,111,110,115,116]⟩,Ac Ab 1,Ac Ab 1,.nilFunc,
 .string ⟨#[108,111,97,100,108,111,99,97,108]⟩,Ac Ab 1,Ac Ab 2,.nilFunc,
 .string ⟨#[115,116,111,114,101,108,111,99,97,108]⟩,Ac Ab 1,Ac Ab 2,.nilFunc,
 .string ⟨#[108,111,97,100]⟩,Ac Ab 2,Ac Ab 3,.nilFunc,
 .string ⟨#[115,116,111,114,101]⟩,Ac Ab 2,Ac Ab 3,.nilFunc,
 .string ⟨#[108,111,97,100,97,116]⟩,Ac Ab 3,Ac Ab 4,.nilFunc,
 .string ⟨#[115,116,111,114,101,97,116]⟩,Ac Ab 3,Ac Ab 4,.nilFunc,
 .string ⟨#[97,100,100]⟩,Ac Ab 1,Ac Ab 5,.func (.func 170) #[] #[],
 .string ⟨#[115,117,98]⟩,Ac Ab 1,Ac Ab 5,.func (.func 171) #[] #[],
 .string ⟨#[109,117,108]⟩,Ac Ab 3,Ac Ab 5,.func (.func 172) #[] #[],
 .string ⟨#[100,105,118]⟩,Ac Ab 8,Ac Ab 5,.func (.func 173) #[] #[],
 .string ⟨#[109,111,100]⟩,Ac Ab 8,Ac Ab 5,.func (.func 174) #[] #[],
 .string ⟨#[97,110,100]⟩,Ac Ab 1,Ac Ab 6,.func (.func 175) #[] #[],
 .string ⟨#[111,114]⟩,Ac Ab 1,Ac Ab 6,.func (.func 176) #[] #[],
 .string ⟨#[120,111,114]⟩,Ac Ab 1,Ac Ab 6,.func (.func 177) #[] #[],
 .string ⟨#[110,111,116]⟩,Ac Ab 1,Ac Ab 6,.func (.func 178) #[] #[],
 .string ⟨#[115,104,108]⟩,Ac Ab 1,Ac Ab 0,.func (.func 179) #[] #[],
 .string ⟨#[115,104,114]⟩,Ac Ab 1,Ac Ab 0,.func (.func 180) #[] #[],
 .string ⟨#[110,101,103]⟩,Ac Ab 1,Ac Ab 0,.func (.func 181) #[] #[],
 .string ⟨#[101,113]⟩,Ac Ab 1,Ac Ab 7,.func (.func 182) #[] #[],
 .string ⟨#[108,101,115,115]⟩,Ac Ab 1,Ac Ab 5,.func (.func 183) #[] #[],
 .string ⟨#[99,111,110,118]⟩,Ac Ab 1,Ac Ab 8,.nilFunc,
 .string ⟨#[100,117,112]⟩,Ac Ab 1,Ac Ab 0,.nilFunc,
 .string ⟨#[100,114,111,112]⟩,Ac Ab 1,Ac Ab 0,.nilFunc,
 .string ⟨#[106,117,109,112]⟩,Ac Ab 2,Ac Ab 9,.nilFunc,
 .string ⟨#[106,117,109,112,122,101,114,111]⟩,Ac Ab 2,Ac Ab 9,.nilFunc,
 .string ⟨#[103,117,97,114,100]⟩,Ac Ab 2,Ac Ab 10,.nilFunc,
 .string ⟨#[99,97,108,108]⟩,Ac Ab 4,Ac Ab 11,.nilFunc,
 .string ⟨#[114,101,116,117,114,110]⟩,Ac Ab 2,Ac Ab 0,.nilFunc]
theorem SY(w:Y):(zeroValue 226).run Tryz.prog w=.ok (.agg PQ) w:=kR
theorem QH(w:Y):Ae Tryz.prog 164 #[] w λe f=>e=.returned (.agg FH)/\Ad w w f:=by have g:=SY;go_enter Tryz.func164,Tryz.ntmps164;go_wp2_with (show wpList _ _ _ ({dst:=K 1,op:=Op.build _ _,type:=_,pos:=_,after:=_,guard:=_}::_) _ _;refine NJ 61 226 226 (.tmp 0) (.tmp 61) w FH PQ 0 kR rfl (nJ _ _) kR kR kR ?_;intro a' b a);rw[World.setRow_alloc_new];exact kY (v:=.agg FH) (results_cell_row Tryz.results164 _ _ w 226 FH (0,0) _ b (nJ _ _) Tryz.underlying226 rfl kR) a ⟨rfl,(lQ _ _).alloc lR _⟩
def CV(k:Nat):Array J:=FH.extract (4*k) (4*k+4)
theorem Ql(k:Nat)(a:k<30)(w:Y):(Instr.index 226 (.agg FH) (Ac Ab (k:Int))).run Tryz.prog w=.ok (.agg (CV k)) w:=by
 have h:k=0\/k=1\/k=2\/k=3\/k=4\/k=5\/k=6\/k=7\/k=8\/k=9\/k=10\/k=11\/k=12\/k=13\/k=14\/k=15\/k=16\/k=17\/k=18\/k=19\/k=20\/k=21\/k=22\/k=23\/k=24\/k=25\/k=26\/k=27\/k=28\/k=29:=oM
 clear a;rcases h with rfl|rfl|rfl|rfl|rfl|rfl|rfl|rfl|rfl|rfl|rfl|rfl|rfl|rfl|rfl|rfl|rfl|rfl|rfl|rfl|rfl|rfl|rfl|rfl|rfl|rfl|rfl|rfl|rfl|rfl<;>(show Sem.run _ _ _=Result.ok _ _;kernel_rfl)
theorem L5(k:Nat)(b:k<30):(CV k).size=4:=by have a:FH.size=120:=kR;simp[CV,a];omega
theorem Nz(k:Nat)(f:k<30):(CV k).all (·.oneCell')=true:=by have a:FH.all (·.oneCell')=true:=kR;rw[Array.all_eq_true_iff_forall_mem]at a⊢;intro v b;unfold CV at b;obtain⟨i,e,rfl⟩:=Array.mem_iff_getElem.1 b;rw[Array.getElem_extract];exact a _ (Array.getElem_mem _)
theorem PR(w:Y):(zeroValue 210).run Tryz.prog w=.ok (.agg #[.string ⟨#[]⟩,Ac Ab 0,Ac Ab 0,.nilFunc]) w:=kR
theorem SO(op:Int)(w:Y)(h:op<0\/29<op):Ae Tryz.prog 150 #[Ac Ab op] w λe a=>e=.returned (.agg #[.string ⟨#[]⟩,Ac Ab 0,Ac Ab 0,.nilFunc])/\Ad w w a:=by
 have f:=PR;rcases h with h|h
 . go_enter Tryz.func150,Tryz.ntmps150;go_wp2;exact kY (v:=.agg #[.string ⟨#[]⟩,Ac Ab 0,Ac Ab 0,.nilFunc]) (by simp[results,Tryz.results150,go_sem]) rfl ⟨rfl,(lQ _ _).alloc lR _⟩
 have b:decide (op<0)=false:=oT;have h1:decide (29<op)=true:=oT;go_enter Tryz.func150,Tryz.ntmps150;go_wp2;exact kY (v:=.agg #[.string ⟨#[]⟩,Ac Ab 0,Ac Ab 0,.nilFunc]) (by simp[results,Tryz.results150,go_sem]) rfl ⟨rfl,(lQ _ _).alloc lR _⟩
theorem Ub(k:Nat)(b:k<30)(w:Y):Ae Tryz.prog 150 #[Ac Ab (k:Int)] w λe j=>e=.returned (.agg (CV k))/\Ad w w j:=by
 have p:=PR;have m:decide ((k:Int)<0)=false:=sP;have h1:decide (29<(k:Int))=false:=oT;have n:=Ql k b;have i:=L5 k b;have g:=Nz k b;have a:Aa ((CV k).size=4/\(CV k).all (·.oneCell')=true):=⟨i,g⟩
 clear i g;go_enter Tryz.func150,Tryz.ntmps150;go_wp2_with (first
  |(go_at_call 164;refine(QH _).mono ?_;rintro e l ⟨rfl,f⟩;have h:l.heap[w.heap.size]?=K (.cells #[.string ⟨#[]⟩,Ac Ab 0,Ac Ab 0,.nilFunc] 210):=(f.block _ sP).trans (nJ _ _))
  |(show wpList _ _ _ ({dst:=M,op:=Op.store 210 _ _,type:=_,pos:=_,after:=_,guard:=_}::_) _ _;refine wpList_store_row rfl 210 (.tmp 2) (.tmp 12) rfl w (CV k) rfl rfl 210 #[.string ⟨#[]⟩,Ac Ab 0,Ac Ab 0,.nilFunc] h (by rw[a.o.1];kernel_rfl) (by rw[a.o.1];rfl) a.o.2 ?_))
 refine kY (v:=.agg (CV k)) (results_cell_row Tryz.results150 _ _ w 210 (CV k) (0,0) _ rfl (setRow_heap _ _ _ _ _ _ h) Tryz.underlying210 rfl (by rw[a.o.1];kernel_rfl)) rfl ⟨rfl,?_⟩;exact below_setRow (((lQ _ _).alloc lR _).trans (f.mono sP)) lR _
structure AM(g:Nat)(w w':Y):Prop where
 os:w'.os=w.os
 tape:w'.tape=w.tape
 output:w'.output=w.output
 size:(w:Nat)<= ↑w'
 block:∀k,k< ↑w->k≠g->w'.heap[k]?=w.heap[k]?
theorem AM.refl(g:Nat)(w:Y):AM g w w:=⟨rfl,rfl,rfl,Nat.le_refl _, λ_ _ _=>rfl⟩
theorem AM.trans{a b c:Y}(h:AM g a b)(k:AM g b c):AM g a c:=⟨k.os.trans h.os,k.tape.trans h.tape,k.output.trans h.output,kT h.size k.size, λi f e=>(k.block i (lm f h.size) e).trans (h.block i f e)⟩
theorem AM.alloc(g:Nat)(w:Y)(o:Obj):AM g w (w.alloc o):=⟨rfl,rfl,rfl,sP, λk a _=>Below.heap_alloc w o k a⟩
theorem AM.set(g:Nat)(w:Y)(o:Nat)(v:J)(nq:Nat):AM g w ((w.setCell ⟨g,o,M⟩ v).drewN nq):=⟨rfl,rfl,rfl,by show _<=(w.setCell _ _).heap.size;simp, λk b a=>Below.heap_setCell w _ v k a⟩
theorem AM.below{w a:Y}(h:AM g w a)(f:B<=g)(e:B<= ↑w):Ad B w a:=⟨h.os,h.tape,h.output,h.size, λk b=>h.block k (lm b e) oM⟩
theorem AM.iw{w a:Y}(h:Ad w w a):AM g w a:=⟨h.os,h.tape,h.output,h.size, λk b _=>h.block k b⟩
theorem AM.cell{w a:Y}(h:AM g w a){p:Addr}(e:p.block< ↑w)(b:p.block≠g):a.cell? p=w.cell? p:=nS (w:=w) (h.block p.block e b)
theorem AM.frozen{w a:Y}(h:AM g w a){p:Addr}(e:p.block< ↑w)(b:p.block≠g):a.frozen? p=w.frozen? p:=World.frozen?_of_block (w:=w) (h.block p.block e b)
theorem DE.lt{a:Option Addr}{p:Int}(h:DE w g a len cap p):g<w.heap.size:=jC h.ch
theorem CodeAt.iu{j:Y}{e:Nat}{a:Option Addr}(h:CodeAt w g a len)(r:g<=e)(s:g<= ↑w)(p:∀k,k<g->j.heap[k]?=w.heap[k]?):CodeAt j e a len:=by
 rcases h with h|⟨b,f,rfl,m,n⟩
 . exact .inl h
 refine .inr ⟨b,f,rfl,oM, λi q=> ?_⟩;obtain⟨v,l,h1,h2⟩:=n i q;exact⟨v,l,h1,(nS (w:=w) (a:=⟨b,f+i,M⟩) (p b m)).trans h2⟩
theorem DE.bM{f:Y}{a:Option Addr}{p:Int}(h:DE w g a len cap p)(e:∀k,k<=g->f.heap[k]?=w.heap[k]?):DE f g a len cap p:=by obtain⟨h1,h2,⟨u,j,l,m⟩,n,q,r,s,i⟩:=h;have b:=e g lR;refine⟨(nS (w:=w) (a:=⟨g,0,M⟩) b).trans h1,(nS (w:=w) (a:=⟨g,1,M⟩) b).trans h2,⟨u,j,l,(nS (w:=w) (a:=⟨g,2,M⟩) b).trans m⟩,(World.frozen?_of_block (w:=w) (a:=⟨g,1,M⟩) b).trans n,q,r,s,?_⟩;exact i.iu lR (nM (jC h1)) λk t=>e k (nM t)
theorem DE.alloc{a:Option Addr}{p:Int}(h:DE w g a len cap p)(o:Obj):DE (w.alloc o) g a len cap p:=h.bM λk b=>Below.heap_alloc w o k (Nat.lt_of_le_of_lt b h.lt)
theorem DE.below{w b:Y}{a:Option Addr}{p:Int}(h:DE w g a len cap p)(e:Ad w w b):DE b g a len cap p:=h.bM λk f=>e.block k (Nat.lt_of_le_of_lt f h.lt)
theorem DE.next{a:Option Addr}{p:Int}(h:DE w g a len cap p)(m:p+1<=1000000000000)(nq:Nat):DE ((w.setCell ⟨g,1,M⟩ (Ac Ab (p+1))).drewN nq) g a len cap (p+1):=by
 obtain⟨h1,h2,⟨n,e,f,i⟩,j,q,r,l,b⟩:=h;refine⟨?_,?_,⟨n,e,f,?_⟩,?_,oM,m,l,?_⟩
 . show(w.setCell _ _).cell? _=_;rw[oV _ _ _ _ sP];exact h1
 . show(w.setCell _ _).cell? _=_;exact oZ w _ _ h2
 . show(w.setCell _ _).cell? _=_;rw[oV _ _ _ _ sP];exact i
 . show(w.setCell _ _).frozen? _=_;simpa using j
 exact b.iu lR (nM (jC h1)) λk s=>Below.heap_setCell w _ _ k (by show k≠g;omega)
theorem AA{a:Option Addr}{p n:Int}(h:DE w g a len cap p)(A:p+1<=1000000000000:=by omega)(l:1<=n:=by omega)(m:n<=1000000:=by omega):
 Ae Tryz.prog 26 #[.pointer g,Ac Ab n] w λe f=>∃r:Int,0<=r/\r<n/\e=.returned (Ac Ab r)/\DE f g a len cap (p+1)/\AM g w f:=by
 have fin:∀(e:Ending) (f:Y),(∃(r:Int) (nq:Nat),0<=r/\r<n/\e=.returned (Ac Ab r)/\f=(w.setCell ⟨g,1,M⟩ (Ac Ab (p+1))).drewN nq)->∃r:Int,0<=r/\r<n/\e=.returned (Ac Ab r)/\DE f g a len cap (p+1)/\AM g w f:=by rintro e f ⟨r,nq,i,h1,z,rfl⟩;exact⟨r,i,h1,z,h.next A nq,AM.set g w 1 _ nq⟩
 rcases Nat.eq_zero_or_pos len with rfl|k
 . exact(TG h l m).mono fin
 rcases h.bytes with i|⟨b,B,rfl,j,y⟩
 . omega
 have hm (q:Int):∃v:Int,0<=v/\v<=255/\w.cell? ⟨b,B+(q % len).toNat,M⟩=K (Ac .u8 v):=y _ (by have:=nR q (show(len:Int)≠0 from oM);have:=m8 q (show 0<(len:Int)from oM);omega)
 obtain⟨v,s,v1,v2⟩:=hm p;by_cases t:n<=200
 . exact(TH h k j l t s v1 v2).mono fin
 obtain⟨u,C,D,E⟩:=hm (p+1);exact(TI h k j oM m s v1 v2 C D E).mono fin
theorem UC(w:Y):(zeroValue 69).run Tryz.prog w=.ok (.agg #[Z M 0 0,Ac Ab 0,Ac Ab 0]) w:=kR
theorem Nv(a:Option Addr)(len cap:Nat)(w:Y)(m:len<=140737488355328)(h:CodeAt w w a len):
 Ae Tryz.prog 10 #[Z a len cap] w λe i=>e=.returned (.pointer w)/\DE i w a len cap 0/\Ad w w i:=by
 have q:=UC;have fin:∀b:Int,0<=b->b<=12->DE (w.alloc (.cells #[Z a len cap,Ac Ab 0,Ac Ab b] 69)) w a len cap 0:= λb j h1=>by
  have f:=nJ w (.cells #[Z a len cap,Ac Ab 0,Ac Ab b] 69);refine⟨?_,?_,⟨b,j,h1,?_⟩,frozen_of_row _ _ _ _ _ f,oM,oM,m,?_⟩
  . rw[nO _ _ _ _ _ _ f];rfl
  . rw[nO _ _ _ _ _ _ f];rfl
  . rw[nO _ _ _ _ _ _ f];rfl
  exact h.iu lR lR λk l=>Below.heap_alloc w _ k l
 have g:Aa (∀b:Int,0<=b->b<=12->DE (w.alloc (.cells #[Z a len cap,Ac Ab 0,Ac Ab b] 69)) w a len cap 0):=fin;clear fin h;have p:0<=(len:Int) / 16:=oM;by_cases n:12<(len:Int) / 16
 . go_enter Tryz.func10,Tryz.ntmps10;go_wp2;go_ret;exact⟨rfl,g.o _ oM oM,(lQ _ _).alloc lR _⟩
 go_enter Tryz.func10,Tryz.ntmps10;go_wp2;go_ret;exact⟨rfl,g.o _ oM oM,(lQ _ _).alloc lR _⟩
theorem DN{a:Option Addr}{p n:Int}(h:DE w g a len cap p)(s:p+1<=1000000000000:=by omega)(m:1<=n:=by omega)(q:n<=1000000:=by omega):
 Ae Tryz.prog 24 #[.pointer g,Ac Ab n] w λe k=>∃b:Bool,e=.returned (.bool b)/\DE k g a len cap (p+1)/\AM g w k:=by
 have H:Aa (DE w g a len cap p):=h;clear h;go_enter Tryz.func24,Tryz.ntmps24;go_wp2_with fail;refine(AA H.o s m q).mono ?_;rintro e l ⟨r,t,h1,rfl,j,i⟩;have f:Aa (DE l g a len cap (p+1)/\AM g w l):=⟨j,i⟩
 clear j i;go_wp2;go_ret;exact⟨_,rfl,f.o.1,f.o.2⟩
structure MI where
 op:Int
 a:Int
 b:Int
 c:Int
structure MC where
 type:Int
 word:Int
structure MT where
 func:Int
 head:Int
 gQ:Int
 init:Int
def MI.cells(x:MI):List J:=[iZ x.op,iZ x.a,iZ x.b,iZ x.c]
def MC.cells(x:MC):List J:=[iZ x.type,Ac .u32 x.word]
def MT.cells(x:MT):List J:=[iZ x.func,iZ x.head,iZ x.gQ,Ac .u32 x.init]
theorem MI.gH(x:MI):x.cells.length=4:=rfl
theorem MC.gH(x:MC):x.cells.length=2:=rfl
theorem MT.gH(x:MT):x.cells.length=4:=rfl
def Ah(z:Int):List J:=[iZ z]
theorem Ao(z:Int):(Ah z).length=1:=rfl
theorem Bt:(Tryz.prog.info? 2).map (λi=>(i.zero,i.size,i.bytes))=K (K (iZ 0),1,8):=kR
theorem Rm:(Tryz.prog.info? 60).map (λi=>(i.zero,i.size,i.bytes))=K (K (.agg #[iZ 0,iZ 0,iZ 0,iZ 0]),4,32):=kR
theorem TC:(Tryz.prog.info? 105).map (λi=>(i.zero,i.size,i.bytes))=K (K (.agg #[iZ 0,Ac .u32 0]),2,16):=kR
theorem Rn:(Tryz.prog.info? 121).map (λi=>(i.zero,i.size,i.bytes))=K (K (.agg #[iZ 0,iZ 0,iZ 0,Ac .u32 0]),4,32):=kR
def Dx:Array J:=#[.string ⟨#[110,111,112]⟩,Ac Ab 1,Ac Ab 0,
 .string ⟨#[99,111,110,115,116]⟩,Ac Ab 1,Ac Ab 1,
 .string ⟨#[108,111,97,100,108,111,99,97,108]⟩,Ac Ab 1,Ac Ab 2,
 .string ⟨#[115,116,111,114,101,108,111,99,97,108]⟩,Ac Ab 1,Ac Ab 2,
 .string ⟨#[108,111,97,100]⟩,Ac Ab 2,Ac Ab 3,
 .string ⟨#[115,116,111,114,101]⟩,Ac Ab 2,Ac Ab 3,
 .string ⟨#[108,111,97,100,97,116]⟩,Ac Ab 3,Ac Ab 4,
 .string ⟨#[115,116,111,114,101,97,116]⟩,Ac Ab 3,Ac Ab 4,
 .string ⟨#[97,100,100]⟩,Ac Ab 1,Ac Ab 5,
 .string ⟨#[115,117,98]⟩,Ac Ab 1,Ac Ab 5,
 .string ⟨#[109,117,108]⟩,Ac Ab 3,Ac Ab 5,
 .string ⟨#[100,105,118]⟩,Ac Ab 8,Ac Ab 5,
 .string ⟨#[109,111,100]⟩,Ac Ab 8,Ac Ab 5,
 .string ⟨#[97,110,100]⟩,Ac Ab 1,Ac Ab 6,
 .string ⟨#[111,114]⟩,Ac Ab 1,Ac Ab 6,
 .string ⟨#[120,111,114]⟩,Ac Ab 1,Ac Ab 6,
 .string ⟨#[110,111,116]⟩,Ac Ab 1,Ac Ab 6,
 .string ⟨#[115,104,108]⟩,Ac Ab 1,Ac Ab 0,
 .string ⟨#[115,104,114]⟩,Ac Ab 1,Ac Ab 0,
 .string ⟨#[110,101,103]⟩,Ac Ab 1,Ac Ab 0,
 .string ⟨#[101,113]⟩,Ac Ab 1,Ac Ab 7,
 .string ⟨#[108,101,115,115]⟩,Ac Ab 1,Ac Ab 5,
 .string ⟨#[99,111,110,118]⟩,Ac Ab 1,Ac Ab 8,
 .string ⟨#[100,117,112]⟩,Ac Ab 1,Ac Ab 0,
 .string ⟨#[100,114,111,112]⟩,Ac Ab 1,Ac Ab 0,
 .string ⟨#[106,117,109,112]⟩,Ac Ab 2,Ac Ab 9,
 .string ⟨#[106,117,109,112,122,101,114,111]⟩,Ac Ab 2,Ac Ab 9,
 .string ⟨#[103,117,97,114,100]⟩,Ac Ab 2,Ac Ab 10,
 .string ⟨#[99,97,108,108]⟩,Ac Ab 4,Ac Ab 11,
 .string ⟨#[114,101,116,117,114,110]⟩,Ac Ab 2,Ac Ab 0]
theorem OL(w:Y):Ae Tryz.prog 111 #[] w λe f=>e=.returned (Z w 30 30)/\f=w.alloc (.cells Dx 143):=by go_enter Tryz.func111,Tryz.ntmps111;go_wp2_with (show wpList _ _ _ ({dst:=K 1,op:=Op.build _ _,type:=_,pos:=_,after:=_,guard:=_}::_) _ _;refine Jn 30 179 143 30 #[(0,.tmp 1),(1,.tmp 2),(2,.tmp 3),(3,.tmp 4),(4,.tmp 5),(5,.tmp 6),(6,.tmp 7),(7,.tmp 8),(8,.tmp 9),(9,.tmp 10),(10,.tmp 11),(11,.tmp 12),(12,.tmp 13),(13,.tmp 14),(14,.tmp 15),(15,.tmp 16),(16,.tmp 17),(17,.tmp 18),(18,.tmp 19),(19,.tmp 20),(20,.tmp 21),(21,.tmp 22),(22,.tmp 23),(23,.tmp 24),(24,.tmp 25),(25,.tmp 26),(26,.tmp 27),(27,.tmp 28),(28,.tmp 29),(29,.tmp 30)] 31 0 32 Dx ((Tryz.prog.info? 143).getD default) (.agg #[.string ⟨#[]⟩,Ac Ab 0,Ac Ab 0]) kR rfl dC dC Tryz.underlying179 kR kR (oF kR) (oF kR) ?_;intro a' b a);refine kY (v:=Z w 30 30) ?_ a ⟨rfl,rfl⟩;rw[<-b];exact results_tmp Tryz.results111 _ _ _
def Ce(k:Nat):List J:=(Dx.extract (3*k) (3*k+3)).toList
theorem KN(k:Nat)(b:k<30):(Ce k).length=3:=by have a:Dx.size=90:=kR;simp[Ce,a];omega
theorem OD(k:Nat)(f:k<30):(Ce k).toArray.all (·.oneCell')=true:=by have a:Dx.all (·.oneCell')=true:=kR;rw[Array.all_eq_true_iff_forall_mem]at a⊢;intro v b;simp only[Ce,Array.toArray_toList]at b;obtain⟨i,e,rfl⟩:=Array.mem_iff_getElem.1 b;rw[Array.getElem_extract];exact a _ (Array.getElem_mem _)
theorem LU(w:Y)(b k:Nat)(f:k<30)(h:w.heap[b]?=K (.cells Dx 143)):w.rangeAt b (k*3) (Ce k):=by
 intro j v a;have e:Dx.size=90:=kR;rw[nO w b _ Dx _ _ h];simp only[Ce,Array.getElem?_toList]at a;rw[Array.getElem?_extract]at a;split at a
 . rw[<-a,Nat.mul_comm]
 cases a
theorem JS(w:Y):(zeroValue 143).run Tryz.prog w=.ok (.agg #[.string ⟨#[]⟩,Ac Ab 0,Ac Ab 0]) w:=kR
theorem RR(op:Int)(w:Y)(h:op<0\/29<op):Ae Tryz.prog 71 #[Ac Ab op] w λe a=>e=.returned (.agg #[.string ⟨#[]⟩,Ac Ab 0,Ac Ab 0])/\Ad w w a:=by
 have f:=JS;rcases h with h|h
 . go_enter Tryz.func71,Tryz.ntmps71;go_wp2;exact kY (v:=.agg #[.string ⟨#[]⟩,Ac Ab 0,Ac Ab 0]) (by simp[results,Tryz.results71,go_sem]) rfl ⟨rfl,(lQ _ _).alloc lR _⟩
 have b:decide (op<0)=false:=oT;have h1:decide (29<op)=true:=oT;go_enter Tryz.func71,Tryz.ntmps71;go_wp2;exact kY (v:=.agg #[.string ⟨#[]⟩,Ac Ab 0,Ac Ab 0]) (by simp[results,Tryz.results71,go_sem]) rfl ⟨rfl,(lQ _ _).alloc lR _⟩
theorem S9(k:Nat)(b:k<30)(w:Y):Ae Tryz.prog 71 #[Ac Ab (k:Int)] w λe f=>e=.returned (.agg (Ce k).toArray)/\Ad w w f:=by
 have h:=JS;have g:decide ((k:Int)<0)=false:=sP;have h1:decide (29<(k:Int))=false:=oT;have a:Aa ((Ce k).length=3/\(Ce k).toArray.all (·.oneCell')=true):=⟨KN k b,OD k b⟩
 go_enter Tryz.func71,Tryz.ntmps71;go_wp2_with (first
  |(go_at_call 111;refine(OL _).mono ?_;rintro e i ⟨rfl,rfl⟩)
  |(show wpList _ _ _ ({dst:=K 13,op:=Op.load 143 _,type:=_,pos:=_,after:=_,guard:=_}::_) _ _;refine wpList_load_mid rfl 143 (.tmp 12) rfl ((w:Nat)+1) (k*3) rfl (Ce k) _ (LU _ _ _ b (heap_alloc2_new _ _ _)) Tryz.underlying143 rfl (by rw[a.o.1];kernel_rfl) ?_)
  |(show wpList _ _ _ ({dst:=M,op:=Op.store 143 _ _,type:=_,pos:=_,after:=_,guard:=_}::_) _ _;refine wpList_store_row rfl 143 (.tmp 2) (.tmp 13) rfl w (Ce k).toArray rfl rfl 143 #[.string ⟨#[]⟩,Ac Ab 0,Ac Ab 0] (heap_alloc2_old _ _ _) (by rw[List.size_toArray,a.o.1];kernel_rfl) (by show 3=(Ce k).length;rw[a.o.1]) a.o.2 ?_))
 refine kY (v:=.agg (Ce k).toArray) (results_cell_row Tryz.results71 _ _ w 143 (Ce k).toArray (0,0) _ rfl (setRow_heap _ _ _ _ _ _ (heap_alloc2_old _ _ _)) Tryz.underlying143 rfl (by rw[List.size_toArray,a.o.1];kernel_rfl)) rfl ⟨rfl,?_⟩;exact below_setRow (((lQ _ _).alloc lR _).alloc sP _) lR _
end Go.Proofs.YtjnglocdoljgkaaGreat
