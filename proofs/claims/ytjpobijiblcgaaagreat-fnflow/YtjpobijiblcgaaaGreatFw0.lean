import Derived.Test.YtjpobijiblcgaaaGreatRows
import Derived.WalkKit
import Derived.ProofKit
import Derived.OpenShut
import Derived.Below
import Derived.Outline
import Derived.WalkLawsBesides
import Derived.Laws.Rows
import Derived.Laws.OwnMore
import Derived.OwnWalk
import Derived.Deep.QuietTactic
import Derived.BigQuiet
import Derived.Laws.Tables
import Derived.Deep.WholeRow
import Derived.Great.BuildSlice
import Derived.Laws.CopyOwn
import Derived.Laws.EntriesVeiled
import Derived.Deep.MidRow
namespace Go.Proofs.YtjpobijiblcgaaaGreat
open Go.ChangeShapes Go.WideShapes Go.ChangeAt Go.RowKit
set_option linter.unusedVariables false
set_option maxHeartbeats 1000000
set_option maxRecDepth 100000
def FC(t:Int):Bool:=decide (1<=t/\t<=3)
theorem OG{t:Int}(h:1<=t)(h':t<=3):FC t=true:=by unfold FC;simp;omega
theorem Ju{t:Int}(h:t<1\/3<t):FC t=false:=by unfold FC;simp;omega
theorem Dv(t:Int)(w:World):Calls Tryz.prog 104 #[.int .i64 t] w fun e w'=>e=.returned (.bool (FC t))/\w'=w:=by
 by_cases h1:1<=t
 . by_cases h3:t<=3
   . rw[OG h1 h3]
     go_enter Tryz.func104,Tryz.ntmps104;go_wp2
     go_ret
     exact⟨rfl,rfl⟩
   . rw[Ju (by omega)]
     go_enter Tryz.func104,Tryz.ntmps104;go_wp2
     go_ret
     exact⟨rfl,rfl⟩
 . rw[Ju (by omega)]
   go_enter Tryz.func104,Tryz.ntmps104;go_wp2
   go_ret
   exact⟨rfl,rfl⟩
theorem lR{n:Nat}:n<=n:=Nat.le_refl n
theorem _root_.Go.RowKit.Hid.o{p:Prop}(h:Hid p):p:=h
abbrev aA:=@List.getElem?_eq_getElem
abbrev aD:=@List.getElem?_eq_some_iff
abbrev aE:=@List.mem_of_getElem?
abbrev aF:=@block_lt_of_cell
abbrev aG:=@List.length_append
abbrev aH:=@And.intro
abbrev aI:=@Value.slice.injEq
abbrev aJ:=@Option.some.injEq
abbrev aM:=@List.getElem?_cons_zero
abbrev aP:=@List.length_singleton
abbrev aQ:=@List.getElem?_cons_succ
abbrev aR:=@ownsRow_setCell_other
abbrev aS:=@List.mem_append
abbrev aT:=@bodyPost_ret
abbrev aU:=@List.getElem?_toArray
abbrev aW:=@List.flatMap_cons
abbrev aX:=@List.mem_cons
abbrev aY:=@Nat.le_trans
abbrev aZ:=@List.setIfInBounds_toArray
abbrev ae:=@List.getElem?_eq_none
abbrev ah:=@List.cons_append
abbrev aj:=@List.length_map
abbrev am:=@List.mem_singleton
abbrev an:=@Array.getElem?_eq_some_iff
abbrev ao:=@Int.toNat_natCast
abbrev aq:=@Int.eq_ofNat_of_zero_le
abbrev au:=@World.ownsRow.cellAt
abbrev aw:=@Nat.add_zero
abbrev a6:=@List.take_succ_eq_append_getElem
abbrev a7:=@List.getElem?_map
abbrev a8:=@List.flatMap_append
abbrev bB:=@List.not_mem_nil
abbrev bC:=@Option.some.inj
abbrev bF:=@List.set_cons_zero
abbrev bG:=@Nat.zero_add
abbrev bH:=@info_parts
abbrev bI:=@List.set_cons_succ
abbrev bJ:=@List.mem_map
abbrev bK:=@bodyPost_end
abbrev bL:=@List.nil_append
abbrev bO:=@heap_setCell_other
abbrev bP:=@List.length_cons
abbrev bQ:=@List.getD_eq_getElem?_getD
abbrev bR:=@List.mem_cons_of_mem
abbrev bS:=@List.count_cons
abbrev bT:=@List.count_append
abbrev bU:=@true_and
abbrev bV:=@List.getElem?_append_right
abbrev bW:=@List.getElem?_append_left
abbrev bX:=@World.size_setCell
abbrev bY:=@Below.refl
abbrev bZ:=@List.take_of_length_le
abbrev ba:=@World.ownsRow_nil
abbrev bc:=@List.mem_cons_self
abbrev bf:=@Addr.mk.injEq
abbrev bg:=@List.length_reverse
abbrev bh:=@List.length_take
abbrev bi:=@List.pairwise_cons
abbrev bj:=@List.count_nil
abbrev bp:=@IntWalk.i64_in
abbrev bq:=@List.getElem_mem
abbrev br:=@List.map_append
abbrev bt:=@List.length_nil
abbrev bu:=@if_neg
abbrev bx:=@Nat.lt_of_lt_of_le
abbrev bz:=@World.ownsRow.frozenAt
abbrev cA:=@List.flatMap_nil
abbrev cD:=@if_pos
abbrev cE:=@List.mem_flatMap
abbrev cG:=@List.pairwise_append
abbrev cH:=@List.getElem?_of_mem
abbrev cI:=@Nat.ne_of_lt
abbrev cJ:=@List.append_assoc
abbrev cM:=@List.length_range
abbrev cQ:=@List.ext_getElem?
abbrev cR:=@wpList_make_full
abbrev cS:=@Option.map_eq_some_iff
abbrev cT:=@beq_eq_false_iff_ne
abbrev cU:=@List.getElem?_set_ne
abbrev cW:=@or_false
abbrev cX:=@List.eq_nil_of_length_eq_zero
abbrev cY:=@List.getElem?_set_self
abbrev cZ:=@Nat.mul_one
abbrev ce:=@World.ownsRow_lit
abbrev cg:=@and_true
abbrev cj:=@List.length_filter_le
abbrev cu:=@World.cell?_setCell_other
abbrev c6:=@List.mem_range
abbrev dA:=@World.ownsRow.stored
abbrev dB:=@List.sublist_append_left
abbrev dC:=@Obj.cells.injEq
abbrev dD:=@List.length_set
abbrev dE:=@ownsRow_setCell_below
abbrev dF:=@List.map_cons
abbrev dG:=@List.flatten_replicate_singleton
abbrev dH:=@List.filter_append
abbrev dI:=@decide_eq_true_eq
abbrev dJ:=@List.drop_eq_getElem_cons
abbrev dK:=@List.mem_or_eq_of_mem_set
abbrev dL:=@List.range_succ
abbrev dM:=@List.mem_reverse
abbrev dN:=@List.length_pos_iff
abbrev dO:=@List.length_replicate
abbrev dP:=@Nat.zero_le
abbrev dQ:=@List.mem_of_mem_take
abbrev dR:=@List.take_append_drop
abbrev dS:=@List.getElem?_zipWith
abbrev dT:=@heap_alloc_new
abbrev dU:=@List.append_nil
abbrev dV:=@Bool.false_ne_true
abbrev dW:=@World.cell?_of_block
abbrev dX:=@List.pairwise_map
abbrev dY:=@cell_of_row
abbrev dZ:=@Option.map_some
abbrev db:=@List.mem_filter
abbrev dd:=@List.pairwise_iff_getElem
abbrev de:=@Classical.byContradiction
abbrev df:=@List.set_append_right
abbrev dg:=@List.length_drop
abbrev dh:=@World.size_alloc
abbrev di:=@Int.emod_lt_of_pos
abbrev dj:=@Int.mul_le_mul_of_nonneg_right
abbrev dk:=@List.idxOf_lt_length_iff
abbrev dm:=@Nat.add_sub_cancel_left
abbrev dn:=@List.nodup_append
abbrev dp:=@List.mergeSort_perm
abbrev dq:=@List.drop_of_length_le
abbrev dr:=@Nat.le_of_lt
abbrev dt:=@List.pairwise_lt_range
abbrev du:=@Bool.and_eq_true
abbrev dw:=@List.filter_cons
abbrev dx:=@Bool.false_eq_true
abbrev dy:=@Int.emod_nonneg
abbrev dz:=@Bool.eq_iff_iff
abbrev d6:=@Go.IntWalk.i64_in
abbrev d7:=@Int.toNat_of_nonneg
abbrev d8:=@World.ownsMap.lt
abbrev eE:=@Option.getD_some
abbrev eF:=@List.map_map
abbrev eG:=@List.filter_nil
abbrev eH:=@List.perm_append_comm
abbrev eJ:=@of_decide_eq_true
abbrev eL:=@Nat.add_mul
abbrev eM:=@List.mem_of_mem_tail
abbrev eP:=@List.mem_of_mem_drop
abbrev eQ:=@Go.Maps.keyOf_int_mk
abbrev eR:=@Nat.sub_self
abbrev eS:=@Nat.lt_succ_self
abbrev eT:=@List.replicate_succ
abbrev eU:=@World.ownsMap.isMap
abbrev eX:=@List.perm_iff_count
abbrev eY:=@List.mem_map_of_mem
abbrev eZ:=@List.map_congr_left
abbrev eh:=@List.getElem?_range
abbrev en:=@World.cell?_setCell_same
abbrev eo:=@decide_eq_false
abbrev eu:=@List.idxOf_cons
abbrev ew:=@List.getElem?_drop
abbrev e9:=@decide_eq_false_iff_not
abbrev fA:=@List.pairwise_singleton
abbrev fB:=@List.cons.injEq
abbrev fC:=@List.length_filterMap_le
abbrev fD:=@Array.getElem?_push_size
abbrev fE:=@List.all_eq_true
def Rd(w:World)(k:Nat)(s:Value)(n:Nat)(xs:List Value):Prop:=
 xs.length=n*k/\((n=0/\∃a c,s=.slice a 0 c)\/∃g o c,s=.slice (some ⟨g,o,none⟩) n c/\∀j u,xs[j]?=some u->w.cell? ⟨g,o+j,none⟩=some u)
theorem Rd.of_own{w:World}{base:Nat}{e:TypeId}{s:Value}{k n:Nat}{xs:List Value}(h:w.ownsRow base e k s n xs):Rd w k s n xs:=by
 refine⟨by simpa using h.1,?_⟩;rcases h.2 with⟨rfl,rfl⟩|⟨g,cap,cur,rfl,hb,hg,hnc,hcm,hcs,ht⟩
 . exact .inl ⟨rfl,_,_,rfl⟩
 . refine .inr ⟨g,0,cap,rfl,fun j u hj=> ?_⟩
   rw[dY w g _ cur e _ hg,bG];rw[<-ht]at hj;obtain⟨hlt,hj⟩:=aD.1 hj;rw[List.getElem_take]at hj;rw[<-hj];simp at hlt;rw[Array.getElem?_eq_getElem (by omega)];simp
theorem Rd.keep{w w':World}{s:Value}{k n:Nat}{xs:List Value}(h:Rd w k s n xs){B:Nat}(hb:Below B w w')(hB:w.heap.size<=B):Rd w' k s n xs:=by
 obtain⟨hl,h|⟨g,o,c,rfl,hc⟩⟩:=h
 . exact⟨hl,.inl h⟩
 . refine⟨hl,.inr ⟨g,o,c,rfl,fun j u hj=> ?_⟩⟩
   have h1:=hc j u hj;rw[hb.cell (bx (aF h1) hB)];exact h1
theorem Rd.is_slice{w:World}{k:Nat}{s:Value}{n:Nat}{xs:List Value}(h:Rd w k s n xs):∃a c,s=.slice a n c:=by
 rcases h.2 with⟨rfl,a,c,rfl⟩|⟨g,o,c,rfl,_⟩<;>exact⟨_,_,rfl⟩
theorem Aj{w w':World}{base:Nat}{e:TypeId}{s:Value}{k n:Nat}{xs:List Value}(h:w.ownsRow base e k s n xs){B:Nat}(hb:Below B w w')(hB:w.heap.size<=B):w'.ownsRow base e k s n xs:=by
 refine⟨h.1,?_⟩;rcases h.2 with h|⟨g,cap,cur,e1,hb1,hg,hr⟩
 . exact .inl h
 . refine .inr ⟨g,cap,cur,e1,hb1,?_,hr⟩
   rw[hb.block g (bx (an.1 hg).1 hB)];exact hg
theorem Ax{α:Type}(f:α->List Value)(m:Nat)(hf:∀y,(f y).length=m)(ys:List α):(ys.flatMap f).length=ys.length*m:=by
 induction ys with
 |nil=>simp
 |cons y r ih=>rw[aW,aG,ih,hf,bP,eL];omega
theorem CH{α:Type}(f:α->List Value)(m:Nat)(hf:∀y,(f y).length=m)(ys:List α)(k j:Nat)(y:α)(hk:ys[k]?=some y)(hj:j<m):(ys.flatMap f)[k*m+j]?=(f y)[j]?:=by
 induction ys generalizing k with
 |nil=>cases hk
 | cons x r ih=>
   rw[aW];cases k with
   | zero=>
     simp only[aM,aJ]at hk;subst hk;rw[Nat.zero_mul,bG,bW (by rw[hf];exact hj)]
   | succ k=>
     rw[aQ]at hk;rw[bV (by rw[hf,eL];omega),hf,<-ih k hk];congr 1;rw[eL];omega
def Cs{α:Type}(f:α->List Value)(z:List Value)(ys:List α)(k n:Nat):List Value:=(ys.take k).flatMap f++(List.replicate (n-k) z).flatten
theorem L3{α:Type}(f:α->List Value)(z:List Value)(ys:List α)(n:Nat)(h:ys.length=n):Cs f z ys n n=ys.flatMap f:=by simp[Cs,<-h]
theorem DC{α:Type}(f:α->List Value)(z:List Value)(ys:List α)(n:Nat)(v:Value)(m:Nat)(hv:v.cells=z.toArray)(hm:z.length=m)(h0:0<m):(madeCells v.cells (n*m)).toList=Cs f z ys 0 n:=by
 subst hm;rw[hv];unfold Cs;rw[List.take_zero,cA,bL,Nat.sub_zero];apply cQ;intro i;have hl:(List.replicate n z).flatten=(List.replicate n z).flatMap id:=by simp[List.flatMap_id]
 by_cases hi:i<n*z.length
 . have hq:i / z.length<n:=(Nat.div_lt_iff_lt_mul h0).2 hi
   have hr:=Nat.mod_lt i h0;have e:i=i / z.length*z.length+i % z.length:=by rw[Nat.mul_comm];exact(Nat.div_add_mod i z.length).symm
   have hx:(List.replicate n z).flatten[i]?=z[i % z.length]?:=by
    conv=>lhs;rw[e]
    clear e;generalize i / z.length=q at hq;generalize i % z.length=r at hr;clear hi hl;induction n generalizing q with
    |zero=>omega
    | succ n ih=>
      rw[eT,List.flatten_cons];cases q with
      |zero=>rw[Nat.zero_mul,bG,bW hr]
      | succ q=>
        rw[bV (by rw[eL];omega),<-ih q (by omega)];congr 1;rw[eL];omega
   rw[hx];have hi':i<(madeCells z.toArray (n*z.length)).toList.length:=by simp[madeCells];exact hi
   rw[aA hi',aA hr];simp[madeCells];rw[aA hr];rfl
 . have h1:(madeCells z.toArray (n*z.length)).toList.length<=i:=by simp[madeCells];omega
   have h2:(List.replicate n z).flatten.length<=i:=by
    rw[List.length_flatten];simp;omega
   rw[ae h1,ae h2]
theorem Fd{α:Type}(f:α->List Value)(z:List Value)(ys:List α)(k n:Nat)(hk:k<n):Cs f z ys k n=(ys.take k).flatMap f++(z++(List.replicate (n-(k+1)) z).flatten):=by
 unfold Cs;have e:n-k=(n-(k+1))+1:=by omega
 rw[e,eT,List.flatten_cons]
theorem KN{α:Type}(f:α->List Value)(z:List Value)(ys:List α)(k n:Nat)(y:α)(hy:ys[k]?=some y):Cs f z ys (k+1) n=(ys.take k).flatMap f++(f y++(List.replicate (n-(k+1)) z).flatten):=by
 unfold Cs;obtain⟨hlt,rfl⟩:=aD.1 hy;rw[a6 hlt,a8,cJ];simp
theorem Rq(A R:List Value)(z0 c0:Value)(i:Nat)(h:A.length=i):(A++([z0]++R)).set i c0=A++([c0]++R):=by
 subst h;simp
theorem Rd.elem{α:Type}{f:α->List Value}{m:Nat}{w:World}{ys:List α}{g o:Nat}(hf:∀y,(f y).length=m)(h:∀j u,(ys.flatMap f)[j]?=some u->w.cell? ⟨g,o+j,none⟩=some u)(k:Nat)(y:α)(hy:ys[k]?=some y)(j:Nat)(u:Value)(hj:(f y)[j]?=some u):w.cell? ⟨g,o+k*m+j,none⟩=some u:=by
 have hjm:j<m:=by rw[<-hf y];exact(aD.1 hj).1
 rw[Nat.add_assoc];exact h _ u ((CH f m hf ys k j y hy hjm).trans hj)
theorem Ah{p:Prop}(h:p):Hid p:=h
abbrev sN:Value:=.slice none 0 0
abbrev sG(g n c:Nat):Value:=.slice (some ⟨g,0,none⟩) n c
abbrev sO(g o n c:Nat):Value:=.slice (some ⟨g,o,none⟩) n c
abbrev iZ(z:Int):Value:=.int .i64 z
def Ev(P:Program):List Oper->Act->Option Act
 |[],a=>some a
 | o ::r,a=>
   match o.guard,o.op with
   | none,.build t parts=>
     match P.built t (parts.map fun(i,x)=>(i,a.eval x)).toList with
     |some cells=>Ev P r (a.put o.dst (.agg cells))
     |none=>none
   |_,_=>none
theorem Gh{P:Program}{ops:Array Oper}{Q:Exit->Act->World->Prop}{w:World}{a':Act}(rest:List Oper)(h:wpList P ops Q rest a' w):
 ∀(l:List Oper) (a:Act),Ev P l a=some a'->wpList P ops Q (l++rest) a w
 | [],a,hb=>by
   simp only[Ev,aJ]at hb;subst hb;exact h
 | o ::r,a,hb=>by
   unfold Ev at hb;split at hb
   . next t parts hg ho=>
     split at hb
     . next cells hc=>
       refine wpList_build hg t parts ho (by rw[hc];rfl) ?_;rw[hc];exact Gh rest h r _ hb
     . cases hb
   . cases hb
def EO(w:World)(g:Nat)(a:Option Addr)(len:Nat):Prop:=
 len=0\/∃b off,a=some ⟨b,off,none⟩/\b<g/\∀i,i<len->∃v:Int,0<=v/\v<=255/\w.cell? ⟨b,off+i,none⟩=some (.int .u8 v)
structure CU(w:World)(g:Nat)(a:Option Addr)(len cap:Nat)(p:Int):Prop where
 code:w.cell? ⟨g,0,none⟩=some (.slice a len cap)
 place:w.cell? ⟨g,1,none⟩=some (.int .i64 p)
 size:∃sz:Int,0<=sz/\sz<=12/\w.cell? ⟨g,2,none⟩=some (.int .i64 sz)
 free:w.frozen? ⟨g,1,none⟩=false
 low:0<=p
 high:p<=1000000000000
 len_le:len<=140737488355328
 bytes:EO w g a len
theorem OI{w:World}{g:Nat}{a:Option Addr}{cap:Nat}{p n:Int}(h:CU w g a 0 cap p)(hn:1<=n)(hn':n<=1000000):
 Calls Tryz.prog 24 #[.pointer (some ⟨g,0,none⟩),.int .i64 n] w fun e w'=>∃(r:Int) (nq:Nat),0<=r/\r<n/\e=.returned (.int .i64 r)/\w'=(w.setCell ⟨g,1,none⟩ (.int .i64 (p+1))).drewN nq:=by
 obtain⟨hc,hp,_,hf,h0,h1,_,_⟩:=h;have hr0:=dy (p*7) (show n≠0 by omega);have hr1:=di (p*7) (show 0<n by omega);go_enter Tryz.func24,Tryz.ntmps24;go_wp2
 go_ret
 exact⟨_,0,hr0,hr1,rfl,rfl⟩
theorem OJ{w:World}{g:Nat}{b off len cap:Nat}{p n v:Int}(h:CU w g (some ⟨b,off,none⟩) len cap p)(hl:0<len)(hbg:b<g)(hn:1<=n)(hn':n<=200)
 (hv:0<=v) (hv':v<=255) (hcell:w.cell? ⟨b,off+(p % len).toNat,none⟩=some (.int .u8 v)):
 Calls Tryz.prog 24 #[.pointer (some ⟨g,0,none⟩),.int .i64 n] w fun e w'=>∃(r:Int) (nq:Nat),0<=r/\r<n/\e=.returned (.int .i64 r)/\w'=(w.setCell ⟨g,1,none⟩ (.int .i64 (p+1))).drewN nq:=by
 obtain⟨hc,hp,_,hf,h0,h1,hlm,_⟩:=h;have hm0:=dy p (show(len:Int)≠0 by omega);have hm1:=di p (show 0<(len:Int)by omega);have hl0:((len:Int)==0)=false:=by simp;omega
 have hne:¬b=g:=by omega
 have hd0:0<=p / (len:Int):=Int.ediv_nonneg h0 (by omega);have hd1:p / (len:Int)<=1000000000000:=Int.le_trans (Int.ediv_le_self _ h0) h1;have hx0:=dy (v+p / (len:Int)*37) (show n≠0 by omega);have hx1:=di (v+p / (len:Int)*37) (show 0<n by omega);go_enter Tryz.func24,Tryz.ntmps24;go_wp2
 go_quiet (fail)
 go_wp2
 go_ret
 exact⟨_,nq,hx0,hx1,rfl,rfl⟩
theorem OK{w:World}{g:Nat}{b off len cap:Nat}{p n v u:Int}(h:CU w g (some ⟨b,off,none⟩) len cap p)(hl:0<len)(hbg:b<g)(hn:200<n)(hn':n<=1000000)
 (hv:0<=v) (hv':v<=255) (hcell:w.cell? ⟨b,off+(p % len).toNat,none⟩=some (.int .u8 v)) (hu:0<=u) (hu':u<=255) (hcell2:w.cell? ⟨b,off+((p+1) % len).toNat,none⟩=some (.int .u8 u)):
 Calls Tryz.prog 24 #[.pointer (some ⟨g,0,none⟩),.int .i64 n] w fun e w'=>∃(r:Int) (nq:Nat),0<=r/\r<n/\e=.returned (.int .i64 r)/\w'=(w.setCell ⟨g,1,none⟩ (.int .i64 (p+1))).drewN nq:=by
 obtain⟨hc,hp,_,hf,h0,h1,hlm,_⟩:=h;have hm0:=dy p (show(len:Int)≠0 by omega);have hm1:=di p (show 0<(len:Int)by omega);have hm2:=dy (p+1) (show(len:Int)≠0 by omega);have hm3:=di (p+1) (show 0<(len:Int)by omega);have hl0:((len:Int)==0)=false:=by simp;omega
 have hne:¬b=g:=by omega
 have hd0:0<=p / (len:Int):=Int.ediv_nonneg h0 (by omega);have hd1:p / (len:Int)<=1000000000000:=Int.le_trans (Int.ediv_le_self _ h0) h1;have hx0:=dy ((v+p / (len:Int)*37)*251+u*13+p) (show n≠0 by omega);have hx1:=di ((v+p / (len:Int)*37)*251+u*13+p) (show 0<n by omega);go_enter Tryz.func24,Tryz.ntmps24;go_wp2
 go_quiet (fail)
 go_wp2
 go_quiet (fail)
 go_wp2
 go_ret
 exact⟨_,_,hx0,hx1,rfl,rfl⟩
theorem G8{P:Program}{ops:Array Oper}{Q:Exit->Act->World->Prop}{w:World}{l:List Oper}{a:Act}(n:Nat)(t e:TypeId)(len:Nat)(parts:Array (Nat×Operand))(s p m:Nat)(cells:Array Value)(ie:TypeInfo)(z:Value)
 (hb:(Ev P (l.take n) a).map (fun a'=>(Instr.fill (fun i=>some (i*ie.size,ie.size)) ((Array.range (len*ie.size)).map (z.cells[· % z.cells.size]!)) (parts.map fun(i,x)=>(i,a'.eval x)).toList,a'.tmps.size,a'.defers))=some (some cells,m,[]))
 (hd:(l.drop n).map (fun o=>(o.guard,o.op,o.dst))=[(none,.buildSlice t len parts,some s),(none,.assign (.tmp s),some p)])
 (hs:s<m) (hp:p<m)
 (hu:P.underlying t=some (.slice e)) (hie:P.info? e=some ie) (hz:ie.zero=some z) (hsmall:¬len*ie.size>2 ^ 24) (hpos:¬len*ie.size=0)
 (h:∀a',a'.tmps.getD p undef=.slice (some ⟨w.heap.size,0,none⟩) len len->a'.defers=[]->Q .normal a' (w.alloc (.cells cells e))):wpList P ops Q l a w:=by
 rw[<-dR n l];obtain⟨a',ha,he⟩:=cS.1 hb;simp only[Prod.mk.injEq]at he;refine Gh (a':=a') _ ?_ _ _ ha;generalize l.drop n=l2 at hd;rcases l2 with _|⟨o,_|⟨o2,_|⟨o3,l3⟩⟩⟩
 . cases hd
 . simp at hd
 . simp only[dF,List.map_nil,fB,Prod.mk.injEq,cg]at hd
   obtain⟨⟨g1,o1,d1⟩,g2,o2',d2⟩:=hd;refine wpList_buildSlice g1 t e len parts o1 cells ie z hu hie hz hsmall hpos he.1 ?_;rw[d1];refine wpList_plain g2 fun K hK=> ?_
   unfold Oper.wp execOp;simp only[o2',Sem.run_pure];refine hK _ _ (wpList_nil (h _ ?_ ?_))
   . simp[Act.put,Act.eval,hp,hs,he.2.1,d2]
   . simp[Act.put,he.2.2,d2]
 . simp at hd
structure AC(g:Nat)(w w':World):Prop where
 os:w'.os=w.os
 tape:w'.tape=w.tape
 output:w'.output=w.output
 size:w.heap.size<=w'.heap.size
 block:∀k,k<w.heap.size->k≠g->w'.heap[k]?=w.heap[k]?
theorem AC.refl(g:Nat)(w:World):AC g w w:=⟨rfl,rfl,rfl,Nat.le_refl _,fun _ _ _=>rfl⟩
theorem AC.trans{g:Nat}{a b c:World}(h:AC g a b)(k:AC g b c):AC g a c:=
 ⟨k.os.trans h.os,k.tape.trans h.tape,k.output.trans h.output,aY h.size k.size,fun i hi hg=>(k.block i (bx hi h.size) hg).trans (h.block i hi hg)⟩
theorem AC.alloc(g:Nat)(w:World)(o:Obj):AC g w (w.alloc o):=
 ⟨rfl,rfl,rfl,by simp,fun k hk _=>Below.heap_alloc w o k hk⟩
theorem AC.set(g:Nat)(w:World)(o:Nat)(v:Value)(nq:Nat):AC g w ((w.setCell ⟨g,o,none⟩ v).drewN nq):=
 ⟨rfl,rfl,rfl,by show _<=(w.setCell _ _).heap.size;simp,fun k hk hg=>Below.heap_setCell w _ v k hg⟩
theorem AC.of_below{g:Nat}{w w':World}(h:Below w.heap.size w w'):AC g w w':=
 ⟨h.os,h.tape,h.output,h.size,fun k hk _=>h.block k hk⟩
theorem AC.cell{g:Nat}{w w':World}(h:AC g w w'){p:Addr}(hp:p.block<w.heap.size)(hg:p.block≠g):w'.cell? p=w.cell? p:=dW (w:=w) (h.block p.block hp hg)
theorem CU.lt{w:World}{g:Nat}{a:Option Addr}{len cap:Nat}{p:Int}(h:CU w g a len cap p):g<w.heap.size:=aF h.code
theorem EO.of_drawn{w w':World}{g g':Nat}{a:Option Addr}{len:Nat}(h:EO w g a len)(hg:g<=g')(hs:g<=w.heap.size)(hd:∀k,k<g->w'.heap[k]?=w.heap[k]?):EO w' g' a len:=by
 rcases h with h|⟨b,off,rfl,hb,hc⟩
 . exact .inl h
 . refine .inr ⟨b,off,rfl,by omega,fun i hi=> ?_⟩
   obtain⟨v,h0,h1,h2⟩:=hc i hi;exact⟨v,h0,h1,(dW (w:=w) (a:=⟨b,off+i,none⟩) (hd b hb)).trans h2⟩
theorem CU.keep{w w':World}{g:Nat}{a:Option Addr}{len cap:Nat}{p:Int}(h:CU w g a len cap p)(hd:∀k,k<=g->w'.heap[k]?=w.heap[k]?):CU w' g a len cap p:=by
 obtain⟨h1,h2,⟨sz,h3,h4,h5⟩,h6,h7,h8,h9,h10⟩:=h;have hgg:=hd g lR;refine⟨(dW (w:=w) (a:=⟨g,0,none⟩) hgg).trans h1,(dW (w:=w) (a:=⟨g,1,none⟩) hgg).trans h2,⟨sz,h3,h4,(dW (w:=w) (a:=⟨g,2,none⟩) hgg).trans h5⟩,(World.frozen?_of_block (w:=w) (a:=⟨g,1,none⟩) hgg).trans h6,h7,h8,h9,?_⟩;exact h10.of_drawn lR (dr (aF h1)) fun k hk=>hd k (dr hk)
theorem CU.alloc{w:World}{g:Nat}{a:Option Addr}{len cap:Nat}{p:Int}(h:CU w g a len cap p)(o:Obj):CU (w.alloc o) g a len cap p:=
 h.keep fun k hk=>Below.heap_alloc w o k (Nat.lt_of_le_of_lt hk h.lt)
theorem CU.below{w w':World}{g:Nat}{a:Option Addr}{len cap:Nat}{p:Int}(h:CU w g a len cap p)(hb:Below w.heap.size w w'):CU w' g a len cap p:=
 h.keep fun k hk=>hb.block k (Nat.lt_of_le_of_lt hk h.lt)
theorem CU.next{w:World}{g:Nat}{a:Option Addr}{len cap:Nat}{p:Int}(h:CU w g a len cap p)(hp:p+1<=1000000000000)(nq:Nat):CU ((w.setCell ⟨g,1,none⟩ (.int .i64 (p+1))).drewN nq) g a len cap (p+1):=by
 obtain⟨h1,h2,⟨sz,h3,h4,h5⟩,h6,h7,h8,h9,h10⟩:=h;refine⟨?_,?_,⟨sz,h3,h4,?_⟩,?_,by omega,hp,h9,?_⟩
 . show(w.setCell _ _).cell? _=_
   rw[cu _ _ _ _ (by simp)];exact h1
 . show(w.setCell _ _).cell? _=_
   exact en w _ _ h2
 . show(w.setCell _ _).cell? _=_
   rw[cu _ _ _ _ (by simp)];exact h5
 . show(w.setCell _ _).frozen? _=_
   simpa using h6
 . exact h10.of_drawn lR (dr (aF h1)) fun k hk=>Below.heap_setCell w _ _ k (by show k≠g;omega)
theorem Ai{w:World}{g:Nat}{a:Option Addr}{len cap:Nat}{p n:Int}(h:CU w g a len cap p)(hp:p+1<=1000000000000:=by omega)(hn:1<=n:=by omega)(hn':n<=1000000:=by omega):
 Calls Tryz.prog 24 #[.pointer (some ⟨g,0,none⟩),.int .i64 n] w fun e w'=>∃r:Int,0<=r/\r<n/\e=.returned (.int .i64 r)/\CU w' g a len cap (p+1)/\AC g w w':=by
 have fin:∀(e:Ending) (w':World),(∃(r:Int) (nq:Nat),0<=r/\r<n/\e=.returned (.int .i64 r)/\w'=(w.setCell ⟨g,1,none⟩ (.int .i64 (p+1))).drewN nq)->∃r:Int,0<=r/\r<n/\e=.returned (.int .i64 r)/\CU w' g a len cap (p+1)/\AC g w w':=by
  rintro e w' ⟨r,nq,h0,h1,he,rfl⟩;exact⟨r,h0,h1,he,h.next hp nq,AC.set g w 1 _ nq⟩
 rcases Nat.eq_zero_or_pos len with rfl|hl
 . exact(OI h hn hn').mono fin
 . rcases h.bytes with h0|⟨b,off,rfl,hb,hc⟩
   . omega
   . have hm (q:Int):∃v:Int,0<=v/\v<=255/\w.cell? ⟨b,off+(q % len).toNat,none⟩=some (.int .u8 v):=hc _ (by
    have:=dy q (show(len:Int)≠0 by omega);have:=di q (show 0<(len:Int)by omega)
    omega)
     obtain⟨v,v0,v1,v2⟩:=hm p;by_cases h200:n<=200
     . exact(OJ h hl hb hn h200 v0 v1 v2).mono fin
     . obtain⟨u,u0,u1,u2⟩:=hm (p+1)
       exact(OK h hl hb (by omega) hn' v0 v1 v2 u0 u1 u2).mono fin
theorem Pi(w:World):(zeroValue 72).run Tryz.prog w=.ok (.agg #[.slice none 0 0,.int .i64 0,.int .i64 0]) w:=by kernel_rfl
theorem J7(a:Option Addr)(len cap:Nat)(w:World)(hl:len<=140737488355328)(hc:EO w w.heap.size a len):
 Calls Tryz.prog 9 #[.slice a len cap] w fun e w'=>e=.returned (.pointer (some ⟨w.heap.size,0,none⟩))/\CU w' w.heap.size a len cap 0/\Below w.heap.size w w':=by
 have hz:=Pi
 have fin:∀sz:Int,0<=sz->sz<=12->CU (w.alloc (.cells #[.slice a len cap,.int .i64 0,.int .i64 sz] 72)) w.heap.size a len cap 0:=fun sz h0 h1=>by
  have hb:=dT w (.cells #[.slice a len cap,.int .i64 0,.int .i64 sz] 72);refine⟨?_,?_,⟨sz,h0,h1,?_⟩,frozen_of_row _ _ _ _ _ hb,by omega,by omega,hl,?_⟩
  . rw[dY _ _ _ _ _ _ hb];rfl
  . rw[dY _ _ _ _ _ _ hb];rfl
  . rw[dY _ _ _ _ _ _ hb];rfl
  . exact hc.of_drawn lR lR fun k hk=>Below.heap_alloc w _ k hk
 have HF:Hid (∀sz:Int,0<=sz->sz<=12->CU (w.alloc (.cells #[.slice a len cap,.int .i64 0,.int .i64 sz] 72)) w.heap.size a len cap 0):=fin;clear fin hc;have hq0:0<=(len:Int) / 16:=by omega
 by_cases h12:12<(len:Int) / 16
 . go_enter Tryz.func9,Tryz.ntmps9
   go_wp2
   go_ret
   exact⟨rfl,HF.o _ (by omega) (by omega),(bY _ _).alloc lR _⟩
 . go_enter Tryz.func9,Tryz.ntmps9
   go_wp2
   go_ret
   exact⟨rfl,HF.o _ (by omega) (by omega),(bY _ _).alloc lR _⟩
theorem AF{w:World}{g:Nat}{a:Option Addr}{len cap:Nat}{p n:Int}(h:CU w g a len cap p)(hp:p+1<=1000000000000:=by omega)(hn:1<=n:=by omega)(hn':n<=1000000:=by omega):
 Calls Tryz.prog 22 #[.pointer (some ⟨g,0,none⟩),.int .i64 n] w fun e w'=>∃b:Bool,e=.returned (.bool b)/\CU w' g a len cap (p+1)/\AC g w w':=by
 have H:Hid (CU w g a len cap p):=h;clear h;go_enter Tryz.func22,Tryz.ntmps22;go_wp2_with fail
 refine(Ai H.o hp hn hn').mono ?_;rintro e w1 ⟨r,h0,h1,rfl,hs,hd⟩;have HS:Hid (CU w1 g a len cap (p+1)/\AC g w w1):=⟨hs,hd⟩
 clear hs hd;go_wp2
 go_ret
 exact⟨_,rfl,HS.o.1,HS.o.2⟩
structure MI where
 op:Int
 a:Int
 b:Int
 c:Int
structure MC where
 type:Int
 word:Int
structure MT where
 func:Int
 head:Int
 counter:Int
 init:Int
def MI.cells(x:MI):List Value:=[iZ x.op,iZ x.a,iZ x.b,iZ x.c]
def MC.cells(x:MC):List Value:=[iZ x.type,.int .u32 x.word]
def MT.cells(x:MT):List Value:=[iZ x.func,iZ x.head,iZ x.counter,.int .u32 x.init]
theorem MI.cells_length(x:MI):x.cells.length=4:=rfl
theorem MC.cells_length(x:MC):x.cells.length=2:=rfl
theorem MT.cells_length(x:MT):x.cells.length=4:=rfl
def Ab(z:Int):List Value:=[iZ z]
theorem Aq(z:Int):(Ab z).length=1:=rfl
theorem Bf:(Tryz.prog.info? 2).map (fun i=>(i.zero,i.size,i.bytes))=some (some (iZ 0),1,8):=by kernel_rfl
theorem KT:(Tryz.prog.info? 43).map (fun i=>(i.zero,i.size,i.bytes))=some (some (.agg #[iZ 0,iZ 0,iZ 0,iZ 0]),4,32):=by kernel_rfl
theorem OC:(Tryz.prog.info? 102).map (fun i=>(i.zero,i.size,i.bytes))=some (some (.agg #[iZ 0,.int .u32 0]),2,16):=by kernel_rfl
theorem M2:(Tryz.prog.info? 118).map (fun i=>(i.zero,i.size,i.bytes))=some (some (.agg #[iZ 0,iZ 0,iZ 0,.int .u32 0]),4,32):=by kernel_rfl
def Da:Array Value:=#[.string ⟨#[110,111,112]⟩,.int .i64 1,.int .i64 0,
 .string ⟨#[99,111,110,115,116]⟩,.int .i64 1,.int .i64 1,
 .string ⟨#[108,111,97,100,108,111,99,97,108]⟩,.int .i64 1,.int .i64 2,
 .string ⟨#[115,116,111,114,101,108,111,99,97,108]⟩,.int .i64 1,.int .i64 2,
 .string ⟨#[108,111,97,100]⟩,.int .i64 2,.int .i64 3,
 .string ⟨#[115,116,111,114,101]⟩,.int .i64 2,.int .i64 3,
 .string ⟨#[108,111,97,100,97,116]⟩,.int .i64 3,.int .i64 4,
 .string ⟨#[115,116,111,114,101,97,116]⟩,.int .i64 3,.int .i64 4,
 .string ⟨#[97,100,100]⟩,.int .i64 1,.int .i64 5,
 .string ⟨#[115,117,98]⟩,.int .i64 1,.int .i64 5,
 .string ⟨#[109,117,108]⟩,.int .i64 3,.int .i64 5,
 .string ⟨#[100,105,118]⟩,.int .i64 8,.int .i64 5,
 .string ⟨#[109,111,100]⟩,.int .i64 8,.int .i64 5,
 .string ⟨#[97,110,100]⟩,.int .i64 1,.int .i64 6,
 .string ⟨#[111,114]⟩,.int .i64 1,.int .i64 6,
 .string ⟨#[120,111,114]⟩,.int .i64 1,.int .i64 6,
 .string ⟨#[110,111,116]⟩,.int .i64 1,.int .i64 6,
 .string ⟨#[115,104,108]⟩,.int .i64 1,.int .i64 0,
 .string ⟨#[115,104,114]⟩,.int .i64 1,.int .i64 0,
 .string ⟨#[110,101,103]⟩,.int .i64 1,.int .i64 0,
 .string ⟨#[101,113]⟩,.int .i64 1,.int .i64 7,
 .string ⟨#[108,101,115,115]⟩,.int .i64 1,.int .i64 5,
 .string ⟨#[99,111,110,118]⟩,.int .i64 1,.int .i64 8,
 .string ⟨#[100,117,112]⟩,.int .i64 1,.int .i64 0,
 .string ⟨#[100,114,111,112]⟩,.int .i64 1,.int .i64 0,
 .string ⟨#[106,117,109,112]⟩,.int .i64 2,.int .i64 9,
 .string ⟨#[106,117,109,112,122,101,114,111]⟩,.int .i64 2,.int .i64 9,
 .string ⟨#[103,117,97,114,100]⟩,.int .i64 2,.int .i64 10,
 .string ⟨#[99,97,108,108]⟩,.int .i64 4,.int .i64 11,
 .string ⟨#[114,101,116,117,114,110]⟩,.int .i64 2,.int .i64 0]
theorem K4(w:World):Calls Tryz.prog 120 #[] w fun e w'=>e=.returned (.slice (some ⟨w.heap.size,0,none⟩) 30 30)/\w'=w.alloc (.cells Da 168):=by
 go_enter Tryz.func120,Tryz.ntmps120;go_wp2_with (show wpList _ _ _ ({dst:=some 1,op:=Op.build _ _,type:=_,pos:=_,after:=_,guard:=_}::_) _ _;refine G8 30 187 168 30 #[(0,.tmp 1),(1,.tmp 2),(2,.tmp 3),(3,.tmp 4),(4,.tmp 5),(5,.tmp 6),(6,.tmp 7),(7,.tmp 8),(8,.tmp 9),(9,.tmp 10),(10,.tmp 11),(11,.tmp 12),(12,.tmp 13),(13,.tmp 14),(14,.tmp 15),(15,.tmp 16),(16,.tmp 17),(17,.tmp 18),(18,.tmp 19),(19,.tmp 20),(20,.tmp 21),(21,.tmp 22),(22,.tmp 23),(23,.tmp 24),(24,.tmp 25),(25,.tmp 26),(26,.tmp 27),(27,.tmp 28),(28,.tmp 29),(29,.tmp 30)] 31 0 32 Da ((Tryz.prog.info? 168).getD default) (.agg #[.string ⟨#[]⟩,.int .i64 0,.int .i64 0]) (by kernel_rfl) rfl (by decide) (by decide) Tryz.underlying187 (by kernel_rfl) (by kernel_rfl) (eJ (by kernel_rfl)) (eJ (by kernel_rfl)) ?_;intro a' hp hd);refine aT (v:=.slice (some ⟨w.heap.size,0,none⟩) 30 30) ?_ hd ⟨rfl,rfl⟩;rw[<-hp];exact results_tmp Tryz.results120 _ _ _
def Cd(k:Nat):List Value:=(Da.extract (3*k) (3*k+3)).toList
theorem Iy(k:Nat)(hk:k<30):(Cd k).length=3:=by
 have h0:Da.size=90:=by kernel_rfl
 simp[Cd,h0];omega
theorem KX(k:Nat)(hk:k<30):(Cd k).toArray.all (·.oneCell')=true:=by
 have h0:Da.all (·.oneCell')=true:=by kernel_rfl
 rw[Array.all_eq_true_iff_forall_mem]at h0⊢;intro v hv;simp only[Cd,Array.toArray_toList]at hv;obtain⟨i,hi,rfl⟩:=Array.mem_iff_getElem.1 hv;rw[Array.getElem_extract];exact h0 _ (Array.getElem_mem _)
theorem Jd(w:World)(b k:Nat)(hk:k<30)(h:w.heap[b]?=some (.cells Da 168)):w.rangeAt b (k*3) (Cd k):=by
 intro j v hv;have h0:Da.size=90:=by kernel_rfl
 rw[dY w b _ Da _ _ h];simp only[Cd,Array.getElem?_toList]at hv;rw[Array.getElem?_extract]at hv;split at hv
 . rw[<-hv,Nat.mul_comm]
 . cases hv
theorem JK(w:World):(zeroValue 168).run Tryz.prog w=.ok (.agg #[.string ⟨#[]⟩,.int .i64 0,.int .i64 0]) w:=by kernel_rfl
theorem Nq(op:Int)(w:World)(h:op<0\/29<op):Calls Tryz.prog 105 #[.int .i64 op] w fun e w'=>e=.returned (.agg #[.string ⟨#[]⟩,.int .i64 0,.int .i64 0])/\Below w.heap.size w w':=by
 have hz:=JK;rcases h with h|h
 . go_enter Tryz.func105,Tryz.ntmps105
   go_wp2
   exact aT (v:=.agg #[.string ⟨#[]⟩,.int .i64 0,.int .i64 0]) (by simp[results,Tryz.results105,go_sem]) rfl ⟨rfl,(bY _ _).alloc lR _⟩
 . have h0:decide (op<0)=false:=by simp;omega
   have h1:decide (29<op)=true:=by simp;omega
   go_enter Tryz.func105,Tryz.ntmps105;go_wp2
   exact aT (v:=.agg #[.string ⟨#[]⟩,.int .i64 0,.int .i64 0]) (by simp[results,Tryz.results105,go_sem]) rfl ⟨rfl,(bY _ _).alloc lR _⟩
theorem Oe(k:Nat)(hk:k<30)(w:World):Calls Tryz.prog 105 #[.int .i64 (k:Int)] w fun e w'=>e=.returned (.agg (Cd k).toArray)/\Below w.heap.size w w':=by
 have hz:=JK;have h0:decide ((k:Int)<0)=false:=by simp
 have h1:decide (29<(k:Int))=false:=by simp;omega
 have HS:Hid ((Cd k).length=3/\(Cd k).toArray.all (·.oneCell')=true):=⟨Iy k hk,KX k hk⟩
 go_enter Tryz.func105,Tryz.ntmps105
 go_wp2_with (first
  |(go_at_call 120;refine(K4 _).mono ?_;rintro e w1 ⟨rfl,rfl⟩)
  |(show wpList _ _ _ ({dst:=some 13,op:=Op.load 168 _,type:=_,pos:=_,after:=_,guard:=_}::_) _ _;refine wpList_load_mid rfl 168 (.tmp 12) rfl (w.heap.size+1) (k*3) rfl (Cd k) _ (Jd _ _ _ hk (heap_alloc2_new _ _ _)) Tryz.underlying168 rfl (by rw[HS.o.1];kernel_rfl) ?_)
  |(show wpList _ _ _ ({dst:=none,op:=Op.store 168 _ _,type:=_,pos:=_,after:=_,guard:=_}::_) _ _;refine wpList_store_row rfl 168 (.tmp 2) (.tmp 13) rfl w.heap.size (Cd k).toArray rfl rfl 168 #[.string ⟨#[]⟩,.int .i64 0,.int .i64 0] (heap_alloc2_old _ _ _) (by rw[List.size_toArray,HS.o.1];kernel_rfl) (by show 3=(Cd k).length;rw[HS.o.1]) HS.o.2 ?_))
 refine aT (v:=.agg (Cd k).toArray) (results_cell_row Tryz.results105 _ _ w.heap.size 168 (Cd k).toArray (0,0) _ rfl (setRow_heap _ _ _ _ _ _ (heap_alloc2_old _ _ _)) Tryz.underlying168 rfl (by rw[List.size_toArray,HS.o.1];kernel_rfl)) rfl ⟨rfl,?_⟩;exact below_setRow (((bY _ _).alloc lR _).alloc (by simp) _) lR _
end Go.Proofs.YtjpobijiblcgaaaGreat
