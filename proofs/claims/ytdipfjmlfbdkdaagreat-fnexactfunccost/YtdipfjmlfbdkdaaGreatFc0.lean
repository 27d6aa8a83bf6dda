import Derived.Test.YtdipfjmlfbdkdaaGreatRows
import Derived.WalkKit
import Derived.ProofKit
import Derived.Below
import Derived.OpenShut
import Derived.Outline
import Derived.WalkLawsBesides
import Derived.Laws.Rows
import Derived.Laws.OwnMore
import Derived.OwnWalk
import Derived.Deep.QuietTactic
import Derived.BigQuiet
import Derived.Laws.Tables
import Derived.Deep.WholeRow
import Derived.Great.BuildSlice
import Derived.Laws.CopyOwn
import Derived.Laws.EntriesVeiled
import Derived.Deep.MidRow
namespace Go.Proofs.YtdipfjmlfbdkdaaGreat
open Go.ChangeShapes Go.WideShapes Go.ChangeAt Go.RowKit
set_option linter.unusedVariables false
set_option maxHeartbeats 1000000
set_option maxRecDepth 100000
theorem lR{n:Nat}:n<=n:=Nat.le_refl n
theorem _root_.Go.RowKit.Hid.o{p:Prop}(h:Hid p):p:=h
abbrev aA:=@List.getElem?_eq_getElem
abbrev aC:=@block_lt_of_cell
abbrev aD:=@List.getElem?_eq_some_iff
abbrev aE:=@List.mem_of_getElem?
abbrev aF:=@Value.slice.injEq
abbrev aG:=@Int.toNat_natCast
abbrev aH:=@List.length_append
abbrev aI:=@List.length_singleton
abbrev aJ:=@List.getD_eq_getElem?_getD
abbrev aM:=@List.getElem?_cons_zero
abbrev aP:=@ownsRow_setCell_other
abbrev aQ:=@Array.getElem?_eq_some_iff
abbrev aR:=@Option.some.injEq
abbrev aS:=@Nat.add_zero
abbrev aT:=@Int.eq_ofNat_of_zero_le
abbrev aU:=@List.mem_append
abbrev aW:=@List.getElem?_append_right
abbrev aX:=@Below.refl
abbrev aY:=@Nat.le_trans
abbrev aZ:=@List.getElem?_eq_none
abbrev aa:=@List.mem_cons
abbrev ae:=@Option.some.inj
abbrev ah:=@List.take_succ_eq_append_getElem
abbrev aj:=@List.getElem?_cons_succ
abbrev am:=@List.getElem?_toArray
abbrev an:=@List.take_of_length_le
abbrev ao:=@List.not_mem_nil
abbrev aq:=@And.intro
abbrev au:=@List.mem_map
abbrev aw:=@true_and
abbrev a7:=@List.length_map
abbrev a8:=@if_pos
abbrev bB:=@List.getElem?_map
abbrev bC:=@bodyPost_ret
abbrev bF:=@if_neg
abbrev bG:=@List.getElem?_append_left
abbrev bH:=@List.getElem?_of_mem
abbrev bI:=@decide_eq_false
abbrev bJ:=@Nat.ne_of_lt
abbrev bK:=@List.mem_cons_of_mem
abbrev bL:=@World.ownsRow_nil
abbrev bP:=@List.flatMap_append
abbrev bQ:=@info_parts
abbrev bR:=@List.mem_cons_self
abbrev bS:=@List.pairwise_cons
abbrev bT:=@List.flatMap_cons
abbrev bV:=@List.length_reverse
abbrev bY:=@Nat.lt_of_lt_of_le
abbrev bZ:=@wpList_make_full
abbrev bf:=@Nat.mul_one
abbrev bg:=@Nat.add_sub_cancel_left
abbrev bi:=@heap_setCell_other
abbrev bj:=@List.set_cons_succ
abbrev bo:=@List.length_range
abbrev bp:=@List.length_take
abbrev bq:=@List.getElem_mem
abbrev br:=@List.mem_range
abbrev bt:=@Nat.zero_add
abbrev bu:=@ownsRow_setCell_below
abbrev bx:=@List.map_append
abbrev b7:=@List.set_cons_zero
abbrev cA:=@List.cons_append
abbrev cD:=@World.ownsRow.cellAt
abbrev cE:=@List.drop_eq_getElem_cons
abbrev cG:=@decide_eq_true_eq
abbrev cH:=@or_false
abbrev cI:=@List.ext_getElem?
abbrev cJ:=@List.length_filter_le
abbrev cM:=@World.size_setCell
abbrev cQ:=@Classical.byContradiction
abbrev cR:=@Addr.mk.injEq
abbrev cT:=@World.ownsRow.stored
abbrev cU:=@Bool.false_ne_true
abbrev cW:=@List.mem_reverse
abbrev cX:=@World.ownsRow_lit
abbrev cY:=@Option.map_eq_some_iff
abbrev cZ:=@List.map_cons
abbrev ce:=@List.filter_append
abbrev cg:=@Nat.sub_self
abbrev cj:=@List.range_succ
abbrev cu:=@List.setIfInBounds_toArray
abbrev cw:=@and_true
abbrev dA:=@List.length_drop
abbrev dB:=@List.pairwise_append
abbrev dC:=@List.getElem?_set_ne
abbrev dD:=@Obj.cells.injEq
abbrev dE:=@List.set_append_right
abbrev dF:=@List.length_replicate
abbrev dG:=@List.flatten_replicate_singleton
abbrev dH:=@List.pairwise_map
abbrev dI:=@Go.IntWalk.i64_in
abbrev dJ:=@List.length_cons
abbrev dK:=@List.getElem?_set_self
abbrev dL:=@List.pairwise_iff_getElem
abbrev dM:=@List.append_assoc
abbrev dN:=@List.cons.injEq
abbrev dO:=@List.mem_flatMap
abbrev dP:=@of_decide_eq_true
abbrev dQ:=@List.length_pos_iff
abbrev dR:=@List.append_nil
abbrev dS:=@Option.map_some
abbrev dT:=@List.mem_or_eq_of_mem_set
abbrev dU:=@List.mem_singleton
abbrev dV:=@List.idxOf_lt_length_iff
abbrev dW:=@List.eq_nil_of_length_eq_zero
abbrev dX:=@List.nodup_append
abbrev dY:=@List.nil_append
abbrev dZ:=@List.length_set
abbrev da:=@List.mem_filter
abbrev db:=@Bool.eq_iff_iff
abbrev dd:=@List.mergeSort_perm
abbrev de:=@List.mem_map_of_mem
abbrev df:=@List.drop_of_length_le
abbrev dg:=@List.pairwise_lt_range
abbrev dh:=@List.map_map
abbrev di:=@List.filter_cons
abbrev dj:=@Bool.false_eq_true
abbrev dm:=@List.take_append_drop
abbrev dp:=@List.getElem?_zipWith
abbrev dq:=@Nat.zero_le
abbrev dt:=@Go.Maps.keyOf_int_mk
abbrev du:=@List.replicate_succ
abbrev dv:=@World.ownsMap.isMap
abbrev dw:=@Bool.and_eq_true
abbrev dx:=@World.ownsMap.lt
abbrev dy:=@decide_eq_false_iff_not
abbrev dz:=@List.length_nil
abbrev d6:=@List.filter_nil
abbrev d7:=@List.mem_of_mem_tail
abbrev d8:=@Nat.le_of_lt
abbrev d9:=@Nat.lt_succ_self
abbrev eC:=@Int.toNat_of_nonneg
abbrev eD:=@List.map_congr_left
abbrev eF:=@List.getElem?_range
abbrev eG:=@List.idxOf_cons
abbrev eH:=@World.ownsRow.frozenAt
abbrev eJ:=@heap_alloc_new
abbrev eL:=@cell_of_row
abbrev eM:=@beq_eq_false_iff_ne
abbrev eP:=@List.getElem?_drop
abbrev eQ:=@Nat.add_mul
abbrev eR:=@List.getElem?_take_of_lt
abbrev eS:=@World.size_alloc
abbrev eT:=@Option.getD_some
abbrev eU:=@List.all_eq_true
def Db(t:Int):Bool:=decide (1<=t/\t<=3)
theorem Li{t:Int}(h:1<=t)(h':t<=3):Db t=true:=by unfold Db;simp;omega
theorem Fd{t:Int}(h:t<1\/3<t):Db t=false:=by unfold Db;simp;omega
def word(b:Bool):Int:=if b then 1 else 0
theorem CM(t:Int)(w:World):Calls Tryz.prog 137 #[.int .i64 t] w fun e w'=>e=.returned (.bool (Db t))/\w'=w:=by
 by_cases h1:1<=t
 . by_cases h3:t<=3
   . rw[Li h1 h3]
     go_enter Tryz.func137,Tryz.ntmps137;go_wp2
     go_ret
     exact⟨rfl,rfl⟩
   . rw[Fd (by omega)]
     go_enter Tryz.func137,Tryz.ntmps137;go_wp2
     go_ret
     exact⟨rfl,rfl⟩
 . rw[Fd (by omega)]
   go_enter Tryz.func137,Tryz.ntmps137;go_wp2
   go_ret
   exact⟨rfl,rfl⟩
theorem CO(t:Int)(w:World):Calls Tryz.prog 68 #[.int .i64 t] w fun e w'=>e=.returned (.bool (Db t))/\w'=w:=by
 by_cases h1:1<=t
 . by_cases h3:t<=3
   . rw[Li h1 h3]
     go_enter Tryz.func68,Tryz.ntmps68;go_wp2
     go_ret
     exact⟨rfl,rfl⟩
   . rw[Fd (by omega)]
     go_enter Tryz.func68,Tryz.ntmps68;go_wp2
     go_ret
     exact⟨rfl,rfl⟩
 . rw[Fd (by omega)]
   go_enter Tryz.func68,Tryz.ntmps68;go_wp2
   go_ret
   exact⟨rfl,rfl⟩
def Rd(w:World)(k:Nat)(s:Value)(n:Nat)(xs:List Value):Prop:=
 xs.length=n*k/\((n=0/\∃a c,s=.slice a 0 c)\/∃g o c,s=.slice (some ⟨g,o,none⟩) n c/\∀j u,xs[j]?=some u->w.cell? ⟨g,o+j,none⟩=some u)
theorem Rd.of_own{w:World}{base:Nat}{e:TypeId}{s:Value}{k n:Nat}{xs:List Value}(h:w.ownsRow base e k s n xs):Rd w k s n xs:=by
 refine⟨by simpa using h.1,?_⟩;rcases h.2 with⟨rfl,rfl⟩|⟨g,cap,cur,rfl,hb,hg,hnc,hcm,hcs,ht⟩
 . exact .inl ⟨rfl,_,_,rfl⟩
 . refine .inr ⟨g,0,cap,rfl,fun j u hj=> ?_⟩
   rw[eL w g _ cur e _ hg,bt];rw[<-ht]at hj;obtain⟨hlt,hj⟩:=aD.1 hj;rw[List.getElem_take]at hj;rw[<-hj];simp at hlt;rw[Array.getElem?_eq_getElem (by omega)];simp
theorem Rd.keep{w w':World}{s:Value}{k n:Nat}{xs:List Value}(h:Rd w k s n xs){B:Nat}(hb:Below B w w')(hB:w.heap.size<=B):Rd w' k s n xs:=by
 obtain⟨hl,h|⟨g,o,c,rfl,hc⟩⟩:=h
 . exact⟨hl,.inl h⟩
 . refine⟨hl,.inr ⟨g,o,c,rfl,fun j u hj=> ?_⟩⟩
   have h1:=hc j u hj;rw[hb.cell (bY (aC h1) hB)];exact h1
theorem Rd.is_slice{w:World}{k:Nat}{s:Value}{n:Nat}{xs:List Value}(h:Rd w k s n xs):∃a c,s=.slice a n c:=by
 rcases h.2 with⟨rfl,a,c,rfl⟩|⟨g,o,c,rfl,_⟩<;>exact⟨_,_,rfl⟩
theorem Ag{w w':World}{base:Nat}{e:TypeId}{s:Value}{k n:Nat}{xs:List Value}(h:w.ownsRow base e k s n xs){B:Nat}(hb:Below B w w')(hB:w.heap.size<=B):w'.ownsRow base e k s n xs:=by
 refine⟨h.1,?_⟩;rcases h.2 with h|⟨g,cap,cur,e1,hb1,hg,hr⟩
 . exact .inl h
 . refine .inr ⟨g,cap,cur,e1,hb1,?_,hr⟩
   rw[hb.block g (bY (aQ.1 hg).1 hB)];exact hg
theorem As{α:Type}(f:α->List Value)(m:Nat)(hf:∀y,(f y).length=m)(ys:List α):(ys.flatMap f).length=ys.length*m:=by
 induction ys with
 |nil=>simp
 |cons y r ih=>rw[bT,aH,ih,hf,dJ,eQ];omega
theorem FZ{α:Type}(f:α->List Value)(m:Nat)(hf:∀y,(f y).length=m)(ys:List α)(k j:Nat)(y:α)(hk:ys[k]?=some y)(hj:j<m):(ys.flatMap f)[k*m+j]?=(f y)[j]?:=by
 induction ys generalizing k with
 |nil=>cases hk
 | cons x r ih=>
   rw[bT];cases k with
   | zero=>
     simp only[aM,aR]at hk;subst hk;rw[Nat.zero_mul,bt,bG (by rw[hf];exact hj)]
   | succ k=>
     rw[aj]at hk;rw[aW (by rw[hf,eQ];omega),hf,<-ih k hk];congr 1;rw[eQ];omega
def A7{α:Type}(f:α->List Value)(z:List Value)(ys:List α)(k n:Nat):List Value:=(ys.take k).flatMap f++(List.replicate (n-k) z).flatten
theorem Dx{α:Type}(f:α->List Value)(z:List Value)(ys:List α)(n:Nat)(h:ys.length=n):A7 f z ys n n=ys.flatMap f:=by simp[A7,<-h]
theorem Bu{α:Type}(f:α->List Value)(z:List Value)(ys:List α)(n:Nat)(v:Value)(m:Nat)(hv:v.cells=z.toArray)(hm:z.length=m)(h0:0<m):(madeCells v.cells (n*m)).toList=A7 f z ys 0 n:=by
 subst hm;rw[hv];unfold A7;rw[List.take_zero,List.flatMap_nil,dY,Nat.sub_zero];apply cI;intro i;have hl:(List.replicate n z).flatten=(List.replicate n z).flatMap id:=by simp[List.flatMap_id]
 by_cases hi:i<n*z.length
 . have hq:i / z.length<n:=(Nat.div_lt_iff_lt_mul h0).2 hi
   have hr:=Nat.mod_lt i h0;have e:i=i / z.length*z.length+i % z.length:=by rw[Nat.mul_comm];exact(Nat.div_add_mod i z.length).symm
   have hx:(List.replicate n z).flatten[i]?=z[i % z.length]?:=by
    conv=>lhs;rw[e]
    clear e;generalize i / z.length=q at hq;generalize i % z.length=r at hr;clear hi hl;induction n generalizing q with
    |zero=>omega
    | succ n ih=>
      rw[du,List.flatten_cons];cases q with
      |zero=>rw[Nat.zero_mul,bt,bG hr]
      | succ q=>
        rw[aW (by rw[eQ];omega),<-ih q (by omega)];congr 1;rw[eQ];omega
   rw[hx];have hi':i<(madeCells z.toArray (n*z.length)).toList.length:=by simp[madeCells];exact hi
   rw[aA hi',aA hr];simp[madeCells];rw[aA hr];rfl
 . have h1:(madeCells z.toArray (n*z.length)).toList.length<=i:=by simp[madeCells];omega
   have h2:(List.replicate n z).flatten.length<=i:=by
    rw[List.length_flatten];simp;omega
   rw[aZ h1,aZ h2]
theorem BN{α:Type}(f:α->List Value)(z:List Value)(ys:List α)(k n:Nat)(hk:k<n):A7 f z ys k n=(ys.take k).flatMap f++(z++(List.replicate (n-(k+1)) z).flatten):=by
 unfold A7;have e:n-k=(n-(k+1))+1:=by omega
 rw[e,du,List.flatten_cons]
theorem CX{α:Type}(f:α->List Value)(z:List Value)(ys:List α)(k n:Nat)(y:α)(hy:ys[k]?=some y):A7 f z ys (k+1) n=(ys.take k).flatMap f++(f y++(List.replicate (n-(k+1)) z).flatten):=by
 unfold A7;obtain⟨hlt,rfl⟩:=aD.1 hy;rw[ah hlt,bP,dM];simp
theorem Qd(A R:List Value)(z0 c0:Value)(i:Nat)(h:A.length=i):(A++([z0]++R)).set i c0=A++([c0]++R):=by
 subst h;simp
theorem set2(A R:List Value)(z0 z1 c0 c1:Value)(i:Nat)(h:A.length=i):((A++([z0,z1]++R)).set i c0).set (i+1) c1=A++([c0,c1]++R):=by
 subst h;simp[List.set_append_right]
theorem Q1(A R:List Value)(z0 z1 z2 z3 c0 c1 c2 c3:Value)(i:Nat)(h:A.length=i):((((A++([z0,z1,z2,z3]++R)).set i c0).set (i+1) c1).set (i+2) c2).set (i+3) c3=A++([c0,c1,c2,c3]++R):=by
 subst h;simp[List.set_append_right]
theorem Rd.elem{α:Type}{f:α->List Value}{m:Nat}{w:World}{ys:List α}{g o:Nat}(hf:∀y,(f y).length=m)(h:∀j u,(ys.flatMap f)[j]?=some u->w.cell? ⟨g,o+j,none⟩=some u)(k:Nat)(y:α)(hy:ys[k]?=some y)(j:Nat)(u:Value)(hj:(f y)[j]?=some u):w.cell? ⟨g,o+k*m+j,none⟩=some u:=by
 have hjm:j<m:=by rw[<-hf y];exact(aD.1 hj).1
 rw[Nat.add_assoc];exact h _ u ((FZ f m hf ys k j y hy hjm).trans hj)
theorem AS{p:Prop}(h:p):Hid p:=h
abbrev sG(g n c:Nat):Value:=.slice (some ⟨g,0,none⟩) n c
abbrev sO(g o n c:Nat):Value:=.slice (some ⟨g,o,none⟩) n c
abbrev iZ(z:Int):Value:=.int .i64 z
def Do(P:Program):List Oper->Act->Option Act
 |[],a=>some a
 | o ::r,a=>
   match o.guard,o.op with
   | none,.build t parts=>
     match P.built t (parts.map fun(i,x)=>(i,a.eval x)).toList with
     |some cells=>Do P r (a.put o.dst (.agg cells))
     |none=>none
   |_,_=>none
theorem DZ{P:Program}{ops:Array Oper}{Q:Exit->Act->World->Prop}{w:World}{a':Act}(rest:List Oper)(h:wpList P ops Q rest a' w):
 ∀(l:List Oper) (a:Act),Do P l a=some a'->wpList P ops Q (l++rest) a w
 | [],a,hb=>by
   simp only[Do,aR]at hb;subst hb;exact h
 | o ::r,a,hb=>by
   unfold Do at hb;split at hb
   . next t parts hg ho=>
     split at hb
     . next cells hc=>
       refine wpList_build hg t parts ho (by rw[hc];rfl) ?_;rw[hc];exact DZ rest h r _ hb
     . cases hb
   . cases hb
theorem KJ{P:Program}{ops:Array Oper}{Q:Exit->Act->World->Prop}{w:World}{l:List Oper}{a:Act}(n:Nat)(ty t:TypeId)(x y:Operand)(g:Nat)(cells old:Array Value)(p:Tmp)
 (hb:(Do P (l.take n) a).map (fun a'=>(a'.eval x,a'.eval y,a'.tmps.getD p undef,a'.defers))=some (.pointer (some ⟨g,0,none⟩),.agg cells,.pointer (some ⟨g,0,none⟩),[]))
 (hd:(l.drop n).map (fun o=>(o.guard,o.op,o.dst))=[(none,.store ty x y,none)])
 (hg:w.heap[g]?=some (.cells old t (0,0))) (hi:(P.info? ty).map (·.size)=some cells.size)
 (hold:old.size=cells.size) (h1:cells.all (·.oneCell')=true)
 (h:∀a',a'.tmps.getD p undef=.pointer (some ⟨g,0,none⟩)->a'.defers=[]->Q .normal a' (w.setRow g cells)):wpList P ops Q l a w:=by
 rw[<-dm n l];obtain⟨a',ha,he⟩:=cY.1 hb;simp only[Prod.mk.injEq]at he;refine DZ (a':=a') _ ?_ _ _ ha;generalize l.drop n=l2 at hd;rcases l2 with _|⟨o,_|⟨o2,l3⟩⟩
 . cases hd
 . simp only[cZ,List.map_nil,dN,Prod.mk.injEq,cw]at hd
   refine wpList_store_row hd.1 ty x y hd.2.1 g cells he.1 he.2.1 t old hg hi hold h1 ?_;rw[hd.2.2];exact wpList_nil (h _ he.2.2.1 he.2.2.2)
 . simp at hd
theorem Gn{P:Program}{ops:Array Oper}{Q:Exit->Act->World->Prop}{w:World}{l:List Oper}{a:Act}(n:Nat)(t e:TypeId)(len:Nat)(parts:Array (Nat×Operand))(s p m:Nat)(cells:Array Value)(ie:TypeInfo)(z:Value)
 (hb:(Do P (l.take n) a).map (fun a'=>(Instr.fill (fun i=>some (i*ie.size,ie.size)) ((Array.range (len*ie.size)).map (z.cells[· % z.cells.size]!)) (parts.map fun(i,x)=>(i,a'.eval x)).toList,a'.tmps.size,a'.defers))=some (some cells,m,[]))
 (hd:(l.drop n).map (fun o=>(o.guard,o.op,o.dst))=[(none,.buildSlice t len parts,some s),(none,.assign (.tmp s),some p)])
 (hs:s<m) (hp:p<m)
 (hu:P.underlying t=some (.slice e)) (hie:P.info? e=some ie) (hz:ie.zero=some z) (hsmall:¬len*ie.size>2 ^ 24) (hpos:¬len*ie.size=0)
 (h:∀a',a'.tmps.getD p undef=.slice (some ⟨w.heap.size,0,none⟩) len len->a'.defers=[]->Q .normal a' (w.alloc (.cells cells e))):wpList P ops Q l a w:=by
 rw[<-dm n l];obtain⟨a',ha,he⟩:=cY.1 hb;simp only[Prod.mk.injEq]at he;refine DZ (a':=a') _ ?_ _ _ ha;generalize l.drop n=l2 at hd;rcases l2 with _|⟨o,_|⟨o2,_|⟨o3,l3⟩⟩⟩
 . cases hd
 . simp at hd
 . simp only[cZ,List.map_nil,dN,Prod.mk.injEq,cw]at hd
   obtain⟨⟨g1,o1,d1⟩,g2,o2',d2⟩:=hd;refine wpList_buildSlice g1 t e len parts o1 cells ie z hu hie hz hsmall hpos he.1 ?_;rw[d1];refine wpList_plain g2 fun K hK=> ?_
   unfold Oper.wp execOp;simp only[o2',Sem.run_pure];refine hK _ _ (wpList_nil (h _ ?_ ?_))
   . simp[Act.put,Act.eval,hp,hs,he.2.1,d2]
   . simp[Act.put,he.2.2,d2]
 . simp at hd
def L5:Array Value:=#[.string ⟨#[]⟩,.int .i64 0,.int .i64 0,.nilFunc,
 .string ⟨#[]⟩,.int .i64 0,.int .i64 0,.nilFunc,
 .string ⟨#[]⟩,.int .i64 0,.int .i64 0,.nilFunc,
 .string ⟨#[]⟩,.int .i64 0,.int .i64 0,.nilFunc,
 .string ⟨#[]⟩,.int .i64 0,.int .i64 0,.nilFunc,
 .string ⟨#[]⟩,.int .i64 0,.int .i64 0,.nilFunc,
 .string ⟨#[]⟩,.int .i64 0,.int .i64 0,.nilFunc,
 .string ⟨#[]⟩,.int .i64 0,.int .i64 0,.nilFunc,
 .string ⟨#[]⟩,.int .i64 0,.int .i64 0,.nilFunc,
 .string ⟨#[]⟩,.int .i64 0,.int .i64 0,.nilFunc,
 .string ⟨#[]⟩,.int .i64 0,.int .i64 0,.nilFunc,
 .string ⟨#[]⟩,.int .i64 0,.int .i64 0,.nilFunc,
 .string ⟨#[]⟩,.int .i64 0,.int .i64 0,.nilFunc,
 .string ⟨#[]⟩,.int .i64 0,.int .i64 0,.nilFunc,
 .string ⟨#[]⟩,.int .i64 0,.int .i64 0,.nilFunc,
 .string ⟨#[]⟩,.int .i64 0,.int .i64 0,.nilFunc,
 .string ⟨#[]⟩,.int .i64 0,.int .i64 0,.nilFunc,
 .string ⟨#[]⟩,.int .i64 0,.int .i64 0,.nilFunc,
 .string ⟨#[]⟩,.int .i64 0,.int .i64 0,.nilFunc,
 .string ⟨#[]⟩,.int .i64 0,.int .i64 0,.nilFunc,
 .string ⟨#[]⟩,.int .i64 0,.int .i64 0,.nilFunc,
 .string ⟨#[]⟩,.int .i64 0,.int .i64 0,.nilFunc,
 .string ⟨#[]⟩,.int .i64 0,.int .i64 0,.nilFunc,
 .string ⟨#[]⟩,.int .i64 0,.int .i64 0,.nilFunc,
 .string ⟨#[]⟩,.int .i64 0,.int .i64 0,.nilFunc,
 .string ⟨#[]⟩,.int .i64 0,.int .i64 0,.nilFunc,
 .string ⟨#[]⟩,.int .i64 0,.int .i64 0,.nilFunc,
 .string ⟨#[]⟩,.int .i64 0,.int .i64 0,.nilFunc,
 .string ⟨#[]⟩,.int .i64 0,.int .i64 0,.nilFunc,
 .string ⟨#[]⟩,.int .i64 0,.int .i64 0,.nilFunc]
def DL:Array Value:=#[.string ⟨#[110,111,112]⟩,.int .i64 1,.int .i64 0,.nilFunc,
 .string ⟨#[99,111,110,115,116]⟩,.int .i64 1,.int .i64 1,.nilFunc,
 .string ⟨#[108,111,97,100,108,111,99,97,108]⟩,.int .i64 1,.int .i64 2,.nilFunc,
 .string ⟨#[115,116,111,114,101,108,111,99,97,108]⟩,.int .i64 1,.int .i64 2,.nilFunc,
 .string ⟨#[108,111,97,100]⟩,.int .i64 2,.int .i64 3,.nilFunc,
 .string ⟨#[115,116,111,114,101]⟩,.int .i64 2,.int .i64 3,.nilFunc,
 .string ⟨#[108,111,97,100,97,116]⟩,.int .i64 3,.int .i64 4,.nilFunc,
 .string ⟨#[115,116,111,114,101,97,116]⟩,.int .i64 3,.int .i64 4,.nilFunc,
 .string ⟨#[97,100,100]⟩,.int .i64 1,.int .i64 5,.func (.func 168) #[] #[],
 .string ⟨#[115,117,98]⟩,.int .i64 1,.int .i64 5,.func (.func 169) #[] #[],
 .string ⟨#[109,117,108]⟩,.int .i64 3,.int .i64 5,.func (.func 170) #[] #[],
 .string ⟨#[100,105,118]⟩,.int .i64 8,.int .i64 5,.func (.func 171) #[] #[],
 .string ⟨#[109,111,100]⟩,.int .i64 8,.int .i64 5,.func (.func 172) #[] #[],
 .string ⟨#[97,110,100]⟩,.int .i64 1,.int .i64 6,.func (.func 173) #[] #[],
 .string ⟨#[111,114]⟩,.int .i64 1,.int .i64 6,.func (.func 174) #[] #[],
 .string ⟨#[120,111,114]⟩,.int .i64 1,.int .i64 6,.func (.func 175) #[] #[],
 .string ⟨#[110,111,116]⟩,.int .i64 1,.int .i64 6,.func (.func 176) #[] #[],
 .string ⟨#[115,104,108]⟩,.int .i64 1,.int .i64 0,.func (.func 177) #[] #[],
 .string ⟨#[115,104,114]⟩,.int .i64 1,.int .i64 0,.func (.func 178) #[] #[],
 .string ⟨#[110,101,103]⟩,.int .i64 1,.int .i64 0,.func (.func 179) #[] #[],
 .string ⟨#[101,113]⟩,.int .i64 1,.int .i64 7,.func (.func 180) #[] #[],
 .string ⟨#[108,101,115,115]⟩,.int .i64 1,.int .i64 5,.func (.func 181) #[] #[],
 .string ⟨#[99,111,110,118]⟩,.int .i64 1,.int .i64 8,.nilFunc,
 .string ⟨#[100,117,112]⟩,.int .i64 1,.int .i64 0,.nilFunc,
 .string ⟨#[100,114,111,112]⟩,.int .i64 1,.int .i64 0,.nilFunc,
 .string ⟨#[106,117,109,112]⟩,.int .i64 2,.int .i64 9,.nilFunc,
 .string ⟨#[106,117,109,112,122,101,114,111]⟩,.int .i64 2,.int .i64 9,.nilFunc,
 .string ⟨#[103,117,97,114,100]⟩,.int .i64 2,.int .i64 10,.nilFunc,
 .string ⟨#[99,97,108,108]⟩,.int .i64 4,.int .i64 11,.nilFunc,
 .string ⟨#[114,101,116,117,114,110]⟩,.int .i64 2,.int .i64 0,.nilFunc]
theorem Ov(w:World):(zeroValue 213).run Tryz.prog w=.ok (.agg L5) w:=by kernel_rfl
theorem MU(w:World):Calls Tryz.prog 152 #[] w fun e w'=>e=.returned (.agg DL)/\Below w.heap.size w w':=by
 have hz:=Ov;go_enter Tryz.func152,Tryz.ntmps152;go_wp2_with (show wpList _ _ _ ({dst:=some 1,op:=Op.build _ _,type:=_,pos:=_,after:=_,guard:=_}::_) _ _;refine KJ 61 213 213 (.tmp 0) (.tmp 61) w.heap.size DL L5 0 (by kernel_rfl) rfl (eJ _ _) (by kernel_rfl) (by kernel_rfl) (by kernel_rfl) ?_;intro a' hp hd);rw[World.setRow_alloc_new];exact bC (v:=.agg DL) (results_cell_row Tryz.results152 _ _ w.heap.size 213 DL (0,0) _ hp (eJ _ _) Tryz.underlying213 rfl (by kernel_rfl)) hd ⟨rfl,(aX _ _).alloc lR _⟩
def BR(k:Nat):Array Value:=DL.extract (4*k) (4*k+4)
theorem Mx(k:Nat)(hk:k<30)(w:World):(Instr.index 213 (.agg DL) (.int .i64 (k:Int))).run Tryz.prog w=.ok (.agg (BR k)) w:=by
 have h:k=0\/k=1\/k=2\/k=3\/k=4\/k=5\/k=6\/k=7\/k=8\/k=9\/k=10\/k=11\/k=12\/k=13\/k=14\/k=15\/k=16\/k=17\/k=18\/k=19\/k=20\/k=21\/k=22\/k=23\/k=24\/k=25\/k=26\/k=27\/k=28\/k=29:=by omega
 clear hk;rcases h with rfl|rfl|rfl|rfl|rfl|rfl|rfl|rfl|rfl|rfl|rfl|rfl|rfl|rfl|rfl|rfl|rfl|rfl|rfl|rfl|rfl|rfl|rfl|rfl|rfl|rfl|rfl|rfl|rfl|rfl<;>(show Sem.run _ _ _=Result.ok _ _;kernel_rfl)
theorem Jr(k:Nat)(hk:k<30):(BR k).size=4:=by
 have h0:DL.size=120:=by kernel_rfl
 simp[BR,h0];omega
theorem Kw(k:Nat)(hk:k<30):(BR k).all (·.oneCell')=true:=by
 have h0:DL.all (·.oneCell')=true:=by kernel_rfl
 rw[Array.all_eq_true_iff_forall_mem]at h0⊢;intro v hv;unfold BR at hv;obtain⟨i,hi,rfl⟩:=Array.mem_iff_getElem.1 hv;rw[Array.getElem_extract];exact h0 _ (Array.getElem_mem _)
theorem L6(w:World):(zeroValue 195).run Tryz.prog w=.ok (.agg #[.string ⟨#[]⟩,.int .i64 0,.int .i64 0,.nilFunc]) w:=by kernel_rfl
theorem Oo(op:Int)(w:World)(h:op<0\/29<op):Calls Tryz.prog 128 #[.int .i64 op] w fun e w'=>e=.returned (.agg #[.string ⟨#[]⟩,.int .i64 0,.int .i64 0,.nilFunc])/\Below w.heap.size w w':=by
 have hz:=L6;rcases h with h|h
 . go_enter Tryz.func128,Tryz.ntmps128
   go_wp2
   exact bC (v:=.agg #[.string ⟨#[]⟩,.int .i64 0,.int .i64 0,.nilFunc]) (by simp[results,Tryz.results128,go_sem]) rfl ⟨rfl,(aX _ _).alloc lR _⟩
 . have h0:decide (op<0)=false:=by simp;omega
   have h1:decide (29<op)=true:=by simp;omega
   go_enter Tryz.func128,Tryz.ntmps128;go_wp2
   exact bC (v:=.agg #[.string ⟨#[]⟩,.int .i64 0,.int .i64 0,.nilFunc]) (by simp[results,Tryz.results128,go_sem]) rfl ⟨rfl,(aX _ _).alloc lR _⟩
theorem Ps(k:Nat)(hk:k<30)(w:World):Calls Tryz.prog 128 #[.int .i64 (k:Int)] w fun e w'=>e=.returned (.agg (BR k))/\Below w.heap.size w w':=by
 have hz:=L6;have h0:decide ((k:Int)<0)=false:=by simp
 have h1:decide (29<(k:Int))=false:=by simp;omega
 have hi:=Mx k hk;have hs:=Jr k hk;have hone:=Kw k hk;have HS:Hid ((BR k).size=4/\(BR k).all (·.oneCell')=true):=⟨hs,hone⟩
 clear hs hone;go_enter Tryz.func128,Tryz.ntmps128
 go_wp2_with (first
  |(go_at_call 152;refine(MU _).mono ?_;rintro e w1 ⟨rfl,hb⟩;have hrow:w1.heap[w.heap.size]?=some (.cells #[.string ⟨#[]⟩,.int .i64 0,.int .i64 0,.nilFunc] 195):=(hb.block _ (by simp)).trans (eJ _ _))
  |(show wpList _ _ _ ({dst:=none,op:=Op.store 195 _ _,type:=_,pos:=_,after:=_,guard:=_}::_) _ _;refine wpList_store_row rfl 195 (.tmp 2) (.tmp 12) rfl w.heap.size (BR k) rfl rfl 195 #[.string ⟨#[]⟩,.int .i64 0,.int .i64 0,.nilFunc] hrow (by rw[HS.o.1];kernel_rfl) (by rw[HS.o.1];rfl) HS.o.2 ?_))
 refine bC (v:=.agg (BR k)) (results_cell_row Tryz.results128 _ _ w.heap.size 195 (BR k) (0,0) _ rfl (setRow_heap _ _ _ _ _ _ hrow) Tryz.underlying195 rfl (by rw[HS.o.1];kernel_rfl)) rfl ⟨rfl,?_⟩;exact below_setRow (((aX _ _).alloc lR _).trans (hb.mono (by simp))) lR _
structure MI where
 op:Int
 a:Int
 b:Int
 c:Int
structure MC where
 type:Int
 word:Int
structure MT where
 func:Int
 head:Int
 counter:Int
 init:Int
def MI.cells(x:MI):List Value:=[.int .i64 x.op,.int .i64 x.a,.int .i64 x.b,.int .i64 x.c]
def MC.cells(x:MC):List Value:=[.int .i64 x.type,.int .u32 x.word]
def MT.cells(x:MT):List Value:=[.int .i64 x.func,.int .i64 x.head,.int .i64 x.counter,.int .u32 x.init]
theorem MI.cells_length(x:MI):x.cells.length=4:=rfl
theorem MC.cells_length(x:MC):x.cells.length=2:=rfl
theorem MT.cells_length(x:MT):x.cells.length=4:=rfl
def Ac(z:Int):List Value:=[.int .i64 z]
theorem Ap(z:Int):(Ac z).length=1:=rfl
theorem BE:(Tryz.prog.info? 2).map (fun i=>(i.zero,i.size,i.bytes))=some (some (.int .i64 0),1,8):=by kernel_rfl
theorem Ro:(Tryz.prog.info? 60).map (fun i=>(i.zero,i.size,i.bytes))=some (some (.agg #[.int .i64 0,.int .i64 0,.int .i64 0,.int .i64 0]),4,32):=by kernel_rfl
theorem Rm:(Tryz.prog.info? 114).map (fun i=>(i.zero,i.size,i.bytes))=some (some (.agg #[.int .i64 0,.int .u32 0]),2,16):=by kernel_rfl
theorem Rq:(Tryz.prog.info? 72).map (fun i=>(i.zero,i.size,i.bytes))=some (some (.agg #[.int .i64 0,.int .i64 0,.int .i64 0,.int .u32 0]),4,32):=by kernel_rfl
theorem LU(x:MI)(w:World):
 Calls Tryz.prog 105 #[.agg #[.int .i64 x.op,.int .i64 x.a,.int .i64 x.b,.int .i64 x.c]] w fun e w'=>e=.returned (.agg #[.int .i64 x.op,.int .i64 x.a,.int .i64 x.b,.int .i64 x.c])/\Below w.heap.size w w':=by
 go_enter Tryz.func105,Tryz.ntmps105;go_wp2
 exact bC (v:=.agg #[.int .i64 x.op,.int .i64 x.a,.int .i64 x.b,.int .i64 x.c]) (by simp[results,Tryz.results105,go_sem]) rfl ⟨rfl,(((aX _ _).alloc lR _).alloc (by simp) _).alloc (by simp;omega) _⟩
theorem LS(x:MC)(w:World):
 Calls Tryz.prog 51 #[.agg #[.int .i64 x.type,.int .u32 x.word]] w fun e w'=>e=.returned (.agg #[.int .i64 x.type,.int .u32 x.word])/\Below w.heap.size w w':=by
 go_enter Tryz.func51,Tryz.ntmps51;go_wp2
 exact bC (v:=.agg #[.int .i64 x.type,.int .u32 x.word]) (by simp[results,Tryz.results51,go_sem]) rfl ⟨rfl,(((aX _ _).alloc lR _).alloc (by simp) _).alloc (by simp;omega) _⟩
theorem M9(x:MT)(w:World):
 Calls Tryz.prog 53 #[.agg #[.int .i64 x.func,.int .i64 x.head,.int .i64 x.counter,.int .u32 x.init]] w fun e w'=>e=.returned (.agg #[.int .i64 x.func,.int .i64 x.head,.int .i64 x.counter,.int .u32 x.init])/\Below w.heap.size w w':=by
 go_enter Tryz.func53,Tryz.ntmps53;go_wp2
 exact bC (v:=.agg #[.int .i64 x.func,.int .i64 x.head,.int .i64 x.counter,.int .u32 x.init]) (by simp[results,Tryz.results53,go_sem]) rfl ⟨rfl,(((aX _ _).alloc lR _).alloc (by simp) _).alloc (by simp;omega) _⟩
theorem Gm(s:Value)(L:Nat)(ys:List Int)(w:World)(hL:L<=1048576)(h:Rd w 1 s L (ys.flatMap Ac))(hlen:ys.length=L):
 Calls Tryz.prog 7 #[s] w fun e w'=>e=.returned (.slice (some ⟨w.heap.size,0,none⟩) L L)/\w'.ownsRow w.heap.size 2 1 (.slice (some ⟨w.heap.size,0,none⟩) L L) L (ys.flatMap Ac)/\Below w.heap.size w w':=by
 obtain⟨i0,hi,hz0,hz1,hz2⟩:=bQ BE;have H1:Hid (Rd w 1 s L (ys.flatMap Ac)/\ys.length=L):=⟨h,hlen⟩
 obtain⟨a1,c1,rfl⟩:=h.is_slice;clear h hlen;go_enter Tryz.func7,Tryz.ntmps7;go_wp2_with (at_make;refine bZ _ rfl _ _ 28 rfl w.heap.size 2 i0 (.int .i64 0) 1 Tryz.underlying28 hi hz0 hz1 .i64 .i64 _ _ L rfl rfl rfl rfl (by rw[hz2];omega) (by unfold maxLen;omega) lR ?_;intro w1 hown hgrow);rw[Bu Ac [.int .i64 0] ys L (.int .i64 0) 1 rfl rfl (by omega)]at hown;have hB:Below w.heap.size w w1:=(aX _ _).grown hgrow lR (fun k hk=>by cases hk);clear hgrow;go_loopw [4] (fun i wr=>∃k:Nat,k<=L/\i=.int .i64 k/\wr.ownsRow w.heap.size 2 1 (.slice (some ⟨w.heap.size,0,none⟩) L L) L (A7 Ac [.int .i64 0] ys k L)/\Below w.heap.size w wr) (fun i _=>L-(intOf i).toNat)
 case atStart=>exact⟨0,by omega,rfl,hown,hB⟩
 case round=>
  clear hown hB;obtain⟨k,hk,rfl,hown,hbel⟩:=hrel;by_cases hlt:k<L
  . obtain⟨x,hx⟩:∃x,ys[k]?=some x:=⟨_,aA (by rw[H1.o.2];exact hlt)⟩
    have hnext:=CX Ac [.int .i64 0] ys k L x hx;rw[BN Ac [.int .i64 0] ys k L hlt]at hown;have hA:((ys.take k).flatMap Ac).length=k*1:=by rw[As Ac 1 Ap,bp,H1.o.2,Nat.min_eq_left hk]
    generalize (ys.take k).flatMap Ac=A at hown hnext hA;generalize (List.replicate (L-(k+1)) [Value.int .i64 0]).flatten=R at hown hnext;rcases H1.o.1.2 with⟨e0,_⟩|⟨g,o,c,e1,hc1⟩
    . omega
    . simp only[aF,aw]at e1
      obtain⟨rfl,rfl⟩:=e1;have i0:=Rd.elem Ap hc1 k x hx 0 _ rfl;rw[<-hbel.cell (aC i0)]at i0;rw[bf,aS]at i0;have f0:=hown.frozenAt k;have d0:=hown.cellAt k (by omega);rw[bf]at hA;rw[aW (by omega),hA,cg]at d0;have HO:Hid (wr.ownsRow w.heap.size 2 1 (.slice (some ⟨w.heap.size,0,none⟩) L L) L (A++([.int .i64 0]++R))/\A.length=k/\A7 Ac [.int .i64 0] ys (k+1) L=A++(Ac x++R)):=⟨hown,hA,hnext⟩
      clear hown hA hnext hc1 hx;simp only[cA,aM]at d0;go_wp2
      go_roundw
      case rel=>
       refine⟨k+1,by omega,by go_num,?_,hbel.setCell lR _⟩;have hst:=(HO.o.1.stored k (.int .i64 x)).1;rw[Qd A R _ _ k HO.o.2.1]at hst;rw[HO.o.2.2];exact hst
      case measure=>simp[intOf];omega
  . have hkn:k=L:=by omega
    subst hkn;rw[Dx _ _ _ _ H1.o.2]at hown;have HO:Hid (wr.ownsRow w.heap.size 2 1 (.slice (some ⟨w.heap.size,0,none⟩) k k) k (ys.flatMap Ac)):=hown;clear hown;go_wp2
    go_ret
    exact⟨rfl,HO.o,hbel⟩
def Cv:Array Value:=#[.string ⟨#[110,111,112]⟩,.int .i64 1,.int .i64 0,
 .string ⟨#[99,111,110,115,116]⟩,.int .i64 1,.int .i64 1,
 .string ⟨#[108,111,97,100,108,111,99,97,108]⟩,.int .i64 1,.int .i64 2,
 .string ⟨#[115,116,111,114,101,108,111,99,97,108]⟩,.int .i64 1,.int .i64 2,
 .string ⟨#[108,111,97,100]⟩,.int .i64 2,.int .i64 3,
 .string ⟨#[115,116,111,114,101]⟩,.int .i64 2,.int .i64 3,
 .string ⟨#[108,111,97,100,97,116]⟩,.int .i64 3,.int .i64 4,
 .string ⟨#[115,116,111,114,101,97,116]⟩,.int .i64 3,.int .i64 4,
 .string ⟨#[97,100,100]⟩,.int .i64 1,.int .i64 5,
 .string ⟨#[115,117,98]⟩,.int .i64 1,.int .i64 5,
 .string ⟨#[109,117,108]⟩,.int .i64 3,.int .i64 5,
 .string ⟨#[100,105,118]⟩,.int .i64 8,.int .i64 5,
 .string ⟨#[109,111,100]⟩,.int .i64 8,.int .i64 5,
 .string ⟨#[97,110,100]⟩,.int .i64 1,.int .i64 6,
 .string ⟨#[111,114]⟩,.int .i64 1,.int .i64 6,
 .string ⟨#[120,111,114]⟩,.int .i64 1,.int .i64 6,
 .string ⟨#[110,111,116]⟩,.int .i64 1,.int .i64 6,
 .string ⟨#[115,104,108]⟩,.int .i64 1,.int .i64 0,
 .string ⟨#[115,104,114]⟩,.int .i64 1,.int .i64 0,
 .string ⟨#[110,101,103]⟩,.int .i64 1,.int .i64 0,
 .string ⟨#[101,113]⟩,.int .i64 1,.int .i64 7,
 .string ⟨#[108,101,115,115]⟩,.int .i64 1,.int .i64 5,
 .string ⟨#[99,111,110,118]⟩,.int .i64 1,.int .i64 8,
 .string ⟨#[100,117,112]⟩,.int .i64 1,.int .i64 0,
 .string ⟨#[100,114,111,112]⟩,.int .i64 1,.int .i64 0,
 .string ⟨#[106,117,109,112]⟩,.int .i64 2,.int .i64 9,
 .string ⟨#[106,117,109,112,122,101,114,111]⟩,.int .i64 2,.int .i64 9,
 .string ⟨#[103,117,97,114,100]⟩,.int .i64 2,.int .i64 10,
 .string ⟨#[99,97,108,108]⟩,.int .i64 4,.int .i64 11,
 .string ⟨#[114,101,116,117,114,110]⟩,.int .i64 2,.int .i64 0]
theorem Lk(w:World):Calls Tryz.prog 47 #[] w fun e w'=>e=.returned (.slice (some ⟨w.heap.size,0,none⟩) 30 30)/\w'=w.alloc (.cells Cv 63):=by
 go_enter Tryz.func47,Tryz.ntmps47;go_wp2_with (show wpList _ _ _ ({dst:=some 1,op:=Op.build _ _,type:=_,pos:=_,after:=_,guard:=_}::_) _ _;refine Gn 30 108 63 30 #[(0,.tmp 1),(1,.tmp 2),(2,.tmp 3),(3,.tmp 4),(4,.tmp 5),(5,.tmp 6),(6,.tmp 7),(7,.tmp 8),(8,.tmp 9),(9,.tmp 10),(10,.tmp 11),(11,.tmp 12),(12,.tmp 13),(13,.tmp 14),(14,.tmp 15),(15,.tmp 16),(16,.tmp 17),(17,.tmp 18),(18,.tmp 19),(19,.tmp 20),(20,.tmp 21),(21,.tmp 22),(22,.tmp 23),(23,.tmp 24),(24,.tmp 25),(25,.tmp 26),(26,.tmp 27),(27,.tmp 28),(28,.tmp 29),(29,.tmp 30)] 31 0 32 Cv ((Tryz.prog.info? 63).getD default) (.agg #[.string ⟨#[]⟩,.int .i64 0,.int .i64 0]) (by kernel_rfl) rfl (by decide) (by decide) Tryz.underlying108 (by kernel_rfl) (by kernel_rfl) (dP (by kernel_rfl)) (dP (by kernel_rfl)) ?_;intro a' hp hd);refine bC (v:=.slice (some ⟨w.heap.size,0,none⟩) 30 30) ?_ hd ⟨rfl,rfl⟩;rw[<-hp];exact results_tmp Tryz.results47 _ _ _
def Bj(k:Nat):List Value:=(Cv.extract (3*k) (3*k+3)).toList
theorem Ip(k:Nat)(hk:k<30):(Bj k).length=3:=by
 have h0:Cv.size=90:=by kernel_rfl
 simp[Bj,h0];omega
theorem Lh(k:Nat)(hk:k<30):(Bj k).toArray.all (·.oneCell')=true:=by
 have h0:Cv.all (·.oneCell')=true:=by kernel_rfl
 rw[Array.all_eq_true_iff_forall_mem]at h0⊢;intro v hv;simp only[Bj,Array.toArray_toList]at hv;obtain⟨i,hi,rfl⟩:=Array.mem_iff_getElem.1 hv;rw[Array.getElem_extract];exact h0 _ (Array.getElem_mem _)
theorem Jj(w:World)(b k:Nat)(hk:k<30)(h:w.heap[b]?=some (.cells Cv 63)):w.rangeAt b (k*3) (Bj k):=by
 intro j v hv;have h0:Cv.size=90:=by kernel_rfl
 rw[eL w b _ Cv _ _ h];simp only[Bj,Array.getElem?_toList]at hv;rw[Array.getElem?_extract]at hv;split at hv
 . rw[<-hv,Nat.mul_comm]
 . cases hv
theorem GN(w:World):(zeroValue 63).run Tryz.prog w=.ok (.agg #[.string ⟨#[]⟩,.int .i64 0,.int .i64 0]) w:=by kernel_rfl
theorem NO(op:Int)(w:World)(h:op<0\/29<op):Calls Tryz.prog 18 #[.int .i64 op] w fun e w'=>e=.returned (.agg #[.string ⟨#[]⟩,.int .i64 0,.int .i64 0])/\Below w.heap.size w w':=by
 have hz:=GN;rcases h with h|h
 . go_enter Tryz.func18,Tryz.ntmps18
   go_wp2
   exact bC (v:=.agg #[.string ⟨#[]⟩,.int .i64 0,.int .i64 0]) (by simp[results,Tryz.results18,go_sem]) rfl ⟨rfl,(aX _ _).alloc lR _⟩
 . have h0:decide (op<0)=false:=by simp;omega
   have h1:decide (29<op)=true:=by simp;omega
   go_enter Tryz.func18,Tryz.ntmps18;go_wp2
   exact bC (v:=.agg #[.string ⟨#[]⟩,.int .i64 0,.int .i64 0]) (by simp[results,Tryz.results18,go_sem]) rfl ⟨rfl,(aX _ _).alloc lR _⟩
theorem OK(k:Nat)(hk:k<30)(w:World):Calls Tryz.prog 18 #[.int .i64 (k:Int)] w fun e w'=>e=.returned (.agg (Bj k).toArray)/\Below w.heap.size w w':=by
 have hz:=GN;have h0:decide ((k:Int)<0)=false:=by simp
 have h1:decide (29<(k:Int))=false:=by simp;omega
 have HS:Hid ((Bj k).length=3/\(Bj k).toArray.all (·.oneCell')=true):=⟨Ip k hk,Lh k hk⟩
 go_enter Tryz.func18,Tryz.ntmps18
 go_wp2_with (first
  |(go_at_call 47;refine(Lk _).mono ?_;rintro e w1 ⟨rfl,rfl⟩)
  |(show wpList _ _ _ ({dst:=some 13,op:=Op.load 63 _,type:=_,pos:=_,after:=_,guard:=_}::_) _ _;refine wpList_load_mid rfl 63 (.tmp 12) rfl (w.heap.size+1) (k*3) rfl (Bj k) _ (Jj _ _ _ hk (heap_alloc2_new _ _ _)) Tryz.underlying63 rfl (by rw[HS.o.1];kernel_rfl) ?_)
  |(show wpList _ _ _ ({dst:=none,op:=Op.store 63 _ _,type:=_,pos:=_,after:=_,guard:=_}::_) _ _;refine wpList_store_row rfl 63 (.tmp 2) (.tmp 13) rfl w.heap.size (Bj k).toArray rfl rfl 63 #[.string ⟨#[]⟩,.int .i64 0,.int .i64 0] (heap_alloc2_old _ _ _) (by rw[List.size_toArray,HS.o.1];kernel_rfl) (by show 3=(Bj k).length;rw[HS.o.1]) HS.o.2 ?_))
 refine bC (v:=.agg (Bj k).toArray) (results_cell_row Tryz.results18 _ _ w.heap.size 63 (Bj k).toArray (0,0) _ rfl (setRow_heap _ _ _ _ _ _ (heap_alloc2_old _ _ _)) Tryz.underlying63 rfl (by rw[List.size_toArray,HS.o.1];kernel_rfl)) rfl ⟨rfl,?_⟩;exact below_setRow (((aX _ _).alloc lR _).alloc (by simp) _) lR _
end Go.Proofs.YtdipfjmlfbdkdaaGreat
