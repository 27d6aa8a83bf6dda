import Derived.Test.YtjcamlobelcepaaGreatDoorRows
import Derived.WalkKit
import Derived.ProofKit
import Derived.OpenShut
import Derived.Laws.Entries
import Derived.Below
import Derived.Outline
import Derived.WalkLawsBesides
import Derived.Laws.Rows
import Derived.Laws.OwnMore
import Derived.OwnWalk
import Derived.Deep.QuietTactic
import Derived.BigQuiet
import Derived.Laws.Tables
import Derived.Deep.WholeRow
namespace Go.Proofs.YtjcamlobelcepaaGreatDoor
open Go.ChangeShapes Go.WideShapes Go.ChangeAt Go.RowKit
set_option linter.unusedVariables false
set_option maxHeartbeats 2000000
def DZ(t:Int):Bool:=decide (1<=t/\t<=3)
theorem M4{t:Int}(h:1<=t)(h':t<=3):DZ t=true:=by unfold DZ;simp;omega
theorem GE{t:Int}(h:t<1\/3<t):DZ t=false:=by unfold DZ;simp;omega
def word(b:Bool):Int:=if b then 1 else 0
theorem DP(t:Int)(w:World):Calls Tryz.prog 103 #[.int .i64 t] w fun e w'=>e=.returned (.bool (DZ t))/\w'=w:=by
 by_cases h1:1<=t
 . by_cases h3:t<=3
   . rw[M4 h1 h3]
     go_enter Tryz.func103,Tryz.ntmps103;go_wp2
     go_ret
     exact⟨rfl,rfl⟩
   . rw[GE (by omega)]
     go_enter Tryz.func103,Tryz.ntmps103;go_wp2
     go_ret
     exact⟨rfl,rfl⟩
 . rw[GE (by omega)]
   go_enter Tryz.func103,Tryz.ntmps103;go_wp2
   go_ret
   exact⟨rfl,rfl⟩
theorem DQ(t:Int)(w:World):Calls Tryz.prog 120 #[.int .i64 t] w fun e w'=>e=.returned (.bool (DZ t))/\w'=w:=by
 by_cases h1:1<=t
 . by_cases h3:t<=3
   . rw[M4 h1 h3]
     go_enter Tryz.func120,Tryz.ntmps120;go_wp2
     go_ret
     exact⟨rfl,rfl⟩
   . rw[GE (by omega)]
     go_enter Tryz.func120,Tryz.ntmps120;go_wp2
     go_ret
     exact⟨rfl,rfl⟩
 . rw[GE (by omega)]
   go_enter Tryz.func120,Tryz.ntmps120;go_wp2
   go_ret
   exact⟨rfl,rfl⟩
abbrev B32:=BitVec 32
def FN:List Int:=[0,498536548,997073096,651767980,1994146192,1802195444,1303535960,1342533948,3988292384,4027552580,3604390888,3412177804,2607071920,2262029012,2685067896,3183342108]
def LO(r:B32):B32:=(r >>> 4) ^^^ BitVec.ofInt 32 (FN.getD (r &&& 15#32).toNat 0)
theorem Te(r:B32):(r &&& 15#32).toNat<16:=by
 rw[BitVec.toNat_and];have:(15#32).toNat=15:=by decide
 rw[this];exact Nat.lt_succ_of_le Nat.and_le_right
theorem lR{n:Nat}:n<=n:=Nat.le_refl n
theorem _root_.Go.RowKit.Hid.o{p:Prop}(h:Hid p):p:=h
abbrev aA:=@List.getElem?_eq_getElem
abbrev aD:=@block_lt_of_cell
abbrev aE:=@List.getElem?_eq_some_iff
abbrev aF:=@List.mem_of_getElem?
abbrev aG:=@And.intro
abbrev aH:=@List.length_append
abbrev aI:=@Value.slice.injEq
abbrev aJ:=@List.getElem?_cons_zero
abbrev aL:=@List.getElem?_cons_succ
abbrev aM:=@Option.some.injEq
abbrev aN:=@ownsRow_setCell_other
abbrev aP:=@List.length_singleton
abbrev aQ:=@List.getElem?_toArray
abbrev aR:=@Nat.le_trans
abbrev aS:=@Int.eq_ofNat_of_zero_le
abbrev aT:=@Nat.add_zero
abbrev aU:=@List.getD_eq_getElem?_getD
abbrev aW:=@bodyPost_ret
abbrev aX:=@Int.toNat_natCast
abbrev aY:=@List.setIfInBounds_toArray
abbrev aZ:=@Option.some.inj
abbrev ae:=@List.getElem?_eq_none
abbrev ah:=@List.mem_append
abbrev aj:=@List.take_succ_eq_append_getElem
abbrev am:=@List.flatMap_cons
abbrev an:=@Array.getElem?_eq_some_iff
abbrev ao:=@true_and
abbrev aq:=@Below.refl
abbrev au:=@List.set_cons_zero
abbrev aw:=@List.set_cons_succ
abbrev a6:=@List.append_assoc
abbrev a8:=@List.flatMap_append
abbrev bB:=@List.length_map
abbrev bC:=@Nat.ne_of_lt
abbrev bF:=@World.ownsRow.cellAt
abbrev bG:=@List.mem_cons
abbrev bH:=@List.getElem?_append_right
abbrev bI:=@heap_setCell_other
abbrev bJ:=@info_parts
abbrev bK:=@List.cons_append
abbrev bL:=@List.length_cons
abbrev bO:=@List.mem_singleton
abbrev bP:=@List.mem_cons_of_mem
abbrev bQ:=@List.getElem?_map
abbrev bR:=@Nat.mul_one
abbrev bS:=@List.getElem?_append_left
abbrev bT:=@ownsRow_setCell_below
abbrev bV:=@Nat.zero_add
abbrev bX:=@if_neg
abbrev bY:=@List.not_mem_nil
abbrev bZ:=@Nat.lt_of_lt_of_le
abbrev ba:=@List.nil_append
abbrev bc:=@List.length_nil
abbrev be:=@List.getElem_mem
abbrev bf:=@World.size_setCell
abbrev bg:=@List.take_of_length_le
abbrev bi:=@List.flatMap_nil
abbrev bj:=@if_pos
abbrev bp:=@List.mem_cons_self
abbrev bq:=@World.ownsRow_nil
abbrev br:=@List.length_range
abbrev bt:=@List.getElem?_of_mem
abbrev bu:=@wpList_make_full
abbrev bw:=@Int.emod_lt_of_pos
abbrev bx:=@List.eq_nil_of_length_eq_zero
abbrev bz:=@Option.map_eq_some_iff
abbrev b9:=@List.length_take
abbrev cA:=@List.pairwise_append
abbrev cD:=@Obj.cells.injEq
abbrev cE:=@List.mem_map
abbrev cF:=@World.ownsRow_lit
abbrev cG:=@List.mem_flatMap
abbrev cH:=@List.length_drop
abbrev cI:=@decide_eq_false
abbrev cJ:=@List.getElem?_set_ne
abbrev cL:=@List.ext_getElem?
abbrev cM:=@Int.emod_nonneg
abbrev cN:=@Addr.mk.injEq
abbrev cP:=@World.ownsRow.stored
abbrev cQ:=@IntWalk.i64_in
abbrev cR:=@List.getElem?_set_self
abbrev cS:=@List.filter_append
abbrev cT:=@List.length_filter_le
abbrev cU:=@Nat.zero_le
abbrev cW:=@List.pairwise_cons
abbrev cX:=@List.mem_range
abbrev cY:=@List.flatten_replicate_singleton
abbrev cZ:=@or_false
abbrev ce:=@World.cell?_of_block
abbrev cg:=@List.length_set
abbrev ch:=@List.range_succ
abbrev cj:=@and_true
abbrev cu:=@cell_of_row
abbrev dA:=@List.sublist_append_left
abbrev dB:=@heap_alloc_new
abbrev dC:=@World.size_alloc
abbrev dD:=@List.count_append
abbrev dE:=@decide_eq_true_eq
abbrev dF:=@List.length_reverse
abbrev dG:=@Bool.false_ne_true
abbrev dH:=@List.filter_cons
abbrev dI:=@Int.mul_le_mul_of_nonneg_right
abbrev dJ:=@List.count_cons
abbrev dK:=@List.map_append
abbrev dL:=@List.map_congr_left
abbrev dM:=@World.ownsRow.frozenAt
abbrev dN:=@List.count_nil
abbrev dO:=@Bool.false_eq_true
abbrev dP:=@List.take_append_drop
abbrev dQ:=@List.getElem?_zipWith
abbrev dR:=@List.mem_or_eq_of_mem_set
abbrev dS:=@List.pairwise_iff_getElem
abbrev dT:=@Classical.byContradiction
abbrev dU:=@Array.getElem?_eq_getElem
abbrev dV:=@List.append_nil
abbrev dW:=@List.mem_filter
abbrev dX:=@List.filter_nil
abbrev dY:=@Nat.le_of_lt
abbrev dZ:=@Go.IntWalk.i64_in
abbrev db:=@List.map_cons
abbrev dd:=@List.idxOf_lt_length_iff
abbrev de:=@List.replicate_succ
abbrev df:=@Nat.add_sub_cancel_left
abbrev dg:=@List.pairwise_singleton
abbrev dh:=@bodyPost_end
abbrev di:=@List.set_append_right
abbrev dj:=@List.perm_append_comm
abbrev dk:=@List.nodup_append
abbrev dm:=@of_decide_eq_true
abbrev dn:=@List.mem_of_mem_tail
abbrev dp:=@List.all_eq_true
abbrev dq:=@World.cell?_setCell_other
abbrev dt:=@List.drop_eq_getElem_cons
abbrev du:=@beq_eq_false_iff_ne
abbrev dw:=@List.length_pos_iff
abbrev dx:=@Int.toNat_of_nonneg
abbrev dy:=@List.perm_iff_count
abbrev dz:=@World.cell?_setCell_same
abbrev d6:=@Array.getElem?_push_size
abbrev eA:=@Bool.eq_iff_iff
abbrev eE:=@List.getElem?_drop
abbrev eF:=@List.mem_reverse
abbrev eG:=@Bool.and_eq_true
abbrev eH:=@Option.getD_some
abbrev eJ:=@List.mem_of_mem_take
abbrev eL:=@Nat.add_mul
abbrev eM:=@Option.map_some
abbrev eN:=@List.cons.injEq
abbrev eO:=@List.getElem?_range
abbrev eP:=@Nat.sub_self
abbrev eQ:=@Nat.lt_succ_self
abbrev eR:=@decide_eq_false_iff_not
abbrev eS:=@List.drop_of_length_le
abbrev eT:=@List.length_replicate
abbrev eU:=@List.map_map
def Rd(w:World)(k:Nat)(s:Value)(n:Nat)(xs:List Value):Prop:=
 xs.length=n*k/\((n=0/\∃a c,s=.slice a 0 c)\/∃g o c,s=.slice (some ⟨g,o,none⟩) n c/\∀j u,xs[j]?=some u->w.cell? ⟨g,o+j,none⟩=some u)
theorem Rd.of_own{w:World}{base:Nat}{e:TypeId}{s:Value}{k n:Nat}{xs:List Value}(h:w.ownsRow base e k s n xs):Rd w k s n xs:=by
 refine⟨by simpa using h.1,?_⟩;rcases h.2 with⟨rfl,rfl⟩|⟨g,cap,cur,rfl,hb,hg,hnc,hcm,hcs,ht⟩
 . exact .inl ⟨rfl,_,_,rfl⟩
 . refine .inr ⟨g,0,cap,rfl,fun j u hj=> ?_⟩
   rw[cu w g _ cur e _ hg,bV];rw[<-ht]at hj;obtain⟨hlt,hj⟩:=aE.1 hj;rw[List.getElem_take]at hj;rw[<-hj];simp at hlt;rw[dU (by omega)];simp
theorem Rd.keep{w w':World}{s:Value}{k n:Nat}{xs:List Value}(h:Rd w k s n xs){B:Nat}(hb:Below B w w')(hB:w.heap.size<=B):Rd w' k s n xs:=by
 obtain⟨hl,h|⟨g,o,c,rfl,hc⟩⟩:=h
 . exact⟨hl,.inl h⟩
 . refine⟨hl,.inr ⟨g,o,c,rfl,fun j u hj=> ?_⟩⟩
   have h1:=hc j u hj;rw[hb.cell (bZ (aD h1) hB)];exact h1
theorem Rd.is_slice{w:World}{k:Nat}{s:Value}{n:Nat}{xs:List Value}(h:Rd w k s n xs):∃a c,s=.slice a n c:=by
 rcases h.2 with⟨rfl,a,c,rfl⟩|⟨g,o,c,rfl,_⟩<;>exact⟨_,_,rfl⟩
theorem Ah{w w':World}{base:Nat}{e:TypeId}{s:Value}{k n:Nat}{xs:List Value}(h:w.ownsRow base e k s n xs){B:Nat}(hb:Below B w w')(hB:w.heap.size<=B):w'.ownsRow base e k s n xs:=by
 refine⟨h.1,?_⟩;rcases h.2 with h|⟨g,cap,cur,e1,hb1,hg,hr⟩
 . exact .inl h
 . refine .inr ⟨g,cap,cur,e1,hb1,?_,hr⟩
   rw[hb.block g (bZ (an.1 hg).1 hB)];exact hg
theorem Aq{α:Type}(f:α->List Value)(m:Nat)(hf:∀y,(f y).length=m)(ys:List α):(ys.flatMap f).length=ys.length*m:=by
 induction ys with
 |nil=>simp
 |cons y r ih=>rw[am,aH,ih,hf,bL,eL];omega
theorem C8{α:Type}(f:α->List Value)(m:Nat)(hf:∀y,(f y).length=m)(ys:List α)(k j:Nat)(y:α)(hk:ys[k]?=some y)(hj:j<m):(ys.flatMap f)[k*m+j]?=(f y)[j]?:=by
 induction ys generalizing k with
 |nil=>cases hk
 | cons x r ih=>
   rw[am];cases k with
   | zero=>
     simp only[aJ,aM]at hk;subst hk;rw[Nat.zero_mul,bV,bS (by rw[hf];exact hj)]
   | succ k=>
     rw[aL]at hk;rw[bH (by rw[hf,eL];omega),hf,<-ih k hk];congr 1;rw[eL];omega
def CE{α:Type}(f:α->List Value)(z:List Value)(ys:List α)(k n:Nat):List Value:=(ys.take k).flatMap f++(List.replicate (n-k) z).flatten
theorem NX{α:Type}(f:α->List Value)(z:List Value)(ys:List α)(n:Nat)(h:ys.length=n):CE f z ys n n=ys.flatMap f:=by simp[CE,<-h]
theorem EK{α:Type}(f:α->List Value)(z:List Value)(ys:List α)(n:Nat)(v:Value)(m:Nat)(hv:v.cells=z.toArray)(hm:z.length=m)(h0:0<m):(madeCells v.cells (n*m)).toList=CE f z ys 0 n:=by
 subst hm;rw[hv];unfold CE;rw[List.take_zero,bi,ba,Nat.sub_zero];apply cL;intro i;have hl:(List.replicate n z).flatten=(List.replicate n z).flatMap id:=by simp[List.flatMap_id]
 by_cases hi:i<n*z.length
 . have hq:i / z.length<n:=(Nat.div_lt_iff_lt_mul h0).2 hi
   have hr:=Nat.mod_lt i h0;have e:i=i / z.length*z.length+i % z.length:=by rw[Nat.mul_comm];exact(Nat.div_add_mod i z.length).symm
   have hx:(List.replicate n z).flatten[i]?=z[i % z.length]?:=by
    conv=>lhs;rw[e]
    clear e;generalize i / z.length=q at hq;generalize i % z.length=r at hr;clear hi hl;induction n generalizing q with
    |zero=>omega
    | succ n ih=>
      rw[de,List.flatten_cons];cases q with
      |zero=>rw[Nat.zero_mul,bV,bS hr]
      | succ q=>
        rw[bH (by rw[eL];omega),<-ih q (by omega)];congr 1;rw[eL];omega
   rw[hx];have hi':i<(madeCells z.toArray (n*z.length)).toList.length:=by simp[madeCells];exact hi
   rw[aA hi',aA hr];simp[madeCells];rw[aA hr];rfl
 . have h1:(madeCells z.toArray (n*z.length)).toList.length<=i:=by simp[madeCells];omega
   have h2:(List.replicate n z).flatten.length<=i:=by
    rw[List.length_flatten];simp;omega
   rw[ae h1,ae h2]
theorem Fz{α:Type}(f:α->List Value)(z:List Value)(ys:List α)(k n:Nat)(hk:k<n):CE f z ys k n=(ys.take k).flatMap f++(z++(List.replicate (n-(k+1)) z).flatten):=by
 unfold CE;have e:n-k=(n-(k+1))+1:=by omega
 rw[e,de,List.flatten_cons]
theorem MQ{α:Type}(f:α->List Value)(z:List Value)(ys:List α)(k n:Nat)(y:α)(hy:ys[k]?=some y):CE f z ys (k+1) n=(ys.take k).flatMap f++(f y++(List.replicate (n-(k+1)) z).flatten):=by
 unfold CE;obtain⟨hlt,rfl⟩:=aE.1 hy;rw[aj hlt,a8,a6];simp
theorem Ue(A R:List Value)(z0 c0:Value)(i:Nat)(h:A.length=i):(A++([z0]++R)).set i c0=A++([c0]++R):=by
 subst h;simp
theorem set2(A R:List Value)(z0 z1 c0 c1:Value)(i:Nat)(h:A.length=i):((A++([z0,z1]++R)).set i c0).set (i+1) c1=A++([c0,c1]++R):=by
 subst h;simp[List.set_append_right]
theorem UK(A R:List Value)(z0 z1 z2 z3 c0 c1 c2 c3:Value)(i:Nat)(h:A.length=i):((((A++([z0,z1,z2,z3]++R)).set i c0).set (i+1) c1).set (i+2) c2).set (i+3) c3=A++([c0,c1,c2,c3]++R):=by
 subst h;simp[List.set_append_right]
theorem Rd.elem{α:Type}{f:α->List Value}{m:Nat}{w:World}{ys:List α}{g o:Nat}(hf:∀y,(f y).length=m)(h:∀j u,(ys.flatMap f)[j]?=some u->w.cell? ⟨g,o+j,none⟩=some u)(k:Nat)(y:α)(hy:ys[k]?=some y)(j:Nat)(u:Value)(hj:(f y)[j]?=some u):w.cell? ⟨g,o+k*m+j,none⟩=some u:=by
 have hjm:j<m:=by rw[<-hf y];exact(aE.1 hj).1
 rw[Nat.add_assoc];exact h _ u ((C8 f m hf ys k j y hy hjm).trans hj)
theorem Af{p:Prop}(h:p):Hid p:=h
abbrev sN:Value:=.slice none 0 0
abbrev sG(g n c:Nat):Value:=.slice (some ⟨g,0,none⟩) n c
abbrev sO(g o n c:Nat):Value:=.slice (some ⟨g,o,none⟩) n c
abbrev iZ(z:Int):Value:=.int .i64 z
def Ek(P:Program):List Oper->Act->Option Act
 |[],a=>some a
 | o ::r,a=>
   match o.guard,o.op with
   | none,.build t parts=>
     match P.built t (parts.map fun(i,x)=>(i,a.eval x)).toList with
     |some cells=>Ek P r (a.put o.dst (.agg cells))
     |none=>none
   |_,_=>none
theorem Fc{P:Program}{ops:Array Oper}{Q:Exit->Act->World->Prop}{w:World}{a':Act}(rest:List Oper)(h:wpList P ops Q rest a' w):
 ∀(l:List Oper) (a:Act),Ek P l a=some a'->wpList P ops Q (l++rest) a w
 | [],a,hb=>by
   simp only[Ek,aM]at hb;subst hb;exact h
 | o ::r,a,hb=>by
   unfold Ek at hb;split at hb
   . next t parts hg ho=>
     split at hb
     . next cells hc=>
       refine wpList_build hg t parts ho (by rw[hc];rfl) ?_;rw[hc];exact Fc rest h r _ hb
     . cases hb
   . cases hb
theorem Ma{P:Program}{ops:Array Oper}{Q:Exit->Act->World->Prop}{w:World}{l:List Oper}{a:Act}(n:Nat)(ty t:TypeId)(x y:Operand)(g:Nat)(cells old:Array Value)(p:Tmp)
 (hb:(Ek P (l.take n) a).map (fun a'=>(a'.eval x,a'.eval y,a'.tmps.getD p undef,a'.defers))=some (.pointer (some ⟨g,0,none⟩),.agg cells,.pointer (some ⟨g,0,none⟩),[]))
 (hd:(l.drop n).map (fun o=>(o.guard,o.op,o.dst))=[(none,.store ty x y,none)])
 (hg:w.heap[g]?=some (.cells old t (0,0))) (hi:(P.info? ty).map (·.size)=some cells.size)
 (hold:old.size=cells.size) (h1:cells.all (·.oneCell')=true)
 (h:∀a',a'.tmps.getD p undef=.pointer (some ⟨g,0,none⟩)->a'.defers=[]->Q .normal a' (w.setRow g cells)):wpList P ops Q l a w:=by
 rw[<-dP n l];obtain⟨a',ha,he⟩:=bz.1 hb;simp only[Prod.mk.injEq]at he;refine Fc (a':=a') _ ?_ _ _ ha;generalize l.drop n=l2 at hd;rcases l2 with _|⟨o,_|⟨o2,l3⟩⟩
 . cases hd
 . simp only[db,List.map_nil,eN,Prod.mk.injEq,cj]at hd
   refine wpList_store_row hd.1 ty x y hd.2.1 g cells he.1 he.2.1 t old hg hi hold h1 ?_;rw[hd.2.2];exact wpList_nil (h _ he.2.2.1 he.2.2.2)
 . simp at hd
def FZ(w:World)(g:Nat)(a:Option Addr)(len:Nat):Prop:=
 len=0\/∃b off,a=some ⟨b,off,none⟩/\b<g/\∀i,i<len->∃v:Int,0<=v/\v<=255/\w.cell? ⟨b,off+i,none⟩=some (.int .u8 v)
structure D8(w:World)(g:Nat)(a:Option Addr)(len cap:Nat)(p:Int):Prop where
 code:w.cell? ⟨g,0,none⟩=some (.slice a len cap)
 place:w.cell? ⟨g,1,none⟩=some (.int .i64 p)
 size:∃sz:Int,0<=sz/\sz<=12/\w.cell? ⟨g,2,none⟩=some (.int .i64 sz)
 free:w.frozen? ⟨g,1,none⟩=false
 low:0<=p
 high:p<=1000000000000
 len_le:len<=140737488355328
 bytes:FZ w g a len
theorem QO{w:World}{g:Nat}{a:Option Addr}{cap:Nat}{p n:Int}(h:D8 w g a 0 cap p)(hn:1<=n)(hn':n<=1000000):
 Calls Tryz.prog 34 #[.pointer (some ⟨g,0,none⟩),.int .i64 n] w fun e w'=>∃(r:Int) (nq:Nat),0<=r/\r<n/\e=.returned (.int .i64 r)/\w'=(w.setCell ⟨g,1,none⟩ (.int .i64 (p+1))).drewN nq:=by
 obtain⟨hc,hp,_,hf,h0,h1,_,_⟩:=h;have hr0:=cM (p*7) (show n≠0 by omega);have hr1:=bw (p*7) (show 0<n by omega);go_enter Tryz.func34,Tryz.ntmps34;go_wp2
 go_ret
 exact⟨_,0,hr0,hr1,rfl,rfl⟩
theorem QP{w:World}{g:Nat}{b off len cap:Nat}{p n v:Int}(h:D8 w g (some ⟨b,off,none⟩) len cap p)(hl:0<len)(hbg:b<g)(hn:1<=n)(hn':n<=200)
 (hv:0<=v) (hv':v<=255) (hcell:w.cell? ⟨b,off+(p % len).toNat,none⟩=some (.int .u8 v)):
 Calls Tryz.prog 34 #[.pointer (some ⟨g,0,none⟩),.int .i64 n] w fun e w'=>∃(r:Int) (nq:Nat),0<=r/\r<n/\e=.returned (.int .i64 r)/\w'=(w.setCell ⟨g,1,none⟩ (.int .i64 (p+1))).drewN nq:=by
 obtain⟨hc,hp,_,hf,h0,h1,hlm,_⟩:=h;have hm0:=cM p (show(len:Int)≠0 by omega);have hm1:=bw p (show 0<(len:Int)by omega);have hl0:((len:Int)==0)=false:=by simp;omega
 have hne:¬b=g:=by omega
 have hd0:0<=p / (len:Int):=Int.ediv_nonneg h0 (by omega);have hd1:p / (len:Int)<=1000000000000:=Int.le_trans (Int.ediv_le_self _ h0) h1;have hx0:=cM (v+p / (len:Int)*37) (show n≠0 by omega);have hx1:=bw (v+p / (len:Int)*37) (show 0<n by omega);go_enter Tryz.func34,Tryz.ntmps34;go_wp2
 go_quiet (fail)
 go_wp2
 go_ret
 exact⟨_,nq,hx0,hx1,rfl,rfl⟩
theorem QQ{w:World}{g:Nat}{b off len cap:Nat}{p n v u:Int}(h:D8 w g (some ⟨b,off,none⟩) len cap p)(hl:0<len)(hbg:b<g)(hn:200<n)(hn':n<=1000000)
 (hv:0<=v) (hv':v<=255) (hcell:w.cell? ⟨b,off+(p % len).toNat,none⟩=some (.int .u8 v)) (hu:0<=u) (hu':u<=255) (hcell2:w.cell? ⟨b,off+((p+1) % len).toNat,none⟩=some (.int .u8 u)):
 Calls Tryz.prog 34 #[.pointer (some ⟨g,0,none⟩),.int .i64 n] w fun e w'=>∃(r:Int) (nq:Nat),0<=r/\r<n/\e=.returned (.int .i64 r)/\w'=(w.setCell ⟨g,1,none⟩ (.int .i64 (p+1))).drewN nq:=by
 obtain⟨hc,hp,_,hf,h0,h1,hlm,_⟩:=h;have hm0:=cM p (show(len:Int)≠0 by omega);have hm1:=bw p (show 0<(len:Int)by omega);have hm2:=cM (p+1) (show(len:Int)≠0 by omega);have hm3:=bw (p+1) (show 0<(len:Int)by omega);have hl0:((len:Int)==0)=false:=by simp;omega
 have hne:¬b=g:=by omega
 have hd0:0<=p / (len:Int):=Int.ediv_nonneg h0 (by omega);have hd1:p / (len:Int)<=1000000000000:=Int.le_trans (Int.ediv_le_self _ h0) h1;have hx0:=cM ((v+p / (len:Int)*37)*251+u*13+p) (show n≠0 by omega);have hx1:=bw ((v+p / (len:Int)*37)*251+u*13+p) (show 0<n by omega);go_enter Tryz.func34,Tryz.ntmps34;go_wp2
 go_quiet (fail)
 go_wp2
 go_quiet (fail)
 go_wp2
 go_ret
 exact⟨_,_,hx0,hx1,rfl,rfl⟩
def Dp(w:World)(s:Value)(n:Nat)(xs:List Value):Prop:=
 xs.length=n/\((n=0/\∃a c,s=.slice a 0 c)\/∃g o c,s=.slice (some ⟨g,o,none⟩) n c/\∀j u,xs[j]?=some u->w.cell? ⟨g,o+j,none⟩=some u)
theorem Dp.of_own{w:World}{base:Nat}{e:TypeId}{s:Value}{n:Nat}{xs:List Value}(h:w.ownsRow base e 1 s n xs):Dp w s n xs:=by
 refine⟨by simpa using h.1,?_⟩;rcases h.2 with⟨rfl,rfl⟩|⟨g,cap,cur,rfl,hb,hg,hnc,hcm,hcs,ht⟩
 . exact .inl ⟨rfl,_,_,rfl⟩
 . refine .inr ⟨g,0,cap,rfl,fun j u hj=> ?_⟩
   rw[cu w g _ cur e _ hg,bV];rw[<-ht]at hj;obtain⟨hlt,hj⟩:=aE.1 hj;rw[List.getElem_take]at hj;rw[<-hj];simp at hlt;rw[dU (by omega)];simp
theorem Dp.keep{w w':World}{s:Value}{n:Nat}{xs:List Value}(h:Dp w s n xs)(hb:Below w.heap.size w w'):Dp w' s n xs:=by
 obtain⟨hl,h|⟨g,o,c,rfl,hc⟩⟩:=h
 . exact⟨hl,.inl h⟩
 . refine⟨hl,.inr ⟨g,o,c,rfl,fun j u hj=> ?_⟩⟩
   have h1:=hc j u hj;rw[hb.cell (aD h1)];exact h1
theorem infoBD:(Tryz.prog.info? 5).map (fun i=>(i.zero,i.size,i.bytes))=some (some (.int .u8 0),1,1):=by kernel_rfl
def CX(m:Int)(k n:Nat):List Value:=(List.range n).map fun i=>.int .u8 (if i<k then m / 2 ^ (8*i) % 256 else 0)
theorem GM(m:Int)(n:Nat):(madeCells (Value.int .u8 0).cells (n*1)).toList=CX m 0 n:=by
 apply List.ext_getElem
 . simp[madeCells,CX]
 . intro i h1 h2
   simp[madeCells,CX,Value.cells,Nat.mod_one]
theorem GJ(m:Int)(k n:Nat)(hk:k<n):(CX m k n).set k (.int .u8 (m / 2 ^ (8*k) % 256))=CX m (k+1) n:=by
 apply List.ext_getElem
 . simp[CX]
 . intro i h1 h2
   rw[List.getElem_set];by_cases e:k=i
   . subst e
     simp[CX]
   . simp only[e,if_false,CX,List.getElem_map,List.getElem_range]
     by_cases hi:i<k
     . rw[bj hi,bj (by omega)]
     . rw[bX hi,bX (by omega)]
theorem Nt(m:Int)(n:Nat)(w:World)(hn:n<=2)(h0:0<=m)(h255:2=1->m<=255):
 Calls Tryz.prog 68 #[.int .u16 m,.int .i64 n] w fun e w'=>∃v,e=.returned v/\w'.ownsRow w.heap.size 5 1 v n (CX m n n)/\Below w.heap.size w w':=by
 obtain⟨i0,hi,hz0,hz1,hz2⟩:=bJ infoBD;have H255:Hid (2=1->m<=255):=h255;clear h255;go_enter Tryz.func68,Tryz.ntmps68;go_wp2_with (at_make;refine bu _ rfl _ _ 22 rfl w.heap.size 5 i0 (.int .u8 0) 1 Tryz.underlying22 hi hz0 hz1 .i64 .i64 _ _ n rfl rfl rfl rfl (by rw[hz2];omega) (by unfold maxLen;omega) lR ?_;intro w1 hown hgrow);rw[GM m n]at hown;have hB:Below w.heap.size w w1:=(aq _ _).grown hgrow lR (fun k hk=>by cases hk);clear hgrow;go_loopw [11] (fun i wr=>∃k:Nat,k<=n/\i=.int .i64 k/\wr.ownsRow w.heap.size 5 1 (.slice (some ⟨w.heap.size,0,none⟩) n n) n (CX m k n)/\Below w.heap.size w wr) (fun i _=>n-(intOf i).toNat)
 case atStart=>exact⟨0,by omega,rfl,hown,hB⟩
 case round=>
  clear hown hB;obtain⟨k,hk,rfl,hown,hbel⟩:=hrel;by_cases hlt:k<n
  . have hcell:=hown.cellAt k (by omega)
    have hfr:=hown.frozenAt k;have HO:Hid (wr.ownsRow w.heap.size 5 1 (.slice (some ⟨w.heap.size,0,none⟩) n n) n (CX m k n)):=hown;clear hown;obtain⟨old,hold⟩:∃old,(CX m k n)[k]?=some old:=⟨_,aA (by simp[CX];omega)⟩;rw[hold]at hcell;clear hold;go_wp2;go_roundw
    case rel=>
     refine⟨k+1,by omega,by go_num,?_,hbel.setCell lR _⟩;have hs:=(HO.o.stored k (.int .u8 (m / 2 ^ (8*k) % 256))).1;rw[GJ m k n hlt]at hs
     have he:m / 2 ^ (8*k) % 256=m / 2 ^ (8*k) % 256:=by
      first
       |rfl
       | (have h1:=H255.o (by first|rfl|trivial)
          have hk0:k=0:=by omega
          subst hk0;simp;omega)
     rw[he];exact hs
    case measure=>simp[intOf];omega
  . have hkn:k=n:=by omega
    subst hkn;have HO:Hid (wr.ownsRow w.heap.size 5 1 (.slice (some ⟨w.heap.size,0,none⟩) k k) k (CX m k k)):=hown;clear hown;go_wp2
    go_ret
    exact⟨_,rfl,HO.o,hbel⟩
theorem I9(m:Int)(n:Nat)(w:World)(hn:n<=4)(h0:0<=m)(h255:4=1->m<=255):
 Calls Tryz.prog 69 #[.int .u32 m,.int .i64 n] w fun e w'=>∃v,e=.returned v/\w'.ownsRow w.heap.size 5 1 v n (CX m n n)/\Below w.heap.size w w':=by
 obtain⟨i0,hi,hz0,hz1,hz2⟩:=bJ infoBD;have H255:Hid (4=1->m<=255):=h255;clear h255;go_enter Tryz.func69,Tryz.ntmps69;go_wp2_with (at_make;refine bu _ rfl _ _ 22 rfl w.heap.size 5 i0 (.int .u8 0) 1 Tryz.underlying22 hi hz0 hz1 .i64 .i64 _ _ n rfl rfl rfl rfl (by rw[hz2];omega) (by unfold maxLen;omega) lR ?_;intro w1 hown hgrow);rw[GM m n]at hown;have hB:Below w.heap.size w w1:=(aq _ _).grown hgrow lR (fun k hk=>by cases hk);clear hgrow;go_loopw [11] (fun i wr=>∃k:Nat,k<=n/\i=.int .i64 k/\wr.ownsRow w.heap.size 5 1 (.slice (some ⟨w.heap.size,0,none⟩) n n) n (CX m k n)/\Below w.heap.size w wr) (fun i _=>n-(intOf i).toNat)
 case atStart=>exact⟨0,by omega,rfl,hown,hB⟩
 case round=>
  clear hown hB;obtain⟨k,hk,rfl,hown,hbel⟩:=hrel;by_cases hlt:k<n
  . have hcell:=hown.cellAt k (by omega)
    have hfr:=hown.frozenAt k;have HO:Hid (wr.ownsRow w.heap.size 5 1 (.slice (some ⟨w.heap.size,0,none⟩) n n) n (CX m k n)):=hown;clear hown;obtain⟨old,hold⟩:∃old,(CX m k n)[k]?=some old:=⟨_,aA (by simp[CX];omega)⟩;rw[hold]at hcell;clear hold;go_wp2;go_roundw
    case rel=>
     refine⟨k+1,by omega,by go_num,?_,hbel.setCell lR _⟩;have hs:=(HO.o.stored k (.int .u8 (m / 2 ^ (8*k) % 256))).1;rw[GJ m k n hlt]at hs
     have he:m / 2 ^ (8*k) % 256=m / 2 ^ (8*k) % 256:=by
      first
       |rfl
       | (have h1:=H255.o (by first|rfl|trivial)
          have hk0:k=0:=by omega
          subst hk0;simp;omega)
     rw[he];exact hs
    case measure=>simp[intOf];omega
  . have hkn:k=n:=by omega
    subst hkn;have HO:Hid (wr.ownsRow w.heap.size 5 1 (.slice (some ⟨w.heap.size,0,none⟩) k k) k (CX m k k)):=hown;clear hown;go_wp2
    go_ret
    exact⟨_,rfl,HO.o,hbel⟩
theorem EP(m:Int)(n:Nat)(w:World)(hn:n<=8)(h0:0<=m)(h255:8=1->m<=255):
 Calls Tryz.prog 70 #[.int .u64 m,.int .i64 n] w fun e w'=>∃v,e=.returned v/\w'.ownsRow w.heap.size 5 1 v n (CX m n n)/\Below w.heap.size w w':=by
 obtain⟨i0,hi,hz0,hz1,hz2⟩:=bJ infoBD;have H255:Hid (8=1->m<=255):=h255;clear h255;go_enter Tryz.func70,Tryz.ntmps70;go_wp2_with (at_make;refine bu _ rfl _ _ 22 rfl w.heap.size 5 i0 (.int .u8 0) 1 Tryz.underlying22 hi hz0 hz1 .i64 .i64 _ _ n rfl rfl rfl rfl (by rw[hz2];omega) (by unfold maxLen;omega) lR ?_;intro w1 hown hgrow);rw[GM m n]at hown;have hB:Below w.heap.size w w1:=(aq _ _).grown hgrow lR (fun k hk=>by cases hk);clear hgrow;go_loopw [11] (fun i wr=>∃k:Nat,k<=n/\i=.int .i64 k/\wr.ownsRow w.heap.size 5 1 (.slice (some ⟨w.heap.size,0,none⟩) n n) n (CX m k n)/\Below w.heap.size w wr) (fun i _=>n-(intOf i).toNat)
 case atStart=>exact⟨0,by omega,rfl,hown,hB⟩
 case round=>
  clear hown hB;obtain⟨k,hk,rfl,hown,hbel⟩:=hrel;by_cases hlt:k<n
  . have hcell:=hown.cellAt k (by omega)
    have hfr:=hown.frozenAt k;have HO:Hid (wr.ownsRow w.heap.size 5 1 (.slice (some ⟨w.heap.size,0,none⟩) n n) n (CX m k n)):=hown;clear hown;obtain⟨old,hold⟩:∃old,(CX m k n)[k]?=some old:=⟨_,aA (by simp[CX];omega)⟩;rw[hold]at hcell;clear hold;go_wp2;go_roundw
    case rel=>
     refine⟨k+1,by omega,by go_num,?_,hbel.setCell lR _⟩;have hs:=(HO.o.stored k (.int .u8 (m / 2 ^ (8*k) % 256))).1;rw[GJ m k n hlt]at hs
     have he:m / 2 ^ (8*k) % 256=m / 2 ^ (8*k) % 256:=by
      first
       |rfl
       | (have h1:=H255.o (by first|rfl|trivial)
          have hk0:k=0:=by omega
          subst hk0;simp;omega)
     rw[he];exact hs
    case measure=>simp[intOf];omega
  . have hkn:k=n:=by omega
    subst hkn;have HO:Hid (wr.ownsRow w.heap.size 5 1 (.slice (some ⟨w.heap.size,0,none⟩) k k) k (CX m k k)):=hown;clear hown;go_wp2
    go_ret
    exact⟨_,rfl,HO.o,hbel⟩
theorem Ov(m:Int)(n:Nat)(w:World)(hn:n<=1)(h0:0<=m)(h255:1=1->m<=255):
 Calls Tryz.prog 67 #[.int .u8 m,.int .i64 n] w fun e w'=>∃v,e=.returned v/\w'.ownsRow w.heap.size 5 1 v n (CX m n n)/\Below w.heap.size w w':=by
 obtain⟨i0,hi,hz0,hz1,hz2⟩:=bJ infoBD;have H255:Hid (1=1->m<=255):=h255;clear h255;go_enter Tryz.func67,Tryz.ntmps67;go_wp2_with (at_make;refine bu _ rfl _ _ 22 rfl w.heap.size 5 i0 (.int .u8 0) 1 Tryz.underlying22 hi hz0 hz1 .i64 .i64 _ _ n rfl rfl rfl rfl (by rw[hz2];omega) (by unfold maxLen;omega) lR ?_;intro w1 hown hgrow);rw[GM m n]at hown;have hB:Below w.heap.size w w1:=(aq _ _).grown hgrow lR (fun k hk=>by cases hk);clear hgrow;go_loopw [11] (fun i wr=>∃k:Nat,k<=n/\i=.int .i64 k/\wr.ownsRow w.heap.size 5 1 (.slice (some ⟨w.heap.size,0,none⟩) n n) n (CX m k n)/\Below w.heap.size w wr) (fun i _=>n-(intOf i).toNat)
 case atStart=>exact⟨0,by omega,rfl,hown,hB⟩
 case round=>
  clear hown hB;obtain⟨k,hk,rfl,hown,hbel⟩:=hrel;by_cases hlt:k<n
  . have hcell:=hown.cellAt k (by omega)
    have hfr:=hown.frozenAt k;have HO:Hid (wr.ownsRow w.heap.size 5 1 (.slice (some ⟨w.heap.size,0,none⟩) n n) n (CX m k n)):=hown;clear hown;obtain⟨old,hold⟩:∃old,(CX m k n)[k]?=some old:=⟨_,aA (by simp[CX];omega)⟩;rw[hold]at hcell;clear hold;go_wp2;go_roundw
    case rel=>
     refine⟨k+1,by omega,by go_num,?_,hbel.setCell lR _⟩;have hs:=(HO.o.stored k (.int .u8 (m / 2 ^ (8*k) % 256))).1;rw[GJ m k n hlt]at hs
     have he:m / 2 ^ (8*k)=m / 2 ^ (8*k) % 256:=by
      first
       |rfl
       | (have h1:=H255.o (by first|rfl|trivial)
          have hk0:k=0:=by omega
          subst hk0;simp;omega)
     rw[he];exact hs
    case measure=>simp[intOf];omega
  . have hkn:k=n:=by omega
    subst hkn;have HO:Hid (wr.ownsRow w.heap.size 5 1 (.slice (some ⟨w.heap.size,0,none⟩) k k) k (CX m k k)):=hown;clear hown;go_wp2
    go_ret
    exact⟨_,rfl,HO.o,hbel⟩
def FY(r:B32):Int:=(r.toNat:Int)
theorem Rm(r:B32):0<=FY r/\FY r<4294967296:=by
 have:=r.isLt;unfold FY;omega
theorem GI(r:B32):BitVec.ofInt 32 (FY r)=r:=by
 unfold FY;rw[BitVec.ofInt_natCast,BitVec.ofNat_toNat,BitVec.setWidth_eq]
theorem Mb(x y:Int):bits .xor .u32 x y=FY (BitVec.ofInt 32 x ^^^ BitVec.ofInt 32 y):=by
 show((BitVec.ofInt 32 x ^^^ BitVec.ofInt 32 y).toNat:Int) % 4294967296=_;have:=(BitVec.ofInt 32 x ^^^ BitVec.ofInt 32 y).isLt;unfold FY;omega
theorem OI(x y:Int):bits .and .u32 x y=FY (BitVec.ofInt 32 x &&& BitVec.ofInt 32 y):=by
 show((BitVec.ofInt 32 x &&& BitVec.ofInt 32 y).toNat:Int) % 4294967296=_;have:=(BitVec.ofInt 32 x &&& BitVec.ofInt 32 y).isLt;unfold FY;omega
theorem Sj(r:B32)(k:Nat):FY r / 2 ^ k=FY (r >>> k):=by
 unfold FY;rw[BitVec.toNat_ushiftRight,Nat.shiftRight_eq_div_pow];simp
def C6(zs:List Int):Nat->B32
 |0=>4294967295#32
 |k+1=>LO (LO (C6 zs k ^^^ BitVec.ofInt 32 (zs.getD k 0)))
def Dq(w:World):Prop:=∀j,j<16->w.cell? ⟨0,j,none⟩=some (.int .u32 (FN.getD j 0))
theorem Mu(x:Int):0<=bits .and .u32 x 15/\bits .and .u32 x 15<16:=by
 rw[OI];have e:BitVec.ofInt 32 15=15#32:=by decide
 rw[e];have:=Te (BitVec.ofInt 32 x);unfold FY;omega
theorem OU(R:B32):bits .xor .u32 (FY R / 16) (FN.getD (bits .and .u32 (FY R) 15).toNat 0)=FY (LO R):=by
 have e:BitVec.ofInt 32 15=15#32:=by decide
 rw[show(16:Int)=2 ^ 4 by decide,Mb,Sj,GI,OI,GI,e];rfl
theorem OD(s:Value)(L:Nat)(zs:List Int)(w:World)(hL:L<=1048576)(h:Dp w s L (zs.map (Value.int .u8)))(hz:∀j,0<=zs.getD j 0/\zs.getD j 0<=255)(ht:Dq w):
 Calls Tryz.prog 22 #[s] w fun e w'=>e=.returned (.int .u32 (FY (~~~(C6 zs L))))/\w'=w:=by
 have hlen:zs.length=L:=by simpa using h.1
 have H1:Hid (Dp w s L (zs.map (Value.int .u8))):=h;have hs:∃a c,s=.slice a L c:=by rcases h.2 with⟨rfl,a,c,rfl⟩|⟨g,o,c,rfl,_⟩<;>exact⟨_,_,rfl⟩
 have HT:Hid (Dq w):=ht;have HZ:Hid (∀j,0<=zs.getD j 0/\zs.getD j 0<=255):=hz
 clear h ht hz;obtain⟨a1,c1,rfl⟩:=hs;go_enter Tryz.func22,Tryz.ntmps22;go_wp2
 go_loop [3,8] (fun r i=>∃k:Nat,k<=L/\r=.int .u32 (FY (C6 zs k))/\i=.int .i64 k) (fun _ i=>L-(intOf i).toNat)
 case atStart=>exact⟨0,by omega,rfl,rfl⟩
 case round=>
  obtain⟨k,hk,rfl,rfl⟩:=hrel;by_cases hlt:k<L
  . have hzk:(zs.map (Value.int .u8))[k]?=some (.int .u8 (zs.getD k 0)):=by
     rw[bQ,aA (by omega),aU,aA (by omega)];rfl
    rcases H1.o.2 with⟨e0,_⟩|⟨g,o,c,e1,hc1⟩
    . omega
    . simp only[aI,ao]at e1
      obtain⟨rfl,rfl⟩:=e1;have hin:=hc1 k _ hzk;have hx:=HZ.o k;have hnext:C6 zs (k+1)=LO (LO (C6 zs k ^^^ BitVec.ofInt 32 (zs.getD k 0))):=rfl;generalize zs.getD k 0=x at hin hx hnext;generalize C6 zs k=R at hnext;have HN:Hid (C6 zs (k+1)=LO (LO (R ^^^ BitVec.ofInt 32 x))):=hnext;have hx1:=hx.1;have hx2:=hx.2;clear hc1 hzk hx hnext hlen;have hr1:bits .xor .u32 (FY R) x=FY (R ^^^ BitVec.ofInt 32 x):=by rw[Mb,GI]
      generalize hR1:R ^^^ BitVec.ofInt 32 x=R1 at hr1;rw[hR1]at HN;have b1:=Mu (FY R1);have hc1:=HT.o (bits .and .u32 (FY R1) 15).toNat (by omega);have hn1:=OU R1;generalize FN.getD (bits .and .u32 (FY R1) 15).toNat 0=t1 at hc1 hn1;generalize LO R1=R2 at hn1 HN;have b2:=Mu (FY R2);have hc2:=HT.o (bits .and .u32 (FY R2) 15).toNat (by omega);have hn2:=OU R2;generalize FN.getD (bits .and .u32 (FY R2) 15).toNat 0=t2 at hc2 hn2;generalize LO R2=R3 at hn2 HN;have b11:=b1.1;have b12:=b1.2;have b21:=b2.1;have b22:=b2.2;clear hR1 b1 b2;go_wp2
      go_round
      case rel=>exact⟨k+1,by omega,by rw[HN.o],by go_num⟩
      case measure=>simp[intOf];omega
  . have hkn:k=L:=by omega
    subst hkn
    have hno:bits .xor .u32 IntKind.u32.max (FY (C6 zs k))=FY (~~~(C6 zs k)):=by
     have e:BitVec.ofInt 32 IntKind.u32.max=BitVec.allOnes 32:=by decide
     rw[Mb,GI,e,BitVec.allOnes_xor]
    go_wp2
    go_ret
    exact⟨rfl,rfl⟩
def Cd(zs:List Int)(p:Nat):Nat->Int
 |0=>0
 |k+1=>bits .or .u64 (Cd zs p k) (IntKind.u64.wrap (IntKind.u64.wrap (zs[p+k]?.getD 0)*2 ^ (8*k)))
theorem NA(w:World):(zeroValue 184).run Tryz.prog w=.ok (.agg #[.bool false,.int .i64 0]) w:=by kernel_rfl
theorem Tf(zs:List Int)(j:Nat)(h:j<zs.length):(zs.map (Value.int .u8))[j]?=some (.int .u8 (zs.getD j 0)):=by
 rw[bQ,aA h,aU,aA h];rfl
theorem Hv(s:Value)(L:Nat)(zs:List Int)(p n:Nat)(w:World)(hL:L<=1048576)(h:Dp w s L (zs.map (Value.int .u8)))(hcap:∀a c,s=.slice a L c->L<=c)(h1:1<=n)(h8:n<=8)(hp:p+n<=L):
 Calls Tryz.prog 112 #[s,.int .i64 p,.int .i64 n] w fun e w'=>e=.returned (.agg #[.bool true,.int .i64 (wrap64 (Cd zs p n))])/\Below w.heap.size w w':=by
 have hzero:=NA;have hlen:zs.length=L:=by simpa using h.1
 obtain⟨g,o,c,rfl,hc⟩:∃g o c,s=.slice (some ⟨g,o,none⟩) L c/\∀j u,(zs.map (Value.int .u8))[j]?=some u->w.cell? ⟨g,o+j,none⟩=some u:=by
  rcases h.2 with⟨e0,_⟩|h
  . omega
  . exact h
 have HC:Hid (∀j,j<L->w.cell? ⟨g,o+j,none⟩=some (.int .u8 (zs.getD j 0))):=fun j hj=>hc j _ (Tf zs j (by omega))
 have hgw:g<w.heap.size:=aD (HC.o p (by omega));have hLc:L<=c:=hcap _ _ rfl;clear h hc hlen hcap;have d1:decide ((n:Int)<1)=false:=by simp;omega
 have d2:decide (8<(n:Int))=false:=by simp;omega
 have d3:decide ((p:Int)<0)=false:=by simp
 have d4:decide ((L:Int)-n<p)=false:=by simp;omega
 go_enter Tryz.func112,Tryz.ntmps112;go_wp2
 go_loopw [7,36] (fun v i wr=>∃k:Nat,k<=n/\v=.int .u64 (Cd zs p k)/\i=.int .i64 k/\wr=w.alloc (.cells #[.bool false,.int .i64 0] 184)) (fun _ i _=>n-(intOf i).toNat)
 case atStart=>exact⟨0,by omega,rfl,rfl,rfl⟩
 case round=>
  obtain⟨k,hk,rfl,rfl,rfl⟩:=hrel;by_cases hlt:k<n
  . have hcell:=HC.o (p+k) (by omega)
    rw[<-Nat.add_assoc]at hcell;go_wp2
    go_roundw
    case rel=>exact⟨k+1,by omega,rfl,by go_num,trivial⟩
    case measure=>simp[intOf];omega
  . have hkn:k=n:=by omega
    subst hkn;go_wp2
    exact aW (v:=.agg #[.bool true,.int .i64 (wrap64 (Cd zs p k))]) (by simp[results,Tryz.results112,go_sem]) rfl ⟨rfl,(aq _ _).alloc lR _⟩
theorem Kg(a:Option Addr)(L c:Nat)(p n:Int)(w:World)(hL:L<=1048576)(h:n<1\/8<n\/p<0\/(L:Int)-n<p):
 Calls Tryz.prog 112 #[.slice a L c,.int .i64 p,.int .i64 n] w fun e w'=>e=.returned (.agg #[.bool false,.int .i64 0])/\Below w.heap.size w w':=by
 have hzero:=NA;by_cases c1:n<1
 . have d1:decide (n<1)=true:=by simpa using c1
   clear h;go_enter Tryz.func112,Tryz.ntmps112;go_wp2
   exact aW (v:=.agg #[.bool false,.int .i64 0]) (by simp[results,Tryz.results112,go_sem]) rfl ⟨rfl,(aq _ _).alloc lR _⟩
 . have d1:decide (n<1)=false:=by simpa using c1
   by_cases c2:8<n
   . have d2:decide (8<n)=true:=by simpa using c2
     clear h;go_enter Tryz.func112,Tryz.ntmps112;go_wp2
     exact aW (v:=.agg #[.bool false,.int .i64 0]) (by simp[results,Tryz.results112,go_sem]) rfl ⟨rfl,(aq _ _).alloc lR _⟩
   . have d2:decide (8<n)=false:=by simpa using c2
     by_cases c3:p<0
     . have d3:decide (p<0)=true:=by simpa using c3
       clear h;go_enter Tryz.func112,Tryz.ntmps112;go_wp2
       exact aW (v:=.agg #[.bool false,.int .i64 0]) (by simp[results,Tryz.results112,go_sem]) rfl ⟨rfl,(aq _ _).alloc lR _⟩
     . have d3:decide (p<0)=false:=by simpa using c3
       have d4:decide ((L:Int)-n<p)=true:=by simp;omega
       clear h;go_enter Tryz.func112,Tryz.ntmps112;go_wp2
       exact aW (v:=.agg #[.bool false,.int .i64 0]) (by simp[results,Tryz.results112,go_sem]) rfl ⟨rfl,(aq _ _).alloc lR _⟩
end Go.Proofs.YtjcamlobelcepaaGreatDoor
