import Derived.Test.YtdfmdgbolmbffaaGreatRows
import Derived.WalkKit
import Derived.ProofKit
import Derived.OpenShut
import Derived.Below
import Derived.Outline
import Derived.WalkLawsBesides
import Derived.Laws.Rows
import Derived.Laws.OwnMore
import Derived.OwnWalk
import Derived.Deep.QuietTactic
import Derived.BigQuiet
import Derived.OneCell
namespace Go.Proofs.YtdfmdgbolmbffaaGreat
open Go.ChangeShapes Go.WideShapes Go.ChangeAt Go.RowKit
set_option linter.unusedVariables false
def Rd(w:World)(k:Nat)(s:Value)(n:Nat)(xs:List Value):Prop:=
  xs.length=n*k/\((n=0/\∃a c,s=.slice a 0 c)\/∃g o c,s=.slice (some ⟨g,o,none⟩) n c/\∀j u,xs[j]?=some u->w.cell? ⟨g,o+j,none⟩=some u)
theorem Rd.of_own{w:World}{base:Nat}{e:TypeId}{s:Value}{k n:Nat}{xs:List Value}(h:w.ownsRow base e k s n xs):Rd w k s n xs:=by
  refine⟨by simpa using h.1,?_⟩
  rcases h.2 with⟨rfl,rfl⟩|⟨g,cap,cur,rfl,hb,hg,hnc,hcm,hcs,ht⟩
  . exact .inl ⟨rfl,_,_,rfl⟩
  . refine .inr ⟨g,0,cap,rfl,fun j u hj=> ?_⟩
    rw[cell_of_row w g _ cur e _ hg,Nat.zero_add]
    rw[<-ht]at hj
    obtain⟨hlt,hj⟩:=List.getElem?_eq_some_iff.1 hj
    rw[List.getElem_take]at hj
    rw[<-hj]
    simp at hlt
    rw[Array.getElem?_eq_getElem (by omega)]
    simp
theorem Rd.keep{w w':World}{s:Value}{k n:Nat}{xs:List Value}(h:Rd w k s n xs){B:Nat}(hb:Below B w w')(hB:w.heap.size<=B):Rd w' k s n xs:=by
  obtain⟨hl,h|⟨g,o,c,rfl,hc⟩⟩:=h
  . exact⟨hl,.inl h⟩
  . refine⟨hl,.inr ⟨g,o,c,rfl,fun j u hj=> ?_⟩⟩
    have h1:=hc j u hj
    rw[hb.cell (Nat.lt_of_lt_of_le (block_lt_of_cell h1) hB)]
    exact h1
theorem Rd.is_slice{w:World}{k:Nat}{s:Value}{n:Nat}{xs:List Value}(h:Rd w k s n xs):∃a c,s=.slice a n c:=by
  rcases h.2 with⟨rfl,a,c,rfl⟩|⟨g,o,c,rfl,_⟩<;>exact⟨_,_,rfl⟩
theorem own_keep{w w':World}{base:Nat}{e:TypeId}{s:Value}{k n:Nat}{xs:List Value}(h:w.ownsRow base e k s n xs){B:Nat}(hb:Below B w w')(hB:w.heap.size<=B):w'.ownsRow base e k s n xs:=by
  refine⟨h.1,?_⟩
  rcases h.2 with h|⟨g,cap,cur,e1,hb1,hg,hr⟩
  . exact .inl h
  . refine .inr ⟨g,cap,cur,e1,hb1,?_,hr⟩
    rw[hb.block g (Nat.lt_of_lt_of_le (Array.getElem?_eq_some_iff.1 hg).1 hB)]
    exact hg
theorem flat_length{α:Type}(f:α->List Value)(m:Nat)(hf:∀y,(f y).length=m)(ys:List α):(ys.flatMap f).length=ys.length*m:=by
  induction ys with
  |nil=>simp
  |cons y r ih=>rw[List.flatMap_cons,List.length_append,ih,hf,List.length_cons,Nat.add_mul];omega
theorem flat_at{α:Type}(f:α->List Value)(m:Nat)(hf:∀y,(f y).length=m)(ys:List α)(k j:Nat)(y:α)(hk:ys[k]?=some y)(hj:j<m):(ys.flatMap f)[k*m+j]?=(f y)[j]?:=by
  induction ys generalizing k with
  |nil=>cases hk
  | cons x r ih=>
    rw[List.flatMap_cons]
    cases k with
    | zero=>
      simp only[List.getElem?_cons_zero,Option.some.injEq]at hk
      subst hk
      rw[Nat.zero_mul,Nat.zero_add,List.getElem?_append_left (by rw[hf];exact hj)]
    | succ k=>
      rw[List.getElem?_cons_succ]at hk
      rw[List.getElem?_append_right (by rw[hf,Nat.add_mul];omega),hf,<-ih k hk]
      congr 1
      rw[Nat.add_mul]
      omega
def flatTo{α:Type}(f:α->List Value)(z:List Value)(ys:List α)(k n:Nat):List Value:=(ys.take k).flatMap f++(List.replicate (n-k) z).flatten
theorem flatTo_all{α:Type}(f:α->List Value)(z:List Value)(ys:List α)(n:Nat)(h:ys.length=n):flatTo f z ys n n=ys.flatMap f:=by simp[flatTo,<-h]
theorem flatTo_zero{α:Type}(f:α->List Value)(z:List Value)(ys:List α)(n:Nat)(v:Value)(m:Nat)(hv:v.cells=z.toArray)(hm:z.length=m)(h0:0<m):(madeCells v.cells (n*m)).toList=flatTo f z ys 0 n:=by
  subst hm
  rw[hv]
  unfold flatTo
  rw[List.take_zero,List.flatMap_nil,List.nil_append,Nat.sub_zero]
  apply List.ext_getElem?
  intro i
  have hl:(List.replicate n z).flatten=(List.replicate n z).flatMap id:=by simp[List.flatMap_id]
  by_cases hi:i<n*z.length
  . have hq:i / z.length<n:=(Nat.div_lt_iff_lt_mul h0).2 hi
    have hr:=Nat.mod_lt i h0
    have e:i=i / z.length*z.length+i % z.length:=by rw[Nat.mul_comm];exact(Nat.div_add_mod i z.length).symm
    have hx:(List.replicate n z).flatten[i]?=z[i % z.length]?:=by
      conv=>lhs;rw[e]
      clear e
      generalize i / z.length=q at hq
      generalize i % z.length=r at hr
      clear hi hl
      induction n generalizing q with
      |zero=>omega
      | succ n ih=>
        rw[List.replicate_succ,List.flatten_cons]
        cases q with
        |zero=>rw[Nat.zero_mul,Nat.zero_add,List.getElem?_append_left hr]
        | succ q=>
          rw[List.getElem?_append_right (by rw[Nat.add_mul];omega),<-ih q (by omega)]
          congr 1
          rw[Nat.add_mul]
          omega
    rw[hx]
    have hi':i<(madeCells z.toArray (n*z.length)).toList.length:=by simp[madeCells];exact hi
    rw[List.getElem?_eq_getElem hi',List.getElem?_eq_getElem hr]
    simp[madeCells]
    rw[List.getElem?_eq_getElem hr]
    rfl
  . have h1:(madeCells z.toArray (n*z.length)).toList.length<=i:=by simp[madeCells];omega
    have h2:(List.replicate n z).flatten.length<=i:=by
      rw[List.length_flatten]
      simp
      omega
    rw[List.getElem?_eq_none h1,List.getElem?_eq_none h2]
theorem flatTo_parts{α:Type}(f:α->List Value)(z:List Value)(ys:List α)(k n:Nat)(hk:k<n):flatTo f z ys k n=(ys.take k).flatMap f++(z++(List.replicate (n-(k+1)) z).flatten):=by
  unfold flatTo
  have e:n-k=(n-(k+1))+1:=by omega
  rw[e,List.replicate_succ,List.flatten_cons]
theorem flatTo_next{α:Type}(f:α->List Value)(z:List Value)(ys:List α)(k n:Nat)(y:α)(hy:ys[k]?=some y):flatTo f z ys (k+1) n=(ys.take k).flatMap f++(f y++(List.replicate (n-(k+1)) z).flatten):=by
  unfold flatTo
  obtain⟨hlt,rfl⟩:=List.getElem?_eq_some_iff.1 hy
  rw[List.take_succ_eq_append_getElem hlt,List.flatMap_append,List.append_assoc]
  simp
theorem set1(A R:List Value)(z0 c0:Value)(i:Nat)(h:A.length=i):(A++([z0]++R)).set i c0=A++([c0]++R):=by
  subst h
  simp
theorem set2(A R:List Value)(z0 z1 c0 c1:Value)(i:Nat)(h:A.length=i):((A++([z0,z1]++R)).set i c0).set (i+1) c1=A++([c0,c1]++R):=by
  subst h
  simp[List.set_append_right]
theorem set4(A R:List Value)(z0 z1 z2 z3 c0 c1 c2 c3:Value)(i:Nat)(h:A.length=i):((((A++([z0,z1,z2,z3]++R)).set i c0).set (i+1) c1).set (i+2) c2).set (i+3) c3=A++([c0,c1,c2,c3]++R):=by
  subst h
  simp[List.set_append_right]
theorem Rd.elem{α:Type}{f:α->List Value}{m:Nat}{w:World}{ys:List α}{g o:Nat}(hf:∀y,(f y).length=m)(h:∀j u,(ys.flatMap f)[j]?=some u->w.cell? ⟨g,o+j,none⟩=some u)(k:Nat)(y:α)(hy:ys[k]?=some y)(j:Nat)(u:Value)(hj:(f y)[j]?=some u):w.cell? ⟨g,o+k*m+j,none⟩=some u:=by
  have hjm:j<m:=by rw[<-hf y];exact(List.getElem?_eq_some_iff.1 hj).1
  rw[Nat.add_assoc]
  exact h _ u ((flat_at f m hf ys k j y hy hjm).trans hj)
end Go.Proofs.YtdfmdgbolmbffaaGreat
namespace Go.Proofs.YtdfmdgbolmbffaaGreat
open Go.ChangeShapes Go.WideShapes Go.ChangeAt Go.RowKit
set_option linter.unusedVariables false
structure MI where
  op:Int
  a:Int
  b:Int
  c:Int
structure MC where
  type:Int
  word:Int
structure MT where
  func:Int
  head:Int
  counter:Int
  init:Int
def MI.cells(x:MI):List Value:=[.int .i64 x.op,.int .i64 x.a,.int .i64 x.b,.int .i64 x.c]
def MC.cells(x:MC):List Value:=[.int .i64 x.type,.int .u32 x.word]
def MT.cells(x:MT):List Value:=[.int .i64 x.func,.int .i64 x.head,.int .i64 x.counter,.int .u32 x.init]
theorem MI.cells_length(x:MI):x.cells.length=4:=rfl
theorem MC.cells_length(x:MC):x.cells.length=2:=rfl
theorem MT.cells_length(x:MT):x.cells.length=4:=rfl
def intCell(z:Int):List Value:=[.int .i64 z]
theorem intCell_length(z:Int):(intCell z).length=1:=rfl
theorem info64:(Tryz.prog.info? 2).map (fun i=>(i.zero,i.size,i.bytes))=some (some (.int .i64 0),1,8):=by kernel_rfl
theorem infoI:(Tryz.prog.info? 73).map (fun i=>(i.zero,i.size,i.bytes))=some (some (.agg #[.int .i64 0,.int .i64 0,.int .i64 0,.int .i64 0]),4,32):=by kernel_rfl
theorem infoC:(Tryz.prog.info? 128).map (fun i=>(i.zero,i.size,i.bytes))=some (some (.agg #[.int .i64 0,.int .u32 0]),2,16):=by kernel_rfl
theorem infoT:(Tryz.prog.info? 100).map (fun i=>(i.zero,i.size,i.bytes))=some (some (.agg #[.int .i64 0,.int .i64 0,.int .i64 0,.int .u32 0]),4,32):=by kernel_rfl
set_option maxHeartbeats 1000000 in
theorem toInstr_any(x:MI)(w:World):
    Calls Tryz.prog 130 #[.agg #[.int .i64 x.op,.int .i64 x.a,.int .i64 x.b,.int .i64 x.c]] w fun e w'=>e=.returned (.agg #[.int .i64 x.op,.int .i64 x.a,.int .i64 x.b,.int .i64 x.c])/\Below w.heap.size w w':=by
  go_enter Tryz.func130,Tryz.ntmps130
  go_wp2
  exact bodyPost_ret (v:=.agg #[.int .i64 x.op,.int .i64 x.a,.int .i64 x.b,.int .i64 x.c]) (by simp[results,Tryz.results130,go_sem]) rfl ⟨rfl,(((Below.refl _ _).alloc (Nat.le_refl _) _).alloc (by simp) _).alloc (by simp;omega) _⟩
set_option maxHeartbeats 1000000 in
theorem toConst_any(x:MC)(w:World):
    Calls Tryz.prog 73 #[.agg #[.int .i64 x.type,.int .u32 x.word]] w fun e w'=>e=.returned (.agg #[.int .i64 x.type,.int .u32 x.word])/\Below w.heap.size w w':=by
  go_enter Tryz.func73,Tryz.ntmps73
  go_wp2
  exact bodyPost_ret (v:=.agg #[.int .i64 x.type,.int .u32 x.word]) (by simp[results,Tryz.results73,go_sem]) rfl ⟨rfl,(((Below.refl _ _).alloc (Nat.le_refl _) _).alloc (by simp) _).alloc (by simp;omega) _⟩
set_option maxHeartbeats 1000000 in
theorem toCert_any(x:MT)(w:World):
    Calls Tryz.prog 75 #[.agg #[.int .i64 x.func,.int .i64 x.head,.int .i64 x.counter,.int .u32 x.init]] w fun e w'=>e=.returned (.agg #[.int .i64 x.func,.int .i64 x.head,.int .i64 x.counter,.int .u32 x.init])/\Below w.heap.size w w':=by
  go_enter Tryz.func75,Tryz.ntmps75
  go_wp2
  exact bodyPost_ret (v:=.agg #[.int .i64 x.func,.int .i64 x.head,.int .i64 x.counter,.int .u32 x.init]) (by simp[results,Tryz.results75,go_sem]) rfl ⟨rfl,(((Below.refl _ _).alloc (Nat.le_refl _) _).alloc (by simp) _).alloc (by simp;omega) _⟩
set_option maxHeartbeats 1000000 in
set_option maxRecDepth 100000 in
theorem toInt64S_any(s:Value)(L:Nat)(ys:List Int)(w:World)(hL:L<=1048576)(h:Rd w 1 s L (ys.flatMap intCell))(hlen:ys.length=L):
    Calls Tryz.prog 49 #[s] w fun e w'=>e=.returned (.slice (some ⟨w.heap.size,0,none⟩) L L)/\w'.ownsRow w.heap.size 2 1 (.slice (some ⟨w.heap.size,0,none⟩) L L) L (ys.flatMap intCell)/\Below w.heap.size w w':=by
  obtain⟨i0,hi,hz0,hz1,hz2⟩:=info_parts info64
  have H1:Hid (Rd w 1 s L (ys.flatMap intCell)/\ys.length=L):=⟨h,hlen⟩
  obtain⟨a1,c1,rfl⟩:=h.is_slice
  clear h hlen
  go_enter Tryz.func49,Tryz.ntmps49
  go_wp2_with (at_make;refine wpList_make_full _ rfl _ _ 48 rfl w.heap.size 2 i0 (.int .i64 0) 1 Tryz.underlying48 hi hz0 hz1 .i64 .i64 _ _ L rfl rfl rfl rfl (by rw[hz2];omega) (by unfold maxLen;omega) (Nat.le_refl _) ?_;intro w1 hown hgrow)
  rw[flatTo_zero intCell [.int .i64 0] ys L (.int .i64 0) 1 rfl rfl (by omega)]at hown
  have hB:Below w.heap.size w w1:=(Below.refl _ _).grown hgrow (Nat.le_refl _) (fun k hk=>by cases hk)
  clear hgrow
  go_loopw [4] (fun i wr=>∃k:Nat,k<=L/\i=.int .i64 k/\wr.ownsRow w.heap.size 2 1 (.slice (some ⟨w.heap.size,0,none⟩) L L) L (flatTo intCell [.int .i64 0] ys k L)/\Below w.heap.size w wr) (fun i _=>L-(intOf i).toNat)
  case atStart=>exact⟨0,by omega,rfl,hown,hB⟩
  case round=>
    clear hown hB
    obtain⟨k,hk,rfl,hown,hbel⟩:=hrel
    by_cases hlt:k<L
    . obtain⟨x,hx⟩:∃x,ys[k]?=some x:=⟨_,List.getElem?_eq_getElem (by rw[H1.out.2];exact hlt)⟩
      have hnext:=flatTo_next intCell [.int .i64 0] ys k L x hx
      rw[flatTo_parts intCell [.int .i64 0] ys k L hlt]at hown
      have hA:((ys.take k).flatMap intCell).length=k*1:=by rw[flat_length intCell 1 intCell_length,List.length_take,H1.out.2,Nat.min_eq_left hk]
      generalize (ys.take k).flatMap intCell=A at hown hnext hA
      generalize (List.replicate (L-(k+1)) [Value.int .i64 0]).flatten=R at hown hnext
      rcases H1.out.1.2 with⟨e0,_⟩|⟨g,o,c,e1,hc1⟩
      . omega
      . simp only[Value.slice.injEq,true_and]at e1
        obtain⟨rfl,rfl⟩:=e1
        have i0:=Rd.elem intCell_length hc1 k x hx 0 _ rfl
        rw[<-hbel.cell (block_lt_of_cell i0)]at i0
        rw[Nat.mul_one,Nat.add_zero]at i0
        have f0:=hown.frozenAt k
        have d0:=hown.cellAt k (by omega)
        rw[Nat.mul_one]at hA
        rw[List.getElem?_append_right (by omega),hA,Nat.sub_self]at d0
        have HO:Hid (wr.ownsRow w.heap.size 2 1 (.slice (some ⟨w.heap.size,0,none⟩) L L) L (A++([.int .i64 0]++R))/\A.length=k/\flatTo intCell [.int .i64 0] ys (k+1) L=A++(intCell x++R)):=⟨hown,hA,hnext⟩
        clear hown hA hnext hc1 hx
        simp only[List.cons_append,List.getElem?_cons_zero]at d0
        go_wp2
        go_roundw
        case rel=>
          refine⟨k+1,by omega,by go_num,?_,hbel.setCell (Nat.le_refl _) _⟩
          have hst:=(HO.out.1.stored k (.int .i64 x)).1
          rw[set1 A R _ _ k HO.out.2.1]at hst
          rw[HO.out.2.2]
          exact hst
        case measure=>simp[intOf];omega
    . have hkn:k=L:=by omega
      subst hkn
      rw[flatTo_all _ _ _ _ H1.out.2]at hown
      have HO:Hid (wr.ownsRow w.heap.size 2 1 (.slice (some ⟨w.heap.size,0,none⟩) k k) k (ys.flatMap intCell)):=hown
      clear hown
      go_wp2
      go_ret
      exact⟨rfl,HO.out,hbel⟩
end Go.Proofs.YtdfmdgbolmbffaaGreat
namespace Go.Proofs.YtdfmdgbolmbffaaGreat
open Go.ChangeShapes Go.WideShapes Go.ChangeAt Go.RowKit
set_option linter.unusedVariables false
set_option maxHeartbeats 2000000 in
set_option maxRecDepth 100000 in
theorem toInstrS_any(s:Value)(L:Nat)(ys:List MI)(w:World)(hL:L<=1048576)(h:Rd w 4 s L (ys.flatMap MI.cells))(hlen:ys.length=L):
    Calls Tryz.prog 104 #[s] w fun e w'=>e=.returned (.slice (some ⟨w.heap.size,0,none⟩) L L)/\w'.ownsRow w.heap.size 73 4 (.slice (some ⟨w.heap.size,0,none⟩) L L) L (ys.flatMap MI.cells)/\Below w.heap.size w w':=by
  obtain⟨i0,hi,hz0,hz1,hz2⟩:=info_parts infoI
  have H1:Hid (Rd w 4 s L (ys.flatMap MI.cells)/\ys.length=L):=⟨h,hlen⟩
  obtain⟨a1,c1,rfl⟩:=h.is_slice
  clear h hlen
  go_enter Tryz.func104,Tryz.ntmps104
  go_wp2_with (at_make;refine wpList_make_full _ rfl _ _ 61 rfl w.heap.size 73 i0 (.agg #[.int .i64 0,.int .i64 0,.int .i64 0,.int .i64 0]) 4 Tryz.underlying61 hi hz0 hz1 .i64 .i64 _ _ L rfl rfl rfl rfl (by rw[hz2];omega) (by unfold maxLen;omega) (Nat.le_refl _) ?_;intro w1 hown hgrow)
  rw[flatTo_zero MI.cells [.int .i64 0,.int .i64 0,.int .i64 0,.int .i64 0] ys L (.agg #[.int .i64 0,.int .i64 0,.int .i64 0,.int .i64 0]) 4 rfl rfl (by omega)]at hown
  have hB:Below w.heap.size w w1:=(Below.refl _ _).grown hgrow (Nat.le_refl _) (fun k hk=>by cases hk)
  clear hgrow
  go_loopw [4] (fun i wr=>∃k:Nat,k<=L/\i=.int .i64 k/\wr.ownsRow w.heap.size 73 4 (.slice (some ⟨w.heap.size,0,none⟩) L L) L (flatTo MI.cells [.int .i64 0,.int .i64 0,.int .i64 0,.int .i64 0] ys k L)/\Below w.heap.size w wr) (fun i _=>L-(intOf i).toNat)
  case atStart=>exact⟨0,by omega,rfl,hown,hB⟩
  case round=>
    clear hown hB
    obtain⟨k,hk,rfl,hown,hbel⟩:=hrel
    by_cases hlt:k<L
    . obtain⟨x,hx⟩:∃x,ys[k]?=some x:=⟨_,List.getElem?_eq_getElem (by rw[H1.out.2];exact hlt)⟩
      have hnext:=flatTo_next MI.cells [.int .i64 0,.int .i64 0,.int .i64 0,.int .i64 0] ys k L x hx
      rw[flatTo_parts MI.cells [.int .i64 0,.int .i64 0,.int .i64 0,.int .i64 0] ys k L hlt]at hown
      have hA:((ys.take k).flatMap MI.cells).length=k*4:=by rw[flat_length MI.cells 4 MI.cells_length,List.length_take,H1.out.2,Nat.min_eq_left hk]
      generalize (ys.take k).flatMap MI.cells=A at hown hnext hA
      generalize (List.replicate (L-(k+1)) ([.int .i64 0,.int .i64 0,.int .i64 0,.int .i64 0]:List Value)).flatten=R at hown hnext
      rcases H1.out.1.2 with⟨e0,_⟩|⟨g,o,c,e1,hc1⟩
      . omega
      . simp only[Value.slice.injEq,true_and]at e1
        obtain⟨rfl,rfl⟩:=e1
        have i0:=Rd.elem MI.cells_length hc1 k x hx 0 _ rfl
        have i1:=Rd.elem MI.cells_length hc1 k x hx 1 _ rfl
        have i2:=Rd.elem MI.cells_length hc1 k x hx 2 _ rfl
        have i3:=Rd.elem MI.cells_length hc1 k x hx 3 _ rfl
        rw[<-hbel.cell (block_lt_of_cell i0)]at i0
        rw[<-hbel.cell (block_lt_of_cell i1)]at i1
        rw[<-hbel.cell (block_lt_of_cell i2)]at i2
        rw[<-hbel.cell (block_lt_of_cell i3)]at i3
        rw[Nat.add_zero]at i0
        have HO:Hid (wr.ownsRow w.heap.size 73 4 (.slice (some ⟨w.heap.size,0,none⟩) L L) L (A++([.int .i64 0,.int .i64 0,.int .i64 0,.int .i64 0]++R))/\A.length=k*4/\flatTo MI.cells [.int .i64 0,.int .i64 0,.int .i64 0,.int .i64 0] ys (k+1) L=A++(MI.cells x++R)):=⟨hown,hA,hnext⟩
        clear hown hA hnext hc1 hx
        go_wp2_with fail
        refine(toInstr_any x wr).mono ?_
        rintro e u ⟨rfl,hbu⟩
        have hown:=own_keep HO.out.1 hbu (Nat.le_refl _)
        have hA:=HO.out.2.1
        have f0:=hown.frozenAt (k*4)
        have f1:=hown.frozenAt (k*4+1)
        have f2:=hown.frozenAt (k*4+2)
        have f3:=hown.frozenAt (k*4+3)
        have d0:=hown.cellAt (k*4) (by omega)
        have d1:=hown.cellAt (k*4+1) (by omega)
        have d2:=hown.cellAt (k*4+2) (by omega)
        have d3:=hown.cellAt (k*4+3) (by omega)
        rw[List.getElem?_append_right (by omega),hA]at d0 d1 d2 d3
        rw[Nat.sub_self]at d0
        rw[Nat.add_sub_cancel_left]at d1 d2 d3
        simp only[List.cons_append,List.getElem?_cons_zero,List.getElem?_cons_succ]at d0 d1 d2 d3
        have HB:Hid (Below w.heap.size w u/\u.ownsRow w.heap.size 73 4 (.slice (some ⟨w.heap.size,0,none⟩) L L) L (A++([.int .i64 0,.int .i64 0,.int .i64 0,.int .i64 0]++R))):=⟨hbel.trans (hbu.mono hbel.size),hown⟩
        clear hown hA hbu hbel i0 i1 i2 i3
        go_wp2
        go_roundw
        case rel=>
          refine⟨k+1,by omega,by go_num,?_,(((HB.out.1.setCell (Nat.le_refl _) _).setCell (Nat.le_refl _) _).setCell (Nat.le_refl _) _).setCell (Nat.le_refl _) _⟩
          have s0:=(HB.out.2.stored (k*4) (.int .i64 x.op)).1
          have s1:=(s0.stored (k*4+1) (.int .i64 x.a)).1
          have s2:=(s1.stored (k*4+2) (.int .i64 x.b)).1
          have s3:=(s2.stored (k*4+3) (.int .i64 x.c)).1
          rw[set4 A R _ _ _ _ _ _ _ _ (k*4) HO.out.2.1]at s3
          rw[HO.out.2.2]
          exact s3
        case measure=>simp[intOf];omega
    . have hkn:k=L:=by omega
      subst hkn
      rw[flatTo_all _ _ _ _ H1.out.2]at hown
      have HO:Hid (wr.ownsRow w.heap.size 73 4 (.slice (some ⟨w.heap.size,0,none⟩) k k) k (ys.flatMap MI.cells)):=hown
      clear hown
      go_wp2
      go_ret
      exact⟨rfl,HO.out,hbel⟩
set_option maxHeartbeats 2000000 in
set_option maxRecDepth 100000 in
theorem toCertS_any(s:Value)(L:Nat)(ys:List MT)(w:World)(hL:L<=1048576)(h:Rd w 4 s L (ys.flatMap MT.cells))(hlen:ys.length=L):
    Calls Tryz.prog 35 #[s] w fun e w'=>e=.returned (.slice (some ⟨w.heap.size,0,none⟩) L L)/\w'.ownsRow w.heap.size 100 4 (.slice (some ⟨w.heap.size,0,none⟩) L L) L (ys.flatMap MT.cells)/\Below w.heap.size w w':=by
  obtain⟨i0,hi,hz0,hz1,hz2⟩:=info_parts infoT
  have H1:Hid (Rd w 4 s L (ys.flatMap MT.cells)/\ys.length=L):=⟨h,hlen⟩
  obtain⟨a1,c1,rfl⟩:=h.is_slice
  clear h hlen
  go_enter Tryz.func35,Tryz.ntmps35
  go_wp2_with (at_make;refine wpList_make_full _ rfl _ _ 34 rfl w.heap.size 100 i0 (.agg #[.int .i64 0,.int .i64 0,.int .i64 0,.int .u32 0]) 4 Tryz.underlying34 hi hz0 hz1 .i64 .i64 _ _ L rfl rfl rfl rfl (by rw[hz2];omega) (by unfold maxLen;omega) (Nat.le_refl _) ?_;intro w1 hown hgrow)
  rw[flatTo_zero MT.cells [.int .i64 0,.int .i64 0,.int .i64 0,.int .u32 0] ys L (.agg #[.int .i64 0,.int .i64 0,.int .i64 0,.int .u32 0]) 4 rfl rfl (by omega)]at hown
  have hB:Below w.heap.size w w1:=(Below.refl _ _).grown hgrow (Nat.le_refl _) (fun k hk=>by cases hk)
  clear hgrow
  go_loopw [4] (fun i wr=>∃k:Nat,k<=L/\i=.int .i64 k/\wr.ownsRow w.heap.size 100 4 (.slice (some ⟨w.heap.size,0,none⟩) L L) L (flatTo MT.cells [.int .i64 0,.int .i64 0,.int .i64 0,.int .u32 0] ys k L)/\Below w.heap.size w wr) (fun i _=>L-(intOf i).toNat)
  case atStart=>exact⟨0,by omega,rfl,hown,hB⟩
  case round=>
    clear hown hB
    obtain⟨k,hk,rfl,hown,hbel⟩:=hrel
    by_cases hlt:k<L
    . obtain⟨x,hx⟩:∃x,ys[k]?=some x:=⟨_,List.getElem?_eq_getElem (by rw[H1.out.2];exact hlt)⟩
      have hnext:=flatTo_next MT.cells [.int .i64 0,.int .i64 0,.int .i64 0,.int .u32 0] ys k L x hx
      rw[flatTo_parts MT.cells [.int .i64 0,.int .i64 0,.int .i64 0,.int .u32 0] ys k L hlt]at hown
      have hA:((ys.take k).flatMap MT.cells).length=k*4:=by rw[flat_length MT.cells 4 MT.cells_length,List.length_take,H1.out.2,Nat.min_eq_left hk]
      generalize (ys.take k).flatMap MT.cells=A at hown hnext hA
      generalize (List.replicate (L-(k+1)) ([.int .i64 0,.int .i64 0,.int .i64 0,.int .u32 0]:List Value)).flatten=R at hown hnext
      rcases H1.out.1.2 with⟨e0,_⟩|⟨g,o,c,e1,hc1⟩
      . omega
      . simp only[Value.slice.injEq,true_and]at e1
        obtain⟨rfl,rfl⟩:=e1
        have i0:=Rd.elem MT.cells_length hc1 k x hx 0 _ rfl
        have i1:=Rd.elem MT.cells_length hc1 k x hx 1 _ rfl
        have i2:=Rd.elem MT.cells_length hc1 k x hx 2 _ rfl
        have i3:=Rd.elem MT.cells_length hc1 k x hx 3 _ rfl
        rw[<-hbel.cell (block_lt_of_cell i0)]at i0
        rw[<-hbel.cell (block_lt_of_cell i1)]at i1
        rw[<-hbel.cell (block_lt_of_cell i2)]at i2
        rw[<-hbel.cell (block_lt_of_cell i3)]at i3
        rw[Nat.add_zero]at i0
        have HO:Hid (wr.ownsRow w.heap.size 100 4 (.slice (some ⟨w.heap.size,0,none⟩) L L) L (A++([.int .i64 0,.int .i64 0,.int .i64 0,.int .u32 0]++R))/\A.length=k*4/\flatTo MT.cells [.int .i64 0,.int .i64 0,.int .i64 0,.int .u32 0] ys (k+1) L=A++(MT.cells x++R)):=⟨hown,hA,hnext⟩
        clear hown hA hnext hc1 hx
        go_wp2_with fail
        refine(toCert_any x wr).mono ?_
        rintro e u ⟨rfl,hbu⟩
        have hown:=own_keep HO.out.1 hbu (Nat.le_refl _)
        have hA:=HO.out.2.1
        have f0:=hown.frozenAt (k*4)
        have f1:=hown.frozenAt (k*4+1)
        have f2:=hown.frozenAt (k*4+2)
        have f3:=hown.frozenAt (k*4+3)
        have d0:=hown.cellAt (k*4) (by omega)
        have d1:=hown.cellAt (k*4+1) (by omega)
        have d2:=hown.cellAt (k*4+2) (by omega)
        have d3:=hown.cellAt (k*4+3) (by omega)
        rw[List.getElem?_append_right (by omega),hA]at d0 d1 d2 d3
        rw[Nat.sub_self]at d0
        rw[Nat.add_sub_cancel_left]at d1 d2 d3
        simp only[List.cons_append,List.getElem?_cons_zero,List.getElem?_cons_succ]at d0 d1 d2 d3
        have HB:Hid (Below w.heap.size w u/\u.ownsRow w.heap.size 100 4 (.slice (some ⟨w.heap.size,0,none⟩) L L) L (A++([.int .i64 0,.int .i64 0,.int .i64 0,.int .u32 0]++R))):=⟨hbel.trans (hbu.mono hbel.size),hown⟩
        clear hown hA hbu hbel i0 i1 i2 i3
        go_wp2
        go_roundw
        case rel=>
          refine⟨k+1,by omega,by go_num,?_,(((HB.out.1.setCell (Nat.le_refl _) _).setCell (Nat.le_refl _) _).setCell (Nat.le_refl _) _).setCell (Nat.le_refl _) _⟩
          have s0:=(HB.out.2.stored (k*4) (.int .i64 x.func)).1
          have s1:=(s0.stored (k*4+1) (.int .i64 x.head)).1
          have s2:=(s1.stored (k*4+2) (.int .i64 x.counter)).1
          have s3:=(s2.stored (k*4+3) (.int .u32 x.init)).1
          rw[set4 A R _ _ _ _ _ _ _ _ (k*4) HO.out.2.1]at s3
          rw[HO.out.2.2]
          exact s3
        case measure=>simp[intOf];omega
    . have hkn:k=L:=by omega
      subst hkn
      rw[flatTo_all _ _ _ _ H1.out.2]at hown
      have HO:Hid (wr.ownsRow w.heap.size 100 4 (.slice (some ⟨w.heap.size,0,none⟩) k k) k (ys.flatMap MT.cells)):=hown
      clear hown
      go_wp2
      go_ret
      exact⟨rfl,HO.out,hbel⟩
set_option maxHeartbeats 2000000 in
set_option maxRecDepth 100000 in
theorem toConstS_any(s:Value)(L:Nat)(ys:List MC)(w:World)(hL:L<=1048576)(h:Rd w 2 s L (ys.flatMap MC.cells))(hlen:ys.length=L):
    Calls Tryz.prog 33 #[s] w fun e w'=>e=.returned (.slice (some ⟨w.heap.size,0,none⟩) L L)/\w'.ownsRow w.heap.size 128 2 (.slice (some ⟨w.heap.size,0,none⟩) L L) L (ys.flatMap MC.cells)/\Below w.heap.size w w':=by
  obtain⟨i0,hi,hz0,hz1,hz2⟩:=info_parts infoC
  have H1:Hid (Rd w 2 s L (ys.flatMap MC.cells)/\ys.length=L):=⟨h,hlen⟩
  obtain⟨a1,c1,rfl⟩:=h.is_slice
  clear h hlen
  go_enter Tryz.func33,Tryz.ntmps33
  go_wp2_with (at_make;refine wpList_make_full _ rfl _ _ 32 rfl w.heap.size 128 i0 (.agg #[.int .i64 0,.int .u32 0]) 2 Tryz.underlying32 hi hz0 hz1 .i64 .i64 _ _ L rfl rfl rfl rfl (by rw[hz2];omega) (by unfold maxLen;omega) (Nat.le_refl _) ?_;intro w1 hown hgrow)
  rw[flatTo_zero MC.cells [.int .i64 0,.int .u32 0] ys L (.agg #[.int .i64 0,.int .u32 0]) 2 rfl rfl (by omega)]at hown
  have hB:Below w.heap.size w w1:=(Below.refl _ _).grown hgrow (Nat.le_refl _) (fun k hk=>by cases hk)
  clear hgrow
  go_loopw [4] (fun i wr=>∃k:Nat,k<=L/\i=.int .i64 k/\wr.ownsRow w.heap.size 128 2 (.slice (some ⟨w.heap.size,0,none⟩) L L) L (flatTo MC.cells [.int .i64 0,.int .u32 0] ys k L)/\Below w.heap.size w wr) (fun i _=>L-(intOf i).toNat)
  case atStart=>exact⟨0,by omega,rfl,hown,hB⟩
  case round=>
    clear hown hB
    obtain⟨k,hk,rfl,hown,hbel⟩:=hrel
    by_cases hlt:k<L
    . obtain⟨x,hx⟩:∃x,ys[k]?=some x:=⟨_,List.getElem?_eq_getElem (by rw[H1.out.2];exact hlt)⟩
      have hnext:=flatTo_next MC.cells [.int .i64 0,.int .u32 0] ys k L x hx
      rw[flatTo_parts MC.cells [.int .i64 0,.int .u32 0] ys k L hlt]at hown
      have hA:((ys.take k).flatMap MC.cells).length=k*2:=by rw[flat_length MC.cells 2 MC.cells_length,List.length_take,H1.out.2,Nat.min_eq_left hk]
      generalize (ys.take k).flatMap MC.cells=A at hown hnext hA
      generalize (List.replicate (L-(k+1)) [Value.int .i64 0,Value.int .u32 0]).flatten=R at hown hnext
      rcases H1.out.1.2 with⟨e0,_⟩|⟨g,o,c,e1,hc1⟩
      . omega
      . simp only[Value.slice.injEq,true_and]at e1
        obtain⟨rfl,rfl⟩:=e1
        have i0:=Rd.elem MC.cells_length hc1 k x hx 0 _ rfl
        have i1:=Rd.elem MC.cells_length hc1 k x hx 1 _ rfl
        rw[<-hbel.cell (block_lt_of_cell i0)]at i0
        rw[<-hbel.cell (block_lt_of_cell i1)]at i1
        rw[Nat.add_zero]at i0
        have HO:Hid (wr.ownsRow w.heap.size 128 2 (.slice (some ⟨w.heap.size,0,none⟩) L L) L (A++([.int .i64 0,.int .u32 0]++R))/\A.length=k*2/\flatTo MC.cells [.int .i64 0,.int .u32 0] ys (k+1) L=A++(MC.cells x++R)):=⟨hown,hA,hnext⟩
        clear hown hA hnext hc1 hx
        go_wp2_with fail
        refine(toConst_any x wr).mono ?_
        rintro e u ⟨rfl,hbu⟩
        have hown:=own_keep HO.out.1 hbu (Nat.le_refl _)
        have hA:=HO.out.2.1
        have f0:=hown.frozenAt (k*2)
        have f1:=hown.frozenAt (k*2+1)
        have d0:=hown.cellAt (k*2) (by omega)
        have d1:=hown.cellAt (k*2+1) (by omega)
        rw[List.getElem?_append_right (by omega),hA]at d0 d1
        rw[Nat.sub_self]at d0
        rw[Nat.add_sub_cancel_left]at d1
        simp only[List.cons_append,List.getElem?_cons_zero,List.getElem?_cons_succ]at d0 d1
        have HB:Hid (Below w.heap.size w u/\u.ownsRow w.heap.size 128 2 (.slice (some ⟨w.heap.size,0,none⟩) L L) L (A++([.int .i64 0,.int .u32 0]++R))):=⟨hbel.trans (hbu.mono hbel.size),hown⟩
        clear hown hA hbu hbel i0 i1
        go_wp2
        go_roundw
        case rel=>
          refine⟨k+1,by omega,by go_num,?_,(HB.out.1.setCell (Nat.le_refl _) _).setCell (Nat.le_refl _) _⟩
          have s0:=(HB.out.2.stored (k*2) (.int .i64 x.type)).1
          have s1:=(s0.stored (k*2+1) (.int .u32 x.word)).1
          rw[set2 A R _ _ _ _ (k*2) HO.out.2.1]at s1
          rw[HO.out.2.2]
          exact s1
        case measure=>simp[intOf];omega
    . have hkn:k=L:=by omega
      subst hkn
      rw[flatTo_all _ _ _ _ H1.out.2]at hown
      have HO:Hid (wr.ownsRow w.heap.size 128 2 (.slice (some ⟨w.heap.size,0,none⟩) k k) k (ys.flatMap MC.cells)):=hown
      clear hown
      go_wp2
      go_ret
      exact⟨rfl,HO.out,hbel⟩
end Go.Proofs.YtdfmdgbolmbffaaGreat
namespace Go.Proofs.YtdfmdgbolmbffaaGreat
open Go.ChangeShapes Go.WideShapes Go.ChangeAt Go.RowKit
set_option linter.unusedVariables false
structure MF where
  params:List Int
  result:Int
  locals:List Int
  code:List MI
structure VF where
  p:Value
  l:Value
  c:Value
def RdF(w:World)(v:VF)(f:MF):Prop:=Rd w 1 v.p f.params.length (f.params.flatMap intCell)/\Rd w 1 v.l f.locals.length (f.locals.flatMap intCell)/\Rd w 4 v.c f.code.length (f.code.flatMap MI.cells)
def OwnF(w:World)(base:Nat)(v:VF)(f:MF):Prop:=w.ownsRow base 2 1 v.p f.params.length (f.params.flatMap intCell)/\w.ownsRow base 2 1 v.l f.locals.length (f.locals.flatMap intCell)/\w.ownsRow base 73 4 v.c f.code.length (f.code.flatMap MI.cells)
def MF.small(f:MF):Prop:=f.params.length<=1048576/\f.locals.length<=1048576/\f.code.length<=1048576
theorem OwnF.rd{w:World}{base:Nat}{v:VF}{f:MF}(h:OwnF w base v f):RdF w v f:=⟨Rd.of_own h.1,Rd.of_own h.2.1,Rd.of_own h.2.2⟩
theorem RdF.keep{w w':World}{v:VF}{f:MF}(h:RdF w v f){B:Nat}(hb:Below B w w')(hB:w.heap.size<=B):RdF w' v f:=⟨h.1.keep hb hB,h.2.1.keep hb hB,h.2.2.keep hb hB⟩
theorem OwnF.keep{w w':World}{base:Nat}{v:VF}{f:MF}(h:OwnF w base v f){B:Nat}(hb:Below B w w')(hB:w.heap.size<=B):OwnF w' base v f:=⟨own_keep h.1 hb hB,own_keep h.2.1 hb hB,own_keep h.2.2 hb hB⟩
theorem own_base{w:World}{base base':Nat}{e:TypeId}{s:Value}{k n:Nat}{xs:List Value}(h:w.ownsRow base e k s n xs)(hb:base'<=base):w.ownsRow base' e k s n xs:=by
  refine⟨h.1,?_⟩
  rcases h.2 with h|⟨g,cap,cur,e1,hb1,hg,hr⟩
  . exact .inl h
  . exact .inr ⟨g,cap,cur,e1,Nat.le_trans hb hb1,hg,hr⟩
theorem row4{w:World}{base:Nat}{e:TypeId}{g:Nat}{a b c d:Value}(h:w.ownsRow base e 4 (.slice (some ⟨g,0,none⟩) 1 1) 1 [a,b,c,d]):
    w.cell? ⟨g,0,none⟩=some a/\w.cell? ⟨g,1,none⟩=some b/\w.cell? ⟨g,2,none⟩=some c/\w.cell? ⟨g,3,none⟩=some d/\w.frozen? ⟨g,0,none⟩=false/\w.frozen? ⟨g,1,none⟩=false/\w.frozen? ⟨g,2,none⟩=false/\w.frozen? ⟨g,3,none⟩=false:=
  ⟨h.cellAt 0 (by omega),h.cellAt 1 (by omega),h.cellAt 2 (by omega),h.cellAt 3 (by omega),h.frozenAt 0,h.frozenAt 1,h.frozenAt 2,h.frozenAt 3⟩
structure Fr(w u:World)(tp tr:TypeId)(p r o:List Value):Prop where
  par:u.ownsRow w.heap.size tp 4 (.slice (some ⟨w.heap.size,0,none⟩) 1 1) 1 p
  res:u.ownsRow w.heap.size tr 4 (.slice (some ⟨w.heap.size+1,0,none⟩) 1 1) 1 r
  loc:u.ownsRow w.heap.size tr 4 (.slice (some ⟨w.heap.size+1+1,0,none⟩) 1 1) 1 o
  bel:Below w.heap.size w u
  siz:w.heap.size+3<=u.heap.size
theorem Fr.of(w:World)(tp tr:TypeId)(p r o:Array Value)(hp:p.size=4)(hr:r.size=4)(ho:o.size=4):
    Fr w (((w.alloc (.cells p tp)).alloc (.cells r tr)).alloc (.cells o tr)) tp tr p.toList r.toList o.toList:=by
  have b1:Below w.heap.size w (w.alloc (.cells p tp)):=(Below.refl _ _).alloc (Nat.le_refl _) _
  have c2:Below (w.alloc (.cells p tp)).heap.size (w.alloc (.cells p tp)) ((w.alloc (.cells p tp)).alloc (.cells r tr)):=(Below.refl _ _).alloc (Nat.le_refl _) _
  have c3:Below ((w.alloc (.cells p tp)).alloc (.cells r tr)).heap.size ((w.alloc (.cells p tp)).alloc (.cells r tr)) (((w.alloc (.cells p tp)).alloc (.cells r tr)).alloc (.cells o tr)):=(Below.refl _ _).alloc (Nat.le_refl _) _
  have r1:=World.ownsRow_lit (base:=w.heap.size) (e:=tp) (size:=4) w p 1 (Nat.le_refl _) (by unfold maxLen;omega) (by omega)
  have r2:=World.ownsRow_lit (base:=w.heap.size) (e:=tr) (size:=4) (w.alloc (.cells p tp)) r 1 (by simp) (by unfold maxLen;omega) (by omega)
  have r3:=World.ownsRow_lit (base:=w.heap.size) (e:=tr) (size:=4) ((w.alloc (.cells p tp)).alloc (.cells r tr)) o 1 (by simp<;>omega) (by unfold maxLen;omega) (by omega)
  refine⟨own_keep (own_keep r1 c2 (Nat.le_refl _)) c3 (Nat.le_refl _),?_,?_,(b1.trans (c2.mono (by simp))).trans (c3.mono (by simp<;>omega)),by simp<;>omega⟩
  . have:=own_keep r2 c3 (Nat.le_refl _)
    simpa using this
  . simpa using r3
theorem Fr.keep{w u u':World}{tp tr:TypeId}{p r o:List Value}(h:Fr w u tp tr p r o)(hb:Below u.heap.size u u'):Fr w u' tp tr p r o:=
  ⟨own_keep h.par hb (Nat.le_refl _),own_keep h.res hb (Nat.le_refl _),own_keep h.loc hb (Nat.le_refl _),h.bel.trans (hb.mono (by have:=h.siz;omega)),Nat.le_trans h.siz hb.size⟩
theorem Fr.set{w u:World}{tp tr:TypeId}{p r o:List Value}(h:Fr w u tp tr p r o)(j:Nat)(x:Value):Fr w (u.setCell ⟨w.heap.size+1+1,j,none⟩ x) tp tr p r (o.set j x):=
  ⟨ownsRow_setCell_other h.par (by simp[Value.ownBlock]<;>omega) x,ownsRow_setCell_other h.res (by simp[Value.ownBlock]) x,(h.loc.stored j x).1,h.bel.setCell (by simp<;>omega) x,by have:=h.siz;simpa using this⟩
theorem Fr.set'{w u:World}{tp tr:TypeId}{p r o:List Value}(h:Fr w u tp tr p r o)(j:Nat)(x:Value):Fr w (u.setCell ⟨w.heap.size+1,j,none⟩ x) tp tr p (r.set j x) o:=
  ⟨ownsRow_setCell_other h.par (by simp[Value.ownBlock]<;>omega) x,(h.res.stored j x).1,ownsRow_setCell_other h.loc (by simp[Value.ownBlock]) x,h.bel.setCell (by simp) x,by have:=h.siz;simpa using this⟩
theorem own_set{w u:World}{e:TypeId}{s:Value}{k n:Nat}{xs:List Value}(h:u.ownsRow (w.heap.size+3) e k s n xs)(g j:Nat)(hg:g<w.heap.size+3)(x:Value):(u.setCell ⟨g,j,none⟩ x).ownsRow (w.heap.size+3) e k s n xs:=ownsRow_setCell_below h hg x
theorem toInt64S_new(s:Value)(ys:List Int)(w:World)(hL:ys.length<=1048576)(h:Rd w 1 s ys.length (ys.flatMap intCell)):
    Calls Tryz.prog 49 #[s] w fun e w'=>∃a c,e=.returned (.slice a ys.length c)/\w'.ownsRow w.heap.size 2 1 (.slice a ys.length c) ys.length (ys.flatMap intCell)/\Below w.heap.size w w':=
  (toInt64S_any s ys.length ys w hL h rfl).mono fun e w' h=>⟨_,_,h.1,h.2.1,h.2.2⟩
theorem toInstrS_new(s:Value)(ys:List MI)(w:World)(hL:ys.length<=1048576)(h:Rd w 4 s ys.length (ys.flatMap MI.cells)):
    Calls Tryz.prog 104 #[s] w fun e w'=>∃a c,e=.returned (.slice a ys.length c)/\w'.ownsRow w.heap.size 73 4 (.slice a ys.length c) ys.length (ys.flatMap MI.cells)/\Below w.heap.size w w':=
  (toInstrS_any s ys.length ys w hL h rfl).mono fun e w' h=>⟨_,_,h.1,h.2.1,h.2.2⟩
theorem toConstS_new(s:Value)(ys:List MC)(w:World)(hL:ys.length<=1048576)(h:Rd w 2 s ys.length (ys.flatMap MC.cells)):
    Calls Tryz.prog 33 #[s] w fun e w'=>∃a c,e=.returned (.slice a ys.length c)/\w'.ownsRow w.heap.size 128 2 (.slice a ys.length c) ys.length (ys.flatMap MC.cells)/\Below w.heap.size w w':=
  (toConstS_any s ys.length ys w hL h rfl).mono fun e w' h=>⟨_,_,h.1,h.2.1,h.2.2⟩
theorem toCertS_new(s:Value)(ys:List MT)(w:World)(hL:ys.length<=1048576)(h:Rd w 4 s ys.length (ys.flatMap MT.cells)):
    Calls Tryz.prog 35 #[s] w fun e w'=>∃a c,e=.returned (.slice a ys.length c)/\w'.ownsRow w.heap.size 100 4 (.slice a ys.length c) ys.length (ys.flatMap MT.cells)/\Below w.heap.size w w':=
  (toCertS_any s ys.length ys w hL h rfl).mono fun e w' h=>⟨_,_,h.1,h.2.1,h.2.2⟩
set_option maxHeartbeats 4000000 in
set_option maxRecDepth 100000 in
theorem toFunc_any(v:VF)(f:MF)(w:World)(hs:f.small)(h:RdF w v f):
    Calls Tryz.prog 74 #[.agg #[v.p,.int .i64 f.result,v.l,v.c]] w fun e w'=>∃a1 c1 a2 c2 a3 c3,e=.returned (.agg #[.slice a1 f.params.length c1,.int .i64 f.result,.slice a2 f.locals.length c2,.slice a3 f.code.length c3])/\OwnF w' w.heap.size ⟨.slice a1 f.params.length c1,.slice a2 f.locals.length c2,.slice a3 f.code.length c3⟩ f/\Below w.heap.size w w':=by
  have H:Hid (RdF w v f/\f.small):=⟨h,hs⟩
  clear h hs
  have F0:=Fr.of w 112 63 #[v.p,.int .i64 f.result,v.l,v.c] #[.slice none 0 0,.int .i64 0,.slice none 0 0,.slice none 0 0] #[.slice none 0 0,.int .i64 0,.slice none 0 0,.slice none 0 0] rfl rfl rfl
  go_enter Tryz.func74,Tryz.ntmps74
  go_wp2_with fail
  refine(toInt64S_new v.p f.params _ H.out.2.1 (H.out.1.1.keep F0.bel (Nat.le_refl _))).mono ?_
  rintro e u1 ⟨a1,c1,rfl,own1,b1⟩
  have O1:Hid (u1.ownsRow (w.heap.size+3) 2 1 (.slice a1 f.params.length c1) f.params.length (f.params.flatMap intCell)):=own_base own1 F0.siz
  have F1:=F0.keep b1
  clear own1 b1 F0
  obtain⟨p0,p1,p2,p3,_⟩:=row4 F1.par
  obtain⟨o0,o1,o2,o3,z0,z1,z2,z3⟩:=row4 F1.loc
  go_wp2_with fail
  have F2:=(F1.set 0 (.slice a1 f.params.length c1)).set 1 (.int .i64 f.result)
  have O2:Hid _:=own_set (w:=w) (own_set (w:=w) O1.out (w.heap.size+1+1) 0 (by omega) (.slice a1 f.params.length c1)) (w.heap.size+1+1) 1 (by omega) (.int .i64 f.result)
  clear O1 F1 p0 p1 p2 p3 o0 o1 o2 o3 z0 z1 z2 z3
  simp only[List.set_cons_zero,List.set_cons_succ]at F2
  refine(toInt64S_new v.l f.locals _ H.out.2.2.1 (H.out.1.2.1.keep F2.bel (Nat.le_refl _))).mono ?_
  rintro e u2 ⟨a2,c2,rfl,own2,b2⟩
  have O3:Hid (u2.ownsRow (w.heap.size+3) 2 1 (.slice a1 f.params.length c1) f.params.length (f.params.flatMap intCell)/\u2.ownsRow (w.heap.size+3) 2 1 (.slice a2 f.locals.length c2) f.locals.length (f.locals.flatMap intCell)):=⟨own_keep O2.out b2 (Nat.le_refl _),own_base own2 F2.siz⟩
  have F3:=F2.keep b2
  clear own2 b2 F2 O2
  obtain⟨p0,p1,p2,p3,_⟩:=row4 F3.par
  obtain⟨o0,o1,o2,o3,z0,z1,z2,z3⟩:=row4 F3.loc
  go_wp2_with fail
  have F4:=F3.set 2 (.slice a2 f.locals.length c2)
  have O4:Hid _:=And.intro (own_set (w:=w) O3.out.1 (w.heap.size+1+1) 2 (by omega) (.slice a2 f.locals.length c2)) (own_set (w:=w) O3.out.2 (w.heap.size+1+1) 2 (by omega) (.slice a2 f.locals.length c2))
  clear O3 F3 p0 p1 p2 p3 o0 o1 o2 o3 z0 z1 z2 z3
  simp only[List.set_cons_zero,List.set_cons_succ]at F4
  refine(toInstrS_new v.c f.code _ H.out.2.2.2 (H.out.1.2.2.keep F4.bel (Nat.le_refl _))).mono ?_
  rintro e u3 ⟨a3,c3,rfl,own3,b3⟩
  have O5:Hid (u3.ownsRow (w.heap.size+3) 2 1 (.slice a1 f.params.length c1) f.params.length (f.params.flatMap intCell)/\u3.ownsRow (w.heap.size+3) 2 1 (.slice a2 f.locals.length c2) f.locals.length (f.locals.flatMap intCell)/\u3.ownsRow (w.heap.size+3) 73 4 (.slice a3 f.code.length c3) f.code.length (f.code.flatMap MI.cells)):=⟨own_keep O4.out.1 b3 (Nat.le_refl _),own_keep O4.out.2 b3 (Nat.le_refl _),own_base own3 F4.siz⟩
  have F5:=F4.keep b3
  clear own3 b3 F4 O4
  obtain⟨p0,p1,p2,p3,_⟩:=row4 F5.par
  obtain⟨o0,o1,o2,o3,z0,z1,z2,z3⟩:=row4 F5.loc
  obtain⟨q0,q1,q2,q3,y0,y1,y2,y3⟩:=row4 F5.res
  go_wp2_with fail
  clear p0 p1 p2 p3 o0 o1 o2 o3 z0 z1 z2 z3 q0 q1 q2 q3 y0 y1 y2 y3
  have F6:=((((F5.set 3 (.slice a3 f.code.length c3)).set' 0 (.slice a1 f.params.length c1)).set' 1 (.int .i64 f.result)).set' 2 (.slice a2 f.locals.length c2)).set' 3 (.slice a3 f.code.length c3)
  simp only[List.set_cons_zero,List.set_cons_succ]at F6
  obtain⟨q0,q1,q2,q3,_⟩:=row4 F6.res
  have hall:∀{e:TypeId} {s:Value} {k n:Nat} {xs:List Value},u3.ownsRow (w.heap.size+3) e k s n xs->(((((u3.setCell ⟨w.heap.size+1+1,3,none⟩ (.slice a3 f.code.length c3)).setCell ⟨w.heap.size+1,0,none⟩ (.slice a1 f.params.length c1)).setCell ⟨w.heap.size+1,1,none⟩ (.int .i64 f.result)).setCell ⟨w.heap.size+1,2,none⟩ (.slice a2 f.locals.length c2)).setCell ⟨w.heap.size+1,3,none⟩ (.slice a3 f.code.length c3)).ownsRow w.heap.size e k s n xs:=fun h=>
    own_base (own_set (own_set (own_set (own_set (own_set h _ _ (by omega) _) _ _ (by omega) _) _ _ (by omega) _) _ _ (by omega) _) _ _ (by omega) _) (by omega)
  exact bodyPost_ret (v:=.agg #[.slice a1 f.params.length c1,.int .i64 f.result,.slice a2 f.locals.length c2,.slice a3 f.code.length c3]) (by simp[results,Tryz.results74,go_sem,q0,q1,q2,q3]) rfl ⟨a1,c1,a2,c2,a3,c3,rfl,⟨hall O5.out.1,hall O5.out.2.1,hall O5.out.2.2⟩,F6.bel⟩
end Go.Proofs.YtdfmdgbolmbffaaGreat
namespace Go.Proofs.YtdfmdgbolmbffaaGreat
open Go.ChangeShapes Go.WideShapes Go.ChangeAt Go.RowKit
set_option linter.unusedVariables false
def fCells(x:MF×VF):List Value:=[x.2.p,.int .i64 x.1.result,x.2.l,x.2.c]
theorem fCells_length(x:MF×VF):(fCells x).length=4:=rfl
def rCells(x:List Int×Value):List Value:=[x.2]
theorem rCells_length(x:List Int×Value):(rCells x).length=1:=rfl
def RdFs(w:World)(s:Value)(fs:List MF):Prop:=∃xs:List (MF×VF),xs.map Prod.fst=fs/\Rd w 4 s fs.length (xs.flatMap fCells)/\∀x∈xs,RdF w x.2 x.1
def OwnFs(w:World)(base:Nat)(s:Value)(fs:List MF):Prop:=∃xs:List (MF×VF),xs.map Prod.fst=fs/\w.ownsRow base 63 4 s fs.length (xs.flatMap fCells)/\∀x∈xs,OwnF w base x.2 x.1
def RdR(w:World)(s:Value)(rs:List (List Int)):Prop:=∃xs:List (List Int×Value),xs.map Prod.fst=rs/\Rd w 1 s rs.length (xs.flatMap rCells)/\∀x∈xs,Rd w 1 x.2 x.1.length (x.1.flatMap intCell)
def OwnR(w:World)(base:Nat)(s:Value)(rs:List (List Int)):Prop:=∃xs:List (List Int×Value),xs.map Prod.fst=rs/\w.ownsRow base 48 1 s rs.length (xs.flatMap rCells)/\∀x∈xs,w.ownsRow base 2 1 x.2 x.1.length (x.1.flatMap intCell)
theorem OwnFs.rd{w:World}{base:Nat}{s:Value}{fs:List MF}(h:OwnFs w base s fs):RdFs w s fs:=by
  obtain⟨xs,h1,h2,h3⟩:=h
  exact⟨xs,h1,Rd.of_own h2,fun x hx=>(h3 x hx).rd⟩
theorem OwnR.rd{w:World}{base:Nat}{s:Value}{rs:List (List Int)}(h:OwnR w base s rs):RdR w s rs:=by
  obtain⟨xs,h1,h2,h3⟩:=h
  exact⟨xs,h1,Rd.of_own h2,fun x hx=>Rd.of_own (h3 x hx)⟩
theorem RdFs.keep{w w':World}{s:Value}{fs:List MF}(h:RdFs w s fs){B:Nat}(hb:Below B w w')(hB:w.heap.size<=B):RdFs w' s fs:=by
  obtain⟨xs,h1,h2,h3⟩:=h
  exact⟨xs,h1,h2.keep hb hB,fun x hx=>(h3 x hx).keep hb hB⟩
theorem RdR.keep{w w':World}{s:Value}{rs:List (List Int)}(h:RdR w s rs){B:Nat}(hb:Below B w w')(hB:w.heap.size<=B):RdR w' s rs:=by
  obtain⟨xs,h1,h2,h3⟩:=h
  exact⟨xs,h1,h2.keep hb hB,fun x hx=>(h3 x hx).keep hb hB⟩
theorem OwnFs.keep{w w':World}{base:Nat}{s:Value}{fs:List MF}(h:OwnFs w base s fs){B:Nat}(hb:Below B w w')(hB:w.heap.size<=B):OwnFs w' base s fs:=by
  obtain⟨xs,h1,h2,h3⟩:=h
  exact⟨xs,h1,own_keep h2 hb hB,fun x hx=>(h3 x hx).keep hb hB⟩
theorem OwnR.keep{w w':World}{base:Nat}{s:Value}{rs:List (List Int)}(h:OwnR w base s rs){B:Nat}(hb:Below B w w')(hB:w.heap.size<=B):OwnR w' base s rs:=by
  obtain⟨xs,h1,h2,h3⟩:=h
  exact⟨xs,h1,own_keep h2 hb hB,fun x hx=>own_keep (h3 x hx) hb hB⟩
theorem OwnF.base{w:World}{base base':Nat}{v:VF}{f:MF}(h:OwnF w base v f)(hb:base'<=base):OwnF w base' v f:=⟨own_base h.1 hb,own_base h.2.1 hb,own_base h.2.2 hb⟩
theorem OwnFs.base{w:World}{base base':Nat}{s:Value}{fs:List MF}(h:OwnFs w base s fs)(hb:base'<=base):OwnFs w base' s fs:=by
  obtain⟨xs,h1,h2,h3⟩:=h
  exact⟨xs,h1,own_base h2 hb,fun x hx=>(h3 x hx).base hb⟩
theorem OwnR.base{w:World}{base base':Nat}{s:Value}{rs:List (List Int)}(h:OwnR w base s rs)(hb:base'<=base):OwnR w base' s rs:=by
  obtain⟨xs,h1,h2,h3⟩:=h
  exact⟨xs,h1,own_base h2 hb,fun x hx=>own_base (h3 x hx) hb⟩
theorem OwnF.below{w:World}{base:Nat}{v:VF}{f:MF}(h:OwnF w base v f){a:Addr}(ha:a.block<base)(u:Value):OwnF (w.setCell a u) base v f:=⟨ownsRow_setCell_below h.1 ha u,ownsRow_setCell_below h.2.1 ha u,ownsRow_setCell_below h.2.2 ha u⟩
theorem OwnFs.below{w:World}{base:Nat}{s:Value}{fs:List MF}(h:OwnFs w base s fs){a:Addr}(ha:a.block<base)(u:Value):OwnFs (w.setCell a u) base s fs:=by
  obtain⟨xs,h1,h2,h3⟩:=h
  exact⟨xs,h1,ownsRow_setCell_below h2 ha u,fun x hx=>(h3 x hx).below ha u⟩
theorem OwnR.below{w:World}{base:Nat}{s:Value}{rs:List (List Int)}(h:OwnR w base s rs){a:Addr}(ha:a.block<base)(u:Value):OwnR (w.setCell a u) base s rs:=by
  obtain⟨xs,h1,h2,h3⟩:=h
  exact⟨xs,h1,ownsRow_setCell_below h2 ha u,fun x hx=>ownsRow_setCell_below (h3 x hx) ha u⟩
theorem infoF:(Tryz.prog.info? 63).map (fun i=>(i.zero,i.size,i.bytes))=some (some (.agg #[.slice none 0 0,.int .i64 0,.slice none 0 0,.slice none 0 0]),4,80):=by kernel_rfl
theorem infoR:(Tryz.prog.info? 48).map (fun i=>(i.zero,i.size,i.bytes))=some (some (.slice none 0 0),1,24):=by kernel_rfl
theorem fst_at{α β:Type}{xs:List (α×β)}{fs:List α}(h:xs.map Prod.fst=fs){k:Nat}{x:α×β}(hx:xs[k]?=some x):fs[k]?=some x.1:=by
  rw[<-h,List.getElem?_map,hx]
  rfl
theorem fst_next{α β:Type}{ys:List (α×β)}{fs:List α}{k:Nat}(h:ys.map Prod.fst=fs.take k){f:α}(hf:fs[k]?=some f)(b:β):(ys++[(f,b)]).map Prod.fst=fs.take (k+1):=by
  obtain⟨hlt,rfl⟩:=List.getElem?_eq_some_iff.1 hf
  rw[List.map_append,h,List.take_succ_eq_append_getElem hlt]
  rfl
def newTo{α:Type}(f:α->List Value)(z:List Value)(ys:List α)(n:Nat):List Value:=ys.flatMap f++(List.replicate (n-ys.length) z).flatten
theorem newTo_zero{α:Type}(f:α->List Value)(z:List Value)(n:Nat)(v:Value)(m:Nat)(hv:v.cells=z.toArray)(hm:z.length=m)(h0:0<m):(madeCells v.cells (n*m)).toList=newTo f z [] n:=by
  rw[flatTo_zero f z [] n v m hv hm h0]
  simp[flatTo,newTo]
theorem newTo_parts{α:Type}(f:α->List Value)(z:List Value)(ys:List α)(k n:Nat)(hk:k<n)(hl:ys.length=k):newTo f z ys n=ys.flatMap f++(z++(List.replicate (n-(k+1)) z).flatten):=by
  unfold newTo
  have e:n-ys.length=(n-(k+1))+1:=by omega
  rw[e,List.replicate_succ,List.flatten_cons]
theorem newTo_next{α:Type}(f:α->List Value)(z:List Value)(ys:List α)(k n:Nat)(y:α)(hl:ys.length=k):newTo f z (ys++[y]) n=ys.flatMap f++(f y++(List.replicate (n-(k+1)) z).flatten):=by
  unfold newTo
  rw[List.flatMap_append,List.append_assoc]
  simp[hl]
theorem newTo_all{α:Type}(f:α->List Value)(z:List Value)(ys:List α)(n:Nat)(h:ys.length=n):newTo f z ys n=ys.flatMap f:=by simp[newTo,<-h]
theorem own_lt{w:World}{base:Nat}{e:TypeId}{g k n c:Nat}{xs:List Value}(h:w.ownsRow base e k (.slice (some ⟨g,0,none⟩) n c) n xs):g+1<=w.heap.size:=by
  rcases h.2 with⟨h',_⟩|⟨g',cap',cur,h',_,hg,_⟩
  . cases h'
  . cases h'
    exact(Array.getElem?_eq_some_iff.1 hg).1
structure FSt(w wr:World)(fs:List MF)(L k:Nat)(ys:List (MF×VF)):Prop where
  fst:ys.map Prod.fst=fs.take k
  len:ys.length=k
  row:wr.ownsRow w.heap.size 63 4 (.slice (some ⟨w.heap.size,0,none⟩) L L) L (newTo fCells [.slice none 0 0,.int .i64 0,.slice none 0 0,.slice none 0 0] ys L)
  els:∀y∈ys,OwnF wr (w.heap.size+1) y.2 y.1
  bel:Below w.heap.size w wr
  siz:w.heap.size+1<=wr.heap.size
theorem FSt.places{w wr:World}{fs:List MF}{L k:Nat}{ys:List (MF×VF)}(h:FSt w wr fs L k ys)(hk:k<L){u:World}(hb:Below wr.heap.size wr u):
    u.cell? ⟨w.heap.size,k*4,none⟩=some (.slice none 0 0)/\u.cell? ⟨w.heap.size,k*4+1,none⟩=some (.int .i64 0)/\u.cell? ⟨w.heap.size,k*4+2,none⟩=some (.slice none 0 0)/\u.cell? ⟨w.heap.size,k*4+3,none⟩=some (.slice none 0 0)/\u.frozen? ⟨w.heap.size,k*4,none⟩=false/\u.frozen? ⟨w.heap.size,k*4+1,none⟩=false/\u.frozen? ⟨w.heap.size,k*4+2,none⟩=false/\u.frozen? ⟨w.heap.size,k*4+3,none⟩=false:=by
  have hown:=own_keep h.row hb (Nat.le_refl _)
  rw[newTo_parts fCells _ ys k L hk h.len]at hown
  have hA:(ys.flatMap fCells).length=k*4:=by rw[flat_length fCells 4 fCells_length,h.len]
  have d0:=hown.cellAt (k*4) (by omega)
  have d1:=hown.cellAt (k*4+1) (by omega)
  have d2:=hown.cellAt (k*4+2) (by omega)
  have d3:=hown.cellAt (k*4+3) (by omega)
  rw[List.getElem?_append_right (by omega),hA]at d0 d1 d2 d3
  rw[Nat.sub_self]at d0
  rw[Nat.add_sub_cancel_left]at d1 d2 d3
  exact⟨d0,d1,d2,d3,hown.frozenAt _,hown.frozenAt _,hown.frozenAt _,hown.frozenAt _⟩
theorem FSt.next{w wr:World}{fs:List MF}{L k:Nat}{ys:List (MF×VF)}(h:FSt w wr fs L k ys)(hk:k<L){u:World}(hb:Below wr.heap.size wr u){f:MF}(hf:fs[k]?=some f){v:VF}(ho:OwnF u wr.heap.size v f):
    FSt w ((((u.setCell ⟨w.heap.size,k*4,none⟩ v.p).setCell ⟨w.heap.size,k*4+1,none⟩ (.int .i64 f.result)).setCell ⟨w.heap.size,k*4+2,none⟩ v.l).setCell ⟨w.heap.size,k*4+3,none⟩ v.c) fs L (k+1) (ys++[(f,v)]):=by
  have hown:=own_keep h.row hb (Nat.le_refl _)
  rw[newTo_parts fCells _ ys k L hk h.len]at hown
  have hA:(ys.flatMap fCells).length=k*4:=by rw[flat_length fCells 4 fCells_length,h.len]
  have s0:=(hown.stored (k*4) v.p).1
  have s1:=(s0.stored (k*4+1) (.int .i64 f.result)).1
  have s2:=(s1.stored (k*4+2) v.l).1
  have s3:=(s2.stored (k*4+3) v.c).1
  rw[set4 _ _ _ _ _ _ _ _ _ _ (k*4) hA]at s3
  refine⟨fst_next h.fst hf v,by simp[h.len],?_,?_,?_,?_⟩
  . rw[newTo_next fCells _ ys k L (f,v) h.len]
    exact s3
  . intro y hy
    have hy':OwnF u (w.heap.size+1) y.2 y.1:=by
      rcases List.mem_append.1 hy with hy|hy
      . exact(h.els y hy).keep hb (Nat.le_refl _)
      . simp only[List.mem_singleton]at hy
        subst hy
        exact ho.base h.siz
    exact(((hy'.below (by simp) _).below (by simp) _).below (by simp) _).below (by simp) _
  . exact((((h.bel.trans (hb.mono (by have:=h.siz;omega))).setCell (Nat.le_refl _) _).setCell (Nat.le_refl _) _).setCell (Nat.le_refl _) _).setCell (Nat.le_refl _) _
  . have:=hb.size
    have:=h.siz
    simp
    omega
set_option maxHeartbeats 4000000 in
set_option maxRecDepth 100000 in
theorem toFuncS_any(s:Value)(fs:List MF)(w:World)(hL:fs.length<=1048576)(hs:∀f∈fs,f.small)(h:RdFs w s fs):
    Calls Tryz.prog 34 #[s] w fun e w'=>∃a c,e=.returned (.slice a fs.length c)/\OwnFs w' w.heap.size (.slice a fs.length c) fs/\Below w.heap.size w w':=by
  obtain⟨i0,hi,hz0,hz1,hz2⟩:=info_parts infoF
  obtain⟨xs,hxs,hrd,hel⟩:=h
  have hxl:xs.length=fs.length:=by rw[<-hxs];simp
  have H1:Hid (Rd w 4 s fs.length (xs.flatMap fCells)/\xs.map Prod.fst=fs/\(∀x∈xs,RdF w x.2 x.1)/\(∀f∈fs,f.small)/\xs.length=fs.length):=⟨hrd,hxs,hel,hs,hxl⟩
  obtain⟨a1,c1,rfl⟩:=hrd.is_slice
  clear hrd hxs hel hs hxl
  generalize hLL:fs.length=L at hL H1
  have HL:Hid (fs.length=L):=hLL
  clear hLL
  go_enter Tryz.func34,Tryz.ntmps34
  go_wp2_with (at_make;refine wpList_make_full _ rfl _ _ 33 rfl w.heap.size 63 i0 (.agg #[.slice none 0 0,.int .i64 0,.slice none 0 0,.slice none 0 0]) 4 Tryz.underlying33 hi hz0 hz1 .i64 .i64 _ _ L rfl rfl rfl rfl (by rw[hz2];omega) (by unfold maxLen;omega) (Nat.le_refl _) ?_;intro w1 hown hgrow)
  rw[newTo_zero fCells [.slice none 0 0,.int .i64 0,.slice none 0 0,.slice none 0 0] L (.agg #[.slice none 0 0,.int .i64 0,.slice none 0 0,.slice none 0 0]) 4 rfl rfl (by omega)]at hown
  have hB:Below w.heap.size w w1:=(Below.refl _ _).grown hgrow (Nat.le_refl _) (fun k hk=>by cases hk)
  have hst:FSt w w1 fs L 0 []:=⟨by simp,rfl,hown,(fun y hy=>by cases hy),hB,own_lt hown⟩
  clear hgrow hown hB
  go_loopw [4] (fun i wr=>∃k:Nat,k<=L/\i=.int .i64 k/\∃ys,FSt w wr fs L k ys) (fun i _=>L-(intOf i).toNat)
  case atStart=>exact⟨0,by omega,rfl,_,hst⟩
  case round=>
    clear hst
    obtain⟨k,hk,rfl,ys,hst⟩:=hrel
    by_cases hlt:k<L
    . obtain⟨x,hx⟩:∃x,xs[k]?=some x:=⟨_,List.getElem?_eq_getElem (by rw[H1.out.2.2.2.2];exact hlt)⟩
      have hfx:=fst_at H1.out.2.1 hx
      have hrx:=H1.out.2.2.1 x (List.mem_of_getElem? hx)
      have hsm:=H1.out.2.2.2.1 x.1 (List.mem_of_getElem? hfx)
      rcases H1.out.1.2 with⟨e0,_⟩|⟨g,o,c,e1,hc1⟩
      . omega
      . simp only[Value.slice.injEq,true_and]at e1
        obtain⟨rfl,rfl⟩:=e1
        have i0:=Rd.elem fCells_length hc1 k x hx 0 _ rfl
        have i1:=Rd.elem fCells_length hc1 k x hx 1 _ rfl
        have i2:=Rd.elem fCells_length hc1 k x hx 2 _ rfl
        have i3:=Rd.elem fCells_length hc1 k x hx 3 _ rfl
        rw[<-hst.bel.cell (block_lt_of_cell i0)]at i0
        rw[<-hst.bel.cell (block_lt_of_cell i1)]at i1
        rw[<-hst.bel.cell (block_lt_of_cell i2)]at i2
        rw[<-hst.bel.cell (block_lt_of_cell i3)]at i3
        rw[Nat.add_zero]at i0
        obtain⟨f,v⟩:=x
        have HX:Hid (fs[k]?=some f/\RdF wr v f/\f.small):=⟨hfx,hrx.keep hst.bel (Nat.le_refl _),hsm⟩
        clear hfx hrx hsm hx hc1
        simp only[]at i0 i1 i2 i3
        go_wp2_with fail
        refine(toFunc_any v f wr HX.out.2.2 HX.out.2.1).mono ?_
        rintro e u ⟨b1,d1,b2,d2,b3,d3,rfl,hou,hbu⟩
        obtain⟨q0,q1,q2,q3,f0,f1,f2,f3⟩:=hst.places hlt hbu
        have HN:Hid _:=hst.next hlt hbu HX.out.1 hou
        clear hou hbu i0 i1 i2 i3 hst HX
        go_wp2
        go_roundw
        case rel=>exact⟨k+1,by omega,by go_num,_,HN.out⟩
        case measure=>simp[intOf];omega
    . have hkn:k=L:=by omega
      subst hkn
      go_wp2
      go_ret
      refine⟨some ⟨w.heap.size,0,none⟩,k,rfl,⟨ys,?_,?_,fun y hy=>(hst.els y hy).base (by omega)⟩,hst.bel⟩
      . rw[hst.fst,<-HL.out,List.take_length]
      . have hrow:=hst.row
        rw[newTo_all _ _ _ _ hst.len]at hrow
        rw[HL.out]
        exact hrow
structure RSt(w wr:World)(fs:List (List Int))(L k:Nat)(ys:List (List Int×Value)):Prop where
  fst:ys.map Prod.fst=fs.take k
  len:ys.length=k
  row:wr.ownsRow w.heap.size 48 1 (.slice (some ⟨w.heap.size,0,none⟩) L L) L (newTo rCells [.slice none 0 0] ys L)
  els:∀y∈ys,wr.ownsRow (w.heap.size+1) 2 1 y.2 y.1.length (y.1.flatMap intCell)
  bel:Below w.heap.size w wr
  siz:w.heap.size+1<=wr.heap.size
theorem RSt.places{w wr:World}{fs:List (List Int)}{L k:Nat}{ys:List (List Int×Value)}(h:RSt w wr fs L k ys)(hk:k<L){u:World}(hb:Below wr.heap.size wr u):
    u.cell? ⟨w.heap.size,k,none⟩=some (.slice none 0 0)/\u.frozen? ⟨w.heap.size,k,none⟩=false:=by
  have hown:=own_keep h.row hb (Nat.le_refl _)
  rw[newTo_parts rCells _ ys k L hk h.len]at hown
  have hA:(ys.flatMap rCells).length=k:=by rw[flat_length rCells 1 rCells_length,h.len,Nat.mul_one]
  have d0:=hown.cellAt k (by omega)
  rw[List.getElem?_append_right (by omega),hA]at d0
  rw[Nat.sub_self]at d0
  exact⟨d0,hown.frozenAt _⟩
theorem RSt.next{w wr:World}{fs:List (List Int)}{L k:Nat}{ys:List (List Int×Value)}(h:RSt w wr fs L k ys)(hk:k<L){u:World}(hb:Below wr.heap.size wr u){f:List Int}(hf:fs[k]?=some f){v:Value}(ho:u.ownsRow wr.heap.size 2 1 v f.length (f.flatMap intCell)):
    RSt w (u.setCell ⟨w.heap.size,k,none⟩ v) fs L (k+1) (ys++[(f,v)]):=by
  have hown:=own_keep h.row hb (Nat.le_refl _)
  rw[newTo_parts rCells _ ys k L hk h.len]at hown
  have hA:(ys.flatMap rCells).length=k:=by rw[flat_length rCells 1 rCells_length,h.len,Nat.mul_one]
  have s0:=(hown.stored k v).1
  rw[set1 _ _ _ _ k hA]at s0
  refine⟨fst_next h.fst hf v,by simp[h.len],?_,?_,?_,?_⟩
  . rw[newTo_next rCells _ ys k L (f,v) h.len]
    exact s0
  . intro y hy
    have hy':u.ownsRow (w.heap.size+1) 2 1 y.2 y.1.length (y.1.flatMap intCell):=by
      rcases List.mem_append.1 hy with hy|hy
      . exact own_keep (h.els y hy) hb (Nat.le_refl _)
      . simp only[List.mem_singleton]at hy
        subst hy
        exact own_base ho h.siz
    exact ownsRow_setCell_below hy' (by simp) _
  . exact(h.bel.trans (hb.mono (by have:=h.siz;omega))).setCell (Nat.le_refl _) _
  . have:=hb.size
    have:=h.siz
    simp
    omega
set_option maxHeartbeats 4000000 in
set_option maxRecDepth 100000 in
theorem toInt64SS_any(s:Value)(fs:List (List Int))(w:World)(hL:fs.length<=1048576)(hs:∀f∈fs,f.length<=1048576)(h:RdR w s fs):
    Calls Tryz.prog 17 #[s] w fun e w'=>∃a c,e=.returned (.slice a fs.length c)/\OwnR w' w.heap.size (.slice a fs.length c) fs/\Below w.heap.size w w':=by
  obtain⟨i0,hi,hz0,hz1,hz2⟩:=info_parts infoR
  obtain⟨xs,hxs,hrd,hel⟩:=h
  have hxl:xs.length=fs.length:=by rw[<-hxs];simp
  have H1:Hid (Rd w 1 s fs.length (xs.flatMap rCells)/\xs.map Prod.fst=fs/\(∀x∈xs,Rd w 1 x.2 x.1.length (x.1.flatMap intCell))/\(∀f∈fs,f.length<=1048576)/\xs.length=fs.length):=⟨hrd,hxs,hel,hs,hxl⟩
  obtain⟨a1,c1,rfl⟩:=hrd.is_slice
  clear hrd hxs hel hs hxl
  generalize hLL:fs.length=L at hL H1
  have HL:Hid (fs.length=L):=hLL
  clear hLL
  go_enter Tryz.func17,Tryz.ntmps17
  go_wp2_with (at_make;refine wpList_make_full _ rfl _ _ 22 rfl w.heap.size 48 i0 (.slice none 0 0) 1 Tryz.underlying22 hi hz0 hz1 .i64 .i64 _ _ L rfl rfl rfl rfl (by rw[hz2];omega) (by unfold maxLen;omega) (Nat.le_refl _) ?_;intro w1 hown hgrow)
  rw[newTo_zero rCells [.slice none 0 0] L (.slice none 0 0) 1 rfl rfl (by omega)]at hown
  have hB:Below w.heap.size w w1:=(Below.refl _ _).grown hgrow (Nat.le_refl _) (fun k hk=>by cases hk)
  have hst:RSt w w1 fs L 0 []:=⟨by simp,rfl,hown,(fun y hy=>by cases hy),hB,own_lt hown⟩
  clear hgrow hown hB
  go_loopw [4] (fun i wr=>∃k:Nat,k<=L/\i=.int .i64 k/\∃ys,RSt w wr fs L k ys) (fun i _=>L-(intOf i).toNat)
  case atStart=>exact⟨0,by omega,rfl,_,hst⟩
  case round=>
    clear hst
    obtain⟨k,hk,rfl,ys,hst⟩:=hrel
    by_cases hlt:k<L
    . obtain⟨x,hx⟩:∃x,xs[k]?=some x:=⟨_,List.getElem?_eq_getElem (by rw[H1.out.2.2.2.2];exact hlt)⟩
      have hfx:=fst_at H1.out.2.1 hx
      have hrx:=H1.out.2.2.1 x (List.mem_of_getElem? hx)
      have hsm:=H1.out.2.2.2.1 x.1 (List.mem_of_getElem? hfx)
      rcases H1.out.1.2 with⟨e0,_⟩|⟨g,o,c,e1,hc1⟩
      . omega
      . simp only[Value.slice.injEq,true_and]at e1
        obtain⟨rfl,rfl⟩:=e1
        have i0:=Rd.elem rCells_length hc1 k x hx 0 _ rfl
        rw[<-hst.bel.cell (block_lt_of_cell i0)]at i0
        rw[Nat.mul_one,Nat.add_zero]at i0
        obtain⟨f,v⟩:=x
        have HX:Hid (fs[k]?=some f/\Rd wr 1 v f.length (f.flatMap intCell)/\f.length<=1048576):=⟨hfx,hrx.keep hst.bel (Nat.le_refl _),hsm⟩
        clear hfx hrx hsm hx hc1
        simp only[]at i0
        go_wp2_with fail
        refine(toInt64S_new v f wr HX.out.2.2 HX.out.2.1).mono ?_
        rintro e u ⟨b1,d1,rfl,hou,hbu⟩
        obtain⟨q0,f0⟩:=hst.places hlt hbu
        have HN:Hid _:=hst.next hlt hbu HX.out.1 hou
        clear hou hbu i0 hst HX
        go_wp2
        go_roundw
        case rel=>exact⟨k+1,by omega,by go_num,_,HN.out⟩
        case measure=>simp[intOf];omega
    . have hkn:k=L:=by omega
      subst hkn
      go_wp2
      go_ret
      refine⟨some ⟨w.heap.size,0,none⟩,k,rfl,⟨ys,?_,?_,fun y hy=>own_base (hst.els y hy) (by omega)⟩,hst.bel⟩
      . rw[hst.fst,<-HL.out,List.take_length]
      . have hrow:=hst.row
        rw[newTo_all _ _ _ _ hst.len]at hrow
        rw[HL.out]
        exact hrow
end Go.Proofs.YtdfmdgbolmbffaaGreat
namespace Go.Proofs.YtdfmdgbolmbffaaGreat
open Go.ChangeShapes Go.WideShapes Go.ChangeAt Go.RowKit
set_option linter.unusedVariables false
structure MP where
  regions:List (List Int)
  consts:List MC
  funcs:List MF
  certs:List MT
structure VP where
  r:Value
  k:Value
  f:Value
  t:Value
structure RdP(w:World)(v:VP)(p:MP):Prop where
  regions:RdR w v.r p.regions
  consts:Rd w 2 v.k p.consts.length (p.consts.flatMap MC.cells)
  funcs:RdFs w v.f p.funcs
  certs:Rd w 4 v.t p.certs.length (p.certs.flatMap MT.cells)
structure OwnP(w:World)(base:Nat)(v:VP)(p:MP):Prop where
  regions:OwnR w base v.r p.regions
  consts:w.ownsRow base 128 2 v.k p.consts.length (p.consts.flatMap MC.cells)
  funcs:OwnFs w base v.f p.funcs
  certs:w.ownsRow base 100 4 v.t p.certs.length (p.certs.flatMap MT.cells)
structure MP.small(p:MP):Prop where
  regions:p.regions.length<=1048576
  region:∀r∈p.regions,r.length<=1048576
  consts:p.consts.length<=1048576
  funcs:p.funcs.length<=1048576
  func:∀f∈p.funcs,f.small
  certs:p.certs.length<=1048576
theorem OwnP.rd{w:World}{base:Nat}{v:VP}{p:MP}(h:OwnP w base v p):RdP w v p:=⟨h.regions.rd,Rd.of_own h.consts,h.funcs.rd,Rd.of_own h.certs⟩
theorem RdP.keep{w w':World}{v:VP}{p:MP}(h:RdP w v p){B:Nat}(hb:Below B w w')(hB:w.heap.size<=B):RdP w' v p:=⟨h.regions.keep hb hB,h.consts.keep hb hB,h.funcs.keep hb hB,h.certs.keep hb hB⟩
theorem OwnP.keep{w w':World}{base:Nat}{v:VP}{p:MP}(h:OwnP w base v p){B:Nat}(hb:Below B w w')(hB:w.heap.size<=B):OwnP w' base v p:=⟨h.regions.keep hb hB,own_keep h.consts hb hB,h.funcs.keep hb hB,own_keep h.certs hb hB⟩
theorem OwnP.base{w:World}{base base':Nat}{v:VP}{p:MP}(h:OwnP w base v p)(hb:base'<=base):OwnP w base' v p:=⟨h.regions.base hb,own_base h.consts hb,h.funcs.base hb,own_base h.certs hb⟩
theorem OwnP.below{w:World}{base:Nat}{v:VP}{p:MP}(h:OwnP w base v p){a:Addr}(ha:a.block<base)(u:Value):OwnP (w.setCell a u) base v p:=⟨h.regions.below ha u,ownsRow_setCell_below h.consts ha u,h.funcs.below ha u,ownsRow_setCell_below h.certs ha u⟩
set_option maxHeartbeats 4000000 in
set_option maxRecDepth 100000 in
theorem toProgram_any(v:VP)(p:MP)(w:World)(hs:p.small)(h:RdP w v p):
    Calls Tryz.prog 8 #[.agg #[v.r,v.k,v.f,v.t]] w fun e w'=>∃a1 c1 a2 c2 a3 c3 a4 c4,e=.returned (.agg #[.slice a1 p.regions.length c1,.slice a2 p.consts.length c2,.slice a3 p.funcs.length c3,.slice a4 p.certs.length c4])/\OwnP w' w.heap.size ⟨.slice a1 p.regions.length c1,.slice a2 p.consts.length c2,.slice a3 p.funcs.length c3,.slice a4 p.certs.length c4⟩ p/\Below w.heap.size w w':=by
  have F0:=Fr.of w 27 36 #[v.r,v.k,v.f,v.t] #[.slice none 0 0,.slice none 0 0,.slice none 0 0,.slice none 0 0] #[.slice none 0 0,.slice none 0 0,.slice none 0 0,.slice none 0 0] rfl rfl rfl
  go_enter Tryz.func8,Tryz.ntmps8
  go_wp2_with fail
  refine(toInt64SS_any v.r p.regions _ hs.regions hs.region (h.regions.keep F0.bel (Nat.le_refl _))).mono ?_
  rintro e u1 ⟨a1,c1,rfl,own1,b1⟩
  have O1:Hid (OwnR u1 (w.heap.size+3) (.slice a1 p.regions.length c1) p.regions):=own1.base F0.siz
  have F1:=F0.keep b1
  clear own1 b1 F0
  obtain⟨p0,p1,p2,p3,_⟩:=row4 F1.par
  obtain⟨o0,o1,o2,o3,z0,z1,z2,z3⟩:=row4 F1.loc
  go_wp2_with fail
  have F2:=F1.set 0 (.slice a1 p.regions.length c1)
  have O2:Hid (OwnR (u1.setCell ⟨w.heap.size+1+1,0,none⟩ (.slice a1 p.regions.length c1)) (w.heap.size+3) (.slice a1 p.regions.length c1) p.regions):=O1.out.below (by simp) _
  clear O1 F1 p0 p1 p2 p3 o0 o1 o2 o3 z0 z1 z2 z3
  simp only[List.set_cons_zero]at F2
  refine(toConstS_new v.k p.consts _ hs.consts (h.consts.keep F2.bel (Nat.le_refl _))).mono ?_
  rintro e u2 ⟨a2,c2,rfl,own2,b2⟩
  have O3:Hid (OwnR u2 (w.heap.size+3) (.slice a1 p.regions.length c1) p.regions/\u2.ownsRow (w.heap.size+3) 128 2 (.slice a2 p.consts.length c2) p.consts.length (p.consts.flatMap MC.cells)):=⟨O2.out.keep b2 (Nat.le_refl _),own_base own2 F2.siz⟩
  have F3:=F2.keep b2
  clear own2 b2 F2 O2
  obtain⟨p0,p1,p2,p3,_⟩:=row4 F3.par
  obtain⟨o0,o1,o2,o3,z0,z1,z2,z3⟩:=row4 F3.loc
  go_wp2_with fail
  have F4:=F3.set 1 (.slice a2 p.consts.length c2)
  have O4:Hid _:=And.intro (O3.out.1.below (a:=⟨w.heap.size+1+1,1,none⟩) (by simp) (.slice a2 p.consts.length c2)) (own_set (w:=w) O3.out.2 (w.heap.size+1+1) 1 (by omega) (.slice a2 p.consts.length c2))
  clear O3 F3 p0 p1 p2 p3 o0 o1 o2 o3 z0 z1 z2 z3
  simp only[List.set_cons_zero,List.set_cons_succ]at F4
  refine(toFuncS_any v.f p.funcs _ hs.funcs hs.func (h.funcs.keep F4.bel (Nat.le_refl _))).mono ?_
  rintro e u3 ⟨a3,c3,rfl,own3,b3⟩
  have O5:Hid (OwnR u3 (w.heap.size+3) (.slice a1 p.regions.length c1) p.regions/\u3.ownsRow (w.heap.size+3) 128 2 (.slice a2 p.consts.length c2) p.consts.length (p.consts.flatMap MC.cells)/\OwnFs u3 (w.heap.size+3) (.slice a3 p.funcs.length c3) p.funcs):=⟨O4.out.1.keep b3 (Nat.le_refl _),own_keep O4.out.2 b3 (Nat.le_refl _),own3.base F4.siz⟩
  have F5:=F4.keep b3
  clear own3 b3 F4 O4
  obtain⟨p0,p1,p2,p3,_⟩:=row4 F5.par
  obtain⟨o0,o1,o2,o3,z0,z1,z2,z3⟩:=row4 F5.loc
  go_wp2_with fail
  have F6:=F5.set 2 (.slice a3 p.funcs.length c3)
  have O6:Hid _:=And.intro (O5.out.1.below (a:=⟨w.heap.size+1+1,2,none⟩) (by simp) (.slice a3 p.funcs.length c3)) (And.intro (own_set (w:=w) O5.out.2.1 (w.heap.size+1+1) 2 (by omega) (.slice a3 p.funcs.length c3)) (O5.out.2.2.below (a:=⟨w.heap.size+1+1,2,none⟩) (by simp) (.slice a3 p.funcs.length c3)))
  clear O5 F5 p0 p1 p2 p3 o0 o1 o2 o3 z0 z1 z2 z3
  simp only[List.set_cons_zero,List.set_cons_succ]at F6
  refine(toCertS_new v.t p.certs _ hs.certs (h.certs.keep F6.bel (Nat.le_refl _))).mono ?_
  rintro e u4 ⟨a4,c4,rfl,own4,b4⟩
  have O7:Hid (OwnP u4 (w.heap.size+3) ⟨.slice a1 p.regions.length c1,.slice a2 p.consts.length c2,.slice a3 p.funcs.length c3,.slice a4 p.certs.length c4⟩ p):=⟨O6.out.1.keep b4 (Nat.le_refl _),own_keep O6.out.2.1 b4 (Nat.le_refl _),O6.out.2.2.keep b4 (Nat.le_refl _),own_base own4 F6.siz⟩
  have F7:=F6.keep b4
  clear own4 b4 F6 O6
  obtain⟨p0,p1,p2,p3,_⟩:=row4 F7.par
  obtain⟨o0,o1,o2,o3,z0,z1,z2,z3⟩:=row4 F7.loc
  obtain⟨q0,q1,q2,q3,y0,y1,y2,y3⟩:=row4 F7.res
  go_wp2_with fail
  clear p0 p1 p2 p3 o0 o1 o2 o3 z0 z1 z2 z3 q0 q1 q2 q3 y0 y1 y2 y3
  have F8:=((((F7.set 3 (.slice a4 p.certs.length c4)).set' 0 (.slice a1 p.regions.length c1)).set' 1 (.slice a2 p.consts.length c2)).set' 2 (.slice a3 p.funcs.length c3)).set' 3 (.slice a4 p.certs.length c4)
  simp only[List.set_cons_zero,List.set_cons_succ]at F8
  obtain⟨q0,q1,q2,q3,_⟩:=row4 F8.res
  have hall:=((((O7.out.below (a:=⟨w.heap.size+1+1,3,none⟩) (by simp) (.slice a4 p.certs.length c4)).below (a:=⟨w.heap.size+1,0,none⟩) (by simp<;>omega) (.slice a1 p.regions.length c1)).below (a:=⟨w.heap.size+1,1,none⟩) (by simp<;>omega) (.slice a2 p.consts.length c2)).below (a:=⟨w.heap.size+1,2,none⟩) (by simp<;>omega) (.slice a3 p.funcs.length c3)).below (a:=⟨w.heap.size+1,3,none⟩) (by simp<;>omega) (.slice a4 p.certs.length c4)
  exact bodyPost_ret (v:=.agg #[.slice a1 p.regions.length c1,.slice a2 p.consts.length c2,.slice a3 p.funcs.length c3,.slice a4 p.certs.length c4]) (by simp[results,Tryz.results8,go_sem,q0,q1,q2,q3]) rfl ⟨a1,c1,a2,c2,a3,c3,a4,c4,rfl,hall.base (by omega),F8.bel⟩
end Go.Proofs.YtdfmdgbolmbffaaGreat
