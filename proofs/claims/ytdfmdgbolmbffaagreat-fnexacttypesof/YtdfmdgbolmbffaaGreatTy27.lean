import Derived.Test.YtdfmdgbolmbffaaGreatTy3
import Derived.Deep.AppendLies
import Derived.Deep.RegionLaw
import Derived.Test.YtdfmdgbolmbffaaGreatTy0
namespace Go.Proofs.YtdfmdgbolmbffaaGreat
open Go.ChangeShapes Go.WideShapes Go.ChangeAt Go.RowKit
set_option linter.unusedVariables false
def markIs(k:Int)(n:Nat):List Int:=(List.range n).map fun(i:Nat)=>k+(i:Int)
theorem markIs_length(k:Int)(n:Nat):(markIs k n).length=n:=by simp[markIs]
theorem markIs_succ(k:Int)(n:Nat):markIs k (n+1)=markIs k n++[k+(n:Int)]:=by simp[markIs,List.range_succ]
def markITo(k:Int)(cs:List Int)(j:Nat):List Int:=markIs k j++cs.drop j
theorem markITo_zero(k:Int)(cs:List Int):markITo k cs 0=cs:=by simp[markITo,markIs]
theorem markITo_all(k:Int)(cs:List Int)(n:Nat)(h:cs.length=n):markITo k cs n=markIs k n:=by simp[markITo,<-h]
theorem markITo_parts(k:Int)(cs:List Int)(j:Nat)(x:Int)(h:cs[j]?=some x):(markITo k cs j).flatMap intCell=(markIs k j).flatMap intCell++(intCell x++(cs.drop (j+1)).flatMap intCell):=by
  obtain⟨hlt,rfl⟩:=List.getElem?_eq_some_iff.1 h
  unfold markITo
  rw[List.flatMap_append,List.drop_eq_getElem_cons hlt,List.flatMap_cons]
theorem markITo_next(k:Int)(cs:List Int)(j:Nat)(x:Int)(h:cs[j]?=some x):((markITo k cs j).flatMap intCell).set j (.int .i64 (k+(j:Int)))=(markITo k cs (j+1)).flatMap intCell:=by
  have hA:((markIs k j).flatMap intCell).length=j:=by rw[flat_length intCell 1 intCell_length,markIs_length,Nat.mul_one]
  rw[markITo_parts k cs j x h]
  have:=set1 ((markIs k j).flatMap intCell) ((cs.drop (j+1)).flatMap intCell) (.int .i64 x) (.int .i64 (k+(j:Int))) j hA
  refine this.trans ?_
  unfold markITo
  rw[markIs_succ,List.flatMap_append,List.flatMap_append,List.append_assoc]
  simp[intCell]
theorem grown_set'{w wr:World}{g:Nat}(h:w.grownBy wr (some g))(i:Nat)(x:Value):w.grownBy (wr.setCell ⟨g,i,none⟩ x) (some g):=
  ⟨h.os,h.tape,h.output,by rw[World.size_setCell];exact h.size,fun k hk hne=>(heap_setCell_other wr _ k x (fun e=>hne (by rw[e]))).trans (h.block k hk hne)⟩
theorem own_apart'{w w':World}{base:Nat}{e:TypeId}{s:Value}{k n:Nat}{xs:List Value}{row:Option Nat}(h:w.ownsRow base e k s n xs)(hg:w.grownBy w' row)(hne:∀g,s.ownBlock=some g->some g≠row):w'.ownsRow base e k s n xs:=by
  refine⟨h.1,?_⟩
  rcases h.2 with h|⟨g,cap,cur,rfl,hb1,hgg,hr⟩
  . exact .inl h
  . refine .inr ⟨g,cap,cur,rfl,hb1,?_,hr⟩
    rw[hg.block g (Array.getElem?_eq_some_iff.1 hgg).1 (hne g rfl)]
    exact hgg
def Apart(x y:Value×List Int):Prop:=∀g,x.1.ownBlock=some g->y.1.ownBlock≠some g
theorem Apart.symm{x y:Value×List Int}(h:Apart x y):Apart y x:=fun g hg e=>h g e hg
structure Fam(w:World)(base:Nat)(L:List (Value×List Int)):Prop where
  own:∀x∈L,w.ownsRow base 2 1 x.1 x.2.length (x.2.flatMap intCell)
  sep:L.Pairwise Apart
structure Wv(base:Nat)(w w':World):Prop where
  bel:Below base w w'
  blk:∀(k:Nat) (cur:Array Value) (t:TypeId),w.heap[k]?=some (Obj.cells cur t (0,0))->t≠2->w'.heap[k]?=some (Obj.cells cur t (0,0))
theorem Wv.refl(base:Nat)(w:World):Wv base w w:=⟨Below.refl _ _,fun _ _ _ h _=>h⟩
theorem Wv.trans{base:Nat}{u v w:World}(h:Wv base u v)(h':Wv base v w):Wv base u w:=⟨h.bel.trans h'.bel,fun k cur t hk h1=>h'.blk k cur t (h.blk k cur t hk h1) h1⟩
theorem Wv.of_row{base n:Nat}{w w':World}{s:Value}{xs:List Value}(ho:w.ownsRow base 2 1 s n xs)(hg:w.grownBy w' s.ownBlock)(hB:base<=w.heap.size):Wv base w w':=by
  refine⟨⟨hg.os,hg.tape,hg.output,hg.size,fun k hk=>hg.block k (by omega) (fun e=>by have:=(ho.lt k e.symm).1;omega)⟩,fun k cur t hk h1=> ?_⟩
  rw[hg.block k (Array.getElem?_eq_some_iff.1 hk).1 ?_]
  . exact hk
  . intro e
    rcases ho.2 with⟨rfl,_⟩|⟨g',cap',cur',rfl,_,hg',_⟩
    . cases e
    . simp only[Value.ownBlock,Option.some.injEq]at e
      subst e
      rw[hk]at hg'
      simp only[Option.some.injEq,Obj.cells.injEq]at hg'
      exact h1 hg'.2.1
theorem Wv.own{base b:Nat}{w w':World}(h:Wv base w w'){e:TypeId}{s:Value}{k n:Nat}{xs:List Value}(ho:w.ownsRow b e k s n xs)(h1:e≠2):w'.ownsRow b e k s n xs:=by
  refine⟨ho.1,?_⟩
  rcases ho.2 with h'|⟨g,cap,cur,e1,hb1,hg,hr⟩
  . exact .inl h'
  . exact .inr ⟨g,cap,cur,e1,hb1,h.blk g cur e hg h1,hr⟩
theorem Fam.put{w w':World}{base:Nat}{A B:List (Value×List Int)}{v:Value}{c c':List Int}(h:Fam w base (A++(v,c)::B))(hl:c'.length=c.length)(ho:w'.ownsRow base 2 1 v c.length (c'.flatMap intCell))(hg:w.grownBy w' v.ownBlock):Fam w' base (A++(v,c')::B):=by
  obtain⟨pA,pB,pAB⟩:=List.pairwise_append.1 h.sep
  obtain⟨pv,pB'⟩:=List.pairwise_cons.1 pB
  refine⟨fun x hx=> ?_,List.pairwise_append.2 ⟨pA,List.pairwise_cons.2 ⟨fun y hy=>pv y hy,pB'⟩,fun a ha b hb=> ?_⟩⟩
  . rcases List.mem_append.1 hx with hx|hx
    . exact own_apart' (h.own x (List.mem_append.2 (.inl hx))) hg (fun g hgx e=>pAB x hx (v,c) (by simp) g hgx e.symm)
    . rcases List.mem_cons.1 hx with rfl|hx
      . simp only[]
        rw[hl]
        exact ho
      . exact own_apart' (h.own x (List.mem_append.2 (.inr (List.mem_cons_of_mem _ hx)))) hg (fun g hgx e=>pv x hx g e.symm hgx)
  . rcases List.mem_cons.1 hb with rfl|hb
    . exact fun g hga=>pAB a ha (v,c) (by simp) g hga
    . exact pAB a ha b (List.mem_cons_of_mem _ hb)
end Go.Proofs.YtdfmdgbolmbffaaGreat
namespace Go.Proofs.YtdfmdgbolmbffaaGreat
open Go.ChangeShapes Go.WideShapes Go.ChangeAt Go.RowKit
set_option linter.unusedVariables false
structure MB where
  first:Int
  last:Int
  next:List Int
def bCells(x:MB×Value):List Value:=[.int .i64 x.1.first,.int .i64 x.1.last,x.2]
theorem bCells_length(x:MB×Value):(bCells x).length=3:=rfl
theorem infoB:(Tryz.prog.info? 71).map (fun i=>(i.zero,i.size,i.bytes))=some (some (.agg #[.int .i64 0,.int .i64 0,.slice none 0 0]),3,40):=by kernel_rfl
def nrows(F:List (MB×Value)):List (Value×List Int):=F.map fun x=>(x.2,x.1.next)
theorem type_apart{w:World}{base g k n:Nat}{e t:TypeId}{s:Value}{xs:List Value}{cur:Array Value}{fr:Nat×Nat}(h:w.ownsRow base e k s n xs)(hg:w.heap[g]?=some (Obj.cells cur t fr))(hne:e≠t):∀j,s.ownBlock=some j->j≠g:=by
  intro j hj e1
  subst e1
  rcases h.2 with⟨rfl,_⟩|⟨g',cap',cur',rfl,_,hg',_⟩
  . cases hj
  . simp only[Value.ownBlock,Option.some.injEq]at hj
    subst hj
    rw[hg]at hg'
    simp only[Option.some.injEq,Obj.cells.injEq]at hg'
    exact hne hg'.2.1.symm
theorem Fam.set{w:World}{base g:Nat}{L:List (Value×List Int)}(h:Fam w base L){cur:Array Value}{t:TypeId}{fr:Nat×Nat}(hg:w.heap[g]?=some (Obj.cells cur t fr))(hne:2≠t)(i:Nat)(x:Value):Fam (w.setCell ⟨g,i,none⟩ x) base L:=
  ⟨fun y hy=>ownsRow_setCell_other (h.own y hy) (a:=⟨g,i,none⟩) (fun e=>type_apart (h.own y hy) hg hne g e rfl) x,h.sep⟩
theorem own_blk{w:World}{base g k n c:Nat}{e:TypeId}{xs:List Value}(h:w.ownsRow base e k (.slice (some ⟨g,0,none⟩) n c) n xs):base<=g/\∃cur,w.heap[g]?=some (Obj.cells cur e (0,0)):=by
  rcases h.2 with⟨h',_⟩|⟨g',cap',cur,h',hb,hg,_⟩
  . cases h'
  . cases h'
    exact⟨hb,cur,hg⟩
end Go.Proofs.YtdfmdgbolmbffaaGreat
namespace Go.Proofs.YtdfmdgbolmbffaaGreat
open Go.ChangeShapes Go.WideShapes Go.ChangeAt Go.RowKit
set_option linter.unusedVariables false
def RdB(w:World)(v:Value)(f:MB):Prop:=Rd w 1 v f.next.length (f.next.flatMap intCell)
theorem RdB.keep{w w':World}{v:Value}{f:MB}(h:RdB w v f){B:Nat}(hb:Below B w w')(hB:w.heap.size<=B):RdB w' v f:=Rd.keep h hb hB
def RdBs(w:World)(s:Value)(fs:List MB):Prop:=∃xs:List (MB×Value),xs.map Prod.fst=fs/\Rd w 3 s fs.length (xs.flatMap bCells)/\∀x∈xs,RdB w x.2 x.1
theorem RdBs.keep{w w':World}{s:Value}{fs:List MB}(h:RdBs w s fs){B:Nat}(hb:Below B w w')(hB:w.heap.size<=B):RdBs w' s fs:=by
  obtain⟨xs,h1,h2,h3⟩:=h
  exact⟨xs,h1,h2.keep hb hB,fun x hx=>(h3 x hx).keep hb hB⟩
end Go.Proofs.YtdfmdgbolmbffaaGreat
namespace Go.Proofs.YtdfmdgbolmbffaaGreat
open Go.ChangeShapes Go.WideShapes Go.ChangeAt Go.RowKit
set_option linter.unusedVariables false
def goesB(x:MI):Bool:=decide (x.op=25)||decide (x.op=26)||decide (x.op=27)
def onB(x:MI):Bool:=decide (¬x.op=25)&&decide (¬x.op=29)
def CodeGood(xs:List MI):Prop:=1<=xs.length/\xs.length<=1024/\∀(i:Nat) (x:MI),xs[i]?=some x->goesB x=true->0<=x.c/\x.c<(xs.length:Int)
def leads(x:MI)(i j:Nat):Bool:=(goesB x&&decide (x.c=(j:Int)))||((goesB x||decide (x.op=29))&&decide (j=i+1))
def leadB(xs:List MI)(k j:Nat):Bool:=decide (j=0)||(List.range k).any fun i=>match xs[i]? with|some x=>leads x i j|none=>false
theorem leadB_zero(xs:List MI)(k:Nat):leadB xs k 0=true:=by simp[leadB]
theorem leadB_start(xs:List MI)(j:Nat):leadB xs 0 j=decide (j=0):=by simp[leadB]
theorem leadB_succ(xs:List MI)(k j:Nat)(x:MI)(hx:xs[k]?=some x):leadB xs (k+1) j=(leadB xs k j||leads x k j):=by
  simp[leadB,List.range_succ,hx,Bool.or_assoc]
theorem leadB_of(xs:List MI)(k i j:Nat)(x:MI)(hi:i<k)(hx:xs[i]?=some x)(h:leads x i j=true):leadB xs k j=true:=by
  simp only[leadB,Bool.or_eq_true,List.any_eq_true,List.mem_range]
  exact .inr ⟨i,hi,by rw[hx];exact h⟩
def lds(xs:List MI)(i:Nat):List Nat:=(List.range i).filter (leadB xs xs.length)
theorem lds_succ(xs:List MI)(i:Nat):lds xs (i+1)=if leadB xs xs.length i=true then lds xs i++[i]else lds xs i:=by
  unfold lds
  rw[List.range_succ,List.filter_append]
  by_cases h:leadB xs xs.length i=true
  . simp[h]
  . simp[h]
theorem lds_mem(xs:List MI)(i j:Nat):j∈lds xs i↔j<i/\leadB xs xs.length j=true:=by simp[lds]
theorem lds_sorted(xs:List MI)(i:Nat):(lds xs i).Pairwise (· < ·):=List.Pairwise.filter _ List.pairwise_lt_range
theorem lds_ne(xs:List MI)(i:Nat)(h:0<i):lds xs i≠[]:=fun e=>by
  have:=(lds_mem xs i 0).2 ⟨h,leadB_zero _ _⟩
  rw[e]at this
  cases this
theorem lds_split(xs:List MI)(i n:Nat)(h:i<=n):∃r,lds xs n=lds xs i++r:=by
  induction n with
  | zero=>
    obtain rfl:i=0:=by omega
    exact⟨[],by simp⟩
  | succ n ih=>
    by_cases hi:i=n+1
    . subst hi
      exact⟨[],by simp⟩
    . obtain⟨r,hr⟩:=ih (by omega)
      rw[lds_succ,hr]
      split
      . exact⟨r++[n],by simp⟩
      . exact⟨r,rfl⟩
theorem lds_idx(xs:List MI)(p n:Nat)(hp:p<n)(hl:leadB xs xs.length p=true):(lds xs n).idxOf p=(lds xs p).length/\(lds xs (p+1)).length=(lds xs p).length+1:=by
  have h1:=lds_succ xs p
  rw[if_pos hl]at h1
  obtain⟨r,hr⟩:=lds_split xs (p+1) n hp
  refine⟨?_,by rw[h1];simp⟩
  rw[hr,h1,List.append_assoc,List.idxOf_append,if_neg (by rw[lds_mem];omega)]
  simp
theorem lds_inj(xs:List MI)(p q n:Nat)(hp:p<n)(hq:q<n)(hlp:leadB xs xs.length p=true)(hlq:leadB xs xs.length q=true)(h:(lds xs n).idxOf p=(lds xs n).idxOf q):p=q:=by
  have h1:p∈lds xs n:=(lds_mem _ _ _).2 ⟨hp,hlp⟩
  have h2:q∈lds xs n:=(lds_mem _ _ _).2 ⟨hq,hlq⟩
  have e1:=List.getElem_idxOf (List.idxOf_lt_length_iff.2 h1)
  have e2:=List.getElem_idxOf (List.idxOf_lt_length_iff.2 h2)
  rw[<-e1,<-e2]
  congr 1
def setLast(bs:List MB)(i:Int):List MB:=match bs.getLast? with|some b=>bs.dropLast++[⟨b.first,i,b.next⟩]|none=>[]
theorem setLast_snoc(bs:List MB)(b:MB)(i:Int):setLast (bs++[b]) i=bs++[⟨b.first,i,b.next⟩]:=by simp[setLast]
def outL(xs:List MI):Nat->List MB
  |0=>[]
  |i+1=>setLast (if leadB xs xs.length i=true then outL xs i++[⟨i,0,[]⟩]else outL xs i) i
def build(L:List Nat)(e:Nat):List MB:=List.zipWith (fun(a b:Nat)=>(⟨(a:Int),(b:Int)-1,[]⟩:MB)) L (L.tail++[e])
theorem build_snoc(L:List Nat)(i e:Nat)(h:L≠[]):build (L++[i]) e=build L i++[⟨(i:Int),(e:Int)-1,[]⟩]:=by
  unfold build
  rw[List.tail_append_of_ne_nil h,List.append_assoc,show(L.tail++([i]++[e]))=(L.tail++[i])++[e]by simp,List.zipWith_append (by
    cases L with
    |nil=>exact absurd rfl h
    |cons a r=>simp)]
  rfl
theorem outL_build(xs:List MI)(i:Nat):outL xs i=build (lds xs i) i:=by
  induction i with
  |zero=>rfl
  | succ i ih=>
    simp only[outL]
    rw[lds_succ]
    by_cases h:leadB xs xs.length i=true
    . rw[if_pos h,if_pos h,setLast_snoc]
      by_cases h0:i=0
      . subst h0
        simp[outL,lds,build]
      . rw[build_snoc _ _ _ (lds_ne xs i (by omega)),ih]
        simp
    . rw[if_neg h,if_neg h]
      have h0:0<i:=by
        cases i with
        |zero=>exact absurd (leadB_zero _ _) h
        |succ i=>omega
      obtain⟨M,a,hM⟩:∃M a,lds xs i=M++[a]:=⟨_,_,(List.dropLast_concat_getLast (lds_ne xs i h0)).symm⟩
      rw[ih,hM]
      cases M with
      |nil=>simp[build,setLast]
      | cons m M=>
        rw[build_snoc _ _ _ (by simp),build_snoc _ _ _ (by simp),setLast_snoc]
        simp
theorem build_length(L:List Nat)(e:Nat):(build L e).length=L.length:=by
  unfold build
  cases L with
  |nil=>rfl
  |cons a r=>simp
theorem outL_length(xs:List MI)(i:Nat):(outL xs i).length=(lds xs i).length:=by rw[outL_build,build_length]
def numAt(xs:List MI)(i:Nat):Int:=((lds xs (i+1)).length:Int)-1
theorem numAt_lead(xs:List MI)(p n:Nat)(hp:p<n)(hl:leadB xs xs.length p=true):numAt xs p=((lds xs n).idxOf p:Int):=by
  have:=lds_idx xs p n hp hl
  unfold numAt
  omega
theorem numAt_eq(xs:List MI)(p q n:Nat)(hp:p<n)(hq:q<n)(hlp:leadB xs xs.length p=true)(hlq:leadB xs xs.length q=true):numAt xs p=numAt xs q↔p=q:=by
  rw[numAt_lead xs p n hp hlp,numAt_lead xs q n hq hlq]
  exact⟨fun h=>lds_inj xs p q n hp hq hlp hlq (by omega),fun h=>by rw[h]⟩
def placesL(xs:List MI)(x:MI)(e:Nat):List Int:=
  (if onB x=true/\e+1<xs.length then[((e+1:Nat):Int)]else[])++(if goesB x=true/\¬(onB x=true/\e+1<xs.length/\x.c=((e+1:Nat):Int))then[x.c]else[])
def nextS(xs:List MI)(x:MI)(e:Nat):List Int:=
  let n1:=if onB x=true/\e+1<xs.length then[numAt xs (e+1)]else[]
  n1++(if goesB x=true/\(n1=[]\/¬n1=[numAt xs x.c.toNat])then[numAt xs x.c.toNat]else[])
theorem end_lead(L:List Nat)(n b e:Nat)(m:MB)(h:(build L n)[b]?=some m)(he:m.last=(e:Int))(hn:e+1<n):e+1∈L:=by
  unfold build at h
  rw[List.getElem?_zipWith]at h
  cases h1:L[b]? with
  |none=>rw[h1]at h;simp at h
  | some a=>
    cases h2:(L.tail++[n])[b]? with
    |none=>rw[h1,h2]at h;simp at h
    | some q=>
      rw[h1,h2]at h
      simp only[Option.some.injEq]at h
      subst h
      simp only[]at he
      have hq:q=e+1:=by omega
      subst hq
      have:=List.mem_of_getElem? h2
      rcases List.mem_append.1 this with h3|h3
      . exact List.mem_of_mem_tail h3
      . simp at h3
        omega
theorem next_same(xs:List MI)(b e:Nat)(x:MI)(m:MB)(hg:CodeGood xs)(hb:(outL xs xs.length)[b]?=some m)(he:m.last=(e:Int))(hx:xs[e]?=some x):nextS xs x e=(placesL xs x e).map fun p=>((lds xs xs.length).idxOf p.toNat:Int):=by
  have hen:e<xs.length:=(List.getElem?_eq_some_iff.1 hx).1
  rw[outL_build]at hb
  have hl1:e+1<xs.length->leadB xs xs.length (e+1)=true:=fun h=>((lds_mem _ _ _).1 (end_lead _ _ _ _ _ hb he h)).2
  have hl2:goesB x=true->x.c.toNat<xs.length/\leadB xs xs.length x.c.toNat=true/\(x.c.toNat:Int)=x.c:=fun h=>by
    obtain⟨h1,h2⟩:=hg.2.2 e x hx h
    have h3:(x.c.toNat:Int)=x.c:=Int.toNat_of_nonneg h1
    exact⟨by omega,leadB_of xs _ e _ x hen hx (by simp[leads,h,h3]),h3⟩
  unfold nextS placesL
  by_cases h1:onB x=true/\e+1<xs.length
  . have n1:=numAt_lead xs (e+1) xs.length h1.2 (hl1 h1.2)
    simp only[if_pos h1]
    by_cases h2:goesB x=true
    . obtain⟨c1,c2,c3⟩:=hl2 h2
      have n2:=numAt_lead xs x.c.toNat xs.length c1 c2
      have n3:=numAt_eq xs (e+1) x.c.toNat xs.length h1.2 c1 (hl1 h1.2) c2
      by_cases h3:x.c=((e+1:Nat):Int)
      . have k1:¬(goesB x=true/\([numAt xs (e+1)]=[]\/¬[numAt xs (e+1)]=[numAt xs x.c.toNat])):=fun h=>h.2.elim (fun q=>by cases q) (fun q=>q (by rw[n3.2 (by omega)]))
        simp only[if_neg k1]
        rw[if_neg (fun h=>h.2 ⟨h1.1,h1.2,h3⟩)]
        simp[n1]
      . have k1:(goesB x=true/\([numAt xs (e+1)]=[]\/¬[numAt xs (e+1)]=[numAt xs x.c.toNat])):=⟨h2,.inr (fun q=>h3 (by have:=n3.1 (by simpa using q);omega))⟩
        simp only[if_pos k1]
        rw[if_pos ⟨h2,fun h=>h3 h.2.2⟩]
        simp[n1,n2]
    . simp only[h2,false_and,if_false,Bool.false_eq_true]
      simp[n1]
  . simp only[if_neg h1]
    by_cases h2:goesB x=true
    . obtain⟨c1,c2,c3⟩:=hl2 h2
      have n2:=numAt_lead xs x.c.toNat xs.length c1 c2
      have k1:(goesB x=true/\(True\/¬([]:List Int)=[numAt xs x.c.toNat])):=⟨h2,.inl trivial⟩
      rw[if_pos k1,if_pos ⟨h2,fun h=>h1 ⟨h.1,h.2.1⟩⟩]
      simp[n2]
    . simp only[h2,false_and,if_false,Bool.false_eq_true]
      rfl
end Go.Proofs.YtdfmdgbolmbffaaGreat
namespace Go.Proofs.YtdfmdgbolmbffaaGreat
set_option linter.unusedVariables false
inductive Rch (E:Nat->List Nat) (ok:Nat->Prop) (a:Nat):Nat->Prop
  |here:ok a->Rch E ok a a
  |step {b c:Nat}:Rch E ok a b->c∈E b->ok c->Rch E ok a c
inductive RchN (E:Nat->List Nat) (ok:Nat->Prop) (a:Nat):Nat->Nat->Prop
  |here (k:Nat):ok a->RchN E ok a k a
  |step {k b c:Nat}:RchN E ok a k b->c∈E b->ok c->RchN E ok a (k+1) c
section
variable {E:Nat->List Nat} {ok ok':Nat->Prop} {a b c:Nat}
theorem Rch.trans(h:Rch E ok a b)(h':Rch E ok b c):Rch E ok a c:=by
  induction h' with
  |here _=>exact h
  |step _ h2 h3 ih=>exact .step ih h2 h3
theorem Rch.mono(h:Rch E ok a b)(hw:∀x,ok x->ok' x):Rch E ok' a b:=by
  induction h with
  |here h=>exact .here (hw _ h)
  |step _ h2 h3 ih=>exact .step ih h2 (hw _ h3)
theorem Rch.okb(h:Rch E ok a b):ok b:=by
  cases h with
  |here h=>exact h
  |step _ _ h=>exact h
theorem Rch.ok0(h:Rch E ok a b):ok a:=by
  induction h with
  |here h=>exact h
  |step _ _ _ ih=>exact ih
theorem Rch.lt{n:Nat}(hE:∀b,b<n->∀x∈E b,x<n)(ha:a<n)(h:Rch E ok a b):b<n:=by
  induction h with
  |here _=>exact ha
  |step _ h2 _ ih=>exact hE _ ih _ h2
theorem RchN.mono{k k':Nat}(h:RchN E ok a k b)(hk:k<=k'):RchN E ok a k' b:=by
  induction h generalizing k' with
  |here k h=>exact .here _ h
  | step _ h2 h3 ih=>
    cases k' with
    |zero=>omega
    |succ k'=>exact .step (ih (by omega)) h2 h3
theorem RchN.rch{k:Nat}(h:RchN E ok a k b):Rch E ok a b:=by
  induction h with
  |here k h=>exact .here h
  |step _ h2 h3 ih=>exact .step ih h2 h3
theorem Rch.some(h:Rch E ok a b):∃k,RchN E ok a k b:=by
  induction h with
  |here h=>exact⟨0,.here _ h⟩
  | step _ h2 h3 ih=>
    obtain⟨k,hk⟩:=ih
    exact⟨k+1,.step hk h2 h3⟩
end
theorem one_bound(m:Nat)(Q:Nat->Nat->Prop)(hm:∀i k k',Q i k->k<=k'->Q i k')(P:Nat->Prop)(h:∀i,P i->∃k,Q i k):∃K,∀i,i<m->P i->Q i K:=by
  induction m with
  |zero=>exact⟨0,fun i hi=>absurd hi (Nat.not_lt_zero _)⟩
  | succ m ih=>
    obtain⟨K,hK⟩:=ih
    by_cases hp:P m
    . obtain⟨k,hk⟩:=h m hp
      refine⟨max K k,fun i hi hpi=> ?_⟩
      by_cases e:i=m
      . subst e
        exact hm _ _ _ hk (Nat.le_max_right _ _)
      . exact hm _ _ _ (hK i (by omega) hpi) (Nat.le_max_left _ _)
    . refine⟨K,fun i hi hpi=> ?_⟩
      by_cases e:i=m
      . subst e
        exact absurd hpi hp
      . exact hK i (by omega) hpi
theorem rch_bound(E:Nat->List Nat)(n:Nat):∃K,∀e,e<n->∀x,x<n->Rch E (· ≠e) 0 x->RchN E (· ≠e) 0 K x:=by
  have h1:∀e,∃k,∀x,x<n->Rch E (· ≠e) 0 x->RchN E (· ≠e) 0 k x:=fun e=>
    one_bound n (fun x k=>RchN E (· ≠e) 0 k x) (fun i k k' h hk=>h.mono hk) (fun x=>Rch E (· ≠e) 0 x) (fun i h=>h.some)
  obtain⟨K,hK⟩:=one_bound n (fun e k=>∀x,x<n->Rch E (· ≠e) 0 x->RchN E (· ≠e) 0 k x) (fun i k k' h hk x hx hr=>(h x hx hr).mono hk) (fun _=>True) (fun i _=>h1 i)
  exact⟨K,fun e he x hx hr=>hK e he trivial x hx hr⟩
def Dom(E:Nat->List Nat)(d b:Nat):Prop:=¬Rch E (· ≠d) 0 b
inductive Anc (I:Nat->Int) (d:Nat):Nat->Prop
  |here:Anc I d d
  |up {b c:Nat}:b≠0->I b=(c:Int)->Anc I d c->Anc I d b
def Kn(I:Nat->Int)(b:Nat):Prop:=b=0\/I b≠ -1
structure Tree(n:Nat)(pl:Nat->Nat)(I:Nat->Int):Prop where
  up:∀b,b<n->b≠0->I b≠ -1->∃c:Nat,I b=(c:Int)/\c<n/\pl c<pl b/\Kn I c
section
variable {n:Nat} {pl:Nat->Nat} {I J:Nat->Int} {d e b c x:Nat}
theorem Anc.trans(h:Anc I d c)(h':Anc I c b):Anc I d b:=by
  induction h' with
  |here=>exact h
  |up h1 h2 _ ih=>exact .up h1 h2 ih
theorem Anc.pls(ht:Tree n pl I)(hb:b<n)(h:Anc I d b):pl d<=pl b/\(d≠b->pl d<pl b)/\d<n:=by
  induction h with
  |here=>exact⟨Nat.le_refl _,fun h=>absurd rfl h,hb⟩
  | @up b c h1 h2 _ ih=>
    obtain⟨c',e,h3,h4,_⟩:=ht.up b hb h1 (by rw[h2];omega)
    obtain rfl:c'=c:=by omega
    obtain⟨i1,i2,i3⟩:=ih h3
    exact⟨by omega,fun _=>by omega,i3⟩
theorem Anc.zero(h:Anc I d 0):d=0:=by
  cases h with
  |here=>rfl
  |up h1=>exact absurd rfl h1
theorem Anc.cases'(h:Anc I d b)(hd:d≠b):b≠0/\∃c:Nat,I b=(c:Int)/\Anc I d c:=by
  cases h with
  |here=>exact absurd rfl hd
  |up h1 h2 h3=>exact⟨h1,_,h2,h3⟩
theorem Anc.anti(ht:Tree n pl I)(hb:b<n)(h:Anc I d b)(h':Anc I b d):d=b:=by
  have h1:=h.pls ht hb
  have h2:=h'.pls ht h1.2.2
  by_cases e:d=b
  . exact e
  . have:=h1.2.1 e
    omega
theorem Anc.turn(hI:∀y,y≠b->I y=J y)(h:Anc I d x):Anc J d x\/(Anc J b x/\Anc I b x/\Anc I d b):=by
  induction h with
  |here=>exact .inl .here
  | @up x c h1 h2 h3 ih=>
    by_cases e:x=b
    . subst e
      exact .inr ⟨.here,.here,.up h1 h2 h3⟩
    . rcases ih with ih|⟨i1,i2,i3⟩
      . exact .inl (.up h1 (by rw[<-hI x e];exact h2) ih)
      . exact .inr ⟨.up h1 (by rw[<-hI x e];exact h2) i1,.up h1 h2 i2,i3⟩
end
def MeetIs(I:Nat->Int)(a b m:Nat):Prop:=∀d,Anc I d m↔Anc I d a/\Anc I d b
theorem MeetIs.same(I:Nat->Int)(a:Nat):MeetIs I a a a:=fun d=>⟨fun h=>⟨h,h⟩,fun h=>h.1⟩
theorem MeetIs.symm{I:Nat->Int}{a b m:Nat}(h:MeetIs I a b m):MeetIs I b a m:=fun d=>(h d).trans And.comm
theorem MeetIs.left{n:Nat}{pl:Nat->Nat}{I:Nat->Int}{a b m c:Nat}(ht:Tree n pl I)(hb:b<n)(hp:pl b<pl a)(ha:a≠0)(hc:I a=(c:Int))(h:MeetIs I c b m):MeetIs I a b m:=fun d=>by
  rw[h d]
  refine⟨fun q=>⟨.up ha hc q.1,q.2⟩,fun q=>⟨?_,q.2⟩⟩
  by_cases e:d=a
  . subst e
    have:=(q.2.pls ht hb).1
    omega
  . obtain⟨_,c',e1,e2⟩:=q.1.cases' e
    obtain rfl:c'=c:=by omega
    exact e2
def CommonIs(n:Nat)(I:Nat->Int)(ps:List Nat)(z:Int):Prop:=(z=-1/\∀p∈ps,¬Kn I p)\/∃m:Nat,z=(m:Int)/\m<n/\Kn I m/\(∃p∈ps,Kn I p)/\∀d,Anc I d m↔∀p∈ps,Kn I p->Anc I d p
structure DInv(E:Nat->List Nat)(n:Nat)(pl:Nat->Nat)(I:Nat->Int):Prop where
  tree:Tree n pl I
  dom:∀x,x<n->Kn I x->∀d,Dom E d x->Anc I d x
  way:∀b c:Nat,b<n->b≠0->I b=(c:Int)->Rch E (fun x=>pl c<=pl x) c b
def UInv(E:Nat->List Nat)(n:Nat)(pl:Nat->Nat)(I:Nat->Int)(k j:Nat):Prop:=∀x,x<n->Kn I x->∀e,Anc I e x->¬RchN E (· ≠e) 0 k x/\(pl x<j->¬RchN E (· ≠e) 0 (k+1) x)
theorem DInv.down{E:Nat->List Nat}{n:Nat}{pl:Nat->Nat}{I:Nat->Int}(h:DInv E n pl I){b x:Nat}(hx:x<n)(ha:Anc I b x):Rch E (fun y=>pl b<=pl y) b x:=by
  induction ha with
  |here=>exact .here (Nat.le_refl _)
  | @up x c h1 h2 h3 ih=>
    obtain⟨c',e,h4,h5,_⟩:=h.tree.up x hx h1 (by rw[h2];omega)
    obtain rfl:c'=c:=by omega
    have hp:=(h3.pls h.tree h4).1
    exact(ih h4).trans ((h.way x c' hx h1 h2).mono fun y hy=>by omega)
theorem RchN.split{E:Nat->List Nat}{e b k x:Nat}(h:RchN E (· ≠e) 0 k x):RchN E (· ≠b) 0 k x\/RchN E (· ≠e) 0 k b:=by
  induction h with
  | here k h=>
    by_cases q:(0:Nat)=b
    . subst q;exact .inr (.here _ h)
    . exact .inl (.here _ q)
  | @step k p c h1 h2 h3 ih=>
    rcases ih with ih|ih
    . by_cases q:c=b
      . subst q;exact .inr (.step h1 h2 h3)
      . exact .inl (.step ih h2 q)
    . exact .inr (ih.mono (by omega))
def Preds(E:Nat->List Nat)(n b:Nat)(ps:List Nat):Prop:=∀p,p∈ps↔p<n/\b∈E p
theorem dom_pred{E:Nat->List Nat}{n b d:Nat}{ps:List Nat}(hps:Preds E n b ps)(h:Dom E d b)(hd:d≠b):∀p∈ps,Dom E d p:=fun p hp hr=>h (.step hr ((hps p).1 hp).2 hd.symm)
theorem dom_of_preds{E:Nat->List Nat}{n b d:Nat}{ps:List Nat}(hE:∀b,b<n->∀x∈E b,x<n)(hn:0<n)(hps:Preds E n b ps)(hb:b≠0)(h:∀p∈ps,Dom E d p):Dom E d b:=fun hr=>by
  cases hr with
  |here _=>exact hb rfl
  |step h1 h2 _=>exact h _ ((hps _).2 ⟨h1.lt hE hn,h2⟩) h1
structure Place(E:Nat->List Nat)(n:Nat)(pl:Nat->Nat):Prop where
  pos:0<n
  edge:∀b,b<n->∀x∈E b,x<n
  zero:pl 0=0
  first:∀b,b<n->b≠0->0<pl b
  inj:∀a b,a<n->b<n->pl a=pl b->a=b
  par:∀b,b<n->b≠0->∃q,q<n/\b∈E q/\pl q<pl b
section
variable {E:Nat->List Nat} {n:Nat} {pl:Nat->Nat} {I J:Nat->Int} {b m k:Nat} {ps:List Nat}
theorem common_up(hP:Place E n pl)(hD:DInv E n pl I)(hb:b<n)(hb0:b≠0)(hps:Preds E n b ps)(hkn:∀x,x<n->pl x<pl b->Kn I x){z:Int}(hc:CommonIs n I ps z):∃m:Nat,z=(m:Int)/\m<n/\Kn I m/\pl m<pl b/\∀d,Anc I d m↔∀p∈ps,Kn I p->Anc I d p:=by
  obtain⟨q,q1,q2,q3⟩:=hP.par b hb hb0
  have qk:=hkn q q1 q3
  have qp:=(hps q).2 ⟨q1,q2⟩
  rcases hc with⟨_,h⟩|⟨m,h1,h2,h3,_,h4⟩
  . exact absurd qk (h q qp)
  . have:=((h4 m).1 .here q qp qk).pls hD.tree q1
    exact⟨m,h1,h2,h3,by omega,h4⟩
theorem DInv.set(hP:Place E n pl)(hD:DInv E n pl I)(hb:b<n)(hb0:b≠0)(hps:Preds E n b ps)(hkn:∀x,x<n->pl x<pl b->Kn I x)(hm:m<n)(hmk:Kn I m)(hml:pl m<pl b)(hmd:∀d,Anc I d m↔∀p∈ps,Kn I p->Anc I d p)(hJ:∀y,y≠b->I y=J y)(hJb:J b=(m:Int)):DInv E n pl J/\(∀x,Kn I x->Kn J x)/\(∀x,Kn J x->x=b\/Kn I x)/\(∀d,Anc I d m↔Anc J d m):=by
  have hk1:∀x,Kn I x->Kn J x:=fun x h=>by
    by_cases e:x=b
    . subst e;exact .inr (by rw[hJb];omega)
    . rcases h with h|h
      . exact .inl h
      . exact .inr (by rw[<-hJ x e];exact h)
  have hk2:∀x,Kn J x->x=b\/Kn I x:=fun x h=>by
    by_cases e:x=b
    . exact .inl e
    . rcases h with h|h
      . exact .inr (.inl h)
      . exact .inr (.inr (by rw[hJ x e];exact h))
  have hT:Tree n pl J:=⟨fun x hx h0 h1=>by
    by_cases e:x=b
    . subst e
      exact⟨m,hJb,hm,hml,hk1 m hmk⟩
    . obtain⟨c,c1,c2,c3,c4⟩:=hD.tree.up x hx h0 (by rw[hJ x e];exact h1)
      exact⟨c,by rw[<-hJ x e];exact c1,c2,c3,hk1 c c4⟩⟩
  have hmm:∀d,Anc I d m↔Anc J d m:=fun d=>by
    constructor
    . intro h
      rcases h.turn hJ with h|⟨_,h2,_⟩
      . exact h
      . have:=(h2.pls hD.tree hm).1
        omega
    . intro h
      rcases h.turn (fun y hy=>(hJ y hy).symm)with h|⟨_,h2,_⟩
      . exact h
      . have:=(h2.pls hT hm).1
        omega
  have hdb:∀d,Dom E d b->Anc J d b:=fun d hd=>by
    by_cases e:d=b
    . subst e;exact .here
    . refine .up hb0 hJb ((hmm d).1 ((hmd d).2 fun p hp hk=>hD.dom p ((hps p).1 hp).1 hk d (dom_pred hps hd e p hp)))
  refine⟨⟨hT,fun x hx hk d hd=> ?_,fun x c hx h0 hc=> ?_⟩,hk1,hk2,hmm⟩
  . by_cases e:x=b
    . subst e;exact hdb d hd
    . have hkI:=(hk2 x hk).resolve_left e
      rcases(hD.dom x hx hkI d hd).turn hJ with h|⟨h1,h2,h3⟩
      . exact h
      . by_cases e2:d=b
        . subst e2;exact h1
        . refine(hdb d fun hr=>hd (hr.trans ((hD.down hx h2).mono fun y hy q=> ?_))).trans h1
          subst q
          have:=(h3.pls hD.tree hb).2.1 e2
          omega
  . by_cases e:x=b
    . subst e
      obtain rfl:c=m:=by omega
      obtain⟨q,q1,q2,q3⟩:=hP.par x hx h0
      have qa:=(hmd c).1 .here q ((hps q).2 ⟨q1,q2⟩) (hkn q q1 q3)
      exact .step (hD.down q1 qa) q2 (Nat.le_of_lt hml)
    . exact hD.way x c hx h0 (by rw[hJ x e];exact hc)
theorem UInv.set(hP:Place E n pl)(hD:DInv E n pl I)(hU:UInv E n pl I k (pl b))(hb:b<n)(hb0:b≠0)(hps:Preds E n b ps)(hkn:∀x,x<n->pl x<pl b->Kn I x)(hall:k=0\/∀x,x<n->Kn I x)(hm:m<n)(hmk:Kn I m)(hml:pl m<pl b)(hmd:∀d,Anc I d m↔∀p∈ps,Kn I p->Anc I d p)(hJ:∀y,y≠b->I y=J y)(hJb:J b=(m:Int)):UInv E n pl J k (pl b+1):=by
  obtain⟨hDJ,hk1,hk2,hmm⟩:=hD.set hP hb hb0 hps hkn hm hmk hml hmd hJ hJb
  have hub:∀e,Anc J e b->¬RchN E (· ≠e) 0 (k+1) b:=fun e he hr=>by
    by_cases q:e=b
    . subst q
      exact hr.rch.okb rfl
    . obtain⟨_,c,c1,c2⟩:=he.cases' q
      obtain rfl:c=m:=by omega
      have hall':=(hmd e).1 ((hmm e).2 c2)
      cases hr with
      |here _ h=>exact hb0 rfl
      | @step _ p _ h1 h2 h3=>
        have hp:p<n:=h1.rch.lt hP.edge hP.pos
        have hpk:Kn I p:=by
          rcases hall with rfl|h
          . cases h1
            exact .inl rfl
          . exact h p hp
        exact(hU p hp hpk e (hall' p ((hps p).2 ⟨hp,h2⟩) hpk)).1 h1
  intro x hx hk e he
  by_cases q:x=b
  . subst q
    exact⟨fun h=>hub e he (h.mono (by omega)),fun _=>hub e he⟩
  . have hkI:=(hk2 x hk).resolve_left q
    rcases he.turn (fun y hy=>(hJ y hy).symm)with h|⟨h1,h2,h3⟩
    . refine⟨(hU x hx hkI e h).1,fun hl=>(hU x hx hkI e h).2 ?_⟩
      by_cases e2:pl x=pl b
      . exact absurd (hP.inj x b hx hb e2) q
      . omega
    . refine⟨fun hr=> ?_,fun hl=> ?_⟩
      . rcases hr.split (b:=b)with hr|hr
        . exact(hU x hx hkI b h1).1 hr
        . exact hub e h3 (hr.mono (by omega))
      . have:=(h1.pls hD.tree hx).2.1 (Ne.symm q)
        omega
theorem fix_dom(hP:Place E n pl)(hD:DInv E n pl I)(hall:∀x,x<n->Kn I x)(pr:Nat->List Nat)(hpr:∀b,b<n->Preds E n b (pr b))(hfix:∀b,b<n->b≠0->CommonIs n I (pr b) (I b)){d x:Nat}(hx:x<n):Anc I d x↔Dom E d x:=by
  refine⟨fun ha hr=> ?_,hD.dom x hx (hall x hx) d⟩
  induction hr with
  |here h=>exact h (Anc.zero ha).symm
  | @step p c h1 h2 h3 ih=>
    have hp:p<n:=h1.lt hP.edge hP.pos
    obtain⟨h0,m,e1,e2⟩:=ha.cases' (Ne.symm h3)
    have hps:=hpr c hx
    obtain⟨m',f1,_,_,_,f2⟩:=common_up hP hD hx h0 hps (fun y hy _=>hall y hy) (hfix c hx h0)
    obtain rfl:m'=m:=by omega
    exact ih hp ((f2 d).1 e2 p ((hps p).2 ⟨hp,h2⟩) (hall p hp))
theorem dom_fix(hP:Place E n pl)(hD:DInv E n pl I)(hall:∀x,x<n->Kn I x)(hdom:∀x,x<n->∀d,Anc I d x->Dom E d x)(hb:b<n)(hb0:b≠0)(hps:Preds E n b ps){z:Int}(hc:CommonIs n I ps z):z=I b:=by
  obtain⟨m,h1,h2,h3,h4,h5⟩:=common_up hP hD hb hb0 hps (fun y hy _=>hall y hy) hc
  obtain⟨c,c1,c2,c3,c4⟩:=hD.tree.up b hb hb0 ((hall b hb).resolve_left hb0)
  have key:∀d,Anc I d m↔Anc I d c:=fun d=>by
    constructor
    . intro h
      have hd:d≠b:=fun e=>by
        have:=(h.pls hD.tree h2).1
        rw[e]at this
        omega
      have h6:Dom E d b:=dom_of_preds hP.edge hP.pos hps hb0 fun p hp=>hdom p ((hps p).1 hp).1 d ((h5 d).1 h p hp (hall p ((hps p).1 hp).1))
      obtain⟨_,c',e1,e2⟩:=(hD.dom b hb (hall b hb) d h6).cases' hd
      obtain rfl:c'=c:=by omega
      exact e2
    . intro h
      have hd:d≠b:=fun e=>by
        have:=(h.pls hD.tree c2).1
        rw[e]at this
        omega
      have h6:=hdom b hb d (.up hb0 c1 h)
      exact(h5 d).2 fun p hp hk=>hD.dom p ((hps p).1 hp).1 hk d (dom_pred hps h6 hd p hp)
  have:=Anc.anti hD.tree c2 ((key m).1 .here) ((key c).2 .here)
  rw[h1,c1,this]
theorem DInv.start(hI:∀y,I y=-1):DInv E n pl I:=⟨⟨fun b _ _ h=>absurd (hI b) h⟩,fun x hx hk d hd=>by
  obtain rfl:x=0:=hk.resolve_right fun h=>h (hI x)
  by_cases e:d=0
  . subst e;exact .here
  . exact absurd (.here (Ne.symm e)) hd,fun b c _ _ h=>by rw[hI b]at h;omega⟩
theorem UInv.start(hP:Place E n pl)(hI:∀y,I y=-1):UInv E n pl I 0 1:=fun x hx hk e he=>by
  obtain rfl:x=0:=hk.resolve_right fun h=>h (hI x)
  obtain rfl:=he.zero
  exact⟨fun h=>h.rch.ok0 rfl,fun _ h=>h.rch.ok0 rfl⟩
theorem UInv.pass(hP:Place E n pl)(hU:UInv E n pl I k n)(hpn:∀x,x<n->pl x<n):UInv E n pl I (k+1) 1:=fun x hx hk e he=>by
  refine⟨(hU x hx hk e he).2 (hpn x hx),fun hl=> ?_⟩
  by_cases q:x=0
  . subst q
    obtain rfl:=he.zero
    exact fun h=>h.rch.ok0 rfl
  . have:=hP.first x hx q
    omega
end
inductive Vs (E:Nat->List Nat):List Nat->List Nat->List Nat->List Nat->List Nat->Prop
  |nil (S O:List Nat):Vs E S O [] S O
  |old {S O r S' O':List Nat} {b:Nat}:b∈S->Vs E S O r S' O'->Vs E S O (b::r) S' O'
  |new {S O r S1 O1 S2 O2:List Nat} {b:Nat}:b∉S->Vs E (b::S) O (E b) S1 O1->Vs E S1 (O1++[b]) r S2 O2->Vs E S O (b::r) S2 O2
theorem Vs.one{E:Nat->List Nat}{S O r S1 O1 S2 O2:List Nat}(h:Vs E S O r S1 O1)(h':Vs E S O r S2 O2):S1=S2/\O1=O2:=by
  induction h generalizing S2 O2 with
  |nil S O=>cases h' with|nil=>exact⟨rfl,rfl⟩
  | old h1 _ ih=>
    cases h' with
    |old _ h3=>exact ih h3
    |new h3=>exact absurd h1 h3
  | new h1 _ _ ih1 ih2=>
    cases h' with
    |old h3=>exact absurd h3 h1
    | new _ h3 h4=>
      obtain⟨rfl,rfl⟩:=ih1 h3
      exact ih2 h4
theorem Vs.app{E:Nat->List Nat}{S O r r' S1 O1 S2 O2:List Nat}(h:Vs E S O r S1 O1)(h':Vs E S1 O1 r' S2 O2):Vs E S O (r++r') S2 O2:=by
  induction h with
  |nil S O=>exact h'
  |old h1 _ ih=>exact .old h1 (ih h')
  |new h1 h2 _ _ ih=>exact .new h1 h2 (ih h')
structure Told(E:Nat->List Nat)(S O r S' O' N:List Nat):Prop where
  out:O'=O++N
  seen:∀x,x∈S'↔x∈S\/x∈N
  nodup:N.Nodup
  fresh:∀x∈N,x∉S
  todo:∀x∈r,x∈S'
  closed:∀x∈N,∀y∈E x,y∈S'
  par:∀x∈N,x∈r\/∃p A B C,N=A++x::B++p::C/\x∈E p
  from_:∀x∈N,∃t∈r,Rch E (· ∉S) t x
theorem Vs.told{E:Nat->List Nat}{S O r S' O':List Nat}(h:Vs E S O r S' O'):∃N,Told E S O r S' O' N:=by
  induction h with
  |nil S O=>exact⟨[],by simp,by simp,List.nodup_nil,by simp,by simp,by simp,by simp,by simp⟩
  | @old S O r S' O' b h1 _ ih=>
    obtain⟨N,t⟩:=ih
    refine⟨N,t.out,t.seen,t.nodup,t.fresh,fun x hx=> ?_,t.closed,fun x hx=> ?_,fun x hx=> ?_⟩
    . rcases List.mem_cons.1 hx with rfl|hx
      . exact(t.seen x).2 (.inl h1)
      . exact t.todo x hx
    . rcases t.par x hx with h|h
      . exact .inl (List.mem_cons_of_mem _ h)
      . exact .inr h
    . obtain⟨y,h2,h3⟩:=t.from_ x hx
      exact⟨y,List.mem_cons_of_mem _ h2,h3⟩
  | @new S O r S1 O1 S2 O2 b h1 _ _ ih1 ih2=>
    obtain⟨N1,t1⟩:=ih1
    obtain⟨N2,t2⟩:=ih2
    have hs1:∀x,x∈S1↔x=b\/x∈S\/x∈N1:=fun x=>by rw[t1.seen,List.mem_cons,or_assoc]
    have hs2:∀x,x∈S2↔x=b\/x∈S\/x∈N1\/x∈N2:=fun x=>by
      rw[t2.seen,hs1]
      constructor
      . rintro((h|h|h)|h)
        . exact .inl h
        . exact .inr (.inl h)
        . exact .inr (.inr (.inl h))
        . exact .inr (.inr (.inr h))
      . rintro(h|h|h|h)
        . exact .inl (.inl h)
        . exact .inl (.inr (.inl h))
        . exact .inl (.inr (.inr h))
        . exact .inr h
    have hm:∀x,x∈N1++b::N2↔x=b\/x∈N1\/x∈N2:=fun x=>by
      rw[List.mem_append,List.mem_cons]
      constructor
      . rintro(h|h|h)
        . exact .inr (.inl h)
        . exact .inl h
        . exact .inr (.inr h)
      . rintro(h|h|h)
        . exact .inr (.inl h)
        . exact .inl h
        . exact .inr (.inr h)
    refine⟨N1++b::N2,?_,fun x=> ?_,?_,fun x hx=> ?_,fun x hx=> ?_,fun x hx y hy=> ?_,fun x hx=> ?_,fun x hx=> ?_⟩
    . rw[t2.out,t1.out];simp
    . rw[hs2,hm]
      constructor
      . rintro(h|h|h)
        . exact .inr (.inl h)
        . exact .inl h
        . exact .inr (.inr h)
      . rintro(h|h|h)
        . exact .inr (.inl h)
        . exact .inl h
        . exact .inr (.inr h)
    . rw[List.nodup_append]
      refine⟨t1.nodup,List.nodup_cons.2 ⟨fun h=>t2.fresh b h ((hs1 b).2 (.inl rfl)),t2.nodup⟩,fun x hx y hy e=> ?_⟩
      subst e
      rcases List.mem_cons.1 hy with rfl|hy
      . exact t1.fresh x hx (List.mem_cons_self ..)
      . exact t2.fresh x hy ((hs1 x).2 (.inr (.inr hx)))
    . rcases(hm x).1 hx with rfl|h|h
      . exact h1
      . exact fun q=>t1.fresh x h (List.mem_cons_of_mem _ q)
      . exact fun q=>t2.fresh x h ((hs1 x).2 (.inr (.inl q)))
    . rcases List.mem_cons.1 hx with rfl|hx
      . exact(hs2 x).2 (.inl rfl)
      . exact t2.todo x hx
    . rcases(hm x).1 hx with rfl|h|h
      . exact(t2.seen y).2 (.inl (t1.todo y hy))
      . exact(t2.seen y).2 (.inl (t1.closed x h y hy))
      . exact t2.closed x h y hy
    . rcases(hm x).1 hx with rfl|h|h
      . exact .inl (List.mem_cons_self ..)
      . rcases t1.par x h with q|⟨p,A,B,C,q1,q2⟩
        . obtain⟨A,B,rfl⟩:=List.append_of_mem h
          exact .inr ⟨b,A,B,N2,by simp,q⟩
        . exact .inr ⟨p,A,B,C++b::N2,by rw[q1];simp,q2⟩
      . rcases t2.par x h with q|⟨p,A,B,C,q1,q2⟩
        . exact .inl (List.mem_cons_of_mem _ q)
        . exact .inr ⟨p,N1++b::A,B,C,by rw[q1];simp,q2⟩
    . rcases(hm x).1 hx with rfl|h|h
      . exact⟨x,List.mem_cons_self ..,.here h1⟩
      . obtain⟨t,q1,q2⟩:=t1.from_ x h
        have q3:Rch E (· ∉S) t x:=q2.mono fun y hy q=>hy (List.mem_cons_of_mem _ q)
        exact⟨b,List.mem_cons_self ..,(Rch.step (.here h1) q1 q3.ok0).trans q3⟩
      . obtain⟨t,q1,q2⟩:=t2.from_ x h
        exact⟨t,List.mem_cons_of_mem _ q1,q2.mono fun y hy q=>hy ((hs1 y).2 (.inr (.inl q)))⟩
theorem Told.iff{E:Nat->List Nat}{S O r S' O' N:List Nat}(t:Told E S O r S' O' N)(x:Nat):x∈N↔∃q∈r,Rch E (· ∉S) q x:=by
  refine⟨t.from_ x,?_⟩
  rintro⟨q,h1,h2⟩
  induction h2 with
  |here h=>exact((t.seen _).1 (t.todo _ h1)).resolve_left h
  |step _ h3 h4 ih=>exact((t.seen _).1 (t.closed _ ih _ h3)).resolve_left h4
def unseen(S:List Nat)(n:Nat):Nat:=((List.range n).filter fun i=> !S.contains i).length
theorem unseen_cons(S:List Nat)(n x:Nat)(hx:x<n)(hn:x∉S):unseen (x::S) n+1=unseen S n:=by
  unfold unseen
  induction n with
  |zero=>omega
  | succ n ih=>
    rw[List.range_succ,List.filter_append,List.filter_append,List.length_append,List.length_append]
    by_cases e:x=n
    . subst e
      have h1:(List.range x).filter (fun i=> !(x::S).contains i)=(List.range x).filter (fun i=> !S.contains i):=by
        apply List.filter_congr
        intro i hi
        have:i≠x:=by
          have:=List.mem_range.1 hi
          omega
        simp[this]
      rw[h1]
      simp[hn]
    . have:=ih (by omega)
      have e2:((x::S).contains n)=S.contains n:=by
        have:¬n=x:=fun q=>e q.symm
        simp[this]
      rw[List.filter_cons,List.filter_cons,e2]
      simp only[List.filter_nil]
      omega
theorem unseen_nil(n:Nat):unseen [] n=n:=by
  unfold unseen
  simp only[List.contains_nil,Bool.not_false]
  rw[List.filter_eq_self.2 (fun a _=>rfl),List.length_range]
theorem nodup_le(L:List Nat)(n:Nat)(hl:∀x∈L,x<n)(hd:L.Nodup):L.length+unseen L n=n:=by
  induction L with
  |nil=>simp[unseen_nil]
  | cons x L ih=>
    obtain⟨h1,h2⟩:=List.nodup_cons.1 hd
    have:=ih (fun y hy=>hl y (List.mem_cons_of_mem _ hy)) h2
    have:=unseen_cons L n x (hl x (List.mem_cons_self ..)) h1
    rw[List.length_cons]
    omega
def plO(O:List Nat)(b:Nat):Nat:=O.reverse.idxOf b
theorem plO_lt{O:List Nat}{b:Nat}(h:b∈O):plO O b<O.length:=by
  have:b∈O.reverse:=List.mem_reverse.2 h
  have:=List.idxOf_lt_length_iff.2 this
  unfold plO
  simpa using this
theorem plO_at{O:List Nat}{b:Nat}(h:b∈O):O.reverse[plO O b]?=some b:=by
  have h':b∈O.reverse:=List.mem_reverse.2 h
  have h2:=List.idxOf_lt_length_iff.2 h'
  unfold plO
  rw[List.getElem?_eq_getElem h2,List.getElem_idxOf]
theorem plO_inj{O:List Nat}{a b:Nat}(ha:a∈O)(hb:b∈O)(h:plO O a=plO O b):a=b:=by
  have h1:=plO_at ha
  have h2:=plO_at hb
  rw[h,h2]at h1
  exact(Option.some.inj h1).symm
theorem plO_split{O A B C:List Nat}{x p:Nat}(hd:O.Nodup)(h:O=A++x::B++p::C):plO O p<plO O x:=by
  unfold plO
  subst h
  have e1:(A++x::B++p::C).reverse=C.reverse++p::(B.reverse++x::A.reverse):=by simp
  have hd':(C.reverse++p::(B.reverse++x::A.reverse)).Nodup:=by rw[<-e1];exact List.pairwise_reverse.2 (hd.imp Ne.symm)
  rw[e1]
  obtain⟨d1,d2,d3⟩:=List.nodup_append.1 hd'
  obtain⟨d4,d5⟩:=List.nodup_cons.1 d2
  have hp:p∉C.reverse:=fun q=>d3 p q p (List.mem_cons_self ..) rfl
  have hx:x∉C.reverse:=fun q=>d3 x q x (by simp) rfl
  have hpx:p≠x:=fun q=>d4 (by rw[q];simp)
  rw[List.idxOf_append,List.idxOf_append,if_neg hp,if_neg hx,List.idxOf_cons,List.idxOf_cons]
  have:(p==x)=false:=by simpa using hpx
  simp[this]
theorem order_place{E:Nat->List Nat}{n:Nat}(hn:0<n)(hE:∀b,b<n->∀x∈E b,x<n){S O:List Nat}(h:Vs E [] [] [0] S O)(hall:∀b,b<n->b∈S):Place E n (plO O)/\O.Nodup/\O.length=n/\(∀x,x∈O↔x<n)/\O.reverse[0]?=some 0:=by
  obtain⟨N,t⟩:=h.told
  obtain rfl:O=N:=by simpa using t.out
  have hm:∀x,x∈O↔x<n:=fun x=>by
    constructor
    . intro hx
      obtain⟨q,h1,h2⟩:=t.from_ x hx
      have:q=0:=by simpa using h1
      subst this
      exact h2.lt hE hn
    . intro hx
      have:=(t.seen x).1 (hall x hx)
      simpa using this
  have hlen:O.length=n:=by
    have h1:=nodup_le O n (fun x hx=>(hm x).1 hx) t.nodup
    have:unseen O n=0:=by
      unfold unseen
      rw[List.length_eq_zero_iff,List.filter_eq_nil_iff]
      intro a ha
      simp[(hm a).2 (List.mem_range.1 ha)]
    omega
  have hend:∃M,O=M++[0]:=by
    cases h with
    |old h1=>cases h1
    | new _ h2 h3=>
      cases h3 with
      |nil=>exact⟨_,rfl⟩
  obtain⟨M,hM⟩:=hend
  have h0:O.reverse[0]?=some 0:=by rw[hM];simp
  have hz:plO O 0=0:=by unfold plO;rw[hM];simp
  refine⟨⟨hn,hE,hz,fun b hb h0=> ?_,fun a b ha hb=>plO_inj ((hm a).2 ha) ((hm b).2 hb),fun b hb hb0=> ?_⟩,t.nodup,hlen,hm,h0⟩
  . rcases Nat.eq_zero_or_pos (plO O b)with e|e
    . exact absurd (plO_inj ((hm b).2 hb) ((hm 0).2 hn) (by rw[e,hz])) h0
    . exact e
  . rcases t.par b ((hm b).2 hb)with q|⟨p,A,B,C,q1,q2⟩
    . exact absurd (by simpa using q) hb0
    . exact⟨p,(hm p).1 (by rw[q1];simp),q2,plO_split t.nodup q1⟩
section
variable {E:Nat->List Nat} {n:Nat} {pl:Nat->Nat} {b c d k:Nat}
theorem Dom.self(E:Nat->List Nat)(d:Nat):Dom E d d:=fun h=>h.okb rfl
theorem Dom.of_zero(h:Dom E d 0):d=0:=by
  by_cases e:d=0
  . exact e
  . exact absurd (.here (Ne.symm e)) h
theorem Dom.zero(E:Nat->List Nat)(b:Nat):Dom E 0 b:=fun h=>h.ok0 rfl
theorem Rch.split{e x:Nat}(h:Rch E (· ≠e) 0 x):Rch E (· ≠b) 0 x\/Rch E (· ≠e) 0 b:=by
  induction h with
  | here h=>
    by_cases q:(0:Nat)=b
    . subst q;exact .inr (.here h)
    . exact .inl (.here q)
  | @step p c h1 h2 h3 ih=>
    rcases ih with ih|ih
    . by_cases q:c=b
      . subst q;exact .inr (.step h1 h2 h3)
      . exact .inl (.step ih h2 q)
    . exact .inr ih
theorem Dom.trans(h:Dom E k d)(h':Dom E d c):Dom E k c:=fun hr=>by
  rcases hr.split (b:=d)with hr|hr
  . exact h' hr
  . exact h hr
theorem Dom.way(hP:Place E n pl)(hb:b<n)(h:Dom E d b):Rch E (fun x=>pl d<=pl x) d b/\pl d<=pl b/\(d≠b->pl d<pl b):=by
  suffices ∀m b,pl b<=m->b<n->Dom E d b->Rch E (fun x=>pl d<=pl x) d b/\pl d<=pl b/\(d≠b->pl d<pl b)from this _ b (Nat.le_refl _) hb h
  intro m
  induction m with
  | zero=>
    intro b h1 h2 h3
    by_cases e:d=b
    . subst e;exact⟨.here (Nat.le_refl _),Nat.le_refl _,fun q=>absurd rfl q⟩
    . by_cases e0:b=0
      . subst e0;exact absurd h3.of_zero e
      . have:=hP.first b h2 e0
        omega
  | succ m ih=>
    intro b h1 h2 h3
    by_cases e:d=b
    . subst e;exact⟨.here (Nat.le_refl _),Nat.le_refl _,fun q=>absurd rfl q⟩
    . by_cases e0:b=0
      . subst e0;exact absurd h3.of_zero e
      . obtain⟨q,q1,q2,q3⟩:=hP.par b h2 e0
        obtain⟨i1,i2,_⟩:=ih q (by omega) q1 fun hr=>h3 (.step hr q2 (Ne.symm e))
        exact⟨.step i1 q2 (by omega),by omega,fun _=>by omega⟩
theorem Dom.anti(hP:Place E n pl)(hb:b<n)(hd:d<n)(h:Dom E d b)(h':Dom E b d):d=b:=by
  by_cases e:d=b
  . exact e
  . have:=(h.way hP hb).2.2 e
    have:=(h'.way hP hd).2.1
    omega
def IdomIs(E:Nat->List Nat)(b c:Nat):Prop:=c≠b/\Dom E c b/\∀d,d≠b->Dom E d b->Dom E d c
theorem IdomIs.one(hP:Place E n pl){c':Nat}(hc:c<n)(hc':c'<n)(h:IdomIs E b c)(h':IdomIs E b c'):c=c':=Dom.anti hP hc' hc (h'.2.2 c h.1 h.2.1) (h.2.2 c' h'.1 h'.2.1)
theorem max_pl(P:Nat->Prop)(pl:Nat->Nat)(B:Nat)(hB:∀d,P d->pl d<=B)(h:∃d,P d):∃c,P c/\∀d,P d->pl d<=pl c:=by
  obtain⟨d,hd⟩:=h
  suffices ∀m d,P d->B<=pl d+m->∃c,P c/\∀d,P d->pl d<=pl c from this B d hd (by omega)
  intro m
  induction m with
  | zero=>
    intro d hd h
    exact⟨d,hd,fun e he=>by have:=hB e he;omega⟩
  | succ m ih=>
    intro d hd h
    by_cases q:∃e,P e/\pl d<pl e
    . obtain⟨e,h1,h2⟩:=q
      exact ih e h1 (by omega)
    . exact⟨d,hd,fun e he=>by
        by_cases r:pl e<=pl d
        . exact r
        . exact absurd ⟨e,he,by omega⟩ q⟩
theorem dom_lt(hP:Place E n pl)(hr:∀x,x<n->Rch E (fun _=>True) 0 x)(hb:b<n)(h:Dom E d b):d<n:=by
  by_cases e:d<n
  . exact e
  . refine absurd ?_ h
    have h1:=hr b hb
    clear h
    induction h1 with
    |here _=>exact .here (by omega)
    | step q1 q2 q3 ih=>
      have h3:=q1.lt hP.edge hP.pos
      exact .step (ih h3) q2 (by omega)
theorem idom_ex(hP:Place E n pl)(hr:∀x,x<n->Rch E (fun _=>True) 0 x)(hb:b<n)(h0:b≠0):∃c,c<n/\IdomIs E b c:=by
  obtain⟨c,⟨c1,c2⟩,c3⟩:=max_pl (fun d=>d≠b/\Dom E d b) pl (pl b) (fun d h=>(h.2.way hP hb).2.1) ⟨0,Ne.symm h0,Dom.zero E b⟩
  refine⟨c,dom_lt hP hr hb c2,c1,c2,fun d d1 d2 hq=> ?_⟩
  by_cases e:d=c
  . subst e
    exact hq.okb rfl
  . have hlt:pl d<pl c:=by
      have h1:=c3 d ⟨d1,d2⟩
      have h2:=hP.inj d c (dom_lt hP hr hb d2) (dom_lt hP hr hb c2)
      by_cases q:pl d=pl c
      . exact absurd (h2 q) e
      . omega
    exact d2 (hq.trans (((c2.way hP hb).1).mono fun x hx q=>by subst q;omega))
end
def cntD(D:Nat->Nat->Bool)(n d:Nat):Nat:=((List.range n).filter fun k=>D k d).length
theorem filter_less(P Q:Nat->Bool)(n c:Nat)(h:∀k,k<n->P k=true->Q k=true)(hc:c<n)(h1:P c=false)(h2:Q c=true):((List.range n).filter P).length<((List.range n).filter Q).length:=by
  have key:∀m,m<=n->((List.range m).filter P).length+(if c<m then 1 else 0)<=((List.range m).filter Q).length:=by
    intro m
    induction m with
    |zero=>simp
    | succ m ih=>
      intro hm
      have:=ih (by omega)
      rw[List.range_succ,List.filter_append,List.filter_append,List.length_append,List.length_append]
      by_cases e:m=c
      . subst e
        simp only[List.filter_cons,h1,h2,List.filter_nil]
        simp at this⊢
        omega
      . have hlt:(c<m+1)=(c<m):=by simp;omega
        simp only[hlt]
        cases hp:P m with
        | false=>
          simp only[List.filter_cons,hp,List.filter_nil]
          simp only[Bool.false_eq_true,if_false,List.length_nil]
          omega
        | true=>
          have hq:=h m (by omega) hp
          simp only[List.filter_cons,hp,hq,List.filter_nil]
          simp only[if_true,List.length_cons,List.length_nil]
          omega
  have:=key n (Nat.le_refl _)
  rw[if_pos hc]at this
  omega
theorem cnt_less{E:Nat->List Nat}{n:Nat}{pl:Nat->Nat}{D:Nat->Nat->Bool}(hP:Place E n pl)(hD:∀d b,D d b=true↔Dom E d b){c d:Nat}(hc:c<n)(hd:d<n)(h:Dom E d c)(hne:d≠c):cntD D n d<cntD D n c:=by
  refine filter_less _ _ n c (fun k _ hk=>(hD k c).2 (((hD k d).1 hk).trans h)) hc ?_ ((hD c c).2 (Dom.self E c))
  cases q:D c d with
  |false=>rfl
  |true=>exact absurd (Dom.anti hP hc hd h ((hD c d).1 q)) hne
def BestTo(D:Nat->Nat->Bool)(n b j:Nat)(best most:Int):Prop:=(best=-1/\most=-1/\∀d,d<j->¬(d≠b/\D d b=true))\/∃c:Nat,c<j/\best=(c:Int)/\most=(cntD D n c:Int)/\c≠b/\D c b=true/\∀d,d<j->d≠b->D d b=true->cntD D n d<=cntD D n c
theorem BestTo.end_{E:Nat->List Nat}{n:Nat}{pl:Nat->Nat}{D:Nat->Nat->Bool}(hP:Place E n pl)(hr:∀x,x<n->Rch E (fun _=>True) 0 x)(hD:∀d b,D d b=true↔Dom E d b){b:Nat}{best most:Int}(hb:b<n)(h:BestTo D n b n best most):(b=0/\best=-1)\/b≠0/\∃c:Nat,c<n/\best=(c:Int)/\IdomIs E b c:=by
  by_cases h0:b=0
  . subst h0
    rcases h with⟨h1,_⟩|⟨c,_,_,_,h2,h3,_⟩
    . exact .inl ⟨rfl,h1⟩
    . exact absurd ((hD c 0).1 h3).of_zero h2
  . obtain⟨c,hc,hi⟩:=idom_ex hP hr hb h0
    refine .inr ⟨h0,c,hc,?_,hi⟩
    rcases h with⟨_,_,h1⟩|⟨d,h1,h2,_,h3,h4,h5⟩
    . exact absurd ⟨hi.1,(hD c b).2 hi.2.1⟩ (h1 c hc)
    . by_cases e:d=c
      . rw[h2,e]
      . have h6:=hi.2.2 d h3 ((hD d b).1 h4)
        have h7:=cnt_less hP hD hc h1 h6 e
        have h8:=h5 c hc hi.1 ((hD c b).2 hi.2.1)
        omega
theorem BestTo.start(D:Nat->Nat->Bool)(n b:Nat):BestTo D n b 0 (-1) (-1):=.inl ⟨rfl,rfl,fun d hd=>by omega⟩
theorem BestTo.skip{D:Nat->Nat->Bool}{n b j:Nat}{best most:Int}(h:BestTo D n b j best most)(hj:¬(j≠b/\D j b=true)):BestTo D n b (j+1) best most:=by
  rcases h with⟨h1,h2,h3⟩|⟨c,h1,h2,h3,h4,h5,h6⟩
  . exact .inl ⟨h1,h2,fun d hd=>by
      by_cases e:d=j
      . subst e;exact hj
      . exact h3 d (by omega)⟩
  . exact .inr ⟨c,by omega,h2,h3,h4,h5,fun d hd d1 d2=>by
      by_cases e:d=j
      . subst e;exact absurd ⟨d1,d2⟩ hj
      . exact h6 d (by omega) d1 d2⟩
theorem BestTo.less{D:Nat->Nat->Bool}{n b j:Nat}{best most:Int}(h:BestTo D n b j best most)(hm:(cntD D n j:Int)<=most):BestTo D n b (j+1) best most:=by
  rcases h with⟨h1,h2,h3⟩|⟨c,h1,h2,h3,h4,h5,h6⟩
  . omega
  . exact .inr ⟨c,by omega,h2,h3,h4,h5,fun d hd d1 d2=>by
      by_cases e:d=j
      . subst e;omega
      . exact h6 d (by omega) d1 d2⟩
theorem BestTo.more{D:Nat->Nat->Bool}{n b j:Nat}{best most:Int}(h:BestTo D n b j best most)(h1:j≠b)(h2:D j b=true)(hm:most<(cntD D n j:Int)):BestTo D n b (j+1) (j:Int) (cntD D n j:Int):=by
  refine .inr ⟨j,by omega,rfl,rfl,h1,h2,fun d hd d1 d2=> ?_⟩
  by_cases e:d=j
  . subst e;omega
  . rcases h with⟨_,_,h3⟩|⟨c,_,_,h3,_,_,h6⟩
    . exact absurd ⟨d1,d2⟩ (h3 d (by omega))
    . have:=h6 d (by omega) d1 d2
      omega
def fromL(E:Nat->List Nat)(n b:Nat):List Nat:=(List.range n).flatMap fun p=>((E p).filter fun x=>decide (x=b)).map fun _=>p
def backL(E:Nat->List Nat)(D:Nat->Nat->Bool)(n h:Nat):List Nat:=(List.range n).flatMap fun p=>((E p).filter fun x=>decide (x=h)&&D h p).map fun _=>p
theorem fromL_mem(E:Nat->List Nat)(n b p:Nat):p∈fromL E n b↔p<n/\b∈E p:=by
  simp only[fromL,List.mem_flatMap,List.mem_range,List.mem_map,List.mem_filter,decide_eq_true_eq]
  constructor
  . rintro⟨q,h1,x,⟨h2,rfl⟩,rfl⟩
    exact⟨h1,h2⟩
  . rintro⟨h1,h2⟩
    exact⟨p,h1,b,⟨h2,rfl⟩,rfl⟩
theorem fromL_preds(E:Nat->List Nat)(n b:Nat):Preds E n b (fromL E n b):=fromL_mem E n b
theorem backL_mem(E:Nat->List Nat)(D:Nat->Nat->Bool)(n h p:Nat):p∈backL E D n h↔p<n/\h∈E p/\D h p=true:=by
  simp only[backL,List.mem_flatMap,List.mem_range,List.mem_map,List.mem_filter,Bool.and_eq_true,decide_eq_true_eq]
  constructor
  . rintro⟨q,h1,x,⟨h2,rfl,h3⟩,rfl⟩
    exact⟨h1,h2,h3⟩
  . rintro⟨h1,h2,h3⟩
    exact⟨p,h1,h,⟨h2,rfl,h3⟩,rfl⟩
def InLoop(E:Nat->List Nat)(D:Nat->Nat->Bool)(n h x:Nat):Prop:=x=h\/∃t∈backL E D n h,Rch (fromL E n) (· ≠h) t x
structure FirstBad(E:Nat->List Nat)(n:Nat)(bad:Nat->Nat->Prop)(b k x:Nat):Prop where
  lt:b<n
  at_:(E b)[k]?=some x
  is:bad b x
  less:∀b' k' x',b'<n->(E b')[k']?=some x'->b'<b\/(b'=b/\k'<k)->¬bad b' x'
theorem FirstBad.one{E:Nat->List Nat}{n:Nat}{bad:Nat->Nat->Prop}{b k x b' k' x':Nat}(h:FirstBad E n bad b k x)(h':FirstBad E n bad b' k' x'):x=x':=by
  by_cases e:b=b'
  . subst e
    by_cases e2:k=k'
    . subst e2
      have h1:=h.at_
      rw[h'.at_]at h1
      exact(Option.some.inj h1).symm
    . rcases Nat.lt_or_gt_of_ne e2 with q|q
      . exact absurd h.is (h'.less b k x h.lt h.at_ (.inr ⟨rfl,q⟩))
      . exact absurd h'.is (h.less b k' x' h'.lt h'.at_ (.inr ⟨rfl,q⟩))
  . rcases Nat.lt_or_gt_of_ne e with q|q
    . exact absurd h.is (h'.less b k x h.lt h.at_ (.inl q))
    . exact absurd h'.is (h.less b' k' x' h'.lt h'.at_ (.inl q))
def Bad(O:List Nat)(D:Nat->Nat->Bool)(b x:Nat):Prop:=plO O x<=plO O b/\¬D x b=true
end Go.Proofs.YtdfmdgbolmbffaaGreat
namespace Go.Proofs.YtdfmdgbolmbffaaGreat
open Go.ChangeShapes Go.WideShapes Go.ChangeAt Go.RowKit
set_option linter.unusedVariables false
set_option maxHeartbeats 1000000 in
theorem l5Goes_any(x:MI)(w:World):Calls Tryz.prog 48 #[.int .i64 x.op] w fun e w'=>e=.returned (.bool (goesB x))/\w'=w:=by
  by_cases h1:x.op=25
  . have e:goesB x=true:=by simp[goesB,h1]
    rw[e,h1]
    go_enter Tryz.func48,Tryz.ntmps48
    go_wp2
    go_ret
    exact⟨rfl,rfl⟩
  . by_cases h2:x.op=26
    . have e:goesB x=true:=by simp[goesB,h2]
      rw[e,h2]
      go_enter Tryz.func48,Tryz.ntmps48
      go_wp2
      go_ret
      exact⟨rfl,rfl⟩
    . by_cases h3:x.op=27
      . have e:goesB x=true:=by simp[goesB,h3]
        rw[e,h3]
        go_enter Tryz.func48,Tryz.ntmps48
        go_wp2
        go_ret
        exact⟨rfl,rfl⟩
      . have e:goesB x=false:=by simp[goesB,h1,h2,h3]
        have q1:(x.op==25)=false:=by simpa using h1
        have q2:(x.op==26)=false:=by simpa using h2
        have q3:(x.op==27)=false:=by simpa using h3
        rw[e]
        generalize x.op=op at h1 h2 h3 q1 q2 q3
        go_enter Tryz.func48,Tryz.ntmps48
        go_wp2
        go_ret
        exact⟨rfl,rfl⟩
set_option maxHeartbeats 2000000 in
set_option maxRecDepth 100000 in
theorem l5Good_any(s:Value)(xs:List MI)(w:World)(hn:xs.length<=1048576)(h:Rd w 4 s xs.length (xs.flatMap MI.cells)):
    Calls Tryz.prog 102 #[s] w fun e w'=>SaysIff e (CodeGood xs)/\w'=w:=by
  have H:Hid (Rd w 4 s xs.length (xs.flatMap MI.cells)):=h
  obtain⟨a1,c1,rfl⟩:=h.is_slice
  clear h
  generalize hLL:xs.length=n at hn H
  have HL:Hid (xs.length=n):=hLL
  clear hLL
  by_cases q0:n<1
  . have HN:Hid (¬CodeGood xs):=fun e=>by have:=e.1;rw[HL.out]at this;omega
    have q0':(n:Int)<1:=by omega
    go_enter Tryz.func102,Tryz.ntmps102
    go_wp2
    go_ret
    exact⟨.no HN.out,rfl⟩
  have q0':¬(n:Int)<1:=by omega
  by_cases q1:1024<n
  . have HN:Hid (¬CodeGood xs):=fun e=>by have:=e.2.1;rw[HL.out]at this;omega
    have q1':(1024:Int)<(n:Int):=by omega
    go_enter Tryz.func102,Tryz.ntmps102
    go_wp2
    go_ret
    exact⟨.no HN.out,rfl⟩
  have q1':¬(1024:Int)<(n:Int):=by omega
  go_enter Tryz.func102,Tryz.ntmps102
  go_wp2
  go_loopw [4] (fun i wr=>∃k:Nat,k<=n/\i=.int .i64 k/\Hid (∀j,j<k->∀x,xs[j]?=some x->goesB x=true->0<=x.c/\x.c<(n:Int))/\wr=w) (fun i _=>n-(intOf i).toNat)
  case atStart=>exact⟨0,by omega,rfl,fun j hj=>by omega,rfl⟩
  case round=>
    obtain⟨k,hk,rfl,HT,rfl⟩:=hrel
    by_cases hlt:k<n
    . obtain ⟨x,hx⟩:∃x,xs[k]?=some x:=⟨_,List.getElem?_eq_getElem (by rw[HL.out];exact hlt)⟩
      have HX:Hid (xs[k]?=some x):=hx
      rcases H.out.2 with⟨e0,_⟩|⟨g,o,c,e1,hc1⟩
      . omega
      simp only[Value.slice.injEq,true_and]at e1
      obtain⟨rfl,rfl⟩:=e1
      have i0:=Rd.elem MI.cells_length hc1 k _ hx 0 _ rfl
      have i3:=Rd.elem MI.cells_length hc1 k _ hx 3 _ rfl
      rw[Nat.add_zero]at i0
      clear hc1 hx
      have hkL:(k:Int)<(n:Int):=by omega
      go_wp2_with fail
      refine(l5Goes_any x _).mono ?_
      rintro e u ⟨rfl,rfl⟩
      cases hgo:goesB x
      . have HN:Hid (∀j,j<k+1->∀x,xs[j]?=some x->goesB x=true->0<=x.c/\x.c<(n:Int)):=fun j hj y hy hg=>by
          by_cases e:j=k
          . subst e
            rw[HX.out]at hy
            cases hy
            rw[hgo]at hg
            cases hg
          . exact HT.out j (by omega) y hy hg
        go_wp2
        go_roundw
        case rel=>exact⟨k+1,by omega,by go_num,HN,by trivial⟩
        case measure=>simp[intOf];omega
      . by_cases r0:x.c<0
        . have HN:Hid (¬CodeGood xs):=fun e=>by have:=e.2.2 k x HX.out hgo;omega
          go_wp2
          go_ret
          exact⟨.no HN.out,rfl⟩
        . by_cases r1:(n:Int)<=x.c
          . have HN:Hid (¬CodeGood xs):=fun e=>by have:=e.2.2 k x HX.out hgo;rw[HL.out]at this;omega
            go_wp2
            go_ret
            exact⟨.no HN.out,rfl⟩
          . have HN:Hid (∀j,j<k+1->∀x,xs[j]?=some x->goesB x=true->0<=x.c/\x.c<(n:Int)):=fun j hj y hy hg=>by
              by_cases e:j=k
              . subst e
                rw[HX.out]at hy
                cases hy
                omega
              . exact HT.out j (by omega) y hy hg
            go_wp2
            go_roundw
            case rel=>exact⟨k+1,by omega,by go_num,HN,by trivial⟩
            case measure=>simp[intOf];omega
    . have HY:Hid (CodeGood xs):=⟨by rw[HL.out];omega,by rw[HL.out];omega,fun i x hi hg=>by
        have hlt:=(List.getElem?_eq_some_iff.1 hi).1
        rw[HL.out]at hlt⊢
        exact HT.out i (by omega) x hi hg⟩
      go_wp2
      go_ret
      exact⟨.yes HY.out,rfl⟩
end Go.Proofs.YtdfmdgbolmbffaaGreat
namespace Go.Proofs.YtdfmdgbolmbffaaGreat
open Go.ChangeShapes Go.WideShapes Go.ChangeAt Go.RowKit
set_option linter.unusedVariables false
theorem infoBool:(Tryz.prog.info? 4).map (fun i=>(i.zero,i.size,i.bytes))=some (some (.bool false),1,1):=by kernel_rfl
theorem own_grown{w w':World}{base B:Nat}{e e':TypeId}{s v:Value}{k k' n m:Nat}{xs bs:List Value}(h:w.ownsRow base e k s n xs)(hg:w.grownBy w' v.ownBlock)(ho:w.ownsRow B e' k' v m bs)(hne:e≠e'):w'.ownsRow base e k s n xs:=by
  refine⟨h.1,?_⟩
  rcases h.2 with h|⟨g,cap,cur,e1,hb1,hgg,hr⟩
  . exact .inl h
  . refine .inr ⟨g,cap,cur,e1,hb1,?_,hr⟩
    rw[hg.block g (Array.getElem?_eq_some_iff.1 hgg).1 ?_]
    . exact hgg
    . intro hv
      rcases ho.2 with⟨rfl,_⟩|⟨g',cap',cur',rfl,_,hg',_⟩
      . cases hv
      . simp only[Value.ownBlock,Option.some.injEq]at hv
        subst hv
        rw[hgg]at hg'
        simp only[Option.some.injEq,Obj.cells.injEq]at hg'
        exact hne hg'.2.1
def leadV(xs:List MI)(k n:Nat):List Value:=(List.range (n+1)).map fun j=>Value.bool (leadB xs k j)
theorem leadV_length(xs:List MI)(k n:Nat):(leadV xs k n).length=n+1:=by simp[leadV]
theorem leadV_at(xs:List MI)(k n j:Nat)(hj:j<=n):(leadV xs k n)[j]?=some (.bool (leadB xs k j)):=by simp[leadV,show j<n+1 by omega]
theorem leadV_zero(xs:List MI)(n:Nat):(List.replicate (n+1) (Value.bool false)).set 0 (.bool true)=leadV xs 0 n:=by
  apply List.ext_getElem?
  intro j
  by_cases hj:j<n+1
  . rw[leadV_at _ _ _ _ (by omega),leadB_start]
    by_cases h0:j=0
    . subst h0
      simp
    . rw[List.getElem?_set_ne (by omega)]
      simp[h0,hj]
  . rw[List.getElem?_eq_none (by simp;omega),List.getElem?_eq_none (by simp[leadV];omega)]
theorem leadV_set(xs:List MI)(k n c:Nat)(hc:c<=n)(P:Nat->Bool)(h:∀j,P j=(leadB xs k j||decide (j=c))):(leadV xs k n).set c (.bool true)=(List.range (n+1)).map fun j=>Value.bool (P j):=by
  apply List.ext_getElem?
  intro j
  by_cases hj:j<n+1
  . by_cases h0:j=c
    . subst h0
      rw[List.getElem?_set_self (by rw[leadV_length];omega)]
      simp[hj,h]
    . rw[List.getElem?_set_ne (by omega),leadV_at _ _ _ _ (by omega)]
      simp[hj,h,h0]
  . rw[List.getElem?_eq_none (by simp[leadV];omega),List.getElem?_eq_none (by simp;omega)]
theorem leadV_set2(P:Nat->Bool)(n c:Nat)(hc:c<=n)(Q:Nat->Bool)(h:∀j,Q j=(P j||decide (j=c))):((List.range (n+1)).map fun j=>Value.bool (P j)).set c (.bool true)=(List.range (n+1)).map fun j=>Value.bool (Q j):=by
  apply List.ext_getElem?
  intro j
  by_cases hj:j<n+1
  . by_cases h0:j=c
    . subst h0
      rw[List.getElem?_set_self (by simp;omega)]
      simp[hj,h]
    . rw[List.getElem?_set_ne (by omega)]
      simp[hj,h,h0]
  . rw[List.getElem?_eq_none (by simp;omega),List.getElem?_eq_none (by simp;omega)]
theorem lead_goes(xs:List MI)(k n c:Nat)(x:MI)(hx:xs[k]?=some x)(hg:goesB x=true)(hc:x.c=(c:Int))(hcn:c<=n)(hk:k+1<=n):((leadV xs k n).set c (.bool true)).set (k+1) (.bool true)=leadV xs (k+1) n:=by
  rw[leadV_set xs k n c hcn (fun j=>leadB xs k j||decide (j=c)) (fun j=>rfl)]
  refine(leadV_set2 _ n (k+1) hk (fun j=>leadB xs (k+1) j) (fun j=> ?_)).trans rfl
  rw[leadB_succ xs k j x hx]
  have e:decide ((c:Int)=(j:Int))=decide (j=c):=by
    by_cases h:j=c
    . simp[h]
    . have:¬(c:Int)=(j:Int):=by omega
      simp[h,this]
  simp[leads,hg,hc,e,Bool.or_assoc]
theorem lead_ret(xs:List MI)(k n:Nat)(x:MI)(hx:xs[k]?=some x)(hg:goesB x=false)(hr:x.op=29)(hk:k+1<=n):(leadV xs k n).set (k+1) (.bool true)=leadV xs (k+1) n:=by
  rw[leadV_set xs k n (k+1) hk (fun j=>leadB xs (k+1) j) (fun j=> ?_)]
  . rfl
  . rw[leadB_succ xs k j x hx]
    simp[leads,hg,hr]
theorem lead_none(xs:List MI)(k n:Nat)(x:MI)(hx:xs[k]?=some x)(hg:goesB x=false)(hr:¬x.op=29):leadV xs k n=leadV xs (k+1) n:=by
  unfold leadV
  congr 1
  funext j
  rw[leadB_succ xs k j x hx]
  simp[leads,hg,hr]
def numC(xs:List MI)(j:Nat):List Value:=intCell (numAt xs j)
theorem numC_length(xs:List MI)(j:Nat):(numC xs j).length=1:=rfl
def bc0(m:MB):List Value:=[.int .i64 m.first,.int .i64 m.last,.slice none 0 0]
theorem bc0_length(m:MB):(bc0 m).length=3:=rfl
theorem bc0_set(bs:List MB)(b:MB)(i:Int):((bs++[b]).flatMap bc0).set (bs.length*3+1) (.int .i64 i)=(bs++[(⟨b.first,i,b.next⟩:MB)]).flatMap bc0:=by
  have hA:(bs.flatMap bc0).length=bs.length*3:=flat_length bc0 3 bc0_length bs
  simp only[List.flatMap_append,List.flatMap_cons,List.flatMap_nil,List.append_nil]
  rw[List.set_append_right _ _ (by omega),hA]
  simp[bc0]
theorem last_nat(xs:List MI)(n:Nat)(h:1<=n)(m:MB)(hm:m∈outL xs n):∃e:Nat,m.last=(e:Int)/\e<n:=by
  rw[outL_build]at hm
  unfold build at hm
  obtain⟨i,hi⟩:=List.getElem?_of_mem hm
  rw[List.getElem?_zipWith]at hi
  cases h1:(lds xs n)[i]? with
  |none=>rw[h1]at hi;simp at hi
  | some a=>
    cases h2:((lds xs n).tail++[n])[i]? with
    |none=>rw[h1,h2]at hi;simp at hi
    | some q=>
      rw[h1,h2]at hi
      simp only[Option.some.injEq]at hi
      subst hi
      have hq:1<=q/\q<=n:=by
        rcases List.mem_append.1 (List.mem_of_getElem? h2)with h3|h3
        . have hs:=lds_sorted xs n
          have hlt:=((lds_mem xs n q).1 (List.mem_of_mem_tail h3)).1
          cases hL:lds xs n with
          |nil=>rw[hL]at h3;cases h3
          | cons y r=>
            rw[hL]at hs h3
            have:=(List.pairwise_cons.1 hs).1 q h3
            omega
        . simp at h3
          omega
      exact⟨q-1,by simp only[];omega,by omega⟩
end Go.Proofs.YtdfmdgbolmbffaaGreat
namespace Go.Proofs.YtdfmdgbolmbffaaGreat
open Go.ChangeShapes Go.WideShapes Go.ChangeAt Go.RowKit
set_option linter.unusedVariables false
def bcell(b:Bool):List Value:=[.bool b]
structure SW(w u:World)(xs:List MI)(n k q:Nat)(V:Value):Prop where
  lead:u.ownsRow w.heap.size 4 1 (.slice (some ⟨w.heap.size+1,0,none⟩) (n+1) (n+1)) (n+1) (leadV xs n n)
  num:u.ownsRow w.heap.size 2 1 (.slice (some ⟨q,0,none⟩) n n) n (flatTo (numC xs) [.int .i64 0] (List.range n) k n)
  out:u.ownsRow w.heap.size 71 3 V (outL xs k).length ((outL xs k).flatMap bc0)
  bel:Below w.heap.size w u
theorem row_ne{u:World}{B B' g g' k k' n n' c c':Nat}{e e':TypeId}{xs ys:List Value}(h:u.ownsRow B e k (.slice (some ⟨g,0,none⟩) n c) n xs)(h':u.ownsRow B' e' k' (.slice (some ⟨g',0,none⟩) n' c') n' ys)(hne:e≠e'):¬g=g':=fun eq=>by
  subst eq
  obtain⟨_,cur,h1⟩:=own_blk h
  obtain⟨_,cur',h2⟩:=own_blk h'
  rw[h1]at h2
  simp only[Option.some.injEq,Obj.cells.injEq]at h2
  exact hne h2.2.1
theorem own_set_ne{u:World}{B B' g k k' n n' c:Nat}{e e':TypeId}{s:Value}{xs ys:List Value}(h:u.ownsRow B e k s n xs)(h':u.ownsRow B' e' k' (.slice (some ⟨g,0,none⟩) n' c) n' ys)(hne:e≠e')(i:Nat)(z:Value):(u.setCell ⟨g,i,none⟩ z).ownsRow B e k s n xs:=by
  obtain⟨_,cur,h1⟩:=own_blk h'
  exact ownsRow_setCell_other h (a:=⟨g,i,none⟩) (fun q=>type_apart h h1 hne _ q rfl) z
theorem SW.fin{w u:World}{xs:List MI}{n k q gg cap:Nat}{bs:List MB}{b:MB}(hk:k<n)(h1:u.ownsRow w.heap.size 4 1 (.slice (some ⟨w.heap.size+1,0,none⟩) (n+1) (n+1)) (n+1) (leadV xs n n))(h2:u.ownsRow w.heap.size 2 1 (.slice (some ⟨q,0,none⟩) n n) n (flatTo (numC xs) [.int .i64 0] (List.range n) k n))(h3:u.ownsRow w.heap.size 71 3 (.slice (some ⟨gg,0,none⟩) (bs.length+1) cap) (bs.length+1) ((bs++[b]).flatMap bc0))(h4:Below w.heap.size w u)(ho:outL xs (k+1)=bs++[(⟨b.first,(k:Int),b.next⟩:MB)])(hm:numAt xs k=(bs.length:Int)):
    SW w ((u.setCell ⟨q,k,none⟩ (.int .i64 bs.length)).setCell ⟨gg,bs.length*3+1,none⟩ (.int .i64 k)) xs n (k+1) q (.slice (some ⟨gg,0,none⟩) (bs.length+1) cap):=by
  have hq:w.heap.size<=q:=(own_blk h2).1
  have hg:w.heap.size<=gg:=(own_blk h3).1
  have g1:=own_set_ne h1 h2 (by decide) k (.int .i64 bs.length)
  have g3:=own_set_ne h3 h2 (by decide) k (.int .i64 bs.length)
  have g2:=(h2.stored k (.int .i64 bs.length)).1
  have e2:(flatTo (numC xs) [.int .i64 0] (List.range n) k n).set k (.int .i64 bs.length)=flatTo (numC xs) [.int .i64 0] (List.range n) (k+1) n:=by
    rw[flatTo_parts _ _ _ _ _ hk,set1 _ _ _ _ k (by rw[flat_length (numC xs) 1 (numC_length xs),List.length_take,List.length_range];omega),flatTo_next (numC xs) _ _ k n k (by simp[hk])]
    simp[numC,intCell,hm]
  rw[e2]at g2
  refine⟨own_set_ne g1 g3 (by decide) _ _,own_set_ne g2 g3 (by decide) _ _,?_,(h4.setCell hq _).setCell hg _⟩
  have g4:=(g3.stored (bs.length*3+1) (.int .i64 k)).1
  rw[bc0_set]at g4
  rw[ho,List.length_append,List.length_singleton]
  exact g4
theorem begSW{w wr w3:World}{xs:List MI}{k j q gg cap:Nat}{v:Value}(h:SW w wr xs k j q v)(ho:outL xs (j+1)=outL xs j++[(⟨(j:Int),(j:Int),[]⟩:MB)])(hm:numAt xs j=((outL xs j).length:Int))(hj:j<k)(hown:w3.ownsRow w.heap.size 71 3 (.slice (some ⟨gg,0,none⟩) ((outL xs j).length+1) cap) ((outL xs j).length+1) ((outL xs j).flatMap bc0++[.int .i64 j,.int .i64 0,.slice none 0 0]))(hg:(wr.alloc (.cells #[.int .i64 j,.int .i64 0,.slice none 0 0] 71)).grownBy w3 v.ownBlock):
    Hid (SW w ((w3.setCell ⟨q,j,none⟩ (.int .i64 (outL xs j).length)).setCell ⟨gg,(outL xs j).length*3+1,none⟩ (.int .i64 j)) xs k (j+1) q (.slice (some ⟨gg,0,none⟩) ((outL xs j).length+1) cap))/\¬gg=q/\¬q=gg/\w3.cell? ⟨q,j,none⟩=some (.int .i64 0)/\w3.frozen? ⟨q,j,none⟩=false/\w3.cell? ⟨gg,(outL xs j).length*3+1,none⟩=some (.int .i64 0)/\w3.frozen? ⟨gg,(outL xs j).length*3+1,none⟩=false:=by
  have bA:=below_alloc wr (.cells #[.int .i64 j,.int .i64 0,.slice none 0 0] 71)
  have r3:=own_keep h.out bA (Nat.le_refl _)
  have r1:=own_grown (own_keep h.lead bA (Nat.le_refl _)) hg r3 (by decide)
  have r2:=own_grown (own_keep h.num bA (Nat.le_refl _)) hg r3 (by decide)
  have bel:=(below_on h.bel (Nat.le_refl _) bA).grown hg (Nat.le_trans h.bel.size bA.size) (fun i hi=>(r3.lt i hi).1)
  have hne:=row_ne hown r2 (by decide)
  have n0:=r2.cellAt j (by omega)
  have o0:=hown.cellAt ((outL xs j).length*3+1) (by omega)
  rw[flatTo_parts _ _ _ _ _ hj,List.getElem?_append_right (by rw[flat_length (numC xs) 1 (numC_length xs),List.length_take,List.length_range];omega),show j-(List.flatMap (numC xs) (List.take j (List.range k))).length=0 by rw[flat_length (numC xs) 1 (numC_length xs),List.length_take,List.length_range];omega]at n0
  simp only[List.cons_append,List.getElem?_cons_zero]at n0
  rw[List.getElem?_append_right (by rw[flat_length bc0 3 bc0_length];omega),show(outL xs j).length*3+1-(List.flatMap bc0 (outL xs j)).length=1 by rw[flat_length bc0 3 bc0_length];omega]at o0
  simp only[List.getElem?_cons_succ,List.getElem?_cons_zero]at o0
  refine⟨SW.fin (b:=⟨(j:Int),0,[]⟩) hj r1 r2 (by rw[List.flatMap_append];exact hown) bel ho hm,hne,fun e=>hne e.symm,n0,r2.frozenAt j,o0,hown.frozenAt _⟩
theorem made_bool(n:Nat):(madeCells (Value.bool false).cells (n*1)).toList=List.replicate n (.bool false):=by
  rw[flatTo_zero bcell [.bool false] [] n (.bool false) 1 rfl rfl (by omega)]
  simp[flatTo,List.flatten_replicate_singleton]
theorem made_int(n:Nat)(f:Nat->List Value)(ys:List Nat):(madeCells (Value.int .i64 0).cells (n*1)).toList=flatTo f [.int .i64 0] ys 0 n:=by
  rw[flatTo_zero f [.int .i64 0] ys n (.int .i64 0) 1 rfl rfl (by omega)]
structure SV(w u:World)(xs:List MI)(n k:Nat):Prop where
  lead:u.ownsRow w.heap.size 4 1 (.slice (some ⟨w.heap.size+1,0,none⟩) (n+1) (n+1)) (n+1) (leadV xs k n)
  out:Blk u w.heap.size #[] 71
  bel:Below w.heap.size w u
theorem SV.set{w u:World}{xs:List MI}{n k k':Nat}(h:SV w u xs n k)(j:Nat)(hl:(leadV xs k n).set j (.bool true)=leadV xs k' n):SV w (u.setCell ⟨w.heap.size+1,j,none⟩ (.bool true)) xs n k':=by
  refine⟨?_,h.out.other (by simp only[];omega) _,h.bel.setCell (by simp only[];omega) _⟩
  have:=(h.lead.stored j (.bool true)).1
  rw[hl]at this
  exact this
theorem SV.set2{w u:World}{xs:List MI}{n k k':Nat}(h:SV w u xs n k)(j j':Nat)(hl:((leadV xs k n).set j (.bool true)).set j' (.bool true)=leadV xs k' n):SV w ((u.setCell ⟨w.heap.size+1,j,none⟩ (.bool true)).setCell ⟨w.heap.size+1,j',none⟩ (.bool true)) xs n k':=by
  refine⟨?_,(h.out.other (by simp only[];omega) _).other (by simp only[];omega) _,(h.bel.setCell (by simp only[];omega) _).setCell (by simp only[];omega) _⟩
  have:=((h.lead.stored j (.bool true)).1.stored j' (.bool true)).1
  rw[hl]at this
  exact this
end Go.Proofs.YtdfmdgbolmbffaaGreat
namespace Go.Proofs.YtdfmdgbolmbffaaGreat
open Go.ChangeShapes Go.WideShapes Go.ChangeAt Go.RowKit
set_option linter.unusedVariables false
theorem own_lower{w:World}{base b:Nat}{e:TypeId}{k n:Nat}{v:Value}{xs:List Value}(h:w.ownsRow base e k v n xs)(hb:b<=base):w.ownsRow b e k v n xs:=
  ⟨h.1,h.2.imp id fun⟨g,cap,cur,e1,hb1,r⟩=>⟨g,cap,cur,e1,Nat.le_trans hb hb1,r⟩⟩
theorem with_world{Q:Exit->Act->World->Prop}{a:Act}{U:World}(P:World->Prop)(h:P U)(k:∀u,P u->Q .normal a u):Q .normal a U:=k U h
theorem bcell_keep{W u:World}(hb:Below W.heap.size W u){a:Addr}{x:Value}(h:W.cell? a=some x):u.cell? a=some x:=by rw[hb.cell (block_lt_of_cell h)];exact h
def specB(xs:List MI)(m:MB):MB:=⟨m.first,m.last,nextS xs (xs.getD m.last.toNat ⟨0,0,0,0⟩) m.last.toNat⟩
def specL(xs:List MI):List MB:=(outL xs xs.length).map (specB xs)
structure TW(w u:World)(xs:List MI)(n q:Nat)(V:Value)(D:List (MB×Value)):Prop where
  num:u.ownsRow w.heap.size 2 1 (.slice (some ⟨q,0,none⟩) n n) n ((List.range n).flatMap (numC xs))
  out:u.ownsRow w.heap.size 71 3 V (outL xs n).length (D.flatMap bCells++((outL xs n).drop D.length).flatMap bc0)
  rows:∀x∈D,u.ownsRow w.heap.size 2 1 x.2 x.1.next.length (x.1.next.flatMap intCell)
  done:D.map Prod.fst=((outL xs n).take D.length).map (specB xs)
  bel:Below w.heap.size w u
theorem TW.of{w u:World}{xs:List MI}{n q:Nat}{V:Value}(h:SW w u xs n n q V):TW w u xs n q V []:=by
  refine⟨?_,by simpa using h.out,fun x hx=>(by cases hx),by simp,h.bel⟩
  have:=h.num
  rw[flatTo_all _ _ _ _ (by simp)]at this
  exact this
structure NW(wr U:World)(x:MI)(V:Value)(ns:List Int):Prop where
  bel:Below wr.heap.size wr U
  xb:Blk U wr.heap.size #[.int .i64 x.op,.int .i64 x.a,.int .i64 x.b,.int .i64 x.c] 73
  row:U.ownsRow wr.heap.size 2 1 V ns.length (ns.flatMap intCell)
theorem NW.of(wr:World)(x:MI):NW wr ((wr.alloc (.cells #[.int .i64 x.op,.int .i64 x.a,.int .i64 x.b,.int .i64 x.c] 73)).alloc (.cells #[] 2)) x (.slice (some ⟨wr.heap.size+1,0,none⟩) 0 0) []:=by
  have b1:=below_alloc wr (.cells #[.int .i64 x.op,.int .i64 x.a,.int .i64 x.b,.int .i64 x.c] 73)
  have k1:=Blk.new wr #[.int .i64 x.op,.int .i64 x.a,.int .i64 x.b,.int .i64 x.c] 73
  have z1:(wr.alloc (.cells #[.int .i64 x.op,.int .i64 x.a,.int .i64 x.b,.int .i64 x.c] 73)).heap.size=wr.heap.size+1:=by simp
  generalize wr.alloc (.cells #[.int .i64 x.op,.int .i64 x.a,.int .i64 x.b,.int .i64 x.c] 73)=Wx at b1 k1 z1⊢
  have b2:=below_alloc Wx (.cells #[] 2)
  have k2:=Blk.new Wx #[] 2
  rw[z1]at k2
  exact⟨below_on b1 (Nat.le_refl _) b2,k1.keep b2,⟨rfl,.inr ⟨wr.heap.size+1,0,#[],rfl,Nat.le_succ _,k2,Nat.le_refl _,Nat.zero_le _,rfl,rfl⟩⟩⟩
theorem NW.drew{wr U:World}{x:MI}{V:Value}{ns:List Int}(h:NW wr U x V ns)(k:Nat):NW wr (U.drewN k) x V ns:=⟨⟨h.bel.os,h.bel.tape,h.bel.output,h.bel.size,h.bel.block⟩,h.xb,⟨h.row.1,h.row.2⟩⟩
theorem NW.app{wr U u':World}{x:MI}{V V':Value}{ns:List Int}{z:Int}{m:Nat}(h:NW wr U x V ns)(hown:u'.ownsRow wr.heap.size 2 1 V' m (ns.flatMap intCell++[.int .i64 z]))(hm:m=ns.length+1)(hg:(U.alloc (.cells #[.int .i64 z] 2)).grownBy u' V.ownBlock):NW wr u' x V' (ns++[z]):=by
  have bA:=below_alloc U (.cells #[.int .i64 z] 2)
  refine⟨(below_on h.bel (Nat.le_refl _) bA).grown hg (Nat.le_trans h.bel.size bA.size) (fun i hi=>(h.row.lt i hi).1),(h.xb.keep bA).grown hg (own_keep h.row bA (Nat.le_refl _)) (by decide),?_⟩
  rw[List.length_append,List.length_singleton,<-hm,List.flatMap_append]
  exact hown
theorem one_cell(U:World)(z:Int):∀j u,[(.int .i64 z:Value)][j]?=some u->(U.alloc (.cells #[.int .i64 z] 2)).cell? ((⟨U.heap.size,0,none⟩:Addr).add j)=some u:=fun j u hj=>by
  rw[add_at,Nat.zero_add,(Blk.new U #[.int .i64 z] 2).cell j]
  simpa using hj
theorem NW.al{wr U:World}{x:MI}{V:Value}{ns:List Int}(h:NW wr U x V ns)(o:Obj):(U.alloc o).ownsRow wr.heap.size 2 1 V ns.length (ns.flatMap intCell)/\wr.heap.size<=(U.alloc o).heap.size:=⟨own_keep h.row (below_alloc _ _) (Nat.le_refl _),Nat.le_trans h.bel.size (below_alloc _ _).size⟩
theorem TW.next{w wr U:World}{xs:List MI}{n q gv len cap:Nat}{D:List (MB×Value)}{m:MB}{e:Nat}{x:MI}{Vn:Value}{ns:List Int}(h:TW w wr xs n q (.slice (some ⟨gv,0,none⟩) len cap) D)(hl:len=(outL xs n).length)(hm:(outL xs n)[D.length]?=some m)(he:m.last=(e:Int))(hx:xs[e]?=some x)(hn:NW wr U x Vn ns)(hns:ns=nextS xs x e):TW w (U.setCell ⟨gv,D.length*3+2,none⟩ Vn) xs n q (.slice (some ⟨gv,0,none⟩) len cap) (D++[(specB xs m,Vn)]):=by
  subst hl
  have hb:Below wr.heap.size wr U:=hn.bel
  have hout:=own_keep h.out hb (Nat.le_refl _)
  obtain⟨hlt,hmm⟩:=List.getElem?_eq_some_iff.1 hm
  have hB:specB xs m=⟨m.first,m.last,ns⟩:=by
    unfold specB
    rw[he,hns,Int.toNat_natCast,List.getD_eq_getElem?_getD,hx]
    rfl
  have hnr:=own_lower hn.row (b:=w.heap.size) h.bel.size
  refine⟨own_set_ne (own_keep h.num hb (Nat.le_refl _)) hout (by decide) _ _,?_,?_,?_,(below_on h.bel (Nat.le_refl _) hb).setCell (own_blk hout).1 _⟩
  . have k1:=(hout.stored (D.length*3+2) Vn).1
    have e1:(D.flatMap bCells++((outL xs n).drop D.length).flatMap bc0).set (D.length*3+2) Vn=(D++[(specB xs m,Vn)]).flatMap bCells++((outL xs n).drop (D++[(specB xs m,Vn)]).length).flatMap bc0:=by
      rw[List.drop_eq_getElem_cons hlt,hmm,List.flatMap_cons,List.set_append_right _ _ (by rw[flat_length bCells 3 bCells_length];omega),flat_length bCells 3 bCells_length,hB]
      simp[bc0,bCells,List.length_append]
    rw[e1]at k1
    exact k1
  . intro y hy
    rcases List.mem_append.1 hy with hy|hy
    . exact own_set_ne (own_keep (h.rows y hy) hb (Nat.le_refl _)) hout (by decide) _ _
    . simp only[List.mem_cons,List.not_mem_nil,or_false]at hy
      subst hy
      simp only[hB]
      exact own_set_ne hnr hout (by decide) _ _
  . rw[List.map_append,h.done,List.length_append,List.length_singleton,List.take_succ_eq_append_getElem hlt,hmm]
    simp
end Go.Proofs.YtdfmdgbolmbffaaGreat
namespace Go.Proofs.YtdfmdgbolmbffaaGreat
open Go.ChangeShapes Go.WideShapes Go.ChangeAt Go.RowKit
set_option linter.unusedVariables false
structure ML where
  head:Int
  back:List Int
  blocks:List Int
structure MFl where
  code:Int
  at_:Int
  blocks:List MB
  order:List Int
  idom:List Int
  loops:List ML
def ints(l:List Nat):List Int:=l.map fun(x:Nat)=>(x:Int)
theorem ints_length(l:List Nat):(ints l).length=l.length:=by simp[ints]
def nx(bs:List MB)(b:Nat):List Nat:=match bs[b]? with|some m=>m.next.map Int.toNat|none=>[]
def noFl(c a:Int):MFl:=⟨c,a,[],[],[],[]⟩
def loopsTo(E:Nat->List Nat)(D L:Nat->Nat->Bool)(n j:Nat):List ML:=(List.range j).filterMap fun h=>if backL E D n h=[]then none else some ⟨(h:Int),ints (backL E D n h),ints ((List.range n).filter (L h))⟩
inductive FlowOk (xs:List MI):MFl->Prop
  |none:¬CodeGood xs->FlowOk xs (noFl 4 0)
  |off {x:MI}:CodeGood xs->xs[xs.length-1]?=some x->onB x=true->FlowOk xs (noFl 1 ((xs.length:Int)-1))
  |lost {x:MI} {S O:List Nat} {b:Nat} {m:MB}:CodeGood xs->xs[xs.length-1]?=some x->onB x=false->Vs (nx (specL xs)) [] [] [0] S O->b<(specL xs).length->b∉S->(∀c,c<b->c∈S)->(specL xs)[b]?=some m->FlowOk xs (noFl 2 m.first)
  |two {x:MI} {S O:List Nat} {D:Nat->Nat->Bool} {b k t:Nat} {m:MB}:CodeGood xs->xs[xs.length-1]?=some x->onB x=false->Vs (nx (specL xs)) [] [] [0] S O->(∀c,c<(specL xs).length->c∈S)->(∀d b,D d b=true↔Dom (nx (specL xs)) d b)->FirstBad (nx (specL xs)) (specL xs).length (Bad O D) b k t->(specL xs)[t]?=some m->FlowOk xs (noFl 3 m.first)
  |good {x:MI} {S O:List Nat} {D L:Nat->Nat->Bool} {I:Nat->Int}:CodeGood xs->xs[xs.length-1]?=some x->onB x=false->Vs (nx (specL xs)) [] [] [0] S O->(∀c,c<(specL xs).length->c∈S)->(∀d b,D d b=true↔Dom (nx (specL xs)) d b)->(∀b,b<(specL xs).length->∀t∈nx (specL xs) b,¬Bad O D b t)->
      (∀b,b<(specL xs).length->(b=0/\I b=-1)\/b≠0/\∃c:Nat,c<(specL xs).length/\I b=(c:Int)/\IdomIs (nx (specL xs)) b c)->(∀h y,L h y=true↔InLoop (nx (specL xs)) D (specL xs).length h y)->
      FlowOk xs ⟨0,0,specL xs,ints O.reverse,(List.range (specL xs).length).map I,loopsTo (nx (specL xs)) D L (specL xs).length (specL xs).length⟩
theorem lds_pos{xs:List MI}(h:CodeGood xs):0<(specL xs).length:=by
  unfold specL
  rw[List.length_map,outL_length]
  exact List.length_pos_iff.2 (lds_ne xs _ h.1)
theorem placesL_lead{xs:List MI}(hg:CodeGood xs){b e:Nat}{x:MI}{m:MB}(hb:(outL xs xs.length)[b]?=some m)(he:m.last=(e:Int))(hx:xs[e]?=some x){p:Int}(hp:p∈placesL xs x e):p.toNat∈lds xs xs.length:=by
  have hen:e<xs.length:=(List.getElem?_eq_some_iff.1 hx).1
  rw[outL_build]at hb
  unfold placesL at hp
  rcases List.mem_append.1 hp with hp|hp
  . by_cases h:onB x=true/\e+1<xs.length
    . rw[if_pos h]at hp
      simp only[List.mem_cons,List.not_mem_nil,or_false]at hp
      subst hp
      rw[Int.toNat_natCast]
      exact end_lead _ _ _ _ _ hb he h.2
    . rw[if_neg h]at hp
      cases hp
  . by_cases h:goesB x=true/\¬(onB x=true/\e+1<xs.length/\x.c=((e+1:Nat):Int))
    . rw[if_pos h]at hp
      simp only[List.mem_cons,List.not_mem_nil,or_false]at hp
      subst hp
      obtain⟨h1,h2⟩:=hg.2.2 e x hx h.1
      have h3:(x.c.toNat:Int)=x.c:=Int.toNat_of_nonneg h1
      exact(lds_mem _ _ _).2 ⟨by omega,leadB_of xs _ e _ x hen hx (by simp[leads,h.1,h3])⟩
    . rw[if_neg h]at hp
      cases hp
theorem build_last{L:List Nat}{n b:Nat}{m:MB}(hs:L.Pairwise (· < ·))(hl:∀x∈L,x<n)(h:(build L n)[b]?=some m):∃e:Nat,m.last=(e:Int)/\e<n:=by
  unfold build at h
  rw[List.getElem?_zipWith]at h
  cases h1:L[b]? with
  |none=>rw[h1]at h;simp at h
  | some a=>
    cases h2:(L.tail++[n])[b]? with
    |none=>rw[h1,h2]at h;simp at h
    | some q=>
      rw[h1,h2]at h
      simp only[Option.some.injEq]at h
      subst h
      have ha:=hl a (List.mem_of_getElem? h1)
      have hq:a<q/\q<=n:=by
        by_cases hb:b<L.tail.length
        . rw[List.getElem?_append_left hb]at h2
          have hq:=List.mem_of_mem_tail (List.mem_of_getElem? h2)
          refine⟨?_,Nat.le_of_lt (hl q hq)⟩
          have h3:L[b+1]?=some q:=by rw[<-h2];cases L<;>simp
          obtain⟨i1,e1⟩:=List.getElem?_eq_some_iff.1 h1
          obtain⟨i2,e2⟩:=List.getElem?_eq_some_iff.1 h3
          rw[<-e1,<-e2]
          exact(List.pairwise_iff_getElem.1 hs) b (b+1) i1 i2 (by omega)
        . rw[List.getElem?_append_right (by omega)]at h2
          have:=List.mem_of_getElem? h2
          simp only[List.mem_cons,List.not_mem_nil,or_false]at this
          subst this
          exact⟨ha,Nat.le_refl _⟩
      exact⟨q-1,by simp only[];omega,by omega⟩
theorem out_last{xs:List MI}{b:Nat}{m:MB}(h:(outL xs xs.length)[b]?=some m):∃(e:Nat) (x:MI),m.last=(e:Int)/\xs[e]?=some x:=by
  rw[outL_build]at h
  obtain⟨e,h1,h2⟩:=build_last (lds_sorted _ _) (fun x hx=>((lds_mem _ _ _).1 hx).1) h
  exact⟨e,_,h1,List.getElem?_eq_getElem h2⟩
theorem specL_next{xs:List MI}(hg:CodeGood xs){b:Nat}{m:MB}(h:(specL xs)[b]?=some m){z:Int}(hz:z∈m.next):0<=z/\z<((specL xs).length:Int):=by
  unfold specL at h⊢
  rw[List.getElem?_map]at h
  obtain⟨m0,h1,rfl⟩:=Option.map_eq_some_iff.1 h
  obtain⟨e,x,he,hx⟩:=out_last h1
  have hB:(specB xs m0).next=nextS xs x e:=by
    unfold specB
    rw[he,Int.toNat_natCast,List.getD_eq_getElem?_getD,hx]
    rfl
  rw[hB,next_same xs b e x m0 hg h1 he hx]at hz
  obtain⟨p,hp,rfl⟩:=List.mem_map.1 hz
  have:=List.idxOf_lt_length_iff.2 (placesL_lead hg h1 he hx hp)
  rw[List.length_map,outL_length]
  omega
theorem nx_of{bs:List MB}{b:Nat}{m:MB}(h:bs[b]?=some m):nx bs b=m.next.map Int.toNat:=by unfold nx;rw[h]
theorem nx_ints{xs:List MI}(hg:CodeGood xs){b:Nat}{m:MB}(h:(specL xs)[b]?=some m):m.next=ints (nx (specL xs) b):=by
  rw[nx_of h]
  unfold ints
  rw[List.map_map]
  symm
  rw[List.map_congr_left (g:=id),List.map_id]
  intro z hz
  exact Int.toNat_of_nonneg (specL_next hg h hz).1
theorem nx_lt{xs:List MI}(hg:CodeGood xs):∀b,b<(specL xs).length->∀x∈nx (specL xs) b,x<(specL xs).length:=fun b hb x hx=>by
  rw[nx_of (List.getElem?_eq_getElem hb)]at hx
  obtain⟨z,hz,rfl⟩:=List.mem_map.1 hx
  have:=specL_next hg (List.getElem?_eq_getElem hb) hz
  omega
theorem specL_le{xs:List MI}(hg:CodeGood xs):(specL xs).length<=1024:=by
  unfold specL
  rw[List.length_map,outL_length]
  have:=List.length_filter_le (leadB xs xs.length) (List.range xs.length)
  have h2:=hg.2.1
  simp only[List.length_range]at this
  exact Nat.le_trans this h2
theorem nx_small(bs:List MB)(h:∀m∈bs,m.next.length<=2)(b:Nat):(nx bs b).length<=2:=by
  unfold nx
  cases hb:bs[b]? with
  |none=>simp
  |some m=>simpa using h m (List.mem_of_getElem? hb)
theorem specL_two(xs:List MI):∀m∈specL xs,m.next.length<=2:=by
  intro f hf
  unfold specL at hf
  obtain⟨m,_,rfl⟩:=List.mem_map.1 hf
  simp only[specB,nextS]
  split<;>split<;>simp
theorem FlowOk.one{xs:List MI}{r r':MFl}(h:FlowOk xs r)(h':FlowOk xs r'):r=r':=by
  have hD:∀{E:Nat->List Nat} {D D':Nat->Nat->Bool},(∀d b,D d b=true↔Dom E d b)->(∀d b,D' d b=true↔Dom E d b)->D=D':=fun h1 h2=>by
    funext d b
    rw[Bool.eq_iff_iff,h1,h2]
  cases h with
  | none g=>
    cases h' with
    |none _=>rfl
    |_ g'=>exact absurd g' g
  | off g x1 o1=>
    cases h' with
    |none g'=>exact absurd g g'
    |off _ _ _=>rfl
    | lost _ x2 o2|two _ x2 o2|good _ x2 o2=>
      rw[x1]at x2
      cases x2
      rw[o1]at o2
      cases o2
  | @lost _ _ _ b m g x1 o1 v1 b1 n1 l1 m1=>
    cases h' with
    |none g'=>exact absurd g g'
    | off _ x2 o2=>
      rw[x1]at x2
      cases x2
      rw[o1]at o2
      cases o2
    | @lost _ _ _ b' m' _ x2 o2 v2 b2 n2 l2 m2=>
      obtain⟨rfl,rfl⟩:=v1.one v2
      have:b=b':=by
        rcases Nat.lt_trichotomy b b' with q|q|q
        . exact absurd (l2 _ q) n1
        . exact q
        . exact absurd (l1 _ q) n2
      subst this
      rw[m1]at m2
      cases m2
      rfl
    | two _ _ _ v2 s2|good _ _ _ v2 s2=>
      obtain⟨rfl,rfl⟩:=v1.one v2
      exact absurd (s2 _ b1) n1
  | two g x1 o1 v1 s1 d1 f1 m1=>
    cases h' with
    |none g'=>exact absurd g g'
    | off _ x2 o2=>
      rw[x1]at x2
      cases x2
      rw[o1]at o2
      cases o2
    | lost _ _ _ v2 b2 n2=>
      obtain⟨rfl,rfl⟩:=v1.one v2
      exact absurd (s1 _ b2) n2
    | two _ _ _ v2 _ d2 f2 m2=>
      obtain⟨rfl,rfl⟩:=v1.one v2
      obtain rfl:=hD d1 d2
      obtain rfl:=f1.one f2
      rw[m1]at m2
      cases m2
      rfl
    | good _ _ _ v2 _ d2 f2=>
      obtain⟨rfl,rfl⟩:=v1.one v2
      obtain rfl:=hD d1 d2
      exact absurd f1.is (f2 _ f1.lt _ (List.mem_of_getElem? f1.at_))
  | good g x1 o1 v1 s1 d1 f1 i1 l1=>
    cases h' with
    |none g'=>exact absurd g g'
    | off _ x2 o2=>
      rw[x1]at x2
      cases x2
      rw[o1]at o2
      cases o2
    | lost _ _ _ v2 b2 n2=>
      obtain⟨rfl,rfl⟩:=v1.one v2
      exact absurd (s1 _ b2) n2
    | two _ _ _ v2 _ d2 f2 m2=>
      obtain⟨rfl,rfl⟩:=v1.one v2
      obtain rfl:=hD d1 d2
      exact absurd f2.is (f1 _ f2.lt _ (List.mem_of_getElem? f2.at_))
    | good _ _ _ v2 _ d2 f2 i2 l2=>
      obtain⟨rfl,rfl⟩:=v1.one v2
      obtain rfl:=hD d1 d2
      have hL:=fun h y=>Bool.eq_iff_iff.2 ((l1 h y).trans (l2 h y).symm)
      obtain rfl:=funext fun h=>funext (hL h)
      obtain⟨hP,_⟩:=order_place (lds_pos g) (nx_lt g) v1 s1
      congr 1
      apply List.map_congr_left
      intro b hb
      have hb:=List.mem_range.1 hb
      rcases i1 b hb with⟨e1,e2⟩|⟨e1,c,c1,c2,c3⟩
      . rcases i2 b hb with⟨_,e4⟩|⟨e3,_⟩
        . rw[e2,e4]
        . exact absurd e1 e3
      . rcases i2 b hb with⟨e3,_⟩|⟨e3,c',c1',c2',c3'⟩
        . exact absurd e3 e1
        . rw[c2,c2',c3.one hP c1 c1' c3']
end Go.Proofs.YtdfmdgbolmbffaaGreat
namespace Go.Proofs.YtdfmdgbolmbffaaGreat
open Go.ChangeShapes Go.WideShapes Go.ChangeAt Go.RowKit
set_option linter.unusedVariables false
theorem build_parts{L:List Nat}{n b:Nat}{m:MB}(hs:L.Pairwise (· < ·))(hl:∀x∈L,x<n)(h:(build L n)[b]?=some m):∃a e:Nat,m.first=(a:Int)/\m.last=(e:Int)/\a<=e/\e<n:=by
  unfold build at h
  rw[List.getElem?_zipWith]at h
  cases h1:L[b]? with
  |none=>rw[h1]at h;simp at h
  | some a=>
    cases h2:(L.tail++[n])[b]? with
    |none=>rw[h1,h2]at h;simp at h
    | some q=>
      rw[h1,h2]at h
      simp only[Option.some.injEq]at h
      subst h
      have ha:=hl a (List.mem_of_getElem? h1)
      have hq:a<q/\q<=n:=by
        by_cases hb:b<L.tail.length
        . rw[List.getElem?_append_left hb]at h2
          have hq:=List.mem_of_mem_tail (List.mem_of_getElem? h2)
          refine⟨?_,Nat.le_of_lt (hl q hq)⟩
          have h3:L[b+1]?=some q:=by rw[<-h2];cases L<;>simp
          obtain⟨i1,e1⟩:=List.getElem?_eq_some_iff.1 h1
          obtain⟨i2,e2⟩:=List.getElem?_eq_some_iff.1 h3
          rw[<-e1,<-e2]
          exact(List.pairwise_iff_getElem.1 hs) b (b+1) i1 i2 (by omega)
        . rw[List.getElem?_append_right (by omega)]at h2
          have:=List.mem_of_getElem? h2
          simp only[List.mem_cons,List.not_mem_nil,or_false]at this
          subst this
          exact⟨ha,Nat.le_refl _⟩
      exact⟨a,q-1,rfl,by simp only[];omega,by omega,by omega⟩
theorem specL_parts{xs:List MI}{b:Nat}{m:MB}(h:(specL xs)[b]?=some m):∃a e:Nat,m.first=(a:Int)/\m.last=(e:Int)/\a<=e/\e<xs.length:=by
  unfold specL at h
  rw[List.getElem?_map]at h
  obtain⟨m0,h1,rfl⟩:=Option.map_eq_some_iff.1 h
  rw[outL_build]at h1
  obtain⟨a,e,q1,q2,q3,q4⟩:=build_parts (lds_sorted _ _) (fun x hx=>((lds_mem _ _ _).1 hx).1) h1
  exact⟨a,e,q1,q2,q3,q4⟩
structure FlIn(xs:List MI)(r:MFl):Prop where
  len:xs.length<=1024
  nb:r.blocks.length<=1024
  two:∀m∈r.blocks,m.next.length<=2
  nl:r.loops.length<=1024
  blk:∀(i:Nat) (m:MB),r.blocks[i]?=some m->∃a e:Nat,m.first=(a:Int)/\m.last=(e:Int)/\a<=e/\e<xs.length
  loop:∀l∈r.loops,(∃h:Nat,l.head=(h:Int)/\h<r.blocks.length)/\(∀z∈l.blocks,∃b:Nat,z=(b:Int)/\b<r.blocks.length)/\l.blocks.length<=1024/\l.back.length<=2048
theorem flatMap_two{α β:Type}(f:α->List β)(l:List α)(h:∀a∈l,(f a).length<=2):(l.flatMap f).length<=2*l.length:=by
  induction l with
  |nil=>simp
  | cons a l ih=>
    have h1:=h a (by simp)
    have h2:=ih fun b hb=>h b (by simp[hb])
    rw[List.flatMap_cons,List.length_append,List.length_cons]
    omega
theorem backL_two{E:Nat->List Nat}{D:Nat->Nat->Bool}(h:∀b,(E b).length<=2)(n y:Nat):(backL E D n y).length<=2*n:=by
  have h1:=flatMap_two (fun p=>((E p).filter fun x=>decide (x=y)&&D y p).map fun _=>p) (List.range n) (fun p _=>by
    rw[List.length_map]
    exact Nat.le_trans (List.length_filter_le _ _) (h p))
  rw[List.length_range]at h1
  exact h1
theorem filterMap_len{α β:Type}(f:α->Option β)(l:List α):(l.filterMap f).length<=l.length:=List.length_filterMap_le f l
theorem loopsTo_in{E:Nat->List Nat}{D L:Nat->Nat->Bool}{n j:Nat}(hj:j<=n){l:ML}(h:l∈loopsTo E D L n j):(∃h:Nat,l.head=(h:Int)/\h<n)/\(∀z∈l.blocks,∃b:Nat,z=(b:Int)/\b<n)/\l.blocks.length<=n/\∃g,l.back=ints (backL E D n g):=by
  unfold loopsTo at h
  obtain⟨g,hg,e⟩:=List.mem_filterMap.1 h
  split at e
  . cases e
  . cases e
    refine⟨⟨g,rfl,by have:=List.mem_range.1 hg;omega⟩,?_,?_,g,rfl⟩
    . intro z hz
      obtain⟨b,hb,rfl⟩:=List.mem_map.1 hz
      exact⟨b,rfl,List.mem_range.1 (List.mem_filter.1 hb).1⟩
    . simp only[]
      rw[ints_length]
      exact Nat.le_trans (List.length_filter_le _ _) (by simp)
theorem FlowOk.inn{xs:List MI}{r:MFl}(h:FlowOk xs r)(h0:r.code=0):FlIn xs r:=by
  cases h with
  |none _=>cases h0
  |off _ _ _=>cases h0
  |lost _ _ _ _ _ _ _ _=>cases h0
  |two _ _ _ _ _ _ _ _=>cases h0
  | good g x1 o1 v1 s1 d1 b1 i1 l1=>
    refine⟨g.2.1,specL_le g,specL_two xs,?_,fun i m h=>specL_parts h,fun l hl=> ?_⟩
    . simp only[]
      unfold loopsTo
      exact Nat.le_trans (filterMap_len _ _) (by rw[List.length_range];exact specL_le g)
    . obtain⟨a1,a2,a3,y,a4⟩:=loopsTo_in (Nat.le_refl _) hl
      refine⟨a1,a2,Nat.le_trans a3 (specL_le g),?_⟩
      rw[a4,ints_length]
      exact Nat.le_trans (backL_two (nx_small _ (specL_two xs)) _ _) (by have:=specL_le g;omega)
end Go.Proofs.YtdfmdgbolmbffaaGreat
