import Derived.Test.YtdfmdgbolmbffaaGreatTy33
import Derived.Deep.AppendLies
namespace Go.Proofs.YtdfmdgbolmbffaaGreat
open Go.ChangeShapes Go.WideShapes Go.ChangeAt Go.RowKit
set_option linter.unusedVariables false
theorem placesL_on(xs:List MI)(x:MI)(e:Nat)(h1:onB x=true/\e+1<xs.length)(h2:¬goesB x=true):placesL xs x e=[]++[((e:Int)+1)]:=by
  unfold placesL
  rw[if_pos h1,if_neg (fun q=>h2 q.1)]
  rfl
theorem placesL_eq(xs:List MI)(x:MI)(e:Nat)(h1:onB x=true/\e+1<xs.length)(h2:goesB x=true)(h:x.c=((e+1:Nat):Int)):placesL xs x e=[]++[((e:Int)+1)]:=by
  unfold placesL
  rw[if_pos h1,if_neg (fun q=>q.2 ⟨h1.1,h1.2,h⟩)]
  rfl
theorem placesL_ne(xs:List MI)(x:MI)(e:Nat)(h1:onB x=true/\e+1<xs.length)(h2:goesB x=true)(h:¬x.c=((e+1:Nat):Int)):placesL xs x e=[]++[((e:Int)+1)]++[x.c]:=by
  unfold placesL
  rw[if_pos h1,if_pos ⟨h2,fun q=>h q.2.2⟩]
  rfl
theorem placesL_go(xs:List MI)(x:MI)(e:Nat)(h1:¬(onB x=true/\e+1<xs.length))(h2:goesB x=true):placesL xs x e=[]++[x.c]:=by
  unfold placesL
  rw[if_neg h1,if_pos ⟨h2,fun q=>h1 ⟨q.1,q.2.1⟩⟩]
theorem placesL_no(xs:List MI)(x:MI)(e:Nat)(h1:¬(onB x=true/\e+1<xs.length))(h2:¬goesB x=true):placesL xs x e=[]:=by
  unfold placesL
  rw[if_neg h1,if_neg (fun q=>h2 q.1)]
  rfl
set_option maxHeartbeats 4000000 in
set_option maxRecDepth 100000 in
theorem placesFrom_any(s:Value)(xs:List MI)(x:MI)(e:Nat)(w:World)(hn:xs.length<=1024)(hp:PlacesOk xs)(hx:xs[e]?=some x)(h:Rd w 4 s xs.length (xs.flatMap MI.cells)):
    Calls Tryz.prog 125 #[s,.int .i64 (e:Int)] w fun e1 w'=>∃r,e1=.returned r/\w'.ownsRow w.heap.size 2 1 r (placesL xs x e).length ((placesL xs x e).flatMap intCell)/\Below w.heap.size w w':=by
  obtain⟨k0,hk,hx0,hx1,hx2⟩:=info_parts info64
  have hen:e<xs.length:=(List.getElem?_eq_some_iff.1 hx).1
  have HX:Hid (xs[e]?=some x):=hx
  have HG:Hid (PlacesOk xs):=hp
  rcases h.2 with⟨e0,_⟩|⟨g,o,c,rfl,hc1⟩
  . omega
  have HC:Hid (∀j v,(xs.flatMap MI.cells)[j]?=some v->w.cell? ⟨g,o+j,none⟩=some v):=hc1
  clear h hc1 hp hx
  generalize hLL:xs.length=n at hn hen
  have HL:Hid (xs.length=n):=hLL
  clear hLL
  have hel:(e:Int)<(n:Int):=by omega
  have HU0:Hid (NP w w (.slice none 0 0) []):=⟨Below.refl _ _,World.ownsRow_nil _ _ _ _⟩
  obtain⟨x0,x1,x2,x3⟩:=MI.at4 (n:=0) HC.out HX.out (Below.refl w.heap.size w)
  go_enter Tryz.func125,Tryz.ntmps125
  go_wp2_with fail
  refine(goesOn_any x _).mono ?_
  rintro e1 u1 ⟨rfl,b1⟩
  have HU1:Hid (NP w u1 (.slice none 0 0) []):=HU0.out.keep b1
  clear b1 x0 x1 x2 x3 HU0
  cases hon:onB x
  . have h1:¬(onB x=true/\e+1<xs.length):=fun q=>by rw[hon]at q;exact absurd q.1 Bool.false_ne_true
    obtain⟨x0,x1,x2,x3⟩:=MI.at4 (n:=0) HC.out HX.out HU1.out.bel
    go_wp2_with fail
    refine(namesPlace_any x _).mono ?_
    rintro e4 u4 ⟨rfl,b4⟩
    have HU4:Hid (NP w u4 (.slice none 0 0) []):=HU1.out.keep b4
    clear b4
    clear x0 x1 x2 x3
    cases hgo:goesB x
    . go_wp2
      go_ret
      exact⟨_,rfl,by rw[placesL_no xs x e h1 (by rw[hgo];exact Bool.false_ne_true)];exact HU4.out.row,HU4.out.bel⟩
    . obtain⟨hc0,hc1⟩:=HG.out e x HX.out hgo
      go_wp2_with fail
      refine(contains_none none 0 x.c _).mono ?_
      rintro e5 u5 ⟨rfl,hu⟩
      have hu2:=hu.symm
      clear hu
      subst hu2
      go_wp2_with (at_builtin;refine wpList_append_lies _ rfl _ _ 48 rfl w.heap.size 2 k0 (.int .i64 0) 1 8 Tryz.underlying48 hk hx0 hx1 hx2 rfl (by decide) _ ([]:List Int).length (([]:List Int).flatMap intCell) rfl (HU4.out.keep (below_alloc _ (.cells #[.int .i64 (x.c)] 2))).row ⟨u4.heap.size,0,none⟩ 1 1 [.int .i64 (x.c)] rfl rfl (one_cell u4 (x.c)) (fun u hu=>by simp at hu;subst hu;rfl) (by omega) (by simp[maxLen]) (by simp) (HU4.out.keep (below_alloc _ (.cells #[.int .i64 (x.c)] 2))).bel.size _ rfl ?_;intro g3 cap3 w3 hown hgrow hat hlt3;have HU5:Hid (NP w w3 (.slice (some ⟨g3,0,none⟩) (0+1) cap3) ([]++[x.c])):=HU4.out.app hown rfl hgrow;clear hown hgrow hat hlt3)
      go_wp2
      go_ret
      exact⟨_,rfl,by rw[placesL_go xs x e h1 hgo];exact HU5.out.row,HU5.out.bel⟩
  . go_wp2_with fail
    refine(isOneOf_f ((e:Int)+1) n _ (by omega)).mono ?_
    rintro e2 u2 ⟨rfl,hu⟩
    have hu2:=hu.symm
    clear hu
    subst hu2
    by_cases hb:e+1<n
    . have h1:onB x=true/\e+1<xs.length:=⟨hon,by rw[HL.out];exact hb⟩
      rw[show decide (0<=(e:Int)+1/\(e:Int)+1<(n:Int))=true from by simp;omega]
      obtain⟨x0,x1,x2,x3⟩:=MI.at4 (n:=0) HC.out HX.out HU1.out.bel
      go_wp2_with (at_builtin;refine wpList_append_lies _ rfl _ _ 48 rfl w.heap.size 2 k0 (.int .i64 0) 1 8 Tryz.underlying48 hk hx0 hx1 hx2 rfl (by decide) _ ([]:List Int).length (([]:List Int).flatMap intCell) rfl (HU1.out.keep (below_alloc _ (.cells #[.int .i64 ((e:Int)+1)] 2))).row ⟨u1.heap.size,0,none⟩ 1 1 [.int .i64 ((e:Int)+1)] rfl rfl (one_cell u1 ((e:Int)+1)) (fun u hu=>by simp at hu;subst hu;rfl) (by omega) (by simp[maxLen]) (by simp) (HU1.out.keep (below_alloc _ (.cells #[.int .i64 ((e:Int)+1)] 2))).bel.size _ rfl ?_;intro g3 cap3 w3 hown hgrow hat hlt3;have HU3:Hid (NP w w3 (.slice (some ⟨g3,0,none⟩) (0+1) cap3) ([]++[(e:Int)+1])):=HU1.out.app hown rfl hgrow;clear hown hgrow hat hlt3;obtain⟨x0,x1,x2,x3⟩:=MI.at4 (n:=0) HC.out HX.out HU3.out.bel)
      go_wp2_with fail
      refine(namesPlace_any x _).mono ?_
      rintro e4 u4 ⟨rfl,b4⟩
      have HU4:Hid (NP w u4 (.slice (some ⟨g3,0,none⟩) (0+1) cap3) ([]++[((e:Int)+1)])):=HU3.out.keep b4
      clear b4
      clear x0 x1 x2 x3
      cases hgo:goesB x
      . go_wp2
        go_ret
        exact⟨_,rfl,by rw[placesL_on xs x e h1 (by rw[hgo];exact Bool.false_ne_true)];exact HU4.out.row,HU4.out.bel⟩
      . obtain⟨hc0,hc1⟩:=HG.out e x HX.out hgo
        have f5:=HU4.out.row.cellAt 0 (by simp)
        simp only[List.nil_append,List.flatMap_cons,intCell,List.cons_append,List.getElem?_cons_zero]at f5
        go_wp2_with fail
        refine(contains_one g3 cap3 ((e:Int)+1) x.c _ f5).mono ?_
        rintro e5 u5 ⟨rfl,hu⟩
        have hu2:=hu.symm
        clear hu
        subst hu2
        by_cases heq:x.c=(e:Int)+1
        . rw[show decide (x.c=(e:Int)+1)=true from by simpa using heq]
          go_wp2
          go_ret
          exact⟨_,rfl,by rw[placesL_eq xs x e h1 hgo (by rw[heq];push_cast;rfl)];exact HU4.out.row,HU4.out.bel⟩
        . rw[show decide (x.c=(e:Int)+1)=false from by simpa using heq]
          go_wp2_with (at_builtin;refine wpList_append_lies _ rfl _ _ 48 rfl w.heap.size 2 k0 (.int .i64 0) 1 8 Tryz.underlying48 hk hx0 hx1 hx2 rfl (by decide) _ (([]++[((e:Int)+1)]):List Int).length ((([]++[((e:Int)+1)]):List Int).flatMap intCell) rfl (HU4.out.keep (below_alloc _ (.cells #[.int .i64 (x.c)] 2))).row ⟨u4.heap.size,0,none⟩ 1 1 [.int .i64 (x.c)] rfl rfl (one_cell u4 (x.c)) (fun u hu=>by simp at hu;subst hu;rfl) (by omega) (by simp[maxLen]) (by simp) (HU4.out.keep (below_alloc _ (.cells #[.int .i64 (x.c)] 2))).bel.size _ rfl ?_;intro g5 cap5 w5 hown hgrow hat hlt3;have HU5:Hid (NP w w5 (.slice (some ⟨g5,0,none⟩) ((([]++[((e:Int)+1)]):List Int).length+1) cap5) (([]++[((e:Int)+1)])++[x.c])):=HU4.out.app hown rfl hgrow;clear hown hgrow hat hlt3)
          go_wp2
          go_ret
          exact⟨_,rfl,by rw[placesL_ne xs x e h1 hgo (fun q=>heq (by rw[q];push_cast;rfl))];exact HU5.out.row,HU5.out.bel⟩
    . have h1:¬(onB x=true/\e+1<xs.length):=fun q=>hb (by rw[<-HL.out];exact q.2)
      rw[show decide (0<=(e:Int)+1/\(e:Int)+1<(n:Int))=false from by simp;omega]
      obtain⟨x0,x1,x2,x3⟩:=MI.at4 (n:=0) HC.out HX.out HU1.out.bel
      go_wp2_with fail
      refine(namesPlace_any x _).mono ?_
      rintro e4 u4 ⟨rfl,b4⟩
      have HU4:Hid (NP w u4 (.slice none 0 0) []):=HU1.out.keep b4
      clear b4
      clear x0 x1 x2 x3
      cases hgo:goesB x
      . go_wp2
        go_ret
        exact⟨_,rfl,by rw[placesL_no xs x e h1 (by rw[hgo];exact Bool.false_ne_true)];exact HU4.out.row,HU4.out.bel⟩
      . obtain⟨hc0,hc1⟩:=HG.out e x HX.out hgo
        go_wp2_with fail
        refine(contains_none none 0 x.c _).mono ?_
        rintro e5 u5 ⟨rfl,hu⟩
        have hu2:=hu.symm
        clear hu
        subst hu2
        go_wp2_with (at_builtin;refine wpList_append_lies _ rfl _ _ 48 rfl w.heap.size 2 k0 (.int .i64 0) 1 8 Tryz.underlying48 hk hx0 hx1 hx2 rfl (by decide) _ ([]:List Int).length (([]:List Int).flatMap intCell) rfl (HU4.out.keep (below_alloc _ (.cells #[.int .i64 (x.c)] 2))).row ⟨u4.heap.size,0,none⟩ 1 1 [.int .i64 (x.c)] rfl rfl (one_cell u4 (x.c)) (fun u hu=>by simp at hu;subst hu;rfl) (by omega) (by simp[maxLen]) (by simp) (HU4.out.keep (below_alloc _ (.cells #[.int .i64 (x.c)] 2))).bel.size _ rfl ?_;intro g3 cap3 w3 hown hgrow hat hlt3;have HU5:Hid (NP w w3 (.slice (some ⟨g3,0,none⟩) (0+1) cap3) ([]++[x.c])):=HU4.out.app hown rfl hgrow;clear hown hgrow hat hlt3)
        go_wp2
        go_ret
        exact⟨_,rfl,by rw[placesL_go xs x e h1 hgo];exact HU5.out.row,HU5.out.bel⟩
end Go.Proofs.YtdfmdgbolmbffaaGreat
namespace Go.Proofs.YtdfmdgbolmbffaaGreat
open Go.ChangeShapes Go.WideShapes Go.ChangeAt Go.RowKit
set_option linter.unusedVariables false
def midB(xs:List MI)(m:MB):MB:=⟨m.first,m.last,placesL xs (xs.getD m.last.toNat ⟨0,0,0,0⟩) m.last.toNat⟩
def midL(xs:List MI):List MB:=(outL xs xs.length).map (midB xs)
theorem midL_length(xs:List MI):(midL xs).length=(lds xs xs.length).length:=by unfold midL;rw[List.length_map,outL_length]
theorem build_at(L:List Nat)(n b a q:Nat)(ha:L[b]?=some a)(hq:(L++[n])[b+1]?=some q):(build L n)[b]?=some ⟨(a:Int),(q:Int)-1,[]⟩:=by
  unfold build
  rw[List.getElem?_zipWith,ha]
  have e:(L.tail++[n])[b]?=some q:=by
    cases L with
    |nil=>simp at ha
    |cons y r=>simpa using hq
  rw[e]
def z3:List Value:=[.int .i64 0,.int .i64 0,.slice none 0 0]
structure IW(w u:World)(xs:List MI)(gl cl bl j:Nat)(D:List (MB×Value)):Prop where
  row:u.ownsRow w.heap.size 71 3 (.slice (some ⟨bl,0,none⟩) (lds xs xs.length).length (lds xs xs.length).length) (lds xs xs.length).length ((List.replicate j z3).flatten++D.flatMap bCells)
  fam:Fam u w.heap.size ((.slice (some ⟨gl,0,none⟩) (lds xs xs.length).length cl,(lds xs xs.length).map Int.ofNat)::nrows D)
  done:D.map Prod.fst=(midL xs).drop j
  bel:Below w.heap.size w u
theorem IW.lead{w u:World}{xs:List MI}{gl cl bl j:Nat}{D:List (MB×Value)}(h:IW w u xs gl cl bl j D):u.ownsRow w.heap.size 2 1 (.slice (some ⟨gl,0,none⟩) (lds xs xs.length).length cl) (lds xs xs.length).length (((lds xs xs.length).map Int.ofNat).flatMap intCell):=by
  have:=h.fam.own _ (List.mem_cons_self)
  simpa using this
theorem Fam.keep{u u':World}{B:Nat}{L:List (Value×List Int)}(h:Fam u B L)(hb:Below u.heap.size u u'):Fam u' B L:=⟨fun r hr=>own_keep (h.own r hr) hb (Nat.le_refl _),h.sep⟩
theorem Fam.add{u u':World}{B:Nat}{y:Value×List Int}{L:List (Value×List Int)}{b:Value}{cb:List Int}(h:Fam u B (y::L))(hb:Below u.heap.size u u')(hn:u'.ownsRow u.heap.size 2 1 b cb.length (cb.flatMap intCell))(hB:B<=u.heap.size):Fam u' B (y::(b,cb)::L):=by
  have hap:∀r∈y::L,Apart (b,cb) r:=by
    intro r hr g hg e
    have h1:=hn.lt g hg
    have h2:=(h.own r hr).lt g e
    omega
  obtain⟨p1,p2⟩:=List.pairwise_cons.1 h.sep
  refine⟨?_,List.pairwise_cons.2 ⟨?_,List.pairwise_cons.2 ⟨fun r hr=>hap r (by simp[hr]),p2⟩⟩⟩
  . intro r hr
    simp only[List.mem_cons]at hr
    rcases hr with rfl|rfl|hr
    . exact own_keep (h.own _ (by simp)) hb (Nat.le_refl _)
    . exact own_lower hn hB
    . exact own_keep (h.own r (by simp[hr])) hb (Nat.le_refl _)
  . intro r hr
    simp only[List.mem_cons]at hr
    rcases hr with rfl|hr
    . exact(hap y (by simp)).symm
    . exact p1 r hr
theorem Fam.setB{w:World}{base g:Nat}{L:List (Value×List Int)}{B' k n c:Nat}{xs:List Value}(h:Fam w base L)(ho:w.ownsRow B' 71 k (.slice (some ⟨g,0,none⟩) n c) n xs)(i:Nat)(x:Value):Fam (w.setCell ⟨g,i,none⟩ x) base L:=
  ⟨fun y hy=>own_set_ne (h.own y hy) ho (by decide) i x,h.sep⟩
theorem set3of3(A R:List Value)(y0 y1 y2 c0 c1 c2:Value)(i:Nat)(h:A.length=i):(((A++([y0,y1,y2]++R)).set i c0).set (i+1) c1).set (i+2) c2=A++([c0,c1,c2]++R):=by
  subst h
  simp[List.set_append_right]
theorem z3_split(b:Nat)(R:List Value):(List.replicate (b+1) z3).flatten++R=(List.replicate b z3).flatten++(z3++R):=by
  rw[List.replicate_succ']
  simp
theorem z3_len(b:Nat):(List.replicate b z3).flatten.length=b*3:=by
  rw[List.length_flatten]
  simp[z3]
theorem IW.next{w wr u:World}{xs:List MI}{gl cl bl b a q e:Nat}{D:List (MB×Value)}{x:MI}{ar:Option Addr}{cr:Nat}(h:IW w wr xs gl cl bl (b+1) D)(hb:Below wr.heap.size wr u)(hr:u.ownsRow wr.heap.size 2 1 (.slice ar (placesL xs x e).length cr) (placesL xs x e).length ((placesL xs x e).flatMap intCell))(ha:(lds xs xs.length)[b]?=some a)(hq:(lds xs xs.length++[xs.length])[b+1]?=some q)(he:(q:Int)-1=(e:Int))(hx:xs[e]?=some x):
    IW w (((u.setCell ⟨bl,b*3,none⟩ (.int .i64 a)).setCell ⟨bl,b*3+1,none⟩ (.int .i64 e)).setCell ⟨bl,b*3+2,none⟩ (.slice ar (placesL xs x e).length cr)) xs gl cl bl b ((⟨(a:Int),(e:Int),placesL xs x e⟩,.slice ar (placesL xs x e).length cr)::D):=by
  have r0:=own_keep h.row hb (Nat.le_refl _)
  have r1:=(r0.stored (b*3) (.int .i64 a)).1
  have r2:=(r1.stored (b*3+1) (.int .i64 e)).1
  have r3:=(r2.stored (b*3+2) (.slice ar (placesL xs x e).length cr)).1
  rw[z3_split,show z3++D.flatMap bCells=[Value.int .i64 0,.int .i64 0,.slice none 0 0]++D.flatMap bCells from rfl,set3of3 _ _ _ _ _ _ _ _ _ (z3_len b)]at r3
  have hbl:=(own_blk r0).1
  have hm:=build_at _ _ _ _ _ ha hq
  refine⟨?_,?_,?_,(((below_on h.bel (Nat.le_refl _) hb).setCell hbl _).setCell hbl _).setCell hbl _⟩
  . rw[List.flatMap_cons]
    exact r3
  . have f0:=Fam.add h.fam hb hr h.bel.size
    exact((f0.setB r0 _ _).setB r1 _ _).setB r2 _ _
  . have hlt:b<(midL xs).length:=by rw[midL_length];exact(List.getElem?_eq_some_iff.1 ha).1
    rw[List.map_cons,h.done,List.drop_eq_getElem_cons hlt]
    congr 1
    have e1:(midL xs)[b]?=some (midB xs ⟨(a:Int),(q:Int)-1,[]⟩):=by
      unfold midL
      rw[List.getElem?_map,outL_build,hm]
      rfl
    have e2:=(List.getElem?_eq_some_iff.1 e1).2
    rw[e2]
    unfold midB
    rw[he,Int.toNat_natCast,List.getD_eq_getElem?_getD,hx]
    rfl
end Go.Proofs.YtdfmdgbolmbffaaGreat
namespace Go.Proofs.YtdfmdgbolmbffaaGreat
open Go.ChangeShapes Go.WideShapes Go.ChangeAt Go.RowKit
set_option linter.unusedVariables false
def idxL(xs:List MI)(p:Int):Int:=((lds xs xs.length).idxOf p.toNat:Int)
def finB(xs:List MI)(x:MB×Value):MB×Value:=(⟨x.1.first,x.1.last,x.1.next.map (idxL xs)⟩,x.2)
theorem fin_spec(xs:List MI)(hg:CodeGood xs)(D:List (MB×Value))(h:D.map Prod.fst=midL xs):(D.map (finB xs)).map Prod.fst=specL xs:=by
  have e1:(D.map (finB xs)).map Prod.fst=(D.map Prod.fst).map fun b=>⟨b.first,b.last,b.next.map (idxL xs)⟩:=by
    rw[List.map_map,List.map_map]
    rfl
  rw[e1,h]
  unfold midL specL
  rw[List.map_map]
  apply List.map_congr_left
  intro m hm
  obtain⟨b,hb⟩:=List.getElem?_of_mem hm
  obtain⟨e,he,hen⟩:=last_nat xs xs.length hg.1 m hm
  obtain⟨x,hx⟩:∃x,xs[e]?=some x:=⟨_,List.getElem?_eq_getElem hen⟩
  have hs:=next_same xs b e x m hg hb he hx
  simp only[Function.comp,midB,specB]
  rw[he,Int.toNat_natCast,List.getD_eq_getElem?_getD,hx]
  simp only[Option.getD_some]
  rw[hs]
  rfl
theorem places_lead(xs:List MI)(hg:CodeGood xs)(m:MB)(hm:m∈midL xs)(p:Int)(hp:p∈m.next):0<=p/\p.toNat∈lds xs xs.length:=by
  unfold midL at hm
  obtain⟨m0,hm0,rfl⟩:=List.mem_map.1 hm
  obtain⟨b,hb⟩:=List.getElem?_of_mem hm0
  obtain⟨e,he,hen⟩:=last_nat xs xs.length hg.1 m0 hm0
  obtain⟨x,hx⟩:∃x,xs[e]?=some x:=⟨_,List.getElem?_eq_getElem hen⟩
  simp only[midB]at hp
  rw[he,Int.toNat_natCast,List.getD_eq_getElem?_getD,hx]at hp
  simp only[Option.getD_some,placesL]at hp
  rcases List.mem_append.1 hp with h1|h1
  . split at h1
    . rename_i q
      simp only[List.mem_cons,List.not_mem_nil,or_false]at h1
      subst h1
      rw[outL_build]at hb
      refine⟨by omega,?_⟩
      rw[Int.toNat_natCast]
      exact end_lead _ _ _ _ _ hb he q.2
    . cases h1
  . split at h1
    . rename_i q
      simp only[List.mem_cons,List.not_mem_nil,or_false]at h1
      subst h1
      obtain⟨c0,c1⟩:=hg.2.2 e x hx q.1
      have c3:(x.c.toNat:Int)=x.c:=Int.toNat_of_nonneg c0
      exact⟨c0,(lds_mem _ _ _).2 ⟨by omega,leadB_of xs _ e _ x hen hx (by simp[leads,q.1,c3])⟩⟩
    . cases h1
theorem idx_map(L:List Nat)(q:Nat):(L.map Int.ofNat).idxOf (q:Int)=L.idxOf q:=by
  induction L with
  |nil=>rfl
  | cons y r ih=>
    rw[List.map_cons,List.idxOf_cons,List.idxOf_cons,ih]
    by_cases h:y=q
    . subst h
      simp
    . have h1:(Int.ofNat y==(q:Int))=false:=by
        rw[beq_eq_false_iff_ne]
        intro e
        exact h (by have e':(y:Int)=(q:Int):=e;omega)
      have h2:(y==q)=false:=by simpa using h
      rw[h1,h2]
structure JW(w u:World)(xs:List MI)(gl cl bl:Nat)(F:List (MB×Value)):Prop where
  row:u.ownsRow w.heap.size 71 3 (.slice (some ⟨bl,0,none⟩) (lds xs xs.length).length (lds xs xs.length).length) (lds xs xs.length).length (F.flatMap bCells)
  fam:Fam u w.heap.size ((.slice (some ⟨gl,0,none⟩) (lds xs xs.length).length cl,(lds xs xs.length).map Int.ofNat)::nrows F)
  bel:Below w.heap.size w u
theorem JW.keep{w u u':World}{xs:List MI}{gl cl bl:Nat}{F:List (MB×Value)}(h:JW w u xs gl cl bl F)(hb:Below u.heap.size u u'):JW w u' xs gl cl bl F:=⟨own_keep h.row hb (Nat.le_refl _),h.fam.keep hb,below_on h.bel (Nat.le_refl _) hb⟩
theorem JW.drew{w u:World}{xs:List MI}{gl cl bl:Nat}{F:List (MB×Value)}(h:JW w u xs gl cl bl F)(k:Nat):JW w (u.drewN k) xs gl cl bl F:=⟨⟨h.row.1,h.row.2⟩,⟨fun r hr=>⟨(h.fam.own r hr).1,(h.fam.own r hr).2⟩,h.fam.sep⟩,⟨h.bel.os,h.bel.tape,h.bel.output,h.bel.size,h.bel.block⟩⟩
theorem JW.set{w u:World}{xs:List MI}{gl cl bl gv cv n:Nat}{E G:List (MB×Value)}{f l:Int}{ps qs:List Int}{i:Nat}{z:Int}(h:JW w u xs gl cl bl (E++(⟨f,l,ps⟩,.slice (some ⟨gv,0,none⟩) n cv)::G))(hn:ps.length=n)(hq:(ps.flatMap intCell).set i (.int .i64 z)=qs.flatMap intCell)(hl:qs.length=ps.length):JW w (u.setCell ⟨gv,i,none⟩ (.int .i64 z)) xs gl cl bl (E++(⟨f,l,qs⟩,.slice (some ⟨gv,0,none⟩) n cv)::G):=by
  have hv:=h.fam.own (.slice (some ⟨gv,0,none⟩) n cv,ps) (by simp[nrows])
  simp only[]at hv
  rw[hn]at hv
  have h1:=(hv.stored i (.int .i64 z)).1
  rw[hq]at h1
  refine⟨?_,?_,h.bel.setCell (own_blk hv).1 _⟩
  . have:=own_set_ne h.row hv (by decide) i (.int .i64 z)
    simpa[bCells]using this
  . have hf:=h.fam
    rw[show(((.slice (some ⟨gl,0,none⟩) (lds xs xs.length).length cl,(lds xs xs.length).map Int.ofNat):Value×List Int)::nrows (E++((⟨f,l,ps⟩:MB),(.slice (some ⟨gv,0,none⟩) n cv:Value))::G))=(((.slice (some ⟨gl,0,none⟩) (lds xs xs.length).length cl,(lds xs xs.length).map Int.ofNat):Value×List Int)::nrows E)++((.slice (some ⟨gv,0,none⟩) n cv:Value),ps)::nrows G from by simp[nrows]]at hf
    have:=Fam.put (c':=qs) hf hl (by rw[hn];exact h1) (grown_set' ⟨rfl,rfl,rfl,Nat.le_refl _,fun _ _ _=>rfl⟩ i (.int .i64 z))
    simpa[nrows]using this
theorem JW.search{w u:World}{xs:List MI}{gl cl bl m:Nat}{F:List (MB×Value)}(h:JW w u xs gl cl bl F)(hm:(lds xs xs.length).length=m)(hm1:m<=1024)(p:Int)(h0:0<=p)(hp:p.toNat∈lds xs xs.length):
    Calls Tryz.prog 138 #[.slice (some ⟨gl,0,none⟩) m cl,.int .i64 p] u fun e w'=>(∃b,e=.returned (.tuple #[.int .i64 (idxL xs p),.bool b]))/\∃q,w'=u.drewN q:=by
  have hl:=Rd.of_own (h.fam.own _ List.mem_cons_self)
  simp only[List.length_map]at hl
  have k:=search_any gl cl ((lds xs xs.length).map Int.ofNat) p u (by rw[List.length_map,hm];omega) (List.pairwise_map.2 ((lds_sorted xs _).imp (fun h=>by simpa using h))) (by rw[List.length_map];exact hl) (List.mem_map.2 ⟨p.toNat,hp,by simp;omega⟩)
  have e:((lds xs xs.length).map Int.ofNat).idxOf p=(lds xs xs.length).idxOf p.toNat:=by
    have e1:p=(p.toNat:Int):=by omega
    rw[<-idx_map]
    congr 1
  rw[List.length_map,hm,e]at k
  exact k
theorem step_ints(xs:List MI)(ps:List Int)(i:Nat)(p:Int)(h:ps[i]?=some p):(((ps.map (idxL xs)).take i++ps.drop i).flatMap intCell).set i (.int .i64 (idxL xs p))=((ps.map (idxL xs)).take (i+1)++ps.drop (i+1)).flatMap intCell:=by
  obtain⟨hlt,hp⟩:=List.getElem?_eq_some_iff.1 h
  rw[List.drop_eq_getElem_cons hlt,hp,List.flatMap_append,List.flatMap_cons]
  have hA:((List.take i (ps.map (idxL xs))).flatMap intCell).length=i:=by
    rw[flat_length intCell 1 intCell_length,List.length_take,List.length_map]
    omega
  rw[show intCell p++List.flatMap intCell (List.drop (i+1) ps)=[Value.int .i64 p]++List.flatMap intCell (List.drop (i+1) ps)from rfl,set1 _ _ _ _ i hA,List.take_succ_eq_append_getElem (by simpa using hlt),List.flatMap_append,List.flatMap_append]
  simp[intCell,hp]
end Go.Proofs.YtdfmdgbolmbffaaGreat
