import Derived.Test.YtdfmdgbolmbffaaGreatTy46
import Derived.Test.YtdfmdgbolmbffaaGreatTy26
import Derived.Test.YtdfmdgbolmbffaaGreatTy20
import Derived.Lib.AppendZeros
namespace Go.Proofs.YtdfmdgbolmbffaaGreat
open Go.ChangeShapes Go.WideShapes Go.ChangeAt Go.RowKit
set_option linter.unusedVariables false
theorem runK_step{p:MP}{f:MF}{x:MI}{d me:Nat}{sh:List Int}{T:Nat->List Int}{D:Nat}(hx:f.code[d]?=some x)(hd:d<=me):runK p f (me+1-d) d sh T D=if codeI p f x sh=0 then runK p f (me+1-(d+1)) (d+1) (outI p f x sh) (updT T d sh) (max D (outI p f x sh).length)else .inl (codeI p f x sh,d):=by
  have e:me+1-d=(me+1-(d+1))+1:=by omega
  rw[e,runK,hx]
theorem runK_end{p:MP}{f:MF}{me d:Nat}{sh:List Int}{T:Nat->List Int}{D:Nat}(hd:d=me+1):runK p f (me+1-d) d sh T D=.inr (sh,T,D):=by
  have e:me+1-d=0:=by omega
  rw[e,runK]
theorem drop_at{α:Type}{l:List α}{k:Nat}{x:α}(h:l[k]?=some x):l.drop k=x::l.drop (k+1):=by
  obtain⟨i,rfl⟩:=List.getElem?_eq_some_iff.1 h
  exact List.drop_eq_getElem_cons i
theorem runO_at{p:MP}{f:MF}{bs:List MB}{order:List Int}{k b:Nat}{z:Int}{m:MB}{s:WS}{RUN:RunO}(h:runO p f bs ((order.map Int.toNat).drop k) s=RUN)(hz:order[k]?=some z)(ez:z=(b:Int))(hm:bs[b]?=some m):(match runB p f m b s with|.inl e=>Sum.inl e|.inr s'=>runO p f bs ((order.map Int.toNat).drop (k+1)) s')=RUN:=by
  have e:(order.map Int.toNat)[k]?=some b:=by rw[List.getElem?_map,hz,ez];simp
  rw[drop_at e,runO,hm]at h
  exact h
def AtB(p:MP)(f:MF)(bs:List MB)(rest:List Nat)(me:Nat)(nx:List Nat)(sh:List Int)(C:Nat->Option (List Int))(T:Nat->List Int)(D:Nat)(RUN:RunO):Prop:=(match meetK nx sh C with|none=>Sum.inl (4,me)|some C'=>runO p f bs rest ⟨C',T,D⟩)=RUN
theorem runB_eq{p:MP}{f:MF}{m:MB}{b ma me:Nat}{s:WS}(h1:m.first=(ma:Int))(h2:m.last=(me:Int)):runB p f m b s=(match runK p f (me+1-ma) ma ((s.c b).getD []) s.t s.d with|.inl e=>.inl e|.inr (sh,T,D)=>match meetK (m.next.map Int.toNat) sh s.c with|none=>.inl (4,me)|some C=>.inr ⟨C,T,D⟩):=by
  unfold runB
  have e:(m.last-m.first+1).toNat=me+1-ma:=by omega
  rw[e,h1,h2,Int.toNat_natCast,Int.toNat_natCast]<;>rfl
theorem AtB.bad{p:MP}{f:MF}{bs:List MB}{order:List Int}{k b ma me:Nat}{z:Int}{m:MB}{s:WS}{RUN:RunO}{e:Int×Nat}(h:runO p f bs ((order.map Int.toNat).drop k) s=RUN)(hz:order[k]?=some z)(ez:z=(b:Int))(hm:bs[b]?=some m)(h1:m.first=(ma:Int))(h2:m.last=(me:Int))(hr:runK p f (me+1-ma) ma ((s.c b).getD []) s.t s.d=.inl e):RUN=.inl e:=by
  have:=runO_at h hz ez hm
  rw[runB_eq h1 h2,hr]at this
  exact this.symm
theorem AtB.of{p:MP}{f:MF}{bs:List MB}{order:List Int}{k b ma me:Nat}{z:Int}{m:MB}{s:WS}{RUN:RunO}{sh sh':List Int}{T:Nat->List Int}{D:Nat}(h:runO p f bs ((order.map Int.toNat).drop k) s=RUN)(hz:order[k]?=some z)(ez:z=(b:Int))(hm:bs[b]?=some m)(h1:m.first=(ma:Int))(h2:m.last=(me:Int))(hr:runK p f (me+1-ma) ma ((s.c b).getD []) s.t s.d=.inr (sh',T,D))(hs:sh'=sh\/m.next=[]):AtB p f bs ((order.map Int.toNat).drop (k+1)) me (m.next.map Int.toNat) sh s.c T D RUN:=by
  have h3:=runO_at h hz ez hm
  rw[runB_eq h1 h2,hr]at h3
  unfold AtB
  rcases hs with e|e
  . subst e
    rw[<-h3]
    simp only[]
    cases meetK (m.next.map Int.toNat) sh' s.c<;>rfl
  . rw[e]at h3⊢
    exact h3
theorem AtB.none_{p:MP}{f:MF}{bs:List MB}{rest nx:List Nat}{me t:Nat}{sh s':List Int}{C:Nat->Option (List Int)}{T:Nat->List Int}{D:Nat}{RUN:RunO}(h:AtB p f bs rest me (t::nx) sh C T D RUN)(hc:C t=some s')(hs:¬s'=sh):RUN=.inl (4,me):=by
  unfold AtB at h
  rw[meetK,hc]at h
  simp only[if_neg hs]at h
  exact h.symm
theorem AtB.same{p:MP}{f:MF}{bs:List MB}{rest nx:List Nat}{me t:Nat}{sh s':List Int}{C:Nat->Option (List Int)}{T:Nat->List Int}{D:Nat}{RUN:RunO}(h:AtB p f bs rest me (t::nx) sh C T D RUN)(hc:C t=some s')(hs:s'=sh):AtB p f bs rest me nx sh C T D RUN:=by
  unfold AtB at h⊢
  rw[meetK,hc]at h
  simp only[if_pos hs]at h
  exact h
theorem AtB.new{p:MP}{f:MF}{bs:List MB}{rest nx:List Nat}{me t:Nat}{sh:List Int}{C:Nat->Option (List Int)}{T:Nat->List Int}{D:Nat}{RUN:RunO}(h:AtB p f bs rest me (t::nx) sh C T D RUN)(hc:C t=none):AtB p f bs rest me nx sh (updC C t sh) T D RUN:=by
  unfold AtB at h⊢
  rw[meetK,hc]at h
  exact h
theorem AtB.some_{p:MP}{f:MF}{bs:List MB}{rest:List Nat}{me:Nat}{sh:List Int}{C:Nat->Option (List Int)}{T:Nat->List Int}{D:Nat}{RUN:RunO}(h:AtB p f bs rest me [] sh C T D RUN):runO p f bs rest ⟨C,T,D⟩=RUN:=h
theorem codeT_small{p:MP}{f:MF}{x:MI}{sh:List Int}(h:codeT p f x sh=0):(outT p f x sh).length<=64:=by
  unfold codeT at h
  by_cases h1:sh.length<(takesL p f x).length
  . rw[if_pos h1]at h;simp at h
  . rw[if_neg h1]at h
    split at h
    . simp at h
    . split at h
      . simp at h
      . omega
theorem ret_next{xs:List MI}{b e:Nat}{m:MB}{x:MI}(h:(specL xs)[b]?=some m)(he:m.last=(e:Int))(hx:xs[e]?=some x)(hop:x.op=29):m.next=[]:=by
  unfold specL at h
  rw[List.getElem?_map]at h
  obtain⟨m0,h1,rfl⟩:=Option.map_eq_some_iff.1 h
  have he0:m0.last=(e:Int):=he
  have hB:(specB xs m0).next=nextS xs x e:=by
    unfold specB
    rw[he0,Int.toNat_natCast,List.getD_eq_getElem?_getD,hx]
    rfl
  rw[hB]
  simp[nextS,onB,goesB,hop]
end Go.Proofs.YtdfmdgbolmbffaaGreat
namespace Go.Proofs.YtdfmdgbolmbffaaGreat
open Go.ChangeShapes Go.WideShapes Go.ChangeAt Go.RowKit
set_option linter.unusedVariables false
def RowT(u:World)(B:Nat)(V:Value)(sh:List Int):Prop:=u.ownsRow B 2 1 V sh.length (sh.flatMap intCell)
theorem RowT.keep{u u':World}{B:Nat}{V:Value}{sh:List Int}(h:RowT u B V sh)(hb:Below u.heap.size u u'):RowT u' B V sh:=own_keep h hb (Nat.le_refl _)
theorem RowT.set{u:World}{B:Nat}{V:Value}{sh:List Int}(h:RowT u B V sh){a:Addr}(ha:a.block<B)(x:Value):RowT (u.setCell a x) B V sh:=ownsRow_setCell_below h ha x
theorem RowT.nil(u:World)(B:Nat):RowT u B (.slice none 0 0) []:=World.ownsRow_nil _ _ _ _
structure TyB(FB OB GS GC GF B:Nat):Prop where
  h3:FB<GS
  h4:GS<OB
  h5:OB<GC
  h6:GC<GF
  h7:GF<B
structure TyS(U u:World)(n:Nat)(OB GS GC GF B:Nat)(r:MFl)(z1 z2 z3 z4:Value)(RS RF:List Value)(s:WS):Prop where
  lb:Blk u U.heap.size #[.int .i64 r.code,.int .i64 r.at_,z1,z2,z3,z4] 67
  ob:Blk u OB #[.int .i64 0,.int .i64 0,.int .i64 (s.d:Int),.slice (some ⟨GS,0,none⟩) n n] 30
  sa:u.ownsRow U.heap.size 48 1 (.slice (some ⟨GS,0,none⟩) n n) n RS
  ca:u.ownsRow U.heap.size 4 1 (.slice (some ⟨GC,0,none⟩) r.blocks.length r.blocks.length) r.blocks.length ((List.range r.blocks.length).map fun b=>Value.bool (s.c b).isSome)
  fa:u.ownsRow U.heap.size 48 1 (.slice (some ⟨GF,0,none⟩) r.blocks.length r.blocks.length) r.blocks.length RF
  sl:RS.length=n
  fl:RF.length=r.blocks.length
  rs:∀(j:Nat) (V:Value),RS[j]?=some V->RowT u B V (s.t j)
  rfw:∀(b:Nat) (V:Value),RF[b]?=some V->RowT u B V ((s.c b).getD [])
  bel:Below U.heap.size U u
  tb:TyB U.heap.size OB GS GC GF B
  sz:B<=u.heap.size
theorem TyS.keep{U u u':World}{n:Nat}{OB GS GC GF B:Nat}{r:MFl}{z1 z2 z3 z4:Value}{RS RF:List Value}{s:WS}(h:TyS U u n OB GS GC GF B r z1 z2 z3 z4 RS RF s)(hb:Below u.heap.size u u'):TyS U u' n OB GS GC GF B r z1 z2 z3 z4 RS RF s:=
  ⟨h.lb.keep hb,h.ob.keep hb,own_keep h.sa hb (Nat.le_refl _),own_keep h.ca hb (Nat.le_refl _),own_keep h.fa hb (Nat.le_refl _),h.sl,h.fl,fun j V e=>(h.rs j V e).keep hb,fun b V e=>(h.rfw b V e).keep hb,below_on h.bel (Nat.le_refl _) hb,h.tb,Nat.le_trans h.sz hb.size⟩
theorem heap_set(u:World)(a:Addr)(x:Value):(u.setCell a x).heap.size=u.heap.size:=by simp
theorem TyS.setS{U u:World}{n:Nat}{OB GS GC GF B:Nat}{r:MFl}{z1 z2 z3 z4:Value}{RS RF:List Value}{s:WS}(h:TyS U u n OB GS GC GF B r z1 z2 z3 z4 RS RF s){j:Nat}{V:Value}{sh:List Int}(hV:RowT u B V sh):TyS U (u.setCell ⟨GS,j,none⟩ V) n OB GS GC GF B r z1 z2 z3 z4 (RS.set j V) RF ⟨s.c,updT s.t j sh,s.d⟩:=by
  have b3:=h.tb.h3
  have b4:=h.tb.h4
  have b5:=h.tb.h5
  have b6:=h.tb.h6
  have b7:=h.tb.h7
  refine⟨h.lb.other (by simp only[];omega) V,h.ob.other (by simp only[];omega) V,(h.sa.stored j V).1,ownsRow_setCell_other h.ca (by simp[Value.ownBlock];omega) V,ownsRow_setCell_other h.fa (by simp[Value.ownBlock];omega) V,by rw[List.length_set];exact h.sl,h.fl,fun i W e=> ?_,fun b W e=>(h.rfw b W e).set (by simp only[];omega) V,h.bel.setCell (by simp only[];omega) V,h.tb,by rw[heap_set];exact h.sz⟩
  simp only[updT]
  by_cases ei:i=j
  . subst ei
    have hl:i<RS.length:=by have:=(List.getElem?_eq_some_iff.1 e).1;rw[List.length_set]at this;exact this
    rw[List.getElem?_set_self hl]at e
    cases e
    rw[if_pos rfl]
    exact hV.set (by simp only[];omega) V
  . rw[List.getElem?_set_ne (fun e=>ei e.symm)]at e
    rw[if_neg ei]
    exact(h.rs i W e).set (by simp only[];omega) V
theorem TyS.setD{U u:World}{n:Nat}{OB GS GC GF B:Nat}{r:MFl}{z1 z2 z3 z4:Value}{RS RF:List Value}{s:WS}(h:TyS U u n OB GS GC GF B r z1 z2 z3 z4 RS RF s)(d:Nat):TyS U (u.setCell ⟨OB,2,none⟩ (.int .i64 (d:Int))) n OB GS GC GF B r z1 z2 z3 z4 RS RF ⟨s.c,s.t,d⟩:=by
  have b3:=h.tb.h3
  have b4:=h.tb.h4
  have b5:=h.tb.h5
  have b6:=h.tb.h6
  have b7:=h.tb.h7
  have ho:=h.ob.set 2 (.int .i64 (d:Int))
  simp only[List.setIfInBounds_toArray,List.set_cons_zero,List.set_cons_succ]at ho
  exact⟨h.lb.other (by simp only[];omega) _,ho,ownsRow_setCell_other h.sa (by simp[Value.ownBlock];omega) _,ownsRow_setCell_other h.ca (by simp[Value.ownBlock];omega) _,ownsRow_setCell_other h.fa (by simp[Value.ownBlock];omega) _,h.sl,h.fl,fun i W e=>(h.rs i W e).set (by simp only[];omega) _,fun b W e=>(h.rfw b W e).set (by simp only[];omega) _,h.bel.setCell (by simp only[];omega) _,h.tb,by rw[heap_set];exact h.sz⟩
theorem TyS.setC{U u:World}{n:Nat}{OB GS GC GF B:Nat}{r:MFl}{z1 z2 z3 z4:Value}{RS RF:List Value}{s:WS}(h:TyS U u n OB GS GC GF B r z1 z2 z3 z4 RS RF s){t:Nat}{V:Value}{sh:List Int}(hV:RowT u B V sh):TyS U ((u.setCell ⟨GC,t,none⟩ (.bool true)).setCell ⟨GF,t,none⟩ V) n OB GS GC GF B r z1 z2 z3 z4 RS (RF.set t V) ⟨updC s.c t sh,s.t,s.d⟩:=by
  have b3:=h.tb.h3
  have b4:=h.tb.h4
  have b5:=h.tb.h5
  have b6:=h.tb.h6
  have b7:=h.tb.h7
  have c1:=(h.ca.stored t (.bool true)).1
  have f1:=ownsRow_setCell_other h.fa (a:=⟨GC,t,none⟩) (by simp[Value.ownBlock];omega) (.bool true)
  have s1:=ownsRow_setCell_other h.sa (a:=⟨GC,t,none⟩) (by simp[Value.ownBlock];omega) (.bool true)
  refine⟨(h.lb.other (by simp only[];omega) _).other (by simp only[];omega) _,(h.ob.other (by simp only[];omega) _).other (by simp only[];omega) _,ownsRow_setCell_other s1 (by simp[Value.ownBlock];omega) _,?_,(f1.stored t V).1,h.sl,by rw[List.length_set];exact h.fl,fun i W e=>((h.rs i W e).set (by simp only[];omega) _).set (by simp only[];omega) _,fun b W e=> ?_,(h.bel.setCell (by simp only[];omega) _).setCell (by simp only[];omega) _,h.tb,by rw[heap_set,heap_set];exact h.sz⟩
  . have c2:=ownsRow_setCell_other c1 (a:=⟨GF,t,none⟩) (by simp[Value.ownBlock];omega) V
    have e:(((List.range r.blocks.length).map fun b=>Value.bool (s.c b).isSome).set t (.bool true))=(List.range r.blocks.length).map fun b=>Value.bool (updC s.c t sh b).isSome:=by
      apply List.ext_getElem?
      intro i
      by_cases ei:i=t
      . subst ei
        by_cases hl:i<r.blocks.length
        . rw[List.getElem?_set_self (by simpa using hl)]
          simp[updC,hl]
        . rw[List.getElem?_eq_none (by simp;omega),List.getElem?_eq_none (by simp;omega)]
      . rw[List.getElem?_set_ne (fun e=>ei e.symm)]
        simp only[List.getElem?_map]
        by_cases hl:i<r.blocks.length
        . simp[updC,hl,ei]
        . simp[hl]
    rw[<-e]
    exact c2
  . simp only[updC]
    by_cases ei:b=t
    . subst ei
      have hl:b<RF.length:=by have:=(List.getElem?_eq_some_iff.1 e).1;rw[List.length_set]at this;exact this
      rw[List.getElem?_set_self hl]at e
      cases e
      rw[if_pos rfl]
      exact(hV.set (by simp only[];omega) _).set (by simp only[];omega) _
    . rw[List.getElem?_set_ne (fun e=>ei e.symm)]at e
      rw[if_neg ei]
      exact((h.rfw b W e).set (by simp only[];omega) _).set (by simp only[];omega) _
theorem copy_run(ty:TypeId)(u:World)(B B':Nat)(V:Value)(sh:List Int)(h:RowT u B V sh)(hB:B'<=u.heap.size)(hl:sh.length<=1048576):∃v' w',(Builtin.append_ #[48,48] ty #[.slice (some ⟨u.heap.size,0,none⟩) 0 0,V]).run Tryz.prog (u.alloc (.cells #[] 2))=.ok v' w'/\RowT w' B' v' sh/\Below u.heap.size u w':=by
  obtain⟨i0,hi,hz0,hz1,hz2⟩:=info_parts info64
  have ho:(u.alloc (.cells #[] 2)).ownsRow u.heap.size 2 1 (.slice (some ⟨u.heap.size,0,none⟩) 0 0) 0 []:=⟨rfl,.inr ⟨u.heap.size,0,#[],rfl,Nat.le_refl _,heap_alloc_new _ _,Nat.le_refl _,Nat.zero_le _,rfl,by simp⟩⟩
  obtain⟨a,c,rfl⟩:=own_slice h
  have hrd:=(Rd.of_own h)
  cases a with
  | none=>
    have hz:sh.length=0:=by
      rcases hrd.2 with⟨e0,_⟩|⟨g,o,c,e1,_⟩
      . exact e0
      . cases e1
    have h0:sh=[]:=List.eq_nil_of_length_eq_zero hz
    subst h0
    refine⟨_,_,append_nothing (P:=Tryz.prog) u.heap.size 48 ty 2 i0 1 Tryz.underlying48 hi _ _ _ ho c,?_,below_alloc _ _⟩
    exact own_base ho hB
  | some ad=>
    have hN:∀j v,(sh.flatMap intCell)[j]?=some v->(u.alloc (.cells #[] 2)).cell? (ad.add j)=some v:=fun j v hj=>by
      rcases hrd.2 with⟨e0,_⟩|⟨g,o,c,e1,hc⟩
      . have:sh=[]:=List.eq_nil_of_length_eq_zero e0
        subst this
        simp at hj
      . simp only[Value.slice.injEq,Option.some.injEq]at e1
        obtain⟨rfl,_⟩:=e1
        have:=hc j v hj
        rw[add_at,(below_alloc u (.cells #[] 2)).cell (block_lt_of_cell this)]
        exact this
    obtain⟨v',w',hr,h2,h3,h4⟩:=run_append_own (P:=Tryz.prog) (u.alloc (.cells #[] 2)) u.heap.size 48 ty 2 i0 (.int .i64 0) 1 8 Tryz.underlying48 hi hz0 hz1 hz2 rfl (by decide) _ 0 [] ho ad sh.length c (sh.flatMap intCell) (by rw[flat_length intCell 1 intCell_length]) hN (ints_oneCell _) (by unfold maxLen;omega) (by omega) (below_alloc _ _).size
    refine⟨v',w',hr,own_base (by simpa using h2) hB,(below_alloc u (.cells #[] 2)).grown h3 (below_alloc _ _).size (fun j hj=>(ho.lt j hj).1)⟩
theorem wp_copy{o:Oper}{a:Act}{K:Act->World->Prop}{Q:Exit->Act->World->Prop}(s x:Operand)(ho:o.op=.call {callee:=.builtin .append,args:=#[s,x],argTypes:=#[48,48]})(u:World)(B B':Nat)(V:Value)(sh:List Int)(hs:a.eval s=.slice (some ⟨u.heap.size,0,none⟩) 0 0)(hx:a.eval x=V)(h:RowT u B V sh)(hB:B'<=u.heap.size)(hl:sh.length<=1048576)(hK:∀v' w',RowT w' B' v' sh->Below u.heap.size u w'->K (a.put o.dst v') w'):o.wp Tryz.prog a (u.alloc (.cells #[] 2)) K Q:=by
  obtain⟨v',w',hr,h1,h2⟩:=copy_run o.type u B B' V sh h hB hl
  exact Lib.wp_append_run _ s x 48 48 ho _ _ hs hx v' w' hr (hK v' w' h1 h2)
theorem wpList_copy{ops:Array Oper}{rest:List Oper}{o:Oper}{a:Act}{Q:Exit->Act->World->Prop}(hgd:o.guard=none)(s x:Operand)(ho:o.op=.call {callee:=.builtin .append,args:=#[s,x],argTypes:=#[48,48]})(u:World)(B B':Nat)(V:Value)(sh:List Int)(hs:a.eval s=.slice (some ⟨u.heap.size,0,none⟩) 0 0)(hx:a.eval x=V)(h:RowT u B V sh)(hB:B'<=u.heap.size)(hl:sh.length<=1048576)(hK:∀v' w',RowT w' B' v' sh->Below u.heap.size u w'->wpList Tryz.prog ops Q rest (a.put o.dst v') w'):wpList Tryz.prog ops Q (o::rest) a (u.alloc (.cells #[] 2)):=
  wpList_plain hgd fun _ hK'=>wp_copy s x ho u B B' V sh hs hx h hB hl fun v' w' h1 h2=>hK' _ _ (hK v' w' h1 h2)
theorem step_copy{ops:Array Oper}{o:Oper}{a:Act}{K:Act->World->Prop}{Q:Exit->Act->World->Prop}{E:Prop}(hgd:o.guard=none)(s x:Operand)(ho:o.op=.call {callee:=.builtin .append,args:=#[s,x],argTypes:=#[48,48]})(u:World)(B B':Nat)(V:Value)(sh:List Int)(hs:a.eval s=.slice (some ⟨u.heap.size,0,none⟩) 0 0)(hx:a.eval x=V)(h:RowT u B V sh)(hB:B'<=u.heap.size)(hl:sh.length<=1048576)(hK:∀v' w',RowT w' B' v' sh->Below u.heap.size u w'->K (a.put o.dst v') w'):if Region.wanted o (yielded ops a.tmps)=true then Oper.wp Tryz.prog o a (u.alloc (.cells #[] 2)) K Q else E:=by
  have hw:Region.wanted o (yielded ops a.tmps)=true:=by simp[Region.wanted,hgd]
  rw[if_pos hw]
  exact wp_copy s x ho u B B' V sh hs hx h hB hl hK
theorem blk_atT{u:World}{a:Option Addr}{n c:Nat}{bs:List MB}(h:RdBs u (.slice a n c) bs){k:Nat}{m:MB}(hk:bs[k]?=some m):∃g o a1 e1,a=some ⟨g,o,none⟩/\u.cell? ⟨g,o+k*3,none⟩=some (.int .i64 m.first)/\u.cell? ⟨g,o+k*3+1,none⟩=some (.int .i64 m.last)/\u.cell? ⟨g,o+k*3+2,none⟩=some (.slice a1 m.next.length e1)/\RdB u (.slice a1 m.next.length e1) m:=by
  obtain⟨xs,h1,h2,h3⟩:=h
  have hi:=(List.getElem?_eq_some_iff.1 hk).1
  obtain⟨⟨m',w1⟩,hx,hx1⟩:∃x,xs[k]?=some x/\x.1=m:=by
    rw[<-h1,List.getElem?_map]at hk
    exact Option.map_eq_some_iff.1 hk
  simp only[]at hx1
  subst hx1
  have hr:=h3 _ (List.mem_of_getElem? hx)
  obtain⟨a1,e1,q1⟩:=Rd.is_slice hr
  simp only[]at q1
  subst q1
  rcases h2.2 with⟨e,_⟩|⟨gg,oo,cc,e,hc⟩
  . omega
  . simp only[Value.slice.injEq]at e
    have j0:=Rd.elem bCells_length hc k _ hx 0 _ rfl
    have j1:=Rd.elem bCells_length hc k _ hx 1 _ rfl
    have j2:=Rd.elem bCells_length hc k _ hx 2 _ rfl
    rw[Nat.add_zero]at j0
    exact⟨gg,oo,a1,e1,e.1,j0,j1,j2,hr⟩
end Go.Proofs.YtdfmdgbolmbffaaGreat
