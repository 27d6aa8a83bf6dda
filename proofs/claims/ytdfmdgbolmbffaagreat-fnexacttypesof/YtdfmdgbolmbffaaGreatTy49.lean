import Derived.Test.YtdfmdgbolmbffaaGreatTy47
import Derived.Test.YtdfmdgbolmbffaaGreatTy22
import Derived.Test.YtdfmdgbolmbffaaGreatTy36
import Derived.Test.YtdfmdgbolmbffaaGreatTy27
import Derived.Test.YtdfmdgbolmbffaaGreatTy44
import Derived.Test.YtdfmdgbolmbffaaGreatTy3
import Derived.Test.YtdfmdgbolmbffaaGreatTy2
import Derived.Test.YtdfmdgbolmbffaaGreatTy12
import Derived.Test.YtdfmdgbolmbffaaGreatTy43
import Derived.Test.YtdfmdgbolmbffaaGreatTy21
import Derived.Deep.RegionHeldLaw
namespace Go.Proofs.YtdfmdgbolmbffaaGreat
open Go.ChangeShapes Go.WideShapes Go.ChangeAt Go.RowKit
set_option linter.unusedVariables false
structure WI where
  c:Nat->Bool
  r:Nat->List Int
  d:Nat
def fstB(bs:List MB)(b:Nat):Nat:=match bs[b]? with|some m=>m.first.toNat|none=>0
def updI(C:Nat->Bool)(t:Nat):Nat->Bool:=fun j=>if j=t then true else C j
def meetI(bs:List MB):List Nat->List Int->(Nat->Bool)->(Nat->List Int)->Option ((Nat->Bool)×(Nat->List Int))
  |[],_,C,R=>some (C,R)
  |t::r,sh,C,R=>if C t=true then(if R (fstB bs t)=sh then meetI bs r sh C R else none)else meetI bs r sh (updI C t) (updT R (fstB bs t) sh)
abbrev RunI:=Sum (Int×Nat) WI
def runBI(p:MP)(f:MF)(bs:List MB)(m:MB)(s:WI):RunI:=match runK p f (m.last-m.first+1).toNat m.first.toNat (s.r m.first.toNat) s.r s.d with
  |.inl e=>.inl e
  | .inr (sh,R,D)=>match meetI bs (m.next.map Int.toNat) sh s.c R with
    |none=>.inl (4,m.last.toNat)
    |some (C,R')=>.inr ⟨C,R',D⟩
def runOI(p:MP)(f:MF)(bs:List MB):List Nat->WI->RunI
  |[],s=>.inr s
  | b ::r,s=>match bs[b]? with
    |none=>.inr s
    | some m=>match runBI p f bs m s with
      |.inl e=>.inl e
      |.inr s'=>runOI p f bs r s'
def wi0:WI:=⟨fun b=>decide (b=0),fun _=>[],0⟩
def tyOfI(n:Nat):RunI->MTy
  |.inl (c,a)=>⟨c,(a:Int),0,[]⟩
  |.inr s=>⟨0,0,(s.d:Int),(List.range n).map s.r⟩
theorem runK_two(p:MP)(f:MF)(c:Nat):∀(a:Nat) (sh:List Int) (T T':Nat->List Int) (D:Nat),a+c<=f.code.length->(∀e,runK p f c a sh T D=.inl e->runK p f c a sh T' D=.inl e)/\∀s2 T2 D2,runK p f c a sh T D=.inr (s2,T2,D2)->∃T2',runK p f c a sh T' D=.inr (s2,T2',D2)/\(∀j,j<a\/a+c<=j->T2 j=T j/\T2' j=T' j)/\(∀j,a<=j->j<a+c->T2 j=T2' j)/\(0<c->T2 a=sh):=by
  induction c with
  | zero=>
    intro a sh T T' D hl
    refine⟨fun e h=>by simp[runK]at h,fun s2 T2 D2 h=> ?_⟩
    simp only[runK,Sum.inr.injEq,Prod.mk.injEq]at h
    obtain⟨rfl,rfl,rfl⟩:=h
    exact⟨T',rfl,fun j _=>⟨rfl,rfl⟩,fun j h1 h2=>by omega,fun h=>by omega⟩
  | succ c ih=>
    intro a sh T T' D hl
    obtain⟨x,hx⟩:∃x,f.code[a]?=some x:=⟨_,List.getElem?_eq_getElem (by omega)⟩
    simp only[runK,hx]
    by_cases hc:codeI p f x sh=0
    . rw [if_pos hc,if_pos hc]
      obtain⟨i1,i2⟩:=ih (a+1) (outI p f x sh) (updT T a sh) (updT T' a sh) (max D (outI p f x sh).length) (by omega)
      refine⟨i1,fun s2 T2 D2 h=> ?_⟩
      obtain⟨T2',h1,h2,h3,h4⟩:=i2 s2 T2 D2 h
      have ha:=h2 a (.inl (by omega))
      simp only[updT,if_true]at ha
      refine⟨T2',h1,fun j hj=> ?_,fun j q1 q2=> ?_,fun _=>ha.1⟩
      . have:=h2 j (by omega)
        simp only[updT]at this
        rw[if_neg (by omega),if_neg (by omega)]at this
        exact this
      . by_cases e:j=a
        . subst e
          rw[ha.1,ha.2]
        . exact h3 j (by omega) (by omega)
    . rw[if_neg hc,if_neg hc]
      exact⟨fun e h=>h,fun s2 T2 D2 h=>by cases h⟩
structure RelI(bs:List MB)(done:List Nat)(s:WS)(s':WI):Prop where
  c:∀b,s'.c b=(s.c b).isSome
  d:s'.d=s.d
  dn:∀b∈done,b<bs.length/\s.c b=some (s.t (fstB bs b))
  wt:∀b,b<bs.length->b∉done->∀sh,s.c b=some sh->s'.r (fstB bs b)=sh
  eq:∀j,(∀b,b<bs.length->b∉done->fstB bs b=j->s.c b=none)->s'.r j=s.t j
theorem meet_two{bs:List MB}{done:List Nat}(hinj:∀a b,a<bs.length->b<bs.length->fstB bs a=fstB bs b->a=b){T:Nat->List Int}{D:Nat}(sh:List Int)(nx:List Nat):∀(C:Nat->Option (List Int)) (C':Nat->Bool) (R:Nat->List Int),(∀t∈nx,t<bs.length)->RelI bs done ⟨C,T,D⟩ ⟨C',R,D⟩->(meetK nx sh C=none/\meetI bs nx sh C' R=none)\/∃C2 C2' R2,meetK nx sh C=some C2/\meetI bs nx sh C' R=some (C2',R2)/\RelI bs done ⟨C2,T,D⟩ ⟨C2',R2,D⟩/\(∀t∈nx,(C2 t).isSome=true)/\(∀t,(C t).isSome=true->(C2 t).isSome=true):=by
  induction nx with
  | nil=>
    intro C C' R _ h
    exact .inr ⟨C,C',R,rfl,rfl,h,fun t ht=>(by cases ht),fun t ht=>ht⟩
  | cons t nx ih=>
    intro C C' R hlt h
    have htl:=hlt t (by simp)
    have hlt':∀t∈nx,t<bs.length:=fun q hq=>hlt q (by simp[hq])
    have hct:=h.c t
    simp only[]at hct
    cases e:C t with
    | some s1=>
      have hR:R (fstB bs t)=s1:=by
        by_cases hd:t∈done
        . have h1:=h.eq (fstB bs t) (fun b hb hbd hf=>absurd (by rw[hinj b t hb htl hf];exact hd) hbd)
          have h2:=(h.dn t hd).2
          simp only[]at h1 h2
          rw[h1]
          rw[e]at h2
          exact(Option.some.inj h2).symm
        . exact h.wt t htl hd s1 e
      rw[e]at hct
      simp only[Option.isSome_some]at hct
      simp only[meetK,meetI,e,hct,hR,if_true]
      by_cases hs:s1=sh
      . rw[if_pos hs,if_pos hs]
        rcases ih C C' R hlt' h with⟨h1,h2⟩|⟨C2,C2',R2,h1,h2,h3,h4,h5⟩
        . exact .inl ⟨h1,h2⟩
        . refine .inr ⟨C2,C2',R2,h1,h2,h3,fun q hq=> ?_,h5⟩
          rcases List.mem_cons.1 hq with rfl|hq
          . exact h5 q (by rw[e];rfl)
          . exact h4 q hq
      . rw[if_neg hs,if_neg hs]
        exact .inl ⟨rfl,rfl⟩
    | none=>
      rw[e]at hct
      simp only[Option.isSome_none]at hct
      have hnd:t∉done:=fun hd=>by
        have:=(h.dn t hd).2
        simp only[]at this
        rw[e]at this
        cases this
      have hrel:RelI bs done ⟨updC C t sh,T,D⟩ ⟨updI C' t,updT R (fstB bs t) sh,D⟩:=by
        refine⟨fun b=> ?_,rfl,fun b hb=> ?_,fun b hb hbd s1 h1=> ?_,fun j hj=> ?_⟩
        . simp only[updC,updI]
          by_cases hbt:b=t
          . rw[if_pos hbt,if_pos hbt];rfl
          . rw[if_neg hbt,if_neg hbt];exact h.c b
        . have:=h.dn b hb
          refine⟨this.1,?_⟩
          simp only[updC]
          rw[if_neg (fun q:b=t=>hnd (q▸hb))]
          exact this.2
        . simp only[updC]at h1
          simp only[updT]
          by_cases hbt:b=t
          . subst hbt
            rw[if_pos rfl]at h1
            rw[if_pos rfl]
            exact Option.some.inj h1
          . rw[if_neg hbt]at h1
            rw[if_neg (fun q=>hbt (hinj b t hb htl q))]
            exact h.wt b hb hbd s1 h1
        . simp only[updT]
          by_cases hjt:j=fstB bs t
          . have:=hj t htl hnd hjt.symm
            simp only[updC,if_true]at this
            cases this
          . rw[if_neg hjt]
            refine h.eq j fun b hb hbd hf=> ?_
            have:=hj b hb hbd hf
            simp only[updC]at this
            by_cases hbt:b=t
            . subst hbt;exact absurd hf.symm hjt
            . rw[if_neg hbt]at this
              exact this
      simp only[meetK,meetI,e,hct]
      rw[if_neg (by simp)]
      rcases ih _ _ _ hlt' hrel with⟨h1,h2⟩|⟨C2,C2',R2,h1,h2,h3,h4,h5⟩
      . exact .inl ⟨h1,h2⟩
      . refine .inr ⟨C2,C2',R2,h1,h2,h3,fun q hq=> ?_,fun q hq=>h5 q ?_⟩
        . rcases List.mem_cons.1 hq with rfl|hq
          . exact h5 q (by simp[updC])
          . exact h4 q hq
        . simp only[updC]
          split
          . rfl
          . exact hq
structure BlkIn(xs:List MI)(bs:List MB):Prop where
  inj:∀a b,a<bs.length->b<bs.length->fstB bs a=fstB bs b->a=b
  part:∀(b:Nat) (m:MB),bs[b]?=some m->∃a e:Nat,m.first=(a:Int)/\m.last=(e:Int)/\a<=e/\e<xs.length
  apart:∀(b t:Nat) (m:MB),bs[b]?=some m->t<bs.length->b≠t->¬(m.first<=(fstB bs t:Int)/\(fstB bs t:Int)<=m.last)
  next:∀(b:Nat) (m:MB),bs[b]?=some m->∀t∈m.next.map Int.toNat,t<bs.length
theorem fstB_of{bs:List MB}{b a:Nat}{m:MB}(h:bs[b]?=some m)(ha:m.first=(a:Int)):fstB bs b=a:=by
  unfold fstB
  rw[h]
  simp only[ha,Int.toNat_natCast]
theorem blkIn_of{xs:List MI}(hg:CodeGood xs):BlkIn xs (specL xs):=by
  refine⟨fun a b ha hb h=> ?_,fun b m h=>specL_parts h,fun b t m h ht hne=> ?_,fun b m h t ht=> ?_⟩
  . apply Classical.byContradiction
    intro hne
    obtain⟨a1,e1,q1,q2,q3,q4⟩:=specL_parts (List.getElem?_eq_getElem ha)
    obtain⟨a2,e2,r1,r2,r3,r4⟩:=specL_parts (List.getElem?_eq_getElem hb)
    have h1:=fstB_of (List.getElem?_eq_getElem ha) q1
    have h2:=fstB_of (List.getElem?_eq_getElem hb) r1
    exact blk_apart (List.getElem?_eq_getElem ha) (List.getElem?_eq_getElem hb) hne (by omega)
  . obtain⟨a2,e2,r1,r2,r3,r4⟩:=specL_parts (List.getElem?_eq_getElem ht)
    have h2:=fstB_of (List.getElem?_eq_getElem ht) r1
    have:=blk_apart h (List.getElem?_eq_getElem ht) hne
    omega
  . have hb:=(List.getElem?_eq_some_iff.1 h).1
    exact nx_lt hg b hb t (by rw[nx_of h];exact ht)
theorem runB_two{p:MP}{f:MF}{bs:List MB}(hB:BlkIn f.code bs){done:List Nat}{b:Nat}{m:MB}(hm:bs[b]?=some m)(hd:b∉done){s:WS}{s':WI}(hc:(s.c b).isSome=true)(h:RelI bs done s s'):(∃e,runB p f m b s=.inl e/\runBI p f bs m s'=.inl e)\/∃s2 s2',runB p f m b s=.inr s2/\runBI p f bs m s'=.inr s2'/\RelI bs (b::done) s2 s2'/\(∀t∈m.next.map Int.toNat,(s2.c t).isSome=true)/\(∀t,(s.c t).isSome=true->(s2.c t).isSome=true):=by
  obtain⟨sh0,hsh⟩:=Option.isSome_iff_exists.1 hc
  obtain⟨ma,me,h1,h2,h3,h4⟩:=hB.part b m hm
  have hb:=(List.getElem?_eq_some_iff.1 hm).1
  have hf:=fstB_of hm h1
  have hr0:=h.wt b hb hd sh0 hsh
  rw[hf]at hr0
  unfold runB runBI
  have e1:(m.last-m.first+1).toNat=me+1-ma:=by omega
  rw[e1,h1,h2,Int.toNat_natCast,Int.toNat_natCast,hsh,hr0,Option.getD_some,h.d]
  obtain⟨k1,k2⟩:=runK_two p f (me+1-ma) ma sh0 s.t s'.r s.d (by omega)
  cases hk:runK p f (me+1-ma) ma sh0 s.t s.d with
  |inl e=>exact .inl ⟨e,rfl,by rw[k1 e hk]⟩
  | inr q =>
    obtain⟨sh,T2,D2⟩:=q
    obtain⟨R2,q1,q2,q3,q4⟩:=k2 sh T2 D2 hk
    have qa:=q4 (by omega)
    rw[q1]
    have hrel:RelI bs (b::done) ⟨s.c,T2,D2⟩ ⟨s'.c,R2,D2⟩:=by
      refine⟨h.c,rfl,fun t ht=> ?_,fun t ht htd sh1 hs1=> ?_,fun j hj=> ?_⟩
      . rcases List.mem_cons.1 ht with rfl|ht
        . exact⟨hb,by simp only[];rw[hf,qa];exact hsh⟩
        . have q:=h.dn t ht
          have hne:b≠t:=fun q=>hd (q▸ht)
          have:=hB.apart b t m hm q.1 hne
          refine⟨q.1,?_⟩
          simp only[]
          rw[(q2 (fstB bs t) (by omega)).1]
          exact q.2
      . have hne:b≠t:=fun q=>htd (by simp[q])
        have:=hB.apart b t m hm ht hne
        simp only[]
        rw[(q2 (fstB bs t) (by omega)).2]
        exact h.wt t ht (fun q=>htd (by simp[q])) sh1 hs1
      . simp only[]at hj⊢
        by_cases hj1:ma<=j/\j<ma+(me+1-ma)
        . exact(q3 j hj1.1 hj1.2).symm
        . rw[(q2 j (by omega)).1,(q2 j (by omega)).2]
          refine h.eq j fun t ht htd hft=> ?_
          by_cases hbt:t=b
          . subst hbt;omega
          . exact hj t ht (by simp[hbt,htd]) hft
    rcases meet_two hB.inj sh (m.next.map Int.toNat) s.c s'.c R2 (hB.next b m hm) hrel with⟨z1,z2⟩|⟨C2,C2',R3,z1,z2,z3,z4,z5⟩
    . simp only[]
      rw[z1,z2]
      exact .inl ⟨_,rfl,rfl⟩
    . simp only[]
      rw[z1,z2]
      exact .inr ⟨_,_,rfl,rfl,z3,z4,z5⟩
theorem runO_two{p:MP}{f:MF}{bs:List MB}(hB:BlkIn f.code bs)(ord:List Nat):∀(done:List Nat) (s:WS) (s':WI),(∀b∈ord,b<bs.length)->ord.Nodup->(∀b∈ord,b∉done)->(∀(A B:List Nat) (b:Nat),ord=A++b::B->(s.c b).isSome=true\/∃q∈A,b∈nx bs q)->RelI bs done s s'->(∃e,runO p f bs ord s=.inl e/\runOI p f bs ord s'=.inl e)\/∃s2 s2',runO p f bs ord s=.inr s2/\runOI p f bs ord s'=.inr s2'/\RelI bs (ord.reverse++done) s2 s2':=by
  induction ord with
  | nil=>
    intro done s s' _ _ _ _ h
    exact .inr ⟨s,s',rfl,rfl,h⟩
  | cons b ord ih=>
    intro done s s' hl hn hd hp h
    obtain⟨m,hm⟩:∃m,bs[b]?=some m:=⟨_,List.getElem?_eq_getElem (hl b (by simp))⟩
    have hc:(s.c b).isSome=true:=by
      rcases hp [] ord b rfl with q|⟨_,q,_⟩
      . exact q
      . cases q
    obtain⟨hn1,hn2⟩:=List.nodup_cons.1 hn
    simp only[runO,runOI,hm]
    rcases runB_two (p:=p) hB hm (hd b (by simp)) hc h with⟨e,h1,h2⟩|⟨s2,s2',h1,h2,h3,h4,h5⟩
    . rw[h1,h2]
      exact .inl ⟨e,rfl,rfl⟩
    . rw [h1,h2]
      simp only[]
      have:=ih (b::done) s2 s2' (fun q hq=>hl q (by simp[hq])) hn2 (fun q hq hqd=>by
          rcases List.mem_cons.1 hqd with rfl|hqd
          . exact hn1 hq
          . exact hd q (by simp[hq]) hqd) (fun A B q hq=> ?_) h3
      . simpa[List.reverse_cons,List.append_assoc]using this
      . rcases hp (b::A) B q (by rw[hq];rfl)with g|⟨g,hg,hgq⟩
        . exact .inl (h5 q g)
        . rcases List.mem_cons.1 hg with rfl|hg
          . rw[nx_of hm]at hgq
            exact .inl (h4 q hgq)
          . exact .inr ⟨g,hg,hgq⟩
theorem nodup_rev{l:List Nat}(h:l.Nodup):l.reverse.Nodup:=by
  unfold List.Nodup at*
  rw[List.pairwise_reverse]
  exact h.imp fun h=>fun e=>h e.symm
theorem ty_two{p:MP}{f:MF}{r:MFl}(h:FlowOk f.code r)(h0:r.code=0):tyOf f.code.length (runO p f r.blocks (r.order.map Int.toNat) ws0)=tyOfI f.code.length (runOI p f r.blocks (r.order.map Int.toNat) wi0):=by
  cases h with
  |none _=>cases h0
  |off _ _ _=>cases h0
  |lost _ _ _ _ _ _ _ _=>cases h0
  |two _ _ _ _ _ _ _ _=>cases h0
  | @good x S O D L I g x1 o1 v1 s1 d1 b1 i1 l1=>
    obtain⟨hP,hnd,hlen,hmem,h00⟩:=order_place (lds_pos g) (nx_lt g) v1 s1
    simp only[]
    have e:(ints O.reverse).map Int.toNat=O.reverse:=by
      unfold ints
      rw[List.map_map]
      conv=>rhs;rw[<-List.map_id O.reverse]
      apply List.map_congr_left
      intro a _
      simp
    rw[e]
    have hrel:RelI (specL f.code) [] ws0 wi0:=by
      refine⟨fun b=> ?_,rfl,fun b hb=>(by cases hb),fun b _ _ sh hs=> ?_,fun j _=>rfl⟩
      . simp only[ws0,wi0]
        by_cases hb:b=0
        . simp[hb]
        . simp[hb]
      . simp only[ws0]at hs
        split at hs
        . exact Option.some.inj hs
        . cases hs
    have hin:∀b∈O.reverse,b<(specL f.code).length:=fun b hb=>(hmem b).1 (List.mem_reverse.1 hb)
    have hpar:∀(A B:List Nat) (b:Nat),O.reverse=A++b::B->(ws0.c b).isSome=true\/∃q∈A,b∈nx (specL f.code) q:=fun A B b hb=>by
      by_cases hb0:b=0
      . subst hb0
        exact .inl rfl
      . have hbm:b∈O.reverse:=by rw[hb];simp
        obtain⟨q,hq,hqb,hpl⟩:=hP.par b (hin b hbm) hb0
        refine .inr ⟨q,?_,hqb⟩
        have hqm:q∈O.reverse:=List.mem_reverse.2 ((hmem q).2 hq)
        have hpb:plO O b=A.length:=by
          unfold plO
          have hbA:b∉A:=fun hA=>by
            have hnr:(A++b::B).Nodup:=by rw[<-hb];exact nodup_rev hnd
            exact(List.nodup_append.1 hnr).2.2 b hA b (by simp) rfl
          rw[hb,List.idxOf_append]
          simp[hbA]
        have hql:(O.reverse)[plO O q]?=some q:=plO_at (List.mem_reverse.1 hqm)
        rw[hb,List.getElem?_append_left (by omega)]at hql
        exact List.mem_of_getElem? hql
    rcases runO_two (p:=p) (blkIn_of g) O.reverse [] ws0 wi0 hin (nodup_rev hnd) (fun b _ hb=>by cases hb) hpar hrel with⟨q,h1,h2⟩|⟨s2,s2',h1,h2,h3⟩
    . rw[h1,h2]
      rfl
    . rw[h1,h2]
      simp only[tyOf,tyOfI,h3.d]
      congr 1
      apply List.map_congr_left
      intro j _
      refine(h3.eq j fun b hb hbd _=>absurd ?_ hbd).symm
      rw[List.append_nil,List.mem_reverse,List.mem_reverse]
      exact(hmem b).2 hb
end Go.Proofs.YtdfmdgbolmbffaaGreat
namespace Go.Proofs.YtdfmdgbolmbffaaGreat
open Go.ChangeShapes Go.WideShapes Go.ChangeAt Go.RowKit
set_option linter.unusedVariables false
set_option maxHeartbeats 2000000 in
set_option maxRecDepth 100000 in
theorem listT_any(S:Nat)(V:Value)(xs:List Int)(w:World)(h:Stk w S V xs)(hx:xs.length<=1048576):Calls Tryz.prog 119 #[.pointer (some ⟨S,0,none⟩)] w fun e w'=>∃a c,e=.returned (.slice a xs.length c)/\RowT w' w.heap.size (.slice a xs.length c) xs/\Below w.heap.size w w':=by
  obtain⟨i0,hi,hz0,hz1,hz2⟩:=info_parts info64
  obtain⟨a1,c1,rfl⟩:=own_slice h.own
  have c0:=h.blk.cell 0
  simp only[List.getElem?_toArray,List.getElem?_cons_zero]at c0
  have hrd:=Rd.of_own h.own
  have HO:Hid (w.ownsRow w.heap.size 2 1 (.slice none 0 0) 0 []):=World.ownsRow_nil _ _ _ _
  cases a1 with
  | none=>
    have hz:xs.length=0:=by
      rcases hrd.2 with⟨e0,_⟩|⟨g,o,c,e1,_⟩
      . exact e0
      . cases e1
    have hy0:xs=[]:=List.eq_nil_of_length_eq_zero hz
    subst hy0
    have hr:∀ty,(Builtin.append_ #[48,48] ty #[.slice none 0 0,.slice none 0 c1]).run Tryz.prog w=.ok (.slice none 0 0) w:=fun ty=>append_nothing (P:=Tryz.prog) w.heap.size 48 ty 2 i0 1 Tryz.underlying48 hi _ _ _ HO.out c1
    clear h hrd hz
    rw[List.length_nil]at c0⊢
    go_enter Tryz.func119,Tryz.ntmps119
    go_wp2_with (at_builtin;refine Lib.wpList_append_run _ rfl _ _ _ _ rfl _ _ rfl rfl _ _ (hr _) ?_)
    go_ret
    exact⟨_,_,rfl,HO.out,Below.refl _ _⟩
  | some ad=>
    have HN:Hid (∀j u,(xs.flatMap intCell)[j]?=some u->w.cell? (ad.add j)=some u):=fun j u hj=>by
      rcases hrd.2 with⟨e0,_⟩|⟨g,o,c,e1,hc⟩
      . have:xs=[]:=List.eq_nil_of_length_eq_zero e0
        subst this
        simp at hj
      . simp only[Value.slice.injEq,Option.some.injEq]at e1
        obtain⟨rfl,_⟩:=e1
        rw[add_at]
        exact hc j u hj
    clear h hrd
    generalize hxl:xs.length=m at hx c0⊢
    have HM:Hid (xs.length=m):=hxl
    clear hxl
    go_enter Tryz.func119,Tryz.ntmps119
    go_wp2_with (at_builtin;refine wpList_append_own _ rfl _ _ 48 rfl w.heap.size 2 i0 (.int .i64 0) 1 8 Tryz.underlying48 hi hz0 hz1 hz2 rfl (by decide) _ 0 [] rfl HO.out ad m c1 (xs.flatMap intCell) rfl ?c1 HN.out (ints_oneCell _) ?c4 ?c5 (Nat.le_refl _) ?_)
    case c1=>rw[flat_length intCell 1 intCell_length,HM.out]
    case c4=>unfold maxLen;omega
    case c5=>omega
    intro v' w' hown' hgrow' hnil'
    obtain⟨a2,c2,rfl⟩:∃a c,v'=.slice a m c:=by
      have:=(Rd.of_own hown').is_slice
      simpa using this
    have HE:Hid (RowT w' w.heap.size (.slice a2 m c2) xs/\Below w.heap.size w w'):=⟨by unfold RowT;rw[HM.out];simpa using hown',(Below.refl _ _).grown hgrow' (Nat.le_refl _) (fun j hj=>by cases hj)⟩
    clear hown' hgrow' hnil'
    go_wp2
    go_ret
    exact⟨_,_,rfl,HE.out.1,HE.out.2⟩
structure TyI(w u:World)(v:VP)(g:VF)(f:MF)(bv:Value)(TB MB GS n B N:Nat)(RS:List Value)(s:WI):Prop where
  tb:Blk u TB #[v.r,v.k,v.f,v.t,g.p,.int .i64 f.result,g.l,g.c,bv,.map (some MB),.slice (some ⟨GS,0,none⟩) n n,.int .i64 (s.d:Int)] 144
  mp:∃cnt D,SetAt u MB cnt D/\cnt<=N/\∀b:Nat,Go.Maps.has D (.int .i64 (b:Int))=s.c b
  sa:u.ownsRow w.heap.size 48 1 (.slice (some ⟨GS,0,none⟩) n n) n RS
  sl:RS.length=n
  rs:∀(j:Nat) (V:Value),RS[j]?=some V->RowT u B V (s.r j)
  bel:Below w.heap.size w u
  lo:w.heap.size<=TB/\w.heap.size<=MB/\w.heap.size<=GS
  ne:TB≠MB/\TB≠GS/\MB≠GS/\TB<B/\MB<B/\GS<B
  sz:B<=u.heap.size
  dl:s.d<=64
  rl:∀j,(s.r j).length<=64
  ap:∀(i j:Nat) (V W:Value),i≠j->RS[i]?=some V->RS[j]?=some W->∀g,V.ownBlock=some g->W.ownBlock≠some g
theorem SetAt.chg{R:Nat->Prop}{u u':World}{b cnt:Nat}{D:DataW Unit}(h:SetAt u b cnt D)(hc:Chg R u u')(hn:¬R b):SetAt u' b cnt D:=by
  have hlt:=World.ownsMap.lt h
  obtain⟨es,clock,hb,F,hs,hD⟩:=h
  exact⟨es,clock,(hc.block b hlt hn).trans hb,F,hs,hD⟩
def ApR(RS:List Value)(R:Nat->Prop):Prop:=∀(j:Nat) (V:Value),RS[j]?=some V->∀g,V.ownBlock=some g->¬R g
theorem TyI.chg{w u u':World}{v:VP}{g:VF}{f:MF}{bv:Value}{TB MB GS n B N:Nat}{RS:List Value}{s:WI}(h:TyI w u v g f bv TB MB GS n B N RS s){R:Nat->Prop}(hc:Chg R u u')(hR:∀k,R k->B<=k)(ha:ApR RS R):TyI w u' v g f bv TB MB GS n B N RS s:=by
  obtain⟨n1,n2,n3,n4,n5,n6⟩:=h.ne
  obtain⟨cnt,D,hs,hcn,hh⟩:=h.mp
  obtain⟨l1,l2,l3⟩:=h.lo
  refine⟨hc.blk h.tb (fun e=>by have:=hR _ e;omega),⟨cnt,D,hs.chg hc (fun e=>by have:=hR _ e;omega),hcn,hh⟩,hc.own h.sa (fun b hb e=> ?_),h.sl,fun j V e=>hc.own (h.rs j V e) (fun b hb=>ha j V e b hb),?_,h.lo,h.ne,Nat.le_trans h.sz hc.size,h.dl,h.rl,h.ap⟩
  . simp only[Value.ownBlock,Option.some.injEq]at hb
    subst hb
    have:=hR _ e
    omega
  . exact h.bel.trans (hc.below (Nat.le_trans (Nat.le_trans l1 (Nat.le_of_lt n4)) h.sz) (fun k hk e=>by have:=hR _ e;omega))
theorem TyI.keep{w u u':World}{v:VP}{g:VF}{f:MF}{bv:Value}{TB MB GS n B N:Nat}{RS:List Value}{s:WI}(h:TyI w u v g f bv TB MB GS n B N RS s)(hb:Below u.heap.size u u'):TyI w u' v g f bv TB MB GS n B N RS s:=h.chg (R:=fun _=>False) (Chg.of hb) (fun _ e=>e.elim) (fun _ _ _ _ _ e=>e)
theorem TyI.setS{w u:World}{v:VP}{g:VF}{f:MF}{bv:Value}{TB MB GS n B N:Nat}{RS:List Value}{s:WI}(h:TyI w u v g f bv TB MB GS n B N RS s){j:Nat}{V:Value}{sh:List Int}(hV:RowT u B V sh)(hl:sh.length<=64)(hfr:∀(i:Nat) (W:Value),RS[i]?=some W->∀g,V.ownBlock=some g->W.ownBlock≠some g):TyI w (u.setCell ⟨GS,j,none⟩ V) v g f bv TB MB GS n B N (RS.set j V) ⟨s.c,updT s.r j sh,s.d⟩:=by
  obtain⟨n1,n2,n3,n4,n5,n6⟩:=h.ne
  obtain⟨cnt,D,hs,hcn,hh⟩:=h.mp
  obtain⟨l1,l2,l3⟩:=h.lo
  refine⟨h.tb.other (by simp only[];omega) V,⟨cnt,D,World.ownsMap.setCell hs (by simp only[];exact n3) V,hcn,hh⟩,(h.sa.stored j V).1,by rw[List.length_set];exact h.sl,fun i W e=> ?_,h.bel.setCell (by simp only[];omega) V,h.lo,h.ne,by rw[heap_set];exact h.sz,h.dl,fun i=> ?_,fun i k X Y hik hX hY=> ?_⟩
  . simp only[updT]
    by_cases ei:i=j
    . subst ei
      have hl:i<RS.length:=by have:=(List.getElem?_eq_some_iff.1 e).1;rw[List.length_set]at this;exact this
      rw[List.getElem?_set_self hl]at e
      cases e
      rw[if_pos rfl]
      exact hV.set (by simp only[];omega) V
    . rw[List.getElem?_set_ne (fun e=>ei e.symm)]at e
      rw[if_neg ei]
      exact(h.rs i W e).set (by simp only[];omega) V
  . simp only[updT]
    split
    . exact hl
    . exact h.rl i
  . by_cases ei:i=j
    . subst ei
      have hl:i<RS.length:=by have:=(List.getElem?_eq_some_iff.1 hX).1;rw[List.length_set]at this;exact this
      rw[List.getElem?_set_self hl]at hX
      cases hX
      rw[List.getElem?_set_ne hik]at hY
      exact hfr k Y hY
    . rw[List.getElem?_set_ne (fun e=>ei e.symm)]at hX
      by_cases ek:k=j
      . subst ek
        have hl:k<RS.length:=by have:=(List.getElem?_eq_some_iff.1 hY).1;rw[List.length_set]at this;exact this
        rw[List.getElem?_set_self hl]at hY
        cases hY
        exact fun g hg e=>hfr i X hX g e hg
      . rw[List.getElem?_set_ne (fun e=>ek e.symm)]at hY
        exact h.ap i k X Y hik hX hY
theorem TyI.setD{w u:World}{v:VP}{g:VF}{f:MF}{bv:Value}{TB MB GS n B N:Nat}{RS:List Value}{s:WI}(h:TyI w u v g f bv TB MB GS n B N RS s)(d:Nat)(hd:d<=64):TyI w (u.setCell ⟨TB,11,none⟩ (.int .i64 (d:Int))) v g f bv TB MB GS n B N RS ⟨s.c,s.r,d⟩:=by
  obtain⟨n1,n2,n3,n4,n5,n6⟩:=h.ne
  obtain⟨cnt,D,hs,hcn,hh⟩:=h.mp
  obtain⟨l1,l2,l3⟩:=h.lo
  have ho:=h.tb.set 11 (.int .i64 (d:Int))
  simp only[List.setIfInBounds_toArray,List.set_cons_zero,List.set_cons_succ]at ho
  exact⟨ho,⟨cnt,D,World.ownsMap.setCell hs (by simp only[];omega) _,hcn,hh⟩,ownsRow_setCell_other h.sa (by simp[Value.ownBlock];omega) _,h.sl,fun i W e=>(h.rs i W e).set (by simp only[];omega) _,h.bel.setCell (by simp only[];omega) _,h.lo,h.ne,by rw[heap_set];exact h.sz,hd,h.rl,h.ap⟩
theorem TyI.put{w u u':World}{v:VP}{g:VF}{f:MF}{bv:Value}{TB MB GS n B N:Nat}{RS:List Value}{s:WI}(h:TyI w u v g f bv TB MB GS n B N RS s){t cnt:Nat}{D:DataW Unit}(hs:SetAt u MB cnt D)(hcn:cnt<=N)(hh:∀b:Nat,Go.Maps.has D (.int .i64 (b:Int))=s.c b)(hs':SetAt u' MB (cnt+1) (D.put (.int .i64 (t:Int)) (.agg [])))(hg:u.grownBy u' (some MB)):TyI w u' v g f bv TB MB GS n B (N+1) RS ⟨updI s.c t,s.r,s.d⟩:=by
  obtain⟨n1,n2,n3,n4,n5,n6⟩:=h.ne
  obtain⟨l1,l2,l3⟩:=h.lo
  have hc:Chg (fun k=>k=MB) u u':=(Chg.refl _ _).grown hg (fun k _ e=>by cases e;rfl)
  refine⟨hc.blk h.tb n1,⟨cnt+1,_,hs',by omega,fun b=> ?_⟩,hc.own h.sa (fun b hb e=> ?_),h.sl,fun j V e=>hc.own (h.rs j V e) (fun b hb e'=> ?_),h.bel.trans (hc.below (Nat.le_trans (Nat.le_trans l1 (Nat.le_of_lt n4)) h.sz) (fun k hk e=>by omega)),h.lo,h.ne,Nat.le_trans h.sz hc.size,h.dl,h.rl,h.ap⟩
  . rw[has_put D (World.ownsMap.isMap hs),hh b]
    simp only[updI]
    by_cases e:b=t
    . subst e;simp
    . have:¬((b:Int)=(t:Int)):=by omega
      simp[e,this]
  . simp only[Value.ownBlock,Option.some.injEq]at hb
    omega
  . have:=(h.rs j V e).lt b hb
    omega
end Go.Proofs.YtdfmdgbolmbffaaGreat
namespace Go.Proofs.YtdfmdgbolmbffaaGreat
open Go.ChangeShapes Go.WideShapes Go.ChangeAt Go.RowKit
set_option linter.unusedVariables false
set_option maxHeartbeats 2000000 in
set_option maxRecDepth 100000 in
theorem markInt64S_ex(base:Nat)(s:Value)(cs:List Int)(k0:Int)(w:World)(hn:cs.length<=1048576)(h0:0<=k0)(h1:k0<=1152921504606846976)(h:w.ownsRow base 2 1 s cs.length (cs.flatMap intCell)):
    Calls Tryz.prog 84 #[s,.int .i64 k0] w fun e w'=>e=.returned (.int .i64 (k0+(cs.length:Int)))/\w'.ownsRow base 2 1 s cs.length ((markIs k0 cs.length).flatMap intCell)/\w.grownBy w' s.ownBlock:=by
  have H:Hid (w.ownsRow base 2 1 s cs.length ((markITo k0 cs 0).flatMap intCell)):=by show World.ownsRow _ _ _ _ _ _ _;rw[markITo_zero];exact h
  rcases own_row h with⟨rfl,hz⟩|⟨g,c,rfl⟩
  . clear h
    rw[hz]at H⊢
    have hfin:Hid (w.ownsRow base 2 1 (.slice none 0 0) 0 ((markIs k0 0).flatMap intCell)):=World.ownsRow_nil _ _ _ _
    go_enter Tryz.func84,Tryz.ntmps84
    go_wp2
    go_loopw [1,5] (fun q i wr=>q=.int .i64 k0/\i=.int .i64 0/\wr=w) (fun _ _ _=>0)
    case atStart=>exact⟨rfl,rfl,rfl⟩
    case round=>
      obtain⟨rfl,rfl,rfl⟩:=hrel
      go_wp2
      go_ret
      exact⟨by simp,hfin.out,⟨rfl,rfl,rfl,Nat.le_refl _,fun _ _ _=>rfl⟩⟩
  . clear h
    generalize hLL:cs.length=n at hn H⊢
    have HL:Hid (cs.length=n):=hLL
    clear hLL
    go_enter Tryz.func84,Tryz.ntmps84
    go_wp2
    go_loopw [1,5] (fun q i wr=>∃k:Nat,k<=n/\q=.int .i64 (k0+k)/\i=.int .i64 k/\Hid (wr.ownsRow base 2 1 (.slice (some ⟨g,0,none⟩) n c) n ((markITo k0 cs k).flatMap intCell)/\w.grownBy wr (some g))) (fun _ i _=>n-(intOf i).toNat)
    case atStart=>exact⟨0,by omega,by simp,rfl,H.out,⟨rfl,rfl,rfl,Nat.le_refl _,fun _ _ _=>rfl⟩⟩
    case round=>
      obtain⟨k,hk,rfl,rfl,HM⟩:=hrel
      by_cases hlt:k<n
      . obtain⟨x,hx⟩:∃x,cs[k]?=some x:=⟨_,List.getElem?_eq_getElem (by rw[HL.out];exact hlt)⟩
        have hA:((markIs k0 k).flatMap intCell).length=k:=by rw[flat_length intCell 1 intCell_length,markIs_length,Nat.mul_one]
        have d0:=HM.out.1.cellAt k (by omega)
        rw[markITo_parts k0 cs k x hx,List.getElem?_append_right (by omega),hA,Nat.sub_self]at d0
        simp only[intCell,List.cons_append,List.getElem?_cons_zero]at d0
        have z0:=HM.out.1.frozenAt k
        have HN:Hid ((wr.setCell ⟨g,k,none⟩ (.int .i64 (k0+k))).ownsRow base 2 1 (.slice (some ⟨g,0,none⟩) n c) n ((markITo k0 cs (k+1)).flatMap intCell)/\w.grownBy (wr.setCell ⟨g,k,none⟩ (.int .i64 (k0+k))) (some g)):=by
          refine⟨?_,grown_set' HM.out.2 _ _⟩
          have s1:=(HM.out.1.stored k (.int .i64 (k0+k))).1
          rw[markITo_next k0 cs k x hx]at s1
          exact s1
        clear hA hx
        go_wp2
        go_roundw
        case rel=>exact⟨k+1,by omega,by go_num,by go_num,HN⟩
        case measure=>simp[intOf];omega
      . have hkn:k=n:=by omega
        subst hkn
        have HE:Hid (wr.ownsRow base 2 1 (.slice (some ⟨g,0,none⟩) k c) k ((markIs k0 k).flatMap intCell)/\w.grownBy wr (some g)):=by
          have:=HM.out
          rw[markITo_all k0 cs k HL.out]at this
          exact this
        go_wp2
        go_ret
        exact⟨rfl,HE.out.1,HE.out.2⟩
set_option maxHeartbeats 1000000 in
theorem heldInt64S_ex(s:Value)(n:Nat)(k0:Int)(w:World)(hn:n<=1048576)(h0:0<=k0)(h1:k0<=1152921504606846976)(h:Rd w 1 s n ((markIs k0 n).flatMap intCell)):
    Calls Tryz.prog 86 #[s,.int .i64 k0] w fun e w'=>e=.returned (.int .i64 (k0+(n:Int)))/\w'=w:=by
  have H1:Hid (Rd w 1 s n ((markIs k0 n).flatMap intCell)):=h
  obtain⟨a1,c1,rfl⟩:=h.is_slice
  clear h
  go_enter Tryz.func86,Tryz.ntmps86
  go_wp2
  go_loopw [1,5] (fun q i wr=>∃k:Nat,k<=n/\q=.int .i64 (k0+k)/\i=.int .i64 k/\wr=w) (fun _ i _=>n-(intOf i).toNat)
  case atStart=>exact⟨0,by omega,by simp,rfl,rfl⟩
  case round=>
    obtain⟨k,hk,rfl,rfl,rfl⟩:=hrel
    by_cases hlt:k<n
    . have hz:(markIs k0 n)[k]?=some (k0+(k:Int)):=by simp[markIs,hlt]
      rcases H1.out.2 with⟨e0,_⟩|⟨g,o,c,e1,hc1⟩
      . omega
      simp only[Value.slice.injEq,true_and]at e1
      obtain⟨rfl,rfl⟩:=e1
      have j0:=Rd.elem intCell_length hc1 k _ hz 0 _ rfl
      rw[Nat.mul_one,Nat.add_zero]at j0
      clear hc1 hz
      go_wp2
      go_roundw
      case rel=>exact⟨k+1,by omega,by go_num,by go_num,by trivial⟩
      case measure=>simp[intOf];omega
    . have hkn:k=n:=by omega
      subst hkn
      go_wp2
      go_ret
      exact⟨rfl,rfl⟩
def markRs:Int->List (List Int×Value)->List (List Int×Value)
  |_,[]=>[]
  |k,x::r=>(markIs k x.1.length,x.2)::markRs (k+(x.1.length:Int)) r
def endR:Int->List (List Int×Value)->Int
  |k,[]=>k
  |k,x::r=>endR (k+(x.1.length:Int)) r
def vrows(F:List (List Int×Value)):List (Value×List Int):=F.map fun x=>(x.2,x.1)
theorem endR_snoc(k:Int)(L:List (List Int×Value))(x:List Int×Value):endR k (L++[x])=endR k L+(x.1.length:Int):=by
  induction L generalizing k with
  |nil=>rfl
  |cons y r ih=>simp only[List.cons_append,endR];exact ih _
theorem markRs_app(k:Int)(L M:List (List Int×Value)):markRs k (L++M)=markRs k L++markRs (endR k L) M:=by
  induction L generalizing k with
  |nil=>rfl
  |cons y r ih=>simp only[List.cons_append,markRs,endR];rw[ih]
theorem markRs_snoc(k:Int)(L:List (List Int×Value))(x:List Int×Value):markRs k (L++[x])=markRs k L++[(markIs (endR k L) x.1.length,x.2)]:=by rw[markRs_app];rfl
theorem markRs_length(k:Int)(L:List (List Int×Value)):(markRs k L).length=L.length:=by
  induction L generalizing k with
  |nil=>rfl
  |cons x r ih=>simp[markRs,ih]
theorem endR_le(k:Int)(L:List (List Int×Value))(h:∀x∈L,x.1.length<=1048576):k<=endR k L/\endR k L<=k+1048576*(L.length:Int):=by
  induction L generalizing k with
  |nil=>simp[endR]
  | cons x r ih=>
    have h1:=h x (by simp)
    have h2:=ih (k+(x.1.length:Int)) (fun y hy=>h y (by simp[hy]))
    simp only[endR,List.length_cons]
    omega
theorem markRs_cells(k:Int)(L:List (List Int×Value)):(markRs k L).flatMap rCells=L.flatMap rCells:=by
  induction L generalizing k with
  |nil=>rfl
  |cons x r ih=>simp only[markRs,List.flatMap_cons,ih];rfl
set_option maxHeartbeats 4000000 in
set_option maxRecDepth 100000 in
theorem markInt64SS_ex(base:Nat)(s:Value)(F:List (List Int×Value))(k0:Int)(w:World)(hB:base<=w.heap.size)(hn:F.length<=1048576)(hr:∀x∈F,x.1.length<=1048576)(h0:0<=k0)(h1:k0<=281474976710656)(h:w.ownsRow base 48 1 s F.length (F.flatMap rCells))(hf:Fam w base (vrows F)):
    Calls Tryz.prog 41 #[s,.int .i64 k0] w fun e w'=>e=.returned (.int .i64 (endR k0 F))/\w'.ownsRow base 48 1 s F.length (F.flatMap rCells)/\Fam w' base (vrows (markRs k0 F))/\Wv base w w':=by
  have H:Hid (w.ownsRow base 48 1 s F.length (F.flatMap rCells)/\(∀x∈F,x.1.length<=1048576)):=⟨h,hr⟩
  have HF0:Hid (Fam w base (vrows F)):=hf
  clear hr hf
  rcases own_row h with⟨rfl,hz⟩|⟨g,c,rfl⟩
  . obtain rfl:F=[]:=List.eq_nil_of_length_eq_zero hz
    clear h
    go_enter Tryz.func41,Tryz.ntmps41
    go_wp2
    go_loopw [1,5] (fun q i wr=>q=.int .i64 k0/\i=.int .i64 0/\wr=w) (fun _ _ _=>0)
    case atStart=>exact⟨rfl,rfl,rfl⟩
    case round=>
      obtain⟨rfl,rfl,rfl⟩:=hrel
      go_wp2
      go_ret
      exact⟨rfl,H.out.1,HF0.out,Wv.refl _ _⟩
  . clear h
    generalize hLL:F.length=n at hn H⊢
    have HL:Hid (F.length=n):=hLL
    clear hLL
    go_enter Tryz.func41,Tryz.ntmps41
    go_wp2
    go_loopw [1,5] (fun q i wr=>∃D E:List (List Int×Value),Hid (F=D++E)/\D.length<=n/\q=.int .i64 (endR k0 D)/\i=.int .i64 (D.length:Nat)/\Hid (wr.ownsRow base 48 1 (.slice (some ⟨g,0,none⟩) n c) n (F.flatMap rCells)/\Fam wr base (vrows (markRs k0 D)++vrows E)/\Wv base w wr)) (fun _ i _=>n-(intOf i).toNat)
    case atStart=>exact⟨[],F,rfl,by simp,rfl,rfl,⟨H.out.1,by simpa[markRs,vrows]using HF0.out,Wv.refl _ _⟩⟩
    case round=>
      obtain⟨D,E,HD,hk,rfl,rfl,HM⟩:=hrel
      have hlen:D.length+E.length=n:=by have:=HL.out;rw[HD.out,List.length_append]at this;exact this
      have hend:=endR_le k0 D (fun x hx=>H.out.2 x (by rw[HD.out];simp[hx]))
      generalize hK:endR k0 D=K at hend⊢
      have HK:Hid (endR k0 D=K):=hK
      clear hK
      cases E with
      | cons x E'=>
        obtain⟨f,v⟩:=x
        have hlt:D.length<n:=by simp only[List.length_cons]at hlen;omega
        have hcl:f.length<=1048576:=H.out.2 (f,v) (by rw[HD.out];simp)
        have hA:(D.flatMap rCells).length=D.length:=by rw[flat_length rCells 1 rCells_length,Nat.mul_one]
        have d0:=HM.out.1.cellAt D.length (by omega)
        rw[HD.out,List.flatMap_append,List.getElem?_append_right (by omega),hA,Nat.sub_self,List.flatMap_cons]at d0
        simp only[rCells,List.cons_append,List.getElem?_cons_zero]at d0
        have hov:=HM.out.2.1.own (v,f) (by simp[vrows])
        simp only[]at hov
        obtain⟨av,cv,ev⟩:=own_slice hov
        subst ev
        have HO:Hid _:=hov
        have hdl:(D.length:Int)<(n:Int):=by omega
        clear hov hA
        go_wp2_with fail
        refine(markInt64S_ex base (.slice av f.length cv) f K _ hcl (by omega) (by omega) HO.out).mono ?_
        rintro e u ⟨rfl,ho',hg⟩
        have HN:Hid (u.ownsRow base 48 1 (.slice (some ⟨g,0,none⟩) n c) n (F.flatMap rCells)/\Fam u base (vrows (markRs k0 (D++[(f,.slice av f.length cv)]))++vrows E')/\Wv base w u):=by
          have hwv:=Wv.of_row HO.out hg (Nat.le_trans hB HM.out.2.2.bel.size)
          refine⟨hwv.own HM.out.1 (by decide),?_,HM.out.2.2.trans hwv⟩
          have hff:=HM.out.2.1
          rw[show vrows ((f,Value.slice av f.length cv)::E')=(Value.slice av f.length cv,f)::vrows E' from rfl]at hff
          have:=Fam.put (c':=markIs K f.length) hff (markIs_length _ _) ho' hg
          rw[markRs_snoc,HK.out]
          simpa[vrows,List.append_assoc]using this
        have hes:endR k0 (D++[(f,.slice av f.length cv)])=K+(f.length:Int):=by rw[endR_snoc,HK.out]
        clear ho' hg d0 HO
        go_wp2
        go_roundw
        case rel=>exact⟨D++[(f,.slice av f.length cv)],E',by show _=_;rw[HD.out];simp,by simp;omega,by rw[hes],by simp,HN⟩
        case measure=>simp[intOf];omega
      | nil=>
        have hDn:D.length=n:=by simpa using hlen
        have hDL:D=F:=by rw[HD.out];simp
        subst hDL
        have HE:Hid (wr.ownsRow base 48 1 (.slice (some ⟨g,0,none⟩) n c) n (D.flatMap rCells)/\Fam wr base (vrows (markRs k0 D))/\Wv base w wr):=⟨HM.out.1,by simpa[vrows]using HM.out.2.1,HM.out.2.2⟩
        have hKe:=HK.out
        go_wp2
        go_ret
        exact⟨by simp[hKe],HE.out.1,HE.out.2.1,HE.out.2.2⟩
set_option maxHeartbeats 2000000 in
set_option maxRecDepth 100000 in
theorem heldInt64SS_ex(s:Value)(F:List (List Int×Value))(k0:Int)(w:World)(hn:F.length<=1048576)(hr:∀x∈F,x.1.length<=1048576)(h0:0<=k0)(h1:k0<=281474976710656)(h:Rd w 1 s F.length (F.flatMap rCells))(hf:∀x∈vrows (markRs k0 F),Rd w 1 x.1 x.2.length (x.2.flatMap intCell)):
    Calls Tryz.prog 45 #[s,.int .i64 k0] w fun e w'=>e=.returned (.int .i64 (endR k0 F))/\w'=w:=by
  have H:Hid (Rd w 1 s F.length (F.flatMap rCells)/\(∀x∈F,x.1.length<=1048576)/\∀x∈vrows (markRs k0 F),Rd w 1 x.1 x.2.length (x.2.flatMap intCell)):=⟨h,hr,hf⟩
  obtain⟨a1,c1,rfl⟩:=h.is_slice
  clear h hr hf
  generalize hLL:F.length=n at hn H
  have HL:Hid (F.length=n):=hLL
  clear hLL
  go_enter Tryz.func45,Tryz.ntmps45
  go_wp2
  go_loopw [1,5] (fun q i wr=>∃D E:List (List Int×Value),Hid (F=D++E)/\D.length<=n/\q=.int .i64 (endR k0 D)/\i=.int .i64 (D.length:Nat)/\wr=w) (fun _ i _=>n-(intOf i).toNat)
  case atStart=>exact⟨[],F,rfl,by simp,rfl,rfl,rfl⟩
  case round=>
    obtain⟨D,E,HD,hk,rfl,rfl,rfl⟩:=hrel
    have hlen:D.length+E.length=n:=by have:=HL.out;rw[HD.out,List.length_append]at this;exact this
    have hend:=endR_le k0 D (fun x hx=>H.out.2.1 x (by rw[HD.out];simp[hx]))
    generalize hK:endR k0 D=K at hend⊢
    have HK:Hid (endR k0 D=K):=hK
    clear hK
    cases E with
    | cons x E'=>
      obtain⟨f,v⟩:=x
      have hlt:D.length<n:=by simp only[List.length_cons]at hlen;omega
      have hcl:f.length<=1048576:=H.out.2.1 (f,v) (by rw[HD.out];simp)
      have hsplit:markRs k0 F=markRs k0 D++(markIs K f.length,v)::markRs (K+(f.length:Int)) E':=by
        rw[HD.out,markRs_app,HK.out]
        rfl
      have hx:F[D.length]?=some (f,v):=by rw[HD.out];simp
      have hov:=H.out.2.2 (v,markIs K f.length) (by rw[hsplit];simp[vrows])
      simp only[markIs_length]at hov
      rcases H.out.1.2 with⟨e0,_⟩|⟨g,o,cc,e1,hc1⟩
      . omega
      simp only[Value.slice.injEq,true_and]at e1
      obtain⟨rfl,rfl⟩:=e1
      have j0:=Rd.elem rCells_length hc1 D.length _ hx 0 _ rfl
      rw[Nat.add_zero,Nat.mul_one]at j0
      have HO:Hid (Rd wr 1 v f.length ((markIs K f.length).flatMap intCell)):=hov
      clear hc1 hx hov hsplit
      have hdl:(D.length:Int)<(n:Int):=by omega
      have hes:endR k0 (D++[(f,v)])=K+(f.length:Int):=by rw[endR_snoc,HK.out]
      have hn0:¬K+(f.length:Int)<0:=by omega
      go_wp2_with fail
      refine(heldInt64S_ex v f.length K _ hcl (by omega) (by omega) HO.out).mono ?_
      rintro e u ⟨rfl,rfl⟩
      clear j0
      go_wp2
      go_roundw
      case rel=>exact⟨D++[(f,v)],E',by show _=_;rw[HD.out];simp,by simp;omega,by rw[hes],by simp,by trivial⟩
      case measure=>simp[intOf];omega
    | nil=>
      have hDn:D.length=n:=by simpa using hlen
      have hDL:D=F:=by rw[HD.out];simp
      subst hDL
      have hKe:=HK.out
      go_wp2
      go_ret
      exact⟨by simp[hKe],rfl⟩
structure OwTy(w:World)(base:Nat)(s:Value)(F:List (List Int×Value)):Prop where
  row:w.ownsRow base 48 1 s F.length (F.flatMap rCells)
  fam:Fam w base (vrows F)
theorem Fam.keepT{w w':World}{base:Nat}{L:List (Value×List Int)}(h:Fam w base L)(hb:Below w.heap.size w w'):Fam w' base L:=⟨fun x hx=>own_keep (h.own x hx) hb (Nat.le_refl _),h.sep⟩
theorem OwTy.keep{w w':World}{base:Nat}{s:Value}{F:List (List Int×Value)}(h:OwTy w base s F)(hb:Below w.heap.size w w'):OwTy w' base s F:=⟨own_keep h.row hb (Nat.le_refl _),h.fam.keepT hb⟩
theorem OwTy.rd{w:World}{base:Nat}{s:Value}{F:List (List Int×Value)}(h:OwTy w base s F):RdR w s (F.map Prod.fst):=⟨F,rfl,by rw[List.length_map];exact Rd.of_own h.row,fun x hx=>Rd.of_own (h.fam.own (x.2,x.1) (List.mem_map.2 ⟨x,hx,rfl⟩))⟩
set_option maxHeartbeats 2000000 in
set_option maxRecDepth 100000 in
theorem eqTypeResult_same(c a d:Int)(s s':Value)(rs:List (List Int))(w:World)(hL:rs.length<=1048576)(hs:∀f∈rs,f.length<=1048576)(h:RdR w s rs)(h':RdR w s' rs):
    Calls Tryz.prog 10 #[.agg #[.int .i64 c,.int .i64 a,.int .i64 d,s],.agg #[.int .i64 c,.int .i64 a,.int .i64 d,s']] w fun e w'=>e=.returned (.bool true)/\Below w.heap.size w w':=by
  have E0:=two_new w #[.int .i64 c,.int .i64 a,.int .i64 d,s] #[.int .i64 c,.int .i64 a,.int .i64 d,s'] 30 30
  have H:Hid (RdR w s rs/\RdR w s' rs/\rs.length<=1048576/\∀f∈rs,f.length<=1048576):=⟨h,h',hL,hs⟩
  clear h h' hL hs
  go_enter Tryz.func10,Tryz.ntmps10
  go_upto_region 1 with fail
  refine wp_world (fun u=>Hid (Blk u w.heap.size #[.int .i64 c,.int .i64 a,.int .i64 d,s] 30/\Blk u (w.heap.size+1) #[.int .i64 c,.int .i64 a,.int .i64 d,s'] 30/\Below w.heap.size w u)) E0 ?_
  rintro U E1
  clear E0
  obtain⟨c0,c1,c2,c3⟩:=cel4 E1.out.1
  obtain⟨d0,d1,d2,d3⟩:=cel4 E1.out.2.1
  go_wp2_with fail
  refine(eqInt64SS_same s s' rs U H.out.2.2.1 H.out.2.2.2 (H.out.1.keep E1.out.2.2 (Nat.le_refl _)) (H.out.2.1.keep E1.out.2.2 (Nat.le_refl _))).mono ?_
  rintro e u1 ⟨rfl,b1⟩
  have B1:Hid (Below w.heap.size w u1):=below_on E1.out.2.2 (Nat.le_refl _) b1
  clear b1 E1 c0 c1 c2 c3 d0 d1 d2 d3
  go_wp2
  go_ret
  exact⟨rfl,B1.out⟩
set_option maxHeartbeats 2000000 in
set_option maxRecDepth 100000 in
theorem markTypeResult_ex(base:Nat)(c a d:Int)(s:Value)(F:List (List Int×Value))(w:World)(hB:base<=w.heap.size)(hn:F.length<=1048576)(hr:∀x∈F,x.1.length<=1048576)(h:OwTy w base s F):
    Calls Tryz.prog 13 #[.agg #[.int .i64 c,.int .i64 a,.int .i64 d,s],.int .i64 1] w fun e w'=>e=.returned (.int .i64 (endR 1 F))/\OwTy w' base s (markRs 1 F)/\Below base w w'/\(∀(k:Nat) (cur:Array Value) (t:TypeId),w.heap[k]?=some (Obj.cells cur t (0,0))->t≠2->w'.heap[k]?=some (Obj.cells cur t (0,0))):=by
  have H:Hid (base<=w.heap.size/\F.length<=1048576/\(∀x∈F,x.1.length<=1048576)/\OwTy w base s F):=⟨hB,hn,hr,h⟩
  clear hB hn hr h
  go_enter Tryz.func13,Tryz.ntmps13
  go_upto_region 1 with fail
  refine wp_world (fun u=>Hid (Blk u w.heap.size #[.int .i64 c,.int .i64 a,.int .i64 d,s] 30/\Below w.heap.size w u)) ⟨Blk.new _ _ _,below_alloc _ _⟩ ?_
  rintro U E1
  obtain⟨c0,c1,c2,c3⟩:=cel4 E1.out.1
  go_wp2_with fail
  have HK:=H.out.2.2.2.keep E1.out.2
  refine(markInt64SS_ex base s F 1 U (Nat.le_trans H.out.1 E1.out.2.size) H.out.2.1 H.out.2.2.1 (by omega) (by omega) HK.row HK.fam).mono ?_
  rintro e u1 ⟨rfl,ho,hf,hw⟩
  have E2:Hid (OwTy u1 base s (markRs 1 F)/\Below base w u1/\(∀(k:Nat) (cur:Array Value) (t:TypeId),w.heap[k]?=some (Obj.cells cur t (0,0))->t≠2->u1.heap[k]?=some (Obj.cells cur t (0,0)))):=⟨⟨by rw[markRs_length,markRs_cells];exact ho,hf⟩,(E1.out.2.mono H.out.1).trans hw.bel,fun k cur t hk ht=>hw.blk k cur t (by rw[E1.out.2.block k (Array.getElem?_eq_some_iff.1 hk).1];exact hk) ht⟩
  clear ho hf hw HK c0 c1 c2 c3
  go_wp2
  go_ret
  exact⟨rfl,E2.out.1,E2.out.2.1,E2.out.2.2⟩
set_option maxHeartbeats 2000000 in
set_option maxRecDepth 100000 in
theorem heldTypeResult_ex(base:Nat)(c a d:Int)(s:Value)(F:List (List Int×Value))(w:World)(hn:F.length<=1048576)(hr:∀x∈F,x.1.length<=1048576)(h:OwTy w base s (markRs 1 F)):
    Calls Tryz.prog 14 #[.agg #[.int .i64 c,.int .i64 a,.int .i64 d,s],.int .i64 1] w fun e w'=>e=.returned (.int .i64 (endR 1 F))/\Below w.heap.size w w':=by
  have H:Hid (F.length<=1048576/\(∀x∈F,x.1.length<=1048576)/\OwTy w base s (markRs 1 F)):=⟨hn,hr,h⟩
  have hend:=endR_le 1 F hr
  have hn0:¬endR 1 F<0:=by omega
  clear hn hr h hend
  go_enter Tryz.func14,Tryz.ntmps14
  go_upto_region 1 with fail
  refine wp_world (fun u=>Hid (Blk u w.heap.size #[.int .i64 c,.int .i64 a,.int .i64 d,s] 30/\Below w.heap.size w u)) ⟨Blk.new _ _ _,below_alloc _ _⟩ ?_
  rintro U E1
  obtain⟨c0,c1,c2,c3⟩:=cel4 E1.out.1
  go_wp2_with fail
  have HK:=H.out.2.2.keep E1.out.2
  refine(heldInt64SS_ex s F 1 U H.out.1 H.out.2.1 (by omega) (by omega) (by have:=Rd.of_own HK.row;rw[markRs_length,markRs_cells]at this;exact this) (fun x hx=>Rd.of_own (HK.fam.own x hx))).mono ?_
  rintro e u1 ⟨rfl,rfl⟩
  clear HK c0 c1 c2 c3
  go_wp2
  go_ret
  exact⟨rfl,E1.out.2⟩
end Go.Proofs.YtdfmdgbolmbffaaGreat
namespace Go.Proofs.YtdfmdgbolmbffaaGreat
open Go.ChangeShapes Go.WideShapes Go.ChangeAt Go.RowKit
set_option linter.unusedVariables false
theorem Stk.setB{u:World}{S:Nat}{V:Value}{xs:List Int}(h:Stk u S V xs){a:Addr}(ha:a.block<S)(x:Value):Stk (u.setCell a x) S V xs:=⟨h.blk.other (by omega) x,ownsRow_setCell_below h.own (by omega) x⟩
theorem ApR.set{RS:List Value}{R:Nat->Prop}(h:ApR RS R){j:Nat}{V:Value}(hV:∀g,V.ownBlock=some g->¬R g):ApR (RS.set j V) R:=fun i W e g hg=>by
  by_cases ei:i=j
  . subst ei
    have hl:i<RS.length:=by have:=(List.getElem?_eq_some_iff.1 e).1;rw[List.length_set]at this;exact this
    rw[List.getElem?_set_self hl]at e
    cases e
    exact hV g hg
  . rw[List.getElem?_set_ne (fun e=>ei e.symm)]at e
    exact h i W e g hg
def ComeR(w u:World)(v:VP)(g:VF)(f:MF)(bv:Value)(TB QB GS n B N:Nat)(RS:List Value)(s:WI)(S:Nat)(V:Value)(sh:List Int)(t a:Nat)(e:Ending)(u':World):Prop:=(s.c t=true/\∃bb,e=.returned (.bool bb)/\(bb=true↔sh=s.r a)/\Below u.heap.size u u')\/(s.c t=false/\e=.returned (.bool true)/\∃V',TyI w u' v g f bv TB QB GS n B (N+1) (RS.set a V') ⟨updI s.c t,updT s.r a sh,s.d⟩/\Stk u' S V sh/\ApR (RS.set a V') (RStk S V)/\Chg (fun k=>k=QB\/k=GS) u u')
set_option maxHeartbeats 8000000 in
set_option maxRecDepth 100000 in
theorem comesTo_any(w u:World)(v:VP)(g:VF)(f:MF)(bv:Value)(TB QB GS n B N:Nat)(RS:List Value)(s:WI)(bs:List MB)(S:Nat)(V:Value)(sh:List Int)(t a:Nat)(m:MB)(h:TyI w u v g f bv TB QB GS n B N RS s)(hb:RdBs w bv bs)(hm:bs[t]?=some m)(hma:m.first=(a:Int))(ha:a<n)(hn:n<=1024)(hbl:bs.length<=1024)(hN:N<=4096)(hst:Stk u S V sh)(hS:B<=S)(hap:ApR RS (RStk S V))(hsl:sh.length<=64):
    Calls Tryz.prog 122 #[.pointer (some ⟨TB,0,none⟩),.int .i64 (t:Int),.pointer (some ⟨S,0,none⟩)] u (ComeR w u v g f bv TB QB GS n B N RS s S V sh t a):=by
  obtain⟨ba,bc,rfl⟩:∃a c,bv=.slice a bs.length c:=by obtain⟨_,_,h2,_⟩:=hb;exact h2.is_slice
  obtain⟨gb,ob,xa,xc,ev,x0,x1,x2,hrb⟩:=blk_atT hb hm
  subst ev
  rw[hma,<-h.bel.cell (block_lt_of_cell x0)]at x0
  have htl:t<bs.length:=(List.getElem?_eq_some_iff.1 hm).1
  have htI:(t:Int)<(bs.length:Int):=by omega
  have haI:(a:Int)<(n:Int):=by omega
  have hw64:W64 (t:Int):=w64_nat (by omega)
  have H:Hid (TyI w u v g f (.slice (some ⟨gb,ob,none⟩) bs.length bc) TB QB GS n B N RS s/\Stk u S V sh/\B<=S/\ApR RS (RStk S V)):=⟨h,hst,hS,hap⟩
  obtain⟨cnt,D,hset,hcn,hhas⟩:=h.mp
  have HM:Hid (SetAt u QB cnt D/\cnt<=N/\∀b:Nat,Go.Maps.has D (.int .i64 (b:Int))=s.c b):=⟨hset,hcn,hhas⟩
  have c8:=h.tb.cell 8
  have c9:=h.tb.cell 9
  simp only[List.getElem?_toArray,List.getElem?_cons_zero,List.getElem?_cons_succ]at c8 c9
  clear x1 x2 hrb hset hcn hhas h hst hS hap hm hma hb
  go_enter Tryz.func122,Tryz.ntmps122
  go_wp2_with fail
  refine(has_any QB cnt D (t:Int) u hw64 HM.out.1).mono ?_
  rintro e u1 ⟨rfl,b1⟩
  rw[HM.out.2.2 t]
  have H1:Hid (TyI w u1 v g f (.slice (some ⟨gb,ob,none⟩) bs.length bc) TB QB GS n B N RS s/\Stk u1 S V sh/\B<=S/\ApR RS (RStk S V)):=⟨H.out.1.keep b1,H.out.2.1.keep b1,H.out.2.2⟩
  have HB1:Hid (Below u.heap.size u u1):=b1
  have HG1:Hid (Chg (fun k=>k=QB\/k=GS) u u1):=Chg.of b1
  have HM1:Hid (SetAt u1 QB cnt D/\cnt<=N/\∀b:Nat,Go.Maps.has D (.int .i64 (b:Int))=s.c b):=⟨HM.out.1.keep b1,HM.out.2⟩
  clear b1 HM H x0 c8 c9
  have c9:=H1.out.1.tb.cell 9
  have c10:=H1.out.1.tb.cell 10
  simp only[List.getElem?_toArray,List.getElem?_cons_zero,List.getElem?_cons_succ]at c9 c10
  obtain⟨V0,hV0⟩:∃V,RS[a]?=some V:=⟨_,List.getElem?_eq_getElem (by rw[H1.out.1.sl];exact ha)⟩
  have hrow:=H1.out.1.rs a V0 hV0
  have hrl:=H1.out.1.rl a
  obtain⟨va,vc,eV0⟩:=own_slice hrow
  subst eV0
  have c11:=H1.out.1.sa.cellAt a (by omega)
  rw[hV0]at c11
  cases hc:s.c t with
  | true=>
    have HR:Hid (RowT u1 B (.slice va (s.r a).length vc) (s.r a)):=hrow
    clear hrow
    go_wp2_with fail
    refine(isJust_any S V (.slice va (s.r a).length vc) sh (s.r a) u1 H1.out.2.1 (Rd.of_own HR.out) (by omega) (by omega)).mono ?_
    rintro e u2 ⟨⟨bb,rfl,hbb⟩,b2⟩
    have HE:Hid ((bb=true↔sh=s.r a)/\Below u.heap.size u u2/\s.c t=true):=⟨hbb,below_on HB1.out (Nat.le_refl _) b2,hc⟩
    clear hbb b2 c9 c10 c11
    go_wp2_with fail
    go_ret
    exact .inl ⟨HE.out.2.2,bb,rfl,HE.out.1,HE.out.2.1⟩
  | false=>
    have HC:Hid (s.c t=false):=hc
    clear hrow hV0 hc
    go_upto_region 5 with(go_at_call 117;refine(add_one QB cnt u1.heap.size 1 D (t:Int) _ hw64 (by have:=HM1.out.2.1;omega) (by simp) (by have:=H1.out.1.ne;have:=H1.out.1.sz;omega) (HM1.out.1.keep (below_alloc _ _))).mono ?_;rintro e u2 ⟨rfl,hs2,hg2⟩)
    have H2:Hid (TyI w u2 v g f (.slice (some ⟨gb,ob,none⟩) bs.length bc) TB QB GS n B (N+1) RS ⟨updI s.c t,s.r,s.d⟩/\Stk u2 S V sh/\B<=S/\ApR RS (RStk S V)):=by
      have hA:=below_alloc u1 (.cells #[.int .i64 (t:Int)] 2)
      obtain⟨n1,n2,n3,n4,n5,n6⟩:=H1.out.1.ne
      have hS:=H1.out.2.2.1
      have hc2:Chg (fun k=>k=QB) (u1.alloc (.cells #[.int .i64 (t:Int)] 2)) u2:=(Chg.refl _ _).grown hg2 (fun k _ e=>by cases e;rfl)
      have hs1:=H1.out.2.1.keep hA
      exact⟨(H1.out.1.keep hA).put (HM1.out.1.keep hA) HM1.out.2.1 HM1.out.2.2 hs2 hg2,⟨hc2.blk hs1.blk (by omega),hc2.own hs1.own (fun b hb e=>by have:=(hs1.lt b hb).1;omega)⟩,H1.out.2.2⟩
    have HG2:Hid (Chg (fun k=>k=QB\/k=GS) u u2.drew):=((HG1.out.on (below_alloc u1 (.cells #[.int .i64 (t:Int)] 2))).grown hg2 (fun k _ e=>by cases e;exact .inl rfl)).on (below_drew1 _)
    clear hs2 hg2 HM1 H1 HB1 HG1 c9 c10 c11
    have HR5:Hid (TyI w u2.drew v g f (.slice (some ⟨gb,ob,none⟩) bs.length bc) TB QB GS n B (N+1) RS ⟨updI s.c t,s.r,s.d⟩/\Stk u2.drew S V sh/\B<=S/\ApR RS (RStk S V)):=⟨H2.out.1.keep (below_drew1 _),H2.out.2.1.keep (below_drew1 _),H2.out.2.2⟩
    have bo:u2.drew.cell? ⟨TB,10,none⟩=some (.slice (some ⟨GS,0,none⟩) n n):=HR5.out.1.tb.cell 10
    refine wp_region_held_drew (S:=fun w'=>w'.cell? ⟨TB,10,none⟩=some (.slice (some ⟨GS,0,none⟩) n n)) (by kernel_rfl) bo (fun hHeld=> ?_)
    refine wpAnyH_take (i:=0) (v:= ?_) rfl (by kernel_rfl) (by kernel_rfl) (by kernel_rfl) (fun _ _ _ h=>h) (Or.inl ⟨by rfl,?_⟩) (by assumption) ?_
    rotate_left
    . (intro w hSw;(try dsimp only at hSw);go_simp;(try with_reducible rfl))
    refine wpAnyH_take (i:=1) (v:= ?_) rfl (by kernel_rfl) (by kernel_rfl) (by kernel_rfl) (fun _ _ _ h=>h) (Or.inl ⟨by rfl,?_⟩) (by assumption) ?_
    rotate_left
    . (intro w hSw;(try dsimp only at hSw);go_simp;(try with_reducible rfl))
    refine wpAnyH_take (i:=2) (v:= ?_) rfl (by kernel_rfl) (by kernel_rfl) (by kernel_rfl) (fun _ _ _ h=>h) (Or.inl ⟨by rfl,?_⟩) (by assumption) ?_
    rotate_left
    . (intro w hSw;(try dsimp only at hSw);go_simp;(try with_reducible rfl))
    refine wpAnyH_take (i:=3) (v:= ?_) rfl (by kernel_rfl) (by kernel_rfl) (by kernel_rfl) (fun _ _ _ h=>h) (Or.inl ⟨by rfl,?_⟩) (by assumption) ?_
    rotate_left
    . (intro w hSw;(try dsimp only at hSw);go_simp;(try with_reducible rfl))
    refine wpAnyH_take (i:=4) (v:= ?_) rfl (by kernel_rfl) (by kernel_rfl) (by kernel_rfl) (fun _ _ _ h=>h) (Or.inl ⟨by rfl,?_⟩) (by assumption) ?_
    rotate_left
    . (intro w hSw;(try dsimp only at hSw);go_simp;(try with_reducible rfl))
    refine wpAnyH_take (i:=5) (v:= ?_) rfl (by kernel_rfl) (by kernel_rfl) (by kernel_rfl) (fun _ _ _ h=>h) (Or.inl ⟨by rfl,?_⟩) (by assumption) ?_
    rotate_left
    . (intro w hSw;(try dsimp only at hSw);go_simp;(try with_reducible rfl))
    refine wpAnyH_ready (rs:=[6]) (by kernel_rfl) (by simp) ?_
    refine AllReadyH.cons rfl (fun KC hKC=> ?_) AllReadyH.nil
    go_simp
    refine(listT_any S V sh u2.drew HR5.out.2.1 (by omega)).mono ?_
    rintro e u3 ⟨a3,k3,rfl,hrow3,b3⟩
    have H3:Hid (TyI w u3 v g f (.slice (some ⟨gb,ob,none⟩) bs.length bc) TB QB GS n B (N+1) RS ⟨updI s.c t,s.r,s.d⟩/\Stk u3 S V sh/\B<=S/\ApR RS (RStk S V)):=⟨HR5.out.1.keep b3,HR5.out.2.1.keep b3,HR5.out.2.2⟩
    have HR3:Hid (RowT u3 B (.slice a3 sh.length k3) sh/\(∀(i:Nat) (W:Value),RS[i]?=some W->∀g,(Value.slice a3 sh.length k3).ownBlock=some g->W.ownBlock≠some g)/\∀g,(Value.slice a3 sh.length k3).ownBlock=some g->¬RStk S V g):=by
      refine⟨own_base hrow3 HR5.out.1.sz,fun i W e g hg e2=> ?_,fun g hg e2=> ?_⟩
      . have h1:=(hrow3.lt g hg).1
        have h2:=((HR5.out.1.rs i W e).lt g e2).2
        omega
      . have h1:=(hrow3.lt g hg).1
        have h2:=(RStk.ge HR5.out.2.1 e2).2
        omega
    have HG3:Hid (Chg (fun k=>k=QB\/k=GS) u u3):=HG2.out.on b3
    clear hrow3 b3 HG2
    go_simp
    refine hKC.out _ _ (by have:=H3.out.1.tb.cell 10;exact this) (fun hHeld=> ?_)
    clear hKC KC
    refine wpAnyH_take (i:=7) (v:= ?_) rfl (by kernel_rfl) (by kernel_rfl) (by kernel_rfl) (fun _ _ _ h=>h) (Or.inl ⟨by rfl,?_⟩) (by assumption) ?_
    rotate_left
    . (intro w hSw;(try dsimp only at hSw);go_simp;(try with_reducible rfl))
    refine wpAnyH_ready (rs:=[8]) (by kernel_rfl) (by simp) ?_
    refine AllReadyH.cons rfl (fun KC hKC=> ?_) AllReadyH.nil
    have c19:=H3.out.1.sa.cellAt a (by omega)
    have z19:=H3.out.1.sa.frozenAt a
    obtain⟨V1,hV1⟩:∃V,RS[a]?=some V:=⟨_,List.getElem?_eq_getElem (by rw[H3.out.1.sl];exact ha)⟩
    rw[hV1]at c19
    have H4:Hid (TyI w (u3.setCell ⟨GS,a,none⟩ (.slice a3 sh.length k3)) v g f (.slice (some ⟨gb,ob,none⟩) bs.length bc) TB QB GS n B (N+1) (RS.set a (.slice a3 sh.length k3)) ⟨updI s.c t,updT s.r a sh,s.d⟩/\Stk (u3.setCell ⟨GS,a,none⟩ (.slice a3 sh.length k3)) S V sh/\ApR (RS.set a (.slice a3 sh.length k3)) (RStk S V)):=⟨H3.out.1.setS HR3.out.1 hsl HR3.out.2.1,H3.out.2.1.setB (by have:=H3.out.1.ne;have:=H3.out.2.2.1;simp only[];omega) _,H3.out.2.2.2.set HR3.out.2.2⟩
    go_simp
    refine hKC.out _ _ (by have:=H4.out.1.tb.cell 10;exact this) (fun hHeld=> ?_)
    clear hKC KC
    refine wpAnyH_done (by kernel_rfl) ?_ _
    clear hHeld bo c19 z19
    go_wp2_with fail
    go_ret
    exact .inr ⟨HC.out,rfl,_,H4.out.1,H4.out.2.1,H4.out.2.2,HG3.out.setCell (.inl (.inr rfl)) _⟩
end Go.Proofs.YtdfmdgbolmbffaaGreat
