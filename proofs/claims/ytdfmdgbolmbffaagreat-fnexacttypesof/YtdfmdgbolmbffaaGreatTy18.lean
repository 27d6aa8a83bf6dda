import Derived.Test.YtdfmdgbolmbffaaGreatTy10
import Derived.Test.YtdfmdgbolmbffaaGreatTy15
import Derived.Test.YtdfmdgbolmbffaaGreatTy3
namespace Go.Proofs.YtdfmdgbolmbffaaGreat
open Go.ChangeShapes Go.WideShapes Go.ChangeAt Go.RowKit
set_option linter.unusedVariables false
theorem clone64_nil(c:Nat)(w:World):(binOp .eql 48 (.slice none 0 c) (.slice none 0 0)).run Tryz.prog w=.ok (.bool true) w:=by kernel_rfl
theorem clone64_some(ad:Addr)(m c:Nat)(w:World):(binOp .eql 48 (.slice (some ad) m c) (.slice none 0 0)).run Tryz.prog w=.ok (.bool false) w:=by kernel_rfl
set_option maxHeartbeats 2000000 in
set_option maxRecDepth 100000 in
theorem clone64_any(s:Value)(m:Nat)(xs:List Value)(w:World)(hn:m<=1048576)(h1:∀u∈xs,u.oneCell'=true)(h:Rd w 1 s m xs):
    Calls Tryz.prog 170 #[s] w fun e w'=>∃a c,e=.returned (.slice a m c)/\w'.ownsRow w.heap.size 2 1 (.slice a m c) m xs/\Below w.heap.size w w':=by
  obtain⟨i0,hi,hz0,hz1,hz2⟩:=info_parts info64
  have HB:Hid (Below w.heap.size w (w.alloc (.cells #[] 2))):=below_alloc _ _
  have HO:Hid ((w.alloc (.cells #[] 2)).ownsRow w.heap.size 2 1 (.slice (some ⟨w.heap.size,0,none⟩) 0 0) 0 []):=⟨rfl,.inr ⟨w.heap.size,0,#[],rfl,Nat.le_refl _,heap_alloc_new _ _,Nat.le_refl _,Nat.zero_le _,rfl,by simp⟩⟩
  obtain⟨a1,c1,rfl⟩:=h.is_slice
  cases a1 with
  | none=>
    have hz:m=0:=by
      rcases h.2 with⟨e0,_⟩|⟨g,o,c,e1,_⟩
      . exact e0
      . cases e1
    subst hz
    have hx:xs=[]:=List.eq_nil_of_length_eq_zero (by have:=h.1;simpa using this)
    subst hx
    have HZ:Hid (w.ownsRow w.heap.size 2 1 (.slice none 0 0) 0 []):=World.ownsRow_nil _ _ _ _
    have en:∀w,_:=fun w=>clone64_nil c1 w
    clear h
    go_enter Tryz.func170,Tryz.ntmps170
    go_wp2
    go_ret
    exact⟨_,_,rfl,HZ.out,Below.refl _ _⟩
  | some ad=>
    have HN:Hid (∀j u,xs[j]?=some u->(w.alloc (.cells #[] 2)).cell? (ad.add j)=some u):=fun j u hj=>by
      rcases h.2 with⟨e0,_⟩|⟨g,o,c,e1,hc⟩
      . have hx:xs=[]:=List.eq_nil_of_length_eq_zero (by have:=h.1;rw[e0]at this;simpa using this)
        rw[hx]at hj
        simp at hj
      . simp only[Value.slice.injEq,Option.some.injEq]at e1
        obtain⟨rfl,_,_⟩:=e1
        have:=hc j u hj
        rw[add_at,HB.out.cell (block_lt_of_cell this)]
        exact this
    have HL:Hid (xs.length=m*1/\∀u∈xs,u.oneCell'=true):=⟨h.1,h1⟩
    have en:∀w,_:=fun w=>clone64_some ad m c1 w
    clear h h1
    go_enter Tryz.func170,Tryz.ntmps170
    go_wp2_with (at_builtin;refine wpList_append_own _ rfl _ _ 48 rfl w.heap.size 2 i0 (.int .i64 0) 1 8 Tryz.underlying48 hi hz0 hz1 hz2 rfl (by decide) _ 0 [] rfl HO.out ad m c1 xs rfl ?c1 ?c2 ?c3 ?c4 ?c5 ?c6 ?_)
    case c1=>exact HL.out.1
    case c2=>exact HN.out
    case c3=>exact HL.out.2
    case c4=>unfold maxLen;omega
    case c5=>omega
    case c6=>exact HB.out.size
    intro v' w' hown' hgrow' hnil'
    obtain⟨a2,c2,rfl⟩:∃a c,v'=.slice a m c:=by
      have:=(Rd.of_own hown').is_slice
      simpa using this
    have HE:Hid (w'.ownsRow w.heap.size 2 1 (.slice a2 m c2) m xs/\Below w.heap.size w w'):=⟨by simpa using hown',HB.out.grown hgrow' HB.out.size (fun j hj=>(HO.out.lt j hj).1)⟩
    clear hown' hgrow' hnil'
    go_wp2
    go_ret
    exact⟨_,_,rfl,HE.out.1,HE.out.2⟩
theorem fits_any(s t:Int)(w:World):Calls Tryz.prog 172 #[.int .i64 s,.int .i64 t] w fun e w'=>SaysIff e (t=0\/s=t)/\Below w.heap.size w w':=by
  by_cases ht:t=0
  . have ht':(t==0)=true:=by simpa using ht
    have HT:Hid (t=0):=ht
    clear ht
    go_enter Tryz.func172,Tryz.ntmps172
    go_wp2
    go_ret
    exact⟨.yes (.inl HT.out),Below.refl _ _⟩
  . have ht':(t==0)=false:=by simpa using ht
    have HT:Hid (¬t=0):=ht
    clear ht
    by_cases hst:s=t
    . have hst':(s==t)=true:=by simpa using hst
      have HS:Hid (s=t):=hst
      clear hst
      go_enter Tryz.func172,Tryz.ntmps172
      go_wp2
      go_ret
      exact⟨.yes (.inr HS.out),Below.refl _ _⟩
    . have hst':(s==t)=false:=by simpa using hst
      have HS:Hid (¬s=t):=hst
      clear hst
      go_enter Tryz.func172,Tryz.ntmps172
      go_wp2
      go_ret
      exact⟨.no (fun e=>e.elim HT.out HS.out),Below.refl _ _⟩
theorem fitsT_no{a b:List Int}{k:Nat}{s t:Int}(h1:a[k]?=some s)(h2:b[k]?=some t)(h:¬(t=0\/s=t)):¬fitsT a b=true:=fun e=>h ((fitsT_iff (fitsT_len e)).1 e k s t h1 h2)
set_option maxHeartbeats 2000000 in
set_option maxRecDepth 100000 in
theorem eqFits_any(s s':Value)(vs ts:List Int)(w:World)(hL:vs.length<=1048576)(hL':ts.length<=1048576)(h:Rd w 1 s vs.length (vs.flatMap intCell))(h':Rd w 1 s' ts.length (ts.flatMap intCell)):
    Calls Tryz.prog 171 #[s,s',.func (.func 172) #[] #[]] w fun e w'=>SaysIff e (fitsT vs ts=true)/\Below w.heap.size w w':=by
  have H1:Hid (Rd w 1 s vs.length (vs.flatMap intCell)):=h
  have H2:Hid (Rd w 1 s' ts.length (ts.flatMap intCell)):=h'
  obtain⟨a1,c1,rfl⟩:=h.is_slice
  obtain⟨a2,c2,rfl⟩:=h'.is_slice
  clear h h'
  by_cases hll:vs.length=ts.length
  . rw [← hll] at H2⊢
    clear hL'
    generalize hLL:vs.length=n at hL H1 H2 hll
    have HL:Hid (vs.length=n/\ts.length=n):=⟨hLL,hll.symm⟩
    clear hLL hll
    go_enter Tryz.func171,Tryz.ntmps171
    go_wp2
    go_loopw [17] (fun i wr=>∃k:Nat,k<=n/\i=.int .i64 k/\Hid (∀(j:Nat),j<k->∀v,vs[j]?=some v->∀t,ts[j]?=some t->t=0\/v=t)/\Hid (Below w.heap.size w wr)) (fun i _=>n-(intOf i).toNat)
    case atStart=>exact⟨0,by omega,rfl,fun j hj=>by omega,Below.refl _ _⟩
    case round=>
      obtain⟨k,hk,rfl,HT,HB⟩:=hrel
      by_cases hlt:k<n
      . obtain ⟨x,hx⟩:∃x,vs[k]?=some x:=⟨_,List.getElem?_eq_getElem (by rw[HL.out.1];exact hlt)⟩
        obtain⟨t,ht⟩:∃x,ts[k]?=some x:=⟨_,List.getElem?_eq_getElem (by rw[HL.out.2];exact hlt)⟩
        rcases H1.out.2 with⟨e0,_⟩|⟨b,o,c,e1,hc1⟩
        . omega
        . rcases H2.out.2 with⟨e0,_⟩|⟨b',o',c',e2,hc2⟩
          . omega
          . simp only[Value.slice.injEq,true_and]at e1 e2
            obtain⟨rfl,rfl⟩:=e1
            obtain⟨rfl,rfl⟩:=e2
            have i0:=Rd.elem intCell_length hc1 k _ hx 0 _ rfl
            have j0:=Rd.elem intCell_length hc2 k _ ht 0 _ rfl
            rw[<-HB.out.cell (block_lt_of_cell i0),Nat.mul_one,Nat.add_zero]at i0
            rw[<-HB.out.cell (block_lt_of_cell j0),Nat.mul_one,Nat.add_zero]at j0
            have HX:Hid (vs[k]?=some x/\ts[k]?=some t):=⟨hx,ht⟩
            clear hc1 hc2 hx ht
            go_wp2_with fail
            refine(fits_any x t _).mono ?_
            rintro e u ⟨⟨b0,rfl,hb0⟩,hbu⟩
            have HB2:Hid (Below w.heap.size w u):=below_on HB.out (Nat.le_refl _) hbu
            clear hbu HB i0 j0
            cases b0
            . have HN:Hid (¬fitsT vs ts=true):=fitsT_no HX.out.1 HX.out.2 (fun e=>absurd (hb0.2 e) Bool.false_ne_true)
              clear hb0
              go_wp2
              go_ret
              exact⟨.no HN.out,HB2.out⟩
            . have HC:Hid (t=0\/x=t):=hb0.1 rfl
              clear hb0
              have HT2:Hid (∀(j:Nat),j<k+1->∀v,vs[j]?=some v->∀t,ts[j]?=some t->t=0\/v=t):=fun j hj v hv t' ht'=>by
                by_cases e:j=k
                . subst e
                  rw[HX.out.1]at hv
                  rw[HX.out.2]at ht'
                  obtain rfl:=Option.some.inj hv
                  obtain rfl:=Option.some.inj ht'
                  exact HC.out
                . exact HT.out j (by omega) v hv t' ht'
              go_wp2
              go_roundw
              case rel=>exact⟨k+1,by omega,by go_num,HT2,HB2⟩
              case measure=>simp[intOf];omega
      . have hkn:n=k:=by omega
        subst hkn
        have HY:Hid (fitsT vs ts=true):=(fitsT_iff (by rw[HL.out.1,HL.out.2])).2 (fun i s t hs ht=>HT.out i (by have:=(List.getElem?_eq_some_iff.1 hs).1;rw[HL.out.1]at this;exact this) s hs t ht)
        go_wp2
        go_ret
        exact⟨.yes HY.out,HB.out⟩
  . have HN:Hid (¬fitsT vs ts=true):=fun e=>hll (fitsT_len e)
    have hne:¬(vs.length:Int)=(ts.length:Int):=by omega
    go_enter Tryz.func171,Tryz.ntmps171
    go_wp2
    go_ret
    exact⟨.no HN.out,Below.refl _ _⟩
end Go.Proofs.YtdfmdgbolmbffaaGreat
