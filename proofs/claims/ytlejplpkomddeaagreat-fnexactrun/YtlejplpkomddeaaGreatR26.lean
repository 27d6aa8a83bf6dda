import Derived.Test.YtlejplpkomddeaaGreatR0
import Derived.Test.YtlejplpkomddeaaGreatR4
import Derived.Test.YtlejplpkomddeaaGreatR11
import Derived.Test.YtlejplpkomddeaaGreatR24
namespace Go.Proofs.YtlejplpkomddeaaGreat
open Go.ChangeShapes Go.WideShapes Go.ChangeAt Go.RowKit
set_option linter.unusedVariables false
set_option maxHeartbeats 8000000
set_option maxRecDepth 100000
structure MH(w u:World)(num base:Int)(Y:Nat)(vp:Value)(f:MF)(al:Option Addr)(cl:Nat)(vc:Value)(V:Value)(ar:List MC)(k:Nat):Prop where
 fn:Ap u w.heap.size #[vp,.int .i64 f.result,.slice al f.locals.length cl,vc] 131
 res:Ap u (w.heap.size+1) #[.int .i64 0,.int .i64 0,.int .i64 0,.slice none 0 0] 123
 out:Ap u Y #[.int .i64 num,.int .i64 0,.int .i64 base,V] 123
 row:u.ownsRow w.heap.size 128 2 V (ar.length+k) ((ar++(Aq f.locals).take k).flatMap MC.cells)
 bel:Below w.heap.size w u
 ge:w.heap.size+1<Y
structure PG(w u:World)(num base:Int)(Y:Nat)(vp:Value)(f:MF)(al:Option Addr)(cl:Nat)(vc:Value)(V:Value):Prop where
 fn:Ap u w.heap.size #[vp,.int .i64 f.result,.slice al f.locals.length cl,vc] 131
 res:Ap u (w.heap.size+1) #[.int .i64 0,.int .i64 0,.int .i64 0,.slice none 0 0] 123
 out:Ap u Y #[.int .i64 num,.int .i64 0,.int .i64 base,V] 123
 bel:Below w.heap.size w u
theorem MH.keep{w u u':World}{num base:Int}{Y:Nat}{vp:Value}{f:MF}{al:Option Addr}{cl:Nat}{vc V:Value}{ar:List MC}{k:Nat}(h:MH w u num base Y vp f al cl vc V ar k)(hb:Below u.heap.size u u'):MH w u' num base Y vp f al cl vc V ar k:=⟨h.fn.keep hb,h.res.keep hb,h.out.keep hb,Ag h.row hb lR,Ab h.bel lR hb,h.ge⟩
theorem MH.grown{w u u':World}{num base:Int}{Y:Nat}{vp:Value}{f:MF}{al:Option Addr}{cl:Nat}{vc V:Value}{ar:List MC}{k:Nat}(h:MH w u num base Y vp f al cl vc V ar k)(hg:u.grownBy u' V.ownBlock):PG w u' num base Y vp f al cl vc V:=
 ⟨h.fn.grown hg h.row (by decide),h.res.grown hg h.row (by decide),h.out.grown hg h.row (by decide),h.bel.grown hg h.bel.size (fun j hj=>(h.row.lt j hj).1)⟩
theorem Jp(g:VF)(f:MF)(num base:Int)(aa:Option Addr)(ca:Nat)(ar:List MC)(w:World)(hs:f.small)(h:CP w g f)(ha:ar.length<=1048576)(hr:Rd w 2 (.slice aa ar.length ca) ar.length (ar.flatMap MC.cells)):
 Calls Tryz.prog 111 #[.agg #[g.p,.int .i64 f.result,g.l,g.c],.int .i64 num,.int .i64 base,.slice aa ar.length ca] w fun e w'=>∃a c,e=.returned (.agg #[.int .i64 num,.int .i64 0,.int .i64 base,.slice a (ar.length+f.locals.length) c])/\w'.ownsRow w.heap.size 128 2 (.slice a (ar.length+f.locals.length) c) (ar.length+f.locals.length) ((ar++Aq f.locals).flatMap MC.cells)/\Below w.heap.size w w':=by
 obtain⟨i0,hi,hz0,hz1,hz2⟩:=info_parts DJ
 have H:Hid (CP w g f/\f.small/\Rd w 2 (.slice aa ar.length ca) ar.length (ar.flatMap MC.cells)):=⟨h,hs,hr⟩
 obtain⟨al,cl,el⟩:=h.2.1.is_slice
 obtain⟨ap,cp,ep⟩:=h.1.is_slice
 obtain⟨ac,cc,ec⟩:=h.2.2.is_slice
 obtain⟨vp,vl,vc⟩:=g
 simp only[]at el ep ec
 subst el ep ec
 obtain⟨_,s2,_⟩:=hs
 clear h hr
 have F1:Hid (Ap ((w.alloc (.cells #[.slice ap f.params.length cp,.int .i64 f.result,.slice al f.locals.length cl,.slice ac f.code.length cc] 131)).alloc (.cells #[.int .i64 0,.int .i64 0,.int .i64 0,.slice none 0 0] 123)) w.heap.size #[.slice ap f.params.length cp,.int .i64 f.result,.slice al f.locals.length cl,.slice ac f.code.length cc] 131/\Ap ((w.alloc (.cells #[.slice ap f.params.length cp,.int .i64 f.result,.slice al f.locals.length cl,.slice ac f.code.length cc] 131)).alloc (.cells #[.int .i64 0,.int .i64 0,.int .i64 0,.slice none 0 0] 123)) (w.heap.size+1) #[.int .i64 0,.int .i64 0,.int .i64 0,.slice none 0 0] 123/\Below w.heap.size w ((w.alloc (.cells #[.slice ap f.params.length cp,.int .i64 f.result,.slice al f.locals.length cl,.slice ac f.code.length cc] 131)).alloc (.cells #[.int .i64 0,.int .i64 0,.int .i64 0,.slice none 0 0] 123))):=by
  have b1:=Aa w (.cells #[.slice ap f.params.length cp,.int .i64 f.result,.slice al f.locals.length cl,.slice ac f.code.length cc] 131)
  have k1:=Ap.new w #[.slice ap f.params.length cp,.int .i64 f.result,.slice al f.locals.length cl,.slice ac f.code.length cc] 131
  generalize hU1:w.alloc (.cells #[.slice ap f.params.length cp,.int .i64 f.result,.slice al f.locals.length cl,.slice ac f.code.length cc] 131)=U1 at b1 k1⊢
  have z1:U1.heap.size=w.heap.size+1:=by rw[<-hU1];simp
  have b2:=Aa U1 (.cells #[.int .i64 0,.int .i64 0,.int .i64 0,.slice none 0 0] 123)
  have k2:=Ap.new U1 #[.int .i64 0,.int .i64 0,.int .i64 0,.slice none 0 0] 123
  rw[z1]at k2
  exact⟨k1.keep b2,k2,Ab b1 lR b2⟩
 cases aa with
 | none=>
  have hz:ar=[]:=by
   rcases H.out.2.2.2 with⟨e0,_⟩|⟨g',o',c'',e1,_⟩
   ·exact List.eq_nil_of_length_eq_zero e0
   ·cases e1
  subst hz
  show Calls Tryz.prog 111 #[.agg #[.slice ap f.params.length cp,.int .i64 f.result,.slice al f.locals.length cl,.slice ac f.code.length cc],.int .i64 num,.int .i64 base,.slice none 0 ca] w _
  go_enter Tryz.func111,Tryz.ntmps111
  go_upto_region 1 with fail
  refine Af (fun u=>Hid (Ap u w.heap.size #[.slice ap f.params.length cp,.int .i64 f.result,.slice al f.locals.length cl,.slice ac f.code.length cc] 131/\Ap u (w.heap.size+1) #[.int .i64 0,.int .i64 0,.int .i64 0,.slice none 0 0] 123/\Below w.heap.size w u)) F1 ?_
  rintro W0 HW
  clear F1
  have HO:Hid ((W0.alloc (.cells #[] 128)).ownsRow w.heap.size 128 2 (.slice (some ⟨W0.heap.size,0,none⟩) 0 0) 0 []/\Below W0.heap.size W0 (W0.alloc (.cells #[] 128))):=⟨⟨rfl,.inr ⟨W0.heap.size,0,#[],rfl,HW.out.2.2.size,Ap.new _ _ _,Nat.le_refl _,Nat.zero_le _,rfl,by simp⟩⟩,Aa _ _⟩
  go_upto_region 2 with fail
  refine Af (fun u=>Hid (MH w u num base (W0.heap.size+1) (.slice ap f.params.length cp) f al cl (.slice ac f.code.length cc) (.slice (some ⟨W0.heap.size,0,none⟩) 0 0) [] 0)) ?_ ?_
  ·have b5:=Aa (W0.alloc (.cells #[] 128)) (.cells #[.int .i64 num,.int .i64 0,.int .i64 base,.slice (some ⟨W0.heap.size,0,none⟩) 0 0] 123)
   have n5:=Ap.new (W0.alloc (.cells #[] 128)) #[.int .i64 num,.int .i64 0,.int .i64 base,.slice (some ⟨W0.heap.size,0,none⟩) 0 0] 123
   rw[show(W0.alloc (.cells #[] 128)).heap.size=W0.heap.size+1 by simp]at n5
   have hlt:=HW.out.2.1.lt
   exact⟨(HW.out.1.keep HO.out.2).keep b5,(HW.out.2.1.keep HO.out.2).keep b5,n5,Ag HO.out.1 b5 lR,Ab (Ab HW.out.2.2 lR HO.out.2) lR b5,by omega⟩
  rintro W2 E0
  go_wp2_with fail
  go_loopw [10] (fun i wr=>∃(k:Nat) (V:Value),k<=f.locals.length/\i=.int .i64 k/\Hid (MH w wr num base (W0.heap.size+1) (.slice ap f.params.length cp) f al cl (.slice ac f.code.length cc) V ([]:List MC) k)) (fun i _=>f.locals.length-(intOf i).toNat)
  case atStart=>exact⟨0,_,by omega,rfl,E0⟩
  case round=>
   clear E0
   obtain⟨k,V,hk,rfl,HI⟩:=hrel
   have e2:wr.cell? ⟨w.heap.size,2,none⟩=some (.slice al f.locals.length cl):=HI.out.fn.cell 2
   by_cases hlt:k<f.locals.length
   ·obtain⟨t,ht⟩:∃t,f.locals[k]?=some t:=⟨_,gE hlt⟩
    rcases H.out.1.2.1.2 with⟨e0,_⟩|⟨g',o',c',e1,hc2⟩
    ·omega
    simp only[sJ,true_and]at e1
    obtain⟨rfl,rfl⟩:=e1
    have j0:=Rd.elem An hc2 k t ht 0 _ rfl
    rw[Nat.mul_one,Nat.add_zero]at j0
    rw[<-HI.out.bel.cell (bL j0)]at j0
    have hkL:(k:Int)<(f.locals.length:Int):=by omega
    have bE:Below wr.heap.size wr (wr.alloc (.cells #[.int .i64 t,.int .u32 0] 128)).drew:=Ab (Aa _ _) lR (Ad _)
    have bD:=Ad wr
    have x0:=(HI.out.out.keep bD).cell 3
    have x1:=(HI.out.out.keep bE).cell 3
    have x2:wr.drew.cell? ⟨g',o'+k,none⟩=some (.int .i64 t):=by rw[bD.cell (bL j0)];exact j0
    have x3:wr.drew.cell? ⟨w.heap.size,2,none⟩=some (.slice (some ⟨g',o',none⟩) f.locals.length cl):=(HI.out.fn.keep bD).cell 2
    simp only[gA,gZ,gS]at x0 x1
    have HX:Hid (f.locals[k]?=some t):=ht
    have HC:Hid (((wr.alloc (.cells #[.int .i64 t,.int .u32 0] 128)).drew).ownsRow w.heap.size 128 2 V (k) (((Aq f.locals).take k).flatMap MC.cells)/\(∀j u,(MC.cells ⟨t,0⟩)[j]?=some u->(wr.alloc (.cells #[.int .i64 t,.int .u32 0] 128)).drew.cell? ((⟨wr.heap.size,0,none⟩:Addr).add j)=some u)/\MH w (wr.alloc (.cells #[.int .i64 t,.int .u32 0] 128)).drew num base (W0.heap.size+1) (.slice ap f.params.length cp) f (some ⟨g',o',none⟩) cl (.slice ac f.code.length cc) V ([]:List MC) k):=⟨by simpa using Ag HI.out.row bE lR,fun j u hj=>CA wr ⟨t,0⟩ 128 j u hj,HI.out.keep bE⟩
    clear hc2 ht bE bD
    go_wp2_with fail
    go_region_law (first
     |(refine step_append_lies _ rfl (.tmp 25) (.tmp 32) 36 rfl w.heap.size 128 i0 (.agg #[.int .i64 0,.int .u32 0]) 2 16 Tryz.underlying36 hi hz0 hz1 hz2 rfl (by decide) V (k) (((Aq f.locals).take k).flatMap MC.cells) (by simp[Act.eval]) HC.out.1 ⟨wr.heap.size,0,none⟩ 1 1 (MC.cells ⟨t,0⟩) (by simp[Act.eval]) rfl HC.out.2.1 (Be ⟨t,0⟩) (by omega) (by unfold maxLen;omega) (by omega) HC.out.2.2.bel.size _ rfl ?_;intro gg cap u2 hown hgrow hat hlt2;have HN0:Hid (u2.ownsRow w.heap.size 128 2 (.slice (some ⟨gg,0,none⟩) (k+1) cap) (k+1) (((Aq f.locals).take k).flatMap MC.cells++MC.cells ⟨t,0⟩)/\PG w u2 num base (W0.heap.size+1) (.slice ap f.params.length cp) f (some ⟨g',o',none⟩) cl (.slice ac f.code.length cc) V):=⟨hown,HC.out.2.2.grown hgrow⟩;have y0:=HN0.out.2.out.cell 3;have y1:=HN0.out.2.out.frozen 3;simp only[gA,gZ,gS]at y0;clear hown hgrow hat hlt2))
    all_goals
     have HN:Hid (MH w (u2.setCell ⟨(W0.heap.size+1),3,none⟩ (.slice (some ⟨gg,0,none⟩) (k+1) cap)) num base (W0.heap.size+1) (.slice ap f.params.length cp) f (some ⟨g',o',none⟩) cl (.slice ac f.code.length cc) (.slice (some ⟨gg,0,none⟩) (k+1) cap) ([]:List MC) (k+1)):=by
      have hge:=HI.out.ge
      refine⟨HN0.out.2.fn.other (by simp only[];omega) _,HN0.out.2.res.other (by simp only[];omega) _,HN0.out.2.out.set 3 _,?_,HN0.out.2.bel.setCell (by simp only[];omega) _,hge⟩
      have hzz:((Aq f.locals).take (k+1)).flatMap MC.cells=((Aq f.locals).take k).flatMap MC.cells++MC.cells ⟨t,0⟩:=by
       rw[De (Aq f.locals) k ⟨t,0⟩ (by simp[Aq,HX.out]),List.flatMap_append]
       simp
      simp only[List.nil_append,List.length_nil,Nat.zero_add]
      rw[hzz]
      exact ownsRow_setCell_other HN0.out.1 (a:=⟨(W0.heap.size+1),3,none⟩) (fun e=>AJ HN0.out.1 HN0.out.2.out (by decide) _ e rfl) _
     clear x0 x1 x2 x3 y0 y1 j0 e2
     go_wp2
     go_roundw
     case rel=>exact⟨k+1,_,by omega,by go_num,HN⟩
     case measure=>simp[intOf];omega
   ·have hkn:k=f.locals.length:=by omega
    have hz:(Aq f.locals).take k=Aq f.locals:=List.take_of_length_le (by rw[BW];omega)
    have hrow:=HI.out.row
    rw[hz,hkn]at hrow
    simp only[List.nil_append,List.length_nil,Nat.zero_add]at hrow
    obtain⟨a3,c3,rfl⟩:∃a c,V=.slice a (f.locals.length) c:=(Rd.of_own hrow).is_slice
    obtain⟨r0,r1,r2,r3⟩:=HI.out.res.c4
    obtain⟨o0,o1,o2,o3⟩:=HI.out.out.c4
    obtain⟨p0,p1,p2,p3⟩:=HI.out.res.z4
    try dsimp only at r0 r1 r2 r3 o0 o1 o2 o3
    have HR:Hid (wr.ownsRow w.heap.size 128 2 (.slice a3 (f.locals.length) c3) (f.locals.length) ((Aq f.locals).flatMap MC.cells)):=hrow
    have hge:¬w.heap.size+1=(W0.heap.size+1):=by have:=HI.out.ge;omega
    have hge':¬(W0.heap.size+1)=w.heap.size+1:=by have:=HI.out.ge;omega
    clear hrow hz
    go_wp2_with fail
    have R4:=(((HI.out.res.set 0 (.int .i64 num)).set 1 (.int .i64 0)).set 2 (.int .i64 base)).set 3 (.slice a3 (f.locals.length) c3)
    obtain⟨q0,q1,q2,q3⟩:=R4.c4
    try simp only[sA,List.set_cons_zero,List.set_cons_succ,gA,gZ,gS]at q0 q1 q2 q3
    have ne:∀{u:World} {cur:Array Value},u.ownsRow w.heap.size 128 2 (.slice a3 (f.locals.length) c3) (f.locals.length) ((Aq f.locals).flatMap MC.cells)->Ap u (w.heap.size+1) cur 123->∀(i:Nat) (x:Value),(u.setCell ⟨w.heap.size+1,i,none⟩ x).ownsRow w.heap.size 128 2 (.slice a3 (f.locals.length) c3) (f.locals.length) ((Aq f.locals).flatMap MC.cells):=fun ho hb i x=>ownsRow_setCell_other ho (a:=⟨w.heap.size+1,i,none⟩) (fun e=>AJ ho hb (by decide) _ e rfl) x
    have o4:=ne (ne (ne (ne HR.out HI.out.res 0 (.int .i64 num)) (HI.out.res.set 0 (.int .i64 num)) 1 (.int .i64 0)) ((HI.out.res.set 0 (.int .i64 num)).set 1 (.int .i64 0)) 2 (.int .i64 base)) (((HI.out.res.set 0 (.int .i64 num)).set 1 (.int .i64 0)).set 2 (.int .i64 base)) 3 (.slice a3 (f.locals.length) c3)
    have b4:Below w.heap.size w ((((wr.setCell ⟨w.heap.size+1,0,none⟩ (.int .i64 num)).setCell ⟨w.heap.size+1,1,none⟩ (.int .i64 0)).setCell ⟨w.heap.size+1,2,none⟩ (.int .i64 base)).setCell ⟨w.heap.size+1,3,none⟩ (.slice a3 (f.locals.length) c3)):=(((HI.out.bel.setCell (by simp) _).setCell (by simp) _).setCell (by simp) _).setCell (by simp) _
    exact bodyPost_ret (v:=.agg #[.int .i64 num,.int .i64 0,.int .i64 base,.slice a3 (f.locals.length) c3]) (by simp[results,Tryz.results111,go_sem,q0,q1,q2,q3]) rfl ⟨a3,c3,by simp,by simpa using o4,b4⟩
 | some ad=>
  go_enter Tryz.func111,Tryz.ntmps111
  go_upto_region 1 with fail
  refine Af (fun u=>Hid (Ap u w.heap.size #[.slice ap f.params.length cp,.int .i64 f.result,.slice al f.locals.length cl,.slice ac f.code.length cc] 131/\Ap u (w.heap.size+1) #[.int .i64 0,.int .i64 0,.int .i64 0,.slice none 0 0] 123/\Below w.heap.size w u)) F1 ?_
  rintro W0 HW
  clear F1
  have HO:Hid ((W0.alloc (.cells #[] 128)).ownsRow w.heap.size 128 2 (.slice (some ⟨W0.heap.size,0,none⟩) 0 0) 0 []/\Below W0.heap.size W0 (W0.alloc (.cells #[] 128))):=⟨⟨rfl,.inr ⟨W0.heap.size,0,#[],rfl,HW.out.2.2.size,Ap.new _ _ _,Nat.le_refl _,Nat.zero_le _,rfl,by simp⟩⟩,Aa _ _⟩
  have HN:Hid (∀j u,(ar.flatMap MC.cells)[j]?=some u->(W0.alloc (.cells #[] 128)).cell? (ad.add j)=some u):=fun j u hj=>by
   rcases H.out.2.2.2 with⟨e0,_⟩|⟨g',o',c'',e1,hc'⟩
   ·rw[List.eq_nil_of_length_eq_zero e0]at hj
    simp at hj
   ·simp only[sJ,Option.some.injEq]at e1
    obtain⟨rfl,_,_⟩:=e1
    have:=hc' j u hj
    rw[CW]
    exact Ac HO.out.2 (Ac HW.out.2.2 this)
  have HL:Hid ((ar.flatMap MC.cells).length=ar.length*2/\∀u∈ar.flatMap MC.cells,u.oneCell'=true):=⟨Az MC.cells 2 MC.cells_length ar,fun u hu=>by
   obtain⟨x,_,hx⟩:=List.mem_flatMap.1 hu
   exact Be x u hx⟩
  go_wp2_with (at_builtin;refine wpList_append_own _ rfl _ _ 36 rfl w.heap.size 128 i0 (.agg #[.int .i64 0,.int .u32 0]) 2 16 Tryz.underlying36 hi hz0 hz1 hz2 rfl (by decide) _ 0 [] rfl HO.out.1 ad ar.length ca (ar.flatMap MC.cells) rfl HL.out.1 HN.out HL.out.2 ?c4 ?c5 ?c6 ?_)
  case c4=>unfold maxLen;omega
  case c5=>omega
  case c6=>have:=HO.out.2.size;have:=HW.out.2.2.size;omega
  intro v' w' hown' hgrow' hnil'
  obtain⟨a2,c2,rfl⟩:∃a c,v'=.slice a ar.length c:=by
   have:=(Rd.of_own hown').is_slice
   simpa using this
  have HB:Hid (Below W0.heap.size W0 w'/\w'.ownsRow w.heap.size 128 2 (.slice a2 ar.length c2) ar.length (ar.flatMap MC.cells)):=⟨HO.out.2.grown hgrow' (by have:=HO.out.2.size;exact this) (fun j hj=>by simp[Value.ownBlock]at hj;omega),by simpa using hown'⟩
  clear hown' hgrow' hnil'
  go_upto_region 2 with fail
  refine Af (fun u=>Hid (MH w u num base w'.heap.size (.slice ap f.params.length cp) f al cl (.slice ac f.code.length cc) (.slice a2 ar.length c2) ar 0)) ?_ ?_
  ·have b5:=Aa w' (.cells #[.int .i64 num,.int .i64 0,.int .i64 base,.slice a2 ar.length c2] 123)
   have hlt:=HW.out.2.1.lt
   have hsz:=HB.out.1.size
   exact⟨(HW.out.1.keep HB.out.1).keep b5,(HW.out.2.1.keep HB.out.1).keep b5,Ap.new _ _ _,by rw[List.take_zero,List.append_nil,Nat.add_zero];exact Ag HB.out.2 b5 lR,Ab (Ab HW.out.2.2 lR HB.out.1) lR b5,by omega⟩
  rintro W2 E0
  go_wp2_with fail
  go_loopw [10] (fun i wr=>∃(k:Nat) (V:Value),k<=f.locals.length/\i=.int .i64 k/\Hid (MH w wr num base w'.heap.size (.slice ap f.params.length cp) f al cl (.slice ac f.code.length cc) V ar k)) (fun i _=>f.locals.length-(intOf i).toNat)
  case atStart=>exact⟨0,_,by omega,rfl,E0⟩
  case round=>
   clear E0
   obtain⟨k,V,hk,rfl,HI⟩:=hrel
   have e2:wr.cell? ⟨w.heap.size,2,none⟩=some (.slice al f.locals.length cl):=HI.out.fn.cell 2
   by_cases hlt:k<f.locals.length
   ·obtain⟨t,ht⟩:∃t,f.locals[k]?=some t:=⟨_,gE hlt⟩
    rcases H.out.1.2.1.2 with⟨e0,_⟩|⟨g',o',c',e1,hc2⟩
    ·omega
    simp only[sJ,true_and]at e1
    obtain⟨rfl,rfl⟩:=e1
    have j0:=Rd.elem An hc2 k t ht 0 _ rfl
    rw[Nat.mul_one,Nat.add_zero]at j0
    rw[<-HI.out.bel.cell (bL j0)]at j0
    have hkL:(k:Int)<(f.locals.length:Int):=by omega
    have bE:Below wr.heap.size wr (wr.alloc (.cells #[.int .i64 t,.int .u32 0] 128)).drew:=Ab (Aa _ _) lR (Ad _)
    have bD:=Ad wr
    have x0:=(HI.out.out.keep bD).cell 3
    have x1:=(HI.out.out.keep bE).cell 3
    have x2:wr.drew.cell? ⟨g',o'+k,none⟩=some (.int .i64 t):=by rw[bD.cell (bL j0)];exact j0
    have x3:wr.drew.cell? ⟨w.heap.size,2,none⟩=some (.slice (some ⟨g',o',none⟩) f.locals.length cl):=(HI.out.fn.keep bD).cell 2
    simp only[gA,gZ,gS]at x0 x1
    have HX:Hid (f.locals[k]?=some t):=ht
    have HC:Hid (((wr.alloc (.cells #[.int .i64 t,.int .u32 0] 128)).drew).ownsRow w.heap.size 128 2 V (ar.length+k) ((ar++(Aq f.locals).take k).flatMap MC.cells)/\(∀j u,(MC.cells ⟨t,0⟩)[j]?=some u->(wr.alloc (.cells #[.int .i64 t,.int .u32 0] 128)).drew.cell? ((⟨wr.heap.size,0,none⟩:Addr).add j)=some u)/\MH w (wr.alloc (.cells #[.int .i64 t,.int .u32 0] 128)).drew num base w'.heap.size (.slice ap f.params.length cp) f (some ⟨g',o',none⟩) cl (.slice ac f.code.length cc) V ar k):=⟨Ag HI.out.row bE lR,fun j u hj=>CA wr ⟨t,0⟩ 128 j u hj,HI.out.keep bE⟩
    clear hc2 ht bE bD
    go_wp2_with fail
    go_region_law (first
     |(refine step_append_lies _ rfl (.tmp 25) (.tmp 32) 36 rfl w.heap.size 128 i0 (.agg #[.int .i64 0,.int .u32 0]) 2 16 Tryz.underlying36 hi hz0 hz1 hz2 rfl (by decide) V (ar.length+k) ((ar++(Aq f.locals).take k).flatMap MC.cells) (by simp[Act.eval]) HC.out.1 ⟨wr.heap.size,0,none⟩ 1 1 (MC.cells ⟨t,0⟩) (by simp[Act.eval]) rfl HC.out.2.1 (Be ⟨t,0⟩) (by omega) (by unfold maxLen;omega) (by omega) HC.out.2.2.bel.size _ rfl ?_;intro gg cap u2 hown hgrow hat hlt2;have HN0:Hid (u2.ownsRow w.heap.size 128 2 (.slice (some ⟨gg,0,none⟩) (ar.length+k+1) cap) (ar.length+k+1) ((ar++(Aq f.locals).take k).flatMap MC.cells++MC.cells ⟨t,0⟩)/\PG w u2 num base w'.heap.size (.slice ap f.params.length cp) f (some ⟨g',o',none⟩) cl (.slice ac f.code.length cc) V):=⟨hown,HC.out.2.2.grown hgrow⟩;have y0:=HN0.out.2.out.cell 3;have y1:=HN0.out.2.out.frozen 3;simp only[gA,gZ,gS]at y0;clear hown hgrow hat hlt2))
    all_goals
     have HN:Hid (MH w (u2.setCell ⟨w'.heap.size,3,none⟩ (.slice (some ⟨gg,0,none⟩) (ar.length+k+1) cap)) num base w'.heap.size (.slice ap f.params.length cp) f (some ⟨g',o',none⟩) cl (.slice ac f.code.length cc) (.slice (some ⟨gg,0,none⟩) (ar.length+k+1) cap) ar (k+1)):=by
      have hge:=HI.out.ge
      refine⟨HN0.out.2.fn.other (by simp only[];omega) _,HN0.out.2.res.other (by simp only[];omega) _,HN0.out.2.out.set 3 _,?_,HN0.out.2.bel.setCell (by simp only[];omega) _,hge⟩
      have hzz:(ar++(Aq f.locals).take (k+1)).flatMap MC.cells=(ar++(Aq f.locals).take k).flatMap MC.cells++MC.cells ⟨t,0⟩:=by
       rw[De (Aq f.locals) k ⟨t,0⟩ (by simp[Aq,HX.out]),<-List.append_assoc,List.flatMap_append]
       simp
      rw[hzz]
      exact ownsRow_setCell_other HN0.out.1 (a:=⟨w'.heap.size,3,none⟩) (fun e=>AJ HN0.out.1 HN0.out.2.out (by decide) _ e rfl) _
     clear x0 x1 x2 x3 y0 y1 j0 e2
     go_wp2
     go_roundw
     case rel=>exact⟨k+1,_,by omega,by go_num,HN⟩
     case measure=>simp[intOf];omega
   ·have hkn:k=f.locals.length:=by omega
    have hz:(Aq f.locals).take k=Aq f.locals:=List.take_of_length_le (by rw[BW];omega)
    have hrow:=HI.out.row
    rw[hz,hkn]at hrow
    obtain⟨a3,c3,rfl⟩:∃a c,V=.slice a (ar.length+f.locals.length) c:=(Rd.of_own hrow).is_slice
    obtain⟨r0,r1,r2,r3⟩:=HI.out.res.c4
    obtain⟨o0,o1,o2,o3⟩:=HI.out.out.c4
    obtain⟨p0,p1,p2,p3⟩:=HI.out.res.z4
    try dsimp only at r0 r1 r2 r3 o0 o1 o2 o3
    have HR:Hid (wr.ownsRow w.heap.size 128 2 (.slice a3 (ar.length+f.locals.length) c3) (ar.length+f.locals.length) ((ar++Aq f.locals).flatMap MC.cells)):=hrow
    have hge:¬w.heap.size+1=w'.heap.size:=by have:=HI.out.ge;omega
    have hge':¬w'.heap.size=w.heap.size+1:=by have:=HI.out.ge;omega
    clear hrow hz
    go_wp2_with fail
    have R4:=(((HI.out.res.set 0 (.int .i64 num)).set 1 (.int .i64 0)).set 2 (.int .i64 base)).set 3 (.slice a3 (ar.length+f.locals.length) c3)
    obtain⟨q0,q1,q2,q3⟩:=R4.c4
    try simp only[sA,List.set_cons_zero,List.set_cons_succ,gA,gZ,gS]at q0 q1 q2 q3
    have ne:∀{u:World} {cur:Array Value},u.ownsRow w.heap.size 128 2 (.slice a3 (ar.length+f.locals.length) c3) (ar.length+f.locals.length) ((ar++Aq f.locals).flatMap MC.cells)->Ap u (w.heap.size+1) cur 123->∀(i:Nat) (x:Value),(u.setCell ⟨w.heap.size+1,i,none⟩ x).ownsRow w.heap.size 128 2 (.slice a3 (ar.length+f.locals.length) c3) (ar.length+f.locals.length) ((ar++Aq f.locals).flatMap MC.cells):=fun ho hb i x=>ownsRow_setCell_other ho (a:=⟨w.heap.size+1,i,none⟩) (fun e=>AJ ho hb (by decide) _ e rfl) x
    have o4:=ne (ne (ne (ne HR.out HI.out.res 0 (.int .i64 num)) (HI.out.res.set 0 (.int .i64 num)) 1 (.int .i64 0)) ((HI.out.res.set 0 (.int .i64 num)).set 1 (.int .i64 0)) 2 (.int .i64 base)) (((HI.out.res.set 0 (.int .i64 num)).set 1 (.int .i64 0)).set 2 (.int .i64 base)) 3 (.slice a3 (ar.length+f.locals.length) c3)
    have b4:Below w.heap.size w ((((wr.setCell ⟨w.heap.size+1,0,none⟩ (.int .i64 num)).setCell ⟨w.heap.size+1,1,none⟩ (.int .i64 0)).setCell ⟨w.heap.size+1,2,none⟩ (.int .i64 base)).setCell ⟨w.heap.size+1,3,none⟩ (.slice a3 (ar.length+f.locals.length) c3)):=(((HI.out.bel.setCell (by simp) _).setCell (by simp) _).setCell (by simp) _).setCell (by simp) _
    exact bodyPost_ret (v:=.agg #[.int .i64 num,.int .i64 0,.int .i64 base,.slice a3 (ar.length+f.locals.length) c3]) (by simp[results,Tryz.results111,go_sem,q0,q1,q2,q3]) rfl ⟨a3,c3,rfl,o4,b4⟩
end Go.Proofs.YtlejplpkomddeaaGreat
