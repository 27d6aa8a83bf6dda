import Derived.Test.YtdfmdgbolmbffaaGreatTy10
import Derived.Test.YtdfmdgbolmbffaaGreatTy24
import Derived.Test.YtdfmdgbolmbffaaGreatTy12
import Derived.Test.YtdfmdgbolmbffaaGreatTy21
import Derived.Deep.DeepCutAuto
import Derived.Deep.AppendLies
namespace Go.Proofs.YtdfmdgbolmbffaaGreat
open Go.ChangeShapes Go.WideShapes Go.ChangeAt Go.RowKit
set_option linter.unusedVariables false
structure L6(w u:World)(v:VP)(g:VF)(f:MF)(x:MI)(N:Nat)(T S:Value)(ts gs:List Int)(shv:Value)(sh:List Int):Prop where
  in3:In3 w u v g f x.op x.a x.b x.c
  eb:Blk u N #[T,S] 124
  tr:Rd u 1 T ts.length (ts.flatMap intCell)
  gr:Rd u 1 S gs.length (gs.flatMap intCell)
  sr:Rd u 1 shv sh.length (sh.flatMap intCell)
theorem L6.keep{w u u':World}{v:VP}{g:VF}{f:MF}{x:MI}{N:Nat}{T S:Value}{ts gs:List Int}{shv:Value}{sh:List Int}(h:L6 w u v g f x N T S ts gs shv sh)(hb:Below u.heap.size u u'):L6 w u' v g f x N T S ts gs shv sh:=⟨h.in3.keep hb,h.eb.keep hb,h.tr.keep hb (Nat.le_refl _),h.gr.keep hb (Nat.le_refl _),h.sr.keep hb (Nat.le_refl _)⟩
theorem row_at{u:World}{a:Option Addr}{n c:Nat}{zs:List Int}(h:Rd u 1 (.slice a n c) zs.length (zs.flatMap intCell))(hn:n=zs.length){i:Nat}{z:Int}(hz:zs[i]?=some z):∃gg oo,a=some ⟨gg,oo,none⟩/\u.cell? ⟨gg,oo+i,none⟩=some (.int .i64 z):=by
  have hi:=(List.getElem?_eq_some_iff.1 hz).1
  rcases h.2 with⟨e,_⟩|⟨gg,oo,cc,e,hc⟩
  . omega
  . simp only[Value.slice.injEq]at e
    have j2:=Rd.elem intCell_length hc i _ hz 0 _ rfl
    rw[Nat.mul_one,Nat.add_zero]at j2
    exact⟨gg,oo,e.1,j2⟩
def StepT(p:MP)(f:MF)(x:MI)(sh:List Int)(w:World)(e:Ending)(w':World):Prop:=∃V,e=.returned (.tuple #[V,.int .i64 (codeT p f x sh)])/\(codeT p f x sh=0->w'.ownsRow w.heap.size 2 1 V (outT p f x sh).length ((outT p f x sh).flatMap intCell))/\Below w.heap.size w w'
theorem flat_take{sh:List Int}{n j:Nat}{u:Value}(h:((sh.take n).flatMap intCell)[j]?=some u):(sh.flatMap intCell)[j]?=some u:=by
  have e:sh.flatMap intCell=(sh.take n).flatMap intCell++(sh.drop n).flatMap intCell:=by rw[<-List.flatMap_append,List.take_append_drop]
  rw[e,List.getElem?_append_left (List.getElem?_eq_some_iff.1 h).1]
  exact h
def gvT(low:Nat)(sh:List Int)(t:Int):Int:=if t=0 then(sh[low]?).getD 0 else t
def outK(low:Nat)(sh gs:List Int)(k:Nat):List Int:=sh.take low++(gs.take k).map (gvT low sh)
theorem outK_next{low:Nat}{sh gs:List Int}{k:Nat}{t:Int}(h:gs[k]?=some t):outK low sh gs (k+1)=outK low sh gs k++[gvT low sh t]:=by
  unfold outK
  obtain⟨hlt,rfl⟩:=List.getElem?_eq_some_iff.1 h
  rw[List.take_succ_eq_append_getElem hlt,List.map_append,List.append_assoc]
  rfl
theorem outK_all{p:MP}{f:MF}{x:MI}{low:Nat}{sh gs:List Int}(h:lowT p f x sh=low)(hg:givesL p f x=gs):outK low sh gs gs.length=outT p f x sh:=by
  unfold outK outT
  rw[h,hg,List.take_length]
  rfl
theorem outK_length{low:Nat}{sh gs:List Int}{k:Nat}(hl:low<=sh.length)(hk:k<=gs.length):(outK low sh gs k).length=low+k:=by
  unfold outK
  rw[List.length_append,List.length_take,List.length_map,List.length_take]
  omega
theorem one_new(u:World)(z:Int):∀j v,[(.int .i64 z:Value)][j]?=some v->(u.alloc (.cells #[.int .i64 z] 2)).cell? ((⟨u.heap.size,0,none⟩:Addr).add j)=some v:=fun j v hj=>by
  rw[add_at,Nat.zero_add,cell_of_row _ _ _ _ _ _ (block_new u #[.int .i64 z] 2)]
  simpa using hj
theorem codeT_1{p:MP}{f:MF}{x:MI}{sh ts:List Int}(e:takesL p f x=ts)(h:sh.length<ts.length):codeT p f x sh=1:=by unfold codeT;rw[e,if_pos h]
theorem gave{W0 wr w5:World}{gs sh:List Int}{low k cap oc:Nat}{oa:Option Addr}{g5:Nat}{z:Int}(ho:wr.ownsRow W0.heap.size 2 1 (.slice oa (low+k) oc) (low+k) ((outK low sh gs k).flatMap intCell))(h:Below W0.heap.size W0 wr)(hg:outK low sh gs (k+1)=outK low sh gs k++[z])(hn:w5.ownsRow W0.heap.size 2 1 (.slice (some ⟨g5,0,none⟩) (low+k+1) cap) (low+k+1) ((outK low sh gs k).flatMap intCell++[.int .i64 z]))(hgr:(wr.alloc (.cells #[.int .i64 z] 2)).grownBy w5 (Value.slice oa (low+k) oc).ownBlock):Hid (w5.ownsRow W0.heap.size 2 1 (.slice (some ⟨g5,0,none⟩) (low+(k+1)) cap) (low+(k+1)) ((outK low sh gs (k+1)).flatMap intCell)/\Below W0.heap.size W0 w5):=by
  refine⟨?_,(h.alloc h.size _).grown hgr (by rw[World.size_alloc];have:=h.size;omega) (fun j hj=>(ho.lt j hj).1)⟩
  rw[hg,List.flatMap_append,<-Nat.add_assoc]
  simpa[intCell]using hn
set_option maxHeartbeats 4000000 in
set_option maxRecDepth 100000 in
theorem l6Step_any (v:VP)(p:MP)(g:VF)(f:MF)(x:MI)(shv:Value)(sh:List Int)(w:World)(hs:p.small)(h3:p.regions.length=3)(hfs:f.small)(hxw:x.wf)(h:RdP w v p)(hf:RdF w g f)(hx:InstrOk p f x)(hsh:Rd w 1 shv sh.length (sh.flatMap intCell))(hl:sh.length<=1048576)(hcap:∀a c,shv=.slice a sh.length c->sh.length<=c)(hzz:∀t∈givesL p f x,t=0->0<(takesL p f x).length)(hgl:(givesL p f x).length<=2):
    Calls Tryz.prog 32 #[.agg #[v.r,v.k,v.f,v.t],.agg #[g.p,.int .i64 f.result,g.l,g.c],.agg #[.int .i64 x.op,.int .i64 x.a,.int .i64 x.b,.int .i64 x.c],shv] w (StepT p f x sh w):=by
  obtain⟨r1,r3,k1,k3,t1,t3,f1,f3,rfl⟩:=h.sl
  obtain⟨g1,g3,g4,g6,g7,g9,rfl⟩:=rdF_sl hf
  obtain⟨sa,sc,rfl⟩:=hsh.is_slice
  obtain⟨i0,hi,hy0,hy1,hy2⟩:=info_parts info64
  have hcp:=hcap sa sc rfl
  clear hcap
  have H:Hid (p.small/\p.regions.length=3/\f.small/\x.wf/\RdP w ⟨.slice r1 p.regions.length r3,.slice k1 p.consts.length k3,.slice f1 p.funcs.length f3,.slice t1 p.certs.length t3⟩ p/\RdF w ⟨.slice g1 f.params.length g3,.slice g4 f.locals.length g6,.slice g7 f.code.length g9⟩ f/\InstrOk p f x/\Rd w 1 (.slice sa sh.length sc) sh.length (sh.flatMap intCell)):=⟨hs,h3,hfs,hxw,h,hf,hx,hsh⟩
  clear hs h3 hfs hxw h hf hx hsh
  have E0:Hid (In3 w _ ⟨.slice r1 p.regions.length r3,.slice k1 p.consts.length k3,.slice f1 p.funcs.length f3,.slice t1 p.certs.length t3⟩ ⟨.slice g1 f.params.length g3,.slice g4 f.locals.length g6,.slice g7 f.code.length g9⟩ f x.op x.a x.b x.c):=In3.of w ⟨.slice r1 p.regions.length r3,.slice k1 p.consts.length k3,.slice f1 p.funcs.length f3,.slice t1 p.certs.length t3⟩ ⟨.slice g1 f.params.length g3,.slice g4 f.locals.length g6,.slice g7 f.code.length g9⟩ f x.op x.a x.b x.c
  go_enter Tryz.func32,Tryz.ntmps32
  go_upto_region 1 with fail
  refine wp_world (fun u=>Hid (In3 w u ⟨.slice r1 p.regions.length r3,.slice k1 p.consts.length k3,.slice f1 p.funcs.length f3,.slice t1 p.certs.length t3⟩ ⟨.slice g1 f.params.length g3,.slice g4 f.locals.length g6,.slice g7 f.code.length g9⟩ f x.op x.a x.b x.c)) E0 ?_
  rintro U0 E1
  clear E0
  obtain⟨p0,p1,p2,p3⟩:=E1.out.prog
  obtain⟨q0,q1,q2,q3⟩:=E1.out.func
  obtain⟨x0,x1,x2,x3⟩:=E1.out.ins
  go_wp2_with fail
  refine(l4Of_any ⟨.slice r1 p.regions.length r3,.slice k1 p.consts.length k3,.slice f1 p.funcs.length f3,.slice t1 p.certs.length t3⟩ p ⟨.slice g1 f.params.length g3,.slice g4 f.locals.length g6,.slice g7 f.code.length g9⟩ f x U0 H.out.1 H.out.2.1 H.out.2.2.1 H.out.2.2.2.1 (H.out.2.2.2.2.1.keep E1.out.bel (Nat.le_refl _)) (H.out.2.2.2.2.2.1.keep E1.out.bel (Nat.le_refl _)) H.out.2.2.2.2.2.2.1).mono ?_
  rintro e u1 ⟨Tv,Sv,rfl,tr,gr,b1⟩
  obtain⟨ta,tc,rfl⟩:=tr.is_slice
  obtain⟨ga,gc,rfl⟩:=gr.is_slice
  generalize hts:takesL p f x=ts at tr gr⊢
  generalize hgs:givesL p f x=gs at gr⊢
  rw[hts,hgs]at hzz
  rw[hgs]at hgl
  have HZZ:Hid ((∀t∈gs,t=0->0<ts.length)/\gs.length<=2/\sh.length<=sc):=⟨hzz,hgl,hcp⟩
  clear hzz hgl
  have HTS:Hid (takesL p f x=ts/\givesL p f x=gs):=⟨hts,hgs⟩
  clear hts hgs p0 p1 p2 p3 q0 q1 q2 q3 x0 x1 x2 x3
  have E2:Hid (L6 w (u1.alloc (.cells #[.slice ta ts.length tc,.slice ga gs.length gc] 124)) ⟨.slice r1 p.regions.length r3,.slice k1 p.consts.length k3,.slice f1 p.funcs.length f3,.slice t1 p.certs.length t3⟩ ⟨.slice g1 f.params.length g3,.slice g4 f.locals.length g6,.slice g7 f.code.length g9⟩ f x u1.heap.size (.slice ta ts.length tc) (.slice ga gs.length gc) ts gs (.slice sa sh.length sc) sh):=by
    have b2:=below_alloc u1 (.cells #[.slice ta ts.length tc,.slice ga gs.length gc] 124)
    exact⟨(E1.out.keep b1).keep b2,Blk.new _ _ _,tr.keep b2 (Nat.le_refl _),gr.keep b2 (Nat.le_refl _),(H.out.2.2.2.2.2.2.2.keep (below_on E1.out.bel (Nat.le_refl _) b1) (Nat.le_refl _)).keep b2 (Nat.le_refl _)⟩
  clear tr gr b1 E1
  go_upto_region 2 with fail
  generalize u1.heap.size=N at E2⊢
  refine wp_world (fun u=>Hid (L6 w u ⟨.slice r1 p.regions.length r3,.slice k1 p.consts.length k3,.slice f1 p.funcs.length f3,.slice t1 p.certs.length t3⟩ ⟨.slice g1 f.params.length g3,.slice g4 f.locals.length g6,.slice g7 f.code.length g9⟩ f x N (.slice ta ts.length tc) (.slice ga gs.length gc) ts gs (.slice sa sh.length sc) sh)) E2 ?_
  rintro U E3
  clear E2
  clear u1 U0
  have e0:=E3.out.eb.cell 0
  have e1:=E3.out.eb.cell 1
  simp only[List.getElem?_toArray,List.getElem?_cons_zero,List.getElem?_cons_succ]at e0 e1
  have hbel:Hid (Below w.heap.size w U):=E3.out.in3.bel
  by_cases hfew:sh.length<ts.length
  . have hfew':(sh.length:Int)<(ts.length:Int):=by omega
    have HC:Hid (codeT p f x sh=1):=codeT_1 HTS.out.1 hfew
    clear hfew
    go_wp2_with fail
    exact bodyPost_ret (v:=.tuple #[.slice none 0 0,.int .i64 1]) (by simp[results,Tryz.results32,go_sem]) rfl ⟨.slice none 0 0,by rw[HC.out],fun e=>by rw[HC.out]at e;exact absurd e (by decide),hbel.out⟩
  obtain⟨low,hlow⟩:∃low:Nat,sh.length=low+ts.length:=⟨sh.length-ts.length,by omega⟩
  have HLT:Hid (lowT p f x sh=low):=by show sh.length-(takesL p f x).length=low;rw[HTS.out.1];omega
  have hfew':¬(sh.length:Int)<(ts.length:Int):=by omega
  have HLO:Hid (sh.length=low+ts.length):=hlow
  clear hlow
  go_upto_region 6 with fail
  rw[show(sh.length:Int)-(ts.length:Int)=(low:Int)by have:=HLO.out;omega]
  have hw1:wrap64 ((ts.length:Int)-1)=(ts.length:Int)-1:=IntWalk.wrap64_in _ (by have:=HLO.out;omega)
  clear hfew hfew' e0 e1
  go_wp2
  rw[hw1]
  clear hw1
  go_loopw [13] (fun i wr=>∃(q:Nat) (z:Int),q<=ts.length/\i=.int .i64 z/\z+1=q/\Hid (∀(k:Nat) s t,q<=k->(sh.drop low)[k]?=some s->ts[k]?=some t->t=0\/s=t)/\Hid (L6 w wr ⟨.slice r1 p.regions.length r3,.slice k1 p.consts.length k3,.slice f1 p.funcs.length f3,.slice t1 p.certs.length t3⟩ ⟨.slice g1 f.params.length g3,.slice g4 f.locals.length g6,.slice g7 f.code.length g9⟩ f x N (.slice ta ts.length tc) (.slice ga gs.length gc) ts gs (.slice sa sh.length sc) sh)) (fun i _=>(intOf i+1).toNat)
  case atStart=>exact⟨ts.length,(ts.length:Int)-1,by omega,rfl,by omega,fun k s t hk _ ht=>absurd (List.getElem?_eq_some_iff.1 ht).1 (by omega),E3⟩
  case round=>
    clear E3 hbel
    obtain⟨q,z,hq,rfl,hz,HF,HI⟩:=hrel
    have hlo:=HLO.out
    have e0:=HI.out.eb.cell 0
    have e1:=HI.out.eb.cell 1
    simp only[List.getElem?_toArray,List.getElem?_cons_zero,List.getElem?_cons_succ]at e0 e1
    by_cases hq0:q=0
    . obtain rfl:z=-1:=by omega
      have HFT:Hid (fitsT (sh.drop low) ts=true):=(fitsT_iff (by rw[List.length_drop];omega)).2 (fun k s t h1 h2=>HF.out k s t (by omega) h1 h2)
      clear HF hq0 hz hq hlo
      obtain⟨q0,q1,q2,q3⟩:=HI.out.in3.func
      obtain⟨x0,x1,x2,x3⟩:=HI.out.in3.ins
      go_upto_region 11 with fail
      go_cut [67] (fun s wx=>∃bb:Bool,s=.bool bb/\Hid (bb=true↔(x.op=27/\localOf f x.a≠3))/\Hid (L6 w wx ⟨.slice r1 p.regions.length r3,.slice k1 p.consts.length k3,.slice f1 p.funcs.length f3,.slice t1 p.certs.length t3⟩ ⟨.slice g1 f.params.length g3,.slice g4 f.locals.length g6,.slice g7 f.code.length g9⟩ f x N (.slice ta ts.length tc) (.slice ga gs.length gc) ts gs (.slice sa sh.length sc) sh))
      case first=>
        by_cases h27:x.op=27
        . have h27b:(x.op==27)=true:=by simpa using h27
          have H27:Hid (x.op=27):=h27
          clear h27
          go_wp2_with fail
          refine(l3Local_any ⟨.slice g1 f.params.length g3,.slice g4 f.locals.length g6,.slice g7 f.code.length g9⟩ f x.a wr H.out.2.2.1 H.out.2.2.2.1.2.1 (H.out.2.2.2.2.2.1.keep HI.out.in3.bel (Nat.le_refl _))).mono ?_
          rintro e u1 ⟨rfl,b1⟩
          by_cases hl3:localOf f x.a=3
          . have hl3b:(localOf f x.a != 3)=false:=by simpa using hl3
            have HL3:Hid (localOf f x.a=3):=hl3
            clear hl3
            go_wp2_with fail
            go_meet
            exact⟨false,rfl,⟨fun e=>(by cases e),fun e=>absurd HL3.out e.2⟩,HI.out.keep b1⟩
          . have hl3b:(localOf f x.a != 3)=true:=by simpa using hl3
            have HL3:Hid (¬localOf f x.a=3):=hl3
            clear hl3
            go_wp2_with fail
            go_meet
            exact⟨true,rfl,⟨fun _=>⟨H27.out,HL3.out⟩,fun _=>rfl⟩,HI.out.keep b1⟩
        . have h27b:(x.op==27)=false:=by simpa using h27
          have H27:Hid (¬x.op=27):=h27
          clear h27
          go_wp2_with fail
          go_meet
          exact⟨false,rfl,⟨fun e=>(by cases e),fun e=>absurd e.1 H27.out⟩,HI⟩
      case rest =>
        obtain⟨bb,rfl,HBB,HI9⟩:=hcut
        clear HI q0 q1 q2 q3 x0 x1 x2 x3 e0 e1
        rcases Bool.eq_false_or_eq_true bb with hbb|hbb
        . subst hbb
          have HC:Hid (codeT p f x sh=2):=by
            show codeT p f x sh=2
            unfold codeT
            rw[HTS.out.1,if_neg (by have:=HLO.out;omega),if_pos (.inr (HBB.out.1 rfl))]
          go_wp2_with fail
          exact bodyPost_ret (v:=.tuple #[.slice none 0 0,.int .i64 2]) (by simp[results,Tryz.results32,go_sem]) rfl ⟨.slice none 0 0,by rw[HC.out],fun e=>by rw[HC.out]at e;exact absurd e (by decide),HI9.out.in3.bel⟩
        . subst hbb
          have HNB:Hid (¬(x.op=27/\localOf f x.a≠3)):=fun e=>by have:=HBB.out.2 e;cases this
          clear HBB
          obtain⟨W0,hN⟩:∃W,W=wc:=⟨_,rfl⟩
          subst hN
          have hlo:=HLO.out
          have hcL:(low:Int)<=(sc:Int):=by omega
          have hlL:low<=sc:=by omega
          clear hlo
          go_upto_region 13 with fail
          go_cut [12,14] (fun l s wx=>∃(a:Option Addr) (c:Nat),l=.int .i64 (low:Int)/\s=.slice a low c/\Hid (wx.ownsRow W0.heap.size 2 1 (.slice a low c) low ((sh.take low).flatMap intCell)/\Below W0.heap.size W0 wx))
          case first=>
            have b2:=below_alloc W0 (.cells #[] 2)
            have HO:Hid ((W0.alloc (.cells #[] 2)).ownsRow W0.heap.size 2 1 (.slice (some ⟨W0.heap.size,0,none⟩) 0 0) 0 []):=⟨rfl,.inr ⟨W0.heap.size,0,#[],rfl,Nat.le_refl _,block_new _ _ _,Nat.le_refl _,Nat.zero_le _,rfl,rfl⟩⟩
            have HI10:Hid _:=HI9.out.keep b2
            cases sa with
            | none=>
              have hz0:sh.length=0:=by
                rcases HI9.out.sr.2 with⟨e,_⟩|⟨gg,oo,cc,e,hc⟩
                . exact e
                . simp at e
              obtain rfl:low=0:=by have:=HLO.out;omega
              clear hz0 hcL hlL
              go_wp2_with fail
              go_meet
              exact⟨some ⟨W0.heap.size,0,none⟩,0,rfl,rfl,HO.out,b2⟩
            | some ad=>
              have HN:Hid (∀j u,((sh.take low).flatMap intCell)[j]?=some u->(W0.alloc (.cells #[] 2)).cell? (ad.add j)=some u):=fun j u hj=>by
                rcases HI10.out.sr.2 with⟨e,_⟩|⟨gg,oo,cc,e,hc⟩
                . have hl0:(sh.flatMap intCell).length=0:=by rw[flat_length intCell 1 intCell_length,e]
                  have:=(List.getElem?_eq_some_iff.1 (flat_take hj)).1
                  omega
                . simp only[Value.slice.injEq,Option.some.injEq]at e
                  obtain⟨rfl,_,_⟩:=e
                  rw[add_at]
                  exact hc j u (flat_take hj)
              have HL:Hid (((sh.take low).flatMap intCell).length=low*1):=by
                show _=_
                rw[flat_length intCell 1 intCell_length,List.length_take]
                have:=HLO.out
                omega
              go_wp2_with (at_builtin;refine wpList_append_own _ rfl _ _ 48 rfl W0.heap.size 2 i0 (.int .i64 0) 1 8 Tryz.underlying48 hi hy0 hy1 hy2 rfl (by decide) _ 0 [] rfl HO.out ad low sc ((sh.take low).flatMap intCell) rfl HL.out HN.out ?c1 ?c2 ?c3 ?c4 ?_)
              case c1=>
                intro u hu
                obtain⟨z,_,hz⟩:=List.mem_flatMap.1 hu
                simp[intCell]at hz
                subst hz
                rfl
              case c2=>have:=HLO.out;unfold maxLen;omega
              case c3=>have:=HLO.out;omega
              case c4=>exact b2.size
              intro v' w' hown' hgrow' hnil'
              obtain⟨a2,c2,rfl⟩:∃a c,v'=.slice a low c:=by
                have:=(Rd.of_own hown').is_slice
                simpa using this
              have HB:Hid (Below W0.heap.size W0 w'/\w'.ownsRow W0.heap.size 2 1 (.slice a2 low c2) low ((sh.take low).flatMap intCell)):=⟨b2.grown hgrow' (by simp) (fun k hk=>by simp[Value.ownBlock]at hk;omega),by simpa using hown'⟩
              clear hown' hgrow' hnil'
              go_wp2_with fail
              go_meet
              exact⟨a2,c2,rfl,rfl,HB.out.2,HB.out.1⟩
          case rest =>
            obtain⟨oa,oc,rfl,rfl,HO2⟩:=hcut
            have HW:Hid _:=HI9.out
            clear HI9
            go_wp2
            go_loopw [14,15,16] (fun o i _ wr=>∃(k:Nat) (a:Option Addr) (c:Nat),k<=gs.length/\o=.slice a (low+k) c/\i=.int .i64 (k:Int)/\Hid (wr.ownsRow W0.heap.size 2 1 (.slice a (low+k) c) (low+k) ((outK low sh gs k).flatMap intCell)/\Below W0.heap.size W0 wr)) (fun _ i _ _=>gs.length-(intOf i).toNat)
            case atStart=>exact⟨0,oa,oc,by omega,rfl,rfl,by have h5:=HO2.out.1;simpa[outK]using h5,HO2.out.2⟩
            case round=>
              clear HO2
              clear oa oc
              obtain⟨k,oa,oc,hk,rfl,rfl,HI⟩:=hrel
              have HWr:Hid _:=HW.out.keep HI.out.2
              have e1:=HWr.out.eb.cell 1
              simp only[List.getElem?_toArray,List.getElem?_cons_zero,List.getElem?_cons_succ]at e1
              by_cases hlt:k<gs.length
              . obtain⟨tv,htv⟩:∃t,gs[k]?=some t:=⟨_,List.getElem?_eq_getElem hlt⟩
                obtain⟨gg,og,rfl,j1⟩:=row_at HWr.out.gr rfl htv
                have hkL:(k:Int)<(gs.length:Int):=by omega
                have hg2:=HZZ.out.2.1
                by_cases ht0:tv=0
                . subst ht0
                  have hpos:=HZZ.out.1 0 (List.mem_of_getElem? htv) rfl
                  obtain⟨sl,hsl⟩:∃s,sh[low]?=some s:=⟨_,List.getElem?_eq_getElem (by have:=HLO.out;omega)⟩
                  obtain⟨gs',os,rfl,j2⟩:=row_at HWr.out.sr rfl hsl
                  have hsL:(low:Int)<(sh.length:Int):=by have:=HLO.out;omega
                  have HGV:Hid (outK low sh gs (k+1)=outK low sh gs k++[sl]):=by
                    show outK low sh gs (k+1)=_
                    rw[outK_next htv]
                    simp[gvT,hsl]
                  clear htv hsl hpos
                  have HC4:Hid ((wr.alloc (.cells #[.int .i64 sl] 2)).ownsRow W0.heap.size 2 1 (.slice oa (low+k) oc) (low+k) ((outK low sh gs k).flatMap intCell)/\W0.heap.size<=(wr.alloc (.cells #[.int .i64 sl] 2)).heap.size):=⟨own_keep HI.out.1 (below_alloc _ _) (Nat.le_refl _),by rw[World.size_alloc];have:=HI.out.2.size;omega⟩
                  go_wp2_with (at_builtin;refine wpList_append_lies _ rfl _ _ 48 rfl W0.heap.size 2 i0 (.int .i64 0) 1 8 Tryz.underlying48 hi hy0 hy1 hy2 rfl (by decide) _ (low+k) ((outK low sh gs k).flatMap intCell) rfl HC4.out.1 ⟨wr.heap.size,0,none⟩ 1 1 [.int .i64 sl] rfl rfl (one_new wr sl) (fun u hu=>by simp at hu;subst hu;rfl) (by omega) (by have:=HLO.out;have:=HZZ.out.2.1;simp[maxLen];omega) (by have:=HLO.out;have:=HZZ.out.2.1;omega) HC4.out.2 _ rfl ?_;intro g5 cap5 w5 hown hgrow hat hlt3;have HN:Hid (w5.ownsRow W0.heap.size 2 1 (.slice (some ⟨g5,0,none⟩) (low+(k+1)) cap5) (low+(k+1)) ((outK low sh gs (k+1)).flatMap intCell)/\Below W0.heap.size W0 w5):=gave HI.out.1 HI.out.2 HGV.out hown hgrow;clear hown hgrow hat hlt3)
                  clear HC4 HI
                  go_wp2
                  go_roundw
                  case rel=>exact⟨k+1,some ⟨g5,0,none⟩,cap5,by omega,rfl,by go_num,HN⟩
                  case measure=>simp[intOf];omega
                . have HGV:Hid (outK low sh gs (k+1)=outK low sh gs k++[tv]):=by
                    show outK low sh gs (k+1)=_
                    rw[outK_next htv]
                    simp[gvT,ht0]
                  have ht0':(tv==0)=false:=by simpa using ht0
                  clear htv
                  have HC4:Hid ((wr.alloc (.cells #[.int .i64 tv] 2)).ownsRow W0.heap.size 2 1 (.slice oa (low+k) oc) (low+k) ((outK low sh gs k).flatMap intCell)/\W0.heap.size<=(wr.alloc (.cells #[.int .i64 tv] 2)).heap.size):=⟨own_keep HI.out.1 (below_alloc _ _) (Nat.le_refl _),by rw[World.size_alloc];have:=HI.out.2.size;omega⟩
                  go_wp2_with (at_builtin;refine wpList_append_lies _ rfl _ _ 48 rfl W0.heap.size 2 i0 (.int .i64 0) 1 8 Tryz.underlying48 hi hy0 hy1 hy2 rfl (by decide) _ (low+k) ((outK low sh gs k).flatMap intCell) rfl HC4.out.1 ⟨wr.heap.size,0,none⟩ 1 1 [.int .i64 tv] rfl rfl (one_new wr tv) (fun u hu=>by simp at hu;subst hu;rfl) (by omega) (by have:=HLO.out;have:=HZZ.out.2.1;simp[maxLen];omega) (by have:=HLO.out;have:=HZZ.out.2.1;omega) HC4.out.2 _ rfl ?_;intro g5 cap5 w5 hown hgrow hat hlt3;have HN:Hid (w5.ownsRow W0.heap.size 2 1 (.slice (some ⟨g5,0,none⟩) (low+(k+1)) cap5) (low+(k+1)) ((outK low sh gs (k+1)).flatMap intCell)/\Below W0.heap.size W0 w5):=gave HI.out.1 HI.out.2 HGV.out hown hgrow;clear hown hgrow hat hlt3)
                  clear HC4 HI
                  go_wp2
                  go_roundw
                  case rel=>exact⟨k+1,some ⟨g5,0,none⟩,cap5,by omega,rfl,by go_num,HN⟩
                  case measure=>simp[intOf];omega
              . obtain rfl:k=gs.length:=by omega
                have HOT:Hid ((outT p f x sh).length=low+gs.length/\outK low sh gs gs.length=outT p f x sh):=by
                  have h5:=outK_all HLT.out HTS.out.2
                  exact⟨by rw[<-h5,outK_length (by have:=HLO.out;omega) (Nat.le_refl _)],h5⟩
                have HC0:Hid (codeT p f x sh=if 64<low+gs.length then 3 else 0):=by
                  show codeT p f x sh=_
                  unfold codeT
                  rw[HTS.out.1,if_neg (by have:=HLO.out;omega),if_neg (by rw[HLT.out];rintro(e|e);exact absurd (HFT.out.symm.trans e) (by decide);exact HNB.out e),HOT.out.1]
                by_cases hbig:64<low+gs.length
                . have HC:Hid (codeT p f x sh=3):=by have:=HC0.out;rw[if_pos hbig]at this;exact this
                  have hbig':(64:Int)<(low:Int)+(gs.length:Int):=by omega
                  clear hbig
                  go_wp2_with fail
                  exact bodyPost_ret (v:=.tuple #[.slice none 0 0,.int .i64 3]) (by simp[results,Tryz.results32,go_sem]) rfl ⟨.slice none 0 0,by rw[HC.out],fun e=>by rw[HC.out]at e;exact absurd e (by decide),HWr.out.in3.bel⟩
                . have HC:Hid (codeT p f x sh=0):=by have:=HC0.out;rw[if_neg hbig]at this;exact this
                  have hbig':¬(64:Int)<(low:Int)+(gs.length:Int):=by omega
                  clear hbig
                  go_wp2_with fail
                  exact bodyPost_ret (v:=.tuple #[.slice oa (low+gs.length) oc,.int .i64 0]) (by simp[results,Tryz.results32,go_sem]) rfl ⟨.slice oa (low+gs.length) oc,by rw[HC.out],fun _=>by rw[HOT.out.1,<-HOT.out.2];exact own_base HI.out.1 HW.out.in3.bel.size,HWr.out.in3.bel⟩
    . obtain ⟨j,rfl⟩:∃j,q=j+1:=⟨q-1,by omega⟩
      obtain rfl:z=(j:Int):=by omega
      obtain⟨tv,htv⟩:∃t,ts[j]?=some t:=⟨_,List.getElem?_eq_getElem (by omega)⟩
      obtain⟨sv,hsv⟩:∃s,sh[low+j]?=some s:=⟨_,List.getElem?_eq_getElem (by omega)⟩
      obtain⟨gt,ot,rfl,j1⟩:=row_at HI.out.tr rfl htv
      obtain⟨gs',os,rfl,j2⟩:=row_at HI.out.sr rfl hsv
      have hd:(sh.drop low)[j]?=some sv:=by rw[List.getElem?_drop];exact hsv
      have HV:Hid (ts[j]?=some tv/\(sh.drop low)[j]?=some sv):=⟨htv,hd⟩
      have hjL:(j:Int)<(ts.length:Int):=by omega
      have hsL:(low:Int)+(j:Int)<(sh.length:Int):=by omega
      clear htv hsv hd hlo
      have inst:=Grown.some wr
      have J1:=fun n:Grown wr=>Grown.cell j1 n
      have J2:=fun n:Grown wr=>Grown.cell j2 n
      have K0:=fun n:Grown wr=>Grown.cell e0 n
      by_cases ht0:tv=0
      . have ht0':(tv != 0)=false:=by simpa using ht0
        go_wp2_with fail
        refine wp_region_grown (by kernel_rfl) (by kernel_rfl) ?_
        repeat(go_big_quiet_step (fail))
        refine wpQuiet_nil ?_
        rintro w'' ⟨n',rfl⟩
        have HI2:Hid _:=HI.out.keep n'.h
        have HF2:Hid (∀(k:Nat) s t,j<=k->(sh.drop low)[k]?=some s->ts[k]?=some t->t=0\/s=t):=fun k s t hk h1 h2=>by
          by_cases e:k=j
          . subst e
            rw[HV.out.1]at h2
            exact .inl (by rw[<-Option.some.inj h2];exact ht0)
          . exact HF.out k s t (by omega) h1 h2
        clear J1 J2 K0 inst j1 j2 e0 e1 HI HF
        go_wp2
        go_roundw
        case rel=>exact⟨j,(j:Int)-1,by omega,by go_num,by omega,HF2,HI2⟩
        case measure=>simp[intOf]
      . have ht0':(tv != 0)=true:=by simpa using ht0
        by_cases hvt:sv=tv
        . have hvt':(sv != tv)=false:=by simpa using hvt
          go_wp2_with fail
          refine wp_region_grown (by kernel_rfl) (by kernel_rfl) ?_
          repeat(go_big_quiet_step (fail))
          refine wpQuiet_nil ?_
          rintro w'' ⟨n',rfl⟩
          have HI2:Hid _:=HI.out.keep n'.h
          have HF2:Hid (∀(k:Nat) s t,j<=k->(sh.drop low)[k]?=some s->ts[k]?=some t->t=0\/s=t):=fun k s t hk h1 h2=>by
            by_cases e:k=j
            . subst e
              rw[HV.out.1]at h2
              rw[HV.out.2]at h1
              exact .inr (by rw[<-Option.some.inj h1,<-Option.some.inj h2];exact hvt)
            . exact HF.out k s t (by omega) h1 h2
          clear J1 J2 K0 inst j1 j2 e0 e1 HI HF
          go_wp2
          go_roundw
          case rel=>exact⟨j,(j:Int)-1,by omega,by go_num,by omega,HF2,HI2⟩
          case measure=>simp[intOf]
        . have hvt':(sv != tv)=true:=by simpa using hvt
          have HC:Hid (codeT p f x sh=2):=by
            show codeT p f x sh=2
            unfold codeT
            rw[HTS.out.1,if_neg (by have:=HLO.out;omega),if_pos (.inl (Bool.eq_false_iff.2 (fun e=>by
              have h5:=(fitsT_iff (by rw[List.length_drop,HLT.out];have:=HLO.out;omega)).1 e j sv tv (by rw[HLT.out];exact HV.out.2) HV.out.1
              rcases h5 with h5|h5
              . exact ht0 h5
              . exact hvt h5)))]
          go_wp2_with fail
          refine wp_region_grown (by kernel_rfl) (by kernel_rfl) ?_
          repeat(go_big_quiet_step (fail))
          refine wpQuiet_nil ?_
          rintro w'' ⟨n',rfl⟩
          have HI2:=HI.out.keep n'.h
          clear J1 J2 K0 inst j1 j2 e0 e1 HI
          go_wp2_with fail
          exact bodyPost_ret (v:=.tuple #[.slice none 0 0,.int .i64 2]) (by simp[results,Tryz.results32,go_sem]) rfl ⟨.slice none 0 0,by rw[HC.out],fun e=>by rw[HC.out]at e;exact absurd e (by decide),HI2.in3.bel⟩
end Go.Proofs.YtdfmdgbolmbffaaGreat
