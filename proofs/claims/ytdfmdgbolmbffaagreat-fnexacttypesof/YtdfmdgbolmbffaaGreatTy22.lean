import Derived.Test.YtdfmdgbolmbffaaGreatTy21
import Derived.Deep.CutBlock
namespace Go.Proofs.YtdfmdgbolmbffaaGreat
open Go.ChangeShapes Go.WideShapes Go.ChangeAt Go.RowKit
set_option linter.unusedVariables false
theorem takesI_small{p:MP}{f:MF}{x:MI}(hp:p.small)(hx:InstrOk p f x):(takesI p f x).length<=1048576:=by
  unfold takesI
  split
  . unfold resultL;split<;>simp
  . unfold takesL
    by_cases h:x.op=28
    . obtain⟨q,fq,e1,e2⟩:=hx.callee h
      rw[if_neg (by omega),if_neg (by omega),if_neg (by omega),if_neg (by omega),if_neg (by omega),if_neg (by omega),if_neg (by omega),if_neg (by omega),if_neg (by omega),if_neg (by omega),if_pos h,e1,Int.toNat_natCast,e2]
      exact(hp.func fq (List.mem_of_getElem? e2)).1
    . repeat' split
      all_goals first|contradiction|simp
set_option maxHeartbeats 8000000 in
set_option maxRecDepth 100000 in
theorem change_any(v:VP)(p:MP)(g:VF)(f:MF)(x:MI)(S:Nat)(V:Value)(sh:List Int)(w0 w:World)(hps:p.small)(hpf:FaultIs p 0)(hs:f.small)(hP:RdP w0 v p)(hr:RdF w0 g f)(hx:InstrOk p f x)(hw0:w0.heap.size<=S)(hb:Below w0.heap.size w0 w)(hst:Stk w S V sh)(hl:sh.length<=1048576):
    Calls Tryz.prog 120 #[.agg #[v.r,v.k,v.f,v.t,g.p,.int .i64 f.result,g.l,g.c],.pointer (some ⟨S,0,none⟩),.agg #[.int .i64 x.op,.int .i64 x.a,.int .i64 x.b,.int .i64 x.c]] w fun e w'=>e=.returned (.int .i64 (codeI p f x sh))/\ChT w S V (codeI p f x sh) (outI p f x sh) w':=by
  obtain⟨r1,r3,k1,k3,t1,t3,f1,f3,rfl⟩:=hP.sl
  obtain⟨g1,g3,g4,g6,g7,g9,rfl⟩:=rdF_sl hr
  have H:Hid (p.small/\FaultIs p 0/\f.small/\RdP w0 ⟨.slice r1 p.regions.length r3,.slice k1 p.consts.length k3,.slice f1 p.funcs.length f3,.slice t1 p.certs.length t3⟩ p/\RdF w0 ⟨.slice g1 f.params.length g3,.slice g4 f.locals.length g6,.slice g7 f.code.length g9⟩ f/\InstrOk p f x/\w0.heap.size<=S/\Below w0.heap.size w0 w/\Stk w S V sh/\sh.length<=1048576):=⟨hps,hpf,hs,hP,hr,hx,hw0,hb,hst,hl⟩
  have E0:Hid (ChAt w ((w.alloc (.cells #[.slice r1 p.regions.length r3,.slice k1 p.consts.length k3,.slice f1 p.funcs.length f3,.slice t1 p.certs.length t3,.slice g1 f.params.length g3,.int .i64 f.result,.slice g4 f.locals.length g6,.slice g7 f.code.length g9] 85)).alloc (.cells #[.int .i64 x.op,.int .i64 x.a,.int .i64 x.b,.int .i64 x.c] 73)) ⟨.slice r1 p.regions.length r3,.slice k1 p.consts.length k3,.slice f1 p.funcs.length f3,.slice t1 p.certs.length t3⟩ ⟨.slice g1 f.params.length g3,.slice g4 f.locals.length g6,.slice g7 f.code.length g9⟩ f x S V/\Stk ((w.alloc (.cells #[.slice r1 p.regions.length r3,.slice k1 p.consts.length k3,.slice f1 p.funcs.length f3,.slice t1 p.certs.length t3,.slice g1 f.params.length g3,.int .i64 f.result,.slice g4 f.locals.length g6,.slice g7 f.code.length g9] 85)).alloc (.cells #[.int .i64 x.op,.int .i64 x.a,.int .i64 x.b,.int .i64 x.c] 73)) S V sh):=by
    have h2:=Sc2.of w ⟨.slice r1 p.regions.length r3,.slice k1 p.consts.length k3,.slice f1 p.funcs.length f3,.slice t1 p.certs.length t3⟩ ⟨.slice g1 f.params.length g3,.slice g4 f.locals.length g6,.slice g7 f.code.length g9⟩ f x.op x.a x.b x.c
    exact⟨⟨h2.sb,h2.ib,Chg.of h2.bel⟩,hst.keep h2.bel⟩
  clear hps hpf hs hP hr hx hw0 hb hst hl
  generalize p.regions.length=nr at H E0⊢
  generalize p.consts.length=nk at H E0⊢
  generalize p.funcs.length=nf at H E0⊢
  generalize p.certs.length=nt at H E0⊢
  generalize f.params.length=np at H E0⊢
  generalize f.locals.length=nl at H E0⊢
  generalize f.code.length=nc at H E0⊢
  go_enter Tryz.func120,Tryz.ntmps120
  go_upto_region 1 with fail
  refine wp_world (fun u=>Hid (ChAt w u ⟨.slice r1 nr r3,.slice k1 nk k3,.slice f1 nf f3,.slice t1 nt t3⟩ ⟨.slice g1 np g3,.slice g4 nl g6,.slice g7 nc g9⟩ f x S V/\Stk u S V sh)) E0 ?_
  rintro U E1
  clear E0
  have HBW:Hid (∀u,Chg (RStk S V) w u->Below w0.heap.size w0 u):=fun u hu=>H.out.2.2.2.2.2.2.2.1.trans (hu.below H.out.2.2.2.2.2.2.2.1.size (fun j hj e=>by have:=(RStk.ge H.out.2.2.2.2.2.2.2.2.1 e).1;have:=H.out.2.2.2.2.2.2.1;omega))
  obtain⟨s0,s1,s2,s3,s4,s5,s6,s7⟩:=cel8 E1.out.1.sb
  obtain⟨i0,i1,i2,i3⟩:=cel4 E1.out.1.ib
  go_wp2_with fail
  refine(takes_any ⟨.slice r1 nr r3,.slice k1 nk k3,.slice f1 nf f3,.slice t1 nt t3⟩ p ⟨.slice g1 np g3,.slice g4 nl g6,.slice g7 nc g9⟩ f x U H.out.1 H.out.2.1.parts.1.1 H.out.2.2.1 (H.out.2.2.2.1.keep (HBW.out U E1.out.1.chg) (Nat.le_refl _)) (H.out.2.2.2.2.1.keep (HBW.out U E1.out.1.chg) (Nat.le_refl _)) H.out.2.2.2.2.2.1).mono ?_
  rintro e u1 ⟨st,rfl,hrd,b1⟩
  obtain⟨ta,tc,rfl⟩:=hrd.is_slice
  have HTS:Hid ((takesI p f x).length<=1048576):=takesI_small H.out.1 H.out.2.2.2.2.2.1
  have E2:Hid (ChAt w u1 ⟨.slice r1 nr r3,.slice k1 nk k3,.slice f1 nf f3,.slice t1 nt t3⟩ ⟨.slice g1 np g3,.slice g4 nl g6,.slice g7 nc g9⟩ f x S V/\Stk u1 S V sh/\Rd u1 1 (.slice ta (takesI p f x).length tc) (takesI p f x).length ((takesI p f x).flatMap intCell)):=⟨E1.out.1.keep b1,E1.out.2.keep b1,hrd⟩
  clear hrd b1 E1 s0 s1 s2 s3 s4 s5 s6 s7 i0 i1 i2 i3
  clear U
  generalize htk:takesI p f x=tk at HTS E2⊢
  have HTK:Hid (takesI p f x=tk):=htk
  clear htk
  obtain⟨i0,i1,i2,i3⟩:=cel4 E2.out.1.ib
  go_upto_region 2 with fail
  go_cut [22] (fun s wx=>∃bb:Bool,s=.bool bb/\Hid (bb=true↔(x.op=29/\sh≠tk))/\Hid (ChAt w wx ⟨.slice r1 nr r3,.slice k1 nk k3,.slice f1 nf f3,.slice t1 nt t3⟩ ⟨.slice g1 np g3,.slice g4 nl g6,.slice g7 nc g9⟩ f x S V/\Stk wx S V sh/\Rd wx 1 (.slice ta tk.length tc) tk.length (tk.flatMap intCell)))
  case first=>
    by_cases h29:x.op=29
    . have h29':(x.op==29)=true:=by simpa using h29
      have H29:Hid (x.op=29):=h29
      clear h29
      go_wp2_with fail
      refine(isJust_any S V (.slice ta tk.length tc) sh tk u1 E2.out.2.1 E2.out.2.2 H.out.2.2.2.2.2.2.2.2.2 HTS.out).mono ?_
      rintro e u2 ⟨⟨b2,rfl,hb2⟩,bl2⟩
      have E3:Hid (ChAt w u2 ⟨.slice r1 nr r3,.slice k1 nk k3,.slice f1 nf f3,.slice t1 nt t3⟩ ⟨.slice g1 np g3,.slice g4 nl g6,.slice g7 nc g9⟩ f x S V/\Stk u2 S V sh/\Rd u2 1 (.slice ta tk.length tc) tk.length (tk.flatMap intCell)):=⟨E2.out.1.keep bl2,E2.out.2.1.keep bl2,E2.out.2.2.keep bl2 (Nat.le_refl _)⟩
      have HB2:Hid (b2=true↔sh=tk):=hb2
      clear hb2 bl2 E2 i0 i1 i2 i3
      cases b2
      . go_wp2_with fail
        go_meet
        exact⟨true,rfl,⟨fun _=>⟨H29.out,fun e=>(by have:=HB2.out.2 e;cases this)⟩,fun _=>rfl⟩,E3⟩
      . go_wp2_with fail
        go_meet
        exact⟨false,rfl,⟨fun e=>(by cases e),fun e=>absurd (HB2.out.1 (by first|rfl|trivial)) e.2⟩,E3⟩
    . have h29':(x.op==29)=false:=by simpa using h29
      have H29:Hid (¬x.op=29):=h29
      clear h29
      go_wp2_with fail
      go_meet
      exact⟨false,rfl,⟨fun e=>(by cases e),fun e=>absurd e.1 H29.out⟩,E2⟩
  case rest =>
    obtain⟨bb,rfl,HBB,E3⟩:=hcut
    clear E2 i0 i1 i2 i3
    obtain⟨W2,hW2⟩:∃W,W=wc:=⟨_,rfl⟩
    subst hW2
    cases bb
    case true=>
      have HC:Hid (codeI p f x sh=5):=by
        have h1:=HBB.out.1 rfl
        show codeI p f x sh=5
        unfold codeI
        rw[if_pos h1.1,if_neg (fun e=>h1.2 (by rw[<-HTK.out,takesI_29 h1.1];exact e))]
      go_wp2_with fail
      go_ret
      exact⟨by rw[HC.out];rfl,E3.out.1.chg,fun e=>absurd (HC.out.symm.trans e) (by decide)⟩
    case false=>
      have HB:Hid (x.op=29->sh=tk):=fun e=>Classical.byContradiction fun e2=>by have:=HBB.out.2 ⟨e,e2⟩;cases this
      clear HBB
      go_wp2_with fail
      refine(popT_any S V (.slice ta tk.length tc) sh tk W2 E3.out.2.1 E3.out.2.2 H.out.2.2.2.2.2.2.2.2.2 HTS.out).mono ?_
      rintro e u3 ⟨V2,cc,rfl,hpop⟩
      rcases hpop with⟨hlt,rfl,bl3⟩|⟨hle,hft,rfl,bl3⟩|⟨hle,hft,rfl,⟨V1,hst1,hob⟩,hV2,hch⟩
      . have HC:Hid (codeI p f x sh=1):=by
          show codeI p f x sh=1
          have hn:x.op≠29:=fun e=>by have:=HB.out e;subst this;omega
          unfold codeI
          rw[if_neg hn]
          exact codeT_few (by rw[<-takesI_of hn,HTK.out];exact hlt)
        have E4:Hid (Chg (RStk S V) w u3):=E3.out.1.chg.on bl3
        clear hlt bl3 E3
        go_wp2_with fail
        go_ret
        exact⟨by rw[HC.out];rfl,E4.out,fun e=>absurd (HC.out.symm.trans e) (by decide)⟩
      . have HC:Hid (codeI p f x sh=2):=by
          show codeI p f x sh=2
          have hn:x.op≠29:=fun e=>by
            have:=HB.out e
            subst this
            rw[Nat.sub_self,List.drop_zero,fits_self]at hft
            cases hft
          unfold codeI
          rw[if_neg hn]
          have e1:takesL p f x=tk:=by rw[<-takesI_of hn,HTK.out]
          exact codeT_differ (by rw[e1];exact hle) (.inl (by unfold lowT;rw[e1];exact hft))
        have E4:Hid (Chg (RStk S V) w u3):=E3.out.1.chg.on bl3
        clear hle hft bl3 E3
        go_wp2_with fail
        go_ret
        exact⟨by rw[HC.out];rfl,E4.out,fun e=>absurd (HC.out.symm.trans e) (by decide)⟩
      . obtain ⟨va,vc,eV2⟩:=own_slice hV2
        subst eV2
        have hSlt:=E3.out.2.1.blk.lt
        have hwS:S<w.heap.size:=H.out.2.2.2.2.2.2.2.2.1.blk.lt
        have E4:Hid (ChAt w u3 ⟨.slice r1 nr r3,.slice k1 nk k3,.slice f1 nf f3,.slice t1 nt t3⟩ ⟨.slice g1 np g3,.slice g4 nl g6,.slice g7 nc g9⟩ f x S V/\Stk u3 S V1 (sh.take (sh.length-tk.length))/\V1.ownBlock=V.ownBlock/\Rd u3 1 (.slice va tk.length vc) tk.length ((sh.drop (sh.length-tk.length)).flatMap intCell)):=⟨E3.out.1.step hch (fun k e _=>.inl e) (fun k e e2=>by omega),hst1,hob,Rd.of_own hV2⟩
        have HPL:Hid (Placed (.slice va tk.length vc)):=by
          rcases own_row hV2 with⟨e,_⟩|⟨g',c',e⟩
          . exact .inl e
          . exact .inr ⟨_,_,_,e⟩
        have HFT:Hid (tk.length<=sh.length/\fitsT (sh.drop (sh.length-tk.length)) tk=true):=⟨hle,hft⟩
        clear hle hft hst1 hob hV2 hch E3 hSlt
        clear W2
        obtain⟨s0,s1,s2,s3,s4,s5,s6,s7⟩:=cel8 E4.out.1.sb
        obtain⟨i0,i1,i2,i3⟩:=cel4 E4.out.1.ib
        go_wp2_with fail
        refine(guardHolds_any ⟨.slice r1 nr r3,.slice k1 nk k3,.slice f1 nf f3,.slice t1 nt t3⟩ p ⟨.slice g1 np g3,.slice g4 nl g6,.slice g7 nc g9⟩ f x.op x.a x.b x.c u3 H.out.2.2.1 (H.out.2.2.2.1.keep (HBW.out u3 E4.out.1.chg) (Nat.le_refl _)) (H.out.2.2.2.2.1.keep (HBW.out u3 E4.out.1.chg) (Nat.le_refl _)) (fun e=>H.out.2.2.2.2.2.1.local (by omega))).mono ?_
        rintro e u4 ⟨⟨b4,rfl,hb4⟩,bl4⟩
        have E5:Hid (ChAt w u4 ⟨.slice r1 nr r3,.slice k1 nk k3,.slice f1 nf f3,.slice t1 nt t3⟩ ⟨.slice g1 np g3,.slice g4 nl g6,.slice g7 nc g9⟩ f x S V/\Stk u4 S V1 (sh.take (sh.length-tk.length))/\V1.ownBlock=V.ownBlock/\Rd u4 1 (.slice va tk.length vc) tk.length ((sh.drop (sh.length-tk.length)).flatMap intCell)):=⟨E4.out.1.keep bl4,E4.out.2.1.keep bl4,E4.out.2.2.1,E4.out.2.2.2.keep bl4 (Nat.le_refl _)⟩
        have HB4:Hid (b4=true↔¬(x.op=27/\localOf f x.a≠3)):=hb4
        clear hb4 bl4 E4 s0 s1 s2 s3 s4 s5 s6 s7 i0 i1 i2 i3
        clear u3
        have HOP:Hid (x.op≠29->takesL p f x=tk):=fun e=>by rw[<-takesI_of e,HTK.out]
        cases b4
        . have HC:Hid (codeI p f x sh=2):=by
            show codeI p f x sh=2
            have h1:x.op=27/\localOf f x.a≠3:=Classical.byContradiction fun e=>by have:=HB4.out.2 e;cases this
            have hn:x.op≠29:=by omega
            unfold codeI
            rw[if_neg hn]
            exact codeT_differ (by rw[HOP.out hn];exact HFT.out.1) (.inr h1)
          go_wp2_with fail
          go_ret
          exact⟨by rw[HC.out];rfl,E5.out.1.chg,fun e=>absurd (HC.out.symm.trans e) (by decide)⟩
        . have HG :Hid (¬(x.op=27/\localOf f x.a≠3)):=HB4.out.1 (by first|rfl|trivial)
          clear HB4
          obtain⟨s0,s1,s2,s3,s4,s5,s6,s7⟩:=cel8 E5.out.1.sb
          obtain⟨i0,i1,i2,i3⟩:=cel4 E5.out.1.ib
          go_wp2_with fail
          refine(gives_any ⟨.slice r1 nr r3,.slice k1 nk k3,.slice f1 nf f3,.slice t1 nt t3⟩ p ⟨.slice g1 np g3,.slice g4 nl g6,.slice g7 nc g9⟩ f x u4 H.out.1 H.out.2.1.parts.1.1 H.out.2.2.1 (H.out.2.2.2.1.keep (HBW.out u4 E5.out.1.chg) (Nat.le_refl _)) (H.out.2.2.2.2.1.keep (HBW.out u4 E5.out.1.chg) (Nat.le_refl _)) H.out.2.2.2.2.2.1).mono ?_
          rintro e u5 ⟨gt,rfl,hrd,b5⟩
          obtain⟨ga,gc,rfl⟩:=hrd.is_slice
          have E6:Hid (ChAt w u5 ⟨.slice r1 nr r3,.slice k1 nk k3,.slice f1 nf f3,.slice t1 nt t3⟩ ⟨.slice g1 np g3,.slice g4 nl g6,.slice g7 nc g9⟩ f x S V/\Stk u5 S V1 (sh.take (sh.length-tk.length))/\V1.ownBlock=V.ownBlock/\Rd u5 1 (.slice va tk.length vc) tk.length ((sh.drop (sh.length-tk.length)).flatMap intCell)/\Rd u5 1 (.slice ga (givesL p f x).length gc) (givesL p f x).length ((givesL p f x).flatMap intCell)):=⟨E5.out.1.keep b5,E5.out.2.1.keep b5,E5.out.2.2.1,E5.out.2.2.2.keep b5 (Nat.le_refl _),hrd⟩
          clear hrd b5 E5 s0 s1 s2 s3 s4 s5 s6 s7 i0 i1 i2 i3
          clear u4
          have HGL:Hid ((givesL p f x).length<=2):=(gives_ok H.out.2.1 H.out.2.2.2.2.2.1).2
          generalize hgl:(givesL p f x).length=gl at E6⊢
          have HGG:Hid ((givesL p f x).length=gl):=hgl
          clear hgl
          obtain⟨i0,i1,i2,i3⟩:=cel4 E6.out.1.ib
          have HDL:Hid ((sh.drop (sh.length-tk.length)).length=tk.length):=by
            show(sh.drop (sh.length-tk.length)).length=tk.length
            rw[List.length_drop]
            have:=HFT.out.1
            omega
          go_upto_if 41 with fail
          go_cut [10] (fun s wx=>∃a c,∃pl:List Int,s=.slice a pl.length c/\Hid (outI p f x sh=sh.take (sh.length-tk.length)++pl/\pl.length<=1048576/\ChAt w wx ⟨.slice r1 nr r3,.slice k1 nk k3,.slice f1 nf f3,.slice t1 nt t3⟩ ⟨.slice g1 np g3,.slice g4 nl g6,.slice g7 nc g9⟩ f x S V/\Stk wx S V1 (sh.take (sh.length-tk.length))/\Rd wx 1 (.slice a pl.length c) pl.length (pl.flatMap intCell)))
          case first=>
            by_cases h23:x.op=23
            . have h23':(x.op==23)=true:=by simpa using h23
              have H23:Hid (x.op=23):=h23
              clear h23
              have B0:=below_alloc u5 (.cells #[.slice va tk.length vc,.slice va tk.length vc] 48)
              have K0:=Blk.new u5 #[.slice va tk.length vc,.slice va tk.length vc] 48
              go_wp2_with fail
              refine(concat2_any u5.heap.size (.slice va tk.length vc) (.slice va tk.length vc) (sh.drop (sh.length-tk.length)) (sh.drop (sh.length-tk.length)) _ (by rw[HDL.out];exact HTS.out) (by rw[HDL.out];exact HTS.out) (by rw[HDL.out];exact E6.out.2.2.2.1.keep B0 (Nat.le_refl _)) (by rw[HDL.out];exact E6.out.2.2.2.1.keep B0 (Nat.le_refl _)) HPL.out HPL.out (K0.cell 0) (K0.cell 1)).mono ?_
              rintro e u6 ⟨v6,rfl,ho6,b6⟩
              have hl6:(sh.drop (sh.length-tk.length)).length+(sh.drop (sh.length-tk.length)).length=(sh.drop (sh.length-tk.length)++sh.drop (sh.length-tk.length)).length:=by rw[List.length_append]
              rw[hl6]at ho6
              obtain⟨a6,c6,e6⟩:=own_slice ho6
              subst e6
              have B6:=below_on B0 (Nat.le_refl _) b6
              have E7:Hid (outI p f x sh=sh.take (sh.length-tk.length)++(sh.drop (sh.length-tk.length)++sh.drop (sh.length-tk.length))/\(sh.drop (sh.length-tk.length)++sh.drop (sh.length-tk.length)).length<=1048576/\ChAt w u6 ⟨.slice r1 nr r3,.slice k1 nk k3,.slice f1 nf f3,.slice t1 nt t3⟩ ⟨.slice g1 np g3,.slice g4 nl g6,.slice g7 nc g9⟩ f x S V/\Stk u6 S V1 (sh.take (sh.length-tk.length))/\Rd u6 1 (.slice a6 (sh.drop (sh.length-tk.length)++sh.drop (sh.length-tk.length)).length c6) (sh.drop (sh.length-tk.length)++sh.drop (sh.length-tk.length)).length ((sh.drop (sh.length-tk.length)++sh.drop (sh.length-tk.length)).flatMap intCell)):=by
                have hn:x.op≠29:=by have:=H23.out;omega
                have e1:tk.length=1:=by rw[<-HOP.out hn,takesL_23 H23.out];rfl
                refine⟨?_,?_,E6.out.1.keep B6,E6.out.2.1.keep B6,Rd.of_own ho6⟩
                . unfold outI
                  rw[if_neg hn,out_dup H23.out (by have:=HFT.out.1;omega),e1]
                . rw[List.length_append,HDL.out]
                  omega
              clear ho6 b6 B6 B0 K0 hl6 E6
              generalize hpl:sh.drop (sh.length-tk.length)++sh.drop (sh.length-tk.length)=pl at E7⊢
              clear hpl
              go_wp2_with fail
              go_meet
              exact⟨_,_,pl,rfl,E7⟩
            . have h23':(x.op==23)=false:=by simpa using h23
              have H23:Hid (¬x.op=23):=h23
              clear h23
              have E7:Hid (outI p f x sh=sh.take (sh.length-tk.length)++givesL p f x/\(givesL p f x).length<=1048576/\ChAt w u5 ⟨.slice r1 nr r3,.slice k1 nk k3,.slice f1 nf f3,.slice t1 nt t3⟩ ⟨.slice g1 np g3,.slice g4 nl g6,.slice g7 nc g9⟩ f x S V/\Stk u5 S V1 (sh.take (sh.length-tk.length))/\Rd u5 1 (.slice ga (givesL p f x).length gc) (givesL p f x).length ((givesL p f x).flatMap intCell)):=by
                refine⟨?_,by have:=HGL.out;omega,E6.out.1,E6.out.2.1,by rw[HGG.out];exact E6.out.2.2.2.2⟩
                unfold outI
                split
                . rename_i h29
                  have e1:sh=tk:=HB.out h29
                  rw[givesL_29 h29,e1,Nat.sub_self]
                  rfl
                . rename_i h29
                  rw[out_given (gives_nz H.out.2.1 H.out.2.2.2.2.2.1) H23.out]
                  unfold lowT
                  rw[HOP.out h29]
              go_wp2_with fail
              go_meet
              exact⟨_,_,givesL p f x,by rw[HGG.out],E7⟩
          case rest=>
            obtain⟨pa,pc,pl,rfl,E7⟩:=hcut
            clear i0 i1 i2 i3
            have HV1:Hid (V1.ownBlock=V.ownBlock):=E6.out.2.2.1
            clear E6
            obtain⟨W7,hW7⟩:∃W,W=wc:=⟨_,rfl⟩
            subst hW7
            go_wp2_with fail
            refine(pushT_any S V1 (.slice pa pl.length pc) (sh.take (sh.length-tk.length)) pl W7 E7.out.2.2.2.1 E7.out.2.2.2.2 (by rw[List.length_take];have:=H.out.2.2.2.2.2.2.2.2.2;omega) E7.out.2.1).mono ?_
            rintro e u8 ⟨rfl,V',hs8,hc8,hv8⟩
            have E8:Hid (ChAt w u8 ⟨.slice r1 nr r3,.slice k1 nk k3,.slice f1 nf f3,.slice t1 nt t3⟩ ⟨.slice g1 np g3,.slice g4 nl g6,.slice g7 nc g9⟩ f x S V/\Stk u8 S V' (outI p f x sh)/\(V'.ownBlock=V.ownBlock\/∀g,V'.ownBlock=some g->w.heap.size<=g)):=by
              refine⟨E7.out.2.2.1.step hc8 (fun k e _=> ?_) (fun k e e2=> ?_),by rw[E7.out.1];exact hs8,?_⟩
              . rcases e with e|e
                . exact .inl e
                . exact .inr (by rw[<-HV1.out];exact e)
              . rcases e with e|e
                . omega
                . have:=(H.out.2.2.2.2.2.2.2.2.1.lt k (by rw[<-HV1.out];exact e)).2
                  omega
              . rcases hv8 with e|e
                . exact .inl (e.trans HV1.out)
                . exact .inr fun g hg=>Nat.le_trans E7.out.2.2.1.chg.size (e g hg)
            clear hs8 hc8 hv8 E7
            clear W7
            go_wp2_with fail
            refine(height_any S V' (outI p f x sh) u8 E8.out.2.1).mono ?_
            rintro e u9 ⟨rfl,rfl⟩
            have HOL:Hid (x.op=29->outI p f x sh=[]):=fun e=>by unfold outI;rw[if_pos e]
            by_cases h64:64<(outI p f x sh).length
            . have HC:Hid (codeI p f x sh=3):=by
                have hn:x.op≠29:=fun e=>by rw[HOL.out e]at h64;simp at h64
                have e1:outI p f x sh=outT p f x sh:=by unfold outI;rw[if_neg hn]
                rw[e1]at h64
                show codeI p f x sh=3
                unfold codeI
                rw[if_neg hn]
                exact codeT_full (by rw[HOP.out hn];exact HFT.out.1) (by unfold lowT;rw[HOP.out hn];exact HFT.out.2) HG.out h64
              have h64':(64:Int)<((outI p f x sh).length:Int):=by omega
              clear h64
              go_wp2_with fail
              go_ret
              exact⟨by rw[HC.out];rfl,E8.out.1.chg,fun e=>absurd (HC.out.symm.trans e) (by decide)⟩
            . have HC:Hid (codeI p f x sh=0):=by
                show codeI p f x sh=0
                unfold codeI
                split
                . rename_i h29
                  rw[if_pos]
                  rw[HB.out h29,<-HTK.out,takesI_29 h29]
                . rename_i hn
                  have e1:outI p f x sh=outT p f x sh:=by unfold outI;rw[if_neg hn]
                  rw[e1]at h64
                  exact codeT_free (by rw[HOP.out hn];exact HFT.out.1) (by unfold lowT;rw[HOP.out hn];exact HFT.out.2) HG.out h64
              have h64':¬(64:Int)<((outI p f x sh).length:Int):=by omega
              clear h64
              go_wp2_with fail
              go_ret
              exact⟨by rw[HC.out];rfl,E8.out.1.chg,fun _=>⟨V',E8.out.2.1,E8.out.2.2⟩⟩
end Go.Proofs.YtdfmdgbolmbffaaGreat
