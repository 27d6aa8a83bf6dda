import Derived.Test.YtlejplpkomddeaaGreatG0
import Derived.Test.YtlejplpkomddeaaGreatG17
import Derived.Test.YtlejplpkomddeaaGreatG23
import Derived.Test.YtlejplpkomddeaaGreatG9
import Derived.Test.YtlejplpkomddeaaGreatG20
import Derived.Test.YtlejplpkomddeaaGreatG15
import Derived.Test.YtlejplpkomddeaaGreatG4
import Derived.Test.YtlejplpkomddeaaGreatG18
import Derived.Test.YtlejplpkomddeaaGreatG5
import Derived.Deep.DeepCutAuto
import Derived.Deep.RegionHeldLaw
import Derived.Deep.RegionLaw
namespace Go.Proofs.YtlejplpkomddeaaGreat
open Go.ChangeShapes Go.WideShapes Go.ChangeAt Go.RowKit
set_option linter.unusedVariables false
set_option maxHeartbeats 8000000
set_option maxRecDepth 100000
theorem Hi(v:VP)(p:MP)(x:VS)(s:MS)(w:World)(hps:p.small)(hP:Cx w v p)(hfp:EI w v.f p.funcs)(hok:Be p 0)(ss:s.small)(sw:∀f∈s.frames,∀z∈f.locals,0<=z.word)(hS:Fc w x s):
  Calls Tryz.prog 94 #[.agg #[v.r,v.k,v.f,v.t],.agg #[.int .i64 s.trap,.bool s.done,.int .i64 s.cost,.int .i64 s.steps,x.c,x.k,x.f]] w fun e w'=>Ao e (s.frames≠[]/\s.frames.length<=32/\BD p s.stack.length 0 s.frames)/\Below w.heap.size w w':=by
 obtain⟨r1,r3,er⟩:=(show∃a c,v.r=.slice a p.regions.length c from by obtain⟨_,_,h2,_⟩:=hP.regions;exact h2.is_slice)
 obtain⟨k1,k3,ek⟩:=hP.consts.is_slice
 obtain⟨t1,t3,et⟩:=hP.certs.is_slice
 obtain⟨ys,hy1,hy2,hy3⟩:=hfp
 obtain⟨f1,f3,ef⟩:=hy2.is_slice
 obtain⟨a1,c1,e1⟩:=(show∃a c,x.c=.slice a s.cells.length c from by obtain⟨_,_,h2,_⟩:=hS.cells;exact h2.is_slice)
 obtain⟨a2,c2,e2⟩:=hS.stack.is_slice
 obtain⟨xs,hx1,hx2,hx3⟩:=hS.frames
 obtain⟨a3,c3,e3⟩:=hx2.is_slice
 obtain⟨vr,vk,vf,vt⟩:=v
 obtain⟨xc,xk,xf⟩:=x
 simp only[]at er ek et ef e1 e2 e3 hy2 hx2
 subst er ek et ef e1 e2 e3
 have HF:=h3 hx1 hx2 hx3
 have HY:=h3 hy1 hy2 hy3
 have HOK:Hid (Be p 0):=hok
 clear hok
 have H:=h3 hps ss sw
 have hfl:=ss.frames
 have hsl:=ss.stack
 have hpf:=hps.funcs
 have E0:Hid (Ep w ((w.alloc (.cells #[.slice r1 p.regions.length r3,.slice k1 p.consts.length k3,.slice f1 p.funcs.length f3,.slice t1 p.certs.length t3] 45)).alloc (.cells #[.int .i64 s.trap,.bool s.done,.int .i64 s.cost,.int .i64 s.steps,.slice a1 s.cells.length c1,.slice a2 s.stack.length c2,.slice a3 s.frames.length c3] 39)) _ s _):=Ep.of w ⟨.slice r1 p.regions.length r3,.slice k1 p.consts.length k3,.slice f1 p.funcs.length f3,.slice t1 p.certs.length t3⟩ s ⟨.slice a1 s.cells.length c1,.slice a2 s.stack.length c2,.slice a3 s.frames.length c3⟩
 clear hP hps ss sw hS hx1 hx2 hx3 hy1 hy2 hy3
 go_enter Tryz.func94,Tryz.ntmps94
 go_upto_region 1 with fail
 refine Ag (fun u=>Hid (Ep w u _ s _)) E0 ?_
 rintro U E1
 clear E0
 have m6:=E1.out.sb.cell 6
 simp only[gA,gZ,gS]at m6
 by_cases h0:s.frames.length=0
 ·have h0b:((s.frames.length:Int)==0)=true:=by rw[beq_iff_eq];omega
  have HN:Hid (¬(s.frames≠[]/\s.frames.length<=32/\BD p s.stack.length 0 s.frames)):=fun e=>e.1 (List.eq_nil_of_length_eq_zero h0)
  clear h0
  go_wp2_with fail
  go_ret
  exact⟨.no HN.out,E1.out.bel⟩
 have h0b:((s.frames.length:Int)==0)=false:=by rw[beq_eq_false_iff_ne];omega
 by_cases h32:32<s.frames.length
 ·have h32b:decide ((32:Int)<(s.frames.length:Int))=true:=decide_eq_true (by omega)
  have HN:Hid (¬(s.frames≠[]/\s.frames.length<=32/\BD p s.stack.length 0 s.frames)):=fun e=>by have:=e.2.1;omega
  clear h32
  go_wp2_with fail
  go_ret
  exact⟨.no HN.out,E1.out.bel⟩
 have h32b:decide ((32:Int)<(s.frames.length:Int))=false:=decide_eq_false (by omega)
 have HQ:Hid ((s.frames≠[]/\s.frames.length<=32/\BD p s.stack.length 0 s.frames)↔BD p s.stack.length 0 s.frames):=⟨fun e=>e.2.2,fun e=>⟨fun h=>h0 (by rw[h];rfl),by omega,e⟩⟩
 go_upto_region 4 with fail
 go_wp2_with fail
 go_loopw [5,21] (fun l i wr=>∃(k:Nat) (bs:Int),k<=s.frames.length/\l=.int .i64 bs/\i=.int .i64 k/\Hid ((s.frames≠[]/\s.frames.length<=32/\BD p s.stack.length 0 s.frames)↔BD p s.stack.length bs (s.frames.drop k))/\Hid (Ep w wr ⟨.slice r1 p.regions.length r3,.slice k1 p.consts.length k3,.slice f1 p.funcs.length f3,.slice t1 p.certs.length t3⟩ s ⟨.slice a1 s.cells.length c1,.slice a2 s.stack.length c2,.slice a3 s.frames.length c3⟩)) (fun _ i _=>s.frames.length-(intOf i).toNat)
 case atStart=>exact⟨0,0,by omega,rfl,rfl,by rw[List.drop_zero];exact HQ,E1⟩
 case round=>
  clear E1 m6
  obtain⟨k,bs,hk,rfl,rfl,HB,HI⟩:=hrel
  by_cases hlt:k<s.frames.length
  ·obtain⟨⟨fg,yv⟩,hx⟩:∃x,xs[k]?=some x:=⟨_,gE (by rw[<-List.length_map (f:=Prod.fst),HF.out.1];exact hlt)⟩
   have hfx:=AO HF.out.1 hx
   have hrx:=HF.out.2.2 _ (mG hx)
   simp only[]at hrx hfx
   unfold Ju at hrx
   obtain⟨bf,df,rfl⟩:∃a c,yv=.slice a fg.locals.length c:=hrx.is_slice
   rcases HF.out.2.1.2 with⟨e0,_⟩|⟨gx,ox,cx,ex,hcx⟩
   ·omega
   simp only[sJ,true_and]at ex
   obtain⟨rfl,hxx⟩:=ex
   clear hxx
   have i1:=Ab HI.out.bel (Rd.elem Al hcx k _ hx 0 _ rfl)
   have i2:=Ab HI.out.bel (Rd.elem Al hcx k _ hx 1 _ rfl)
   have i3:=Ab HI.out.bel (Rd.elem Al hcx k _ hx 2 _ rfl)
   have i4:=Ab HI.out.bel (Rd.elem Al hcx k _ hx 3 _ rfl)
   simp only[Nat.add_zero]at i1 i2 i3 i4
   have hkI:(k:Int)<(s.frames.length:Int):=by omega
   have HD:=h2 hfx hrx
   have EN:Hid (Ep w (wr.alloc (.cells #[.int .i64 fg.func,.int .i64 fg.at_,.int .i64 fg.base,.slice bf fg.locals.length df] 123)) _ s _/\Aq (wr.alloc (.cells #[.int .i64 fg.func,.int .i64 fg.at_,.int .i64 fg.base,.slice bf fg.locals.length df] 123)) wr.heap.size _ _):=⟨HI.out.keep (Aa _ _),Aq.new _ _ _⟩
   clear hcx hx hfx hrx
   go_upto_region 7 with fail
   generalize wr.heap.size=Y at EN⊢
   refine Ag (fun u=>Hid (Ep w u _ s _/\Aq u Y _ _)) EN ?_
   rintro V E2
   clear EN i1 i2 i3 i4
   have y0:=E2.out.2.cell 0
   have y2:=E2.out.2.cell 2
   have y3:=E2.out.2.cell 3
   have m2:=E2.out.1.pb.cell 2
   simp only[gA,gZ,gS]at y0 y2 y3 m2
   go_cut [44] (fun sv wx=>∃bb:Bool,sv=.bool bb/\Hid (bb=true↔¬(0<=fg.func/\∃f,p.funcs[fg.func.toNat]?=some f/\Cu fg.locals (f.params++f.locals)))/\Hid (Ep w wx ⟨.slice r1 p.regions.length r3,.slice k1 p.consts.length k3,.slice f1 p.funcs.length f3,.slice t1 p.certs.length t3⟩ s ⟨.slice a1 s.cells.length c1,.slice a2 s.stack.length c2,.slice (some ⟨gx,ox,none⟩) s.frames.length c3⟩/\Aq wx Y #[.int .i64 fg.func,.int .i64 fg.at_,.int .i64 fg.base,.slice bf fg.locals.length df] 123))
   case first=>
    by_cases hin:0<=fg.func/\fg.func<(p.funcs.length:Int)
    ·obtain⟨q,hq⟩:=Int.eq_ofNat_of_zero_le hin.1
     have hdi:decide (0<=fg.func/\fg.func<(p.funcs.length:Int))=true:=decide_eq_true hin
     have hql:q<p.funcs.length:=by omega
     obtain⟨⟨fq,gq⟩,hyq⟩:∃x,ys[q]?=some x:=⟨_,gE (by rw[<-List.length_map (f:=Prod.fst),HY.out.1];exact hql)⟩
     have hfq:=AO HY.out.1 hyq
     have hrq:=HY.out.2.2 _ (mG hyq)
     simp only[]at hfq hrq
     rcases HY.out.2.1.2 with⟨e0,_⟩|⟨gy,oy,cy,ey,hcy⟩
     ·omega
     simp only[sJ,true_and]at ey
     obtain⟨rfl,hxx⟩:=ey
     clear hxx
     have j0:=Ab E2.out.1.bel (Rd.elem Ah hcy q _ hyq 0 _ rfl)
     have j1:=Ab E2.out.1.bel (Rd.elem Ah hcy q _ hyq 1 _ rfl)
     have j2:=Ab E2.out.1.bel (Rd.elem Ah hcy q _ hyq 2 _ rfl)
     have j3:=Ab E2.out.1.bel (Rd.elem Ah hcy q _ hyq 3 _ rfl)
     obtain⟨pa,pc,ep⟩:=hrq.1.1.is_slice
     obtain⟨la,lc,el⟩:=hrq.1.2.1.is_slice
     obtain⟨qa,qc,eq⟩:=hrq.1.2.2.is_slice
     obtain⟨gp,gl,gc⟩:=gq
     simp only[]at ep el eq j0 j1 j2 j3
     subst ep el eq
     simp only[Nat.add_zero]at j0
     have HQ2:=h5 hfq hrq.1 hrq.2.1 hrq.2.2 hq
     have hqI:(q:Int)<(p.funcs.length:Int):=by omega
     rw[hq]at y0 hdi
     have bD:=Ad V
     have KD:V.drew.cell? ⟨Y,0,none⟩=some (.int .i64 (q:Int))/\V.drew.cell? ⟨Y,3,none⟩=some (.slice bf fg.locals.length df)/\V.drew.cell? ⟨w.heap.size,2,none⟩=some (.slice (some ⟨gy,oy,none⟩) p.funcs.length f3)/\V.drew.cell? ⟨gy,oy+q*4,none⟩=some (.slice pa fq.params.length pc)/\V.drew.cell? ⟨gy,oy+q*4+1,none⟩=some (.int .i64 fq.result)/\V.drew.cell? ⟨gy,oy+q*4+2,none⟩=some (.slice la fq.locals.length lc)/\V.drew.cell? ⟨gy,oy+q*4+3,none⟩=some (.slice qa fq.code.length qc):=⟨Ab bD y0,Ab bD y3,Ab bD m2,Ab bD j0,Ab bD j1,Ab bD j2,Ab bD j3⟩
     clear hcy hyq hfq hrq j0 j1 j2 j3 y0 y2 y3 m2 hin hq
     go_region_held_law (fun w'=>w'.cell? ⟨Y,0,none⟩=some (.int .i64 (q:Int))/\w'.cell? ⟨Y,3,none⟩=some (.slice bf fg.locals.length df)/\w'.cell? ⟨w.heap.size,2,none⟩=some (.slice (some ⟨gy,oy,none⟩) p.funcs.length f3)/\w'.cell? ⟨gy,oy+q*4,none⟩=some (.slice pa fq.params.length pc)/\w'.cell? ⟨gy,oy+q*4+1,none⟩=some (.int .i64 fq.result)/\w'.cell? ⟨gy,oy+q*4+2,none⟩=some (.slice la fq.locals.length lc)/\w'.cell? ⟨gy,oy+q*4+3,none⟩=some (.slice qa fq.code.length qc)) (first|exact KD|exact KW|exact KZ|go_keep) (first
      |(go_simp;go_at_call 99;refine(AJ (q:Int) (p.funcs.length:Int) _).mono ?_;rintro e u1 ⟨rfl,rfl⟩;rw[hdi])
      |(go_simp;go_at_call 96;refine(Eu ⟨.slice pa fq.params.length pc,.slice la fq.locals.length lc,.slice qa fq.code.length qc⟩ fq _ (H.out.1.func fq (mG HQ2.out.1)) (HQ2.out.2.1.keep (Ac E2.out.1.bel lR bD) lR) HQ2.out.2.2.1 HQ2.out.2.2.2.1).mono ?_;rintro e u1 ⟨lv,rfl,ownl,b1⟩;obtain⟨l1,l2,rfl⟩:=An ownl;have HL:Hid (u1.ownsRow V.heap.size 2 1 (.slice l1 (fq.params.length+fq.locals.length) l2) (fq.params.length+fq.locals.length) ((fq.params++fq.locals).flatMap Af)/\Below V.heap.size V u1):=⟨AA ownl bD.size,Ar b1 lR⟩;have KW:u1.cell? ⟨Y,0,none⟩=some (.int .i64 (q:Int))/\u1.cell? ⟨Y,3,none⟩=some (.slice bf fg.locals.length df)/\u1.cell? ⟨w.heap.size,2,none⟩=some (.slice (some ⟨gy,oy,none⟩) p.funcs.length f3)/\u1.cell? ⟨gy,oy+q*4,none⟩=some (.slice pa fq.params.length pc)/\u1.cell? ⟨gy,oy+q*4+1,none⟩=some (.int .i64 fq.result)/\u1.cell? ⟨gy,oy+q*4+2,none⟩=some (.slice la fq.locals.length lc)/\u1.cell? ⟨gy,oy+q*4+3,none⟩=some (.slice qa fq.code.length qc):=⟨Ab b1 KD.1,Ab b1 KD.2.1,Ab b1 KD.2.2.1,Ab b1 KD.2.2.2.1,Ab b1 KD.2.2.2.2.1,Ab b1 KD.2.2.2.2.2.1,Ab b1 KD.2.2.2.2.2.2⟩;clear ownl b1)
      |(go_simp;go_at_call 92;refine(Fd (.slice bf fg.locals.length df) (.slice l1 (fq.params.length+fq.locals.length) l2) fg.locals (fq.params++fq.locals) _ (H.out.2.1.frame fg (mG HD.out.1)) (by rw[List.length_append];have h1:=(HOK.out.parts.2.2.1.2.2.1 q (gI.1 HQ2.out.1).1 fq HQ2.out.1).loc;omega) (H.out.2.2 fg (mG HD.out.1)) (HD.out.2.keep (Ac E2.out.1.bel lR HL.out.2) lR) (by rw[List.length_append];exact Rd.of_own HL.out.1)).mono ?_;rintro e u2 ⟨⟨bv,rfl,hbv⟩,b2⟩;have KZ:u2.cell? ⟨Y,0,none⟩=some (.int .i64 (q:Int))/\u2.cell? ⟨Y,3,none⟩=some (.slice bf fg.locals.length df)/\u2.cell? ⟨w.heap.size,2,none⟩=some (.slice (some ⟨gy,oy,none⟩) p.funcs.length f3)/\u2.cell? ⟨gy,oy+q*4,none⟩=some (.slice pa fq.params.length pc)/\u2.cell? ⟨gy,oy+q*4+1,none⟩=some (.int .i64 fq.result)/\u2.cell? ⟨gy,oy+q*4+2,none⟩=some (.slice la fq.locals.length lc)/\u2.cell? ⟨gy,oy+q*4+3,none⟩=some (.slice qa fq.code.length qc):=⟨Ab b2 KW.1,Ab b2 KW.2.1,Ab b2 KW.2.2.1,Ab b2 KW.2.2.2.1,Ab b2 KW.2.2.2.2.1,Ab b2 KW.2.2.2.2.2.1,Ab b2 KW.2.2.2.2.2.2⟩;have HV:Hid ((bv=true↔Cw Gz fg.locals (fq.params++fq.locals))/\Below V.heap.size V u2):=⟨hbv,Ac HL.out.2 lR b2⟩;clear hbv b2))
     all_goals
      cases bv
      ·go_wp2_with fail
       go_meet
       have HNO:Hid (¬(0<=fg.func/\∃f,p.funcs[fg.func.toNat]?=some f/\Cu fg.locals (f.params++f.locals))):=fun e=>by
        obtain⟨_,f',hf',hv'⟩:=e
        rw[HQ2.out.2.2.2.2,Int.toNat_natCast,HQ2.out.1]at hf'
        obtain rfl:=Option.some.inj hf'
        exact absurd (HV.out.1.2 ((D9 _ _).2 hv')) (by simp)
       exact⟨true,rfl,⟨fun _=>HNO.out,fun _=>rfl⟩,E2.out.1.keep HV.out.2,E2.out.2.keep HV.out.2⟩
      ·go_wp2_with fail
       go_meet
       exact⟨false,rfl,⟨fun e=>(by cases e),fun e=>absurd ⟨by rw[HQ2.out.2.2.2.2];omega,fq,by rw[HQ2.out.2.2.2.2,Int.toNat_natCast];exact HQ2.out.1,(D9 _ _).1 (HV.out.1.1 (by simp))⟩ e⟩,E2.out.1.keep HV.out.2,E2.out.2.keep HV.out.2⟩
    ·have hdi:decide (0<=fg.func/\fg.func<(p.funcs.length:Int))=false:=decide_eq_false hin
     have HIN:=AM hin
     clear hin
     have inst:=Ae.some V
     have J0:=fun n:Ae V=>Ae.cell y0 n
     have J1:=fun n:Ae V=>Ae.cell m2 n
     go_wp2_with fail
     refine Ak (by kernel_rfl) (by kernel_rfl) ?_
     repeat(go_big_quiet_step ((go_at_call 99;rename_i n';exact(AJ fg.func (p.funcs.length:Int) n'.u).mono fun e w'' h=>⟨by rw[h.1,hdi],⟨n',h.2⟩⟩)))
     refine wpQuiet_nil ?_
     rintro w'' ⟨n',rfl⟩
     go_wp2_with fail
     go_meet
     have HNO:Hid (¬(0<=fg.func/\∃f,p.funcs[fg.func.toNat]?=some f/\Cu fg.locals (f.params++f.locals))):=fun e=>by
      obtain⟨h1,f',hf',_⟩:=e
      have:=(gI.1 hf').1
      exact HIN.out ⟨h1,by omega⟩
     exact⟨true,rfl,⟨fun _=>HNO.out,fun _=>rfl⟩,E2.out.1.keep n'.h,E2.out.2.keep n'.h⟩
   case rest=>
    obtain⟨bb,rfl,HBB,E3⟩:=hcut
    clear E2 y0 y2 y3 m2
    have HFR:=BD.drop (p:=p) (n:=s.stack.length) (b:=bs) HD.out.1
    have HFR2:=AM (HB.out.trans HFR)
    clear HFR HB
    rcases Bool.eq_false_or_eq_true bb with hbb|hbb
    ·subst hbb
     have HN:Hid (¬(s.frames≠[]/\s.frames.length<=32/\BD p s.stack.length 0 s.frames)):=fun e=>HBB.out.1 rfl ⟨(HFR2.out.1 e).1.lo,(HFR2.out.1 e).1.locals⟩
     go_wp2_with fail
     go_ret
     exact⟨.no HN.out,E3.out.1.bel⟩
    subst hbb
    have HLO:Hid (0<=fg.func/\∃f,p.funcs[fg.func.toNat]?=some f/\Cu fg.locals (f.params++f.locals)):=Classical.byContradiction fun e=>by have:=HBB.out.2 e;cases this
    have y2:=E3.out.2.cell 2
    have m5:=E3.out.1.sb.cell 5
    simp only[gA,gZ,gS]at y2 m5
    by_cases hb1:fg.base<bs
    ·have hb1b:decide (fg.base<bs)=true:=decide_eq_true hb1
     have HN:Hid (¬(s.frames≠[]/\s.frames.length<=32/\BD p s.stack.length 0 s.frames)):=fun e=>by have:=(HFR2.out.1 e).2.1;omega
     clear hb1
     go_wp2_with fail
     go_ret
     exact⟨.no HN.out,E3.out.1.bel⟩
    have hb1b:decide (fg.base<bs)=false:=decide_eq_false hb1
    by_cases hb2:(s.stack.length:Int)<fg.base
    ·have hb2b:decide ((s.stack.length:Int)<fg.base)=true:=decide_eq_true hb2
     have HN:Hid (¬(s.frames≠[]/\s.frames.length<=32/\BD p s.stack.length 0 s.frames)):=fun e=>by have:=(HFR2.out.1 e).1.base;omega
     clear hb2 hb1
     go_wp2_with fail
     go_ret
     exact⟨.no HN.out,E3.out.1.bel⟩
    have hb2b:decide ((s.stack.length:Int)<fg.base)=false:=decide_eq_false hb2
    have HNX:Hid ((s.frames≠[]/\s.frames.length<=32/\BD p s.stack.length 0 s.frames)↔BD p s.stack.length fg.base (s.frames.drop (k+1))):=HFR2.out.trans ⟨fun e=>e.2.2,fun e=>⟨⟨HLO.out.1,HLO.out.2,by omega⟩,by omega,e⟩⟩
    clear hb1 hb2 HFR2
    go_wp2
    go_roundw
    case rel=>exact⟨k+1,fg.base,by omega,rfl,by go_num,HNX,E3.out.1⟩
    case measure=>simp[intOf];omega
  ·have hkn:k=s.frames.length:=by omega
   have HY1:Hid (s.frames≠[]/\s.frames.length<=32/\BD p s.stack.length 0 s.frames):=HB.out.2 (BD.end (by omega))
   clear hkn
   go_wp2_with fail
   go_ret
   exact⟨.yes HY1.out,HI.out.bel⟩
end Go.Proofs.YtlejplpkomddeaaGreat
