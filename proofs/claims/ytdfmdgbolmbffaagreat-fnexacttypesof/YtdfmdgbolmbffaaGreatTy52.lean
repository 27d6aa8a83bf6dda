import Derived.Test.YtdfmdgbolmbffaaGreatTy46
import Derived.Test.YtdfmdgbolmbffaaGreatTy51
namespace Go.Proofs.YtdfmdgbolmbffaaGreat
open Go.ChangeShapes Go.WideShapes Go.ChangeAt Go.RowKit
set_option linter.unusedVariables false
theorem FlowOk.free{xs:List MI}{r:MFl}(h:FlowOk xs r)(h0:r.code=0):CodeGood xs/\∃x,xs[xs.length-1]?=some x/\onB x=false:=by
  cases h with
  |good g x1 o1=>exact⟨g,_,x1,o1⟩
  |_=>simp[noFl]at h0
theorem scIn_of{w:World}{v:VP}{p:MP}{fi:Nat}{f:MF}{g:VF}{r:MFl}(hs:p.small)(hp:FaultIs p 0)(h:RdP w v p)(hf:p.funcs[fi]?=some f)(hg:RdF w g f)(hfl:FlowOk f.code r)(h0:r.code=0):ScIn w v p g f:=by
  obtain⟨hg1,x1,hx1,ho1⟩:=hfl.free h0
  refine⟨hs,hp,hs.func f (List.mem_of_getElem? hf),h,hg,hg1.1,hg1.2.1,hg1.2.2,fun x hx=> ?_,fun k x hx ho=> ?_⟩
  . obtain⟨k,hk⟩:=List.getElem?_of_mem hx
    exact hp.instr hf hk
  . have hlt:=(List.getElem?_eq_some_iff.1 hx).1
    refine Classical.byContradiction fun e=> ?_
    have hk:k=f.code.length-1:=by omega
    rw[hk,hx1]at hx
    obtain rfl:=Option.some.inj hx
    rw[ho]at ho1
    cases ho1
end Go.Proofs.YtdfmdgbolmbffaaGreat
namespace Go.Proofs.YtdfmdgbolmbffaaGreat
open Go.ChangeShapes Go.WideShapes Go.ChangeAt Go.RowKit
set_option linter.unusedVariables false
theorem lrows_memW{ys:List (ML×Value×Value)}{y:ML×Value×Value}(h:y∈ys):(y.2.1,y.1.back)∈lrows ys/\(y.2.2,y.1.blocks)∈lrows ys:=⟨List.mem_flatMap.2 ⟨y,h,by simp⟩,List.mem_flatMap.2 ⟨y,h,by simp⟩⟩
theorem OwFl.rdW{w:World}{base:Nat}{vb vo vi vl:Value}{F:List (MB×Value)}{ys:List (ML×Value×Value)}{r:MFl}(h:OwFl w base vb vo vi vl F ys r):RdFl w vb vo vi vl r:=by
  have hbl:F.length=r.blocks.length:=by rw[<-h.eb,List.length_map]
  have hll:ys.length=r.loops.length:=by rw[<-h.el,List.length_map]
  refine⟨⟨F,h.eb,?_,fun x hx=> ?_⟩,Rd.of_own (h.fam.own (vo,r.order) (by simp)),Rd.of_own (h.fam.own (vi,r.idom) (by simp)),⟨ys,h.el,?_,fun y hy=> ?_⟩⟩
  . rw[<-hbl]
    exact Rd.of_own h.brow
  . exact Rd.of_own (h.fam.own (x.2,x.1.next) (by
      refine List.mem_append.2 (.inl ?_)
      unfold nrows
      exact List.mem_map_of_mem (f:=fun x=>(x.2,x.1.next)) hx))
  . rw[<-hll]
    exact Rd.of_own h.lrow
  . have:=lrows_memW hy
    exact⟨Rd.of_own (h.fam.own (y.2.1,y.1.back) (List.mem_append.2 (.inr (by simp[this.1])))),Rd.of_own (h.fam.own (y.2.2,y.1.blocks) (List.mem_append.2 (.inr (by simp[this.2]))))⟩
theorem OwTy.set{w:World}{base:Nat}{s:Value}{F:List (List Int×Value)}(h:OwTy w base s F){a:Addr}(ha:a.block<base)(x:Value):OwTy (w.setCell a x) base s F:=⟨ownsRow_setCell_below h.row ha x,⟨fun y hy=>ownsRow_setCell_below (h.fam.own y hy) ha x,h.fam.sep⟩⟩
theorem OwTy.low{w:World}{base b:Nat}{s:Value}{F:List (List Int×Value)}(h:OwTy w base s F)(hb:b<=base):OwTy w b s F:=⟨own_base h.row hb,⟨fun y hy=>own_base (h.fam.own y hy) hb,h.fam.sep⟩⟩
set_option maxHeartbeats 8000000 in
set_option maxRecDepth 100000 in
theorem implTypes_any(v:VP)(p:MP)(fi:Int)(w:World)(hs:p.small)(hw:p.wf)(h:RdP w v p)(hcap:RdRc w v.r p.regions)(hfp:RdFp w v.f p.funcs):
    Calls Tryz.prog 9 #[.agg #[v.r,v.k,v.f,v.t],.int .i64 fi] w fun e w'=>∃y,TyIs p fi y/\TyO w y e w':=by
  have H:Hid (p.small/\p.wf/\RdP w v p/\RdRc w v.r p.regions/\RdFp w v.f p.funcs):=⟨hs,hw,h,hcap,hfp⟩
  obtain⟨r1,r3,k1,k3,t1,t3,f1,f3,rfl⟩:=h.sl
  clear hs hw h hcap hfp
  have E0:=two_new w #[.slice r1 p.regions.length r3,.slice k1 p.consts.length k3,.slice f1 p.funcs.length f3,.slice t1 p.certs.length t3] #[.int .i64 0,.int .i64 0,.int .i64 0,.slice none 0 0] 36 30
  go_enter Tryz.func9,Tryz.ntmps9
  go_upto_region 1 with fail
  refine wp_world (fun u=>Hid (Blk u w.heap.size #[.slice r1 p.regions.length r3,.slice k1 p.consts.length k3,.slice f1 p.funcs.length f3,.slice t1 p.certs.length t3] 36/\Blk u (w.heap.size+1) #[.int .i64 0,.int .i64 0,.int .i64 0,.slice none 0 0] 30/\Below w.heap.size w u)) E0 ?_
  rintro U E1
  clear E0
  obtain⟨p0,p1,p2,p3⟩:=cel4 E1.out.1
  go_wp2_with fail
  refine(flowOfFunc_any ⟨.slice r1 p.regions.length r3,.slice k1 p.consts.length k3,.slice f1 p.funcs.length f3,.slice t1 p.certs.length t3⟩ p fi U H.out.1 H.out.2.1 (H.out.2.2.1.keep E1.out.2.2 (Nat.le_refl _)) (H.out.2.2.2.1.keep E1.out.2.2 (Nat.le_refl _)) (H.out.2.2.2.2.keep E1.out.2.2 (Nat.le_refl _))).mono ?_
  rintro e u1 ⟨c,a,v1,n1,c1,v2,n2,c2,v3,n3,c3,v4,n4,c4,bb,rfl,hbb,hfr,b1⟩
  have HBB:Hid ((bb=true↔FlowP p fi)/\(bb=true->∃f r,p.funcs[fi.toNat]?=some f/\FlowOk f.code r/\r.code=0/\RdFl u1 (.slice v1 n1 c1) (.slice v2 n2 c2) (.slice v3 n3 c3) (.slice v4 n4 c4) r)):=⟨hbb,fun e=>by obtain⟨f,r,F,ys,h1,h2,h3,_,h5⟩:=hfr e;exact⟨f,r,h1,h2,h3,h5.rdW⟩⟩
  have E2:Hid ((Blk u1 w.heap.size #[.slice r1 p.regions.length r3,.slice k1 p.consts.length k3,.slice f1 p.funcs.length f3,.slice t1 p.certs.length t3] 36/\Blk u1 (w.heap.size+1) #[.int .i64 0,.int .i64 0,.int .i64 0,.slice none 0 0] 30/\Below w.heap.size w u1)):=⟨E1.out.1.keep b1,E1.out.2.1.keep b1,below_on E1.out.2.2 (Nat.le_refl _) b1⟩
  clear hbb hfr b1 E1 p0 p1 p2 p3
  go_upto_region 2 with fail
  refine wp_world (fun u=>Hid ((Blk u w.heap.size #[.slice r1 p.regions.length r3,.slice k1 p.consts.length k3,.slice f1 p.funcs.length f3,.slice t1 p.certs.length t3] 36/\Blk u (w.heap.size+1) #[.int .i64 0,.int .i64 0,.int .i64 0,.slice none 0 0] 30/\Below w.heap.size w u)/\Blk u u1.heap.size #[.int .i64 c,.int .i64 a,.slice v1 n1 c1,.slice v2 n2 c2,.slice v3 n3 c3,.slice v4 n4 c4] 67/\Below u1.heap.size u1 u)) ⟨⟨E2.out.1.keep (below_alloc _ _),E2.out.2.1.keep (below_alloc _ _),below_on E2.out.2.2 (Nat.le_refl _) (below_alloc _ _)⟩,Blk.new _ _ _,below_alloc _ _⟩ ?_
  rintro U2 E3
  have hY:w.heap.size+1<u1.heap.size:=E2.out.2.1.lt
  cases bb
  case false=>
    have HN:Hid (TyIs p fi ⟨6,0,0,[]⟩):=.inl ⟨fun e=>(by have:=HBB.out.1.2 e;cases this),rfl⟩
    obtain⟨q0,q1,q2,q3⟩:=cel4 E3.out.1.2.1
    obtain⟨fz0,fz1,fz2,fz3⟩:=frz4 E3.out.1.2.1
    go_wp2_with fail
    have G:Hid _:=(((E3.out.1.2.1.set 0 (.int .i64 (6))).set 1 (.int .i64 (0))).set 2 (.int .i64 (0))).set 3 (.slice none 0 0)
    simp only[List.setIfInBounds_toArray,List.set_cons_zero,List.set_cons_succ]at G
    clear q0 q1 q2 q3
    obtain⟨q0,q1,q2,q3⟩:=cel4 G.out
    refine bodyPost_ret (v:=.agg #[.int .i64 (6),.int .i64 (0),.int .i64 (0),.slice none 0 0]) (by simp[results,Tryz.results9,go_sem,q0,q1,q2,q3]) rfl ?_
    have hbl0:=E3.out.1.2.2
    exact⟨_,HN.out,.slice none 0 0,[],rfl,owTy_nil _ _,rfl,by simp,fun x hx=>(by cases hx),((((hbl0.setCell (by simp only[];omega) _).setCell (by simp only[];omega) _).setCell (by simp only[];omega) _).setCell (by simp only[];omega) _)⟩
  case true=>
    have HFP:Hid (FlowP p fi):=HBB.out.1.1 (by first|rfl|trivial)
    obtain⟨f,r,hf,hfl,hr0,hrd⟩:=HBB.out.2 (by first|rfl|trivial)
    have HTY:Hid (TyIs p fi (tyOf f.code.length (runO p f r.blocks (r.order.map Int.toNat) ws0))):=.inr ⟨HFP.out.1,HFP.out.2.1,f,r,hf,hfl,hr0,rfl⟩
    obtain⟨q,rfl⟩:=Int.eq_ofNat_of_zero_le HFP.out.2.1
    rw[Int.toNat_natCast]at hf
    obtain⟨gk,ok,ck,efn,g,hrf,m0,m1,m2,m3⟩:=fn_at H.out.2.2.1.funcs hf
    simp only[Value.slice.injEq,true_and]at efn
    obtain⟨rfl,rfl⟩:=efn
    obtain⟨g1,g3,g4,g6,g7,g9,rfl⟩:=rdF_sl hrf
    have hqL:(q:Int)<(p.funcs.length:Int):=by have:=(List.getElem?_eq_some_iff.1 hf).1;omega
    have HF:Hid (ScIn w ⟨.slice r1 p.regions.length r3,.slice k1 p.consts.length k3,.slice (some ⟨gk,ok,none⟩) p.funcs.length f3,.slice t1 p.certs.length t3⟩ p ⟨.slice g1 f.params.length g3,.slice g4 f.locals.length g6,.slice g7 f.code.length g9⟩ f/\FlowOk f.code r/\r.code=0/\RdFl U2 (.slice v1 n1 c1) (.slice v2 n2 c2) (.slice v3 n3 c3) (.slice v4 n4 c4) r):=⟨scIn_of H.out.1 HFP.out.1 H.out.2.2.1 hf hrf hfl hr0,hfl,hr0,hrd.keepW E3.out.2.2⟩
    simp only[]at m0 m1 m2 m3
    have HM:Hid (∀u,Below w.heap.size w u->u.cell? ⟨gk,ok+q*4,none⟩=some (.slice g1 f.params.length g3)/\u.cell? ⟨gk,ok+q*4+1,none⟩=some (.int .i64 f.result)/\u.cell? ⟨gk,ok+q*4+2,none⟩=some (.slice g4 f.locals.length g6)/\u.cell? ⟨gk,ok+q*4+3,none⟩=some (.slice g7 f.code.length g9)):=fun u hu=>⟨bcell_lt hu m0,bcell_lt hu m1,bcell_lt hu m2,bcell_lt hu m3⟩
    have E4:Hid ((Blk U2 w.heap.size #[.slice r1 p.regions.length r3,.slice k1 p.consts.length k3,.slice (some ⟨gk,ok,none⟩) p.funcs.length f3,.slice t1 p.certs.length t3] 36/\Blk U2 (w.heap.size+1) #[.int .i64 0,.int .i64 0,.int .i64 0,.slice none 0 0] 30/\Below w.heap.size w U2)/\Blk U2 u1.heap.size #[.int .i64 c,.int .i64 a,.slice v1 n1 c1,.slice v2 n2 c2,.slice v3 n3 c3,.slice v4 n4 c4] 67):=⟨E3.out.1,E3.out.2.1⟩
    clear hf hrf hfl hr0 hrd HBB m0 m1 m2 m3 E3 E2
    generalize u1.heap.size=Y at E4 hY⊢
    go_upto_region 4 with fail
    have KS:∀{u:World},Blk u w.heap.size #[.slice r1 p.regions.length r3,.slice k1 p.consts.length k3,.slice (some ⟨gk,ok,none⟩) p.funcs.length f3,.slice t1 p.certs.length t3] 36->Blk u Y #[.int .i64 c,.int .i64 a,.slice v1 n1 c1,.slice v2 n2 c2,.slice v3 n3 c3,.slice v4 n4 c4] 67->Below w.heap.size w u->u.cell? ⟨w.heap.size,0,none⟩=some (.slice r1 p.regions.length r3)/\u.cell? ⟨w.heap.size,1,none⟩=some (.slice k1 p.consts.length k3)/\u.cell? ⟨w.heap.size,2,none⟩=some (.slice (some ⟨gk,ok,none⟩) p.funcs.length f3)/\u.cell? ⟨w.heap.size,3,none⟩=some (.slice t1 p.certs.length t3)/\u.cell? ⟨gk,ok+q*4,none⟩=some (.slice g1 f.params.length g3)/\u.cell? ⟨gk,ok+q*4+1,none⟩=some (.int .i64 f.result)/\u.cell? ⟨gk,ok+q*4+2,none⟩=some (.slice g4 f.locals.length g6)/\u.cell? ⟨gk,ok+q*4+3,none⟩=some (.slice g7 f.code.length g9)/\u.cell? ⟨Y,0,none⟩=some (.int .i64 c)/\u.cell? ⟨Y,1,none⟩=some (.int .i64 a)/\u.cell? ⟨Y,2,none⟩=some (.slice v1 n1 c1)/\u.cell? ⟨Y,3,none⟩=some (.slice v2 n2 c2)/\u.cell? ⟨Y,4,none⟩=some (.slice v3 n3 c3)/\u.cell? ⟨Y,5,none⟩=some (.slice v4 n4 c4):=fun A B C=>by
      obtain⟨p0,p1,p2,p3⟩:=cel4 A
      obtain⟨m0,m1,m2,m3⟩:=HM.out _ C
      obtain⟨y0,y1,y2,y3,y4,y5⟩:=cel6 B
      exact⟨p0,p1,p2,p3,m0,m1,m2,m3,y0,y1,y2,y3,y4,y5⟩
    have HR:Hid ((Blk U2.drew w.heap.size #[.slice r1 p.regions.length r3,.slice k1 p.consts.length k3,.slice (some ⟨gk,ok,none⟩) p.funcs.length f3,.slice t1 p.certs.length t3] 36/\Blk U2.drew (w.heap.size+1) #[.int .i64 0,.int .i64 0,.int .i64 0,.slice none 0 0] 30/\Below w.heap.size w U2.drew)/\Blk U2.drew Y #[.int .i64 c,.int .i64 a,.slice v1 n1 c1,.slice v2 n2 c2,.slice v3 n3 c3,.slice v4 n4 c4] 67/\RdFl U2.drew (.slice v1 n1 c1) (.slice v2 n2 c2) (.slice v3 n3 c3) (.slice v4 n4 c4) r):=⟨⟨E4.out.1.1.keep (below_drew1 _),E4.out.1.2.1.keep (below_drew1 _),below_on E4.out.1.2.2 (Nat.le_refl _) (below_drew1 _)⟩,E4.out.2.keep (below_drew1 _),HF.out.2.2.2.keepW (below_drew1 _)⟩
    clear E4
    have b0:=KS HR.out.1.1 HR.out.2.1 HR.out.1.2.2
    refine wp_region_held_drew (S:=fun w'=>w'.cell? ⟨w.heap.size,0,none⟩=some (.slice r1 p.regions.length r3)/\w'.cell? ⟨w.heap.size,1,none⟩=some (.slice k1 p.consts.length k3)/\w'.cell? ⟨w.heap.size,2,none⟩=some (.slice (some ⟨gk,ok,none⟩) p.funcs.length f3)/\w'.cell? ⟨w.heap.size,3,none⟩=some (.slice t1 p.certs.length t3)/\w'.cell? ⟨gk,ok+q*4,none⟩=some (.slice g1 f.params.length g3)/\w'.cell? ⟨gk,ok+q*4+1,none⟩=some (.int .i64 f.result)/\w'.cell? ⟨gk,ok+q*4+2,none⟩=some (.slice g4 f.locals.length g6)/\w'.cell? ⟨gk,ok+q*4+3,none⟩=some (.slice g7 f.code.length g9)/\w'.cell? ⟨Y,0,none⟩=some (.int .i64 c)/\w'.cell? ⟨Y,1,none⟩=some (.int .i64 a)/\w'.cell? ⟨Y,2,none⟩=some (.slice v1 n1 c1)/\w'.cell? ⟨Y,3,none⟩=some (.slice v2 n2 c2)/\w'.cell? ⟨Y,4,none⟩=some (.slice v3 n3 c3)/\w'.cell? ⟨Y,5,none⟩=some (.slice v4 n4 c4)) (by kernel_rfl) b0 (fun hHeld=> ?_)
    clear b0
    generalize U2.drew=UD at HR hHeld⊢
    refine wpAnyH_take (i:=0) (v:= ?_) rfl (by kernel_rfl) (by kernel_rfl) (by kernel_rfl) (fun _ _ _ h=>h) (Or.inl ⟨by rfl,?_⟩) (by assumption) ?_
    rotate_left
    . (intro w hSw;(try dsimp only at hSw);go_simp;(try with_reducible rfl))
    refine wpAnyH_take (i:=1) (v:= ?_) rfl (by kernel_rfl) (by kernel_rfl) (by kernel_rfl) (fun _ _ _ h=>h) (Or.inl ⟨by rfl,?_⟩) (by assumption) ?_
    rotate_left
    . (intro w hSw;(try dsimp only at hSw);go_simp;(try with_reducible rfl))
    refine wpAnyH_take (i:=2) (v:= ?_) rfl (by kernel_rfl) (by kernel_rfl) (by kernel_rfl) (fun _ _ _ h=>h) (Or.inl ⟨by rfl,?_⟩) (by assumption) ?_
    rotate_left
    . (intro w hSw;(try dsimp only at hSw);go_simp;(try with_reducible rfl))
    refine wpAnyH_take (i:=3) (v:= ?_) rfl (by kernel_rfl) (by kernel_rfl) (by kernel_rfl) (fun _ _ _ h=>h) (Or.inl ⟨by rfl,?_⟩) (by assumption) ?_
    rotate_left
    . (intro w hSw;(try dsimp only at hSw);go_simp;(try with_reducible rfl))
    refine wpAnyH_take (i:=4) (v:= ?_) rfl (by kernel_rfl) (by kernel_rfl) (by kernel_rfl) (fun _ _ _ h=>h) (Or.inl ⟨by rfl,?_⟩) (by assumption) ?_
    rotate_left
    . (intro w hSw;(try dsimp only at hSw);go_simp;(try with_reducible rfl))
    refine wpAnyH_take (i:=5) (v:= ?_) rfl (by kernel_rfl) (by kernel_rfl) (by kernel_rfl) (fun _ _ _ h=>h) (Or.inl ⟨by rfl,?_⟩) (by assumption) ?_
    rotate_left
    . (intro w hSw;(try dsimp only at hSw);go_simp;(try with_reducible rfl))
    refine wpAnyH_take (i:=6) (v:= ?_) rfl (by kernel_rfl) (by kernel_rfl) (by kernel_rfl) (fun _ _ _ h=>h) (Or.inl ⟨by rfl,?_⟩) (by assumption) ?_
    rotate_left
    . (intro w hSw;(try dsimp only at hSw);go_simp;(try with_reducible rfl))
    refine wpAnyH_take (i:=7) (v:= ?_) rfl (by kernel_rfl) (by kernel_rfl) (by kernel_rfl) (fun _ _ _ h=>h) (Or.inl ⟨by rfl,?_⟩) (by assumption) ?_
    rotate_left
    . (intro w hSw;(try dsimp only at hSw);go_simp;(try with_reducible rfl))
    refine wpAnyH_ready (rs:=[8]) (by kernel_rfl) (by simp) ?_
    refine AllReadyH.cons rfl (fun KC hKC=> ?_) AllReadyH.nil
    go_simp
    refine(typesOf_any UD ⟨.slice r1 p.regions.length r3,.slice k1 p.consts.length k3,.slice (some ⟨gk,ok,none⟩) p.funcs.length f3,.slice t1 p.certs.length t3⟩ p ⟨.slice g1 f.params.length g3,.slice g4 f.locals.length g6,.slice g7 f.code.length g9⟩ f r c a (.slice v1 n1 c1) (.slice v2 n2 c2) (.slice v3 n3 c3) (.slice v4 n4 c4) (HF.out.1.keep HR.out.1.2.2) HF.out.2.1 HF.out.2.2.1 HR.out.2.2).mono ?_
    rintro e u4 ⟨sv,F,rfl,how,hfs,hfl,hfx,b4⟩
    have hd:w.heap.size<=UD.heap.size:=HR.out.1.2.2.size
    have hY2:Y<UD.heap.size:=HR.out.2.1.lt
    have E5:Hid ((Blk u4 w.heap.size #[.slice r1 p.regions.length r3,.slice k1 p.consts.length k3,.slice (some ⟨gk,ok,none⟩) p.funcs.length f3,.slice t1 p.certs.length t3] 36/\Blk u4 (w.heap.size+1) #[.int .i64 0,.int .i64 0,.int .i64 0,.slice none 0 0] 30/\Below w.heap.size w u4)/\Blk u4 Y #[.int .i64 c,.int .i64 a,.slice v1 n1 c1,.slice v2 n2 c2,.slice v3 n3 c3,.slice v4 n4 c4] 67/\OwTy u4 UD.heap.size sv F):=⟨⟨HR.out.1.1.keep b4,HR.out.1.2.1.keep b4,below_on HR.out.1.2.2 (Nat.le_refl _) b4⟩,HR.out.2.1.keep b4,how⟩
    obtain⟨sa,sc,esv⟩:=own_slice how.row
    subst esv
    have HFF:Hid (F.map Prod.fst=(tyOf f.code.length (runO p f r.blocks (r.order.map Int.toNat) ws0)).shapes/\F.length<=1024/\∀x∈F,x.1.length<=64):=⟨hfs,hfl,hfx⟩
    clear how hfs hfl hfx b4
    go_simp
    refine hKC.out _ _ (KS E5.out.1.1 E5.out.2.1 E5.out.1.2.2) (fun hHeld=> ?_)
    clear hKC KC
    generalize tyOf f.code.length (runO p f r.blocks (r.order.map Int.toNat) ws0)=y at HTY HFF⊢
    obtain⟨yc,ya,yd,ys⟩:=y
    have rb:=E5.out.1.2.1
    obtain⟨q0,q1,q2,q3⟩:=cel4 rb
    obtain⟨fz0,fz1,fz2,fz3⟩:=frz4 rb
    have G:Hid _:=(((rb.set 0 (.int .i64 yc)).set 1 (.int .i64 ya)).set 2 (.int .i64 yd)).set 3 (.slice sa F.length sc)
    simp only[List.setIfInBounds_toArray,List.set_cons_zero,List.set_cons_succ]at G
    refine wpAnyH_ready (rs:=[9]) (by kernel_rfl) (by simp) ?_
    refine AllReadyH.cons rfl (fun KC hKC=> ?_) AllReadyH.nil
    have hne1:¬w.heap.size=w.heap.size+1:=by omega
    have hne2:¬Y=w.heap.size+1:=by omega
    have E6:Hid (Blk ((((u4.setCell ⟨w.heap.size+1,0,none⟩ (.int .i64 yc)).setCell ⟨w.heap.size+1,1,none⟩ (.int .i64 ya)).setCell ⟨w.heap.size+1,2,none⟩ (.int .i64 yd)).setCell ⟨w.heap.size+1,3,none⟩ (.slice sa F.length sc)) w.heap.size #[.slice r1 p.regions.length r3,.slice k1 p.consts.length k3,.slice (some ⟨gk,ok,none⟩) p.funcs.length f3,.slice t1 p.certs.length t3] 36/\Blk ((((u4.setCell ⟨w.heap.size+1,0,none⟩ (.int .i64 yc)).setCell ⟨w.heap.size+1,1,none⟩ (.int .i64 ya)).setCell ⟨w.heap.size+1,2,none⟩ (.int .i64 yd)).setCell ⟨w.heap.size+1,3,none⟩ (.slice sa F.length sc)) Y #[.int .i64 c,.int .i64 a,.slice v1 n1 c1,.slice v2 n2 c2,.slice v3 n3 c3,.slice v4 n4 c4] 67/\Below w.heap.size w ((((u4.setCell ⟨w.heap.size+1,0,none⟩ (.int .i64 yc)).setCell ⟨w.heap.size+1,1,none⟩ (.int .i64 ya)).setCell ⟨w.heap.size+1,2,none⟩ (.int .i64 yd)).setCell ⟨w.heap.size+1,3,none⟩ (.slice sa F.length sc))/\OwTy ((((u4.setCell ⟨w.heap.size+1,0,none⟩ (.int .i64 yc)).setCell ⟨w.heap.size+1,1,none⟩ (.int .i64 ya)).setCell ⟨w.heap.size+1,2,none⟩ (.int .i64 yd)).setCell ⟨w.heap.size+1,3,none⟩ (.slice sa F.length sc)) w.heap.size (.slice sa F.length sc) F):=by
      have hbl0:=E5.out.1.2.2
      have o:=fun{a b:Nat} (h:a≠b)=>h
      refine⟨(((E5.out.1.1.other (by simp only[];omega) _).other (by simp only[];omega) _).other (by simp only[];omega) _).other (by simp only[];omega) _,(((E5.out.2.1.other (by simp only[];omega) _).other (by simp only[];omega) _).other (by simp only[];omega) _).other (by simp only[];omega) _,((((hbl0.setCell (by simp only[];omega) _).setCell (by simp only[];omega) _).setCell (by simp only[];omega) _).setCell (by simp only[];omega) _),?_⟩
      exact((((E5.out.2.2.set (by simp only[];omega) _).set (by simp only[];omega) _).set (by simp only[];omega) _).set (by simp only[];omega) _).low hd
    go_simp
    refine hKC.out _ _ (KS E6.out.1 E6.out.2.1 E6.out.2.2.1) (fun hHeld=> ?_)
    clear hKC KC
    refine wpAnyH_done (by kernel_rfl) ?_ _
    clear hHeld
    clear q0 q1 q2 q3
    obtain⟨q0,q1,q2,q3⟩:=cel4 G.out
    go_wp2_with fail
    refine bodyPost_ret (v:=.agg #[.int .i64 yc,.int .i64 ya,.int .i64 yd,.slice sa F.length sc]) (by simp[results,Tryz.results9,go_sem,q0,q1,q2,q3]) rfl ?_
    exact⟨_,HTY.out,_,F,rfl,E6.out.2.2.2,HFF.out.1,HFF.out.2.1,HFF.out.2.2,E6.out.2.2.1⟩
end Go.Proofs.YtdfmdgbolmbffaaGreat
