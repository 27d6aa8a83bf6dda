import Derived.Test.YtdfmdgbolmbffaaGreatTy20
import Derived.Test.YtdfmdgbolmbffaaGreatTy15
namespace Go.Proofs.YtdfmdgbolmbffaaGreat
open Go.ChangeShapes Go.WideShapes Go.ChangeAt Go.RowKit
set_option linter.unusedVariables false
def RdFp(w:World)(s:Value)(fs:List MF):Prop:=∃ys:List (MF×VF),ys.map Prod.fst=fs/\Rd w 4 s fs.length (ys.flatMap fCells)/\∀x∈ys,RdF w x.2 x.1/\Placed x.2.p/\Placed x.2.l
theorem RdFp.keep{w w':World}{s:Value}{fs:List MF}(h:RdFp w s fs){B:Nat}(hb:Below B w w')(hB:w.heap.size<=B):RdFp w' s fs:=by
  obtain⟨ys,h1,h2,h3⟩:=h
  exact⟨ys,h1,h2.keep hb hB,fun x hx=>⟨(h3 x hx).1.keep hb hB,(h3 x hx).2⟩⟩
theorem certOk_iff{p:MP}{fn:Nat}{f:MF}(hf:p.funcs[fn]?=some f)(hd co ini:Int):CertOk p ⟨fn,hd,co,ini⟩↔(0<=hd/\hd<(f.code.length:Int))/\(0<=co/\co<((f.params.length+f.locals.length:Nat):Int))/\(f.params++f.locals)[co.toNat]?=some 3:=by
  constructor
  . rintro⟨g,h1,h2,h3,h4,h5⟩
    simp only[Int.toNat_natCast]at h1 h3 h4 h5
    rw[hf]at h1
    obtain rfl:=Option.some.inj h1
    unfold localOf at h5
    split at h5
    . simp at h5
    . rename_i hc
      rw[List.getD_eq_getElem?_getD]at h5
      by_cases q:co.toNat<(f.params++f.locals).length
      . rw[List.getElem?_eq_getElem q]at h5⊢
        refine⟨⟨h3,h4⟩,⟨by omega,by rw[List.length_append]at q;omega⟩,?_⟩
        simpa using h5
      . rw[List.getElem?_eq_none (by omega)]at h5
        simp at h5
  . rintro⟨⟨h3,h4⟩,⟨h5,h6⟩,h7⟩
    refine⟨f,by simp only[Int.toNat_natCast];exact hf,by simp only[];omega,h3,h4,?_⟩
    unfold localOf
    rw[if_neg (by simp only[];omega),List.getD_eq_getElem?_getD,h7]
    rfl
set_option maxHeartbeats 4000000 in
set_option maxRecDepth 100000 in
theorem certHolds_any(v:VP)(p:MP)(fu hd co ini:Int)(w:World)(hs:p.small)(h:RdP w v p)(hfp:RdFp w v.f p.funcs):
    Calls Tryz.prog 134 #[.agg #[v.r,v.k,v.f,v.t],.agg #[.int .i64 fu,.int .i64 hd,.int .i64 co,.int .u32 ini]] w fun e w'=>SaysIff e (CertOk p ⟨fu,hd,co,ini⟩)/\Below w.heap.size w w':=by
  obtain⟨vr,vk,vf,vt⟩:=v
  obtain⟨ys,hys,hrd,hel⟩:=hfp
  simp only[]at hrd
  obtain⟨rr1,cc1,er1⟩:∃a c,vr=.slice a p.regions.length c:=by
    obtain⟨_,_,hq,_⟩:=h.regions
    exact hq.is_slice
  obtain⟨rr2,cc2,er2⟩:∃a c,vk=.slice a p.consts.length c:=h.consts.is_slice
  obtain⟨rr4,cc4,er4⟩:∃a c,vt=.slice a p.certs.length c:=h.certs.is_slice
  subst er1 er2 er4
  have hyl:ys.length=p.funcs.length:=by rw[<-hys];simp
  obtain⟨a2,c2,e2⟩:=hrd.is_slice
  subst e2
  have H2:Hid (Rd w 4 (.slice a2 p.funcs.length c2) p.funcs.length (ys.flatMap fCells)/\ys.map Prod.fst=p.funcs/\(∀x∈ys,RdF w x.2 x.1/\Placed x.2.p/\Placed x.2.l)/\(∀f∈p.funcs,f.small)/\ys.length=p.funcs.length):=⟨hrd,hys,hel,hs.func,hyl⟩
  have hm:=hs.funcs
  clear hrd hys hel hyl hs h
  generalize p.regions.length=n1 at*
  generalize p.consts.length=n2 at*
  generalize p.certs.length=n4 at*
  generalize hM:p.funcs.length=m at*
  have HL:Hid (p.funcs.length=m):=hM
  clear hM
  have HI:Hid (Below w.heap.size w ((w.alloc (.cells #[.slice rr1 n1 cc1,.slice rr2 n2 cc2,.slice a2 m c2,.slice rr4 n4 cc4] 36)).alloc (.cells #[.int .i64 fu,.int .i64 hd,.int .i64 co,.int .u32 ini] 100))/\At4 ((w.alloc (.cells #[.slice rr1 n1 cc1,.slice rr2 n2 cc2,.slice a2 m c2,.slice rr4 n4 cc4] 36)).alloc (.cells #[.int .i64 fu,.int .i64 hd,.int .i64 co,.int .u32 ini] 100)) (w.heap.size+1) (.int .i64 fu) (.int .i64 hd) (.int .i64 co) (.int .u32 ini)):=by
    refine⟨below_on (below_alloc _ _) (Nat.le_refl _) (below_alloc _ _),?_⟩
    have:=At4.new (w.alloc (.cells #[.slice rr1 n1 cc1,.slice rr2 n2 cc2,.slice a2 m c2,.slice rr4 n4 cc4] 36)) (.int .i64 fu) (.int .i64 hd) (.int .i64 co) (.int .u32 ini) 100
    simpa using this
  by_cases q0:0<=fu/\fu<(m:Int)
  . have hit:decide (0<=fu/\fu<(m:Int))=true:=decide_eq_true q0
    obtain⟨fn,rfl⟩:=Int.eq_ofNat_of_zero_le q0.1
    have hfn:fn<m:=by omega
    clear q0
    obtain⟨⟨f,v⟩,hy⟩:∃y,ys[fn]?=some y:=⟨_,List.getElem?_eq_getElem (by rw[H2.out.2.2.2.2];omega)⟩
    have e1:=fst_at H2.out.2.1 hy
    have hfe:=H2.out.2.2.1 _ (List.mem_of_getElem? hy)
    have HF:Hid (RdF w v f/\Placed v.p/\Placed v.l/\f.small/\p.funcs[fn]?=some f):=⟨hfe.1,hfe.2.1,hfe.2.2,H2.out.2.2.2.1 _ (List.mem_of_getElem? e1),e1⟩
    clear e1 hfe
    rcases H2.out.1.2 with⟨e0,_⟩|⟨b',o',c',e1,hc2⟩
    . omega
    simp only[Value.slice.injEq,true_and]at e1
    obtain⟨rfl,rfl⟩:=e1
    have j0:=Rd.elem fCells_length hc2 fn _ hy 0 _ rfl
    have j1:=Rd.elem fCells_length hc2 fn _ hy 1 _ rfl
    have j2:=Rd.elem fCells_length hc2 fn _ hy 2 _ rfl
    have j3:=Rd.elem fCells_length hc2 fn _ hy 3 _ rfl
    rw[Nat.add_zero]at j0
    clear hc2 hy
    simp only[]at j0 j1 j2 j3
    obtain⟨ap,cp,ep⟩:=HF.out.1.1.is_slice
    obtain⟨al,cl,el⟩:=HF.out.1.2.1.is_slice
    obtain⟨ac,cc,ec⟩:=HF.out.1.2.2.is_slice
    obtain⟨vp,vl,vc⟩:=v
    simp only[]at ep el ec j0 j1 j2 j3
    subst ep el ec
    have k0:=(HI.out.1.cell (block_lt_of_cell j0)).trans j0
    have k1:=(HI.out.1.cell (block_lt_of_cell j1)).trans j1
    have k2:=(HI.out.1.cell (block_lt_of_cell j2)).trans j2
    have k3:=(HI.out.1.cell (block_lt_of_cell j3)).trans j3
    have nb:¬b'=w.heap.size:=Nat.ne_of_lt (block_lt_of_cell j0)
    have nb2:¬b'=w.heap.size+1:=by have:=block_lt_of_cell j0;simp only[]at this;omega
    have nb3:¬b'=w.heap.size+1+1:=by have:=block_lt_of_cell j0;simp only[]at this;omega
    have mb:b'<w.heap.size:=block_lt_of_cell j0
    go_enter Tryz.func134,Tryz.ntmps134
    go_wp2_with fail
    refine(isOneOf_any (fn:Int) (m:Int) _).mono ?_
    rintro e u ⟨rfl,rfl⟩
    rw[hit]
    go_wp2_with fail
    have hfm:(fn:Int)<(m:Int):=by omega
    have BX:Below w.heap.size w (((w.alloc (.cells #[.slice rr1 n1 cc1,.slice rr2 n2 cc2,.slice (some ⟨b',o',none⟩) m c2,.slice rr4 n4 cc4] 36)).alloc (.cells #[.int .i64 (fn:Int),.int .i64 hd,.int .i64 co,.int .u32 ini] 100)).alloc (.cells #[.slice none 0 0,.slice none 0 0,.slice none 0 0,.slice none 0 0,.slice none 0 0,.int .i64 0,.slice none 0 0,.slice none 0 0] 85)).drew:=below_on (below_on HI.out.1 (Nat.le_refl _) (below_alloc _ _)) (Nat.le_refl _) (below_drew1 _)
    have x0:=(BX.cell (block_lt_of_cell j0)).trans j0
    have x1:=(BX.cell (block_lt_of_cell j1)).trans j1
    have x2:=(BX.cell (block_lt_of_cell j2)).trans j2
    have x3:=(BX.cell (block_lt_of_cell j3)).trans j3
    clear BX
    go_region
    have B1:Hid (Below w.heap.size w ((((w.alloc (.cells #[.slice rr1 n1 cc1,.slice rr2 n2 cc2,.slice (some ⟨b',o',none⟩) m c2,.slice rr4 n4 cc4] 36)).alloc (.cells #[.int .i64 (fn:Int),.int .i64 hd,.int .i64 co,.int .u32 ini] 100)).alloc (.cells #[.slice rr1 n1 cc1,.slice rr2 n2 cc2,.slice (some ⟨b',o',none⟩) m c2,.slice rr4 n4 cc4,.slice ap f.params.length cp,.int .i64 f.result,.slice al f.locals.length cl,.slice ac f.code.length cc] 85)).drew)):=below_on (below_on HI.out.1 (Nat.le_refl _) (below_alloc _ _)) (Nat.le_refl _) (below_drew1 _)
    have A1:Hid (At4 ((((w.alloc (.cells #[.slice rr1 n1 cc1,.slice rr2 n2 cc2,.slice (some ⟨b',o',none⟩) m c2,.slice rr4 n4 cc4] 36)).alloc (.cells #[.int .i64 (fn:Int),.int .i64 hd,.int .i64 co,.int .u32 ini] 100)).alloc (.cells #[.slice rr1 n1 cc1,.slice rr2 n2 cc2,.slice (some ⟨b',o',none⟩) m c2,.slice rr4 n4 cc4,.slice ap f.params.length cp,.int .i64 f.result,.slice al f.locals.length cl,.slice ac f.code.length cc] 85)).drew) (w.heap.size+1) (.int .i64 (fn:Int)) (.int .i64 hd) (.int .i64 co) (.int .u32 ini)):=(HI.out.2.alloc _).keep (below_drew1 _)
    have A2:Hid (At8 ((((w.alloc (.cells #[.slice rr1 n1 cc1,.slice rr2 n2 cc2,.slice (some ⟨b',o',none⟩) m c2,.slice rr4 n4 cc4] 36)).alloc (.cells #[.int .i64 (fn:Int),.int .i64 hd,.int .i64 co,.int .u32 ini] 100)).alloc (.cells #[.slice rr1 n1 cc1,.slice rr2 n2 cc2,.slice (some ⟨b',o',none⟩) m c2,.slice rr4 n4 cc4,.slice ap f.params.length cp,.int .i64 f.result,.slice al f.locals.length cl,.slice ac f.code.length cc] 85)).drew) (w.heap.size+1+1) (.slice rr1 n1 cc1) (.slice rr2 n2 cc2) (.slice (some ⟨b',o',none⟩) m c2) (.slice rr4 n4 cc4) (.slice ap f.params.length cp) (.int .i64 f.result) (.slice al f.locals.length cl) (.slice ac f.code.length cc)):=by
      have:=(At8.new ((w.alloc (.cells #[.slice rr1 n1 cc1,.slice rr2 n2 cc2,.slice (some ⟨b',o',none⟩) m c2,.slice rr4 n4 cc4] 36)).alloc (.cells #[.int .i64 (fn:Int),.int .i64 hd,.int .i64 co,.int .u32 ini] 100)) (.slice rr1 n1 cc1) (.slice rr2 n2 cc2) (.slice (some ⟨b',o',none⟩) m c2) (.slice rr4 n4 cc4) (.slice ap f.params.length cp) (.int .i64 f.result) (.slice al f.locals.length cl) (.slice ac f.code.length cc) 85).keep (below_drew1 _)
      have hsz:((w.alloc (.cells #[.slice rr1 n1 cc1,.slice rr2 n2 cc2,.slice (some ⟨b',o',none⟩) m c2,.slice rr4 n4 cc4] 36)).alloc (.cells #[.int .i64 (fn:Int),.int .i64 hd,.int .i64 co,.int .u32 ini] 100)).heap.size=w.heap.size+1+1:=by simp
      rw[hsz]at this
      exact this
    generalize (((w.alloc (.cells #[.slice rr1 n1 cc1,.slice rr2 n2 cc2,.slice (some ⟨b',o',none⟩) m c2,.slice rr4 n4 cc4] 36)).alloc (.cells #[.int .i64 (fn:Int),.int .i64 hd,.int .i64 co,.int .u32 ini] 100)).alloc (.cells #[.slice rr1 n1 cc1,.slice rr2 n2 cc2,.slice (some ⟨b',o',none⟩) m c2,.slice rr4 n4 cc4,.slice ap f.params.length cp,.int .i64 f.result,.slice al f.locals.length cl,.slice ac f.code.length cc] 85)).drew=W1 at B1 A1 A2⊢
    have HK:Hid (Below w.heap.size w W1/\At4 W1 (w.heap.size+1) (.int .i64 (fn:Int)) (.int .i64 hd) (.int .i64 co) (.int .u32 ini)/\At8 W1 (w.heap.size+1+1) (.slice rr1 n1 cc1) (.slice rr2 n2 cc2) (.slice (some ⟨b',o',none⟩) m c2) (.slice rr4 n4 cc4) (.slice ap f.params.length cp) (.int .i64 f.result) (.slice al f.locals.length cl) (.slice ac f.code.length cc)):=⟨B1.out,A1.out,A2.out⟩
    clear B1 A1 A2 HI H2 j0 j1 j2 j3 k0 k1 k2 k3 nb nb2 nb3 mb hit x0 x1 x2 x3 hfm
    have HC:Hid (CertOk p ⟨fn,hd,co,ini⟩↔(0<=hd/\hd<(f.code.length:Int))/\(0<=co/\co<((f.params.length+f.locals.length:Nat):Int))/\(f.params++f.locals)[co.toNat]?=some 3):=certOk_iff HF.out.2.2.2.2 hd co ini
    obtain⟨i0,i1,i2,i3⟩:=HK.out.2.1
    obtain⟨g0,g1,g2,g3,g4,g5,g6,g7⟩:=HK.out.2.2
    have hz3:=HF.out.2.2.2.1.2.2
    go_wp2_with fail
    refine(isOneOf_any hd (f.code.length:Int) _).mono ?_
    rintro e u ⟨rfl,rfl⟩
    by_cases qA:0<=hd/\hd<(f.code.length:Int)
    . have hA:decide (0<=hd/\hd<(f.code.length:Int))=true:=decide_eq_true qA
      rw[hA]
      go_wp2_with fail
      refine(hasLocal_any (.slice rr1 n1 cc1) (.slice rr2 n2 cc2) (.slice (some ⟨b',o',none⟩) m c2) (.slice rr4 n4 cc4) ⟨.slice ap f.params.length cp,.slice al f.locals.length cl,.slice ac f.code.length cc⟩ f co _ HF.out.2.2.2.1 (HF.out.1.keep HK.out.1 (Nat.le_refl _))).mono ?_
      rintro e u ⟨⟨bh,rfl,hbh⟩,bl⟩
      have HQ:Hid (Below w.heap.size w u/\At4 u (w.heap.size+1) (.int .i64 (fn:Int)) (.int .i64 hd) (.int .i64 co) (.int .u32 ini)/\At8 u (w.heap.size+1+1) (.slice rr1 n1 cc1) (.slice rr2 n2 cc2) (.slice (some ⟨b',o',none⟩) m c2) (.slice rr4 n4 cc4) (.slice ap f.params.length cp) (.int .i64 f.result) (.slice al f.locals.length cl) (.slice ac f.code.length cc)):=⟨below_on HK.out.1 (Nat.le_refl _) bl,HK.out.2.1.keep bl,HK.out.2.2.keep bl⟩
      clear bl HK i0 i1 i2 i3 g0 g1 g2 g3 g4 g5 g6 g7
      cases bh
      . have HN:Hid (¬CertOk p ⟨fn,hd,co,ini⟩):=fun e=>absurd (hbh.2 ⟨(HC.out.1 e).2.1.1,by have:=(HC.out.1 e).2.1.2;omega⟩) Bool.false_ne_true
        clear hbh qA hA
        go_wp2
        go_ret
        exact⟨.no HN.out,HQ.out.1⟩
      . have hl:HasLocal f co:=hbh.1 rfl
        obtain⟨k,rfl⟩:=Int.eq_ofNat_of_zero_le hl.1
        have hk:k<(f.params++f.locals).length:=by have:=hl.2;rw[List.length_append];omega
        obtain⟨x,hx⟩:∃x,(f.params++f.locals)[k]?=some x:=⟨_,List.getElem?_eq_getElem hk⟩
        have HY:Hid ((x==3)=true↔CertOk p ⟨fn,hd,k,ini⟩):=by
          show _↔_
          have h2:=hl.2
          rw[HC.out,Int.toNat_natCast,hx]
          simp[qA]
          intro _
          omega
        have HX:Hid ((f.params++f.locals)[k]?=some x):=hx
        clear hbh qA hA hl hk hx HC
        obtain⟨i0,i1,i2,i3⟩:=HQ.out.2.1
        obtain⟨g0,g1,g2,g3,g4,g5,g6,g7⟩:=HQ.out.2.2
        go_wp2_with fail
        refine(localType_any (.slice rr1 n1 cc1) (.slice rr2 n2 cc2) (.slice (some ⟨b',o',none⟩) m c2) (.slice rr4 n4 cc4) ⟨.slice ap f.params.length cp,.slice al f.locals.length cl,.slice ac f.code.length cc⟩ f k x _ HF.out.2.2.2.1 (HF.out.1.keep HQ.out.1 (Nat.le_refl _)) HX.out).mono ?_
        rintro e u' ⟨rfl,bl⟩
        have HE:Hid (Below w.heap.size w u'):=below_on HQ.out.1 (Nat.le_refl _) bl
        clear bl i0 i1 i2 i3 g0 g1 g2 g3 g4 g5 g6 g7
        go_wp2
        go_ret
        exact⟨.of HY.out,HE.out⟩
    . have hA:decide (0<=hd/\hd<(f.code.length:Int))=false:=decide_eq_false qA
      have HN:Hid (¬CertOk p ⟨fn,hd,co,ini⟩):=fun e=>qA (HC.out.1 e).1
      rw[hA]
      clear qA
      go_wp2
      go_ret
      exact⟨.no HN.out,HK.out.1⟩
  . have HN:Hid (¬CertOk p ⟨fu,hd,co,ini⟩):=fun⟨f,h1,h2,_⟩=>q0 ⟨h2,by have:=(List.getElem?_eq_some_iff.1 h1).1;simp only[]at this h2;rw[HL.out]at this;omega⟩
    have hit:decide (0<=fu/\fu<(m:Int))=false:=decide_eq_false q0
    clear H2
    go_enter Tryz.func134,Tryz.ntmps134
    go_wp2_with fail
    refine(isOneOf_any fu (m:Int) _).mono ?_
    rintro e u ⟨rfl,rfl⟩
    rw[hit]
    go_wp2
    go_ret
    exact⟨.no HN.out,HI.out.1⟩
end Go.Proofs.YtdfmdgbolmbffaaGreat
namespace Go.Proofs.YtdfmdgbolmbffaaGreat
open Go.ChangeShapes Go.WideShapes Go.ChangeAt Go.RowKit
set_option linter.unusedVariables false
set_option maxHeartbeats 4000000 in
set_option maxRecDepth 100000 in
theorem certsHold_any(v:VP)(p:MP)(w:World)(hs:p.small)(h:RdP w v p)(hfp:RdFp w v.f p.funcs):
    Calls Tryz.prog 109 #[.agg #[v.r,v.k,v.f,v.t]] w fun e w'=>SaysIff e (CertsOk p)/\Below w.heap.size w w':=by
  obtain⟨vr,vk,vf,vt⟩:=v
  have H1:Hid (Rd w 4 vt p.certs.length (p.certs.flatMap MT.cells)/\p.small/\RdP w ⟨vr,vk,vf,vt⟩ p/\RdFp w vf p.funcs):=⟨h.certs,hs,h,hfp⟩
  have hn:=hs.certs
  obtain⟨a1,c1,e1⟩:∃a c,vt=.slice a p.certs.length c:=h.certs.is_slice
  subst e1
  clear h hs hfp
  have HI:Hid _:=In1.of w vr vk vf (.slice a1 p.certs.length c1) 36
  generalize hcs:p.certs.length=n at*
  have HL:Hid (p.certs.length=n):=hcs
  clear hcs
  by_cases q0:64<n
  . have HN:Hid (¬CertsOk p):=fun e=>absurd e.1 (by rw[HL.out];omega)
    have q0':(64:Int)<(n:Int):=by omega
    clear H1
    go_enter Tryz.func109,Tryz.ntmps109
    go_wp2
    go_ret
    exact⟨.no HN.out,HI.out.bel⟩
  have q0':¬(64:Int)<(n:Int):=by omega
  go_enter Tryz.func109,Tryz.ntmps109
  go_wp2
  go_loopw [12] (fun i wr=>∃k:Nat,k<=n/\i=.int .i64 k/\Hid (∀j,j<k->CertAt p p.certs j)/\Hid (In1 w wr vr vk vf (.slice a1 n c1))) (fun i _=>n-(intOf i).toNat)
  case atStart=>exact⟨0,by omega,rfl,fun j hj=>by omega,HI⟩
  case round=>
    clear HI
    obtain⟨k,hk,rfl,HT,HI⟩:=hrel
    by_cases hlt:k<n
    . obtain ⟨x,hx⟩:∃x,p.certs[k]?=some x:=⟨_,List.getElem?_eq_getElem (by rw[HL.out];exact hlt)⟩
      rcases H1.out.1.2 with⟨e0,_⟩|⟨b,o,c,e1,hc1⟩
      . omega
      simp only[Value.slice.injEq,true_and]at e1
      obtain⟨rfl,rfl⟩:=e1
      have i0:=Rd.elem MT.cells_length hc1 k x hx 0 _ rfl
      have i1:=Rd.elem MT.cells_length hc1 k x hx 1 _ rfl
      have i2:=Rd.elem MT.cells_length hc1 k x hx 2 _ rfl
      have i3:=Rd.elem MT.cells_length hc1 k x hx 3 _ rfl
      rw[<-HI.out.bel.cell (block_lt_of_cell i0),Nat.add_zero]at i0
      rw[<-HI.out.bel.cell (block_lt_of_cell i1)]at i1
      rw[<-HI.out.bel.cell (block_lt_of_cell i2)]at i2
      rw[<-HI.out.bel.cell (block_lt_of_cell i3)]at i3
      have HX:Hid (p.certs[k]?=some x):=hx
      have HC:Hid (∀j u,(p.certs.flatMap MT.cells)[j]?=some u->w.cell? ⟨b,o+j,none⟩=some u):=hc1
      clear hc1 hx
      obtain⟨fu,hd,co,ini⟩:=x
      simp only[]at i0 i1 i2 i3
      have nb:¬b=wr.heap.size:=Nat.ne_of_lt (block_lt_of_cell i0)
      have mb:b<wr.heap.size:=block_lt_of_cell i0
      have HW0:Hid (Below w.heap.size w (wr.alloc (.cells #[.int .i64 fu,.int .i64 hd,.int .i64 co,.int .u32 ini] 100))/\At4 (wr.alloc (.cells #[.int .i64 fu,.int .i64 hd,.int .i64 co,.int .u32 ini] 100)) w.heap.size vr vk vf (.slice (some ⟨b,o,none⟩) n c1)/\At4 (wr.alloc (.cells #[.int .i64 fu,.int .i64 hd,.int .i64 co,.int .u32 ini] 100)) wr.heap.size (.int .i64 fu) (.int .i64 hd) (.int .i64 co) (.int .u32 ini)):=⟨below_on HI.out.bel (Nat.le_refl _) (below_alloc _ _),HI.out.prog.alloc _,At4.new _ _ _ _ _ _⟩
      go_wp2_with fail
      generalize wr.alloc (.cells #[.int .i64 fu,.int .i64 hd,.int .i64 co,.int .u32 ini] 100)=W1 at HW0⊢
      have HW:Hid (Below w.heap.size w W1/\At4 W1 w.heap.size vr vk vf (.slice (some ⟨b,o,none⟩) n c1)/\At4 W1 wr.heap.size (.int .i64 fu) (.int .i64 hd) (.int .i64 co) (.int .u32 ini)):=HW0
      clear HW0 i0 i1 i2 i3 nb mb HI q0'
      obtain⟨p0,p1,p2,p3⟩:=HW.out.2.1
      obtain⟨r0,r1,r2,r3⟩:=HW.out.2.2
      have inst:=Grown.some W1
      have P0:=fun n:Grown W1=>Grown.cell p0 n
      have P1:=fun n:Grown W1=>Grown.cell p1 n
      have P2:=fun n:Grown W1=>Grown.cell p2 n
      have P3:=fun n:Grown W1=>Grown.cell p3 n
      have R0:=fun n:Grown W1=>Grown.cell r0 n
      have R1:=fun n:Grown W1=>Grown.cell r1 n
      have R2:=fun n:Grown W1=>Grown.cell r2 n
      have R3:=fun n:Grown W1=>Grown.cell r3 n
      by_cases hok:CertOk p ⟨fu,hd,co,ini⟩
      . have HOK:Hid (CertOk p ⟨fu,hd,co,ini⟩):=hok
        clear hok
        by_cases q5:k=0
        . subst q5
          have HA:Hid (CertAt p p.certs 0):=fun c hc=>by
            rw[HX.out]at hc
            obtain rfl:=Option.some.inj hc
            exact⟨HOK.out,fun i d hi=>by omega⟩
          refine wp_region_grown (by kernel_rfl) (by kernel_rfl) ?_
          repeat(go_big_quiet_step ((first|(go_at_call 134;rename_i n';exact(certHolds_any ⟨vr,vk,vf,.slice (some ⟨b,o,none⟩) n c1⟩ p fu hd co ini n'.u H1.out.2.1 (H1.out.2.2.1.keep (below_on HW.out.1 (Nat.le_refl _) n'.h) (Nat.le_refl _)) (H1.out.2.2.2.keep (below_on HW.out.1 (Nat.le_refl _) n'.h) (Nat.le_refl _))).mono fun e w'' h=>⟨h.1.true HOK.out,⟨⟨w'',below_on n'.h (Nat.le_refl _) h.2⟩,rfl⟩⟩))))
          refine wpQuiet_nil ?_
          rintro w'' ⟨n',rfl⟩
          have HI2:Hid (In1 w n'.u vr vk vf (.slice (some ⟨b,o,none⟩) n c1)):=⟨below_on HW.out.1 (Nat.le_refl _) n'.h,HW.out.2.1.keep n'.h⟩
          go_wp2
          go_roundw
          case rel=>exact⟨1,by omega,by go_num,certs_next HA.out HT.out,HI2⟩
          case measure=>simp[intOf];omega
        . obtain⟨i,rfl⟩:∃i,k=i+1:=⟨k-1,by omega⟩
          obtain⟨d,hd'⟩:∃d,p.certs[i]?=some d:=⟨_,List.getElem?_eq_getElem (by rw[HL.out];omega)⟩
          have y0:=Rd.elem MT.cells_length HC.out i d hd' 0 _ rfl
          have y1:=Rd.elem MT.cells_length HC.out i d hd' 1 _ rfl
          have y2:=Rd.elem MT.cells_length HC.out i d hd' 2 _ rfl
          have y3:=Rd.elem MT.cells_length HC.out i d hd' 3 _ rfl
          rw[<-HW.out.1.cell (block_lt_of_cell y0),Nat.add_zero]at y0
          rw[<-HW.out.1.cell (block_lt_of_cell y1)]at y1
          rw[<-HW.out.1.cell (block_lt_of_cell y2)]at y2
          rw[<-HW.out.1.cell (block_lt_of_cell y3)]at y3
          obtain⟨dfu,dhd,dco,dini⟩:=d
          simp only[]at y0 y1 y2 y3
          have HD:Hid (p.certs[i]?=some ⟨dfu,dhd,dco,dini⟩):=hd'
          clear hd'
          have Y0:=fun n:Grown W1=>Grown.cell y0 n
          have Y1:=fun n:Grown W1=>Grown.cell y1 n
          have Y2:=fun n:Grown W1=>Grown.cell y2 n
          have Y3:=fun n:Grown W1=>Grown.cell y3 n
          have hki:((i+1:Nat):Int)-1=(i:Int):=by omega
          have hkp:(0:Int)<((i+1:Nat):Int):=by omega
          by_cases hri:Rises ⟨dfu,dhd,dco,dini⟩ ⟨fu,hd,co,ini⟩
          . have HRI:Hid (Rises ⟨dfu,dhd,dco,dini⟩ ⟨fu,hd,co,ini⟩):=hri
            have HA:Hid (CertAt p p.certs (i+1)):=fun c hc=>by
              rw[HX.out]at hc
              obtain rfl:=Option.some.inj hc
              refine⟨HOK.out,fun i' d' hi hd'=> ?_⟩
              obtain rfl:i'=i:=by omega
              rw[HD.out]at hd'
              obtain rfl:=Option.some.inj hd'
              exact hri
            clear hri
            refine wp_region_grown (by kernel_rfl) (by kernel_rfl) ?_
            repeat(go_big_quiet_step ((first|(go_at_call 134;rename_i n';exact(certHolds_any ⟨vr,vk,vf,.slice (some ⟨b,o,none⟩) n c1⟩ p fu hd co ini n'.u H1.out.2.1 (H1.out.2.2.1.keep (below_on HW.out.1 (Nat.le_refl _) n'.h) (Nat.le_refl _)) (H1.out.2.2.2.keep (below_on HW.out.1 (Nat.le_refl _) n'.h) (Nat.le_refl _))).mono fun e w'' h=>⟨h.1.true HOK.out,⟨⟨w'',below_on n'.h (Nat.le_refl _) h.2⟩,rfl⟩⟩)|(go_at_call 135;rename_i n';exact(rises_any ⟨dfu,dhd,dco,dini⟩ ⟨fu,hd,co,ini⟩ n'.u).mono fun e w'' h=>⟨h.1.true HRI.out,⟨⟨w'',below_on n'.h (Nat.le_refl _) h.2⟩,rfl⟩⟩))))
            refine wpQuiet_nil ?_
            rintro w'' ⟨n',rfl⟩
            have HI2:Hid (In1 w n'.u vr vk vf (.slice (some ⟨b,o,none⟩) n c1)):=⟨below_on HW.out.1 (Nat.le_refl _) n'.h,HW.out.2.1.keep n'.h⟩
            go_wp2
            go_roundw
            case rel=>exact⟨i+1+1,by omega,by go_num,certs_next HA.out HT.out,HI2⟩
            case measure=>simp[intOf];omega
          . have HRI:Hid (¬Rises ⟨dfu,dhd,dco,dini⟩ ⟨fu,hd,co,ini⟩):=hri
            clear hri
            have HN:Hid (¬CertsOk p):=fun e=>by
              exact HRI.out ((e.2 (i+1) (by rw[HL.out];exact hlt) _ HX.out).2 i _ rfl HD.out)
            refine wp_region_grown (by kernel_rfl) (by kernel_rfl) ?_
            repeat(go_big_quiet_step ((first|(go_at_call 134;rename_i n';exact(certHolds_any ⟨vr,vk,vf,.slice (some ⟨b,o,none⟩) n c1⟩ p fu hd co ini n'.u H1.out.2.1 (H1.out.2.2.1.keep (below_on HW.out.1 (Nat.le_refl _) n'.h) (Nat.le_refl _)) (H1.out.2.2.2.keep (below_on HW.out.1 (Nat.le_refl _) n'.h) (Nat.le_refl _))).mono fun e w'' h=>⟨h.1.true HOK.out,⟨⟨w'',below_on n'.h (Nat.le_refl _) h.2⟩,rfl⟩⟩)|(go_at_call 135;rename_i n';exact(rises_any ⟨dfu,dhd,dco,dini⟩ ⟨fu,hd,co,ini⟩ n'.u).mono fun e w'' h=>⟨h.1.false HRI.out,⟨⟨w'',below_on n'.h (Nat.le_refl _) h.2⟩,rfl⟩⟩))))
            refine wpQuiet_nil ?_
            rintro w'' ⟨n',rfl⟩
            have HI2:Hid (In1 w n'.u vr vk vf (.slice (some ⟨b,o,none⟩) n c1)):=⟨below_on HW.out.1 (Nat.le_refl _) n'.h,HW.out.2.1.keep n'.h⟩
            go_wp2
            go_ret
            exact⟨.no HN.out,HI2.out.bel⟩
      . have HOK:Hid (¬CertOk p ⟨fu,hd,co,ini⟩):=hok
        clear hok
        have HN:Hid (¬CertsOk p):=fun e=>by
          exact HOK.out (e.2 k (by rw[HL.out];exact hlt) _ HX.out).1
        refine wp_region_grown (by kernel_rfl) (by kernel_rfl) ?_
        repeat(go_big_quiet_step ((first|(go_at_call 134;rename_i n';exact(certHolds_any ⟨vr,vk,vf,.slice (some ⟨b,o,none⟩) n c1⟩ p fu hd co ini n'.u H1.out.2.1 (H1.out.2.2.1.keep (below_on HW.out.1 (Nat.le_refl _) n'.h) (Nat.le_refl _)) (H1.out.2.2.2.keep (below_on HW.out.1 (Nat.le_refl _) n'.h) (Nat.le_refl _))).mono fun e w'' h=>⟨h.1.false HOK.out,⟨⟨w'',below_on n'.h (Nat.le_refl _) h.2⟩,rfl⟩⟩))))
        refine wpQuiet_nil ?_
        rintro w'' ⟨n',rfl⟩
        have HI2:Hid (In1 w n'.u vr vk vf (.slice (some ⟨b,o,none⟩) n c1)):=⟨below_on HW.out.1 (Nat.le_refl _) n'.h,HW.out.2.1.keep n'.h⟩
        go_wp2
        go_ret
        exact⟨.no HN.out,HI2.out.bel⟩
    . have hkn:n=k:=by omega
      subst hkn
      have HY:Hid (CertsOk p):=⟨by rw[HL.out];omega,by rw[HL.out];exact HT.out⟩
      go_wp2
      go_ret
      exact⟨.yes HY.out,HI.out.bel⟩
end Go.Proofs.YtdfmdgbolmbffaaGreat
namespace Go.Proofs.YtdfmdgbolmbffaaGreat
open Go.ChangeShapes Go.WideShapes Go.ChangeAt Go.RowKit
set_option linter.unusedVariables false
def errOf(n:Int):Value:=if n=0 then .nilIface else .iface 166 (.int .i64 n)
def SaysErr(e:Ending)(p:MP):Prop:=∃n,e=.returned (errOf n)/\FaultIs p n
theorem SaysErr.f1{p:MP}(h:¬RegionsOk p.regions):SaysErr (.returned (.iface 166 (.int .i64 1))) p:=⟨1,rfl,.inl ⟨rfl,h⟩⟩
theorem SaysErr.f2{p:MP}(h1:RegionsOk p.regions)(h:¬ConstsOk p.consts):SaysErr (.returned (.iface 166 (.int .i64 2))) p:=⟨2,rfl,.inr (.inl ⟨rfl,h1,h⟩)⟩
theorem SaysErr.f3{p:MP}(h1:RegionsOk p.regions/\ConstsOk p.consts)(h:¬FuncsOk p.funcs):SaysErr (.returned (.iface 166 (.int .i64 3))) p:=⟨3,rfl,.inr (.inr (.inl ⟨rfl,h1.1,h1.2,h⟩))⟩
theorem SaysErr.f4{p:MP}(h1:RegionsOk p.regions/\ConstsOk p.consts)(h2:FuncsOk p.funcs)(h:¬CodeOk p):SaysErr (.returned (.iface 166 (.int .i64 4))) p:=⟨4,rfl,.inr (.inr (.inr (.inl ⟨rfl,h1.1,h1.2,h2,h⟩)))⟩
theorem SaysErr.f5{p:MP}(h1:RegionsOk p.regions/\ConstsOk p.consts)(h2:FuncsOk p.funcs)(h3:CodeOk p)(h:¬CertsOk p):SaysErr (.returned (.iface 166 (.int .i64 5))) p:=⟨5,rfl,.inr (.inr (.inr (.inr (.inl ⟨rfl,h1.1,h1.2,h2,h3,h⟩))))⟩
theorem SaysErr.f0{p:MP}(h1:RegionsOk p.regions/\ConstsOk p.consts)(h2:FuncsOk p.funcs)(h3:CodeOk p)(h:CertsOk p):SaysErr (.returned .nilIface) p:=⟨0,rfl,.inr (.inr (.inr (.inr (.inr ⟨rfl,h1.1,h1.2,h2,h3,h⟩))))⟩
set_option maxHeartbeats 4000000 in
set_option maxRecDepth 100000 in
theorem checkProgram_any(v:VP)(p:MP)(w:World)(hs:p.small)(hw:p.wf)(h:RdP w v p)(hcap:RdRc w v.r p.regions)(hfp:RdFp w v.f p.funcs):
    Calls Tryz.prog 76 #[.agg #[v.r,v.k,v.f,v.t]] w fun e w'=>SaysErr e p/\Below w.heap.size w w':=by
  have H:Hid (p.small/\p.wf/\RdP w v p/\RdRc w v.r p.regions/\RdFp w v.f p.funcs):=⟨hs,hw,h,hcap,hfp⟩
  clear hs hw h hcap hfp
  have HI:Hid _:=In1.of w v.r v.k v.f v.t 36
  go_enter Tryz.func76,Tryz.ntmps76
  go_wp2_with fail
  refine(regionsHold_any v.r p.regions _ H.out.1.regions H.out.1.region (H.out.2.2.1.regions.keep HI.out.bel (Nat.le_refl _))).mono ?_
  rintro e u1 ⟨⟨b1,rfl,hb1⟩,rfl⟩
  cases b1
  . have HN:Hid (¬RegionsOk p.regions):=fun e=>by simp[e]at hb1
    clear hb1
    go_wp2
    go_ret
    exact⟨.f1 HN.out,HI.out.bel⟩
  have HR:Hid (RegionsOk p.regions):=hb1.1 rfl
  clear hb1
  go_wp2_with fail
  refine(constsHold_any v.k p.consts _ H.out.1.consts (fun c hc=>(W32_range (H.out.2.1.consts c hc).2).1) (H.out.2.2.1.consts.keep HI.out.bel (Nat.le_refl _))).mono ?_
  rintro e u2 ⟨⟨b2,rfl,hb2⟩,bl2⟩
  have HI2:Hid (In1 w u2 v.r v.k v.f v.t):=HI.out.keep bl2
  clear bl2
  cases b2
  . have HN:Hid (¬ConstsOk p.consts):=fun e=>by simp[e]at hb2
    clear hb2
    go_wp2
    go_ret
    exact⟨.f2 HR.out HN.out,HI2.out.bel⟩
  have HRC:Hid (RegionsOk p.regions/\ConstsOk p.consts):=⟨HR.out,hb2.1 rfl⟩
  clear hb2
  obtain⟨p0,p1,p2,p3⟩:=HI2.out.prog
  go_wp2_with fail
  refine(funcsHold_any v.f p.funcs _ H.out.1.funcs H.out.1.func (H.out.2.2.1.funcs.keep HI2.out.bel (Nat.le_refl _))).mono ?_
  rintro e u3 ⟨⟨b3,rfl,hb3⟩,bl3⟩
  have HI3:Hid (In1 w u3 v.r v.k v.f v.t):=HI2.out.keep bl3
  clear bl3 p0 p1 p2 p3
  cases b3
  . have HN:Hid (¬FuncsOk p.funcs):=fun e=>by simp[e]at hb3
    clear hb3
    go_wp2
    go_ret
    exact⟨.f3 HRC.out HN.out,HI3.out.bel⟩
  have HFo:Hid (FuncsOk p.funcs):=hb3.1 rfl
  clear hb3
  obtain⟨p0,p1,p2,p3⟩:=HI3.out.prog
  go_wp2_with fail
  refine(codeHolds_any v p _ H.out.1 H.out.2.1 HRC.out.1 HFo.out (H.out.2.2.1.keep HI3.out.bel (Nat.le_refl _)) (H.out.2.2.2.1.keep HI3.out.bel (Nat.le_refl _))).mono ?_
  rintro e u4 ⟨⟨b4,rfl,hb4⟩,bl4⟩
  have HI4:Hid (In1 w u4 v.r v.k v.f v.t):=HI3.out.keep bl4
  clear bl4 p0 p1 p2 p3
  cases b4
  . have HN:Hid (¬CodeOk p):=fun e=>by simp[e]at hb4
    clear hb4
    go_wp2
    go_ret
    exact⟨.f4 HRC.out HFo.out HN.out,HI4.out.bel⟩
  have HCo:Hid (CodeOk p):=hb4.1 rfl
  clear hb4
  obtain⟨p0,p1,p2,p3⟩:=HI4.out.prog
  go_wp2_with fail
  refine(certsHold_any v p _ H.out.1 (H.out.2.2.1.keep HI4.out.bel (Nat.le_refl _)) (H.out.2.2.2.2.keep HI4.out.bel (Nat.le_refl _))).mono ?_
  rintro e u5 ⟨⟨b5,rfl,hb5⟩,bl5⟩
  have HI5:Hid (Below w.heap.size w u5):=below_on HI4.out.bel (Nat.le_refl _) bl5
  clear bl5 p0 p1 p2 p3
  cases b5
  . have HN:Hid (¬CertsOk p):=fun e=>by simp[e]at hb5
    clear hb5
    go_wp2
    go_ret
    exact⟨.f5 HRC.out HFo.out HCo.out HN.out,HI5.out⟩
  . have HY:Hid (CertsOk p):=hb5.1 rfl
    clear hb5
    go_wp2
    go_ret
    exact⟨.f0 HRC.out HFo.out HCo.out HY.out,HI5.out⟩
end Go.Proofs.YtdfmdgbolmbffaaGreat
namespace Go.Proofs.YtdfmdgbolmbffaaGreat
open Go.ChangeShapes Go.WideShapes Go.ChangeAt Go.RowKit
set_option linter.unusedVariables false
theorem own_capR{w:World}{base:Nat}{e:TypeId}{s:Value}{k n:Nat}{xs:List Value}(h:w.ownsRow base e k s n xs):∃a c,s=.slice a n c/\n<=c:=by
  rcases h.2 with⟨rfl,rfl⟩|⟨g,cap,cur,rfl,_,_,hc,_⟩
  . exact⟨_,_,rfl,Nat.le_refl _⟩
  . exact⟨_,_,rfl,hc⟩
theorem own_placed{w:World}{base:Nat}{e:TypeId}{s:Value}{k n:Nat}{xs:List Value}(h:w.ownsRow base e k s n xs):Placed s:=by
  rcases h.2 with⟨rfl,rfl⟩|⟨g,cap,cur,rfl,_⟩
  . exact .inl rfl
  . exact .inr ⟨_,_,_,rfl⟩
theorem OwnR.rdc{w:World}{base:Nat}{s:Value}{rs:List (List Int)}(h:OwnR w base s rs):RdRc w s rs:=by
  obtain⟨xs,h1,h2,h3⟩:=h
  exact⟨xs,h1,Rd.of_own h2,fun x hx=>⟨Rd.of_own (h3 x hx),own_capR (h3 x hx)⟩⟩
theorem OwnFs.rdp{w:World}{base:Nat}{s:Value}{fs:List MF}(h:OwnFs w base s fs):RdFp w s fs:=by
  obtain⟨xs,h1,h2,h3⟩:=h
  exact⟨xs,h1,Rd.of_own h2,fun x hx=>⟨(h3 x hx).rd,own_placed (h3 x hx).1,own_placed (h3 x hx).2.1⟩⟩
end Go.Proofs.YtdfmdgbolmbffaaGreat
