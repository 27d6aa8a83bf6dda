import Derived.Test.YtdfmdgbolmbffaaGreatTy3
import Derived.Test.YtdfmdgbolmbffaaGreatTy9
import Derived.Test.YtdfmdgbolmbffaaGreatTy14
import Derived.OneCell
import Derived.Test.YtdfmdgbolmbffaaGreatTy11
import Derived.Test.YtdfmdgbolmbffaaGreatTy10
import Derived.Deep.RegionLaw
namespace Go.Proofs.YtdfmdgbolmbffaaGreat
open Go.ChangeShapes Go.WideShapes Go.ChangeAt Go.RowKit
set_option linter.unusedVariables false
theorem same_ne{α:Type}{xs ys:List α}{k:Nat}{x y:α}(h1:xs[k]?=some x)(h2:ys[k]?=some y)(h:¬x=y):¬xs=ys:=by
  rintro rfl
  rw[h1]at h2
  exact h (Option.some.inj h2)
theorem same_next{α:Type}{xs ys:List α}{k:Nat}{x:α}(h1:xs[k]?=some x)(h2:ys[k]?=some x)(h:∀j,j<k->xs[j]?=ys[j]?):∀j,j<k+1->xs[j]?=ys[j]?:=by
  intro j hj
  by_cases e:j=k
  . subst e
    rw[h1,h2]
  . exact h j (by omega)
theorem same_all{α:Type}{xs ys:List α}{n:Nat}(h1:xs.length=n)(h2:ys.length=n)(h:∀j,j<n->xs[j]?=ys[j]?):xs=ys:=by
  apply List.ext_getElem?
  intro j
  by_cases hj:j<n
  . exact h j hj
  . rw[List.getElem?_eq_none (by omega),List.getElem?_eq_none (by omega)]
set_option maxHeartbeats 1000000 in
theorem l3Same_any(s s':Value)(xs ys:List Int)(w:World)(hn:xs.length<=1048576)(hn':ys.length<=1048576)(h:Rd w 1 s xs.length (xs.flatMap intCell))(h':Rd w 1 s' ys.length (ys.flatMap intCell)):
    Calls Tryz.prog 30 #[s,s'] w fun e w'=>SaysIff e (xs=ys)/\∃m,w'=w.drewN m:=by
  have H1:Hid (Rd w 1 s xs.length (xs.flatMap intCell)):=h
  have H2:Hid (Rd w 1 s' ys.length (ys.flatMap intCell)):=h'
  obtain⟨a1,c1,rfl⟩:=h.is_slice
  obtain⟨a2,c2,rfl⟩:=h'.is_slice
  clear h h'
  by_cases hll:xs.length=ys.length
  . rw [← hll]at H2
    rw[<-hll]
    clear hn'
    generalize hLL:xs.length=n at hn H1 H2
    have HL:Hid (xs.length=n/\ys.length=n):=⟨hLL,hll▸hLL⟩
    clear hLL hll
    go_enter Tryz.func30,Tryz.ntmps30
    go_wp2
    go_loopw [5] (fun i wr=>∃k:Nat,k<=n/\i=.int .i64 k/\Hid (∀j,j<k->xs[j]?=ys[j]?)/\∃m,wr=w.drewN m) (fun i _=>n-(intOf i).toNat)
    case atStart=>exact⟨0,by omega,rfl,fun j hj=>by omega,0,rfl⟩
    case round=>
      obtain⟨k,hk,rfl,HT,m,rfl⟩:=hrel
      by_cases hlt:k<n
      . obtain⟨x,hx⟩:∃x,xs[k]?=some x:=⟨_,List.getElem?_eq_getElem (by rw[HL.out.1];exact hlt)⟩
        obtain⟨y,hy⟩:∃y,ys[k]?=some y:=⟨_,List.getElem?_eq_getElem (by rw[HL.out.2];exact hlt)⟩
        rcases H1.out.2 with⟨e0,_⟩|⟨g,o,c,e1,hc1⟩
        . omega
        . rcases H2.out.2 with⟨e0,_⟩|⟨g',o',c',e2,hc2⟩
          . omega
          . simp only[Value.slice.injEq,true_and]at e1 e2
            obtain⟨rfl,rfl⟩:=e1
            obtain⟨rfl,rfl⟩:=e2
            have i0:=Rd.elem intCell_length hc1 k x hx 0 _ rfl
            have j0:=Rd.elem intCell_length hc2 k y hy 0 _ rfl
            rw[Nat.mul_one,Nat.add_zero]at i0 j0
            have HX:Hid (xs[k]?=some x/\ys[k]?=some y):=⟨hx,hy⟩
            clear hc1 hc2 hx hy
            by_cases hxy:x=y
            . subst hxy
              go_wp2
              go_quiet (fail)
              go_wp2
              go_roundw
              case rel=>exact⟨k+1,by omega,by go_num,same_next HX.out.1 HX.out.2 HT.out,_,rfl⟩
              case measure=>simp[intOf];omega
            . go_wp2
              go_quiet (fail)
              go_wp2
              go_ret
              exact⟨.no (same_ne HX.out.1 HX.out.2 hxy),m+nq,World.drewN_drewN _ _ _⟩
      . have hkn:k=n:=by omega
        subst hkn
        go_wp2
        go_ret
        exact⟨.yes (same_all HL.out.1 HL.out.2 HT.out),_,rfl⟩
  . have hne:¬xs=ys:=fun e=>hll (by rw[e])
    clear H1 H2
    generalize xs.length=n at*
    generalize ys.length=n' at*
    have HN:Hid (¬xs=ys):=hne
    clear hne
    have hi:¬(n:Int)=(n':Int):=by omega
    go_enter Tryz.func30,Tryz.ntmps30
    go_wp2
    go_ret
    exact⟨.no HN.out,0,rfl⟩
set_option maxHeartbeats 1000000 in
theorem slicesEq64_any(s s':Value)(xs ys:List Int)(w:World)(hn:xs.length<=1048576)(hn':ys.length<=1048576)(h:Rd w 1 s xs.length (xs.flatMap intCell))(h':Rd w 1 s' ys.length (ys.flatMap intCell)):
    Calls Tryz.prog 89 #[s,s'] w fun e w'=>SaysIff e (xs=ys)/\∃m,w'=w.drewN m:=by
  have H1:Hid (Rd w 1 s xs.length (xs.flatMap intCell)):=h
  have H2:Hid (Rd w 1 s' ys.length (ys.flatMap intCell)):=h'
  obtain⟨a1,c1,rfl⟩:=h.is_slice
  obtain⟨a2,c2,rfl⟩:=h'.is_slice
  clear h h'
  by_cases hll:xs.length=ys.length
  . rw [← hll]at H2
    rw[<-hll]
    clear hn'
    generalize hLL:xs.length=n at hn H1 H2
    have HL:Hid (xs.length=n/\ys.length=n):=⟨hLL,hll▸hLL⟩
    clear hLL hll
    go_enter Tryz.func89,Tryz.ntmps89
    go_wp2
    go_loopw [13] (fun i wr=>∃k:Nat,k<=n/\i=.int .i64 k/\Hid (∀j,j<k->xs[j]?=ys[j]?)/\∃m,wr=w.drewN m) (fun i _=>n-(intOf i).toNat)
    case atStart=>exact⟨0,by omega,rfl,fun j hj=>by omega,0,rfl⟩
    case round=>
      obtain⟨k,hk,rfl,HT,m,rfl⟩:=hrel
      by_cases hlt:k<n
      . obtain⟨x,hx⟩:∃x,xs[k]?=some x:=⟨_,List.getElem?_eq_getElem (by rw[HL.out.1];exact hlt)⟩
        obtain⟨y,hy⟩:∃y,ys[k]?=some y:=⟨_,List.getElem?_eq_getElem (by rw[HL.out.2];exact hlt)⟩
        rcases H1.out.2 with⟨e0,_⟩|⟨g,o,c,e1,hc1⟩
        . omega
        . rcases H2.out.2 with⟨e0,_⟩|⟨g',o',c',e2,hc2⟩
          . omega
          . simp only[Value.slice.injEq,true_and]at e1 e2
            obtain⟨rfl,rfl⟩:=e1
            obtain⟨rfl,rfl⟩:=e2
            have i0:=Rd.elem intCell_length hc1 k x hx 0 _ rfl
            have j0:=Rd.elem intCell_length hc2 k y hy 0 _ rfl
            rw[Nat.mul_one,Nat.add_zero]at i0 j0
            have HX:Hid (xs[k]?=some x/\ys[k]?=some y):=⟨hx,hy⟩
            clear hc1 hc2 hx hy
            by_cases hxy:x=y
            . subst hxy
              go_wp2
              go_quiet (fail)
              go_wp2
              go_roundw
              case rel=>exact⟨k+1,by omega,by go_num,same_next HX.out.1 HX.out.2 HT.out,_,rfl⟩
              case measure=>simp[intOf];omega
            . go_wp2
              go_quiet (fail)
              go_wp2
              go_ret
              exact⟨.no (same_ne HX.out.1 HX.out.2 hxy),m+nq,World.drewN_drewN _ _ _⟩
      . have hkn:k=n:=by omega
        subst hkn
        go_wp2
        go_ret
        exact⟨.yes (same_all HL.out.1 HL.out.2 HT.out),_,rfl⟩
  . have hne:¬xs=ys:=fun e=>hll (by rw[e])
    clear H1 H2
    generalize xs.length=n at*
    generalize ys.length=n' at*
    have HN:Hid (¬xs=ys):=hne
    clear hne
    have hi:¬(n:Int)=(n':Int):=by omega
    go_enter Tryz.func89,Tryz.ntmps89
    go_wp2
    go_ret
    exact⟨.no HN.out,0,rfl⟩
end Go.Proofs.YtdfmdgbolmbffaaGreat
namespace Go.Proofs.YtdfmdgbolmbffaaGreat
open Go.ChangeShapes Go.WideShapes Go.ChangeAt Go.RowKit
set_option linter.unusedVariables false
set_option maxHeartbeats 1000000 in
set_option maxRecDepth 100000 in
theorem localType_any(x0 x1 x2 x3:Value)(g:VF)(f:MF)(n:Nat)(z:Int)(w:World)(hs:f.small)(h:RdF w g f)(hz:(f.params++f.locals)[n]?=some z):
    Calls Tryz.prog 161 #[.agg #[x0,x1,x2,x3,g.p,.int .i64 f.result,g.l,g.c],.int .i64 (n:Int)] w fun e w'=>e=.returned (.int .i64 z)/\Below w.heap.size w w':=by
  obtain⟨a1,c1,e1⟩:=h.1.is_slice
  obtain⟨a2,c2,e2⟩:=h.2.1.is_slice
  obtain⟨vp,vl,vc⟩:=g
  obtain⟨s1,s2,s3⟩:=hs
  simp only[]at e1 e2
  subst e1 e2
  have HB:Hid (Below w.heap.size w (w.alloc (.cells #[x0,x1,x2,x3,.slice a1 f.params.length c1,.int .i64 f.result,.slice a2 f.locals.length c2,vc] 85))):=below_alloc _ _
  by_cases q:n<f.params.length
  . rw[List.getElem?_append_left q]at hz
    have hq:(n:Int)<(f.params.length:Int):=by omega
    rcases h.1.2 with⟨e0,_⟩|⟨gr,gor,gcr,e1,hc2⟩
    . omega
    simp only[Value.slice.injEq,true_and]at e1
    obtain⟨rfl,rfl⟩:=e1
    have l0:=Rd.elem intCell_length hc2 n z hz 0 _ rfl
    rw[Nat.mul_one,Nat.add_zero]at l0
    have l1:=(HB.out.cell (block_lt_of_cell l0)).trans l0
    have nb:¬gr=w.heap.size:=Nat.ne_of_lt (block_lt_of_cell l0)
    clear h hz hc2
    generalize f.params.length=N at*
    generalize f.locals.length=M at*
    go_enter Tryz.func161,Tryz.ntmps161
    go_wp2
    go_ret
    exact⟨rfl,HB.out⟩
  . rw[List.getElem?_append_right (by omega)]at hz
    have hlt:=(List.getElem?_eq_some_iff.1 hz).1
    obtain⟨d,rfl⟩:∃d,n=f.params.length+d:=⟨n-f.params.length,by omega⟩
    rw[Nat.add_sub_cancel_left]at hz
    have hq:¬((f.params.length+d:Nat):Int)<(f.params.length:Int):=by omega
    rcases h.2.1.2 with⟨e0,_⟩|⟨gr,gor,gcr,e1,hc2⟩
    . omega
    simp only[Value.slice.injEq,true_and]at e1
    obtain⟨rfl,rfl⟩:=e1
    have l0:=Rd.elem intCell_length hc2 d z hz 0 _ rfl
    rw[Nat.mul_one,Nat.add_zero]at l0
    have l1:=(HB.out.cell (block_lt_of_cell l0)).trans l0
    have nb:¬gr=w.heap.size:=Nat.ne_of_lt (block_lt_of_cell l0)
    have hd:d<f.locals.length:=by omega
    clear h hz hc2 q hlt
    generalize f.params.length=N at*
    generalize f.locals.length=M at*
    have hsub:((N+d:Nat):Int)-(N:Int)=(d:Int):=by omega
    go_enter Tryz.func161,Tryz.ntmps161
    go_wp2
    go_ret
    exact⟨rfl,HB.out⟩
end Go.Proofs.YtdfmdgbolmbffaaGreat
namespace Go.Proofs.YtdfmdgbolmbffaaGreat
open Go.ChangeShapes Go.WideShapes Go.ChangeAt Go.RowKit
set_option linter.unusedVariables false
theorem bcell_lt{w u:World}(hb:Below w.heap.size w u){a:Addr}{x:Value}(h:w.cell? a=some x):u.cell? a=some x:=by rw[hb.cell (block_lt_of_cell h)];exact h
theorem own_type_ne{w:World}{base g k n:Nat}{e t:TypeId}{s:Value}{xs:List Value}{cur:Array Value}{fr:Nat×Nat}(h:w.ownsRow base e k s n xs)(hg:w.heap[g]?=some (Obj.cells cur t fr))(hne:e≠t):∀j,s.ownBlock=some j->j≠g:=by
  intro j hj e1
  subst e1
  rcases h.2 with⟨rfl,_⟩|⟨g',cap',cur',rfl,_,hg',_⟩
  . cases hj
  . simp only[Value.ownBlock,Option.some.injEq]at hj
    subst hj
    rw[hg]at hg'
    simp only[Option.some.injEq,Obj.cells.injEq]at hg'
    exact hne hg'.2.1.symm
structure C28(w u:World)(v:VP)(g:VF)(f fq:MF)(q b c:Int)(X Y:Nat)(tv gv:Value):Prop where
  in4:In4 w u v g f 28 q b c
  fb:u.cell? ⟨X,1,none⟩=some (.int .i64 fq.result)
  eb:Blk u Y #[tv,gv] 124
  own:u.ownsRow w.heap.size 2 1 tv fq.params.length (fq.params.flatMap intCell)
  yR:w.heap.size+1+1+1<Y
  XY:X<Y
theorem C28.done{w u:World}{v:VP}{g:VF}{f fq:MF}{q b c:Int}{X Y:Nat}{tv gv:Value}(h:C28 w u v g f fq q b c X Y tv gv)(gs:List Int)(ho:u.ownsRow w.heap.size 2 1 gv gs.length (gs.flatMap intCell)):
    EffIs w fq.params gs (.returned (.agg #[tv,gv])) ((u.setCell ⟨w.heap.size+1+1+1,0,none⟩ tv).setCell ⟨w.heap.size+1+1+1,1,none⟩ gv)/\((u.setCell ⟨w.heap.size+1+1+1,0,none⟩ tv).setCell ⟨w.heap.size+1+1+1,1,none⟩ gv).cell? ⟨w.heap.size+1+1+1,0,none⟩=some tv/\((u.setCell ⟨w.heap.size+1+1+1,0,none⟩ tv).setCell ⟨w.heap.size+1+1+1,1,none⟩ gv).cell? ⟨w.heap.size+1+1+1,1,none⟩=some gv:=by
  have R1:=h.in4.rb.set 0 tv
  have R2:=R1.set 1 gv
  have q0:=R2.cell 0
  have q1:=R2.cell 1
  simp only[List.setIfInBounds_toArray,List.set_cons_zero,List.set_cons_succ,List.getElem?_toArray,List.getElem?_cons_zero,List.getElem?_cons_succ]at q0 q1
  have keep:∀{s:Value} {m:Nat} {xs:List Value},u.ownsRow w.heap.size 2 1 s m xs->((u.setCell ⟨w.heap.size+1+1+1,0,none⟩ tv).setCell ⟨w.heap.size+1+1+1,1,none⟩ gv).ownsRow w.heap.size 2 1 s m xs:=fun hs=>by
    have h1:=ownsRow_setCell_other hs (a:=⟨w.heap.size+1+1+1,0,none⟩) (fun e=>own_type_ne hs h.in4.rb (by decide) _ e rfl) tv
    exact ownsRow_setCell_other h1 (a:=⟨w.heap.size+1+1+1,1,none⟩) (fun e=>own_type_ne h1 R1 (by decide) _ e rfl) gv
  exact⟨⟨_,_,rfl,Rd.of_own (keep h.own),Rd.of_own (keep ho),(h.in4.in3.bel.setCell (by simp only[];omega) _).setCell (by simp only[];omega) _⟩,q0,q1⟩
theorem C28.res{w u:World}{v:VP}{g:VF}{f fq:MF}{q b c:Int}{X Y:Nat}{tv:Value}(h:C28 w u v g f fq q b c X Y tv (.slice none 0 0)):
    C28 w ((u.setCell ⟨Y,1,none⟩ (.slice (some ⟨u.heap.size,0,none⟩) 1 1)).alloc (.cells #[.int .i64 fq.result] 2)) v g f fq q b c X Y tv (.slice (some ⟨u.heap.size,0,none⟩) 1 1)/\((u.setCell ⟨Y,1,none⟩ (.slice (some ⟨u.heap.size,0,none⟩) 1 1)).alloc (.cells #[.int .i64 fq.result] 2)).ownsRow w.heap.size 2 1 (.slice (some ⟨u.heap.size,0,none⟩) 1 1) 1 ([fq.result].flatMap intCell):=by
  have hYR:=h.yR
  have hXY:=h.XY
  have R1:=h.eb.set 1 (.slice (some ⟨u.heap.size,0,none⟩) 1 1)
  have o1:=ownsRow_setCell_other h.own (a:=⟨Y,1,none⟩) (fun e=>own_type_ne h.own h.eb (by decide) _ e rfl) (.slice (some ⟨u.heap.size,0,none⟩) 1 1)
  have f1:(u.setCell ⟨Y,1,none⟩ (.slice (some ⟨u.heap.size,0,none⟩) 1 1)).cell? ⟨X,1,none⟩=some (.int .i64 fq.result):=by
    rw[World.cell?_of_block (heap_setCell_other u ⟨Y,1,none⟩ _ _ (by simp only[];omega))]
    exact h.fb
  have i1:In4 w (u.setCell ⟨Y,1,none⟩ (.slice (some ⟨u.heap.size,0,none⟩) 1 1)) v g f 28 q b c:=by
    have oc:∀{b' i:Nat} {x:Value},b'<w.heap.size+1+1+1->u.cell? ⟨b',i,none⟩=some x->(u.setCell ⟨Y,1,none⟩ (.slice (some ⟨u.heap.size,0,none⟩) 1 1)).cell? ⟨b',i,none⟩=some x:=fun hb hx=>by
      rw[World.cell?_of_block (heap_setCell_other u ⟨Y,1,none⟩ _ _ (by simp only[];omega))]
      exact hx
    have A:=h.in4.in3
    exact⟨⟨A.bel.setCell (by simp only[];omega) _,⟨oc (by omega) A.prog.c0,oc (by omega) A.prog.c1,oc (by omega) A.prog.c2,oc (by omega) A.prog.c3⟩,⟨oc (by omega) A.func.c0,oc (by omega) A.func.c1,oc (by omega) A.func.c2,oc (by omega) A.func.c3⟩,⟨oc (by omega) A.ins.c0,oc (by omega) A.ins.c1,oc (by omega) A.ins.c2,oc (by omega) A.ins.c3⟩⟩,h.in4.rb.other (by simp only[];omega) _⟩
  have z1:(u.setCell ⟨Y,1,none⟩ (.slice (some ⟨u.heap.size,0,none⟩) 1 1)).heap.size=u.heap.size:=World.size_setCell _ _ _
  generalize u.setCell ⟨Y,1,none⟩ (.slice (some ⟨u.heap.size,0,none⟩) 1 1)=u1 at R1 o1 f1 i1 z1⊢
  have b1:=below_alloc u1 (.cells #[.int .i64 fq.result] 2)
  have n1:=Blk.new u1 #[.int .i64 fq.result] 2
  rw[z1]at n1
  have hB:=i1.in3.bel.size
  exact⟨⟨i1.keep b1,bcell_lt b1 f1,R1.keep b1,own_keep o1 b1 (Nat.le_refl _),hYR,hXY⟩,⟨rfl,.inr ⟨u.heap.size,1,_,rfl,by omega,n1,Nat.le_refl _,by unfold maxLen;omega,rfl,rfl⟩⟩⟩
set_option maxHeartbeats 4000000 in
set_option maxRecDepth 100000 in
theorem l4Of_28(vr vk vt gp gl gc:Value)(f:MF)(fs:List MF)(af:Option Addr)(cf q:Nat)(fq:MF)(b c:Int)(w:World)(hn:fs.length<=1048576)(hm:fq.small)(hf:RdFs w (.slice af fs.length cf) fs)(hq:fs[q]?=some fq):
    Calls Tryz.prog 71 #[.agg #[vr,vk,.slice af fs.length cf,vt],.agg #[gp,.int .i64 f.result,gl,gc],.agg #[.int .i64 28,.int .i64 q,.int .i64 b,.int .i64 c]] w (EffIs w fq.params (resultL fq)):=by
  obtain⟨i0,hi,hy0,hy1,hy2⟩:=info_parts info64
  obtain⟨xs,h1,h2,h3⟩:=hf
  have hlt:=(List.getElem?_eq_some_iff.1 hq).1
  obtain⟨⟨f',y⟩,hx⟩:∃x,xs[q]?=some x:=⟨_,List.getElem?_eq_getElem (by rw[<-List.length_map (f:=Prod.fst),h1];exact hlt)⟩
  have e2:=fst_at h1 hx
  rw[hq]at e2
  obtain rfl:fq=f':=Option.some.inj e2
  have hy:=h3 _ (List.mem_of_getElem? hx)
  simp only[]at hy
  rcases h2.2 with⟨e0,_⟩|⟨g,o,c',e1,hc⟩
  . omega
  simp only[Value.slice.injEq,true_and]at e1
  obtain⟨rfl,rfl⟩:=e1
  have k1:=Rd.elem fCells_length hc q _ hx 0 _ rfl
  have k2:=Rd.elem fCells_length hc q _ hx 1 _ rfl
  have k3:=Rd.elem fCells_length hc q _ hx 2 _ rfl
  have k4:=Rd.elem fCells_length hc q _ hx 3 _ rfl
  rw[Nat.add_zero]at k1
  obtain⟨yp,yl,yc⟩:=y
  simp only[]at k1 k2 k3 k4
  obtain⟨ap,cp,rfl⟩:∃a c,yp=.slice a fq.params.length c:=hy.1.is_slice
  obtain⟨al,cl,rfl⟩:∃a c,yl=.slice a fq.locals.length c:=hy.2.1.is_slice
  obtain⟨ac,cc,rfl⟩:∃a c,yc=.slice a fq.code.length c:=hy.2.2.is_slice
  have HK:Hid (w.cell? ⟨g,o+q*4,none⟩=some (.slice ap fq.params.length cp)/\w.cell? ⟨g,o+q*4+1,none⟩=some (.int .i64 fq.result)/\w.cell? ⟨g,o+q*4+2,none⟩=some (.slice al fq.locals.length cl)/\w.cell? ⟨g,o+q*4+3,none⟩=some (.slice ac fq.code.length cc)/\Rd w 1 (.slice ap fq.params.length cp) fq.params.length (fq.params.flatMap intCell)/\fq.params.length<=1048576):=⟨k1,k2,k3,k4,hy.1,hm.1⟩
  clear hc k1 k2 k3 k4 hq h2 h3 hy hx e2 h1 hm
  generalize fs.length=n at hlt hn⊢
  have hltI:(q:Int)<(n:Int):=by omega
  have E0:Hid _:=In4.of w ⟨vr,vk,.slice (some ⟨g,o,none⟩) n cf,vt⟩ ⟨gp,gl,gc⟩ f 28 q b c
  have hS:Hid (∀w,Calls Tryz.prog 98 #[.int .i64 28] w fun e w'=>e=.returned (.agg #[.string ⟨#[99,97,108,108]⟩,.int .i64 4,.int .i64 11])/\Below w.heap.size w w'):=fun w=>SInfo_any 28 w
  have hfl:=field_form
  go_enter Tryz.func71,Tryz.ntmps71
  go_wp2_with fail
  refine(hS.out _).mono ?_
  rintro e u1 ⟨rfl,b1⟩
  have E1:Hid _:=E0.out.keep b1
  clear E0 b1 hS
  have x0:=E1.out.in3.ins.c0
  have x1:=E1.out.in3.ins.c1
  have x2:=E1.out.in3.ins.c2
  have p2:=E1.out.in3.prog.c2
  have k1:u1.cell? ⟨g,o+q*4,none⟩=some (.slice ap fq.params.length cp):=bcell_lt E1.out.in3.bel HK.out.1
  have k2:u1.cell? ⟨g,o+q*4+1,none⟩=some (.int .i64 fq.result):=bcell_lt E1.out.in3.bel HK.out.2.1
  have k3:u1.cell? ⟨g,o+q*4+2,none⟩=some (.slice al fq.locals.length cl):=bcell_lt E1.out.in3.bel HK.out.2.2.1
  have k4:u1.cell? ⟨g,o+q*4+3,none⟩=some (.slice ac fq.code.length cc):=bcell_lt E1.out.in3.bel HK.out.2.2.2.1
  generalize hNP:fq.params.length=np at k1 HK
  generalize fq.locals.length=nl at k3 HK
  generalize fq.code.length=nc at k4 HK
  have HNP:Hid (fq.params.length=np):=hNP
  clear hNP
  have lt1:w.heap.size+1+1+1<u1.heap.size:=E1.out.rb.lt
  have ne1:¬w.heap.size+1+1+1=u1.heap.size:=by omega
  have F1:Hid (Blk (u1.alloc (.cells #[.slice ap np cp,.int .i64 fq.result,.slice al nl cl,.slice ac nc cc] 63)) u1.heap.size #[.slice ap np cp,.int .i64 fq.result,.slice al nl cl,.slice ac nc cc] 63/\Below u1.heap.size u1 (u1.alloc (.cells #[.slice ap np cp,.int .i64 fq.result,.slice al nl cl,.slice ac nc cc] 63))):=⟨Blk.new _ _ _,below_alloc _ _⟩
  have F2:Hid (True/\Below u1.heap.size u1 ((u1.alloc (.cells #[.slice ap np cp,.int .i64 fq.result,.slice al nl cl,.slice ac nc cc] 63)).alloc (.cells #[] 2))/\((u1.alloc (.cells #[.slice ap np cp,.int .i64 fq.result,.slice al nl cl,.slice ac nc cc] 63)).alloc (.cells #[] 2)).ownsRow w.heap.size 2 1 (.slice (some ⟨u1.heap.size+1,0,none⟩) 0 0) 0 []):=by
    have n2:=Blk.new (u1.alloc (.cells #[.slice ap np cp,.int .i64 fq.result,.slice al nl cl,.slice ac nc cc] 63)) #[] 2
    rw[show(u1.alloc (.cells #[.slice ap np cp,.int .i64 fq.result,.slice al nl cl,.slice ac nc cc] 63)).heap.size=u1.heap.size+1 by simp]at n2
    exact⟨trivial,below_on F1.out.2 (Nat.le_refl _) (below_alloc _ _),⟨rfl,.inr ⟨u1.heap.size+1,0,#[],rfl,by omega,n2,Nat.le_refl _,Nat.zero_le _,rfl,by simp⟩⟩⟩
  cases ap with
  | none=>
    have hz:np=0:=by
      rcases HK.out.2.2.2.2.1.2 with⟨e0,_⟩|⟨g',o',c'',e1,_⟩
      . exact e0
      . cases e1
    subst hz
    go_upto_region 21 with fail
    refine wp_world (fun u=>Hid (C28 w u ⟨vr,vk,.slice (some ⟨g,o,none⟩) n cf,vt⟩ ⟨gp,gl,gc⟩ f fq q b c u1.heap.size (u1.heap.size+1+1) (.slice (some ⟨u1.heap.size+1,0,none⟩) 0 0) (.slice none 0 0))) ?_ ?_
    . have b5:=below_alloc ((u1.alloc (.cells #[.slice none 0 cp,.int .i64 fq.result,.slice al nl cl,.slice ac nc cc] 63)).alloc (.cells #[] 2)) (.cells #[.slice (some ⟨u1.heap.size+1,0,none⟩) 0 0,.slice none 0 0] 124)
      have n5:=Blk.new ((u1.alloc (.cells #[.slice none 0 cp,.int .i64 fq.result,.slice al nl cl,.slice ac nc cc] 63)).alloc (.cells #[] 2)) #[.slice (some ⟨u1.heap.size+1,0,none⟩) 0 0,.slice none 0 0] 124
      rw[show((u1.alloc (.cells #[.slice none 0 cp,.int .i64 fq.result,.slice al nl cl,.slice ac nc cc] 63)).alloc (.cells #[] 2)).heap.size=u1.heap.size+1+1 by simp]at n5
      exact⟨(E1.out.keep F2.out.2.1).keep b5,bcell_lt b5 (bcell_lt (below_alloc _ _) (F1.out.1.cell 1)),n5,by rw[HNP.out,List.eq_nil_of_length_eq_zero HNP.out];exact own_keep F2.out.2.2 b5 (Nat.le_refl _),by omega,by omega⟩
    rintro u5 HC
    have hy0':=HC.out.eb.cell 0
    have hy1':=HC.out.eb.cell 1
    have hz1':=HC.out.eb.frozen 1
    have fb:=HC.out.fb
    have yR:=HC.out.yR
    have XY:=HC.out.XY
    have neY:¬w.heap.size+1+1+1=(u1.heap.size+1+1):=by omega
    have neY':¬(u1.heap.size+1+1)=w.heap.size+1+1+1:=by omega
    simp only[List.getElem?_toArray,List.getElem?_cons_zero,List.getElem?_cons_succ]at hy0' hy1'
    by_cases hr:fq.result=0
    . have HR:Hid (resultL fq=[]):=if_pos hr
      have hr':(fq.result != 0)=false:=by simpa using hr
      have hr2:(fq.result==0)=true:=by simpa using hr
      have r0:=HC.out.in4.rb.cell 0
      have r1:=HC.out.in4.rb.cell 1
      have z0:=HC.out.in4.rb.frozen 0
      have z1:=HC.out.in4.rb.frozen 1
      simp only[List.getElem?_toArray,List.getElem?_cons_zero,List.getElem?_cons_succ]at r0 r1
      go_wp2_with fail
      rw[HR.out]
      obtain⟨he,q0,q1⟩:=HC.out.done [] (World.ownsRow_nil _ _ _ _)
      exact bodyPost_ret (by simp[results,Tryz.results71,go_sem,q0,q1]) rfl he
    . have HR:Hid (resultL fq=[fq.result]):=if_neg hr
      have hr':(fq.result != 0)=true:=by simpa using hr
      have hr2:(fq.result==0)=false:=by simpa using hr
      have neU:¬(u1.heap.size+1+1)=u5.heap.size:=by have:=HC.out.eb.lt;omega
      have ltU:(u1.heap.size+1+1)<u5.heap.size:=HC.out.eb.lt
      go_upto_region 23 with fail
      refine wp_world (fun u=>Hid (C28 w u ⟨vr,vk,.slice (some ⟨g,o,none⟩) n cf,vt⟩ ⟨gp,gl,gc⟩ f fq q b c u1.heap.size (u1.heap.size+1+1) (.slice (some ⟨u1.heap.size+1,0,none⟩) 0 0) (.slice (some ⟨u5.heap.size,0,none⟩) 1 1)/\u.ownsRow w.heap.size 2 1 (.slice (some ⟨u5.heap.size,0,none⟩) 1 1) 1 ([fq.result].flatMap intCell))) (HC.out.res) ?_
      rintro u6 HC6
      clear hy0' hy1' hz1' fb
      have hy0':=HC6.out.1.eb.cell 0
      have hy1':=HC6.out.1.eb.cell 1
      have r0:=HC6.out.1.in4.rb.cell 0
      have r1:=HC6.out.1.in4.rb.cell 1
      have z0:=HC6.out.1.in4.rb.frozen 0
      have z1:=HC6.out.1.in4.rb.frozen 1
      simp only[List.getElem?_toArray,List.getElem?_cons_zero,List.getElem?_cons_succ]at hy0' hy1' r0 r1
      go_wp2_with fail
      rw[HR.out]
      obtain⟨he,q0,q1⟩:=HC6.out.1.done [fq.result] HC6.out.2
      exact bodyPost_ret (by simp[results,Tryz.results71,go_sem,q0,q1]) rfl he
  | some ad=>
    have HO:Hid (((u1.alloc (.cells #[.slice (some ad) np cp,.int .i64 fq.result,.slice al nl cl,.slice ac nc cc] 63)).alloc (.cells #[] 2)).ownsRow w.heap.size 2 1 (.slice (some ⟨u1.heap.size+1,0,none⟩) 0 0) 0 []):=F2.out.2.2
    have HN:Hid (∀j u,(fq.params.flatMap intCell)[j]?=some u->((u1.alloc (.cells #[.slice (some ad) np cp,.int .i64 fq.result,.slice al nl cl,.slice ac nc cc] 63)).alloc (.cells #[] 2)).cell? (ad.add j)=some u):=fun j u hj=>by
      rcases HK.out.2.2.2.2.1.2 with⟨e0,_⟩|⟨g',o',c'',e1,hc'⟩
      . have hl:(fq.params.flatMap intCell).length=0:=by rw[flat_length intCell 1 intCell_length,HNP.out,e0]
        rw[List.eq_nil_of_length_eq_zero hl]at hj
        simp at hj
      . simp only[Value.slice.injEq,Option.some.injEq]at e1
        obtain⟨rfl,_,_⟩:=e1
        have:=hc' j u hj
        rw[add_at]
        exact bcell_lt F2.out.2.1 (bcell_lt E1.out.in3.bel this)
    have HL:Hid ((fq.params.flatMap intCell).length=np*1/\np<=1048576):=⟨by rw[flat_length intCell 1 intCell_length,HNP.out],HK.out.2.2.2.2.2⟩
    go_wp2_with (at_builtin;refine wpList_append_own _ rfl _ _ 48 rfl w.heap.size 2 i0 (.int .i64 0) 1 8 Tryz.underlying48 hi hy0 hy1 hy2 rfl (by decide) _ 0 [] rfl HO.out ad np cp (fq.params.flatMap intCell) rfl HL.out.1 HN.out ?c1 ?c2 ?c3 ?c4 ?_)
    case c1=>
      intro u hu
      obtain⟨z,_,hz⟩:=List.mem_flatMap.1 hu
      simp[intCell]at hz
      subst hz
      rfl
    case c2=>have:=HL.out.2;unfold maxLen;omega
    case c3=>have:=HL.out.2;omega
    case c4=>have:=F2.out.2.1.size;omega
    intro v' w' hown' hgrow' hnil'
    obtain⟨a2,c2,rfl⟩:∃a c,v'=.slice a np c:=by
      have:=(Rd.of_own hown').is_slice
      simpa using this
    have HW:Hid (w'.ownsRow w.heap.size 2 1 (.slice a2 np c2) np (fq.params.flatMap intCell)/\Below u1.heap.size u1 w'/\w'.cell? ⟨u1.heap.size,1,none⟩=some (.int .i64 fq.result)/\u1.heap.size<w'.heap.size):=by
      have hb:Below (u1.heap.size+1) (u1.alloc (.cells #[.slice (some ad) np cp,.int .i64 fq.result,.slice al nl cl,.slice ac nc cc] 63)) w':=⟨hgrow'.os.trans rfl,hgrow'.tape.trans rfl,hgrow'.output.trans rfl,by have:=hgrow'.size;simp at this⊢;omega,fun k hk=>by
        rw[hgrow'.block k (by simp;omega) (by simp[Value.ownBlock];omega)]
        exact(below_alloc (u1.alloc (.cells #[.slice (some ad) np cp,.int .i64 fq.result,.slice al nl cl,.slice ac nc cc] 63)) (.cells #[] 2)).block k (by simp;omega)⟩
      have hsz:(u1.alloc (.cells #[.slice (some ad) np cp,.int .i64 fq.result,.slice al nl cl,.slice ac nc cc] 63)).heap.size=u1.heap.size+1:=by simp
      have hb':Below (u1.alloc (.cells #[.slice (some ad) np cp,.int .i64 fq.result,.slice al nl cl,.slice ac nc cc] 63)).heap.size (u1.alloc (.cells #[.slice (some ad) np cp,.int .i64 fq.result,.slice al nl cl,.slice ac nc cc] 63)) w':=by rw[hsz];exact hb
      refine⟨by simpa using hown',below_on F1.out.2 (Nat.le_refl _) hb',?_,by have:=hb'.size;omega⟩
      have:=(F1.out.1.keep hb').cell 1
      simpa using this
    clear hown' hgrow' hnil'
    go_upto_region 21 with fail
    refine wp_world (fun u=>Hid (C28 w u ⟨vr,vk,.slice (some ⟨g,o,none⟩) n cf,vt⟩ ⟨gp,gl,gc⟩ f fq q b c u1.heap.size w'.heap.size (.slice a2 np c2) (.slice none 0 0))) ?_ ?_
    . have b5:=below_alloc w' (.cells #[.slice a2 np c2,.slice none 0 0] 124)
      exact⟨(E1.out.keep HW.out.2.1).keep b5,bcell_lt b5 HW.out.2.2.1,Blk.new _ _ _,by rw[HNP.out];exact own_keep HW.out.1 b5 (Nat.le_refl _),by have:=HW.out.2.2.2;omega,HW.out.2.2.2⟩
    rintro u5 HC
    have hy0':=HC.out.eb.cell 0
    have hy1':=HC.out.eb.cell 1
    have hz1':=HC.out.eb.frozen 1
    have fb:=HC.out.fb
    have yR:=HC.out.yR
    have XY:=HC.out.XY
    have neY:¬w.heap.size+1+1+1=w'.heap.size:=by omega
    have neY':¬w'.heap.size=w.heap.size+1+1+1:=by omega
    simp only[List.getElem?_toArray,List.getElem?_cons_zero,List.getElem?_cons_succ]at hy0' hy1'
    by_cases hr:fq.result=0
    . have HR:Hid (resultL fq=[]):=if_pos hr
      have hr':(fq.result != 0)=false:=by simpa using hr
      have hr2:(fq.result==0)=true:=by simpa using hr
      have r0:=HC.out.in4.rb.cell 0
      have r1:=HC.out.in4.rb.cell 1
      have z0:=HC.out.in4.rb.frozen 0
      have z1:=HC.out.in4.rb.frozen 1
      simp only[List.getElem?_toArray,List.getElem?_cons_zero,List.getElem?_cons_succ]at r0 r1
      go_wp2_with fail
      rw[HR.out]
      obtain⟨he,q0,q1⟩:=HC.out.done [] (World.ownsRow_nil _ _ _ _)
      exact bodyPost_ret (by simp[results,Tryz.results71,go_sem,q0,q1]) rfl he
    . have HR:Hid (resultL fq=[fq.result]):=if_neg hr
      have hr':(fq.result != 0)=true:=by simpa using hr
      have hr2:(fq.result==0)=false:=by simpa using hr
      have neU:¬w'.heap.size=u5.heap.size:=by have:=HC.out.eb.lt;omega
      have ltU:w'.heap.size<u5.heap.size:=HC.out.eb.lt
      go_upto_region 23 with fail
      refine wp_world (fun u=>Hid (C28 w u ⟨vr,vk,.slice (some ⟨g,o,none⟩) n cf,vt⟩ ⟨gp,gl,gc⟩ f fq q b c u1.heap.size w'.heap.size (.slice a2 np c2) (.slice (some ⟨u5.heap.size,0,none⟩) 1 1)/\u.ownsRow w.heap.size 2 1 (.slice (some ⟨u5.heap.size,0,none⟩) 1 1) 1 ([fq.result].flatMap intCell))) (HC.out.res) ?_
      rintro u6 HC6
      clear hy0' hy1' hz1' fb
      have hy0':=HC6.out.1.eb.cell 0
      have hy1':=HC6.out.1.eb.cell 1
      have r0:=HC6.out.1.in4.rb.cell 0
      have r1:=HC6.out.1.in4.rb.cell 1
      have z0:=HC6.out.1.in4.rb.frozen 0
      have z1:=HC6.out.1.in4.rb.frozen 1
      simp only[List.getElem?_toArray,List.getElem?_cons_zero,List.getElem?_cons_succ]at hy0' hy1' r0 r1
      go_wp2_with fail
      rw[HR.out]
      obtain⟨he,q0,q1⟩:=HC6.out.1.done [fq.result] HC6.out.2
      exact bodyPost_ret (by simp[results,Tryz.results71,go_sem,q0,q1]) rfl he
end Go.Proofs.YtdfmdgbolmbffaaGreat
namespace Go.Proofs.YtdfmdgbolmbffaaGreat
open Go.ChangeShapes Go.WideShapes Go.ChangeAt Go.RowKit
set_option linter.unusedVariables false
theorem rd_cell{w:World}{s:Value}{n q:Nat}{xs:List Int}{t:Int}(h:Rd w 1 s n (xs.flatMap intCell))(hn:xs.length=n)(hq:xs[q]?=some t):∃gk ok ck,s=.slice (some ⟨gk,ok,none⟩) n ck/\w.cell? ⟨gk,ok+q,none⟩=some (.int .i64 t):=by
  have hlt:=(List.getElem?_eq_some_iff.1 hq).1
  rcases h.2 with⟨e,_⟩|⟨gk,ok,ck,e,hc⟩
  . omega
  . have:=Rd.elem intCell_length hc q t hq 0 _ rfl
    rw[Nat.mul_one,Nat.add_zero]at this
    exact⟨gk,ok,ck,e,this⟩
theorem localTypeI_any(v:VP)(g:VF)(f:MF)(q:Nat)(tt:Int)(w:World)(hs:f.small)(hr:RdF w g f)(hq:(f.params++f.locals)[q]?=some tt):
    Calls Tryz.prog 161 #[.agg #[v.r,v.k,v.f,v.t,g.p,.int .i64 f.result,g.l,g.c],.int .i64 q] w fun e w'=>e=.returned (.int .i64 tt)/\Below w.heap.size w w':=localType_any v.r v.k v.f v.t g f q tt w hs hr hq
end Go.Proofs.YtdfmdgbolmbffaaGreat
namespace Go.Proofs.YtdfmdgbolmbffaaGreat
open Go.ChangeShapes Go.WideShapes Go.ChangeAt Go.RowKit
set_option linter.unusedVariables false
structure Sc2(w u:World)(v:VP)(g:VF)(f:MF)(op a b c:Int):Prop where
  sb:Blk u w.heap.size #[v.r,v.k,v.f,v.t,g.p,.int .i64 f.result,g.l,g.c] 85
  ib:Blk u (w.heap.size+1) #[.int .i64 op,.int .i64 a,.int .i64 b,.int .i64 c] 73
  bel:Below w.heap.size w u
theorem Sc2.of(w:World)(v:VP)(g:VF)(f:MF)(op a b c:Int):Sc2 w ((w.alloc (.cells #[v.r,v.k,v.f,v.t,g.p,.int .i64 f.result,g.l,g.c] 85)).alloc (.cells #[.int .i64 op,.int .i64 a,.int .i64 b,.int .i64 c] 73)) v g f op a b c:=by
  have b1:=below_alloc w (.cells #[v.r,v.k,v.f,v.t,g.p,.int .i64 f.result,g.l,g.c] 85)
  have k1:=Blk.new w #[v.r,v.k,v.f,v.t,g.p,.int .i64 f.result,g.l,g.c] 85
  generalize hU1:w.alloc (.cells #[v.r,v.k,v.f,v.t,g.p,.int .i64 f.result,g.l,g.c] 85)=U1 at b1 k1⊢
  have z1:U1.heap.size=w.heap.size+1:=by rw[<-hU1];simp
  have b2:=below_alloc U1 (.cells #[.int .i64 op,.int .i64 a,.int .i64 b,.int .i64 c] 73)
  have k2:=Blk.new U1 #[.int .i64 op,.int .i64 a,.int .i64 b,.int .i64 c] 73
  rw[z1]at k2
  exact⟨k1.keep b2,k2,below_on b1 (Nat.le_refl _) b2⟩
def TysIs(w:World)(ts:List Int)(e:Ending)(w':World):Prop:=∃s,e=.returned s/\Rd w' 1 s ts.length (ts.flatMap intCell)/\Below w.heap.size w w'
theorem tys_new{w u:World}(hb:Below w.heap.size w u)(ts:List Int)(n c:Nat)(hn:n=ts.length):TysIs w ts (.returned (.slice (some ⟨u.heap.size,0,none⟩) n c)) (u.alloc (.cells (ts.flatMap intCell).toArray 2)):=by
  subst hn
  refine⟨_,rfl,⟨by rw[flat_length intCell 1 intCell_length],.inr ⟨u.heap.size,0,c,rfl,fun j v hj=> ?_⟩⟩,below_on hb (Nat.le_refl _) (below_alloc _ _)⟩
  rw[cell_of_row _ u.heap.size (0+j) _ _ _ (block_new u (ts.flatMap intCell).toArray 2),Nat.zero_add]
  simpa using hj
theorem tys_nil{w u:World}(hb:Below w.heap.size w u):TysIs w [] (.returned (.slice none 0 0)) u:=⟨_,rfl,⟨rfl,.inl ⟨rfl,_,_,rfl⟩⟩,hb⟩
set_option maxHeartbeats 2000000 in
set_option maxRecDepth 100000 in
theorem cellType_any(v:VP)(p:MP)(g:VF)(f:MF)(op c:Int)(q z:Nat)(r:List Int)(tt:Int)(w:World)(hs:p.small)(hr:RdR w v.r p.regions)(hq:p.regions[q]?=some r)(hz:r[z]?=some tt):
    Calls Tryz.prog 168 #[.agg #[v.r,v.k,v.f,v.t,g.p,.int .i64 f.result,g.l,g.c],.agg #[.int .i64 op,.int .i64 q,.int .i64 z,.int .i64 c]] w fun e w'=>e=.returned (.int .i64 tt)/\Below w.heap.size w w':=by
  obtain⟨xs,h1,h2,h3⟩:=hr
  have hlt:=(List.getElem?_eq_some_iff.1 hq).1
  have hlz:=(List.getElem?_eq_some_iff.1 hz).1
  have hrs:=hs.regions
  have hrl:=hs.region r (List.mem_of_getElem? hq)
  obtain⟨⟨r',yv⟩,hx⟩:∃x,xs[q]?=some x:=⟨_,List.getElem?_eq_getElem (by rw[<-List.length_map (f:=Prod.fst),h1];exact hlt)⟩
  have e2:=fst_at h1 hx
  rw[hq]at e2
  obtain rfl:r=r':=Option.some.inj e2
  have hy:=h3 _ (List.mem_of_getElem? hx)
  simp only[]at hy
  rcases h2.2 with⟨e0,_⟩|⟨g1,o1,c1,e1,hc⟩
  . omega
  have k1:=Rd.elem rCells_length hc q _ hx 0 _ rfl
  rw[Nat.mul_one,Nat.add_zero]at k1
  simp only[]at k1
  obtain⟨gk,ok,ck,e,k2⟩:=rd_cell hy rfl hz
  subst e
  obtain⟨vr,vk,vf,vt⟩:=v
  simp only[]at e1
  subst e1
  have hqI:(q:Int)<(p.regions.length:Int):=by omega
  have hzI:(z:Int)<(r.length:Int):=by omega
  have E0:Hid (Sc2 w ((w.alloc (.cells #[.slice (some ⟨g1,o1,none⟩) p.regions.length c1,vk,vf,vt,g.p,.int .i64 f.result,g.l,g.c] 85)).alloc (.cells #[.int .i64 op,.int .i64 q,.int .i64 z,.int .i64 c] 73)) ⟨.slice (some ⟨g1,o1,none⟩) p.regions.length c1,vk,vf,vt⟩ g f op q z c):=Sc2.of w ⟨.slice (some ⟨g1,o1,none⟩) p.regions.length c1,vk,vf,vt⟩ g f op q z c
  clear hc h2 h3 hy hx e2 h1 hq hz
  go_enter Tryz.func168,Tryz.ntmps168
  go_upto_region 1 with fail
  refine wp_world (fun u=>Hid (Sc2 w u ⟨.slice (some ⟨g1,o1,none⟩) p.regions.length c1,vk,vf,vt⟩ g f op q z c)) E0 ?_
  rintro U E1
  clear E0
  have s0:=E1.out.sb.cell 0
  have i1:=E1.out.ib.cell 1
  have i2:=E1.out.ib.cell 2
  simp only[List.getElem?_toArray,List.getElem?_cons_zero,List.getElem?_cons_succ]at s0 i1 i2
  have k1U:=bcell_lt E1.out.bel k1
  have k2U:=bcell_lt E1.out.bel k2
  have inst:=Grown.some U
  have J0:=fun n:Grown U=>Grown.cell s0 n
  have J1:=fun n:Grown U=>Grown.cell i1 n
  have J2:=fun n:Grown U=>Grown.cell i2 n
  have J3:=fun n:Grown U=>Grown.cell k1U n
  have J4:=fun n:Grown U=>Grown.cell k2U n
  clear k1 k2
  go_wp2_with fail
  refine wp_region_grown (by kernel_rfl) (by kernel_rfl) ?_
  repeat(go_big_quiet_step (fail))
  refine wpQuiet_nil ?_
  rintro w'' ⟨n',rfl⟩
  have HE:Hid (Below w.heap.size w n'.u):=below_on E1.out.bel (Nat.le_refl _) n'.h
  clear J0 J1 J2 J3 J4 inst s0 i1 i2 k1U k2U
  go_wp2_with fail
  go_ret
  exact⟨rfl,HE.out⟩
set_option maxRecDepth 100000 in
theorem resT_any(g:VF)(f:MF)(w:World):Calls Tryz.prog 169 #[.agg #[g.p,.int .i64 f.result,g.l,g.c]] w (TysIs w (resultL f)):=by
  have E0:Hid (Blk (w.alloc (.cells #[g.p,.int .i64 f.result,g.l,g.c] 63)) w.heap.size #[g.p,.int .i64 f.result,g.l,g.c] 63/\Below w.heap.size w (w.alloc (.cells #[g.p,.int .i64 f.result,g.l,g.c] 63))):=⟨Blk.new _ _ _,below_alloc _ _⟩
  by_cases hz:f.result=0
  . have hzb:(f.result==0)=true:=by simpa using hz
    have HR:Hid (resultL f=[]):=by unfold resultL;rw[if_pos hz];exact rfl
    rw[HR.out]
    clear hz
    go_enter Tryz.func169,Tryz.ntmps169
    go_upto_region 1 with fail
    refine wp_world (fun u=>Hid (Blk u w.heap.size #[g.p,.int .i64 f.result,g.l,g.c] 63/\Below w.heap.size w u)) E0 ?_
    rintro U E1
    clear E0
    have hk:=E1.out.1.cell 1
    simp only[List.getElem?_toArray,List.getElem?_cons_zero,List.getElem?_cons_succ]at hk
    go_wp2_with fail
    go_ret
    exact tys_nil E1.out.2
  . have hzb:(f.result==0)=false:=by simpa using hz
    have HR:Hid (resultL f=[f.result]):=by unfold resultL;rw[if_neg hz];exact rfl
    rw[HR.out]
    clear hz
    go_enter Tryz.func169,Tryz.ntmps169
    go_upto_region 1 with fail
    refine wp_world (fun u=>Hid (Blk u w.heap.size #[g.p,.int .i64 f.result,g.l,g.c] 63/\Below w.heap.size w u)) E0 ?_
    rintro U E1
    clear E0
    have hk:=E1.out.1.cell 1
    simp only[List.getElem?_toArray,List.getElem?_cons_zero,List.getElem?_cons_succ]at hk
    go_wp2_with fail
    go_ret
    exact tys_new E1.out.2 [f.result] 1 1 rfl
end Go.Proofs.YtdfmdgbolmbffaaGreat
