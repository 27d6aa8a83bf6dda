import Derived.Test.YtdfmdgbolmbffaaGreatTy40
namespace Go.Proofs.YtdfmdgbolmbffaaGreat
open Go.ChangeShapes Go.WideShapes Go.ChangeAt Go.RowKit
set_option linter.unusedVariables false
set_option maxHeartbeats 8000000 in
set_option maxRecDepth 100000 in
theorem implFlow_any(s:Value)(xs:List MI)(w:World)(hn:xs.length<=1048576)(h:Rd w 4 s xs.length (xs.flatMap MI.cells)):
    Calls Tryz.prog 78 #[s] w fun e w'=>∃r vb vo vi vl F ys,e=.returned (.agg #[.int .i64 r.code,.int .i64 r.at_,vb,vo,vi,vl])/\FlowOk xs r/\OwFl w' w.heap.size vb vo vi vl F ys r/\Below w.heap.size w w':=by
  have H:Hid (Rd w 4 s xs.length (xs.flatMap MI.cells)):=h
  obtain⟨a1,c1,rfl⟩:=h.is_slice
  clear h
  have HE0:Hid (Blk (w.alloc (.cells zFl 67)) w.heap.size zFl 67/\Below w.heap.size w (w.alloc (.cells zFl 67))):=⟨Blk.new _ _ _,below_alloc _ _⟩
  go_enter Tryz.func78,Tryz.ntmps78
  go_wp2_with fail
  refine(implBlocks_any _ xs _ hn (H.out.keep HE0.out.2 (Nat.le_refl _))).mono ?_
  rintro e u1 ⟨V,F,rfl,hob,hbs,b1⟩
  have hz0:(w.alloc (.cells zFl 67)).heap.size=w.heap.size+1:=by simp
  rw[hz0]at hob
  have HE1:Hid (Blk u1 w.heap.size zFl 67/\Below w.heap.size w u1):=⟨HE0.out.1.keep b1,below_on HE0.out.2 (Nat.le_refl _) b1⟩
  clear HE0 b1 hz0
  rcases hbs with⟨hg,rfl⟩|⟨hg,hF⟩
  . have r0:u1.cell? ⟨w.heap.size,0,none⟩=some (.int .i64 0):=HE1.out.1.cell 0
    have r1:u1.cell? ⟨w.heap.size,1,none⟩=some (.int .i64 0):=HE1.out.1.cell 1
    have r2:u1.cell? ⟨w.heap.size,2,none⟩=some (.slice none 0 0):=HE1.out.1.cell 2
    have r3:u1.cell? ⟨w.heap.size,3,none⟩=some (.slice none 0 0):=HE1.out.1.cell 3
    have r4:u1.cell? ⟨w.heap.size,4,none⟩=some (.slice none 0 0):=HE1.out.1.cell 4
    have r5:u1.cell? ⟨w.heap.size,5,none⟩=some (.slice none 0 0):=HE1.out.1.cell 5
    have f0:=HE1.out.1.frozen 0
    have f1:=HE1.out.1.frozen 1
    have f2:=HE1.out.1.frozen 2
    have f3:=HE1.out.1.frozen 3
    have f4:=HE1.out.1.frozen 4
    have f5:=HE1.out.1.frozen 5
    obtain⟨ab,cb,rfl⟩:∃a c,V=.slice a 0 c:=own_slice hob.row
    have HG:Hid (¬CodeGood xs):=hg
    clear hg hob
    go_wp2_with fail
    obtain⟨q0,q1,q2,q3,q4,q5⟩:=six_cells HE1.out.1 (.int .i64 4) (.int .i64 0) (.slice none 0 0) (.slice none 0 0) (.slice none 0 0) (.slice none 0 0)
    simp only[six]at q0 q1 q2 q3 q4 q5
    exact bodyPost_ret (v:=.agg #[.int .i64 4,.int .i64 0,.slice none 0 0,.slice none 0 0,.slice none 0 0,.slice none 0 0]) (by simp[results,Tryz.results78,go_sem,q0,q1,q2,q3,q4,q5]) rfl ⟨noFl 4 0,_,_,_,_,[],[],rfl,.none HG.out,OwFl.none _ _ _ _,six_below HE1.out.2 (Nat.le_refl _) _ _ _ _ _ _⟩
  . have hrd:RdBs u1 V (specL xs):=by rw[<-hF];exact hob.rd
    obtain⟨gb,ob,cb,rfl,hgr,hfi⟩:=hrd.graph hg
    have hin:=hob.ints hF rfl rfl
    have hpos:=lds_pos hg
    have hle:=specL_le hg
    have hxl:=hg.1
    obtain⟨x,hx⟩:∃x,xs[xs.length-1]?=some x:=⟨_,List.getElem?_eq_getElem (by omega)⟩
    have HG:Hid (CodeGood xs/\xs[xs.length-1]?=some x):=⟨hg,hx⟩
    have HEE:Hid ((∀b,b<(specL xs).length->∀x∈nx (specL xs) b,x<(specL xs).length)/\∀b,(nx (specL xs) b).length<=2):=⟨nx_lt hg,nx_small _ (specL_two xs)⟩
    obtain⟨n,hnn⟩:∃n,n=(specL xs).length:=⟨_,rfl⟩
    obtain⟨E,hEE⟩:∃E,E=nx (specL xs):=⟨_,rfl⟩
    rw[<-hnn]at hgr hin
    rw[<-hEE]at hgr
    rw[<-hnn,<-hEE]at HEE
    rw[<-hnn]at hpos hle hob⊢
    have HB:Hid (OwnBE u1 (w.heap.size+1) (.slice (some ⟨gb,ob,none⟩) n cb) F/\GrAt u1 gb ob n E/\(∀b m,(specL xs)[b]?=some m->u1.cell? ⟨gb,ob+b*3,none⟩=some (.int .i64 m.first))/\(∀b,b<n->∃f l:Int,u1.cell? ⟨gb,ob+b*3,none⟩=some (.int .i64 f)/\u1.cell? ⟨gb,ob+b*3+1,none⟩=some (.int .i64 l))/\F.map Prod.fst=specL xs):=⟨hob,hgr,hfi,hin,hF⟩
    have HN:Hid (n=(specL xs).length/\E=nx (specL xs)):=⟨hnn,hEE⟩
    clear hrd hgr hfi hg hnn hEE hob hin hF
    have hposI:¬(n:Int)=0:=by omega
    have hposB:((n:Int)==0)=false:=by simp;omega
    obtain⟨gx,ox,rfl,hop⟩:∃gx ox,a1=some ⟨gx,ox,none⟩/\(u1.cell? ⟨gx,ox+(xs.length-1)*4,none⟩=some (.int .i64 x.op)/\u1.cell? ⟨gx,ox+(xs.length-1)*4+1,none⟩=some (.int .i64 x.a)/\u1.cell? ⟨gx,ox+(xs.length-1)*4+2,none⟩=some (.int .i64 x.b)/\u1.cell? ⟨gx,ox+(xs.length-1)*4+3,none⟩=some (.int .i64 x.c)):=by
      rcases H.out.2 with⟨e0,_⟩|⟨gx,ox,cx,e1,hc1⟩
      . omega
      . simp only[Value.slice.injEq,true_and]at e1
        have i0:=Rd.elem MI.cells_length hc1 (xs.length-1) _ hx 0 _ rfl
        rw[Nat.add_zero]at i0
        exact⟨gx,ox,e1.1,bcell_keep HE1.out.2 i0,bcell_keep HE1.out.2 (Rd.elem MI.cells_length hc1 (xs.length-1) _ hx 1 _ rfl),bcell_keep HE1.out.2 (Rd.elem MI.cells_length hc1 (xs.length-1) _ hx 2 _ rfl),bcell_keep HE1.out.2 (Rd.elem MI.cells_length hc1 (xs.length-1) _ hx 3 _ rfl)⟩
    clear hx
    obtain⟨lx,hlx⟩:∃lx,xs.length=lx+1:=⟨xs.length-1,by omega⟩
    rw[hlx]at hop⊢
    simp only[Nat.add_sub_cancel]at hop
    obtain⟨c0,c1',c2,c3⟩:=hop
    have HLX:Hid (xs.length=lx+1):=hlx
    have hlx2:lx<=1048576:=by omega
    have hlx3:(lx:Int)<=1048576:=by omega
    clear hlx hn
    go_wp2_with fail
    refine(goesOn_any x u1).mono ?_
    rintro e u2 ⟨rfl,b2⟩
    have HE2:Hid (Blk u2 w.heap.size zFl 67/\Below w.heap.size w u2/\Below u1.heap.size u1 u2):=⟨HE1.out.1.keep b2,below_on HE1.out.2 (Nat.le_refl _) b2,b2⟩
    have HW1:Hid (w.heap.size<u1.heap.size):=HE1.out.1.lt
    have HW12:Hid (u1.heap.size<=u2.heap.size):=b2.size
    clear b2 HE1 c0 c1' c2 c3
    cases hon:onB x
    . have HON:Hid (onB x=false):=hon
      clear hon
      go_wp2_with fail
      refine(newGraph_any gb ob cb n E u2 hle hpos HEE.out.1 HEE.out.2 (HB.out.2.1.keep HE2.out.2.2) (fun b hb=>by obtain⟨f,l,q1,q2⟩:=HB.out.2.2.2.1 b hb;exact⟨f,l,bcell_keep HE2.out.2.2 q1,bcell_keep HE2.out.2.2 q2⟩)).mono ?_
      rintro e u3 ⟨G,gN,cN,gF,gO,cO,gP,S,O,rfl,hgm⟩
      have HGM:Hid (GM u2 u3 n G gN cN gF gO cO gP E S O):=hgm
      have HE3:Hid (Blk u3 w.heap.size zFl 67/\Below w.heap.size w u3/\Below u1.heap.size u1 u3/\w.heap.size<u1.heap.size):=⟨HE2.out.1.keep hgm.bel,below_on HE2.out.2.1 (Nat.le_refl _) hgm.bel,below_on HE2.out.2.2 (Nat.le_refl _) hgm.bel,HW1.out⟩
      clear hgm HE2
      obtain⟨hOlt,hOnd,hOle,hOr⟩:=vs_facts hpos HEE.out.1 HGM.out.vs
      have HVO:Hid ((∀x∈O,x<n)/\O.Nodup/\(∀x∈O,Rch E (fun _=>True) 0 x)):=⟨hOlt,hOnd,hOr⟩
      have HOR:Hid (∀k x:Nat,O.reverse[k]?=some x->u3.cell? ⟨gO,k,none⟩=some (.int .i64 (x:Int))):=fun k x hx=>by
        have ho:=HGM.out.ord
        rw[<-List.length_reverse]at ho
        obtain⟨_,_,ee,_,q⟩:=ho.rd.at_ hx
        simp only[Option.some.injEq,Addr.mk.injEq,and_true]at ee
        obtain⟨rfl,rfl⟩:=ee
        rw[Nat.zero_add]at q
        exact q
      have HLO:=lost_any G n gN cN gO cO O.reverse u3 hle (fun x hx=>hOlt x (List.mem_reverse.1 hx)) (by rw[List.length_reverse];omega) (HGM.out.blk.cell 0) (by rw[List.length_reverse];exact HGM.out.blk.cell 2) HOR.out
      clear hOlt hOnd hOr
      go_wp2_with fail
      refine HLO.mono ?_
      rintro e u4 ⟨g9,cap9,zs,rfl,own9,hsrt,hmem,b4⟩
      have HE4:Hid (Blk u4 w.heap.size zFl 67/\Below w.heap.size w u4/\Below u1.heap.size u1 u4/\Below u3.heap.size u3 u4):=⟨HE3.out.1.keep b4,below_on HE3.out.2.1 (Nat.le_refl _) b4,below_on HE3.out.2.2.1 (Nat.le_refl _) b4,b4⟩
      clear HLO b4
      cases zs with
      | cons z r=>
        obtain⟨b,rfl,hbn,hbO⟩:=(hmem z).1 (List.mem_cons_self ..)
        have hbnI:(b:Int)<(n:Int):=by omega
        obtain⟨m,hm⟩:∃m,(specL xs)[b]?=some m:=⟨_,List.getElem?_eq_getElem (by rw[<-HN.out.1];exact hbn)⟩
        have m0:=bcell_keep HE4.out.2.2.1 (HB.out.2.2.1 b m hm)
        have z0:=own9.cellAt 0 (by simp)
        simp only[List.flatMap_cons,intCell,List.cons_append,List.getElem?_cons_zero]at z0
        have hlen:(0:Int)<(((b:Int)::r).length:Int):=by rw[List.length_cons];omega
        have HFO:Hid (FlowOk xs (noFl 2 m.first)):=.lost HG.out.1 HG.out.2 HON.out (S:=S) (O:=O) (by rw[<-HN.out.2];exact HGM.out.vs) (by rw[<-HN.out.1];exact hbn) (fun q=>hbO (List.mem_reverse.2 ((seen_told HGM.out.vs b).1 q))) (fun c hc=>by
          refine(seen_told HGM.out.vs c).2 (List.mem_reverse.1 (Classical.byContradiction fun q=> ?_))
          have h1:=(hmem (c:Int)).2 ⟨c,rfl,by omega,q⟩
          rcases List.mem_cons.1 h1 with e|e
          . omega
          . have:=(List.pairwise_cons.1 hsrt).1 _ e
            omega) hm
        generalize hLL:((b:Int)::r).length=lz at hlen own9
        clear own9 hsrt hmem hm hLL
        have r0:u4.cell? ⟨w.heap.size,0,none⟩=some (.int .i64 0):=HE4.out.1.cell 0
        have r1:u4.cell? ⟨w.heap.size,1,none⟩=some (.int .i64 0):=HE4.out.1.cell 1
        have r2:u4.cell? ⟨w.heap.size,2,none⟩=some (.slice none 0 0):=HE4.out.1.cell 2
        have r3:u4.cell? ⟨w.heap.size,3,none⟩=some (.slice none 0 0):=HE4.out.1.cell 3
        have r4:u4.cell? ⟨w.heap.size,4,none⟩=some (.slice none 0 0):=HE4.out.1.cell 4
        have r5:u4.cell? ⟨w.heap.size,5,none⟩=some (.slice none 0 0):=HE4.out.1.cell 5
        have f0:=HE4.out.1.frozen 0
        have f1:=HE4.out.1.frozen 1
        have f2:=HE4.out.1.frozen 2
        have f3:=HE4.out.1.frozen 3
        have f4:=HE4.out.1.frozen 4
        have f5:=HE4.out.1.frozen 5
        go_wp2_with fail
        obtain⟨q0,q1,q2,q3,q4,q5⟩:=six_cells HE4.out.1 (.int .i64 2) (.int .i64 m.first) (.slice none 0 0) (.slice none 0 0) (.slice none 0 0) (.slice none 0 0)
        simp only[six]at q0 q1 q2 q3 q4 q5
        exact bodyPost_ret (v:=.agg #[.int .i64 2,.int .i64 m.first,.slice none 0 0,.slice none 0 0,.slice none 0 0,.slice none 0 0]) (by simp[results,Tryz.results78,go_sem,q0,q1,q2,q3,q4,q5]) rfl ⟨noFl 2 m.first,_,_,_,_,[],[],rfl,HFO.out,OwFl.none _ _ _ _,six_below HE4.out.2.1 (Nat.le_refl _) _ _ _ _ _ _⟩
      | nil =>
        have hall:∀c,c<n->c∈O:=fun c hc=>List.mem_reverse.1 (Classical.byContradiction fun q=>by
          have:=(hmem (c:Int)).2 ⟨c,rfl,hc,q⟩
          cases this)
        obtain⟨hP,hnd,hOn,hOm,hO0⟩:=order_place hpos HEE.out.1 HGM.out.vs (fun c hc=>(seen_told HGM.out.vs c).2 (hall c hc))
        have HPL:Hid (Place E n (plO O)/\O.Nodup/\(∀x,x∈O↔x<n)/\O.length=n):=⟨hP,hnd,hOm,hOn⟩
        clear own9 hsrt hmem hall hP hnd hOm hO0
        have HDO:=dominate_any G n gN cN gF n gO cO gP n E O u4 hle HPL.out.1 HPL.out.2.2.2 HPL.out.2.1 HPL.out.2.2.1 (fun b=>by have:=fromL_len HEE.out.2 n b;omega) (by have ho:=HGM.out.ord;unfold OwN at ho;rw[List.length_reverse]at ho;have:=own_cap ho;rw[HPL.out.2.2.2]at this;exact this) (by have:=HGM.out.blk.keep HE4.out.2.2.2;rw[HPL.out.2.2.2]at this;exact this) (HGM.out.fr.keep HE4.out.2.2.2) (fun k x hx=>bcell_keep HE4.out.2.2.2 (HOR.out k x hx)) (fun x hx=>bcell_keep HE4.out.2.2.2 (HGM.out.pl x ((HPL.out.2.2.1 x).2 hx))) ⟨HGM.out.ne.1,HGM.out.ne.2.1,HGM.out.ne.2.2.1,HGM.out.ne.2.2.2,fun b a c hb hc=>by
          obtain⟨a',c',q1,_⟩:=HGM.out.fr b hb
          rw[Nat.zero_add]at q1
          have q2:=bcell_keep HE4.out.2.2.2 q1
          rw[hc]at q2
          exact HGM.out.nf b a (fromL E n b).length c hb (q1.trans q2.symm)⟩
        go_wp2_with fail
        refine HDO.mono ?_
        rintro e u5 ⟨rfl,gi,I,hdw,hdone⟩
        have HGD:Hid (GD u2 u5 n G gN cN gF gO cO gP gi E O I/\DoneI E n (plO O) I):=⟨GD.of HGM.out HPL.out.2.2.2 HPL.out.2.2.1 HE4.out.2.2.2 hdw,hdone⟩
        have HE5:Hid (Blk u5 w.heap.size zFl 67/\Below w.heap.size w u5/\Below u1.heap.size u1 u5):=by
          have h1:=HGM.out.ge
          have h2:=HW12.out
          have h3:=HW1.out
          refine⟨?_,HE4.out.2.1.trans (hdw.bel.mono (by omega)),HE4.out.2.2.1.trans (hdw.bel.mono (by omega))⟩
          have k:=HE4.out.1
          unfold Blk at*
          rw[hdw.fx w.heap.size (Array.getElem?_eq_some_iff.1 k).1 (by omega)]
          exact k
        clear HDO hdw hdone
        obtain⟨D,hD⟩:∃D:Nat->Nat->Bool,∀d b,D d b=true↔Dom E d b:=⟨fun d b=> @decide _ (Classical.propDecidable (Dom E d b)),fun d b=>by simp⟩
        have HD:Hid (∀d b,D d b=true↔Dom E d b):=hD
        clear hD
        have HBE:=backEdges_any G n gN cN gP n gi n E O I D u5 hle HPL.out.1 HGD.out.2 HD.out HEE.out.2 (HGD.out.1.blk.cell 0) HGD.out.1.nx HGD.out.1.gi_
        go_wp2_with fail
        refine HBE.mono ?_
        rintro e u6 ⟨hback,b6⟩
        have HE6:Hid (Blk u6 w.heap.size zFl 67/\Below w.heap.size w u6/\Below u1.heap.size u1 u6/\GD u2 u6 n G gN cN gF gO cO gP gi E O I/\Below u5.heap.size u5 u6):=⟨HE5.out.1.keep b6,below_on HE5.out.2.1 (Nat.le_refl _) b6,below_on HE5.out.2.2 (Nat.le_refl _) b6,HGD.out.1.keep b6,b6⟩
        clear HBE b6
        rcases hback with⟨b,k,y,rfl,hbad⟩|⟨gB,FS,rfl,hnb,hbk,hFSl,hFS⟩
        . have hyn:y<n:=HEE.out.1 b hbad.lt y (List.mem_of_getElem? hbad.at_)
          have hynI:(y:Int)<(n:Int):=by omega
          have hyB:((y:Int)== -1)=false:=by simp
          have hyN:((y:Int) != -1)=true:=by simp
          obtain⟨m,hm⟩:∃m,(specL xs)[y]?=some m:=⟨_,List.getElem?_eq_getElem (by rw[<-HN.out.1];exact hyn)⟩
          have m0:=bcell_keep HE6.out.2.2.1 (HB.out.2.2.1 y m hm)
          have HFO:Hid (FlowOk xs (noFl 3 m.first)):=by
            refine .two (D:=D) (b:=b) (k:=k) (t:=y) HG.out.1 HG.out.2 HON.out (S:=S) (O:=O) (by rw[<-HN.out.2];exact HGM.out.vs) (by rw[<-HN.out.1];exact fun c hc=>(seen_told HGM.out.vs c).2 ((HPL.out.2.2.1 c).2 hc)) (by rw[<-HN.out.2];exact HD.out) ?_ hm
            rw[<-HN.out.1,<-HN.out.2]
            exact hbad
          clear hm hbad
          have r0:u6.cell? ⟨w.heap.size,0,none⟩=some (.int .i64 0):=HE6.out.1.cell 0
          have r1:u6.cell? ⟨w.heap.size,1,none⟩=some (.int .i64 0):=HE6.out.1.cell 1
          have r2:u6.cell? ⟨w.heap.size,2,none⟩=some (.slice none 0 0):=HE6.out.1.cell 2
          have r3:u6.cell? ⟨w.heap.size,3,none⟩=some (.slice none 0 0):=HE6.out.1.cell 3
          have r4:u6.cell? ⟨w.heap.size,4,none⟩=some (.slice none 0 0):=HE6.out.1.cell 4
          have r5:u6.cell? ⟨w.heap.size,5,none⟩=some (.slice none 0 0):=HE6.out.1.cell 5
          have f0:=HE6.out.1.frozen 0
          have f1:=HE6.out.1.frozen 1
          have f2:=HE6.out.1.frozen 2
          have f3:=HE6.out.1.frozen 3
          have f4:=HE6.out.1.frozen 4
          have f5:=HE6.out.1.frozen 5
          go_wp2_with fail
          obtain⟨q0,q1,q2,q3,q4,q5⟩:=six_cells HE6.out.1 (.int .i64 3) (.int .i64 m.first) (.slice none 0 0) (.slice none 0 0) (.slice none 0 0) (.slice none 0 0)
          simp only[six]at q0 q1 q2 q3 q4 q5
          exact bodyPost_ret (v:=.agg #[.int .i64 3,.int .i64 m.first,.slice none 0 0,.slice none 0 0,.slice none 0 0,.slice none 0 0]) (by simp[results,Tryz.results78,go_sem,q0,q1,q2,q3,q4,q5]) rfl ⟨noFl 3 m.first,_,_,_,_,[],[],rfl,HFO.out,OwFl.none _ _ _ _,six_below HE6.out.2.1 (Nat.le_refl _) _ _ _ _ _ _⟩
        . have HBK:Hid (BK u5 u6 n gB FS/\(∀b,b<n->∀t∈E b,¬Bad O D b t)/\FS.length=n/\∀x,x<n->∃V,FS[x]?=some (V,backL E D n x)):=⟨hbk,hnb,hFSl,hFS⟩
          clear hbk hnb hFSl hFS
          obtain⟨Lf,hLf⟩:∃L:Nat->Nat->Bool,∀h y,L h y=true↔InLoop E D n h y:=⟨fun h y=> @decide _ (Classical.propDecidable (InLoop E D n h y)),fun h y=>by simp⟩
          have HLF:Hid (∀h y,Lf h y=true↔InLoop E D n h y):=hLf
          clear hLf
          have bD:=below_drew1 u6
          have HLC:=loops_any G n gF n gB E D Lf FS u6.drew hle HEE.out.1 HEE.out.2 HLF.out ((HE6.out.2.2.2.1.blk.keep bD).cell 1) (HE6.out.2.2.2.1.fr.keep bD) (fun x hx=>by
            obtain⟨V,hV⟩:=HBK.out.2.2.2 x hx
            refine⟨V,hV,?_,?_⟩
            . have:=(HBK.out.1.keep bD).frow.cellAt x (by omega)
              rw[List.getElem?_map,hV]at this
              exact this
            . have:=Rd.of_own ((HBK.out.1.keep bD).fam.own (V,ints (backL E D n x)) (List.mem_map.2 ⟨(V,_),List.mem_of_getElem? hV,rfl⟩))
              simp only[ints_length]at this
              rw[<-nv_flat]at this
              exact this)
          have HLC':Hid (Calls Tryz.prog 116 #[.pointer (some ⟨G,0,none⟩),.slice (some ⟨gB,0,none⟩) n n] u6.drew fun e w'=>∃V,e=.returned V/\∃ys,LP u6.drew w' V ys/\ys.map Prod.fst=loopsTo E D Lf n n/\List.Sublist (ys.map fun y=>(y.2.1,y.1.back)) (FS.map fun x=>(x.1,ints x.2))):=HLC
          have x2:u6.drew.cell? ⟨G,2,none⟩=some (.slice (some ⟨gO,0,none⟩) n cO):=(HE6.out.2.2.2.1.blk.keep bD).cell 2
          have x4:u6.drew.cell? ⟨G,4,none⟩=some (.slice (some ⟨gi,0,none⟩) n n):=(HE6.out.2.2.2.1.blk.keep bD).cell 4
          clear bD HLC
          go_upto_region 15 with fail
          go_region_law ((go_simp;go_at_call 116;refine HLC'.out.mono ?_;rintro e u7 ⟨VL,rfl,ys,hlp,hys,hsub⟩;obtain⟨aL,cL,rfl⟩:=own_slice hlp.lps;have B7:Hid (Below u6.heap.size u6 u7):=below_drew_trans hlp.bel (Nat.le_refl _);have H7:Hid (LP u6.drew u7 (.slice aL ys.length cL) ys/\ys.map Prod.fst=loopsTo E D Lf n n/\List.Sublist (ys.map fun y=>(y.2.1,y.1.back)) (FS.map fun x=>(x.1,ints x.2))):=⟨hlp,hys,hsub⟩;have y2:u7.cell? ⟨G,2,none⟩=some (.slice (some ⟨gO,0,none⟩) n cO):=(HE6.out.2.2.2.1.blk.keep B7.out).cell 2;have y4:u7.cell? ⟨G,4,none⟩=some (.slice (some ⟨gi,0,none⟩) n n):=(HE6.out.2.2.2.1.blk.keep B7.out).cell 4;have r0:u7.cell? ⟨w.heap.size,0,none⟩=some (.int .i64 0):=(HE6.out.1.keep B7.out).cell 0;have r1:u7.cell? ⟨w.heap.size,1,none⟩=some (.int .i64 0):=(HE6.out.1.keep B7.out).cell 1;have r2:u7.cell? ⟨w.heap.size,2,none⟩=some (.slice none 0 0):=(HE6.out.1.keep B7.out).cell 2;have r3:u7.cell? ⟨w.heap.size,3,none⟩=some (.slice none 0 0):=(HE6.out.1.keep B7.out).cell 3;have r4:u7.cell? ⟨w.heap.size,4,none⟩=some (.slice none 0 0):=(HE6.out.1.keep B7.out).cell 4;have r5:u7.cell? ⟨w.heap.size,5,none⟩=some (.slice none 0 0):=(HE6.out.1.keep B7.out).cell 5;have f0:=(HE6.out.1.keep B7.out).frozen 0;have f1:=(HE6.out.1.keep B7.out).frozen 1;have f2:=(HE6.out.1.keep B7.out).frozen 2;have f3:=(HE6.out.1.keep B7.out).frozen 3;have f4:=(HE6.out.1.keep B7.out).frozen 4;have f5:=(HE6.out.1.keep B7.out).frozen 5;clear hlp hys hsub))
          all_goals
            have HFO:Hid (FlowOk xs ⟨0,0,specL xs,ints O.reverse,(List.range n).map I,loopsTo E D Lf n n⟩):=flow_good HN.out.1 HN.out.2 HG.out.1 HG.out.2 HON.out HGM.out.vs (fun c hc=>(seen_told HGM.out.vs c).2 ((HPL.out.2.2.1 c).2 hc)) HD.out HBK.out.2.1 (done_idom HGD.out.2) HLF.out
            have HOF:Hid (OwFl (six u7 w.heap.size (.int .i64 0) (.int .i64 0) (.slice (some ⟨gb,ob,none⟩) n cb) (.slice (some ⟨gO,0,none⟩) n cO) (.slice (some ⟨gi,0,none⟩) n n) (.slice aL ys.length cL)) w.heap.size (.slice (some ⟨gb,ob,none⟩) n cb) (.slice (some ⟨gO,0,none⟩) n cO) (.slice (some ⟨gi,0,none⟩) n n) (.slice aL ys.length cL) F ys ⟨0,0,specL xs,ints O.reverse,(List.range n).map I,loopsTo E D Lf n n⟩):=own_final HB.out.1 HB.out.2.2.2.2 HW1.out HW12.out HE6.out.2.2.1 HGD.out.1 HE6.out.2.2.2.1 HPL.out.2.2.2 HE6.out.2.2.2.2 HBK.out.1 B7.out H7.out.1 H7.out.2.1 H7.out.2.2 _ _ _ _ _ _
            have HB7:Hid (Blk u7 w.heap.size zFl 67/\Below w.heap.size w u7):=⟨HE6.out.1.keep B7.out,below_on HE6.out.2.1 (Nat.le_refl _) B7.out⟩
            clear x2 x4 y2 y4 r0 r1 r2 r3 r4 r5 f0 f1 f2 f3 f4 f5
            go_wp2_with fail
            obtain⟨q0,q1,q2,q3,q4,q5⟩:=six_cells HB7.out.1 (.int .i64 0) (.int .i64 0) (.slice (some ⟨gb,ob,none⟩) n cb) (.slice (some ⟨gO,0,none⟩) n cO) (.slice (some ⟨gi,0,none⟩) n n) (.slice aL ys.length cL)
            simp only[six]at q0 q1 q2 q3 q4 q5
            exact bodyPost_ret (v:=.agg #[.int .i64 0,.int .i64 0,.slice (some ⟨gb,ob,none⟩) n cb,.slice (some ⟨gO,0,none⟩) n cO,.slice (some ⟨gi,0,none⟩) n n,.slice aL ys.length cL]) (by simp[results,Tryz.results78,go_sem,q0,q1,q2,q3,q4,q5]) rfl ⟨⟨0,0,specL xs,ints O.reverse,(List.range n).map I,loopsTo E D Lf n n⟩,_,_,_,_,F,ys,rfl,HFO.out,HOF.out,six_below HB7.out.2 (Nat.le_refl _) _ _ _ _ _ _⟩
    . have r0:u2.cell? ⟨w.heap.size,0,none⟩=some (.int .i64 0):=HE2.out.1.cell 0
      have r1:u2.cell? ⟨w.heap.size,1,none⟩=some (.int .i64 0):=HE2.out.1.cell 1
      have r2:u2.cell? ⟨w.heap.size,2,none⟩=some (.slice none 0 0):=HE2.out.1.cell 2
      have r3:u2.cell? ⟨w.heap.size,3,none⟩=some (.slice none 0 0):=HE2.out.1.cell 3
      have r4:u2.cell? ⟨w.heap.size,4,none⟩=some (.slice none 0 0):=HE2.out.1.cell 4
      have r5:u2.cell? ⟨w.heap.size,5,none⟩=some (.slice none 0 0):=HE2.out.1.cell 5
      have f0:=HE2.out.1.frozen 0
      have f1:=HE2.out.1.frozen 1
      have f2:=HE2.out.1.frozen 2
      have f3:=HE2.out.1.frozen 3
      have f4:=HE2.out.1.frozen 4
      have f5:=HE2.out.1.frozen 5
      go_wp2_with fail
      obtain⟨q0,q1,q2,q3,q4,q5⟩:=six_cells HE2.out.1 (.int .i64 1) (.int .i64 (lx:Int)) (.slice none 0 0) (.slice none 0 0) (.slice none 0 0) (.slice none 0 0)
      simp only[six]at q0 q1 q2 q3 q4 q5
      refine bodyPost_ret (v:=.agg #[.int .i64 1,.int .i64 (lx:Int),.slice none 0 0,.slice none 0 0,.slice none 0 0,.slice none 0 0]) (by simp[results,Tryz.results78,go_sem,q0,q1,q2,q3,q4,q5]) rfl ⟨noFl 1 ((xs.length:Int)-1),_,_,_,_,[],[],?_,.off HG.out.1 HG.out.2 hon,OwFl.none _ _ _ _,six_below HE2.out.2.1 (Nat.le_refl _) _ _ _ _ _ _⟩
      have:((xs.length:Int)-1)=(lx:Int):=by rw[HLX.out];omega
      simp only[noFl,this]
end Go.Proofs.YtdfmdgbolmbffaaGreat
