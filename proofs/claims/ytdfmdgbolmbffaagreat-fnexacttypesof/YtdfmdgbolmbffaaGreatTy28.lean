import Derived.Test.YtdfmdgbolmbffaaGreatTy27
import Derived.Deep.AppendLies
namespace Go.Proofs.YtdfmdgbolmbffaaGreat
open Go.ChangeShapes Go.WideShapes Go.ChangeAt Go.RowKit
set_option linter.unusedVariables false
theorem nextS_on(xs:List MI)(x:MI)(e:Nat)(h1:onB x=true/\e+1<xs.length)(h2:¬goesB x=true):nextS xs x e=[numAt xs (e+1)]:=by
  unfold nextS
  simp only[if_pos h1,h2,false_and,if_false,Bool.false_eq_true]
  rfl
theorem nextS_eq(xs:List MI)(x:MI)(e:Nat)(h1:onB x=true/\e+1<xs.length)(h2:goesB x=true)(h:numAt xs (e+1)=numAt xs x.c.toNat):nextS xs x e=[numAt xs (e+1)]:=by
  unfold nextS
  simp only[if_pos h1]
  rw[if_neg (fun q=>q.2.elim (fun q=>by cases q) (fun q=>q (by rw[h])))]
  rfl
theorem nextS_ne(xs:List MI)(x:MI)(e:Nat)(h1:onB x=true/\e+1<xs.length)(h2:goesB x=true)(h:¬numAt xs (e+1)=numAt xs x.c.toNat):nextS xs x e=[numAt xs (e+1),numAt xs x.c.toNat]:=by
  unfold nextS
  simp only[if_pos h1]
  rw[if_pos ⟨h2,.inr (fun q=>h (by simpa using q))⟩]
  rfl
theorem nextS_go(xs:List MI)(x:MI)(e:Nat)(h1:¬(onB x=true/\e+1<xs.length))(h2:goesB x=true):nextS xs x e=[numAt xs x.c.toNat]:=by
  unfold nextS
  simp only[if_neg h1]
  simp[h2]
theorem nextS_no(xs:List MI)(x:MI)(e:Nat)(h1:¬(onB x=true/\e+1<xs.length))(h2:¬goesB x=true):nextS xs x e=[]:=by
  unfold nextS
  simp only[if_neg h1]
  simp[h2]
def OwBs(w:World)(base:Nat)(V:Value)(bs:List MB):Prop:=∃D:List (MB×Value),D.map Prod.fst=bs/\w.ownsRow base 71 3 V bs.length (D.flatMap bCells)/\∀x∈D,w.ownsRow base 2 1 x.2 x.1.next.length (x.1.next.flatMap intCell)
theorem OwBs.rd{w:World}{base:Nat}{V:Value}{bs:List MB}(h:OwBs w base V bs):RdBs w V bs:=by
  obtain⟨D,h1,h2,h3⟩:=h
  exact⟨D,h1,Rd.of_own h2,fun x hx=>Rd.of_own (h3 x hx)⟩
theorem TW.owbs{w u:World}{xs:List MI}{n q:Nat}{V:Value}{D:List (MB×Value)}(h:TW w u xs n q V D)(hn:xs.length=n)(hl:D.length=(outL xs n).length):OwBs u w.heap.size V (specL xs):=by
  have e1:D.map Prod.fst=specL xs:=by
    rw[h.done,hl,List.take_of_length_le (Nat.le_refl _)]
    unfold specL
    rw[hn]
  have e2:(specL xs).length=(outL xs n).length:=by unfold specL;rw[List.length_map,hn]
  refine⟨D,e1,?_,h.rows⟩
  have:=h.out
  rw[hl,List.drop_of_length_le (Nat.le_refl _)]at this
  rw[e2]
  simpa using this
set_option maxHeartbeats 4000000 in
set_option maxRecDepth 100000 in
theorem specBlocks_own(s:Value)(xs:List MI)(w:World)(hn:xs.length<=1048576)(h:Rd w 4 s xs.length (xs.flatMap MI.cells)):
    Calls Tryz.prog 66 #[s] w fun e w'=>∃V bs,e=.returned V/\OwBs w' w.heap.size V bs/\((¬CodeGood xs/\bs=[])\/CodeGood xs/\bs=specL xs)/\Below w.heap.size w w':=by
  obtain⟨i0,hi,hz0,hz1,hz2⟩:=info_parts infoB
  obtain⟨j0,hj,hy0,hy1,hy2⟩:=info_parts infoBool
  obtain⟨k0,hk,hx0,hx1,hx2⟩:=info_parts info64
  have H:Hid (Rd w 4 s xs.length (xs.flatMap MI.cells)):=h
  obtain⟨a1,c1,rfl⟩:=h.is_slice
  clear h
  have bA:=below_alloc w (.cells #[] 71)
  have BA:Hid (Below w.heap.size w (w.alloc (.cells #[] 71))/\Blk (w.alloc (.cells #[] 71)) w.heap.size #[] 71):=⟨bA,Blk.new _ _ _⟩
  go_enter Tryz.func66,Tryz.ntmps66
  go_wp2_with fail
  refine(l5Good_any (.slice a1 xs.length c1) xs _ hn (H.out.keep bA (Nat.le_refl _))).mono ?_
  rintro e u ⟨⟨b,rfl,hb⟩,rfl⟩
  clear bA
  cases b
  . have HN:Hid (¬CodeGood xs):=fun e=>absurd (hb.2 e) Bool.false_ne_true
    go_wp2
    go_ret
    exact⟨_,[],rfl,⟨[],rfl,⟨rfl,.inr ⟨w.heap.size,0,#[],rfl,Nat.le_refl _,BA.out.2,Nat.le_refl _,Nat.zero_le _,rfl,rfl⟩⟩,fun x hx=>by cases hx⟩,.inl ⟨HN.out,rfl⟩,BA.out.1⟩
  have HG:Hid (CodeGood xs):=hb.1 rfl
  clear hb
  have hg1:=HG.out.1
  have hg2:=HG.out.2.1
  generalize hLL:xs.length=n at hn H hg1 hg2⊢
  have HL:Hid (xs.length=n):=hLL
  clear hLL
  have hn1:¬((n:Int)+1)<0:=by omega
  go_wp2_with (at_make;refine wpList_make_full _ rfl _ _ 69 rfl w.heap.size 4 j0 (.bool false) 1 Tryz.underlying69 hj hy0 hy1 .i64 .i64 _ _ (n+1) rfl rfl (by go_num) (by go_num) (by rw[hy2];omega) (by unfold maxLen;omega) (by simp) ?_;intro w1 hown hgrow;rw[made_bool]at hown;simp only[World.size_alloc]at hown;have y0:=hown.cellAt 0 (by omega);have y1:=hown.frozenAt 0;simp only[List.getElem?_replicate,Nat.zero_lt_succ,if_true]at y0)
  have HV:Hid (SV w (w1.setCell ⟨w.heap.size+1,0,none⟩ (.bool true)) xs n 0):=by
    have hb1:Below (w.alloc (.cells #[] 71)).heap.size (w.alloc (.cells #[] 71)) w1:=(Below.refl _ _).grown hgrow (Nat.le_refl _) (fun k hk=>by cases hk)
    refine⟨?_,(BA.out.2.keep hb1).other (by simp only[];omega) _,(below_on BA.out.1 (Nat.le_refl _) hb1).setCell (by simp only[];omega) _⟩
    have:=(hown.stored 0 (.bool true)).1
    rw[leadV_zero xs n]at this
    exact this
  clear hown hgrow y0 y1
  go_wp2
  go_loopw [6] (fun i wr=>∃k:Nat,k<=n/\i=.int .i64 k/\Hid (SV w wr xs n k)) (fun i _=>n-(intOf i).toNat)
  case atStart=>exact⟨0,by omega,rfl,HV⟩
  case round=>
    clear HV
    obtain⟨k,hk',rfl,HV⟩:=hrel
    by_cases hlt:k<n
    . obtain⟨x,hx⟩:∃x,xs[k]?=some x:=⟨_,List.getElem?_eq_getElem (by rw[HL.out];exact hlt)⟩
      have HX:Hid (xs[k]?=some x):=hx
      rcases H.out.2 with⟨e0,_⟩|⟨g,o,c,e1,hc1⟩
      . omega
      simp only[Value.slice.injEq,true_and]at e1
      obtain⟨rfl,rfl⟩:=e1
      have x0:=Rd.elem MI.cells_length hc1 k _ hx 0 _ rfl
      have x3:=Rd.elem MI.cells_length hc1 k _ hx 3 _ rfl
      rw[Nat.add_zero]at x0
      have hglt:=block_lt_of_cell x0
      simp only[]at hglt
      have hgne:¬g=w.heap.size+1:=by omega
      have hgne':¬w.heap.size+1=g:=by omega
      rw[<-HV.out.bel.cell (block_lt_of_cell x0)]at x0
      rw[<-HV.out.bel.cell (block_lt_of_cell x3)]at x3
      clear hc1 hx
      have hkL:(k:Int)<(n:Int):=by omega
      have z0:=HV.out.lead.frozenAt (k+1)
      have d0:=HV.out.lead.cellAt (k+1) (by omega)
      rw[leadV_at _ _ _ _ (by omega)]at d0
      go_wp2_with fail
      refine(l5Goes_any x _).mono ?_
      rintro e u ⟨rfl,hu⟩
      have hu2:=hu.symm
      clear hu
      subst hu2
      cases hgo:goesB x
      . go_wp2_with fail
        refine(l5Goes_any x _).mono ?_
        rintro e u ⟨rfl,hu⟩
        have hu2:=hu.symm
        clear hu
        subst hu2
        rw[hgo]
        by_cases hr:x.op=29
        . have HN:Hid (SV w (wr.setCell ⟨w.heap.size+1,k+1,none⟩ (.bool true)) xs n (k+1)):=HV.out.set (k+1) (lead_ret xs k n x HX.out hgo hr (by omega))
          go_wp2
          go_roundw
          case rel=>exact⟨k+1,by omega,by go_num,HN⟩
          case measure=>simp[intOf];omega
        . have hr':(x.op==29)=false:=by simpa using hr
          have HN:Hid (SV w wr xs n (k+1)):=⟨by rw[<-lead_none xs k n x HX.out hgo hr];exact HV.out.lead,HV.out.out,HV.out.bel⟩
          go_wp2
          go_roundw
          case rel=>exact⟨k+1,by omega,by go_num,HN⟩
          case measure=>simp[intOf];omega
      . obtain⟨hc0,hc1⟩:=HG.out.2.2 k x HX.out hgo
        rw[HL.out]at hc1
        obtain⟨cc,hcc⟩:∃cc:Nat,x.c=(cc:Int):=⟨x.c.toNat,by omega⟩
        have HCC:Hid (x.c=(cc:Int)):=hcc
        rw[hcc]at x3 hc0 hc1
        have z1:=HV.out.lead.frozenAt cc
        have d1:=HV.out.lead.cellAt cc (by omega)
        rw[leadV_at _ _ _ _ (by omega)]at d1
        clear hcc
        have HN:Hid (SV w ((wr.setCell ⟨w.heap.size+1,cc,none⟩ (.bool true)).setCell ⟨w.heap.size+1,k+1,none⟩ (.bool true)) xs n (k+1)):=HV.out.set2 cc (k+1) (lead_goes xs k n cc x HX.out hgo HCC.out (by omega) (by omega))
        have S2:=(HV.out.lead.stored cc (.bool true)).1
        obtain⟨v2,hv2⟩:∃v,((leadV xs k n).set cc (.bool true))[k+1]?=some v:=⟨_,List.getElem?_eq_getElem (by simp[leadV_length];omega)⟩
        have d2:=S2.cellAt (k+1) (by omega)
        rw[hv2]at d2
        have z2:=S2.frozenAt (k+1)
        clear S2 hv2
        go_wp2_with fail
        refine(l5Goes_any x _).mono ?_
        rintro e u ⟨rfl,hu⟩
        have hu2:=hu.symm
        clear hu
        subst hu2
        rw[hgo]
        clear d0 d1 z0 z1 x0 x3
        generalize wr.setCell ⟨w.heap.size+1,cc,none⟩ (.bool true)=W2 at d2 z2 HN⊢
        go_wp2
        go_roundw
        case rel=>exact⟨k+1,by omega,by go_num,HN⟩
        case measure=>simp[intOf];omega
    . obtain rfl:k=n:=by omega
      have HV0:Hid (SV w wr xs k k):=HV.out
      clear HV hlt hk'
      go_wp2_with (at_make;refine wpList_make_full _ rfl _ _ 48 rfl w.heap.size 2 k0 (.int .i64 0) 1 Tryz.underlying48 hk hx0 hx1 .i64 .i64 _ _ k rfl rfl rfl rfl (by rw[hx2];omega) (by unfold maxLen;omega) HV0.out.bel.size ?_;intro w2 hown hgrow;rw[made_int k (numC xs) (List.range k)]at hown)
      have HW:Hid (SW w w2 xs k 0 wr.heap.size (.slice (some ⟨w.heap.size,0,none⟩) 0 0)):=by
        have hb1:Below wr.heap.size wr w2:=(Below.refl _ _).grown hgrow (Nat.le_refl _) (fun k hk=>by cases hk)
        refine⟨own_keep HV0.out.lead hb1 (Nat.le_refl _),hown,⟨rfl,.inr ⟨w.heap.size,0,#[],rfl,Nat.le_refl _,HV0.out.out.keep hb1,Nat.le_refl _,Nat.zero_le _,rfl,rfl⟩⟩,below_on HV0.out.bel (Nat.le_refl _) hb1⟩
      have HZ:Hid (w.heap.size<wr.heap.size):=HV0.out.out.lt
      clear hown hgrow HV0
      generalize wr.heap.size=q at HW HZ⊢
      go_wp2
      go_loopw [3,8] (fun v i wr=>∃j:Nat,j<=k/\i=.int .i64 j/\Hid (SW w wr xs k j q v)) (fun _ i _=>k-(intOf i).toNat)
      case atStart=>exact⟨0,by omega,rfl,HW⟩
      case round=>
        clear HW
        obtain⟨j,hj',rfl,HW⟩:=hrel
        by_cases hlt:j<k
        . have hjL:(j:Int)<(k:Int):=by omega
          have l0:=HW.out.lead.cellAt j (by omega)
          rw[leadV_at _ _ _ _ (by omega)]at l0
          have HLN:Hid ((outL xs j).length<=j):=by
            show(outL xs j).length<=j
            rw[outL_length]
            exact Nat.le_trans (List.length_filter_le _ _) (by simp)
          have hln:=HLN.out
          cases hld:leadB xs k j
          . -- no leader:the last block goes on
            rw[hld]at l0
            have hld':¬leadB xs xs.length j=true:=by rw[HL.out,hld];exact Bool.false_ne_true
            have hj0:0<j:=by
              cases j with
              |zero=>exact absurd (leadB_zero _ _) hld'
              |succ j=>omega
            have hne:outL xs j≠[]:=fun e=>lds_ne xs j hj0 (List.eq_nil_of_length_eq_zero (by rw[<-outL_length,e];rfl))
            obtain⟨bs,b,hM⟩:∃bs b,outL xs j=bs++[b]:=⟨_,_,(List.dropLast_concat_getLast hne).symm⟩
            have ho:outL xs (j+1)=bs++[(⟨b.first,(j:Int),b.next⟩:MB)]:=by
              simp only[outL]
              rw[if_neg hld',hM,setLast_snoc]
            have hnum:numAt xs j=(bs.length:Int):=by
              have e1:=outL_length xs (j+1)
              rw[ho]at e1
              simp only[List.length_append,List.length_singleton]at e1
              unfold numAt
              omega
            have hout:=HW.out.out
            rw[hM,List.length_append,List.length_singleton]at hout hln
            obtain⟨gg,cap,rfl⟩:∃g c,u3=.slice (some ⟨g,0,none⟩) (bs.length+1) c:=by
              rcases own_row hout with⟨_,h0⟩|h0
              . omega
              . exact h0
            have HF:Hid (SW w ((wr.setCell ⟨q,j,none⟩ (.int .i64 bs.length)).setCell ⟨gg,bs.length*3+1,none⟩ (.int .i64 j)) xs k (j+1) q (.slice (some ⟨gg,0,none⟩) (bs.length+1) cap)):=SW.fin hlt HW.out.lead HW.out.num hout HW.out.bel ho hnum
            have hgq:=row_ne hout HW.out.num (by decide)
            have hgq':¬q=gg:=fun e=>hgq e.symm
            have n0:=HW.out.num.cellAt j (by omega)
            have n1:=HW.out.num.frozenAt j
            have o0:=hout.cellAt (bs.length*3+1) (by omega)
            have o1:=hout.frozenAt (bs.length*3+1)
            rw[flatTo_parts _ _ _ _ _ hlt,List.getElem?_append_right (by rw[flat_length (numC xs) 1 (numC_length xs),List.length_take,List.length_range];omega),show j-(List.flatMap (numC xs) (List.take j (List.range k))).length=0 by rw[flat_length (numC xs) 1 (numC_length xs),List.length_take,List.length_range];omega]at n0
            simp only[List.cons_append,List.getElem?_cons_zero]at n0
            rw[List.flatMap_append,List.getElem?_append_right (by rw[flat_length bc0 3 bc0_length];omega),show bs.length*3+1-(List.flatMap bc0 bs).length=1 by rw[flat_length bc0 3 bc0_length];omega]at o0
            simp only[bc0,List.flatMap_cons,List.cons_append,List.getElem?_cons_succ,List.getElem?_cons_zero]at o0
            clear hM hne hout ho hnum
            have em:((bs.length:Int)+1-1)=(bs.length:Int):=by omega
            have hbl:bs.length<1048576:=by omega
            go_wp2
            go_roundw
            case rel=>exact⟨j+1,by omega,by go_num,HF⟩
            case measure=>simp[intOf];omega
          . -- a leader:a new block
            rw[hld]at l0
            have hld':leadB xs xs.length j=true:=by rw[HL.out,hld]
            have ho:outL xs (j+1)=outL xs j++[(⟨(j:Int),(j:Int),[]⟩:MB)]:=by
              simp only[outL]
              rw[if_pos hld',setLast_snoc]
            have hnum:numAt xs j=((outL xs j).length:Int):=by
              have e1:=outL_length xs (j+1)
              rw[ho]at e1
              simp only[List.length_append,List.length_singleton]at e1
              unfold numAt
              omega
            have HO:Hid (outL xs (j+1)=outL xs j++[(⟨(j:Int),(j:Int),[]⟩:MB)]/\numAt xs j=((outL xs j).length:Int)):=⟨ho,hnum⟩
            clear ho hnum
            have HC:Hid ((wr.alloc (.cells #[.int .i64 j,.int .i64 0,.slice none 0 0] 71)).ownsRow w.heap.size 71 3 u3 (outL xs j).length ((outL xs j).flatMap bc0)/\(∀i u,[(.int .i64 j:Value),.int .i64 0,.slice none 0 0][i]?=some u->(wr.alloc (.cells #[.int .i64 j,.int .i64 0,.slice none 0 0] 71)).cell? ((⟨wr.heap.size,0,none⟩:Addr).add i)=some u)/\w.heap.size<=(wr.alloc (.cells #[.int .i64 j,.int .i64 0,.slice none 0 0] 71)).heap.size):=by
              refine⟨own_keep HW.out.out (below_alloc _ _) (Nat.le_refl _),fun i u hu=> ?_,Nat.le_trans HW.out.bel.size (below_alloc _ _).size⟩
              rw[add_at,Nat.zero_add,(Blk.new wr #[.int .i64 j,.int .i64 0,.slice none 0 0] 71).cell i]
              simpa using hu
            have hbl:(outL xs j).length<1048576:=by omega
            have em:(((outL xs j).length:Int)+1-1)=((outL xs j).length:Int):=by omega
            go_wp2_with (at_builtin;refine wpList_append_lies _ rfl _ _ 64 rfl w.heap.size 71 i0 (.agg #[.int .i64 0,.int .i64 0,.slice none 0 0]) 3 40 Tryz.underlying64 hi hz0 hz1 hz2 rfl (by decide) _ _ _ rfl HC.out.1 ⟨wr.heap.size,0,none⟩ 1 1 [.int .i64 j,.int .i64 0,.slice none 0 0] rfl rfl HC.out.2.1 (fun u hu=>by simp at hu;rcases hu with rfl|rfl|rfl<;>rfl) (by omega) (by unfold maxLen;omega) (by omega) HC.out.2.2 _ rfl ?_;intro gg cap w3 hown hgrow hat hlt3;have HN:=begSW HW.out HO.out.1 HO.out.2 hlt hown hgrow;obtain⟨HF,hgq,hgq',n0,n1,o0,o1⟩:=HN;clear hown hgrow hat hlt3)
            go_wp2
            go_roundw
            case rel=>exact⟨j+1,by omega,by go_num,HF⟩
            case measure=>simp[intOf];omega
        . obtain rfl:j=k:=by omega
          have HT0:Hid (TW w wr xs j q u3 []):=TW.of HW.out
          have hln:(outL xs j).length<=j:=by
            rw[outL_length]
            exact Nat.le_trans (List.length_filter_le _ _) (by simp)
          have hlp:0<(outL xs j).length:=by
            rw[outL_length]
            exact List.length_pos_iff.2 (lds_ne xs j (by omega))
          obtain⟨gv,cap,rfl⟩:∃g c,u3=.slice (some ⟨g,0,none⟩) (outL xs j).length c:=by
            rcases own_row HW.out.out with⟨_,h0⟩|h0
            . omega
            . exact h0
          clear HW hlt hj'
          obtain⟨k,hkj⟩:∃k,k=j:=⟨_,rfl⟩
          subst hkj
          go_wp2
          go_loopw [9] (fun i wr=>∃D:List (MB×Value),D.length<=(outL xs k).length/\i=.int .i64 (D.length:Nat)/\Hid (TW w wr xs k q (.slice (some ⟨gv,0,none⟩) (outL xs k).length cap) D)) (fun i _=>(outL xs k).length-(intOf i).toNat)
          case atStart=>exact⟨[],by simp,rfl,HT0⟩
          case round=>
            clear HT0
            obtain⟨D,hD,rfl,HT⟩:=hrel
            by_cases hlt:D.length<(outL xs k).length
            . obtain ⟨m,hm⟩:∃m,(outL xs k)[D.length]?=some m:=⟨_,List.getElem?_eq_getElem hlt⟩
              obtain⟨e,he,hek⟩:=last_nat xs k hg1 m (List.mem_of_getElem? hm)
              obtain⟨x,hx⟩:∃x,xs[e]?=some x:=⟨_,List.getElem?_eq_getElem (by rw[HL.out];exact hek)⟩
              have HM:Hid ((outL xs k)[D.length]?=some m/\m.last=(e:Int)/\xs[e]?=some x):=⟨hm,he,hx⟩
              have hA:(D.flatMap bCells).length=D.length*3:=flat_length bCells 3 bCells_length D
              have o1:=HT.out.out.cellAt (D.length*3+1) (by omega)
              have o2:=HT.out.out.cellAt (D.length*3+2) (by omega)
              rw[List.getElem?_append_right (by omega),hA,Nat.add_sub_cancel_left,List.drop_eq_getElem_cons hlt,(List.getElem?_eq_some_iff.1 hm).2,List.flatMap_cons]at o1 o2
              simp only[bc0,List.cons_append,List.getElem?_cons_succ,List.getElem?_cons_zero,he]at o1 o2
              rcases H.out.2 with⟨e0,_⟩|⟨g,o,c,e1,hc1⟩
              . omega
              simp only[Value.slice.injEq,true_and]at e1
              obtain⟨rfl,rfl⟩:=e1
              have x0:=Rd.elem MI.cells_length hc1 e _ hx 0 _ rfl
              have x1:=Rd.elem MI.cells_length hc1 e _ hx 1 _ rfl
              have x2:=Rd.elem MI.cells_length hc1 e _ hx 2 _ rfl
              have x3:=Rd.elem MI.cells_length hc1 e _ hx 3 _ rfl
              rw[<-HT.out.bel.cell (block_lt_of_cell x0),Nat.add_zero]at x0
              rw[<-HT.out.bel.cell (block_lt_of_cell x1)]at x1
              rw[<-HT.out.bel.cell (block_lt_of_cell x2)]at x2
              rw[<-HT.out.bel.cell (block_lt_of_cell x3)]at x3
              have HO1:Hid (wr.cell? ⟨gv,D.length*3+1,none⟩=some (.int .i64 e)):=o1
              have HO2:Hid (wr.cell? ⟨gv,D.length*3+2,none⟩=some (.slice none 0 0)):=o2
              have HNU:Hid (∀p,p<k->wr.cell? ⟨q,p,none⟩=some (.int .i64 (numAt xs p))):=fun p hp=>by
                have:=HT.out.num.cellAt p (by omega)
                have e2:=flat_at (numC xs) 1 (numC_length xs) (List.range k) p 0 p (by simp[hp]) (by omega)
                rw[Nat.mul_one,Nat.add_zero]at e2
                rw[e2]at this
                exact this
              clear hm he hx hA o2 hc1
              have hdl:(D.length:Int)<((outL xs k).length:Int):=by omega
              have hel:(e:Int)<(k:Int):=by omega
              have hk2:(k:Int)<=1024:=by omega
              go_upto_region 27 with fail
              refine wp_world (fun u=>Hid (NW wr u x (.slice (some ⟨wr.heap.size+1,0,none⟩) 0 0) [])) (NW.of wr x) ?_
              intro U HU
              by_cases h1:onB x=true/\e+1<xs.length
              . have hb1:e+1<k:=by rw[<-HL.out];exact h1.2
                have r1:¬x.op=25:=fun q=>by simp[onB,q]at h1
                have r2:¬x.op=29:=fun q=>by simp[onB,q]at h1
                have r1':(x.op==25)=false:=by simpa using r1
                have r2':(x.op==29)=false:=by simpa using r2
                have r1n:(x.op != 25)=true:=by simpa using r1
                have r2n:(x.op != 29)=true:=by simpa using r2
                have r3:(e:Int)+1<(k:Int):=by omega
                have a0:=HU.out.xb.cell 0
                have a3:=HU.out.xb.cell 3
                simp only[List.getElem?_toArray,List.getElem?_cons_zero,List.getElem?_cons_succ]at a0 a3
                have f1:=bcell_keep HU.out.bel HO1.out
                have f3:=bcell_keep HU.out.bel (HNU.out (e+1) hb1)
                go_wp2_with (at_builtin;refine wpList_append_lies _ rfl _ _ 48 rfl wr.heap.size 2 k0 (.int .i64 0) 1 8 Tryz.underlying48 hk hx0 hx1 hx2 rfl (by decide) _ ([]:List Int).length (([]:List Int).flatMap intCell) rfl (HU.out.al (.cells #[.int .i64 (numAt xs (e+1))] 2)).1 ⟨U.heap.size,0,none⟩ 1 1 [.int .i64 (numAt xs (e+1))] rfl rfl (one_cell U (numAt xs (e+1))) (fun u hu=>by simp at hu;subst hu;rfl) (by omega) (by simp[maxLen]) (by simp) (HU.out.al (.cells #[.int .i64 (numAt xs (e+1))] 2)).2 _ rfl ?_;intro g3 cap3 w3 hown hgrow hat hlt3;have HU3:Hid (NW wr w3 x (.slice (some ⟨g3,0,none⟩) (0+1) cap3) ([]++[numAt xs (e+1)])):=HU.out.app hown rfl hgrow;clear hown hgrow hat hlt3)
                clear a0 a3 f1 f3
                by_cases h2:goesB x=true
                . have HGO:Hid (∀u:World,Calls Tryz.prog 48 #[.int .i64 x.op] u fun e w'=>e=.returned (.bool true)/\w'=u):=fun u=>by have:=l5Goes_any x u;rw[h2]at this;exact this
                  obtain⟨hc0,hc1⟩:=HG.out.2.2 e x HM.out.2.2 h2
                  rw[HL.out]at hc1
                  obtain⟨cc,hcc⟩:∃cc:Nat,x.c=(cc:Int):=⟨x.c.toNat,by omega⟩
                  have hcc2:cc<k:=by omega
                  have hcn:x.c.toNat=cc:=by omega
                  have a0:=HU3.out.xb.cell 0
                  have a3:=HU3.out.xb.cell 3
                  simp only[List.getElem?_toArray,List.getElem?_cons_zero,List.getElem?_cons_succ]at a0 a3
                  have f1:=bcell_keep HU3.out.bel HO1.out
                  rw[hcc]at a3
                  have f4:=bcell_keep HU3.out.bel (HNU.out cc hcc2)
                  have f5:=HU3.out.row.cellAt 0 (by simp)
                  simp only[List.nil_append,List.flatMap_cons,intCell,List.cons_append,List.getElem?_cons_zero]at f5
                  by_cases heq:numAt xs (e+1)=numAt xs cc
                  . rw[heq]at f5
                    go_wp2_with fail
                    go_quiet ((go_at_call 48;exact Calls.quiet_of_same (HGO.out _)))
                    refine with_world (fun u=>Hid (NW wr u x (.slice (some ⟨g3,0,none⟩) (0+1) cap3) ([]++[numAt xs (e+1)]))) (HU3.out.drew _) ?_
                    intro U4 HU4
                    clear a0 a3 f1 f4 f5
                    have f2:=bcell_keep HU4.out.bel HO2.out
                    have z2:=(own_keep HT.out.out HU4.out.bel (Nat.le_refl _)).frozenAt (D.length*3+2)
                    have HR:=HT.out.next rfl HM.out.1 HM.out.2.1 HM.out.2.2 HU4.out (by rw[nextS_eq xs x e h1 h2 (by rw[hcn];exact heq)];rfl)
                    have HR':Hid _:=HR
                    clear HR
                    go_wp2
                    go_roundw
                    case rel=>exact⟨D++[(specB xs m,_)],by simp only[List.length_append,List.length_singleton];omega,by simp only[List.length_append,List.length_singleton];go_num,HR'⟩
                    case measure=>simp[intOf];omega
                  . have hne:(numAt xs (e+1) != numAt xs cc)=true:=by simpa using heq
                    go_wp2_with fail
                    go_quiet ((go_at_call 48;exact Calls.quiet_of_same (HGO.out _)))
                    refine with_world (fun u=>Hid (NW wr u x (.slice (some ⟨g3,0,none⟩) (0+1) cap3) ([]++[numAt xs (e+1)]))) (HU3.out.drew _) ?_
                    intro U4 HU4
                    clear a0 a3 f1 f4 f5
                    have a0:=HU4.out.xb.cell 0
                    have a3:=HU4.out.xb.cell 3
                    simp only[List.getElem?_toArray,List.getElem?_cons_zero,List.getElem?_cons_succ]at a0 a3
                    have f1:=bcell_keep HU4.out.bel HO1.out
                    rw[hcc]at a3
                    have f4:=bcell_keep HU4.out.bel (HNU.out cc hcc2)
                    go_wp2_with (at_builtin;refine wpList_append_lies _ rfl _ _ 48 rfl wr.heap.size 2 k0 (.int .i64 0) 1 8 Tryz.underlying48 hk hx0 hx1 hx2 rfl (by decide) _ (([]++[numAt xs (e+1)]):List Int).length ((([]++[numAt xs (e+1)]):List Int).flatMap intCell) rfl (HU4.out.al (.cells #[.int .i64 (numAt xs cc)] 2)).1 ⟨U4.heap.size,0,none⟩ 1 1 [.int .i64 (numAt xs cc)] rfl rfl (one_cell U4 (numAt xs cc)) (fun u hu=>by simp at hu;subst hu;rfl) (by omega) (by simp[maxLen]) (by simp) (HU4.out.al (.cells #[.int .i64 (numAt xs cc)] 2)).2 _ rfl ?_;intro g5 cap5 w5 hown hgrow hat hlt3;have HU5:Hid (NW wr w5 x (.slice (some ⟨g5,0,none⟩) ((([]++[numAt xs (e+1)]):List Int).length+1) cap5) (([]++[numAt xs (e+1)])++[numAt xs cc])):=HU4.out.app hown rfl hgrow;have f2:=bcell_keep HU5.out.bel HO2.out;have z2:=(own_keep HT.out.out HU5.out.bel (Nat.le_refl _)).frozenAt (D.length*3+2);clear hown hgrow hat hlt3)
                    have HR:=HT.out.next rfl HM.out.1 HM.out.2.1 HM.out.2.2 HU5.out (by rw[nextS_ne xs x e h1 h2 (by rw[hcn];exact heq),hcn];rfl)
                    have HR':Hid _:=HR
                    clear HR
                    go_wp2
                    go_roundw
                    case rel=>exact⟨D++[(specB xs m,_)],by simp only[List.length_append,List.length_singleton];omega,by simp only[List.length_append,List.length_singleton];go_num,HR'⟩
                    case measure=>simp[intOf];omega
                . have HGO:Hid (∀u:World,Calls Tryz.prog 48 #[.int .i64 x.op] u fun e w'=>e=.returned (.bool false)/\w'=u):=fun u=>by have:=l5Goes_any x u;rw[show goesB x=false from by simpa using h2]at this;exact this
                  have a0:=HU3.out.xb.cell 0
                  have a3:=HU3.out.xb.cell 3
                  simp only[List.getElem?_toArray,List.getElem?_cons_zero,List.getElem?_cons_succ]at a0 a3
                  have f1:=bcell_keep HU3.out.bel HO1.out
                  go_wp2_with fail
                  go_quiet ((go_at_call 48;exact Calls.quiet_of_same (HGO.out _)))
                  skip
                  refine with_world (fun u=>Hid (NW wr u x (.slice (some ⟨g3,0,none⟩) (0+1) cap3) ([]++[numAt xs (e+1)]))) (HU3.out.drew _) ?_
                  intro U4 HU4
                  clear a0 a3 f1
                  have f2:=bcell_keep HU4.out.bel HO2.out
                  have z2:=(own_keep HT.out.out HU4.out.bel (Nat.le_refl _)).frozenAt (D.length*3+2)
                  have HR:=HT.out.next rfl HM.out.1 HM.out.2.1 HM.out.2.2 HU4.out (by rw[nextS_on xs x e h1 h2];rfl)
                  have HR':Hid _:=HR
                  clear HR
                  go_wp2
                  go_roundw
                  case rel=>exact⟨D++[(specB xs m,_)],by simp only[List.length_append,List.length_singleton];omega,by simp only[List.length_append,List.length_singleton];go_num,HR'⟩
                  case measure=>simp[intOf];omega
              . by_cases r1:x.op=25
                . have h2:goesB x=true:=by simp[goesB,r1]
                  have HGO:Hid (∀u:World,Calls Tryz.prog 48 #[.int .i64 25] u fun e w'=>e=.returned (.bool true)/\w'=u):=fun u=>by have:=l5Goes_any x u;rw[h2]at this;rw[r1]at this;exact this
                  obtain⟨hc0,hc1⟩:=HG.out.2.2 e x HM.out.2.2 h2
                  rw[HL.out]at hc1
                  obtain⟨cc,hcc⟩:∃cc:Nat,x.c=(cc:Int):=⟨x.c.toNat,by omega⟩
                  have hcc2:cc<k:=by omega
                  have hcn:x.c.toNat=cc:=by omega
                  have a0:=HU.out.xb.cell 0
                  have a3:=HU.out.xb.cell 3
                  simp only[List.getElem?_toArray,List.getElem?_cons_zero,List.getElem?_cons_succ]at a0 a3
                  rw[r1]at a0
                  have f1:=bcell_keep HU.out.bel HO1.out
                  rw[hcc]at a3
                  go_wp2_with fail
                  go_quiet ((go_at_call 48;exact Calls.quiet_of_same (HGO.out _)))
                  refine with_world (fun u=>Hid (NW wr u x (.slice (some ⟨wr.heap.size+1,0,none⟩) 0 0) [])) (HU.out.drew _) ?_
                  intro U4 HU4
                  clear a0 a3 f1
                  have a0:=HU4.out.xb.cell 0
                  have a3:=HU4.out.xb.cell 3
                  simp only[List.getElem?_toArray,List.getElem?_cons_zero,List.getElem?_cons_succ]at a0 a3
                  rw[r1]at a0
                  have f1:=bcell_keep HU4.out.bel HO1.out
                  rw[hcc]at a3
                  have f4:=bcell_keep HU4.out.bel (HNU.out cc hcc2)
                  go_wp2_with (at_builtin;refine wpList_append_lies _ rfl _ _ 48 rfl wr.heap.size 2 k0 (.int .i64 0) 1 8 Tryz.underlying48 hk hx0 hx1 hx2 rfl (by decide) _ ([]:List Int).length (([]:List Int).flatMap intCell) rfl (HU4.out.al (.cells #[.int .i64 (numAt xs cc)] 2)).1 ⟨U4.heap.size,0,none⟩ 1 1 [.int .i64 (numAt xs cc)] rfl rfl (one_cell U4 (numAt xs cc)) (fun u hu=>by simp at hu;subst hu;rfl) (by omega) (by simp[maxLen]) (by simp) (HU4.out.al (.cells #[.int .i64 (numAt xs cc)] 2)).2 _ rfl ?_;intro g3 cap3 w3 hown hgrow hat hlt3;have HU5:Hid (NW wr w3 x (.slice (some ⟨g3,0,none⟩) (0+1) cap3) ([]++[numAt xs cc])):=HU4.out.app hown rfl hgrow;have f2:=bcell_keep HU5.out.bel HO2.out;have z2:=(own_keep HT.out.out HU5.out.bel (Nat.le_refl _)).frozenAt (D.length*3+2);clear hown hgrow hat hlt3)
                  have HR:=HT.out.next rfl HM.out.1 HM.out.2.1 HM.out.2.2 HU5.out (by rw[nextS_go xs x e h1 h2,hcn];rfl)
                  have HR':Hid _:=HR
                  clear HR
                  go_wp2
                  go_roundw
                  case rel=>exact⟨D++[(specB xs m,_)],by simp only[List.length_append,List.length_singleton];omega,by simp only[List.length_append,List.length_singleton];go_num,HR'⟩
                  case measure=>simp[intOf];omega
                . by_cases r2:x.op=29
                  . have h2:¬goesB x=true:=by simp[goesB,r2]
                    have HGO:Hid (∀u:World,Calls Tryz.prog 48 #[.int .i64 29] u fun e w'=>e=.returned (.bool false)/\w'=u):=fun u=>by have:=l5Goes_any x u;rw[show goesB x=false from by simpa using h2]at this;rw[r2]at this;exact this
                    have a0:=HU.out.xb.cell 0
                    have a3:=HU.out.xb.cell 3
                    simp only[List.getElem?_toArray,List.getElem?_cons_zero,List.getElem?_cons_succ]at a0 a3
                    rw[r2]at a0
                    have f1:=bcell_keep HU.out.bel HO1.out
                    go_wp2_with fail
                    go_quiet ((go_at_call 48;exact Calls.quiet_of_same (HGO.out _)))
                    skip
                    refine with_world (fun u=>Hid (NW wr u x (.slice (some ⟨wr.heap.size+1,0,none⟩) 0 0) [])) (HU.out.drew _) ?_
                    intro U4 HU4
                    clear a0 a3 f1
                    have f2:=bcell_keep HU4.out.bel HO2.out
                    have z2:=(own_keep HT.out.out HU4.out.bel (Nat.le_refl _)).frozenAt (D.length*3+2)
                    have HR:=HT.out.next rfl HM.out.1 HM.out.2.1 HM.out.2.2 HU4.out (nextS_no xs x e h1 h2).symm
                    have HR':Hid _:=HR
                    clear HR
                    go_wp2
                    go_roundw
                    case rel=>exact⟨D++[(specB xs m,_)],by simp only[List.length_append,List.length_singleton];omega,by simp only[List.length_append,List.length_singleton];go_num,HR'⟩
                    case measure=>simp[intOf];omega
                  . have r3:¬e+1<k:=fun q=>h1 ⟨by simp[onB,r1,r2],by rw[HL.out];exact q⟩
                    have r3':¬(e:Int)+1<(k:Int):=by omega
                    have r1':(x.op==25)=false:=by simpa using r1
                    have r2':(x.op==29)=false:=by simpa using r2
                    have r1n:(x.op != 25)=true:=by simpa using r1
                    have r2n:(x.op != 29)=true:=by simpa using r2
                    by_cases h2:goesB x=true
                    . have HGO:Hid (∀u:World,Calls Tryz.prog 48 #[.int .i64 x.op] u fun e w'=>e=.returned (.bool true)/\w'=u):=fun u=>by have:=l5Goes_any x u;rw[h2]at this;exact this
                      obtain⟨hc0,hc1⟩:=HG.out.2.2 e x HM.out.2.2 h2
                      rw[HL.out]at hc1
                      obtain⟨cc,hcc⟩:∃cc:Nat,x.c=(cc:Int):=⟨x.c.toNat,by omega⟩
                      have hcc2:cc<k:=by omega
                      have hcn:x.c.toNat=cc:=by omega
                      have a0:=HU.out.xb.cell 0
                      have a3:=HU.out.xb.cell 3
                      simp only[List.getElem?_toArray,List.getElem?_cons_zero,List.getElem?_cons_succ]at a0 a3
                      have f1:=bcell_keep HU.out.bel HO1.out
                      rw[hcc]at a3
                      go_wp2_with fail
                      go_quiet ((go_at_call 48;exact Calls.quiet_of_same (HGO.out _)))
                      refine with_world (fun u=>Hid (NW wr u x (.slice (some ⟨wr.heap.size+1,0,none⟩) 0 0) [])) (HU.out.drew _) ?_
                      intro U4 HU4
                      clear a0 a3 f1
                      have a0:=HU4.out.xb.cell 0
                      have a3:=HU4.out.xb.cell 3
                      simp only[List.getElem?_toArray,List.getElem?_cons_zero,List.getElem?_cons_succ]at a0 a3
                      have f1:=bcell_keep HU4.out.bel HO1.out
                      rw[hcc]at a3
                      have f4:=bcell_keep HU4.out.bel (HNU.out cc hcc2)
                      go_wp2_with (at_builtin;refine wpList_append_lies _ rfl _ _ 48 rfl wr.heap.size 2 k0 (.int .i64 0) 1 8 Tryz.underlying48 hk hx0 hx1 hx2 rfl (by decide) _ ([]:List Int).length (([]:List Int).flatMap intCell) rfl (HU4.out.al (.cells #[.int .i64 (numAt xs cc)] 2)).1 ⟨U4.heap.size,0,none⟩ 1 1 [.int .i64 (numAt xs cc)] rfl rfl (one_cell U4 (numAt xs cc)) (fun u hu=>by simp at hu;subst hu;rfl) (by omega) (by simp[maxLen]) (by simp) (HU4.out.al (.cells #[.int .i64 (numAt xs cc)] 2)).2 _ rfl ?_;intro g3 cap3 w3 hown hgrow hat hlt3;have HU5:Hid (NW wr w3 x (.slice (some ⟨g3,0,none⟩) (0+1) cap3) ([]++[numAt xs cc])):=HU4.out.app hown rfl hgrow;have f2:=bcell_keep HU5.out.bel HO2.out;have z2:=(own_keep HT.out.out HU5.out.bel (Nat.le_refl _)).frozenAt (D.length*3+2);clear hown hgrow hat hlt3)
                      have HR:=HT.out.next rfl HM.out.1 HM.out.2.1 HM.out.2.2 HU5.out (by rw[nextS_go xs x e h1 h2,hcn];rfl)
                      have HR':Hid _:=HR
                      clear HR
                      go_wp2
                      go_roundw
                      case rel=>exact⟨D++[(specB xs m,_)],by simp only[List.length_append,List.length_singleton];omega,by simp only[List.length_append,List.length_singleton];go_num,HR'⟩
                      case measure=>simp[intOf];omega
                    . have HGO:Hid (∀u:World,Calls Tryz.prog 48 #[.int .i64 x.op] u fun e w'=>e=.returned (.bool false)/\w'=u):=fun u=>by have:=l5Goes_any x u;rw[show goesB x=false from by simpa using h2]at this;exact this
                      have a0:=HU.out.xb.cell 0
                      have a3:=HU.out.xb.cell 3
                      simp only[List.getElem?_toArray,List.getElem?_cons_zero,List.getElem?_cons_succ]at a0 a3
                      have f1:=bcell_keep HU.out.bel HO1.out
                      go_wp2_with fail
                      go_quiet ((go_at_call 48;exact Calls.quiet_of_same (HGO.out _)))
                      skip
                      refine with_world (fun u=>Hid (NW wr u x (.slice (some ⟨wr.heap.size+1,0,none⟩) 0 0) [])) (HU.out.drew _) ?_
                      intro U4 HU4
                      clear a0 a3 f1
                      have f2:=bcell_keep HU4.out.bel HO2.out
                      have z2:=(own_keep HT.out.out HU4.out.bel (Nat.le_refl _)).frozenAt (D.length*3+2)
                      have HR:=HT.out.next rfl HM.out.1 HM.out.2.1 HM.out.2.2 HU4.out (nextS_no xs x e h1 h2).symm
                      have HR':Hid _:=HR
                      clear HR
                      go_wp2
                      go_roundw
                      case rel=>exact⟨D++[(specB xs m,_)],by simp only[List.length_append,List.length_singleton];omega,by simp only[List.length_append,List.length_singleton];go_num,HR'⟩
                      case measure=>simp[intOf];omega
            . have hDl:D.length=(outL xs k).length:=by omega
              have HE:Hid (OwBs wr w.heap.size (.slice (some ⟨gv,0,none⟩) (outL xs k).length cap) (specL xs)):=HT.out.owbs HL.out hDl
              go_wp2
              go_ret
              exact⟨_,_,rfl,HE.out,.inr ⟨HG.out,rfl⟩,HT.out.bel⟩
end Go.Proofs.YtdfmdgbolmbffaaGreat
