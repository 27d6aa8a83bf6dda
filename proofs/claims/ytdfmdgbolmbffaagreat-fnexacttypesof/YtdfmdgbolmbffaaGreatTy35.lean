import Derived.Test.YtdfmdgbolmbffaaGreatTy34
import Derived.Deep.RegionLaw
namespace Go.Proofs.YtdfmdgbolmbffaaGreat
open Go.ChangeShapes Go.WideShapes Go.ChangeAt Go.RowKit
set_option linter.unusedVariables false
structure OwnBE(w:World)(base:Nat)(V:Value)(F:List (MB×Value)):Prop where
  row:w.ownsRow base 71 3 V F.length (F.flatMap bCells)
  fam:Fam w base (nrows F)
theorem wrap_small{e:Nat}(h:e<=1048576):IntKind.i64.wrap (e:Int)=(e:Int):=by
  simp[IntKind.wrap,IntKind.bits,IntKind.signed]
  omega
theorem blk_row_ne{u:World}{X B k g n c:Nat}{e t:TypeId}{cur:Array Value}{xs:List Value}(h:Blk u X cur t)(ho:u.ownsRow B e k (.slice (some ⟨g,0,none⟩) n c) n xs)(hne:t≠e):¬X=g:=fun eq=>by
  subst eq
  obtain⟨_,cur',h2⟩:=own_blk ho
  unfold Blk at h
  rw[h]at h2
  simp only[Option.some.injEq,Obj.cells.injEq]at h2
  exact hne h2.2.1
theorem made_blocks(n:Nat):(madeCells (Value.agg #[.int .i64 0,.int .i64 0,.slice none 0 0]).cells (n*3)).toList=(List.replicate n z3).flatten:=by
  rw[flatTo_zero bc0 z3 [] n (.agg #[.int .i64 0,.int .i64 0,.slice none 0 0]) 3 rfl rfl (by omega)]
  simp[flatTo]
set_option maxHeartbeats 8000000 in
set_option maxRecDepth 100000 in
theorem implBlocks_any(s:Value)(xs:List MI)(w:World)(hn:xs.length<=1048576)(h:Rd w 4 s xs.length (xs.flatMap MI.cells)):
    Calls Tryz.prog 110 #[s] w fun e w'=>∃V F,e=.returned V/\OwnBE w' w.heap.size V F/\((¬CodeGood xs/\F=[])\/CodeGood xs/\F.map Prod.fst=specL xs)/\Below w.heap.size w w':=by
  obtain⟨i0,hi,hz0,hz1,hz2⟩:=info_parts infoB
  have H:Hid (Rd w 4 s xs.length (xs.flatMap MI.cells)):=h
  obtain⟨a1,c1,rfl⟩:=h.is_slice
  clear h
  have HNIL:Hid (∀u:World,OwnBE u w.heap.size (.slice none 0 0) []):=fun u=>⟨World.ownsRow_nil _ _ _ _,⟨fun r hr=>(by cases hr),List.Pairwise.nil⟩⟩
  by_cases q0:xs.length=0
  . have HN:Hid (¬CodeGood xs):=fun e=>by have:=e.1;omega
    rw[q0]
    go_enter Tryz.func110,Tryz.ntmps110
    go_wp2
    go_ret
    exact⟨_,[],rfl,HNIL.out _,.inl ⟨HN.out,rfl⟩,Below.refl _ _⟩
  by_cases q1:1024<xs.length
  . have HN:Hid (¬CodeGood xs):=fun e=>by have:=e.2.1;omega
    have q0':((xs.length:Int)==0)=false:=beq_eq_false_iff_ne.2 (by omega)
    have q1':(1024:Int)<(xs.length:Int):=by omega
    go_enter Tryz.func110,Tryz.ntmps110
    go_wp2
    go_ret
    exact⟨_,[],rfl,HNIL.out _,.inl ⟨HN.out,rfl⟩,Below.refl _ _⟩
  have q0':((xs.length:Int)==0)=false:=beq_eq_false_iff_ne.2 (by omega)
  have q0n:¬(xs.length:Int)=0:=by omega
  have q1':¬(1024:Int)<(xs.length:Int):=by omega
  go_enter Tryz.func110,Tryz.ntmps110
  go_wp2_with fail
  refine(placesHold_any (.slice a1 xs.length c1) xs _ hn H.out).mono ?_
  rintro e u1 ⟨⟨b1,rfl,hb1⟩,bl1⟩
  cases b1
  . have HN:Hid (¬CodeGood xs):=fun e=>absurd (hb1.2 e.2.2) Bool.false_ne_true
    have HB:Hid (Below w.heap.size w u1):=bl1
    clear hb1 bl1
    go_wp2
    go_ret
    exact⟨_,[],rfl,HNIL.out _,.inl ⟨HN.out,rfl⟩,HB.out⟩
  have HG:Hid (CodeGood xs):=⟨by omega,by omega,hb1.1 rfl⟩
  have HB:Hid (Below w.heap.size w u1):=bl1
  clear hb1 bl1
  go_wp2_with fail
  refine(leadersOf_any (.slice a1 xs.length c1) xs _ HG.out (H.out.keep HB.out (Nat.le_refl _))).mono ?_
  rintro e u2 ⟨gl,cl,rfl,own2,b2⟩
  have hm1:(lds xs xs.length).length<=1024:=Nat.le_trans (List.length_filter_le _ _) (by simp;omega)
  have hm0:0<(lds xs xs.length).length:=List.length_pos_iff.2 (lds_ne xs _ (by omega))
  have HL2:Hid (u2.ownsRow w.heap.size 2 1 (.slice (some ⟨gl,0,none⟩) (lds xs xs.length).length cl) (lds xs xs.length).length (((lds xs xs.length).map Int.ofNat).flatMap intCell)/\Below w.heap.size w u2):=⟨own_lower own2 HB.out.size,below_on HB.out (Nat.le_refl _) b2⟩
  clear own2 b2
  generalize hM:(lds xs xs.length).length=m at hm1 hm0 HL2⊢
  have HM:Hid ((lds xs xs.length).length=m):=hM
  clear hM
  go_wp2_with (at_make;refine wpList_make_full _ rfl _ _ 64 rfl w.heap.size 71 i0 (.agg #[.int .i64 0,.int .i64 0,.slice none 0 0]) 3 Tryz.underlying64 hi hz0 hz1 .i64 .i64 _ _ m rfl rfl rfl rfl (by rw[hz2];omega) (by unfold maxLen;omega) HL2.out.2.size ?_;intro w3 hown hgrow;rw[made_blocks]at hown)
  have HI0:Hid (IW w w3 xs gl cl u2.heap.size m []):=by
    have hb3:Below u2.heap.size u2 w3:=(Below.refl _ _).grown hgrow (Nat.le_refl _) (fun k hk=>by cases hk)
    refine⟨?_,⟨?_,?_⟩,?_,below_on HL2.out.2 (Nat.le_refl _) hb3⟩
    . rw[HM.out]
      simpa using hown
    . intro r hr
      simp only[nrows,List.map_nil,List.mem_cons,List.not_mem_nil,or_false]at hr
      subst hr
      rw[HM.out]
      simp only[List.length_map,HM.out]
      exact own_keep HL2.out.1 hb3 (Nat.le_refl _)
    . simp[nrows]
    . rw[List.drop_of_length_le (by rw[midL_length,HM.out];exact Nat.le_refl _)]
      rfl
  clear hown hgrow HL2
  generalize u2.heap.size=bl at HI0⊢
  go_wp2
  go_loopw [5,6] (fun v i wr=>∃(j q:Nat) (D:List (MB×Value)),j<=m/\v=.int .i64 q/\i=.int .i64 ((j:Int)-1)/\Hid ((lds xs xs.length++[xs.length])[j]?=some q/\IW w wr xs gl cl bl j D)) (fun _ i _=>(intOf i+1).toNat)
  case atStart=>exact⟨m,xs.length,[],Nat.le_refl _,rfl,rfl,⟨by rw[List.getElem?_append_right (by rw[HM.out];exact Nat.le_refl _),HM.out];simp,HI0.out⟩⟩
  case round=>
    clear HI0
    obtain⟨j,q,D,hj,rfl,rfl,HI⟩:=hrel
    cases j with
    | succ b=>
      rw[show(((b+1:Nat):Int)-1)=(b:Int)by omega]
      obtain⟨a,ha⟩:∃a,(lds xs xs.length)[b]?=some a:=⟨_,List.getElem?_eq_getElem (by rw[HM.out];omega)⟩
      have hbm:=build_at _ _ _ _ _ ha HI.out.1
      obtain⟨e,he,hen⟩:=last_nat xs xs.length (by omega) _ (by rw[outL_build];exact List.mem_of_getElem? hbm)
      simp only[]at he
      obtain⟨x,hx⟩:∃x,xs[e]?=some x:=⟨_,List.getElem?_eq_getElem hen⟩
      have HX:Hid ((lds xs xs.length)[b]?=some a/\(q:Int)-1=(e:Int)/\xs[e]?=some x):=⟨ha,he,hx⟩
      have hqe:(q:Int)=(e:Int)+1:=by omega
      have heq1:(e:Int)+1-1=(e:Int):=by omega
      have hlead:=HI.out.2.lead
      rw[HM.out]at hlead
      have l0:=hlead.cellAt b (by omega)
      rw[ints_flat,List.getElem?_map,List.getElem?_map,ha]at l0
      simp only[Option.map_some]at l0
      have l0':wr.cell? ⟨gl,b,none⟩=some (.int .i64 (a:Int)):=l0
      have l1:=bcell_keep (below_drew1 wr) l0'
      have hrow:=HI.out.2.row
      rw[HM.out,z3_split]at hrow
      have HR:Hid (wr.ownsRow w.heap.size 71 3 (.slice (some ⟨bl,0,none⟩) m m) m ((List.replicate b z3).flatten++(z3++D.flatMap bCells))):=hrow
      have R1:Hid (Rd wr 4 (.slice a1 xs.length c1) xs.length (xs.flatMap MI.cells)):=H.out.keep HI.out.2.bel (Nat.le_refl _)
      have PF:Hid (∀u:World,Rd u 4 (.slice a1 xs.length c1) xs.length (xs.flatMap MI.cells)->Calls Tryz.prog 125 #[.slice a1 xs.length c1,.int .i64 (e:Int)] u fun e1 w'=>∃r,e1=.returned r/\w'.ownsRow u.heap.size 2 1 r (placesL xs x e).length ((placesL xs x e).flatMap intCell)/\Below u.heap.size u w'):=fun u hu=>placesFrom_any _ xs x e u HG.out.2.1 HG.out.2.2 HX.out.2.2 hu
      clear ha he hx hbm hlead hrow l0
      have hbL:(b:Int)<(m:Int):=by omega
      have hwr:IntKind.i64.wrap (e:Int)=(e:Int):=wrap_small (by omega)
      rw[hqe]
      go_wp2_with fail
      go_region_law (first
        |(go_simp;go_at_call 125;refine(PF.out _ (R1.out.keep (below_drew1 _) (Nat.le_refl _))).mono ?_;rintro e1 u5 ⟨r,rfl,own5,b5⟩;obtain⟨ar,cr,rfl⟩:=(Rd.of_own own5).is_slice;have B5:Hid (Below wr.heap.size wr u5):=below_drew_trans b5 (Nat.le_refl _);have O5:Hid (u5.ownsRow wr.heap.size 2 1 (.slice ar (placesL xs x e).length cr) (placesL xs x e).length ((placesL xs x e).flatMap intCell)):=own5;have l2:=bcell_keep B5.out l0';have hr5:=own_keep HR.out B5.out (Nat.le_refl _);have d0:=hr5.cellAt (b*3) (by omega);have d1:=hr5.cellAt (b*3+1) (by omega);have d2:=hr5.cellAt (b*3+2) (by omega);have f0:=hr5.frozenAt (b*3);have f1:=hr5.frozenAt (b*3+1);have f2:=hr5.frozenAt (b*3+2);rw[List.getElem?_append_right (by rw[z3_len];omega),z3_len]at d0 d1 d2;rw[Nat.sub_self]at d0;rw[Nat.add_sub_cancel_left]at d1 d2;simp only[z3,List.cons_append,List.getElem?_cons_zero,List.getElem?_cons_succ]at d0 d1 d2;clear own5 b5 hr5))
      all_goals
        refine with_world (fun u=>Hid (IW w u xs gl cl bl b ((⟨(a:Int),(e:Int),placesL xs x e⟩,.slice ar (placesL xs x e).length cr)::D))) (HI.out.2.next B5.out O5.out HX.out.1 HI.out.1 HX.out.2.1 HX.out.2.2) ?_
        intro U7 HN
        have l7:=HN.out.lead.cellAt b (by rw[HM.out];omega)
        rw[ints_flat,List.getElem?_map,List.getElem?_map,HX.out.1]at l7
        simp only[Option.map_some]at l7
        have l7':U7.cell? ⟨gl,b,none⟩=some (.int .i64 (a:Int)):=l7
        clear l7 l0' l1 l2 d0 d1 d2 f0 f1 f2
        have HQ:Hid ((lds xs xs.length++[xs.length])[b]?=some a):=by
          show _=_
          rw[List.getElem?_append_left (by rw[HM.out];omega)]
          exact HX.out.1
        go_wp2
        go_roundw
        case rel=>exact⟨b,a,_,by omega,rfl,by go_num,⟨HQ.out,HN.out⟩⟩
        case measure=>simp[intOf]
    | zero=>
      rw[show(((0:Nat):Int)-1)=-1 from rfl]
      have HJ0:Hid (JW w wr xs gl cl bl D/\D.map Prod.fst=midL xs/\D.length=m):=by
        refine⟨⟨by simpa using HI.out.2.row,HI.out.2.fam,HI.out.2.bel⟩,by simpa using HI.out.2.done,?_⟩
        have:=congrArg List.length HI.out.2.done
        rw[List.length_map,List.drop_zero,midL_length,HM.out]at this
        exact this
      have HD:Hid (D.map Prod.fst=midL xs/\D.length=m):=HJ0.out.2
      have HP:Hid (∀x∈D,∀p∈x.1.next,0<=p/\p.toNat∈lds xs xs.length):=fun x hx p hp=>places_lead xs HG.out x.1 (by rw[<-HD.out.1];exact List.mem_map_of_mem hx) p hp
      have HPL:Hid (∀x∈D,x.1.next.length<=2):=by
        intro x hx
        have hm:=List.mem_map_of_mem (f:=Prod.fst) hx
        rw[HD.out.1]at hm
        unfold midL at hm
        obtain⟨m0,_,e0⟩:=List.mem_map.1 hm
        rw[<-e0]
        simp only[midB,placesL]
        split<;>split<;>simp
      clear HI hj
      go_wp2
      go_loopw [60] (fun i wr=>∃E G:List (MB×Value),Hid (D=E++G)/\E.length<=m/\i=.int .i64 (E.length:Nat)/\Hid (JW w wr xs gl cl bl (E.map (finB xs)++G))) (fun i _=>m-(intOf i).toNat)
      case atStart=>exact⟨[],D,rfl,by simp,rfl,HJ0.out.1⟩
      case round=>
        clear HJ0
        obtain⟨E,G,HEG,hE,rfl,HJ⟩:=hrel
        have hlen:E.length+G.length=m:=by have:=HD.out.2;rw[HEG.out,List.length_append]at this;exact this
        cases G with
        | nil =>
          have hEm:E.length=m:=by simpa using hlen
          have HF:Hid (OwnBE wr w.heap.size (.slice (some ⟨bl,0,none⟩) m m) (E.map (finB xs))/\(E.map (finB xs)).map Prod.fst=specL xs):=by
            have hDE:D=E:=by rw[HEG.out];simp
            refine⟨⟨?_,?_⟩,?_⟩
            . have:=HJ.out.row
              rw[HM.out]at this
              rw[List.length_map,hEm]
              simpa using this
            . have:=HJ.out.fam
              exact⟨fun r hr=>this.own r (by simp at hr⊢;exact .inr hr),(by have h2:=this.sep;simp only[List.append_nil]at h2;exact(List.pairwise_cons.1 h2).2)⟩
            . exact fin_spec xs HG.out E (by rw[<-hDE];exact HD.out.1)
          have HBL:Hid (Below w.heap.size w wr):=HJ.out.bel
          go_wp2
          go_ret
          exact⟨_,_,rfl,HF.out.1,.inr ⟨HG.out,HF.out.2⟩,HBL.out⟩
        | cons y G'=>
          obtain⟨⟨f,l,ps⟩,v⟩:=y
          have hElt:E.length<m:=by simp only[List.length_cons]at hlen;omega
          have hEL:(E.length:Int)<(m:Int):=by omega
          have hmem:((⟨f,l,ps⟩,v):MB×Value)∈D:=by rw[HEG.out];simp
          have HPS:Hid (∀p∈ps,0<=p/\p.toNat∈lds xs xs.length):=HP.out _ hmem
          have hp2:ps.length<=2:=HPL.out _ hmem
          have hov:=HJ.out.fam.own (v,ps) (by simp[nrows])
          simp only[]at hov
          obtain⟨av,cv,rfl⟩:∃a c,v=.slice a ps.length c:=(Rd.of_own hov).is_slice
          have hrow:=HJ.out.row
          rw[HM.out,List.flatMap_append,List.flatMap_cons]at hrow
          have hA:((E.map (finB xs)).flatMap bCells).length=E.length*3:=by rw[flat_length bCells 3 bCells_length,List.length_map]
          have d0:=hrow.cellAt (E.length*3) (by omega)
          have d1:=hrow.cellAt (E.length*3+1) (by omega)
          have d2:=hrow.cellAt (E.length*3+2) (by omega)
          rw[List.getElem?_append_right (by omega),hA]at d0 d1 d2
          rw[Nat.sub_self]at d0
          rw[Nat.add_sub_cancel_left]at d1 d2
          simp only[bCells,List.cons_append,List.getElem?_cons_zero,List.getElem?_cons_succ]at d0 d1 d2
          clear hrow hA hmem
          obtain⟨wo,hwo⟩:∃W,W=wr:=⟨_,rfl⟩
          subst hwo
          go_upto_region 14 with fail
          refine wp_world (fun u=>Hid (JW w u xs gl cl bl (E.map (finB xs)++(⟨f,l,ps⟩,.slice av ps.length cv)::G')/\Blk u wo.heap.size #[.int .i64 f,.int .i64 l,.slice av ps.length cv] 71)) ⟨HJ.out.keep (below_alloc _ _),Blk.new _ _ _⟩ ?_
          intro U1 HU1
          clear d0 d1 d2
          have b2:=HU1.out.2.cell 2
          simp only[List.getElem?_toArray,List.getElem?_cons_zero,List.getElem?_cons_succ]at b2
          go_wp2
          go_loopw [67] (fun i wr=>∃k:Nat,k<=ps.length/\i=.int .i64 k/\Hid (JW w wr xs gl cl bl (E.map (finB xs)++(⟨f,l,(ps.map (idxL xs)).take k++ps.drop k⟩,.slice av ps.length cv)::G')/\Blk wr wo.heap.size #[.int .i64 f,.int .i64 l,.slice av ps.length cv] 71)) (fun i _=>ps.length-(intOf i).toNat)
          case atStart=>exact⟨0,by omega,rfl,⟨by have h0:=HU1.out.1;simpa using h0,HU1.out.2⟩⟩
          case round=>
            clear HU1 b2
            obtain⟨k,hk,rfl,HK⟩:=hrel
            by_cases hlt:k<ps.length
            . obtain⟨p,hp⟩:∃p,ps[k]?=some p:=⟨_,List.getElem?_eq_getElem hlt⟩
              have hcl:((ps.map (idxL xs)).take k++ps.drop k).length=ps.length:=by simp;omega
              have hov:=HK.out.1.fam.own (.slice av ps.length cv,(ps.map (idxL xs)).take k++ps.drop k) (by simp[nrows])
              simp only[hcl]at hov
              obtain⟨gv,rfl⟩:∃gv,av=some ⟨gv,0,none⟩:=by
                rcases own_row hov with⟨_,h0⟩|⟨g,c,h0⟩
                . omega
                . simp only[Value.slice.injEq]at h0
                  exact⟨g,h0.1⟩
              have HC:Hid (ps[k]?=some p/\((ps.map (idxL xs)).take k++ps.drop k).length=ps.length/\0<=p/\p.toNat∈lds xs xs.length):=⟨hp,hcl,HPS.out p (List.mem_of_getElem? hp)⟩
              have c0:=hov.cellAt k (by omega)
              rw[ints_flat,List.getElem?_map,List.getElem?_append_right (by simp;omega)]at c0
              rw[show k-(List.take k (ps.map (idxL xs))).length=0 by simp;omega,List.getElem?_drop,Nat.add_zero,hp]at c0
              simp only[Option.map_some]at c0
              clear hp hcl hov
              have hkL:(k:Int)<(ps.length:Int):=by omega
              go_wp2_with fail
              refine(HK.out.1.search HM.out hm1 p HC.out.2.2.1 HC.out.2.2.2).mono ?_
              rintro e1 u3 ⟨⟨bb,rfl⟩,qq,hq⟩
              have HU3:Hid (JW w u3 xs gl cl bl (E.map (finB xs)++(⟨f,l,(ps.map (idxL xs)).take k++ps.drop k⟩,.slice (some ⟨gv,0,none⟩) ps.length cv)::G')/\Blk u3 wo.heap.size #[.int .i64 f,.int .i64 l,.slice (some ⟨gv,0,none⟩) ps.length cv] 71):=by
                rw[hq]
                exact⟨HK.out.1.drew qq,HK.out.2⟩
              clear hq c0 HK
              have hov:=HU3.out.1.fam.own (.slice (some ⟨gv,0,none⟩) ps.length cv,(ps.map (idxL xs)).take k++ps.drop k) (by simp[nrows])
              simp only[HC.out.2.1]at hov
              have b2:=HU3.out.2.cell 2
              simp only[List.getElem?_toArray,List.getElem?_cons_zero,List.getElem?_cons_succ]at b2
              have c1:=hov.cellAt k (by omega)
              rw[ints_flat,List.getElem?_map,List.getElem?_append_right (by simp;omega)]at c1
              rw[show k-(List.take k (ps.map (idxL xs))).length=0 by simp;omega,List.getElem?_drop,Nat.add_zero,HC.out.1]at c1
              simp only[Option.map_some]at c1
              have c2:=hov.frozenAt k
              have hxv:¬wo.heap.size=gv:=blk_row_ne HU3.out.2 hov (by decide)
              have HN:Hid (JW w (u3.setCell ⟨gv,k,none⟩ (.int .i64 (idxL xs p))) xs gl cl bl (E.map (finB xs)++(⟨f,l,(ps.map (idxL xs)).take (k+1)++ps.drop (k+1)⟩,.slice (some ⟨gv,0,none⟩) ps.length cv)::G')/\Blk (u3.setCell ⟨gv,k,none⟩ (.int .i64 (idxL xs p))) wo.heap.size #[.int .i64 f,.int .i64 l,.slice (some ⟨gv,0,none⟩) ps.length cv] 71):=⟨HU3.out.1.set HC.out.2.1 (step_ints xs ps k p HC.out.1) (by simp;omega),HU3.out.2.other (a:=⟨gv,k,none⟩) hxv _⟩
              clear hov
              go_wp2
              go_roundw
              case rel=>exact⟨k+1,by omega,by go_num,HN⟩
              case measure=>simp[intOf];omega
            . obtain rfl:k=ps.length:=by omega
              have HN:Hid (JW w wr xs gl cl bl ((E++[((⟨f,l,ps⟩:MB),(.slice av ps.length cv:Value))]).map (finB xs)++G')):=by
                have h0:=HK.out.1
                rw[List.take_of_length_le (by simp),List.drop_of_length_le (Nat.le_refl _),List.append_nil]at h0
                show JW _ _ _ _ _ _ _
                simpa[finB]using h0
              go_wp2
              go_roundw
              case rel=>exact⟨E++[(⟨f,l,ps⟩,.slice av ps.length cv)],G',by show _=_;rw[HEG.out];simp,by simp only[List.length_append,List.length_singleton];omega,by simp only[List.length_append,List.length_singleton];go_num,HN⟩
              case measure=>simp[intOf];omega
end Go.Proofs.YtdfmdgbolmbffaaGreat
