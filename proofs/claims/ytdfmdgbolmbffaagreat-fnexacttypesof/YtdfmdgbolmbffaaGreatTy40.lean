import Derived.Test.YtdfmdgbolmbffaaGreatTy37
import Derived.Test.YtdfmdgbolmbffaaGreatTy35
import Derived.Test.YtdfmdgbolmbffaaGreatTy28
import Derived.Test.YtdfmdgbolmbffaaGreatTy39
import Derived.Test.YtdfmdgbolmbffaaGreatTy38
import Derived.Test.YtdfmdgbolmbffaaGreatTy32
namespace Go.Proofs.YtdfmdgbolmbffaaGreat
open Go.ChangeShapes Go.WideShapes Go.ChangeAt Go.RowKit
set_option linter.unusedVariables false
set_option maxHeartbeats 8000000 in
set_option maxRecDepth 100000 in
theorem dominate_any(G n gN cN gF cF gO cO gP cP:Nat)(E:Nat->List Nat)(O:List Nat)(w:World)(hn:n<=1024)(hP:Place E n (plO O))(hO:O.length=n)(hOn:O.Nodup)(hOm:∀x,x∈O↔x<n)(hsz:∀b,(fromL E n b).length<=4096)
    (hcO:n<=cO) (h:Blk w G #[.slice (some ⟨gN,0,none⟩) n cN,.slice (some ⟨gF,0,none⟩) n cF,.slice (some ⟨gO,0,none⟩) n cO,.slice (some ⟨gP,0,none⟩) n cP,.slice none 0 0] 176) (hF:EdAt w gF 0 n (fromL E n)) (hOr:∀k x:Nat,O.reverse[k]?=some x->w.cell? ⟨gO,k,none⟩=some (.int .i64 (x:Int))) (hPl:∀x,x<n->w.cell? ⟨gP,x,none⟩=some (.int .i64 (plO O x:Int)))
    (hne:gN≠G/\gF≠G/\gO≠G/\gP≠G/\∀b a c,b<n->w.cell? ⟨gF,b,none⟩=some (.slice (some a) (fromL E n b).length c)->a.block≠G):
    Calls Tryz.prog 114 #[.pointer (some ⟨G,0,none⟩)] w fun e w'=>e=.returned (.tuple #[])/\∃gi I,DW w w' G n #[.slice (some ⟨gN,0,none⟩) n cN,.slice (some ⟨gF,0,none⟩) n cF,.slice (some ⟨gO,0,none⟩) n cO,.slice (some ⟨gP,0,none⟩) n cP] gi I/\DoneI E n (plO O) I:=by
  obtain⟨K0,hK0⟩:=rch_bound E n
  obtain⟨K,hK1,hK⟩:∃K,1<=K/\∀e,e<n->∀x,x<n->Rch E (· ≠e) 0 x->RchN E (· ≠e) 0 K x:=⟨K0+1,by omega,fun e he x hx hr=>(hK0 e he x hx hr).mono (by omega)⟩
  have H:Hid (Blk w G #[.slice (some ⟨gN,0,none⟩) n cN,.slice (some ⟨gF,0,none⟩) n cF,.slice (some ⟨gO,0,none⟩) n cO,.slice (some ⟨gP,0,none⟩) n cP,.slice none 0 0] 176/\EdAt w gF 0 n (fromL E n)/\(∀k x:Nat,O.reverse[k]?=some x->w.cell? ⟨gO,k,none⟩=some (.int .i64 (x:Int)))/\(∀x,x<n->w.cell? ⟨gP,x,none⟩=some (.int .i64 (plO O x:Int)))/\(gN≠G/\gF≠G/\gO≠G/\gP≠G/\∀b a c,b<n->w.cell? ⟨gF,b,none⟩=some (.slice (some a) (fromL E n b).length c)->a.block≠G)):=⟨h,hF,hOr,hPl,hne⟩
  have HP:Hid (Place E n (plO O)/\O.Nodup/\(∀x,x∈O↔x<n)/\(∀b,(fromL E n b).length<=4096)/\(∀e,e<n->∀x,x<n->Rch E (· ≠e) 0 x->RchN E (· ≠e) 0 K x)/\(∀x,x<n->plO O x<n)):=⟨hP,hOn,hOm,hsz,hK,fun x hx=>by have:=plO_lt ((hOm x).2 hx);omega⟩
  have hpos:=hP.pos
  have hGl:=h.lt
  clear h hF hOr hPl hne hP hOn hOm hsz hK hK0
  have c0:(w.alloc (.cells #[.int .i64 (-1)] 2)).cell? ⟨G,0,none⟩=some (.slice (some ⟨gN,0,none⟩) n cN):=(H.out.1.keep (below_alloc _ _)).cell 0
  go_enter Tryz.func114,Tryz.ntmps114
  go_wp2_with fail
  refine(repeat_any w.heap.size n _ hpos hn ((Blk.new w #[.int .i64 (-1)] 2).cell 0)).mono ?_
  rintro e u1 ⟨gi,rfl,own1,b1⟩
  rw[zv_rep]at own1
  have bA:=below_alloc w (.cells #[.int .i64 (-1)] 2)
  have k1:=(H.out.1.keep bA).keep b1
  have d4:u1.cell? ⟨G,4,none⟩=some (.slice none 0 0):=k1.cell 4
  have z4:=k1.frozen 4
  have HD0:Hid (DW w (u1.setCell ⟨G,4,none⟩ (.slice (some ⟨gi,0,none⟩) n n)) G n #[.slice (some ⟨gN,0,none⟩) n cN,.slice (some ⟨gF,0,none⟩) n cF,.slice (some ⟨gO,0,none⟩) n cO,.slice (some ⟨gP,0,none⟩) n cP] gi (fun _=> -1)):=by
    have hb1:Below w.heap.size w u1:=below_on bA (Nat.le_refl _) b1
    have own1':=own_lower own1 (b:=w.heap.size) bA.size
    have hgi:=(own_blk own1').1
    refine⟨⟨_,_,_,_,rfl,?_⟩,ownsRow_setCell_other own1' (a:=⟨G,4,none⟩) (by simp[Value.ownBlock];omega) _,fun k hk hne=> ?_,(hb1.mono (Nat.le_of_lt hGl)).setCell (Nat.le_refl _) _,by rw[World.size_setCell];exact hb1.size,hGl⟩
    . have:=k1.set 4 (.slice (some ⟨gi,0,none⟩) n n)
      simpa using this
    . rw[heap_setCell_other u1 _ k _ hne]
      exact hb1.block k hk
  clear own1 b1 bA k1 c0
  have HPI:Hid (PassI E n (plO O) 0 1 (fun _=> -1)):=⟨DInv.start (fun _=>rfl),UInv.start HP.out.1 (fun _=>rfl),fun x hx hl=>by
    by_cases e:x=0
    . exact .inl e
    . have:=HP.out.1.first x hx e
      omega,.inl rfl,rfl⟩
  go_wp2
  go_loopg [2] (K+2) (fun m v wr=>∃(ch:Bool) (I:Nat->Int) (k:Nat),v=.bool ch/\Hid (DW w wr G n #[.slice (some ⟨gN,0,none⟩) n cN,.slice (some ⟨gF,0,none⟩) n cF,.slice (some ⟨gO,0,none⟩) n cO,.slice (some ⟨gP,0,none⟩) n cP] gi I)/\((ch=true/\m+k=K+2/\k<=K/\Hid (PassI E n (plO O) k 1 I))\/(ch=false/\Hid (DoneI E n (plO O) I))))
  case atStart=>exact⟨true,fun _=> -1,0,rfl,HD0,.inl ⟨rfl,rfl,by omega,HPI⟩⟩
  case round=>
    clear HD0 HPI d4 z4
    obtain⟨ch,I0,k,rfl,HD,hcase⟩:=hrel
    rcases hcase with⟨rfl,hm,hkK,HPI⟩|⟨rfl,HDN⟩
    . obtain ⟨w0, hw0⟩:∃W,W=wr:=⟨_,rfl⟩
      subst hw0
      have o2:w0.cell? ⟨G,2,none⟩=some (.slice (some ⟨gO,0,none⟩) n cO):=by
        obtain⟨x0,x1,x2,x3,e,kk⟩:=HD.out.blk
        simp only[Array.mk.injEq,List.cons.injEq,and_true]at e
        obtain⟨rfl,rfl,rfl,rfl⟩:=e
        exact kk.cell 2
      go_upto_region 4 with fail
      go_cut [21,22,23]from 17 to 22 (fun sv lv iv wx=>∃a c,sv=.slice a (n-1) c/\(1<n->a=some ⟨gO,1,none⟩)/\lv=.int .i64 ((n-1:Nat):Int)/\iv=.int .i64 0/\wx=w0)
      case first=>
        by_cases hc1:cO=1
        . subst hc1
          obtain rfl:n=1:=by omega
          go_wp2
          go_meet
          case rel=>exact⟨_,_,rfl,fun q=>(by omega),rfl,rfl,rfl⟩
        . have hc2:1<cO:=by omega
          go_wp2
          go_meet
          case rel=>exact⟨_,_,rfl,fun q=>rfl,by go_num,rfl,rfl⟩
      case rest =>
        obtain⟨asl,csl,rfl,ha,rfl,rfl,hwc⟩:=hcut
        rw[hwc]
        clear hwc o2
        have HGI:Hid (∀(U:World) (J:Nat->Int),DW w U G n #[.slice (some ⟨gN,0,none⟩) n cN,.slice (some ⟨gF,0,none⟩) n cF,.slice (some ⟨gO,0,none⟩) n cO,.slice (some ⟨gP,0,none⟩) n cP] gi J->GI U G n gP cP gi n (plO O) J/\U.cell? ⟨G,1,none⟩=some (.slice (some ⟨gF,0,none⟩) n cF)):=fun U J hU=>by
          obtain⟨x0,x1,x2,x3,e,kk⟩:=hU.blk
          simp only[Array.mk.injEq,List.cons.injEq,and_true]at e
          obtain⟨rfl,rfl,rfl,rfl⟩:=e
          refine⟨⟨kk.cell 3,kk.cell 4,fun x hx=>hU.cell (H.out.2.2.2.1 x hx) H.out.2.2.2.2.2.2.2.1,fun x hx=> ?_⟩,kk.cell 1⟩
          have:=hU.row.cellAt x (by omega)
          rw[zv_at _ _ _ hx]at this
          exact this
        go_wp2
        go_loopw [2,23] (fun v i wr=>∃(ch:Bool) (J:Nat->Int) (j:Nat),v=.bool ch/\i=.int .i64 (j:Int)/\j+1<=n/\Hid (DW w wr G n #[.slice (some ⟨gN,0,none⟩) n cN,.slice (some ⟨gF,0,none⟩) n cF,.slice (some ⟨gO,0,none⟩) n cO,.slice (some ⟨gP,0,none⟩) n cP] gi J/\PassI E n (plO O) k (j+1) J/\(ch=false->J=I0/\∀b,b<n->b≠0->plO O b<j+1->CommonIs n J (fromL E n b) (J b))/\(K<=k->ch=false))) (fun _ i _=>n-(intOf i).toNat)
        case atStart=>exact⟨false,I0,0,rfl,rfl,by omega,HD.out,HPI.out,fun _=>⟨rfl,fun b hb hb0 hl=>by have:=HP.out.1.first b hb hb0;omega⟩,fun _=>rfl⟩
        case round=>
          obtain⟨ch,J,j,rfl,rfl,hj,HL⟩:=hrel
          by_cases hlt:j<n-1
          . have hltI:(j:Int)<((n-1:Nat):Int):=by omega
            obtain rfl:=ha (by omega)
            obtain⟨b,hb⟩:∃b,O.reverse[j+1]?=some b:=⟨_,List.getElem?_eq_getElem (by rw[List.length_reverse];omega)⟩
            have hbO:b∈O:=List.mem_reverse.1 (List.mem_of_getElem? hb)
            have hbn:b<n:=(HP.out.2.2.1 b).1 hbO
            have hbnI:(b:Int)<(n:Int):=by omega
            have hpb:plO O b=j+1:=by
              have h1:=plO_at hbO
              have hd:O.reverse.Nodup:=List.pairwise_reverse.2 (HP.out.2.1.imp Ne.symm)
              obtain⟨l1,e1⟩:=List.getElem?_eq_some_iff.1 h1
              obtain⟨l2,e2⟩:=List.getElem?_eq_some_iff.1 hb
              exact(List.getElem_inj hd).1 (e1.trans e2.symm)
            have hb0:b≠0:=fun q=>by have:=HP.out.1.zero;rw[q]at hpb;omega
            have ob:=HL.out.1.cell (H.out.2.2.1 (j+1) b hb) H.out.2.2.2.2.2.2.1
            rw[Nat.add_comm]at ob
            obtain⟨hgi,f1⟩:=HGI.out _ _ HL.out.1
            obtain⟨af,cf,e0,e1⟩:=H.out.2.1 b hbn
            rw[Nat.zero_add]at e0
            have HPS:Hid (RdN wr (.slice af (fromL E n b).length cf) (fromL E n b)):=by
              refine⟨e1.1,e1.2.imp id ?_⟩
              rintro⟨g',o',c',q1,q2⟩
              refine⟨g',o',c',q1,fun jj v hv=>HL.out.1.cell (q2 jj v hv) ?_⟩
              simp only[Value.slice.injEq,true_and]at q1
              exact H.out.2.2.2.2.2.2.2.2 b ⟨g',o',none⟩ cf hbn (by rw[e0,q1.1])
            have f2:=HL.out.1.cell e0 H.out.2.2.2.2.2.1
            have HGJ:Hid (GI wr G n gP cP gi n (plO O) J):=hgi
            have HB:Hid (b∈O/\plO O b=j+1):=⟨hbO,hpb⟩
            clear e0 e1 hgi hb hbO
            go_wp2_with fail
            refine(commonOf_any G n gP cP gi n (plO O) J _ (fromL E n b) wr hn HL.out.2.1.dinv.tree HP.out.1.zero HP.out.1.inj (fun p hp=>((fromL_mem E n b p).1 hp).1) (HP.out.2.2.2.1 b) HPS.out HGJ.out).mono ?_
            rintro e u5 ⟨z,rfl,hz,b5⟩
            have HL5:Hid (DW w u5 G n #[.slice (some ⟨gN,0,none⟩) n cN,.slice (some ⟨gF,0,none⟩) n cF,.slice (some ⟨gO,0,none⟩) n cO,.slice (some ⟨gP,0,none⟩) n cP] gi J):=HL.out.1.keep b5
            obtain⟨hgi,f1'⟩:=HGI.out _ _ HL5.out
            have i4:=hgi.i
            have ib:=hgi.ic b hbn
            have iz:=HL5.out.row.frozenAt b
            obtain⟨J',hJ'⟩:∃J':Nat->Int,∀y,J' y=if y=b then z else J y:=⟨_,fun y=>rfl⟩
            have HN:Hid (DW w (u5.setCell ⟨gi,b,none⟩ (.int .i64 z)) G n #[.slice (some ⟨gN,0,none⟩) n cN,.slice (some ⟨gF,0,none⟩) n cF,.slice (some ⟨gO,0,none⟩) n cO,.slice (some ⟨gP,0,none⟩) n cP] gi J'/\PassI E n (plO O) k (j+1+1) J'/\(z=J b->J'=J)/\CommonIs n J (fromL E n b) z/\(K<=k->z=J b)):=by
              refine⟨HL5.out.set b z hJ',HL.out.2.1.step HP.out.1 hbn hb0 HB.out.2 hz hJ',fun q=> ?_,hz,fun hkk=> ?_⟩
              . funext y
                rw[hJ' y]
                by_cases e:y=b
                . rw[if_pos e,q,e]
                . rw[if_neg e]
              . have hall:∀x,x<n->Kn J x:=HL.out.2.1.all.resolve_left (by omega)
                refine dom_fix HP.out.1 HL.out.2.1.dinv hall (fun x hx d hd hr=> ?_) hbn hb0 (fromL_preds E n b) hz
                have hdn:=(hd.pls HL.out.2.1.dinv.tree hx).2.2
                exact(HL.out.2.1.uinv x hx (hall x hx) d hd).1 ((HP.out.2.2.2.2.1 d hdn x hx hr).mono hkk)
            clear hgi hz b5 HGJ HPS f1 f2 ob
            go_upto_region 8 with fail
            go_cut [2]from 36 to 47 (fun c wx=>(∃c':Bool,c=.bool c'/\(c'=false->ch=false/\z=J b)/\(ch=false->z=J b->c'=false))/\wx=u5)
            case first=>
              cases ch
              . by_cases hzb:z=J b
                . have hzB:(z != J b)=false:=by simp[hzb]
                  have HZ:Hid (z=J b):=hzb
                  clear hzb
                  go_wp2
                  go_meet
                  case rel=>exact⟨⟨_,rfl,fun _=>⟨trivial,HZ.out⟩,fun _ _=>rfl⟩,rfl⟩
                . have hzB:(z != J b)=true:=by simp[hzb]
                  have HZ:Hid (¬z=J b):=hzb
                  clear hzb
                  go_wp2
                  go_meet
                  case rel=>exact⟨⟨_,rfl,(fun q=>(by cases q)),(fun _ q=>absurd q HZ.out)⟩,rfl⟩
              . go_wp2
                go_meet
                case rel=>exact⟨⟨_,rfl,(fun q=>(by cases q)),(fun q=>(by cases q))⟩,rfl⟩
            case rest=>
              obtain⟨⟨c',rfl,hc1,hc2⟩,hwc⟩:=hcut
              rw[hwc]
              clear hwc
              go_wp2
              go_roundw
              case rel=>
                refine⟨c',J',j+1,rfl,by go_num,by omega,HN.out.1,HN.out.2.1,fun q=> ?_,fun q=>hc2 (HL.out.2.2.2 q) (HN.out.2.2.2.2 q)⟩
                obtain⟨q1,q2⟩:=hc1 q
                obtain⟨r1,r2⟩:=HL.out.2.2.1 q1
                have r3:=HN.out.2.2.1 q2
                refine⟨r3.trans r1,fun y hy hy0 hl=> ?_⟩
                rw[r3]
                by_cases e:y=b
                . rw[e,<-q2]
                  exact HN.out.2.2.2.1
                . refine r2 y hy hy0 ?_
                  have h1:=HP.out.1.inj y b hy hbn
                  have h2:=HB.out.2
                  omega
              case measure=>simp[intOf];omega
          . have hjn:j+1=n:=by omega
            have hltI:¬(j:Int)<((n-1:Nat):Int):=by omega
            have HPN:Hid (PassI E n (plO O) (k+1) 1 J/\∀x,x<n->Kn J x):=by
              have h0:=HL.out.2.1
              rw[hjn]at h0
              have hall:∀x,x<n->Kn J x:=fun x hx=>h0.kn x hx (HP.out.2.2.2.2.2 x hx)
              exact⟨⟨h0.dinv,h0.uinv.pass HP.out.1 HP.out.2.2.2.2.2,fun x hx _=>hall x hx,.inr hall,h0.z⟩,hall⟩
            cases ch
            . have HDN:Hid (DoneI E n (plO O) J):=by
                obtain⟨_,q2⟩:=HL.out.2.2.1 rfl
                refine⟨HPN.out.1.dinv,HPN.out.2,fun d x hx=>fix_dom HP.out.1 HPN.out.1.dinv HPN.out.2 (fromL E n) (fun b _=>fromL_preds E n b) (fun b hb hb0=>q2 b hb hb0 (by rw[hjn];exact HP.out.2.2.2.2.2 b hb)) hx,HPN.out.1.z⟩
              go_wp2
              go_roundg 0
              case measure=>omega
              case rel=>exact⟨false,J,0,rfl,HL.out.1,.inr ⟨rfl,HDN⟩⟩
            . have hkk:k<K:=by
                by_cases q:K<=k
                . have:=HL.out.2.2.2 q
                  cases this
                . omega
              go_wp2
              go_roundg (gk-1)
              case measure=>omega
              case rel=>exact⟨true,J,k+1,rfl,HL.out.1,.inl ⟨rfl,by omega,by omega,HPN.out.1⟩⟩
    . go_wp2
      go_end0
      exact⟨rfl,gi,I0,HD.out,HDN.out⟩
end Go.Proofs.YtdfmdgbolmbffaaGreat
namespace Go.Proofs.YtdfmdgbolmbffaaGreat
open Go.ChangeShapes Go.WideShapes Go.ChangeAt Go.RowKit
set_option linter.unusedVariables false
theorem OwnBE.rd{w:World}{base:Nat}{V:Value}{F:List (MB×Value)}(h:OwnBE w base V F):RdBs w V (F.map Prod.fst):=by
  refine⟨F,rfl,?_,fun x hx=>Rd.of_own (h.fam.own (x.2,x.1.next) (by unfold nrows;exact List.mem_map_of_mem (f:=fun x=>(x.2,x.1.next)) hx))⟩
  rw[List.length_map]
  exact Rd.of_own h.row
end Go.Proofs.YtdfmdgbolmbffaaGreat
namespace Go.Proofs.YtdfmdgbolmbffaaGreat
open Go.ChangeShapes Go.WideShapes Go.ChangeAt Go.RowKit
set_option linter.unusedVariables false
structure OwFl(w:World)(base:Nat)(vb vo vi vl:Value)(F:List (MB×Value))(ys:List (ML×Value×Value))(r:MFl):Prop where
  brow:w.ownsRow base 71 3 vb F.length (F.flatMap bCells)
  lrow:w.ownsRow base 53 3 vl ys.length (ys.flatMap lCells)
  fam:Fam w base (nrows F++(vo,r.order)::(vi,r.idom)::lrows ys)
  eb:F.map Prod.fst=r.blocks
  el:ys.map Prod.fst=r.loops
theorem OwFl.none(w:World)(base:Nat)(c a:Int):OwFl w base (.slice none 0 0) (.slice none 0 0) (.slice none 0 0) (.slice none 0 0) [] [] (noFl c a):=by
  refine⟨World.ownsRow_nil _ _ _ _,World.ownsRow_nil _ _ _ _,⟨fun x hx=> ?_,?_⟩,rfl,rfl⟩
  . simp[nrows,lrows,noFl]at hx
    rcases hx with rfl|rfl<;>exact World.ownsRow_nil _ _ _ _
  . refine List.Pairwise.cons ?_ (List.Pairwise.cons ?_ List.Pairwise.nil)
    . intro y _ g hg
      cases hg
    . intro y _ g hg
      cases hg
theorem Fam.ranges{w:World}{B M:Nat}{A C:List (Value×List Int)}(hA:Fam w B A)(hC:Fam w M C)(hBM:B<=M)(hlt:∀x∈A,∀g,x.1.ownBlock=some g->g<M):Fam w B (A++C):=by
  refine⟨fun x hx=> ?_,List.pairwise_append.2 ⟨hA.sep,hC.sep,fun a ha c hc g hg e=> ?_⟩⟩
  . rcases List.mem_append.1 hx with q|q
    . exact hA.own x q
    . exact own_lower (hC.own x q) hBM
  . have h1:=hlt a ha g hg
    have h2:=((hC.own c hc).lt g e).1
    omega
theorem lrows_fam{w:World}{B M:Nat}{ys:List (ML×Value×Value)}(hA:Fam w B (ys.map fun y=>(y.2.1,y.1.back)))(hC:Fam w M (ys.map fun y=>(y.2.2,y.1.blocks)))(hBM:B<=M)(hlt:∀y∈ys,∀g,y.2.1.ownBlock=some g->g<M):Fam w B (lrows ys):=by
  have hx:∀y∈ys,∀z∈ys,Apart (y.2.1,y.1.back) (z.2.2,z.1.blocks):=fun y hy z hz g hg e=>by
    have h1:=hlt y hy g hg
    have h2:=((hC.own (z.2.2,z.1.blocks) (List.mem_map.2 ⟨z,hz,rfl⟩)).lt g e).1
    omega
  refine⟨fun x hx'=> ?_,?_⟩
  . obtain⟨y,hy,q⟩:=List.mem_flatMap.1 hx'
    simp only[List.mem_cons,List.not_mem_nil,or_false]at q
    rcases q with rfl|rfl
    . exact hA.own _ (List.mem_map.2 ⟨y,hy,rfl⟩)
    . exact own_lower (hC.own _ (List.mem_map.2 ⟨y,hy,rfl⟩)) hBM
  . have hs1:=List.pairwise_map.1 hA.sep
    have hs2:=List.pairwise_map.1 hC.sep
    clear hA hC hlt
    unfold lrows
    induction ys with
    |nil=>exact List.Pairwise.nil
    | cons y r ih=>
      obtain⟨a1,a2⟩:=List.pairwise_cons.1 hs1
      obtain⟨b1,b2⟩:=List.pairwise_cons.1 hs2
      have ih':=ih (fun y' hy' z hz=>hx y' (List.mem_cons_of_mem _ hy') z (List.mem_cons_of_mem _ hz)) a2 b2
      rw[List.flatMap_cons]
      refine List.pairwise_append.2 ⟨?_,ih',fun p hp q hq=> ?_⟩
      . refine List.Pairwise.cons (fun z hz=> ?_) (by simp)
        simp only[List.mem_cons,List.not_mem_nil,or_false]at hz
        subst hz
        exact hx y (List.mem_cons_self ..) y (List.mem_cons_self ..)
      . obtain⟨z,hz,hq'⟩:=List.mem_flatMap.1 hq
        simp only[List.mem_cons,List.not_mem_nil,or_false]at hp hq'
        rcases hp with rfl|rfl
        . rcases hq' with rfl|rfl
          . exact a1 z hz
          . exact hx y (List.mem_cons_self ..) z (List.mem_cons_of_mem _ hz)
        . rcases hq' with rfl|rfl
          . exact(hx z (List.mem_cons_of_mem _ hz) y (List.mem_cons_self ..)).symm
          . exact b1 z hz
theorem seen_told{E:Nat->List Nat}{S O:List Nat}(h:Vs E [] [] [0] S O)(x:Nat):x∈S↔x∈O:=by
  obtain⟨N,t⟩:=h.told
  have:O=N:=by simpa using t.out
  subst this
  rw[t.seen x]
  simp
theorem OwnBE.ints{w:World}{base:Nat}{V:Value}{F:List (MB×Value)}{bs:List MB}{gb ob cb n:Nat}(h:OwnBE w base V F)(hF:F.map Prod.fst=bs)(hV:V=.slice (some ⟨gb,ob,none⟩) n cb)(hn:n=bs.length):∀b,b<n->∃f l:Int,w.cell? ⟨gb,ob+b*3,none⟩=some (.int .i64 f)/\w.cell? ⟨gb,ob+b*3+1,none⟩=some (.int .i64 l):=fun b hb=>by
  have hl:F.length=n:=by rw[hn,<-hF,List.length_map]
  have hr:=Rd.of_own h.row
  rcases hr.2 with⟨e0,_⟩|⟨g,o,c,e1,hc⟩
  . omega
  . rw[hV]at e1
    simp only[Value.slice.injEq,Option.some.injEq,Addr.mk.injEq,and_true]at e1
    obtain⟨⟨rfl,rfl⟩,_,rfl⟩:=e1
    obtain⟨x,hx⟩:∃x,F[b]?=some x:=⟨_,List.getElem?_eq_getElem (by omega)⟩
    have i0:=Rd.elem bCells_length hc b _ hx 0 _ rfl
    have i1:=Rd.elem bCells_length hc b _ hx 1 _ rfl
    rw[Nat.add_zero]at i0
    exact⟨_,_,i0,i1⟩
theorem vs_facts{E:Nat->List Nat}{n:Nat}{S O:List Nat}(hn:0<n)(hE:∀b,b<n->∀x∈E b,x<n)(h:Vs E [] [] [0] S O):(∀x∈O,x<n)/\O.Nodup/\O.length<=n/\∀x∈O,Rch E (fun _=>True) 0 x:=by
  obtain⟨N,t⟩:=h.told
  have:O=N:=by simpa using t.out
  subst this
  have hr:∀x∈O,Rch E (fun _=>True) 0 x:=fun x hx=>by
    obtain⟨q,q1,q2⟩:=t.from_ x hx
    have:q=0:=by simpa using q1
    subst this
    exact q2.mono fun _ _=>trivial
  have hl:∀x∈O,x<n:=fun x hx=>(hr x hx).lt hE hn
  refine⟨hl,t.nodup,?_,hr⟩
  have:=nodup_le O n hl t.nodup
  omega
theorem own_cap{w:World}{base k n c g:Nat}{e:TypeId}{xs:List Value}(h:w.ownsRow base e k (.slice (some ⟨g,0,none⟩) n c) n xs):n<=c:=by
  rcases h.2 with⟨h',_⟩|⟨g',cap',cur,h',_,_,h3,_⟩
  . cases h'
  . cases h'
    exact h3
structure GD(w1 u:World)(n G gN cN gF gO cO gP gi:Nat)(E:Nat->List Nat)(O:List Nat)(I:Nat->Int):Prop where
  blk:Blk u G #[.slice (some ⟨gN,0,none⟩) n cN,.slice (some ⟨gF,0,none⟩) n n,.slice (some ⟨gO,0,none⟩) n cO,.slice (some ⟨gP,0,none⟩) n n,.slice (some ⟨gi,0,none⟩) n n] 176
  nx:EdAt u gN 0 n E
  fr:EdAt u gF 0 n (fromL E n)
  ord:OwN u w1.heap.size (.slice (some ⟨gO,0,none⟩) n cO) O.reverse
  gi_:GI u G n gP n gi n (plO O) I
  idom:u.ownsRow w1.heap.size 2 1 (.slice (some ⟨gi,0,none⟩) n n) n (zv I n)
  bel:Below w1.heap.size w1 u
  ne:gO≠gi
theorem GD.keep{w1 u u':World}{n G gN cN gF gO cO gP gi:Nat}{E:Nat->List Nat}{O:List Nat}{I:Nat->Int}(h:GD w1 u n G gN cN gF gO cO gP gi E O I)(hb:Below u.heap.size u u'):GD w1 u' n G gN cN gF gO cO gP gi E O I:=⟨h.blk.keep hb,h.nx.keep hb,h.fr.keep hb,h.ord.keep hb,h.gi_.keep hb,own_keep h.idom hb (Nat.le_refl _),below_on h.bel (Nat.le_refl _) hb,h.ne⟩
theorem GD.of{w1 u3 u4 u5:World}{n G gN cN gF gO cO gP gi:Nat}{E:Nat->List Nat}{S O:List Nat}{I:Nat->Int}(h:GM w1 u3 n G gN cN gF gO cO gP E S O)(hO:O.length=n)(hOm:∀x,x∈O↔x<n)(hb:Below u3.heap.size u3 u4)(hd:DW u4 u5 G n #[.slice (some ⟨gN,0,none⟩) n cN,.slice (some ⟨gF,0,none⟩) n n,.slice (some ⟨gO,0,none⟩) n cO,.slice (some ⟨gP,0,none⟩) n n] gi I):GD w1 u5 n G gN cN gF gO cO gP gi E O I:=by
  obtain⟨x0,x1,x2,x3,e,kk⟩:=hd.blk
  simp only[Array.mk.injEq,List.cons.injEq,and_true]at e
  obtain⟨rfl,rfl,rfl,rfl⟩:=e
  have hn0:∀(g b:Nat),g≠G->g<u3.heap.size->u4.cell? ⟨g,b,none⟩=u3.cell? ⟨g,b,none⟩:=fun g b _ hl=>by
    unfold World.cell?
    rw[hb.block g hl]
  have fx:∀k,k<u4.heap.size->k∉[G]->u5.heap[k]?=u4.heap[k]?:=fun k hk hne=>hd.fx k hk (by simpa using hne)
  have hord:OwN u4 w1.heap.size (.slice (some ⟨gO,0,none⟩) n cO) O.reverse:=by
    have:=h.ord.keep hb
    rw[hO]at this
    exact this
  have hgl:∀(g:Nat) {E':Nat->List Nat},EdAt u3 g 0 n E'->n≠0->g<u3.heap.size:=fun g E' q hne=>by
    obtain⟨a,c,h1,_⟩:=q 0 (by omega)
    exact block_lt_of_cell h1
  refine⟨kk,(h.nx.keep hb).fxs fx (by simpa using h.ne.1) (fun b a m c hb' hc hm=> ?_),(h.fr.keep hb).fxs fx (by simpa using h.ne.2.1) (fun b a m c hb' hc hm=> ?_),hord.fx hd.fx (fun g hg=>by simp only[Value.ownBlock,Option.some.injEq]at hg;rw[<-hg];exact h.ne.2.2.1),⟨kk.cell 3,kk.cell 4,fun x hx=>hd.cell (bcell_keep hb (h.pl x ((hOm x).2 hx))) h.ne.2.2.2,fun x hx=> ?_⟩,own_lower hd.row (Nat.le_trans h.bel.size hb.size),?_,?_⟩
  . rw[hn0 gN b h.ne.1 (hgl gN h.nx (by omega))]at hc
    simpa using h.nn b a m c hb' hc hm
  . rw[hn0 gF b h.ne.2.1 (hgl gF h.fr (by omega))]at hc
    simpa using h.nf b a m c hb' hc
  . have:=hd.row.cellAt x (by omega)
    rw[zv_at _ _ _ hx]at this
    exact this
  . exact(below_on h.bel (Nat.le_refl _) hb).trans (hd.bel.mono h.ge)
  . have h1:=(own_blk hd.row).1
    have:=(hord.lt gO rfl).2
    omega
theorem done_idom{E:Nat->List Nat}{n:Nat}{pl:Nat->Nat}{I:Nat->Int}(h:DoneI E n pl I)(b:Nat)(hb:b<n):(b=0/\I b=-1)\/b≠0/\∃c:Nat,c<n/\I b=(c:Int)/\IdomIs E b c:=by
  by_cases e:b=0
  . exact .inl ⟨e,by rw[e];exact h.z⟩
  . obtain⟨c,c1,c2,c3,_⟩:=h.dinv.tree.up b hb e ((h.all b hb).resolve_left e)
    refine .inr ⟨e,c,c2,c1,fun q=>by rw[q]at c3;omega,(h.dom c b hb).1 (.up e c1 .here),fun d hd hdom=> ?_⟩
    obtain⟨_,c',e1,e2⟩:=((h.dom d b hb).2 hdom).cases' hd
    obtain rfl:c'=c:=by omega
    exact(h.dom d c' c2).1 e2
theorem Fam.sub{w:World}{B:Nat}{A C:List (Value×List Int)}(h:Fam w B C)(hs:List.Sublist A C):Fam w B A:=⟨fun x hx=>h.own x (hs.subset hx),h.sep.sublist hs⟩
theorem Fam.low{w:World}{B b:Nat}{A:List (Value×List Int)}(h:Fam w B A)(hb:b<=B):Fam w b A:=⟨fun x hx=>own_lower (h.own x hx) hb,h.sep⟩
theorem Fam.six{w:World}{B b:Nat}{A:List (Value×List Int)}(h:Fam w B A)(hb:b<B)(x0 x1 x2 x3 x4 x5:Value):Fam (six w b x0 x1 x2 x3 x4 x5) B A:=⟨fun x hx=>six_own (h.own x hx) (own_ge (h.own x hx) hb) _ _ _ _ _ _,h.sep⟩
theorem own_final{w u1 u2 u5 u6 u7:World}{n G gN cN gF gO cO gP gi gB cL:Nat}{E:Nat->List Nat}{O:List Nat}{I:Nat->Int}{vb:Value}{aL:Option Addr}{F:List (MB×Value)}{FS:List (Value×List Nat)}{ys:List (ML×Value×Value)}{bs:List MB}{ls:List ML}(hb:OwnBE u1 (w.heap.size+1) vb F)(hF:F.map Prod.fst=bs)(hw1:w.heap.size<u1.heap.size)(h12:u1.heap.size<=u2.heap.size)(hb6:Below u1.heap.size u1 u6)(hd5:GD u2 u5 n G gN cN gF gO cO gP gi E O I)(hd6:GD u2 u6 n G gN cN gF gO cO gP gi E O I)(hO:O.length=n)(hb56:Below u5.heap.size u5 u6)(hbk:BK u5 u6 n gB FS)(hb7:Below u6.heap.size u6 u7)(hlp:LP u6.drew u7 (.slice aL ys.length cL) ys)(hys:ys.map Prod.fst=ls)(hsub:List.Sublist (ys.map fun y=>(y.2.1,y.1.back)) (FS.map fun x=>(x.1,ints x.2)))(v0 v1 v2 v3 v4 v5:Value):OwFl (six u7 w.heap.size v0 v1 v2 v3 v4 v5) w.heap.size vb (.slice (some ⟨gO,0,none⟩) n cO) (.slice (some ⟨gi,0,none⟩) n n) (.slice aL ys.length cL) F ys ⟨0,0,bs,ints O.reverse,(List.range n).map I,ls⟩:=by
  have hb17:Below u1.heap.size u1 u7:=below_on hb6 (Nat.le_refl _) hb7
  have s25:u2.heap.size<=u5.heap.size:=hd5.bel.size
  have s56:=hb56.size
  have hd7:=hd6.keep hb7
  have A0:Fam u7 (w.heap.size+1) (nrows F):=hb.fam.keepB hb17
  have hO7:u7.ownsRow u2.heap.size 2 1 (.slice (some ⟨gO,0,none⟩) n cO) (ints O.reverse).length ((ints O.reverse).flatMap intCell):=by
    have:=hd7.ord
    unfold OwN at this
    rw[nv_flat,<-ints_length]at this
    exact this
  have hI7:u7.ownsRow u2.heap.size 2 1 (.slice (some ⟨gi,0,none⟩) n n) ((List.range n).map I).length (((List.range n).map I).flatMap intCell):=by
    have:=hd7.idom
    rw[zv_flat]at this
    rw[List.length_map,List.length_range]
    exact this
  have A1:Fam u7 u2.heap.size [((.slice (some ⟨gO,0,none⟩) n cO:Value),ints O.reverse),(.slice (some ⟨gi,0,none⟩) n n,(List.range n).map I)]:=by
    refine⟨fun x hx=> ?_,?_⟩
    . simp only[List.mem_cons,List.not_mem_nil,or_false]at hx
      rcases hx with rfl|rfl
      . exact hO7
      . exact hI7
    . refine List.Pairwise.cons (fun y hy=> ?_) (by simp)
      simp only[List.mem_cons,List.not_mem_nil,or_false]at hy
      subst hy
      intro g hg e
      simp only[Value.ownBlock,Option.some.injEq]at hg e
      exact hd6.ne (by rw[hg,e])
  have A2:Fam u7 u5.heap.size (lrows ys):=by
    refine lrows_fam ((hbk.fam.keepB hb7).sub hsub) hlp.fam hb56.size fun y hy g hg=> ?_
    have hm:=hsub.subset (List.mem_map.2 ⟨y,hy,rfl⟩)
    exact((hbk.fam.own _ hm).lt g hg).2
  have A12:Fam u7 u2.heap.size ([((.slice (some ⟨gO,0,none⟩) n cO:Value),ints O.reverse),(.slice (some ⟨gi,0,none⟩) n n,(List.range n).map I)]++lrows ys):=by
    refine A1.ranges A2 s25 fun x hx g hg=> ?_
    simp only[List.mem_cons,List.not_mem_nil,or_false]at hx
    rcases hx with rfl|rfl
    . exact(hd5.ord.lt g hg).2
    . exact(hd5.idom.lt g hg).2
  have A012:=A0.ranges A12 (by omega) (fun x hx g hg=>by
    have:=((hb.fam.own x hx).lt g hg).2
    omega)
  have hbr:=own_keep hb.row hb17 (Nat.le_refl _)
  have hlr:u7.ownsRow u6.heap.size 53 3 (.slice aL ys.length cL) ys.length (ys.flatMap lCells):=hlp.lps
  refine⟨own_lower (six_own hbr (own_ge hbr (Nat.lt_succ_self _)) _ _ _ _ _ _) (Nat.le_succ _),own_lower (six_own hlr (own_ge hlr (by omega)) _ _ _ _ _ _) (by omega),?_,hF,hys⟩
  exact(A012.six (Nat.lt_succ_self _) v0 v1 v2 v3 v4 v5).low (Nat.le_succ _)
end Go.Proofs.YtdfmdgbolmbffaaGreat
