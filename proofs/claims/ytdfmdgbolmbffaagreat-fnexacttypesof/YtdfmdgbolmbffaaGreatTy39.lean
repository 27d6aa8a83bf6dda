import Derived.Test.YtdfmdgbolmbffaaGreatTy37
import Derived.Test.YtdfmdgbolmbffaaGreatTy29
import Derived.Test.YtdfmdgbolmbffaaGreatTy31
import Derived.Test.YtdfmdgbolmbffaaGreatTy36
namespace Go.Proofs.YtdfmdgbolmbffaaGreat
open Go.ChangeShapes Go.WideShapes Go.ChangeAt Go.RowKit
set_option linter.unusedVariables false
structure BK(w u:World)(n gB:Nat)(FS:List (Value×List Nat)):Prop where
  frow:u.ownsRow w.heap.size 48 1 (.slice (some ⟨gB,0,none⟩) n n) n (FS.map Prod.fst)
  fam:Fam u w.heap.size (FS.map fun x=>(x.1,ints x.2))
  bel:Below w.heap.size w u
theorem BK.keep{w u u':World}{n gB:Nat}{FS:List (Value×List Nat)}(h:BK w u n gB FS)(hb:Below u.heap.size u u'):BK w u' n gB FS:=⟨own_keep h.frow hb (Nat.le_refl _),h.fam.keepB hb,below_on h.bel (Nat.le_refl _) hb⟩
theorem BK.app{w u u':World}{n gB g cap y b:Nat}{V:Value}{FS:List (Value×List Nat)}{l:List Nat}(h:BK w u n gB FS)(hy:FS[y]?=some (V,l))(hown:u'.ownsRow w.heap.size 2 1 (.slice (some ⟨g,0,none⟩) (l.length+1) cap) (l.length+1) (nv l++[.int .i64 (b:Int)]))(hg:u.grownBy u' V.ownBlock)(hat:V.ownBlock=some g\/g=u.heap.size):u'.ownsRow w.heap.size 48 1 (.slice (some ⟨gB,0,none⟩) n n) n (FS.map Prod.fst)/\BK w (u'.setCell ⟨gB,y,none⟩ (.slice (some ⟨g,0,none⟩) (l.length+1) cap)) n gB (FS.set y (.slice (some ⟨g,0,none⟩) (l.length+1) cap,l++[b])):=by
  obtain⟨hyl,hye⟩:=List.getElem?_eq_some_iff.1 hy
  have hFS:FS=FS.take y++(V,l)::FS.drop (y+1):=by rw[<-hye,<-List.drop_eq_getElem_cons hyl,List.take_append_drop]
  have hlen:(FS.take y).length=y:=by rw[List.length_take];omega
  have oV:=h.fam.own (V,ints l) (List.mem_map.2 ⟨(V,l),List.mem_of_getElem? hy,rfl⟩)
  have kf:u'.ownsRow w.heap.size 48 1 (.slice (some ⟨gB,0,none⟩) n n) n (FS.map Prod.fst):=own_grown h.frow hg oV (by decide)
  have hset:FS.set y (.slice (some ⟨g,0,none⟩) (l.length+1) cap,l++[b])=FS.take y++(.slice (some ⟨g,0,none⟩) (l.length+1) cap,l++[b])::FS.drop (y+1):=by
    have:=set_mid (FS.take y) (FS.drop (y+1)) (V,l) (.slice (some ⟨g,0,none⟩) (l.length+1) cap,l++[b])
    rw[hlen,<-hFS]at this
    exact this
  have km:Fam u' w.heap.size ((FS.set y (.slice (some ⟨g,0,none⟩) (l.length+1) cap,l++[b])).map fun x=>(x.1,ints x.2)):=by
    have h0:=h.fam
    rw[hFS,List.map_append,List.map_cons]at h0
    rw[hset,List.map_append,List.map_cons]
    refine Fam.grow (g:=g) h0 ?_ rfl hg (hat.imp id fun e=>by omega)
    simp only[]
    rw[ints_length,List.length_append,List.length_singleton,<-nv_flat,nv_app]
    exact hown
  obtain⟨hge,cur,hcur⟩:=own_blk kf
  refine⟨kf,?_,⟨fun x hx=>ownsRow_setCell_other (km.own x hx) (a:=⟨gB,y,none⟩) (fun e=>type_apart (km.own x hx) hcur (by decide) gB e rfl) _,km.sep⟩,(h.bel.grown hg h.bel.size (fun i hi=>(oV.lt i hi).1)).setCell hge _⟩
  have:=(kf.stored y (.slice (some ⟨g,0,none⟩) (l.length+1) cap)).1
  rw[List.map_set]
  exact this
theorem backP_at{E:Nat->List Nat}{D:Nat->Nat->Bool}{b k y:Nat}(hy:(E b)[k]?=some y)(x:Nat):backP E D x b (k+1)=if x=y/\D y b=true then backP E D x b k++[b]else backP E D x b k:=by
  by_cases e:x=y
  . subst e
    by_cases q:D x b=true
    . rw[if_pos ⟨rfl,q⟩,backP_yes hy q]
    . rw[if_neg (fun r=>q r.2),backP_no hy (fun r=>q r.2)]
  . rw[if_neg (fun r=>e r.1),backP_no hy (fun r=>e r.1.symm)]
def BackIs(w w':World)(n:Nat)(E:Nat->List Nat)(O:List Nat)(D:Nat->Nat->Bool)(e:Ending):Prop:=(∃b k y:Nat,e=.returned (.tuple #[.slice none 0 0,.int .i64 (y:Int)])/\FirstBad E n (Bad O D) b k y)\/∃gB FS,e=.returned (.tuple #[.slice (some ⟨gB,0,none⟩) n n,.int .i64 (-1)])/\(∀b,b<n->∀t∈E b,¬Bad O D b t)/\BK w w' n gB FS/\FS.length=n/\∀x,x<n->∃V,FS[x]?=some (V,backL E D n x)
set_option maxHeartbeats 8000000 in
set_option maxRecDepth 100000 in
theorem backEdges_any(G n gN cN gP cP gi ci:Nat)(E:Nat->List Nat)(O:List Nat)(I:Nat->Int)(D:Nat->Nat->Bool)(w:World)(hn:n<=1024)(hP:Place E n (plO O))(hI:DoneI E n (plO O) I)(hD:∀d b,D d b=true↔Dom E d b)(hsz:∀b,(E b).length<=2)
    (h0:w.cell? ⟨G,0,none⟩=some (.slice (some ⟨gN,0,none⟩) n cN)) (hN:EdAt w gN 0 n E) (hG:GI w G n gP cP gi ci (plO O) I):
    Calls Tryz.prog 115 #[.pointer (some ⟨G,0,none⟩)] w fun e w'=>BackIs w w' n E O D e/\Below w.heap.size w w':=by
  obtain⟨k0,hk,hx0,hx1,hx2⟩:=info_parts info64
  obtain⟨j0,hj,hy0,hy1,hy2⟩:=info_parts infoSI
  have H:Hid (EdAt w gN 0 n E/\GI w G n gP cP gi ci (plO O) I/\Place E n (plO O)/\DoneI E n (plO O) I/\(∀d b,D d b=true↔Dom E d b)/\(∀b,(E b).length<=2)/\w.cell? ⟨G,0,none⟩=some (.slice (some ⟨gN,0,none⟩) n cN)):=⟨hN,hG,hP,hI,hD,hsz,h0⟩
  clear hN hG hP hI hD hsz
  go_enter Tryz.func115,Tryz.ntmps115
  go_upto_region 2 with(at_make;refine wpList_make_full _ rfl _ _ 22 rfl w.heap.size 48 j0 (.slice none 0 0) 1 Tryz.underlying22 hj hy0 hy1 .i64 .i64 _ _ n rfl rfl rfl rfl (by rw[hy2];omega) (by unfold maxLen;omega) (Nat.le_refl _) ?_;intro w3 hown hgrow)
  rw[made_nils]at hown
  have HB0:Hid (BK w w3 n w.heap.size ((List.range n).map fun x=>((.slice none 0 0:Value),backL E D 0 x))):=by
    refine⟨?_,⟨fun x hx=> ?_,?_⟩,below_none hgrow⟩
    . rw[List.map_map]
      have e:(List.range n).map (Prod.fst ∘ fun x=>((.slice none 0 0:Value),backL E D 0 x))=List.replicate n (.slice none 0 0):=by
        apply List.ext_getElem?
        intro j
        by_cases hj:j<n
        . simp[hj]
        . rw[List.getElem?_eq_none (by simp;omega),List.getElem?_eq_none (by simp;omega)]
      rw[e]
      exact hown
    . simp only[List.mem_map]at hx
      obtain⟨y,⟨z,_,rfl⟩,rfl⟩:=hx
      have:ints (backL E D 0 z)=[]:=by simp[backL,ints]
      simp only[this]
      exact World.ownsRow_nil _ _ _ _
    . rw[List.map_map]
      refine List.pairwise_map.2 (List.pairwise_lt_range.imp fun _=> ?_)
      intro g hg
      cases hg
  have x0:=bcell_keep HB0.out.bel h0
  clear hown hgrow h0
  obtain⟨gB,hgB⟩:∃gB,gB=w.heap.size:=⟨_,rfl⟩
  have HGB:Hid (gB=w.heap.size):=hgB
  rw[<-hgB]at⊢
  have HB1:Hid (BK w w3 n gB ((List.range n).map fun x=>((.slice none 0 0:Value),backL E D 0 x))):=by rw[HGB.out];exact HB0
  clear hgB HB0
  go_wp2
  go_loopw [20] (fun i wr=>∃(b:Nat) (FS:List (Value×List Nat)),b<=n/\i=.int .i64 b/\FS.length=n/\Hid (BK w wr n gB FS/\(∀x,x<n->∃V,FS[x]?=some (V,backL E D b x))/\(∀b',b'<b->∀t∈E b',¬Bad O D b' t))) (fun i _=>n-(intOf i).toNat)
  case atStart=>exact⟨0,_,by omega,rfl,by simp,HB1.out,fun x hx=>⟨.slice none 0 0,by simp[hx]⟩,fun b' hb'=>by omega⟩
  case round=>
    clear HB1 x0
    obtain⟨b,FS,hb,rfl,hFS,HL⟩:=hrel
    by_cases hlt:b<n
    . have hltI : (b:Int)<(n:Int):=by omega
      obtain⟨a,ca,g0,g1⟩:=H.out.1 b hlt
      rw[Nat.zero_add]at g0
      have HGR:Hid (RdN w (.slice a (E b).length ca) (E b)):=g1
      replace g0:=bcell_keep HL.out.1.bel g0
      have hE2:=H.out.2.2.2.2.2.1 b
      clear g1
      go_wp2
      go_loopw [27] (fun i wr=>∃(k:Nat) (FS:List (Value×List Nat)),k<=(E b).length/\i=.int .i64 k/\FS.length=n/\Hid (BK w wr n gB FS/\(∀x,x<n->∃V,FS[x]?=some (V,backL E D b x++backP E D x b k))/\(∀b',b'<b->∀t∈E b',¬Bad O D b' t)/\(∀k' t,k'<k->(E b)[k']?=some t->¬Bad O D b t))) (fun i _=>2-(intOf i).toNat)
      case atStart=>exact⟨0,FS,by omega,rfl,hFS,HL.out.1,fun x hx=>by obtain⟨V,hV⟩:=HL.out.2.1 x hx;exact⟨V,by rw[backP_zero,List.append_nil];exact hV⟩,HL.out.2.2,fun k' t hk'=>by omega⟩
      case round=>
        clear HL g0
        obtain⟨k,FS,hk',rfl,hFS,HL⟩:=hrel
        by_cases hlt2:k<(E b).length
        . have hlt2I:(k:Int)<((E b).length:Int):=by omega
          obtain⟨y,hy⟩:∃y,(E b)[k]?=some y:=⟨_,List.getElem?_eq_getElem hlt2⟩
          have hyn:y<n:=H.out.2.2.1.edge b hlt y (List.mem_of_getElem? hy)
          have hynI:(y:Int)<(n:Int):=by omega
          have HY:Hid ((E b)[k]?=some y):=hy
          obtain⟨ga,oa,rfl,_,y0⟩:=HGR.out.at_ hy
          replace y0:=bcell_keep HL.out.1.bel y0
          have hg:=H.out.2.1.keep HL.out.1.bel
          have p0:=hg.p
          have py:=hg.pc y hyn
          have pb:=hg.pc b hlt
          clear hy hg
          have HNX:Hid (¬Bad O D b y->∀k' t',k'<k+1->(E b)[k']?=some t'->¬Bad O D b t'):=fun hnb k' t' h1 h2=>by
            by_cases e:k'=k
            . subst e
              rw[HY.out]at h2
              cases h2
              exact hnb
            . exact HL.out.2.2.2 k' t' (by omega) h2
          by_cases hp:plO O b<plO O y
          . have hpI:(plO O b:Int)<(plO O y:Int):=by omega
            have HN:Hid ((∀x,x<n->∃V,FS[x]?=some (V,backL E D b x++backP E D x b (k+1)))/\∀k' t',k'<k+1->(E b)[k']?=some t'->¬Bad O D b t'):=by
              refine⟨fun x hx=> ?_,HNX.out (fun q=>by have:=q.1;omega)⟩
              rw[backP_at HY.out x,if_neg]
              . exact HL.out.2.1 x hx
              . rintro⟨_,q⟩
                have:=(((H.out.2.2.2.2.1 y b).1 q).way H.out.2.2.1 hlt).2.1
                omega
            go_wp2
            go_quiet (fail)
            refine with_world (fun u=>Hid (BK w u n gB FS)) (HL.out.1.keep (below_drewN _ _ _)) ?_
            intro U HU
            clear y0 p0 py pb
            go_wp2
            go_roundw
            case rel=>exact⟨k+1,FS,by omega,by go_num,hFS,HU.out,HN.out.1,HL.out.2.2.1,HN.out.2⟩
            case measure=>simp[intOf];omega
          . have hpI:¬(plO O b:Int)<(plO O y:Int):=by omega
            go_wp2
            go_quiet (fail)
            refine with_world (fun u=>Hid (BK w u n gB FS)) (HL.out.1.keep (below_drewN _ _ _)) ?_
            intro U HU
            clear y0 p0 py pb
            go_wp2_with fail
            refine(meet_any G n gP cP gi ci y b (plO O) I U hn H.out.2.2.2.1.dinv.tree H.out.2.2.1.zero H.out.2.2.1.inj hyn hlt (H.out.2.2.2.1.all y hyn) (H.out.2.2.2.1.all b hlt) (H.out.2.1.keep HU.out.bel)).mono ?_
            rintro e u5 ⟨m,rfl,hm,hkm,hM,b5⟩
            have HMY:Hid (m=y↔D y b=true):=by
              rw[H.out.2.2.2.2.1,<-H.out.2.2.2.1.dom y b hlt]
              constructor
              . intro e
                subst e
                exact((hM m).1 .here).2
              . intro q
                exact Anc.anti H.out.2.2.2.1.dinv.tree hyn ((hM m).1 .here).1 ((hM y).2 ⟨.here,q⟩)
            have HU5:Hid (BK w u5 n gB FS):=HU.out.keep b5
            clear hM b5 HU
            by_cases hmy:m=y
            . subst hmy
              have HDy:Hid (D m b=true):=HMY.out.1 rfl
              obtain⟨V,hV⟩:=HL.out.2.1 m hyn
              obtain⟨aV,cV,eV⟩:=own_slice (HL.out.1.fam.own (V,ints (backL E D b m++backP E D m b k)) (List.mem_map.2 ⟨(V,_),List.mem_of_getElem? hV,rfl⟩))
              simp only[ints_length]at eV
              subst eV
              have hll:(backL E D b m++backP E D m b k).length<=4096:=by
                have h1:=backL_len H.out.2.2.2.2.2.1 D m b
                have h2:=backP_len E D m b k
                rw[List.length_append]
                omega
              generalize hLV:backL E D b m++backP E D m b k=lv at hV hll
              have HLV:Hid (backL E D b m++backP E D m b k=lv/\FS[m]?=some (.slice aV lv.length cV,lv)):=⟨hLV,hV⟩
              clear hV hLV HMY
              have HFC:Hid (∀(u':World),u'.ownsRow w.heap.size 48 1 (.slice (some ⟨gB,0,none⟩) n n) n (FS.map Prod.fst)->u'.cell? ⟨gB,m,none⟩=some (.slice aV lv.length cV)):=fun u' hu'=>by
                have:=hu'.cellAt m (by omega)
                rw[List.getElem?_map,HLV.out.2]at this
                exact this
              have bE:=below_alloc u5 (.cells #[.int .i64 (b:Int)] 2)
              have x2:=HFC.out _ HU5.out.frow
              have HUE:Hid (BK w (u5.alloc (.cells #[.int .i64 (b:Int)] 2)) n gB FS/\w.heap.size<=(u5.alloc (.cells #[.int .i64 (b:Int)] 2)).heap.size):=⟨HU5.out.keep bE,Nat.le_trans HU5.out.bel.size bE.size⟩
              have HOW:Hid ((u5.alloc (.cells #[.int .i64 (b:Int)] 2)).ownsRow w.heap.size 2 1 (.slice aV lv.length cV) lv.length (nv lv)):=by
                have:=HUE.out.1.fam.own (.slice aV lv.length cV,ints lv) (List.mem_map.2 ⟨(_,lv),List.mem_of_getElem? HLV.out.2,rfl⟩)
                rw[ints_length,<-nv_flat]at this
                exact this
              have HAP:Hid (∀g6 cap6 w6,w6.ownsRow w.heap.size 2 1 (.slice (some ⟨g6,0,none⟩) (lv.length+1) cap6) (lv.length+1) (nv lv++[.int .i64 (b:Int)])->(u5.alloc (.cells #[.int .i64 (b:Int)] 2)).grownBy w6 (Value.slice aV lv.length cV).ownBlock->((Value.slice aV lv.length cV).ownBlock=some g6\/g6=(u5.alloc (.cells #[.int .i64 (b:Int)] 2)).heap.size)->w6.cell? ⟨gB,m,none⟩=some (.slice aV lv.length cV)/\w6.frozen? ⟨gB,m,none⟩=false/\BK w (w6.setCell ⟨gB,m,none⟩ (.slice (some ⟨g6,0,none⟩) (lv.length+1) cap6)) n gB (FS.set m (.slice (some ⟨g6,0,none⟩) (lv.length+1) cap6,lv++[b]))):=fun g6 cap6 w6 hown hgrow hat=>by
                obtain⟨q1,q2⟩:=HUE.out.1.app HLV.out.2 hown hgrow hat
                exact⟨HFC.out _ q1,q1.frozenAt m,q2⟩
              clear bE
              go_wp2_with (at_builtin;refine wpList_append_lies _ rfl _ _ 48 rfl w.heap.size 2 k0 (.int .i64 0) 1 8 Tryz.underlying48 hk hx0 hx1 hx2 rfl (by decide) _ lv.length (nv lv) rfl HOW.out ⟨u5.heap.size,0,none⟩ 1 1 [.int .i64 (b:Int)] rfl rfl (one_cell u5 (b:Int)) (fun u hu=>by simp at hu;subst hu;rfl) (by omega) (by simp[maxLen];omega) (by omega) HUE.out.2 _ rfl ?_;intro g6 cap6 w6 hown hgrow hat hlt9;obtain⟨t6,z6,l6⟩:=HAP.out g6 cap6 w6 hown hgrow hat;have HU6:Hid (BK w (w6.setCell ⟨gB,m,none⟩ (.slice (some ⟨g6,0,none⟩) (lv.length+1) cap6)) n gB (FS.set m (.slice (some ⟨g6,0,none⟩) (lv.length+1) cap6,lv++[b]))):=l6;clear hown hgrow hat hlt9 l6)
              have HN:Hid ((∀x,x<n->∃V,(FS.set m (.slice (some ⟨g6,0,none⟩) (lv.length+1) cap6,lv++[b]))[x]?=some (V,backL E D b x++backP E D x b (k+1)))/\∀k' t',k'<k+1->(E b)[k']?=some t'->¬Bad O D b t'):=by
                refine⟨fun x hx=> ?_,HNX.out (fun q=>q.2 HDy.out)⟩
                rw[backP_at HY.out x]
                by_cases e:x=m
                . subst e
                  refine⟨.slice (some ⟨g6,0,none⟩) (lv.length+1) cap6,?_⟩
                  rw[if_pos ⟨rfl,HDy.out⟩,<-List.append_assoc,HLV.out.1,List.getElem?_set_self (by omega)]
                . rw[if_neg (fun r=>e r.1),List.getElem?_set_ne (Ne.symm e)]
                  exact HL.out.2.1 x hx
              clear x2 HUE HOW HAP HFC
              go_roundw
              case rel=>exact⟨k+1,FS.set m (.slice (some ⟨g6,0,none⟩) (lv.length+1) cap6,lv++[b]),by omega,by go_num,by rw[List.length_set];exact hFS,HU6.out,HN.out.1,HL.out.2.2.1,HN.out.2⟩
              case measure=>simp[intOf];omega
            . have hmyB:((m:Int)==(y:Int))=false:=by simp;omega
              have hDy:¬D y b=true:=fun q=>hmy (HMY.out.2 q)
              have HFB:Hid (FirstBad E n (Bad O D) b k y):=⟨hlt,HY.out,⟨by omega,hDy⟩,fun b' k' x' hb' hx' hl=>by
                rcases hl with q|⟨rfl,q⟩
                . exact HL.out.2.2.1 b' q x' (List.mem_of_getElem? hx')
                . exact HL.out.2.2.2 k' x' q hx'⟩
              go_wp2
              go_ret2
              exact⟨Or.inl ⟨b,k,y,rfl,HFB.out⟩,HU5.out.bel⟩
        . obtain rfl:k=(E b).length:=by omega
          have HN:Hid ((∀x,x<n->∃V,FS[x]?=some (V,backL E D (b+1) x))/\∀b',b'<b+1->∀t∈E b',¬Bad O D b' t):=by
            refine⟨fun x hx=>by rw[backL_succ];exact HL.out.2.1 x hx,fun b' hb' t ht=> ?_⟩
            by_cases e:b'=b
            . subst e
              obtain⟨q,hq⟩:=List.getElem?_of_mem ht
              exact HL.out.2.2.2 q t (List.getElem?_eq_some_iff.1 hq).1 hq
            . exact HL.out.2.2.1 b' (by omega) t ht
          go_wp2
          go_roundw
          case rel=>exact⟨b+1,FS,by omega,by go_num,hFS,HL.out.1,HN.out.1,HN.out.2⟩
          case measure=>simp[intOf];omega
    . have ebn:b=n:=by omega
      have hltI:¬(b:Int)<(n:Int):=by omega
      rw[ebn]at HL
      go_wp2
      go_ret2
      exact⟨Or.inr ⟨gB,FS,rfl,HL.out.2.2,HL.out.1,hFS,HL.out.2.1⟩,HL.out.1.bel⟩
end Go.Proofs.YtdfmdgbolmbffaaGreat
namespace Go.Proofs.YtdfmdgbolmbffaaGreat
open Go.ChangeShapes Go.WideShapes Go.ChangeAt Go.RowKit
set_option linter.unusedVariables false
structure LP(w u:World)(V:Value)(ys:List (ML×Value×Value)):Prop where
  lps:u.ownsRow w.heap.size 53 3 V ys.length (ys.flatMap lCells)
  fam:Fam u w.heap.size (ys.map fun y=>(y.2.2,y.1.blocks))
  bel:Below w.heap.size w u
theorem LP.keep{w u u':World}{V:Value}{ys:List (ML×Value×Value)}(h:LP w u V ys)(hb:Below u.heap.size u u'):LP w u' V ys:=⟨own_keep h.lps hb (Nat.le_refl _),h.fam.keepB hb,below_on h.bel (Nat.le_refl _) hb⟩
theorem LP.add{w u u1 u':World}{g cap:Nat}{V BV KV:Value}{ys:List (ML×Value×Value)}{m:ML}(h:LP w u V ys)(hb:Below u.heap.size u u1)(h2:u1.ownsRow u.heap.size 2 1 KV m.blocks.length (m.blocks.flatMap intCell))(hown:u'.ownsRow w.heap.size 53 3 (.slice (some ⟨g,0,none⟩) (ys.length+1) cap) (ys.length+1) (ys.flatMap lCells++[.int .i64 m.head,BV,KV]))(hg:u1.grownBy u' V.ownBlock):LP w u' (.slice (some ⟨g,0,none⟩) (ys.length+1) cap) (ys++[(m,BV,KV)]):=by
  have h':=h.keep hb
  have kf:Fam u1 w.heap.size ((ys++[(m,BV,KV)]).map fun y=>(y.2.2,y.1.blocks)):=by
    have:=h.fam.join hb h2 h.bel.size
    simpa using this
  refine⟨?_,kf.grown_other hg h'.lps (by decide),h'.bel.grown hg h'.bel.size (fun i hi=>(h'.lps.lt i hi).1)⟩
  rw[List.length_append,List.length_singleton,List.flatMap_append]
  exact hown
theorem body_sorted{E:Nat->List Nat}{D:Nat->Nat->Bool}{n b:Nat}{S O:List Nat}{Lf:Nat->Bool}(hE:∀b,b<n->∀x∈E b,x<n)(hb:b<n)(hv:Vs (fromL E n) [b] [] (backL E D n b) S O)(hL:∀x,Lf x=true↔InLoop E D n b x):((ints (O++[b])).mergeSort fun x y=>decide (x<=y))=ints ((List.range n).filter Lf)/\O.length+1<=n:=by
  obtain⟨N,t⟩:=hv.told
  obtain rfl:O=N:=by simpa using t.out
  have hfr:∀q,q<n->∀x∈fromL E n q,x<n:=fun q _ x hx=>((fromL_mem E n q x).1 hx).1
  have hOlt:∀x∈O,x<n:=fun x hx=>by
    obtain⟨q,q1,q2⟩:=t.from_ x hx
    exact q2.lt hfr ((backL_mem E D n b q).1 q1).1
  have hbO:b∉O:=fun q=>t.fresh b q (List.mem_cons_self ..)
  have hnd:(O++[b]).Nodup:=List.nodup_append.2 ⟨t.nodup,by simp,fun a ha c hc e=>by
    simp only[List.mem_cons,List.not_mem_nil,or_false]at hc
    subst hc e
    exact hbO ha⟩
  have hm:∀x,x∈O++[b]↔InLoop E D n b x:=fun x=>by
    rw[List.mem_append,List.mem_singleton]
    unfold InLoop
    rw[Or.comm]
    refine or_congr_right ?_
    rw[t.iff x]
    constructor
    . rintro⟨q,q1,q2⟩
      exact⟨q,q1,q2.mono fun y hy e=>hy (by rw[e];simp)⟩
    . rintro⟨q,q1,q2⟩
      exact⟨q,q1,q2.mono fun y hy e=>hy (by simpa using e)⟩
  have hint:(ints (O++[b])).Nodup:=by
    unfold ints
    refine List.pairwise_map.2 (hnd.imp fun h e=>h (by omega))
  refine⟨?_,?_⟩
  . refine sorted_ext _ _ (sorted_lt _ hint) ?_ fun z=> ?_
    . unfold ints
      refine List.pairwise_map.2 ((List.Pairwise.filter _ List.pairwise_lt_range).imp fun h=>by omega)
    . rw [(List.mergeSort_perm _ _).mem_iff]
      unfold ints
      rw[List.mem_map,List.mem_map]
      constructor
      . rintro⟨x,h1,h2⟩
        refine⟨x,List.mem_filter.2 ⟨List.mem_range.2 ?_,(hL x).2 ((hm x).1 h1)⟩,h2⟩
        rcases List.mem_append.1 h1 with q|q
        . exact hOlt x q
        . have:x=b:=by simpa using q
          omega
      . rintro⟨x,h1,h2⟩
        exact⟨x,(hm x).2 ((hL x).1 (List.mem_filter.1 h1).2),h2⟩
  . have:=nodup_le (O++[b]) n (fun x hx=>by
      rcases List.mem_append.1 hx with q|q
      . exact hOlt x q
      . have:x=b:=by simpa using q
        omega) hnd
    rw[List.length_append,List.length_singleton]at this
    omega
set_option maxHeartbeats 8000000 in
set_option maxRecDepth 100000 in
theorem loops_any(G n gF cF gB:Nat)(E:Nat->List Nat)(D Lf:Nat->Nat->Bool)(FS:List (Value×List Nat))(w:World)(hn:n<=1024)(hE:∀b,b<n->∀x∈E b,x<n)(hsz:∀b,(E b).length<=2)(hL:∀h x,Lf h x=true↔InLoop E D n h x)(h1:w.cell? ⟨G,1,none⟩=some (.slice (some ⟨gF,0,none⟩) n cF))(hF:EdAt w gF 0 n (fromL E n))(hB:∀x,x<n->∃V,FS[x]?=some (V,backL E D n x)/\w.cell? ⟨gB,x,none⟩=some V/\RdN w V (backL E D n x)):
    Calls Tryz.prog 116 #[.pointer (some ⟨G,0,none⟩),.slice (some ⟨gB,0,none⟩) n n] w fun e w'=>∃V,e=.returned V/\∃ys,LP w w' V ys/\ys.map Prod.fst=loopsTo E D Lf n n/\List.Sublist (ys.map fun y=>(y.2.1,y.1.back)) (FS.map fun x=>(x.1,ints x.2)):=by
  obtain⟨k0,hk,hx0,hx1,hx2⟩:=info_parts info64
  obtain⟨l0,hl,hl0,hl1,hl2⟩:=info_parts infoLp
  have H:Hid (EdAt w gF 0 n (fromL E n)/\(∀b,b<n->∀x∈E b,x<n)/\(∀b,(E b).length<=2)/\(∀h x,Lf h x=true↔InLoop E D n h x)/\w.cell? ⟨G,1,none⟩=some (.slice (some ⟨gF,0,none⟩) n cF)/\(∀x,x<n->∃V,FS[x]?=some (V,backL E D n x)/\w.cell? ⟨gB,x,none⟩=some V/\RdN w V (backL E D n x))):=⟨hF,hE,hsz,hL,h1,hB⟩
  clear hF hE hsz hL h1 hB
  go_enter Tryz.func116,Tryz.ntmps116
  go_wp2
  go_loopw [5,12] (fun V i wr=>∃(b:Nat) (ys:List (ML×Value×Value)) (a:Option Addr) (c:Nat),b<=n/\i=.int .i64 b/\V=.slice a ys.length c/\ys.length<=b/\Hid (LP w wr V ys/\ys.map Prod.fst=loopsTo E D Lf n b/\List.Sublist (ys.map fun y=>(y.2.1,y.1.back)) ((FS.take b).map fun x=>(x.1,ints x.2)))) (fun _ i _=>n-(intOf i).toNat)
  case atStart=>exact⟨0,[],none,0,by omega,rfl,rfl,by simp,⟨World.ownsRow_nil _ _ _ _,⟨fun x hx=>(by cases hx),List.Pairwise.nil⟩,Below.refl _ _⟩,rfl,by simp⟩
  case round=>
    obtain⟨b,ys,al,cl,hb,rfl,rfl,hyl,HL⟩:=hrel
    by_cases hlt:b<n
    . have hltI:(b:Int)<(n:Int):=by omega
      obtain⟨VB,q1,q2,q3⟩:=H.out.2.2.2.2.2 b hlt
      obtain⟨aB,cB,rfl⟩:=Rd.is_slice q3
      have HV:Hid (FS[b]?=some (.slice aB (backL E D n b).length cB,backL E D n b)/\RdN w (.slice aB (backL E D n b).length cB) (backL E D n b)):=⟨q1,q3⟩
      have HTK:Hid ((FS.take (b+1)).map (fun x=>(x.1,ints x.2))=(FS.take b).map (fun x=>(x.1,ints x.2))++[(.slice aB (backL E D n b).length cB,ints (backL E D n b))]):=by
        obtain⟨hl,e⟩:=List.getElem?_eq_some_iff.1 q1
        show _=_
        rw[List.take_succ_eq_append_getElem hl,e,List.map_append]
        rfl
      replace q2:=bcell_keep HL.out.1.bel q2
      have hbm:(backL E D n b).length<=2048:=by have:=backL_len H.out.2.2.1 D b n;omega
      clear q1 q3
      by_cases hBL:backL E D n b=[]
      . have hbl0:(backL E D n b).length=0:=by rw[hBL];rfl
        have HN:Hid (ys.map Prod.fst=loopsTo E D Lf n (b+1)/\List.Sublist (ys.map fun y=>(y.2.1,y.1.back)) ((FS.take (b+1)).map fun x=>(x.1,ints x.2))):=by
          refine⟨?_,?_⟩
          . rw[loopsTo_succ,if_pos hBL,List.append_nil]
            exact HL.out.2.1
          . rw[HTK.out]
            exact HL.out.2.2.trans (List.sublist_append_left _ _)
        rw[hbl0]at q2
        go_wp2
        go_roundw
        case rel=>exact⟨b+1,ys,al,cl,by omega,by go_num,by trivial,by omega,HL.out.1,HN.out.1,HN.out.2⟩
        case measure=>simp[intOf];omega
      . have hbp:0<(backL E D n b).length:=List.length_pos_iff.2 hBL
        have hbpB:(((backL E D n b).length:Int)==0)=false:=by simp;omega
        have hbpI:¬((backL E D n b).length:Int)=0:=by omega
        have f1:=bcell_keep HL.out.1.bel H.out.2.2.2.2.1
        have bA:=below_alloc wr (.cells #[.int .i64 (b:Int)] 2)
        have f2:=bcell_keep bA f1
        have HAA:Hid (Below w.heap.size w (wr.alloc (.cells #[.int .i64 (b:Int)] 2))/\(wr.alloc (.cells #[.int .i64 (b:Int)] 2)).cell? ⟨wr.heap.size,0,none⟩=some (.int .i64 (b:Int))/\Below wr.heap.size wr (wr.alloc (.cells #[.int .i64 (b:Int)] 2))):=⟨below_on HL.out.1.bel (Nat.le_refl _) bA,(Blk.new wr #[.int .i64 (b:Int)] 2).cell 0,bA⟩
        clear bA
        go_wp2_with fail
        refine(postorder_any gF 0 cF n (fromL E n) _ (backL E D n b) _ [b] _ hn (fun q hq x hx=>((fromL_mem E n q x).1 hx).1) (fun q=>by have:=fromL_len H.out.2.2.1 n q;omega) (H.out.1.keep HAA.out.1) (fun x hx=>((backL_mem E D n b x).1 hx).1) (by omega) (HV.out.2.keep HAA.out.1) (.inr ⟨b,wr.heap.size,1,rfl,hlt,rfl,HAA.out.2.1⟩)).mono ?_
        rintro e u2 ⟨V2,S2,O2,rfl,hv2,ho2,b2⟩
        obtain⟨a2,c2,rfl⟩:=own_slice ho2
        obtain⟨hsort,hOl⟩:=body_sorted H.out.2.1 hlt hv2 (H.out.2.2.2.1 b)
        have HO2:Hid (OwN u2 wr.heap.size (.slice a2 O2.length c2) O2/\Below wr.heap.size wr u2/\((ints (O2++[b])).mergeSort fun x y=>decide (x<=y))=ints ((List.range n).filter (Lf b))):=⟨own_lower ho2 HAA.out.2.2.size,below_on HAA.out.2.2 (Nat.le_refl _) b2,hsort⟩
        have hA2:=below_alloc u2 (.cells #[.int .i64 (b:Int)] 2)
        have HOA:Hid ((u2.alloc (.cells #[.int .i64 (b:Int)] 2)).ownsRow wr.heap.size 2 1 (.slice a2 O2.length c2) O2.length (nv O2)/\wr.heap.size<=(u2.alloc (.cells #[.int .i64 (b:Int)] 2)).heap.size/\Below wr.heap.size wr (u2.alloc (.cells #[.int .i64 (b:Int)] 2))):=⟨HO2.out.1.keep hA2,Nat.le_trans HO2.out.2.1.size hA2.size,below_on HO2.out.2.1 (Nat.le_refl _) hA2⟩
        clear hv2 ho2 b2 hsort HAA f1 f2 hA2
        go_wp2_with (first
          |(at_builtin;refine wpList_append_lies _ rfl _ _ 48 rfl wr.heap.size 2 k0 (.int .i64 0) 1 8 Tryz.underlying48 hk hx0 hx1 hx2 rfl (by decide) _ O2.length (nv O2) rfl HOA.out.1 ⟨u2.heap.size,0,none⟩ 1 1 [.int .i64 (b:Int)] rfl rfl (one_cell u2 (b:Int)) (fun u hu=>by simp at hu;subst hu;rfl) (by omega) (by simp[maxLen];omega) (by omega) HOA.out.2.1 _ rfl ?_;intro g3 cap3 w3 hown hgrow hat hlt9;have HO3:Hid (w3.ownsRow wr.heap.size 2 1 (.slice (some ⟨g3,0,none⟩) (O2.length+1) cap3) (O2.length+1) (nv (O2++[b]))/\Below wr.heap.size wr w3):=⟨by rw[nv_app];exact hown,HOA.out.2.2.grown hgrow HOA.out.2.2.size (fun i hi=>(HO2.out.1.lt i hi).1)⟩;clear hown hgrow hat hlt9)
          |fail)
        have HZ:Hid (w3.ownsRow wr.heap.size 2 1 (.slice (some ⟨g3,0,none⟩) (ints (O2++[b])).length cap3) (ints (O2++[b])).length ((ints (O2++[b])).flatMap intCell)/\(ints (O2++[b])).length=O2.length+1):=by
          have e:(ints (O2++[b])).length=O2.length+1:=by rw[ints_length,List.length_append,List.length_singleton]
          rw[e,<-nv_flat]
          exact⟨HO3.out.1,rfl⟩
        have HSO:=sort_own g3 cap3 wr.heap.size (ints (O2++[b])) w3 (by rw[HZ.out.2];omega) HZ.out.1
        rw[HZ.out.2,HO2.out.2.2]at HSO
        refine HSO.mono ?_
        rintro e u4 ⟨rfl,ho4,g4⟩
        have hlenF:((List.range n).filter (Lf b)).length=O2.length+1:=by
          have:=congrArg List.length HO2.out.2.2
          rw[(List.mergeSort_perm _ _).length_eq,HZ.out.2,ints_length]at this
          exact this.symm
        have HU4:Hid (u4.ownsRow wr.heap.size 2 1 (.slice (some ⟨g3,0,none⟩) (O2.length+1) cap3) (ints ((List.range n).filter (Lf b))).length ((ints ((List.range n).filter (Lf b))).flatMap intCell)/\Below wr.heap.size wr u4):=by
          refine⟨by rw[ints_length,hlenF];exact ho4,HO3.out.2.grown g4 HO3.out.2.size (fun j hj=>by cases hj;exact(own_blk HO3.out.1).1)⟩
        clear ho4 g4 HSO HZ HO3 HOA HO2 hlenF
        have bN:=below_alloc u4 (.cells #[.int .i64 (b:Int),.slice aB (backL E D n b).length cB,.slice (some ⟨g3,0,none⟩) (O2.length+1) cap3] 53)
        have HPN:Hid (LP w (u4.alloc (.cells #[.int .i64 (b:Int),.slice aB (backL E D n b).length cB,.slice (some ⟨g3,0,none⟩) (O2.length+1) cap3] 53)) (.slice al ys.length cl) ys/\Below wr.heap.size wr (u4.alloc (.cells #[.int .i64 (b:Int),.slice aB (backL E D n b).length cB,.slice (some ⟨g3,0,none⟩) (O2.length+1) cap3] 53))/\w.heap.size<=(u4.alloc (.cells #[.int .i64 (b:Int),.slice aB (backL E D n b).length cB,.slice (some ⟨g3,0,none⟩) (O2.length+1) cap3] 53)).heap.size):=by
          have hb4:=below_on HU4.out.2 (Nat.le_refl _) bN
          exact⟨HL.out.1.keep hb4,hb4,Nat.le_trans HL.out.1.bel.size hb4.size⟩
        have HNW:Hid (∀j u,[(.int .i64 (b:Int):Value),.slice aB (backL E D n b).length cB,.slice (some ⟨g3,0,none⟩) (O2.length+1) cap3][j]?=some u->(u4.alloc (.cells #[.int .i64 (b:Int),.slice aB (backL E D n b).length cB,.slice (some ⟨g3,0,none⟩) (O2.length+1) cap3] 53)).cell? ((⟨u4.heap.size,0,none⟩:Addr).add j)=some u):=fun j u hj=>World.news_of_block (Blk.new u4 #[.int .i64 (b:Int),.slice aB (backL E D n b).length cB,.slice (some ⟨g3,0,none⟩) (O2.length+1) cap3] 53) j u hj
        have HGO:Hid (∀g9 cap9 w9,w9.ownsRow w.heap.size 53 3 (.slice (some ⟨g9,0,none⟩) (ys.length+1) cap9) (ys.length+1) (ys.flatMap lCells++[.int .i64 (b:Int),.slice aB (backL E D n b).length cB,.slice (some ⟨g3,0,none⟩) (O2.length+1) cap3])->(u4.alloc (.cells #[.int .i64 (b:Int),.slice aB (backL E D n b).length cB,.slice (some ⟨g3,0,none⟩) (O2.length+1) cap3] 53)).grownBy w9 (Value.slice al ys.length cl).ownBlock->LP w w9 (.slice (some ⟨g9,0,none⟩) (ys.length+1) cap9) (ys++[((⟨(b:Int),ints (backL E D n b),ints ((List.range n).filter (Lf b))⟩:ML),(.slice aB (backL E D n b).length cB:Value),(.slice (some ⟨g3,0,none⟩) (O2.length+1) cap3:Value))])):=fun g9 cap9 w9 hown hgrow=>HL.out.1.add (m:=⟨(b:Int),ints (backL E D n b),ints ((List.range n).filter (Lf b))⟩) HPN.out.2.1 (own_keep HU4.out.1 bN (Nat.le_refl _)) hown hgrow
        have HFN:Hid ((ys++[((⟨(b:Int),ints (backL E D n b),ints ((List.range n).filter (Lf b))⟩:ML),(.slice aB (backL E D n b).length cB:Value),(.slice (some ⟨g3,0,none⟩) (O2.length+1) cap3:Value))]).map Prod.fst=loopsTo E D Lf n (b+1)/\List.Sublist ((ys++[((⟨(b:Int),ints (backL E D n b),ints ((List.range n).filter (Lf b))⟩:ML),(.slice aB (backL E D n b).length cB:Value),(.slice (some ⟨g3,0,none⟩) (O2.length+1) cap3:Value))]).map fun y=>(y.2.1,y.1.back)) ((FS.take (b+1)).map fun x=>(x.1,ints x.2))):=by
          refine⟨?_,?_⟩
          . rw[loopsTo_succ,if_neg hBL,List.map_append,HL.out.2.1]
            rfl
          . rw[HTK.out,List.map_append]
            exact HL.out.2.2.append (List.Sublist.refl _)
        have hmx9:ys.length+1<=maxLen:=by unfold maxLen;omega
        have hby9:(ys.length+1)*56<=140737488355328:=by omega
        have hne9:∀u∈[(.int .i64 (b:Int):Value),.slice aB (backL E D n b).length cB,.slice (some ⟨g3,0,none⟩) (O2.length+1) cap3],u.oneCell'=true:=fun u hu=>by simp at hu;rcases hu with rfl|rfl|rfl<;>rfl
        go_wp2_with (at_builtin;refine wpList_append_lies _ rfl _ _ 65 rfl w.heap.size 53 l0 (.agg #[.int .i64 0,.slice none 0 0,.slice none 0 0]) 3 56 Tryz.underlying65 hl hl0 hl1 hl2 rfl (by decide) _ ys.length (ys.flatMap lCells) rfl HPN.out.1.lps ⟨u4.heap.size,0,none⟩ 1 1 [.int .i64 (b:Int),.slice aB (backL E D n b).length cB,.slice (some ⟨g3,0,none⟩) (O2.length+1) cap3] rfl rfl HNW.out hne9 Nat.one_pos hmx9 hby9 HPN.out.2.2 _ rfl ?_;intro g9 cap9 w9 hown9 hgrow9 hat9 hlt9;have HU10:Hid (LP w w9 (.slice (some ⟨g9,0,none⟩) (ys.length+1) cap9) (ys++[((⟨(b:Int),ints (backL E D n b),ints ((List.range n).filter (Lf b))⟩:ML),(.slice aB (backL E D n b).length cB:Value),(.slice (some ⟨g3,0,none⟩) (O2.length+1) cap3:Value))])):=HGO.out g9 cap9 w9 hown9 hgrow9;clear hown9 hgrow9 hat9 hlt9)
        go_roundw
        case rel=>exact⟨b+1,_,some ⟨g9,0,none⟩,cap9,by omega,by go_num,by rw[List.length_append,List.length_singleton],by rw[List.length_append,List.length_singleton];omega,HU10.out,HFN.out.1,HFN.out.2⟩
        case measure=>simp[intOf];omega
    . have ebn:b=n:=by omega
      have hltI:¬(b:Int)<(n:Int):=by omega
      rw[ebn]at HL
      have HN:Hid (List.Sublist (ys.map fun y=>(y.2.1,y.1.back)) (FS.map fun x=>(x.1,ints x.2))):=HL.out.2.2.trans (List.Sublist.map _ (List.take_sublist _ _))
      go_wp2
      go_ret
      exact⟨_,rfl,ys,HL.out.1,HL.out.2.1,HN.out⟩
end Go.Proofs.YtdfmdgbolmbffaaGreat
namespace Go.Proofs.YtdfmdgbolmbffaaGreat
open Go.ChangeShapes Go.WideShapes Go.ChangeAt Go.RowKit
set_option linter.unusedVariables false
theorem has_del(D:DataW Unit)(z y:Int):Go.Maps.has (D.del (.int .i64 z)) (.int .i64 y)=(Go.Maps.has D (.int .i64 y)&& !decide (y=z)):=by
  by_cases h:y=z
  . subst h
    rw[Go.Maps.has_del_same]
    simp
  . rw[Go.Maps.has_del_other (fun e=>h (by cases e;rfl))]
    simp[h]
set_option maxHeartbeats 4000000 in
set_option maxRecDepth 100000 in
theorem lost_any(G n gN cN gO cO:Nat)(R:List Nat)(w:World)(hn:n<=1024)(hR:∀x∈R,x<n)(hRl:R.length<=1024)(h0:w.cell? ⟨G,0,none⟩=some (.slice (some ⟨gN,0,none⟩) n cN))(h2:w.cell? ⟨G,2,none⟩=some (.slice (some ⟨gO,0,none⟩) R.length cO))(hO:∀k x:Nat,R[k]?=some x->w.cell? ⟨gO,k,none⟩=some (.int .i64 (x:Int))):
    Calls Tryz.prog 113 #[.pointer (some ⟨G,0,none⟩)] w fun e w'=>∃(g cap:Nat) (zs:List Int),e=.returned (.slice (some ⟨g,0,none⟩) zs.length cap)/\w'.ownsRow w.heap.size 2 1 (.slice (some ⟨g,0,none⟩) zs.length cap) zs.length (zs.flatMap intCell)/\zs.Pairwise (· < ·)/\(∀z,z∈zs↔∃x:Nat,z=(x:Int)/\x<n/\x∉R)/\Below w.heap.size w w':=by
  have H:Hid (w.cell? ⟨G,0,none⟩=some (.slice (some ⟨gN,0,none⟩) n cN)/\w.cell? ⟨G,2,none⟩=some (.slice (some ⟨gO,0,none⟩) R.length cO)/\(∀k x:Nat,R[k]?=some x->w.cell? ⟨gO,k,none⟩=some (.int .i64 (x:Int)))/\∀x∈R,x<n):=⟨h0,h2,hO,hR⟩
  have hmm:= @run_makeMap Tryz.prog
  have bM:=below_alloc w (.map #[] 0)
  have c0:=bcell_keep bM h0
  have HS:Hid (SetAt (w.alloc (.map #[] 0)) w.heap.size 0 (.map [])/\Below w.heap.size w (w.alloc (.map #[] 0))):=⟨World.ownsMap_made _ _ _ _,bM⟩
  clear h0 h2 hO hR bM
  go_enter Tryz.func113,Tryz.ntmps113
  go_wp2
  go_loopw [13] (fun i wr=>∃k:Nat,k<=n/\i=.int .i64 k/\Hid (∃cnt D,cnt<=k/\SetAt wr w.heap.size cnt D/\(∀z:Int,Go.Maps.has D (.int .i64 z)=decide (0<=z/\z<(k:Int)))/\Below w.heap.size w wr)) (fun i _=>n-(intOf i).toNat)
  case atStart=>exact⟨0,by omega,rfl,0,.map [],by omega,HS.out.1,fun z=>by
    have:¬(0<=z/\z<((0:Nat):Int)):=by omega
    simp only[this,decide_false]
    rfl,HS.out.2⟩
  case round=>
    clear HS c0
    obtain⟨k,hk,rfl,HL⟩:=hrel
    obtain⟨cnt,D,hcn,hset,hhas,hbel⟩:=HL.out
    have HB:Hid (SetAt wr w.heap.size cnt D/\(∀z:Int,Go.Maps.has D (.int .i64 z)=decide (0<=z/\z<(k:Int)))/\Below w.heap.size w wr):=⟨hset,hhas,hbel⟩
    clear hset hhas hbel HL
    by_cases hlt:k<n
    . have hltI:(k:Int)<(n:Int):=by omega
      have HA:Hid ((wr.alloc (.cells #[.int .i64 (k:Int)] 2)).cell? ⟨wr.heap.size,0,none⟩=some (.int .i64 (k:Int))/\SetAt (wr.alloc (.cells #[.int .i64 (k:Int)] 2)) w.heap.size cnt D/\¬wr.heap.size=w.heap.size/\Below w.heap.size w (wr.alloc (.cells #[.int .i64 (k:Int)] 2))):=⟨(Blk.new wr #[.int .i64 (k:Int)] 2).cell 0,HB.out.1.keep (below_alloc _ _),by have:=World.ownsMap.lt HB.out.1;omega,below_on HB.out.2.2 (Nat.le_refl _) (below_alloc _ _)⟩
      go_wp2_with fail
      refine(add_one w.heap.size cnt wr.heap.size 1 D (k:Int) _ (w64_nat (by omega)) (by omega) HA.out.1 HA.out.2.2.1 HA.out.2.1).mono ?_
      rintro e u4 ⟨rfl,s4,g4⟩
      have HN:Hid (∃cnt D,cnt<=k+1/\SetAt u4 w.heap.size cnt D/\(∀z:Int,Go.Maps.has D (.int .i64 z)=decide (0<=z/\z<((k+1:Nat):Int)))/\Below w.heap.size w u4):=by
        refine⟨_,_,by omega,s4,fun z=> ?_,HA.out.2.2.2.grown g4 HA.out.2.2.2.size (fun j hj=>by cases hj;exact Nat.le_refl _)⟩
        rw[has_put D (World.ownsMap.isMap HB.out.1),HB.out.2.1 z,Bool.eq_iff_iff]
        simp
        omega
      clear s4 g4
      go_wp2
      go_roundw
      case rel=>exact⟨k+1,by omega,by go_num,HN⟩
      case measure=>simp[intOf];omega
    . have ekn:k=n:=by omega
      have hltI:¬(k:Int)<(n:Int):=by omega
      rw[ekn]at HB
      have c2:=bcell_keep HB.out.2.2 H.out.2.1
      go_wp2
      go_loopw [26] (fun i wr=>∃j:Nat,j<=R.length/\i=.int .i64 j/\Hid (∃D,SetAt wr w.heap.size cnt D/\(∀z:Int,Go.Maps.has D (.int .i64 z)=(decide (0<=z/\z<(n:Int))&& !(ints (R.take j)).contains z))/\Below w.heap.size w wr)) (fun i _=>R.length-(intOf i).toNat)
      case atStart=>exact⟨0,by omega,rfl,D,HB.out.1,fun z=>by rw[HB.out.2.1 z];simp[ints],HB.out.2.2⟩
      case round=>
        clear HB c2
        obtain⟨j,hj,rfl,HL⟩:=hrel
        obtain⟨D,hset,hhas,hbel⟩:=HL.out
        clear HL
        by_cases hlt2:j<R.length
        . have hlt2I:(j:Int)<(R.length:Int):=by omega
          obtain⟨x,hx⟩:∃x,R[j]?=some x:=⟨_,List.getElem?_eq_getElem hlt2⟩
          have hxn:x<n:=H.out.2.2.2 x (List.mem_of_getElem? hx)
          have o0:=bcell_keep hbel (H.out.2.2.1 j x hx)
          have HT:Hid (R.take (j+1)=R.take j++[x]):=by
            obtain⟨hl,rfl⟩:=List.getElem?_eq_some_iff.1 hx
            exact List.take_succ_eq_append_getElem hl
          have HB:Hid ((∀z:Int,Go.Maps.has D (.int .i64 z)=(decide (0<=z/\z<(n:Int))&& !(ints (R.take j)).contains z))/\Below w.heap.size w wr):=⟨hhas,hbel⟩
          have hown:wr.ownsMap Tryz.prog 2 (unitElem (H:=Unit)) w.heap.size cnt D:=hset
          have hw64:=w64_nat (x:=x) (by omega)
          clear hx hhas hbel hset
          go_wp2_with (at_delete;refine wpList_delete_own _ rfl _ _ 142 2 rfl 205 law64 Tryz.underlying142 _ w.heap.size cnt D rfl hown _ _ rfl (Go.Maps.keyOf_int_mk Tryz.underlying2 hw64) ?_;intro w1 hown1 hturn1)
          have HN:Hid (∃D,SetAt w1 w.heap.size cnt D/\(∀z:Int,Go.Maps.has D (.int .i64 z)=(decide (0<=z/\z<(n:Int))&& !(ints (R.take (j+1))).contains z))/\Below w.heap.size w w1):=by
            refine⟨_,hown1,fun z=> ?_,HB.out.2.grown hturn1.grown HB.out.2.size (fun j hj=>by cases hj;exact Nat.le_refl _)⟩
            rw[has_del,HB.out.1 z,HT.out]
            unfold ints
            rw[List.map_append,Bool.and_assoc]
            congr 1
            rw[Bool.eq_iff_iff]
            simp
          clear hown1 hturn1 o0 hown
          go_roundw
          case rel=>exact⟨j+1,by omega,by go_num,HN⟩
          case measure=>simp[intOf];omega
        . have ejn:j=R.length:=by omega
          have hlt2I:¬(j:Int)<(R.length:Int):=by omega
          have HB:Hid ((∀z:Int,Go.Maps.has D (.int .i64 z)=(decide (0<=z/\z<(n:Int))&& !(ints R).contains z))/\Below w.heap.size w wr/\SetAt wr w.heap.size cnt D):=by
            rw[List.take_of_length_le (by omega)]at hhas
            exact⟨hhas,hbel,hset⟩
          clear hhas hbel hset
          go_wp2_with fail
          refine(rising_any w.heap.size cnt D _ (by omega) HB.out.2.2).mono ?_
          rintro e u9 ⟨g9,cap9,zs,rfl,own9,hsrt,hmem,b9⟩
          have HE:Hid (u9.ownsRow w.heap.size 2 1 (.slice (some ⟨g9,0,none⟩) zs.length cap9) zs.length (zs.flatMap intCell)/\zs.Pairwise (· < ·)/\(∀z,z∈zs↔∃x:Nat,z=(x:Int)/\x<n/\x∉R)/\Below w.heap.size w u9):=by
            refine⟨own_lower own9 HB.out.2.1.size,hsrt,fun z=> ?_,below_on HB.out.2.1 (Nat.le_refl _) b9⟩
            rw[hmem,HB.out.1 z]
            simp only[Bool.and_eq_true,decide_eq_true_eq,Bool.not_eq_true',List.contains_eq_mem,decide_eq_false_iff_not]
            unfold ints
            constructor
            . rintro⟨_,⟨h1,h2⟩,h3⟩
              refine⟨z.toNat,by omega,by omega,fun q=>h3 (List.mem_map.2 ⟨z.toNat,q,by omega⟩)⟩
            . rintro⟨x,rfl,h1,h2⟩
              refine⟨w64_nat (by omega),⟨by omega,by omega⟩,fun q=>h2 ?_⟩
              obtain⟨y,hy,e⟩:=List.mem_map.1 q
              have:y=x:=by omega
              rw[<-this]
              exact hy
          clear own9 hsrt hmem b9
          go_wp2
          go_ret
          exact⟨g9,cap9,zs,rfl,HE.out.1,HE.out.2.1,HE.out.2.2.1,HE.out.2.2.2⟩
end Go.Proofs.YtdfmdgbolmbffaaGreat
