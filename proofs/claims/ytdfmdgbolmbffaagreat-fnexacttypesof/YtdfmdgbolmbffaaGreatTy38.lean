import Derived.Test.YtdfmdgbolmbffaaGreatTy37
namespace Go.Proofs.YtdfmdgbolmbffaaGreat
open Go.ChangeShapes Go.WideShapes Go.ChangeAt Go.RowKit
set_option linter.unusedVariables false
set_option maxHeartbeats 8000000 in
set_option maxRecDepth 100000 in
theorem newGraph_any(gb ob cb n:Nat)(E:Nat->List Nat)(w:World)(hn:n<=1024)(h0:0<n)(hE:∀b,b<n->∀x∈E b,x<n)(hsz:∀b,(E b).length<=2)(h:GrAt w gb ob n E)(hI:∀b,b<n->∃f l:Int,w.cell? ⟨gb,ob+b*3,none⟩=some (.int .i64 f)/\w.cell? ⟨gb,ob+b*3+1,none⟩=some (.int .i64 l)):
    Calls Tryz.prog 112 #[.slice (some ⟨gb,ob,none⟩) n cb] w fun e w'=>∃(G gN cN gF gO cO gP:Nat) (S O:List Nat),e=.returned (.pointer (some ⟨G,0,none⟩))/\GM w w' n G gN cN gF gO cO gP E S O:=by
  obtain⟨k0,hk,hx0,hx1,hx2⟩:=info_parts info64
  obtain⟨j0,hj,hy0,hy1,hy2⟩:=info_parts infoSI
  have H:Hid (GrAt w gb ob n E/\(∀b,b<n->∀x∈E b,x<n)/\(∀b,(E b).length<=2)/\(∀b,b<n->∃f l:Int,w.cell? ⟨gb,ob+b*3,none⟩=some (.int .i64 f)/\w.cell? ⟨gb,ob+b*3+1,none⟩=some (.int .i64 l))):=⟨h,hE,hsz,hI⟩
  clear h hE hsz hI
  go_enter Tryz.func112,Tryz.ntmps112
  go_upto_region 2 with fail
  go_cut [4]from 13 (fun s wx=>∃G gF gP,s=.pointer (some ⟨G,0,none⟩)/\Hid (NG0 w wx n G gF gP))
  case first=>
    obtain⟨wA,eA,oA,gA⟩:=run_make_full (P:=Tryz.prog) w.drew w.heap.size 22 48 j0 (.slice none 0 0) 1 Tryz.underlying22 hj hy0 hy1 .i64 .i64 n (by rw[hy2];omega) (by unfold maxLen;omega) (Nat.le_refl _)
    obtain⟨wAB,eAB,oAB,gAB⟩:=run_make_full (P:=Tryz.prog) wA w.heap.size 48 2 k0 (.int .i64 0) 1 Tryz.underlying48 hk hx0 hx1 .i64 .i64 n (by rw[hx2];omega) (by unfold maxLen;omega) gA.size
    obtain⟨wB,eB,oB,gB⟩:=run_make_full (P:=Tryz.prog) w.drew w.heap.size 48 2 k0 (.int .i64 0) 1 Tryz.underlying48 hk hx0 hx1 .i64 .i64 n (by rw[hx2];omega) (by unfold maxLen;omega) (Nat.le_refl _)
    obtain⟨wBA,eBA,oBA,gBA⟩:=run_make_full (P:=Tryz.prog) wB w.heap.size 22 48 j0 (.slice none 0 0) 1 Tryz.underlying22 hj hy0 hy1 .i64 .i64 n (by rw[hy2];omega) (by unfold maxLen;omega) gB.size
    rw[made_nils]at oA oBA
    rw[iv_zero]at oB oAB
    have HA:Hid (wAB.ownsRow w.heap.size 48 1 (.slice (some ⟨w.heap.size,0,none⟩) n n) n (List.replicate n (.slice none 0 0))/\wAB.ownsRow w.heap.size 2 1 (.slice (some ⟨wA.heap.size,0,none⟩) n n) n (iv (fun _=>0) n)/\Below w.heap.size w wAB):=⟨own_keep oA (below_none gAB) (Nat.le_refl _),oAB,below_on (below_on (below_drew1 w) (Nat.le_refl _) (below_none gA)) (Nat.le_refl _) (below_none gAB)⟩
    have HB:Hid (wBA.ownsRow w.heap.size 48 1 (.slice (some ⟨wB.heap.size,0,none⟩) n n) n (List.replicate n (.slice none 0 0))/\wBA.ownsRow w.heap.size 2 1 (.slice (some ⟨w.heap.size,0,none⟩) n n) n (iv (fun _=>0) n)/\Below w.heap.size w wBA):=⟨oBA,own_keep oB (below_none gBA) (Nat.le_refl _),below_on (below_on (below_drew1 w) (Nat.le_refl _) (below_none gB)) (Nat.le_refl _) (below_none gBA)⟩
    clear oA oAB oB oBA gA gAB gB gBA
    go_region
    . go_wp2
      go_meet
      case rel=>exact⟨_,_,_,rfl,NG0.of HA.out.1 HA.out.2.1 HA.out.2.2⟩
    . go_wp2
      go_meet
      case rel=>exact⟨_,_,_,rfl,NG0.of HB.out.1 HB.out.2.1 HB.out.2.2⟩
  case rest =>
    obtain⟨G,gF,gP,rfl,HG0⟩:=hcut
    obtain⟨w2,hw2⟩:∃W,W=wc:=⟨_,rfl⟩
    subst hw2
    have HW:Hid (w.heap.size<=w2.heap.size):=HG0.out.bel.size
    have HN0:Hid (NG w w2 w2 n G gF (.slice (some ⟨gP,0,none⟩) n n) (.slice none 0 0) [] ((List.range n).map fun x=>((.slice none 0 0:Value),fromL E 0 x))):=by
      refine⟨HG0.out.blk,World.ownsRow_nil _ _ _ _,?_,⟨fun x hx=> ?_,?_⟩,fun k _ _ _=>rfl,Nat.le_refl _,HG0.out.bel,⟨HG0.out.ge,HG0.out.blk.lt,?_⟩⟩
      . have:=HG0.out.frow
        rw[List.map_map]
        have e:(List.range n).map (Prod.fst ∘ fun x=>((.slice none 0 0:Value),fromL E 0 x))=List.replicate n (.slice none 0 0):=by
          apply List.ext_getElem?
          intro j
          by_cases hj:j<n
          . simp[hj]
          . rw[List.getElem?_eq_none (by simp;omega),List.getElem?_eq_none (by simp;omega)]
        rw[e]
        exact this
      . simp only[List.mem_map]at hx
        obtain⟨y,⟨z,_,rfl⟩,rfl⟩:=hx
        have:ints (fromL E 0 z)=[]:=by simp[fromL,ints]
        simp only[this]
        exact World.ownsRow_nil _ _ _ _
      . rw[List.map_map]
        refine List.pairwise_map.2 (List.pairwise_lt_range.imp fun _=> ?_)
        intro g hg
        cases hg
      . obtain⟨_,cur,h1⟩:=own_blk HG0.out.frow
        exact(Array.getElem?_eq_some_iff.1 h1).1
    have HPR:Hid (w2.ownsRow w.heap.size 2 1 (.slice (some ⟨gP,0,none⟩) n n) n (iv (fun _=>0) n)/\Below w.heap.size w w2/\gP≠G/\gP≠gF):=⟨HG0.out.prow,HG0.out.bel,fun e=>blk_ne HG0.out.blk HG0.out.prow (by decide) (by rw[e];rfl),fun e=>row_ne HG0.out.prow HG0.out.frow (by decide) e⟩
    clear HG0
    go_wp2
    go_loopw [21] (fun i wr=>∃(b:Nat) (NV:Value) (NS:List Value) (FS:List (Value×List Nat)),b<=n/\i=.int .i64 b/\NS.length=b/\FS.length=n/\Hid (NG w w2 wr n G gF (.slice (some ⟨gP,0,none⟩) n n) NV NS FS/\(∀x,x<n->∃V,FS[x]?=some (V,fromL E b x))/\(∀x,x<b->∃a c,NS[x]?=some (.slice a (E x).length c)/\RdN w (.slice a (E x).length c) (E x)))) (fun i _=>n-(intOf i).toNat)
    case atStart=>exact⟨0,_,[],_,by omega,rfl,rfl,by simp,HN0.out,fun x hx=>⟨.slice none 0 0,by simp[hx]⟩,fun x hx=>by omega⟩
    case round=>
      clear HN0
      obtain⟨b,NV,NS,FS,hb,rfl,hNS,hFS,HL⟩:=hrel
      have HNS:Hid (NS.length=b):=hNS
      have hNl:NS.length<=1024:=by omega
      clear hNS
      by_cases hlt:b<n
      . have hltI : (b:Int)<(n:Int):=by omega
        obtain⟨a,ca,g0,g1⟩:=H.out.1 b hlt
        obtain⟨ff,ll,i0,i1⟩:=H.out.2.2.2 b hlt
        have HGB:Hid (RdN w (.slice a (E b).length ca) (E b)):=g1
        replace g0:=bcell_keep HL.out.1.bel g0
        replace i0:=bcell_keep HL.out.1.bel i0
        replace i1:=bcell_keep HL.out.1.bel i1
        have hE2:=H.out.2.2.1 b
        obtain⟨aN,cN,eN⟩:=own_slice HL.out.1.nrow
        subst eN
        clear g1
        go_upto_region 6 with fail
        refine wp_world (fun u=>Hid (NG w w2 u n G gF (.slice (some ⟨gP,0,none⟩) n n) (.slice aN NS.length cN) NS FS/\Blk u wr.heap.size #[.int .i64 ff,.int .i64 ll,.slice a (E b).length ca] 71)) ⟨HL.out.1.keep (below_alloc _ _),Blk.new _ _ _⟩ ?_
        intro U HU
        obtain⟨tb,htb⟩:∃tb,tb=wr.heap.size:=⟨_,rfl⟩
        rw[<-htb]at HU⊢
        have hmx:NS.length+1<=maxLen:=by unfold maxLen;omega
        have hby:(NS.length+1)*24<=140737488355328:=by omega
        clear htb g0 i0 i1
        have bD:=below_drew1 U
        have bE:Below U.heap.size U (U.alloc (.cells #[.slice a (E b).length ca] 48)).drew:=below_on (below_alloc _ _) (Nat.le_refl _) (below_drew1 _)
        have x0:U.drew.cell? ⟨G,0,none⟩=some (.slice aN NS.length cN):=(HU.out.1.blk.keep bD).cell 0
        have x1:(U.alloc (.cells #[.slice a (E b).length ca] 48)).drew.cell? ⟨G,0,none⟩=some (.slice aN NS.length cN):=(HU.out.1.blk.keep bE).cell 0
        have x2:U.drew.cell? ⟨tb,2,none⟩=some (.slice a (E b).length ca):=(HU.out.2.keep bD).cell 2
        have HUE:Hid (NG w w2 (U.alloc (.cells #[.slice a (E b).length ca] 48)).drew n G gF (.slice (some ⟨gP,0,none⟩) n n) (.slice aN NS.length cN) NS FS/\Blk (U.alloc (.cells #[.slice a (E b).length ca] 48)).drew tb #[.int .i64 ff,.int .i64 ll,.slice a (E b).length ca] 71):=⟨HU.out.1.keep bE,HU.out.2.keep bE⟩
        have HOC:Hid (∀j u,[(.slice a (E b).length ca:Value)][j]?=some u->(U.alloc (.cells #[.slice a (E b).length ca] 48)).drew.cell? ((⟨U.heap.size,0,none⟩:Addr).add j)=some u):=fun j u hj=>by
          rw[add_at,Nat.zero_add]
          have:=(Blk.new U #[.slice a (E b).length ca] 48).cell j
          exact this.trans (by simpa using hj)
        have hne1:∀u∈[(.slice a (E b).length ca:Value)],u.oneCell'=true:=fun u hu=>by simp at hu;subst hu;rfl
        have HAP:Hid (∀g5 cap5 w5,w5.ownsRow w2.heap.size 48 1 (.slice (some ⟨g5,0,none⟩) (NS.length+1) cap5) (NS.length+1) (NS++[.slice a (E b).length ca])->(U.alloc (.cells #[.slice a (E b).length ca] 48)).drew.grownBy w5 (Value.slice aN NS.length cN).ownBlock->Blk w5 G #[.slice aN NS.length cN,.slice (some ⟨gF,0,none⟩) n n,.slice none 0 0,.slice (some ⟨gP,0,none⟩) n n,.slice none 0 0] 176/\NG w w2 (w5.setCell ⟨G,0,none⟩ (.slice (some ⟨g5,0,none⟩) (NS.length+1) cap5)) n G gF (.slice (some ⟨gP,0,none⟩) n n) (.slice (some ⟨g5,0,none⟩) (NS.length+1) cap5) (NS++[.slice a (E b).length ca]) FS/\Blk (w5.setCell ⟨G,0,none⟩ (.slice (some ⟨g5,0,none⟩) (NS.length+1) cap5)) tb #[.int .i64 ff,.int .i64 ll,.slice a (E b).length ca] 71):=fun g5 cap5 w5 hown hgrow=>by
          obtain⟨q1,q2⟩:=HUE.out.1.next HW.out hown hgrow
          have k5:=HUE.out.2.grown hgrow HUE.out.1.nrow (by decide)
          refine⟨q1,q2,k5.other (fun e=> ?_) _⟩
          simp only[]at e
          unfold Blk at k5 q1
          rw[e,q1]at k5
          simp only[Option.some.injEq,Obj.cells.injEq]at k5
          exact absurd k5.2.1 (by decide)
        clear bD bE
        go_cut [34]from 26 to 36 (fun s wx=>∃g5 cap5,Hid (NG w w2 wx n G gF (.slice (some ⟨gP,0,none⟩) n n) (.slice (some ⟨g5,0,none⟩) (NS.length+1) cap5) (NS++[.slice a (E b).length ca]) FS/\Blk wx tb #[.int .i64 ff,.int .i64 ll,.slice a (E b).length ca] 71))
        case first=>
          go_region_law (first
            |(refine step_append_lies _ rfl (.tmp 30) (.tmp 33) 22 rfl w2.heap.size 48 j0 (.slice none 0 0) 1 24 Tryz.underlying22 hj hy0 hy1 hy2 rfl (by decide) (.slice aN NS.length cN) NS.length NS (by simp[Act.eval]) HUE.out.1.nrow ⟨U.heap.size,0,none⟩ 1 1 [.slice a (E b).length ca] (by simp[Act.eval]) rfl HOC.out hne1 Nat.one_pos hmx hby HUE.out.1.size _ rfl ?_;intro g5 cap5 w5 hown hgrow hat hlt9;obtain⟨kb5,l5,m5⟩:=HAP.out g5 cap5 w5 hown hgrow;have HU5:Hid (NG w w2 (w5.setCell ⟨G,0,none⟩ (.slice (some ⟨g5,0,none⟩) (NS.length+1) cap5)) n G gF (.slice (some ⟨gP,0,none⟩) n n) (.slice (some ⟨g5,0,none⟩) (NS.length+1) cap5) (NS++[.slice a (E b).length ca]) FS/\Blk (w5.setCell ⟨G,0,none⟩ (.slice (some ⟨g5,0,none⟩) (NS.length+1) cap5)) tb #[.int .i64 ff,.int .i64 ll,.slice a (E b).length ca] 71):=⟨l5,m5⟩;have t5:w5.cell? ⟨G,0,none⟩=some (.slice aN NS.length cN):=kb5.cell 0;have z5:=kb5.frozen 0;clear hown hgrow hat hlt9 kb5 l5 m5))
          all_goals
            go_wp2
            go_meet
            case rel=>exact⟨g5,cap5,HU5⟩
        case rest =>
          obtain⟨g5,cap5,HU5⟩:=hcut
          clear x0 x1 x2 HUE HOC HAP HU
          have t2:wc.cell? ⟨tb,2,none⟩=some (.slice a (E b).length ca):=HU5.out.2.cell 2
          go_wp2
          go_loopw [40] (fun i wr=>∃(k:Nat) (FS:List (Value×List Nat)),k<=(E b).length/\i=.int .i64 k/\FS.length=n/\Hid (NG w w2 wr n G gF (.slice (some ⟨gP,0,none⟩) n n) (.slice (some ⟨g5,0,none⟩) (NS.length+1) cap5) (NS++[.slice a (E b).length ca]) FS/\(∀x,x<n->∃V,FS[x]?=some (V,fromL E b x++fromP E b k x)))) (fun i _=>(E b).length-(intOf i).toNat)
          case atStart=>exact⟨0,FS,by omega,rfl,hFS,HU5.out.1,fun x hx=>by obtain⟨V,hV⟩:=HL.out.2.1 x hx;exact⟨V,by rw[fromP_zero,List.append_nil];exact hV⟩⟩
          case round=>
            clear HU5 t2
            obtain⟨k,FT,hk',rfl,hFT,HM⟩:=hrel
            by_cases hlt2:k<(E b).length
            . have hlt2I:(k:Int)<((E b).length:Int):=by omega
              obtain⟨y,hy⟩:∃y,(E b)[k]?=some y:=⟨_,List.getElem?_eq_getElem hlt2⟩
              have hyn:y<n:=H.out.2.1 b hlt y (List.mem_of_getElem? hy)
              have hynI:(y:Int)<(n:Int):=by omega
              have HY:Hid ((E b)[k]?=some y):=hy
              obtain⟨ga,oa,rfl,_,y0⟩:=HGB.out.at_ hy
              have HY0:Hid (w.cell? ⟨ga,oa+k,none⟩=some (.int .i64 (y:Int))):=y0
              replace y0:=bcell_keep HM.out.1.bel y0
              obtain⟨V,hV⟩:=HM.out.2 y hyn
              obtain⟨aV,cV,eV⟩:=own_slice (HM.out.1.fam.own (V,ints (fromL E b y++fromP E b k y)) (List.mem_map.2 ⟨(V,_),List.mem_of_getElem? hV,rfl⟩))
              simp only[ints_length]at eV
              subst eV
              have hll:(fromL E b y++fromP E b k y).length<=4096:=by
                have h1:=fromL_len H.out.2.2.1 b y
                have h2:=fromP_len E b k y
                rw[List.length_append]
                omega
              generalize hLV:fromL E b y++fromP E b k y=lv at hV hll
              have HLV:Hid (fromL E b y++fromP E b k y=lv/\FT[y]?=some (.slice aV lv.length cV,lv)):=⟨hLV,hV⟩
              clear hy hV hLV
              go_upto_region 10 with fail
              have HM1:Hid (NG w w2 wr n G gF (.slice (some ⟨gP,0,none⟩) n n) (.slice (some ⟨g5,0,none⟩) (NS.length+1) cap5) (NS++[.slice (some ⟨ga,oa,none⟩) (E b).length ca]) FT):=HM.out.1
              refine wp_world (fun u=>Hid (NG w w2 u n G gF (.slice (some ⟨gP,0,none⟩) n n) (.slice (some ⟨g5,0,none⟩) (NS.length+1) cap5) (NS++[.slice (some ⟨ga,oa,none⟩) (E b).length ca]) FT)) HM1 ?_
              intro U HU
              clear y0 HM1
              have hmx2:lv.length+1<=maxLen:=by unfold maxLen;omega
              have hby2:(lv.length+1)*8<=140737488355328:=by omega
              have bD:=below_drew1 U
              have bE:Below U.heap.size U (U.alloc (.cells #[.int .i64 (b:Int)] 2)).drew:=below_on (below_alloc _ _) (Nat.le_refl _) (below_drew1 _)
              have x0:U.drew.cell? ⟨G,1,none⟩=some (.slice (some ⟨gF,0,none⟩) n n):=(HU.out.blk.keep bD).cell 1
              have x1:(U.alloc (.cells #[.int .i64 (b:Int)] 2)).drew.cell? ⟨G,1,none⟩=some (.slice (some ⟨gF,0,none⟩) n n):=(HU.out.blk.keep bE).cell 1
              have HFC:Hid (∀(u':World),u'.ownsRow w.heap.size 48 1 (.slice (some ⟨gF,0,none⟩) n n) n (FT.map Prod.fst)->u'.cell? ⟨gF,y,none⟩=some (.slice aV lv.length cV)):=fun u' hu'=>by
                have:=hu'.cellAt y (by omega)
                rw[List.getElem?_map,HLV.out.2]at this
                exact this
              have x2:=HFC.out _ (HU.out.keep bD).frow
              have x3:=HFC.out _ (HU.out.keep bE).frow
              have HUE:Hid (NG w w2 (U.alloc (.cells #[.int .i64 (b:Int)] 2)).drew n G gF (.slice (some ⟨gP,0,none⟩) n n) (.slice (some ⟨g5,0,none⟩) (NS.length+1) cap5) (NS++[.slice (some ⟨ga,oa,none⟩) (E b).length ca]) FT):=HU.out.keep bE
              have HOW:Hid ((U.alloc (.cells #[.int .i64 (b:Int)] 2)).drew.ownsRow w2.heap.size 2 1 (.slice aV lv.length cV) lv.length (nv lv)):=by
                have:=HUE.out.fam.own (.slice aV lv.length cV,ints lv) (List.mem_map.2 ⟨(_,lv),List.mem_of_getElem? HLV.out.2,rfl⟩)
                rw[ints_length,<-nv_flat]at this
                exact this
              have HOC:Hid (∀j u,[(.int .i64 (b:Int):Value)][j]?=some u->(U.alloc (.cells #[.int .i64 (b:Int)] 2)).drew.cell? ((⟨U.heap.size,0,none⟩:Addr).add j)=some u):=one_cell U (b:Int)
              have hne2:∀u∈[(.int .i64 (b:Int):Value)],u.oneCell'=true:=fun u hu=>by simp at hu;subst hu;rfl
              have HAP:Hid (∀g6 cap6 w6,w6.ownsRow w2.heap.size 2 1 (.slice (some ⟨g6,0,none⟩) (lv.length+1) cap6) (lv.length+1) (nv lv++[.int .i64 (b:Int)])->(U.alloc (.cells #[.int .i64 (b:Int)] 2)).drew.grownBy w6 (Value.slice aV lv.length cV).ownBlock->((Value.slice aV lv.length cV).ownBlock=some g6\/g6=(U.alloc (.cells #[.int .i64 (b:Int)] 2)).drew.heap.size)->w6.cell? ⟨G,1,none⟩=some (.slice (some ⟨gF,0,none⟩) n n)/\w6.cell? ⟨gF,y,none⟩=some (.slice aV lv.length cV)/\w6.frozen? ⟨gF,y,none⟩=false/\NG w w2 (w6.setCell ⟨gF,y,none⟩ (.slice (some ⟨g6,0,none⟩) (lv.length+1) cap6)) n G gF (.slice (some ⟨gP,0,none⟩) n n) (.slice (some ⟨g5,0,none⟩) (NS.length+1) cap5) (NS++[.slice (some ⟨ga,oa,none⟩) (E b).length ca]) (FT.set y (.slice (some ⟨g6,0,none⟩) (lv.length+1) cap6,lv++[b]))):=fun g6 cap6 w6 hown hgrow hat=>by
                obtain⟨q1,q2⟩:=HUE.out.app HW.out HLV.out.2 hown hgrow hat
                exact⟨(HUE.out.blk.grown hgrow HOW.out (by decide)).cell 1,HFC.out _ q1,q1.frozenAt y,q2⟩
              clear bD bE
              go_wp2_with fail
              go_region_law (first
                |(refine step_append_lies _ rfl (.tmp 55) (.tmp 57) 48 rfl w2.heap.size 2 k0 (.int .i64 0) 1 8 Tryz.underlying48 hk hx0 hx1 hx2 rfl (by decide) (.slice aV lv.length cV) lv.length (nv lv) (by simp[Act.eval]) HOW.out ⟨U.heap.size,0,none⟩ 1 1 [.int .i64 (b:Int)] (by simp[Act.eval]) rfl HOC.out hne2 Nat.one_pos hmx2 hby2 HUE.out.size _ rfl ?_;intro g6 cap6 w6 hown hgrow hat hlt9;obtain⟨t6,t7,z6,l6⟩:=HAP.out g6 cap6 w6 hown hgrow hat;have HU6:Hid (NG w w2 (w6.setCell ⟨gF,y,none⟩ (.slice (some ⟨g6,0,none⟩) (lv.length+1) cap6)) n G gF (.slice (some ⟨gP,0,none⟩) n n) (.slice (some ⟨g5,0,none⟩) (NS.length+1) cap5) (NS++[.slice (some ⟨ga,oa,none⟩) (E b).length ca]) (FT.set y (.slice (some ⟨g6,0,none⟩) (lv.length+1) cap6,lv++[b]))):=l6;clear hown hgrow hat hlt9 l6))
              all_goals
                have HNF:Hid (∀x,x<n->∃V,(FT.set y (.slice (some ⟨g6,0,none⟩) (lv.length+1) cap6,lv++[b]))[x]?=some (V,fromL E b x++fromP E b (k+1) x)):=fun x hx=>by
                  rw[fromP_succ HY.out x]
                  by_cases e:x=y
                  . subst e
                    refine⟨.slice (some ⟨g6,0,none⟩) (lv.length+1) cap6,?_⟩
                    rw[if_pos rfl,<-List.append_assoc,HLV.out.1,List.getElem?_set_self (by omega)]
                  . rw[if_neg e,List.getElem?_set_ne (Ne.symm e)]
                    exact HM.out.2 x hx
                clear x0 x1 x2 x3 HUE HOW HOC HAP HU HFC
                go_wp2
                go_roundw
                case rel=>exact⟨k+1,FT.set y (.slice (some ⟨g6,0,none⟩) (lv.length+1) cap6,lv++[b]),by omega,by go_num,by rw[List.length_set];exact hFT,HU6.out,HNF.out⟩
                case measure=>simp[intOf];omega
            . obtain rfl:k=(E b).length:=by omega
              have HNN:Hid ((∀x,x<n->∃V,FT[x]?=some (V,fromL E (b+1) x))/\(∀x,x<b+1->∃a' c,(NS++[.slice a (E b).length ca])[x]?=some (.slice a' (E x).length c)/\RdN w (.slice a' (E x).length c) (E x))):=by
                refine⟨fun x hx=>by rw[fromL_succ];exact HM.out.2 x hx,fun x hx=> ?_⟩
                by_cases e:x<b
                . obtain⟨a',c',q1,q2⟩:=HL.out.2.2 x e
                  exact⟨a',c',by rw[List.getElem?_append_left (by rw[HNS.out];exact e)];exact q1,q2⟩
                . have:x=b:=by omega
                  subst this
                  refine⟨a,ca,?_,HGB.out⟩
                  rw[List.getElem?_append_right (by rw[HNS.out];exact Nat.le_refl _),HNS.out,Nat.sub_self]
                  rfl
              go_wp2
              go_roundw
              case rel=>exact⟨b+1,_,NS++[.slice a (E b).length ca],FT,by omega,by go_num,by rw[List.length_append,List.length_singleton,HNS.out],hFT,HM.out.1,HNN.out.1,HNN.out.2⟩
              case measure=>simp[intOf];omega
      . have ebn:b=n:=by omega
        have hltI:¬(b:Int)<(n:Int):=by omega
        rw[ebn]at HL HNS
        go_upto_region 13 with fail
        obtain⟨u3,hu3⟩:∃W,W=wr:=⟨_,rfl⟩
        subst hu3
        obtain⟨gN,cN,eN⟩:∃g c,NV=.slice (some ⟨g,0,none⟩) n c:=by
          rcases own_row HL.out.1.nrow with⟨_,q⟩|⟨g,c,q⟩
          . rw[HNS.out]at q
            omega
          . rw[HNS.out]at q
            exact⟨g,c,q⟩
        subst eN
        have HE3:Hid (EdAt u3 gN 0 n E/\EdAt u3 gF 0 n (fromL E n)/\(gN≠G/\gF≠G/\gP≠G/\gN≠gP/\gF≠gP)/\(∀b a m c,b<n->u3.cell? ⟨gN,b,none⟩=some (.slice (some a) m c)->0<m->a.block≠G/\a.block≠gP)/\(∀b a m c,b<n->u3.cell? ⟨gF,b,none⟩=some (.slice (some a) m c)->a.block≠G/\a.block≠gP)):=ng_edges HL.out.1 HNS.out hFS HL.out.2.1 HL.out.2.2 HPR.out.1 HPR.out.2.2.1 HPR.out.2.2.2
        have HP3:Hid (Blk u3 G #[.slice (some ⟨gN,0,none⟩) n cN,.slice (some ⟨gF,0,none⟩) n n,.slice none 0 0,.slice (some ⟨gP,0,none⟩) n n,.slice none 0 0] 176/\u3.ownsRow w.heap.size 2 1 (.slice (some ⟨gP,0,none⟩) n n) n (iv (fun _=>0) n)/\Below w.heap.size w u3/\w.heap.size<=G/\gP<u3.heap.size):=by
          have hp:u3.ownsRow w.heap.size 2 1 (.slice (some ⟨gP,0,none⟩) n n) n (iv (fun _=>0) n):=by
            have h0:=HPR.out.1
            refine⟨h0.1,h0.2.imp id ?_⟩
            rintro⟨g',c',cur,e1,e2,e3,e4⟩
            refine⟨g',c',cur,e1,e2,?_,e4⟩
            cases e1
            rw[HL.out.1.fx gP (Array.getElem?_eq_some_iff.1 e3).1 HPR.out.2.2.1 HPR.out.2.2.2]
            exact e3
          refine⟨HL.out.1.blk,hp,HL.out.1.bel,HL.out.1.lt.1,?_⟩
          obtain⟨_,cur,h1⟩:=own_blk hp
          exact(Array.getElem?_eq_some_iff.1 h1).1
        clear HL HPR HNS hNl
        have bA:=below_alloc u3 (.cells #[.int .i64 0] 2)
        have x0:u3.cell? ⟨G,0,none⟩=some (.slice (some ⟨gN,0,none⟩) n cN):=HP3.out.1.cell 0
        have x1:(u3.alloc (.cells #[.int .i64 0] 2)).cell? ⟨G,0,none⟩=some (.slice (some ⟨gN,0,none⟩) n cN):=(HP3.out.1.keep bA).cell 0
        have HS0:Hid (RdN (u3.alloc (.cells #[.int .i64 0] 2)) (.slice (some ⟨u3.heap.size,0,none⟩) 1 1) [0]):=by
          refine⟨rfl,.inr ⟨u3.heap.size,0,1,rfl,fun j v hj=> ?_⟩⟩
          rw[Nat.zero_add,(Blk.new u3 #[.int .i64 0] 2).cell j]
          simpa[nv]using hj
        go_wp2_with fail
        refine(postorder_any gN 0 cN n E _ [0] _ [] _ hn H.out.2.1 (fun b=>by have:=H.out.2.2.1 b;omega) (HE3.out.1.keep bA) (fun x hx=>by simp at hx;omega) (by simp) HS0.out (.inl ⟨rfl,rfl⟩)).mono ?_
        rintro e u5 ⟨V,S,O,rfl,hvs,hoO,b5⟩
        obtain⟨N,tN⟩:=hvs.told
        have hON:O=N:=by simpa using tN.out
        subst hON
        have h0O:0∈O:=by
          have:=tN.todo 0 (by simp)
          rcases(tN.seen 0).1 this with q|q
          . cases q
          . exact q
        have hOl:O.length<=n:=by
          have:=nodup_le O n (fun x hx=>by
            obtain⟨q,q1,q2⟩:=tN.from_ x hx
            have:q=0:=by simpa using q1
            subst this
            exact q2.lt H.out.2.1 h0) tN.nodup
          omega
        have hO1:0<O.length:=List.length_pos_iff.2 (fun q=>by rw[q]at h0O;cases h0O)
        have HON:Hid (O.Nodup/\(∀x∈O,x<n)/\Vs E [] [] [0] S O):=⟨tN.nodup,fun x hx=>by
          obtain⟨q,q1,q2⟩:=tN.from_ x hx
          have:q=0:=by simpa using q1
          subst this
          exact q2.lt H.out.2.1 h0,hvs⟩
        obtain⟨gO,cO,eO⟩:∃g c,V=.slice (some ⟨g,0,none⟩) O.length c:=by
          rcases own_row hoO with⟨_,q⟩|⟨g,c,q⟩
          . omega
          . exact⟨g,c,q⟩
        subst eO
        have hb35:Below u3.heap.size u3 u5:=below_on bA (Nat.le_refl _) b5
        have HO5:Hid (OwN u5 u3.heap.size (.slice (some ⟨gO,0,none⟩) O.length cO) O/\Below u3.heap.size u3 u5):=⟨own_lower hoO bA.size,hb35⟩
        have kG:=HP3.out.1.keep hb35
        have d2:u5.cell? ⟨G,2,none⟩=some (.slice none 0 0):=kG.cell 2
        have z2:=kG.frozen 2
        clear tN hvs hoO b5 bA x0 x1 HS0 hb35 kG h0O
        go_upto_region 14 with fail
        have hgO:=(own_blk HO5.out.1).1
        have HU6:Hid (NGO w u3 (u5.setCell ⟨G,2,none⟩ (.slice (some ⟨gO,0,none⟩) O.length cO)) n G gN cN gF gO cO gP O):=by
          have hG3:=HP3.out.1.lt
          refine⟨?_,ownsRow_setCell_other HO5.out.1 (a:=⟨G,2,none⟩) (by simp[Value.ownBlock];omega) _,?_,fun k hk h1 h2=> ?_,?_,?_⟩
          . have:=(HP3.out.1.keep HO5.out.2).set 2 (.slice (some ⟨gO,0,none⟩) O.length cO)
            simpa using this
          . exact ownsRow_setCell_other (own_keep HP3.out.2.1 HO5.out.2 (Nat.le_refl _)) (a:=⟨G,2,none⟩) (by simp[Value.ownBlock];exact HE3.out.2.2.1.2.2.1) _
          . rw[heap_setCell_other u5 _ k _ h1]
            exact HO5.out.2.block k hk
          . rw[World.size_setCell]
            exact HO5.out.2.size
          . exact(below_on HP3.out.2.2.1 (Nat.le_refl _) HO5.out.2).setCell HP3.out.2.2.2.1 _
        refine wp_world (fun u=>Hid (NGO w u3 u n G gN cN gF gO cO gP O)) HU6 ?_
        intro U6 HU6'
        clear HU6 d2 z2 HO5
        have o2:U6.cell? ⟨G,2,none⟩=some (.slice (some ⟨gO,0,none⟩) O.length cO):=HU6'.out.blk.cell 2
        go_wp2_with fail
        refine(reverse_own gO cO u3.heap.size O U6 (by omega) HU6'.out.ord).mono ?_
        rintro e u7 ⟨rfl,ho7,g7⟩
        have HU7:Hid (NGO w u3 u7 n G gN cN gF gO cO gP O.reverse/\O.reverse.length=O.length):=⟨HU6'.out.rev hgO HP3.out.1.lt HP3.out.2.2.2.2 HP3.out.2.2.1.size ho7 g7,List.length_reverse⟩
        clear ho7 g7 HU6' o2
        have HR:Hid (∀k x:Nat,O.reverse[k]?=some x->u7.cell? ⟨gO,k,none⟩=some (.int .i64 (x:Int))):=fun k x hx=>by
          obtain⟨_,_,ee,_,q⟩:=HU7.out.1.ord.rd.at_ hx
          simp only[Option.some.injEq,Addr.mk.injEq,and_true]at ee
          obtain⟨rfl,rfl⟩:=ee
          rw[Nat.zero_add]at q
          exact q
        have o2:u7.cell? ⟨G,2,none⟩=some (.slice (some ⟨gO,0,none⟩) O.length cO):=by
          have:=HU7.out.1.blk.cell 2
          rw[HU7.out.2]at this
          exact this
        have hPO:gO≠gP:=by have:=HP3.out.2.2.2.2;omega
        have HNP:Hid (NGP w u7 u7 n gP O 0):=⟨by rw[plTo_zero];exact HU7.out.1.prow,fun _ _ _=>rfl,HU7.out.1.bel⟩
        go_wp2
        go_loopw [81] (fun i wr=>∃k:Nat,k<=O.length/\i=.int .i64 k/\Hid (NGP w u7 wr n gP O k)) (fun i _=>O.length-(intOf i).toNat)
        case atStart=>exact⟨0,by omega,rfl,HNP⟩
        case round=>
          clear HNP o2
          obtain⟨k,hk',rfl,HM⟩:=hrel
          by_cases hlt3:k<O.length
          . have hlt3I:(k:Int)<(O.length:Int):=by omega
            obtain⟨x,hx⟩:∃x,O.reverse[k]?=some x:=⟨_,List.getElem?_eq_getElem (by rw[List.length_reverse];exact hlt3)⟩
            have hxn:x<n:=HON.out.2.1 x (List.mem_reverse.1 (List.mem_of_getElem? hx))
            have hxnI:(x:Int)<(n:Int):=by omega
            have y0:=HM.out.cell (HR.out k x hx) hPO
            have p3:wr.cell? ⟨G,3,none⟩=some (.slice (some ⟨gP,0,none⟩) n n):=HM.out.cell (HU7.out.1.blk.cell 3) (Ne.symm HE3.out.2.2.1.2.2.1)
            have c3:=HM.out.row.cellAt x (by omega)
            rw[iv_at _ _ _ hxn]at c3
            have z3:=HM.out.row.frozenAt x
            have HN3:Hid (NGP w u7 (wr.setCell ⟨gP,x,none⟩ (.int .i64 (k:Int))) n gP O (k+1)):=HM.out.set HON.out.1 hx
            clear hx
            go_wp2
            go_roundw
            case rel=>exact⟨k+1,by omega,by go_num,HN3⟩
            case measure=>simp[intOf];omega
          . obtain rfl:k=O.length:=by omega
            have HGM:Hid (GM w wr n G gN cN gF gO cO gP E S O):=gm_end HU7.out.1 HM.out HON.out.2.2 HON.out.2.1 HP3.out.2.2.2.1 HP3.out.1.lt HP3.out.2.2.2.2 HP3.out.2.2.1.size HE3.out.1 HE3.out.2.1 HE3.out.2.2.1 HE3.out.2.2.2.1 HE3.out.2.2.2.2
            go_wp2
            go_ret
            exact⟨G,gN,cN,gF,gO,cO,gP,S,O,rfl,HGM.out⟩
end Go.Proofs.YtdfmdgbolmbffaaGreat
