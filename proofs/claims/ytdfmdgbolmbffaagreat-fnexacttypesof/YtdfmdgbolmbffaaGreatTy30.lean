import Derived.Test.YtdfmdgbolmbffaaGreatTy29
namespace Go.Proofs.YtdfmdgbolmbffaaGreat
open Go.ChangeShapes Go.WideShapes Go.ChangeAt Go.RowKit
set_option linter.unusedVariables false
set_option maxHeartbeats 8000000 in
set_option maxRecDepth 100000 in
theorem l5Loop_any (g o c n gm cm h:Nat)(E:Nat->List Nat)(D Lf:Nat->Nat->Bool)(w:World)(hn:n<=1024)(hh:h<n)(hE:∀b,b<n->∀x∈E b,x<n)(hsz:∀b,(E b).length<=2)(hL:∀x,Lf h x=true↔InLoop E D n h x)(hg:GrAt w g o n E)(hm:MatAt w gm n (fun b d=>D d b)):
    Calls Tryz.prog 70 #[.slice (some ⟨g,o,none⟩) n c,.slice (some ⟨gm,0,none⟩) n cm,.int .i64 (h:Int)] w fun e w'=>∃BV KV,e=.returned (.agg #[.int .i64 (h:Int),BV,KV])/\OwN w' w.heap.size BV (backL E D n h)/\(backL E D n h≠[]->OwN w' w.heap.size KV ((List.range n).filter (Lf h)))/\Below w.heap.size w w'/\(∀q,BV.ownBlock=some q->KV.ownBlock≠some q)/\∃ak nk ck,KV=.slice ak nk ck:=by
  obtain⟨j0,hj,hy0,hy1,hy2⟩:=info_parts infoBool
  obtain⟨k0,hk,hx0,hx1,hx2⟩:=info_parts info64
  have H:Hid (GrAt w g o n E/\(∀b,b<n->∀x∈E b,x<n)/\(∀b,(E b).length<=2)/\MatAt w gm n (fun b d=>D d b)/\(∀x,Lf h x=true↔InLoop E D n h x)):=⟨hg,hE,hsz,hm,hL⟩
  clear hg hE hsz hm hL
  have hhI:(h:Int)<(n:Int):=by omega
  go_enter Tryz.func70,Tryz.ntmps70
  go_upto_region 2 with fail
  refine wp_world (fun u=>Hid (Blk u w.heap.size #[.int .i64 0,.slice none 0 0,.slice none 0 0] 53/\Blk u (w.heap.size+1) #[.int .i64 (h:Int),.slice none 0 0,.slice none 0 0] 53/\Below w.heap.size w u)) ?_ ?_
  . have b1:=below_alloc w (.cells #[.int .i64 0,.slice none 0 0,.slice none 0 0] 53)
    have k1:=Blk.new w #[.int .i64 0,.slice none 0 0,.slice none 0 0] 53
    have z1:(w.alloc (.cells #[.int .i64 0,.slice none 0 0,.slice none 0 0] 53)).heap.size=w.heap.size+1:=by simp
    generalize w.alloc (.cells #[.int .i64 0,.slice none 0 0,.slice none 0 0] 53)=W1 at b1 k1 z1⊢
    have k2:=Blk.new W1 #[.int .i64 (h:Int),.slice none 0 0,.slice none 0 0] 53
    rw[z1]at k2
    exact⟨k1.keep (below_alloc _ _),k2,below_on b1 (Nat.le_refl _) (below_alloc _ _)⟩
  intro U0 HU0
  go_wp2_with (at_make;refine wpList_make_full _ rfl _ _ 69 rfl w.heap.size 4 j0 (.bool false) 1 Tryz.underlying69 hj hy0 hy1 .i64 .i64 _ _ n rfl rfl rfl rfl (by rw[hy2];omega) (by unfold maxLen;omega) HU0.out.2.2.size ?_;intro w3 hown hgrow;rw[made_bool,bv_zero]at hown;have z0:=World.ownsRow.frozenAt hown h;have d0:w3.cell? ⟨U0.heap.size,h,none⟩=some (.bool false):=OwB.cell hown hh)
  have HS:Hid (L1 w (w3.setCell ⟨U0.heap.size,h,none⟩ (.bool true)) n h (w.heap.size+1) U0.heap.size (.slice none 0 0) []):=by
    have hb3:Below U0.heap.size U0 w3:=(Below.refl _ _).grown hgrow (Nat.le_refl _) (fun k hk=>by cases hk)
    have l0:=HU0.out.1.lt
    have l1:=HU0.out.2.1.lt
    refine⟨(HU0.out.1.keep hb3).other (by simp only[];omega) _,(HU0.out.2.1.keep hb3).other (by simp only[];omega) _,OwB.set (P:=fun _=>false) hown h true fun j hj=> ?_,World.ownsRow_nil _ _ _ _,(below_on HU0.out.2.2 (Nat.le_refl _) hb3).setCell (by simp only[];omega) _,by omega⟩
    by_cases e:j=h
    . subst e;simp
    . simp[e]
  clear hown hgrow z0 d0 HU0
  have HGI:Hid (U0.heap.size=U0.heap.size):=rfl
  generalize U0.heap.size=gi at HS⊢
  clear HGI
  go_loopw [9] (fun i wr=>∃(b:Nat) (BV:Value),b<=n/\i=.int .i64 b/\Hid (L1 w wr n h (w.heap.size+1) gi BV (backL E D b h))) (fun i _=>n-(intOf i).toNat)
  case atStart=>exact⟨0,_,by omega,rfl,HS⟩
  case round=>
    clear HS
    obtain⟨b,BV,hb,rfl,HM⟩:=hrel
    by_cases hlt:b<n
    . have hltI :(b:Int)<(n:Int):=by omega
      obtain⟨a,ca,g0,g1⟩:=H.out.1 b hlt
      have HG:Hid (w.cell? ⟨g,o+b*3+2,none⟩=some (.slice a (E b).length ca)/\RdN w (.slice a (E b).length ca) (E b)):=⟨g0,g1⟩
      obtain⟨rb,r0,r1⟩:=H.out.2.2.2.1 b hlt
      have HRB:Hid (w.cell? ⟨gm,b,none⟩=some (.slice (some ⟨rb,0,none⟩) n n)/\w.cell? ⟨rb,h,none⟩=some (.bool (D h b))):=⟨r0,r1 h hh⟩
      have hE2:=H.out.2.2.1 b
      have HLB:Hid ((backL E D b h).length<=2*b):=backL_len H.out.2.2.1 D h b
      clear g0 g1 r0 r1
      go_wp2
      go_loopw [10] (fun i wr=>∃(k:Nat) (BV:Value),k<=(E b).length/\i=.int .i64 k/\Hid (L1 w wr n h (w.heap.size+1) gi BV (backL E D b h++backP E D h b k))) (fun i _=>2-(intOf i).toNat)
      case atStart=>exact⟨0,BV,by omega,rfl,by rw[backP_zero,List.append_nil];exact HM⟩
      case round=>
        clear HM
        obtain⟨k,BV,hk',rfl,HM⟩:=hrel
        have g0:=bcell_keep HM.out.bel HG.out.1
        by_cases hlt2:k<(E b).length
        . have hlt2I:(k:Int)<((E b).length:Int):=by omega
          obtain⟨y,hy⟩:∃y,(E b)[k]?=some y:=⟨_,List.getElem?_eq_getElem hlt2⟩
          have HY:Hid ((E b)[k]?=some y):=hy
          obtain⟨ga,oa,rfl,_,y0⟩:=HG.out.2.at_ hy
          replace y0:=bcell_keep HM.out.bel y0
          have m0:=bcell_keep HM.out.bel HRB.out.1
          have m1:=bcell_keep HM.out.bel HRB.out.2
          clear hy
          by_cases e:y=h
          . subst e
            cases hD:D y b
            . rw[hD]at m1
              have HN:Hid (L1 w wr n y (w.heap.size+1) gi BV (backL E D b y++backP E D y b (k+1))):=by
                show L1 w wr n y _ _ _ _
                rw[backP_no HY.out (fun q=>by rw[hD]at q;cases q.2)]
                exact HM.out
              go_wp2
              go_roundw
              case rel=>exact⟨k+1,BV,by omega,by go_num,HN⟩
              case measure=>simp[intOf];omega
            . rw[hD]at m1
              obtain⟨aB,cB,rfl⟩:=own_slice HM.out.back
              have hlB:(backL E D b y++backP E D y b k).length<=4096:=by
                have h1:=HLB.out
                have h2:=backP_len E D y b k
                rw[List.length_append]
                omega
              generalize hLL:(backL E D b y++backP E D y b k)=BB at HM hlB
              have HBB:Hid (backL E D b y++backP E D y b k=BB):=hLL
              clear hLL
              go_upto_region 11 with fail
              refine wp_world (fun u=>Hid (L1 w u n y (w.heap.size+1) gi (.slice aB BB.length cB) BB)) HM ?_
              intro U HU
              clear g0 y0 m0 m1 HM
              have t1:=HU.out.blk.cell 1
              simp only[List.getElem?_toArray,List.getElem?_cons_zero,List.getElem?_cons_succ]at t1
              go_wp2_with (at_builtin;refine wpList_append_lies _ rfl _ _ 48 rfl w.heap.size 2 k0 (.int .i64 0) 1 8 Tryz.underlying48 hk hx0 hx1 hx2 rfl (by decide) _ BB.length (nv BB) rfl (HU.out.al (.cells #[.int .i64 (b:Int)] 2)).1 ⟨U.heap.size,0,none⟩ 1 1 [.int .i64 (b:Int)] rfl rfl (one_cell U (b:Int)) (fun u hu=>by simp at hu;subst hu;rfl) (by omega) (by simp[maxLen];omega) (by omega) (HU.out.al (.cells #[.int .i64 (b:Int)] 2)).2 _ rfl ?_;intro g5 cap5 w5 hown hgrow hat hlt3;obtain⟨kb5,l5⟩:=HU.out.app hown hgrow;have HU5:Hid (L1 w (w5.setCell ⟨w.heap.size+1,1,none⟩ (.slice (some ⟨g5,0,none⟩) (BB.length+1) cap5)) n y (w.heap.size+1) gi (.slice (some ⟨g5,0,none⟩) (BB.length+1) cap5) (BB++[b])):=l5;have t5:=kb5.cell 1;have z5:=kb5.frozen 1;simp only[List.getElem?_toArray,List.getElem?_cons_zero,List.getElem?_cons_succ]at t5;clear hown hgrow hat hlt3 kb5 l5)
              have HN:Hid (L1 w (w5.setCell ⟨w.heap.size+1,1,none⟩ (.slice (some ⟨g5,0,none⟩) (BB.length+1) cap5)) n y (w.heap.size+1) gi (.slice (some ⟨g5,0,none⟩) (BB.length+1) cap5) (backL E D b y++backP E D y b (k+1))):=by
                show L1 w _ n y _ _ _ _
                rw[backP_yes HY.out hD,<-List.append_assoc,HBB.out]
                exact HU5.out
              go_roundw
              case rel=>exact⟨k+1,_,by omega,by go_num,HN⟩
              case measure=>simp[intOf];omega
          . have eI:((y:Int)==(h:Int))=false:=by simp;omega
            have HN:Hid (L1 w wr n h (w.heap.size+1) gi BV (backL E D b h++backP E D h b (k+1))):=by
              show L1 w wr n h _ _ _ _
              rw[backP_no HY.out (fun q=>e q.1)]
              exact HM.out
            go_wp2
            go_roundw
            case rel=>exact⟨k+1,BV,by omega,by go_num,HN⟩
            case measure=>simp[intOf];omega
        . obtain rfl:k=(E b).length:=by omega
          rw[<-backL_succ]at HM
          go_wp2
          go_roundw
          case rel=>exact⟨b+1,BV,by omega,by go_num,HM⟩
          case measure=>simp[intOf];omega
    . have ebn : b = n := by omega
      have hltI:¬(b:Int)<(n:Int):=by omega
      go_upto_region 12 with fail
      rw[ebn]at HM
      clear ebn hlt hb hltI
      obtain⟨w1,hw1⟩:∃W,W=wr:=⟨_,rfl⟩
      subst hw1
      obtain⟨aB,cB,rfl⟩:=own_slice HM.out.back
      obtain⟨B,hB⟩:∃B,B=backL E D n h:=⟨_,rfl⟩
      rw[<-hB]at HM
      have hlB:B.length<=2048:=by
        have:=backL_len H.out.2.2.1 D h n
        rw[hB]
        omega
      have hbn:∀x∈B,x<n:=fun x hx=>by rw[hB]at hx;exact((backL_mem E D n h x).1 hx).1
      have HB:Hid (B=backL E D n h/\∀x∈B,x<n):=⟨hB,hbn⟩
      clear hB hbn
      have hgi:gi≠w.heap.size+1:=fun e=>by
        obtain⟨_,cur,h1⟩:=own_blk HM.out.inn
        have h2:=HM.out.blk
        unfold Blk at h2
        rw[e,h2]at h1
        simp only[Option.some.injEq,Obj.cells.injEq]at h1
        exact absurd h1.2.1 (by decide)
      have hgr:gi≠w.heap.size:=fun e=>by
        obtain⟨_,cur,h1⟩:=own_blk HM.out.inn
        have h2:=HM.out.res
        unfold Blk at h2
        rw[e,h2]at h1
        simp only[Option.some.injEq,Obj.cells.injEq]at h1
        exact absurd h1.2.1 (by decide)
      have HBK:Hid (0<B.length->∃gB,aB=some ⟨gB,0,none⟩/\gB≠gi/\∀k x:Nat,B[k]?=some x->w1.cell? ⟨gB,k,none⟩=some (.int .i64 (x:Int))):=fun hp=>by
        obtain⟨gB,oB,e1,_,e2⟩:=HM.out.back.rd.all hp
        rcases own_row HM.out.back with⟨e3,e4⟩|⟨gg,cc,e3⟩
        . omega
        . simp only[Value.slice.injEq,true_and]at e3
          obtain⟨e3,_⟩:=e3
          rw[e3]at e1
          simp only[Option.some.injEq,Addr.mk.injEq,and_true]at e1
          obtain⟨rfl,rfl⟩:=e1
          subst e3
          refine⟨gg,rfl,fun e=> ?_,fun k x hx=>by have:=e2 k x hx;rw[Nat.zero_add]at this;exact this⟩
          exact row_ne HM.out.back HM.out.inn (by decide) e
      have HL0:Hid (L2 w w1 (w1.alloc (.cells #[] 2)) n gi (fun x=>(h::[]).contains x) (.slice (some ⟨w1.heap.size,0,none⟩) 0 0) []):=by
        have bA:=below_alloc w1 (.cells #[] 2)
        refine⟨HM.out.inn.keep bA,⟨rfl,.inr ⟨w1.heap.size,0,#[],rfl,Nat.le_refl _,Blk.new w1 #[] 2,Nat.le_refl _,Nat.zero_le _,rfl,rfl⟩⟩,fun k hk _=>bA.block k hk,below_on HM.out.bel (Nat.le_refl _) bA,bA.size,HM.out.inn.lt⟩
      have HW:Hid (w.heap.size<=w1.heap.size):=HM.out.bel.size
      go_wp2
      go_loopw [11,12] (fun V i wr=>∃(L:List Nat) (k gl cl:Nat),V=.slice (some ⟨gl,0,none⟩) L.length cl/\i=.int .i64 k/\k<=B.length/\Hid (L2 w w1 wr n gi (fun x=>(h::L).contains x) V L/\Col E D n h L/\Has h L (B.take k))) (fun _ i _=>B.length-(intOf i).toNat)
      case atStart=>exact⟨[],0,_,_,rfl,rfl,by omega,HL0.out,Col.nil,fun x hx=>by simp at hx⟩
      case round=>
        clear HL0
        obtain⟨L,k,gl,cl,rfl,rfl,hkB,HL⟩:=hrel
        have t1:wr.cell? ⟨w.heap.size+1,1,none⟩=some (.slice aB B.length cB):=HL.out.1.cell (HM.out.blk.cell 1) (Ne.symm hgi)
        by_cases hlt:k<B.length
        . have hltI:(k:Int)<(B.length:Int):=by omega
          obtain⟨x,hx⟩:∃x,B[k]?=some x:=⟨_,List.getElem?_eq_getElem hlt⟩
          have HX:Hid (B[k]?=some x):=hx
          have hxn:x<n:=HB.out.2 x (List.mem_of_getElem? hx)
          have hxnI:(x:Int)<(n:Int):=by omega
          obtain⟨gB,rfl,hgB,hcB⟩:=HBK.out (by omega)
          have HXC:Hid (w1.cell? ⟨gB,k,none⟩=some (.int .i64 (x:Int))):=hcB k x hx
          have x0:=HL.out.1.cell HXC.out hgB
          have s0:=HL.out.1.inn.cell hxn
          clear hx hcB
          cases hc:(h::L).contains x
          . simp only[hc]at s0
            have z0:=HL.out.1.inn.frozen x
            have hxL:¬(x=h\/x∈L):=by simpa using hc
            have HSM:Hid (L2 w w1 (wr.setCell ⟨gi,x,none⟩ (.bool true)) n gi (fun j=>(h::(L++[x])).contains j) (.slice (some ⟨gl,0,none⟩) L.length cl) L):=HL.out.1.mark x true (cons_set h L x n)
            have HCN:Hid (Col E D n h (L++[x])):=HL.out.2.1.add (fun e=>hxL (.inl e)) hxn ⟨x,by rw[<-HB.out.1];exact List.mem_of_getElem? HX.out,.here (fun e=>hxL (.inl e))⟩ (fun e=>hxL (.inr e))
            have hLn:=HCN.out.len
            rw[List.length_append,List.length_singleton]at hLn
            have HN:Hid (Has h (L++[x]) (B.take (k+1))):=HL.out.2.2.next (fun y hy=>List.mem_append.2 (.inl hy)) HX.out (.inr (by simp))
            go_upto_region 18 with fail
            refine wp_world (fun u=>Hid (L2 w w1 u n gi (fun j=>(h::(L++[x])).contains j) (.slice (some ⟨gl,0,none⟩) L.length cl) L)) HSM ?_
            intro U HU
            clear HSM s0 z0 x0 t1
            have t1:U.cell? ⟨w.heap.size+1,1,none⟩=some (.slice (some ⟨gB,0,none⟩) B.length cB):=HU.out.cell (HM.out.blk.cell 1) (Ne.symm hgi)
            have x0:=HU.out.cell HXC.out hgB
            go_wp2_with (at_builtin;refine wpList_append_lies _ rfl _ _ 48 rfl w1.heap.size 2 k0 (.int .i64 0) 1 8 Tryz.underlying48 hk hx0 hx1 hx2 rfl (by decide) _ L.length (nv L) rfl (HU.out.al (.cells #[.int .i64 (x:Int)] 2)).1 ⟨U.heap.size,0,none⟩ 1 1 [.int .i64 (x:Int)] rfl rfl (one_cell U (x:Int)) (fun u hu=>by simp at hu;subst hu;rfl) (by omega) (by simp[maxLen];omega) (by omega) (HU.out.al (.cells #[.int .i64 (x:Int)] 2)).2 _ rfl ?_;intro g5 cap5 w5 hown hgrow hat hlt3;have HU5:Hid (L2 w w1 w5 n gi (fun j=>(h::(L++[x])).contains j) (.slice (some ⟨g5,0,none⟩) (L.length+1) cap5) (L++[x])):=HU.out.app HW.out hown hgrow;clear hown hgrow hat hlt3)
            go_roundw
            case rel=>exact⟨L++[x],k+1,g5,cap5,by rw[List.length_append,List.length_singleton],by go_num,by omega,HU5.out,HCN.out,HN.out⟩
            case measure=>simp[intOf];omega
          . simp only[hc]at s0
            have hxL:x=h\/x∈L:=by simpa using hc
            have HN:Hid (Has h L (B.take (k+1))):=HL.out.2.2.next (fun y hy=>hy) HX.out hxL
            go_wp2
            go_roundw
            case rel=>exact⟨L,k+1,gl,cl,rfl,by go_num,by omega,HL.out.1,HL.out.2.1,HN.out⟩
            case measure=>simp[intOf];omega
        . have HHB : Hid (Has h L (backL E D n h)):=by
            have:=HL.out.2.2
            rw[List.take_of_length_le (by omega),HB.out.1]at this
            exact this
          have HL3:Hid (L2 w w1 wr n gi (fun x=>(h::L).contains x) (.slice (some ⟨gl,0,none⟩) L.length cl) L/\Col E D n h L/\Has h L (backL E D n h)):=⟨HL.out.1,HL.out.2.1,HHB.out⟩
          clear HL HHB
          have hLn:=HL3.out.2.1.len
          go_wp2
          go_loopw [11,13] (fun V i wr=>∃(L:List Nat) (k gl cl:Nat),V=.slice (some ⟨gl,0,none⟩) L.length cl/\i=.int .i64 k/\k<=L.length/\L.length<=n/\Hid (L2 w w1 wr n gi (fun x=>(h::L).contains x) V L/\Col E D n h L/\Has h L (backL E D n h)/\Bwd E n h L k)) (fun _ i _=>n-(intOf i).toNat)
          case atStart=>exact⟨L,0,gl,cl,rfl,rfl,by omega,hLn,HL3.out.1,HL3.out.2.1,HL3.out.2.2,fun j x hj hl=>by omega⟩
          case round=>
            clear HL3 hLn t1
            obtain⟨L,i,gl,cl,rfl,rfl,hiL,hLn,HL⟩:=hrel
            by_cases hlt3:i<L.length
            . have hlt3I:(i:Int)<(L.length:Int):=by omega
              obtain⟨x,hx⟩:∃x,L[i]?=some x:=⟨_,List.getElem?_eq_getElem hlt3⟩
              have HX:Hid (L[i]?=some x):=hx
              clear hx
              go_wp2
              go_loopw [11,14] (fun V j wr=>∃(L:List Nat) (b gl cl:Nat),V=.slice (some ⟨gl,0,none⟩) L.length cl/\j=.int .i64 b/\b<=n/\i<L.length/\L.length<=n/\Hid (L2 w w1 wr n gi (fun x=>(h::L).contains x) V L/\Col E D n h L/\Has h L (backL E D n h)/\Bwd E n h L i/\L[i]?=some x/\BwdB E h L x b)) (fun _ j _=>n-(intOf j).toNat)
              case atStart=>exact⟨L,0,gl,cl,rfl,rfl,by omega,hlt3,hLn,HL.out.1,HL.out.2.1,HL.out.2.2.1,HL.out.2.2.2,HX.out,fun y hy=>by omega⟩
              case round=>
                clear HL HX hlt3 hlt3I hiL hLn
                obtain⟨L,b,gl,cl,rfl,rfl,hb,hiL,hLn,HL⟩:=hrel
                have hiLI:(i:Int)<(L.length:Int):=by omega
                by_cases hlt4:b<n
                . have hlt4I:(b:Int)<(n:Int):=by omega
                  obtain⟨a,ca,g0,g1⟩:=H.out.1 b hlt4
                  have HG:Hid (w.cell? ⟨g,o+b*3+2,none⟩=some (.slice a (E b).length ca)/\RdN w (.slice a (E b).length ca) (E b)):=⟨g0,g1⟩
                  have hE2:=H.out.2.2.1 b
                  clear g0 g1
                  go_wp2
                  go_loopw [11,15] (fun V j wr=>∃(L:List Nat) (m gl cl:Nat),V=.slice (some ⟨gl,0,none⟩) L.length cl/\j=.int .i64 m/\m<=(E b).length/\i<L.length/\L.length<=n/\Hid (L2 w w1 wr n gi (fun x=>(h::L).contains x) V L/\Col E D n h L/\Has h L (backL E D n h)/\Bwd E n h L i/\L[i]?=some x/\BwdB E h L x b/\(x∈(E b).take m->b=h\/b∈L))) (fun _ j _=>2-(intOf j).toNat)
                  case atStart=>exact⟨L,0,gl,cl,rfl,rfl,by omega,hiL,hLn,HL.out.1,HL.out.2.1,HL.out.2.2.1,HL.out.2.2.2.1,HL.out.2.2.2.2.1,HL.out.2.2.2.2.2,fun q=>by simp at q⟩
                  case round=>
                    clear HL hiL hiLI hLn
                    obtain⟨L,m,gl,cl,rfl,rfl,hm',hiL,hLn,HL⟩:=hrel
                    have hiLI:(i:Int)<(L.length:Int):=by omega
                    have g0:=bcell_keep HL.out.1.bel HG.out.1
                    by_cases hlt5:m<(E b).length
                    . have hlt5I:(m:Int)<((E b).length:Int):=by omega
                      obtain⟨y,hy⟩:∃y,(E b)[m]?=some y:=⟨_,List.getElem?_eq_getElem hlt5⟩
                      have HY:Hid ((E b).take (m+1)=(E b).take m++[y]/\y∈E b):=by
                        obtain⟨hl,rfl⟩:=List.getElem?_eq_some_iff.1 hy
                        exact⟨List.take_succ_eq_append_getElem hl,List.getElem_mem hl⟩
                      obtain⟨ga,oa,rfl,_,y0⟩:=HG.out.2.at_ hy
                      replace y0:=bcell_keep HL.out.1.bel y0
                      obtain⟨_,_,ee,_,l0⟩:=HL.out.1.list.rd.at_ HL.out.2.2.2.2.1
                      simp only[Option.some.injEq,Addr.mk.injEq,and_true]at ee
                      obtain⟨rfl,rfl⟩:=ee
                      rw[Nat.zero_add]at l0
                      have s0:=HL.out.1.inn.cell hlt4
                      clear hy
                      have hTN:Hid (∀L':List Nat,(x=y->b=h\/b∈L')->(∀z∈L,z∈L')->x∈(E b).take (m+1)->b=h\/b∈L'):=fun L' h1 h2 h3=>by
                        rw[HY.out.1]at h3
                        rcases List.mem_append.1 h3 with h3|h3
                        . exact(HL.out.2.2.2.2.2.2 h3).imp id (h2 b)
                        . simp only[List.mem_cons,List.not_mem_nil,or_false]at h3
                          exact h1 h3
                      by_cases e:y=x
                      . subst e
                        cases hc:(h::L).contains b
                        . simp only[hc]at s0
                          have hbL:¬(b=h\/b∈L):=by simpa using hc
                          go_wp2
                          go_quiet (fail)
                          refine with_world (fun u=>Hid (L2 w w1 u n gi (fun x=>(h::L).contains x) (.slice (some ⟨gl,0,none⟩) L.length cl) L)) (HL.out.1.keep (below_drewN _ _ _)) ?_
                          intro U1 HU1
                          clear s0 y0 l0 g0
                          have s1:=HU1.out.inn.cell hlt4
                          have z1:=HU1.out.inn.frozen b
                          have HCN:Hid (Col E D n h (L++[b])):=HL.out.2.1.add (fun e=>hbL (.inl e)) hlt4 (HL.out.2.1.step (List.mem_of_getElem? HL.out.2.2.2.2.1) hlt4 HY.out.2 (fun e=>hbL (.inl e))) (fun e=>hbL (.inr e))
                          have hLn2:=HCN.out.len
                          rw[List.length_append,List.length_singleton]at hLn2
                          have HSM:Hid (L2 w w1 (U1.setCell ⟨gi,b,none⟩ (.bool true)) n gi (fun j=>(h::(L++[b])).contains j) (.slice (some ⟨gl,0,none⟩) L.length cl) L):=HU1.out.mark b true (cons_set h L b n)
                          go_upto_region 30 with fail
                          refine wp_world (fun u=>Hid (L2 w w1 u n gi (fun j=>(h::(L++[b])).contains j) (.slice (some ⟨gl,0,none⟩) L.length cl) L)) HSM ?_
                          intro U HU
                          clear HSM s1 z1 HU1
                          go_wp2_with (at_builtin;refine wpList_append_lies _ rfl _ _ 48 rfl w1.heap.size 2 k0 (.int .i64 0) 1 8 Tryz.underlying48 hk hx0 hx1 hx2 rfl (by decide) _ L.length (nv L) rfl (HU.out.al (.cells #[.int .i64 (b:Int)] 2)).1 ⟨U.heap.size,0,none⟩ 1 1 [.int .i64 (b:Int)] rfl rfl (one_cell U (b:Int)) (fun u hu=>by simp at hu;subst hu;rfl) (by omega) (by simp[maxLen];omega) (by omega) (HU.out.al (.cells #[.int .i64 (b:Int)] 2)).2 _ rfl ?_;intro g5 cap5 w5 hown hgrow hat hlt9;have HU5:Hid (L2 w w1 w5 n gi (fun j=>(h::(L++[b])).contains j) (.slice (some ⟨g5,0,none⟩) (L.length+1) cap5) (L++[b])):=HU.out.app HW.out hown hgrow;clear hown hgrow hat hlt9)
                          go_roundw
                          case rel=>exact⟨L++[b],m+1,g5,cap5,by rw[List.length_append,List.length_singleton],by go_num,by omega,by rw[List.length_append];omega,by rw[List.length_append,List.length_singleton];exact hLn2,HU5.out,HCN.out,HL.out.2.2.1.app b,HL.out.2.2.2.1.app (by omega) b,by rw[List.getElem?_append_left hiL];exact HL.out.2.2.2.2.1,HL.out.2.2.2.2.2.1.app b,hTN.out (L++[b]) (fun _=>.inr (by simp)) (fun z hz=>List.mem_append.2 (.inl hz))⟩
                          case measure=>simp[intOf];omega
                        . simp only[hc]at s0
                          have hbL:b=h\/b∈L:=by simpa using hc
                          go_wp2
                          go_quiet (fail)
                          refine with_world (fun u=>Hid (L2 w w1 u n gi (fun x=>(h::L).contains x) (.slice (some ⟨gl,0,none⟩) L.length cl) L)) (HL.out.1.keep (below_drewN _ _ _)) ?_
                          intro U HU
                          go_wp2
                          go_roundw
                          case rel=>exact⟨L,m+1,gl,cl,rfl,by go_num,by omega,hiL,hLn,HU.out,HL.out.2.1,HL.out.2.2.1,HL.out.2.2.2.1,HL.out.2.2.2.2.1,HL.out.2.2.2.2.2.1,hTN.out L (fun _=>hbL) (fun z hz=>hz)⟩
                          case measure=>simp[intOf];omega
                      . have eI:((y:Int)==(x:Int))=false:=by simp;omega
                        go_wp2
                        go_quiet (fail)
                        refine with_world (fun u=>Hid (L2 w w1 u n gi (fun x=>(h::L).contains x) (.slice (some ⟨gl,0,none⟩) L.length cl) L)) (HL.out.1.keep (below_drewN _ _ _)) ?_
                        intro U HU
                        go_wp2
                        go_roundw
                        case rel=>exact⟨L,m+1,gl,cl,rfl,by go_num,by omega,hiL,hLn,HU.out,HL.out.2.1,HL.out.2.2.1,HL.out.2.2.2.1,HL.out.2.2.2.2.1,HL.out.2.2.2.2.2.1,hTN.out L (fun q=>absurd q.symm e) (fun z hz=>hz)⟩
                        case measure=>simp[intOf];omega
                    . obtain rfl:m=(E b).length:=by omega
                      have HN:Hid (BwdB E h L x (b+1)):=HL.out.2.2.2.2.2.1.next (by have:=HL.out.2.2.2.2.2.2;rw[List.take_of_length_le (Nat.le_refl _)]at this;exact this)
                      go_wp2
                      go_roundw
                      case rel=>exact⟨L,b+1,gl,cl,rfl,by go_num,by omega,hiL,hLn,HL.out.1,HL.out.2.1,HL.out.2.2.1,HL.out.2.2.2.1,HL.out.2.2.2.2.1,HN.out⟩
                      case measure=>simp[intOf];omega
                . have ebn:b=n:=by omega
                  have hlt4I:¬(b:Int)<(n:Int):=by omega
                  have HN:Hid (Bwd E n h L (i+1)):=HL.out.2.2.2.1.next HL.out.2.2.2.2.1 (by have:=HL.out.2.2.2.2.2;rw[ebn]at this;exact this)
                  go_wp2
                  go_roundw
                  case rel=>exact⟨L,i+1,gl,cl,rfl,by go_num,by omega,hLn,HL.out.1,HL.out.2.1,HL.out.2.2.1,HN.out⟩
                  case measure=>simp[intOf];omega
            . obtain rfl:i=L.length:=by omega
              have HLF:Hid (∀x,(h::L).contains x=Lf h x):=fun x=>by
                rw[Bool.eq_iff_iff,HL.out.2.1.iff HL.out.2.2.1 HL.out.2.2.2 x,H.out.2.2.2.2 x]
              go_upto_region 31 with fail
              obtain⟨w2,hw2⟩:∃W,W=wr:=⟨_,rfl⟩
              subst hw2
              have HL4:Hid (L4 w w2 w2 n h (w.heap.size+1) gi (.slice aB B.length cB) (.slice none 0 0) [] (Lf h)):=by
                have bk:=HL.out.1.blk HM.out.blk (Ne.symm hgi)
                refine⟨HL.out.1.blk HM.out.res (Ne.symm hgr),bk,HL.out.1.inn.congr fun j _=>HLF.out j,World.ownsRow_nil _ _ _ _,fun k hk _=>rfl,HL.out.1.bel,Nat.le_refl _,bk.lt⟩
              have HBR:Hid (OwN w2 w.heap.size (.slice aB B.length cB) B):=by
                obtain⟨_,cur,h1⟩:=own_blk HM.out.inn
                exact HM.out.back.fx HL.out.1.fx (type_apart HM.out.back h1 (by decide))
              have HNE:Hid (∀gg,(Value.slice aB B.length cB).ownBlock=some gg->gg≠w.heap.size+1/\gg≠w.heap.size):=fun gg hgg=>⟨HBR.out.ne_blk HL4.out.blk (by decide) gg hgg,HBR.out.ne_blk HL4.out.res (by decide) gg hgg⟩
              clear HL HM HBK HLF hiL hLn hlt3
              go_wp2
              go_loopw [16] (fun i wr=>∃(b:Nat) (KV:Value),b<=n/\i=.int .i64 b/\(B.length=0->b=0)/\Hid (L4 w w2 wr n h (w.heap.size+1) gi (.slice aB B.length cB) KV ((List.range b).filter (Lf h)) (Lf h))) (fun i _=>n-(intOf i).toNat)
              case atStart=>exact⟨0,_,by omega,rfl,fun _=>rfl,HL4⟩
              case round=>
                clear HL4
                obtain⟨b,KV,hb,rfl,hb0,HL⟩:=hrel
                have t1:wr.cell? ⟨w.heap.size+1,1,none⟩=some (.slice aB B.length cB):=HL.out.blk.cell 1
                by_cases hgo:b<n/\0<B.length
                . obtain⟨hlt,hp⟩:=hgo
                  have hltI:(b:Int)<(n:Int):=by omega
                  have hpI:(0:Int)<(B.length:Int):=by omega
                  have s0:=HL.out.inn.cell hlt
                  cases hc:Lf h b
                  . rw[hc]at s0
                    have HN:Hid (L4 w w2 wr n h (w.heap.size+1) gi (.slice aB B.length cB) KV ((List.range (b+1)).filter (Lf h)) (Lf h)):=by
                      show L4 _ _ _ _ _ _ _ _ _ _ _
                      rw[List.range_succ,List.filter_append]
                      simp only[List.filter_cons,hc,List.filter_nil,Bool.false_eq_true,if_false,List.append_nil]
                      exact HL.out
                    go_wp2
                    go_roundw
                    case rel=>exact⟨b+1,KV,by omega,by go_num,fun q=>by omega,HN⟩
                    case measure=>simp[intOf];omega
                  . rw[hc]at s0
                    obtain⟨aK,cK,rfl⟩:=own_slice HL.out.row
                    have hlK:((List.range b).filter (Lf h)).length<=1024:=by
                      have:=List.length_filter_le (Lf h) (List.range b)
                      simp only[List.length_range]at this
                      omega
                    generalize hLL:(List.range b).filter (Lf h)=K at HL hlK
                    have HK:Hid ((List.range b).filter (Lf h)=K):=hLL
                    clear hLL
                    go_upto_region 35 with fail
                    refine wp_world (fun u=>Hid (L4 w w2 u n h (w.heap.size+1) gi (.slice aB B.length cB) (.slice aK K.length cK) K (Lf h))) HL ?_
                    intro U HU
                    clear s0 t1 HL
                    have t2:U.cell? ⟨w.heap.size+1,2,none⟩=some (.slice aK K.length cK):=HU.out.blk.cell 2
                    go_wp2_with (at_builtin;refine wpList_append_lies _ rfl _ _ 48 rfl w2.heap.size 2 k0 (.int .i64 0) 1 8 Tryz.underlying48 hk hx0 hx1 hx2 rfl (by decide) _ K.length (nv K) rfl (HU.out.al (.cells #[.int .i64 (b:Int)] 2)).1 ⟨U.heap.size,0,none⟩ 1 1 [.int .i64 (b:Int)] rfl rfl (one_cell U (b:Int)) (fun u hu=>by simp at hu;subst hu;rfl) (by omega) (by simp[maxLen];omega) (by omega) (HU.out.al (.cells #[.int .i64 (b:Int)] 2)).2 _ rfl ?_;intro g5 cap5 w5 hown hgrow hat hlt9;obtain⟨kb5,l5⟩:=HU.out.app (Nat.lt_succ_self _) hown hgrow;have HU5:Hid (L4 w w2 (w5.setCell ⟨w.heap.size+1,2,none⟩ (.slice (some ⟨g5,0,none⟩) (K.length+1) cap5)) n h (w.heap.size+1) gi (.slice aB B.length cB) (.slice (some ⟨g5,0,none⟩) (K.length+1) cap5) (K++[b]) (Lf h)):=l5;have t5:w5.cell? ⟨w.heap.size+1,2,none⟩=some (.slice aK K.length cK):=kb5.cell 2;have z5:=kb5.frozen 2;clear hown hgrow hat hlt9 kb5 l5)
                    have HN:Hid (L4 w w2 (w5.setCell ⟨w.heap.size+1,2,none⟩ (.slice (some ⟨g5,0,none⟩) (K.length+1) cap5)) n h (w.heap.size+1) gi (.slice aB B.length cB) (.slice (some ⟨g5,0,none⟩) (K.length+1) cap5) ((List.range (b+1)).filter (Lf h)) (Lf h)):=by
                      show L4 _ _ _ _ _ _ _ _ _ _ _
                      rw[List.range_succ,List.filter_append,HK.out]
                      simp only[List.filter_cons,hc,List.filter_nil,if_true]
                      exact HU5.out
                    go_roundw
                    case rel=>exact⟨b+1,_,by omega,by go_num,fun q=>by omega,HN⟩
                    case measure=>simp[intOf];omega
                . have HN:Hid (L4 w w2 wr n h (w.heap.size+1) gi (.slice aB B.length cB) KV ((List.range b).filter (Lf h)) (Lf h)/\OwN wr w.heap.size (.slice aB B.length cB) B/\(B≠[]->b=n)):=by
                    refine⟨HL.out,HBR.out.fx HL.out.fx fun gg hgg=>(HNE.out gg hgg).1,fun q=> ?_⟩
                    have:=List.length_pos_iff.2 q
                    omega
                  obtain⟨aK,cK,rfl⟩:=own_slice HL.out.row
                  have t0:wr.cell? ⟨w.heap.size+1,0,none⟩=some (.int .i64 (h:Int)):=HL.out.blk.cell 0
                  have t2:wr.cell? ⟨w.heap.size+1,2,none⟩=some (.slice aK ((List.range b).filter (Lf h)).length cK):=HL.out.blk.cell 2
                  have r0:wr.cell? ⟨w.heap.size,0,none⟩=some (.int .i64 0):=HL.out.res.cell 0
                  have r1:wr.cell? ⟨w.heap.size,1,none⟩=some (.slice none 0 0):=HL.out.res.cell 1
                  have r2:wr.cell? ⟨w.heap.size,2,none⟩=some (.slice none 0 0):=HL.out.res.cell 2
                  have f0:=HL.out.res.frozen 0
                  have f1:=HL.out.res.frozen 1
                  have f2:=HL.out.res.frozen 2
                  clear HL
                  by_cases hbn:b<n
                  . have hltI:(b:Int)<(n:Int):=by omega
                    have hpI:¬(0:Int)<(B.length:Int):=by omega
                    go_wp2_with fail
                    have R0:=HN.out.1.res.set 0 (.int .i64 (h:Int))
                    have R1:=R0.set 1 (.slice aB B.length cB)
                    have R2:=R1.set 2 (.slice aK ((List.range b).filter (Lf h)).length cK)
                    have q0:=R2.cell 0
                    have q1:=R2.cell 1
                    have q2:=R2.cell 2
                    simp at q0 q1 q2
                    refine bodyPost_ret (v:=.agg #[.int .i64 (h:Int),.slice aB B.length cB,.slice aK ((List.range b).filter (Lf h)).length cK]) (by simp[results,Tryz.results70,go_sem,q0,q1,q2]) rfl ⟨_,_,rfl,?_,?_,?_,?_,_,_,_,rfl⟩
                    . rw[<-HB.out.1]
                      have n0:∀i:Nat,(Value.slice aB B.length cB).ownBlock≠some (⟨w.heap.size,i,none⟩:Addr).block:=fun i q=>(HNE.out _ q).2 rfl
                      exact ownsRow_setCell_other (ownsRow_setCell_other (ownsRow_setCell_other HN.out.2.1 (n0 0) _) (n0 1) _) (n0 2) _
                    . intro hq
                      rw[<-HB.out.1]at hq
                      obtain rfl:=HN.out.2.2 hq
                      refine own_lower (base:=w2.heap.size) ?_ (by have:=HN.out.1.blt;omega)
                      have n0:∀i:Nat,(Value.slice aK ((List.range b).filter (Lf h)).length cK).ownBlock≠some (⟨w.heap.size,i,none⟩:Addr).block:=fun i q=>by
                        have h1:=(HN.out.1.row.lt _ q).1
                        have h2:=HN.out.1.blt
                        simp only[]at h1
                        omega
                      exact ownsRow_setCell_other (ownsRow_setCell_other (ownsRow_setCell_other HN.out.1.row (n0 0) _) (n0 1) _) (n0 2) _
                    . exact((HN.out.1.bel.setCell (Nat.le_refl _) _).setCell (Nat.le_refl _) _).setCell (Nat.le_refl _) _
                    . intro gg h1 h2
                      have h3:=(HBR.out.lt gg h1).2
                      have h4:=(HN.out.1.row.lt gg h2).1
                      omega
                  . have hltI:¬(b:Int)<(n:Int):=by omega
                    go_wp2_with fail
                    have R0:=HN.out.1.res.set 0 (.int .i64 (h:Int))
                    have R1:=R0.set 1 (.slice aB B.length cB)
                    have R2:=R1.set 2 (.slice aK ((List.range b).filter (Lf h)).length cK)
                    have q0:=R2.cell 0
                    have q1:=R2.cell 1
                    have q2:=R2.cell 2
                    simp at q0 q1 q2
                    refine bodyPost_ret (v:=.agg #[.int .i64 (h:Int),.slice aB B.length cB,.slice aK ((List.range b).filter (Lf h)).length cK]) (by simp[results,Tryz.results70,go_sem,q0,q1,q2]) rfl ⟨_,_,rfl,?_,?_,?_,?_,_,_,_,rfl⟩
                    . rw[<-HB.out.1]
                      have n0:∀i:Nat,(Value.slice aB B.length cB).ownBlock≠some (⟨w.heap.size,i,none⟩:Addr).block:=fun i q=>(HNE.out _ q).2 rfl
                      exact ownsRow_setCell_other (ownsRow_setCell_other (ownsRow_setCell_other HN.out.2.1 (n0 0) _) (n0 1) _) (n0 2) _
                    . intro hq
                      rw[<-HB.out.1]at hq
                      obtain rfl:=HN.out.2.2 hq
                      refine own_lower (base:=w2.heap.size) ?_ (by have:=HN.out.1.blt;omega)
                      have n0:∀i:Nat,(Value.slice aK ((List.range b).filter (Lf h)).length cK).ownBlock≠some (⟨w.heap.size,i,none⟩:Addr).block:=fun i q=>by
                        have h1:=(HN.out.1.row.lt _ q).1
                        have h2:=HN.out.1.blt
                        simp only[]at h1
                        omega
                      exact ownsRow_setCell_other (ownsRow_setCell_other (ownsRow_setCell_other HN.out.1.row (n0 0) _) (n0 1) _) (n0 2) _
                    . exact((HN.out.1.bel.setCell (Nat.le_refl _) _).setCell (Nat.le_refl _) _).setCell (Nat.le_refl _) _
                    . intro gg h1 h2
                      have h3:=(HBR.out.lt gg h1).2
                      have h4:=(HN.out.1.row.lt gg h2).1
                      omega
end Go.Proofs.YtdfmdgbolmbffaaGreat
