import Derived.Test.YtjpobijiblcgaaaGreatFw0
import Derived.Test.YtjpobijiblcgaaaGreatFw4
import Derived.Test.YtjpobijiblcgaaaGreatFw6
import Derived.Deep.RegionHeld
namespace Go.Proofs.YtjpobijiblcgaaaGreat
open Go.ChangeShapes Go.WideShapes Go.ChangeAt Go.RowKit
set_option linter.unusedVariables false
set_option maxHeartbeats 4000000
set_option maxRecDepth 100000
theorem J5(w u:World)(s:Cv)(k:GK)(p:Int)(v:VP)(vc:Value)(g:Gn)(left lv:Int)(D:List Av)(t z:Int)(h:SM w u s k p v vc g left lv D)(hl:g.consts.length<=1000000):
 Calls Tryz.prog 92 #[.pointer (some ⟨k.Gb,0,none⟩),iZ t,.int .u32 z] u fun e u'=>∃r:Nat,e=.returned (iZ (r:Int))/\r<=1000000/\∃v' cs,SM w u' s k p v' vc ⟨g.code,cs,g.certs⟩ left lv D/\(cs=g.consts\/cs=g.consts++[⟨t,z⟩]):=by
 obtain⟨iC,hi,hC0,hC1,hC2⟩:=bH OC;obtain⟨⟨a1,c1,a2,c2,a3,c3,a4,c4,e1⟩,_⟩:=h.bl.prow;subst e1;have H:=Ah h;obtain⟨_,q0,_,_,_,_⟩:=h.cells;obtain⟨_,p1,_,_⟩:=h.pcells;clear h;simp only[]at p1;generalize hn:g.consts.length=n at H p1 hl⊢;have HN:=Ah hn;clear hn;go_enter Tryz.func92,Tryz.ntmps92;go_wp2_with fail
 go_loopw [7] (fun i wr=>∃j:Nat,j<=n/\i=iZ j/\wr=u) (fun i _=>n-(intOf i).toNat)
 case atStart=>exact⟨0,by omega,rfl,rfl⟩
 case round=>
  obtain⟨j,hj,rfl,rfl⟩:=hrel;by_cases hlt:j<n
  case pos=>
   obtain⟨x,hx⟩:∃x,g.consts[j]?=some x:=⟨_,aA (by rw[HN.o];exact hlt)⟩;have hr:=Rd.of_own H.o.bl.prow.2.2.1;rw[HN.o]at hr
   obtain⟨gk,ok,ck,ek,hck⟩:∃gk ok ck,(Value.slice a2 n c2)=sO gk ok n ck/\∀j u',(g.consts.flatMap MC.cells)[j]?=some u'->wr.cell? ⟨gk,ok+j,none⟩=some u':=by
    rcases hr.2 with⟨e,_⟩|⟨gk,ok,ck,ek,hck⟩
    . omega
    . exact⟨gk,ok,ck,ek,hck⟩
   simp only[aI,bU]at ek;obtain⟨rfl,rfl⟩:=ek;have j0:=Rd.elem MC.cells_length hck j x hx 0 _ rfl;have j1:=Rd.elem MC.cells_length hck j x hx 1 _ rfl;rw[aw]at j0;clear hck hr hx;have hltI:(j:Int)<(n:Int):=by omega
   cases ht:(x.type==t)
   case false=>
    go_wp2_with fail
    go_roundw
    case rel=>exact⟨j+1,by omega,by go_num,trivial⟩
    case measure=>simp[intOf];omega
   case true=>
    cases hw:(x.word==z)
    case false=>
     go_wp2_with fail
     go_roundw
     case rel=>exact⟨j+1,by omega,by go_num,trivial⟩
     case measure=>simp[intOf];omega
    case true=>
     go_wp2_with fail
     go_ret
     exact⟨j,rfl,by omega,_,_,H.o,.inl rfl⟩
  by_cases h64:n=64
  case neg=>
   have h64':((n:Int)==64)=false:=by simp;omega
   go_upto_region 12 with fail
   refine wp_region_held_drew (S:=fun W=>W.cell? ⟨k.Gb,1,none⟩=some (.pointer (some ⟨k.P,0,none⟩))) (by kernel_rfl) (by exact(H.o.keep (Ad _)).cells.2.1) (fun hHeld=> ?_);have D0:=Ah (H.o.keep (Ad _));clear p1;generalize wr.drew=UD at D0 hHeld⊢;have q1:UD.cell? ⟨k.P,1,none⟩=some (.slice a2 n c2):=D0.o.pcells.2.1;refine Ak 0 ?_;refine Ak 1 ?_;refine Ak 2 ?_;refine Ak 3 ?_;refine Ak 4 ?_;refine Ak 5 ?_;refine Ak 6 ?_;refine Ak 7 ?_;refine Ak 8 ?_;refine Ak 9 ?_;refine Ak 11 ?_;refine Ak 12 ?_;refine Ak 13 ?_;refine wpAnyH_ready (rs:=[10,14]) (by kernel_rfl) (by simp) ?_;refine AllReadyH.cons rfl (fun KC hKC=> ?_) (AllReadyH.cons rfl (fun KC hKC=> ?_) AllReadyH.nil)
   focus
    go_simp;refine hKC.o _ _ (by assumption) (fun hHeld=> ?_);clear hKC KC;refine rdH 14 ?_;intro KC hKC;go_simp;have D3:Hid (SM w (UD.alloc (.cells #[iZ t,.int .u32 z] 102)) s k p ⟨.slice a1 k.F.length c1,.slice a2 n c2,.slice a3 k.G.length c3,.slice a4 g.certs.length c4⟩ vc g left lv D):=D0.o.keep (Aa _ _);have O3:=Ah ((by have:=D3.o.bl.prow.2.2.1;rw[HN.o]at this;exact this));have q3:(UD.alloc (.cells #[iZ t,.int .u32 z] 102)).cell? ⟨k.P,1,none⟩=some (.slice a2 n c2):=D3.o.pcells.2.1;refine hKC.o _ _ (by exact D3.o.cells.2.1) (fun hHeld=> ?_);clear hKC KC;refine rdH 15 ?_;intro KC hKC;refine step_append_lies _ rfl (.tmp 95) (.tmp 99) 61 rfl w.heap.size 102 iC (.agg #[iZ 0,.int .u32 0]) 2 16 Tryz.underlying61 hi hC0 hC1 hC2 rfl (by decide) (.slice a2 n c2) n (g.consts.flatMap MC.cells) (by simp[Act.eval]) O3.o ⟨UD.heap.size,0,none⟩ 1 1 [iZ t,.int .u32 z] (by simp[Act.eval]) rfl (Bn UD [iZ t,.int .u32 z] 102) (by intro u hu;simp at hu;rcases hu with rfl|rfl<;>rfl) (by omega) (by unfold maxLen;omega) (by omega) D3.o.bl.size _ rfl ?_;intro gg cap u8 hown hgrow hat _;have D4:=Ah (D3.o.push_c ⟨t,z⟩ (sG gg (n+1) cap) (by rw[HN.o];exact hown) hgrow (BH hat));have y0:=D4.o.2.1.1
    have y1:=D4.o.2.1.2;clear hown hgrow hat O3 D3 q1 q3;refine hKC.o _ _ (by exact D4.o.2.2.1) (fun hHeld=> ?_);clear hKC KC;refine Ak 16 ?_;refine Ak 17 ?_;refine rdH 18 ?_;intro KC hKC;go_simp;refine hKC.o _ _ (by exact D4.o.2.2.2) (fun hHeld=> ?_);clear hKC KC;refine wpAnyH_done (by kernel_rfl) ?_ _;clear hHeld;have D5:Hid _:=D4.o.1;generalize u8.setCell ⟨k.P,1,none⟩ (sG gg (n+1) cap)=W5 at D5⊢;clear D4 y0 y1 q0 D0;obtain⟨_,z0,_,_,_,_⟩:=D5.o.cells;obtain⟨_,z1,_,_⟩:=D5.o.pcells;simp only[]at z1;go_wp2_with fail
    go_ret
    exact⟨n,by simp,by omega,_,_,D5.o,.inr rfl⟩
   focus
    go_simp;have D3:Hid (SM w (UD.alloc (.cells #[iZ t,.int .u32 z] 102)) s k p ⟨.slice a1 k.F.length c1,.slice a2 n c2,.slice a3 k.G.length c3,.slice a4 g.certs.length c4⟩ vc g left lv D):=D0.o.keep (Aa _ _);have O3:=Ah ((by have:=D3.o.bl.prow.2.2.1;rw[HN.o]at this;exact this));have q3:(UD.alloc (.cells #[iZ t,.int .u32 z] 102)).cell? ⟨k.P,1,none⟩=some (.slice a2 n c2):=D3.o.pcells.2.1;refine hKC.o _ _ (by exact D3.o.cells.2.1) (fun hHeld=> ?_);clear hKC KC;refine rdH 10 ?_;intro KC hKC;go_simp;refine hKC.o _ _ (by assumption) (fun hHeld=> ?_);clear hKC KC;refine rdH 15 ?_;intro KC hKC;refine step_append_lies _ rfl (.tmp 95) (.tmp 99) 61 rfl w.heap.size 102 iC (.agg #[iZ 0,.int .u32 0]) 2 16 Tryz.underlying61 hi hC0 hC1 hC2 rfl (by decide) (.slice a2 n c2) n (g.consts.flatMap MC.cells) (by simp[Act.eval]) O3.o ⟨UD.heap.size,0,none⟩ 1 1 [iZ t,.int .u32 z] (by simp[Act.eval]) rfl (Bn UD [iZ t,.int .u32 z] 102) (by intro u hu;simp at hu;rcases hu with rfl|rfl<;>rfl) (by omega) (by unfold maxLen;omega) (by omega) D3.o.bl.size _ rfl ?_;intro gg cap u8 hown hgrow hat _;have D4:=Ah (D3.o.push_c ⟨t,z⟩ (sG gg (n+1) cap) (by rw[HN.o];exact hown) hgrow (BH hat));have y0:=D4.o.2.1.1
    have y1:=D4.o.2.1.2;clear hown hgrow hat O3 D3 q1 q3;refine hKC.o _ _ (by exact D4.o.2.2.1) (fun hHeld=> ?_);clear hKC KC;refine Ak 16 ?_;refine Ak 17 ?_;refine rdH 18 ?_;intro KC hKC;go_simp;refine hKC.o _ _ (by exact D4.o.2.2.2) (fun hHeld=> ?_);clear hKC KC;refine wpAnyH_done (by kernel_rfl) ?_ _;clear hHeld;have D5:Hid _:=D4.o.1;generalize u8.setCell ⟨k.P,1,none⟩ (sG gg (n+1) cap)=W5 at D5⊢;clear D4 y0 y1 q0 D0;obtain⟨_,z0,_,_,_,_⟩:=D5.o.cells;obtain⟨_,z1,_,_⟩:=D5.o.pcells;simp only[]at z1;go_wp2_with fail
    go_ret
    exact⟨n,by simp,by omega,_,_,D5.o,.inr rfl⟩
  case pos=>
   have h64':((n:Int)==64)=true:=by simp;omega
   have HN64:=Ah h64;clear h64;go_wp2_with fail
   go_loopw [8] (fun i wr'=>∃j:Nat,j<=n/\i=iZ j/\wr'=wr) (fun i _=>n-(intOf i).toNat)
   case atStart=>exact⟨0,by omega,rfl,rfl⟩
   case round=>
    obtain⟨j,hj,rfl,rfl⟩:=hrel;by_cases hlt:j<n
    case pos=>
     obtain⟨x,hx⟩:∃x,g.consts[j]?=some x:=⟨_,aA (by rw[HN.o];exact hlt)⟩;have hr:=Rd.of_own H.o.bl.prow.2.2.1;rw[HN.o]at hr
     obtain⟨gk,ok,ck,ek,hck⟩:∃gk ok ck,(Value.slice a2 n c2)=sO gk ok n ck/\∀j u',(g.consts.flatMap MC.cells)[j]?=some u'->wr.cell? ⟨gk,ok+j,none⟩=some u':=by
      rcases hr.2 with⟨e,_⟩|⟨gk,ok,ck,ek,hck⟩
      . omega
      . exact⟨gk,ok,ck,ek,hck⟩
     simp only[aI,bU]at ek;obtain⟨rfl,rfl⟩:=ek;have j0:=Rd.elem MC.cells_length hck j x hx 0 _ rfl;have j1:=Rd.elem MC.cells_length hck j x hx 1 _ rfl;rw[aw]at j0;clear hck hr hx;have hltI:(j:Int)<(n:Int):=by omega
     cases ht:(x.type==t)
     case false=>
      go_wp2_with fail
      go_roundw
      case rel=>exact⟨j+1,by omega,by go_num,trivial⟩
      case measure=>simp[intOf];omega
     case true=>
      go_wp2_with fail
      go_ret
      exact⟨j,rfl,by omega,_,_,H.o,.inl rfl⟩
    go_upto_region 12 with fail
    refine wp_region_held_drew (S:=fun W=>W.cell? ⟨k.Gb,1,none⟩=some (.pointer (some ⟨k.P,0,none⟩))) (by kernel_rfl) (by exact(H.o.keep (Ad _)).cells.2.1) (fun hHeld=> ?_);have D0:=Ah (H.o.keep (Ad _));clear p1;generalize wr.drew=UD at D0 hHeld⊢;have q1:UD.cell? ⟨k.P,1,none⟩=some (.slice a2 n c2):=D0.o.pcells.2.1;refine Ak 0 ?_;refine Ak 1 ?_;refine Ak 2 ?_;refine Ak 3 ?_;refine Ak 4 ?_;refine Ak 5 ?_;refine Ak 6 ?_;refine Ak 7 ?_;refine Ak 8 ?_;refine Ak 9 ?_;refine Ak 11 ?_;refine Ak 12 ?_;refine Ak 13 ?_;refine wpAnyH_ready (rs:=[10,14]) (by kernel_rfl) (by simp) ?_;refine AllReadyH.cons rfl (fun KC hKC=> ?_) (AllReadyH.cons rfl (fun KC hKC=> ?_) AllReadyH.nil)
    focus
     go_simp;refine hKC.o _ _ (by assumption) (fun hHeld=> ?_);clear hKC KC;refine rdH 14 ?_;intro KC hKC;go_simp;have D3:Hid (SM w (UD.alloc (.cells #[iZ t,.int .u32 z] 102)) s k p ⟨.slice a1 k.F.length c1,.slice a2 n c2,.slice a3 k.G.length c3,.slice a4 g.certs.length c4⟩ vc g left lv D):=D0.o.keep (Aa _ _);have O3:=Ah ((by have:=D3.o.bl.prow.2.2.1;rw[HN.o]at this;exact this));have q3:(UD.alloc (.cells #[iZ t,.int .u32 z] 102)).cell? ⟨k.P,1,none⟩=some (.slice a2 n c2):=D3.o.pcells.2.1;refine hKC.o _ _ (by exact D3.o.cells.2.1) (fun hHeld=> ?_);clear hKC KC;refine rdH 15 ?_;intro KC hKC;refine step_append_lies _ rfl (.tmp 95) (.tmp 99) 61 rfl w.heap.size 102 iC (.agg #[iZ 0,.int .u32 0]) 2 16 Tryz.underlying61 hi hC0 hC1 hC2 rfl (by decide) (.slice a2 n c2) n (g.consts.flatMap MC.cells) (by simp[Act.eval]) O3.o ⟨UD.heap.size,0,none⟩ 1 1 [iZ t,.int .u32 z] (by simp[Act.eval]) rfl (Bn UD [iZ t,.int .u32 z] 102) (by intro u hu;simp at hu;rcases hu with rfl|rfl<;>rfl) (by omega) (by unfold maxLen;omega) (by omega) D3.o.bl.size _ rfl ?_;intro gg cap u8 hown hgrow hat _;have D4:=Ah (D3.o.push_c ⟨t,z⟩ (sG gg (n+1) cap) (by rw[HN.o];exact hown) hgrow (BH hat));have y0:=D4.o.2.1.1
     have y1:=D4.o.2.1.2;clear hown hgrow hat O3 D3 q1 q3;refine hKC.o _ _ (by exact D4.o.2.2.1) (fun hHeld=> ?_);clear hKC KC;refine Ak 16 ?_;refine Ak 17 ?_;refine rdH 18 ?_;intro KC hKC;go_simp;refine hKC.o _ _ (by exact D4.o.2.2.2) (fun hHeld=> ?_);clear hKC KC;refine wpAnyH_done (by kernel_rfl) ?_ _;clear hHeld;have D5:Hid _:=D4.o.1;generalize u8.setCell ⟨k.P,1,none⟩ (sG gg (n+1) cap)=W5 at D5⊢;clear D4 y0 y1 q0 D0;obtain⟨_,z0,_,_,_,_⟩:=D5.o.cells;obtain⟨_,z1,_,_⟩:=D5.o.pcells;simp only[]at z1;go_wp2_with fail
     go_ret
     exact⟨n,by simp,by omega,_,_,D5.o,.inr rfl⟩
    focus
     go_simp;have D3:Hid (SM w (UD.alloc (.cells #[iZ t,.int .u32 z] 102)) s k p ⟨.slice a1 k.F.length c1,.slice a2 n c2,.slice a3 k.G.length c3,.slice a4 g.certs.length c4⟩ vc g left lv D):=D0.o.keep (Aa _ _);have O3:=Ah ((by have:=D3.o.bl.prow.2.2.1;rw[HN.o]at this;exact this));have q3:(UD.alloc (.cells #[iZ t,.int .u32 z] 102)).cell? ⟨k.P,1,none⟩=some (.slice a2 n c2):=D3.o.pcells.2.1;refine hKC.o _ _ (by exact D3.o.cells.2.1) (fun hHeld=> ?_);clear hKC KC;refine rdH 10 ?_;intro KC hKC;go_simp;refine hKC.o _ _ (by assumption) (fun hHeld=> ?_);clear hKC KC;refine rdH 15 ?_;intro KC hKC;refine step_append_lies _ rfl (.tmp 95) (.tmp 99) 61 rfl w.heap.size 102 iC (.agg #[iZ 0,.int .u32 0]) 2 16 Tryz.underlying61 hi hC0 hC1 hC2 rfl (by decide) (.slice a2 n c2) n (g.consts.flatMap MC.cells) (by simp[Act.eval]) O3.o ⟨UD.heap.size,0,none⟩ 1 1 [iZ t,.int .u32 z] (by simp[Act.eval]) rfl (Bn UD [iZ t,.int .u32 z] 102) (by intro u hu;simp at hu;rcases hu with rfl|rfl<;>rfl) (by omega) (by unfold maxLen;omega) (by omega) D3.o.bl.size _ rfl ?_;intro gg cap u8 hown hgrow hat _;have D4:=Ah (D3.o.push_c ⟨t,z⟩ (sG gg (n+1) cap) (by rw[HN.o];exact hown) hgrow (BH hat));have y0:=D4.o.2.1.1
     have y1:=D4.o.2.1.2;clear hown hgrow hat O3 D3 q1 q3;refine hKC.o _ _ (by exact D4.o.2.2.1) (fun hHeld=> ?_);clear hKC KC;refine Ak 16 ?_;refine Ak 17 ?_;refine rdH 18 ?_;intro KC hKC;go_simp;refine hKC.o _ _ (by exact D4.o.2.2.2) (fun hHeld=> ?_);clear hKC KC;refine wpAnyH_done (by kernel_rfl) ?_ _;clear hHeld;have D5:Hid _:=D4.o.1;generalize u8.setCell ⟨k.P,1,none⟩ (sG gg (n+1) cap)=W5 at D5⊢;clear D4 y0 y1 q0 D0;obtain⟨_,z0,_,_,_,_⟩:=D5.o.cells;obtain⟨_,z1,_,_⟩:=D5.o.pcells;simp only[]at z1;go_wp2_with fail
     go_ret
     exact⟨n,by simp,by omega,_,_,D5.o,.inr rfl⟩
theorem Ck{w u:World}{s:Cv}{k:GK}{p left lv:Int}{sl:Nat}{D:List Av}(hk:CY k)(h:GS w u s k p left lv sl D)(hl:-800000<=left)(hsl:sl<=1000){t z:Int}(ht:BN t)(hz:Pl z):
 Calls Tryz.prog 92 #[.pointer (some ⟨k.Gb,0,none⟩),iZ t,.int .u32 z] u fun e u'=>∃r:Nat,e=.returned (iZ (r:Int))/\r<=1000000/\GS w u' s k p left lv (sl+1) D:=by
 obtain⟨v,vc,g,h1,h2⟩:=h.ex;have:=h2.len;have:=h2.nc;have:=hk.l0;have:=hk.nc;refine(J5 w u s k p v vc g left lv D t z h1 (by omega)).mono ?_;rintro e u' ⟨r,rfl,hr,v',cs,h3,h4⟩;refine⟨r,rfl,hr,v',vc,_,h3,⟨h2.len,?_,h2.nt,h2.wc,?_,h2.wt⟩⟩
 . rcases h4 with rfl|rfl
   . simp only[];omega
   . simp only[aG,aP];omega
 . rcases h4 with rfl|rfl
   . exact h2.wk
   . intro x hx
     rcases aS.1 hx with e|e
     . exact h2.wk x e
     . rw[am.1 e]
       exact⟨ht,hz⟩
end Go.Proofs.YtjpobijiblcgaaaGreat
