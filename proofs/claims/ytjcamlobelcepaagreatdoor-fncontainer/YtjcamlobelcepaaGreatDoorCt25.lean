import Derived.Test.YtjcamlobelcepaaGreatDoorCt24
namespace Go.Proofs.YtjcamlobelcepaaGreatDoor
open Go.ChangeShapes Go.WideShapes Go.ChangeAt Go.RowKit
set_option linter.unusedVariables false
set_option maxHeartbeats 4000000
set_option maxRecDepth 100000
theorem Bs.kt{w u:World}{s:CR}{p:Int}{v:VP}{F:List (List Int×Value)}{cs:List MC}{G:List (MF×VF)}{ts:List MT}{D:List As}(h:Bs w u s p (Ai v F cs G ts D)){q:Nat}{x:MC}(hq:cs[q]?=some x):∃gt ct,v.k=sG gt cs.length ct/\u.cell? ⟨gt,q*2,none⟩=some (iZ x.type)/\u.cell? ⟨gt,q*2+1,none⟩=some (.int .u32 x.word):=by
 have hlt:=(aE.1 hq).1;have o4:=h.prow.2.2.1;rcases Ci o4 with⟨e,h0⟩|⟨gt,ct,e⟩
 . omega
 rw[e]at o4
 have hh:∀j,j<2->u.cell? ⟨gt,q*2+j,none⟩=x.cells[j]?:=fun j hj=>by
  rw[bF o4 (q*2+j) (by omega),C8 MC.cells 2 MC.cells_length cs q j x hq hj]
 exact⟨gt,ct,e,hh 0 (by omega),hh 1 (by omega)⟩
theorem LG(w u:World)(s:CR)(k:GK)(p:Int)(v:VP)(vc:Value)(g:Gn)(left lv:Int)(D:List As)(t z:Int)(h:SM w u s k p v vc g left lv D)(hl:g.consts.length<=64)(hb:∃x∈g.consts,x.type=t):
 Calls Tryz.prog 90 #[.pointer (some ⟨k.Gb,0,none⟩),iZ t,.int .u32 z] u fun e u'=>∃r:Nat,e=.returned (iZ (r:Int))/\∃v' cs,SM w u' s k p v' vc ⟨g.code,cs,g.certs⟩ left lv D/\r<cs.length/\(cs=g.consts\/cs=g.consts++[⟨t,z⟩]/\g.consts.length<64):=by
 obtain⟨iC,hi,hC0,hC1,hC2⟩:=bJ QI;obtain⟨⟨a1,c1,a2,c2,a3,c3,a4,c4,e1⟩,_⟩:=h.bl.prow;subst e1;have H:=Af h;have HB:=Af hb;obtain⟨_,q0,_,_,_,_⟩:=h.cells;obtain⟨_,p1,_,_⟩:=h.pcells;clear h hb;simp only[]at p1;generalize hn:g.consts.length=n at H p1 hl⊢;have HN:=Af hn;clear hn;go_enter Tryz.func90,Tryz.ntmps90;go_wp2_with fail
 go_loopw [7] (fun i wr=>∃j:Nat,j<=n/\i=iZ j/\wr=u) (fun i _=>n-(intOf i).toNat)
 case atStart=>exact⟨0,by omega,rfl,rfl⟩
 case round=>
  obtain⟨j,hj,rfl,rfl⟩:=hrel;by_cases hlt:j<n
  case pos=>
   obtain⟨x,hx⟩:∃x,g.consts[j]?=some x:=⟨_,aA (by rw[HN.o];exact hlt)⟩;obtain⟨gt,ct,et,j0,j1⟩:=H.o.bl.kt hx;simp only[aI,HN.o,ao]at et;obtain⟨rfl,rfl⟩:=et;have hltI:(j:Int)<(n:Int):=by omega
   cases ht:(x.type==t)
   case false=>
    go_wp2_with fail
    go_roundw
    case rel=>exact⟨j+1,by omega,by go_num,trivial⟩
    case measure=>simp[intOf];omega
   cases hw:(x.word==z)
   case false=>
    go_wp2_with fail
    go_roundw
    case rel=>exact⟨j+1,by omega,by go_num,trivial⟩
    case measure=>simp[intOf];omega
   go_wp2_with fail
   go_ret
   exact⟨j,rfl,_,_,H.o,by show j<g.consts.length;rw[HN.o];exact hlt,.inl rfl⟩
  by_cases h64:n=64
  case pos=>
   have h64':((n:Int)==64)=true:=by simp;omega
   have HN64:=Af h64;clear h64;go_wp2_with fail
   go_loopw [8] (fun i wr'=>∃j:Nat,j<=n/\i=iZ j/\wr'=wr/\Hid (∀i x,i<j->g.consts[i]?=some x->¬x.type=t)) (fun i _=>n-(intOf i).toNat)
   case atStart=>exact⟨0,by omega,rfl,rfl,fun i x h=>absurd h (Nat.not_lt_zero _)⟩
   case round=>
    obtain⟨j,hj,rfl,rfl,HJ⟩:=hrel;by_cases hlt:j<n
    case neg=>
     exfalso
     obtain⟨x,hx,e⟩:=HB.o;obtain⟨i,hi⟩:=bt hx;exact HJ.o i x (by have:=(aE.1 hi).1;rw[HN.o]at this;omega) hi e
    obtain⟨x,hx⟩:∃x,g.consts[j]?=some x:=⟨_,aA (by rw[HN.o];exact hlt)⟩;obtain⟨gt,ct,et,j0,j1⟩:=H.o.bl.kt hx;simp only[aI,HN.o,ao]at et;obtain⟨rfl,rfl⟩:=et;have hltI:(j:Int)<(n:Int):=by omega
    have HX:=Af hx;clear hx;cases ht:(x.type==t)
    case false=>
     go_wp2_with fail
     go_roundw
     case rel=>exact⟨j+1,by omega,by go_num,trivial,fun i y hi hy=>by
      by_cases e:i=j
      . subst e
        rw[HX.o]at hy;cases hy
        simpa using ht
      . exact HJ.o i y (by omega) hy⟩
     case measure=>simp[intOf];omega
    go_wp2_with fail
    go_ret
    exact⟨j,rfl,_,_,H.o,by show j<g.consts.length;rw[HN.o];exact hlt,.inl rfl⟩
  have h64':((n:Int)==64)=false:=by simp;omega
  go_upto_region 12 with fail
  refine Bh 18 (S:=fun W=>W.cell? ⟨k.Gb,1,none⟩=some (.pointer (some ⟨k.P,0,none⟩))/\W.cell? ⟨k.P,1,none⟩=some (.slice a2 n c2)) (by kernel_rfl) ⟨(H.o.keep (Ae _)).cells.2.1,(H.o.keep (Ae _)).pcells.2.1⟩ (fun hHeld=> ?_)
  have D0:=Af (H.o.keep (Ae _));clear p1;generalize wr.drew=UD at D0 hHeld⊢;refine BH 0 ?_;refine BH 1 ?_;refine BH 2 ?_;refine BH 3 ?_;refine BH 4 ?_;refine BH 5 ?_;refine BH 6 ?_;refine BH 7 ?_;refine BH 8 ?_;refine BH 9 ?_;refine BH 10 ?_;refine BH 11 ?_;refine BH 12 ?_;refine BH 13 ?_;refine LS 14 ?_;intro KC hKC;go_simp;have D3:Hid (SM w (UD.alloc (.cells #[iZ t,.int .u32 z] 53)) s k p ⟨.slice a1 k.F.length c1,.slice a2 n c2,.slice a3 k.G.length c3,.slice a4 g.certs.length c4⟩ vc g left lv D):=D0.o.keep (Aa _ _);have O3:=Af ((by have:=D3.o.bl.prow.2.2.1;rw[HN.o]at this;exact this));refine hKC.o _ _ (fun _=>⟨D3.o.cells.2.1,D3.o.pcells.2.1⟩) (fun hH=> ?_);clear hKC KC;have hHeld:=hH (by decide);refine LS 15 ?_;intro KC hKC;refine step_append_lies _ rfl (.tmp 95) (.tmp 99) 24 rfl w.heap.size 53 iC (.agg #[iZ 0,.int .u32 0]) 2 16 Tryz.underlying24 hi hC0 hC1 hC2 rfl (by decide) (.slice a2 n c2) n (g.consts.flatMap MC.cells) (by simp[Act.eval]) O3.o ⟨UD.heap.size,0,none⟩ 1 1 [iZ t,.int .u32 z] (by simp[Act.eval]) rfl (De UD [iZ t,.int .u32 z] 53) (by intro u hu;simp at hu;rcases hu with rfl|rfl<;>rfl) (by omega) (by unfold maxLen;omega) (by omega) D3.o.bl.size _ rfl ?_
  intro gg cap u8 hown hgrow hat _;have D4:=Af (D3.o.push_c ⟨t,z⟩ (sG gg (n+1) cap) (by rw[HN.o];exact hown) hgrow (DO hat));have y0:=D4.o.2.1.1;have y1:=D4.o.2.1.2;clear hown hgrow hat O3 D3;refine hKC.o _ _ (fun _=>⟨D4.o.2.2.1,y0⟩) (fun hH=> ?_);clear hKC KC;have hHeld:=hH (by decide);refine BH 16 ?_;refine BH 17 ?_;refine LS 18 ?_;intro KC hKC;go_simp;refine hKC.o _ _ (fun h=>absurd h (by decide)) (fun hH=> ?_);clear hKC KC hH hHeld;refine Cj (by kernel_rfl) ?_ _;have D5:Hid _:=D4.o.1;generalize u8.setCell ⟨k.P,1,none⟩ (sG gg (n+1) cap)=W5 at D5⊢;clear D4 y0 y1 q0 D0;obtain⟨_,z0,_,_,_,_⟩:=D5.o.cells;obtain⟨_,z1,_,_⟩:=D5.o.pcells;simp only[]at z1;go_wp2_with fail;go_ret;exact⟨n,by simp,_,_,D5.o,by simp only[aH,HN.o,aP];omega,.inr ⟨rfl,by omega⟩⟩
theorem SS{w u:World}{s:CR}{k:GK}{p left lv:Int}{nt:Nat}{D:List As}(E:Hid (GS w u s k p left lv nt D)){t z:Int}(ht:Ty t)(hz:0<=z/\z<4294967296)(hb:t=1->z<=1):
 Calls Tryz.prog 90 #[.pointer (some ⟨k.Gb,0,none⟩),iZ t,.int .u32 z] u fun e u'=>∃r:Nat,e=.returned (iZ (r:Int))/\Hid (GSC w u' s k p left lv nt D r):=by
 obtain⟨v,vc,g,h1,h2⟩:=E.o.ex;refine(LG w u s k p v vc g left lv D t z h1 h2.nc (h2.bk t ht)).mono ?_;rintro e u' ⟨r,rfl,v',cs,h3,hr,rfl|⟨rfl,hn⟩⟩
 . exact⟨r,rfl,E.o.ok,v',vc,_,h3,h2,hr⟩
 . exact⟨r,rfl,E.o.ok,v',vc,_,h3,h2.cst (cs:=[]) ⟨⟨ht.w,LZ hz.1 hz.2⟩,ht.is,hb⟩ hn,hr⟩
end Go.Proofs.YtjcamlobelcepaaGreatDoor
