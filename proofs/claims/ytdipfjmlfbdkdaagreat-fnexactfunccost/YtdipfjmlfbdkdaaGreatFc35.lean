import Derived.Test.YtdipfjmlfbdkdaaGreatFc28
namespace Go.Proofs.YtdipfjmlfbdkdaaGreat
open Go.ChangeShapes Go.WideShapes Go.ChangeAt Go.RowKit
set_option linter.unusedVariables false
set_option maxHeartbeats 8000000
set_option maxRecDepth 100000
theorem GF.at2{w u:World}{n:Nat}{x:GV}{E:Nat->List Nat}{O:List Nat}(h:GF w n x E O)(hb:Below w.heap.size w u)(k:Nat)(hk:k<n):∃y:Nat,O[k]?=some y/\y<n/\u.cell? ⟨x.go,x.oo+k,none⟩=some (iZ (y:Int)):=
 ⟨O[k]'(by rw[h.ol];exact hk),aA _,h.ob _ (bq _),Ad hb (h.ord k _ (aA _))⟩
theorem OL.next{E:Nat->List Nat}{O:List Nat}{P:Nat->Bool}{I:List Nat}{C:List Int}{f:Nat}{L0 L:List Int}{ag bd:Bool}{m b:Nat}(h:OL E O P I C f L0 L ag bd m)(hb:O[m]?=some b)(hn:ag=false->bd=false->∀x∈E b,Rb P I C f L0 b x):OL E O P I C f L0 L ag bd (m+1):=fun h1 h2=>by
 obtain⟨e,h3⟩:=h h1 h2;refine⟨e,fun j b' hj hb'=> ?_⟩;by_cases e:j=m
 . subst e
   rw[hb]at hb';cases hb'
   exact hn h1 h2
 . exact h3 j b' (by omega) hb'
theorem Rg.next{eb:List Nat}{P:Nat->Bool}{I:List Nat}{C:List Int}{f:Nat}{L0:List Int}{ag bd:Bool}{b q z:Nat}(h:Rg eb P I C f L0 ag bd b q)(hz:eb[q]?=some z)(hn:ag=false->bd=false->Rb P I C f L0 b z):Rg eb P I C f L0 ag bd b (q+1):=fun h1 h2 j x hj hx=>by
 by_cases e:j=q
 . subst e
   rw[hz]at hx;cases hx
   exact hn h1 h2
 . exact h h1 h2 j x (by omega) hx
theorem D9(G:Nat)(a b:Int)(v0:Value)(u:World)(ha:CW a)(hb:CW b)(h:u.cell? ⟨G,8,none⟩=some v0)(hf:u.frozen? ⟨G,8,none⟩=false):
 Calls Tryz.prog 17 #[.pointer (some ⟨G,0,none⟩),iZ a,iZ b] u fun e u'=>∃c,e=.returned (iZ c)/\CW c/\(u'=u/\c=a+b/\a+b<=4294967295\/u'=u.setCell ⟨G,8,none⟩ (.bool true)/\c=0/\4294967295<a+b):=by
 obtain⟨a1,a2⟩:=ha;obtain⟨b1,b2⟩:=hb;by_cases hc:a+b>4294967295
 . go_enter Tryz.func17,Tryz.ntmps17
   go_wp2
   go_ret
   exact⟨0,rfl,⟨by omega,by omega⟩,.inr ⟨rfl,rfl,hc⟩⟩
 . go_enter Tryz.func17,Tryz.ntmps17
   go_wp2
   go_ret
   exact⟨a+b,rfl,⟨by omega,by omega⟩,by first|exact .inl ⟨rfl,rfl,by omega⟩|(simp<;>omega)⟩
def Ra(w u:World)(G n:Nat)(x:GV)(I:List Nat)(C:List Int)(gn cn:Nat)(P:Nat->Bool)(E:Nat->List Nat)(f:Nat)(bd0:Bool)(e:Ending)(u':World):Prop:=∃gB bad L,e=.returned (sG gB n n)/\Wy w u u' G n x bad I C gn cn P gB L/\WI E n P I C f bd0 bad L/\(bad=false->Ry E n P I C f L)
theorem JH (w u:World)(G n:Nat)(x:GV)(bad:Bool)(I:List Nat)(C:List Int)(E:Nat->List Nat)(O:List Nat)(gn cn f:Nat)(P:Nat->Bool)(h0:n<=1048576)(hf:f<n)(h:Gr w u G n x bad I C)(hF:GF w n x E O)(hi:u.ownsRow w.heap.size 4 1 (sG gn n cn) n (bv P n))(hjo:∀b,Da P n b->jf I b=f->b=f)(hjh:jf I f=f)(hOa:∀b,b<n->∃j:Nat,O[j]?=some b):
 Calls Tryz.prog 23 #[.pointer (some ⟨G,0,none⟩),iZ (f:Int),sG gn n cn] u (Ra w u G n x I C gn cn P E f bad):=by
 obtain⟨k0,hk,hx0,hx1,hx2⟩:=bQ BE;have HJ:=AS (aq hjo (aq hjh hOa));clear hjo hjh hOa;have hfI:(f:Int)<(n:Int):=by omega
 have H:Hid (Gr w u G n x bad I C/\GF w n x E O/\u.ownsRow w.heap.size 4 1 (sG gn n cn) n (bv P n)):=⟨h,hF,hi⟩
 obtain⟨p2,p3,p6,p7,p8,z8⟩:=h.cells;clear h hF hi;go_enter Tryz.func23,Tryz.ntmps23;go_wp2_with (at_make;refine bZ _ rfl _ _ 28 rfl u.heap.size 2 k0 (iZ 0) 1 Tryz.underlying28 hk hx0 hx1 .i64 .i64 _ _ n rfl rfl rfl rfl (by rw[hx2];omega) (by unfold maxLen;omega) lR ?_;intro w3 hown hgrow;rw[Pr]at hown);have hb3:Below u.heap.size u w3:=(aX _ _).grown hgrow lR (fun k hk=>by cases hk);have HW:Hid (Wy w u w3 G n x bad I C gn cn P u.heap.size (List.replicate n 0)):=⟨H.o.1.keep hb3,Ag H.o.2.2 hb3 lR,hown,dF,fun y hy=>by rw[(List.mem_replicate.1 hy).2];exact⟨by omega,by omega⟩,⟨H.o.1.bel.size,H.o.1.blk.lt,by obtain⟨_,c,e⟩:=Am H.o.1.is_;exact(aQ.1 e).1,by obtain⟨_,c,e⟩:=Am H.o.1.cost;exact(aQ.1 e).1,by obtain⟨_,c,e⟩:=Am H.o.2.2;exact(aQ.1 e).1⟩,fun b h1 _=>hb3.block b h1⟩;clear hown hgrow hb3 p2 p3 p6 p7 p8 z8;go_loopw [9] (fun i wr=>∃(k:Nat) (L:List Int),k<=n/\i=iZ k/\Hid (Wy w u wr G n x bad I C gn cn P u.heap.size L/\∀j y,j<k->L[j]?=some y->y=-1)) (fun i _=>n-(intOf i).toNat)
 case atStart=>exact⟨0,_,by omega,rfl,HW.o,fun j y hj=>absurd hj (Nat.not_lt_zero _)⟩
 case round =>
  clear HW;obtain⟨k,L,hk',rfl,HW⟩:=hrel;by_cases hlt:k<n
  . have hltI:(k:Int)<(n:Int):=by omega
    obtain⟨y,_,_,c0,z0⟩:=HW.o.1.at_ hlt
    have HW2:Hid (Wy w u (wr.setCell ⟨u.heap.size,k,none⟩ (iZ (-1))) G n x bad I C gn cn P u.heap.size (L.set k (-1))/\∀j y,j<k+1->(L.set k (-1))[j]?=some y->y=-1):=⟨HW.o.1.set k ⟨by omega,by omega⟩,fun j y hj hy=>by
     rw[List.getElem?_set]at hy;by_cases e:k=j
     . rw[a8 e]at hy
       split at hy
       . cases hy;rfl
       . cases hy
     . rw[bF e]at hy
       exact HW.o.2 j y (by omega) hy⟩
    go_wp2_with fail
    go_roundw
    case rel=>exact⟨k+1,_,by omega,by go_num,HW2⟩
    case measure=>simp[intOf];omega
  . have hkn:k=n:=by omega
    subst hkn;obtain⟨p2,p3,p6,p7,p8,z8⟩:=HW.o.1.gr.cells;obtain⟨yf,hyf0,hyf,cf⟩:=HW.o.1.gr.costAt hf;obtain⟨y0,hy0,_,c0,z0⟩:=HW.o.1.at_ hf
    have HW2:Hid (Wy w u (wr.setCell ⟨u.heap.size,f,none⟩ (iZ yf)) G k x bad I C gn cn P u.heap.size (L.set f yf)/\WI E k P I C f bad bad (L.set f yf)):=⟨HW.o.1.set f ⟨by have:=hyf.1;omega,hyf.2⟩,by
     have h1:=HW.o.2 f y0 hf hy0;subst h1;refine WI.start (fun y hy=> ?_) hy0 (DI hyf0) HJ.o.1 HJ.o.2.1;obtain⟨j,hj⟩:=bH hy;exact HW.o.2 j y (by have:=(aD.1 hj).1;rw[HW.o.1.ll]at this;exact this) hj⟩
    clear hyf0 hy0;clear HW;go_wp2_with fail
    have hk0:0<k:=by omega
    go_loopw [10,11,12,13,14,15,16,17] (fun a _ _ _ _ _ _ _ wr=>∃(ag bd:Bool) (L:List Int),a=.bool ag/\Hid (Wy w u wr G k x bd I C gn cn P u.heap.size L/\WI E k P I C f bad bd L/\(ag=false->bd=false->Ry E k P I C f L))) (fun a _ _ _ _ _ _ _ wr=>NF wr u.heap.size k+G6 a)
    case atStart=>exact⟨true,bad,_,rfl,HW2.o.1,HW2.o.2,fun h=>by cases h⟩
    case round=>
     clear HW2 c0 z0 cf p2 p3 p6 p7 p8 z8;obtain⟨ag,bd,L0,rfl,HW⟩:=hrel;obtain⟨p2,p3,p6,p7,p8,z8⟩:=HW.o.1.gr.cells;by_cases hag:ag=true/\bd=false
     case neg=>
      cases ag
      . clear hag
        go_wp2_with fail
        go_ret
        exact⟨_,_,_,rfl,HW.o.1,HW.o.2.1,fun h=>HW.o.2.2 (by simp) h⟩
      . have hbd:bd=true:=by cases bd<;>simp at hag⊢
        subst hbd;clear hag;go_wp2_with fail
        go_ret
        exact⟨_,_,_,rfl,HW.o.1,HW.o.2.1,fun h=>by cases h⟩
     obtain⟨rfl,rfl⟩:=hag;have HR:Hid (NF wr u.heap.size k=CG L0):=HW.o.1.rest;go_wp2_with fail
     go_loopw [10,11,12,13,14,15,16,17] (fun a i _ _ _ _ _ _ wr=>∃(m:Nat) (ag bd:Bool) (L:List Int),m<=k/\a=.bool ag/\i=iZ m/\Hid (Wy w u wr G k x bd I C gn cn P u.heap.size L/\CG L+G6 (.bool ag)<=CG L0/\WI E k P I C f bad bd L/\OL E O P I C f L0 L ag bd m)) (fun _ i _ _ _ _ _ _ _=>k-(intOf i).toNat)
     case atStart=>exact⟨0,false,_,_,by omega,rfl,rfl,HW.o.1,Nat.le_refl _,HW.o.2.1,fun _ _=>⟨rfl,fun j b hj=>absurd hj (Nat.not_lt_zero _)⟩⟩
     case round=>
      clear HW p2 p3 p6 p7 p8 z8;obtain⟨m,ag,bd,L1,hm,rfl,rfl,HW⟩:=hrel;by_cases hlt:m<k
      case neg=>
       go_wp2_with fail
       go_roundw
       case rel=>exact⟨ag,bd,L1,rfl,HW.o.1,HW.o.2.2.1,fun h1 h2 b hb=>by
        obtain⟨e,h3⟩:=HW.o.2.2.2 h1 h2;obtain⟨j,hj⟩:=HJ.o.2.2 b hb;subst e;exact h3 j b (by have:=(aD.1 hj).1;rw[H.o.2.1.ol]at this;omega) hj⟩
       case measure=>
        rw[HR.o,HW.o.1.rest];have:=HW.o.2.1;simp only[G6]at this⊢;omega
      have hltI:(m:Int)<(k:Int):=by omega
      obtain⟨p2,p3,p6,p7,p8,z8⟩:=HW.o.1.gr.cells;obtain⟨b,hOm,hb,o0⟩:=H.o.2.1.at2 HW.o.1.gr.bel m hlt;have hbI:(b:Int)<(k:Int):=by omega
      obtain⟨t,hIt,ht,i0⟩:=HW.o.1.gr.isAt hb;have HI:=AS (aq (Ir hIt) hOm);clear hIt hOm;have htI:(t:Int)<(k:Int):=by omega
      have n0:=HW.o.1.inAt hb;obtain⟨y,hy,hyb,b0,z0⟩:=HW.o.1.at_ ht;cases hP:P b
      case false=>
       rw[hP]at n0;go_wp2_with fail
       go_roundw
       case rel=>exact⟨m+1,ag,bd,L1,by omega,rfl,by go_num,HW.o.1,HW.o.2.1,HW.o.2.2.1,HW.o.2.2.2.next HI.o.2 fun _ _ x _ hPb=>by rw[hP]at hPb;cases hPb⟩
       case measure=>simp[intOf];omega
      rw[hP]at n0;have HY0:=AS hy;by_cases hy0:y<0
      . go_wp2_with fail
        go_roundw
        case rel=>exact⟨m+1,ag,bd,L1,by omega,rfl,by go_num,HW.o.1,HW.o.2.1,HW.o.2.2.1,HW.o.2.2.2.next HI.o.2 fun h1 h2 x _ _ _ _ _ h0=>by
         rw[HI.o.1,<-(HW.o.2.2.2 h1 h2).1,DI HY0.o]at h0;omega⟩
        case measure=>simp[intOf];omega
      obtain⟨a,c,g0',hr⟩:=H.o.2.1.gr b hb;have g0:=Ad HW.o.1.gr.bel g0';have HE:Hid (DR w (.slice a (E b).length c) (E b)/\∀y∈E b,y<k):=⟨hr,H.o.2.1.eb b hb⟩
      have hE2:=H.o.2.1.sz b;have HY:Hid (∃y,L1[t]?=some y/\0<=y):=⟨y,hy,by omega⟩
      clear hr g0';generalize hEb:E b=eb at HE g0 hE2;have HEb:=AS hEb;have HPb:=AS hP;clear hEb hP;go_wp2_with fail
      clear p2 p3 p6 p7 p8 z8 b0 z0 n0 o0 i0 g0 hy hyb hy0;go_loopw [10,15,16,17] (fun a j _ _ wr=>∃(q:Nat) (ag bd:Bool) (L:List Int),q<=eb.length/\a=.bool ag/\j=iZ q/\Hid (Wy w u wr G k x bd I C gn cn P u.heap.size L/\CG L+G6 (.bool ag)<=CG L0/\(∃y,L[t]?=some y/\0<=y)/\WI E k P I C f bad bd L/\OL E O P I C f L0 L ag bd m/\Rg eb P I C f L0 ag bd b q)) (fun _ j _ _ _=>eb.length-(intOf j).toNat)
      case atStart=>exact⟨0,ag,bd,L1,by omega,rfl,rfl,HW.o.1,HW.o.2.1,HY.o,HW.o.2.2.1,HW.o.2.2.2,fun _ _ j x hj=>absurd hj (Nat.not_lt_zero _)⟩
      case round=>
       clear HW HY;obtain⟨q,ag,bd,L2,hq,rfl,rfl,HW⟩:=hrel;by_cases hlq:q<eb.length
       case neg=>
        go_wp2_with fail
        go_roundw
        case rel=>exact⟨m+1,ag,bd,L2,by omega,rfl,by go_num,HW.o.1,HW.o.2.1,HW.o.2.2.2.1,HW.o.2.2.2.2.1.next HI.o.2 fun h1 h2 x hx=>by
         rw[HEb.o]at hx;obtain⟨j,hj⟩:=bH hx;exact HW.o.2.2.2.2.2 h1 h2 j x (by have:=(aD.1 hj).1;omega) hj⟩
        case measure=>simp[intOf];omega
       have hlqI:(q:Int)<(eb.length:Int):=by omega
       obtain⟨ga,oa,ea,_,e0⟩:=HE.o.1.at_ (aA hlq);have hto:eb[q]<k:=HE.o.2 _ (bq hlq);subst ea;have HZ0:Hid (eb[q]?=some eb[q]):=aA hlq;generalize eb[q]=z at hto e0 HZ0;have htoI:(z:Int)<(k:Int):=by omega
       have HT:Hid (w.cell? ⟨ga,oa+q,none⟩=some (iZ (z:Int))):=e0;clear e0;obtain⟨r,hr,hrk,_⟩:=HW.o.1.gr.isAt hto;have hrI:(r:Int)<(k:Int):=by omega
       have HC:Hid (∀(W:World) (bd:Bool) (L:List Int),Wy w u W G k x bd I C gn cn P u.heap.size L->W.cell? ⟨G,6,none⟩=some (sG x.gi k x.ci)/\W.cell? ⟨ga,oa+q,none⟩=some (iZ (z:Int))/\W.cell? ⟨x.gi,z,none⟩=some (iZ (r:Int))):=fun W bd L hW=>by
        obtain⟨y',h1,_,h2⟩:=hW.gr.isAt hto;rw[hr]at h1;cases h1
        exact⟨hW.gr.cells.2.2.1,Ad hW.gr.bel HT.o,h2⟩
       have HIr:=AS (Ir hr);clear hr;go_upto_region 21 with fail
       have HD:Hid (Wy w u wr.drew G k x bd I C gn cn P u.heap.size L2/\CG L2+G6 (.bool ag)<=CG L0/\∃y,L2[t]?=some y/\0<=y):=⟨HW.o.1.keep (Ae _),HW.o.2.1,HW.o.2.2.1⟩
       have HU:=AS HW.o.2.2.2;refine wp_region_held_drew (S:=fun W=>W.cell? ⟨G,6,none⟩=some (sG x.gi k x.ci)/\W.cell? ⟨ga,oa+q,none⟩=some (iZ (z:Int))/\W.cell? ⟨x.gi,z,none⟩=some (iZ (r:Int))) (by kernel_rfl) (by exact HC.o _ _ _ HD.o.1) (fun hHeld=> ?_)
       clear HW;generalize wr.drew=UD at HD hHeld⊢;refine AG 0 ?_;refine AG 1 ?_;refine AG 2 ?_;refine AG 3 ?_;refine AG 4 ?_;refine AG 5 ?_;refine AG 6 ?_;refine AG 7 ?_;refine AG 8 ?_;refine AG 9 ?_;refine AG 10 ?_;refine wpAnyH_done (by kernel_rfl) ?_ _;clear hHeld;have n1:=HD.o.1.inAt hto;obtain⟨_,e1,_⟩:=HC.o _ _ _ HD.o.1;by_cases hsk:P z=false\/r=t\/r=f
       case pos=>
        cases hPz:P z
        case false=>
         rw[hPz]at n1;go_wp2_with fail
         go_roundw
         case rel=>exact⟨q+1,ag,bd,L2,by omega,rfl,by go_num,HD.o.1,HD.o.2.1,HD.o.2.2,HU.o.1,HU.o.2.1,HU.o.2.2.next HZ0.o (fun h1 h2 _ hPz'=>by rw[hPz]at hPz';cases hPz')⟩
         case measure=>simp[intOf];omega
        rw[hPz]at n1;by_cases hrt:r=t
        . subst hrt
          go_wp2_with fail
          go_roundw
          case rel=>exact⟨q+1,ag,bd,L2,by omega,rfl,by go_num,HD.o.1,HD.o.2.1,HD.o.2.2,HU.o.1,HU.o.2.1,HU.o.2.2.next HZ0.o (fun h1 h2 _ _ hne=>absurd (by rw[HIr.o,HI.o.1]) hne)⟩
          case measure=>simp[intOf];omega
        . have hrf:r=f:=by rcases hsk with e|e|e;{rw[hPz]at e;cases e};{exact absurd e hrt};{exact e}
          subst hrf;have hrt':((r:Int)==(t:Int))=false:=by simp;omega
          go_wp2_with fail
          go_roundw
          case rel=>exact⟨q+1,ag,bd,L2,by omega,rfl,by go_num,HD.o.1,HD.o.2.1,HD.o.2.2,HU.o.1,HU.o.2.1,HU.o.2.2.next HZ0.o (fun h1 h2 _ _ _ hne=>absurd HIr.o hne)⟩
          case measure=>simp[intOf];omega
       have hPz:P z=true:=by cases e:P z;{exact absurd (.inl e) hsk};{rfl}
       rw[hPz]at n1;have hrt':((r:Int)==(t:Int))=false:=by simp;intro e;exact hsk (.inr (.inl (by omega)))
       have hrf':((r:Int)==(f:Int))=false:=by simp;intro e;exact hsk (.inr (.inr (by omega)))
       have HRT:Hid (r≠t/\r≠f/\P z=true):=⟨fun e=>hsk (.inr (.inl e)),fun e=>hsk (.inr (.inr e)),hPz⟩
       clear hsk;go_upto_region 23 with fail
       obtain⟨yt,hyt,hyt0⟩:=HD.o.2.2;obtain⟨yr,hyr,hyrC,_⟩:=HD.o.1.gr.costAt hrk
       have HC2:Hid (∀(W:World) (bd:Bool),Wy w u W G k x bd I C gn cn P u.heap.size L2->W.cell? ⟨u.heap.size,t,none⟩=some (iZ yt)/\W.cell? ⟨G,7,none⟩=some (sG x.gc k x.cc)/\W.cell? ⟨x.gc,r,none⟩=some (iZ yr)):=fun W bd hW=>by
        obtain⟨y1,h1,_,h2⟩:=hW.gr.costAt hrk;obtain⟨y2,h3,_,h4,_⟩:=hW.at_ ht;rw[hyr]at h1;rw[hyt]at h3;cases h1
        cases h3
        exact⟨h4,hW.gr.cells.2.2.2.1,h2⟩
       have HYT:Hid (CW yt/\CW yr/\L2[t]?=some yt/\C[r]?=some yr):=⟨⟨hyt0,by obtain⟨y2,h3,h4,_⟩:=HD.o.1.at_ ht;rw[hyt]at h3;cases h3;exact h4.2⟩,hyrC,hyt,hyr⟩
       have HF:Hid (Wy w u UD.drew G k x bd I C gn cn P u.heap.size L2/\CG L2+G6 (.bool ag)<=CG L0):=⟨HD.o.1.keep (Ae _),HD.o.2.1⟩
       clear hyt hyt0 hyr hyrC n1 e1;refine wp_region_held_drew (S:=fun W=>W.cell? ⟨u.heap.size,t,none⟩=some (iZ yt)/\W.cell? ⟨G,7,none⟩=some (sG x.gc k x.cc)/\W.cell? ⟨x.gc,r,none⟩=some (iZ yr)) (by kernel_rfl) (by exact HC2.o _ _ HF.o.1) (fun hHeld=> ?_)
       clear HD;generalize UD.drew=U2 at HF hHeld⊢;refine AG 0 ?_;refine AG 1 ?_;refine AG 2 ?_;refine AG 3 ?_;refine AG 4 ?_;refine AG 5 ?_;refine AG 6 ?_;refine AG 7 ?_;refine AG 8 ?_;refine AG 9 ?_;refine AG 10 ?_;refine AG 11 ?_;refine Gq 12 ?_;intro KC hKC;go_simp;refine(D9 G yt yr _ U2 HYT.o.1 HYT.o.2.1 HF.o.1.gr.cells.2.2.2.2.1 HF.o.1.gr.cells.2.2.2.2.2).mono ?_;rintro e U3 ⟨cc,rfl,hcc,hU⟩;have HWI:=AS HU.o.1;have HE0:Hid (Da P k b/\Da P k z/\z∈E b/\jf I z≠jf I b/\jf I z≠f/\cf L2 (jf I b)=yt/\cf C (jf I z)=yr):=⟨⟨hb,HPb.o⟩,⟨hto,HRT.o.2.2⟩,by rw[HEb.o];exact aE HZ0.o,by rw[HIr.o,HI.o.1];exact HRT.o.1,by rw[HIr.o];exact HRT.o.2.1,by rw[HI.o.1];exact DI HYT.o.2.2.1,by rw[HIr.o];exact DI HYT.o.2.2.2⟩
       have HG:Hid (∃bd3,Wy w u U3 G k x bd3 I C gn cn P u.heap.size L2/\WI E k P I C f bad bd3 L2/\(bd3=false->bd=false)/\((bd3=true/\cc=0)\/cc=yt+yr/\yt+yr<=4294967295)):=by
        rcases hU with⟨rfl,h1,h2⟩|⟨rfl,h1,h2⟩
        . exact⟨_,HF.o.1,HWI.o,id,.inr ⟨h1,h2⟩⟩
        . refine⟨_,HF.o.1.bad_,HWI.o.bad_ HE0.o.1 HE0.o.2.1 HE0.o.2.2.1 HE0.o.2.2.2.1 HE0.o.2.2.2.2.1 ?_,(fun h=>by cases h),.inl ⟨rfl,h1⟩⟩
          rw[HE0.o.2.2.2.2.2.1,HE0.o.2.2.2.2.2.2];exact h2
       have HL:Hid (CG L2+G6 (.bool ag)<=CG L0):=HF.o.2;clear hU HF;refine hKC.o _ _ (by obtain⟨bd,hW,_⟩:=HG.o;exact HC2.o _ _ hW) (fun hHeld=> ?_);clear hKC KC;refine AG 13 ?_;refine wpAnyH_done (by kernel_rfl) ?_ _;clear hHeld;obtain⟨bd3,hW3,hW4⟩:=HG.o;have HW3:Hid (Wy w u U3 G k x bd3 I C gn cn P u.heap.size L2):=hW3;have HW4:=AS hW4;clear HG hW3 hW4;obtain⟨yo,hyo,_,o1,z1⟩:=HW3.o.at_ hrk;by_cases hgt:cc>yo
       . have HN:Hid (Wy w u (U3.setCell ⟨u.heap.size,r,none⟩ (iZ cc)) G k x bd3 I C gn cn P u.heap.size (L2.set r cc)/\CG (L2.set r cc)+G6 (.bool true)<=CG L0/\(∃y,(L2.set r cc)[t]?=some y/\0<=y)/\WI E k P I C f bad bd3 (L2.set r cc)):=by
          refine⟨HW3.o.set r ⟨by have:=hcc.1;omega,hcc.2⟩,?_,⟨yt,?_,HYT.o.1.1⟩,?_⟩
          . have h1:=On hyo hgt hcc.2
            have h2:=HL.o;show _+1<=_;omega
          . rw[dC HRT.o.1]
            exact HYT.o.2.2.1
          . obtain⟨e1,e2,e3,e4,e5,e6,e7⟩:=HE0.o
            rcases HW4.o.2.2 with⟨_,h1⟩|⟨h1,h2⟩
            . rw[h1,<-HIr.o]
              exact HW4.o.1.zero e5 (by rw[HIr.o];exact hyo)
            . have:=HW4.o.1.over e1 e2 e3 e4 e5 (by rw[e6];exact HYT.o.1.1) (by rw[HIr.o];exact hyo) (by rw[e6,e7];exact h2) (by rw[e6,e7,<-h1];exact hgt)
              rw[e6,e7,<-h1,HIr.o]at this;exact this
         go_wp2_with fail
         go_roundw
         case rel=>exact⟨q+1,true,bd3,_,by omega,rfl,by go_num,HN.o.1,HN.o.2.1,HN.o.2.2.1,HN.o.2.2.2,(fun h=>by cases h),(fun h=>by cases h)⟩
         case measure=>simp[intOf];omega
       . go_wp2_with fail
         go_roundw
         case rel=>exact⟨q+1,ag,bd3,L2,by omega,rfl,by go_num,HW3.o,HL.o,⟨yt,HYT.o.2.2.1,HYT.o.1.1⟩,HW4.o.1,fun h1 h2=>HU.o.2.1 h1 (HW4.o.2.1 h2),Rg.next (eb:=eb) (P:=P) (I:=I) (C:=C) (f:=f) (L0:=L0) (ag:=ag) (bd:=bd3) (b:=b) (q:=q) (fun h1 h2=>HU.o.2.2 h1 (HW4.o.2.1 h2)) HZ0.o fun h1 h2 _ _ _ _ _=>by
          obtain⟨e1,e2,e3,e4,e5,e6,e7⟩:=HE0.o;rw[<-(HU.o.2.1 h1 (HW4.o.2.1 h2)).1,e6,e7,HIr.o,DI hyo];rcases HW4.o.2.2 with⟨h3,_⟩|⟨h3,_⟩
          . rw[h3]at h2;cases h2
          . omega⟩
         case measure=>simp[intOf];omega
end Go.Proofs.YtdipfjmlfbdkdaaGreat
