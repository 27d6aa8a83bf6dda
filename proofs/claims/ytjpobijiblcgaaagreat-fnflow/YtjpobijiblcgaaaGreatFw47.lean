import Derived.Test.YtjpobijiblcgaaaGreatFw0
import Derived.Test.YtjpobijiblcgaaaGreatFw4
import Derived.Test.YtjpobijiblcgaaaGreatFw40
namespace Go.Proofs.YtjpobijiblcgaaaGreat
open Go.ChangeShapes Go.WideShapes Go.ChangeAt Go.RowKit
set_option linter.unusedVariables false
set_option maxHeartbeats 8000000
set_option maxRecDepth 100000
def Q9(w:World)(s:Cv)(k:GK)(p left lv:Int)(D:List Av)(e:Ending)(u':World):Prop:=e=.returned (.tuple #[])/\∃p' left',p<=p'/\p'<=p+5000+15001*(left-left')/\left'<=left∧-80*left-300<=left'/\GS w u' s k p' left' lv 0 D
theorem GS.back{w u:World}{s:Cv}{k:GK}{p left lv:Int}{sl:Nat}{D:List Av}(hn:k.nt=64)(h:GS w u s {k with nt:=63+1} p left lv sl D):GS w u s k p left lv sl D:=by
 obtain⟨v,vc,g,h1,h2⟩:=h.ex;exact⟨v,vc,g,⟨h1.bl⟩,⟨h2.len,h2.nc,by have:=h2.nt;simp only[]at this;omega,h2.wc,h2.wk,h2.wt⟩⟩
theorem K3(w u:World)(s:Cv)(k:GK)(p left lv:Int)(D:List Av)(deep:Int)(hk:CY k)(hnt:k.nt=64)(h:GS w u s k p left lv 0 D)(hB:Pm (left-1))(hl:30<left)(hlv:0<=lv/\lv<=3)(hd:deep<=2)(hd2:left-2000<=deep)(hp:p+15001*(left+30000)<=900000015001):
 Calls Tryz.prog 74 #[.pointer (some ⟨k.Gb,0,none⟩),iZ deep] u (Q9 w s k p left lv D):=by
 have hl2:=h.le hk;have hL0:=hk.l0;have hgl:=hk.gl;have hp0:=h.src.low;have HK:Hid (CY k/\N8 2 1628 73/\Pm (left-1)/\k.nt=64):=⟨hk,FD,hB,hnt⟩
 have E0:Hid (GS w u s k p left lv 0 D):=h;obtain⟨_,_,q0,_⟩:=h.cells;clear h hk hB hnt;have hwd:IntKind.i64.wrap (deep-1)=deep-1:=bp _ ⟨by omega,by omega⟩;go_enter Tryz.func74,Tryz.ntmps74;go_wp2_with fail
 refine(Ai E0.o.src).mono ?_;rintro e u1 ⟨r1,h1a,h1b,rfl,hs,hd'⟩;have E1:Hid (GS w u1 s k (p+1) (left) lv 0 D):=E0.o.draw hs hd';clear hs hd' q0;go_wp2_with fail
 refine(Ai E1.o.src).mono ?_;rintro e u2 ⟨r2,h2a,h2b,rfl,hs,hd'⟩;have E2:Hid (GS w u2 s k (p+1+1) (left) lv 0 D):=E1.o.draw hs hd';clear hs hd';clear E0 E1;obtain⟨t,ht⟩:∃t,1+r1=t:=⟨_,rfl⟩;have htb:1<=t/\t<=3:=by omega
 cases e0:(r2==0)
 case true=>
  go_wp2_with fail
  refine(Ai E2.o.src).mono ?_;rintro e u3 ⟨r3,h3a,h3b,rfl,hs,hd'⟩;have E3:=Ah (E2.o.draw hs hd');clear hs hd';obtain⟨q,hq⟩:∃q:Nat,1+r3=(q:Int):=⟨(1+r3).toNat,by omega⟩;obtain⟨gr,cr,xs,a,c,d0,d1,d2,hrd,hxl⟩:=E3.o.reg HK.o.1 (show q<3 by omega);have hq3:(q:Int)<3:=by omega
  go_wp2_with fail
  refine(CN _ s (p+1+1+1) t _ xs E3.o.src (by omega) hrd.rd (by omega)).mono ?_;rintro e u4 ⟨r4,rfl,hr0,hr1,p4,hq1,hq2,hs,hd'⟩;have E4:Hid (GS w u4 s k p4 left lv 0 D):=E3.o.draw hs hd';clear hs hd' hrd d0 d1 d2;by_cases h40:r4>=0
  case pos=>
   go_wp2_with fail
   refine(HK.o.2.1 w _ s k (p4) (left) lv D _ _ HK.o.1 E4.o (by omega) (by omega) (by omega) (by omega) Ag).mono ?_;rintro e u5 ⟨rfl,p5,l5,b5a,b5b,b5c,b5d,hh⟩;have E5:Hid (GS w u5 s k p5 l5 lv 0 D):=hh;clear hh;go_wp2_with fail
   refine(Ar HK.o.1 E5.o (by omega) Ag Ag Ag Ag).mono ?_;rintro e u6 ⟨n6,rfl,hn6,hh⟩;have E6:Hid (GS w u6 s k (p5) (l5-1) lv 0 D):=hh;clear hh;go_wp2_with fail
   refine bK (v:=.tuple #[]) (by kernel_rfl) rfl ?_;exact⟨rfl,p5,l5-1,by omega,by omega,by omega,by omega,E6.o⟩
  case neg=>
   go_wp2_with fail
   refine bK (v:=.tuple #[]) (by kernel_rfl) rfl ?_;exact⟨rfl,p4,left,by omega,by omega,by omega,by omega,E4.o⟩
 case false=>
  cases e1:(r2==1)
  case true=>
   go_wp2_with fail
   refine(Ai E2.o.src).mono ?_;rintro e u3 ⟨r3,h3a,h3b,rfl,hs,hd'⟩;have E3:=Ah (E2.o.draw hs hd');clear hs hd';obtain⟨q,hq⟩:∃q:Nat,1+r3=(q:Int):=⟨(1+r3).toNat,by omega⟩;obtain⟨gr,cr,xs,a,c,d0,d1,d2,hrd,hxl⟩:=E3.o.reg HK.o.1 (show q<3 by omega);have hq3:(q:Int)<3:=by omega
   go_wp2_with fail
   refine(CN _ s (p+1+1+1) t _ xs E3.o.src (by omega) hrd.rd (by omega)).mono ?_;rintro e u4 ⟨r4,rfl,hr0,hr1,p4,hq1,hq2,hs,hd'⟩;have E4:Hid (GS w u4 s k p4 left lv 0 D):=E3.o.draw hs hd';clear hs hd' hrd d0 d1 d2;by_cases h40:r4>=0
   case pos=>
    go_wp2_with fail
    refine(HK.o.2.1 w _ s k (p4) (left) lv D _ _ HK.o.1 E4.o (by omega) (by omega) (by omega) (by omega) Ag).mono ?_;rintro e u5 ⟨rfl,p5,l5,b5a,b5b,b5c,b5d,hh⟩;have E5:Hid (GS w u5 s k p5 l5 lv 0 D):=hh;clear hh;go_wp2_with fail
    refine(Ar HK.o.1 E5.o (by omega) Ag Ag Ag Ag).mono ?_;rintro e u6 ⟨n6,rfl,hn6,hh⟩;have E6:Hid (GS w u6 s k (p5) (l5-1) lv 0 D):=hh;clear hh;go_wp2_with fail
    refine bK (v:=.tuple #[]) (by kernel_rfl) rfl ?_;exact⟨rfl,p5,l5-1,by omega,by omega,by omega,by omega,E6.o⟩
   case neg=>
    go_wp2_with fail
    refine bK (v:=.tuple #[]) (by kernel_rfl) rfl ?_;exact⟨rfl,p4,left,by omega,by omega,by omega,by omega,E4.o⟩
  case false=>
   cases e2:(r2==2)
   case true=>
    go_wp2_with fail
    refine(Ge w u2 s k _ left lv 0 D HK.o.1 E2.o).mono ?_;rintro e u3 ⟨a,c,xs,rfl,ho,hxl,hb⟩;have E3:=Ah (E2.o.keep hb);have HR:Hid (Rd u3 1 (.slice a xs.length c) xs.length (xs.flatMap Ab)):=Rd.of_own ho;clear ho hb;go_wp2_with fail
    refine(CN _ s (p+1+1) t _ xs E3.o.src (by omega) HR.o hxl).mono ?_;rintro e u4 ⟨r4,rfl,hr0,hr1,p4,hq1,hq2,hs,hd'⟩;have E4:Hid (GS w u4 s k p4 left lv 0 D):=E3.o.draw hs hd';clear hs hd' HR;by_cases h40:r4>=0
    case pos=>
     go_wp2_with fail
     refine(HK.o.2.1 w _ s k (p4) (left) lv D _ _ HK.o.1 E4.o (by omega) (by omega) (by omega) (by omega) Ag).mono ?_;rintro e u5 ⟨rfl,p5,l5,b5a,b5b,b5c,b5d,hh⟩;have E5:Hid (GS w u5 s k p5 l5 lv 0 D):=hh;clear hh;go_wp2_with fail
     refine(Ar HK.o.1 E5.o (by omega) Ag Ag Ag Ag).mono ?_;rintro e u6 ⟨n6,rfl,hn6,hh⟩;have E6:=Ah hh;clear hh;go_wp2_with fail
     refine bK (v:=.tuple #[]) (by kernel_rfl) rfl ?_;exact⟨rfl,p5,l5-1,by omega,by omega,by omega,by omega,E6.o⟩
    case neg=>
     go_wp2_with fail
     refine bK (v:=.tuple #[]) (by kernel_rfl) rfl ?_;exact⟨rfl,p4,left,by omega,by omega,by omega,by omega,E4.o⟩
   case false=>
    cases e3:(r2==3)
    case true=>
     go_wp2_with fail
     refine(Ai E2.o.src).mono ?_;rintro e u3 ⟨r3,h3a,h3b,rfl,hs,hd'⟩;have E3:Hid (GS w u3 s k (p+1+1+1) (left) lv 0 D):=E2.o.draw hs hd';clear hs hd';obtain⟨q,hq⟩:∃q:Nat,1+r3=(q:Int):=⟨(1+r3).toNat,by omega⟩;obtain⟨gr,cr,xs,a,c,d0,d1,d2,hrd,hxl⟩:=E3.o.reg HK.o.1 (show q<3 by omega);have hq3:(q:Int)<3:=by omega
     go_wp2_with fail
     refine(Gf _ s (p+1+1+1) t _ xs E3.o.src (by omega) hrd (by omega)).mono ?_;rintro e u4 ⟨r4,m4,rfl,hr0,hr1,hm0,hm1,p4,hq1,hq2,hs,hd'⟩;have E4:Hid (GS w u4 s k p4 left lv 0 D):=E3.o.draw hs hd';clear hs hd' hrd d0 d1 d2;by_cases h40:r4>=0
     case pos=>
      go_wp2_with fail
      refine(HK.o.2.1 w _ s k (p4) (left) lv D _ _ HK.o.1 E4.o (by omega) (by omega) (by omega) (by omega) Ag).mono ?_;rintro e u5 ⟨rfl,p5,l5,b5a,b5b,b5c,b5d,hh⟩;have E5:Hid (GS w u5 s k p5 l5 lv 0 D):=hh;clear hh;go_wp2_with fail
      refine(HK.o.2.1 w _ s k (p5) (l5) lv D _ _ HK.o.1 E5.o (by omega) (by omega) (by omega) (by omega) Ag).mono ?_;rintro e u6 ⟨rfl,p6,l6,b6a,b6b,b6c,b6d,hh⟩;have E6:=Ah hh;clear hh;go_wp2_with fail
      refine(Ar HK.o.1 E6.o (by omega) Ag Ag Ag Ag).mono ?_;rintro e u7 ⟨n7,rfl,hn7,hh⟩;have E7:Hid (GS w u7 s k (p6) (l6-1) lv 0 D):=hh;clear hh;go_wp2_with fail
      refine bK (v:=.tuple #[]) (by kernel_rfl) rfl ?_;exact⟨rfl,p6,l6-1,by omega,by omega,by omega,by omega,E7.o⟩
     case neg=>
      go_wp2_with fail
      refine bK (v:=.tuple #[]) (by kernel_rfl) rfl ?_;exact⟨rfl,p4,left,by omega,by omega,by omega,by omega,E4.o⟩
    case false=>
     cases e4:(r2==4)
     case true=>
      go_wp2_with fail
      refine(HK.o.2.1 w _ s k (p+1+1) (left) lv D _ _ HK.o.1 E2.o (by omega) (by omega) (by omega) (by omega) Ag).mono ?_;rintro e u3 ⟨rfl,p3,l3,b3a,b3b,b3c,b3d,hh⟩;have E3:Hid (GS w u3 s k p3 l3 lv 0 D):=hh;clear hh;go_wp2_with fail
      refine(Ar HK.o.1 E3.o (by omega) Ag Ag Ag Ag).mono ?_;rintro e u4 ⟨n4,rfl,hn4,hh⟩;have E4:Hid (GS w u4 s k (p3) (l3-1) lv 0 D):=hh;clear hh;have HNo:Hid ((n4:Int)=k.L0-(l3-1+1)):=by show(n4:Int)=_;omega
      clear hn4;go_wp2_with fail
      refine(HK.o.2.2.1 w _ s k (p3) (l3-1) lv D _ HK.o.1 HK.o.2.2.2 E4.o (by omega) (by omega) hlv (by omega) (by omega) (by omega)).mono ?_;rintro e u5 ⟨rfl,p5,l5,b5a,b5b,b5c,b5d,b5e,hh⟩;have E5:=Ah hh;clear hh;go_wp2_with fail
      refine(Ar HK.o.1 E5.o (by omega) Ag Ag Ag Ag).mono ?_;rintro e u6 ⟨n6,rfl,hn6,hh⟩;have E6:Hid (GS w u6 s k (p5) (l5-1) lv 0 D):=hh;clear hh;have HEn:Hid ((n6:Int)=k.L0-(l5-1+1)):=by show(n6:Int)=_;omega
      clear hn6;have hnoI:(n4:Int)<k.L0-(l5-1):=by have:=HNo.o;omega
      have hgl2:-80*left-200<=l5-1:=by
       by_cases hc:l3-1<=30
       . have:=b5d hc;omega
       . have:=b5e (by omega);omega
      clear b5d b5e;obtain⟨gc,c9,q3,hcd⟩:=E6.o.code (j:=n4) (by omega);obtain⟨⟨old,o3⟩,z3,hset⟩:=hcd 3 (by omega);obtain⟨d9,hd9⟩:∃d:Nat,(k.L0-(l5-1)).toNat=d:=⟨_,rfl⟩;rw[hd9]at q3;have hjd:(n4:Int)<(d9:Int):=by omega
      have hd9b:(d9:Int)<=1000000:=by omega
      have ES:Hid (GS w (u6.drew.setCell ⟨gc,n4*4+3,none⟩ (iZ (d9:Int))) s k (p5) (l5-1) lv 0 D):=(hset (d9:Int) Ag).keep (Ad _);have o3':u6.drew.cell? ⟨gc,n4*4+3,none⟩=some (iZ old):=o3;have z3':u6.drew.frozen? ⟨gc,n4*4+3,none⟩=false:=z3;have q3':u6.drew.cell? ⟨k.Gb,3,none⟩=some (sG gc d9 c9):=q3
      have q3s:Hid ((u6.drew.setCell ⟨gc,n4*4+3,none⟩ (iZ (d9:Int))).cell? ⟨k.Gb,3,none⟩=some (sG gc d9 c9)):=by
       show(u6.drew.setCell ⟨gc,n4*4+3,none⟩ (iZ (d9:Int))).cell? ⟨k.Gb,3,none⟩=_;rw[cu _ _ _ _ (fun e=>by rw[<-e]at q3';rw[q3']at o3';cases o3')];exact q3'
      clear hset hcd o3 z3 q3 hd9;go_upto_region 27 with fail
      refine wp_region_held_drew (S:=fun W=>W.cell? ⟨k.Gb,3,none⟩=some (sG gc d9 c9)) (by kernel_rfl) (by exact q3') (fun hHeld=> ?_);clear E6;clear q3';generalize u6.drew=UD at o3' z3' ES q3s hHeld⊢;refine Ak 0 ?_;refine Ak 1 ?_;refine Ak 2 ?_;refine Ak 3 ?_;refine Ak 4 ?_;refine Ak 5 ?_;refine Ak 6 ?_;refine Ak 7 ?_;refine Ak 8 ?_;refine Ak 9 ?_;refine Ak 10 ?_;refine Ak 11 ?_;refine rdH 12 ?_;intro KC hKC;go_simp;refine hKC.o _ _ (by exact q3s.o) (fun hHeld=> ?_);clear hKC KC;refine wpAnyH_done (by kernel_rfl) ?_ _;clear hHeld q3s o3' z3';go_simp;generalize UD.setCell ⟨gc,n4*4+3,none⟩ (iZ (d9:Int))=u7 at ES⊢;have E7:=ES;clear ES hjd hd9b;go_wp2_with fail
      refine(HK.o.2.2.1 w _ s k (p5) (l5-1) lv D _ HK.o.1 HK.o.2.2.2 E7.o (by omega) (by omega) hlv (by omega) (by omega) (by omega)).mono ?_;rintro e u8 ⟨rfl,p8,l8,b8a,b8b,b8c,b8d,b8e,hh⟩;have E8:Hid (GS w u8 s k p8 l8 lv 0 D):=hh;clear hh;have henI:(n6:Int)<k.L0-(l8):=by have:=HEn.o;omega
      have hgl3:-80*left-300<=l8:=by
       by_cases hc:l5-1<=30
       . have:=b8d hc;omega
       . have:=b8e (by omega);omega
      clear b8d b8e;obtain⟨gc,c9,q3,hcd⟩:=E8.o.code (j:=n6) (by omega);obtain⟨⟨old,o3⟩,z3,hset⟩:=hcd 3 (by omega);obtain⟨d9,hd9⟩:∃d:Nat,(k.L0-(l8)).toNat=d:=⟨_,rfl⟩;rw[hd9]at q3;have hjd:(n6:Int)<(d9:Int):=by omega
      have hd9b:(d9:Int)<=1000000:=by omega
      have ES:Hid (GS w (u8.drew.setCell ⟨gc,n6*4+3,none⟩ (iZ (d9:Int))) s k (p8) (l8) lv 0 D):=(hset (d9:Int) Ag).keep (Ad _);have o3':u8.drew.cell? ⟨gc,n6*4+3,none⟩=some (iZ old):=o3;have z3':u8.drew.frozen? ⟨gc,n6*4+3,none⟩=false:=z3;have q3':u8.drew.cell? ⟨k.Gb,3,none⟩=some (sG gc d9 c9):=q3
      have q3s:Hid ((u8.drew.setCell ⟨gc,n6*4+3,none⟩ (iZ (d9:Int))).cell? ⟨k.Gb,3,none⟩=some (sG gc d9 c9)):=by
       show(u8.drew.setCell ⟨gc,n6*4+3,none⟩ (iZ (d9:Int))).cell? ⟨k.Gb,3,none⟩=_;rw[cu _ _ _ _ (fun e=>by rw[<-e]at q3';rw[q3']at o3';cases o3')];exact q3'
      clear hset hcd o3 z3 q3 hd9;go_upto_region 29 with fail
      refine wp_region_held_drew (S:=fun W=>W.cell? ⟨k.Gb,3,none⟩=some (sG gc d9 c9)) (by kernel_rfl) (by exact q3') (fun hHeld=> ?_);clear E8;clear q3';generalize u8.drew=UD at o3' z3' ES q3s hHeld⊢;refine Ak 0 ?_;refine Ak 1 ?_;refine Ak 2 ?_;refine Ak 3 ?_;refine Ak 4 ?_;refine Ak 5 ?_;refine Ak 6 ?_;refine Ak 7 ?_;refine Ak 8 ?_;refine Ak 9 ?_;refine Ak 10 ?_;refine Ak 11 ?_;refine rdH 12 ?_;intro KC hKC;go_simp;refine hKC.o _ _ (by exact q3s.o) (fun hHeld=> ?_);clear hKC KC;refine wpAnyH_done (by kernel_rfl) ?_ _;clear hHeld q3s o3' z3';go_simp;generalize UD.setCell ⟨gc,n6*4+3,none⟩ (iZ (d9:Int))=u9 at ES⊢;have E9:=ES;clear ES hjd hd9b;go_wp2_with fail
      refine bK (v:=.tuple #[]) (by kernel_rfl) rfl ?_;exact⟨rfl,p8,l8,by omega,by omega,by omega,by omega,E9.o⟩
     case false=>
      cases e5:(r2==5)
      case true=>
       obtain⟨v,vc,g,h1,h2⟩:=E2.o.ex;obtain⟨⟨a1,c1,a2,c2,a3,c3,a4,c4,ev⟩,_⟩:=h1.bl.prow;have y3:=h1.pcells.2.2.2;rw[ev]at y3;simp only[]at y3;obtain⟨_,y1,_,_,_,y5⟩:=h1.cells;have HH:Hid (SM w u2 s k (p+1+1) v vc g left lv D/\Qq k g left 0):=⟨h1,h2⟩
       clear h1 h2 ev;generalize hn:g.certs.length=n at y3;have HN:Hid (g.certs.length=n):=hn;clear hn;by_cases c3':lv<3;rotate_left
       . have c3n:decide (lv<3)=false:=by simpa using c3'
         go_wp2_with fail
         refine bK (v:=.tuple #[]) (by kernel_rfl) rfl ?_;exact⟨rfl,p+1+1,left,by omega,by omega,by omega,by omega,E2.o⟩
       by_cases c0':deep>0;rotate_left
       . have c0n:decide (deep>0)=false:=by simpa using c0'
         go_wp2_with fail
         refine bK (v:=.tuple #[]) (by kernel_rfl) rfl ?_;exact⟨rfl,p+1+1,left,by omega,by omega,by omega,by omega,E2.o⟩
       by_cases c6':n<64;rotate_left
       . have c6n:¬(n:Int)<64:=by omega
         go_wp2_with fail
         refine bK (v:=.tuple #[]) (by kernel_rfl) rfl ?_;exact⟨rfl,p+1+1,left,by omega,by omega,by omega,by omega,E2.o⟩
       have c6I:(n:Int)<64:=by omega
       have E3:Hid (GS w u2 s {k with nt:=63} (p+1+1) left lv 0 D):=⟨v,vc,g,⟨HH.o.1.bl⟩,⟨HH.o.2.len,HH.o.2.nc,by rw[HN.o];simp only[];omega,HH.o.2.wc,HH.o.2.wk,HH.o.2.wt⟩⟩;clear HH HN;go_wp2_with fail;refine(Hs w u2 s {k with nt:=63} (p+1+1) left lv D _ (HK.o.1.bound (by omega)) rfl E3.o HK.o.2.2.1 hl ⟨by omega,by omega⟩ (by omega) (by omega) (by omega)).mono ?_;rintro e u4 ⟨rfl,p4,l4,b1,b2,b3,b4,hh⟩;have E4:Hid (GS w u4 s k p4 l4 lv 0 D):=GS.back HK.o.2.2.2 hh;clear hh E3 y1 y3 y5;go_wp2_with fail;refine bK (v:=.tuple #[]) (by kernel_rfl) rfl ?_;exact⟨rfl,p4,l4,by omega,by omega,by omega,by omega,E4.o⟩
      case false=>
       cases e6:(r2==6)
       case true=>
        obtain⟨v,vc,g,h1,h2⟩:=E2.o.ex;obtain⟨⟨a1,c1,a2,c2,a3,c3,a4,c4,ev⟩,_⟩:=h1.bl.prow;have y3:=h1.pcells.2.2.2;rw[ev]at y3;simp only[]at y3;obtain⟨_,y1,_,_,_,y5⟩:=h1.cells;have HH:Hid (SM w u2 s k (p+1+1) v vc g left lv D/\Qq k g left 0):=⟨h1,h2⟩
        clear h1 h2 ev;generalize hn:g.certs.length=n at y3;have HN:Hid (g.certs.length=n):=hn;clear hn;by_cases c3':lv<3;rotate_left
        . have c3n:decide (lv<3)=false:=by simpa using c3'
          go_wp2_with fail
          refine bK (v:=.tuple #[]) (by kernel_rfl) rfl ?_;exact⟨rfl,p+1+1,left,by omega,by omega,by omega,by omega,E2.o⟩
        by_cases c0':deep>0;rotate_left
        . have c0n:decide (deep>0)=false:=by simpa using c0'
          go_wp2_with fail
          refine bK (v:=.tuple #[]) (by kernel_rfl) rfl ?_;exact⟨rfl,p+1+1,left,by omega,by omega,by omega,by omega,E2.o⟩
        by_cases c6':n<64;rotate_left
        . have c6n:¬(n:Int)<64:=by omega
          go_wp2_with fail
          refine bK (v:=.tuple #[]) (by kernel_rfl) rfl ?_;exact⟨rfl,p+1+1,left,by omega,by omega,by omega,by omega,E2.o⟩
        have c6I:(n:Int)<64:=by omega
        have E3:Hid (GS w u2 s {k with nt:=63} (p+1+1) left lv 0 D):=⟨v,vc,g,⟨HH.o.1.bl⟩,⟨HH.o.2.len,HH.o.2.nc,by rw[HN.o];simp only[];omega,HH.o.2.wc,HH.o.2.wk,HH.o.2.wt⟩⟩;clear HH HN;go_wp2_with fail;refine(Hs w u2 s {k with nt:=63} (p+1+1) left lv D _ (HK.o.1.bound (by omega)) rfl E3.o HK.o.2.2.1 hl ⟨by omega,by omega⟩ (by omega) (by omega) (by omega)).mono ?_;rintro e u4 ⟨rfl,p4,l4,b1,b2,b3,b4,hh⟩;have E4:=Ah (GS.back HK.o.2.2.2 hh);clear hh E3 y1 y3 y5;go_wp2_with fail;refine bK (v:=.tuple #[]) (by kernel_rfl) rfl ?_;exact⟨rfl,p4,l4,by omega,by omega,by omega,by omega,E4.o⟩
       case false=>
        cases e7:(r2==7)
        case true=>
         go_wp2_with fail
         refine(Gd w _ s k (p+1+1) left lv 0 D 0 HK.o.1 E2.o (by omega)).mono ?_;rintro e u3 ⟨f3,rfl,hf0,hf1,p3,hq1,hq2,hs,hd'⟩;have E3:Hid (GS w u3 s k p3 left lv 0 D):=E2.o.draw hs hd';clear hs hd';by_cases hf:f3>=0
         case pos=>
          obtain⟨fq,rfl⟩:=aq (show 0<=f3 by omega);go_wp2_with fail
          refine(Hr (n:=2) (A:=1628) (P:=73) ⟨by omega,by omega⟩ ⟨by omega,by omega⟩ HK.o.2.1 w _ s k p3 left lv D fq _ HK.o.1 E3.o (by omega) (by omega) (by omega) (by omega) (by omega) (by omega)).mono ?_;rintro e u4 ⟨rfl,p4,l4,b3a,b3b,b3c,b3d,hh⟩;have E4:Hid (GS w u4 s k p4 l4 lv 0 D):=hh;clear hh;go_wp2_with fail
          refine bK (v:=.tuple #[]) (by kernel_rfl) rfl ?_;exact⟨rfl,p4,l4,by omega,by omega,by omega,by omega,E4.o⟩
         case neg=>
          go_wp2_with fail
          refine bK (v:=.tuple #[]) (by kernel_rfl) rfl ?_;exact⟨rfl,p3,left,by omega,by omega,by omega,by omega,E3.o⟩
        case false=>
         cases e8:(r2==8)
         case true=>
          go_wp2_with fail
          refine(HK.o.2.1 w _ s k (p+1+1) (left) lv D _ _ HK.o.1 E2.o (by omega) (by omega) (by omega) (by omega) Ag).mono ?_;rintro e u3 ⟨rfl,p3,l3,b3a,b3b,b3c,b3d,hh⟩;have E3:Hid (GS w u3 s k p3 l3 lv 0 D):=hh;clear hh;go_wp2_with fail
          refine(Ar HK.o.1 E3.o (by omega) Ag Ag Ag Ag).mono ?_;rintro e u4 ⟨n4,rfl,hn4,hh⟩;have E4:=Ah hh;clear hh;go_wp2_with fail
          refine bK (v:=.tuple #[]) (by kernel_rfl) rfl ?_;exact⟨rfl,p3,l3-1,by omega,by omega,by omega,by omega,E4.o⟩
         case false=>
          go_wp2_with fail
          refine bK (v:=.tuple #[]) (by kernel_rfl) rfl ?_;exact⟨rfl,p+1+1,left,by omega,by omega,by omega,by omega,E2.o⟩
theorem Py(m:Int)(hm:∀m',m'<=m-1->Pm m'):Pm m:=by
 intro w u s k p left lv D deep hk hnt h hlm hl hlv hd hd2 hp;have hl2:=h.le hk;have hp0:=h.src.low;have HK:Hid (CY k/\True/\True/\k.nt=64):=⟨hk,trivial,trivial,hnt⟩
 have HM:Hid (∀m',m'<=m-1->Pm m'):=hm;have E0:Hid (GS w u s k p left lv 0 D):=h;obtain⟨_,_,q0,_⟩:=h.cells;clear h hk hnt hm;go_enter Tryz.func53,Tryz.ntmps53;go_wp2_with fail
 refine(Ai E0.o.src).mono ?_;rintro e u1 ⟨r1,h1a,h1b,rfl,hs,hd'⟩;have E1:Hid (GS w u1 s k (p+1) (left) lv 0 D):=E0.o.draw hs hd';clear hs hd' q0;clear E0;go_wp2_with fail
 go_loopw [4] (fun i wr=>∃(j:Nat) (p' left':Int),i=iZ (j:Int)/\j<=3/\p<=p'/\p'<=p+1+5000*(3-(j:Int))+15001*(left-left')/\left'<=left/\(left<=30->left'=left)/\(30<left-> -80*left-300<=left')/\Hid (GS w wr s k p' left' lv 0 D)) (fun i _=>(intOf i).toNat)
 case atStart=>exact⟨(1+r1).toNat,p+1,left,by show _=_;congr 1;omega,by omega,by omega,by omega,by omega,fun _=>rfl,fun _=>by omega,E1⟩
 case round=>
  clear E1;obtain⟨j,p2,l2,rfl,hj,g1,g2,g3,g4,g5,E2⟩:=hrel;have G4:=Ah g4;have G5:Hid (30<left-> -80*left-300<=l2):=g5;clear g4 g5;obtain⟨_,_,_,_,_,_,q4,_⟩:=E2.o.cells;by_cases hj0:j=0
  case pos=>
   subst hj0;go_wp2_with fail
   refine bK (v:=.tuple #[]) (by kernel_rfl) rfl ?_;exact⟨rfl,p2,l2,by omega,by omega,by omega,G4.o,G5.o,E2.o⟩
  have hjI:(j:Int)>0:=by omega
  by_cases h30:l2>30
  case neg=>
   have h30':decide (l2>30)=false:=by simpa using h30
   go_wp2_with fail
   refine bK (v:=.tuple #[]) (by kernel_rfl) rfl ?_;exact⟨rfl,p2,l2,by omega,by omega,by omega,G4.o,G5.o,E2.o⟩
  have h30':decide (l2>30)=true:=by simpa using h30
  go_wp2_with fail
  refine(K3 w wr s k p2 l2 lv D _ HK.o.1 HK.o.2.2.2 E2.o (HM.o _ (by omega)) (by omega) hlv (by omega) (by omega) (by omega)).mono ?_;rintro e u3 ⟨rfl,p3,l3,b1,b2,b3,b4,hh⟩;have E3:Hid (GS w u3 s k p3 l3 lv 0 D):=hh;clear hh E2 q4;obtain⟨j',rfl⟩:∃j',j=j'+1:=⟨j-1,by omega⟩;have hll:left>30:=by omega
  go_wp2_with fail
  go_roundw
  case rel=>exact⟨j',p3,l3,by go_num,by omega,by omega,by omega,by omega,fun e=>absurd e (by omega),fun _=>by omega,E3⟩
  case measure=>simp[intOf]
theorem K1:∀m:Int,Pm m:=by
 have key:∀n:Nat,∀m:Int,m<=(n:Int)-100000->Pm m:=by
  intro n;induction n with
  |zero=>intro m hm w u s k p left lv D deep hk hnt h hlm hl;exact absurd hl (by omega)
  |succ n ih=>intro m hm;exact Py m fun m' hm'=>ih m' (by omega)
 intro m;exact key (m+100000).toNat m (by omega)
end Go.Proofs.YtjpobijiblcgaaaGreat
