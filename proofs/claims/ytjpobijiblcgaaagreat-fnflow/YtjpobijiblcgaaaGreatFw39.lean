import Derived.Test.YtjpobijiblcgaaaGreatFw0
import Derived.Test.YtjpobijiblcgaaaGreatFw32
namespace Go.Proofs.YtjpobijiblcgaaaGreat
open Go.ChangeShapes Go.WideShapes Go.ChangeAt Go.RowKit
set_option linter.unusedVariables false
set_option maxHeartbeats 8000000
set_option maxRecDepth 100000
theorem PE:N8 0 8 1:=by
 intro w u s k p left lv D t deep hk h hd hd2 hp hl ht;have HK:Hid (CY k/\True/\BN t):=⟨hk,trivial,ht⟩
 have hl2:=h.le hk;have E0:=Ah h;obtain⟨_,_,q0,_⟩:=h.cells;clear hk h ht;have hd':decide (deep<=0)=true:=by simpa using hd
 go_enter Tryz.func54,Tryz.ntmps54;go_wp2_with fail
 refine(CM w _ s k (p) (left) lv D _ HK.o.1 E0.o (by omega) (by omega) HK.o.2.2).mono ?_;rintro e u1 ⟨rfl,p1,l1,b1a,b1b,b1c,b1d,hh⟩;have E1:=Ah hh;clear hh;go_wp2_with fail
 refine aT (v:=.tuple #[]) (by kernel_rfl) rfl ?_;exact⟨rfl,p1,l1,by omega,by omega,by omega,by omega,E1.o⟩
theorem MY{n A P:Int}(hA:8<=A/\A<=10000000000)(hP:1<=P/\P<=1000)(hn:0<=n/\n<=1000)(ih:N8 n A P):N8 (n+1) (8*A+124) (8*P+1):=by
 intro w u s k p left lv D t deep hk h hd hd2 hp hl ht;have HK:Hid (CY k/\N8 n A P/\BN t):=⟨hk,ih,ht⟩
 have hl2:=h.le hk;have hgl:=hk.gl;have hp0:=h.src.low;have E0:=Ah h;obtain⟨_,_,q0,_,_,_,q4,_⟩:=h.cells;clear hk h ht ih;by_cases hdz:deep<=0
 case pos=>
  have hd':decide (deep<=0)=true:=by simpa using hdz
  go_enter Tryz.func54,Tryz.ntmps54;go_wp2_with fail
  refine(CM w _ s k (p) (left) lv D _ HK.o.1 E0.o (by omega) (by omega) HK.o.2.2).mono ?_;rintro e u1 ⟨rfl,p1,l1,b1a,b1b,b1c,b1d,hh⟩;have E1:=Ah hh;clear hh;go_wp2_with fail
  refine aT (v:=.tuple #[]) (by kernel_rfl) rfl ?_;exact⟨rfl,p1,l1,by omega,by omega,by omega,by omega,E1.o⟩
 by_cases hl6:left<6
 case pos=>
  have hl6':decide (left<6)=true:=by simpa using hl6
  go_enter Tryz.func54,Tryz.ntmps54;go_wp2_with fail
  refine(CM w _ s k (p) (left) lv D _ HK.o.1 E0.o (by omega) (by omega) HK.o.2.2).mono ?_;rintro e u1 ⟨rfl,p1,l1,b1a,b1b,b1c,b1d,hh⟩;have E1:=Ah hh;clear hh;go_wp2_with fail
  refine aT (v:=.tuple #[]) (by kernel_rfl) rfl ?_;exact⟨rfl,p1,l1,by omega,by omega,by omega,by omega,E1.o⟩
 have hwd:IntKind.i64.wrap (deep-1)=deep-1:=bp _ ⟨by omega,by omega⟩;go_enter Tryz.func54,Tryz.ntmps54;go_wp2_with fail
 refine(Ai E0.o.src).mono ?_;rintro e u1 ⟨r1,h1a,h1b,rfl,hs,hd'⟩;have E1:=Ah (E0.o.draw hs hd');clear hs hd' q0;clear q4;cases e0:(r1==0)
 case true=>
  have EA:Hid (GS w (u1.alloc (.cells #[.int .i64 1,.int .i64 2,.int .i64 3] 2)) s k (p+1) (left) lv 0 D):=E1.o.keep (Aa _ _);go_wp2_with fail
  refine(Ai EA.o.src).mono ?_;rintro e u2 ⟨r2,h2a,h2b,rfl,hs,hd'⟩;obtain⟨vl,hvl,hv0,hv1⟩:=RC r2 h2a h2b
  have hcl:u2.cell? ⟨u1.heap.size,r2.toNat,none⟩=some (.int .i64 vl):=by
   have hlt:=E1.o.src.lt;rw[hd'.cell (by simp) (by show u1.heap.size≠s.S;omega),dY _ _ _ _ _ _ (dT _ _)];exact hvl
  have E2:=Ah (EA.o.draw hs hd');clear hs hd' EA hvl;by_cases hvt:vl=t
  case pos=>
   have hvt':(vl != t)=false:=by simpa using hvt
   clear hvt;go_wp2_with fail
   refine(CM w _ s k (p+1+1) (left) lv D _ HK.o.1 E2.o (by omega) (by omega) HK.o.2.2).mono ?_;rintro e u3 ⟨rfl,p3,l3,b3a,b3b,b3c,b3d,hh⟩;have E3:=Ah hh;clear hh;go_wp2_with fail
   refine bK (v:=.tuple #[]) (by kernel_rfl) rfl ?_;exact⟨rfl,p3,l3,by omega,by omega,by omega,by omega,E3.o⟩
  case neg=>
   have hvt':(vl != t)=true:=by simpa using hvt
   go_wp2_with fail
   refine(HK.o.2.1 w _ s k (p+1+1) (left) lv D _ _ HK.o.1 E2.o (by omega) (by omega) (by omega) (by omega) Ag).mono ?_;rintro e u3 ⟨rfl,p3,l3,b3a,b3b,b3c,b3d,hh⟩;have E3:=Ah hh;clear hh;go_wp2_with fail
   refine(Ar HK.o.1 E3.o (by omega) Ag Ag HK.o.2.2 Ag).mono ?_;rintro e u4 ⟨n4,rfl,hn4,hh⟩;have E4:=Ah hh;clear hh;go_wp2_with fail
   refine aT (v:=.tuple #[]) (by kernel_rfl) rfl ?_;exact⟨rfl,p3,l3-1,by omega,by omega,by omega,by omega,E4.o⟩
 case false=>
  cases e1:(r1==1)
  case true=>
   go_wp2_with fail
   refine(Gd w _ s k (p+1) left lv 0 D t HK.o.1 E1.o (by omega)).mono ?_;rintro e u2 ⟨f2,rfl,hf0,hf1,p2,hq1,hq2,hs,hd'⟩;have E2:=Ah (E1.o.draw hs hd');clear hs hd';by_cases hf:f2>=0
   case pos=>
    obtain⟨fq,rfl⟩:=aq (show 0<=f2 by omega);go_wp2_with fail
    refine(Hr hA hP HK.o.2.1 w _ s k p2 left lv D fq _ HK.o.1 E2.o (by omega) (by omega) (by omega) (by omega) (by omega) (by omega)).mono ?_;rintro e u3 ⟨rfl,p3,l3,b3a,b3b,b3c,b3d,hh⟩;have E3:=Ah hh;clear hh;go_wp2_with fail
    refine aT (v:=.tuple #[]) (by kernel_rfl) rfl ?_;exact⟨rfl,p3,l3,by omega,by omega,by omega,by omega,E3.o⟩
   case neg=>
    go_wp2_with fail
    refine(CM w _ s k (p2) (left) lv D _ HK.o.1 E2.o (by omega) (by omega) HK.o.2.2).mono ?_;rintro e u3 ⟨rfl,p3,l3,b3a,b3b,b3c,b3d,hh⟩;have E3:=Ah hh;clear hh;go_wp2_with fail
    refine bK (v:=.tuple #[]) (by kernel_rfl) rfl ?_;exact⟨rfl,p3,l3,by omega,by omega,by omega,by omega,E3.o⟩
  case false=>
   cases e2:(r1==2)
   case true=>
    go_wp2_with fail
    refine(Ai E1.o.src).mono ?_;rintro e u2 ⟨r2,h2a,h2b,rfl,hs,hd'⟩;have E2:=Ah (E1.o.draw hs hd');clear hs hd';obtain⟨q,rfl⟩:=aq h2a;obtain⟨gr,cr,xs,a,c,d0,d1,d2,hrd,hxl⟩:=E2.o.reg HK.o.1 (show q<3 by omega);go_wp2_with fail
    refine(Gf _ s (p+1+1) t _ xs E2.o.src (by omega) hrd (by omega)).mono ?_;rintro e u3 ⟨r3,m3,rfl,hr0,hr1,hm0,hm1,p3,hq1,hq2,hs,hd'⟩;have E3:=Ah (E2.o.draw hs hd');clear hs hd' hrd d0 d1 d2;by_cases hr3:r3>=0
    case pos=>
     go_wp2_with fail
     refine(HK.o.2.1 w _ s k (p3) (left) lv D _ _ HK.o.1 E3.o (by omega) (by omega) (by omega) (by omega) Ag).mono ?_;rintro e u4 ⟨rfl,p4,l4,b4a,b4b,b4c,b4d,hh⟩;have E4:=Ah hh;clear hh;go_wp2_with fail
     refine(Ar HK.o.1 E4.o (by omega) Ag Ag Ag Ag).mono ?_;rintro e u5 ⟨n5,rfl,hn5,hh⟩;have E5:=Ah hh;clear hh;go_wp2_with fail
     refine aT (v:=.tuple #[]) (by kernel_rfl) rfl ?_;exact⟨rfl,p4,l4-1,by omega,by omega,by omega,by omega,E5.o⟩
    case neg=>
     go_wp2_with fail
     refine(CM w _ s k (p3) (left) lv D _ HK.o.1 E3.o (by omega) (by omega) HK.o.2.2).mono ?_;rintro e u4 ⟨rfl,p4,l4,b4a,b4b,b4c,b4d,hh⟩;have E4:=Ah hh;clear hh;go_wp2_with fail
     refine bK (v:=.tuple #[]) (by kernel_rfl) rfl ?_;exact⟨rfl,p4,l4,by omega,by omega,by omega,by omega,E4.o⟩
   case false=>
    cases e3:(r1==3)
    case true=>
     go_wp2_with fail
     refine(Hh hA hP HK.o.2.1 w _ s k (p+1) (left) lv D _ _ HK.o.1 E1.o (by omega) (by omega) (by omega) (by omega) (by omega) HK.o.2.2).mono ?_;rintro e u2 ⟨rfl,p2,l2,b2a,b2b,b2c,b2d,hh⟩;have E2:=Ah hh;clear hh;go_wp2_with fail
     refine aT (v:=.tuple #[]) (by kernel_rfl) rfl ?_;exact⟨rfl,p2,l2,by omega,by omega,by omega,by omega,E2.o⟩
    case false=>
     cases e4:(r1==4)
     case true=>
      go_wp2_with fail
      refine(Hh hA hP HK.o.2.1 w _ s k (p+1) (left) lv D _ _ HK.o.1 E1.o (by omega) (by omega) (by omega) (by omega) (by omega) HK.o.2.2).mono ?_;rintro e u2 ⟨rfl,p2,l2,b2a,b2b,b2c,b2d,hh⟩;have E2:=Ah hh;clear hh;go_wp2_with fail
      refine aT (v:=.tuple #[]) (by kernel_rfl) rfl ?_;exact⟨rfl,p2,l2,by omega,by omega,by omega,by omega,E2.o⟩
     case false=>
      cases e5:(r1==5)
      case true=>
       go_wp2_with fail
       refine(Hh hA hP HK.o.2.1 w _ s k (p+1) (left) lv D _ _ HK.o.1 E1.o (by omega) (by omega) (by omega) (by omega) (by omega) HK.o.2.2).mono ?_;rintro e u2 ⟨rfl,p2,l2,b2a,b2b,b2c,b2d,hh⟩;have E2:=Ah hh;clear hh;go_wp2_with fail
       refine aT (v:=.tuple #[]) (by kernel_rfl) rfl ?_;exact⟨rfl,p2,l2,by omega,by omega,by omega,by omega,E2.o⟩
      case false=>
       go_wp2_with fail
       refine(CM w _ s k (p+1) (left) lv D _ HK.o.1 E1.o (by omega) (by omega) HK.o.2.2).mono ?_;rintro e u2 ⟨rfl,p2,l2,b2a,b2b,b2c,b2d,hh⟩;have E2:=Ah hh;clear hh;go_wp2_with fail
       refine bK (v:=.tuple #[]) (by kernel_rfl) rfl ?_;exact⟨rfl,p2,l2,by omega,by omega,by omega,by omega,E2.o⟩
theorem FD:N8 2 1628 73:=by
 have h1:=MY (n:=0) (A:=8) (P:=1) ⟨by omega,by omega⟩ ⟨by omega,by omega⟩ ⟨by omega,by omega⟩ PE;exact MY (n:=1) (A:=188) (P:=9) ⟨by omega,by omega⟩ ⟨by omega,by omega⟩ ⟨by omega,by omega⟩ h1
end Go.Proofs.YtjpobijiblcgaaaGreat
