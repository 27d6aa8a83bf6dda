import Derived.Test.YtjpobijiblcgaaaGreatFw0
import Derived.Test.YtjpobijiblcgaaaGreatFw4
import Derived.Test.YtjpobijiblcgaaaGreatFw35
import Derived.Test.YtjpobijiblcgaaaGreatFw53
import Derived.Deep.CutBlock
import Derived.Deep.DeepCutAuto
namespace Go.Proofs.YtjpobijiblcgaaaGreat
open Go.ChangeShapes Go.WideShapes Go.ChangeAt Go.RowKit
set_option linter.unusedVariables false
set_option maxHeartbeats 8000000
set_option maxRecDepth 100000
theorem KO (hB:Gy)(a0:Option Addr)(len0 cap0:Nat)(w:World)(hbig:len0<=1048576)(hc:EO w w.heap.size a0 len0):
 Calls Tryz.prog 3 #[.slice a0 len0 cap0] w fun e w'=>e=.returned (.bool true)/\Below w.heap.size w w':=by
 have HC:=Ah hc;have hbI:¬(1048576:Int)<(len0:Int):=by omega
 clear hc;go_enter Tryz.func3,Tryz.ntmps3;go_wp2_with fail
 refine(JU hB a0 len0 cap0 w (by omega) HC.o).mono ?_;rintro e w1 ⟨a,c,xs,rfl,hrd,hxl,hw,hb⟩;have H1:=Ah (aH hrd hb);clear hrd hw hb HC hbI;go_wp2_with fail
 refine(JX (.slice a xs.length c) xs w1 (by omega) H1.o.1).mono ?_;rintro e w2 ⟨r,vb,vo,vi,vl,F,ys,rfl,hok,how,hb2⟩;have hrf:=how.rdF;obtain⟨a1,c1,a2,c2,a3,c3,a4,c4,rfl,rfl,rfl,rfl⟩:=hrf.slF;have H2:=Ah (aH hok (aH hrf (aH (H1.o.2.trans (hb2.mono H1.o.2.size)) (H1.o.1.keep hb2 lR))));clear hok hrf how hb2 H1;have HB0:Hid (An (w2.alloc (.cells #[.int .i64 r.code,.int .i64 r.at_,.slice a1 r.blocks.length c1,.slice a2 r.order.length c2,.slice a3 r.idom.length c3,.slice a4 r.loops.length c4] 29)) w2.heap.size #[.int .i64 r.code,.int .i64 r.at_,.slice a1 r.blocks.length c1,.slice a2 r.order.length c2,.slice a3 r.idom.length c3,.slice a4 r.loops.length c4] 29/\Below w2.heap.size w2 (w2.alloc (.cells #[.int .i64 r.code,.int .i64 r.at_,.slice a1 r.blocks.length c1,.slice a2 r.order.length c2,.slice a3 r.idom.length c3,.slice a4 r.loops.length c4] 29))):=⟨An.new _ _ _,Aa _ _⟩
 go_upto_region 5 with fail
 generalize hX:w2.heap.size=X at HB0⊢;refine Al (fun U=>Hid (An U X #[.int .i64 r.code,.int .i64 r.at_,.slice a1 r.blocks.length c1,.slice a2 r.order.length c2,.slice a3 r.idom.length c3,.slice a4 r.loops.length c4] 29/\Below w2.heap.size w2 U)) (by rw[hX];exact HB0) ?_
 clear HB0;rintro U1 HU;have HU1:=Ah (aH (H2.o.2.1.keepF HU.o.2) (aH (H2.o.2.2.1.trans (HU.o.2.mono H2.o.2.2.1.size)) (H2.o.2.2.2.keep HU.o.2 lR)));have HO:=Ah H2.o.1;have HBk:=Ah HU.o.1;clear HU H2 hX;rcases HO.o.law with⟨hne,hbl⟩|⟨h0,hg,hbs,n,S,hG⟩
 case inl=>
  have k0:U1.cell? ⟨X,0,none⟩=some (.int .i64 r.code):=HBk.o.cell 0;have hn0:(r.code==0)=false:=by rw[cT];exact hne
  have HBL:=Ah hbl;clear hbl;go_wp2_with fail
  refine(Dp (.slice a xs.length c) xs U1 (by omega) HU1.o.2.2).mono ?_;rintro e U2 ⟨r',vb,vo,vi,vl,rfl,hok,hrf,hb2⟩;obtain rfl:=HO.o.one hok;obtain⟨b1,d1,b2,d2,b3,d3,b4,d4,rfl,rfl,rfl,rfl⟩:=hrf.slF
  have HB0:Hid (An (U2.alloc (.cells #[.int .i64 r.code,.int .i64 r.at_,.slice b1 r.blocks.length d1,.slice b2 r.order.length d2,.slice b3 r.idom.length d3,.slice b4 r.loops.length d4] 29)) X #[.int .i64 r.code,.int .i64 r.at_,.slice a1 r.blocks.length c1,.slice a2 r.order.length c2,.slice a3 r.idom.length c3,.slice a4 r.loops.length c4] 29/\An (U2.alloc (.cells #[.int .i64 r.code,.int .i64 r.at_,.slice b1 r.blocks.length d1,.slice b2 r.order.length d2,.slice b3 r.idom.length d3,.slice b4 r.loops.length d4] 29)) U2.heap.size #[.int .i64 r.code,.int .i64 r.at_,.slice b1 r.blocks.length d1,.slice b2 r.order.length d2,.slice b3 r.idom.length d3,.slice b4 r.loops.length d4] 29/\Below w.heap.size w (U2.alloc (.cells #[.int .i64 r.code,.int .i64 r.at_,.slice b1 r.blocks.length d1,.slice b2 r.order.length d2,.slice b3 r.idom.length d3,.slice b4 r.loops.length d4] 29))):=⟨(HBk.o.keep hb2).keep (Aa _ _),An.new _ _ _,(HU1.o.2.1.trans (hb2.mono HU1.o.2.1.size)).trans ((Aa _ _).mono (aY HU1.o.2.1.size hb2.size))⟩
  clear hok hrf hb2 k0;go_upto_region 7 with fail
  generalize U2.heap.size=X2 at HB0⊢;refine Al (fun U=>Hid (An U X #[.int .i64 r.code,.int .i64 r.at_,.slice a1 r.blocks.length c1,.slice a2 r.order.length c2,.slice a3 r.idom.length c3,.slice a4 r.loops.length c4] 29/\An U X2 #[.int .i64 r.code,.int .i64 r.at_,.slice b1 r.blocks.length d1,.slice b2 r.order.length d2,.slice b3 r.idom.length d3,.slice b4 r.loops.length d4] 29/\Below w.heap.size w U)) HB0 ?_
  clear HB0;rintro U3 HU;have k0:U3.cell? ⟨X,0,none⟩=some (.int .i64 r.code):=HU.o.1.cell 0;have k1:U3.cell? ⟨X,1,none⟩=some (.int .i64 r.at_):=HU.o.1.cell 1;have k2:U3.cell? ⟨X,2,none⟩=some (.slice a1 r.blocks.length c1):=HU.o.1.cell 2;have l0:U3.cell? ⟨X2,0,none⟩=some (.int .i64 r.code):=HU.o.2.1.cell 0;have l1:U3.cell? ⟨X2,1,none⟩=some (.int .i64 r.at_):=HU.o.2.1.cell 1;have hbl0:r.blocks.length=0:=by rw[HBL.o];rfl
  go_wp2_with fail
  go_ret
  exact⟨rfl,HU.o.2.2⟩
 case inr =>
  obtain⟨gb,ob,go,oo,gi,oi,e1,e2,e3,hL⟩:=Lw.start HU1.o.1 HBk.o hg hbs hG HU1.o.2.1;subst e1 e2 e3;have hG1:=hG;generalize nx (Ap xs)=E at hL hG1;have HG:=Ah hG1;have HL:=Ah hL;have hn1:=hG1.n1;have hn2:=hG1.n2;clear hL hG hG1 hbs HBk HU1 HO hg;obtain⟨k0,k2,k3,k4,k5⟩:=HL.o.box;rw[h0]at k0;go_wp2_with fail
  go_loopw [7,8] (fun av bv wr=>∃q:Nat,q<=n/\av=.int .i64 (S q:Int)/\bv=.int .i64 (q:Int)/\U1=wr) (fun _ bv _=>n-(intOf bv).toNat)
  case atStart=>exact⟨0,by omega,by rw[HG.o.s0];rfl,rfl,rfl⟩
  case round=>
   obtain⟨q,hq,rfl,rfl,rfl⟩:=hrel;by_cases hlt:q<n
   case pos=>
    have hltI:(q:Int)<(n:Int):=by omega
    obtain⟨m,hm⟩:∃m,r.blocks[q]?=some m:=⟨_,aA (by rw[HG.o.bl];exact hlt)⟩;obtain⟨e1,e2,e3,e4⟩:=HG.o.cut q m hm;obtain⟨m1,m2⟩:=HL.o.block hm;rw[e1]at m1;rw[e2]at m2;clear hm e1 e2;have hl1:¬(S (q+1):Int)-1<(S q:Int):=by omega
    have hw1:IntKind.i64.wrap ((S (q+1):Int)-1+1)=(S (q+1):Int):=by rw[Int.sub_add_cancel];exact Ea (by omega)
    go_wp2_with fail
    go_roundw
    case rel=>exact⟨q+1,by omega,rfl,by go_num,by first|rfl|trivial⟩
    case measure=>simp[intOf];omega
   case neg =>
    have hltI:¬(q:Int)<(n:Int):=by omega
    have hqn:q=n:=by omega
    have hS:((S q:Int) != (xs.length:Int))=false:=by rw[hqn,HG.o.sn];simp
    have hN:((n:Int)==0)=false:=by rw[cT];omega
    have o0:=HL.o.rd.order;have o0:=Rd.intAt HL.o.rd.order HG.o.o0;have i0:=Rd.intAt HL.o.rd.idom HG.o.i0;simp only[aw]at o0 i0;clear hqn;have hgt:(0:Int)<(n:Int):=by omega
    go_wp2_with fail
    skip
    clear k0 k2 k3 k4 k5 o0 i0 hS hltI hlt hq;go_loopw [9] (fun bv wr=>∃q:Nat,1<=q/\q<=n/\bv=.int .i64 (q:Int)/\Hid (Lw w wr X gb ob c1 go oo c2 gi oi c3 a4 c4 r n E)) (fun bv _=>n-(intOf bv).toNat)
    case atStart=>exact⟨1,by omega,by omega,rfl,HL.o⟩
    case round=>
     clear HL;obtain⟨b,hb1,hb,rfl,HL⟩:=hrel;by_cases hlt:b<n
     case pos=>
      have hltI:(b:Int)<(n:Int):=by omega
      obtain⟨d,hd,hdb,hi,hr1,hr2,hr3⟩:=HG.o.idm b (by omega) hlt;have HR:=Ah (aH hr1 (aH hr2 hr3));clear hr1 hr2 hr3;obtain⟨k0,k2,k3,k4,k5⟩:=HL.o.box;have i1:=Rd.intAt HL.o.rd.idom hi;clear hi;have hd0:¬(d:Int)<0:=by omega
      have hdn:¬(n:Int)<=(d:Int):=by omega
      have hdb':((d:Int)==(b:Int))=false:=by rw[cT];omega
      go_wp2_with fail
      refine(HL.o.reach HG.o hlt (d:Int)).mono ?_;rintro e V1 ⟨bb,rfl,hbb,hbel⟩;obtain rfl:false=bb:=by cases bb with|false=>rfl|true=>exact absurd (hbb.1 rfl) HR.o.1
      have HL2:=Ah (HL.o.keep hbel);clear hbb hbel HL k0 k2 k3 k4 k5 i1;have HL:=HL2;clear HL2;obtain⟨k0,k2,k3,k4,k5⟩:=HL.o.box;go_wp2_with fail
      refine(HL.o.reach HG.o hlt (-1)).mono ?_;rintro e V2 ⟨bb,rfl,hbb,hbel⟩;obtain rfl:true=bb:=(hbb.2 HR.o.2.1).symm;have HL2:=Ah (HL.o.keep hbel);clear hbb hbel HL k0 k2 k3 k4 k5;have HL:=HL2;clear HL2;go_wp2_with fail
      go_loopw [11] (fun kv wr=>∃j:Nat,j<=n/\kv=.int .i64 (j:Int)/\Hid (Lw w wr X gb ob c1 go oo c2 gi oi c3 a4 c4 r n E)) (fun kv _=>n-(intOf kv).toNat)
      case atStart=>exact⟨0,by omega,rfl,HL.o⟩
      case round=>
       clear HL;obtain⟨j,hj,rfl,HL⟩:=hrel;by_cases hjn:j<n
       case pos=>
        have hjI:(j:Int)<(n:Int):=by omega
        by_cases hjd:j=d
        case pos=>
         subst hjd;go_wp2_with fail
         go_roundw
         case rel=>exact⟨j+1,by omega,by go_num,HL.o⟩
         case measure=>simp[intOf];omega
        case neg=>
         have hj1:((j:Int)==(d:Int))=false:=by rw[cT];omega
         by_cases hjb:j=b
         case pos=>
          subst hjb;go_wp2_with fail
          go_roundw
          case rel=>exact⟨j+1,by omega,by go_num,HL.o⟩
          case measure=>simp[intOf];omega
         case neg=>
          have hj2:((j:Int)==(b:Int))=false:=by rw[cT];omega
          obtain⟨k0,k2,k3,k4,k5⟩:=HL.o.box;go_wp2_with fail
          refine(HL.o.reach HG.o hlt (j:Int)).mono ?_;rintro e V3 ⟨bb,rfl,hbb,hbel⟩;have HL2:=Ah (HL.o.keep hbel);have HQ:=Ah hbb;clear hbb hbel HL k0 k2 k3 k4 k5;have HL:=HL2;clear HL2;cases bb with
          | true=>
            go_wp2_with fail
            go_roundw
            case rel=>exact⟨j+1,by omega,by go_num,HL.o⟩
            case measure=>simp[intOf];omega
          | false=>
            obtain⟨k0,k2,k3,k4,k5⟩:=HL.o.box;go_wp2_with fail
            refine(HL.o.reach HG.o hd (j:Int)).mono ?_;rintro e V4 ⟨bb,rfl,hbb,hbel⟩;obtain rfl:false=bb:=by cases bb with|false=>rfl|true=>exact absurd (hbb.1 rfl) (HR.o.2.2 j hjd hjb fun q=>absurd (HQ.o.2 q) (by decide))
            have HL2:=Ah (HL.o.keep hbel);clear hbb hbel HL k0 k2 k3 k4 k5;have HL:=HL2;clear HL2;go_wp2_with fail
            go_roundw
            case rel=>exact⟨j+1,by omega,by go_num,HL.o⟩
            case measure=>simp[intOf];omega
       case neg=>
        have hjI:¬(j:Int)<(n:Int):=by omega
        go_wp2_with fail
        go_roundw
        case rel=>exact⟨b+1,by omega,by omega,by go_num,HL.o⟩
        case measure=>simp[intOf];omega
     case neg=>
      have hltI:¬(b:Int)<(n:Int):=by omega
      obtain⟨k0,k2,k3,k4,k5⟩:=HL.o.box;go_wp2_with fail
      clear k0 k2 k3 k4 k5 hltI hlt hb hb1;go_loopw [12] (fun iv wr=>∃i:Nat,i<=r.loops.length/\iv=.int .i64 (i:Int)/\Hid (Lw w wr X gb ob c1 go oo c2 gi oi c3 a4 c4 r n E)) (fun iv _=>r.loops.length-(intOf iv).toNat)
      case atStart=>exact⟨0,by omega,rfl,HL.o⟩
      case round=>
       clear HL;obtain⟨i,hi,rfl,HL⟩:=hrel;obtain⟨k0,k2,k3,k4,k5⟩:=HL.o.box;have hll:=HG.o.ll;by_cases hlt:i<r.loops.length
       case neg=>
        have hltI:¬(i:Int)<(r.loops.length:Int):=by omega
        go_wp2_with fail
        go_ret
        exact⟨rfl,HL.o.bel⟩
       case pos=>
        have hltI:(i:Int)<(r.loops.length:Int):=by omega
        obtain⟨l,hl⟩:∃l,r.loops[i]?=some l:=⟨_,aA hlt⟩;obtain⟨gl,ol,ea,b1,d1,b2,d2,m0,m1,m2,mr⟩:=HL.o.loop hl;obtain⟨hbk,hbs,h,hh,ehd,hbd⟩:=HG.o.lp i l hl;rw[ehd]at m0;have HI:Hid (r.loops[i]?=some l/\l.head=(h:Int)/\∀(k:Nat) (y:Int),l.blocks[k]?=some y->∃b:Nat,y=(b:Int)/\b<n/\¬CX E (fun y=>(y:Int)≠(h:Int)) 0 b):=⟨hl,ehd,hbd⟩
        clear hl ehd hbd;have HW:Hid (Lw w (wr.alloc (.cells #[.int .i64 (h:Int),.slice b1 l.back.length d1,.slice b2 l.blocks.length d2] 35)) X gb ob c1 go oo c2 gi oi c3 a4 c4 r n E/\An (wr.alloc (.cells #[.int .i64 (h:Int),.slice b1 l.back.length d1,.slice b2 l.blocks.length d2] 35)) wr.heap.size #[.int .i64 (h:Int),.slice b1 l.back.length d1,.slice b2 l.blocks.length d2] 35/\Rd (wr.alloc (.cells #[.int .i64 (h:Int),.slice b1 l.back.length d1,.slice b2 l.blocks.length d2] 35)) 1 (.slice b2 l.blocks.length d2) l.blocks.length (l.blocks.flatMap Ab)):=⟨HL.o.keep (Aa _ _),An.new _ _ _,mr.keep (Aa _ _) lR⟩
        clear mr;subst ea;go_upto_region 33 with fail
        generalize wr.heap.size=Y at HW⊢;refine Al (fun U=>Hid (Lw w U X gb ob c1 go oo c2 gi oi c3 (some ⟨gl,ol,none⟩) c4 r n E/\An U Y #[.int .i64 (h:Int),.slice b1 l.back.length d1,.slice b2 l.blocks.length d2] 35/\Rd U 1 (.slice b2 l.blocks.length d2) l.blocks.length (l.blocks.flatMap Ab))) HW ?_
        clear HW HL k0 k2 k3 k4 k5 m0 m1 m2;rintro V1 HW;have hb0:((l.back.length:Int)==0)=false:=by rw[cT];omega
        have hs0:((l.blocks.length:Int)==0)=false:=by rw[cT];omega
        have hbl:=hbs.2;have HWD:=Ah (aH (HW.o.1.keep (Ad _)) (aH (HW.o.2.1.keep (Ad _)) (HW.o.2.2.keep (Ad _) lR)));clear HW;go_cut [215] (fun sv wx=>sv=.bool false/\Hid (Lw w wx X gb ob c1 go oo c2 gi oi c3 (some ⟨gl,ol,none⟩) c4 r n E/\An wx Y #[.int .i64 (h:Int),.slice b1 l.back.length d1,.slice b2 l.blocks.length d2] 35/\Rd wx 1 (.slice b2 l.blocks.length d2) l.blocks.length (l.blocks.flatMap Ab)))
        case first=>
         by_cases hi0:i=0
         case pos=>
          subst hi0;refine wp_region_held_drew (S:=fun W=>W.cell? ⟨Y,0,none⟩=some (.int .i64 (h:Int))/\W.cell? ⟨Y,1,none⟩=some (.slice b1 l.back.length d1)/\W.cell? ⟨Y,2,none⟩=some (.slice b2 l.blocks.length d2)) (by kernel_rfl) (by exact⟨HWD.o.2.1.cell 0,HWD.o.2.1.cell 1,HWD.o.2.1.cell 2⟩) (fun hHeld=> ?_)
          generalize V1.drew=VD at HWD hHeld⊢;refine Ak 0 ?_;refine Ak 1 ?_;refine Ak 2 ?_;refine Ak 3 ?_;go_simp;refine Ak 4 ?_;refine Ak 5 ?_;refine Ak 6 ?_;refine Ak 7 ?_;go_simp;refine Ak 8 ?_;refine Ak 9 ?_;refine Ak 10 ?_;refine Ak 11 ?_;go_simp;refine Ak 12 ?_;refine Ak 13 ?_;refine Kk 14 ?_;refine Kk 15 ?_;go_simp;refine Kk 16 ?_;refine Kk 17 ?_;refine Kk 18 ?_;refine Kk 19 ?_;go_simp;refine Kk 20 ?_;refine Kk 21 ?_;refine Kk 22 ?_;refine Kk 23 ?_;go_simp;refine Ak 24 ?_;refine Ak 25 ?_;refine wpAnyH_done (by kernel_rfl) ?_ _;clear hHeld;go_simp;go_wp2_with fail
          go_meet
          case rel=>exact⟨rfl,HWD.o⟩
         case neg=>
          obtain⟨i',rfl⟩:∃i',i=i'+1:=⟨i-1,by omega⟩;have hw1:IntKind.i64.wrap (i':Int)=(i':Int):=Ea (by omega);obtain⟨l',hl'⟩:∃l',r.loops[i']?=some l':=⟨_,aA (by omega)⟩;obtain⟨gl',ol',ea,_,_,_,_,m0,_⟩:=HWD.o.1.loop hl';simp only[aJ,bf,cg]at ea;obtain⟨rfl,rfl⟩:=ea;have hlr:=HG.o.lr i' l' l hl' HI.o.1;rw[HI.o.2.1]at hlr;have hge:¬(h:Int)<=l'.head:=by omega
          have hi1:(0:Int)<((i'+1:Nat):Int):=by omega
          have hi2:(i':Int)<(r.loops.length:Int)/\i'<r.loops.length:=by omega
          have k5:=HWD.o.1.box.2.2.2.2;refine wp_region_held_drew (S:=fun W=>(W.cell? ⟨Y,0,none⟩=some (.int .i64 (h:Int))/\W.cell? ⟨Y,1,none⟩=some (.slice b1 l.back.length d1)/\W.cell? ⟨Y,2,none⟩=some (.slice b2 l.blocks.length d2))/\W.cell? ⟨X,5,none⟩=some (.slice (some ⟨gl,ol,none⟩) r.loops.length c4)/\W.cell? ⟨gl,ol+i'*3,none⟩=some (.int .i64 l'.head)) (by kernel_rfl) (by exact⟨⟨HWD.o.2.1.cell 0,HWD.o.2.1.cell 1,HWD.o.2.1.cell 2⟩,k5,m0⟩) (fun hHeld=> ?_)
          clear k5 m0;generalize V1.drew=VD at HWD hHeld⊢;refine Ak 0 ?_;refine Ak 1 ?_;refine Ak 2 ?_;refine Ak 3 ?_;go_simp;refine Ak 4 ?_;refine Ak 5 ?_;refine Ak 6 ?_;refine Ak 7 ?_;go_simp;refine Ak 8 ?_;refine Ak 9 ?_;refine Ak 10 ?_;refine Ak 11 ?_;go_simp;refine Ak 12 ?_;refine Ak 13 ?_;refine Ak 14 ?_;refine Ak 15 ?_;go_simp;refine Ak 16 ?_;refine Ak 17 ?_;refine Ak 18 ?_;refine Ak 19 ?_;go_simp;refine Ak 20 ?_;refine Ak 21 ?_;refine Ak 22 ?_;refine Ak 23 ?_;go_simp;refine Ak 24 ?_;refine Ak 25 ?_;refine wpAnyH_done (by kernel_rfl) ?_ _;clear hHeld;go_simp;go_wp2_with fail
          go_meet
          case rel=>exact⟨rfl,HWD.o⟩
        case rest=>
         clear HWD;obtain⟨rfl,HW⟩:=hcut;go_wp2_with fail
         go_loopw [14] (fun kv wr=>∃k:Nat,k<=l.blocks.length/\kv=.int .i64 (k:Int)/\Hid (Lw w wr X gb ob c1 go oo c2 gi oi c3 (some ⟨gl,ol,none⟩) c4 r n E/\An wr Y #[.int .i64 (h:Int),.slice b1 l.back.length d1,.slice b2 l.blocks.length d2] 35/\Rd wr 1 (.slice b2 l.blocks.length d2) l.blocks.length (l.blocks.flatMap Ab))) (fun kv _=>l.blocks.length-(intOf kv).toNat)
         case atStart=>exact⟨0,by omega,rfl,HW.o⟩
         case round=>
          clear HW;obtain⟨k,hk,rfl,HW⟩:=hrel;have y2:wr.cell? ⟨Y,2,none⟩=some (.slice b2 l.blocks.length d2):=HW.o.2.1.cell 2;by_cases hkl:k<l.blocks.length
          case neg=>
           have hkI:¬(k:Int)<(l.blocks.length:Int):=by omega
           have HL:=HW.o.1;go_wp2_with fail
           go_roundw
           case rel=>exact⟨i+1,by omega,by go_num,HW.o.1⟩
           case measure=>simp[intOf];omega
          case pos=>
           have hkI:(k:Int)<(l.blocks.length:Int):=by omega
           obtain⟨y,hy⟩:∃y,l.blocks[k]?=some y:=⟨_,aA hkl⟩;obtain⟨t,rfl,htn,htr⟩:=HI.o.2.2 k y hy;obtain⟨g2,o2,eb⟩:=HW.o.2.2.addr (by omega);subst eb;go_upto_region 38 with fail
           clear y2;have HWD:=Ah (aH (HW.o.1.keep (Ad _)) (aH (HW.o.2.1.keep (Ad _)) (HW.o.2.2.keep (Ad _) lR)));clear HW;refine wp_region_held_drew (S:=fun W=>W.cell? ⟨X,2,none⟩=some (.slice (some ⟨gb,ob,none⟩) n c1)/\W.cell? ⟨Y,2,none⟩=some (.slice (some ⟨g2,o2,none⟩) l.blocks.length d2)/\W.cell? ⟨g2,o2+k,none⟩=some (.int .i64 (t:Int))/\W.cell? ⟨Y,0,none⟩=some (.int .i64 (h:Int))) (by kernel_rfl) (by exact⟨HWD.o.1.box.2.1,HWD.o.2.1.cell 2,Rd.intAt HWD.o.2.2 hy,HWD.o.2.1.cell 0⟩) (fun hHeld=> ?_)
           generalize wr.drew=VD at HWD hHeld⊢;refine Ak 0 ?_;refine Ak 1 ?_;refine Ak 2 ?_;refine Ak 3 ?_;go_simp;refine Ak 4 ?_;refine Ak 5 ?_;refine Ak 6 ?_;refine Ak 7 ?_;go_simp;refine Ak 8 ?_;refine rdH 9 ?_;intro KC hKC;go_simp;refine(HWD.o.1.reach HG.o htn (h:Int)).mono ?_;rintro e V2 ⟨bb,rfl,hbb,hbel⟩;obtain rfl:false=bb:=by cases bb with|false=>rfl|true=>exact absurd (hbb.1 rfl) htr
           have HW:=Ah (aH (HWD.o.1.keep hbel) (aH (HWD.o.2.1.keep hbel) (HWD.o.2.2.keep hbel lR)));clear hbb hbel HWD;refine hKC.o _ _ (by exact⟨HW.o.1.box.2.1,HW.o.2.1.cell 2,Rd.intAt HW.o.2.2 hy,HW.o.2.1.cell 0⟩) (fun hHeld=> ?_);clear hKC KC;refine Ak 10 ?_;refine Kk 11 ?_;refine Kk 12 ?_;refine Kk 13 ?_;go_simp;refine Kk 14 ?_;refine Kk 15 ?_;refine Kk 16 ?_;refine Kk 17 ?_;go_simp;refine Kk 18 ?_;refine Ak 19 ?_;refine wpAnyH_done (by kernel_rfl) ?_ _;clear hHeld;go_simp;go_wp2_with fail
           go_roundw
           case rel=>exact⟨k+1,by omega,by go_num,HW.o⟩
           case measure=>simp[intOf];omega
end Go.Proofs.YtjpobijiblcgaaaGreat
