import Derived.Test.YtjpobijiblcgaaaGreatFw0
import Derived.Test.YtjpobijiblcgaaaGreatFw4
import Derived.Test.YtjpobijiblcgaaaGreatFw32
import Derived.Test.YtjpobijiblcgaaaGreatFw47
import Derived.Test.YtjpobijiblcgaaaGreatFw51
import Derived.Test.YtjpobijiblcgaaaGreatFw34
import Derived.Test.YtjpobijiblcgaaaGreatFw31
namespace Go.Proofs.YtjpobijiblcgaaaGreat
open Go.ChangeShapes Go.WideShapes Go.ChangeAt Go.RowKit
set_option linter.unusedVariables false
set_option maxHeartbeats 16000000
set_option maxRecDepth 100000
def FF(F:List (List Int×Value)):Prop:=F.length=3/\(∀x∈F,x.1.length<=100)/\∀x∈F,∀z∈x.1,BN z
def G0(y:MF×VF):Prop:=y.1.params.length<=8/\(3<=y.1.locals.length/\y.1.locals.length<=1000)/\y.1.wf
theorem MG{w U:World}{s:Cv}{p:Int}{v v':VP}{F:List (List Int×Value)}{cs:List MC}{G:List (MF×VF)}{ts:List MT}{P RB:Nat}(h:Bs w U s p (Ae v F cs G ts (gb P v'::[gb RB vN]))):Bs w ((((U.setCell ⟨RB,0,none⟩ v.r).setCell ⟨RB,1,none⟩ v.k).setCell ⟨RB,2,none⟩ v.f).setCell ⟨RB,3,none⟩ v.t) s p (Ae v F cs G ts (gb P v'::[gb RB v]))/\(U.cell? ⟨RB,0,none⟩=some sN/\U.cell? ⟨RB,1,none⟩=some sN/\U.cell? ⟨RB,2,none⟩=some sN/\U.cell? ⟨RB,3,none⟩=some sN)/\(U.frozen? ⟨RB,0,none⟩=false/\U.frozen? ⟨RB,1,none⟩=false/\U.frozen? ⟨RB,2,none⟩=false/\U.frozen? ⟨RB,3,none⟩=false):=
 ⟨Bs.setp (D:=[gb P v']) (Bs.setp (D:=[gb P v']) (Bs.setp (D:=[gb P v']) (Bs.setp (D:=[gb P v']) h 0 (by omega) v.r) 1 (by omega) v.k) 2 (by omega) v.f) 3 (by omega) v.t,h.four (P:=RB) (v:=vN) (As (by simp))⟩
theorem Qk{F:List (List Int×Value)}{cs:List MC}{G:List (MF×VF)}{ts:List MT}{n:Nat}(hF:FF F)(hq:GQ n n G)(hn:1<=n/\n<=4)(hc:cs.length<=100000)(hcw:∀x∈cs,x.wf)(ht:ts.length<=64)(htw:∀x∈ts,x.wf):PB 100000 ⟨F.map Prod.fst,cs,G.map Prod.fst,ts⟩:=by
 refine⟨?_,?_,fun r hr=> ?_,hc,by show ts.length<=100000;omega,fun f hf=> ?_,⟨fun r hr=> ?_,hcw,fun f hf=> ?_,htw⟩⟩
 . simp only[aj]
   have:=hq.len;omega
 . simp only[aj]
   have:=hF.1;omega
 . obtain⟨x,hx,rfl⟩:=bJ.1 hr
   have:=hF.2.1 x hx;omega
 . obtain⟨y,hy,rfl⟩:=bJ.1 hf
   have:=hq.fn y hy;omega
 . obtain⟨x,hx,rfl⟩:=bJ.1 hr
   exact hF.2.2 x hx
 . obtain⟨y,hy,rfl⟩:=bJ.1 hf
   exact(hq.fn y hy).2.2.2
theorem MH{u U:World}{s:Cv}{p p':Int}{v:VP}{F:List (List Int×Value)}{cs:List MC}{G:List (MF×VF)}{ts:List MT}{D:List Av}{n:Nat}(h:Bs u U s p' (Ae v F cs G ts D))(hF:FF F)(hq:GQ n n G)(hn:1<=n/\n<=4)(hc:cs.length<=100000)(hcw:∀x∈cs,x.wf)(ht:ts.length<=64)(htw:∀x∈ts,x.wf)(h1:p<=p')(h2:p'<=p+3000000000){e:Ending}(he:e=.returned (.agg #[v.r,v.k,v.f,v.t])):Q6 s p 3000000000 100000 u e U:=by
 exact⟨v,⟨F.map Prod.fst,cs,G.map Prod.fst,ts⟩,he,h.sep.ownP.tells,Qk hF hq hn hc hcw ht htw,(by show(F.map Prod.fst).length=3;rw[aj];exact hF.1),p',h1,h2,h.bel.src,h.bel.drw⟩
theorem Iz (u:World)(s:Cv)(p:Int)(hs:CU u s.S s.a s.len s.cap p)(hp:p+3000000000<=100000000000):
 Calls Tryz.prog 40 #[.pointer (some ⟨s.S,0,none⟩)] u (Q6 s p 3000000000 100000 u):=by
 obtain⟨i64,hi,hz0,hz1,hz2⟩:=bH Bf;obtain⟨iC,hiC,hC0,hC1,hC2⟩:=bH OC;obtain⟨iF,hiF,hF0,hF1,hF2⟩:=bH Qi;have hp0:=hs.low;have E0:=Ah ((Bs.start ⟨AC.refl _ _,hs,hs.lt⟩).box 65 4 [sN,sN,sN,sN] rfl);clear hs;go_enter Tryz.func40,Tryz.ntmps40;go_upto_region 1 with fail
 generalize u.heap.size=RB at E0⊢;refine Al (fun U=>Hid (Bs u U s p [gb RB vN])) E0 ?_;clear E0;rintro U0 E0;go_wp2_with fail
 refine(Em _ s (p) E0.o.bel.src (by omega)).mono ?_;rintro e U1 ⟨a1,c1,x1,rfl,ho,hxl1,hxw1,p1,hq1a,hq1b,hs,hd⟩;have E1:Hid (Bs u U1 s p1 ([gb RB vN]++[AH (.slice a1 x1.length c1) x1])):=E0.o.drawRow hs hd ho;clear hs hd ho E0;go_wp2_with fail
 refine(Em _ s (p1) E1.o.bel.src (by omega)).mono ?_;rintro e U2 ⟨a2,c2,x2,rfl,ho,hxl2,hxw2,p2,hq2a,hq2b,hs,hd⟩;have E2:Hid (Bs u U2 s p2 ([gb RB vN]++[AH (.slice a1 x1.length c1) x1]++[AH (.slice a2 x2.length c2) x2])):=E1.o.drawRow hs hd ho;clear hs hd ho E1;go_wp2_with fail
 refine(Em _ s (p2) E2.o.bel.src (by omega)).mono ?_;rintro e U3 ⟨a3,c3,x3,rfl,ho,hxl3,hxw3,p3,hq3a,hq3b,hs,hd⟩;have E3:Hid (Bs u U3 s p3 ([gb RB vN]++[AH (.slice a1 x1.length c1) x1]++[AH (.slice a2 x2.length c2) x2]++[AH (.slice a3 x3.length c3) x3])):=E2.o.drawRow hs hd ho;clear hs hd ho E2;have E4:Hid _:=Bs.regions (E:=[gb RB vN]) (v1:=.slice a1 x1.length c1) (v2:=.slice a2 x2.length c2) (v3:=.slice a3 x3.length c3) (x1:=x1) (x2:=x2) (x3:=x3) (show Bs u U3 s p3 _ by simpa using E3.o);clear E3;go_upto_region 2 with fail
 have HF:Hid (FF [(x1,.slice a1 x1.length c1),(x2,.slice a2 x2.length c2),(x3,.slice a3 x3.length c3)]):=⟨rfl,by intro x hx;simp only[aX,bB,cW]at hx;rcases hx with rfl|rfl|rfl<;>simp only[]<;>omega,by intro x hx;simp only[aX,bB,cW]at hx;rcases hx with rfl|rfl|rfl<;>assumption⟩;clear hxl1 hxl2 hxl3 hxw1 hxw2 hxw3;generalize [(x1,Value.slice a1 x1.length c1),(x2,.slice a2 x2.length c2),(x3,.slice a3 x3.length c3)]=F at E4 HF;generalize U3.heap.size+1=P at E4⊢;generalize U3.heap.size=GR at E4⊢;refine Al (fun U=>Hid (Bs u U s p3 (Ae ⟨sG GR 3 3,sN,sN,sN⟩ F [] [] [] (gb P ⟨sG GR 3 3,sN,sN,sN⟩::[gb RB vN])))) E4 ?_;clear E4;clear U3;rintro U4 E4;have hLit:=Ah (ce (base:=u.heap.size) (e:=102) (size:=2) U4 #[iZ 1,.int .u32 0,iZ 2,.int .u32 4294967295] 2 E4.o.size (by unfold maxLen;omega) rfl);have E5:Hid (Bs u (U4.alloc (.cells #[iZ 1,.int .u32 0,iZ 2,.int .u32 4294967295] 102)) s p3 (Ae ⟨sG GR 3 3,sG U4.heap.size 2 2,sN,sN⟩ F [⟨1,0⟩,⟨2,4294967295⟩] [] [] (gb P ⟨sG GR 3 3,sN,sN,sN⟩::[gb RB vN]))):=Bs.new_c (v:=⟨sG GR 3 3,sN,sN,sN⟩) (vk:=sN) rfl E4.o (sG U4.heap.size 2 2) hLit.o (World.grownBy_alloc U4 _ none) rfl
 have⟨⟨_,k1,_,_⟩,_,z1,_,_⟩:=E5.o.four (As (show gb P ⟨sG GR 3 3,sN,sN,sN⟩∈_ by simp));simp only[]at k1;have E6:=Ah (E5.o.setp (D:=[]) 1 (by omega) (sG U4.heap.size 2 2));go_upto_region 3 with fail
 clear E5 E4 hLit k1 z1;generalize U4.heap.size=GC at E6⊢;refine Al (fun U=>Hid (Bs u U s p3 (Ae ⟨sG GR 3 3,sG GC 2 2,sN,sN⟩ F [⟨1,0⟩,⟨2,4294967295⟩] [] [] (gb P ⟨sG GR 3 3,sG GC 2 2,sN,sN⟩::[gb RB vN])))) E6 ?_;clear E6;rintro U5 E6;go_wp2_with fail
 go_loopw [4] (fun i wr=>∃j:Nat,j<=5/\i=.int .u32 (j:Int)/\Hid (∃(a:Option Addr) (c:Nat) (cs:List MC),cs.length=2+j/\(∀x∈cs,x.wf)/\Bs u wr s p3 (Ae ⟨sG GR 3 3,.slice a (2+j) c,sN,sN⟩ F cs [] [] (gb P ⟨sG GR 3 3,.slice a (2+j) c,sN,sN⟩::[gb RB vN])))) (fun i _=>5-(intOf i).toNat)
 case atStart=>exact⟨0,by omega,rfl,_,_,[⟨1,0⟩,⟨2,4294967295⟩],rfl,(by intro x hx;simp only[aX,bB,cW]at hx;rcases hx with rfl|rfl<;>exact⟨Ag (by decide) (by decide),Dz (by decide) (by decide)⟩),E6.o⟩
 case round =>
  clear E6;obtain⟨j,hj,rfl,E7⟩:=hrel;obtain⟨a,c,cs,hcl,hcw,hE7⟩:=E7.o;have HC:Hid (cs.length=2+j/\∀x∈cs,x.wf):=⟨hcl,hcw⟩
  generalize hm:2+j=m at HC hE7;have E8:=Ah hE7;clear hE7 E7 hcl hcw;have⟨⟨_,k1,_,_⟩,_,z1,_,_⟩:=E8.o.four (As (show gb P ⟨sG GR 3 3,.slice a m c,sN,sN⟩∈_ by simp));simp only[]at k1;by_cases hlt:j<5
  case pos=>
   have hltI:(j:Int)<5:=by omega
   have HM:=Ah hm.symm;have hmb:m<=100:=by omega
   clear hm;obtain⟨zc,hzc⟩:∃zc:Int,((j:Int)+3) % 5=zc:=⟨_,rfl⟩;have hzc2:Int.tmod ((j:Int)+3) 5=zc:=by rw[<-hzc];exact Int.tmod_eq_emod_of_nonneg (by omega)
   have hzb:0<=zc/\zc<5:=by omega
   have hwz:IntKind.u32.wrap ((j:Int)+3)=(j:Int)+3:=IntWalk.u32_in _ ⟨by omega,by omega⟩;have hwz2:IntKind.u32.wrap zc=zc:=IntWalk.u32_in _ ⟨by omega,by omega⟩;have EA:Hid (Bs u (wr.alloc (.cells #[iZ 3,.int .u32 zc] 102)) s p3 (Ae ⟨sG GR 3 3,.slice a m c,sN,sN⟩ F cs [] [] (gb P ⟨sG GR 3 3,.slice a m c,sN,sN⟩::[gb RB vN]))):=E8.o.keep (Aa _ _);have OA:Hid ((wr.alloc (.cells #[iZ 3,.int .u32 zc] 102)).ownsRow u.heap.size 102 2 (.slice a m c) m (cs.flatMap MC.cells)):=by have:=EA.o.prow.2.2.1;rw[HC.o.1]at this;exact this
   have q1:=(EA.o.four (As (show gb P ⟨sG GR 3 3,.slice a m c,sN,sN⟩∈_ by simp))).1.2.1;simp only[]at q1;go_wp2_with (first|(at_builtin;refine wpList_append_lies _ rfl _ _ 61 rfl u.heap.size 102 iC (.agg #[iZ 0,.int .u32 0]) 2 16 Tryz.underlying61 hiC hC0 hC1 hC2 rfl (by decide) (.slice a m c) m (cs.flatMap MC.cells) rfl OA.o ⟨wr.heap.size,0,none⟩ 1 1 [iZ 3,.int .u32 zc] rfl rfl (Bn wr _ _) (OR [⟨3,zc⟩]) (by omega) (by unfold maxLen;omega) (by omega) EA.o.size _ rfl ?_;intro g5 cap5 w5 hown5 hgrow5 hat5 hlt5;have h1:=EA.o.push_c ⟨3,zc⟩ (sG g5 (m+1) cap5) (by rw[HC.o.1];exact hown5) hgrow5 (BH hat5);have E9:Hid (Bs u (w5.setCell ⟨P,1,none⟩ (sG g5 (m+1) cap5)) s p3 (Ae ⟨sG GR 3 3,sG g5 (m+1) cap5,sN,sN⟩ F (cs++[⟨3,zc⟩]) [] [] (gb P ⟨sG GR 3 3,sG g5 (m+1) cap5,sN,sN⟩::[gb RB vN]))/\w5.cell? ⟨P,1,none⟩=some (.slice a m c)/\w5.frozen? ⟨P,1,none⟩=false):=⟨h1.setp (D:=[]) 1 (by omega) _,(h1.four (As (show gb P ⟨sG GR 3 3,.slice a m c,sN,sN⟩∈_ by simp))).1.2.1,(h1.four (As (show gb P ⟨sG GR 3 3,.slice a m c,sN,sN⟩∈_ by simp))).2.2.1⟩;have s6:=E9.o.2.1;have s7:=E9.o.2.2;clear h1 hown5 hgrow5 hat5 hlt5)|go_in)
   clear s6 s7 EA OA q1 k1 z1 E8;have hm1:2+(j+1)=m+1:=by have:=HM.o;omega
   go_roundw
   case rel=>exact⟨j+1,by omega,by go_num,some ⟨g5,0,none⟩,cap5,cs++[⟨3,zc⟩],by rw[aG,HC.o.1,hm1];rfl,(by intro x hx;rcases aS.1 hx with e|e;exact HC.o.2 x e;rw[am.1 e];exact⟨Ag (z:=3) (by decide) (by decide),Dz (z:=zc) (by omega) (by omega)⟩),by rw[hm1];exact E9.o.1⟩
   case measure=>simp[intOf];omega
  case neg =>
   obtain rfl:j=5:=by omega
   have HM7:Hid (m=7):=by show m=7;omega
   clear hlt hj k1 z1 hm;have HCm:Hid (m<=100):=by have:=HM7.o;show m<=100;omega
   go_wp2_with fail
   refine(Ai E8.o.bel.src).mono ?_;rintro e U9 ⟨r9,h9a,h9b,rfl,hs,hd⟩;have E9:=Ah (E8.o.draw hs hd);clear hs hd E8 HM7;obtain⟨nf,hnf⟩:∃nf:Nat,1+r9=(nf:Int):=⟨(1+r9).toNat,by omega⟩;have hnfb:1<=nf/\nf<=4:=by omega
   go_wp2_with fail
   clear hnf h9a h9b;go_loopw [6,7,8,9,10] (fun i _ _ _ _ wr=>∃(j:Nat) (p':Int) (af:Option Addr) (cf:Nat),j<=nf/\i=iZ j/\p3<=p'/\p'<=p3+1+20*(j:Int)/\Hid (∃G:List (MF×VF),G.length=j/\(∀y∈G,G0 y/\y.1.code=[]/\y.2.c=sN)/\Bs u wr s p' (Ae ⟨sG GR 3 3,.slice a m c,.slice af j cf,sN⟩ F cs G [] (gb P ⟨sG GR 3 3,.slice a m c,.slice af j cf,sN⟩::[gb RB vN])))) (fun i _ _ _ _ _=>nf-(intOf i).toNat)
   case atStart=>exact⟨0,p3+1,none,0,by omega,rfl,by omega,by omega,[],rfl,(fun y hy=>by cases hy),E9.o⟩
   case round=>
    clear E9;obtain⟨j,p4,af,cf,hj,rfl,g1,g2,E10⟩:=hrel;obtain⟨G,hGl,hG0,hGb⟩:=E10.o;have HG:Hid (G.length=j/\∀y∈G,G0 y/\y.1.code=[]/\y.2.c=sN):=⟨hGl,hG0⟩
    have E11:=Ah hGb;clear hGl hG0 hGb E10;by_cases hlt:j<nf
    case pos=>
     have hltI:(j:Int)<(nf:Int):=by omega
     have E12:Hid _:=EJ.new E11.o;clear E11;go_upto_region 12 with fail
     generalize wr.heap.size=B at E12⊢;refine Al (fun U=>Hid (EJ u U s p4 (Ae ⟨sG GR 3 3,.slice a m c,.slice af j cf,sN⟩ F cs G [] (gb P ⟨sG GR 3 3,.slice a m c,.slice af j cf,sN⟩::[gb RB vN])) B sN sN [] [] 0)) E12 ?_;clear E12;rintro U12 E12;generalize hLp:Ae ⟨sG GR 3 3,.slice a m c,.slice af j cf,sN⟩ F cs G [] (gb P ⟨sG GR 3 3,.slice a m c,.slice af j cf,sN⟩::[gb RB vN])=Lp at E12;have HLp:=Ah hLp;clear hLp;go_upto_if 49 with fail
     go_cut [8] (fun _ wx=>∃(pp:Int) (ap:Option Addr) (cp:Nat) (ps:List Int) (res:Int),p4<=pp/\pp<=p4+5/\Hid (EJ u wx s pp Lp B (.slice ap ps.length cp) sN ps [] res/\ps.length<=3/\(∀z∈ps,BN z)/\BN res))
     case first=>
      by_cases hj0:(j:Int)>0
      case neg=>
       go_wp2_with fail
       go_meet
       exact⟨p4,none,0,[],0,by omega,by omega,E12.o,by simp,(fun z hz=>by cases hz),Ag (by decide) (by decide)⟩
      go_wp2_with fail
      refine(Ai E12.o.bl.bel.src).mono ?_;rintro e U13 ⟨r13,h13a,h13b,rfl,hs,hd⟩;have E13:=Ah (E12.o.draw hs hd);clear hs hd E12;go_wp2_with fail
      go_loopw [8] (fun i wr=>∃(q:Nat) (pp:Int) (ap:Option Addr) (cp:Nat) (ps:List Int),i=iZ (q:Int)/\q<=3/\p4<=pp/\pp<=p4+1+(3-(q:Int))/\Hid (EJ u wr s pp Lp B (.slice ap ps.length cp) sN ps [] 0/\ps.length<=3-q/\∀z∈ps,BN z)) (fun i _=>(intOf i).toNat)
      case atStart=>exact⟨r13.toNat,p4+1,none,0,[],by show _=_;congr 1;omega,by omega,by omega,by omega,E13.o,by simp,fun z hz=>by cases hz⟩
      case round=>
       clear E13;obtain⟨q,pp,ap,cp,ps,rfl,hq,f1,f2,E14⟩:=hrel;have HP:=Ah E14.o.2;have E15:=Ah E14.o.1;clear E14;by_cases hq0:q=0
       case pos=>
        subst hq0;go_wp2_with fail
        refine(Ai E15.o.bl.bel.src).mono ?_;rintro e U16 ⟨r16,h16a,h16b,rfl,hs,hd⟩;have E16:=Ah (E15.o.draw hs hd);have k1:=E16.o.cells.1.2.1;have z1:=E16.o.cells.2 1;have E17:=Ah (E16.o.set_r r16);clear hs hd E15;go_wp2_with fail
        go_meet
        exact⟨pp+1,ap,cp,ps,r16,by omega,by omega,E17.o,by have:=HP.o.1;omega,HP.o.2,Ag (by omega) (by omega)⟩
       have hqI:(q:Int)>0:=by omega
       have hpl:ps.length<=3:=by have:=HP.o.1;omega
       generalize hn:ps.length=n at hpl E15⊢;have HN:=Ah hn;clear hn;go_upto_region 16 with fail
       have ED:=Ah (E15.o.keep (Ad _));refine wp_region_held_drew (S:=fun _=>True) (by kernel_rfl) trivial (fun hHeld=> ?_);clear E15;generalize wr.drew=UD at ED hHeld⊢;have k0:=ED.o.cells.1.1;refine Ak 0 ?_;refine Ak 2 ?_;refine wpAnyH_ready (rs:=[1,3]) (by kernel_rfl) (by simp) ?_;refine AllReadyH.cons rfl (fun KC hKC=> ?_) (AllReadyH.cons rfl (fun KC hKC=> ?_) AllReadyH.nil)
       focus
        go_simp;refine hKC.o _ _ trivial (fun hHeld=> ?_);clear hKC KC;refine rdH 3 ?_;intro KC hKC;go_simp;refine(Ai ED.o.bl.bel.src).mono ?_;rintro e U1 ⟨rr,rra,rrb,rfl,hs,hd⟩;have E1:=Ah (ED.o.draw hs hd);have k1:=E1.o.cells.1.1;obtain⟨t,ht⟩:∃t,1+rr=t:=⟨_,rfl⟩;have htb:1<=t/\t<=3:=by omega
        have hwt:IntKind.i64.wrap t=t:=bp _ ⟨by omega,by omega⟩;clear hs hd;refine hKC.o _ _ trivial (fun hHeld=> ?_);clear hKC KC;refine Ak 4 ?_;refine rdH 5 ?_;intro KC hKC;go_simp;have EA:Hid (EJ u (U1.alloc (.cells #[iZ t] 2)) s (pp+1) Lp B (.slice ap n cp) sN ps [] 0):=E1.o.keep (Aa _ _);have OA:Hid ((U1.alloc (.cells #[iZ t] 2)).ownsRow u.heap.size 2 1 (.slice ap n cp) n (ps.flatMap Ab)):=by have:=EA.o.rows.1;rw[HN.o]at this;exact this
        have k2:=EA.o.cells.1.1;refine hKC.o _ _ trivial (fun hHeld=> ?_);clear hKC KC;refine rdH 6 ?_;intro KC hKC;refine step_append_lies _ rfl (.tmp 57) (.tmp 61) 26 rfl u.heap.size 2 i64 (iZ 0) 1 8 Tryz.underlying26 hi hz0 hz1 hz2 rfl (by decide) (.slice ap n cp) n (ps.flatMap Ab) (by simp[Act.eval]) OA.o ⟨U1.heap.size,0,none⟩ 1 1 [iZ t] (by simp[Act.eval]) rfl (Bn U1 [iZ t] 2) (CT _) (by omega) (by unfold maxLen;omega) (by omega) EA.o.bl.size _ rfl ?_;intro gg cap u8 hown hgrow hat _;have D4:=Ah (EA.o.push_p t (sG gg (n+1) cap) (by rw[HN.o];exact hown) hgrow (BH hat));have y0:=D4.o.2.1;have y1:=D4.o.2.2;clear hown hgrow hat OA;refine hKC.o _ _ trivial (fun hHeld=> ?_);clear hKC KC;refine Ak 7 ?_;refine rdH 8 ?_;intro KC hKC;go_simp;refine hKC.o _ _ trivial (fun hHeld=> ?_);clear hKC KC;refine wpAnyH_done (by kernel_rfl) ?_ _;clear hHeld y0 y1 k0 k1 k2 EA E1 ED;have D5:Hid _:=D4.o.1;generalize u8.setCell ⟨B,0,none⟩ (sG gg (n+1) cap)=W5 at D5⊢;clear D4;have hnl:(ps++[t]).length=n+1:=by rw[aG,HN.o];rfl
        obtain⟨q',rfl⟩:∃q',q=q'+1:=⟨q-1,by omega⟩;go_wp2_with fail
        go_roundw
        case rel=>exact⟨q',pp+1,some ⟨gg,0,none⟩,cap,ps++[t],by go_num,by omega,by omega,by omega,by rw[hnl];exact D5.o,by have:=HP.o.1;have:=HN.o;omega,fun z hz=>by rcases aS.1 hz with e|e;exact HP.o.2 z e;rw[am.1 e];exact Ag (by omega) (by omega)⟩
        case measure=>simp[intOf]
       focus
        go_simp;refine(Ai ED.o.bl.bel.src).mono ?_;rintro e U1 ⟨rr,rra,rrb,rfl,hs,hd⟩;have E1:=Ah (ED.o.draw hs hd);have k1:=E1.o.cells.1.1;obtain⟨t,ht⟩:∃t,1+rr=t:=⟨_,rfl⟩;have htb:1<=t/\t<=3:=by omega
        have hwt:IntKind.i64.wrap t=t:=bp _ ⟨by omega,by omega⟩;clear hs hd;refine hKC.o _ _ trivial (fun hHeld=> ?_);clear hKC KC;refine Ak 4 ?_;refine wpAnyH_ready (rs:=[1,5]) (by kernel_rfl) (by simp) ?_;refine AllReadyH.cons rfl (fun KC hKC=> ?_) (AllReadyH.cons rfl (fun KC hKC=> ?_) AllReadyH.nil)
        focus
         go_simp;refine hKC.o _ _ trivial (fun hHeld=> ?_);clear hKC KC;refine rdH 5 ?_;intro KC hKC;go_simp;have EA:Hid (EJ u (U1.alloc (.cells #[iZ t] 2)) s (pp+1) Lp B (.slice ap n cp) sN ps [] 0):=E1.o.keep (Aa _ _);have OA:Hid ((U1.alloc (.cells #[iZ t] 2)).ownsRow u.heap.size 2 1 (.slice ap n cp) n (ps.flatMap Ab)):=by have:=EA.o.rows.1;rw[HN.o]at this;exact this
         have k2:=EA.o.cells.1.1;refine hKC.o _ _ trivial (fun hHeld=> ?_);clear hKC KC;refine rdH 6 ?_;intro KC hKC;refine step_append_lies _ rfl (.tmp 57) (.tmp 61) 26 rfl u.heap.size 2 i64 (iZ 0) 1 8 Tryz.underlying26 hi hz0 hz1 hz2 rfl (by decide) (.slice ap n cp) n (ps.flatMap Ab) (by simp[Act.eval]) OA.o ⟨U1.heap.size,0,none⟩ 1 1 [iZ t] (by simp[Act.eval]) rfl (Bn U1 [iZ t] 2) (CT _) (by omega) (by unfold maxLen;omega) (by omega) EA.o.bl.size _ rfl ?_;intro gg cap u8 hown hgrow hat _;have D4:=Ah (EA.o.push_p t (sG gg (n+1) cap) (by rw[HN.o];exact hown) hgrow (BH hat));have y0:=D4.o.2.1;have y1:=D4.o.2.2;clear hown hgrow hat OA;refine hKC.o _ _ trivial (fun hHeld=> ?_);clear hKC KC;refine Ak 7 ?_;refine rdH 8 ?_;intro KC hKC;go_simp;refine hKC.o _ _ trivial (fun hHeld=> ?_);clear hKC KC;refine wpAnyH_done (by kernel_rfl) ?_ _;clear hHeld y0 y1 k0 k1 k2 EA E1 ED;have D5:Hid _:=D4.o.1;generalize u8.setCell ⟨B,0,none⟩ (sG gg (n+1) cap)=W5 at D5⊢;clear D4;have hnl:(ps++[t]).length=n+1:=by rw[aG,HN.o];rfl
         obtain⟨q',rfl⟩:∃q',q=q'+1:=⟨q-1,by omega⟩;go_wp2_with fail
         go_roundw
         case rel=>exact⟨q',pp+1,some ⟨gg,0,none⟩,cap,ps++[t],by go_num,by omega,by omega,by omega,by rw[hnl];exact D5.o,by have:=HP.o.1;have:=HN.o;omega,fun z hz=>by rcases aS.1 hz with e|e;exact HP.o.2 z e;rw[am.1 e];exact Ag (by omega) (by omega)⟩
         case measure=>simp[intOf]
        focus
         go_simp;have EA:Hid (EJ u (U1.alloc (.cells #[iZ t] 2)) s (pp+1) Lp B (.slice ap n cp) sN ps [] 0):=E1.o.keep (Aa _ _);have OA:Hid ((U1.alloc (.cells #[iZ t] 2)).ownsRow u.heap.size 2 1 (.slice ap n cp) n (ps.flatMap Ab)):=by have:=EA.o.rows.1;rw[HN.o]at this;exact this
         have k2:=EA.o.cells.1.1;refine hKC.o _ _ trivial (fun hHeld=> ?_);clear hKC KC;refine rdH 1 ?_;intro KC hKC;go_simp;refine hKC.o _ _ trivial (fun hHeld=> ?_);clear hKC KC;refine rdH 6 ?_;intro KC hKC;refine step_append_lies _ rfl (.tmp 57) (.tmp 61) 26 rfl u.heap.size 2 i64 (iZ 0) 1 8 Tryz.underlying26 hi hz0 hz1 hz2 rfl (by decide) (.slice ap n cp) n (ps.flatMap Ab) (by simp[Act.eval]) OA.o ⟨U1.heap.size,0,none⟩ 1 1 [iZ t] (by simp[Act.eval]) rfl (Bn U1 [iZ t] 2) (CT _) (by omega) (by unfold maxLen;omega) (by omega) EA.o.bl.size _ rfl ?_;intro gg cap u8 hown hgrow hat _;have D4:=Ah (EA.o.push_p t (sG gg (n+1) cap) (by rw[HN.o];exact hown) hgrow (BH hat));have y0:=D4.o.2.1;have y1:=D4.o.2.2;clear hown hgrow hat OA;refine hKC.o _ _ trivial (fun hHeld=> ?_);clear hKC KC;refine Ak 7 ?_;refine rdH 8 ?_;intro KC hKC;go_simp;refine hKC.o _ _ trivial (fun hHeld=> ?_);clear hKC KC;refine wpAnyH_done (by kernel_rfl) ?_ _;clear hHeld y0 y1 k0 k1 k2 EA E1 ED;have D5:Hid _:=D4.o.1;generalize u8.setCell ⟨B,0,none⟩ (sG gg (n+1) cap)=W5 at D5⊢;clear D4;have hnl:(ps++[t]).length=n+1:=by rw[aG,HN.o];rfl
         obtain⟨q',rfl⟩:∃q',q=q'+1:=⟨q-1,by omega⟩;go_wp2_with fail
         go_roundw
         case rel=>exact⟨q',pp+1,some ⟨gg,0,none⟩,cap,ps++[t],by go_num,by omega,by omega,by omega,by rw[hnl];exact D5.o,by have:=HP.o.1;have:=HN.o;omega,fun z hz=>by rcases aS.1 hz with e|e;exact HP.o.2 z e;rw[am.1 e];exact Ag (by omega) (by omega)⟩
         case measure=>simp[intOf]
     case rest=>
      obtain⟨pp,ap,cp,ps,res,f1,f2,E13⟩:=hcut;clear E12;have HP:=Ah E13.o.2;have E14:=Ah E13.o.1;clear E13;go_wp2_with fail
      refine(Ai E14.o.bl.bel.src).mono ?_;rintro e U15 ⟨r15,h15a,h15b,rfl,hs,hd⟩;have E15:=Ah (E14.o.draw hs hd);clear hs hd E14;go_wp2_with fail
      go_loopw [9] (fun i wr=>∃(q:Nat) (p5:Int) (al:Option Addr) (cl:Nat) (ls:List Int),i=iZ (q:Int)/\q<=3/\pp<=p5/\p5<=pp+1+(3-(q:Int))/\Hid (EJ u wr s p5 Lp B (.slice ap ps.length cp) (.slice al ls.length cl) ps ls res/\ls.length<=3-q/\∀z∈ls,BN z)) (fun i _=>(intOf i).toNat)
      case atStart=>exact⟨r15.toNat,pp+1,none,0,[],by show _=_;congr 1;omega,by omega,by omega,by omega,E15.o,by simp,fun z hz=>by cases hz⟩
      case round=>
       clear E15;obtain⟨q,p5,al,cl,ls,rfl,hq,f3,f4,E16⟩:=hrel;have HL:=Ah E16.o.2;have E17:=Ah E16.o.1;clear E16;by_cases hq0:q=0;rotate_left
       . have hqI:(q:Int)>0:=by omega
         have hpl:ls.length<=3:=by have:=HL.o.1;omega
         generalize hn:ls.length=n at hpl E17⊢;have HN:=Ah hn;clear hn;go_upto_region 21 with fail
         have ED:=Ah (E17.o.keep (Ad _));refine wp_region_held_drew (S:=fun _=>True) (by kernel_rfl) trivial (fun hHeld=> ?_);clear E17;generalize wr.drew=UD at ED hHeld⊢;have k0:=ED.o.cells.1.2.2.1;refine Ak 0 ?_;refine Ak 2 ?_;refine wpAnyH_ready (rs:=[1,3]) (by kernel_rfl) (by simp) ?_;refine AllReadyH.cons rfl (fun KC hKC=> ?_) (AllReadyH.cons rfl (fun KC hKC=> ?_) AllReadyH.nil)
         focus
          go_simp;refine hKC.o _ _ trivial (fun hHeld=> ?_);clear hKC KC;refine rdH 3 ?_;intro KC hKC;go_simp;refine(Ai ED.o.bl.bel.src).mono ?_;rintro e U1 ⟨rr,rra,rrb,rfl,hs,hd⟩;have E1:=Ah (ED.o.draw hs hd);have k1:=E1.o.cells.1.2.2.1;obtain⟨t,ht⟩:∃t,1+rr=t:=⟨_,rfl⟩;have htb:1<=t/\t<=3:=by omega
          have hwt:IntKind.i64.wrap t=t:=bp _ ⟨by omega,by omega⟩;clear hs hd;refine hKC.o _ _ trivial (fun hHeld=> ?_);clear hKC KC;refine Ak 4 ?_;refine rdH 5 ?_;intro KC hKC;go_simp;have EA:Hid (EJ u (U1.alloc (.cells #[iZ t] 2)) s (p5+1) Lp B (.slice ap ps.length cp) (.slice al n cl) ps ls res):=E1.o.keep (Aa _ _);have OA:Hid ((U1.alloc (.cells #[iZ t] 2)).ownsRow u.heap.size 2 1 (.slice al n cl) n (ls.flatMap Ab)):=by have:=EA.o.rows.2;rw[HN.o]at this;exact this
          have k2:=EA.o.cells.1.2.2.1;refine hKC.o _ _ trivial (fun hHeld=> ?_);clear hKC KC;refine rdH 6 ?_;intro KC hKC;refine step_append_lies _ rfl (.tmp 74) (.tmp 78) 26 rfl u.heap.size 2 i64 (iZ 0) 1 8 Tryz.underlying26 hi hz0 hz1 hz2 rfl (by decide) (.slice al n cl) n (ls.flatMap Ab) (by simp[Act.eval]) OA.o ⟨U1.heap.size,0,none⟩ 1 1 [iZ t] (by simp[Act.eval]) rfl (Bn U1 [iZ t] 2) (CT _) (by omega) (by unfold maxLen;omega) (by omega) EA.o.bl.size _ rfl ?_;intro gg cap u8 hown hgrow hat _;have D4:=Ah (EA.o.push_l t (sG gg (n+1) cap) (by rw[HN.o];exact hown) hgrow (BH hat));have y0:=D4.o.2.1;have y1:=D4.o.2.2;clear hown hgrow hat OA;refine hKC.o _ _ trivial (fun hHeld=> ?_);clear hKC KC;refine Ak 7 ?_;refine rdH 8 ?_;intro KC hKC;go_simp;refine hKC.o _ _ trivial (fun hHeld=> ?_);clear hKC KC;refine wpAnyH_done (by kernel_rfl) ?_ _;clear hHeld y0 y1 k0 k1 k2 EA E1 ED;have D5:Hid _:=D4.o.1;generalize u8.setCell ⟨B,2,none⟩ (sG gg (n+1) cap)=W5 at D5⊢;clear D4;have hnl:(ls++[t]).length=n+1:=by rw[aG,HN.o];rfl
          obtain⟨q',rfl⟩:∃q',q=q'+1:=⟨q-1,by omega⟩;go_wp2_with fail
          go_roundw
          case rel=>exact⟨q',p5+1,some ⟨gg,0,none⟩,cap,ls++[t],by go_num,by omega,by omega,by omega,by rw[hnl];exact D5.o,by have:=HL.o.1;have:=HN.o;omega,fun z hz=>by rcases aS.1 hz with e|e;exact HL.o.2 z e;rw[am.1 e];exact Ag (by omega) (by omega)⟩
          case measure=>simp[intOf]
         focus
          go_simp;refine(Ai ED.o.bl.bel.src).mono ?_;rintro e U1 ⟨rr,rra,rrb,rfl,hs,hd⟩;have E1:=Ah (ED.o.draw hs hd);have k1:=E1.o.cells.1.2.2.1;obtain⟨t,ht⟩:∃t,1+rr=t:=⟨_,rfl⟩;have htb:1<=t/\t<=3:=by omega
          have hwt:IntKind.i64.wrap t=t:=bp _ ⟨by omega,by omega⟩;clear hs hd;refine hKC.o _ _ trivial (fun hHeld=> ?_);clear hKC KC;refine Ak 4 ?_;refine wpAnyH_ready (rs:=[1,5]) (by kernel_rfl) (by simp) ?_;refine AllReadyH.cons rfl (fun KC hKC=> ?_) (AllReadyH.cons rfl (fun KC hKC=> ?_) AllReadyH.nil)
          focus
           go_simp;refine hKC.o _ _ trivial (fun hHeld=> ?_);clear hKC KC;refine rdH 5 ?_;intro KC hKC;go_simp;have EA:Hid (EJ u (U1.alloc (.cells #[iZ t] 2)) s (p5+1) Lp B (.slice ap ps.length cp) (.slice al n cl) ps ls res):=E1.o.keep (Aa _ _);have OA:Hid ((U1.alloc (.cells #[iZ t] 2)).ownsRow u.heap.size 2 1 (.slice al n cl) n (ls.flatMap Ab)):=by have:=EA.o.rows.2;rw[HN.o]at this;exact this
           have k2:=EA.o.cells.1.2.2.1;refine hKC.o _ _ trivial (fun hHeld=> ?_);clear hKC KC;refine rdH 6 ?_;intro KC hKC;refine step_append_lies _ rfl (.tmp 74) (.tmp 78) 26 rfl u.heap.size 2 i64 (iZ 0) 1 8 Tryz.underlying26 hi hz0 hz1 hz2 rfl (by decide) (.slice al n cl) n (ls.flatMap Ab) (by simp[Act.eval]) OA.o ⟨U1.heap.size,0,none⟩ 1 1 [iZ t] (by simp[Act.eval]) rfl (Bn U1 [iZ t] 2) (CT _) (by omega) (by unfold maxLen;omega) (by omega) EA.o.bl.size _ rfl ?_;intro gg cap u8 hown hgrow hat _;have D4:=Ah (EA.o.push_l t (sG gg (n+1) cap) (by rw[HN.o];exact hown) hgrow (BH hat));have y0:=D4.o.2.1;have y1:=D4.o.2.2;clear hown hgrow hat OA;refine hKC.o _ _ trivial (fun hHeld=> ?_);clear hKC KC;refine Ak 7 ?_;refine rdH 8 ?_;intro KC hKC;go_simp;refine hKC.o _ _ trivial (fun hHeld=> ?_);clear hKC KC;refine wpAnyH_done (by kernel_rfl) ?_ _;clear hHeld y0 y1 k0 k1 k2 EA E1 ED;have D5:Hid _:=D4.o.1;generalize u8.setCell ⟨B,2,none⟩ (sG gg (n+1) cap)=W5 at D5⊢;clear D4;have hnl:(ls++[t]).length=n+1:=by rw[aG,HN.o];rfl
           obtain⟨q',rfl⟩:∃q',q=q'+1:=⟨q-1,by omega⟩;go_wp2_with fail
           go_roundw
           case rel=>exact⟨q',p5+1,some ⟨gg,0,none⟩,cap,ls++[t],by go_num,by omega,by omega,by omega,by rw[hnl];exact D5.o,by have:=HL.o.1;have:=HN.o;omega,fun z hz=>by rcases aS.1 hz with e|e;exact HL.o.2 z e;rw[am.1 e];exact Ag (by omega) (by omega)⟩
           case measure=>simp[intOf]
          focus
           go_simp;have EA:Hid (EJ u (U1.alloc (.cells #[iZ t] 2)) s (p5+1) Lp B (.slice ap ps.length cp) (.slice al n cl) ps ls res):=E1.o.keep (Aa _ _);have OA:Hid ((U1.alloc (.cells #[iZ t] 2)).ownsRow u.heap.size 2 1 (.slice al n cl) n (ls.flatMap Ab)):=by have:=EA.o.rows.2;rw[HN.o]at this;exact this
           have k2:=EA.o.cells.1.2.2.1;refine hKC.o _ _ trivial (fun hHeld=> ?_);clear hKC KC;refine rdH 1 ?_;intro KC hKC;go_simp;refine hKC.o _ _ trivial (fun hHeld=> ?_);clear hKC KC;refine rdH 6 ?_;intro KC hKC;refine step_append_lies _ rfl (.tmp 74) (.tmp 78) 26 rfl u.heap.size 2 i64 (iZ 0) 1 8 Tryz.underlying26 hi hz0 hz1 hz2 rfl (by decide) (.slice al n cl) n (ls.flatMap Ab) (by simp[Act.eval]) OA.o ⟨U1.heap.size,0,none⟩ 1 1 [iZ t] (by simp[Act.eval]) rfl (Bn U1 [iZ t] 2) (CT _) (by omega) (by unfold maxLen;omega) (by omega) EA.o.bl.size _ rfl ?_;intro gg cap u8 hown hgrow hat _;have D4:=Ah (EA.o.push_l t (sG gg (n+1) cap) (by rw[HN.o];exact hown) hgrow (BH hat));have y0:=D4.o.2.1;have y1:=D4.o.2.2;clear hown hgrow hat OA;refine hKC.o _ _ trivial (fun hHeld=> ?_);clear hKC KC;refine Ak 7 ?_;refine rdH 8 ?_;intro KC hKC;go_simp;refine hKC.o _ _ trivial (fun hHeld=> ?_);clear hKC KC;refine wpAnyH_done (by kernel_rfl) ?_ _;clear hHeld y0 y1 k0 k1 k2 EA E1 ED;have D5:Hid _:=D4.o.1;generalize u8.setCell ⟨B,2,none⟩ (sG gg (n+1) cap)=W5 at D5⊢;clear D4;have hnl:(ls++[t]).length=n+1:=by rw[aG,HN.o];rfl
           obtain⟨q',rfl⟩:∃q',q=q'+1:=⟨q-1,by omega⟩;go_wp2_with fail
           go_roundw
           case rel=>exact⟨q',p5+1,some ⟨gg,0,none⟩,cap,ls++[t],by go_num,by omega,by omega,by omega,by rw[hnl];exact D5.o,by have:=HL.o.1;have:=HN.o;omega,fun z hz=>by rcases aS.1 hz with e|e;exact HL.o.2 z e;rw[am.1 e];exact Ag (by omega) (by omega)⟩
           case measure=>simp[intOf]
       . have hqn:¬(q:Int)>0:=by omega
         clear hq0;have E18:Hid (EJ u wr s p5 Lp B (.slice ap ps.length cp) (.slice al ls.length cl) ps ls res/\ls.length<=3/\∀z∈ls,BN z):=⟨E17.o,by have:=HL.o.1;omega,HL.o.2⟩
         clear E17 HL;go_wp2_with fail
         go_loopw [10] (fun i wr=>∃(q:Nat) (al:Option Addr) (cl:Nat) (ls:List Int),i=iZ (q:Int)/\q<=3/\Hid (EJ u wr s p5 Lp B (.slice ap ps.length cp) (.slice al ls.length cl) ps ls res/\(q<=ls.length/\ls.length<=3+q)/\∀z∈ls,BN z)) (fun i _=>3-(intOf i).toNat)
         case atStart=>exact⟨0,al,cl,ls,rfl,by omega,E18.o.1,by have:=E18.o.2.1;omega,E18.o.2.2⟩
         case round=>
          clear E18;obtain⟨q,al2,cl2,ls2,rfl,hq2,E19⟩:=hrel;have HL:=Ah E19.o.2;have E20:=Ah E19.o.1;clear E19;have hpl:ls2.length<=6:=by have:=HL.o.1;omega
          generalize hn:ls2.length=n2 at hpl E20⊢;have HN:=Ah hn;clear hn;by_cases hq3:q<3
          case pos=>
           have hq3I:(q:Int)<3:=by omega
           have k0:=E20.o.cells.1.2.2.1;have EA:Hid (EJ u (wr.alloc (.cells #[iZ 3] 2)) s p5 Lp B (.slice ap ps.length cp) (.slice al2 n2 cl2) ps ls2 res):=E20.o.keep (Aa _ _);have OA:Hid ((wr.alloc (.cells #[iZ 3] 2)).ownsRow u.heap.size 2 1 (.slice al2 n2 cl2) n2 (ls2.flatMap Ab)):=by have:=EA.o.rows.2;rw[HN.o]at this;exact this
           have k2:=EA.o.cells.1.2.2.1;go_wp2_with (first|(at_builtin;refine wpList_append_lies _ rfl _ _ 26 rfl u.heap.size 2 i64 (iZ 0) 1 8 Tryz.underlying26 hi hz0 hz1 hz2 rfl (by decide) (.slice al2 n2 cl2) n2 (ls2.flatMap Ab) rfl OA.o ⟨wr.heap.size,0,none⟩ 1 1 [iZ 3] rfl rfl (Bn wr _ _) (CT _) (by omega) (by unfold maxLen;omega) (by omega) EA.o.bl.size _ rfl ?_;intro g5 cap5 w5 hown5 hgrow5 hat5 hlt5;have D4:Hid (EJ u (w5.setCell ⟨B,2,none⟩ (sG g5 (n2+1) cap5)) s p5 Lp B (.slice ap ps.length cp) (sG g5 (n2+1) cap5) ps (ls2++[3]) res/\w5.cell? ⟨B,2,none⟩=some (.slice al2 n2 cl2)/\w5.frozen? ⟨B,2,none⟩=false):=EA.o.push_l 3 _ (by rw[HN.o];exact hown5) hgrow5 (BH hat5);have s6:=D4.o.2.1;have s7:=D4.o.2.2;clear hown5 hgrow5 hat5 hlt5)|go_in)
           clear s6 s7 EA OA k0 k2 E20;have hnl:(ls2++[3]).length=n2+1:=by rw[aG,HN.o];rfl
           go_roundw
           case rel=>exact⟨q+1,some ⟨g5,0,none⟩,cap5,ls2++[3],by go_num,by omega,by rw[hnl];exact D4.o.1,by have:=HL.o.1;have:=HN.o;omega,fun z hz=>by rcases aS.1 hz with e|e;exact HL.o.2 z e;rw[am.1 e];exact Ag (by decide) (by decide)⟩
           case measure=>simp[intOf];omega
          case neg=>
           have E21:Hid (EJ u wr s p5 (Ae ⟨sG GR 3 3,.slice a m c,.slice af j cf,sN⟩ F cs G [] (gb P ⟨sG GR 3 3,.slice a m c,.slice af j cf,sN⟩::[gb RB vN])) B (.slice ap ps.length cp) (.slice al2 n2 cl2) ps ls2 res):=by have:=E20.o;rw[<-HLp.o]at this;exact this
           clear E20;have EA:Hid (EJ u (wr.alloc (.cells #[.slice ap ps.length cp,iZ res,.slice al2 n2 cl2,sN] 68)) s p5 (Ae ⟨sG GR 3 3,.slice a m c,.slice af j cf,sN⟩ F cs G [] (gb P ⟨sG GR 3 3,.slice a m c,.slice af j cf,sN⟩::[gb RB vN])) B (.slice ap ps.length cp) (.slice al2 n2 cl2) ps ls2 res):=E21.o.keep (Aa _ _);have k0:=(E21.o.bl.four (show gb P ⟨sG GR 3 3,.slice a m c,.slice af j cf,sN⟩∈_ by simp[Ae])).1.2.2.1;have k2:=(EA.o.bl.four (show gb P ⟨sG GR 3 3,.slice a m c,.slice af j cf,sN⟩∈_ by simp[Ae])).1.2.2.1;simp only[]at k0 k2;obtain⟨⟨b0,b1,b2,b3⟩,_⟩:=E21.o.cells
           have OA:Hid ((wr.alloc (.cells #[.slice ap ps.length cp,iZ res,.slice al2 n2 cl2,sN] 68)).ownsRow u.heap.size 68 4 (.slice af j cf) j (G.flatMap AN)):=by
            have h9:(wr.alloc (.cells #[.slice ap ps.length cp,iZ res,.slice al2 n2 cl2,sN] 68)).ownsRow u.heap.size 68 4 (.slice af j cf) G.length (G.flatMap AN):=EA.o.bl.sep.own (A4 (.slice af j cf) G) (by simp[Ae]);rw[HG.o.1]at h9;exact h9
           go_wp2_with (first|(at_builtin;refine wpList_append_lies _ rfl _ _ 62 rfl u.heap.size 68 iF (.agg #[sN,iZ 0,sN,sN]) 4 80 Tryz.underlying62 hiF hF0 hF1 hF2 rfl (by decide) (.slice af j cf) j (G.flatMap AN) rfl OA.o ⟨wr.heap.size,0,none⟩ 1 1 [.slice ap ps.length cp,iZ res,.slice al2 n2 cl2,sN] rfl rfl (Bn wr _ _) (by intro x hx;simp only[aX,bB,cW]at hx;rcases hx with rfl|rfl|rfl|rfl<;>rfl) (by omega) (by unfold maxLen;omega) (by omega) EA.o.bl.size _ rfl ?_;intro g5 cap5 w5 hown5 hgrow5 hat5 hlt5;have D4:Hid (Bs u (w5.setCell ⟨P,2,none⟩ (sG g5 (j+1) cap5)) s p5 (Ae ⟨sG GR 3 3,.slice a m c,sG g5 (j+1) cap5,sN⟩ F cs (G++[((⟨ps,res,ls2,[]⟩:MF),(⟨.slice ap ps.length cp,.slice al2 n2 cl2,sN⟩:VF))]) [] (gb P ⟨sG GR 3 3,.slice a m c,sG g5 (j+1) cap5,sN⟩::[gb RB vN]))/\w5.cell? ⟨P,2,none⟩=some (.slice af j cf)/\w5.frozen? ⟨P,2,none⟩=false):=EA.o.done (sG g5 (j+1) cap5) (by rw[HG.o.1];exact hown5) hgrow5 (BH hat5);have s6:=D4.o.2.1;have s7:=D4.o.2.2;clear hown5 hgrow5 hat5 hlt5)|go_in)
           clear s6 s7 EA OA k0 k2 E21 b0 b1 b2 b3;go_roundw
           case rel=>exact⟨j+1,p5,some ⟨g5,0,none⟩,cap5,by omega,by go_num,by omega,by omega,G++[((⟨ps,res,ls2,[]⟩:MF),(⟨.slice ap ps.length cp,.slice al2 n2 cl2,sN⟩:VF))],by rw[aG,HG.o.1];rfl,(by intro y hy;rcases aS.1 hy with e|e;exact HG.o.2 y e;rw[am.1 e];exact⟨⟨by have:=HP.o.1;simp only[];omega,⟨by have:=HL.o.1;simp only[];omega,by have:=HL.o.1;simp only[];omega⟩,⟨HP.o.2.1,HP.o.2.2,HL.o.2,(fun x hx=>by cases hx)⟩⟩,rfl,rfl⟩),D4.o.1⟩
           case measure=>simp[intOf];omega
    case neg=>
     have hjn:j=nf:=by omega
     have E12:Hid (∃v cs G ts,Bs u wr s p4 (Ae v F cs G ts (gb P v::[gb RB vN]))/\GQ nf 0 G/\KQ 0 cs ts):=⟨_,_,_,_,E11.o,⟨by rw[HG.o.1];exact hjn,fun y hy=>⟨(HG.o.2 y hy).1.1,(HG.o.2 y hy).1.2.1,by rw[(HG.o.2 y hy).2.1];simp,(HG.o.2 y hy).1.2.2⟩⟩,⟨by have:=HC.o.1;have:=HCm.o;omega,HC.o.2,by simp,fun x hx=>by cases hx⟩⟩
     clear E11;go_wp2_with fail
     clear hlt hjn HG HC HCm;go_loopw [11,12] (fun i _ wr=>∃(i0:Nat) (p':Int),i0<=nf/\i=iZ i0/\p3<=p'/\p'<=p3+100+400000000*(i0:Int)/\Hid (∃v cs G ts,Bs u wr s p' (Ae v F cs G ts (gb P v::[gb RB vN]))/\GQ nf i0 G/\KQ i0 cs ts)) (fun i _ _=>nf-(intOf i).toNat)
     case atStart=>exact⟨0,p4,by omega,rfl,by omega,by omega,E12⟩
     case round=>
      clear E12;obtain⟨i,p5,hi0,rfl,f1,f2,E13⟩:=hrel;obtain⟨v,cs,G,ts,hb,hq,hk⟩:=E13.o;have E14:Hid (Bs u wr s p5 (Ae v F cs G ts (gb P v::[gb RB vN]))/\GQ nf i G/\KQ i cs ts):=⟨hb,hq,hk⟩
      clear hb hq hk E13;by_cases hlt:i<nf
      case pos=>
       have hltI:(i:Int)<(nf:Int):=by omega
       obtain⟨sz,hsz0,hsz1,hsz⟩:=E14.o.1.bel.src.size;obtain⟨L0,hL0⟩:∃L0,60+12*sz=L0:=⟨_,rfl⟩;have hL0b:60<=L0/\L0<=204:=by omega
       have E15:Hid _:=GS.new (L0:=L0) E14.o.1 E14.o.2.1 E14.o.2.2;have HK:Hid (GQ nf i G/\KQ i cs ts/\G.length=nf/\∀Gb,CY ⟨F,G,P,Gb,i,L0,cs.length,64⟩):=⟨E14.o.2.1,E14.o.2.2,E14.o.2.1.len,fun Gb=>CY.new HF.o E14.o.2.1 E14.o.2.2 hlt (by omega) ⟨by omega,by omega⟩⟩
       clear E14;go_upto_region 31 with fail
       clear hsz hL0 hsz0 hsz1;generalize wr.heap.size=Gb at E15⊢;refine Al (fun U=>Hid (GS u U s ⟨F,G,P,Gb,i,L0,cs.length,64⟩ p5 L0 0 0 [gb RB vN])) E15 ?_;clear E15;rintro U15 E15;go_wp2_with fail
       refine(K1 L0 u U15 s ⟨F,G,P,Gb,i,L0,cs.length,64⟩ p5 L0 0 [gb RB vN] 2 (HK.o.2.2.2 Gb) rfl E15.o (by omega) (by omega) ⟨by omega,by omega⟩ (by omega) (by omega) (by omega)).mono ?_;rintro e U16 ⟨rfl,p6,l6,b1,b2,b3,b4,b5,hh⟩;have E16:=Ah hh;have hl6:-16620<=l6:=by have:=b5 (by omega);omega
       clear hh b4 b5 E15;obtain⟨gf,cf,rs,c0,q2,q3,hrs⟩:=E16.o.fnr (HK.o.2.2.2 Gb);simp only[]at q2 q3;rw[HK.o.2.2.1]at q2;have HR:=Ah hrs;clear hrs;go_upto_if 119 with fail
       go_cut [] (fun wx=>∃p7 l7:Int,p6<=p7/\p7<=p6+1628/\l6-73<=l7/\l7<=l6/\Hid (GS u wx s ⟨F,G,P,Gb,i,L0,cs.length,64⟩ p7 l7 0 0 [gb RB vN]))
       case first=>
        by_cases hr0:rs=0
        case pos=>
         subst hr0;go_wp2_with fail
         go_meet
         exact⟨p6,l6,by omega,by omega,by omega,by omega,E16⟩
        have hr0':(rs != 0)=true:=by simpa using hr0
        go_wp2_with fail
        refine(FD u _ s ⟨F,G,P,Gb,i,L0,cs.length,64⟩ p6 l6 0 [gb RB vN] _ _ (HK.o.2.2.2 Gb) E16.o (by omega) (by omega) (by omega) (by omega) HR.o).mono ?_;rintro e U17 ⟨rfl,p7,l7,b4,b5,b6,b7,hh⟩;have E17:=Ah hh;clear hh E16 q2 q3;go_wp2_with fail
        go_meet
        exact⟨p7,l7,by omega,by omega,by omega,by omega,E17⟩
       case rest=>
        obtain⟨p7,l7,b4,b5,b6,b7,E17⟩:=hcut;clear E16 q2 q3 HR;go_wp2_with fail
        refine(Ar (HK.o.2.2.2 Gb) E17.o (by omega) Ag Ag Ag Ag).mono ?_;rintro e U18 ⟨n18,rfl,_,hh⟩;have E18:=Ah (hh.keep (Ad _));clear hh E17;obtain⟨gf,cf,c0,a,c,⟨q2,q3,q4,q5⟩,hset,⟨q6,q7⟩⟩:=GS.done (n:=nf) E18.o (HK.o.2.2.2 Gb) HK.o.1 (by omega) (by simp only[];omega) HK.o.2.1.cl (by simp only[];omega);simp only[]at q2 q3 q4 q5 hset q6 q7;rw[HK.o.2.2.1]at q2 q6;have HS:Hid _:=hset;have HQ:Hid _:=aH q6 q7;clear hset q6 q7;go_upto_region 35 with fail
        refine wp_region_held_drew (S:=fun W=>W.cell? ⟨P,2,none⟩=some (sG gf nf cf)/\W.cell? ⟨Gb,3,none⟩=some (.slice a (L0-(l7-1)).toNat c)) (by kernel_rfl) (by exact⟨q2,q3⟩) (fun hHeld=> ?_)
        clear q2 q3 E18;generalize U18.drew=UD at HS HQ q4 q5 hHeld⊢;refine Ak 0 ?_;refine Ak 1 ?_;refine Ak 2 ?_;refine Ak 3 ?_;refine Ak 4 ?_;refine Ak 5 ?_;refine Ak 6 ?_;refine Ak 7 ?_;refine Ak 8 ?_;refine rdH 9 ?_;intro KC hKC;go_simp;refine hKC.o _ _ (by exact HQ.o) (fun hHeld=> ?_);clear hKC KC;refine wpAnyH_done (by kernel_rfl) ?_ _;clear hHeld HQ q4 q5;go_simp;generalize UD.setCell ⟨gf,i*4+3,none⟩ (.slice a (L0-(l7-1)).toNat c)=W9 at HS⊢;go_wp2_with fail
        go_roundw
        case rel=>exact⟨i+1,p7,by omega,by go_num,by omega,by omega,HS⟩
        case measure=>simp[intOf];omega
      case neg=>
       obtain rfl:nf=i:=by omega
       obtain⟨⟨b1,d1,b2,d2,b3,d3,b4,d4,ev⟩,_⟩:=E14.o.1.prow;subst ev;have HM:=Ah (Qk HF.o E14.o.2.1 (by omega) (by have:=E14.o.2.2.cl;omega) E14.o.2.2.cw E14.o.2.2.tl E14.o.2.2.tw);obtain⟨⟨k0,k1,k2,k3⟩,_⟩:=E14.o.1.four (As (show gb P ⟨.slice b1 F.length d1,.slice b2 cs.length d2,.slice b3 G.length d3,.slice b4 ts.length d4⟩∈_ by simp));simp only[]at k0 k1 k2 k3;go_wp2_with fail;refine(Jg ⟨.slice b1 F.length d1,.slice b2 cs.length d2,.slice b3 G.length d3,.slice b4 ts.length d4⟩ ⟨F.map Prod.fst,cs,G.map Prod.fst,ts⟩ wr (HM.o.small (by omega)) HM.o.wf E14.o.1.sep.ownP.rd).mono ?_;rintro e U20 ⟨rc,rf,ra,vC,vD,rfl,bel,⟨q1,m1,o1,q2,m2,o2,eC,eD⟩,hC⟩;subst eC eD
       have HC:Hid (rc=0->∃(gc:Nat) (C:List Int),q1=some ⟨gc,0,none⟩/\m1=nf/\∃z,U20.cell? ⟨gc,0,none⟩=some (iZ z)):=fun e=>by
        obtain⟨gc,cc,C,e1,e2,e3⟩:=hC e;simp only[aI,aj]at e1 e2 e3;have hGl:=E14.o.2.1.len;rw[hGl]at e1 e2 e3;have h0:=au e3 0 (by omega);rw[Ed (aA (by omega))]at h0;exact⟨gc,C,e1.1,e1.2.1,_,h0⟩
       have E15:Hid (Bs u (U20.alloc (.cells #[iZ rc,iZ rf,iZ ra,.slice q1 m1 o1,.slice q2 m2 o2] 111)) s p5 (Ae ⟨.slice b1 F.length d1,.slice b2 cs.length d2,.slice b3 G.length d3,.slice b4 ts.length d4⟩ F cs G ts (gb P ⟨.slice b1 F.length d1,.slice b2 cs.length d2,.slice b3 G.length d3,.slice b4 ts.length d4⟩::[gb RB vN]))/\An (U20.alloc (.cells #[iZ rc,iZ rf,iZ ra,.slice q1 m1 o1,.slice q2 m2 o2] 111)) U20.heap.size #[iZ rc,iZ rf,iZ ra,.slice q1 m1 o1,.slice q2 m2 o2] 111/\(rc=0->∃gc:Nat,q1=some ⟨gc,0,none⟩/\m1=nf/\∃z,(U20.alloc (.cells #[iZ rc,iZ rf,iZ ra,.slice q1 m1 o1,.slice q2 m2 o2] 111)).cell? ⟨gc,0,none⟩=some (iZ z))/\GQ nf nf G/\KQ nf cs ts):=⟨(E14.o.1.keep bel).keep (Aa _ _),An.new _ _ _,fun e=>(by obtain⟨gc,C,e1,e2,z,e3⟩:=HC.o e;exact⟨gc,e1,e2,z,Ac (Aa _ _) e3⟩),E14.o.2.1,E14.o.2.2⟩
       clear bel hC HC HM k0 k1 k2 k3 E14;go_upto_region 37 with fail
       generalize U20.heap.size=TB at E15⊢;generalize U20.alloc (.cells #[iZ rc,iZ rf,iZ ra,.slice q1 m1 o1,.slice q2 m2 o2] 111)=U21 at E15⊢;obtain⟨t0,_,_,t3,_⟩:=CE E15.o.2.1;obtain⟨⟨k0,k1,k2,k3⟩,_⟩:=E15.o.1.four (As (show gb P ⟨.slice b1 F.length d1,.slice b2 cs.length d2,.slice b3 G.length d3,.slice b4 ts.length d4⟩∈_ by simp));simp only[]at k0 k1 k2 k3;by_cases hc0:rc=0
       case neg=>
        have hc0':(rc != 0)=true:=by simpa using hc0
        go_wp2_with fail
        refine(GO u U21 s p5 ⟨.slice b1 F.length d1,.slice b2 cs.length d2,.slice b3 G.length d3,.slice b4 ts.length d4⟩ F cs G ts (gb P ⟨.slice b1 F.length d1,.slice b2 cs.length d2,.slice b3 G.length d3,.slice b4 ts.length d4⟩::[gb RB vN]) nf E15.o.1 E15.o.2.2.2.1 (by have:=E15.o.2.2.2.2.cl;omega) E15.o.2.2.2.2.tl E15.o.2.2.2.2.tw (by omega)).mono ?_;rintro e U22 ⟨v',G',ts',rfl,hb,hq,ht,htw⟩;obtain⟨⟨e1,h1,e2,h2,e3,h3,e4,h4,ev⟩,_⟩:=hb.prow;subst ev;have HE:Hid _:=MG hb;have HQ:Hid (GQ nf nf G'/\ts'.length<=64/\(∀x∈ts',x.wf)/\KQ nf cs ts):=⟨hq,ht,htw,E15.o.2.2.2.2⟩
        obtain⟨z0,z1,z2,z3⟩:=HE.o.2.1;obtain⟨y0,y1,y2,y3⟩:=HE.o.2.2;clear hb hq ht htw t0 t3 k0 k1 k2 k3;go_wp2_with fail
        have HF4:Hid _:=(HE.o.1.four (P:=RB) (v:=⟨.slice e1 F.length h1,.slice e2 cs.length h2,.slice e3 G'.length h3,.slice e4 ts'.length h4⟩) (As (by simp))).1;obtain⟨w0,w1,w2,w3⟩:=HF4.o;simp only[]at w0 w1 w2 w3;exact aT (v:=.agg #[.slice e1 F.length h1,.slice e2 cs.length h2,.slice e3 G'.length h3,.slice e4 ts'.length h4]) (by simp[results,Tryz.results40,go_sem,w0,w1,w2,w3]) rfl (MH HE.o.1 HF.o HQ.o.1 (by omega) (by have:=HQ.o.2.2.2.cl;omega) HQ.o.2.2.2.cw HQ.o.2.1 HQ.o.2.2.1 (by omega) (by omega) rfl)
       obtain⟨gc,eq1,em1,z,hz⟩:=E15.o.2.2.1 hc0;subst eq1;rw[hc0]at t0;rw[em1]at t3;have hnfI:(0:Int)<(nf:Int):=by omega
       clear hc0 em1;by_cases hzg:z>100000
       case pos=>
        go_wp2_with fail
        refine(GO u U21 s p5 ⟨.slice b1 F.length d1,.slice b2 cs.length d2,.slice b3 G.length d3,.slice b4 ts.length d4⟩ F cs G ts (gb P ⟨.slice b1 F.length d1,.slice b2 cs.length d2,.slice b3 G.length d3,.slice b4 ts.length d4⟩::[gb RB vN]) nf E15.o.1 E15.o.2.2.2.1 (by have:=E15.o.2.2.2.2.cl;omega) E15.o.2.2.2.2.tl E15.o.2.2.2.2.tw (by omega)).mono ?_;rintro e U22 ⟨v',G',ts',rfl,hb,hq,ht,htw⟩;obtain⟨⟨e1,h1,e2,h2,e3,h3,e4,h4,ev⟩,_⟩:=hb.prow;subst ev;have HE:Hid _:=MG hb;have HQ:Hid (GQ nf nf G'/\ts'.length<=64/\(∀x∈ts',x.wf)/\KQ nf cs ts):=⟨hq,ht,htw,E15.o.2.2.2.2⟩
        obtain⟨z0,z1,z2,z3⟩:=HE.o.2.1;obtain⟨y0,y1,y2,y3⟩:=HE.o.2.2;clear hb hq ht htw t0 t3 k0 k1 k2 k3;go_wp2_with fail
        have HF4:Hid _:=(HE.o.1.four (P:=RB) (v:=⟨.slice e1 F.length h1,.slice e2 cs.length h2,.slice e3 G'.length h3,.slice e4 ts'.length h4⟩) (As (by simp))).1;obtain⟨w0,w1,w2,w3⟩:=HF4.o;simp only[]at w0 w1 w2 w3;exact aT (v:=.agg #[.slice e1 F.length h1,.slice e2 cs.length h2,.slice e3 G'.length h3,.slice e4 ts'.length h4]) (by simp[results,Tryz.results40,go_sem,w0,w1,w2,w3]) rfl (MH HE.o.1 HF.o HQ.o.1 (by omega) (by have:=HQ.o.2.2.2.cl;omega) HQ.o.2.2.2.cw HQ.o.2.1 HQ.o.2.2.1 (by omega) (by omega) rfl)
       have HE:Hid _:=MG E15.o.1;have HQ:Hid (GQ nf nf G/\KQ nf cs ts):=⟨E15.o.2.2.2.1,E15.o.2.2.2.2⟩
       obtain⟨z0,z1,z2,z3⟩:=HE.o.2.1;obtain⟨y0,y1,y2,y3⟩:=HE.o.2.2;go_wp2_with fail
       have HF4:Hid _:=(HE.o.1.four (P:=RB) (v:=⟨.slice b1 F.length d1,.slice b2 cs.length d2,.slice b3 G.length d3,.slice b4 ts.length d4⟩) (As (by simp))).1;obtain⟨w0,w1,w2,w3⟩:=HF4.o;simp only[]at w0 w1 w2 w3;exact aT (v:=.agg #[.slice b1 F.length d1,.slice b2 cs.length d2,.slice b3 G.length d3,.slice b4 ts.length d4]) (by simp[results,Tryz.results40,go_sem,w0,w1,w2,w3]) rfl (MH HE.o.1 HF.o HQ.o.1 (by omega) (by have:=HQ.o.2.cl;omega) HQ.o.2.cw HQ.o.2.tl HQ.o.2.tw (by omega) (by omega) rfl)
end Go.Proofs.YtjpobijiblcgaaaGreat
