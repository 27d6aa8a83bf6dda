import Derived.Test.YtjpobijiblcgaaaGreatFw0
import Derived.Test.YtjpobijiblcgaaaGreatFw4
import Derived.Test.YtjpobijiblcgaaaGreatFw39
import Derived.Deep.RegionHeld
namespace Go.Proofs.YtjpobijiblcgaaaGreat
open Go.ChangeShapes Go.WideShapes Go.ChangeAt Go.RowKit
set_option linter.unusedVariables false
set_option maxHeartbeats 8000000
set_option maxRecDepth 100000
def QW(w:World)(s:Cv)(k:GK)(p left lv:Int)(D:List Av)(e:Ending)(u':World):Prop:=e=.returned (.tuple #[])/\∃p' left',p<=p'/\p'<=p+15001+15001*(left-left')/\left'<=left/\(left<=30->left'=left)/\(30<left-> -80*left-300<=left')/\GS w u' s k p' left' lv 0 D
def Pm(m:Int):Prop:=∀(w u:World) (s:Cv) (k:GK) (p left lv:Int) (D:List Av) (deep:Int),CY k->k.nt=64->GS w u s k p left lv 0 D->left<=m-> -30000<=left->0<=lv/\lv<=3->deep<=2->left-2000<=deep->p+15001*(left+30000)<=900000000000->Calls Tryz.prog 53 #[.pointer (some ⟨k.Gb,0,none⟩),.int .i64 deep] u (QW w s k p left lv D)
def Q0(w:World)(s:Cv)(k:GK)(p left lv:Int)(D:List Av)(e:Ending)(u':World):Prop:=e=.returned (.tuple #[])/\∃p' left',p<=p'/\p'<=p+15001*(left-left')/\left'<=left-1∧-80*left-300<=left'/\GS w u' s k p' left' lv 0 D
theorem Qq.cert{k:GK}{g:Gn}{left:Int}{sl:Nat}(h:Qq k g left sl){x:MT}(hx:x.wf):Qq {k with nt:=k.nt+1} ⟨g.code,g.consts,g.certs++[x]⟩ left sl:=⟨h.len,h.nc,by have:=h.nt;rw[aG];simp only[aP];omega,h.wc,h.wk,fun y hy=>by
 rcases aS.1 hy with e|e
 . exact h.wt y e
 . rw[am.1 e]
   exact hx⟩
theorem Hs(w u:World)(s:Cv)(k:GK)(p left lv:Int)(D:List Av)(deep:Int)(hk:CY k)(hnt:k.nt=63)(h:GS w u s k p left lv 0 D)(hB:Pm (left-1))(hl:30<left)(hlv:0<=lv/\lv<=2)(hd:deep<=2)(hd2:left-2000<=deep)(hp:p+15001*(left+30000)<=900000015101):
 Calls Tryz.prog 91 #[.pointer (some ⟨k.Gb,0,none⟩),.int .i64 deep] u (Q0 w s {k with nt:=k.nt+1} p left lv D):=by
 obtain⟨iT,hiT,hT0,hT1,hT2⟩:=bH M2;obtain⟨v,vc,g,h1,h2⟩:=h.ex;obtain⟨⟨f,vf⟩,hy⟩:∃y,k.G[k.fi]?=some y:=⟨_,aA hk.fi⟩;obtain⟨gf,cf,ap,cp,al,cl,ac,cc,e1,e2,⟨f0,f1,f2,f3⟩,o1,o2,o3⟩:=h1.bl.fn hy;simp only[]at e2 f0 f1 f2 f3 o1 o2 o3;obtain⟨_,q1,q2,_,_,_⟩:=h1.cells;obtain⟨_,_,p2,_⟩:=h1.pcells;rw[e1]at p2;have hfi:(k.fi:Int)<(k.G.length:Int):=by have:=hk.fi;omega
 have hgl:=hk.gl;have hlc:=hk.lc _ (aE hy);have hpr:=hk.pr _ (aE hy);simp only[]at hlc hpr;have hl2:=h.le hk;have hL0:=hk.l0;have hp0:=h.src.low;have HK:Hid (CY k/\N8 2 1628 73/\Pm (left-1)/\CY {k with nt:=k.nt+1}/\k.nt+1=64):=⟨hk,FD,hB,hk.bound (by omega),by omega⟩
 have HC:Hid (∀W,Below u.heap.size u W->W.cell? ⟨k.Gb,1,none⟩=some (.pointer (some ⟨k.P,0,none⟩))/\W.cell? ⟨k.Gb,2,none⟩=some (.int .i64 (k.fi:Int))/\W.cell? ⟨k.P,2,none⟩=some (.slice (some ⟨gf,0,none⟩) k.G.length cf)/\W.cell? ⟨gf,k.fi*4,none⟩=some (.slice ap f.params.length cp)/\W.cell? ⟨gf,k.fi*4+1,none⟩=some (.int .i64 f.result)/\W.cell? ⟨gf,k.fi*4+2,none⟩=some (.slice al f.locals.length cl)/\W.cell? ⟨gf,k.fi*4+3,none⟩=some (.slice ac f.code.length cc)):=fun W hW=>⟨Ac hW q1,Ac hW q2,Ac hW p2,Ac hW f0,Ac hW f1,Ac hW f2,Ac hW f3⟩
 have EH:=Ah h;clear o1 o2 o3 f0 f1 f2 f3 q1 q2 p2 e1 e2 h1 h2 h hy hk hB hnt;have hwl:IntKind.i64.wrap (lv+1)=lv+1:=bp _ ⟨by omega,by omega⟩;go_enter Tryz.func91,Tryz.ntmps91;go_upto_region 0 with fail
 refine wp_region_held_drew (S:=fun W=>W.cell? ⟨k.Gb,1,none⟩=some (.pointer (some ⟨k.P,0,none⟩))/\W.cell? ⟨k.Gb,2,none⟩=some (.int .i64 (k.fi:Int))/\W.cell? ⟨k.P,2,none⟩=some (.slice (some ⟨gf,0,none⟩) k.G.length cf)/\W.cell? ⟨gf,k.fi*4,none⟩=some (.slice ap f.params.length cp)/\W.cell? ⟨gf,k.fi*4+1,none⟩=some (.int .i64 f.result)/\W.cell? ⟨gf,k.fi*4+2,none⟩=some (.slice al f.locals.length cl)/\W.cell? ⟨gf,k.fi*4+3,none⟩=some (.slice ac f.code.length cc)) (by kernel_rfl) (by exact HC.o _ (Ad _)) (fun hHeld=> ?_)
 have B0:Hid (Below u.heap.size u u.drew):=Ad _;generalize u.drew=UD at B0 hHeld⊢;refine Ak 0 ?_;refine Ak 1 ?_;refine Ak 2 ?_;refine Ak 3 ?_;refine Ak 4 ?_;refine Ak 5 ?_;refine Ak 6 ?_;refine Ak 7 ?_;refine Ak 8 ?_;refine Ak 9 ?_;refine Ak 10 ?_;refine Ak 11 ?_;refine Ak 12 ?_;refine rdH 13 ?_;intro KC hKC;go_simp;refine hKC.o _ _ (by exact HC.o _ (Af B0.o lR (Aa _ _))) (fun hHeld=> ?_);clear hKC KC;refine rdH 14 ?_;intro KC hKC;go_simp;refine hKC.o _ _ (by exact HC.o _ (Af B0.o lR (Aa _ _))) (fun hHeld=> ?_);clear hKC KC;refine wpAnyH_done (by kernel_rfl) ?_ _;clear hHeld;have E1:Hid (An (UD.alloc (.cells #[.slice ap f.params.length cp,.int .i64 f.result,.slice al f.locals.length cl,.slice ac f.code.length cc] 68)) UD.heap.size #[.slice ap f.params.length cp,.int .i64 f.result,.slice al f.locals.length cl,.slice ac f.code.length cc] 68/\GS w (UD.alloc (.cells #[.slice ap f.params.length cp,.int .i64 f.result,.slice al f.locals.length cl,.slice ac f.code.length cc] 68)) s k p left lv 0 D):=⟨An.new _ _ _,(EH.o.keep B0.o).keep (Aa _ _)⟩
 generalize UD.heap.size=X at E1⊢;generalize UD.alloc (.cells #[.slice ap f.params.length cp,.int .i64 f.result,.slice al f.locals.length cl,.slice ac f.code.length cc] 68)=U at E1⊢;clear B0 HC EH;go_upto_region 1 with fail
 have ED:Hid (An U.drew X #[.slice ap f.params.length cp,.int .i64 f.result,.slice al f.locals.length cl,.slice ac f.code.length cc] 68/\GS w U.drew s k p left lv 0 D):=⟨E1.o.1.keep (Ad _),E1.o.2.keep (Ad _)⟩
 obtain⟨_,_,_,_,_,_,_,q5⟩:=ED.o.2.cells;have x0:=ED.o.1.cell 0;have x2:=ED.o.1.cell 2;simp only[aU,aM,aQ]at x0 x2;clear E1;generalize f.params.length=np at*;generalize f.locals.length=nl at*;obtain⟨cv,hcv⟩:∃cv:Int,(np:Int)+(nl:Int)-3+lv=cv:=⟨_,rfl⟩;have hcv0:0<=cv/\cv<=5000:=by omega
 have hw1:IntKind.i64.wrap ((np:Int)+(nl:Int))=(np:Int)+(nl:Int):=bp _ ⟨by omega,by omega⟩;have hw2:IntKind.i64.wrap ((np:Int)+(nl:Int)-3)=(np:Int)+(nl:Int)-3:=bp _ ⟨by omega,by omega⟩;have hw3:IntKind.i64.wrap cv=cv:=bp _ ⟨by omega,by omega⟩;refine wp_region_held_drew (S:=fun W=>W.cell? ⟨X,0,none⟩=some (.slice ap np cp)/\W.cell? ⟨X,2,none⟩=some (.slice al nl cl)/\W.cell? ⟨k.Gb,5,none⟩=some (.int .i64 lv)) (by kernel_rfl) (by exact⟨x0,x2,q5⟩) (fun hHeld=> ?_)
 clear x0 x2 q5;generalize U.drew=UD at ED hHeld⊢;refine Ak 0 ?_;refine Ak 1 ?_;refine Ak 2 ?_;refine Ak 3 ?_;refine Ak 4 ?_;refine Ak 5 ?_;refine Ak 6 ?_;refine Ak 7 ?_;refine Ak 8 ?_;refine Ak 9 ?_;refine Ak 10 ?_;refine Ak 11 ?_;refine Ak 12 ?_;refine Ak 13 ?_;refine wpAnyH_done (by kernel_rfl) ?_ _;clear hHeld;go_simp;have E0:=Ah ED.o.2;clear ED hw1 hw2 hw3 hcv;obtain⟨_,_,q0,_⟩:=E0.o.cells;go_wp2_with fail
 refine(Ai E0.o.src).mono ?_;rintro e u1 ⟨r1,h1a,h1b,rfl,hs,hd'⟩;have E1:=Ah (E0.o.draw hs hd');clear hs hd' q0;have hwu:IntKind.u32.wrap r1=r1:=IntWalk.u32_in _ ⟨by omega,by omega⟩;go_wp2_with fail
 refine(Ck HK.o.1 E1.o (by omega) (by omega) Ag (Dz h1a (by omega))).mono ?_;rintro e u2 ⟨rc,rfl,hrc,hh⟩;have E2:=Ah hh;clear hh E0 E1;go_wp2_with fail
 refine(Ar HK.o.1 E2.o (by omega) Ag Ag Ag Ag).mono ?_;rintro e u3 ⟨n3,rfl,hn3,hh⟩;have E3:=Ah hh;clear hh;go_wp2_with fail
 refine(Ar HK.o.1 E3.o (by omega) Ag Ag Ag Ag).mono ?_;rintro e u4 ⟨n4,rfl,hn4,hh⟩;have E4:=Ah hh;clear hh;clear E2 E3;obtain⟨_,_,q0,_⟩:=E4.o.cells;go_wp2_with fail
 refine(AF E4.o.src).mono ?_;rintro e u5 ⟨b5,rfl,hs,hd'⟩;have E5:=Ah (E4.o.draw hs hd');clear hs hd';clear E4 q0;go_upto_if 53 with fail
 go_cut [] (fun wx=>∃l5:Int,left-3<=l5/\l5<=left-2/\Hid (GS w wx s k (p+1+1) l5 lv 0 D))
 case first=>
  cases b5
  case true=>
   obtain⟨a3,c3,_,_,_,q3,_⟩:=E5.o.cells;go_wp2_with fail
   refine(Ar HK.o.1 E5.o (by omega) Ag Ag Ag Ag).mono ?_;rintro e u6 ⟨n6,rfl,hn6,hh⟩;have E6:=Ah hh;clear hh;go_wp2_with fail
   go_meet
   exact⟨left-1-1-1,by omega,by omega,E6⟩
  case false=>
   go_wp2_with fail
   go_meet
   exact⟨left-1-1,by omega,by omega,E5⟩
 case rest=>
  obtain⟨l5,hl5a,hl5b,E6⟩:=hcut;clear E5;go_wp2_with fail
  refine(Ar HK.o.1 E6.o (by omega) Ag Ag Ag Ag).mono ?_;rintro e u7 ⟨n7,rfl,hn7,hh⟩;have E7:=Ah hh;clear hh;clear E6;have HN7:=Ah hn7;have hn7b:(n7:Int)<=100000:=by omega
  clear hn7;obtain⟨v,vc,g,h1,h2⟩:=E7.o.ex;obtain⟨⟨a1,c1,a2,c2,a3,c3,a4,c4,ev⟩,_⟩:=h1.bl.prow;subst ev;have hgt:g.certs.length<=63:=by have:=h2.nt;have:=HK.o.2.2.2.2;omega
  have H:Hid (SM w u7 s k (p+1+1) ⟨.slice a1 k.F.length c1,.slice a2 g.consts.length c2,.slice a3 k.G.length c3,.slice a4 g.certs.length c4⟩ vc g (l5-1) lv D/\Qq k g (l5-1) 0):=⟨h1,h2⟩
  clear h1 h2 E7;generalize hn:g.certs.length=n at H hgt;have HN:=Ah hn;clear hn;go_upto_region 8 with fail
  refine wp_region_held_drew (S:=fun W=>W.cell? ⟨k.Gb,1,none⟩=some (.pointer (some ⟨k.P,0,none⟩))/\W.cell? ⟨k.Gb,2,none⟩=some (.int .i64 (k.fi:Int))) (by kernel_rfl) (by exact⟨(H.o.1.keep (Ad _)).cells.2.1,(H.o.1.keep (Ad _)).cells.2.2.1⟩) (fun hHeld=> ?_)
  have D0:=Ah (H.o.1.keep (Ad _));have HG:=Ah H.o.2;clear H;generalize u7.drew=UD at D0 hHeld⊢;have q1:UD.cell? ⟨k.P,3,none⟩=some (.slice a4 n c4):=D0.o.pcells.2.2.2;refine Ak 0 ?_;refine Ak 1 ?_;refine Ak 2 ?_;refine Ak 3 ?_;refine Ak 4 ?_;refine Ak 5 ?_;refine Ak 6 ?_;refine Ak 7 ?_;refine Ak 8 ?_;refine Ak 9 ?_;refine Ak 11 ?_;refine Ak 12 ?_;refine Ak 13 ?_;refine Ak 14 ?_;refine Ak 15 ?_;refine Ak 16 ?_;refine Ak 17 ?_;refine Ak 18 ?_;refine Ak 19 ?_;refine wpAnyH_ready (rs:=[10,20]) (by kernel_rfl) (by simp) ?_;refine AllReadyH.cons rfl (fun KC hKC=> ?_) (AllReadyH.cons rfl (fun KC hKC=> ?_) AllReadyH.nil)
  focus
   go_simp;refine hKC.o _ _ (by assumption) (fun hHeld=> ?_);clear hKC KC;refine rdH 20 ?_;intro KC hKC;go_simp;have D3:Hid (SM w (UD.alloc (.cells #[.int .i64 (k.fi:Int),.int .i64 (n7:Int),.int .i64 cv,.int .u32 r1] 118)) s k (p+1+1) ⟨.slice a1 k.F.length c1,.slice a2 g.consts.length c2,.slice a3 k.G.length c3,.slice a4 n c4⟩ vc g (l5-1) lv D):=D0.o.keep (Aa _ _);have O3:=Ah ((by have:=D3.o.bl.prow.2.2.2.2;rw[HN.o]at this;exact this));have q3:(UD.alloc (.cells #[.int .i64 (k.fi:Int),.int .i64 (n7:Int),.int .i64 cv,.int .u32 r1] 118)).cell? ⟨k.P,3,none⟩=some (.slice a4 n c4):=D3.o.pcells.2.2.2;refine hKC.o _ _ (by exact⟨D3.o.cells.2.1,D3.o.cells.2.2.1⟩) (fun hHeld=> ?_);clear hKC KC;refine rdH 21 ?_;intro KC hKC
   refine step_append_lies _ rfl (.tmp 75) (.tmp 85) 63 rfl w.heap.size 118 iT (.agg #[.int .i64 0,.int .i64 0,.int .i64 0,.int .u32 0]) 4 32 Tryz.underlying63 hiT hT0 hT1 hT2 rfl (by decide) (.slice a4 n c4) n (g.certs.flatMap MT.cells) (by simp[Act.eval]) O3.o ⟨UD.heap.size,0,none⟩ 1 1 [.int .i64 (k.fi:Int),.int .i64 (n7:Int),.int .i64 cv,.int .u32 r1] (by simp[Act.eval]) rfl (Bn UD [.int .i64 (k.fi:Int),.int .i64 (n7:Int),.int .i64 cv,.int .u32 r1] 118) (by intro u hu;simp at hu;rcases hu with rfl|rfl|rfl|rfl<;>rfl) (by omega) (by unfold maxLen;omega) (by omega) D3.o.bl.size _ rfl ?_;intro gg cap u8 hown hgrow hat _;have D4:=Ah (D3.o.push_t ⟨(k.fi:Int),(n7:Int),cv,r1⟩ (.slice (some ⟨gg,0,none⟩) (n+1) cap) (by rw[HN.o];exact hown) hgrow (BH hat));have y0:=D4.o.2.1.1;have y1:=D4.o.2.1.2;clear hown hgrow hat O3 D3 q1 q3;refine hKC.o _ _ (by exact D4.o.2.2.1) (fun hHeld=> ?_);clear hKC KC;refine Ak 22 ?_;refine Ak 23 ?_;refine rdH 24 ?_;intro KC hKC;go_simp;refine hKC.o _ _ (by exact D4.o.2.2.2) (fun hHeld=> ?_);clear hKC KC;refine wpAnyH_done (by kernel_rfl) ?_ _;clear hHeld
   have E8:Hid (GS w (u8.setCell ⟨k.P,3,none⟩ (.slice (some ⟨gg,0,none⟩) (n+1) cap)) s {k with nt:=k.nt+1} (p+1+1) (l5-1) lv 0 D):=⟨_,_,_,⟨D4.o.1.bl⟩,HG.o.cert (x:=⟨(k.fi:Int),(n7:Int),cv,r1⟩) ⟨Ag (z:=(k.fi:Int)) (by omega) (by omega),Ag (z:=(n7:Int)) (by omega) (by omega),Ag (z:=cv) (by omega) (by omega),Dz (z:=r1) h1a (by omega)⟩⟩;generalize u8.setCell ⟨k.P,3,none⟩ (.slice (some ⟨gg,0,none⟩) (n+1) cap)=W8 at E8⊢;clear D4 y0 y1 D0 HG HN;obtain⟨lc,lf,lset⟩:=E8.o.lvl;have E9:=Ah (lset (lv+1));simp only[]at lc lf;go_upto_region 10 with fail
   clear lset lc lf;refine Al (fun U=>Hid (GS w U s {k with nt:=k.nt+1} (p+1+1) (l5-1) (lv+1) 0 D)) E9 ?_;clear E9 E8;rintro W9 E9;go_wp2_with fail
   refine(HK.o.2.2.1 w W9 s {k with nt:=k.nt+1} (p+1+1) (l5-1) (lv+1) D _ HK.o.2.2.2.1 HK.o.2.2.2.2 E9.o (by omega) (by omega) ⟨by omega,by omega⟩ (by omega) (by omega) (by omega)).mono ?_;rintro e u10 ⟨rfl,p10,l10,g1,g2,g3,g4,g5,hh⟩;have E10:=Ah hh;clear hh E9;have gp:p10+15001*l10<=p+2+15001+15001*(l5-1):=by omega
   have gl:-80*left-60<=l10:=by
    by_cases hc:l5-1<=30
    . have:=g4 hc;omega
    . have:=g5 (by omega);omega
   clear g4 g5;obtain⟨_,_,q0,_⟩:=E10.o.cells;simp only[]at q0;go_wp2_with fail
   refine(AF E10.o.src).mono ?_;rintro e u11 ⟨b11,rfl,hs,hd'⟩;have E11:=Ah (E10.o.draw hs hd');clear hs hd' E10 q0;go_upto_if 104 with fail
   go_cut [8] (fun o wx=>∃(ov:Int) (p12 l12:Int),o=.int .i64 ov/\(ov=-1\/∃on:Nat,ov=(on:Int)/\(on:Int)<k.L0-l12)/\p10<=p12/\p12<=p10+1629/\l10-75<=l12/\l12<=l10/\Hid (GS w wx s {k with nt:=k.nt+1} p12 l12 (lv+1) 0 D))
   case first=>
    cases b11
    case false=>
     go_wp2_with fail
     go_meet
     exact⟨-1,p10+1,l10,rfl,.inl rfl,by omega,by omega,by omega,by omega,E11⟩
    case true=>
     go_wp2_with fail
     refine(HK.o.2.1 w _ s {k with nt:=k.nt+1} (p10+1) l10 (lv+1) D _ _ HK.o.2.2.2.1 E11.o (by omega) (by omega) (by omega) (by omega) Ag).mono ?_;rintro e u12 ⟨rfl,p12,l12,b1,b2,b3,b4,hh⟩;have E12:=Ah hh;clear hh E11;go_wp2_with fail
     refine(Ar HK.o.2.2.2.1 E12.o (by omega) Ag Ag Ag Ag).mono ?_;rintro e u13 ⟨n13,rfl,hn13,hh⟩;have E13:=Ah hh;clear hh E12;simp only[]at hn13;have HN13:=Ah hn13;clear hn13;go_wp2_with fail
     refine(Ar HK.o.2.2.2.1 E13.o (by omega) Ag Ag Ag Ag).mono ?_;rintro e u14 ⟨n14,rfl,_,hh⟩;have E14:=Ah hh;clear hh E13;go_wp2_with fail
     go_meet
     exact⟨(n13:Int),p12,l12-1-1,rfl,.inr ⟨n13,rfl,by have:=HN13.o;omega⟩,by omega,by omega,by omega,by omega,E14⟩
   case rest=>
    obtain⟨ov,p12,l12,rfl,hov,b1,b2,b3,b4,E12⟩:=hcut;clear E11;obtain⟨lc,lf,lset⟩:=E12.o.lvl;simp only[]at lc lf;have hwl2:IntKind.i64.wrap (lv+1-1)=lv:=by rw[bp _ ⟨by omega,by omega⟩];omega
    have hwl3:lv+1-1=lv:=by omega
    have hwl4:IntKind.i64.wrap lv=lv:=bp _ ⟨by omega,by omega⟩;have E13:=Ah (lset lv);go_upto_region 17 with fail
    clear lset lc lf hwl2 hwl3 hwl4;refine Al (fun U=>Hid (GS w U s {k with nt:=k.nt+1} p12 l12 lv 0 D)) E13 ?_;clear E13 E12;rintro W14 E14;go_wp2_with fail
    refine(Ar HK.o.2.2.2.1 E14.o (by omega) Ag Ag Ag Ag).mono ?_;rintro e u15 ⟨n15,rfl,_,hh⟩;have E15:=Ah hh;clear hh E14;have hn7c:(n7:Int)<k.L0-(l12-1):=by have:=HN7.o;omega
    obtain⟨gc,c9,q3,hcd⟩:=E15.o.code (j:=n7) (by simp only[];omega);simp only[]at q3;obtain⟨⟨old,o3⟩,z3,hset⟩:=hcd 3 (by omega);obtain⟨d9,hd9⟩:∃d:Nat,(k.L0-(l12-1)).toNat=d:=⟨_,rfl⟩;rw[hd9]at q3;have hjd:(n7:Int)<(d9:Int):=by omega
    have hd9b:(d9:Int)<=1000000:=by omega
    have ES:Hid (GS w (u15.drew.setCell ⟨gc,n7*4+3,none⟩ (.int .i64 (d9:Int))) s {k with nt:=k.nt+1} p12 (l12-1) lv 0 D):=(hset (d9:Int) Ag).keep (Ad _);have o3':u15.drew.cell? ⟨gc,n7*4+3,none⟩=some (.int .i64 old):=o3;have z3':u15.drew.frozen? ⟨gc,n7*4+3,none⟩=false:=z3;have q3':u15.drew.cell? ⟨k.Gb,3,none⟩=some (.slice (some ⟨gc,0,none⟩) d9 c9):=q3
    have q3s:Hid ((u15.drew.setCell ⟨gc,n7*4+3,none⟩ (.int .i64 (d9:Int))).cell? ⟨k.Gb,3,none⟩=some (.slice (some ⟨gc,0,none⟩) d9 c9)):=by
     show(u15.drew.setCell ⟨gc,n7*4+3,none⟩ (.int .i64 (d9:Int))).cell? ⟨k.Gb,3,none⟩=_;rw[cu _ _ _ _ (fun e=>by rw[<-e]at q3';rw[q3']at o3';cases o3')];exact q3'
    clear hset hcd o3 z3 q3 hd9;go_upto_region 18 with fail
    refine wp_region_held_drew (S:=fun W=>W.cell? ⟨k.Gb,3,none⟩=some (.slice (some ⟨gc,0,none⟩) d9 c9)) (by kernel_rfl) (by exact q3') (fun hHeld=> ?_);clear E15;clear q3';generalize u15.drew=UD at o3' z3' ES q3s hHeld⊢;refine Ak 0 ?_;refine Ak 1 ?_;refine Ak 2 ?_;refine Ak 3 ?_;refine Ak 4 ?_;refine Ak 5 ?_;refine Ak 6 ?_;refine Ak 7 ?_;refine Ak 8 ?_;refine Ak 9 ?_;refine Ak 10 ?_;refine Ak 11 ?_;refine rdH 12 ?_;intro KC hKC;go_simp;refine hKC.o _ _ (by exact q3s.o) (fun hHeld=> ?_);clear hKC KC;refine wpAnyH_done (by kernel_rfl) ?_ _;clear hHeld q3s o3' z3';go_simp;generalize UD.setCell ⟨gc,n7*4+3,none⟩ (.int .i64 (d9:Int))=W16 at ES⊢;have E16:=ES;clear ES hjd hd9b;rcases hov with hov|⟨on,hov,hon⟩
    . subst hov
      go_wp2_with fail
      refine bK (v:=.tuple #[]) (by kernel_rfl) rfl ?_;exact⟨rfl,p12,l12-1,by omega,by omega,by omega,by omega,E16.o⟩
    . subst hov
      have hon2:(on:Int)<k.L0-(l12-1):=by omega
      have hon3:(on:Int)>=0:=by omega
      clear hon;obtain⟨gc,c9,q3,hcd⟩:=E16.o.code (j:=on) (by simp only[];omega);simp only[]at q3;obtain⟨⟨old,o3⟩,z3,hset⟩:=hcd 3 (by omega);obtain⟨d9,hd9⟩:∃d:Nat,(k.L0-(l12-1)).toNat=d:=⟨_,rfl⟩;rw[hd9]at q3;have hjd:(on:Int)<(d9:Int):=by omega
      have hd9b:(d9:Int)<=1000000:=by omega
      have ES:Hid (GS w (W16.drew.setCell ⟨gc,on*4+3,none⟩ (.int .i64 (d9:Int))) s {k with nt:=k.nt+1} p12 (l12-1) lv 0 D):=(hset (d9:Int) Ag).keep (Ad _);have o3':W16.drew.cell? ⟨gc,on*4+3,none⟩=some (.int .i64 old):=o3;have z3':W16.drew.frozen? ⟨gc,on*4+3,none⟩=false:=z3;have q3':W16.drew.cell? ⟨k.Gb,3,none⟩=some (.slice (some ⟨gc,0,none⟩) d9 c9):=q3
      have q3s:Hid ((W16.drew.setCell ⟨gc,on*4+3,none⟩ (.int .i64 (d9:Int))).cell? ⟨k.Gb,3,none⟩=some (.slice (some ⟨gc,0,none⟩) d9 c9)):=by
       show(W16.drew.setCell ⟨gc,on*4+3,none⟩ (.int .i64 (d9:Int))).cell? ⟨k.Gb,3,none⟩=_;rw[cu _ _ _ _ (fun e=>by rw[<-e]at q3';rw[q3']at o3';cases o3')];exact q3'
      clear hset hcd o3 z3 q3 hd9;go_upto_region 20 with fail
      refine wp_region_held_drew (S:=fun W=>W.cell? ⟨k.Gb,3,none⟩=some (.slice (some ⟨gc,0,none⟩) d9 c9)) (by kernel_rfl) (by exact q3') (fun hHeld=> ?_);clear E16;clear q3';generalize W16.drew=UD at o3' z3' ES q3s hHeld⊢;refine Ak 0 ?_;refine Ak 1 ?_;refine Ak 2 ?_;refine Ak 3 ?_;refine Ak 4 ?_;refine Ak 5 ?_;refine Ak 6 ?_;refine Ak 7 ?_;refine Ak 8 ?_;refine Ak 9 ?_;refine Ak 10 ?_;refine Ak 11 ?_;refine rdH 12 ?_;intro KC hKC;go_simp;refine hKC.o _ _ (by exact q3s.o) (fun hHeld=> ?_);clear hKC KC;refine wpAnyH_done (by kernel_rfl) ?_ _;clear hHeld q3s o3' z3';go_simp;generalize UD.setCell ⟨gc,on*4+3,none⟩ (.int .i64 (d9:Int))=W17 at ES⊢;have E17:=ES;clear ES hjd hd9b;go_wp2_with fail
      refine bK (v:=.tuple #[]) (by kernel_rfl) rfl ?_;exact⟨rfl,p12,l12-1,by omega,by omega,by omega,by omega,E17.o⟩
  focus
   go_simp;have D3:Hid (SM w (UD.alloc (.cells #[.int .i64 (k.fi:Int),.int .i64 (n7:Int),.int .i64 cv,.int .u32 r1] 118)) s k (p+1+1) ⟨.slice a1 k.F.length c1,.slice a2 g.consts.length c2,.slice a3 k.G.length c3,.slice a4 n c4⟩ vc g (l5-1) lv D):=D0.o.keep (Aa _ _);have O3:=Ah ((by have:=D3.o.bl.prow.2.2.2.2;rw[HN.o]at this;exact this));have q3:(UD.alloc (.cells #[.int .i64 (k.fi:Int),.int .i64 (n7:Int),.int .i64 cv,.int .u32 r1] 118)).cell? ⟨k.P,3,none⟩=some (.slice a4 n c4):=D3.o.pcells.2.2.2;refine hKC.o _ _ (by exact⟨D3.o.cells.2.1,D3.o.cells.2.2.1⟩) (fun hHeld=> ?_);clear hKC KC;refine rdH 10 ?_;intro KC hKC;go_simp;refine hKC.o _ _ (by assumption) (fun hHeld=> ?_);clear hKC KC;refine rdH 21 ?_;intro KC hKC
   refine step_append_lies _ rfl (.tmp 75) (.tmp 85) 63 rfl w.heap.size 118 iT (.agg #[.int .i64 0,.int .i64 0,.int .i64 0,.int .u32 0]) 4 32 Tryz.underlying63 hiT hT0 hT1 hT2 rfl (by decide) (.slice a4 n c4) n (g.certs.flatMap MT.cells) (by simp[Act.eval]) O3.o ⟨UD.heap.size,0,none⟩ 1 1 [.int .i64 (k.fi:Int),.int .i64 (n7:Int),.int .i64 cv,.int .u32 r1] (by simp[Act.eval]) rfl (Bn UD [.int .i64 (k.fi:Int),.int .i64 (n7:Int),.int .i64 cv,.int .u32 r1] 118) (by intro u hu;simp at hu;rcases hu with rfl|rfl|rfl|rfl<;>rfl) (by omega) (by unfold maxLen;omega) (by omega) D3.o.bl.size _ rfl ?_;intro gg cap u8 hown hgrow hat _;have D4:=Ah (D3.o.push_t ⟨(k.fi:Int),(n7:Int),cv,r1⟩ (.slice (some ⟨gg,0,none⟩) (n+1) cap) (by rw[HN.o];exact hown) hgrow (BH hat));have y0:=D4.o.2.1.1;have y1:=D4.o.2.1.2;clear hown hgrow hat O3 D3 q1 q3;refine hKC.o _ _ (by exact D4.o.2.2.1) (fun hHeld=> ?_);clear hKC KC;refine Ak 22 ?_;refine Ak 23 ?_;refine rdH 24 ?_;intro KC hKC;go_simp;refine hKC.o _ _ (by exact D4.o.2.2.2) (fun hHeld=> ?_);clear hKC KC;refine wpAnyH_done (by kernel_rfl) ?_ _;clear hHeld
   have E8:Hid (GS w (u8.setCell ⟨k.P,3,none⟩ (.slice (some ⟨gg,0,none⟩) (n+1) cap)) s {k with nt:=k.nt+1} (p+1+1) (l5-1) lv 0 D):=⟨_,_,_,⟨D4.o.1.bl⟩,HG.o.cert (x:=⟨(k.fi:Int),(n7:Int),cv,r1⟩) ⟨Ag (z:=(k.fi:Int)) (by omega) (by omega),Ag (z:=(n7:Int)) (by omega) (by omega),Ag (z:=cv) (by omega) (by omega),Dz (z:=r1) h1a (by omega)⟩⟩;generalize u8.setCell ⟨k.P,3,none⟩ (.slice (some ⟨gg,0,none⟩) (n+1) cap)=W8 at E8⊢;clear D4 y0 y1 D0 HG HN;obtain⟨lc,lf,lset⟩:=E8.o.lvl;have E9:=Ah (lset (lv+1));simp only[]at lc lf;go_upto_region 10 with fail
   clear lset lc lf;refine Al (fun U=>Hid (GS w U s {k with nt:=k.nt+1} (p+1+1) (l5-1) (lv+1) 0 D)) E9 ?_;clear E9 E8;rintro W9 E9;go_wp2_with fail
   refine(HK.o.2.2.1 w W9 s {k with nt:=k.nt+1} (p+1+1) (l5-1) (lv+1) D _ HK.o.2.2.2.1 HK.o.2.2.2.2 E9.o (by omega) (by omega) ⟨by omega,by omega⟩ (by omega) (by omega) (by omega)).mono ?_;rintro e u10 ⟨rfl,p10,l10,g1,g2,g3,g4,g5,hh⟩;have E10:=Ah hh;clear hh E9;have gp:p10+15001*l10<=p+2+15001+15001*(l5-1):=by omega
   have gl:-80*left-60<=l10:=by
    by_cases hc:l5-1<=30
    . have:=g4 hc;omega
    . have:=g5 (by omega);omega
   clear g4 g5;obtain⟨_,_,q0,_⟩:=E10.o.cells;simp only[]at q0;go_wp2_with fail
   refine(AF E10.o.src).mono ?_;rintro e u11 ⟨b11,rfl,hs,hd'⟩;have E11:=Ah (E10.o.draw hs hd');clear hs hd' E10 q0;go_upto_if 104 with fail
   go_cut [8] (fun o wx=>∃(ov:Int) (p12 l12:Int),o=.int .i64 ov/\(ov=-1\/∃on:Nat,ov=(on:Int)/\(on:Int)<k.L0-l12)/\p10<=p12/\p12<=p10+1629/\l10-75<=l12/\l12<=l10/\Hid (GS w wx s {k with nt:=k.nt+1} p12 l12 (lv+1) 0 D))
   case first=>
    cases b11
    case false=>
     go_wp2_with fail
     go_meet
     exact⟨-1,p10+1,l10,rfl,.inl rfl,by omega,by omega,by omega,by omega,E11⟩
    case true=>
     go_wp2_with fail
     refine(HK.o.2.1 w _ s {k with nt:=k.nt+1} (p10+1) l10 (lv+1) D _ _ HK.o.2.2.2.1 E11.o (by omega) (by omega) (by omega) (by omega) Ag).mono ?_;rintro e u12 ⟨rfl,p12,l12,b1,b2,b3,b4,hh⟩;have E12:=Ah hh;clear hh E11;go_wp2_with fail
     refine(Ar HK.o.2.2.2.1 E12.o (by omega) Ag Ag Ag Ag).mono ?_;rintro e u13 ⟨n13,rfl,hn13,hh⟩;have E13:=Ah hh;clear hh E12;simp only[]at hn13;have HN13:=Ah hn13;clear hn13;go_wp2_with fail
     refine(Ar HK.o.2.2.2.1 E13.o (by omega) Ag Ag Ag Ag).mono ?_;rintro e u14 ⟨n14,rfl,_,hh⟩;have E14:=Ah hh;clear hh E13;go_wp2_with fail
     go_meet
     exact⟨(n13:Int),p12,l12-1-1,rfl,.inr ⟨n13,rfl,by have:=HN13.o;omega⟩,by omega,by omega,by omega,by omega,E14⟩
   case rest=>
    obtain⟨ov,p12,l12,rfl,hov,b1,b2,b3,b4,E12⟩:=hcut;clear E11;obtain⟨lc,lf,lset⟩:=E12.o.lvl;simp only[]at lc lf;have hwl2:IntKind.i64.wrap (lv+1-1)=lv:=by rw[bp _ ⟨by omega,by omega⟩];omega
    have hwl3:lv+1-1=lv:=by omega
    have hwl4:IntKind.i64.wrap lv=lv:=bp _ ⟨by omega,by omega⟩;have E13:=Ah (lset lv);go_upto_region 17 with fail
    clear lset lc lf hwl2 hwl3 hwl4;refine Al (fun U=>Hid (GS w U s {k with nt:=k.nt+1} p12 l12 lv 0 D)) E13 ?_;clear E13 E12;rintro W14 E14;go_wp2_with fail
    refine(Ar HK.o.2.2.2.1 E14.o (by omega) Ag Ag Ag Ag).mono ?_;rintro e u15 ⟨n15,rfl,_,hh⟩;have E15:=Ah hh;clear hh E14;have hn7c:(n7:Int)<k.L0-(l12-1):=by have:=HN7.o;omega
    obtain⟨gc,c9,q3,hcd⟩:=E15.o.code (j:=n7) (by simp only[];omega);simp only[]at q3;obtain⟨⟨old,o3⟩,z3,hset⟩:=hcd 3 (by omega);obtain⟨d9,hd9⟩:∃d:Nat,(k.L0-(l12-1)).toNat=d:=⟨_,rfl⟩;rw[hd9]at q3;have hjd:(n7:Int)<(d9:Int):=by omega
    have hd9b:(d9:Int)<=1000000:=by omega
    have ES:Hid (GS w (u15.drew.setCell ⟨gc,n7*4+3,none⟩ (.int .i64 (d9:Int))) s {k with nt:=k.nt+1} p12 (l12-1) lv 0 D):=(hset (d9:Int) Ag).keep (Ad _);have o3':u15.drew.cell? ⟨gc,n7*4+3,none⟩=some (.int .i64 old):=o3;have z3':u15.drew.frozen? ⟨gc,n7*4+3,none⟩=false:=z3;have q3':u15.drew.cell? ⟨k.Gb,3,none⟩=some (.slice (some ⟨gc,0,none⟩) d9 c9):=q3
    have q3s:Hid ((u15.drew.setCell ⟨gc,n7*4+3,none⟩ (.int .i64 (d9:Int))).cell? ⟨k.Gb,3,none⟩=some (.slice (some ⟨gc,0,none⟩) d9 c9)):=by
     show(u15.drew.setCell ⟨gc,n7*4+3,none⟩ (.int .i64 (d9:Int))).cell? ⟨k.Gb,3,none⟩=_;rw[cu _ _ _ _ (fun e=>by rw[<-e]at q3';rw[q3']at o3';cases o3')];exact q3'
    clear hset hcd o3 z3 q3 hd9;go_upto_region 18 with fail
    refine wp_region_held_drew (S:=fun W=>W.cell? ⟨k.Gb,3,none⟩=some (.slice (some ⟨gc,0,none⟩) d9 c9)) (by kernel_rfl) (by exact q3') (fun hHeld=> ?_);clear E15;clear q3';generalize u15.drew=UD at o3' z3' ES q3s hHeld⊢;refine Ak 0 ?_;refine Ak 1 ?_;refine Ak 2 ?_;refine Ak 3 ?_;refine Ak 4 ?_;refine Ak 5 ?_;refine Ak 6 ?_;refine Ak 7 ?_;refine Ak 8 ?_;refine Ak 9 ?_;refine Ak 10 ?_;refine Ak 11 ?_;refine rdH 12 ?_;intro KC hKC;go_simp;refine hKC.o _ _ (by exact q3s.o) (fun hHeld=> ?_);clear hKC KC;refine wpAnyH_done (by kernel_rfl) ?_ _;clear hHeld q3s o3' z3';go_simp;generalize UD.setCell ⟨gc,n7*4+3,none⟩ (.int .i64 (d9:Int))=W16 at ES⊢;have E16:=ES;clear ES hjd hd9b;rcases hov with hov|⟨on,hov,hon⟩
    . subst hov
      go_wp2_with fail
      refine bK (v:=.tuple #[]) (by kernel_rfl) rfl ?_;exact⟨rfl,p12,l12-1,by omega,by omega,by omega,by omega,E16.o⟩
    . subst hov
      have hon2:(on:Int)<k.L0-(l12-1):=by omega
      have hon3:(on:Int)>=0:=by omega
      clear hon;obtain⟨gc,c9,q3,hcd⟩:=E16.o.code (j:=on) (by simp only[];omega);simp only[]at q3;obtain⟨⟨old,o3⟩,z3,hset⟩:=hcd 3 (by omega);obtain⟨d9,hd9⟩:∃d:Nat,(k.L0-(l12-1)).toNat=d:=⟨_,rfl⟩;rw[hd9]at q3;have hjd:(on:Int)<(d9:Int):=by omega
      have hd9b:(d9:Int)<=1000000:=by omega
      have ES:Hid (GS w (W16.drew.setCell ⟨gc,on*4+3,none⟩ (.int .i64 (d9:Int))) s {k with nt:=k.nt+1} p12 (l12-1) lv 0 D):=(hset (d9:Int) Ag).keep (Ad _);have o3':W16.drew.cell? ⟨gc,on*4+3,none⟩=some (.int .i64 old):=o3;have z3':W16.drew.frozen? ⟨gc,on*4+3,none⟩=false:=z3;have q3':W16.drew.cell? ⟨k.Gb,3,none⟩=some (.slice (some ⟨gc,0,none⟩) d9 c9):=q3
      have q3s:Hid ((W16.drew.setCell ⟨gc,on*4+3,none⟩ (.int .i64 (d9:Int))).cell? ⟨k.Gb,3,none⟩=some (.slice (some ⟨gc,0,none⟩) d9 c9)):=by
       show(W16.drew.setCell ⟨gc,on*4+3,none⟩ (.int .i64 (d9:Int))).cell? ⟨k.Gb,3,none⟩=_;rw[cu _ _ _ _ (fun e=>by rw[<-e]at q3';rw[q3']at o3';cases o3')];exact q3'
      clear hset hcd o3 z3 q3 hd9;go_upto_region 20 with fail
      refine wp_region_held_drew (S:=fun W=>W.cell? ⟨k.Gb,3,none⟩=some (.slice (some ⟨gc,0,none⟩) d9 c9)) (by kernel_rfl) (by exact q3') (fun hHeld=> ?_);clear E16;clear q3';generalize W16.drew=UD at o3' z3' ES q3s hHeld⊢;refine Ak 0 ?_;refine Ak 1 ?_;refine Ak 2 ?_;refine Ak 3 ?_;refine Ak 4 ?_;refine Ak 5 ?_;refine Ak 6 ?_;refine Ak 7 ?_;refine Ak 8 ?_;refine Ak 9 ?_;refine Ak 10 ?_;refine Ak 11 ?_;refine rdH 12 ?_;intro KC hKC;go_simp;refine hKC.o _ _ (by exact q3s.o) (fun hHeld=> ?_);clear hKC KC;refine wpAnyH_done (by kernel_rfl) ?_ _;clear hHeld q3s o3' z3';go_simp;generalize UD.setCell ⟨gc,on*4+3,none⟩ (.int .i64 (d9:Int))=W17 at ES⊢;have E17:=ES;clear ES hjd hd9b;go_wp2_with fail
      refine bK (v:=.tuple #[]) (by kernel_rfl) rfl ?_;exact⟨rfl,p12,l12-1,by omega,by omega,by omega,by omega,E17.o⟩
end Go.Proofs.YtjpobijiblcgaaaGreat
