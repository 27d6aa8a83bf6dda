import Derived.Test.YtjcamlobelcepaaGreatDoorCt41
namespace Go.Proofs.YtjcamlobelcepaaGreatDoor
open Go.ChangeShapes Go.WideShapes Go.ChangeAt Go.RowKit
set_option linter.unusedVariables false
set_option maxHeartbeats 8000000
set_option maxRecDepth 100000
def So(w:World)(s:CR)(k:GK)(p left lv:Int)(D:List As)(e:Ending)(u':World):Prop:=e=.returned (.tuple #[])/\∃p' left',(p<=p'/\p'<=p+15001+15001*(left-left')/\left'<=left/\(left<=30->left'=left)/\(30<left->90-3*left<=left'))/\Hid (GS w u' s k p' left' lv 64 D)
def SD(m:Int):Prop:=∀ ⦃w u:World⦄ ⦃s:CR⦄ ⦃k:GK⦄ ⦃p left lv:Int⦄ ⦃D:List As⦄ ⦃deep:Int⦄,Hid (GS w u s k p left lv 64 D)->left<=m-> -30000<=left->0<=lv/\lv<=3->deep<=2->left-2000<=deep->p+15001*(left+30000)<=900000000000->Calls Tryz.prog 35 #[.pointer (some ⟨k.Gb,0,none⟩),iZ deep] u (So w s k p left lv D)
theorem Uo{m:Int}(H:Hid (SD m)){w u:World}{s:CR}{k:GK}{p left lv:Int}{D:List As}{deep:Int}(E:Hid (GS w u s k p left lv 64 D))(h1:left<=m:=by omega)(h2:-30000<=left:=by omega)(h3:0<=lv/\lv<=3:=by omega)(h4:deep<=2:=by omega)(h5:left-2000<=deep:=by omega)(h6:p+15001*(left+30000)<=900000000000:=by omega):Calls Tryz.prog 35 #[.pointer (some ⟨k.Gb,0,none⟩),iZ deep] u (So w s k p left lv D):=H.o E h1 h2 h3 h4 h5 h6
def TF(w:World)(s:CR)(k:GK)(p left lv:Int)(D:List As)(e:Ending)(u':World):Prop:=e=.returned (.tuple #[])/\∃p' left',(p<=p'/\p'<=p+15001*(left-left')/\left'<=left/\90-3*left<=left')/\Hid (GS w u' s k p' left' lv 64 D)
def TM(w:World)(s:CR)(k:GK)(p left lv:Int)(D:List As)(e:Ending)(u':World):Prop:=e=.returned (.tuple #[])/\∃p' left',(p<=p'/\p'<=p+5000+15001*(left-left')/\left'<=left/\90-3*left<=left')/\Hid (GS w u' s k p' left' lv 64 D)
theorem TE.crt{w u:World}{s:CR}{k:GK}{p left lv:Int}{nt:Nat}{D:List As}{n:Nat}{J:List Nat}(h:TE w u s {k with J:=J} p left lv nt D n):∃v vc g,SM w u s k p v vc g left lv D/\g.certs.length<=nt/\∀(W:World) (V:VP) (cv r:Int),SM w W s k p V vc ⟨g.code,g.consts,g.certs++[⟨(k.fi:Int),(n:Int),cv,r⟩]⟩ left lv D->Sa k cv 3->0<=r/\r<4294967296->(n:Int)<=100000->GS w W s {k with J:=J} p left lv (nt+1) D:=by
 obtain⟨hk,v,vc,g,h1,h2,h3,h4⟩:=h;have hfi:=hk.fi;have hgl:=hk.gl;simp only[]at hfi hgl;refine⟨v,vc,g,⟨h1.bl⟩,h2.nt,fun W V cv r hW hc hr hn=>⟨hk,_,_,_,⟨hW.bl⟩,h2.crt (c:=⟨(k.fi:Int),(n:Int),cv,r⟩) ⟨BZ (z:=(k.fi:Int)) (by omega) (by omega),BZ (z:=(n:Int)) (by omega) (by omega),?_,LZ hr.1 hr.2⟩ rfl (by simp only[];omega) h4 h3 hc⟩⟩;have:=QU hk hc (by omega);exact BZ (z:=cv) (by omega) (by omega)
theorem T9{w u:World}{s:CR}{k:GK}{p left lv:Int}{D:List As}{deep:Int}(HB:Hid (SD (left-1)))(E:Hid (GS w u s k p left lv 63 D))(hl:30<left)(hlv:0<=lv/\lv<=2)(hd:deep<=2)(hd2:left-2000<=deep)(hp:p+15001*(left+30000)<=900000015101):
 Calls Tryz.prog 88 #[.pointer (some ⟨k.Gb,0,none⟩),iZ deep] u (TF w s k p left lv D):=by
 obtain⟨iT,hiT,hT0,hT1,hT2⟩:=bJ QL;obtain⟨gf,cf,f,ap,cp,al,cl,ac,m,cc,hy,hq,hfi,HC⟩:=E.o.fc;have hp0:=E.o.le;have hpl:=hq.pl;have hlc:=hq.lt.1;have hgl:=E.o.ok.gl;have HX:=Af NT
 have HL:Hid (Sa k ((f.params.length:Int)+f.locals.length-3+lv) 3):=by
  obtain⟨y,hy,e⟩:=hy;exact⟨y,hy,by rw[e];exact hq.ctr hlv⟩
 clear hy hq;have hwl:IntKind.i64.wrap (lv+1)=lv+1:=cQ _ ⟨by omega,by omega⟩;go_enter Tryz.func88,Tryz.ntmps88;go_upto_region 0 with fail
 refine wp_region_held_drew (S:=Uu k gf cf f ap cp al cl (.slice ac m cc)) (by kernel_rfl) (HC.o _ (Ae _)).1 (fun hHeld=> ?_);have B0:Hid (Below u.heap.size u u.drew):=Ae _;generalize u.drew=UD at B0 hHeld⊢;refine Ar 0 ?_;refine Ar 1 ?_;refine Ar 2 ?_;refine Ar 3 ?_;refine Ar 4 ?_;refine Ar 5 ?_;refine Ar 6 ?_;refine Ar 7 ?_;refine Ar 8 ?_;refine Ar 9 ?_;refine Ar 10 ?_;refine Ar 11 ?_;refine Ar 12 ?_;refine FL 13 ?_;intro KC hKC;go_simp;refine hKC.o _ _ (HC.o _ (Ab B0.o lR (Aa _ _))).1 (fun hHeld=> ?_);clear hKC KC;refine FL 14 ?_;intro KC hKC;go_simp;refine hKC.o _ _ (HC.o _ (Ab B0.o lR (Aa _ _))).1 (fun hHeld=> ?_);clear hKC KC;refine wpAnyH_done (by kernel_rfl) ?_ _;clear hHeld;generalize hV:#[Value.slice ap f.params.length cp,iZ f.result,.slice al f.locals.length cl,.slice ac m cc]=V;have E1:=Af (aG (Ap.new UD V 58) ((E.o.keep B0.o).keep (Aa UD (.cells V 58))));generalize UD.heap.size=X at E1⊢;generalize UD.alloc (.cells V 58)=U at E1⊢;clear B0 HC E;go_upto_region 1 with fail
 have ED:=Af (aG (E1.o.1.keep (Ae _)) (E1.o.2.keep (Ae _)));obtain⟨_,_,_,_,_,_,_,q5⟩:=ED.o.2.cells;have x0:=ED.o.1.cell 0;have x2:=ED.o.1.cell 2;subst hV;simp only[aQ,aJ,aL]at x0 x2;clear E1;generalize f.params.length=np at*;generalize f.locals.length=nl at*;obtain⟨cv,hcv⟩:∃cv:Int,(np:Int)+(nl:Int)-3+lv=cv:=⟨_,rfl⟩;rw[hcv]at HL;have hw1:IntKind.i64.wrap ((np:Int)+(nl:Int))=(np:Int)+(nl:Int):=cQ _ ⟨by omega,by omega⟩;have hw2:IntKind.i64.wrap ((np:Int)+(nl:Int)-3)=(np:Int)+(nl:Int)-3:=cQ _ ⟨by omega,by omega⟩;have hw3:IntKind.i64.wrap cv=cv:=cQ _ ⟨by omega,by omega⟩;refine wp_region_held_drew (S:=fun W=>W.cell? ⟨X,0,none⟩=some (.slice ap np cp)/\W.cell? ⟨X,2,none⟩=some (.slice al nl cl)/\W.cell? ⟨k.Gb,5,none⟩=some (iZ lv)) (by kernel_rfl) ⟨x0,x2,q5⟩ (fun hHeld=> ?_)
 clear x0 x2 q5;have E:=Af ED.o.2;clear ED;generalize U.drew=UD at E hHeld⊢;refine Ar 0 ?_;refine Ar 1 ?_;refine Ar 2 ?_;refine Ar 3 ?_;refine Ar 4 ?_;refine Ar 5 ?_;refine Ar 6 ?_;refine Ar 7 ?_;refine Ar 8 ?_;refine Ar 9 ?_;refine Ar 10 ?_;refine Ar 11 ?_;refine Ar 12 ?_;refine Ar 13 ?_;refine wpAnyH_done (by kernel_rfl) ?_ _;clear hHeld;go_simp;clear hw1 hw2 hw3 hcv;obtain⟨_,_,q0,_⟩:=E.o.cells;go_wp2_with fail
 refine(Ol E).mono ?_;rintro e u ⟨r1,rfl,hr,E⟩;clear q0;have hwu:IntKind.u32.wrap r1=r1:=IntWalk.u32_in _ ⟨by omega,by omega⟩;go_wp2_with fail
 refine(SS E (by omega) (by omega) (by omega)).mono ?_;rintro e u ⟨r,rfl,E⟩;go_wp2_with fail
 refine(Uc E).mono ?_;rintro e u ⟨n,rfl,E⟩;go_wp2_with fail
 refine(Fa E (UI E.o.ok HL.o)).mono ?_;rintro e u ⟨n,rfl,_,E⟩;obtain⟨_,_,q0,_⟩:=E.o.cells;go_wp2_with fail
 refine(TT E).mono ?_;rintro e u ⟨b,rfl,E⟩;clear q0;go_upto_if 53 with fail
 go_cut [] (fun wx=>∃l5:Int,(left-3<=l5/\l5<=left-2)/\Hid (GS w wx s k (p+1+1) l5 lv 63 D))
 case first=>
  cases b
  case true=>
   obtain⟨a3,c3,_,_,_,q3,_⟩:=E.o.cells;go_wp2_with fail
   refine(Fa E Ua).mono ?_;rintro e u ⟨n,rfl,_,E⟩;go_wp2_with fail
   go_meet
   exact⟨_,by omega,E⟩
  go_wp2_with fail
  go_meet
  exact⟨_,by omega,E⟩
 case rest=>
  obtain⟨l5,hl5,E⟩:=hcut;go_wp2_with fail
  refine(Sh E (UG E.o.ok HL.o) (.inr (by kernel_rfl))).mono ?_;rintro e u7 ⟨n7,rfl,hn7,E⟩;obtain⟨v,vc,g,h1,hgt,hfin⟩:=E.o.crt;obtain⟨⟨a1,c1,a2,c2,a3,c3,a4,c4,ev⟩,_⟩:=h1.bl.prow;subst ev;have HF:=Af hfin;have D0:=Af (h1.keep (Ae _));clear E;have hn7b:(n7:Int)<=100000:=by omega
  have HN7:=Af hn7;clear h1 hfin hn7;generalize hn:g.certs.length=n at D0 hgt;have HN:=Af hn;clear hn;go_upto_region 8 with fail
  refine Bh 24 (S:=fun W=>W.cell? ⟨k.Gb,1,none⟩=some (.pointer (some ⟨k.P,0,none⟩))/\W.cell? ⟨k.Gb,2,none⟩=some (iZ (k.fi:Int))/\W.cell? ⟨k.P,3,none⟩=some (.slice a4 n c4)) (by kernel_rfl) ⟨D0.o.cells.2.1,D0.o.cells.2.2.1,D0.o.pcells.2.2.2⟩ (fun hHeld=> ?_)
  generalize u7.drew=UD at D0 hHeld⊢;refine BH 0 ?_;refine BH 1 ?_;refine BH 2 ?_;refine BH 3 ?_;refine BH 4 ?_;refine BH 5 ?_;refine BH 6 ?_;refine BH 7 ?_;refine BH 8 ?_;refine BH 9 ?_;refine BH 10 ?_;refine BH 11 ?_;refine BH 12 ?_;refine BH 13 ?_;refine BH 14 ?_;refine BH 15 ?_;refine BH 16 ?_;refine BH 17 ?_;refine BH 18 ?_;refine BH 19 ?_;refine LS 20 ?_;intro KC hKC;go_simp;have D3:=Af (D0.o.keep (Aa UD (.cells #[iZ (k.fi:Int),iZ (n7:Int),iZ cv,.int .u32 r1] 62)));have O3:=Af ((by have:=D3.o.bl.prow.2.2.2.2;rw[HN.o]at this;exact this));refine hKC.o _ _ (fun _=>⟨D3.o.cells.2.1,D3.o.cells.2.2.1,D3.o.pcells.2.2.2⟩) (fun hH=> ?_);clear hKC KC;have hHeld:=hH (by decide);refine LS 21 ?_;intro KC hKC
  refine step_append_lies _ rfl (.tmp 75) (.tmp 85) 26 rfl w.heap.size 62 iT (.agg #[iZ 0,iZ 0,iZ 0,.int .u32 0]) 4 32 Tryz.underlying26 hiT hT0 hT1 hT2 rfl (by decide) (.slice a4 n c4) n (g.certs.flatMap MT.cells) (by simp[Act.eval]) O3.o ⟨UD.heap.size,0,none⟩ 1 1 [iZ (k.fi:Int),iZ (n7:Int),iZ cv,.int .u32 r1] (by simp[Act.eval]) rfl (De UD [iZ (k.fi:Int),iZ (n7:Int),iZ cv,.int .u32 r1] 62) (by intro u hu;simp at hu;rcases hu with rfl|rfl|rfl|rfl<;>rfl) (by omega) (by unfold maxLen;omega) (by omega) D3.o.bl.size _ rfl ?_;intro gg cap u8 hown hgrow hat _;have D4:=Af (D3.o.push_t ⟨(k.fi:Int),(n7:Int),cv,r1⟩ (sG gg (n+1) cap) (by rw[HN.o];exact hown) hgrow (DO hat));have y0:=D4.o.2.1.1;have y1:=D4.o.2.1.2;clear hown hgrow hat O3 D3;refine hKC.o _ _ (fun _=>⟨D4.o.2.2.1.1,D4.o.2.2.1.2,y0⟩) (fun hH=> ?_);clear hKC KC;have hHeld:=hH (by decide);refine BH 22 ?_;refine BH 23 ?_;refine LS 24 ?_;intro KC hKC;go_simp;refine hKC.o _ _ (fun h=>absurd h (by decide)) (fun hH=> ?_);clear hKC KC hH hHeld;refine Cj (by kernel_rfl) ?_ _;have E:Hid (GS w (u8.setCell ⟨k.P,3,none⟩ (sG gg (n+1) cap)) s {k with J:=n7::k.J} (p+1+1) (l5-1) lv 64 D):=HF.o _ _ _ _ D4.o.1 HL.o (by omega) hn7b
  generalize u8.setCell ⟨k.P,3,none⟩ (sG gg (n+1) cap)=W8 at E⊢;clear D4 y0 y1 D0 HF HN;obtain⟨lc,lf,lset⟩:=E.o.lvl;have E9:=Af (lset (lv+1));simp only[]at lc lf;go_upto_region 10 with fail
  clear lset lc lf;refine An (fun U=>Hid (GS w U s {k with J:=n7::k.J} (p+1+1) (l5-1) (lv+1) 64 D)) E9 ?_;clear E9 E;rintro W9 E;go_wp2_with fail
  refine(Uo HB E).mono ?_;rintro e u ⟨rfl,p10,l10,hb,E⟩
  have gl:15001*l10+p10<=p+2+15001+15001*(l5-1)/\97-3*left<=l10/\l10<=l5-1/\p<=p10:=by
   by_cases hc:l5-1<=30
   . have:=hb.2.2.2.1 hc;omega
   . have:=hb.2.2.2.2 (by omega);omega
  clear hb;obtain⟨_,_,q0,_⟩:=E.o.cells;simp only[]at q0;go_wp2_with fail
  refine(TT E).mono ?_;rintro e u ⟨b,rfl,E⟩;clear q0;go_upto_if 104 with fail
  go_cut [8] (fun o wx=>∃(ov p12 l12:Int) (J:List Nat),o=iZ ov/\(ov=-1\/∃on:Nat,ov=(on:Int)/\on∈J)/\(p10<=p12/\p12<=p10+200/\l10-6<=l12/\l12<=l10)/\Hid (n7∈J/\(∀j∈k.J,j∈J)/\GS w wx s {k with J:=J} p12 l12 (lv+1) 64 D))
  case first=>
   cases b
   case false=>
    go_wp2_with fail
    go_meet
    exact⟨-1,_,_,_,rfl,.inl rfl,by omega,bp ..,fun j hj=>bP _ hj,E.o⟩
   case true=>
    go_wp2_with fail
    refine(Mc HX E).mono ?_;rintro e u ⟨rfl,p12,l12,b1,E⟩;go_wp2_with fail
    refine(Sh E Ua (.inl (by kernel_rfl))).mono ?_;rintro e u ⟨n13,rfl,hn,E⟩;clear hn;have E:=Af E.o.gs;go_wp2_with fail
    refine(Fa E ok0).mono ?_;rintro e u ⟨n,rfl,_,E⟩;go_wp2_with fail
    go_meet
    exact⟨(n13:Int),_,_,_,rfl,.inr ⟨n13,rfl,bp ..⟩,by omega,bP _ (bp ..),fun j hj=>bP _ (bP _ hj),E.o⟩
  case rest=>
   obtain⟨ov,p12,l12,J,rfl,hov,b1,E12⟩:=hcut;obtain⟨lc,lf,lset⟩:=E12.o.2.2.lvl;simp only[]at lc lf;have hwl2:IntKind.i64.wrap (lv+1-1)=lv:=by rw[cQ _ ⟨by omega,by omega⟩];omega
   have hwl3:lv+1-1=lv:=by omega
   have hwl4:IntKind.i64.wrap lv=lv:=cQ _ ⟨by omega,by omega⟩;have HJ:=Af (aG E12.o.1 E12.o.2.1);have E:=Af (lset lv);go_upto_region 17 with fail
   clear lset lc lf hwl2 hwl3 hwl4;refine An (fun U=>Hid (GS w U s {k with J:=J} p12 l12 lv 64 D)) E ?_;clear E E12;rintro W14 E;have hJ0:=E.o.le;have hn7c:=HN7.o;simp only[]at hJ0;have hn7d:(n7:Int)<=k.L0-l12:=by omega
   clear hn7c;go_wp2_with fail
   refine(Fa E Ua).mono ?_;rintro e u15 ⟨n,rfl,_,E⟩;obtain⟨gc,cc,d,hd9,hjd,q3,⟨old,o3⟩,z3,E16⟩:=(E.o.keep (Ae _)).setC HJ.o.1 (by omega);simp only[]at q3;have E:=Af E16;have HD:=Af hd9;have hjdI:(n7:Int)<(d:Int):=by omega
   have hdb:(d:Int)<=1000000:=by simp only[]at hd9;omega
   clear E16 hd9;go_upto_region 18 with fail
   refine Bh 12 (S:=fun W=>W.cell? ⟨k.Gb,3,none⟩=some (sG gc d cc)) (by kernel_rfl) q3 (fun hHeld=> ?_);generalize u15.drew=UD at o3 z3 E hHeld⊢;refine BH 0 ?_;refine BH 1 ?_;refine BH 2 ?_;refine BH 3 ?_;refine BH 4 ?_;refine BH 5 ?_;refine BH 6 ?_;refine BH 7 ?_;refine BH 8 ?_;refine BH 9 ?_;refine BH 10 ?_;refine BH 11 ?_;refine LS 12 ?_;intro KC hKC;go_simp;refine hKC.o _ _ (fun h=>absurd h (by decide)) (fun hH=> ?_);clear hKC KC hH hHeld;refine Cj (by kernel_rfl) ?_ _;go_simp;clear o3 z3 hjdI hdb HD;generalize UD.setCell ⟨gc,n7*4+3,none⟩ (iZ (d:Int))=W16 at E⊢;rcases hov with rfl|⟨on,rfl,hon⟩
   . have E:=Af (E.o.back HJ.o.2)
     exact gE
   have hon3:(on:Int)>=0:=by omega
   obtain⟨gc,cc,d,hd9,hjd,q3,⟨old,o3⟩,z3,E16⟩:=(E.o.keep (Ae _)).setC hon (by omega);simp only[]at q3;have E:=Af E16;have HD:=Af hd9;have hjdI:(on:Int)<(d:Int):=by omega
   have hdb:(d:Int)<=1000000:=by simp only[]at hd9;omega
   clear E16 hd9;go_upto_region 20 with fail
   refine Bh 12 (S:=fun W=>W.cell? ⟨k.Gb,3,none⟩=some (sG gc d cc)) (by kernel_rfl) q3 (fun hHeld=> ?_);generalize W16.drew=UD at o3 z3 E hHeld⊢;refine BH 0 ?_;refine BH 1 ?_;refine BH 2 ?_;refine BH 3 ?_;refine BH 4 ?_;refine BH 5 ?_;refine BH 6 ?_;refine BH 7 ?_;refine BH 8 ?_;refine BH 9 ?_;refine BH 10 ?_;refine BH 11 ?_;refine LS 12 ?_;intro KC hKC;go_simp;refine hKC.o _ _ (fun h=>absurd h (by decide)) (fun hH=> ?_);clear hKC KC hH hHeld;refine Cj (by kernel_rfl) ?_ _;go_simp;clear o3 z3 hjdI hdb HD;generalize UD.setCell ⟨gc,on*4+3,none⟩ (iZ (d:Int))=W17 at E⊢;have E:=Af (E.o.back HJ.o.2);exact gE
end Go.Proofs.YtjcamlobelcepaaGreatDoor
