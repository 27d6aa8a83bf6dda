import Derived.Test.YtjcamlobelcepaaGreatDoorCt42
import Derived.Test.YtjcamlobelcepaaGreatDoorCt29
namespace Go.Proofs.YtjcamlobelcepaaGreatDoor
open Go.ChangeShapes Go.WideShapes Go.ChangeAt Go.RowKit
set_option linter.unusedVariables false
set_option maxHeartbeats 8000000
set_option maxRecDepth 100000
theorem GS.ncr{w u:World}{s:CR}{k:GK}{p left lv:Int}{nt:Nat}{D:List As}(h:GS w u s k p left lv nt D):∃a n c,u.cell? ⟨k.Gb,1,none⟩=some (.pointer (some ⟨k.P,0,none⟩))/\u.cell? ⟨k.P,3,none⟩=some (.slice a n c)/\u.cell? ⟨k.Gb,5,none⟩=some (iZ lv)/\n<=nt/\(n<=63->GS w u s k p left lv 63 D):=by
 obtain⟨v,vc,g,h1,h2⟩:=h.ex;obtain⟨⟨a1,c1,a2,c2,a3,c3,a4,c4,ev⟩,_⟩:=h1.bl.prow;have y3:=h1.pcells.2.2.2;rw[ev]at y3;exact⟨a4,_,c4,h1.cells.2.1,y3,h1.cells.2.2.2.2.2,h2.nt,fun hn=>⟨h.ok,v,vc,g,h1,{h2 with nt:=hn}⟩⟩
theorem Uf{w u:World}{s:CR}{k:GK}{p left lv:Int}{D:List As}{deep:Int}(HB:Hid (SD (left-1)))(E:Hid (GS w u s k p left lv 64 D))(hl:30<left)(hlv:0<=lv/\lv<=3)(hd:deep<=2)(hd2:left-2000<=deep)(hp:p+15001*(left+30000)<=900000015001):
 Calls Tryz.prog 52 #[.pointer (some ⟨k.Gb,0,none⟩),iZ deep] u (TM w s k p left lv D):=by
 have hp0:=E.o.le;have HX:=Af QC;obtain⟨_,_,q0,_⟩:=E.o.cells;have hwd:IntKind.i64.wrap (deep-1)=deep-1:=cQ _ ⟨by omega,by omega⟩;go_enter Tryz.func52,Tryz.ntmps52;go_wp2_with fail
 refine(Ol E).mono ?_;rintro e u ⟨r1,rfl,h1,E⟩;clear q0;go_wp2_with fail
 refine(Ol E).mono ?_;rintro e u ⟨r,rfl,hr,E⟩;obtain⟨t,ht⟩:∃t,1+r1=t:=⟨_,rfl⟩;have htb:1<=t/\t<=3:=by omega
 rcases(show r=0\/r=1\/r=2\/r=3\/r=4\/r=5\/r=6\/r=7\/r=8 by omega)with rfl|rfl|rfl|rfl|rfl|rfl|rfl|rfl|rfl
 iterate 2
  focus
   go_wp2_with fail
   refine(Ol E).mono ?_;rintro e u ⟨r3,rfl,h3,E⟩;obtain⟨q,hq⟩:∃q:Nat,1+r3=(q:Int):=⟨(1+r3).toNat,by omega⟩;have hq3:(q:Int)<3:=by omega
   obtain⟨gr,cr,a,n,c,d0,d1,d2,HP,_⟩:=Si E (show q<3 by omega);go_wp2_with fail
   refine(HP.o t).mono ?_;rintro e u ⟨r,p1,rfl,rfl|⟨b,rfl,hb⟩,hp1,E⟩
   case inl=>exact gE
   have hb0:(b:Int)>=0:=by omega
   go_wp2_with fail
   refine(Mc HX E).mono ?_;rintro e u ⟨rfl,_,_,_,E⟩;go_wp2_with fail
   refine(Fa E (ok3 E.o.ok hb)).mono ?_;rintro e u ⟨n,rfl,_,E⟩;exact gE
 focus
  go_wp2_with fail
  refine(T8 E).mono ?_;rintro e u ⟨a,n,c,rfl,E,HP⟩;go_wp2_with fail
  refine(HP.o t).mono ?_;rintro e u ⟨r,p1,rfl,rfl|⟨b,rfl,hb⟩,hp1,E⟩
  case inl=>exact gE
  have hb0:(b:Int)>=0:=by omega
  go_wp2_with fail
  refine(Mc HX E).mono ?_;rintro e u ⟨rfl,_,_,_,E⟩;go_wp2_with fail
  refine(Fa E (UI E.o.ok hb)).mono ?_;rintro e u ⟨n,rfl,_,E⟩;exact gE
 focus
  go_wp2_with fail
  refine(Ol E).mono ?_;rintro e u ⟨r3,rfl,h3,E⟩;obtain⟨q,hq⟩:∃q:Nat,1+r3=(q:Int):=⟨(1+r3).toNat,by omega⟩;have hq3:(q:Int)<3:=by omega
  obtain⟨gr,cr,a,n,c,d0,d1,d2,_,HM⟩:=Si E (show q<3 by omega);go_wp2_with fail
  refine(HM.o t).mono ?_;rintro e u ⟨r,m',p1,rfl,rfl|⟨b,m,rfl,rfl,hm⟩,hp1,E⟩
  case inl=>exact gE
  have hb0:(b:Int)>=0:=by omega
  iterate 2
   go_wp2_with fail
   refine(Mc HX E).mono ?_;rintro e u ⟨rfl,_,_,_,E⟩
  go_wp2_with fail
  refine(Fa E (ok4 E.o.ok hm.2 hm.1)).mono ?_;rintro e u ⟨n,rfl,_,E⟩;exact gE
 focus
  go_wp2_with fail
  refine(Mc HX E).mono ?_;rintro e u ⟨rfl,p3,l3,b3,E⟩;go_wp2_with fail
  refine(Sh E Ua (.inl (by kernel_rfl))).mono ?_;rintro e u ⟨n4,rfl,hn,E⟩;clear hn;have E:=Af E.o.gs;go_wp2_with fail
  refine(Uo HB E).mono ?_;rintro e u ⟨rfl,p5,l5,hb,E⟩
  have gl:(15001*l5+p5<=p3+15001+15001*(l3-1))/\93-3*left<=l5/\l5<=l3-1/\p3<=p5:=by
   by_cases hc:l3-1<=30
   . have:=hb.2.2.2.1 hc;omega
   . have:=hb.2.2.2.2 (by omega);omega
  clear hb;go_wp2_with fail
  refine(Sh E Ua (.inl (by kernel_rfl))).mono ?_;rintro e u6 ⟨n6,rfl,hn,E⟩;clear hn;have E:=Af E.o.gs;have hJ0:=E.o.le;simp only[]at hJ0;obtain⟨gc,cc,d,hd9,hjd,q3,⟨old,o3⟩,z3,E16⟩:=(E.o.keep (Ae _)).setC (j:=n4) (by simp) (by omega);simp only[]at q3;have E:=Af E16;have hjdI:(n4:Int)<(d:Int):=by omega
  have hdb:(d:Int)<=1000000:=by simp only[]at hd9;omega
  clear E16 hd9;go_upto_region 27 with fail
  refine Bh 12 (S:=fun W=>W.cell? ⟨k.Gb,3,none⟩=some (sG gc d cc)) (by kernel_rfl) q3 (fun hHeld=> ?_);generalize u6.drew=UD at o3 z3 E hHeld⊢;refine BH 0 ?_;refine BH 1 ?_;refine BH 2 ?_;refine BH 3 ?_;refine BH 4 ?_;refine BH 5 ?_;refine BH 6 ?_;refine BH 7 ?_;refine BH 8 ?_;refine BH 9 ?_;refine BH 10 ?_;refine BH 11 ?_;refine LS 12 ?_;intro KC hKC;go_simp;refine hKC.o _ _ (fun h=>absurd h (by decide)) (fun hH=> ?_);clear hKC KC hH hHeld;refine Cj (by kernel_rfl) ?_ _;go_simp;clear o3 z3 hjdI hdb;generalize UD.setCell ⟨gc,n4*4+3,none⟩ (iZ (d:Int))=W7 at E⊢;go_wp2_with fail
  refine(Uo HB E).mono ?_;rintro e u8 ⟨rfl,p8,l8,hb,E⟩
  have gl:(15001*l8+p8<=p5+15001+15001*(l5-1))/\90-3*left<=l8/\l8<=l5-1/\p5<=p8:=by
   by_cases hc:l5-1<=30
   . have:=hb.2.2.2.1 hc;omega
   . have:=hb.2.2.2.2 (by omega);omega
  clear hb;obtain⟨gc,cc,d,hd9,hjd,q3,⟨old,o3⟩,z3,E16⟩:=(E.o.keep (Ae _)).setC (j:=n6) (by simp) (by omega);simp only[]at q3;have E:=Af E16;have hjdI:(n6:Int)<(d:Int):=by omega
  have hdb:(d:Int)<=1000000:=by simp only[]at hd9;omega
  clear E16 hd9;go_upto_region 29 with fail
  refine Bh 12 (S:=fun W=>W.cell? ⟨k.Gb,3,none⟩=some (sG gc d cc)) (by kernel_rfl) q3 (fun hHeld=> ?_);generalize u8.drew=UD at o3 z3 E hHeld⊢;refine BH 0 ?_;refine BH 1 ?_;refine BH 2 ?_;refine BH 3 ?_;refine BH 4 ?_;refine BH 5 ?_;refine BH 6 ?_;refine BH 7 ?_;refine BH 8 ?_;refine BH 9 ?_;refine BH 10 ?_;refine BH 11 ?_;refine LS 12 ?_;intro KC hKC;go_simp;refine hKC.o _ _ (fun h=>absurd h (by decide)) (fun hH=> ?_);clear hKC KC hH hHeld;refine Cj (by kernel_rfl) ?_ _;go_simp;clear o3 z3 hjdI hdb;generalize UD.setCell ⟨gc,n6*4+3,none⟩ (iZ (d:Int))=W9 at E⊢;have E:=Af (E.o.back (fun j hj=>by simp[hj]));exact gE
 iterate 2
  focus
   obtain⟨a,n,c,y1,y3,y5,hn,h63⟩:=E.o.ncr;have H63:=Af h63;clear h63;by_cases c3:lv<3
   case neg=>exact gE
   by_cases c0:deep>0
   case neg=>exact gE
   by_cases c6:n<64
   case neg=>
    have c6n:¬(n:Int)<64:=by omega
    exact gE
   have c6I:(n:Int)<64:=by omega
   have E:=Af (H63.o (by omega));go_wp2_with fail
   refine(T9 HB E hl (by omega) (by omega) (by omega) (by omega)).mono ?_;rintro e u ⟨rfl,_,_,_,E⟩;exact gE
 focus
  go_wp2_with fail
  refine(TS E).mono ?_;rintro e u ⟨r,p1,rfl,rfl|⟨b,rfl,hb⟩,hp1,E⟩
  case inl=>exact gE
  have hb0:(b:Int)>=0:=by omega
  go_wp2_with fail
  refine(St (Af NT) E hb).mono ?_;rintro e u ⟨rfl,_,_,_,E⟩;exact gE
 go_wp2_with fail
 refine(Mc HX E).mono ?_;rintro e u ⟨rfl,_,_,_,E⟩;go_wp2_with fail
 refine(Fa E ok0).mono ?_;rintro e u ⟨n,rfl,_,E⟩;exact gE
theorem RO(m:Int)(hm:∀m',m'<=m-1->SD m'):SD m:=by
 intro w u s k p left lv D deep E hlm hl hlv hd hd2 hp;have hp0:=E.o.le;have HM:=Af hm;obtain⟨_,_,q0,_⟩:=E.o.cells;clear hm;go_enter Tryz.func35,Tryz.ntmps35;go_wp2_with fail
 refine(Ol E).mono ?_;rintro e u ⟨r1,rfl,h1,E⟩;clear q0;go_wp2_with fail
 go_loopw [4] (fun i wr=>∃(j:Nat) (p' left':Int),i=iZ (j:Int)/\j<=3/\(p<=p'/\p'<=p+1+5000*(3-(j:Int))+15001*(left-left')/\left'<=left)/\Hid ((left<=30->left'=left)/\(30<left->90-3*left<=left'))/\Hid (GS w wr s k p' left' lv 64 D)) (fun i _=>(intOf i).toNat)
 case atStart=>exact⟨(1+r1).toNat,p+1,left,by show _=_;congr 1;omega,by omega,by omega,⟨fun _=>rfl,fun _=>by omega⟩,E⟩
 case round=>
  obtain⟨j,p2,l2,rfl,hj,g1,G,E⟩:=hrel;obtain⟨_,_,_,_,_,_,q4,_⟩:=E.o.cells;by_cases hj0:j=0
  case pos=>
   subst hj0;go_wp2_with fail
   refine dh (v:=.tuple #[]) (by kernel_rfl) rfl ?_;exact⟨rfl,p2,l2,⟨by omega,by omega,by omega,G.o⟩,E⟩
  have hjI:(j:Int)>0:=by omega
  by_cases h30:l2>30
  case neg=>
   have h30':decide (l2>30)=false:=by simpa using h30
   go_wp2_with fail
   refine dh (v:=.tuple #[]) (by kernel_rfl) rfl ?_;exact⟨rfl,p2,l2,⟨by omega,by omega,by omega,G.o⟩,E⟩
  have h30':decide (l2>30)=true:=by simpa using h30
  go_wp2_with fail
  refine(Uf (Af (HM.o (l2-1) (by omega))) E (by omega) hlv (by omega) (by omega) (by omega)).mono ?_;rintro e u3 ⟨rfl,p3,l3,b1,E⟩;clear q4;obtain⟨j',rfl⟩:∃j',j=j'+1:=⟨j-1,by omega⟩;go_wp2_with fail
  go_roundw
  case rel=>exact⟨j',p3,l3,by go_num,by omega,by omega,⟨fun e=>absurd e (by omega),fun _=>by omega⟩,E⟩
  case measure=>simp[intOf]
theorem M6:∀m:Int,SD m:=by
 have key:∀n:Nat,∀m:Int,m<=(n:Int)-100000->SD m:=by
  intro n;induction n with
  |zero=>intro m hm w u s k p left lv D deep h hlm hl;exact absurd hl (by omega)
  |succ n ih=>intro m hm;exact RO m fun m' hm'=>ih m' (by omega)
 intro m;exact key (m+100000).toNat m (by omega)
theorem QR(v:VP)(p:MP)(g:VF)(f:MF)(x:MI)(w:World)(hs:p.small)(h3:p.regions.length=3)(hfs:f.small)(hxw:x.wf)(h:Ej w v p)(hf:EI w g f)(hx:AH p f x):
 Calls Tryz.prog 146 #[.agg #[v.r,v.k,v.f,v.t],.agg #[g.p,.int .i64 f.result,g.l,g.c],.agg #[.int .i64 x.op,.int .i64 x.a,.int .i64 x.b,.int .i64 x.c]] w (Dn w (Au p f x) (Ay p f x)):=by
 obtain⟨op,a,b,c⟩:=x;have hlo:=hx.1;have hhi:=hx.2.1;simp only[]at hlo hhi;have HX:Hid (AH p f ⟨op,a,b,c⟩):=hx;have hW:Ec a:=hxw.2.1;have hcase:op=0\/op=1\/op=2\/op=3\/op=4\/op=5\/op=6\/op=7\/op=8\/op=9\/op=10\/op=11\/op=12\/op=13\/op=14\/op=15\/op=16\/op=17\/op=18\/op=19\/op=20\/op=21\/op=22\/op=23\/op=24\/op=25\/op=26\/op=27\/op=28\/op=29:=by omega
 clear hlo hhi hx hxw;rcases hcase with rfl|rfl|rfl|rfl|rfl|rfl|rfl|rfl|rfl|rfl|rfl|rfl|rfl|rfl|rfl|rfl|rfl|rfl|rfl|rfl|rfl|rfl|rfl|rfl|rfl|rfl|rfl|rfl|rfl|rfl
 . rw[show Au p f ⟨0,a,b,c⟩=[]from by simp[Au],show Ay p f ⟨0,a,b,c⟩=[]from by simp[Ay]]
   exact Ce v.r v.k v.f v.t g.p g.l g.c f _ 0 a b c _ _ w (by simp)
 . obtain⟨q,z,hq,hz⟩:=HX.o.const rfl
   simp only[]at hq;subst hq;obtain⟨ak,ck,ek⟩:=h.consts.is_slice;rw[show Au p f ⟨1,q,b,c⟩=[]from by simp[Au],show Ay p f ⟨1,q,b,c⟩=[z.type]from by simp[Ay,Ur,hz],ek];exact S6 v.r v.f v.t g.p g.l g.c f p.consts ak ck q z b c w hs.consts (ek▸h.consts) hz
 . rw[show Au p f ⟨2,a,b,c⟩=[]from by simp[Au],show Ay p f ⟨2,a,b,c⟩=[AA f a]from by simp[Ay]]
   exact S7 v.r v.k v.f v.t g f a b c w hfs hW hf
 . rw[show Au p f ⟨3,a,b,c⟩=[AA f a]from by simp[Au],show Ay p f ⟨3,a,b,c⟩=[]from by simp[Ay]]
   exact S8 v.r v.k v.f v.t g f a b c w hfs hW hf
 . obtain⟨q,z,r,hq,hz,hr,ht⟩:=HX.o.cell h3 (by simp)
   simp only[]at hq hz;subst hq hz;obtain⟨xs,e1,e2,e3⟩:=h.regions;obtain⟨ar,cr,er⟩:=e2.is_slice;rw[show Au p f ⟨4,q,z,c⟩=[]from by simp[Au],show Ay p f ⟨4,q,z,c⟩=[ES p ⟨4,q,z,c⟩]from by simp[Ay],er];exact S9 v.k v.f v.t g.p g.l g.c f p.regions ar cr q z r _ c w hs.regions (hs.region r (aF hr)) (er▸h.regions) hr ht
 . obtain⟨q,z,r,hq,hz,hr,ht⟩:=HX.o.cell h3 (by simp)
   simp only[]at hq hz;subst hq hz;obtain⟨xs,e1,e2,e3⟩:=h.regions;obtain⟨ar,cr,er⟩:=e2.is_slice;rw[show Au p f ⟨5,q,z,c⟩=[ES p ⟨5,q,z,c⟩]from by simp[Au],show Ay p f ⟨5,q,z,c⟩=[]from by simp[Ay],er];exact Ta v.k v.f v.t g.p g.l g.c f p.regions ar cr q z r _ c w hs.regions (hs.region r (aF hr)) (er▸h.regions) hr ht
 . obtain⟨q,z,r,hq,hz,hr,ht⟩:=HX.o.cell h3 (by simp)
   simp only[]at hq hz;subst hq hz;obtain⟨xs,e1,e2,e3⟩:=h.regions;obtain⟨ar,cr,er⟩:=e2.is_slice;rw[show Au p f ⟨6,q,z,c⟩=[3]from by simp[Au],show Ay p f ⟨6,q,z,c⟩=[ES p ⟨6,q,z,c⟩]from by simp[Ay],er];exact Tb v.k v.f v.t g.p g.l g.c f p.regions ar cr q z r _ c w hs.regions (hs.region r (aF hr)) (er▸h.regions) hr ht
 . obtain⟨q,z,r,hq,hz,hr,ht⟩:=HX.o.cell h3 (by simp)
   simp only[]at hq hz;subst hq hz;obtain⟨xs,e1,e2,e3⟩:=h.regions;obtain⟨ar,cr,er⟩:=e2.is_slice;rw[show Au p f ⟨7,q,z,c⟩=[3,ES p ⟨7,q,z,c⟩]from by simp[Au],show Ay p f ⟨7,q,z,c⟩=[]from by simp[Ay],er];exact Tc v.k v.f v.t g.p g.l g.c f p.regions ar cr q z r _ c w hs.regions (hs.region r (aF hr)) (er▸h.regions) hr ht
 . rw[show Au p f ⟨8,a,b,c⟩=[a,a]from by simp[Au],show Ay p f ⟨8,a,b,c⟩=[a]from by simp[Ay]]
   exact Ce v.r v.k v.f v.t g.p g.l g.c f _ 5 a b c _ _ w (by simp)
 . rw[show Au p f ⟨9,a,b,c⟩=[a,a]from by simp[Au],show Ay p f ⟨9,a,b,c⟩=[a]from by simp[Ay]]
   exact Ce v.r v.k v.f v.t g.p g.l g.c f _ 5 a b c _ _ w (by simp)
 . rw[show Au p f ⟨10,a,b,c⟩=[a,a]from by simp[Au],show Ay p f ⟨10,a,b,c⟩=[a]from by simp[Ay]]
   exact Ce v.r v.k v.f v.t g.p g.l g.c f _ 5 a b c _ _ w (by simp)
 . rw[show Au p f ⟨11,a,b,c⟩=[a,a]from by simp[Au],show Ay p f ⟨11,a,b,c⟩=[a]from by simp[Ay]]
   exact Ce v.r v.k v.f v.t g.p g.l g.c f _ 5 a b c _ _ w (by simp)
 . rw[show Au p f ⟨12,a,b,c⟩=[a,a]from by simp[Au],show Ay p f ⟨12,a,b,c⟩=[a]from by simp[Ay]]
   exact Ce v.r v.k v.f v.t g.p g.l g.c f _ 5 a b c _ _ w (by simp)
 . rw[show Au p f ⟨13,a,b,c⟩=[a,a]from by simp[Au],show Ay p f ⟨13,a,b,c⟩=[a]from by simp[Ay]]
   exact Ce v.r v.k v.f v.t g.p g.l g.c f _ 6 a b c _ _ w (by simp)
 . rw[show Au p f ⟨14,a,b,c⟩=[a,a]from by simp[Au],show Ay p f ⟨14,a,b,c⟩=[a]from by simp[Ay]]
   exact Ce v.r v.k v.f v.t g.p g.l g.c f _ 6 a b c _ _ w (by simp)
 . rw[show Au p f ⟨15,a,b,c⟩=[a,a]from by simp[Au],show Ay p f ⟨15,a,b,c⟩=[a]from by simp[Ay]]
   exact Ce v.r v.k v.f v.t g.p g.l g.c f _ 6 a b c _ _ w (by simp)
 . rw[show Au p f ⟨16,a,b,c⟩=[a]from by simp[Au],show Ay p f ⟨16,a,b,c⟩=[a]from by simp[Ay]]
   exact Ce v.r v.k v.f v.t g.p g.l g.c f _ 6 a b c _ _ w (by simp)
 . rw[show Au p f ⟨17,a,b,c⟩=[3,3]from by simp[Au],show Ay p f ⟨17,a,b,c⟩=[3]from by simp[Ay]]
   exact Ce v.r v.k v.f v.t g.p g.l g.c f _ 0 a b c _ _ w (by simp)
 . rw[show Au p f ⟨18,a,b,c⟩=[3,3]from by simp[Au],show Ay p f ⟨18,a,b,c⟩=[3]from by simp[Ay]]
   exact Ce v.r v.k v.f v.t g.p g.l g.c f _ 0 a b c _ _ w (by simp)
 . rw[show Au p f ⟨19,a,b,c⟩=[2]from by simp[Au],show Ay p f ⟨19,a,b,c⟩=[2]from by simp[Ay]]
   exact Ce v.r v.k v.f v.t g.p g.l g.c f _ 0 a b c _ _ w (by simp)
 . rw[show Au p f ⟨20,a,b,c⟩=[a,a]from by simp[Au],show Ay p f ⟨20,a,b,c⟩=[1]from by simp[Ay]]
   exact Ce v.r v.k v.f v.t g.p g.l g.c f _ 7 a b c _ _ w (by simp)
 . rw[show Au p f ⟨21,a,b,c⟩=[a,a]from by simp[Au],show Ay p f ⟨21,a,b,c⟩=[1]from by simp[Ay]]
   exact Ce v.r v.k v.f v.t g.p g.l g.c f _ 5 a b c _ _ w (by simp)
 . rw[show Au p f ⟨22,a,b,c⟩=[a]from by simp[Au],show Ay p f ⟨22,a,b,c⟩=[b]from by simp[Ay]]
   exact Ce v.r v.k v.f v.t g.p g.l g.c f _ 8 a b c _ _ w (by simp)
 . rw[show Au p f ⟨23,a,b,c⟩=[0]from by simp[Au],show Ay p f ⟨23,a,b,c⟩=[0,0]from by simp[Ay]]
   exact Ce v.r v.k v.f v.t g.p g.l g.c f _ 0 a b c _ _ w (by simp)
 . rw[show Au p f ⟨24,a,b,c⟩=[0]from by simp[Au],show Ay p f ⟨24,a,b,c⟩=[]from by simp[Ay]]
   exact Ce v.r v.k v.f v.t g.p g.l g.c f _ 0 a b c _ _ w (by simp)
 . rw[show Au p f ⟨25,a,b,c⟩=[]from by simp[Au],show Ay p f ⟨25,a,b,c⟩=[]from by simp[Ay]]
   exact Ce v.r v.k v.f v.t g.p g.l g.c f _ 9 a b c _ _ w (by simp)
 . rw[show Au p f ⟨26,a,b,c⟩=[1]from by simp[Au],show Ay p f ⟨26,a,b,c⟩=[]from by simp[Ay]]
   exact Ce v.r v.k v.f v.t g.p g.l g.c f _ 9 a b c _ _ w (by simp)
 . rw[show Au p f ⟨27,a,b,c⟩=[]from by simp[Au],show Ay p f ⟨27,a,b,c⟩=[]from by simp[Ay]]
   exact Ce v.r v.k v.f v.t g.p g.l g.c f _ 10 a b c _ _ w (by simp)
 . obtain⟨q,fq,hq,hfq⟩:=HX.o.callee rfl
   simp only[]at hq;subst hq;obtain⟨xs,e1,e2,e3⟩:=h.funcs;obtain⟨af,cf,ef⟩:=e2.is_slice;rw[show Au p f ⟨28,q,b,c⟩=fq.params from by simp[Au,hfq],show Ay p f ⟨28,q,b,c⟩=BJ fq from by simp[Ay,hfq],ef];exact RZ v.r v.k v.t g.p g.l g.c f p.funcs af cf q fq b c w hs.funcs (hs.func fq (aF hfq)) (ef▸h.funcs) hfq
 . rw[show Au p f ⟨29,a,b,c⟩=[]from by simp[Au],show Ay p f ⟨29,a,b,c⟩=[]from by simp[Ay]]
   exact Ce v.r v.k v.f v.t g.p g.l g.c f _ 0 a b c _ _ w (by simp)
end Go.Proofs.YtjcamlobelcepaaGreatDoor
