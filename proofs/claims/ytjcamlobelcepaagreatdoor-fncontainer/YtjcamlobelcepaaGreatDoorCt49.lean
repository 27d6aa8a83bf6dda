import Derived.Test.YtjcamlobelcepaaGreatDoorCt48
import Derived.Test.YtjcamlobelcepaaGreatDoorCt40
namespace Go.Proofs.YtjcamlobelcepaaGreatDoor
open Go.ChangeShapes Go.WideShapes Go.ChangeAt Go.RowKit
set_option linter.unusedVariables false
set_option maxHeartbeats 16000000
set_option maxRecDepth 100000
def GL(j:Nat)(G:List (MF×VF)):Prop:=G.length=j/\(∀y∈G,Qb y.1)/\∀y,G[0]?=some y->Iv y.1
theorem GL.add{j:Nat}{G:List (MF×VF)}{y:MF×VF}(h:GL j G)(hy:Qb y.1)(h0:j=0->Iv y.1):GL (j+1) (G++[y]):=by
 refine⟨by rw[aH,h.1];rfl,fun z hz=> ?_,fun z hz=> ?_⟩
 . rcases ah.1 hz with e|e
   . exact h.2.1 z e
   . rw[bO.1 e];exact hy
 . cases G with
   |nil=>cases hz;exact h0 h.1.symm
   |cons x r=>exact h.2.2 z hz
theorem Th(l:List MC):∀u∈l.flatMap MC.cells,u.oneCell'=true:=fun u hu=>by
 obtain⟨x,_,hx⟩:=cG.1 hu;simp only[MC.cells,bG,bY,cZ]at hx;rcases hx with rfl|rfl<;>rfl
def Rv(j:Nat)(cs:List MC):Prop:=(∀x∈cs,x.wf/\Cv x)/\(∃x∈cs,x.type=1)/\(∃x∈cs,x.type=2)/\(0<j->∃x∈cs,x.type=3)
theorem Rv.start:Rv 0 [⟨1,0⟩,⟨2,4294967295⟩]:=⟨fun x hx=>by
 simp only[bG,bY,cZ]at hx;rcases hx with rfl|rfl
 all_goals exact⟨⟨BZ (by decide) (by decide),LZ (by decide) (by decide)⟩,by decide,by decide⟩,⟨_,bp ..,rfl⟩,⟨_,bP _ (bp ..),rfl⟩,fun h=>absurd h (by omega)⟩
theorem Rv.add{j:Nat}{cs:List MC}{z:Int}(h:Rv j cs)(hz:0<=z/\z<5):Rv (j+1) (cs++[⟨3,z⟩]):=by
 obtain⟨h1,⟨x,h2,h3⟩,⟨y,h4,h5⟩,_⟩:=h;refine⟨fun x hx=> ?_,⟨x,List.mem_append_left _ h2,h3⟩,⟨y,List.mem_append_left _ h4,h5⟩,fun _=>⟨_,List.mem_append_right _ (List.mem_singleton_self _),rfl⟩⟩;rcases ah.1 hx with e|e
 . exact h1 x e
 . rw[bO.1 e]
   exact⟨⟨BZ (z:=3) (by decide) (by decide),LZ (z:=z) (by omega) (by omega)⟩,rfl,fun e=>absurd e (by show¬(3:Int)=1;decide)⟩
theorem Rv.bk{cs:List MC}(h:Rv 5 cs)(t:Int)(ht:Ty t):∃x∈cs,x.type=t:=by
 obtain rfl|rfl|rfl:t=1\/t=2\/t=3:=by omega
 . exact h.2.1
 . exact h.2.2.1
 . exact h.2.2.2 (by omega)
theorem Q8{w U:World}{s:CR}{p:Int}{v v':VP}{F:List (List Int×Value)}{cs:List MC}{G:List (MF×VF)}{ts:List MT}{P RB:Nat}(h:Bs w U s p (Ai v F cs G ts (gb P v'::[gb RB vN]))):Bs w ((((U.setCell ⟨RB,0,none⟩ v.r).setCell ⟨RB,1,none⟩ v.k).setCell ⟨RB,2,none⟩ v.f).setCell ⟨RB,3,none⟩ v.t) s p (Ai v F cs G ts (gb P v'::[gb RB v]))/\(U.cell? ⟨RB,0,none⟩=some sN/\U.cell? ⟨RB,1,none⟩=some sN/\U.cell? ⟨RB,2,none⟩=some sN/\U.cell? ⟨RB,3,none⟩=some sN)/\(U.frozen? ⟨RB,0,none⟩=false/\U.frozen? ⟨RB,1,none⟩=false/\U.frozen? ⟨RB,2,none⟩=false/\U.frozen? ⟨RB,3,none⟩=false):=
 ⟨Bs.setp (D:=[gb P v']) (Bs.setp (D:=[gb P v']) (Bs.setp (D:=[gb P v']) (Bs.setp (D:=[gb P v']) h 0 (by omega) v.r) 1 (by omega) v.k) 2 (by omega) v.f) 3 (by omega) v.t,h.four (P:=RB) (v:=vN) (AD (by simp))⟩
structure Tu(m:MP):Prop where
 sm:m.small
 wf:m.wf
 tg:Qk m
 ok:Ax m.regions/\AP m.consts/\AX m.funcs/\Ck m/\Bc m
theorem QE{F:List (List Int×Value)}{cs:List MC}{G:List (MF×VF)}{ts:List MT}{n:Nat}(hF:FF F)(hq:GQ F cs.length n n G)(hk:KQ n G cs ts)(hn:1<=n/\n<=4):Tu ⟨F.map Prod.fst,cs,G.map Prod.fst,ts⟩:=by
 have hl:=hq.len;have hc:=hk.cl;have ht:=hk.tl
 have hcd:∀y∈G,Rt F cs.length n y.1:=fun y hy=>by
  obtain⟨j,hj⟩:=bt hy;exact hq.cd j y (by have:=(aE.1 hj).1;omega) hj
 have hgm:∀j f,(G.map Prod.fst)[j]?=some f->∃y∈G,G[j]?=some y/\y.1=f:=fun j f h=>by
  rw[bQ]at h;obtain⟨y,hy,e⟩:=bz.1 h;exact⟨y,aF hy,hy,e⟩
 refine⟨⟨by simp only[bB];have:=hF.1;omega,fun r hr=> ?_,by show cs.length<=_;omega,by simp only[bB];omega,fun f hf=> ?_,by show ts.length<=_;omega⟩,⟨fun r hr=> ?_,fun x hx=>(hk.cw x hx).1,fun f hf=> ?_,fun x hx=>(hk.tw x hx).1⟩,⟨by simp only[bB];exact hF.1,fun r hr=> ?_,hc,fun x hx=> ?_,by simp only[bB];omega,fun f hf=> ?_,ht,fun x hx=> ?_⟩,⟨by simp only[bB];exact hF.1,fun j _ r hr=> ?_⟩,⟨hc,fun j _ x hx=>(hk.cw x (aF hx)).2⟩,⟨by simp only[bB];omega,by simp only[bB];omega,fun j _ f hf=> ?_,fun f hf=> ?_⟩,fun j _ f hf k _ x hx=> ?_,ht,fun j hj c hc'=>⟨?_,fun i d hi hd=> ?_⟩⟩
 . obtain⟨x,hx,rfl⟩:=cE.1 hr
   have:=hF.2.1 x hx;omega
 . obtain⟨y,hy,rfl⟩:=cE.1 hf
   have h1:=hq.fn y hy;have h2:=(hcd y hy).l1;have:=h1.pl;have:=h1.lt.1;exact⟨by omega,by omega,by omega⟩
 . obtain⟨x,hx,rfl⟩:=cE.1 hr
   exact fun z hz=>(hF.2.2 x hx z hz).w
 . obtain⟨y,hy,rfl⟩:=cE.1 hf
   exact(hq.fn y hy).wf fun x hx=>((hcd y hy).wf x hx).wf
 . obtain⟨x,hx,rfl⟩:=cE.1 hr
   have:=hF.2.1 x hx;exact⟨by omega,fun z hz=>by have:=hF.2.2 x hx z hz;omega⟩
 . have h1:=hk.cw x hx
   have h2:Ty x.type:=by simpa[DZ]using h1.2.1
   exact⟨by omega,Qo h1.1.2⟩
 . obtain⟨y,hy,rfl⟩:=cE.1 hf
   have h1:=hq.fn y hy;have h2:=h1.pl;have h3:=h1.rs;have h4:=h1.lt;exact⟨⟨by omega,fun z hz=>by have:=h1.pt z hz;omega⟩,by omega,⟨by omega,fun z hz=>by have:=h4.2 z hz;omega⟩,(hcd y hy).l1,(hcd y hy).wf⟩
 . obtain⟨q1,q2,q3,y,q4,q5,q6⟩:=hk.tw x hx
   have h1:=(hcd y (aF q4)).l1;have h2:=QW (hq.fn y (aF q4)) q6 (by omega);exact⟨by omega,by omega,by omega,Qo q1.2.2.2⟩
 . obtain⟨x,hx,rfl⟩:=cE.1 (aF hr)
   have:=hF.2.1 x hx;exact⟨by omega,NL (hF.2.2 x hx)⟩
 . obtain⟨y,hy,_,rfl⟩:=hgm j f hf
   have h1:=hq.fn y hy;have h2:=hcd y hy;have:=h1.pl;have:=h1.lt.1;have:=h2.l0;have h3:=h1.rs;refine⟨by omega,by omega,NL h1.pt,NL h1.lt.2,?_,by omega,h2.l1⟩;by_cases e:y.1.result=0
   . exact .inl e
   . exact .inr (Ty.is (by show _/\_;omega))
 . obtain⟨y,_,hy,rfl⟩:=hgm 0 f hf
   exact hq.m0 y hy
 . obtain⟨y,hy,_,rfl⟩:=hgm j f hf
   exact(hcd y hy).ok _ rfl lR (by simp only[bB];exact hl) x (aF hx)
 . obtain⟨_,h2,_,y,h4,h5,h6⟩:=hk.tw c (aF hc')
   exact⟨y.1,by simp[h4],h2.1,h2.2,h5,h6⟩
 . subst hi
   obtain⟨hi',rfl⟩:=aE.1 hd;obtain⟨hj',rfl⟩:=aE.1 hc';exact dS.1 hk.ri i (i+1) hi' hj' (by omega)
def PgC(s:CR)(p m:Int)(u:World)(e:Ending)(u':World):Prop:=∃(v:VP) (x:MP),e=.returned (.agg #[v.r,v.k,v.f,v.t])/\Dc u' u.heap.size v x/\Tu x/\Dr s p m u u'
theorem Q9{u U:World}{s:CR}{p p':Int}{v:VP}{F:List (List Int×Value)}{cs:List MC}{G:List (MF×VF)}{ts:List MT}{D:List As}{n:Nat}(h:Bs u U s p' (Ai v F cs G ts D))(hF:FF F)(hq:GQ F cs.length n n G)(hk:KQ n G cs ts)(hn:1<=n/\n<=4)(hp:p<=p'/\p'<=p+3000000000){e:Ending}(he:e=.returned (.agg #[v.r,v.k,v.f,v.t])):PgC s p 3000000000 u e U:=
 ⟨v,⟨F.map Prod.fst,cs,G.map Prod.fst,ts⟩,he,h.sep.ownP,QE hF hq hk hn,p',hp,h.bel.src,h.bel.drw⟩
theorem JM (u:World)(s:CR)(p:Int)(hs:D8 u s.S s.a s.len s.cap p)(hp:p+3000000000<=100000000000):
 Calls Tryz.prog 10 #[.pointer (some ⟨s.S,0,none⟩)] u (PgC s p 3000000000 u):=by
 obtain⟨i64,hi,hz0,hz1,hz2⟩:=bJ CF;obtain⟨iC,hiC,hC0,hC1,hC2⟩:=bJ QI;obtain⟨iF,hiF,hF0,hF1,hF2⟩:=bJ Sy;have hp0:=hs.low;have E0:=Af ((Bs.start ⟨AR.refl _ _,hs,hs.lt⟩).box 28 4 [sN,sN,sN,sN] rfl);clear hs;go_enter Tryz.func10,Tryz.ntmps10;go_upto_region 1 with fail
 generalize u.heap.size=RB at E0⊢;refine An (fun U=>Hid (Bs u U s p [gb RB vN])) E0 ?_;clear E0;rintro U0 E0;go_wp2_with fail
 refine(EW _ s (p) E0.o.bel.src (by omega)).mono ?_;rintro e U1 ⟨a1,c1,x1,rfl,ho,hxl1,hxw1,p1,⟨hq1a,hq1b⟩,hs,hd⟩;have E1:Hid (Bs u U1 s p1 ([gb RB vN]++[A8 (.slice a1 x1.length c1) x1])):=E0.o.drawRow hs hd ho;clear hs hd ho E0;go_wp2_with fail
 refine(EW _ s (p1) E1.o.bel.src (by omega)).mono ?_;rintro e U2 ⟨a2,c2,x2,rfl,ho,hxl2,hxw2,p2,⟨hq2a,hq2b⟩,hs,hd⟩;have E2:Hid (Bs u U2 s p2 ([gb RB vN]++[A8 (.slice a1 x1.length c1) x1]++[A8 (.slice a2 x2.length c2) x2])):=E1.o.drawRow hs hd ho;clear hs hd ho E1;go_wp2_with fail
 refine(EW _ s (p2) E2.o.bel.src (by omega)).mono ?_;rintro e U3 ⟨a3,c3,x3,rfl,ho,hxl3,hxw3,p3,⟨hq3a,hq3b⟩,hs,hd⟩;have E3:Hid (Bs u U3 s p3 ([gb RB vN]++[A8 (.slice a1 x1.length c1) x1]++[A8 (.slice a2 x2.length c2) x2]++[A8 (.slice a3 x3.length c3) x3])):=E2.o.drawRow hs hd ho;clear hs hd ho E2;have E4:Hid _:=Bs.regions (E:=[gb RB vN]) (v1:=.slice a1 x1.length c1) (v2:=.slice a2 x2.length c2) (v3:=.slice a3 x3.length c3) (x1:=x1) (x2:=x2) (x3:=x3) (show Bs u U3 s p3 _ by simpa using E3.o);clear E3;go_upto_region 2 with fail
 have HF:Hid (FF [(x1,.slice a1 x1.length c1),(x2,.slice a2 x2.length c2),(x3,.slice a3 x3.length c3)]):=⟨rfl,by intro x hx;simp only[bG,bY,cZ]at hx;rcases hx with rfl|rfl|rfl<;>simp only[]<;>omega,by intro x hx;simp only[bG,bY,cZ]at hx;rcases hx with rfl|rfl|rfl<;>assumption⟩;clear hxl1 hxl2 hxl3 hxw1 hxw2 hxw3;generalize [(x1,Value.slice a1 x1.length c1),(x2,.slice a2 x2.length c2),(x3,.slice a3 x3.length c3)]=F at E4 HF;generalize U3.heap.size+1=P at E4⊢;generalize U3.heap.size=GR at E4⊢;refine An (fun U=>Hid (Bs u U s p3 (Ai ⟨sG GR 3 3,sN,sN,sN⟩ F [] [] [] (gb P ⟨sG GR 3 3,sN,sN,sN⟩::[gb RB vN])))) E4 ?_;clear E4;clear U3;rintro U4 E4;have hLit:=Af (cF (base:=u.heap.size) (e:=53) (size:=2) U4 #[iZ 1,.int .u32 0,iZ 2,.int .u32 4294967295] 2 E4.o.size (by unfold maxLen;omega) rfl);have E5:Hid (Bs u (U4.alloc (.cells #[iZ 1,.int .u32 0,iZ 2,.int .u32 4294967295] 53)) s p3 (Ai ⟨sG GR 3 3,sG U4.heap.size 2 2,sN,sN⟩ F [⟨1,0⟩,⟨2,4294967295⟩] [] [] (gb P ⟨sG GR 3 3,sN,sN,sN⟩::[gb RB vN]))):=Bs.new_c (v:=⟨sG GR 3 3,sN,sN,sN⟩) (vk:=sN) rfl E4.o (sG U4.heap.size 2 2) hLit.o (World.grownBy_alloc U4 _ none) rfl
 have⟨⟨_,k1,_,_⟩,_,z1,_,_⟩:=E5.o.four (AD (show gb P ⟨sG GR 3 3,sN,sN,sN⟩∈_ by simp));simp only[]at k1;have E6:=Af (E5.o.setp (D:=[]) 1 (by omega) (sG U4.heap.size 2 2));go_upto_region 3 with fail
 clear E5 E4 hLit k1 z1;generalize U4.heap.size=GC at E6⊢;refine An (fun U=>Hid (Bs u U s p3 (Ai ⟨sG GR 3 3,sG GC 2 2,sN,sN⟩ F [⟨1,0⟩,⟨2,4294967295⟩] [] [] (gb P ⟨sG GR 3 3,sG GC 2 2,sN,sN⟩::[gb RB vN])))) E6 ?_;clear E6;rintro U5 E6;go_wp2_with fail
 go_loopw [4] (fun i wr=>∃j:Nat,j<=5/\i=.int .u32 (j:Int)/\Hid (∃(a:Option Addr) (c:Nat) (cs:List MC),cs.length=2+j/\Rv j cs/\Bs u wr s p3 (Ai ⟨sG GR 3 3,.slice a (2+j) c,sN,sN⟩ F cs [] [] (gb P ⟨sG GR 3 3,.slice a (2+j) c,sN,sN⟩::[gb RB vN])))) (fun i _=>5-(intOf i).toNat)
 case atStart=>exact⟨0,by omega,rfl,_,_,[⟨1,0⟩,⟨2,4294967295⟩],rfl,Rv.start,E6.o⟩
 case round =>
  clear E6;obtain⟨j,hj,rfl,E7⟩:=hrel;obtain⟨a,c,cs,hcl,hcw,hE7⟩:=E7.o;have HC:=Af (aG hcl hcw);generalize hm:2+j=m at HC hE7;have E8:=Af hE7;clear hE7 E7 hcl hcw;have⟨⟨_,k1,_,_⟩,_,z1,_,_⟩:=E8.o.four (AD (show gb P ⟨sG GR 3 3,.slice a m c,sN,sN⟩∈_ by simp));simp only[]at k1;by_cases hlt:j<5
  case pos=>
   have hltI:(j:Int)<5:=by omega
   have HM:=Af hm.symm;have hmb:m<=100:=by omega
   clear hm;obtain⟨zc,hzc⟩:∃zc:Int,((j:Int)+3) % 5=zc:=⟨_,rfl⟩;have hzc2:Int.tmod ((j:Int)+3) 5=zc:=by rw[<-hzc];exact Int.tmod_eq_emod_of_nonneg (by omega)
   have hzb:0<=zc/\zc<5:=by omega
   have hwz:IntKind.u32.wrap ((j:Int)+3)=(j:Int)+3:=IntWalk.u32_in _ ⟨by omega,by omega⟩;have hwz2:IntKind.u32.wrap zc=zc:=IntWalk.u32_in _ ⟨by omega,by omega⟩;have EA:Hid (Bs u (wr.alloc (.cells #[iZ 3,.int .u32 zc] 53)) s p3 (Ai ⟨sG GR 3 3,.slice a m c,sN,sN⟩ F cs [] [] (gb P ⟨sG GR 3 3,.slice a m c,sN,sN⟩::[gb RB vN]))):=E8.o.keep (Aa _ _);have OA:Hid ((wr.alloc (.cells #[iZ 3,.int .u32 zc] 53)).ownsRow u.heap.size 53 2 (.slice a m c) m (cs.flatMap MC.cells)):=by have:=EA.o.prow.2.2.1;rw[HC.o.1]at this;exact this
   have q1:=(EA.o.four (AD (show gb P ⟨sG GR 3 3,.slice a m c,sN,sN⟩∈_ by simp))).1.2.1;simp only[]at q1;go_wp2_with (first|(at_builtin;refine wpList_append_lies _ rfl _ _ 24 rfl u.heap.size 53 iC (.agg #[iZ 0,.int .u32 0]) 2 16 Tryz.underlying24 hiC hC0 hC1 hC2 rfl (by decide) (.slice a m c) m (cs.flatMap MC.cells) rfl OA.o ⟨wr.heap.size,0,none⟩ 1 1 [iZ 3,.int .u32 zc] rfl rfl (De wr _ _) (Th [⟨3,zc⟩]) (by omega) (by unfold maxLen;omega) (by omega) EA.o.size _ rfl ?_;intro g5 cap5 w5 hown5 hgrow5 hat5 hlt5;have h1:=EA.o.push_c ⟨3,zc⟩ (sG g5 (m+1) cap5) (by rw[HC.o.1];exact hown5) hgrow5 (DO hat5);have E9:Hid (Bs u (w5.setCell ⟨P,1,none⟩ (sG g5 (m+1) cap5)) s p3 (Ai ⟨sG GR 3 3,sG g5 (m+1) cap5,sN,sN⟩ F (cs++[⟨3,zc⟩]) [] [] (gb P ⟨sG GR 3 3,sG g5 (m+1) cap5,sN,sN⟩::[gb RB vN]))/\w5.cell? ⟨P,1,none⟩=some (.slice a m c)/\w5.frozen? ⟨P,1,none⟩=false):=⟨h1.setp (D:=[]) 1 (by omega) _,(h1.four (AD (show gb P ⟨sG GR 3 3,.slice a m c,sN,sN⟩∈_ by simp))).1.2.1,(h1.four (AD (show gb P ⟨sG GR 3 3,.slice a m c,sN,sN⟩∈_ by simp))).2.2.1⟩;have s6:=E9.o.2.1;have s7:=E9.o.2.2;clear h1 hown5 hgrow5 hat5 hlt5)|go_in)
   clear s6 s7 EA OA q1 k1 z1 E8;have hm1:2+(j+1)=m+1:=by have:=HM.o;omega
   go_roundw
   case rel=>exact⟨j+1,by omega,by go_num,some ⟨g5,0,none⟩,cap5,cs++[⟨3,zc⟩],by rw[aH,HC.o.1,hm1];rfl,HC.o.2.add hzb,by rw[hm1];exact E9.o.1⟩
   case measure=>simp[intOf];omega
  case neg =>
   obtain rfl:j=5:=by omega
   have HM7:Hid (m=7):=by show m=7;omega
   clear hlt hj k1 z1 hm;have HCm:Hid (m<=64):=by have:=HM7.o;show m<=64;omega
   go_wp2_with fail
   refine(A5 E8.o.bel.src).mono ?_;rintro e U9 ⟨r9,h9a,h9b,rfl,hs,hd⟩;have E9:=Af (E8.o.draw hs hd);clear hs hd E8 HM7;obtain⟨nf,hnf⟩:∃nf:Nat,1+r9=(nf:Int):=⟨(1+r9).toNat,by omega⟩;have hnfb:1<=nf/\nf<=4:=by omega
   go_wp2_with fail
   clear hnf h9a h9b;go_loopw [6,7,8,9,10] (fun i _ _ _ _ wr=>∃(j:Nat) (p':Int) (af:Option Addr) (cf:Nat),j<=nf/\i=iZ j/\p3<=p'/\p'<=p3+1+20*(j:Int)/\Hid (∃G:List (MF×VF),GL j G/\Bs u wr s p' (Ai ⟨sG GR 3 3,.slice a m c,.slice af j cf,sN⟩ F cs G [] (gb P ⟨sG GR 3 3,.slice a m c,.slice af j cf,sN⟩::[gb RB vN])))) (fun i _ _ _ _ _=>nf-(intOf i).toNat)
   case atStart=>exact⟨0,p3+1,none,0,by omega,rfl,by omega,by omega,[],⟨rfl,(fun y hy=>by cases hy),fun y hy=>by cases hy⟩,E9.o⟩
   case round=>
    clear E9;obtain⟨j,p4,af,cf,hj,rfl,g1,g2,E10⟩:=hrel;obtain⟨G,hG0,hGb⟩:=E10.o;have HG:=Af hG0;have E11:=Af hGb;clear hG0 hGb E10;by_cases hlt:j<nf
    case pos=>
     have hltI:(j:Int)<(nf:Int):=by omega
     have E12:Hid _:=Gx.new E11.o;clear E11;go_upto_region 12 with fail
     generalize wr.heap.size=B at E12⊢;refine An (fun U=>Hid (Gx u U s p4 (Ai ⟨sG GR 3 3,.slice a m c,.slice af j cf,sN⟩ F cs G [] (gb P ⟨sG GR 3 3,.slice a m c,.slice af j cf,sN⟩::[gb RB vN])) B sN sN [] [] 0)) E12 ?_;clear E12;rintro U12 E12;generalize hLp:Ai ⟨sG GR 3 3,.slice a m c,.slice af j cf,sN⟩ F cs G [] (gb P ⟨sG GR 3 3,.slice a m c,.slice af j cf,sN⟩::[gb RB vN])=Lp at E12;have HLp:=Af hLp;clear hLp;go_upto_if 49 with fail
     go_cut [8] (fun _ wx=>∃(pp:Int) (ap:Option Addr) (cp:Nat) (ps:List Int) (res:Int),p4<=pp/\pp<=p4+5/\Hid (Gx u wx s pp Lp B (.slice ap ps.length cp) sN ps [] res/\ps.length<=3/\(∀z∈ps,Ty z)/\(0<=res/\res<=3)/\(j=0->ps.length=0/\res=0)))
     case first=>
      by_cases hj0:(j:Int)>0
      case neg=>
       go_wp2_with fail
       go_meet
       exact⟨p4,none,0,[],0,by omega,by omega,E12.o,by simp,(fun z hz=>by cases hz),by omega,fun _=>⟨rfl,rfl⟩⟩
      go_wp2_with fail
      refine(A5 E12.o.bl.bel.src).mono ?_;rintro e U13 ⟨r13,h13a,h13b,rfl,hs,hd⟩;have E13:=Af (E12.o.draw hs hd);clear hs hd E12;go_wp2_with fail
      go_loopw [8] (fun i wr=>∃(q:Nat) (pp:Int) (ap:Option Addr) (cp:Nat) (ps:List Int),i=iZ (q:Int)/\q<=3/\p4<=pp/\pp<=p4+1+(3-(q:Int))/\Hid (Gx u wr s pp Lp B (.slice ap ps.length cp) sN ps [] 0/\ps.length<=3-q/\∀z∈ps,Ty z)) (fun i _=>(intOf i).toNat)
      case atStart=>exact⟨r13.toNat,p4+1,none,0,[],by show _=_;congr 1;omega,by omega,by omega,by omega,E13.o,by simp,fun z hz=>by cases hz⟩
      case round=>
       clear E13;obtain⟨q,pp,ap,cp,ps,rfl,hq,f1,f2,E14⟩:=hrel;have HP:=Af E14.o.2;have E15:=Af E14.o.1;clear E14;by_cases hq0:q=0
       case pos=>
        subst hq0;go_wp2_with fail
        refine(A5 E15.o.bl.bel.src).mono ?_;rintro e U16 ⟨r16,h16a,h16b,rfl,hs,hd⟩;have E16:=Af (E15.o.draw hs hd);have k1:=E16.o.cells.1.2.1;have z1:=E16.o.cells.2 1;have E17:=Af (E16.o.set_r r16);clear hs hd E15;go_wp2_with fail
        go_meet
        exact⟨pp+1,ap,cp,ps,r16,by omega,by omega,E17.o,by have:=HP.o.1;omega,HP.o.2,by omega,fun e=>absurd hj0 (by omega)⟩
       have hqI:(q:Int)>0:=by omega
       have hpl:ps.length<=3:=by have:=HP.o.1;omega
       generalize hn:ps.length=n at hpl E15⊢;have HN:=Af hn;clear hn;go_upto_region 16 with fail
       have ED:=Af (E15.o.keep (Ae _));refine Bh 8 (S:=fun W=>W.cell? ⟨B,0,none⟩=some (.slice ap n cp)) (by kernel_rfl) ED.o.cells.1.1 (fun hHeld=> ?_);clear E15;generalize wr.drew=UD at ED hHeld⊢;refine BH 0 ?_;refine BH 1 ?_;refine BH 2 ?_;refine LS 3 ?_;intro KC hKC;go_simp;refine(A5 ED.o.bl.bel.src).mono ?_;rintro e U1 ⟨rr,rra,rrb,rfl,hs,hd⟩;have E1:=Af (ED.o.draw hs hd);obtain⟨t,ht⟩:∃t,1+rr=t:=⟨_,rfl⟩;have htb:1<=t/\t<=3:=by omega
       have hwt:IntKind.i64.wrap t=t:=cQ _ ⟨by omega,by omega⟩;clear hs hd ED;refine hKC.o _ _ (fun _=>E1.o.cells.1.1) (fun hH=> ?_);clear hKC KC;have hHeld:=hH (by decide);refine BH 4 ?_;refine LS 5 ?_;intro KC hKC;go_simp;have EA:=Af (E1.o.keep (Aa U1 (.cells #[iZ t] 2)));have OA:=Af (by have:=EA.o.rows.1;rw[HN.o]at this;exact this);refine hKC.o _ _ (fun _=>EA.o.cells.1.1) (fun hH=> ?_);clear hKC KC;have hHeld:=hH (by decide);refine LS 6 ?_;intro KC hKC;refine step_append_lies _ rfl (.tmp 57) (.tmp 61) 47 rfl u.heap.size 2 i64 (iZ 0) 1 8 Tryz.underlying47 hi hz0 hz1 hz2 rfl (by decide) (.slice ap n cp) n (ps.flatMap Ac) (by simp[Act.eval]) OA.o ⟨U1.heap.size,0,none⟩ 1 1 [iZ t] (by simp[Act.eval]) rfl (De U1 [iZ t] 2) (FI _) (by omega) (by unfold maxLen;omega) (by omega) EA.o.bl.size _ rfl ?_;intro gg cap u8 hown hgrow hat _;have D4:=Af (EA.o.push_p t (sG gg (n+1) cap) (by rw[HN.o];exact hown) hgrow (DO hat));have y0:=D4.o.2.1;have y1:=D4.o.2.2;clear hown hgrow hat OA;refine hKC.o _ _ (fun _=>y0) (fun hH=> ?_);clear hKC KC;have hHeld:=hH (by decide);refine BH 7 ?_;refine LS 8 ?_;intro KC hKC;go_simp;refine hKC.o _ _ (fun h=>absurd h (by decide)) (fun hH=> ?_)
       clear hKC KC hH hHeld;refine Cj (by kernel_rfl) ?_ _;clear y0 y1 EA E1;have D5:Hid _:=D4.o.1;generalize u8.setCell ⟨B,0,none⟩ (sG gg (n+1) cap)=W5 at D5⊢;clear D4;have hnl:(ps++[t]).length=n+1:=by rw[aH,HN.o];rfl
       obtain⟨q',rfl⟩:∃q',q=q'+1:=⟨q-1,by omega⟩;go_wp2_with fail
       go_roundw
       (case rel=>exact⟨q',pp+1,some ⟨gg,0,none⟩,cap,ps++[t],by go_num,by omega,by omega,by omega,by rw[hnl];exact D5.o,by have:=HP.o.1;have:=HN.o;omega,fun z hz=>by rcases ah.1 hz with e|e;exact HP.o.2 z e;rw[bO.1 e];exact htb⟩)
       exact(by simp[intOf])
     case rest=>
      obtain⟨pp,ap,cp,ps,res,f1,f2,E13⟩:=hcut;clear E12;have HP:=Af E13.o.2;have E14:=Af E13.o.1;clear E13;go_wp2_with fail
      refine(A5 E14.o.bl.bel.src).mono ?_;rintro e U15 ⟨r15,h15a,h15b,rfl,hs,hd⟩;have E15:=Af (E14.o.draw hs hd);clear hs hd E14;go_wp2_with fail
      go_loopw [9] (fun i wr=>∃(q:Nat) (p5:Int) (al:Option Addr) (cl:Nat) (ls:List Int),i=iZ (q:Int)/\q<=3/\pp<=p5/\p5<=pp+1+(3-(q:Int))/\Hid (Gx u wr s p5 Lp B (.slice ap ps.length cp) (.slice al ls.length cl) ps ls res/\ls.length<=3-q/\∀z∈ls,Ty z)) (fun i _=>(intOf i).toNat)
      case atStart=>exact⟨r15.toNat,pp+1,none,0,[],by show _=_;congr 1;omega,by omega,by omega,by omega,E15.o,by simp,fun z hz=>by cases hz⟩
      case round=>
       clear E15;obtain⟨q,p5,al,cl,ls,rfl,hq,f3,f4,E16⟩:=hrel;have HL:=Af E16.o.2;have E17:=Af E16.o.1;clear E16;by_cases hq0:q=0;rotate_left
       . have hqI:(q:Int)>0:=by omega
         have hpl:ls.length<=3:=by have:=HL.o.1;omega
         generalize hn:ls.length=n at hpl E17⊢;have HN:=Af hn;clear hn;go_upto_region 21 with fail
         have ED:=Af (E17.o.keep (Ae _));refine Bh 8 (S:=fun W=>W.cell? ⟨B,2,none⟩=some (.slice al n cl)) (by kernel_rfl) ED.o.cells.1.2.2.1 (fun hHeld=> ?_);clear E17;generalize wr.drew=UD at ED hHeld⊢;refine BH 0 ?_;refine BH 1 ?_;refine BH 2 ?_;refine LS 3 ?_;intro KC hKC;go_simp;refine(A5 ED.o.bl.bel.src).mono ?_;rintro e U1 ⟨rr,rra,rrb,rfl,hs,hd⟩;have E1:=Af (ED.o.draw hs hd);obtain⟨t,ht⟩:∃t,1+rr=t:=⟨_,rfl⟩;have htb:1<=t/\t<=3:=by omega
         have hwt:IntKind.i64.wrap t=t:=cQ _ ⟨by omega,by omega⟩;clear hs hd ED;refine hKC.o _ _ (fun _=>E1.o.cells.1.2.2.1) (fun hH=> ?_);clear hKC KC;have hHeld:=hH (by decide);refine BH 4 ?_;refine LS 5 ?_;intro KC hKC;go_simp;have EA:=Af (E1.o.keep (Aa U1 (.cells #[iZ t] 2)));have OA:=Af (by have:=EA.o.rows.2;rw[HN.o]at this;exact this);refine hKC.o _ _ (fun _=>EA.o.cells.1.2.2.1) (fun hH=> ?_);clear hKC KC;have hHeld:=hH (by decide);refine LS 6 ?_;intro KC hKC;refine step_append_lies _ rfl (.tmp 74) (.tmp 78) 47 rfl u.heap.size 2 i64 (iZ 0) 1 8 Tryz.underlying47 hi hz0 hz1 hz2 rfl (by decide) (.slice al n cl) n (ls.flatMap Ac) (by simp[Act.eval]) OA.o ⟨U1.heap.size,0,none⟩ 1 1 [iZ t] (by simp[Act.eval]) rfl (De U1 [iZ t] 2) (FI _) (by omega) (by unfold maxLen;omega) (by omega) EA.o.bl.size _ rfl ?_;intro gg cap u8 hown hgrow hat _;have D4:=Af (EA.o.push_l t (sG gg (n+1) cap) (by rw[HN.o];exact hown) hgrow (DO hat));have y0:=D4.o.2.1;have y1:=D4.o.2.2;clear hown hgrow hat OA;refine hKC.o _ _ (fun _=>y0) (fun hH=> ?_);clear hKC KC;have hHeld:=hH (by decide);refine BH 7 ?_;refine LS 8 ?_;intro KC hKC;go_simp;refine hKC.o _ _ (fun h=>absurd h (by decide)) (fun hH=> ?_)
         clear hKC KC hH hHeld;refine Cj (by kernel_rfl) ?_ _;clear y0 y1 EA E1;have D5:Hid _:=D4.o.1;generalize u8.setCell ⟨B,2,none⟩ (sG gg (n+1) cap)=W5 at D5⊢;clear D4;have hnl:(ls++[t]).length=n+1:=by rw[aH,HN.o];rfl
         obtain⟨q',rfl⟩:∃q',q=q'+1:=⟨q-1,by omega⟩;go_wp2_with fail
         go_roundw
         (case rel=>exact⟨q',p5+1,some ⟨gg,0,none⟩,cap,ls++[t],by go_num,by omega,by omega,by omega,by rw[hnl];exact D5.o,by have:=HL.o.1;have:=HN.o;omega,fun z hz=>by rcases ah.1 hz with e|e;exact HL.o.2 z e;rw[bO.1 e];exact htb⟩)
         exact(by simp[intOf])
       . have hqn:¬(q:Int)>0:=by omega
         clear hq0;have E18:Hid (Gx u wr s p5 Lp B (.slice ap ps.length cp) (.slice al ls.length cl) ps ls res/\ls.length<=3/\∀z∈ls,Ty z):=⟨E17.o,by have:=HL.o.1;omega,HL.o.2⟩
         clear E17 HL;go_wp2_with fail
         go_loopw [10] (fun i wr=>∃(q:Nat) (al:Option Addr) (cl:Nat) (ls:List Int),i=iZ (q:Int)/\q<=3/\Hid (Gx u wr s p5 Lp B (.slice ap ps.length cp) (.slice al ls.length cl) ps ls res/\ls.length<=3+q/\∃l,ls=l++List.replicate q 3/\l.length<=3/\∀z∈l,Ty z)) (fun i _=>3-(intOf i).toNat)
         case atStart=>exact⟨0,al,cl,ls,rfl,by omega,E18.o.1,by have:=E18.o.2.1;omega,ls,by simp,E18.o.2⟩
         case round=>
          clear E18;obtain⟨q,al2,cl2,ls2,rfl,hq2,E19⟩:=hrel;have HL:=Af E19.o.2;have E20:=Af E19.o.1;clear E19;have hpl:ls2.length<=6:=by have:=HL.o.1;omega
          generalize hn:ls2.length=n2 at hpl E20⊢;have HN:=Af hn;clear hn;by_cases hq3:q<3
          case pos=>
           have hq3I:(q:Int)<3:=by omega
           have k0:=E20.o.cells.1.2.2.1;have EA:Hid (Gx u (wr.alloc (.cells #[iZ 3] 2)) s p5 Lp B (.slice ap ps.length cp) (.slice al2 n2 cl2) ps ls2 res):=E20.o.keep (Aa _ _);have OA:Hid ((wr.alloc (.cells #[iZ 3] 2)).ownsRow u.heap.size 2 1 (.slice al2 n2 cl2) n2 (ls2.flatMap Ac)):=by have:=EA.o.rows.2;rw[HN.o]at this;exact this
           have k2:=EA.o.cells.1.2.2.1;go_wp2_with (first|(at_builtin;refine wpList_append_lies _ rfl _ _ 47 rfl u.heap.size 2 i64 (iZ 0) 1 8 Tryz.underlying47 hi hz0 hz1 hz2 rfl (by decide) (.slice al2 n2 cl2) n2 (ls2.flatMap Ac) rfl OA.o ⟨wr.heap.size,0,none⟩ 1 1 [iZ 3] rfl rfl (De wr _ _) (FI _) (by omega) (by unfold maxLen;omega) (by omega) EA.o.bl.size _ rfl ?_;intro g5 cap5 w5 hown5 hgrow5 hat5 hlt5;have D4:Hid (Gx u (w5.setCell ⟨B,2,none⟩ (sG g5 (n2+1) cap5)) s p5 Lp B (.slice ap ps.length cp) (sG g5 (n2+1) cap5) ps (ls2++[3]) res/\w5.cell? ⟨B,2,none⟩=some (.slice al2 n2 cl2)/\w5.frozen? ⟨B,2,none⟩=false):=EA.o.push_l 3 _ (by rw[HN.o];exact hown5) hgrow5 (DO hat5);have s6:=D4.o.2.1;have s7:=D4.o.2.2;clear hown5 hgrow5 hat5 hlt5)|go_in)
           clear s6 s7 EA OA k0 k2 E20;have hnl:(ls2++[3]).length=n2+1:=by rw[aH,HN.o];rfl
           go_roundw
           case rel=>exact⟨q+1,some ⟨g5,0,none⟩,cap5,ls2++[3],by go_num,by omega,by rw[hnl];exact D4.o.1,by have:=HL.o.1;have:=HN.o;omega,by obtain⟨l,e,h⟩:=HL.o.2;exact⟨l,by rw[e,List.replicate_succ',a6],h⟩⟩
           case measure=>simp[intOf];omega
          case neg=>
           have E21:Hid (Gx u wr s p5 (Ai ⟨sG GR 3 3,.slice a m c,.slice af j cf,sN⟩ F cs G [] (gb P ⟨sG GR 3 3,.slice a m c,.slice af j cf,sN⟩::[gb RB vN])) B (.slice ap ps.length cp) (.slice al2 n2 cl2) ps ls2 res):=by have:=E20.o;rw[<-HLp.o]at this;exact this
           clear E20;have EA:Hid (Gx u (wr.alloc (.cells #[.slice ap ps.length cp,iZ res,.slice al2 n2 cl2,sN] 58)) s p5 (Ai ⟨sG GR 3 3,.slice a m c,.slice af j cf,sN⟩ F cs G [] (gb P ⟨sG GR 3 3,.slice a m c,.slice af j cf,sN⟩::[gb RB vN])) B (.slice ap ps.length cp) (.slice al2 n2 cl2) ps ls2 res):=E21.o.keep (Aa _ _);have k0:=(E21.o.bl.four (show gb P ⟨sG GR 3 3,.slice a m c,.slice af j cf,sN⟩∈_ by simp[Ai])).1.2.2.1;have k2:=(EA.o.bl.four (show gb P ⟨sG GR 3 3,.slice a m c,.slice af j cf,sN⟩∈_ by simp[Ai])).1.2.2.1;simp only[]at k0 k2;obtain⟨⟨b0,b1,b2,b3⟩,_⟩:=E21.o.cells
           have OA:Hid ((wr.alloc (.cells #[.slice ap ps.length cp,iZ res,.slice al2 n2 cl2,sN] 58)).ownsRow u.heap.size 58 4 (.slice af j cf) j (G.flatMap AW)):=by
            have h9:(wr.alloc (.cells #[.slice ap ps.length cp,iZ res,.slice al2 n2 cl2,sN] 58)).ownsRow u.heap.size 58 4 (.slice af j cf) G.length (G.flatMap AW):=EA.o.bl.sep.own (BT (.slice af j cf) G) (by simp[Ai]);rw[HG.o.1]at h9;exact h9
           go_wp2_with (first|(at_builtin;refine wpList_append_lies _ rfl _ _ 25 rfl u.heap.size 58 iF (.agg #[sN,iZ 0,sN,sN]) 4 80 Tryz.underlying25 hiF hF0 hF1 hF2 rfl (by decide) (.slice af j cf) j (G.flatMap AW) rfl OA.o ⟨wr.heap.size,0,none⟩ 1 1 [.slice ap ps.length cp,iZ res,.slice al2 n2 cl2,sN] rfl rfl (De wr _ _) (by intro x hx;simp only[bG,bY,cZ]at hx;rcases hx with rfl|rfl|rfl|rfl<;>rfl) (by omega) (by unfold maxLen;omega) (by omega) EA.o.bl.size _ rfl ?_;intro g5 cap5 w5 hown5 hgrow5 hat5 hlt5;have D4:Hid (Bs u (w5.setCell ⟨P,2,none⟩ (sG g5 (j+1) cap5)) s p5 (Ai ⟨sG GR 3 3,.slice a m c,sG g5 (j+1) cap5,sN⟩ F cs (G++[((⟨ps,res,ls2,[]⟩:MF),(⟨.slice ap ps.length cp,.slice al2 n2 cl2,sN⟩:VF))]) [] (gb P ⟨sG GR 3 3,.slice a m c,sG g5 (j+1) cap5,sN⟩::[gb RB vN]))/\w5.cell? ⟨P,2,none⟩=some (.slice af j cf)/\w5.frozen? ⟨P,2,none⟩=false):=EA.o.done (sG g5 (j+1) cap5) (by rw[HG.o.1];exact hown5) hgrow5 (DO hat5);have s6:=D4.o.2.1;have s7:=D4.o.2.2;clear hown5 hgrow5 hat5 hlt5)|go_in)
           clear s6 s7 EA OA k0 k2 E21 b0 b1 b2 b3;go_roundw
           case rel=>exact⟨j+1,p5,some ⟨g5,0,none⟩,cap5,by omega,by go_num,by omega,by omega,G++[((⟨ps,res,ls2,[]⟩:MF),(⟨.slice ap ps.length cp,.slice al2 n2 cl2,sN⟩:VF))],HG.o.add ⟨HP.o.1,HP.o.2.1,HP.o.2.2.1,by obtain⟨l,e,h⟩:=HL.o.2;obtain rfl:q=3:=(by omega);exact⟨l,e,h⟩⟩ HP.o.2.2.2,D4.o.1⟩
           case measure=>simp[intOf];omega
    case neg=>
     have hjn:j=nf:=by omega
     have E12:Hid (∃v cs G ts,Bs u wr s p4 (Ai v F cs G ts (gb P v::[gb RB vN]))/\GQ F cs.length nf 0 G/\KQ 0 G cs ts):=⟨_,_,_,_,E11.o,⟨by rw[HG.o.1];exact hjn,HG.o.2.1,HG.o.2.2,fun j y hj=>absurd hj (by omega)⟩,⟨by have:=HC.o.1;have:=HCm.o;omega,HC.o.2.1,HC.o.2.bk,by simp,(fun x hx=>by cases hx),List.Pairwise.nil⟩⟩
     clear E11;go_wp2_with fail
     clear hlt hjn HG HC HCm;go_loopw [11,12] (fun i _ wr=>∃(i0:Nat) (p':Int),i0<=nf/\i=iZ i0/\p3<=p'/\p'<=p3+100+400000000*(i0:Int)/\Hid (∃v cs G ts,Bs u wr s p' (Ai v F cs G ts (gb P v::[gb RB vN]))/\GQ F cs.length nf i0 G/\KQ i0 G cs ts)) (fun i _ _=>nf-(intOf i).toNat)
     case atStart=>exact⟨0,p4,by omega,rfl,by omega,by omega,E12⟩
     case round=>
      clear E12;obtain⟨i,p5,hi0,rfl,f1,f2,E13⟩:=hrel;obtain⟨v,cs,G,ts,hb,hq,hk⟩:=E13.o;have E14:Hid (Bs u wr s p5 (Ai v F cs G ts (gb P v::[gb RB vN]))/\GQ F cs.length nf i G/\KQ i G cs ts):=⟨hb,hq,hk⟩
      clear hb hq hk E13;by_cases hlt:i<nf
      case pos=>
       have hltI:(i:Int)<(nf:Int):=by omega
       obtain⟨sz,hsz0,hsz1,hsz⟩:=E14.o.1.bel.src.size;obtain⟨L0,hL0⟩:∃L0,60+12*sz=L0:=⟨_,rfl⟩;have hL0b:60<=L0/\L0<=204:=by omega
       have E15:Hid _:=GS.new (L0:=L0) E14.o.1 HF.o E14.o.2.1 E14.o.2.2 hlt (by omega) (by omega);have HK:=Af (aG E14.o.2.1 E14.o.2.1.len);clear E14;go_upto_region 31 with fail
       clear hsz hL0 hsz0 hsz1;generalize wr.heap.size=Gb at E15⊢;refine An (fun U=>Hid (GS u U s ⟨F,G,P,Gb,i,L0,cs.length,[]⟩ p5 L0 0 64 [gb RB vN])) E15 ?_;clear E15;rintro U15 E;go_wp2_with fail
       refine(Uo (Af (M6 L0)) E).mono ?_;rintro e U16 ⟨rfl,p6,l6,hb,E⟩;have hl6:-522<=l6/\l6<=L0/\p5<=p6/\p6<=p5+15001+15001*800:=by have:=hb.2.2.2.2 (by omega);omega
       clear hb;obtain⟨gf,cf,rs,q2,q3,hrs⟩:=E.o.fnr;simp only[]at q2 q3;rw[HK.o.2]at q2;go_upto_if 119 with fail
       go_cut [] (fun wx=>∃p7 l7:Int,(p6<=p7/\p7<=p6+568/\l6-13<=l7/\l7<=l6)/\Hid (GS u wx s ⟨F,G,P,Gb,i,L0,cs.length,[]⟩ p7 l7 0 64 [gb RB vN]))
       case first=>
        by_cases hr0:rs=0
        case pos=>
         subst hr0;go_wp2_with fail
         go_meet
         exact⟨_,_,by omega,E⟩
        have hr0':(rs != 0)=true:=by simpa using hr0
        go_wp2_with fail
        refine(Mc (Af QC) E).mono ?_;rintro e U17 ⟨rfl,p7,l7,b4,E⟩;go_wp2_with fail
        go_meet
        exact⟨_,_,by omega,E⟩
       case rest=>
        obtain⟨p7,l7,b4,E⟩:=hcut;clear q2 q3;go_wp2_with fail
        refine(Ud E).mono ?_;rintro e U18 ⟨n18,rfl,E⟩;obtain⟨gf,cf,d,c0,a,c,⟨q2,q3,q4,q5⟩,hset⟩:=Pf.done (n:=nf) (Pf.keep E.o (Ae _)) HK.o.1 (by omega);simp only[]at q2 q3 q4 q5 hset;rw[HK.o.2]at q2;have HS:Hid _:=hset;clear hset E;go_upto_region 35 with fail
        refine Bh 9 (S:=fun W=>W.cell? ⟨P,2,none⟩=some (sG gf nf cf)/\W.cell? ⟨Gb,3,none⟩=some (.slice a d c)) (by kernel_rfl) ⟨q2,q3⟩ (fun hHeld=> ?_)
        clear q2 q3;generalize U18.drew=UD at HS q4 q5 hHeld⊢;refine BH 0 ?_;refine BH 1 ?_;refine BH 2 ?_;refine BH 3 ?_;refine BH 4 ?_;refine BH 5 ?_;refine BH 6 ?_;refine BH 7 ?_;refine BH 8 ?_;refine LS 9 ?_;intro KC hKC;go_simp;refine hKC.o _ _ (fun h=>absurd h (by decide)) (fun hH=> ?_);clear hKC KC hH hHeld;refine Cj (by kernel_rfl) ?_ _;clear q4 q5;go_simp;generalize UD.setCell ⟨gf,i*4+3,none⟩ (.slice a d c)=W9 at HS⊢;go_wp2_with fail
        go_roundw
        case rel=>exact⟨i+1,p7,by omega,by go_num,by omega,by omega,HS⟩
        case measure=>simp[intOf];omega
      case neg=>
       obtain rfl:nf=i:=by omega
       obtain⟨⟨b1,d1,b2,d2,b3,d3,b4,d4,ev⟩,_⟩:=E14.o.1.prow;subst ev;have HM:=Af (QE HF.o E14.o.2.1 E14.o.2.2 (by omega));obtain⟨⟨k0,k1,k2,k3⟩,_⟩:=E14.o.1.four (AD (show gb P ⟨.slice b1 F.length d1,.slice b2 cs.length d2,.slice b3 G.length d3,.slice b4 ts.length d4⟩∈_ by simp));simp only[]at k0 k1 k2 k3;go_wp2_with fail
       refine(KK ⟨.slice b1 F.length d1,.slice b2 cs.length d2,.slice b3 G.length d3,.slice b4 ts.length d4⟩ ⟨F.map Prod.fst,cs,G.map Prod.fst,ts⟩ wr HM.o.sm HM.o.wf E14.o.1.sep.ownP.rd).mono ?_;rintro e U20 ⟨rc,rf,ra,vC,vD,rfl,bel,⟨q1,m1,o1,q2,m2,o2,eC,eD⟩,hC⟩;subst eC eD
       have HC:Hid (rc=0->∃(gc:Nat) (C:List Int),q1=some ⟨gc,0,none⟩/\m1=nf/\∃z,U20.cell? ⟨gc,0,none⟩=some (iZ z)):=fun e=>by
        obtain⟨gc,cc,C,e1,e2,e3⟩:=hC e;simp only[aI,bB]at e1 e2 e3;have hGl:=E14.o.2.1.len;rw[hGl]at e1 e2 e3;have h0:=bF e3 0 (by omega);rw[Hc (aA (by omega))]at h0;exact⟨gc,C,e1.1,e1.2.1,_,h0⟩
       have E15:Hid (Bs u (U20.alloc (.cells #[iZ rc,iZ rf,iZ ra,.slice q1 m1 o1,.slice q2 m2 o2] 86)) s p5 (Ai ⟨.slice b1 F.length d1,.slice b2 cs.length d2,.slice b3 G.length d3,.slice b4 ts.length d4⟩ F cs G ts (gb P ⟨.slice b1 F.length d1,.slice b2 cs.length d2,.slice b3 G.length d3,.slice b4 ts.length d4⟩::[gb RB vN]))/\Ap (U20.alloc (.cells #[iZ rc,iZ rf,iZ ra,.slice q1 m1 o1,.slice q2 m2 o2] 86)) U20.heap.size #[iZ rc,iZ rf,iZ ra,.slice q1 m1 o1,.slice q2 m2 o2] 86/\(rc=0->∃gc:Nat,q1=some ⟨gc,0,none⟩/\m1=nf/\∃z,(U20.alloc (.cells #[iZ rc,iZ rf,iZ ra,.slice q1 m1 o1,.slice q2 m2 o2] 86)).cell? ⟨gc,0,none⟩=some (iZ z))/\GQ F cs.length nf nf G/\KQ nf G cs ts):=⟨(E14.o.1.keep bel).keep (Aa _ _),Ap.new _ _ _,fun e=>(by obtain⟨gc,C,e1,e2,z,e3⟩:=HC.o e;exact⟨gc,e1,e2,z,Ad (Aa _ _) e3⟩),E14.o.2.1,E14.o.2.2⟩
       clear bel hC HC HM k0 k1 k2 k3 E14;go_upto_region 37 with fail
       generalize U20.heap.size=TB at E15⊢;generalize U20.alloc (.cells #[iZ rc,iZ rf,iZ ra,.slice q1 m1 o1,.slice q2 m2 o2] 86)=U21 at E15⊢;obtain⟨t0,_,_,t3,_⟩:=CD E15.o.2.1;obtain⟨⟨k0,k1,k2,k3⟩,_⟩:=E15.o.1.four (AD (show gb P ⟨.slice b1 F.length d1,.slice b2 cs.length d2,.slice b3 G.length d3,.slice b4 ts.length d4⟩∈_ by simp));simp only[]at k0 k1 k2 k3;by_cases hc0:rc=0;case' neg=>have hc0':(rc != 0)=true:=by simpa using hc0
       case' pos=>
        obtain⟨gc,eq1,em1,z,hz⟩:=E15.o.2.2.1 hc0;subst eq1;rw[hc0]at t0;rw[em1]at t3;have hnfI:(0:Int)<(nf:Int):=by omega
        clear hc0 em1;by_cases hzg:z>100000
        case' neg=>
         have HE:Hid _:=Q8 E15.o.1;have HQ:=Af E15.o.2.2.2;obtain⟨z0,z1,z2,z3⟩:=HE.o.2.1;obtain⟨y0,y1,y2,y3⟩:=HE.o.2.2;go_wp2_with fail
         have HF4:Hid _:=(HE.o.1.four (P:=RB) (v:=⟨.slice b1 F.length d1,.slice b2 cs.length d2,.slice b3 G.length d3,.slice b4 ts.length d4⟩) (AD (by simp))).1;obtain⟨w0,w1,w2,w3⟩:=HF4.o;simp only[]at w0 w1 w2 w3;exact aW (v:=.agg #[.slice b1 F.length d1,.slice b2 cs.length d2,.slice b3 G.length d3,.slice b4 ts.length d4]) (by simp[results,Tryz.results10,go_sem,w0,w1,w2,w3]) rfl (Q9 HE.o.1 HF.o HQ.o.1 HQ.o.2 (by omega) (by omega) rfl)
       all_goals
        go_wp2_with fail
        refine(LH u U21 s p5 ⟨.slice b1 F.length d1,.slice b2 cs.length d2,.slice b3 G.length d3,.slice b4 ts.length d4⟩ F cs G ts (gb P ⟨.slice b1 F.length d1,.slice b2 cs.length d2,.slice b3 G.length d3,.slice b4 ts.length d4⟩::[gb RB vN]) nf E15.o.1 E15.o.2.2.2.1 E15.o.2.2.2.2 (by omega)).mono ?_;rintro e U22 ⟨v',G',ts',rfl,hb,hq⟩;obtain⟨⟨e1,h1,e2,h2,e3,h3,e4,h4,ev⟩,_⟩:=hb.prow;subst ev;have HE:Hid _:=Q8 hb;have HQ:=Af hq;obtain⟨z0,z1,z2,z3⟩:=HE.o.2.1;obtain⟨y0,y1,y2,y3⟩:=HE.o.2.2;clear hb hq t0 t3 k0 k1 k2 k3;go_wp2_with fail
        have HF4:Hid _:=(HE.o.1.four (P:=RB) (v:=⟨.slice e1 F.length h1,.slice e2 cs.length h2,.slice e3 G'.length h3,.slice e4 ts'.length h4⟩) (AD (by simp))).1;obtain⟨w0,w1,w2,w3⟩:=HF4.o;simp only[]at w0 w1 w2 w3;exact aW (v:=.agg #[.slice e1 F.length h1,.slice e2 cs.length h2,.slice e3 G'.length h3,.slice e4 ts'.length h4]) (by simp[results,Tryz.results10,go_sem,w0,w1,w2,w3]) rfl (Q9 HE.o.1 HF.o HQ.o.1 HQ.o.2 (by omega) (by omega) rfl)
end Go.Proofs.YtjcamlobelcepaaGreatDoor
