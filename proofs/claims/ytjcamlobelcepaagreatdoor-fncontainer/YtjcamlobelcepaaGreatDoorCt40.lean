import Derived.Test.YtjcamlobelcepaaGreatDoorCt38
namespace Go.Proofs.YtjcamlobelcepaaGreatDoor
open Go.ChangeShapes Go.WideShapes Go.ChangeAt Go.RowKit
set_option linter.unusedVariables false
set_option maxHeartbeats 16000000
set_option maxRecDepth 100000
theorem Il{L M:List As}(h:∀(inst:DecidableEq As) (x:As),List.count x L=List.count x M):L.Perm M:=by
 classical
 rw[dy];exact h inferInstance
section
variable {w u:World} {s:CR} {p:Int} {v:VP} {F:List (List Int×Value)} {cs:List MC} {G:List (MF×VF)} {ts:List MT} {D:List As}
theorem Bs.ct(h:Bs w u s p (Ai v F cs G ts D)){q:Nat}{x:MT}(hq:ts[q]?=some x):∃gt ct,v.t=sG gt ts.length ct/\u.cell? ⟨gt,q*4,none⟩=some (iZ x.func)/\u.cell? ⟨gt,q*4+1,none⟩=some (iZ x.head)/\u.cell? ⟨gt,q*4+2,none⟩=some (iZ x.counter)/\u.cell? ⟨gt,q*4+3,none⟩=some (.int .u32 x.init):=by
 have hlt:=(aE.1 hq).1;have o4:=h.prow.2.2.2.2;rcases Ci o4 with⟨e,h0⟩|⟨gt,ct,e⟩
 . omega
 rw[e]at o4
 have hh:∀j,j<4->u.cell? ⟨gt,q*4+j,none⟩=x.cells[j]?:=fun j hj=>by
  rw[bF o4 (q*4+j) (by omega),C8 MT.cells 4 MT.cells_length ts q j x hq hj]
 exact⟨gt,ct,e,hh 0 (by omega),hh 1 (by omega),hh 2 (by omega),hh 3 (by omega)⟩
end
theorem Bs.code_at{w u:World}{s:CR}{p:Int}{v:VP}{F:List (List Int×Value)}{cs:List MC}{G:List (MF×VF)}{ts:List MT}{X:As}{D:List As}{vc:Value}{code:List MI}{j n nc gf cf:Nat}{y:MF×VF}(h:Bs w u s p (Ai v F cs G ts (Ca vc code::X::D)))(hy:G[j]?=some y)(hv:v.f=sG gf G.length cf)(hq:GQ F nc n n G)(hc:Rt F nc n ⟨y.1.params,y.1.result,y.1.locals,code⟩)(hj:0<j):(∃G2,Bs w (u.setCell ⟨gf,j*4+3,none⟩ vc) s p (Ai v F cs G2 ts (X::D))/\GQ F nc n n G2/\G2[0]?=G[0]?)/\(∃c0,u.cell? ⟨gf,j*4+3,none⟩=some c0)/\u.frozen? ⟨gf,j*4+3,none⟩=false:=by
 obtain⟨f,pv,lv',c0⟩:=y;obtain⟨hsp,hG1⟩:=Rj hy;rw[hsp]at h;obtain⟨b1,b2,b3⟩:=h.code_ (by rw[hv,<-hsp]);rw[hG1]at b1 b2 b3;exact⟨⟨_,b1,hq.set lR hy hc (.inl lR),by rw[LY (aE.1 hy).1,bX (by omega)]⟩,⟨_,b2⟩,b3⟩
def Ut(nc:Nat)(cd:List MI):Prop:=cd=[]\/∃q:Nat,q<nc/\cd=[⟨1,(q:Int),0,0⟩]
theorem Ut.ok{F:List (List Int×Value)}{nc n:Nat}{f:MF}{cd:List MI}(h:Ut nc cd)(hn:nc<=64):Rt F nc n ⟨f.params,f.result,f.locals,cd++[⟨29,0,0,0⟩]⟩:=by
 have hr:∀p g,AH p g ⟨29,0,0,0⟩:=fun p g=>OQ (by omega) (.inl ⟨by kernel_rfl,rfl,rfl,rfl⟩)
 rcases h with rfl|⟨q,hq,rfl⟩
 . refine⟨by simp,by simp,fun x hx=> ?_,fun p h1 h2 h3 x hx=> ?_⟩
   all_goals obtain rfl:x=⟨29,0,0,0⟩:=by simpa using hx
   . exact P8 (by omega) (by omega) (by omega) (by omega)
   . exact hr _ _
 . refine⟨by simp,by simp,fun x hx=> ?_,fun p h1 h2 h3 x hx=> ?_⟩
   all_goals
    obtain rfl|rfl:x=⟨1,(q:Int),0,0⟩\/x=⟨29,0,0,0⟩:=by simpa using hx
   . exact P8 (by omega) (by omega) (by omega) (by omega)
   . exact P8 (by omega) (by omega) (by omega) (by omega)
   . exact OQ (by omega) (.inr (.inl ⟨by kernel_rfl,by omega,by omega,rfl,rfl⟩))
   . exact hr _ _
theorem PA{ts:List MT}{j:Nat}{x:MT}{q:MT->Bool}(hx:ts[j]?=some x):(ts.take (j+1)).filter q=(ts.take j).filter q++(if q x then[x]else[]):=by
 obtain⟨hlt,rfl⟩:=aE.1 hx;rw[aj hlt,cS];simp only[dH,dX]
theorem KQ.short{n:Nat}{G G':List (MF×VF)}{cs:List MC}{ts:List MT}(h:KQ n G cs ts)(h0:G'[0]?=G[0]?)(hn:0<n):KQ n G' cs (ts.filter fun c=>c.func==0):=
 ⟨h.cl,h.cw,h.bk,aR (cT _ _) h.tl,fun x hx=>by
  obtain⟨h1,h2⟩:=dW.1 hx;obtain⟨q1,q2,q3,y,q4,q5⟩:=h.tw x h1;have e:x.func.toNat=0:=by simp at h2;omega
  rw[e]at q4;exact⟨q1,q2,q3,y,by rw[e,h0];exact q4,q5⟩,h.ri.sublist List.filter_sublist⟩
theorem Ti(l:List MT):∀u∈l.flatMap MT.cells,u.oneCell'=true:=fun u hu=>by
 obtain⟨x,_,hx⟩:=cG.1 hu;simp only[MT.cells,bG,bY,cZ]at hx;rcases hx with rfl|rfl|rfl|rfl<;>rfl
def TL(w:World)(s:CR)(p:Int)(F:List (List Int×Value))(cs:List MC)(n:Nat)(D:List As)(e:Ending)(u':World):Prop:=∃v' G' ts',e=.returned (.agg #[v'.r,v'.k,v'.f,v'.t])/\Bs w u' s p (Ai v' F cs G' ts' D)/\GQ F cs.length n n G'/\KQ n G' cs ts'
theorem LH(w u:World)(s:CR)(p:Int)(v:VP)(F:List (List Int×Value))(cs:List MC)(G:List (MF×VF))(ts:List MT)(D:List As)(n:Nat)(h:Bs w u s p (Ai v F cs G ts D))(hG:GQ F cs.length n n G)(hK:KQ n G cs ts)(hn:0<n/\n<=32):
 Calls Tryz.prog 39 #[.agg #[v.r,v.k,v.f,v.t]] u (TL w s p F cs n D):=by
 have hcs:=hK.cl;have htl:=hK.tl;obtain⟨iT,hiT,hT0,hT1,hT2⟩:=bJ QL;obtain⟨iI,hiI,hI0,hI1,hI2⟩:=bJ QJ;obtain⟨⟨a1,c1,a2,c2,a3,c3,a4,c4,ev⟩,_⟩:=h.prow;subst ev;have HG:=Af (aG hG hK);obtain⟨X,hX⟩:∃X,u.heap.size=X:=⟨_,rfl⟩
 have E0:Hid (Bs w ((u.alloc (.cells #[.slice a1 F.length c1,.slice a2 cs.length c2,.slice a3 G.length c3,.slice a4 ts.length c4] 28)).alloc (.cells #[sN,sN,sN,sN] 28)) s p (Ai ⟨.slice a1 F.length c1,.slice a2 cs.length c2,.slice a3 G.length c3,.slice a4 ts.length c4⟩ F cs G ts (gb X ⟨.slice a1 F.length c1,.slice a2 cs.length c2,.slice a3 G.length c3,.slice a4 ts.length c4⟩::gb (X+1) vN::D))):=by
  have h1:=(h.box 28 4 [.slice a1 F.length c1,.slice a2 cs.length c2,.slice a3 G.length c3,.slice a4 ts.length c4] rfl).box 28 4 [sN,sN,sN,sN] rfl;rw[dC,hX]at h1;exact h1.perm (Il fun _ x=>by simp only[Ai,gb,dD,dJ,dN];omega)
 clear h hG hK;go_enter Tryz.func39,Tryz.ntmps39;go_upto_region 1 with fail
 clear hX;refine An (fun U=>Hid (Bs w U s p (Ai ⟨.slice a1 F.length c1,.slice a2 cs.length c2,.slice a3 G.length c3,.slice a4 ts.length c4⟩ F cs G ts (gb X ⟨.slice a1 F.length c1,.slice a2 cs.length c2,.slice a3 G.length c3,.slice a4 ts.length c4⟩::gb (X+1) vN::D)))) E0 ?_;clear E0;rintro U0 E0;have E1:Hid (Bs w (U0.alloc (.cells #[] 62)) s p (Ai ⟨.slice a1 F.length c1,.slice a2 cs.length c2,.slice a3 G.length c3,.slice a4 ts.length c4⟩ F cs G ts (CZ (sG U0.heap.size 0 0) []::gb X ⟨.slice a1 F.length c1,.slice a2 cs.length c2,.slice a3 G.length c3,.slice a4 ts.length c4⟩::gb (X+1) vN::D))):=(E0.o.row (Aa _ _) (r:=CZ (sG U0.heap.size 0 0) []) (Ik U0 62 4)).perm (Il fun _ x=>by simp only[Ai,gb,dD,dJ,dN];omega);go_wp2_with fail;clear E0
 go_loopw [3,4] (fun V i wr=>∃(j:Nat) (aV:Option Addr) (cV:Nat) (zs:List MT),j<=ts.length/\V=.slice aV zs.length cV/\i=iZ j/\zs.length<=j/\Hid (Bs w wr s p (Ai ⟨.slice a1 F.length c1,.slice a2 cs.length c2,.slice a3 G.length c3,.slice a4 ts.length c4⟩ F cs G ts (CZ (.slice aV zs.length cV) zs::gb X ⟨.slice a1 F.length c1,.slice a2 cs.length c2,.slice a3 G.length c3,.slice a4 ts.length c4⟩::gb (X+1) vN::D))/\zs=(ts.take j).filter fun c=>c.func==0)) (fun _ i _=>ts.length-(intOf i).toNat)
 case atStart=>exact⟨0,_,_,[],by omega,rfl,rfl,by simp,E1.o,rfl⟩
 case round=>
  clear E1;obtain⟨j,aV,cV,zs,hj,rfl,rfl,hzl,E2⟩:=hrel;have k3:=(E2.o.1.four (AD (show gb X ⟨.slice a1 F.length c1,.slice a2 cs.length c2,.slice a3 G.length c3,.slice a4 ts.length c4⟩∈_ by simp))).1.2.2.2;simp only[]at k3;have HZ:=Af E2.o.2;have E3:=Af E2.o.1;clear E2;by_cases hlt:j<ts.length
  case pos=>
   have hltI:(j:Int)<(ts.length:Int):=by omega
   obtain⟨x,hx⟩:∃x,ts[j]?=some x:=⟨_,aA hlt⟩;obtain⟨gt,ct,et,x0,x1,x2,x3⟩:=E3.o.ct hx;simp only[aI,ao]at et;obtain⟨rfl,rfl⟩:=et;have HX:=Af (PA (q:=fun c=>c.func==0) hx);clear hx;cases hf0:(x.func==0)
   case false=>
    go_wp2_with fail
    go_roundw
    case rel=>exact⟨j+1,aV,cV,zs,by omega,rfl,by go_num,by omega,E3.o,by rw[HX.o,hf0,<-HZ.o];simp⟩
    case measure=>simp[intOf];omega
   case true=>
    have EA:Hid (Bs w (wr.alloc (.cells #[iZ x.func,iZ x.head,iZ x.counter,.int .u32 x.init] 62)) s p (Ai ⟨.slice a1 F.length c1,.slice a2 cs.length c2,.slice a3 G.length c3,sG gt ts.length c4⟩ F cs G ts (CZ (.slice aV zs.length cV) zs::gb X ⟨.slice a1 F.length c1,.slice a2 cs.length c2,.slice a3 G.length c3,sG gt ts.length c4⟩::gb (X+1) vN::D))):=E3.o.keep (Aa _ _);have OA:Hid ((wr.alloc (.cells #[iZ x.func,iZ x.head,iZ x.counter,.int .u32 x.init] 62)).ownsRow w.heap.size 62 4 (.slice aV zs.length cV) zs.length (zs.flatMap MT.cells)):=EA.o.sep.own (CZ (.slice aV zs.length cV) zs) (AD (by simp));generalize hm:zs.length=m at hzl EA OA E3⊢;have HM:Hid (zs.length=m):=hm;clear hm
    go_wp2_with (first|(at_builtin;refine wpList_append_lies _ rfl _ _ 26 rfl w.heap.size 62 iT (.agg #[iZ 0,iZ 0,iZ 0,.int .u32 0]) 4 32 Tryz.underlying26 hiT hT0 hT1 hT2 rfl (by decide) (.slice aV m cV) m (zs.flatMap MT.cells) rfl OA.o ⟨wr.heap.size,0,none⟩ 1 1 [iZ x.func,iZ x.head,iZ x.counter,.int .u32 x.init] rfl rfl (De wr _ _) (Ti [x]) (by omega) (by unfold maxLen;omega) (by omega) EA.o.size _ rfl ?_;intro g5 cap5 w5 hown5 hgrow5 hat5 hlt5;have h1:=EA.o;rw[FK]at h1;have h2:=Bs.app (A:=Ai ⟨.slice a1 F.length c1,.slice a2 cs.length c2,.slice a3 G.length c3,sG gt ts.length c4⟩ F cs G ts []) h1 (CZ (sG g5 (m+1) cap5) (zs++[x])) (by have e:(zs++[x]).length=m+1:=(by rw[aH,HM.o];rfl);show w5.ownsRow _ _ _ _ (zs++[x]).length ((zs++[x]).flatMap MT.cells);rw[e,a8];exact hown5) hgrow5 (DO hat5);rw[<-FK]at h2;have E5:Hid _:=h2;clear h1 h2 hown5 hgrow5 hat5 hlt5)|go_in)
    have hml:(zs++[x]).length=m+1:=by rw[aH,HM.o];rfl
    clear EA OA E3 x0 x1 x2 x3 k3;go_roundw
    case rel=>exact⟨j+1,some ⟨g5,0,none⟩,cap5,zs++[x],by omega,by rw[hml],by go_num,by omega,by rw[hml];exact E5.o,by rw[HX.o,hf0,<-HZ.o];rfl⟩
    case measure=>simp[intOf];omega
  case neg=>
   have E4:Hid (Bs w (wr.setCell ⟨X,3,none⟩ (.slice aV zs.length cV)) s p (Ai ⟨.slice a1 F.length c1,.slice a2 cs.length c2,.slice a3 G.length c3,.slice aV zs.length cV⟩ F cs G zs (gb X ⟨.slice a1 F.length c1,.slice a2 cs.length c2,.slice a3 G.length c3,.slice aV zs.length cV⟩::gb (X+1) vN::D))):=by
    have h1:=Bs.setp (D:=[CZ (.slice aV zs.length cV) zs]) E3.o 3 (by omega) (.slice aV zs.length cV);have h2:Bs w (wr.setCell ⟨X,3,none⟩ (.slice aV zs.length cV)) s p (Ai ⟨.slice a1 F.length c1,.slice a2 cs.length c2,.slice a3 G.length c3,.slice aV zs.length cV⟩ F cs G zs (gb X ⟨.slice a1 F.length c1,.slice a2 cs.length c2,.slice a3 G.length c3,.slice aV zs.length cV⟩::gb (X+1) vN::D)++[CZ (.slice a4 ts.length c4) ts]):=h1.perm (Il fun _ x=>by simp only[Ai,gb,aw,au,bK,ba,dD,dJ,dN];omega);exact h2.sub (dA _ _)
   have z3:=(E3.o.four (AD (show gb X ⟨.slice a1 F.length c1,.slice a2 cs.length c2,.slice a3 G.length c3,.slice a4 ts.length c4⟩∈_ by simp))).2.2.2.2;have hzb:zs.length<=64:=by omega
   go_upto_region 8 with fail
   clear E3 k3 z3 hzl;have HZ2:Hid (zs=ts.filter fun c=>c.func==0):=by have:=HZ.o;rw[bg (by omega)]at this;exact this
   clear HZ hj hlt;refine An (fun U=>Hid (Bs w U s p (Ai ⟨.slice a1 F.length c1,.slice a2 cs.length c2,.slice a3 G.length c3,.slice aV zs.length cV⟩ F cs G zs (gb X ⟨.slice a1 F.length c1,.slice a2 cs.length c2,.slice a3 G.length c3,.slice aV zs.length cV⟩::gb (X+1) vN::D)))) E4 ?_;clear E4;rintro U5 E5;have E6:Hid (Bs w U5 s p (Ai ⟨.slice a1 F.length c1,.slice a2 cs.length c2,.slice a3 n c3,.slice aV zs.length cV⟩ F cs G zs (gb X ⟨.slice a1 F.length c1,.slice a2 cs.length c2,.slice a3 n c3,.slice aV zs.length cV⟩::gb (X+1) vN::D))/\GQ F cs.length n n G):=⟨by have:=E5.o;rw[HG.o.1.len]at this;exact this,HG.o.1⟩
   clear E5;have hn1:1<=n+1:=by omega
   go_wp2_with fail
   go_loopw [5,6,7] (fun i _ _ wr=>∃j:Nat,1<=j/\j<=n+1/\i=iZ j/\Hid (∃G',Bs w wr s p (Ai ⟨.slice a1 F.length c1,.slice a2 cs.length c2,.slice a3 n c3,.slice aV zs.length cV⟩ F cs G' zs (gb X ⟨.slice a1 F.length c1,.slice a2 cs.length c2,.slice a3 n c3,.slice aV zs.length cV⟩::gb (X+1) vN::D))/\GQ F cs.length n n G'/\G'[0]?=G[0]?)) (fun i _ _ _=>n+1-(intOf i).toNat)
   case atStart=>exact⟨1,by omega,by omega,rfl,G,E6.o.1,E6.o.2,rfl⟩
   case round=>
    clear E6;obtain⟨j,hj1,hj,rfl,E7⟩:=hrel;obtain⟨G',hb,hq,hg0⟩:=E7.o;have E8:Hid (Bs w wr s p (Ai ⟨.slice a1 F.length c1,.slice a2 cs.length c2,.slice a3 n c3,.slice aV zs.length cV⟩ F cs G' zs (gb X ⟨.slice a1 F.length c1,.slice a2 cs.length c2,.slice a3 n c3,.slice aV zs.length cV⟩::gb (X+1) vN::D))/\GQ F cs.length n n G'):=⟨hb,hq⟩
    have H0:=Af hg0;clear hb hq E7 hg0;obtain⟨⟨k0,k1,k2,k3⟩,_⟩:=E8.o.1.four (AD (show gb X ⟨.slice a1 F.length c1,.slice a2 cs.length c2,.slice a3 n c3,.slice aV zs.length cV⟩∈_ by simp));simp only[]at k0 k1 k2 k3;by_cases hlt:j<n
    case neg=>
     have hltI:¬(j:Int)<(n:Int):=by omega
     obtain⟨⟨a0,a1',a2',a3'⟩,fz0,fz1,fz2,fz3⟩:=E8.o.1.four (P:=X+1) (v:=vN) (AD (show gb (X+1) vN∈_ by simp));simp only[]at a0 a1' a2' a3'
     have E9:Hid (Bs w ((((wr.setCell ⟨X+1,0,none⟩ (.slice a1 F.length c1)).setCell ⟨X+1,1,none⟩ (.slice a2 cs.length c2)).setCell ⟨X+1,2,none⟩ (.slice a3 n c3)).setCell ⟨X+1,3,none⟩ (.slice aV zs.length cV)) s p (Ai ⟨.slice a1 F.length c1,.slice a2 cs.length c2,.slice a3 n c3,.slice aV zs.length cV⟩ F cs G' zs (gb X ⟨.slice a1 F.length c1,.slice a2 cs.length c2,.slice a3 n c3,.slice aV zs.length cV⟩::gb (X+1) ⟨.slice a1 F.length c1,.slice a2 cs.length c2,.slice a3 n c3,.slice aV zs.length cV⟩::D))):=Bs.setp (D:=[gb X ⟨.slice a1 F.length c1,.slice a2 cs.length c2,.slice a3 n c3,.slice aV zs.length cV⟩]) (Bs.setp (D:=[gb X ⟨.slice a1 F.length c1,.slice a2 cs.length c2,.slice a3 n c3,.slice aV zs.length cV⟩]) (Bs.setp (D:=[gb X ⟨.slice a1 F.length c1,.slice a2 cs.length c2,.slice a3 n c3,.slice aV zs.length cV⟩]) (Bs.setp (D:=[gb X ⟨.slice a1 F.length c1,.slice a2 cs.length c2,.slice a3 n c3,.slice aV zs.length cV⟩]) E8.o.1 0 (by omega) (.slice a1 F.length c1)) 1 (by omega) (.slice a2 cs.length c2)) 2 (by omega) (.slice a3 n c3)) 3 (by omega) (.slice aV zs.length cV)
     obtain⟨⟨d0,d1,d2,d3⟩,_⟩:=E9.o.four (P:=X+1) (v:=⟨.slice a1 F.length c1,.slice a2 cs.length c2,.slice a3 n c3,.slice aV zs.length cV⟩) (AD (by simp));simp only[]at d0 d1 d2 d3
     have EF:Hid (Bs w ((((wr.setCell ⟨X+1,0,none⟩ (.slice a1 F.length c1)).setCell ⟨X+1,1,none⟩ (.slice a2 cs.length c2)).setCell ⟨X+1,2,none⟩ (.slice a3 n c3)).setCell ⟨X+1,3,none⟩ (.slice aV zs.length cV)) s p (Ai ⟨.slice a1 F.length c1,.slice a2 cs.length c2,.slice a3 n c3,.slice aV zs.length cV⟩ F cs G' zs D)):=by
      have h2:Bs w _ s p (Ai ⟨.slice a1 F.length c1,.slice a2 cs.length c2,.slice a3 n c3,.slice aV zs.length cV⟩ F cs G' zs D++[gb X ⟨.slice a1 F.length c1,.slice a2 cs.length c2,.slice a3 n c3,.slice aV zs.length cV⟩,gb (X+1) ⟨.slice a1 F.length c1,.slice a2 cs.length c2,.slice a3 n c3,.slice aV zs.length cV⟩]):=E9.o.perm (Il fun _ x=>by simp only[Ai,gb,dD,dJ,dN];omega);exact h2.sub (dA _ _)
     clear E9;go_wp2_with fail
     exact aW (v:=.agg #[.slice a1 F.length c1,.slice a2 cs.length c2,.slice a3 n c3,.slice aV zs.length cV]) (by simp[results,Tryz.results39,go_sem,d0,d1,d2,d3]) rfl ⟨⟨.slice a1 F.length c1,.slice a2 cs.length c2,.slice a3 n c3,.slice aV zs.length cV⟩,G',zs,rfl,EF.o,E8.o.2,by rw[HZ2.o];exact HG.o.2.short H0.o hn.1⟩
    have hltI:(j:Int)<(n:Int):=by omega
    obtain⟨y,hy⟩:∃y,G'[j]?=some y:=⟨_,aA (by rw[E8.o.2.len];exact hlt)⟩;have HY:=Af hy;have hcsb:=hcs;have EC:Hid (Bs w (wr.alloc (.cells #[] 97)) s p (Ai ⟨.slice a1 F.length c1,.slice a2 cs.length c2,.slice a3 n c3,.slice aV zs.length cV⟩ F cs G' zs (Ca (sG wr.heap.size 0 0) []::gb X ⟨.slice a1 F.length c1,.slice a2 cs.length c2,.slice a3 n c3,.slice aV zs.length cV⟩::gb (X+1) vN::D))):=(E8.o.1.row (Aa _ _) (r:=Ca (sG wr.heap.size 0 0) []) (Ik wr 97 4)).perm (Il fun _ x=>by simp only[Ai,dD,dJ,dN];omega);have HQ:=Af E8.o.2;obtain⟨gf,cf,ap,cp,al,cl,ac,cc,e1,_,_,_,_,_⟩:=E8.o.1.fn hy;simp only[aI]at e1;obtain⟨rfl,hmid,rfl⟩:=e1;clear hmid;clear hy E8 k0 k1 k3;go_wp2_with fail;clear k2;go_loopw [6,7] (fun V i wr=>∃(q m:Nat) (aC:Option Addr) (cC:Nat) (cd:List MI),q<=cs.length/\Hid (V=.slice aC m cC)/\i=iZ q/\m<=1/\Hid (cd.length=m/\Bs w wr s p (Ai ⟨.slice a1 F.length c1,.slice a2 cs.length c2,sG gf n c3,.slice aV zs.length cV⟩ F cs G' zs (Ca (.slice aC m cC) cd::gb X ⟨.slice a1 F.length c1,.slice a2 cs.length c2,sG gf n c3,.slice aV zs.length cV⟩::gb (X+1) vN::D))/\Ut cs.length cd)) (fun _ i _=>cs.length-(intOf i).toNat)
    case atStart=>exact⟨0,0,some ⟨wr.heap.size,0,none⟩,0,[],by omega,by show _=_;rfl,rfl,by omega,rfl,EC.o,.inl rfl⟩
    case round=>
     clear EC;obtain⟨q,m,aC,cC,cd,hq,HV,rfl,hcd,E9⟩:=hrel;have hV:=HV.o;subst hV;clear HV;have HW:=Af E9.o.2.2;have HM:=Af E9.o.1;have E10:=Af E9.o.2.1;clear E9;obtain⟨⟨_,k1,k2,_⟩,_⟩:=E10.o.four (AD (show gb X ⟨.slice a1 F.length c1,.slice a2 cs.length c2,sG gf n c3,.slice aV zs.length cV⟩∈_ by simp));simp only[]at k1 k2;obtain⟨gf',cf',ap',cp',al',cl',ac',cc',e1,_,⟨_,r1,_,_⟩,_,_,_⟩:=E10.o.fn HY.o;simp only[aI,aM,cN,cj]at e1;obtain⟨rfl,hmid,rfl⟩:=e1;clear hmid;generalize y.1.result=rs at r1;by_cases t1:q<cs.length;case' neg=>have t1I:¬(q:Int)<(cs.length:Int):=by omega
     case' pos=>
      have t1I:(q:Int)<(cs.length:Int):=by omega
      by_cases t2:rs=0;case' pos=>subst t2
      case' neg=>
       have t2':(rs != 0)=true:=by simpa using t2
       by_cases t3:m=0
       case' neg=>
        have t3':((m:Int)==0)=false:=by rw[du];omega
        clear t3
       case' pos=>
        have t3':((m:Int)==0)=true:=by rw[beq_iff_eq];omega
        have HM0:=Af t3;clear t3;obtain⟨x,hx⟩:∃x,cs[q]?=some x:=⟨_,aA t1⟩;obtain⟨gk,ck,ek,x0,_⟩:=E10.o.kt hx;simp only[aI,ao]at ek;obtain⟨rfl,rfl⟩:=ek;generalize x.type=ty at x0;clear hx;go_upto_region 15 with fail
        have ED:=Af (E10.o.keep (Ae _));refine wp_region_held_drew (S:=fun W=>W.cell? ⟨X,1,none⟩=some (sG gk cs.length c2)/\W.cell? ⟨gk,q*2,none⟩=some (iZ ty)/\W.cell? ⟨X,2,none⟩=some (sG gf n c3)/\W.cell? ⟨gf,j*4+1,none⟩=some (iZ rs)) (by kernel_rfl) (by exact⟨k1,x0,k2,r1⟩) (fun hHeld=> ?_)
        clear k1 x0 k2 r1 E10;generalize wr.drew=UD at ED hHeld⊢;refine Ar 0 ?_;refine Ar 1 ?_;refine Ar 2 ?_;refine Ar 3 ?_;refine Ar 4 ?_;refine Ar 5 ?_;refine Ar 6 ?_;refine Ar 7 ?_;refine Ar 8 ?_;refine Ar 9 ?_;refine Ar 10 ?_;refine Ar 11 ?_;refine Ar 12 ?_;refine wpAnyH_done (by kernel_rfl) ?_ _;clear hHeld;go_simp;cases htr:(ty==rs)
        case false=>
         go_wp2_with fail
         go_roundw
         case rel=>exact⟨q+1,m,aC,cC,cd,by omega,by show _=_;rfl,by go_num,by omega,HM.o,ED.o,HW.o⟩
         case measure=>simp[intOf];omega
        case true=>
         have EA:Hid (Bs w (UD.alloc (.cells #[iZ 1,iZ (q:Int),iZ 0,iZ 0] 97)) s p (Ai ⟨.slice a1 F.length c1,sG gk cs.length c2,sG gf n c3,.slice aV zs.length cV⟩ F cs G' zs (Ca (.slice aC m cC) cd::gb X ⟨.slice a1 F.length c1,sG gk cs.length c2,sG gf n c3,.slice aV zs.length cV⟩::gb (X+1) vN::D))):=ED.o.keep (Aa _ _);have OA:Hid ((UD.alloc (.cells #[iZ 1,iZ (q:Int),iZ 0,iZ 0] 97)).ownsRow w.heap.size 97 4 (.slice aC m cC) m (cd.flatMap MI.cells)):=by have:=EA.o.nrow.2;rw[HM.o]at this;exact this
         go_wp2_with (first|(at_builtin;refine wpList_append_lies _ rfl _ _ 56 rfl w.heap.size 97 iI (.agg #[iZ 0,iZ 0,iZ 0,iZ 0]) 4 32 Tryz.underlying56 hiI hI0 hI1 hI2 rfl (by decide) (.slice aC m cC) m (cd.flatMap MI.cells) rfl OA.o ⟨UD.heap.size,0,none⟩ 1 1 [iZ 1,iZ (q:Int),iZ 0,iZ 0] rfl rfl (De UD _ _) (Ok [⟨1,(q:Int),0,0⟩]) (by omega) (by simp[maxLen];omega) (by omega) EA.o.size _ rfl ?_;intro g5 cap5 w5 hown5 hgrow5 hat5 hlt5;have E11:Hid (Bs w w5 s p (Ai ⟨.slice a1 F.length c1,sG gk cs.length c2,sG gf n c3,.slice aV zs.length cV⟩ F cs G' zs (Ca (sG g5 (m+1) cap5) (cd++[(⟨1,(q:Int),0,0⟩:MI)])::gb X ⟨.slice a1 F.length c1,sG gk cs.length c2,sG gf n c3,.slice aV zs.length cV⟩::gb (X+1) vN::D))):=EA.o.push_n [(⟨1,(q:Int),0,0⟩:MI)] _ (by rw[HM.o];exact hown5) hgrow5 (DO hat5);clear hown5 hgrow5 hat5 hlt5)|go_in)
         clear EA OA ED;have hml:(cd++[(⟨1,(q:Int),0,0⟩:MI)]).length=m+1:=by rw[aH,HM.o];rfl
         go_roundw
         case rel=>exact⟨q+1,m+1,some ⟨g5,0,none⟩,cap5,cd++[(⟨1,(q:Int),0,0⟩:MI)],by omega,by show _=_;rfl,by go_num,by have:=HM0.o;omega,hml,E11.o,.inr ⟨q,t1,by rcases HW.o with e|⟨q',_,e⟩;rw[e];rfl;have h1:=HM.o;have h2:=HM0.o;rw[e]at h1;simp at h1;omega⟩⟩
         case measure=>simp[intOf];omega
     all_goals
      go_upto_region 17 with fail
      clear k1;have ED:=Af (E10.o.keep (Ae _));refine wp_region_held_drew (S:=fun W=>W.cell? ⟨X,2,none⟩=some (sG gf n c3)) (by kernel_rfl) (by exact(ED.o.four (P:=X) (v:=⟨.slice a1 F.length c1,.slice a2 cs.length c2,sG gf n c3,.slice aV zs.length cV⟩) (AD (by simp))).1.2.2.1) (fun hHeld=> ?_);clear E10 k2 r1;generalize wr.drew=UD at ED hHeld⊢;refine Ar 0 ?_;refine Ar 1 ?_;refine Ar 2 ?_;refine Ar 3 ?_;refine Ar 4 ?_;refine FL 5 ?_;intro KC hKC;go_simp;have EA:Hid (Bs w (UD.alloc (.cells #[iZ 29,iZ 0,iZ 0,iZ 0] 97)) s p (Ai ⟨.slice a1 F.length c1,.slice a2 cs.length c2,sG gf n c3,.slice aV zs.length cV⟩ F cs G' zs (Ca (.slice aC m cC) cd::gb X ⟨.slice a1 F.length c1,.slice a2 cs.length c2,sG gf n c3,.slice aV zs.length cV⟩::gb (X+1) vN::D))):=ED.o.keep (Aa _ _);have OA:Hid ((UD.alloc (.cells #[iZ 29,iZ 0,iZ 0,iZ 0] 97)).ownsRow w.heap.size 97 4 (.slice aC m cC) m (cd.flatMap MI.cells)):=by have:=EA.o.nrow.2;rw[HM.o]at this;exact this
      refine hKC.o _ _ (by exact(EA.o.four (P:=X) (v:=⟨.slice a1 F.length c1,.slice a2 cs.length c2,sG gf n c3,.slice aV zs.length cV⟩) (AD (by simp))).1.2.2.1) (fun hHeld=> ?_);clear hKC KC;refine FL 6 ?_;intro KC hKC;refine step_append_lies _ rfl (.tmp 83) (.tmp 85) 56 rfl w.heap.size 97 iI (.agg #[iZ 0,iZ 0,iZ 0,iZ 0]) 4 32 Tryz.underlying56 hiI hI0 hI1 hI2 rfl (by decide) (.slice aC m cC) m (cd.flatMap MI.cells) (by simp[Act.eval]) OA.o ⟨UD.heap.size,0,none⟩ 1 1 [iZ 29,iZ 0,iZ 0,iZ 0] (by simp[Act.eval]) rfl (De UD [iZ 29,iZ 0,iZ 0,iZ 0] 97) (Ok [⟨29,0,0,0⟩]) (by omega) (by simp[maxLen];omega) (by omega) EA.o.size _ rfl ?_;intro gg cap u8 hown hgrow hat _;have D4:=Af (EA.o.push_n [(⟨29,0,0,0⟩:MI)] (sG gg (m+1) cap) (by rw[HM.o];exact hown) hgrow (DO hat));obtain⟨hS1,⟨c0,hS2⟩,hS3⟩:=D4.o.code_at HY.o (by rw[HQ.o.len]) HQ.o (HW.o.ok hcs) (by omega);have HS1:Hid _:=hS1;clear hown hgrow hat OA hS1;refine hKC.o _ _ (by exact(D4.o.four (P:=X) (v:=⟨.slice a1 F.length c1,.slice a2 cs.length c2,sG gf n c3,.slice aV zs.length cV⟩) (AD (by simp))).1.2.2.1) (fun hHeld=> ?_);clear hKC KC;refine Ar 7 ?_;refine Ar 8 ?_;refine FL 9 ?_;intro KC hKC;go_simp
      refine hKC.o _ _ (by obtain⟨G2,hG2,_,_⟩:=HS1.o;exact(hG2.four (P:=X) (v:=⟨.slice a1 F.length c1,.slice a2 cs.length c2,sG gf n c3,.slice aV zs.length cV⟩) (AD (by simp))).1.2.2.1) (fun hHeld=> ?_);clear hKC KC;refine wpAnyH_done (by kernel_rfl) ?_ _;clear hHeld hS2 hS3 D4 EA ED;go_simp;generalize u8.setCell ⟨gf,j*4+3,none⟩ (sG gg (m+1) cap)=W9 at HS1⊢;go_wp2_with fail;go_roundw
      case rel=>exact⟨j+1,by omega,by omega,by go_num,by obtain⟨G2,h1,h2,h3⟩:=HS1.o;exact⟨G2,h1,h2,h3.trans H0.o⟩⟩
      case measure=>simp[intOf];omega
end Go.Proofs.YtjcamlobelcepaaGreatDoor
