import Derived.Test.YtjpobijiblcgaaaGreatFw0
import Derived.Test.YtjpobijiblcgaaaGreatFw4
import Derived.Test.YtjpobijiblcgaaaGreatFw32
import Derived.Test.YtjpobijiblcgaaaGreatFw27
import Derived.Test.YtjpobijiblcgaaaGreatFw18
import Derived.Deep.RegionHeld
import Derived.Test.YtjpobijiblcgaaaGreatFw31
namespace Go.Proofs.YtjpobijiblcgaaaGreat
open Go.ChangeShapes Go.WideShapes Go.ChangeAt Go.RowKit
set_option linter.unusedVariables false
set_option maxHeartbeats 16000000
set_option maxRecDepth 100000
theorem AX{L M:List Av}(h:∀(inst:DecidableEq Av) (x:Av),List.count x L=List.count x M):L.Perm M:=by
 classical
 rw[eX];exact h inferInstance
section
variable {w u:World} {s:Cv} {p:Int} {v:VP} {F:List (List Int×Value)} {cs:List MC} {G:List (MF×VF)} {ts:List MT} {D:List Av}
theorem Bs.ct(h:Bs w u s p (Ae v F cs G ts D)){q:Nat}{x:MT}(hq:ts[q]?=some x):∃gt ct,v.t=sG gt ts.length ct/\u.cell? ⟨gt,q*4,none⟩=some (iZ x.func)/\u.cell? ⟨gt,q*4+1,none⟩=some (iZ x.head)/\u.cell? ⟨gt,q*4+2,none⟩=some (iZ x.counter)/\u.cell? ⟨gt,q*4+3,none⟩=some (.int .u32 x.init):=by
 have hlt:=(aD.1 hq).1;have o4:=h.prow.2.2.2.2;rcases Ba o4 with⟨e,h0⟩|⟨gt,ct,e⟩
 . omega
 rw[e]at o4
 have hh:∀j,j<4->u.cell? ⟨gt,q*4+j,none⟩=x.cells[j]?:=fun j hj=>by
  rw[au o4 (q*4+j) (by omega),CH MT.cells 4 MT.cells_length ts q j x hq hj]
 exact⟨gt,ct,e,hh 0 (by omega),hh 1 (by omega),hh 2 (by omega),hh 3 (by omega)⟩
theorem Bs.kt(h:Bs w u s p (Ae v F cs G ts D)){q:Nat}{x:MC}(hq:cs[q]?=some x):∃gt ct,v.k=sG gt cs.length ct/\u.cell? ⟨gt,q*2,none⟩=some (iZ x.type)/\u.cell? ⟨gt,q*2+1,none⟩=some (.int .u32 x.word):=by
 have hlt:=(aD.1 hq).1;have o4:=h.prow.2.2.1;rcases Ba o4 with⟨e,h0⟩|⟨gt,ct,e⟩
 . omega
 rw[e]at o4
 have hh:∀j,j<2->u.cell? ⟨gt,q*2+j,none⟩=x.cells[j]?:=fun j hj=>by
  rw[au o4 (q*2+j) (by omega),CH MC.cells 2 MC.cells_length cs q j x hq hj]
 exact⟨gt,ct,e,hh 0 (by omega),hh 1 (by omega)⟩
end
theorem Bs.code_at{w u:World}{s:Cv}{p:Int}{v:VP}{F:List (List Int×Value)}{cs:List MC}{G:List (MF×VF)}{ts:List MT}{X:Av}{D:List Av}{vc:Value}{code:List MI}{j n i gf cf:Nat}{y:MF×VF}(h:Bs w u s p (Ae v F cs G ts (AK vc code::X::D)))(hy:G[j]?=some y)(hv:v.f=sG gf G.length cf)(hq:GQ n i G)(hl:code.length<=20000)(hw:∀x∈code,x.wf):(∃G2,Bs w (u.setCell ⟨gf,j*4+3,none⟩ vc) s p (Ae v F cs G2 ts (X::D))/\GQ n i G2)/\(∃c0,u.cell? ⟨gf,j*4+3,none⟩=some c0)/\u.frozen? ⟨gf,j*4+3,none⟩=false:=by
 obtain⟨f,pv,lv',c0⟩:=y;have hlt:=(aD.1 hy).1
 have hsp:G=G.take j++(f,(⟨pv,lv',c0⟩:VF))::G.drop (j+1):=by
  have hg:G[j]=(f,(⟨pv,lv',c0⟩:VF)):=by
   have:=aA hlt;rw[hy]at this;exact(bC this).symm
  rw[<-hg,List.getElem_cons_drop,dR]
 have hG1:(G.take j).length=j:=by rw[bh];omega
 rw[hsp]at h;obtain⟨b1,b2,b3⟩:=h.code_ (by rw[hv,<-hsp]);rw[hG1]at b1 b2 b3;refine⟨⟨_,b1,⟨?_,fun z hz=> ?_⟩⟩,⟨_,b2⟩,b3⟩
 . rw[aG,bP,hG1,dg]
   have:=hq.len;omega
 . rcases aS.1 hz with e|e
   . exact hq.fn z (dQ e)
   . rcases aX.1 e with e|e
     . rw[e]
       have hf:=hq.fn _ (aE hy);exact⟨hf.1,hf.2.1,hl,⟨hf.2.2.2.params,hf.2.2.2.result,hf.2.2.2.locals,hw⟩⟩
     . exact hq.fn z (eP e)
theorem My(l:List MT):∀u∈l.flatMap MT.cells,u.oneCell'=true:=fun u hu=>by
 obtain⟨x,_,hx⟩:=cE.1 hu;simp only[MT.cells,aX,bB,cW]at hx;rcases hx with rfl|rfl|rfl|rfl<;>rfl
def Q8(w:World)(s:Cv)(p:Int)(F:List (List Int×Value))(cs:List MC)(n:Nat)(D:List Av)(e:Ending)(u':World):Prop:=∃v' G' ts',e=.returned (.agg #[v'.r,v'.k,v'.f,v'.t])/\Bs w u' s p (Ae v' F cs G' ts' D)/\GQ n n G'/\ts'.length<=64/\∀x∈ts',x.wf
theorem GO(w u:World)(s:Cv)(p:Int)(v:VP)(F:List (List Int×Value))(cs:List MC)(G:List (MF×VF))(ts:List MT)(D:List Av)(n:Nat)(h:Bs w u s p (Ae v F cs G ts D))(hG:GQ n n G)(hcs:cs.length<=200000)(htl:ts.length<=64)(htw:∀x∈ts,x.wf)(hn:n<=32):
 Calls Tryz.prog 57 #[.agg #[v.r,v.k,v.f,v.t]] u (Q8 w s p F cs n D):=by
 obtain⟨iT,hiT,hT0,hT1,hT2⟩:=bH M2;obtain⟨iI,hiI,hI0,hI1,hI2⟩:=bH KT;obtain⟨⟨a1,c1,a2,c2,a3,c3,a4,c4,ev⟩,_⟩:=h.prow;subst ev;have HG:Hid (GQ n n G/\∀x∈ts,x.wf):=⟨hG,htw⟩
 obtain⟨X,hX⟩:∃X,u.heap.size=X:=⟨_,rfl⟩
 have E0:Hid (Bs w ((u.alloc (.cells #[.slice a1 F.length c1,.slice a2 cs.length c2,.slice a3 G.length c3,.slice a4 ts.length c4] 65)).alloc (.cells #[sN,sN,sN,sN] 65)) s p (Ae ⟨.slice a1 F.length c1,.slice a2 cs.length c2,.slice a3 G.length c3,.slice a4 ts.length c4⟩ F cs G ts (gb X ⟨.slice a1 F.length c1,.slice a2 cs.length c2,.slice a3 G.length c3,.slice a4 ts.length c4⟩::gb (X+1) vN::D))):=by
  have h1:=(h.box 65 4 [.slice a1 F.length c1,.slice a2 cs.length c2,.slice a3 G.length c3,.slice a4 ts.length c4] rfl).box 65 4 [sN,sN,sN,sN] rfl;rw[dh,hX]at h1;exact h1.perm (AX fun _ x=>by simp only[Ae,gb,bT,bS,bj];omega)
 clear h hG htw;go_enter Tryz.func57,Tryz.ntmps57;go_upto_region 1 with fail
 clear hX;refine Al (fun U=>Hid (Bs w U s p (Ae ⟨.slice a1 F.length c1,.slice a2 cs.length c2,.slice a3 G.length c3,.slice a4 ts.length c4⟩ F cs G ts (gb X ⟨.slice a1 F.length c1,.slice a2 cs.length c2,.slice a3 G.length c3,.slice a4 ts.length c4⟩::gb (X+1) vN::D)))) E0 ?_;clear E0;rintro U0 E0;have E1:Hid (Bs w (U0.alloc (.cells #[] 118)) s p (Ae ⟨.slice a1 F.length c1,.slice a2 cs.length c2,.slice a3 G.length c3,.slice a4 ts.length c4⟩ F cs G ts (Cu (sG U0.heap.size 0 0) []::gb X ⟨.slice a1 F.length c1,.slice a2 cs.length c2,.slice a3 G.length c3,.slice a4 ts.length c4⟩::gb (X+1) vN::D))):=(E0.o.row (Aa _ _) (r:=Cu (sG U0.heap.size 0 0) []) (A5 U0 118 4)).perm (AX fun _ x=>by simp only[Ae,gb,bT,bS,bj];omega);go_wp2_with fail;clear E0
 go_loopw [3,4] (fun V i wr=>∃(j:Nat) (aV:Option Addr) (cV:Nat) (zs:List MT),j<=ts.length/\V=.slice aV zs.length cV/\i=iZ j/\zs.length<=j/\Hid (Bs w wr s p (Ae ⟨.slice a1 F.length c1,.slice a2 cs.length c2,.slice a3 G.length c3,.slice a4 ts.length c4⟩ F cs G ts (Cu (.slice aV zs.length cV) zs::gb X ⟨.slice a1 F.length c1,.slice a2 cs.length c2,.slice a3 G.length c3,.slice a4 ts.length c4⟩::gb (X+1) vN::D))/\∀x∈zs,x.wf)) (fun _ i _=>ts.length-(intOf i).toNat)
 case atStart=>exact⟨0,_,_,[],by omega,rfl,rfl,by simp,E1.o,fun x hx=>by cases hx⟩
 case round=>
  clear E1;obtain⟨j,aV,cV,zs,hj,rfl,rfl,hzl,E2⟩:=hrel;have k3:=(E2.o.1.four (As (show gb X ⟨.slice a1 F.length c1,.slice a2 cs.length c2,.slice a3 G.length c3,.slice a4 ts.length c4⟩∈_ by simp))).1.2.2.2;simp only[]at k3;have HZ:=Ah E2.o.2;have E3:=Ah E2.o.1;clear E2;by_cases hlt:j<ts.length
  case pos=>
   have hltI:(j:Int)<(ts.length:Int):=by omega
   obtain⟨x,hx⟩:∃x,ts[j]?=some x:=⟨_,aA hlt⟩;obtain⟨gt,ct,et,x0,x1,x2,x3⟩:=E3.o.ct hx;simp only[aI,bU]at et;obtain⟨rfl,rfl⟩:=et;have HXW:Hid x.wf:=HG.o.2 x (aE hx);clear hx;cases hf0:(x.func==0)
   case false=>
    go_wp2_with fail
    go_roundw
    case rel=>exact⟨j+1,aV,cV,zs,by omega,rfl,by go_num,by omega,E3.o,HZ.o⟩
    case measure=>simp[intOf];omega
   case true=>
    have EA:Hid (Bs w (wr.alloc (.cells #[iZ x.func,iZ x.head,iZ x.counter,.int .u32 x.init] 118)) s p (Ae ⟨.slice a1 F.length c1,.slice a2 cs.length c2,.slice a3 G.length c3,sG gt ts.length c4⟩ F cs G ts (Cu (.slice aV zs.length cV) zs::gb X ⟨.slice a1 F.length c1,.slice a2 cs.length c2,.slice a3 G.length c3,sG gt ts.length c4⟩::gb (X+1) vN::D))):=E3.o.keep (Aa _ _);have OA:Hid ((wr.alloc (.cells #[iZ x.func,iZ x.head,iZ x.counter,.int .u32 x.init] 118)).ownsRow w.heap.size 118 4 (.slice aV zs.length cV) zs.length (zs.flatMap MT.cells)):=EA.o.sep.own (Cu (.slice aV zs.length cV) zs) (As (by simp));generalize hm:zs.length=m at hzl EA OA E3⊢;have HM:Hid (zs.length=m):=hm;clear hm
    go_wp2_with (first|(at_builtin;refine wpList_append_lies _ rfl _ _ 63 rfl w.heap.size 118 iT (.agg #[iZ 0,iZ 0,iZ 0,.int .u32 0]) 4 32 Tryz.underlying63 hiT hT0 hT1 hT2 rfl (by decide) (.slice aV m cV) m (zs.flatMap MT.cells) rfl OA.o ⟨wr.heap.size,0,none⟩ 1 1 [iZ x.func,iZ x.head,iZ x.counter,.int .u32 x.init] rfl rfl (Bn wr _ _) (My [x]) (by omega) (by unfold maxLen;omega) (by omega) EA.o.size _ rfl ?_;intro g5 cap5 w5 hown5 hgrow5 hat5 hlt5;have h1:=EA.o;rw[CP]at h1;have h2:=Bs.app (A:=Ae ⟨.slice a1 F.length c1,.slice a2 cs.length c2,.slice a3 G.length c3,sG gt ts.length c4⟩ F cs G ts []) h1 (Cu (sG g5 (m+1) cap5) (zs++[x])) (by have e:(zs++[x]).length=m+1:=(by rw[aG,HM.o];rfl);show w5.ownsRow _ _ _ _ (zs++[x]).length ((zs++[x]).flatMap MT.cells);rw[e,a8];exact hown5) hgrow5 (BH hat5);rw[<-CP]at h2;have E5:Hid _:=h2;clear h1 h2 hown5 hgrow5 hat5 hlt5)|go_in)
    have hml:(zs++[x]).length=m+1:=by rw[aG,HM.o];rfl
    clear EA OA E3 x0 x1 x2 x3 k3;go_roundw
    case rel=>exact⟨j+1,some ⟨g5,0,none⟩,cap5,zs++[x],by omega,by rw[hml],by go_num,by omega,by rw[hml];exact E5.o,fun y hy=>by rcases aS.1 hy with e|e;exact HZ.o y e;rw[am.1 e];exact HXW.o⟩
    case measure=>simp[intOf];omega
  case neg=>
   have E4:Hid (Bs w (wr.setCell ⟨X,3,none⟩ (.slice aV zs.length cV)) s p (Ae ⟨.slice a1 F.length c1,.slice a2 cs.length c2,.slice a3 G.length c3,.slice aV zs.length cV⟩ F cs G zs (gb X ⟨.slice a1 F.length c1,.slice a2 cs.length c2,.slice a3 G.length c3,.slice aV zs.length cV⟩::gb (X+1) vN::D))):=by
    have h1:=Bs.setp (D:=[Cu (.slice aV zs.length cV) zs]) E3.o 3 (by omega) (.slice aV zs.length cV);have h2:Bs w (wr.setCell ⟨X,3,none⟩ (.slice aV zs.length cV)) s p (Ae ⟨.slice a1 F.length c1,.slice a2 cs.length c2,.slice a3 G.length c3,.slice aV zs.length cV⟩ F cs G zs (gb X ⟨.slice a1 F.length c1,.slice a2 cs.length c2,.slice a3 G.length c3,.slice aV zs.length cV⟩::gb (X+1) vN::D)++[Cu (.slice a4 ts.length c4) ts]):=h1.perm (AX fun _ x=>by simp only[Ae,gb,bI,bF,ah,bL,bT,bS,bj];omega);exact h2.sub (dB _ _)
   have z3:=(E3.o.four (As (show gb X ⟨.slice a1 F.length c1,.slice a2 cs.length c2,.slice a3 G.length c3,.slice a4 ts.length c4⟩∈_ by simp))).2.2.2.2;have hzb:zs.length<=64:=by omega
   go_upto_region 8 with fail
   clear E3 k3 z3 hzl hj hlt;have HZ2:Hid (zs.length<=64/\∀x∈zs,x.wf):=⟨hzb,HZ.o⟩
   clear HZ hzb;refine Al (fun U=>Hid (Bs w U s p (Ae ⟨.slice a1 F.length c1,.slice a2 cs.length c2,.slice a3 G.length c3,.slice aV zs.length cV⟩ F cs G zs (gb X ⟨.slice a1 F.length c1,.slice a2 cs.length c2,.slice a3 G.length c3,.slice aV zs.length cV⟩::gb (X+1) vN::D)))) E4 ?_;clear E4;rintro U5 E5;have E6:Hid (Bs w U5 s p (Ae ⟨.slice a1 F.length c1,.slice a2 cs.length c2,.slice a3 n c3,.slice aV zs.length cV⟩ F cs G zs (gb X ⟨.slice a1 F.length c1,.slice a2 cs.length c2,.slice a3 n c3,.slice aV zs.length cV⟩::gb (X+1) vN::D))/\GQ n n G):=⟨by have:=E5.o;rw[HG.o.1.len]at this;exact this,HG.o.1⟩
   clear E5 HG;have hn1:1<=n+1:=by omega
   go_wp2_with fail
   go_loopw [5,6,7] (fun i _ _ wr=>∃j:Nat,1<=j/\j<=n+1/\i=iZ j/\Hid (∃G',Bs w wr s p (Ae ⟨.slice a1 F.length c1,.slice a2 cs.length c2,.slice a3 n c3,.slice aV zs.length cV⟩ F cs G' zs (gb X ⟨.slice a1 F.length c1,.slice a2 cs.length c2,.slice a3 n c3,.slice aV zs.length cV⟩::gb (X+1) vN::D))/\GQ n n G')) (fun i _ _ _=>n+1-(intOf i).toNat)
   case atStart=>exact⟨1,by omega,by omega,rfl,G,E6.o⟩
   case round=>
    clear E6;obtain⟨j,hj1,hj,rfl,E7⟩:=hrel;obtain⟨G',hb,hq⟩:=E7.o;have E8:Hid (Bs w wr s p (Ae ⟨.slice a1 F.length c1,.slice a2 cs.length c2,.slice a3 n c3,.slice aV zs.length cV⟩ F cs G' zs (gb X ⟨.slice a1 F.length c1,.slice a2 cs.length c2,.slice a3 n c3,.slice aV zs.length cV⟩::gb (X+1) vN::D))/\GQ n n G'):=⟨hb,hq⟩
    clear hb hq E7;obtain⟨⟨k0,k1,k2,k3⟩,_⟩:=E8.o.1.four (As (show gb X ⟨.slice a1 F.length c1,.slice a2 cs.length c2,.slice a3 n c3,.slice aV zs.length cV⟩∈_ by simp));simp only[]at k0 k1 k2 k3;by_cases hlt:j<n
    case neg=>
     have hltI:¬(j:Int)<(n:Int):=by omega
     obtain⟨⟨a0,a1',a2',a3'⟩,fz0,fz1,fz2,fz3⟩:=E8.o.1.four (P:=X+1) (v:=vN) (As (show gb (X+1) vN∈_ by simp));simp only[]at a0 a1' a2' a3'
     have E9:Hid (Bs w ((((wr.setCell ⟨X+1,0,none⟩ (.slice a1 F.length c1)).setCell ⟨X+1,1,none⟩ (.slice a2 cs.length c2)).setCell ⟨X+1,2,none⟩ (.slice a3 n c3)).setCell ⟨X+1,3,none⟩ (.slice aV zs.length cV)) s p (Ae ⟨.slice a1 F.length c1,.slice a2 cs.length c2,.slice a3 n c3,.slice aV zs.length cV⟩ F cs G' zs (gb X ⟨.slice a1 F.length c1,.slice a2 cs.length c2,.slice a3 n c3,.slice aV zs.length cV⟩::gb (X+1) ⟨.slice a1 F.length c1,.slice a2 cs.length c2,.slice a3 n c3,.slice aV zs.length cV⟩::D))):=Bs.setp (D:=[gb X ⟨.slice a1 F.length c1,.slice a2 cs.length c2,.slice a3 n c3,.slice aV zs.length cV⟩]) (Bs.setp (D:=[gb X ⟨.slice a1 F.length c1,.slice a2 cs.length c2,.slice a3 n c3,.slice aV zs.length cV⟩]) (Bs.setp (D:=[gb X ⟨.slice a1 F.length c1,.slice a2 cs.length c2,.slice a3 n c3,.slice aV zs.length cV⟩]) (Bs.setp (D:=[gb X ⟨.slice a1 F.length c1,.slice a2 cs.length c2,.slice a3 n c3,.slice aV zs.length cV⟩]) E8.o.1 0 (by omega) (.slice a1 F.length c1)) 1 (by omega) (.slice a2 cs.length c2)) 2 (by omega) (.slice a3 n c3)) 3 (by omega) (.slice aV zs.length cV)
     obtain⟨⟨d0,d1,d2,d3⟩,_⟩:=E9.o.four (P:=X+1) (v:=⟨.slice a1 F.length c1,.slice a2 cs.length c2,.slice a3 n c3,.slice aV zs.length cV⟩) (As (by simp));simp only[]at d0 d1 d2 d3
     have EF:Hid (Bs w ((((wr.setCell ⟨X+1,0,none⟩ (.slice a1 F.length c1)).setCell ⟨X+1,1,none⟩ (.slice a2 cs.length c2)).setCell ⟨X+1,2,none⟩ (.slice a3 n c3)).setCell ⟨X+1,3,none⟩ (.slice aV zs.length cV)) s p (Ae ⟨.slice a1 F.length c1,.slice a2 cs.length c2,.slice a3 n c3,.slice aV zs.length cV⟩ F cs G' zs D)):=by
      have h2:Bs w _ s p (Ae ⟨.slice a1 F.length c1,.slice a2 cs.length c2,.slice a3 n c3,.slice aV zs.length cV⟩ F cs G' zs D++[gb X ⟨.slice a1 F.length c1,.slice a2 cs.length c2,.slice a3 n c3,.slice aV zs.length cV⟩,gb (X+1) ⟨.slice a1 F.length c1,.slice a2 cs.length c2,.slice a3 n c3,.slice aV zs.length cV⟩]):=E9.o.perm (AX fun _ x=>by simp only[Ae,gb,bT,bS,bj];omega);exact h2.sub (dB _ _)
     clear E9;go_wp2_with fail
     exact aT (v:=.agg #[.slice a1 F.length c1,.slice a2 cs.length c2,.slice a3 n c3,.slice aV zs.length cV]) (by simp[results,Tryz.results57,go_sem,d0,d1,d2,d3]) rfl ⟨⟨.slice a1 F.length c1,.slice a2 cs.length c2,.slice a3 n c3,.slice aV zs.length cV⟩,G',zs,rfl,EF.o,E8.o.2,HZ2.o.1,HZ2.o.2⟩
    have hltI:(j:Int)<(n:Int):=by omega
    obtain⟨y,hy⟩:∃y,G'[j]?=some y:=⟨_,aA (by rw[E8.o.2.len];exact hlt)⟩;have HY:=Ah hy;have hcsb:=hcs;have EC:Hid (Bs w (wr.alloc (.cells #[] 43)) s p (Ae ⟨.slice a1 F.length c1,.slice a2 cs.length c2,.slice a3 n c3,.slice aV zs.length cV⟩ F cs G' zs (AK (sG wr.heap.size 0 0) []::gb X ⟨.slice a1 F.length c1,.slice a2 cs.length c2,.slice a3 n c3,.slice aV zs.length cV⟩::gb (X+1) vN::D))):=(E8.o.1.row (Aa _ _) (r:=AK (sG wr.heap.size 0 0) []) (A5 wr 43 4)).perm (AX fun _ x=>by simp only[Ae,bT,bS,bj];omega);have HQ:=Ah E8.o.2;obtain⟨gf,cf,ap,cp,al,cl,ac,cc,e1,_,_,_,_,_⟩:=E8.o.1.fn hy;simp only[aI]at e1;obtain⟨rfl,hmid,rfl⟩:=e1;clear hmid;clear hy E8 k0 k1 k3;go_wp2_with fail;clear k2;go_loopw [6,7] (fun V i wr=>∃(q m:Nat) (aC:Option Addr) (cC:Nat) (cd:List MI),q<=cs.length/\Hid (V=.slice aC m cC)/\i=iZ q/\m<=1/\Hid (cd.length=m/\Bs w wr s p (Ae ⟨.slice a1 F.length c1,.slice a2 cs.length c2,sG gf n c3,.slice aV zs.length cV⟩ F cs G' zs (AK (.slice aC m cC) cd::gb X ⟨.slice a1 F.length c1,.slice a2 cs.length c2,sG gf n c3,.slice aV zs.length cV⟩::gb (X+1) vN::D))/\∀x∈cd,x.wf)) (fun _ i _=>cs.length-(intOf i).toNat)
    case atStart=>exact⟨0,0,some ⟨wr.heap.size,0,none⟩,0,[],by omega,by show _=_;rfl,rfl,by omega,rfl,EC.o,fun x hx=>by cases hx⟩
    case round=>
     clear EC;obtain⟨q,m,aC,cC,cd,hq,HV,rfl,hcd,E9⟩:=hrel;have hV:=HV.o;subst hV;clear HV;have HW:=Ah E9.o.2.2;have HM:=Ah E9.o.1;have E10:=Ah E9.o.2.1;clear E9;obtain⟨⟨_,k1,k2,_⟩,_⟩:=E10.o.four (As (show gb X ⟨.slice a1 F.length c1,.slice a2 cs.length c2,sG gf n c3,.slice aV zs.length cV⟩∈_ by simp));simp only[]at k1 k2;obtain⟨gf',cf',ap',cp',al',cl',ac',cc',e1,_,⟨_,r1,_,_⟩,_,_,_⟩:=E10.o.fn HY.o;simp only[aI,aJ,bf,cg]at e1;obtain⟨rfl,hmid,rfl⟩:=e1;clear hmid;generalize y.1.result=rs at r1;by_cases t1:q<cs.length;rotate_left
     . have t1I:¬(q:Int)<(cs.length:Int):=by omega
       skip
       go_upto_region 17 with fail
       clear k1;have ED:=Ah (E10.o.keep (Ad _));refine wp_region_held_drew (S:=fun W=>W.cell? ⟨X,2,none⟩=some (sG gf n c3)) (by kernel_rfl) (by exact(ED.o.four (P:=X) (v:=⟨.slice a1 F.length c1,.slice a2 cs.length c2,sG gf n c3,.slice aV zs.length cV⟩) (As (by simp))).1.2.2.1) (fun hHeld=> ?_);clear E10 k2 r1;generalize wr.drew=UD at ED hHeld⊢;refine Ak 0 ?_;refine Ak 1 ?_;refine Ak 2 ?_;refine Ak 3 ?_;refine Ak 4 ?_;refine rdH 5 ?_;intro KC hKC;go_simp;have EA:Hid (Bs w (UD.alloc (.cells #[iZ 29,iZ 0,iZ 0,iZ 0] 43)) s p (Ae ⟨.slice a1 F.length c1,.slice a2 cs.length c2,sG gf n c3,.slice aV zs.length cV⟩ F cs G' zs (AK (.slice aC m cC) cd::gb X ⟨.slice a1 F.length c1,.slice a2 cs.length c2,sG gf n c3,.slice aV zs.length cV⟩::gb (X+1) vN::D))):=ED.o.keep (Aa _ _);have OA:Hid ((UD.alloc (.cells #[iZ 29,iZ 0,iZ 0,iZ 0] 43)).ownsRow w.heap.size 43 4 (.slice aC m cC) m (cd.flatMap MI.cells)):=by have:=EA.o.nrow.2;rw[HM.o]at this;exact this
       refine hKC.o _ _ (by exact(EA.o.four (P:=X) (v:=⟨.slice a1 F.length c1,.slice a2 cs.length c2,sG gf n c3,.slice aV zs.length cV⟩) (As (by simp))).1.2.2.1) (fun hHeld=> ?_);clear hKC KC;refine rdH 6 ?_;intro KC hKC;refine step_append_lies _ rfl (.tmp 83) (.tmp 85) 23 rfl w.heap.size 43 iI (.agg #[iZ 0,iZ 0,iZ 0,iZ 0]) 4 32 Tryz.underlying23 hiI hI0 hI1 hI2 rfl (by decide) (.slice aC m cC) m (cd.flatMap MI.cells) (by simp[Act.eval]) OA.o ⟨UD.heap.size,0,none⟩ 1 1 [iZ 29,iZ 0,iZ 0,iZ 0] (by simp[Act.eval]) rfl (Bn UD [iZ 29,iZ 0,iZ 0,iZ 0] 43) (Dx [⟨29,0,0,0⟩]) (by omega) (by simp[maxLen];omega) (by omega) EA.o.size _ rfl ?_;intro gg cap u8 hown hgrow hat _;have D4:=Ah (EA.o.push_n [(⟨29,0,0,0⟩:MI)] (sG gg (m+1) cap) (by rw[HM.o];exact hown) hgrow (BH hat));obtain⟨hS1,⟨c0,hS2⟩,hS3⟩:=D4.o.code_at HY.o (by rw[HQ.o.len]) HQ.o (by rw[aG,HM.o];simp;omega) (fun x hx=>by rcases aS.1 hx with e|e;exact HW.o x e;rw[am.1 e];exact⟨Ag (z:=29) (by decide) (by decide),Ag (z:=0) (by decide) (by decide),Ag (z:=0) (by decide) (by decide),Ag (z:=0) (by decide) (by decide)⟩);have HS1:Hid _:=hS1;clear hown hgrow hat OA hS1
       refine hKC.o _ _ (by exact(D4.o.four (P:=X) (v:=⟨.slice a1 F.length c1,.slice a2 cs.length c2,sG gf n c3,.slice aV zs.length cV⟩) (As (by simp))).1.2.2.1) (fun hHeld=> ?_);clear hKC KC;refine Ak 7 ?_;refine Ak 8 ?_;refine rdH 9 ?_;intro KC hKC;go_simp;refine hKC.o _ _ (by obtain⟨G2,hG2,_⟩:=HS1.o;exact(hG2.four (P:=X) (v:=⟨.slice a1 F.length c1,.slice a2 cs.length c2,sG gf n c3,.slice aV zs.length cV⟩) (As (by simp))).1.2.2.1) (fun hHeld=> ?_);clear hKC KC;refine wpAnyH_done (by kernel_rfl) ?_ _;clear hHeld hS2 hS3 D4 EA ED;go_simp;generalize u8.setCell ⟨gf,j*4+3,none⟩ (sG gg (m+1) cap)=W9 at HS1⊢;go_wp2_with fail;go_roundw
       case rel=>exact⟨j+1,by omega,by omega,by go_num,HS1⟩
       case measure=>simp[intOf];omega
     have t1I:(q:Int)<(cs.length:Int):=by omega
     by_cases t2:rs=0
     . subst t2
       skip
       go_upto_region 17 with fail
       clear k1;have ED:=Ah (E10.o.keep (Ad _));refine wp_region_held_drew (S:=fun W=>W.cell? ⟨X,2,none⟩=some (sG gf n c3)) (by kernel_rfl) (by exact(ED.o.four (P:=X) (v:=⟨.slice a1 F.length c1,.slice a2 cs.length c2,sG gf n c3,.slice aV zs.length cV⟩) (As (by simp))).1.2.2.1) (fun hHeld=> ?_);clear E10 k2 r1;generalize wr.drew=UD at ED hHeld⊢;refine Ak 0 ?_;refine Ak 1 ?_;refine Ak 2 ?_;refine Ak 3 ?_;refine Ak 4 ?_;refine rdH 5 ?_;intro KC hKC;go_simp;have EA:Hid (Bs w (UD.alloc (.cells #[iZ 29,iZ 0,iZ 0,iZ 0] 43)) s p (Ae ⟨.slice a1 F.length c1,.slice a2 cs.length c2,sG gf n c3,.slice aV zs.length cV⟩ F cs G' zs (AK (.slice aC m cC) cd::gb X ⟨.slice a1 F.length c1,.slice a2 cs.length c2,sG gf n c3,.slice aV zs.length cV⟩::gb (X+1) vN::D))):=ED.o.keep (Aa _ _);have OA:Hid ((UD.alloc (.cells #[iZ 29,iZ 0,iZ 0,iZ 0] 43)).ownsRow w.heap.size 43 4 (.slice aC m cC) m (cd.flatMap MI.cells)):=by have:=EA.o.nrow.2;rw[HM.o]at this;exact this
       refine hKC.o _ _ (by exact(EA.o.four (P:=X) (v:=⟨.slice a1 F.length c1,.slice a2 cs.length c2,sG gf n c3,.slice aV zs.length cV⟩) (As (by simp))).1.2.2.1) (fun hHeld=> ?_);clear hKC KC;refine rdH 6 ?_;intro KC hKC;refine step_append_lies _ rfl (.tmp 83) (.tmp 85) 23 rfl w.heap.size 43 iI (.agg #[iZ 0,iZ 0,iZ 0,iZ 0]) 4 32 Tryz.underlying23 hiI hI0 hI1 hI2 rfl (by decide) (.slice aC m cC) m (cd.flatMap MI.cells) (by simp[Act.eval]) OA.o ⟨UD.heap.size,0,none⟩ 1 1 [iZ 29,iZ 0,iZ 0,iZ 0] (by simp[Act.eval]) rfl (Bn UD [iZ 29,iZ 0,iZ 0,iZ 0] 43) (Dx [⟨29,0,0,0⟩]) (by omega) (by simp[maxLen];omega) (by omega) EA.o.size _ rfl ?_;intro gg cap u8 hown hgrow hat _;have D4:=Ah (EA.o.push_n [(⟨29,0,0,0⟩:MI)] (sG gg (m+1) cap) (by rw[HM.o];exact hown) hgrow (BH hat));obtain⟨hS1,⟨c0,hS2⟩,hS3⟩:=D4.o.code_at HY.o (by rw[HQ.o.len]) HQ.o (by rw[aG,HM.o];simp;omega) (fun x hx=>by rcases aS.1 hx with e|e;exact HW.o x e;rw[am.1 e];exact⟨Ag (z:=29) (by decide) (by decide),Ag (z:=0) (by decide) (by decide),Ag (z:=0) (by decide) (by decide),Ag (z:=0) (by decide) (by decide)⟩);have HS1:Hid _:=hS1;clear hown hgrow hat OA hS1
       refine hKC.o _ _ (by exact(D4.o.four (P:=X) (v:=⟨.slice a1 F.length c1,.slice a2 cs.length c2,sG gf n c3,.slice aV zs.length cV⟩) (As (by simp))).1.2.2.1) (fun hHeld=> ?_);clear hKC KC;refine Ak 7 ?_;refine Ak 8 ?_;refine rdH 9 ?_;intro KC hKC;go_simp;refine hKC.o _ _ (by obtain⟨G2,hG2,_⟩:=HS1.o;exact(hG2.four (P:=X) (v:=⟨.slice a1 F.length c1,.slice a2 cs.length c2,sG gf n c3,.slice aV zs.length cV⟩) (As (by simp))).1.2.2.1) (fun hHeld=> ?_);clear hKC KC;refine wpAnyH_done (by kernel_rfl) ?_ _;clear hHeld hS2 hS3 D4 EA ED;go_simp;generalize u8.setCell ⟨gf,j*4+3,none⟩ (sG gg (m+1) cap)=W9 at HS1⊢;go_wp2_with fail;go_roundw
       case rel=>exact⟨j+1,by omega,by omega,by go_num,HS1⟩
       case measure=>simp[intOf];omega
     have t2':(rs != 0)=true:=by simpa using t2
     by_cases t3:m=0;rotate_left
     . have t3':((m:Int)==0)=false:=by rw[cT];omega
       clear t3;skip
       go_upto_region 17 with fail
       clear k1;have ED:=Ah (E10.o.keep (Ad _));refine wp_region_held_drew (S:=fun W=>W.cell? ⟨X,2,none⟩=some (sG gf n c3)) (by kernel_rfl) (by exact(ED.o.four (P:=X) (v:=⟨.slice a1 F.length c1,.slice a2 cs.length c2,sG gf n c3,.slice aV zs.length cV⟩) (As (by simp))).1.2.2.1) (fun hHeld=> ?_);clear E10 k2 r1;generalize wr.drew=UD at ED hHeld⊢;refine Ak 0 ?_;refine Ak 1 ?_;refine Ak 2 ?_;refine Ak 3 ?_;refine Ak 4 ?_;refine rdH 5 ?_;intro KC hKC;go_simp;have EA:Hid (Bs w (UD.alloc (.cells #[iZ 29,iZ 0,iZ 0,iZ 0] 43)) s p (Ae ⟨.slice a1 F.length c1,.slice a2 cs.length c2,sG gf n c3,.slice aV zs.length cV⟩ F cs G' zs (AK (.slice aC m cC) cd::gb X ⟨.slice a1 F.length c1,.slice a2 cs.length c2,sG gf n c3,.slice aV zs.length cV⟩::gb (X+1) vN::D))):=ED.o.keep (Aa _ _);have OA:Hid ((UD.alloc (.cells #[iZ 29,iZ 0,iZ 0,iZ 0] 43)).ownsRow w.heap.size 43 4 (.slice aC m cC) m (cd.flatMap MI.cells)):=by have:=EA.o.nrow.2;rw[HM.o]at this;exact this
       refine hKC.o _ _ (by exact(EA.o.four (P:=X) (v:=⟨.slice a1 F.length c1,.slice a2 cs.length c2,sG gf n c3,.slice aV zs.length cV⟩) (As (by simp))).1.2.2.1) (fun hHeld=> ?_);clear hKC KC;refine rdH 6 ?_;intro KC hKC;refine step_append_lies _ rfl (.tmp 83) (.tmp 85) 23 rfl w.heap.size 43 iI (.agg #[iZ 0,iZ 0,iZ 0,iZ 0]) 4 32 Tryz.underlying23 hiI hI0 hI1 hI2 rfl (by decide) (.slice aC m cC) m (cd.flatMap MI.cells) (by simp[Act.eval]) OA.o ⟨UD.heap.size,0,none⟩ 1 1 [iZ 29,iZ 0,iZ 0,iZ 0] (by simp[Act.eval]) rfl (Bn UD [iZ 29,iZ 0,iZ 0,iZ 0] 43) (Dx [⟨29,0,0,0⟩]) (by omega) (by simp[maxLen];omega) (by omega) EA.o.size _ rfl ?_;intro gg cap u8 hown hgrow hat _;have D4:=Ah (EA.o.push_n [(⟨29,0,0,0⟩:MI)] (sG gg (m+1) cap) (by rw[HM.o];exact hown) hgrow (BH hat));obtain⟨hS1,⟨c0,hS2⟩,hS3⟩:=D4.o.code_at HY.o (by rw[HQ.o.len]) HQ.o (by rw[aG,HM.o];simp;omega) (fun x hx=>by rcases aS.1 hx with e|e;exact HW.o x e;rw[am.1 e];exact⟨Ag (z:=29) (by decide) (by decide),Ag (z:=0) (by decide) (by decide),Ag (z:=0) (by decide) (by decide),Ag (z:=0) (by decide) (by decide)⟩);have HS1:Hid _:=hS1;clear hown hgrow hat OA hS1
       refine hKC.o _ _ (by exact(D4.o.four (P:=X) (v:=⟨.slice a1 F.length c1,.slice a2 cs.length c2,sG gf n c3,.slice aV zs.length cV⟩) (As (by simp))).1.2.2.1) (fun hHeld=> ?_);clear hKC KC;refine Ak 7 ?_;refine Ak 8 ?_;refine rdH 9 ?_;intro KC hKC;go_simp;refine hKC.o _ _ (by obtain⟨G2,hG2,_⟩:=HS1.o;exact(hG2.four (P:=X) (v:=⟨.slice a1 F.length c1,.slice a2 cs.length c2,sG gf n c3,.slice aV zs.length cV⟩) (As (by simp))).1.2.2.1) (fun hHeld=> ?_);clear hKC KC;refine wpAnyH_done (by kernel_rfl) ?_ _;clear hHeld hS2 hS3 D4 EA ED;go_simp;generalize u8.setCell ⟨gf,j*4+3,none⟩ (sG gg (m+1) cap)=W9 at HS1⊢;go_wp2_with fail;go_roundw
       case rel=>exact⟨j+1,by omega,by omega,by go_num,HS1⟩
       case measure=>simp[intOf];omega
     have t3':((m:Int)==0)=true:=by rw[beq_iff_eq];omega
     have HM0:=Ah t3;clear t3;obtain⟨x,hx⟩:∃x,cs[q]?=some x:=⟨_,aA t1⟩;obtain⟨gk,ck,ek,x0,_⟩:=E10.o.kt hx;simp only[aI,bU]at ek;obtain⟨rfl,rfl⟩:=ek;generalize x.type=ty at x0;clear hx;go_upto_region 15 with fail
     have ED:=Ah (E10.o.keep (Ad _));refine wp_region_held_drew (S:=fun W=>W.cell? ⟨X,1,none⟩=some (sG gk cs.length c2)/\W.cell? ⟨gk,q*2,none⟩=some (iZ ty)/\W.cell? ⟨X,2,none⟩=some (sG gf n c3)/\W.cell? ⟨gf,j*4+1,none⟩=some (iZ rs)) (by kernel_rfl) (by exact⟨k1,x0,k2,r1⟩) (fun hHeld=> ?_)
     clear k1 x0 k2 r1 E10;generalize wr.drew=UD at ED hHeld⊢;refine Ak 0 ?_;refine Ak 1 ?_;refine Ak 2 ?_;refine Ak 3 ?_;refine Ak 4 ?_;refine Ak 5 ?_;refine Ak 6 ?_;refine Ak 7 ?_;refine Ak 8 ?_;refine Ak 9 ?_;refine Ak 10 ?_;refine Ak 11 ?_;refine Ak 12 ?_;refine wpAnyH_done (by kernel_rfl) ?_ _;clear hHeld;go_simp;cases htr:(ty==rs)
     case false=>
      go_wp2_with fail
      go_roundw
      case rel=>exact⟨q+1,m,aC,cC,cd,by omega,by show _=_;rfl,by go_num,by omega,HM.o,ED.o,HW.o⟩
      case measure=>simp[intOf];omega
     case true=>
      have EA:Hid (Bs w (UD.alloc (.cells #[iZ 1,iZ (q:Int),iZ 0,iZ 0] 43)) s p (Ae ⟨.slice a1 F.length c1,sG gk cs.length c2,sG gf n c3,.slice aV zs.length cV⟩ F cs G' zs (AK (.slice aC m cC) cd::gb X ⟨.slice a1 F.length c1,sG gk cs.length c2,sG gf n c3,.slice aV zs.length cV⟩::gb (X+1) vN::D))):=ED.o.keep (Aa _ _);have OA:Hid ((UD.alloc (.cells #[iZ 1,iZ (q:Int),iZ 0,iZ 0] 43)).ownsRow w.heap.size 43 4 (.slice aC m cC) m (cd.flatMap MI.cells)):=by have:=EA.o.nrow.2;rw[HM.o]at this;exact this
      go_wp2_with (first|(at_builtin;refine wpList_append_lies _ rfl _ _ 23 rfl w.heap.size 43 iI (.agg #[iZ 0,iZ 0,iZ 0,iZ 0]) 4 32 Tryz.underlying23 hiI hI0 hI1 hI2 rfl (by decide) (.slice aC m cC) m (cd.flatMap MI.cells) rfl OA.o ⟨UD.heap.size,0,none⟩ 1 1 [iZ 1,iZ (q:Int),iZ 0,iZ 0] rfl rfl (Bn UD _ _) (Dx [⟨1,(q:Int),0,0⟩]) (by omega) (by simp[maxLen];omega) (by omega) EA.o.size _ rfl ?_;intro g5 cap5 w5 hown5 hgrow5 hat5 hlt5;have E11:Hid (Bs w w5 s p (Ae ⟨.slice a1 F.length c1,sG gk cs.length c2,sG gf n c3,.slice aV zs.length cV⟩ F cs G' zs (AK (sG g5 (m+1) cap5) (cd++[(⟨1,(q:Int),0,0⟩:MI)])::gb X ⟨.slice a1 F.length c1,sG gk cs.length c2,sG gf n c3,.slice aV zs.length cV⟩::gb (X+1) vN::D))):=EA.o.push_n [(⟨1,(q:Int),0,0⟩:MI)] _ (by rw[HM.o];exact hown5) hgrow5 (BH hat5);clear hown5 hgrow5 hat5 hlt5)|go_in)
      clear EA OA ED;have hml:(cd++[(⟨1,(q:Int),0,0⟩:MI)]).length=m+1:=by rw[aG,HM.o];rfl
      go_roundw
      case rel=>exact⟨q+1,m+1,some ⟨g5,0,none⟩,cap5,cd++[(⟨1,(q:Int),0,0⟩:MI)],by omega,by show _=_;rfl,by go_num,by have:=HM0.o;omega,hml,E11.o,fun x hx=>by rcases aS.1 hx with e|e;exact HW.o x e;rw[am.1 e];exact⟨Ag (z:=1) (by decide) (by decide),Ag (z:=(q:Int)) (by omega) (by omega),Ag (z:=0) (by decide) (by decide),Ag (z:=0) (by decide) (by decide)⟩⟩
      case measure=>simp[intOf];omega
end Go.Proofs.YtjpobijiblcgaaaGreat
