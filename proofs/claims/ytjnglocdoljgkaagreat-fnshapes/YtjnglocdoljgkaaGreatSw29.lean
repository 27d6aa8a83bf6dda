import Derived.Test.YtjnglocdoljgkaaGreatSw27
namespace Go.Proofs.YtjnglocdoljgkaaGreat
open Go.ChangeShapes Go.WideShapes Go.ChangeAt Go.RowKit
set_option linter.unusedVariables false
open Go.Value renaming slice → Z,int → Ac
open Option renaming some → K,none → M
open Go renaming Value → J,World → Y,Calls → Ae
open Go.RowKit renaming Hid → Aa,Below → Ad
open Go.IntKind renaming i64 → Ab
set_option maxHeartbeats 16000000
set_option maxRecDepth 100000
variable {x:MT}{m:MB}{j n e b g:Nat}{f:MF}{sh:List Int}{Q:List Int->Prop}{E:Nat->List Nat}{O:List Nat}{V:J}{r:Fy}
theorem Bl{L M:List AB}(h:∀(inst:DecidableEq AB) (x:AB),List.count x L=List.count x M):L.Perm M:=by
 classical
 rw[oW];exact h inferInstance
section
variable {w u:Y} {s:Ci} {p:Int} {v:VP} {F:List (List Int×J)} {cs:List MC} {G:List (MF×VF)} {ts:List MT} {D:List AB}
theorem Bs.ct(h:Bs w u s p (Al v F cs G ts D)){q:Nat}(f:ts[q]?=K x):∃gt ct,v.t=sG gt ts ct/\u.cell? ⟨gt,q*4,M⟩=K (iZ x.func)/\u.cell? ⟨gt,q*4+1,M⟩=K (iZ x.head)/\u.cell? ⟨gt,q*4+2,M⟩=K (iZ x.gQ)/\u.cell? ⟨gt,q*4+3,M⟩=K (Ac .u32 x.init):=by
 have k:=(iV.1 f).1;have b:=h.gY.2.2.2.2;rcases Bz b with⟨e,i⟩|⟨gt,ct,e⟩
 . omega
 rw[e]at b;have a:∀j,j<4->u.cell? ⟨gt,q*4+j,M⟩=x.cells[j]?:= λj g=>by rw[lV b (q*4+j) oM,Cr MT.cells 4 MT.gH ts q j x f g]
 exact⟨gt,ct,e,a 0 oM,a 1 oM,a 2 oM,a 3 oM⟩
end
theorem Bs.jH{w u:Y}{s:Ci}{p:Int}{v:VP}{F:List (List Int×J)}{cs:List MC}{G:List (MF×VF)}{ts:List MT}{X:AB}{D:List AB}{m:J}{code:List MI}{gf cf:Nat}{y:MF×VF}(h:Bs w u s p (Al v F cs G ts (BI m code::X::D)))(b:G[j]?=K y)(z:v.f=sG gf G cf)(t:GQ F e n n G)(r:UH F e n ⟨y.1.d5,y.1.gz,y.1.en,code⟩)(A:0<j):(∃a,Bs w (u.setCell ⟨gf,j*4+3,M⟩ m) s p (Al v F cs a ts (X::D))/\GQ F e n n a/\a[0]?=G[0]?)/\(∃c0,u.cell? ⟨gf,j*4+3,M⟩=K c0)/\u.frozen? ⟨gf,j*4+3,M⟩=false:=by obtain⟨f,C,B,c0⟩:=y;obtain⟨l,q⟩:=Ul b;rw[l]at h;obtain⟨g,i,k⟩:=h.jr (by rw[z,<-l]);rw[q]at g i k;exact⟨⟨_,g,t.set lR b r (.inl lR),by rw[NC (iV.1 b).1,lE oM]⟩,⟨_,i⟩,k⟩
def Ym(b:Nat)(a:List MI):Prop:=a=[]\/∃q:Nat,q<b/\a=[⟨1,(q:Int),0,0⟩]
theorem Ym.ok{F:List (List Int×J)}{e:List MI}(h:Ym b e)(g:b<=64):UH F b n ⟨f.d5,f.gz,f.en,e++[⟨29,0,0,0⟩]⟩:=by
 rcases h with rfl|⟨q,i,rfl⟩
 . refine⟨sP,sP, λx a=> ?_⟩;(obtain rfl:x=⟨29,0,0,0⟩:=by simpa using a);exact SX oM oM oM oM
 refine⟨sP,sP, λx a=> ?_⟩;obtain rfl|rfl:x=⟨1,(q:Int),0,0⟩\/x=⟨29,0,0,0⟩:=by simpa using a
 all_goals exact SX oM oM oM oM
theorem Sd{ts:List MT}{q:MT->Bool}(b:ts[j]?=K x):(ts.take (j+1)).filter q=(ts.take j).filter q++(if q x then[x]else[]):=by obtain⟨a,rfl⟩:=iV.1 b;rw[lH a,mr];simp only[nY,oC]
theorem KQ.short{G a:List (MF×VF)}{cs:List MC}{ts:List MT}(h:KQ n G cs ts)(f:a[0]?=G[0]?)(m:0<n):KQ n a cs (ts.filter λc=>c.func==0):=
 ⟨h.cl,h.cw,h.bk,kT (mc _ _) h.tl, λx g=>by
  obtain⟨h1,h2⟩:=nj.1 g;obtain⟨i,j,k,y,b,l⟩:=h.tw x h1;have e:x.func.toNat=0:=by simp at h2;omega
  rw[e]at b;exact⟨i,j,k,y,by rw[e,f];exact b,l⟩,h.ri.sublist List.filter_sublist⟩
theorem QE(l:List MT):∀u∈l.flatMap MT.cells,u.oneCell'=true:= λu b=>by obtain⟨x,_,a⟩:=mN.1 b;simp only[MT.cells,lA,lW,mZ]at a;rcases a with rfl|rfl|rfl|rfl<;>rfl
def Xy(w:Y)(s:Ci)(p:Int)(F:List (List Int×J))(cs:List MC)(n:Nat)(D:List AB)(e:Ending)(g:Y):Prop:=∃v' a b,e=.returned (.agg #[v'.r,v'.k,v'.f,v'.t])/\Bs w g s p (Al v' F cs a b D)/\GQ F cs n n a/\KQ n a cs b
theorem Nu(w u:Y)(s:Ci)(p:Int)(v:VP)(F:List (List Int×J))(cs:List MC)(G:List (MF×VF))(ts:List MT)(D:List AB)(n:Nat)(h:Bs w u s p (Al v F cs G ts D))(hG:GQ F cs n n G)(hK:KQ n G cs ts)(hn:0<n/\n<=32):
 Ae Tryz.prog 50 #[.agg #[v.r,v.k,v.f,v.t]] u (Xy w s p F cs n D):=by
 have aP:=hK.cl;have bY:=hK.tl;obtain⟨iT,bu,bq,br,bt⟩:=lU Rn;obtain⟨iI,aS,aG,aH,aI⟩:=lU Rm;obtain⟨⟨a,c1,g,c2,l,c3,E,c4,ev⟩,_⟩:=h.gY;subst ev;have HG:=Ap (ji hG hK);obtain⟨X,hX⟩:∃X,u.heap.size=X:=⟨_,rfl⟩;have E0:Aa (Bs w ((u.alloc (.cells #[Z a F.length c1,Z g cs.length c2,Z l G.length c3,Z E ts.length c4] 28)).alloc (.cells #[sN,sN,sN,sN] 28)) s p (Al ⟨Z a F.length c1,Z g cs.length c2,Z l G.length c3,Z E ts.length c4⟩ F cs G ts (gb X ⟨Z a F.length c1,Z g cs.length c2,Z l G.length c3,Z E ts.length c4⟩::gb (X+1) vN::D))):=by have h1:=(h.box 28 4 [Z a F.length c1,Z g cs.length c2,Z l G.length c3,Z E ts.length c4] rfl).box 28 4 [sN,sN,sN,sN] rfl;rw[nX,hX]at h1;exact h1.perm (Bl λ_ x=>by simp only[Al,gb,li,lp,mJ];omega)
 clear h hG hK;go_enter Tryz.func50,Tryz.ntmps50;go_upto_region 1 with fail
 clear hX;refine An (λU=>Aa (Bs w U s p (Al ⟨Z a F c1,Z g cs c2,Z l G c3,Z E ts c4⟩ F cs G ts (gb X ⟨Z a F c1,Z g cs c2,Z l G c3,Z E ts c4⟩::gb (X+1) vN::D)))) E0 ?_;clear E0;rintro U0 E0;have E1:Aa (Bs w (U0.alloc (.cells #[] 121)) s p (Al ⟨Z a F c1,Z g cs c2,Z l G c3,Z E ts c4⟩ F cs G ts (CN (sG U0 0 0) []::gb X ⟨Z a F c1,Z g cs c2,Z l G c3,Z E ts c4⟩::gb (X+1) vN::D))):=(E0.o.row (Ag _ _) (r:=CN (sG U0 0 0) []) (CM U0 121 4)).perm (Bl λ_ x=>by simp only[Al,gb,li,lp,mJ];omega);go_wp2_with fail;clear E0;go_loopw [3,4] (λV i wr=>∃(j:Nat) (b:Option Addr) (cV:Nat) (zs:List MT),j<= ↑ts/\V=Z b zs cV/\i=iZ j/\ ↑zs<=j/\Aa (Bs w wr s p (Al ⟨Z a F c1,Z g cs c2,Z l G c3,Z E ts c4⟩ F cs G ts (CN (Z b zs cV) zs::gb X ⟨Z a F c1,Z g cs c2,Z l G c3,Z E ts c4⟩::gb (X+1) vN::D))/\zs=(ts.take j).filter λc=>c.func==0)) (λ_ i _=> ↑ts-(intOf i).toNat)
 case atStart=>exact⟨0,_,_,[],oM,rfl,rfl,sP,E1.o,rfl⟩
 clear E1;obtain⟨j,b,cV,zs,hj,rfl,rfl,aW,E2⟩:=hrel;have k3:=(E2.o.1.four (AQ (show gb X ⟨Z a F c1,Z g cs c2,Z l G c3,Z E ts c4⟩∈_ from sP))).1.2.2.2;simp only[]at k3;have HZ:=Ap E2.o.2;have T:=Ap E2.o.1;clear E2;by_cases au:j< ↑ts
 case pos=>
  have aT:(j:Int)<(ts:Int):=oM;obtain⟨x,hx⟩:∃x,ts[j]?=K x:=⟨_,an au⟩;obtain⟨gt,ct,et,x0,x1,x2,x3⟩:=T.o.ct hx;simp only[jc,lO]at et;obtain⟨rfl,rfl⟩:=et;have HX:=Ap (Sd (q:= λc=>c.func==0) hx);clear hx;cases hf0:(x.func==0)
  case false=>go_wp2_with fail;go_roundw;(case rel=>exact⟨j+1,b,cV,zs,oM,rfl,by go_num,oM,T.o,by rw[HX.o,hf0,<-HZ.o];simp⟩);exact oI
  case true=>
   have z:Aa (Bs w (wr.alloc (.cells #[iZ x.func,iZ x.head,iZ x.gQ,Ac .u32 x.init] 121)) s p (Al ⟨Z a F c1,Z g cs c2,Z l G c3,sG gt ts c4⟩ F cs G ts (CN (Z b zs cV) zs::gb X ⟨Z a F c1,Z g cs c2,Z l G c3,sG gt ts c4⟩::gb (X+1) vN::D))):=T.o.bM (Ag _ _);have Q:Aa ((wr.alloc (.cells #[iZ x.func,iZ x.head,iZ x.gQ,Ac .u32 x.init] 121)).ownsRow w 121 4 (Z b zs cV) zs (zs.flatMap MT.cells)):=z.o.sep.own (CN (Z b zs cV) zs) (AQ sP);generalize hm:zs.length=m at aW z Q T⊢;have H:Aa (↑zs=m):=hm
   clear hm;go_wp2_with (first|(at_builtin;refine wpList_append_lies _ rfl _ _ 26 rfl w 121 iT (.agg #[iZ 0,iZ 0,iZ 0,Ac .u32 0]) 4 32 Tryz.underlying26 bu bq br bt rfl dC (Z b m cV) m (zs.flatMap MT.cells) rfl Q.o wr 1 1 [iZ x.func,iZ x.head,iZ x.gQ,Ac .u32 x.init] rfl rfl (Dw wr _ _) (QE [x]) oM oX oM z.o.size _ rfl ?_;intro g5 aj w5 aq ao am aD;have h1:=z.o;rw[De]at h1;have h2:=Bs.gX (A:=Al ⟨Z a F c1,Z g cs c2,Z l G c3,sG gt ts c4⟩ F cs G ts []) h1 (CN (sG g5 (m+1) aj) (zs++[x])) (by have e:(zs++[x]).length=m+1:=(by rw[kJ,H.o];rfl);show w5.ownsRow _ _ _ _ (zs++[x]).length ((zs++[x]).flatMap MT.cells);rw[e,lJ];exact aq) ao (D3 am);rw[<-De]at h2;have E5:Aa _:=h2;clear h1 h2 aq ao am aD)|go_in);(have aw:(zs++[x]).length=m+1:=by rw[kJ,H.o];rfl);clear z Q T x0 x1 x2 x3 k3;go_roundw;(case rel=>exact⟨j+1,K g5,aj,zs++[x],oM,by rw[aw],by go_num,oM,by rw[aw];exact E5.o,by rw[HX.o,hf0,<-HZ.o];rfl⟩);exact oI
 case neg=>
  have E4:Aa (Bs w (wr.setCell ⟨X,3,M⟩ (Z b zs cV)) s p (Al ⟨Z a F c1,Z g cs c2,Z l G c3,Z b zs cV⟩ F cs G zs (gb X ⟨Z a F c1,Z g cs c2,Z l G c3,Z b zs cV⟩::gb (X+1) vN::D))):=by have h1:=Bs.gZ (D:=[CN (Z b zs cV) zs]) T.o 3 oM (Z b zs cV);have h2:Bs w (wr.setCell ⟨X,3,M⟩ (Z b zs cV)) s p (Al ⟨Z a F c1,Z g cs c2,Z l G c3,Z b zs cV⟩ F cs G zs (gb X ⟨Z a F c1,Z g cs c2,Z l G c3,Z b zs cV⟩::gb (X+1) vN::D)++[CN (Z E ts c4) ts]):=h1.perm (Bl λ_ x=>by simp only[Al,gb,lM,lI,lF,lg,li,lp,mJ];omega);exact h2.sub (nB _ _)
  have z3:=(T.o.four (AQ (show gb X ⟨Z a F c1,Z g cs c2,Z l G c3,Z E ts c4⟩∈_ from sP))).2.2.2.2;have bZ:zs.length<=64:=oM;go_upto_region 8 with fail
  clear T k3 z3 aW;have aY:Aa (zs=ts.filter λc=>c.func==0):=by have:=HZ.o;rw[lu oM]at this;exact this
  clear HZ hj au;refine An (λU=>Aa (Bs w U s p (Al ⟨Z a F c1,Z g cs c2,Z l G c3,Z b zs cV⟩ F cs G zs (gb X ⟨Z a F c1,Z g cs c2,Z l G c3,Z b zs cV⟩::gb (X+1) vN::D)))) E4 ?_;clear E4;rintro U5 E5;have E6:Aa (Bs w U5 s p (Al ⟨Z a F c1,Z g cs c2,Z l n c3,Z b zs cV⟩ F cs G zs (gb X ⟨Z a F c1,Z g cs c2,Z l n c3,Z b zs cV⟩::gb (X+1) vN::D))/\GQ F cs n n G):=⟨by have:=E5.o;rw[HG.o.1.len]at this;exact this,HG.o.1⟩
  clear E5;have bX:1<=n+1:=oM;go_wp2_with fail;go_loopw [5,6,7] (λi _ _ wr=>∃j:Nat,1<=j/\j<=n+1/\i=iZ j/\Aa (∃B,Bs w wr s p (Al ⟨Z a F c1,Z g cs c2,Z l n c3,Z b zs cV⟩ F cs B zs (gb X ⟨Z a F c1,Z g cs c2,Z l n c3,Z b zs cV⟩::gb (X+1) vN::D))/\GQ F cs n n B/\B[0]?=G[0]?)) (λi _ _ _=>n+1-(intOf i).toNat)
  case atStart=>exact⟨1,oM,oM,rfl,G,E6.o.1,E6.o.2,rfl⟩
  clear E6;obtain⟨j,bV,hj,rfl,E7⟩:=hrel;obtain⟨B,hb,hq,aQ⟩:=E7.o;have N:Aa (Bs w wr s p (Al ⟨Z a F c1,Z g cs c2,Z l n c3,Z b zs cV⟩ F cs B zs (gb X ⟨Z a F c1,Z g cs c2,Z l n c3,Z b zs cV⟩::gb (X+1) vN::D))/\GQ F cs n n B):=⟨hb,hq⟩
  have H0:=Ap aQ;clear hb hq E7 aQ;obtain⟨⟨k0,k1,k2,k3⟩,_⟩:=N.o.1.four (AQ (show gb X ⟨Z a F c1,Z g cs c2,Z l n c3,Z b zs cV⟩∈_ from sP));simp only[]at k0 k1 k2 k3;by_cases au:j<n;case neg=>
   have aT:¬(j:Int)<(n:Int):=oM;obtain⟨⟨a0,aZ,bf,bg⟩,bL,bO,bP,bQ⟩:=N.o.1.four (P:=X+1) (v:=vN) (AQ (show gb (X+1) vN∈_ from sP));simp only[]at a0 aZ bf bg;have E9:Aa (Bs w ((((wr.setCell ⟨X+1,0,M⟩ (Z a F c1)).setCell ⟨X+1,1,M⟩ (Z g cs c2)).setCell ⟨X+1,2,M⟩ (Z l n c3)).setCell ⟨X+1,3,M⟩ (Z b zs cV)) s p (Al ⟨Z a F c1,Z g cs c2,Z l n c3,Z b zs cV⟩ F cs B zs (gb X ⟨Z a F c1,Z g cs c2,Z l n c3,Z b zs cV⟩::gb (X+1) ⟨Z a F c1,Z g cs c2,Z l n c3,Z b zs cV⟩::D))):=Bs.gZ (D:=[gb X ⟨Z a F c1,Z g cs c2,Z l n c3,Z b zs cV⟩]) (Bs.gZ (D:=[gb X ⟨Z a F c1,Z g cs c2,Z l n c3,Z b zs cV⟩]) (Bs.gZ (D:=[gb X ⟨Z a F c1,Z g cs c2,Z l n c3,Z b zs cV⟩]) (Bs.gZ (D:=[gb X ⟨Z a F c1,Z g cs c2,Z l n c3,Z b zs cV⟩]) N.o.1 0 oM (Z a F c1)) 1 oM (Z g cs c2)) 2 oM (Z l n c3)) 3 oM (Z b zs cV);obtain⟨⟨d0,d1,d2,d3⟩,_⟩:=E9.o.four (P:=X+1) (v:=⟨Z a F c1,Z g cs c2,Z l n c3,Z b zs cV⟩) (AQ sP);simp only[]at d0 d1 d2 d3;(have EF:Aa (Bs w ((((wr.setCell ⟨X+1,0,M⟩ (Z a F c1)).setCell ⟨X+1,1,M⟩ (Z g cs c2)).setCell ⟨X+1,2,M⟩ (Z l n c3)).setCell ⟨X+1,3,M⟩ (Z b zs cV)) s p (Al ⟨Z a F c1,Z g cs c2,Z l n c3,Z b zs cV⟩ F cs B zs D)):=by have h2:Bs w _ s p (Al ⟨Z a F c1,Z g cs c2,Z l n c3,Z b zs cV⟩ F cs B zs D++[gb X ⟨Z a F c1,Z g cs c2,Z l n c3,Z b zs cV⟩,gb (X+1) ⟨Z a F c1,Z g cs c2,Z l n c3,Z b zs cV⟩]):=E9.o.perm (Bl λ_ x=>by simp only[Al,gb,li,lp,mJ];omega);exact h2.sub (nB _ _));clear E9;go_wp2_with fail
   exact kY (v:=.agg #[Z a F c1,Z g cs c2,Z l n c3,Z b zs cV]) (by simp[results,Tryz.results50,go_sem,d0,d1,d2,d3]) rfl ⟨⟨Z a F c1,Z g cs c2,Z l n c3,Z b zs cV⟩,B,zs,rfl,EF.o,N.o.2,by rw[aY.o];exact HG.o.2.short H0.o hn.1⟩
  have aT:(j:Int)<(n:Int):=oM;obtain⟨y,hy⟩:∃y,B[j]?=K y:=⟨_,an (by rw[N.o.2.len];exact au)⟩;have HY:=Ap hy;have bT:=aP;have EC:Aa (Bs w (wr.alloc (.cells #[] 60)) s p (Al ⟨Z a F c1,Z g cs c2,Z l n c3,Z b zs cV⟩ F cs B zs (BI (sG wr 0 0) []::gb X ⟨Z a F c1,Z g cs c2,Z l n c3,Z b zs cV⟩::gb (X+1) vN::D))):=(N.o.1.row (Ag _ _) (r:=BI (sG wr 0 0) []) (CM wr 60 4)).perm (Bl λ_ x=>by simp only[Al,li,lp,mJ];omega);have HQ:=Ap N.o.2;obtain⟨gf,cf,ap,cp,al,cl,ac,cc,e1,_,_,_,_,_⟩:=N.o.1.fn hy;simp only[jc]at e1;obtain⟨rfl,aE,rfl⟩:=e1;clear aE;clear hy N k0 k1 k3;go_wp2_with fail;clear k2;go_loopw [6,7] (λV i wr=>∃(q m:Nat) (I:Option Addr) (L:Nat) (C:List MI),q<= ↑cs/\Aa (V=Z I m L)/\i=iZ q/\m<=1/\Aa (↑C=m/\Bs w wr s p (Al ⟨Z a F c1,Z g cs c2,sG gf n c3,Z b zs cV⟩ F cs B zs (BI (Z I m L) C::gb X ⟨Z a F c1,Z g cs c2,sG gf n c3,Z b zs cV⟩::gb (X+1) vN::D))/\Ym cs C)) (λ_ i _=> ↑cs-(intOf i).toNat)
  case atStart=>exact⟨0,0,K wr,0,[],oM,by show _=_;rfl,rfl,oM,rfl,EC.o,.inl rfl⟩
  clear EC;obtain⟨q,m,I,L,C,hq,HV,rfl,bS,E9⟩:=hrel;have hV:=HV.o;subst hV;clear HV;have HW:=Ap E9.o.2.2;have H:=Ap E9.o.1;have ah:=Ap E9.o.2.1;clear E9;obtain⟨⟨_,k1,k2,_⟩,_⟩:=ah.o.four (AQ (show gb X ⟨Z a F c1,Z g cs c2,sG gf n c3,Z b zs cV⟩∈_ from sP));simp only[]at k1 k2;obtain⟨bR,bI,bG,bK,bF,bJ,bC,bH,e1,_,⟨_,r1,_,_⟩,_,_,_⟩:=ah.o.fn HY.o;simp only[jc,kK,mA,mg]at e1;obtain⟨rfl,aE,rfl⟩:=e1;clear aE;generalize y.1.gz=rs at r1;by_cases t1:q< ↑cs
  case' neg=>have bz:¬(q:Int)<(cs:Int):=oM
  case' pos=>
   have bz:(q:Int)<(cs:Int):=oM;by_cases t2:rs=0;(case' pos=>subst t2);case' neg=>
    (have ce:(rs != 0)=true:=by simpa using t2);by_cases t3:m=0;(case' neg=>(have bB:((m:Int)==0)=false:=by rw[nD];omega);clear t3);case' pos=>
     (have bB:((m:Int)==0)=true:=by rw[beq_iff_eq];omega);have aF:=Ap t3;clear t3;obtain⟨x,hx⟩:∃x,cs[q]?=K x:=⟨_,an t1⟩;obtain⟨gk,ck,ek,x0,_⟩:=ah.o.kt hx;simp only[jc,lO]at ek;obtain⟨rfl,rfl⟩:=ek;generalize x.type=ty at x0;clear hx;(go_upto_region 15 with fail);have O:=Ap (ah.o.bM (Aj _));refine wp_region_held_drew (S:= λW=>W.cell? ⟨X,1,M⟩=K (sG gk cs c2)/\W.cell? ⟨gk,q*2,M⟩=K (iZ ty)/\W.cell? ⟨X,2,M⟩=K (sG gf n c3)/\W.cell? ⟨gf,j*4+1,M⟩=K (iZ rs)) kR (by exact⟨k1,x0,k2,r1⟩) (λa8=> ?_)
     clear k1 x0 k2 r1 ah;generalize wr.drew=R at O a8⊢;refine AE 0 ?_;refine AE 1 ?_;refine AE 2 ?_;refine AE 3 ?_;refine AE 4 ?_;refine AE 5 ?_;refine AE 6 ?_;refine AE 7 ?_;refine AE 8 ?_;refine AE 9 ?_;refine AE 10 ?_;refine AE 11 ?_;refine AE 12 ?_;refine wpAnyH_done kR ?_ _;clear a8;go_simp;(cases htr:(ty==rs));case false=>go_wp2_with fail;go_roundw;(case rel=>exact⟨q+1,m,I,L,C,oM,by show _=_;rfl,by go_num,oM,H.o,O.o,HW.o⟩);exact oI
     case true=>have z:Aa (Bs w (R.alloc (.cells #[iZ 1,iZ (q:Int),iZ 0,iZ 0] 60)) s p (Al ⟨Z a F c1,sG gk cs c2,sG gf n c3,Z b zs cV⟩ F cs B zs (BI (Z I m L) C::gb X ⟨Z a F c1,sG gk cs c2,sG gf n c3,Z b zs cV⟩::gb (X+1) vN::D))):=O.o.bM (Ag _ _);(have Q:Aa ((R.alloc (.cells #[iZ 1,iZ (q:Int),iZ 0,iZ 0] 60)).ownsRow w 60 4 (Z I m L) m (C.flatMap MI.cells)):=by have:=z.o.ie.2;rw[H.o]at this;exact this);go_wp2_with (first|(at_builtin;refine wpList_append_lies _ rfl _ _ 49 rfl w 60 iI (.agg #[iZ 0,iZ 0,iZ 0,iZ 0]) 4 32 Tryz.underlying49 aS aG aH aI rfl dC (Z I m L) m (C.flatMap MI.cells) rfl Q.o R 1 1 [iZ 1,iZ (q:Int),iZ 0,iZ 0] rfl rfl (Dw R _ _) (JC [⟨1,(q:Int),0,0⟩]) oM (by simp[maxLen];omega) oM z.o.size _ rfl ?_;intro g5 aj w5 aq ao am aD;have aX:Aa (Bs w w5 s p (Al ⟨Z a F c1,sG gk cs c2,sG gf n c3,Z b zs cV⟩ F cs B zs (BI (sG g5 (m+1) aj) (C++[(⟨1,(q:Int),0,0⟩:MI)])::gb X ⟨Z a F c1,sG gk cs c2,sG gf n c3,Z b zs cV⟩::gb (X+1) vN::D))):=z.o.iH [(⟨1,(q:Int),0,0⟩:MI)] _ (by rw[H.o];exact aq) ao (D3 am);clear aq ao am aD)|go_in);clear z Q O;(have aw:(C++[(⟨1,(q:Int),0,0⟩:MI)]).length=m+1:=by rw[kJ,H.o];rfl);go_roundw;(case rel=>exact⟨q+1,m+1,K g5,aj,C++[(⟨1,(q:Int),0,0⟩:MI)],oM,by show _=_;rfl,by go_num,by have:=aF.o;omega,aw,aX.o,.inr ⟨q,t1,by rcases HW.o with e|⟨q',_,e⟩;rw[e];rfl;have h1:=H.o;have h2:=aF.o;rw[e]at h1;simp at h1;omega⟩⟩);exact oI
  all_goals
   (go_upto_region 17 with fail);clear k1;have O:=Ap (ah.o.bM (Aj _));refine wp_region_held_drew (S:= λW=>W.cell? ⟨X,2,M⟩=K (sG gf n c3)) kR (by exact(O.o.four (P:=X) (v:=⟨Z a F c1,Z g cs c2,sG gf n c3,Z b zs cV⟩) (AQ sP)).1.2.2.1) (λa8=> ?_);clear ah k2 r1;generalize wr.drew=R at O a8⊢;refine AE 0 ?_;refine AE 1 ?_;refine AE 2 ?_;refine AE 3 ?_;refine AE 4 ?_;refine rdH 5 ?_;intro KC ae;go_simp;have z:Aa (Bs w (R.alloc (.cells #[iZ 29,iZ 0,iZ 0,iZ 0] 60)) s p (Al ⟨Z a F c1,Z g cs c2,sG gf n c3,Z b zs cV⟩ F cs B zs (BI (Z I m L) C::gb X ⟨Z a F c1,Z g cs c2,sG gf n c3,Z b zs cV⟩::gb (X+1) vN::D))):=O.o.bM (Ag _ _);(have Q:Aa ((R.alloc (.cells #[iZ 29,iZ 0,iZ 0,iZ 0] 60)).ownsRow w 60 4 (Z I m L) m (C.flatMap MI.cells)):=by have:=z.o.ie.2;rw[H.o]at this;exact this);refine ae.o _ _ (by exact(z.o.four (P:=X) (v:=⟨Z a F c1,Z g cs c2,sG gf n c3,Z b zs cV⟩) (AQ sP)).1.2.2.1) (λa8=> ?_);clear ae KC;refine rdH 6 ?_;intro KC ae;refine step_append_lies _ rfl (.tmp 83) (.tmp 85) 49 rfl w 60 iI (.agg #[iZ 0,iZ 0,iZ 0,iZ 0]) 4 32 Tryz.underlying49 aS aG aH aI rfl dC (Z I m L) m (C.flatMap MI.cells) oE Q.o R 1 1 [iZ 29,iZ 0,iZ 0,iZ 0] oE rfl (Dw R [iZ 29,iZ 0,iZ 0,iZ 0] 60) (JC [⟨29,0,0,0⟩]) oM (by simp[maxLen];omega) oM z.o.size _ rfl ?_;intro gg cap u8 aU aR aM _;have D4:=Ap (z.o.iH [(⟨29,0,0,0⟩:MI)] (sG gg (m+1) cap) (by rw[H.o];exact aU) aR (D3 aM));obtain⟨aJ,⟨c0,bj⟩,bp⟩:=D4.o.jH HY.o (by rw[HQ.o.len]) HQ.o (HW.o.ok aP) oM;have aA:Aa _:=aJ;clear aU aR aM Q aJ;refine ae.o _ _ (by exact(D4.o.four (P:=X) (v:=⟨Z a F c1,Z g cs c2,sG gf n c3,Z b zs cV⟩) (AQ sP)).1.2.2.1) (λa8=> ?_)
   clear ae KC;refine AE 7 ?_;refine AE 8 ?_;refine rdH 9 ?_;intro KC ae;go_simp;refine ae.o _ _ (by obtain⟨G2,bi,_,_⟩:=aA.o;exact(bi.four (P:=X) (v:=⟨Z a F c1,Z g cs c2,sG gf n c3,Z b zs cV⟩) (AQ sP)).1.2.2.1) (λa8=> ?_);clear ae KC;refine wpAnyH_done kR ?_ _;clear a8 bj bp D4 z O;go_simp;generalize u8.setCell ⟨gf,j*4+3,M⟩ (sG gg (m+1) cap)=W9 at aA⊢;go_wp2_with fail;go_roundw;(case rel=>exact⟨j+1,oM,oM,by go_num,by obtain⟨G2,h1,h2,h3⟩:=aA.o;exact⟨G2,h1,h2,h3.trans H0.o⟩⟩);exact oI
theorem Tz{p:MP}{x:MI}(O:A8 p 0)(H:Cd f)(i:AK p f x):∀t∈Aw p f x,t=0\/DC t=true:=by
 have k:=O.parts;have one:∀t:Int,DC t=true->∀u∈[t],u=0\/DC u=true:= λt g u I=>by simp only[lT]at I;rw[I];exact .inr g
 unfold Aw;by_cases c1:x.op=1
 . rw[lS c1];obtain⟨q,z,j,b⟩:=i.const c1;have L:=k.2.1.2 q (iV.1 b).1 z b;(have e3:VN p.aC x.a.toNat=z:=by unfold VN;rw[j,kM,b];rfl);rw[e3];exact one _ L.1
 rw[lE c1];by_cases c2:x.op=2
 . rw[lS c2];obtain⟨q,_,b⟩:=i.local (.inl c2);refine one _ ?_;rcases kS.1 (i8 b)with h|h
   . exact nC.1 H.pt _ h
   exact nC.1 H.lt _ h
 rw[lE c2];by_cases c4:x.op=4\/x.op=6
 . rw[lS c4];obtain⟨q,z,r,j,b,e3,e4⟩:=i.cell k.1.1 oM;have:=(k.1.2 q (iV.1 e3).1 r e3).2;exact one _ (nC.1 this _ (i8 e4))
 rw[lE c4];by_cases F:8<=x.op/\x.op<=16
 . rw[lS F];exact one _ (i.type oM)
 rw[lE F];by_cases A:x.op=17\/x.op=18
 . rw[lS A];exact one _ dC
 rw[lE A];by_cases B:x.op=19
 . rw[lS B];exact one _ dC
 rw[lE B];by_cases C:x.op=20\/x.op=21
 . rw[lS C];exact one _ dC
 rw[lE C];by_cases l:x.op=22
 . rw[lS l];exact one _ (i.conv l).2
 rw[lE l];by_cases D:x.op=23
 . rw[lS D];intro t g;exact .inl (by simpa using g)
 rw[lE D];by_cases s:x.op=28
 . rw[lS s];obtain⟨q,G,j,b⟩:=i.callee s;have N:Cd G:=k.2.2.1.2.2.1 q (iV.1 b).1 G b;rw[j,kM,b];simp only[];unfold AV;rcases N.im with y|y
   . rw[lS y];exact λt g=>(by cases g)
   split
   . exact λt g=>(by cases g)
   exact one _ y
 rw[lE s];exact λt g=>(by cases g)
def RU(sh:List Int):Prop:=sh.all DC=true/\sh.length<=64
theorem Vx{p:MP}{x:MI}(m:A8 p 0)(q:Cd f)(n:AK p f x)(h:RU sh)(a:A6 p f x sh=0):RU (Bv p f x sh):=by
 unfold Bv A6 at*;by_cases i:x.op=29
 . rw[lS i];exact⟨rfl,sP⟩
 rw[lE i]at a⊢;refine⟨?_,G5 a⟩;have r:(Ax p f x).length<=sh.length:=by apply ly;intro s;unfold BJ at a;rw[lS oM]at a;cases a
 unfold BT;rw[List.all_append,nL];have j:=nC.1 h.1;refine⟨nC.2 λt e=>j t (m6 e),nC.2 λt e=> ?_⟩;obtain⟨g,k,rfl⟩:=lK.1 e;by_cases b:g=0
 . rw[lS b];have:=(Ja m n).1 g k b;(have l:Hf p f x sh<sh.length:=by unfold Hf;omega);rw[an l,nT];exact j _ (mW l)
 rw[lE b];exact(Tz m q n g k).resolve_left b
theorem Ud(p:MP)(f:MF)(t:∀(j:Nat) (x:MI) (sh:List Int),f.ch[j]?=K x->Q sh->A6 p f x sh=0->Q (Bv p f x sh))(c:Nat):∀(a:Nat) (sh:List Int) (T:Nat->List Int) (D:Nat) (g:List Int) (b:Nat->List Int) (i:Nat),a+c<= ↑f.ch->Q sh->Cv p f c a sh T D=.inr (g,b,i)->(∀j,j<a\/a+c<=j->b j=T j)/\D<=i/\(0<c->b a=sh)/\(c=0->g=sh)/\Q g/\
 ∀(j:Nat) (x:MI),a<=j->j<a+c->f.ch[j]?=K x->Q (b j)/\A6 p f x (b j)=0/\(Bv p f x (b j)).length<=i/\(j+1<a+c->b (j+1)=Bv p f x (b j))/\(j+1=a+c->g=Bv p f x (b j)):=by
 induction c with
 | zero=>intro a sh T D g b i u l h;simp only[Cv,Sum.inr.injEq,Prod.mk.injEq]at h;obtain⟨rfl,rfl,rfl⟩:=h;exact⟨λj _=>rfl,Nat.le_refl _, λh=>oM, λ_=>rfl,l, λj x h1 h2=>oM⟩
 | succ c C=>
   intro a sh T D g b i u l h;obtain⟨x,m⟩:∃x,f.ch[a]?=K x:=⟨_,an oM⟩;simp only[Cv,m]at h;by_cases k:A6 p f x sh=0
   . rw[lS k]at h;obtain⟨s,N,v,z,A,B⟩:=C (a+1) (Bv p f x sh) (CE T a sh) (max D (Bv p f x sh).length) g b i oM (t a x sh m l k) h;(have r:b a=sh:=by have:=s a (.inl oM);simpa only[CE,if_true]using this);refine⟨λj L=> ?_,oM, λ_=>r, λh=>oM,A, λj y O P n=> ?_⟩
     . have:=s j oM;simp only[CE]at this;rw[lE oM]at this;exact this
     by_cases e:j=a
     . subst e;rw[m]at n;obtain rfl:=kN n;rw[r];refine⟨l,k,oM, λq=>v oM, λq=>z oM⟩
     obtain⟨E,F,G,H,I⟩:=B j y oM oM n;exact⟨E,F,G, λq=>H oM, λq=>I oM⟩
   rw[lE k]at h;cases h
theorem Su(sh:List Int)(l:List Nat):∀(C b:Nat->Option (List Int)),DX l sh C=K b->(∀t∈l,b t=K sh)/\(∀t s,C t=K s->b t=K s)/\∀t s,b t=K s->C t=K s\/s=sh:=by
 induction l with
 | nil=>intro C b h;simp only[DX,kK]at h;subst h;exact⟨λt i=>(by cases i), λt s h=>h, λt s h=>.inl h⟩
 | cons t l j=>
   intro C b h;rw[DX]at h;cases e:C t with
   | some k=>
     rw[e]at h;simp only[]at h;by_cases g:k=sh
     . rw[lS g]at h;obtain⟨h1,h2,f⟩:=j C b h;refine⟨λq a=> ?_,h2,f⟩;rcases lA.1 a with rfl|a
       . exact h2 q sh (by rw[e,g])
       exact h1 q a
     rw[lE g]at h;cases h
   | none=>
     rw[e]at h;simp only[]at h;obtain⟨h1,h2,f⟩:=j _ b h;have i:b t=K sh:=h2 t sh (by simp[Fv]);refine⟨λq a=> ?_, λq s a=>h2 q s ?_, λq s a=> ?_⟩
     . rcases lA.1 a with rfl|a
       . exact i
       exact h1 q a
     . simp only[Fv];rw[lE (λz=>by rw[z,e]at a;cases a)];exact a
     rcases f q s a with z|z
     . simp only[Fv]at z;split at z
       . exact .inr (kN z).symm
       exact .inl z
     exact .inr z
theorem Ra{xs:List MI}(n:AH xs){t l me a:Nat}{f:MB}(h:(At xs)[b]?=K m)(h1:m.gK=(l:Int))(h2:m.last=(me:Int))(j:(At xs)[t]?=K f)(v:f.gK=(a:Int))(y:f.last=(e:Int))(r:t≠b):e<l\/me<a:=by
 obtain⟨S,_,_,g⟩:=Jm n;have mono:∀i k,i+k<=(At xs).length->S i<=S (i+k):=by
  intro i k;induction k with
  |zero=>intro _;exact Nat.le_refl _
  | succ k u=>intro z;obtain⟨q,s⟩:∃q,(At xs)[i+k]?=K q:=⟨_,an oM⟩;have:=(g (i+k) q s).2.2.1;have:=u oM;have e:i+(k+1)=i+k+1:=oM;rw[e];omega
 have lb:=(iV.1 h).1;have lt:=(iV.1 j).1;obtain⟨A,B,C,_⟩:=g b m h;obtain⟨D,E,F,_⟩:=g t f j;rcases Nat.lt_or_gt_of_ne r with p|p
 . obtain⟨k,rfl⟩:∃k,b=t+1+k:=⟨b-t-1,oM⟩;have:=mono (t+1) k oM;exact .inl oM
 obtain⟨k,rfl⟩:∃k,t=b+1+k:=⟨t-b-1,oM⟩;have:=mono (b+1) k oM;exact .inr oM
structure Mf(p:MP)(f:MF)(Q:List Int->Prop)(done:List Nat)(s:WS):Prop where
 c0:s.c 0=K []
 cq:∀b sh,s.c b=K sh->Q sh/\sh.length<=s.d
 dn:∀b∈done,∀(m:MB) (a e:Nat),(At f.ch)[b]?=K m->m.gK=(a:Int)->m.last=(e:Int)->s.c b=K (s.t a)/\∀(j:Nat) (x:MI),a<=j->j<=e->f.ch[j]?=K x->Q (s.t j)/\A6 p f x (s.t j)=0/\(s.t j).length<=s.d/\(j<e->s.t (j+1)=Bv p f x (s.t j))/\(j=e->∀t∈nx (At f.ch) b,s.c t=K (Bv p f x (s.t j)))
theorem Mf.step{p:MP}(hg:AH f.ch)(hQ:∀(j:Nat) (x:MI) (sh:List Int),f.ch[j]?=K x->Q sh->A6 p f x sh=0->Q (Bv p f x sh)){done:List Nat}{s E:WS}(h:Mf p f Q done s)(y:(At f.ch)[b]?=K m)(hd:b∉done)(hc:(s.c b).isSome=true)(k:Lg p f m b s=.inr E):Mf p f Q (b::done) E/\(∀t∈nx (At f.ch) b,(E.c t).isSome=true)/\∀t,(s.c t).isSome=true->(E.c t).isSome=true:=by
 obtain⟨F,O⟩:=Option.isSome_iff_exists.1 hc;obtain⟨n,me,h1,h2,h3,h4⟩:=BL y;rw[NB h1 h2,O,nT]at k;cases hk:Cv p f (me+1-n) n F s.t s.d with
 |inl e=>rw[hk]at k;cases k
 | inr q =>
   obtain⟨sh,G,S⟩:=q;rw[hk]at k;simp only[]at k;have q0:=h.cq b F O;obtain⟨k1,k2,X,k4,k5,R⟩:=Ud p f hQ (me+1-n) n F s.t s.d sh G S oM q0.1 hk;cases hme:DX (m.next.map Int.toNat) sh s.c with
   |none=>rw[hme]at k;cases k
   | some C2=>
     rw[hme]at k;simp only[Sum.inr.injEq]at k;subst k;obtain⟨m1,C,m3⟩:=Su sh _ _ _ hme;obtain⟨xe,aj⟩:∃x,f.ch[me]?=K x:=⟨_,an h4⟩;have W:=R me xe oM oM aj;have ah:=W.2.2.2.2 oM;have a8:∀j,n<=j->j<=me->(G j).length<=S:= λj r v=>by
      by_cases e:j=n
      . subst e;rw[X oM];omega
      obtain⟨i,rfl⟩:∃i,j=i+1:=⟨j-1,oM⟩;obtain⟨x,B⟩:∃x,f.ch[i]?=K x:=⟨_,an oM⟩;obtain⟨_,_,T,L,_⟩:=R i x oM oM B;rw[L oM];exact T
     refine⟨⟨C 0 [] h.c0, λt z P=> ?_, λt l mt a e A U V=> ?_⟩, λt l=> ?_, λt l=> ?_⟩
     . rcases m3 t z P with g|g
       . have:=h.cq t z g;exact⟨this.1,oS⟩
       rw[g];exact⟨k5,by simp only[];rw[ah];exact W.2.2.1⟩
     . rcases lA.1 l with rfl|l
       . rw[y]at A;obtain rfl:=kN A;obtain rfl:a=n:=oM;obtain rfl:e=me:=oM;refine⟨?_, λj x r v B=> ?_⟩
         . simp only[];rw[X oM];exact C t F O
         obtain⟨H,I,T,L,g5⟩:=R j x r oM B;refine⟨H,I,a8 j r v, λq=>L oM, λq u D=> ?_⟩;rw[K6 y]at D;simp only[];rw[m1 u D,<-g5 oM]
       (have ae:t≠b:= λq=>hd (q▸l));obtain⟨H,I⟩:=h.dn t l mt a e A U V;have am:=Ra hg y h1 h2 A U V ae;(have N:∀j:Nat,a<=j->j<=e->G j=s.t j:= λj r v=>k1 j oM);obtain⟨a',e',w1,w2,w3,w4⟩:=BL A;refine⟨by simp only[];rw[N a lR oM];exact C t _ H, λj x r v B=> ?_⟩;obtain⟨z0,z1,z2,z3,z4⟩:=I j x r v B;simp only[];rw[N j r v];refine⟨z0,z1,oM, λq=> ?_, λq u D=>C u _ (z4 q u D)⟩;rw[N (j+1) oM oM];exact z3 q
     . rw[K6 y]at l;simp only[];rw[m1 t l];rfl
     obtain⟨z,P⟩:=Option.isSome_iff_exists.1 l;simp only[];rw[C t z P];rfl
theorem Ui{p:MP}(k:AH f.ch)(y:∀(j:Nat) (x:MI) (sh:List Int),f.ch[j]?=K x->Q sh->A6 p f x sh=0->Q (Bv p f x sh))(ord:List Nat):∀(done:List Nat) (s l:WS),(∀b∈ord,b<(At f.ch).length)->ord.Nodup->(∀b∈ord,b∉done)->(∀(A B:List Nat) (b:Nat),ord=A++b::B->(s.c b).isSome=true\/∃q∈A,b∈nx (At f.ch) q)->Mf p f Q done s->Ds p f (At f.ch) ord s=.inr l->Mf p f Q (ord.reverse++done) l:=by
 induction ord with
 | nil=>intro done s l _ _ _ _ h a;simp only[Ds,Sum.inr.injEq]at a;subst a;exact h
 | cons b ord I=>
   intro done s l t C r v h a;obtain⟨m,u⟩:∃m,(At f.ch)[b]?=K m:=⟨_,an (t b sP)⟩;have z:(s.c b).isSome=true:=by
    rcases v [] ord b rfl with q|⟨_,q,_⟩
    . exact q
    cases q
   obtain⟨D,E⟩:=List.nodup_cons.1 C;simp only[Ds,u]at a;cases hb:Lg p f m b s with
   |inl e=>rw[hb]at a;cases a
   | inr L=>
     rw[hb]at a;obtain⟨F,G,H⟩:=h.step k y u (r b sP) z hb;have:=I (b::done) L l (λq i=>t q (by simp[i])) E (λq i n=>by
      rcases lA.1 n with rfl|n
      . exact D i
      exact r q (by simp[i]) n) (λA B q i=> ?_) F a
     . simpa[List.reverse_cons,List.append_assoc]using this
     rcases v (b::A) B q (by rw[i];rfl)with g|⟨g,k,hgq⟩
     . exact .inl (H q g)
     rcases lA.1 k with rfl|k
     . exact .inl (G q hgq)
     exact .inr ⟨g,k,hgq⟩
theorem Sm(O:List Nat):(ints O).map Int.toNat=O:=by
 unfold ints;rw[ni];conv=>rhs;rw[<-List.map_id O]
 apply nF;intro a _;simp
theorem MM{l:List Nat}(h:l.Nodup):l.reverse.Nodup:=by unfold List.Nodup at*;rw[List.pairwise_reverse];exact h.imp λh=> λe=>h e.symm
theorem SF(h:DI E n (DF O))(l:O.Nodup)(e:∀x,x∈O↔x<n)(A B:List Nat)(b:Nat)(a:O.reverse=A++b::B)(i:b≠0):∃q∈A,b∈E q:=by
 have k:b∈O.reverse:=by rw[a];simp
 obtain⟨q,p,r,u⟩:=h.iA b ((e b).1 (mT.1 k)) i;refine⟨q,?_,r⟩;have s:q∈O.reverse:=mT.2 ((e q).2 p);have t:DF O b=A.length:=by
  unfold DF;have j:b∉A:= λg=>by (have m:(A++b::B).Nodup:=by rw[<-a];exact MM l);exact(nQ.1 m).2.2 b g b sP rfl
  rw[a,List.idxOf_append];simp[j]
 have f:(O.reverse)[DF O q]?=K q:=JH (mT.1 s);rw[a,ld oM]at f;exact i8 f
theorem Ou{p:MP}{V:Nat}{s:WS}(hp:A8 p 0)(X:p.cC[V]?=K f)(h:Bc f.ch r)(G:r.ch=0)(hr:Ds p f r.ej (r.gJ.map Int.toNat) Jo=.inr s):Eb p f ((List.range f.ch).map s.t)/\∀j,j< ↑f.ch->(s.t j).length<=s.d:=by
 have aF:=hp.parts;have au:=(iV.1 X).1;have aM:Cd f:=aF.2.2.1.2.2.1 V au f X;have aP:∀(j:Nat) (x:MI),f.ch[j]?=K x->AK p f x:= λj x k=>aF.2.2.2.1 V au f X j (iV.1 k).1 x k
 have hQ:∀(j:Nat) (x:MI) (sh:List Int),f.ch[j]?=K x->RU sh->A6 p f x sh=0->RU (Bv p f x sh):= λj x sh k h1 h2=>Vx hp aM (aP j x k) h1 h2
 cases h with
 |none _=>cases G
 |off _ _ _=>cases G
 |lost _ _ _ _ _ _ _ _=>cases G
 |two _ _ _ _ _ _ _ _=>cases G
 | @good x S O D L I g x1 o1 v1 s1 d1 b1 i1 l1=>
   obtain⟨hP,aD,aR,aj,aQ⟩:=Cx (Dj g) (Io g) v1 s1;simp only[]at hr;rw[Sm]at hr;have h1:Mf p f RU [] Jo:=⟨rfl, λb sh h=>by
    simp only[Jo]at h⊢;split at h
    . rw[<-kN h];exact⟨⟨rfl,sP⟩,sP⟩
    (cases h), λb u=>(by cases u)⟩
   have h2:=Ui g hQ O.reverse [] Jo s (λb u=>(aj b).1 (mT.1 u)) (MM aD) (λb _ u=>by cases u) (λA B b u=>by
    by_cases ao:b=0
    . subst ao;exact .inl rfl
    exact .inr (SF hP aD aj A B b u ao)) h1 hr
   (have ah:∀b,b<(At f.ch).length->b∈O.reverse.reverse++[]:= λb u=>by rw[nA,List.reverse_reverse];exact(aj b).2 u);have aH:∀(i:Nat) (x:MI),f.ch[i]?=K x->∃(b:Nat) (m:MB) (a e:Nat),b<(At f.ch).length/\(At f.ch)[b]?=K m/\m.gK=(a:Int)/\m.last=(e:Int)/\a<=i/\i<=e/\e< ↑f.ch/\RU (s.t i)/\A6 p f x (s.t i)=0/\(s.t i).length<=s.d/\(i<e->s.t (i+1)=Bv p f x (s.t i))/\(i=e->∀t∈nx (At f.ch) b,∀v:MB,∀q:Nat,(At f.ch)[t]?=K v->v.gK=(q:Int)->s.t q=Bv p f x (s.t i)):=by intro i x k;obtain⟨b,m,a,e,N,z,P,C,Q,R,k7⟩:=Ox g (iV.1 k).1;obtain⟨_,g2⟩:=h2.dn b (ah b N) m a e z P C;obtain⟨E,n,T,z3,F⟩:=g2 i x Q R k;refine⟨b,m,a,e,N,z,P,C,Q,R,k7,E,n,T,z3, λq t ht v y am hy=> ?_⟩;have hc:=F q t ht;obtain⟨a',U,w1,w2,w3,w4⟩:=BL am;have:=(h2.dn t (ah t (iV.1 am).1) v y U am hy w2).1;rw[hc]at this;exact(kN this).symm
   have H:∀i,i< ↑f.ch->((List.range f.ch).map s.t)[i]?=K (s.t i):= λi hi=>by rw[lG,oy hi];rfl
   refine⟨⟨sP,?_, λi x sh k aG=> ?_⟩, λj hj=> ?_⟩
   . have hn:=g.1;rw[H 0 hn];obtain⟨m,hm⟩:∃m,(At f.ch)[0]?=K m:=⟨_,an (Dj g)⟩;obtain⟨S',q0,_,hS⟩:=Jm g;obtain⟨a',U,w1,w2,w3,w4⟩:=BL hm;have aq:=(hS 0 m hm).1;rw[q0]at aq;have:=(h2.dn 0 (ah 0 (Dj g)) m 0 U hm aq w2).1;rw[h2.c0]at this;rw[kN this]
   . have hi:=(iV.1 k).1;rw[H i hi]at aG;obtain rfl:=kN aG;obtain⟨b,m,a,e,N,z,P,C,Q,R,k7,E,n,T,z3,F⟩:=aH i x k;have W:x.op≠29->BJ p f x (s.t i)=0/\Bv p f x (s.t i)=BT p f x (s.t i):= λl=>by unfold A6 at n;unfold Bv;rw[lE l]at n;rw[lE l];exact⟨n,rfl⟩
     refine⟨E.1,E.2, λl=> ?_, λl=>(W l).1, λl aI=> ?_, λaw=> ?_⟩
     . unfold A6 at n;rw[lS l]at n;split at n
       . assumption
       cases n
     . (have aE:DQ x=true:=by simp[DQ,l,aI]);have aA:i+1<f.ch.length:=by
        apply ly;intro hn;have e1: ↑f.ch-1=i:=oM
        rw[e1,k]at x1;rw[<-kN x1,aE]at o1;cases o1
       rw[H _ aA,<-(W l).2];by_cases ae:i<e
       . rw[z3 ae]
       obtain rfl:i=e:=oM;obtain⟨t,v,y1,y2,y3⟩:=Re g z C k aE aA;rw[F rfl t y1 v (i+1) y2 y3]
     (have a8:AR x=true:=by rcases aw with q|q|q<;>simp[AR,q]);(have l:x.op≠29:=by rcases aw with q|q|q<;>omega);(have ae:i=e:=by apply ly;intro hn;have:=(Mw z k oM oM).1;rw[a8]at this;cases this);subst ae;obtain⟨t,v,y1,y2,y3⟩:=Sa g z C k a8;obtain⟨c0,c1⟩:=g.2.2 i x k a8;have aJ:(x.c.toNat:Int)=x.c:=nE c0;rw[H _ oM,<-(W l).2,F rfl t y1 v x.c.toNat y2 (by rw[y3,aJ])]
   obtain⟨x,k⟩:∃x,f.ch[j]?=K x:=⟨_,an hj⟩;obtain⟨b,m,a,e,N,z,P,C,Q,R,k7,E,n,T,z3,F⟩:=aH j x k;exact T
theorem QY{p:MP}{T:List (List Int)}{k:Nat}{t:Int}(h:Bc f.ch r)(s:r.ch=0)(v:Eb p f T)(U:T[k]?=K sh):¬Eb p f (T.set k (sh++[t])):=by
 intro Q;have V:=(iV.1 U).1;have a8:k<f.ch.length:=by rw[<-v.len];exact V
 have ae:(T.set k (sh++[t]))[k]?=K (sh++[t]):=by rw[mG V]
 have ah:∀i,i≠k->(T.set k (sh++[t]))[i]?=T[i]?:= λi hi=>mC (λe=>hi e.symm)
 have F:∀q,T[k]?=K q->(T.set k (sh++[t]))[k]?=K q->False:= λq h1 h2=>by rw[U]at h1;rw[ae,<-kN h1]at h2;have:=congrArg List.length (kN h2);simp at this
 have C:∀(e:Nat) (x:MI),e≠k->f.ch[e]?=K x->x.op≠29->((x.op≠25/\e+1=k)\/(FZ x.op/\x.c.toNat=k))->False:=by
  intro e x he G P hc;obtain⟨se,W⟩:∃q,T[e]?=K q:=⟨_,an (by have:=v.len;have:=(iV.1 G).1;omega)⟩;have H:=v.all e x se G W;have N:=Q.all e x se G (by rw[ah e he];exact W);rcases hc with⟨u,rfl⟩|⟨l,rfl⟩
  . exact F _ (H.next P u) (N.next P u)
  exact F _ (H.named l) (N.named l)
 cases h with
 |none _=>cases s
 |off _ _ _=>cases s
 |lost _ _ _ _ _ _ _ _=>cases s
 |two _ _ _ _ _ _ _ _=>cases s
 | @good x S O D L I g x1 o1 v1 s1 d1 b1 i1 l1=>
   obtain⟨hP,aF,aD,aE,aq⟩:=Cx (Dj g) (Io g) v1 s1;obtain⟨b,m,a,e,k1,A,k3,k4,k5,k6,k7⟩:=Ox g a8;by_cases aA:a<k
   . obtain⟨i,rfl⟩:∃i,k=i+1:=⟨k-1,oM⟩;obtain⟨y,j⟩:∃y,f.ch[i]?=K y:=⟨_,an oM⟩;obtain⟨q1,q2⟩:=Mw A j oM oM;refine C i y oM j q2 (.inl ⟨λu=> ?_,rfl⟩);rw[AR,u]at q1;simp at q1
   obtain rfl:a=k:=oM;by_cases R:b=0
   . subst R;obtain⟨S',q0,_,hS⟩:=Jm g;have au:=(hS 0 m A).1;obtain rfl:a=0:=oM;exact F _ v.gK Q.gK
   obtain⟨q,hq,am,aj⟩:=hP.iA b k1 R;obtain⟨X,E⟩:∃X,(At f.ch)[q]?=K X:=⟨_,an hq⟩;obtain⟨a',B,w1,w2,w3,w4⟩:=BL E;obtain⟨y,j⟩:∃y,f.ch[B]?=K y:=⟨_,an w4⟩;obtain⟨mt,y1,y2⟩:=To g E w2 j am;rw[A]at y1;obtain rfl:=kN y1;(have ao:q≠b:= λz=>by rw[z]at aj;omega);have aw:=Ra g A k3 k4 E w1 w2 ao;rcases y2 with⟨n,z2⟩|⟨n,z2⟩
   . simp only[DQ,nL,mi]at n;exact C B y oM j n.2 (.inl ⟨n.1,oM⟩)
   (have l:FZ y.op:=by simpa[AR,FZ,Bool.or_eq_true,decide_eq_true_eq,or_assoc]using n);exact C B y oM j (by rcases l with z|z|z<;>omega) (.inr ⟨l,oM⟩)
theorem AM.upon{B:Nat}{w a b:Y}(h:Ad B w a)(f:AM g a b)(i:B<=g)(e:B<= ↑w):Ad B w b:=h.grown f.grow (kT e h.size) (λk j=>by cases j;exact i)
def S7:Prop:=∀(u:Y) (s:Ci) (p k:Int),DE u s.S s.a s.len s.cap p->p+3000000300<=100000000000->1<=k->k<=1000000->Ae Tryz.prog 11 #[.pointer (K ⟨s.S,0,M⟩),Ac Ab k] u (JU s p 3000000300 100002 u)
def Xk(w:Y)(e:Ending)(a:Y):Prop:=∃(v:VP) (x:MP) (f:Int),e=.returned (.tuple #[.agg #[v.r,v.k,v.f,v.t],Ac Ab f])/\Cz a v x/\Dm a v.r x.a7/\GY a v.f x.cC/\PB 100002 x∧-40<=f/\f<=40/\Ad w w a
theorem LN(hM:S7)(a:Option Addr)(len cap:Nat)(w:Y)(hl:len<=140737488355328)(hc:CodeAt w w a len):
 Ae Tryz.prog 4 #[Z a len cap] w (Xk w):=by
 have HC:=Ap hc;clear hc;have y:Aa (Ar (w.alloc (.cells #[sN,sN,sN,sN] 28)) w #[sN,sN,sN,sN] 28/\Ad w w (w.alloc (.cells #[sN,sN,sN,sN] 28))/\ ↑w+1=(w.alloc (.cells #[sN,sN,sN,sN] 28)).heap.size):=⟨Ar.new _ _ _,Ag _ _,sP⟩
 go_enter Tryz.func4,Tryz.ntmps4;go_upto_region 1 with fail
 generalize aj:w.heap.size=b at y⊢;refine An (λU=>Aa (Ar U b #[sN,sN,sN,sN] 28/\Ad b w U/\b+1= ↑U)) y ?_
 clear y;rintro G y;have ae:CodeAt G G a len:=HC.o.iu (by have:=y.o.2.2;omega) oM (λk hk=>y.o.2.1.block k oM);go_wp2_with fail;refine(Nv a len cap G hl ae).mono ?_;rintro e r ⟨rfl,C,R⟩;have D:Aa (Ar r b #[sN,sN,sN,sN] 28/\Ad b w r/\b< ↑G/\(G:Nat)< ↑r):=⟨y.o.1.bM R,y.o.2.1.trans (R.mono (by have:=y.o.2.2;omega)),by have:=y.o.2.2;omega,C.lt⟩
 have Q:=Ap C;clear C R y ae;generalize G.heap.size=S at D Q⊢;go_wp2_with fail;refine(hM r ⟨S,a,len,cap⟩ 0 2 Q.o oM oM oM).mono ?_;rintro e z ⟨v,x,rfl,ht,T,p2,ao,aq,C,s⟩;obtain⟨g,m,i,n,j,p,l,q,ev⟩:=ht.rd.jn;subst ev;have O:Aa (Bs r (z.alloc (.cells #[Z g x.a7 m,Z i x.aC n,Z j x.cC p,Z l x.dr q] 28)) ⟨S,a,len,cap⟩ p2 [gb z ⟨Z g x.a7 m,Z i x.aC n,Z j x.cC p,Z l x.dr q⟩]/\Cb r z (z.alloc (.cells #[Z g x.a7 m,Z i x.aC n,Z j x.cC p,Z l x.dr q] 28)) ⟨Z g x.a7 m,Z i x.aC n,Z j x.cC p,Z l x.dr q⟩ x/\Ar (z.alloc (.cells #[Z g x.a7 m,Z i x.aC n,Z j x.cC p,Z l x.dr q] 28)) b #[sN,sN,sN,sN] 28/\Ad b w (z.alloc (.cells #[Z g x.a7 m,Z i x.aC n,Z j x.cC p,Z l x.dr q] 28))/\(r:Nat)<= ↑z):=by
  have s:AM S r z:=s;have a8:Ar z b #[sN,sN,sN,sN] 28:=by have:=D.o.1;unfold Ar at*;rw[s.block b (by have:=D.o.2.2;omega) (by have:=D.o.2.2;omega)];exact this
  exact⟨(Bs.start (w:=r) ⟨s,C,Q.o.lt⟩).box 28 4 [Z g x.a7 m,Z i x.aC n,Z j x.cC p,Z l x.dr q] rfl,ht.below (Ag _ _) lR,a8.bM (Ag _ _),(AM.upon D.o.2.1 s (by have:=D.o.2.2;omega) oM).trans ((Ag _ _).mono (by have:=a8.lt;omega)),s.size⟩
 have HP:=Ap T;have am:=T.fl;clear C s ht T;go_upto_region 3 with fail
 generalize z.heap.size=X at O⊢;refine An (λU=>Aa (Bs r U ⟨S,a,len,cap⟩ p2 [gb X ⟨Z g x.a7 m,Z i x.aC n,Z j x.cC p,Z l x.dr q⟩]/\Cb r X U ⟨Z g x.a7 m,Z i x.aC n,Z j x.cC p,Z l x.dr q⟩ x/\Ar U b #[sN,sN,sN,sN] 28/\Ad b w U/\ ↑r<=X)) O ?_
 clear O;rintro U E;have HK:Aa (∀(W:Y) (p':Int),Bs r W ⟨S,a,len,cap⟩ p' [gb X ⟨Z g x.a7 m,Z i x.aC n,Z j x.cC p,Z l x.dr q⟩]->W.cell? X=K (Z g x.a7 m)/\W.cell? ⟨X,1,M⟩=K (Z i x.aC n)/\W.cell? ⟨X,2,M⟩=K (Z j x.cC p)/\W.cell? ⟨X,3,M⟩=K (Z l x.dr q)):= λW p' h=>(h.four (P:=X) (v:=⟨Z g x.a7 m,Z i x.aC n,Z j x.cC p,Z l x.dr q⟩) sP).1
 refine AF 4 (S:= λW=>W.cell? X=K (Z g x.a7 m)/\W.cell? ⟨X,1,M⟩=K (Z i x.aC n)/\W.cell? ⟨X,2,M⟩=K (Z j x.cC p)/\W.cell? ⟨X,3,M⟩=K (Z l x.dr q)) kR (HK.o _ _ (E.o.1.bM (Aj _))) (λah=> ?_)
 have au:=E.o.1.size;have B:=Ap (ji (E.o.1.bM (Aj _)) (ji (E.o.2.1.below (Aj _) (nM (E.o.1.sep.lt (gb X ⟨Z g x.a7 m,Z i x.aC n,Z j x.cC p,Z l x.dr q⟩) sP X rfl).2)) (ji (E.o.2.2.1.bM (Aj _)) (ji (E.o.2.2.2.1.trans ((Aj _).mono (by have:=E.o.2.2.1.lt;omega))) E.o.2.2.2.2))));clear E;generalize U.drew=V at B ah⊢;refine AW 0 ?_;refine AW 1 ?_;refine AW 2 ?_;refine DD 3 ?_;intro H F;go_simp;refine(OK V ⟨S,a,len,cap⟩ p2 g i j l _ _ _ _ _ _ _ _ B.o.1.gG.src oM am).mono ?_;rintro e u ⟨f,p3,f0,f1,rfl,C,s⟩;have t:Aa (Bs r u ⟨S,a,len,cap⟩ p3 [gb X ⟨Z g x.a7 m,Z i x.aC n,Z j x.cC p,Z l x.dr q⟩]/\Cb r X u ⟨Z g x.a7 m,Z i x.aC n,Z j x.cC p,Z l x.dr q⟩ x/\Ar u b #[sN,sN,sN,sN] 28/\Ad b w u):=by have s:AM S V u:=s;have hX:=(B.o.1.sep.lt (gb X ⟨Z g x.a7 m,Z i x.aC n,Z j x.cC p,Z l x.dr q⟩) sP X rfl);have h1:=D.o.2.2;have h2:=B.o.2.2.1.lt;refine⟨B.o.1.draw C s,B.o.2.1.draw s h1.2 (nM hX.2),?_,AM.upon B.o.2.2.2.1 s oM oM⟩;have:=B.o.2.2.1;unfold Ar at*;rw[s.block b oM oM];exact this
 clear C s;refine F.o _ _ (λ_=>HK.o _ _ t.o.1) (λI=> ?_);clear F H I;go_simp;have y0:u.cell? b=K sN:=t.o.2.2.1.cell 0;have y1:u.cell? ⟨b,1,M⟩=K sN:=t.o.2.2.1.cell 1;have y2:u.cell? ⟨b,2,M⟩=K sN:=t.o.2.2.1.cell 2;have y3:u.cell? ⟨b,3,M⟩=K sN:=t.o.2.2.1.cell 3;have z0:=t.o.2.2.1.frozen 0;have z1:=t.o.2.2.1.frozen 1;have z2:=t.o.2.2.1.frozen 2;have z3:=t.o.2.2.1.frozen 3;refine DD 4 ?_;intro H F;go_simp;refine F.o _ _ (λh=>absurd h dC) (λI=> ?_);clear F H I y0 y1 y2 y3 z0 z1 z2 z3;have A:Aa (Cb r X ((((u.setCell b (Z g x.a7 m)).setCell ⟨b,1,M⟩ (Z i x.aC n)).setCell ⟨b,2,M⟩ (Z j x.cC p)).setCell ⟨b,3,M⟩ (Z l x.dr q)) ⟨Z g x.a7 m,Z i x.aC n,Z j x.cC p,Z l x.dr q⟩ x/\Ar ((((u.setCell b (Z g x.a7 m)).setCell ⟨b,1,M⟩ (Z i x.aC n)).setCell ⟨b,2,M⟩ (Z j x.cC p)).setCell ⟨b,3,M⟩ (Z l x.dr q)) b #[Z g x.a7 m,Z i x.aC n,Z j x.cC p,Z l x.dr q] 28/\Ad b w ((((u.setCell b (Z g x.a7 m)).setCell ⟨b,1,M⟩ (Z i x.aC n)).setCell ⟨b,2,M⟩ (Z j x.cC p)).setCell ⟨b,3,M⟩ (Z l x.dr q))):=by
  have N:b<r.heap.size:=by have:=D.o.2.2;omega
  exact⟨(((t.o.2.1.set b (.inl N) _).set ⟨b,1,M⟩ (.inl N) _).set ⟨b,2,M⟩ (.inl N) _).set ⟨b,3,M⟩ (.inl N) _,(((t.o.2.2.1.set 0 _).set 1 _).set 2 _).set 3 _,(((t.o.2.2.2.setCell (show b<=(⟨b,0,M⟩:Addr).block from Nat.le_refl _) _).setCell (show b<=(⟨b,1,M⟩:Addr).block from Nat.le_refl _) _).setCell (show b<=(⟨b,2,M⟩:Addr).block from Nat.le_refl _) _).setCell (show b<=(⟨b,3,M⟩:Addr).block from Nat.le_refl _) _⟩
 clear t B;generalize ((((u.setCell b (Z g x.a7 m)).setCell ⟨b,1,M⟩ (Z i x.aC n)).setCell ⟨b,2,M⟩ (Z j x.cC p)).setCell ⟨b,3,M⟩ (Z l x.dr q))=L at A⊢;refine DD 5 ?_;intro H F;go_simp;refine F.o _ _ (λh=>absurd h dC) (λI=> ?_);clear F H I;refine A5 kR ?_ _;have w0:L.cell? b=K (Z g x.a7 m):=A.o.2.1.cell 0;have w1:L.cell? ⟨b,1,M⟩=K (Z i x.aC n):=A.o.2.1.cell 1;have w2:L.cell? ⟨b,2,M⟩=K (Z j x.cC p):=A.o.2.1.cell 2;have w3:L.cell? ⟨b,3,M⟩=K (Z l x.dr q):=A.o.2.1.cell 3;go_simp;go_wp2_with fail;exact kY (v:=.tuple #[.agg #[Z g x.a7 m,Z i x.aC n,Z j x.cC p,Z l x.dr q],Ac Ab f]) (by simp[results,Tryz.results4,go_sem,w0,w1,w2,w3]) rfl ⟨⟨Z g x.a7 m,Z i x.aC n,Z j x.cC p,Z l x.dr q⟩,x,f,rfl,A.o.1.rd,A.o.1.jD.1,A.o.1.jD.2,HP.o,f0,f1,by rw[aj];exact A.o.2.2⟩
structure LP(w u:Y)(V:J)(ys:List (ML×J×J)):Prop where
 iE:u.ownsRow w 95 3 V ys (ys.flatMap BS)
 gW:CU u w (ys.map λy=>(y.2.2,y.1.ej))
 gG:Ad w w u
theorem LP.bM{w u b:Y}{e:List (ML×J×J)}(h:LP w u V e)(a:Ad u u b):LP w b V e:=⟨Am h.iE a lR,h.gW.ir a,Ai h.gG lR a⟩
theorem LP.add{w u f k:Y}{cap:Nat}{j b:J}{a:List (ML×J×J)}{m:ML}(h:LP w u V a)(l:Ad u u f)(h2:f.ownsRow u 2 1 b m.ej (m.ej.flatMap Ah))(q:k.ownsRow w 95 3 (sG g (a.length+1) cap) (a.length+1) (a.flatMap BS++[iZ m.head,j,b]))(n:f.grownBy k V.ownBlock):LP w k (sG g (a.length+1) cap) (a++[(m,j,b)]):=by
 have e:=h.bM l;have r:CU f w ((a++[(m,j,b)]).map λy=>(y.2.2,y.1.ej)):=by have:=h.gW.join l h2 h.gG.size;simpa using this
 refine⟨?_,r.i6 n e.iE dC,e.gG.grown n e.gG.size (λi p=>(e.iE.lt i p).1)⟩;rw[kJ,kQ,lJ];exact q
theorem N7{D:Nat->Nat->Bool}{S:List Nat}{k:Nat->Bool}(F:∀b,b<n->∀x∈E b,x<n)(G:b<n)(C:Vs (BF E n) [b] [] (AJ E D n b) S O)(l:∀x,k x=true↔DZ E D n b x):((ints (O++[b])).mergeSort λx y=>decide (x<=y))=ints ((List.range n).filter k)/\ ↑O+1<=n:=by
 obtain⟨N,t⟩:=C.told;obtain rfl:O=N:=by simpa using t.o
 have A:∀q,q<n->∀x∈BF E n q,x<n:= λq _ x f=>((ES E n q x).1 f).1
 have m:∀x∈O,x<n:= λx f=>by obtain⟨q,g,i⟩:=t.from_ x f;exact i.lt A ((Jt E D n b q).1 g).1
 have v:b∉O:= λq=>t.fresh b q (ln ..)
 have s:(O++[b]).Nodup:=nQ.2 ⟨t.nodup,sP, λa u c p e=>by simp only[lA,lW,mZ]at p;subst p e;exact v u⟩;have r:∀x,x∈O++[b]↔DZ E D n b x:= λx=>by
  rw[kS,lT];unfold DZ;rw[Or.comm];refine or_congr_right ?_;rw[t.iff x];constructor
  . rintro⟨q,g,i⟩;exact⟨q,g,i.mono λy j e=>j (by rw[e];simp)⟩
  rintro⟨q,g,i⟩;exact⟨q,g,i.mono λy j e=>j (by simpa using e)⟩
 have B:(ints (O++[b])).Nodup:=by unfold ints;refine nP.2 (s.imp λh e=>h oM)
 refine⟨?_,?_⟩
 . refine IE _ _ (MQ _ B) ?_ λz=> ?_
   . unfold ints;refine nP.2 ((List.Pairwise.filter _ oJ).imp λh=>oM)
   rw[(nm _ _).mem_iff];unfold ints;rw[lK,lK];constructor
   . rintro⟨x,h1,h2⟩;refine⟨x,nj.2 ⟨mz.2 ?_,(l x).2 ((r x).1 h1)⟩,h2⟩;rcases kS.1 h1 with q|q
     . exact m x q
     (have:x=b:=by simpa using q);omega
   rintro⟨x,h1,h2⟩;exact⟨x,(r x).2 ((l x).1 (nj.1 h1).2),h2⟩
 have:=Ga (O++[b]) n (λx f=>by
  rcases kS.1 f with q|q
  . exact m x q
  have:x=b:=by simpa using q
  omega) s
 rw[kJ,kQ]at this;omega
theorem Sq(G n gF cF gB:Nat)(E:Nat->List Nat)(D t:Nat->Nat->Bool)(z:List (J×List Nat))(w:Y)(hn:n<=1024)(hE:∀b,b<n->∀x∈E b,x<n)(aI:∀b,(E b).length<=2)(hL:∀h x,t h x=true↔DZ E D n h x)(h1:w.cell? ⟨G,1,M⟩=K (sG gF n cF))(hF:FR w gF 0 n (BF E n))(hB:∀x,x<n->∃V,z[x]?=K (V,AJ E D n x)/\w.cell? ⟨gB,x,M⟩=K V/\Iu w V (AJ E D n x)):
 Ae Tryz.prog 64 #[.pointer G,sG gB n n] w λe w'=>∃V,e=.returned V/\∃g,LP w w' V g/\g.map Prod.fst=Cg E D t n n/\List.Sublist (g.map λy=>(y.2.1,y.1.back)) (z.map λx=>(x.1,ints x.2)):=by
 obtain⟨k0,hk,bj,bp,bq⟩:=lU Bt;obtain⟨l0,hl,aX,aY,aZ⟩:=lU Qm;have H:=Ap (ji hF (ji hE (ji aI (ji hL (ji h1 hB)))));clear hF hE aI hL h1 hB;go_enter Tryz.func64,Tryz.ntmps64;go_wp2;go_loopw [5,12] (λV i wr=>∃(b:Nat) (g:List (ML×J×J)) (a:Option Addr) (c:Nat),b<=n/\i=iZ b/\V=Z a g c/\ ↑g<=b/\Aa (LP w wr V g/\g.map Prod.fst=Cg E D t n b/\List.Sublist (g.map λy=>(y.2.1,y.1.back)) ((z.take b).map λx=>(x.1,ints x.2)))) (λ_ i _=>n-(intOf i).toNat)
 case atStart=>exact⟨0,[],M,0,oM,rfl,rfl,sP,⟨lq _ _ _ _,⟨λx R=>(by cases R),List.Pairwise.nil⟩,lQ _ _⟩,rfl,sP⟩
 obtain⟨b,g,al,cl,hb,rfl,rfl,bC,s⟩:=hrel;by_cases am:b<n
 . have bf:(b:Int)<(n:Int):=oM;obtain⟨VB,q1,q2,q3⟩:=H.o.2.2.2.2.2 b am;obtain⟨p,r,rfl⟩:=Rd.fu q3;have HV:=Ap (ji q1 q3);(have aw:Aa ((z.take (b+1)).map (λx=>(x.1,ints x.2))=(z.take b).map (λx=>(x.1,ints x.2))++[(Z p (AJ E D n b).length r,ints (AJ E D n b))]):=by obtain⟨hl,e⟩:=iV.1 q1;show _=_;rw[lH hl,e,mL];rfl);(replace q2:=Ak s.o.1.gG q2);(have bt:(AJ E D n b).length<=2048:=by have:=FW H.o.2.2.1 D b n;omega);clear q1 q3;by_cases W:AJ E D n b=[]
   . (have aU:(AJ E D n b).length=0:=by rw[W];rfl);have S:Aa (g.map Prod.fst=Cg E D t n (b+1)/\List.Sublist (g.map λy=>(y.2.1,y.1.back)) ((z.take (b+1)).map λx=>(x.1,ints x.2))):=by
      refine⟨?_,?_⟩
      . rw[EE,lS W,nA];exact s.o.2.1
      rw[aw.o];exact s.o.2.2.trans (nB _ _)
     rw[aU]at q2;go_wp2;go_roundw;(case rel=>exact⟨b+1,g,al,cl,oM,by go_num,by trivial,oM,s.o.1,S.o.1,S.o.2⟩);exact oI
   have bu:0<(AJ E D n b).length:=nV.2 W;have bz:(((AJ E D n b).length:Int)==0)=false:=oT;have bB:¬((AJ E D n b).length:Int)=0:=oM;have f1:=Ak s.o.1.gG H.o.2.2.2.2.1;have T:=Ag wr (.cells #[iZ (b:Int)] 2);have f2:=Ak T f1;have L:=Ap (ji (Ai s.o.1.gG lR T) (ji (((Ar.new wr #[iZ (b:Int)] 2).cell 0):(wr.alloc (.cells #[iZ (b:Int)] 2)).cell? wr=K (iZ (b:Int))) T));clear T;go_wp2_with fail;refine(Ip gF 0 cF n (BF E n) _ (AJ E D n b) _ [b] _ hn (λq hq x R=>((ES E n q x).1 R).1) (λq=>by have:=JA H.o.2.2.1 n q;omega) (H.o.1.bM L.o.1) (λx R=>((Jt E D n b x).1 R).1) oM (HV.o.2.bM L.o.1) (.inr ⟨b,wr,1,rfl,am,rfl,L.o.2.1⟩)).mono ?_;rintro e A ⟨V2,S2,f,rfl,aJ,aq,b2⟩;obtain⟨a2,c2,rfl⟩:=Az aq;obtain⟨aH,br⟩:=N7 H.o.2.1 am aJ (H.o.2.2.2.1 b);have B:Aa (Gj A wr (Z a2 f c2) f/\Ad wr wr A/\((ints (f++[b])).mergeSort λx y=>decide (x<=y))=ints ((List.range n).filter (t b))):=⟨Ba aq L.o.2.2.size,Ai L.o.2.2 lR b2,aH⟩
   have U:=Ag A (.cells #[iZ (b:Int)] 2);have O:Aa ((A.alloc (.cells #[iZ (b:Int)] 2)).ownsRow wr 2 1 (Z a2 f c2) f (nv f)/\ ↑wr<=(A.alloc (.cells #[iZ (b:Int)] 2)).heap.size/\Ad wr wr (A.alloc (.cells #[iZ (b:Int)] 2))):=⟨B.o.1.bM U,kT B.o.2.1.size U.size,Ai B.o.2.1 lR U⟩
   clear aJ aq b2 aH L f1 f2 U;go_wp2_with (first
    |(at_builtin;refine wpList_append_lies _ rfl _ _ 36 rfl wr 2 k0 (iZ 0) 1 8 Tryz.underlying36 hk bj bp bq rfl dC _ f (nv f) rfl O.o.1 A 1 1 [iZ (b:Int)] rfl rfl (BP A (b:Int)) (λu Q=>by simp at Q;subst Q;rfl) oM (by simp[maxLen];omega) oM O.o.2.1 _ rfl ?_;intro l k w3 a8 X aS ao;have N:Aa (w3.ownsRow wr 2 1 (sG l (f.length+1) k) (f.length+1) (nv (f++[b]))/\Ad wr wr w3):=⟨by rw[FN];exact a8,O.o.2.2.grown X O.o.2.2.size (λi hi=>(B.o.1.lt i hi).1)⟩;clear a8 X aS ao)
    |fail)
   have P:Aa (w3.ownsRow wr 2 1 (sG l (ints (f++[b])).length k) (ints (f++[b])).length ((ints (f++[b])).flatMap Ah)/\(ints (f++[b])).length= ↑f+1):=by
    have e:(ints (f++[b])).length= ↑f+1:=by rw[AU,kJ,kQ]
    rw[e,<-Dk];exact⟨N.o.1,rfl⟩
   have ah:=Um l k wr (ints (f++[b])) w3 (by rw[P.o.2];omega) P.o.1;rw[P.o.2,B.o.2.2]at ah;refine ah.mono ?_;rintro e v ⟨rfl,aF,g4⟩;have aE:((List.range n).filter (t b)).length= ↑f+1:=by have:=congrArg List.length B.o.2.2;rw[(nm _ _).length_eq,P.o.2,AU]at this;exact this.symm
   have aA:Aa (v.ownsRow wr 2 1 (sG l (f.length+1) k) (ints ((List.range n).filter (t b))).length ((ints ((List.range n).filter (t b))).flatMap Ah)/\Ad wr wr v):=by refine⟨by rw[AU,aE];exact aF,N.o.2.grown g4 N.o.2.size (λj hj=>by cases hj;exact(AD N.o.1).1)⟩
   clear aF g4 ah P N O B aE;have bN:=Ag v (.cells #[iZ (b:Int),Z p (AJ E D n b).length r,sG l (f.length+1) k] 95);have ae:Aa (LP w (v.alloc (.cells #[iZ (b:Int),Z p (AJ E D n b).length r,sG l (f.length+1) k] 95)) (Z al g cl) g/\Ad wr wr (v.alloc (.cells #[iZ (b:Int),Z p (AJ E D n b).length r,sG l (f.length+1) k] 95))/\ ↑w<=(v.alloc (.cells #[iZ (b:Int),Z p (AJ E D n b).length r,sG l (f.length+1) k] 95)).heap.size):=by have aj:=Ai aA.o.2 lR bN;exact⟨s.o.1.bM aj,aj,kT s.o.1.gG.size aj.size⟩
   (have aP:Aa (∀j u,[(iZ (b:Int):J),Z p (AJ E D n b).length r,sG l (f.length+1) k][j]?=K u->(v.alloc (.cells #[iZ (b:Int),Z p (AJ E D n b).length r,sG l (f.length+1) k] 95)).cell? ((⟨v,0,M⟩:Addr).add j)=K u):= λj u hj=>World.news_of_block (Ar.new v #[iZ (b:Int),Z p (AJ E D n b).length r,sG l (f.length+1) k] 95) j u hj);(have aM:Aa (∀F C I,I.ownsRow w 95 3 (sG F (g.length+1) C) (g.length+1) (g.flatMap BS++[iZ (b:Int),Z p (AJ E D n b).length r,sG l (f.length+1) k])->(v.alloc (.cells #[iZ (b:Int),Z p (AJ E D n b).length r,sG l (f.length+1) k] 95)).grownBy I (Z al g cl).ownBlock->LP w I (sG F (g.length+1) C) (g++[((⟨(b:Int),ints (AJ E D n b),ints ((List.range n).filter (t b))⟩:ML),(Z p (AJ E D n b).length r:J),(sG l (f.length+1) k:J))])):= λF C I a8 X=>s.o.1.add (m:=⟨(b:Int),ints (AJ E D n b),ints ((List.range n).filter (t b))⟩) ae.o.2.1 (Am aA.o.1 bN lR) a8 X);have au:Aa ((g++[((⟨(b:Int),ints (AJ E D n b),ints ((List.range n).filter (t b))⟩:ML),(Z p (AJ E D n b).length r:J),(sG l (f.length+1) k:J))]).map Prod.fst=Cg E D t n (b+1)/\List.Sublist ((g++[((⟨(b:Int),ints (AJ E D n b),ints ((List.range n).filter (t b))⟩:ML),(Z p (AJ E D n b).length r:J),(sG l (f.length+1) k:J))]).map λy=>(y.2.1,y.1.back)) ((z.take (b+1)).map λx=>(x.1,ints x.2))):=by
    refine⟨?_,?_⟩
    . rw[EE,lE W,mL,s.o.2.1];rfl
    rw[aw.o,mL];exact s.o.2.2.append (List.Sublist.refl _)
   have bg: ↑g+1<=maxLen:=oX
   have aW:(g.length+1)*56<=140737488355328:=oM;(have bi:∀u∈[(iZ (b:Int):J),Z p (AJ E D n b).length r,sG l (f.length+1) k],u.oneCell'=true:= λu Q=>by simp at Q;rcases Q with rfl|rfl|rfl<;>rfl);go_wp2_with (at_builtin;refine wpList_append_lies _ rfl _ _ 43 rfl w 95 l0 (.agg #[iZ 0,sN,sN]) 3 56 Tryz.underlying43 hl aX aY aZ rfl dC _ g (g.flatMap BS) rfl ae.o.1.iE v 1 1 [iZ (b:Int),Z p (AJ E D n b).length r,sG l (f.length+1) k] rfl rfl aP.o bi Nat.one_pos bg aW ae.o.2.2 _ rfl ?_;intro F C I aG aD aT ao;have aQ:Aa (LP w I (sG F (g.length+1) C) (g++[((⟨(b:Int),ints (AJ E D n b),ints ((List.range n).filter (t b))⟩:ML),(Z p (AJ E D n b).length r:J),(sG l (f.length+1) k:J))])):=aM.o F C I aG aD;clear aG aD aT ao);go_roundw;(case rel=>exact⟨b+1,_,K F,C,oM,by go_num,by rw[kJ,kQ],by rw[kJ,kQ];omega,aQ.o,au.o.1,au.o.2⟩);exact oI
 have aR:b=n:=oM;have bf:¬(b:Int)<(n:Int):=oM;rw[aR]at s;have S:Aa (List.Sublist (g.map λy=>(y.2.1,y.1.back)) (z.map λx=>(x.1,ints x.2))):=s.o.2.2.trans (List.Sublist.map _ (List.take_sublist _ _));go_wp2;go_ret;exact⟨_,rfl,g,s.o.1,s.o.2.1,S.o⟩
end Go.Proofs.YtjnglocdoljgkaaGreat
