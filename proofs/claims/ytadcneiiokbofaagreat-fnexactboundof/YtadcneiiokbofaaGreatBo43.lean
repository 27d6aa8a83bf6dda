import Derived.Test.YtadcneiiokbofaaGreatBo36
import Derived.Test.YtadcneiiokbofaaGreatBo41
import Derived.RangeFuncNested
import Derived.RangeFuncBound
import Derived.RangeFuncCalls
import Derived.RangeFuncLeaves
import Derived.Shelf.Abstract
import Derived.Shelf.RegionOpen
import Derived.OwnWalkIn
import Derived.TacticsInMore
import Derived.LoopNIn
import Derived.LoopIn
import Derived.Shelf.SlSortCmp.NoneTotal
namespace Go.Proofs.YtadcneiiokbofaaGreat
open Go.ChangeShapes Go.WideShapes Go.ChangeAt Go.RowKit Go.Proofs.Tryz
set_option linter.unusedVariables false
open Go.Value renaming slice → Z,agg → Am,bool → An,tuple → Ao
open Option renaming some → K,none → M
open Go renaming Value → J,World → Y,Calls → Ai,TypeId → Aj
open Go.RowKit renaming Hid → Ae,Below → Ah
open Go.Obj renaming cells → Ak
open Go.Ending renaming returned → Al
open Go.Proofs.Tryz renaming prog → Ap
open Go.World renaming alloc → Ac,ownsRow → Ab
open List renaming flatMap → Ad
set_option maxHeartbeats 8000000
set_option maxRecDepth 100000
variable {e c B g o:Nat}
structure Xq(w u:Y)(v:B2)(a e:Nat)(nx:J):Prop where
 body:AA u w v.cells 164
 ie:AA u ((w:Nat)+1) #[a,e,nx] 90
 ej:Ah w w u
theorem Xq.a7{w u c:Y}{v:B2}{a:Nat}{nx:J}(h:Xq w u v a e nx)(b:Ah u u c):Xq w c v a e nx:=⟨h.body.a7 b,h.ie.a7 b,Ar h.ej lR b⟩
def BcR(w:Y)(xs:List MI)(costs:List Int)(m:MB)(e:Ending)(a:Y):Prop:=(∃s b,e=Al (Ao #[iZ s,An b])/\(b=true->¬CZ xs costs m/\s=Cz xs costs m)/\(b=false->CZ xs costs m))/\Ah w w a
theorem MR(v:B2)(nx:J)(xs:List MI)(costs:List Int)(m:MB)(ca:Option Addr)(cc:Nat)(w:Y)(hn:xs.length<=1024)(hc:Rd w 4 (Z v.c.a v.c.n v.c.c) xs (Ad MI.cells xs))(aE: ↑xs<=v.c.c)(bu:costs.length<=1048576)(hk:Rd w 1 (Z ca costs cc) costs (Ad As costs))(aM:∀x∈xs,x.op=28->0<=x.a)(hm:∃a e:Nat,m.gZ=(a:Int)/\m.last=(e:Int)/\a<=e/\e< ↑xs):
 Ai Ap 121 #[Am v.cells,Am #[m.gZ,m.last,nx],Z ca costs cc] w (BcR w xs costs m):=by
 obtain⟨a,e,m1,m2,aA,aY⟩:=hm;obtain⟨d,aH⟩:∃d,e=a+d:=⟨e-a,oM⟩;have l:=Av aH;clear aH;have p:=Av (d5 m1 m2);rw[m1,m2];clear m1 m2 aA;have aq:Ae (∀op,0<=Ps op):= λop=>Sp op (Ez op)
 have HK:=Av (d5 hk aM);clear hk aM;rcases hc.2 with⟨q0,_⟩|⟨C,R,aW,q1,W⟩
 . omega
 simp only[lB]at q1;have HC:Ae (∀(u:Y),Ah w w u->∀(k:Nat) (x:MI),xs[k]?=K x->u ⟨C,R+k*4,M⟩=K (iZ x.op)/\u ⟨C,R+k*4+1,M⟩=K (iZ x.a)/\u ⟨C,R+k*4+2,M⟩=K (iZ x.b)/\u ⟨C,R+k*4+3,M⟩=K (iZ x.c)):= λu Q k x A=>by have i0:=Rd.elem MI.dr W k x A 0 _ rfl;have L:=Rd.elem MI.dr W k x A 1 _ rfl;have N:=Rd.elem MI.dr W k x A 2 _ rfl;have O:=Rd.elem MI.dr W k x A 3 _ rfl;rw[<-Q.cell (g8 i0),lJ]at i0;rw[<-Q.cell (g8 L)]at L;rw[<-Q.cell (g8 N)]at N;rw[<-Q.cell (g8 O)]at O;exact⟨i0,L,N,O⟩
 have HQ:=Av (d5 q1.1 q1.2.1);clear W hc q1 aW;generalize aF:v.c.c=cap at aE;have aS:=Av aF;clear aF;have E0:Ae (Xq w (Ac (Ac w (Ak v.cells 164)) (Ak #[a,e,nx] 90)) v a e nx):=⟨(AA.new _ _ _).a7 (Aq _ _),by have:=AA.new (Ac w (Ak v.cells 164)) #[a,e,nx] 90;rw[oj]at this;exact this,Ar (Aq _ _) lR (Aq _ _)⟩;generalize aQ:xs.length=n at hn aY aE HQ;have aU:=Av aQ;clear aQ;go_enter func121,ntmps121;go_upto_region 1 with fail
 refine Ax (λu=>Ae (Xq w u v a e nx)) E0 ?_;rintro U g;clear E0;have p7:=g.body.cell 7;simp only[B2.cells]at p7;simp only[HQ.1,HQ.2,aS.o]at p7;obtain⟨b0,b1,b2⟩:=B9 g.ie;have aA:a<=e:=by have:=l.o;omega
 have bg:IntKind.i64.wrap ((e:Int)+1)=((e+1:Nat):Int):=by rw[oC _ ⟨oM,oM⟩];omega
 go_upto_region 3 with fail
 have aJ:e+1-a=d+1:=by have:=l.o;omega
 rw[aJ];generalize aI:R+a*4=o2;have aG:d+1<=cap-a:=by have:=l.o;omega
 generalize cap-a=cp at aG⊢;have HO:=Av aI;have aR:Ae (∀(u:Y),Ah w w u->∀(j:Nat) (x:MI),xs[a+j]?=K x->u ⟨C,o2+j*4,M⟩=K (iZ x.op)/\u ⟨C,o2+j*4+1,M⟩=K (iZ x.a)/\u ⟨C,o2+j*4+2,M⟩=K (iZ x.b)/\u ⟨C,o2+j*4+3,M⟩=K (iZ x.c)):= λu Q j x A=>by
  have e:o2+j*4=R+(a+j)*4:=by rw[<-HO];omega
  rw[e];exact HC.o u Q (a+j) x A
 clear aI HO HC aJ p7 b0 b1 b2 bg;generalize aw:d+1=V at aG⊢;have E:=Av aw;clear aw;have bj:V<=1048576:=by have:=E.o;have:=l.o;omega
 go_loopw [6,7,8,10,22] (λ_ _ s _ i wr=>∃(j:Nat) (c0:Int),j<=V/\s=iZ c0/\i=iZ j/\Ae (Xq w wr v a e nx/\EP c0/\(∀t x,t<j->xs[a+t]?=K x->KO costs x)/\c0=El xs costs a j)) (λ_ _ _ _ i _=>V-(intOf i).toNat)
 case atStart=>exact⟨0,0,oM,rfl,rfl,g,⟨oM,oM⟩, λt x ht=>absurd ht (Nat.not_lt_zero _),rfl⟩
 case round=>
 clear g;obtain⟨j,c0,hj,rfl,rfl,g⟩:=hrel;by_cases bC:j<V;case neg=>
  obtain rfl:j=d+1:=by have:=E.o;omega
  have S:Ae (Cz xs costs m=c0):=by show Cz xs costs m=c0;unfold Cz;rw[p.1,p.2,lD,lD,g.2.2.2,show e+1-a=d+1 by have:=l.o;omega]
  have aT:Ae (¬CZ xs costs m):= λhB=>by
   rcases hB with⟨t,x,L,N,O,i4⟩|hB
   . rw[p.1]at L;rw[p.2]at N;exact i4 (g.2.2.1 (t-a) x (by have:=l.o;omega) (by rw[show a+(t-a)=t from oM];exact O))
   rw[S]at hB;have:=g.2.1.2;omega
  go_wp2_with fail;exact lO (v:=Ao #[c0,true]) (by simp[results,results121,go_sem]) rfl ⟨⟨c0,true,rfl, λ_=>⟨aT,S.symm⟩, λh=>by cases h⟩,g.1.ej⟩
 have bF:(j:Int)<(V:Int):=oM;obtain⟨x,A⟩:∃x,xs[a+j]?=K x:=⟨_,an (by rw[aU];have:=E.o;have:=l.o;omega)⟩;obtain⟨i0,L,N,O⟩:=aR.o wr g.1.ej j x A;have F:=Av A;clear A;go_upto_region 5 with fail
 have E5:Ae (Xq w (Ac wr (Ak #[iZ x.op,iZ x.a,iZ x.b,iZ x.c] 79)) v a e nx/\AA (Ac wr (Ak #[iZ x.op,iZ x.a,iZ x.b,iZ x.c] 79)) wr #[iZ x.op,iZ x.a,iZ x.b,iZ x.c] 79):=⟨g.1.a7 (Aq _ _),AA.new _ _ _⟩
 generalize wr.heap.size=X at E5⊢;refine Ax (λu=>Ae (Xq w u v a e nx/\AA u X #[iZ x.op,iZ x.a,iZ x.b,iZ x.c] 79)) E5 ?_
 rintro U5 E6;clear E5 i0 L N O;obtain⟨d0,d1,d2,d3⟩:=A7 E6.2;go_wp2_with fail;refine(PB x.op U5).mono ?_;rintro e u3 ⟨rfl,bb⟩;obtain⟨si,f,fo,am,aX⟩:=Ez x.op;rw[am];have bB:=KD si f fo;have aj:=Av (Sq am);have B:=Av (d5 (E6.1.a7 bb) (E6.2.a7 bb));clear bb E6 d0 d1 d2 d3 am;obtain⟨d0,d1,d2,d3⟩:=A7 B.2;obtain⟨br,bt⟩:=aX;have bp:=g.2.1.1;have bq:=g.2.1.2;by_cases H:x.op=28;case neg=>
  have bG:(x.op==28)=false:=by simpa using H
  go_wp2_with fail;refine(GX (c0+f) u3).mono ?_;rintro e u4 ⟨rfl,rfl⟩;by_cases G:c0+f<=4294967295
  . rw [decide_eq_true (show 0<=c0+f/\c0+f<=4294967295 from⟨oM,G⟩)]
    go_wp2_with fail;go_roundw;case rel=>
     refine⟨j+1,c0+f,oM,rfl,by go_num,B.1,⟨oM,G⟩, λt y ht I=> ?_,?_⟩
     . by_cases e:t=j
       . subst e;rw[F]at I;(cases I);exact λq=>absurd q H
       exact g.2.2.1 t y oM I
     (have h9:El xs costs a (j+1)=El xs costs a j+EW costs x:=by simp only[El,F.o]);rw[h9,<-g.2.2.2];unfold EW;rw[lS H,aj];omega
    case measure=>exact oI
  rw[mU (show¬(0<=c0+f/\c0+f<=4294967295)from λh=>G h.2)]
  have D:=Av (CZ.iW aq p.1 p.2 (k:=j) (by have:=E.o;have:=l.o;omega) (d:=c0+f) (.inr ⟨x,F,by have:=E.o;have:=l.o;omega,by rw[<-g.2.2.2,aj];exact Int.le_refl _⟩) oM oM);go_wp2_with fail;exact lO (v:=Ao #[iZ 0,false]) (by simp[results,results121,go_sem]) rfl ⟨⟨0,false,rfl,(λh=>by cases h), λ_=>D.o⟩,B.1.ej⟩
 have aP:=HK.2 x (lA F) H;obtain⟨r,ao⟩:=mA aP;clear aP;have P:=Av (d5 H ao);have S:Ae (¬KO costs x->CZ xs costs m):= λhq=>.inl ⟨a+j,x,by rw[p.1];omega,by rw[p.2];have:=E.o;have:=l.o;omega,F,hq⟩
 rw[ao]at d1;rw[H]at d0;clear H ao;go_wp2_with fail;refine(Bf (r:Int) (costs:Int) u3).mono ?_;rintro e u4 ⟨rfl,rfl⟩;by_cases ae:r< ↑costs
 case neg=>
  rw[mU (show¬(0<=(r:Int)/\(r:Int)<(costs:Int))from λh=>ae oM)]
  have D:=Av (S.o λh=>by have:=(h P.1).1;rw[P.2,lD]at this;exact ae this);go_wp2_with fail;exact lO (v:=Ao #[iZ 0,false]) (by simp[results,results121,go_sem]) rfl ⟨⟨0,false,rfl,(λh=>by cases h), λ_=>D.o⟩,B.1.ej⟩
 rw[decide_eq_true (show 0<=(r:Int)/\(r:Int)<(costs:Int)from⟨oM,oM⟩)]
 obtain⟨z,hz⟩:∃z,costs[r]?=K z:=⟨_,an ae⟩;obtain⟨ga,oa,ea,kz⟩:∃ga oa,ca=K ⟨ga,oa,M⟩/\u4 ⟨ga,oa+r,M⟩=K ↑z:=by
  have:=Rd.a7 HK.1 B.1.ej lR;rcases this.2 with⟨e0,_⟩|⟨g1,o1,bi,e1,hc⟩
  . omega
  simp only[lB,mB]at e1;exact⟨g1,o1,e1.1,hc r _ (Di hz)⟩
 subst ea;have T:Ae (cf costs x.a.toNat=z/\x.a.toNat< ↑costs):=⟨by rw[P.2,lD];exact Ed hz,by rw[P.2,lD];exact ae⟩
 have bx:(r:Int)<(costs:Int):=oM;clear hz;go_wp2_with fail;refine(GX z u4).mono ?_;rintro e u5 ⟨rfl,rfl⟩;by_cases ah:0<=z/\z<=4294967295
 case neg=>rw[mU ah];have D:=Av (S.o λh=>ah (by have:=(h P.1).2;rw[T.1]at this;exact this));go_wp2_with fail;exact lO (v:=Ao #[iZ 0,false]) (by simp[results,results121,go_sem]) rfl ⟨⟨0,false,rfl,(λh=>by cases h), λ_=>D.o⟩,B.1.ej⟩
 rw[decide_eq_true ah];obtain⟨aZ,bf⟩:=ah;have au:Ae (El xs costs a (j+1)=c0+f+z):=by
  have h9:El xs costs a (j+1)=El xs costs a j+EW costs x:=by simp only[El,F.o]
  show El xs costs a (j+1)=c0+f+z;rw[h9,<-g.2.2.2];unfold EW;rw[lZ P.1,aj.o,T.1];omega
 go_wp2_with fail;refine(GX (c0+f+z) u5).mono ?_;rintro e u6 ⟨rfl,rfl⟩;by_cases G:c0+f+z<=4294967295
 . rw [decide_eq_true (show 0<=c0+f+z/\c0+f+z<=4294967295 from⟨oM,G⟩)]
   go_wp2_with fail;go_roundw;case rel=>
    refine⟨j+1,c0+f+z,oM,rfl,by go_num,B.1,⟨oM,G⟩, λt y ht I=> ?_,au.symm⟩;by_cases e:t=j
    . subst e;rw[F]at I;(cases I);exact λ_=>⟨T.2,by rw[T.1];exact aZ,by rw[T.1];exact bf⟩
    exact g.2.2.1 t y oM I
   case measure=>exact oI
 rw[mU (show¬(0<=c0+f+z/\c0+f+z<=4294967295)from λh=>G h.2)]
 have D:=Av (CZ.iW aq p.1 p.2 (k:=j+1) (by have:=E.o;have:=l.o;omega) (d:=c0+f+z) (.inl (by rw[au];exact Int.le_refl _)) oM oM);go_wp2_with fail;exact lO (v:=Ao #[iZ 0,false]) (by simp[results,results121,go_sem]) rfl ⟨⟨0,false,rfl,(λh=>by cases h), λ_=>D.o⟩,B.1.ej⟩
section
open Go.Shelf
attribute [local go_sem] Oper.semAt_some
def LV.i6(x:LV):Array J:=#[x.h,Z x.xa x.xn x.xc,Z x.ya x.yn x.yc]
def JV(W:Y)(b a:Nat)(c:List LV):Prop:=∀j (x:LV),c[j]?=K x->W ⟨b,a+j*3,M⟩=K ↑x.h/\W ⟨b,a+j*3+1,M⟩=K (Z x.xa x.xn x.xc)/\W ⟨b,a+j*3+2,M⟩=K (Z x.ya x.yn x.yc)
theorem JV.a7{W d:Y}{b f:Nat}{g:List LV}(h:JV W b f g)(a:b<e)(c:Ah e W d):JV d b f g:= λj x m=>by obtain⟨i,k,l⟩:=h j x m;exact⟨(c.cell (p:=⟨b,_,M⟩) a).trans i,(c.cell (p:=⟨b,_,M⟩) a).trans k,(c.cell (p:=⟨b,_,M⟩) a).trans l⟩
theorem Q5(a:Option Addr)(n c:Nat)(w:Y):Ai Ap 158 #[Z a n c] w λe b=>e=Al (.func (.func 174) #[] #[.pointer w])/\b=Ac w (Ak #[Z a n c] 82):=by go_enter func158,ntmps158;go_wp2;go_ret;exact⟨rfl,rfl⟩
def Li(W:Y)(e:Nat)(a:Option Addr)(d:List LV):Prop:=d≠[]->∃b c,a=K ⟨b,c,M⟩/\b<e/\JV W b c d
theorem Li.a7{W d:Y}{a:Option Addr}{f:List LV}(h:Li W c a f)(j:Ah c W d):Li d c a f:= λk=>by obtain⟨b,l,g,e,i⟩:=h k;exact⟨b,l,g,e,i.a7 e j⟩
theorem Q4(n:Nat)(T:1<=n)(l s h cap:Nat)(a:Option Addr)(c:List LV)(S:c.length<=1048576)(d t:List LV->Y->Prop)(W:Y)(U:h<= ↑W)(E:AbidesFrom W d)
 (H:∀f x W,d f W->f.length< ↑c->YieldAt Fence.wide (n-1) Ap l #[.agg x.i6] W λe g=>(e=Al true/\d (f++[x]) g/\Ah h W g)\/(e=Al false/\t (f++[x]) g))
 (P:W.cell? s=K (Z a c cap)) (I:Li W h a c) (D:d [] W):
 CallsIn Fence.wide n Ap 174 #[.func (.yield l) #[] #[],.pointer s] W λe g=>(∃v,e=Al v)/\((∃B,B=c/\d B g)\/(∃f,f<+:c/\t f g)):=by
 refine callsIn_of_wp func174 rfl trivial ?_ rfl;simp only[ntmps174,List.size_toArray,mW,mh,Nat.reduceAdd,Nat.reduceSub,Array.replicate_succ,Array.replicate_zero,List.push_toArray,List.append_toArray,mw,mM];gi_wp2
 gi_loopw [7] (λi wr=>∃k:Nat,k<= ↑c/\i=iZ k/\d (c.take k) wr/\Ah h W wr) (λi _=> ↑c-(intOf i).toNat)
 case atStart=>exact⟨0,nZ _,rfl,D,lu _ _⟩
 obtain⟨k,R,rfl,j,p⟩:=hrel;by_cases m:k< ↑c
 . obtain⟨x,q⟩:∃x,c[k]?=K x:=⟨_,an m⟩;obtain⟨b,V,C,Q,A⟩:=I.a7 p (λe=>by rw[e]at m;exact absurd m sP);obtain⟨c0,c1,c2⟩:=A k x q;subst C;have w:d (c.take k) (Ac wr (Ak x.i6 92)):=E _ _ _ M j (World.grownBy_alloc wr _ M) (λr e=>by cases e);obtain⟨fn,tmps,assign,body,N,y⟩:=H _ x _ w (by rw[mY];omega);(have z:c.take (k+1)=c.take k++[x]:=by rw[List.take_add_one,q];rfl);have u:Ah h W (Ac wr (Ak x.i6 92)):=p.alloc (by have:=p.size;omega) _;simp only[LV.i6]at N y u;clear w q A;(gi_wp2);refine y.mono ?_;rintro e O (⟨rfl,F,L⟩|⟨rfl,G⟩)
   . (gi_wp2);go_roundw;(case rel=>exact⟨k+1,oM,sP,by rw[z];exact F,u.trans L⟩);exact oI
   (gi_wp2);refine lO (results_none rfl _ _ _) rfl ?_;exact⟨⟨_,rfl⟩,.inr ⟨_,by rw[<-z];exact List.take_prefix _ _,G⟩⟩
 obtain rfl:k=c.length:=oM;rw[List.take_length]at j;gi_wp2
 go_end0;exact⟨⟨_,rfl⟩,.inl ⟨_,rfl,j⟩⟩
theorem Nm(n:Nat)(s:1<=n)(c d cap:Nat)(a:Option Addr)(b:List LV)(r:b.length<=1048576)(w:Y)(g:d<= ↑w)(f:w c=K (Z a b cap))(q:Li w d a b):
 SeqStopsK Fence.wide n Ap 174 #[.pointer c] (λx:LV=>#[.agg x.i6]) (Ah d) (λu=>u=b) (λt=>t<+:b) b w:= λl h i W e k _ m j=>
 Q4 n s l c d cap a b r h i W (lQ g e.size) k m (by rw[e.cell (p:=⟨c,0,M⟩) (g8 f)];exact f) (q.a7 (e.mono g)) j
theorem Lu(w:Y)(x y z:J)(t:Aj):∀j u,[x,y,z][j]?=K u->(Ac w (Ak #[x,y,z] t)) ((⟨w,0,M⟩:Addr).add j)=K u:= λj u a=>by
 have h:=(AA.new w #[x,y,z] t).cell j;rw[lE,a]at h;have e:(⟨w,0,M⟩:Addr).add j=⟨w,j,M⟩:=by simp[Addr.add];omega
 rw[e];exact h
def Ho(a:List LV):List J:=Ad LV.enc a
theorem TU(a:List LV)(x:LV):Ho (a++[x])=Ho a++[iZ x.h,Z x.xa x.xn x.xc,Z x.ya x.yn x.yc]:=by simp[Ho,LV.enc]
theorem Lm(g cap:Nat)(a:Option Addr)(k:List LV)(w:World)(y:k.length<=1048576)(L:w g=some (Z a k cap))(q:Li w w a k):
 Ai Ap 190 #[sN,.func (.func 174) #[] #[.pointer g]] w λe E=>∃V,e=Al V/\Ab E w 92 3 V k (Ho k)/\Ah w w E:=by
 refine(callsIn_wide (n:=5)).1 ?_;obtain⟨i0,R,ae,ah,aj⟩:=mN OP;refine callsIn_of_wp_marks func190 rfl trivial ?_ rfl;simp only[ntmps190,List.size_toArray,mW,mh,Nat.reduceAdd,Nat.reduceSub,Array.replicate_succ,Array.replicate_zero,List.push_toArray,List.append_toArray,mw,mM];gi_wp2
 have F:=Boxed.new w 82 sN;have p:Ah w w (Ac w (Ak #[sN] 82)):=Aq _ _;refine wpIn_rangeFunc_ownH rfl oM (gf:=174) (lb:=#[.pointer g]) rfl trivial (enters_of func174 kR rfl)
  (Nm 4 oM g w cap a k y _ sP (Au p L) (q.a7 p)) belowK_t (belowK_b sP) (lu _ _) (λ_=>rfl)
  (λb W=>(∃v,Boxed W w 82 v/\Ab W w 92 3 v b (Ho b)/\True)/\Ah w w W)
  (λ_ _ _=>False)
  (OwnFrom.and (Own.from (holdsRow_own w w 82 92 3 (λb:List LV=>b.length) (λb=>Ho b) (λb v=>True)) _) (ownFrom_below lR sP))
  (λ_ _ _ _ _ s _ _=>s)
  ⟨⟨_,F,mI _ _ _ _,trivial⟩,p⟩
  (λx a' W=>∃Bx, ↑w<Bx/\AA W Bx x.i6 92/\a'={tmps:=#[sN,.func (.func 174) #[] #[.pointer g],.pointer w,undef,sN,.pointer Bx,.func (.func 174) #[] #[.pointer g],.agg x.i6,undef,undef,undef,undef,undef],defers:=[]})
  (λx a' _ X Y row s P B=>by obtain⟨Bx,G,m,H⟩:=s;refine⟨Bx,G,?_,H⟩;have:=m.lt;unfold AA at m⊢;rw[P.block Bx this (λe=>by obtain⟨_,o,z,q⟩:=B Bx e.symm;rw[m]at z;cases z;cases q)];exact m)
  ?assign ?body ?done ?stop
 case assign=>
  rintro l b x W K ⟨⟨v,f,j,_⟩,d⟩ i;simp only[LV.i6]at i⊢;gi_wp2
  exact i _ _ ((KeepsOthers.alloc _ _).from _) ((lu _ W).alloc d.size _) ⟨⟨v,f.alloc _,j.alloc _,trivial⟩,d.alloc d.size _⟩ ⟨W,f.lt,AA.new W _ _,rfl⟩
 case body=>
  rintro l b x a' W y ⟨r,B⟩ ⟨⟨v,f,j,_⟩,d⟩ ⟨Bx,ao,t,rfl⟩ aw;have O:=f.cell;simp only[LV.i6]at t;obtain⟨x0,x1,x2⟩:=B9 t;simp only[LV.i6];gi_wp2_with (gi_at_builtin;refine wpListIn_append_own _ rfl _ _ 82 rfl w 92 i0 (.agg #[iZ 0,sN,sN]) 3 56 underlying82 R ae ah aj rfl dC _ _ _ rfl (j.alloc _) W 1 1 [iZ x.h,Z x.xa x.xn x.xc,Z x.ya x.yn x.yc] rfl rfl (Lu _ _ _ _ _) (by simp[Value.oneCell']) oX oM (by have:=d.size;simp;omega) ?_;intro v' w1 A Q _;obtain⟨g',am,rfl⟩:=ownsRow_succ A;obtain⟨C,U,T,S,u⟩:=f.appended dC j d.size lR A Q;have aq:=C.cell;have au:=C.frozen)
  exact⟨S.from _,u,⟨⟨_,U,by rw[TU];simpa using T,trivial⟩,d.trans u⟩⟩
 case done=>
  rintro D ys W N rfl ⟨⟨v,f,j,_⟩,I⟩ i;have O:=f.cell;gi_wp2
  refine⟨sP,.inl ⟨_,_,rfl,run_takeDeferred i,?_⟩⟩;exact⟨_,results_tmp rfl _ _ _,v,rfl,ownsRow_putObj j _ i rfl,I.trans (belowK_b (w:=w) lR W D _ _ (by simp at N;omega) i rfl rfl)⟩
 case stop=>rintro D c b W _ _ h _;exact h.elim
end
section
open Go.Shelf
def MN(ts:List LV):Prop:=ts.Pairwise λa b=>ltOf LV.cmp b a=false
theorem LV.iM(x:LV):x.enc.length=3:=rfl
theorem JV.ij{w:Y}{a:List LV}(h:Ab w B 92 3 (sG g a c) a (Ho a)):JV w g 0 a:= λj x d=>by
 have b:∀i u,(Ho a)[i]?=K u->w ⟨g,0+i,M⟩=K u:= λi u e=>by rw[mQ,ms h i (by have f:=(i8.1 e).1;have k:=h.1;omega)];exact e
 exact⟨by have:=Rd.elem LV.iM b j x d 0 _ rfl;rwa [lJ]at this,Rd.elem LV.iM b j x d 1 _ rfl,Rd.elem LV.iM b j x d 2 _ rfl⟩
theorem ZD(j:Nat):j % 3=0\/j % 3=1\/j % 3=2:=oM
theorem Yc{w:Y}{a:List LV}(h:Ab w B 92 3 (sG g a c) a (Ho a)):Go.Sort.HoldsK LV.enc 3 w g 0 a.toArray:= λj b=>by
 rw[Go.Sort.size_flatK]at b;have l:j< ↑a*3:=by simpa using b
 have d:j / 3<a.length:=oM;obtain⟨_,f,e⟩:=AD h;refine⟨?_,frozen_of_row w g (0+j) f _ e⟩;rw[Go.Sort.get_flatK _ _ _ _ b];have k:a[j / 3]?=K a[j / 3]:=an d;have i:(a.toArray[j / 3]!)=a[j / 3]:=by rw[getElem!_pos _ _ (by simpa using d)];simp
 obtain⟨c0,c1,c2⟩:=JV.ij h _ _ k;rw[i];rcases ZD j with e|e|e
 . rw[e,show 0+j=0+j / 3*3 from oM,c0];rfl
 . rw[e,show 0+j=0+j / 3*3+1 from oM,c1];rfl
 rw[e,show 0+j=0+j / 3*3+2 from oM,c2];rfl
theorem SG{w:Y}{d:Array LV}(h:Go.Sort.HoldsK LV.enc 3 w g 0 d):JV w g 0 d.toList:= λj x k=>by
 have a:j<d.size:=by have:=(i8.1 k).1;simpa using this
 have l:(d[j]!)=x:=by rw[getElem!_pos d j a];have:=(i8.1 k).2;simpa using this
 have b:=(h.cell (i:=j) (c:=0) a oM).1;have e:=(h.cell (i:=j) (c:=1) a oM).1;have f:=(h.cell (i:=j) (c:=2) a oM).1;rw[l]at b e f;exact⟨by rw[lJ]at b;exact b,e,f⟩
theorem Qg{w:Y}{n:Nat}{os:Array Obj}(d:Array LV):w.grownBy (sortWorldK LV.enc 3 w g 0 n d os) (K g):=by
 refine⟨rfl,rfl,rfl,size_sortWorldK_c _ _ _ _ _ _ _ _, λk a b=> ?_⟩;unfold sortWorldK Go.Sort.putRowK;rw[Go.Sort.heap_grow_old _ _ (by simpa[Go.Sort.putRow,Go.Sort.mapBlock,Go.Sort.ahead]using a)];have:g≠k:= λe=>b (by rw[e])
 simp[Go.Sort.putRow,Go.Sort.mapBlock,Go.Sort.ahead,Array.getElem?_modify,this]
theorem Uq(B g cap:Nat)(ss:List LV)(w:Y)(F:ss.length<=1048576)(h:Ab w B 92 3 (sG g ss cap) ss (Ho ss)):
 Ai Ap 173 #[sG g ss cap,.func (.func 152) #[] #[]] w λe c=>e=Al (Ao #[])/\(∃ts,ts.Perm ss/\MN ts/\JV c g 0 ts)/\w.grownBy c (K g):=by
 have d:=Yc h;have u:=(AD h).2;have f:g<w.heap.size:=by obtain⟨D,e⟩:=u;exact(lK.1 e).1
 have b:=AnyQ.slices_SortFunc Tryz.lSortF 3 Tryz.isAgg92 Tryz.sizeOf92 LV.enc (λ_=>rfl) (λx v r=>by simp[LV.enc]at r;rcases r with rfl|rfl|rfl<;>rfl) LV.cmp LV.swo 152 #[] g 0 cap ss.toArray w (enters_of func152 kR rfl) (λm os E _ x y=>QP x y _) d f oT;change Ai Ap 173 #[sG g ss.toArray.size cap,_] _ _ at b;rw[List.size_toArray]at b;refine b.mono ?_;rintro e c ⟨rfl,a,n,os,⟨l,_,p⟩,C,rfl⟩;have q:a.size=ss.length:=by simpa using l
 refine⟨rfl,⟨a.toList,?_,?_,SG (holdsK_sortWorldK_c _ _ _ _ _ _ _ _ _ d f l)⟩,Qg a⟩
 . (have s:a.extract 0 ss=a:=by rw[<-q];simp);have t:ss.toArray.extract 0 ss=ss.toArray:=sP;rw[s,t]at p;simpa using p
 unfold MN;rw[nS];intro i j z k A;have:=C i j (nZ _) A (by simpa[q]using k);rw[getElem!_pos _ _ (by simpa using k),getElem!_pos _ _ (by simpa using z)]at this;simpa using this
theorem OE(c cap:Nat)(a:Option Addr)(b:List LV)(w:Y)(k:b.length<=1048576)(h:w c=K (Z a b cap))(i:Li w w a b):
 Ai Ap 172 #[.func (.func 174) #[] #[.pointer c]] w λe j=>∃V,e=Al V/\Ab j w 92 3 V b (Ho b)/\Ah w w j:=by
 have H:=Av (Lm c cap a b w k h i);clear h i;go_enter func172,ntmps172;go_wp2_with fail;refine H.mono ?_;rintro e u ⟨V,rfl,f,g⟩;have d:=Av (d5 f g);clear f g;go_wp2;go_ret;exact⟨V,rfl,d.1,d.2⟩
def SdL(w b:Y)(V:J)(d ts:List LV):Prop:=ts.Perm d/\MN ts/\(∃a c,V=Z a ts.length c/\(ts≠[]->∃g,a=K ⟨g,0,M⟩/\w.heap.size<=g/\JV b g 0 ts))/\Ah w.heap.size w b
theorem K5(f cap:Nat)(a:Option Addr)(b:List LV)(w:Y)(s:b.length<=1048576)(q:w.cell? ⟨f,0,M⟩=K (Z a b.length cap))(r:Li w w.heap.size a b):
 Ai Ap 157 #[.func (.func 174) #[] #[.pointer f],.func (.func 152) #[] #[]] w λe D=>∃V ts,e=Al V/\SdL w D V b ts:=by
 have H:=Av (OE f cap a b w s q r);clear q r;go_enter func157,ntmps157;go_wp2_with fail;refine H.mono ?_;rintro e u ⟨V,rfl,d,l⟩;have i:=Av l;rcases Bo d with⟨rfl,t⟩|⟨g,c,rfl⟩
 . have C:b=[]:=mL t;have m:=AnyF.slices_SortFunc_none Tryz.lSortF M 0 (.func (.func 152) #[] #[]) u;change Ai Ap 173 _ _ _ at m;have k:=Av m;clear m d l t H;go_wp2_with fail;refine k.mono ?_;rintro e z ⟨rfl,rfl⟩;go_wp2;go_ret;exact⟨_,[],rfl,by rw[C],List.Pairwise.nil,⟨M,0,rfl, λh=>absurd rfl h⟩,i⟩
 have p:=(AD d).1;have k:=Av (Uq w g c b u s d);clear d l H;go_wp2_with fail;refine k.mono ?_;rintro e z ⟨rfl,⟨ts,n,v,x⟩,y⟩;have A:Ae (SdL w z (sG g b c) b ts):=⟨n,v,⟨_,c,by rw[n.length_eq], λ_=>⟨g,rfl,p,x⟩⟩,i.grown y i.size (λj B=>by cases B;exact p)⟩;clear n v x y;go_wp2;go_ret;exact⟨_,ts,rfl,A⟩
end
section
open Go.Shelf
attribute [local go_sem] Oper.semAt_some
structure JT(gC gS:Nat)(W W':World):Prop where
 size:(W:Nat)<= ↑W'
 same:∀k o,W.heap[k]?=K o->o.isCells=true->k≠gC->k≠gS->W'.heap[k]?=K o
section
variable {gC gS:Nat} {X Y Z:World}
theorem JT.trans(h:JT gC gS X Y)(a:JT gC gS Y Z):JT gC gS X Z:=⟨lQ h.size a.size, λk o e b c d=>a.same k o (h.same k o e b c d) b c d⟩
theorem JT.refl(gC gS:Nat)(W:World):JT gC gS W W:=⟨Nat.le_refl _, λ_ _ h _ _ _=>h⟩
theorem JT.of(h:Ah X X Y):JT gC gS X Y:=⟨h.size, λk o a _ _ _=>(h.block k (lK.1 a).1).trans a⟩
theorem JT.put{w:World}(W:World)(l:Nat)(o b:Obj)(_: ↑w<=l)(h:W.heap[l]?=K o)(d:o.isCells=false)(_:o.isWalk=false):JT gC gS W (W.putObj l b):=⟨(grownBy_putObj' W l b).size, λk q a c _ _=>((grownBy_putObj' W l b).block k (lK.1 a).1 (λe=>by cases e;rw[h]at a;cases a;rw[d]at c;cases c)).trans a⟩
theorem JT.cell(h:JT gC gS X Y){v:J}(a:X ⟨g,o,M⟩=K v)(c:g≠gC)(d:g≠gS):Y ⟨g,o,M⟩=K v:=by obtain⟨q,b,e⟩:=cells_of_cell a;refine(pL ?_).trans a;rw[h.same g q b e c d,b]
theorem JT.row(h:JT gC gS X Y){f:List LV}(i:JV X g o f)(d:g≠gC)(e:g≠gS):JV Y g o f:= λj x k=>by obtain⟨a,b,c⟩:=i j x k;exact⟨h.cell a d e,h.cell b d e,h.cell c d e⟩
end
theorem M5(a:Option Addr)(n c:Nat)(w:World):Ai Ap 122 #[.slice a n c] w λe b=>e=Al (.func (.func 156) #[] #[.pointer w,.pointer (K ⟨(w:Nat)+1,0,M⟩)])/\(AA b w #[.slice a n c] 82/\AA b ((w:Nat)+1) #[.func (.func 152) #[] #[]] 229/\Ah w w b):=by have f:=Ig Ap;have d:=Bu w #[.slice a n c] #[.func (.func 152) #[] #[]] 82 229;go_enter func122,ntmps122;go_wp2;go_ret;exact⟨rfl,d⟩
theorem M4(n:Nat)(hn:1<=n)(l y z cap gC gS:Nat)(a:Option Addr)(c:List LV)(hl:c.length<=1048576)(d U:List LV->World->Prop)(W:World)(aE:gC< ↑W)(aF:gS< ↑W)(hJ:AbidesFrom W d)
 (hY:∀j x W,x∈c->d j W->j.length< ↑c->YieldAt Fence.wide (n-1) Ap l #[Am x.i6] W λe q=>(e=Al true/\d (j++[x]) q/\JT gC gS W q)\/(e=Al false/\U (j++[x]) q))
 (ae:W.cell? y=K (.slice a c cap)) (s:W.cell? z=K (.func (.func 152) #[] #[])) (hc:Li W W a c) (X:d [] W):
 CallsIn Fence.wide n Ap 156 #[.func (.yield l) #[] #[],.pointer y,.pointer z] W λe q=>(∃v,e=Al v)/\((∃R,(R.Perm c/\MN R)/\d R q)\/(∃j,(∃ts,ts.Perm c/\MN ts/\j<+:ts)/\U j q)):=by
 refine callsIn_of_wp func156 rfl trivial ?_ rfl;simp only[ntmps156,List.size_toArray,mW,mh,Nat.reduceAdd,Nat.reduceSub,Array.replicate_succ,Array.replicate_zero,List.push_toArray,List.append_toArray,mw,mM];refine wpIn_wide.2 ?_;have H:=Av (d5 ae (d5 s (d5 hc (d5 X (d5 hJ hY)))));clear ae s hc X hJ hY;have A:∀m,Ah W W m->m y=K (.slice a c cap)/\m z=K (.func (.func 152) #[] #[]):= λm hb=>⟨Au hb H.1,Au hb H.2.1⟩
 go_upto_region 0 with fail
 refine wp_region_held_drew (S:= λm=>m y=K (.slice a c cap)/\m z=K (.func (.func 152) #[] #[])) kR (A _ (At _)) (λC=> ?_)
 have E:=Av (At W);generalize W.drew=B at E C⊢;refine AH 0 ?_;refine AH 2 ?_;refine AH 5 ?_;refine CX 1 ?_;intro F t;rw[lZ kR];go_simp;refine(Q5 a c cap B).mono ?_;rintro e u3 ⟨rfl,rfl⟩;have p:Ae (Ah W W (Ac B (Ak #[.slice a c cap] 82))):=Ar E lR (Aq _ _);have G:=(AA.new B #[.slice a c cap] 82).cell 0;simp only[lE,lC]at G;go_simp;refine t.o _ _ (A _ p) (λC=> ?_);clear t F;refine CX 3 ?_;intro F t;rw[lZ kR];go_simp;refine(K5 B cap a c _ hl G (λP=>by obtain⟨b,aA,I,h2,L⟩:=(H.2.2.1.a7 p) P;exact⟨b,aA,I,by have:=p.size;omega,L⟩)).mono ?_;rintro e u ⟨V,ts,rfl,Q,t2,⟨sa,sc,rfl,t3⟩,t4⟩;have T:=Av (Ar p lR t4);have f:Ae (ts.Perm c/\MN ts/\(ts≠[]->∃g,sa=K ⟨g,0,M⟩/\W.heap.size<=g/\JV u g 0 ts)):=⟨Q,t2, λP=>by obtain⟨g,I,h2,L⟩:=t3 P;exact⟨g,I,by have:=p.size;omega,L⟩⟩
 have aG:ts.length<=1048576:=by rw[Q.length_eq];exact hl
 clear Q t2 t3 t4 G;go_simp;refine t.o _ _ (A _ T) (λC=> ?_);clear t F;refine AH 4 ?_ (hw:=kR);go_simp;refine wpAnyH_done kR ?_ _;clear C A E p;have aj:d [] u:=H.2.2.2.2.1 [] W u M H.2.2.2.1 (D7 T) (λr e=>by cases e);go_wp2_with fail;refine(wpIn_wide (n:=n)).1 ?_;gi_loopw [11] (λi wr=>∃k:Nat,k<= ↑ts/\i=iZ k/\d (ts.take k) wr/\JT gC gS u wr) (λi _=> ↑ts-(intOf i).toNat)
 case atStart=>exact⟨0,nZ _,rfl,by simpa using aj,JT.refl _ _ _⟩
 clear aj;obtain⟨k,hk,rfl,N,am⟩:=hrel;by_cases O:k< ↑ts
 . obtain⟨x,D⟩:∃x,ts[k]?=K x:=⟨_,an O⟩;obtain⟨g,ea,hg,ao⟩:=f.2.2 (λe=>by rw[e]at O;exact absurd O sP);obtain⟨c0,c1,c2⟩:=am.row ao oM oM k x D;rw[mQ]at c0 c1 c2;subst ea;have ah:d (ts.take k) (Ac wr (Ak x.i6 92)):=H.2.2.2.2.1 _ _ _ M N (World.grownBy_alloc wr _ M) (λr e=>by cases e);obtain⟨fn,tmps,assign,body,hy,hR⟩:=H.2.2.2.2.2 _ x _ (f.1.mem_iff.1 (lA D)) ah (by rw[mY,<-f.1.length_eq];omega);(have hT:ts.take (k+1)=ts.take k++[x]:=by rw[List.take_add_one,D];rfl);have s:JT gC gS u (Ac wr (Ak x.i6 92)):=am.trans (JT.of (Aq _ _));simp only[LV.i6]at hy hR s;clear ah D ao;(gi_wp2);refine hR.mono ?_;rintro e W3 (⟨rfl,aq,aw⟩|⟨rfl,au⟩)
   . (gi_wp2);go_roundw;(case rel=>exact⟨k+1,oM,sP,by rw[hT];exact aq,s.trans aw⟩);exact oI
   (gi_wp2);refine lO (results_none rfl _ _ _) rfl ?_;exact⟨⟨_,rfl⟩,.inr ⟨_,⟨ts,f.1,f.2.1,by rw[<-hT];exact List.take_prefix _ _⟩,au⟩⟩
 obtain rfl:k=ts.length:=oM;rw[List.take_length]at N;gi_wp2
 go_end0;exact⟨⟨_,rfl⟩,.inl ⟨_,⟨f.1,f.2.1⟩,N⟩⟩
theorem KW(n:Nat)(L:1<=n)(m p cap gC gS:Nat)(a:Option Addr)(c:List LV)(I:c.length<=1048576)(w:World)(Q:gC< ↑w)(R:gS< ↑w)(C:w m=K (.slice a c cap))(D:w p=K (.func (.func 152) #[] #[]))(H:Li w w a c):
 SeqStopsK Fence.wide n Ap 156 #[.pointer m,.pointer p] (λx:{x:LV//x∈c}=>#[Am x.1.i6]) (JT gC gS) (λs=>(s.map Subtype.val).Perm c/\MN (s.map Subtype.val)) (λf=>∃ts,ts.Perm c/\MN ts/\f.map Subtype.val<+:ts) c w:= λl t u W i E _ G y=>by
 refine(M4 n L l m p cap gC gS a c I (λf W=>∃q:List {x:LV//x∈c},q.map Subtype.val=f/\t q W) (λf W=>∃q:List {x:LV//x∈c},q.map Subtype.val=f/\u q W) W (by have:=i.size;omega) (by have:=i.size;omega) (λf A B row h d j=>h.elim λq h=>⟨q,h.1,E q A B row h.2 d j⟩) ?_ (Au i C) (Au i D) (λO=>by obtain⟨b,P,k,g,d⟩:=(H.a7 i) O;exact⟨b,P,k,by have:=i.size;omega,d⟩) ⟨[],rfl,y⟩).mono ?_
 . rintro f x W r ⟨q,rfl,g⟩ d;obtain⟨fn,tmps,assign,body,N,F⟩:=G q ⟨x,r⟩ W g (by simpa using d);refine⟨fn,tmps,assign,body,N,F.mono ?_⟩;rintro e v (⟨rfl,j,z⟩|⟨rfl,j⟩)
   . exact .inl ⟨rfl,⟨q++[⟨x,r⟩],sP,j⟩,z⟩
   exact .inr ⟨rfl,q++[⟨x,r⟩],sP,j⟩
 rintro e v ⟨k,⟨s,g,q,rfl,d⟩|⟨f,g,q,rfl,d⟩⟩
 . exact⟨k,.inl ⟨q,g,d⟩⟩
 exact⟨k,.inr ⟨q,g,d⟩⟩
end
end Go.Proofs.YtadcneiiokbofaaGreat
