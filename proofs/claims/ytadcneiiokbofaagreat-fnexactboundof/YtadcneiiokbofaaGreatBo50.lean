import Derived.Test.YtadcneiiokbofaaGreatBo48
import Derived.Test.YtadcneiiokbofaaGreatBo49
namespace Go.Proofs.YtadcneiiokbofaaGreat
open Go.ChangeShapes Go.WideShapes Go.ChangeAt Go.RowKit Go.Proofs.Tryz
set_option linter.unusedVariables false
open Go.Value renaming slice → Z,agg → Am
open Option renaming some → K,none → M
open Go renaming Value → J,World → Y,Calls → Ai,TypeId → Aj
open Go.RowKit renaming Hid → Ae,Below → Ah
open Go.IntKind renaming i64 → Af
open Go.Obj renaming cells → Ak
open Go.Ending renaming returned → Al
open Go.Proofs.Tryz renaming prog → Ap
open Go.World renaming ownsRow → Ab,alloc → Ac,setCell → Aa
open List renaming flatMap → Ad
set_option maxHeartbeats 8000000
set_option maxRecDepth 100000
variable {a:Nat->Nat}{E:Nat->List Nat}{w u:Y}{b n m base:Nat}{v:VP}{g:VF}{f:MF}{p:MP}{s:WI}{r:CS}{xs:List MI}{C:Nat->Int}
theorem N7{P:Program}(w:Y){h:Array Oper}{o:Oper}{a:Act}{d:Act->Y->Prop}{Q:Exit->Act->Y->Prop}{E:Prop}(x:o.guard=M)(l c:Operand)(t:Aj)(A:o.op=Op.makeSlice t l c)
 (base:Nat) (e:Aj) (i:TypeInfo) (z:J) (size:Nat) (p:P.underlying t=K (.slice e)) (q:P.info? e=K i) (r:i.zero=K z) (s:i.size=size)
 (g f:IntKind) (n:Nat) (y:a.eval l=.int g (n:Int)) (v:a.eval c=.int f (n:Int)) (j:i.bytes*n<=281474976710656) (k:n<=maxLen) (m:base<= ↑w)
 (u:∀b,b.ownsRow base e size (sG w n n) n (madeCells z.cells (n*size)).toList->w.grownBy b M->d (a.put o.dst (sG w n n)) b):
 if Region.wanted o (yielded h a.tmps)=true then Oper.wp P o a w d Q else E:=by
 have hw:Region.wanted o (yielded h a.tmps)=true:=by simp[Region.wanted,x]
 rw[lZ hw];obtain⟨b,B,C,D⟩:=run_make_full (P:=P) w base t e i z size p q r s g f n j k m;unfold Oper.wp;simp[execOp,A,y,v,B,Result.andThen];exact u b C D
structure NT(w u:Y)(QB GS n:Nat):Prop where
 mp:AP u QB 0 (.map [])
 sa:Ab u w 29 1 (sG GS n n) n (List.replicate n sN)
 ej:Ah w w u
 q1: ↑w<=QB
 q2:QB< ↑u
 g1: ↑w<=GS
 g2:GS< ↑u
 ne:QB≠GS
theorem NT.a7{d:Y}{c:Nat}(h:NT w u c b n)(a:Ah u u d):NT w d c b n:=⟨h.mp.a7 a,Aw h.sa a lR,Ar h.ej lR a,h.q1,mT h.q2 a.size,h.g1,mT h.g2 a.size,h.ne⟩
theorem NT.ty{d:Nat}(h:NT w u m d n){bv:J}{a:Nat}(y:AA u a #[v.r,v.k,v.f,v.t,g.p,f.gV,g.l,g.c,bv,.map (K m),sG d n n,iZ 0] 306)(C: ↑u=a+1)(B:m<a)(q:d<a)(hw: ↑w<=a):Gn w u v g f bv a m d n (a+1) 0 (List.replicate n sN) ⟨λ_=>false, λ_=>[],0⟩:=by
 have s:∀(j:Nat) (V:J),(List.replicate n (Z M 0 0))[j]?=K V->V=sN:= λj V e=>List.eq_of_mem_replicate (lA e)
 refine⟨y,⟨0,_,h.mp,Nat.le_refl _, λb=>rfl⟩,h.sa,sP, λj V e=> ?_,h.ej,⟨hw,h.q1,h.g1⟩,⟨oM,oM,h.ne,oM,oM,oM⟩,oM,sP, λj=>sP, λi j V W A x z g q=> ?_⟩
 . rw[s j V e];exact Ch.nil _ _
 rw[s i V x]at q;cases q
theorem Tt{q:Prop}(h:q:=by
 have hA:=Aq U2 (Ak #[iZ 0] 2);have:=(E2.a7 hA).put (t:=0) (HM.1.a7 hA) HM.2.1 HM.2.2 hs3 hg3;have ew:(⟨Ji (λ_=>false) 0, λ_=>[],0⟩:WI)=Uy:=by unfold Uy Ji;congr 1
 rw[<-ew];exact this):q:=h
theorem Nb(w:Y)(v:VP)(p:MP)(g:VF)(f:MF)(bv:J)(hP:Dm w v p)(hF:DF w g f)(aM:∃a n c,bv=Z a n c)(aP:f.bO.length<=1024):
 Ai Ap 247 #[.agg #[v.r,v.k,v.f,v.t,g.p,f.gV,g.l,g.c],bv] w λe u=>∃TB QB GS B RS,e=Al (.pointer (K ⟨TB,0,M⟩))/\Gn w u v g f bv TB QB GS f.bO.length B 1 RS Uy:=by
 obtain⟨C,E,z,A,F,G,f1,f3,rfl⟩:=hP.sl;obtain⟨i,j,m,q,s,y,rfl⟩:=Ec hF;obtain⟨l0,hl,aH,aI,aJ⟩:=mN OR;obtain⟨H,I,bc,rfl⟩:=aM;have aQ:= @run_makeMap Ap;clear hP hF;go_enter func247,ntmps247;go_upto_region 1 with fail
 refine Ax (λu=>Ae (AA u w #[Z C p.aC E,Z z p.dk A,Z f1 p.aD f3,Z F p.e8 G,Z i f.gU j,f.gV,Z m f.gW q,Z s f.bO y] 162/\Ah w w u)) ⟨AA.new _ _ _,Aq _ _⟩ ?_
 rintro U E1;have HR:=Av (d5 (E1.1.a7 (At _)) (Ar E1.2 lR (At _)));clear E1;have b0:U.drew w=K (Z C p.aC E)/\U.drew ⟨w,1,M⟩=K (Z z p.dk A)/\U.drew ⟨w,2,M⟩=K (Z f1 p.aD f3)/\U.drew ⟨w,3,M⟩=K (Z F p.e8 G)/\U.drew ⟨w,4,M⟩=K (Z i f.gU j)/\U.drew ⟨w,5,M⟩=K ↑f.gV/\U.drew ⟨w,6,M⟩=K (Z m f.gW q)/\U.drew ⟨w,7,M⟩=K (Z s f.bO y):=by obtain⟨R,T,V,W,X,q5,q6,q7⟩:=Lr HR.1;exact⟨R,T,V,W,X,q5,q6,q7⟩
 refine wp_region_held_drew (S:= λw'=>w' w=K (Z C p.aC E)/\w' ⟨w,1,M⟩=K (Z z p.dk A)/\w' ⟨w,2,M⟩=K (Z f1 p.aD f3)/\w' ⟨w,3,M⟩=K (Z F p.e8 G)/\w' ⟨w,4,M⟩=K (Z i f.gU j)/\w' ⟨w,5,M⟩=K ↑f.gV/\w' ⟨w,6,M⟩=K (Z m f.gW q)/\w' ⟨w,7,M⟩=K (Z s f.bO y)) kR b0 (λah=> ?_)
 clear b0;generalize U.drew=b at HR ah⊢;refine AH 0 ?_;refine AH 1 ?_;refine AH 3 ?_;refine AH 4 ?_;refine AH 5 ?_;refine AH 6 ?_;go_simp;refine wpAnyH_ready (rs:=[2,7]) kR sP ?_;refine AllReadyH.cons rfl (λKC N=> ?_) ?_
 . have hA:=Aq b (.map #[] 0);have Q:Ae (AP (Ac b (.map #[] 0)) b 0 (.map [])/\AA (Ac b (.map #[] 0)) w #[Z C p.aC E,Z z p.dk A,Z f1 p.aD f3,Z F p.e8 G,Z i f.gU j,f.gV,Z m f.gW q,Z s f.bO y] 162/\Ah w w (Ac b (.map #[] 0))):=⟨World.ownsMap_made _ _ _ _,HR.1.a7 hA,Ar HR.2 lR hA⟩
   have b1:(Ac b (.map #[] 0)) w=K (Z C p.aC E)/\(Ac b (.map #[] 0)) ⟨w,1,M⟩=K (Z z p.dk A)/\(Ac b (.map #[] 0)) ⟨w,2,M⟩=K (Z f1 p.aD f3)/\(Ac b (.map #[] 0)) ⟨w,3,M⟩=K (Z F p.e8 G)/\(Ac b (.map #[] 0)) ⟨w,4,M⟩=K (Z i f.gU j)/\(Ac b (.map #[] 0)) ⟨w,5,M⟩=K ↑f.gV/\(Ac b (.map #[] 0)) ⟨w,6,M⟩=K (Z m f.gW q)/\(Ac b (.map #[] 0)) ⟨w,7,M⟩=K (Z s f.bO y):=by obtain⟨R,T,V,W,X,q5,q6,q7⟩:=Lr Q.2.1;exact⟨R,T,V,W,X,q5,q6,q7⟩
   go_simp;refine N.o _ _ b1 (λah=> ?_);clear N KC b1 hA;refine CX 7 ?_;intro KC N;refine N7 _ rfl _ _ 22 rfl w 29 l0 sN 1 underlying22 hl aH aI Af Af f.bO oE oE (by rw[aJ];omega) oX Q.2.2.size ?_;intro L aq aG;rw[Fp]at aq;have P:Ae (NT w L b ((b:Nat)+1) f.bO/\AA L w #[Z C p.aC E,Z z p.dk A,Z f1 p.aD f3,Z F p.e8 G,Z i f.gU j,f.gV,Z m f.gW q,Z s f.bO y] 162):=by
    have b2:=BD aG;have aw:=(aq.lt _ rfl).2;have hz:(Ac b (.map #[] 0)).heap.size= ↑b+1:=sP
    simp only[]at aw;rw[hz]at aq aw;exact⟨⟨Q.1.a7 b2,aq,Ar Q.2.2 lR b2,HR.2.size,oM,by have:=HR.2.size;omega,aw,oM⟩,Q.2.1.a7 b2⟩
   have b1:L w=K (Z C p.aC E)/\L ⟨w,1,M⟩=K (Z z p.dk A)/\L ⟨w,2,M⟩=K (Z f1 p.aD f3)/\L ⟨w,3,M⟩=K (Z F p.e8 G)/\L ⟨w,4,M⟩=K (Z i f.gU j)/\L ⟨w,5,M⟩=K ↑f.gV/\L ⟨w,6,M⟩=K (Z m f.gW q)/\L ⟨w,7,M⟩=K (Z s f.bO y):=by obtain⟨R,T,V,W,X,q5,q6,q7⟩:=Lr P.2;exact⟨R,T,V,W,X,q5,q6,q7⟩
   clear aq aG Q;go_simp;refine N.o _ _ b1 (λah=> ?_);clear N KC b1;refine AH 8 ?_;refine CX 9 ?_;intro KC N;(have ae:(L:Nat)=L.heap.size:=by first|rfl|simp);have O:=Av (d5 (sP:(Ac L (Ak #[Z C p.aC E,Z z p.dk A,Z f1 p.aD f3,Z F p.e8 G,Z i f.gU j,f.gV,Z m f.gW q,Z s f.bO y,Z H I bc,.map (K b),Z (K ⟨((b:Nat)+1),0,M⟩) f.bO f.bO,iZ 0] 306)).heap.size= ↑L+1) (d5 ((ae▸AA.new _ _ _):AA (Ac L (Ak #[Z C p.aC E,Z z p.dk A,Z f1 p.aD f3,Z F p.e8 G,Z i f.gU j,f.gV,Z m f.gW q,Z s f.bO y,Z H I bc,.map (K b),Z (K ⟨((b:Nat)+1),0,M⟩) f.bO f.bO,iZ 0] 306)) L #[Z C p.aC E,Z z p.dk A,Z f1 p.aD f3,Z F p.e8 G,Z i f.gU j,f.gV,Z m f.gW q,Z s f.bO y,Z H I bc,.map (K b),Z (K ⟨((b:Nat)+1),0,M⟩) f.bO f.bO,iZ 0] 306) (d5 ((P.1.a7 (Aq _ _)):NT w (Ac L (Ak #[Z C p.aC E,Z z p.dk A,Z f1 p.aD f3,Z F p.e8 G,Z i f.gU j,f.gV,Z m f.gW q,Z s f.bO y,Z H I bc,.map (K b),Z (K ⟨((b:Nat)+1),0,M⟩) f.bO f.bO,iZ 0] 306)) b ((b:Nat)+1) f.bO) (d5 (ae▸P.1.q2) (d5 (ae▸P.1.g2) (ae▸P.1.ej.size))))))
   have aj:(Ac L (Ak #[Z C p.aC E,Z z p.dk A,Z f1 p.aD f3,Z F p.e8 G,Z i f.gU j,f.gV,Z m f.gW q,Z s f.bO y,Z H I bc,.map (K b),Z (K ⟨((b:Nat)+1),0,M⟩) f.bO f.bO,iZ 0] 306)) w=K (Z C p.aC E)/\(Ac L (Ak #[Z C p.aC E,Z z p.dk A,Z f1 p.aD f3,Z F p.e8 G,Z i f.gU j,f.gV,Z m f.gW q,Z s f.bO y,Z H I bc,.map (K b),Z (K ⟨((b:Nat)+1),0,M⟩) f.bO f.bO,iZ 0] 306)) ⟨w,1,M⟩=K (Z z p.dk A)/\(Ac L (Ak #[Z C p.aC E,Z z p.dk A,Z f1 p.aD f3,Z F p.e8 G,Z i f.gU j,f.gV,Z m f.gW q,Z s f.bO y,Z H I bc,.map (K b),Z (K ⟨((b:Nat)+1),0,M⟩) f.bO f.bO,iZ 0] 306)) ⟨w,2,M⟩=K (Z f1 p.aD f3)/\(Ac L (Ak #[Z C p.aC E,Z z p.dk A,Z f1 p.aD f3,Z F p.e8 G,Z i f.gU j,f.gV,Z m f.gW q,Z s f.bO y,Z H I bc,.map (K b),Z (K ⟨((b:Nat)+1),0,M⟩) f.bO f.bO,iZ 0] 306)) ⟨w,3,M⟩=K (Z F p.e8 G)/\(Ac L (Ak #[Z C p.aC E,Z z p.dk A,Z f1 p.aD f3,Z F p.e8 G,Z i f.gU j,f.gV,Z m f.gW q,Z s f.bO y,Z H I bc,.map (K b),Z (K ⟨((b:Nat)+1),0,M⟩) f.bO f.bO,iZ 0] 306)) ⟨w,4,M⟩=K (Z i f.gU j)/\(Ac L (Ak #[Z C p.aC E,Z z p.dk A,Z f1 p.aD f3,Z F p.e8 G,Z i f.gU j,f.gV,Z m f.gW q,Z s f.bO y,Z H I bc,.map (K b),Z (K ⟨((b:Nat)+1),0,M⟩) f.bO f.bO,iZ 0] 306)) ⟨w,5,M⟩=K ↑f.gV/\(Ac L (Ak #[Z C p.aC E,Z z p.dk A,Z f1 p.aD f3,Z F p.e8 G,Z i f.gU j,f.gV,Z m f.gW q,Z s f.bO y,Z H I bc,.map (K b),Z (K ⟨((b:Nat)+1),0,M⟩) f.bO f.bO,iZ 0] 306)) ⟨w,6,M⟩=K (Z m f.gW q)/\(Ac L (Ak #[Z C p.aC E,Z z p.dk A,Z f1 p.aD f3,Z F p.e8 G,Z i f.gU j,f.gV,Z m f.gW q,Z s f.bO y,Z H I bc,.map (K b),Z (K ⟨((b:Nat)+1),0,M⟩) f.bO f.bO,iZ 0] 306)) ⟨w,7,M⟩=K (Z s f.bO y):=by
    obtain⟨R,T,V,W,X,q5,q6,q7⟩:=Lr (P.2.a7 (Aq L (Ak #[Z C p.aC E,Z z p.dk A,Z f1 p.aD f3,Z F p.e8 G,Z i f.gU j,f.gV,Z m f.gW q,Z s f.bO y,Z H I bc,.map (K b),Z (K ⟨((b:Nat)+1),0,M⟩) f.bO f.bO,iZ 0] 306)));exact⟨R,T,V,W,X,q5,q6,q7⟩
   go_simp;refine N.o _ _ aj (λah=> ?_);clear N KC;refine AH 10 ?_;refine wpAnyH_done kR ?_ _;clear ah aj;(go_upto_region 2 with fail);refine Ax (λu=>Ae (Gn w u ⟨Z C p.aC E,Z z p.dk A,Z f1 p.aD f3,Z F p.e8 G⟩ ⟨Z i f.gU j,Z m f.gW q,Z s f.bO y⟩ f (Z H I bc) L b ((b:Nat)+1) f.bO ((L:Nat)+1) 0 (List.replicate f.bO sN) ⟨λ_=>false, λ_=>[],0⟩)) (O.2.2.1.ty O.2.1 O.1 O.2.2.2.1 O.2.2.2.2.1 O.2.2.2.2.2) ?_;rintro U2 E2;clear O P ae;generalize L.heap.size=TB at E2⊢;have c9:=E2.tb.cell 9;simp only[lE,lC,lF]at c9;obtain⟨aE,D,au,am,ao⟩:=E2.mp;have HM:=Av (d5 au (d5 am ao));clear au am ao;go_wp2_with fail;refine(Db b aE U2 1 D 0 _ (Dh (x:=0) oM) (by have:=HM.2.1;omega) sP (by have:=E2.ne;have:=E2.sz;omega) (HM.1.a7 (Aq _ _))).mono ?_;rintro e u3 ⟨rfl,hs3,hg3⟩;(have E3:Ae (Gn w u3 ⟨Z C p.aC E,Z z p.dk A,Z f1 p.aD f3,Z F p.e8 G⟩ ⟨Z i f.gU j,Z m f.gW q,Z s f.bO y⟩ f (Z H I bc) TB b ((b:Nat)+1) f.bO (TB+1) 1 (List.replicate f.bO sN) Uy):=by exact Tt);clear hs3 hg3 HM c9;go_wp2_with fail;go_ret;exact⟨TB,_,_,_,_,rfl,E3⟩
 refine AllReadyH.cons rfl (λKC N=> ?_) AllReadyH.nil;refine N7 _ rfl _ _ 22 rfl w 29 l0 sN 1 underlying22 hl aH aI Af Af f.bO oE oE (by rw[aJ];omega) oX HR.2.size ?_;intro d aA aF;rw[Fp]at aA;have Q:Ae (Ab d w 29 1 (sG b f.bO f.bO) f.bO (List.replicate f.bO sN)/\AA d w #[Z C p.aC E,Z z p.dk A,Z f1 p.aD f3,Z F p.e8 G,Z i f.gU j,f.gV,Z m f.gW q,Z s f.bO y] 162/\Ah w w d/\(b:Nat)< ↑d):=by have b2:=BD aF;have aw:=(aA.lt _ rfl).2;exact⟨aA,HR.1.a7 b2,Ar HR.2 lR b2,aw⟩
 have b1:d w=K (Z C p.aC E)/\d ⟨w,1,M⟩=K (Z z p.dk A)/\d ⟨w,2,M⟩=K (Z f1 p.aD f3)/\d ⟨w,3,M⟩=K (Z F p.e8 G)/\d ⟨w,4,M⟩=K (Z i f.gU j)/\d ⟨w,5,M⟩=K ↑f.gV/\d ⟨w,6,M⟩=K (Z m f.gW q)/\d ⟨w,7,M⟩=K (Z s f.bO y):=by obtain⟨R,T,V,W,X,q5,q6,q7⟩:=Lr Q.2.1;exact⟨R,T,V,W,X,q5,q6,q7⟩
 clear aA aF;go_simp;refine N.o _ _ b1 (λah=> ?_);clear N KC b1;refine CX 2 ?_;intro KC N;have hA:=Aq d (.map #[] 0);have P:Ae (NT w (Ac d (.map #[] 0)) d b f.bO/\AA (Ac d (.map #[] 0)) w #[Z C p.aC E,Z z p.dk A,Z f1 p.aD f3,Z F p.e8 G,Z i f.gU j,f.gV,Z m f.gW q,Z s f.bO y] 162):=by have l1:=Q.2.2.2;have l2:=Q.2.2.1.size;have l3:=HR.2.size;exact⟨⟨World.ownsMap_made _ _ _ _,Aw Q.1 hA lR,Ar Q.2.2.1 lR hA,l2,sP,l3,oT,oM⟩,Q.2.1.a7 hA⟩
 have b1:(Ac d (.map #[] 0)) w=K (Z C p.aC E)/\(Ac d (.map #[] 0)) ⟨w,1,M⟩=K (Z z p.dk A)/\(Ac d (.map #[] 0)) ⟨w,2,M⟩=K (Z f1 p.aD f3)/\(Ac d (.map #[] 0)) ⟨w,3,M⟩=K (Z F p.e8 G)/\(Ac d (.map #[] 0)) ⟨w,4,M⟩=K (Z i f.gU j)/\(Ac d (.map #[] 0)) ⟨w,5,M⟩=K ↑f.gV/\(Ac d (.map #[] 0)) ⟨w,6,M⟩=K (Z m f.gW q)/\(Ac d (.map #[] 0)) ⟨w,7,M⟩=K (Z s f.bO y):=by obtain⟨R,T,V,W,X,q5,q6,q7⟩:=Lr P.2;exact⟨R,T,V,W,X,q5,q6,q7⟩
 go_simp;refine N.o _ _ b1 (λah=> ?_);clear N KC b1 hA Q;refine AH 8 ?_;refine CX 9 ?_;intro KC N;have ae:(Ac d (.map #[] 0)).heap.size=((d:Nat)+1):=by first|rfl|simp
 have O:=Av (d5 (sP:(Ac (Ac d (.map #[] 0)) (Ak #[Z C p.aC E,Z z p.dk A,Z f1 p.aD f3,Z F p.e8 G,Z i f.gU j,f.gV,Z m f.gW q,Z s f.bO y,Z H I bc,.map (K d),sG b f.bO f.bO,iZ 0] 306)).heap.size=((d:Nat)+1)+1) (d5 ((ae▸AA.new _ _ _):AA (Ac (Ac d (.map #[] 0)) (Ak #[Z C p.aC E,Z z p.dk A,Z f1 p.aD f3,Z F p.e8 G,Z i f.gU j,f.gV,Z m f.gW q,Z s f.bO y,Z H I bc,.map (K d),sG b f.bO f.bO,iZ 0] 306)) ((d:Nat)+1) #[Z C p.aC E,Z z p.dk A,Z f1 p.aD f3,Z F p.e8 G,Z i f.gU j,f.gV,Z m f.gW q,Z s f.bO y,Z H I bc,.map (K d),sG b f.bO f.bO,iZ 0] 306) (d5 ((P.1.a7 (Aq _ _)):NT w (Ac (Ac d (.map #[] 0)) (Ak #[Z C p.aC E,Z z p.dk A,Z f1 p.aD f3,Z F p.e8 G,Z i f.gU j,f.gV,Z m f.gW q,Z s f.bO y,Z H I bc,.map (K d),sG b f.bO f.bO,iZ 0] 306)) d b f.bO) (d5 (ae▸P.1.q2) (d5 (ae▸P.1.g2) (ae▸P.1.ej.size))))))
 have aj:(Ac (Ac d (.map #[] 0)) (Ak #[Z C p.aC E,Z z p.dk A,Z f1 p.aD f3,Z F p.e8 G,Z i f.gU j,f.gV,Z m f.gW q,Z s f.bO y,Z H I bc,.map (K d),sG b f.bO f.bO,iZ 0] 306)) w=K (Z C p.aC E)/\(Ac (Ac d (.map #[] 0)) (Ak #[Z C p.aC E,Z z p.dk A,Z f1 p.aD f3,Z F p.e8 G,Z i f.gU j,f.gV,Z m f.gW q,Z s f.bO y,Z H I bc,.map (K d),sG b f.bO f.bO,iZ 0] 306)) ⟨w,1,M⟩=K (Z z p.dk A)/\(Ac (Ac d (.map #[] 0)) (Ak #[Z C p.aC E,Z z p.dk A,Z f1 p.aD f3,Z F p.e8 G,Z i f.gU j,f.gV,Z m f.gW q,Z s f.bO y,Z H I bc,.map (K d),sG b f.bO f.bO,iZ 0] 306)) ⟨w,2,M⟩=K (Z f1 p.aD f3)/\(Ac (Ac d (.map #[] 0)) (Ak #[Z C p.aC E,Z z p.dk A,Z f1 p.aD f3,Z F p.e8 G,Z i f.gU j,f.gV,Z m f.gW q,Z s f.bO y,Z H I bc,.map (K d),sG b f.bO f.bO,iZ 0] 306)) ⟨w,3,M⟩=K (Z F p.e8 G)/\(Ac (Ac d (.map #[] 0)) (Ak #[Z C p.aC E,Z z p.dk A,Z f1 p.aD f3,Z F p.e8 G,Z i f.gU j,f.gV,Z m f.gW q,Z s f.bO y,Z H I bc,.map (K d),sG b f.bO f.bO,iZ 0] 306)) ⟨w,4,M⟩=K (Z i f.gU j)/\(Ac (Ac d (.map #[] 0)) (Ak #[Z C p.aC E,Z z p.dk A,Z f1 p.aD f3,Z F p.e8 G,Z i f.gU j,f.gV,Z m f.gW q,Z s f.bO y,Z H I bc,.map (K d),sG b f.bO f.bO,iZ 0] 306)) ⟨w,5,M⟩=K ↑f.gV/\(Ac (Ac d (.map #[] 0)) (Ak #[Z C p.aC E,Z z p.dk A,Z f1 p.aD f3,Z F p.e8 G,Z i f.gU j,f.gV,Z m f.gW q,Z s f.bO y,Z H I bc,.map (K d),sG b f.bO f.bO,iZ 0] 306)) ⟨w,6,M⟩=K (Z m f.gW q)/\(Ac (Ac d (.map #[] 0)) (Ak #[Z C p.aC E,Z z p.dk A,Z f1 p.aD f3,Z F p.e8 G,Z i f.gU j,f.gV,Z m f.gW q,Z s f.bO y,Z H I bc,.map (K d),sG b f.bO f.bO,iZ 0] 306)) ⟨w,7,M⟩=K (Z s f.bO y):=by
  obtain⟨R,T,V,W,X,q5,q6,q7⟩:=Lr (P.2.a7 (Aq (Ac d (.map #[] 0)) (Ak #[Z C p.aC E,Z z p.dk A,Z f1 p.aD f3,Z F p.e8 G,Z i f.gU j,f.gV,Z m f.gW q,Z s f.bO y,Z H I bc,.map (K d),sG b f.bO f.bO,iZ 0] 306)));exact⟨R,T,V,W,X,q5,q6,q7⟩
 go_simp;refine N.o _ _ aj (λah=> ?_);clear N KC;refine AH 10 ?_;refine wpAnyH_done kR ?_ _;clear ah aj;go_upto_region 2 with fail
 refine Ax (λu=>Ae (Gn w u ⟨Z C p.aC E,Z z p.dk A,Z f1 p.aD f3,Z F p.e8 G⟩ ⟨Z i f.gU j,Z m f.gW q,Z s f.bO y⟩ f (Z H I bc) ((d:Nat)+1) d b f.bO (((d:Nat)+1)+1) 0 (List.replicate f.bO sN) ⟨λ_=>false, λ_=>[],0⟩)) (O.2.2.1.ty O.2.1 O.1 O.2.2.2.1 O.2.2.2.2.1 O.2.2.2.2.2) ?_;rintro U2 E2;clear O P ae;generalize (d.heap.size+1)=TB at E2⊢;have c9:=E2.tb.cell 9;simp only[lE,lC,lF]at c9;obtain⟨aE,D,au,am,ao⟩:=E2.mp;have HM:=Av (d5 au (d5 am ao));clear au am ao;go_wp2_with fail;refine(Db d aE U2 1 D 0 _ (Dh (x:=0) oM) (by have:=HM.2.1;omega) sP (by have:=E2.ne;have:=E2.sz;omega) (HM.1.a7 (Aq _ _))).mono ?_;rintro e u3 ⟨rfl,hs3,hg3⟩;have E3:Ae (Gn w u3 ⟨Z C p.aC E,Z z p.dk A,Z f1 p.aD f3,Z F p.e8 G⟩ ⟨Z i f.gU j,Z m f.gW q,Z s f.bO y⟩ f (Z H I bc) TB d b f.bO (TB+1) 1 (List.replicate f.bO sN) Uy):=by exact Tt
 clear hs3 hg3 HM c9;go_wp2_with fail;go_ret;exact⟨TB,_,_,_,_,rfl,E3⟩
theorem V7(p:MP)(f:MF)(c:Nat):∀(a:Nat) (sh:List Int) (T:Nat->List Int) (D:Nat),(∀j,(T j).length<=D)->sh.length<=D->∀g d b,CY p f c a sh T D=.inr (g,d,b)->(∀j,(d j).length<=b)/\g.length<=b:=by
 induction c with
 | zero=>intro a sh T D e i g d b h;simp only[CY,Sum.inr.injEq,Prod.mk.injEq]at h;obtain⟨rfl,rfl,rfl⟩:=h;exact⟨e,i⟩
 | succ c l=>
   intro a sh T D e i g d b h;cases hx:f.bO[a]? with
   | none=>simp only[CY,hx,Sum.inr.injEq,Prod.mk.injEq]at h;obtain⟨rfl,rfl,rfl⟩:=h;exact⟨e,i⟩
   | some x=>
     simp only[CY,hx]at h;by_cases k:BJ p f x sh=0
     . rw[lZ k]at h;refine l _ _ _ _ (λj=> ?_) oM _ _ _ h;simp only[CR];split
       . omega
       have:=e j;omega
     rw[lS k]at h;cases h
theorem T9{d:List MB}{sh:List Int}{D:Nat}(e: ↑sh<=D)(nx:List Nat):∀(C:Nat->Bool) (R:Nat->List Int),(∀j,(R j).length<=D)->∀C2 a,Fa d nx sh C R=K (C2,a)->∀j,(a j).length<=D:=by
 induction nx with
 | nil=>intro C R b C2 a h;simp only[Fa,lH,Prod.mk.injEq]at h;rw[<-h.2];exact b
 | cons t nx c=>
   intro C R b C2 a h;rw[Fa]at h;split at h
   . split at h
     . exact c _ _ b _ _ h
     cases h
   refine c _ _ (λj=> ?_) _ _ h;simp only[CR];split
   . exact e
   exact b j
theorem Uo{b:List MB}{m:MB}{a:WI}(g:∀j,(s.r j).length<=s.d)(h:G7 p f b m s=.inr a):∀j,(a.r j).length<=a.d:=by
 unfold G7 at h;cases hk:CY p f (m.last-m.gZ+1).toNat m.gZ.toNat (s.r m.gZ.toNat) s.r s.d with
 |inl e=>rw[hk]at h;cases h
 | inr q=>
   obtain⟨sh,R,D⟩:=q;rw[hk]at h;obtain⟨i,k⟩:=V7 p f _ _ _ _ _ g (g _) _ _ _ hk;simp only[]at h;cases hm:Fa b (m.next.map Int.toNat) sh s.c R with
   |none=>rw[hm]at h;cases h
   | some q=>obtain⟨C2,l⟩:=q;rw[hm]at h;simp only[Sum.inr.injEq]at h;subst h;exact T9 k _ _ _ i _ _ hm
theorem V9{a:List MB}{c:List Int}{k:Nat}{z:Int}{m:MB}{d:Ow}(h:Ie p f a ((c.map Int.toNat).drop k) s=d)(j:c[k]?=K z)(g:z=(b:Int))(i:a[b]?=K m):(match G7 p f a m s with|.inl e=>Sum.inl e|.inr s'=>Ie p f a ((c.map Int.toNat).drop (k+1)) s')=d:=by
 have e:(c.map Int.toNat)[k]?=K b:=by rw[mE,j,g];simp
 rw[K9 e,Ie,i]at h;exact h
theorem PE.a7{b:Y}(h:PE w v p g f)(a:Ah w w b):PE b v p g f:=⟨h.ps,h.pf,h.fs,h.rp.a7 a lR,h.rf.a7 a lR,h.c1,h.cl,h.pl,h.ok,h.last⟩
theorem DQ.kU{f:Y}{b e c d:J}(h:DQ w b e c d r)(a:Ah w w f):DQ f b e c d r:=⟨h.a8.a7 a lR,h.gY.a7 a lR,h.ig.a7 a lR,h.gX.a7 a lR⟩
theorem Uk{i l k j:J}(h:DQ w i l k j r):∃d c1 e c2 f c3 g c4,i=Z d r.a8 c1/\l=Z e r.gY c2/\k=Z f r.ig c3/\j=Z g r.gX c4:=by
 obtain⟨d,c1,m⟩:∃a c,i=Z a r.a8 c:=by obtain⟨_,_,b,_⟩:=h.a8;exact b.bW
 obtain⟨e,c2,n⟩:=h.gY.bW;obtain⟨f,c3,p⟩:=h.ig.bW;obtain⟨g,c4,q⟩:∃a c,j=Z a r.gX c:=by obtain⟨_,_,b,_⟩:=h.gX;exact b.bW
 exact⟨d,c1,e,c2,f,c3,g,c4,m,n,p,q⟩
structure Zv(xs:List MI)(r:CS):Prop where
 ie:Pu xs r.a8
 nb:r.a8.length<=1024
 two:∀m∈r.a8,m.next.length<=2
 len:r.gY.length<=1024
 ord:∀z∈r.gY,∃b:Nat,z=(b:Int)/\b< ↑r.a8
 jO:∀(b:Nat) (m:MB),r.a8[b]?=K m->∀z∈m.next,∃t:Nat,z=(t:Int)/\t< ↑r.a8
theorem Be.lj(h:Be xs r)(a:r.bO=0):Zv xs r:=by
 have d:=h.iq a;cases h with
 |none _=>cases a
 |off _ _ _=>cases a
 |lost _ _ _ _ _ _ _ _=>cases a
 |two _ _ _ _ _ _ _ _=>cases a
 | good g x1 o1 v1 s1 d1 b1 i1 l1=>
   obtain⟨n,p,i,k,_⟩:=CA (Es g) (JF g) v1 s1;refine⟨PN g,d.nb,d.two,?_, λz c=> ?_, λb m j z c=> ?_⟩
   . simp only[];rw[AV,mv,i];exact EM g
   . obtain⟨b,f,rfl⟩:=mG.1 c;exact⟨b,rfl,(k b).1 (m7.1 f)⟩
   obtain⟨e,l⟩:=G4 g j c;exact⟨z.toNat,(oZ e).symm,oS⟩
def TyO(w:Y)(y:RC)(e:Ending)(a:Y):Prop:=∃(s:J) (F:List (List Int×J)),e=Al (Am #[y.bO,y.at_,y.depth,s])/\IZ a w s F/\F.map Prod.fst=y.ia/\F.length<=1024/\(∀x∈F,x.1.length<=64)/\Ah w w a
theorem VN(u:Y)(b:Nat):IZ u b sN []:=⟨mI _ _ _ _,⟨λx a=>(by cases a),.nil⟩⟩
theorem Gn.told{bv:J}{F E t B N:Nat}{b:List J}(h:Gn w u v g f bv F E t n B N b s){X:Nat}(H:base<= ↑w)(hX:X< ↑w)(T U V W:J):IZ (Aa (Aa (Aa (u.setCell X T) ⟨X,1,M⟩ U) ⟨X,2,M⟩ V) ⟨X,3,M⟩ W) base (sG t n n) (((List.range n).map s.r).zip b)/\(((List.range n).map s.r).zip b).map Prod.fst=(List.range n).map s.r/\(((List.range n).map s.r).zip b).length=n/\∀x∈((List.range n).map s.r).zip b,x.1.length<=64:=by
 obtain⟨n1,n2,n3,n4,n5,n6⟩:=h.ne;obtain⟨l1,l2,l3⟩:=h.lo;have m:((List.range n).map s.r).length=b.length:=by simp[h.sl]
 have l:∀(j:Nat) (x:List Int×J),(((List.range n).map s.r).zip b)[j]?=K x->s.r j=x.1/\b[j]?=K x.2:= λj x c=>by
  obtain⟨k,d⟩:((List.range n).map s.r)[j]?=K x.1/\b[j]?=K x.2:=List.getElem?_zip_eq_some.1 c
  rw[mE]at k;obtain⟨q,O,P⟩:=m6.1 k;obtain⟨i1,D⟩:=i8.1 O;rw[List.getElem_range]at D;subst D;exact⟨P,d⟩
 have C:(((List.range n).map s.r).zip b).length=n:=by rw[List.length_zip,m];simp[h.sl]
 refine⟨⟨?_, λx p=> ?_,?_⟩,List.map_fst_zip (Nat.le_of_eq m),C, λx p=> ?_⟩
 . have e:Ad BH (((List.range n).map s.r).zip b)=b:=by
    have:∀(A:List (List Int)) (R:List J),A.length= ↑R->Ad BH (A.zip R)=R:=by
     intro A;induction A with
     |nil=>intro R h;cases R with|nil=>rfl|cons _ _=>simp at h
     | cons a A S=>intro R h;cases R with
       |nil=>simp at h
       |cons v R=>rw[List.zip_cons_cons,mF,S R (by simpa using h)];rfl
    exact this _ _ m
   rw[e,C];exact A9 (lV (lV (lV (lV h.sa oS _) oS _) oS _) oS _) H
 . obtain⟨y,Q,rfl⟩:=mG.1 p;obtain⟨j,c⟩:=mJ Q;obtain⟨k,d⟩:=l j y c;have z:=h.rs j y.2 d;rw[k]at z;exact A9 ((((z.set (a:=⟨X,0,M⟩) oS _).set (a:=⟨X,1,M⟩) oS _).set (a:=⟨X,2,M⟩) oS _).set (a:=⟨X,3,M⟩) oS _) oM
 . unfold XG;rw[nm,nS];intro i j L c ae g I;obtain⟨_,d⟩:=l i _ (an L);obtain⟨_,G⟩:=l j _ (an c);exact h.ap i j _ _ oM d G g I
 obtain⟨j,c⟩:=mJ p;rw[<-(l j x c).1];exact h.rl j
theorem Q3(w:Y)(v:VP)(p:MP)(g:VF)(f:MF)(r:CS)(fc fa:Int)(vb vo vi vl:J)(aj:PE w v p g f)(aI:Be f.bO r)(h0:r.bO=0)(aJ:DQ w vb vo vi vl r):
 Ai Ap 246 #[Am #[v.r,v.k,v.f,v.t,g.p,f.gV,g.l,g.c],Am #[fc,fa,vb,vo,vi,vl]] w (TyO w (Q1 f.bO (FU p f r.a8 (r.gY.map Int.toNat) Mq))):=by
 obtain⟨O,P,L,N,Q,T,f1,f3,rfl⟩:=aj.rp.sl;obtain⟨y,A,C,D,F,I,rfl⟩:=Ec aj.rf;obtain⟨v1,c1,v2,c2,v3,c3,v4,c4,rfl,rfl,rfl,rfl⟩:=Uk aJ;rw[Yz aI h0];obtain⟨aQ,aG⟩:∃R,R=Ie p f r.a8 (r.gY.map Int.toNat) Uy:=⟨_,rfl⟩;rw[<-aG];have aM:=Av aG.symm;have HO:=Av (aI.lj h0);have H:=Av (d5 aj aJ);have aZ:f.bO.length<=1024:=aj.cl;have bG:r.gY.length<=1024:=HO.len;have E0:AA (Ac (Ac (Ac w (Ak #[Z O p.aC P,Z L p.dk N,Z f1 p.aD f3,Z Q p.e8 T,Z y f.gU A,f.gV,Z C f.gW D,Z F f.bO I] 162)) (Ak #[fc,fa,Z v1 r.a8 c1,Z v2 r.gY c2,Z v3 r.ig c3,Z v4 r.gX c4] 84)) (Ak #[iZ 0,iZ 0,iZ 0,sN] 87)) w #[Z O p.aC P,Z L p.dk N,Z f1 p.aD f3,Z Q p.e8 T,Z y f.gU A,f.gV,Z C f.gW D,Z F f.bO I] 162/\AA (Ac (Ac (Ac w (Ak #[Z O p.aC P,Z L p.dk N,Z f1 p.aD f3,Z Q p.e8 T,Z y f.gU A,f.gV,Z C f.gW D,Z F f.bO I] 162)) (Ak #[fc,fa,Z v1 r.a8 c1,Z v2 r.gY c2,Z v3 r.ig c3,Z v4 r.gX c4] 84)) (Ak #[iZ 0,iZ 0,iZ 0,sN] 87)) ((w:Nat)+1) #[fc,fa,Z v1 r.a8 c1,Z v2 r.gY c2,Z v3 r.ig c3,Z v4 r.gX c4] 84/\AA (Ac (Ac (Ac w (Ak #[Z O p.aC P,Z L p.dk N,Z f1 p.aD f3,Z Q p.e8 T,Z y f.gU A,f.gV,Z C f.gW D,Z F f.bO I] 162)) (Ak #[fc,fa,Z v1 r.a8 c1,Z v2 r.gY c2,Z v3 r.ig c3,Z v4 r.gX c4] 84)) (Ak #[iZ 0,iZ 0,iZ 0,sN] 87)) ((w:Nat)+1+1) #[iZ 0,iZ 0,iZ 0,sN] 87/\Ah w w (Ac (Ac (Ac w (Ak #[Z O p.aC P,Z L p.dk N,Z f1 p.aD f3,Z Q p.e8 T,Z y f.gU A,f.gV,Z C f.gW D,Z F f.bO I] 162)) (Ak #[fc,fa,Z v1 r.a8 c1,Z v2 r.gY c2,Z v3 r.ig c3,Z v4 r.gX c4] 84)) (Ak #[iZ 0,iZ 0,iZ 0,sN] 87)):=by
  obtain⟨e1,e2,e3⟩:=Bu w #[Z O p.aC P,Z L p.dk N,Z f1 p.aD f3,Z Q p.e8 T,Z y f.gU A,f.gV,Z C f.gW D,Z F f.bO I] #[fc,fa,Z v1 r.a8 c1,Z v2 r.gY c2,Z v3 r.ig c3,Z v4 r.gX c4] 162 84;have hz:(Ac (Ac w (Ak #[Z O p.aC P,Z L p.dk N,Z f1 p.aD f3,Z Q p.e8 T,Z y f.gU A,f.gV,Z C f.gW D,Z F f.bO I] 162)) (Ak #[fc,fa,Z v1 r.a8 c1,Z v2 r.gY c2,Z v3 r.ig c3,Z v4 r.gX c4] 84)).heap.size= ↑w+1+1:=sP
  have e4:=AA.new (Ac (Ac w (Ak #[Z O p.aC P,Z L p.dk N,Z f1 p.aD f3,Z Q p.e8 T,Z y f.gU A,f.gV,Z C f.gW D,Z F f.bO I] 162)) (Ak #[fc,fa,Z v1 r.a8 c1,Z v2 r.gY c2,Z v3 r.ig c3,Z v4 r.gX c4] 84)) #[iZ 0,iZ 0,iZ 0,sN] 87;rw[hz]at e4;exact⟨e1.a7 (Aq _ _),e2.a7 (Aq _ _),e4,Ar e3 lR (Aq _ _)⟩
 clear aj aJ aI aG h0;go_enter func246,ntmps246;go_upto_region 1 with fail
 refine Ax (λu=>Ae (AA u w #[Z O p.aC P,Z L p.dk N,Z f1 p.aD f3,Z Q p.e8 T,Z y f.gU A,f.gV,Z C f.gW D,Z F f.bO I] 162/\AA u ((w:Nat)+1) #[fc,fa,Z v1 r.a8 c1,Z v2 r.gY c2,Z v3 r.ig c3,Z v4 r.gX c4] 84/\AA u ((w:Nat)+1+1) #[iZ 0,iZ 0,iZ 0,sN] 87/\Ah w w u)) E0 ?_
 rintro U V;clear E0;obtain⟨s0,s1,s2,s3,s4,s5,s6,s7⟩:=Lr V.1;obtain⟨y0,y1,y2,y3,y4,y5⟩:=Eg V.2.1;go_wp2_with fail;refine(Nb U ⟨Z O p.aC P,Z L p.dk N,Z f1 p.aD f3,Z Q p.e8 T⟩ p ⟨Z y f.gU A,Z C f.gW D,Z F f.bO I⟩ f (Z v1 r.a8 c1) (H.1.rp.a7 V.2.2.2 lR) (H.1.rf.a7 V.2.2.2 lR) ⟨_,_,_,rfl⟩ aZ).mono ?_;rintro e u1 ⟨TB,QB,GS,B,RS,rfl,am⟩;have E2:=Av am;have n:=Av (d5 V.1 (d5 V.2.1 (d5 V.2.2.1 (d5 V.2.2.2 (d5 (H.1.a7 V.2.2.2) (H.2.kU V.2.2.2))))));have bf:(w:Nat)+1+1<U.heap.size:=V.2.2.1.lt;clear am V s0 s1 s2 s3 s4 s5 s6 s7 y0 y1 y2 y3 y4 y5;obtain⟨y0,y1,y2,y3,y4,y5⟩:=Eg (n.2.1.a7 E2.ej);go_wp2_with fail;clear y0 y1 y2 y3 y4 y5;go_loopw [16] (λi wr=>∃(k:Nat) (RS:List J) (s:WI),k<= ↑r.gY/\i=iZ k/\Ae (Ie p f r.a8 ((r.gY.map Int.toNat).drop k) s=aQ/\∀j,(s.r j).length<=s.d)/\Ae (Gn U wr ⟨Z O p.aC P,Z L p.dk N,Z f1 p.aD f3,Z Q p.e8 T⟩ ⟨Z y f.gU A,Z C f.gW D,Z F f.bO I⟩ f (Z v1 r.a8 c1) TB QB GS f.bO B (2*k+1) RS s)) (λi _=> ↑r.gY-(intOf i).toNat)
 case atStart=>exact⟨0,RS,Uy,oM,rfl,⟨by rw[List.drop_zero];exact aM, λj=>by simp[Uy]⟩,E2⟩
 case round=>
 clear E2 aM;clear RS;obtain⟨k,RS,s,hk,rfl,HS,E⟩:=hrel;obtain⟨y0,y1,y2,y3,y4,y5⟩:=Eg (n.2.1.a7 E.ej);by_cases bp:k< ↑r.gY
 case pos=>
  obtain⟨z,hz⟩:∃z,r.gY[k]?=K z:=⟨_,an bp⟩;obtain⟨b,ez,hb⟩:=HO.ord z (lA hz);subst ez;obtain⟨m,hm⟩:∃m,r.a8[b]?=K m:=⟨_,an hb⟩;obtain⟨ma,me,aA,aE,bC,bF⟩:=HO.ie.part b m hm;obtain⟨gb,ob,xa,xc,ev,x0,x1,x2,ae⟩:=Oy n.2.2.2.2.2.a8 hm;subst ev;rw[aA,<-E.ej.cell (g8 x0)]at x0;rw[aE,<-E.ej.cell (g8 x1)]at x1;rw[<-E.ej.cell (g8 x2)]at x2;rcases n.2.2.2.2.2.gY.2 with⟨q0,_⟩|⟨gd,od,cd,W,aY⟩
  . omega
  simp only[lB,mB]at W;obtain⟨bq,br⟩:=W;subst bq;have z0:=Rd.elem Ay aY k _ hz 0 _ rfl;rw[mO,lJ,<-E.ej.cell (g8 z0)]at z0;have HZ:=Av (d5 hz (d5 hm (d5 aA (d5 aE ae))));have bu:(b:Int)<(r.a8:Int):=oM;have bj:(k:Int)<(r.gY:Int):=oM;clear aY hz hm aA aE ae br;go_wp2_with fail;refine(QV U wr ⟨Z O p.aC P,Z L p.dk N,Z f1 p.aD f3,Z Q p.e8 T⟩ p ⟨Z y f.gU A,Z C f.gW D,Z F f.bO I⟩ f (sO gb ob r.a8 c1) (Z xa m.next xc) TB QB GS B (2*k+1) RS s r.a8 b m ma me E n.2.2.2.2.1 n.2.2.2.2.2.a8 HO.ie HZ.2.1 HZ.2.2.1 HZ.2.2.2.1 HZ.2.2.2.2 (HO.two m (lA HZ.2.1)) (HO.jO b m HZ.2.1) HO.nb oM (HS.2 ma)).mono ?_;intro e u2 ao;have ah:=V9 HS.1 HZ.1 rfl HZ.2.1;clear x0 x1 x2 z0 y0 y1 y2 y3 y4 y5;cases ae:G7 p f r.a8 m s with
  | inl q=>
    obtain⟨c,a⟩:=q;rw[ae]at ao ah;obtain⟨rfl,bg,b2⟩:=ao;have aq:=Av ah.symm;(have bx:(c != 0)=true:=by simpa using bg);clear ah ae E;(go_upto_region 6 with fail);refine Ax (λu=>Ae (AA u u2 #[c,a,iZ 0,sN] 87/\Ah U U u)) ⟨AA.new _ _ _,Ar b2 lR (Aq _ _)⟩ ?_
    rintro U3 E3;generalize u2.heap.size=Y3 at E3⊢;clear b2;obtain⟨x0,x1,x2,x3⟩:=A7 E3.1;obtain⟨q0,W,q2,q3⟩:=A7 (n.2.2.1.a7 E3.2);obtain⟨aR,aS,aT,aU⟩:=Ve (n.2.2.1.a7 E3.2);go_wp2_with fail;have G:Ae _:=((((n.2.2.1.a7 E3.2).set 0 (iZ (c))).set 1 (iZ ((a:Int)))).set 2 (iZ (0))).set 3 sN;simp only[lM,lU,lX]at G;clear q0 W q2 q3;obtain⟨q0,W,q2,q3⟩:=A7 G;refine lO (v:=Am #[iZ (c),iZ ((a:Int)),iZ (0),sN]) (by simp[results,results246,go_sem,q0,W,q2,q3]) rfl ?_;have aH:=Ar n.2.2.2.1 lR E3.2;rw[aq];exact⟨sN,[],rfl,VN _ _,rfl,sP, λx hx=>(by cases hx),((((aH.setCell oS _).setCell oS _).setCell oS _).setCell oS _)⟩
  | inr s'=>
    rw[ae]at ao ah;obtain⟨rfl,aP,N',bt,am⟩:=ao;have HN:=Av (d5 ah (Uo HS.2 ae));have E3:=Av (am.more oM);clear ah ae am E;(go_upto_region 6 with fail);refine Ax (λu=>Ae (AA u u2 #[iZ 0,iZ 0,iZ 0,sN] 87/\Gn U u ⟨Z O p.aC P,Z L p.dk N,Z f1 p.aD f3,Z Q p.e8 T⟩ ⟨Z y f.gU A,Z C f.gW D,Z F f.bO I⟩ f (sO gb ob r.a8 c1) TB QB GS f.bO B (2*(k+1)+1) aP s')) ⟨AA.new _ _ _,E3.a7 (Aq _ _)⟩ ?_
    rintro U3 E4;generalize u2.heap.size=Y3 at E4⊢;clear E3;obtain⟨x0,x1,x2,x3⟩:=A7 E4.1;go_wp2_with fail;go_roundw;(case rel=>exact⟨k+1,aP,s',oM,by go_num,HN,E4.2⟩);exact oI
 case neg=>
  have bB:k=r.gY.length:=oM;have aq:Ae (aQ=.inr s):=by have:=HS.1;have bi:(r.gY.map Int.toNat).drop k=[]:=List.drop_eq_nil_of_le (by rw[mD];omega);rw[bi,Ie]at this;exact this.symm
  have bj:¬(k:Int)<(r.gY:Int):=oM;go_upto_region 9 with fail
  clear y0 y1 y2 y3 y4 y5;have HR:=Av (E.a7 (At _));clear E;have au:wr.drew ⟨TB,10,M⟩=K (sG GS f.bO f.bO):=HR.tb.cell 10;have aw:wr.drew ⟨TB,11,M⟩=K ↑s.d:=HR.tb.cell 11
  have aX:¬TB= ↑w+1+1:=by have:=HR.lo;omega
  have rb:=n.2.2.1.a7 HR.ej;obtain⟨q0,W,q2,q3⟩:=A7 rb;obtain⟨aR,aS,aT,aU⟩:=Ve rb;have G:Ae _:=(((rb.set 0 (iZ 0)).set 1 (iZ 0)).set 2 s.d).set 3 (sG GS f.bO f.bO);simp only[lM,lU,lX]at G;refine wp_region_held_drew (S:= λw'=>w' ⟨TB,10,M⟩=K (sG GS f.bO f.bO)/\w' ⟨TB,11,M⟩=K ↑s.d) kR ⟨au,aw⟩ (λaF=> ?_)
  generalize wr.drew=WD at HR aF au aw rb q0 W q2 q3 aR aS aT aU G⊢;refine AH 0 ?_;refine AH 1 ?_;refine AH 2 ?_;refine AH 3 ?_;refine AH 4 ?_;refine AH 5 ?_;refine AH 6 ?_;refine AH 7 ?_;refine AH 8 ?_;refine CX 9 ?_;intro KC aW;go_simp;refine aW.o _ _ ?_ (λaF=> ?_)
  . constructor
    . (repeat rw[World.cell?_setCell_far _ _ _ _ (λe=>aX e.symm)]);exact au
    (repeat rw[World.cell?_setCell_far _ _ _ _ (λe=>aX e.symm)]);exact aw
  clear aW KC;refine wpAnyH_done kR ?_ _;clear aF;clear q0 W q2 q3;obtain⟨q0,W,q2,q3⟩:=A7 G;have HT:=HR.told (X:=(w:Nat)+1+1) (base:=w) n.2.2.2.1.size bf (iZ 0) (iZ 0) s.d (sG GS f.bO f.bO);have aH:=Ar n.2.2.2.1 lR HR.ej;go_wp2_with fail;refine lO (v:=Am #[iZ 0,iZ 0,s.d,sG GS f.bO f.bO]) (by simp[results,results246,go_sem,q0,W,q2,q3]) rfl ?_;rw[aq];exact⟨_,_,rfl,HT.1,HT.2.1,by rw[HT.2.2.1];exact aZ,HT.2.2.2,((((aH.setCell oS _).setCell oS _).setCell oS _).setCell oS _)⟩
theorem Rx.nn{b:Nat->Prop}{r:Int}(h:Rx E n b a C r):r=-1\/0<=r:=by
 rcases h with⟨h,_⟩|⟨s,_,m⟩
 . exact .inl h
 exact .inr m.nn
theorem Rv.nn{D L:Nat->Nat->Bool}{iv:Nat->Int}{d:Nat->Prop}{b:List Nat}{r:Int}(h:Rv E n D L iv d b a C r):r=-1\/0<=r:=by
 induction h with
 |nil h=>exact h.nn
 |bad _=>exact .inl rfl
 |step _ _ c=>exact c
theorem DC.nn{a:Int}{C:List Int}{v:Int}(h:DC p a C v):v=-1\/0<=v:=by
 rcases h with⟨_,h⟩|⟨f,r,_,_,_,_,_,h⟩
 . exact .inl h
 rcases h with⟨_,h⟩|⟨_,_,_,_,_,_,_,_,_,h⟩
 . exact .inl h
 exact h.nn
theorem Be.free(h:Be xs r)(a:r.bO=0):AZ xs/\∃x,xs[xs.length-1]?=K x/\FW x=false:=by
 cases h with
 |good g x1 o1=>exact⟨g,_,x1,o1⟩
 |_=>simp[EI]at a
theorem Xf(l:p.small)(j:A6 p 0)(h:Dm w v p)(d:p.aD[m]?=K f)(s:DF w g f)(q:Be f.bO r)(n:r.bO=0):PE w v p g f:=by
 obtain⟨b,z,u,i⟩:=q.free n;refine⟨l,j,l.func f (lA d),h,s,b.1,b.2.1,b.2.2, λx a=> ?_, λk x a t=> ?_⟩
 . obtain⟨k,c⟩:=mJ a;exact j.iY d c
 have y:=(i8.1 a).1;refine mr λe=> ?_
 have c:k= ↑f.bO-1:=oM
 rw[c,u]at a;obtain rfl:=lP a;rw[t]at i;cases i
theorem IZ.low{s:J}{F:List (List Int×J)}(h:IZ u base s F){a:Addr}(b:a.block<base)(x:J):IZ (u.setCell a x) base s F:=⟨lV h.row b x,⟨λy c=>lV (h.io.own y c) b x,h.io.sep⟩⟩
theorem Q2(v:B2)(p:MP)(f:MF)(r:CS)(w:Y)(T:PE w ⟨Z v.r.a v.r.n v.r.c,Z v.k.a v.k.n v.k.c,Z v.f.a v.f.n v.f.c,Z v.t.a v.t.n v.t.c⟩ p ⟨Z v.p.a v.p.n v.p.c,Z v.l.a v.l.n v.l.c,Z v.c.a v.c.n v.c.c⟩ f)(S:v.rs=f.gV)(P:Be f.bO r)(O:r.bO=0)(Q:DQ w (Z v.b.a v.b.n v.b.c) (Z v.o.a v.o.n v.o.c) (Z v.i.a v.i.n v.i.c) (Z v.q.a v.q.n v.q.c) r):
 Ai Ap 245 #[Am #[],Am v.cells] w λe X=>∃(y:RC) (h:Option Addr) (j:Nat),e=Al (Am #[y.bO,y.at_,y.depth,Z h y.ia j])/\y=Q1 f.bO (FU p f r.a8 (r.gY.map Int.toNat) Mq)/\(∃(B:Nat) (F:List (List Int×J)), ↑w<=B/\IZ X B (Z h y.ia j) F/\F.map Prod.fst=y.ia)/\Ah w w X:=by
 have H:=Av (d5 T (d5 S (d5 P (d5 O Q))));clear T S P O Q;have m:=Fs w #[] v.cells #[iZ 0,iZ 0,iZ 0,sN] 57 164 87;go_enter func245,ntmps245;go_upto_region 1 with fail
 refine Ax (λu=>Ae (AA u ((w:Nat)+1) v.cells 164/\AA u ((w:Nat)+1+1) #[iZ 0,iZ 0,iZ 0,sN] 87/\Ah w w u)) ⟨m.2.1,m.2.2.1,m.2.2.2⟩ ?_
 rintro U g;clear m;obtain⟨p0,p1,p2,p3,p4,W,p6,p7,p8,p9,ah,aj,am,ao,aq⟩:=CT g.1;rw[H.2.1]at W;go_wp2_with fail;clear p0 p1 p2 p3 p4 W p6 p7 p8 p9 ah aj am ao aq;refine(Q3 U ⟨Z v.r.a v.r.n v.r.c,Z v.k.a v.k.n v.k.c,Z v.f.a v.f.n v.f.c,Z v.t.a v.t.n v.t.c⟩ p ⟨Z v.p.a v.p.n v.p.c,Z v.l.a v.l.n v.l.c,Z v.c.a v.c.n v.c.c⟩ f r v.co v.at_ (Z v.b.a v.b.n v.b.c) (Z v.o.a v.o.n v.o.c) (Z v.i.a v.i.n v.i.c) (Z v.q.a v.q.n v.q.c) (H.1.a7 g.2.2) H.2.2.1 H.2.2.2.1 (H.2.2.2.2.iE g.2.2 lR)).mono ?_;rintro e u1 ⟨s,F,rfl,D,x,_,_,C⟩;generalize V:Q1 f.bO (FU p f r.a8 (r.gY.map Int.toNat) Mq)=y at x⊢;have R:I5 u1 s y.ia:=x▸D.rd;obtain⟨h,j,es⟩:∃a c,s=Z a y.ia c:=by obtain⟨_,_,h2,_⟩:=R;exact h2.bW
 subst es;have A:=Av (d5 V (d5 x D));have d:=Av (d5 (g.2.1.a7 C) (d5 (Ar g.2.2 lR C) g.2.1.lt));have ae:=g.2.2.size;clear V x R D C g;obtain⟨E,I,L,N⟩:=A7 d.1;have f0:=d.1.frozen 0;have f1:=d.1.frozen 1;have f2:=d.1.frozen 2;have f3:=d.1.frozen 3;go_wp2_with fail;have G:Ae _:=(((d.1.set 0 y.bO).set 1 y.at_).set 2 y.depth).set 3 (Z h y.ia j);simp only[lM,lU,lX]at G;clear E I L N;obtain⟨E,I,L,N⟩:=A7 G;have z:=d.2.2;exact lO (v:=Am #[y.bO,y.at_,y.depth,Z h y.ia j]) (by simp[results,results245,go_sem,E,I,L,N]) rfl ⟨y,h,j,rfl,A.1.symm,⟨U,F,ae,(((A.2.2.low (a:=⟨(w:Nat)+1+1,0,M⟩) z y.bO).low (a:=⟨(w:Nat)+1+1,1,M⟩) z y.at_).low (a:=⟨(w:Nat)+1+1,2,M⟩) z y.depth).low (a:=⟨(w:Nat)+1+1,3,M⟩) z (Z h y.ia j),A.2.1⟩,(((d.2.1.setCell (by show(w:Nat)<= ↑w+1+1;omega) _).setCell (by show(w:Nat)<= ↑w+1+1;omega) _).setCell (by show(w:Nat)<= ↑w+1+1;omega) _).setCell (by show(w:Nat)<= ↑w+1+1;omega) _⟩
theorem Mw.of{v:B2}{l:Int}{F:List (MB×J)}{costs:List Int}{j:Option Addr}{cc:Nat}{S T:J}(u:Tu w v p l F xs r)(y:Be xs r)(e:r.bO=0)(Q:DQ w (Z v.b.a v.b.n v.b.c) (Z v.o.a v.o.n v.o.c) S T r)(G:costs.length<=1048576)(E:Rd w 1 (Z j costs cc) costs (Ad As costs))(R:∀x∈xs,x.op=28->0<=x.a)(H:∀t∈p.e8,EP t.init):∃O D L,Mw w v p l F xs r costs j cc O D L:=by
 obtain⟨gb,ob,cb,q,A,co,O,D,L,f,h,N,i,B⟩:=Qc y e Q;simp only[lB]at f h;have d:=B ⟨0,0,gb,ob,0,q,A,0,true,true,0,0,0,0⟩ rfl rfl rfl rfl;have P:O.reverse.Nodup:=List.pairwise_reverse.2 (i.nd.imp Ne.symm);refine⟨O,D,L,u,i,⟨⟨gb,ob,f.1,f.2.1,d.gr⟩,d.eb, λb=>lQ (d.sz b) oM,⟨q,A,h.1,by rw[h.2.1,d.ol],d.ord⟩,d.ob,by rw[d.ol];exact u.iq.nb, λb C=>Ic ((i.om b).2 C), λk b z=> ?_⟩, λb m I=> ?_,N,G,E,R,H⟩
 . have s:O.reverse[Dl O b]?=K b:=Ic (m7.1 (lA z));exact(List.getElem?_inj (i8.1 s).1 P).1 (s.trans z.symm)
 cases y with
 |none _=>cases e
 |off _ _ _=>cases e
 |lost _ _ _ _ _ _ _ _=>cases e
 |two _ _ _ _ _ _ _ _=>cases e
 |good g=>exact Tf g I
end Go.Proofs.YtadcneiiokbofaaGreat
