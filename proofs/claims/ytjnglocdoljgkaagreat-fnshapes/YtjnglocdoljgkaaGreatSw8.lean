import Derived.Test.YtjnglocdoljgkaaGreatSw6
import Derived.Shelf.SlicesG.Reverse
import Derived.Shelf.Bits.Mul64
import Derived.Shelf.Lay
import Derived.Ground.NamesProg
namespace Go.Proofs
open Go.Shelf
def Tryz.lReverse_ren:Go.Shelf.Ren:=⟨λ |35=>98|n=>n, λ |22=>36|23=>2|3=>3|4=>4|0=>0|n=>n, λ |n=>n⟩
theorem Tryz.lReverse:Go.Proofs.SlLaysN.n35 Tryz.prog Tryz.lReverse_ren:={
 mixed:=by kernel_rfl
 f35:=⟨Tryz.f98.name,by decide,Tryz.func98.trans (congrArg some (by kernel_rfl))⟩
 t0:=Tryz.underlying0
 a0:=Tryz.isAgg0
 z0:=Tryz.sizeOf0
 v0:=Tryz.zeroValue0
 t3:=Tryz.underlying3
 a3:=Tryz.isAgg3
 z3:=Tryz.sizeOf3
 v3:=Tryz.zeroValue3
 t4:=Tryz.underlying4
 a4:=Tryz.isAgg4
 z4:=Tryz.sizeOf4
 v4:=Tryz.zeroValue4
 t22:=Tryz.underlying36
 a22:=Tryz.isAgg36
 z22:=Tryz.sizeOf36
 v22:=Tryz.zeroValue36
 t23:=Tryz.underlying2
 a23:=Tryz.isAgg2
 z23:=Tryz.sizeOf2
 v23:=Tryz.zeroValue2}
def Tryz.lMul_ren:Go.Shelf.Ren:=⟨λ |212=>133|263=>152|264=>153|n=>n, λ |46=>159|51=>103|146=>212|53=>214|148=>215|n=>n, λ |n=>n⟩
theorem Tryz.lMul:Go.Proofs.Lays.n212 Tryz.prog Tryz.lMul_ren:={
 mixed:=by kernel_rfl
 f212:=Tryz.func133.trans (congrArg some (by kernel_rfl))
 f263:=Tryz.func152.trans (congrArg some (by kernel_rfl))
 f264:=Tryz.func153.trans (congrArg some (by kernel_rfl))
 t46:=Tryz.underlying159
 a46:=Tryz.isAgg159
 z46:=Tryz.sizeOf159
 v46:=Tryz.zeroValue159
 t51:=Tryz.underlying103
 a51:=Tryz.isAgg103
 z51:=Tryz.sizeOf103
 v51:=Tryz.zeroValue103
 t53:=Tryz.underlying214
 a53:=Tryz.isAgg214
 z53:=Tryz.sizeOf214
 v53:=Tryz.zeroValue214
 t146:=Tryz.underlying212
 a146:=Tryz.isAgg212
 z146:=Tryz.sizeOf212
 v146:=Tryz.zeroValue212
 t148:=Tryz.underlying215
 a148:=Tryz.isAgg215
 z148:=Tryz.sizeOf215
 v148:=Tryz.zeroValue215}
end Go.Proofs
namespace Go.Proofs.YtjnglocdoljgkaaGreat
open Go.ChangeShapes Go.WideShapes Go.ChangeAt Go.RowKit
set_option linter.unusedVariables false
open Option renaming some → K,none → M
open Go renaming World → Y,Value → J,Calls → Ae,TypeId → Af
open Go.IntKind renaming i64 → Ab
open Go.RowKit renaming Below → Ad,Hid → Aa
open Go.Value renaming slice → Z,int → Ac
set_option maxHeartbeats 8000000
set_option maxRecDepth 100000
variable {D:DataW Unit}{k j e b n c f x base g y gs G:Nat}{u w a wr U:Y}{z h:Int}{L l:List Nat}{m:MB}{α β:Type}{E:Nat->List Nat}{ts:List MT}{s V V':J}{P Q:Nat->Bool}{ok:Nat->Prop}{I:Nat->Int}{W:World}
theorem IE:∀(a b:List Int),a.Pairwise (· < ·)->b.Pairwise (· < ·)->(∀z,z∈a↔z∈b)->a=b
 |[],[],_,_,_=>rfl
 |[],y::b,_,_,h=>by have:=(h y).2 sP;cases this
 |x::a,[],_,_,h=>by have:=(h x).1 sP;cases this
 | x ::a,y::b,ha,hb,h=>by
   obtain⟨i,k⟩:=mH.1 ha;obtain⟨j,l⟩:=mH.1 hb;have e:x=y:=by
    rcases lA.1 ((h x).1 sP)with e|e
    . exact e
    rcases lA.1 ((h y).2 sP)with g|g
    . exact g.symm
    have:=j x e;have:=i y g;omega
   subst e;(congr 1);refine IE a b k l λz=>⟨λf=> ?_, λf=> ?_⟩
   . rcases lA.1 ((h z).1 (lX _ f))with e|e
     . have:=i z f;omega
     exact e
   rcases lA.1 ((h z).2 (lX _ f))with e|e
   . have:=j z f;omega
   exact e
theorem Vt(xs:List MI)(j:Nat)(a:AH xs)(h:BO xs xs j=true):j<=xs.length:=by
 simp only[BO,Bool.or_eq_true,List.any_eq_true,mz,mi]at h;rcases h with h|⟨i,b,h⟩
 . omega
 cases hx:xs[i]? with
 |none=>rw[hx]at h;cases h
 | some x=>
   rw[hx]at h;simp only[Fq,Bool.or_eq_true,nL,mi]at h;rcases h with⟨h1,h2⟩|⟨_,h2⟩
   . have:=a.2.2 i x hx h1;omega
   omega
def Eh(D:DataW Unit)(xs:List MI)(k:Nat):Prop:=∀z:Int,Go.Maps.has D (.int Ab z)=(decide (0<=z)&&BO xs k z.toNat)
theorem FD(D:DataW Unit)(a:Go.Maps.IsMap D)(z y:Int)(u:DataW Unit):Go.Maps.has (D.put (.int Ab z) u) (.int Ab y)=(Go.Maps.has D (.int Ab y)||decide (y=z)):=by
 by_cases h:y=z
 . subst h;rw[Go.Maps.has_put_same a (show WideAt.IsKeyLit (Lit.int Ab y)from trivial)];simp
 rw[Go.Maps.has_put_other (λe=>h (by cases e;rfl))];simp[h]
theorem Eh.start(xs:List MI)(u:DataW Unit):Eh ((DataW.map []:DataW Unit).put (.int Ab 0) u) xs 0:= λz=>by
 rw[FD _ Go.Maps.isMap_empty,J5];have e:Go.Maps.has (DataW.map []:DataW Unit) (.int Ab z)=false:=rfl;rw[e];by_cases h:z=0
 . subst h;rfl
 by_cases a:0<=z
 . have:¬z.toNat=0:=oM;simp[h,this]
 simp[h,a]
theorem Eh.none{xs:List MI}{x:MI}(h:Eh D xs k)(e:xs[k]?=K x)(a:AR x=false)(b:¬x.op=29):Eh D xs (k+1):= λz=>by rw[h z,D8 xs k _ x e];simp[Fq,a,b]
theorem Eh.ret{xs:List MI}{x:MI}{u:DataW Unit}(h:Eh D xs k)(b:Go.Maps.IsMap D)(i:xs[k]?=K x)(f:AR x=false)(g:x.op=29):Eh (D.put (.int Ab ((k:Int)+1)) u) xs (k+1):= λz=>by
 rw[FD D b,h z,D8 xs k _ x i];by_cases a:0<=z
 . have e:decide (z=(k:Int)+1)=decide (z.toNat=k+1):=decide_eq_decide.2 ⟨λ_=>oM, λ_=>oM⟩;rw[e];simp[Fq,f,g,a]
 have e:decide (z=(k:Int)+1)=false:=oT;simp[e,a]
theorem Eh.goes{xs:List MI}{x:MI}{u j:DataW Unit}(h:Eh D xs k)(f:Go.Maps.IsMap D)(i:xs[k]?=K x)(g:AR x=true)(l:0<=x.c):Eh ((D.put (.int Ab x.c) u).put (.int Ab ((k:Int)+1)) j) xs (k+1):= λz=>by
 rw[FD _ (f.put _ _),FD D f,h z,D8 xs k _ x i];by_cases b:0<=z
 . have e:decide (z=(k:Int)+1)=decide (z.toNat=k+1):=decide_eq_decide.2 ⟨λ_=>oM, λ_=>oM⟩;have a:decide (z=x.c)=decide (x.c=(z.toNat:Int)):=decide_eq_decide.2 ⟨λ_=>oM, λ_=>oM⟩;rw[e,a];simp[Fq,g,b,Bool.or_assoc]
 have e:decide (z=(k:Int)+1)=false:=oT;have a:decide (z=x.c)=false:=oT;simp[e,a,b]
theorem KH(h:Ad w w a):w.grownBy a M:=⟨h.os,h.tape,h.output,h.size, λk b _=>h.block k b⟩
theorem Bo.bM{e:Y}{a:Nat}(h:Bo w b a D)(f:Ad w w e):Bo e b a D:=World.ownsMap.kept h (KH f) sP
structure LX(w wr U:Y)(x:MI)(cnt:Nat)(D:DataW Unit):Prop where
 set:Bo U w cnt D
 xb:Ar U wr #[.int Ab x.op,.int Ab x.a,.int Ab x.b,.int Ab x.c] 60
 gG:Ad w w U
 lt:(w:Nat)< ↑wr
theorem LX.bM{b:Y}{x:MI}(h:LX w wr U x e D)(a:Ad U U b):LX w wr b x e D:=⟨h.set.bM a,h.xb.bM a,Ai h.gG lR a,h.lt⟩
theorem LX.grown{x:MI}{i f:Nat}{b:DataW Unit}(h:LX w wr U x i D)(l:Bo a w f b)(g:U.grownBy a (K w)):LX w wr a x f b:=by refine⟨l,?_,h.gG.grown g h.gG.size (λj k=>by cases k;exact Nat.le_refl _),h.lt⟩;have:=h.xb;have m:=h.lt;unfold Ar at*;rw[g.block _ h.xb.lt (λe=>by have:=kN e;omega)];exact this
theorem N4{X:Nat}{a x1 x2 x3:J}{t:Af}(h:Ar u X #[a,x1,x2,x3] t):u.cell? X=K a/\u.cell? ⟨X,1,M⟩=K x1/\u.cell? ⟨X,2,M⟩=K x2/\u.cell? ⟨X,3,M⟩=K x3:=⟨h.cell 0,h.cell 1,h.cell 2,h.cell 3⟩
theorem EW(a:0<=z)(h1:z<=1048576):CO z:=WalkArith.wf_i64 oM
theorem LY(s:J)(xs:List MI)(w:Y)(hg:AH xs)(h:Rd w 4 s xs (xs.flatMap MI.cells)):
 Ae Tryz.prog 95 #[s] w λe w'=>∃g cap,e=.returned (sG g (Cs xs xs).length cap)/\w'.ownsRow w 2 1 (sG g (Cs xs xs).length cap) (Cs xs xs).length (((Cs xs xs).map Int.ofNat).flatMap Ah)/\Ad w w w':=by
 have H:Aa (Rd w 4 s xs (xs.flatMap MI.cells)):=h;have HG:Aa (AH xs):=hg;have aJ:=hg.1;have aM:=hg.2.1;obtain⟨a1,c1,rfl⟩:=h.fu;clear h hg;generalize aq:xs.length=n at H aJ aM;have N:Aa (↑xs=n):=aq
 clear aq;have aT:= @run_makeMap Tryz.prog;have S0:Bo (w.alloc (.map #[] 0)) w 0 (.map []):=World.ownsMap_made _ _ _ _;have B0:Ad w w (w.alloc (.map #[] 0)):=Ag _ _;have z0:(w.alloc (.map #[] 0)).heap.size= ↑w+1:=sP
 have aw:((w.alloc (.map #[] 0)).alloc (.cells #[iZ 0] 2)).cell? ⟨(w:Nat)+1,0,M⟩=K (iZ 0):=by have:=(Ar.new (w.alloc (.map #[] 0)) #[iZ 0] 2).cell 0;rw[z0]at this;exact this
 have S1:Aa (Bo ((w.alloc (.map #[] 0)).alloc (.cells #[iZ 0] 2)) w 0 (.map [])/\Ad w w ((w.alloc (.map #[] 0)).alloc (.cells #[iZ 0] 2))):=⟨S0.bM (Ag _ _),Ai B0 lR (Ag _ _)⟩
 have l:Aa _:=aw;clear S0 B0 z0 aw;go_enter Tryz.func95,Tryz.ntmps95;go_wp2_with fail;refine(Ec w 0 ((w:Nat)+1) 1 (.map []) 0 _ (EW oM oM) oM l.o oM S1.o.1).mono ?_;rintro e u1 ⟨rfl,s1,g1⟩;have Q:Aa (∃f D,f<=1/\Bo u1 w f D/\Eh D xs 0/\Ad w w u1):=⟨_,_,Nat.le_refl _,s1,Eh.start xs _,S1.o.2.grown g1 S1.o.2.size (λj T=>by cases T;exact Nat.le_refl _)⟩
 clear s1 g1 S1 l;go_wp2;go_loopw [12] (λi wr=>∃k:Nat,k<=n/\i=iZ k/\Aa (∃f D,f<=2*k+1/\Bo wr w f D/\Eh D xs k/\Ad w w wr)) (λi _=>n-(intOf i).toNat)
 case atStart=>exact⟨0,oM,rfl,Q⟩
 clear Q;obtain⟨k,hk,rfl,Q⟩:=hrel;obtain⟨f,D,aR,aj,aA,au⟩:=Q.o;have p:=Ap (ji aA (ji au (ji aj (oH aj))));clear aj aA au Q;by_cases aQ:k<n
 . obtain⟨x,I⟩:∃x,xs[k]?=K x:=⟨_,an (by rw[N.o];exact aQ)⟩;have HX:Aa (xs[k]?=K x):=I;rcases H.o.2 with⟨e0,_⟩|⟨g,o,c,e1,F⟩
   . omega
   simp only[jc,lO]at e1;obtain⟨rfl,rfl⟩:=e1;have x0:=Rd.elem MI.gH F k _ I 0 _ rfl;have x1:=Rd.elem MI.gH F k _ I 1 _ rfl;have x2:=Rd.elem MI.gH F k _ I 2 _ rfl;have x3:=Rd.elem MI.gH F k _ I 3 _ rfl;rw[<-p.o.2.1.cell (jC x0),kZ]at x0;rw[<-p.o.2.1.cell (jC x1)]at x1;rw[<-p.o.2.1.cell (jC x2)]at x2;rw[<-p.o.2.1.cell (jC x3)]at x3;clear F I;have aS:(k:Int)<(n:Int):=oM;have ao:Aa (LX w wr (wr.alloc (.cells #[iZ x.op,iZ x.a,iZ x.b,iZ x.c] 60)) x f D):=⟨p.o.2.2.1.bM (Ag _ _),Ar.new _ _ _,Ai p.o.2.1 lR (Ag _ _),nu p.o.2.2.1⟩;(go_upto_region 6 with fail);refine An (λu=>Aa (LX w wr u x f D)) ao ?_;intro U1 a8;clear ao x0 x1 x2 x3;obtain⟨t,y,a2,A⟩:=N4 a8.o.xb;go_wp2_with fail;refine(CL x _).mono ?_;rintro e W ⟨rfl,b2⟩;have C:Aa (LX w wr W x f D):=a8.o.bM b2;clear b2 t y a2 A a8;cases hgo:AR x
   . obtain⟨t,y,a2,A⟩:=N4 C.o.xb;go_wp2_with fail;refine(CL x _).mono ?_;rintro e B ⟨rfl,b3⟩;have R:Aa (LX w wr B x f D):=C.o.bM b3;clear b3 t y a2 A C;rw[hgo];obtain⟨t,y,a2,A⟩:=N4 R.o.xb;by_cases hr:x.op=29
     . rw[hr]at t;have l:Aa ((B.alloc (.cells #[iZ ((k:Int)+1)] 2)).cell? B=K (iZ ((k:Int)+1))/\LX w wr (B.alloc (.cells #[iZ ((k:Int)+1)] 2)) x f D/\¬(B:Nat)= ↑w):=⟨(Ar.new B #[iZ ((k:Int)+1)] 2).cell 0,R.o.bM (Ag _ _),by have:=nu R.o.set;omega⟩
       go_wp2_with fail;refine(Ec w f B 1 D ((k:Int)+1) _ (EW oM oM) oM l.o.1 l.o.2.2 l.o.2.1.set).mono ?_;rintro e u4 ⟨rfl,L,S⟩;have O:Aa (∃f D,f<=2*(k+1)+1/\Bo u4 w f D/\Eh D xs (k+1)/\Ad w w u4):=⟨_,_,oM,L,p.o.1.ret p.o.2.2.2 HX.o hgo hr,(l.o.2.1.grown L S).gG⟩
       clear L S t y a2 A;go_wp2;go_roundw;(case rel=>exact⟨k+1,oM,by go_num,O⟩);exact oI
     (have aU:(x.op==29)=false:=by simpa using hr);have O:Aa (∃f D,f<=2*(k+1)+1/\Bo B w f D/\Eh D xs (k+1)/\Ad w w B):=⟨_,_,oM,R.o.set,p.o.1.none HX.o hgo hr,R.o.gG⟩
     go_wp2;go_roundw;(case rel=>exact⟨k+1,oM,by go_num,O⟩);exact oI
   obtain⟨aI,F⟩:=HG.o.2.2 k x HX.o hgo;rw[N.o]at F;obtain⟨t,y,a2,A⟩:=N4 C.o.xb;have l:=Ap (ji ((Ar.new W #[iZ x.c] 2).cell 0) (ji ((C.o.bM (Ag _ _)):LX w wr (W.alloc (.cells #[iZ x.c] 2)) x f D) ((by have:=nu C.o.set;omega):¬(W:Nat)= ↑w)))
   go_wp2_with fail;refine(Ec w f W 1 D x.c _ (EW oM oM) oM l.o.1 l.o.2.2 l.o.2.1.set).mono ?_;rintro e u4 ⟨rfl,L,S⟩;have ae:Aa (LX w wr u4 x (f+1) (D.put (.int Ab x.c) (.agg []))):=l.o.2.1.grown L S;clear L S t y a2 A l C;obtain⟨t,y,a2,A⟩:=N4 ae.o.xb;go_wp2_with fail;refine(CL x _).mono ?_;rintro e G ⟨rfl,b5⟩;have ah:Aa (LX w wr G x (f+1) (D.put (.int Ab x.c) (.agg []))):=ae.o.bM b5;clear b5 t y a2 A ae;rw[hgo];obtain⟨t,y,a2,A⟩:=N4 ah.o.xb;have l:Aa ((G.alloc (.cells #[.int Ab ((k:Int)+1)] 2)).cell? G=K (.int Ab ((k:Int)+1))/\LX w wr (G.alloc (.cells #[.int Ab ((k:Int)+1)] 2)) x (f+1) (D.put (.int Ab x.c) (.agg []))/\¬(G:Nat)= ↑w):=⟨(Ar.new G #[.int Ab ((k:Int)+1)] 2).cell 0,ah.o.bM (Ag _ _),by have:=nu ah.o.set;omega⟩
   go_wp2_with fail;refine(Ec w (f+1) G 1 (D.put (.int Ab x.c) (.agg [])) ((k:Int)+1) _ (EW oM oM) oM l.o.1 l.o.2.2 l.o.2.1.set).mono ?_;rintro e u6 ⟨rfl,s6,g6⟩;have O:Aa (∃f D,f<=2*(k+1)+1/\Bo u6 w f D/\Eh D xs (k+1)/\Ad w w u6):=⟨_,_,oM,s6,p.o.1.goes p.o.2.2.2 HX.o hgo aI,(l.o.2.1.grown s6 g6).gG⟩
   clear s6 g6 t y a2 A;go_wp2;go_roundw;(case rel=>exact⟨k+1,oM,by go_num,O⟩);exact oI
 obtain rfl:k=n:=oM;go_wp2_with (at_delete;refine wpList_delete_own _ rfl _ _ 82 2 rfl 173 Mt Tryz.underlying82 _ w f D rfl p.o.2.2.1 _ _ rfl (oQ Tryz.underlying2 (EW (z:=(k:Int)) oM oM)) ?_;intro w1 aE aG);have HD:=Ap (ji aE (p.o.2.1.grown aG.grown p.o.2.1.size (λj T=>by cases T;exact Nat.le_refl _)));clear aE aG;go_wp2_with fail;refine(Lc w f _ _ oM HD.o.1).mono ?_;rintro e u9 ⟨g9,aH,zs,rfl,am,aF,aD,b9⟩;have ez:zs=(Cs xs k).map Int.ofNat:=by
  refine IE _ _ aF (nP.2 ((CC xs k).imp (λh=>by simpa using h))) λz=> ?_
  rw[aD,lK];constructor
  . rintro⟨h1,h2⟩;by_cases e:z=(k:Int)
    . subst e;rw[Go.Maps.has_del_same]at h2;cases h2
    rw[Go.Maps.has_del_other (λq=>e (by cases q;rfl)),p.o.1 z]at h2;simp only[nL,mi]at h2;have:=h2.2;rw[<-N.o]at this;have aP:=Vt xs _ HG.o this;rw[N.o]at aP;exact⟨z.toNat,(Cf _ _ _).2 ⟨oM,this⟩,oT⟩
  rintro⟨j,T,rfl⟩;obtain⟨j1,j2⟩:=(Cf _ _ _).1 T;rw[N.o]at j2;refine⟨EW sP oT,?_⟩;rw[Go.Maps.has_del_other (λq=>by cases q;omega),p.o.1];simp[j2]
 subst ez;rw[kW]at am;have HE:=Ap (ji (Ba am HD.o.2.size) (Ai HD.o.2 lR b9));clear am aF aD b9;rw[kW];go_wp2;go_ret;exact⟨g9,aH,rfl,HE.o.1,HE.o.2⟩
theorem N9(r:L.Pairwise (· < ·))(f:∀x∈L,x<n)(h:(build L n)[b]?=K m):∃a e:Nat,m.gK=(a:Int)/\m.last=(e:Int)/\a<=e/\e<n:=by
 unfold build at h;rw[my]at h;cases h1:L[b]? with
 |none=>rw[h1]at h;simp at h
 | some a=>
   cases h2:(L.tail++[n])[b]? with
   |none=>rw[h1,h2]at h;simp at h
   | some q=>
     rw[h1,h2]at h;simp only[kK]at h;subst h;have l:=f a (i8 h1);have g:a<q/\q<=n:=by
      by_cases p:b< ↑L.tail
      . rw[ld p]at h2;have g:=oP (i8 h2);refine⟨?_,nM (f q g)⟩;(have k:L[b+1]?=K q:=by rw[<-h2];cases L<;>simp);obtain⟨s,i⟩:=iV.1 h1;obtain⟨t,j⟩:=iV.1 k;rw[<-i,<-j];exact(nN.1 r) b (b+1) s t oM
      rw[lN oM]at h2;have:=i8 h2;simp only[lA,lW,mZ]at this;subst this;exact⟨l,Nat.le_refl _⟩
     exact⟨a,q-1,rfl,oS,oM,oM⟩
theorem BL{xs:List MI}(h:(At xs)[b]?=K m):∃a e:Nat,m.gK=(a:Int)/\m.last=(e:Int)/\a<=e/\e<xs.length:=by unfold At at h;rw[lG]at h;obtain⟨l,h1,rfl⟩:=mK.1 h;rw[Cp]at h1;obtain⟨a,e,g,i,j,k⟩:=N9 (CC _ _) (λx f=>((Cf _ _ _).1 f).1) h1;exact⟨a,e,g,i,j,k⟩
structure Yp(xs:List MI)(r:Fy):Prop where
 len:xs.length<=1024
 nb:r.ej.length<=1024
 two:∀m∈r.ej,m.next.length<=2
 nl:r.gI.length<=1024
 gR:∀(i:Nat) (m:MB),r.ej[i]?=K m->∃a e:Nat,m.gK=(a:Int)/\m.last=(e:Int)/\a<=e/\e< ↑xs
 loop:∀l∈r.gI,(∃h:Nat,l.head=(h:Int)/\h< ↑r.ej)/\(∀z∈l.ej,∃b:Nat,z=(b:Int)/\b< ↑r.ej)/\l.ej.length<=1024/\l.back.length<=2048
theorem Oo(f:α->List β)(l:List α)(h:∀a∈l,(f a).length<=2):(l.flatMap f).length<=2*l.length:=by
 induction l with
 |nil=>simp
 | cons a l g=>have h1:=h a sP;(have h2:=g λb e=>h b (by simp[e]));rw[kX,kJ,lh];omega
theorem RW{D:Nat->Nat->Bool}(h:∀b,(E b).length<=2)(n y:Nat):(AJ E D n y).length<=2*n:=by have h1:=Oo (λp=>((E p).filter λx=>decide (x=y)&&D y p).map λ_=>p) (List.range n) (λp _=>by rw[kW];exact kT (mc _ _) (h p));rw[mS]at h1;exact h1
theorem LO(f:α->Option β)(l:List α):(l.filterMap f).length<=l.length:=List.length_filterMap_le f l
theorem Qz{D L:Nat->Nat->Bool}(k:j<=n){l:ML}(h:l∈Cg E D L n j):(∃h:Nat,l.head=(h:Int)/\h<n)/\(∀z∈l.ej,∃b:Nat,z=(b:Int)/\b<n)/\ ↑l.ej<=n/\∃g,l.back=ints (AJ E D n g):=by
 unfold Cg at h;obtain⟨g,f,e⟩:=List.mem_filterMap.1 h;split at e
 . cases e
 cases e
 refine⟨⟨g,rfl,by have:=mz.1 f;omega⟩,?_,?_,g,rfl⟩
 . intro z i;obtain⟨b,a,rfl⟩:=lK.1 i;exact⟨b,rfl,mz.1 (nj.1 a).1⟩
 simp only[];rw[AU];exact kT (mc _ _) sP
theorem Bc.ii{xs:List MI}{r:Fy}(h:Bc xs r)(a:r.ch=0):Yp xs r:=by
 cases h with
 |none _=>cases a
 |off _ _ _=>cases a
 |lost _ _ _ _ _ _ _ _=>cases a
 |two _ _ _ _ _ _ _ _=>cases a
 | good g x1 o1 v1 s1 d1 b1 i1 l1=>
   refine⟨g.2.1,Eo g,Gg xs,?_, λi m h=>BL h, λl k=> ?_⟩
   . simp only[];unfold Cg;exact kT (LO _ _) (by rw[mS];exact Eo g)
   obtain⟨b,e,f,y,j⟩:=Qz lR k;refine⟨b,e,kT f (Eo g),?_⟩;rw[j,AU];exact kT (RW (Jh _ (Gg xs)) _ _) (by have:=Eo g;omega)
def DK(ts:List MT)(a h:Int):Option MT:=ts.find? λc=>decide (c.func=a)&&decide (c.head=h)
theorem Ob{a:Int}(q:∀(j:Nat) (c:MT),ts[j]?=K c->¬(c.func=a/\c.head=h)):DK ts a h=M:=by unfold DK;rw[List.find?_eq_none];intro c b;obtain⟨j,e⟩:=lw b;have:=q j c e;simpa using this
theorem Oc{a:Int}{i:Nat}{c:MT}(f:ts[i]?=K c)(b:c.func=a/\c.head=h)(q:∀(j:Nat) (c:MT),j<i->ts[j]?=K c->¬(c.func=a/\c.head=h)):DK ts a h=K c:=by
 unfold DK;rw[List.find?_eq_some_iff_getElem];obtain⟨k,e⟩:=iV.1 f;refine⟨by simp[b],i,k,e, λj g=> ?_⟩;have:=q j _ g (an oM);by_cases h1:ts[j].func=a
 . simp only[h1,lO]at this;simp[this]
 simp[h1]
def Ir(b:List MB)(l:List Int)(a:Int):Prop:=∃z∈l,∃m,b[z.toNat]?=K m/\m.gK<=a/\a<=m.last
def PX(xs:List MI)(k a:Int):Prop:=∃x,xs[a.toNat]?=K x/\(x.op=3\/x.op=27)/\x.a=k
def G7(xs:List MI)(m:MB):Int:=match xs[m.last.toNat]? with|some x=>if x.op=25 then m.last-1 else m.last|none=>m.last
def C8(b:List MC)(xs:List MI)(m:MB)(c:MT):Prop:=m.gK<=G7 xs m-1/\∃x y v,xs[(G7 xs m-1).toNat]?=K x/\xs[(G7 xs m).toNat]?=K y/\x.op=1/\y.op=3/\y.a=c.gQ/\b[x.a.toNat]?=K v/\v.type=3/\v.word=c.init
def Me(e:List MC)(xs:List MI)(a:List MB)(l:ML)(c:MT):Prop:=∃(b:Nat) (m:MB),a[b]?=K m/\l.head∈m.next/\¬((b:Int)∈l.ej)/\¬C8 e xs m c
def B9 (p:MP)(f:Int)(xs:List MI)(b:List MB)(l:ML)(n:Int):Prop:=∃e,b[l.head.toNat]?=K e/\
 ((DK p.dr f e.gK=M/\n=1)\/∃c g,DK p.dr f e.gK=K c/\xs[e.gK.toNat]?=K g/\
   ((¬ (g.op=27/\g.a=c.gQ)/\n=2)\/((g.op=27/\g.a=c.gQ)/\
     ((Ir b l.ej g.c/\n=3)\/(¬Ir b l.ej g.c/\
       (((∃a,Ir b l.ej a/\a≠e.gK/\PX xs c.gQ a)/\n=4)\/((¬∃a,Ir b l.ej a/\a≠e.gK/\PX xs c.gQ a)/\
         (((l.head=0\/Me p.aC xs b l c)/\n=5)\/(¬(l.head=0\/Me p.aC xs b l c)/\n=0)))))))))
theorem B9.one{p:MP}{k:Int}{xs:List MI}{f:List MB}{l:ML}{n n':Int}(h:B9 p k xs f l n)(b:B9 p k xs f l n'):n=n':=by
 obtain⟨t,m,h⟩:=h;obtain⟨u,i,b⟩:=b;obtain rfl:t=u:=by rw[m]at i;exact kN i
 rcases h with⟨q,rfl⟩|⟨c,g,q,r,h⟩<;>rcases b with⟨e,rfl⟩|⟨c',s,e,j,b⟩
 . rfl
 . rw[q]at e;cases e
 . rw[q]at e;cases e
 obtain rfl:c=c':=by rw[q]at e;exact kN e
 obtain rfl:g=s:=by rw[r]at j;exact kN j
 rcases h with⟨a,rfl⟩|⟨a,h⟩<;>rcases b with⟨a',rfl⟩|⟨a',b⟩
 . rfl
 . exact absurd a' a
 . exact absurd a a'
 rcases h with⟨a,rfl⟩|⟨a,h⟩<;>rcases b with⟨a',rfl⟩|⟨a',b⟩
 . rfl
 . exact absurd a a'
 . exact absurd a' a
 rcases h with⟨a,rfl⟩|⟨a,h⟩<;>rcases b with⟨a',rfl⟩|⟨a',b⟩
 . rfl
 . exact absurd a a'
 . exact absurd a' a
 rcases h with⟨a,rfl⟩|⟨a,rfl⟩<;>rcases b with⟨a',rfl⟩|⟨a',rfl⟩
 . rfl
 . exact absurd a a'
 . exact absurd a' a
 rfl
def nv(l:List Nat):List J:=l.map λ(k:Nat)=>Ac Ab (k:Int)
theorem Sy(l:List Nat):(nv l).length=l.length:=by simp[nv]
theorem FN(l m:List Nat):nv (l++m)=nv l++nv m:=by simp[nv]
theorem Dk(l:List Nat):nv l=(ints l).flatMap Ah:=by
 induction l with
 |nil=>rfl
 | cons x r a=>simp only[nv,ints,mo,kX]at a⊢;rw[a];rfl
theorem Rr(h:l[k]?=K x):(nv l)[k]?=K (Ac Ab (x:Int)):=by simp[nv,h]
def Iu(w:Y)(s:J)(l:List Nat):Prop:=Rd w 1 s l (nv l)
def Gj(w:Y)(base:Nat)(s:J)(l:List Nat):Prop:=w.ownsRow base 2 1 s l (nv l)
theorem Gj.rd(h:Gj w base s l):Iu w s l:=Rd.gM h
theorem Gj.bM(h:Gj w base s l)(b:Ad w w a):Gj a base s l:=Am h b lR
theorem Iu.bM(h:Iu w s l)(b:Ad w w a):Iu a s l:=Rd.bM h b lR
theorem Iu.at_{a:Option Addr}(h:Iu w (Z a n c) l)(f:l[k]?=K x):∃g o,a=K ⟨g,o,M⟩/\n= ↑l/\w.cell? ⟨g,o+k,M⟩=K (Ac Ab (x:Int)):=by
 rcases h.2 with⟨e0,_⟩|⟨g,o,c',b,i⟩
 . have:=(iV.1 f).1;omega
 simp only[jc]at b;obtain⟨rfl,rfl,rfl⟩:=b;exact⟨g,o,rfl,rfl,i k _ (Rr f)⟩
theorem Iu.all{a:Option Addr}(h:Iu w (Z a n c) l)(j:0<l.length):∃g o,a=K ⟨g,o,M⟩/\n= ↑l/\∀k x:Nat,l[k]?=K x->w.cell? ⟨g,o+k,M⟩=K (Ac Ab (x:Int)):=by
 rcases h.2 with⟨e0,_⟩|⟨g,o,c',b,f⟩
 . omega
 simp only[jc]at b;obtain⟨rfl,rfl,rfl⟩:=b;exact⟨g,o,rfl,rfl, λk x i=>f k _ (Rr i)⟩
def bv(P:Nat->Bool)(n:Nat):List J:=(List.range n).map λi=>Value.bool (P i)
theorem Hr(P:Nat->Bool)(n:Nat):(bv P n).length=n:=by simp[bv]
theorem Kw(P:Nat->Bool)(n i:Nat)(h:i<n):(bv P n)[i]?=K (.bool (P i)):=by simp[bv,h]
theorem Oa(h:∀i,i<n->P i=Q i):bv P n=bv Q n:=by unfold bv;apply nF;intro i a;rw[h i (mz.1 a)]
theorem Th{n i:Nat}{b:Bool}(h:∀j,j<n->Q j=if j=i then b else P j):(bv P n).set i (.bool b)=bv Q n:=by
 apply mV;intro j;by_cases a:j<n
 . rw[Kw _ _ _ a,h j a];by_cases e:j=i
   . subst e;rw[mG (by rw[Hr];exact a),lS rfl]
   rw[mC oM,Kw _ _ _ a,lE e]
 rw[lB (by simp[Hr];omega),lB (by rw[Hr];omega)]
theorem Hs(n:Nat):List.replicate n (Value.bool false)=bv (λ_=>false) n:=by
 apply mV;intro j;by_cases a:j<n
 . rw[Kw _ _ _ a];simp[a]
 rw[lB oT,lB (by rw[Hr];omega)]
def Gq(w:Y)(base g n:Nat)(P:Nat->Bool):Prop:=w.ownsRow base 4 1 (Z g n n) n (bv P n)
theorem Gq.bM(h:Gq w base g n P)(b:Ad w w a):Gq a base g n P:=Am h b lR
theorem Gq.cell(h:Gq w base g n P){i:Nat}(a:i<n):w.cell? ⟨g,i,M⟩=K (.bool (P i)):=by have:=lV h i oM;rw[Kw _ _ _ a]at this;exact this
theorem Gq.frozen(h:Gq w base g n P)(i:Nat):w.frozen? ⟨g,i,M⟩=false:=mR h i
theorem Gq.set(h:Gq w base g n P)(i:Nat)(b:Bool)(a:∀j,j<n->Q j=if j=i then b else P j):Gq (w.setCell ⟨g,i,M⟩ (.bool b)) base g n Q:=by have:=(mq h i (.bool b)).1;rw[Th a]at this;exact this
def IK(w:Y)(g o n:Nat)(E:Nat->List Nat):Prop:=∀b,b<n->∃a c,w.cell? ⟨g,o+b*3+2,M⟩=K (Z a (E b).length c)/\Iu w (Z a (E b).length c) (E b)
theorem IK.bM{f:Y}{o:Nat}(h:IK w g o n E)(e:Ad w w f):IK f g o n E:= λb i=>by obtain⟨a,c,h1,h2⟩:=h b i;exact⟨a,c,Ak e h1,h2.bM e⟩
theorem Ic.i5{xs:List MI}(l:AH xs)(h:Ic w V (At xs)):∃g o c,V=Z (K ⟨g,o,M⟩) (At xs).length c/\IK w g o (At xs).length (nx (At xs))/\∀b m,(At xs)[b]?=K m->w.cell? ⟨g,o+b*3,M⟩=K (Ac Ab m.gK):=by
 obtain⟨D,h1,h2,B⟩:=h;have F:=Dj l;rcases h2.2 with⟨e0,_⟩|⟨g,o,c,z,k⟩
 . omega
 have p:∀b m,(At xs)[b]?=K m->∃v,D[b]?=K (m,v):= λb m f=>by rw[<-h1,lG]at f;obtain⟨⟨G,v⟩,C,s⟩:=mK.1 f;simp only[]at s;subst s;exact⟨v,C⟩
 refine⟨g,o,c,z, λb j=> ?_, λb m f=> ?_⟩
 . obtain⟨v,i⟩:=p b _ (an j);have r:=B _ (i8 i);have e:=Vw l (an j);(have t:Iu w v (nx (At xs) b):=by unfold Iu;rw[Dk];unfold UO at r;simp only[e]at r;rw[AU]at r;exact r);obtain⟨a,y,A⟩:=Rd.fu t;subst A;exact⟨a,y,Rd.elem Bh k b _ i 2 _ rfl,t⟩
 obtain⟨v,i⟩:=p b m f;have:=Rd.elem Bh k b _ i 0 _ rfl;rw[kZ]at this;exact this
def Ei(xs:List MI):Prop:=∀(i:Nat) (x:MI),xs[i]?=K x->AR x=true->0<=x.c/\x.c<(xs:Int)
theorem LM(a:Option Addr)(c:Nat)(z:Int)(w:Y):Ae Tryz.prog 114 #[Z a 0 c,iZ z] w λe b=>e=.returned (.bool false)/\b=w:=by have h:=AnyG.slices_Contains_int_empty Tryz.lContains a c z w;exact h
theorem Nk(g c:Nat)(y z:Int)(w:Y)(a:w.cell? g=K (iZ y)):Ae Tryz.prog 114 #[sG g 1 c,iZ z] w λe f=>e=.returned (.bool (decide (z=y)))/\f=w:=by
 have h:=AnyG.slices_Contains_int Tryz.lContains g 0 1 c [y] z w sP oM (λj b=>by
  have:j=0:=by simpa using b
  subst this;simpa using a)
 have e:([y].take 1).contains z=decide (z=y):=by
  by_cases q:z=y
  . simp[q]
  simp[q]
 rw[e]at h;exact h
theorem QV(g c:Nat)(zs:List Int)(z:Int)(w:Y)(N:zs.length<=1048576)(k:zs.Pairwise (· < ·))(h:Rd w 1 (sG g zs c) zs (zs.flatMap Ah))(G:z∈zs):
 Ae Tryz.prog 96 #[sG g zs c,iZ z] w λe s=>(∃b,e=.returned (.tuple #[iZ (zs.idxOf z:Nat),.bool b]))/\∃q,s=w.drewN q:=by
 have A:∀j,j< ↑zs->w.cell? ⟨g,0+j,M⟩=K (iZ (zs.getD j 0)):= λj B=>by
  rcases h.2 with⟨e0,_⟩|⟨L,O,c',i,f⟩
  . omega
  simp only[jc,kK,mA,mg,lO]at i;obtain⟨⟨rfl,rfl⟩,rfl⟩:=i;have:=f j (iZ (zs.getD j 0)) (by rw[Dy];simp[List.getD_eq_getElem?_getD,List.getElem?_eq_getElem B]);exact this
 have f:=AnyG.slices_BinarySearch_int Tryz.lSearch g 0 zs c zs z w lR oM A (by rw[lu lR];exact k.imp (λh=>oM));rw[lu lR]at f;have e:∀(l:List Int),l.Pairwise (· < ·)->z∈l->l.countP (λx=>decide (x<z))=l.idxOf z:=by
  intro l;induction l with
  |nil=>intro _ h;cases h
  | cons y r H=>
    intro D C;obtain⟨p,I⟩:=mH.1 D;by_cases q:y=z
    . subst q;rw[List.countP_cons_of_neg sP,List.idxOf_cons_self];exact List.countP_eq_zero.2 (λa t=>by have:=p a t;simp;omega)
    rcases lA.1 C with e|e
    . exact absurd e.symm q
    have:=p z e;rw[List.countP_cons_of_pos (by simpa using this),H I e,oh];rw[show(y==z)=false from by simpa using q];rfl
 refine f.mono ?_;rintro i s ⟨rfl,F⟩;rw[e zs k G];exact⟨⟨_,rfl⟩,F⟩
theorem MI.jN{xs:List MI}{g o n e:Nat}{x:MI}(h:∀j v,(xs.flatMap MI.cells)[j]?=K v->w.cell? ⟨g,o+j,M⟩=K v)(i:xs[e]?=K x)(f:Ad w w u):u.cell? ⟨g,o+e*4,M⟩=K (iZ x.op)/\u.cell? ⟨g,o+e*4+1,M⟩=K (iZ x.a)/\u.cell? ⟨g,o+e*4+2,M⟩=K (iZ x.b)/\u.cell? ⟨g,o+e*4+3,M⟩=K (iZ x.c):=by have k:=Rd.elem MI.gH h e _ i 0 _ rfl;have x1:=Rd.elem MI.gH h e _ i 1 _ rfl;have x2:=Rd.elem MI.gH h e _ i 2 _ rfl;have x3:=Rd.elem MI.gH h e _ i 3 _ rfl;rw[<-f.cell (jC k),kZ]at k;rw[<-f.cell (jC x1)]at x1;rw[<-f.cell (jC x2)]at x2;rw[<-f.cell (jC x3)]at x3;exact⟨k,x1,x2,x3⟩
theorem K9(s:J)(xs:List MI)(w:Y)(hn:xs.length<=1048576)(h:Rd w 4 s xs (xs.flatMap MI.cells)):
 Ae Tryz.prog 94 #[s] w λe w'=>AC e (Ei xs)/\Ad w w w':=by
 have H:Aa (Rd w 4 s xs (xs.flatMap MI.cells)):=h;obtain⟨a1,c1,rfl⟩:=h.fu;clear h;generalize R:xs.length=n at hn H;have C:Aa (↑xs=n):=R
 clear R;go_enter Tryz.func94,Tryz.ntmps94;go_wp2;go_loopw [7] (λi wr=>∃k:Nat,k<=n/\i=iZ k/\Aa ((∀j,j<k->∀x,xs[j]?=K x->AR x=true->0<=x.c/\x.c<(n:Int))/\Ad w w wr)) (λi _=>n-(intOf i).toNat)
 case atStart=>exact⟨0,oM,rfl,⟨λj W=>oM,lQ _ _⟩⟩
 obtain⟨k,hk,rfl,p⟩:=hrel;by_cases G:k<n
 . obtain ⟨x,I⟩:∃x,xs[k]?=K x:=⟨_,an (by rw[C.o];exact G)⟩;have D:Aa (xs[k]?=K x):=I;rcases H.o.2 with⟨e0,_⟩|⟨g,o,c,Q,S⟩
   . omega
   simp only[jc,lO]at Q;obtain⟨rfl,rfl⟩:=Q;obtain⟨x0,x1,x2,x3⟩:=MI.jN (n:=0) S I p.o.2;clear S I;have ae:(k:Int)<(n:Int):=oM;(go_upto_region 4 with fail);refine An (λu=>Aa (Ar u wr #[iZ x.op,iZ x.a,iZ x.b,iZ x.c] 60/\Ad w w u)) ⟨Ar.new _ _ _,Ai p.o.2 lR (Ag _ _)⟩ ?_
   intro U1 z;clear x0 x1 x2 x3;obtain⟨L,N,a2,O⟩:=N4 z.o.1;go_wp2_with fail;refine(CL x _).mono ?_;rintro e B ⟨rfl,F⟩;have A:Aa (Ar B wr #[iZ x.op,iZ x.a,iZ x.b,iZ x.c] 60/\Ad w w B):=⟨z.o.1.bM F,Ai z.o.2 lR F⟩
   clear F L N a2 O z;obtain⟨L,N,a2,O⟩:=N4 A.o.1;cases hgo:AR x
   . have t:Aa ((∀j,j<k+1->∀x,xs[j]?=K x->AR x=true->0<=x.c/\x.c<(n:Int))/\Ad w w B):=⟨λj W y l f=>by
      by_cases e:j=k
      . subst e;rw[D.o]at l;(cases l);rw[hgo]at f;cases f
      exact p.o.1 j oM y l f,A.o.2⟩
     go_wp2;go_roundw;(case rel=>exact⟨k+1,oM,by go_num,t⟩);exact oI
   . go_wp2_with fail;refine(Mr x.c n _ oM).mono ?_;rintro e u3 ⟨rfl,hu⟩;have a8:=hu.symm;clear hu;subst a8;by_cases r:0<=x.c/\x.c<(n:Int)
     . rw [show decide (0<=x.c/\x.c<(n:Int))=true from by simpa using r]
       have t:Aa ((∀j,j<k+1->∀x,xs[j]?=K x->AR x=true->0<=x.c/\x.c<(n:Int))/\Ad w w B):=⟨λj W y l f=>by
        by_cases e:j=k
        . subst e;rw[D.o]at l;(cases l);exact r
        exact p.o.1 j oM y l f,A.o.2⟩
       go_wp2;go_roundw;(case rel=>exact⟨k+1,oM,by go_num,t⟩);exact oI
     rw[show decide (0<=x.c/\x.c<(n:Int))=false from by simpa using r]
     (have t:Aa (¬Ei xs):= λe=>r (by have:=e k x D.o hgo;rw[C.o]at this;exact this));go_wp2;go_ret;exact⟨.no t.o,A.o.2⟩
 have HY:Aa (Ei xs):= λi x T f=>by have G:=(iV.1 T).1;rw[C.o]at G⊢;exact p.o.1 i oM x T f
 go_wp2;go_ret;exact⟨.ik HY.o,p.o.2⟩
structure NP(w U:Y)(V:J)(ns:List Int):Prop where
 gG:Ad w w U
 row:U.ownsRow w 2 1 V ns (ns.flatMap Ah)
theorem NP.bM{e:List Int}(h:NP w U V e)(b:Ad U U a):NP w a V e:=⟨Ai h.gG lR b,Am h.row b lR⟩
theorem NP.gX{b:Y}{a:List Int}{m:Nat}(h:NP w U V a)(k:b.ownsRow w 2 1 V' m (a.flatMap Ah++[iZ z]))(j:m= ↑a+1)(f:(U.alloc (.cells #[iZ z] 2)).grownBy b V.ownBlock):NP w b V' (a++[z]):=by have e:=Ag U (.cells #[iZ z] 2);refine⟨(Ai h.gG lR e).grown f (kT h.gG.size e.size) (λi g=>(h.row.lt i g).1),?_⟩;rw[kJ,kQ,<-j,lJ];exact k
structure Ie(E:Nat->List Nat)(ok:Nat->Prop)(f n:Nat)(L:List Nat):Prop where
 nodup:L.Nodup
 lt:∀x∈L,x<n
 reach:∀x∈L,Er E ok f x
 start:f∈L
theorem Ie.len(h:Ie E ok f n L): ↑L<=n:=by have:=Ga L n h.lt h.nodup;omega
theorem Ie.add(h:Ie E ok f n L)(l:b∈L)(q:y∈E b)(p:ok y)(m:y<n)(j:y∉L):Ie E ok f n (L++[y]):=by
 refine⟨nQ.2 ⟨h.nodup,sP, λa k c i e=> ?_⟩, λx g=> ?_, λx g=> ?_,kS.2 (.inl h.start)⟩
 . simp only[lA,lW,mZ]at i;subst i e;exact j k
 . rcases kS.1 g with g|g
   . exact h.lt x g
   simp only[lA,lW,mZ]at g;subst g;exact m
 rcases kS.1 g with g|g
 . exact h.reach x g
 simp only[lA,lW,mZ]at g;subst g;exact .step (h.reach b l) q p
def DG(E:Nat->List Nat)(ok:Nat->Prop)(L:List Nat)(i:Nat):Prop:=∀j x,L[j]?=K x->j<i->∀y∈E x,ok y->y∈L
def Ho(E:Nat->List Nat)(ok:Nat->Prop)(L:List Nat)(b k:Nat):Prop:=∀y∈(E b).take k,ok y->y∈L
theorem DG.gX{i:Nat}(h:DG E ok L i)(g:i<= ↑L)(y:Nat):DG E ok (L++[y]) i:= λj x a b z f e=>by rw[ld oM]at a;exact kS.2 (.inl (h j x a b z f e))
theorem Ho.next{e:List Nat}(h:Ho E ok L b k)(j:∀x∈L,x∈e)(l:(E b)[k]?=K y)(g:ok y->y∈e):Ho E ok e b (k+1):= λz a f=>by
 obtain⟨i,rfl⟩:=iV.1 l;rw[lH i]at a;rcases kS.1 a with a|a
 . exact j z (h z a f)
 simp only[lA,lW,mZ]at a;subst a;exact g f
theorem DG.next{i b:Nat}(h:DG E ok L i)(k:L[i]?=K b)(l:Ho E ok L b (E b).length):DG E ok L (i+1):= λj x a m y g f=>by
 by_cases e:j=i
 . subst e;rw[k]at a;(cases a);exact l y (by rw[lu lR];exact g) f
 exact h j x a oM y g f
theorem Ie.iff(h:Ie E ok f n L)(e:DG E ok L L)(x:Nat):x∈L↔Er E ok f x:=by
 refine⟨h.reach x, λg=> ?_⟩;induction g with
 |here _=>exact h.start
 | step _ h2 b i=>obtain⟨j,a⟩:=lw i;exact e j _ a (iV.1 a).1 _ h2 b
structure SN(w u:Y)(n gs:Nat)(V:J)(P:Nat->Bool)(L:List Nat):Prop where
 seen:Gq u w gs n P
 list:Gj u w V L
 gG:Ad w w u
theorem SN.mark(h:SN w u n gs V P L)(i:Nat)(b:Bool)(a:∀j,j<n->Q j=if j=i then b else P j):SN w (u.setCell ⟨gs,i,M⟩ (.bool b)) n gs V Q L:=⟨h.seen.set i b a,BW h.list h.seen dC i _,h.gG.setCell (AD h.seen).1 _⟩
theorem SN.al(h:SN w u n gs V P L)(o:Obj):(u.alloc o).ownsRow w 2 1 V L (nv L)/\ ↑w<=(u.alloc o).heap.size:=⟨h.list.bM (Ag _ _),kT h.gG.size (Ag _ _).size⟩
theorem SN.gX{b:Y}(h:SN w u n gs V P L)(g:b.ownsRow w 2 1 V' (L.length+1) (nv L++[iZ (y:Int)]))(e:(u.alloc (.cells #[iZ (y:Int)] 2)).grownBy b V.ownBlock):SN w b n gs V' P (L++[y]):=by have a:=Ag u (.cells #[iZ (y:Int)] 2);have j:=h.list.bM a;refine⟨BU (h.seen.bM a) e j dC,?_,(Ai h.gG lR a).grown e (kT h.gG.size a.size) (λi f=>(h.list.lt i f).1)⟩;unfold Gj;rw[kJ,kQ,FN];exact g
theorem SN.bM{b:Y}(h:SN w u n gs V P L)(a:Ad u u b):SN w b n gs V P L:=⟨h.seen.bM a,h.list.bM a,Ai h.gG lR a⟩
theorem Tl(L:List Nat)(y:Nat)(n:Nat):∀j,j<n->(L++[y]).contains j=if j=y then true else L.contains j:= λj _=>by
 by_cases e:j=y
 . subst e;simp
 simp[e]
theorem Qu(g o c n f:Nat)(z:Int)(E:Nat->List Nat)(w:Y)(hn:n<=1048576)(hE:∀b,b<n->∀x∈E b,x<n)(au:∀b,(E b).length<=2)(hf:f<n)(h:IK w g o n E):
 Ae Tryz.prog 76 #[sO g o n c,iZ (f:Int),iZ z] w λe w'=>∃gs P,e=.returned (sG gs n n)/\Gq w' w gs n P/\(∀x,x<n->(P x=true↔Er E (λy=>(y:Int)≠z) f x))/\Ad w w w':=by
 obtain⟨j0,O,aw,aA,aD⟩:=lU DL;obtain⟨k0,D,aP,aQ,aR⟩:=lU Bt;have H:Aa (IK w g o n E/\(∀b,b<n->∀x∈E b,x<n)/\(∀b,(E b).length<=2)):=⟨h,hE,au⟩
 clear h hE au;go_enter Tryz.func76,Tryz.ntmps76;by_cases q:(f:Int)=z
 . subst q;go_wp2_with (at_make;refine mX _ rfl _ _ 56 rfl w 4 j0 (.bool false) 1 Tryz.underlying56 O aw aA Ab Ab _ _ n rfl rfl rfl rfl (by rw[aD];omega) oX lR ?_;intro t r A;rw[Dz,Hs]at r);go_ret;refine⟨_,_,rfl,r, λx p=>⟨λq=>by simp at q, λq=>absurd rfl q.jF⟩,(lQ _ _).grown A lR (λk D=>by cases D)⟩
 have q':((f:Int)==z)=false:=by simpa using q
 have aX:(f:Int)<(n:Int):=oM;go_wp2_with (at_make;refine mX _ rfl _ _ 56 rfl w 4 j0 (.bool false) 1 Tryz.underlying56 O aw aA Ab Ab _ _ n rfl rfl rfl rfl (by rw[aD];omega) oX lR ?_;intro t r A;rw[Dz,Hs]at r;have z0:=mR r f;have d0:t.cell? ⟨w,f,M⟩=K (.bool false):=Gq.cell r oM);have HS:Aa (SN w ((t.setCell ⟨w,f,M⟩ (.bool true)).alloc (.cells #[iZ (f:Int)] 2)) n w (sG t 1 1) (λx=>[f].contains x) [f]):=by
  have aI:Ad w w t:=(lQ _ _).grown A lR (λk D=>by cases D);have k1:Gq (t.setCell ⟨w,f,M⟩ (.bool true)) w w n (λx=>[f].contains x):=Gq.set (P:= λ_=>false) r f true λj O=>by
   by_cases e:j=f
   . subst e;simp
   simp[e]
  have T:Ad w w (t.setCell ⟨w,f,M⟩ (.bool true)):=aI.setCell lR _;have aT:(t.setCell ⟨w,f,M⟩ (.bool true)).heap.size=t.heap.size:=mB ..
  rw[<-aT];generalize t.setCell ⟨w,f,M⟩ (.bool true)=W4 at k1 T⊢;exact⟨k1.bM (Ag _ _),Ba (mQ W4 #[iZ (f:Int)] 1 lR oX sP) T.size,Ai T lR (Ag _ _)⟩
 clear r A z0 d0;have S:Aa (Ie E (λy=>(y:Int)≠z) f n [f]):=⟨sP, λx p=>by simp at p;omega, λx p=>by simp at p;subst p;exact .here q,sP⟩;go_loopw [8,9] (λV i wr=>∃(L:List Nat) (k s cl:Nat),V=sG s L cl/\i=iZ k/\k<= ↑L/\ ↑L<=n/\Aa (SN w wr n w V (λx=>L.contains x) L/\Ie E (λy=>(y:Int)≠z) f n L/\DG E (λy=>(y:Int)≠z) L k)) (λ_ i _=>n-(intOf i).toNat)
 case atStart=>exact⟨[f],0,_,_,rfl,rfl,sP,S.o.len,HS.o,S.o, λj x O hl=>oM⟩
 clear HS S;obtain⟨L,k,s,cl,rfl,rfl,aJ,B,l⟩:=hrel;by_cases F:k< ↑L
 . have aq:(k:Int)<(L:Int):=oM;obtain⟨b,N⟩:∃b,L[k]?=K b:=⟨_,an F⟩;have ao:b<n:=l.o.2.1.lt b (i8 N);have aW:(b:Int)<(n:Int):=oM;have a8:=Ap N;obtain⟨_,_,ee,_,l0⟩:=l.o.1.list.rd.at_ N;simp only[kK,mA,mg]at ee;obtain⟨rfl,rfl⟩:=ee;rw[lY]at l0;obtain⟨a,ca,W,g1⟩:=H.o.1 b ao;have HR:=Ap g1;(replace W:=Ak l.o.1.gG W);have aU:=H.o.2.2 b;clear g1 N;go_wp2;go_loopw [8,11] (λV i wr=>∃(L:List Nat) (m s cl:Nat),V=sG s L cl/\i=iZ m/\m<=(E b).length/\k< ↑L/\ ↑L<=n/\Aa (SN w wr n w V (λx=>L.contains x) L/\Ie E (λy=>(y:Int)≠z) f n L/\DG E (λy=>(y:Int)≠z) L k/\L[k]?=K b/\Ho E (λy=>(y:Int)≠z) L b m)) (λ_ i _=>2-(intOf i).toNat)
   (case atStart=>exact⟨L,0,s,cl,rfl,rfl,oM,F,B,l.o.1,l.o.2.1,l.o.2.2,a8.o, λy C=>by simp at C⟩);clear l0 W l a8 F aq aJ B;obtain⟨L,m,s,cl,rfl,rfl,hm,X,B,l⟩:=hrel;by_cases F:m<(E b).length
   . have aq:(m:Int)<((E b).length:Int):=oM;obtain⟨y,C⟩:∃y,(E b)[m]?=K y:=⟨_,an F⟩;have aE:y<n:=H.o.2.1 b ao y (i8 C);have aY:(y:Int)<(n:Int):=oM;have I:=Ap C;obtain⟨ga,oa,rfl,_,R⟩:=HR.o.at_ C;have aG:=Ap R;(replace R:=Ak l.o.1.gG R);have s0:=l.o.1.seen.cell aE;clear C;by_cases Q:(y:Int)=z
     . subst Q;have v:=Ap (l.o.2.2.2.2.next (λx p=>p) I.o (λq=>absurd rfl q));go_wp2;go_roundw;(case rel=>exact⟨L,m+1,s,cl,rfl,by go_num,oM,X,B,l.o.1,l.o.2.1,l.o.2.2.1,l.o.2.2.2.1,v.o⟩);exact oI
     (have aZ:((y:Int)==z)=false:=by simpa using Q);(have bf:((y:Int) != z)=true:=by simpa using Q);cases hc:L.contains y
     . simp only[hc]at s0;have z0:=l.o.1.seen.frozen y;(have aS:y∉L:=by simpa using hc);have ah:=Ap (l.o.1.mark y true (Tl L y n));have ae:=Ap (l.o.2.1.add (i8 l.o.2.2.2.1) (i8 I.o) Q aE aS);have am:=ae.o.len;rw[kJ,kQ]at am;have v:Aa (Ho E (λx=>(x:Int)≠z) (L++[y]) b (m+1)):=l.o.2.2.2.2.next (λx p=>kS.2 (.inl p)) I.o (λ_=>sP);(go_upto_region 15 with fail);refine An (λu=>Aa (SN w u n w (sG s L cl) (λx=>(L++[y]).contains x) L)) ah ?_;intro U G;clear ah s0 z0 R;have y1:=Ak G.o.gG aG.o;go_wp2_with (at_builtin;refine wpList_append_lies _ rfl _ _ 36 rfl w 2 k0 (iZ 0) 1 8 Tryz.underlying36 D aP aQ aR rfl dC _ L (nv L) rfl (G.o.al (.cells #[iZ (y:Int)] 2)).1 U 1 1 [iZ (y:Int)] rfl rfl (BP U (y:Int)) (λu hu=>by simp at hu;subst hu;rfl) oM (by simp[maxLen];omega) oM (G.o.al (.cells #[iZ (y:Int)] 2)).2 _ rfl ?_;intro g5 aj w5 r A aH aM;have aF:Aa (SN w w5 n w (sG g5 (L.length+1) aj) (λx=>(L++[y]).contains x) (L++[y])):=G.o.gX r A;clear r A aH aM);go_roundw;(case rel=>exact⟨L++[y],m+1,g5,aj,by rw[kJ,kQ],by go_num,oM,by rw[kJ];omega,by rw[kJ,kQ];exact am,aF.o,ae.o,l.o.2.2.1.gX oM y,by rw[ld X];exact l.o.2.2.2.1,v.o⟩);exact oI
     simp only[hc]at s0;have v:=Ap (l.o.2.2.2.2.next (λx p=>p) I.o (λq=>by simpa using hc));go_wp2;go_roundw;(case rel=>exact⟨L,m+1,s,cl,rfl,by go_num,oM,X,B,l.o.1,l.o.2.1,l.o.2.2.1,l.o.2.2.2.1,v.o⟩);exact oI
   obtain rfl:m=(E b).length:=oM;have v:=Ap (l.o.2.2.1.next l.o.2.2.2.1 l.o.2.2.2.2);go_wp2;go_roundw;(case rel=>exact⟨L,k+1,s,cl,rfl,by go_num,oM,B,l.o.1,l.o.2.1,v.o⟩);exact oI
 obtain rfl:k=L.length:=oM;have HE:Aa (∀x,x<n->(L.contains x=true↔Er E (λy=>(y:Int)≠z) f x)):= λx p=>by rw[<-l.o.2.1.iff l.o.2.2 x];simp
 go_wp2;go_ret;exact⟨_,_,rfl,l.o.1.seen,HE.o,l.o.1.gG⟩
structure GI(w:Y)(G n gp cp gi ci:Nat)(pl:Nat->Nat)(I:Nat->Int):Prop where
 p:w.cell? ⟨G,3,M⟩=K (sG gp n cp)
 i:w.cell? ⟨G,4,M⟩=K (sG gi n ci)
 pc:∀x,x<n->w.cell? ⟨gp,x,M⟩=K (iZ (pl x:Int))
 ic:∀x,x<n->w.cell? ⟨gi,x,M⟩=K (iZ (I x))
theorem GI.bM{l:Y}{k:Nat->Nat}(h:GI w G n j f g e k I)(a:Ad w w l):GI l G n j f g e k I:=⟨Ak a h.p,Ak a h.i, λx b=>Ak a (h.pc x b), λx b=>Ak a (h.ic x b)⟩
theorem OY(G n Q N P L a b:Nat)(f:Nat->Nat)(I:Nat->Int)(w:Y)(hn:n<=1024)(V:Nd n f I)(W:f 0=0)(R:∀a b,a<n->b<n->f a=f b->a=b)(ha:a<n)(hb:b<n)(X:Kn I a)(kb:Kn I b)(h:GI w G n Q N P L f I):
 Ae Tryz.prog 102 #[.pointer G,iZ (a:Int),iZ (b:Int)] w λe w'=>∃m:Nat,e=.returned (iZ (m:Int))/\m<n/\Kn I m/\Cy I a b m/\Ad w w w':=by
 have H:Aa (GI w G n Q N P L f I/\Nd n f I/\f 0=0/\(∀a b,a<n->b<n->f a=f b->a=b)):=⟨h,V,W,R⟩
 have F:Aa (Kn I a/\Kn I b):=⟨X,kb⟩
 clear h V W R X kb;go_enter Tryz.func102,Tryz.ntmps102;go_wp2;go_loopw [1,2] (λv u wr=>∃x y:Nat,x<n/\y<n/\v=iZ (x:Int)/\u=iZ (y:Int)/\Aa (Kn I x/\Kn I y/\(∀m,Cy I x y m->Cy I a b m)/\Ad w w wr)) (λv u _=>f (intOf v).toNat+f (intOf u).toNat)
 case atStart=>exact⟨a,b,ha,hb,rfl,rfl,F.o.1,F.o.2, λm h=>h,lQ _ _⟩
 obtain⟨x,y,r,s,rfl,rfl,g⟩:=hrel;by_cases e:x=y
 . subst e;go_wp2;go_ret;exact⟨x,rfl,r,g.o.1,g.o.2.2.1 x (Cy.same I x),g.o.2.2.2⟩
 have O:¬(x:Int)=(y:Int):=oM;have eB:((x:Int)==(y:Int))=false:=by simpa using O
 have eN:((x:Int) != (y:Int))=true:=by simpa using O
 have l:=H.o.1.bM g.o.2.2.2;have B:=l.p;have t:=l.i;have px:=l.pc x r;have py:=l.pc y s;have z:=l.ic x r;have A:=l.ic y s;clear l;have ae:(x:Int)<(n:Int):=oM;have ah:(y:Int)<(n:Int):=oM;by_cases S:f y<f x
 . have a8:(f y:Int)<(f x:Int):=oM;(have D:x≠0:= λq=>by have:=H.o.2.2.1;rw[q]at S;omega);obtain⟨c,c1,c2,c3,c4⟩:=H.o.2.1.up x r D (g.o.1.resolve_left D);rw[c1]at z;have j:Aa (Kn I c/\Kn I y/\(∀m,Cy I c y m->Cy I a b m)/\Ad w w wr/\f c<f x):=⟨c4,g.o.2.1, λm C=>g.o.2.2.1 m (Cy.left H.o.2.1 s S D c1 C),g.o.2.2.2,c3⟩
   clear c1 c4;go_wp2;go_quiet (fail);refine A3 (λu=>Aa (Ad wr wr u)) (As _ _ _) ?_;intro U k;(replace B:=Ak k.o B);(replace t:=Ak k.o t);(replace z:=Ak k.o z);clear px py A;go_wp2;go_roundw;(case rel=>exact⟨c,y,c2,s,rfl,rfl,j.o.1,j.o.2.1,j.o.2.2.1,Ai j.o.2.2.2.1 lR k.o⟩);simp[intOf];have:=j.o.2.2.2.2;omega
 have a8:¬(f y:Int)<(f x:Int):=oM;have T:f x<f y:=by have:=H.o.2.2.2 x y r s;omega
 have E:y≠0:= λq=>by have:=H.o.2.2.1;rw[q]at T;omega
 obtain⟨c,c1,c2,c3,c4⟩:=H.o.2.1.up y s E (g.o.2.1.resolve_left E);rw[c1]at A;have j:Aa (Kn I x/\Kn I c/\(∀m,Cy I x c m->Cy I a b m)/\Ad w w wr/\f c<f y):=⟨g.o.1,c4, λm C=>g.o.2.2.1 m (Cy.symm (Cy.left H.o.2.1 r T E c1 C.symm)),g.o.2.2.2,c3⟩
 clear c1 c4;go_wp2;go_quiet (fail);refine A3 (λu=>Aa (Ad wr wr u)) (As _ _ _) ?_;intro U k;replace B:=Ak k.o B
 replace t:=Ak k.o t
 replace A:=Ak k.o A
 clear px py z;go_wp2;go_roundw;case rel=>exact⟨x,c,r,c2,rfl,rfl,j.o.1,j.o.2.1,j.o.2.2.1,Ai j.o.2.2.2.1 lR k.o⟩
 simp[intOf];have:=j.o.2.2.2.2;omega
theorem Bj.skip{f:List Nat}{p:Nat}(h:Bj n I f z)(i:¬Kn I p):Bj n I (f++[p]) z:=by
 have g:∀q,q∈f++[p]->q∈f\/q=p:= λq a=>by simpa using a
 rcases h with⟨h1,h2⟩|⟨m,h1,h2,j,⟨q,l,s⟩,t⟩
 . exact .inl ⟨h1, λq a=>(g q a).elim (h2 q) (λe=>by rw[e];exact i)⟩
 refine .inr ⟨m,h1,h2,j,⟨q,kS.2 (.inl l),s⟩, λd=> ?_⟩;rw[t d];exact⟨λk q a b=>(g q a).elim (λr=>k q r b) (λe=>absurd (e▸b) i), λk q a b=>k q (kS.2 (.inl a)) b⟩
theorem Bj.gK{a:List Nat}{p:Nat}(h:Bj n I a (-1))(b:Kn I p)(j:p<n):Bj n I (a++[p]) (p:Int):=by
 have i:∀q,q∈a++[p]->q∈a\/q=p:= λq f=>by simpa using f
 rcases h with⟨h1,h2⟩|⟨m,h1,_⟩
 . refine .inr ⟨p,rfl,j,b,⟨p,sP,b⟩, λd=>⟨λk q f g=>(i q f).elim (λr=>absurd g (h2 q r)) (λe=>e▸k), λk=>k p sP b⟩⟩
 omega
theorem Bj.ke{f:List Nat}{p m b:Nat}(h:Bj n I f (m:Int))(y:Kn I p)(v:b<n)(t:Kn I b)(s:Cy I m p b):Bj n I (f++[p]) (b:Int):=by
 have u:∀q,q∈f++[p]->q∈f\/q=p:= λq a=>by simpa using a
 rcases h with⟨h1,_⟩|⟨z,h1,h2,A,⟨q,i,j⟩,l⟩
 . omega
 obtain rfl:m=z:=oM;refine .inr ⟨b,rfl,v,t,⟨q,kS.2 (.inl i),j⟩, λd=> ?_⟩;rw[s d,l d];exact⟨λk q a g=>(u q a).elim (λr=>k.1 q r g) (λe=>e▸k.2), λk=>⟨λq a g=>k q (kS.2 (.inl a)) g,k p sP y⟩⟩
theorem Bj.some{e:List Nat}(h:Bj n I e z)(b:z≠ -1):∃m:Nat,z=(m:Int)/\m<n/\Kn I m:=by
 rcases h with⟨h1,_⟩|⟨m,h1,h2,a,_⟩
 . exact absurd h1 b
 exact⟨m,h1,h2,a⟩
theorem Nj(G n B y A u:Nat)(j:Nat->Nat)(I:Nat->Int)(s:J)(f:List Nat)(w:Y)(hn:n<=1024)(X:Nd n j I)(hz:j 0=0)(V:∀a b,a<n->b<n->j a=j b->a=b)(W:∀p∈f,p<n)(au:f.length<=4096)(O:Iu w s f)(h:GI w G n B y A u j I):
 Ae Tryz.prog 101 #[.pointer G,s] w λe Q=>∃z,e=.returned (iZ z)/\Bj n I f z/\Ad w w Q:=by
 have H:Aa (GI w G n B y A u j I/\Iu w s f/\(∀p∈f,p<n)):=⟨h,O,W⟩
 obtain⟨a1,c1,rfl⟩:=Rd.fu O;have HT:Aa (∀(a b:Nat) (U:Y),a<n->b<n->Kn I a->Kn I b->GI U G n B y A u j I->Ae Tryz.prog 102 #[.pointer G,iZ (a:Int),iZ (b:Int)] U λe Q=>∃m:Nat,e=.returned (iZ (m:Int))/\m<n/\Kn I m/\Cy I a b m/\Ad U U Q):= λa b U ha hb ka kb hU=>OY G n B y A u a b j I U hn X hz V ha hb ka kb hU
 clear h O W X hz V;go_enter Tryz.func101,Tryz.ntmps101;go_wp2;go_loopw [5,11] (λv i wr=>∃(k:Nat) (z:Int),k<= ↑f/\v=iZ z/\i=iZ k/\Aa (Bj n I (f.take k) z/\Ad w w wr)) (λ_ i _=> ↑f-(intOf i).toNat)
 case atStart=>exact⟨0,-1,oM,rfl,rfl,.inl ⟨rfl, λp r=>by simp at r⟩,lQ _ _⟩
 obtain⟨k,z,hk,rfl,rfl,g⟩:=hrel;by_cases ah:k< ↑f
 . have am:(k:Int)<(f:Int):=oM;obtain⟨p,r⟩:∃p,f[k]?=K p:=⟨_,an ah⟩;have N:p<n:=H.o.2.2 p (i8 r);have aw:(p:Int)<(n:Int):=oM;(have E:Aa (f.take (k+1)=f.take k++[p]):=by obtain⟨hl,rfl⟩:=iV.1 r;exact lH hl);obtain⟨ga,oa,rfl,_,R⟩:=H.o.2.1.at_ r;(replace R:=Ak g.o.2 R);have F:=H.o.1.bM g.o.2;have i0:=F.i;have ip:=F.ic p N;clear r F;by_cases C:Kn I p
   . have t:Aa (Kn I p):=C;(go_upto_region 5 with fail);go_cut [8]from 15 to 26 (λc wx=>c=.bool true/\wx=wr)
     case first=>
      by_cases L:p=0
      . subst L;go_wp2;go_meet;exact⟨rfl,rfl⟩
      have aj:((p:Int)==0)=false:=oT;have D:=t.o.resolve_left L;(have ao:(I p== -1)=false:=by simpa using D);(have aq:(I p != -1)=true:=by simpa using D);go_wp2;go_meet;exact⟨rfl,rfl⟩
     case rest=>
      obtain⟨rfl,a8⟩:=hcut;rw[a8];clear a8 R i0 ip;by_cases P:z=-1
      . subst P;(have l:Aa (Bj n I (f.take (k+1)) (p:Int)):=by show Bj _ _ _ _;rw[E.o];exact g.o.1.gK t.o N);go_wp2;go_roundw;(case rel=>exact⟨k+1,_,oM,rfl,by go_num,l.o,g.o.2⟩);exact oI
      (have aA:(z== -1)=false:=by simpa using P);obtain⟨m,rfl,hm,ae⟩:=g.o.1.some P;go_wp2_with fail;refine(HT.o m p wr hm N ae t.o (H.o.1.bM g.o.2)).mono ?_;rintro e u1 ⟨m',rfl,h1,h2,T,S⟩;have l:Aa (Bj n I (f.take (k+1)) (m':Int)/\Ad w w u1):=by refine⟨?_,Ai g.o.2 lR S⟩;rw[E.o];exact g.o.1.ke t.o h1 h2 T
      clear h2 T S;go_wp2;go_roundw;(case rel=>exact⟨k+1,_,oM,rfl,by go_num,l.o⟩);exact oI
   (have L:¬p=0:= λq=>C (.inl q));(have D:I p=-1:=ly λq=>C (.inr q));have aj:((p:Int)==0)=false:=oT;rw[D]at ip;(have l:Aa (Bj n I (f.take (k+1)) z):=by show Bj _ _ _ _;rw[E.o];exact g.o.1.skip C);go_wp2;go_roundw;(case rel=>exact⟨k+1,z,oM,by trivial,by go_num,l.o,g.o.2⟩);exact oI
 obtain rfl:k=f.length:=oM;have l:Aa (Bj n I f z):=by have:=g.o.1;rw[lu lR]at this;exact this
 go_wp2;go_ret;exact⟨z,rfl,l.o,g.o.2⟩
theorem Vv(x y:Nat)(hx:x<18446744073709551616)(hy:y<18446744073709551616)(w:World):
 Calls Tryz.prog 133 #[.int .u64 x,.int .u64 y] w λe w'=>e=.returned (.tuple #[.int .u64 ((x*y / 18446744073709551616:Nat):Int),.int .u64 ((x*y % 18446744073709551616:Nat):Int)])/\w'=w:=by
 have h:=Any.bits_Mul Tryz.lMul x y hx hy w;exact h
theorem Ph(g cap:Nat)(zs:List Int)(w:World)(hH:Go.Sort.Holds (Value.int .i64) w g 0 zs.toArray)(hsz:zs.length<=9223372036854775807):
 Calls Tryz.prog 98 #[.slice (some ⟨g,0,none⟩) zs.length cap] w λe w'=>e=.returned (.tuple #[])/\∃n,w'=Go.Sort.putRow (Value.int .i64) (Go.Sort.ahead w n) g 0 zs.reverse.toArray:=by
 have h:=AnyG.slices_Reverse_int Tryz.lReverse g 0 cap zs w hH hsz;exact h
def En(k n:Nat):List Value:=List.replicate k (.int .i64 (-1))++List.replicate (n-k) (.int .i64 0)
theorem Pc(k n:Nat)(h:k<=n):(En k n).length=n:=by simp[En];omega
theorem Pd(k c n:Nat)(h:k+c<=n):splice (En k n) k (List.replicate c (.int .i64 (-1)))=En (k+c) n:=by
 unfold splice En;rw[List.take_left' (by simp),nH,List.drop_append,nU (by simp),lg,nH,List.drop_replicate,<-mI,List.replicate_append_replicate];congr 2
 omega
theorem Oi(W:World)(G k n dl dc sl sc c:Nat)(ad:Addr)(hg:Ar W G (En k n).toArray 2)(hc:c=Nat.min sl dl)(hsrc:∀j,j<c->W.cell? (ad.add j)=some (.int .i64 (-1)))(hkc:k+c<=n):
 (Builtin.copy_ #[36,36] 3 #[.slice (some ⟨G,k,none⟩) dl dc,.slice (some ad) sl sc]).run Tryz.prog W=.ok (.int .i64 (c:Int)) (W.setRow G (En (k+c) n).toArray):=by
 obtain⟨k0,hk,hx0,hx1,hx2⟩:=lU Bt;have h:=run_copy_row (P:=Tryz.prog) W 36 36 3 2 G k dl dc ad sl sc (En k n).toArray 2 (List.replicate c (.int .i64 (-1))) Tryz.underlying36 (by rw[hk];simp[hx1]) hg (by rw[nH];exact hc) (λj v hj=>by obtain⟨h1,h2⟩:=iV.1 hj;rw[nH]at h1;rw[hsrc j h1,<-h2];simp) (by rw[nH,List.size_toArray,Pc k n (by omega)];exact hkc) (λv hv=>by rw[(List.mem_replicate.1 hv).2];rfl);rw[h];have e:=Pd k c n hkc;unfold splice at e;simp only[nH]at e⊢;rw[mI,e];rfl
theorem WY(k n i:Nat)(h:i<k)(hk:k<=n):(En k n).toArray[i]?=some (.int .i64 (-1)):=by rw[kL];unfold En;rw[ld (by simpa using h)];simp[h]
theorem TO{B:Nat}(h:W.ownsRow B 2 1 (.slice (some ⟨G,0,none⟩) n n) n (madeCells (Value.int .i64 0).cells (n*1)).toList):Ar W G (En 0 n).toArray 2:=by
 rcases h.2 with⟨h',_⟩|⟨g',cap',cur,h',hb,hg,h3,h4,h5,h6⟩
 . cases h'
 cases h'
 have e:cur=(En 0 n).toArray:=by rw[Jg n (λ_=>[]) []]at h6;rw[lu (by simp[h5])]at h6;apply Array.toList_inj.1;rw[h6];simp[CJ,En,List.flatten_replicate_singleton]
 rw[<-e];exact hg
theorem Lj{cur new:Array Value}{t:TypeId}(h:Ar W G cur t):Ar (W.setRow G new) G new t:=setRow_heap W G _ _ t _ h
theorem QT(g n:Nat)(w:World)(h1:1<=n)(hn:n<=1024)(h:w.cell? ⟨g,0,none⟩=some (.int .i64 (-1))):
 Calls Tryz.prog 100 #[.slice (some ⟨g,0,none⟩) 1 1,.int .i64 (n:Int)] w λe w'=>∃g',e=.returned (.slice (some ⟨g',0,none⟩) n n)/\w'.ownsRow w.heap.size 2 1 (.slice (some ⟨g',0,none⟩) n n) n (List.replicate n (.int .i64 (-1)))/\Below w.heap.size w w':=by
 obtain⟨k0,hk,hx0,hx1,hx2⟩:=lU Bt;have hnI:¬(n:Int)<0:=by omega
 have hn2:(n:Int)<=1024:=by omega
 have hm1:1*n / 18446744073709551616=0:=by omega
 have hm2:1*n % 18446744073709551616=n:=by omega
 have HM:Hid (∀U:World,Calls Tryz.prog 133 #[.int .u64 1,.int .u64 (n:Int)] U λe w'=>e=.returned (.tuple #[.int .u64 0,.int .u64 (n:Int)])/\w'=U):= λU=>by have:=Vv 1 n (by omega) (by omega) U;rw[hm1,hm2]at this;exact this
 clear hm1 hm2;go_enter Tryz.func100,Tryz.ntmps100;go_wp2_with fail;refine(HM.o w).mono ?_;rintro e u ⟨rfl,rfl⟩;have hgt:g<u.heap.size:=jC h;have HOC:Hid (u.cell? ⟨g,0,none⟩=some (.int .i64 (-1))):=h;clear h;go_upto_region 7 with(at_make;refine mX _ rfl _ _ 36 rfl u.heap.size 2 k0 (.int .i64 0) 1 Tryz.underlying36 hk hx0 hx1 .i64 .i64 _ _ n rfl rfl rfl rfl (by rw[hx2];omega) (by unfold maxLen;omega) lR ?_;intro w3 hown hgrow)
 have hb3:Below u.heap.size u w3:=(lQ _ _).grown hgrow lR (λk hk=>by cases hk);have k3:Ar w3 u.heap.size (En 0 n).toArray 2:=TO hown;have hcp:=Oi w3 u.heap.size 0 n n n 1 1 1 ⟨g,0,none⟩ k3 (by simp[Nat.min_def];omega) (λj hj=>by
  obtain rfl:j=0:=by omega
  rw[Da];exact Ak hb3 HOC.o) (by omega)
 have HB4:Hid (Ar (w3.setRow u.heap.size (En (0+1) n).toArray) u.heap.size (En (0+1) n).toArray 2/\Below u.heap.size u (w3.setRow u.heap.size (En (0+1) n).toArray)):=⟨Lj k3,below_setRow hb3 lR _⟩
 clear hown hgrow hb3 k3;rw[lY]at hcp HB4;obtain⟨W4,hW4⟩:∃W,W=w3.setRow u.heap.size (En 1 n).toArray:=⟨_,rfl⟩;rw[<-hW4]at hcp HB4;clear hW4;obtain⟨G,hG⟩:∃G,G=u.heap.size:=⟨_,rfl⟩;rw[<-hG]at hcp HB4⊢;have HGG:Hid (G=u.heap.size):=hG;clear hG;go_wp2;go_loopw [8] (λi wr=>∃k:Nat,1<=k/\k<=n/\i=.int .i64 (k:Int)/\Hid (Ar wr G (En k n).toArray 2/\Below u.heap.size u wr)) (λi _=>n-(intOf i).toNat)
 case atStart=>exact⟨1,by omega,h1,rfl,by rw[<-HGG.o];exact HB4⟩
 clear HB4 hcp;obtain⟨k,hk1,hkn,rfl,HL⟩:=hrel;by_cases hlt:k<n
 . (have hltI:(k:Int)<(n:Int):=by omega);have kD:=HL.o.1.bM (Aj wr);have bD:=Ai HL.o.2 lR (Aj wr);obtain⟨c,hc⟩:∃c,c=Nat.min k (n-k):=⟨_,rfl⟩;have hcl:1<=c/\c<=k/\k+c<=n:=by have e:c=min k (n-k):=hc;omega
   have hcp:=Oi wr.drew G k n (n-k) (n-k) k n c ⟨G,0,none⟩ kD hc (λj hj=>by rw[Da,lY,kD.cell j];exact WY k n j (by omega) (by omega)) (by omega);have HN:Hid (Ar (wr.drew.setRow G (En (k+c) n).toArray) G (En (k+c) n).toArray 2/\Below u.heap.size u (wr.drew.setRow G (En (k+c) n).toArray)):=⟨Lj kD,below_setRow bD (by rw[HGG.o];exact Nat.le_refl _) _⟩
   clear kD bD hc;go_wp2;go_region;refine A3 (λx=>Hid (Ar x G (En (k+c) n).toArray 2/\Below u.heap.size u x)) HN ?_
   intro U HU;clear HN hcp;go_wp2;go_roundw;(case rel=>exact⟨k+c,by omega,by omega,by go_num,HU⟩);simp[intOf];omega
 obtain rfl:k=n:=by omega
 have HE:Hid (wr.ownsRow u.heap.size 2 1 (.slice (some ⟨G,0,none⟩) k k) k (List.replicate k (.int .i64 (-1)))):=by refine⟨by simp,.inr ⟨G,k,(En k k).toArray,rfl,by rw[HGG.o];exact Nat.le_refl _,HL.o.1,Nat.le_refl _,by unfold maxLen;omega,by simp[En],by simp[En]⟩⟩
 go_wp2;go_ret;exact⟨G,rfl,HE.o,HL.o.2⟩
theorem QR(xs:List MI)(x:MI)(e:Nat)(h1:DQ x=true/\e+1< ↑xs)(h2:¬AR x=true):AO xs x e=[]++[((e:Int)+1)]:=by unfold AO;rw[lS h1,lE (λq=>h2 q.1)];rfl
theorem QM(xs:List MI)(x:MI)(e:Nat)(h1:DQ x=true/\e+1< ↑xs)(h2:AR x=true)(h:x.c=((e+1:Nat):Int)):AO xs x e=[]++[((e:Int)+1)]:=by unfold AO;rw[lS h1,lE (λq=>q.2 ⟨h1.1,h1.2,h⟩)];rfl
theorem QP(xs:List MI)(x:MI)(e:Nat)(h1:DQ x=true/\e+1< ↑xs)(h2:AR x=true)(h:¬x.c=((e+1:Nat):Int)):AO xs x e=[]++[((e:Int)+1)]++[x.c]:=by unfold AO;rw[lS h1,lS ⟨h2, λq=>h q.2.2⟩];rfl
theorem QN(xs:List MI)(x:MI)(e:Nat)(h1:¬(DQ x=true/\e+1< ↑xs))(h2:AR x=true):AO xs x e=[]++[x.c]:=by unfold AO;rw[lE h1,lS ⟨h2, λq=>h1 ⟨q.1,q.2.1⟩⟩]
theorem QQ(xs:List MI)(x:MI)(e:Nat)(h1:¬(DQ x=true/\e+1< ↑xs))(h2:¬AR x=true):AO xs x e=[]:=by unfold AO;rw[lE h1,lE (λq=>h2 q.1)];rfl
theorem Pu{q:Prop}(h:q:=by
 obtain⟨x0,x1,x2,x3⟩:=MI.jN (n:=0) HC.o HX.o HU1.o.gG;go_wp2_with fail;refine(CL x _).mono ?_;rintro e4 u4 ⟨rfl,b4⟩;have HU4:Aa (NP w u4 sN []):=HU1.o.bM b4;clear b4;clear x0 x1 x2 x3;cases hgo:AR x
 . go_wp2;go_ret;exact⟨_,rfl,by rw[QQ xs x e h1 (by rw[hgo];exact ms)];exact HU4.o.row,HU4.o.gG⟩
 obtain⟨hc0,hc1⟩:=HG.o e x HX.o hgo;go_wp2_with fail;refine(LM M 0 x.c _).mono ?_;rintro e5 u5 ⟨rfl,hu⟩;have hu2:=hu.symm;clear hu;subst hu2;go_wp2_with (at_builtin;refine wpList_append_lies _ rfl _ _ 36 rfl w 2 k0 (iZ 0) 1 8 Tryz.underlying36 hk hx0 hx1 hx2 rfl (by decide) _ ([]:List Int).length (([]:List Int).flatMap Ah) rfl (HU4.o.bM (Ag _ (.cells #[iZ (x.c)] 2))).row u4 1 1 [iZ (x.c)] rfl rfl (BP u4 (x.c)) (λu hu=>by simp at hu;subst hu;rfl) (by omega) (by simp[maxLen]) (by simp) (HU4.o.bM (Ag _ (.cells #[iZ (x.c)] 2))).gG.size _ rfl ?_;intro g3 cap3 w3 hown hgrow hat hlt3;have HU5:Aa (NP w w3 (sG g3 (0+1) cap3) ([]++[x.c])):=HU4.o.gX hown rfl hgrow;clear hown hgrow hat hlt3);go_wp2;go_ret;exact⟨_,rfl,by rw[QN xs x e h1 hgo];exact HU5.o.row,HU5.o.gG⟩):q:=h
theorem Hj(s:J)(xs:List MI)(x:MI)(e:Nat)(w:Y)(G:xs.length<=1024)(A:Ei xs)(b:xs[e]?=K x)(h:Rd w 4 s xs (xs.flatMap MI.cells)):
 Ae Tryz.prog 78 #[s,iZ (e:Int)] w λt B=>∃r,t=.returned r/\B.ownsRow w 2 1 r (AO xs x e).length ((AO xs x e).flatMap Ah)/\Ad w w B:=by
 obtain⟨k0,hk,hx0,hx1,hx2⟩:=lU Bt;have F:e<xs.length:=(iV.1 b).1;have HX:Aa (xs[e]?=K x):=b;have HG:Aa (Ei xs):=A;rcases h.2 with⟨e0,_⟩|⟨g,o,c,rfl,hc1⟩
 . omega
 have HC:Aa (∀j v,(xs.flatMap MI.cells)[j]?=K v->w.cell? ⟨g,o+j,M⟩=K v):=hc1;clear h hc1 A b;generalize y:xs.length=n at G F;have i:Aa (↑xs=n):=y
 clear y;have L:(e:Int)<(n:Int):=oM;have k:Aa (NP w w sN []):=⟨lQ _ _,lq _ _ _ _⟩;obtain⟨x0,x1,x2,x3⟩:=MI.jN (n:=0) HC.o HX.o (lQ w w);go_enter Tryz.func78,Tryz.ntmps78;go_wp2_with fail;refine(KG x _).mono ?_;rintro t f ⟨rfl,p⟩;have HU1:Aa (NP w f sN []):=k.o.bM p;clear p x0 x1 x2 x3 k;cases hon:DQ x
 . have h1:¬(DQ x=true/\e+1< ↑xs):= λq=>by rw[hon]at q;exact absurd q.1 ms
   exact Pu
 go_wp2_with fail;refine(Mr ((e:Int)+1) n _ oM).mono ?_;rintro I N ⟨rfl,hu⟩;have hu2:=hu.symm;clear hu;subst hu2;by_cases z:e+1<n
 . have h1:DQ x=true/\e+1<xs.length:=⟨hon,by rw[i.o];exact z⟩
   rw[show decide (0<=(e:Int)+1/\(e:Int)+1<(n:Int))=true from oT]
   obtain⟨x0,x1,x2,x3⟩:=MI.jN (n:=0) HC.o HX.o HU1.o.gG;go_wp2_with (at_builtin;refine wpList_append_lies _ rfl _ _ 36 rfl w 2 k0 (iZ 0) 1 8 Tryz.underlying36 hk hx0 hx1 hx2 rfl dC _ ([]:List Int).length (([]:List Int).flatMap Ah) rfl (HU1.o.bM (Ag _ (.cells #[iZ ((e:Int)+1)] 2))).row f 1 1 [iZ ((e:Int)+1)] rfl rfl (BP f ((e:Int)+1)) (λu hu=>by simp at hu;subst hu;rfl) oM (by simp[maxLen]) sP (HU1.o.bM (Ag _ (.cells #[iZ ((e:Int)+1)] 2))).gG.size _ rfl ?_;intro g3 cap3 w3 hown hgrow hat hlt3;have l:Aa (NP w w3 (sG g3 (0+1) cap3) ([]++[(e:Int)+1])):=HU1.o.gX hown rfl hgrow;clear hown hgrow hat hlt3;obtain⟨x0,x1,x2,x3⟩:=MI.jN (n:=0) HC.o HX.o l.o.gG);go_wp2_with fail;refine(CL x _).mono ?_;rintro e4 u4 ⟨rfl,b4⟩;have HU4:Aa (NP w u4 (sG g3 (0+1) cap3) ([]++[((e:Int)+1)])):=l.o.bM b4;clear b4;clear x0 x1 x2 x3;cases hgo:AR x
   . go_wp2;go_ret;exact⟨_,rfl,by rw[QR xs x e h1 (by rw[hgo];exact ms)];exact HU4.o.row,HU4.o.gG⟩
   obtain⟨hc0,hc1⟩:=HG.o e x HX.o hgo;have f5:=HU4.o.row.cellAt 0 sP;simp only[lg,kX,Ah,lF,jt]at f5;go_wp2_with fail;refine(Nk g3 cap3 ((e:Int)+1) x.c _ f5).mono ?_;rintro e5 u5 ⟨rfl,hu⟩;have hu2:=hu.symm;clear hu;subst hu2;by_cases a:x.c=(e:Int)+1
   . rw[show decide (x.c=(e:Int)+1)=true from by simpa using a];go_wp2;go_ret;exact⟨_,rfl,by rw[QM xs x e h1 hgo (by rw[a];push_cast;rfl)];exact HU4.o.row,HU4.o.gG⟩
   rw[show decide (x.c=(e:Int)+1)=false from by simpa using a];go_wp2_with (at_builtin;refine wpList_append_lies _ rfl _ _ 36 rfl w 2 k0 (iZ 0) 1 8 Tryz.underlying36 hk hx0 hx1 hx2 rfl dC _ (([]++[((e:Int)+1)]):List Int).length ((([]++[((e:Int)+1)]):List Int).flatMap Ah) rfl (HU4.o.bM (Ag _ (.cells #[iZ (x.c)] 2))).row u4 1 1 [iZ (x.c)] rfl rfl (BP u4 (x.c)) (λu hu=>by simp at hu;subst hu;rfl) oM (by simp[maxLen]) sP (HU4.o.bM (Ag _ (.cells #[iZ (x.c)] 2))).gG.size _ rfl ?_;intro D C H hown hgrow hat hlt3;have HU5:Aa (NP w H (sG D ((([]++[((e:Int)+1)]):List Int).length+1) C) (([]++[((e:Int)+1)])++[x.c])):=HU4.o.gX hown rfl hgrow;clear hown hgrow hat hlt3);go_wp2;go_ret;exact⟨_,rfl,by rw[QP xs x e h1 hgo (λq=>a (by rw[q];push_cast;rfl))];exact HU5.o.row,HU5.o.gG⟩
 have h1:¬(DQ x=true/\e+1< ↑xs):= λq=>z (by rw[<-i.o];exact q.2)
 rw[show decide (0<=(e:Int)+1/\(e:Int)+1<(n:Int))=false from oT]
 exact Pu
end Go.Proofs.YtjnglocdoljgkaaGreat
