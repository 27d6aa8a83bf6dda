import Derived.Test.YtmalfecapdmdbaaGreatHo41
import Derived.Test.YtmalfecapdmdbaaGreatHo44
namespace Go.Proofs.YtmalfecapdmdbaaGreat
open Go.ChangeShapes Go.WideShapes Go.ChangeAt Go.RowKit Go.Proofs.Tryz
set_option linter.unusedVariables false
open Go.Value renaming slice → Z,agg → Am,bool → An,tuple → Ao
open Option renaming some → K,none → M
open Go renaming Value → J,World → Y,Calls → Ai
open Go.RowKit renaming Hid → Ae,Below → Ah
open Go.Obj renaming cells → Ak
open Go.Ending renaming returned → Al
open Go.Proofs.Tryz renaming prog → Ap
open Go.World renaming alloc → Ac
open List renaming flatMap → Ad
set_option maxHeartbeats 8000000
set_option maxRecDepth 100000
structure Wh(w u:Y)(v:BI)(a e:Nat)(nx:J):Prop where
 body:AC u w v.cells 160
 gK:AC u ((w:Nat)+1) #[a,e,nx] 126
 e8:Ah w w u
theorem Wh.a7{w u c:Y}{v:BI}{a e:Nat}{nx:J}(h:Wh w u v a e nx)(b:Ah u u c):Wh w c v a e nx:=⟨h.body.a7 b,h.gK.a7 b,Ar h.e8 lR b⟩
def BcR(w:Y)(xs:List MI)(costs:List Int)(m:MB)(e:Ending)(a:Y):Prop:=(∃s b,e=Al (Ao #[iZ s,An b])/\(b=true->¬CT xs costs m/\s=Cz xs costs m)/\(b=false->CT xs costs m))/\Ah w w a
theorem Mn(v:BI)(nx:J)(xs:List MI)(costs:List Int)(m:MB)(ca:Option Addr)(cc:Nat)(w:Y)(hn:xs.length<=1024)(hc:Rd w 4 (Z v.c.a v.c.n v.c.c) xs (Ad MI.cells xs))(aE: ↑xs<=v.c.c)(br:costs.length<=1048576)(hk:Rd w 1 (Z ca costs cc) costs (Ad As costs))(aM:∀x∈xs,x.op=28->0<=x.a)(hm:∃a e:Nat,m.gH=(a:Int)/\m.last=(e:Int)/\a<=e/\e< ↑xs):
 Ai Ap 112 #[Am v.cells,Am #[m.gH,m.last,nx],Z ca costs cc] w (BcR w xs costs m):=by
 obtain⟨a,e,m1,m2,aA,aY⟩:=hm;obtain⟨d,aH⟩:∃d,e=a+d:=⟨e-a,oM⟩;have l:=Av aH;clear aH;have p:=Av (d5 m1 m2);rw[m1,m2];clear m1 m2 aA;have aq:Ae (∀op,0<=OJ op):= λop=>Rz op (En op)
 have HK:=Av (d5 hk aM);clear hk aM;rcases hc.2 with⟨q0,_⟩|⟨C,R,aW,q1,W⟩
 . omega
 simp only[i8]at q1;have HC:Ae (∀(u:Y),Ah w w u->∀(k:Nat) (x:MI),xs[k]?=K x->u ⟨C,R+k*4,M⟩=K (iZ x.op)/\u ⟨C,R+k*4+1,M⟩=K (iZ x.a)/\u ⟨C,R+k*4+2,M⟩=K (iZ x.b)/\u ⟨C,R+k*4+3,M⟩=K (iZ x.c)):= λu Q k x A=>by have i0:=Rd.elem MI.dr W k x A 0 _ rfl;have L:=Rd.elem MI.dr W k x A 1 _ rfl;have N:=Rd.elem MI.dr W k x A 2 _ rfl;have O:=Rd.elem MI.dr W k x A 3 _ rfl;rw[<-Q.cell (hC i0),kJ]at i0;rw[<-Q.cell (hC L)]at L;rw[<-Q.cell (hC N)]at N;rw[<-Q.cell (hC O)]at O;exact⟨i0,L,N,O⟩
 have HQ:=Av (d5 q1.1 q1.2.1);clear W hc q1 aW;generalize aF:v.c.c=cap at aE;have aS:=Av aF;clear aF;have E0:Ae (Wh w (Ac (Ac w (Ak v.cells 160)) (Ak #[a,e,nx] 126)) v a e nx):=⟨(AC.new _ _ _).a7 (Aq _ _),by have:=AC.new (Ac w (Ak v.cells 160)) #[a,e,nx] 126;rw[nZ]at this;exact this,Ar (Aq _ _) lR (Aq _ _)⟩;generalize aQ:xs.length=n at hn aY aE HQ;have aU:=Av aQ;clear aQ;go_enter func112,ntmps112;go_upto_region 1 with fail
 refine Ax (λu=>Ae (Wh w u v a e nx)) E0 ?_;rintro U g;clear E0;have p7:=g.body.cell 7;simp only[BI.cells]at p7;simp only[HQ.1,HQ.2,aS.o]at p7;obtain⟨b0,b1,b2⟩:=Cl g.gK;have aA:a<=e:=by have:=l.o;omega
 have bf:IntKind.i64.wrap ((e:Int)+1)=((e+1:Nat):Int):=by rw[nA _ ⟨oM,oM⟩];omega
 go_upto_region 3 with fail
 have aJ:e+1-a=d+1:=by have:=l.o;omega
 rw[aJ];generalize aI:R+a*4=o2;have aG:d+1<=cap-a:=by have:=l.o;omega
 generalize cap-a=cp at aG⊢;have HO:=Av aI;have aR:Ae (∀(u:Y),Ah w w u->∀(j:Nat) (x:MI),xs[a+j]?=K x->u ⟨C,o2+j*4,M⟩=K (iZ x.op)/\u ⟨C,o2+j*4+1,M⟩=K (iZ x.a)/\u ⟨C,o2+j*4+2,M⟩=K (iZ x.b)/\u ⟨C,o2+j*4+3,M⟩=K (iZ x.c)):= λu Q j x A=>by
  have e:o2+j*4=R+(a+j)*4:=by rw[<-HO];omega
  rw[e];exact HC.o u Q (a+j) x A
 clear aI HO HC aJ p7 b0 b1 b2 bf;generalize aw:d+1=V at aG⊢;have E:=Av aw;clear aw;have bi:V<=1048576:=by have:=E.o;have:=l.o;omega
 go_loopw [6,7,8,10,22] (λ_ _ s _ i wr=>∃(j:Nat) (c0:Int),j<=V/\s=iZ c0/\i=iZ j/\Ae (Wh w wr v a e nx/\Ew c0/\(∀t x,t<j->xs[a+t]?=K x->Kl costs x)/\c0=D6 xs costs a j)) (λ_ _ _ _ i _=>V-(intOf i).toNat)
 case atStart=>exact⟨0,0,oM,rfl,rfl,g,⟨oM,oM⟩, λt x ht=>absurd ht (Nat.not_lt_zero _),rfl⟩
 case round=>
 clear g;obtain⟨j,c0,hj,rfl,rfl,g⟩:=hrel;by_cases bx:j<V;case neg=>
  obtain rfl:j=d+1:=by have:=E.o;omega
  have S:Ae (Cz xs costs m=c0):=by show Cz xs costs m=c0;unfold Cz;rw[p.1,p.2,kA,kA,g.2.2.2,show e+1-a=d+1 by have:=l.o;omega]
  have aT:Ae (¬CT xs costs m):= λhB=>by
   rcases hB with⟨t,x,L,N,O,i4⟩|hB
   . rw[p.1]at L;rw[p.2]at N;exact i4 (g.2.2.1 (t-a) x (by have:=l.o;omega) (by rw[show a+(t-a)=t from oM];exact O))
   rw[S]at hB;have:=g.2.1.2;omega
  go_wp2_with fail;exact kQ (v:=Ao #[c0,true]) (by simp[results,results112,go_sem]) rfl ⟨⟨c0,true,rfl, λ_=>⟨aT,S.symm⟩, λh=>by cases h⟩,g.1.e8⟩
 have bB:(j:Int)<(V:Int):=oM;obtain⟨x,A⟩:∃x,xs[a+j]?=K x:=⟨_,an (by rw[aU];have:=E.o;have:=l.o;omega)⟩;obtain⟨i0,L,N,O⟩:=aR.o wr g.1.e8 j x A;have F:=Av A;clear A;go_upto_region 5 with fail
 have E5:Ae (Wh w (Ac wr (Ak #[iZ x.op,iZ x.a,iZ x.b,iZ x.c] 72)) v a e nx/\AC (Ac wr (Ak #[iZ x.op,iZ x.a,iZ x.b,iZ x.c] 72)) wr #[iZ x.op,iZ x.a,iZ x.b,iZ x.c] 72):=⟨g.1.a7 (Aq _ _),AC.new _ _ _⟩
 generalize wr.heap.size=X at E5⊢;refine Ax (λu=>Ae (Wh w u v a e nx/\AC u X #[iZ x.op,iZ x.a,iZ x.b,iZ x.c] 72)) E5 ?_
 rintro U5 E6;clear E5 i0 L N O;obtain⟨d0,d1,d2,d3⟩:=BP E6.2;go_wp2_with fail;refine(OQ x.op U5).mono ?_;rintro e u3 ⟨rfl,bb⟩;obtain⟨si,f,fo,am,aX⟩:=En x.op;rw[am];have bu:=Ka si f fo;have aj:=Av (RA am);have B:=Av (d5 (E6.1.a7 bb) (E6.2.a7 bb));clear bb E6 d0 d1 d2 d3 am;obtain⟨d0,d1,d2,d3⟩:=BP B.2;obtain⟨bp,bq⟩:=aX;have bj:=g.2.1.1;have bo:=g.2.1.2;by_cases H:x.op=28;case neg=>
  have bC:(x.op==28)=false:=by simpa using H
  go_wp2_with fail;refine(GA (c0+f) u3).mono ?_;rintro e u4 ⟨rfl,rfl⟩;by_cases G:c0+f<=4294967295
  . rw [decide_eq_true (show 0<=c0+f/\c0+f<=4294967295 from⟨oM,G⟩)]
    go_wp2_with fail;go_roundw;case rel=>
     refine⟨j+1,c0+f,oM,rfl,by go_num,B.1,⟨oM,G⟩, λt y ht I=> ?_,?_⟩
     . by_cases e:t=j
       . subst e;rw[F]at I;(cases I);exact λq=>absurd q H
       exact g.2.2.1 t y oM I
     (have h9:D6 xs costs a (j+1)=D6 xs costs a j+EJ costs x:=by simp only[D6,F.o]);rw[h9,<-g.2.2.2];unfold EJ;rw[kP H,aj];omega
    case measure=>exact oI
  rw[lZ (show¬(0<=c0+f/\c0+f<=4294967295)from λh=>G h.2)]
  have D:=Av (CT.iI aq p.1 p.2 (k:=j) (by have:=E.o;have:=l.o;omega) (d:=c0+f) (.inr ⟨x,F,by have:=E.o;have:=l.o;omega,by rw[<-g.2.2.2,aj];exact Int.le_refl _⟩) oM oM);go_wp2_with fail;exact kQ (v:=Ao #[iZ 0,false]) (by simp[results,results112,go_sem]) rfl ⟨⟨0,false,rfl,(λh=>by cases h), λ_=>D.o⟩,B.1.e8⟩
 have aP:=HK.2 x (i7 F) H;obtain⟨r,ao⟩:=kX aP;clear aP;have P:=Av (d5 H ao);have S:Ae (¬Kl costs x->CT xs costs m):= λhq=>.inl ⟨a+j,x,by rw[p.1];omega,by rw[p.2];have:=E.o;have:=l.o;omega,F,hq⟩
 rw[ao]at d1;rw[H]at d0;clear H ao;go_wp2_with fail;refine(Bc (r:Int) (costs:Int) u3).mono ?_;rintro e u4 ⟨rfl,rfl⟩;by_cases ae:r< ↑costs
 case neg=>
  rw[lZ (show¬(0<=(r:Int)/\(r:Int)<(costs:Int))from λh=>ae oM)]
  have D:=Av (S.o λh=>by have:=(h P.1).1;rw[P.2,kA]at this;exact ae this);go_wp2_with fail;exact kQ (v:=Ao #[iZ 0,false]) (by simp[results,results112,go_sem]) rfl ⟨⟨0,false,rfl,(λh=>by cases h), λ_=>D.o⟩,B.1.e8⟩
 rw[decide_eq_true (show 0<=(r:Int)/\(r:Int)<(costs:Int)from⟨oM,oM⟩)]
 obtain⟨z,hz⟩:∃z,costs[r]?=K z:=⟨_,an ae⟩;obtain⟨ga,oa,ea,kz⟩:∃ga oa,ca=K ⟨ga,oa,M⟩/\u4 ⟨ga,oa+r,M⟩=K ↑z:=by
  have:=Rd.a7 HK.1 B.1.e8 lR;rcases this.2 with⟨e0,_⟩|⟨g1,o1,bg,e1,hc⟩
  . omega
  simp only[i8,lB]at e1;exact⟨g1,o1,e1.1,hc r _ (Db hz)⟩
 subst ea;have T:Ae (cf costs x.a.toNat=z/\x.a.toNat< ↑costs):=⟨by rw[P.2,kA];exact DL hz,by rw[P.2,kA];exact ae⟩
 have bt:(r:Int)<(costs:Int):=oM;clear hz;go_wp2_with fail;refine(GA z u4).mono ?_;rintro e u5 ⟨rfl,rfl⟩;by_cases ah:0<=z/\z<=4294967295
 case neg=>rw[lZ ah];have D:=Av (S.o λh=>ah (by have:=(h P.1).2;rw[T.1]at this;exact this));go_wp2_with fail;exact kQ (v:=Ao #[iZ 0,false]) (by simp[results,results112,go_sem]) rfl ⟨⟨0,false,rfl,(λh=>by cases h), λ_=>D.o⟩,B.1.e8⟩
 rw[decide_eq_true ah];obtain⟨aZ,b7⟩:=ah;have au:Ae (D6 xs costs a (j+1)=c0+f+z):=by
  have h9:D6 xs costs a (j+1)=D6 xs costs a j+EJ costs x:=by simp only[D6,F.o]
  show D6 xs costs a (j+1)=c0+f+z;rw[h9,<-g.2.2.2];unfold EJ;rw[kZ P.1,aj.o,T.1];omega
 go_wp2_with fail;refine(GA (c0+f+z) u5).mono ?_;rintro e u6 ⟨rfl,rfl⟩;by_cases G:c0+f+z<=4294967295
 . rw [decide_eq_true (show 0<=c0+f+z/\c0+f+z<=4294967295 from⟨oM,G⟩)]
   go_wp2_with fail;go_roundw;case rel=>
    refine⟨j+1,c0+f+z,oM,rfl,by go_num,B.1,⟨oM,G⟩, λt y ht I=> ?_,au.symm⟩;by_cases e:t=j
    . subst e;rw[F]at I;(cases I);exact λ_=>⟨T.2,by rw[T.1];exact aZ,by rw[T.1];exact b7⟩
    exact g.2.2.1 t y oM I
   case measure=>exact oI
 rw[lZ (show¬(0<=c0+f+z/\c0+f+z<=4294967295)from λh=>G h.2)]
 have D:=Av (CT.iI aq p.1 p.2 (k:=j+1) (by have:=E.o;have:=l.o;omega) (d:=c0+f+z) (.inl (by rw[au];exact Int.le_refl _)) oM oM);go_wp2_with fail;exact kQ (v:=Ao #[iZ 0,false]) (by simp[results,results112,go_sem]) rfl ⟨⟨0,false,rfl,(λh=>by cases h), λ_=>D.o⟩,B.1.e8⟩
end Go.Proofs.YtmalfecapdmdbaaGreat
