import Derived.Test.YtkgohaigebcgoaaGreatDoorCh12
namespace Go.Proofs.YtkgohaigebcgoaaGreatDoor
open Go.ChangeShapes Go.WideShapes Go.ChangeAt Go.RowKit Go.Proofs.Tryz
set_option linter.unusedVariables false
open Go.Value renaming slice → Z,agg → An
open Option renaming some → K,none → M
open Go renaming Value → J,World → Y,Calls → Ai,TypeId → Aj
open Go.RowKit renaming Hid → Ae,Below → Ah
open Go.IntKind renaming i64 → Af
open Go.Ending renaming returned → Am
open Go.Proofs.Tryz renaming prog → Aq
open Go.World renaming setCell → Aa,ownsRow → Ab
open List renaming flatMap → Ad
set_option maxHeartbeats 8000000
set_option maxRecDepth 100000
structure Kl(w:Y)(base:Nat)(V:J)(F:List (MB×J)):Prop where
 row:Ab w base 97 3 V F (Ad Dj F)
 fg:CO w base (Dt F)
theorem Tn{e:Nat}(h:e<=1048576):IntKind.i64.wrap (e:Int)=(e:Int):=by simp[IntKind.wrap,IntKind.bits,IntKind.signed];omega
theorem Sf{u:Y}{X B k g n c:Nat}{e t:Aj}{b:Array J}{xs:List J}(h:Ay u X b t)(j:Ab u B e k (sG g n c) n xs)(f:t≠e):¬X=g:= λd=>by subst d;obtain⟨_,l,a⟩:=AZ j;unfold Ay at h;rw[h]at a;simp only[lX,nz]at a;exact f a.2.1
theorem Q2(n:Nat):(madeCells (Value.agg #[iZ 0,iZ 0,sN]).cells (n*3)).toList=(List.replicate n z3).flatten:=by rw[DM bc0 z3 [] n (An #[iZ 0,iZ 0,sN]) 3 rfl rfl oM];simp[CK]
theorem L6(s:J)(xs:List MI)(w:Y)(hn:xs.length<=1048576)(h:Rd w 4 s xs (Ad MI.cells xs)):
 Ai Aq 21 #[s] w λe w'=>∃V F,e=Am V/\Kl w' w V F/\((¬Bd xs/\F=[])\/Bd xs/\F.map Prod.fst=AR xs)/\Ah w w w':=by
 obtain⟨i0,hi,bu,bx,bB⟩:=nE tl;have H:=Aw h;obtain⟨a1,c1,rfl⟩:=h.aD;clear h;have aE:Ae (∀u:Y,Kl u w sN []):= λu=>⟨mX _ _ _ _,⟨λr T=>(by cases T),List.Pairwise.nil⟩⟩
 by_cases q0:xs.length=0
 . (have z:Ae (¬Bd xs):= λe=>by have:=e.1;omega);rw[q0];go_enter func21,ntmps21;go_wp2;go_ret;exact⟨_,[],rfl,aE.o _,.inl ⟨z,rfl⟩,mP _ _⟩
 by_cases q1:1024<xs.length
 . (have z:Ae (¬Bd xs):= λe=>by have:=e.2.1;omega);have bC:((xs:Int)==0)=false:=o3.2 oM;have bG:(1024:Int)<(xs:Int):=oM;go_enter func21,ntmps21;go_wp2;go_ret;exact⟨_,[],rfl,aE.o _,.inl ⟨z,rfl⟩,mP _ _⟩
 have bC:((xs:Int)==0)=false:=o3.2 oM;have bY:¬(xs:Int)=0:=oM;have bG:¬(1024:Int)<(xs:Int):=oM;go_enter func21,ntmps21;go_wp2_with fail;refine(Mw (Z a1 xs c1) xs _ hn H).mono ?_;rintro e u1 ⟨⟨b1,rfl,au⟩,aq⟩;cases b1
 . (have z:Ae (¬Bd xs):= λe=>absurd (au.2 e.2.2) nU);have HB:=Aw aq;clear au aq;go_wp2;go_ret;exact⟨_,[],rfl,aE.o _,.inl ⟨z,rfl⟩,HB⟩
 have HG:Ae (Bd xs):=⟨oM,oM,au.1 rfl⟩;have HB:=Aw aq;clear au aq;go_wp2_with fail;refine(Nw (Z a1 xs c1) xs _ HG (H.av HB lR)).mono ?_;rintro e u2 ⟨B,cl,rfl,aT,S⟩;have aS:(CY xs xs).length<=1024:=mC (o5 _ _) oT;have bj:0<(CY xs xs).length:=pU.2 (Pl xs _ oM);have aa:=Aw (lN (BG aT HB.size) (Ar HB lR S));clear aT S;generalize hM:(CY xs xs).length=m at aS bj aa⊢;have HM:=Aw hM;clear hM;go_wp2_with (at_make;refine pK _ rfl _ _ 58 rfl w 97 i0 (An #[iZ 0,iZ 0,sN]) 3 underlying58 hi bu bx Af Af _ _ m rfl rfl rfl rfl (by rw[bB];omega) oX aa.2.size ?_;intro w3 aI aQ;rw[Q2]at aI);have ax:Ae (IW w w3 xs B cl u2 m []):=by
  have aM:Ah u2 u2 w3:=(mP _ _).grown aQ lR (λk hk=>by cases hk);refine⟨?_,⟨?_,?_⟩,?_,Ar aa.2 lR aM⟩
  . rw[HM];simpa using aI
  . intro r T;simp only[Dt,List.map_nil,lW,lZ,mS]at T;subst T;rw[HM];simp only[mQ,HM.o];exact AD aa.1 aM lR
  . simp[Dt]
  rw[pL (by rw[Hu,HM];exact Nat.le_refl _)];rfl
 clear aI aQ aa;generalize u2.heap.size=I at ax⊢;go_wp2;go_loopw [5,6] (λv i wr=>∃(j q:Nat) (D:List (MB×J)),j<=m/\v=iZ q/\i=iZ ((j:Int)-1)/\Ae ((CY xs xs++[xs.length])[j]?=K q/\IW w wr xs B cl I j D)) (λ_ i _=>(intOf i+1).toNat)
 case atStart=>exact⟨m,xs,[],Nat.le_refl _,rfl,rfl,⟨by rw[mg (by rw[HM];exact Nat.le_refl _),HM.o];simp,ax⟩⟩
 clear ax;obtain⟨j,q,D,hj,rfl,rfl,t⟩:=hrel;cases j with
 | succ b=>
   rw[show(((b+1:Nat):Int)-1)=(b:Int)from oM];obtain⟨a,ha⟩:∃a,(CY xs xs)[b]?=K a:=⟨_,an (by rw[HM];omega)⟩;have aO:=Qh _ _ _ _ _ ha t.1;obtain⟨e,he,bg⟩:=Ma xs xs oM _ (by rw[Cu];exact lP aO);simp only[]at he;obtain⟨x,hx⟩:∃x,xs[e]?=K x:=⟨_,an bg⟩;have HX:=Aw (lN ha (lN he hx));have bq:(q:Int)=(e:Int)+1:=oM;have bP:(e:Int)+1-1=(e:Int):=oM;have aG:=t.2.lead;rw[HM]at aG;have l0:=aG.cellAt b oM;rw[De,mN,mN,ha]at l0;simp only[oO]at l0;have aJ:wr ⟨B,b,M⟩=K ↑a:=l0
   have l1:=Az (As wr) aJ;have P:=t.2.row;rw[HM,RK]at P;have HR:=Aw P;have R1:=Aw (H.av t.2.cq lR);have PF:Ae (∀u:Y,Rd u 4 (Z a1 xs c1) xs (Ad MI.cells xs)->Ai Aq 55 #[Z a1 xs c1,(e:Int)] u λe1 w'=>∃r,e1=Am r/\Ab w' u 2 1 r (Bc xs x e).length (Ad At (Bc xs x e))/\Ah u u w'):= λu hu=>Mv _ xs x e u HG.2.1 HG.2.2 HX.2.2 hu
   clear ha he hx aO aG P l0;have bJ:(b:Int)<(m:Int):=oM;have bT:IntKind.i64.wrap (e:Int)=(e:Int):=Tn oM;rw[bq];go_wp2_with fail;go_region_law (first
    |(go_simp;go_at_call 55;refine(PF.o _ (R1.av (As _) lR)).mono ?_;rintro e1 u5 ⟨r,rfl,aK,b5⟩;obtain⟨ar,cr,rfl⟩:=(Rd.eP aK).aD;have B5:Ae (Ah wr wr u5):=Br b5 lR;have O5:Ae (Ab u5 wr 2 1 (Z ar (Bc xs x e).length cr) (Bc xs x e).length (Ad At (Bc xs x e))):=aK;have l2:=Az B5 aJ;have U:=AD HR B5 lR;have L:=U.cellAt (b*3) oM;have N:=U.cellAt (b*3+1) oM;have O:=U.cellAt (b*3+2) oM;have f0:=U.frozenAt (b*3);have f1:=U.frozenAt (b*3+1);have f2:=U.frozenAt (b*3+2);rw[mg (by rw[Tp];omega),Tp]at L N O;rw[pG]at L;rw[oV]at N O;simp only[z3,nW,lO,lS]at L N O;clear aK b5 U))
   all_goals
    refine Cf (λu=>Ae (IW w u xs B cl I b ((⟨(a:Int),(e:Int),Bc xs x e⟩,Z ar (Bc xs x e).length cr)::D))) (t.2.next B5 O5 HX.1 t.1 HX.2.1 HX.2.2) ?_;intro U7 z;have l7:=z.lead.cellAt b (by rw[HM];omega);rw[De,mN,mN,HX.1]at l7;simp only[oO]at l7;have bV:U7 ⟨B,b,M⟩=K ↑a:=l7
    clear l7 aJ l1 l2 L N O f0 f1 f2;(have HQ:Ae ((CY xs xs++[xs.length])[b]?=K a):=by show _=_;rw[mq (by rw[HM];omega)];exact HX.1);go_wp2;go_roundw;(case rel=>exact⟨b,a,_,oM,rfl,by go_num,⟨HQ,z⟩⟩);simp[intOf]
 | zero =>
   rw[show(((0:Nat):Int)-1)=-1 from rfl];have aA:Ae (JW w wr xs B cl I D/\D.map Prod.fst=K4 xs/\ ↑D=m):=by refine⟨⟨by simpa using t.2.row,t.2.fg,t.2.cq⟩,by simpa using t.2.done,?_⟩;have:=congrArg List.length t.2.done;rw[mQ,List.drop_zero,Hu,HM]at this;exact this
   have HD:=Aw aA.2;have HP:Ae (∀x∈D,∀p∈x.1.next,0<=p/\p.toNat∈CY xs xs):= λx hx p hp=>Rf xs HG x.1 (by rw[<-HD.1];exact oF hx) p hp
   (have aX:Ae (∀x∈D,x.1.next.length<=2):=by intro x hx;have hm:=oF (f:=Prod.fst) hx;rw[HD.1]at hm;unfold K4 at hm;obtain⟨m0,_,e0⟩:=mV.1 hm;rw[<-e0];simp only[UY,Bc];split<;>split<;>simp);clear t hj;go_wp2;go_loopw [60] (λi wr=>∃E G:List (MB×J),Ae (D=E++G)/\ ↑E<=m/\i=iZ (E:Nat)/\Ae (JW w wr xs B cl I (E.map (KZ xs)++G))) (λi _=>m-(intOf i).toNat)
   (case atStart=>exact⟨[],D,rfl,sP,rfl,aA.1⟩);clear aA;obtain⟨E,G,ai,hE,rfl,HJ⟩:=hrel;have aR: ↑E+ ↑G=m:=by have:=HD.2;rw[ai,mB]at this;exact this
   cases G with
   | nil=>
     have bf: ↑E=m:=by simpa using aR
     have HF:Ae (Kl wr w (sG I m m) (E.map (KZ xs))/\(E.map (KZ xs)).map Prod.fst=AR xs):=by
      (have aZ:D=E:=by rw[ai];simp);refine⟨⟨?_,?_⟩,?_⟩
      . have:=HJ.row;rw[HM]at this;rw[mQ,bf];simpa using this
      . have:=HJ.fg;exact⟨λr T=>this.own r (by simp at T⊢;exact .inr T),(by have h2:=this.sep;simp only[nm]at h2;exact(my.1 h2).2)⟩
      exact WO xs HG E (by rw[<-aZ];exact HD.1)
     have aW:=Aw HJ.cq;go_wp2;go_ret;exact⟨_,_,rfl,HF.1,.inr ⟨HG,HF.2⟩,aW⟩
   | cons y X=>
     obtain⟨⟨f,l,d⟩,v⟩:=y;have bI: ↑E<m:=by simp only[nQ]at aR;omega
     have bH:(E:Int)<(m:Int):=oM;(have aH:((⟨f,l,d⟩,v):MB×J)∈D:=by rw[ai];simp);have aY:=Aw (HP.o _ aH);have bS:d.length<=2:=aX.o _ aH;have n:=HJ.fg.own (v,d) (by simp[Dt]);simp only[]at n;obtain⟨Q,A,rfl⟩:∃a c,v=Z a d c:=(Rd.eP n).aD;have P:=HJ.row;rw[HM,mW,mv]at P;have hA:(Ad Dj (E.map (KZ xs))).length= ↑E*3:=by rw[AX Dj 3 Bj,mQ]
     have L:=P.cellAt (E.length*3) oM;have N:=P.cellAt (E.length*3+1) oM;have O:=P.cellAt (E.length*3+2) oM;rw[mg oM,hA]at L N O;rw[pG]at L;rw[oV]at N O;simp only[Dj,nW,lO,lS]at L N O;clear P hA aH;obtain⟨wo,br⟩:∃W,W=wr:=⟨_,rfl⟩;subst br;(go_upto_region 14 with fail);refine Av (λu=>Ae (JW w u xs B cl I (E.map (KZ xs)++(⟨f,l,d⟩,Z Q d A)::X)/\Ay u wo #[f,l,Z Q d A] 97)) ⟨HJ.av (Al _ _),Ay.new _ _ _⟩ ?_
     intro U1 aj;clear L N O;have S:=aj.2.cell 2;simp only[lQ,lO,lS]at S;go_wp2;go_loopw [67] (λi wr=>∃k:Nat,k<= ↑d/\i=iZ k/\Ae (JW w wr xs B cl I (E.map (KZ xs)++(⟨f,l,(d.map (Hb xs)).take k++d.drop k⟩,Z Q d A)::X)/\Ay wr wo #[f,l,Z Q d A] 97)) (λi _=> ↑d-(intOf i).toNat)
     (case atStart=>exact⟨0,oM,rfl,⟨by have R:=aj.1;simpa using R,aj.2⟩⟩);clear aj S;obtain⟨k,hk,rfl,HK⟩:=hrel;by_cases bi:k< ↑d
     . obtain⟨p,hp⟩:∃p,d[k]?=K p:=⟨_,an bi⟩;have aF:((d.map (Hb xs)).take k++d.drop k).length=d.length:=oT;have n:=HK.1.fg.own (Z Q d A,(d.map (Hb xs)).take k++d.drop k) (by simp[Dt]);simp only[aF]at n;obtain⟨C,rfl⟩:∃C,Q=K ⟨C,0,M⟩:=by
        rcases Bf n with⟨_,R⟩|⟨g,c,R⟩
        . omega
        simp only[lU]at R;exact⟨g,R.1⟩
       have HC:Ae (d[k]?=K p/\((d.map (Hb xs)).take k++d.drop k).length=d.length/\0<=p/\p.toNat∈CY xs xs.length):=⟨hp,aF,aY.o p (lP hp)⟩
       have c0:=n.cellAt k oM;rw[De,mN,mg oT]at c0;rw[show k-(List.take k (d.map (Hb xs))).length=0 from oT,pM,mL,hp]at c0;simp only[oO]at c0;clear hp aF n;have bQ:(k:Int)<(d:Int):=oM;go_wp2_with fail;refine(HK.1.search HM aS p HC.2.2.1 HC.2.2.2).mono ?_;rintro e1 u3 ⟨⟨bb,rfl⟩,qq,hq⟩;have ae:Ae (JW w u3 xs B cl I (E.map (KZ xs)++(⟨f,l,(d.map (Hb xs)).take k++d.drop k⟩,sG C d A)::X)/\Ay u3 wo #[f,l,sG C d A] 97):=by rw[hq];exact⟨HK.1.drew qq,HK.2⟩
       clear hq c0 HK;have n:=ae.1.fg.own (sG C d A,(d.map (Hb xs)).take k++d.drop k) (by simp[Dt]);simp only[HC.2.1]at n;have S:=ae.2.cell 2;simp only[lQ,lO,lS]at S;have c1:=n.cellAt k oM;rw[De,mN,mg oT]at c1;rw[show k-(List.take k (d.map (Hb xs))).length=0 from oT,pM,mL,HC.1]at c1;simp only[oO]at c1;have c2:=n.frozenAt k;have bt:¬ ↑wo=C:=Sf ae.2 n dC
       have z:Ae (JW w (Aa u3 ⟨C,k,M⟩ (Hb xs p)) xs B cl I (E.map (KZ xs)++(⟨f,l,(d.map (Hb xs)).take (k+1)++d.drop (k+1)⟩,sG C d A)::X)/\Ay (Aa u3 ⟨C,k,M⟩ (Hb xs p)) wo #[f,l,sG C d A] 97):=⟨ae.1.set HC.2.1 (VO xs d k p HC.1) oT,ae.2.other (a:=⟨C,k,M⟩) bt _⟩
       clear n;go_wp2;go_roundw;(case rel=>exact⟨k+1,oM,by go_num,z⟩);exact oI
     obtain rfl:k=d.length:=oM;(have z:Ae (JW w wr xs B cl I ((E++[((⟨f,l,d⟩:MB),(Z Q d A:J))]).map (KZ xs)++X)):=by have R:=HK.1;rw[mm sP,pL lR,nm]at R;show JW _ _ _ _ _ _ _;simpa[KZ]using R);go_wp2;go_roundw;(case rel=>exact⟨E++[(⟨f,l,d⟩,Z Q d A)],X,by show _=_;rw[ai];simp,by simp only[mB,mT];omega,by simp only[mB,mT];go_num,z⟩);exact oI
end Go.Proofs.YtkgohaigebcgoaaGreatDoor
