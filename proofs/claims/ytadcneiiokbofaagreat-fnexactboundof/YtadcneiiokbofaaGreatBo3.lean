import Derived.Test.YtadcneiiokbofaaGreatBo2
namespace Go.Proofs.YtadcneiiokbofaaGreat
open Go.ChangeShapes Go.WideShapes Go.ChangeAt Go.RowKit Go.Proofs.Tryz
set_option linter.unusedVariables false
open Go.Value renaming slice → Z,agg → Am
open Option renaming some → K,none → M
open Go renaming Value → J,World → Y,Calls → Ai
open Go.RowKit renaming Hid → Ae,Below → Ah
open Go.IntKind renaming i64 → Af
open Go.Obj renaming cells → Ak
open Go.Ending renaming returned → Al
open Go.Proofs.Tryz renaming prog → Ap
open Go.World renaming setCell → Aa,ownsRow → Ab,alloc → Ac
open List renaming flatMap → Ad
set_option maxHeartbeats 4000000
set_option maxRecDepth 100000
theorem VE(xs:List MI)(x:MI)(e:Nat)(a:FW x=true/\e+1< ↑xs)(b:¬A3 x=true):Ea xs x e=[Bc xs (e+1)]:=by unfold Ea;simp only[lZ a,b,false_and,if_false,o5];rfl
theorem Vz(xs:List MI)(x:MI)(e:Nat)(a:FW x=true/\e+1< ↑xs)(b:A3 x=true)(h:Bc xs (e+1)=Bc xs x.c.toNat):Ea xs x e=[Bc xs (e+1)]:=by unfold Ea;simp only[lZ a];rw[lS (λq=>q.2.elim (λq=>by cases q) (λq=>q (by rw[h])))];rfl
theorem VC(xs:List MI)(x:MI)(e:Nat)(a:FW x=true/\e+1< ↑xs)(b:A3 x=true)(h:¬Bc xs (e+1)=Bc xs x.c.toNat):Ea xs x e=[Bc xs (e+1),Bc xs x.c.toNat]:=by unfold Ea;simp only[lZ a];rw[lZ ⟨b,.inr (λq=>h (by simpa using q))⟩];rfl
theorem VA(xs:List MI)(x:MI)(e:Nat)(a:¬(FW x=true/\e+1< ↑xs))(b:A3 x=true):Ea xs x e=[Bc xs x.c.toNat]:=by unfold Ea;simp only[lS a];simp[b]
theorem VD(xs:List MI)(x:MI)(e:Nat)(a:¬(FW x=true/\e+1< ↑xs))(b:¬A3 x=true):Ea xs x e=[]:=by unfold Ea;simp only[lS a];simp[b]
def Ou(w:Y)(base:Nat)(V:J)(a:List MB):Prop:=∃D:List (MB×J),D.map Prod.fst=a/\Ab w base 90 3 V a (Ad B4 D)/\∀x∈D,Ab w base 2 1 x.2 x.1.next (x.1.next.flatMap As)
theorem Ou.rd{w:Y}{base:Nat}{V:J}{a:List MB}(h:Ou w base V a):I4 w V a:=by obtain⟨D,b,c,d⟩:=h;exact⟨D,b,Rd.ij c, λx e=>Rd.ij (d x e)⟩
theorem TW.lq{w u:Y}{xs:List MI}{n q:Nat}{V:J}{D:List (MB×J)}(h:TW w u xs n q V D)(b: ↑xs=n)(a: ↑D=(BA xs n).length):Ou u w V (AL xs):=by
 have c:D.map Prod.fst=AL xs:=by rw[h.done,a,mC lR];unfold AL;rw[b]
 have d:(AL xs).length=(BA xs n).length:=by unfold AL;rw[mD,b]
 refine⟨D,c,?_,h.rows⟩;have:=h.o;rw[a,oF lR]at this;rw[d];simpa using this
theorem Ij{q:Prop}(h:q:=by
 have HR':Ae _:=HR;go_wp2;go_roundw;case rel=>exact⟨D++[(Fb xs m,_)],by simp only[lG,lL];omega,by simp only[lG,lL];go_num,HR'⟩
 simp[intOf];omega):q:=h
theorem Rb{q:Prop}(h:q:=by have f1:=Au HU4.o.ej HO1.o;rw[hcc]at a3;have f4:=Au HU4.o.ej (HNU.o cc hcc2);go_wp2_with (at_builtin;refine wpList_append_lies _ rfl _ _ 29 rfl wr 2 k0 (iZ 0) 1 8 underlying29 hk hx0 hx1 hx2 rfl (by decide) _ ([]:List Int).length (Ad As ([]:List Int)) rfl (HU4.o.al (Ak #[(Bc xs cc)] 2)).1 U4 1 1 [(Bc xs cc)] rfl rfl (BM U4 (Bc xs cc)) (λu hu=>by simp at hu;subst hu;rfl) (by omega) (by simp[maxLen]) (by simp) (HU4.o.al (Ak #[(Bc xs cc)] 2)).2 _ rfl ?_;intro g3 cap3 w3 hown hgrow hat hlt3;have HU5:Ae (NW wr w3 x (sG g3 (0+1) cap3) ([]++[Bc xs cc])):=HU4.o.ir hown rfl hgrow;have f2:=Au HU5.o.ej HO2.o;have z2:=(Aw HT.o.o HU5.o.ej lR).frozenAt (D.length*3+2);clear hown hgrow hat hlt3);have HR:=HT.o.next rfl HM.o.1 HM.o.2.1 HM.o.2.2 HU5.o (by rw[VA xs x e h1 h2,hcn];rfl);exact Ij):q:=h
theorem Rc{q:Prop}(h:q:=by
 have f1:=Au HU.o.ej HO1.o;go_wp2_with fail;go_quiet ((go_at_call 100;exact Calls.quiet_of_same (HGO.o _)));skip
 refine AY (λu=>Ae (NW wr u x (Z (K ⟨(wr:Nat)+1,0,M⟩) 0 0) [])) (HU.o.drew _) ?_;intro U4 HU4;have f2:=Au HU4.o.ej HO2.o;have z2:=(Aw HT.o.o HU4.o.ej lR).frozenAt (D.length*3+2);have HR:=HT.o.next rfl HM.o.1 HM.o.2.1 HM.o.2.2 HU4.o (VD xs x e h1 h2).symm;exact Ij):q:=h
theorem Mt{q:Prop}(h:q:=by
 go_wp2;go_roundw;case rel=>exact⟨k+1,by omega,by go_num,HN⟩
 simp[intOf];omega):q:=h
theorem Mo(s:J)(xs:List MI)(w:Y)(hn:xs.length<=1048576)(h:Rd w 4 s xs (Ad MI.cells xs)):
 Ai Ap 67 #[s] w λe t=>∃V f,e=Al V/\Ou t w V f/\((¬AZ xs/\f=[])\/AZ xs/\f=AL xs)/\Ah w w t:=by
 obtain⟨i0,hi,aZ,bf,bg⟩:=mN XE;obtain⟨j0,hj,aW,aX,aY⟩:=mN D8;obtain⟨k0,hk,hx0,hx1,hx2⟩:=mN Br;have H:=Av h;obtain⟨a1,c1,rfl⟩:=h.bW;have bA:=Aq w (Ak #[] 90);have W:=Av (d5 bA ((AA.new _ _ _):AA (Ac w (Ak #[] 90)) w #[] 90));go_enter func67,ntmps67;go_wp2_with fail;refine(R8 (Z a1 xs c1) xs _ hn (H.o.a7 bA lR)).mono ?_;rintro e u ⟨⟨b,rfl,hb⟩,rfl⟩;cases b
 . (have HN:Ae (¬AZ xs):= λe=>absurd (hb.2 e) nR);go_wp2;go_ret;exact⟨_,[],rfl,⟨[],rfl,⟨rfl,.inr ⟨w,0,#[],rfl,Nat.le_refl _,W.o.2,Nat.le_refl _,nZ _,rfl,rfl⟩⟩, λx B=>by cases B⟩,.inl ⟨HN.o,rfl⟩,W.o.1⟩
 have I:=Av (hb.1 rfl);clear hb;have aq:=I.o.1;have aP:=I.o.2.1;generalize ao:xs.length=n at hn H aq aP⊢;have y:=Av ao;clear ao;have bJ:¬((n:Int)+1)<0:=oM;go_wp2_with (at_make;refine mm _ rfl _ _ 80 rfl w 4 j0 false 1 underlying80 hj aW aX Af Af _ _ (n+1) rfl rfl (by go_num) (by go_num) (by rw[aY];omega) oX sP ?_;intro w1 hown hgrow;rw[DJ]at hown;simp only[oj]at hown;have y0:=hown.cellAt 0 oM;have y1:=hown.frozenAt 0;simp only[List.getElem?_replicate,Nat.zero_lt_succ,if_true]at y0);have r:Ae (SV w (Aa w1 ⟨(w:Nat)+1,0,M⟩ true) xs n 0):=by have F:Ah (Ac w (Ak #[] 90)).heap.size (Ac w (Ak #[] 90)) w1:=(lu _ _).grown hgrow lR (λk hk=>by cases hk);refine⟨?_,(W.o.2.a7 F).other oS _,(Ar W.o.1 lR F).setCell oS _⟩;have:=(hown.stored 0 true).1;rw[Sh xs n]at this;exact this
 clear hown hgrow y0 y1;go_wp2;go_loopw [6] (λi wr=>∃k:Nat,k<=n/\i=iZ k/\Ae (SV w wr xs n k)) (λi _=>n-(intOf i).toNat)
 case atStart=>exact⟨0,oM,rfl,r⟩
 obtain⟨k,bF,rfl,r⟩:=hrel;by_cases G:k<n
 . obtain⟨x,B⟩:∃x,xs[k]?=K x:=⟨_,an (by rw[y.o];exact G)⟩;have X:=Av B;rcases H.o.2 with⟨e0,_⟩|⟨g,o,c,A,l⟩
   . omega
   simp only[lB,mB]at A;obtain⟨rfl,rfl⟩:=A;have L:=Rd.elem MI.dr l k _ B 0 _ rfl;have O:=Rd.elem MI.dr l k _ B 3 _ rfl;rw[lJ]at L;have aQ:=g8 L;simp only[]at aQ;have bu:¬g= ↑w+1:=oM
   have bx:¬ ↑w+1=g:=oM
   rw[<-r.o.ej.cell (g8 L)]at L;rw[<-r.o.ej.cell (g8 O)]at O;have bH:(k:Int)<(n:Int):=oM;have z0:=r.o.lead.frozenAt (k+1);have d0:=r.o.lead.cellAt (k+1) oM;rw[Hx _ _ _ _ oM]at d0;go_wp2_with fail;refine(Co x _).mono ?_;rintro e u ⟨rfl,hu⟩;have S:=hu.symm;subst S;cases hgo:A3 x
   . go_wp2_with fail;refine(Co x _).mono ?_;rintro e u ⟨rfl,hu⟩;have S:=hu.symm;subst S;rw[hgo];by_cases hr:x.op=29
     . have HN:Ae (SV w (Aa wr ⟨(w:Nat)+1,k+1,M⟩ true) xs n (k+1)):=r.o.set (k+1) (Vu xs k n x X.o hgo hr oM);exact Mt
     (have bK:(x.op==29)=false:=by simpa using hr);have HN:Ae (SV w wr xs n (k+1)):=⟨by rw[<-T5 xs k n x X.o hgo hr];exact r.o.lead,r.o.o,r.o.ej⟩;exact Mt
   obtain⟨ae,l⟩:=I.o.2.2 k x X.o hgo;rw[y.o]at l;obtain⟨cc,hcc⟩:∃cc:Nat,x.c=(cc:Int):=⟨x.c.toNat,oM⟩;have aE:=Av hcc;rw[hcc]at O ae l;have z1:=r.o.lead.frozenAt cc;have d1:=r.o.lead.cellAt cc oM;rw[Hx _ _ _ _ oM]at d1;have HN:=Av (r.o.lg cc (k+1) (T4 xs k n cc x X.o hgo aE.o oM oM));have S2:=(r.o.lead.stored cc true).1;obtain⟨v2,aU⟩:∃v,((C5 xs k n).set cc true)[k+1]?=K v:=⟨_,an (by simp[JD];omega)⟩;have d2:=S2.cellAt (k+1) oM;rw[aU]at d2;have z2:=S2.frozenAt (k+1);go_wp2_with fail;refine(Co x _).mono ?_;rintro e u ⟨rfl,hu⟩;have S:=hu.symm;subst S;rw[hgo];generalize Aa wr ⟨w.heap.size+1,cc,M⟩ true=W2 at d2 z2 HN⊢;exact Mt
 obtain rfl:k=n:=oM;have P:=Av r.o;go_wp2_with (at_make;refine mm _ rfl _ _ 29 rfl w 2 k0 (iZ 0) 1 underlying29 hk hx0 hx1 Af Af _ _ k rfl rfl rfl rfl (by rw[hx2];omega) oX P.o.ej.size ?_;intro w2 hown hgrow;rw[JE k (H9 xs) (List.range k)]at hown);have d:Ae (SW w w2 xs k 0 wr (sG w 0 0)):=by have F:Ah wr wr w2:=(lu _ _).grown hgrow lR (λk hk=>by cases hk);refine⟨Aw P.o.lead F lR,hown,⟨rfl,.inr ⟨w,0,#[],rfl,Nat.le_refl _,P.o.o.a7 F,Nat.le_refl _,nZ _,rfl,rfl⟩⟩,Ar P.o.ej lR F⟩
 have HZ:=Av P.o.o.lt;generalize wr.heap.size=q at d HZ⊢;go_wp2;go_loopw [3,8] (λv i wr=>∃j:Nat,j<=k/\i=iZ j/\Ae (SW w wr xs k j q v)) (λ_ i _=>k-(intOf i).toNat)
 case atStart=>exact⟨0,oM,rfl,d⟩
 obtain⟨j,bB,rfl,d⟩:=hrel;by_cases G:j<k
 . have bC:(j:Int)<(k:Int):=oM;have l0:=d.o.lead.cellAt j oM;rw[Hx _ _ _ _ oM]at l0;(have aF:Ae ((BA xs j).length<=j):=by show(BA xs j).length<=j;rw[BW];exact lQ (nP _ _) sP);have aw:=aF.o;cases hld:BL xs k j
   .
    rw[hld]at l0;(have aj:¬BL xs xs j=true:=by rw[y.o,hld];exact nR);have aS:0<j:=by
     cases j with
     |zero=>exact absurd (Jc _ _) aj
     |succ j=>omega
    (have aA:BA xs j≠[]:= λe=>J8 xs j aS (mL (by rw[<-BW,e];rfl)));obtain⟨f,b,hM⟩:∃f b,BA xs j=f++[b]:=⟨_,_,(List.dropLast_concat_getLast aA).symm⟩;(have R:BA xs (j+1)=f++[(⟨b.gZ,(j:Int),b.next⟩:MB)]:=by simp only[BA];rw[lS aj,hM,Fi]);(have am:Bc xs j=(f:Int):=by have A:=BW xs (j+1);rw[R]at A;simp only[lG,lL]at A;unfold Bc;omega);have N:=d.o.o;rw[hM,lG,lL]at N aw;obtain⟨gg,cap,rfl⟩:∃g c,u3=sG g (f.length+1) c:=by
     rcases Bo N with⟨_,Q⟩|Q
     . omega
     exact Q
    have HF:=Av (SW.fin G d.o.lead d.o.num N d.o.ej R am);have au:=Pc N d.o.num dC;(have aR:¬q=gg:= λe=>au e.symm);have n0:=d.o.num.cellAt j oM;have n1:=d.o.num.frozenAt j;have o0:=N.cellAt (f.length*3+1) oM;have T:=N.frozenAt (f.length*3+1);rw[CG _ _ _ _ _ G,lY (by rw[AE (H9 xs) 1 (DL xs),mY,m8];omega),show j-(List.flatMap (H9 xs) (List.take j (List.range k))).length=0 by rw[AE (H9 xs) 1 (DL xs),mY,m8];omega]at n0;simp only[mM,lC]at n0;rw[mH,lY (by rw[AE Lp 3 FC];omega),show ↑f*3+1-(List.flatMap Lp f).length=1 by rw[AE Lp 3 FC];omega]at o0
    simp only[Lp,mF,mM,lF,lC]at o0;have em:((f:Int)+1-1)=(f:Int):=oM;have aJ:f.length<1048576:=oM;go_wp2;go_roundw;(case rel=>exact⟨j+1,oM,by go_num,HF⟩);exact oI
   .
    rw[hld]at l0;(have aj:BL xs xs j=true:=by rw[y.o,hld]);(have R:BA xs (j+1)=BA xs j++[(⟨(j:Int),(j:Int),[]⟩:MB)]:=by simp only[BA];rw[lZ aj,Fi]);(have am:Bc xs j=((BA xs j).length:Int):=by have A:=BW xs (j+1);rw[R]at A;simp only[lG,lL]at A;unfold Bc;omega);have HO:=Av (d5 R am);have HC:Ae (Ab (Ac wr (Ak #[j,iZ 0,sN] 90)) w 90 3 u3 (BA xs j).length (Ad Lp (BA xs j))/\(∀i u,[(iZ j:J),iZ 0,sN][i]?=K u->(Ac wr (Ak #[j,iZ 0,sN] 90)) ((⟨wr,0,M⟩:Addr).add i)=K u)/\ ↑w<=(Ac wr (Ak #[j,iZ 0,sN] 90)).heap.size):=by refine⟨Aw d.o.o (Aq _ _) lR, λi u hu=> ?_,lQ d.o.ej.size (Aq _ _).size⟩;rw[CQ,mQ,(AA.new wr #[j,iZ 0,sN] 90).cell i];simpa using hu
    have aJ:(BA xs j).length<1048576:=oM;have em:(((BA xs j).length:Int)+1-1)=((BA xs j).length:Int):=oM;go_wp2_with (at_builtin;refine wpList_append_lies _ rfl _ _ 81 rfl w 90 i0 (Am #[iZ 0,iZ 0,sN]) 3 40 underlying81 hi aZ bf bg rfl dC _ _ _ rfl HC.o.1 wr 1 1 [j,iZ 0,sN] rfl rfl HC.o.2.1 (λu hu=>by simp at hu;rcases hu with rfl|rfl|rfl<;>rfl) oM oX oM HC.o.2.2 _ rfl ?_;intro gg cap w3 hown hgrow hat hlt3;have HN:=YX d.o HO.o.1 HO.o.2 G hown hgrow;obtain⟨HF,au,aR,n0,n1,o0,T⟩:=HN;clear hown hgrow hat hlt3);go_wp2;go_roundw;(case rel=>exact⟨j+1,oM,by go_num,HF⟩);exact oI
 obtain rfl:j=k:=oM;have aG:=Av (TW.of d.o);have aw:(BA xs j).length<=j:=by rw[BW];exact lQ (nP _ _) sP
 have bI:0<(BA xs j).length:=by rw[BW];exact oQ.2 (J8 xs j oM)
 obtain⟨gv,cap,rfl⟩:∃g c,u3=sG g (BA xs j).length c:=by
  rcases Bo d.o.o with⟨_,Q⟩|Q
  . omega
  exact Q
 obtain⟨k,aT⟩:∃k,k=j:=⟨_,rfl⟩;subst aT;go_wp2;go_loopw [9] (λi wr=>∃D:List (MB×J), ↑D<=(BA xs k).length/\i=iZ (D:Nat)/\Ae (TW w wr xs k q (sG gv (BA xs k).length cap) D)) (λi _=>(BA xs k).length-(intOf i).toNat)
 case atStart=>exact⟨[],sP,rfl,aG⟩
 obtain⟨D,hD,rfl,HT⟩:=hrel;by_cases G: ↑D<(BA xs k).length
 . obtain⟨m,hm⟩:∃m,(BA xs k)[D.length]?=K m:=⟨_,an G⟩;obtain⟨e,he,aM⟩:=JB xs k aq m (lA hm);obtain⟨x,B⟩:∃x,xs[e]?=K x:=⟨_,an (by rw[y.o];exact aM)⟩;have HM:=Av (d5 hm (d5 he B));have hA:(Ad B4 D).length= ↑D*3:=AE B4 3 A4 D
   have T:=HT.o.o.cellAt (D.length*3+1) oM;have o2:=HT.o.o.cellAt (D.length*3+2) oM;rw[lY oM,hA,nA,mq G,(i8.1 hm).2,mF]at T o2;simp only[Lp,mM,lF,lC,he]at T o2;rcases H.o.2 with⟨e0,_⟩|⟨g,o,c,A,l⟩
   . omega
   simp only[lB,mB]at A;obtain⟨rfl,rfl⟩:=A;have L:=Rd.elem MI.dr l e _ B 0 _ rfl;have x1:=Rd.elem MI.dr l e _ B 1 _ rfl;have x2:=Rd.elem MI.dr l e _ B 2 _ rfl;have O:=Rd.elem MI.dr l e _ B 3 _ rfl;rw[<-HT.o.ej.cell (g8 L),lJ]at L;rw[<-HT.o.ej.cell (g8 x1)]at x1;rw[<-HT.o.ej.cell (g8 x2)]at x2;rw[<-HT.o.ej.cell (g8 O)]at O;have HO1:=Av T;have HO2:=Av o2;have HNU:Ae (∀p,p<k->wr ⟨q,p,M⟩=K ↑(Bc xs p)):= λp hp=>by have:=HT.o.num.cellAt p oM;have e2:=BU (H9 xs) 1 (DL xs) (List.range k) p 0 p (by simp[hp]) oM;rw[mO,lJ]at e2;rw[e2]at this;exact this
   have br:(D:Int)<((BA xs k).length:Int):=oM;have bt:(e:Int)<(k:Int):=oM;have bG:(k:Int)<=1024:=oM;(go_upto_region 27 with fail);refine Ax (λu=>Ae (NW wr u x (Z (K ⟨(wr:Nat)+1,0,M⟩) 0 0) [])) (NW.of wr x) ?_;intro U HU;by_cases h1:FW x=true/\e+1< ↑xs
   . (have F:e+1<k:=by rw[<-y.o];exact h1.2);(have C:¬x.op=25:= λq=>by simp[FW,q]at h1);(have E:¬x.op=29:= λq=>by simp[FW,q]at h1);(have bi:(x.op==25)=false:=by simpa using C);(have bp:(x.op==29)=false:=by simpa using E);(have bj:(x.op != 25)=true:=by simpa using C);(have bq:(x.op != 29)=true:=by simpa using E);have r3:(e:Int)+1<(k:Int):=oM;have a0:=HU.o.xb.cell 0;have a3:=HU.o.xb.cell 3;simp only[lE,lC,lF]at a0 a3;have f1:=Au HU.o.ej HO1.o;have f3:=Au HU.o.ej (HNU.o (e+1) F);go_wp2_with (at_builtin;refine wpList_append_lies _ rfl _ _ 29 rfl wr 2 k0 (iZ 0) 1 8 underlying29 hk hx0 hx1 hx2 rfl dC _ ([]:List Int).length (Ad As ([]:List Int)) rfl (HU.o.al (Ak #[(Bc xs (e+1))] 2)).1 U 1 1 [(Bc xs (e+1))] rfl rfl (BM U (Bc xs (e+1))) (λu hu=>by simp at hu;subst hu;rfl) oM (by simp[maxLen]) sP (HU.o.al (Ak #[(Bc xs (e+1))] 2)).2 _ rfl ?_;intro g3 cap3 w3 hown hgrow hat hlt3;have z:Ae (NW wr w3 x (sG g3 (0+1) cap3) ([]++[Bc xs (e+1)])):=HU.o.ir hown rfl hgrow;clear hown hgrow hat hlt3);by_cases h2:A3 x=true
     . have HGO:Ae (∀u:Y,Ai Ap 100 #[x.op] u λe t=>e=Al true/\t=u):= λu=>by have:=Co x u;rw[h2]at this;exact this
       obtain⟨ae,l⟩:=I.o.2.2 e x HM.o.2.2 h2;rw[y.o]at l;obtain⟨cc,hcc⟩:∃cc:Nat,x.c=(cc:Int):=⟨x.c.toNat,oM⟩;have hcc2:cc<k:=oM;have hcn:x.c.toNat=cc:=oM;have a0:=z.o.xb.cell 0;have a3:=z.o.xb.cell 3;simp only[lE,lC,lF]at a0 a3;have f1:=Au z.o.ej HO1.o;rw[hcc]at a3;have f4:=Au z.o.ej (HNU.o cc hcc2);have f5:=z.o.row.cellAt 0 sP;simp only[mw,mF,As,mM,lC]at f5;by_cases ah:Bc xs (e+1)=Bc xs cc
       . rw[ah]at f5;go_wp2_with fail;go_quiet ((go_at_call 100;exact Calls.quiet_of_same (HGO.o _)));refine AY (λu=>Ae (NW wr u x (sG g3 (0+1) cap3) ([]++[Bc xs (e+1)]))) (z.o.drew _) ?_;intro U4 HU4;have f2:=Au HU4.o.ej HO2.o;have z2:=(Aw HT.o.o HU4.o.ej lR).frozenAt (D.length*3+2);have HR:=HT.o.next rfl HM.o.1 HM.o.2.1 HM.o.2.2 HU4.o (by rw[Vz xs x e h1 h2 (by rw[hcn];exact ah)];rfl);exact Ij
       (have aA:(Bc xs (e+1) != Bc xs cc)=true:=by simpa using ah);go_wp2_with fail;go_quiet ((go_at_call 100;exact Calls.quiet_of_same (HGO.o _)));refine AY (λu=>Ae (NW wr u x (sG g3 (0+1) cap3) ([]++[Bc xs (e+1)]))) (z.o.drew _) ?_;intro U4 HU4;have a0:=HU4.o.xb.cell 0;have a3:=HU4.o.xb.cell 3;simp only[lE,lC,lF]at a0 a3;have f1:=Au HU4.o.ej HO1.o;rw[hcc]at a3;have f4:=Au HU4.o.ej (HNU.o cc hcc2);go_wp2_with (at_builtin;refine wpList_append_lies _ rfl _ _ 29 rfl wr 2 k0 (iZ 0) 1 8 underlying29 hk hx0 hx1 hx2 rfl dC _ (([]++[Bc xs (e+1)]):List Int).length (Ad As (([]++[Bc xs (e+1)]):List Int)) rfl (HU4.o.al (Ak #[(Bc xs cc)] 2)).1 U4 1 1 [(Bc xs cc)] rfl rfl (BM U4 (Bc xs cc)) (λu hu=>by simp at hu;subst hu;rfl) oM (by simp[maxLen]) sP (HU4.o.al (Ak #[(Bc xs cc)] 2)).2 _ rfl ?_;intro g5 aH w5 hown hgrow hat hlt3;have HU5:Ae (NW wr w5 x (sG g5 ((([]++[Bc xs (e+1)]):List Int).length+1) aH) (([]++[Bc xs (e+1)])++[Bc xs cc])):=HU4.o.ir hown rfl hgrow;have f2:=Au HU5.o.ej HO2.o;have z2:=(Aw HT.o.o HU5.o.ej lR).frozenAt (D.length*3+2);clear hown hgrow hat hlt3);have HR:=HT.o.next rfl HM.o.1 HM.o.2.1 HM.o.2.2 HU5.o (by rw[VC xs x e h1 h2 (by rw[hcn];exact ah),hcn];rfl);exact Ij
     have HGO:Ae (∀u:Y,Ai Ap 100 #[x.op] u λe t=>e=Al false/\t=u):= λu=>by have:=Co x u;rw[show A3 x=false from by simpa using h2]at this;exact this
     have a0:=z.o.xb.cell 0;have a3:=z.o.xb.cell 3;simp only[lE,lC,lF]at a0 a3;have f1:=Au z.o.ej HO1.o;go_wp2_with fail;go_quiet ((go_at_call 100;exact Calls.quiet_of_same (HGO.o _)));(skip);refine AY (λu=>Ae (NW wr u x (sG g3 (0+1) cap3) ([]++[Bc xs (e+1)]))) (z.o.drew _) ?_;intro U4 HU4;have f2:=Au HU4.o.ej HO2.o;have z2:=(Aw HT.o.o HU4.o.ej lR).frozenAt (D.length*3+2);have HR:=HT.o.next rfl HM.o.1 HM.o.2.1 HM.o.2.2 HU4.o (by rw[VE xs x e h1 h2];rfl);exact Ij
   by_cases C:x.op=25
   . (have h2:A3 x=true:=by simp[A3,C]);have HGO:Ae (∀u:Y,Ai Ap 100 #[iZ 25] u λe t=>e=Al true/\t=u):= λu=>by have:=Co x u;rw[h2]at this;rw[C]at this;exact this
     obtain⟨ae,l⟩:=I.o.2.2 e x HM.o.2.2 h2;rw[y.o]at l;obtain⟨cc,hcc⟩:∃cc:Nat,x.c=(cc:Int):=⟨x.c.toNat,oM⟩;have hcc2:cc<k:=oM;have hcn:x.c.toNat=cc:=oM;have a0:=HU.o.xb.cell 0;have a3:=HU.o.xb.cell 3;simp only[lE,lC,lF]at a0 a3;rw[C]at a0;have f1:=Au HU.o.ej HO1.o;rw[hcc]at a3;go_wp2_with fail;go_quiet ((go_at_call 100;exact Calls.quiet_of_same (HGO.o _)));refine AY (λu=>Ae (NW wr u x (Z (K ⟨(wr:Nat)+1,0,M⟩) 0 0) [])) (HU.o.drew _) ?_;intro U4 HU4;have a0:=HU4.o.xb.cell 0;have a3:=HU4.o.xb.cell 3;simp only[lE,lC,lF]at a0 a3;rw[C]at a0;exact Rb
   by_cases E:x.op=29
   . (have h2:¬A3 x=true:=by simp[A3,E]);have HGO:Ae (∀u:Y,Ai Ap 100 #[iZ 29] u λe t=>e=Al false/\t=u):= λu=>by have:=Co x u;rw[show A3 x=false from by simpa using h2]at this;rw[E]at this;exact this
     have a0:=HU.o.xb.cell 0;have a3:=HU.o.xb.cell 3;simp only[lE,lC,lF]at a0 a3;rw[E]at a0;exact Rc
   (have r3:¬e+1<k:= λq=>h1 ⟨by simp[FW,C,E],by rw[y.o];exact q⟩);have bL:¬(e:Int)+1<(k:Int):=oM;(have bi:(x.op==25)=false:=by simpa using C);(have bp:(x.op==29)=false:=by simpa using E);(have bj:(x.op != 25)=true:=by simpa using C);(have bq:(x.op != 29)=true:=by simpa using E);by_cases h2:A3 x=true
   . have HGO:Ae (∀u:Y,Ai Ap 100 #[x.op] u λe t=>e=Al true/\t=u):= λu=>by have:=Co x u;rw[h2]at this;exact this
     obtain⟨ae,l⟩:=I.o.2.2 e x HM.o.2.2 h2;rw[y.o]at l;obtain⟨cc,hcc⟩:∃cc:Nat,x.c=(cc:Int):=⟨x.c.toNat,oM⟩;have hcc2:cc<k:=oM;have hcn:x.c.toNat=cc:=oM;have a0:=HU.o.xb.cell 0;have a3:=HU.o.xb.cell 3;simp only[lE,lC,lF]at a0 a3;have f1:=Au HU.o.ej HO1.o;rw[hcc]at a3;go_wp2_with fail;go_quiet ((go_at_call 100;exact Calls.quiet_of_same (HGO.o _)));refine AY (λu=>Ae (NW wr u x (Z (K ⟨(wr:Nat)+1,0,M⟩) 0 0) [])) (HU.o.drew _) ?_;intro U4 HU4;have a0:=HU4.o.xb.cell 0;have a3:=HU4.o.xb.cell 3;simp only[lE,lC,lF]at a0 a3;exact Rb
   have HGO:Ae (∀u:Y,Ai Ap 100 #[x.op] u λe t=>e=Al false/\t=u):= λu=>by have:=Co x u;rw[show A3 x=false from by simpa using h2]at this;exact this
   have a0:=HU.o.xb.cell 0;have a3:=HU.o.xb.cell 3;simp only[lE,lC,lF]at a0 a3;exact Rc
 have aI: ↑D=(BA xs k).length:=oM
 have HE:=Av (HT.o.lq y.o aI);go_wp2;go_ret;exact⟨_,_,rfl,HE.o,.inr ⟨I.o,rfl⟩,HT.o.ej⟩
end Go.Proofs.YtadcneiiokbofaaGreat
