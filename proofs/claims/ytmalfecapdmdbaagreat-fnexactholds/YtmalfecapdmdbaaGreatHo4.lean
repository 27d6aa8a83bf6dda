import Derived.Test.YtmalfecapdmdbaaGreatHo3
namespace Go.Proofs.YtmalfecapdmdbaaGreat
open Go.ChangeShapes Go.WideShapes Go.ChangeAt Go.RowKit Go.Proofs.Tryz
set_option linter.unusedVariables false
open Go.Value renaming slice → Z,agg → Am
open Option renaming some → K,none → M
open Go renaming Value → J,World → Y,Calls → Ai
open Go.RowKit renaming Hid → Ae,Below → Ah
open Go.IntKind renaming i64 → Af
open Go.Obj renaming cells → Ak
open Go.Ending renaming returned → Al
open Go.Proofs.Tryz renaming prog → Ap
open Go.World renaming setCell → Aa,ownsRow → Ab,alloc → Ac
open List renaming flatMap → Ad
set_option maxHeartbeats 4000000
set_option maxRecDepth 100000
theorem Uu(xs:List MI)(x:MI)(e:Nat)(a:EO x=true/\e+1< ↑xs)(b:¬A6 x=true):Er xs x e=[Bb xs (e+1)]:=by unfold Er;simp only[kZ a,b,false_and,if_false,nW];rfl
theorem Uq(xs:List MI)(x:MI)(e:Nat)(a:EO x=true/\e+1< ↑xs)(b:A6 x=true)(h:Bb xs (e+1)=Bb xs x.c.toNat):Er xs x e=[Bb xs (e+1)]:=by unfold Er;simp only[kZ a];rw[kP (λq=>q.2.elim (λq=>by cases q) (λq=>q (by rw[h])))];rfl
theorem Us(xs:List MI)(x:MI)(e:Nat)(a:EO x=true/\e+1< ↑xs)(b:A6 x=true)(h:¬Bb xs (e+1)=Bb xs x.c.toNat):Er xs x e=[Bb xs (e+1),Bb xs x.c.toNat]:=by unfold Er;simp only[kZ a];rw[kZ ⟨b,.inr (λq=>h (by simpa using q))⟩];rfl
theorem Ur(xs:List MI)(x:MI)(e:Nat)(a:¬(EO x=true/\e+1< ↑xs))(b:A6 x=true):Er xs x e=[Bb xs x.c.toNat]:=by unfold Er;simp only[kP a];simp[b]
theorem Ut(xs:List MI)(x:MI)(e:Nat)(a:¬(EO x=true/\e+1< ↑xs))(b:¬A6 x=true):Er xs x e=[]:=by unfold Er;simp only[kP a];simp[b]
def NT(w:Y)(base:Nat)(V:J)(a:List MB):Prop:=∃D:List (MB×J),D.map Prod.fst=a/\Ab w base 126 3 V a (Ad BN D)/\∀x∈D,Ab w base 2 1 x.2 x.1.next (x.1.next.flatMap As)
theorem NT.rd{w:Y}{base:Nat}{V:J}{a:List MB}(h:NT w base V a):Kp w V a:=by obtain⟨D,b,c,d⟩:=h;exact⟨D,b,Rd.gM c, λx e=>Rd.gM (d x e)⟩
theorem TW.kv{w u:Y}{xs:List MI}{n q:Nat}{V:J}{D:List (MB×J)}(h:TW w u xs n q V D)(b: ↑xs=n)(a: ↑D=(Bq xs n).length):NT u w V (AM xs):=by
 have c:D.map Prod.fst=AM xs:=by rw[h.done,a,k8 lR];unfold AM;rw[b]
 have d:(AM xs).length=(Bq xs n).length:=by unfold AM;rw[lC,b]
 refine⟨D,c,?_,h.rows⟩;have:=h.o;rw[a,nD lR]at this;rw[d];simpa using this
theorem Hr{q:Prop}(h:q:=by
 have HR':Ae _:=HR;go_wp2;go_roundw;case rel=>exact⟨D++[(FK xs m,_)],by simp only[kE,kK];omega,by simp only[kE,kK];go_num,HR'⟩
 simp[intOf];omega):q:=h
theorem Qr{q:Prop}(h:q:=by have f1:=Au HU4.o.e8 HO1.o;rw[hcc]at a3;have f4:=Au HU4.o.e8 (HNU.o cc hcc2);go_wp2_with (at_builtin;refine wpList_append_lies _ rfl _ _ 46 rfl wr 2 k0 (iZ 0) 1 8 underlying46 hk hx0 hx1 hx2 rfl (by decide) _ ([]:List Int).length (Ad As ([]:List Int)) rfl (HU4.o.al (Ak #[(Bb xs cc)] 2)).1 U4 1 1 [(Bb xs cc)] rfl rfl (Bw U4 (Bb xs cc)) (λu hu=>by simp at hu;subst hu;rfl) (by omega) (by simp[maxLen]) (by simp) (HU4.o.al (Ak #[(Bb xs cc)] 2)).2 _ rfl ?_;intro g3 cap3 w3 hown hgrow hat hlt3;have HU5:Ae (NW wr w3 x (sG g3 (0+1) cap3) ([]++[Bb xs cc])):=HU4.o.gX hown rfl hgrow;have f2:=Au HU5.o.e8 HO2.o;have z2:=(Aw HT.o.o HU5.o.e8 lR).frozenAt (D.length*3+2);clear hown hgrow hat hlt3);have HR:=HT.o.next rfl HM.o.1 HM.o.2.1 HM.o.2.2 HU5.o (by rw[Ur xs x e h1 h2,hcn];rfl);exact Hr):q:=h
theorem Qs{q:Prop}(h:q:=by
 have f1:=Au HU.o.e8 HO1.o;go_wp2_with fail;go_quiet ((go_at_call 65;exact Calls.quiet_of_same (HGO.o _)));skip
 refine AX (λu=>Ae (NW wr u x (Z (K ⟨(wr:Nat)+1,0,M⟩) 0 0) [])) (HU.o.drew _) ?_;intro U4 HU4;have f2:=Au HU4.o.e8 HO2.o;have z2:=(Aw HT.o.o HU4.o.e8 lR).frozenAt (D.length*3+2);have HR:=HT.o.next rfl HM.o.1 HM.o.2.1 HM.o.2.2 HU4.o (Ut xs x e h1 h2).symm;exact Hr):q:=h
theorem LZ{q:Prop}(h:q:=by
 go_wp2;go_roundw;case rel=>exact⟨k+1,by omega,by go_num,HN⟩
 simp[intOf];omega):q:=h
theorem LQ(s:J)(xs:List MI)(w:Y)(hn:xs.length<=1048576)(h:Rd w 4 s xs (Ad MI.cells xs)):
 Ai Ap 58 #[s] w λe t=>∃V f,e=Al V/\NT t w V f/\((¬A3 xs/\f=[])\/A3 xs/\f=AM xs)/\Ah w w t:=by
 obtain⟨i0,hi,aZ,b7,bf⟩:=lS Wz;obtain⟨j0,hj,aW,aX,aY⟩:=lS Em;obtain⟨k0,hk,hx0,hx1,hx2⟩:=lS Bp;have H:=Av h;obtain⟨a1,c1,rfl⟩:=h.dk;have bA:=Aq w (Ak #[] 126);have W:=Av (d5 bA ((AC.new _ _ _):AC (Ac w (Ak #[] 126)) w #[] 126));go_enter func58,ntmps58;go_wp2_with fail;refine(Rl (Z a1 xs c1) xs _ hn (H.o.a7 bA lR)).mono ?_;rintro e u ⟨⟨b,rfl,hb⟩,rfl⟩;cases b
 . (have HN:Ae (¬A3 xs):= λe=>absurd (hb.2 e) mY);go_wp2;go_ret;exact⟨_,[],rfl,⟨[],rfl,⟨rfl,.inr ⟨w,0,#[],rfl,Nat.le_refl _,W.o.2,Nat.le_refl _,mz _,rfl,rfl⟩⟩, λx B=>by cases B⟩,.inl ⟨HN.o,rfl⟩,W.o.1⟩
 have I:=Av (hb.1 rfl);clear hb;have aq:=I.o.1;have aP:=I.o.2.1;generalize ao:xs.length=n at hn H aq aP⊢;have y:=Av ao;clear ao;have bH:¬((n:Int)+1)<0:=oM;go_wp2_with (at_make;refine l8 _ rfl _ _ 67 rfl w 4 j0 false 1 underlying67 hj aW aX Af Af _ _ (n+1) rfl rfl (by go_num) (by go_num) (by rw[aY];omega) oX sP ?_;intro w1 hown hgrow;rw[DX]at hown;simp only[nZ]at hown;have y0:=hown.cellAt 0 oM;have y1:=hown.frozenAt 0;simp only[List.getElem?_replicate,Nat.zero_lt_succ,if_true]at y0);have r:Ae (SV w (Aa w1 ⟨(w:Nat)+1,0,M⟩ true) xs n 0):=by have F:Ah (Ac w (Ak #[] 126)).heap.size (Ac w (Ak #[] 126)) w1:=(kS _ _).grown hgrow lR (λk hk=>by cases hk);refine⟨?_,(W.o.2.a7 F).other oS _,(Ar W.o.1 lR F).setCell oS _⟩;have:=(hown.stored 0 true).1;rw[Rs xs n]at this;exact this
 clear hown hgrow y0 y1;go_wp2;go_loopw [6] (λi wr=>∃k:Nat,k<=n/\i=iZ k/\Ae (SV w wr xs n k)) (λi _=>n-(intOf i).toNat)
 case atStart=>exact⟨0,oM,rfl,r⟩
 obtain⟨k,bB,rfl,r⟩:=hrel;by_cases G:k<n
 . obtain⟨x,B⟩:∃x,xs[k]?=K x:=⟨_,an (by rw[y.o];exact G)⟩;have X:=Av B;rcases H.o.2 with⟨e0,_⟩|⟨g,o,c,A,l⟩
   . omega
   simp only[i8,lB]at A;obtain⟨rfl,rfl⟩:=A;have L:=Rd.elem MI.dr l k _ B 0 _ rfl;have O:=Rd.elem MI.dr l k _ B 3 _ rfl;rw[kJ]at L;have aQ:=hC L;simp only[]at aQ;have br:¬g= ↑w+1:=oM
   have bt:¬ ↑w+1=g:=oM
   rw[<-r.o.e8.cell (hC L)]at L;rw[<-r.o.e8.cell (hC O)]at O;have bF:(k:Int)<(n:Int):=oM;have z0:=r.o.lead.frozenAt (k+1);have d0:=r.o.lead.cellAt (k+1) oM;rw[Hf _ _ _ _ oM]at d0;go_wp2_with fail;refine(Ci x _).mono ?_;rintro e u ⟨rfl,hu⟩;have S:=hu.symm;subst S;cases hgo:A6 x
   . go_wp2_with fail;refine(Ci x _).mono ?_;rintro e u ⟨rfl,hu⟩;have S:=hu.symm;subst S;rw[hgo];by_cases hr:x.op=29
     . have HN:Ae (SV w (Aa wr ⟨(w:Nat)+1,k+1,M⟩ true) xs n (k+1)):=r.o.set (k+1) (Ul xs k n x X.o hgo hr oM);exact LZ
     (have bI:(x.op==29)=false:=by simpa using hr);have HN:Ae (SV w wr xs n (k+1)):=⟨by rw[<-Tl xs k n x X.o hgo hr];exact r.o.lead,r.o.o,r.o.e8⟩;exact LZ
   obtain⟨ae,l⟩:=I.o.2.2 k x X.o hgo;rw[y.o]at l;obtain⟨cc,hcc⟩:∃cc:Nat,x.c=(cc:Int):=⟨x.c.toNat,oM⟩;have aE:=Av hcc;rw[hcc]at O ae l;have z1:=r.o.lead.frozenAt cc;have d1:=r.o.lead.cellAt cc oM;rw[Hf _ _ _ _ oM]at d1;have HN:=Av (r.o.kx cc (k+1) (Tk xs k n cc x X.o hgo aE.o oM oM));have S2:=(r.o.lead.stored cc true).1;obtain⟨v2,aU⟩:∃v,((CV xs k n).set cc true)[k+1]?=K v:=⟨_,an (by simp[Jh];omega)⟩;have d2:=S2.cellAt (k+1) oM;rw[aU]at d2;have z2:=S2.frozenAt (k+1);go_wp2_with fail;refine(Ci x _).mono ?_;rintro e u ⟨rfl,hu⟩;have S:=hu.symm;subst S;rw[hgo];generalize Aa wr ⟨w.heap.size+1,cc,M⟩ true=W2 at d2 z2 HN⊢;exact LZ
 obtain rfl:k=n:=oM;have P:=Av r.o;go_wp2_with (at_make;refine l8 _ rfl _ _ 46 rfl w 2 k0 (iZ 0) 1 underlying46 hk hx0 hx1 Af Af _ _ k rfl rfl rfl rfl (by rw[hx2];omega) oX P.o.e8.size ?_;intro w2 hown hgrow;rw[Jj k (Hl xs) (List.range k)]at hown);have d:Ae (SW w w2 xs k 0 wr (sG w 0 0)):=by have F:Ah wr wr w2:=(kS _ _).grown hgrow lR (λk hk=>by cases hk);refine⟨Aw P.o.lead F lR,hown,⟨rfl,.inr ⟨w,0,#[],rfl,Nat.le_refl _,P.o.o.a7 F,Nat.le_refl _,mz _,rfl,rfl⟩⟩,Ar P.o.e8 lR F⟩
 have HZ:=Av P.o.o.lt;generalize wr.heap.size=q at d HZ⊢;go_wp2;go_loopw [3,8] (λv i wr=>∃j:Nat,j<=k/\i=iZ j/\Ae (SW w wr xs k j q v)) (λ_ i _=>k-(intOf i).toNat)
 case atStart=>exact⟨0,oM,rfl,d⟩
 obtain⟨j,bu,rfl,d⟩:=hrel;by_cases G:j<k
 . have bx:(j:Int)<(k:Int):=oM;have l0:=d.o.lead.cellAt j oM;rw[Hf _ _ _ _ oM]at l0;(have aF:Ae ((Bq xs j).length<=j):=by show(Bq xs j).length<=j;rw[BG];exact kV (mW _ _) sP);have aw:=aF.o;cases hld:Bv xs k j
   .
    rw[hld]at l0;(have aj:¬Bv xs xs j=true:=by rw[y.o,hld];exact mY);have aS:0<j:=by
     cases j with
     |zero=>exact absurd (II _ _) aj
     |succ j=>omega
    (have aA:Bq xs j≠[]:= λe=>JH xs j aS (lJ (by rw[<-BG,e];rfl)));obtain⟨f,b,hM⟩:∃f b,Bq xs j=f++[b]:=⟨_,_,(List.dropLast_concat_getLast aA).symm⟩;(have R:Bq xs (j+1)=f++[(⟨b.gH,(j:Int),b.next⟩:MB)]:=by simp only[Bq];rw[kP aj,hM,Fa]);(have am:Bb xs j=(f:Int):=by have A:=BG xs (j+1);rw[R]at A;simp only[kE,kK]at A;unfold Bb;omega);have N:=d.o.o;rw[hM,kE,kK]at N aw;obtain⟨gg,cap,rfl⟩:∃g c,u3=sG g (f.length+1) c:=by
     rcases BU N with⟨_,Q⟩|Q
     . omega
     exact Q
    have HF:=Av (SW.fin G d.o.lead d.o.num N d.o.e8 R am);have au:=Oo N d.o.num dC;(have aR:¬q=gg:= λe=>au e.symm);have n0:=d.o.num.cellAt j oM;have n1:=d.o.num.frozenAt j;have o0:=N.cellAt (f.length*3+1) oM;have T:=N.frozenAt (f.length*3+1);rw[CG _ _ _ _ _ G,kT (by rw[AE (Hl xs) 1 (Dy xs),lh,mM];omega),show j-(List.flatMap (Hl xs) (List.take j (List.range k))).length=0 by rw[AE (Hl xs) 1 (Dy xs),lh,mM];omega]at n0;simp only[lK,i9]at n0;rw[lL,kT (by rw[AE KW 3 Fm];omega),show ↑f*3+1-(List.flatMap KW f).length=1 by rw[AE KW 3 Fm];omega]at o0
    simp only[KW,lD,lK,kC,i9]at o0;have em:((f:Int)+1-1)=(f:Int):=oM;have aJ:f.length<1048576:=oM;go_wp2;go_roundw;(case rel=>exact⟨j+1,oM,by go_num,HF⟩);exact oI
   .
    rw[hld]at l0;(have aj:Bv xs xs j=true:=by rw[y.o,hld]);(have R:Bq xs (j+1)=Bq xs j++[(⟨(j:Int),(j:Int),[]⟩:MB)]:=by simp only[Bq];rw[kZ aj,Fa]);(have am:Bb xs j=((Bq xs j).length:Int):=by have A:=BG xs (j+1);rw[R]at A;simp only[kE,kK]at A;unfold Bb;omega);have HO:=Av (d5 R am);have HC:Ae (Ab (Ac wr (Ak #[j,iZ 0,sN] 126)) w 126 3 u3 (Bq xs j).length (Ad KW (Bq xs j))/\(∀i u,[(iZ j:J),iZ 0,sN][i]?=K u->(Ac wr (Ak #[j,iZ 0,sN] 126)) ((⟨wr,0,M⟩:Addr).add i)=K u)/\ ↑w<=(Ac wr (Ak #[j,iZ 0,sN] 126)).heap.size):=by refine⟨Aw d.o.o (Aq _ _) lR, λi u hu=> ?_,kV d.o.e8.size (Aq _ _).size⟩;rw[Dk,lM,(AC.new wr #[j,iZ 0,sN] 126).cell i];simpa using hu
    have aJ:(Bq xs j).length<1048576:=oM;have em:(((Bq xs j).length:Int)+1-1)=((Bq xs j).length:Int):=oM;go_wp2_with (at_builtin;refine wpList_append_lies _ rfl _ _ 77 rfl w 126 i0 (Am #[iZ 0,iZ 0,sN]) 3 40 underlying77 hi aZ b7 bf rfl dC _ _ _ rfl HC.o.1 wr 1 1 [j,iZ 0,sN] rfl rfl HC.o.2.1 (λu hu=>by simp at hu;rcases hu with rfl|rfl|rfl<;>rfl) oM oX oM HC.o.2.2 _ rfl ?_;intro gg cap w3 hown hgrow hat hlt3;have HN:=XR d.o HO.o.1 HO.o.2 G hown hgrow;obtain⟨HF,au,aR,n0,n1,o0,T⟩:=HN;clear hown hgrow hat hlt3);go_wp2;go_roundw;(case rel=>exact⟨j+1,oM,by go_num,HF⟩);exact oI
 obtain rfl:j=k:=oM;have aG:=Av (TW.of d.o);have aw:(Bq xs j).length<=j:=by rw[BG];exact kV (mW _ _) sP
 have bG:0<(Bq xs j).length:=by rw[BG];exact nM.2 (JH xs j oM)
 obtain⟨gv,cap,rfl⟩:∃g c,u3=sG g (Bq xs j).length c:=by
  rcases BU d.o.o with⟨_,Q⟩|Q
  . omega
  exact Q
 obtain⟨k,aT⟩:∃k,k=j:=⟨_,rfl⟩;subst aT;go_wp2;go_loopw [9] (λi wr=>∃D:List (MB×J), ↑D<=(Bq xs k).length/\i=iZ (D:Nat)/\Ae (TW w wr xs k q (sG gv (Bq xs k).length cap) D)) (λi _=>(Bq xs k).length-(intOf i).toNat)
 case atStart=>exact⟨[],sP,rfl,aG⟩
 obtain⟨D,hD,rfl,HT⟩:=hrel;by_cases G: ↑D<(Bq xs k).length
 . obtain⟨m,hm⟩:∃m,(Bq xs k)[D.length]?=K m:=⟨_,an G⟩;obtain⟨e,he,aM⟩:=Jg xs k aq m (i7 hm);obtain⟨x,B⟩:∃x,xs[e]?=K x:=⟨_,an (by rw[y.o];exact aM)⟩;have HM:=Av (d5 hm (d5 he B));have hA:(Ad BN D).length= ↑D*3:=AE BN 3 A9 D
   have T:=HT.o.o.cellAt (D.length*3+1) oM;have o2:=HT.o.o.cellAt (D.length*3+2) oM;rw[kT oM,hA,mH,mD G,(i6.1 hm).2,lD]at T o2;simp only[KW,lK,kC,i9,he]at T o2;rcases H.o.2 with⟨e0,_⟩|⟨g,o,c,A,l⟩
   . omega
   simp only[i8,lB]at A;obtain⟨rfl,rfl⟩:=A;have L:=Rd.elem MI.dr l e _ B 0 _ rfl;have x1:=Rd.elem MI.dr l e _ B 1 _ rfl;have x2:=Rd.elem MI.dr l e _ B 2 _ rfl;have O:=Rd.elem MI.dr l e _ B 3 _ rfl;rw[<-HT.o.e8.cell (hC L),kJ]at L;rw[<-HT.o.e8.cell (hC x1)]at x1;rw[<-HT.o.e8.cell (hC x2)]at x2;rw[<-HT.o.e8.cell (hC O)]at O;have HO1:=Av T;have HO2:=Av o2;have HNU:Ae (∀p,p<k->wr ⟨q,p,M⟩=K ↑(Bb xs p)):= λp hp=>by have:=HT.o.num.cellAt p oM;have e2:=Jd (Hl xs) 1 (Dy xs) (List.range k) p 0 p (by simp[hp]) oM;rw[lN,kJ]at e2;rw[e2]at this;exact this
   have bp:(D:Int)<((Bq xs k).length:Int):=oM;have bq:(e:Int)<(k:Int):=oM;have bC:(k:Int)<=1024:=oM;(go_upto_region 27 with fail);refine Ax (λu=>Ae (NW wr u x (Z (K ⟨(wr:Nat)+1,0,M⟩) 0 0) [])) (NW.of wr x) ?_;intro U HU;by_cases h1:EO x=true/\e+1< ↑xs
   . (have F:e+1<k:=by rw[<-y.o];exact h1.2);(have C:¬x.op=25:= λq=>by simp[EO,q]at h1);(have E:¬x.op=29:= λq=>by simp[EO,q]at h1);(have bg:(x.op==25)=false:=by simpa using C);(have bj:(x.op==29)=false:=by simpa using E);(have bi:(x.op != 25)=true:=by simpa using C);(have bo:(x.op != 29)=true:=by simpa using E);have r3:(e:Int)+1<(k:Int):=oM;have a0:=HU.o.xb.cell 0;have a3:=HU.o.xb.cell 3;simp only[kB,i9,kC]at a0 a3;have f1:=Au HU.o.e8 HO1.o;have f3:=Au HU.o.e8 (HNU.o (e+1) F);go_wp2_with (at_builtin;refine wpList_append_lies _ rfl _ _ 46 rfl wr 2 k0 (iZ 0) 1 8 underlying46 hk hx0 hx1 hx2 rfl dC _ ([]:List Int).length (Ad As ([]:List Int)) rfl (HU.o.al (Ak #[(Bb xs (e+1))] 2)).1 U 1 1 [(Bb xs (e+1))] rfl rfl (Bw U (Bb xs (e+1))) (λu hu=>by simp at hu;subst hu;rfl) oM (by simp[maxLen]) sP (HU.o.al (Ak #[(Bb xs (e+1))] 2)).2 _ rfl ?_;intro g3 cap3 w3 hown hgrow hat hlt3;have z:Ae (NW wr w3 x (sG g3 (0+1) cap3) ([]++[Bb xs (e+1)])):=HU.o.gX hown rfl hgrow;clear hown hgrow hat hlt3);by_cases h2:A6 x=true
     . have HGO:Ae (∀u:Y,Ai Ap 65 #[x.op] u λe t=>e=Al true/\t=u):= λu=>by have:=Ci x u;rw[h2]at this;exact this
       obtain⟨ae,l⟩:=I.o.2.2 e x HM.o.2.2 h2;rw[y.o]at l;obtain⟨cc,hcc⟩:∃cc:Nat,x.c=(cc:Int):=⟨x.c.toNat,oM⟩;have hcc2:cc<k:=oM;have hcn:x.c.toNat=cc:=oM;have a0:=z.o.xb.cell 0;have a3:=z.o.xb.cell 3;simp only[kB,i9,kC]at a0 a3;have f1:=Au z.o.e8 HO1.o;rw[hcc]at a3;have f4:=Au z.o.e8 (HNU.o cc hcc2);have f5:=z.o.row.cellAt 0 sP;simp only[lu,lD,As,lK,i9]at f5;by_cases ah:Bb xs (e+1)=Bb xs cc
       . rw[ah]at f5;go_wp2_with fail;go_quiet ((go_at_call 65;exact Calls.quiet_of_same (HGO.o _)));refine AX (λu=>Ae (NW wr u x (sG g3 (0+1) cap3) ([]++[Bb xs (e+1)]))) (z.o.drew _) ?_;intro U4 HU4;have f2:=Au HU4.o.e8 HO2.o;have z2:=(Aw HT.o.o HU4.o.e8 lR).frozenAt (D.length*3+2);have HR:=HT.o.next rfl HM.o.1 HM.o.2.1 HM.o.2.2 HU4.o (by rw[Uq xs x e h1 h2 (by rw[hcn];exact ah)];rfl);exact Hr
       (have aA:(Bb xs (e+1) != Bb xs cc)=true:=by simpa using ah);go_wp2_with fail;go_quiet ((go_at_call 65;exact Calls.quiet_of_same (HGO.o _)));refine AX (λu=>Ae (NW wr u x (sG g3 (0+1) cap3) ([]++[Bb xs (e+1)]))) (z.o.drew _) ?_;intro U4 HU4;have a0:=HU4.o.xb.cell 0;have a3:=HU4.o.xb.cell 3;simp only[kB,i9,kC]at a0 a3;have f1:=Au HU4.o.e8 HO1.o;rw[hcc]at a3;have f4:=Au HU4.o.e8 (HNU.o cc hcc2);go_wp2_with (at_builtin;refine wpList_append_lies _ rfl _ _ 46 rfl wr 2 k0 (iZ 0) 1 8 underlying46 hk hx0 hx1 hx2 rfl dC _ (([]++[Bb xs (e+1)]):List Int).length (Ad As (([]++[Bb xs (e+1)]):List Int)) rfl (HU4.o.al (Ak #[(Bb xs cc)] 2)).1 U4 1 1 [(Bb xs cc)] rfl rfl (Bw U4 (Bb xs cc)) (λu hu=>by simp at hu;subst hu;rfl) oM (by simp[maxLen]) sP (HU4.o.al (Ak #[(Bb xs cc)] 2)).2 _ rfl ?_;intro g5 aH w5 hown hgrow hat hlt3;have HU5:Ae (NW wr w5 x (sG g5 ((([]++[Bb xs (e+1)]):List Int).length+1) aH) (([]++[Bb xs (e+1)])++[Bb xs cc])):=HU4.o.gX hown rfl hgrow;have f2:=Au HU5.o.e8 HO2.o;have z2:=(Aw HT.o.o HU5.o.e8 lR).frozenAt (D.length*3+2);clear hown hgrow hat hlt3);have HR:=HT.o.next rfl HM.o.1 HM.o.2.1 HM.o.2.2 HU5.o (by rw[Us xs x e h1 h2 (by rw[hcn];exact ah),hcn];rfl);exact Hr
     have HGO:Ae (∀u:Y,Ai Ap 65 #[x.op] u λe t=>e=Al false/\t=u):= λu=>by have:=Ci x u;rw[show A6 x=false from by simpa using h2]at this;exact this
     have a0:=z.o.xb.cell 0;have a3:=z.o.xb.cell 3;simp only[kB,i9,kC]at a0 a3;have f1:=Au z.o.e8 HO1.o;go_wp2_with fail;go_quiet ((go_at_call 65;exact Calls.quiet_of_same (HGO.o _)));(skip);refine AX (λu=>Ae (NW wr u x (sG g3 (0+1) cap3) ([]++[Bb xs (e+1)]))) (z.o.drew _) ?_;intro U4 HU4;have f2:=Au HU4.o.e8 HO2.o;have z2:=(Aw HT.o.o HU4.o.e8 lR).frozenAt (D.length*3+2);have HR:=HT.o.next rfl HM.o.1 HM.o.2.1 HM.o.2.2 HU4.o (by rw[Uu xs x e h1 h2];rfl);exact Hr
   by_cases C:x.op=25
   . (have h2:A6 x=true:=by simp[A6,C]);have HGO:Ae (∀u:Y,Ai Ap 65 #[iZ 25] u λe t=>e=Al true/\t=u):= λu=>by have:=Ci x u;rw[h2]at this;rw[C]at this;exact this
     obtain⟨ae,l⟩:=I.o.2.2 e x HM.o.2.2 h2;rw[y.o]at l;obtain⟨cc,hcc⟩:∃cc:Nat,x.c=(cc:Int):=⟨x.c.toNat,oM⟩;have hcc2:cc<k:=oM;have hcn:x.c.toNat=cc:=oM;have a0:=HU.o.xb.cell 0;have a3:=HU.o.xb.cell 3;simp only[kB,i9,kC]at a0 a3;rw[C]at a0;have f1:=Au HU.o.e8 HO1.o;rw[hcc]at a3;go_wp2_with fail;go_quiet ((go_at_call 65;exact Calls.quiet_of_same (HGO.o _)));refine AX (λu=>Ae (NW wr u x (Z (K ⟨(wr:Nat)+1,0,M⟩) 0 0) [])) (HU.o.drew _) ?_;intro U4 HU4;have a0:=HU4.o.xb.cell 0;have a3:=HU4.o.xb.cell 3;simp only[kB,i9,kC]at a0 a3;rw[C]at a0;exact Qr
   by_cases E:x.op=29
   . (have h2:¬A6 x=true:=by simp[A6,E]);have HGO:Ae (∀u:Y,Ai Ap 65 #[iZ 29] u λe t=>e=Al false/\t=u):= λu=>by have:=Ci x u;rw[show A6 x=false from by simpa using h2]at this;rw[E]at this;exact this
     have a0:=HU.o.xb.cell 0;have a3:=HU.o.xb.cell 3;simp only[kB,i9,kC]at a0 a3;rw[E]at a0;exact Qs
   (have r3:¬e+1<k:= λq=>h1 ⟨by simp[EO,C,E],by rw[y.o];exact q⟩);have bJ:¬(e:Int)+1<(k:Int):=oM;(have bg:(x.op==25)=false:=by simpa using C);(have bj:(x.op==29)=false:=by simpa using E);(have bi:(x.op != 25)=true:=by simpa using C);(have bo:(x.op != 29)=true:=by simpa using E);by_cases h2:A6 x=true
   . have HGO:Ae (∀u:Y,Ai Ap 65 #[x.op] u λe t=>e=Al true/\t=u):= λu=>by have:=Ci x u;rw[h2]at this;exact this
     obtain⟨ae,l⟩:=I.o.2.2 e x HM.o.2.2 h2;rw[y.o]at l;obtain⟨cc,hcc⟩:∃cc:Nat,x.c=(cc:Int):=⟨x.c.toNat,oM⟩;have hcc2:cc<k:=oM;have hcn:x.c.toNat=cc:=oM;have a0:=HU.o.xb.cell 0;have a3:=HU.o.xb.cell 3;simp only[kB,i9,kC]at a0 a3;have f1:=Au HU.o.e8 HO1.o;rw[hcc]at a3;go_wp2_with fail;go_quiet ((go_at_call 65;exact Calls.quiet_of_same (HGO.o _)));refine AX (λu=>Ae (NW wr u x (Z (K ⟨(wr:Nat)+1,0,M⟩) 0 0) [])) (HU.o.drew _) ?_;intro U4 HU4;have a0:=HU4.o.xb.cell 0;have a3:=HU4.o.xb.cell 3;simp only[kB,i9,kC]at a0 a3;exact Qr
   have HGO:Ae (∀u:Y,Ai Ap 65 #[x.op] u λe t=>e=Al false/\t=u):= λu=>by have:=Ci x u;rw[show A6 x=false from by simpa using h2]at this;exact this
   have a0:=HU.o.xb.cell 0;have a3:=HU.o.xb.cell 3;simp only[kB,i9,kC]at a0 a3;exact Qs
 have aI: ↑D=(Bq xs k).length:=oM
 have HE:=Av (HT.o.kv y.o aI);go_wp2;go_ret;exact⟨_,_,rfl,HE.o,.inr ⟨I.o,rfl⟩,HT.o.e8⟩
end Go.Proofs.YtmalfecapdmdbaaGreat
