import Derived.Test.YtjnglocdoljgkaaGreatSw5
namespace Go.Proofs.YtjnglocdoljgkaaGreat
open Go.ChangeShapes Go.WideShapes Go.ChangeAt Go.RowKit
set_option linter.unusedVariables false
open Go.Value renaming slice → Z
open Option renaming some → K,none → M
open Go renaming Value → J,World → Y,Calls → Ae
open Go.RowKit renaming Hid → Aa,Below → Ad
open Go.IntKind renaming i64 → Ab
set_option maxHeartbeats 4000000
set_option maxRecDepth 100000
theorem TV(xs:List MI)(x:MI)(e:Nat)(h1:DQ x=true/\e+1< ↑xs)(h2:¬AR x=true):DA xs x e=[A9 xs (e+1)]:=by unfold DA;simp only[lS h1,h2,false_and,if_false,nw];rfl
theorem TR(xs:List MI)(x:MI)(e:Nat)(h1:DQ x=true/\e+1< ↑xs)(h2:AR x=true)(h:A9 xs (e+1)=A9 xs x.c.toNat):DA xs x e=[A9 xs (e+1)]:=by unfold DA;simp only[lS h1];rw[lE (λq=>q.2.elim (λq=>by cases q) (λq=>q (by rw[h])))];rfl
theorem TT(xs:List MI)(x:MI)(e:Nat)(h1:DQ x=true/\e+1< ↑xs)(h2:AR x=true)(h:¬A9 xs (e+1)=A9 xs x.c.toNat):DA xs x e=[A9 xs (e+1),A9 xs x.c.toNat]:=by unfold DA;simp only[lS h1];rw[lS ⟨h2,.inr (λq=>h (by simpa using q))⟩];rfl
theorem TS(xs:List MI)(x:MI)(e:Nat)(h1:¬(DQ x=true/\e+1< ↑xs))(h2:AR x=true):DA xs x e=[A9 xs x.c.toNat]:=by unfold DA;simp only[lE h1];simp[h2]
theorem TU(xs:List MI)(x:MI)(e:Nat)(h1:¬(DQ x=true/\e+1< ↑xs))(h2:¬AR x=true):DA xs x e=[]:=by unfold DA;simp only[lE h1];simp[h2]
def Na(w:Y)(base:Nat)(V:J)(a:List MB):Prop:=∃D:List (MB×J),D.map Prod.fst=a/\w.ownsRow base 58 3 V a (D.flatMap Ct)/\∀x∈D,w.ownsRow base 2 1 x.2 x.1.next (x.1.next.flatMap Ah)
theorem Na.rd{w:Y}{base:Nat}{V:J}{a:List MB}(h:Na w base V a):Ic w V a:=by obtain⟨D,h1,h2,b⟩:=h;exact⟨D,h1,Rd.gM h2, λx e=>Rd.gM (b x e)⟩
theorem TW.kC{w u:Y}{xs:List MI}{n q:Nat}{V:J}{D:List (MB×J)}(h:TW w u xs n q V D)(b: ↑xs=n)(a: ↑D=(Bw xs n).length):Na u w V (At xs):=by
 have e:D.map Prod.fst=At xs:=by rw[h.done,a,lu lR];unfold At;rw[b]
 have f:(At xs).length=(Bw xs n).length:=by unfold At;rw[kW,b]
 refine⟨D,e,?_,h.rows⟩;have:=h.o;rw[a,nU lR]at this;rw[f];simpa using this
theorem Hm{q:Prop}(h:q:=by
 have HR':Aa _:=HR;go_wp2;go_roundw;case rel=>exact⟨D++[(DY xs m,_)],by simp only[kJ,kQ];omega,by simp only[kJ,kQ];go_num,HR'⟩
 simp[intOf];omega):q:=h
theorem Pw{q:Prop}(h:q:=by have f1:=Ak HU4.o.gG HO1.o;rw[hcc]at a3;have f4:=Ak HU4.o.gG (HNU.o cc hcc2);go_wp2_with (at_builtin;refine wpList_append_lies _ rfl _ _ 36 rfl wr 2 k0 (iZ 0) 1 8 Tryz.underlying36 hk hx0 hx1 hx2 rfl (by decide) _ ([]:List Int).length (([]:List Int).flatMap Ah) rfl (HU4.o.al (.cells #[iZ (A9 xs cc)] 2)).1 U4 1 1 [iZ (A9 xs cc)] rfl rfl (BP U4 (A9 xs cc)) (λu hu=>by simp at hu;subst hu;rfl) (by omega) (by simp[maxLen]) (by simp) (HU4.o.al (.cells #[iZ (A9 xs cc)] 2)).2 _ rfl ?_;intro g3 cap3 w3 hown hgrow hat hlt3;have HU5:Aa (NW wr w3 x (sG g3 (0+1) cap3) ([]++[A9 xs cc])):=HU4.o.gX hown rfl hgrow;have f2:=Ak HU5.o.gG HO2.o;have z2:=(Am HT.o.o HU5.o.gG lR).frozenAt (D.length*3+2);clear hown hgrow hat hlt3);have HR:=HT.o.next rfl HM.o.1 HM.o.2.1 HM.o.2.2 HU5.o (by rw[TS xs x e h1 h2,hcn];rfl);exact Hm):q:=h
theorem Px{q:Prop}(h:q:=by
 have f1:=Ak HU.o.gG HO1.o;go_wp2_with fail;go_quiet ((go_at_call 22;exact Calls.quiet_of_same (HGO.o _)));skip
 refine A3 (λu=>Aa (NW wr u x (Z (K ⟨(wr:Nat)+1,0,M⟩) 0 0) [])) (HU.o.drew _) ?_;intro U4 HU4;have f2:=Ak HU4.o.gG HO2.o;have z2:=(Am HT.o.o HU4.o.gG lR).frozenAt (D.length*3+2);have HR:=HT.o.next rfl HM.o.1 HM.o.2.1 HM.o.2.2 HU4.o (TU xs x e h1 h2).symm;exact Hm):q:=h
theorem Lz{q:Prop}(h:q:=by
 go_wp2;go_roundw;case rel=>exact⟨k+1,by omega,by go_num,HN⟩
 simp[intOf];omega):q:=h
theorem Lq(s:J)(xs:List MI)(w:Y)(hn:xs.length<=1048576)(h:Rd w 4 s xs (xs.flatMap MI.cells)):
 Ae Tryz.prog 36 #[s] w λe A=>∃V t,e=.returned V/\Na A w V t/\((¬AH xs/\t=[])\/AH xs/\t=At xs)/\Ad w w A:=by
 obtain⟨i0,hi,aY,aZ,bf⟩:=lU V7;obtain⟨j0,hj,aU,aW,aX⟩:=lU DL;obtain⟨k0,hk,hx0,hx1,hx2⟩:=lU Bt;have H:=Ap h;obtain⟨a1,c1,rfl⟩:=h.fu;have bA:=Ag w (.cells #[] 58);have BA:Aa (Ad w w (w.alloc (.cells #[] 58))/\Ar (w.alloc (.cells #[] 58)) w #[] 58):=⟨bA,Ar.new _ _ _⟩
 go_enter Tryz.func36,Tryz.ntmps36;go_wp2_with fail;refine(Qq (Z a1 xs c1) xs _ hn (H.o.bM bA lR)).mono ?_;rintro e u ⟨⟨b,rfl,hb⟩,rfl⟩;cases b
 . (have HN:Aa (¬AH xs):= λe=>absurd (hb.2 e) ms);go_wp2;go_ret;exact⟨_,[],rfl,⟨[],rfl,⟨rfl,.inr ⟨w,0,#[],rfl,Nat.le_refl _,BA.o.2,Nat.le_refl _,mu _,rfl,rfl⟩⟩, λx G=>by cases G⟩,.inl ⟨HN.o,rfl⟩,BA.o.1⟩
 have Q:=Ap (hb.1 rfl);clear hb;have aq:=Q.o.1;have aM:=Q.o.2.1;generalize ao:xs.length=n at hn H aq aM⊢;have B:=Ap ao;clear ao;have bI:¬((n:Int)+1)<0:=oM;go_wp2_with (at_make;refine mX _ rfl _ _ 56 rfl w 4 j0 (.bool false) 1 Tryz.underlying56 hj aU aW Ab Ab _ _ (n+1) rfl rfl (by go_num) (by go_num) (by rw[aX];omega) oX sP ?_;intro w1 hown hgrow;rw[Dz]at hown;simp only[nX]at hown;have y0:=hown.cellAt 0 oM;have y1:=hown.frozenAt 0;simp only[List.getElem?_replicate,Nat.zero_lt_succ,if_true]at y0);have z:Aa (SV w (w1.setCell ⟨(w:Nat)+1,0,M⟩ (.bool true)) xs n 0):=by have N:Ad (w.alloc (.cells #[] 58)).heap.size (w.alloc (.cells #[] 58)) w1:=(lQ _ _).grown hgrow lR (λk hk=>by cases hk);refine⟨?_,(BA.o.2.bM N).other oS _,(Ai BA.o.1 lR N).setCell oS _⟩;have:=(hown.stored 0 (.bool true)).1;rw[Qx xs n]at this;exact this
 clear hown hgrow y0 y1;go_wp2;go_loopw [6] (λi wr=>∃k:Nat,k<=n/\i=iZ k/\Aa (SV w wr xs n k)) (λi _=>n-(intOf i).toNat)
 case atStart=>exact⟨0,oM,rfl,z⟩
 obtain⟨k,bC,rfl,z⟩:=hrel;by_cases O:k<n
 . obtain⟨x,G⟩:∃x,xs[k]?=K x:=⟨_,an (by rw[B.o];exact O)⟩;have HX:=Ap G;rcases H.o.2 with⟨e0,_⟩|⟨g,o,c,F,y⟩
   . omega
   simp only[jc,lO]at F;obtain⟨rfl,rfl⟩:=F;have R:=Rd.elem MI.gH y k _ G 0 _ rfl;have x3:=Rd.elem MI.gH y k _ G 3 _ rfl;rw[kZ]at R;have aP:=jC R;simp only[]at aP;have bt:¬g= ↑w+1:=oM
   have bu:¬ ↑w+1=g:=oM
   rw[<-z.o.gG.cell (jC R)]at R;rw[<-z.o.gG.cell (jC x3)]at x3;have bG:(k:Int)<(n:Int):=oM;have z0:=z.o.lead.frozenAt (k+1);have d0:=z.o.lead.cellAt (k+1) oM;rw[Hc _ _ _ _ oM]at d0;go_wp2_with fail;refine(Co x _).mono ?_;rintro e u ⟨rfl,hu⟩;have a8:=hu.symm;subst a8;cases hgo:AR x
   . go_wp2_with fail;refine(Co x _).mono ?_;rintro e u ⟨rfl,hu⟩;have a8:=hu.symm;subst a8;rw[hgo];by_cases hr:x.op=29
     . have HN:Aa (SV w (wr.setCell ⟨(w:Nat)+1,k+1,M⟩ (.bool true)) xs n (k+1)):=z.o.set (k+1) (TL xs k n x HX.o hgo hr oM);exact Lz
     (have bJ:(x.op==29)=false:=by simpa using hr);have HN:Aa (SV w wr xs n (k+1)):=⟨by rw[<-Sp xs k n x HX.o hgo hr];exact z.o.lead,z.o.o,z.o.gG⟩;exact Lz
   obtain⟨ae,y⟩:=Q.o.2.2 k x HX.o hgo;rw[B.o]at y;obtain⟨cc,hcc⟩:∃cc:Nat,x.c=(cc:Int):=⟨x.c.toNat,oM⟩;have aD:=Ap hcc;rw[hcc]at x3 ae y;have z1:=z.o.lead.frozenAt cc;have d1:=z.o.lead.cellAt cc oM;rw[Hc _ _ _ _ oM]at d1;have HN:=Ap (z.o.k9 cc (k+1) (So xs k n cc x HX.o hgo aD.o oM oM));have S2:=(z.o.lead.stored cc (.bool true)).1;obtain⟨v2,aT⟩:∃v,((Dd xs k n).set cc (.bool true))[k+1]?=K v:=⟨_,an (by simp[Jf];omega)⟩;have d2:=S2.cellAt (k+1) oM;rw[aT]at d2;have z2:=S2.frozenAt (k+1);go_wp2_with fail;refine(Co x _).mono ?_;rintro e u ⟨rfl,hu⟩;have a8:=hu.symm;subst a8;rw[hgo];generalize wr.setCell ⟨w.heap.size+1,cc,M⟩ (.bool true)=W2 at d2 z2 HN⊢;exact Lz
 obtain rfl:k=n:=oM;have T:=Ap z.o;go_wp2_with (at_make;refine mX _ rfl _ _ 36 rfl w 2 k0 (iZ 0) 1 Tryz.underlying36 hk hx0 hx1 Ab Ab _ _ k rfl rfl rfl rfl (by rw[hx2];omega) oX T.o.gG.size ?_;intro w2 hown hgrow;rw[Jg k (Hh xs) (List.range k)]at hown);have l:Aa (SW w w2 xs k 0 wr (sG w 0 0)):=by have N:Ad wr wr w2:=(lQ _ _).grown hgrow lR (λk hk=>by cases hk);refine⟨Am T.o.lead N lR,hown,⟨rfl,.inr ⟨w,0,#[],rfl,Nat.le_refl _,T.o.o.bM N,Nat.le_refl _,mu _,rfl,rfl⟩⟩,Ai T.o.gG lR N⟩
 have HZ:=Ap T.o.o.lt;generalize wr.heap.size=q at l HZ⊢;go_wp2;go_loopw [3,8] (λv i wr=>∃j:Nat,j<=k/\i=iZ j/\Aa (SW w wr xs k j q v)) (λ_ i _=>k-(intOf i).toNat)
 case atStart=>exact⟨0,oM,rfl,l⟩
 obtain⟨j,bz,rfl,l⟩:=hrel;by_cases O:j<k
 . have bB:(j:Int)<(k:Int):=oM;have l0:=l.o.lead.cellAt j oM;rw[Hc _ _ _ _ oM]at l0;(have aE:Aa ((Bw xs j).length<=j):=by show(Bw xs j).length<=j;rw[BH];exact kT (mc _ _) sP);have aw:=aE.o;cases hld:BO xs k j
   .
    rw[hld]at l0;(have aj:¬BO xs xs j=true:=by rw[B.o,hld];exact ms);have aR:0<j:=by
     cases j with
     |zero=>exact absurd (Gz _ _) aj
     |succ j=>omega
    (have aA:Bw xs j≠[]:= λe=>IA xs j aR (lP (by rw[<-BH,e];rfl)));obtain⟨t,b,hM⟩:∃t b,Bw xs j=t++[b]:=⟨_,_,(List.dropLast_concat_getLast aA).symm⟩;(have ho:Bw xs (j+1)=t++[(⟨b.gK,(j:Int),b.next⟩:MB)]:=by simp only[Bw];rw[lE aj,hM,EM]);(have am:A9 xs j=(t:Int):=by have F:=BH xs (j+1);rw[ho]at F;simp only[kJ,kQ]at F;unfold A9;omega);have S:=l.o.o;rw[hM,kJ,kQ]at S aw;obtain⟨gg,cap,rfl⟩:∃g c,u3=sG g (t.length+1) c:=by
     rcases Bz S with⟨_,W⟩|W
     . omega
     exact W
    have HF:=Ap (SW.fin O l.o.lead l.o.num S l.o.gG ho am);have au:=NA S l.o.num dC;(have aQ:¬q=gg:= λe=>au e.symm);have n0:=l.o.num.cellAt j oM;have n1:=l.o.num.frozenAt j;have o0:=S.cellAt (t.length*3+1) oM;have o1:=S.frozenAt (t.length*3+1);rw[Gv _ _ _ _ _ O,lN (by rw[Au (Hh xs) 1 (DB xs),lj,mS];omega),show j-(List.flatMap (Hh xs) (List.take j (List.range k))).length=0 by rw[Au (Hh xs) 1 (DB xs),lj,mS];omega]at n0;simp only[lF,jt]at n0;rw[lJ,lN (by rw[Au Ku 3 Fh];omega),show ↑t*3+1-(List.flatMap Ku t).length=1 by rw[Au Ku 3 Fh];omega]at o0
    simp only[Ku,kX,lF,kI,jt]at o0;have em:((t:Int)+1-1)=(t:Int):=oM;have aI:t.length<1048576:=oM;go_wp2;go_roundw;(case rel=>exact⟨j+1,oM,by go_num,HF⟩);exact oI
   .
    rw[hld]at l0;(have aj:BO xs xs j=true:=by rw[B.o,hld]);(have ho:Bw xs (j+1)=Bw xs j++[(⟨(j:Int),(j:Int),[]⟩:MB)]:=by simp only[Bw];rw[lS aj,EM]);(have am:A9 xs j=((Bw xs j).length:Int):=by have F:=BH xs (j+1);rw[ho]at F;simp only[kJ,kQ]at F;unfold A9;omega);have HO:Aa (Bw xs (j+1)=Bw xs j++[(⟨(j:Int),(j:Int),[]⟩:MB)]/\A9 xs j=((Bw xs j).length:Int)):=⟨ho,am⟩
    have HC:Aa ((wr.alloc (.cells #[iZ j,iZ 0,sN] 58)).ownsRow w 58 3 u3 (Bw xs j).length ((Bw xs j).flatMap Ku)/\(∀i u,[(iZ j:J),iZ 0,sN][i]?=K u->(wr.alloc (.cells #[iZ j,iZ 0,sN] 58)).cell? ((⟨wr,0,M⟩:Addr).add i)=K u)/\ ↑w<=(wr.alloc (.cells #[iZ j,iZ 0,sN] 58)).heap.size):=by refine⟨Am l.o.o (Ag _ _) lR, λi u hu=> ?_,kT l.o.gG.size (Ag _ _).size⟩;rw[Da,lY,(Ar.new wr #[iZ j,iZ 0,sN] 58).cell i];simpa using hu
    have aI:(Bw xs j).length<1048576:=oM;have em:(((Bw xs j).length:Int)+1-1)=((Bw xs j).length:Int):=oM;go_wp2_with (at_builtin;refine wpList_append_lies _ rfl _ _ 42 rfl w 58 i0 (.agg #[iZ 0,iZ 0,sN]) 3 40 Tryz.underlying42 hi aY aZ bf rfl dC _ _ _ rfl HC.o.1 wr 1 1 [iZ j,iZ 0,sN] rfl rfl HC.o.2.1 (λu hu=>by simp at hu;rcases hu with rfl|rfl|rfl<;>rfl) oM oX oM HC.o.2.2 _ rfl ?_;intro gg cap w3 hown hgrow hat hlt3;have HN:=XF l.o HO.o.1 HO.o.2 O hown hgrow;obtain⟨HF,au,aQ,n0,n1,o0,o1⟩:=HN;clear hown hgrow hat hlt3);go_wp2;go_roundw;(case rel=>exact⟨j+1,oM,by go_num,HF⟩);exact oI
 obtain rfl:j=k:=oM;have aF:=Ap (TW.of l.o);have aw:(Bw xs j).length<=j:=by rw[BH];exact kT (mc _ _) sP
 have bH:0<(Bw xs j).length:=by rw[BH];exact nV.2 (IA xs j oM)
 obtain⟨gv,cap,rfl⟩:∃g c,u3=sG g (Bw xs j).length c:=by
  rcases Bz l.o.o with⟨_,W⟩|W
  . omega
  exact W
 obtain⟨k,aS⟩:∃k,k=j:=⟨_,rfl⟩;subst aS;go_wp2;go_loopw [9] (λi wr=>∃D:List (MB×J), ↑D<=(Bw xs k).length/\i=iZ (D:Nat)/\Aa (TW w wr xs k q (sG gv (Bw xs k).length cap) D)) (λi _=>(Bw xs k).length-(intOf i).toNat)
 case atStart=>exact⟨[],sP,rfl,aF⟩
 obtain⟨D,hD,rfl,HT⟩:=hrel;by_cases O: ↑D<(Bw xs k).length
 . obtain⟨m,hm⟩:∃m,(Bw xs k)[D.length]?=K m:=⟨_,an O⟩;obtain⟨e,he,aJ⟩:=Je xs k aq m (i8 hm);obtain⟨x,G⟩:∃x,xs[e]?=K x:=⟨_,an (by rw[B.o];exact aJ)⟩;have HM:Aa ((Bw xs k)[D.length]?=K m/\m.last=(e:Int)/\xs[e]?=K x):=⟨hm,he,G⟩
   have hA:(D.flatMap Ct).length= ↑D*3:=Au Ct 3 Bh D
   have o1:=HT.o.o.cellAt (D.length*3+1) oM;have o2:=HT.o.o.cellAt (D.length*3+2) oM;rw[lN oM,hA,nI,mv O,(iV.1 hm).2,kX]at o1 o2;simp only[Ku,lF,kI,jt,he]at o1 o2;rcases H.o.2 with⟨e0,_⟩|⟨g,o,c,F,y⟩
   . omega
   simp only[jc,lO]at F;obtain⟨rfl,rfl⟩:=F;have R:=Rd.elem MI.gH y e _ G 0 _ rfl;have x1:=Rd.elem MI.gH y e _ G 1 _ rfl;have x2:=Rd.elem MI.gH y e _ G 2 _ rfl;have x3:=Rd.elem MI.gH y e _ G 3 _ rfl;rw[<-HT.o.gG.cell (jC R),kZ]at R;rw[<-HT.o.gG.cell (jC x1)]at x1;rw[<-HT.o.gG.cell (jC x2)]at x2;rw[<-HT.o.gG.cell (jC x3)]at x3;have HO1:=Ap o1;have HO2:=Ap o2;(have HNU:Aa (∀p,p<k->wr.cell? ⟨q,p,M⟩=K (iZ (A9 xs p))):= λp hp=>by have:=HT.o.num.cellAt p oM;have e2:=Cr (Hh xs) 1 (DB xs) (List.range k) p 0 p (by simp[hp]) oM;rw[lr,kZ]at e2;rw[e2]at this;exact this);have bq:(D:Int)<((Bw xs k).length:Int):=oM;have br:(e:Int)<(k:Int):=oM;have bF:(k:Int)<=1024:=oM;(go_upto_region 27 with fail);refine An (λu=>Aa (NW wr u x (Z (K ⟨(wr:Nat)+1,0,M⟩) 0 0) [])) (NW.of wr x) ?_;intro U HU;by_cases h1:DQ x=true/\e+1< ↑xs
   . (have N:e+1<k:=by rw[<-B.o];exact h1.2);(have I:¬x.op=25:= λq=>by simp[DQ,q]at h1);(have L:¬x.op=29:= λq=>by simp[DQ,q]at h1);(have bg:(x.op==25)=false:=by simpa using I);(have bj:(x.op==29)=false:=by simpa using L);(have bi:(x.op != 25)=true:=by simpa using I);(have bp:(x.op != 29)=true:=by simpa using L);have r3:(e:Int)+1<(k:Int):=oM;have f:=HU.o.xb.cell 0;have a3:=HU.o.xb.cell 3;simp only[kL,jt,kI]at f a3;have f1:=Ak HU.o.gG HO1.o;have f3:=Ak HU.o.gG (HNU.o (e+1) N);go_wp2_with (at_builtin;refine wpList_append_lies _ rfl _ _ 36 rfl wr 2 k0 (iZ 0) 1 8 Tryz.underlying36 hk hx0 hx1 hx2 rfl dC _ ([]:List Int).length (([]:List Int).flatMap Ah) rfl (HU.o.al (.cells #[iZ (A9 xs (e+1))] 2)).1 U 1 1 [iZ (A9 xs (e+1))] rfl rfl (BP U (A9 xs (e+1))) (λu hu=>by simp at hu;subst hu;rfl) oM (by simp[maxLen]) sP (HU.o.al (.cells #[iZ (A9 xs (e+1))] 2)).2 _ rfl ?_;intro g3 cap3 w3 hown hgrow hat hlt3;have C:Aa (NW wr w3 x (sG g3 (0+1) cap3) ([]++[A9 xs (e+1)])):=HU.o.gX hown rfl hgrow;clear hown hgrow hat hlt3);by_cases h2:AR x=true
     . have HGO:Aa (∀u:Y,Ae Tryz.prog 22 #[iZ x.op] u λe A=>e=.returned (.bool true)/\A=u):= λu=>by have:=Co x u;rw[h2]at this;exact this
       obtain⟨ae,y⟩:=Q.o.2.2 e x HM.o.2.2 h2;rw[B.o]at y;obtain⟨cc,hcc⟩:∃cc:Nat,x.c=(cc:Int):=⟨x.c.toNat,oM⟩;have hcc2:cc<k:=oM;have hcn:x.c.toNat=cc:=oM;have f:=C.o.xb.cell 0;have a3:=C.o.xb.cell 3;simp only[kL,jt,kI]at f a3;have f1:=Ak C.o.gG HO1.o;rw[hcc]at a3;have f4:=Ak C.o.gG (HNU.o cc hcc2);have f5:=C.o.row.cellAt 0 sP;simp only[lg,kX,Ah,lF,jt]at f5;by_cases ah:A9 xs (e+1)=A9 xs cc
       . rw[ah]at f5;go_wp2_with fail;go_quiet ((go_at_call 22;exact Calls.quiet_of_same (HGO.o _)));refine A3 (λu=>Aa (NW wr u x (sG g3 (0+1) cap3) ([]++[A9 xs (e+1)]))) (C.o.drew _) ?_;intro U4 HU4;have f2:=Ak HU4.o.gG HO2.o;have z2:=(Am HT.o.o HU4.o.gG lR).frozenAt (D.length*3+2);have HR:=HT.o.next rfl HM.o.1 HM.o.2.1 HM.o.2.2 HU4.o (by rw[TR xs x e h1 h2 (by rw[hcn];exact ah)];rfl);exact Hm
       (have aA:(A9 xs (e+1) != A9 xs cc)=true:=by simpa using ah);go_wp2_with fail;go_quiet ((go_at_call 22;exact Calls.quiet_of_same (HGO.o _)));refine A3 (λu=>Aa (NW wr u x (sG g3 (0+1) cap3) ([]++[A9 xs (e+1)]))) (C.o.drew _) ?_;intro U4 HU4;have f:=HU4.o.xb.cell 0;have a3:=HU4.o.xb.cell 3;simp only[kL,jt,kI]at f a3;have f1:=Ak HU4.o.gG HO1.o;rw[hcc]at a3;have f4:=Ak HU4.o.gG (HNU.o cc hcc2);go_wp2_with (at_builtin;refine wpList_append_lies _ rfl _ _ 36 rfl wr 2 k0 (iZ 0) 1 8 Tryz.underlying36 hk hx0 hx1 hx2 rfl dC _ (([]++[A9 xs (e+1)]):List Int).length ((([]++[A9 xs (e+1)]):List Int).flatMap Ah) rfl (HU4.o.al (.cells #[iZ (A9 xs cc)] 2)).1 U4 1 1 [iZ (A9 xs cc)] rfl rfl (BP U4 (A9 xs cc)) (λu hu=>by simp at hu;subst hu;rfl) oM (by simp[maxLen]) sP (HU4.o.al (.cells #[iZ (A9 xs cc)] 2)).2 _ rfl ?_;intro g5 aG w5 hown hgrow hat hlt3;have HU5:Aa (NW wr w5 x (sG g5 ((([]++[A9 xs (e+1)]):List Int).length+1) aG) (([]++[A9 xs (e+1)])++[A9 xs cc])):=HU4.o.gX hown rfl hgrow;have f2:=Ak HU5.o.gG HO2.o;have z2:=(Am HT.o.o HU5.o.gG lR).frozenAt (D.length*3+2);clear hown hgrow hat hlt3);have HR:=HT.o.next rfl HM.o.1 HM.o.2.1 HM.o.2.2 HU5.o (by rw[TT xs x e h1 h2 (by rw[hcn];exact ah),hcn];rfl);exact Hm
     have HGO:Aa (∀u:Y,Ae Tryz.prog 22 #[iZ x.op] u λe A=>e=.returned (.bool false)/\A=u):= λu=>by have:=Co x u;rw[show AR x=false from by simpa using h2]at this;exact this
     have f:=C.o.xb.cell 0;have a3:=C.o.xb.cell 3;simp only[kL,jt,kI]at f a3;have f1:=Ak C.o.gG HO1.o;go_wp2_with fail;go_quiet ((go_at_call 22;exact Calls.quiet_of_same (HGO.o _)));(skip);refine A3 (λu=>Aa (NW wr u x (sG g3 (0+1) cap3) ([]++[A9 xs (e+1)]))) (C.o.drew _) ?_;intro U4 HU4;have f2:=Ak HU4.o.gG HO2.o;have z2:=(Am HT.o.o HU4.o.gG lR).frozenAt (D.length*3+2);have HR:=HT.o.next rfl HM.o.1 HM.o.2.1 HM.o.2.2 HU4.o (by rw[TV xs x e h1 h2];rfl);exact Hm
   by_cases I:x.op=25
   . (have h2:AR x=true:=by simp[AR,I]);have HGO:Aa (∀u:Y,Ae Tryz.prog 22 #[iZ 25] u λe A=>e=.returned (.bool true)/\A=u):= λu=>by have:=Co x u;rw[h2]at this;rw[I]at this;exact this
     obtain⟨ae,y⟩:=Q.o.2.2 e x HM.o.2.2 h2;rw[B.o]at y;obtain⟨cc,hcc⟩:∃cc:Nat,x.c=(cc:Int):=⟨x.c.toNat,oM⟩;have hcc2:cc<k:=oM;have hcn:x.c.toNat=cc:=oM;have f:=HU.o.xb.cell 0;have a3:=HU.o.xb.cell 3;simp only[kL,jt,kI]at f a3;rw[I]at f;have f1:=Ak HU.o.gG HO1.o;rw[hcc]at a3;go_wp2_with fail;go_quiet ((go_at_call 22;exact Calls.quiet_of_same (HGO.o _)));refine A3 (λu=>Aa (NW wr u x (Z (K ⟨(wr:Nat)+1,0,M⟩) 0 0) [])) (HU.o.drew _) ?_;intro U4 HU4;have f:=HU4.o.xb.cell 0;have a3:=HU4.o.xb.cell 3;simp only[kL,jt,kI]at f a3;rw[I]at f;exact Pw
   by_cases L:x.op=29
   . (have h2:¬AR x=true:=by simp[AR,L]);have HGO:Aa (∀u:Y,Ae Tryz.prog 22 #[iZ 29] u λe A=>e=.returned (.bool false)/\A=u):= λu=>by have:=Co x u;rw[show AR x=false from by simpa using h2]at this;rw[L]at this;exact this
     have f:=HU.o.xb.cell 0;have a3:=HU.o.xb.cell 3;simp only[kL,jt,kI]at f a3;rw[L]at f;exact Px
   (have r3:¬e+1<k:= λq=>h1 ⟨by simp[DQ,I,L],by rw[B.o];exact q⟩);have bK:¬(e:Int)+1<(k:Int):=oM;(have bg:(x.op==25)=false:=by simpa using I);(have bj:(x.op==29)=false:=by simpa using L);(have bi:(x.op != 25)=true:=by simpa using I);(have bp:(x.op != 29)=true:=by simpa using L);by_cases h2:AR x=true
   . have HGO:Aa (∀u:Y,Ae Tryz.prog 22 #[iZ x.op] u λe A=>e=.returned (.bool true)/\A=u):= λu=>by have:=Co x u;rw[h2]at this;exact this
     obtain⟨ae,y⟩:=Q.o.2.2 e x HM.o.2.2 h2;rw[B.o]at y;obtain⟨cc,hcc⟩:∃cc:Nat,x.c=(cc:Int):=⟨x.c.toNat,oM⟩;have hcc2:cc<k:=oM;have hcn:x.c.toNat=cc:=oM;have f:=HU.o.xb.cell 0;have a3:=HU.o.xb.cell 3;simp only[kL,jt,kI]at f a3;have f1:=Ak HU.o.gG HO1.o;rw[hcc]at a3;go_wp2_with fail;go_quiet ((go_at_call 22;exact Calls.quiet_of_same (HGO.o _)));refine A3 (λu=>Aa (NW wr u x (Z (K ⟨(wr:Nat)+1,0,M⟩) 0 0) [])) (HU.o.drew _) ?_;intro U4 HU4;have f:=HU4.o.xb.cell 0;have a3:=HU4.o.xb.cell 3;simp only[kL,jt,kI]at f a3;exact Pw
   have HGO:Aa (∀u:Y,Ae Tryz.prog 22 #[iZ x.op] u λe A=>e=.returned (.bool false)/\A=u):= λu=>by have:=Co x u;rw[show AR x=false from by simpa using h2]at this;exact this
   have f:=HU.o.xb.cell 0;have a3:=HU.o.xb.cell 3;simp only[kL,jt,kI]at f a3;exact Px
 have aH: ↑D=(Bw xs k).length:=oM
 have HE:=Ap (HT.o.kC B.o aH);go_wp2;go_ret;exact⟨_,_,rfl,HE.o,.inr ⟨Q.o,rfl⟩,HT.o.gG⟩
end Go.Proofs.YtjnglocdoljgkaaGreat
