import Derived.Test.YtjcamlobelcepaaGreatDoorCt12
namespace Go.Proofs.YtjcamlobelcepaaGreatDoor
open Go.ChangeShapes Go.WideShapes Go.ChangeAt Go.RowKit
set_option linter.unusedVariables false
set_option maxHeartbeats 4000000
set_option maxRecDepth 100000
theorem Q0(xs:List MI)(x:MI)(e:Nat)(h1:I6 x=true/\e+1<xs.length)(h2:¬Bj x=true):DH xs x e=[AN xs (e+1)]:=by
 unfold DH;simp only[bj h1,h2,false_and,if_false,dO];rfl
theorem QY(xs:List MI)(x:MI)(e:Nat)(h1:I6 x=true/\e+1<xs.length)(h2:Bj x=true)(h:AN xs (e+1)=AN xs x.c.toNat):DH xs x e=[AN xs (e+1)]:=by
 unfold DH;simp only[bj h1];rw[bX (fun q=>q.2.elim (fun q=>by cases q) (fun q=>q (by rw[h])))];rfl
theorem QZ(xs:List MI)(x:MI)(e:Nat)(h1:I6 x=true/\e+1<xs.length)(h2:Bj x=true)(h:¬AN xs (e+1)=AN xs x.c.toNat):DH xs x e=[AN xs (e+1),AN xs x.c.toNat]:=by
 unfold DH;simp only[bj h1];rw[bj ⟨h2,.inr (fun q=>h (by simpa using q))⟩];rfl
theorem Nk(xs:List MI)(x:MI)(e:Nat)(h1:¬(I6 x=true/\e+1<xs.length))(h2:Bj x=true):DH xs x e=[AN xs x.c.toNat]:=by
 unfold DH;simp only[bX h1];simp[h2]
theorem Nl(xs:List MI)(x:MI)(e:Nat)(h1:¬(I6 x=true/\e+1<xs.length))(h2:¬Bj x=true):DH xs x e=[]:=by
 unfold DH;simp only[bX h1];simp[h2]
def Lv(w:World)(base:Nat)(V:Value)(bs:List MB):Prop:=∃D:List (MB×Value),D.map Prod.fst=bs/\w.ownsRow base 169 3 V bs.length (D.flatMap Et)/\∀x∈D,w.ownsRow base 2 1 x.2 x.1.next.length (x.1.next.flatMap Ac)
theorem Lv.rd{w:World}{base:Nat}{V:Value}{bs:List MB}(h:Lv w base V bs):Jt w V bs:=by
 obtain⟨D,h1,h2,h3⟩:=h;exact⟨D,h1,Rd.of_own h2,fun x hx=>Rd.of_own (h3 x hx)⟩
theorem TW.owbs{w u:World}{xs:List MI}{n q:Nat}{V:Value}{D:List (MB×Value)}(h:TW w u xs n q V D)(hn:xs.length=n)(hl:D.length=(Bi xs n).length):Lv u w.heap.size V (AE xs):=by
 have e1:D.map Prod.fst=AE xs:=by
  rw[h.done,hl,bg lR];unfold AE;rw[hn]
 have e2:(AE xs).length=(Bi xs n).length:=by unfold AE;rw[bB,hn]
 refine⟨D,e1,?_,h.rows⟩;have:=h.o;rw[hl,eS lR]at this;rw[e2];simpa using this
theorem Ka (s : Value)(xs:List MI)(w:World)(hn:xs.length<=1048576)(h:Rd w 4 s xs.length (xs.flatMap MI.cells)):
 Calls Tryz.prog 126 #[s] w fun e w'=>∃V bs,e=.returned V/\Lv w' w.heap.size V bs/\((¬Be xs/\bs=[])\/Be xs/\bs=AE xs)/\Below w.heap.size w w':=by
 obtain⟨i0,hi,hz0,hz1,hz2⟩:=bJ T0;obtain⟨j0,hj,hy0,hy1,hy2⟩:=bJ Dv;obtain⟨k0,hk,hx0,hx1,hx2⟩:=bJ CF;have H:=Af h;obtain⟨a1,c1,rfl⟩:=h.is_slice;have bA:=Aa w (.cells #[] 169);have BA:Hid (Below w.heap.size w (w.alloc (.cells #[] 169))/\Ap (w.alloc (.cells #[] 169)) w.heap.size #[] 169):=⟨bA,Ap.new _ _ _⟩
 go_enter Tryz.func126,Tryz.ntmps126;go_wp2_with fail
 refine(N6 (.slice a1 xs.length c1) xs _ hn (H.o.keep bA lR)).mono ?_;rintro e u ⟨⟨b,rfl,hb⟩,rfl⟩;cases b
 . have HN:Hid (¬Be xs):=fun e=>absurd (hb.2 e) dG
   go_wp2
   go_ret
   exact⟨_,[],rfl,⟨[],rfl,⟨rfl,.inr ⟨w.heap.size,0,#[],rfl,Nat.le_refl _,BA.o.2,Nat.le_refl _,cU _,rfl,rfl⟩⟩,fun x hx=>by cases hx⟩,.inl ⟨HN.o,rfl⟩,BA.o.1⟩
 have HG:=Af (hb.1 rfl);clear hb;have hg1:=HG.o.1;have hg2:=HG.o.2.1;generalize hLL:xs.length=n at hn H hg1 hg2⊢;have HL:=Af hLL;clear hLL;have hn1:¬((n:Int)+1)<0:=by omega
 go_wp2_with (at_make;refine bu _ rfl _ _ 159 rfl w.heap.size 4 j0 (.bool false) 1 Tryz.underlying159 hj hy0 hy1 .i64 .i64 _ _ (n+1) rfl rfl (by go_num) (by go_num) (by rw[hy2];omega) (by unfold maxLen;omega) (by simp) ?_;intro w1 hown hgrow;rw[Dj]at hown;simp only[dC]at hown;have y0:=hown.cellAt 0 (by omega);have y1:=hown.frozenAt 0;simp only[List.getElem?_replicate,Nat.zero_lt_succ,if_true]at y0)
 have HV:Hid (SV w (w1.setCell ⟨w.heap.size+1,0,none⟩ (.bool true)) xs n 0):=by
  have hb1:Below (w.alloc (.cells #[] 169)).heap.size (w.alloc (.cells #[] 169)) w1:=(aq _ _).grown hgrow lR (fun k hk=>by cases hk);refine⟨?_,(BA.o.2.keep hb1).other (by simp only[];omega) _,(Ab BA.o.1 lR hb1).setCell (by simp only[];omega) _⟩;have:=(hown.stored 0 (.bool true)).1;rw[Od xs n]at this;exact this
 clear hown hgrow y0 y1;go_wp2
 go_loopw [6] (fun i wr=>∃k:Nat,k<=n/\i=iZ k/\Hid (SV w wr xs n k)) (fun i _=>n-(intOf i).toNat)
 case atStart=>exact⟨0,by omega,rfl,HV⟩
 case round =>
  obtain⟨k,hk',rfl,HV⟩:=hrel;by_cases hlt:k<n
  . obtain⟨x,hx⟩:∃x,xs[k]?=some x:=⟨_,aA (by rw[HL.o];exact hlt)⟩
    have HX:=Af hx;rcases H.o.2 with⟨e0,_⟩|⟨g,o,c,e1,hc1⟩
    . omega
    simp only[aI,ao]at e1;obtain⟨rfl,rfl⟩:=e1;have x0:=Rd.elem MI.cells_length hc1 k _ hx 0 _ rfl;have x3:=Rd.elem MI.cells_length hc1 k _ hx 3 _ rfl;rw[aT]at x0;have hglt:=aD x0;simp only[]at hglt;have hgne:¬g=w.heap.size+1:=by omega
    have hgne':¬w.heap.size+1=g:=by omega
    rw[<-HV.o.bel.cell (aD x0)]at x0;rw[<-HV.o.bel.cell (aD x3)]at x3;have hkL:(k:Int)<(n:Int):=by omega
    have z0:=HV.o.lead.frozenAt (k+1);have d0:=HV.o.lead.cellAt (k+1) (by omega);rw[Gl _ _ _ _ (by omega)]at d0;go_wp2_with fail
    refine(Cl x _).mono ?_;rintro e u ⟨rfl,hu⟩;have hu2:=hu.symm;subst hu2;cases hgo:Bj x
    . go_wp2_with fail
      refine(Cl x _).mono ?_;rintro e u ⟨rfl,hu⟩;have hu2:=hu.symm;subst hu2;rw[hgo];by_cases hr:x.op=29
      . have HN:Hid (SV w (wr.setCell ⟨w.heap.size+1,k+1,none⟩ (.bool true)) xs n (k+1)):=HV.o.set (k+1) (QV xs k n x HX.o hgo hr (by omega))
        go_wp2
        go_roundw
        case rel=>exact⟨k+1,by omega,by go_num,HN⟩
        case measure=>simp[intOf];omega
      . have hr':(x.op==29)=false:=by simpa using hr
        have HN:Hid (SV w wr xs n (k+1)):=⟨by rw[<-PL xs k n x HX.o hgo hr];exact HV.o.lead,HV.o.o,HV.o.bel⟩;go_wp2;go_roundw
        case rel=>exact⟨k+1,by omega,by go_num,HN⟩
        case measure=>simp[intOf];omega
    . obtain⟨hc0,hc1⟩:=HG.o.2.2 k x HX.o hgo
      rw[HL.o]at hc1;obtain⟨cc,hcc⟩:∃cc:Nat,x.c=(cc:Int):=⟨x.c.toNat,by omega⟩;have HCC:=Af hcc;rw[hcc]at x3 hc0 hc1;have z1:=HV.o.lead.frozenAt cc;have d1:=HV.o.lead.cellAt cc (by omega);rw[Gl _ _ _ _ (by omega)]at d1;have HN:=Af (HV.o.set2 cc (k+1) (PK xs k n cc x HX.o hgo HCC.o (by omega) (by omega)));have S2:=(HV.o.lead.stored cc (.bool true)).1;obtain⟨v2,hv2⟩:∃v,((CN xs k n).set cc (.bool true))[k+1]?=some v:=⟨_,aA (by simp[Ic];omega)⟩;have d2:=S2.cellAt (k+1) (by omega);rw[hv2]at d2;have z2:=S2.frozenAt (k+1);go_wp2_with fail;refine(Cl x _).mono ?_;rintro e u ⟨rfl,hu⟩;have hu2:=hu.symm;subst hu2;rw[hgo];generalize wr.setCell ⟨w.heap.size+1,cc,none⟩ (.bool true)=W2 at d2 z2 HN⊢;go_wp2;go_roundw
      case rel=>exact⟨k+1,by omega,by go_num,HN⟩
      case measure=>simp[intOf];omega
  . obtain rfl:k=n:=by omega
    have HV0:=Af HV.o;go_wp2_with (at_make;refine bu _ rfl _ _ 47 rfl w.heap.size 2 k0 (iZ 0) 1 Tryz.underlying47 hk hx0 hx1 .i64 .i64 _ _ k rfl rfl rfl rfl (by rw[hx2];omega) (by unfold maxLen;omega) HV0.o.bel.size ?_;intro w2 hown hgrow;rw[JX k (Gs xs) (List.range k)]at hown)
    have HW:Hid (SW w w2 xs k 0 wr.heap.size (sG w.heap.size 0 0)):=by
     have hb1:Below wr.heap.size wr w2:=(aq _ _).grown hgrow lR (fun k hk=>by cases hk);refine⟨Ah HV0.o.lead hb1 lR,hown,⟨rfl,.inr ⟨w.heap.size,0,#[],rfl,Nat.le_refl _,HV0.o.o.keep hb1,Nat.le_refl _,cU _,rfl,rfl⟩⟩,Ab HV0.o.bel lR hb1⟩
    have HZ:=Af HV0.o.o.lt;generalize wr.heap.size=q at HW HZ⊢;go_wp2
    go_loopw [3,8] (fun v i wr=>∃j:Nat,j<=k/\i=iZ j/\Hid (SW w wr xs k j q v)) (fun _ i _=>k-(intOf i).toNat)
    case atStart=>exact⟨0,by omega,rfl,HW⟩
    case round=>
     obtain⟨j,hj',rfl,HW⟩:=hrel;by_cases hlt:j<k
     . have hjL:(j:Int)<(k:Int):=by omega
       have l0:=HW.o.lead.cellAt j (by omega);rw[Gl _ _ _ _ (by omega)]at l0
       have HLN:Hid ((Bi xs j).length<=j):=by
        show(Bi xs j).length<=j;rw[Ch];exact aR (cT _ _) (by simp)
       have hln:=HLN.o;cases hld:BN xs k j
       .
        rw[hld]at l0;have hld':¬BN xs xs.length j=true:=by rw[HL.o,hld];exact dG
        have hj0:0<j:=by
         cases j with
         |zero=>exact absurd (Hn _ _) hld'
         |succ j=>omega
        have hne:Bi xs j≠[]:=fun e=>JS xs j hj0 (bx (by rw[<-Ch,e];rfl))
        obtain⟨bs,b,hM⟩:∃bs b,Bi xs j=bs++[b]:=⟨_,_,(List.dropLast_concat_getLast hne).symm⟩
        have ho:Bi xs (j+1)=bs++[(⟨b.first,(j:Int),b.next⟩:MB)]:=by
         simp only[Bi];rw[bX hld',hM,Eh]
        have hnum:AN xs j=(bs.length:Int):=by
         have e1:=Ch xs (j+1);rw[ho]at e1;simp only[aH,aP]at e1;unfold AN;omega
        have hout:=HW.o.o;rw[hM,aH,aP]at hout hln
        obtain⟨gg,cap,rfl⟩:∃g c,u3=sG g (bs.length+1) c:=by
         rcases Ci hout with⟨_,h0⟩|h0
         . omega
         . exact h0
        have HF:=Af (SW.fin hlt HW.o.lead HW.o.num hout HW.o.bel ho hnum);have hgq:=Oy hout HW.o.num (by decide);have hgq':¬q=gg:=fun e=>hgq e.symm
        have n0:=HW.o.num.cellAt j (by omega);have n1:=HW.o.num.frozenAt j;have o0:=hout.cellAt (bs.length*3+1) (by omega);have o1:=hout.frozenAt (bs.length*3+1);rw[Fz _ _ _ _ _ hlt,bH (by rw[Aq (Gs xs) 1 (Dk xs),b9,br];omega),show j-(List.flatMap (Gs xs) (List.take j (List.range k))).length=0 by rw[Aq (Gs xs) 1 (Dk xs),b9,br];omega]at n0;simp only[bK,aJ]at n0;rw[a8,bH (by rw[Aq Ke 3 Eu];omega),show bs.length*3+1-(List.flatMap Ke bs).length=1 by rw[Aq Ke 3 Eu];omega]at o0;simp only[Ke,am,bK,aL,aJ]at o0;have em:((bs.length:Int)+1-1)=(bs.length:Int):=by omega
        have hbl:bs.length<1048576:=by omega
        go_wp2
        go_roundw
        case rel=>exact⟨j+1,by omega,by go_num,HF⟩
        case measure=>simp[intOf];omega
       .
        rw[hld]at l0;have hld':BN xs xs.length j=true:=by rw[HL.o,hld]
        have ho:Bi xs (j+1)=Bi xs j++[(⟨(j:Int),(j:Int),[]⟩:MB)]:=by
         simp only[Bi];rw[bj hld',Eh]
        have hnum:AN xs j=((Bi xs j).length:Int):=by
         have e1:=Ch xs (j+1);rw[ho]at e1;simp only[aH,aP]at e1;unfold AN;omega
        have HO:Hid (Bi xs (j+1)=Bi xs j++[(⟨(j:Int),(j:Int),[]⟩:MB)]/\AN xs j=((Bi xs j).length:Int)):=⟨ho,hnum⟩
        have HC:Hid ((wr.alloc (.cells #[iZ j,iZ 0,sN] 169)).ownsRow w.heap.size 169 3 u3 (Bi xs j).length ((Bi xs j).flatMap Ke)/\(∀i u,[(iZ j:Value),iZ 0,sN][i]?=some u->(wr.alloc (.cells #[iZ j,iZ 0,sN] 169)).cell? ((⟨wr.heap.size,0,none⟩:Addr).add i)=some u)/\w.heap.size<=(wr.alloc (.cells #[iZ j,iZ 0,sN] 169)).heap.size):=by
         refine⟨Ah HW.o.o (Aa _ _) lR,fun i u hu=> ?_,aR HW.o.bel.size (Aa _ _).size⟩;rw[Ds,bV,(Ap.new wr #[iZ j,iZ 0,sN] 169).cell i];simpa using hu
        have hbl:(Bi xs j).length<1048576:=by omega
        have em:(((Bi xs j).length:Int)+1-1)=((Bi xs j).length:Int):=by omega
        go_wp2_with (at_builtin;refine wpList_append_lies _ rfl _ _ 160 rfl w.heap.size 169 i0 (.agg #[iZ 0,iZ 0,sN]) 3 40 Tryz.underlying160 hi hz0 hz1 hz2 rfl (by decide) _ _ _ rfl HC.o.1 ⟨wr.heap.size,0,none⟩ 1 1 [iZ j,iZ 0,sN] rfl rfl HC.o.2.1 (fun u hu=>by simp at hu;rcases hu with rfl|rfl|rfl<;>rfl) (by omega) (by unfold maxLen;omega) (by omega) HC.o.2.2 _ rfl ?_;intro gg cap w3 hown hgrow hat hlt3;have HN:=TR HW.o HO.o.1 HO.o.2 hlt hown hgrow;obtain⟨HF,hgq,hgq',n0,n1,o0,o1⟩:=HN;clear hown hgrow hat hlt3)
        go_wp2
        go_roundw
        case rel=>exact⟨j+1,by omega,by go_num,HF⟩
        case measure=>simp[intOf];omega
     . obtain rfl :j=k:=by omega
       have HT0:=Af (TW.of HW.o)
       have hln:(Bi xs j).length<=j:=by
        rw[Ch];exact aR (cT _ _) (by simp)
       have hlp:0<(Bi xs j).length:=by
        rw[Ch];exact dw.2 (JS xs j (by omega))
       obtain⟨gv,cap,rfl⟩:∃g c,u3=sG g (Bi xs j).length c:=by
        rcases Ci HW.o.o with⟨_,h0⟩|h0
        . omega
        . exact h0
       obtain⟨k,hkj⟩:∃k,k=j:=⟨_,rfl⟩;subst hkj;go_wp2
       go_loopw [9] (fun i wr=>∃D:List (MB×Value),D.length<=(Bi xs k).length/\i=iZ (D.length:Nat)/\Hid (TW w wr xs k q (sG gv (Bi xs k).length cap) D)) (fun i _=>(Bi xs k).length-(intOf i).toNat)
       case atStart=>exact⟨[],by simp,rfl,HT0⟩
       case round =>
        obtain⟨D,hD,rfl,HT⟩:=hrel;by_cases hlt:D.length<(Bi xs k).length
        . obtain ⟨m,hm⟩:∃m,(Bi xs k)[D.length]?=some m:=⟨_,aA hlt⟩
          obtain⟨e,he,hek⟩:=QT xs k hg1 m (aF hm);obtain⟨x,hx⟩:∃x,xs[e]?=some x:=⟨_,aA (by rw[HL.o];exact hek)⟩;have HM:Hid ((Bi xs k)[D.length]?=some m/\m.last=(e:Int)/\xs[e]?=some x):=⟨hm,he,hx⟩
          have hA:(D.flatMap Et).length=D.length*3:=Aq Et 3 Bl D;have o1:=HT.o.o.cellAt (D.length*3+1) (by omega);have o2:=HT.o.o.cellAt (D.length*3+2) (by omega);rw[bH (by omega),hA,df,dt hlt,(aE.1 hm).2,am]at o1 o2;simp only[Ke,bK,aL,aJ,he]at o1 o2;rcases H.o.2 with⟨e0,_⟩|⟨g,o,c,e1,hc1⟩
          . omega
          simp only[aI,ao]at e1;obtain⟨rfl,rfl⟩:=e1;have x0:=Rd.elem MI.cells_length hc1 e _ hx 0 _ rfl;have x1:=Rd.elem MI.cells_length hc1 e _ hx 1 _ rfl;have x2:=Rd.elem MI.cells_length hc1 e _ hx 2 _ rfl;have x3:=Rd.elem MI.cells_length hc1 e _ hx 3 _ rfl;rw[<-HT.o.bel.cell (aD x0),aT]at x0;rw[<-HT.o.bel.cell (aD x1)]at x1;rw[<-HT.o.bel.cell (aD x2)]at x2;rw[<-HT.o.bel.cell (aD x3)]at x3;have HO1:=Af o1;have HO2:=Af o2
          have HNU:Hid (∀p,p<k->wr.cell? ⟨q,p,none⟩=some (iZ (AN xs p))):=fun p hp=>by
           have:=HT.o.num.cellAt p (by omega);have e2:=C8 (Gs xs) 1 (Dk xs) (List.range k) p 0 p (by simp[hp]) (by omega);rw[bR,aT]at e2;rw[e2]at this;exact this
          have hdl:(D.length:Int)<((Bi xs k).length:Int):=by omega
          have hel:(e:Int)<(k:Int):=by omega
          have hk2:(k:Int)<=1024:=by omega
          go_upto_region 27 with fail
          refine An (fun u=>Hid (NW wr u x (.slice (some ⟨wr.heap.size+1,0,none⟩) 0 0) [])) (NW.of wr x) ?_;intro U HU;by_cases h1:I6 x=true/\e+1<xs.length
          . have hb1:e+1<k:=by rw[<-HL.o];exact h1.2
            have r1:¬x.op=25:=fun q=>by simp[I6,q]at h1
            have r2:¬x.op=29:=fun q=>by simp[I6,q]at h1
            have r1':(x.op==25)=false:=by simpa using r1
            have r2':(x.op==29)=false:=by simpa using r2
            have r1n:(x.op != 25)=true:=by simpa using r1
            have r2n:(x.op != 29)=true:=by simpa using r2
            have r3:(e:Int)+1<(k:Int):=by omega
            have a0:=HU.o.xb.cell 0;have a3:=HU.o.xb.cell 3;simp only[aQ,aJ,aL]at a0 a3;have f1:=Ad HU.o.bel HO1.o;have f3:=Ad HU.o.bel (HNU.o (e+1) hb1);go_wp2_with (at_builtin;refine wpList_append_lies _ rfl _ _ 47 rfl wr.heap.size 2 k0 (iZ 0) 1 8 Tryz.underlying47 hk hx0 hx1 hx2 rfl (by decide) _ ([]:List Int).length (([]:List Int).flatMap Ac) rfl (HU.o.al (.cells #[iZ (AN xs (e+1))] 2)).1 ⟨U.heap.size,0,none⟩ 1 1 [iZ (AN xs (e+1))] rfl rfl (Cx U (AN xs (e+1))) (fun u hu=>by simp at hu;subst hu;rfl) (by omega) (by simp[maxLen]) (by simp) (HU.o.al (.cells #[iZ (AN xs (e+1))] 2)).2 _ rfl ?_;intro g3 cap3 w3 hown hgrow hat hlt3;have HU3:Hid (NW wr w3 x (sG g3 (0+1) cap3) ([]++[AN xs (e+1)])):=HU.o.app hown rfl hgrow;clear hown hgrow hat hlt3);by_cases h2:Bj x=true
            . have HGO:Hid (∀u:World,Calls Tryz.prog 144 #[iZ x.op] u fun e w'=>e=.returned (.bool true)/\w'=u):=fun u=>by have:=Cl x u;rw[h2]at this;exact this
              obtain⟨hc0,hc1⟩:=HG.o.2.2 e x HM.o.2.2 h2;rw[HL.o]at hc1;obtain⟨cc,hcc⟩:∃cc:Nat,x.c=(cc:Int):=⟨x.c.toNat,by omega⟩;have hcc2:cc<k:=by omega
              have hcn:x.c.toNat=cc:=by omega
              have a0:=HU3.o.xb.cell 0;have a3:=HU3.o.xb.cell 3;simp only[aQ,aJ,aL]at a0 a3;have f1:=Ad HU3.o.bel HO1.o;rw[hcc]at a3;have f4:=Ad HU3.o.bel (HNU.o cc hcc2);have f5:=HU3.o.row.cellAt 0 (by simp);simp only[ba,am,Ac,bK,aJ]at f5;by_cases heq:AN xs (e+1)=AN xs cc
              . rw[heq]at f5
                go_wp2_with fail
                go_quiet ((go_at_call 144;exact Calls.quiet_of_same (HGO.o _)))
                refine AQ (fun u=>Hid (NW wr u x (sG g3 (0+1) cap3) ([]++[AN xs (e+1)]))) (HU3.o.drew _) ?_;intro U4 HU4;have f2:=Ad HU4.o.bel HO2.o;have z2:=(Ah HT.o.o HU4.o.bel lR).frozenAt (D.length*3+2);have HR:=HT.o.next rfl HM.o.1 HM.o.2.1 HM.o.2.2 HU4.o (by rw[QY xs x e h1 h2 (by rw[hcn];exact heq)];rfl);have HR':Hid _:=HR;go_wp2;go_roundw
                case rel=>exact⟨D++[(DB xs m,_)],by simp only[aH,aP];omega,by simp only[aH,aP];go_num,HR'⟩
                case measure=>simp[intOf];omega
              . have hne:(AN xs (e+1) != AN xs cc)=true:=by simpa using heq
                go_wp2_with fail
                go_quiet ((go_at_call 144;exact Calls.quiet_of_same (HGO.o _)))
                refine AQ (fun u=>Hid (NW wr u x (sG g3 (0+1) cap3) ([]++[AN xs (e+1)]))) (HU3.o.drew _) ?_;intro U4 HU4;have a0:=HU4.o.xb.cell 0;have a3:=HU4.o.xb.cell 3;simp only[aQ,aJ,aL]at a0 a3;have f1:=Ad HU4.o.bel HO1.o;rw[hcc]at a3;have f4:=Ad HU4.o.bel (HNU.o cc hcc2);go_wp2_with (at_builtin;refine wpList_append_lies _ rfl _ _ 47 rfl wr.heap.size 2 k0 (iZ 0) 1 8 Tryz.underlying47 hk hx0 hx1 hx2 rfl (by decide) _ (([]++[AN xs (e+1)]):List Int).length ((([]++[AN xs (e+1)]):List Int).flatMap Ac) rfl (HU4.o.al (.cells #[iZ (AN xs cc)] 2)).1 ⟨U4.heap.size,0,none⟩ 1 1 [iZ (AN xs cc)] rfl rfl (Cx U4 (AN xs cc)) (fun u hu=>by simp at hu;subst hu;rfl) (by omega) (by simp[maxLen]) (by simp) (HU4.o.al (.cells #[iZ (AN xs cc)] 2)).2 _ rfl ?_;intro g5 cap5 w5 hown hgrow hat hlt3;have HU5:Hid (NW wr w5 x (sG g5 ((([]++[AN xs (e+1)]):List Int).length+1) cap5) (([]++[AN xs (e+1)])++[AN xs cc])):=HU4.o.app hown rfl hgrow;have f2:=Ad HU5.o.bel HO2.o;have z2:=(Ah HT.o.o HU5.o.bel lR).frozenAt (D.length*3+2);clear hown hgrow hat hlt3);have HR:=HT.o.next rfl HM.o.1 HM.o.2.1 HM.o.2.2 HU5.o (by rw[QZ xs x e h1 h2 (by rw[hcn];exact heq),hcn];rfl);have HR':Hid _:=HR;go_wp2
                go_roundw
                case rel=>exact⟨D++[(DB xs m,_)],by simp only[aH,aP];omega,by simp only[aH,aP];go_num,HR'⟩
                case measure=>simp[intOf];omega
            . have HGO:Hid (∀u:World,Calls Tryz.prog 144 #[iZ x.op] u fun e w'=>e=.returned (.bool false)/\w'=u):=fun u=>by have:=Cl x u;rw[show Bj x=false from by simpa using h2]at this;exact this
              have a0:=HU3.o.xb.cell 0;have a3:=HU3.o.xb.cell 3;simp only[aQ,aJ,aL]at a0 a3;have f1:=Ad HU3.o.bel HO1.o;go_wp2_with fail
              go_quiet ((go_at_call 144;exact Calls.quiet_of_same (HGO.o _)))
              skip
              refine AQ (fun u=>Hid (NW wr u x (sG g3 (0+1) cap3) ([]++[AN xs (e+1)]))) (HU3.o.drew _) ?_;intro U4 HU4;have f2:=Ad HU4.o.bel HO2.o;have z2:=(Ah HT.o.o HU4.o.bel lR).frozenAt (D.length*3+2);have HR:=HT.o.next rfl HM.o.1 HM.o.2.1 HM.o.2.2 HU4.o (by rw[Q0 xs x e h1 h2];rfl);have HR':Hid _:=HR;go_wp2;go_roundw
              case rel=>exact⟨D++[(DB xs m,_)],by simp only[aH,aP];omega,by simp only[aH,aP];go_num,HR'⟩
              case measure=>simp[intOf];omega
          . by_cases r1:x.op=25
            . have h2:Bj x=true:=by simp[Bj,r1]
              have HGO:Hid (∀u:World,Calls Tryz.prog 144 #[iZ 25] u fun e w'=>e=.returned (.bool true)/\w'=u):=fun u=>by have:=Cl x u;rw[h2]at this;rw[r1]at this;exact this
              obtain⟨hc0,hc1⟩:=HG.o.2.2 e x HM.o.2.2 h2;rw[HL.o]at hc1;obtain⟨cc,hcc⟩:∃cc:Nat,x.c=(cc:Int):=⟨x.c.toNat,by omega⟩;have hcc2:cc<k:=by omega
              have hcn:x.c.toNat=cc:=by omega
              have a0:=HU.o.xb.cell 0;have a3:=HU.o.xb.cell 3;simp only[aQ,aJ,aL]at a0 a3;rw[r1]at a0;have f1:=Ad HU.o.bel HO1.o;rw[hcc]at a3;go_wp2_with fail
              go_quiet ((go_at_call 144;exact Calls.quiet_of_same (HGO.o _)))
              refine AQ (fun u=>Hid (NW wr u x (.slice (some ⟨wr.heap.size+1,0,none⟩) 0 0) [])) (HU.o.drew _) ?_;intro U4 HU4;have a0:=HU4.o.xb.cell 0;have a3:=HU4.o.xb.cell 3;simp only[aQ,aJ,aL]at a0 a3;rw[r1]at a0;have f1:=Ad HU4.o.bel HO1.o;rw[hcc]at a3;have f4:=Ad HU4.o.bel (HNU.o cc hcc2);go_wp2_with (at_builtin;refine wpList_append_lies _ rfl _ _ 47 rfl wr.heap.size 2 k0 (iZ 0) 1 8 Tryz.underlying47 hk hx0 hx1 hx2 rfl (by decide) _ ([]:List Int).length (([]:List Int).flatMap Ac) rfl (HU4.o.al (.cells #[iZ (AN xs cc)] 2)).1 ⟨U4.heap.size,0,none⟩ 1 1 [iZ (AN xs cc)] rfl rfl (Cx U4 (AN xs cc)) (fun u hu=>by simp at hu;subst hu;rfl) (by omega) (by simp[maxLen]) (by simp) (HU4.o.al (.cells #[iZ (AN xs cc)] 2)).2 _ rfl ?_;intro g3 cap3 w3 hown hgrow hat hlt3;have HU5:Hid (NW wr w3 x (sG g3 (0+1) cap3) ([]++[AN xs cc])):=HU4.o.app hown rfl hgrow;have f2:=Ad HU5.o.bel HO2.o;have z2:=(Ah HT.o.o HU5.o.bel lR).frozenAt (D.length*3+2);clear hown hgrow hat hlt3);have HR:=HT.o.next rfl HM.o.1 HM.o.2.1 HM.o.2.2 HU5.o (by rw[Nk xs x e h1 h2,hcn];rfl);have HR':Hid _:=HR;go_wp2;go_roundw
              case rel=>exact⟨D++[(DB xs m,_)],by simp only[aH,aP];omega,by simp only[aH,aP];go_num,HR'⟩
              case measure=>simp[intOf];omega
            . by_cases r2:x.op=29
              . have h2:¬Bj x=true:=by simp[Bj,r2]
                have HGO:Hid (∀u:World,Calls Tryz.prog 144 #[iZ 29] u fun e w'=>e=.returned (.bool false)/\w'=u):=fun u=>by have:=Cl x u;rw[show Bj x=false from by simpa using h2]at this;rw[r2]at this;exact this
                have a0:=HU.o.xb.cell 0;have a3:=HU.o.xb.cell 3;simp only[aQ,aJ,aL]at a0 a3;rw[r2]at a0;have f1:=Ad HU.o.bel HO1.o;go_wp2_with fail
                go_quiet ((go_at_call 144;exact Calls.quiet_of_same (HGO.o _)))
                skip
                refine AQ (fun u=>Hid (NW wr u x (.slice (some ⟨wr.heap.size+1,0,none⟩) 0 0) [])) (HU.o.drew _) ?_;intro U4 HU4;have f2:=Ad HU4.o.bel HO2.o;have z2:=(Ah HT.o.o HU4.o.bel lR).frozenAt (D.length*3+2);have HR:=HT.o.next rfl HM.o.1 HM.o.2.1 HM.o.2.2 HU4.o (Nl xs x e h1 h2).symm;have HR':Hid _:=HR;go_wp2
                go_roundw
                case rel=>exact⟨D++[(DB xs m,_)],by simp only[aH,aP];omega,by simp only[aH,aP];go_num,HR'⟩
                case measure=>simp[intOf];omega
              . have r3:¬e+1<k:=fun q=>h1 ⟨by simp[I6,r1,r2],by rw[HL.o];exact q⟩
                have r3':¬(e:Int)+1<(k:Int):=by omega
                have r1':(x.op==25)=false:=by simpa using r1
                have r2':(x.op==29)=false:=by simpa using r2
                have r1n:(x.op != 25)=true:=by simpa using r1
                have r2n:(x.op != 29)=true:=by simpa using r2
                by_cases h2:Bj x=true
                . have HGO:Hid (∀u:World,Calls Tryz.prog 144 #[iZ x.op] u fun e w'=>e=.returned (.bool true)/\w'=u):=fun u=>by have:=Cl x u;rw[h2]at this;exact this
                  obtain⟨hc0,hc1⟩:=HG.o.2.2 e x HM.o.2.2 h2;rw[HL.o]at hc1;obtain⟨cc,hcc⟩:∃cc:Nat,x.c=(cc:Int):=⟨x.c.toNat,by omega⟩;have hcc2:cc<k:=by omega
                  have hcn:x.c.toNat=cc:=by omega
                  have a0:=HU.o.xb.cell 0;have a3:=HU.o.xb.cell 3;simp only[aQ,aJ,aL]at a0 a3;have f1:=Ad HU.o.bel HO1.o;rw[hcc]at a3;go_wp2_with fail
                  go_quiet ((go_at_call 144;exact Calls.quiet_of_same (HGO.o _)))
                  refine AQ (fun u=>Hid (NW wr u x (.slice (some ⟨wr.heap.size+1,0,none⟩) 0 0) [])) (HU.o.drew _) ?_;intro U4 HU4;have a0:=HU4.o.xb.cell 0;have a3:=HU4.o.xb.cell 3;simp only[aQ,aJ,aL]at a0 a3;have f1:=Ad HU4.o.bel HO1.o;rw[hcc]at a3;have f4:=Ad HU4.o.bel (HNU.o cc hcc2);go_wp2_with (at_builtin;refine wpList_append_lies _ rfl _ _ 47 rfl wr.heap.size 2 k0 (iZ 0) 1 8 Tryz.underlying47 hk hx0 hx1 hx2 rfl (by decide) _ ([]:List Int).length (([]:List Int).flatMap Ac) rfl (HU4.o.al (.cells #[iZ (AN xs cc)] 2)).1 ⟨U4.heap.size,0,none⟩ 1 1 [iZ (AN xs cc)] rfl rfl (Cx U4 (AN xs cc)) (fun u hu=>by simp at hu;subst hu;rfl) (by omega) (by simp[maxLen]) (by simp) (HU4.o.al (.cells #[iZ (AN xs cc)] 2)).2 _ rfl ?_;intro g3 cap3 w3 hown hgrow hat hlt3;have HU5:Hid (NW wr w3 x (sG g3 (0+1) cap3) ([]++[AN xs cc])):=HU4.o.app hown rfl hgrow;have f2:=Ad HU5.o.bel HO2.o;have z2:=(Ah HT.o.o HU5.o.bel lR).frozenAt (D.length*3+2);clear hown hgrow hat hlt3);have HR:=HT.o.next rfl HM.o.1 HM.o.2.1 HM.o.2.2 HU5.o (by rw[Nk xs x e h1 h2,hcn];rfl);have HR':Hid _:=HR;go_wp2;go_roundw
                  case rel=>exact⟨D++[(DB xs m,_)],by simp only[aH,aP];omega,by simp only[aH,aP];go_num,HR'⟩
                  case measure=>simp[intOf];omega
                . have HGO:Hid (∀u:World,Calls Tryz.prog 144 #[iZ x.op] u fun e w'=>e=.returned (.bool false)/\w'=u):=fun u=>by have:=Cl x u;rw[show Bj x=false from by simpa using h2]at this;exact this
                  have a0:=HU.o.xb.cell 0;have a3:=HU.o.xb.cell 3;simp only[aQ,aJ,aL]at a0 a3;have f1:=Ad HU.o.bel HO1.o;go_wp2_with fail
                  go_quiet ((go_at_call 144;exact Calls.quiet_of_same (HGO.o _)))
                  skip
                  refine AQ (fun u=>Hid (NW wr u x (.slice (some ⟨wr.heap.size+1,0,none⟩) 0 0) [])) (HU.o.drew _) ?_;intro U4 HU4;have f2:=Ad HU4.o.bel HO2.o;have z2:=(Ah HT.o.o HU4.o.bel lR).frozenAt (D.length*3+2);have HR:=HT.o.next rfl HM.o.1 HM.o.2.1 HM.o.2.2 HU4.o (Nl xs x e h1 h2).symm;have HR':Hid _:=HR;go_wp2
                  go_roundw
                  case rel=>exact⟨D++[(DB xs m,_)],by simp only[aH,aP];omega,by simp only[aH,aP];go_num,HR'⟩
                  case measure=>simp[intOf];omega
        . have hDl:D.length=(Bi xs k).length:=by omega
          have HE:=Af (HT.o.owbs HL.o hDl);go_wp2
          go_ret
          exact⟨_,_,rfl,HE.o,.inr ⟨HG.o,rfl⟩,HT.o.bel⟩
theorem Ak{α β:Type}{r:EQ α}{f:α->EQ β}{k k1:Nat}{x:α}{y:Option (β×Nat)}(h:r k=some (x,k1))(h':f x k1=y):AU r f k=y:=(CQ h).trans h'
theorem Ee{zs:List Int}(hz:DC zs){n k k':Nat}{v:Int}(hn:n<=7)(h:Cb zs n k=some (v,k')):0<=v/\v<2 ^ (8*n):=Nn hz hn h
theorem FP(B I L:Nat)(a:Option Addr)(c:Nat)(zs:List Int)(k:Nat)(w:World)(h:Hh w B I L a c zs k):
 Calls Tryz.prog 114 #[.pointer (some ⟨I,0,none⟩)] w (Pj (Cb zs 1) (fun _ x V=>V=iZ x) w B I L a c zs k):=by
 have H:=Af h;go_enter Tryz.func114,Tryz.ntmps114;go_wp2_with fail
 refine(A6 B I L a c zs 1 k w (by omega) (by omega) H.o).mono ?_;rintro e u (⟨x,V,k',rfl,hr,rfl,hg⟩|⟨rfl,hn,hc⟩)
 . go_wp2
   go_ret
   exact .inl ⟨x,_,k',rfl,hr,rfl,hg⟩
 . unfold Ba
   go_wp2
   exact⟨rfl,.inr ⟨rfl,hn,hc⟩⟩
theorem LA(B I L:Nat)(a:Option Addr)(c:Nat)(zs:List Int)(k:Nat)(w:World)(h:Hh w B I L a c zs k):
 Calls Tryz.prog 77 #[.pointer (some ⟨I,0,none⟩)] w (Pj (D9 zs) (fun _ x V=>V=.agg #[iZ x.type,.int .u32 x.word]) w B I L a c zs k):=by
 have H0:Hid (Br w (w.alloc (.cells #[iZ 0,.int .u32 0] 53)) [Bb w.heap.size 53 2 [iZ 0,.int .u32 0]] B I L a c zs k):=(Br.start h).box 53 2 _ rfl;have HZ:=Af h.hz;go_enter Tryz.func77,Tryz.ntmps77;go_wp2_with fail
 refine(FP B I L a c zs k _ H0.o.got.at_).mono ?_;rintro e u1 (⟨x1,V,k1,rfl,hr,rfl,hg⟩|⟨rfl,hn,hc⟩);rotate_left
 . unfold Ba
   go_wp2
   exact⟨rfl,.inr ⟨rfl,(Aw hn),H0.o.got.chg.onD hc⟩⟩
 have H1:=Af (H0.o.read hg);have R1:=Af hr;go_wp2_with fail
 refine(A6 B I L a c zs 4 k1 _ (by omega) (by omega) H1.o.got.at_).mono ?_;rintro e u2 (⟨x2,V,k2,rfl,hr,rfl,hg⟩|⟨rfl,hn,hc⟩);rotate_left
 . unfold Ba
   go_wp2
   exact⟨rfl,.inr ⟨rfl,(Ak R1.o (Aw hn)),H1.o.got.chg.onD hc⟩⟩
 have H2:=Af (H1.o.read hg);have R2:=Af hr
 have hw:IntKind.u32.wrap x2=x2:=by
  have:=Ee HZ.o (by omega) hr;exact IntWalk.u32_in _ ⟨by omega,by omega⟩
 have q0:u2.cell? ⟨w.heap.size,0,none⟩=some (iZ 0):=H2.o.cell (show Bb w.heap.size 53 2 [iZ 0,.int .u32 0]∈_ by simp) 0 (by omega);have f0:u2.frozen? ⟨w.heap.size,0,none⟩=false:=H2.o.frozen (show Bb w.heap.size 53 2 [iZ 0,.int .u32 0]∈_ by simp) 0;have q1:u2.cell? ⟨w.heap.size,1,none⟩=some (.int .u32 0):=H2.o.cell (show Bb w.heap.size 53 2 [iZ 0,.int .u32 0]∈_ by simp) 1 (by omega);have f1:u2.frozen? ⟨w.heap.size,1,none⟩=false:=H2.o.frozen (show Bb w.heap.size 53 2 [iZ 0,.int .u32 0]∈_ by simp) 1;go_wp2
 have HF:=Af (Br.set (A:=[]) (Br.set (A:=[]) H2.o 0 (by omega) (iZ x1)) 1 (by omega) (.int .u32 x2));generalize (u2.setCell ⟨w.heap.size,0,none⟩ (iZ x1)).setCell ⟨w.heap.size,1,none⟩ (.int .u32 x2)=WF at HF⊢;have r0:WF.cell? ⟨w.heap.size,0,none⟩=some (iZ x1):=HF.o.cell (show Bb w.heap.size 53 2 [iZ x1,.int .u32 x2]∈_ by simp) 0 (by omega);have r1:WF.cell? ⟨w.heap.size,1,none⟩=some (.int .u32 x2):=HF.o.cell (show Bb w.heap.size 53 2 [iZ x1,.int .u32 x2]∈_ by simp) 1 (by omega);exact aW (v:=.agg #[iZ x1,.int .u32 x2]) (by simp[results,Tryz.results77,go_sem,r0,r1]) rfl (.inl ⟨⟨x1,x2⟩,_,k2,rfl,(Ak R1.o (Ak R2.o rfl)),rfl,HF.o.got⟩)
theorem Jh(B I L:Nat)(a:Option Addr)(c:Nat)(zs:List Int)(k:Nat)(w:World)(h:Hh w B I L a c zs k):
 Calls Tryz.prog 116 #[.pointer (some ⟨I,0,none⟩)] w (Pj (EV zs) (fun _ x V=>V=.agg #[iZ x.op,iZ x.a,iZ x.b,iZ x.c]) w B I L a c zs k):=by
 have H0:Hid (Br w (w.alloc (.cells #[iZ 0,iZ 0,iZ 0,iZ 0] 97)) [Bb w.heap.size 97 4 [iZ 0,iZ 0,iZ 0,iZ 0]] B I L a c zs k):=(Br.start h).box 97 4 _ rfl;have HZ:=Af h.hz;go_enter Tryz.func116,Tryz.ntmps116;go_wp2_with fail
 refine(A6 B I L a c zs 1 k _ (by omega) (by omega) H0.o.got.at_).mono ?_;rintro e u1 (⟨x1,V,k1,rfl,hr,rfl,hg⟩|⟨rfl,hn,hc⟩);rotate_left
 . unfold Ba
   go_wp2
   exact⟨rfl,.inr ⟨rfl,(Aw hn),H0.o.got.chg.onD hc⟩⟩
 have H1:=Af (H0.o.read hg);have R1:=Af hr;go_wp2_with fail
 refine(A6 B I L a c zs 1 k1 _ (by omega) (by omega) H1.o.got.at_).mono ?_;rintro e u2 (⟨x2,V,k2,rfl,hr,rfl,hg⟩|⟨rfl,hn,hc⟩);rotate_left
 . unfold Ba
   go_wp2
   exact⟨rfl,.inr ⟨rfl,(Ak R1.o (Aw hn)),H1.o.got.chg.onD hc⟩⟩
 have H2:=Af (H1.o.read hg);have R2:=Af hr;go_wp2_with fail
 refine(A6 B I L a c zs 2 k2 _ (by omega) (by omega) H2.o.got.at_).mono ?_;rintro e u3 (⟨x3,V,k3,rfl,hr,rfl,hg⟩|⟨rfl,hn,hc⟩);rotate_left
 . unfold Ba
   go_wp2
   exact⟨rfl,.inr ⟨rfl,(Ak R1.o (Ak R2.o (Aw hn))),H2.o.got.chg.onD hc⟩⟩
 have H3:=Af (H2.o.read hg);have R3:=Af hr;go_wp2_with fail
 refine(A6 B I L a c zs 4 k3 _ (by omega) (by omega) H3.o.got.at_).mono ?_;rintro e u4 (⟨x4,V,k4,rfl,hr,rfl,hg⟩|⟨rfl,hn,hc⟩);rotate_left
 . unfold Ba
   go_wp2
   exact⟨rfl,.inr ⟨rfl,(Ak R1.o (Ak R2.o (Ak R3.o (Aw hn)))),H3.o.got.chg.onD hc⟩⟩
 have H4:=Af (H3.o.read hg);have R4:=Af hr;have q0:u4.cell? ⟨w.heap.size,0,none⟩=some (iZ 0):=H4.o.cell (show Bb w.heap.size 97 4 [iZ 0,iZ 0,iZ 0,iZ 0]∈_ by simp) 0 (by omega);have f0:u4.frozen? ⟨w.heap.size,0,none⟩=false:=H4.o.frozen (show Bb w.heap.size 97 4 [iZ 0,iZ 0,iZ 0,iZ 0]∈_ by simp) 0;have q1:u4.cell? ⟨w.heap.size,1,none⟩=some (iZ 0):=H4.o.cell (show Bb w.heap.size 97 4 [iZ 0,iZ 0,iZ 0,iZ 0]∈_ by simp) 1 (by omega);have f1:u4.frozen? ⟨w.heap.size,1,none⟩=false:=H4.o.frozen (show Bb w.heap.size 97 4 [iZ 0,iZ 0,iZ 0,iZ 0]∈_ by simp) 1;have q2:u4.cell? ⟨w.heap.size,2,none⟩=some (iZ 0):=H4.o.cell (show Bb w.heap.size 97 4 [iZ 0,iZ 0,iZ 0,iZ 0]∈_ by simp) 2 (by omega);have f2:u4.frozen? ⟨w.heap.size,2,none⟩=false:=H4.o.frozen (show Bb w.heap.size 97 4 [iZ 0,iZ 0,iZ 0,iZ 0]∈_ by simp) 2;have q3:u4.cell? ⟨w.heap.size,3,none⟩=some (iZ 0):=H4.o.cell (show Bb w.heap.size 97 4 [iZ 0,iZ 0,iZ 0,iZ 0]∈_ by simp) 3 (by omega);have f3:u4.frozen? ⟨w.heap.size,3,none⟩=false:=H4.o.frozen (show Bb w.heap.size 97 4 [iZ 0,iZ 0,iZ 0,iZ 0]∈_ by simp) 3;go_wp2
 have HF:=Af (Br.set (A:=[]) (Br.set (A:=[]) (Br.set (A:=[]) (Br.set (A:=[]) H4.o 0 (by omega) (iZ x1)) 1 (by omega) (iZ x2)) 2 (by omega) (iZ x3)) 3 (by omega) (iZ x4));generalize (((u4.setCell ⟨w.heap.size,0,none⟩ (iZ x1)).setCell ⟨w.heap.size,1,none⟩ (iZ x2)).setCell ⟨w.heap.size,2,none⟩ (iZ x3)).setCell ⟨w.heap.size,3,none⟩ (iZ x4)=WF at HF⊢;have r0:WF.cell? ⟨w.heap.size,0,none⟩=some (iZ x1):=HF.o.cell (show Bb w.heap.size 97 4 [iZ x1,iZ x2,iZ x3,iZ x4]∈_ by simp) 0 (by omega);have r1:WF.cell? ⟨w.heap.size,1,none⟩=some (iZ x2):=HF.o.cell (show Bb w.heap.size 97 4 [iZ x1,iZ x2,iZ x3,iZ x4]∈_ by simp) 1 (by omega);have r2:WF.cell? ⟨w.heap.size,2,none⟩=some (iZ x3):=HF.o.cell (show Bb w.heap.size 97 4 [iZ x1,iZ x2,iZ x3,iZ x4]∈_ by simp) 2 (by omega);have r3:WF.cell? ⟨w.heap.size,3,none⟩=some (iZ x4):=HF.o.cell (show Bb w.heap.size 97 4 [iZ x1,iZ x2,iZ x3,iZ x4]∈_ by simp) 3 (by omega);exact aW (v:=.agg #[iZ x1,iZ x2,iZ x3,iZ x4]) (by simp[results,Tryz.results116,go_sem,r0,r1,r2,r3]) rfl (.inl ⟨⟨x1,x2,x3,x4⟩,_,k4,rfl,(Ak R1.o (Ak R2.o (Ak R3.o (Ak R4.o rfl)))),rfl,HF.o.got⟩)
theorem Qu(B I L:Nat)(a:Option Addr)(c:Nat)(zs:List Int)(k:Nat)(w:World)(h:Hh w B I L a c zs k):
 Calls Tryz.prog 81 #[.pointer (some ⟨I,0,none⟩)] w (Pj (G9 zs) (fun _ x V=>V=.agg #[iZ x.func,iZ x.head,iZ x.counter,.int .u32 x.init]) w B I L a c zs k):=by
 have H0:Hid (Br w (w.alloc (.cells #[iZ 0,iZ 0,iZ 0,.int .u32 0] 62)) [Bb w.heap.size 62 4 [iZ 0,iZ 0,iZ 0,.int .u32 0]] B I L a c zs k):=(Br.start h).box 62 4 _ rfl;have HZ:=Af h.hz;go_enter Tryz.func81,Tryz.ntmps81;go_wp2_with fail
 refine(A6 B I L a c zs 2 k _ (by omega) (by omega) H0.o.got.at_).mono ?_;rintro e u1 (⟨x1,V,k1,rfl,hr,rfl,hg⟩|⟨rfl,hn,hc⟩);rotate_left
 . unfold Ba
   go_wp2
   exact⟨rfl,.inr ⟨rfl,(Aw hn),H0.o.got.chg.onD hc⟩⟩
 have H1:=Af (H0.o.read hg);have R1:=Af hr;go_wp2_with fail
 refine(A6 B I L a c zs 2 k1 _ (by omega) (by omega) H1.o.got.at_).mono ?_;rintro e u2 (⟨x2,V,k2,rfl,hr,rfl,hg⟩|⟨rfl,hn,hc⟩);rotate_left
 . unfold Ba
   go_wp2
   exact⟨rfl,.inr ⟨rfl,(Ak R1.o (Aw hn)),H1.o.got.chg.onD hc⟩⟩
 have H2:=Af (H1.o.read hg);have R2:=Af hr;go_wp2_with fail
 refine(A6 B I L a c zs 1 k2 _ (by omega) (by omega) H2.o.got.at_).mono ?_;rintro e u3 (⟨x3,V,k3,rfl,hr,rfl,hg⟩|⟨rfl,hn,hc⟩);rotate_left
 . unfold Ba
   go_wp2
   exact⟨rfl,.inr ⟨rfl,(Ak R1.o (Ak R2.o (Aw hn))),H2.o.got.chg.onD hc⟩⟩
 have H3:=Af (H2.o.read hg);have R3:=Af hr;go_wp2_with fail
 refine(A6 B I L a c zs 4 k3 _ (by omega) (by omega) H3.o.got.at_).mono ?_;rintro e u4 (⟨x4,V,k4,rfl,hr,rfl,hg⟩|⟨rfl,hn,hc⟩);rotate_left
 . unfold Ba
   go_wp2
   exact⟨rfl,.inr ⟨rfl,(Ak R1.o (Ak R2.o (Ak R3.o (Aw hn)))),H3.o.got.chg.onD hc⟩⟩
 have H4:=Af (H3.o.read hg);have R4:=Af hr
 have hw:IntKind.u32.wrap x4=x4:=by
  have:=Ee HZ.o (by omega) hr;exact IntWalk.u32_in _ ⟨by omega,by omega⟩
 have q0:u4.cell? ⟨w.heap.size,0,none⟩=some (iZ 0):=H4.o.cell (show Bb w.heap.size 62 4 [iZ 0,iZ 0,iZ 0,.int .u32 0]∈_ by simp) 0 (by omega);have f0:u4.frozen? ⟨w.heap.size,0,none⟩=false:=H4.o.frozen (show Bb w.heap.size 62 4 [iZ 0,iZ 0,iZ 0,.int .u32 0]∈_ by simp) 0;have q1:u4.cell? ⟨w.heap.size,1,none⟩=some (iZ 0):=H4.o.cell (show Bb w.heap.size 62 4 [iZ 0,iZ 0,iZ 0,.int .u32 0]∈_ by simp) 1 (by omega);have f1:u4.frozen? ⟨w.heap.size,1,none⟩=false:=H4.o.frozen (show Bb w.heap.size 62 4 [iZ 0,iZ 0,iZ 0,.int .u32 0]∈_ by simp) 1;have q2:u4.cell? ⟨w.heap.size,2,none⟩=some (iZ 0):=H4.o.cell (show Bb w.heap.size 62 4 [iZ 0,iZ 0,iZ 0,.int .u32 0]∈_ by simp) 2 (by omega);have f2:u4.frozen? ⟨w.heap.size,2,none⟩=false:=H4.o.frozen (show Bb w.heap.size 62 4 [iZ 0,iZ 0,iZ 0,.int .u32 0]∈_ by simp) 2;have q3:u4.cell? ⟨w.heap.size,3,none⟩=some (.int .u32 0):=H4.o.cell (show Bb w.heap.size 62 4 [iZ 0,iZ 0,iZ 0,.int .u32 0]∈_ by simp) 3 (by omega);have f3:u4.frozen? ⟨w.heap.size,3,none⟩=false:=H4.o.frozen (show Bb w.heap.size 62 4 [iZ 0,iZ 0,iZ 0,.int .u32 0]∈_ by simp) 3;go_wp2
 have HF:=Af (Br.set (A:=[]) (Br.set (A:=[]) (Br.set (A:=[]) (Br.set (A:=[]) H4.o 0 (by omega) (iZ x1)) 1 (by omega) (iZ x2)) 2 (by omega) (iZ x3)) 3 (by omega) (.int .u32 x4));generalize (((u4.setCell ⟨w.heap.size,0,none⟩ (iZ x1)).setCell ⟨w.heap.size,1,none⟩ (iZ x2)).setCell ⟨w.heap.size,2,none⟩ (iZ x3)).setCell ⟨w.heap.size,3,none⟩ (.int .u32 x4)=WF at HF⊢;have r0:WF.cell? ⟨w.heap.size,0,none⟩=some (iZ x1):=HF.o.cell (show Bb w.heap.size 62 4 [iZ x1,iZ x2,iZ x3,.int .u32 x4]∈_ by simp) 0 (by omega);have r1:WF.cell? ⟨w.heap.size,1,none⟩=some (iZ x2):=HF.o.cell (show Bb w.heap.size 62 4 [iZ x1,iZ x2,iZ x3,.int .u32 x4]∈_ by simp) 1 (by omega);have r2:WF.cell? ⟨w.heap.size,2,none⟩=some (iZ x3):=HF.o.cell (show Bb w.heap.size 62 4 [iZ x1,iZ x2,iZ x3,.int .u32 x4]∈_ by simp) 2 (by omega);have r3:WF.cell? ⟨w.heap.size,3,none⟩=some (.int .u32 x4):=HF.o.cell (show Bb w.heap.size 62 4 [iZ x1,iZ x2,iZ x3,.int .u32 x4]∈_ by simp) 3 (by omega);exact aW (v:=.agg #[iZ x1,iZ x2,iZ x3,.int .u32 x4]) (by simp[results,Tryz.results81,go_sem,r0,r1,r2,r3]) rfl (.inl ⟨⟨x1,x2,x3,x4⟩,_,k4,rfl,(Ak R1.o (Ak R2.o (Ak R3.o (Ak R4.o rfl)))),rfl,HF.o.got⟩)
def nv(l:List Nat):List Value:=l.map fun(k:Nat)=>Value.int .i64 (k:Int)
theorem IE(l m:List Nat):nv (l++m)=nv l++nv m:=by simp[nv]
theorem Ij(l:List Nat):nv l=(Ea l).flatMap Ac:=by
 induction l with
 |nil=>rfl
 | cons x r ih=>
   simp only[nv,Ea,db,am]at ih⊢;rw[ih];rfl
theorem Q2{l:List Nat}{k x:Nat}(h:l[k]?=some x):(nv l)[k]?=some (.int .i64 (x:Int)):=by simp[nv,h]
def KP(w:World)(s:Value)(l:List Nat):Prop:=Rd w 1 s l.length (nv l)
def Jc(w:World)(base:Nat)(s:Value)(l:List Nat):Prop:=w.ownsRow base 2 1 s l.length (nv l)
theorem Jc.rd{w:World}{base:Nat}{s:Value}{l:List Nat}(h:Jc w base s l):KP w s l:=Rd.of_own h
theorem Jc.keep{w w':World}{base:Nat}{s:Value}{l:List Nat}(h:Jc w base s l)(hb:Below w.heap.size w w'):Jc w' base s l:=Ah h hb lR
theorem KP.keep{w w':World}{s:Value}{l:List Nat}(h:KP w s l)(hb:Below w.heap.size w w'):KP w' s l:=Rd.keep h hb lR
theorem KP.at_{w:World}{a:Option Addr}{n c:Nat}{l:List Nat}(h:KP w (.slice a n c) l){k x:Nat}(hk:l[k]?=some x):∃g o,a=some ⟨g,o,none⟩/\n=l.length/\w.cell? ⟨g,o+k,none⟩=some (.int .i64 (x:Int)):=by
 rcases h.2 with⟨e0,_⟩|⟨g,o,c',e1,hc⟩
 . have:=(aE.1 hk).1
   omega
 . simp only[aI]at e1
   obtain⟨rfl,rfl,rfl⟩:=e1;exact⟨g,o,rfl,rfl,hc k _ (Q2 hk)⟩
theorem KP.all{w:World}{a:Option Addr}{n c:Nat}{l:List Nat}(h:KP w (.slice a n c) l)(hl:0<l.length):∃g o,a=some ⟨g,o,none⟩/\n=l.length/\∀k x:Nat,l[k]?=some x->w.cell? ⟨g,o+k,none⟩=some (.int .i64 (x:Int)):=by
 rcases h.2 with⟨e0,_⟩|⟨g,o,c',e1,hc⟩
 . omega
 . simp only[aI]at e1
   obtain⟨rfl,rfl,rfl⟩:=e1;exact⟨g,o,rfl,rfl,fun k x hk=>hc k _ (Q2 hk)⟩
def bv(P:Nat->Bool)(n:Nat):List Value:=(List.range n).map fun i=>Value.bool (P i)
theorem GB(P:Nat->Bool)(n:Nat):(bv P n).length=n:=by simp[bv]
theorem JA(P:Nat->Bool)(n i:Nat)(h:i<n):(bv P n)[i]?=some (.bool (P i)):=by simp[bv,h]
theorem Mz{P Q:Nat->Bool}{n:Nat}(h:∀i,i<n->P i=Q i):bv P n=bv Q n:=by
 unfold bv;apply dL;intro i hi;rw[h i (cX.1 hi)]
theorem Qq{P Q:Nat->Bool}{n i:Nat}{b:Bool}(h:∀j,j<n->Q j=if j=i then b else P j):(bv P n).set i (.bool b)=bv Q n:=by
 apply cL;intro j;by_cases hj:j<n
 . rw[JA _ _ _ hj,h j hj]
   by_cases e:j=i
   . subst e
     rw[cR (by rw[GB];exact hj),bj rfl]
   . rw[cJ (by omega),JA _ _ _ hj,bX e]
 . rw[ae (by simp[GB];omega),ae (by rw[GB];omega)]
theorem GD(n:Nat):List.replicate n (Value.bool false)=bv (fun _=>false) n:=by
 apply cL;intro j;by_cases hj:j<n
 . rw[JA _ _ _ hj]
   simp[hj]
 . rw[ae (by simp;omega),ae (by rw[GB];omega)]
def Fs(w:World)(base g n:Nat)(P:Nat->Bool):Prop:=w.ownsRow base 4 1 (.slice (some ⟨g,0,none⟩) n n) n (bv P n)
theorem Fs.keep{w w':World}{base g n:Nat}{P:Nat->Bool}(h:Fs w base g n P)(hb:Below w.heap.size w w'):Fs w' base g n P:=Ah h hb lR
theorem Fs.cell{w:World}{base g n:Nat}{P:Nat->Bool}(h:Fs w base g n P){i:Nat}(hi:i<n):w.cell? ⟨g,i,none⟩=some (.bool (P i)):=by
 have:=bF h i (by omega);rw[JA _ _ _ hi]at this;exact this
theorem Fs.frozen{w:World}{base g n:Nat}{P:Nat->Bool}(h:Fs w base g n P)(i:Nat):w.frozen? ⟨g,i,none⟩=false:=dM h i
theorem Fs.set{w:World}{base g n:Nat}{P Q:Nat->Bool}(h:Fs w base g n P)(i:Nat)(b:Bool)(hQ:∀j,j<n->Q j=if j=i then b else P j):Fs (w.setCell ⟨g,i,none⟩ (.bool b)) base g n Q:=by
 have:=(cP h i (.bool b)).1;rw[Qq hQ]at this;exact this
def Iu(w:World)(g o n:Nat)(E:Nat->List Nat):Prop:=∀b,b<n->∃a c,w.cell? ⟨g,o+b*3+2,none⟩=some (.slice a (E b).length c)/\KP w (.slice a (E b).length c) (E b)
theorem Iu.keep{w w':World}{g o n:Nat}{E:Nat->List Nat}(h:Iu w g o n E)(hb:Below w.heap.size w w'):Iu w' g o n E:=fun b hb'=>by
 obtain⟨a,c,h1,h2⟩:=h b hb';exact⟨a,c,Ad hb h1,h2.keep hb⟩
theorem Jt.graph{w:World}{V:Value}{xs:List MI}(hg:Be xs)(h:Jt w V (AE xs)):∃g o c,V=.slice (some ⟨g,o,none⟩) (AE xs).length c/\Iu w g o (AE xs).length (nx (AE xs))/\∀b m,(AE xs)[b]?=some m->w.cell? ⟨g,o+b*3,none⟩=some (.int .i64 m.first):=by
 obtain⟨ys,h1,h2,h3⟩:=h;have hp:=GG hg;rcases h2.2 with⟨e0,_⟩|⟨g,o,c,e1,hc⟩
 . omega
 . have hyb:∀b m,(AE xs)[b]?=some m->∃v,ys[b]?=some (m,v):=fun b m hm=>by
    rw[<-h1,bQ]at hm;obtain⟨⟨m',v⟩,q1,q2⟩:=bz.1 hm;simp only[]at q2;subst q2;exact⟨v,q1⟩
   refine⟨g,o,c,e1,fun b hb=> ?_,fun b m hm=> ?_⟩
   . obtain⟨v,hv⟩:=hyb b _ (aA hb)
     have r:=h3 _ (aF hv);have e:=Sf hg (aA hb)
     have r':KP w v (nx (AE xs) b):=by
      unfold KP;rw[Ij];unfold RC at r;simp only[e]at r;rw[CM]at r;exact r
     obtain⟨a,cc,ev⟩:=Rd.is_slice r';subst ev;exact⟨a,cc,Rd.elem Bl hc b _ hv 2 _ rfl,r'⟩
   . obtain⟨v,hv⟩:=hyb b m hm
     have:=Rd.elem Bl hc b _ hv 0 _ rfl;rw[aT]at this;exact this
end Go.Proofs.YtjcamlobelcepaaGreatDoor
