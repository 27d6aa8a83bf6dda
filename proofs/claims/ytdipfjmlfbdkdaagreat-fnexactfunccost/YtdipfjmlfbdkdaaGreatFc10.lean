import Derived.Test.YtdipfjmlfbdkdaaGreatFc8
namespace Go.Proofs.YtdipfjmlfbdkdaaGreat
open Go.ChangeShapes Go.WideShapes Go.ChangeAt Go.RowKit
set_option linter.unusedVariables false
set_option maxHeartbeats 4000000
set_option maxRecDepth 100000
theorem Ph(xs:List MI)(x:MI)(e:Nat)(h1:DX x=true/\e+1<xs.length)(h2:¬AB x=true):C4 xs x e=[AD xs (e+1)]:=by
 unfold C4;simp only[a8 h1,h2,false_and,if_false,dj];rfl
theorem Pe(xs:List MI)(x:MI)(e:Nat)(h1:DX x=true/\e+1<xs.length)(h2:AB x=true)(h:AD xs (e+1)=AD xs x.c.toNat):C4 xs x e=[AD xs (e+1)]:=by
 unfold C4;simp only[a8 h1];rw[bF (fun q=>q.2.elim (fun q=>by cases q) (fun q=>q (by rw[h])))];rfl
theorem Pf(xs:List MI)(x:MI)(e:Nat)(h1:DX x=true/\e+1<xs.length)(h2:AB x=true)(h:¬AD xs (e+1)=AD xs x.c.toNat):C4 xs x e=[AD xs (e+1),AD xs x.c.toNat]:=by
 unfold C4;simp only[a8 h1];rw[a8 ⟨h2,.inr (fun q=>h (by simpa using q))⟩];rfl
theorem Lr(xs:List MI)(x:MI)(e:Nat)(h1:¬(DX x=true/\e+1<xs.length))(h2:AB x=true):C4 xs x e=[AD xs x.c.toNat]:=by
 unfold C4;simp only[bF h1];simp[h2]
theorem Ls(xs:List MI)(x:MI)(e:Nat)(h1:¬(DX x=true/\e+1<xs.length))(h2:¬AB x=true):C4 xs x e=[]:=by
 unfold C4;simp only[bF h1];simp[h2]
def Hp(w:World)(base:Nat)(V:Value)(bs:List MB):Prop:=∃D:List (MB×Value),D.map Prod.fst=bs/\w.ownsRow base 58 3 V bs.length (D.flatMap A9)/\∀x∈D,w.ownsRow base 2 1 x.2 x.1.next.length (x.1.next.flatMap Ac)
theorem Hp.rd{w:World}{base:Nat}{V:Value}{bs:List MB}(h:Hp w base V bs):FR w V bs:=by
 obtain⟨D,h1,h2,h3⟩:=h;exact⟨D,h1,Rd.of_own h2,fun x hx=>Rd.of_own (h3 x hx)⟩
theorem TW.owbs{w u:World}{xs:List MI}{n q:Nat}{V:Value}{D:List (MB×Value)}(h:TW w u xs n q V D)(hn:xs.length=n)(hl:D.length=(AX xs n).length):Hp u w.heap.size V (Ao xs):=by
 have e1:D.map Prod.fst=Ao xs:=by
  rw[h.done,hl,an lR];unfold Ao;rw[hn]
 have e2:(Ao xs).length=(AX xs n).length:=by unfold Ao;rw[a7,hn]
 refine⟨D,e1,?_,h.rows⟩;have:=h.o;rw[hl,df lR]at this;rw[e2];simpa using this
theorem IQ (s : Value)(xs:List MI)(w:World)(hn:xs.length<=1048576)(h:Rd w 4 s xs.length (xs.flatMap MI.cells)):
 Calls Tryz.prog 42 #[s] w fun e w'=>∃V bs,e=.returned V/\Hp w' w.heap.size V bs/\((¬Aw xs/\bs=[])\/Aw xs/\bs=Ao xs)/\Below w.heap.size w w':=by
 obtain⟨i0,hi,hz0,hz1,hz2⟩:=bQ Qs;obtain⟨j0,hj,hy0,hy1,hy2⟩:=bQ Dy;obtain⟨k0,hk,hx0,hx1,hx2⟩:=bQ BE;have H:Hid (Rd w 4 s xs.length (xs.flatMap MI.cells)):=h;obtain⟨a1,c1,rfl⟩:=h.is_slice;clear h;have bA:=Aa w (.cells #[] 58);have BA:Hid (Below w.heap.size w (w.alloc (.cells #[] 58))/\Ak (w.alloc (.cells #[] 58)) w.heap.size #[] 58):=⟨bA,Ak.new _ _ _⟩
 go_enter Tryz.func42,Tryz.ntmps42;go_wp2_with fail
 refine(ME (.slice a1 xs.length c1) xs _ hn (H.o.keep bA lR)).mono ?_;rintro e u ⟨⟨b,rfl,hb⟩,rfl⟩;clear bA;cases b
 . have HN:Hid (¬Aw xs):=fun e=>absurd (hb.2 e) cU
   go_wp2
   go_ret
   exact⟨_,[],rfl,⟨[],rfl,⟨rfl,.inr ⟨w.heap.size,0,#[],rfl,Nat.le_refl _,BA.o.2,Nat.le_refl _,dq _,rfl,rfl⟩⟩,fun x hx=>by cases hx⟩,.inl ⟨HN.o,rfl⟩,BA.o.1⟩
 have HG:Hid (Aw xs):=hb.1 rfl;clear hb;have hg1:=HG.o.1;have hg2:=HG.o.2.1;generalize hLL:xs.length=n at hn H hg1 hg2⊢;have HL:Hid (xs.length=n):=hLL;clear hLL;have hn1:¬((n:Int)+1)<0:=by omega
 go_wp2_with (at_make;refine bZ _ rfl _ _ 74 rfl w.heap.size 4 j0 (.bool false) 1 Tryz.underlying74 hj hy0 hy1 .i64 .i64 _ _ (n+1) rfl rfl (by go_num) (by go_num) (by rw[hy2];omega) (by unfold maxLen;omega) (by simp) ?_;intro w1 hown hgrow;rw[CQ]at hown;simp only[eS]at hown;have y0:=hown.cellAt 0 (by omega);have y1:=hown.frozenAt 0;simp only[List.getElem?_replicate,Nat.zero_lt_succ,if_true]at y0)
 have HV:Hid (SV w (w1.setCell ⟨w.heap.size+1,0,none⟩ (.bool true)) xs n 0):=by
  have hb1:Below (w.alloc (.cells #[] 58)).heap.size (w.alloc (.cells #[] 58)) w1:=(aX _ _).grown hgrow lR (fun k hk=>by cases hk);refine⟨?_,(BA.o.2.keep hb1).other (by simp only[];omega) _,(Ab BA.o.1 lR hb1).setCell (by simp only[];omega) _⟩;have:=(hown.stored 0 (.bool true)).1;rw[MO xs n]at this;exact this
 clear hown hgrow y0 y1;go_wp2
 go_loopw [6] (fun i wr=>∃k:Nat,k<=n/\i=.int .i64 k/\Hid (SV w wr xs n k)) (fun i _=>n-(intOf i).toNat)
 case atStart=>exact⟨0,by omega,rfl,HV⟩
 case round =>
  clear HV;obtain⟨k,hk',rfl,HV⟩:=hrel;by_cases hlt:k<n
  . obtain⟨x,hx⟩:∃x,xs[k]?=some x:=⟨_,aA (by rw[HL.o];exact hlt)⟩
    have HX:Hid (xs[k]?=some x):=hx;rcases H.o.2 with⟨e0,_⟩|⟨g,o,c,e1,hc1⟩
    . omega
    simp only[aF,aw]at e1;obtain⟨rfl,rfl⟩:=e1;have x0:=Rd.elem MI.cells_length hc1 k _ hx 0 _ rfl;have x3:=Rd.elem MI.cells_length hc1 k _ hx 3 _ rfl;rw[aS]at x0;have hglt:=aC x0;simp only[]at hglt;have hgne:¬g=w.heap.size+1:=by omega
    have hgne':¬w.heap.size+1=g:=by omega
    rw[<-HV.o.bel.cell (aC x0)]at x0;rw[<-HV.o.bel.cell (aC x3)]at x3;clear hc1 hx;have hkL:(k:Int)<(n:Int):=by omega
    have z0:=HV.o.lead.frozenAt (k+1);have d0:=HV.o.lead.cellAt (k+1) (by omega);rw[ER _ _ _ _ (by omega)]at d0;go_wp2_with fail
    refine(BF x _).mono ?_;rintro e u ⟨rfl,hu⟩;have hu2:=hu.symm;clear hu;subst hu2;cases hgo:AB x
    . go_wp2_with fail
      refine(BF x _).mono ?_;rintro e u ⟨rfl,hu⟩;have hu2:=hu.symm;clear hu;subst hu2;rw[hgo];by_cases hr:x.op=29
      . have HN:Hid (SV w (wr.setCell ⟨w.heap.size+1,k+1,none⟩ (.bool true)) xs n (k+1)):=HV.o.set (k+1) (Pb xs k n x HX.o hgo hr (by omega))
        go_wp2
        go_roundw
        case rel=>exact⟨k+1,by omega,by go_num,HN⟩
        case measure=>simp[intOf];omega
      . have hr':(x.op==29)=false:=by simpa using hr
        have HN:Hid (SV w wr xs n (k+1)):=⟨by rw[<-Oc xs k n x HX.o hgo hr];exact HV.o.lead,HV.o.o,HV.o.bel⟩;go_wp2;go_roundw
        case rel=>exact⟨k+1,by omega,by go_num,HN⟩
        case measure=>simp[intOf];omega
    . obtain⟨hc0,hc1⟩:=HG.o.2.2 k x HX.o hgo
      rw[HL.o]at hc1;obtain⟨cc,hcc⟩:∃cc:Nat,x.c=(cc:Int):=⟨x.c.toNat,by omega⟩;have HCC:Hid (x.c=(cc:Int)):=hcc;rw[hcc]at x3 hc0 hc1;have z1:=HV.o.lead.frozenAt cc;have d1:=HV.o.lead.cellAt cc (by omega);rw[ER _ _ _ _ (by omega)]at d1;clear hcc;have HN:Hid (SV w ((wr.setCell ⟨w.heap.size+1,cc,none⟩ (.bool true)).setCell ⟨w.heap.size+1,k+1,none⟩ (.bool true)) xs n (k+1)):=HV.o.set2 cc (k+1) (Ob xs k n cc x HX.o hgo HCC.o (by omega) (by omega));have S2:=(HV.o.lead.stored cc (.bool true)).1;obtain⟨v2,hv2⟩:∃v,((Cf xs k n).set cc (.bool true))[k+1]?=some v:=⟨_,aA (by simp[Ge];omega)⟩;have d2:=S2.cellAt (k+1) (by omega);rw[hv2]at d2;have z2:=S2.frozenAt (k+1);clear S2 hv2;go_wp2_with fail;refine(BF x _).mono ?_;rintro e u ⟨rfl,hu⟩;have hu2:=hu.symm;clear hu;subst hu2;rw[hgo];clear d0 d1 z0 z1 x0 x3;generalize wr.setCell ⟨w.heap.size+1,cc,none⟩ (.bool true)=W2 at d2 z2 HN⊢;go_wp2;go_roundw
      case rel=>exact⟨k+1,by omega,by go_num,HN⟩
      case measure=>simp[intOf];omega
  . obtain rfl:k=n:=by omega
    have HV0:Hid (SV w wr xs k k):=HV.o;clear HV hlt hk';go_wp2_with (at_make;refine bZ _ rfl _ _ 28 rfl w.heap.size 2 k0 (.int .i64 0) 1 Tryz.underlying28 hk hx0 hx1 .i64 .i64 _ _ k rfl rfl rfl rfl (by rw[hx2];omega) (by unfold maxLen;omega) HV0.o.bel.size ?_;intro w2 hown hgrow;rw[Gf k (EW xs) (List.range k)]at hown)
    have HW:Hid (SW w w2 xs k 0 wr.heap.size (.slice (some ⟨w.heap.size,0,none⟩) 0 0)):=by
     have hb1:Below wr.heap.size wr w2:=(aX _ _).grown hgrow lR (fun k hk=>by cases hk);refine⟨Ag HV0.o.lead hb1 lR,hown,⟨rfl,.inr ⟨w.heap.size,0,#[],rfl,Nat.le_refl _,HV0.o.o.keep hb1,Nat.le_refl _,dq _,rfl,rfl⟩⟩,Ab HV0.o.bel lR hb1⟩
    have HZ:Hid (w.heap.size<wr.heap.size):=HV0.o.o.lt;clear hown hgrow HV0;generalize wr.heap.size=q at HW HZ⊢;go_wp2
    go_loopw [3,8] (fun v i wr=>∃j:Nat,j<=k/\i=.int .i64 j/\Hid (SW w wr xs k j q v)) (fun _ i _=>k-(intOf i).toNat)
    case atStart=>exact⟨0,by omega,rfl,HW⟩
    case round=>
     clear HW;obtain⟨j,hj',rfl,HW⟩:=hrel;by_cases hlt:j<k
     . have hjL:(j:Int)<(k:Int):=by omega
       have l0:=HW.o.lead.cellAt j (by omega);rw[ER _ _ _ _ (by omega)]at l0
       have HLN:Hid ((AX xs j).length<=j):=by
        show(AX xs j).length<=j;rw[Bd];exact aY (cJ _ _) (by simp)
       have hln:=HLN.o;cases hld:A8 xs k j
       .
        rw[hld]at l0;have hld':¬A8 xs xs.length j=true:=by rw[HL.o,hld];exact cU
        have hj0:0<j:=by
         cases j with
         |zero=>exact absurd (FJ _ _) hld'
         |succ j=>omega
        have hne:AX xs j≠[]:=fun e=>GE xs j hj0 (dW (by rw[<-Bd,e];rfl))
        obtain⟨bs,b,hM⟩:∃bs b,AX xs j=bs++[b]:=⟨_,_,(List.dropLast_concat_getLast hne).symm⟩
        have ho:AX xs (j+1)=bs++[(⟨b.first,(j:Int),b.next⟩:MB)]:=by
         simp only[AX];rw[bF hld',hM,Dj]
        have hnum:AD xs j=(bs.length:Int):=by
         have e1:=Bd xs (j+1);rw[ho]at e1;simp only[aH,aI]at e1;unfold AD;omega
        have hout:=HW.o.o;rw[hM,aH,aI]at hout hln
        obtain⟨gg,cap,rfl⟩:∃g c,u3=.slice (some ⟨g,0,none⟩) (bs.length+1) c:=by
         rcases Bv hout with⟨_,h0⟩|h0
         . omega
         . exact h0
        have HF:Hid (SW w ((wr.setCell ⟨q,j,none⟩ (.int .i64 bs.length)).setCell ⟨gg,bs.length*3+1,none⟩ (.int .i64 j)) xs k (j+1) q (.slice (some ⟨gg,0,none⟩) (bs.length+1) cap)):=SW.fin hlt HW.o.lead HW.o.num hout HW.o.bel ho hnum;have hgq:=Kx hout HW.o.num (by decide);have hgq':¬q=gg:=fun e=>hgq e.symm
        have n0:=HW.o.num.cellAt j (by omega);have n1:=HW.o.num.frozenAt j;have o0:=hout.cellAt (bs.length*3+1) (by omega);have o1:=hout.frozenAt (bs.length*3+1);rw[BN _ _ _ _ _ hlt,aW (by rw[As (EW xs) 1 (Cx xs),bp,bo];omega),show j-(List.flatMap (EW xs) (List.take j (List.range k))).length=0 by rw[As (EW xs) 1 (Cx xs),bp,bo];omega]at n0;simp only[cA,aM]at n0;rw[bP,aW (by rw[As Hw 3 Du];omega),show bs.length*3+1-(List.flatMap Hw bs).length=1 by rw[As Hw 3 Du];omega]at o0;simp only[Hw,bT,cA,aj,aM]at o0;clear hM hne hout ho hnum;have em:((bs.length:Int)+1-1)=(bs.length:Int):=by omega
        have hbl:bs.length<1048576:=by omega
        go_wp2
        go_roundw
        case rel=>exact⟨j+1,by omega,by go_num,HF⟩
        case measure=>simp[intOf];omega
       .
        rw[hld]at l0;have hld':A8 xs xs.length j=true:=by rw[HL.o,hld]
        have ho:AX xs (j+1)=AX xs j++[(⟨(j:Int),(j:Int),[]⟩:MB)]:=by
         simp only[AX];rw[a8 hld',Dj]
        have hnum:AD xs j=((AX xs j).length:Int):=by
         have e1:=Bd xs (j+1);rw[ho]at e1;simp only[aH,aI]at e1;unfold AD;omega
        have HO:Hid (AX xs (j+1)=AX xs j++[(⟨(j:Int),(j:Int),[]⟩:MB)]/\AD xs j=((AX xs j).length:Int)):=⟨ho,hnum⟩
        clear ho hnum
        have HC:Hid ((wr.alloc (.cells #[.int .i64 j,.int .i64 0,.slice none 0 0] 58)).ownsRow w.heap.size 58 3 u3 (AX xs j).length ((AX xs j).flatMap Hw)/\(∀i u,[(.int .i64 j:Value),.int .i64 0,.slice none 0 0][i]?=some u->(wr.alloc (.cells #[.int .i64 j,.int .i64 0,.slice none 0 0] 58)).cell? ((⟨wr.heap.size,0,none⟩:Addr).add i)=some u)/\w.heap.size<=(wr.alloc (.cells #[.int .i64 j,.int .i64 0,.slice none 0 0] 58)).heap.size):=by
         refine⟨Ag HW.o.o (Aa _ _) lR,fun i u hu=> ?_,aY HW.o.bel.size (Aa _ _).size⟩;rw[Ej,bt,(Ak.new wr #[.int .i64 j,.int .i64 0,.slice none 0 0] 58).cell i];simpa using hu
        have hbl:(AX xs j).length<1048576:=by omega
        have em:(((AX xs j).length:Int)+1-1)=((AX xs j).length:Int):=by omega
        go_wp2_with (at_builtin;refine wpList_append_lies _ rfl _ _ 49 rfl w.heap.size 58 i0 (.agg #[.int .i64 0,.int .i64 0,.slice none 0 0]) 3 40 Tryz.underlying49 hi hz0 hz1 hz2 rfl (by decide) _ _ _ rfl HC.o.1 ⟨wr.heap.size,0,none⟩ 1 1 [.int .i64 j,.int .i64 0,.slice none 0 0] rfl rfl HC.o.2.1 (fun u hu=>by simp at hu;rcases hu with rfl|rfl|rfl<;>rfl) (by omega) (by unfold maxLen;omega) (by omega) HC.o.2.2 _ rfl ?_;intro gg cap w3 hown hgrow hat hlt3;have HN:=Ri HW.o HO.o.1 HO.o.2 hlt hown hgrow;obtain⟨HF,hgq,hgq',n0,n1,o0,o1⟩:=HN;clear hown hgrow hat hlt3)
        go_wp2
        go_roundw
        case rel=>exact⟨j+1,by omega,by go_num,HF⟩
        case measure=>simp[intOf];omega
     . obtain rfl :j=k:=by omega
       have HT0:Hid (TW w wr xs j q u3 []):=TW.of HW.o
       have hln:(AX xs j).length<=j:=by
        rw[Bd];exact aY (cJ _ _) (by simp)
       have hlp:0<(AX xs j).length:=by
        rw[Bd];exact dQ.2 (GE xs j (by omega))
       obtain⟨gv,cap,rfl⟩:∃g c,u3=.slice (some ⟨g,0,none⟩) (AX xs j).length c:=by
        rcases Bv HW.o.o with⟨_,h0⟩|h0
        . omega
        . exact h0
       clear HW hlt hj';obtain⟨k,hkj⟩:∃k,k=j:=⟨_,rfl⟩;subst hkj;go_wp2
       go_loopw [9] (fun i wr=>∃D:List (MB×Value),D.length<=(AX xs k).length/\i=.int .i64 (D.length:Nat)/\Hid (TW w wr xs k q (.slice (some ⟨gv,0,none⟩) (AX xs k).length cap) D)) (fun i _=>(AX xs k).length-(intOf i).toNat)
       case atStart=>exact⟨[],by simp,rfl,HT0⟩
       case round =>
        clear HT0;obtain⟨D,hD,rfl,HT⟩:=hrel;by_cases hlt:D.length<(AX xs k).length
        . obtain ⟨m,hm⟩:∃m,(AX xs k)[D.length]?=some m:=⟨_,aA hlt⟩
          obtain⟨e,he,hek⟩:=Gc xs k hg1 m (aE hm);obtain⟨x,hx⟩:∃x,xs[e]?=some x:=⟨_,aA (by rw[HL.o];exact hek)⟩;have HM:Hid ((AX xs k)[D.length]?=some m/\m.last=(e:Int)/\xs[e]?=some x):=⟨hm,he,hx⟩
          have hA:(D.flatMap A9).length=D.length*3:=As A9 3 AJ D;have o1:=HT.o.o.cellAt (D.length*3+1) (by omega);have o2:=HT.o.o.cellAt (D.length*3+2) (by omega);rw[aW (by omega),hA,bg,cE hlt,(aD.1 hm).2,bT]at o1 o2;simp only[Hw,cA,aj,aM,he]at o1 o2;rcases H.o.2 with⟨e0,_⟩|⟨g,o,c,e1,hc1⟩
          . omega
          simp only[aF,aw]at e1;obtain⟨rfl,rfl⟩:=e1;have x0:=Rd.elem MI.cells_length hc1 e _ hx 0 _ rfl;have x1:=Rd.elem MI.cells_length hc1 e _ hx 1 _ rfl;have x2:=Rd.elem MI.cells_length hc1 e _ hx 2 _ rfl;have x3:=Rd.elem MI.cells_length hc1 e _ hx 3 _ rfl;rw[<-HT.o.bel.cell (aC x0),aS]at x0;rw[<-HT.o.bel.cell (aC x1)]at x1;rw[<-HT.o.bel.cell (aC x2)]at x2;rw[<-HT.o.bel.cell (aC x3)]at x3;have HO1:Hid (wr.cell? ⟨gv,D.length*3+1,none⟩=some (.int .i64 e)):=o1;have HO2:Hid (wr.cell? ⟨gv,D.length*3+2,none⟩=some (.slice none 0 0)):=o2
          have HNU:Hid (∀p,p<k->wr.cell? ⟨q,p,none⟩=some (.int .i64 (AD xs p))):=fun p hp=>by
           have:=HT.o.num.cellAt p (by omega);have e2:=FZ (EW xs) 1 (Cx xs) (List.range k) p 0 p (by simp[hp]) (by omega);rw[bf,aS]at e2;rw[e2]at this;exact this
          clear hm he hx hA o2 hc1;have hdl:(D.length:Int)<((AX xs k).length:Int):=by omega
          have hel:(e:Int)<(k:Int):=by omega
          have hk2:(k:Int)<=1024:=by omega
          go_upto_region 27 with fail
          refine Al (fun u=>Hid (NW wr u x (.slice (some ⟨wr.heap.size+1,0,none⟩) 0 0) [])) (NW.of wr x) ?_;intro U HU;by_cases h1:DX x=true/\e+1<xs.length
          . have hb1:e+1<k:=by rw[<-HL.o];exact h1.2
            have r1:¬x.op=25:=fun q=>by simp[DX,q]at h1
            have r2:¬x.op=29:=fun q=>by simp[DX,q]at h1
            have r1':(x.op==25)=false:=by simpa using r1
            have r2':(x.op==29)=false:=by simpa using r2
            have r1n:(x.op != 25)=true:=by simpa using r1
            have r2n:(x.op != 29)=true:=by simpa using r2
            have r3:(e:Int)+1<(k:Int):=by omega
            have a0:=HU.o.xb.cell 0;have a3:=HU.o.xb.cell 3;simp only[am,aM,aj]at a0 a3;have f1:=Ad HU.o.bel HO1.o;have f3:=Ad HU.o.bel (HNU.o (e+1) hb1);go_wp2_with (at_builtin;refine wpList_append_lies _ rfl _ _ 28 rfl wr.heap.size 2 k0 (.int .i64 0) 1 8 Tryz.underlying28 hk hx0 hx1 hx2 rfl (by decide) _ ([]:List Int).length (([]:List Int).flatMap Ac) rfl (HU.o.al (.cells #[.int .i64 (AD xs (e+1))] 2)).1 ⟨U.heap.size,0,none⟩ 1 1 [.int .i64 (AD xs (e+1))] rfl rfl (A5 U (AD xs (e+1))) (fun u hu=>by simp at hu;subst hu;rfl) (by omega) (by simp[maxLen]) (by simp) (HU.o.al (.cells #[.int .i64 (AD xs (e+1))] 2)).2 _ rfl ?_;intro g3 cap3 w3 hown hgrow hat hlt3;have HU3:Hid (NW wr w3 x (.slice (some ⟨g3,0,none⟩) (0+1) cap3) ([]++[AD xs (e+1)])):=HU.o.app hown rfl hgrow;clear hown hgrow hat hlt3);clear a0 a3 f1 f3;by_cases h2:AB x=true
            . have HGO:Hid (∀u:World,Calls Tryz.prog 74 #[.int .i64 x.op] u fun e w'=>e=.returned (.bool true)/\w'=u):=fun u=>by have:=BF x u;rw[h2]at this;exact this
              obtain⟨hc0,hc1⟩:=HG.o.2.2 e x HM.o.2.2 h2;rw[HL.o]at hc1;obtain⟨cc,hcc⟩:∃cc:Nat,x.c=(cc:Int):=⟨x.c.toNat,by omega⟩;have hcc2:cc<k:=by omega
              have hcn:x.c.toNat=cc:=by omega
              have a0:=HU3.o.xb.cell 0;have a3:=HU3.o.xb.cell 3;simp only[am,aM,aj]at a0 a3;have f1:=Ad HU3.o.bel HO1.o;rw[hcc]at a3;have f4:=Ad HU3.o.bel (HNU.o cc hcc2);have f5:=HU3.o.row.cellAt 0 (by simp);simp only[dY,bT,Ac,cA,aM]at f5;by_cases heq:AD xs (e+1)=AD xs cc
              . rw[heq]at f5
                go_wp2_with fail
                go_quiet ((go_at_call 74;exact Calls.quiet_of_same (HGO.o _)))
                refine Av (fun u=>Hid (NW wr u x (.slice (some ⟨g3,0,none⟩) (0+1) cap3) ([]++[AD xs (e+1)]))) (HU3.o.drew _) ?_;intro U4 HU4;clear a0 a3 f1 f4 f5;have f2:=Ad HU4.o.bel HO2.o;have z2:=(Ag HT.o.o HU4.o.bel lR).frozenAt (D.length*3+2);have HR:=HT.o.next rfl HM.o.1 HM.o.2.1 HM.o.2.2 HU4.o (by rw[Pe xs x e h1 h2 (by rw[hcn];exact heq)];rfl);have HR':Hid _:=HR;clear HR;go_wp2;go_roundw
                case rel=>exact⟨D++[(Cy xs m,_)],by simp only[aH,aI];omega,by simp only[aH,aI];go_num,HR'⟩
                case measure=>simp[intOf];omega
              . have hne:(AD xs (e+1) != AD xs cc)=true:=by simpa using heq
                go_wp2_with fail
                go_quiet ((go_at_call 74;exact Calls.quiet_of_same (HGO.o _)))
                refine Av (fun u=>Hid (NW wr u x (.slice (some ⟨g3,0,none⟩) (0+1) cap3) ([]++[AD xs (e+1)]))) (HU3.o.drew _) ?_;intro U4 HU4;clear a0 a3 f1 f4 f5;have a0:=HU4.o.xb.cell 0;have a3:=HU4.o.xb.cell 3;simp only[am,aM,aj]at a0 a3;have f1:=Ad HU4.o.bel HO1.o;rw[hcc]at a3;have f4:=Ad HU4.o.bel (HNU.o cc hcc2);go_wp2_with (at_builtin;refine wpList_append_lies _ rfl _ _ 28 rfl wr.heap.size 2 k0 (.int .i64 0) 1 8 Tryz.underlying28 hk hx0 hx1 hx2 rfl (by decide) _ (([]++[AD xs (e+1)]):List Int).length ((([]++[AD xs (e+1)]):List Int).flatMap Ac) rfl (HU4.o.al (.cells #[.int .i64 (AD xs cc)] 2)).1 ⟨U4.heap.size,0,none⟩ 1 1 [.int .i64 (AD xs cc)] rfl rfl (A5 U4 (AD xs cc)) (fun u hu=>by simp at hu;subst hu;rfl) (by omega) (by simp[maxLen]) (by simp) (HU4.o.al (.cells #[.int .i64 (AD xs cc)] 2)).2 _ rfl ?_;intro g5 cap5 w5 hown hgrow hat hlt3;have HU5:Hid (NW wr w5 x (.slice (some ⟨g5,0,none⟩) ((([]++[AD xs (e+1)]):List Int).length+1) cap5) (([]++[AD xs (e+1)])++[AD xs cc])):=HU4.o.app hown rfl hgrow;have f2:=Ad HU5.o.bel HO2.o;have z2:=(Ag HT.o.o HU5.o.bel lR).frozenAt (D.length*3+2);clear hown hgrow hat hlt3)
                have HR:=HT.o.next rfl HM.o.1 HM.o.2.1 HM.o.2.2 HU5.o (by rw[Pf xs x e h1 h2 (by rw[hcn];exact heq),hcn];rfl);have HR':Hid _:=HR;clear HR;go_wp2;go_roundw
                case rel=>exact⟨D++[(Cy xs m,_)],by simp only[aH,aI];omega,by simp only[aH,aI];go_num,HR'⟩
                case measure=>simp[intOf];omega
            . have HGO:Hid (∀u:World,Calls Tryz.prog 74 #[.int .i64 x.op] u fun e w'=>e=.returned (.bool false)/\w'=u):=fun u=>by have:=BF x u;rw[show AB x=false from by simpa using h2]at this;exact this
              have a0:=HU3.o.xb.cell 0;have a3:=HU3.o.xb.cell 3;simp only[am,aM,aj]at a0 a3;have f1:=Ad HU3.o.bel HO1.o;go_wp2_with fail
              go_quiet ((go_at_call 74;exact Calls.quiet_of_same (HGO.o _)))
              skip
              refine Av (fun u=>Hid (NW wr u x (.slice (some ⟨g3,0,none⟩) (0+1) cap3) ([]++[AD xs (e+1)]))) (HU3.o.drew _) ?_;intro U4 HU4;clear a0 a3 f1;have f2:=Ad HU4.o.bel HO2.o;have z2:=(Ag HT.o.o HU4.o.bel lR).frozenAt (D.length*3+2);have HR:=HT.o.next rfl HM.o.1 HM.o.2.1 HM.o.2.2 HU4.o (by rw[Ph xs x e h1 h2];rfl);have HR':Hid _:=HR;clear HR;go_wp2;go_roundw
              case rel=>exact⟨D++[(Cy xs m,_)],by simp only[aH,aI];omega,by simp only[aH,aI];go_num,HR'⟩
              case measure=>simp[intOf];omega
          . by_cases r1:x.op=25
            . have h2:AB x=true:=by simp[AB,r1]
              have HGO:Hid (∀u:World,Calls Tryz.prog 74 #[.int .i64 25] u fun e w'=>e=.returned (.bool true)/\w'=u):=fun u=>by have:=BF x u;rw[h2]at this;rw[r1]at this;exact this
              obtain⟨hc0,hc1⟩:=HG.o.2.2 e x HM.o.2.2 h2;rw[HL.o]at hc1;obtain⟨cc,hcc⟩:∃cc:Nat,x.c=(cc:Int):=⟨x.c.toNat,by omega⟩;have hcc2:cc<k:=by omega
              have hcn:x.c.toNat=cc:=by omega
              have a0:=HU.o.xb.cell 0;have a3:=HU.o.xb.cell 3;simp only[am,aM,aj]at a0 a3;rw[r1]at a0;have f1:=Ad HU.o.bel HO1.o;rw[hcc]at a3;go_wp2_with fail
              go_quiet ((go_at_call 74;exact Calls.quiet_of_same (HGO.o _)))
              refine Av (fun u=>Hid (NW wr u x (.slice (some ⟨wr.heap.size+1,0,none⟩) 0 0) [])) (HU.o.drew _) ?_;intro U4 HU4;clear a0 a3 f1;have a0:=HU4.o.xb.cell 0;have a3:=HU4.o.xb.cell 3;simp only[am,aM,aj]at a0 a3;rw[r1]at a0;have f1:=Ad HU4.o.bel HO1.o;rw[hcc]at a3;have f4:=Ad HU4.o.bel (HNU.o cc hcc2);go_wp2_with (at_builtin;refine wpList_append_lies _ rfl _ _ 28 rfl wr.heap.size 2 k0 (.int .i64 0) 1 8 Tryz.underlying28 hk hx0 hx1 hx2 rfl (by decide) _ ([]:List Int).length (([]:List Int).flatMap Ac) rfl (HU4.o.al (.cells #[.int .i64 (AD xs cc)] 2)).1 ⟨U4.heap.size,0,none⟩ 1 1 [.int .i64 (AD xs cc)] rfl rfl (A5 U4 (AD xs cc)) (fun u hu=>by simp at hu;subst hu;rfl) (by omega) (by simp[maxLen]) (by simp) (HU4.o.al (.cells #[.int .i64 (AD xs cc)] 2)).2 _ rfl ?_;intro g3 cap3 w3 hown hgrow hat hlt3;have HU5:Hid (NW wr w3 x (.slice (some ⟨g3,0,none⟩) (0+1) cap3) ([]++[AD xs cc])):=HU4.o.app hown rfl hgrow;have f2:=Ad HU5.o.bel HO2.o;have z2:=(Ag HT.o.o HU5.o.bel lR).frozenAt (D.length*3+2);clear hown hgrow hat hlt3);have HR:=HT.o.next rfl HM.o.1 HM.o.2.1 HM.o.2.2 HU5.o (by rw[Lr xs x e h1 h2,hcn];rfl);have HR':Hid _:=HR;clear HR;go_wp2;go_roundw
              case rel=>exact⟨D++[(Cy xs m,_)],by simp only[aH,aI];omega,by simp only[aH,aI];go_num,HR'⟩
              case measure=>simp[intOf];omega
            . by_cases r2:x.op=29
              . have h2:¬AB x=true:=by simp[AB,r2]
                have HGO:Hid (∀u:World,Calls Tryz.prog 74 #[.int .i64 29] u fun e w'=>e=.returned (.bool false)/\w'=u):=fun u=>by have:=BF x u;rw[show AB x=false from by simpa using h2]at this;rw[r2]at this;exact this
                have a0:=HU.o.xb.cell 0;have a3:=HU.o.xb.cell 3;simp only[am,aM,aj]at a0 a3;rw[r2]at a0;have f1:=Ad HU.o.bel HO1.o;go_wp2_with fail
                go_quiet ((go_at_call 74;exact Calls.quiet_of_same (HGO.o _)))
                skip
                refine Av (fun u=>Hid (NW wr u x (.slice (some ⟨wr.heap.size+1,0,none⟩) 0 0) [])) (HU.o.drew _) ?_;intro U4 HU4;clear a0 a3 f1;have f2:=Ad HU4.o.bel HO2.o;have z2:=(Ag HT.o.o HU4.o.bel lR).frozenAt (D.length*3+2);have HR:=HT.o.next rfl HM.o.1 HM.o.2.1 HM.o.2.2 HU4.o (Ls xs x e h1 h2).symm;have HR':Hid _:=HR;clear HR;go_wp2
                go_roundw
                case rel=>exact⟨D++[(Cy xs m,_)],by simp only[aH,aI];omega,by simp only[aH,aI];go_num,HR'⟩
                case measure=>simp[intOf];omega
              . have r3:¬e+1<k:=fun q=>h1 ⟨by simp[DX,r1,r2],by rw[HL.o];exact q⟩
                have r3':¬(e:Int)+1<(k:Int):=by omega
                have r1':(x.op==25)=false:=by simpa using r1
                have r2':(x.op==29)=false:=by simpa using r2
                have r1n:(x.op != 25)=true:=by simpa using r1
                have r2n:(x.op != 29)=true:=by simpa using r2
                by_cases h2:AB x=true
                . have HGO:Hid (∀u:World,Calls Tryz.prog 74 #[.int .i64 x.op] u fun e w'=>e=.returned (.bool true)/\w'=u):=fun u=>by have:=BF x u;rw[h2]at this;exact this
                  obtain⟨hc0,hc1⟩:=HG.o.2.2 e x HM.o.2.2 h2;rw[HL.o]at hc1;obtain⟨cc,hcc⟩:∃cc:Nat,x.c=(cc:Int):=⟨x.c.toNat,by omega⟩;have hcc2:cc<k:=by omega
                  have hcn:x.c.toNat=cc:=by omega
                  have a0:=HU.o.xb.cell 0;have a3:=HU.o.xb.cell 3;simp only[am,aM,aj]at a0 a3;have f1:=Ad HU.o.bel HO1.o;rw[hcc]at a3;go_wp2_with fail
                  go_quiet ((go_at_call 74;exact Calls.quiet_of_same (HGO.o _)))
                  refine Av (fun u=>Hid (NW wr u x (.slice (some ⟨wr.heap.size+1,0,none⟩) 0 0) [])) (HU.o.drew _) ?_;intro U4 HU4;clear a0 a3 f1;have a0:=HU4.o.xb.cell 0;have a3:=HU4.o.xb.cell 3;simp only[am,aM,aj]at a0 a3;have f1:=Ad HU4.o.bel HO1.o;rw[hcc]at a3;have f4:=Ad HU4.o.bel (HNU.o cc hcc2);go_wp2_with (at_builtin;refine wpList_append_lies _ rfl _ _ 28 rfl wr.heap.size 2 k0 (.int .i64 0) 1 8 Tryz.underlying28 hk hx0 hx1 hx2 rfl (by decide) _ ([]:List Int).length (([]:List Int).flatMap Ac) rfl (HU4.o.al (.cells #[.int .i64 (AD xs cc)] 2)).1 ⟨U4.heap.size,0,none⟩ 1 1 [.int .i64 (AD xs cc)] rfl rfl (A5 U4 (AD xs cc)) (fun u hu=>by simp at hu;subst hu;rfl) (by omega) (by simp[maxLen]) (by simp) (HU4.o.al (.cells #[.int .i64 (AD xs cc)] 2)).2 _ rfl ?_;intro g3 cap3 w3 hown hgrow hat hlt3;have HU5:Hid (NW wr w3 x (.slice (some ⟨g3,0,none⟩) (0+1) cap3) ([]++[AD xs cc])):=HU4.o.app hown rfl hgrow;have f2:=Ad HU5.o.bel HO2.o;have z2:=(Ag HT.o.o HU5.o.bel lR).frozenAt (D.length*3+2);clear hown hgrow hat hlt3);have HR:=HT.o.next rfl HM.o.1 HM.o.2.1 HM.o.2.2 HU5.o (by rw[Lr xs x e h1 h2,hcn];rfl);have HR':Hid _:=HR;clear HR;go_wp2;go_roundw
                  case rel=>exact⟨D++[(Cy xs m,_)],by simp only[aH,aI];omega,by simp only[aH,aI];go_num,HR'⟩
                  case measure=>simp[intOf];omega
                . have HGO:Hid (∀u:World,Calls Tryz.prog 74 #[.int .i64 x.op] u fun e w'=>e=.returned (.bool false)/\w'=u):=fun u=>by have:=BF x u;rw[show AB x=false from by simpa using h2]at this;exact this
                  have a0:=HU.o.xb.cell 0;have a3:=HU.o.xb.cell 3;simp only[am,aM,aj]at a0 a3;have f1:=Ad HU.o.bel HO1.o;go_wp2_with fail
                  go_quiet ((go_at_call 74;exact Calls.quiet_of_same (HGO.o _)))
                  skip
                  refine Av (fun u=>Hid (NW wr u x (.slice (some ⟨wr.heap.size+1,0,none⟩) 0 0) [])) (HU.o.drew _) ?_;intro U4 HU4;clear a0 a3 f1;have f2:=Ad HU4.o.bel HO2.o;have z2:=(Ag HT.o.o HU4.o.bel lR).frozenAt (D.length*3+2);have HR:=HT.o.next rfl HM.o.1 HM.o.2.1 HM.o.2.2 HU4.o (Ls xs x e h1 h2).symm;have HR':Hid _:=HR;clear HR;go_wp2
                  go_roundw
                  case rel=>exact⟨D++[(Cy xs m,_)],by simp only[aH,aI];omega,by simp only[aH,aI];go_num,HR'⟩
                  case measure=>simp[intOf];omega
        . have hDl:D.length=(AX xs k).length:=by omega
          have HE:Hid (Hp wr w.heap.size (.slice (some ⟨gv,0,none⟩) (AX xs k).length cap) (Ao xs)):=HT.o.owbs HL.o hDl;go_wp2
          go_ret
          exact⟨_,_,rfl,HE.o,.inr ⟨HG.o,rfl⟩,HT.o.bel⟩
end Go.Proofs.YtdipfjmlfbdkdaaGreat
