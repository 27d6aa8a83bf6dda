import Derived.Test.YtdipfjmlfbdkdaaGreatFc10
import Derived.Test.YtdipfjmlfbdkdaaGreatFc17
namespace Go.Proofs.YtdipfjmlfbdkdaaGreat
open Go.ChangeShapes Go.WideShapes Go.ChangeAt Go.RowKit
set_option linter.unusedVariables false
set_option maxHeartbeats 8000000
set_option maxRecDepth 100000
theorem Kb (G n gN cN gF cF gO cO gP cP:Nat)(E:Nat->List Nat)(O:List Nat)(w:World)(hn:n<=1024)(hP:Ce E n (B8 O))(hO:O.length=n)(hOn:O.Nodup)(hOm:∀x,x∈O↔x<n)(hsz:∀b,(AV E n b).length<=4096)
 (hcO:n<=cO) (h:Ak w G #[.slice (some ⟨gN,0,none⟩) n cN,.slice (some ⟨gF,0,none⟩) n cF,.slice (some ⟨gO,0,none⟩) n cO,.slice (some ⟨gP,0,none⟩) n cP,.slice none 0 0] 161) (hF:CK w gF 0 n (AV E n)) (hOr:∀k x:Nat,O.reverse[k]?=some x->w.cell? ⟨gO,k,none⟩=some (.int .i64 (x:Int))) (hPl:∀x,x<n->w.cell? ⟨gP,x,none⟩=some (.int .i64 (B8 O x:Int)))
 (hne:gN≠G/\gF≠G/\gO≠G/\gP≠G/\∀b a c,b<n->w.cell? ⟨gF,b,none⟩=some (.slice (some a) (AV E n b).length c)->a.block≠G):
 Calls Tryz.prog 87 #[.pointer (some ⟨G,0,none⟩)] w fun e w'=>e=.returned (.tuple #[])/\∃gi I,DW w w' G n #[.slice (some ⟨gN,0,none⟩) n cN,.slice (some ⟨gF,0,none⟩) n cF,.slice (some ⟨gO,0,none⟩) n cO,.slice (some ⟨gP,0,none⟩) n cP] gi I/\Hm E n (B8 O) I:=by
 obtain⟨K0,hK0⟩:=Om E n;obtain⟨K,hK1,hK⟩:∃K,1<=K/\∀e,e<n->∀x,x<n->CJ E (· ≠e) 0 x->DE E (· ≠e) 0 K x:=⟨K0+1,by omega,fun e he x hx hr=>(hK0 e he x hx hr).mono (by omega)⟩
 have H:Hid (Ak w G #[.slice (some ⟨gN,0,none⟩) n cN,.slice (some ⟨gF,0,none⟩) n cF,.slice (some ⟨gO,0,none⟩) n cO,.slice (some ⟨gP,0,none⟩) n cP,.slice none 0 0] 161/\CK w gF 0 n (AV E n)/\(∀k x:Nat,O.reverse[k]?=some x->w.cell? ⟨gO,k,none⟩=some (.int .i64 (x:Int)))/\(∀x,x<n->w.cell? ⟨gP,x,none⟩=some (.int .i64 (B8 O x:Int)))/\(gN≠G/\gF≠G/\gO≠G/\gP≠G/\∀b a c,b<n->w.cell? ⟨gF,b,none⟩=some (.slice (some a) (AV E n b).length c)->a.block≠G)):=⟨h,hF,hOr,hPl,hne⟩
 have HP:Hid (Ce E n (B8 O)/\O.Nodup/\(∀x,x∈O↔x<n)/\(∀b,(AV E n b).length<=4096)/\(∀e,e<n->∀x,x<n->CJ E (· ≠e) 0 x->DE E (· ≠e) 0 K x)/\(∀x,x<n->B8 O x<n)):=⟨hP,hOn,hOm,hsz,hK,fun x hx=>by have:=QX ((hOm x).2 hx);omega⟩
 have hpos:=hP.pos;have hGl:=h.lt;clear h hF hOr hPl hne hP hOn hOm hsz hK hK0;have c0:(w.alloc (.cells #[.int .i64 (-1)] 2)).cell? ⟨G,0,none⟩=some (.slice (some ⟨gN,0,none⟩) n cN):=(H.o.1.keep (Aa _ _)).cell 0;go_enter Tryz.func87,Tryz.ntmps87;go_wp2_with fail
 refine(M4 w.heap.size n _ hpos hn ((Ak.new w #[.int .i64 (-1)] 2).cell 0)).mono ?_;rintro e u1 ⟨gi,rfl,own1,b1⟩;rw[Q6]at own1;have bA:=Aa w (.cells #[.int .i64 (-1)] 2);have k1:=(H.o.1.keep bA).keep b1;have d4:u1.cell? ⟨G,4,none⟩=some (.slice none 0 0):=k1.cell 4;have z4:=k1.frozen 4
 have HD0:Hid (DW w (u1.setCell ⟨G,4,none⟩ (.slice (some ⟨gi,0,none⟩) n n)) G n #[.slice (some ⟨gN,0,none⟩) n cN,.slice (some ⟨gF,0,none⟩) n cF,.slice (some ⟨gO,0,none⟩) n cO,.slice (some ⟨gP,0,none⟩) n cP] gi (fun _=> -1)):=by
  have hb1:Below w.heap.size w u1:=Ab bA lR b1;have own1':=AF own1 (b:=w.heap.size) bA.size;have hgi:=(Am own1').1;refine⟨⟨_,_,_,_,rfl,?_⟩,aP own1' (a:=⟨G,4,none⟩) (by simp[Value.ownBlock];omega) _,fun k hk hne=> ?_,(hb1.mono (d8 hGl)).setCell lR _,by rw[cM];exact hb1.size,hGl⟩
  . have:=k1.set 4 (.slice (some ⟨gi,0,none⟩) n n)
    simpa using this
  . rw[bi u1 _ k _ hne]
    exact hb1.block k hk
 clear own1 b1 bA k1 c0
 have HPI:Hid (GQ E n (B8 O) 0 1 (fun _=> -1)):=⟨FO.start (fun _=>rfl),I9.start HP.o.1 (fun _=>rfl),fun x hx hl=>by
  by_cases e:x=0
  . exact .inl e
  . have:=HP.o.1.first x hx e
    omega,.inl rfl,rfl⟩
 go_wp2
 go_loopg [2] (K+2) (fun m v wr=>∃(ch:Bool) (I:Nat->Int) (k:Nat),v=.bool ch/\Hid (DW w wr G n #[.slice (some ⟨gN,0,none⟩) n cN,.slice (some ⟨gF,0,none⟩) n cF,.slice (some ⟨gO,0,none⟩) n cO,.slice (some ⟨gP,0,none⟩) n cP] gi I)/\((ch=true/\m+k=K+2/\k<=K/\Hid (GQ E n (B8 O) k 1 I))\/(ch=false/\Hid (Hm E n (B8 O) I))))
 case atStart=>exact⟨true,fun _=> -1,0,rfl,HD0,.inl ⟨rfl,rfl,by omega,HPI⟩⟩
 case round =>
  clear HD0 HPI d4 z4;obtain⟨ch,I0,k,rfl,HD,hcase⟩:=hrel;rcases hcase with⟨rfl,hm,hkK,HPI⟩|⟨rfl,HDN⟩
  . obtain ⟨w0,hw0⟩:∃W,W=wr:=⟨_,rfl⟩
    subst hw0
    have o2:w0.cell? ⟨G,2,none⟩=some (.slice (some ⟨gO,0,none⟩) n cO):=by
     obtain⟨x0,x1,x2,x3,e,kk⟩:=HD.o.blk;simp only[Array.mk.injEq,dN,cw]at e;obtain⟨rfl,rfl,rfl,rfl⟩:=e;exact kk.cell 2
    go_upto_region 4 with fail
    go_cut [21,22,23]from 17 to 22 (fun sv lv iv wx=>∃a c,sv=.slice a (n-1) c/\(1<n->a=some ⟨gO,1,none⟩)/\lv=.int .i64 ((n-1:Nat):Int)/\iv=.int .i64 0/\wx=w0)
    case first=>
     by_cases hc1:cO=1
     . subst hc1
       obtain rfl:n=1:=by omega
       go_wp2
       go_meet
       case rel=>exact⟨_,_,rfl,fun q=>(by omega),rfl,rfl,rfl⟩
     . have hc2:1<cO:=by omega
       go_wp2
       go_meet
       case rel=>exact⟨_,_,rfl,fun q=>rfl,by go_num,rfl,rfl⟩
    case rest=>
     obtain⟨asl,csl,rfl,ha,rfl,rfl,hwc⟩:=hcut;rw[hwc];clear hwc o2
     have HGI:Hid (∀(U:World) (J:Nat->Int),DW w U G n #[.slice (some ⟨gN,0,none⟩) n cN,.slice (some ⟨gF,0,none⟩) n cF,.slice (some ⟨gO,0,none⟩) n cO,.slice (some ⟨gP,0,none⟩) n cP] gi J->GI U G n gP cP gi n (B8 O) J/\U.cell? ⟨G,1,none⟩=some (.slice (some ⟨gF,0,none⟩) n cF)):=fun U J hU=>by
      obtain⟨x0,x1,x2,x3,e,kk⟩:=hU.blk;simp only[Array.mk.injEq,dN,cw]at e;obtain⟨rfl,rfl,rfl,rfl⟩:=e;refine⟨⟨kk.cell 3,kk.cell 4,fun x hx=>hU.cell (H.o.2.2.2.1 x hx) H.o.2.2.2.2.2.2.2.1,fun x hx=> ?_⟩,kk.cell 1⟩;have:=hU.row.cellAt x (by omega);rw[L7 _ _ _ hx]at this;exact this
     go_wp2
     go_loopw [2,23] (fun v i wr=>∃(ch:Bool) (J:Nat->Int) (j:Nat),v=.bool ch/\i=.int .i64 (j:Int)/\j+1<=n/\Hid (DW w wr G n #[.slice (some ⟨gN,0,none⟩) n cN,.slice (some ⟨gF,0,none⟩) n cF,.slice (some ⟨gO,0,none⟩) n cO,.slice (some ⟨gP,0,none⟩) n cP] gi J/\GQ E n (B8 O) k (j+1) J/\(ch=false->J=I0/\∀b,b<n->b≠0->B8 O b<j+1->AQ n J (AV E n b) (J b))/\(K<=k->ch=false))) (fun _ i _=>n-(intOf i).toNat)
     case atStart=>exact⟨false,I0,0,rfl,rfl,by omega,HD.o,HPI.o,fun _=>⟨rfl,fun b hb hb0 hl=>by have:=HP.o.1.first b hb hb0;omega⟩,fun _=>rfl⟩
     case round=>
      obtain⟨ch,J,j,rfl,rfl,hj,HL⟩:=hrel;by_cases hlt:j<n-1
      . have hltI:(j:Int)<((n-1:Nat):Int):=by omega
        obtain rfl:=ha (by omega);obtain⟨b,hb⟩:∃b,O.reverse[j+1]?=some b:=⟨_,aA (by rw[bV];omega)⟩;have hbO:b∈O:=cW.1 (aE hb);have hbn:b<n:=(HP.o.2.2.1 b).1 hbO;have hbnI:(b:Int)<(n:Int):=by omega
        have hpb:B8 O b=j+1:=by
         have h1:=FK hbO;have hd:O.reverse.Nodup:=List.pairwise_reverse.2 (HP.o.2.1.imp Ne.symm);obtain⟨l1,e1⟩:=aD.1 h1;obtain⟨l2,e2⟩:=aD.1 hb;exact(List.getElem_inj hd).1 (e1.trans e2.symm)
        have hb0:b≠0:=fun q=>by have:=HP.o.1.zero;rw[q]at hpb;omega
        have ob:=HL.o.1.cell (H.o.2.2.1 (j+1) b hb) H.o.2.2.2.2.2.2.1;rw[Nat.add_comm]at ob;obtain⟨hgi,f1⟩:=HGI.o _ _ HL.o.1;obtain⟨af,cf,e0,e1⟩:=H.o.2.1 b hbn;rw[bt]at e0
        have HPS:Hid (DR wr (.slice af (AV E n b).length cf) (AV E n b)):=by
         refine⟨e1.1,e1.2.imp id ?_⟩;rintro⟨g',o',c',q1,q2⟩;refine⟨g',o',c',q1,fun jj v hv=>HL.o.1.cell (q2 jj v hv) ?_⟩;simp only[aF,aw]at q1;exact H.o.2.2.2.2.2.2.2.2 b ⟨g',o',none⟩ cf hbn (by rw[e0,q1.1])
        have f2:=HL.o.1.cell e0 H.o.2.2.2.2.2.1;have HGJ:Hid (GI wr G n gP cP gi n (B8 O) J):=hgi;have HB:Hid (b∈O/\B8 O b=j+1):=⟨hbO,hpb⟩
        clear e0 e1 hgi hb hbO;go_wp2_with fail
        refine(J8 G n gP cP gi n (B8 O) J _ (AV E n b) wr hn HL.o.2.1.dinv.tree HP.o.1.zero HP.o.1.inj (fun p hp=>((BS E n b p).1 hp).1) (HP.o.2.2.2.1 b) HPS.o HGJ.o).mono ?_;rintro e u5 ⟨z,rfl,hz,b5⟩;have HL5:Hid (DW w u5 G n #[.slice (some ⟨gN,0,none⟩) n cN,.slice (some ⟨gF,0,none⟩) n cF,.slice (some ⟨gO,0,none⟩) n cO,.slice (some ⟨gP,0,none⟩) n cP] gi J):=HL.o.1.keep b5;obtain⟨hgi,f1'⟩:=HGI.o _ _ HL5.o;have i4:=hgi.i;have ib:=hgi.ic b hbn;have iz:=HL5.o.row.frozenAt b;obtain⟨J',hJ'⟩:∃J':Nat->Int,∀y,J' y=if y=b then z else J y:=⟨_,fun y=>rfl⟩
        have HN:Hid (DW w (u5.setCell ⟨gi,b,none⟩ (.int .i64 z)) G n #[.slice (some ⟨gN,0,none⟩) n cN,.slice (some ⟨gF,0,none⟩) n cF,.slice (some ⟨gO,0,none⟩) n cO,.slice (some ⟨gP,0,none⟩) n cP] gi J'/\GQ E n (B8 O) k (j+1+1) J'/\(z=J b->J'=J)/\AQ n J (AV E n b) z/\(K<=k->z=J b)):=by
         refine⟨HL5.o.set b z hJ',HL.o.2.1.step HP.o.1 hbn hb0 HB.o.2 hz hJ',fun q=> ?_,hz,fun hkk=> ?_⟩
         . funext y
           rw[hJ' y];by_cases e:y=b
           . rw[a8 e,q,e]
           . rw[bF e]
         . have hall:∀x,x<n->Kn J x:=HL.o.2.1.all.resolve_left (by omega)
           refine PS HP.o.1 HL.o.2.1.dinv hall (fun x hx d hd hr=> ?_) hbn hb0 (EL E n b) hz;have hdn:=(hd.pls HL.o.2.1.dinv.tree hx).2.2;exact(HL.o.2.1.uinv x hx (hall x hx) d hd).1 ((HP.o.2.2.2.2.1 d hdn x hx hr).mono hkk)
        clear hgi hz b5 HGJ HPS f1 f2 ob;go_upto_region 8 with fail
        go_cut [2]from 36 to 47 (fun c wx=>(∃c':Bool,c=.bool c'/\(c'=false->ch=false/\z=J b)/\(ch=false->z=J b->c'=false))/\wx=u5)
        case first=>
         cases ch
         . by_cases hzb:z=J b
           . have hzB:(z != J b)=false:=by simp[hzb]
             have HZ:Hid (z=J b):=hzb;clear hzb;go_wp2
             go_meet
             case rel=>exact⟨⟨_,rfl,fun _=>⟨trivial,HZ.o⟩,fun _ _=>rfl⟩,rfl⟩
           . have hzB:(z != J b)=true:=by simp[hzb]
             have HZ:Hid (¬z=J b):=hzb;clear hzb;go_wp2
             go_meet
             case rel=>exact⟨⟨_,rfl,(fun q=>(by cases q)),(fun _ q=>absurd q HZ.o)⟩,rfl⟩
         . go_wp2
           go_meet
           case rel=>exact⟨⟨_,rfl,(fun q=>(by cases q)),(fun q=>(by cases q))⟩,rfl⟩
        case rest=>
         obtain⟨⟨c',rfl,hc1,hc2⟩,hwc⟩:=hcut;rw[hwc];clear hwc;go_wp2
         go_roundw
         case rel=>
          refine⟨c',J',j+1,rfl,by go_num,by omega,HN.o.1,HN.o.2.1,fun q=> ?_,fun q=>hc2 (HL.o.2.2.2 q) (HN.o.2.2.2.2 q)⟩;obtain⟨q1,q2⟩:=hc1 q;obtain⟨r1,r2⟩:=HL.o.2.2.1 q1;have r3:=HN.o.2.2.1 q2;refine⟨r3.trans r1,fun y hy hy0 hl=> ?_⟩;rw[r3];by_cases e:y=b
          . rw[e,<-q2]
            exact HN.o.2.2.2.1
          . refine r2 y hy hy0 ?_
            have h1:=HP.o.1.inj y b hy hbn;have h2:=HB.o.2;omega
         case measure=>simp[intOf];omega
      . have hjn:j+1=n:=by omega
        have hltI:¬(j:Int)<((n-1:Nat):Int):=by omega
        have HPN:Hid (GQ E n (B8 O) (k+1) 1 J/\∀x,x<n->Kn J x):=by
         have h0:=HL.o.2.1;rw[hjn]at h0;have hall:∀x,x<n->Kn J x:=fun x hx=>h0.kn x hx (HP.o.2.2.2.2.2 x hx)
         exact⟨⟨h0.dinv,h0.uinv.pass HP.o.1 HP.o.2.2.2.2.2,fun x hx _=>hall x hx,.inr hall,h0.z⟩,hall⟩
        cases ch
        . have HDN:Hid (Hm E n (B8 O) J):=by
           obtain⟨_,q2⟩:=HL.o.2.2.1 rfl;refine⟨HPN.o.1.dinv,HPN.o.2,fun d x hx=>PT HP.o.1 HPN.o.1.dinv HPN.o.2 (AV E n) (fun b _=>EL E n b) (fun b hb hb0=>q2 b hb hb0 (by rw[hjn];exact HP.o.2.2.2.2.2 b hb)) hx,HPN.o.1.z⟩
          go_wp2
          go_roundg 0
          case measure=>omega
          case rel=>exact⟨false,J,0,rfl,HL.o.1,.inr ⟨rfl,HDN⟩⟩
        . have hkk:k<K:=by
           by_cases q:K<=k
           . have:=HL.o.2.2.2 q
             cases this
           . omega
          go_wp2
          go_roundg (gk-1)
          case measure=>omega
          case rel=>exact⟨true,J,k+1,rfl,HL.o.1,.inl ⟨rfl,by omega,by omega,HPN.o.1⟩⟩
  . go_wp2
    go_end0
    exact⟨rfl,gi,I0,HD.o,HDN.o⟩
def KN(xs:List MI)(bs:List MB):Prop:=(¬Aw xs/\bs=[])\/Aw xs/\bs=Ao xs
theorem KN.one{xs:List MI}{bs bs':List MB}(h:KN xs bs)(h':KN xs bs'):bs=bs':=by
 rcases h with⟨h1,rfl⟩|⟨h1,rfl⟩<;>rcases h' with⟨h2,rfl⟩|⟨h2,rfl⟩
 . rfl
 . exact absurd h2 h1
 . exact absurd h1 h2
 . rfl
theorem KN.small{xs:List MI}{bs:List MB}(h:KN xs bs):bs.length<=1048576/\∀f∈bs,f.small:=by
 rcases h with⟨h1,rfl⟩|⟨h1,rfl⟩
 . exact⟨by simp,fun f hf=>(by cases hf)⟩
 . refine⟨?_,?_⟩
   . unfold Ao
     rw[a7,Bd];have:=cJ (A8 xs xs.length) (List.range xs.length);have h2:=h1.2.1;simp only[bo]at this;exact aY this (by omega)
   . intro f hf
     unfold Ao at hf;obtain⟨m,_,rfl⟩:=au.1 hf;show(Cy xs m).next.length<=1048576;simp only[Cy,C4];split<;>split<;>simp
theorem Eu.rd{w:World}{base:Nat}{V:Value}{F:List (MB×Value)}(h:Eu w base V F):FR w V (F.map Prod.fst):=by
 refine⟨F,rfl,?_,fun x hx=>Rd.of_own (h.fam.own (x.2,x.1.next) (by unfold Cw;exact de (f:=fun x=>(x.2,x.1.next)) hx))⟩;rw[a7];exact Rd.of_own h.row
theorem Eu.keep{w w':World}{base:Nat}{V:Value}{F:List (MB×Value)}(h:Eu w base V F)(hb:Below w.heap.size w w'):Eu w' base V F:=⟨Ag h.row hb lR,h.fam.keep hb⟩
structure PF(w6 u:World)(X:Nat)(Vb Vo Vi:Value)(Is:List Int)(Vl:Value)(ys:List (ML×Value×Value)):Prop where
 blk:Ak u X #[.int .i64 0,.int .i64 0,Vb,Vo,Vi,Vl] 52
 fam:Cc u w6.heap.size ((Vi,Is)::Df ys)
 lps:u.ownsRow w6.heap.size 68 3 Vl ys.length (ys.flatMap Ba)
 fx:∀k,k<w6.heap.size->k≠X->u.heap[k]?=w6.heap[k]?
 size:w6.heap.size<=u.heap.size
 bel:Below X w6 u
 lt:X<w6.heap.size
theorem PF.keep{w6 u u':World}{X:Nat}{Vb Vo Vi Vl:Value}{Is:List Int}{ys:List (ML×Value×Value)}(h:PF w6 u X Vb Vo Vi Is Vl ys)(hb:Below u.heap.size u u'):PF w6 u' X Vb Vo Vi Is Vl ys:=⟨h.blk.keep hb,h.fam.keepB hb,Ag h.lps hb lR,fun k hk hne=>by rw[hb.block k (bY hk h.size)];exact h.fx k hk hne,aY h.size hb.size,h.bel.trans (hb.mono (by have:=h.lt;have:=h.size;omega)),h.lt⟩
theorem PF.cell{w6 u:World}{X:Nat}{Vb Vo Vi Vl:Value}{Is:List Int}{ys:List (ML×Value×Value)}(h:PF w6 u X Vb Vo Vi Is Vl ys){a:Addr}{x:Value}(hb:w6.cell? a=some x)(hne:a.block≠X):u.cell? a=some x:=by
 have:=h.fx a.block (aC hb) hne;unfold World.cell? at*;rw[this];exact hb
theorem PF.idom{w6 u u':World}{X g cap:Nat}{Vb Vo Vi Vl:Value}{Is:List Int}{ys:List (ML×Value×Value)}{z:Int}(h:PF w6 u X Vb Vo Vi Is Vl ys)(hown:u'.ownsRow w6.heap.size 2 1 (.slice (some ⟨g,0,none⟩) (Is.length+1) cap) (Is.length+1) (Is.flatMap Ac++[.int .i64 z]))(hg:u.grownBy u' Vi.ownBlock)(hat:Vi.ownBlock=some g\/g=u.heap.size):Ak u' X #[.int .i64 0,.int .i64 0,Vb,Vo,Vi,Vl] 52/\PF w6 (u'.setCell ⟨X,4,none⟩ (.slice (some ⟨g,0,none⟩) (Is.length+1) cap)) X Vb Vo (.slice (some ⟨g,0,none⟩) (Is.length+1) cap) (Is++[z]) Vl ys:=by
 have oI:=h.fam.own (Vi,Is) (bR ..);have kb:=h.blk.grown hg oI (by decide);have kl:u'.ownsRow w6.heap.size 68 3 Vl ys.length (ys.flatMap Ba):=Bg h.lps hg oI (by decide)
 have kf:Cc u' w6.heap.size ((.slice (some ⟨g,0,none⟩) (Is.length+1) cap,Is++[z])::Df ys):=by
  have:=Cc.grow (A:=[]) (l':=Is++[z]) (V':=.slice (some ⟨g,0,none⟩) (Is.length+1) cap) (g:=g) h.fam (by
   rw[aH,aI,bP];exact hown) rfl hg (hat.imp id fun e=>by omega)
  simpa using this
 refine⟨kb,?_,kf.other kb (by decide) 4 _,aP kl (a:=⟨X,4,none⟩) (DS kb kl (by decide)) _,fun k hk hne=> ?_,?_,?_,h.lt⟩
 . have:=kb.set 4 (.slice (some ⟨g,0,none⟩) (Is.length+1) cap)
   simpa using this
 . rw[bi u' _ k _ hne,hg.block k (bY hk h.size) (fun e=>by have:=(oI.lt k e.symm).1;omega)]
   exact h.fx k hk hne
 . rw[cM]
   exact aY h.size hg.size
 . exact(h.bel.grown hg (by have:=h.lt;have:=h.size;omega) (fun i hi=>by have:=(oI.lt i hi).1;have:=h.lt;omega)).setCell lR _
theorem PF.loop{w6 u u1 u':World}{X g cap:Nat}{Vb Vo Vi Vl BV KV:Value}{Is:List Int}{ys:List (ML×Value×Value)}{m:ML}(h:PF w6 u X Vb Vo Vi Is Vl ys)(hb:Below u.heap.size u u1)(h1:u1.ownsRow u.heap.size 2 1 BV m.back.length (m.back.flatMap Ac))(h2:u1.ownsRow u.heap.size 2 1 KV m.blocks.length (m.blocks.flatMap Ac))(hne:∀q,BV.ownBlock=some q->KV.ownBlock≠some q)(hown:u'.ownsRow w6.heap.size 68 3 (.slice (some ⟨g,0,none⟩) (ys.length+1) cap) (ys.length+1) (ys.flatMap Ba++[.int .i64 m.head,BV,KV]))(hg:u1.grownBy u' Vl.ownBlock):Ak u' X #[.int .i64 0,.int .i64 0,Vb,Vo,Vi,Vl] 52/\PF w6 (u'.setCell ⟨X,5,none⟩ (.slice (some ⟨g,0,none⟩) (ys.length+1) cap)) X Vb Vo Vi Is (.slice (some ⟨g,0,none⟩) (ys.length+1) cap) (ys++[(m,BV,KV)]):=by
 have h':=h.keep hb;have kb:=h'.blk.grown hg h'.lps (by decide)
 have kf0:Cc u1 w6.heap.size ((Vi,Is)::Df (ys++[(m,BV,KV)])):=by
  have:=h.fam.join2 hb h1 h2 hne h.size;simpa[Df]using this
 have kf:Cc u' w6.heap.size ((Vi,Is)::Df (ys++[(m,BV,KV)])):=kf0.grown_other hg h'.lps (by decide);refine⟨kb,?_,kf.other kb (by decide) 5 _,?_,fun k hk hne=> ?_,?_,?_,h.lt⟩
 . have:=kb.set 5 (.slice (some ⟨g,0,none⟩) (ys.length+1) cap)
   simpa using this
 . rw[aH,aI,bP]
   exact aP hown (a:=⟨X,5,none⟩) (DS kb hown (by decide)) _
 . rw[bi u' _ k _ hne,hg.block k (bY hk h'.size) (fun e=>by have:=(h'.lps.lt k e.symm).1;omega)]
   exact h'.fx k hk hne
 . rw[cM]
   exact aY h'.size hg.size
 . exact(h'.bel.grown hg (by have:=h.lt;have:=h'.size;omega) (fun i hi=>by have:=(h'.lps.lt i hi).1;have:=h.lt;omega)).setCell lR _
theorem Di(E:Nat->List Nat)(D L:Nat->Nat->Bool)(n b:Nat):AZ E D L n (b+1)=AZ E D L n b++(if An E D n b=[]then[]else[⟨(b:Int),ints (An E D n b),ints ((List.range n).filter (L b))⟩]):=by
 unfold AZ;rw[cj,List.filterMap_append];by_cases h:An E D n b=[]
 . simp[h]
 . simp[h]
theorem BI{w:World}{b:Nat}{t:TypeId}{a0 a1 a2:Value}(h:Ak w b #[a0,a1,a2] t):w.cell? ⟨b,0,none⟩=some a0/\w.cell? ⟨b,1,none⟩=some a1/\w.cell? ⟨b,2,none⟩=some a2:=⟨h.cell 0,h.cell 1,h.cell 2⟩
theorem Bw(w:World)(A B:Array Value)(s t:TypeId):Ak ((w.alloc (.cells A s)).alloc (.cells B t)) w.heap.size A s/\Ak ((w.alloc (.cells A s)).alloc (.cells B t)) (w.heap.size+1) B t/\Below w.heap.size w ((w.alloc (.cells A s)).alloc (.cells B t)):=by
 have b1:=Aa w (.cells A s);have b2:=Aa (w.alloc (.cells A s)) (.cells B t);refine⟨(Ak.new w _ _).keep b2,?_,Ab b1 lR b2⟩;have k2:=Ak.new (w.alloc (.cells A s)) B t;have e1:(w.alloc (.cells A s)).heap.size=w.heap.size+1:=by simp
 rw[e1]at k2;exact k2
theorem Ef(w:World)(A B C:Array Value)(s t r:TypeId):Ak (((w.alloc (.cells A s)).alloc (.cells B t)).alloc (.cells C r)) w.heap.size A s/\Ak (((w.alloc (.cells A s)).alloc (.cells B t)).alloc (.cells C r)) (w.heap.size+1) B t/\Ak (((w.alloc (.cells A s)).alloc (.cells B t)).alloc (.cells C r)) (w.heap.size+1+1) C r/\Below w.heap.size w (((w.alloc (.cells A s)).alloc (.cells B t)).alloc (.cells C r)):=by
 obtain⟨h1,h2,h3⟩:=Bw w A B s t;generalize e1:(w.alloc (.cells A s)).alloc (.cells B t)=u at*;have e2:u.heap.size=w.heap.size+1+1:=by rw[<-e1];simp
 have b1:=Aa u (.cells C r);have k2:=Ak.new u C r;rw[e2]at k2;exact⟨h1.keep b1,h2.keep b1,k2,Ab h3 lR b1⟩
theorem ML.same_iff(a b:ML):a=b↔a.head=b.head/\a.back=b.back/\a.blocks=b.blocks:=by
 obtain⟨a1,a2,a3⟩:=a;obtain⟨b1,b2,b3⟩:=b;simp
theorem EQ(a b:ML)(v1 v2 u1 u2:Value)(w:World)(ha:a.back.length<=1048576/\a.blocks.length<=1048576)(hb:b.back.length<=1048576/\b.blocks.length<=1048576)(h:Nl w (a,v1,v2))(h':Nl w (b,u1,u2)):
 Calls Tryz.prog 48 #[.agg #[.int .i64 a.head,v1,v2],.agg #[.int .i64 b.head,u1,u2]] w fun e w'=>Aj e (a=b)/\Below w.heap.size w w':=by
 have H:Hid (Nl w (a,v1,v2)/\Nl w (b,u1,u2)/\(a.back.length<=1048576/\a.blocks.length<=1048576)/\b.back.length<=1048576/\b.blocks.length<=1048576):=⟨h,h',ha,hb⟩
 clear h h' ha hb;have E0:=Bw w #[.int .i64 a.head,v1,v2] #[.int .i64 b.head,u1,u2] 68 68;go_enter Tryz.func48,Tryz.ntmps48;go_upto_region 1 with fail
 refine Al (fun u=>Ak u w.heap.size #[.int .i64 a.head,v1,v2] 68/\Ak u (w.heap.size+1) #[.int .i64 b.head,u1,u2] 68/\Below w.heap.size w u) E0 ?_
 rintro U E1;clear E0;have HE:Hid (Ak U w.heap.size #[.int .i64 a.head,v1,v2] 68/\Ak U (w.heap.size+1) #[.int .i64 b.head,u1,u2] 68/\Below w.heap.size w U):=E1
 clear E1;obtain⟨p0,p1,p2⟩:=BI HE.o.1;obtain⟨o0,o1,o2⟩:=BI HE.o.2.1;by_cases q:a.head=b.head
 . have HQ:Hid (a.head=b.head):=q
   rw[q]at p0;clear q;go_wp2_with fail
   refine(It v1 u1 a.back b.back U H.o.2.2.1.1 H.o.2.2.2.1 (H.o.1.1.keep HE.o.2.2 lR) (H.o.2.1.1.keep HE.o.2.2 lR)).mono ?_;rintro e u3 ⟨⟨b1,rfl,hb1⟩,m1,e1⟩
   have HE1:Hid (Ak u3 w.heap.size #[.int .i64 a.head,v1,v2] 68/\Ak u3 (w.heap.size+1) #[.int .i64 b.head,u1,u2] 68/\Below w.heap.size w u3):=by
    subst e1;exact⟨HE.o.1.keep (Af _ _ _),HE.o.2.1.keep (Af _ _ _),Ab HE.o.2.2 lR (Af _ _ _)⟩
   have HB:Hid (b1=true↔a.back=b.back):=hb1;clear HE p0 p1 p2 o0 o1 o2 e1 hb1;obtain⟨p0,p1,p2⟩:=BI HE1.o.1;obtain⟨o0,o1,o2⟩:=BI HE1.o.2.1;cases b1
   . go_wp2
     go_ret
     exact⟨.no (fun e=>by have:=HB.o.2 ((ML.same_iff a b).1 e).2.1;simp at this),HE1.o.2.2⟩
   . go_wp2_with fail
     refine(It v2 u2 a.blocks b.blocks u3 H.o.2.2.1.2 H.o.2.2.2.2 (H.o.1.2.keep HE1.o.2.2 lR) (H.o.2.1.2.keep HE1.o.2.2 lR)).mono ?_;rintro e u4 ⟨⟨b2,rfl,hb2⟩,m2,e2⟩
     have HE2:Hid (Below w.heap.size w u4):=by
      subst e2;exact Ab HE1.o.2.2 lR (Af _ _ _)
     have HB2:Hid (b2=true↔a.blocks=b.blocks):=hb2;clear HE1 p0 p1 p2 o0 o1 o2 e2 hb2;go_wp2
     go_ret
     exact⟨.of ⟨fun e=>(ML.same_iff a b).2 ⟨HQ.o,HB.o.1 (by first|rfl|trivial),HB2.o.1 e⟩,fun e=>HB2.o.2 ((ML.same_iff a b).1 e).2.2⟩,HE2.o⟩
 . go_wp2
   go_ret
   exact⟨.no fun e=>q ((ML.same_iff a b).1 e).1,HE.o.2.2⟩
theorem OX:(Tryz.prog.info? 28).map (fun i=>(i.zero,i.size,i.bytes))=some (some (.slice none 0 0),1,24):=by kernel_rfl
theorem JJ(n:Nat):(madeCells (Value.slice none 0 0).cells (n*1)).toList=List.replicate n (.slice none 0 0):=by
 rw[Bu (fun b:Bool=>[Value.bool b]) [.slice none 0 0] [] n (.slice none 0 0) 1 rfl rfl (by omega)];simp[A7,List.flatten_replicate_singleton]
structure Re(w u:World)(n G gF gP:Nat):Prop where
 blk:Ak u G #[.slice none 0 0,.slice (some ⟨gF,0,none⟩) n n,.slice none 0 0,.slice (some ⟨gP,0,none⟩) n n,.slice none 0 0] 161
 frow:u.ownsRow w.heap.size 28 1 (.slice (some ⟨gF,0,none⟩) n n) n (List.replicate n (.slice none 0 0))
 prow:u.ownsRow w.heap.size 2 1 (.slice (some ⟨gP,0,none⟩) n n) n (iv (fun _=>0) n)
 bel:Below w.heap.size w u
 ge:w.heap.size<=G
theorem Re.of{w W:World}{n gF gP:Nat}(hf:W.ownsRow w.heap.size 28 1 (.slice (some ⟨gF,0,none⟩) n n) n (List.replicate n (.slice none 0 0)))(hp:W.ownsRow w.heap.size 2 1 (.slice (some ⟨gP,0,none⟩) n n) n (iv (fun _=>0) n))(hb:Below w.heap.size w W):Re w (W.alloc (.cells #[.slice none 0 0,.slice (some ⟨gF,0,none⟩) n n,.slice none 0 0,.slice (some ⟨gP,0,none⟩) n n,.slice none 0 0] 161)) n W.heap.size gF gP:=⟨Ak.new _ _ _,Ag hf (Aa _ _) lR,Ag hp (Aa _ _) lR,Ab hb lR (Aa _ _),hb.size⟩
theorem Cr{w w':World}(hg:w.grownBy w' none):Below w.heap.size w w':=(aX _ _).grown hg lR (fun k hk=>by cases hk)
def De(E:Nat->List Nat)(b k x:Nat):List Nat:=(((E b).take k).filter fun y=>decide (y=x)).map fun _=>b
theorem Ij(E:Nat->List Nat)(b x:Nat):AV E (b+1) x=AV E b x++De E b (E b).length x:=by
 unfold AV De;rw[cj,bP];simp
theorem Ms(E:Nat->List Nat)(b x:Nat):De E b 0 x=[]:=by simp[De]
theorem Mr{E:Nat->List Nat}{b k y:Nat}(hy:(E b)[k]?=some y)(x:Nat):De E b (k+1) x=if x=y then De E b k x++[b]else De E b k x:=by
 obtain⟨hl,e⟩:=aD.1 hy;unfold De;rw[ah hl,ce,bx,e];by_cases q:x=y
 . subst q;simp
 . simp[q,Ne.symm q]
theorem JD(E:Nat->List Nat)(b k x:Nat):(De E b k x).length<=(E b).length:=by
 unfold De;rw[a7];refine aY (cJ _ _) ?_;rw[bp];omega
theorem GA{E:Nat->List Nat}(hsz:∀b,(E b).length<=2)(b x:Nat):(AV E b x).length<=2*b:=by
 induction b with
 |zero=>simp[AV]
 | succ b ih=>
   have h1:=JD E b (E b).length x;have h2:=hsz b;rw[Ij,aH];omega
structure NG(w w2 u:World)(n G gF:Nat)(PV:Value)(NV:Value)(NS:List Value)(FS:List (Value×List Nat)):Prop where
 blk:Ak u G #[NV,.slice (some ⟨gF,0,none⟩) n n,.slice none 0 0,PV,.slice none 0 0] 161
 nrow:u.ownsRow w2.heap.size 28 1 NV NS.length NS
 frow:u.ownsRow w.heap.size 28 1 (.slice (some ⟨gF,0,none⟩) n n) n (FS.map Prod.fst)
 fam:Cc u w2.heap.size (FS.map fun x=>(x.1,ints x.2))
 fx:∀k,k<w2.heap.size->k≠G->k≠gF->u.heap[k]?=w2.heap[k]?
 size:w2.heap.size<=u.heap.size
 bel:Below w.heap.size w u
 lt:w.heap.size<=G/\G<w2.heap.size/\gF<w2.heap.size
theorem NG.keep{w w2 u u':World}{n G gF:Nat}{PV NV:Value}{NS:List Value}{FS:List (Value×List Nat)}(h:NG w w2 u n G gF PV NV NS FS)(hb:Below u.heap.size u u'):NG w w2 u' n G gF PV NV NS FS:=⟨h.blk.keep hb,Ag h.nrow hb lR,Ag h.frow hb lR,h.fam.keepB hb,fun k hk h1 h2=>by rw[hb.block k (bY hk h.size)];exact h.fx k hk h1 h2,aY h.size hb.size,Ab h.bel lR hb,h.lt⟩
theorem NG.next{w w2 u u':World}{n G gF g cap:Nat}{PV NV x:Value}{NS:List Value}{FS:List (Value×List Nat)}(h:NG w w2 u n G gF PV NV NS FS)(hw:w.heap.size<=w2.heap.size)(hown:u'.ownsRow w2.heap.size 28 1 (.slice (some ⟨g,0,none⟩) (NS.length+1) cap) (NS.length+1) (NS++[x]))(hg:u.grownBy u' NV.ownBlock):Ak u' G #[NV,.slice (some ⟨gF,0,none⟩) n n,.slice none 0 0,PV,.slice none 0 0] 161/\NG w w2 (u'.setCell ⟨G,0,none⟩ (.slice (some ⟨g,0,none⟩) (NS.length+1) cap)) n G gF PV (.slice (some ⟨g,0,none⟩) (NS.length+1) cap) (NS++[x]) FS:=by
 have kb:=h.blk.grown hg h.nrow (by decide)
 have kf:u'.ownsRow w.heap.size 28 1 (.slice (some ⟨gF,0,none⟩) n n) n (FS.map Prod.fst):=Cs h.frow hg (fun gg hgg e=>by
  have h1:=(h.nrow.lt gg e.symm).1;simp only[Value.ownBlock,aR]at hgg;have:=h.lt.2.2;omega)
 have km:=h.fam.grown_other hg h.nrow (by decide);refine⟨kb,?_,?_,?_,km.other kb (by decide) 0 _,fun k hk h1 h2=> ?_,?_,?_,h.lt⟩
 . have:=kb.set 0 (.slice (some ⟨g,0,none⟩) (NS.length+1) cap)
   simpa using this
 . rw[aH,aI]
   exact aP hown (a:=⟨G,0,none⟩) (DS kb hown (by decide)) _
 . exact aP kf (a:=⟨G,0,none⟩) (DS kb kf (by decide)) _
 . rw[bi u' _ k _ h1,hg.block k (bY hk h.size) (fun e=>by have:=(h.nrow.lt k e.symm).1;omega)]
   exact h.fx k hk h1 h2
 . rw[cM]
   exact aY h.size hg.size
 . exact(h.bel.grown hg h.bel.size (fun i hi=>aY hw (h.nrow.lt i hi).1)).setCell h.lt.1 _
theorem NI{α:Type}(A B:List α)(x y:α):(A++x::B).set A.length y=A++y::B:=by
 rw[dE _ _ lR,cg];rfl
theorem NG.app{w w2 u u':World}{n G gF g cap y b:Nat}{PV NV V:Value}{NS:List Value}{FS:List (Value×List Nat)}{l:List Nat}(h:NG w w2 u n G gF PV NV NS FS)(hw:w.heap.size<=w2.heap.size)(hy:FS[y]?=some (V,l))(hown:u'.ownsRow w2.heap.size 2 1 (.slice (some ⟨g,0,none⟩) (l.length+1) cap) (l.length+1) (nv l++[.int .i64 (b:Int)]))(hg:u.grownBy u' V.ownBlock)(hat:V.ownBlock=some g\/g=u.heap.size):u'.ownsRow w.heap.size 28 1 (.slice (some ⟨gF,0,none⟩) n n) n (FS.map Prod.fst)/\NG w w2 (u'.setCell ⟨gF,y,none⟩ (.slice (some ⟨g,0,none⟩) (l.length+1) cap)) n G gF PV NV NS (FS.set y (.slice (some ⟨g,0,none⟩) (l.length+1) cap,l++[b])):=by
 obtain⟨hyl,hye⟩:=aD.1 hy;have hFS:FS=FS.take y++(V,l)::FS.drop (y+1):=by rw[<-hye,<-cE hyl,dm]
 have hlen:(FS.take y).length=y:=by rw[bp];omega
 have oV:=h.fam.own (V,ints l) (au.2 ⟨(V,l),aE hy,rfl⟩);have kb:=h.blk.grown hg oV (by decide);have kn:u'.ownsRow w2.heap.size 28 1 NV NS.length NS:=Bg h.nrow hg oV (by decide);have kf:u'.ownsRow w.heap.size 28 1 (.slice (some ⟨gF,0,none⟩) n n) n (FS.map Prod.fst):=Bg h.frow hg oV (by decide)
 have hset:FS.set y (.slice (some ⟨g,0,none⟩) (l.length+1) cap,l++[b])=FS.take y++(.slice (some ⟨g,0,none⟩) (l.length+1) cap,l++[b])::FS.drop (y+1):=by
  have:=NI (FS.take y) (FS.drop (y+1)) (V,l) (.slice (some ⟨g,0,none⟩) (l.length+1) cap,l++[b]);rw[hlen,<-hFS]at this;exact this
 have km:Cc u' w2.heap.size ((FS.set y (.slice (some ⟨g,0,none⟩) (l.length+1) cap,l++[b])).map fun x=>(x.1,ints x.2)):=by
  have h0:=h.fam;rw[hFS,bx,cZ]at h0;rw[hset,bx,cZ];refine Cc.grow (g:=g) h0 ?_ rfl hg (hat.imp id fun e=>by omega);simp only[];rw[AA,aH,aI,<-Ck,DC];exact hown
 have hgF:=h.lt.2.2;have hFl:gF≠G:=fun e=>DS kb kf (by decide) (by rw[e];rfl)
 have hnn:NV.ownBlock≠some gF:=fun e=>by have:=(kn.lt gF e).1;omega
 refine⟨kf,kb.other (Ne.symm hFl) _,aP kn (a:=⟨gF,y,none⟩) hnn _,?_,⟨fun x hx=> ?_,km.sep⟩,fun k hk h1 h2=> ?_,?_,?_,h.lt⟩
 . have:=(kf.stored y (.slice (some ⟨g,0,none⟩) (l.length+1) cap)).1
   rw[List.map_set];exact this
 . refine aP (km.own x hx) (a:=⟨gF,y,none⟩) (fun e=> ?_) _
   have:=((km.own x hx).lt gF e).1;omega
 . rw[bi u' _ k _ h2,hg.block k (bY hk h.size) (fun e=>by have:=(oV.lt k e.symm).1;omega)]
   exact h.fx k hk h1 h2
 . rw[cM]
   exact aY h.size hg.size
 . exact(h.bel.grown hg h.bel.size (fun i hi=>aY hw (oV.lt i hi).1)).setCell (Am kf).1 _
end Go.Proofs.YtdipfjmlfbdkdaaGreat
