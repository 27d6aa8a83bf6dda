import Derived.Test.YtjpobijiblcgaaaGreatFw0
import Derived.Test.YtjpobijiblcgaaaGreatFw16
import Derived.Test.YtjpobijiblcgaaaGreatFw11
import Derived.Test.YtjpobijiblcgaaaGreatFw15
import Derived.Test.YtjpobijiblcgaaaGreatFw2
namespace Go.Proofs.YtjpobijiblcgaaaGreat
open Go.ChangeShapes Go.WideShapes Go.ChangeAt Go.RowKit
set_option linter.unusedVariables false
set_option maxHeartbeats 8000000
set_option maxRecDepth 100000
theorem CJ.grow{w w':World}{base g:Nat}{A B:List (Value×List Int)}{V V':Value}{l l':List Int}(h:CJ w base (A++(V,l)::B))(ho:w'.ownsRow base 2 1 V' l'.length (l'.flatMap Ab))(hV:V'.ownBlock=some g)(hg:w.grownBy w' V.ownBlock)(hat:V.ownBlock=some g\/w.heap.size<=g):CJ w' base (A++(V',l')::B):=by
 obtain⟨pA,pB,pAB⟩:=cG.1 h.sep;obtain⟨pv,pB'⟩:=bi.1 pB
 have hsep:∀x:Value×List Int,x∈A++(V,l)::B->Gx x (V,l)->Gx x (V',l'):=fun x hx ha gg hgg e=>by
  rw[hV]at e;have e:=bC e;subst e;rcases hat with h1|h1
  . exact ha _ hgg h1
  . have:=((h.own x hx).lt _ hgg).2
    omega
 refine⟨fun x hx=> ?_,cG.2 ⟨pA,bi.2 ⟨fun y hy=>(hsep y (by simp[hy]) (pv y hy).symm).symm,pB'⟩,fun a ha b hb=> ?_⟩⟩
 . rcases aS.1 hx with hx|hx
   . exact AW (h.own x (aS.2 (.inl hx))) hg (fun g hgx e=>pAB x hx (V,l) (by simp) g hgx e.symm)
   . rcases aX.1 hx with rfl|hx
     . exact ho
     . exact AW (h.own x (aS.2 (.inr (bR _ hx)))) hg (fun g hgx e=>pv x hx g e.symm hgx)
 . rcases aX.1 hb with rfl|hb
   . exact hsep a (by simp[ha]) (pAB a ha (V,l) (by simp))
   . exact pAB a ha b (bR _ hb)
theorem CJ.keepB{u u':World}{B:Nat}{L:List (Value×List Int)}(h:CJ u B L)(hb:Below u.heap.size u u'):CJ u' B L:=⟨fun r hr=>Aj (h.own r hr) hb lR,h.sep⟩
theorem CJ.join{u u':World}{B:Nat}{L:List (Value×List Int)}{b:Value}{cb:List Int}(h:CJ u B L)(hb:Below u.heap.size u u')(hn:u'.ownsRow u.heap.size 2 1 b cb.length (cb.flatMap Ab))(hB:B<=u.heap.size):CJ u' B (L++[(b,cb)]):=by
 refine⟨fun x hx=> ?_,cG.2 ⟨h.sep,by simp,fun a ha c hc g hg e=> ?_⟩⟩
 . rcases aS.1 hx with hx|hx
   . exact Aj (h.own x hx) hb lR
   . simp only[aX,bB,cW]at hx
     subst hx;exact AP hn hB
 . simp only[aX,bB,cW]at hc
   subst hc;have h1:=((h.own a ha).lt g hg).2;have h2:=(hn.lt g e).1;omega
theorem CJ.join2{u u':World}{B:Nat}{L:List (Value×List Int)}{b c:Value}{cb cc:List Int}(h:CJ u B L)(hb:Below u.heap.size u u')(hn:u'.ownsRow u.heap.size 2 1 b cb.length (cb.flatMap Ab))(hm:u'.ownsRow u.heap.size 2 1 c cc.length (cc.flatMap Ab))(hne:∀g,b.ownBlock=some g->c.ownBlock≠some g)(hB:B<=u.heap.size):CJ u' B (L++[(b,cb),(c,cc)]):=by
 refine⟨fun x hx=> ?_,cG.2 ⟨h.sep,by simpa[Gx]using hne,fun a ha y hy g hg e=> ?_⟩⟩
 . rcases aS.1 hx with hx|hx
   . exact Aj (h.own x hx) hb lR
   . simp only[aX,bB,cW]at hx
     rcases hx with rfl|rfl
     . exact AP hn hB
     . exact AP hm hB
 . simp only[aX,bB,cW]at hy
   have h1:=((h.own a ha).lt g hg).2;rcases hy with rfl|rfl
   . have h2:=(hn.lt g e).1
     omega
   . have h2:=(hm.lt g e).1
     omega
theorem CJ.other{w:World}{base b:Nat}{L:List (Value×List Int)}{cur:Array Value}{t:TypeId}(h:CJ w base L)(hb:An w b cur t)(hne:2≠t)(i:Nat)(x:Value):CJ (w.setCell ⟨b,i,none⟩ x) base L:=h.set hb hne i x
theorem CJ.grown_other{w w':World}{base B k m:Nat}{L:List (Value×List Int)}{v:Value}{e:TypeId}{bs:List Value}(h:CJ w base L)(hg:w.grownBy w' v.ownBlock)(ho:w.ownsRow B e k v m bs)(hne:2≠e):CJ w' base L:=⟨fun x hx=>BP (h.own x hx) hg ho hne,h.sep⟩
def Bw(x:ML×Value×Value):List Value:=[iZ x.1.head,x.2.1,x.2.2]
theorem Bo(x:ML×Value×Value):(Bw x).length=3:=rfl
def Pt(w:World)(x:ML×Value×Value):Prop:=Rd w 1 x.2.1 x.1.back.length (x.1.back.flatMap Ab)/\Rd w 1 x.2.2 x.1.blocks.length (x.1.blocks.flatMap Ab)
def Ko(w:World)(s:Value)(ls:List ML):Prop:=∃ys:List (ML×Value×Value),ys.map Prod.fst=ls/\Rd w 3 s ls.length (ys.flatMap Bw)/\∀y∈ys,Pt w y
theorem Ko.keep{w w':World}{s:Value}{ls:List ML}(h:Ko w s ls){B:Nat}(hb:Below B w w')(hB:w.heap.size<=B):Ko w' s ls:=by
 obtain⟨ys,h1,h2,h3⟩:=h;exact⟨ys,h1,h2.keep hb hB,fun y hy=>⟨(h3 y hy).1.keep hb hB,(h3 y hy).2.keep hb hB⟩⟩
theorem Ko.nil(w:World):Ko w sN []:=⟨[],rfl,⟨rfl,.inl ⟨rfl,_,_,rfl⟩⟩,fun y hy=>by cases hy⟩
def DK(ys:List (ML×Value×Value)):List (Value×List Int):=ys.flatMap fun y=>[(y.2.1,y.1.back),(y.2.2,y.1.blocks)]
def iv(f:Nat->Nat)(n:Nat):List Value:=(List.range n).map fun i=>Value.int .i64 (f i:Int)
theorem Hg(f:Nat->Nat)(n:Nat):(iv f n).length=n:=by simp[iv]
theorem Jv(f:Nat->Nat)(n i:Nat)(h:i<n):(iv f n)[i]?=some (iZ (f i:Int)):=by simp[iv,h]
theorem OH{f g:Nat->Nat}{n i x:Nat}(h:∀j,j<n->g j=if j=i then x else f j):(iv f n).set i (iZ (x:Int))=iv g n:=by
 apply cQ;intro j;by_cases hj:j<n
 . rw[Jv _ _ _ hj,h j hj]
   by_cases e:j=i
   . subst e
     rw[cY (by rw[Hg];exact hj),cD rfl]
   . rw[cU (by omega),Jv _ _ _ hj,bu e]
 . rw[ae (by simp[Hg];omega),ae (by rw[Hg];omega)]
theorem M4(n:Nat):(madeCells (Value.int .i64 0).cells (n*1)).toList=iv (fun _=>0) n:=by
 rw[GW n (fun _=>[]) []];simp[Cs,iv,List.flatten_replicate_singleton];apply cQ;intro j;by_cases hj:j<n
 . simp[hj]
 . rw[ae (by simp;omega),ae (by simp;omega)]
def II(O:List Nat)(k x:Nat):Nat:=if(O.reverse.take k).contains x then DE O x else 0
theorem JH(O:List Nat):II O 0=fun _=>0:=by funext x;simp[II]
theorem Lv(O:List Nat)(x:Nat)(h:x∈O):II O O.length x=DE O x:=by
 unfold II;rw[bZ (by simp),cD (by simpa using h)]
theorem JG{O:List Nat}(hd:O.Nodup){k x:Nat}(hx:O.reverse[k]?=some x)(n:Nat):∀j,j<n->II O (k+1) j=if j=x then k else II O k j:=fun j _=>by
 obtain⟨hlt,e⟩:=aD.1 hx;have hd':O.reverse.Nodup:=List.pairwise_reverse.2 (hd.imp Ne.symm)
 have hpx:DE O x=k:=by
  have hm:x∈O:=by rw[<-dM,<-e];exact bq hlt
  have h1:=Kc hm;obtain⟨l1,e1⟩:=aD.1 h1;exact(List.getElem_inj hd').1 (e1.trans e.symm)
 unfold II;rw[a6 hlt,e];by_cases q:j=x
 . subst q
   rw[cD (by simp),cD rfl,hpx]
 . rw[bu q]
   have:(O.reverse.take k++[x]).contains j=(O.reverse.take k).contains j:=by simp[q]
   rw[this]
theorem PN:(Tryz.prog.info? 3).map (fun i=>(i.zero,i.size,i.bytes))=some (some (iZ 0),1,8):=by kernel_rfl
structure PC(w u:World)(n X gp:Nat)(Vb Vo:Value)(O:List Nat)(k:Nat):Prop where
 blk:An u X #[iZ 0,iZ 0,Vb,Vo,sN,sN] 29
 place:u.ownsRow w.heap.size 3 1 (sG gp n n) n (iv (II O k) n)
 order:EM u w.heap.size Vo (O.reverse.take k)
 bel:Below w.heap.size w u
 lt:w.heap.size<=X
theorem PC.keep{w u u':World}{n X gp k:Nat}{Vb Vo:Value}{O:List Nat}(h:PC w u n X gp Vb Vo O k)(hb:Below u.heap.size u u'):PC w u' n X gp Vb Vo O k:=⟨h.blk.keep hb,Aj h.place hb lR,h.order.keep hb,Af h.bel lR hb,h.lt⟩
structure PD(w u:World)(n X gp:Nat)(Vb Vo:Value)(O:List Nat)(k:Nat):Prop where
 blk:An u X #[iZ 0,iZ 0,Vb,Vo,sN,sN] 29
 place:u.ownsRow w.heap.size 3 1 (sG gp n n) n (iv (II O (k+1)) n)
 order:EM u w.heap.size Vo (O.reverse.take k)
 bel:Below w.heap.size w u
 lt:w.heap.size<=X
theorem PD.keep{w u u':World}{n X gp k:Nat}{Vb Vo:Value}{O:List Nat}(h:PD w u n X gp Vb Vo O k)(hb:Below u.heap.size u u'):PD w u' n X gp Vb Vo O k:=⟨h.blk.keep hb,Aj h.place hb lR,h.order.keep hb,Af h.bel lR hb,h.lt⟩
theorem Ej{w:World}{b base k n:Nat}{cur:Array Value}{t e:TypeId}{s:Value}{xs:List Value}(hb:An w b cur t)(h:w.ownsRow base e k s n xs)(hne:e≠t):s.ownBlock≠some b:=fun q=>A7 h hb hne b q rfl
theorem PC.set{w u:World}{n X gp k x:Nat}{Vb Vo:Value}{O:List Nat}(h:PC w u n X gp Vb Vo O k)(hd:O.Nodup)(hx:O.reverse[k]?=some x):PD w (u.setCell ⟨gp,x,none⟩ (iZ (k:Int))) n X gp Vb Vo O k:=by
 refine⟨h.blk.other (fun e=>Ej h.blk h.place (by decide) (by rw[e];rfl)) _,?_,Bz h.order h.place (by decide) _ _,h.bel.setCell (At h.place).1 _,h.lt⟩;have:=(h.place.stored x (iZ (k:Int))).1;rw[OH (JG hd hx n)]at this;exact this
theorem PD.al{w u:World}{n X gp k:Nat}{Vb Vo:Value}{O:List Nat}(h:PD w u n X gp Vb Vo O k):u.ownsRow w.heap.size 2 1 Vo (O.reverse.take k).length (nv (O.reverse.take k))/\w.heap.size<=u.heap.size:=⟨h.order,h.bel.size⟩
theorem PD.app{w u u':World}{n X gp k x:Nat}{Vb Vo V':Value}{O:List Nat}(h:PD w u n X gp Vb Vo O k)(hx:O.reverse[k]?=some x)(hown:u'.ownsRow w.heap.size 2 1 V' ((O.reverse.take k).length+1) (nv (O.reverse.take k)++[iZ (x:Int)]))(hg:u.grownBy u' Vo.ownBlock):An u' X #[iZ 0,iZ 0,Vb,Vo,sN,sN] 29/\PC w (u'.setCell ⟨X,3,none⟩ V') n X gp Vb V' O (k+1):=by
 have kb:=h.blk.grown hg h.order (by decide);have kp:u'.ownsRow w.heap.size 3 1 (sG gp n n) n (iv (II O (k+1)) n):=BP h.place hg h.order (by decide);have hbel:Below w.heap.size w u':=h.bel.grown hg h.bel.size (fun i hi=>(h.order.lt i hi).1);refine⟨kb,?_,aR kp (a:=⟨X,3,none⟩) (Ej kb kp (by decide)) _,?_,hbel.setCell h.lt _,h.lt⟩
 . have:=kb.set 3 V'
   simpa using this
 . obtain⟨hlt,e⟩:=aD.1 hx
   unfold EM;rw[a6 hlt,e,En,aG,aP];exact aR hown (a:=⟨X,3,none⟩) (Ej kb hown (by decide)) _
theorem JT (G n gN cN gF cF gO cO gP cP:Nat)(E:Nat->List Nat)(O:List Nat)(w:World)(hn:n<=1024)(hP:Dq E n (DE O))(hO:O.length=n)(hOn:O.Nodup)(hOm:∀x,x∈O↔x<n)(hsz:∀b,(Bc E n b).length<=4096)
    (hcO:n<=cO) (h:An w G #[sG gN n cN,sG gF n cF,sG gO n cO,sG gP n cP,sN] 51) (hF:Er w gF 0 n (Bc E n)) (hOr:∀k x:Nat,O.reverse[k]?=some x->w.cell? ⟨gO,k,none⟩=some (iZ (x:Int))) (hPl:∀x,x<n->w.cell? ⟨gP,x,none⟩=some (iZ (DE O x:Int)))
    (hne:gN≠G/\gF≠G/\gO≠G/\gP≠G/\∀b a c,b<n->w.cell? ⟨gF,b,none⟩=some (.slice (some a) (Bc E n b).length c)->a.block≠G):
    Calls Tryz.prog 14 #[.pointer (some ⟨G,0,none⟩)] w fun e w'=>e=.returned (.tuple #[])/\∃gi I,DW w w' G n #[sG gN n cN,sG gF n cF,sG gO n cO,sG gP n cP] gi I/\Kl E n (DE O) I:=by
  obtain⟨K0,hK0⟩:=NR E n;obtain⟨K,hK1,hK⟩:∃K,1<=K/\∀e,e<n->∀x,x<n->CX E (· ≠e) 0 x->Ei E (· ≠e) 0 K x:=⟨K0+1,by omega,fun e he x hx hr=>(hK0 e he x hx hr).mono (by omega)⟩
  have H:=Ah (aH h (aH hF (aH hOr (aH hPl hne))));have HP:=Ah (aH hP (aH hOn (aH hOm (aH hsz (aH hK ((fun x hx=>by have:=QN ((hOm x).2 hx);omega):(∀x,x<n->DE O x<n)))))));have hpos:=hP.pos;have hGl:=h.lt;clear h hF hOr hPl hne hP hOn hOm hsz hK hK0;have c0:(w.alloc (.cells #[iZ (-1)] 2)).cell? ⟨G,0,none⟩=some (sG gN n cN):=(H.o.1.keep (Aa _ _)).cell 0;go_enter Tryz.func14,Tryz.ntmps14;go_wp2_with fail;refine(MN w.heap.size n _ hpos hn ((An.new w #[iZ (-1)] 2).cell 0)).mono ?_;rintro e u1 ⟨gi,rfl,own1,b1⟩;rw[QU]at own1;have bA:=Aa w (.cells #[iZ (-1)] 2);have k1:=(H.o.1.keep bA).keep b1;have d4:u1.cell? ⟨G,4,none⟩=some sN:=k1.cell 4;have z4:=k1.frozen 4
  have HD0:Hid (DW w (u1.setCell ⟨G,4,none⟩ (sG gi n n)) G n #[sG gN n cN,sG gF n cF,sG gO n cO,sG gP n cP] gi (fun _=> -1)):=by
    have hb1:Below w.heap.size w u1:=Af bA lR b1;have own1':=AP own1 (b:=w.heap.size) bA.size;have hgi:=(At own1').1;refine⟨⟨_,_,_,_,rfl,?_⟩,aR own1' (a:=⟨G,4,none⟩) (by simp[Value.ownBlock];omega) _,fun k hk hne=> ?_,(hb1.mono (dr hGl)).setCell lR _,by rw[bX];exact hb1.size,hGl⟩
    . have:=k1.set 4 (sG gi n n)
      simpa using this
    . rw[bO u1 _ k _ hne]
      exact hb1.block k hk
  clear own1 b1 bA k1 c0
  have HPI:Hid (Ho E n (DE O) 0 1 (fun _=> -1)):=⟨Gz.start (fun _=>rfl),I8.start HP.o.1 (fun _=>rfl),fun x hx hl=>by
    by_cases e:x=0
    . exact .inl e
    . have:=HP.o.1.first x hx e
      omega,.inl rfl,rfl⟩
  go_wp2
  go_loopg [2] (K+2) (fun m v wr=>∃(ch:Bool) (I:Nat->Int) (k:Nat),v=.bool ch/\Hid (DW w wr G n #[sG gN n cN,sG gF n cF,sG gO n cO,sG gP n cP] gi I)/\((ch=true/\m+k=K+2/\k<=K/\Hid (Ho E n (DE O) k 1 I))\/(ch=false/\Hid (Kl E n (DE O) I))))
  case atStart=>exact⟨true,fun _=> -1,0,rfl,HD0,.inl ⟨rfl,rfl,by omega,HPI⟩⟩
  case round=>
    clear HD0 HPI d4 z4;obtain⟨ch,I0,k,rfl,HD,hcase⟩:=hrel;rcases hcase with⟨rfl,hm,hkK,HPI⟩|⟨rfl,HDN⟩
    . obtain ⟨w0, hw0⟩:∃W,W=wr:=⟨_,rfl⟩
      subst hw0
      have o2:w0.cell? ⟨G,2,none⟩=some (sG gO n cO):=by
        obtain⟨x0,x1,x2,x3,e,kk⟩:=HD.o.blk;simp only[Array.mk.injEq,fB,cg]at e;obtain⟨rfl,rfl,rfl,rfl⟩:=e;exact kk.cell 2
      go_upto_region 4 with fail
      go_cut [21,22,23]from 17 to 22 (fun sv lv iv wx=>∃a c,sv=.slice a (n-1) c/\(1<n->a=some ⟨gO,1,none⟩)/\lv=iZ ((n-1:Nat):Int)/\iv=iZ 0/\wx=w0)
      case first=>
        by_cases hc1:cO=1
        . subst hc1
          obtain rfl:n=1:=by omega
          go_wp2
          go_meet
          case rel=>exact⟨_,_,rfl,fun q=>(by omega),rfl,rfl,rfl⟩
        . have hc2:1<cO:=by omega
          go_wp2
          go_meet
          case rel=>exact⟨_,_,rfl,fun q=>rfl,by go_num,rfl,rfl⟩
      case rest =>
        obtain⟨asl,csl,rfl,ha,rfl,rfl,hwc⟩:=hcut;rw[hwc];clear hwc o2
        have HGI:Hid (∀(U:World) (J:Nat->Int),DW w U G n #[sG gN n cN,sG gF n cF,sG gO n cO,sG gP n cP] gi J->GI U G n gP cP gi n (DE O) J/\U.cell? ⟨G,1,none⟩=some (sG gF n cF)):=fun U J hU=>by
          obtain⟨x0,x1,x2,x3,e,kk⟩:=hU.blk;simp only[Array.mk.injEq,fB,cg]at e;obtain⟨rfl,rfl,rfl,rfl⟩:=e;refine⟨⟨kk.cell 3,kk.cell 4,fun x hx=>hU.cell (H.o.2.2.2.1 x hx) H.o.2.2.2.2.2.2.2.1,fun x hx=> ?_⟩,kk.cell 1⟩;have:=hU.row.cellAt x (by omega);rw[LK _ _ _ hx]at this;exact this
        go_wp2
        go_loopw [2,23] (fun v i wr=>∃(ch:Bool) (J:Nat->Int) (j:Nat),v=.bool ch/\i=iZ (j:Int)/\j+1<=n/\Hid (DW w wr G n #[sG gN n cN,sG gF n cF,sG gO n cO,sG gP n cP] gi J/\Ho E n (DE O) k (j+1) J/\(ch=false->J=I0/\∀b,b<n->b≠0->DE O b<j+1->AY n J (Bc E n b) (J b))/\(K<=k->ch=false))) (fun _ i _=>n-(intOf i).toNat)
        case atStart=>exact⟨false,I0,0,rfl,rfl,by omega,HD.o,HPI.o,fun _=>⟨rfl,fun b hb hb0 hl=>by have:=HP.o.1.first b hb hb0;omega⟩,fun _=>rfl⟩
        case round=>
          obtain⟨ch,J,j,rfl,rfl,hj,HL⟩:=hrel;by_cases hlt:j<n-1
          . have hltI:(j:Int)<((n-1:Nat):Int):=by omega
            obtain rfl:=ha (by omega);obtain⟨b,hb⟩:∃b,O.reverse[j+1]?=some b:=⟨_,aA (by rw[bg];omega)⟩;have hbO:b∈O:=dM.1 (aE hb);have hbn:b<n:=(HP.o.2.2.1 b).1 hbO;have hbnI:(b:Int)<(n:Int):=by omega
            have hpb:DE O b=j+1:=by
              have h1:=Kc hbO;have hd:O.reverse.Nodup:=List.pairwise_reverse.2 (HP.o.2.1.imp Ne.symm);obtain⟨l1,e1⟩:=aD.1 h1;obtain⟨l2,e2⟩:=aD.1 hb;exact(List.getElem_inj hd).1 (e1.trans e2.symm)
            have hb0:b≠0:=fun q=>by have:=HP.o.1.zero;rw[q]at hpb;omega
            have ob:=HL.o.1.cell (H.o.2.2.1 (j+1) b hb) H.o.2.2.2.2.2.2.1;rw[Nat.add_comm]at ob;obtain⟨hgi,f1⟩:=HGI.o _ _ HL.o.1;obtain⟨af,cf,e0,e1⟩:=H.o.2.1 b hbn;rw[bG]at e0
            have HPS:Hid (Gk wr (.slice af (Bc E n b).length cf) (Bc E n b)):=by
              refine⟨e1.1,e1.2.imp id ?_⟩;rintro⟨g',o',c',q1,q2⟩;refine⟨g',o',c',q1,fun jj v hv=>HL.o.1.cell (q2 jj v hv) ?_⟩;simp only[aI,bU]at q1;exact H.o.2.2.2.2.2.2.2.2 b ⟨g',o',none⟩ cf hbn (by rw[e0,q1.1])
            have f2:=HL.o.1.cell e0 H.o.2.2.2.2.2.1;have HGJ:Hid (GI wr G n gP cP gi n (DE O) J):=hgi;have HB:=Ah (aH hbO hpb);clear e0 e1 hgi hb hbO;go_wp2_with fail
            refine(JQ G n gP cP gi n (DE O) J _ (Bc E n b) wr hn HL.o.2.1.dinv.tree HP.o.1.zero HP.o.1.inj (fun p hp=>((Du E n b p).1 hp).1) (HP.o.2.2.2.1 b) HPS.o HGJ.o).mono ?_;rintro e u5 ⟨z,rfl,hz,b5⟩;have HL5:Hid (DW w u5 G n #[sG gN n cN,sG gF n cF,sG gO n cO,sG gP n cP] gi J):=HL.o.1.keep b5;obtain⟨hgi,f1'⟩:=HGI.o _ _ HL5.o;have i4:=hgi.i;have ib:=hgi.ic b hbn;have iz:=HL5.o.row.frozenAt b;obtain⟨J',hJ'⟩:∃J':Nat->Int,∀y,J' y=if y=b then z else J y:=⟨_,fun y=>rfl⟩
            have HN:Hid (DW w (u5.setCell ⟨gi,b,none⟩ (iZ z)) G n #[sG gN n cN,sG gF n cF,sG gO n cO,sG gP n cP] gi J'/\Ho E n (DE O) k (j+1+1) J'/\(z=J b->J'=J)/\AY n J (Bc E n b) z/\(K<=k->z=J b)):=by
              refine⟨HL5.o.set b z hJ',HL.o.2.1.step HP.o.1 hbn hb0 HB.o.2 hz hJ',fun q=> ?_,hz,fun hkk=> ?_⟩
              . funext y
                rw[hJ' y];by_cases e:y=b
                . rw[cD e,q,e]
                . rw[bu e]
              . have hall:∀x,x<n->Kn J x:=HL.o.2.1.all.resolve_left (by omega)
                refine PA HP.o.1 HL.o.2.1.dinv hall (fun x hx d hd hr=> ?_) hbn hb0 (Fz E n b) hz;have hdn:=(hd.pls HL.o.2.1.dinv.tree hx).2.2;exact(HL.o.2.1.uinv x hx (hall x hx) d hd).1 ((HP.o.2.2.2.2.1 d hdn x hx hr).mono hkk)
            clear hgi hz b5 HGJ HPS f1 f2 ob;go_upto_region 8 with fail
            go_cut [2]from 36 to 47 (fun c wx=>(∃c':Bool,c=.bool c'/\(c'=false->ch=false/\z=J b)/\(ch=false->z=J b->c'=false))/\wx=u5)
            case first=>
              cases ch
              . by_cases hzb:z=J b
                . have hzB:(z != J b)=false:=by simp[hzb]
                  have HZ:Hid (z=J b):=hzb;clear hzb;go_wp2
                  go_meet
                  case rel=>exact⟨⟨_,rfl,fun _=>⟨trivial,HZ.o⟩,fun _ _=>rfl⟩,rfl⟩
                . have hzB:(z != J b)=true:=by simp[hzb]
                  have HZ:Hid (¬z=J b):=hzb;clear hzb;go_wp2
                  go_meet
                  case rel=>exact⟨⟨_,rfl,(fun q=>(by cases q)),(fun _ q=>absurd q HZ.o)⟩,rfl⟩
              . go_wp2
                go_meet
                case rel=>exact⟨⟨_,rfl,(fun q=>(by cases q)),(fun q=>(by cases q))⟩,rfl⟩
            case rest=>
              obtain⟨⟨c',rfl,hc1,hc2⟩,hwc⟩:=hcut;rw[hwc];clear hwc;go_wp2
              go_roundw
              case rel=>
                refine⟨c',J',j+1,rfl,by go_num,by omega,HN.o.1,HN.o.2.1,fun q=> ?_,fun q=>hc2 (HL.o.2.2.2 q) (HN.o.2.2.2.2 q)⟩;obtain⟨q1,q2⟩:=hc1 q;obtain⟨r1,r2⟩:=HL.o.2.2.1 q1;have r3:=HN.o.2.2.1 q2;refine⟨r3.trans r1,fun y hy hy0 hl=> ?_⟩;rw[r3];by_cases e:y=b
                . rw[e,<-q2]
                  exact HN.o.2.2.2.1
                . refine r2 y hy hy0 ?_
                  have h1:=HP.o.1.inj y b hy hbn;have h2:=HB.o.2;omega
              case measure=>simp[intOf];omega
          . have hjn:j+1=n:=by omega
            have hltI:¬(j:Int)<((n-1:Nat):Int):=by omega
            have HPN:Hid (Ho E n (DE O) (k+1) 1 J/\∀x,x<n->Kn J x):=by
              have h0:=HL.o.2.1;rw[hjn]at h0;have hall:∀x,x<n->Kn J x:=fun x hx=>h0.kn x hx (HP.o.2.2.2.2.2 x hx)
              exact⟨⟨h0.dinv,h0.uinv.pass HP.o.1 HP.o.2.2.2.2.2,fun x hx _=>hall x hx,.inr hall,h0.z⟩,hall⟩
            cases ch
            . have HDN:Hid (Kl E n (DE O) J):=by
                obtain⟨_,q2⟩:=HL.o.2.2.1 rfl;refine⟨HPN.o.1.dinv,HPN.o.2,fun d x hx=>PG HP.o.1 HPN.o.1.dinv HPN.o.2 (Bc E n) (fun b _=>Fz E n b) (fun b hb hb0=>q2 b hb hb0 (by rw[hjn];exact HP.o.2.2.2.2.2 b hb)) hx,HPN.o.1.z⟩
              go_wp2
              go_roundg 0
              case measure=>omega
              case rel=>exact⟨false,J,0,rfl,HL.o.1,.inr ⟨rfl,HDN⟩⟩
            . have hkk:k<K:=by
                by_cases q:K<=k
                . have:=HL.o.2.2.2 q
                  cases this
                . omega
              go_wp2
              go_roundg (gk-1)
              case measure=>omega
              case rel=>exact⟨true,J,k+1,rfl,HL.o.1,.inl ⟨rfl,by omega,by omega,HPN.o.1⟩⟩
    . go_wp2
      go_end0
      exact⟨rfl,gi,I0,HD.o,HDN.o⟩
theorem Hn.rd{w:World}{base:Nat}{V:Value}{F:List (MB×Value)}(h:Hn w base V F):Ha w V (F.map Prod.fst):=by
 refine⟨F,rfl,?_,fun x hx=>Rd.of_own (h.fam.own (x.2,x.1.next) (by unfold Dm;exact eY (f:=fun x=>(x.2,x.1.next)) hx))⟩;rw[aj];exact Rd.of_own h.row
structure PF(w6 u:World)(X:Nat)(Vb Vo Vi:Value)(Is:List Int)(Vl:Value)(ys:List (ML×Value×Value)):Prop where
 blk:An u X #[iZ 0,iZ 0,Vb,Vo,Vi,Vl] 29
 fam:CJ u w6.heap.size ((Vi,Is)::DK ys)
 lps:u.ownsRow w6.heap.size 35 3 Vl ys.length (ys.flatMap Bw)
 fx:∀k,k<w6.heap.size->k≠X->u.heap[k]?=w6.heap[k]?
 size:w6.heap.size<=u.heap.size
 bel:Below X w6 u
 lt:X<w6.heap.size
theorem PF.keep{w6 u u':World}{X:Nat}{Vb Vo Vi Vl:Value}{Is:List Int}{ys:List (ML×Value×Value)}(h:PF w6 u X Vb Vo Vi Is Vl ys)(hb:Below u.heap.size u u'):PF w6 u' X Vb Vo Vi Is Vl ys:=⟨h.blk.keep hb,h.fam.keepB hb,Aj h.lps hb lR,fun k hk hne=>by rw[hb.block k (bx hk h.size)];exact h.fx k hk hne,aY h.size hb.size,h.bel.trans (hb.mono (by have:=h.lt;have:=h.size;omega)),h.lt⟩
theorem PF.cell{w6 u:World}{X:Nat}{Vb Vo Vi Vl:Value}{Is:List Int}{ys:List (ML×Value×Value)}(h:PF w6 u X Vb Vo Vi Is Vl ys){a:Addr}{x:Value}(hb:w6.cell? a=some x)(hne:a.block≠X):u.cell? a=some x:=by
 have:=h.fx a.block (aF hb) hne;unfold World.cell? at*;rw[this];exact hb
theorem PF.idom{w6 u u':World}{X g cap:Nat}{Vb Vo Vi Vl:Value}{Is:List Int}{ys:List (ML×Value×Value)}{z:Int}(h:PF w6 u X Vb Vo Vi Is Vl ys)(hown:u'.ownsRow w6.heap.size 2 1 (sG g (Is.length+1) cap) (Is.length+1) (Is.flatMap Ab++[iZ z]))(hg:u.grownBy u' Vi.ownBlock)(hat:Vi.ownBlock=some g\/g=u.heap.size):An u' X #[iZ 0,iZ 0,Vb,Vo,Vi,Vl] 29/\PF w6 (u'.setCell ⟨X,4,none⟩ (sG g (Is.length+1) cap)) X Vb Vo (sG g (Is.length+1) cap) (Is++[z]) Vl ys:=by
 have oI:=h.fam.own (Vi,Is) (bc ..);have kb:=h.blk.grown hg oI (by decide);have kl:u'.ownsRow w6.heap.size 35 3 Vl ys.length (ys.flatMap Bw):=BP h.lps hg oI (by decide)
 have kf:CJ u' w6.heap.size ((sG g (Is.length+1) cap,Is++[z])::DK ys):=by
  have:=CJ.grow (A:=[]) (l':=Is++[z]) (V':=sG g (Is.length+1) cap) (g:=g) h.fam (by
   rw[aG,aP,a8];exact hown) rfl hg (hat.imp id fun e=>by omega)
  simpa using this
 refine⟨kb,?_,kf.other kb (by decide) 4 _,aR kl (a:=⟨X,4,none⟩) (Ej kb kl (by decide)) _,fun k hk hne=> ?_,?_,?_,h.lt⟩
 . have:=kb.set 4 (sG g (Is.length+1) cap)
   simpa using this
 . rw[bO u' _ k _ hne,hg.block k (bx hk h.size) (fun e=>by have:=(oI.lt k e.symm).1;omega)]
   exact h.fx k hk hne
 . rw[bX]
   exact aY h.size hg.size
 . exact(h.bel.grown hg (by have:=h.lt;have:=h.size;omega) (fun i hi=>by have:=(oI.lt i hi).1;have:=h.lt;omega)).setCell lR _
theorem PF.loop{w6 u u1 u':World}{X g cap:Nat}{Vb Vo Vi Vl BV KV:Value}{Is:List Int}{ys:List (ML×Value×Value)}{m:ML}(h:PF w6 u X Vb Vo Vi Is Vl ys)(hb:Below u.heap.size u u1)(h1:u1.ownsRow u.heap.size 2 1 BV m.back.length (m.back.flatMap Ab))(h2:u1.ownsRow u.heap.size 2 1 KV m.blocks.length (m.blocks.flatMap Ab))(hne:∀q,BV.ownBlock=some q->KV.ownBlock≠some q)(hown:u'.ownsRow w6.heap.size 35 3 (sG g (ys.length+1) cap) (ys.length+1) (ys.flatMap Bw++[iZ m.head,BV,KV]))(hg:u1.grownBy u' Vl.ownBlock):An u' X #[iZ 0,iZ 0,Vb,Vo,Vi,Vl] 29/\PF w6 (u'.setCell ⟨X,5,none⟩ (sG g (ys.length+1) cap)) X Vb Vo Vi Is (sG g (ys.length+1) cap) (ys++[(m,BV,KV)]):=by
 have h':=h.keep hb;have kb:=h'.blk.grown hg h'.lps (by decide)
 have kf0:CJ u1 w6.heap.size ((Vi,Is)::DK (ys++[(m,BV,KV)])):=by
  have:=h.fam.join2 hb h1 h2 hne h.size;simpa[DK]using this
 have kf:CJ u' w6.heap.size ((Vi,Is)::DK (ys++[(m,BV,KV)])):=kf0.grown_other hg h'.lps (by decide);refine⟨kb,?_,kf.other kb (by decide) 5 _,?_,fun k hk hne=> ?_,?_,?_,h.lt⟩
 . have:=kb.set 5 (sG g (ys.length+1) cap)
   simpa using this
 . rw[aG,aP,a8]
   exact aR hown (a:=⟨X,5,none⟩) (Ej kb hown (by decide)) _
 . rw[bO u' _ k _ hne,hg.block k (bx hk h'.size) (fun e=>by have:=(h'.lps.lt k e.symm).1;omega)]
   exact h'.fx k hk hne
 . rw[bX]
   exact aY h'.size hg.size
 . exact(h'.bel.grown hg (by have:=h.lt;have:=h'.size;omega) (fun i hi=>by have:=(h'.lps.lt i hi).1;have:=h.lt;omega)).setCell lR _
theorem DO(E:Nat->List Nat)(D L:Nat->Nat->Bool)(n b:Nat):Bh E D L n (b+1)=Bh E D L n b++(if Au E D n b=[]then[]else[⟨(b:Int),ints (Au E D n b),ints ((List.range n).filter (L b))⟩]):=by
 unfold Bh;rw[dL,List.filterMap_append];by_cases h:Au E D n b=[]
 . simp[h]
 . simp[h]
theorem EY{w:World}{b:Nat}{t:TypeId}{a0 a1 a2:Value}(h:An w b #[a0,a1,a2] t):w.cell? ⟨b,0,none⟩=some a0/\w.cell? ⟨b,1,none⟩=some a1/\w.cell? ⟨b,2,none⟩=some a2:=⟨h.cell 0,h.cell 1,h.cell 2⟩
theorem Fl(w:World)(A B:Array Value)(s t:TypeId):An ((w.alloc (.cells A s)).alloc (.cells B t)) w.heap.size A s/\An ((w.alloc (.cells A s)).alloc (.cells B t)) (w.heap.size+1) B t/\Below w.heap.size w ((w.alloc (.cells A s)).alloc (.cells B t)):=by
 have b1:=Aa w (.cells A s);have b2:=Aa (w.alloc (.cells A s)) (.cells B t);refine⟨(An.new w _ _).keep b2,?_,Af b1 lR b2⟩;have k2:=An.new (w.alloc (.cells A s)) B t;have e1:(w.alloc (.cells A s)).heap.size=w.heap.size+1:=by simp
 rw[e1]at k2;exact k2
theorem N4(w:World)(A B C:Array Value)(s t r:TypeId):An (((w.alloc (.cells A s)).alloc (.cells B t)).alloc (.cells C r)) w.heap.size A s/\An (((w.alloc (.cells A s)).alloc (.cells B t)).alloc (.cells C r)) (w.heap.size+1) B t/\An (((w.alloc (.cells A s)).alloc (.cells B t)).alloc (.cells C r)) (w.heap.size+1+1) C r/\Below w.heap.size w (((w.alloc (.cells A s)).alloc (.cells B t)).alloc (.cells C r)):=by
 obtain⟨h1,h2,h3⟩:=Fl w A B s t;generalize e1:(w.alloc (.cells A s)).alloc (.cells B t)=u at*;have e2:u.heap.size=w.heap.size+1+1:=by rw[<-e1];simp
 have b1:=Aa u (.cells C r);have k2:=An.new u C r;rw[e2]at k2;exact⟨h1.keep b1,h2.keep b1,k2,Af h3 lR b1⟩
theorem ML.same_iff(a b:ML):a=b↔a.head=b.head/\a.back=b.back/\a.blocks=b.blocks:=by
 obtain⟨a1,a2,a3⟩:=a;obtain⟨b1,b2,b3⟩:=b;simp
theorem FG(a b:ML)(v1 v2 u1 u2:Value)(w:World)(ha:a.back.length<=1048576/\a.blocks.length<=1048576)(hb:b.back.length<=1048576/\b.blocks.length<=1048576)(h:Pt w (a,v1,v2))(h':Pt w (b,u1,u2)):
 Calls Tryz.prog 113 #[.agg #[.int .i64 a.head,v1,v2],.agg #[.int .i64 b.head,u1,u2]] w fun e w'=>AM e (a=b)/\Below w.heap.size w w':=by
 have H:Hid (Pt w (a,v1,v2)/\Pt w (b,u1,u2)/\(a.back.length<=1048576/\a.blocks.length<=1048576)/\b.back.length<=1048576/\b.blocks.length<=1048576):=⟨h,h',ha,hb⟩
 clear h h' ha hb;have E0:=Fl w #[.int .i64 a.head,v1,v2] #[.int .i64 b.head,u1,u2] 35 35;go_enter Tryz.func113,Tryz.ntmps113;go_upto_region 1 with fail
 refine Al (fun u=>An u w.heap.size #[.int .i64 a.head,v1,v2] 35/\An u (w.heap.size+1) #[.int .i64 b.head,u1,u2] 35/\Below w.heap.size w u) E0 ?_
 rintro U E1;clear E0;have HE:Hid (An U w.heap.size #[.int .i64 a.head,v1,v2] 35/\An U (w.heap.size+1) #[.int .i64 b.head,u1,u2] 35/\Below w.heap.size w U):=E1
 clear E1;obtain⟨p0,p1,p2⟩:=EY HE.o.1;obtain⟨o0,o1,o2⟩:=EY HE.o.2.1;by_cases q:a.head=b.head
 . have HQ:Hid (a.head=b.head):=q
   rw[q]at p0;clear q;go_wp2_with fail
   refine(Fg v1 u1 a.back b.back U H.o.2.2.1.1 H.o.2.2.2.1 (H.o.1.1.keep HE.o.2.2 lR) (H.o.2.1.1.keep HE.o.2.2 lR)).mono ?_;rintro e u3 ⟨⟨b1,rfl,hb1⟩,m1,e1⟩
   have HE1:Hid (An u3 w.heap.size #[.int .i64 a.head,v1,v2] 35/\An u3 (w.heap.size+1) #[.int .i64 b.head,u1,u2] 35/\Below w.heap.size w u3):=by
    subst e1;exact⟨HE.o.1.keep (Am _ _ _),HE.o.2.1.keep (Am _ _ _),Af HE.o.2.2 lR (Am _ _ _)⟩
   have HB:Hid (b1=true↔a.back=b.back):=hb1;clear HE p0 p1 p2 o0 o1 o2 e1 hb1;obtain⟨p0,p1,p2⟩:=EY HE1.o.1;obtain⟨o0,o1,o2⟩:=EY HE1.o.2.1;cases b1
   . go_wp2
     go_ret
     exact⟨.no (fun e=>by have:=HB.o.2 ((ML.same_iff a b).1 e).2.1;simp at this),HE1.o.2.2⟩
   . go_wp2_with fail
     refine(Fg v2 u2 a.blocks b.blocks u3 H.o.2.2.1.2 H.o.2.2.2.2 (H.o.1.2.keep HE1.o.2.2 lR) (H.o.2.1.2.keep HE1.o.2.2 lR)).mono ?_;rintro e u4 ⟨⟨b2,rfl,hb2⟩,m2,e2⟩
     have HE2:Hid (Below w.heap.size w u4):=by
      subst e2;exact Af HE1.o.2.2 lR (Am _ _ _)
     have HB2:Hid (b2=true↔a.blocks=b.blocks):=hb2;clear HE1 p0 p1 p2 o0 o1 o2 e2 hb2;go_wp2
     go_ret
     exact⟨.of ⟨fun e=>(ML.same_iff a b).2 ⟨HQ.o,HB.o.1 (by first|rfl|trivial),HB2.o.1 e⟩,fun e=>HB2.o.2 ((ML.same_iff a b).1 e).2.2⟩,HE2.o⟩
 . go_wp2
   go_ret
   exact⟨.no fun e=>q ((ML.same_iff a b).1 e).1,HE.o.2.2⟩
theorem Me:(Tryz.prog.info? 26).map (fun i=>(i.zero,i.size,i.bytes))=some (some sN,1,24):=by kernel_rfl
theorem FV(n:Nat):(madeCells (Value.slice none 0 0).cells (n*1)).toList=List.replicate n sN:=by
 rw[DC (fun b:Bool=>[Value.bool b]) [sN] [] n sN 1 rfl rfl (by omega)];simp[Cs,List.flatten_replicate_singleton]
structure Q2(w u:World)(n G gF gP:Nat):Prop where
 blk:An u G #[sN,sG gF n n,sN,sG gP n n,sN] 51
 frow:u.ownsRow w.heap.size 26 1 (sG gF n n) n (List.replicate n sN)
 prow:u.ownsRow w.heap.size 2 1 (sG gP n n) n (iv (fun _=>0) n)
 bel:Below w.heap.size w u
 ge:w.heap.size<=G
theorem Q2.of{w W:World}{n gF gP:Nat}(hf:W.ownsRow w.heap.size 26 1 (sG gF n n) n (List.replicate n sN))(hp:W.ownsRow w.heap.size 2 1 (sG gP n n) n (iv (fun _=>0) n))(hb:Below w.heap.size w W):Q2 w (W.alloc (.cells #[sN,sG gF n n,sN,sG gP n n,sN] 51)) n W.heap.size gF gP:=⟨An.new _ _ _,Aj hf (Aa _ _) lR,Aj hp (Aa _ _) lR,Af hb lR (Aa _ _),hb.size⟩
theorem Cm{w w':World}(hg:w.grownBy w' none):Below w.heap.size w w':=(bY _ _).grown hg lR (fun k hk=>by cases hk)
def DZ(E:Nat->List Nat)(b k x:Nat):List Nat:=(((E b).take k).filter fun y=>decide (y=x)).map fun _=>b
theorem Iu(E:Nat->List Nat)(b x:Nat):Bc E (b+1) x=Bc E b x++DZ E b (E b).length x:=by
 unfold Bc DZ;rw[dL,a8];simp
theorem L8(E:Nat->List Nat)(b x:Nat):DZ E b 0 x=[]:=by simp[DZ]
theorem L7{E:Nat->List Nat}{b k y:Nat}(hy:(E b)[k]?=some y)(x:Nat):DZ E b (k+1) x=if x=y then DZ E b k x++[b]else DZ E b k x:=by
 obtain⟨hl,e⟩:=aD.1 hy;unfold DZ;rw[a6 hl,dH,br,e];by_cases q:x=y
 . subst q;simp
 . simp[q,Ne.symm q]
theorem Js(E:Nat->List Nat)(b k x:Nat):(DZ E b k x).length<=(E b).length:=by
 unfold DZ;rw[aj];refine aY (cj _ _) ?_;rw[bh];omega
theorem He{E:Nat->List Nat}(hsz:∀b,(E b).length<=2)(b x:Nat):(Bc E b x).length<=2*b:=by
 induction b with
 |zero=>simp[Bc]
 | succ b ih=>
   have h1:=Js E b (E b).length x;have h2:=hsz b;rw[Iu,aG];omega
structure NG(w w2 u:World)(n G gF:Nat)(PV:Value)(NV:Value)(NS:List Value)(FS:List (Value×List Nat)):Prop where
 blk:An u G #[NV,sG gF n n,sN,PV,sN] 51
 nrow:u.ownsRow w2.heap.size 26 1 NV NS.length NS
 frow:u.ownsRow w.heap.size 26 1 (sG gF n n) n (FS.map Prod.fst)
 fam:CJ u w2.heap.size (FS.map fun x=>(x.1,ints x.2))
 fx:∀k,k<w2.heap.size->k≠G->k≠gF->u.heap[k]?=w2.heap[k]?
 size:w2.heap.size<=u.heap.size
 bel:Below w.heap.size w u
 lt:w.heap.size<=G/\G<w2.heap.size/\gF<w2.heap.size
theorem NG.keep{w w2 u u':World}{n G gF:Nat}{PV NV:Value}{NS:List Value}{FS:List (Value×List Nat)}(h:NG w w2 u n G gF PV NV NS FS)(hb:Below u.heap.size u u'):NG w w2 u' n G gF PV NV NS FS:=⟨h.blk.keep hb,Aj h.nrow hb lR,Aj h.frow hb lR,h.fam.keepB hb,fun k hk h1 h2=>by rw[hb.block k (bx hk h.size)];exact h.fx k hk h1 h2,aY h.size hb.size,Af h.bel lR hb,h.lt⟩
theorem NG.next{w w2 u u':World}{n G gF g cap:Nat}{PV NV x:Value}{NS:List Value}{FS:List (Value×List Nat)}(h:NG w w2 u n G gF PV NV NS FS)(hw:w.heap.size<=w2.heap.size)(hown:u'.ownsRow w2.heap.size 26 1 (sG g (NS.length+1) cap) (NS.length+1) (NS++[x]))(hg:u.grownBy u' NV.ownBlock):An u' G #[NV,sG gF n n,sN,PV,sN] 51/\NG w w2 (u'.setCell ⟨G,0,none⟩ (sG g (NS.length+1) cap)) n G gF PV (sG g (NS.length+1) cap) (NS++[x]) FS:=by
 have kb:=h.blk.grown hg h.nrow (by decide)
 have kf:u'.ownsRow w.heap.size 26 1 (sG gF n n) n (FS.map Prod.fst):=AW h.frow hg (fun gg hgg e=>by
  have h1:=(h.nrow.lt gg e.symm).1;simp only[Value.ownBlock,aJ]at hgg;have:=h.lt.2.2;omega)
 have km:=h.fam.grown_other hg h.nrow (by decide);refine⟨kb,?_,?_,?_,km.other kb (by decide) 0 _,fun k hk h1 h2=> ?_,?_,?_,h.lt⟩
 . have:=kb.set 0 (sG g (NS.length+1) cap)
   simpa using this
 . rw[aG,aP]
   exact aR hown (a:=⟨G,0,none⟩) (Ej kb hown (by decide)) _
 . exact aR kf (a:=⟨G,0,none⟩) (Ej kb kf (by decide)) _
 . rw[bO u' _ k _ h1,hg.block k (bx hk h.size) (fun e=>by have:=(h.nrow.lt k e.symm).1;omega)]
   exact h.fx k hk h1 h2
 . rw[bX]
   exact aY h.size hg.size
 . exact(h.bel.grown hg h.bel.size (fun i hi=>aY hw (h.nrow.lt i hi).1)).setCell h.lt.1 _
theorem Nf{α:Type}(A B:List α)(x y:α):(A++x::B).set A.length y=A++y::B:=by
 rw[df _ _ lR,eR];rfl
theorem NG.app{w w2 u u':World}{n G gF g cap y b:Nat}{PV NV V:Value}{NS:List Value}{FS:List (Value×List Nat)}{l:List Nat}(h:NG w w2 u n G gF PV NV NS FS)(hw:w.heap.size<=w2.heap.size)(hy:FS[y]?=some (V,l))(hown:u'.ownsRow w2.heap.size 2 1 (sG g (l.length+1) cap) (l.length+1) (nv l++[iZ (b:Int)]))(hg:u.grownBy u' V.ownBlock)(hat:V.ownBlock=some g\/g=u.heap.size):u'.ownsRow w.heap.size 26 1 (sG gF n n) n (FS.map Prod.fst)/\NG w w2 (u'.setCell ⟨gF,y,none⟩ (sG g (l.length+1) cap)) n G gF PV NV NS (FS.set y (sG g (l.length+1) cap,l++[b])):=by
 obtain⟨hyl,hye⟩:=aD.1 hy;have hFS:FS=FS.take y++(V,l)::FS.drop (y+1):=by rw[<-hye,<-dJ hyl,dR]
 have hlen:(FS.take y).length=y:=by rw[bh];omega
 have oV:=h.fam.own (V,ints l) (bJ.2 ⟨(V,l),aE hy,rfl⟩);have kb:=h.blk.grown hg oV (by decide);have kn:u'.ownsRow w2.heap.size 26 1 NV NS.length NS:=BP h.nrow hg oV (by decide);have kf:u'.ownsRow w.heap.size 26 1 (sG gF n n) n (FS.map Prod.fst):=BP h.frow hg oV (by decide)
 have hset:FS.set y (sG g (l.length+1) cap,l++[b])=FS.take y++(sG g (l.length+1) cap,l++[b])::FS.drop (y+1):=by
  have:=Nf (FS.take y) (FS.drop (y+1)) (V,l) (sG g (l.length+1) cap,l++[b]);rw[hlen,<-hFS]at this;exact this
 have km:CJ u' w2.heap.size ((FS.set y (sG g (l.length+1) cap,l++[b])).map fun x=>(x.1,ints x.2)):=by
  have h0:=h.fam;rw[hFS,br,dF]at h0;rw[hset,br,dF];refine CJ.grow (g:=g) h0 ?_ rfl hg (hat.imp id fun e=>by omega);simp only[];rw[Az,aG,aP,<-CS,En];exact hown
 have hgF:=h.lt.2.2;have hFl:gF≠G:=fun e=>Ej kb kf (by decide) (by rw[e];rfl)
 have hnn:NV.ownBlock≠some gF:=fun e=>by have:=(kn.lt gF e).1;omega
 refine⟨kf,kb.other (Ne.symm hFl) _,aR kn (a:=⟨gF,y,none⟩) hnn _,?_,⟨fun x hx=> ?_,km.sep⟩,fun k hk h1 h2=> ?_,?_,?_,h.lt⟩
 . have:=(kf.stored y (sG g (l.length+1) cap)).1
   rw[List.map_set];exact this
 . refine aR (km.own x hx) (a:=⟨gF,y,none⟩) (fun e=> ?_) _
   have:=((km.own x hx).lt gF e).1;omega
 . rw[bO u' _ k _ h2,hg.block k (bx hk h.size) (fun e=>by have:=(oV.lt k e.symm).1;omega)]
   exact h.fx k hk h1 h2
 . rw[bX]
   exact aY h.size hg.size
 . exact(h.bel.grown hg h.bel.size (fun i hi=>aY hw (oV.lt i hi).1)).setCell (At kf).1 _
end Go.Proofs.YtjpobijiblcgaaaGreat
