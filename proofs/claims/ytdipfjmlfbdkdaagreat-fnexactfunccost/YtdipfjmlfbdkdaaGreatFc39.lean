import Derived.Test.YtdipfjmlfbdkdaaGreatFc35
import Derived.Test.YtdipfjmlfbdkdaaGreatFc34
namespace Go.Proofs.YtdipfjmlfbdkdaaGreat
open Go.ChangeShapes Go.WideShapes Go.ChangeAt Go.RowKit
set_option linter.unusedVariables false
set_option maxHeartbeats 8000000
set_option maxRecDepth 100000
theorem JP{u:World}{B g n c k:Nat}{P Q:Nat->Bool}{b:Bool}(h:u.ownsRow B 4 1 (sG g n c) n (bv P n))(hQ:∀j,j<n->Q j=if j=k then b else P j):(u.setCell ⟨g,k,none⟩ (.bool b)).ownsRow B 4 1 (sG g n c) n (bv Q n):=by
 have:=(cT h k (.bool b)).1;rw[ON (Q:=Q) hQ]at this;exact this
theorem Co{α:Type}{l:List α}{k:Nat}{z y:α}(h:l[k]?=some z):y∈l.take (k+1)↔y∈l.take k\/y=z:=by
 rw[List.take_add_one,h];simp
theorem Pa{I:List Nat}{k b c y:Nat}(h:I[k]?=some y):jf (I.set k c) b=if b=k then c else jf I b:=by
 have hk:=(aD.1 h).1;unfold jf;rw[aJ,aJ,List.getElem?_set];by_cases e:b=k
 . subst e;simp[hk]
 . rw[bF (Ne.symm e),bF e]
def Qm(E:Nat->List Nat)(n:Nat)(Ks:List Nat)(Bk:List Int)(I:List Nat)(C:List Int)(f:Nat)(t:Int)(bd0 bd:Bool)(tt:Int):Prop:=
 ∃bd2 L ar ou,WI E n (fun j=>decide (j∈Ks)) I C f bd0 bd2 L/\(bd2=false->Ry E n (fun j=>decide (j∈Ks)) I C f L)/\(∀c,cf L c<=4294967295)/\Br (fun b=>cf L (jf I b)) (fun b=>b∈Ks/\(b:Int)∈Bk) ar/\Br (fun b=>cf L (jf I b)) (fun b=>b∈Ks/\∃y∈E b,y∉Ks) ou/\((bd=bd2/\tt=t*ar+ou/\t*ar+ou<=4294967295)\/bd=true/\4294967295<t*ar+ou)
def Rf(w u:World)(G n:Nat)(x:GV)(I:List Nat)(C:List Int)(E:Nat->List Nat)(hd:Nat)(Bk:List Int)(Ks:List Nat)(t:Int)(bd0:Bool)(u':World):Prop:=
 ∃bad' I' tt,Gr w u' G n x bad' I' (C.set hd tt)/\CW tt/\(∀b,b<u.heap.size->b≠G->b≠x.gi->b≠x.gc->u'.heap[b]?=u.heap[b]?)/\(∀b,jf I' b=if b∈Ks then hd else jf I b)/\Qm E n Ks Bk I C hd t bd0 bad' tt
theorem RK{q:Prop}(h:q:=by
 obtain⟨ga,oa,ea,_,e0⟩:=H.o.2.2.2.1.at_ (aA hlt);have hto:Ks[k]<n:=H.o.2.2.2.2 _ (bq hlt);have HZ:Hid (Ks[k]?=some Ks[k]):=aA hlt;subst ea;generalize Ks[k]=z at hto e0 HZ;have htoI:(z:Int)<(n:Int):=by omega
 have HC:Hid (∀(W:World) (bd:Bool) (I':List Nat),Gr w W G n x bd I' C/\Bx w u W G x X hd (.slice ab Bk.length cb) (sO ga oa Ks.length ck)->W.cell? ⟨G,6,none⟩=some (sG x.gi n x.ci)/\W.cell? ⟨X,2,none⟩=some (sO ga oa Ks.length ck)/\W.cell? ⟨ga,oa+k,none⟩=some (iZ (z:Int))/\W.cell? ⟨X,0,none⟩=some (iZ (hd:Int))):=fun W bd I' hW=>⟨hW.1.cells.2.2.1,hW.2.cells.2.2,Ad hW.1.bel e0,hW.2.cells.1⟩
 go_upto_region 30 with fail
 have ED:Hid (Gr w wr.drew G n x bad2 I2 C/\Bx w u wr.drew G x X hd (.slice ab Bk.length cb) (sO ga oa Ks.length ck)):=⟨E5.o.1.keep (Ae _),E5.o.2.1.keep (Ae _)⟩
 refine wp_region_held_drew (S:=fun W=>W.cell? ⟨G,6,none⟩=some (sG x.gi n x.ci)/\W.cell? ⟨X,2,none⟩=some (sO ga oa Ks.length ck)/\W.cell? ⟨ga,oa+k,none⟩=some (iZ (z:Int))/\W.cell? ⟨X,0,none⟩=some (iZ (hd:Int))) (by kernel_rfl) (by exact HC.o _ _ _ ED.o) (fun hHeld=> ?_)
 generalize wr.drew=UD at ED hHeld⊢;obtain⟨y0,hy0,_,i0⟩:=ED.o.1.isAt hto;have z0:=ED.o.1.is_.frozenAt z;have EN:Hid (Gr w (UD.setCell ⟨x.gi,z,none⟩ (iZ (hd:Int))) G n x bad2 (I2.set z hd) C/\Bx w u (UD.setCell ⟨x.gi,z,none⟩ (iZ (hd:Int))) G x X hd (.slice ab Bk.length cb) (sO ga oa Ks.length ck)):=⟨ED.o.1.setI z hh,ED.o.2.row ED.o.1.is_ (by decide) (.inr (.inl rfl))⟩
 have HI:Hid (∀b,jf (I2.set z hd) b=if b∈Ks.take (k+1)then hd else jf I b):=fun b=>by
  rw[Pa hy0,E5.o.2.2 b];have:=Co (y:=b) HZ.o;by_cases e:b=z
  . rw[a8 e,a8 (this.2 (.inr e))]
  . rw[bF e]
    by_cases e2:b∈Ks.take k
    . rw[a8 e2,a8 (this.2 (.inl e2))]
    . rw[bF e2,bF (fun q=>(this.1 q).elim e2 e)]
 refine AG 0 ?_;refine AG 1 ?_;refine AG 2 ?_;refine AG 3 ?_;refine AG 4 ?_;refine AG 5 ?_;refine AG 6 ?_;refine AG 7 ?_;refine AG 8 ?_;refine AG 9 ?_;refine AG 10 ?_;refine AG 11 ?_;refine Gq 12 ?_;intro KC hKC;go_simp;refine hKC.o _ _ (by exact HC.o _ _ _ EN.o) (fun hHeld=> ?_);refine wpAnyH_done (by kernel_rfl) ?_ _;generalize UD.setCell ⟨x.gi,z,none⟩ (iZ (hd:Int))=UE at EN⊢;go_wp2_with fail
 go_roundw
 case rel=>exact⟨k+1,by omega,by go_num,_,EN.o.1,EN.o.2,HI.o⟩
 case measure=>simp[intOf];omega):q:=h
theorem RJ{q:Prop}(h:q:=by
 go_wp2_with fail
 clear x0 x1 x2 p2 p3 p6 p7 p8 z8 E2 HA;go_loopw [18] (fun i wr=>∃k:Nat,k<=Ks.length/\i=iZ k/\Hid (∃I',Gr w wr G n x bad2 I' C/\Bx w u wr G x X hd (.slice ab Bk.length cb) (.slice ak Ks.length ck)/\∀b,jf I' b=if b∈Ks.take k then hd else jf I b)) (fun i _=>Ks.length-(intOf i).toNat)
 case atStart=>exact⟨0,by omega,rfl,_,E3.o.1,E3.o.2,fun b=>by simp⟩
 case round=>
  clear E3;obtain⟨k,hk',rfl,E4⟩:=hrel;obtain⟨I2,hg4,hx4⟩:=E4.o;have E5:Hid (Gr w wr G n x bad2 I2 C/\Bx w u wr G x X hd (.slice ab Bk.length cb) (.slice ak Ks.length ck)/\∀b,jf I2 b=if b∈Ks.take k then hd else jf I b):=⟨hg4,hx4⟩
  clear hg4 hx4 E4;obtain⟨x0,x1,x2⟩:=E5.o.2.1.cells;by_cases hlt:k<Ks.length
  . have hltI:(k:Int)<(Ks.length:Int):=by omega
    exact RK
  . have HC:Hid (∀(W:World) (bd:Bool) (I':List Nat) (C:List Int),Gr w W G n x bd I' C/\Bx w u W G x X hd (.slice ab Bk.length cb) (.slice ak Ks.length ck)->W.cell? ⟨G,7,none⟩=some (sG x.gc n x.cc)/\W.cell? ⟨X,0,none⟩=some (iZ (hd:Int))):=fun W bd I' C hW=>⟨hW.1.cells.2.2.2.1,hW.2.cells.1⟩
    have hhI:(hd:Int)<(n:Int):=by omega
    have HI:Hid (∀b,jf I2 b=if b∈Ks then hd else jf I b):=fun b=>by
     have:=E5.o.2.2 b;rw[an (show Ks.length<=k by omega)]at this;exact this
    go_upto_region 31 with fail
    have ED:Hid (Gr w wr.drew G n x bad2 I2 C/\Bx w u wr.drew G x X hd (.slice ab Bk.length cb) (.slice ak Ks.length ck)):=⟨E5.o.1.keep (Ae _),E5.o.2.1.keep (Ae _)⟩
    refine wp_region_held_drew (S:=fun W=>W.cell? ⟨G,7,none⟩=some (sG x.gc n x.cc)/\W.cell? ⟨X,0,none⟩=some (iZ (hd:Int))) (by kernel_rfl) (by exact HC.o _ _ _ _ ED.o) (fun hHeld=> ?_)
    generalize wr.drew=UD at ED hHeld⊢;obtain⟨y0,_,_,i0⟩:=ED.o.1.costAt hh;have z0:=ED.o.1.cost.frozenAt hd;have EN:Hid (Gr w (UD.setCell ⟨x.gc,hd,none⟩ (iZ tt)) G n x bad2 I2 (C.set hd tt)/\Bx w u (UD.setCell ⟨x.gc,hd,none⟩ (iZ tt)) G x X hd (.slice ab Bk.length cb) (.slice ak Ks.length ck)):=⟨ED.o.1.setC hd HT.o.1,ED.o.2.row ED.o.1.cost (by decide) (.inr (.inr rfl))⟩
    refine AG 0 ?_;refine AG 1 ?_;refine AG 2 ?_;refine AG 3 ?_;refine AG 4 ?_;refine AG 5 ?_;refine AG 6 ?_;refine AG 7 ?_;refine Gq 8 ?_;intro KC hKC;go_simp;refine hKC.o _ _ (by exact HC.o _ _ _ _ EN.o) (fun hHeld=> ?_);refine wpAnyH_done (by kernel_rfl) ?_ _;refine bodyPost_end (v:=.tuple #[]) (by kernel_rfl) rfl ?_;exact⟨rfl,bad2,_,tt,EN.o.1,HT.o.1,EN.o.2.fr,HI.o,HT.o.2⟩):q:=h
theorem Ru{q:Prop}(h:q:=by
 obtain⟨ga,oa,ea,_,e0⟩:=H.o.2.2.2.1.at_ (aA hlt);have hto:Ks[k]<n:=H.o.2.2.2.2 _ (bq hlt);have HZ:Hid (Ks[k]?=some Ks[k]):=aA hlt;subst ea;generalize Ks[k]=z at hto e0 HZ;have htoI:(z:Int)<(n:Int):=by omega
 have HC:Hid (∀(W:World) (bd:Bool) (I':List Nat),Gr w W G n x bd I' C/\Bx w u W G x X hd (.slice ab Bk.length cb) (sO ga oa Ks.length ck)->W.cell? ⟨G,6,none⟩=some (sG x.gi n x.ci)/\W.cell? ⟨X,2,none⟩=some (sO ga oa Ks.length ck)/\W.cell? ⟨ga,oa+k,none⟩=some (iZ (z:Int))/\W.cell? ⟨X,0,none⟩=some (iZ (hd:Int))):=fun W bd I' hW=>⟨hW.1.cells.2.2.1,hW.2.cells.2.2,Ad hW.1.bel e0,hW.2.cells.1⟩
 go_upto_region 30 with fail
 have ED:Hid (Gr w wr.drew G n x true I2 C/\Bx w u wr.drew G x X hd (.slice ab Bk.length cb) (sO ga oa Ks.length ck)):=⟨E5.o.1.keep (Ae _),E5.o.2.1.keep (Ae _)⟩
 refine wp_region_held_drew (S:=fun W=>W.cell? ⟨G,6,none⟩=some (sG x.gi n x.ci)/\W.cell? ⟨X,2,none⟩=some (sO ga oa Ks.length ck)/\W.cell? ⟨ga,oa+k,none⟩=some (iZ (z:Int))/\W.cell? ⟨X,0,none⟩=some (iZ (hd:Int))) (by kernel_rfl) (by exact HC.o _ _ _ ED.o) (fun hHeld=> ?_)
 generalize wr.drew=UD at ED hHeld⊢;obtain⟨y0,hy0,_,i0⟩:=ED.o.1.isAt hto;have z0:=ED.o.1.is_.frozenAt z;have EN:Hid (Gr w (UD.setCell ⟨x.gi,z,none⟩ (iZ (hd:Int))) G n x true (I2.set z hd) C/\Bx w u (UD.setCell ⟨x.gi,z,none⟩ (iZ (hd:Int))) G x X hd (.slice ab Bk.length cb) (sO ga oa Ks.length ck)):=⟨ED.o.1.setI z hh,ED.o.2.row ED.o.1.is_ (by decide) (.inr (.inl rfl))⟩
 have HI:Hid (∀b,jf (I2.set z hd) b=if b∈Ks.take (k+1)then hd else jf I b):=fun b=>by
  rw[Pa hy0,E5.o.2.2 b];have:=Co (y:=b) HZ.o;by_cases e:b=z
  . rw[a8 e,a8 (this.2 (.inr e))]
  . rw[bF e]
    by_cases e2:b∈Ks.take k
    . rw[a8 e2,a8 (this.2 (.inl e2))]
    . rw[bF e2,bF (fun q=>(this.1 q).elim e2 e)]
 refine AG 0 ?_;refine AG 1 ?_;refine AG 2 ?_;refine AG 3 ?_;refine AG 4 ?_;refine AG 5 ?_;refine AG 6 ?_;refine AG 7 ?_;refine AG 8 ?_;refine AG 9 ?_;refine AG 10 ?_;refine AG 11 ?_;refine Gq 12 ?_;intro KC hKC;go_simp;refine hKC.o _ _ (by exact HC.o _ _ _ EN.o) (fun hHeld=> ?_);refine wpAnyH_done (by kernel_rfl) ?_ _;generalize UD.setCell ⟨x.gi,z,none⟩ (iZ (hd:Int))=UE at EN⊢;go_wp2_with fail
 go_roundw
 case rel=>exact⟨k+1,by omega,by go_num,_,EN.o.1,EN.o.2,HI.o⟩
 case measure=>simp[intOf];omega):q:=h
theorem Qv{q:Prop}(h:q:=by
 go_wp2_with fail
 clear x0 x1 x2 p2 p3 p6 p7 p8 z8 E2 HA;go_loopw [18] (fun i wr=>∃k:Nat,k<=Ks.length/\i=iZ k/\Hid (∃I',Gr w wr G n x true I' C/\Bx w u wr G x X hd (.slice ab Bk.length cb) (.slice ak Ks.length ck)/\∀b,jf I' b=if b∈Ks.take k then hd else jf I b)) (fun i _=>Ks.length-(intOf i).toNat)
 case atStart=>exact⟨0,by omega,rfl,_,E3.o.1,E3.o.2,fun b=>by simp⟩
 case round=>
  clear E3;obtain⟨k,hk',rfl,E4⟩:=hrel;obtain⟨I2,hg4,hx4⟩:=E4.o;have E5:Hid (Gr w wr G n x true I2 C/\Bx w u wr G x X hd (.slice ab Bk.length cb) (.slice ak Ks.length ck)/\∀b,jf I2 b=if b∈Ks.take k then hd else jf I b):=⟨hg4,hx4⟩
  clear hg4 hx4 E4;obtain⟨x0,x1,x2⟩:=E5.o.2.1.cells;by_cases hlt:k<Ks.length
  . have hltI:(k:Int)<(Ks.length:Int):=by omega
    exact Ru
  . have HC:Hid (∀(W:World) (bd:Bool) (I':List Nat) (C:List Int),Gr w W G n x bd I' C/\Bx w u W G x X hd (.slice ab Bk.length cb) (.slice ak Ks.length ck)->W.cell? ⟨G,7,none⟩=some (sG x.gc n x.cc)/\W.cell? ⟨X,0,none⟩=some (iZ (hd:Int))):=fun W bd I' C hW=>⟨hW.1.cells.2.2.2.1,hW.2.cells.1⟩
    have hhI:(hd:Int)<(n:Int):=by omega
    have HI:Hid (∀b,jf I2 b=if b∈Ks then hd else jf I b):=fun b=>by
     have:=E5.o.2.2 b;rw[an (show Ks.length<=k by omega)]at this;exact this
    go_upto_region 31 with fail
    have ED:Hid (Gr w wr.drew G n x true I2 C/\Bx w u wr.drew G x X hd (.slice ab Bk.length cb) (.slice ak Ks.length ck)):=⟨E5.o.1.keep (Ae _),E5.o.2.1.keep (Ae _)⟩
    refine wp_region_held_drew (S:=fun W=>W.cell? ⟨G,7,none⟩=some (sG x.gc n x.cc)/\W.cell? ⟨X,0,none⟩=some (iZ (hd:Int))) (by kernel_rfl) (by exact HC.o _ _ _ _ ED.o) (fun hHeld=> ?_)
    generalize wr.drew=UD at ED hHeld⊢;obtain⟨y0,_,_,i0⟩:=ED.o.1.costAt hh;have z0:=ED.o.1.cost.frozenAt hd;have EN:Hid (Gr w (UD.setCell ⟨x.gc,hd,none⟩ (iZ 0)) G n x true I2 (C.set hd 0)/\Bx w u (UD.setCell ⟨x.gc,hd,none⟩ (iZ 0)) G x X hd (.slice ab Bk.length cb) (.slice ak Ks.length ck)):=⟨ED.o.1.setC hd HT.o.1,ED.o.2.row ED.o.1.cost (by decide) (.inr (.inr rfl))⟩
    refine AG 0 ?_;refine AG 1 ?_;refine AG 2 ?_;refine AG 3 ?_;refine AG 4 ?_;refine AG 5 ?_;refine AG 6 ?_;refine AG 7 ?_;refine Gq 8 ?_;intro KC hKC;go_simp;refine hKC.o _ _ (by exact HC.o _ _ _ _ EN.o) (fun hHeld=> ?_);refine wpAnyH_done (by kernel_rfl) ?_ _;refine bodyPost_end (v:=.tuple #[]) (by kernel_rfl) rfl ?_;exact⟨rfl,true,_,0,EN.o.1,HT.o.1,EN.o.2.fr,HI.o,HT.o.2⟩):q:=h
theorem Rv{q:Prop}(h:q:=by
 rintro e u4 ⟨tt,rfl,htt,hU⟩;rcases hU with⟨rfl,rfl,_⟩|⟨_,_,h3⟩
 case inr=>exact absurd h3 (by have:=HB.o;omega)
 have E3:Hid (Gr w u4 G n x bad2 I C/\Bx w u u4 G x X hd (.slice ab Bk.length cb) (.slice ak Ks.length ck)):=⟨E2.o.1.gr,E2.o.2⟩
 generalize _+o0=tt at HT htt⊢;exact RJ):q:=h
theorem Q5{q:Prop}(h:q:=by
 go_wp2_with fail
 go_loopw [11,16] (fun o j wr=>∃(q:Nat) (o0:Int),q<=eb.length/\o=iZ o0/\j=iZ q/\wr=u3/\Hid (CW o0/\Br (fun b=>cf L (jf I b)) (fun b=>(b∈Ks.take k/\∃y∈E b,y∉Ks)\/b=z/\∃y∈eb.take q,y∉Ks) o0)) (fun _ j _=>eb.length-(intOf j).toNat)
 case atStart=>exact⟨0,o0,by omega,rfl,rfl,rfl,HA.o.2.1,HA.o.2.2.2.iff fun b=>by simp⟩
 case round=>
  obtain⟨q,o1,hq,rfl,rfl,rfl,HO⟩:=hrel;by_cases hlq:q<eb.length
  case neg=>
   go_wp2_with fail
   go_roundw
   case rel=>
    refine⟨k+1,_,o1,by omega,by trivial,by trivial,by go_num,by trivial,HA1.o.1,HO.o.1,HA1.o.2,HO.o.2.iff fun b=> ?_⟩;rw[Co HZ.o,an (show eb.length<=q by omega),<-HEb.o];constructor
    . rintro⟨e|e,h⟩
      . exact .inl ⟨e,h⟩
      . exact .inr ⟨e,e▸h⟩
    . rintro(⟨e,h⟩|⟨e,h⟩)
      . exact⟨.inl e,h⟩
      . exact⟨.inr e,e▸h⟩
   case measure=>simp[intOf];omega
  have hlqI:(q:Int)<(eb.length:Int):=by omega
  obtain⟨gx,ox,ex,_,v0⟩:=HE.o.1.at_ (aA hlq);have hto2:eb[q]<n:=HE.o.2 _ (bq hlq);have HY:Hid (eb[q]?=some eb[q]):=aA hlq;subst ex;generalize eb[q]=y at hto2 v0 HY;have hto2I:(y:Int)<(n:Int):=by omega
  have n1:=E2.o.1.inAt hto2;by_cases hPy:y∈Ks
  . rw [decide_eq_true hPy]at n1
    go_wp2_with fail
    go_roundw
    case rel=>
     refine⟨q+1,o1,by omega,by trivial,by go_num,by trivial,HO.o.1,HO.o.2.iff fun b=> ?_⟩;constructor
     . rintro(h|⟨e,y',h,h2⟩)
       . exact .inl h
       . rcases(Co HY.o).1 h with h|rfl
         . exact .inr ⟨e,y',h,h2⟩
         . exact absurd hPy h2
     . rintro(h|⟨e,y',h,h2⟩)
       . exact .inl h
       . exact .inr ⟨e,y',(Co HY.o).2 (.inl h),h2⟩
    case measure=>simp[intOf];omega
  rw[bI hPy]at n1
  have HM:Hid (Br (fun b=>cf L (jf I b)) (fun b=>(b∈Ks.take k/\∃y∈E b,y∉Ks)\/b=z/\∃y∈eb.take (q+1),y∉Ks) (max o1 c)):=by
   rw[<-HFz.o];refine HO.o.2.add fun b=> ?_
   constructor
   . rintro(h|⟨e,_⟩)
     . exact .inl (.inl h)
     . exact .inr e
   . rintro((h|⟨e,y',h,h2⟩)|e)
     . exact .inl h
     . exact .inr ⟨e,y',(Co HY.o).2 (.inl h),h2⟩
     . exact .inr ⟨e,y,(Co HY.o).2 (.inr rfl),hPy⟩
  by_cases hco:c>o1
  . rw[show max o1 c=c by omega]at HM
    go_wp2_with fail
    go_roundw
    case rel=>exact⟨q+1,c,by omega,by trivial,by go_num,by trivial,⟨by have:=HO.o.1.1;omega,hc.2⟩,HM.o⟩
    case measure=>simp[intOf];omega
  . rw[show max o1 c=o1 by omega]at HM
    go_wp2_with fail
    go_roundw
    case rel=>exact⟨q+1,o1,by omega,by trivial,by go_num,by trivial,HO.o.1,HM.o⟩
    case measure=>simp[intOf];omega):q:=h
theorem Jm (w u:World)(G n:Nat)(x:GV)(bad:Bool)(I:List Nat)(C:List Int)(E:Nat->List Nat)(O:List Nat)(hd:Nat)(vb vk:Value)(Bk:List Int)(Ks:List Nat)(t:Int)(h0:n<=1048576)(hh:hd<n)(ht:CW t)(h:Gr w u G n x bad I C)(hF:GF w n x E O)(hB:Rd w 1 vb Bk.length (Bk.flatMap Ac))(hBl:Bk.length<=1048576)(hK:DR w vk Ks)(hKl:Ks.length<=1048576)(hKb:∀y∈Ks,y<n)(hjo:∀b,b∈Ks->jf I b=hd->b=hd)(hjh:jf I hd=hd)(hOa:∀b,b<n->∃j:Nat,O[j]?=some b):
 Calls Tryz.prog 21 #[.pointer (some ⟨G,0,none⟩),.agg #[iZ (hd:Int),vb,vk],iZ t] u fun e u'=>e=.returned (.tuple #[])/\Rf w u G n x I C E hd Bk Ks t bad u':=by
 obtain⟨j0,hj,hy0,hy1,hy2⟩:=bQ Dy;obtain⟨ab,cb,eb⟩:=Rd.is_slice hB;obtain⟨ak,ck,ek⟩:=Rd.is_slice hK;subst eb ek;have HJ:=AS (aq hjo (aq hjh hOa));clear hjo hjh hOa;have H:Hid (GF w n x E O/\Rd w 1 (.slice ab Bk.length cb) Bk.length (Bk.flatMap Ac)/\Bk.length<=1048576/\DR w (.slice ak Ks.length ck) Ks/\∀y∈Ks,y<n):=⟨hF,hB,hBl,hK,hKb⟩
 have E0:Hid (Gr w (u.alloc (.cells #[iZ (hd:Int),.slice ab Bk.length cb,.slice ak Ks.length ck] 68)) G n x bad I C/\Bx w u (u.alloc (.cells #[iZ (hd:Int),.slice ab Bk.length cb,.slice ak Ks.length ck] 68)) G x u.heap.size hd (.slice ab Bk.length cb) (.slice ak Ks.length ck)):=⟨h.keep (Aa _ _),Ak.new _ _ _,h.bel.size,Nat.le_refl _,fun b hb _ _ _=>(Aa _ _).block b hb⟩
 clear hF hB hBl hK hKb h;go_enter Tryz.func21,Tryz.ntmps21;go_upto_region 1 with fail
 generalize u.heap.size=X at E0⊢;refine Al (fun U=>Hid (Gr w U G n x bad I C/\Bx w u U G x X hd (.slice ab Bk.length cb) (.slice ak Ks.length ck))) E0 ?_
 clear E0;rintro U E0;obtain⟨p2,p3,p6,p7,p8,z8⟩:=E0.o.1.cells;obtain⟨x0,x1,x2⟩:=E0.o.2.cells;have hsz:=E0.o.1.bel.size;go_wp2_with (at_make;refine bZ _ rfl _ _ 74 rfl w.heap.size 4 j0 (.bool false) 1 Tryz.underlying74 hj hy0 hy1 .i64 .i64 _ _ n rfl rfl rfl rfl (by rw[hy2];omega) (by unfold maxLen;omega) hsz ?_;intro w3 hown hgrow;rw[Pq]at hown);have hb3:Below U.heap.size U w3:=(aX _ _).grown hgrow lR (fun k hk=>by cases hk);have E1:Hid (Gr w w3 G n x bad I C/\Bx w u w3 G x X hd (.slice ab Bk.length cb) (.slice ak Ks.length ck)/\w3.ownsRow w.heap.size 4 1 (sG U.heap.size n n) n (bv (fun j=>decide (j∈Ks.take 0)) n)):=⟨E0.o.1.keep hb3,E0.o.2.keep hb3,by rw[FV (Q:=fun _=>false) (fun i _=>by simp)];exact hown⟩
 have HGn:Hid (u.heap.size<=U.heap.size):=by have:=E0.o.2.blk.lt;have:=E0.o.2.up;show u.heap.size<=U.heap.size;omega
 clear hown hgrow hb3 p2 p3 p6 p7 p8 z8 x0 x1 x2 hsz E0;generalize U.heap.size=gn at E1 HGn⊢;go_loopw [8] (fun i wr=>∃(k:Nat),k<=Ks.length/\i=iZ k/\Hid (Gr w wr G n x bad I C/\Bx w u wr G x X hd (.slice ab Bk.length cb) (.slice ak Ks.length ck)/\wr.ownsRow w.heap.size 4 1 (sG gn n n) n (bv (fun j=>decide (j∈Ks.take k)) n))) (fun i _=>Ks.length-(intOf i).toNat)
 case atStart=>exact⟨0,by omega,rfl,E1⟩
 case round =>
  clear E1;obtain⟨k,hk',rfl,E1⟩:=hrel;obtain⟨x0,x1,x2⟩:=E1.o.2.1.cells;by_cases hlt:k<Ks.length
  . have hltI:(k:Int)<(Ks.length:Int):=by omega
    obtain⟨ga,oa,ea,_,e0'⟩:=H.o.2.2.2.1.at_ (aA hlt);have e0:=Ad E1.o.1.bel e0';have hto:Ks[k]<n:=H.o.2.2.2.2 _ (bq hlt);have HZ:Hid (Ks[k]?=some Ks[k]):=aA hlt;subst ea;clear e0';generalize Ks[k]=z at hto e0 HZ;have htoI:(z:Int)<(n:Int):=by omega
    have c0:=cD E1.o.2.2 z (by omega);rw[Hx _ _ _ hto]at c0;have z0:=E1.o.2.2.frozenAt z
    have E2:Hid (Gr w (wr.setCell ⟨gn,z,none⟩ (.bool true)) G n x bad I C/\Bx w u (wr.setCell ⟨gn,z,none⟩ (.bool true)) G x X hd (.slice ab Bk.length cb) (sO ga oa Ks.length ck)/\(wr.setCell ⟨gn,z,none⟩ (.bool true)).ownsRow w.heap.size 4 1 (sG gn n n) n (bv (fun j=>decide (j∈Ks.take (k+1))) n)):=by
     have hP:=E1.o.2.2;obtain⟨_,cur,e1⟩:=Am hP;obtain⟨_,c2,e2⟩:=Am E1.o.1.is_;obtain⟨_,c3,e3⟩:=Am E1.o.1.cost;have e4:=E1.o.1.blk;unfold Ak at e4;refine⟨E1.o.1.other (Am hP).1 (fun q=> ?_) (fun q=> ?_) (fun q=> ?_),E1.o.2.1.row hP (by decide) (.inl HGn.o),JP hP fun j _=> ?_⟩
     . rw[q,e4]at e1
       cases e1
     . rw[q,e2]at e1
       cases e1
     . rw[q,e3]at e1
       cases e1
     . have:=Co (y:=j) HZ.o
       by_cases e:j=z
       . rw[a8 e,decide_eq_true (this.2 (.inr e))]
       . rw[bF e]
         by_cases e2:j∈Ks.take k
         . rw[decide_eq_true e2,decide_eq_true (this.2 (.inl e2))]
         . rw[bI e2,bI (fun q=>(this.1 q).elim e2 e)]
    go_wp2_with fail
    go_roundw
    case rel=>exact⟨k+1,by omega,by go_num,E2⟩
    case measure=>simp[intOf];omega
  . go_wp2_with fail
    have hP:=E1.o.2.2;rw[an (show Ks.length<=k by omega)]at hP;refine(JH w wr G n x bad I C E O gn n hd (fun j=>decide (j∈Ks)) h0 hh E1.o.1 H.o.1 hP (fun b hb=>HJ.o.1 b (dP hb.2)) HJ.o.2.1 HJ.o.2.2).mono ?_;rintro e u2 ⟨gB,bad2,L,rfl,hW,hWI⟩;have HWI:=AS hWI
    have E2:Hid (Wy w wr u2 G n x bad2 I C gn n (fun j=>decide (j∈Ks)) gB L/\Bx w u u2 G x X hd (.slice ab Bk.length cb) (.slice ak Ks.length ck)):=by
     refine⟨hW,?_,E1.o.2.1.lo,E1.o.2.1.up,fun b h1 h2 h3 h4=>by have:=E1.o.2.1.blk.lt;have:=E1.o.2.1.up;rw[hW.fr b (by omega) h2];exact E1.o.2.1.fr b h1 h2 h3 h4⟩;have q:=E1.o.2.1.blk;have q2:=hW.fr X q.lt (E1.o.2.1.ne E1.o.1);unfold Ak at q⊢;rw[q2,q]
    clear hW hWI hP E1 x0 x1 x2;clear hlt hk';go_wp2_with fail
    have HBk:Hid (Rd u2 1 (.slice ab Bk.length cb) Bk.length (Bk.flatMap Ac)/\Bk.length<=1048576):=⟨Rd.keep H.o.2.1 E2.o.1.gr.bel lR,H.o.2.2.1⟩
    go_loopw [10,11,12,13,14,15,16] (fun a o i _ _ _ _ wr=>∃(k:Nat) (a0 o0:Int),k<=Ks.length/\a=iZ a0/\o=iZ o0/\i=iZ k/\wr=u2/\Hid (CW a0/\CW o0/\Br (fun b=>cf L (jf I b)) (fun b=>b∈Ks.take k/\(b:Int)∈Bk) a0/\Br (fun b=>cf L (jf I b)) (fun b=>b∈Ks.take k/\∃y∈E b,y∉Ks) o0)) (fun _ _ i _ _ _ _ _=>Ks.length-(intOf i).toNat)
    case atStart=>exact⟨0,0,0,by omega,rfl,rfl,rfl,rfl,⟨by omega,by omega⟩,⟨by omega,by omega⟩,Br.none (fun b hb=>by simp at hb),Br.none (fun b hb=>by simp at hb)⟩
    case round=>
     obtain⟨k,a0,o0,hk',rfl,rfl,rfl,rfl,HA⟩:=hrel;obtain⟨x0,x1,x2⟩:=E2.o.2.cells;obtain⟨p2,p3,p6,p7,p8,z8⟩:=E2.o.1.gr.cells;by_cases hlt:k<Ks.length
     . have hltI:(k:Int)<(Ks.length:Int):=by omega
       obtain⟨ga,oa,ea,_,e0'⟩:=H.o.2.2.2.1.at_ (aA hlt);have e0:=Ad E2.o.1.gr.bel e0';have hto:Ks[k]<n:=H.o.2.2.2.2 _ (bq hlt);have HZ:Hid (Ks[k]?=some Ks[k]):=aA hlt;subst ea;clear e0';generalize Ks[k]=z at hto e0 HZ;have htoI:(z:Int)<(n:Int):=by omega
       obtain⟨r,hr,hrk,i0⟩:=E2.o.1.gr.isAt hto;have hrI:(r:Int)<(n:Int):=by omega
       obtain⟨c,hcL,hc,b0,_⟩:=E2.o.1.at_ hrk
       have HFz:Hid ((fun b=>cf L (jf I b)) z=c):=by
        show cf L (jf I z)=c;rw[Ir hr];exact DI hcL
       obtain⟨ax,cx,g0',hrr⟩:=H.o.1.gr z hto;have g0:=Ad E2.o.1.gr.bel g0';have HE:Hid (DR wr (.slice ax (E z).length cx) (E z)/\∀y∈E z,y<n):=⟨hrr.keep E2.o.1.gr.bel,H.o.1.eb z hto⟩
       have hE2:=H.o.1.sz z;clear g0' hrr hr hcL;generalize hEb:E z=eb at HE g0 hE2;have HEb:=AS hEb;clear hEb;go_wp2_with fail
       refine(CZ _ Bk (z:Int) wr HBk.o.2 HBk.o.1).mono ?_;rintro e u3 ⟨⟨bb,rfl,hq0⟩,rfl⟩;have HQ:=AS hq0;clear hq0;cases bb
       . have HA1:Hid (CW a0/\Br (fun b=>cf L (jf I b)) (fun b=>b∈Ks.take (k+1)/\(b:Int)∈Bk) a0):=⟨HA.o.1,HA.o.2.2.1.iff fun b=>by
          rw[Co HZ.o];constructor
          . rintro⟨e|rfl,h⟩
            . exact⟨e,h⟩
            . exact absurd (HQ.o.2 h) (by simp)
          . rintro⟨e,h⟩
            exact⟨.inl e,h⟩⟩
         exact Q5
       . have HM:Hid (Br (fun b=>cf L (jf I b)) (fun b=>b∈Ks.take (k+1)/\(b:Int)∈Bk) (max a0 c)):=by
          rw[<-HFz.o];refine HA.o.2.2.1.add fun b=> ?_
          rw[Co HZ.o];constructor
          . rintro⟨e|e,h⟩
            . exact .inl ⟨e,h⟩
            . exact .inr e
          . rintro(⟨e,h⟩|rfl)
            . exact⟨.inl e,h⟩
            . exact⟨.inr rfl,HQ.o.1 rfl⟩
         by_cases hca:c>a0
         . rw[show max a0 c=c by omega]at HM
           have HA1:Hid (CW c/\Br (fun b=>cf L (jf I b)) (fun b=>b∈Ks.take (k+1)/\(b:Int)∈Bk) c):=⟨⟨by have:=HA.o.1.1;omega,hc.2⟩,HM.o⟩
           exact Q5
         . rw[show max a0 c=a0 by omega]at HM
           have HA1:Hid (CW a0/\Br (fun b=>cf L (jf I b)) (fun b=>b∈Ks.take (k+1)/\(b:Int)∈Bk) a0):=⟨HA.o.1,HM.o⟩
           exact Q5
     . obtain⟨⟨a1,a2⟩,⟨o1,o2⟩,ma,mo⟩:=HA.o
       obtain⟨t1,t2⟩:=ht
       have HM:Hid (Br (fun b=>cf L (jf I b)) (fun b=>b∈Ks/\(b:Int)∈Bk) a0/\Br (fun b=>cf L (jf I b)) (fun b=>b∈Ks/\∃y∈E b,y∉Ks) o0):=by
        rw[an (show Ks.length<=k by omega)]at ma mo;exact⟨ma,mo⟩
       have HLb:Hid (∀c,cf L c<=4294967295):=fun c=>by
        unfold cf;rw[aJ];cases e:L[c]? with
        |none=>show(0:Int)<=_;omega
        |some y=>exact(E2.o.1.lb y (aE e)).2
       clear HBk ma mo;by_cases hbig:4294967295<t*a0+o0
       case pos=>
        have ha0:a0>0:=by
         rcases Int.lt_or_le 0 a0 with e|e
         . exact e
         . obtain rfl:a0=0:=by omega
           simp at hbig;omega
        have hD0:0<=4294967295 / a0:=Int.ediv_nonneg (by omega) (by omega);have hD1:4294967295 / a0<=4294967295:=Int.ediv_le_self _ (by omega);by_cases htd:t>4294967295 / a0
        . have E3:Hid (Gr w (wr.setCell ⟨G,8,none⟩ (.bool true)) G n x true I C/\Bx w u (wr.setCell ⟨G,8,none⟩ (.bool true)) G x X hd (.slice ab Bk.length cb) (.slice ak Ks.length ck)):=⟨E2.o.1.gr.bad_,E2.o.2.bad_ E2.o.1.gr⟩
          have HT:Hid (CW 0/\Qm E n Ks Bk I C hd t bad true 0):=⟨⟨by omega,by omega⟩,bad2,L,a0,o0,HWI.o.1,HWI.o.2,HLb.o,HM.o.1,HM.o.2,.inr ⟨rfl,hbig⟩⟩
          clear hbig;exact Qv
        . have hle:t*a0<=4294967295:=by
           have h1:t<=4294967295 / a0:=by omega
           exact(Int.le_ediv_iff_mul_le (by omega)).1 h1
          have h2:0<=t*a0:=Int.mul_nonneg t1 a1;have HT:Hid (CW 0/\Qm E n Ks Bk I C hd t bad true 0):=⟨⟨by omega,by omega⟩,bad2,L,a0,o0,HWI.o.1,HWI.o.2,HLb.o,HM.o.1,HM.o.2,.inr ⟨rfl,hbig⟩⟩
          have HB:=AS hbig;clear hbig;go_wp2_with fail
          refine(D9 G (t*a0) o0 _ wr ⟨h2,hle⟩ ⟨o1,o2⟩ E2.o.1.gr.cells.2.2.2.2.1 E2.o.1.gr.cells.2.2.2.2.2).mono ?_;rintro e u4 ⟨tt,rfl,htt,hU⟩;rcases hU with⟨_,_,h3⟩|⟨rfl,rfl,_⟩
          . exact absurd h3 (by have:=HB.o;omega)
          have E3:Hid (Gr w (wr.setCell ⟨G,8,none⟩ (.bool true)) G n x true I C/\Bx w u (wr.setCell ⟨G,8,none⟩ (.bool true)) G x X hd (.slice ab Bk.length cb) (.slice ak Ks.length ck)):=⟨E2.o.1.gr.bad_,E2.o.2.bad_ E2.o.1.gr⟩
          exact Qv
       case neg=>
        have h2:0<=t*a0:=Int.mul_nonneg t1 a1;have hle:t*a0<=4294967295:=by omega
        have HT:Hid (CW (t*a0+o0)/\Qm E n Ks Bk I C hd t bad bad2 (t*a0+o0)):=⟨⟨by omega,by omega⟩,bad2,L,a0,o0,HWI.o.1,HWI.o.2,HLb.o,HM.o.1,HM.o.2,.inl ⟨rfl,rfl,by omega⟩⟩
        have HN:Hid (a0>0->¬t>4294967295 / a0):=fun ha h=>by
         have:=(Int.le_ediv_iff_mul_le ha).2 hle;omega
        have HB:=AS hbig;clear hbig;by_cases ha0:a0>0
        . have hD0:0<=4294967295 / a0:=Int.ediv_nonneg (by omega) (by omega)
          have hD1:4294967295 / a0<=4294967295:=Int.ediv_le_self _ (by omega);have htd:=HN.o ha0;clear HN;go_wp2_with fail
          refine(D9 G (t*a0) o0 _ wr ⟨h2,hle⟩ ⟨o1,o2⟩ E2.o.1.gr.cells.2.2.2.2.1 E2.o.1.gr.cells.2.2.2.2.2).mono ?_;exact Rv
        . have ha1:a0=0:=by omega
          subst ha1;simp only[Int.mul_zero]at HT HB h2 hle;clear HN;go_wp2_with fail
          refine(D9 G 0 o0 _ wr ⟨by omega,by omega⟩ ⟨o1,o2⟩ E2.o.1.gr.cells.2.2.2.2.1 E2.o.1.gr.cells.2.2.2.2.2).mono ?_;exact Rv
end Go.Proofs.YtdipfjmlfbdkdaaGreat
