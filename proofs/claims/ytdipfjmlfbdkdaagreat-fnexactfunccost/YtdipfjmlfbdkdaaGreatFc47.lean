import Derived.Test.YtdipfjmlfbdkdaaGreatFc45
import Derived.RangeFuncNested
import Derived.RangeFuncBound
import Derived.RangeFuncCalls
import Derived.RangeFuncLeaves
import Derived.Shelf.Abstract
import Derived.Shelf.RegionOpen
import Derived.OwnWalkIn
import Derived.TacticsInMore
import Derived.LoopNIn
import Derived.LoopIn
import Derived.Shelf.SlSortCmp.NoneTotal
namespace Go.Proofs.YtdipfjmlfbdkdaaGreat
open Go.ChangeShapes Go.WideShapes Go.ChangeAt Go.RowKit
set_option linter.unusedVariables false
set_option maxHeartbeats 4000000
set_option maxRecDepth 100000
section
open Go.Shelf
attribute [local go_sem] Oper.semAt_some
def LV.arr(x:LV):Array Value:=#[.int .i64 x.h,.slice x.xa x.xn x.xc,.slice x.ya x.yn x.yc]
def Gu(W:World)(b off:Nat)(zs:List LV):Prop:=∀j (x:LV),zs[j]?=some x->W.cell? ⟨b,off+j*3,none⟩=some (.int .i64 x.h)/\W.cell? ⟨b,off+j*3+1,none⟩=some (.slice x.xa x.xn x.xc)/\W.cell? ⟨b,off+j*3+2,none⟩=some (.slice x.ya x.yn x.yc)
theorem Gu.keep{W W':World}{b off n₀:Nat}{zs:List LV}(h:Gu W b off zs)(hb:b<n₀)(hk:Below n₀ W W'):Gu W' b off zs:=fun j x hx=>by
 obtain⟨h1,h2,h3⟩:=h j x hx;exact⟨(hk.cell (p:=⟨b,_,none⟩) hb).trans h1,(hk.cell (p:=⟨b,_,none⟩) hb).trans h2,(hk.cell (p:=⟨b,_,none⟩) hb).trans h3⟩
theorem LY(a:Option Addr)(n c:Nat)(w:World):Calls Tryz.prog 99 #[.slice a n c] w fun e w'=>e=.returned (.func (.func 133) #[] #[.pointer (some ⟨w.heap.size,0,none⟩)])/\w'=w.alloc (.cells #[.slice a n c] 50):=by
 go_enter Tryz.func99,Tryz.ntmps99;go_wp2
 go_ret
 exact⟨rfl,rfl⟩
def Hn(W:World)(n₀:Nat)(a:Option Addr)(zs:List LV):Prop:=zs≠[]->∃b off,a=some ⟨b,off,none⟩/\b<n₀/\Gu W b off zs
theorem Hn.keep{W W':World}{n₀:Nat}{a:Option Addr}{zs:List LV}(h:Hn W n₀ a zs)(hk:Below n₀ W W'):Hn W' n₀ a zs:=fun hz=>by
 obtain⟨b,off,h1,h2,h3⟩:=h hz;exact⟨b,off,h1,h2,h3.keep h2 hk⟩
theorem LW(n:Nat)(hn:1<=n)(l Bs n₀ cap:Nat)(a:Option Addr)(zs:List LV)(hl:zs.length<=1048576)(J Jx:List LV->World->Prop)(W:World)(hn0:n₀<=W.heap.size)(hJ:AbidesFrom W.heap.size J)
 (hY:∀pre x W,J pre W->pre.length<zs.length->YieldAt Fence.wide (n-1) Tryz.prog l #[.agg x.arr] W fun e W'=>(e=.returned (.bool true)/\J (pre++[x]) W'/\Below n₀ W W')\/(e=.returned (.bool false)/\Jx (pre++[x]) W'))
 (hBs:W.cell? ⟨Bs,0,none⟩=some (.slice a zs.length cap)) (hc:Hn W n₀ a zs) (h0:J [] W):
 CallsIn Fence.wide n Tryz.prog 133 #[.func (.yield l) #[] #[],.pointer (some ⟨Bs,0,none⟩)] W fun e W'=>(∃v,e=.returned v)/\((∃ys,ys=zs/\J ys W')\/(∃pre,pre<+:zs/\Jx pre W')):=by
 refine callsIn_of_wp Tryz.func133 rfl trivial ?_ rfl;simp only[Tryz.ntmps133,List.size_toArray,dJ,dz,Nat.reduceAdd,Nat.reduceSub,Array.replicate_succ,Array.replicate_zero,List.push_toArray,List.append_toArray,dY,cA];gi_wp2
 gi_loopw [7] (fun i wr=>∃k:Nat,k<=zs.length/\i=.int .i64 k/\J (zs.take k) wr/\Below n₀ W wr) (fun i _=>zs.length-(intOf i).toNat)
 case atStart=>exact⟨0,dq _,rfl,h0,aX _ _⟩
 case round=>
  obtain⟨k,hk,rfl,hJs,hnx⟩:=hrel;by_cases hlt:k<zs.length
  . obtain⟨x,hx⟩:∃x,zs[k]?=some x:=⟨_,aA hlt⟩
    obtain⟨b,off,ea,hb,hrw⟩:=hc.keep hnx (fun e=>by rw[e]at hlt;exact absurd hlt (by simp));obtain⟨c0,c1,c2⟩:=hrw k x hx;subst ea;have hJ2:J (zs.take k) (wr.alloc (.cells x.arr 68)):=hJ _ _ _ none hJs (World.grownBy_alloc wr _ none) (fun r e=>by cases e);obtain⟨fn,tmps,assign,body,hy,hR⟩:=hY _ x _ hJ2 (by rw[bp];omega);have hT:zs.take (k+1)=zs.take k++[x]:=by rw[List.take_add_one,hx];rfl
    have hB2:Below n₀ W (wr.alloc (.cells x.arr 68)):=hnx.alloc (by have:=hnx.size;omega) _;simp only[LV.arr]at hy hR hB2;clear hJ2 hx hrw;gi_wp2;refine hR.mono ?_;rintro e W3 (⟨rfl,hJ3,hk3⟩|⟨rfl,hJx3⟩)
    . gi_wp2
      go_roundw
      case rel=>exact⟨k+1,by omega,by simp,by rw[hT];exact hJ3,hB2.trans hk3⟩
      case measure=>simp[intOf];omega
    . gi_wp2
      refine bC (results_none rfl _ _ _) rfl ?_;exact⟨⟨_,rfl⟩,.inr ⟨_,by rw[<-hT];exact List.take_prefix _ _,hJx3⟩⟩
  . obtain rfl:k=zs.length:=by omega
    rw[List.take_length]at hJs;gi_wp2
    go_end0
    exact⟨⟨_,rfl⟩,.inl ⟨_,rfl,hJs⟩⟩
theorem Jv(n:Nat)(hn:1<=n)(Bs n₀ cap:Nat)(a:Option Addr)(zs:List LV)(hl:zs.length<=1048576)(w:World)(hn₀:n₀<=w.heap.size)(hBs:w.cell? ⟨Bs,0,none⟩=some (.slice a zs.length cap))(hc:Hn w n₀ a zs):
 SeqStopsK Fence.wide n Tryz.prog 133 #[.pointer (some ⟨Bs,0,none⟩)] (fun x:LV=>#[.agg x.arr]) (Below n₀) (fun ys=>ys=zs) (fun pre=>pre<+:zs) zs.length w:=fun l J Jx W hW hJ _ hY h0=>
 LW n hn l Bs n₀ cap a zs hl J Jx W (aY hn₀ hW.size) hJ hY (by rw[hW.cell (p:=⟨Bs,0,none⟩) (aC hBs)];exact hBs) (hc.keep (hW.mono hn₀)) h0
theorem Hz(w:World)(x y z:Value)(t:TypeId):∀j u,[x,y,z][j]?=some u->(w.alloc (.cells #[x,y,z] t)).cell? ((⟨w.heap.size,0,none⟩:Addr).add j)=some u:=fun j u hj=>by
 have h:=(Ak.new w #[x,y,z] t).cell j;rw[am,hj]at h;have e:(⟨w.heap.size,0,none⟩:Addr).add j=⟨w.heap.size,j,none⟩:=by simp[Addr.add];omega
 rw[e];exact h
def EJ(zs:List LV):List Value:=zs.flatMap LV.enc
theorem N7(zs:List LV)(x:LV):EJ (zs++[x])=EJ zs++[.int .i64 x.h,.slice x.xa x.xn x.xc,.slice x.ya x.yn x.yc]:=by simp[EJ,LV.enc]
theorem Hs(Bs cap:Nat)(a:Option Addr)(zs:List LV)(w:World)(hl:zs.length<=1048576)(hBs:w.cell? ⟨Bs,0,none⟩=some (.slice a zs.length cap))(hc:Hn w w.heap.size a zs):
 Calls Tryz.prog 153 #[.slice none 0 0,.func (.func 133) #[] #[.pointer (some ⟨Bs,0,none⟩)]] w fun e w'=>∃V,e=.returned V/\w'.ownsRow w.heap.size 68 3 V zs.length (EJ zs)/\Below w.heap.size w w':=by
 refine(callsIn_wide (n:=5)).1 ?_;obtain⟨i0,hi,hz0,hz1,hz2⟩:=bQ Kk;refine callsIn_of_wp_marks Tryz.func153 rfl trivial ?_ rfl;simp only[Tryz.ntmps153,List.size_toArray,dJ,dz,Nat.reduceAdd,Nat.reduceSub,Array.replicate_succ,Array.replicate_zero,List.push_toArray,List.append_toArray,dY,cA];gi_wp2
 have bO:=Boxed.new w 50 (.slice none 0 0);have hB0:Below w.heap.size w (w.alloc (.cells #[.slice none 0 0] 50)):=Aa _ _
 refine wpIn_rangeFunc_ownH rfl (by omega) (gf:=133) (lb:=#[.pointer (some ⟨Bs,0,none⟩)]) rfl trivial (enters_of Tryz.func133 (by kernel_rfl) rfl)
  (Jv 4 (by omega) Bs w.heap.size cap a zs hl _ (by simp) (Ad hB0 hBs) (hc.keep hB0)) belowK_t (belowK_b (by simp)) (aX _ _) (fun _=>rfl)
  (fun pre W=>(∃v,Boxed W w.heap.size 50 v/\W.ownsRow w.heap.size 68 3 v pre.length (EJ pre)/\True)/\Below w.heap.size w W)
  (fun _ _ _=>False)
  (OwnFrom.and (Own.from (holdsRow_own w.heap.size w.heap.size 50 68 3 (fun pre:List LV=>pre.length) (fun pre=>EJ pre) (fun pre v=>True)) _) (ownFrom_below lR (by simp)))
  (fun _ _ _ _ _ hs _ _=>hs)
  ⟨⟨_,bO,bL _ _ _ _,trivial⟩,hB0⟩
  (fun x a' W=>∃Bx,w.heap.size<Bx/\Ak W Bx x.arr 68/\a'={tmps:=#[.slice none 0 0,.func (.func 133) #[] #[.pointer (some ⟨Bs,0,none⟩)],.pointer (some ⟨w.heap.size,0,none⟩),undef,.slice none 0 0,.pointer (some ⟨Bx,0,none⟩),.func (.func 133) #[] #[.pointer (some ⟨Bs,0,none⟩)],.agg x.arr,undef,undef,undef,undef,undef],defers:=[]})
  (fun x a' _ X Y row hs hg hr=>by
   obtain⟨Bx,h1,h2,h3⟩:=hs;refine⟨Bx,h1,?_,h3⟩;have:=h2.lt;unfold Ak at h2⊢;rw[hg.block Bx this (fun e=>by obtain⟨_,o,ho,hc⟩:=hr Bx e.symm;rw[h2]at ho;cases ho;cases hc)];exact h2)
  ?assign ?body ?done ?stop
 case assign=>
  rintro l pre x W K ⟨⟨v,hv,hrow,_⟩,hB1⟩ hK;simp only[LV.arr]at hK⊢;gi_wp2
  exact hK _ _ ((KeepsOthers.alloc _ _).from _) ((aX _ W).alloc hB1.size _) ⟨⟨v,hv.alloc _,hrow.alloc _,trivial⟩,hB1.alloc hB1.size _⟩ ⟨W.heap.size,hv.lt,Ak.new W _ _,rfl⟩
 case body=>
  rintro l pre x a' W hl ⟨r,hr⟩ ⟨⟨v,hv,hrow,_⟩,hB1⟩ ⟨Bx,hBx,bX,rfl⟩ hlt;have hcv:=hv.cell;simp only[LV.arr]at bX;obtain⟨x0,x1,x2⟩:=BI bX;simp only[LV.arr];gi_wp2_with (gi_at_builtin;refine wpListIn_append_own _ rfl _ _ 50 rfl w.heap.size 68 i0 (.agg #[.int .i64 0,.slice none 0 0,.slice none 0 0]) 3 56 Tryz.underlying50 hi hz0 hz1 hz2 rfl (by decide) _ _ _ rfl (hrow.alloc _) ⟨W.heap.size,0,none⟩ 1 1 [.int .i64 x.h,.slice x.xa x.xn x.xc,.slice x.ya x.yn x.yc] rfl rfl (Hz _ _ _ _ _) (by simp[Value.oneCell']) (by unfold maxLen;omega) (by omega) (by have:=hB1.size;simp;omega) ?_;intro v' w1 hown' hgrow _;obtain⟨g',cap',rfl⟩:=ownsRow_succ hown';obtain⟨hv1,hv2,hr2,hk2,hb2⟩:=hv.appended (by decide) hrow hB1.size lR hown' hgrow;have hc1:=hv1.cell;have hf1:=hv1.frozen);exact⟨hk2.from _,hb2,⟨⟨_,hv2,by rw[N7];simpa using hr2,trivial⟩,hB1.trans hb2⟩⟩
 case done=>
  rintro D ys W hD rfl ⟨⟨v,hv,hrow,_⟩,hB⟩ hK;have hcv:=hv.cell;gi_wp2
  refine⟨by simp,.inl ⟨_,_,rfl,run_takeDeferred hK,?_⟩⟩;exact⟨_,results_tmp rfl _ _ _,v,rfl,ownsRow_putObj hrow _ hK rfl,hB.trans (belowK_b (w:=w) lR W D _ _ (by simp at hD;omega) hK rfl rfl)⟩
 case stop=>
  rintro D c pre W _ _ h _;exact h.elim
end
section
open Go.Shelf
def I8(ts:List LV):Prop:=ts.Pairwise fun a b=>ltOf LV.cmp b a=false
theorem LV.enc_length(x:LV):x.enc.length=3:=rfl
theorem Gu.of_own{w:World}{B g c:Nat}{zs:List LV}(h:w.ownsRow B 68 3 (.slice (some ⟨g,0,none⟩) zs.length c) zs.length (EJ zs)):Gu w g 0 zs:=fun j x hx=>by
 have hc:∀i u,(EJ zs)[i]?=some u->w.cell? ⟨g,0+i,none⟩=some u:=fun i u hi=>by
  rw[bt,cD h i (by have h1:=(aD.1 hi).1;have h2:=h.1;omega)];exact hi
 exact⟨by have:=Rd.elem LV.enc_length hc j x hx 0 _ rfl;rwa [aS]at this,Rd.elem LV.enc_length hc j x hx 1 _ rfl,Rd.elem LV.enc_length hc j x hx 2 _ rfl⟩
theorem RG(j:Nat):j % 3=0\/j % 3=1\/j % 3=2:=by omega
theorem QO{w:World}{B g c:Nat}{zs:List LV}(h:w.ownsRow B 68 3 (.slice (some ⟨g,0,none⟩) zs.length c) zs.length (EJ zs)):Go.Sort.HoldsK LV.enc 3 w g 0 zs.toArray:=fun j hj=>by
 rw[Go.Sort.size_flatK]at hj;have hj':j<zs.length*3:=by simpa using hj
 have hi:j / 3<zs.length:=by omega
 obtain⟨_,cur,e⟩:=Am h;refine⟨?_,frozen_of_row w g (0+j) cur _ e⟩;rw[Go.Sort.get_flatK _ _ _ _ hj];have hx:zs[j / 3]?=some zs[j / 3]:=aA hi;have hd:(zs.toArray[j / 3]!)=zs[j / 3]:=by rw[getElem!_pos _ _ (by simpa using hi)];simp
 obtain⟨c0,c1,c2⟩:=Gu.of_own h _ _ hx;rw[hd];rcases RG j with e|e|e
 . rw[e,show 0+j=0+j / 3*3 by omega,c0];rfl
 . rw[e,show 0+j=0+j / 3*3+1 by omega,c1];rfl
 . rw[e,show 0+j=0+j / 3*3+2 by omega,c2];rfl
theorem M5{w:World}{g:Nat}{d:Array LV}(h:Go.Sort.HoldsK LV.enc 3 w g 0 d):Gu w g 0 d.toList:=fun j x hx=>by
 have hj:j<d.size:=by have:=(aD.1 hx).1;simpa using this
 have hd:(d[j]!)=x:=by
  rw[getElem!_pos d j hj];have:=(aD.1 hx).2;simpa using this
 have h0:=(h.cell (i:=j) (c:=0) hj (by omega)).1;have h1:=(h.cell (i:=j) (c:=1) hj (by omega)).1;have h2:=(h.cell (i:=j) (c:=2) hj (by omega)).1;rw[hd]at h0 h1 h2;exact⟨by rw[aS]at h0;exact h0,h1,h2⟩
theorem Lb{w:World}{g n:Nat}{os:Array Obj}(d:Array LV):w.grownBy (sortWorldK LV.enc 3 w g 0 n d os) (some g):=by
 refine⟨rfl,rfl,rfl,size_sortWorldK_c _ _ _ _ _ _ _ _,fun k hk hne=> ?_⟩;unfold sortWorldK Go.Sort.putRowK;rw[Go.Sort.heap_grow_old _ _ (by simpa[Go.Sort.putRow,Go.Sort.mapBlock,Go.Sort.ahead]using hk)];have:g≠k:=fun e=>hne (by rw[e])
 simp[Go.Sort.putRow,Go.Sort.mapBlock,Go.Sort.ahead,Array.getElem?_modify,this]
theorem Ot(B g cap:Nat)(ss:List LV)(w:World)(hl:ss.length<=1048576)(h:w.ownsRow B 68 3 (.slice (some ⟨g,0,none⟩) ss.length cap) ss.length (EJ ss)):
 Calls Tryz.prog 132 #[.slice (some ⟨g,0,none⟩) ss.length cap,.func (.func 93) #[] #[]] w fun e w'=>e=.returned (.tuple #[])/\(∃ts,ts.Perm ss/\I8 ts/\Gu w' g 0 ts)/\w.grownBy w' (some g):=by
 have hH:=QO h;have hg:=(Am h).2;have hgl:g<w.heap.size:=by obtain⟨cur,e⟩:=hg;exact(aQ.1 e).1
 have hcon:=AnyQ.slices_SortFunc Tryz.lSortF 3 Tryz.isAgg68 Tryz.sizeOf68 LV.enc (fun _=>rfl) (fun x v hv=>by simp[LV.enc]at hv;rcases hv with rfl|rfl|rfl<;>rfl) LV.cmp LV.swo 93 #[] g 0 cap ss.toArray w (enters_of Tryz.func93 (by kernel_rfl) rfl) (fun m os dk _ x y=>LI x y _) hH hgl (by simp;omega);change Calls Tryz.prog 132 #[.slice (some ⟨g,0,none⟩) ss.toArray.size cap,_] _ _ at hcon;rw[List.size_toArray]at hcon;refine hcon.mono ?_;rintro e w' ⟨rfl,d',n,os,⟨hp1,_,hp2⟩,hs,rfl⟩;have hsz:d'.size=ss.length:=by simpa using hp1
 refine⟨rfl,⟨d'.toList,?_,?_,M5 (holdsK_sortWorldK_c _ _ _ _ _ _ _ _ _ hH hgl hp1)⟩,Lb d'⟩
 . have e1:d'.extract 0 ss.length=d':=by rw[<-hsz];simp
   have e2:ss.toArray.extract 0 ss.length=ss.toArray:=by simp
   rw[e1,e2]at hp2;simpa using hp2
 . unfold I8
   rw[dL];intro i j hi hj hij;have:=hs i j (dq _) hij (by simpa[hsz]using hj);rw[getElem!_pos _ _ (by simpa using hj),getElem!_pos _ _ (by simpa using hi)]at this;simpa using this
theorem J7(Bs cap:Nat)(a:Option Addr)(zs:List LV)(w:World)(hl:zs.length<=1048576)(hBs:w.cell? ⟨Bs,0,none⟩=some (.slice a zs.length cap))(hc:Hn w w.heap.size a zs):
 Calls Tryz.prog 131 #[.func (.func 133) #[] #[.pointer (some ⟨Bs,0,none⟩)]] w fun e w'=>∃V,e=.returned V/\w'.ownsRow w.heap.size 68 3 V zs.length (EJ zs)/\Below w.heap.size w w':=by
 have H:=AS (Hs Bs cap a zs w hl hBs hc);clear hBs hc;go_enter Tryz.func131,Tryz.ntmps131;go_wp2_with fail
 refine H.o.mono ?_;rintro e u ⟨V,rfl,h1,h2⟩;have HE:=AS (aq h1 h2);clear h1 h2;go_wp2
 go_ret
 exact⟨V,rfl,HE.o.1,HE.o.2⟩
def SdL(w w':World)(V:Value)(zs ts:List LV):Prop:=ts.Perm zs/\I8 ts/\(∃a c,V=.slice a ts.length c/\(ts≠[]->∃g,a=some ⟨g,0,none⟩/\w.heap.size<=g/\Gu w' g 0 ts))/\Below w.heap.size w w'
theorem He(Bs cap:Nat)(a:Option Addr)(zs:List LV)(w:World)(hl:zs.length<=1048576)(hBs:w.cell? ⟨Bs,0,none⟩=some (.slice a zs.length cap))(hc:Hn w w.heap.size a zs):
 Calls Tryz.prog 98 #[.func (.func 133) #[] #[.pointer (some ⟨Bs,0,none⟩)],.func (.func 93) #[] #[]] w fun e w'=>∃V ts,e=.returned V/\SdL w w' V zs ts:=by
 have H:=AS (J7 Bs cap a zs w hl hBs hc);clear hBs hc;go_enter Tryz.func98,Tryz.ntmps98;go_wp2_with fail
 refine H.o.mono ?_;rintro e u ⟨V,rfl,h1,h2⟩;have HB:=AS h2;rcases Bv h1 with⟨rfl,hz⟩|⟨g,c,rfl⟩
 . have hz':zs=[]:=dW hz
   have hcon:=AnyF.slices_SortFunc_none Tryz.lSortF none 0 (.func (.func 93) #[] #[]) u;change Calls Tryz.prog 132 _ _ _ at hcon;have HC:=AS hcon;clear hcon h1 h2 hz H;go_wp2_with fail
   refine HC.o.mono ?_;rintro e u2 ⟨rfl,rfl⟩;go_wp2
   go_ret
   exact⟨_,[],rfl,by rw[hz'],List.Pairwise.nil,⟨none,0,rfl,fun h=>absurd rfl h⟩,HB.o⟩
 . have hB:=(Am h1).1
   have HC:=AS (Ot w.heap.size g c zs u hl h1);clear h1 h2 H;go_wp2_with fail
   refine HC.o.mono ?_;rintro e u2 ⟨rfl,⟨ts,t1,t2,t3⟩,t4⟩;have HE:Hid (SdL w u2 (.slice (some ⟨g,0,none⟩) zs.length c) zs ts):=⟨t1,t2,⟨_,c,by rw[t1.length_eq],fun _=>⟨g,rfl,hB,t3⟩⟩,HB.o.grown t4 HB.o.size (fun j hj=>by cases hj;exact hB)⟩;clear t1 t2 t3 t4;go_wp2;go_ret;exact⟨_,ts,rfl,HE.o⟩
end
section
open Go.Shelf
attribute [local go_sem] Oper.semAt_some
structure Gs(gC gS:Nat)(W W':World):Prop where
 size:W.heap.size<=W'.heap.size
 same:∀k o,W.heap[k]?=some o->o.isCells=true->k≠gC->k≠gS->W'.heap[k]?=some o
section
variable {gC gS:Nat} {X Y Z:World}
theorem Gs.trans(h:Gs gC gS X Y)(h':Gs gC gS Y Z):Gs gC gS X Z:=⟨aY h.size h'.size,fun k o h1 h2 h3 h4=>h'.same k o (h.same k o h1 h2 h3 h4) h2 h3 h4⟩
theorem Gs.refl(gC gS:Nat)(W:World):Gs gC gS W W:=⟨Nat.le_refl _,fun _ _ h _ _ _=>h⟩
theorem Gs.of(h:Below X.heap.size X Y):Gs gC gS X Y:=⟨h.size,fun k o h1 _ _ _=>(h.block k (aQ.1 h1).1).trans h1⟩
theorem Gs.put{w:World}(W:World)(l:Nat)(o o':Obj)(_:w.heap.size<=l)(h:W.heap[l]?=some o)(hc:o.isCells=false)(_:o.isWalk=false):Gs gC gS W (W.putObj l o'):=
 ⟨(grownBy_putObj' W l o').size,fun k q h1 h2 _ _=>((grownBy_putObj' W l o').block k (aQ.1 h1).1 (fun e=>by cases e;rw[h]at h1;cases h1;rw[hc]at h2;cases h2)).trans h1⟩
theorem Gs.cell(h:Gs gC gS X Y){g o:Nat}{v:Value}(hc:X.cell? ⟨g,o,none⟩=some v)(h1:g≠gC)(h2:g≠gS):Y.cell? ⟨g,o,none⟩=some v:=by
 obtain⟨q,ho,hq⟩:=cells_of_cell hc;refine(World.cell?_of_block ?_).trans hc;rw[h.same g q ho hq h1 h2,ho]
theorem Gs.row(h:Gs gC gS X Y){g o:Nat}{zs:List LV}(hc:Gu X g o zs)(h1:g≠gC)(h2:g≠gS):Gu Y g o zs:=fun j x hx=>by
 obtain⟨a,b,c⟩:=hc j x hx;exact⟨h.cell a h1 h2,h.cell b h1 h2,h.cell c h1 h2⟩
end
theorem Jl(a:Option Addr)(n c:Nat)(w:World):Calls Tryz.prog 59 #[.slice a n c] w fun e w'=>e=.returned (.func (.func 97) #[] #[.pointer (some ⟨w.heap.size,0,none⟩),.pointer (some ⟨w.heap.size+1,0,none⟩)])/\(Ak w' w.heap.size #[.slice a n c] 50/\Ak w' (w.heap.size+1) #[.func (.func 93) #[] #[]] 167/\Below w.heap.size w w'):=by
 have hsf:=EY Tryz.prog;have E0:=Bw w #[.slice a n c] #[.func (.func 93) #[] #[]] 50 167;go_enter Tryz.func59,Tryz.ntmps59;go_wp2
 go_ret
 exact⟨rfl,E0⟩
theorem Jk(n:Nat)(hn:1<=n)(l B1 B2 cap gC gS:Nat)(a:Option Addr)(zs:List LV)(hl:zs.length<=1048576)(J Jx:List LV->World->Prop)(W:World)(hgC:gC<W.heap.size)(hgS:gS<W.heap.size)(hJ:AbidesFrom W.heap.size J)
 (hY:∀pre x W,x∈zs->J pre W->pre.length<zs.length->YieldAt Fence.wide (n-1) Tryz.prog l #[.agg x.arr] W fun e W'=>(e=.returned (.bool true)/\J (pre++[x]) W'/\Gs gC gS W W')\/(e=.returned (.bool false)/\Jx (pre++[x]) W'))
 (hB1:W.cell? ⟨B1,0,none⟩=some (.slice a zs.length cap)) (hB2:W.cell? ⟨B2,0,none⟩=some (.func (.func 93) #[] #[])) (hc:Hn W W.heap.size a zs) (h0:J [] W):
 CallsIn Fence.wide n Tryz.prog 97 #[.func (.yield l) #[] #[],.pointer (some ⟨B1,0,none⟩),.pointer (some ⟨B2,0,none⟩)] W fun e W'=>(∃v,e=.returned v)/\((∃ys,(ys.Perm zs/\I8 ys)/\J ys W')\/(∃pre,(∃ts,ts.Perm zs/\I8 ts/\pre<+:ts)/\Jx pre W')):=by
 refine callsIn_of_wp Tryz.func97 rfl trivial ?_ rfl;simp only[Tryz.ntmps97,List.size_toArray,dJ,dz,Nat.reduceAdd,Nat.reduceSub,Array.replicate_succ,Array.replicate_zero,List.push_toArray,List.append_toArray,dY,cA];refine wpIn_wide.2 ?_;have H:=AS (aq hB1 (aq hB2 (aq hc (aq h0 (aq hJ hY)))));clear hB1 hB2 hc h0 hJ hY;have KS:∀w',Below W.heap.size W w'->w'.cell? ⟨B1,0,none⟩=some (.slice a zs.length cap)/\w'.cell? ⟨B2,0,none⟩=some (.func (.func 93) #[] #[]):=fun w' hb=>⟨Ad hb H.o.1,Ad hb H.o.2.1⟩
 go_upto_region 0 with fail
 refine wp_region_held_drew (S:=fun w'=>w'.cell? ⟨B1,0,none⟩=some (.slice a zs.length cap)/\w'.cell? ⟨B2,0,none⟩=some (.func (.func 93) #[] #[])) (by kernel_rfl) (KS _ (Ae _)) (fun hHeld=> ?_)
 have HB:=AS (Ae W);generalize W.drew=U2 at HB hHeld⊢;refine AG 0 ?_;refine AG 2 ?_;refine AG 5 ?_;refine Gq 1 ?_;intro KC hKC;rw[a8 (by kernel_rfl)];go_simp;refine(LY a zs.length cap U2).mono ?_;rintro e u3 ⟨rfl,rfl⟩;have HB3:Hid (Below W.heap.size W (U2.alloc (.cells #[.slice a zs.length cap] 50))):=Ab HB.o lR (Aa _ _);have b3:=(Ak.new U2 #[.slice a zs.length cap] 50).cell 0;simp only[am,aM]at b3;go_simp;refine hKC.o _ _ (KS _ HB3.o) (fun hHeld=> ?_);clear hKC KC;refine Gq 3 ?_;intro KC hKC;rw[a8 (by kernel_rfl)];go_simp
 refine(He U2.heap.size cap a zs _ hl b3 (fun hz=>by
  obtain⟨b,off,h1,h2,h3⟩:=(H.o.2.2.1.keep HB3.o) hz;exact⟨b,off,h1,by have:=HB3.o.size;omega,h3⟩)).mono ?_
 rintro e u4 ⟨V,ts,rfl,t1,t2,⟨sa,sc,rfl,t3⟩,t4⟩;have HB4:Hid (Below W.heap.size W u4):=Ab HB3.o lR t4
 have HT:Hid (ts.Perm zs/\I8 ts/\(ts≠[]->∃g,sa=some ⟨g,0,none⟩/\W.heap.size<=g/\Gu u4 g 0 ts)):=⟨t1,t2,fun hz=>by
  obtain⟨g,h1,h2,h3⟩:=t3 hz;exact⟨g,h1,by have:=HB3.o.size;omega,h3⟩⟩
 have hle:ts.length<=1048576:=by rw[t1.length_eq];exact hl
 clear t1 t2 t3 t4 b3;go_simp;refine hKC.o _ _ (KS _ HB4.o) (fun hHeld=> ?_);clear hKC KC;refine AG 4 ?_ (hw:=by kernel_rfl);go_simp;refine wpAnyH_done (by kernel_rfl) ?_ _;clear hHeld KS HB HB3;have hJ4:J [] u4:=H.o.2.2.2.2.1 [] W u4 none H.o.2.2.2.1 (EM HB4.o) (fun r e=>by cases e);go_wp2_with fail
 refine(wpIn_wide (n:=n)).1 ?_;gi_loopw [11] (fun i wr=>∃k:Nat,k<=ts.length/\i=.int .i64 k/\J (ts.take k) wr/\Gs gC gS u4 wr) (fun i _=>ts.length-(intOf i).toNat)
 case atStart=>exact⟨0,dq _,rfl,by simpa using hJ4,Gs.refl _ _ _⟩
 case round=>
  clear hJ4;obtain⟨k,hk,rfl,hJs,hnx⟩:=hrel;by_cases hlt:k<ts.length
  . obtain⟨x,hx⟩:∃x,ts[k]?=some x:=⟨_,aA hlt⟩
    obtain⟨g,ea,hg,hrw⟩:=HT.o.2.2 (fun e=>by rw[e]at hlt;exact absurd hlt (by simp));obtain⟨c0,c1,c2⟩:=hnx.row hrw (by omega) (by omega) k x hx;rw[bt]at c0 c1 c2;subst ea;have hJ2:J (ts.take k) (wr.alloc (.cells x.arr 68)):=H.o.2.2.2.2.1 _ _ _ none hJs (World.grownBy_alloc wr _ none) (fun r e=>by cases e);obtain⟨fn,tmps,assign,body,hy,hR⟩:=H.o.2.2.2.2.2 _ x _ (HT.o.1.mem_iff.1 (aE hx)) hJ2 (by rw[bp,<-HT.o.1.length_eq];omega);have hT:ts.take (k+1)=ts.take k++[x]:=by rw[List.take_add_one,hx];rfl
    have hB2:Gs gC gS u4 (wr.alloc (.cells x.arr 68)):=hnx.trans (Gs.of (Aa _ _));simp only[LV.arr]at hy hR hB2;clear hJ2 hx hrw;gi_wp2
    refine hR.mono ?_;rintro e W3 (⟨rfl,hJ3,hk3⟩|⟨rfl,hJx3⟩)
    . gi_wp2
      go_roundw
      case rel=>exact⟨k+1,by omega,by simp,by rw[hT];exact hJ3,hB2.trans hk3⟩
      case measure=>simp[intOf];omega
    . gi_wp2
      refine bC (results_none rfl _ _ _) rfl ?_;exact⟨⟨_,rfl⟩,.inr ⟨_,⟨ts,HT.o.1,HT.o.2.1,by rw[<-hT];exact List.take_prefix _ _⟩,hJx3⟩⟩
  . obtain rfl:k=ts.length:=by omega
    rw[List.take_length]at hJs;gi_wp2
    go_end0
    exact⟨⟨_,rfl⟩,.inl ⟨_,⟨HT.o.1,HT.o.2.1⟩,hJs⟩⟩
theorem Hb(n:Nat)(hn:1<=n)(B1 B2 cap gC gS:Nat)(a:Option Addr)(zs:List LV)(hl:zs.length<=1048576)(w:World)(hgC:gC<w.heap.size)(hgS:gS<w.heap.size)(hB1:w.cell? ⟨B1,0,none⟩=some (.slice a zs.length cap))(hB2:w.cell? ⟨B2,0,none⟩=some (.func (.func 93) #[] #[]))(hc:Hn w w.heap.size a zs):
 SeqStopsK Fence.wide n Tryz.prog 97 #[.pointer (some ⟨B1,0,none⟩),.pointer (some ⟨B2,0,none⟩)] (fun x:{x:LV//x∈zs}=>#[.agg x.1.arr]) (Gs gC gS) (fun ys=>(ys.map Subtype.val).Perm zs/\I8 (ys.map Subtype.val)) (fun pre=>∃ts,ts.Perm zs/\I8 ts/\pre.map Subtype.val<+:ts) zs.length w:=fun l J Jx W hW hJ _ hY h0=>by
 refine(Jk n hn l B1 B2 cap gC gS a zs hl (fun pre W=>∃q:List {x:LV//x∈zs},q.map Subtype.val=pre/\J q W) (fun pre W=>∃q:List {x:LV//x∈zs},q.map Subtype.val=pre/\Jx q W) W (by have:=hW.size;omega) (by have:=hW.size;omega) (fun pre A B row h h3 h4=>h.elim fun q h=>⟨q,h.1,hJ q A B row h.2 h3 h4⟩) ?_ (Ad hW hB1) (Ad hW hB2) (fun hz=>by
  obtain⟨b,off,h1,h2,h3⟩:=(hc.keep hW) hz;exact⟨b,off,h1,by have:=hW.size;omega,h3⟩) ⟨[],rfl,h0⟩).mono ?_
 . rintro pre x W hx ⟨q,rfl,h2⟩ h3
   obtain⟨fn,tmps,assign,body,hy,hR⟩:=hY q ⟨x,hx⟩ W h2 (by simpa using h3);refine⟨fn,tmps,assign,body,hy,hR.mono ?_⟩;rintro e W' (⟨rfl,h4,h5⟩|⟨rfl,h4⟩)
   . exact .inl ⟨rfl,⟨q++[⟨x,hx⟩],by simp,h4⟩,h5⟩
   . exact .inr ⟨rfl,q++[⟨x,hx⟩],by simp,h4⟩
 . rintro e W' ⟨h1,⟨ys,h2,q,rfl,h3⟩|⟨pre,h2,q,rfl,h3⟩⟩
   . exact⟨h1,.inl ⟨q,h2,h3⟩⟩
   . exact⟨h1,.inr ⟨q,h2,h3⟩⟩
end
end Go.Proofs.YtdipfjmlfbdkdaaGreat
