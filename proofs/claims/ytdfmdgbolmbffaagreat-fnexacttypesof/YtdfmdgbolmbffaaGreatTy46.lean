import Derived.Test.YtdfmdgbolmbffaaGreatTy22
import Derived.Test.YtdfmdgbolmbffaaGreatTy45
import Derived.Test.YtdfmdgbolmbffaaGreatTy34
import Derived.Test.YtdfmdgbolmbffaaGreatTy9
import Derived.Deep.RegionWith
import Derived.Test.YtdfmdgbolmbffaaGreatTy41
import Derived.Test.YtdfmdgbolmbffaaGreatTy42
import Derived.Test.YtdfmdgbolmbffaaGreatTy21
import Derived.Test.YtdfmdgbolmbffaaGreatTy27
namespace Go.Proofs.YtdfmdgbolmbffaaGreat
open Go.ChangeShapes Go.WideShapes Go.ChangeAt Go.RowKit
set_option linter.unusedVariables false
end Go.Proofs.YtdfmdgbolmbffaaGreat
namespace Go.Proofs.YtdfmdgbolmbffaaGreat
open Go.ChangeShapes Go.WideShapes Go.ChangeAt Go.RowKit
set_option linter.unusedVariables false
end Go.Proofs.YtdfmdgbolmbffaaGreat
namespace Go.Proofs.YtdfmdgbolmbffaaGreat
open Go.ChangeShapes Go.WideShapes Go.ChangeAt Go.RowKit
set_option linter.unusedVariables false
structure ScIn(w:World)(v:VP)(p:MP)(g:VF)(f:MF):Prop where
  ps:p.small
  pf:FaultIs p 0
  fs:f.small
  rp:RdP w v p
  rf:RdF w g f
  c1:1<=f.code.length
  cl:f.code.length<=1024
  pl:PlacesOk f.code
  ok:∀x∈f.code,InstrOk p f x
  last:∀(k:Nat) x,f.code[k]?=some x->onB x=true->k+1<f.code.length
end Go.Proofs.YtdfmdgbolmbffaaGreat
namespace Go.Proofs.YtdfmdgbolmbffaaGreat
open Go.ChangeShapes Go.WideShapes Go.ChangeAt Go.RowKit
set_option linter.unusedVariables false
theorem cel6{w:World}{b:Nat}{t:TypeId}{a0 a1 a2 a3 a4 a5:Value}(h:Blk w b #[a0,a1,a2,a3,a4,a5] t):w.cell? ⟨b,0,none⟩=some a0/\w.cell? ⟨b,1,none⟩=some a1/\w.cell? ⟨b,2,none⟩=some a2/\w.cell? ⟨b,3,none⟩=some a3/\w.cell? ⟨b,4,none⟩=some a4/\w.cell? ⟨b,5,none⟩=some a5:=⟨h.cell 0,h.cell 1,h.cell 2,h.cell 3,h.cell 4,h.cell 5⟩
theorem frz6{w:World}{b:Nat}{t:TypeId}{cur:Array Value}(h:Blk w b cur t):w.frozen? ⟨b,0,none⟩=false/\w.frozen? ⟨b,1,none⟩=false/\w.frozen? ⟨b,2,none⟩=false/\w.frozen? ⟨b,3,none⟩=false/\w.frozen? ⟨b,4,none⟩=false/\w.frozen? ⟨b,5,none⟩=false:=⟨h.frozen 0,h.frozen 1,h.frozen 2,h.frozen 3,h.frozen 4,h.frozen 5⟩
theorem isOneOf_says(n c:Int)(w:World):Calls Tryz.prog 77 #[.int .i64 n,.int .i64 c] w fun e w'=>SaysIff e (0<=n/\n<c)/\w'=w:=(isOneOf_any n c w).mono fun e w' h=>⟨⟨_,h.1,by simp⟩,h.2⟩
def FlowP(p:MP)(fi:Int):Prop:=FaultIs p 0/\0<=fi/\∃f,p.funcs[fi.toNat]?=some f/\FlowFree f.code
theorem OwFl.keepF{w w':World}{base:Nat}{vb vo vi vl:Value}{F:List (MB×Value)}{ys:List (ML×Value×Value)}{r:MFl}(h:OwFl w base vb vo vi vl F ys r)(hb:Below w.heap.size w w'):OwFl w' base vb vo vi vl F ys r:=⟨own_keep h.brow hb (Nat.le_refl _),own_keep h.lrow hb (Nat.le_refl _),h.fam.keep hb,h.eb,h.el⟩
theorem OwFl.sl{w:World}{base:Nat}{vb vo vi vl:Value}{F:List (MB×Value)}{ys:List (ML×Value×Value)}{r:MFl}(h:OwFl w base vb vo vi vl F ys r):∃v1 n1 c1 v2 n2 c2 v3 n3 c3 v4 n4 c4,vb=.slice v1 n1 c1/\vo=.slice v2 n2 c2/\vi=.slice v3 n3 c3/\vl=.slice v4 n4 c4:=by
  obtain⟨v1,c1,e1⟩:=own_slice h.brow
  obtain⟨v4,c4,e4⟩:=own_slice h.lrow
  obtain⟨v2,c2,e2⟩:=own_slice (h.fam.own (vo,r.order) (by simp))
  obtain⟨v3,c3,e3⟩:=own_slice (h.fam.own (vi,r.idom) (by simp))
  exact⟨v1,_,c1,v2,_,c2,v3,_,c3,v4,_,c4,e1,e2,e3,e4⟩
theorem bset{B:Nat}{w u:World}(h:Below B w u)(g i:Nat)(hg:B<=g)(x:Value):Below B w (u.setCell ⟨g,i,none⟩ x):=h.setCell hg x
theorem OwFl.set{w:World}{base:Nat}{vb vo vi vl:Value}{F:List (MB×Value)}{ys:List (ML×Value×Value)}{r:MFl}(h:OwFl w base vb vo vi vl F ys r){a:Addr}(ha:a.block<base)(x:Value):OwFl (w.setCell a x) base vb vo vi vl F ys r:=⟨ownsRow_setCell_below h.brow ha x,ownsRow_setCell_below h.lrow ha x,⟨fun r hr=>ownsRow_setCell_below (h.fam.own r hr) ha x,h.fam.sep⟩,h.eb,h.el⟩
theorem OwFl.down{w:World}{base base':Nat}{vb vo vi vl:Value}{F:List (MB×Value)}{ys:List (ML×Value×Value)}{r:MFl}(h:OwFl w base vb vo vi vl F ys r)(hb:base'<=base):OwFl w base' vb vo vi vl F ys r:=⟨own_base h.brow hb,own_base h.lrow hb,⟨fun r hr=>own_base (h.fam.own r hr) hb,h.fam.sep⟩,h.eb,h.el⟩
def FlRes(w:World)(p:MP)(fi:Int)(e:Ending)(w':World):Prop:=∃(c a:Int) (v1:Option Addr) (n1 c1:Nat) (v2:Option Addr) (n2 c2:Nat) (v3:Option Addr) (n3 c3:Nat) (v4:Option Addr) (n4 c4:Nat) (bb:Bool),e=.returned (.tuple #[.agg #[.int .i64 c,.int .i64 a,.slice v1 n1 c1,.slice v2 n2 c2,.slice v3 n3 c3,.slice v4 n4 c4],.bool bb])/\(bb=true↔FlowP p fi)/\(bb=true->∃f r F ys,p.funcs[fi.toNat]?=some f/\FlowOk f.code r/\r.code=0/\c=0/\OwFl w' w.heap.size (.slice v1 n1 c1) (.slice v2 n2 c2) (.slice v3 n3 c3) (.slice v4 n4 c4) F ys r)/\Below w.heap.size w w'
set_option maxHeartbeats 8000000 in
set_option maxRecDepth 100000 in
theorem flowOfFunc_any(v:VP)(p:MP)(fi:Int)(w:World)(hs:p.small)(hw:p.wf)(h:RdP w v p)(hcap:RdRc w v.r p.regions)(hfp:RdFp w v.f p.funcs):Calls Tryz.prog 36 #[.agg #[v.r,v.k,v.f,v.t],.int .i64 fi] w (FlRes w p fi):=by
  have H:Hid (p.small/\p.wf/\RdP w v p/\RdRc w v.r p.regions/\RdFp w v.f p.funcs):=⟨hs,hw,h,hcap,hfp⟩
  obtain⟨r1,r3,k1,k3,t1,t3,f1,f3,rfl⟩:=h.sl
  clear hs hw h hcap hfp
  have HFL:Hid (p.funcs.length<=1048576):=H.out.1.funcs
  generalize hnf:p.funcs.length=nf at H HFL⊢
  have HNF:Hid (p.funcs.length=nf):=hnf
  clear hnf
  generalize p.regions.length=nr at H⊢
  generalize p.consts.length=nk at H⊢
  generalize p.certs.length=nt at H⊢
  simp only[]at H
  have E0:Hid (Blk ((w.alloc (.cells #[.slice r1 nr r3,.slice k1 nk k3,.slice f1 nf f3,.slice t1 nt t3] 36)).alloc (.cells #[.int .i64 0,.int .i64 0,.slice none 0 0,.slice none 0 0,.slice none 0 0,.slice none 0 0] 67)) w.heap.size #[.slice r1 nr r3,.slice k1 nk k3,.slice f1 nf f3,.slice t1 nt t3] 36/\Blk ((w.alloc (.cells #[.slice r1 nr r3,.slice k1 nk k3,.slice f1 nf f3,.slice t1 nt t3] 36)).alloc (.cells #[.int .i64 0,.int .i64 0,.slice none 0 0,.slice none 0 0,.slice none 0 0,.slice none 0 0] 67)) (w.heap.size+1) #[.int .i64 0,.int .i64 0,.slice none 0 0,.slice none 0 0,.slice none 0 0,.slice none 0 0] 67/\Below w.heap.size w ((w.alloc (.cells #[.slice r1 nr r3,.slice k1 nk k3,.slice f1 nf f3,.slice t1 nt t3] 36)).alloc (.cells #[.int .i64 0,.int .i64 0,.slice none 0 0,.slice none 0 0,.slice none 0 0,.slice none 0 0] 67))):=by
    have b1:=below_alloc w (.cells #[.slice r1 nr r3,.slice k1 nk k3,.slice f1 nf f3,.slice t1 nt t3] 36)
    have b2:=below_alloc (w.alloc (.cells #[.slice r1 nr r3,.slice k1 nk k3,.slice f1 nf f3,.slice t1 nt t3] 36)) (.cells #[.int .i64 0,.int .i64 0,.slice none 0 0,.slice none 0 0,.slice none 0 0,.slice none 0 0] 67)
    refine⟨(Blk.new w _ _).keep b2,?_,below_on b1 (Nat.le_refl _) b2⟩
    have k2:=Blk.new (w.alloc (.cells #[.slice r1 nr r3,.slice k1 nk k3,.slice f1 nf f3,.slice t1 nt t3] 36)) #[.int .i64 0,.int .i64 0,.slice none 0 0,.slice none 0 0,.slice none 0 0,.slice none 0 0] 67
    have e1:(w.alloc (.cells #[.slice r1 nr r3,.slice k1 nk k3,.slice f1 nf f3,.slice t1 nt t3] 36)).heap.size=w.heap.size+1:=by simp
    rw[e1]at k2
    exact k2
  go_enter Tryz.func36,Tryz.ntmps36
  go_upto_region 1 with fail
  refine wp_world (fun u=>Hid (Blk u w.heap.size #[.slice r1 nr r3,.slice k1 nk k3,.slice f1 nf f3,.slice t1 nt t3] 36/\Blk u (w.heap.size+1) #[.int .i64 0,.int .i64 0,.slice none 0 0,.slice none 0 0,.slice none 0 0,.slice none 0 0] 67/\Below w.heap.size w u)) E0 ?_
  rintro U E1
  clear E0
  obtain⟨p0,p1,p2,p3⟩:=cel4 E1.out.1
  go_wp2_with fail
  refine(checkProgram_any ⟨.slice r1 nr r3,.slice k1 nk k3,.slice f1 nf f3,.slice t1 nt t3⟩ p U H.out.1 H.out.2.1 (H.out.2.2.1.keep E1.out.2.2 (Nat.le_refl _)) (H.out.2.2.2.1.keep E1.out.2.2 (Nat.le_refl _)) (H.out.2.2.2.2.keep E1.out.2.2 (Nat.le_refl _))).mono ?_
  rintro e u1 ⟨⟨n,rfl,hn⟩,b1⟩
  have E2:Hid (Blk u1 w.heap.size #[.slice r1 nr r3,.slice k1 nk k3,.slice f1 nf f3,.slice t1 nt t3] 36/\Blk u1 (w.heap.size+1) #[.int .i64 0,.int .i64 0,.slice none 0 0,.slice none 0 0,.slice none 0 0,.slice none 0 0] 67/\Below w.heap.size w u1):=⟨E1.out.1.keep b1,E1.out.2.1.keep b1,below_on E1.out.2.2 (Nat.le_refl _) b1⟩
  have HN:Hid (FaultIs p n):=hn
  clear b1 hn E1 p0 p1 p2 p3
  obtain⟨q0,q1,q2,q3,q4,q5⟩:=cel6 E2.out.2.1
  obtain⟨z0,z1,z2,z3,z4,z5⟩:=frz6 E2.out.2.1
  by_cases hn0:n=0
  . subst hn0
    rw[show errOf 0=.nilIface from rfl]
    obtain⟨p0,p1,p2,p3⟩:=cel4 E2.out.1
    go_wp2_with fail
    refine(isOneOf_says fi (nf:Int) u1).mono ?_
    rintro e u2 ⟨⟨b2,rfl,hb2⟩,rfl⟩
    have HB2:Hid (b2=true↔(0<=fi/\fi<(nf:Int))):=hb2
    clear hb2
    cases b2
    . have HNP:Hid (¬FlowP p fi):=fun e=>by
        obtain⟨f,hf,_⟩:=e.2.2
        have h1:=(List.getElem?_eq_some_iff.1 hf).1
        have h2:=HNF.out
        have:=HB2.out.2 ⟨e.2.1,by have:=e.2.1;omega⟩
        cases this
      go_wp2_with fail
      have G:Hid _:=(((((E2.out.2.1.set 0 (.int .i64 0)).set 1 (.int .i64 0)).set 2 (.slice none 0 0)).set 3 (.slice none 0 0)).set 4 (.slice none 0 0)).set 5 (.slice none 0 0)
      simp only[List.setIfInBounds_toArray,List.set_cons_zero,List.set_cons_succ]at G
      clear q0 q1 q2 q3 q4 q5
      obtain⟨q0,q1,q2,q3,q4,q5⟩:=cel6 G.out
      exact bodyPost_ret (v:=.tuple #[.agg #[.int .i64 0,.int .i64 0,.slice none 0 0,.slice none 0 0,.slice none 0 0,.slice none 0 0],.bool false]) (by simp[results,Tryz.results36,go_sem,q0,q1,q2,q3,q4,q5]) rfl ⟨0,0,_,_,_,_,_,_,_,_,_,_,_,_,false,rfl,⟨fun e=>(by cases e),fun e=>absurd e HNP.out⟩,fun e=>(by cases e),(((((E2.out.2.2.setCell (by simp only[];omega) _).setCell (by simp only[];omega) _).setCell (by simp only[];omega) _).setCell (by simp only[];omega) _).setCell (by simp only[];omega) _).setCell (by simp only[];omega) _⟩
    . have hfi:=HB2.out.1 (by first|rfl|trivial)
      obtain⟨q,rfl⟩:=Int.eq_ofNat_of_zero_le hfi.1
      obtain⟨f,hf⟩:∃f,p.funcs[q]?=some f:=⟨_,List.getElem?_eq_getElem (by rw[HNF.out];omega)⟩
      obtain⟨gk,ok,ck,efn,g,hrf,m0,m1,m2,m3⟩:=fn_at (H.out.2.2.1.keep E2.out.2.2 (Nat.le_refl _)).funcs hf
      simp only[Value.slice.injEq,HNF.out,true_and]at efn
      obtain⟨rfl,rfl⟩:=efn
      obtain⟨g1,g3,g4,g6,g7,g9,rfl⟩:=rdF_sl hrf
      have hqL:(q:Int)<(nf:Int):=hfi.2
      have HF:Hid (p.funcs[q]?=some f/\f.small/\RdF u2 ⟨.slice g1 f.params.length g3,.slice g4 f.locals.length g6,.slice g7 f.code.length g9⟩ f):=⟨hf,H.out.1.func f (List.mem_of_getElem? hf),hrf⟩
      clear hf hrf hfi HB2
      simp only[]at m0 m1 m2 m3
      go_wp2_with fail
      refine(implFlow_any (.slice g7 f.code.length g9) f.code u2 HF.out.2.1.2.2 HF.out.2.2.2.2).mono ?_
      rintro e u3 ⟨r,vb,vo,vi,vl,F,ys,rfl,hfl,how,b3⟩
      obtain⟨v1,n1,c1,v2,n2,c2,v3,n3,c3,v4,n4,c4,rfl,rfl,rfl,rfl⟩:=how.sl
      have E3:Hid (FlowOk f.code r/\OwFl u3 u2.heap.size (.slice v1 n1 c1) (.slice v2 n2 c2) (.slice v3 n3 c3) (.slice v4 n4 c4) F ys r/\Blk u3 (w.heap.size+1) #[.int .i64 0,.int .i64 0,.slice none 0 0,.slice none 0 0,.slice none 0 0,.slice none 0 0] 67/\Below w.heap.size w u3/\w.heap.size+1<u2.heap.size):=⟨hfl,how,E2.out.2.1.keep b3,below_on E2.out.2.2 (Nat.le_refl _) b3,E2.out.2.1.lt⟩
      clear hfl how b3 E2 m0 m1 m2 m3 p0 p1 p2 p3 q0 q1 q2 q3 q4 q5 z0 z1 z2 z3 z4 z5
      have E4:Hid (Blk (u3.alloc (.cells #[.int .i64 r.code,.int .i64 r.at_,.slice v1 n1 c1,.slice v2 n2 c2,.slice v3 n3 c3,.slice v4 n4 c4] 67)) u3.heap.size #[.int .i64 r.code,.int .i64 r.at_,.slice v1 n1 c1,.slice v2 n2 c2,.slice v3 n3 c3,.slice v4 n4 c4] 67/\Blk (u3.alloc (.cells #[.int .i64 r.code,.int .i64 r.at_,.slice v1 n1 c1,.slice v2 n2 c2,.slice v3 n3 c3,.slice v4 n4 c4] 67)) (w.heap.size+1) #[.int .i64 0,.int .i64 0,.slice none 0 0,.slice none 0 0,.slice none 0 0,.slice none 0 0] 67/\OwFl (u3.alloc (.cells #[.int .i64 r.code,.int .i64 r.at_,.slice v1 n1 c1,.slice v2 n2 c2,.slice v3 n3 c3,.slice v4 n4 c4] 67)) u2.heap.size (.slice v1 n1 c1) (.slice v2 n2 c2) (.slice v3 n3 c3) (.slice v4 n4 c4) F ys r/\Below w.heap.size w (u3.alloc (.cells #[.int .i64 r.code,.int .i64 r.at_,.slice v1 n1 c1,.slice v2 n2 c2,.slice v3 n3 c3,.slice v4 n4 c4] 67))/\w.heap.size+1<u3.heap.size):=⟨Blk.new _ _ _,E3.out.2.2.1.keep (below_alloc _ _),E3.out.2.1.keepF (below_alloc _ _),below_on E3.out.2.2.2.1 (Nat.le_refl _) (below_alloc _ _),E3.out.2.2.1.lt⟩
      have HFO:Hid (FlowOk f.code r/\w.heap.size+1<u2.heap.size):=⟨E3.out.1,E3.out.2.2.2.2⟩
      go_upto_region 4 with fail
      clear E3
      generalize u3.heap.size=Y at E4⊢
      refine wp_world (fun u=>Hid (Blk u Y #[.int .i64 r.code,.int .i64 r.at_,.slice v1 n1 c1,.slice v2 n2 c2,.slice v3 n3 c3,.slice v4 n4 c4] 67/\Blk u (w.heap.size+1) #[.int .i64 0,.int .i64 0,.slice none 0 0,.slice none 0 0,.slice none 0 0,.slice none 0 0] 67/\OwFl u u2.heap.size (.slice v1 n1 c1) (.slice v2 n2 c2) (.slice v3 n3 c3) (.slice v4 n4 c4) F ys r/\Below w.heap.size w u/\w.heap.size+1<Y)) E4 ?_
      rintro U5 E5
      clear E4
      have E6:Hid (OwFl U5 u2.heap.size (.slice v1 n1 c1) (.slice v2 n2 c2) (.slice v3 n3 c3) (.slice v4 n4 c4) F ys r/\Below w.heap.size w U5):=⟨E5.out.2.2.1,E5.out.2.2.2.1⟩
      obtain⟨y0,y1,y2,y3,y4,y5⟩:=cel6 (E5.out.1.keep (below_drew1 _))
      obtain⟨q0,q1,q2,q3,q4,q5⟩:=cel6 (E5.out.2.1.keep (below_drew1 _))
      obtain⟨z0,z1,z2,z3,z4,z5⟩:=frz6 (E5.out.2.1.keep (below_drew1 _))
      obtain⟨y0',y1',y2',y3',y4',y5'⟩:=cel6 E5.out.1
      obtain⟨q0',q1',q2',q3',q4',q5'⟩:=cel6 E5.out.2.1
      obtain⟨z0',z1',z2',z3',z4',z5'⟩:=frz6 E5.out.2.1
      have hYne:¬Y=w.heap.size+1:=by have:=E5.out.2.2.2.2;omega
      have hYne':¬w.heap.size+1=Y:=by have:=E5.out.2.2.2.2;omega
      go_region
      have G:Hid _:=(((((E5.out.2.1.set 0 (.int .i64 r.code)).set 1 (.int .i64 r.at_)).set 2 (.slice v1 n1 c1)).set 3 (.slice v2 n2 c2)).set 4 (.slice v3 n3 c3)).set 5 (.slice v4 n4 c4)
      simp only[List.setIfInBounds_toArray,List.set_cons_zero,List.set_cons_succ]at G
      have hb2:=HFO.out.2
      have OW:Hid _:=((((((E6.out.1.set (a:=⟨w.heap.size+1,0,none⟩) hb2 (.int .i64 r.code)).set (a:=⟨w.heap.size+1,1,none⟩) hb2 (.int .i64 r.at_)).set (a:=⟨w.heap.size+1,2,none⟩) hb2 (.slice v1 n1 c1)).set (a:=⟨w.heap.size+1,3,none⟩) hb2 (.slice v2 n2 c2)).set (a:=⟨w.heap.size+1,4,none⟩) hb2 (.slice v3 n3 c3)).set (a:=⟨w.heap.size+1,5,none⟩) hb2 (.slice v4 n4 c4)).keepF (below_drew1 _)
      have BB:Hid _:=below_on (bset (bset (bset (bset (bset (bset E6.out.2 (w.heap.size+1) 0 (Nat.le_succ _) (.int .i64 r.code)) (w.heap.size+1) 1 (Nat.le_succ _) (.int .i64 r.at_)) (w.heap.size+1) 2 (Nat.le_succ _) (.slice v1 n1 c1)) (w.heap.size+1) 3 (Nat.le_succ _) (.slice v2 n2 c2)) (w.heap.size+1) 4 (Nat.le_succ _) (.slice v3 n3 c3)) (w.heap.size+1) 5 (Nat.le_succ _) (.slice v4 n4 c4)) (Nat.le_refl _) (below_drew1 _)
      clear q0 q1 q2 q3 q4 q5 q0' q1' q2' q3' q4' q5' y0 y1 y2 y3 y4 y5 y0' y1' y2' y3' y4' y5' z0 z1 z2 z3 z4 z5 z0' z1' z2' z3' z4' z5' hYne hYne'
      obtain⟨q0,q1,q2,q3,q4,q5⟩:=cel6 (Blk.keep (w:=(((((U5.setCell ⟨w.heap.size+1,0,none⟩ (.int .i64 r.code)).setCell ⟨w.heap.size+1,1,none⟩ (.int .i64 r.at_)).setCell ⟨w.heap.size+1,2,none⟩ (.slice v1 n1 c1)).setCell ⟨w.heap.size+1,3,none⟩ (.slice v2 n2 c2)).setCell ⟨w.heap.size+1,4,none⟩ (.slice v3 n3 c3)).setCell ⟨w.heap.size+1,5,none⟩ (.slice v4 n4 c4)) (b:=w.heap.size+1) (t:=67) G.out (below_drew1 _))
      go_wp2_with fail
      have hb3:w.heap.size<=u2.heap.size:=by omega
      exact bodyPost_ret (v:=.tuple #[.agg #[.int .i64 r.code,.int .i64 r.at_,.slice v1 n1 c1,.slice v2 n2 c2,.slice v3 n3 c3,.slice v4 n4 c4],.bool (r.code==0)]) (by simp[results,Tryz.results36,go_sem,q0,q1,q2,q3,q4,q5]) rfl ⟨r.code,r.at_,v1,n1,c1,v2,n2,c2,v3,n3,c3,v4,n4,c4,r.code==0,rfl,⟨fun e=>⟨HN.out,by omega,f,by rw[Int.toNat_natCast];exact HF.out.1,r,HFO.out.1,by simpa using e⟩,fun e=>by
        obtain⟨f',hf',r',hr',hc'⟩:=e.2.2
        rw[Int.toNat_natCast,HF.out.1]at hf'
        obtain rfl:=Option.some.inj hf'
        have:=hr'.one HFO.out.1
        rw[<-this]
        simpa using hc'⟩,fun e=>⟨f,r,F,ys,by rw[Int.toNat_natCast];exact HF.out.1,HFO.out.1,by simpa using e,by simpa using e,OW.out.down hb3⟩,BB.out⟩
  . rw[show errOf n=.iface 166 (.int .i64 n)from by unfold errOf;rw[if_neg hn0]]
    have HNP:Hid (¬FlowP p fi):=fun e=>hn0 (HN.out.one e.1)
    clear hn0
    go_wp2_with fail
    have G:Hid _:=(((((E2.out.2.1.set 0 (.int .i64 0)).set 1 (.int .i64 0)).set 2 (.slice none 0 0)).set 3 (.slice none 0 0)).set 4 (.slice none 0 0)).set 5 (.slice none 0 0)
    simp only[List.setIfInBounds_toArray,List.set_cons_zero,List.set_cons_succ]at G
    clear q0 q1 q2 q3 q4 q5
    obtain⟨q0,q1,q2,q3,q4,q5⟩:=cel6 G.out
    exact bodyPost_ret (v:=.tuple #[.agg #[.int .i64 0,.int .i64 0,.slice none 0 0,.slice none 0 0,.slice none 0 0,.slice none 0 0],.bool false]) (by simp[results,Tryz.results36,go_sem,q0,q1,q2,q3,q4,q5]) rfl ⟨0,0,_,_,_,_,_,_,_,_,_,_,_,_,false,rfl,⟨fun e=>(by cases e),fun e=>absurd e HNP.out⟩,fun e=>(by cases e),(((((E2.out.2.2.setCell (by simp only[];omega) _).setCell (by simp only[];omega) _).setCell (by simp only[];omega) _).setCell (by simp only[];omega) _).setCell (by simp only[];omega) _).setCell (by simp only[];omega) _⟩
end Go.Proofs.YtdfmdgbolmbffaaGreat
namespace Go.Proofs.YtdfmdgbolmbffaaGreat
open Go.ChangeShapes Go.WideShapes Go.ChangeAt Go.RowKit
set_option linter.unusedVariables false
structure WS where
  c:Nat->Option (List Int)
  t:Nat->List Int
  d:Nat
def updT(T:Nat->List Int)(a:Nat)(sh:List Int):Nat->List Int:=fun j=>if j=a then sh else T j
def updC(C:Nat->Option (List Int))(b:Nat)(sh:List Int):Nat->Option (List Int):=fun j=>if j=b then some sh else C j
abbrev RunR:=Sum (Int×Nat) (List Int×(Nat->List Int)×Nat)
def runK(p:MP)(f:MF):Nat->Nat->List Int->(Nat->List Int)->Nat->RunR
  |0,_,sh,T,D=>.inr (sh,T,D)
  | c+1,a,sh,T,D=>match f.code[a]? with
    |none=>.inr (sh,T,D)
    |some x=>if codeI p f x sh=0 then runK p f c (a+1) (outI p f x sh) (updT T a sh) (max D (outI p f x sh).length)else .inl (codeI p f x sh,a)
def meetK:List Nat->List Int->(Nat->Option (List Int))->Option (Nat->Option (List Int))
  |[],_,C=>some C
  | t::r,sh,C=>match C t with
    |none=>meetK r sh (updC C t sh)
    |some s=>if s=sh then meetK r sh C else none
abbrev RunO:=Sum (Int×Nat) WS
def runB(p:MP)(f:MF)(m:MB)(b:Nat)(s:WS):RunO:=match runK p f (m.last-m.first+1).toNat m.first.toNat ((s.c b).getD []) s.t s.d with
  |.inl e=>.inl e
  | .inr (sh,T,D)=>match meetK (m.next.map Int.toNat) sh s.c with
    |none=>.inl (4,m.last.toNat)
    |some C=>.inr ⟨C,T,D⟩
def runO(p:MP)(f:MF)(bs:List MB):List Nat->WS->RunO
  |[],s=>.inr s
  | b ::r,s=>match bs[b]? with
    |none=>.inr s
    | some m=>match runB p f m b s with
      |.inl e=>.inl e
      |.inr s'=>runO p f bs r s'
def ws0:WS:=⟨fun b=>if b=0 then some []else none,fun _=>[],0⟩
structure MTy where
  code:Int
  at_:Int
  depth:Int
  shapes:List (List Int)
def tyOf(n:Nat):RunO->MTy
  |.inl (c,a)=>⟨c,(a:Int),0,[]⟩
  |.inr s=>⟨0,0,(s.d:Int),(List.range n).map s.t⟩
def TyIs(p:MP)(fi:Int)(y:MTy):Prop:=(¬FlowP p fi/\y=⟨6,0,0,[]⟩)\/(FaultIs p 0/\0<=fi/\∃f r,p.funcs[fi.toNat]?=some f/\FlowOk f.code r/\r.code=0/\y=tyOf f.code.length (runO p f r.blocks (r.order.map Int.toNat) ws0))
theorem TyIs.one{p:MP}{fi:Int}{y y':MTy}(h:TyIs p fi y)(h':TyIs p fi y'):y=y':=by
  rcases h with⟨a,rfl⟩|⟨q1,q2,f,r,h1,h2,h3,rfl⟩<;>rcases h' with⟨a',rfl⟩|⟨q1',q2',f',r',h1',h2',h3',rfl⟩
  . rfl
  . exact absurd ⟨q1',q2',f',h1',r',h2',h3'⟩ a
  . exact absurd ⟨q1,q2,f,h1,r,h2,h3⟩ a'
  . rw[h1]at h1'
    have e:=Option.some.inj h1'
    subst e
    have e:=h2.one h2'
    subst e
    rfl
theorem build_mid{L:List Nat}{n b:Nat}{m:MB}(hs:L.Pairwise (· < ·))(hl:∀x∈L,x<n)(h:(build L n)[b]?=some m){i:Nat}(h1:m.first<(i:Int))(h2:(i:Int)<=m.last):i∉L:=by
  unfold build at h
  rw[List.getElem?_zipWith]at h
  cases e1:L[b]? with
  |none=>rw[e1]at h;simp at h
  | some a=>
    cases e2:(L.tail++[n])[b]? with
    |none=>rw[e1,e2]at h;simp at h
    | some q=>
      rw[e1,e2]at h
      simp only[Option.some.injEq]at h
      subst h
      simp only[]at h1 h2
      intro hi
      obtain⟨j,hj⟩:=List.getElem?_of_mem hi
      obtain⟨ib,eb⟩:=List.getElem?_eq_some_iff.1 e1
      obtain⟨ij,ej⟩:=List.getElem?_eq_some_iff.1 hj
      have hp:=List.pairwise_iff_getElem.1 hs
      have hbj:b<j:=by
        apply Classical.byContradiction
        intro hn
        by_cases e:j=b
        . subst e
          omega
        . have:=hp j b ij ib (by omega)
          omega
      have h3:L[b+1]?=some q:=by
        rw[<-e2,List.getElem?_append_left (by simp;omega)]
        cases L<;>simp
      obtain⟨i3,e3⟩:=List.getElem?_eq_some_iff.1 h3
      by_cases e:j=b+1
      . subst e
        omega
      . have:=hp (b+1) j i3 ij (by omega)
        omega
theorem specL_raw{xs:List MI}{b:Nat}{m:MB}(h:(specL xs)[b]?=some m):∃m0,(build (lds xs xs.length) xs.length)[b]?=some m0/\m.first=m0.first/\m.last=m0.last:=by
  unfold specL at h
  rw[List.getElem?_map]at h
  obtain⟨m0,h1,rfl⟩:=Option.map_eq_some_iff.1 h
  rw[outL_build]at h1
  exact⟨m0,h1,rfl,rfl⟩
theorem ret_last{xs:List MI}{b:Nat}{m:MB}(h:(specL xs)[b]?=some m){i:Nat}{x:MI}(hx:xs[i]?=some x)(h1:m.first<=(i:Int))(h2:(i:Int)<m.last):x.op≠29:=by
  obtain⟨m0,e0,ef,el⟩:=specL_raw h
  obtain⟨a,e,q1,q2,q3,q4⟩:=specL_parts h
  intro hop
  have hi:i+1<xs.length:=by omega
  refine build_mid (lds_sorted _ _) (fun x hx=>((lds_mem _ _ _).1 hx).1) e0 (i:=i+1) (by omega) (by omega) ?_
  rw[lds_mem]
  exact⟨hi,leadB_of xs xs.length i (i+1) x (by omega) hx (by simp[leads,hop])⟩
theorem blk_apart{xs:List MI}{b t:Nat}{m m':MB}(h:(specL xs)[b]?=some m)(h':(specL xs)[t]?=some m')(hne:b≠t):¬(m.first<=m'.first/\m'.first<=m.last):=by
  obtain⟨m0,e0,ef,el⟩:=specL_raw h
  obtain⟨m1,e1,ef',el'⟩:=specL_raw h'
  rintro⟨h1,h2⟩
  have hf:∀{c:Nat} {k:MB},(build (lds xs xs.length) xs.length)[c]?=some k->∃a,(lds xs xs.length)[c]?=some a/\k.first=(a:Int):=by
    intro c k hk
    unfold build at hk
    rw[List.getElem?_zipWith]at hk
    cases e1:(lds xs xs.length)[c]? with
    |none=>rw[e1]at hk;simp at hk
    | some a=>
      cases e2:((lds xs xs.length).tail++[xs.length])[c]? with
      |none=>rw[e1,e2]at hk;simp at hk
      | some q=>
        rw[e1,e2]at hk
        simp only[Option.some.injEq]at hk
        subst hk
        exact⟨a,rfl,rfl⟩
  obtain⟨a,ha,eaf⟩:=hf e0
  obtain⟨a',ha',eaf'⟩:=hf e1
  have hp:=List.pairwise_iff_getElem.1 (lds_sorted xs xs.length)
  obtain⟨ib,eb⟩:=List.getElem?_eq_some_iff.1 ha
  obtain⟨it,et⟩:=List.getElem?_eq_some_iff.1 ha'
  have haa:a≠a':=by
    intro e
    rcases Nat.lt_or_gt_of_ne hne with hlt|hlt
    . have:=hp b t ib it hlt
      omega
    . have:=hp t b it ib hlt
      omega
  exact build_mid (lds_sorted _ _) (fun x hx=>((lds_mem _ _ _).1 hx).1) e0 (i:=a') (by omega) (by omega) (List.mem_of_getElem? ha')
end Go.Proofs.YtdfmdgbolmbffaaGreat
