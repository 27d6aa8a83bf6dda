import Derived.Test.YtlejplpkomddeaaGreatG0
import Derived.Test.YtlejplpkomddeaaGreatG5
import Derived.Test.YtlejplpkomddeaaGreatG13
import Derived.Test.YtlejplpkomddeaaGreatG14
import Derived.Test.YtlejplpkomddeaaGreatG23
namespace Go.Proofs.YtlejplpkomddeaaGreat
open Go.ChangeShapes Go.WideShapes Go.ChangeAt Go.RowKit
set_option linter.unusedVariables false
set_option maxHeartbeats 8000000
set_option maxRecDepth 100000
theorem LY(xs:List (List MC×Value)):xs.flatMap Ce=(xs.map fun x=>(x.2,x.1)).flatMap Bh:=by
 induction xs with
 |nil=>rfl
 |cons a r ih=>simp[List.flatMap_cons,ih,Ce,Bh]
theorem Iz(v:VS)(s:MS)(w:World)(hs:s.small)(h:Fc w v s):
  Calls Tryz.prog 40 #[.agg #[.int .i64 s.trap,.bool s.done,.int .i64 s.cost,.int .i64 s.steps,v.c,v.k,v.f]] w fun e w'=>∃C F V,e=.returned (.agg #[.int .i64 s.trap,.bool s.done,.int .i64 s.cost,.int .i64 s.steps,V.c,V.k,V.f])/\s=Av s.trap s.done s.cost s.steps C s.stack F/\Aj w' w.heap.size V C s.stack F/\Below w.heap.size w w':=by
 have H:Hid (s.small/\Fc w v s):=⟨hs,h⟩
 obtain⟨xs,hxs,hxr,hxe⟩:=h.cells;obtain⟨a1,c1,e1⟩:=hxr.is_slice;obtain⟨a2,c2,e2⟩:=h.stack.is_slice;obtain⟨ys,hys,hyr,hye⟩:=h.frames;obtain⟨a3,c3,e3⟩:=hyr.is_slice;obtain⟨vc,vk,vf⟩:=v;simp only[]at e1 e2 e3;subst e1 e2 e3;obtain⟨zs,hzs⟩:∃zs,zs=xs.map fun x=>(x.2,x.1):=⟨_,rfl⟩
 have hzm:zs.map Prod.snd=s.cells:=by rw[hzs,<-hxs,List.map_map];rfl
 have HC:Hid (zs.map Prod.snd=s.cells/\Rd w 1 (.slice a1 s.cells.length c1) s.cells.length (zs.flatMap Bh)/\∀x∈zs,Rd w 2 x.1 x.2.length (x.2.flatMap MC.cells)):=⟨hzm,by rw[hzs,<-LY];exact hxr,fun x hx=>by
  rw[hzs,List.mem_map]at hx;obtain⟨y,hy,rfl⟩:=hx;exact hxe y hy⟩
 have HF:Hid (ys.map Prod.fst=s.frames/\Rd w 4 (.slice a3 s.frames.length c3) s.frames.length (ys.flatMap As)/\∀x∈ys,Ju w x.2 x.1):=⟨hys,hyr,hye⟩
 have HC1:Hid (∀u∈zs.flatMap Bh,u.oneCell'=true):=fun u hu=>by
  rw[List.mem_flatMap]at hu;obtain⟨x,hx,hu⟩:=hu;simp[Bh]at hu;subst hu;obtain⟨a,c,e⟩:=(HC.out.2.2 x hx).is_slice;rw[e];rfl
 have HF1:Hid (∀u∈ys.flatMap As,u.oneCell'=true):=fun u hu=>by
  rw[List.mem_flatMap]at hu;obtain⟨x,hx,hu⟩:=hu;have h2:=HF.out.2.2 x hx;unfold Ju at h2;obtain⟨a,c,e⟩:=h2.is_slice;simp[As]at hu;rcases hu with rfl|rfl|rfl|hu
  ·rfl
  ·rfl
  ·rfl
  ·rw[hu,e]
   rfl
 clear hs h hxs hxr hxe hys hyr hye hzm hzs;clear xs;have E0:Hid (Cd w _ s ⟨.slice a1 s.cells.length c1,.slice a2 s.stack.length c2,.slice a3 s.frames.length c3⟩ []):=Cd.of w s ⟨.slice a1 s.cells.length c1,.slice a2 s.stack.length c2,.slice a3 s.frames.length c3⟩;go_enter Tryz.func40,Tryz.ntmps40;go_upto_region 1 with fail
 refine Ag (fun u=>Hid (Cd w u s ⟨.slice a1 s.cells.length c1,.slice a2 s.stack.length c2,.slice a3 s.frames.length c3⟩ [])) E0 ?_;rintro U0 E1;clear E0;have m4:=E1.out.sb.cell 4;have z4:=E1.out.sb.frozen 4;simp only[gA,gZ,gS]at m4;go_wp2_with fail
 refine(J8 (.slice a1 s.cells.length c1) s.cells.length (zs.flatMap Bh) U0 H.out.1.cells HC1.out (HC.out.2.1.keep E1.out.bel lR)).mono ?_;rintro e u1 ⟨b1,d1,rfl,own1,bl1⟩;have E2:Hid (Cd w (u1.setCell ⟨w.heap.size,4,none⟩ (.slice b1 s.cells.length d1)) s ⟨.slice b1 s.cells.length d1,.slice a2 s.stack.length c2,.slice a3 s.frames.length c3⟩ []/\(u1.setCell ⟨w.heap.size,4,none⟩ (.slice b1 s.cells.length d1)).ownsRow w.heap.size 36 1 (.slice b1 s.cells.length d1) s.cells.length (([]++zs.drop 0).flatMap Bh)):=⟨(E1.out.keep bl1).setC _,EJ (AA own1 E1.out.bel.size) (E1.out.keep bl1).sb (by decide)⟩
 have m4':=(E1.out.keep bl1).sb.cell 4;have z4':=(E1.out.keep bl1).sb.frozen 4;simp only[gA,gZ,gS]at m4';clear own1 bl1 m4 z4 E1;go_upto_region 2 with fail
 refine Ag (fun u=>Hid (Cd w u s ⟨.slice b1 s.cells.length d1,.slice a2 s.stack.length c2,.slice a3 s.frames.length c3⟩ []/\u.ownsRow w.heap.size 36 1 (.slice b1 s.cells.length d1) s.cells.length (([]++zs.drop 0).flatMap Bh))) E2 ?_
 rintro U1 E3;clear E2 m4' z4';clear u1;clear U0;have m4:=E3.out.1.sb.cell 4;simp only[gA,gZ,gS]at m4;go_wp2_with fail
 go_loopw [12] (fun i wr=>∃(k:Nat) (C:List (Value×List MC)),k<=s.cells.length/\i=.int .i64 k/\Hid (C.map Prod.snd=s.cells.take k/\Cd w wr s ⟨.slice b1 s.cells.length d1,.slice a2 s.stack.length c2,.slice a3 s.frames.length c3⟩ C/\wr.ownsRow w.heap.size 36 1 (.slice b1 s.cells.length d1) s.cells.length ((C++zs.drop k).flatMap Bh))) (fun i _=>s.cells.length-(intOf i).toNat)
 case atStart=>exact⟨0,[],by omega,rfl,by simp,E3.out.1,E3.out.2⟩
 case round=>
  clear E3 m4;obtain⟨k,C,hk,rfl,HI⟩:=hrel;have hlc:=H.out.1.cells;by_cases hlt:k<s.cells.length
  ·obtain⟨⟨y,f⟩,hx⟩:∃x,zs[k]?=some x:=⟨_,gE (by rw[<-List.length_map (f:=Prod.snd),HC.out.1];exact hlt)⟩
   have hfx:s.cells[k]?=some f:=by rw[<-HC.out.1,List.getElem?_map,hx];rfl
   have hrx:=HC.out.2.2 _ (mG hx);simp only[]at hrx;obtain⟨b,d,rfl⟩:∃a c,y=.slice a f.length c:=hrx.is_slice;have hfl:f.length<=1048576:=H.out.1.cell f (mG hfx)
   have hCl:C.length=k:=by
    have:=congrArg List.length HI.out.1;simp at this;omega
   rcases Au HI.out.2.2 with⟨_,e⟩|⟨g,cc,e1⟩
   ·omega
   simp only[sJ,true_and]at e1;obtain⟨rfl,rfl⟩:=e1;have i1:=HI.out.2.2.cellAt k (by omega);have hm:=Az Bh 1 Db (C++zs.drop k) k 0 _ (Gi C zs k hCl _ hx (.slice b f.length d,f)).1 (by omega);rw[Nat.mul_one,Nat.add_zero]at hm;rw[hm]at i1;simp only[Bh,gZ]at i1;have HD:Hid (Rd wr 2 (.slice b f.length d) f.length (f.flatMap MC.cells)/\s.cells[k]?=some f/\C.length=k/\f.length<=1048576/\zs[k]?=some (.slice b f.length d,f)):=⟨hrx.keep HI.out.2.1.bel lR,hfx,hCl,hfl,hx⟩
   have bD:=Ad wr;have i1d:=Ab bD i1;have m4:=HI.out.2.1.sb.cell 4;simp only[gA,gZ,gS]at m4;have m4d:=Ab bD m4;clear hx hrx hfx hfl hCl hm i1 m4;have hkL:(k:Int)<(s.cells.length:Int):=by omega
   go_wp2_with fail
   go_region_law (first
    |(go_simp;go_at_call 87;refine(FP (.slice b f.length d) f.length (f.flatMap MC.cells) _ HD.out.2.2.2.1 (Gw f) (HD.out.1.keep bD lR)).mono ?_;rintro e u6 ⟨a6,c6,rfl,own6,b6⟩;have B6:Hid (Below wr.heap.size wr u6/\u6.ownsRow wr.heap.size 128 2 (.slice a6 f.length c6) f.length (f.flatMap MC.cells)):=⟨Ar b6 lR,own6⟩;have x0:=(HI.out.2.1.keep B6.out.1).sb.cell 4;have x1:=Ab b6 i1d;have x2:=(Ai HI.out.2.2 B6.out.1 lR).frozenAt k;simp only[gA,gZ,gS]at x0;clear own6 b6))
   all_goals
    have HN:Hid (Cd w (u6.setCell ⟨g,k,none⟩ (.slice a6 f.length c6)) s ⟨.slice (some ⟨g,0,none⟩) s.cells.length d1,.slice a2 s.stack.length c2,.slice a3 s.frames.length c3⟩ (C++[(.slice a6 f.length c6,f)])/\(u6.setCell ⟨g,k,none⟩ (.slice a6 f.length c6)).ownsRow w.heap.size 36 1 (.slice (some ⟨g,0,none⟩) s.cells.length d1) s.cells.length (((C++[(Value.slice a6 f.length c6,f)])++zs.drop (k+1)).flatMap Bh)):=Cd.cell HI.out.2.1 HI.out.2.2 B6.out.1 (x:=(.slice a6 f.length c6,f)) B6.out.2 HD.out.2.2.1 HD.out.2.2.2.2
    clear x0 x1 x2 B6;go_wp2
    go_roundw
    case rel=>exact⟨k+1,C++[(.slice a6 f.length c6,f)],by omega,by go_num,by rw[List.map_append,HI.out.1,Dd _ k _ HD.out.2.1];rfl,HN.out.1,HN.out.2⟩
    case measure=>simp[intOf];omega
  ·have hkn:k=s.cells.length:=by omega
   have E4:Hid (Cd w wr s ⟨.slice b1 s.cells.length d1,.slice a2 s.stack.length c2,.slice a3 s.frames.length c3⟩ C/\wr.ownsRow w.heap.size 36 1 (.slice b1 s.cells.length d1) s.cells.length (C.flatMap Bh)/\C.map Prod.snd=s.cells):=by
    refine⟨HI.out.2.1,?_,?_⟩
    ·have h2:=HI.out.2.2
     have h3:zs.drop k=[]:=List.drop_eq_nil_of_le (by rw[<-List.length_map (f:=Prod.snd),HC.out.1];omega);rw[h3,List.append_nil]at h2;exact h2
    ·rw[HI.out.1,hkn,List.take_length]
   clear HI;have m5:=E4.out.1.sb.cell 5;have z5:=E4.out.1.sb.frozen 5;simp only[gA,gZ,gS]at m5;go_wp2_with fail
   refine(FP (.slice a2 s.stack.length c2) s.stack.length (s.stack.flatMap MC.cells) wr H.out.1.stack (Gw _) (H.out.2.stack.keep E4.out.1.bel lR)).mono ?_;rintro e u2 ⟨b2,d2,rfl,own2,bl2⟩;have E5:Hid (Cd w (u2.setCell ⟨w.heap.size,5,none⟩ (.slice b2 s.stack.length d2)) s ⟨.slice b1 s.cells.length d1,.slice b2 s.stack.length d2,.slice a3 s.frames.length c3⟩ (C++[(.slice b2 s.stack.length d2,s.stack)])/\(u2.setCell ⟨w.heap.size,5,none⟩ (.slice b2 s.stack.length d2)).ownsRow w.heap.size 36 1 (.slice b1 s.cells.length d1) s.cells.length (C.flatMap Bh)):=⟨(E4.out.1.add bl2 (x:=(.slice b2 s.stack.length d2,s.stack)) own2).setK _,EJ (Ai E4.out.2.1 bl2 lR) (E4.out.1.keep bl2).sb (by decide)⟩
   have m5':=(E4.out.1.keep bl2).sb.cell 5;have z5':=(E4.out.1.keep bl2).sb.frozen 5;simp only[gA,gZ,gS]at m5';have HCe:Hid (C.map Prod.snd=s.cells):=E4.out.2.2;clear own2 bl2 m5 z5 E4;go_upto_region 8 with fail
   refine Ag (fun u=>Hid (Cd w u s ⟨.slice b1 s.cells.length d1,.slice b2 s.stack.length d2,.slice a3 s.frames.length c3⟩ (C++[(.slice b2 s.stack.length d2,s.stack)])/\u.ownsRow w.heap.size 36 1 (.slice b1 s.cells.length d1) s.cells.length (C.flatMap Bh))) E5 ?_
   rintro U2 E6;clear E5 m5' z5';clear u2;clear wr;have m6:=E6.out.1.sb.cell 6;have z6:=E6.out.1.sb.frozen 6;simp only[gA,gZ,gS]at m6;go_wp2_with fail
   refine(Ls (.slice a3 s.frames.length c3) s.frames.length (ys.flatMap As) U2 H.out.1.frames HF1.out (HF.out.2.1.keep E6.out.1.bel lR)).mono ?_;rintro e u3 ⟨b3,d3,rfl,own3,bl3⟩;have E7:Hid (Cd w (u3.setCell ⟨w.heap.size,6,none⟩ (.slice b3 s.frames.length d3)) s ⟨.slice b1 s.cells.length d1,.slice b2 s.stack.length d2,.slice b3 s.frames.length d3⟩ ((C++[(.slice b2 s.stack.length d2,s.stack)])++AC [])/\(u3.setCell ⟨w.heap.size,6,none⟩ (.slice b3 s.frames.length d3)).ownsRow w.heap.size 36 1 (.slice b1 s.cells.length d1) s.cells.length (C.flatMap Bh)/\(u3.setCell ⟨w.heap.size,6,none⟩ (.slice b3 s.frames.length d3)).ownsRow w.heap.size 123 4 (.slice b3 s.frames.length d3) s.frames.length (([]++ys.drop 0).flatMap As)):=⟨by simpa[AC]using(E6.out.1.keep bl3).setF (.slice b3 s.frames.length d3),EJ (Ai E6.out.2 bl3 lR) (E6.out.1.keep bl3).sb (by decide),EJ (AA own3 E6.out.1.bel.size) (E6.out.1.keep bl3).sb (by decide)⟩
   have m6':=(E6.out.1.keep bl3).sb.cell 6;have z6':=(E6.out.1.keep bl3).sb.frozen 6;simp only[gA,gZ,gS]at m6';clear own3 bl3 m6 z6 E6;go_upto_region 9 with fail
   refine Ag (fun u=>Hid (Cd w u s ⟨.slice b1 s.cells.length d1,.slice b2 s.stack.length d2,.slice b3 s.frames.length d3⟩ ((C++[(.slice b2 s.stack.length d2,s.stack)])++AC [])/\u.ownsRow w.heap.size 36 1 (.slice b1 s.cells.length d1) s.cells.length (C.flatMap Bh)/\u.ownsRow w.heap.size 123 4 (.slice b3 s.frames.length d3) s.frames.length (([]++ys.drop 0).flatMap As))) E7 ?_
   rintro U3 E8;clear E7 m6' z6';clear u3;clear U2;have m6:=E8.out.1.sb.cell 6;simp only[gA,gZ,gS]at m6;go_wp2_with fail
   go_loopw [37] (fun i wr=>∃(k:Nat) (F:List (MG×Value)),k<=s.frames.length/\i=.int .i64 k/\Hid (F.map Prod.fst=s.frames.take k/\Cd w wr s ⟨.slice b1 s.cells.length d1,.slice b2 s.stack.length d2,.slice b3 s.frames.length d3⟩ ((C++[(.slice b2 s.stack.length d2,s.stack)])++AC F)/\wr.ownsRow w.heap.size 36 1 (.slice b1 s.cells.length d1) s.cells.length (C.flatMap Bh)/\wr.ownsRow w.heap.size 123 4 (.slice b3 s.frames.length d3) s.frames.length ((F++ys.drop k).flatMap As))) (fun i _=>s.frames.length-(intOf i).toNat)
   case atStart=>exact⟨0,[],by omega,rfl,by simp,E8.out.1,E8.out.2.1,E8.out.2.2⟩
   case round=>
    clear E8 m6;obtain⟨k,F,hk,rfl,HI⟩:=hrel;have hlc:=H.out.1.frames;by_cases hlt:k<s.frames.length
    ·obtain⟨⟨f,y⟩,hx⟩:∃x,ys[k]?=some x:=⟨_,gE (by rw[<-List.length_map (f:=Prod.fst),HF.out.1];exact hlt)⟩
     have hfx:=AO HF.out.1 hx;have hrx:=HF.out.2.2 _ (mG hx);simp only[]at hrx hfx;unfold Ju at hrx;obtain⟨b,d,rfl⟩:∃a c,y=.slice a f.locals.length c:=hrx.is_slice;have hfl:f.locals.length<=1048576:=H.out.1.frame f (mG hfx)
     have hFl:F.length=k:=by
      have:=congrArg List.length HI.out.1;simp at this;omega
     rcases Au HI.out.2.2.2 with⟨_,e⟩|⟨g,cc,e1⟩
     ·omega
     simp only[sJ,true_and]at e1;obtain⟨rfl,rfl⟩:=e1;have i1:=HI.out.2.2.2.cellAt (k*4+3) (by omega);have hm:=Az As 4 Al (F++ys.drop k) k 3 _ (Gi F ys k hFl _ hx (f,.slice b f.locals.length d)).1 (by omega);rw[hm]at i1;simp only[As,gZ,gS]at i1;have HD:Hid (Rd wr 2 (.slice b f.locals.length d) f.locals.length (f.locals.flatMap MC.cells)/\s.frames[k]?=some f/\F.length=k/\f.locals.length<=1048576/\ys[k]?=some (f,.slice b f.locals.length d)):=⟨hrx.keep HI.out.2.1.bel lR,hfx,hFl,hfl,hx⟩
     have bD:=Ad wr;have i1d:=Ab bD i1;have m6:=HI.out.2.1.sb.cell 6;simp only[gA,gZ,gS]at m6;have m6d:=Ab bD m6;clear hx hrx hfx hfl hFl hm i1 m6;have hkL:(k:Int)<(s.frames.length:Int):=by omega
     go_wp2_with fail
     go_region_law (first
      |(go_simp;go_at_call 87;refine(FP (.slice b f.locals.length d) f.locals.length (f.locals.flatMap MC.cells) _ HD.out.2.2.2.1 (Gw f.locals) (HD.out.1.keep bD lR)).mono ?_;rintro e u6 ⟨a6,c6,rfl,own6,b6⟩;have B6:Hid (Below wr.heap.size wr u6/\u6.ownsRow wr.heap.size 128 2 (.slice a6 f.locals.length c6) f.locals.length (f.locals.flatMap MC.cells)):=⟨Ar b6 lR,own6⟩;have x0:=(HI.out.2.1.keep B6.out.1).sb.cell 6;have x1:=Ab b6 i1d;have x2:=(Ai HI.out.2.2.2 B6.out.1 lR).frozenAt (k*4+3);simp only[gA,gZ,gS]at x0;clear own6 b6))
     all_goals
      have HN:Hid (Cd w (u6.setCell ⟨g,k*4+3,none⟩ (.slice a6 f.locals.length c6)) s ⟨.slice b1 s.cells.length d1,.slice b2 s.stack.length d2,.slice (some ⟨g,0,none⟩) s.frames.length d3⟩ ((C++[(.slice b2 s.stack.length d2,s.stack)])++AC (F++[(f,.slice a6 f.locals.length c6)]))/\(u6.setCell ⟨g,k*4+3,none⟩ (.slice a6 f.locals.length c6)).ownsRow w.heap.size 123 4 (.slice (some ⟨g,0,none⟩) s.frames.length d3) s.frames.length (((F++[(f,Value.slice a6 f.locals.length c6)])++ys.drop (k+1)).flatMap As)):=Cd.frame HI.out.2.1 HI.out.2.2.2 B6.out.1 (y:=(f,.slice b f.locals.length d)) (x:=.slice a6 f.locals.length c6) B6.out.2 HD.out.2.2.1 HD.out.2.2.2.2
      have HN2:Hid ((u6.setCell ⟨g,k*4+3,none⟩ (.slice a6 f.locals.length c6)).ownsRow w.heap.size 36 1 (.slice b1 s.cells.length d1) s.cells.length (C.flatMap Bh)):=by
       obtain⟨_,cur,hb⟩:=Bg (Ai HI.out.2.2.2 B6.out.1 lR);exact EJ (Ai HI.out.2.2.1 B6.out.1 lR) hb (by decide)
      clear x0 x1 x2 B6;go_wp2
      go_roundw
      case rel=>exact⟨k+1,F++[(f,.slice a6 f.locals.length c6)],by omega,by go_num,by rw[List.map_append,HI.out.1,Dd _ k _ HD.out.2.1];rfl,HN.out.1,HN2.out,HN.out.2⟩
      case measure=>simp[intOf];omega
    ·have hkn:k=s.frames.length:=by omega
     have HFe:Hid (F.map Prod.fst=s.frames/\F.length=s.frames.length/\C.length=s.cells.length):=by
      refine⟨by rw[HI.out.1,hkn,List.take_length],?_,?_⟩
      ·have:=congrArg List.length HI.out.1
       rw[hkn,List.take_length]at this;simpa using this
      ·have:=congrArg List.length HCe.out
       simpa using this
     have E9:Hid (Cd w wr s ⟨.slice b1 s.cells.length d1,.slice b2 s.stack.length d2,.slice b3 s.frames.length d3⟩ ((C++[(.slice b2 s.stack.length d2,s.stack)])++AC F)/\Aj wr w.heap.size ⟨.slice b1 s.cells.length d1,.slice b2 s.stack.length d2,.slice b3 s.frames.length d3⟩ C s.stack F):=by
      refine⟨HI.out.2.1,?_,?_,HI.out.2.1.fam⟩
      ·rw[HFe.out.2.2]
       exact HI.out.2.2.1
      ·have h2:=HI.out.2.2.2
       have h3:ys.drop k=[]:=List.drop_eq_nil_of_le (by rw[<-List.length_map (f:=Prod.fst),HF.out.1];omega);rw[h3,List.append_nil]at h2;rw[HFe.out.2.1];exact h2
     have HE:Hid (s=Av s.trap s.done s.cost s.steps C s.stack F):=by
      show s=_;unfold Av;rw[HCe.out,HFe.out.1]
     clear HI;have k0:=E9.out.1.sb.cell 0;have d0':=E9.out.1.rb.cell 0;have y0:=E9.out.1.rb.frozen 0;have k1:=E9.out.1.sb.cell 1;have d1':=E9.out.1.rb.cell 1;have y1:=E9.out.1.rb.frozen 1;have k2:=E9.out.1.sb.cell 2;have d2':=E9.out.1.rb.cell 2;have y2:=E9.out.1.rb.frozen 2;have k3:=E9.out.1.sb.cell 3;have d3':=E9.out.1.rb.cell 3;have y3:=E9.out.1.rb.frozen 3;have k4:=E9.out.1.sb.cell 4;have d4':=E9.out.1.rb.cell 4;have y4:=E9.out.1.rb.frozen 4;have k5:=E9.out.1.sb.cell 5;have d5':=E9.out.1.rb.cell 5;have y5:=E9.out.1.rb.frozen 5;have k6:=E9.out.1.sb.cell 6;have d6':=E9.out.1.rb.cell 6;have y6:=E9.out.1.rb.frozen 6;simp only[gA,gZ,gS]at k0 d0' k1 d1' k2 d2' k3 d3' k4 d4' k5 d5' k6 d6';go_wp2_with fail
     exact bodyPost_ret (results_cell_row Tryz.results40 _ _ _ 39 _ (0,0) _ rfl (E9.out.1.rb.w7 _ _ _ _ _ _ _) Tryz.underlying39 rfl (by kernel_rfl)) rfl ⟨C,F,⟨.slice b1 s.cells.length d1,.slice b2 s.stack.length d2,.slice b3 s.frames.length d3⟩,rfl,HE.out,E9.out.2.o7 E9.out.1.rb _ _ _ _ _ _ _,KB E9.out.1.bel (by omega) _ _ _ _ _ _ _⟩
end Go.Proofs.YtlejplpkomddeaaGreat
