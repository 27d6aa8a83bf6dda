import Derived.Test.YtlejplpkomddeaaGreatR0
import Derived.Test.YtlejplpkomddeaaGreatR18
import Derived.Test.YtlejplpkomddeaaGreatR13
import Derived.Test.YtlejplpkomddeaaGreatR11
import Derived.Test.YtlejplpkomddeaaGreatR12
import Derived.Test.YtlejplpkomddeaaGreatR4
import Derived.Test.YtlejplpkomddeaaGreatR1
import Derived.Laws.CopyRow
namespace Go.Proofs.YtlejplpkomddeaaGreat
open Go.ChangeShapes Go.WideShapes Go.ChangeAt Go.RowKit
set_option linter.unusedVariables false
set_option maxHeartbeats 4000000
set_option maxRecDepth 100000
theorem Rd.placed{w:World}{ad:Addr}{n c:Nat}{xs:List Int}(h:Rd w 1 (.slice (some ad) n c) n (xs.flatMap Ae)):∀j u,(xs.flatMap Ae)[j]?=some u->w.cell? (ad.add j)=some u:=by
 intro j u hj;rcases h.2 with⟨rfl,_⟩|⟨g,o,c',e,hc⟩
 ·have:=(gI.1 hj).1
  rw[h.1]at this;omega
 ·simp only[sJ,Option.some.injEq,true_and]at e
  obtain⟨rfl,rfl⟩:=e;rw[Addr.add_lit];exact hc j u hj
theorem OY(w:World)(x y:Value)(ty:TypeId):(w.alloc (.cells #[x,y] ty)).cell? ⟨w.heap.size,0,none⟩=some x/\(w.alloc (.cells #[x,y] ty)).cell? ⟨w.heap.size,1,none⟩=some y:=by
 have h:=World.ownsRow_lit (base:=w.heap.size) (e:=ty) (size:=2) w #[x,y] 1 lR (by unfold maxLen;omega) (by simp);exact⟨h.cellAt 0 (by omega),h.cellAt 1 (by omega)⟩
theorem Gp(xs:List Int):∀u∈xs.flatMap Ae,u.oneCell'=true:=by
 intro u hu;obtain⟨x,_,hx⟩:=List.mem_flatMap.1 hu;simp[Ae]at hx;subst hx;rfl
theorem Lj{w:World}{base:Nat}{e:TypeId}{v:Value}{xs:List Int}{n:Nat}(h:w.ownsRow base e 1 v n (xs.flatMap Ae))(ys:List Int)(hy:ys.length=0):w.ownsRow base e 1 v (n+ys.length) ((xs++ys).flatMap Ae):=by
 obtain rfl:=List.eq_nil_of_length_eq_zero hy;simpa using h
theorem I8{B:Nat}{w u u':World}{e:TypeId}{v:Value}{n:Nat}{xs:List Value}(h:Below B w u)(ho:u.ownsRow w.heap.size e 1 v n xs)(hB:B<=w.heap.size)(hg:u.grownBy u' v.ownBlock):Below B w u':=
 h.grown hg (Nat.le_trans hB h.size) (fun k hk=>Nat.le_trans hB (ho.lt k hk).1)
theorem Kv(g:Nat)(s1 s2:Value)(xs ys:List Int)(w:World)(hx:xs.length<=1048576)(hy:ys.length<=1048576)(h1:Rd w 1 s1 xs.length (xs.flatMap Ae))(h2:Rd w 1 s2 ys.length (ys.flatMap Ae))(k1:Cb s1)(k2:Cb s2)
 (g0:w.cell? ⟨g,0,none⟩=some s1) (g1:w.cell? ⟨g,1,none⟩=some s2):
 Calls Tryz.prog 149 #[.slice (some ⟨g,0,none⟩) 2 2] w fun e w'=>∃v,e=.returned v/\w'.ownsRow w.heap.size 2 1 v (xs.length+ys.length) ((xs++ys).flatMap Ae)/\Below w.heap.size w w':=by
 have H:Hid (xs.length<=1048576/\ys.length<=1048576/\Rd w 1 s1 xs.length (xs.flatMap Ae)/\Rd w 1 s2 ys.length (ys.flatMap Ae)/\Cb s1/\Cb s2):=⟨hx,hy,h1,h2,k1,k2⟩
 obtain⟨a1,c1,rfl⟩:=h1.is_slice;obtain⟨a2,c2,rfl⟩:=h2.is_slice;clear h1 h2 k1 k2;obtain⟨i0,hi,hz0,hz1,hz2⟩:=info_parts Jw;have HG:=h2 g0 g1;go_enter Tryz.func149,Tryz.ntmps149;go_wp2
 go_loopw [3,11] (fun s c wr=>((c=.int .i64 0/\s=.int .i64 0)\/(c=.int .i64 1/\s=.int .i64 (xs.length:Int))\/(c=.int .i64 2/\s=.int .i64 ((xs.length+ys.length:Nat):Int)))/\wr=w) (fun _ c _=>2-(intOf c).toNat)
 case atStart=>exact⟨.inl ⟨rfl,rfl⟩,rfl⟩
 case round=>
  obtain⟨hc,rfl⟩:=hrel;rcases hc with⟨rfl,rfl⟩|⟨rfl,rfl⟩|⟨rfl,rfl⟩
  ·go_wp2
   go_roundw
   case rel=>exact⟨.inr (.inl ⟨rfl,by simp⟩),by trivial⟩
   case measure=>simp[intOf]
  ·go_wp2
   go_roundw
   case rel=>exact⟨.inr (.inr ⟨rfl,by simp⟩),by trivial⟩
   case measure=>simp[intOf]
  ·go_wp2_with fail
   refine(NM (xs.length+ys.length) _ (by omega)).mono ?_;rintro e u1 ⟨v0,rfl,own0,bl0⟩;have HO:=h2 own0 bl0;clear own0 bl0 g0 g1;obtain⟨W,hWe⟩:∃W,W=wr:=⟨_,rfl⟩;subst hWe;go_wp2
   go_loopw [6,27] (fun v c wr=>((c=.int .i64 0/\Hid (wr.ownsRow W.heap.size 2 1 v 0 ([]:List Value)))\/(c=.int .i64 1/\Hid (wr.ownsRow W.heap.size 2 1 v (0+xs.length) (([]++xs).flatMap Ae)))\/(c=.int .i64 2/\Hid (wr.ownsRow W.heap.size 2 1 v (xs.length+ys.length) ((xs++ys).flatMap Ae))))/\Hid (Below W.heap.size W wr)) (fun _ c _=>2-(intOf c).toNat)
   case atStart=>exact⟨.inl ⟨rfl,HO.out.1⟩,HO.out.2⟩
   case round=>
    clear HO;obtain⟨hc,HB⟩:=hrel;have g0:=HG.out.1;have g1:=HG.out.2;rw[<-HB.out.cell (bL g0)]at g0;rw[<-HB.out.cell (bL g1)]at g1;rcases hc with⟨rfl,HO⟩|⟨rfl,HO⟩|⟨rfl,HO⟩
    ·rcases H.out.2.2.2.2.1 with e|⟨ad,n',c',e⟩
     ·simp only[sJ]at e
      obtain⟨rfl,e2,rfl⟩:=e;have hN:Hid (xs.length=0):=e2;rw[e2]at g0;have hr:∀ty,(Builtin.append_ #[113,113] ty #[u6,.slice none 0 0]).run Tryz.prog wr=.ok u6 wr:=fun ty=>run_append_owned_none (P:=Tryz.prog) wr W.heap.size 113 ty 2 i0 1 Tryz.underlying113 hi u6 _ _ HO.out
      clear e2;go_wp2_with (at_builtin;refine Lib.wpList_append_run _ rfl _ _ _ _ rfl _ _ rfl rfl _ _ (hr _) ?_);go_roundw
      case rel=>exact⟨.inr (.inl ⟨rfl,Lj (xs:=[]) HO.out xs hN.out⟩),HB⟩
      case measure=>simp[intOf]
     ·simp only[sJ]at e
      obtain⟨rfl,e2,rfl⟩:=e;have HR:=AS (H.out.2.2.1.keep HB.out lR);clear e2;go_wp2_with (at_builtin;refine wpList_append_own _ rfl _ _ 113 rfl W.heap.size 2 i0 (.int .i64 0) 1 8 Tryz.underlying113 hi hz0 hz1 hz2 rfl (by decide) _ _ _ rfl HO.out ad xs.length c1 (xs.flatMap Ae) rfl ?c1 ?c2 ?c3 ?c4 ?c5 ?c6 ?_)
      case c1=>rw[Az Ae 1 An]
      case c2=>exact HR.out.placed
      case c3=>exact Gp _
      case c4=>unfold maxLen;omega
      case c5=>omega
      case c6=>exact HB.out.size
      intro v' w' hown' hgrow' hnil';have HO2:Hid (w'.ownsRow W.heap.size 2 1 v' (0+xs.length) (([]++xs).flatMap Ae)):=by show World.ownsRow _ _ _ _ _ _ _;simpa using hown'
      have HB2:Hid (Below W.heap.size W w'):=I8 HB.out HO.out lR hgrow';clear hown' hgrow' hnil';go_wp2
      go_roundw
      case rel=>exact⟨.inr (.inl ⟨rfl,HO2⟩),HB2⟩
      case measure=>simp[intOf]
    ·rcases H.out.2.2.2.2.2 with e|⟨ad,n',c',e⟩
     ·simp only[sJ]at e
      obtain⟨rfl,e2,rfl⟩:=e;have hN:Hid (ys.length=0):=e2;rw[e2]at g1;have hr:∀ty,(Builtin.append_ #[113,113] ty #[u6,.slice none 0 0]).run Tryz.prog wr=.ok u6 wr:=fun ty=>run_append_owned_none (P:=Tryz.prog) wr W.heap.size 113 ty 2 i0 1 Tryz.underlying113 hi u6 _ _ HO.out
      clear e2;go_wp2_with (at_builtin;refine Lib.wpList_append_run _ rfl _ _ _ _ rfl _ _ rfl rfl _ _ (hr _) ?_);go_roundw
      case rel=>exact⟨.inr (.inr ⟨rfl,by have:=Lj (xs:=[]++xs) HO.out ys hN.out;simpa[Hid]using this⟩),HB⟩
      case measure=>simp[intOf]
     ·simp only[sJ]at e
      obtain⟨rfl,e2,rfl⟩:=e;have HR:=AS (H.out.2.2.2.1.keep HB.out lR);clear e2;go_wp2_with (at_builtin;refine wpList_append_own _ rfl _ _ 113 rfl W.heap.size 2 i0 (.int .i64 0) 1 8 Tryz.underlying113 hi hz0 hz1 hz2 rfl (by decide) _ _ _ rfl HO.out ad ys.length c2 (ys.flatMap Ae) rfl ?c1 ?c2 ?c3 ?c4 ?c5 ?c6 ?_)
      case c1=>rw[Az Ae 1 An]
      case c2=>exact HR.out.placed
      case c3=>exact Gp _
      case c4=>unfold maxLen;omega
      case c5=>omega
      case c6=>exact HB.out.size
      intro v' w' hown' hgrow' hnil';have HO2:Hid (w'.ownsRow W.heap.size 2 1 v' (xs.length+ys.length) ((xs++ys).flatMap Ae)):=by show World.ownsRow _ _ _ _ _ _ _;simpa using hown'
      have HB2:Hid (Below W.heap.size W w'):=I8 HB.out HO.out lR hgrow';clear hown' hgrow' hnil';go_wp2
      go_roundw
      case rel=>exact⟨.inr (.inr ⟨rfl,HO2⟩),HB2⟩
      case measure=>simp[intOf]
    ·go_wp2
     go_ret
     exact⟨_,rfl,HO.out,HB.out⟩
theorem Fe(v:VF)(f:MF)(w:World)(hs:f.small)(h:CP w v f)(k1:Cb v.p)(k2:Cb v.l):
 Calls Tryz.prog 96 #[.agg #[v.p,.int .i64 f.result,v.l,v.c]] w fun e w'=>∃r,e=.returned r/\w'.ownsRow w.heap.size 2 1 r (f.params.length+f.locals.length) ((f.params++f.locals).flatMap Ae)/\Below w.heap.size w w':=by
 have H:=h4 hs h k1 k2;obtain⟨a1,c1,e1⟩:=h.1.is_slice;obtain⟨a2,c2,e2⟩:=h.2.1.is_slice;obtain⟨vp,vl,vc⟩:=v;simp only[]at e1 e2;subst e1 e2;clear hs h k1 k2;go_enter Tryz.func96,Tryz.ntmps96;go_wp2_with fail
 have B0:Below w.heap.size w ((w.alloc (.cells #[.slice a1 f.params.length c1,.int .i64 f.result,.slice a2 f.locals.length c2,vc] 131)).alloc (.cells #[.slice a1 f.params.length c1,.slice a2 f.locals.length c2] 113)):=Ab (Aa _ _) lR (Aa _ _);have C0:=OY (w.alloc (.cells #[.slice a1 f.params.length c1,.int .i64 f.result,.slice a2 f.locals.length c2,vc] 131)) (.slice a1 f.params.length c1) (.slice a2 f.locals.length c2) 113;have hsz:(w.alloc (.cells #[.slice a1 f.params.length c1,.int .i64 f.result,.slice a2 f.locals.length c2,vc] 131)).heap.size=w.heap.size+1:=by simp
 rw[hsz]at C0;refine(Kv (w.heap.size+1) (.slice a1 f.params.length c1) (.slice a2 f.locals.length c2) f.params f.locals _ H.out.1.1 H.out.1.2.1 (H.out.2.1.1.keep B0 lR) (H.out.2.1.2.1.keep B0 lR) H.out.2.2.1 H.out.2.2.2 C0.1 C0.2).mono ?_;rintro e u ⟨r,rfl,own,bl⟩;have HO:=h2 (AK own B0.size) (Ab B0 lR bl);clear own bl B0 C0 hsz;go_wp2
 go_ret
 exact⟨_,rfl,HO.out.1,HO.out.2⟩
theorem IF(v:VP)(p:MP)(w:World)(hs:p.small)(h:Cx w v p)(hfp:DQ w v.f p.funcs):
 Calls Tryz.prog 131 #[.agg #[v.r,v.k,v.f,v.t]] w fun e w'=>Ar e (Bi p)/\Below w.heap.size w w':=by
 obtain⟨vr,vk,vf,vt⟩:=v
 have H1:Hid (Rd w 4 vt p.certs.length (p.certs.flatMap MT.cells)/\p.small/\Cx w ⟨vr,vk,vf,vt⟩ p/\DQ w vf p.funcs):=⟨h.certs,hs,h,hfp⟩
 have hn:=hs.certs
 obtain⟨a1,c1,e1⟩:∃a c,vt=.slice a p.certs.length c:=h.certs.is_slice
 subst e1
 clear h hs hfp
 have HI:Hid _:=GD.of w vr vk vf (.slice a1 p.certs.length c1) 45
 generalize hcs:p.certs.length=n at*
 have HL:Hid (p.certs.length=n):=hcs
 clear hcs
 by_cases q0:64<n
 ·have HN:Hid (¬Bi p):=fun e=>absurd e.1 (by rw[HL.out];omega)
  have q0':(64:Int)<(n:Int):=by omega
  clear H1
  go_enter Tryz.func131,Tryz.ntmps131
  go_wp2
  go_ret
  exact⟨.no HN.out,HI.out.bel⟩
 have q0':¬(64:Int)<(n:Int):=by omega
 go_enter Tryz.func131,Tryz.ntmps131
 go_wp2
 go_loopw [12] (fun i wr=>∃k:Nat,k<=n/\i=.int .i64 k/\Hid (∀j,j<k->Ej p p.certs j)/\Hid (GD w wr vr vk vf (.slice a1 n c1))) (fun i _=>n-(intOf i).toNat)
 case atStart=>exact⟨0,by omega,rfl,fun j hj=>by omega,HI⟩
 case round=>
  clear HI
  obtain⟨k,hk,rfl,HT,HI⟩:=hrel
  by_cases hlt:k<n
  ·obtain⟨x,hx⟩:∃x,p.certs[k]?=some x:=⟨_,gE (by rw[HL.out];exact hlt)⟩
   rcases H1.out.1.2 with⟨e0,_⟩|⟨b,o,c,e1,hc1⟩
   ·omega
   simp only[sJ,true_and]at e1
   obtain⟨rfl,rfl⟩:=e1
   have i0:=Rd.elem MT.cells_length hc1 k x hx 0 _ rfl
   have i1:=Rd.elem MT.cells_length hc1 k x hx 1 _ rfl
   have i2:=Rd.elem MT.cells_length hc1 k x hx 2 _ rfl
   have i3:=Rd.elem MT.cells_length hc1 k x hx 3 _ rfl
   rw[<-HI.out.bel.cell (bL i0),Nat.add_zero]at i0
   rw[<-HI.out.bel.cell (bL i1)]at i1
   rw[<-HI.out.bel.cell (bL i2)]at i2
   rw[<-HI.out.bel.cell (bL i3)]at i3
   have HX:Hid (p.certs[k]?=some x):=hx
   have HC:Hid (∀j u,(p.certs.flatMap MT.cells)[j]?=some u->w.cell? ⟨b,o+j,none⟩=some u):=hc1
   clear hc1 hx
   obtain⟨fu,hd,co,ini⟩:=x
   simp only[]at i0 i1 i2 i3
   have nb:¬b=wr.heap.size:=Nat.ne_of_lt (bL i0)
   have mb:b<wr.heap.size:=bL i0
   have HW0:Hid (Below w.heap.size w (wr.alloc (.cells #[.int .i64 fu,.int .i64 hd,.int .i64 co,.int .u32 ini] 148))/\CY (wr.alloc (.cells #[.int .i64 fu,.int .i64 hd,.int .i64 co,.int .u32 ini] 148)) w.heap.size vr vk vf (.slice (some ⟨b,o,none⟩) n c1)/\CY (wr.alloc (.cells #[.int .i64 fu,.int .i64 hd,.int .i64 co,.int .u32 ini] 148)) wr.heap.size (.int .i64 fu) (.int .i64 hd) (.int .i64 co) (.int .u32 ini)):=⟨Ab HI.out.bel lR (Aa _ _),HI.out.prog.alloc _,CY.new _ _ _ _ _ _⟩
   go_wp2_with fail
   generalize wr.alloc (.cells #[.int .i64 fu,.int .i64 hd,.int .i64 co,.int .u32 ini] 148)=W1 at HW0⊢
   have HW:Hid (Below w.heap.size w W1/\CY W1 w.heap.size vr vk vf (.slice (some ⟨b,o,none⟩) n c1)/\CY W1 wr.heap.size (.int .i64 fu) (.int .i64 hd) (.int .i64 co) (.int .u32 ini)):=HW0
   clear HW0 i0 i1 i2 i3 nb mb HI q0'
   obtain⟨p0,p1,p2,p3⟩:=HW.out.2.1
   obtain⟨r0,r1,r2,r3⟩:=HW.out.2.2
   have inst:=Aj.some W1
   have P0:=fun n:Aj W1=>Aj.cell p0 n
   have P1:=fun n:Aj W1=>Aj.cell p1 n
   have P2:=fun n:Aj W1=>Aj.cell p2 n
   have P3:=fun n:Aj W1=>Aj.cell p3 n
   have R0:=fun n:Aj W1=>Aj.cell r0 n
   have R1:=fun n:Aj W1=>Aj.cell r1 n
   have R2:=fun n:Aj W1=>Aj.cell r2 n
   have R3:=fun n:Aj W1=>Aj.cell r3 n
   by_cases hok:DO p ⟨fu,hd,co,ini⟩
   ·have HOK:Hid (DO p ⟨fu,hd,co,ini⟩):=hok
    clear hok
    by_cases q5:k=0
    ·subst q5
     have HA:Hid (Ej p p.certs 0):=fun c hc=>by
      rw[HX.out]at hc
      obtain rfl:=Option.some.inj hc
      exact⟨HOK.out,fun i d hi=>by omega⟩
     refine Am (by kernel_rfl) (by kernel_rfl) ?_
     repeat(go_big_quiet_step ((first|(go_at_call 188;rename_i n';exact(DE ⟨vr,vk,vf,.slice (some ⟨b,o,none⟩) n c1⟩ p fu hd co ini n'.u H1.out.2.1 (H1.out.2.2.1.keep (Ab HW.out.1 lR n'.h) lR) (H1.out.2.2.2.keep (Ab HW.out.1 lR n'.h) lR)).mono fun e w'' h=>⟨h.1.true HOK.out,⟨⟨w'',Ab n'.h lR h.2⟩,rfl⟩⟩))))
     refine wpQuiet_nil ?_
     rintro w'' ⟨n',rfl⟩
     have HI2:Hid (GD w n'.u vr vk vf (.slice (some ⟨b,o,none⟩) n c1)):=⟨Ab HW.out.1 lR n'.h,HW.out.2.1.keep n'.h⟩
     go_wp2
     go_roundw
     case rel=>exact⟨1,by omega,by go_num,Ee HA.out HT.out,HI2⟩
     case measure=>simp[intOf];omega
    ·obtain⟨i,rfl⟩:∃i,k=i+1:=⟨k-1,by omega⟩
     obtain⟨d,hd'⟩:∃d,p.certs[i]?=some d:=⟨_,gE (by rw[HL.out];omega)⟩
     have y0:=Rd.elem MT.cells_length HC.out i d hd' 0 _ rfl
     have y1:=Rd.elem MT.cells_length HC.out i d hd' 1 _ rfl
     have y2:=Rd.elem MT.cells_length HC.out i d hd' 2 _ rfl
     have y3:=Rd.elem MT.cells_length HC.out i d hd' 3 _ rfl
     rw[<-HW.out.1.cell (bL y0),Nat.add_zero]at y0
     rw[<-HW.out.1.cell (bL y1)]at y1
     rw[<-HW.out.1.cell (bL y2)]at y2
     rw[<-HW.out.1.cell (bL y3)]at y3
     obtain⟨dfu,dhd,dco,dini⟩:=d
     simp only[]at y0 y1 y2 y3
     have HD:Hid (p.certs[i]?=some ⟨dfu,dhd,dco,dini⟩):=hd'
     clear hd'
     have Y0:=fun n:Aj W1=>Aj.cell y0 n
     have Y1:=fun n:Aj W1=>Aj.cell y1 n
     have Y2:=fun n:Aj W1=>Aj.cell y2 n
     have Y3:=fun n:Aj W1=>Aj.cell y3 n
     have hki:((i+1:Nat):Int)-1=(i:Int):=by omega
     have hkp:(0:Int)<((i+1:Nat):Int):=by omega
     by_cases hri:Ga ⟨dfu,dhd,dco,dini⟩ ⟨fu,hd,co,ini⟩
     ·have HRI:Hid (Ga ⟨dfu,dhd,dco,dini⟩ ⟨fu,hd,co,ini⟩):=hri
      have HA:Hid (Ej p p.certs (i+1)):=fun c hc=>by
       rw[HX.out]at hc
       obtain rfl:=Option.some.inj hc
       refine⟨HOK.out,fun i' d' hi hd'=> ?_⟩
       obtain rfl:i'=i:=by omega
       rw[HD.out]at hd'
       obtain rfl:=Option.some.inj hd'
       exact hri
      clear hri
      refine Am (by kernel_rfl) (by kernel_rfl) ?_
      repeat(go_big_quiet_step ((first|(go_at_call 188;rename_i n';exact(DE ⟨vr,vk,vf,.slice (some ⟨b,o,none⟩) n c1⟩ p fu hd co ini n'.u H1.out.2.1 (H1.out.2.2.1.keep (Ab HW.out.1 lR n'.h) lR) (H1.out.2.2.2.keep (Ab HW.out.1 lR n'.h) lR)).mono fun e w'' h=>⟨h.1.true HOK.out,⟨⟨w'',Ab n'.h lR h.2⟩,rfl⟩⟩)|(go_at_call 189;rename_i n';exact(I9 ⟨dfu,dhd,dco,dini⟩ ⟨fu,hd,co,ini⟩ n'.u).mono fun e w'' h=>⟨h.1.true HRI.out,⟨⟨w'',Ab n'.h lR h.2⟩,rfl⟩⟩))))
      refine wpQuiet_nil ?_
      rintro w'' ⟨n',rfl⟩
      have HI2:Hid (GD w n'.u vr vk vf (.slice (some ⟨b,o,none⟩) n c1)):=⟨Ab HW.out.1 lR n'.h,HW.out.2.1.keep n'.h⟩
      go_wp2
      go_roundw
      case rel=>exact⟨i+1+1,by omega,by go_num,Ee HA.out HT.out,HI2⟩
      case measure=>simp[intOf];omega
     ·have HRI:Hid (¬Ga ⟨dfu,dhd,dco,dini⟩ ⟨fu,hd,co,ini⟩):=hri
      clear hri
      have HN:Hid (¬Bi p):=fun e=>by
       exact HRI.out ((e.2 (i+1) (by rw[HL.out];exact hlt) _ HX.out).2 i _ rfl HD.out)
      refine Am (by kernel_rfl) (by kernel_rfl) ?_
      repeat(go_big_quiet_step ((first|(go_at_call 188;rename_i n';exact(DE ⟨vr,vk,vf,.slice (some ⟨b,o,none⟩) n c1⟩ p fu hd co ini n'.u H1.out.2.1 (H1.out.2.2.1.keep (Ab HW.out.1 lR n'.h) lR) (H1.out.2.2.2.keep (Ab HW.out.1 lR n'.h) lR)).mono fun e w'' h=>⟨h.1.true HOK.out,⟨⟨w'',Ab n'.h lR h.2⟩,rfl⟩⟩)|(go_at_call 189;rename_i n';exact(I9 ⟨dfu,dhd,dco,dini⟩ ⟨fu,hd,co,ini⟩ n'.u).mono fun e w'' h=>⟨h.1.false HRI.out,⟨⟨w'',Ab n'.h lR h.2⟩,rfl⟩⟩))))
      refine wpQuiet_nil ?_
      rintro w'' ⟨n',rfl⟩
      have HI2:Hid (GD w n'.u vr vk vf (.slice (some ⟨b,o,none⟩) n c1)):=⟨Ab HW.out.1 lR n'.h,HW.out.2.1.keep n'.h⟩
      go_wp2
      go_ret
      exact⟨.no HN.out,HI2.out.bel⟩
   ·have HOK:Hid (¬DO p ⟨fu,hd,co,ini⟩):=hok
    clear hok
    have HN:Hid (¬Bi p):=fun e=>by
     exact HOK.out (e.2 k (by rw[HL.out];exact hlt) _ HX.out).1
    refine Am (by kernel_rfl) (by kernel_rfl) ?_
    repeat(go_big_quiet_step ((first|(go_at_call 188;rename_i n';exact(DE ⟨vr,vk,vf,.slice (some ⟨b,o,none⟩) n c1⟩ p fu hd co ini n'.u H1.out.2.1 (H1.out.2.2.1.keep (Ab HW.out.1 lR n'.h) lR) (H1.out.2.2.2.keep (Ab HW.out.1 lR n'.h) lR)).mono fun e w'' h=>⟨h.1.false HOK.out,⟨⟨w'',Ab n'.h lR h.2⟩,rfl⟩⟩))))
    refine wpQuiet_nil ?_
    rintro w'' ⟨n',rfl⟩
    have HI2:Hid (GD w n'.u vr vk vf (.slice (some ⟨b,o,none⟩) n c1)):=⟨Ab HW.out.1 lR n'.h,HW.out.2.1.keep n'.h⟩
    go_wp2
    go_ret
    exact⟨.no HN.out,HI2.out.bel⟩
  ·have hkn:n=k:=by omega
   subst hkn
   have HY:Hid (Bi p):=⟨by rw[HL.out];omega,by rw[HL.out];exact HT.out⟩
   go_wp2
   go_ret
   exact⟨.yes HY.out,HI.out.bel⟩
theorem BQ.last3{w u:World}{v:VP}{vm:VM}{s1 s2 s3:Value}{c1 c2 c3:List MC}(h:En w u v vm)(ho:∀r∈[(s1,c1),(s2,c2),(s3,c3)],u.ownsRow w.heap.size 128 2 r.1 r.2.length (r.2.flatMap MC.cells)):Hid (∃X y,X=(u.heap.size+1)/\BQ w ((u.alloc (.cells #[s1,s2,s3] 36)).alloc (.cells #[.int .i64 0,.bool false,.int .i64 0,.int .i64 0,.slice (some ⟨u.heap.size,0,none⟩) 3 3,.slice none 0 0,.slice none 0 0] 39)) v vm [(s1,c1),(s2,c2),(s3,c3)] X y (.slice none 0 0)):=by
 have k:=BQ.last (L:=[(s1,c1),(s2,c2),(s3,c3)]) h ho;simp only[List.map_cons,List.map_nil]at k;exact⟨_,_,rfl,k⟩
theorem BQ.first3{w u:World}{v:VP}{vm:VM}{s1 s2 s3:Value}{c1 c2 c3:List MC}(h:En w u v vm)(ho:∀r∈[(s1,c1),(s2,c2),(s3,c3)],u.ownsRow w.heap.size 128 2 r.1 r.2.length (r.2.flatMap MC.cells)):Hid (∃X y,X=u.heap.size/\BQ w ((u.alloc (.cells #[.int .i64 0,.bool false,.int .i64 0,.int .i64 0,.slice (some ⟨u.heap.size+1,0,none⟩) 3 3,.slice none 0 0,.slice none 0 0] 39)).alloc (.cells #[s1,s2,s3] 36)) v vm [(s1,c1),(s2,c2),(s3,c3)] X y (.slice none 0 0)):=by
 have k:=BQ.first (L:=[(s1,c1),(s2,c2),(s3,c3)]) h ho;simp only[List.map_cons,List.map_nil]at k;exact⟨_,_,rfl,k⟩
theorem BQ.early3{w u:World}{v:VP}{vm:VM}{s1 s2 s3:Value}{c1 c2 c3:List MC}{x:Nat}(h:En w u v vm)(ho:∀r∈[(s1,c1),(s2,c2),(s3,c3)],u.ownsRow w.heap.size 128 2 r.1 r.2.length (r.2.flatMap MC.cells))(hb:Ap u x #[.int .i64 0,.bool false,.int .i64 0,.int .i64 0,.slice none 0 0,.slice none 0 0,.slice none 0 0] 39)(hx:w.heap.size+1+1<x):Hid (∃X y,X=x/\BQ w ((((((((u.setCell ⟨x,0,none⟩ (.int .i64 0)).setCell ⟨x,1,none⟩ (.bool false)).setCell ⟨x,2,none⟩ (.int .i64 0)).setCell ⟨x,3,none⟩ (.int .i64 0)).setCell ⟨x,4,none⟩ (.slice (some ⟨u.heap.size,0,none⟩) 3 3)).setCell ⟨x,5,none⟩ (.slice none 0 0)).setCell ⟨x,6,none⟩ (.slice none 0 0)).alloc (.cells #[s1,s2,s3] 36)) v vm [(s1,c1),(s2,c2),(s3,c3)] X y (.slice none 0 0)):=by
 have k:=BQ.early (L:=[(s1,c1),(s2,c2),(s3,c3)]) h ho hb hx;simp only[List.map_cons,List.map_nil]at k;exact⟨_,_,rfl,k⟩
structure Oe(w:World)(vf:Value)(p:MP)(g o c n:Nat)(f:MF)(z:VF):Prop where
 rows:vf=.slice (some ⟨g,o,none⟩) n c
 pos:0<n
 big:n<=1048576
 eq:∃fs,p.funcs=f::fs
 i0:w.cell? ⟨g,o,none⟩=some z.p
 i1:w.cell? ⟨g,o+1,none⟩=some (.int .i64 f.result)
 i2:w.cell? ⟨g,o+2,none⟩=some z.l
 i3:w.cell? ⟨g,o+3,none⟩=some z.c
 rd:CP w z f
 pp:Cb z.p
 pl:Cb z.l
 small:f.small
 none:f.params=[]
theorem Oe.of{w:World}{vf:Value}{p:MP}(h:DQ w vf p.funcs)(hs:p.small)(hf:AY p.funcs):∃g o c n f z,Oe w vf p g o c n f z:=by
 obtain⟨ys,hys,hrd,hel⟩:=h;obtain⟨hn0,hn1,hn2,hn3⟩:=hf;cases hp:p.funcs with
 |nil=>exact absurd (by rw[hp];rfl) hn0
 | cons f fs=>
   cases ys with
   |nil=>rw[hp]at hys;cases hys
   | cons a ys=>
     obtain⟨f',z⟩:=a;rw[hp]at hys;simp only[List.map_cons,List.cons.injEq]at hys;obtain⟨rfl,hys⟩:=hys;rcases hrd.2 with⟨e0,_⟩|⟨g,o,c,e1,hc⟩
     . exact absurd e0 hn0
     have k0:=Rd.elem Ai hc 0 _ rfl 0 _ rfl;have k1:=Rd.elem Ai hc 0 _ rfl 1 _ rfl;have k2:=Rd.elem Ai hc 0 _ rfl 2 _ rfl;have k3:=Rd.elem Ai hc 0 _ rfl 3 _ rfl;simp only[Nat.zero_mul,Nat.add_zero]at k0 k1 k2 k3;have hm:=hel (f',z) (by simp);exact⟨g,o,c,p.funcs.length,f',z,e1,Nat.pos_of_ne_zero hn0,by omega,⟨fs,hp⟩,k0,k1,k2,k3,hm.1,hm.2.1,hm.2.2,hs.func f' (by rw[hp];simp),List.eq_nil_of_length_eq_zero (hn3 f' (by rw[hp];rfl)).1⟩
theorem Oe.keep{w u:World}{vf:Value}{p:MP}{g o c n:Nat}{f:MF}{z:VF}(h:Oe w vf p g o c n f z)(hb:Below w.heap.size w u):Oe u vf p g o c n f z:=
 ⟨h.rows,h.pos,h.big,h.eq,BI hb h.i0,BI hb h.i1,BI hb h.i2,BI hb h.i3,h.rd.keep hb (Nat.le_refl _),h.pp,h.pl,h.small,h.none⟩
theorem DA{u:World}{B b k n:Nat}{e:TypeId}{v:Value}{xs:List Value}{cur:Array Value}(ho:u.ownsRow B e k v n xs)(hb:Ap u b cur 39)(hne:e≠39)(i:Nat)(z:Value):(u.setCell ⟨b,i,none⟩ z).ownsRow B e k v n xs:=
 ownsRow_setCell_other ho (a:=⟨b,i,none⟩) (fun e=>AJ ho hb hne _ e rfl) z
theorem Nr{u:World}{B y n:Nat}{e:TypeId}{xs:List Value}(h:Ap u y xs.toArray e)(hB:B<=y)(hn:xs.length=n)(hm:n<=1048576):u.ownsRow B e 1 (.slice (some ⟨y,0,none⟩) n n) n xs:=
 ⟨by omega,.inr ⟨y,n,xs.toArray,rfl,hB,h,Nat.le_refl _,by unfold maxLen;omega,by simp[hn],by simp[<-hn]⟩⟩
theorem BQ.keep{w u u':World}{v:VP}{vm:VM}{L:List (Value×List MC)}{x y:Nat}{fr:Value}(h:BQ w u v vm L x y fr)(hb:Below u.heap.size u u'):BQ w u' v vm L x y fr:=
 ⟨h.args.keep hb,h.st.keep hb,h.ar.keep hb,fun r hr=>Ag (h.own r hr) hb (Nat.le_refl _),h.xge,h.yge⟩
theorem Nn{u:World}{x y:Nat}{a b:Array Value}{s t:TypeId}(h:Ap u x a s)(h':Ap u y b t)(hne:s≠t):y≠x:=fun e=>by
 subst e;unfold Ap at h h';rw[h]at h';simp only[Option.some.injEq,Obj.cells.injEq]at h';exact hne h'.2.1
theorem BQ.setfr{w u:World}{v:VP}{vm:VM}{L:List (Value×List MC)}{x y:Nat}{fr:Value}(h:BQ w u v vm L x y fr)(F:Value):BQ w (u.setCell ⟨x,6,none⟩ F) v vm L x y F:=
 ⟨h.args.set h.xge 6 F,h.st.set 6 F,h.ar.other (a:=⟨x,6,none⟩) (Nn h.st h.ar (by decide)) F,DG h.own h.st 6 F,h.xge,h.yge⟩
theorem Df.setSt{u:World}{B b:Nat}{L:List (Value×List MC)}{cur:Array Value}(h:Df u B L)(hb:Ap u b cur 39)(i:Nat)(z:Value):Df (u.setCell ⟨b,i,none⟩ z) B L:=⟨fun x hx=>DA (h.own x hx) hb (by decide) i z,h.sep⟩
theorem Ah.setSt{u:World}{B b:Nat}{v:VS}{C:List (Value×List MC)}{K:List MC}{F:List (MG×Value)}{cur:Array Value}(h:Ah u B v C K F)(hb:Ap u b cur 39)(i:Nat)(z:Value):Ah (u.setCell ⟨b,i,none⟩ z) B v C K F:=
 ⟨DA h.cells hb (by decide) i z,DA h.frames hb (by decide) i z,h.fam.setSt hb i z⟩
structure BR(w U:World)(v:VP)(vm:VM)(L:List (Value×List MC))(x y:Nat)(fr zl:Value)(zs:List MC):Prop where
 q:BQ w U v vm L x y fr
 frow:U.ownsRow w.heap.size 123 4 fr 1 [.int .i64 0,.int .i64 0,.int .i64 0,zl]
 zrow:U.ownsRow w.heap.size 128 2 zl zs.length (zs.flatMap MC.cells)
def Nl(n:Int):Value:=if n=0 then .nilIface else .iface 201 (.int .i64 n)
def CT(e:Ending)(p:MP):Prop:=∃n,e=.returned (Nl n)/\A4 p n
theorem CT.f1{p:MP}(h:¬AB p.regions):CT (.returned (.iface 201 (.int .i64 1))) p:=⟨1,rfl,.inl ⟨rfl,h⟩⟩
theorem CT.f2{p:MP}(h1:AB p.regions)(h:¬AV p.consts):CT (.returned (.iface 201 (.int .i64 2))) p:=⟨2,rfl,.inr (.inl ⟨rfl,h1,h⟩)⟩
theorem CT.f3{p:MP}(h1:AB p.regions/\AV p.consts)(h:¬AY p.funcs):CT (.returned (.iface 201 (.int .i64 3))) p:=⟨3,rfl,.inr (.inr (.inl ⟨rfl,h1.1,h1.2,h⟩))⟩
theorem CT.f4{p:MP}(h1:AB p.regions/\AV p.consts)(h2:AY p.funcs)(h:¬Ct p):CT (.returned (.iface 201 (.int .i64 4))) p:=⟨4,rfl,.inr (.inr (.inr (.inl ⟨rfl,h1.1,h1.2,h2,h⟩)))⟩
theorem CT.f5{p:MP}(h1:AB p.regions/\AV p.consts)(h2:AY p.funcs)(h3:Ct p)(h:¬Bi p):CT (.returned (.iface 201 (.int .i64 5))) p:=⟨5,rfl,.inr (.inr (.inr (.inr (.inl ⟨rfl,h1.1,h1.2,h2,h3,h⟩))))⟩
theorem CT.f0{p:MP}(h1:AB p.regions/\AV p.consts)(h2:AY p.funcs)(h3:Ct p)(h:Bi p):CT (.returned .nilIface) p:=⟨0,rfl,.inr (.inr (.inr (.inr (.inr ⟨rfl,h1.1,h1.2,h2,h3,h⟩))))⟩
theorem GL(v:VP)(p:MP)(w:World)(hs:p.small)(hw:p.wf)(h:Cx w v p)(hcap:EH w v.r p.regions)(hfp:DQ w v.f p.funcs):
 Calls Tryz.prog 89 #[.agg #[v.r,v.k,v.f,v.t]] w fun e w'=>CT e p/\Below w.heap.size w w':=by
 have H:=h5 hs hw h hcap hfp;clear hs hw h hcap hfp;have HI:Hid _:=GD.of w v.r v.k v.f v.t 45;go_enter Tryz.func89,Tryz.ntmps89;go_wp2_with fail
 refine(Ha v.r p.regions _ H.out.1.regions H.out.1.region (H.out.2.2.1.regions.keep HI.out.bel lR)).mono ?_;rintro e u1 ⟨⟨b1,rfl,hb1⟩,rfl⟩;cases b1
 ·have HN:Hid (¬AB p.regions):=fun e=>by simp[e]at hb1
  clear hb1;go_wp2
  go_ret
  exact⟨.f1 HN.out,HI.out.bel⟩
 have HR:Hid (AB p.regions):=hb1.1 rfl;clear hb1;go_wp2_with fail
 refine(H5 v.k p.consts _ H.out.1.consts (fun c hc=>(GM (H.out.2.1.consts c hc).2).1) (H.out.2.2.1.consts.keep HI.out.bel lR)).mono ?_;rintro e u2 ⟨⟨b2,rfl,hb2⟩,bl2⟩;have HI2:=AS (HI.out.keep bl2);clear bl2;cases b2
 ·have HN:Hid (¬AV p.consts):=fun e=>by simp[e]at hb2
  clear hb2;go_wp2
  go_ret
  exact⟨.f2 HR.out HN.out,HI2.out.bel⟩
 have HRC:=h2 HR.out (hb2.1 rfl);clear hb2;obtain⟨p0,p1,p2,p3⟩:=HI2.out.prog;go_wp2_with fail
 refine(IU v.f p.funcs _ H.out.1.funcs H.out.1.func (H.out.2.2.1.funcs.keep HI2.out.bel lR)).mono ?_;rintro e u3 ⟨⟨b3,rfl,hb3⟩,bl3⟩;have HI3:=AS (HI2.out.keep bl3);clear bl3 p0 p1 p2 p3;cases b3
 ·have HN:Hid (¬AY p.funcs):=fun e=>by simp[e]at hb3
  clear hb3;go_wp2
  go_ret
  exact⟨.f3 HRC.out HN.out,HI3.out.bel⟩
 have HFo:Hid (AY p.funcs):=hb3.1 rfl;clear hb3;obtain⟨p0,p1,p2,p3⟩:=HI3.out.prog;go_wp2_with fail
 refine(IV v p _ H.out.1 H.out.2.1 HRC.out.1 HFo.out (H.out.2.2.1.keep HI3.out.bel lR) (H.out.2.2.2.1.keep HI3.out.bel lR)).mono ?_;rintro e u4 ⟨⟨b4,rfl,hb4⟩,bl4⟩;have HI4:=AS (HI3.out.keep bl4);clear bl4 p0 p1 p2 p3;cases b4
 ·have HN:Hid (¬Ct p):=fun e=>by simp[e]at hb4
  clear hb4;go_wp2
  go_ret
  exact⟨.f4 HRC.out HFo.out HN.out,HI4.out.bel⟩
 have HCo:Hid (Ct p):=hb4.1 rfl;clear hb4;obtain⟨p0,p1,p2,p3⟩:=HI4.out.prog;go_wp2_with fail
 refine(IF v p _ H.out.1 (H.out.2.2.1.keep HI4.out.bel lR) (H.out.2.2.2.2.keep HI4.out.bel lR)).mono ?_;rintro e u5 ⟨⟨b5,rfl,hb5⟩,bl5⟩;have HI5:Hid (Below w.heap.size w u5):=Ab HI4.out.bel lR bl5;clear bl5 p0 p1 p2 p3;cases b5
 ·have HN:Hid (¬Bi p):=fun e=>by simp[e]at hb5
  clear hb5;go_wp2
  go_ret
  exact⟨.f5 HRC.out HFo.out HCo.out HN.out,HI5.out⟩
 ·have HY:Hid (Bi p):=hb5.1 rfl
  clear hb5;go_wp2
  go_ret
  exact⟨.f0 HRC.out HFo.out HCo.out HY.out,HI5.out⟩
theorem NV{w:World}{base:Nat}{e:TypeId}{s:Value}{k n:Nat}{xs:List Value}(h:w.ownsRow base e k s n xs):∃a c,s=.slice a n c/\n<=c:=by
 rcases h.2 with⟨rfl,rfl⟩|⟨g,cap,cur,rfl,_,_,hc,_⟩
 ·exact⟨_,_,rfl,Nat.le_refl _⟩
 ·exact⟨_,_,rfl,hc⟩
theorem Hh{w:World}{base:Nat}{e:TypeId}{s:Value}{k n:Nat}{xs:List Value}(h:w.ownsRow base e k s n xs):Cb s:=by
 rcases h.2 with⟨rfl,rfl⟩|⟨g,cap,cur,rfl,_⟩
 ·exact .inl rfl
 ·exact .inr ⟨_,_,_,rfl⟩
theorem Fm.rdc{w:World}{base:Nat}{s:Value}{rs:List (List Int)}(h:Fm w base s rs):EH w s rs:=by
 obtain⟨xs,h1,h2,h3⟩:=h;exact⟨xs,h1,Rd.of_own h2,fun x hx=>⟨Rd.of_own (h3 x hx),NV (h3 x hx)⟩⟩
theorem DK.rdp{w:World}{base:Nat}{s:Value}{fs:List MF}(h:DK w base s fs):DQ w s fs:=by
 obtain⟨xs,h1,h2,h3⟩:=h;exact⟨xs,h1,Rd.of_own h2,fun x hx=>⟨(h3 x hx).rd,Hh (h3 x hx).1,Hh (h3 x hx).2.1⟩⟩
set_option maxHeartbeats 1000000 in
theorem G7(a1 a2 a3:Option Addr)(n1 n2 n3 c1 c2 c3:Nat)(w:World):
 Calls Tryz.prog 114 #[.agg #[.slice a1 n1 c1,.slice a2 n2 c2,.slice a3 n3 c3]] w fun e w'=>e=.returned (.agg #[.slice a1 n1 c1,.slice a2 n2 c2,.slice a3 n3 c3])/\Below w.heap.size w w':=by
 go_enter Tryz.func114,Tryz.ntmps114;go_wp2
 exact bodyPost_ret (v:=.agg #[.slice a1 n1 c1,.slice a2 n2 c2,.slice a3 n3 c3]) (by simp[results,Tryz.results114,go_sem]) rfl ⟨rfl,((Below.refl _ _).alloc (Nat.le_refl _) _).alloc (by simp) _⟩
theorem Bd.values{p:MP}(hr:AB p.regions){r:List Int}(hm:r∈p.regions)(ws:List Int)(hl:ws.length=r.length):Bd ws r↔EO ws r:=by
 have hT:∀t∈r,CE t=true:=by
  obtain⟨j,hj,rfl⟩:=List.getElem_of_mem hm;have:=(hr.2 j hj _ (gE hj)).2;exact fun t ht=>List.all_eq_true.1 this t ht
 constructor
 . intro h j hj x hx t ht
   exact⟨hT t (mG ht),fun e=>h.2 j hj x hx (by rw[ht];simp only[]at e;rw[e])⟩
 . intro h
   exact⟨hl,fun j hj x hx ht=>(h j hj x hx 1 ht).2 rfl⟩
theorem EP(a1 a2 a3:Option Addr)(n1 n2 n3 c1 c2 c3:Nat)(w:World):
 (Instr.index 187 (.agg #[.slice a1 n1 c1,.slice a2 n2 c2,.slice a3 n3 c3]) (.int .i64 0)).run Tryz.prog w=.ok (.slice a1 n1 c1) w/\(Instr.index 187 (.agg #[.slice a1 n1 c1,.slice a2 n2 c2,.slice a3 n3 c3]) (.int .i64 1)).run Tryz.prog w=.ok (.slice a2 n2 c2) w/\(Instr.index 187 (.agg #[.slice a1 n1 c1,.slice a2 n2 c2,.slice a3 n3 c3]) (.int .i64 2)).run Tryz.prog w=.ok (.slice a3 n3 c3) w:=by
 have z:=Tryz.sizeOf53;have ag:=Tryz.isAgg53;refine⟨?_,?_,?_⟩<;>simp[Instr.index,run_underlying Tryz.underlying187,asIntOf,z,ag,go_sem]
set_option maxHeartbeats 4000000 in
set_option maxRecDepth 100000 in
theorem IY(v:VP)(p:MP)(vm:VM)(m:MM)(w:World)(hs:p.small)(hw:p.wf)(h:Cx w v p)(hcap:EH w v.r p.regions)(hfp:DQ w v.f p.funcs)(ms:m.small)(mw:m.wf)(hm:Fs w vm m):
 Calls Tryz.prog 112 #[.agg #[v.r,v.k,v.f,v.t],.agg #[vm.i,vm.o,vm.k]] w fun e w'=>Ar e (Bp p m)/\Below w.heap.size w w':=by
 have H:Hid (p.small/\p.wf/\Cx w v p/\m.small/\Fs w vm m/\EH w v.r p.regions/\DQ w v.f p.funcs/\m.wf):=⟨hs,hw,h,ms,hm,hcap,hfp,mw⟩
 obtain⟨am,cm,em⟩:=hm.ins.is_slice;obtain⟨ao,co,eo⟩:=hm.outs.is_slice;obtain⟨ak,ck,ek⟩:=hm.keeps.is_slice;obtain⟨vi,vo,vkk⟩:=vm;simp only[]at em eo ek;subst em eo ek
 have HI:Hid (GD w ((w.alloc (.cells #[v.r,v.k,v.f,v.t] 45)).alloc (.cells #[.slice am m.ins.length cm,.slice ao m.outs.length co,.slice ak m.keeps.length ck] 58)) v.r v.k v.f v.t/\He ((w.alloc (.cells #[v.r,v.k,v.f,v.t] 45)).alloc (.cells #[.slice am m.ins.length cm,.slice ao m.outs.length co,.slice ak m.keeps.length ck] 58)) (w.heap.size+1) (.slice am m.ins.length cm) (.slice ao m.outs.length co) (.slice ak m.keeps.length ck)):=by
  refine⟨(GD.of w v.r v.k v.f v.t _).keep (Aa _ _),?_⟩;have:=He.new (w.alloc (.cells #[v.r,v.k,v.f,v.t] 45)) (.slice am m.ins.length cm) (.slice ao m.outs.length co) (.slice ak m.keeps.length ck) 58;simpa using this
 clear hs hw h ms hm hcap hfp mw;go_enter Tryz.func112,Tryz.ntmps112;go_wp2_with fail
 refine(GL v p _ H.out.1 H.out.2.1 (H.out.2.2.1.keep HI.out.1.bel (Nat.le_refl _)) (H.out.2.2.2.2.2.1.keep HI.out.1.bel (Nat.le_refl _)) (H.out.2.2.2.2.2.2.1.keep HI.out.1.bel (Nat.le_refl _))).mono ?_;rintro e u ⟨⟨n,rfl,hn⟩,bl⟩;have HJ:Hid (GD w u v.r v.k v.f v.t/\He u (w.heap.size+1) (.slice am m.ins.length cm) (.slice ao m.outs.length co) (.slice ak m.keeps.length ck)):=⟨HI.out.1.keep bl,HI.out.2.keep bl⟩
 clear bl HI;by_cases q0:n=0
 . subst q0
   have HF:Hid (A4 p 0):=hn;clear hn;obtain⟨p0,p1,p2,p3⟩:=HJ.out.1.prog;obtain⟨m0,m1,m2⟩:=HJ.out.2;rw[show Nl 0=.nilIface from rfl];go_wp2_with fail
   refine(G7 am ao ak m.ins.length m.outs.length m.keeps.length cm co ck _).mono ?_;rintro e u' ⟨rfl,bl⟩;have HK:Hid (Below w.heap.size w u'/\CY u' w.heap.size v.r v.k v.f v.t):=⟨Ab HJ.out.1.bel (Nat.le_refl _) bl,HJ.out.1.prog.keep bl⟩
   clear bl HJ m0 m1 m2 p0 p1 p2 p3;obtain⟨g,o,c,r0,r1,r2,y0,y1,y2,hR⟩:=JT.of (H.out.2.2.1.keep HK.out.1 (Nat.le_refl _)) HF.out.ok.1.1;have HR:Hid (JT u' v.r p g o c r0 r1 r2 y0 y1 y2):=hR;have HV:Hid (Bp p m↔m.ins.length=r0.length/\Bd m.outs r1/\Bd m.keeps r2):=Bp.iff HF.out hR.eq
   have HS:Hid (r0.length<=1048576/\r1.length<=1048576/\r2.length<=1048576):=by
    have:=H.out.1.region;rw[hR.eq]at this;exact⟨this r0 (by simp),this r1 (by simp),this r2 (by simp)⟩
   have HM:Hid (m.small/\Fs w ⟨.slice am m.ins.length cm,.slice ao m.outs.length co,.slice ak m.keeps.length ck⟩ m):=⟨H.out.2.2.2.1,H.out.2.2.2.2.1⟩
   have HW:Hid m.wf:=H.out.2.2.2.2.2.2.2;obtain⟨b0,d0,e0⟩:=HR.out.k0.is_slice;obtain⟨b1,d1,e1⟩:=HR.out.k1.is_slice;obtain⟨b2,d2,e2⟩:=HR.out.k2.is_slice;have hrows:=hR.rows;obtain⟨vr,vk,vf,vt⟩:=v;simp only[]at hrows;subst hrows;subst e0 e1 e2;clear hR H;have x0:∀w,(Instr.index 187 (.agg #[.slice am m.ins.length cm,.slice ao m.outs.length co,.slice ak m.keeps.length ck]) (.int .i64 0)).run Tryz.prog w=.ok (.slice am m.ins.length cm) w:=fun w=>(EP am ao ak m.ins.length m.outs.length m.keeps.length cm co ck w).1
   have x1:∀w,(Instr.index 187 (.agg #[.slice am m.ins.length cm,.slice ao m.outs.length co,.slice ak m.keeps.length ck]) (.int .i64 1)).run Tryz.prog w=.ok (.slice ao m.outs.length co) w:=fun w=>(EP am ao ak m.ins.length m.outs.length m.keeps.length cm co ck w).2.1
   have x2:∀w,(Instr.index 187 (.agg #[.slice am m.ins.length cm,.slice ao m.outs.length co,.slice ak m.keeps.length ck]) (.int .i64 2)).run Tryz.prog w=.ok (.slice ak m.keeps.length ck) w:=fun w=>(EP am ao ak m.ins.length m.outs.length m.keeps.length cm co ck w).2.2
   go_wp2
   go_loopw [13] (fun i wr=>∃k:Nat,k<=3/\i=.int .i64 k/\Hid ((0<k->m.ins.length=r0.length)/\(1<k->Bd m.outs r1)/\(2<k->Bd m.keeps r2))/\Hid (Below u'.heap.size u' wr/\CY wr w.heap.size (.slice (some ⟨g,o,none⟩) 3 c) vk vf vt)) (fun i _=>3-(intOf i).toNat)
   case atStart=>exact⟨0,by omega,rfl,⟨fun e=>absurd e (by omega),fun e=>absurd e (by omega),fun e=>absurd e (by omega)⟩,⟨Below.refl _ _,HK.out.2⟩⟩
   case round=>
    obtain⟨k,hk,rfl,HT,HI⟩:=hrel;obtain⟨p0,p1,p2,p3⟩:=HI.out.2;have i0:=HR.out.i0;have i1:=HR.out.i1;have i2:=HR.out.i2;rw[<-HI.out.1.cell (bL i0)]at i0;rw[<-HI.out.1.cell (bL i1)]at i1;rw[<-HI.out.1.cell (bL i2)]at i2;obtain rfl|rfl|rfl|rfl:k=0\/k=1\/k=2\/k=3:=by omega
    . rw[show((0:Nat):Int)=0 from rfl]
      have hl1:=HS.out.1;have hl2:=HM.out.1.ins;by_cases q1:m.ins.length=r0.length
      . have q1':(m.ins.length:Int)=(r0.length:Int):=by omega
        have HQ:Hid (m.ins.length=r0.length):=q1;clear q1;go_wp2
        go_roundw
        case rel=>exact⟨1,by omega,by go_num,⟨fun _=>HQ.out,fun e=>absurd e (by omega),fun e=>absurd e (by omega)⟩,HI⟩
        case measure=>simp[intOf]
      . have q1':¬(m.ins.length:Int)=(r0.length:Int):=by omega
        have HN:Hid (¬Bp p m):=fun e=>q1 (HV.out.1 e).1
        clear q1;go_wp2
        go_ret
        exact⟨.no HN.out,Ab HK.out.1 (Nat.le_refl _) HI.out.1⟩
    . rw [show((1:Nat):Int)=1 from rfl]
      have hl1:=HS.out.2.1;have hl2:=HM.out.1.outs;by_cases q1:m.outs.length=r1.length
      . have q1':(m.outs.length:Int)=(r1.length:Int):=by omega
        have HQ:Hid (m.outs.length=r1.length):=q1;clear q1;go_wp2_with fail
        refine(FV (.slice b1 r1.length d1) (.slice ao m.outs.length co) m.outs r1 _ HM.out.1.outs (fun z hz=>(GM (HW.out.outs z hz)).1) HQ.out.symm (HM.out.2.outs.keep (Ab HK.out.1 (Nat.le_refl _) HI.out.1) (Nat.le_refl _)) (HR.out.k1.keep HI.out.1 (Nat.le_refl _))).mono ?_;rintro e u2 ⟨⟨bb,rfl,hbb⟩,bl2⟩;rw[<-Bd.values HF.out.ok.1 (by rw[HR.out.eq];simp) _ HQ.out]at hbb;have HI2:Hid (Below u'.heap.size u' u2/\CY u2 w.heap.size (.slice (some ⟨g,o,none⟩) 3 c) vk vf vt):=⟨Ab HI.out.1 (Nat.le_refl _) bl2,HI.out.2.keep bl2⟩
        clear bl2 i0 i1 i2 p0 p1 p2 p3;cases bb
        . have HN:Hid (¬Bp p m):=fun e=>absurd (hbb.2 (HV.out.1 e).2.1) Bool.false_ne_true
          clear hbb;go_wp2
          go_ret
          exact⟨.no HN.out,Ab HK.out.1 (Nat.le_refl _) HI2.out.1⟩
        . have HG:Hid (Bd m.outs r1):=hbb.1 rfl
          clear hbb;go_wp2
          go_roundw
          case rel=>exact⟨2,by omega,by go_num,⟨fun _=>HT.out.1 (by omega),fun _=>HG.out,fun e=>absurd e (by omega)⟩,HI2⟩
          case measure=>simp[intOf]
      . have q1':¬(m.outs.length:Int)=(r1.length:Int):=by omega
        have HN:Hid (¬Bp p m):=fun e=>q1 (HV.out.1 e).2.1.1
        clear q1;go_wp2
        go_ret
        exact⟨.no HN.out,Ab HK.out.1 (Nat.le_refl _) HI.out.1⟩
    . rw [show((2:Nat):Int)=2 from rfl]
      have hl1:=HS.out.2.2;have hl2:=HM.out.1.keeps;by_cases q1:m.keeps.length=r2.length
      . have q1':(m.keeps.length:Int)=(r2.length:Int):=by omega
        have HQ:Hid (m.keeps.length=r2.length):=q1;clear q1;go_wp2_with fail
        refine(FV (.slice b2 r2.length d2) (.slice ak m.keeps.length ck) m.keeps r2 _ HM.out.1.keeps (fun z hz=>(GM (HW.out.keeps z hz)).1) HQ.out.symm (HM.out.2.keeps.keep (Ab HK.out.1 (Nat.le_refl _) HI.out.1) (Nat.le_refl _)) (HR.out.k2.keep HI.out.1 (Nat.le_refl _))).mono ?_;rintro e u2 ⟨⟨bb,rfl,hbb⟩,bl2⟩;rw[<-Bd.values HF.out.ok.1 (by rw[HR.out.eq];simp) _ HQ.out]at hbb;have HI2:Hid (Below u'.heap.size u' u2/\CY u2 w.heap.size (.slice (some ⟨g,o,none⟩) 3 c) vk vf vt):=⟨Ab HI.out.1 (Nat.le_refl _) bl2,HI.out.2.keep bl2⟩
        clear bl2 i0 i1 i2 p0 p1 p2 p3;cases bb
        . have HN:Hid (¬Bp p m):=fun e=>absurd (hbb.2 (HV.out.1 e).2.2) Bool.false_ne_true
          clear hbb;go_wp2
          go_ret
          exact⟨.no HN.out,Ab HK.out.1 (Nat.le_refl _) HI2.out.1⟩
        . have HG:Hid (Bd m.keeps r2):=hbb.1 rfl
          clear hbb;go_wp2
          go_roundw
          case rel=>exact⟨3,by omega,by go_num,⟨fun _=>HT.out.1 (by omega),fun _=>HT.out.2.1 (by omega),fun _=>HG.out⟩,HI2⟩
          case measure=>simp[intOf]
      . have q1':¬(m.keeps.length:Int)=(r2.length:Int):=by omega
        have HN:Hid (¬Bp p m):=fun e=>q1 (HV.out.1 e).2.2.1
        clear q1;go_wp2
        go_ret
        exact⟨.no HN.out,Ab HK.out.1 (Nat.le_refl _) HI.out.1⟩
    . have HY:Hid (Bp p m):=HV.out.2 ⟨HT.out.1 (by omega),HT.out.2.1 (by omega),HT.out.2.2 (by omega)⟩
      go_wp2
      go_ret
      exact⟨.yes HY.out,Ab HK.out.1 (Nat.le_refl _) HI.out.1⟩
 . have HN:Hid (¬Bp p m):=fun e=>q0 (A4.one hn e.1)
   rw[show Nl n=.iface 201 (.int .i64 n)from if_neg q0];clear hn q0;go_wp2
   go_ret
   exact⟨.no HN.out,HJ.out.1.bel⟩
theorem Gm{P:Program}{ops:Array Oper}{rest:List Oper}{o:Oper}{a:Act}{w:World}{Q:Exit->Act->World->Prop}(hgd:o.guard=none)(ty:TypeId)(x y:Operand)(ho:o.op=.store ty x y)
 (g off:Nat) (cells:Array Value) (hx:a.eval x=.pointer (some ⟨g,off,none⟩)) (hy:a.eval y=.agg cells)
 (t:TypeId) (cur:Array Value) (hg:w.heap[g]?=some (.cells cur t (0,0))) (hi:(P.info? ty).map (·.size)=some cells.size)
 (hfit:off+cells.size<=cur.size) (h1:cells.all (·.oneCell')=true)
 (h:wpList P ops Q rest (a.put o.dst undef) (w.setRow g (cur.toList.take off++cells.toList++cur.toList.drop (off+cells.size)).toArray)):wpList P ops Q (o::rest) a w:=
 wpList_plain hgd fun K hK=>by
  have hst:(storeVar ty ⟨g,off,none⟩ (.agg cells)).run P w=.ok () (w.setRow g (cur.toList.take off++cells.toList++cur.toList.drop (off+cells.size)).toArray):=by
   have:=run_storeCells_at P g off t cells.toList 0 cur w hg (by simpa using hfit) (fun v hv=>(Array.all_eq_true_iff_forall_mem.1 h1) v (by simpa using hv));cases hq:P.info? ty with
   |none=>simp[hq]at hi
   |some i=>
    have hs:cells.size=i.size:=by simp[hq]at hi;omega
    simp[storeVar,sizeOf,typeInfo,hq,Value.cells,hs]at this⊢;exact this
  unfold Oper.wp execOp;simp only[ho,hx,hy,Instr.storeAt,Instr.sureAddr,Sem.run_bind,Sem.run_pure,Result.andThen_ok,hst];exact hK _ _ h
def Ch(v:VP)(r:MF×(VF×Value)):List Value:=[v.r,v.k,v.f,v.t,r.2.1.p,.int .i64 r.1.result,r.2.1.l,r.2.1.c,r.2.2]
theorem Bw(v:VP)(r:MF×(VF×Value)):(Ch v r).length=9:=rfl
def BA(u:World)(A B:Nat)(v:VP)(fs:List MF)(hv:Value)(H:List (MF×(VF×Value))):Prop:=H.map Prod.fst=fs/\u.ownsRow A 167 9 hv H.length (H.flatMap (Ch v))/\∀r∈H,(∀u',Below B u u'->CP u' r.2.1 r.1)/\u.ownsRow A 2 1 r.2.2 (r.1.params.length+r.1.locals.length) ((r.1.params++r.1.locals).flatMap Ae)
def El(u:World)(B:Nat)(v:VP)(p:MP)(hv:Value):Prop:=∃H,BA u B B v p.funcs hv H
theorem BA.keep{u u':World}{A B:Nat}{v:VP}{fs:List MF}{hv:Value}{H:List (MF×(VF×Value))}(h:BA u A B v fs hv H)(hB:B<=u.heap.size)(hb:Below u.heap.size u u'):BA u' A B v fs hv H:=by
 obtain⟨h1,h2,h3⟩:=h;exact⟨h1,Ag h2 hb lR,fun r hr=>⟨fun u2 hu2=>(h3 r hr).1 u2 ((hb.mono hB).trans hu2),Ag (h3 r hr).2 hb lR⟩⟩
theorem BA.far{u:World}{A B M:Nat}{v:VP}{fs:List MF}{hv:Value}{H:List (MF×(VF×Value))}(h:BA u A B v fs hv H){cur:Array Value}(hm:Ap u M cur 94)(hM:B<=M)(i:Nat)(z:Value):BA (u.setCell ⟨M,i,none⟩ z) A B v fs hv H:=by
 obtain⟨h1,h2,h3⟩:=h;exact⟨h1,Ms h2 hm (by decide),fun r hr=>⟨fun u2 hu2=>(h3 r hr).1 u2 (((Below.refl B u).setCell hM z).trans hu2),Ms (h3 r hr).2 hm (by decide)⟩⟩
theorem BA.push{u u6 u8:World}{A B:Nat}{v:VP}{fs:List MF}{hv b:Value}{H:List (MF×(VF×Value))}(h:BA u A B v fs hv H)(hA:B<=A)(hB:B<=u.heap.size)(hb:Below u.heap.size u u6){x:MF×(VF×Value)}(hx:∀u',Below B u u'->CP u' x.2.1 x.1)(hl:u6.ownsRow A 2 1 x.2.2 (x.1.params.length+x.1.locals.length) ((x.1.params++x.1.locals).flatMap Ae))(hg:u6.grownBy u8 hv.ownBlock)(ho:u8.ownsRow A 167 9 b (H.length+1) (H.flatMap (Ch v)++Ch v x)):BA u8 A B v (fs++[x.1]) b (H++[x]):=by
 obtain⟨h1,h2,h3⟩:=h.keep hB hb;have hB6:B<=u6.heap.size:=Nat.le_trans hB hb.size;have b8:Below B u6 u8:=(Below.refl B u6).grown hg hB6 (fun k hk=>Nat.le_trans hA (h2.lt k hk).1)
 have ap:∀{s:Value} {n:Nat} {xs:List Value},u6.ownsRow A 2 1 s n xs->u8.ownsRow A 2 1 s n xs:=fun{s n xs} hs=>Bn hs hg (fun g hgs e=>by
  rcases h2.2 with⟨e1,_⟩|⟨g1,cap,cur,e1,_,hg1,_⟩
  ·rw[e1]at e;cases e
  ·rw[e1]at e
   simp only[Value.ownBlock,Option.some.injEq]at e;subst e;exact AJ hs hg1 (by decide) g hgs rfl)
 refine⟨by rw[List.map_append,h1];rfl,?_,fun r hr=> ?_⟩
 ·rw[List.length_append,List.flatMap_append]
  simpa using ho
 ·simp only[List.mem_append,List.mem_singleton]at hr
  rcases hr with hr|rfl
  ·exact⟨fun u2 hu2=>(h3 r hr).1 u2 (b8.trans hu2),ap (h3 r hr).2⟩
  ·exact⟨fun u2 hu2=>hx u2 (((hb.mono hB).trans b8).trans hu2),ap hl⟩
theorem BA.base{u:World}{A A' B:Nat}{v:VP}{fs:List MF}{hv:Value}{H:List (MF×(VF×Value))}(h:BA u A B v fs hv H)(hA:A'<=A):BA u A' B v fs hv H:=⟨h.1,AK h.2.1 hA,fun r hr=>⟨(h.2.2 r hr).1,AK (h.2.2 r hr).2 hA⟩⟩
theorem BA.row{u:World}{A B M:Nat}{v:VP}{fs:List MF}{hv:Value}{H:List (MF×(VF×Value))}(h:BA u A B v fs hv H){cur:Array Value}(hm:Ap u M cur 94)(hM:B<=M)(cs:Array Value):BA (u.setRow M cs) A B v fs hv H:=by
 obtain⟨h1,h2,h3⟩:=h
 have key:∀{e:TypeId} {k n:Nat} {s:Value} {xs:List Value},u.ownsRow A e k s n xs->e≠94->(u.setRow M cs).ownsRow A e k s n xs:=fun{e k n s xs} ho hne=>by
  refine⟨ho.1,?_⟩;rcases ho.2 with h4|⟨g,cap,cu,e1,hb1,hg,hr⟩
  ·exact .inl h4
  ·refine .inr ⟨g,cap,cu,e1,hb1,?_,hr⟩
   rw[setRow_other u M g cs (fun e=>AJ ho hm hne g (by rw[e1];rfl) e)];exact hg
 exact⟨h1,key h2 (by decide),fun r hr=>⟨fun u2 hu2=>(h3 r hr).1 u2 ((below_setRow (Below.refl B u) hM cs).trans hu2),key (h3 r hr).2 (by decide)⟩⟩
structure Nj(cur:Array Value)(t:Int)(d:Bool)(c n:Int)(X:VS)(hv:Value):Prop where
 c0:cur[0]?=some (.int .i64 t)
 c1:cur[1]?=some (.bool d)
 c2:cur[2]?=some (.int .i64 c)
 c3:cur[3]?=some (.int .i64 n)
 c4:cur[4]?=some X.c
 c5:cur[5]?=some X.k
 c6:cur[6]?=some X.f
 c7:cur[7]?=some hv
 rows:∀k v,BF[k]?=some v->cur[8+k]?=some v
 size:cur.size=158
def Bu(t:Int)(d:Bool)(c n:Int)(X:VS):Array Value:=#[.int .i64 t,.bool d,.int .i64 c,.int .i64 n,X.c,X.k,X.f,.slice none 0 0]++BF++GC
theorem Gj:BF.size=120:=by kernel_rfl
theorem Iw:GC.size=30:=by kernel_rfl
theorem FO(M:Nat):(BM M).size=30:=by kernel_rfl
theorem Nj.start(t:Int)(d:Bool)(c n:Int)(X:VS):Nj (Bu t d c n X) t d c n X (.slice none 0 0):=by
 have h0:=Gj;have h1:=Iw;refine⟨?_,?_,?_,?_,?_,?_,?_,?_,fun k v hk=> ?_,by simp[Bu,h0,h1]⟩;all_goals try(unfold Bu;rw[Array.append_assoc,Array.getElem?_append_left (by simp)];rfl)
 have hlt:k<120:=by
  have:=(Array.getElem?_eq_some_iff.1 hk).1;omega
 unfold Bu;rw[Array.append_assoc,Array.getElem?_append_right (by simp),Array.getElem?_append_left (by simp;omega)];simpa using hk
theorem Nj.setH{cur:Array Value}{t:Int}{d:Bool}{c n:Int}{X:VS}{hv:Value}(h:Nj cur t d c n X hv)(z:Value):Nj (cur.setIfInBounds 7 z) t d c n X z:=by
 have hs:=h.size
 have ne:∀{j:Nat} {v:Value},7≠j->cur[j]?=some v->(cur.setIfInBounds 7 z)[j]?=some v:=fun{j v} hj h=>by
  rw[Array.getElem?_setIfInBounds_ne hj];exact h
 exact⟨ne (by omega) h.c0,ne (by omega) h.c1,ne (by omega) h.c2,ne (by omega) h.c3,ne (by omega) h.c4,ne (by omega) h.c5,ne (by omega) h.c6,by simp[hs],fun k v hk=>ne (by omega) (h.rows k v hk),by simp[hs]⟩
theorem Nj.acts{cur:Array Value}{t:Int}{d:Bool}{c n:Int}{X:VS}{hv:Value}(h:Nj cur t d c n X hv)(M:Nat):Nj (cur.toList.take 128++(BM M).toList++cur.toList.drop (128+(BM M).size)).toArray t d c n X hv/\∀k,k<30->((cur.toList.take 128++(BM M).toList++cur.toList.drop (128+(BM M).size)).toArray)[128+k]?=(BM M)[k]?:=by
 have hs:=h.size;have ha:=FO M
 have lo:∀{j:Nat} {v:Value},j<128->cur[j]?=some v->((cur.toList.take 128++(BM M).toList++cur.toList.drop (128+(BM M).size)).toArray)[j]?=some v:=fun{j v} hj h=>by
  rw[gA,List.append_assoc,List.getElem?_append_left (by simp;omega),List.getElem?_take_of_lt hj];simpa using h
 refine⟨⟨lo (by omega) h.c0,lo (by omega) h.c1,lo (by omega) h.c2,lo (by omega) h.c3,lo (by omega) h.c4,lo (by omega) h.c5,lo (by omega) h.c6,lo (by omega) h.c7,fun k v hk=>lo (by
  have:=(Array.getElem?_eq_some_iff.1 hk).1;rw[Gj]at this;omega) (h.rows k v hk),by simp[ha,hs]⟩,fun k hk=> ?_⟩
 have hl:(cur.toList.take 128).length=128:=by rw[List.length_take,Array.length_toList,hs];rfl
 rw[gA,List.append_assoc,List.getElem?_append_right (by omega),hl,Nat.add_sub_cancel_left,List.getElem?_append_left (by rw[Array.length_toList,ha];exact hk)];simp
end Go.Proofs.YtlejplpkomddeaaGreat
