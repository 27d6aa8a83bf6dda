import Derived.Test.YtlejplpkomddeaaGreatG0
import Derived.Test.YtlejplpkomddeaaGreatG5
import Derived.Test.YtlejplpkomddeaaGreatG13
import Derived.Test.YtlejplpkomddeaaGreatG10
import Derived.Deep.RegionHeld3
import Derived.Deep.RegionLaw
import Derived.Deep.AppendLies
import Derived.Test.YtlejplpkomddeaaGreatG12
import Derived.Test.YtlejplpkomddeaaGreatG9
import Derived.Test.YtlejplpkomddeaaGreatG1
namespace Go.Proofs.YtlejplpkomddeaaGreat
open Go.ChangeShapes Go.WideShapes Go.ChangeAt Go.RowKit
set_option linter.unusedVariables false
set_option maxHeartbeats 8000000
set_option maxRecDepth 100000
structure LC(w u:World)(s:MS)(v V:VS)(C:List (Value×List MC))(K:List MC)(F:List (MG×Value)):Prop where
 sb:Aq u w.heap.size #[.int .i64 s.trap,.bool s.done,.int .i64 s.cost,.int .i64 s.steps,v.c,v.k,v.f] 39
 rb:Aq u (w.heap.size+1) #[.int .i64 0,.bool false,.int .i64 0,.int .i64 0,.slice none 0 0,.slice none 0 0,.slice none 0 0] 39
 ob:Aq u (w.heap.size+1+1) #[.int .i64 s.trap,.bool s.done,.int .i64 s.cost,.int .i64 s.steps,V.c,V.k,V.f] 39
 own:Aj u w.heap.size V C K F
 bel:Below w.heap.size w u
theorem LC.keep{w u u':World}{s:MS}{v V:VS}{C:List (Value×List MC)}{K:List MC}{F:List (MG×Value)}(h:LC w u s v V C K F)(hb:Below u.heap.size u u'):LC w u' s v V C K F:=⟨h.sb.keep hb,h.rb.keep hb,h.ob.keep hb,h.own.grow hb,Ac h.bel lR hb⟩
structure Hx(w u:World)(s:MS)(v V:VS):Prop where
 sb:Aq u w.heap.size #[.int .i64 s.trap,.bool s.done,.int .i64 s.cost,.int .i64 s.steps,v.c,v.k,v.f] 39
 rb:Aq u (w.heap.size+1) #[.int .i64 0,.bool false,.int .i64 0,.int .i64 0,.slice none 0 0,.slice none 0 0,.slice none 0 0] 39
 ob:Aq u (w.heap.size+1+1) #[.int .i64 s.trap,.bool s.done,.int .i64 s.cost,.int .i64 s.steps,V.c,V.k,V.f] 39
 bel:Below w.heap.size w u
theorem Hx.keep{w u u':World}{s:MS}{v V:VS}(h:Hx w u s v V)(hb:Below u.heap.size u u'):Hx w u' s v V:=⟨h.sb.keep hb,h.rb.keep hb,h.ob.keep hb,Ac h.bel lR hb⟩
theorem LC.blks{w u:World}{s:MS}{v V:VS}{C:List (Value×List MC)}{K:List MC}{F:List (MG×Value)}(h:LC w u s v V C K F):Hx w u s v V:=⟨h.sb,h.rb,h.ob,h.bel⟩
theorem Hx.of(w:World)(s:MS)(v:VS):Hx w (((w.alloc (.cells #[.int .i64 s.trap,.bool s.done,.int .i64 s.cost,.int .i64 s.steps,v.c,v.k,v.f] 39)).alloc (.cells #[.int .i64 0,.bool false,.int .i64 0,.int .i64 0,.slice none 0 0,.slice none 0 0,.slice none 0 0] 39)).alloc (.cells #[.int .i64 s.trap,.bool s.done,.int .i64 s.cost,.int .i64 s.steps,v.c,v.k,v.f] 39)) s v v:=by
 have b1:=Aa w (.cells #[.int .i64 s.trap,.bool s.done,.int .i64 s.cost,.int .i64 s.steps,v.c,v.k,v.f] 39);have k1:=Aq.new w #[.int .i64 s.trap,.bool s.done,.int .i64 s.cost,.int .i64 s.steps,v.c,v.k,v.f] 39;generalize hU1:w.alloc (.cells #[.int .i64 s.trap,.bool s.done,.int .i64 s.cost,.int .i64 s.steps,v.c,v.k,v.f] 39)=U1 at b1 k1⊢;have z1:U1.heap.size=w.heap.size+1:=by rw[<-hU1];simp
 have b2:=Aa U1 (.cells #[.int .i64 0,.bool false,.int .i64 0,.int .i64 0,.slice none 0 0,.slice none 0 0,.slice none 0 0] 39);have k2:=Aq.new U1 #[.int .i64 0,.bool false,.int .i64 0,.int .i64 0,.slice none 0 0,.slice none 0 0,.slice none 0 0] 39;generalize hU2:U1.alloc (.cells #[.int .i64 0,.bool false,.int .i64 0,.int .i64 0,.slice none 0 0,.slice none 0 0,.slice none 0 0] 39)=U2 at b2 k2⊢;have z2:U2.heap.size=w.heap.size+1+1:=by rw[<-hU2];simp[z1]
 have b3:=Aa U2 (.cells #[.int .i64 s.trap,.bool s.done,.int .i64 s.cost,.int .i64 s.steps,v.c,v.k,v.f] 39);have k3:=Aq.new U2 #[.int .i64 s.trap,.bool s.done,.int .i64 s.cost,.int .i64 s.steps,v.c,v.k,v.f] 39;rw[z1]at k2;rw[z2]at k3;exact⟨(k1.keep b2).keep b3,k2.keep b3,k3,Ac (Ac b1 lR b2) lR b3⟩
theorem Hx.set{w u:World}{s:MS}{v V:VS}(h:Hx w u s v V)(i:Nat)(x:Value):Aq (u.setCell ⟨w.heap.size+1+1,i,none⟩ x) w.heap.size #[.int .i64 s.trap,.bool s.done,.int .i64 s.cost,.int .i64 s.steps,v.c,v.k,v.f] 39/\Aq (u.setCell ⟨w.heap.size+1+1,i,none⟩ x) (w.heap.size+1) #[.int .i64 0,.bool false,.int .i64 0,.int .i64 0,.slice none 0 0,.slice none 0 0,.slice none 0 0] 39/\Below w.heap.size w (u.setCell ⟨w.heap.size+1+1,i,none⟩ x):=
 ⟨h.sb.other (by simp only[];omega) _,h.rb.other (by simp only[];omega) _,h.bel.setCell (by simp only[];omega) _⟩
theorem Hx.setC{w u:World}{s:MS}{v V:VS}(h:Hx w u s v V)(x:Value):Hx w (u.setCell ⟨w.heap.size+1+1,4,none⟩ x) s v {V with c:=x}:=⟨(h.set 4 x).1,(h.set 4 x).2.1,h.ob.set 4 x,(h.set 4 x).2.2⟩
theorem Hx.setK{w u:World}{s:MS}{v V:VS}(h:Hx w u s v V)(x:Value):Hx w (u.setCell ⟨w.heap.size+1+1,5,none⟩ x) s v {V with k:=x}:=⟨(h.set 5 x).1,(h.set 5 x).2.1,h.ob.set 5 x,(h.set 5 x).2.2⟩
theorem Hx.setF{w u:World}{s:MS}{v V:VS}(h:Hx w u s v V)(x:Value):Hx w (u.setCell ⟨w.heap.size+1+1,6,none⟩ x) s v {V with f:=x}:=⟨(h.set 6 x).1,(h.set 6 x).2.1,h.ob.set 6 x,(h.set 6 x).2.2⟩
theorem Hx.grown{w u u':World}{s:MS}{v V:VS}(h:Hx w u s v V){e:TypeId}{k n:Nat}{r:Value}{xs:List Value}(hg:u.grownBy u' r.ownBlock)(ho:u.ownsRow w.heap.size e k r n xs)(hne:39≠e):Hx w u' s v V:=
 ⟨h.sb.grown hg ho hne,h.rb.grown hg ho hne,h.ob.grown hg ho hne,h.bel.grown hg h.bel.size (fun j hj=>(ho.lt j hj).1)⟩
theorem Ob(u:World)(x:Value)(t:TypeId):∀j y,[x][j]?=some y->(u.alloc (.cells #[x] t)).cell? ((⟨u.heap.size,0,none⟩:Addr).add j)=some y:=fun j y hj=>by
 rw[CB,Nat.zero_add,cell_of_row _ _ _ _ _ _ (Cr u #[x] t)];simpa using hj
theorem LC.pushC{w wr u6 u8:World}{s:MS}{v V:VS}{C:List (Value×List MC)}{K:List MC}{F:List (MG×Value)}(h:LC w wr s v V C K F)(hb:Below wr.heap.size wr u6){x:Value×List MC}(ho:u6.ownsRow wr.heap.size 128 2 x.1 x.2.length (x.2.flatMap MC.cells)){b:Value}(hg:(u6.alloc (.cells #[x.1] 36)).grownBy u8 V.c.ownBlock)(hown:u8.ownsRow w.heap.size 36 1 b (C.length+1) (C.flatMap Bh++[x.1])):LC w (u8.setCell ⟨w.heap.size+1+1,4,none⟩ b) s v {V with c:=b} (C++[x]) K F:=by
 have b7:=Ac hb lR (Aa u6 (.cells #[x.1] 36));have h7:=h.keep b7;have hl:=Ai ho (Aa u6 (.cells #[x.1] 36)) lR;have h8:=h.own.pushC h.bel.size b7 hl hg hown;have k8:=h7.blks.grown hg h7.own.cells (by decide);have k9:=k8.setC b;exact⟨k9.sb,k9.rb,k9.ob,h8.other k8.ob (by decide) (by decide) (by decide) 4 b,k9.bel⟩
theorem LC.pushF{w wr u6 u8:World}{s:MS}{v V:VS}{C:List (Value×List MC)}{K:List MC}{F:List (MG×Value)}(h:LC w wr s v V C K F)(hb:Below wr.heap.size wr u6){x:MG×Value}(ho:u6.ownsRow wr.heap.size 128 2 x.2 x.1.locals.length (x.1.locals.flatMap MC.cells)){b:Value}(hg:u6.grownBy u8 V.f.ownBlock)(hown:u8.ownsRow w.heap.size 123 4 b (F.length+1) (F.flatMap As++As x)):LC w (u8.setCell ⟨w.heap.size+1+1,6,none⟩ b) s v {V with f:=b} C K (F++[x]):=by
 have h7:=h.keep hb;have h8:=h.own.pushF h.bel.size hb ho hg hown;have k8:=h7.blks.grown hg h7.own.frames (by decide);have k9:=k8.setF b;exact⟨k9.sb,k9.rb,k9.ob,h8.other k8.ob (by decide) (by decide) (by decide) 6 b,k9.bel⟩
theorem LC.start{w u:World}{s:MS}{v V:VS}(h:Hx w u s v V){k:Value}{K:List MC}(ho:u.ownsRow w.heap.size 128 2 k K.length (K.flatMap MC.cells)):LC w (((u.setCell ⟨w.heap.size+1+1,5,none⟩ k).setCell ⟨w.heap.size+1+1,4,none⟩ (.slice none 0 0)).setCell ⟨w.heap.size+1+1,6,none⟩ (.slice none 0 0)) s v ⟨.slice none 0 0,k,.slice none 0 0⟩ [] K []:=by
 have k1:=h.setK k;have k2:=k1.setC (.slice none 0 0);have k3:=k2.setF (.slice none 0 0);have o0:Aj u w.heap.size ⟨.slice none 0 0,k,.slice none 0 0⟩ [] K []:=⟨World.ownsRow_nil _ _ _ _,World.ownsRow_nil _ _ _ _,⟨fun r hr=>by simp[AC]at hr;subst hr;exact ho,by simp[AC]⟩⟩;exact⟨k3.sb,k3.rb,k3.ob,((o0.other h.ob (by decide) (by decide) (by decide) 5 k).other k1.ob (by decide) (by decide) (by decide) 4 _).other k2.ob (by decide) (by decide) (by decide) 6 _,k3.bel⟩
theorem L8(v:VS)(s:MS)(w:World)(hs:s.small)(h:Fc w v s):
  Calls Tryz.prog 29 #[.agg #[.int .i64 s.trap,.bool s.done,.int .i64 s.cost,.int .i64 s.steps,v.c,v.k,v.f]] w fun e w'=>∃C F V,e=.returned (.agg #[.int .i64 s.trap,.bool s.done,.int .i64 s.cost,.int .i64 s.steps,V.c,V.k,V.f])/\s=Av s.trap s.done s.cost s.steps C s.stack F/\Aj w' w.heap.size V C s.stack F/\Below w.heap.size w w':=by
 obtain⟨i0,hi,hz0,hz1,hz2⟩:=info_parts NF;obtain⟨j0,hj,hy0,hy1,hy2⟩:=info_parts Mg;have H:=h2 hs h;obtain⟨xs,hxs,hxr,hxe⟩:=h.cells;obtain⟨a1,c1,e1⟩:=hxr.is_slice;obtain⟨a2,c2,e2⟩:=h.stack.is_slice;obtain⟨ys,hys,hyr,hye⟩:=h.frames;obtain⟨a3,c3,e3⟩:=hyr.is_slice;obtain⟨vc,vk,vf⟩:=v;simp only[]at e1 e2 e3;subst e1 e2 e3;have HC:=h3 hxs hxr hxe;have HF:=h3 hys hyr hye;clear hs h hxs hxr hxe hys hyr hye;have E0:Hid _:=Hx.of w s ⟨.slice a1 s.cells.length c1,.slice a2 s.stack.length c2,.slice a3 s.frames.length c3⟩;go_enter Tryz.func29,Tryz.ntmps29;go_wp2_with fail
 refine(Cn (.slice a2 s.stack.length c2) s.stack _ H.out.1.stack (H.out.2.stack.keep E0.out.bel lR)).mono ?_;rintro e u1 ⟨ak,ck,rfl,own1,b1⟩;have E1:=h2 (E0.out.keep b1) (AA own1 E0.out.bel.size);clear own1 b1 E0;have f5:=E1.out.1.ob.frozen 5;have f4:=E1.out.1.ob.frozen 4;have f6:=E1.out.1.ob.frozen 6;have o5:=E1.out.1.ob.cell 5;have o4:=E1.out.1.ob.cell 4;have o6:=E1.out.1.ob.cell 6;simp only[gA,gZ,gS]at o4 o5 o6;have E2:Hid _:=LC.start E1.out.1 E1.out.2;go_wp2_with fail
 go_loopw [4] (fun i wr=>∃(k:Nat) (Vc:Value) (C:List (Value×List MC)),k<=s.cells.length/\i=.int .i64 k/\Hid (C.map Prod.snd=s.cells.take k/\LC w wr s ⟨.slice a1 s.cells.length c1,.slice a2 s.stack.length c2,.slice a3 s.frames.length c3⟩ ⟨Vc,.slice ak s.stack.length ck,.slice none 0 0⟩ C s.stack [])) (fun i _=>s.cells.length-(intOf i).toNat)
 case atStart=>exact⟨0,_,[],by omega,rfl,by simp,E2.out⟩
 case round=>
  clear E2 E1 f4 f5 f6 o4 o5 o6;obtain⟨k,Vc,C,hk,rfl,HI⟩:=hrel;have hlc:=H.out.1.cells;by_cases hlt:k<s.cells.length
  ·have sc:=HI.out.2.sb.cell 4
   have sc':=(HI.out.2.keep (Ad _)).sb.cell 4;have oc':=(HI.out.2.keep (Ad _)).ob.cell 4;simp only[gA,gZ,gS]at sc sc' oc';obtain⟨⟨f,y⟩,hx⟩:∃x,xs[k]?=some x:=⟨_,gE (by rw[<-List.length_map (f:=Prod.fst),HC.out.1];exact hlt)⟩;have hfx:=AO HC.out.1 hx;have hrx:=HC.out.2.2 _ (mG hx);simp only[]at hrx hfx;obtain⟨b,d,rfl⟩:∃a c,y=.slice a f.length c:=hrx.is_slice;have hfl:f.length<=1048576:=H.out.1.cell f (mG hfx)
   have hCl:C.length=k:=by
    have:=congrArg List.length HI.out.1;simp at this;omega
   rcases HC.out.2.1.2 with⟨e0,_⟩|⟨g,o,c,e1,hc1⟩
   ·omega
   simp only[sJ,true_and]at e1;obtain⟨rfl,rfl⟩:=e1;have i1:=Rd.elem Bf hc1 k _ hx 0 _ rfl;rw[<-(HI.out.2.keep (Ad _)).bel.cell (bL i1)]at i1;rw[Nat.mul_one,Nat.add_zero]at i1;simp only[]at i1;have HD:=h4 (hrx.keep HI.out.2.bel lR) hfx hCl hfl;clear hc1 hx hrx hfx hfl hCl;have hkL:(k:Int)<(s.cells.length:Int):=by omega
   go_wp2_with fail
   go_region_law (first
    |(refine step_append_lies _ rfl (.tmp 22) (.tmp 29) 35 rfl w.heap.size 36 i0 (.slice none 0 0) 1 24 Tryz.underlying35 hi hz0 hz1 hz2 rfl (by decide) Vc C.length (C.flatMap Bh) (by simp[Act.eval]) O6.out.1.own.cells ⟨u6.heap.size,0,none⟩ 1 1 [.slice a6 f.length c6] (by simp[Act.eval]) rfl (Ob _ _ _) (fun u hu=>by simp at hu;subst hu;rfl) (by omega) (by have:=HD.out.2.2.1;unfold maxLen;omega) (by have:=HD.out.2.2.1;omega) O6.out.1.bel.size _ rfl ?_;intro gg cap u8 hown hgrow hat hlt8;have HN:Hid (LC w (u8.setCell ⟨w.heap.size+1+1,4,none⟩ (.slice (some ⟨gg,0,none⟩) (C.length+1) cap)) s ⟨.slice (some ⟨g,o,none⟩) s.cells.length c1,.slice a2 s.stack.length c2,.slice a3 s.frames.length c3⟩ ⟨.slice (some ⟨gg,0,none⟩) (C.length+1) cap,.slice ak s.stack.length ck,.slice none 0 0⟩ (C++[(.slice a6 f.length c6,f)]) s.stack []):=HI.out.2.pushC B6.out.1 B6.out.2 hgrow hown;have st8:=O6.out.1.blks.ob.grown hgrow O6.out.1.own.cells (by decide);have y0:=st8.cell 4;have y1:=st8.frozen 4;simp only[gA,gZ,gS]at y0;clear hown hgrow hat hlt8 st8)
    |(go_simp;go_at_call 71;refine(Cn (.slice b f.length d) f _ HD.out.2.2.2 (HD.out.1.keep (Ad _) lR)).mono ?_;rintro e u6 ⟨a6,c6,rfl,own6,b6⟩;have B6:Hid (Below wr.heap.size wr u6/\u6.ownsRow wr.heap.size 128 2 (.slice a6 f.length c6) f.length (f.flatMap MC.cells)):=⟨Ar b6 lR,own6⟩;have O6:Hid (LC w (u6.alloc (.cells #[.slice a6 f.length c6] 36)) s ⟨.slice (some ⟨g,o,none⟩) s.cells.length c1,.slice a2 s.stack.length c2,.slice a3 s.frames.length c3⟩ ⟨Vc,.slice ak s.stack.length ck,.slice none 0 0⟩ C s.stack []/\True):=⟨HI.out.2.keep (Ac B6.out.1 lR (Aa _ _)),trivial⟩;have x0:=(HI.out.2.keep B6.out.1).ob.cell 4;have x1:=O6.out.1.ob.cell 4;simp only[gA,gZ,gS]at x0 x1;clear own6 b6))
   all_goals
    clear sc sc' oc' i1;try clear x0 x1 y0 y1
    go_wp2
    go_roundw
    case rel=>exact⟨k+1,_,_,by omega,by go_num,⟨by rw[List.map_append,HI.out.1,Dd _ k _ HD.out.2.1];rfl,HN.out⟩⟩
    case measure=>simp[intOf];omega
  ·have hkn:k=s.cells.length:=by omega
   have HCe:Hid (C.map Prod.snd=s.cells):=by
    have:=HI.out.1;rw[hkn,List.take_length]at this;exact this
   have HI2:Hid _:=HI.out.2;clear HI;have sc:=HI2.out.sb.cell 4;simp only[gA,gZ,gS]at sc;go_wp2_with fail
   clear sc;go_loopw [5] (fun i wr=>∃(k:Nat) (Vf:Value) (F:List (MG×Value)),k<=s.frames.length/\i=.int .i64 k/\Hid (F.map Prod.fst=s.frames.take k/\LC w wr s ⟨.slice a1 s.cells.length c1,.slice a2 s.stack.length c2,.slice a3 s.frames.length c3⟩ ⟨Vc,.slice ak s.stack.length ck,Vf⟩ C s.stack F)) (fun i _=>s.frames.length-(intOf i).toNat)
   case atStart=>exact⟨0,_,[],by omega,rfl,by simp,HI2.out⟩
   case round=>
    clear HI2 hkn hlt hk;obtain⟨k,Vf,F,hk,rfl,HI⟩:=hrel;have hlf:=H.out.1.frames;have sc:=HI.out.2.sb.cell 6;simp only[gA,gZ,gS]at sc;by_cases hlt:k<s.frames.length
    ·obtain⟨⟨f,y⟩,hx⟩:∃x,ys[k]?=some x:=⟨_,gE (by rw[<-List.length_map (f:=Prod.fst),HF.out.1];exact hlt)⟩
     have hfx:=AO HF.out.1 hx;have hrx:=HF.out.2.2 _ (mG hx);simp only[]at hrx hfx;unfold Ju at hrx;obtain⟨b,d,rfl⟩:∃a c,y=.slice a f.locals.length c:=hrx.is_slice;have hfl:f.locals.length<=1048576:=H.out.1.frame f (mG hfx)
     have hCl:F.length=k:=by
      have:=congrArg List.length HI.out.1;simp at this;omega
     rcases HF.out.2.1.2 with⟨e0,_⟩|⟨g,o,c,e1,hc1⟩
     ·omega
     simp only[sJ,true_and]at e1;obtain⟨rfl,rfl⟩:=e1;have i1:=Rd.elem Al hc1 k _ hx 0 _ rfl;have i2:=Rd.elem Al hc1 k _ hx 1 _ rfl;have i3:=Rd.elem Al hc1 k _ hx 2 _ rfl;have i4:=Rd.elem Al hc1 k _ hx 3 _ rfl;rw[<-HI.out.2.bel.cell (bL i1),Nat.add_zero]at i1;rw[<-HI.out.2.bel.cell (bL i2)]at i2;rw[<-HI.out.2.bel.cell (bL i3)]at i3;rw[<-HI.out.2.bel.cell (bL i4)]at i4;simp only[]at i1 i2 i3 i4;have HD:=h4 (hrx.keep HI.out.2.bel lR) hfx hCl hfl;clear hc1 hx hrx hfx hfl hCl;have hkL:(k:Int)<(s.frames.length:Int):=by omega
     go_wp2_with fail
     have hb5:=Aa wr (.cells #[.int .i64 f.func,.int .i64 f.at_,.int .i64 f.base,.slice b f.locals.length d] 123);have hk5:=Aq.new wr #[.int .i64 f.func,.int .i64 f.at_,.int .i64 f.base,.slice b f.locals.length d] 123;refine(Cn (.slice b f.locals.length d) f.locals _ HD.out.2.2.2 (HD.out.1.keep hb5 lR)).mono ?_;rintro e u6 ⟨a6,c6,rfl,own6,b6⟩;have B6:=h3 (Ac hb5 lR b6) (AA own6 hb5.size) (hk5.keep b6);clear own6 b6 hb5 hk5 sc i1 i2 i3 i4;obtain⟨w1,w2,w3,w4⟩:=B6.out.2.2.c4;have w5:=B6.out.2.2.frozen 3;have hxl:¬w.heap.size+1+1=wr.heap.size:=by have:=HI.out.2.ob.lt;omega
     have hxl':¬wr.heap.size=w.heap.size+1+1:=fun e=>hxl e.symm
     have o6:=(HI.out.2.keep B6.out.1).ob.cell 6;simp only[gA,gZ,gS]at o6;try dsimp only at w1 w2 w3 w4
     have B8:Hid (Below wr.heap.size wr ((u6.setCell ⟨wr.heap.size,3,none⟩ (.slice a6 f.locals.length c6)).alloc (.cells #[.int .i64 f.func,.int .i64 f.at_,.int .i64 f.base,.slice a6 f.locals.length c6] 123))/\((u6.setCell ⟨wr.heap.size,3,none⟩ (.slice a6 f.locals.length c6)).alloc (.cells #[.int .i64 f.func,.int .i64 f.at_,.int .i64 f.base,.slice a6 f.locals.length c6] 123)).ownsRow wr.heap.size 128 2 (.slice a6 f.locals.length c6) f.locals.length (f.locals.flatMap MC.cells)):=by
      have q1:Below wr.heap.size wr (u6.setCell ⟨wr.heap.size,3,none⟩ (.slice a6 f.locals.length c6)):=B6.out.1.setCell lR _;exact⟨Ac q1 lR (Aa _ _),Ai (ownsRow_setCell_other B6.out.2.1 (a:=⟨wr.heap.size,3,none⟩) (fun e=>AL B6.out.2.1 B6.out.2.2 (by decide) _ e rfl) _) (Aa _ _) lR⟩
     have HA:Hid (∀j y,(As (f,.slice a6 f.locals.length c6))[j]?=some y->((u6.setCell ⟨wr.heap.size,3,none⟩ (.slice a6 f.locals.length c6)).alloc (.cells #[.int .i64 f.func,.int .i64 f.at_,.int .i64 f.base,.slice a6 f.locals.length c6] 123)).cell? ((⟨u6.heap.size,0,none⟩:Addr).add j)=some y):=fun j y hj=>by
      have hbn:=Cr (u6.setCell ⟨wr.heap.size,3,none⟩ (.slice a6 f.locals.length c6)) #[.int .i64 f.func,.int .i64 f.at_,.int .i64 f.base,.slice a6 f.locals.length c6] 123;rw[World.size_setCell]at hbn;rw[CB,Nat.zero_add,cell_of_row _ _ _ _ _ _ hbn];simpa[As]using hj
     have hsz6:wr.heap.size<=u6.heap.size:=B6.out.1.size;have hszw:w.heap.size<=wr.heap.size:=HI.out.2.bel.size;go_wp2_with (at_builtin;refine wpList_append_own _ rfl _ _ 37 rfl w.heap.size 123 j0 (.agg #[.int .i64 0,.int .i64 0,.int .i64 0,.slice none 0 0]) 4 48 Tryz.underlying37 hj hy0 hy1 hy2 rfl (by decide) Vf F.length (F.flatMap As) rfl (Ai HI.out.2.own.frames B8.out.1 lR) ⟨u6.heap.size,0,none⟩ 1 1 (As (f,.slice a6 f.locals.length c6)) rfl rfl HA.out ?c1 ?c2 ?c3 ?c4 ?_)
     case c1=>intro u hu;simp[As]at hu;rcases hu with rfl|rfl|rfl|rfl<;>rfl
     case c2=>have:=HD.out.2.2.1;unfold maxLen;omega
     case c3=>have:=HD.out.2.2.1;omega
     case c4=>have:=B8.out.1.size;omega
     intro V' u9 hown hgrow hnil;obtain⟨a9,c9,rfl⟩:∃a c,V'=.slice a (F.length+1) c:=(Rd.of_own hown).is_slice;have HN:Hid _:=HI.out.2.pushF (x:=(f,.slice a6 f.locals.length c6)) B8.out.1 B8.out.2 hgrow hown;have st9:=(HI.out.2.keep B8.out.1).ob.grown hgrow (HI.out.2.keep B8.out.1).own.frames (by decide);have y0:=st9.cell 6;have y1:=st9.frozen 6;simp only[gA,gZ,gS]at y0;clear hown hgrow hnil st9 w1 w2 w3 w4 w5 o6 hxl hxl';go_wp2
     go_roundw
     case rel=>exact⟨k+1,_,_,by omega,by go_num,⟨by rw[List.map_append,HI.out.1,Dd _ k _ HD.out.2.1];rfl,HN.out⟩⟩
     case measure=>simp[intOf];omega
    ·have hkn:k=s.frames.length:=by omega
     have HE:Hid (s=Av s.trap s.done s.cost s.steps C s.stack F):=by
      show s=_;have h2:=HI.out.1;rw[hkn,List.take_length]at h2;unfold Av;rw[HCe.out,h2]
     obtain⟨aV,cV,rfl⟩:∃a c,Vc=.slice a C.length c:=An HI.out.2.own.cells;obtain⟨aW,cW,rfl⟩:∃a c,Vf=.slice a F.length c:=An HI.out.2.own.frames;obtain⟨c0',c1',c2',c3',c4',c5',c6'⟩:=HI.out.2.ob.c7;obtain⟨d0',d1',d2',d3',d4',d5',d6'⟩:=HI.out.2.rb.c7;obtain⟨z0',z1',z2',z3',z4',z5',z6'⟩:=HI.out.2.rb.z7;try dsimp only at c0' c1' c2' c3' c4' c5' c6' d0' d1' d2' d3' d4' d5' d6'
     go_wp2_with fail
     exact bodyPost_ret (results_cell_row Tryz.results29 _ _ _ 39 _ (0,0) _ rfl (HI.out.2.rb.w7 _ _ _ _ _ _ _) Tryz.underlying39 rfl (by kernel_rfl)) rfl ⟨C,F,⟨.slice aV C.length cV,.slice ak s.stack.length ck,.slice aW F.length cW⟩,rfl,HE.out,HI.out.2.own.o7 HI.out.2.rb _ _ _ _ _ _ _,KB HI.out.2.bel (by omega) _ _ _ _ _ _ _⟩
structure Cd(w u:World)(s:MS)(V:VS)(D:List (Value×List MC)):Prop where
 sb:Aq u w.heap.size #[.int .i64 s.trap,.bool s.done,.int .i64 s.cost,.int .i64 s.steps,V.c,V.k,V.f] 39
 rb:Aq u (w.heap.size+1) #[.int .i64 0,.bool false,.int .i64 0,.int .i64 0,.slice none 0 0,.slice none 0 0,.slice none 0 0] 39
 fam:Et u w.heap.size D
 bel:Below w.heap.size w u
theorem Cd.of(w:World)(s:MS)(V:VS):Cd w ((w.alloc (.cells #[.int .i64 s.trap,.bool s.done,.int .i64 s.cost,.int .i64 s.steps,V.c,V.k,V.f] 39)).alloc (.cells #[.int .i64 0,.bool false,.int .i64 0,.int .i64 0,.slice none 0 0,.slice none 0 0,.slice none 0 0] 39)) s V []:=by
 have b1:=Aa w (.cells #[.int .i64 s.trap,.bool s.done,.int .i64 s.cost,.int .i64 s.steps,V.c,V.k,V.f] 39);have k1:=Aq.new w #[.int .i64 s.trap,.bool s.done,.int .i64 s.cost,.int .i64 s.steps,V.c,V.k,V.f] 39;generalize hU1:w.alloc (.cells #[.int .i64 s.trap,.bool s.done,.int .i64 s.cost,.int .i64 s.steps,V.c,V.k,V.f] 39)=U1 at b1 k1⊢;have z1:U1.heap.size=w.heap.size+1:=by rw[<-hU1];simp
 have b2:=Aa U1 (.cells #[.int .i64 0,.bool false,.int .i64 0,.int .i64 0,.slice none 0 0,.slice none 0 0,.slice none 0 0] 39);have k2:=Aq.new U1 #[.int .i64 0,.bool false,.int .i64 0,.int .i64 0,.slice none 0 0,.slice none 0 0,.slice none 0 0] 39;rw[z1]at k2;exact⟨k1.keep b2,k2,⟨fun r hr=>by simp at hr,List.Pairwise.nil⟩,Ac b1 lR b2⟩
theorem Cd.keep{w u u':World}{s:MS}{V:VS}{D:List (Value×List MC)}(h:Cd w u s V D)(hb:Below u.heap.size u u'):Cd w u' s V D:=⟨h.sb.keep hb,h.rb.keep hb,h.fam.keep' hb,Ac h.bel lR hb⟩
theorem Cd.setC{w u:World}{s:MS}{V:VS}{D:List (Value×List MC)}(h:Cd w u s V D)(x:Value):Cd w (u.setCell ⟨w.heap.size,4,none⟩ x) s ⟨x,V.k,V.f⟩ D:=⟨h.sb.set 4 x,h.rb.other (by simp only[];omega) _,h.fam.set h.sb (by decide) _ _,h.bel.setCell lR _⟩
theorem Cd.setK{w u:World}{s:MS}{V:VS}{D:List (Value×List MC)}(h:Cd w u s V D)(x:Value):Cd w (u.setCell ⟨w.heap.size,5,none⟩ x) s ⟨V.c,x,V.f⟩ D:=⟨h.sb.set 5 x,h.rb.other (by simp only[];omega) _,h.fam.set h.sb (by decide) _ _,h.bel.setCell lR _⟩
theorem Cd.setF{w u:World}{s:MS}{V:VS}{D:List (Value×List MC)}(h:Cd w u s V D)(x:Value):Cd w (u.setCell ⟨w.heap.size,6,none⟩ x) s ⟨V.c,V.k,x⟩ D:=⟨h.sb.set 6 x,h.rb.other (by simp only[];omega) _,h.fam.set h.sb (by decide) _ _,h.bel.setCell lR _⟩
theorem Cd.add{w u u':World}{s:MS}{V:VS}{D:List (Value×List MC)}(h:Cd w u s V D)(hb:Below u.heap.size u u'){x:Value×List MC}(ho:u'.ownsRow u.heap.size 128 2 x.1 x.2.length (x.2.flatMap MC.cells)):Cd w u' s V (D++[x]):=by
 refine⟨h.sb.keep hb,h.rb.keep hb,⟨fun r hr=> ?_,?_⟩,Ac h.bel lR hb⟩
 ·simp only[List.mem_append,List.mem_singleton]at hr
  rcases hr with hr|rfl
  ·exact Ai (h.fam.own r hr) hb lR
  ·exact AA ho h.bel.size
 ·have:=Km (A:=D) (D:=[]) (x:=x) (by simpa using h.fam.sep) (fun r hr g hg e=>by
   have h1:=ho.lt g hg;have h2:=(h.fam.own r (by simpa using hr)).lt g e;omega)
  simpa using this
theorem EJ{u:World}{B b k n i:Nat}{e t:TypeId}{s x:Value}{xs:List Value}{cur:Array Value}(h:u.ownsRow B e k s n xs)(hb:Aq u b cur t)(hne:e≠t):(u.setCell ⟨b,i,none⟩ x).ownsRow B e k s n xs:=ownsRow_setCell_other h (a:=⟨b,i,none⟩) (fun e=>AL h hb hne b e rfl) _
theorem Cd.row{w u:World}{s:MS}{V:VS}{D:List (Value×List MC)}(h:Cd w u s V D){g n c k i:Nat}{e:TypeId}{ys:List Value}(ho:u.ownsRow w.heap.size e k (.slice (some ⟨g,0,none⟩) n c) n ys)(h1:e≠39)(h2:128≠e)(x:Value):Cd w (u.setCell ⟨g,i,none⟩ x) s V D:=by
 obtain⟨hg,cur,hb⟩:=Bg ho
 have n1:w.heap.size≠g:=fun e=>by
  have:=h.sb;unfold Aq at this;rw[e,hb]at this;injection this with this
  injection this with _ this _
  exact h1 this
 have n2:w.heap.size+1≠g:=fun e=>by
  have:=h.rb;unfold Aq at this;rw[e,hb]at this;injection this with this
  injection this with _ this _
  exact h1 this
 exact⟨h.sb.other (by simpa using n1) _,h.rb.other (by simpa using n2) _,h.fam.set hb h2 _ _,h.bel.setCell hg _⟩
theorem Gi{α:Type}(L M:List α)(k:Nat)(hl:L.length=k)(x:α)(hx:M[k]?=some x)(z:α):(L++M.drop k)[k]?=some x/\(L++M.drop k).set k z=(L++[z])++M.drop (k+1):=by
 have hk:=(gI.1 hx).1
 have e:M.drop k=x::M.drop (k+1):=by
  rw[List.drop_eq_getElem_cons hk];have:=(gI.1 hx).2;rw[this]
 subst hl;constructor
 ·rw[List.getElem?_append_right lR,Nat.sub_self,List.getElem?_drop]
  exact hx
 ·rw[e,List.set_append_right _ _ lR,Nat.sub_self]
  simp
theorem Gw(cs:List MC):∀u∈cs.flatMap MC.cells,u.oneCell'=true:=fun u hu=>by
 rw[List.mem_flatMap]at hu;obtain⟨c,_,hc⟩:=hu;simp[MC.cells]at hc;rcases hc with rfl|rfl<;>rfl
theorem Cd.cell{w u u':World}{s:MS}{V:VS}{C zs:List (Value×List MC)}{g n c k:Nat}(h:Cd w u s V C)(ho:u.ownsRow w.heap.size 36 1 (.slice (some ⟨g,0,none⟩) n c) n ((C++zs.drop k).flatMap Bh))(hb:Below u.heap.size u u'){x y:Value×List MC}(hx:u'.ownsRow u.heap.size 128 2 x.1 x.2.length (x.2.flatMap MC.cells))(hC:C.length=k)(hz:zs[k]?=some y):Cd w (u'.setCell ⟨g,k,none⟩ x.1) s V (C++[x])/\(u'.setCell ⟨g,k,none⟩ x.1).ownsRow w.heap.size 36 1 (.slice (some ⟨g,0,none⟩) n c) n (((C++[x])++zs.drop (k+1)).flatMap Bh):=by
 have ho':=Ai ho hb lR;have hm:=Gi C zs k hC y hz x;refine⟨(h.add hb hx).row ho' (by decide) (by decide) _,?_⟩;have hs:=(ho'.stored k x.1).1;have e:=Es Bh 1 Db (C++zs.drop k) k 0 y x x.1 hm.1 (by omega) rfl;rw[Nat.mul_one,Nat.add_zero]at e;rw[e,hm.2]at hs;exact hs
theorem Cd.frame{w u u':World}{s:MS}{V:VS}{D:List (Value×List MC)}{F ys:List (MG×Value)}{g n c k:Nat}(h:Cd w u s V (D++AC F))(ho:u.ownsRow w.heap.size 123 4 (.slice (some ⟨g,0,none⟩) n c) n ((F++ys.drop k).flatMap As))(hb:Below u.heap.size u u'){y:MG×Value}{x:Value}(hx:u'.ownsRow u.heap.size 128 2 x y.1.locals.length (y.1.locals.flatMap MC.cells))(hF:F.length=k)(hz:ys[k]?=some y):Cd w (u'.setCell ⟨g,k*4+3,none⟩ x) s V (D++AC (F++[(y.1,x)]))/\(u'.setCell ⟨g,k*4+3,none⟩ x).ownsRow w.heap.size 123 4 (.slice (some ⟨g,0,none⟩) n c) n (((F++[(y.1,x)])++ys.drop (k+1)).flatMap As):=by
 have ho':=Ai ho hb lR;have hm:=Gi F ys k hF y hz (y.1,x);have e0:D++AC (F++[(y.1,x)])=(D++AC F)++[(x,y.1.locals)]:=by simp[AC]
 rw[e0];refine⟨(h.add hb (x:=(x,y.1.locals)) hx).row ho' (by decide) (by decide) _,?_⟩;have hs:=(ho'.stored (k*4+3) x).1;have e:=Es As 4 Al (F++ys.drop k) k 3 y (y.1,x) x hm.1 (by omega) rfl;rw[e,hm.2]at hs;exact hs
def DR(p:MP)(f:MF):Prop:=∀k,k<f.code.length->∀x,f.code[k]?=some x->AR p f x
def Cs(p:MP):Prop:=∀j,j<p.funcs.length->∀f,p.funcs[j]?=some f->DR p f
def Be(p:MP)(n:Int):Prop:=
 (n=1/\¬AE p.regions)\/(n=2/\AE p.regions/\¬A3 p.consts)\/(n=3/\AE p.regions/\A3 p.consts/\¬A5 p.funcs)\/
 (n=4/\AE p.regions/\A3 p.consts/\A5 p.funcs/\¬Cs p)\/(n=5/\AE p.regions/\A3 p.consts/\A5 p.funcs/\Cs p/\¬Bd p)\/
 (n=0/\AE p.regions/\A3 p.consts/\A5 p.funcs/\Cs p/\Bd p)
theorem Be.one{p:MP}{n m:Int}(h:Be p n)(h':Be p m):n=m:=by
 unfold Be at h h';by_cases q1:AE p.regions<;>by_cases q2:A3 p.consts<;>by_cases q3:A5 p.funcs<;>by_cases q4:Cs p<;>by_cases q5:Bd p<;>simp[q1,q2,q3,q4,q5]at h h'<;>omega
def BL(e:Ending)(p:MP):Prop:=∃n,e=.returned (.int .i64 n)/\Be p n
theorem BL.f1{p:MP}(h:¬AE p.regions):BL (.returned (.int .i64 1)) p:=⟨_,rfl,.inl ⟨rfl,h⟩⟩
theorem BL.f2{p:MP}(h1:AE p.regions)(h:¬A3 p.consts):BL (.returned (.int .i64 2)) p:=⟨_,rfl,.inr (.inl ⟨rfl,h1,h⟩)⟩
theorem BL.f3{p:MP}(h1:AE p.regions/\A3 p.consts)(h:¬A5 p.funcs):BL (.returned (.int .i64 3)) p:=⟨_,rfl,.inr (.inr (.inl ⟨rfl,h1.1,h1.2,h⟩))⟩
theorem BL.f4{p:MP}(h1:AE p.regions/\A3 p.consts)(h2:A5 p.funcs)(h:¬Cs p):BL (.returned (.int .i64 4)) p:=⟨_,rfl,.inr (.inr (.inr (.inl ⟨rfl,h1.1,h1.2,h2,h⟩)))⟩
theorem BL.f5{p:MP}(h1:AE p.regions/\A3 p.consts)(h2:A5 p.funcs)(h3:Cs p)(h:¬Bd p):BL (.returned (.int .i64 5)) p:=⟨_,rfl,.inr (.inr (.inr (.inr (.inl ⟨rfl,h1.1,h1.2,h2,h3,h⟩))))⟩
theorem BL.f0{p:MP}(h1:AE p.regions/\A3 p.consts)(h2:A5 p.funcs)(h3:Cs p)(h:Bd p):BL (.returned (.int .i64 0)) p:=⟨_,rfl,.inr (.inr (.inr (.inr (.inr ⟨rfl,h1.1,h1.2,h2,h3,h⟩))))⟩
theorem Kk{fs:List MF}{n:Nat}(hl:fs.length=n)(h0:¬n=0)(h1:n<=32)(h:∀j,j<n->∀f,fs[j]?=some f->BR f (decide (j=0))):A5 fs:=by
 refine⟨by rw[hl];exact h0,by rw[hl];exact h1,fun j hj f hf=>(h j (by omega) f hf).1,fun f hf=>(h 0 (by omega) f hf).2 (by simp)⟩
theorem K7{fs:List MF}{k:Nat}{f:MF}(h:A5 fs)(hf:fs[k]?=some f):BR f (decide (k=0)):=by
 refine⟨h.2.2.1 k (gI.1 hf).1 f hf,fun e=> ?_⟩;obtain rfl:k=0:=by simpa using e
 exact h.2.2.2 f hf
theorem Of{fs:List MF}{k:Nat}{f:MF}(h1:fs[k]?=some f)(hx:BR f (decide (k=0)))(h:∀j,j<k->∀f,fs[j]?=some f->BR f (decide (j=0))):∀j,j<k+1->∀f,fs[j]?=some f->BR f (decide (j=0)):=by
 intro j hj g hg;by_cases e:j=k
 ·subst e
  rw[h1]at hg;exact(Option.some.inj hg)▸hx
 ·exact h j (by omega) g hg
structure Hy(w u:World)(a b c d:Value):Prop where
 bel:Below w.heap.size w u
 prog:C6 u w.heap.size a b c d
theorem Hy.keep{w u u':World}{a b c d:Value}(h:Hy w u a b c d)(hb:Below u.heap.size u u'):Hy w u' a b c d:=⟨Ac h.bel lR hb,h.prog.keep hb⟩
theorem Hy.of(w:World)(a b c d:Value)(t:TypeId):Hy w (w.alloc (.cells #[a,b,c,d] t)) a b c d:=⟨Aa _ _,C6.new _ _ _ _ _ _⟩
structure Pg(w:World)(vr vk vf vt:Value)(p:MP)(xs:List (List Int×Value))(ys:List (MF×VF)):Prop where
 small:p.small
 wf:p.wf
 rd:Cx w ⟨vr,vk,vf,vt⟩ p
 rr:Rd w 1 vr p.regions.length (xs.flatMap Cm)
 rm:xs.map Prod.fst=p.regions
 re:∀x∈xs,Rd w 1 x.2 x.1.length (x.1.flatMap Af)
 rl:xs.length=p.regions.length
 fr:Rd w 4 vf p.funcs.length (ys.flatMap BC)
 fm:ys.map Prod.fst=p.funcs
 fe:∀x∈ys,CK w x.2 x.1
 fl:ys.length=p.funcs.length
theorem Pg.of{w:World}{v:VP}{p:MP}(hs:p.small)(hw:p.wf)(h:Cx w v p):∃xs ys,Pg w v.r v.k v.f v.t p xs ys:=by
 obtain⟨xs,h1,h2,h3⟩:=h.regions;obtain⟨ys,k1,k2,k3⟩:=h.funcs;exact⟨xs,ys,hs,hw,h,h2,h1,h3,by rw[<-h1];simp,k2,k1,k3,by rw[<-k1];simp⟩
theorem Is (v:VP)(p:MP)(w:World)(hs:p.small)(hw:p.wf)(h:Cx w v p):
  Calls Tryz.prog 72 #[.agg #[v.r,v.k,v.f,v.t]] w fun e w'=>BL e p/\Below w.heap.size w w':=by
 obtain⟨xs,ys,hP⟩:=Pg.of hs hw h
 obtain⟨vr,vk,vf,vt⟩:=v
 simp only[]at hP
 obtain⟨r1,c1,e1⟩:=hP.rr.is_slice
 obtain⟨r3,c3,e3⟩:=hP.fr.is_slice
 have hm:=hs.funcs
 subst e1 e3
 clear hs hw h
 have HP:Hid _:=hP
 clear hP
 have HI:Hid _:=Hy.of w (.slice r1 p.regions.length c1) vk (.slice r3 p.funcs.length c3) vt 45
 by_cases q0:p.regions.length=3
 ·generalize hN:p.regions.length=n at*
  subst q0
  generalize hM:p.funcs.length=m at*
  have HL:=h2 hN hM
  have HP:=AM HP
  clear hN hM
  go_enter Tryz.func72,Tryz.ntmps72
  go_wp2
  go_loopw [3] (fun i wr=>∃k:Nat,k<=3/\i=.int .i64 k/\Hid (∀j,j<k->∀r,p.regions[j]?=some r->El r)/\Hid (Hy w wr (.slice r1 3 c1) vk (.slice r3 m c3) vt)) (fun i _=>3-(intOf i).toNat)
  case atStart=>exact⟨0,by omega,rfl,fun j hj=>by omega,HI⟩
  case round=>
   clear HI
   obtain⟨k,hk,rfl,HT,HI⟩:=hrel
   obtain⟨p0,p1,p2,p3⟩:=HI.out.prog
   by_cases hlt:k<3
   ·obtain⟨⟨f,v⟩,hx⟩:∃x,xs[k]?=some x:=⟨_,gE (by rw[HP.out.rl,HL.out.1];exact hlt)⟩
    have e1:=AO HP.out.rm hx
    have hf:=(HP.out.re _ (mG hx)).keep HI.out.bel lR
    have HX:Hid (Rd wr 1 v f.length (f.flatMap Af)/\f.length<=1048576/\p.regions[k]?=some f):=⟨hf,HP.out.small.region _ (mG e1),e1⟩
    clear e1
    rcases HP.out.rr.2 with⟨e0,_⟩|⟨b,o,c,e1,hc1⟩
    ·rw[HL.out.1]at e0
     omega
    ·rw[HL.out.1]at e1
     simp only[sJ,true_and]at e1
     obtain⟨rfl,rfl⟩:=e1
     have i0:=Rd.elem AK hc1 k _ hx 0 _ rfl
     rw[<-HI.out.bel.cell (bL i0)]at i0
     rw[Nat.mul_one,Nat.add_zero]at i0
     clear hc1 hx
     simp only[]at i0 hf
     obtain⟨av,cv,ev⟩:=hf.is_slice
     subst ev
     clear hf
     have hz:=HX.out.2.1
     by_cases q1:256<f.length
     ·have HN:Hid (¬AE p.regions):=fun e=>absurd (e.2 k (by rw[HL.out.1];exact hlt) f HX.out.2.2).1 (by omega)
      have q1':(256:Int)<(f.length:Int):=by omega
      generalize f.length=z at*
      go_wp2
      go_ret
      exact⟨.f1 HN.out,HI.out.bel⟩
     ·have q1':¬(256:Int)<(f.length:Int):=by omega
      go_wp2_with fail
      refine(EX _ f _ HX.out.2.1 HX.out.1).mono ?_
      rintro e u ⟨rfl,rfl⟩
      cases t1:f.all C9
      ·have HN:Hid (¬AE p.regions):=fun e=>by have:=(e.2 k (by rw[HL.out.1];exact hlt) f HX.out.2.2).2;simp[t1]at this
       clear t1
       go_wp2
       go_ret
       exact⟨.f1 HN.out,HI.out.bel⟩
      ·have HN:Hid (El f):=⟨by omega,t1⟩
       clear t1
       go_wp2
       go_roundw
       case rel=>exact⟨k+1,by omega,by go_num,BK HX.out.2.2 HN.out HT.out,HI⟩
       case measure=>simp[intOf];omega
   ·have hkn:3=k:=by omega
    subst hkn
    have HR:Hid (AE p.regions):=⟨HL.out.1,by rw[HL.out.1];exact HT.out⟩
    clear HT hlt hk
    go_wp2_with fail
    refine(IW ⟨.slice r1 3 c1,vk,.slice r3 m c3,vt⟩ p _ HP.out.small (HP.out.rd.keep HI.out.bel lR)).mono ?_
    rintro e u1 ⟨⟨b1,rfl,hb1⟩,bl1⟩
    have HI1:=AM (HI.out.keep bl1)
    clear bl1 p0 p1 p2 p3 HI
    cases b1
    ·have HN:Hid (¬A3 p.consts):=fun e=>by simp[e]at hb1
     clear hb1
     go_wp2
     go_ret
     exact⟨.f2 HR.out HN.out,HI1.out.bel⟩
    have HRC:=h2 HR.out (hb1.1 rfl)
    clear hb1 HR
    obtain⟨p0,p1,p2,p3⟩:=HI1.out.prog
    by_cases q2:m=0
    ·have HN:Hid (¬A5 p.funcs):=fun e=>e.1 (HL.out.2.trans q2)
     subst q2
     go_wp2
     go_ret
     exact⟨.f3 HRC.out HN.out,HI1.out.bel⟩
    have q2':((m:Int)==0)=false:=by simpa using q2
    by_cases q3:32<m
    ·have HN:Hid (¬A5 p.funcs):=fun e=>absurd e.2.1 (by rw[HL.out.2];omega)
     have q3':(32:Int)<(m:Int):=by omega
     go_wp2
     go_ret
     exact⟨.f3 HRC.out HN.out,HI1.out.bel⟩
    have q3':¬(32:Int)<(m:Int):=by omega
    go_wp2
    clear p0 p1 p2 p3 q2' q3'
    go_loopw [4] (fun i wr=>∃k:Nat,k<=m/\i=.int .i64 k/\Hid (∀j,j<k->∀f,p.funcs[j]?=some f->BR f (decide (j=0)))/\Hid (Hy w wr (.slice r1 3 c1) vk (.slice r3 m c3) vt)) (fun i _=>m-(intOf i).toNat)
    case atStart=>exact⟨0,by omega,rfl,fun j hj=>by omega,HI1⟩
    case round=>
     clear HI1
     obtain⟨k,hk,rfl,HT,HI⟩:=hrel
     obtain⟨p0,p1,p2,p3⟩:=HI.out.prog
     by_cases hlt:k<m
     ·obtain⟨⟨f,v⟩,hx⟩:∃x,ys[k]?=some x:=⟨_,gE (by rw[HP.out.fl,HL.out.2];exact hlt)⟩
      have e1:=AO HP.out.fm hx
      have HX:Hid (CK wr v f/\f.small/\p.funcs[k]?=some f):=⟨(HP.out.fe _ (mG hx)).keep HI.out.bel lR,HP.out.small.func _ (mG e1),e1⟩
      clear e1
      rcases HP.out.fr.2 with⟨e0,_⟩|⟨b,o,c,e1,hc1⟩
      ·rw[HL.out.2]at e0
       omega
      rw[HL.out.2]at e1
      simp only[sJ,true_and]at e1
      obtain⟨rfl,rfl⟩:=e1
      have i0:=Rd.elem Ah hc1 k _ hx 0 _ rfl
      have i1:=Rd.elem Ah hc1 k _ hx 1 _ rfl
      have i2:=Rd.elem Ah hc1 k _ hx 2 _ rfl
      have i3:=Rd.elem Ah hc1 k _ hx 3 _ rfl
      rw[<-HI.out.bel.cell (bL i0),Nat.add_zero]at i0
      rw[<-HI.out.bel.cell (bL i1)]at i1
      rw[<-HI.out.bel.cell (bL i2)]at i2
      rw[<-HI.out.bel.cell (bL i3)]at i3
      clear hc1 hx
      simp only[]at i0 i1 i2 i3
      go_wp2_with fail
      refine(Lw v f ((k:Int)==0) _ HX.out.2.1 HX.out.1).mono ?_
      rintro e u2 ⟨⟨b2,rfl,hb2⟩,bl2⟩
      have HI2:=AM (HI.out.keep bl2)
      have hk0:((k:Int)==0)=decide (k=0):=by
       by_cases e:k=0
       ·subst e
        rfl
       ·rw[decide_eq_false e]
        simpa using e
      rw[hk0]at hb2
      clear bl2 HI p0 p1 p2 p3 i0 i1 i2 i3 hk0
      cases b2
      ·have HN:Hid (¬A5 p.funcs):=fun e=>by simp[K7 e HX.out.2.2]at hb2
       clear hb2
       go_wp2
       go_ret
       exact⟨.f3 HRC.out HN.out,HI2.out.bel⟩
      ·have HC:=AM (hb2.1 rfl)
       clear hb2
       go_wp2
       go_roundw
       case rel=>exact⟨k+1,by omega,by go_num,Of HX.out.2.2 HC.out HT.out,HI2⟩
       case measure=>simp[intOf];omega
     ·have hkn:m=k:=by omega
      subst hkn
      have HFo:Hid (A5 p.funcs):=Kk HL.out.2 q2 (by omega) HT.out
      clear HT hlt hk
      go_wp2
      clear p0 p1 p2 p3
      go_loopw [5,6] (fun i kk wr=>∃k:Nat,k<=m/\i=.int .i64 k/\Hid (∀j,j<k->∀f,p.funcs[j]?=some f->DR p f)/\Hid (Hy w wr (.slice r1 3 c1) vk (.slice r3 m c3) vt)) (fun i _ _=>m-(intOf i).toNat)
      case atStart=>exact⟨0,by omega,rfl,fun j hj=>by omega,HI⟩
      case round=>
       clear HI
       obtain⟨k,hk,rfl,HT,HI⟩:=hrel
       obtain⟨p0,p1,p2,p3⟩:=HI.out.prog
       by_cases hlt:k<m
       ·obtain⟨⟨f,v⟩,hx⟩:∃x,ys[k]?=some x:=⟨_,gE (by rw[HP.out.fl,HL.out.2];exact hlt)⟩
        have e1:=AO HP.out.fm hx
        have HX:Hid (CK w v f/\f.small/\p.funcs[k]?=some f/\f.wf):=⟨HP.out.fe _ (mG hx),HP.out.small.func _ (mG e1),e1,HP.out.wf.funcs _ (mG e1)⟩
        clear e1
        rcases HP.out.fr.2 with⟨e0,_⟩|⟨b,o,c,e1,hc1⟩
        ·rw[HL.out.2]at e0
         omega
        rw[HL.out.2]at e1
        simp only[sJ,true_and]at e1
        obtain⟨rfl,rfl⟩:=e1
        have HCF:Hid (w.cell? ⟨b,o+k*4,none⟩=some v.p/\w.cell? ⟨b,o+k*4+1,none⟩=some (.int .i64 f.result)/\w.cell? ⟨b,o+k*4+2,none⟩=some v.l/\w.cell? ⟨b,o+k*4+3,none⟩=some v.c):=⟨Rd.elem Ah hc1 k _ hx 0 _ rfl,Rd.elem Ah hc1 k _ hx 1 _ rfl,Rd.elem Ah hc1 k _ hx 2 _ rfl,Rd.elem Ah hc1 k _ hx 3 _ rfl⟩
        clear hc1 hx
        obtain⟨ac,cc,ec⟩:=HX.out.1.2.2.is_slice
        obtain⟨vp,vl,vc⟩:=v
        simp only[]at ec
        subst ec
        have hz:=HX.out.2.1.2.2
        generalize hZ:f.code.length=z at*
        have HZ:Hid (f.code.length=z):=hZ
        clear hZ
        have i3:=HCF.out.2.2.2
        rw[<-HI.out.bel.cell (bL i3)]at i3
        simp only[]at i3
        go_wp2
        clear p0 p1 p2 p3 i3
        go_loopw [6] (fun i wr=>∃q:Nat,q<=z/\i=.int .i64 q/\Hid (∀j,j<q->∀x,f.code[j]?=some x->AR p f x)/\Hid (Hy w wr (.slice r1 3 c1) vk (.slice (some ⟨b,o,none⟩) m c3) vt)) (fun i _=>z-(intOf i).toNat)
        case atStart=>exact⟨0,by omega,rfl,fun j hj=>by omega,HI⟩
        case round=>
         clear HI
         obtain⟨q,hq,rfl,HTT,HI⟩:=hrel
         obtain⟨p0,p1,p2,p3⟩:=HI.out.prog
         obtain⟨i0,i1,i2,i3⟩:=HCF.out
         rw[<-HI.out.bel.cell (bL i0)]at i0
         rw[<-HI.out.bel.cell (bL i1)]at i1
         rw[<-HI.out.bel.cell (bL i2)]at i2
         rw[<-HI.out.bel.cell (bL i3)]at i3
         by_cases hlq:q<z
         ·obtain⟨x,hx⟩:∃x,f.code[q]?=some x:=⟨_,gE (by rw[HZ.out];exact hlq)⟩
          have hxw:=HX.out.2.2.2.code x (mG hx)
          rcases HX.out.1.2.2.2 with⟨e0,_⟩|⟨b',o',c',e1,hc2⟩
          ·rw[HZ.out]at e0
           omega
          rw[HZ.out]at e1
          simp only[sJ,true_and]at e1
          obtain⟨rfl,rfl⟩:=e1
          have j0:=Rd.elem MI.cells_length hc2 q x hx 0 _ rfl
          have j1:=Rd.elem MI.cells_length hc2 q x hx 1 _ rfl
          have j2:=Rd.elem MI.cells_length hc2 q x hx 2 _ rfl
          have j3:=Rd.elem MI.cells_length hc2 q x hx 3 _ rfl
          rw[<-HI.out.bel.cell (bL j0),Nat.add_zero]at j0
          rw[<-HI.out.bel.cell (bL j1)]at j1
          rw[<-HI.out.bel.cell (bL j2)]at j2
          rw[<-HI.out.bel.cell (bL j3)]at j3
          have HXX:=h2 hx hxw
          clear hc2 hx hxw
          obtain⟨xo,xa,xb,xc⟩:=x
          simp only[]at j0 j1 j2 j3
          have inst:=Ae.some wr
          have P0:=fun n:Ae wr=>Ae.cell p0 n
          have P1:=fun n:Ae wr=>Ae.cell p1 n
          have P2:=fun n:Ae wr=>Ae.cell p2 n
          have P3:=fun n:Ae wr=>Ae.cell p3 n
          have I0:=fun n:Ae wr=>Ae.cell i0 n
          have I1:=fun n:Ae wr=>Ae.cell i1 n
          have I2:=fun n:Ae wr=>Ae.cell i2 n
          have I3:=fun n:Ae wr=>Ae.cell i3 n
          have J0:=fun n:Ae wr=>Ae.cell j0 n
          have J1:=fun n:Ae wr=>Ae.cell j1 n
          have J2:=fun n:Ae wr=>Ae.cell j2 n
          have J3:=fun n:Ae wr=>Ae.cell j3 n
          by_cases hok:AR p f ⟨xo,xa,xb,xc⟩
          ·have HOK:=AM hok
           clear hok
           go_wp2_with fail
           refine Ak (by kernel_rfl) (by kernel_rfl) ?_
           repeat(go_big_quiet_step ((go_at_call 120;rename_i n;exact(GD ⟨.slice r1 3 c1,vk,.slice (some ⟨b,o,none⟩) m c3,vt⟩ p ⟨vp,vl,.slice (some ⟨b',o',none⟩) z cc⟩ f xo xa xb xc n.u HP.out.small HL.out.1 HX.out.2.1 HXX.out.2.2.1 HXX.out.2.2.2.1 HXX.out.2.2.2.2 (HP.out.rd.keep (Ac HI.out.bel lR n.h) lR) (HX.out.1.keep (Ac HI.out.bel lR n.h) lR)).mono fun e w'' h=>⟨h.1.true HOK.out,⟨⟨w'',Ac n.h lR h.2⟩,rfl⟩⟩)))
           refine wpQuiet_nil ?_
           rintro w'' ⟨n,rfl⟩
           have HI4:=AM (HI.out.keep n.h)
           clear HI p0 p1 p2 p3 i0 i1 i2 i3 j0 j1 j2 j3 P0 P1 P2 P3 I0 I1 I2 I3 J0 J1 J2 J3 inst
           go_wp2
           go_roundw
           case rel=>exact⟨q+1,by omega,by go_num,BK HXX.out.1 HOK.out HTT.out,HI4⟩
           case measure=>simp[intOf];omega
          ·have HOK:=AM hok
           have HN:Hid (¬Cs p):=fun e=>hok (e k (by rw[HL.out.2];exact hlt) f HX.out.2.2.1 q (by rw[HZ.out];exact hlq) _ HXX.out.1)
           clear hok
           go_wp2_with fail
           refine Ak (by kernel_rfl) (by kernel_rfl) ?_
           repeat(go_big_quiet_step ((go_at_call 120;rename_i n;exact(GD ⟨.slice r1 3 c1,vk,.slice (some ⟨b,o,none⟩) m c3,vt⟩ p ⟨vp,vl,.slice (some ⟨b',o',none⟩) z cc⟩ f xo xa xb xc n.u HP.out.small HL.out.1 HX.out.2.1 HXX.out.2.2.1 HXX.out.2.2.2.1 HXX.out.2.2.2.2 (HP.out.rd.keep (Ac HI.out.bel lR n.h) lR) (HX.out.1.keep (Ac HI.out.bel lR n.h) lR)).mono fun e w'' h=>⟨h.1.false HOK.out,⟨⟨w'',Ac n.h lR h.2⟩,rfl⟩⟩)))
           refine wpQuiet_nil ?_
           rintro w'' ⟨n,rfl⟩
           have HI4:=AM (HI.out.keep n.h)
           clear HI p0 p1 p2 p3 i0 i1 i2 i3 j0 j1 j2 j3 P0 P1 P2 P3 I0 I1 I2 I3 J0 J1 J2 J3 inst
           go_wp2
           go_ret
           exact⟨.f4 HRC.out HFo.out HN.out,HI4.out.bel⟩
         ·have hqz:z=q:=by omega
          subst hqz
          have HFC:Hid (DR p f):=fun j hj x hx=>HTT.out j (by rw[<-HZ.out];exact hj) x hx
          go_wp2
          go_roundw
          case rel=>exact⟨k+1,by omega,by go_num,BK HX.out.2.2.1 HFC.out HT.out,HI⟩
          case measure=>simp[intOf];omega
       ·have hkn:m=k:=by omega
        subst hkn
        have HCo:Hid (Cs p):=fun j hj f hf=>HT.out j (by rw[<-HL.out.2];exact hj) f hf
        go_wp2_with fail
        refine(Ku ⟨.slice r1 3 c1,vk,.slice r3 m c3,vt⟩ p _ HP.out.small HP.out.wf (HP.out.rd.keep HI.out.bel lR)).mono ?_
        rintro e u5 ⟨⟨b5,rfl,hb5⟩,bl5⟩
        have HI5:Hid (Below w.heap.size w u5):=Ac HI.out.bel lR bl5
        clear bl5 p0 p1 p2 p3
        cases b5
        ·have HN:Hid (¬Bd p):=fun e=>by simp[e]at hb5
         clear hb5
         go_wp2
         go_ret
         exact⟨.f5 HRC.out HFo.out HCo.out HN.out,HI5.out⟩
        ·have HY:Hid (Bd p):=hb5.1 rfl
         clear hb5
         go_wp2
         go_ret
         exact⟨.f0 HRC.out HFo.out HCo.out HY.out,HI5.out⟩
 ·have HN:Hid (¬AE p.regions):=fun e=>q0 e.1
  have q0':((p.regions.length:Int)==3)=false:=by simp;omega
  have q0'':¬(p.regions.length:Int)=3:=by omega
  go_enter Tryz.func72,Tryz.ntmps72
  go_wp2
  go_ret
  exact⟨.f1 HN.out,HI.out.bel⟩
def Cu(vs:List MC)(ts:List Int):Prop:=vs.map MC.type=ts/\∀v∈vs,Bi v
structure Fp(p:MP)(n:Nat)(g:MG):Prop where
 lo:0<=g.func
 locals:∃f,p.funcs[g.func.toNat]?=some f/\Cu g.locals (f.params++f.locals)
 base:g.base<=(n:Int)
def DF:Int->List MG->Prop
 |_,[]=>True
 |b,g::r=>b<=g.base/\DF g.base r
structure BM(p:MP)(s:MS):Prop where
 prog:Be p 0
 cost:0<=s.cost/\s.cost<=4611686018427387904
 steps:0<=s.steps/\s.steps<=4611686018427387904
 three:s.cells.length=p.regions.length
 cells:∀(i:Nat) c r,s.cells[i]?=some c->p.regions[i]?=some r->Cu c r
 high:s.stack.length<=64
 stack:∀v∈s.stack,Bi v
 some:s.frames≠[]
 deep:s.frames.length<=32
 frames:∀g∈s.frames,Fp p s.stack.length g
 bases:DF 0 s.frames
def BN(op:Int):Int:=OL (Bo op)[1]?
def CC(p:MP)(x:MI):Int:=match p.regions[x.a.toNat]? with|some r=>(r[x.b.toNat]?).getD 0|none=>0
def AQ(f:MF):List Int:=if f.result=0 then[]else[f.result]
def Am(p:MP)(f:MF)(x:MI):List Int:=
 if x.op=3 then[At f x.a]else if x.op=5 then[CC p x]else if x.op=6 then[3]else if x.op=7 then[3,CC p x]
 else if(8<=x.op/\x.op<=15)\/x.op=20\/x.op=21 then[x.a,x.a]else if x.op=16\/x.op=22 then[x.a]
 else if x.op=17\/x.op=18 then[3,3]else if x.op=19 then[2]else if x.op=23\/x.op=24 then[0]else if x.op=26 then[1]
 else if x.op=28 then(match p.funcs[x.a.toNat]? with|some g=>g.params|none=>[])else[]
def Ez(x:MI):Nat:=if x.op=1\/x.op=2\/x.op=4\/x.op=6\/(8<=x.op/\x.op<=22)then 1 else if x.op=23 then 2 else 0
def Bw:List MC->List Int->Bool
 |[],[]=>true
 |v::vs,t::ts=>(t==0||v.type==t)&&Bw vs ts
 |_,_=>false
def DY(p:MP)(f:MF)(g:MG)(s:MS)(x:MI):Int:=
 let above:=s.stack.drop g.base.toNat
 let ts:=Am p f x
 if x.op=29 then(if above.map MC.type=AQ f then 0 else 6)
 else if above.length<ts.length then 1
 else if Bw (above.drop (above.length-ts.length)) ts=false\/(x.op=27/\At f x.a≠3)then 2
 else if x.op=28 then(if s.frames.length<32 then 0 else 5)
 else if 64<s.stack.length-ts.length+Ez x then 3 else 0
def CD(l:List MC)(i:Nat):MC:=(l[i]?).getD ⟨0,0⟩
def CW(fs:List MG)(h:MG->MG):List MG:=fs.modify (fs.length-1) h
def Fj(cs:List (List MC))(a b:Nat)(v:MC):List (List MC):=cs.modify a fun r=>r.set b v
def cellAt(s:MS)(a b:Nat):MC:=CD ((s.cells[a]?).getD []) b
def C8(p:MP)(f:MF)(g:MG)(s:MS)(x:MI):MS:=
 let n:=(Am p f x).length
 let ar:=s.stack.drop (s.stack.length-n)
 let st:=s.stack.take (s.stack.length-n)
 let go:List MG:=CW s.frames fun h=>{h with at_:=g.at_+1}
 let t:MS:={s with stack:=st,frames:=go}
 let push:List MC->MS:=fun vs=>{t with stack:=st++vs}
 if x.op=0\/x.op=24 then t
 else if x.op=1 then push [CD p.consts x.a.toNat]
 else if x.op=2 then push [CD g.locals x.a.toNat]
 else if x.op=3 then{t with frames:=CW go fun h=>{h with locals:=h.locals.set x.a.toNat (CD ar 0)}}
 else if x.op=4 then push [cellAt s x.a.toNat x.b.toNat]
 else if x.op=5 then{t with cells:=Fj s.cells x.a.toNat x.b.toNat (CD ar 0)}
 else if x.op=6 then push [cellAt s x.a.toNat (x.b.toNat+((CD ar 0).word.toNat &&& x.c.toNat))]
 else if x.op=7 then{t with cells:=Fj s.cells x.a.toNat (x.b.toNat+((CD ar 0).word.toNat &&& x.c.toNat)) (CD ar 1)}
 else if x.op=16\/x.op=19 then push [⟨(CD ar 0).type,AF x.op (CD ar 0).type (CD ar 0).word 0⟩]
 else if x.op=20\/x.op=21 then push [⟨1,AF x.op (CD ar 0).type (CD ar 0).word (CD ar 1).word⟩]
 else if 8<=x.op/\x.op<=18 then push [⟨(CD ar 0).type,AF x.op (CD ar 0).type (CD ar 0).word (CD ar 1).word⟩]
 else if x.op=22 then push [⟨x.b,En x.a x.b (CD ar 0).word⟩]
 else if x.op=23 then push [CD ar 0,CD ar 0]
 else if x.op=25 then{t with frames:=CW go fun h=>{h with at_:=x.c}}
 else if x.op=26 then(if(CD ar 0).word=0 then{t with frames:=CW go fun h=>{h with at_:=x.c}}else t)
 else if x.op=27 then(if(CD g.locals x.a.toNat).word=0 then{t with frames:=CW go fun h=>{h with at_:=x.c}}else{t with frames:=CW go fun h=>{h with locals:=h.locals.modify x.a.toNat fun v=>{v with word:=v.word-1}}})
 else if x.op=28 then{t with frames:=go++[⟨x.a,0,(st.length:Int),ar++(match p.funcs[x.a.toNat]? with|some c=>c.locals.map fun ty=>(⟨ty,0⟩:MC)|none=>[])⟩]}
 else{s with frames:=s.frames.dropLast,done:=decide (s.frames.length=1)}
inductive Bu (p:MP) (s:MS):MS->Prop
 |jump {g:MG} {f:MF}:s.frames.getLast?=some g->p.funcs[g.func.toNat]?=some f->(g.at_<0\/(f.code.length:Int)<=g.at_)->Bu p s {s with trap:=4}
 |trap {g:MG} {f:MF} {x:MI} {n:Int}:s.frames.getLast?=some g->p.funcs[g.func.toNat]?=some f->0<=g.at_->f.code[g.at_.toNat]?=some x->DY p f g s x=n->n≠0->Bu p s {s with trap:=n,steps:=s.steps+1,cost:=s.cost+BN x.op}
 |does {g:MG} {f:MF} {x:MI}:s.frames.getLast?=some g->p.funcs[g.func.toNat]?=some f->0<=g.at_->f.code[g.at_.toNat]?=some x->DY p f g s x=0->Bu p s (C8 p f g {s with steps:=s.steps+1,cost:=s.cost+BN x.op} x)
theorem Bu.one{p:MP}{s a b:MS}(h:Bu p s a)(h':Bu p s b):a=b:=by
 cases h with
 | jump e1 e2 e3=>
  cases h' with
  |jump d1 d2 d3=>rfl
  |trap d1 d2 d3 d4 _ _=>
   rw[e1]at d1;obtain rfl:=Option.some.inj d1;rw[e2]at d2;obtain rfl:=Option.some.inj d2;have:=(gI.1 d4).1;omega
  |does d1 d2 d3 d4 _=>
   rw[e1]at d1;obtain rfl:=Option.some.inj d1;rw[e2]at d2;obtain rfl:=Option.some.inj d2;have:=(gI.1 d4).1;omega
 | trap e1 e2 e3 e4 e5 e6=>
  cases h' with
  |jump d1 d2 d3=>
   rw[e1]at d1;obtain rfl:=Option.some.inj d1;rw[e2]at d2;obtain rfl:=Option.some.inj d2;have:=(gI.1 e4).1;omega
  |trap d1 d2 d3 d4 d5 d6=>
   rw[e1]at d1;obtain rfl:=Option.some.inj d1;rw[e2]at d2;obtain rfl:=Option.some.inj d2;rw[e4]at d4;obtain rfl:=Option.some.inj d4;rw[<-e5,<-d5]
  |does d1 d2 d3 d4 d5=>
   rw[e1]at d1;obtain rfl:=Option.some.inj d1;rw[e2]at d2;obtain rfl:=Option.some.inj d2;rw[e4]at d4;obtain rfl:=Option.some.inj d4;exact absurd (e5.symm.trans d5) e6
 | does e1 e2 e3 e4 e5=>
  cases h' with
  |jump d1 d2 d3=>
   rw[e1]at d1;obtain rfl:=Option.some.inj d1;rw[e2]at d2;obtain rfl:=Option.some.inj d2;have:=(gI.1 e4).1;omega
  |trap d1 d2 d3 d4 d5 d6=>
   rw[e1]at d1;obtain rfl:=Option.some.inj d1;rw[e2]at d2;obtain rfl:=Option.some.inj d2;rw[e4]at d4;obtain rfl:=Option.some.inj d4;exact absurd (d5.symm.trans e5) d6
  |does d1 d2 d3 d4 d5=>
   rw[e1]at d1;obtain rfl:=Option.some.inj d1;rw[e2]at d2;obtain rfl:=Option.some.inj d2;rw[e4]at d4;obtain rfl:=Option.some.inj d4;rfl
end Go.Proofs.YtlejplpkomddeaaGreat
