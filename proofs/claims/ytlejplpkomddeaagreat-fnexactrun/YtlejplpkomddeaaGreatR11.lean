import Derived.Test.YtlejplpkomddeaaGreatR0
import Derived.Test.YtlejplpkomddeaaGreatR9
import Derived.Test.YtlejplpkomddeaaGreatR4
import Derived.Test.YtlejplpkomddeaaGreatR8
import Derived.Deep.RegionLaw
import Derived.Deep.AppendLies
import Derived.OneCell
import Derived.Maps.AppendAt
import Derived.Deep.RegionHeld3
namespace Go.Proofs.YtlejplpkomddeaaGreat
open Go.ChangeShapes Go.WideShapes Go.ChangeAt Go.RowKit
set_option linter.unusedVariables false
set_option maxHeartbeats 8000000
set_option maxRecDepth 100000
theorem IX(s:Value)(F:List (MG×Value))(k0:Int)(w:World)(hn:F.length<=1048576)(hr:∀x∈F,x.1.locals.length<=1048576)(h0:0<=k0)(h1:k0<=281474976710656)(h:Rd w 4 s F.length ((A6 k0 F).flatMap AA))(hf:∀x∈AL (A6 k0 F),Rd w 2 x.1 x.2.length (x.2.flatMap MC.cells)):
 Calls Tryz.prog 61 #[s,.int .i64 k0] w fun e w'=>e=.returned (.int .i64 (Dx k0 F))/\w'=w:=by
 have H:=h3 h hr hf;obtain⟨a1,c1,rfl⟩:=h.is_slice;clear h hr hf;generalize hLL:F.length=n at hn H;have HL:Hid (F.length=n):=hLL;clear hLL;go_enter Tryz.func61,Tryz.ntmps61;go_wp2
 go_loopw [1,5] (fun q i wr=>∃D E:List (MG×Value),Hid (F=D++E)/\D.length<=n/\q=.int .i64 (Dx k0 D)/\i=.int .i64 (D.length:Nat)/\wr=w) (fun _ i _=>n-(intOf i).toNat)
 case atStart=>exact⟨[],F,rfl,by simp,rfl,rfl,rfl⟩
 case round=>
  obtain⟨D,E,HD,hk,rfl,rfl,rfl⟩:=hrel;have hlen:D.length+E.length=n:=by have:=HL.out;rw[HD.out,List.length_append]at this;exact this
  have hend:=Hf k0 D (fun x hx=>H.out.2.1 x (by rw[HD.out];simp[hx]));generalize hK:Dx k0 D=K at hend⊢;have HK:Hid (Dx k0 D=K):=hK;clear hK;cases E with
  | cons x E'=>
   obtain⟨f,v⟩:=x;have hlt:D.length<n:=by simp only[List.length_cons]at hlen;omega
   have hcl:f.locals.length<=1048576:=H.out.2.1 (f,v) (by rw[HD.out];simp)
   have hsplit:A6 k0 F=A6 k0 D++Ht K (f,v)::A6 (Je K (f,v)) E':=by
    rw[HD.out,Ib,HK.out];rfl
   have hx:(A6 k0 F)[D.length]?=some (Ht K (f,v)):=by
    rw[hsplit,List.getElem?_append_right (by rw[C6];omega),C6,Nat.sub_self];rfl
   have hov:=H.out.2.2 (v,Bg (K+1+1+1) f.locals.length) (by rw[hsplit];simp[AL,Ht]);simp only[BU]at hov;rcases H.out.1.2 with⟨e0,_⟩|⟨g,o,cc,e1,hc1⟩
   ·omega
   simp only[sJ,true_and]at e1;obtain⟨rfl,rfl⟩:=e1;have j0:=Rd.elem Au hc1 D.length _ hx 0 _ rfl;have j1:=Rd.elem Au hc1 D.length _ hx 1 _ rfl;have j2:=Rd.elem Au hc1 D.length _ hx 2 _ rfl;have j3:=Rd.elem Au hc1 D.length _ hx 3 _ rfl;rw[Nat.add_zero]at j0;simp only[Ht]at j0 j1 j2 j3;have HO:=AS hov;clear hc1 hx hov hsplit;have hdl:(D.length:Int)<(n:Int):=by omega
   have hes:Dx k0 (D++[(f,v)])=K+1+1+1+2*(f.locals.length:Int):=by rw[I6,HK.out];rfl
   have hn0:¬K+1+1+1+2*(f.locals.length:Int)<0:=by omega
   go_wp2_with fail
   refine(Ez v f.locals.length (K+1+1+1) _ hcl (by omega) (by omega) HO.out).mono ?_;rintro e u ⟨rfl,rfl⟩;clear j0 j1 j2 j3;go_wp2
   go_roundw
   case rel=>exact⟨D++[(f,v)],E',by show _=_;rw[HD.out];simp,by simp;omega,by rw[hes],by simp,by trivial⟩
   case measure=>simp[intOf];omega
  |nil=>
   have hDn:D.length=n:=by simpa using hlen
   have hDL:D=F:=by rw[HD.out];simp
   subst hDL;have hKe:=HK.out;go_wp2
   go_ret
   exact⟨by simp[hKe],rfl⟩
structure Ah(w:World)(base:Nat)(v:VS)(C:List (Value×List MC))(K:List MC)(F:List (MG×Value)):Prop where
 cells:w.ownsRow base 36 1 v.c C.length (C.flatMap CU)
 frames:w.ownsRow base 123 4 v.f F.length (F.flatMap AA)
 fam:Df w base (C++[(v.k,K)]++AL F)
def Ao(trap:Int)(done:Bool)(cost steps:Int)(C:List (Value×List MC))(K:List MC)(F:List (MG×Value)):MS:=⟨trap,done,cost,steps,C.map Prod.snd,K,F.map Prod.fst⟩
theorem Ah.own{w:World}{base:Nat}{v:VS}{C:List (Value×List MC)}{K:List MC}{F:List (MG×Value)}(h:Ah w base v C K F)(trap:Int)(done:Bool)(cost steps:Int):PP w base v (Ao trap done cost steps C K F):=by
 refine⟨⟨C.map fun x=>(x.2,x.1),?_,?_,?_⟩,h.fam.own (v.k,K) (by simp),⟨F,rfl,?_,?_⟩⟩
 ·simp[Ao,Function.comp_def]
 ·rw[List.flatMap_map,show(Ao trap done cost steps C K F).cells.length=C.length by simp[Ao]]
  exact h.cells
 ·intro x hx
  obtain⟨y,hy,rfl⟩:=List.mem_map.1 hx;exact h.fam.own y (by simp[hy])
 ·simpa[Ao]using h.frames
 ·intro x hx
  exact h.fam.own (x.2,x.1.locals) (by simp[AL];exact .inr (.inr ⟨x.1,x.2,hx,rfl,rfl⟩))
def NG(C:List (Value×List MC)):Int:=CB 1 C
def Fo(C:List (Value×List MC))(K:List MC):Int:=CB 1 C+2*(K.length:Int)
structure DC(C:List (Value×List MC))(K:List MC)(F:List (MG×Value)):Prop where
 cells:C.length<=1048576
 cell:∀x∈C,x.2.length<=1048576
 stack:K.length<=1048576
 frames:F.length<=1048576
 frame:∀x∈F,x.1.locals.length<=1048576
theorem JB(base:Nat)(v:VS)(C:List (Value×List MC))(K:List MC)(F:List (MG×Value))(tr:Int)(dn:Bool)(co sp:Int)(w:World)(hB:base<=w.heap.size)(hs:DC C K F)(h:Ah w base v C K F):
 Calls Tryz.prog 14 #[.agg #[.int .i64 tr,.bool dn,.int .i64 co,.int .i64 sp,v.c,v.k,v.f],.int .i64 1] w fun e w'=>e=.returned (.int .i64 (Dx (Fo C K) F))/\Ah w' base v (AU 1 C) (Bg (NG C) K.length) (A6 (Fo C K) F)/\Wf base w w':=by
 have HS:Hid (DC C K F):=hs;have hA:(w.alloc (.cells #[.int .i64 tr,.bool dn,.int .i64 co,.int .i64 sp,v.c,v.k,v.f] 39)).ownsRow w.heap.size 39 7 (.slice (some ⟨w.heap.size,0,none⟩) 1 1) 1 [.int .i64 tr,.bool dn,.int .i64 co,.int .i64 sp,v.c,v.k,v.f]:=World.ownsRow_lit (base:=w.heap.size) (e:=39) (size:=7) w #[.int .i64 tr,.bool dn,.int .i64 co,.int .i64 sp,v.c,v.k,v.f] 1 lR (by unfold maxLen;omega) (by simp);have bA:Below w.heap.size w (w.alloc (.cells #[.int .i64 tr,.bool dn,.int .i64 co,.int .i64 sp,v.c,v.k,v.f] 39)):=(Below.refl _ _).alloc lR _;have H0:Hid (Ah (w.alloc (.cells #[.int .i64 tr,.bool dn,.int .i64 co,.int .i64 sp,v.c,v.k,v.f] 39)) base v C K F/\Wf base w (w.alloc (.cells #[.int .i64 tr,.bool dn,.int .i64 co,.int .i64 sp,v.c,v.k,v.f] 39))):=⟨⟨Ag h.cells bA lR,Ag h.frames bA lR,⟨fun x hx=>Ag (h.fam.own x hx) bA lR,h.fam.sep⟩⟩,⟨bA.mono hB,fun k cur t hk _ _=>by rw[bA.block k (Array.getElem?_eq_some_iff.1 hk).1];exact hk⟩⟩
 have hBW:base<=(w.alloc (.cells #[.int .i64 tr,.bool dn,.int .i64 co,.int .i64 sp,v.c,v.k,v.f] 39)).heap.size:=Nat.le_trans hB bA.size;clear hs h bA;go_enter Tryz.func14,Tryz.ntmps14;go_wp2_with fail
 generalize w.alloc (.cells #[.int .i64 tr,.bool dn,.int .i64 co,.int .i64 sp,v.c,v.k,v.f] 39)=W1 at hA H0 hBW⊢
 have HA:Hid (∀{u:World},Wf base W1 u->u.cell? ⟨w.heap.size,4,none⟩=some v.c/\u.cell? ⟨w.heap.size,5,none⟩=some v.k/\u.cell? ⟨w.heap.size,6,none⟩=some v.f):=fun hw=>by
  obtain⟨_,cur,hg⟩:=Bq hA
  have hr:∀{u:World},Wf base W1 u->u.ownsRow w.heap.size 39 7 (.slice (some ⟨w.heap.size,0,none⟩) 1 1) 1 [.int .i64 tr,.bool dn,.int .i64 co,.int .i64 sp,v.c,v.k,v.f]:=fun hw=>by
   refine⟨hA.1,?_⟩;rcases hA.2 with h'|⟨g,cap,cur,e1,hb1,hg,hr⟩
   ·exact .inl h'
   ·exact .inr ⟨g,cap,cur,e1,hb1,hw.blk g cur _ hg (by decide) (by decide),hr⟩
  exact⟨(hr hw).cellAt 4 (by omega),(hr hw).cellAt 5 (by omega),(hr hw).cellAt 6 (by omega)⟩
 clear hA;refine(Ho base v.c [] C ((v.k,K)::AL F) 1 _ hBW HS.out.cells HS.out.cell (by omega) (by omega) H0.out.1.cells (by simpa using H0.out.1.fam)).mono ?_;rintro e u1 ⟨rfl,f1,wv1⟩;have hk:=GB 1 C HS.out.cell;have l1:=HS.out.cells;have l2:=HS.out.stack;have l3:=HS.out.frames;have H1:Hid (Df u1 base (AU 1 C++(v.k,K)::AL F)/\u1.ownsRow base 36 1 v.c C.length (C.flatMap CU)/\u1.ownsRow base 123 4 v.f F.length (F.flatMap AA)/\Wf base W1 u1/\base<=u1.heap.size):=⟨by simpa using f1,wv1.own H0.out.1.cells (by decide),wv1.own H0.out.1.frames (by decide),wv1.wf,Nat.le_trans hBW wv1.bel.size⟩
 clear f1 wv1;obtain⟨p4,p5,p6⟩:=HA.out H1.out.2.2.2.1;have hok:=H1.out.1.own (v.k,K) (by simp);simp only[]at hok;have HK:Hid _:=hok;clear hok;go_wp2_with fail
 refine(EL base v.k K (CB 1 C) _ l2 (by omega) (by omega) HK.out).mono ?_;rintro e u2 ⟨rfl,o2,g2⟩
 have H2:Hid (Df u2 base (AU 1 C++(v.k,Bg (CB 1 C) K.length)::AL F)/\u2.ownsRow base 36 1 v.c C.length (C.flatMap CU)/\u2.ownsRow base 123 4 v.f F.length (F.flatMap AA)/\Wf base W1 u2/\base<=u2.heap.size):=by
  have wv:=Wv.of_row HK.out g2 H1.out.2.2.2.2;exact⟨Df.put H1.out.1 (BU _ _) o2 g2,wv.own H1.out.2.1 (by decide),wv.own H1.out.2.2.1 (by decide),H1.out.2.2.2.1.trans wv.wf,Nat.le_trans H1.out.2.2.2.2 wv.bel.size⟩
 clear o2 g2 p4 p5 p6;obtain⟨p4,p5,p6⟩:=HA.out H2.out.2.2.2.1;go_wp2_with fail
 refine(Iz base v.f (AU 1 C++[(v.k,Bg (CB 1 C) K.length)]) [] F (CB 1 C+2*(K.length:Int)) _ H2.out.2.2.2.2 l3 HS.out.frame (by omega) (by omega) H2.out.2.2.1 (by simpa using H2.out.1)).mono ?_;rintro e u3 ⟨rfl,o3,f3,wf3⟩
 have H3:Hid (Ah u3 base v (AU 1 C) (Bg (NG C) K.length) (A6 (Fo C K) F)/\Wf base w u3):=by
  refine⟨⟨?_,?_,?_⟩,H0.out.2.trans (H2.out.2.2.2.1.trans wf3)⟩
  ·rw[Fj,FC]
   have hc:=H2.out.2.1;refine⟨hc.1,?_⟩;rcases hc.2 with h'|⟨g,cap,cur,e1,hb1,hg,hr⟩
   ·exact .inl h'
   ·exact .inr ⟨g,cap,cur,e1,hb1,wf3.blk g cur _ hg (by decide) (by decide),hr⟩
  ·rw[C6]
   exact o3
  ·simpa[NG,Fo]using f3
 clear o3 f3 wf3 p4 p5 p6;go_wp2
 go_ret
 exact⟨rfl,H3.out.1,H3.out.2⟩
theorem Gs(base:Nat)(v:VS)(C:List (Value×List MC))(K:List MC)(F:List (MG×Value))(tr:Int)(dn:Bool)(co sp:Int)(w:World)(hs:DC C K F)(h:Ah w base v (AU 1 C) (Bg (NG C) K.length) (A6 (Fo C K) F)):
 Calls Tryz.prog 15 #[.agg #[.int .i64 tr,.bool dn,.int .i64 co,.int .i64 sp,v.c,v.k,v.f],.int .i64 1] w fun e w'=>e=.returned (.int .i64 (Dx (Fo C K) F))/\Below w.heap.size w w':=by
 have HS:Hid (DC C K F):=hs;have bA:Below w.heap.size w (w.alloc (.cells #[.int .i64 tr,.bool dn,.int .i64 co,.int .i64 sp,v.c,v.k,v.f] 39)):=(Below.refl _ _).alloc lR _;have HB:=AS bA;have hk:=GB 1 C hs.cell;have l1:=hs.cells;have l2:=hs.stack;have l3:=hs.frames;have hc:=Rd.of_own (Ag h.cells bA lR);rw[Fj,FC]at hc;have hfr:=Rd.of_own (Ag h.frames bA lR);rw[C6]at hfr;have hkk:=Rd.of_own (Ag (h.fam.own (v.k,Bg (NG C) K.length) (by simp)) bA lR);simp only[BU]at hkk
 have H:Hid (Rd (w.alloc (.cells #[.int .i64 tr,.bool dn,.int .i64 co,.int .i64 sp,v.c,v.k,v.f] 39)) 1 v.c C.length (C.flatMap CU)/\Rd (w.alloc (.cells #[.int .i64 tr,.bool dn,.int .i64 co,.int .i64 sp,v.c,v.k,v.f] 39)) 2 v.k K.length ((Bg (NG C) K.length).flatMap MC.cells)/\Rd (w.alloc (.cells #[.int .i64 tr,.bool dn,.int .i64 co,.int .i64 sp,v.c,v.k,v.f] 39)) 4 v.f F.length ((A6 (Fo C K) F).flatMap AA)/\(∀x∈AU 1 C,Rd (w.alloc (.cells #[.int .i64 tr,.bool dn,.int .i64 co,.int .i64 sp,v.c,v.k,v.f] 39)) 2 x.1 x.2.length (x.2.flatMap MC.cells))/\∀x∈AL (A6 (Fo C K) F),Rd (w.alloc (.cells #[.int .i64 tr,.bool dn,.int .i64 co,.int .i64 sp,v.c,v.k,v.f] 39)) 2 x.1 x.2.length (x.2.flatMap MC.cells)):=
  ⟨hc,hkk,hfr,fun x hx=>Rd.of_own (Ag (h.fam.own x (by simp[hx])) bA lR),fun x hx=>Rd.of_own (Ag (h.fam.own x (by simp[hx])) bA lR)⟩
 clear hs h bA hc hfr hkk;unfold NG Fo at*;go_enter Tryz.func15,Tryz.ntmps15;go_wp2_with fail
 refine(H9 v.c C 1 _ l1 HS.out.cell (by omega) (by omega) H.out.1 H.out.2.2.2.1).mono ?_;rintro e u1 ⟨rfl,rfl⟩;have n1:¬CB 1 C<0:=by omega
 go_wp2_with fail
 refine(Ez v.k K.length (CB 1 C) _ l2 (by omega) (by omega) H.out.2.1).mono ?_;rintro e u1 ⟨rfl,rfl⟩;have n2:¬CB 1 C+2*(K.length:Int)<0:=by omega
 have hF:=Hf (CB 1 C+2*(K.length:Int)) F HS.out.frame;have n3:¬Dx (CB 1 C+2*(K.length:Int)) F<0:=by omega
 go_wp2_with fail
 refine(IX v.f F (CB 1 C+2*(K.length:Int)) _ l3 HS.out.frame (by omega) (by omega) H.out.2.2.1 H.out.2.2.2.2).mono ?_;rintro e u1 ⟨rfl,rfl⟩;go_wp2
 go_ret
 exact⟨rfl,HB.out⟩
def Aq(ts:List Int):List MC:=ts.map fun t=>(⟨t,0⟩:MC)
theorem BW(ts:List Int):(Aq ts).length=ts.length:=by simp[Aq]
structure MJ(w u:World)(vp:Value)(f:MF)(al:Option Addr)(cl:Nat)(vc:Value)(V:Value)(k:Nat):Prop where
 fn:Ap u w.heap.size #[vp,.int .i64 f.result,.slice al f.locals.length cl,vc] 131
 res:Ap u (w.heap.size+1) #[.int .i64 0,.int .i64 0,.int .i64 0,.slice none 0 0] 123
 out:Ap u (w.heap.size+1+1+1) #[.int .i64 0,.int .i64 0,.int .i64 0,V] 123
 row:u.ownsRow w.heap.size 128 2 V k (((Aq f.locals).take k).flatMap MC.cells)
 bel:Below w.heap.size w u
structure N6(w u:World)(vp:Value)(f:MF)(al:Option Addr)(cl:Nat)(vc:Value)(V:Value):Prop where
 fn:Ap u w.heap.size #[vp,.int .i64 f.result,.slice al f.locals.length cl,vc] 131
 res:Ap u (w.heap.size+1) #[.int .i64 0,.int .i64 0,.int .i64 0,.slice none 0 0] 123
 out:Ap u (w.heap.size+1+1+1) #[.int .i64 0,.int .i64 0,.int .i64 0,V] 123
 bel:Below w.heap.size w u
theorem MJ.grown{w u u':World}{vp:Value}{f:MF}{al:Option Addr}{cl:Nat}{vc V:Value}{k:Nat}(h:MJ w u vp f al cl vc V k)(hg:u.grownBy u' V.ownBlock):N6 w u' vp f al cl vc V:=
 ⟨h.fn.grown hg h.row (by decide),h.res.grown hg h.row (by decide),h.out.grown hg h.row (by decide),h.bel.grown hg h.bel.size (fun j hj=>(h.row.lt j hj).1)⟩
theorem Ko(g:VF)(f:MF)(w:World)(hs:f.small)(h:CP w g f):
 Calls Tryz.prog 111 #[.agg #[g.p,.int .i64 f.result,g.l,g.c],.int .i64 0,.int .i64 0,.slice none 0 0] w fun e w'=>∃a c,e=.returned (.agg #[.int .i64 0,.int .i64 0,.int .i64 0,.slice a f.locals.length c])/\w'.ownsRow w.heap.size 128 2 (.slice a f.locals.length c) f.locals.length ((Aq f.locals).flatMap MC.cells)/\Below w.heap.size w w':=by
 obtain⟨i0,hi,hz0,hz1,hz2⟩:=info_parts DJ
 have H:Hid (CP w g f/\f.small):=⟨h,hs⟩
 obtain⟨al,cl,el⟩:=h.2.1.is_slice
 obtain⟨vp,vl,vc⟩:=g
 simp only[]at el
 subst el
 obtain⟨_,s2,_⟩:=hs
 clear h
 have E0:Hid (MJ w ((((w.alloc (.cells #[vp,.int .i64 f.result,.slice al f.locals.length cl,vc] 131)).alloc (.cells #[.int .i64 0,.int .i64 0,.int .i64 0,.slice none 0 0] 123)).alloc (.cells #[] 128)).alloc (.cells #[.int .i64 0,.int .i64 0,.int .i64 0,.slice (some ⟨w.heap.size+1+1,0,none⟩) 0 0] 123)) vp f al cl vc (.slice (some ⟨w.heap.size+1+1,0,none⟩) 0 0) 0):=by
  have b1:=Aa w (.cells #[vp,.int .i64 f.result,.slice al f.locals.length cl,vc] 131)
  have k1:=Ap.new w #[vp,.int .i64 f.result,.slice al f.locals.length cl,vc] 131
  generalize hU1:w.alloc (.cells #[vp,.int .i64 f.result,.slice al f.locals.length cl,vc] 131)=U1 at b1 k1⊢
  have z1:U1.heap.size=w.heap.size+1:=by rw[<-hU1];simp
  have b2:=Aa U1 (.cells #[.int .i64 0,.int .i64 0,.int .i64 0,.slice none 0 0] 123)
  have k2:=Ap.new U1 #[.int .i64 0,.int .i64 0,.int .i64 0,.slice none 0 0] 123
  generalize hU2:U1.alloc (.cells #[.int .i64 0,.int .i64 0,.int .i64 0,.slice none 0 0] 123)=U2 at b2 k2⊢
  have z2:U2.heap.size=w.heap.size+1+1:=by rw[<-hU2];simp[z1]
  have b3:=Aa U2 (.cells #[] 128)
  have k3:=Ap.new U2 #[] 128
  generalize hU3:U2.alloc (.cells #[] 128)=U3 at b3 k3⊢
  have z3:U3.heap.size=w.heap.size+1+1+1:=by rw[<-hU3];simp[z2]
  have b4:=Aa U3 (.cells #[.int .i64 0,.int .i64 0,.int .i64 0,.slice (some ⟨w.heap.size+1+1,0,none⟩) 0 0] 123)
  have k4:=Ap.new U3 #[.int .i64 0,.int .i64 0,.int .i64 0,.slice (some ⟨w.heap.size+1+1,0,none⟩) 0 0] 123
  rw[z1]at k2
  rw[z2]at k3
  rw[z3]at k4
  refine⟨((k1.keep b2).keep b3).keep b4,(k2.keep b3).keep b4,k4,?_,Ab (Ab (Ab b1 lR b2) lR b3) lR b4⟩
  exact⟨by simp,.inr ⟨w.heap.size+1+1,0,#[],rfl,by omega,k3.keep b4,Nat.le_refl _,Nat.zero_le _,rfl,by simp[Aq]⟩⟩
 go_enter Tryz.func111,Tryz.ntmps111
 go_wp2_with fail
 go_loopw [10] (fun i wr=>∃(k:Nat) (V:Value),k<=f.locals.length/\i=.int .i64 k/\Hid (MJ w wr vp f al cl vc V k)) (fun i _=>f.locals.length-(intOf i).toNat)
 case atStart=>exact⟨0,_,by omega,rfl,E0⟩
 case round=>
  clear E0
  obtain⟨k,V,hk,rfl,HI⟩:=hrel
  have e2:wr.cell? ⟨w.heap.size,2,none⟩=some (.slice al f.locals.length cl):=HI.out.fn.cell 2
  by_cases hlt:k<f.locals.length
  ·obtain⟨t,ht⟩:∃t,f.locals[k]?=some t:=⟨_,gE hlt⟩
   rcases H.out.1.2.1.2 with⟨e0,_⟩|⟨g',o',c',e1,hc2⟩
   ·omega
   simp only[sJ,true_and]at e1
   obtain⟨rfl,rfl⟩:=e1
   have j0:=Rd.elem An hc2 k t ht 0 _ rfl
   rw[Nat.mul_one,Nat.add_zero]at j0
   rw[<-HI.out.bel.cell (bL j0)]at j0
   have hkL:(k:Int)<(f.locals.length:Int):=by omega
   have bE:Below wr.heap.size wr (wr.alloc (.cells #[.int .i64 t,.int .u32 0] 128)).drew:=Ab (Aa _ _) lR (Ad _)
   have bD:=Ad wr
   have x0:=(HI.out.out.keep bD).cell 3
   have x1:=(HI.out.out.keep bE).cell 3
   have x2:wr.drew.cell? ⟨g',o'+k,none⟩=some (.int .i64 t):=by rw[bD.cell (bL j0)];exact j0
   have x3:wr.drew.cell? ⟨w.heap.size,2,none⟩=some (.slice (some ⟨g',o',none⟩) f.locals.length cl):=(HI.out.fn.keep bD).cell 2
   simp only[gA,gZ,gS]at x0 x1
   have HX:Hid (f.locals[k]?=some t):=ht
   have HC:Hid (((wr.alloc (.cells #[.int .i64 t,.int .u32 0] 128)).drew).ownsRow w.heap.size 128 2 V k (((Aq f.locals).take k).flatMap MC.cells)/\(∀j u,(MC.cells ⟨t,0⟩)[j]?=some u->(wr.alloc (.cells #[.int .i64 t,.int .u32 0] 128)).drew.cell? ((⟨wr.heap.size,0,none⟩:Addr).add j)=some u)/\MJ w (wr.alloc (.cells #[.int .i64 t,.int .u32 0] 128)).drew vp f (some ⟨g',o',none⟩) cl vc V k):=⟨Ag HI.out.row bE lR,fun j u hj=>CA wr ⟨t,0⟩ 128 j u hj,⟨HI.out.fn.keep bE,HI.out.res.keep bE,HI.out.out.keep bE,Ag HI.out.row bE lR,Ab HI.out.bel lR bE⟩⟩
   clear hc2 ht bE bD
   go_wp2_with fail
   go_region_law (first
    |(refine step_append_lies _ rfl (.tmp 25) (.tmp 32) 36 rfl w.heap.size 128 i0 (.agg #[.int .i64 0,.int .u32 0]) 2 16 Tryz.underlying36 hi hz0 hz1 hz2 rfl (by decide) V k (((Aq f.locals).take k).flatMap MC.cells) (by simp[Act.eval]) HC.out.1 ⟨wr.heap.size,0,none⟩ 1 1 (MC.cells ⟨t,0⟩) (by simp[Act.eval]) rfl HC.out.2.1 (Be ⟨t,0⟩) (by omega) (by unfold maxLen;omega) (by omega) HC.out.2.2.bel.size _ rfl ?_;intro gg cap u2 hown hgrow hat hlt2;have HN0:Hid (u2.ownsRow w.heap.size 128 2 (.slice (some ⟨gg,0,none⟩) (k+1) cap) (k+1) (((Aq f.locals).take k).flatMap MC.cells++MC.cells ⟨t,0⟩)/\N6 w u2 vp f (some ⟨g',o',none⟩) cl vc V):=⟨hown,HC.out.2.2.grown hgrow⟩;have y0:=HN0.out.2.out.cell 3;have y1:=HN0.out.2.out.frozen 3;simp only[gA,gZ,gS]at y0;clear hown hgrow hat hlt2))
   all_goals
    have HN:Hid (MJ w (u2.setCell ⟨w.heap.size+1+1+1,3,none⟩ (.slice (some ⟨gg,0,none⟩) (k+1) cap)) vp f (some ⟨g',o',none⟩) cl vc (.slice (some ⟨gg,0,none⟩) (k+1) cap) (k+1)):=by
     refine⟨HN0.out.2.fn.other (by simp only[];omega) _,HN0.out.2.res.other (by simp only[];omega) _,HN0.out.2.out.set 3 _,?_,HN0.out.2.bel.setCell (by simp only[];omega) _⟩
     have hzz:((Aq f.locals).take (k+1)).flatMap MC.cells=((Aq f.locals).take k).flatMap MC.cells++MC.cells ⟨t,0⟩:=by
      rw[De (Aq f.locals) k ⟨t,0⟩ (by simp[Aq,HX.out]),List.flatMap_append]
      simp
     rw[hzz]
     exact ownsRow_setCell_other HN0.out.1 (a:=⟨w.heap.size+1+1+1,3,none⟩) (fun e=>AJ HN0.out.1 HN0.out.2.out (by decide) _ e rfl) _
    clear x0 x1 x2 x3 y0 y1 j0 e2
    go_wp2
    go_roundw
    case rel=>exact⟨k+1,_,by omega,by go_num,HN⟩
    case measure=>simp[intOf];omega
  ·have hkn:k=f.locals.length:=by omega
   have hz:(Aq f.locals).take k=Aq f.locals:=List.take_of_length_le (by rw[BW];omega)
   have hrow:=HI.out.row
   rw[hz,hkn]at hrow
   obtain⟨a3,c3,rfl⟩:∃a c,V=.slice a f.locals.length c:=(Rd.of_own hrow).is_slice
   obtain⟨r0,r1,r2,r3⟩:=HI.out.res.c4
   obtain⟨o0,o1,o2,o3⟩:=HI.out.out.c4
   obtain⟨p0,p1,p2,p3⟩:=HI.out.res.z4
   try dsimp only at r0 r1 r2 r3 o0 o1 o2 o3
   have HR:=AS hrow
   clear hrow hz
   go_wp2_with fail
   have R4:=(((HI.out.res.set 0 (.int .i64 0)).set 1 (.int .i64 0)).set 2 (.int .i64 0)).set 3 (.slice a3 f.locals.length c3)
   obtain⟨q0,q1,q2,q3⟩:=R4.c4
   try simp at q0 q1 q2 q3
   have ne:∀{u:World} {cur:Array Value},u.ownsRow w.heap.size 128 2 (.slice a3 f.locals.length c3) f.locals.length ((Aq f.locals).flatMap MC.cells)->Ap u (w.heap.size+1) cur 123->∀(i:Nat) (x:Value),(u.setCell ⟨w.heap.size+1,i,none⟩ x).ownsRow w.heap.size 128 2 (.slice a3 f.locals.length c3) f.locals.length ((Aq f.locals).flatMap MC.cells):=fun ho hb i x=>ownsRow_setCell_other ho (a:=⟨w.heap.size+1,i,none⟩) (fun e=>AJ ho hb (by decide) _ e rfl) x
   have o4:=ne (ne (ne (ne HR.out HI.out.res 0 (.int .i64 0)) (HI.out.res.set 0 (.int .i64 0)) 1 (.int .i64 0)) ((HI.out.res.set 0 (.int .i64 0)).set 1 (.int .i64 0)) 2 (.int .i64 0)) (((HI.out.res.set 0 (.int .i64 0)).set 1 (.int .i64 0)).set 2 (.int .i64 0)) 3 (.slice a3 f.locals.length c3)
   have b4:Below w.heap.size w ((((wr.setCell ⟨w.heap.size+1,0,none⟩ (.int .i64 0)).setCell ⟨w.heap.size+1,1,none⟩ (.int .i64 0)).setCell ⟨w.heap.size+1,2,none⟩ (.int .i64 0)).setCell ⟨w.heap.size+1,3,none⟩ (.slice a3 f.locals.length c3)):=(((HI.out.bel.setCell (by simp) _).setCell (by simp) _).setCell (by simp) _).setCell (by simp) _
   exact bodyPost_ret (v:=.agg #[.int .i64 0,.int .i64 0,.int .i64 0,.slice a3 f.locals.length c3]) (by simp[results,Tryz.results111,go_sem,q0,q1,q2,q3]) rfl ⟨a3,c3,rfl,o4,b4⟩
theorem Gl{α:Type}(f:α->List Value)(m:Nat)(hf:∀y,(f y).length=m)(ys:List α)(k j:Nat)(y y':α)(u:Value)(hy:ys[k]?=some y)(hj:j<m)(he:f y'=(f y).set j u):(ys.flatMap f).set (k*m+j) u=(ys.set k y').flatMap f:=by
 induction ys generalizing k with
 |nil=>simp at hy
 | cons x r ih=>
  cases k with
  |zero=>
   simp only[gZ,Option.some.injEq]at hy;subst hy;rw[List.set_cons_zero,List.flatMap_cons,List.flatMap_cons,Nat.zero_mul,Nat.zero_add,List.set_append_left _ _ (by rw[hf];exact hj),he]
  |succ k=>
   rw[gS]at hy;rw[List.set_cons_succ,List.flatMap_cons,List.flatMap_cons,List.set_append_right _ _ (by rw[hf,Nat.add_mul];omega),hf,<-ih k hy];congr 2;rw[Nat.add_mul];omega
theorem FI{w:World}{base:Nat}{e:TypeId}{k n m c:Nat}{a:Option Addr}{xs:List Value}(h:w.ownsRow base e k (.slice a n c) n xs)(hm:m<=n):w.ownsRow base e k (.slice a m c) m (xs.take (m*k)):=by
 have hmk:m*k<=n*k:=Nat.mul_le_mul_right k hm;refine⟨by rw[List.length_take,h.1,Nat.min_eq_left hmk],?_⟩;rcases h.2 with⟨e1,e2⟩|⟨g,cap,cur,e1,hb,hg,hnc,hcm,hcs,ht⟩
 ·subst e2
  have hz:m=0:=by omega
  subst hz;exact .inl ⟨e1,rfl⟩
 ·simp only[sJ,true_and]at e1
  obtain⟨rfl,rfl⟩:=e1;refine .inr ⟨g,c,cur,rfl,hb,hg,by omega,hcm,hcs,?_⟩;rw[<-ht,List.take_take,Nat.min_eq_left hmk]
theorem FH{α:Type}(f:α->List Value)(m:Nat)(hf:∀y,(f y).length=m)(ys:List α)(k:Nat):(ys.flatMap f).take (k*m)=(ys.take k).flatMap f:=by
 induction ys generalizing k with
 |nil=>simp
 |cons x r ih=>
  cases k with
  |zero=>simp
  |succ k=>rw[List.flatMap_cons,List.take_succ_cons,List.flatMap_cons,Nat.add_mul,Nat.one_mul,List.take_append,hf,List.take_of_length_le (by rw[hf];omega),<-ih k];congr 2;omega
theorem BG{w:World}{base:Nat}{e:TypeId}{k n m c:Nat}{a:Option Addr}{xs:List Value}(h:w.ownsRow base e k (.slice a n c) m xs):n=m:=by
 obtain⟨a',c',e'⟩:=Al h;simp only[sJ]at e';exact e'.2.1
theorem Df.at{w:World}{B:Nat}{L:List (Value×List MC)}(h:Df w B L){j:Nat}{x:Value×List MC}(hj:L[j]?=some x):w.ownsRow B 128 2 x.1 x.2.length (x.2.flatMap MC.cells):=h.own x (mG hj)
theorem FE{α:Type}(L:List α)(j:Nat)(x y:α)(hj:L[j]?=some x):L=L.take j++x::L.drop (j+1)/\L.set j y=L.take j++y::L.drop (j+1):=by
 obtain⟨hlt,rfl⟩:=gI.1 hj;refine⟨?_,?_⟩
 ·rw[List.getElem_cons_drop,List.take_append_drop]
 ·rw[List.set_eq_take_append_cons_drop,if_pos hlt]
theorem Df.setV{w:World}{B:Nat}{L:List (Value×List MC)}(h:Df w B L){j g n c i:Nat}{vs:List MC}{y:MC}(hj:L[j]?=some (.slice (some ⟨g,0,none⟩) n c,vs))(hi:vs[i]?=some y)(x:MC):
 Df ((w.setCell ⟨g,i*2,none⟩ (.int .i64 x.type)).setCell ⟨g,i*2+1,none⟩ (.int .u32 x.word)) B (L.set j (.slice (some ⟨g,0,none⟩) n c,vs.set i x))/\w.grownBy ((w.setCell ⟨g,i*2,none⟩ (.int .i64 x.type)).setCell ⟨g,i*2+1,none⟩ (.int .u32 x.word)) (some g):=by
 have ho:=h.at hj;simp only[]at ho;have hn:n=vs.length:=BG ho;subst hn;obtain⟨s0,g0⟩:=ho.stored (i*2) (.int .i64 x.type);obtain⟨s1,g1⟩:=s0.stored (i*2+1) (.int .u32 x.word);have e0:=Gl MC.cells 2 MC.cells_length vs i 0 y ⟨x.type,y.word⟩ (.int .i64 x.type) hi (by omega) rfl;rw[Nat.add_zero]at e0;have hi':(vs.set i ⟨x.type,y.word⟩)[i]?=some ⟨x.type,y.word⟩:=by rw[List.getElem?_set_self (gI.1 hi).1]
 have e1:=Gl MC.cells 2 MC.cells_length (vs.set i ⟨x.type,y.word⟩) i 1 ⟨x.type,y.word⟩ x (.int .u32 x.word) hi' (by omega) rfl;rw[e0,e1,List.set_set]at s1;have gg:=g0.trans g1;obtain⟨sp1,sp2⟩:=FE L j _ (Value.slice (some ⟨g,0,none⟩) vs.length c,vs.set i x) hj;refine⟨?_,gg⟩;rw[sp2];rw[sp1]at h;exact Df.put h (by rw[List.length_set]) s1 gg
theorem Df.setW{w:World}{B:Nat}{L:List (Value×List MC)}(h:Df w B L){j g n c i:Nat}{vs:List MC}{y:MC}(hj:L[j]?=some (.slice (some ⟨g,0,none⟩) n c,vs))(hi:vs[i]?=some y)(x:Int):
 Df (w.setCell ⟨g,i*2+1,none⟩ (.int .u32 x)) B (L.set j (.slice (some ⟨g,0,none⟩) n c,vs.set i ⟨y.type,x⟩))/\w.grownBy (w.setCell ⟨g,i*2+1,none⟩ (.int .u32 x)) (some g):=by
 have ho:=h.at hj;simp only[]at ho;have hn:n=vs.length:=BG ho;subst hn;obtain⟨s1,g1⟩:=ho.stored (i*2+1) (.int .u32 x);have e1:=Gl MC.cells 2 MC.cells_length vs i 1 y ⟨y.type,x⟩ (.int .u32 x) hi (by omega) rfl;rw[e1]at s1;obtain⟨sp1,sp2⟩:=FE L j _ (Value.slice (some ⟨g,0,none⟩) vs.length c,vs.set i ⟨y.type,x⟩) hj;refine⟨?_,g1⟩;rw[sp2];rw[sp1]at h;exact Df.put h (by rw[List.length_set]) s1 g1
theorem OD{α β:Type}(f:α×β->List Value)(hf:∀a b b',f (a,b)=f (a,b'))(C:List (α×β))(j:Nat)(a:α)(b b':β)(hj:C[j]?=some (a,b)):(C.set j (a,b')).flatMap f=C.flatMap f:=by
 obtain⟨sp1,sp2⟩:=FE C j _ (a,b') hj;rw[sp2];conv=>rhs;rw[sp1]
 simp only[List.flatMap_append,List.flatMap_cons,hf a b b']
theorem EQ(F:List (MG×Value))(i:Nat)(x:MG×Value):AL (F.set i x)=(AL F).set i (x.2,x.1.locals):=by unfold AL;rw[List.map_set]
theorem Bb{F:List (MG×Value)}{i:Nat}{x:MG×Value}(h:F[i]?=some x):(AL F)[i]?=some (x.2,x.1.locals):=by unfold AL;rw[List.getElem?_map,h];rfl
theorem Kn{α:Type}(L:List α)(i:Nat)(x:α)(h:L[i]?=some x):L.set i x=L:=by
 obtain⟨hlt,rfl⟩:=gI.1 h;exact List.set_getElem_self hlt
theorem Ah.setAt{w:World}{B:Nat}{v:VS}{C:List (Value×List MC)}{K:List MC}{F:List (MG×Value)}(h:Ah w B v C K F){g n c i:Nat}{x:MG×Value}(hv:v.f=.slice (some ⟨g,0,none⟩) n c)(hx:F[i]?=some x)(z:Int):
 Ah (w.setCell ⟨g,i*4+1,none⟩ (.int .i64 z)) B v C K (F.set i ({x.1 with at_:=z},x.2))/\w.grownBy (w.setCell ⟨g,i*4+1,none⟩ (.int .i64 z)) (some g):=by
 have hf:=h.frames;rw[hv]at hf;have hn:n=F.length:=BG hf;subst hn;obtain⟨hb,cur,hg⟩:=Bq hf;obtain⟨s1,g1⟩:=hf.stored (i*4+1) (.int .i64 z);have e1:=Gl AA 4 Au F i 1 x ({x.1 with at_:=z},x.2) (.int .i64 z) hx (by omega) rfl;rw[e1]at s1;refine⟨⟨ownsRow_setCell_other h.cells (a:=⟨g,i*4+1,none⟩) (fun e=>AJ h.cells hg (by decide) g e rfl) _,?_,?_⟩,g1⟩
 ·rw[hv,List.length_set]
  exact s1
 ·rw[EQ]
  simp only[];rw[Kn _ _ _ (Bb hx)];exact h.fam.set hg (by decide) _ _
theorem Ah.ofFam{w w':World}{B g:Nat}{v:VS}{C C':List (Value×List MC)}{K K':List MC}{F F':List (MG×Value)}(h:Ah w B v C K F){j n c:Nat}{vs:List MC}(hj:(C++[(v.k,K)]++AL F)[j]?=some (.slice (some ⟨g,0,none⟩) n c,vs))(hB:B<=w.heap.size)(hg:w.grownBy w' (some g))(hf:Df w' B (C'++[(v.k,K')]++AL F'))(hC:C'.flatMap CU=C.flatMap CU)(lC:C'.length=C.length)(hF:F'.flatMap AA=F.flatMap AA)(lF:F'.length=F.length):Ah w' B v C' K' F':=by
 have wv:Wv B w w':=Wv.of_row (h.fam.at hj) hg hB;refine⟨?_,?_,hf⟩
 ·rw[lC,hC]
  exact wv.own h.cells (by decide)
 ·rw[lF,hF]
  exact wv.own h.frames (by decide)
theorem Ah.setC{w:World}{B:Nat}{v:VS}{C:List (Value×List MC)}{K:List MC}{F:List (MG×Value)}(h:Ah w B v C K F)(hB:B<=w.heap.size){j g n c i:Nat}{vs:List MC}{y:MC}(hj:C[j]?=some (.slice (some ⟨g,0,none⟩) n c,vs))(hi:vs[i]?=some y)(x:MC):
 Ah ((w.setCell ⟨g,i*2,none⟩ (.int .i64 x.type)).setCell ⟨g,i*2+1,none⟩ (.int .u32 x.word)) B v (C.set j (.slice (some ⟨g,0,none⟩) n c,vs.set i x)) K F/\w.grownBy ((w.setCell ⟨g,i*2,none⟩ (.int .i64 x.type)).setCell ⟨g,i*2+1,none⟩ (.int .u32 x.word)) (some g):=by
 have hlt:=(gI.1 hj).1
 have hj':(C++[(v.k,K)]++AL F)[j]?=some (.slice (some ⟨g,0,none⟩) n c,vs):=by
  rw[List.append_assoc,List.getElem?_append_left hlt];exact hj
 obtain⟨f1,g1⟩:=h.fam.setV hj' hi x;refine⟨h.ofFam hj' hB g1 ?_ (OD CU (fun _ _ _=>rfl) C j _ _ _ hj) (List.length_set ..) rfl rfl,g1⟩;rw[List.append_assoc,List.set_append_left _ _ hlt,<-List.append_assoc]at f1;exact f1
theorem Me(F:List (MG×Value))(i:Nat)(x:MG×Value)(ls:List MC)(hx:F[i]?=some x):(F.set i ({x.1 with locals:=ls},x.2)).flatMap AA=F.flatMap AA:=by
 obtain⟨sp1,sp2⟩:=FE F i _ ({x.1 with locals:=ls},x.2) hx;rw[sp2];conv=>rhs;rw[sp1]
 simp only[List.flatMap_append,List.flatMap_cons];rfl
theorem Ny{C:List (Value×List MC)}{k:Value×List MC}{R:List (Value×List MC)}{i:Nat}{x:Value×List MC}(h:R[i]?=some x):(C++[k]++R)[C.length+1+i]?=some x:=by
 rw[List.getElem?_append_right (by simp)];simp only[List.length_append,List.length_cons,List.length_nil];rw[show C.length+1+i-(C.length+(0+1))=i by omega];exact h
theorem Mq{C:List (Value×List MC)}{k:Value×List MC}{R:List (Value×List MC)}{i:Nat}{x:Value×List MC}:(C++[k]++R).set (C.length+1+i) x=C++[k]++R.set i x:=by
 rw[List.set_append_right _ _ (by simp)];simp only[List.length_append,List.length_cons,List.length_nil];rw[show C.length+1+i-(C.length+(0+1))=i by omega]
theorem Ah.setL{w:World}{B:Nat}{v:VS}{C:List (Value×List MC)}{K:List MC}{F:List (MG×Value)}(h:Ah w B v C K F)(hB:B<=w.heap.size){j g n c i:Nat}{fr:MG}{y:MC}(hj:F[j]?=some (fr,.slice (some ⟨g,0,none⟩) n c))(hi:fr.locals[i]?=some y)(x:MC):
 Ah ((w.setCell ⟨g,i*2,none⟩ (.int .i64 x.type)).setCell ⟨g,i*2+1,none⟩ (.int .u32 x.word)) B v C K (F.set j ({fr with locals:=fr.locals.set i x},.slice (some ⟨g,0,none⟩) n c))/\w.grownBy ((w.setCell ⟨g,i*2,none⟩ (.int .i64 x.type)).setCell ⟨g,i*2+1,none⟩ (.int .u32 x.word)) (some g):=by
 have hj':=Ny (C:=C) (k:=(v.k,K)) (Bb hj);simp only[]at hj';obtain⟨f1,g1⟩:=h.fam.setV hj' hi x;refine⟨h.ofFam hj' hB g1 ?_ rfl rfl (Me F j _ _ hj) (List.length_set ..),g1⟩;rw[Mq]at f1;rw[EQ];exact f1
theorem Ah.setLW{w:World}{B:Nat}{v:VS}{C:List (Value×List MC)}{K:List MC}{F:List (MG×Value)}(h:Ah w B v C K F)(hB:B<=w.heap.size){j g n c i:Nat}{fr:MG}{y:MC}(hj:F[j]?=some (fr,.slice (some ⟨g,0,none⟩) n c))(hi:fr.locals[i]?=some y)(x:Int):
 Ah (w.setCell ⟨g,i*2+1,none⟩ (.int .u32 x)) B v C K (F.set j ({fr with locals:=fr.locals.set i ⟨y.type,x⟩},.slice (some ⟨g,0,none⟩) n c))/\w.grownBy (w.setCell ⟨g,i*2+1,none⟩ (.int .u32 x)) (some g):=by
 have hj':=Ny (C:=C) (k:=(v.k,K)) (Bb hj);simp only[]at hj';obtain⟨f1,g1⟩:=h.fam.setW hj' hi x;refine⟨h.ofFam hj' hB g1 ?_ rfl rfl (Me F j _ _ hj) (List.length_set ..),g1⟩;rw[Mq]at f1;rw[EQ];exact f1
theorem Df.keep'{u u':World}{B:Nat}{L:List (Value×List MC)}(h:Df u B L)(hb:Below u.heap.size u u'):Df u' B L:=⟨fun r hr=>Ag (h.own r hr) hb lR,h.sep⟩
theorem Ah.grow{u u':World}{B:Nat}{v:VS}{C:List (Value×List MC)}{K:List MC}{F:List (MG×Value)}(h:Ah u B v C K F)(hb:Below u.heap.size u u'):Ah u' B v C K F:=⟨Ag h.cells hb lR,Ag h.frames hb lR,h.fam.keep' hb⟩
theorem Ah.stack{w w':World}{B:Nat}{v:VS}{C:List (Value×List MC)}{K K':List MC}{F:List (MG×Value)}(h:Ah w B v C K F)(hB:B<=w.heap.size){b:Value}(hg:w.grownBy w' v.k.ownBlock)(ho:w'.ownsRow B 128 2 b K'.length (K'.flatMap MC.cells))(hat:b.ownBlock=v.k.ownBlock\/∀g,b.ownBlock=some g->w.heap.size<=g):Ah w' B {v with k:=b} C K' F:=by
 have hk:=h.fam.own (v.k,K) (by simp);simp only[]at hk;have wv:Wv B w w':=Wv.of_row hk hg hB;have hsep:=h.fam.sep
 have hAp:∀r∈C++AL F,Es (v.k,K) r:=by
  intro r hr;rw[List.append_assoc,List.pairwise_append]at hsep;rcases List.mem_append.1 hr with hr|hr
  ·exact(hsep.2.2 r hr _ (by simp)).symm
  ·exact(List.pairwise_cons.1 hsep.2.1).1 r (by simpa using hr)
 have hAp':∀r∈C++AL F,Es (b,K') r:=by
  intro r hr g hgb e;rcases hat with hat|hat
  ·exact hAp r hr g (by simp only[]at hgb⊢;rw[<-hat];exact hgb) e
  ·have h1:=hat g hgb
   have h2:=(h.fam.own r (by simp only[List.mem_append]at hr⊢;rcases hr with hr|hr<;>simp[hr])).lt g e;omega
 refine⟨wv.own h.cells (by decide),wv.own h.frames (by decide),?_,?_⟩
 ·intro r hr
  simp only[List.mem_append,List.mem_cons,List.not_mem_nil,or_false]at hr;rcases hr with(hr|rfl)|hr
  ·exact Bn (h.fam.own r (by simp[hr])) hg (fun g hgr e=>hAp r (by simp[hr]) g e.symm hgr)
  ·exact ho
  ·exact Bn (h.fam.own r (by simp[hr])) hg (fun g hgr e=>hAp r (by simp[hr]) g e.symm hgr)
 ·rw[List.append_assoc,List.pairwise_append]at hsep⊢
  refine⟨hsep.1,?_,?_⟩
  ·simp only[List.cons_append,List.nil_append,List.pairwise_cons]
   refine⟨fun r hr=>hAp' r (by simp[hr]),?_⟩;have:=hsep.2.1;simp only[List.cons_append,List.nil_append,List.pairwise_cons]at this;exact this.2
  ·intro a ha r hr
   simp only[List.cons_append,List.nil_append,List.mem_cons]at hr;rcases hr with rfl|hr
   ·exact(hAp' a (by simp[ha])).symm
   ·exact hsep.2.2 a ha r (by simp[hr])
theorem JC(w:World)(r:Option Nat):w.grownBy w r:=⟨rfl,rfl,rfl,Nat.le_refl _,fun _ _ _=>rfl⟩
theorem Ah.popK{w:World}{B:Nat}{v:VS}{C:List (Value×List MC)}{K:List MC}{F:List (MG×Value)}(h:Ah w B v C K F)(hB:B<=w.heap.size){a:Option Addr}{n c m:Nat}(hv:v.k=.slice a n c)(hm:m<=K.length):Ah w B {v with k:=.slice a m c} C (K.take m) F:=by
 have hk:=h.fam.own (v.k,K) (by simp);simp only[]at hk;rw[hv]at hk;have hn:n=K.length:=BG hk;subst hn;have hs:=FI hk hm;rw[FH MC.cells 2 MC.cells_length]at hs;refine h.stack hB (b:=.slice a m c) (JC w _) ?_ (.inl ?_)
 ·rw[List.length_take,Nat.min_eq_left hm]
  exact hs
 ·rw[hv]
  cases a<;>rfl
theorem Ah.pushF{w w1 w2:World}{B:Nat}{v:VS}{C:List (Value×List MC)}{K:List MC}{F:List (MG×Value)}(h:Ah w B v C K F)(hB:B<=w.heap.size)(hb:Below w.heap.size w w1){x:MG×Value}(hl:w1.ownsRow w.heap.size 128 2 x.2 x.1.locals.length (x.1.locals.flatMap MC.cells)){b:Value}(hg:w1.grownBy w2 v.f.ownBlock)(ho:w2.ownsRow B 123 4 b (F.length+1) (F.flatMap AA++AA x)):Ah w2 B {v with f:=b} C K (F++[x]):=by
 have h1:=h.grow hb
 have apart:∀{e:TypeId} {s:Value} {k n:Nat} {xs:List Value} {B':Nat},w1.ownsRow B' e k s n xs->e≠123->w2.ownsRow B' e k s n xs:=by
  intro e s k n xs B' ho' hne;refine Bn ho' hg (fun g hgs e'=> ?_);rcases h1.frames.2 with⟨e1,_⟩|⟨g1,cap,cur,e1,_,hg1,_⟩
  ·rw[e1]at e';cases e'
  ·rw[e1]at e'
   simp only[Value.ownBlock,Option.some.injEq]at e';subst e';exact AJ ho' hg1 hne g hgs rfl
 refine⟨apart h1.cells (by decide),?_,?_,?_⟩
 ·rw[List.length_append,List.flatMap_append]
  simpa using ho
 ·intro r hr
  simp only[AL,List.map_append,List.map_cons,List.map_nil,List.mem_append,List.mem_cons,List.not_mem_nil,or_false]at hr;rcases hr with(hr|rfl)|hr|rfl
  ·exact apart (h1.fam.own r (by simp[hr])) (by decide)
  ·exact apart (h1.fam.own (v.k,K) (by simp)) (by decide)
  ·exact apart (h1.fam.own r (by simp only[AL,List.mem_append];exact .inr hr)) (by decide)
  ·exact apart (AK hl hB) (by decide)
 ·rw[show C++[(v.k,K)]++AL (F++[x])=(C++[(v.k,K)]++AL F)++[(x.2,x.1.locals)]by simp[AL]]
  refine List.pairwise_append.2 ⟨h.fam.sep,by simp,fun a ha r hr=> ?_⟩;simp only[List.mem_cons,List.not_mem_nil,or_false]at hr;subst hr;intro g hga e;have h2:=(h.fam.own a ha).lt g hga;have h3:=hl.lt g e;omega
theorem Ah.popF{w:World}{B:Nat}{v:VS}{C:List (Value×List MC)}{K:List MC}{F:List (MG×Value)}(h:Ah w B v C K F){a:Option Addr}{n c m:Nat}(hv:v.f=.slice a n c)(hm:m<=F.length):Ah w B {v with f:=.slice a m c} C K (F.take m):=by
 have hk:=h.frames;rw[hv]at hk;have hn:n=F.length:=BG hk;subst hn;have hs:=FI hk hm;rw[FH AA 4 Au]at hs;have hsub:(C++[(v.k,K)]++AL (F.take m)).Sublist (C++[(v.k,K)]++AL F):=List.Sublist.append (List.Sublist.refl _) (by unfold AL;rw[List.map_take];exact List.take_sublist _ _);refine⟨h.cells,?_,fun r hr=>h.fam.own r (hsub.subset hr),h.fam.sep.sublist hsub⟩;rw[List.length_take,Nat.min_eq_left hm];exact hs
theorem Ah.noF{w:World}{B:Nat}{v:VS}{C:List (Value×List MC)}{K:List MC}{F:List (MG×Value)}(h:Ah w B v C K F):Ah w B {v with f:=.slice none 0 0} C K []:=by
 have hsub:(C++[(v.k,K)]++AL []).Sublist (C++[(v.k,K)]++AL F):=List.Sublist.append (List.Sublist.refl _) (by simp[AL]);exact⟨h.cells,World.ownsRow_nil _ _ _ _,fun r hr=>h.fam.own r (hsub.subset hr),h.fam.sep.sublist hsub⟩
theorem Nx{A D:List (Value×List MC)}{x:Value×List MC}(h:(A++D).Pairwise Es)(hx:∀r∈A++D,Es x r):(A++[x]++D).Pairwise Es:=by
 rw[List.pairwise_append]at h;rw[List.append_assoc,List.pairwise_append];refine⟨h.1,?_,?_⟩
 ·simp only[List.cons_append,List.nil_append,List.pairwise_cons]
  exact⟨fun r hr=>hx r (by simp[hr]),h.2.1⟩
 ·intro a ha r hr
  simp only[List.cons_append,List.nil_append,List.mem_cons]at hr;rcases hr with rfl|hr
  ·exact(hx a (by simp[ha])).symm
  ·exact h.2.2 a ha r hr
theorem Ah.pushC{w w1 w2:World}{B:Nat}{v:VS}{C:List (Value×List MC)}{K:List MC}{F:List (MG×Value)}(h:Ah w B v C K F)(hB:B<=w.heap.size)(hb:Below w.heap.size w w1){x:Value×List MC}(hl:w1.ownsRow w.heap.size 128 2 x.1 x.2.length (x.2.flatMap MC.cells)){b:Value}(hg:w1.grownBy w2 v.c.ownBlock)(ho:w2.ownsRow B 36 1 b (C.length+1) (C.flatMap CU++[x.1])):Ah w2 B {v with c:=b} (C++[x]) K F:=by
 have h1:=h.grow hb
 have apart:∀{e:TypeId} {s:Value} {k n:Nat} {xs:List Value} {B':Nat},w1.ownsRow B' e k s n xs->e≠36->w2.ownsRow B' e k s n xs:=by
  intro e s k n xs B' ho' hne;refine Bn ho' hg (fun g hgs e'=> ?_);rcases h1.cells.2 with⟨e1,_⟩|⟨g1,cap,cur,e1,_,hg1,_⟩
  ·rw[e1]at e';cases e'
  ·rw[e1]at e'
   simp only[Value.ownBlock,Option.some.injEq]at e';subst e';exact AJ ho' hg1 hne g hgs rfl
 refine⟨?_,apart h1.frames (by decide),?_,?_⟩
 ·rw[List.length_append,List.flatMap_append]
  simpa[CU]using ho
 ·intro r hr
  simp only[List.mem_append,List.mem_cons,List.not_mem_nil,or_false]at hr;rcases hr with((hr|rfl)|rfl)|hr
  ·exact apart (h1.fam.own r (by simp[hr])) (by decide)
  ·exact apart (AK hl hB) (by decide)
  ·exact apart (h1.fam.own (v.k,K) (by simp)) (by decide)
  ·exact apart (h1.fam.own r (by simp[hr])) (by decide)
 ·rw[List.append_assoc]
  refine Nx (by rw[<-List.append_assoc];exact h.fam.sep) (fun r hr=> ?_);intro g hgx e;have h2:=(h.fam.own r (by rw[List.append_assoc];exact hr)).lt g e;have h3:=hl.lt g hgx;omega
theorem Ah.other{w:World}{B:Nat}{v:VS}{C:List (Value×List MC)}{K:List MC}{F:List (MG×Value)}(h:Ah w B v C K F){g:Nat}{cur:Array Value}{t:TypeId}(hg:Ap w g cur t)(h1:128≠t)(h2:36≠t)(h3:123≠t)(i:Nat)(x:Value):Ah (w.setCell ⟨g,i,none⟩ x) B v C K F:=
 ⟨ownsRow_setCell_other h.cells (a:=⟨g,i,none⟩) (fun e=>AJ h.cells hg h2 g e rfl) _,ownsRow_setCell_other h.frames (a:=⟨g,i,none⟩) (fun e=>AJ h.frames hg h3 g e rfl) _,h.fam.set hg h1 _ _⟩
theorem Ah.base{w:World}{B B':Nat}{v:VS}{C:List (Value×List MC)}{K:List MC}{F:List (MG×Value)}(h:Ah w B v C K F)(hb:B'<=B):Ah w B' v C K F:=⟨AK h.cells hb,AK h.frames hb,fun r hr=>AK (h.fam.own r hr) hb,h.fam.sep⟩
structure Co(B:Nat)(w u:World):Prop where
 low:Below B w u
 st:∀b cur,Ap w b cur 39->Ap u b cur 39
 hB:B<=w.heap.size
theorem Co.of{B:Nat}{w u:World}(h:Below w.heap.size w u)(hB:B<=w.heap.size):Co B w u:=⟨h.mono hB,fun b cur hb=>hb.keep h,hB⟩
theorem Co.on{B:Nat}{w u u':World}(h:Co B w u)(hb:Below u.heap.size u u'):Co B w u':=⟨h.low.trans (hb.mono (Nat.le_trans h.hB h.low.size)),fun b cur hk=>(h.st b cur hk).keep hb,h.hB⟩
theorem Co.setCell{B:Nat}{w u:World}(h:Co B w u){a:Addr}(ha:w.heap.size<=a.block)(x:Value):Co B w (u.setCell a x):=⟨h.low.setCell (Nat.le_trans h.hB ha) x,fun b cur hk=>(h.st b cur hk).other (fun e=>by have:=hk.lt;omega) x,h.hB⟩
theorem Co.other{B:Nat}{w u:World}(h:Co B w u){g:Nat}{cu:Array Value}{ty:TypeId}(hg:Ap u g cu ty)(hne:39≠ty)(hBg:B<=g)(i:Nat)(x:Value):Co B w (u.setCell ⟨g,i,none⟩ x):=⟨h.low.setCell hBg x,fun b cur hk=>(h.st b cur hk).other (fun e=>by
 have h1:=h.st b cur hk;simp only[]at e;subst e;unfold Ap at h1 hg;rw[h1]at hg;simp only[Option.some.injEq,Obj.cells.injEq]at hg;exact hne hg.2.1) x,h.hB⟩
theorem Co.grown{B:Nat}{w u u':World}(h:Co B w u){e:TypeId}{k m:Nat}{v:Value}{bs:List Value}(hg:u.grownBy u' v.ownBlock)(ho:u.ownsRow B e k v m bs)(hne:39≠e):Co B w u':=⟨h.low.grown hg (Nat.le_trans h.hB h.low.size) (fun j hj=>(ho.lt j hj).1),fun b cur hk=>(h.st b cur hk).grown hg ho hne,h.hB⟩
theorem Co.rows{B:Nat}{w u u':World}(h:Co B w u){g:Nat}{cu:Array Value}{ty:TypeId}(hg:u.grownBy u' (some g))(hk:Ap u g cu ty)(hne:39≠ty)(hBg:B<=g):Co B w u':=⟨h.low.grown hg (Nat.le_trans h.hB h.low.size) (fun j hj=>by simp only[Option.some.injEq]at hj;omega),fun b cur hb=>by
 have h1:=h.st b cur hb;unfold Ap at*;rw[hg.block _ (Array.getElem?_eq_some_iff.1 h1).1 ?_]
 ·exact h1
 ·intro e
  simp only[Option.some.injEq]at e;subst e;rw[h1]at hk;simp only[Option.some.injEq,Obj.cells.injEq]at hk;exact hne hk.2.1,h.hB⟩
theorem Co.trans{B:Nat}{w u u':World}(h:Co B w u)(h':Co B u u'):Co B w u':=⟨h.low.trans h'.low,fun b cur hk=>h'.st b cur (h.st b cur hk),h.hB⟩
theorem Ah.o7{u:World}{B:Nat}{V:VS}{C:List (Value×List MC)}{K:List MC}{F:List (MG×Value)}(h:Ah u B V C K F){b:Nat}{a0 a1 a2 a3 a4 a5 a6:Value}(hb:Ap u b #[a0,a1,a2,a3,a4,a5,a6] 39)(x0 x1 x2 x3 x4 x5 x6:Value):Ah (((((((u.setCell ⟨b,0,none⟩ x0).setCell ⟨b,1,none⟩ x1).setCell ⟨b,2,none⟩ x2).setCell ⟨b,3,none⟩ x3).setCell ⟨b,4,none⟩ x4).setCell ⟨b,5,none⟩ x5).setCell ⟨b,6,none⟩ x6) B V C K F:=by
 have R0:=hb.set 0 x0;have R1:=R0.set 1 x1;have R2:=R1.set 2 x2;have R3:=R2.set 3 x3;have R4:=R3.set 4 x4;have R5:=R4.set 5 x5;exact((((((h.other hb (by decide) (by decide) (by decide) 0 x0).other R0 (by decide) (by decide) (by decide) 1 x1).other R1 (by decide) (by decide) (by decide) 2 x2).other R2 (by decide) (by decide) (by decide) 3 x3).other R3 (by decide) (by decide) (by decide) 4 x4).other R4 (by decide) (by decide) (by decide) 5 x5).other R5 (by decide) (by decide) (by decide) 6 x6
theorem Co.s7{B b:Nat}{w u:World}(h:Co B w u)(hb:w.heap.size<=b)(y0 y1 y2 y3 y4 y5 y6:Value):Co B w (((((((u.setCell ⟨b,0,none⟩ y0).setCell ⟨b,1,none⟩ y1).setCell ⟨b,2,none⟩ y2).setCell ⟨b,3,none⟩ y3).setCell ⟨b,4,none⟩ y4).setCell ⟨b,5,none⟩ y5).setCell ⟨b,6,none⟩ y6):=((((((h.setCell hb _).setCell hb _).setCell hb _).setCell hb _).setCell hb _).setCell hb _).setCell hb _
structure LC(w u:World)(s:MS)(v V:VS)(C:List (Value×List MC))(K:List MC)(F:List (MG×Value)):Prop where
 sb:Ap u w.heap.size #[.int .i64 s.trap,.bool s.done,.int .i64 s.cost,.int .i64 s.steps,v.c,v.k,v.f] 39
 rb:Ap u (w.heap.size+1) #[.int .i64 0,.bool false,.int .i64 0,.int .i64 0,.slice none 0 0,.slice none 0 0,.slice none 0 0] 39
 ob:Ap u (w.heap.size+1+1) #[.int .i64 s.trap,.bool s.done,.int .i64 s.cost,.int .i64 s.steps,V.c,V.k,V.f] 39
 own:Ah u w.heap.size V C K F
 bel:Below w.heap.size w u
theorem LC.keep{w u u':World}{s:MS}{v V:VS}{C:List (Value×List MC)}{K:List MC}{F:List (MG×Value)}(h:LC w u s v V C K F)(hb:Below u.heap.size u u'):LC w u' s v V C K F:=⟨h.sb.keep hb,h.rb.keep hb,h.ob.keep hb,h.own.grow hb,Ab h.bel lR hb⟩
structure Ip(w u:World)(s:MS)(v V:VS):Prop where
 sb:Ap u w.heap.size #[.int .i64 s.trap,.bool s.done,.int .i64 s.cost,.int .i64 s.steps,v.c,v.k,v.f] 39
 rb:Ap u (w.heap.size+1) #[.int .i64 0,.bool false,.int .i64 0,.int .i64 0,.slice none 0 0,.slice none 0 0,.slice none 0 0] 39
 ob:Ap u (w.heap.size+1+1) #[.int .i64 s.trap,.bool s.done,.int .i64 s.cost,.int .i64 s.steps,V.c,V.k,V.f] 39
 bel:Below w.heap.size w u
theorem Ip.keep{w u u':World}{s:MS}{v V:VS}(h:Ip w u s v V)(hb:Below u.heap.size u u'):Ip w u' s v V:=⟨h.sb.keep hb,h.rb.keep hb,h.ob.keep hb,Ab h.bel lR hb⟩
theorem LC.blks{w u:World}{s:MS}{v V:VS}{C:List (Value×List MC)}{K:List MC}{F:List (MG×Value)}(h:LC w u s v V C K F):Ip w u s v V:=⟨h.sb,h.rb,h.ob,h.bel⟩
theorem Ip.of(w:World)(s:MS)(v:VS):Ip w (((w.alloc (.cells #[.int .i64 s.trap,.bool s.done,.int .i64 s.cost,.int .i64 s.steps,v.c,v.k,v.f] 39)).alloc (.cells #[.int .i64 0,.bool false,.int .i64 0,.int .i64 0,.slice none 0 0,.slice none 0 0,.slice none 0 0] 39)).alloc (.cells #[.int .i64 s.trap,.bool s.done,.int .i64 s.cost,.int .i64 s.steps,v.c,v.k,v.f] 39)) s v v:=by
 have b1:=Aa w (.cells #[.int .i64 s.trap,.bool s.done,.int .i64 s.cost,.int .i64 s.steps,v.c,v.k,v.f] 39);have k1:=Ap.new w #[.int .i64 s.trap,.bool s.done,.int .i64 s.cost,.int .i64 s.steps,v.c,v.k,v.f] 39;generalize hU1:w.alloc (.cells #[.int .i64 s.trap,.bool s.done,.int .i64 s.cost,.int .i64 s.steps,v.c,v.k,v.f] 39)=U1 at b1 k1⊢;have z1:U1.heap.size=w.heap.size+1:=by rw[<-hU1];simp
 have b2:=Aa U1 (.cells #[.int .i64 0,.bool false,.int .i64 0,.int .i64 0,.slice none 0 0,.slice none 0 0,.slice none 0 0] 39);have k2:=Ap.new U1 #[.int .i64 0,.bool false,.int .i64 0,.int .i64 0,.slice none 0 0,.slice none 0 0,.slice none 0 0] 39;generalize hU2:U1.alloc (.cells #[.int .i64 0,.bool false,.int .i64 0,.int .i64 0,.slice none 0 0,.slice none 0 0,.slice none 0 0] 39)=U2 at b2 k2⊢;have z2:U2.heap.size=w.heap.size+1+1:=by rw[<-hU2];simp[z1]
 have b3:=Aa U2 (.cells #[.int .i64 s.trap,.bool s.done,.int .i64 s.cost,.int .i64 s.steps,v.c,v.k,v.f] 39);have k3:=Ap.new U2 #[.int .i64 s.trap,.bool s.done,.int .i64 s.cost,.int .i64 s.steps,v.c,v.k,v.f] 39;rw[z1]at k2;rw[z2]at k3;exact⟨(k1.keep b2).keep b3,k2.keep b3,k3,Ab (Ab b1 lR b2) lR b3⟩
theorem Ip.set{w u:World}{s:MS}{v V:VS}(h:Ip w u s v V)(i:Nat)(x:Value):Ap (u.setCell ⟨w.heap.size+1+1,i,none⟩ x) w.heap.size #[.int .i64 s.trap,.bool s.done,.int .i64 s.cost,.int .i64 s.steps,v.c,v.k,v.f] 39/\Ap (u.setCell ⟨w.heap.size+1+1,i,none⟩ x) (w.heap.size+1) #[.int .i64 0,.bool false,.int .i64 0,.int .i64 0,.slice none 0 0,.slice none 0 0,.slice none 0 0] 39/\Below w.heap.size w (u.setCell ⟨w.heap.size+1+1,i,none⟩ x):=
 ⟨h.sb.other (by simp only[];omega) _,h.rb.other (by simp only[];omega) _,h.bel.setCell (by simp only[];omega) _⟩
theorem Ip.setC{w u:World}{s:MS}{v V:VS}(h:Ip w u s v V)(x:Value):Ip w (u.setCell ⟨w.heap.size+1+1,4,none⟩ x) s v {V with c:=x}:=⟨(h.set 4 x).1,(h.set 4 x).2.1,h.ob.set 4 x,(h.set 4 x).2.2⟩
theorem Ip.setK{w u:World}{s:MS}{v V:VS}(h:Ip w u s v V)(x:Value):Ip w (u.setCell ⟨w.heap.size+1+1,5,none⟩ x) s v {V with k:=x}:=⟨(h.set 5 x).1,(h.set 5 x).2.1,h.ob.set 5 x,(h.set 5 x).2.2⟩
theorem Ip.setF{w u:World}{s:MS}{v V:VS}(h:Ip w u s v V)(x:Value):Ip w (u.setCell ⟨w.heap.size+1+1,6,none⟩ x) s v {V with f:=x}:=⟨(h.set 6 x).1,(h.set 6 x).2.1,h.ob.set 6 x,(h.set 6 x).2.2⟩
theorem Ip.grown{w u u':World}{s:MS}{v V:VS}(h:Ip w u s v V){e:TypeId}{k n:Nat}{r:Value}{xs:List Value}(hg:u.grownBy u' r.ownBlock)(ho:u.ownsRow w.heap.size e k r n xs)(hne:39≠e):Ip w u' s v V:=
 ⟨h.sb.grown hg ho hne,h.rb.grown hg ho hne,h.ob.grown hg ho hne,h.bel.grown hg h.bel.size (fun j hj=>(ho.lt j hj).1)⟩
theorem Pa(u:World)(x:Value)(t:TypeId):∀j y,[x][j]?=some y->(u.alloc (.cells #[x] t)).cell? ((⟨u.heap.size,0,none⟩:Addr).add j)=some y:=fun j y hj=>by
 rw[CW,Nat.zero_add,cell_of_row _ _ _ _ _ _ (Ck u #[x] t)];simpa using hj
theorem LC.pushC{w wr u6 u8:World}{s:MS}{v V:VS}{C:List (Value×List MC)}{K:List MC}{F:List (MG×Value)}(h:LC w wr s v V C K F)(hb:Below wr.heap.size wr u6){x:Value×List MC}(ho:u6.ownsRow wr.heap.size 128 2 x.1 x.2.length (x.2.flatMap MC.cells)){b:Value}(hg:(u6.alloc (.cells #[x.1] 36)).grownBy u8 V.c.ownBlock)(hown:u8.ownsRow w.heap.size 36 1 b (C.length+1) (C.flatMap CU++[x.1])):LC w (u8.setCell ⟨w.heap.size+1+1,4,none⟩ b) s v {V with c:=b} (C++[x]) K F:=by
 have b7:=Ab hb lR (Aa u6 (.cells #[x.1] 36));have h7:=h.keep b7;have hl:=Ag ho (Aa u6 (.cells #[x.1] 36)) lR;have h8:=h.own.pushC h.bel.size b7 hl hg hown;have k8:=h7.blks.grown hg h7.own.cells (by decide);have k9:=k8.setC b;exact⟨k9.sb,k9.rb,k9.ob,h8.other k8.ob (by decide) (by decide) (by decide) 4 b,k9.bel⟩
theorem LC.pushF{w wr u6 u8:World}{s:MS}{v V:VS}{C:List (Value×List MC)}{K:List MC}{F:List (MG×Value)}(h:LC w wr s v V C K F)(hb:Below wr.heap.size wr u6){x:MG×Value}(ho:u6.ownsRow wr.heap.size 128 2 x.2 x.1.locals.length (x.1.locals.flatMap MC.cells)){b:Value}(hg:u6.grownBy u8 V.f.ownBlock)(hown:u8.ownsRow w.heap.size 123 4 b (F.length+1) (F.flatMap AA++AA x)):LC w (u8.setCell ⟨w.heap.size+1+1,6,none⟩ b) s v {V with f:=b} C K (F++[x]):=by
 have h7:=h.keep hb;have h8:=h.own.pushF h.bel.size hb ho hg hown;have k8:=h7.blks.grown hg h7.own.frames (by decide);have k9:=k8.setF b;exact⟨k9.sb,k9.rb,k9.ob,h8.other k8.ob (by decide) (by decide) (by decide) 6 b,k9.bel⟩
theorem LC.start{w u:World}{s:MS}{v V:VS}(h:Ip w u s v V){k:Value}{K:List MC}(ho:u.ownsRow w.heap.size 128 2 k K.length (K.flatMap MC.cells)):LC w (((u.setCell ⟨w.heap.size+1+1,5,none⟩ k).setCell ⟨w.heap.size+1+1,4,none⟩ (.slice none 0 0)).setCell ⟨w.heap.size+1+1,6,none⟩ (.slice none 0 0)) s v ⟨.slice none 0 0,k,.slice none 0 0⟩ [] K []:=by
 have k1:=h.setK k;have k2:=k1.setC (.slice none 0 0);have k3:=k2.setF (.slice none 0 0);have o0:Ah u w.heap.size ⟨.slice none 0 0,k,.slice none 0 0⟩ [] K []:=⟨World.ownsRow_nil _ _ _ _,World.ownsRow_nil _ _ _ _,⟨fun r hr=>by simp[AL]at hr;subst hr;exact ho,by simp[AL]⟩⟩;exact⟨k3.sb,k3.rb,k3.ob,((o0.other h.ob (by decide) (by decide) (by decide) 5 k).other k1.ob (by decide) (by decide) (by decide) 4 _).other k2.ob (by decide) (by decide) (by decide) 6 _,k3.bel⟩
theorem LO(v:VS)(s:MS)(w:World)(hs:s.small)(h:Og w v s):
 Calls Tryz.prog 29 #[.agg #[.int .i64 s.trap,.bool s.done,.int .i64 s.cost,.int .i64 s.steps,v.c,v.k,v.f]] w fun e w'=>∃C F V,e=.returned (.agg #[.int .i64 s.trap,.bool s.done,.int .i64 s.cost,.int .i64 s.steps,V.c,V.k,V.f])/\s=Ao s.trap s.done s.cost s.steps C s.stack F/\Ah w' w.heap.size V C s.stack F/\Below w.heap.size w w':=by
 obtain⟨i0,hi,hz0,hz1,hz2⟩:=info_parts N5;obtain⟨j0,hj,hy0,hy1,hy2⟩:=info_parts Mg;have H:=h2 hs h;obtain⟨xs,hxs,hxr,hxe⟩:=h.cells;obtain⟨a1,c1,e1⟩:=hxr.is_slice;obtain⟨a2,c2,e2⟩:=h.stack.is_slice;obtain⟨ys,hys,hyr,hye⟩:=h.frames;obtain⟨a3,c3,e3⟩:=hyr.is_slice;obtain⟨vc,vk,vf⟩:=v;simp only[]at e1 e2 e3;subst e1 e2 e3;have HC:=h3 hxs hxr hxe;have HF:=h3 hys hyr hye;clear hs h hxs hxr hxe hys hyr hye;have E0:Hid _:=Ip.of w s ⟨.slice a1 s.cells.length c1,.slice a2 s.stack.length c2,.slice a3 s.frames.length c3⟩;go_enter Tryz.func29,Tryz.ntmps29;go_wp2_with fail
 refine(Cs (.slice a2 s.stack.length c2) s.stack _ H.out.1.stack (H.out.2.stack.keep E0.out.bel lR)).mono ?_;rintro e u1 ⟨ak,ck,rfl,own1,b1⟩;have E1:=h2 (E0.out.keep b1) (AK own1 E0.out.bel.size);clear own1 b1 E0;have f5:=E1.out.1.ob.frozen 5;have f4:=E1.out.1.ob.frozen 4;have f6:=E1.out.1.ob.frozen 6;have o5:=E1.out.1.ob.cell 5;have o4:=E1.out.1.ob.cell 4;have o6:=E1.out.1.ob.cell 6;simp only[gA,gZ,gS]at o4 o5 o6;have E2:Hid _:=LC.start E1.out.1 E1.out.2;go_wp2_with fail
 go_loopw [4] (fun i wr=>∃(k:Nat) (Vc:Value) (C:List (Value×List MC)),k<=s.cells.length/\i=.int .i64 k/\Hid (C.map Prod.snd=s.cells.take k/\LC w wr s ⟨.slice a1 s.cells.length c1,.slice a2 s.stack.length c2,.slice a3 s.frames.length c3⟩ ⟨Vc,.slice ak s.stack.length ck,.slice none 0 0⟩ C s.stack [])) (fun i _=>s.cells.length-(intOf i).toNat)
 case atStart=>exact⟨0,_,[],by omega,rfl,by simp,E2.out⟩
 case round=>
  clear E2 E1 f4 f5 f6 o4 o5 o6;obtain⟨k,Vc,C,hk,rfl,HI⟩:=hrel;have hlc:=H.out.1.cells;by_cases hlt:k<s.cells.length
  ·have sc:=HI.out.2.sb.cell 4
   have sc':=(HI.out.2.keep (Ad _)).sb.cell 4;have oc':=(HI.out.2.keep (Ad _)).ob.cell 4;simp only[gA,gZ,gS]at sc sc' oc';obtain⟨⟨f,y⟩,hx⟩:∃x,xs[k]?=some x:=⟨_,gE (by rw[<-List.length_map (f:=Prod.fst),HC.out.1];exact hlt)⟩;have hfx:=Bh HC.out.1 hx;have hrx:=HC.out.2.2 _ (mG hx);simp only[]at hrx hfx;obtain⟨b,d,rfl⟩:∃a c,y=.slice a f.length c:=hrx.is_slice;have hfl:f.length<=1048576:=H.out.1.cell f (mG hfx)
   have hCl:C.length=k:=by
    have:=congrArg List.length HI.out.1;simp at this;omega
   rcases HC.out.2.1.2 with⟨e0,_⟩|⟨g,o,c,e1,hc1⟩
   ·omega
   simp only[sJ,true_and]at e1;obtain⟨rfl,rfl⟩:=e1;have i1:=Rd.elem Ev hc1 k _ hx 0 _ rfl;rw[<-(HI.out.2.keep (Ad _)).bel.cell (bL i1)]at i1;rw[Nat.mul_one,Nat.add_zero]at i1;simp only[]at i1;have HD:=h4 (hrx.keep HI.out.2.bel lR) hfx hCl hfl;clear hc1 hx hrx hfx hfl hCl;have hkL:(k:Int)<(s.cells.length:Int):=by omega
   go_wp2_with fail
   go_region_law (first
    |(refine step_append_lies _ rfl (.tmp 22) (.tmp 29) 35 rfl w.heap.size 36 i0 (.slice none 0 0) 1 24 Tryz.underlying35 hi hz0 hz1 hz2 rfl (by decide) Vc C.length (C.flatMap CU) (by simp[Act.eval]) O6.out.1.own.cells ⟨u6.heap.size,0,none⟩ 1 1 [.slice a6 f.length c6] (by simp[Act.eval]) rfl (Pa _ _ _) (fun u hu=>by simp at hu;subst hu;rfl) (by omega) (by have:=HD.out.2.2.1;unfold maxLen;omega) (by have:=HD.out.2.2.1;omega) O6.out.1.bel.size _ rfl ?_;intro gg cap u8 hown hgrow hat hlt8;have HN:Hid (LC w (u8.setCell ⟨w.heap.size+1+1,4,none⟩ (.slice (some ⟨gg,0,none⟩) (C.length+1) cap)) s ⟨.slice (some ⟨g,o,none⟩) s.cells.length c1,.slice a2 s.stack.length c2,.slice a3 s.frames.length c3⟩ ⟨.slice (some ⟨gg,0,none⟩) (C.length+1) cap,.slice ak s.stack.length ck,.slice none 0 0⟩ (C++[(.slice a6 f.length c6,f)]) s.stack []):=HI.out.2.pushC B6.out.1 B6.out.2 hgrow hown;have st8:=O6.out.1.blks.ob.grown hgrow O6.out.1.own.cells (by decide);have y0:=st8.cell 4;have y1:=st8.frozen 4;simp only[gA,gZ,gS]at y0;clear hown hgrow hat hlt8 st8)
    |(go_simp;go_at_call 71;refine(Cs (.slice b f.length d) f _ HD.out.2.2.2 (HD.out.1.keep (Ad _) lR)).mono ?_;rintro e u6 ⟨a6,c6,rfl,own6,b6⟩;have B6:Hid (Below wr.heap.size wr u6/\u6.ownsRow wr.heap.size 128 2 (.slice a6 f.length c6) f.length (f.flatMap MC.cells)):=⟨As b6 lR,own6⟩;have O6:Hid (LC w (u6.alloc (.cells #[.slice a6 f.length c6] 36)) s ⟨.slice (some ⟨g,o,none⟩) s.cells.length c1,.slice a2 s.stack.length c2,.slice a3 s.frames.length c3⟩ ⟨Vc,.slice ak s.stack.length ck,.slice none 0 0⟩ C s.stack []/\True):=⟨HI.out.2.keep (Ab B6.out.1 lR (Aa _ _)),trivial⟩;have x0:=(HI.out.2.keep B6.out.1).ob.cell 4;have x1:=O6.out.1.ob.cell 4;simp only[gA,gZ,gS]at x0 x1;clear own6 b6))
   all_goals
    clear sc sc' oc' i1;try clear x0 x1 y0 y1
    go_wp2
    go_roundw
    case rel=>exact⟨k+1,_,_,by omega,by go_num,⟨by rw[List.map_append,HI.out.1,De _ k _ HD.out.2.1];rfl,HN.out⟩⟩
    case measure=>simp[intOf];omega
  ·have hkn:k=s.cells.length:=by omega
   have HCe:Hid (C.map Prod.snd=s.cells):=by
    have:=HI.out.1;rw[hkn,List.take_length]at this;exact this
   have HI2:Hid _:=HI.out.2;clear HI;have sc:=HI2.out.sb.cell 4;simp only[gA,gZ,gS]at sc;go_wp2_with fail
   clear sc;go_loopw [5] (fun i wr=>∃(k:Nat) (Vf:Value) (F:List (MG×Value)),k<=s.frames.length/\i=.int .i64 k/\Hid (F.map Prod.fst=s.frames.take k/\LC w wr s ⟨.slice a1 s.cells.length c1,.slice a2 s.stack.length c2,.slice a3 s.frames.length c3⟩ ⟨Vc,.slice ak s.stack.length ck,Vf⟩ C s.stack F)) (fun i _=>s.frames.length-(intOf i).toNat)
   case atStart=>exact⟨0,_,[],by omega,rfl,by simp,HI2.out⟩
   case round=>
    clear HI2 hkn hlt hk;obtain⟨k,Vf,F,hk,rfl,HI⟩:=hrel;have hlf:=H.out.1.frames;have sc:=HI.out.2.sb.cell 6;simp only[gA,gZ,gS]at sc;by_cases hlt:k<s.frames.length
    ·obtain⟨⟨f,y⟩,hx⟩:∃x,ys[k]?=some x:=⟨_,gE (by rw[<-List.length_map (f:=Prod.fst),HF.out.1];exact hlt)⟩
     have hfx:=Bh HF.out.1 hx;have hrx:=HF.out.2.2 _ (mG hx);simp only[]at hrx hfx;unfold Of at hrx;obtain⟨b,d,rfl⟩:∃a c,y=.slice a f.locals.length c:=hrx.is_slice;have hfl:f.locals.length<=1048576:=H.out.1.frame f (mG hfx)
     have hCl:F.length=k:=by
      have:=congrArg List.length HI.out.1;simp at this;omega
     rcases HF.out.2.1.2 with⟨e0,_⟩|⟨g,o,c,e1,hc1⟩
     ·omega
     simp only[sJ,true_and]at e1;obtain⟨rfl,rfl⟩:=e1;have i1:=Rd.elem Au hc1 k _ hx 0 _ rfl;have i2:=Rd.elem Au hc1 k _ hx 1 _ rfl;have i3:=Rd.elem Au hc1 k _ hx 2 _ rfl;have i4:=Rd.elem Au hc1 k _ hx 3 _ rfl;rw[<-HI.out.2.bel.cell (bL i1),Nat.add_zero]at i1;rw[<-HI.out.2.bel.cell (bL i2)]at i2;rw[<-HI.out.2.bel.cell (bL i3)]at i3;rw[<-HI.out.2.bel.cell (bL i4)]at i4;simp only[]at i1 i2 i3 i4;have HD:=h4 (hrx.keep HI.out.2.bel lR) hfx hCl hfl;clear hc1 hx hrx hfx hfl hCl;have hkL:(k:Int)<(s.frames.length:Int):=by omega
     go_wp2_with fail
     have hb5:=Aa wr (.cells #[.int .i64 f.func,.int .i64 f.at_,.int .i64 f.base,.slice b f.locals.length d] 123);have hk5:=Ap.new wr #[.int .i64 f.func,.int .i64 f.at_,.int .i64 f.base,.slice b f.locals.length d] 123;refine(Cs (.slice b f.locals.length d) f.locals _ HD.out.2.2.2 (HD.out.1.keep hb5 lR)).mono ?_;rintro e u6 ⟨a6,c6,rfl,own6,b6⟩;have B6:=h3 (Ab hb5 lR b6) (AK own6 hb5.size) (hk5.keep b6);clear own6 b6 hb5 hk5 sc i1 i2 i3 i4;obtain⟨w1,w2,w3,w4⟩:=B6.out.2.2.c4;have w5:=B6.out.2.2.frozen 3;have hxl:¬w.heap.size+1+1=wr.heap.size:=by have:=HI.out.2.ob.lt;omega
     have hxl':¬wr.heap.size=w.heap.size+1+1:=fun e=>hxl e.symm
     have o6:=(HI.out.2.keep B6.out.1).ob.cell 6;simp only[gA,gZ,gS]at o6;try dsimp only at w1 w2 w3 w4
     have B8:Hid (Below wr.heap.size wr ((u6.setCell ⟨wr.heap.size,3,none⟩ (.slice a6 f.locals.length c6)).alloc (.cells #[.int .i64 f.func,.int .i64 f.at_,.int .i64 f.base,.slice a6 f.locals.length c6] 123))/\((u6.setCell ⟨wr.heap.size,3,none⟩ (.slice a6 f.locals.length c6)).alloc (.cells #[.int .i64 f.func,.int .i64 f.at_,.int .i64 f.base,.slice a6 f.locals.length c6] 123)).ownsRow wr.heap.size 128 2 (.slice a6 f.locals.length c6) f.locals.length (f.locals.flatMap MC.cells)):=by
      have q1:Below wr.heap.size wr (u6.setCell ⟨wr.heap.size,3,none⟩ (.slice a6 f.locals.length c6)):=B6.out.1.setCell lR _;exact⟨Ab q1 lR (Aa _ _),Ag (ownsRow_setCell_other B6.out.2.1 (a:=⟨wr.heap.size,3,none⟩) (fun e=>AJ B6.out.2.1 B6.out.2.2 (by decide) _ e rfl) _) (Aa _ _) lR⟩
     have HA:Hid (∀j y,(AA (f,.slice a6 f.locals.length c6))[j]?=some y->((u6.setCell ⟨wr.heap.size,3,none⟩ (.slice a6 f.locals.length c6)).alloc (.cells #[.int .i64 f.func,.int .i64 f.at_,.int .i64 f.base,.slice a6 f.locals.length c6] 123)).cell? ((⟨u6.heap.size,0,none⟩:Addr).add j)=some y):=fun j y hj=>by
      have hbn:=Ck (u6.setCell ⟨wr.heap.size,3,none⟩ (.slice a6 f.locals.length c6)) #[.int .i64 f.func,.int .i64 f.at_,.int .i64 f.base,.slice a6 f.locals.length c6] 123;rw[World.size_setCell]at hbn;rw[CW,Nat.zero_add,cell_of_row _ _ _ _ _ _ hbn];simpa[AA]using hj
     have hsz6:wr.heap.size<=u6.heap.size:=B6.out.1.size;have hszw:w.heap.size<=wr.heap.size:=HI.out.2.bel.size;go_wp2_with (at_builtin;refine wpList_append_own _ rfl _ _ 37 rfl w.heap.size 123 j0 (.agg #[.int .i64 0,.int .i64 0,.int .i64 0,.slice none 0 0]) 4 48 Tryz.underlying37 hj hy0 hy1 hy2 rfl (by decide) Vf F.length (F.flatMap AA) rfl (Ag HI.out.2.own.frames B8.out.1 lR) ⟨u6.heap.size,0,none⟩ 1 1 (AA (f,.slice a6 f.locals.length c6)) rfl rfl HA.out ?c1 ?c2 ?c3 ?c4 ?_)
     case c1=>intro u hu;simp[AA]at hu;rcases hu with rfl|rfl|rfl|rfl<;>rfl
     case c2=>have:=HD.out.2.2.1;unfold maxLen;omega
     case c3=>have:=HD.out.2.2.1;omega
     case c4=>have:=B8.out.1.size;omega
     intro V' u9 hown hgrow hnil;obtain⟨a9,c9,rfl⟩:∃a c,V'=.slice a (F.length+1) c:=(Rd.of_own hown).is_slice;have HN:Hid _:=HI.out.2.pushF (x:=(f,.slice a6 f.locals.length c6)) B8.out.1 B8.out.2 hgrow hown;have st9:=(HI.out.2.keep B8.out.1).ob.grown hgrow (HI.out.2.keep B8.out.1).own.frames (by decide);have y0:=st9.cell 6;have y1:=st9.frozen 6;simp only[gA,gZ,gS]at y0;clear hown hgrow hnil st9 w1 w2 w3 w4 w5 o6 hxl hxl';go_wp2
     go_roundw
     case rel=>exact⟨k+1,_,_,by omega,by go_num,⟨by rw[List.map_append,HI.out.1,De _ k _ HD.out.2.1];rfl,HN.out⟩⟩
     case measure=>simp[intOf];omega
    ·have hkn:k=s.frames.length:=by omega
     have HE:Hid (s=Ao s.trap s.done s.cost s.steps C s.stack F):=by
      show s=_;have h2:=HI.out.1;rw[hkn,List.take_length]at h2;unfold Ao;rw[HCe.out,h2]
     obtain⟨aV,cV,rfl⟩:∃a c,Vc=.slice a C.length c:=Al HI.out.2.own.cells;obtain⟨aW,cW,rfl⟩:∃a c,Vf=.slice a F.length c:=Al HI.out.2.own.frames;obtain⟨c0',c1',c2',c3',c4',c5',c6'⟩:=HI.out.2.ob.c7;obtain⟨d0',d1',d2',d3',d4',d5',d6'⟩:=HI.out.2.rb.c7;obtain⟨z0',z1',z2',z3',z4',z5',z6'⟩:=HI.out.2.rb.z7;try dsimp only at c0' c1' c2' c3' c4' c5' c6' d0' d1' d2' d3' d4' d5' d6'
     go_wp2_with fail
     exact bodyPost_ret (results_cell_row Tryz.results29 _ _ _ 39 _ (0,0) _ rfl (HI.out.2.rb.w7 _ _ _ _ _ _ _) Tryz.underlying39 rfl (by kernel_rfl)) rfl ⟨C,F,⟨.slice aV C.length cV,.slice ak s.stack.length ck,.slice aW F.length cW⟩,rfl,HE.out,HI.out.2.own.o7 HI.out.2.rb _ _ _ _ _ _ _,Iq HI.out.2.bel (by omega) _ _ _ _ _ _ _⟩
end Go.Proofs.YtlejplpkomddeaaGreat
