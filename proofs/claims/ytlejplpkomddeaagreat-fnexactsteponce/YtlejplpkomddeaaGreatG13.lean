import Derived.Test.YtlejplpkomddeaaGreatG0
import Derived.Test.YtlejplpkomddeaaGreatG11
import Derived.Test.YtlejplpkomddeaaGreatG5
import Derived.Test.YtlejplpkomddeaaGreatG10
import Derived.Test.YtlejplpkomddeaaGreatG4
import Derived.Deep.RegionLaw
import Derived.Deep.AppendLies
import Derived.OneCell
import Derived.Maps.AppendAt
namespace Go.Proofs.YtlejplpkomddeaaGreat
open Go.ChangeShapes Go.WideShapes Go.ChangeAt Go.RowKit
set_option linter.unusedVariables false
set_option maxHeartbeats 4000000
set_option maxRecDepth 100000
def AC(F:List (MG×Value)):List (Value×List MC):=F.map fun x=>(x.2,x.1.locals)
def GX(k:Int)(x:MG×Value):MG×Value:=(⟨k,k+1,k+1+1,Ba (k+1+1+1) x.1.locals.length⟩,x.2)
def IU(k:Int)(x:MG×Value):Int:=k+1+1+1+2*(x.1.locals.length:Int)
def A4:Int->List (MG×Value)->List (MG×Value)
 |_,[]=>[]
 |k,x::r=>GX k x::A4 (IU k x) r
def Di:Int->List (MG×Value)->Int
 |k,[]=>k
 |k,x::r=>Di (IU k x) r
theorem IC(k:Int)(L:List (MG×Value))(x:MG×Value):Di k (L++[x])=IU (Di k L) x:=by
 induction L generalizing k with
 |nil=>rfl
 |cons y r ih=>simp only[List.cons_append,Di];exact ih _
theorem Hu(k:Int)(L M:List (MG×Value)):A4 k (L++M)=A4 k L++A4 (Di k L) M:=by
 induction L generalizing k with
 |nil=>rfl
 |cons y r ih=>simp only[List.cons_append,A4,Di];rw[ih]
theorem GJ(k:Int)(L:List (MG×Value))(x:MG×Value):A4 k (L++[x])=A4 k L++[GX (Di k L) x]:=by rw[Hu];rfl
theorem CR(k:Int)(L:List (MG×Value)):(A4 k L).length=L.length:=by
 induction L generalizing k with
 |nil=>rfl
 |cons x r ih=>simp[A4,ih]
theorem GR(k:Int)(L:List (MG×Value))(h:∀x∈L,x.1.locals.length<=1048576):k<=Di k L/\Di k L<=k+2097155*(L.length:Int):=by
 induction L generalizing k with
 |nil=>simp[Di]
 |cons x r ih=>
  have h1:=h x (by simp);have h2:=ih (IU k x) (fun y hy=>h y (by simp[hy]));simp only[Di,List.length_cons];unfold IU at h2⊢;omega
theorem AL{w:World}{base g k n:Nat}{e t:TypeId}{s:Value}{xs:List Value}{cur:Array Value}{fr:Nat×Nat}(h:w.ownsRow base e k s n xs)(hg:w.heap[g]?=some (Obj.cells cur t fr))(hne:e≠t):∀j,s.ownBlock=some j->j≠g:=by
 intro j hj e1;subst e1;rcases h.2 with⟨rfl,_⟩|⟨g',cap',cur',rfl,_,hg',_⟩
 ·cases hj
 ·simp only[Value.ownBlock,Option.some.injEq]at hj
  subst hj;rw[hg]at hg';simp only[Option.some.injEq,Obj.cells.injEq]at hg';exact hne hg'.2.1.symm
theorem Et.set{w:World}{base g:Nat}{L:List (Value×List MC)}(h:Et w base L){cur:Array Value}{t:TypeId}{fr:Nat×Nat}(hg:w.heap[g]?=some (Obj.cells cur t fr))(hne:128≠t)(i:Nat)(x:Value):Et (w.setCell ⟨g,i,none⟩ x) base L:=
 ⟨fun y hy=>ownsRow_setCell_other (h.own y hy) (a:=⟨g,i,none⟩) (fun e=>AL (h.own y hy) hg hne g e rfl) x,h.sep⟩
structure Wf(base:Nat)(w w':World):Prop where
 bel:Below base w w'
 blk:∀(k:Nat) (cur:Array Value) (t:TypeId),w.heap[k]?=some (Obj.cells cur t (0,0))->t≠128->t≠123->w'.heap[k]?=some (Obj.cells cur t (0,0))
theorem Wf.refl(base:Nat)(w:World):Wf base w w:=⟨Below.refl _ _,fun _ _ _ h _ _=>h⟩
theorem Wf.trans{base:Nat}{u v w:World}(h:Wf base u v)(h':Wf base v w):Wf base u w:=⟨h.bel.trans h'.bel,fun k cur t hk h1 h2=>h'.blk k cur t (h.blk k cur t hk h1 h2) h1 h2⟩
theorem Wv.wf{base:Nat}{w w':World}(h:Wv base w w'):Wf base w w':=⟨h.bel,fun k cur t hk h1 _=>h.blk k cur t hk h1⟩
theorem Wf.of_set{base g:Nat}{w:World}{cur:Array Value}(hg:w.heap[g]?=some (Obj.cells cur 123 (0,0)))(hb:base<=g)(i:Nat)(x:Value):Wf base w (w.setCell ⟨g,i,none⟩ x):=by
 refine⟨(Below.refl _ _).setCell hb _,fun k c t hk h1 h2=> ?_⟩;rw[heap_setCell_other w _ k x ?_]
 ·exact hk
 ·intro e
  simp only[]at e;subst e;rw[hk]at hg;simp only[Option.some.injEq,Obj.cells.injEq]at hg;exact h2 hg.2.1
theorem Bg{w:World}{base g k n c:Nat}{e:TypeId}{xs:List Value}(h:w.ownsRow base e k (.slice (some ⟨g,0,none⟩) n c) n xs):base<=g/\∃cur,w.heap[g]?=some (Obj.cells cur e (0,0)):=by
 rcases h.2 with⟨h',_⟩|⟨g',cap',cur,h',hb,hg,_⟩
 ·cases h'
 ·cases h'
  exact⟨hb,cur,hg⟩
theorem PT(A R:List Value)(z0 z1 z2 z3 c0 c1 c2:Value)(i:Nat)(h:A.length=i):(((A++([z0,z1,z2,z3]++R)).set i c0).set (i+1) c1).set (i+2) c2=A++([c0,c1,c2,z3]++R):=by
 subst h;simp[List.set_append_right]
theorem Ir(base:Nat)(s:Value)(A B:List (Value×List MC))(F:List (MG×Value))(k0:Int)(w:World)(hB:base<=w.heap.size)(hn:F.length<=1048576)(hr:∀x∈F,x.1.locals.length<=1048576)(h0:0<=k0)(h1:k0<=281474976710656)(h:w.ownsRow base 123 4 s F.length (F.flatMap As))(hf:Et w base (A++AC F++B)):
  Calls Tryz.prog 58 #[s,.int .i64 k0] w fun e w'=>e=.returned (.int .i64 (Di k0 F))/\w'.ownsRow base 123 4 s F.length ((A4 k0 F).flatMap As)/\Et w' base (A++AC (A4 k0 F)++B)/\Wf base w w':=by
 have H:Hid (w.ownsRow base 123 4 s F.length (F.flatMap As)/\(∀x∈F,x.1.locals.length<=1048576)):=⟨h,hr⟩
 have HF0:Hid (Et w base (A++AC F++B)):=hf;clear hr hf;rcases Au h with⟨rfl,hz⟩|⟨g,c,rfl⟩
 ·obtain rfl:F=[]:=List.eq_nil_of_length_eq_zero hz
  clear h;go_enter Tryz.func58,Tryz.ntmps58;go_wp2
  go_loopw [1,5] (fun q i wr=>q=.int .i64 k0/\i=.int .i64 0/\wr=w) (fun _ _ _=>0)
  case atStart=>exact⟨rfl,rfl,rfl⟩
  case round=>
   obtain⟨rfl,rfl,rfl⟩:=hrel;go_wp2
   go_ret
   exact⟨rfl,H.out.1,HF0.out,Wf.refl _ _⟩
 ·clear h
  generalize hLL:F.length=n at hn H⊢;have HL:Hid (F.length=n):=hLL;clear hLL;go_enter Tryz.func58,Tryz.ntmps58;go_wp2
  go_loopw [1,5] (fun q i wr=>∃D E:List (MG×Value),Hid (F=D++E)/\D.length<=n/\q=.int .i64 (Di k0 D)/\i=.int .i64 (D.length:Nat)/\Hid (wr.ownsRow base 123 4 (.slice (some ⟨g,0,none⟩) n c) n ((A4 k0 D++E).flatMap As)/\Et wr base (A++AC (A4 k0 D)++(AC E++B))/\Wf base w wr)) (fun _ i _=>n-(intOf i).toNat)
  case atStart=>exact⟨[],F,rfl,by simp,rfl,rfl,⟨by simpa[A4]using H.out.1,by simpa[A4,AC]using HF0.out,Wf.refl _ _⟩⟩
  case round=>
   obtain⟨D,E,HD,hk,rfl,rfl,HM⟩:=hrel;have hlen:D.length+E.length=n:=by have:=HL.out;rw[HD.out,List.length_append]at this;exact this
   have hend:=GR k0 D (fun x hx=>H.out.2 x (by rw[HD.out];simp[hx]));generalize hK:Di k0 D=K at hend⊢;have HK:Hid (Di k0 D=K):=hK;clear hK;cases E with
   | cons x E'=>
    obtain⟨f,v⟩:=x;have hlt:D.length<n:=by simp only[List.length_cons]at hlen;omega
    have hcl:f.locals.length<=1048576:=H.out.2 (f,v) (by rw[HD.out];simp);have hA:((A4 k0 D).flatMap As).length=D.length*4:=by rw[Aw As 4 Al,CR]
    have hsp:(A4 k0 D++(f,v)::E').flatMap As=(A4 k0 D).flatMap As++([.int .i64 f.func,.int .i64 f.at_,.int .i64 f.base,v]++E'.flatMap As):=by
     rw[List.flatMap_append,List.flatMap_cons];rfl
    have hrow:=HM.out.1;rw[hsp]at hrow;have d0:=hrow.cellAt (D.length*4) (by omega);have d1:=hrow.cellAt (D.length*4+1) (by omega);have d2:=hrow.cellAt (D.length*4+2) (by omega);have d3:=hrow.cellAt (D.length*4+3) (by omega);rw[List.getElem?_append_right (by omega),hA]at d0 d1 d2 d3;rw[Nat.sub_self]at d0;rw[Nat.add_sub_cancel_left]at d1 d2 d3;simp only[List.cons_append,gZ,gS]at d0 d1 d2 d3;have z0:=hrow.frozenAt (D.length*4);have z1:=hrow.frozenAt (D.length*4+1);have z2:=hrow.frozenAt (D.length*4+2);have hdl:(D.length:Int)<(n:Int):=by omega
    have HS:Hid ((((wr.setCell ⟨g,D.length*4,none⟩ (.int .i64 K)).setCell ⟨g,D.length*4+1,none⟩ (.int .i64 (K+1))).setCell ⟨g,D.length*4+2,none⟩ (.int .i64 (K+1+1))).ownsRow base 123 4 (.slice (some ⟨g,0,none⟩) n c) n ((A4 k0 D).flatMap As++([.int .i64 K,.int .i64 (K+1),.int .i64 (K+1+1),v]++E'.flatMap As))/\Et (((wr.setCell ⟨g,D.length*4,none⟩ (.int .i64 K)).setCell ⟨g,D.length*4+1,none⟩ (.int .i64 (K+1))).setCell ⟨g,D.length*4+2,none⟩ (.int .i64 (K+1+1))) base (A++AC (A4 k0 D)++(AC ((f,v)::E')++B))/\Wf base w (((wr.setCell ⟨g,D.length*4,none⟩ (.int .i64 K)).setCell ⟨g,D.length*4+1,none⟩ (.int .i64 (K+1))).setCell ⟨g,D.length*4+2,none⟩ (.int .i64 (K+1+1)))):=by
     have r1:=(hrow.stored (D.length*4) (.int .i64 K)).1;have r2:=(r1.stored (D.length*4+1) (.int .i64 (K+1))).1;have r3:=(r2.stored (D.length*4+2) (.int .i64 (K+1+1))).1;obtain⟨b0,cur0,g0⟩:=Bg hrow;obtain⟨_,cur1,g1⟩:=Bg r1;obtain⟨_,cur2,g2⟩:=Bg r2;refine⟨?_,((HM.out.2.1.set g0 (by decide) _ _).set g1 (by decide) _ _).set g2 (by decide) _ _,((HM.out.2.2.trans (Wf.of_set g0 b0 _ _)).trans (Wf.of_set g1 b0 _ _)).trans (Wf.of_set g2 b0 _ _)⟩;rw[PT _ _ _ _ _ _ _ _ _ _ hA]at r3;exact r3
    have hov:=HS.out.2.1.own (v,f.locals) (by simp[AC]);simp only[]at hov;obtain⟨av,cv,ev⟩:=An hov;subst ev;have HO:Hid _:=hov;clear hrow hov hsp hA;go_wp2_with fail
    refine(Ed base (.slice av f.locals.length cv) f.locals (K+1+1+1) _ hcl (by omega) (by omega) HO.out).mono ?_;rintro e u ⟨rfl,ho',hg⟩
    have HN:Hid (u.ownsRow base 123 4 (.slice (some ⟨g,0,none⟩) n c) n ((A4 k0 (D++[(f,.slice av f.locals.length cv)])++E').flatMap As)/\Et u base (A++AC (A4 k0 (D++[(f,.slice av f.locals.length cv)]))++(AC E'++B))/\Wf base w u):=by
     have hwv:=Wv.of_row HO.out hg (Nat.le_trans hB HS.out.2.2.bel.size);refine⟨?_,?_,HS.out.2.2.trans hwv.wf⟩
     ·have:=hwv.own HS.out.1 (by decide)
      rw[GJ,HK.out,List.append_assoc,List.flatMap_append];exact this
     ·have hff:=HS.out.2.1
      rw[show AC ((f,Value.slice av f.locals.length cv)::E')=(Value.slice av f.locals.length cv,f.locals)::AC E' from rfl,List.cons_append]at hff;have:=Et.put (c':=Ba (K+1+1+1) f.locals.length) hff (BI _ _) ho' hg;rw[GJ,HK.out];simpa[AC,GX,List.append_assoc]using this
    have hes:Di k0 (D++[(f,.slice av f.locals.length cv)])=K+1+1+1+2*(f.locals.length:Int):=by rw[IC,HK.out];rfl
    clear ho' hg d0 d1 d2 d3 z0 z1 z2;go_wp2
    go_roundw
    case rel=>exact⟨D++[(f,.slice av f.locals.length cv)],E',by show _=_;rw[HD.out];simp,by simp;omega,by rw[hes],by simp,HN⟩
    case measure=>simp[intOf];omega
   |nil=>
    have hDn:D.length=n:=by simpa using hlen
    have hDL:D=F:=by rw[HD.out];simp
    subst hDL;have HE:Hid (wr.ownsRow base 123 4 (.slice (some ⟨g,0,none⟩) n c) n ((A4 k0 D).flatMap As)/\Et wr base (A++AC (A4 k0 D)++B)/\Wf base w wr):=⟨by simpa using HM.out.1,by simpa[AC]using HM.out.2.1,HM.out.2.2⟩
    have hKe:=HK.out;go_wp2
    go_ret
    exact⟨by simp[hKe],HE.out.1,HE.out.2.1,HE.out.2.2⟩
theorem Ik(s:Value)(F:List (MG×Value))(k0:Int)(w:World)(hn:F.length<=1048576)(hr:∀x∈F,x.1.locals.length<=1048576)(h0:0<=k0)(h1:k0<=281474976710656)(h:Rd w 4 s F.length ((A4 k0 F).flatMap As))(hf:∀x∈AC (A4 k0 F),Rd w 2 x.1 x.2.length (x.2.flatMap MC.cells)):
  Calls Tryz.prog 61 #[s,.int .i64 k0] w fun e w'=>e=.returned (.int .i64 (Di k0 F))/\w'=w:=by
 have H:=h3 h hr hf;obtain⟨a1,c1,rfl⟩:=h.is_slice;clear h hr hf;generalize hLL:F.length=n at hn H;have HL:Hid (F.length=n):=hLL;clear hLL;go_enter Tryz.func61,Tryz.ntmps61;go_wp2
 go_loopw [1,5] (fun q i wr=>∃D E:List (MG×Value),Hid (F=D++E)/\D.length<=n/\q=.int .i64 (Di k0 D)/\i=.int .i64 (D.length:Nat)/\wr=w) (fun _ i _=>n-(intOf i).toNat)
 case atStart=>exact⟨[],F,rfl,by simp,rfl,rfl,rfl⟩
 case round=>
  obtain⟨D,E,HD,hk,rfl,rfl,rfl⟩:=hrel;have hlen:D.length+E.length=n:=by have:=HL.out;rw[HD.out,List.length_append]at this;exact this
  have hend:=GR k0 D (fun x hx=>H.out.2.1 x (by rw[HD.out];simp[hx]));generalize hK:Di k0 D=K at hend⊢;have HK:Hid (Di k0 D=K):=hK;clear hK;cases E with
  | cons x E'=>
   obtain⟨f,v⟩:=x;have hlt:D.length<n:=by simp only[List.length_cons]at hlen;omega
   have hcl:f.locals.length<=1048576:=H.out.2.1 (f,v) (by rw[HD.out];simp)
   have hsplit:A4 k0 F=A4 k0 D++GX K (f,v)::A4 (IU K (f,v)) E':=by
    rw[HD.out,Hu,HK.out];rfl
   have hx:(A4 k0 F)[D.length]?=some (GX K (f,v)):=by
    rw[hsplit,List.getElem?_append_right (by rw[CR];omega),CR,Nat.sub_self];rfl
   have hov:=H.out.2.2 (v,Ba (K+1+1+1) f.locals.length) (by rw[hsplit];simp[AC,GX]);simp only[BI]at hov;rcases H.out.1.2 with⟨e0,_⟩|⟨g,o,cc,e1,hc1⟩
   ·omega
   simp only[sJ,true_and]at e1;obtain⟨rfl,rfl⟩:=e1;have j0:=Rd.elem Al hc1 D.length _ hx 0 _ rfl;have j1:=Rd.elem Al hc1 D.length _ hx 1 _ rfl;have j2:=Rd.elem Al hc1 D.length _ hx 2 _ rfl;have j3:=Rd.elem Al hc1 D.length _ hx 3 _ rfl;rw[Nat.add_zero]at j0;simp only[GX]at j0 j1 j2 j3;have HO:=AM hov;clear hc1 hx hov hsplit;have hdl:(D.length:Int)<(n:Int):=by omega
   have hes:Di k0 (D++[(f,v)])=K+1+1+1+2*(f.locals.length:Int):=by rw[IC,HK.out];rfl
   have hn0:¬K+1+1+1+2*(f.locals.length:Int)<0:=by omega
   go_wp2_with fail
   refine(Ek v f.locals.length (K+1+1+1) _ hcl (by omega) (by omega) HO.out).mono ?_;rintro e u ⟨rfl,rfl⟩;clear j0 j1 j2 j3;go_wp2
   go_roundw
   case rel=>exact⟨D++[(f,v)],E',by show _=_;rw[HD.out];simp,by simp;omega,by rw[hes],by simp,by trivial⟩
   case measure=>simp[intOf];omega
  |nil=>
   have hDn:D.length=n:=by simpa using hlen
   have hDL:D=F:=by rw[HD.out];simp
   subst hDL;have hKe:=HK.out;go_wp2
   go_ret
   exact⟨by simp[hKe],rfl⟩
structure Aj(w:World)(base:Nat)(v:VS)(C:List (Value×List MC))(K:List MC)(F:List (MG×Value)):Prop where
 cells:w.ownsRow base 36 1 v.c C.length (C.flatMap Bh)
 frames:w.ownsRow base 123 4 v.f F.length (F.flatMap As)
 fam:Et w base (C++[(v.k,K)]++AC F)
def Av(trap:Int)(done:Bool)(cost steps:Int)(C:List (Value×List MC))(K:List MC)(F:List (MG×Value)):MS:=⟨trap,done,cost,steps,C.map Prod.snd,K,F.map Prod.fst⟩
theorem Aj.own{w:World}{base:Nat}{v:VS}{C:List (Value×List MC)}{K:List MC}{F:List (MG×Value)}(h:Aj w base v C K F)(trap:Int)(done:Bool)(cost steps:Int):Gm w base v (Av trap done cost steps C K F):=by
 refine⟨⟨C.map fun x=>(x.2,x.1),?_,?_,?_⟩,h.fam.own (v.k,K) (by simp),⟨F,rfl,?_,?_⟩⟩
 ·simp[Av,Function.comp_def]
 ·rw[List.flatMap_map,show(Av trap done cost steps C K F).cells.length=C.length by simp[Av]]
  exact h.cells
 ·intro x hx
  obtain⟨y,hy,rfl⟩:=List.mem_map.1 hx;exact h.fam.own y (by simp[hy])
 ·simpa[Av]using h.frames
 ·intro x hx
  exact h.fam.own (x.2,x.1.locals) (by simp[AC];exact .inr (.inr ⟨x.1,x.2,hx,rfl,rfl⟩))
def Nz(C:List (Value×List MC)):Int:=Ct 1 C
def ET(C:List (Value×List MC))(K:List MC):Int:=Ct 1 C+2*(K.length:Int)
structure Eb(C:List (Value×List MC))(K:List MC)(F:List (MG×Value)):Prop where
 cells:C.length<=1048576
 cell:∀x∈C,x.2.length<=1048576
 stack:K.length<=1048576
 frames:F.length<=1048576
 frame:∀x∈F,x.1.locals.length<=1048576
theorem JC(base:Nat)(v:VS)(C:List (Value×List MC))(K:List MC)(F:List (MG×Value))(tr:Int)(dn:Bool)(co sp:Int)(w:World)(hB:base<=w.heap.size)(hs:Eb C K F)(h:Aj w base v C K F):
  Calls Tryz.prog 14 #[.agg #[.int .i64 tr,.bool dn,.int .i64 co,.int .i64 sp,v.c,v.k,v.f],.int .i64 1] w fun e w'=>e=.returned (.int .i64 (Di (ET C K) F))/\Aj w' base v (AU 1 C) (Ba (Nz C) K.length) (A4 (ET C K) F)/\Wf base w w':=by
 have HS:Hid (Eb C K F):=hs;have hA:(w.alloc (.cells #[.int .i64 tr,.bool dn,.int .i64 co,.int .i64 sp,v.c,v.k,v.f] 39)).ownsRow w.heap.size 39 7 (.slice (some ⟨w.heap.size,0,none⟩) 1 1) 1 [.int .i64 tr,.bool dn,.int .i64 co,.int .i64 sp,v.c,v.k,v.f]:=World.ownsRow_lit (base:=w.heap.size) (e:=39) (size:=7) w #[.int .i64 tr,.bool dn,.int .i64 co,.int .i64 sp,v.c,v.k,v.f] 1 lR (by unfold maxLen;omega) (by simp);have bA:Below w.heap.size w (w.alloc (.cells #[.int .i64 tr,.bool dn,.int .i64 co,.int .i64 sp,v.c,v.k,v.f] 39)):=(Below.refl _ _).alloc lR _;have H0:Hid (Aj (w.alloc (.cells #[.int .i64 tr,.bool dn,.int .i64 co,.int .i64 sp,v.c,v.k,v.f] 39)) base v C K F/\Wf base w (w.alloc (.cells #[.int .i64 tr,.bool dn,.int .i64 co,.int .i64 sp,v.c,v.k,v.f] 39))):=⟨⟨Ai h.cells bA lR,Ai h.frames bA lR,⟨fun x hx=>Ai (h.fam.own x hx) bA lR,h.fam.sep⟩⟩,⟨bA.mono hB,fun k cur t hk _ _=>by rw[bA.block k (Array.getElem?_eq_some_iff.1 hk).1];exact hk⟩⟩
 have hBW:base<=(w.alloc (.cells #[.int .i64 tr,.bool dn,.int .i64 co,.int .i64 sp,v.c,v.k,v.f] 39)).heap.size:=Nat.le_trans hB bA.size;clear hs h bA;go_enter Tryz.func14,Tryz.ntmps14;go_wp2_with fail
 generalize w.alloc (.cells #[.int .i64 tr,.bool dn,.int .i64 co,.int .i64 sp,v.c,v.k,v.f] 39)=W1 at hA H0 hBW⊢
 have HA:Hid (∀{u:World},Wf base W1 u->u.cell? ⟨w.heap.size,4,none⟩=some v.c/\u.cell? ⟨w.heap.size,5,none⟩=some v.k/\u.cell? ⟨w.heap.size,6,none⟩=some v.f):=fun hw=>by
  obtain⟨_,cur,hg⟩:=Bg hA
  have hr:∀{u:World},Wf base W1 u->u.ownsRow w.heap.size 39 7 (.slice (some ⟨w.heap.size,0,none⟩) 1 1) 1 [.int .i64 tr,.bool dn,.int .i64 co,.int .i64 sp,v.c,v.k,v.f]:=fun hw=>by
   refine⟨hA.1,?_⟩;rcases hA.2 with h'|⟨g,cap,cur,e1,hb1,hg,hr⟩
   ·exact .inl h'
   ·exact .inr ⟨g,cap,cur,e1,hb1,hw.blk g cur _ hg (by decide) (by decide),hr⟩
  exact⟨(hr hw).cellAt 4 (by omega),(hr hw).cellAt 5 (by omega),(hr hw).cellAt 6 (by omega)⟩
 clear hA;refine(Ho base v.c [] C ((v.k,K)::AC F) 1 _ hBW HS.out.cells HS.out.cell (by omega) (by omega) H0.out.1.cells (by simpa using H0.out.1.fam)).mono ?_;rintro e u1 ⟨rfl,f1,wv1⟩;have hk:=Gh 1 C HS.out.cell;have l1:=HS.out.cells;have l2:=HS.out.stack;have l3:=HS.out.frames;have H1:Hid (Et u1 base (AU 1 C++(v.k,K)::AC F)/\u1.ownsRow base 36 1 v.c C.length (C.flatMap Bh)/\u1.ownsRow base 123 4 v.f F.length (F.flatMap As)/\Wf base W1 u1/\base<=u1.heap.size):=⟨by simpa using f1,wv1.own H0.out.1.cells (by decide),wv1.own H0.out.1.frames (by decide),wv1.wf,Nat.le_trans hBW wv1.bel.size⟩
 clear f1 wv1;obtain⟨p4,p5,p6⟩:=HA.out H1.out.2.2.2.1;have hok:=H1.out.1.own (v.k,K) (by simp);simp only[]at hok;have HK:Hid _:=hok;clear hok;go_wp2_with fail
 refine(Ed base v.k K (Ct 1 C) _ l2 (by omega) (by omega) HK.out).mono ?_;rintro e u2 ⟨rfl,o2,g2⟩
 have H2:Hid (Et u2 base (AU 1 C++(v.k,Ba (Ct 1 C) K.length)::AC F)/\u2.ownsRow base 36 1 v.c C.length (C.flatMap Bh)/\u2.ownsRow base 123 4 v.f F.length (F.flatMap As)/\Wf base W1 u2/\base<=u2.heap.size):=by
  have wv:=Wv.of_row HK.out g2 H1.out.2.2.2.2;exact⟨Et.put H1.out.1 (BI _ _) o2 g2,wv.own H1.out.2.1 (by decide),wv.own H1.out.2.2.1 (by decide),H1.out.2.2.2.1.trans wv.wf,Nat.le_trans H1.out.2.2.2.2 wv.bel.size⟩
 clear o2 g2 p4 p5 p6;obtain⟨p4,p5,p6⟩:=HA.out H2.out.2.2.2.1;go_wp2_with fail
 refine(Ir base v.f (AU 1 C++[(v.k,Ba (Ct 1 C) K.length)]) [] F (Ct 1 C+2*(K.length:Int)) _ H2.out.2.2.2.2 l3 HS.out.frame (by omega) (by omega) H2.out.2.2.1 (by simpa using H2.out.1)).mono ?_;rintro e u3 ⟨rfl,o3,f3,wf3⟩
 have H3:Hid (Aj u3 base v (AU 1 C) (Ba (Nz C) K.length) (A4 (ET C K) F)/\Wf base w u3):=by
  refine⟨⟨?_,?_,?_⟩,H0.out.2.trans (H2.out.2.2.2.1.trans wf3)⟩
  ·rw[EO,Fi]
   have hc:=H2.out.2.1;refine⟨hc.1,?_⟩;rcases hc.2 with h'|⟨g,cap,cur,e1,hb1,hg,hr⟩
   ·exact .inl h'
   ·exact .inr ⟨g,cap,cur,e1,hb1,wf3.blk g cur _ hg (by decide) (by decide),hr⟩
  ·rw[CR]
   exact o3
  ·simpa[Nz,ET]using f3
 clear o3 f3 wf3 p4 p5 p6;go_wp2
 go_ret
 exact⟨rfl,H3.out.1,H3.out.2⟩
theorem FX(base:Nat)(v:VS)(C:List (Value×List MC))(K:List MC)(F:List (MG×Value))(tr:Int)(dn:Bool)(co sp:Int)(w:World)(hs:Eb C K F)(h:Aj w base v (AU 1 C) (Ba (Nz C) K.length) (A4 (ET C K) F)):
  Calls Tryz.prog 15 #[.agg #[.int .i64 tr,.bool dn,.int .i64 co,.int .i64 sp,v.c,v.k,v.f],.int .i64 1] w fun e w'=>e=.returned (.int .i64 (Di (ET C K) F))/\Below w.heap.size w w':=by
 have HS:Hid (Eb C K F):=hs;have bA:Below w.heap.size w (w.alloc (.cells #[.int .i64 tr,.bool dn,.int .i64 co,.int .i64 sp,v.c,v.k,v.f] 39)):=(Below.refl _ _).alloc lR _;have HB:=AM bA;have hk:=Gh 1 C hs.cell;have l1:=hs.cells;have l2:=hs.stack;have l3:=hs.frames;have hc:=Rd.of_own (Ai h.cells bA lR);rw[EO,Fi]at hc;have hfr:=Rd.of_own (Ai h.frames bA lR);rw[CR]at hfr;have hkk:=Rd.of_own (Ai (h.fam.own (v.k,Ba (Nz C) K.length) (by simp)) bA lR);simp only[BI]at hkk
 have H:Hid (Rd (w.alloc (.cells #[.int .i64 tr,.bool dn,.int .i64 co,.int .i64 sp,v.c,v.k,v.f] 39)) 1 v.c C.length (C.flatMap Bh)/\Rd (w.alloc (.cells #[.int .i64 tr,.bool dn,.int .i64 co,.int .i64 sp,v.c,v.k,v.f] 39)) 2 v.k K.length ((Ba (Nz C) K.length).flatMap MC.cells)/\Rd (w.alloc (.cells #[.int .i64 tr,.bool dn,.int .i64 co,.int .i64 sp,v.c,v.k,v.f] 39)) 4 v.f F.length ((A4 (ET C K) F).flatMap As)/\(∀x∈AU 1 C,Rd (w.alloc (.cells #[.int .i64 tr,.bool dn,.int .i64 co,.int .i64 sp,v.c,v.k,v.f] 39)) 2 x.1 x.2.length (x.2.flatMap MC.cells))/\∀x∈AC (A4 (ET C K) F),Rd (w.alloc (.cells #[.int .i64 tr,.bool dn,.int .i64 co,.int .i64 sp,v.c,v.k,v.f] 39)) 2 x.1 x.2.length (x.2.flatMap MC.cells)):=
  ⟨hc,hkk,hfr,fun x hx=>Rd.of_own (Ai (h.fam.own x (by simp[hx])) bA lR),fun x hx=>Rd.of_own (Ai (h.fam.own x (by simp[hx])) bA lR)⟩
 clear hs h bA hc hfr hkk;unfold Nz ET at*;go_enter Tryz.func15,Tryz.ntmps15;go_wp2_with fail
 refine(GU v.c C 1 _ l1 HS.out.cell (by omega) (by omega) H.out.1 H.out.2.2.2.1).mono ?_;rintro e u1 ⟨rfl,rfl⟩;have n1:¬Ct 1 C<0:=by omega
 go_wp2_with fail
 refine(Ek v.k K.length (Ct 1 C) _ l2 (by omega) (by omega) H.out.2.1).mono ?_;rintro e u1 ⟨rfl,rfl⟩;have n2:¬Ct 1 C+2*(K.length:Int)<0:=by omega
 have hF:=GR (Ct 1 C+2*(K.length:Int)) F HS.out.frame;have n3:¬Di (Ct 1 C+2*(K.length:Int)) F<0:=by omega
 go_wp2_with fail
 refine(Ik v.f F (Ct 1 C+2*(K.length:Int)) _ l3 HS.out.frame (by omega) (by omega) H.out.2.2.1 H.out.2.2.2.2).mono ?_;rintro e u1 ⟨rfl,rfl⟩;go_wp2
 go_ret
 exact⟨rfl,HB.out⟩
def AB(ts:List Int):List MC:=ts.map fun t=>(⟨t,0⟩:MC)
theorem Eg(ts:List Int):(AB ts).length=ts.length:=by simp[AB]
theorem Es{α:Type}(f:α->List Value)(m:Nat)(hf:∀y,(f y).length=m)(ys:List α)(k j:Nat)(y y':α)(u:Value)(hy:ys[k]?=some y)(hj:j<m)(he:f y'=(f y).set j u):(ys.flatMap f).set (k*m+j) u=(ys.set k y').flatMap f:=by
 induction ys generalizing k with
 |nil=>simp at hy
 | cons x r ih=>
  cases k with
  |zero=>
   simp only[gZ,Option.some.injEq]at hy;subst hy;rw[List.set_cons_zero,List.flatMap_cons,List.flatMap_cons,Nat.zero_mul,Nat.zero_add,List.set_append_left _ _ (by rw[hf];exact hj),he]
  |succ k=>
   rw[gS]at hy;rw[List.set_cons_succ,List.flatMap_cons,List.flatMap_cons,List.set_append_right _ _ (by rw[hf,Nat.add_mul];omega),hf,<-ih k hy];congr 2;rw[Nat.add_mul];omega
theorem Fu{w:World}{base:Nat}{e:TypeId}{k n m c:Nat}{a:Option Addr}{xs:List Value}(h:w.ownsRow base e k (.slice a n c) n xs)(hm:m<=n):w.ownsRow base e k (.slice a m c) m (xs.take (m*k)):=by
 have hmk:m*k<=n*k:=Nat.mul_le_mul_right k hm;refine⟨by rw[List.length_take,h.1,Nat.min_eq_left hmk],?_⟩;rcases h.2 with⟨e1,e2⟩|⟨g,cap,cur,e1,hb,hg,hnc,hcm,hcs,ht⟩
 ·subst e2
  have hz:m=0:=by omega
  subst hz;exact .inl ⟨e1,rfl⟩
 ·simp only[sJ,true_and]at e1
  obtain⟨rfl,rfl⟩:=e1;refine .inr ⟨g,c,cur,rfl,hb,hg,by omega,hcm,hcs,?_⟩;rw[<-ht,List.take_take,Nat.min_eq_left hmk]
theorem Ft{α:Type}(f:α->List Value)(m:Nat)(hf:∀y,(f y).length=m)(ys:List α)(k:Nat):(ys.flatMap f).take (k*m)=(ys.take k).flatMap f:=by
 induction ys generalizing k with
 |nil=>simp
 |cons x r ih=>
  cases k with
  |zero=>simp
  |succ k=>rw[List.flatMap_cons,List.take_succ_cons,List.flatMap_cons,Nat.add_mul,Nat.one_mul,List.take_append,hf,List.take_of_length_le (by rw[hf];omega),<-ih k];congr 2;omega
theorem Bz{w:World}{base:Nat}{e:TypeId}{k n m c:Nat}{a:Option Addr}{xs:List Value}(h:w.ownsRow base e k (.slice a n c) m xs):n=m:=by
 obtain⟨a',c',e'⟩:=An h;simp only[sJ]at e';exact e'.2.1
theorem Et.at{w:World}{B:Nat}{L:List (Value×List MC)}(h:Et w B L){j:Nat}{x:Value×List MC}(hj:L[j]?=some x):w.ownsRow B 128 2 x.1 x.2.length (x.2.flatMap MC.cells):=h.own x (mG hj)
theorem Fw{α:Type}(L:List α)(j:Nat)(x y:α)(hj:L[j]?=some x):L=L.take j++x::L.drop (j+1)/\L.set j y=L.take j++y::L.drop (j+1):=by
 obtain⟨hlt,rfl⟩:=gI.1 hj;refine⟨?_,?_⟩
 ·rw[List.getElem_cons_drop,List.take_append_drop]
 ·rw[List.set_eq_take_append_cons_drop,if_pos hlt]
theorem Et.setV{w:World}{B:Nat}{L:List (Value×List MC)}(h:Et w B L){j g n c i:Nat}{vs:List MC}{y:MC}(hj:L[j]?=some (.slice (some ⟨g,0,none⟩) n c,vs))(hi:vs[i]?=some y)(x:MC):
  Et ((w.setCell ⟨g,i*2,none⟩ (.int .i64 x.type)).setCell ⟨g,i*2+1,none⟩ (.int .u32 x.word)) B (L.set j (.slice (some ⟨g,0,none⟩) n c,vs.set i x))/\w.grownBy ((w.setCell ⟨g,i*2,none⟩ (.int .i64 x.type)).setCell ⟨g,i*2+1,none⟩ (.int .u32 x.word)) (some g):=by
 have ho:=h.at hj;simp only[]at ho;have hn:n=vs.length:=Bz ho;subst hn;obtain⟨s0,g0⟩:=ho.stored (i*2) (.int .i64 x.type);obtain⟨s1,g1⟩:=s0.stored (i*2+1) (.int .u32 x.word);have e0:=Es MC.cells 2 MC.cells_length vs i 0 y ⟨x.type,y.word⟩ (.int .i64 x.type) hi (by omega) rfl;rw[Nat.add_zero]at e0;have hi':(vs.set i ⟨x.type,y.word⟩)[i]?=some ⟨x.type,y.word⟩:=by rw[List.getElem?_set_self (gI.1 hi).1]
 have e1:=Es MC.cells 2 MC.cells_length (vs.set i ⟨x.type,y.word⟩) i 1 ⟨x.type,y.word⟩ x (.int .u32 x.word) hi' (by omega) rfl;rw[e0,e1,List.set_set]at s1;have gg:=g0.trans g1;obtain⟨sp1,sp2⟩:=Fw L j _ (Value.slice (some ⟨g,0,none⟩) vs.length c,vs.set i x) hj;refine⟨?_,gg⟩;rw[sp2];rw[sp1]at h;exact Et.put h (by rw[List.length_set]) s1 gg
theorem Et.setW{w:World}{B:Nat}{L:List (Value×List MC)}(h:Et w B L){j g n c i:Nat}{vs:List MC}{y:MC}(hj:L[j]?=some (.slice (some ⟨g,0,none⟩) n c,vs))(hi:vs[i]?=some y)(x:Int):
  Et (w.setCell ⟨g,i*2+1,none⟩ (.int .u32 x)) B (L.set j (.slice (some ⟨g,0,none⟩) n c,vs.set i ⟨y.type,x⟩))/\w.grownBy (w.setCell ⟨g,i*2+1,none⟩ (.int .u32 x)) (some g):=by
 have ho:=h.at hj;simp only[]at ho;have hn:n=vs.length:=Bz ho;subst hn;obtain⟨s1,g1⟩:=ho.stored (i*2+1) (.int .u32 x);have e1:=Es MC.cells 2 MC.cells_length vs i 1 y ⟨y.type,x⟩ (.int .u32 x) hi (by omega) rfl;rw[e1]at s1;obtain⟨sp1,sp2⟩:=Fw L j _ (Value.slice (some ⟨g,0,none⟩) vs.length c,vs.set i ⟨y.type,x⟩) hj;refine⟨?_,g1⟩;rw[sp2];rw[sp1]at h;exact Et.put h (by rw[List.length_set]) s1 g1
theorem NR{α β:Type}(f:α×β->List Value)(hf:∀a b b',f (a,b)=f (a,b'))(C:List (α×β))(j:Nat)(a:α)(b b':β)(hj:C[j]?=some (a,b)):(C.set j (a,b')).flatMap f=C.flatMap f:=by
 obtain⟨sp1,sp2⟩:=Fw C j _ (a,b') hj;rw[sp2];conv=>rhs;rw[sp1]
 simp only[List.flatMap_append,List.flatMap_cons,hf a b b']
theorem Em(F:List (MG×Value))(i:Nat)(x:MG×Value):AC (F.set i x)=(AC F).set i (x.2,x.1.locals):=by unfold AC;rw[List.map_set]
theorem A7{F:List (MG×Value)}{i:Nat}{x:MG×Value}(h:F[i]?=some x):(AC F)[i]?=some (x.2,x.1.locals):=by unfold AC;rw[List.getElem?_map,h];rfl
theorem Kb{α:Type}(L:List α)(i:Nat)(x:α)(h:L[i]?=some x):L.set i x=L:=by
 obtain⟨hlt,rfl⟩:=gI.1 h;exact List.set_getElem_self hlt
theorem Aj.setAt{w:World}{B:Nat}{v:VS}{C:List (Value×List MC)}{K:List MC}{F:List (MG×Value)}(h:Aj w B v C K F){g n c i:Nat}{x:MG×Value}(hv:v.f=.slice (some ⟨g,0,none⟩) n c)(hx:F[i]?=some x)(z:Int):
  Aj (w.setCell ⟨g,i*4+1,none⟩ (.int .i64 z)) B v C K (F.set i ({x.1 with at_:=z},x.2))/\w.grownBy (w.setCell ⟨g,i*4+1,none⟩ (.int .i64 z)) (some g):=by
 have hf:=h.frames;rw[hv]at hf;have hn:n=F.length:=Bz hf;subst hn;obtain⟨hb,cur,hg⟩:=Bg hf;obtain⟨s1,g1⟩:=hf.stored (i*4+1) (.int .i64 z);have e1:=Es As 4 Al F i 1 x ({x.1 with at_:=z},x.2) (.int .i64 z) hx (by omega) rfl;rw[e1]at s1;refine⟨⟨ownsRow_setCell_other h.cells (a:=⟨g,i*4+1,none⟩) (fun e=>AL h.cells hg (by decide) g e rfl) _,?_,?_⟩,g1⟩
 ·rw[hv,List.length_set]
  exact s1
 ·rw[Em]
  simp only[];rw[Kb _ _ _ (A7 hx)];exact h.fam.set hg (by decide) _ _
theorem Aj.ofFam{w w':World}{B g:Nat}{v:VS}{C C':List (Value×List MC)}{K K':List MC}{F F':List (MG×Value)}(h:Aj w B v C K F){j n c:Nat}{vs:List MC}(hj:(C++[(v.k,K)]++AC F)[j]?=some (.slice (some ⟨g,0,none⟩) n c,vs))(hB:B<=w.heap.size)(hg:w.grownBy w' (some g))(hf:Et w' B (C'++[(v.k,K')]++AC F'))(hC:C'.flatMap Bh=C.flatMap Bh)(lC:C'.length=C.length)(hF:F'.flatMap As=F.flatMap As)(lF:F'.length=F.length):Aj w' B v C' K' F':=by
 have wv:Wv B w w':=Wv.of_row (h.fam.at hj) hg hB;refine⟨?_,?_,hf⟩
 ·rw[lC,hC]
  exact wv.own h.cells (by decide)
 ·rw[lF,hF]
  exact wv.own h.frames (by decide)
theorem Aj.setC{w:World}{B:Nat}{v:VS}{C:List (Value×List MC)}{K:List MC}{F:List (MG×Value)}(h:Aj w B v C K F)(hB:B<=w.heap.size){j g n c i:Nat}{vs:List MC}{y:MC}(hj:C[j]?=some (.slice (some ⟨g,0,none⟩) n c,vs))(hi:vs[i]?=some y)(x:MC):
  Aj ((w.setCell ⟨g,i*2,none⟩ (.int .i64 x.type)).setCell ⟨g,i*2+1,none⟩ (.int .u32 x.word)) B v (C.set j (.slice (some ⟨g,0,none⟩) n c,vs.set i x)) K F/\w.grownBy ((w.setCell ⟨g,i*2,none⟩ (.int .i64 x.type)).setCell ⟨g,i*2+1,none⟩ (.int .u32 x.word)) (some g):=by
 have hlt:=(gI.1 hj).1
 have hj':(C++[(v.k,K)]++AC F)[j]?=some (.slice (some ⟨g,0,none⟩) n c,vs):=by
  rw[List.append_assoc,List.getElem?_append_left hlt];exact hj
 obtain⟨f1,g1⟩:=h.fam.setV hj' hi x;refine⟨h.ofFam hj' hB g1 ?_ (NR Bh (fun _ _ _=>rfl) C j _ _ _ hj) (List.length_set ..) rfl rfl,g1⟩;rw[List.append_assoc,List.set_append_left _ _ hlt,<-List.append_assoc]at f1;exact f1
theorem Mi(F:List (MG×Value))(i:Nat)(x:MG×Value)(ls:List MC)(hx:F[i]?=some x):(F.set i ({x.1 with locals:=ls},x.2)).flatMap As=F.flatMap As:=by
 obtain⟨sp1,sp2⟩:=Fw F i _ ({x.1 with locals:=ls},x.2) hx;rw[sp2];conv=>rhs;rw[sp1]
 simp only[List.flatMap_append,List.flatMap_cons];rfl
theorem NM{C:List (Value×List MC)}{k:Value×List MC}{R:List (Value×List MC)}{i:Nat}{x:Value×List MC}(h:R[i]?=some x):(C++[k]++R)[C.length+1+i]?=some x:=by
 rw[List.getElem?_append_right (by simp)];simp only[List.length_append,List.length_cons,List.length_nil];rw[show C.length+1+i-(C.length+(0+1))=i by omega];exact h
theorem Mk{C:List (Value×List MC)}{k:Value×List MC}{R:List (Value×List MC)}{i:Nat}{x:Value×List MC}:(C++[k]++R).set (C.length+1+i) x=C++[k]++R.set i x:=by
 rw[List.set_append_right _ _ (by simp)];simp only[List.length_append,List.length_cons,List.length_nil];rw[show C.length+1+i-(C.length+(0+1))=i by omega]
theorem Aj.setL{w:World}{B:Nat}{v:VS}{C:List (Value×List MC)}{K:List MC}{F:List (MG×Value)}(h:Aj w B v C K F)(hB:B<=w.heap.size){j g n c i:Nat}{fr:MG}{y:MC}(hj:F[j]?=some (fr,.slice (some ⟨g,0,none⟩) n c))(hi:fr.locals[i]?=some y)(x:MC):
  Aj ((w.setCell ⟨g,i*2,none⟩ (.int .i64 x.type)).setCell ⟨g,i*2+1,none⟩ (.int .u32 x.word)) B v C K (F.set j ({fr with locals:=fr.locals.set i x},.slice (some ⟨g,0,none⟩) n c))/\w.grownBy ((w.setCell ⟨g,i*2,none⟩ (.int .i64 x.type)).setCell ⟨g,i*2+1,none⟩ (.int .u32 x.word)) (some g):=by
 have hj':=NM (C:=C) (k:=(v.k,K)) (A7 hj);simp only[]at hj';obtain⟨f1,g1⟩:=h.fam.setV hj' hi x;refine⟨h.ofFam hj' hB g1 ?_ rfl rfl (Mi F j _ _ hj) (List.length_set ..),g1⟩;rw[Mk]at f1;rw[Em];exact f1
theorem Aj.setLW{w:World}{B:Nat}{v:VS}{C:List (Value×List MC)}{K:List MC}{F:List (MG×Value)}(h:Aj w B v C K F)(hB:B<=w.heap.size){j g n c i:Nat}{fr:MG}{y:MC}(hj:F[j]?=some (fr,.slice (some ⟨g,0,none⟩) n c))(hi:fr.locals[i]?=some y)(x:Int):
  Aj (w.setCell ⟨g,i*2+1,none⟩ (.int .u32 x)) B v C K (F.set j ({fr with locals:=fr.locals.set i ⟨y.type,x⟩},.slice (some ⟨g,0,none⟩) n c))/\w.grownBy (w.setCell ⟨g,i*2+1,none⟩ (.int .u32 x)) (some g):=by
 have hj':=NM (C:=C) (k:=(v.k,K)) (A7 hj);simp only[]at hj';obtain⟨f1,g1⟩:=h.fam.setW hj' hi x;refine⟨h.ofFam hj' hB g1 ?_ rfl rfl (Mi F j _ _ hj) (List.length_set ..),g1⟩;rw[Mk]at f1;rw[Em];exact f1
theorem Et.keep'{u u':World}{B:Nat}{L:List (Value×List MC)}(h:Et u B L)(hb:Below u.heap.size u u'):Et u' B L:=⟨fun r hr=>Ai (h.own r hr) hb lR,h.sep⟩
theorem Aj.grow{u u':World}{B:Nat}{v:VS}{C:List (Value×List MC)}{K:List MC}{F:List (MG×Value)}(h:Aj u B v C K F)(hb:Below u.heap.size u u'):Aj u' B v C K F:=⟨Ai h.cells hb lR,Ai h.frames hb lR,h.fam.keep' hb⟩
theorem Aj.stack{w w':World}{B:Nat}{v:VS}{C:List (Value×List MC)}{K K':List MC}{F:List (MG×Value)}(h:Aj w B v C K F)(hB:B<=w.heap.size){b:Value}(hg:w.grownBy w' v.k.ownBlock)(ho:w'.ownsRow B 128 2 b K'.length (K'.flatMap MC.cells))(hat:b.ownBlock=v.k.ownBlock\/∀g,b.ownBlock=some g->w.heap.size<=g):Aj w' B {v with k:=b} C K' F:=by
 have hk:=h.fam.own (v.k,K) (by simp);simp only[]at hk;have wv:Wv B w w':=Wv.of_row hk hg hB;have hsep:=h.fam.sep
 have hAp:∀r∈C++AC F,FW (v.k,K) r:=by
  intro r hr;rw[List.append_assoc,List.pairwise_append]at hsep;rcases List.mem_append.1 hr with hr|hr
  ·exact(hsep.2.2 r hr _ (by simp)).symm
  ·exact(List.pairwise_cons.1 hsep.2.1).1 r (by simpa using hr)
 have hAp':∀r∈C++AC F,FW (b,K') r:=by
  intro r hr g hgb e;rcases hat with hat|hat
  ·exact hAp r hr g (by simp only[]at hgb⊢;rw[<-hat];exact hgb) e
  ·have h1:=hat g hgb
   have h2:=(h.fam.own r (by simp only[List.mem_append]at hr⊢;rcases hr with hr|hr<;>simp[hr])).lt g e;omega
 refine⟨wv.own h.cells (by decide),wv.own h.frames (by decide),?_,?_⟩
 ·intro r hr
  simp only[List.mem_append,List.mem_cons,List.not_mem_nil,or_false]at hr;rcases hr with(hr|rfl)|hr
  ·exact Bl (h.fam.own r (by simp[hr])) hg (fun g hgr e=>hAp r (by simp[hr]) g e.symm hgr)
  ·exact ho
  ·exact Bl (h.fam.own r (by simp[hr])) hg (fun g hgr e=>hAp r (by simp[hr]) g e.symm hgr)
 ·rw[List.append_assoc,List.pairwise_append]at hsep⊢
  refine⟨hsep.1,?_,?_⟩
  ·simp only[List.cons_append,List.nil_append,List.pairwise_cons]
   refine⟨fun r hr=>hAp' r (by simp[hr]),?_⟩;have:=hsep.2.1;simp only[List.cons_append,List.nil_append,List.pairwise_cons]at this;exact this.2
  ·intro a ha r hr
   simp only[List.cons_append,List.nil_append,List.mem_cons]at hr;rcases hr with rfl|hr
   ·exact(hAp' a (by simp[ha])).symm
   ·exact hsep.2.2 a ha r (by simp[hr])
theorem I4(w:World)(r:Option Nat):w.grownBy w r:=⟨rfl,rfl,rfl,Nat.le_refl _,fun _ _ _=>rfl⟩
theorem Aj.popK{w:World}{B:Nat}{v:VS}{C:List (Value×List MC)}{K:List MC}{F:List (MG×Value)}(h:Aj w B v C K F)(hB:B<=w.heap.size){a:Option Addr}{n c m:Nat}(hv:v.k=.slice a n c)(hm:m<=K.length):Aj w B {v with k:=.slice a m c} C (K.take m) F:=by
 have hk:=h.fam.own (v.k,K) (by simp);simp only[]at hk;rw[hv]at hk;have hn:n=K.length:=Bz hk;subst hn;have hs:=Fu hk hm;rw[Ft MC.cells 2 MC.cells_length]at hs;refine h.stack hB (b:=.slice a m c) (I4 w _) ?_ (.inl ?_)
 ·rw[List.length_take,Nat.min_eq_left hm]
  exact hs
 ·rw[hv]
  cases a<;>rfl
theorem Aj.pushF{w w1 w2:World}{B:Nat}{v:VS}{C:List (Value×List MC)}{K:List MC}{F:List (MG×Value)}(h:Aj w B v C K F)(hB:B<=w.heap.size)(hb:Below w.heap.size w w1){x:MG×Value}(hl:w1.ownsRow w.heap.size 128 2 x.2 x.1.locals.length (x.1.locals.flatMap MC.cells)){b:Value}(hg:w1.grownBy w2 v.f.ownBlock)(ho:w2.ownsRow B 123 4 b (F.length+1) (F.flatMap As++As x)):Aj w2 B {v with f:=b} C K (F++[x]):=by
 have h1:=h.grow hb
 have apart:∀{e:TypeId} {s:Value} {k n:Nat} {xs:List Value} {B':Nat},w1.ownsRow B' e k s n xs->e≠123->w2.ownsRow B' e k s n xs:=by
  intro e s k n xs B' ho' hne;refine Bl ho' hg (fun g hgs e'=> ?_);rcases h1.frames.2 with⟨e1,_⟩|⟨g1,cap,cur,e1,_,hg1,_⟩
  ·rw[e1]at e';cases e'
  ·rw[e1]at e'
   simp only[Value.ownBlock,Option.some.injEq]at e';subst e';exact AL ho' hg1 hne g hgs rfl
 refine⟨apart h1.cells (by decide),?_,?_,?_⟩
 ·rw[List.length_append,List.flatMap_append]
  simpa using ho
 ·intro r hr
  simp only[AC,List.map_append,List.map_cons,List.map_nil,List.mem_append,List.mem_cons,List.not_mem_nil,or_false]at hr;rcases hr with(hr|rfl)|hr|rfl
  ·exact apart (h1.fam.own r (by simp[hr])) (by decide)
  ·exact apart (h1.fam.own (v.k,K) (by simp)) (by decide)
  ·exact apart (h1.fam.own r (by simp only[AC,List.mem_append];exact .inr hr)) (by decide)
  ·exact apart (AA hl hB) (by decide)
 ·rw[show C++[(v.k,K)]++AC (F++[x])=(C++[(v.k,K)]++AC F)++[(x.2,x.1.locals)]by simp[AC]]
  refine List.pairwise_append.2 ⟨h.fam.sep,by simp,fun a ha r hr=> ?_⟩;simp only[List.mem_cons,List.not_mem_nil,or_false]at hr;subst hr;intro g hga e;have h2:=(h.fam.own a ha).lt g hga;have h3:=hl.lt g e;omega
theorem Aj.popF{w:World}{B:Nat}{v:VS}{C:List (Value×List MC)}{K:List MC}{F:List (MG×Value)}(h:Aj w B v C K F){a:Option Addr}{n c m:Nat}(hv:v.f=.slice a n c)(hm:m<=F.length):Aj w B {v with f:=.slice a m c} C K (F.take m):=by
 have hk:=h.frames;rw[hv]at hk;have hn:n=F.length:=Bz hk;subst hn;have hs:=Fu hk hm;rw[Ft As 4 Al]at hs;have hsub:(C++[(v.k,K)]++AC (F.take m)).Sublist (C++[(v.k,K)]++AC F):=List.Sublist.append (List.Sublist.refl _) (by unfold AC;rw[List.map_take];exact List.take_sublist _ _);refine⟨h.cells,?_,fun r hr=>h.fam.own r (hsub.subset hr),h.fam.sep.sublist hsub⟩;rw[List.length_take,Nat.min_eq_left hm];exact hs
theorem Aj.noF{w:World}{B:Nat}{v:VS}{C:List (Value×List MC)}{K:List MC}{F:List (MG×Value)}(h:Aj w B v C K F):Aj w B {v with f:=.slice none 0 0} C K []:=by
 have hsub:(C++[(v.k,K)]++AC []).Sublist (C++[(v.k,K)]++AC F):=List.Sublist.append (List.Sublist.refl _) (by simp[AC]);exact⟨h.cells,World.ownsRow_nil _ _ _ _,fun r hr=>h.fam.own r (hsub.subset hr),h.fam.sep.sublist hsub⟩
theorem Km{A D:List (Value×List MC)}{x:Value×List MC}(h:(A++D).Pairwise FW)(hx:∀r∈A++D,FW x r):(A++[x]++D).Pairwise FW:=by
 rw[List.pairwise_append]at h;rw[List.append_assoc,List.pairwise_append];refine⟨h.1,?_,?_⟩
 ·simp only[List.cons_append,List.nil_append,List.pairwise_cons]
  exact⟨fun r hr=>hx r (by simp[hr]),h.2.1⟩
 ·intro a ha r hr
  simp only[List.cons_append,List.nil_append,List.mem_cons]at hr;rcases hr with rfl|hr
  ·exact(hx a (by simp[ha])).symm
  ·exact h.2.2 a ha r hr
theorem Aj.pushC{w w1 w2:World}{B:Nat}{v:VS}{C:List (Value×List MC)}{K:List MC}{F:List (MG×Value)}(h:Aj w B v C K F)(hB:B<=w.heap.size)(hb:Below w.heap.size w w1){x:Value×List MC}(hl:w1.ownsRow w.heap.size 128 2 x.1 x.2.length (x.2.flatMap MC.cells)){b:Value}(hg:w1.grownBy w2 v.c.ownBlock)(ho:w2.ownsRow B 36 1 b (C.length+1) (C.flatMap Bh++[x.1])):Aj w2 B {v with c:=b} (C++[x]) K F:=by
 have h1:=h.grow hb
 have apart:∀{e:TypeId} {s:Value} {k n:Nat} {xs:List Value} {B':Nat},w1.ownsRow B' e k s n xs->e≠36->w2.ownsRow B' e k s n xs:=by
  intro e s k n xs B' ho' hne;refine Bl ho' hg (fun g hgs e'=> ?_);rcases h1.cells.2 with⟨e1,_⟩|⟨g1,cap,cur,e1,_,hg1,_⟩
  ·rw[e1]at e';cases e'
  ·rw[e1]at e'
   simp only[Value.ownBlock,Option.some.injEq]at e';subst e';exact AL ho' hg1 hne g hgs rfl
 refine⟨?_,apart h1.frames (by decide),?_,?_⟩
 ·rw[List.length_append,List.flatMap_append]
  simpa[Bh]using ho
 ·intro r hr
  simp only[List.mem_append,List.mem_cons,List.not_mem_nil,or_false]at hr;rcases hr with((hr|rfl)|rfl)|hr
  ·exact apart (h1.fam.own r (by simp[hr])) (by decide)
  ·exact apart (AA hl hB) (by decide)
  ·exact apart (h1.fam.own (v.k,K) (by simp)) (by decide)
  ·exact apart (h1.fam.own r (by simp[hr])) (by decide)
 ·rw[List.append_assoc]
  refine Km (by rw[<-List.append_assoc];exact h.fam.sep) (fun r hr=> ?_);intro g hgx e;have h2:=(h.fam.own r (by rw[List.append_assoc];exact hr)).lt g e;have h3:=hl.lt g hgx;omega
theorem Aj.other{w:World}{B:Nat}{v:VS}{C:List (Value×List MC)}{K:List MC}{F:List (MG×Value)}(h:Aj w B v C K F){g:Nat}{cur:Array Value}{t:TypeId}(hg:Aq w g cur t)(h1:128≠t)(h2:36≠t)(h3:123≠t)(i:Nat)(x:Value):Aj (w.setCell ⟨g,i,none⟩ x) B v C K F:=
 ⟨ownsRow_setCell_other h.cells (a:=⟨g,i,none⟩) (fun e=>AL h.cells hg h2 g e rfl) _,ownsRow_setCell_other h.frames (a:=⟨g,i,none⟩) (fun e=>AL h.frames hg h3 g e rfl) _,h.fam.set hg h1 _ _⟩
theorem Aj.base{w:World}{B B':Nat}{v:VS}{C:List (Value×List MC)}{K:List MC}{F:List (MG×Value)}(h:Aj w B v C K F)(hb:B'<=B):Aj w B' v C K F:=⟨AA h.cells hb,AA h.frames hb,fun r hr=>AA (h.fam.own r hr) hb,h.fam.sep⟩
structure Cl(B:Nat)(w u:World):Prop where
 low:Below B w u
 st:∀b cur,Aq w b cur 39->Aq u b cur 39
 hB:B<=w.heap.size
theorem Cl.of{B:Nat}{w u:World}(h:Below w.heap.size w u)(hB:B<=w.heap.size):Cl B w u:=⟨h.mono hB,fun b cur hb=>hb.keep h,hB⟩
theorem Cl.on{B:Nat}{w u u':World}(h:Cl B w u)(hb:Below u.heap.size u u'):Cl B w u':=⟨h.low.trans (hb.mono (Nat.le_trans h.hB h.low.size)),fun b cur hk=>(h.st b cur hk).keep hb,h.hB⟩
theorem Cl.setCell{B:Nat}{w u:World}(h:Cl B w u){a:Addr}(ha:w.heap.size<=a.block)(x:Value):Cl B w (u.setCell a x):=⟨h.low.setCell (Nat.le_trans h.hB ha) x,fun b cur hk=>(h.st b cur hk).other (fun e=>by have:=hk.lt;omega) x,h.hB⟩
theorem Cl.other{B:Nat}{w u:World}(h:Cl B w u){g:Nat}{cu:Array Value}{ty:TypeId}(hg:Aq u g cu ty)(hne:39≠ty)(hBg:B<=g)(i:Nat)(x:Value):Cl B w (u.setCell ⟨g,i,none⟩ x):=⟨h.low.setCell hBg x,fun b cur hk=>(h.st b cur hk).other (fun e=>by
  have h1:=h.st b cur hk;simp only[]at e;subst e;unfold Aq at h1 hg;rw[h1]at hg;simp only[Option.some.injEq,Obj.cells.injEq]at hg;exact hne hg.2.1) x,h.hB⟩
theorem Cl.grown{B:Nat}{w u u':World}(h:Cl B w u){e:TypeId}{k m:Nat}{v:Value}{bs:List Value}(hg:u.grownBy u' v.ownBlock)(ho:u.ownsRow B e k v m bs)(hne:39≠e):Cl B w u':=⟨h.low.grown hg (Nat.le_trans h.hB h.low.size) (fun j hj=>(ho.lt j hj).1),fun b cur hk=>(h.st b cur hk).grown hg ho hne,h.hB⟩
theorem Cl.rows{B:Nat}{w u u':World}(h:Cl B w u){g:Nat}{cu:Array Value}{ty:TypeId}(hg:u.grownBy u' (some g))(hk:Aq u g cu ty)(hne:39≠ty)(hBg:B<=g):Cl B w u':=⟨h.low.grown hg (Nat.le_trans h.hB h.low.size) (fun j hj=>by simp only[Option.some.injEq]at hj;omega),fun b cur hb=>by
  have h1:=h.st b cur hb;unfold Aq at*;rw[hg.block _ (Array.getElem?_eq_some_iff.1 h1).1 ?_]
  ·exact h1
  ·intro e
   simp only[Option.some.injEq]at e;subst e;rw[h1]at hk;simp only[Option.some.injEq,Obj.cells.injEq]at hk;exact hne hk.2.1,h.hB⟩
theorem Cl.trans{B:Nat}{w u u':World}(h:Cl B w u)(h':Cl B u u'):Cl B w u':=⟨h.low.trans h'.low,fun b cur hk=>h'.st b cur (h.st b cur hk),h.hB⟩
theorem Aj.o7{u:World}{B:Nat}{V:VS}{C:List (Value×List MC)}{K:List MC}{F:List (MG×Value)}(h:Aj u B V C K F){b:Nat}{a0 a1 a2 a3 a4 a5 a6:Value}(hb:Aq u b #[a0,a1,a2,a3,a4,a5,a6] 39)(x0 x1 x2 x3 x4 x5 x6:Value):Aj (((((((u.setCell ⟨b,0,none⟩ x0).setCell ⟨b,1,none⟩ x1).setCell ⟨b,2,none⟩ x2).setCell ⟨b,3,none⟩ x3).setCell ⟨b,4,none⟩ x4).setCell ⟨b,5,none⟩ x5).setCell ⟨b,6,none⟩ x6) B V C K F:=by
  have R0:=hb.set 0 x0;have R1:=R0.set 1 x1;have R2:=R1.set 2 x2;have R3:=R2.set 3 x3;have R4:=R3.set 4 x4;have R5:=R4.set 5 x5;exact((((((h.other hb (by decide) (by decide) (by decide) 0 x0).other R0 (by decide) (by decide) (by decide) 1 x1).other R1 (by decide) (by decide) (by decide) 2 x2).other R2 (by decide) (by decide) (by decide) 3 x3).other R3 (by decide) (by decide) (by decide) 4 x4).other R4 (by decide) (by decide) (by decide) 5 x5).other R5 (by decide) (by decide) (by decide) 6 x6
theorem Cl.s7{B b:Nat}{w u:World}(h:Cl B w u)(hb:w.heap.size<=b)(y0 y1 y2 y3 y4 y5 y6:Value):Cl B w (((((((u.setCell ⟨b,0,none⟩ y0).setCell ⟨b,1,none⟩ y1).setCell ⟨b,2,none⟩ y2).setCell ⟨b,3,none⟩ y3).setCell ⟨b,4,none⟩ y4).setCell ⟨b,5,none⟩ y5).setCell ⟨b,6,none⟩ y6):=((((((h.setCell hb _).setCell hb _).setCell hb _).setCell hb _).setCell hb _).setCell hb _).setCell hb _
end Go.Proofs.YtlejplpkomddeaaGreat
