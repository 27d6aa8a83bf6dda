import Derived.Test.YtlejplpkomddeaaGreatR0
import Derived.Test.YtlejplpkomddeaaGreatR1
import Derived.OneCell
import Derived.Deep.RegionWith
namespace Go.Proofs.YtlejplpkomddeaaGreat
open Go.ChangeShapes Go.WideShapes Go.ChangeAt Go.RowKit
set_option linter.unusedVariables false
set_option maxHeartbeats 4000000
set_option maxRecDepth 100000
structure MF where
 params:List Int
 result:Int
 locals:List Int
 code:List MI
structure VF where
 p:Value
 l:Value
 c:Value
def CP(w:World)(v:VF)(f:MF):Prop:=Rd w 1 v.p f.params.length (f.params.flatMap Ae)/\Rd w 1 v.l f.locals.length (f.locals.flatMap Ae)/\Rd w 4 v.c f.code.length (f.code.flatMap MI.cells)
def FD(w:World)(base:Nat)(v:VF)(f:MF):Prop:=w.ownsRow base 2 1 v.p f.params.length (f.params.flatMap Ae)/\w.ownsRow base 2 1 v.l f.locals.length (f.locals.flatMap Ae)/\w.ownsRow base 134 4 v.c f.code.length (f.code.flatMap MI.cells)
def MF.small(f:MF):Prop:=f.params.length<=1048576/\f.locals.length<=1048576/\f.code.length<=1048576
theorem FD.rd{w:World}{base:Nat}{v:VF}{f:MF}(h:FD w base v f):CP w v f:=⟨Rd.of_own h.1,Rd.of_own h.2.1,Rd.of_own h.2.2⟩
theorem CP.keep{w w':World}{v:VF}{f:MF}(h:CP w v f){B:Nat}(hb:Below B w w')(hB:w.heap.size<=B):CP w' v f:=⟨h.1.keep hb hB,h.2.1.keep hb hB,h.2.2.keep hb hB⟩
theorem FD.keep{w w':World}{base:Nat}{v:VF}{f:MF}(h:FD w base v f){B:Nat}(hb:Below B w w')(hB:w.heap.size<=B):FD w' base v f:=⟨Ag h.1 hb hB,Ag h.2.1 hb hB,Ag h.2.2 hb hB⟩
theorem AK{w:World}{base base':Nat}{e:TypeId}{s:Value}{k n:Nat}{xs:List Value}(h:w.ownsRow base e k s n xs)(hb:base'<=base):w.ownsRow base' e k s n xs:=by
 refine⟨h.1,?_⟩;rcases h.2 with h|⟨g,cap,cur,e1,hb1,hg,hr⟩
 ·exact .inl h
 ·exact .inr ⟨g,cap,cur,e1,Nat.le_trans hb hb1,hg,hr⟩
theorem Dm{w:World}{base:Nat}{e:TypeId}{g:Nat}{a b c d:Value}(h:w.ownsRow base e 4 (.slice (some ⟨g,0,none⟩) 1 1) 1 [a,b,c,d]):
 w.cell? ⟨g,0,none⟩=some a/\w.cell? ⟨g,1,none⟩=some b/\w.cell? ⟨g,2,none⟩=some c/\w.cell? ⟨g,3,none⟩=some d/\w.frozen? ⟨g,0,none⟩=false/\w.frozen? ⟨g,1,none⟩=false/\w.frozen? ⟨g,2,none⟩=false/\w.frozen? ⟨g,3,none⟩=false:=
 ⟨h.cellAt 0 (by omega),h.cellAt 1 (by omega),h.cellAt 2 (by omega),h.cellAt 3 (by omega),h.frozenAt 0,h.frozenAt 1,h.frozenAt 2,h.frozenAt 3⟩
structure Fr(w u:World)(tp tr:TypeId)(p r o:List Value):Prop where
 par:u.ownsRow w.heap.size tp 4 (.slice (some ⟨w.heap.size,0,none⟩) 1 1) 1 p
 res:u.ownsRow w.heap.size tr 4 (.slice (some ⟨w.heap.size+1,0,none⟩) 1 1) 1 r
 loc:u.ownsRow w.heap.size tr 4 (.slice (some ⟨w.heap.size+1+1,0,none⟩) 1 1) 1 o
 bel:Below w.heap.size w u
 siz:w.heap.size+3<=u.heap.size
theorem Fr.of(w:World)(tp tr:TypeId)(p r o:Array Value)(hp:p.size=4)(hr:r.size=4)(ho:o.size=4):
 Fr w (((w.alloc (.cells p tp)).alloc (.cells r tr)).alloc (.cells o tr)) tp tr p.toList r.toList o.toList:=by
 have b1:Below w.heap.size w (w.alloc (.cells p tp)):=(Below.refl _ _).alloc lR _;have c2:Below (w.alloc (.cells p tp)).heap.size (w.alloc (.cells p tp)) ((w.alloc (.cells p tp)).alloc (.cells r tr)):=(Below.refl _ _).alloc lR _;have c3:Below ((w.alloc (.cells p tp)).alloc (.cells r tr)).heap.size ((w.alloc (.cells p tp)).alloc (.cells r tr)) (((w.alloc (.cells p tp)).alloc (.cells r tr)).alloc (.cells o tr)):=(Below.refl _ _).alloc lR _;have r1:=World.ownsRow_lit (base:=w.heap.size) (e:=tp) (size:=4) w p 1 lR (by unfold maxLen;omega) (by omega);have r2:=World.ownsRow_lit (base:=w.heap.size) (e:=tr) (size:=4) (w.alloc (.cells p tp)) r 1 (by simp) (by unfold maxLen;omega) (by omega);have r3:=World.ownsRow_lit (base:=w.heap.size) (e:=tr) (size:=4) ((w.alloc (.cells p tp)).alloc (.cells r tr)) o 1 (by simp<;>omega) (by unfold maxLen;omega) (by omega);refine⟨Ag (Ag r1 c2 lR) c3 lR,?_,?_,(b1.trans (c2.mono (by simp))).trans (c3.mono (by simp<;>omega)),by simp<;>omega⟩
 ·have:=Ag r2 c3 lR
  simpa using this
 ·simpa using r3
theorem Fr.keep{w u u':World}{tp tr:TypeId}{p r o:List Value}(h:Fr w u tp tr p r o)(hb:Below u.heap.size u u'):Fr w u' tp tr p r o:=
 ⟨Ag h.par hb lR,Ag h.res hb lR,Ag h.loc hb lR,h.bel.trans (hb.mono (by have:=h.siz;omega)),Nat.le_trans h.siz hb.size⟩
theorem Fr.set{w u:World}{tp tr:TypeId}{p r o:List Value}(h:Fr w u tp tr p r o)(j:Nat)(x:Value):Fr w (u.setCell ⟨w.heap.size+1+1,j,none⟩ x) tp tr p r (o.set j x):=
 ⟨ownsRow_setCell_other h.par (by simp[Value.ownBlock]<;>omega) x,ownsRow_setCell_other h.res (by simp[Value.ownBlock]) x,(h.loc.stored j x).1,h.bel.setCell (by simp<;>omega) x,by have:=h.siz;simpa using this⟩
theorem Fr.set'{w u:World}{tp tr:TypeId}{p r o:List Value}(h:Fr w u tp tr p r o)(j:Nat)(x:Value):Fr w (u.setCell ⟨w.heap.size+1,j,none⟩ x) tp tr p (r.set j x) o:=
 ⟨ownsRow_setCell_other h.par (by simp[Value.ownBlock]<;>omega) x,(h.res.stored j x).1,ownsRow_setCell_other h.loc (by simp[Value.ownBlock]) x,h.bel.setCell (by simp) x,by have:=h.siz;simpa using this⟩
theorem CD{w u:World}{e:TypeId}{s:Value}{k n:Nat}{xs:List Value}(h:u.ownsRow (w.heap.size+3) e k s n xs)(g j:Nat)(hg:g<w.heap.size+3)(x:Value):(u.setCell ⟨g,j,none⟩ x).ownsRow (w.heap.size+3) e k s n xs:=ownsRow_setCell_below h hg x
theorem Ff(s:Value)(ys:List Int)(w:World)(hL:ys.length<=1048576)(h:Rd w 1 s ys.length (ys.flatMap Ae)):
 Calls Tryz.prog 80 #[s] w fun e w'=>∃a c,e=.returned (.slice a ys.length c)/\w'.ownsRow w.heap.size 2 1 (.slice a ys.length c) ys.length (ys.flatMap Ae)/\Below w.heap.size w w':=
 (JJ s ys.length ys w hL h rfl).mono fun e w' h=>⟨_,_,h.1,h.2.1,h.2.2⟩
theorem JK(s:Value)(ys:List MI)(w:World)(hL:ys.length<=1048576)(h:Rd w 4 s ys.length (ys.flatMap MI.cells)):
 Calls Tryz.prog 126 #[s] w fun e w'=>∃a c,e=.returned (.slice a ys.length c)/\w'.ownsRow w.heap.size 134 4 (.slice a ys.length c) ys.length (ys.flatMap MI.cells)/\Below w.heap.size w w':=
 (Jt s ys.length ys w hL h rfl).mono fun e w' h=>⟨_,_,h.1,h.2.1,h.2.2⟩
theorem Js(s:Value)(ys:List MC)(w:World)(hL:ys.length<=1048576)(h:Rd w 2 s ys.length (ys.flatMap MC.cells)):
 Calls Tryz.prog 34 #[s] w fun e w'=>∃a c,e=.returned (.slice a ys.length c)/\w'.ownsRow w.heap.size 143 2 (.slice a ys.length c) ys.length (ys.flatMap MC.cells)/\Below w.heap.size w w':=
 (JY s ys.length ys w hL h rfl).mono fun e w' h=>⟨_,_,h.1,h.2.1,h.2.2⟩
theorem KN(s:Value)(ys:List MT)(w:World)(hL:ys.length<=1048576)(h:Rd w 4 s ys.length (ys.flatMap MT.cells)):
 Calls Tryz.prog 36 #[s] w fun e w'=>∃a c,e=.returned (.slice a ys.length c)/\w'.ownsRow w.heap.size 148 4 (.slice a ys.length c) ys.length (ys.flatMap MT.cells)/\Below w.heap.size w w':=
 (K8 s ys.length ys w hL h rfl).mono fun e w' h=>⟨_,_,h.1,h.2.1,h.2.2⟩
theorem LW(v:VF)(f:MF)(w:World)(hs:f.small)(h:CP w v f):
 Calls Tryz.prog 82 #[.agg #[v.p,.int .i64 f.result,v.l,v.c]] w fun e w'=>∃a1 c1 a2 c2 a3 c3,e=.returned (.agg #[.slice a1 f.params.length c1,.int .i64 f.result,.slice a2 f.locals.length c2,.slice a3 f.code.length c3])/\FD w' w.heap.size ⟨.slice a1 f.params.length c1,.slice a2 f.locals.length c2,.slice a3 f.code.length c3⟩ f/\Below w.heap.size w w':=by
 have H:=h2 h hs;clear h hs;have F0:=Fr.of w 117 131 #[v.p,.int .i64 f.result,v.l,v.c] #[.slice none 0 0,.int .i64 0,.slice none 0 0,.slice none 0 0] #[.slice none 0 0,.int .i64 0,.slice none 0 0,.slice none 0 0] rfl rfl rfl;go_enter Tryz.func82,Tryz.ntmps82;go_wp2_with fail
 refine(Ff v.p f.params _ H.out.2.1 (H.out.1.1.keep F0.bel lR)).mono ?_;rintro e u1 ⟨a1,c1,rfl,own1,b1⟩;have O1:=AS (AK own1 F0.siz);have F1:=F0.keep b1;clear own1 b1 F0;obtain⟨p0,p1,p2,p3,_⟩:=Dm F1.par;obtain⟨o0,o1,o2,o3,z0,z1,z2,z3⟩:=Dm F1.loc;go_wp2_with fail
 have F2:=(F1.set 0 (.slice a1 f.params.length c1)).set 1 (.int .i64 f.result);have O2:Hid _:=CD (w:=w) (CD (w:=w) O1.out (w.heap.size+1+1) 0 (by omega) (.slice a1 f.params.length c1)) (w.heap.size+1+1) 1 (by omega) (.int .i64 f.result);clear O1 F1 p0 p1 p2 p3 o0 o1 o2 o3 z0 z1 z2 z3;simp only[List.set_cons_zero,List.set_cons_succ]at F2;refine(Ff v.l f.locals _ H.out.2.2.1 (H.out.1.2.1.keep F2.bel lR)).mono ?_;rintro e u2 ⟨a2,c2,rfl,own2,b2⟩;have O3:=h2 (Ag O2.out b2 lR) (AK own2 F2.siz);have F3:=F2.keep b2;clear own2 b2 F2 O2;obtain⟨p0,p1,p2,p3,_⟩:=Dm F3.par;obtain⟨o0,o1,o2,o3,z0,z1,z2,z3⟩:=Dm F3.loc;go_wp2_with fail
 have F4:=F3.set 2 (.slice a2 f.locals.length c2);have O4:Hid _:=And.intro (CD (w:=w) O3.out.1 (w.heap.size+1+1) 2 (by omega) (.slice a2 f.locals.length c2)) (CD (w:=w) O3.out.2 (w.heap.size+1+1) 2 (by omega) (.slice a2 f.locals.length c2));clear O3 F3 p0 p1 p2 p3 o0 o1 o2 o3 z0 z1 z2 z3;simp only[List.set_cons_zero,List.set_cons_succ]at F4;refine(JK v.c f.code _ H.out.2.2.2 (H.out.1.2.2.keep F4.bel lR)).mono ?_;rintro e u3 ⟨a3,c3,rfl,own3,b3⟩;have O5:=h3 (Ag O4.out.1 b3 lR) (Ag O4.out.2 b3 lR) (AK own3 F4.siz);have F5:=F4.keep b3;clear own3 b3 F4 O4;obtain⟨p0,p1,p2,p3,_⟩:=Dm F5.par;obtain⟨o0,o1,o2,o3,z0,z1,z2,z3⟩:=Dm F5.loc;obtain⟨q0,q1,q2,q3,y0,y1,y2,y3⟩:=Dm F5.res;go_wp2_with fail
 clear p0 p1 p2 p3 o0 o1 o2 o3 z0 z1 z2 z3 q0 q1 q2 q3 y0 y1 y2 y3;have F6:=((((F5.set 3 (.slice a3 f.code.length c3)).set' 0 (.slice a1 f.params.length c1)).set' 1 (.int .i64 f.result)).set' 2 (.slice a2 f.locals.length c2)).set' 3 (.slice a3 f.code.length c3);simp only[List.set_cons_zero,List.set_cons_succ]at F6;obtain⟨q0,q1,q2,q3,_⟩:=Dm F6.res
 have hall:∀{e:TypeId} {s:Value} {k n:Nat} {xs:List Value},u3.ownsRow (w.heap.size+3) e k s n xs->(((((u3.setCell ⟨w.heap.size+1+1,3,none⟩ (.slice a3 f.code.length c3)).setCell ⟨w.heap.size+1,0,none⟩ (.slice a1 f.params.length c1)).setCell ⟨w.heap.size+1,1,none⟩ (.int .i64 f.result)).setCell ⟨w.heap.size+1,2,none⟩ (.slice a2 f.locals.length c2)).setCell ⟨w.heap.size+1,3,none⟩ (.slice a3 f.code.length c3)).ownsRow w.heap.size e k s n xs:=fun h=>
  AK (CD (CD (CD (CD (CD h _ _ (by omega) _) _ _ (by omega) _) _ _ (by omega) _) _ _ (by omega) _) _ _ (by omega) _) (by omega)
 exact bodyPost_ret (v:=.agg #[.slice a1 f.params.length c1,.int .i64 f.result,.slice a2 f.locals.length c2,.slice a3 f.code.length c3]) (by simp[results,Tryz.results82,go_sem,q0,q1,q2,q3]) rfl ⟨a1,c1,a2,c2,a3,c3,rfl,⟨hall O5.out.1,hall O5.out.2.1,hall O5.out.2.2⟩,F6.bel⟩
theorem DX(op t x y:Int)(w:World)(hy:0<=y)(hy':y<4294967296):Calls Tryz.prog 125 #[.int .i64 op,.int .i64 t,.int .u32 x,.int .u32 y] w fun e w'=>e=.returned (.int .u32 (AD op t x y))/\Below w.heap.size w w':=by
 by_cases ho:op<0\/29<op
 ·rw[ML (by omega)]
  exact AG op t x y w _ _ _ (Ge ho) (by simp;omega) (by simp;omega) (by simp;omega) rfl
 ·have h:op=0\/op=1\/op=2\/op=3\/op=4\/op=5\/op=6\/op=7\/op=8\/op=9\/op=10\/op=11\/op=12\/op=13\/op=14\/op=15\/op=16\/op=17\/op=18\/op=19\/op=20\/op=21\/op=22\/op=23\/op=24\/op=25\/op=26\/op=27\/op=28\/op=29:=by omega
  clear ho;rcases h with rfl|rfl|rfl|rfl|rfl|rfl|rfl|rfl|rfl|rfl|rfl|rfl|rfl|rfl|rfl|rfl|rfl|rfl|rfl|rfl|rfl|rfl|rfl|rfl|rfl|rfl|rfl|rfl|rfl|rfl
  ·exact AG 0 t x y w ⟨#[110,111,112]⟩ 1 0 (by kernel_rfl) rfl rfl rfl rfl
  ·exact AG 1 t x y w ⟨#[99,111,110,115,116]⟩ 1 1 (by kernel_rfl) rfl rfl rfl rfl
  ·exact AG 2 t x y w ⟨#[108,111,97,100,108,111,99,97,108]⟩ 1 2 (by kernel_rfl) rfl rfl rfl rfl
  ·exact AG 3 t x y w ⟨#[115,116,111,114,101,108,111,99,97,108]⟩ 1 2 (by kernel_rfl) rfl rfl rfl rfl
  ·exact AG 4 t x y w ⟨#[108,111,97,100]⟩ 2 3 (by kernel_rfl) rfl rfl rfl rfl
  ·exact AG 5 t x y w ⟨#[115,116,111,114,101]⟩ 2 3 (by kernel_rfl) rfl rfl rfl rfl
  ·exact AG 6 t x y w ⟨#[108,111,97,100,97,116]⟩ 3 4 (by kernel_rfl) rfl rfl rfl rfl
  ·exact AG 7 t x y w ⟨#[115,116,111,114,101,97,116]⟩ 3 4 (by kernel_rfl) rfl rfl rfl rfl
  ·show Calls _ _ _ _ fun e w'=>e=.returned (.int .u32 (if AX 5 t then MA t x y else 0))/\Below w.heap.size w w'
   cases ht:AX 5 t
   ·exact AG 8 t x y w ⟨#[97,100,100]⟩ 1 5 (by kernel_rfl) rfl rfl rfl ht
   ·exact LU t x y w ht
  ·show Calls _ _ _ _ fun e w'=>e=.returned (.int .u32 (if AX 5 t then MQ t x y else 0))/\Below w.heap.size w w'
   cases ht:AX 5 t
   ·exact AG 9 t x y w ⟨#[115,117,98]⟩ 1 5 (by kernel_rfl) rfl rfl rfl ht
   ·exact LG t x y w ht
  ·show Calls _ _ _ _ fun e w'=>e=.returned (.int .u32 (if AX 5 t then MU t x y else 0))/\Below w.heap.size w w'
   cases ht:AX 5 t
   ·exact AG 10 t x y w ⟨#[109,117,108]⟩ 3 5 (by kernel_rfl) rfl rfl rfl ht
   ·exact KI t x y w ht
  ·show Calls _ _ _ _ fun e w'=>e=.returned (.int .u32 (if AX 5 t then Gq t x y else 0))/\Below w.heap.size w w'
   cases ht:AX 5 t
   ·exact AG 11 t x y w ⟨#[100,105,118]⟩ 8 5 (by kernel_rfl) rfl rfl rfl ht
   ·exact KJ t x y w ht hy hy'
  ·show Calls _ _ _ _ fun e w'=>e=.returned (.int .u32 (if AX 5 t then Gn t x y else 0))/\Below w.heap.size w w'
   cases ht:AX 5 t
   ·exact AG 12 t x y w ⟨#[109,111,100]⟩ 8 5 (by kernel_rfl) rfl rfl rfl ht
   ·exact Kl t x y w ht hy hy'
  ·show Calls _ _ _ _ fun e w'=>e=.returned (.int .u32 (if AX 6 t then Nv t x y else 0))/\Below w.heap.size w w'
   cases ht:AX 6 t
   ·exact AG 13 t x y w ⟨#[97,110,100]⟩ 1 6 (by kernel_rfl) rfl rfl rfl ht
   ·exact Kp t x y w ht
  ·show Calls _ _ _ _ fun e w'=>e=.returned (.int .u32 (if AX 6 t then Qo t x y else 0))/\Below w.heap.size w w'
   cases ht:AX 6 t
   ·exact AG 14 t x y w ⟨#[111,114]⟩ 1 6 (by kernel_rfl) rfl rfl rfl ht
   ·exact Km t x y w ht
  ·show Calls _ _ _ _ fun e w'=>e=.returned (.int .u32 (if AX 6 t then N4 t x y else 0))/\Below w.heap.size w w'
   cases ht:AX 6 t
   ·exact AG 15 t x y w ⟨#[120,111,114]⟩ 1 6 (by kernel_rfl) rfl rfl rfl ht
   ·exact KQ t x y w ht
  ·show Calls _ _ _ _ fun e w'=>e=.returned (.int .u32 (if AX 6 t then IQ t x y else 0))/\Below w.heap.size w w'
   cases ht:AX 6 t
   ·exact AG 16 t x y w ⟨#[110,111,116]⟩ 1 6 (by kernel_rfl) rfl rfl rfl ht
   ·exact Kc t x y w ht
  ·exact K7 t x y w
  ·exact Ll t x y w
  ·exact Lf t x y w
  ·show Calls _ _ _ _ fun e w'=>e=.returned (.int .u32 (if AX 7 t then Qd t x y else 0))/\Below w.heap.size w w'
   cases ht:AX 7 t
   ·exact AG 20 t x y w ⟨#[101,113]⟩ 1 7 (by kernel_rfl) rfl rfl rfl ht
   ·exact Kb t x y w ht
  ·show Calls _ _ _ _ fun e w'=>e=.returned (.int .u32 (if AX 5 t then FQ t x y else 0))/\Below w.heap.size w w'
   cases ht:AX 5 t
   ·exact AG 21 t x y w ⟨#[108,101,115,115]⟩ 1 5 (by kernel_rfl) rfl rfl rfl ht
   ·exact Kz t x y w ht
  ·exact AG 22 t x y w ⟨#[99,111,110,118]⟩ 1 8 (by kernel_rfl) rfl rfl rfl rfl
  ·exact AG 23 t x y w ⟨#[100,117,112]⟩ 1 0 (by kernel_rfl) rfl rfl rfl rfl
  ·exact AG 24 t x y w ⟨#[100,114,111,112]⟩ 1 0 (by kernel_rfl) rfl rfl rfl rfl
  ·exact AG 25 t x y w ⟨#[106,117,109,112]⟩ 2 9 (by kernel_rfl) rfl rfl rfl rfl
  ·exact AG 26 t x y w ⟨#[106,117,109,112,122,101,114,111]⟩ 2 9 (by kernel_rfl) rfl rfl rfl rfl
  ·exact AG 27 t x y w ⟨#[103,117,97,114,100]⟩ 2 10 (by kernel_rfl) rfl rfl rfl rfl
  ·exact AG 28 t x y w ⟨#[99,97,108,108]⟩ 4 11 (by kernel_rfl) rfl rfl rfl rfl
  ·exact AG 29 t x y w ⟨#[114,101,116,117,114,110]⟩ 2 0 (by kernel_rfl) rfl rfl rfl rfl
def BK(x:MF×VF):List Value:=[x.2.p,.int .i64 x.1.result,x.2.l,x.2.c]
theorem Ai(x:MF×VF):(BK x).length=4:=rfl
def Cu(x:List Int×Value):List Value:=[x.2]
theorem AO(x:List Int×Value):(Cu x).length=1:=rfl
def Gc(w:World)(s:Value)(fs:List MF):Prop:=∃xs:List (MF×VF),xs.map Prod.fst=fs/\Rd w 4 s fs.length (xs.flatMap BK)/\∀x∈xs,CP w x.2 x.1
def DK(w:World)(base:Nat)(s:Value)(fs:List MF):Prop:=∃xs:List (MF×VF),xs.map Prod.fst=fs/\w.ownsRow base 131 4 s fs.length (xs.flatMap BK)/\∀x∈xs,FD w base x.2 x.1
def LE(w:World)(s:Value)(rs:List (List Int)):Prop:=∃xs:List (List Int×Value),xs.map Prod.fst=rs/\Rd w 1 s rs.length (xs.flatMap Cu)/\∀x∈xs,Rd w 1 x.2 x.1.length (x.1.flatMap Ae)
def Fm(w:World)(base:Nat)(s:Value)(rs:List (List Int)):Prop:=∃xs:List (List Int×Value),xs.map Prod.fst=rs/\w.ownsRow base 113 1 s rs.length (xs.flatMap Cu)/\∀x∈xs,w.ownsRow base 2 1 x.2 x.1.length (x.1.flatMap Ae)
theorem DK.rd{w:World}{base:Nat}{s:Value}{fs:List MF}(h:DK w base s fs):Gc w s fs:=by
 obtain⟨xs,h1,h2,h3⟩:=h;exact⟨xs,h1,Rd.of_own h2,fun x hx=>(h3 x hx).rd⟩
theorem Fm.rd{w:World}{base:Nat}{s:Value}{rs:List (List Int)}(h:Fm w base s rs):LE w s rs:=by
 obtain⟨xs,h1,h2,h3⟩:=h;exact⟨xs,h1,Rd.of_own h2,fun x hx=>Rd.of_own (h3 x hx)⟩
theorem Gc.keep{w w':World}{s:Value}{fs:List MF}(h:Gc w s fs){B:Nat}(hb:Below B w w')(hB:w.heap.size<=B):Gc w' s fs:=by
 obtain⟨xs,h1,h2,h3⟩:=h;exact⟨xs,h1,h2.keep hb hB,fun x hx=>(h3 x hx).keep hb hB⟩
theorem LE.keep{w w':World}{s:Value}{rs:List (List Int)}(h:LE w s rs){B:Nat}(hb:Below B w w')(hB:w.heap.size<=B):LE w' s rs:=by
 obtain⟨xs,h1,h2,h3⟩:=h;exact⟨xs,h1,h2.keep hb hB,fun x hx=>(h3 x hx).keep hb hB⟩
theorem DK.keep{w w':World}{base:Nat}{s:Value}{fs:List MF}(h:DK w base s fs){B:Nat}(hb:Below B w w')(hB:w.heap.size<=B):DK w' base s fs:=by
 obtain⟨xs,h1,h2,h3⟩:=h;exact⟨xs,h1,Ag h2 hb hB,fun x hx=>(h3 x hx).keep hb hB⟩
theorem Fm.keep{w w':World}{base:Nat}{s:Value}{rs:List (List Int)}(h:Fm w base s rs){B:Nat}(hb:Below B w w')(hB:w.heap.size<=B):Fm w' base s rs:=by
 obtain⟨xs,h1,h2,h3⟩:=h;exact⟨xs,h1,Ag h2 hb hB,fun x hx=>Ag (h3 x hx) hb hB⟩
theorem FD.base{w:World}{base base':Nat}{v:VF}{f:MF}(h:FD w base v f)(hb:base'<=base):FD w base' v f:=⟨AK h.1 hb,AK h.2.1 hb,AK h.2.2 hb⟩
theorem DK.base{w:World}{base base':Nat}{s:Value}{fs:List MF}(h:DK w base s fs)(hb:base'<=base):DK w base' s fs:=by
 obtain⟨xs,h1,h2,h3⟩:=h;exact⟨xs,h1,AK h2 hb,fun x hx=>(h3 x hx).base hb⟩
theorem Fm.base{w:World}{base base':Nat}{s:Value}{rs:List (List Int)}(h:Fm w base s rs)(hb:base'<=base):Fm w base' s rs:=by
 obtain⟨xs,h1,h2,h3⟩:=h;exact⟨xs,h1,AK h2 hb,fun x hx=>AK (h3 x hx) hb⟩
theorem FD.below{w:World}{base:Nat}{v:VF}{f:MF}(h:FD w base v f){a:Addr}(ha:a.block<base)(u:Value):FD (w.setCell a u) base v f:=⟨ownsRow_setCell_below h.1 ha u,ownsRow_setCell_below h.2.1 ha u,ownsRow_setCell_below h.2.2 ha u⟩
theorem DK.below{w:World}{base:Nat}{s:Value}{fs:List MF}(h:DK w base s fs){a:Addr}(ha:a.block<base)(u:Value):DK (w.setCell a u) base s fs:=by
 obtain⟨xs,h1,h2,h3⟩:=h;exact⟨xs,h1,ownsRow_setCell_below h2 ha u,fun x hx=>(h3 x hx).below ha u⟩
theorem Fm.below{w:World}{base:Nat}{s:Value}{rs:List (List Int)}(h:Fm w base s rs){a:Addr}(ha:a.block<base)(u:Value):Fm (w.setCell a u) base s rs:=by
 obtain⟨xs,h1,h2,h3⟩:=h;exact⟨xs,h1,ownsRow_setCell_below h2 ha u,fun x hx=>ownsRow_setCell_below (h3 x hx) ha u⟩
theorem Qh:(Tryz.prog.info? 131).map (fun i=>(i.zero,i.size,i.bytes))=some (some (.agg #[.slice none 0 0,.int .i64 0,.slice none 0 0,.slice none 0 0]),4,80):=by kernel_rfl
theorem Qp:(Tryz.prog.info? 113).map (fun i=>(i.zero,i.size,i.bytes))=some (some (.slice none 0 0),1,24):=by kernel_rfl
theorem Bh{α β:Type}{xs:List (α×β)}{fs:List α}(h:xs.map Prod.fst=fs){k:Nat}{x:α×β}(hx:xs[k]?=some x):fs[k]?=some x.1:=by
 rw[<-h,List.getElem?_map,hx];rfl
theorem Kx{α β:Type}{ys:List (α×β)}{fs:List α}{k:Nat}(h:ys.map Prod.fst=fs.take k){f:α}(hf:fs[k]?=some f)(b:β):(ys++[(f,b)]).map Prod.fst=fs.take (k+1):=by
 obtain⟨hlt,rfl⟩:=gI.1 hf;rw[List.map_append,h,List.take_succ_eq_append_getElem hlt];rfl
def FS{α:Type}(f:α->List Value)(z:List Value)(ys:List α)(n:Nat):List Value:=ys.flatMap f++(List.replicate (n-ys.length) z).flatten
theorem Hv{α:Type}(f:α->List Value)(z:List Value)(n:Nat)(v:Value)(m:Nat)(hv:v.cells=z.toArray)(hm:z.length=m)(h0:0<m):(madeCells v.cells (n*m)).toList=FS f z [] n:=by
 rw[Cv f z [] n v m hv hm h0];simp[CK,FS]
theorem Eu{α:Type}(f:α->List Value)(z:List Value)(ys:List α)(k n:Nat)(hk:k<n)(hl:ys.length=k):FS f z ys n=ys.flatMap f++(z++(List.replicate (n-(k+1)) z).flatten):=by
 unfold FS;have e:n-ys.length=(n-(k+1))+1:=by omega
 rw[e,List.replicate_succ,List.flatten_cons]
theorem Hy{α:Type}(f:α->List Value)(z:List Value)(ys:List α)(k n:Nat)(y:α)(hl:ys.length=k):FS f z (ys++[y]) n=ys.flatMap f++(f y++(List.replicate (n-(k+1)) z).flatten):=by
 unfold FS;rw[List.flatMap_append,List.append_assoc];simp[hl]
theorem Jk{α:Type}(f:α->List Value)(z:List Value)(ys:List α)(n:Nat)(h:ys.length=n):FS f z ys n=ys.flatMap f:=by simp[FS,<-h]
theorem Nz{w:World}{base:Nat}{e:TypeId}{g k n c:Nat}{xs:List Value}(h:w.ownsRow base e k (.slice (some ⟨g,0,none⟩) n c) n xs):g+1<=w.heap.size:=by
 rcases h.2 with⟨h',_⟩|⟨g',cap',cur,h',_,hg,_⟩
 ·cases h'
 ·cases h'
  exact(Array.getElem?_eq_some_iff.1 hg).1
structure Ps(w wr:World)(fs:List MF)(L k:Nat)(ys:List (MF×VF)):Prop where
 fst:ys.map Prod.fst=fs.take k
 len:ys.length=k
 row:wr.ownsRow w.heap.size 131 4 (.slice (some ⟨w.heap.size,0,none⟩) L L) L (FS BK [.slice none 0 0,.int .i64 0,.slice none 0 0,.slice none 0 0] ys L)
 els:∀y∈ys,FD wr (w.heap.size+1) y.2 y.1
 bel:Below w.heap.size w wr
 siz:w.heap.size+1<=wr.heap.size
theorem Ps.places{w wr:World}{fs:List MF}{L k:Nat}{ys:List (MF×VF)}(h:Ps w wr fs L k ys)(hk:k<L){u:World}(hb:Below wr.heap.size wr u):
 u.cell? ⟨w.heap.size,k*4,none⟩=some (.slice none 0 0)/\u.cell? ⟨w.heap.size,k*4+1,none⟩=some (.int .i64 0)/\u.cell? ⟨w.heap.size,k*4+2,none⟩=some (.slice none 0 0)/\u.cell? ⟨w.heap.size,k*4+3,none⟩=some (.slice none 0 0)/\u.frozen? ⟨w.heap.size,k*4,none⟩=false/\u.frozen? ⟨w.heap.size,k*4+1,none⟩=false/\u.frozen? ⟨w.heap.size,k*4+2,none⟩=false/\u.frozen? ⟨w.heap.size,k*4+3,none⟩=false:=by
 have hown:=Ag h.row hb lR;rw[Eu BK _ ys k L hk h.len]at hown;have hA:(ys.flatMap BK).length=k*4:=by rw[Az BK 4 Ai,h.len]
 have d0:=hown.cellAt (k*4) (by omega);have d1:=hown.cellAt (k*4+1) (by omega);have d2:=hown.cellAt (k*4+2) (by omega);have d3:=hown.cellAt (k*4+3) (by omega);rw[List.getElem?_append_right (by omega),hA]at d0 d1 d2 d3;rw[Nat.sub_self]at d0;rw[Nat.add_sub_cancel_left]at d1 d2 d3;exact⟨d0,d1,d2,d3,hown.frozenAt _,hown.frozenAt _,hown.frozenAt _,hown.frozenAt _⟩
theorem Ps.next{w wr:World}{fs:List MF}{L k:Nat}{ys:List (MF×VF)}(h:Ps w wr fs L k ys)(hk:k<L){u:World}(hb:Below wr.heap.size wr u){f:MF}(hf:fs[k]?=some f){v:VF}(ho:FD u wr.heap.size v f):
 Ps w ((((u.setCell ⟨w.heap.size,k*4,none⟩ v.p).setCell ⟨w.heap.size,k*4+1,none⟩ (.int .i64 f.result)).setCell ⟨w.heap.size,k*4+2,none⟩ v.l).setCell ⟨w.heap.size,k*4+3,none⟩ v.c) fs L (k+1) (ys++[(f,v)]):=by
 have hown:=Ag h.row hb lR;rw[Eu BK _ ys k L hk h.len]at hown;have hA:(ys.flatMap BK).length=k*4:=by rw[Az BK 4 Ai,h.len]
 have s0:=(hown.stored (k*4) v.p).1;have s1:=(s0.stored (k*4+1) (.int .i64 f.result)).1;have s2:=(s1.stored (k*4+2) v.l).1;have s3:=(s2.stored (k*4+3) v.c).1;rw[Qa _ _ _ _ _ _ _ _ _ _ (k*4) hA]at s3;refine⟨Kx h.fst hf v,by simp[h.len],?_,?_,?_,?_⟩
 ·rw[Hy BK _ ys k L (f,v) h.len]
  exact s3
 ·intro y hy
  have hy':FD u (w.heap.size+1) y.2 y.1:=by
   rcases List.mem_append.1 hy with hy|hy
   ·exact(h.els y hy).keep hb lR
   ·simp only[List.mem_singleton]at hy
    subst hy;exact ho.base h.siz
  exact(((hy'.below (by simp) _).below (by simp) _).below (by simp) _).below (by simp) _
 ·exact((((h.bel.trans (hb.mono (by have:=h.siz;omega))).setCell lR _).setCell lR _).setCell lR _).setCell lR _
 ·have:=hb.size
  have:=h.siz;simp;omega
theorem Ld(s:Value)(fs:List MF)(w:World)(hL:fs.length<=1048576)(hs:∀f∈fs,f.small)(h:Gc w s fs):
 Calls Tryz.prog 35 #[s] w fun e w'=>∃a c,e=.returned (.slice a fs.length c)/\DK w' w.heap.size (.slice a fs.length c) fs/\Below w.heap.size w w':=by
 obtain⟨i0,hi,hz0,hz1,hz2⟩:=info_parts Qh;obtain⟨xs,hxs,hrd,hel⟩:=h;have hxl:xs.length=fs.length:=by rw[<-hxs];simp
 have H1:=h5 hrd hxs hel hs hxl;obtain⟨a1,c1,rfl⟩:=hrd.is_slice;clear hrd hxs hel hs hxl;generalize hLL:fs.length=L at hL H1;have HL:Hid (fs.length=L):=hLL;clear hLL;go_enter Tryz.func35,Tryz.ntmps35;go_wp2_with (at_make;refine wpList_make_full _ rfl _ _ 42 rfl w.heap.size 131 i0 (.agg #[.slice none 0 0,.int .i64 0,.slice none 0 0,.slice none 0 0]) 4 Tryz.underlying42 hi hz0 hz1 .i64 .i64 _ _ L rfl rfl rfl rfl (by rw[hz2];omega) (by unfold maxLen;omega) lR ?_;intro w1 hown hgrow);rw[Hv BK [.slice none 0 0,.int .i64 0,.slice none 0 0,.slice none 0 0] L (.agg #[.slice none 0 0,.int .i64 0,.slice none 0 0,.slice none 0 0]) 4 rfl rfl (by omega)]at hown;have hB:Below w.heap.size w w1:=(Below.refl _ _).grown hgrow lR (fun k hk=>by cases hk);have hst:Ps w w1 fs L 0 []:=⟨by simp,rfl,hown,(fun y hy=>by cases hy),hB,Nz hown⟩;clear hgrow hown hB;go_loopw [4] (fun i wr=>∃k:Nat,k<=L/\i=.int .i64 k/\∃ys,Ps w wr fs L k ys) (fun i _=>L-(intOf i).toNat)
 case atStart=>exact⟨0,by omega,rfl,_,hst⟩
 case round=>
  clear hst;obtain⟨k,hk,rfl,ys,hst⟩:=hrel;by_cases hlt:k<L
  ·obtain⟨x,hx⟩:∃x,xs[k]?=some x:=⟨_,gE (by rw[H1.out.2.2.2.2];exact hlt)⟩
   have hfx:=Bh H1.out.2.1 hx;have hrx:=H1.out.2.2.1 x (mG hx);have hsm:=H1.out.2.2.2.1 x.1 (mG hfx);rcases H1.out.1.2 with⟨e0,_⟩|⟨g,o,c,e1,hc1⟩
   ·omega
   ·simp only[sJ,true_and]at e1
    obtain⟨rfl,rfl⟩:=e1;have i0:=Rd.elem Ai hc1 k x hx 0 _ rfl;have i1:=Rd.elem Ai hc1 k x hx 1 _ rfl;have i2:=Rd.elem Ai hc1 k x hx 2 _ rfl;have i3:=Rd.elem Ai hc1 k x hx 3 _ rfl;rw[<-hst.bel.cell (bL i0)]at i0;rw[<-hst.bel.cell (bL i1)]at i1;rw[<-hst.bel.cell (bL i2)]at i2;rw[<-hst.bel.cell (bL i3)]at i3;rw[Nat.add_zero]at i0;obtain⟨f,v⟩:=x;have HX:=h3 hfx (hrx.keep hst.bel lR) hsm;clear hfx hrx hsm hx hc1;simp only[]at i0 i1 i2 i3;go_wp2_with fail
    refine(LW v f wr HX.out.2.2 HX.out.2.1).mono ?_;rintro e u ⟨b1,d1,b2,d2,b3,d3,rfl,hou,hbu⟩;obtain⟨q0,q1,q2,q3,f0,f1,f2,f3⟩:=hst.places hlt hbu;have HN:Hid _:=hst.next hlt hbu HX.out.1 hou;clear hou hbu i0 i1 i2 i3 hst HX;go_wp2
    go_roundw
    case rel=>exact⟨k+1,by omega,by go_num,_,HN.out⟩
    case measure=>simp[intOf];omega
  ·have hkn:k=L:=by omega
   subst hkn;go_wp2
   go_ret
   refine⟨some ⟨w.heap.size,0,none⟩,k,rfl,⟨ys,?_,?_,fun y hy=>(hst.els y hy).base (by omega)⟩,hst.bel⟩
   ·rw[hst.fst,<-HL.out,List.take_length]
   ·have hrow:=hst.row
    rw[Jk _ _ _ _ hst.len]at hrow;rw[HL.out];exact hrow
structure PU(w wr:World)(fs:List (List Int))(L k:Nat)(ys:List (List Int×Value)):Prop where
 fst:ys.map Prod.fst=fs.take k
 len:ys.length=k
 row:wr.ownsRow w.heap.size 113 1 (.slice (some ⟨w.heap.size,0,none⟩) L L) L (FS Cu [.slice none 0 0] ys L)
 els:∀y∈ys,wr.ownsRow (w.heap.size+1) 2 1 y.2 y.1.length (y.1.flatMap Ae)
 bel:Below w.heap.size w wr
 siz:w.heap.size+1<=wr.heap.size
theorem PU.places{w wr:World}{fs:List (List Int)}{L k:Nat}{ys:List (List Int×Value)}(h:PU w wr fs L k ys)(hk:k<L){u:World}(hb:Below wr.heap.size wr u):
 u.cell? ⟨w.heap.size,k,none⟩=some (.slice none 0 0)/\u.frozen? ⟨w.heap.size,k,none⟩=false:=by
 have hown:=Ag h.row hb lR;rw[Eu Cu _ ys k L hk h.len]at hown;have hA:(ys.flatMap Cu).length=k:=by rw[Az Cu 1 AO,h.len,Nat.mul_one]
 have d0:=hown.cellAt k (by omega);rw[List.getElem?_append_right (by omega),hA]at d0;rw[Nat.sub_self]at d0;exact⟨d0,hown.frozenAt _⟩
theorem PU.next{w wr:World}{fs:List (List Int)}{L k:Nat}{ys:List (List Int×Value)}(h:PU w wr fs L k ys)(hk:k<L){u:World}(hb:Below wr.heap.size wr u){f:List Int}(hf:fs[k]?=some f){v:Value}(ho:u.ownsRow wr.heap.size 2 1 v f.length (f.flatMap Ae)):
 PU w (u.setCell ⟨w.heap.size,k,none⟩ v) fs L (k+1) (ys++[(f,v)]):=by
 have hown:=Ag h.row hb lR;rw[Eu Cu _ ys k L hk h.len]at hown;have hA:(ys.flatMap Cu).length=k:=by rw[Az Cu 1 AO,h.len,Nat.mul_one]
 have s0:=(hown.stored k v).1;rw[PA _ _ _ _ k hA]at s0;refine⟨Kx h.fst hf v,by simp[h.len],?_,?_,?_,?_⟩
 ·rw[Hy Cu _ ys k L (f,v) h.len]
  exact s0
 ·intro y hy
  have hy':u.ownsRow (w.heap.size+1) 2 1 y.2 y.1.length (y.1.flatMap Ae):=by
   rcases List.mem_append.1 hy with hy|hy
   ·exact Ag (h.els y hy) hb lR
   ·simp only[List.mem_singleton]at hy
    subst hy;exact AK ho h.siz
  exact ownsRow_setCell_below hy' (by simp) _
 ·exact(h.bel.trans (hb.mono (by have:=h.siz;omega))).setCell lR _
 ·have:=hb.size
  have:=h.siz;simp;omega
theorem Iy(s:Value)(fs:List (List Int))(w:World)(hL:fs.length<=1048576)(hs:∀f∈fs,f.length<=1048576)(h:LE w s fs):
 Calls Tryz.prog 33 #[s] w fun e w'=>∃a c,e=.returned (.slice a fs.length c)/\Fm w' w.heap.size (.slice a fs.length c) fs/\Below w.heap.size w w':=by
 obtain⟨i0,hi,hz0,hz1,hz2⟩:=info_parts Qp;obtain⟨xs,hxs,hrd,hel⟩:=h;have hxl:xs.length=fs.length:=by rw[<-hxs];simp
 have H1:=h5 hrd hxs hel hs hxl;obtain⟨a1,c1,rfl⟩:=hrd.is_slice;clear hrd hxs hel hs hxl;generalize hLL:fs.length=L at hL H1;have HL:Hid (fs.length=L):=hLL;clear hLL;go_enter Tryz.func33,Tryz.ntmps33;go_wp2_with (at_make;refine wpList_make_full _ rfl _ _ 22 rfl w.heap.size 113 i0 (.slice none 0 0) 1 Tryz.underlying22 hi hz0 hz1 .i64 .i64 _ _ L rfl rfl rfl rfl (by rw[hz2];omega) (by unfold maxLen;omega) lR ?_;intro w1 hown hgrow);rw[Hv Cu [.slice none 0 0] L (.slice none 0 0) 1 rfl rfl (by omega)]at hown;have hB:Below w.heap.size w w1:=(Below.refl _ _).grown hgrow lR (fun k hk=>by cases hk);have hst:PU w w1 fs L 0 []:=⟨by simp,rfl,hown,(fun y hy=>by cases hy),hB,Nz hown⟩;clear hgrow hown hB;go_loopw [4] (fun i wr=>∃k:Nat,k<=L/\i=.int .i64 k/\∃ys,PU w wr fs L k ys) (fun i _=>L-(intOf i).toNat)
 case atStart=>exact⟨0,by omega,rfl,_,hst⟩
 case round=>
  clear hst;obtain⟨k,hk,rfl,ys,hst⟩:=hrel;by_cases hlt:k<L
  ·obtain⟨x,hx⟩:∃x,xs[k]?=some x:=⟨_,gE (by rw[H1.out.2.2.2.2];exact hlt)⟩
   have hfx:=Bh H1.out.2.1 hx;have hrx:=H1.out.2.2.1 x (mG hx);have hsm:=H1.out.2.2.2.1 x.1 (mG hfx);rcases H1.out.1.2 with⟨e0,_⟩|⟨g,o,c,e1,hc1⟩
   ·omega
   ·simp only[sJ,true_and]at e1
    obtain⟨rfl,rfl⟩:=e1;have i0:=Rd.elem AO hc1 k x hx 0 _ rfl;rw[<-hst.bel.cell (bL i0)]at i0;rw[Nat.mul_one,Nat.add_zero]at i0;obtain⟨f,v⟩:=x;have HX:=h3 hfx (hrx.keep hst.bel lR) hsm;clear hfx hrx hsm hx hc1;simp only[]at i0;go_wp2_with fail
    refine(Ff v f wr HX.out.2.2 HX.out.2.1).mono ?_;rintro e u ⟨b1,d1,rfl,hou,hbu⟩;obtain⟨q0,f0⟩:=hst.places hlt hbu;have HN:Hid _:=hst.next hlt hbu HX.out.1 hou;clear hou hbu i0 hst HX;go_wp2
    go_roundw
    case rel=>exact⟨k+1,by omega,by go_num,_,HN.out⟩
    case measure=>simp[intOf];omega
  ·have hkn:k=L:=by omega
   subst hkn;go_wp2
   go_ret
   refine⟨some ⟨w.heap.size,0,none⟩,k,rfl,⟨ys,?_,?_,fun y hy=>AK (hst.els y hy) (by omega)⟩,hst.bel⟩
   ·rw[hst.fst,<-HL.out,List.take_length]
   ·have hrow:=hst.row
    rw[Jk _ _ _ _ hst.len]at hrow;rw[HL.out];exact hrow
structure MP where
 regions:List (List Int)
 consts:List MC
 funcs:List MF
 certs:List MT
structure VP where
 r:Value
 k:Value
 f:Value
 t:Value
structure Cx(w:World)(v:VP)(p:MP):Prop where
 regions:LE w v.r p.regions
 consts:Rd w 2 v.k p.consts.length (p.consts.flatMap MC.cells)
 funcs:Gc w v.f p.funcs
 certs:Rd w 4 v.t p.certs.length (p.certs.flatMap MT.cells)
structure FL(w:World)(base:Nat)(v:VP)(p:MP):Prop where
 regions:Fm w base v.r p.regions
 consts:w.ownsRow base 143 2 v.k p.consts.length (p.consts.flatMap MC.cells)
 funcs:DK w base v.f p.funcs
 certs:w.ownsRow base 148 4 v.t p.certs.length (p.certs.flatMap MT.cells)
structure MP.small(p:MP):Prop where
 regions:p.regions.length<=1048576
 region:∀r∈p.regions,r.length<=1048576
 consts:p.consts.length<=1048576
 funcs:p.funcs.length<=1048576
 func:∀f∈p.funcs,f.small
 certs:p.certs.length<=1048576
theorem FL.rd{w:World}{base:Nat}{v:VP}{p:MP}(h:FL w base v p):Cx w v p:=⟨h.regions.rd,Rd.of_own h.consts,h.funcs.rd,Rd.of_own h.certs⟩
theorem Cx.keep{w w':World}{v:VP}{p:MP}(h:Cx w v p){B:Nat}(hb:Below B w w')(hB:w.heap.size<=B):Cx w' v p:=⟨h.regions.keep hb hB,h.consts.keep hb hB,h.funcs.keep hb hB,h.certs.keep hb hB⟩
theorem FL.keep{w w':World}{base:Nat}{v:VP}{p:MP}(h:FL w base v p){B:Nat}(hb:Below B w w')(hB:w.heap.size<=B):FL w' base v p:=⟨h.regions.keep hb hB,Ag h.consts hb hB,h.funcs.keep hb hB,Ag h.certs hb hB⟩
theorem FL.base{w:World}{base base':Nat}{v:VP}{p:MP}(h:FL w base v p)(hb:base'<=base):FL w base' v p:=⟨h.regions.base hb,AK h.consts hb,h.funcs.base hb,AK h.certs hb⟩
theorem FL.below{w:World}{base:Nat}{v:VP}{p:MP}(h:FL w base v p){a:Addr}(ha:a.block<base)(u:Value):FL (w.setCell a u) base v p:=⟨h.regions.below ha u,ownsRow_setCell_below h.consts ha u,h.funcs.below ha u,ownsRow_setCell_below h.certs ha u⟩
theorem DB(v:VP)(p:MP)(w:World)(hs:p.small)(h:Cx w v p):
 Calls Tryz.prog 8 #[.agg #[v.r,v.k,v.f,v.t]] w fun e w'=>∃a1 c1 a2 c2 a3 c3 a4 c4,e=.returned (.agg #[.slice a1 p.regions.length c1,.slice a2 p.consts.length c2,.slice a3 p.funcs.length c3,.slice a4 p.certs.length c4])/\FL w' w.heap.size ⟨.slice a1 p.regions.length c1,.slice a2 p.consts.length c2,.slice a3 p.funcs.length c3,.slice a4 p.certs.length c4⟩ p/\Below w.heap.size w w':=by
 have F0:=Fr.of w 27 45 #[v.r,v.k,v.f,v.t] #[.slice none 0 0,.slice none 0 0,.slice none 0 0,.slice none 0 0] #[.slice none 0 0,.slice none 0 0,.slice none 0 0,.slice none 0 0] rfl rfl rfl;go_enter Tryz.func8,Tryz.ntmps8;go_wp2_with fail
 refine(Iy v.r p.regions _ hs.regions hs.region (h.regions.keep F0.bel lR)).mono ?_;rintro e u1 ⟨a1,c1,rfl,own1,b1⟩;have O1:=AS (own1.base F0.siz);have F1:=F0.keep b1;clear own1 b1 F0;obtain⟨p0,p1,p2,p3,_⟩:=Dm F1.par;obtain⟨o0,o1,o2,o3,z0,z1,z2,z3⟩:=Dm F1.loc;go_wp2_with fail
 have F2:=F1.set 0 (.slice a1 p.regions.length c1);have O2:Hid (Fm (u1.setCell ⟨w.heap.size+1+1,0,none⟩ (.slice a1 p.regions.length c1)) (w.heap.size+3) (.slice a1 p.regions.length c1) p.regions):=O1.out.below (by simp) _;clear O1 F1 p0 p1 p2 p3 o0 o1 o2 o3 z0 z1 z2 z3;simp only[List.set_cons_zero]at F2;refine(Js v.k p.consts _ hs.consts (h.consts.keep F2.bel lR)).mono ?_;rintro e u2 ⟨a2,c2,rfl,own2,b2⟩;have O3:=h2 (O2.out.keep b2 lR) (AK own2 F2.siz);have F3:=F2.keep b2;clear own2 b2 F2 O2;obtain⟨p0,p1,p2,p3,_⟩:=Dm F3.par;obtain⟨o0,o1,o2,o3,z0,z1,z2,z3⟩:=Dm F3.loc;go_wp2_with fail
 have F4:=F3.set 1 (.slice a2 p.consts.length c2);have O4:Hid _:=And.intro (O3.out.1.below (a:=⟨w.heap.size+1+1,1,none⟩) (by simp) (.slice a2 p.consts.length c2)) (CD (w:=w) O3.out.2 (w.heap.size+1+1) 1 (by omega) (.slice a2 p.consts.length c2));clear O3 F3 p0 p1 p2 p3 o0 o1 o2 o3 z0 z1 z2 z3;simp only[List.set_cons_zero,List.set_cons_succ]at F4;refine(Ld v.f p.funcs _ hs.funcs hs.func (h.funcs.keep F4.bel lR)).mono ?_;rintro e u3 ⟨a3,c3,rfl,own3,b3⟩;have O5:Hid (Fm u3 (w.heap.size+3) (.slice a1 p.regions.length c1) p.regions/\u3.ownsRow (w.heap.size+3) 143 2 (.slice a2 p.consts.length c2) p.consts.length (p.consts.flatMap MC.cells)/\DK u3 (w.heap.size+3) (.slice a3 p.funcs.length c3) p.funcs):=⟨O4.out.1.keep b3 lR,Ag O4.out.2 b3 lR,own3.base F4.siz⟩
 have F5:=F4.keep b3;clear own3 b3 F4 O4;obtain⟨p0,p1,p2,p3,_⟩:=Dm F5.par;obtain⟨o0,o1,o2,o3,z0,z1,z2,z3⟩:=Dm F5.loc;go_wp2_with fail
 have F6:=F5.set 2 (.slice a3 p.funcs.length c3);have O6:Hid _:=And.intro (O5.out.1.below (a:=⟨w.heap.size+1+1,2,none⟩) (by simp) (.slice a3 p.funcs.length c3)) (And.intro (CD (w:=w) O5.out.2.1 (w.heap.size+1+1) 2 (by omega) (.slice a3 p.funcs.length c3)) (O5.out.2.2.below (a:=⟨w.heap.size+1+1,2,none⟩) (by simp) (.slice a3 p.funcs.length c3)));clear O5 F5 p0 p1 p2 p3 o0 o1 o2 o3 z0 z1 z2 z3;simp only[List.set_cons_zero,List.set_cons_succ]at F6;refine(KN v.t p.certs _ hs.certs (h.certs.keep F6.bel lR)).mono ?_;rintro e u4 ⟨a4,c4,rfl,own4,b4⟩;have O7:Hid (FL u4 (w.heap.size+3) ⟨.slice a1 p.regions.length c1,.slice a2 p.consts.length c2,.slice a3 p.funcs.length c3,.slice a4 p.certs.length c4⟩ p):=⟨O6.out.1.keep b4 lR,Ag O6.out.2.1 b4 lR,O6.out.2.2.keep b4 lR,AK own4 F6.siz⟩;have F7:=F6.keep b4;clear own4 b4 F6 O6;obtain⟨p0,p1,p2,p3,_⟩:=Dm F7.par;obtain⟨o0,o1,o2,o3,z0,z1,z2,z3⟩:=Dm F7.loc;obtain⟨q0,q1,q2,q3,y0,y1,y2,y3⟩:=Dm F7.res;go_wp2_with fail
 clear p0 p1 p2 p3 o0 o1 o2 o3 z0 z1 z2 z3 q0 q1 q2 q3 y0 y1 y2 y3;have F8:=((((F7.set 3 (.slice a4 p.certs.length c4)).set' 0 (.slice a1 p.regions.length c1)).set' 1 (.slice a2 p.consts.length c2)).set' 2 (.slice a3 p.funcs.length c3)).set' 3 (.slice a4 p.certs.length c4);simp only[List.set_cons_zero,List.set_cons_succ]at F8;obtain⟨q0,q1,q2,q3,_⟩:=Dm F8.res;have hall:=((((O7.out.below (a:=⟨w.heap.size+1+1,3,none⟩) (by simp) (.slice a4 p.certs.length c4)).below (a:=⟨w.heap.size+1,0,none⟩) (by simp<;>omega) (.slice a1 p.regions.length c1)).below (a:=⟨w.heap.size+1,1,none⟩) (by simp<;>omega) (.slice a2 p.consts.length c2)).below (a:=⟨w.heap.size+1,2,none⟩) (by simp<;>omega) (.slice a3 p.funcs.length c3)).below (a:=⟨w.heap.size+1,3,none⟩) (by simp<;>omega) (.slice a4 p.certs.length c4);exact bodyPost_ret (v:=.agg #[.slice a1 p.regions.length c1,.slice a2 p.consts.length c2,.slice a3 p.funcs.length c3,.slice a4 p.certs.length c4]) (by simp[results,Tryz.results8,go_sem,q0,q1,q2,q3]) rfl ⟨a1,c1,a2,c2,a3,c3,a4,c4,rfl,hall.base (by omega),F8.bel⟩
theorem A3(B:Nat)(w:World)(nq:Nat):Below B w (w.drewN nq):=⟨rfl,rfl,rfl,Nat.le_refl _,fun _ _=>rfl⟩
theorem As{w u:World}(h:Below w.drew.heap.size w.drew u){B:Nat}(hB:B<=w.heap.size):Below B w u:=⟨h.os,h.tape,h.output,h.size,fun k hk=>h.block k (Nat.lt_of_lt_of_le hk hB)⟩
theorem H6(s s':Value)(ys:List Int)(w:World)(hn:ys.length<=140737488355328)(h:Rd w 1 s ys.length (ys.flatMap Ae))(h':Rd w 1 s' ys.length (ys.flatMap Ae)):
 Calls Tryz.prog 103 #[s,s'] w fun e w'=>e=.returned (.bool true)/\∃m,w'=w.drewN m:=by
 have H1:=AS h;have H2:=AS h';obtain⟨a1,c1,rfl⟩:=h.is_slice;obtain⟨a2,c2,rfl⟩:=h'.is_slice;clear h h';generalize hLL:ys.length=n at hn H1 H2;have HL:Hid (ys.length=n):=hLL;clear hLL;go_enter Tryz.func103,Tryz.ntmps103;go_wp2
 go_loopw [5] (fun i wr=>∃k:Nat,k<=n/\i=.int .i64 k/\∃m,wr=w.drewN m) (fun i _=>n-(intOf i).toNat)
 case atStart=>exact⟨0,by omega,rfl,0,rfl⟩
 case round=>
  obtain⟨k,hk,rfl,m,rfl⟩:=hrel;by_cases hlt:k<n
  ·obtain⟨x,hx⟩:∃x,ys[k]?=some x:=⟨_,gE (by rw[HL.out];exact hlt)⟩
   rcases H1.out.2 with⟨e0,_⟩|⟨g,o,c,e1,hc1⟩
   ·omega
   ·rcases H2.out.2 with⟨e0,_⟩|⟨g',o',c',e2,hc2⟩
    ·omega
    ·simp only[sJ,true_and]at e1 e2
     obtain⟨rfl,rfl⟩:=e1;obtain⟨rfl,rfl⟩:=e2;have i0:=Rd.elem An hc1 k x hx 0 _ rfl;have j0:=Rd.elem An hc2 k x hx 0 _ rfl;rw[Nat.mul_one,Nat.add_zero]at i0 j0;clear hc1 hc2 hx;go_wp2
     go_quiet (fail)
     go_wp2
     go_roundw
     case rel=>exact⟨k+1,by omega,by go_num,_,rfl⟩
     case measure=>simp[intOf];omega
  ·go_wp2
   go_ret
   exact⟨rfl,_,rfl⟩
theorem EJ(s s':Value)(ys:List Int)(w:World)(hn:ys.length<=140737488355328)(h:Rd w 1 s ys.length (ys.flatMap Ae))(h':Rd w 1 s' ys.length (ys.flatMap Ae)):
 Calls Tryz.prog 103 #[s,s'] w fun e w'=>e=.returned (.bool true)/\Below w.heap.size w w':=
 (H6 s s' ys w hn h h').mono fun e w' ⟨h1,m,h2⟩=>⟨h1,h2▸A3 _ _ _⟩
theorem J6(x:MI)(w:World):
 Calls Tryz.prog 203 #[.agg #[.int .i64 x.op,.int .i64 x.a,.int .i64 x.b,.int .i64 x.c],.agg #[.int .i64 x.op,.int .i64 x.a,.int .i64 x.b,.int .i64 x.c]] w fun e w'=>e=.returned (.bool true)/\Below w.heap.size w w':=by
 go_enter Tryz.func203,Tryz.ntmps203;go_wp2
 go_ret
 exact⟨rfl,(((Below.refl _ _).alloc lR _).alloc (by simp) _)⟩
theorem JH(x:MC)(w:World):
 Calls Tryz.prog 104 #[.agg #[.int .i64 x.type,.int .u32 x.word],.agg #[.int .i64 x.type,.int .u32 x.word]] w fun e w'=>e=.returned (.bool true)/\Below w.heap.size w w':=by
 go_enter Tryz.func104,Tryz.ntmps104;go_wp2
 go_ret
 exact⟨rfl,(((Below.refl _ _).alloc lR _).alloc (by simp) _)⟩
theorem KA(x:MT)(w:World):
 Calls Tryz.prog 106 #[.agg #[.int .i64 x.func,.int .i64 x.head,.int .i64 x.counter,.int .u32 x.init],.agg #[.int .i64 x.func,.int .i64 x.head,.int .i64 x.counter,.int .u32 x.init]] w fun e w'=>e=.returned (.bool true)/\Below w.heap.size w w':=by
 go_enter Tryz.func106,Tryz.ntmps106;go_wp2
 go_ret
 exact⟨rfl,(((Below.refl _ _).alloc lR _).alloc (by simp) _)⟩
theorem Iv(s s':Value)(ys:List MI)(w:World)(hn:ys.length<=1048576)(h:Rd w 4 s ys.length (ys.flatMap MI.cells))(h':Rd w 4 s' ys.length (ys.flatMap MI.cells)):
 Calls Tryz.prog 174 #[s,s'] w fun e w'=>e=.returned (.bool true)/\Below w.heap.size w w':=by
 have H1:=AS h;have H2:=AS h';obtain⟨a1,c1,rfl⟩:=h.is_slice;obtain⟨a2,c2,rfl⟩:=h'.is_slice;clear h h';generalize hLL:ys.length=n at hn H1 H2;have HL:Hid (ys.length=n):=hLL;clear hLL;go_enter Tryz.func174,Tryz.ntmps174;go_wp2
 go_loopw [5] (fun i wr=>∃k:Nat,k<=n/\i=.int .i64 k/\Below w.heap.size w wr) (fun i _=>n-(intOf i).toNat)
 case atStart=>exact⟨0,by omega,rfl,Below.refl _ _⟩
 case round=>
  obtain⟨k,hk,rfl,hbel⟩:=hrel;have HB:Hid (Below w.heap.size w wr):=hbel;clear hbel;by_cases hlt:k<n
  ·obtain⟨x,hx⟩:∃x,ys[k]?=some x:=⟨_,gE (by rw[HL.out];exact hlt)⟩
   rcases H1.out.2 with⟨e0,_⟩|⟨g,o,c,e1,hc1⟩
   ·omega
   ·rcases H2.out.2 with⟨e0,_⟩|⟨g',o',c',e2,hc2⟩
    ·omega
    ·simp only[sJ,true_and]at e1 e2
     obtain⟨rfl,rfl⟩:=e1;obtain⟨rfl,rfl⟩:=e2;have i0:=Rd.elem MI.cells_length hc1 k x hx 0 _ rfl;have i1:=Rd.elem MI.cells_length hc1 k x hx 1 _ rfl;have i2:=Rd.elem MI.cells_length hc1 k x hx 2 _ rfl;have i3:=Rd.elem MI.cells_length hc1 k x hx 3 _ rfl;have j0:=Rd.elem MI.cells_length hc2 k x hx 0 _ rfl;have j1:=Rd.elem MI.cells_length hc2 k x hx 1 _ rfl;have j2:=Rd.elem MI.cells_length hc2 k x hx 2 _ rfl;have j3:=Rd.elem MI.cells_length hc2 k x hx 3 _ rfl;rw[<-HB.out.cell (bL i0),Nat.add_zero]at i0;rw[<-HB.out.cell (bL i1)]at i1;rw[<-HB.out.cell (bL i2)]at i2;rw[<-HB.out.cell (bL i3)]at i3;rw[<-HB.out.cell (bL j0),Nat.add_zero]at j0;rw[<-HB.out.cell (bL j1)]at j1;rw[<-HB.out.cell (bL j2)]at j2;rw[<-HB.out.cell (bL j3)]at j3;clear hc1 hc2 hx;go_wp2_with fail
     go_region_with (go_at_call 203;refine(J6 x _).mono ?_;rintro e u ⟨rfl,hbu⟩)
     all_goals
      have HB2:Hid (Below w.heap.size w u):=HB.out.trans (As hbu HB.out.size);clear hbu HB i0 i1 i2 i3 j0 j1 j2 j3;go_wp2
      go_roundw
      case rel=>exact⟨k+1,by omega,by go_num,HB2.out⟩
      case measure=>simp[intOf];omega
  ·go_wp2
   go_ret
   exact⟨rfl,HB.out⟩
theorem JE(s s':Value)(ys:List MT)(w:World)(hn:ys.length<=1048576)(h:Rd w 4 s ys.length (ys.flatMap MT.cells))(h':Rd w 4 s' ys.length (ys.flatMap MT.cells)):
 Calls Tryz.prog 51 #[s,s'] w fun e w'=>e=.returned (.bool true)/\Below w.heap.size w w':=by
 have H1:=AS h;have H2:=AS h';obtain⟨a1,c1,rfl⟩:=h.is_slice;obtain⟨a2,c2,rfl⟩:=h'.is_slice;clear h h';generalize hLL:ys.length=n at hn H1 H2;have HL:Hid (ys.length=n):=hLL;clear hLL;go_enter Tryz.func51,Tryz.ntmps51;go_wp2
 go_loopw [5] (fun i wr=>∃k:Nat,k<=n/\i=.int .i64 k/\Below w.heap.size w wr) (fun i _=>n-(intOf i).toNat)
 case atStart=>exact⟨0,by omega,rfl,Below.refl _ _⟩
 case round=>
  obtain⟨k,hk,rfl,hbel⟩:=hrel;have HB:Hid (Below w.heap.size w wr):=hbel;clear hbel;by_cases hlt:k<n
  ·obtain⟨x,hx⟩:∃x,ys[k]?=some x:=⟨_,gE (by rw[HL.out];exact hlt)⟩
   rcases H1.out.2 with⟨e0,_⟩|⟨g,o,c,e1,hc1⟩
   ·omega
   ·rcases H2.out.2 with⟨e0,_⟩|⟨g',o',c',e2,hc2⟩
    ·omega
    ·simp only[sJ,true_and]at e1 e2
     obtain⟨rfl,rfl⟩:=e1;obtain⟨rfl,rfl⟩:=e2;have i0:=Rd.elem MT.cells_length hc1 k x hx 0 _ rfl;have i1:=Rd.elem MT.cells_length hc1 k x hx 1 _ rfl;have i2:=Rd.elem MT.cells_length hc1 k x hx 2 _ rfl;have i3:=Rd.elem MT.cells_length hc1 k x hx 3 _ rfl;have j0:=Rd.elem MT.cells_length hc2 k x hx 0 _ rfl;have j1:=Rd.elem MT.cells_length hc2 k x hx 1 _ rfl;have j2:=Rd.elem MT.cells_length hc2 k x hx 2 _ rfl;have j3:=Rd.elem MT.cells_length hc2 k x hx 3 _ rfl;rw[<-HB.out.cell (bL i0),Nat.add_zero]at i0;rw[<-HB.out.cell (bL i1)]at i1;rw[<-HB.out.cell (bL i2)]at i2;rw[<-HB.out.cell (bL i3)]at i3;rw[<-HB.out.cell (bL j0),Nat.add_zero]at j0;rw[<-HB.out.cell (bL j1)]at j1;rw[<-HB.out.cell (bL j2)]at j2;rw[<-HB.out.cell (bL j3)]at j3;clear hc1 hc2 hx;go_wp2_with fail
     go_region_with (go_at_call 106;refine(KA x _).mono ?_;rintro e u ⟨rfl,hbu⟩)
     all_goals
      have HB2:Hid (Below w.heap.size w u):=HB.out.trans (As hbu HB.out.size);clear hbu HB i0 i1 i2 i3 j0 j1 j2 j3;go_wp2
      go_roundw
      case rel=>exact⟨k+1,by omega,by go_num,HB2.out⟩
      case measure=>simp[intOf];omega
  ·go_wp2
   go_ret
   exact⟨rfl,HB.out⟩
theorem IR(s s':Value)(ys:List MC)(w:World)(hn:ys.length<=1048576)(h:Rd w 2 s ys.length (ys.flatMap MC.cells))(h':Rd w 2 s' ys.length (ys.flatMap MC.cells)):
 Calls Tryz.prog 49 #[s,s'] w fun e w'=>e=.returned (.bool true)/\Below w.heap.size w w':=by
 have H1:=AS h;have H2:=AS h';obtain⟨a1,c1,rfl⟩:=h.is_slice;obtain⟨a2,c2,rfl⟩:=h'.is_slice;clear h h';generalize hLL:ys.length=n at hn H1 H2;have HL:Hid (ys.length=n):=hLL;clear hLL;go_enter Tryz.func49,Tryz.ntmps49;go_wp2
 go_loopw [5] (fun i wr=>∃k:Nat,k<=n/\i=.int .i64 k/\Below w.heap.size w wr) (fun i _=>n-(intOf i).toNat)
 case atStart=>exact⟨0,by omega,rfl,Below.refl _ _⟩
 case round=>
  obtain⟨k,hk,rfl,hbel⟩:=hrel;have HB:Hid (Below w.heap.size w wr):=hbel;clear hbel;by_cases hlt:k<n
  ·obtain⟨x,hx⟩:∃x,ys[k]?=some x:=⟨_,gE (by rw[HL.out];exact hlt)⟩
   rcases H1.out.2 with⟨e0,_⟩|⟨g,o,c,e1,hc1⟩
   ·omega
   ·rcases H2.out.2 with⟨e0,_⟩|⟨g',o',c',e2,hc2⟩
    ·omega
    ·simp only[sJ,true_and]at e1 e2
     obtain⟨rfl,rfl⟩:=e1;obtain⟨rfl,rfl⟩:=e2;have i0:=Rd.elem MC.cells_length hc1 k x hx 0 _ rfl;have i1:=Rd.elem MC.cells_length hc1 k x hx 1 _ rfl;have j0:=Rd.elem MC.cells_length hc2 k x hx 0 _ rfl;have j1:=Rd.elem MC.cells_length hc2 k x hx 1 _ rfl;rw[<-HB.out.cell (bL i0),Nat.add_zero]at i0;rw[<-HB.out.cell (bL i1)]at i1;rw[<-HB.out.cell (bL j0),Nat.add_zero]at j0;rw[<-HB.out.cell (bL j1)]at j1;clear hc1 hc2 hx;go_wp2_with fail
     go_region_with (go_at_call 104;refine(JH x _).mono ?_;rintro e u ⟨rfl,hbu⟩)
     all_goals
      have HB2:Hid (Below w.heap.size w u):=HB.out.trans (As hbu HB.out.size);clear hbu HB i0 i1 j0 j1;go_wp2
      go_roundw
      case rel=>exact⟨k+1,by omega,by go_num,HB2.out⟩
      case measure=>simp[intOf];omega
  ·go_wp2
   go_ret
   exact⟨rfl,HB.out⟩
theorem Cx.sl{w:World}{v:VP}{p:MP}(h:Cx w v p):∃r1 r3 k1 k3 t1 t3 f1 f3,v=⟨.slice r1 p.regions.length r3,.slice k1 p.consts.length k3,.slice f1 p.funcs.length f3,.slice t1 p.certs.length t3⟩:=by
 obtain⟨r1,r3,er⟩:=(show∃a c,v.r=.slice a p.regions.length c from by obtain⟨_,_,h2,_⟩:=h.regions;exact h2.is_slice);obtain⟨k1,k3,ek⟩:=h.consts.is_slice;obtain⟨t1,t3,et⟩:=h.certs.is_slice;obtain⟨f1,f3,ef⟩:=(show∃a c,v.f=.slice a p.funcs.length c from by obtain⟨_,_,h2,_⟩:=h.funcs;exact h2.is_slice);obtain⟨vr,vk,vf,vt⟩:=v;simp only[]at er ek et ef;subst er ek et ef;exact⟨r1,r3,k1,k3,t1,t3,f1,f3,rfl⟩
theorem DU{w:World}{g:VF}{f:MF}(h:CP w g f):∃g1 g3 g4 g6 g7 g9,g=⟨.slice g1 f.params.length g3,.slice g4 f.locals.length g6,.slice g7 f.code.length g9⟩:=by
 obtain⟨g1,g3,e1⟩:=h.1.is_slice;obtain⟨g4,g6,e2⟩:=h.2.1.is_slice;obtain⟨g7,g9,e3⟩:=h.2.2.is_slice;obtain⟨gp,gl,gc⟩:=g;simp only[]at e1 e2 e3;subst e1 e2 e3;exact⟨g1,g3,g4,g6,g7,g9,rfl⟩
structure Pj(w u:World)(tp:TypeId)(p r:List Value):Prop where
 par:u.ownsRow w.heap.size tp 4 (.slice (some ⟨w.heap.size,0,none⟩) 1 1) 1 p
 par':u.ownsRow w.heap.size tp 4 (.slice (some ⟨w.heap.size+1,0,none⟩) 1 1) 1 r
 bel:Below w.heap.size w u
theorem Pj.of(w:World)(tp:TypeId)(p r:Array Value)(hp:p.size=4)(hr:r.size=4):
 Pj w ((w.alloc (.cells p tp)).alloc (.cells r tp)) tp p.toList r.toList:=by
 have b1:Below w.heap.size w (w.alloc (.cells p tp)):=(Below.refl _ _).alloc lR _;have c2:Below (w.alloc (.cells p tp)).heap.size (w.alloc (.cells p tp)) ((w.alloc (.cells p tp)).alloc (.cells r tp)):=(Below.refl _ _).alloc lR _;have r1:=World.ownsRow_lit (base:=w.heap.size) (e:=tp) (size:=4) w p 1 lR (by unfold maxLen;omega) (by omega);have r2:=World.ownsRow_lit (base:=w.heap.size) (e:=tp) (size:=4) (w.alloc (.cells p tp)) r 1 (by simp) (by unfold maxLen;omega) (by omega);refine⟨Ag r1 c2 lR,?_,b1.trans (c2.mono (by simp))⟩;simpa using r2
theorem Pj.keep{w u u':World}{tp:TypeId}{p r:List Value}(h:Pj w u tp p r)(hb:Below u.heap.size u u'):Pj w u' tp p r:=
 ⟨Ag h.par hb lR,Ag h.par' hb lR,h.bel.trans (hb.mono h.bel.size)⟩
theorem KH(v v':VF)(f:MF)(w:World)(hs:f.small)(h:CP w v f)(h':CP w v' f):
 Calls Tryz.prog 105 #[.agg #[v.p,.int .i64 f.result,v.l,v.c],.agg #[v'.p,.int .i64 f.result,v'.l,v'.c]] w fun e w'=>e=.returned (.bool true)/\Below w.heap.size w w':=by
 have F0:=Pj.of w 131 #[v.p,.int .i64 f.result,v.l,v.c] #[v'.p,.int .i64 f.result,v'.l,v'.c] rfl rfl;have H:=h3 h h' hs;clear h h' hs;go_enter Tryz.func105,Tryz.ntmps105;go_wp2_with fail
 refine(EJ v.p v'.p f.params _ (Nat.le_trans H.out.2.2.1 (by omega)) (H.out.1.1.keep F0.bel lR) (H.out.2.1.1.keep F0.bel lR)).mono ?_;rintro e u1 ⟨rfl,b1⟩;have F1:=F0.keep b1;clear b1 F0;obtain⟨p0,p1,p2,p3,_⟩:=Dm F1.par;obtain⟨o0,o1,o2,o3,_⟩:=Dm F1.par';go_wp2_with fail
 refine(EJ v.l v'.l f.locals _ (Nat.le_trans H.out.2.2.2.1 (by omega)) (H.out.1.2.1.keep F1.bel lR) (H.out.2.1.2.1.keep F1.bel lR)).mono ?_;rintro e u2 ⟨rfl,b2⟩;have F2:=F1.keep b2;clear b2 F1 p0 p1 p2 p3 o0 o1 o2 o3;obtain⟨p0,p1,p2,p3,_⟩:=Dm F2.par;obtain⟨o0,o1,o2,o3,_⟩:=Dm F2.par';go_wp2_with fail
 refine(Iv v.c v'.c f.code _ H.out.2.2.2.2 (H.out.1.2.2.keep F2.bel lR) (H.out.2.1.2.2.keep F2.bel lR)).mono ?_;rintro e u3 ⟨rfl,b3⟩;have F3:=F2.keep b3;clear b3 F2 p0 p1 p2 p3 o0 o1 o2 o3;go_wp2
 go_ret
 exact⟨rfl,F3.bel⟩
theorem JA(s s':Value)(fs:List MF)(w:World)(hL:fs.length<=1048576)(hs:∀f∈fs,f.small)(h:Gc w s fs)(h':Gc w s' fs):
 Calls Tryz.prog 50 #[s,s'] w fun e w'=>e=.returned (.bool true)/\Below w.heap.size w w':=by
 obtain⟨xs,hxs,hrd,hel⟩:=h;obtain⟨xs',hxs',hrd',hel'⟩:=h';have hxl:xs.length=fs.length:=by rw[<-hxs];simp
 have hxl':xs'.length=fs.length:=by rw[<-hxs'];simp
 have H1:=h5 hrd hxs hel hs hxl;have H2:=h5 hrd' hxs' hel' hs hxl';obtain⟨a1,c1,rfl⟩:=hrd.is_slice;obtain⟨a2,c2,rfl⟩:=hrd'.is_slice;clear hrd hxs hel hs hxl hrd' hxs' hel' hxl';generalize hLL:fs.length=n at hL H1 H2;clear hLL;go_enter Tryz.func50,Tryz.ntmps50;go_wp2
 go_loopw [5] (fun i wr=>∃k:Nat,k<=n/\i=.int .i64 k/\Below w.heap.size w wr) (fun i _=>n-(intOf i).toNat)
 case atStart=>exact⟨0,by omega,rfl,Below.refl _ _⟩
 case round=>
  obtain⟨k,hk,rfl,hbel⟩:=hrel;have HB:Hid (Below w.heap.size w wr):=hbel;clear hbel;by_cases hlt:k<n
  ·obtain⟨⟨f,v⟩,hx⟩:∃x,xs[k]?=some x:=⟨_,gE (by rw[H1.out.2.2.2.2];exact hlt)⟩
   obtain⟨⟨f',v'⟩,hx'⟩:∃x,xs'[k]?=some x:=⟨_,gE (by rw[H2.out.2.2.2.2];exact hlt)⟩;have e1:=Bh H1.out.2.1 hx;have e2:=Bh H2.out.2.1 hx'
   have hff:f'=f:=by
    rw[e1]at e2;exact(Option.some.inj e2).symm
   subst hff;have HX:Hid (CP wr v f'/\CP wr v' f'/\f'.small):=⟨(H1.out.2.2.1 _ (mG hx)).keep HB.out lR,(H2.out.2.2.1 _ (mG hx')).keep HB.out lR,H1.out.2.2.2.1 _ (mG e1)⟩
   clear e1 e2;rcases H1.out.1.2 with⟨e0,_⟩|⟨g,o,c,e1,hc1⟩
   ·omega
   ·rcases H2.out.1.2 with⟨e0,_⟩|⟨g',o',c',e2,hc2⟩
    ·omega
    ·simp only[sJ,true_and]at e1 e2
     obtain⟨rfl,rfl⟩:=e1;obtain⟨rfl,rfl⟩:=e2;have i0:=Rd.elem Ai hc1 k _ hx 0 _ rfl;have i1:=Rd.elem Ai hc1 k _ hx 1 _ rfl;have i2:=Rd.elem Ai hc1 k _ hx 2 _ rfl;have i3:=Rd.elem Ai hc1 k _ hx 3 _ rfl;have j0:=Rd.elem Ai hc2 k _ hx' 0 _ rfl;have j1:=Rd.elem Ai hc2 k _ hx' 1 _ rfl;have j2:=Rd.elem Ai hc2 k _ hx' 2 _ rfl;have j3:=Rd.elem Ai hc2 k _ hx' 3 _ rfl;rw[<-HB.out.cell (bL i0),Nat.add_zero]at i0;rw[<-HB.out.cell (bL i1)]at i1;rw[<-HB.out.cell (bL i2)]at i2;rw[<-HB.out.cell (bL i3)]at i3;rw[<-HB.out.cell (bL j0),Nat.add_zero]at j0;rw[<-HB.out.cell (bL j1)]at j1;rw[<-HB.out.cell (bL j2)]at j2;rw[<-HB.out.cell (bL j3)]at j3;clear hc1 hc2 hx hx';simp only[]at i0 i1 i2 i3 j0 j1 j2 j3;go_wp2_with fail
     go_region_with (go_at_call 105;refine(KH v v' f' _ HX.out.2.2 (by exact HX.out.1) (by exact HX.out.2.1)).mono ?_;rintro e u ⟨rfl,hbu⟩)
     all_goals
      have HB2:Hid (Below w.heap.size w u):=HB.out.trans (As hbu HB.out.size);clear hbu HB i0 i1 i2 i3 j0 j1 j2 j3;go_wp2
      go_roundw
      case rel=>exact⟨k+1,by omega,by go_num,HB2.out⟩
      case measure=>simp[intOf];omega
  ·go_wp2
   go_ret
   exact⟨rfl,HB.out⟩
end Go.Proofs.YtlejplpkomddeaaGreat
