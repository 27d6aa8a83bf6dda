import Derived.Test.YtlejplpkomddeaaGreatG0
import Derived.Test.YtlejplpkomddeaaGreatG2
import Derived.Deep.RegionWith
namespace Go.Proofs.YtlejplpkomddeaaGreat
open Go.ChangeShapes Go.WideShapes Go.ChangeAt Go.RowKit
set_option linter.unusedVariables false
set_option maxHeartbeats 4000000
set_option maxRecDepth 100000
structure MP where
 regions:List (List Int)
 consts:List MC
 funcs:List MF
 certs:List MT
structure VP where
 r:Value
 k:Value
 f:Value
 t:Value
structure Cx(w:World)(v:VP)(p:MP):Prop where
 regions:Lm w v.r p.regions
 consts:Rd w 2 v.k p.consts.length (p.consts.flatMap MC.cells)
 funcs:FN w v.f p.funcs
 certs:Rd w 4 v.t p.certs.length (p.certs.flatMap MT.cells)
structure Fz(w:World)(base:Nat)(v:VP)(p:MP):Prop where
 regions:ES w base v.r p.regions
 consts:w.ownsRow base 143 2 v.k p.consts.length (p.consts.flatMap MC.cells)
 funcs:Dr w base v.f p.funcs
 certs:w.ownsRow base 148 4 v.t p.certs.length (p.certs.flatMap MT.cells)
structure MP.small(p:MP):Prop where
 regions:p.regions.length<=1048576
 region:∀r∈p.regions,r.length<=1048576
 consts:p.consts.length<=1048576
 funcs:p.funcs.length<=1048576
 func:∀f∈p.funcs,f.small
 certs:p.certs.length<=1048576
theorem Fz.rd{w:World}{base:Nat}{v:VP}{p:MP}(h:Fz w base v p):Cx w v p:=⟨h.regions.rd,Rd.of_own h.consts,h.funcs.rd,Rd.of_own h.certs⟩
theorem Cx.keep{w w':World}{v:VP}{p:MP}(h:Cx w v p){B:Nat}(hb:Below B w w')(hB:w.heap.size<=B):Cx w' v p:=⟨h.regions.keep hb hB,h.consts.keep hb hB,h.funcs.keep hb hB,h.certs.keep hb hB⟩
theorem Fz.keep{w w':World}{base:Nat}{v:VP}{p:MP}(h:Fz w base v p){B:Nat}(hb:Below B w w')(hB:w.heap.size<=B):Fz w' base v p:=⟨h.regions.keep hb hB,Ai h.consts hb hB,h.funcs.keep hb hB,Ai h.certs hb hB⟩
theorem Fz.base{w:World}{base base':Nat}{v:VP}{p:MP}(h:Fz w base v p)(hb:base'<=base):Fz w base' v p:=⟨h.regions.base hb,AA h.consts hb,h.funcs.base hb,AA h.certs hb⟩
theorem Fz.below{w:World}{base:Nat}{v:VP}{p:MP}(h:Fz w base v p){a:Addr}(ha:a.block<base)(u:Value):Fz (w.setCell a u) base v p:=⟨h.regions.below ha u,ownsRow_setCell_below h.consts ha u,h.funcs.below ha u,ownsRow_setCell_below h.certs ha u⟩
theorem Dl(v:VP)(p:MP)(w:World)(hs:p.small)(h:Cx w v p):
  Calls Tryz.prog 8 #[.agg #[v.r,v.k,v.f,v.t]] w fun e w'=>∃a1 c1 a2 c2 a3 c3 a4 c4,e=.returned (.agg #[.slice a1 p.regions.length c1,.slice a2 p.consts.length c2,.slice a3 p.funcs.length c3,.slice a4 p.certs.length c4])/\Fz w' w.heap.size ⟨.slice a1 p.regions.length c1,.slice a2 p.consts.length c2,.slice a3 p.funcs.length c3,.slice a4 p.certs.length c4⟩ p/\Below w.heap.size w w':=by
 have F0:=Fr.of w 27 45 #[v.r,v.k,v.f,v.t] #[.slice none 0 0,.slice none 0 0,.slice none 0 0,.slice none 0 0] #[.slice none 0 0,.slice none 0 0,.slice none 0 0,.slice none 0 0] rfl rfl rfl;go_enter Tryz.func8,Tryz.ntmps8;go_wp2_with fail
 refine(H9 v.r p.regions _ hs.regions hs.region (h.regions.keep F0.bel lR)).mono ?_;rintro e u1 ⟨a1,c1,rfl,own1,b1⟩;have O1:=AM (own1.base F0.siz);have F1:=F0.keep b1;clear own1 b1 F0;obtain⟨p0,p1,p2,p3,_⟩:=CE F1.par;obtain⟨o0,o1,o2,o3,z0,z1,z2,z3⟩:=CE F1.loc;go_wp2_with fail
 have F2:=F1.set 0 (.slice a1 p.regions.length c1);have O2:Hid (ES (u1.setCell ⟨w.heap.size+1+1,0,none⟩ (.slice a1 p.regions.length c1)) (w.heap.size+3) (.slice a1 p.regions.length c1) p.regions):=O1.out.below (by simp) _;clear O1 F1 p0 p1 p2 p3 o0 o1 o2 o3 z0 z1 z2 z3;simp only[List.set_cons_zero]at F2;refine(Jd v.k p.consts _ hs.consts (h.consts.keep F2.bel lR)).mono ?_;rintro e u2 ⟨a2,c2,rfl,own2,b2⟩;have O3:=h2 (O2.out.keep b2 lR) (AA own2 F2.siz);have F3:=F2.keep b2;clear own2 b2 F2 O2;obtain⟨p0,p1,p2,p3,_⟩:=CE F3.par;obtain⟨o0,o1,o2,o3,z0,z1,z2,z3⟩:=CE F3.loc;go_wp2_with fail
 have F4:=F3.set 1 (.slice a2 p.consts.length c2);have O4:Hid _:=And.intro (O3.out.1.below (a:=⟨w.heap.size+1+1,1,none⟩) (by simp) (.slice a2 p.consts.length c2)) (Cc (w:=w) O3.out.2 (w.heap.size+1+1) 1 (by omega) (.slice a2 p.consts.length c2));clear O3 F3 p0 p1 p2 p3 o0 o1 o2 o3 z0 z1 z2 z3;simp only[List.set_cons_zero,List.set_cons_succ]at F4;refine(Kg v.f p.funcs _ hs.funcs hs.func (h.funcs.keep F4.bel lR)).mono ?_;rintro e u3 ⟨a3,c3,rfl,own3,b3⟩;have O5:Hid (ES u3 (w.heap.size+3) (.slice a1 p.regions.length c1) p.regions/\u3.ownsRow (w.heap.size+3) 143 2 (.slice a2 p.consts.length c2) p.consts.length (p.consts.flatMap MC.cells)/\Dr u3 (w.heap.size+3) (.slice a3 p.funcs.length c3) p.funcs):=⟨O4.out.1.keep b3 lR,Ai O4.out.2 b3 lR,own3.base F4.siz⟩
 have F5:=F4.keep b3;clear own3 b3 F4 O4;obtain⟨p0,p1,p2,p3,_⟩:=CE F5.par;obtain⟨o0,o1,o2,o3,z0,z1,z2,z3⟩:=CE F5.loc;go_wp2_with fail
 have F6:=F5.set 2 (.slice a3 p.funcs.length c3);have O6:Hid _:=And.intro (O5.out.1.below (a:=⟨w.heap.size+1+1,2,none⟩) (by simp) (.slice a3 p.funcs.length c3)) (And.intro (Cc (w:=w) O5.out.2.1 (w.heap.size+1+1) 2 (by omega) (.slice a3 p.funcs.length c3)) (O5.out.2.2.below (a:=⟨w.heap.size+1+1,2,none⟩) (by simp) (.slice a3 p.funcs.length c3)));clear O5 F5 p0 p1 p2 p3 o0 o1 o2 o3 z0 z1 z2 z3;simp only[List.set_cons_zero,List.set_cons_succ]at F6;refine(Ke v.t p.certs _ hs.certs (h.certs.keep F6.bel lR)).mono ?_;rintro e u4 ⟨a4,c4,rfl,own4,b4⟩;have O7:Hid (Fz u4 (w.heap.size+3) ⟨.slice a1 p.regions.length c1,.slice a2 p.consts.length c2,.slice a3 p.funcs.length c3,.slice a4 p.certs.length c4⟩ p):=⟨O6.out.1.keep b4 lR,Ai O6.out.2.1 b4 lR,O6.out.2.2.keep b4 lR,AA own4 F6.siz⟩;have F7:=F6.keep b4;clear own4 b4 F6 O6;obtain⟨p0,p1,p2,p3,_⟩:=CE F7.par;obtain⟨o0,o1,o2,o3,z0,z1,z2,z3⟩:=CE F7.loc;obtain⟨q0,q1,q2,q3,y0,y1,y2,y3⟩:=CE F7.res;go_wp2_with fail
 clear p0 p1 p2 p3 o0 o1 o2 o3 z0 z1 z2 z3 q0 q1 q2 q3 y0 y1 y2 y3;have F8:=((((F7.set 3 (.slice a4 p.certs.length c4)).set' 0 (.slice a1 p.regions.length c1)).set' 1 (.slice a2 p.consts.length c2)).set' 2 (.slice a3 p.funcs.length c3)).set' 3 (.slice a4 p.certs.length c4);simp only[List.set_cons_zero,List.set_cons_succ]at F8;obtain⟨q0,q1,q2,q3,_⟩:=CE F8.res;have hall:=((((O7.out.below (a:=⟨w.heap.size+1+1,3,none⟩) (by simp) (.slice a4 p.certs.length c4)).below (a:=⟨w.heap.size+1,0,none⟩) (by simp<;>omega) (.slice a1 p.regions.length c1)).below (a:=⟨w.heap.size+1,1,none⟩) (by simp<;>omega) (.slice a2 p.consts.length c2)).below (a:=⟨w.heap.size+1,2,none⟩) (by simp<;>omega) (.slice a3 p.funcs.length c3)).below (a:=⟨w.heap.size+1,3,none⟩) (by simp<;>omega) (.slice a4 p.certs.length c4);exact bodyPost_ret (v:=.agg #[.slice a1 p.regions.length c1,.slice a2 p.consts.length c2,.slice a3 p.funcs.length c3,.slice a4 p.certs.length c4]) (by simp[results,Tryz.results8,go_sem,q0,q1,q2,q3]) rfl ⟨a1,c1,a2,c2,a3,c3,a4,c4,rfl,hall.base (by omega),F8.bel⟩
theorem Bc(B:Nat)(w:World)(nq:Nat):Below B w (w.drewN nq):=⟨rfl,rfl,rfl,Nat.le_refl _,fun _ _=>rfl⟩
theorem Ar{w u:World}(h:Below w.drew.heap.size w.drew u){B:Nat}(hB:B<=w.heap.size):Below B w u:=⟨h.os,h.tape,h.output,h.size,fun k hk=>h.block k (Nat.lt_of_lt_of_le hk hB)⟩
theorem Hg(s s':Value)(ys:List Int)(w:World)(hn:ys.length<=140737488355328)(h:Rd w 1 s ys.length (ys.flatMap Af))(h':Rd w 1 s' ys.length (ys.flatMap Af)):
  Calls Tryz.prog 103 #[s,s'] w fun e w'=>e=.returned (.bool true)/\∃m,w'=w.drewN m:=by
 have H1:=AM h;have H2:=AM h';obtain⟨a1,c1,rfl⟩:=h.is_slice;obtain⟨a2,c2,rfl⟩:=h'.is_slice;clear h h';generalize hLL:ys.length=n at hn H1 H2;have HL:Hid (ys.length=n):=hLL;clear hLL;go_enter Tryz.func103,Tryz.ntmps103;go_wp2
 go_loopw [5] (fun i wr=>∃k:Nat,k<=n/\i=.int .i64 k/\∃m,wr=w.drewN m) (fun i _=>n-(intOf i).toNat)
 case atStart=>exact⟨0,by omega,rfl,0,rfl⟩
 case round=>
  obtain⟨k,hk,rfl,m,rfl⟩:=hrel;by_cases hlt:k<n
  ·obtain⟨x,hx⟩:∃x,ys[k]?=some x:=⟨_,gE (by rw[HL.out];exact hlt)⟩
   rcases H1.out.2 with⟨e0,_⟩|⟨g,o,c,e1,hc1⟩
   ·omega
   ·rcases H2.out.2 with⟨e0,_⟩|⟨g',o',c',e2,hc2⟩
    ·omega
    ·simp only[sJ,true_and]at e1 e2
     obtain⟨rfl,rfl⟩:=e1;obtain⟨rfl,rfl⟩:=e2;have i0:=Rd.elem Ap hc1 k x hx 0 _ rfl;have j0:=Rd.elem Ap hc2 k x hx 0 _ rfl;rw[Nat.mul_one,Nat.add_zero]at i0 j0;clear hc1 hc2 hx;go_wp2
     go_quiet (fail)
     go_wp2
     go_roundw
     case rel=>exact⟨k+1,by omega,by go_num,_,rfl⟩
     case measure=>simp[intOf];omega
  ·go_wp2
   go_ret
   exact⟨rfl,_,rfl⟩
theorem Ef(s s':Value)(ys:List Int)(w:World)(hn:ys.length<=140737488355328)(h:Rd w 1 s ys.length (ys.flatMap Af))(h':Rd w 1 s' ys.length (ys.flatMap Af)):
  Calls Tryz.prog 103 #[s,s'] w fun e w'=>e=.returned (.bool true)/\Below w.heap.size w w':=
 (Hg s s' ys w hn h h').mono fun e w' ⟨h1,m,h2⟩=>⟨h1,h2▸Bc _ _ _⟩
theorem Jq(x:MI)(w:World):
  Calls Tryz.prog 203 #[.agg #[.int .i64 x.op,.int .i64 x.a,.int .i64 x.b,.int .i64 x.c],.agg #[.int .i64 x.op,.int .i64 x.a,.int .i64 x.b,.int .i64 x.c]] w fun e w'=>e=.returned (.bool true)/\Below w.heap.size w w':=by
 go_enter Tryz.func203,Tryz.ntmps203;go_wp2
 go_ret
 exact⟨rfl,(((Below.refl _ _).alloc lR _).alloc (by simp) _)⟩
theorem Jl(x:MC)(w:World):
  Calls Tryz.prog 104 #[.agg #[.int .i64 x.type,.int .u32 x.word],.agg #[.int .i64 x.type,.int .u32 x.word]] w fun e w'=>e=.returned (.bool true)/\Below w.heap.size w w':=by
 go_enter Tryz.func104,Tryz.ntmps104;go_wp2
 go_ret
 exact⟨rfl,(((Below.refl _ _).alloc lR _).alloc (by simp) _)⟩
theorem Kc(x:MT)(w:World):
  Calls Tryz.prog 106 #[.agg #[.int .i64 x.func,.int .i64 x.head,.int .i64 x.counter,.int .u32 x.init],.agg #[.int .i64 x.func,.int .i64 x.head,.int .i64 x.counter,.int .u32 x.init]] w fun e w'=>e=.returned (.bool true)/\Below w.heap.size w w':=by
 go_enter Tryz.func106,Tryz.ntmps106;go_wp2
 go_ret
 exact⟨rfl,(((Below.refl _ _).alloc lR _).alloc (by simp) _)⟩
theorem H4(s s':Value)(ys:List MI)(w:World)(hn:ys.length<=1048576)(h:Rd w 4 s ys.length (ys.flatMap MI.cells))(h':Rd w 4 s' ys.length (ys.flatMap MI.cells)):
  Calls Tryz.prog 174 #[s,s'] w fun e w'=>e=.returned (.bool true)/\Below w.heap.size w w':=by
 have H1:=AM h;have H2:=AM h';obtain⟨a1,c1,rfl⟩:=h.is_slice;obtain⟨a2,c2,rfl⟩:=h'.is_slice;clear h h';generalize hLL:ys.length=n at hn H1 H2;have HL:Hid (ys.length=n):=hLL;clear hLL;go_enter Tryz.func174,Tryz.ntmps174;go_wp2
 go_loopw [5] (fun i wr=>∃k:Nat,k<=n/\i=.int .i64 k/\Below w.heap.size w wr) (fun i _=>n-(intOf i).toNat)
 case atStart=>exact⟨0,by omega,rfl,Below.refl _ _⟩
 case round=>
  obtain⟨k,hk,rfl,hbel⟩:=hrel;have HB:Hid (Below w.heap.size w wr):=hbel;clear hbel;by_cases hlt:k<n
  ·obtain⟨x,hx⟩:∃x,ys[k]?=some x:=⟨_,gE (by rw[HL.out];exact hlt)⟩
   rcases H1.out.2 with⟨e0,_⟩|⟨g,o,c,e1,hc1⟩
   ·omega
   ·rcases H2.out.2 with⟨e0,_⟩|⟨g',o',c',e2,hc2⟩
    ·omega
    ·simp only[sJ,true_and]at e1 e2
     obtain⟨rfl,rfl⟩:=e1;obtain⟨rfl,rfl⟩:=e2;have i0:=Rd.elem MI.cells_length hc1 k x hx 0 _ rfl;have i1:=Rd.elem MI.cells_length hc1 k x hx 1 _ rfl;have i2:=Rd.elem MI.cells_length hc1 k x hx 2 _ rfl;have i3:=Rd.elem MI.cells_length hc1 k x hx 3 _ rfl;have j0:=Rd.elem MI.cells_length hc2 k x hx 0 _ rfl;have j1:=Rd.elem MI.cells_length hc2 k x hx 1 _ rfl;have j2:=Rd.elem MI.cells_length hc2 k x hx 2 _ rfl;have j3:=Rd.elem MI.cells_length hc2 k x hx 3 _ rfl;rw[<-HB.out.cell (bL i0),Nat.add_zero]at i0;rw[<-HB.out.cell (bL i1)]at i1;rw[<-HB.out.cell (bL i2)]at i2;rw[<-HB.out.cell (bL i3)]at i3;rw[<-HB.out.cell (bL j0),Nat.add_zero]at j0;rw[<-HB.out.cell (bL j1)]at j1;rw[<-HB.out.cell (bL j2)]at j2;rw[<-HB.out.cell (bL j3)]at j3;clear hc1 hc2 hx;go_wp2_with fail
     go_region_with (go_at_call 203;refine(Jq x _).mono ?_;rintro e u ⟨rfl,hbu⟩)
     all_goals
      have HB2:Hid (Below w.heap.size w u):=HB.out.trans (Ar hbu HB.out.size);clear hbu HB i0 i1 i2 i3 j0 j1 j2 j3;go_wp2
      go_roundw
      case rel=>exact⟨k+1,by omega,by go_num,HB2.out⟩
      case measure=>simp[intOf];omega
  ·go_wp2
   go_ret
   exact⟨rfl,HB.out⟩
theorem Jp(s s':Value)(ys:List MT)(w:World)(hn:ys.length<=1048576)(h:Rd w 4 s ys.length (ys.flatMap MT.cells))(h':Rd w 4 s' ys.length (ys.flatMap MT.cells)):
  Calls Tryz.prog 51 #[s,s'] w fun e w'=>e=.returned (.bool true)/\Below w.heap.size w w':=by
 have H1:=AM h;have H2:=AM h';obtain⟨a1,c1,rfl⟩:=h.is_slice;obtain⟨a2,c2,rfl⟩:=h'.is_slice;clear h h';generalize hLL:ys.length=n at hn H1 H2;have HL:Hid (ys.length=n):=hLL;clear hLL;go_enter Tryz.func51,Tryz.ntmps51;go_wp2
 go_loopw [5] (fun i wr=>∃k:Nat,k<=n/\i=.int .i64 k/\Below w.heap.size w wr) (fun i _=>n-(intOf i).toNat)
 case atStart=>exact⟨0,by omega,rfl,Below.refl _ _⟩
 case round=>
  obtain⟨k,hk,rfl,hbel⟩:=hrel;have HB:Hid (Below w.heap.size w wr):=hbel;clear hbel;by_cases hlt:k<n
  ·obtain⟨x,hx⟩:∃x,ys[k]?=some x:=⟨_,gE (by rw[HL.out];exact hlt)⟩
   rcases H1.out.2 with⟨e0,_⟩|⟨g,o,c,e1,hc1⟩
   ·omega
   ·rcases H2.out.2 with⟨e0,_⟩|⟨g',o',c',e2,hc2⟩
    ·omega
    ·simp only[sJ,true_and]at e1 e2
     obtain⟨rfl,rfl⟩:=e1;obtain⟨rfl,rfl⟩:=e2;have i0:=Rd.elem MT.cells_length hc1 k x hx 0 _ rfl;have i1:=Rd.elem MT.cells_length hc1 k x hx 1 _ rfl;have i2:=Rd.elem MT.cells_length hc1 k x hx 2 _ rfl;have i3:=Rd.elem MT.cells_length hc1 k x hx 3 _ rfl;have j0:=Rd.elem MT.cells_length hc2 k x hx 0 _ rfl;have j1:=Rd.elem MT.cells_length hc2 k x hx 1 _ rfl;have j2:=Rd.elem MT.cells_length hc2 k x hx 2 _ rfl;have j3:=Rd.elem MT.cells_length hc2 k x hx 3 _ rfl;rw[<-HB.out.cell (bL i0),Nat.add_zero]at i0;rw[<-HB.out.cell (bL i1)]at i1;rw[<-HB.out.cell (bL i2)]at i2;rw[<-HB.out.cell (bL i3)]at i3;rw[<-HB.out.cell (bL j0),Nat.add_zero]at j0;rw[<-HB.out.cell (bL j1)]at j1;rw[<-HB.out.cell (bL j2)]at j2;rw[<-HB.out.cell (bL j3)]at j3;clear hc1 hc2 hx;go_wp2_with fail
     go_region_with (go_at_call 106;refine(Kc x _).mono ?_;rintro e u ⟨rfl,hbu⟩)
     all_goals
      have HB2:Hid (Below w.heap.size w u):=HB.out.trans (Ar hbu HB.out.size);clear hbu HB i0 i1 i2 i3 j0 j1 j2 j3;go_wp2
      go_roundw
      case rel=>exact⟨k+1,by omega,by go_num,HB2.out⟩
      case measure=>simp[intOf];omega
  ·go_wp2
   go_ret
   exact⟨rfl,HB.out⟩
theorem Iw(s s':Value)(ys:List MC)(w:World)(hn:ys.length<=1048576)(h:Rd w 2 s ys.length (ys.flatMap MC.cells))(h':Rd w 2 s' ys.length (ys.flatMap MC.cells)):
  Calls Tryz.prog 49 #[s,s'] w fun e w'=>e=.returned (.bool true)/\Below w.heap.size w w':=by
 have H1:=AM h;have H2:=AM h';obtain⟨a1,c1,rfl⟩:=h.is_slice;obtain⟨a2,c2,rfl⟩:=h'.is_slice;clear h h';generalize hLL:ys.length=n at hn H1 H2;have HL:Hid (ys.length=n):=hLL;clear hLL;go_enter Tryz.func49,Tryz.ntmps49;go_wp2
 go_loopw [5] (fun i wr=>∃k:Nat,k<=n/\i=.int .i64 k/\Below w.heap.size w wr) (fun i _=>n-(intOf i).toNat)
 case atStart=>exact⟨0,by omega,rfl,Below.refl _ _⟩
 case round=>
  obtain⟨k,hk,rfl,hbel⟩:=hrel;have HB:Hid (Below w.heap.size w wr):=hbel;clear hbel;by_cases hlt:k<n
  ·obtain⟨x,hx⟩:∃x,ys[k]?=some x:=⟨_,gE (by rw[HL.out];exact hlt)⟩
   rcases H1.out.2 with⟨e0,_⟩|⟨g,o,c,e1,hc1⟩
   ·omega
   ·rcases H2.out.2 with⟨e0,_⟩|⟨g',o',c',e2,hc2⟩
    ·omega
    ·simp only[sJ,true_and]at e1 e2
     obtain⟨rfl,rfl⟩:=e1;obtain⟨rfl,rfl⟩:=e2;have i0:=Rd.elem MC.cells_length hc1 k x hx 0 _ rfl;have i1:=Rd.elem MC.cells_length hc1 k x hx 1 _ rfl;have j0:=Rd.elem MC.cells_length hc2 k x hx 0 _ rfl;have j1:=Rd.elem MC.cells_length hc2 k x hx 1 _ rfl;rw[<-HB.out.cell (bL i0),Nat.add_zero]at i0;rw[<-HB.out.cell (bL i1)]at i1;rw[<-HB.out.cell (bL j0),Nat.add_zero]at j0;rw[<-HB.out.cell (bL j1)]at j1;clear hc1 hc2 hx;go_wp2_with fail
     go_region_with (go_at_call 104;refine(Jl x _).mono ?_;rintro e u ⟨rfl,hbu⟩)
     all_goals
      have HB2:Hid (Below w.heap.size w u):=HB.out.trans (Ar hbu HB.out.size);clear hbu HB i0 i1 j0 j1;go_wp2
      go_roundw
      case rel=>exact⟨k+1,by omega,by go_num,HB2.out⟩
      case measure=>simp[intOf];omega
  ·go_wp2
   go_ret
   exact⟨rfl,HB.out⟩
theorem Cx.sl{w:World}{v:VP}{p:MP}(h:Cx w v p):∃r1 r3 k1 k3 t1 t3 f1 f3,v=⟨.slice r1 p.regions.length r3,.slice k1 p.consts.length k3,.slice f1 p.funcs.length f3,.slice t1 p.certs.length t3⟩:=by
  obtain⟨r1,r3,er⟩:=(show∃a c,v.r=.slice a p.regions.length c from by obtain⟨_,_,h2,_⟩:=h.regions;exact h2.is_slice);obtain⟨k1,k3,ek⟩:=h.consts.is_slice;obtain⟨t1,t3,et⟩:=h.certs.is_slice;obtain⟨f1,f3,ef⟩:=(show∃a c,v.f=.slice a p.funcs.length c from by obtain⟨_,_,h2,_⟩:=h.funcs;exact h2.is_slice);obtain⟨vr,vk,vf,vt⟩:=v;simp only[]at er ek et ef;subst er ek et ef;exact⟨r1,r3,k1,k3,t1,t3,f1,f3,rfl⟩
theorem Du{w:World}{g:VF}{f:MF}(h:CK w g f):∃g1 g3 g4 g6 g7 g9,g=⟨.slice g1 f.params.length g3,.slice g4 f.locals.length g6,.slice g7 f.code.length g9⟩:=by
  obtain⟨g1,g3,e1⟩:=h.1.is_slice;obtain⟨g4,g6,e2⟩:=h.2.1.is_slice;obtain⟨g7,g9,e3⟩:=h.2.2.is_slice;obtain⟨gp,gl,gc⟩:=g;simp only[]at e1 e2 e3;subst e1 e2 e3;exact⟨g1,g3,g4,g6,g7,g9,rfl⟩
structure OM(w u:World)(tp:TypeId)(p r:List Value):Prop where
 par:u.ownsRow w.heap.size tp 4 (.slice (some ⟨w.heap.size,0,none⟩) 1 1) 1 p
 par':u.ownsRow w.heap.size tp 4 (.slice (some ⟨w.heap.size+1,0,none⟩) 1 1) 1 r
 bel:Below w.heap.size w u
theorem OM.of(w:World)(tp:TypeId)(p r:Array Value)(hp:p.size=4)(hr:r.size=4):
  OM w ((w.alloc (.cells p tp)).alloc (.cells r tp)) tp p.toList r.toList:=by
 have b1:Below w.heap.size w (w.alloc (.cells p tp)):=(Below.refl _ _).alloc lR _;have c2:Below (w.alloc (.cells p tp)).heap.size (w.alloc (.cells p tp)) ((w.alloc (.cells p tp)).alloc (.cells r tp)):=(Below.refl _ _).alloc lR _;have r1:=World.ownsRow_lit (base:=w.heap.size) (e:=tp) (size:=4) w p 1 lR (by unfold maxLen;omega) (by omega);have r2:=World.ownsRow_lit (base:=w.heap.size) (e:=tp) (size:=4) (w.alloc (.cells p tp)) r 1 (by simp) (by unfold maxLen;omega) (by omega);refine⟨Ai r1 c2 lR,?_,b1.trans (c2.mono (by simp))⟩;simpa using r2
theorem OM.keep{w u u':World}{tp:TypeId}{p r:List Value}(h:OM w u tp p r)(hb:Below u.heap.size u u'):OM w u' tp p r:=
 ⟨Ai h.par hb lR,Ai h.par' hb lR,h.bel.trans (hb.mono h.bel.size)⟩
theorem Ld(v v':VF)(f:MF)(w:World)(hs:f.small)(h:CK w v f)(h':CK w v' f):
  Calls Tryz.prog 105 #[.agg #[v.p,.int .i64 f.result,v.l,v.c],.agg #[v'.p,.int .i64 f.result,v'.l,v'.c]] w fun e w'=>e=.returned (.bool true)/\Below w.heap.size w w':=by
 have F0:=OM.of w 131 #[v.p,.int .i64 f.result,v.l,v.c] #[v'.p,.int .i64 f.result,v'.l,v'.c] rfl rfl;have H:=h3 h h' hs;clear h h' hs;go_enter Tryz.func105,Tryz.ntmps105;go_wp2_with fail
 refine(Ef v.p v'.p f.params _ (Nat.le_trans H.out.2.2.1 (by omega)) (H.out.1.1.keep F0.bel lR) (H.out.2.1.1.keep F0.bel lR)).mono ?_;rintro e u1 ⟨rfl,b1⟩;have F1:=F0.keep b1;clear b1 F0;obtain⟨p0,p1,p2,p3,_⟩:=CE F1.par;obtain⟨o0,o1,o2,o3,_⟩:=CE F1.par';go_wp2_with fail
 refine(Ef v.l v'.l f.locals _ (Nat.le_trans H.out.2.2.2.1 (by omega)) (H.out.1.2.1.keep F1.bel lR) (H.out.2.1.2.1.keep F1.bel lR)).mono ?_;rintro e u2 ⟨rfl,b2⟩;have F2:=F1.keep b2;clear b2 F1 p0 p1 p2 p3 o0 o1 o2 o3;obtain⟨p0,p1,p2,p3,_⟩:=CE F2.par;obtain⟨o0,o1,o2,o3,_⟩:=CE F2.par';go_wp2_with fail
 refine(H4 v.c v'.c f.code _ H.out.2.2.2.2 (H.out.1.2.2.keep F2.bel lR) (H.out.2.1.2.2.keep F2.bel lR)).mono ?_;rintro e u3 ⟨rfl,b3⟩;have F3:=F2.keep b3;clear b3 F2 p0 p1 p2 p3 o0 o1 o2 o3;go_wp2
 go_ret
 exact⟨rfl,F3.bel⟩
theorem I8(s s':Value)(fs:List MF)(w:World)(hL:fs.length<=1048576)(hs:∀f∈fs,f.small)(h:FN w s fs)(h':FN w s' fs):
  Calls Tryz.prog 50 #[s,s'] w fun e w'=>e=.returned (.bool true)/\Below w.heap.size w w':=by
 obtain⟨xs,hxs,hrd,hel⟩:=h;obtain⟨xs',hxs',hrd',hel'⟩:=h';have hxl:xs.length=fs.length:=by rw[<-hxs];simp
 have hxl':xs'.length=fs.length:=by rw[<-hxs'];simp
 have H1:=h5 hrd hxs hel hs hxl;have H2:=h5 hrd' hxs' hel' hs hxl';obtain⟨a1,c1,rfl⟩:=hrd.is_slice;obtain⟨a2,c2,rfl⟩:=hrd'.is_slice;clear hrd hxs hel hs hxl hrd' hxs' hel' hxl';generalize hLL:fs.length=n at hL H1 H2;clear hLL;go_enter Tryz.func50,Tryz.ntmps50;go_wp2
 go_loopw [5] (fun i wr=>∃k:Nat,k<=n/\i=.int .i64 k/\Below w.heap.size w wr) (fun i _=>n-(intOf i).toNat)
 case atStart=>exact⟨0,by omega,rfl,Below.refl _ _⟩
 case round=>
  obtain⟨k,hk,rfl,hbel⟩:=hrel;have HB:Hid (Below w.heap.size w wr):=hbel;clear hbel;by_cases hlt:k<n
  ·obtain⟨⟨f,v⟩,hx⟩:∃x,xs[k]?=some x:=⟨_,gE (by rw[H1.out.2.2.2.2];exact hlt)⟩
   obtain⟨⟨f',v'⟩,hx'⟩:∃x,xs'[k]?=some x:=⟨_,gE (by rw[H2.out.2.2.2.2];exact hlt)⟩;have e1:=AO H1.out.2.1 hx;have e2:=AO H2.out.2.1 hx'
   have hff:f'=f:=by
    rw[e1]at e2;exact(Option.some.inj e2).symm
   subst hff;have HX:Hid (CK wr v f'/\CK wr v' f'/\f'.small):=⟨(H1.out.2.2.1 _ (mG hx)).keep HB.out lR,(H2.out.2.2.1 _ (mG hx')).keep HB.out lR,H1.out.2.2.2.1 _ (mG e1)⟩
   clear e1 e2;rcases H1.out.1.2 with⟨e0,_⟩|⟨g,o,c,e1,hc1⟩
   ·omega
   ·rcases H2.out.1.2 with⟨e0,_⟩|⟨g',o',c',e2,hc2⟩
    ·omega
    ·simp only[sJ,true_and]at e1 e2
     obtain⟨rfl,rfl⟩:=e1;obtain⟨rfl,rfl⟩:=e2;have i0:=Rd.elem Ah hc1 k _ hx 0 _ rfl;have i1:=Rd.elem Ah hc1 k _ hx 1 _ rfl;have i2:=Rd.elem Ah hc1 k _ hx 2 _ rfl;have i3:=Rd.elem Ah hc1 k _ hx 3 _ rfl;have j0:=Rd.elem Ah hc2 k _ hx' 0 _ rfl;have j1:=Rd.elem Ah hc2 k _ hx' 1 _ rfl;have j2:=Rd.elem Ah hc2 k _ hx' 2 _ rfl;have j3:=Rd.elem Ah hc2 k _ hx' 3 _ rfl;rw[<-HB.out.cell (bL i0),Nat.add_zero]at i0;rw[<-HB.out.cell (bL i1)]at i1;rw[<-HB.out.cell (bL i2)]at i2;rw[<-HB.out.cell (bL i3)]at i3;rw[<-HB.out.cell (bL j0),Nat.add_zero]at j0;rw[<-HB.out.cell (bL j1)]at j1;rw[<-HB.out.cell (bL j2)]at j2;rw[<-HB.out.cell (bL j3)]at j3;clear hc1 hc2 hx hx';simp only[]at i0 i1 i2 i3 j0 j1 j2 j3;go_wp2_with fail
     go_region_with (go_at_call 105;refine(Ld v v' f' _ HX.out.2.2 (by exact HX.out.1) (by exact HX.out.2.1)).mono ?_;rintro e u ⟨rfl,hbu⟩)
     all_goals
      have HB2:Hid (Below w.heap.size w u):=HB.out.trans (Ar hbu HB.out.size);clear hbu HB i0 i1 i2 i3 j0 j1 j2 j3;go_wp2
      go_roundw
      case rel=>exact⟨k+1,by omega,by go_num,HB2.out⟩
      case measure=>simp[intOf];omega
  ·go_wp2
   go_ret
   exact⟨rfl,HB.out⟩
theorem G7(s s':Value)(fs:List (List Int))(w:World)(hL:fs.length<=1048576)(hs:∀f∈fs,f.length<=1048576)(h:Lm w s fs)(h':Lm w s' fs):
  Calls Tryz.prog 48 #[s,s'] w fun e w'=>e=.returned (.bool true)/\Below w.heap.size w w':=by
 obtain⟨xs,hxs,hrd,hel⟩:=h;obtain⟨xs',hxs',hrd',hel'⟩:=h';have hxl:xs.length=fs.length:=by rw[<-hxs];simp
 have hxl':xs'.length=fs.length:=by rw[<-hxs'];simp
 have H1:=h5 hrd hxs hel hs hxl;have H2:=h5 hrd' hxs' hel' hs hxl';obtain⟨a1,c1,rfl⟩:=hrd.is_slice;obtain⟨a2,c2,rfl⟩:=hrd'.is_slice;clear hrd hxs hel hs hxl hrd' hxs' hel' hxl';generalize hLL:fs.length=n at hL H1 H2;clear hLL;go_enter Tryz.func48,Tryz.ntmps48;go_wp2
 go_loopw [5] (fun i wr=>∃k:Nat,k<=n/\i=.int .i64 k/\Below w.heap.size w wr) (fun i _=>n-(intOf i).toNat)
 case atStart=>exact⟨0,by omega,rfl,Below.refl _ _⟩
 case round=>
  obtain⟨k,hk,rfl,hbel⟩:=hrel;have HB:Hid (Below w.heap.size w wr):=hbel;clear hbel;by_cases hlt:k<n
  ·obtain⟨⟨f,v⟩,hx⟩:∃x,xs[k]?=some x:=⟨_,gE (by rw[H1.out.2.2.2.2];exact hlt)⟩
   obtain⟨⟨f',v'⟩,hx'⟩:∃x,xs'[k]?=some x:=⟨_,gE (by rw[H2.out.2.2.2.2];exact hlt)⟩;have e1:=AO H1.out.2.1 hx;have e2:=AO H2.out.2.1 hx'
   have hff:f'=f:=by
    rw[e1]at e2;exact(Option.some.inj e2).symm
   subst hff;have HX:Hid (Rd wr 1 v f'.length (f'.flatMap Af)/\Rd wr 1 v' f'.length (f'.flatMap Af)/\f'.length<=140737488355328):=⟨(H1.out.2.2.1 _ (mG hx)).keep HB.out lR,(H2.out.2.2.1 _ (mG hx')).keep HB.out lR,Nat.le_trans (H1.out.2.2.2.1 _ (mG e1)) (by omega)⟩
   clear e1 e2;rcases H1.out.1.2 with⟨e0,_⟩|⟨g,o,c,e1,hc1⟩
   ·omega
   ·rcases H2.out.1.2 with⟨e0,_⟩|⟨g',o',c',e2,hc2⟩
    ·omega
    ·simp only[sJ,true_and]at e1 e2
     obtain⟨rfl,rfl⟩:=e1;obtain⟨rfl,rfl⟩:=e2;have i0:=Rd.elem AK hc1 k _ hx 0 _ rfl;have j0:=Rd.elem AK hc2 k _ hx' 0 _ rfl;rw[<-HB.out.cell (bL i0)]at i0;rw[<-HB.out.cell (bL j0)]at j0;rw[Nat.mul_one,Nat.add_zero]at i0 j0;clear hc1 hc2 hx hx';simp only[]at i0 j0;go_wp2_with fail
     go_region_with (go_at_call 103;refine(Ef v v' f' _ HX.out.2.2 (by exact HX.out.1) (by exact HX.out.2.1)).mono ?_;rintro e u ⟨rfl,hbu⟩)
     all_goals
      have HB2:Hid (Below w.heap.size w u):=HB.out.trans (Ar hbu HB.out.size);clear hbu HB i0 j0;go_wp2
      go_roundw
      case rel=>exact⟨k+1,by omega,by go_num,HB2.out⟩
      case measure=>simp[intOf];omega
  ·go_wp2
   go_ret
   exact⟨rfl,HB.out⟩
theorem GV(v v':VP)(p:MP)(w:World)(hs:p.small)(h:Cx w v p)(h':Cx w v' p):
  Calls Tryz.prog 12 #[.agg #[v.r,v.k,v.f,v.t],.agg #[v'.r,v'.k,v'.f,v'.t]] w fun e w'=>e=.returned (.bool true)/\Below w.heap.size w w':=by
 have F0:=OM.of w 45 #[v.r,v.k,v.f,v.t] #[v'.r,v'.k,v'.f,v'.t] rfl rfl;go_enter Tryz.func12,Tryz.ntmps12;go_wp2_with fail
 refine(G7 v.r v'.r p.regions _ hs.regions hs.region (h.regions.keep F0.bel lR) (h'.regions.keep F0.bel lR)).mono ?_;rintro e u1 ⟨rfl,b1⟩;have F1:=F0.keep b1;clear b1 F0;obtain⟨p0,p1,p2,p3,_⟩:=CE F1.par;obtain⟨o0,o1,o2,o3,_⟩:=CE F1.par';go_wp2_with fail
 refine(Iw v.k v'.k p.consts _ hs.consts (h.consts.keep F1.bel lR) (h'.consts.keep F1.bel lR)).mono ?_;rintro e u2 ⟨rfl,b2⟩;have F2:=F1.keep b2;clear b2 F1 p0 p1 p2 p3 o0 o1 o2 o3;obtain⟨p0,p1,p2,p3,_⟩:=CE F2.par;obtain⟨o0,o1,o2,o3,_⟩:=CE F2.par';go_wp2_with fail
 refine(I8 v.f v'.f p.funcs _ hs.funcs hs.func (h.funcs.keep F2.bel lR) (h'.funcs.keep F2.bel lR)).mono ?_;rintro e u3 ⟨rfl,b3⟩;have F3:=F2.keep b3;clear b3 F2 p0 p1 p2 p3 o0 o1 o2 o3;obtain⟨p0,p1,p2,p3,_⟩:=CE F3.par;obtain⟨o0,o1,o2,o3,_⟩:=CE F3.par';go_wp2_with fail
 refine(Jp v.t v'.t p.certs _ hs.certs (h.certs.keep F3.bel lR) (h'.certs.keep F3.bel lR)).mono ?_;rintro e u4 ⟨rfl,b4⟩;have F4:=F3.keep b4;clear b4 F3 p0 p1 p2 p3 o0 o1 o2 o3;go_wp2
 go_ret
 exact⟨rfl,F4.bel⟩
def Fx(left n:Int):Int:=if left-n<0 then -1 else left-n
theorem BH(a:Option Addr)(n c:Nat)(left:Int)(w:World)(hn:n<=9223372036854775807)(h0:0<=left)(h1:left<=1048576):
  Calls Tryz.prog 68 #[.slice a n c,.int .i64 left] w fun e w'=>e=.returned (.int .i64 (Fx left n))/\w'=w:=by
 by_cases hb:left-n<0
 ·have e:Fx left n=-1:=if_pos hb
  rw[e];go_enter Tryz.func68,Tryz.ntmps68;go_wp2
  go_ret
  exact⟨rfl,rfl⟩
 ·have e:Fx left n=left-n:=if_neg hb
  rw[e];go_enter Tryz.func68,Tryz.ntmps68;go_wp2
  go_ret
  exact⟨rfl,rfl⟩
theorem Gc(a:Option Addr)(n c:Nat)(left:Int)(w:World)(hn:n<=9223372036854775807)(h0:0<=left)(h1:left<=1048576):
  Calls Tryz.prog 116 #[.slice a n c,.int .i64 left] w fun e w'=>e=.returned (.int .i64 (Fx left n))/\w'=w:=by
 by_cases hb:left-n<0
 ·have e:Fx left n=-1:=if_pos hb
  rw[e];go_enter Tryz.func116,Tryz.ntmps116;go_wp2
  go_ret
  exact⟨rfl,rfl⟩
 ·have e:Fx left n=left-n:=if_neg hb
  rw[e];go_enter Tryz.func116,Tryz.ntmps116;go_wp2
  go_ret
  exact⟨rfl,rfl⟩
theorem Jy(a:Option Addr)(n c:Nat)(left:Int)(w:World)(hn:n<=9223372036854775807)(h0:0<=left)(h1:left<=1048576):
  Calls Tryz.prog 23 #[.slice a n c,.int .i64 left] w fun e w'=>e=.returned (.int .i64 (Fx left n))/\w'=w:=by
 by_cases hb:left-n<0
 ·have e:Fx left n=-1:=if_pos hb
  rw[e];go_enter Tryz.func23,Tryz.ntmps23;go_wp2
  go_ret
  exact⟨rfl,rfl⟩
 ·have e:Fx left n=left-n:=if_neg hb
  rw[e];go_enter Tryz.func23,Tryz.ntmps23;go_wp2
  go_ret
  exact⟨rfl,rfl⟩
theorem Kp(a:Option Addr)(n c:Nat)(left:Int)(w:World)(hn:n<=9223372036854775807)(h0:0<=left)(h1:left<=1048576):
  Calls Tryz.prog 25 #[.slice a n c,.int .i64 left] w fun e w'=>e=.returned (.int .i64 (Fx left n))/\w'=w:=by
 by_cases hb:left-n<0
 ·have e:Fx left n=-1:=if_pos hb
  rw[e];go_enter Tryz.func25,Tryz.ntmps25;go_wp2
  go_ret
  exact⟨rfl,rfl⟩
 ·have e:Fx left n=left-n:=if_neg hb
  rw[e];go_enter Tryz.func25,Tryz.ntmps25;go_wp2
  go_ret
  exact⟨rfl,rfl⟩
theorem Ig(s:Value)(fs:List (List Int))(left:Int)(w:World)(hL:fs.length<=9223372036854775807)(hs:∀f∈fs,f.length<=9223372036854775807)(h:Lm w s fs)(h0:0<=left)(h1:left<=1048576):
  Calls Tryz.prog 22 #[s,.int .i64 left] w fun e w'=>∃r:Int,e=.returned (.int .i64 r)/\(r=-1\/0<=r/\r<=left/\(fs.length:Int)<=left/\∀f∈fs,(f.length:Int)<=left)/\w'=w:=by
 obtain⟨xs,hxs,hrd,hel⟩:=h;have hxl:xs.length=fs.length:=by rw[<-hxs];simp
 have H1:=h5 hrd hxs hel hs hxl;obtain⟨a1,c1,rfl⟩:=hrd.is_slice;clear hrd hxs hel hs hxl;generalize hLL:fs.length=n at hL H1⊢;have HL:Hid (fs.length=n):=hLL;clear hLL;by_cases hb:left-n<0
 ·go_enter Tryz.func22,Tryz.ntmps22
  go_wp2
  go_ret
  exact⟨-1,rfl,.inl rfl,rfl⟩
 ·go_enter Tryz.func22,Tryz.ntmps22
  go_wp2
  go_loopw [1,5] (fun l i wr=>∃(k:Nat) (q:Int),k<=n/\l=.int .i64 q/\i=.int .i64 k/\0<=q/\q<=left/\Hid (∀f∈fs.take k,(f.length:Int)<=left)/\wr=w) (fun _ i _=>n-(intOf i).toNat)
  case atStart=>exact⟨0,left-n,by omega,rfl,rfl,by omega,by omega,(fun f hf=>by simp at hf),rfl⟩
  case round=>
   obtain⟨k,q,hk,rfl,rfl,q0,q1,HQ,rfl⟩:=hrel;by_cases hlt:k<n
   ·obtain⟨⟨f,v⟩,hx⟩:∃x,xs[k]?=some x:=⟨_,gE (by rw[H1.out.2.2.2.2];exact hlt)⟩
    have e1:=AO H1.out.2.1 hx;have hv:=H1.out.2.2.1 _ (mG hx);have hfl:=H1.out.2.2.2.1 _ (mG e1);simp only[]at hv hfl e1;obtain⟨av,cv,rfl⟩:=hv.is_slice;rcases H1.out.1.2 with⟨e0,_⟩|⟨g,o,c,e2,hc1⟩
    ·omega
    ·simp only[sJ,true_and]at e2
     obtain⟨rfl,rfl⟩:=e2;have i0:=Rd.elem AK hc1 k _ hx 0 _ rfl;rw[Nat.mul_one,Nat.add_zero]at i0;simp only[]at i0;have HE:Hid (fs[k]?=some f):=e1;clear hc1 hx hv e1;by_cases hq:q-f.length<0
     ·have hz:Fx q f.length=-1:=if_pos hq
      go_wp2_with fail
      refine(BH av f.length cv q wr hfl q0 (by omega)).mono ?_;rw[hz];rintro e u ⟨rfl,rfl⟩;clear hz;go_wp2
      go_ret
      exact⟨-1,rfl,.inl rfl,rfl⟩
     ·have hz:Fx q f.length=q-f.length:=if_neg hq
      go_wp2_with fail
      refine(BH av f.length cv q wr hfl q0 (by omega)).mono ?_;rw[hz];rintro e u ⟨rfl,rfl⟩;clear hz;go_wp2
      go_roundw
      case rel=>
       refine⟨k+1,q-f.length,by omega,rfl,by go_num,by omega,by omega,?_,by trivial⟩;intro y hy;obtain⟨hlt',hf'⟩:=gI.1 HE.out;rw[List.take_succ_eq_append_getElem hlt',hf']at hy;rcases List.mem_append.1 hy with hy|hy
       ·exact HQ.out y hy
       ·simp only[List.mem_singleton]at hy
        subst hy;omega
      case measure=>simp[intOf];omega
   ·have hkn:k=n:=by omega
    subst hkn
    have HA:Hid (∀f∈fs,(f.length:Int)<=left):=by
     have:=HQ.out;rw[<-HL.out,List.take_length]at this;exact this
    clear HQ;go_wp2
    go_ret
    exact⟨q,rfl,.inr ⟨q0,q1,by omega,HA.out⟩,rfl⟩
def MF.fits(f:MF):Prop:=f.params.length<=9223372036854775807/\f.locals.length<=9223372036854775807/\f.code.length<=9223372036854775807
theorem LI(v:VF)(f:MF)(left:Int)(w:World)(hf:f.fits)(h:CK w v f)(h0:0<=left)(h1:left<=1048576):
  Calls Tryz.prog 69 #[.agg #[v.p,.int .i64 f.result,v.l,v.c],.int .i64 left] w fun e w'=>∃r:Int,e=.returned (.int .i64 r)/\(r=-1\/0<=r/\r<=left/\f.small)/\Below w.heap.size w w':=by
 obtain⟨a1,c1,e1⟩:=h.1.is_slice;obtain⟨a2,c2,e2⟩:=h.2.1.is_slice;obtain⟨a3,c3,e3⟩:=h.2.2.is_slice;rw[e1,e2,e3];clear e1 e2 e3 h;have hbel:Below w.heap.size w (w.alloc (.cells #[.slice a1 f.params.length c1,.int .i64 f.result,.slice a2 f.locals.length c2,.slice a3 f.code.length c3] 117)):=(Below.refl _ _).alloc lR _;obtain⟨f1,f2,f3⟩:=hf;unfold MF.small;generalize f.params.length=n1 at f1 hbel;generalize f.locals.length=n2 at f2 hbel;generalize f.code.length=n3 at f3 hbel;have HB:Hid _:=hbel;clear hbel;by_cases q1:left-n1<0
 ·have z1:Fx left n1=-1:=if_pos q1
  go_enter Tryz.func69,Tryz.ntmps69;go_wp2_with fail
  refine(BH a1 n1 c1 left _ f1 h0 h1).mono ?_;rw[z1];rintro e u ⟨rfl,rfl⟩;clear z1;go_wp2
  go_ret
  exact⟨-1,rfl,.inl rfl,HB.out⟩
 ·have z1:Fx left n1=left-n1:=if_neg q1
  by_cases q2:left-n1-n2<0
  ·have z2:Fx (left-n1) n2=-1:=if_pos q2
   go_enter Tryz.func69,Tryz.ntmps69;go_wp2_with fail
   refine(BH a1 n1 c1 left _ f1 h0 h1).mono ?_;rw[z1];rintro e u ⟨rfl,rfl⟩;go_wp2_with fail
   refine(BH a2 n2 c2 (left-n1) _ f2 (by omega) (by omega)).mono ?_;rw[z2];rintro e u ⟨rfl,rfl⟩;clear z1 z2;go_wp2
   go_ret
   exact⟨-1,rfl,.inl rfl,HB.out⟩
  ·have z2:Fx (left-n1) n2=left-n1-n2:=if_neg q2
   by_cases q3:left-n1-n2-n3<0
   ·have z3:Fx (left-n1-n2) n3=-1:=if_pos q3
    go_enter Tryz.func69,Tryz.ntmps69;go_wp2_with fail
    refine(BH a1 n1 c1 left _ f1 h0 h1).mono ?_;rw[z1];rintro e u ⟨rfl,rfl⟩;go_wp2_with fail
    refine(BH a2 n2 c2 (left-n1) _ f2 (by omega) (by omega)).mono ?_;rw[z2];rintro e u ⟨rfl,rfl⟩;go_wp2_with fail
    refine(Gc a3 n3 c3 (left-n1-n2) _ f3 (by omega) (by omega)).mono ?_;rw[z3];rintro e u ⟨rfl,rfl⟩;clear z1 z2 z3;go_wp2
    go_ret
    exact⟨-1,rfl,.inl rfl,HB.out⟩
   ·have z3:Fx (left-n1-n2) n3=left-n1-n2-n3:=if_neg q3
    go_enter Tryz.func69,Tryz.ntmps69;go_wp2_with fail
    refine(BH a1 n1 c1 left _ f1 h0 h1).mono ?_;rw[z1];rintro e u ⟨rfl,rfl⟩;go_wp2_with fail
    refine(BH a2 n2 c2 (left-n1) _ f2 (by omega) (by omega)).mono ?_;rw[z2];rintro e u ⟨rfl,rfl⟩;go_wp2_with fail
    refine(Gc a3 n3 c3 (left-n1-n2) _ f3 (by omega) (by omega)).mono ?_;rw[z3];rintro e u ⟨rfl,rfl⟩;clear z1 z2 z3;go_wp2
    go_ret
    exact⟨left-n1-n2-n3,rfl,.inr ⟨by omega,by omega,by omega,by omega,by omega⟩,HB.out⟩
theorem Ka(s:Value)(fs:List MF)(left:Int)(w:World)(hL:fs.length<=9223372036854775807)(hs:∀f∈fs,f.fits)(h:FN w s fs)(h0:0<=left)(h1:left<=1048576):
  Calls Tryz.prog 24 #[s,.int .i64 left] w fun e w'=>∃r:Int,e=.returned (.int .i64 r)/\(r=-1\/0<=r/\r<=left/\(fs.length:Int)<=left/\∀f∈fs,f.small)/\Below w.heap.size w w':=by
 obtain⟨xs,hxs,hrd,hel⟩:=h;have hxl:xs.length=fs.length:=by rw[<-hxs];simp
 have H1:=h5 hrd hxs hel hs hxl;obtain⟨a1,c1,rfl⟩:=hrd.is_slice;clear hrd hxs hel hs hxl;generalize hLL:fs.length=n at hL H1⊢;have HL:Hid (fs.length=n):=hLL;clear hLL;by_cases hb:left-n<0
 ·go_enter Tryz.func24,Tryz.ntmps24
  go_wp2
  go_ret
  exact⟨-1,rfl,.inl rfl,Below.refl _ _⟩
 ·go_enter Tryz.func24,Tryz.ntmps24
  go_wp2
  go_loopw [1,5] (fun l i wr=>∃(k:Nat) (q:Int),k<=n/\l=.int .i64 q/\i=.int .i64 k/\0<=q/\q<=left/\Hid (∀f∈fs.take k,f.small)/\Below w.heap.size w wr) (fun _ i _=>n-(intOf i).toNat)
  case atStart=>exact⟨0,left-n,by omega,rfl,rfl,by omega,by omega,(fun f hf=>by simp at hf),Below.refl _ _⟩
  case round=>
   obtain⟨k,q,hk,rfl,rfl,q0,q1,HQ,hbel⟩:=hrel;have HB:Hid (Below w.heap.size w wr):=hbel;clear hbel;by_cases hlt:k<n
   ·obtain⟨⟨f,v⟩,hx⟩:∃x,xs[k]?=some x:=⟨_,gE (by rw[H1.out.2.2.2.2];exact hlt)⟩
    have e1:=AO H1.out.2.1 hx;have hv:=H1.out.2.2.1 _ (mG hx);have hfl:=H1.out.2.2.2.1 _ (mG e1);simp only[]at hv hfl e1;rcases H1.out.1.2 with⟨e0,_⟩|⟨g,o,c,e2,hc1⟩
    ·omega
    ·simp only[sJ,true_and]at e2
     obtain⟨rfl,rfl⟩:=e2;have i0:=Rd.elem Ah hc1 k _ hx 0 _ rfl;have i1:=Rd.elem Ah hc1 k _ hx 1 _ rfl;have i2:=Rd.elem Ah hc1 k _ hx 2 _ rfl;have i3:=Rd.elem Ah hc1 k _ hx 3 _ rfl;rw[<-HB.out.cell (bL i0),Nat.add_zero]at i0;rw[<-HB.out.cell (bL i1)]at i1;rw[<-HB.out.cell (bL i2)]at i2;rw[<-HB.out.cell (bL i3)]at i3;simp only[]at i0 i1 i2 i3;have HE:=h3 e1 (hv.keep HB.out lR) hfl;clear hc1 hx hv e1 hfl;go_wp2_with fail
     refine(LI v f q wr HE.out.2.2 HE.out.2.1 q0 (by omega)).mono ?_;rintro e u ⟨r,rfl,hr,hbu⟩;have HB2:Hid (Below w.heap.size w u):=HB.out.trans (hbu.mono HB.out.size);clear hbu HB i0 i1 i2 i3;rcases hr with rfl|⟨r0,r1,hsm⟩
     ·go_wp2
      go_ret
      exact⟨-1,rfl,.inl rfl,HB2.out⟩
     ·have HS:Hid f.small:=hsm
      clear hsm;go_wp2
      go_roundw
      case rel=>
       refine⟨k+1,r,by omega,rfl,by go_num,by omega,by omega,?_,HB2.out⟩;intro y hy;obtain⟨hlt',hf'⟩:=gI.1 HE.out.1;rw[List.take_succ_eq_append_getElem hlt',hf']at hy;rcases List.mem_append.1 hy with hy|hy
       ·exact HQ.out y hy
       ·simp only[List.mem_singleton]at hy
        subst hy;exact HS.out
      case measure=>simp[intOf];omega
   ·have hkn:k=n:=by omega
    subst hkn
    have HA:Hid (∀f∈fs,f.small):=by
     have:=HQ.out;rw[<-HL.out,List.take_length]at this;exact this
    clear HQ;go_wp2
    go_ret
    exact⟨q,rfl,.inr ⟨q0,q1,by omega,HA.out⟩,HB.out⟩
structure MP.fits(p:MP):Prop where
 regions:p.regions.length<=9223372036854775807
 region:∀r∈p.regions,r.length<=9223372036854775807
 consts:p.consts.length<=9223372036854775807
 funcs:p.funcs.length<=9223372036854775807
 func:∀f∈p.funcs,f.fits
 certs:p.certs.length<=9223372036854775807
theorem Fv{left:Int}{n:Nat}(h0:0<=left)(h1:left<=1048576):Fx left n=-1\/0<=Fx left n/\Fx left n<=left/\(n:Int)<=left:=by
 unfold Fx;by_cases h:left-n<0
 ·rw[if_pos h];exact .inl rfl
 ·rw[if_neg h];exact .inr ⟨by omega,by omega,by omega⟩
structure ON(w u:World)(tp:TypeId)(p:List Value):Prop where
 par:u.ownsRow w.heap.size tp 4 (.slice (some ⟨w.heap.size,0,none⟩) 1 1) 1 p
 bel:Below w.heap.size w u
theorem ON.of(w:World)(tp:TypeId)(p:Array Value)(hp:p.size=4):ON w (w.alloc (.cells p tp)) tp p.toList:=
 ⟨World.ownsRow_lit (base:=w.heap.size) (e:=tp) (size:=4) w p 1 lR (by unfold maxLen;omega) (by omega),(Below.refl _ _).alloc lR _⟩
theorem ON.keep{w u u':World}{tp:TypeId}{p:List Value}(h:ON w u tp p)(hb:Below u.heap.size u u'):ON w u' tp p:=
 ⟨Ai h.par hb lR,h.bel.trans (hb.mono h.bel.size)⟩
theorem Ix(v:VP)(p:MP)(left:Int)(w:World)(hf:p.fits)(h:Cx w v p)(h0:0<=left)(h1:left<=1048576):
  Calls Tryz.prog 5 #[.agg #[v.r,v.k,v.f,v.t],.int .i64 left] w fun e w'=>∃r:Int,e=.returned (.int .i64 r)/\(r=-1\/0<=r/\r<=left/\p.small)/\Below w.heap.size w w':=by
 obtain⟨a2,c2,e2⟩:=h.consts.is_slice;obtain⟨a4,c4,e4⟩:=h.certs.is_slice;obtain⟨vr,vk,vf,vt⟩:=v;simp only[]at e2 e4;subst e2;subst e4;have F0:=ON.of w 27 #[vr,.slice a2 p.consts.length c2,vf,.slice a4 p.certs.length c4] rfl;have HF:Hid p.fits:=hf;clear hf;go_enter Tryz.func5,Tryz.ntmps5;go_wp2_with fail
 refine(Ig vr p.regions left _ HF.out.regions HF.out.region (h.regions.keep F0.bel lR) h0 h1).mono ?_;rintro e u1 ⟨r1,rfl,hr,rfl⟩;rcases hr with rfl|⟨r10,r11,r12,r13⟩
 ·go_wp2
  go_ret
  exact⟨-1,rfl,.inl rfl,F0.bel⟩
 have HR:=AM r13;clear r13;obtain⟨p0,p1,p2,p3,_⟩:=CE F0.par;go_wp2_with fail
 refine(Jy a2 p.consts.length c2 r1 _ HF.out.consts r10 (by omega)).mono ?_;rintro e u2 ⟨rfl,rfl⟩;have hz:=Fv (n:=p.consts.length) r10 (by omega);generalize Fx r1 p.consts.length=r2 at hz;rcases hz with rfl|⟨r20,r21,r22⟩
 ·go_wp2
  go_ret
  exact⟨-1,rfl,.inl rfl,F0.bel⟩
 go_wp2_with fail
 refine(Ka vf p.funcs r2 _ HF.out.funcs HF.out.func (h.funcs.keep F0.bel lR) r20 (by omega)).mono ?_;rintro e u3 ⟨r3,rfl,hr,b3⟩;have F3:=F0.keep b3;clear b3 p0 p1 p2 p3;rcases hr with rfl|⟨r30,r31,r32,r33⟩
 ·go_wp2
  go_ret
  exact⟨-1,rfl,.inl rfl,F3.bel⟩
 have HS:Hid (∀f∈p.funcs,f.small):=r33;clear r33;obtain⟨p0,p1,p2,p3,_⟩:=CE F3.par;go_wp2_with fail
 refine(Kp a4 p.certs.length c4 r3 _ HF.out.certs r30 (by omega)).mono ?_;rintro e u4 ⟨rfl,rfl⟩;have hz:=Fv (n:=p.certs.length) r30 (by omega);generalize Fx r3 p.certs.length=r4 at hz;rcases hz with rfl|⟨r40,r41,r42⟩
 ·go_wp2
  go_ret
  exact⟨-1,rfl,.inl rfl,F3.bel⟩
 go_wp2
 go_ret
 refine⟨r4,rfl,.inr ⟨r40,by omega,⟨by omega,fun f hf=> ?_,by omega,by omega,HS.out,by omega⟩⟩,F3.bel⟩;have:=HR.out f hf;omega
end Go.Proofs.YtlejplpkomddeaaGreat
