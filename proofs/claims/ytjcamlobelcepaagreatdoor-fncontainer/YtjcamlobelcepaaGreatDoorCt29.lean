import Derived.Test.YtjcamlobelcepaaGreatDoorCt26
namespace Go.Proofs.YtjcamlobelcepaaGreatDoor
open Go.ChangeShapes Go.WideShapes Go.ChangeAt Go.RowKit
set_option linter.unusedVariables false
set_option maxHeartbeats 4000000
set_option maxRecDepth 100000
theorem Tb(vk vf vt gp gl gc:Value)(f:MF)(rs:List (List Int))(ar:Option Addr)(cr q z:Nat)(r:List Int)(t:Int)(c:Int)(w:World)(hn:rs.length<=1048576)(hm:r.length<=1048576)(hr:Lx w (.slice ar rs.length cr) rs)(hq:rs[q]?=some r)(hz:r[z]?=some t):
 Calls Tryz.prog 146 #[.agg #[.slice ar rs.length cr,vk,vf,vt],.agg #[gp,.int .i64 f.result,gl,gc],.agg #[.int .i64 6,.int .i64 q,.int .i64 z,.int .i64 c]] w (Dn w [3] [t]):=by
 obtain⟨xs,h1,h2,h3⟩:=hr;have hlt:=(aE.1 hq).1;have hlz:=(aE.1 hz).1;obtain⟨⟨r',y⟩,hx⟩:∃x,xs[q]?=some x:=⟨_,aA (by rw[<-bB (f:=Prod.fst),h1];exact hlt)⟩;have e2:=BG h1 hx;rw[hq]at e2;obtain rfl:r=r':=aZ e2;have hy:=h3 _ (aF hx);simp only[]at hy;rcases h2.2 with⟨e0,_⟩|⟨g,o,c',e1,hc⟩
 . omega
 simp only[aI,ao]at e1;obtain⟨rfl,rfl⟩:=e1;have k1:=Rd.elem AK hc q _ hx 0 _ rfl;rw[bR,aT]at k1;simp only[]at k1;rcases hy.2 with⟨e0,_⟩|⟨g',o',c'',rfl,hc'⟩
 . omega
 have k2:=Rd.elem Al hc' z _ hz 0 _ rfl;rw[bR,aT]at k2;have HK:Hid (w.cell? ⟨g,o+q,none⟩=some (.slice (some ⟨g',o',none⟩) r.length c'')/\w.cell? ⟨g',o'+z,none⟩=some (.int .i64 t)):=⟨k1,k2⟩
 clear hc hc' k1 k2 hq hz h2 h3 hy hx e2 h1;generalize rs.length=n at hlt hn⊢;generalize r.length=m at hlz hm HK;have hltI:(q:Int)<(n:Int):=by omega
 have hlzI:(z:Int)<(m:Int):=by omega
 have E0:Hid _:=Ki.of w ⟨.slice (some ⟨g,o,none⟩) n cr,vk,vf,vt⟩ ⟨gp,gl,gc⟩ f 6 q z c;have hS:Hid (∀w,Calls Tryz.prog 121 #[.int .i64 6] w fun e w'=>e=.returned (.agg #[.string ⟨#[108,111,97,100,97,116]⟩,.int .i64 3,.int .i64 4])/\Below w.heap.size w w'):=fun w=>Cr 6 w
 have hfl:=Cw;go_enter Tryz.func146,Tryz.ntmps146;go_wp2_with fail
 refine(hS.o _).mono ?_;rintro e u1 ⟨rfl,b1⟩;have E1:Hid _:=E0.o.keep b1;clear E0 b1 hS;have x0:=E1.o.in3.ins.c0;have x1:=E1.o.in3.ins.c1;have x2:=E1.o.in3.ins.c2;have p0:=E1.o.in3.prog.c0;have k1:u1.cell? ⟨g,o+q,none⟩=some (.slice (some ⟨g',o',none⟩) m c''):=by rw[E1.o.in3.bel.cell (aD HK.o.1)];exact HK.o.1
 have k2:u1.cell? ⟨g',o'+z,none⟩=some (.int .i64 t):=by rw[E1.o.in3.bel.cell (aD HK.o.2)];exact HK.o.2
 have r0:=E1.o.rb.cell 0;have r1:=E1.o.rb.cell 1;have z0:=E1.o.rb.frozen 0;have z1:=E1.o.rb.frozen 1;have lt2:w.heap.size+1+1<u1.heap.size:=by have:=E1.o.rb.lt;omega
 have ne2:¬w.heap.size+1+1=u1.heap.size:=by have:=E1.o.rb.lt;omega
 have lt3:w.heap.size+1+1+1<u1.heap.size:=E1.o.rb.lt;have ne3:¬w.heap.size+1+1+1=u1.heap.size:=by have:=E1.o.rb.lt;omega
 have ne4:¬w.heap.size+1+1+1=u1.heap.size+1:=by have:=E1.o.rb.lt;omega
 have ne5:¬w.heap.size+1+1=u1.heap.size+1:=by have:=E1.o.rb.lt;omega
 simp only[aQ,aJ,aL]at r0 r1;go_wp2_with fail
 have B6:Below u1.heap.size u1 u1.drew:=Ae u1;have x1w6:=AB B6 x1;have x2w6:=AB B6 x2;have p0w6:=AB B6 p0;have k1w6:=AB B6 k1;have k2w6:=AB B6 k2;have r0w6:=AB B6 r0;have r1w6:=AB B6 r1;have z0w6:=(E1.o.keep B6).rb.frozen 0;have z1w6:=(E1.o.keep B6).rb.frozen 1;have B7:Below u1.heap.size u1 (u1.alloc (.cells #[.int .i64 3] 2)).drew:=Ab (Aa _ _) lR (Ae _);have x1w7:=AB B7 x1;have x2w7:=AB B7 x2;have p0w7:=AB B7 p0;have k1w7:=AB B7 k1;have k2w7:=AB B7 k2;have r0w7:=AB B7 r0;have r1w7:=AB B7 r1;have z0w7:=(E1.o.keep B7).rb.frozen 0;have z1w7:=(E1.o.keep B7).rb.frozen 1;have B8:Below u1.heap.size u1 (u1.alloc (.cells #[.int .i64 t] 2)).drew:=Ab (Aa _ _) lR (Ae _);have x1w8:=AB B8 x1;have x2w8:=AB B8 x2;have p0w8:=AB B8 p0;have k1w8:=AB B8 k1;have k2w8:=AB B8 k2;have r0w8:=AB B8 r0;have r1w8:=AB B8 r1;have z0w8:=(E1.o.keep B8).rb.frozen 0;have z1w8:=(E1.o.keep B8).rb.frozen 1;have B9:Below u1.heap.size u1 ((u1.alloc (.cells #[.int .i64 3] 2)).alloc (.cells #[.int .i64 t] 2)).drew:=Ab (Ab (Aa _ _) lR (Aa _ _)) lR (Ae _);have r0w9:=AB B9 r0;have r1w9:=AB B9 r1;have z0w9:=(E1.o.keep B9).rb.frozen 0;have z1w9:=(E1.o.keep B9).rb.frozen 1
 have B10:Below u1.heap.size u1 ((u1.alloc (.cells #[.int .i64 t] 2)).alloc (.cells #[.int .i64 3] 2)).drew:=Ab (Ab (Aa _ _) lR (Aa _ _)) lR (Ae _);have r0w10:=AB B10 r0;have r1w10:=AB B10 r1;have z0w10:=(E1.o.keep B10).rb.frozen 0;have z1w10:=(E1.o.keep B10).rb.frozen 1;have S11:Ap (((u1.setCell ⟨w.heap.size+1+1+1,0,none⟩ (.slice (some ⟨u1.heap.size,0,none⟩) 1 1)).alloc (.cells #[.int .i64 3] 2)).alloc (.cells #[.int .i64 t] 2)).drew (w.heap.size+1+1+1) _ _:=(E1.o.rb.set 0 (.slice (some ⟨u1.heap.size,0,none⟩) 1 1)).keep (Ab (Ab (Aa _ _) lR (Aa _ _)) lR (Ae _));have r1w11:=S11.cell 1;have z1w11:=S11.frozen 1;simp only[aY,au,aQ,aJ,aL]at r1w11;clear S11;have S12:Ap (((u1.setCell ⟨w.heap.size+1+1+1,0,none⟩ (.slice (some ⟨u1.heap.size+1,0,none⟩) 1 1)).alloc (.cells #[.int .i64 t] 2)).alloc (.cells #[.int .i64 3] 2)).drew (w.heap.size+1+1+1) _ _:=(E1.o.rb.set 0 (.slice (some ⟨u1.heap.size+1,0,none⟩) 1 1)).keep (Ab (Ab (Aa _ _) lR (Aa _ _)) lR (Ae _));have r1w12:=S12.cell 1;have z1w12:=S12.frozen 1;simp only[aY,au,aQ,aJ,aL]at r1w12;clear S12;clear B6 B7 B8 B9 B10;clear x0 x1 x2 p0 k1 k2 r0 r1 z0 z1;go_region_law (fail)
 all_goals
  go_wp2_with fail
  first
  | (obtain⟨he,q0,q1⟩:=Gf E1.o [3] [t] _ rfl
     simp only[Ac,am,bi,bK,ba,bL,bc,bV]at q0 q1;exact aW (v:=.agg #[.slice (some ⟨u1.heap.size,0,none⟩) 1 1,.slice (some ⟨u1.heap.size+1,0,none⟩) 1 1]) (by simp[results,Tryz.results146,go_sem,q0,q1]) rfl he.drew)
  | (obtain⟨he,q0,q1⟩:=ST E1.o [3] [t] _ rfl
     simp only[Ac,am,bi,bK,ba,bL,bc,bV]at q0 q1;exact aW (v:=.agg #[.slice (some ⟨u1.heap.size+1,0,none⟩) 1 1,.slice (some ⟨u1.heap.size,0,none⟩) 1 1]) (by simp[results,Tryz.results146,go_sem,q0,q1]) rfl he.drew)
end Go.Proofs.YtjcamlobelcepaaGreatDoor
