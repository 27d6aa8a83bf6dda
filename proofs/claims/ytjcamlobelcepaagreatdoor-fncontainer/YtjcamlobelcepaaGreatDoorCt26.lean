import Derived.Test.YtjcamlobelcepaaGreatDoorCt18
namespace Go.Proofs.YtjcamlobelcepaaGreatDoor
open Go.ChangeShapes Go.WideShapes Go.ChangeAt Go.RowKit
set_option linter.unusedVariables false
set_option maxHeartbeats 4000000
set_option maxRecDepth 100000
theorem Dn.drew{w U:World}{ts gs:List Int}{e:Ending}(h:Dn w ts gs e U):Dn w ts gs e U.drew:=by
 obtain⟨t,s,e1,h1,h2,h3⟩:=h;exact⟨t,s,e1,h1.keep (Ae U) lR,h2.keep (Ae U) lR,Ab h3 lR (Ae U)⟩
theorem ST{w u:World}{v:VP}{g:VF}{f:MF}{op a b c:Int}(h:Ki w u v g f op a b c)(ts:List Int)(gs:List Int)(U:World)(hU:U=((((u.setCell ⟨w.heap.size+1+1+1,0,none⟩ (.slice (some ⟨u.heap.size+1,0,none⟩) ts.length ts.length)).setCell ⟨w.heap.size+1+1+1,1,none⟩ (.slice (some ⟨u.heap.size,0,none⟩) gs.length gs.length)).alloc (.cells (gs.flatMap Ac).toArray 2)).alloc (.cells (ts.flatMap Ac).toArray 2))):
 Dn w ts gs (.returned (.agg #[.slice (some ⟨u.heap.size+1,0,none⟩) ts.length ts.length,.slice (some ⟨u.heap.size,0,none⟩) gs.length gs.length])) U/\U.cell? ⟨w.heap.size+1+1+1,0,none⟩=some (.slice (some ⟨u.heap.size+1,0,none⟩) ts.length ts.length)/\U.cell? ⟨w.heap.size+1+1+1,1,none⟩=some (.slice (some ⟨u.heap.size,0,none⟩) gs.length gs.length):=by
 subst hU;have R2:=(h.rb.set 0 (.slice (some ⟨u.heap.size+1,0,none⟩) ts.length ts.length)).set 1 (.slice (some ⟨u.heap.size,0,none⟩) gs.length gs.length);have q0:=R2.cell 0;have q1:=R2.cell 1;simp only[aY,au,aw,aQ,aJ,aL]at q0 q1;have bel:Below w.heap.size w ((u.setCell ⟨w.heap.size+1+1+1,0,none⟩ (.slice (some ⟨u.heap.size+1,0,none⟩) ts.length ts.length)).setCell ⟨w.heap.size+1+1+1,1,none⟩ (.slice (some ⟨u.heap.size,0,none⟩) gs.length gs.length)):=(h.in3.bel.setCell (by simp only[];omega) _).setCell (by simp only[];omega) _;have z0:((u.setCell ⟨w.heap.size+1+1+1,0,none⟩ (.slice (some ⟨u.heap.size+1,0,none⟩) ts.length ts.length)).setCell ⟨w.heap.size+1+1+1,1,none⟩ (.slice (some ⟨u.heap.size,0,none⟩) gs.length gs.length)).heap.size=u.heap.size:=by simp only[bf]
 generalize ((u.setCell ⟨w.heap.size+1+1+1,0,none⟩ (.slice (some ⟨u.heap.size+1,0,none⟩) ts.length ts.length)).setCell ⟨w.heap.size+1+1+1,1,none⟩ (.slice (some ⟨u.heap.size,0,none⟩) gs.length gs.length))=u0 at q0 q1 bel z0⊢;have r1:=IG u0 gs;have z1:(u0.alloc (.cells (gs.flatMap Ac).toArray 2)).heap.size=u.heap.size+1:=by simp[z0]
 have b1:=Aa u0 (.cells (gs.flatMap Ac).toArray 2);rw[z0]at r1;generalize u0.alloc (.cells (gs.flatMap Ac).toArray 2)=u1 at r1 z1 b1⊢;have r2:=IG u1 ts;have b2:=Aa u1 (.cells (ts.flatMap Ac).toArray 2);rw[z1]at r2;generalize u1.alloc (.cells (ts.flatMap Ac).toArray 2)=u2 at r2 b2⊢;exact⟨⟨_,_,rfl,r2,(r1.keep b2 lR),(Ab (Ab bel lR b1) lR b2)⟩,(AB b2 (AB b1 q0)),(AB b2 (AB b1 q1))⟩
theorem S6(vr vf vt gp gl gc:Value)(f:MF)(cs:List MC)(ak:Option Addr)(ck q:Nat)(y:MC)(b c:Int)(w:World)(hn:cs.length<=1048576)(hk:Rd w 2 (.slice ak cs.length ck) cs.length (cs.flatMap MC.cells))(hq:cs[q]?=some y):
 Calls Tryz.prog 146 #[.agg #[vr,.slice ak cs.length ck,vf,vt],.agg #[gp,.int .i64 f.result,gl,gc],.agg #[.int .i64 1,.int .i64 q,.int .i64 b,.int .i64 c]] w (Dn w [] [y.type]):=by
 have hlt:=(aE.1 hq).1;rcases hk.2 with⟨e0,_⟩|⟨g,o,c',e1,hc⟩
 . omega
 simp only[aI,ao]at e1;obtain⟨rfl,rfl⟩:=e1;have k1:=Rd.elem MC.cells_length hc q y hq 0 _ rfl;rw[aT]at k1;have HK:Hid (w.cell? ⟨g,o+q*2,none⟩=some (.int .i64 y.type)):=k1;generalize cs.length=n at hlt hn⊢;have hltI:(q:Int)<(n:Int):=by omega
 have E0:Hid _:=Ki.of w ⟨vr,.slice (some ⟨g,o,none⟩) n ck,vf,vt⟩ ⟨gp,gl,gc⟩ f 1 q b c;have hS:Hid (∀w,Calls Tryz.prog 121 #[.int .i64 1] w fun e w'=>e=.returned (.agg #[.string ⟨#[99,111,110,115,116]⟩,.int .i64 1,.int .i64 1])/\Below w.heap.size w w'):=fun w=>Cr 1 w
 have hfl:=Cw;go_enter Tryz.func146,Tryz.ntmps146;go_wp2_with fail
 refine(hS.o _).mono ?_;rintro e u1 ⟨rfl,b1⟩;have E1:Hid _:=E0.o.keep b1;have x0:=E1.o.in3.ins.c0;have x1:=E1.o.in3.ins.c1;have x2:=E1.o.in3.ins.c2;have p1:=E1.o.in3.prog.c1;have k1:u1.cell? ⟨g,o+q*2,none⟩=some (.int .i64 y.type):=by rw[E1.o.in3.bel.cell (aD HK.o)];exact HK.o
 have r0:=E1.o.rb.cell 0;have r1:=E1.o.rb.cell 1;have z0:=E1.o.rb.frozen 0;have z1:=E1.o.rb.frozen 1;have lt2:w.heap.size+1+1<u1.heap.size:=by have:=E1.o.rb.lt;omega
 have ne2:¬w.heap.size+1+1=u1.heap.size:=by have:=E1.o.rb.lt;omega
 have lt3:w.heap.size+1+1+1<u1.heap.size:=E1.o.rb.lt;have ne3:¬w.heap.size+1+1+1=u1.heap.size:=by have:=E1.o.rb.lt;omega
 have ne4:¬w.heap.size+1+1+1=u1.heap.size+1:=by have:=E1.o.rb.lt;omega
 have ne5:¬w.heap.size+1+1=u1.heap.size+1:=by have:=E1.o.rb.lt;omega
 simp only[aQ,aJ,aL]at r0 r1;go_wp2_with fail
 obtain⟨he,q0,q1⟩:=QB E1.o [y.type] _ rfl;simp only[Ac,am,bi,bK,ba,bL,bc,bV]at q0 q1;exact aW (v:=.agg #[.slice none 0 0,.slice (some ⟨u1.heap.size,0,none⟩) 1 1]) (by simp[results,Tryz.results146,go_sem,q0,q1]) rfl he
theorem S7(vr vk vf vt:Value)(g:VF)(f:MF)(a b c:Int)(w:World)(hs:f.small)(ha:Ec a)(h:EI w g f):
 Calls Tryz.prog 146 #[.agg #[vr,vk,vf,vt],.agg #[g.p,.int .i64 f.result,g.l,g.c],.agg #[.int .i64 2,.int .i64 a,.int .i64 b,.int .i64 c]] w (Dn w [] [AA f a]):=by
 have HL:Hid (∀u,Below w.heap.size w u->Calls Tryz.prog 122 #[.agg #[g.p,.int .i64 f.result,g.l,g.c],.int .i64 a] u fun e w'=>e=.returned (.int .i64 (AA f a))/\Below u.heap.size u w'):=fun u hb=>Di g f a u hs ha (h.keep hb lR)
 obtain⟨gp,gl,gc⟩:=g;simp only[]at HL;have E0:Hid _:=Ki.of w ⟨vr,vk,vf,vt⟩ ⟨gp,gl,gc⟩ f 2 a b c;have hS:Hid (∀w,Calls Tryz.prog 121 #[.int .i64 2] w fun e w'=>e=.returned (.agg #[.string ⟨#[108,111,97,100,108,111,99,97,108]⟩,.int .i64 1,.int .i64 2])/\Below w.heap.size w w'):=fun w=>Cr 2 w
 have hfl:=Cw;go_enter Tryz.func146,Tryz.ntmps146;go_wp2_with fail
 refine(hS.o _).mono ?_;rintro e u1 ⟨rfl,b1⟩;have E1:Hid _:=E0.o.keep b1;have x0:=E1.o.in3.ins.c0;have x1:=E1.o.in3.ins.c1;have x2:=E1.o.in3.ins.c2;have y0:=E1.o.in3.func.c0;have y1:=E1.o.in3.func.c1;have y2:=E1.o.in3.func.c2;have y3:=E1.o.in3.func.c3;go_wp2_with fail
 refine(HL.o _ E1.o.in3.bel).mono ?_;rintro e u2 ⟨rfl,b2⟩;have E2:Hid _:=E1.o.keep b2;have r0:=E2.o.rb.cell 0;have r1:=E2.o.rb.cell 1;have z0:=E2.o.rb.frozen 0;have z1:=E2.o.rb.frozen 1;have lt2:w.heap.size+1+1<u2.heap.size:=by have:=E2.o.rb.lt;omega
 have ne2:¬w.heap.size+1+1=u2.heap.size:=by have:=E2.o.rb.lt;omega
 have lt3:w.heap.size+1+1+1<u2.heap.size:=E2.o.rb.lt;have ne3:¬w.heap.size+1+1+1=u2.heap.size:=by have:=E2.o.rb.lt;omega
 have ne4:¬w.heap.size+1+1+1=u2.heap.size+1:=by have:=E2.o.rb.lt;omega
 have ne5:¬w.heap.size+1+1=u2.heap.size+1:=by have:=E2.o.rb.lt;omega
 simp only[aQ,aJ,aL]at r0 r1;go_wp2_with fail
 obtain⟨he,q0,q1⟩:=QB E2.o [AA f a] _ rfl;simp only[Ac,am,bi,bK,ba,bL,bc,bV]at q0 q1;exact aW (v:=.agg #[.slice none 0 0,.slice (some ⟨u2.heap.size,0,none⟩) 1 1]) (by simp[results,Tryz.results146,go_sem,q0,q1]) rfl he
theorem S8(vr vk vf vt:Value)(g:VF)(f:MF)(a b c:Int)(w:World)(hs:f.small)(ha:Ec a)(h:EI w g f):
 Calls Tryz.prog 146 #[.agg #[vr,vk,vf,vt],.agg #[g.p,.int .i64 f.result,g.l,g.c],.agg #[.int .i64 3,.int .i64 a,.int .i64 b,.int .i64 c]] w (Dn w [AA f a] []):=by
 have HL:Hid (∀u,Below w.heap.size w u->Calls Tryz.prog 122 #[.agg #[g.p,.int .i64 f.result,g.l,g.c],.int .i64 a] u fun e w'=>e=.returned (.int .i64 (AA f a))/\Below u.heap.size u w'):=fun u hb=>Di g f a u hs ha (h.keep hb lR)
 obtain⟨gp,gl,gc⟩:=g;simp only[]at HL;have E0:Hid _:=Ki.of w ⟨vr,vk,vf,vt⟩ ⟨gp,gl,gc⟩ f 3 a b c;have hS:Hid (∀w,Calls Tryz.prog 121 #[.int .i64 3] w fun e w'=>e=.returned (.agg #[.string ⟨#[115,116,111,114,101,108,111,99,97,108]⟩,.int .i64 1,.int .i64 2])/\Below w.heap.size w w'):=fun w=>Cr 3 w
 have hfl:=Cw;go_enter Tryz.func146,Tryz.ntmps146;go_wp2_with fail
 refine(hS.o _).mono ?_;rintro e u1 ⟨rfl,b1⟩;have E1:Hid _:=E0.o.keep b1;have x0:=E1.o.in3.ins.c0;have x1:=E1.o.in3.ins.c1;have x2:=E1.o.in3.ins.c2;have y0:=E1.o.in3.func.c0;have y1:=E1.o.in3.func.c1;have y2:=E1.o.in3.func.c2;have y3:=E1.o.in3.func.c3;go_wp2_with fail
 refine(HL.o _ E1.o.in3.bel).mono ?_;rintro e u2 ⟨rfl,b2⟩;have E2:Hid _:=E1.o.keep b2;have r0:=E2.o.rb.cell 0;have r1:=E2.o.rb.cell 1;have z0:=E2.o.rb.frozen 0;have z1:=E2.o.rb.frozen 1;have lt2:w.heap.size+1+1<u2.heap.size:=by have:=E2.o.rb.lt;omega
 have ne2:¬w.heap.size+1+1=u2.heap.size:=by have:=E2.o.rb.lt;omega
 have lt3:w.heap.size+1+1+1<u2.heap.size:=E2.o.rb.lt;have ne3:¬w.heap.size+1+1+1=u2.heap.size:=by have:=E2.o.rb.lt;omega
 have ne4:¬w.heap.size+1+1+1=u2.heap.size+1:=by have:=E2.o.rb.lt;omega
 have ne5:¬w.heap.size+1+1=u2.heap.size+1:=by have:=E2.o.rb.lt;omega
 simp only[aQ,aJ,aL]at r0 r1;go_wp2_with fail
 obtain⟨he,q0,q1⟩:=MH E2.o [AA f a] _ rfl;simp only[Ac,am,bi,bK,ba,bL,bc,bV]at q0 q1;exact aW (v:=.agg #[.slice (some ⟨u2.heap.size,0,none⟩) 1 1,.slice none 0 0]) (by simp[results,Tryz.results146,go_sem,q0,q1]) rfl he
theorem S9(vk vf vt gp gl gc:Value)(f:MF)(rs:List (List Int))(ar:Option Addr)(cr q z:Nat)(r:List Int)(t:Int)(c:Int)(w:World)(hn:rs.length<=1048576)(hm:r.length<=1048576)(hr:Lx w (.slice ar rs.length cr) rs)(hq:rs[q]?=some r)(hz:r[z]?=some t):
 Calls Tryz.prog 146 #[.agg #[.slice ar rs.length cr,vk,vf,vt],.agg #[gp,.int .i64 f.result,gl,gc],.agg #[.int .i64 4,.int .i64 q,.int .i64 z,.int .i64 c]] w (Dn w [] [t]):=by
 obtain⟨xs,h1,h2,h3⟩:=hr;have hlt:=(aE.1 hq).1;have hlz:=(aE.1 hz).1;obtain⟨⟨r',y⟩,hx⟩:∃x,xs[q]?=some x:=⟨_,aA (by rw[<-bB (f:=Prod.fst),h1];exact hlt)⟩;have e2:=BG h1 hx;rw[hq]at e2;obtain rfl:r=r':=aZ e2;have hy:=h3 _ (aF hx);simp only[]at hy;rcases h2.2 with⟨e0,_⟩|⟨g,o,c',e1,hc⟩
 . omega
 simp only[aI,ao]at e1;obtain⟨rfl,rfl⟩:=e1;have k1:=Rd.elem AK hc q _ hx 0 _ rfl;rw[bR,aT]at k1;simp only[]at k1;rcases hy.2 with⟨e0,_⟩|⟨g',o',c'',rfl,hc'⟩
 . omega
 have k2:=Rd.elem Al hc' z _ hz 0 _ rfl;rw[bR,aT]at k2;have HK:Hid (w.cell? ⟨g,o+q,none⟩=some (.slice (some ⟨g',o',none⟩) r.length c'')/\w.cell? ⟨g',o'+z,none⟩=some (.int .i64 t)):=⟨k1,k2⟩
 generalize rs.length=n at hlt hn⊢;generalize r.length=m at hlz hm HK;have hltI:(q:Int)<(n:Int):=by omega
 have hlzI:(z:Int)<(m:Int):=by omega
 have E0:Hid _:=Ki.of w ⟨.slice (some ⟨g,o,none⟩) n cr,vk,vf,vt⟩ ⟨gp,gl,gc⟩ f 4 q z c;have hS:Hid (∀w,Calls Tryz.prog 121 #[.int .i64 4] w fun e w'=>e=.returned (.agg #[.string ⟨#[108,111,97,100]⟩,.int .i64 2,.int .i64 3])/\Below w.heap.size w w'):=fun w=>Cr 4 w
 have hfl:=Cw;go_enter Tryz.func146,Tryz.ntmps146;go_wp2_with fail
 refine(hS.o _).mono ?_;rintro e u1 ⟨rfl,b1⟩;have E1:Hid _:=E0.o.keep b1;have x0:=E1.o.in3.ins.c0;have x1:=E1.o.in3.ins.c1;have x2:=E1.o.in3.ins.c2;have p0:=E1.o.in3.prog.c0;have k1:u1.cell? ⟨g,o+q,none⟩=some (.slice (some ⟨g',o',none⟩) m c''):=by rw[E1.o.in3.bel.cell (aD HK.o.1)];exact HK.o.1
 have k2:u1.cell? ⟨g',o'+z,none⟩=some (.int .i64 t):=by rw[E1.o.in3.bel.cell (aD HK.o.2)];exact HK.o.2
 have r0:=E1.o.rb.cell 0;have r1:=E1.o.rb.cell 1;have z0:=E1.o.rb.frozen 0;have z1:=E1.o.rb.frozen 1;have lt2:w.heap.size+1+1<u1.heap.size:=by have:=E1.o.rb.lt;omega
 have ne2:¬w.heap.size+1+1=u1.heap.size:=by have:=E1.o.rb.lt;omega
 have lt3:w.heap.size+1+1+1<u1.heap.size:=E1.o.rb.lt;have ne3:¬w.heap.size+1+1+1=u1.heap.size:=by have:=E1.o.rb.lt;omega
 have ne4:¬w.heap.size+1+1+1=u1.heap.size+1:=by have:=E1.o.rb.lt;omega
 have ne5:¬w.heap.size+1+1=u1.heap.size+1:=by have:=E1.o.rb.lt;omega
 simp only[aQ,aJ,aL]at r0 r1;go_wp2_with fail
 have B0:Below u1.heap.size u1 u1.drew:=Ae u1;have x1w0:=AB B0 x1;have x2w0:=AB B0 x2;have p0w0:=AB B0 p0;have k1w0:=AB B0 k1;have k2w0:=AB B0 k2;have r0w0:=AB B0 r0;have r1w0:=AB B0 r1;have z0w0:=(E1.o.keep B0).rb.frozen 0;have z1w0:=(E1.o.keep B0).rb.frozen 1;have B1:Below u1.heap.size u1 (u1.alloc (.cells #[.int .i64 t] 2)).drew:=Ab (Aa _ _) lR (Ae _);have r0w1:=AB B1 r0;have r1w1:=AB B1 r1;have z0w1:=(E1.o.keep B1).rb.frozen 0;have z1w1:=(E1.o.keep B1).rb.frozen 1;have S2:Ap ((u1.setCell ⟨w.heap.size+1+1+1,0,none⟩ (.slice none 0 0)).alloc (.cells #[.int .i64 t] 2)).drew (w.heap.size+1+1+1) _ _:=(E1.o.rb.set 0 (.slice none 0 0)).keep (Ab (Aa _ _) lR (Ae _));have r1w2:=S2.cell 1;have z1w2:=S2.frozen 1;simp only[aY,au,aQ,aJ,aL]at r1w2;go_region_law (fail)
 all_goals
  go_wp2_with fail
  obtain⟨he,q0,q1⟩:=QB E1.o [t] _ rfl;simp only[Ac,am,bi,bK,ba,bL,bc,bV]at q0 q1;exact aW (v:=.agg #[.slice none 0 0,.slice (some ⟨u1.heap.size,0,none⟩) 1 1]) (by simp[results,Tryz.results146,go_sem,q0,q1]) rfl he.drew
theorem Ta(vk vf vt gp gl gc:Value)(f:MF)(rs:List (List Int))(ar:Option Addr)(cr q z:Nat)(r:List Int)(t:Int)(c:Int)(w:World)(hn:rs.length<=1048576)(hm:r.length<=1048576)(hr:Lx w (.slice ar rs.length cr) rs)(hq:rs[q]?=some r)(hz:r[z]?=some t):
 Calls Tryz.prog 146 #[.agg #[.slice ar rs.length cr,vk,vf,vt],.agg #[gp,.int .i64 f.result,gl,gc],.agg #[.int .i64 5,.int .i64 q,.int .i64 z,.int .i64 c]] w (Dn w [t] []):=by
 obtain⟨xs,h1,h2,h3⟩:=hr;have hlt:=(aE.1 hq).1;have hlz:=(aE.1 hz).1;obtain⟨⟨r',y⟩,hx⟩:∃x,xs[q]?=some x:=⟨_,aA (by rw[<-bB (f:=Prod.fst),h1];exact hlt)⟩;have e2:=BG h1 hx;rw[hq]at e2;obtain rfl:r=r':=aZ e2;have hy:=h3 _ (aF hx);simp only[]at hy;rcases h2.2 with⟨e0,_⟩|⟨g,o,c',e1,hc⟩
 . omega
 simp only[aI,ao]at e1;obtain⟨rfl,rfl⟩:=e1;have k1:=Rd.elem AK hc q _ hx 0 _ rfl;rw[bR,aT]at k1;simp only[]at k1;rcases hy.2 with⟨e0,_⟩|⟨g',o',c'',rfl,hc'⟩
 . omega
 have k2:=Rd.elem Al hc' z _ hz 0 _ rfl;rw[bR,aT]at k2;have HK:=Af (aG k1 k2);generalize rs.length=n at hlt hn⊢;generalize r.length=m at hlz hm HK;have hltI:(q:Int)<(n:Int):=by omega
 have hlzI:(z:Int)<(m:Int):=by omega
 have E0:Hid _:=Ki.of w ⟨.slice (some ⟨g,o,none⟩) n cr,vk,vf,vt⟩ ⟨gp,gl,gc⟩ f 5 q z c;have hS:Hid (∀w,Calls Tryz.prog 121 #[.int .i64 5] w fun e w'=>e=.returned (.agg #[.string ⟨#[115,116,111,114,101]⟩,.int .i64 2,.int .i64 3])/\Below w.heap.size w w'):=fun w=>Cr 5 w
 have hfl:=Cw;go_enter Tryz.func146,Tryz.ntmps146;go_wp2_with fail
 refine(hS.o _).mono ?_;rintro e u1 ⟨rfl,b1⟩;have E1:Hid _:=E0.o.keep b1;have x0:=E1.o.in3.ins.c0;have x1:=E1.o.in3.ins.c1;have x2:=E1.o.in3.ins.c2;have p0:=E1.o.in3.prog.c0;have k1:u1.cell? ⟨g,o+q,none⟩=some (.slice (some ⟨g',o',none⟩) m c''):=by rw[E1.o.in3.bel.cell (aD HK.o.1)];exact HK.o.1
 have k2:u1.cell? ⟨g',o'+z,none⟩=some (.int .i64 t):=by rw[E1.o.in3.bel.cell (aD HK.o.2)];exact HK.o.2
 have r0:=E1.o.rb.cell 0;have r1:=E1.o.rb.cell 1;have z0:=E1.o.rb.frozen 0;have z1:=E1.o.rb.frozen 1;have lt2:w.heap.size+1+1<u1.heap.size:=by have:=E1.o.rb.lt;omega
 have ne2:¬w.heap.size+1+1=u1.heap.size:=by have:=E1.o.rb.lt;omega
 have lt3:w.heap.size+1+1+1<u1.heap.size:=E1.o.rb.lt;have ne3:¬w.heap.size+1+1+1=u1.heap.size:=by have:=E1.o.rb.lt;omega
 have ne4:¬w.heap.size+1+1+1=u1.heap.size+1:=by have:=E1.o.rb.lt;omega
 have ne5:¬w.heap.size+1+1=u1.heap.size+1:=by have:=E1.o.rb.lt;omega
 simp only[aQ,aJ,aL]at r0 r1;go_wp2_with fail
 have B3:Below u1.heap.size u1 u1.drew:=Ae u1;have x1w3:=AB B3 x1;have x2w3:=AB B3 x2;have p0w3:=AB B3 p0;have k1w3:=AB B3 k1;have k2w3:=AB B3 k2;have r0w3:=AB B3 r0;have r1w3:=AB B3 r1;have z0w3:=(E1.o.keep B3).rb.frozen 0;have z1w3:=(E1.o.keep B3).rb.frozen 1;have B4:Below u1.heap.size u1 (u1.alloc (.cells #[.int .i64 t] 2)).drew:=Ab (Aa _ _) lR (Ae _);have r0w4:=AB B4 r0;have r1w4:=AB B4 r1;have z0w4:=(E1.o.keep B4).rb.frozen 0;have z1w4:=(E1.o.keep B4).rb.frozen 1;have S5:Ap ((u1.setCell ⟨w.heap.size+1+1+1,0,none⟩ (.slice (some ⟨u1.heap.size,0,none⟩) 1 1)).alloc (.cells #[.int .i64 t] 2)).drew (w.heap.size+1+1+1) _ _:=(E1.o.rb.set 0 (.slice (some ⟨u1.heap.size,0,none⟩) 1 1)).keep (Ab (Aa _ _) lR (Ae _));have r1w5:=S5.cell 1;have z1w5:=S5.frozen 1;simp only[aY,au,aQ,aJ,aL]at r1w5;go_region_law (fail)
 all_goals
  go_wp2_with fail
  obtain⟨he,q0,q1⟩:=MH E1.o [t] _ rfl;simp only[Ac,am,bi,bK,ba,bL,bc,bV]at q0 q1;exact aW (v:=.agg #[.slice (some ⟨u1.heap.size,0,none⟩) 1 1,.slice none 0 0]) (by simp[results,Tryz.results146,go_sem,q0,q1]) rfl he.drew
theorem Tc(vk vf vt gp gl gc:Value)(f:MF)(rs:List (List Int))(ar:Option Addr)(cr q z:Nat)(r:List Int)(t:Int)(c:Int)(w:World)(hn:rs.length<=1048576)(hm:r.length<=1048576)(hr:Lx w (.slice ar rs.length cr) rs)(hq:rs[q]?=some r)(hz:r[z]?=some t):
 Calls Tryz.prog 146 #[.agg #[.slice ar rs.length cr,vk,vf,vt],.agg #[gp,.int .i64 f.result,gl,gc],.agg #[.int .i64 7,.int .i64 q,.int .i64 z,.int .i64 c]] w (Dn w [3,t] []):=by
 obtain⟨xs,h1,h2,h3⟩:=hr;have hlt:=(aE.1 hq).1;have hlz:=(aE.1 hz).1;obtain⟨⟨r',y⟩,hx⟩:∃x,xs[q]?=some x:=⟨_,aA (by rw[<-bB (f:=Prod.fst),h1];exact hlt)⟩;have e2:=BG h1 hx;rw[hq]at e2;obtain rfl:r=r':=aZ e2;have hy:=h3 _ (aF hx);simp only[]at hy;rcases h2.2 with⟨e0,_⟩|⟨g,o,c',e1,hc⟩
 . omega
 simp only[aI,ao]at e1;obtain⟨rfl,rfl⟩:=e1;have k1:=Rd.elem AK hc q _ hx 0 _ rfl;rw[bR,aT]at k1;simp only[]at k1;rcases hy.2 with⟨e0,_⟩|⟨g',o',c'',rfl,hc'⟩
 . omega
 have k2:=Rd.elem Al hc' z _ hz 0 _ rfl;rw[bR,aT]at k2;have HK:Hid (w.cell? ⟨g,o+q,none⟩=some (.slice (some ⟨g',o',none⟩) r.length c'')/\w.cell? ⟨g',o'+z,none⟩=some (.int .i64 t)):=⟨k1,k2⟩
 generalize rs.length=n at hlt hn⊢;generalize r.length=m at hlz hm HK;have hltI:(q:Int)<(n:Int):=by omega
 have hlzI:(z:Int)<(m:Int):=by omega
 have E0:Hid _:=Ki.of w ⟨.slice (some ⟨g,o,none⟩) n cr,vk,vf,vt⟩ ⟨gp,gl,gc⟩ f 7 q z c;have hS:Hid (∀w,Calls Tryz.prog 121 #[.int .i64 7] w fun e w'=>e=.returned (.agg #[.string ⟨#[115,116,111,114,101,97,116]⟩,.int .i64 3,.int .i64 4])/\Below w.heap.size w w'):=fun w=>Cr 7 w
 have hfl:=Cw;go_enter Tryz.func146,Tryz.ntmps146;go_wp2_with fail
 refine(hS.o _).mono ?_;rintro e u1 ⟨rfl,b1⟩;have E1:Hid _:=E0.o.keep b1;have x0:=E1.o.in3.ins.c0;have x1:=E1.o.in3.ins.c1;have x2:=E1.o.in3.ins.c2;have p0:=E1.o.in3.prog.c0;have k1:u1.cell? ⟨g,o+q,none⟩=some (.slice (some ⟨g',o',none⟩) m c''):=by rw[E1.o.in3.bel.cell (aD HK.o.1)];exact HK.o.1
 have k2:u1.cell? ⟨g',o'+z,none⟩=some (.int .i64 t):=by rw[E1.o.in3.bel.cell (aD HK.o.2)];exact HK.o.2
 have r0:=E1.o.rb.cell 0;have r1:=E1.o.rb.cell 1;have z0:=E1.o.rb.frozen 0;have z1:=E1.o.rb.frozen 1;have lt2:w.heap.size+1+1<u1.heap.size:=by have:=E1.o.rb.lt;omega
 have ne2:¬w.heap.size+1+1=u1.heap.size:=by have:=E1.o.rb.lt;omega
 have lt3:w.heap.size+1+1+1<u1.heap.size:=E1.o.rb.lt;have ne3:¬w.heap.size+1+1+1=u1.heap.size:=by have:=E1.o.rb.lt;omega
 have ne4:¬w.heap.size+1+1+1=u1.heap.size+1:=by have:=E1.o.rb.lt;omega
 have ne5:¬w.heap.size+1+1=u1.heap.size+1:=by have:=E1.o.rb.lt;omega
 simp only[aQ,aJ,aL]at r0 r1;go_wp2_with fail
 have B13:Below u1.heap.size u1 u1.drew:=Ae u1;have x1w13:=AB B13 x1;have x2w13:=AB B13 x2;have p0w13:=AB B13 p0;have k1w13:=AB B13 k1;have k2w13:=AB B13 k2;have r0w13:=AB B13 r0;have r1w13:=AB B13 r1;have z0w13:=(E1.o.keep B13).rb.frozen 0;have z1w13:=(E1.o.keep B13).rb.frozen 1;have B14:Below u1.heap.size u1 (u1.alloc (.cells #[.int .i64 3,.int .i64 t] 2)).drew:=Ab (Aa _ _) lR (Ae _);have r0w14:=AB B14 r0;have r1w14:=AB B14 r1;have z0w14:=(E1.o.keep B14).rb.frozen 0;have z1w14:=(E1.o.keep B14).rb.frozen 1;have S15:Ap ((u1.setCell ⟨w.heap.size+1+1+1,0,none⟩ (.slice (some ⟨u1.heap.size,0,none⟩) 2 2)).alloc (.cells #[.int .i64 3,.int .i64 t] 2)).drew (w.heap.size+1+1+1) _ _:=(E1.o.rb.set 0 (.slice (some ⟨u1.heap.size,0,none⟩) 2 2)).keep (Ab (Aa _ _) lR (Ae _));have r1w15:=S15.cell 1;have z1w15:=S15.frozen 1;simp only[aY,au,aQ,aJ,aL]at r1w15;go_region_law (fail)
 all_goals
  go_wp2_with fail
  obtain⟨he,q0,q1⟩:=MH E1.o [3,t] _ rfl;simp only[Ac,am,bi,bK,ba,bL,bc,bV,Nat.reduceAdd]at q0 q1;exact aW (v:=.agg #[.slice (some ⟨u1.heap.size,0,none⟩) 2 2,.slice none 0 0]) (by simp[results,Tryz.results146,go_sem,q0,q1]) rfl he.drew
end Go.Proofs.YtjcamlobelcepaaGreatDoor
