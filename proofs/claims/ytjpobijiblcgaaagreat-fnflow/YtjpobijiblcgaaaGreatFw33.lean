import Derived.Test.YtjpobijiblcgaaaGreatFw0
import Derived.Test.YtjpobijiblcgaaaGreatFw25
namespace Go.Proofs.YtjpobijiblcgaaaGreat
open Go.ChangeShapes Go.WideShapes Go.ChangeAt Go.RowKit
set_option linter.unusedVariables false
set_option maxHeartbeats 4000000
set_option maxRecDepth 100000
theorem Dg.drew{w U:World}{ts gs:List Int}{e:Ending}(h:Dg w ts gs e U):Dg w ts gs e U.drew:=by
 obtain⟨t,s,e1,h1,h2,h3⟩:=h;exact⟨t,s,e1,h1.keep (Ad U) lR,h2.keep (Ad U) lR,Af h3 lR (Ad U)⟩
theorem Qy{w u:World}{v:VP}{g:VF}{f:MF}{op a b c:Int}(h:I7 w u v g f op a b c)(ts:List Int)(gs:List Int)(U:World)(hU:U=((((u.setCell ⟨w.heap.size+1+1+1,0,none⟩ (.slice (some ⟨u.heap.size+1,0,none⟩) ts.length ts.length)).setCell ⟨w.heap.size+1+1+1,1,none⟩ (.slice (some ⟨u.heap.size,0,none⟩) gs.length gs.length)).alloc (.cells (gs.flatMap Ab).toArray 2)).alloc (.cells (ts.flatMap Ab).toArray 2))):
 Dg w ts gs (.returned (.agg #[.slice (some ⟨u.heap.size+1,0,none⟩) ts.length ts.length,.slice (some ⟨u.heap.size,0,none⟩) gs.length gs.length])) U/\U.cell? ⟨w.heap.size+1+1+1,0,none⟩=some (.slice (some ⟨u.heap.size+1,0,none⟩) ts.length ts.length)/\U.cell? ⟨w.heap.size+1+1+1,1,none⟩=some (.slice (some ⟨u.heap.size,0,none⟩) gs.length gs.length):=by
 subst hU;have R2:=(h.rb.set 0 (.slice (some ⟨u.heap.size+1,0,none⟩) ts.length ts.length)).set 1 (.slice (some ⟨u.heap.size,0,none⟩) gs.length gs.length);have q0:=R2.cell 0;have q1:=R2.cell 1;simp only[aZ,bF,bI,aU,aM,aQ]at q0 q1;have bel:Below w.heap.size w ((u.setCell ⟨w.heap.size+1+1+1,0,none⟩ (.slice (some ⟨u.heap.size+1,0,none⟩) ts.length ts.length)).setCell ⟨w.heap.size+1+1+1,1,none⟩ (.slice (some ⟨u.heap.size,0,none⟩) gs.length gs.length)):=(h.in3.bel.setCell (by simp only[];omega) _).setCell (by simp only[];omega) _;have z0:((u.setCell ⟨w.heap.size+1+1+1,0,none⟩ (.slice (some ⟨u.heap.size+1,0,none⟩) ts.length ts.length)).setCell ⟨w.heap.size+1+1+1,1,none⟩ (.slice (some ⟨u.heap.size,0,none⟩) gs.length gs.length)).heap.size=u.heap.size:=by simp only[bX]
 generalize ((u.setCell ⟨w.heap.size+1+1+1,0,none⟩ (.slice (some ⟨u.heap.size+1,0,none⟩) ts.length ts.length)).setCell ⟨w.heap.size+1+1+1,1,none⟩ (.slice (some ⟨u.heap.size,0,none⟩) gs.length gs.length))=u0 at q0 q1 bel z0⊢;have r1:=Hl u0 gs;have z1:(u0.alloc (.cells (gs.flatMap Ab).toArray 2)).heap.size=u.heap.size+1:=by simp[z0]
 have b1:=Aa u0 (.cells (gs.flatMap Ab).toArray 2);rw[z0]at r1;generalize u0.alloc (.cells (gs.flatMap Ab).toArray 2)=u1 at r1 z1 b1⊢;have r2:=Hl u1 ts;have b2:=Aa u1 (.cells (ts.flatMap Ab).toArray 2);rw[z1]at r2;generalize u1.alloc (.cells (ts.flatMap Ab).toArray 2)=u2 at r2 b2⊢;exact⟨⟨_,_,rfl,r2,(r1.keep b2 lR),(Af (Af bel lR b1) lR b2)⟩,(AA b2 (AA b1 q0)),(AA b2 (AA b1 q1))⟩
theorem QC(vr vf vt gp gl gc:Value)(f:MF)(cs:List MC)(ak:Option Addr)(ck q:Nat)(y:MC)(b c:Int)(w:World)(hn:cs.length<=1048576)(hk:Rd w 2 (.slice ak cs.length ck) cs.length (cs.flatMap MC.cells))(hq:cs[q]?=some y):
 Calls Tryz.prog 121 #[.agg #[vr,.slice ak cs.length ck,vf,vt],.agg #[gp,.int .i64 f.result,gl,gc],.agg #[.int .i64 1,.int .i64 q,.int .i64 b,.int .i64 c]] w (Dg w [] [y.type]):=by
 have hlt:=(aD.1 hq).1;rcases hk.2 with⟨e0,_⟩|⟨g,o,c',e1,hc⟩
 . omega
 simp only[aI,bU]at e1;obtain⟨rfl,rfl⟩:=e1;have k1:=Rd.elem MC.cells_length hc q y hq 0 _ rfl;rw[aw]at k1;have HK:Hid (w.cell? ⟨g,o+q*2,none⟩=some (.int .i64 y.type)):=k1;clear hc k1 hq hk;generalize cs.length=n at hlt hn⊢;have hltI:(q:Int)<(n:Int):=by omega
 have E0:Hid _:=I7.of w ⟨vr,.slice (some ⟨g,o,none⟩) n ck,vf,vt⟩ ⟨gp,gl,gc⟩ f 1 q b c;have hS:Hid (∀w,Calls Tryz.prog 105 #[.int .i64 1] w fun e w'=>e=.returned (.agg #[.string ⟨#[99,111,110,115,116]⟩,.int .i64 1,.int .i64 1])/\Below w.heap.size w w'):=fun w=>Cq 1 w
 have hfl:=Cz;go_enter Tryz.func121,Tryz.ntmps121;go_wp2_with fail
 refine(hS.o _).mono ?_;rintro e u1 ⟨rfl,b1⟩;have E1:Hid _:=E0.o.keep b1;clear E0 b1 hS;have x0:=E1.o.in3.ins.c0;have x1:=E1.o.in3.ins.c1;have x2:=E1.o.in3.ins.c2;have p1:=E1.o.in3.prog.c1;have k1:u1.cell? ⟨g,o+q*2,none⟩=some (.int .i64 y.type):=by rw[E1.o.in3.bel.cell (aF HK.o)];exact HK.o
 have r0:=E1.o.rb.cell 0;have r1:=E1.o.rb.cell 1;have z0:=E1.o.rb.frozen 0;have z1:=E1.o.rb.frozen 1;have lt2:w.heap.size+1+1<u1.heap.size:=by have:=E1.o.rb.lt;omega
 have ne2:¬w.heap.size+1+1=u1.heap.size:=by have:=E1.o.rb.lt;omega
 have lt3:w.heap.size+1+1+1<u1.heap.size:=E1.o.rb.lt;have ne3:¬w.heap.size+1+1+1=u1.heap.size:=by have:=E1.o.rb.lt;omega
 have ne4:¬w.heap.size+1+1+1=u1.heap.size+1:=by have:=E1.o.rb.lt;omega
 have ne5:¬w.heap.size+1+1=u1.heap.size+1:=by have:=E1.o.rb.lt;omega
 simp only[aU,aM,aQ]at r0 r1;go_wp2_with fail
 obtain⟨he,q0,q1⟩:=Ow E1.o [y.type] _ rfl;simp only[Ab,aW,cA,ah,bL,bP,bt,bG]at q0 q1;exact aT (v:=.agg #[.slice none 0 0,.slice (some ⟨u1.heap.size,0,none⟩) 1 1]) (by simp[results,Tryz.results121,go_sem,q0,q1]) rfl he
theorem QD(vr vk vf vt:Value)(g:VF)(f:MF)(a b c:Int)(w:World)(hs:f.small)(ha:BN a)(h:Hq w g f):
 Calls Tryz.prog 121 #[.agg #[vr,vk,vf,vt],.agg #[g.p,.int .i64 f.result,g.l,g.c],.agg #[.int .i64 2,.int .i64 a,.int .i64 b,.int .i64 c]] w (Dg w [] [AS f a]):=by
 have HL:Hid (∀u,Below w.heap.size w u->Calls Tryz.prog 106 #[.agg #[g.p,.int .i64 f.result,g.l,g.c],.int .i64 a] u fun e w'=>e=.returned (.int .i64 (AS f a))/\Below u.heap.size u w'):=fun u hb=>Dc g f a u hs ha (h.keep hb lR)
 obtain⟨gp,gl,gc⟩:=g;simp only[]at HL;clear h hs ha;have E0:Hid _:=I7.of w ⟨vr,vk,vf,vt⟩ ⟨gp,gl,gc⟩ f 2 a b c;have hS:Hid (∀w,Calls Tryz.prog 105 #[.int .i64 2] w fun e w'=>e=.returned (.agg #[.string ⟨#[108,111,97,100,108,111,99,97,108]⟩,.int .i64 1,.int .i64 2])/\Below w.heap.size w w'):=fun w=>Cq 2 w
 have hfl:=Cz;go_enter Tryz.func121,Tryz.ntmps121;go_wp2_with fail
 refine(hS.o _).mono ?_;rintro e u1 ⟨rfl,b1⟩;have E1:Hid _:=E0.o.keep b1;clear E0 b1 hS;have x0:=E1.o.in3.ins.c0;have x1:=E1.o.in3.ins.c1;have x2:=E1.o.in3.ins.c2;have y0:=E1.o.in3.func.c0;have y1:=E1.o.in3.func.c1;have y2:=E1.o.in3.func.c2;have y3:=E1.o.in3.func.c3;go_wp2_with fail
 refine(HL.o _ E1.o.in3.bel).mono ?_;rintro e u2 ⟨rfl,b2⟩;have E2:Hid _:=E1.o.keep b2;clear b2 x0 x1 x2 y0 y1 y2 y3 E1 HL;have r0:=E2.o.rb.cell 0;have r1:=E2.o.rb.cell 1;have z0:=E2.o.rb.frozen 0;have z1:=E2.o.rb.frozen 1;have lt2:w.heap.size+1+1<u2.heap.size:=by have:=E2.o.rb.lt;omega
 have ne2:¬w.heap.size+1+1=u2.heap.size:=by have:=E2.o.rb.lt;omega
 have lt3:w.heap.size+1+1+1<u2.heap.size:=E2.o.rb.lt;have ne3:¬w.heap.size+1+1+1=u2.heap.size:=by have:=E2.o.rb.lt;omega
 have ne4:¬w.heap.size+1+1+1=u2.heap.size+1:=by have:=E2.o.rb.lt;omega
 have ne5:¬w.heap.size+1+1=u2.heap.size+1:=by have:=E2.o.rb.lt;omega
 simp only[aU,aM,aQ]at r0 r1;go_wp2_with fail
 obtain⟨he,q0,q1⟩:=Ow E2.o [AS f a] _ rfl;simp only[Ab,aW,cA,ah,bL,bP,bt,bG]at q0 q1;exact aT (v:=.agg #[.slice none 0 0,.slice (some ⟨u2.heap.size,0,none⟩) 1 1]) (by simp[results,Tryz.results121,go_sem,q0,q1]) rfl he
theorem QE(vr vk vf vt:Value)(g:VF)(f:MF)(a b c:Int)(w:World)(hs:f.small)(ha:BN a)(h:Hq w g f):
 Calls Tryz.prog 121 #[.agg #[vr,vk,vf,vt],.agg #[g.p,.int .i64 f.result,g.l,g.c],.agg #[.int .i64 3,.int .i64 a,.int .i64 b,.int .i64 c]] w (Dg w [AS f a] []):=by
 have HL:Hid (∀u,Below w.heap.size w u->Calls Tryz.prog 106 #[.agg #[g.p,.int .i64 f.result,g.l,g.c],.int .i64 a] u fun e w'=>e=.returned (.int .i64 (AS f a))/\Below u.heap.size u w'):=fun u hb=>Dc g f a u hs ha (h.keep hb lR)
 obtain⟨gp,gl,gc⟩:=g;simp only[]at HL;clear h hs ha;have E0:Hid _:=I7.of w ⟨vr,vk,vf,vt⟩ ⟨gp,gl,gc⟩ f 3 a b c;have hS:Hid (∀w,Calls Tryz.prog 105 #[.int .i64 3] w fun e w'=>e=.returned (.agg #[.string ⟨#[115,116,111,114,101,108,111,99,97,108]⟩,.int .i64 1,.int .i64 2])/\Below w.heap.size w w'):=fun w=>Cq 3 w
 have hfl:=Cz;go_enter Tryz.func121,Tryz.ntmps121;go_wp2_with fail
 refine(hS.o _).mono ?_;rintro e u1 ⟨rfl,b1⟩;have E1:Hid _:=E0.o.keep b1;clear E0 b1 hS;have x0:=E1.o.in3.ins.c0;have x1:=E1.o.in3.ins.c1;have x2:=E1.o.in3.ins.c2;have y0:=E1.o.in3.func.c0;have y1:=E1.o.in3.func.c1;have y2:=E1.o.in3.func.c2;have y3:=E1.o.in3.func.c3;go_wp2_with fail
 refine(HL.o _ E1.o.in3.bel).mono ?_;rintro e u2 ⟨rfl,b2⟩;have E2:Hid _:=E1.o.keep b2;clear b2 x0 x1 x2 y0 y1 y2 y3 E1 HL;have r0:=E2.o.rb.cell 0;have r1:=E2.o.rb.cell 1;have z0:=E2.o.rb.frozen 0;have z1:=E2.o.rb.frozen 1;have lt2:w.heap.size+1+1<u2.heap.size:=by have:=E2.o.rb.lt;omega
 have ne2:¬w.heap.size+1+1=u2.heap.size:=by have:=E2.o.rb.lt;omega
 have lt3:w.heap.size+1+1+1<u2.heap.size:=E2.o.rb.lt;have ne3:¬w.heap.size+1+1+1=u2.heap.size:=by have:=E2.o.rb.lt;omega
 have ne4:¬w.heap.size+1+1+1=u2.heap.size+1:=by have:=E2.o.rb.lt;omega
 have ne5:¬w.heap.size+1+1=u2.heap.size+1:=by have:=E2.o.rb.lt;omega
 simp only[aU,aM,aQ]at r0 r1;go_wp2_with fail
 obtain⟨he,q0,q1⟩:=KI E2.o [AS f a] _ rfl;simp only[Ab,aW,cA,ah,bL,bP,bt,bG]at q0 q1;exact aT (v:=.agg #[.slice (some ⟨u2.heap.size,0,none⟩) 1 1,.slice none 0 0]) (by simp[results,Tryz.results121,go_sem,q0,q1]) rfl he
theorem QF(vk vf vt gp gl gc:Value)(f:MF)(rs:List (List Int))(ar:Option Addr)(cr q z:Nat)(r:List Int)(t:Int)(c:Int)(w:World)(hn:rs.length<=1048576)(hm:r.length<=1048576)(hr:Np w (.slice ar rs.length cr) rs)(hq:rs[q]?=some r)(hz:r[z]?=some t):
 Calls Tryz.prog 121 #[.agg #[.slice ar rs.length cr,vk,vf,vt],.agg #[gp,.int .i64 f.result,gl,gc],.agg #[.int .i64 4,.int .i64 q,.int .i64 z,.int .i64 c]] w (Dg w [] [t]):=by
 obtain⟨xs,h1,h2,h3⟩:=hr;have hlt:=(aD.1 hq).1;have hlz:=(aD.1 hz).1;obtain⟨⟨r',y⟩,hx⟩:∃x,xs[q]?=some x:=⟨_,aA (by rw[<-aj (f:=Prod.fst),h1];exact hlt)⟩;have e2:=D1 h1 hx;rw[hq]at e2;obtain rfl:r=r':=bC e2;have hy:=h3 _ (aE hx);simp only[]at hy;rcases h2.2 with⟨e0,_⟩|⟨g,o,c',e1,hc⟩
 . omega
 simp only[aI,bU]at e1;obtain⟨rfl,rfl⟩:=e1;have k1:=Rd.elem BT hc q _ hx 0 _ rfl;rw[cZ,aw]at k1;simp only[]at k1;rcases hy.2 with⟨e0,_⟩|⟨g',o',c'',rfl,hc'⟩
 . omega
 have k2:=Rd.elem Aq hc' z _ hz 0 _ rfl;rw[cZ,aw]at k2;have HK:Hid (w.cell? ⟨g,o+q,none⟩=some (.slice (some ⟨g',o',none⟩) r.length c'')/\w.cell? ⟨g',o'+z,none⟩=some (.int .i64 t)):=⟨k1,k2⟩
 clear hc hc' k1 k2 hq hz h2 h3 hy hx e2 h1;generalize rs.length=n at hlt hn⊢;generalize r.length=m at hlz hm HK;have hltI:(q:Int)<(n:Int):=by omega
 have hlzI:(z:Int)<(m:Int):=by omega
 have E0:Hid _:=I7.of w ⟨.slice (some ⟨g,o,none⟩) n cr,vk,vf,vt⟩ ⟨gp,gl,gc⟩ f 4 q z c;have hS:Hid (∀w,Calls Tryz.prog 105 #[.int .i64 4] w fun e w'=>e=.returned (.agg #[.string ⟨#[108,111,97,100]⟩,.int .i64 2,.int .i64 3])/\Below w.heap.size w w'):=fun w=>Cq 4 w
 have hfl:=Cz;go_enter Tryz.func121,Tryz.ntmps121;go_wp2_with fail
 refine(hS.o _).mono ?_;rintro e u1 ⟨rfl,b1⟩;have E1:Hid _:=E0.o.keep b1;clear E0 b1 hS;have x0:=E1.o.in3.ins.c0;have x1:=E1.o.in3.ins.c1;have x2:=E1.o.in3.ins.c2;have p0:=E1.o.in3.prog.c0;have k1:u1.cell? ⟨g,o+q,none⟩=some (.slice (some ⟨g',o',none⟩) m c''):=by rw[E1.o.in3.bel.cell (aF HK.o.1)];exact HK.o.1
 have k2:u1.cell? ⟨g',o'+z,none⟩=some (.int .i64 t):=by rw[E1.o.in3.bel.cell (aF HK.o.2)];exact HK.o.2
 have r0:=E1.o.rb.cell 0;have r1:=E1.o.rb.cell 1;have z0:=E1.o.rb.frozen 0;have z1:=E1.o.rb.frozen 1;have lt2:w.heap.size+1+1<u1.heap.size:=by have:=E1.o.rb.lt;omega
 have ne2:¬w.heap.size+1+1=u1.heap.size:=by have:=E1.o.rb.lt;omega
 have lt3:w.heap.size+1+1+1<u1.heap.size:=E1.o.rb.lt;have ne3:¬w.heap.size+1+1+1=u1.heap.size:=by have:=E1.o.rb.lt;omega
 have ne4:¬w.heap.size+1+1+1=u1.heap.size+1:=by have:=E1.o.rb.lt;omega
 have ne5:¬w.heap.size+1+1=u1.heap.size+1:=by have:=E1.o.rb.lt;omega
 simp only[aU,aM,aQ]at r0 r1;go_wp2_with fail
 have B0:Below u1.heap.size u1 u1.drew:=Ad u1;have x1w0:=AA B0 x1;have x2w0:=AA B0 x2;have p0w0:=AA B0 p0;have k1w0:=AA B0 k1;have k2w0:=AA B0 k2;have r0w0:=AA B0 r0;have r1w0:=AA B0 r1;have z0w0:=(E1.o.keep B0).rb.frozen 0;have z1w0:=(E1.o.keep B0).rb.frozen 1;have B1:Below u1.heap.size u1 (u1.alloc (.cells #[.int .i64 t] 2)).drew:=Af (Aa _ _) lR (Ad _);have r0w1:=AA B1 r0;have r1w1:=AA B1 r1;have z0w1:=(E1.o.keep B1).rb.frozen 0;have z1w1:=(E1.o.keep B1).rb.frozen 1;have S2:An ((u1.setCell ⟨w.heap.size+1+1+1,0,none⟩ (.slice none 0 0)).alloc (.cells #[.int .i64 t] 2)).drew (w.heap.size+1+1+1) _ _:=(E1.o.rb.set 0 (.slice none 0 0)).keep (Af (Aa _ _) lR (Ad _));have r1w2:=S2.cell 1;have z1w2:=S2.frozen 1;simp only[aZ,bF,aU,aM,aQ]at r1w2;clear S2;clear B0 B1;clear x0 x1 x2 p0 k1 k2 r0 r1 z0 z1;go_region_law (fail)
 all_goals
  go_wp2_with fail
  obtain⟨he,q0,q1⟩:=Ow E1.o [t] _ rfl;simp only[Ab,aW,cA,ah,bL,bP,bt,bG]at q0 q1;exact aT (v:=.agg #[.slice none 0 0,.slice (some ⟨u1.heap.size,0,none⟩) 1 1]) (by simp[results,Tryz.results121,go_sem,q0,q1]) rfl he.drew
theorem QG(vk vf vt gp gl gc:Value)(f:MF)(rs:List (List Int))(ar:Option Addr)(cr q z:Nat)(r:List Int)(t:Int)(c:Int)(w:World)(hn:rs.length<=1048576)(hm:r.length<=1048576)(hr:Np w (.slice ar rs.length cr) rs)(hq:rs[q]?=some r)(hz:r[z]?=some t):
 Calls Tryz.prog 121 #[.agg #[.slice ar rs.length cr,vk,vf,vt],.agg #[gp,.int .i64 f.result,gl,gc],.agg #[.int .i64 5,.int .i64 q,.int .i64 z,.int .i64 c]] w (Dg w [t] []):=by
 obtain⟨xs,h1,h2,h3⟩:=hr;have hlt:=(aD.1 hq).1;have hlz:=(aD.1 hz).1;obtain⟨⟨r',y⟩,hx⟩:∃x,xs[q]?=some x:=⟨_,aA (by rw[<-aj (f:=Prod.fst),h1];exact hlt)⟩;have e2:=D1 h1 hx;rw[hq]at e2;obtain rfl:r=r':=bC e2;have hy:=h3 _ (aE hx);simp only[]at hy;rcases h2.2 with⟨e0,_⟩|⟨g,o,c',e1,hc⟩
 . omega
 simp only[aI,bU]at e1;obtain⟨rfl,rfl⟩:=e1;have k1:=Rd.elem BT hc q _ hx 0 _ rfl;rw[cZ,aw]at k1;simp only[]at k1;rcases hy.2 with⟨e0,_⟩|⟨g',o',c'',rfl,hc'⟩
 . omega
 have k2:=Rd.elem Aq hc' z _ hz 0 _ rfl;rw[cZ,aw]at k2;have HK:=Ah (aH k1 k2);clear hc hc' k1 k2 hq hz h2 h3 hy hx e2 h1;generalize rs.length=n at hlt hn⊢;generalize r.length=m at hlz hm HK;have hltI:(q:Int)<(n:Int):=by omega
 have hlzI:(z:Int)<(m:Int):=by omega
 have E0:Hid _:=I7.of w ⟨.slice (some ⟨g,o,none⟩) n cr,vk,vf,vt⟩ ⟨gp,gl,gc⟩ f 5 q z c;have hS:Hid (∀w,Calls Tryz.prog 105 #[.int .i64 5] w fun e w'=>e=.returned (.agg #[.string ⟨#[115,116,111,114,101]⟩,.int .i64 2,.int .i64 3])/\Below w.heap.size w w'):=fun w=>Cq 5 w
 have hfl:=Cz;go_enter Tryz.func121,Tryz.ntmps121;go_wp2_with fail
 refine(hS.o _).mono ?_;rintro e u1 ⟨rfl,b1⟩;have E1:Hid _:=E0.o.keep b1;clear E0 b1 hS;have x0:=E1.o.in3.ins.c0;have x1:=E1.o.in3.ins.c1;have x2:=E1.o.in3.ins.c2;have p0:=E1.o.in3.prog.c0;have k1:u1.cell? ⟨g,o+q,none⟩=some (.slice (some ⟨g',o',none⟩) m c''):=by rw[E1.o.in3.bel.cell (aF HK.o.1)];exact HK.o.1
 have k2:u1.cell? ⟨g',o'+z,none⟩=some (.int .i64 t):=by rw[E1.o.in3.bel.cell (aF HK.o.2)];exact HK.o.2
 have r0:=E1.o.rb.cell 0;have r1:=E1.o.rb.cell 1;have z0:=E1.o.rb.frozen 0;have z1:=E1.o.rb.frozen 1;have lt2:w.heap.size+1+1<u1.heap.size:=by have:=E1.o.rb.lt;omega
 have ne2:¬w.heap.size+1+1=u1.heap.size:=by have:=E1.o.rb.lt;omega
 have lt3:w.heap.size+1+1+1<u1.heap.size:=E1.o.rb.lt;have ne3:¬w.heap.size+1+1+1=u1.heap.size:=by have:=E1.o.rb.lt;omega
 have ne4:¬w.heap.size+1+1+1=u1.heap.size+1:=by have:=E1.o.rb.lt;omega
 have ne5:¬w.heap.size+1+1=u1.heap.size+1:=by have:=E1.o.rb.lt;omega
 simp only[aU,aM,aQ]at r0 r1;go_wp2_with fail
 have B3:Below u1.heap.size u1 u1.drew:=Ad u1;have x1w3:=AA B3 x1;have x2w3:=AA B3 x2;have p0w3:=AA B3 p0;have k1w3:=AA B3 k1;have k2w3:=AA B3 k2;have r0w3:=AA B3 r0;have r1w3:=AA B3 r1;have z0w3:=(E1.o.keep B3).rb.frozen 0;have z1w3:=(E1.o.keep B3).rb.frozen 1;have B4:Below u1.heap.size u1 (u1.alloc (.cells #[.int .i64 t] 2)).drew:=Af (Aa _ _) lR (Ad _);have r0w4:=AA B4 r0;have r1w4:=AA B4 r1;have z0w4:=(E1.o.keep B4).rb.frozen 0;have z1w4:=(E1.o.keep B4).rb.frozen 1;have S5:An ((u1.setCell ⟨w.heap.size+1+1+1,0,none⟩ (.slice (some ⟨u1.heap.size,0,none⟩) 1 1)).alloc (.cells #[.int .i64 t] 2)).drew (w.heap.size+1+1+1) _ _:=(E1.o.rb.set 0 (.slice (some ⟨u1.heap.size,0,none⟩) 1 1)).keep (Af (Aa _ _) lR (Ad _));have r1w5:=S5.cell 1;have z1w5:=S5.frozen 1;simp only[aZ,bF,aU,aM,aQ]at r1w5;clear S5;clear B3 B4;clear x0 x1 x2 p0 k1 k2 r0 r1 z0 z1;go_region_law (fail)
 all_goals
  go_wp2_with fail
  obtain⟨he,q0,q1⟩:=KI E1.o [t] _ rfl;simp only[Ab,aW,cA,ah,bL,bP,bt,bG]at q0 q1;exact aT (v:=.agg #[.slice (some ⟨u1.heap.size,0,none⟩) 1 1,.slice none 0 0]) (by simp[results,Tryz.results121,go_sem,q0,q1]) rfl he.drew
theorem QI(vk vf vt gp gl gc:Value)(f:MF)(rs:List (List Int))(ar:Option Addr)(cr q z:Nat)(r:List Int)(t:Int)(c:Int)(w:World)(hn:rs.length<=1048576)(hm:r.length<=1048576)(hr:Np w (.slice ar rs.length cr) rs)(hq:rs[q]?=some r)(hz:r[z]?=some t):
 Calls Tryz.prog 121 #[.agg #[.slice ar rs.length cr,vk,vf,vt],.agg #[gp,.int .i64 f.result,gl,gc],.agg #[.int .i64 7,.int .i64 q,.int .i64 z,.int .i64 c]] w (Dg w [3,t] []):=by
 obtain⟨xs,h1,h2,h3⟩:=hr;have hlt:=(aD.1 hq).1;have hlz:=(aD.1 hz).1;obtain⟨⟨r',y⟩,hx⟩:∃x,xs[q]?=some x:=⟨_,aA (by rw[<-aj (f:=Prod.fst),h1];exact hlt)⟩;have e2:=D1 h1 hx;rw[hq]at e2;obtain rfl:r=r':=bC e2;have hy:=h3 _ (aE hx);simp only[]at hy;rcases h2.2 with⟨e0,_⟩|⟨g,o,c',e1,hc⟩
 . omega
 simp only[aI,bU]at e1;obtain⟨rfl,rfl⟩:=e1;have k1:=Rd.elem BT hc q _ hx 0 _ rfl;rw[cZ,aw]at k1;simp only[]at k1;rcases hy.2 with⟨e0,_⟩|⟨g',o',c'',rfl,hc'⟩
 . omega
 have k2:=Rd.elem Aq hc' z _ hz 0 _ rfl;rw[cZ,aw]at k2;have HK:Hid (w.cell? ⟨g,o+q,none⟩=some (.slice (some ⟨g',o',none⟩) r.length c'')/\w.cell? ⟨g',o'+z,none⟩=some (.int .i64 t)):=⟨k1,k2⟩
 clear hc hc' k1 k2 hq hz h2 h3 hy hx e2 h1;generalize rs.length=n at hlt hn⊢;generalize r.length=m at hlz hm HK;have hltI:(q:Int)<(n:Int):=by omega
 have hlzI:(z:Int)<(m:Int):=by omega
 have E0:Hid _:=I7.of w ⟨.slice (some ⟨g,o,none⟩) n cr,vk,vf,vt⟩ ⟨gp,gl,gc⟩ f 7 q z c;have hS:Hid (∀w,Calls Tryz.prog 105 #[.int .i64 7] w fun e w'=>e=.returned (.agg #[.string ⟨#[115,116,111,114,101,97,116]⟩,.int .i64 3,.int .i64 4])/\Below w.heap.size w w'):=fun w=>Cq 7 w
 have hfl:=Cz;go_enter Tryz.func121,Tryz.ntmps121;go_wp2_with fail
 refine(hS.o _).mono ?_;rintro e u1 ⟨rfl,b1⟩;have E1:Hid _:=E0.o.keep b1;clear E0 b1 hS;have x0:=E1.o.in3.ins.c0;have x1:=E1.o.in3.ins.c1;have x2:=E1.o.in3.ins.c2;have p0:=E1.o.in3.prog.c0;have k1:u1.cell? ⟨g,o+q,none⟩=some (.slice (some ⟨g',o',none⟩) m c''):=by rw[E1.o.in3.bel.cell (aF HK.o.1)];exact HK.o.1
 have k2:u1.cell? ⟨g',o'+z,none⟩=some (.int .i64 t):=by rw[E1.o.in3.bel.cell (aF HK.o.2)];exact HK.o.2
 have r0:=E1.o.rb.cell 0;have r1:=E1.o.rb.cell 1;have z0:=E1.o.rb.frozen 0;have z1:=E1.o.rb.frozen 1;have lt2:w.heap.size+1+1<u1.heap.size:=by have:=E1.o.rb.lt;omega
 have ne2:¬w.heap.size+1+1=u1.heap.size:=by have:=E1.o.rb.lt;omega
 have lt3:w.heap.size+1+1+1<u1.heap.size:=E1.o.rb.lt;have ne3:¬w.heap.size+1+1+1=u1.heap.size:=by have:=E1.o.rb.lt;omega
 have ne4:¬w.heap.size+1+1+1=u1.heap.size+1:=by have:=E1.o.rb.lt;omega
 have ne5:¬w.heap.size+1+1=u1.heap.size+1:=by have:=E1.o.rb.lt;omega
 simp only[aU,aM,aQ]at r0 r1;go_wp2_with fail
 have B13:Below u1.heap.size u1 u1.drew:=Ad u1;have x1w13:=AA B13 x1;have x2w13:=AA B13 x2;have p0w13:=AA B13 p0;have k1w13:=AA B13 k1;have k2w13:=AA B13 k2;have r0w13:=AA B13 r0;have r1w13:=AA B13 r1;have z0w13:=(E1.o.keep B13).rb.frozen 0;have z1w13:=(E1.o.keep B13).rb.frozen 1;have B14:Below u1.heap.size u1 (u1.alloc (.cells #[.int .i64 3,.int .i64 t] 2)).drew:=Af (Aa _ _) lR (Ad _);have r0w14:=AA B14 r0;have r1w14:=AA B14 r1;have z0w14:=(E1.o.keep B14).rb.frozen 0;have z1w14:=(E1.o.keep B14).rb.frozen 1;have S15:An ((u1.setCell ⟨w.heap.size+1+1+1,0,none⟩ (.slice (some ⟨u1.heap.size,0,none⟩) 2 2)).alloc (.cells #[.int .i64 3,.int .i64 t] 2)).drew (w.heap.size+1+1+1) _ _:=(E1.o.rb.set 0 (.slice (some ⟨u1.heap.size,0,none⟩) 2 2)).keep (Af (Aa _ _) lR (Ad _));have r1w15:=S15.cell 1;have z1w15:=S15.frozen 1;simp only[aZ,bF,aU,aM,aQ]at r1w15;clear S15;clear B13 B14;clear x0 x1 x2 p0 k1 k2 r0 r1 z0 z1;go_region_law (fail)
 all_goals
  go_wp2_with fail
  obtain⟨he,q0,q1⟩:=KI E1.o [3,t] _ rfl;simp only[Ab,aW,cA,ah,bL,bP,bt,bG,Nat.reduceAdd]at q0 q1;exact aT (v:=.agg #[.slice (some ⟨u1.heap.size,0,none⟩) 2 2,.slice none 0 0]) (by simp[results,Tryz.results121,go_sem,q0,q1]) rfl he.drew
end Go.Proofs.YtjpobijiblcgaaaGreat
