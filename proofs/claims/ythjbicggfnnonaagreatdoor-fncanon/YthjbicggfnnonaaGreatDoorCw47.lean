import Derived.Test.YthjbicggfnnonaaGreatDoorCw38
namespace Go.Proofs.YthjbicggfnnonaaGreatDoor
open Go.ChangeShapes Go.WideShapes Go.ChangeAt Go.RowKit
set_option linter.unusedVariables false
set_option maxHeartbeats 4000000
set_option maxRecDepth 100000
theorem UL(vk vf vt V U T:Value)(f:MF)(rs:List (List Int))(P:Option Addr)(cr q z:Nat)(r:List Int)(t:Int)(c:Int)(w:World)(hn:rs.length<=1048576)(hm:r.length<=1048576)(hr:OR w (.slice P rs.length cr) rs)(L:rs[q]?=some r)(N:r[z]?=some t):
 Calls Tryz.prog 166 #[.agg #[.slice P rs.length cr,vk,vf,vt],.agg #[V,.int .i64 f.result,U,T],.agg #[.int .i64 6,.int .i64 q,.int .i64 z,.int .i64 c]] w (DY w [3] [t]):=by
 obtain⟨xs,h1,h2,W⟩:=hr;have a6:=(d7.1 L).1;have a8:=(d7.1 N).1;obtain⟨⟨r',y⟩,E⟩:∃x,xs[q]?=some x:=⟨_,an (by rw[<-kZ (f:=Prod.fst),h1];exact a6)⟩;have J:=CK h1 E;rw[L]at J;obtain rfl:r=r':=kH J;have M:=W _ (d9 E);simp only[]at M;rcases h2.2 with⟨e0,_⟩|⟨g,o,c',S,Y⟩
 . omega
 simp only[ip,kU]at S;obtain⟨rfl,rfl⟩:=S;have j:=Rd.elem Bc Y q _ E 0 _ rfl;rw[kn,kD]at j;simp only[]at j;rcases M.2 with⟨e0,_⟩|⟨D,F,R,rfl,Z⟩
 . omega
 have k:=Rd.elem Ar Z z _ N 0 _ rfl;rw[kn,kD]at k;have A:Hid (w.cell? ⟨g,o+q,none⟩=some (.slice (some ⟨D,F,none⟩) r.length R)/\w.cell? ⟨D,F+z,none⟩=some (.int .i64 t)):=⟨j,k⟩
 clear Y Z j k L N h2 W M E J h1;generalize rs.length=n at a6 hn⊢;generalize r.length=m at a8 hm A;have am:(q:Int)<(n:Int):=oM;have ao:(z:Int)<(m:Int):=oM;have O:Hid _:=Lr.of w ⟨.slice (some ⟨g,o,none⟩) n cr,vk,vf,vt⟩ ⟨V,U,T⟩ f 6 q z c;have X:Hid (∀w,Calls Tryz.prog 71 #[.int .i64 6] w fun e w'=>e=.returned (.agg #[.string ⟨#[108,111,97,100,97,116]⟩,.int .i64 3,.int .i64 4])/\Below w.heap.size w w'):=fun w=>CS 6 w
 have aj:=CZ;go_enter Tryz.func166,Tryz.ntmps166;go_wp2_with fail;refine(X.o _).mono ?_;rintro e a ⟨rfl,Q⟩;have b:Hid _:=O.o.aa Q;clear O Q X;have x0:=b.o.fu.ins.c0;have x1:=b.o.fu.ins.c1;have x2:=b.o.fu.ins.c2;have G:=b.o.fu.prog.c0;have j:a.cell? ⟨g,o+q,none⟩=some (.slice (some ⟨D,F,none⟩) m R):=by rw[b.o.fu.aC.cell (d5 A.o.1)];exact A.o.1
 have k:a.cell? ⟨D,F+z,none⟩=some (.int .i64 t):=by rw[b.o.fu.aC.cell (d5 A.o.2)];exact A.o.2
 have l:=b.o.rb.cell 0;have p:=b.o.rb.cell 1;have z0:=b.o.rb.frozen 0;have z1:=b.o.rb.frozen 1;have aF:w.heap.size+1+1<a.heap.size:=by have:=b.o.rb.lt;omega
 have aH:¬w.heap.size+1+1=a.heap.size:=by have:=b.o.rb.lt;omega
 have aG:w.heap.size+1+1+1<a.heap.size:=b.o.rb.lt;have aI:¬w.heap.size+1+1+1=a.heap.size:=by have:=b.o.rb.lt;omega
 have aJ:¬w.heap.size+1+1+1=a.heap.size+1:=by have:=b.o.rb.lt;omega
 have aL:¬w.heap.size+1+1=a.heap.size+1:=by have:=b.o.rb.lt;omega
 simp only[jZ,i5,i8]at l p;go_wp2_with fail;have d:Below a.heap.size a a.drew:=Ae a;have bt:=AL d x1;have bx:=AL d x2;have aM:=AL d G;have aq:=AL d j;have aA:=AL d k;have aR:=AL d l;have aX:=AL d p;have bH:=(b.o.aa d).rb.frozen 0;have bQ:=(b.o.aa d).rb.frozen 1;have h:Below a.heap.size a (a.alloc (.cells #[.int .i64 3] 2)).drew:=Ac (Aa _ _) lR (Ae _);have bu:=AL h x1;have bz:=AL h x2;have aN:=AL h G;have au:=AL h j;have aD:=AL h k;have aS:=AL h l;have aY:=AL h p;have bI:=(b.o.aa h).rb.frozen 0;have bR:=(b.o.aa h).rb.frozen 1;have i:Below a.heap.size a (a.alloc (.cells #[.int .i64 t] 2)).drew:=Ac (Aa _ _) lR (Ae _);have bw:=AL i x1;have bB:=AL i x2;have aP:=AL i G;have aw:=AL i j;have aE:=AL i k;have aT:=AL i l;have aZ:=AL i p;have bJ:=(b.o.aa i).rb.frozen 0;have bS:=(b.o.aa i).rb.frozen 1;have u:Below a.heap.size a ((a.alloc (.cells #[.int .i64 3] 2)).alloc (.cells #[.int .i64 t] 2)).drew:=Ac (Ac (Aa _ _) lR (Aa _ _)) lR (Ae _);have aU:=AL u l;have bp:=AL u p;have bK:=(b.o.aa u).rb.frozen 0;have bT:=(b.o.aa u).rb.frozen 1;have s:Below a.heap.size a ((a.alloc (.cells #[.int .i64 t] 2)).alloc (.cells #[.int .i64 3] 2)).drew:=Ac (Ac (Aa _ _) lR (Aa _ _)) lR (Ae _);have aQ:=AL s l;have aW:=AL s p;have bF:=(b.o.aa s).rb.frozen 0;have bL:=(b.o.aa s).rb.frozen 1;have H:Aw (((a.setCell ⟨w.heap.size+1+1+1,0,none⟩ (.slice (some ⟨a.heap.size,0,none⟩) 1 1)).alloc (.cells #[.int .i64 3] 2)).alloc (.cells #[.int .i64 t] 2)).drew (w.heap.size+1+1+1) _ _:=(b.o.rb.set 0 (.slice (some ⟨a.heap.size,0,none⟩) 1 1)).aa (Ac (Ac (Aa _ _) lR (Aa _ _)) lR (Ae _));have ae:=H.cell 1
 have bO:=H.frozen 1;simp only[kI,kX,jZ,i5,i8]at ae;clear H;have I:Aw (((a.setCell ⟨w.heap.size+1+1+1,0,none⟩ (.slice (some ⟨a.heap.size+1,0,none⟩) 1 1)).alloc (.cells #[.int .i64 t] 2)).alloc (.cells #[.int .i64 3] 2)).drew (w.heap.size+1+1+1) _ _:=(b.o.rb.set 0 (.slice (some ⟨a.heap.size+1,0,none⟩) 1 1)).aa (Ac (Ac (Aa _ _) lR (Aa _ _)) lR (Ae _));have ah:=I.cell 1;have bP:=I.frozen 1;simp only[kI,kX,jZ,i5,i8]at ah;clear I;clear d h i u s;clear x0 x1 x2 G j k l p z0 z1;go_region_law (fail);all_goals
  go_wp2_with fail;first
  | (obtain⟨K,B,C⟩:=He b.o [3] [t] _ rfl
     simp only[Ad,kG,lG,kL,kf,kY,kp,ki]at B C;exact i6 (v:=.agg #[.slice (some ⟨a.heap.size,0,none⟩) 1 1,.slice (some ⟨a.heap.size+1,0,none⟩) 1 1]) (by simp[results,Tryz.results166,go_sem,B,C]) rfl K.drew)
  | (obtain⟨K,B,C⟩:=Uu b.o [3] [t] _ rfl
     simp only[Ad,kG,lG,kL,kf,kY,kp,ki]at B C;exact i6 (v:=.agg #[.slice (some ⟨a.heap.size+1,0,none⟩) 1 1,.slice (some ⟨a.heap.size,0,none⟩) 1 1]) (by simp[results,Tryz.results166,go_sem,B,C]) rfl K.drew)
end Go.Proofs.YthjbicggfnnonaaGreatDoor
