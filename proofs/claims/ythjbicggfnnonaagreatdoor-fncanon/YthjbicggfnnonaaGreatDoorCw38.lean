import Derived.Test.YthjbicggfnnonaaGreatDoorCw21
namespace Go.Proofs.YthjbicggfnnonaaGreatDoor
open Go.ChangeShapes Go.WideShapes Go.ChangeAt Go.RowKit
set_option linter.unusedVariables false
set_option maxHeartbeats 4000000
set_option maxRecDepth 100000
theorem DY.drew{w U:World}{ts a:List Int}{e:Ending}(h:DY w ts a e U):DY w ts a e U.drew:=by obtain⟨t,s,b,h1,h2,c⟩:=h;exact⟨t,s,b,h1.aa (Ae U) lR,h2.aa (Ae U) lR,Ac c lR (Ae U)⟩
theorem Uu{w u:World}{v:VP}{g:VF}{f:MF}{op a b c:Int}(h:Lr w u v g f op a b c)(ts:List Int)(d:List Int)(U:World)(t:U=((((u.setCell ⟨w.heap.size+1+1+1,0,none⟩ (.slice (some ⟨u.heap.size+1,0,none⟩) ts.length ts.length)).setCell ⟨w.heap.size+1+1+1,1,none⟩ (.slice (some ⟨u.heap.size,0,none⟩) d.length d.length)).alloc (.cells (d.flatMap Ad).toArray 2)).alloc (.cells (ts.flatMap Ad).toArray 2))):
 DY w ts d (.returned (.agg #[.slice (some ⟨u.heap.size+1,0,none⟩) ts.length ts.length,.slice (some ⟨u.heap.size,0,none⟩) d.length d.length])) U/\U.cell? ⟨w.heap.size+1+1+1,0,none⟩=some (.slice (some ⟨u.heap.size+1,0,none⟩) ts.length ts.length)/\U.cell? ⟨w.heap.size+1+1+1,1,none⟩=some (.slice (some ⟨u.heap.size,0,none⟩) d.length d.length):=by
 subst t;have r:=(h.rb.set 0 (.slice (some ⟨u.heap.size+1,0,none⟩) ts.length ts.length)).set 1 (.slice (some ⟨u.heap.size,0,none⟩) d.length d.length);have k:=r.cell 0;have l:=r.cell 1;simp only[kI,kX,kb,jZ,i5,i8]at k l;have bel:Below w.heap.size w ((u.setCell ⟨w.heap.size+1+1+1,0,none⟩ (.slice (some ⟨u.heap.size+1,0,none⟩) ts.length ts.length)).setCell ⟨w.heap.size+1+1+1,1,none⟩ (.slice (some ⟨u.heap.size,0,none⟩) d.length d.length)):=(h.fu.aC.setCell oS _).setCell oS _;have q:((u.setCell ⟨w.heap.size+1+1+1,0,none⟩ (.slice (some ⟨u.heap.size+1,0,none⟩) ts.length ts.length)).setCell ⟨w.heap.size+1+1+1,1,none⟩ (.slice (some ⟨u.heap.size,0,none⟩) d.length d.length)).heap.size=u.heap.size:=by simp only[lM]
 generalize ((u.setCell ⟨w.heap.size+1+1+1,0,none⟩ (.slice (some ⟨u.heap.size+1,0,none⟩) ts.length ts.length)).setCell ⟨w.heap.size+1+1+1,1,none⟩ (.slice (some ⟨u.heap.size,0,none⟩) d.length d.length))=j at k l bel q⊢;have m:=JK j d;have s:(j.alloc (.cells (d.flatMap Ad).toArray 2)).heap.size=u.heap.size+1:=by simp[q]
 have i:=Aa j (.cells (d.flatMap Ad).toArray 2);rw[q]at m;generalize j.alloc (.cells (d.flatMap Ad).toArray 2)=p at m s i⊢;have n:=JK p ts;have e:=Aa p (.cells (ts.flatMap Ad).toArray 2);rw[s]at n;generalize p.alloc (.cells (ts.flatMap Ad).toArray 2)=x at n e⊢;exact⟨⟨_,_,rfl,n,(m.aa e lR),(Ac (Ac bel lR i) lR e)⟩,(AL e (AL i k)),(AL e (AL i l))⟩
theorem UG(A z B s r p:Value)(f:MF)(h:List MC)(l:Option Addr)(i q:Nat)(y:MC)(b c:Int)(w:World)(J:h.length<=1048576)(H:Rd w 2 (.slice l h.length i) h.length (h.flatMap MC.cells))(t:h[q]?=some y):
 Calls Tryz.prog 166 #[.agg #[A,.slice l h.length i,z,B],.agg #[s,.int .i64 f.result,r,p],.agg #[.int .i64 1,.int .i64 q,.int .i64 b,.int .i64 c]] w (DY w [] [y.type]):=by
 have I:=(d7.1 t).1;rcases H.2 with⟨N,_⟩|⟨g,o,c',m,F⟩
 . omega
 simp only[ip,kU]at m;obtain⟨rfl,rfl⟩:=m;have j:=Rd.elem MC.aK F q y t 0 _ rfl;rw[kD]at j;have k:Hid (w.cell? ⟨g,o+q*2,none⟩=some (.int .i64 y.type)):=j;generalize h.length=n at I J⊢;have P:(q:Int)<(n:Int):=oM;have C:Hid _:=Lr.of w ⟨A,.slice (some ⟨g,o,none⟩) n i,z,B⟩ ⟨s,r,p⟩ f 1 q b c;have E:Hid (∀w,Calls Tryz.prog 71 #[.int .i64 1] w fun e M=>e=.returned (.agg #[.string ⟨#[99,111,110,115,116]⟩,.int .i64 1,.int .i64 1])/\Below w.heap.size w M):=fun w=>CS 1 w
 have O:=CZ;go_enter Tryz.func166,Tryz.ntmps166;go_wp2_with fail;refine(E.o _).mono ?_;rintro e d ⟨rfl,D⟩;have a:Hid _:=C.o.aa D;have X:=a.o.fu.ins.c0;have x1:=a.o.fu.ins.c1;have x2:=a.o.fu.ins.c2;have W:=a.o.fu.prog.c1;have j:d.cell? ⟨g,o+q*2,none⟩=some (.int .i64 y.type):=by rw[a.o.fu.aC.cell (d5 k.o)];exact k.o
 have K:=a.o.rb.cell 0;have L:=a.o.rb.cell 1;have Y:=a.o.rb.frozen 0;have Z:=a.o.rb.frozen 1;have Q:w.heap.size+1+1<d.heap.size:=by have:=a.o.rb.lt;omega
 have S:¬w.heap.size+1+1=d.heap.size:=by have:=a.o.rb.lt;omega
 have R:w.heap.size+1+1+1<d.heap.size:=a.o.rb.lt;have T:¬w.heap.size+1+1+1=d.heap.size:=by have:=a.o.rb.lt;omega
 have U:¬w.heap.size+1+1+1=d.heap.size+1:=by have:=a.o.rb.lt;omega
 have V:¬w.heap.size+1+1=d.heap.size+1:=by have:=a.o.rb.lt;omega
 simp only[jZ,i5,i8]at K L;go_wp2_with fail;obtain⟨G,u,x⟩:=RZ a.o [y.type] _ rfl;simp only[Ad,kG,lG,kL,kf,kY,kp,ki]at u x;exact i6 (v:=.agg #[.slice none 0 0,.slice (some ⟨d.heap.size,0,none⟩) 1 1]) (by simp[results,Tryz.results166,go_sem,u,x]) rfl G
theorem UH(s vk r t:Value)(g:VF)(f:MF)(a b c:Int)(w:World)(H:f.small)(E:Cr a)(h:IG w g f):
 Calls Tryz.prog 166 #[.agg #[s,vk,r,t],.agg #[g.p,.int .i64 f.result,g.l,g.c],.agg #[.int .i64 2,.int .i64 a,.int .i64 b,.int .i64 c]] w (DY w [] [AR f a]):=by
 have m:Hid (∀u,Below w.heap.size w u->Calls Tryz.prog 72 #[.agg #[g.p,.int .i64 f.result,g.l,g.c],.int .i64 a] u fun e k=>e=.returned (.int .i64 (AR f a))/\Below u.heap.size u k):=fun u F=>DS g f a u H E (h.aa F lR)
 obtain⟨C,B,A⟩:=g;simp only[]at m;have x:Hid _:=Lr.of w ⟨s,vk,r,t⟩ ⟨C,B,A⟩ f 2 a b c;have D:Hid (∀w,Calls Tryz.prog 71 #[.int .i64 2] w fun e k=>e=.returned (.agg #[.string ⟨#[108,111,97,100,108,111,99,97,108]⟩,.int .i64 1,.int .i64 2])/\Below w.heap.size w k):=fun w=>CS 2 w
 have K:=CZ;go_enter Tryz.func166,Tryz.ntmps166;go_wp2_with fail;refine(D.o _).mono ?_;rintro e R ⟨rfl,y⟩;have i:Hid _:=x.o.aa y;have S:=i.o.fu.ins.c0;have x1:=i.o.fu.ins.c1;have x2:=i.o.fu.ins.c2;have T:=i.o.fu.func.c0;have U:=i.o.fu.func.c1;have V:=i.o.fu.func.c2;have W:=i.o.fu.func.c3;go_wp2_with fail;refine(m.o _ i.o.fu.aC).mono ?_;rintro e j ⟨rfl,z⟩;have d:Hid _:=i.o.aa z;have I:=d.o.rb.cell 0;have J:=d.o.rb.cell 1;have X:=d.o.rb.frozen 0;have Y:=d.o.rb.frozen 1;have L:w.heap.size+1+1<j.heap.size:=by have:=d.o.rb.lt;omega
 have N:¬w.heap.size+1+1=j.heap.size:=by have:=d.o.rb.lt;omega
 have M:w.heap.size+1+1+1<j.heap.size:=d.o.rb.lt;have O:¬w.heap.size+1+1+1=j.heap.size:=by have:=d.o.rb.lt;omega
 have P:¬w.heap.size+1+1+1=j.heap.size+1:=by have:=d.o.rb.lt;omega
 have Q:¬w.heap.size+1+1=j.heap.size+1:=by have:=d.o.rb.lt;omega
 simp only[jZ,i5,i8]at I J;go_wp2_with fail;obtain⟨G,n,q⟩:=RZ d.o [AR f a] _ rfl;simp only[Ad,kG,lG,kL,kf,kY,kp,ki]at n q;exact i6 (v:=.agg #[.slice none 0 0,.slice (some ⟨j.heap.size,0,none⟩) 1 1]) (by simp[results,Tryz.results166,go_sem,n,q]) rfl G
theorem UI(s vk r t:Value)(g:VF)(f:MF)(a b c:Int)(w:World)(H:f.small)(E:Cr a)(h:IG w g f):
 Calls Tryz.prog 166 #[.agg #[s,vk,r,t],.agg #[g.p,.int .i64 f.result,g.l,g.c],.agg #[.int .i64 3,.int .i64 a,.int .i64 b,.int .i64 c]] w (DY w [AR f a] []):=by
 have m:Hid (∀u,Below w.heap.size w u->Calls Tryz.prog 72 #[.agg #[g.p,.int .i64 f.result,g.l,g.c],.int .i64 a] u fun e k=>e=.returned (.int .i64 (AR f a))/\Below u.heap.size u k):=fun u F=>DS g f a u H E (h.aa F lR)
 obtain⟨C,B,A⟩:=g;simp only[]at m;have x:Hid _:=Lr.of w ⟨s,vk,r,t⟩ ⟨C,B,A⟩ f 3 a b c;have D:Hid (∀w,Calls Tryz.prog 71 #[.int .i64 3] w fun e k=>e=.returned (.agg #[.string ⟨#[115,116,111,114,101,108,111,99,97,108]⟩,.int .i64 1,.int .i64 2])/\Below w.heap.size w k):=fun w=>CS 3 w
 have K:=CZ;go_enter Tryz.func166,Tryz.ntmps166;go_wp2_with fail;refine(D.o _).mono ?_;rintro e R ⟨rfl,y⟩;have i:Hid _:=x.o.aa y;have S:=i.o.fu.ins.c0;have x1:=i.o.fu.ins.c1;have x2:=i.o.fu.ins.c2;have T:=i.o.fu.func.c0;have U:=i.o.fu.func.c1;have V:=i.o.fu.func.c2;have W:=i.o.fu.func.c3;go_wp2_with fail;refine(m.o _ i.o.fu.aC).mono ?_;rintro e j ⟨rfl,z⟩;have d:Hid _:=i.o.aa z;have I:=d.o.rb.cell 0;have J:=d.o.rb.cell 1;have X:=d.o.rb.frozen 0;have Y:=d.o.rb.frozen 1;have L:w.heap.size+1+1<j.heap.size:=by have:=d.o.rb.lt;omega
 have N:¬w.heap.size+1+1=j.heap.size:=by have:=d.o.rb.lt;omega
 have M:w.heap.size+1+1+1<j.heap.size:=d.o.rb.lt;have O:¬w.heap.size+1+1+1=j.heap.size:=by have:=d.o.rb.lt;omega
 have P:¬w.heap.size+1+1+1=j.heap.size+1:=by have:=d.o.rb.lt;omega
 have Q:¬w.heap.size+1+1=j.heap.size+1:=by have:=d.o.rb.lt;omega
 simp only[jZ,i5,i8]at I J;go_wp2_with fail;obtain⟨G,n,q⟩:=NI d.o [AR f a] _ rfl;simp only[Ad,kG,lG,kL,kf,kY,kp,ki]at n q;exact i6 (v:=.agg #[.slice (some ⟨j.heap.size,0,none⟩) 1 1,.slice none 0 0]) (by simp[results,Tryz.results166,go_sem,n,q]) rfl G
theorem UJ(vk P Q I H G:Value)(f:MF)(rs:List (List Int))(C:Option Addr)(cr q z:Nat)(r:List Int)(t:Int)(c:Int)(w:World)(hn:rs.length<=1048576)(hm:r.length<=1048576)(hr:OR w (.slice C rs.length cr) rs)(K:rs[q]?=some r)(M:r[z]?=some t):
 Calls Tryz.prog 166 #[.agg #[.slice C rs.length cr,vk,P,Q],.agg #[I,.int .i64 f.result,H,G],.agg #[.int .i64 4,.int .i64 q,.int .i64 z,.int .i64 c]] w (DY w [] [t]):=by
 obtain⟨xs,h1,h2,U⟩:=hr;have J:=(d7.1 K).1;have Z:=(d7.1 M).1;obtain⟨⟨r',y⟩,s⟩:∃x,xs[q]?=some x:=⟨_,an (by rw[<-kZ (f:=Prod.fst),h1];exact J)⟩;have F:=CK h1 s;rw[K]at F;obtain rfl:r=r':=kH F;have L:=U _ (d9 s);simp only[]at L;rcases h2.2 with⟨T,_⟩|⟨g,o,c',E,W⟩
 . omega
 simp only[ip,kU]at E;obtain⟨rfl,rfl⟩:=E;have i:=Rd.elem Bc W q _ s 0 _ rfl;rw[kn,kD]at i;simp only[]at i;rcases L.2 with⟨T,_⟩|⟨k,p,D,rfl,X⟩
 . omega
 have l:=Rd.elem Ar X z _ M 0 _ rfl;rw[kn,kD]at l;have h:Hid (w.cell? ⟨g,o+q,none⟩=some (.slice (some ⟨k,p,none⟩) r.length D)/\w.cell? ⟨k,p+z,none⟩=some (.int .i64 t)):=⟨i,l⟩
 generalize rs.length=n at J hn⊢;generalize r.length=m at Z hm h;have ae:(q:Int)<(n:Int):=oM;have ah:(z:Int)<(m:Int):=oM;have R:Hid _:=Lr.of w ⟨.slice (some ⟨g,o,none⟩) n cr,vk,P,Q⟩ ⟨I,H,G⟩ f 4 q z c;have V:Hid (∀w,Calls Tryz.prog 71 #[.int .i64 4] w fun e w'=>e=.returned (.agg #[.string ⟨#[108,111,97,100]⟩,.int .i64 2,.int .i64 3])/\Below w.heap.size w w'):=fun w=>CS 4 w
 have a8:=CZ;go_enter Tryz.func166,Tryz.ntmps166;go_wp2_with fail;refine(V.o _).mono ?_;rintro e b ⟨rfl,S⟩;have a:Hid _:=R.o.aa S;have x0:=a.o.fu.ins.c0;have x1:=a.o.fu.ins.c1;have x2:=a.o.fu.ins.c2;have p0:=a.o.fu.prog.c0;have i:b.cell? ⟨g,o+q,none⟩=some (.slice (some ⟨k,p,none⟩) m D):=by rw[a.o.fu.aC.cell (d5 h.o.1)];exact h.o.1
 have l:b.cell? ⟨k,p+z,none⟩=some (.int .i64 t):=by rw[a.o.fu.aC.cell (d5 h.o.2)];exact h.o.2
 have u:=a.o.rb.cell 0;have A:=a.o.rb.cell 1;have z0:=a.o.rb.frozen 0;have z1:=a.o.rb.frozen 1;have ao:w.heap.size+1+1<b.heap.size:=by have:=a.o.rb.lt;omega
 have au:¬w.heap.size+1+1=b.heap.size:=by have:=a.o.rb.lt;omega
 have aq:w.heap.size+1+1+1<b.heap.size:=a.o.rb.lt;have aw:¬w.heap.size+1+1+1=b.heap.size:=by have:=a.o.rb.lt;omega
 have aA:¬w.heap.size+1+1+1=b.heap.size+1:=by have:=a.o.rb.lt;omega
 have aD:¬w.heap.size+1+1=b.heap.size+1:=by have:=a.o.rb.lt;omega
 simp only[jZ,i5,i8]at u A;go_wp2_with fail;have d:Below b.heap.size b b.drew:=Ae b;have aJ:=AL d x1;have aL:=AL d x2;have aE:=AL d p0;have aj:=AL d i;have am:=AL d l;have aF:=AL d u;have aH:=AL d A;have aM:=(a.o.aa d).rb.frozen 0;have aP:=(a.o.aa d).rb.frozen 1;have j:Below b.heap.size b (b.alloc (.cells #[.int .i64 t] 2)).drew:=Ac (Aa _ _) lR (Ae _);have aG:=AL j u;have aI:=AL j A;have aN:=(a.o.aa j).rb.frozen 0;have aQ:=(a.o.aa j).rb.frozen 1;have B:Aw ((b.setCell ⟨w.heap.size+1+1+1,0,none⟩ (.slice none 0 0)).alloc (.cells #[.int .i64 t] 2)).drew (w.heap.size+1+1+1) _ _:=(a.o.rb.set 0 (.slice none 0 0)).aa (Ac (Aa _ _) lR (Ae _));have a6:=B.cell 1;have aR:=B.frozen 1;simp only[kI,kX,jZ,i5,i8]at a6;go_region_law (fail);all_goals
  go_wp2_with fail;obtain⟨Y,N,O⟩:=RZ a.o [t] _ rfl;simp only[Ad,kG,lG,kL,kf,kY,kp,ki]at N O;exact i6 (v:=.agg #[.slice none 0 0,.slice (some ⟨b.heap.size,0,none⟩) 1 1]) (by simp[results,Tryz.results166,go_sem,N,O]) rfl Y.drew
theorem UK(vk O P G F E:Value)(f:MF)(rs:List (List Int))(A:Option Addr)(cr q z:Nat)(r:List Int)(t:Int)(c:Int)(w:World)(hn:rs.length<=1048576)(hm:r.length<=1048576)(hr:OR w (.slice A rs.length cr) rs)(I:rs[q]?=some r)(K:r[z]?=some t):
 Calls Tryz.prog 166 #[.agg #[.slice A rs.length cr,vk,O,P],.agg #[G,.int .i64 f.result,F,E],.agg #[.int .i64 5,.int .i64 q,.int .i64 z,.int .i64 c]] w (DY w [t] []):=by
 obtain⟨xs,h1,h2,U⟩:=hr;have H:=(d7.1 I).1;have Z:=(d7.1 K).1;obtain⟨⟨r',y⟩,l⟩:∃x,xs[q]?=some x:=⟨_,an (by rw[<-kZ (f:=Prod.fst),h1];exact H)⟩;have C:=CK h1 l;rw[I]at C;obtain rfl:r=r':=kH C;have J:=U _ (d9 l);simp only[]at J;rcases h2.2 with⟨T,_⟩|⟨g,o,c',B,W⟩
 . omega
 simp only[ip,kU]at B;obtain⟨rfl,rfl⟩:=B;have i:=Rd.elem Bc W q _ l 0 _ rfl;rw[kn,kD]at i;simp only[]at i;rcases J.2 with⟨T,_⟩|⟨D,L,S,rfl,X⟩
 . omega
 have k:=Rd.elem Ar X z _ K 0 _ rfl;rw[kn,kD]at k;have h:=Ag (f7 i k);generalize rs.length=n at H hn⊢;generalize r.length=m at Z hm h;have ae:(q:Int)<(n:Int):=oM;have ah:(z:Int)<(m:Int):=oM;have Q:Hid _:=Lr.of w ⟨.slice (some ⟨g,o,none⟩) n cr,vk,O,P⟩ ⟨G,F,E⟩ f 5 q z c;have V:Hid (∀w,Calls Tryz.prog 71 #[.int .i64 5] w fun e w'=>e=.returned (.agg #[.string ⟨#[115,116,111,114,101]⟩,.int .i64 2,.int .i64 3])/\Below w.heap.size w w'):=fun w=>CS 5 w
 have a8:=CZ;go_enter Tryz.func166,Tryz.ntmps166;go_wp2_with fail;refine(V.o _).mono ?_;rintro e b ⟨rfl,R⟩;have a:Hid _:=Q.o.aa R;have x0:=a.o.fu.ins.c0;have x1:=a.o.fu.ins.c1;have x2:=a.o.fu.ins.c2;have p0:=a.o.fu.prog.c0;have i:b.cell? ⟨g,o+q,none⟩=some (.slice (some ⟨D,L,none⟩) m S):=by rw[a.o.fu.aC.cell (d5 h.o.1)];exact h.o.1
 have k:b.cell? ⟨D,L+z,none⟩=some (.int .i64 t):=by rw[a.o.fu.aC.cell (d5 h.o.2)];exact h.o.2
 have p:=a.o.rb.cell 0;have s:=a.o.rb.cell 1;have z0:=a.o.rb.frozen 0;have z1:=a.o.rb.frozen 1;have ao:w.heap.size+1+1<b.heap.size:=by have:=a.o.rb.lt;omega
 have au:¬w.heap.size+1+1=b.heap.size:=by have:=a.o.rb.lt;omega
 have aq:w.heap.size+1+1+1<b.heap.size:=a.o.rb.lt;have aw:¬w.heap.size+1+1+1=b.heap.size:=by have:=a.o.rb.lt;omega
 have aA:¬w.heap.size+1+1+1=b.heap.size+1:=by have:=a.o.rb.lt;omega
 have aD:¬w.heap.size+1+1=b.heap.size+1:=by have:=a.o.rb.lt;omega
 simp only[jZ,i5,i8]at p s;go_wp2_with fail;have d:Below b.heap.size b b.drew:=Ae b;have aJ:=AL d x1;have aL:=AL d x2;have aE:=AL d p0;have aj:=AL d i;have am:=AL d k;have aF:=AL d p;have aH:=AL d s;have aM:=(a.o.aa d).rb.frozen 0;have aP:=(a.o.aa d).rb.frozen 1;have j:Below b.heap.size b (b.alloc (.cells #[.int .i64 t] 2)).drew:=Ac (Aa _ _) lR (Ae _);have aG:=AL j p;have aI:=AL j s;have aN:=(a.o.aa j).rb.frozen 0;have aQ:=(a.o.aa j).rb.frozen 1;have u:Aw ((b.setCell ⟨w.heap.size+1+1+1,0,none⟩ (.slice (some ⟨b.heap.size,0,none⟩) 1 1)).alloc (.cells #[.int .i64 t] 2)).drew (w.heap.size+1+1+1) _ _:=(a.o.rb.set 0 (.slice (some ⟨b.heap.size,0,none⟩) 1 1)).aa (Ac (Aa _ _) lR (Ae _));have a6:=u.cell 1;have aR:=u.frozen 1;simp only[kI,kX,jZ,i5,i8]at a6;go_region_law (fail);all_goals
  go_wp2_with fail;obtain⟨Y,M,N⟩:=NI a.o [t] _ rfl;simp only[Ad,kG,lG,kL,kf,kY,kp,ki]at M N;exact i6 (v:=.agg #[.slice (some ⟨b.heap.size,0,none⟩) 1 1,.slice none 0 0]) (by simp[results,Tryz.results166,go_sem,M,N]) rfl Y.drew
theorem UM(vk P Q I H G:Value)(f:MF)(rs:List (List Int))(C:Option Addr)(cr q z:Nat)(r:List Int)(t:Int)(c:Int)(w:World)(hn:rs.length<=1048576)(hm:r.length<=1048576)(hr:OR w (.slice C rs.length cr) rs)(K:rs[q]?=some r)(M:r[z]?=some t):
 Calls Tryz.prog 166 #[.agg #[.slice C rs.length cr,vk,P,Q],.agg #[I,.int .i64 f.result,H,G],.agg #[.int .i64 7,.int .i64 q,.int .i64 z,.int .i64 c]] w (DY w [3,t] []):=by
 obtain⟨xs,h1,h2,U⟩:=hr;have J:=(d7.1 K).1;have Z:=(d7.1 M).1;obtain⟨⟨r',y⟩,s⟩:∃x,xs[q]?=some x:=⟨_,an (by rw[<-kZ (f:=Prod.fst),h1];exact J)⟩;have F:=CK h1 s;rw[K]at F;obtain rfl:r=r':=kH F;have L:=U _ (d9 s);simp only[]at L;rcases h2.2 with⟨T,_⟩|⟨g,o,c',E,W⟩
 . omega
 simp only[ip,kU]at E;obtain⟨rfl,rfl⟩:=E;have i:=Rd.elem Bc W q _ s 0 _ rfl;rw[kn,kD]at i;simp only[]at i;rcases L.2 with⟨T,_⟩|⟨k,p,D,rfl,X⟩
 . omega
 have l:=Rd.elem Ar X z _ M 0 _ rfl;rw[kn,kD]at l;have h:Hid (w.cell? ⟨g,o+q,none⟩=some (.slice (some ⟨k,p,none⟩) r.length D)/\w.cell? ⟨k,p+z,none⟩=some (.int .i64 t)):=⟨i,l⟩
 generalize rs.length=n at J hn⊢;generalize r.length=m at Z hm h;have ae:(q:Int)<(n:Int):=oM;have ah:(z:Int)<(m:Int):=oM;have R:Hid _:=Lr.of w ⟨.slice (some ⟨g,o,none⟩) n cr,vk,P,Q⟩ ⟨I,H,G⟩ f 7 q z c;have V:Hid (∀w,Calls Tryz.prog 71 #[.int .i64 7] w fun e w'=>e=.returned (.agg #[.string ⟨#[115,116,111,114,101,97,116]⟩,.int .i64 3,.int .i64 4])/\Below w.heap.size w w'):=fun w=>CS 7 w
 have a8:=CZ;go_enter Tryz.func166,Tryz.ntmps166;go_wp2_with fail;refine(V.o _).mono ?_;rintro e b ⟨rfl,S⟩;have a:Hid _:=R.o.aa S;have x0:=a.o.fu.ins.c0;have x1:=a.o.fu.ins.c1;have x2:=a.o.fu.ins.c2;have p0:=a.o.fu.prog.c0;have i:b.cell? ⟨g,o+q,none⟩=some (.slice (some ⟨k,p,none⟩) m D):=by rw[a.o.fu.aC.cell (d5 h.o.1)];exact h.o.1
 have l:b.cell? ⟨k,p+z,none⟩=some (.int .i64 t):=by rw[a.o.fu.aC.cell (d5 h.o.2)];exact h.o.2
 have u:=a.o.rb.cell 0;have A:=a.o.rb.cell 1;have z0:=a.o.rb.frozen 0;have z1:=a.o.rb.frozen 1;have ao:w.heap.size+1+1<b.heap.size:=by have:=a.o.rb.lt;omega
 have au:¬w.heap.size+1+1=b.heap.size:=by have:=a.o.rb.lt;omega
 have aq:w.heap.size+1+1+1<b.heap.size:=a.o.rb.lt;have aw:¬w.heap.size+1+1+1=b.heap.size:=by have:=a.o.rb.lt;omega
 have aA:¬w.heap.size+1+1+1=b.heap.size+1:=by have:=a.o.rb.lt;omega
 have aD:¬w.heap.size+1+1=b.heap.size+1:=by have:=a.o.rb.lt;omega
 simp only[jZ,i5,i8]at u A;go_wp2_with fail;have d:Below b.heap.size b b.drew:=Ae b;have aJ:=AL d x1;have aL:=AL d x2;have aE:=AL d p0;have aj:=AL d i;have am:=AL d l;have aF:=AL d u;have aH:=AL d A;have aM:=(a.o.aa d).rb.frozen 0;have aP:=(a.o.aa d).rb.frozen 1;have j:Below b.heap.size b (b.alloc (.cells #[.int .i64 3,.int .i64 t] 2)).drew:=Ac (Aa _ _) lR (Ae _);have aG:=AL j u;have aI:=AL j A;have aN:=(a.o.aa j).rb.frozen 0;have aQ:=(a.o.aa j).rb.frozen 1;have B:Aw ((b.setCell ⟨w.heap.size+1+1+1,0,none⟩ (.slice (some ⟨b.heap.size,0,none⟩) 2 2)).alloc (.cells #[.int .i64 3,.int .i64 t] 2)).drew (w.heap.size+1+1+1) _ _:=(a.o.rb.set 0 (.slice (some ⟨b.heap.size,0,none⟩) 2 2)).aa (Ac (Aa _ _) lR (Ae _));have a6:=B.cell 1;have aR:=B.frozen 1;simp only[kI,kX,jZ,i5,i8]at a6;go_region_law (fail);all_goals
  go_wp2_with fail;obtain⟨Y,N,O⟩:=NI a.o [3,t] _ rfl;simp only[Ad,kG,lG,kL,kf,kY,kp,ki,Nat.reduceAdd]at N O;exact i6 (v:=.agg #[.slice (some ⟨b.heap.size,0,none⟩) 2 2,.slice none 0 0]) (by simp[results,Tryz.results166,go_sem,N,O]) rfl Y.drew
end Go.Proofs.YthjbicggfnnonaaGreatDoor
