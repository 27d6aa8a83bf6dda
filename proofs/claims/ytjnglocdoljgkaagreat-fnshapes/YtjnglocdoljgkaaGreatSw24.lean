import Derived.Test.YtjnglocdoljgkaaGreatSw17
namespace Go.Proofs.YtjnglocdoljgkaaGreat
open Go.ChangeShapes Go.WideShapes Go.ChangeAt Go.RowKit
set_option linter.unusedVariables false
open Go.Value renaming slice → Z,int → Ac
open Option renaming some → K,none → M
open Go renaming Value → J,World → Y,Calls → Ae
open Go.RowKit renaming Hid → Aa,Below → Ad
open Go.IntKind renaming i64 → Ab
set_option maxHeartbeats 4000000
set_option maxRecDepth 100000
theorem DH.drew{w U:Y}{ts gs:List Int}{e:Ending}(h:DH w ts gs e U):DH w ts gs e U.drew:=by obtain⟨t,s,a,h1,h2,b⟩:=h;exact⟨t,s,a,h1.bM (Aj U) lR,h2.bM (Aj U) lR,Ai b lR (Aj U)⟩
theorem WB{w u:Y}{v:VP}{g:VF}{f:MF}{op a b c:Int}(h:LH w u v g f op a b c)(ts:List Int)(gs:List Int)(U:Y)(t:U=((((u.setCell ⟨(w:Nat)+1+1+1,0,M⟩ (Z (K ⟨(u:Nat)+1,0,M⟩) ts ts)).setCell ⟨(w:Nat)+1+1+1,1,M⟩ (Z u gs gs)).alloc (.cells (gs.flatMap Ah).toArray 2)).alloc (.cells (ts.flatMap Ah).toArray 2))):
 DH w ts gs (.returned (.agg #[Z (K ⟨(u:Nat)+1,0,M⟩) ts ts,Z u gs gs])) U/\U.cell? ⟨(w:Nat)+1+1+1,0,M⟩=K (Z (K ⟨(u:Nat)+1,0,M⟩) ts ts)/\U.cell? ⟨(w:Nat)+1+1+1,1,M⟩=K (Z u gs gs):=by
 subst t;have r:=(h.rb.set 0 (Z (K ⟨(u:Nat)+1,0,M⟩) ts ts)).set 1 (Z u gs gs);have k:=r.cell 0;have l:=r.cell 1;simp only[kV,lI,lM,kL,jt,kI]at k l;have bel:Ad w w ((u.setCell ⟨(w:Nat)+1+1+1,0,M⟩ (Z (K ⟨(u:Nat)+1,0,M⟩) ts ts)).setCell ⟨(w:Nat)+1+1+1,1,M⟩ (Z u gs gs)):=(h.gV.gG.setCell oS _).setCell oS _;have q:((u.setCell ⟨(w:Nat)+1+1+1,0,M⟩ (Z (K ⟨(u:Nat)+1,0,M⟩) ts ts)).setCell ⟨(w:Nat)+1+1+1,1,M⟩ (Z u gs gs)).heap.size=u.heap.size:=by simp only[mB]
 generalize ((u.setCell ⟨w.heap.size+1+1+1,0,M⟩ (Z (K ⟨u.heap.size+1,0,M⟩) ts ts)).setCell ⟨w.heap.size+1+1+1,1,M⟩ (Z u gs gs))=j at k l bel q⊢;have m:=JI j gs;have s:(j.alloc (.cells (gs.flatMap Ah).toArray 2)).heap.size= ↑u+1:=by simp[q]
 have i:=Ag j (.cells (gs.flatMap Ah).toArray 2);rw[q]at m;generalize j.alloc (.cells (gs.flatMap Ah).toArray 2)=p at m s i⊢;have n:=JI p ts;have e:=Ag p (.cells (ts.flatMap Ah).toArray 2);rw[s]at n;generalize p.alloc (.cells (ts.flatMap Ah).toArray 2)=y at n e⊢;exact⟨⟨_,_,rfl,n,(m.bM e lR),(Ai (Ai bel lR i) lR e)⟩,(AN e (AN i k)),(AN e (AN i l))⟩
theorem WJ(G F H A z t:J)(f:MF)(cs:List MC)(p:Option Addr)(j q:Nat)(y:MC)(b c:Int)(w:Y)(T:cs.length<=1048576)(R:Rd w 2 (Z p cs j) cs (cs.flatMap MC.cells))(B:cs[q]?=K y):
 Ae Tryz.prog 41 #[.agg #[G,Z p cs j,F,H],.agg #[A,Ac Ab f.gz,z,t],.agg #[Ac Ab 1,Ac Ab q,Ac Ab b,Ac Ab c]] w (DH w [] [y.type]):=by
 have S:=(iV.1 B).1;rcases R.2 with⟨e0,_⟩|⟨g,o,c',s,O⟩
 . omega
 simp only[jc,lO]at s;obtain⟨rfl,rfl⟩:=s;have k:=Rd.elem MC.gH O q y B 0 _ rfl;rw[kZ]at k;have l:Aa (w.cell? ⟨g,o+q*2,M⟩=K (Ac Ab y.type)):=k;generalize cs.length=n at S T⊢;have ae:(q:Int)<(n:Int):=oM;have I:Aa _:=LH.of w ⟨G,Z (K ⟨g,o,M⟩) n j,F,H⟩ ⟨A,z,t⟩ f 1 q b c;have N:Aa (∀w,Ae Tryz.prog 71 #[Ac Ab 1] w λe w'=>e=.returned (.agg #[.string ⟨#[99,111,110,115,116]⟩,Ac Ab 1,Ac Ab 1])/\Ad w w w'):= λw=>CG 1 w
 have a8:=CS;go_enter Tryz.func41,Tryz.ntmps41;go_wp2_with fail;refine(N.o _).mono ?_;rintro e i ⟨rfl,L⟩;have a:Aa _:=I.o.bM L;have x0:=a.o.gV.ins.c0;have x1:=a.o.gV.ins.c1;have x2:=a.o.gV.ins.c2;have p1:=a.o.gV.prog.c1;have k:i.cell? ⟨g,o+q*2,M⟩=K (Ac Ab y.type):=by rw[a.o.gV.gG.cell (jC l.o)];exact l.o
 have W:=a.o.rb.cell 0;have r1:=a.o.rb.cell 1;have z0:=a.o.rb.frozen 0;have z1:=a.o.rb.frozen 1;have ah:(w:Nat)+1+1<i.heap.size:=by have:=a.o.rb.lt;omega
 have am:¬(w:Nat)+1+1=i.heap.size:=by have:=a.o.rb.lt;omega
 have aj:(w:Nat)+1+1+1<i.heap.size:=a.o.rb.lt;have ao:¬(w:Nat)+1+1+1=i.heap.size:=by have:=a.o.rb.lt;omega
 have aq:¬(w:Nat)+1+1+1= ↑i+1:=by have:=a.o.rb.lt;omega
 have au:¬(w:Nat)+1+1= ↑i+1:=by have:=a.o.rb.lt;omega
 simp only[kL,jt,kI]at W r1;go_wp2_with fail;obtain⟨Q,C,D⟩:=Tp a.o [y.type] _ rfl;simp only[Ah,kX,mM,lF,lg,lh,mD,lY]at C D;exact kY (v:=.agg #[Z M 0 0,Z i 1 1]) (by simp[results,Tryz.results41,go_sem,C,D]) rfl Q
theorem WK(t vk s y:J)(g:VF)(f:MF)(a b c:Int)(w:Y)(L:f.small)(G:CO a)(h:Dt w g f):
 Ae Tryz.prog 41 #[.agg #[t,vk,s,y],.agg #[g.p,Ac Ab f.gz,g.l,g.c],.agg #[Ac Ab 2,Ac Ab a,Ac Ab b,Ac Ab c]] w (DH w [] [Ay f a]):=by
 have n:Aa (∀u,Ad w w u->Ae Tryz.prog 42 #[.agg #[g.p,Ac Ab f.gz,g.l,g.c],Ac Ab a] u λe m=>e=.returned (Ac Ab (Ay f a))/\Ad u u m):= λu H=>Ek g f a u L G (h.bM H lR)
 obtain⟨E,D,C⟩:=g;simp only[]at n;have z:Aa _:=LH.of w ⟨t,vk,s,y⟩ ⟨E,D,C⟩ f 2 a b c;have F:Aa (∀w,Ae Tryz.prog 71 #[Ac Ab 2] w λe m=>e=.returned (.agg #[.string ⟨#[108,111,97,100,108,111,99,97,108]⟩,Ac Ab 1,Ac Ab 2])/\Ad w w m):= λw=>CG 2 w
 have P:=CS;go_enter Tryz.func41,Tryz.ntmps41;go_wp2_with fail;refine(F.o _).mono ?_;rintro e W ⟨rfl,A⟩;have j:Aa _:=z.o.bM A;have X:=j.o.gV.ins.c0;have x1:=j.o.gV.ins.c1;have x2:=j.o.gV.ins.c2;have y0:=j.o.gV.func.c0;have y1:=j.o.gV.func.c1;have y2:=j.o.gV.func.c2;have y3:=j.o.gV.func.c3;go_wp2_with fail;refine(n.o _ j.o.gV.gG).mono ?_;rintro e k ⟨rfl,B⟩;have i:Aa _:=j.o.bM B;have N:=i.o.rb.cell 0;have O:=i.o.rb.cell 1;have z0:=i.o.rb.frozen 0;have z1:=i.o.rb.frozen 1;have Q:(w:Nat)+1+1<k.heap.size:=by have:=i.o.rb.lt;omega
 have S:¬(w:Nat)+1+1=k.heap.size:=by have:=i.o.rb.lt;omega
 have R:(w:Nat)+1+1+1<k.heap.size:=i.o.rb.lt;have T:¬(w:Nat)+1+1+1=k.heap.size:=by have:=i.o.rb.lt;omega
 have U:¬(w:Nat)+1+1+1= ↑k+1:=by have:=i.o.rb.lt;omega
 have V:¬(w:Nat)+1+1= ↑k+1:=by have:=i.o.rb.lt;omega
 simp only[kL,jt,kI]at N O;go_wp2_with fail;obtain⟨I,q,r⟩:=Tp i.o [Ay f a] _ rfl;simp only[Ah,kX,mM,lF,lg,lh,mD,lY]at q r;exact kY (v:=.agg #[Z M 0 0,Z k 1 1]) (by simp[results,Tryz.results41,go_sem,q,r]) rfl I
theorem WL(t vk s y:J)(g:VF)(f:MF)(a b c:Int)(w:Y)(L:f.small)(G:CO a)(h:Dt w g f):
 Ae Tryz.prog 41 #[.agg #[t,vk,s,y],.agg #[g.p,Ac Ab f.gz,g.l,g.c],.agg #[Ac Ab 3,Ac Ab a,Ac Ab b,Ac Ab c]] w (DH w [Ay f a] []):=by
 have n:Aa (∀u,Ad w w u->Ae Tryz.prog 42 #[.agg #[g.p,Ac Ab f.gz,g.l,g.c],Ac Ab a] u λe m=>e=.returned (Ac Ab (Ay f a))/\Ad u u m):= λu H=>Ek g f a u L G (h.bM H lR)
 obtain⟨E,D,C⟩:=g;simp only[]at n;have z:Aa _:=LH.of w ⟨t,vk,s,y⟩ ⟨E,D,C⟩ f 3 a b c;have F:Aa (∀w,Ae Tryz.prog 71 #[Ac Ab 3] w λe m=>e=.returned (.agg #[.string ⟨#[115,116,111,114,101,108,111,99,97,108]⟩,Ac Ab 1,Ac Ab 2])/\Ad w w m):= λw=>CG 3 w
 have P:=CS;go_enter Tryz.func41,Tryz.ntmps41;go_wp2_with fail;refine(F.o _).mono ?_;rintro e W ⟨rfl,A⟩;have j:Aa _:=z.o.bM A;have X:=j.o.gV.ins.c0;have x1:=j.o.gV.ins.c1;have x2:=j.o.gV.ins.c2;have y0:=j.o.gV.func.c0;have y1:=j.o.gV.func.c1;have y2:=j.o.gV.func.c2;have y3:=j.o.gV.func.c3;go_wp2_with fail;refine(n.o _ j.o.gV.gG).mono ?_;rintro e k ⟨rfl,B⟩;have i:Aa _:=j.o.bM B;have N:=i.o.rb.cell 0;have O:=i.o.rb.cell 1;have z0:=i.o.rb.frozen 0;have z1:=i.o.rb.frozen 1;have Q:(w:Nat)+1+1<k.heap.size:=by have:=i.o.rb.lt;omega
 have S:¬(w:Nat)+1+1=k.heap.size:=by have:=i.o.rb.lt;omega
 have R:(w:Nat)+1+1+1<k.heap.size:=i.o.rb.lt;have T:¬(w:Nat)+1+1+1=k.heap.size:=by have:=i.o.rb.lt;omega
 have U:¬(w:Nat)+1+1+1= ↑k+1:=by have:=i.o.rb.lt;omega
 have V:¬(w:Nat)+1+1= ↑k+1:=by have:=i.o.rb.lt;omega
 simp only[kL,jt,kI]at N O;go_wp2_with fail;obtain⟨I,q,r⟩:=Ok i.o [Ay f a] _ rfl;simp only[Ah,kX,mM,lF,lg,lh,mD,lY]at q r;exact kY (v:=.agg #[Z k 1 1,Z M 0 0]) (by simp[results,Tryz.results41,go_sem,q,r]) rfl I
theorem WM(vk vf vt Q O N:J)(f:MF)(rs:List (List Int))(G:Option Addr)(cr q z:Nat)(r:List Int)(t:Int)(c:Int)(w:Y)(hn:rs.length<=1048576)(hm:r.length<=1048576)(hr:NM w (Z G rs cr) rs)(S:rs[q]?=K r)(W:r[z]?=K t):
 Ae Tryz.prog 41 #[.agg #[Z G rs cr,vk,vf,vt],.agg #[Q,Ac Ab f.gz,O,N],.agg #[Ac Ab 4,Ac Ab q,Ac Ab z,Ac Ab c]] w (DH w [] [t]):=by
 obtain⟨xs,h1,h2,h3⟩:=hr;have R:=(iV.1 S).1;have ae:=(iV.1 W).1;obtain⟨⟨r',y⟩,B⟩:∃x,xs[q]?=K x:=⟨_,an (by rw[<-kW (f:=Prod.fst),h1];exact R)⟩;have L:=CT h1 B;rw[S]at L;obtain rfl:r=r':=kN L;have T:=h3 _ (i8 B);simp only[]at T;rcases h2.2 with⟨e0,_⟩|⟨g,o,c',I,hc⟩
 . omega
 simp only[jc,lO]at I;obtain⟨rfl,rfl⟩:=I;have k:=Rd.elem AY hc q _ B 0 _ rfl;rw[lr,kZ]at k;simp only[]at k;rcases T.2 with⟨e0,_⟩|⟨p,A,H,rfl,a8⟩
 . omega
 have s:=Rd.elem Ao a8 z _ W 0 _ rfl;rw[lr,kZ]at s;have j:Aa (w.cell? ⟨g,o+q,M⟩=K (Z (K ⟨p,A,M⟩) r H)/\w.cell? ⟨p,A+z,M⟩=K (Ac Ab t)):=⟨k,s⟩
 generalize rs.length=n at R hn⊢;generalize r.length=m at ae hm j;have am:(q:Int)<(n:Int):=oM;have ao:(z:Int)<(m:Int):=oM;have E0:Aa _:=LH.of w ⟨Z (K ⟨g,o,M⟩) n cr,vk,vf,vt⟩ ⟨Q,O,N⟩ f 4 q z c;have hS:Aa (∀w,Ae Tryz.prog 71 #[Ac Ab 4] w λe w'=>e=.returned (.agg #[.string ⟨#[108,111,97,100]⟩,Ac Ab 2,Ac Ab 3])/\Ad w w w'):= λw=>CG 4 w
 have aj:=CS;go_enter Tryz.func41,Tryz.ntmps41;go_wp2_with fail;refine(hS.o _).mono ?_;rintro e b ⟨rfl,b1⟩;have a:Aa _:=E0.o.bM b1;have x0:=a.o.gV.ins.c0;have x1:=a.o.gV.ins.c1;have x2:=a.o.gV.ins.c2;have p0:=a.o.gV.prog.c0;have k:b.cell? ⟨g,o+q,M⟩=K (Z (K ⟨p,A,M⟩) m H):=by rw[a.o.gV.gG.cell (jC j.o.1)];exact j.o.1
 have s:b.cell? ⟨p,A+z,M⟩=K (Ac Ab t):=by rw[a.o.gV.gG.cell (jC j.o.2)];exact j.o.2
 have C:=a.o.rb.cell 0;have D:=a.o.rb.cell 1;have z0:=a.o.rb.frozen 0;have z1:=a.o.rb.frozen 1;have aw:(w:Nat)+1+1<b.heap.size:=by have:=a.o.rb.lt;omega
 have aD:¬(w:Nat)+1+1=b.heap.size:=by have:=a.o.rb.lt;omega
 have aA:(w:Nat)+1+1+1<b.heap.size:=a.o.rb.lt;have aE:¬(w:Nat)+1+1+1=b.heap.size:=by have:=a.o.rb.lt;omega
 have aF:¬(w:Nat)+1+1+1= ↑b+1:=by have:=a.o.rb.lt;omega
 have aG:¬(w:Nat)+1+1= ↑b+1:=by have:=a.o.rb.lt;omega
 simp only[kL,jt,kI]at C D;go_wp2_with fail;have i:Ad b b b.drew:=Aj b;have aQ:=AN i x1;have aR:=AN i x2;have aH:=AN i p0;have aq:=AN i k;have au:=AN i s;have aI:=AN i C;have aM:=AN i D;have aS:=(a.o.bM i).rb.frozen 0;have aU:=(a.o.bM i).rb.frozen 1;have l:Ad b b (b.alloc (.cells #[Ac Ab t] 2)).drew:=Ai (Ag _ _) lR (Aj _);have aJ:=AN l C;have aP:=AN l D;have aT:=(a.o.bM l).rb.frozen 0;have aW:=(a.o.bM l).rb.frozen 1;have F:Ar ((b.setCell ⟨(w:Nat)+1+1+1,0,M⟩ (Z M 0 0)).alloc (.cells #[Ac Ab t] 2)).drew ((w:Nat)+1+1+1) _ _:=(a.o.rb.set 0 (Z M 0 0)).bM (Ai (Ag _ _) lR (Aj _));have ah:=F.cell 1;have aX:=F.frozen 1;simp only[kV,lI,kL,jt,kI]at ah;go_region_law (fail);all_goals
  go_wp2_with fail;obtain⟨he,q0,q1⟩:=Tp a.o [t] _ rfl;simp only[Ah,kX,mM,lF,lg,lh,mD,lY]at q0 q1;exact kY (v:=.agg #[Z M 0 0,Z b 1 1]) (by simp[results,Tryz.results41,go_sem,q0,q1]) rfl he.drew
theorem WN(vk vf vt N L I:J)(f:MF)(rs:List (List Int))(D:Option Addr)(cr q z:Nat)(r:List Int)(t:Int)(c:Int)(w:Y)(hn:rs.length<=1048576)(hm:r.length<=1048576)(hr:NM w (Z D rs cr) rs)(Q:rs[q]?=K r)(S:r[z]?=K t):
 Ae Tryz.prog 41 #[.agg #[Z D rs cr,vk,vf,vt],.agg #[N,Ac Ab f.gz,L,I],.agg #[Ac Ab 5,Ac Ab q,Ac Ab z,Ac Ab c]] w (DH w [t] []):=by
 obtain⟨xs,h1,h2,h3⟩:=hr;have O:=(iV.1 Q).1;have ah:=(iV.1 S).1;obtain⟨⟨r',y⟩,s⟩:∃x,xs[q]?=K x:=⟨_,an (by rw[<-kW (f:=Prod.fst),h1];exact O)⟩;have G:=CT h1 s;rw[Q]at G;obtain rfl:r=r':=kN G;have R:=h3 _ (i8 s);simp only[]at R;rcases h2.2 with⟨e0,_⟩|⟨g,o,c',F,hc⟩
 . omega
 simp only[jc,lO]at F;obtain⟨rfl,rfl⟩:=F;have k:=Rd.elem AY hc q _ s 0 _ rfl;rw[lr,kZ]at k;simp only[]at k;rcases R.2 with⟨e0,_⟩|⟨H,T,a8,rfl,ae⟩
 . omega
 have p:=Rd.elem Ao ae z _ S 0 _ rfl;rw[lr,kZ]at p;have j:=Ap (ji k p);generalize rs.length=n at O hn⊢;generalize r.length=m at ah hm j;have ao:(q:Int)<(n:Int):=oM;have aq:(z:Int)<(m:Int):=oM;have E0:Aa _:=LH.of w ⟨Z (K ⟨g,o,M⟩) n cr,vk,vf,vt⟩ ⟨N,L,I⟩ f 5 q z c;have hS:Aa (∀w,Ae Tryz.prog 71 #[Ac Ab 5] w λe w'=>e=.returned (.agg #[.string ⟨#[115,116,111,114,101]⟩,Ac Ab 2,Ac Ab 3])/\Ad w w w'):= λw=>CG 5 w
 have am:=CS;go_enter Tryz.func41,Tryz.ntmps41;go_wp2_with fail;refine(hS.o _).mono ?_;rintro e b ⟨rfl,b1⟩;have a:Aa _:=E0.o.bM b1;have x0:=a.o.gV.ins.c0;have x1:=a.o.gV.ins.c1;have x2:=a.o.gV.ins.c2;have p0:=a.o.gV.prog.c0;have k:b.cell? ⟨g,o+q,M⟩=K (Z (K ⟨H,T,M⟩) m a8):=by rw[a.o.gV.gG.cell (jC j.o.1)];exact j.o.1
 have p:b.cell? ⟨H,T+z,M⟩=K (Ac Ab t):=by rw[a.o.gV.gG.cell (jC j.o.2)];exact j.o.2
 have A:=a.o.rb.cell 0;have B:=a.o.rb.cell 1;have z0:=a.o.rb.frozen 0;have z1:=a.o.rb.frozen 1;have aA:(w:Nat)+1+1<b.heap.size:=by have:=a.o.rb.lt;omega
 have aE:¬(w:Nat)+1+1=b.heap.size:=by have:=a.o.rb.lt;omega
 have aD:(w:Nat)+1+1+1<b.heap.size:=a.o.rb.lt;have aF:¬(w:Nat)+1+1+1=b.heap.size:=by have:=a.o.rb.lt;omega
 have aG:¬(w:Nat)+1+1+1= ↑b+1:=by have:=a.o.rb.lt;omega
 have aH:¬(w:Nat)+1+1= ↑b+1:=by have:=a.o.rb.lt;omega
 simp only[kL,jt,kI]at A B;go_wp2_with fail;have i:Ad b b b.drew:=Aj b;have aR:=AN i x1;have aS:=AN i x2;have aI:=AN i p0;have au:=AN i k;have aw:=AN i p;have aJ:=AN i A;have aP:=AN i B;have aT:=(a.o.bM i).rb.frozen 0;have aW:=(a.o.bM i).rb.frozen 1;have l:Ad b b (b.alloc (.cells #[Ac Ab t] 2)).drew:=Ai (Ag _ _) lR (Aj _);have aM:=AN l A;have aQ:=AN l B;have aU:=(a.o.bM l).rb.frozen 0;have aX:=(a.o.bM l).rb.frozen 1;have C:Ar ((b.setCell ⟨(w:Nat)+1+1+1,0,M⟩ (Z b 1 1)).alloc (.cells #[Ac Ab t] 2)).drew ((w:Nat)+1+1+1) _ _:=(a.o.rb.set 0 (Z b 1 1)).bM (Ai (Ag _ _) lR (Aj _));have aj:=C.cell 1;have aY:=C.frozen 1;simp only[kV,lI,kL,jt,kI]at aj;go_region_law (fail);all_goals
  go_wp2_with fail;obtain⟨he,W,q1⟩:=Ok a.o [t] _ rfl;simp only[Ah,kX,mM,lF,lg,lh,mD,lY]at W q1;exact kY (v:=.agg #[Z b 1 1,Z M 0 0]) (by simp[results,Tryz.results41,go_sem,W,q1]) rfl he.drew
theorem WP(vk vf vt Q O N:J)(f:MF)(rs:List (List Int))(G:Option Addr)(cr q z:Nat)(r:List Int)(t:Int)(c:Int)(w:Y)(hn:rs.length<=1048576)(hm:r.length<=1048576)(hr:NM w (Z G rs cr) rs)(S:rs[q]?=K r)(W:r[z]?=K t):
 Ae Tryz.prog 41 #[.agg #[Z G rs cr,vk,vf,vt],.agg #[Q,Ac Ab f.gz,O,N],.agg #[Ac Ab 7,Ac Ab q,Ac Ab z,Ac Ab c]] w (DH w [3,t] []):=by
 obtain⟨xs,h1,h2,h3⟩:=hr;have R:=(iV.1 S).1;have ae:=(iV.1 W).1;obtain⟨⟨r',y⟩,B⟩:∃x,xs[q]?=K x:=⟨_,an (by rw[<-kW (f:=Prod.fst),h1];exact R)⟩;have L:=CT h1 B;rw[S]at L;obtain rfl:r=r':=kN L;have T:=h3 _ (i8 B);simp only[]at T;rcases h2.2 with⟨e0,_⟩|⟨g,o,c',I,hc⟩
 . omega
 simp only[jc,lO]at I;obtain⟨rfl,rfl⟩:=I;have k:=Rd.elem AY hc q _ B 0 _ rfl;rw[lr,kZ]at k;simp only[]at k;rcases T.2 with⟨e0,_⟩|⟨p,A,H,rfl,a8⟩
 . omega
 have s:=Rd.elem Ao a8 z _ W 0 _ rfl;rw[lr,kZ]at s;have j:Aa (w.cell? ⟨g,o+q,M⟩=K (Z (K ⟨p,A,M⟩) r H)/\w.cell? ⟨p,A+z,M⟩=K (Ac Ab t)):=⟨k,s⟩
 generalize rs.length=n at R hn⊢;generalize r.length=m at ae hm j;have am:(q:Int)<(n:Int):=oM;have ao:(z:Int)<(m:Int):=oM;have E0:Aa _:=LH.of w ⟨Z (K ⟨g,o,M⟩) n cr,vk,vf,vt⟩ ⟨Q,O,N⟩ f 7 q z c;have hS:Aa (∀w,Ae Tryz.prog 71 #[Ac Ab 7] w λe w'=>e=.returned (.agg #[.string ⟨#[115,116,111,114,101,97,116]⟩,Ac Ab 3,Ac Ab 4])/\Ad w w w'):= λw=>CG 7 w
 have aj:=CS;go_enter Tryz.func41,Tryz.ntmps41;go_wp2_with fail;refine(hS.o _).mono ?_;rintro e b ⟨rfl,b1⟩;have a:Aa _:=E0.o.bM b1;have x0:=a.o.gV.ins.c0;have x1:=a.o.gV.ins.c1;have x2:=a.o.gV.ins.c2;have p0:=a.o.gV.prog.c0;have k:b.cell? ⟨g,o+q,M⟩=K (Z (K ⟨p,A,M⟩) m H):=by rw[a.o.gV.gG.cell (jC j.o.1)];exact j.o.1
 have s:b.cell? ⟨p,A+z,M⟩=K (Ac Ab t):=by rw[a.o.gV.gG.cell (jC j.o.2)];exact j.o.2
 have C:=a.o.rb.cell 0;have D:=a.o.rb.cell 1;have z0:=a.o.rb.frozen 0;have z1:=a.o.rb.frozen 1;have aw:(w:Nat)+1+1<b.heap.size:=by have:=a.o.rb.lt;omega
 have aD:¬(w:Nat)+1+1=b.heap.size:=by have:=a.o.rb.lt;omega
 have aA:(w:Nat)+1+1+1<b.heap.size:=a.o.rb.lt;have aE:¬(w:Nat)+1+1+1=b.heap.size:=by have:=a.o.rb.lt;omega
 have aF:¬(w:Nat)+1+1+1= ↑b+1:=by have:=a.o.rb.lt;omega
 have aG:¬(w:Nat)+1+1= ↑b+1:=by have:=a.o.rb.lt;omega
 simp only[kL,jt,kI]at C D;go_wp2_with fail;have i:Ad b b b.drew:=Aj b;have aQ:=AN i x1;have aR:=AN i x2;have aH:=AN i p0;have aq:=AN i k;have au:=AN i s;have aI:=AN i C;have aM:=AN i D;have aS:=(a.o.bM i).rb.frozen 0;have aU:=(a.o.bM i).rb.frozen 1;have l:Ad b b (b.alloc (.cells #[Ac Ab 3,Ac Ab t] 2)).drew:=Ai (Ag _ _) lR (Aj _);have aJ:=AN l C;have aP:=AN l D;have aT:=(a.o.bM l).rb.frozen 0;have aW:=(a.o.bM l).rb.frozen 1;have F:Ar ((b.setCell ⟨(w:Nat)+1+1+1,0,M⟩ (Z b 2 2)).alloc (.cells #[Ac Ab 3,Ac Ab t] 2)).drew ((w:Nat)+1+1+1) _ _:=(a.o.rb.set 0 (Z b 2 2)).bM (Ai (Ag _ _) lR (Aj _));have ah:=F.cell 1;have aX:=F.frozen 1;simp only[kV,lI,kL,jt,kI]at ah;go_region_law (fail);all_goals
  go_wp2_with fail;obtain⟨he,q0,q1⟩:=Ok a.o [3,t] _ rfl;simp only[Ah,kX,mM,lF,lg,lh,mD,lY,Nat.reduceAdd]at q0 q1;exact kY (v:=.agg #[Z b 2 2,Z M 0 0]) (by simp[results,Tryz.results41,go_sem,q0,q1]) rfl he.drew
end Go.Proofs.YtjnglocdoljgkaaGreat
