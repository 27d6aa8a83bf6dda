import Derived.Test.YtmalfecapdmdbaaGreatHo17
namespace Go.Proofs.YtmalfecapdmdbaaGreat
open Go.ChangeShapes Go.WideShapes Go.ChangeAt Go.RowKit Go.Proofs.Tryz
set_option linter.unusedVariables false
open Go.Value renaming slice → Z,int → Ag,agg → Am
open Option renaming some → K,none → M
open Go renaming Value → J,World → Y,Calls → Ai
open Go.RowKit renaming Hid → Ae,Below → Ah
open Go.IntKind renaming i64 → Af
open Go.Obj renaming cells → Ak
open Go.Ending renaming returned → Al
open Go.Proofs.Tryz renaming prog → Ap
open Go.World renaming setCell → Aa,alloc → Ac
open List renaming flatMap → Ad
set_option maxHeartbeats 4000000
set_option maxRecDepth 100000
theorem DI.drew{w U:Y}{ts a:List Int}{e:Ending}(h:DI w ts a e U):DI w ts a e U.drew:=by obtain⟨t,s,b,c,d,f⟩:=h;exact⟨t,s,b,c.a7 (At U) lR,d.a7 (At U) lR,Ar f lR (At U)⟩
theorem WU{w u:Y}{v:VP}{g:VF}{f:MF}{op a b c:Int}(h:Md w u v g f op a b c)(ts:List Int)(d:List Int)(U:Y)(t:U=(Ac (Ac (Aa (Aa u ⟨(w:Nat)+1+1+1,0,M⟩ (Z (K ⟨(u:Nat)+1,0,M⟩) ts ts)) ⟨(w:Nat)+1+1+1,1,M⟩ (Z u d d)) (Ak (Ad As d).toArray 2)) (Ak (Ad As ts).toArray 2))):
 DI w ts d (Al (Am #[Z (K ⟨(u:Nat)+1,0,M⟩) ts ts,Z u d d])) U/\U ⟨(w:Nat)+1+1+1,0,M⟩=K (Z (K ⟨(u:Nat)+1,0,M⟩) ts ts)/\U ⟨(w:Nat)+1+1+1,1,M⟩=K (Z u d d):=by
 subst t;have r:=(h.rb.set 0 (Z (K ⟨(u:Nat)+1,0,M⟩) ts ts)).set 1 (Z u d d);have k:=r.cell 0;have l:=r.cell 1;simp only[lF,lI,lT,kB,i9,kC]at k l;have bel:Ah w w (Aa (Aa u ⟨(w:Nat)+1+1+1,0,M⟩ (Z (K ⟨(u:Nat)+1,0,M⟩) ts ts)) ⟨(w:Nat)+1+1+1,1,M⟩ (sG u d d)):=(h.gT.e8.setCell oS _).setCell oS _;have q:(Aa (Aa u ⟨(w:Nat)+1+1+1,0,M⟩ (Z (K ⟨(u:Nat)+1,0,M⟩) ts ts)) ⟨(w:Nat)+1+1+1,1,M⟩ (Z u d d)).heap.size=u.heap.size:=by simp only[lr]
 generalize (Aa (Aa u ⟨w.heap.size+1+1+1,0,M⟩ (Z (K ⟨u.heap.size+1,0,M⟩) ts ts)) ⟨w.heap.size+1+1+1,1,M⟩ (Z u d d))=j at k l bel q⊢;have m:=JM j d;have s:(Ac j (Ak (Ad As d).toArray 2)).heap.size= ↑u+1:=by simp[q]
 have i:=Aq j (Ak (Ad As d).toArray 2);rw[q]at m;generalize Ac j (Ak (Ad As d).toArray 2)=p at m s i⊢;have n:=JM p ts;have e:=Aq p (Ak (Ad As ts).toArray 2);rw[s]at n;generalize Ac p (Ak (Ad As ts).toArray 2)=x at n e⊢;exact⟨⟨_,_,rfl,n,(m.a7 e lR),(Ar (Ar bel lR i) lR e)⟩,(AQ e (AQ i k)),(AQ e (AQ i l))⟩
theorem Xb(x u z p m l:J)(f:MF)(cs:List MC)(j:Option Addr)(ck q:Nat)(y:MC)(b c:Int)(w:Y)(H:cs.length<=1048576)(F:Rd w 2 (Z j cs ck) cs (Ad MC.cells cs))(r:cs[q]?=K y):
 Ai Ap 74 #[Am #[x,Z j cs ck,u,z],Am #[p,f.gy,m,l],Am #[Ag Af 1,q,b,c]] w (DI w [] [y.type]):=by
 have G:=(i6.1 r).1;rcases F.2 with⟨O,_⟩|⟨g,o,c',k,D⟩
 . omega
 simp only[i8,lB]at k;obtain⟨rfl,rfl⟩:=k;have h:=Rd.elem MC.dr D q y r 0 _ rfl;rw[kJ]at h;have i:=Av h;generalize cs.length=n at G H⊢;have Q:(q:Int)<(n:Int):=oM;have A:Ae _:=Md.of w ⟨x,Z (K ⟨g,o,M⟩) n ck,u,z⟩ ⟨p,m,l⟩ f 1 q b c;have C:Ae (∀w,Ai Ap 53 #[Ag Af 1] w λe N=>e=Al (Am #[.string ⟨#[99,111,110,115,116]⟩,Ag Af 1,Ag Af 1])/\Ah w w N):= λw=>Cs 1 w
 have P:=CF;go_enter func74,ntmps74;go_wp2_with fail;refine(C.o _).mono ?_;rintro e d ⟨rfl,B⟩;have a:Ae _:=A.a7 B;have x0:=a.gT.ins.c0;have x1:=a.gT.ins.c1;have x2:=a.gT.ins.c2;have X:=a.gT.prog.c1;have h:d ⟨g,o+q*2,M⟩=K ↑y.type:=by rw[a.gT.e8.cell (hC i)];exact i
 have I:=a.rb.cell 0;have L:=a.rb.cell 1;have z0:=a.rb.frozen 0;have z1:=a.rb.frozen 1;have R:(w:Nat)+1+1<d.heap.size:=by have:=a.rb.lt;omega
 have T:¬(w:Nat)+1+1=d.heap.size:=by have:=a.rb.lt;omega
 have S:(w:Nat)+1+1+1<d.heap.size:=a.rb.lt;have U:¬(w:Nat)+1+1+1=d.heap.size:=by have:=a.rb.lt;omega
 have V:¬(w:Nat)+1+1+1= ↑d+1:=by have:=a.rb.lt;omega
 have W:¬(w:Nat)+1+1= ↑d+1:=by have:=a.rb.lt;omega
 simp only[kB,i9,kC]at I L;go_wp2_with fail;obtain⟨E,s,t⟩:=T4 a [y.type] _ rfl;simp only[As,lD,mJ,lK,lu,lX,lw,lM]at s t;exact kQ (v:=Am #[sN,sG d 1 1]) (by simp[results,results74,go_sem,s,t]) rfl E
theorem Xc(t s r x:J)(g:VF)(f:MF)(a b c:Int)(w:Y)(I:f.small)(F:Dg a)(h:DE w g f):
 Ai Ap 74 #[Am #[t,s,r,x],Am #[g.p,f.gy,g.l,g.c],Am #[Ag Af 2,a,b,c]] w (DI w [] [AN f a]):=by
 have m:Ae (∀u,Ah w w u->Ai Ap 54 #[Am #[g.p,f.gy,g.l,g.c],a] u λe k=>e=Al (AN f a)/\Ah u u k):= λu G=>Eo g f a u I F (h.a7 G lR)
 obtain⟨D,C,B⟩:=g;simp only[]at m;have y:Ae _:=Md.of w ⟨t,s,r,x⟩ ⟨D,C,B⟩ f 2 a b c;have E:Ae (∀w,Ai Ap 53 #[Ag Af 2] w λe k=>e=Al (Am #[.string ⟨#[108,111,97,100,108,111,99,97,108]⟩,Ag Af 1,Ag Af 2])/\Ah w w k):= λw=>Cs 2 w
 have O:=CF;go_enter func74,ntmps74;go_wp2_with fail;refine(E.o _).mono ?_;rintro e V ⟨rfl,z⟩;have i:Ae _:=y.a7 z;have W:=i.gT.ins.c0;have X:=i.gT.ins.c1;have x2:=i.gT.ins.c2;have y0:=i.gT.func.c0;have y1:=i.gT.func.c1;have y2:=i.gT.func.c2;have y3:=i.gT.func.c3;go_wp2_with fail;refine(m.o _ i.gT.e8).mono ?_;rintro e j ⟨rfl,A⟩;have d:Ae _:=i.a7 A;have L:=d.rb.cell 0;have N:=d.rb.cell 1;have z0:=d.rb.frozen 0;have z1:=d.rb.frozen 1;have P:(w:Nat)+1+1<j.heap.size:=by have:=d.rb.lt;omega
 have R:¬(w:Nat)+1+1=j.heap.size:=by have:=d.rb.lt;omega
 have Q:(w:Nat)+1+1+1<j.heap.size:=d.rb.lt;have S:¬(w:Nat)+1+1+1=j.heap.size:=by have:=d.rb.lt;omega
 have T:¬(w:Nat)+1+1+1= ↑j+1:=by have:=d.rb.lt;omega
 have U:¬(w:Nat)+1+1= ↑j+1:=by have:=d.rb.lt;omega
 simp only[kB,i9,kC]at L N;go_wp2_with fail;obtain⟨H,n,q⟩:=T4 d [AN f a] _ rfl;simp only[As,lD,mJ,lK,lu,lX,lw,lM]at n q;exact kQ (v:=Am #[sN,sG j 1 1]) (by simp[results,results74,go_sem,n,q]) rfl H
theorem Xd(t s r x:J)(g:VF)(f:MF)(a b c:Int)(w:Y)(I:f.small)(F:Dg a)(h:DE w g f):
 Ai Ap 74 #[Am #[t,s,r,x],Am #[g.p,f.gy,g.l,g.c],Am #[Ag Af 3,a,b,c]] w (DI w [AN f a] []):=by
 have m:Ae (∀u,Ah w w u->Ai Ap 54 #[Am #[g.p,f.gy,g.l,g.c],a] u λe k=>e=Al (AN f a)/\Ah u u k):= λu G=>Eo g f a u I F (h.a7 G lR)
 obtain⟨D,C,B⟩:=g;simp only[]at m;have y:Ae _:=Md.of w ⟨t,s,r,x⟩ ⟨D,C,B⟩ f 3 a b c;have E:Ae (∀w,Ai Ap 53 #[Ag Af 3] w λe k=>e=Al (Am #[.string ⟨#[115,116,111,114,101,108,111,99,97,108]⟩,Ag Af 1,Ag Af 2])/\Ah w w k):= λw=>Cs 3 w
 have O:=CF;go_enter func74,ntmps74;go_wp2_with fail;refine(E.o _).mono ?_;rintro e V ⟨rfl,z⟩;have i:Ae _:=y.a7 z;have W:=i.gT.ins.c0;have X:=i.gT.ins.c1;have x2:=i.gT.ins.c2;have y0:=i.gT.func.c0;have y1:=i.gT.func.c1;have y2:=i.gT.func.c2;have y3:=i.gT.func.c3;go_wp2_with fail;refine(m.o _ i.gT.e8).mono ?_;rintro e j ⟨rfl,A⟩;have d:Ae _:=i.a7 A;have L:=d.rb.cell 0;have N:=d.rb.cell 1;have z0:=d.rb.frozen 0;have z1:=d.rb.frozen 1;have P:(w:Nat)+1+1<j.heap.size:=by have:=d.rb.lt;omega
 have R:¬(w:Nat)+1+1=j.heap.size:=by have:=d.rb.lt;omega
 have Q:(w:Nat)+1+1+1<j.heap.size:=d.rb.lt;have S:¬(w:Nat)+1+1+1=j.heap.size:=by have:=d.rb.lt;omega
 have T:¬(w:Nat)+1+1+1= ↑j+1:=by have:=d.rb.lt;omega
 have U:¬(w:Nat)+1+1= ↑j+1:=by have:=d.rb.lt;omega
 simp only[kB,i9,kC]at L N;go_wp2_with fail;obtain⟨H,n,q⟩:=Pj d [AN f a] _ rfl;simp only[As,lD,mJ,lK,lu,lX,lw,lM]at n q;exact kQ (v:=Am #[sG j 1 1,sN]) (by simp[results,results74,go_sem,n,q]) rfl H
theorem Xe(V U W L I H:J)(f:MF)(rs:List (List Int))(D:Option Addr)(s q z:Nat)(r:List Int)(t:Int)(c:Int)(w:Y)(hn:rs.length<=1048576)(hm:r.length<=1048576)(hr:Gi w (Z D rs s) rs)(P:rs[q]?=K r)(R:r[z]?=K t):
 Ai Ap 74 #[Am #[Z D rs s,V,U,W],Am #[L,f.gy,I,H],Am #[Ag Af 4,q,z,c]] w (DI w [] [t]):=by
 obtain⟨xs,N,h2,h3⟩:=hr;have O:=(i6.1 P).1;have ah:=(i6.1 R).1;obtain⟨⟨r',y⟩,u⟩:∃x,xs[q]?=K x:=⟨_,an (by rw[<-lC (f:=Prod.fst),N];exact O)⟩;have G:=Bo N u;rw[P]at G;obtain rfl:r=r':=kH G;have Q:=h3 _ (i7 u);simp only[]at Q;rcases h2.2 with⟨e0,_⟩|⟨g,o,c',F,hc⟩
 . omega
 simp only[i8,lB]at F;obtain⟨rfl,rfl⟩:=F;have i:=Rd.elem A5 hc q _ u 0 _ rfl;rw[lN,kJ]at i;simp only[]at i;rcases Q.2 with⟨e0,_⟩|⟨k,p,E,rfl,ae⟩
 . omega
 have l:=Rd.elem AA ae z _ R 0 _ rfl;rw[lN,kJ]at l;have h:Ae (w ⟨g,o+q,M⟩=K (Z (K ⟨k,p,M⟩) r E)/\w ⟨k,p+z,M⟩=K ↑t):=⟨i,l⟩
 generalize rs.length=n at O hn⊢;generalize r.length=m at ah hm h;have ao:(q:Int)<(n:Int):=oM;have aq:(z:Int)<(m:Int):=oM;have X:Ae _:=Md.of w ⟨Z (K ⟨g,o,M⟩) n s,V,U,W⟩ ⟨L,I,H⟩ f 4 q z c;have hS:Ae (∀w,Ai Ap 53 #[iZ 4] w λe w'=>e=Al (Am #[.string ⟨#[108,111,97,100]⟩,iZ 2,iZ 3])/\Ah w w w'):= λw=>Cs 4 w
 have am:=CF;go_enter func74,ntmps74;go_wp2_with fail;refine(hS.o _).mono ?_;rintro e b ⟨rfl,b1⟩;have a:Ae _:=X.a7 b1;have x0:=a.gT.ins.c0;have x1:=a.gT.ins.c1;have x2:=a.gT.ins.c2;have p0:=a.gT.prog.c0;have i:b ⟨g,o+q,M⟩=K (Z (K ⟨k,p,M⟩) m E):=by rw[a.gT.e8.cell (hC h.1)];exact h.1
 have l:b ⟨k,p+z,M⟩=K ↑t:=by rw[a.gT.e8.cell (hC h.2)];exact h.2
 have A:=a.rb.cell 0;have B:=a.rb.cell 1;have z0:=a.rb.frozen 0;have z1:=a.rb.frozen 1;have aA:(w:Nat)+1+1<b.heap.size:=by have:=a.rb.lt;omega
 have aF:¬(w:Nat)+1+1=b.heap.size:=by have:=a.rb.lt;omega
 have aE:(w:Nat)+1+1+1<b.heap.size:=a.rb.lt;have aG:¬(w:Nat)+1+1+1=b.heap.size:=by have:=a.rb.lt;omega
 have aH:¬(w:Nat)+1+1+1= ↑b+1:=by have:=a.rb.lt;omega
 have aI:¬(w:Nat)+1+1= ↑b+1:=by have:=a.rb.lt;omega
 simp only[kB,i9,kC]at A B;go_wp2_with fail;have d:Ah b b b.drew:=At b;have aS:=AQ d x1;have aT:=AQ d x2;have aJ:=AQ d p0;have au:=AQ d i;have aw:=AQ d l;have aM:=AQ d A;have aQ:=AQ d B;have aU:=(a.a7 d).rb.frozen 0;have aX:=(a.a7 d).rb.frozen 1;have j:Ah b b (Ac b (Ak #[t] 2)).drew:=Ar (Aq _ _) lR (At _);have aP:=AQ j A;have aR:=AQ j B;have aW:=(a.a7 j).rb.frozen 0;have aY:=(a.a7 j).rb.frozen 1;have C:AC (Ac (Aa b ⟨(w:Nat)+1+1+1,0,M⟩ sN) (Ak #[t] 2)).drew ((w:Nat)+1+1+1) _ _:=(a.rb.set 0 sN).a7 (Ar (Aq _ _) lR (At _));have aj:=C.cell 1;have aZ:=C.frozen 1;simp only[lF,lI,kB,i9,kC]at aj;go_region_law (fail);all_goals
  go_wp2_with fail;obtain⟨he,S,T⟩:=T4 a [t] _ rfl;simp only[As,lD,mJ,lK,lu,lX,lw,lM]at S T;exact kQ (v:=Am #[Z M 0 0,Z b 1 1]) (by simp[results,results74,go_sem,S,T]) rfl he.drew
theorem Xf(U T V H G F:J)(f:MF)(rs:List (List Int))(B:Option Addr)(l q z:Nat)(r:List Int)(t:Int)(c:Int)(w:Y)(hn:rs.length<=1048576)(hm:r.length<=1048576)(hr:Gi w (Z B rs l) rs)(N:rs[q]?=K r)(P:r[z]?=K t):
 Ai Ap 74 #[Am #[Z B rs l,U,T,V],Am #[H,f.gy,G,F],Am #[Ag Af 5,q,z,c]] w (DI w [t] []):=by
 obtain⟨xs,I,h2,h3⟩:=hr;have L:=(i6.1 N).1;have aj:=(i6.1 P).1;obtain⟨⟨r',y⟩,p⟩:∃x,xs[q]?=K x:=⟨_,an (by rw[<-lC (f:=Prod.fst),I];exact L)⟩;have D:=Bo I p;rw[N]at D;obtain rfl:r=r':=kH D;have O:=h3 _ (i7 p);simp only[]at O;rcases h2.2 with⟨e0,_⟩|⟨g,o,c',C,hc⟩
 . omega
 simp only[i8,lB]at C;obtain⟨rfl,rfl⟩:=C;have i:=Rd.elem A5 hc q _ p 0 _ rfl;rw[lN,kJ]at i;simp only[]at i;rcases O.2 with⟨e0,_⟩|⟨E,Q,ae,rfl,ah⟩
 . omega
 have k:=Rd.elem AA ah z _ P 0 _ rfl;rw[lN,kJ]at k;have h:=Av (d5 i k);generalize rs.length=n at L hn⊢;generalize r.length=m at aj hm h;have aq:(q:Int)<(n:Int):=oM;have au:(z:Int)<(m:Int):=oM;have W:Ae _:=Md.of w ⟨Z (K ⟨g,o,M⟩) n l,U,T,V⟩ ⟨H,G,F⟩ f 5 q z c;have hS:Ae (∀w,Ai Ap 53 #[iZ 5] w λe w'=>e=Al (Am #[.string ⟨#[115,116,111,114,101]⟩,iZ 2,iZ 3])/\Ah w w w'):= λw=>Cs 5 w
 have ao:=CF;go_enter func74,ntmps74;go_wp2_with fail;refine(hS.o _).mono ?_;rintro e b ⟨rfl,X⟩;have a:Ae _:=W.a7 X;have x0:=a.gT.ins.c0;have x1:=a.gT.ins.c1;have x2:=a.gT.ins.c2;have p0:=a.gT.prog.c0;have i:b ⟨g,o+q,M⟩=K (Z (K ⟨E,Q,M⟩) m ae):=by rw[a.gT.e8.cell (hC h.1)];exact h.1
 have k:b ⟨E,Q+z,M⟩=K ↑t:=by rw[a.gT.e8.cell (hC h.2)];exact h.2
 have s:=a.rb.cell 0;have u:=a.rb.cell 1;have z0:=a.rb.frozen 0;have z1:=a.rb.frozen 1;have aE:(w:Nat)+1+1<b.heap.size:=by have:=a.rb.lt;omega
 have aG:¬(w:Nat)+1+1=b.heap.size:=by have:=a.rb.lt;omega
 have aF:(w:Nat)+1+1+1<b.heap.size:=a.rb.lt;have aH:¬(w:Nat)+1+1+1=b.heap.size:=by have:=a.rb.lt;omega
 have aI:¬(w:Nat)+1+1+1= ↑b+1:=by have:=a.rb.lt;omega
 have aJ:¬(w:Nat)+1+1= ↑b+1:=by have:=a.rb.lt;omega
 simp only[kB,i9,kC]at s u;go_wp2_with fail;have d:Ah b b b.drew:=At b;have aT:=AQ d x1;have aU:=AQ d x2;have aM:=AQ d p0;have aw:=AQ d i;have aA:=AQ d k;have aP:=AQ d s;have aR:=AQ d u;have aW:=(a.a7 d).rb.frozen 0;have aY:=(a.a7 d).rb.frozen 1;have j:Ah b b (Ac b (Ak #[t] 2)).drew:=Ar (Aq _ _) lR (At _);have aQ:=AQ j s;have aS:=AQ j u;have aX:=(a.a7 j).rb.frozen 0;have aZ:=(a.a7 j).rb.frozen 1;have A:AC (Ac (Aa b ⟨(w:Nat)+1+1+1,0,M⟩ (sG b 1 1)) (Ak #[t] 2)).drew ((w:Nat)+1+1+1) _ _:=(a.rb.set 0 (sG b 1 1)).a7 (Ar (Aq _ _) lR (At _));have am:=A.cell 1;have b7:=A.frozen 1;simp only[lF,lI,kB,i9,kC]at am;go_region_law (fail);all_goals
  go_wp2_with fail;obtain⟨he,R,S⟩:=Pj a [t] _ rfl;simp only[As,lD,mJ,lK,lu,lX,lw,lM]at R S;exact kQ (v:=Am #[Z b 1 1,Z M 0 0]) (by simp[results,results74,go_sem,R,S]) rfl he.drew
theorem Xh(V U W L I H:J)(f:MF)(rs:List (List Int))(D:Option Addr)(s q z:Nat)(r:List Int)(t:Int)(c:Int)(w:Y)(hn:rs.length<=1048576)(hm:r.length<=1048576)(hr:Gi w (Z D rs s) rs)(P:rs[q]?=K r)(R:r[z]?=K t):
 Ai Ap 74 #[Am #[Z D rs s,V,U,W],Am #[L,f.gy,I,H],Am #[Ag Af 7,q,z,c]] w (DI w [3,t] []):=by
 obtain⟨xs,N,h2,h3⟩:=hr;have O:=(i6.1 P).1;have ah:=(i6.1 R).1;obtain⟨⟨r',y⟩,u⟩:∃x,xs[q]?=K x:=⟨_,an (by rw[<-lC (f:=Prod.fst),N];exact O)⟩;have G:=Bo N u;rw[P]at G;obtain rfl:r=r':=kH G;have Q:=h3 _ (i7 u);simp only[]at Q;rcases h2.2 with⟨e0,_⟩|⟨g,o,c',F,hc⟩
 . omega
 simp only[i8,lB]at F;obtain⟨rfl,rfl⟩:=F;have i:=Rd.elem A5 hc q _ u 0 _ rfl;rw[lN,kJ]at i;simp only[]at i;rcases Q.2 with⟨e0,_⟩|⟨k,p,E,rfl,ae⟩
 . omega
 have l:=Rd.elem AA ae z _ R 0 _ rfl;rw[lN,kJ]at l;have h:Ae (w ⟨g,o+q,M⟩=K (Z (K ⟨k,p,M⟩) r E)/\w ⟨k,p+z,M⟩=K ↑t):=⟨i,l⟩
 generalize rs.length=n at O hn⊢;generalize r.length=m at ah hm h;have ao:(q:Int)<(n:Int):=oM;have aq:(z:Int)<(m:Int):=oM;have X:Ae _:=Md.of w ⟨sO g o n s,V,U,W⟩ ⟨L,I,H⟩ f 7 q z c;have hS:Ae (∀w,Ai Ap 53 #[Ag Af 7] w λe w'=>e=Al (Am #[.string ⟨#[115,116,111,114,101,97,116]⟩,Ag Af 3,Ag Af 4])/\Ah w w w'):= λw=>Cs 7 w
 have am:=CF;go_enter func74,ntmps74;go_wp2_with fail;refine(hS.o _).mono ?_;rintro e b ⟨rfl,b1⟩;have a:Ae _:=X.a7 b1;have x0:=a.gT.ins.c0;have x1:=a.gT.ins.c1;have x2:=a.gT.ins.c2;have p0:=a.gT.prog.c0;have i:b ⟨g,o+q,M⟩=K (Z (K ⟨k,p,M⟩) m E):=by rw[a.gT.e8.cell (hC h.1)];exact h.1
 have l:b ⟨k,p+z,M⟩=K ↑t:=by rw[a.gT.e8.cell (hC h.2)];exact h.2
 have A:=a.rb.cell 0;have B:=a.rb.cell 1;have z0:=a.rb.frozen 0;have z1:=a.rb.frozen 1;have aA:(w:Nat)+1+1<b.heap.size:=by have:=a.rb.lt;omega
 have aF:¬(w:Nat)+1+1=b.heap.size:=by have:=a.rb.lt;omega
 have aE:(w:Nat)+1+1+1<b.heap.size:=a.rb.lt;have aG:¬(w:Nat)+1+1+1=b.heap.size:=by have:=a.rb.lt;omega
 have aH:¬(w:Nat)+1+1+1= ↑b+1:=by have:=a.rb.lt;omega
 have aI:¬(w:Nat)+1+1= ↑b+1:=by have:=a.rb.lt;omega
 simp only[kB,i9,kC]at A B;go_wp2_with fail;have d:Ah b b b.drew:=At b;have aS:=AQ d x1;have aT:=AQ d x2;have aJ:=AQ d p0;have au:=AQ d i;have aw:=AQ d l;have aM:=AQ d A;have aQ:=AQ d B;have aU:=(a.a7 d).rb.frozen 0;have aX:=(a.a7 d).rb.frozen 1;have j:Ah b b (Ac b (Ak #[iZ 3,t] 2)).drew:=Ar (Aq _ _) lR (At _);have aP:=AQ j A;have aR:=AQ j B;have aW:=(a.a7 j).rb.frozen 0;have aY:=(a.a7 j).rb.frozen 1;have C:AC (Ac (Aa b ⟨(w:Nat)+1+1+1,0,M⟩ (Z b 2 2)) (Ak #[Ag Af 3,t] 2)).drew ((w:Nat)+1+1+1) _ _:=(a.rb.set 0 (Z b 2 2)).a7 (Ar (Aq _ _) lR (At _));have aj:=C.cell 1;have aZ:=C.frozen 1;simp only[lF,lI,kB,i9,kC]at aj;go_region_law (fail);all_goals
  go_wp2_with fail;obtain⟨he,S,T⟩:=Pj a [3,t] _ rfl;simp only[As,lD,mJ,lK,lu,lX,lw,lM,Nat.reduceAdd]at S T;exact kQ (v:=Am #[Z b 2 2,Z M 0 0]) (by simp[results,results74,go_sem,S,T]) rfl he.drew
end Go.Proofs.YtmalfecapdmdbaaGreat
