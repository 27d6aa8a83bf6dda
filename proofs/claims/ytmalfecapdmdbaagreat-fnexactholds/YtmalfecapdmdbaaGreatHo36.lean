import Derived.Test.YtmalfecapdmdbaaGreatHo30
namespace Go.Proofs.YtmalfecapdmdbaaGreat
open Go.ChangeShapes Go.WideShapes Go.ChangeAt Go.RowKit Go.Proofs.Tryz
set_option linter.unusedVariables false
open Go.Value renaming slice → Z,int → Ag,agg → Am
open Option renaming some → K,none → M
open Go renaming Value → J,World → Y,Calls → Ai
open Go.RowKit renaming Hid → Ae,Below → Ah
open Go.IntKind renaming i64 → Af
open Go.Obj renaming cells → Ak
open Go.Ending renaming returned → Al
open Go.Proofs.Tryz renaming prog → Ap
open Go.World renaming setCell → Aa,alloc → Ac
set_option maxHeartbeats 4000000
set_option maxRecDepth 100000
theorem Xg(vk vf vt gp gl gc:J)(f:MF)(rs:List (List Int))(W:Option Addr)(O q z:Nat)(r:List Int)(t:Int)(c:Int)(w:Y)(hn:rs.length<=1048576)(hm:r.length<=1048576)(hr:Gi w (Z W rs O) rs)(S:rs[q]?=K r)(U:r[z]?=K t):
 Ai Ap 74 #[Am #[Z W rs O,vk,vf,vt],Am #[gp,f.gy,gl,gc],Am #[Ag Af 6,q,z,c]] w (DI w [3] [t]):=by
 obtain⟨xs,Q,h2,h3⟩:=hr;have aj:=(i6.1 S).1;have am:=(i6.1 U).1;obtain⟨⟨r',y⟩,E⟩:∃x,xs[q]?=K x:=⟨_,an (by rw[<-lC (f:=Prod.fst),Q];exact aj)⟩;have P:=Bo Q E;rw[S]at P;obtain rfl:r=r':=kH P;have T:=h3 _ (i7 E);simp only[]at T;rcases h2.2 with⟨e0,_⟩|⟨g,o,c',e1,hc⟩
 . omega
 simp only[i8,lB]at e1;obtain⟨rfl,rfl⟩:=e1;have j:=Rd.elem A5 hc q _ E 0 _ rfl;rw[lN,kJ]at j;simp only[]at j;rcases T.2 with⟨e0,_⟩|⟨D,F,ae,rfl,ah⟩
 . omega
 have k:=Rd.elem AA ah z _ U 0 _ rfl;rw[lN,kJ]at k;have A:Ae (w ⟨g,o+q,M⟩=K (Z (K ⟨D,F,M⟩) r ae)/\w ⟨D,F+z,M⟩=K ↑t):=⟨j,k⟩
 clear hc ah j k S U h2 h3 T E P Q;generalize rs.length=n at aj hn⊢;generalize r.length=m at am hm A;have aw:(q:Int)<(n:Int):=oM;have aA:(z:Int)<(m:Int):=oM;have V:Ae _:=Md.of w ⟨Z (K ⟨g,o,M⟩) n O,vk,vf,vt⟩ ⟨gp,gl,gc⟩ f 6 q z c;have hS:Ae (∀w,Ai Ap 53 #[Ag Af 6] w λe w'=>e=Al (Am #[.string ⟨#[108,111,97,100,97,116]⟩,Ag Af 3,Ag Af 4])/\Ah w w w'):= λw=>Cs 6 w
 have au:=CF;go_enter func74,ntmps74;go_wp2_with fail;refine(hS.o _).mono ?_;rintro e a ⟨rfl,X⟩;have b:Ae _:=V.a7 X;clear V X hS;have x0:=b.gT.ins.c0;have H:=b.gT.ins.c1;have I:=b.gT.ins.c2;have G:=b.gT.prog.c0;have j:a ⟨g,o+q,M⟩=K (Z (K ⟨D,F,M⟩) m ae):=by rw[b.gT.e8.cell (hC A.1)];exact A.1
 have k:a ⟨D,F+z,M⟩=K ↑t:=by rw[b.gT.e8.cell (hC A.2)];exact A.2
 have l:=b.rb.cell 0;have p:=b.rb.cell 1;have z0:=b.rb.frozen 0;have z1:=b.rb.frozen 1;have aM:(w:Nat)+1+1<a.heap.size:=by have:=b.rb.lt;omega
 have aQ:¬(w:Nat)+1+1=a.heap.size:=by have:=b.rb.lt;omega
 have aP:(w:Nat)+1+1+1<a.heap.size:=b.rb.lt;have aR:¬(w:Nat)+1+1+1=a.heap.size:=by have:=b.rb.lt;omega
 have aS:¬(w:Nat)+1+1+1= ↑a+1:=by have:=b.rb.lt;omega
 have aT:¬(w:Nat)+1+1= ↑a+1:=by have:=b.rb.lt;omega
 simp only[kB,i9,kC]at l p;go_wp2_with fail;have d:Ah a a a.drew:=At a;have br:=AQ d H;have bx:=AQ d I;have aU:=AQ d G;have aE:=AQ d j;have aH:=AQ d k;have aZ:=AQ d l;have bj:=AQ d p;have bG:=(b.a7 d).rb.frozen 0;have bQ:=(b.a7 d).rb.frozen 1;have h:Ah a a (Ac a (Ak #[Ag Af 3] 2)).drew:=Ar (Aq _ _) lR (At _);have bt:=AQ h H;have bB:=AQ h I;have aW:=AQ h G;have aF:=AQ h j;have aI:=AQ h k;have b7:=AQ h l;have bo:=AQ h p;have bH:=(b.a7 h).rb.frozen 0;have bR:=(b.a7 h).rb.frozen 1;have i:Ah a a (Ac a (Ak #[t] 2)).drew:=Ar (Aq _ _) lR (At _);have bu:=AQ i H;have bC:=AQ i I;have aX:=AQ i G;have aG:=AQ i j;have aJ:=AQ i k;have bf:=AQ i l;have bp:=AQ i p;have bI:=(b.a7 i).rb.frozen 0;have bS:=(b.a7 i).rb.frozen 1;have u:Ah a a (Ac (Ac a (Ak #[Ag Af 3] 2)) (Ak #[t] 2)).drew:=Ar (Ar (Aq _ _) lR (Aq _ _)) lR (At _);have bg:=AQ u l;have bq:=AQ u p;have bJ:=(b.a7 u).rb.frozen 0;have bT:=(b.a7 u).rb.frozen 1;have s:Ah a a (Ac (Ac a (Ak #[t] 2)) (Ak #[Ag Af 3] 2)).drew:=Ar (Ar (Aq _ _) lR (Aq _ _)) lR (At _);have aY:=AQ s l;have bi:=AQ s p;have bF:=(b.a7 s).rb.frozen 0;have bK:=(b.a7 s).rb.frozen 1;have L:AC (Ac (Ac (Aa a ⟨(w:Nat)+1+1+1,0,M⟩ (Z a 1 1)) (Ak #[Ag Af 3] 2)) (Ak #[t] 2)).drew ((w:Nat)+1+1+1) _ _:=(b.rb.set 0 (Z a 1 1)).a7 (Ar (Ar (Aq _ _) lR (Aq _ _)) lR (At _));have ao:=L.cell 1;have bL:=L.frozen 1;simp only[lF,lI,kB,i9,kC]at ao;clear L;have N:AC (Ac (Ac (Aa a ⟨(w:Nat)+1+1+1,0,M⟩ (Z (K ⟨(a:Nat)+1,0,M⟩) 1 1)) (Ak #[t] 2)) (Ak #[Ag Af 3] 2)).drew ((w:Nat)+1+1+1) _ _:=(b.rb.set 0 (Z (K ⟨(a:Nat)+1,0,M⟩) 1 1)).a7 (Ar (Ar (Aq _ _) lR (Aq _ _)) lR (At _));have aq:=N.cell 1
 have bP:=N.frozen 1;simp only[lF,lI,kB,i9,kC]at aq;clear N;clear d h i u s;clear x0 H I G j k l p z0 z1;go_region_law (fail);all_goals
  go_wp2_with fail;first
  | (obtain⟨R,B,C⟩:=G6 b [3] [t] _ rfl
     simp only[As,lD,mJ,lK,lu,lX,lw,lM]at B C;exact kQ (v:=Am #[Z a 1 1,Z (K ⟨(a:Nat)+1,0,M⟩) 1 1]) (by simp[results,results74,go_sem,B,C]) rfl R.drew)
  | (obtain⟨R,B,C⟩:=WU b [3] [t] _ rfl
     simp only[As,lD,mJ,lK,lu,lX,lw,lM]at B C;exact kQ (v:=Am #[Z (K ⟨(a:Nat)+1,0,M⟩) 1 1,Z a 1 1]) (by simp[results,results74,go_sem,B,C]) rfl R.drew)
end Go.Proofs.YtmalfecapdmdbaaGreat
