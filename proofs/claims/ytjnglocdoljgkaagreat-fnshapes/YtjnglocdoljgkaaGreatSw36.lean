import Derived.Test.YtjnglocdoljgkaaGreatSw24
namespace Go.Proofs.YtjnglocdoljgkaaGreat
open Go.ChangeShapes Go.WideShapes Go.ChangeAt Go.RowKit
set_option linter.unusedVariables false
open Go.Value renaming slice → Z,int → Ac
open Option renaming some → K,none → M
open Go renaming Value → J,World → Y,Calls → Ae
open Go.RowKit renaming Hid → Aa,Below → Ad
open Go.IntKind renaming i64 → Ab
set_option maxHeartbeats 4000000
set_option maxRecDepth 100000
theorem WO(vk vf vt gp gl gc:J)(f:MF)(rs:List (List Int))(ar:Option Addr)(cr q z:Nat)(r:List Int)(t:Int)(c:Int)(w:Y)(hn:rs.length<=1048576)(hm:r.length<=1048576)(hr:NM w (Z ar rs cr) rs)(T:rs[q]?=K r)(hz:r[z]?=K t):
 Ae Tryz.prog 41 #[.agg #[Z ar rs cr,vk,vf,vt],.agg #[gp,Ac Ab f.gz,gl,gc],.agg #[Ac Ab 6,Ac Ab q,Ac Ab z,Ac Ab c]] w (DH w [3] [t]):=by
 obtain⟨xs,h1,h2,h3⟩:=hr;have ah:=(iV.1 T).1;have aj:=(iV.1 hz).1;obtain⟨⟨r',y⟩,I⟩:∃x,xs[q]?=K x:=⟨_,an (by rw[<-kW (f:=Prod.fst),h1];exact ah)⟩;have R:=CT h1 I;rw[T]at R;obtain rfl:r=r':=kN R;have W:=h3 _ (i8 I);simp only[]at W;rcases h2.2 with⟨e0,_⟩|⟨g,o,c',e1,hc⟩
 . omega
 simp only[jc,lO]at e1;obtain⟨rfl,rfl⟩:=e1;have l:=Rd.elem AY hc q _ I 0 _ rfl;rw[lr,kZ]at l;simp only[]at l;rcases W.2 with⟨e0,_⟩|⟨H,L,a8,rfl,ae⟩
 . omega
 have p:=Rd.elem Ao ae z _ hz 0 _ rfl;rw[lr,kZ]at p;have D:Aa (w.cell? ⟨g,o+q,M⟩=K (Z (K ⟨H,L,M⟩) r a8)/\w.cell? ⟨H,L+z,M⟩=K (Ac Ab t)):=⟨l,p⟩
 clear hc ae l p T hz h2 h3 W I R h1;generalize rs.length=n at ah hn⊢;generalize r.length=m at aj hm D;have au:(q:Int)<(n:Int):=oM;have aw:(z:Int)<(m:Int):=oM;have E0:Aa _:=LH.of w ⟨Z (K ⟨g,o,M⟩) n cr,vk,vf,vt⟩ ⟨gp,gl,gc⟩ f 6 q z c;have hS:Aa (∀w,Ae Tryz.prog 71 #[Ac Ab 6] w λe w'=>e=.returned (.agg #[.string ⟨#[108,111,97,100,97,116]⟩,Ac Ab 3,Ac Ab 4])/\Ad w w w'):= λw=>CG 6 w
 have aq:=CS;go_enter Tryz.func41,Tryz.ntmps41;go_wp2_with fail;refine(hS.o _).mono ?_;rintro e a ⟨rfl,b1⟩;have b:Aa _:=E0.o.bM b1;clear E0 b1 hS;have x0:=b.o.gV.ins.c0;have x1:=b.o.gV.ins.c1;have x2:=b.o.gV.ins.c2;have N:=b.o.gV.prog.c0;have l:a.cell? ⟨g,o+q,M⟩=K (Z (K ⟨H,L,M⟩) m a8):=by rw[b.o.gV.gG.cell (jC D.o.1)];exact D.o.1
 have p:a.cell? ⟨H,L+z,M⟩=K (Ac Ab t):=by rw[b.o.gV.gG.cell (jC D.o.2)];exact D.o.2
 have s:=b.o.rb.cell 0;have A:=b.o.rb.cell 1;have z0:=b.o.rb.frozen 0;have z1:=b.o.rb.frozen 1;have aI:(w:Nat)+1+1<a.heap.size:=by have:=b.o.rb.lt;omega
 have aM:¬(w:Nat)+1+1=a.heap.size:=by have:=b.o.rb.lt;omega
 have aJ:(w:Nat)+1+1+1<a.heap.size:=b.o.rb.lt;have aP:¬(w:Nat)+1+1+1=a.heap.size:=by have:=b.o.rb.lt;omega
 have aQ:¬(w:Nat)+1+1+1= ↑a+1:=by have:=b.o.rb.lt;omega
 have aR:¬(w:Nat)+1+1= ↑a+1:=by have:=b.o.rb.lt;omega
 simp only[kL,jt,kI]at s A;go_wp2_with fail;have i:Ad a a a.drew:=Aj a;have br:=AN i x1;have bz:=AN i x2;have aS:=AN i N;have aA:=AN i l;have aF:=AN i p;have aX:=AN i s;have bi:=AN i A;have bG:=(b.o.bM i).rb.frozen 0;have bP:=(b.o.bM i).rb.frozen 1;have j:Ad a a (a.alloc (.cells #[Ac Ab 3] 2)).drew:=Ai (Ag _ _) lR (Aj _);have bt:=AN j x1;have bB:=AN j x2;have aT:=AN j N;have aD:=AN j l;have aG:=AN j p;have aY:=AN j s;have bj:=AN j A;have bH:=(b.o.bM j).rb.frozen 0;have bQ:=(b.o.bM j).rb.frozen 1;have k:Ad a a (a.alloc (.cells #[Ac Ab t] 2)).drew:=Ai (Ag _ _) lR (Aj _);have bu:=AN k x1;have bC:=AN k x2;have aU:=AN k N;have aE:=AN k l;have aH:=AN k p;have aZ:=AN k s;have bp:=AN k A;have bI:=(b.o.bM k).rb.frozen 0;have bR:=(b.o.bM k).rb.frozen 1;have C:Ad a a ((a.alloc (.cells #[Ac Ab 3] 2)).alloc (.cells #[Ac Ab t] 2)).drew:=Ai (Ai (Ag _ _) lR (Ag _ _)) lR (Aj _);have bf:=AN C s;have bq:=AN C A;have bJ:=(b.o.bM C).rb.frozen 0;have bS:=(b.o.bM C).rb.frozen 1;have B:Ad a a ((a.alloc (.cells #[Ac Ab t] 2)).alloc (.cells #[Ac Ab 3] 2)).drew:=Ai (Ai (Ag _ _) lR (Ag _ _)) lR (Aj _);have aW:=AN B s;have bg:=AN B A;have bF:=(b.o.bM B).rb.frozen 0;have bK:=(b.o.bM B).rb.frozen 1;have O:Ar (((a.setCell ⟨(w:Nat)+1+1+1,0,M⟩ (Z a 1 1)).alloc (.cells #[Ac Ab 3] 2)).alloc (.cells #[Ac Ab t] 2)).drew ((w:Nat)+1+1+1) _ _:=(b.o.rb.set 0 (Z a 1 1)).bM (Ai (Ai (Ag _ _) lR (Ag _ _)) lR (Aj _));have am:=O.cell 1;have bL:=O.frozen 1;simp only[kV,lI,kL,jt,kI]at am;clear O
 have Q:Ar (((a.setCell ⟨(w:Nat)+1+1+1,0,M⟩ (Z (K ⟨(a:Nat)+1,0,M⟩) 1 1)).alloc (.cells #[Ac Ab t] 2)).alloc (.cells #[Ac Ab 3] 2)).drew ((w:Nat)+1+1+1) _ _:=(b.o.rb.set 0 (Z (K ⟨(a:Nat)+1,0,M⟩) 1 1)).bM (Ai (Ai (Ag _ _) lR (Ag _ _)) lR (Aj _));have ao:=Q.cell 1;have bO:=Q.frozen 1;simp only[kV,lI,kL,jt,kI]at ao;clear Q;clear i j k C B;clear x0 x1 x2 N l p s A z0 z1;go_region_law (fail);all_goals
  go_wp2_with fail;first
  | (obtain⟨S,F,G⟩:=G6 b.o [3] [t] _ rfl
     simp only[Ah,kX,mM,lF,lg,lh,mD,lY]at F G;exact kY (v:=.agg #[Z a 1 1,Z (K ⟨(a:Nat)+1,0,M⟩) 1 1]) (by simp[results,Tryz.results41,go_sem,F,G]) rfl S.drew)
  | (obtain⟨S,F,G⟩:=WB b.o [3] [t] _ rfl
     simp only[Ah,kX,mM,lF,lg,lh,mD,lY]at F G;exact kY (v:=.agg #[Z (K ⟨(a:Nat)+1,0,M⟩) 1 1,Z a 1 1]) (by simp[results,Tryz.results41,go_sem,F,G]) rfl S.drew)
end Go.Proofs.YtjnglocdoljgkaaGreat
