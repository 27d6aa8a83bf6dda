import Derived.Test.YtkgohaigebcgoaaGreatDoorLo14
import Derived.Test.YtkgohaigebcgoaaGreatDoorLo17
import Derived.Test.YtkgohaigebcgoaaGreatDoorLo26
import Derived.Test.YtkgohaigebcgoaaGreatDoorLo25
namespace Go.Proofs.YtkgohaigebcgoaaGreatDoor
open Go.ChangeShapes Go.WideShapes Go.ChangeAt Go.RowKit Go.Proofs.Tryz
set_option linter.unusedVariables false
open Go.Value renaming slice → Z,agg → An
open Option renaming none → M,some → K
open Go renaming Value → J,World → Y,Calls → Ai,TypeId → Aj
open Go.RowKit renaming Hid → Ae,Below → Ah
open Go.IntKind renaming i64 → Af
open Go.Obj renaming cells → Ak
open Go.Ending renaming returned → Am
open Go.Proofs.Tryz renaming prog → Aq
open Go.World renaming setCell → Aa,alloc → Ac,ownsRow → Ab
open List renaming flatMap → Ad
set_option maxHeartbeats 4000000
set_option maxRecDepth 100000
variable {w u j:Y}{b X B f base n k c g G i:Nat}{x y z v:J}{A C:List (J×List Int)}{ys:List (ML×J×J)}{E:Nat->List Nat}{S O:List Nat}{F:List (MB×J)}{I:Nat->Int}
structure NQ(w u:Y)(X:Nat)(x y z v:J):Prop where
 rb:Ay u X #[.int Af 0,.int Af 0,.int Af 0,.int Af 0,Z M 0 0,Z M 0 0,Z M 0 0,Z M 0 0,.int Af 0] 42
 qb:Ay u (X+1) #[x,y,z,v,Z M 0 0,Z M 0 0,Z M 0 0,Z M 0 0,.int Af 0] 42
 cq:Ah X w u
theorem NQ.av{b:Y}(h:NQ w u X x y z v)(a:Ah u u b):NQ w b X x y z v:=⟨h.rb.av a,h.qb.av a,h.cq.trans (a.mono (mI h.rb.lt))⟩
theorem NQ.put(h:NQ w u X x y z v){a:Addr}(b:X+1<a.block)(V:J):NQ w (u.setCell a V) X x y z v:=⟨h.rb.other oM V,h.qb.other oM V,h.cq.setCell oM V⟩
theorem NQ.two(h:NQ w u X x y z v)(b c:J):NQ w (Aa (Aa u ⟨X+1,0,M⟩ b) ⟨X+1,1,M⟩ c) X b c z v:=⟨(h.rb.other (a:=⟨X+1,0,M⟩) (by show X≠X+1;omega) _).other (a:=⟨X+1,1,M⟩) (by show X≠X+1;omega) _,(h.qb.set 0 b).set 1 c,(h.cq.setCell (by show X<=X+1;omega) _).setCell (by show X<=X+1;omega) _⟩
theorem NQ.too(h:NQ w u X x y z v)(b v':J):NQ w (Aa (Aa u ⟨X+1,2,M⟩ b) ⟨X+1,3,M⟩ v') X x y b v':=⟨(h.rb.other (a:=⟨X+1,2,M⟩) (by show X≠X+1;omega) _).other (a:=⟨X+1,3,M⟩) (by show X≠X+1;omega) _,(h.qb.set 2 b).set 3 v',(h.cq.setCell (by show X<=X+1;omega) _).setCell (by show X<=X+1;omega) _⟩
theorem Rz(g a c:Int)(w:Y)(hg:CC w):
 Ai Aq 14 #[.iface 116 (.agg #[g,a,.iface 114 c])] w λe w'=>e=Am (.agg #[.int Af 2,c,g,a,Z M 0 0,Z M 0 0,Z M 0 0,Z M 0 0,.int Af 0])/\Ah w w w':=by
 have HG:=Aw hg;clear hg;have T:Ae (NQ w (Ac (Ac (Ac w (Ak #[.int Af 0,.int Af 0,.int Af 0,.int Af 0,Z M 0 0,Z M 0 0,Z M 0 0,Z M 0 0,.int Af 0] 42)) (Ak #[.int Af 0,.int Af 0,.int Af 0,.int Af 0,Z M 0 0,Z M 0 0,Z M 0 0,Z M 0 0,.int Af 0] 42)) (Ak #[.nilIface] 118)) w (.int Af 0) (.int Af 0) (.int Af 0) (.int Af 0)):=by have b1:=Al w (Ak #[.int Af 0,.int Af 0,.int Af 0,.int Af 0,Z M 0 0,Z M 0 0,Z M 0 0,Z M 0 0,.int Af 0] 42);have b2:=Al (Ac w (Ak #[.int Af 0,.int Af 0,.int Af 0,.int Af 0,Z M 0 0,Z M 0 0,Z M 0 0,Z M 0 0,.int Af 0] 42)) (Ak #[.int Af 0,.int Af 0,.int Af 0,.int Af 0,Z M 0 0,Z M 0 0,Z M 0 0,Z M 0 0,.int Af 0] 42);have b3:=Al (Ac (Ac w (Ak #[.int Af 0,.int Af 0,.int Af 0,.int Af 0,Z M 0 0,Z M 0 0,Z M 0 0,Z M 0 0,.int Af 0] 42)) (Ak #[.int Af 0,.int Af 0,.int Af 0,.int Af 0,Z M 0 0,Z M 0 0,Z M 0 0,Z M 0 0,.int Af 0] 42)) (Ak #[.nilIface] 118);have B:=Ar (Ar b1 lR b2) lR b3;exact⟨((Ay.new _ _ _).av b2).av b3,by have:=(Ay.new (Ac w (Ak #[.int Af 0,.int Af 0,.int Af 0,.int Af 0,Z M 0 0,Z M 0 0,Z M 0 0,Z M 0 0,.int Af 0] 42)) #[.int Af 0,.int Af 0,.int Af 0,.int Af 0,Z M 0 0,Z M 0 0,Z M 0 0,Z M 0 0,.int Af 0] 42).av b3;rw[l8]at this;exact this,B⟩
 go_enter func14,ntmps14;go_upto_region 3 with fail
 generalize hX:w.heap.size=X at T⊢;have HX:=Aw hX;have W:Ae (∀u,Ah X w u->CC u):= λu h=>HG.av (by rw[hX];exact h)
 clear hX;refine Av (λu=>Ae (NQ w u X (.int Af 0) (.int Af 0) (.int Af 0) (.int Af 0))) T ?_;rintro U E1;clear T;go_wp2_with fail;refine(qi g a c ⟨X+1+1,0,M⟩ U (W.o _ E1.cq)).mono ?_;rintro e n ⟨rfl,bb⟩;have V:=Aw (E1.av bb);clear bb E1;go_upto_region 6 with fail
 have i:Ae (NQ w (Ac n (Ak #[.int Af 0] 114)) X (.int Af 0) (.int Af 0) (.int Af 0) (.int Af 0)/\Ay (Ac n (Ak #[.int Af 0] 114)) n #[.int Af 0] 114):=⟨V.av (Al _ _),Ay.new _ _ _⟩
 have P:Ae (X+1< ↑n):=V.qb.lt
 clear V;generalize Ac n (Ak #[.int Af 0] 114)=U3 at i⊢;generalize n.heap.size=Q at i P⊢;have N:=i.2.cell 0;go_wp2_with fail;refine(qh g a c Q (.int Af 0) U3 (W.o _ i.1.cq) N (i.2.frozen 0)).mono ?_;rintro e R ⟨rfl,r⟩;have E4:Ae (NQ w R X (.int Af 0) (.int Af 0) (.int Af 0) (.int Af 0)/\Ay R Q #[c] 114):=by subst r;exact⟨(((((i.1.av (Al _ _)).av (Al _ _)).av (Al _ _)).av (Al _ _)).av (Al _ _)).put P.o _,(((((i.2.av (Al _ _)).av (Al _ _)).av (Al _ _)).av (Al _ _)).av (Al _ _)).set 0 _⟩
 clear i N r;have N:=E4.2.cell 0;simp only[i5,f8]at N;have s:=E4.1.qb.cell 0;have t:=E4.1.qb.cell 1;simp only[i5,f8,i6]at s t;have f0:=E4.1.qb.frozen 0;have f1:=E4.1.qb.frozen 1;have aa:Q≠X+1:=by have:=P.o;omega
 have ae:X+1≠Q:=by have:=P.o;omega
 go_upto_region 7 with fail
 go_region;have O:Ae (NQ w (Aa (Aa R ⟨X+1,0,M⟩ (.int Af 2)) ⟨X+1,1,M⟩ c).drew X (.int Af 2) c (.int Af 0) (.int Af 0)):=(E4.1.two _ _).av (At _);clear E4 N s t f0 f1 aa ae;generalize (Aa (Aa R ⟨X+1,0,M⟩ (.int Af 2)) ⟨X+1,1,M⟩ c).drew=m at O⊢;go_upto_region 9 with fail
 have d:Ae (NQ w (Ac m (Ak #[.int Af 0,.int Af 0,.nilIface] 116)) X (.int Af 2) c (.int Af 0) (.int Af 0)/\Ay (Ac m (Ak #[.int Af 0,.int Af 0,.nilIface] 116)) m #[.int Af 0,.int Af 0,.nilIface] 116):=⟨O.av (Al _ _),Ay.new _ _ _⟩
 have l:Ae (X+1< ↑m):=O.qb.lt
 clear O;generalize Ac m (Ak #[.int Af 0,.int Af 0,.nilIface] 116)=U7 at d⊢;generalize m.heap.size=k at d l⊢;go_wp2_with fail;refine(qg g a c k (.int Af 0) (.int Af 0) .nilIface U7 (W.o _ d.1.cq) (d.2.cell 0) (d.2.cell 1) (d.2.cell 2) (d.2.frozen 0) (d.2.frozen 1) (d.2.frozen 2)).mono ?_;rintro e S ⟨rfl,r⟩;have j:Ae (NQ w S X (.int Af 2) c (.int Af 0) (.int Af 0)/\Ay S k #[g,a,.iface 114 c] 116):=by subst r;exact⟨((((((d.1.av (Al _ _)).av (Al _ _)).av (Al _ _)).av (Al _ _)).put (a:=⟨k,0,M⟩) l _).put (a:=⟨k,1,M⟩) l _).put (a:=⟨k,2,M⟩) l _,((((((d.2.av (Al _ _)).av (Al _ _)).av (Al _ _)).av (Al _ _)).set 0 _).set 1 _).set 2 _⟩
 clear d r;have y0:=j.2.cell 0;have y1:=j.2.cell 1;have x:=j.1.qb.cell 2;have y:=j.1.qb.cell 3;simp only[i5,f8,i6]at y0 y1 x y;have f2:=j.1.qb.frozen 2;have f3:=j.1.qb.frozen 3;have aa:k≠X+1:=by have:=l.o;omega
 have ae:X+1≠k:=by have:=l.o;omega
 go_upto_region 10 with fail
 go_region;have q:Ae (NQ w (Aa (Aa S ⟨X+1,2,M⟩ g) ⟨X+1,3,M⟩ a).drew X (.int Af 2) c g a):=(j.1.too _ _).av (At _);clear j y0 y1 x y f2 f3 aa ae;generalize (Aa (Aa S ⟨X+1,2,M⟩ g) ⟨X+1,3,M⟩ a).drew=U9 at q⊢;have f:=q.qb;have b:=q.rb;have s:=f.cell 0;have t:=f.cell 1;have x:=f.cell 2;have y:=f.cell 3;have q4:=f.cell 4;have q5:=f.cell 5;have q6:=f.cell 6;have q7:=f.cell 7;have q8:=f.cell 8;have z:=b.cell 0;have A:=b.cell 1;have C:=b.cell 2;have D:=b.cell 3;have E:=b.cell 4;have F:=b.cell 5;have H:=b.cell 6;have I:=b.cell 7;have L:=b.cell 8;simp only[i5,f8,i6]at s t x y q4 q5 q6 q7 q8 z A C D E F H I L;have g0:=b.frozen 0;have g1:=b.frozen 1;have g2:=b.frozen 2;have g3:=b.frozen 3;have g4:=b.frozen 4;have g5:=b.frozen 5;have g6:=b.frozen 6;have g7:=b.frozen 7;have g8:=b.frozen 8;clear f b;go_wp2_with fail;have GB:=Aw ((((((((((q.cq.setCell (p:=⟨X,0,M⟩) (Nat.le_refl X) (.int Af 2)).setCell (p:=⟨X,1,M⟩) (Nat.le_refl X) c).setCell (p:=⟨X,2,M⟩) (Nat.le_refl X) g).setCell (p:=⟨X,3,M⟩) (Nat.le_refl X) a).setCell (p:=⟨X,4,M⟩) (Nat.le_refl X) (Z M 0 0)).setCell (p:=⟨X,5,M⟩) (Nat.le_refl X) (Z M 0 0)).setCell (p:=⟨X,6,M⟩) (Nat.le_refl X) (Z M 0 0)).setCell (p:=⟨X,7,M⟩) (Nat.le_refl X) (Z M 0 0)).setCell (p:=⟨X,8,M⟩) (Nat.le_refl X) (.int Af 0)));have G:Ae (Ay _ X _ 42):=(((((((((q.rb.set 0 (.int Af 2)).set 1 c).set 2 g).set 3 a).set 4 (Z M 0 0)).set 5 (Z M 0 0)).set 6 (Z M 0 0)).set 7 (Z M 0 0)).set 8 (.int Af 0));simp only[kB,kX,kU]at G;clear s t x y q4 q5 q6 q7 q8 z A C D E F H I L g0 g1 g2 g3 g4 g5 g6 g7 g8;have z:=G.cell 0;have A:=G.cell 1;have C:=G.cell 2;have D:=G.cell 3
 have E:=G.cell 4;have F:=G.cell 5;have H:=G.cell 6;have I:=G.cell 7;have L:=G.cell 8;simp only[i5,f8,i6]at z A C D E F H I L;exact kA (v:=.agg #[.int Af 2,c,g,a,Z M 0 0,Z M 0 0,Z M 0 0,Z M 0 0,.int Af 0]) (by simp[results,results14,go_sem,z,A,C,D,E,F,H,I,L]) rfl ⟨rfl,by rw[HX];exact GB⟩
structure Hl(w:Y)(base:Nat)(vb vo vi vl:J)(F:List (MB×J))(ys:List (ML×J×J))(r:Ee):Prop where
 iB:Ab w base 97 3 vb F (Ad Dq F)
 jb:Ab w base 65 3 vl ys (Ad GQ ys)
 eT:CO w base (DQ F++(vo,r.dr)::(vi,r.eU)::Jz ys)
 eb:F.map Prod.fst=r.aC
 el:ys.map Prod.fst=r.cv
theorem Hl.none(w:Y)(base:Nat)(c a:Int):Hl w base sN sN sN sN [] [] (JB c a):=by
 refine⟨kH _ _ _ _,kH _ _ _ _,⟨λx d=> ?_,?_⟩,rfl,rfl⟩
 . simp[DQ,Jz,JB]at d;rcases d with rfl|rfl<;>exact kH _ _ _ _
 refine List.Pairwise.cons ?_ (List.Pairwise.cons ?_ List.Pairwise.nil)
 . intro y _ g b;cases b
 intro y _ g b;cases b
theorem CO.ranges(f:CO w B A)(d:CO w b C)(h:B<=b)(l:∀x∈A,∀g,x.1.ownBlock=K g->g<b):CO w B (A++C):=by
 refine⟨λx m=> ?_,kv.2 ⟨f.sep,d.sep, λa i c j g k e=> ?_⟩⟩
 . rcases jL.1 m with q|q
   . exact f.own x q
   exact BI (d.own x q) h
 have n:=l a i g k;have p:=((d.own c j).lt g e).1;omega
theorem Vr(h:CO w B (ys.map λy=>(y.2.1,y.1.back)))(b:CO w f (ys.map λy=>(y.2.2,y.1.aC)))(t:B<=f)(j:∀y∈ys,∀g,y.2.1.ownBlock=K g->g<f):CO w B (Jz ys):=by
 have c:∀y∈ys,∀z∈ys,Kq (y.2.1,y.1.back) (z.2.2,z.1.aC):= λy d z a g u e=>by have I:=j y d g u;have L:=((b.own (z.2.2,z.1.aC) (kI.2 ⟨z,a,rfl⟩)).lt g e).1;omega
 refine⟨λx D=> ?_,?_⟩
 . obtain⟨y,d,q⟩:=lZ.1 D;simp only[jK,jO,kM]at q;rcases q with rfl|rfl
   . exact h.own _ (kI.2 ⟨y,d,rfl⟩)
   exact BI (b.own _ (kI.2 ⟨y,d,rfl⟩)) t
 have A:=mH.1 h.sep;have C:=mH.1 b.sep;clear h b j;unfold Jz;induction ys with
 |nil=>exact List.Pairwise.nil
 | cons y r F=>
   obtain⟨l,m⟩:=kY.1 A;obtain⟨n,s⟩:=kY.1 C;have G:=F (λH E z a=>c H (kh _ E) z (kh _ a)) m s;rw[ke];refine kv.2 ⟨?_,G, λp k q v=> ?_⟩
   . refine List.Pairwise.cons (λz a=> ?_) sP;simp only[jK,jO,kM]at a;subst a;exact c y (kt ..) y (kt ..)
   obtain⟨z,a,i⟩:=lZ.1 v;simp only[jK,jO,kM]at k i;rcases k with rfl|rfl
   . rcases i with rfl|rfl
     . exact l z a
     exact c y (kt ..) z (kh _ a)
   rcases i with rfl|rfl
   . exact(c z (kh _ a) y (kt ..)).symm
   exact n z a
theorem Gz(h:Vs E [] [] [0] S O)(x:Nat):x∈S↔x∈O:=by
 obtain⟨N,t⟩:=h.told;have:O=N:=by simpa using t.o
 subst this;rw[t.seen x];simp
theorem Kv.ints{V:J}{e:List MB}{gb d k n:Nat}(h:Kv w base V F)(m:F.map Prod.fst=e)(p:V=sO gb d n k)(q:n= ↑e):∀b,b<n->∃f l:Int,w ⟨gb,d+b*3,M⟩=K ↑f/\w ⟨gb,d+b*3+1,M⟩=K ↑l:= λb u=>by
 have v: ↑F=n:=by rw[q,<-m,kC]
 have r:=Rd.eS h.row;rcases r.2 with⟨t,_⟩|⟨g,o,c,a,i⟩
 . omega
 rw[p]at a;simp only[i8,jJ,lT,mD]at a;obtain⟨⟨rfl,rfl⟩,_,rfl⟩:=a;obtain⟨x,j⟩:∃x,F[b]?=K x:=⟨_,an oM⟩;have i0:=Rd.elem Bo i b _ j 0 _ rfl;have s:=Rd.elem Bo i b _ j 1 _ rfl;rw[jV]at i0;exact⟨_,_,i0,s⟩
theorem YK(f:0<n)(e:∀b,b<n->∀x∈E b,x<n)(h:Vs E [] [] [0] S O):(∀x∈O,x<n)/\O.Nodup/\ ↑O<=n/\∀x∈O,ES E (λ_=>True) 0 x:=by
 obtain⟨N,t⟩:=h.told;have:O=N:=by simpa using t.o
 subst this;have d:∀x∈O,ES E (λ_=>True) 0 x:= λx a=>by
  obtain⟨q,g,i⟩:=t.from_ x a;have:q=0:=by simpa using g
  subst this;exact i.mono λ_ _=>trivial
 have c:∀x∈O,x<n:= λx a=>(d x a).lt e f
 refine⟨c,t.nodup,?_,d⟩;have:=H6 O n c t.nodup;omega
theorem ZT{e:Aj}{xs:List J}(h:Ab w base e k (sG g n c) n xs):n<=c:=by
 rcases h.2 with⟨a,_⟩|⟨i,d,f,a,_,_,b,_⟩
 . cases a
 cases a
 exact b
structure GD(w1 u:Y)(n G gN cN gF gO cO gP gi:Nat)(E:Nat->List Nat)(O:List Nat)(I:Nat->Int):Prop where
 eP:Ay u G #[sG gN n cN,sG gF n n,sG gO n cO,sG gP n n,sG gi n n] 101
 nx:Gh u gN 0 n E
 fr:Gh u gF 0 n (Bq E n)
 ord:K5 u w1 (sG gO n cO) O.reverse
 gi_:GI u G n gP n gi n (Ea O) I
 eU:Ab u w1 2 1 (sG gi n n) n (zv I n)
 cq:Ah w1 w1 u
 ne:gO≠gi
theorem GD.av{k:Y}{e d:Nat}(h:GD k u n G e b d f c g i E O I)(a:Ah u u j):GD k j n G e b d f c g i E O I:=⟨h.eP.av a,h.nx.av a,h.fr.av a,h.ord.av a,h.gi_.av a,AC h.eU a lR,Ar h.cq lR a,h.ne⟩
theorem GD.of{B i A:Y}{p u l r t v D:Nat}(h:GM B i n G p u l r t v E S O)(T: ↑O=n)(U:∀x,x∈O↔x<n)(f:Ah i i j)(d:DW j A G n #[sG p n u,sG l n n,sG r n t,sG v n n] D I):GD B A n G p u l r t v D E O I:=by
 obtain⟨X,x1,x2,x3,e,z⟩:=d.eP;simp only[Array.mk.injEq,mK,mD]at e;obtain⟨rfl,rfl,rfl,rfl⟩:=e;have P:∀(g b:Nat),g≠G->g< ↑i->j ⟨g,b,M⟩=i ⟨g,b,M⟩:= λg b _ W=>by unfold World.cell?;rw[f.block g W]
 have fx:∀k,k< ↑j->k∉[G]->A.heap[k]?=j.heap[k]?:= λk V Q=>d.fx k V (by simpa using Q)
 have R:K5 j B (sG r n t) O.reverse:=by have:=h.ord.av f;rw[T]at this;exact this
 have L:∀(g:Nat) {C:Nat->List Nat},Gh i g 0 n C->n≠0->g<i.heap.size:= λg C q Q=>by obtain⟨a,c,F,_⟩:=q 0 oM;exact i7 F
 refine⟨z,(h.nx.av f).iV fx (by simpa using h.ne.1) (λb a m c w s N=> ?_),(h.fr.av f).iV fx (by simpa using h.ne.2.1) (λb a m c w s N=> ?_),R.fx d.fx (λg H=>by simp only[Value.ownBlock,jJ]at H;rw[<-H];exact h.ne.2.2.1),⟨z.cell 3,z.cell 4, λx y=>d.cell (Az f (h.pl x ((U x).2 y))) h.ne.2.2.2, λx y=> ?_⟩,BI d.row (jN h.cq.size f.size),?_,?_⟩
 . rw[P p b h.ne.1 (L p h.nx oM)]at s;simpa using h.nn b a m c w s N
 . rw[P l b h.ne.2.1 (L l h.fr oM)]at s;simpa using h.nf b a m c w s
 . have:=d.row.cellAt x oM;rw[R9 _ _ _ y]at this;exact this
 . exact(Ar h.cq lR f).trans (d.cq.mono h.ge)
 have F:=(AY d.row).1;have:=(R.lt r rfl).2;omega
theorem UI{j:Nat->Nat}(h:Qc E n j I)(b:Nat)(a:b<n):(b=0/\I b=-1)\/b≠0/\∃c:Nat,c<n/\I b=(c:Int)/\Hk E b c:=by
 by_cases e:b=0
 . exact .inl ⟨e,by rw[e];exact h.z⟩
 obtain⟨c,c1,c2,c3,_⟩:=h.fE.tree.up b a e ((h.all b a).resolve_left e);refine .inr ⟨e,c,c2,c1, λq=>by rw[q]at c3;omega,(h.gj c b a).1 (.up e c1 .here), λd g i=> ?_⟩;obtain⟨_,c',k,f⟩:=((h.gj d b a).2 i).fL g;obtain rfl:c'=c:=oM;exact(h.gj d c' c2).1 f
theorem CO.sub(h:CO w B C)(a:List.Sublist A C):CO w B A:=⟨λx b=>h.own x (a.subset b),h.sep.sublist a⟩
theorem CO.low(h:CO w B A)(a:b<=B):CO w b A:=⟨λx c=>BI (h.own x c) a,h.sep⟩
theorem CO.six(h:CO w B A)(c:b<B)(d e f x3 g i:J):CO (six w b d e f x3 g i) B A:=⟨λx a=>Lx (h.own x a) (Tb (h.own x a) c) _ _ _ _ _ _,h.sep⟩
theorem VI{h c l d a:Y}{z A j C gB q:Nat}{vb:J}{p:Option Addr}{u:List (J×List Nat)}{v:List MB}{U:List ML}(r:Kv h ((w:Nat)+1) vb F)(hF:F.map Prod.fst=v)(aE:(w:Nat)< ↑h)(aA:(h:Nat)<= ↑c)(aq:Ah h h d)(t:GD c l n G B z A j i C k E O I)(P:GD c d n G B z A j i C k E O I)(hO: ↑O=n)(H:Ah l l d)(L:BK l d n gB u)(s:Ah d d a)(R:LP d.drew a (Z p ys q) ys)(au:ys.map Prod.fst=U)(T:List.Sublist (ys.map λy=>(y.2.1,y.1.back)) (u.map λx=>(x.1,ints x.2)))(V W X v3 v4 v5:J):Hl (six a w V W X v3 v4 v5) w vb (sG j n i) (sG k n n) (Z p ys q) F ys ⟨0,0,v,ints O.reverse,(List.range n).map I,U⟩:=by
 have D:Ah h h a:=Ar aq lR s;have ax:(c:Nat)<=l.heap.size:=t.cq.size;have aF:=H.size;have Q:=P.av s;have A0:CO a ((w:Nat)+1) (DQ F):=r.eT.fY D;have aj:Ab a c 2 1 (sG j n i) (ints O.reverse).length (Ad As (ints O.reverse)):=by have:=Q.ord;unfold K5 at this;rw[Ex,<-A4]at this;exact this
 have ai:Ab a c 2 1 (sG k n n) ((List.range n).map I).length (Ad As ((List.range n).map I)):=by have:=Q.eU;rw[nw]at this;rw[kC,mj];exact this
 have A1:CO a c [((sG j n i:J),ints O.reverse),(sG k n n,(List.range n).map I)]:=by
  refine⟨λx f=> ?_,?_⟩
  . simp only[jK,jO,kM]at f;rcases f with rfl|rfl
    . exact aj
    exact ai
  refine List.Pairwise.cons (λy m=> ?_) sP;simp only[jK,jO,kM]at m;subst m;intro g b e;simp only[Value.ownBlock,jJ]at b e;exact P.ne (by rw[b,e])
 have A2:CO a l (Jz ys):=by
  refine Vr ((L.eT.fY s).sub T) R.eT H.size λy m g b=> ?_
  have hm:=T.subset (kI.2 ⟨y,m,rfl⟩);exact((L.eT.own _ hm).lt g b).2
 have ae:CO a c ([((sG j n i:J),ints O.reverse),(sG k n n,(List.range n).map I)]++Jz ys):=by
  refine A1.ranges A2 ax λx f g b=> ?_
  simp only[jK,jO,kM]at f;rcases f with rfl|rfl
  . exact(t.ord.lt g b).2
  exact(t.eU.lt g b).2
 have aa:=A0.ranges ae oM (λx f g b=>by have:=((r.eT.own x f).lt g b).2;omega);have N:=AC r.row D lR;have S:Ab a d 65 3 (Z p ys q) ys (Ad GQ ys):=R.iu;refine⟨BI (Lx N (Tb N (Nat.lt_succ_self _)) _ _ _ _ _ _) (Nat.le_succ _),BI (Lx S (Tb S oM) _ _ _ _ _ _) oM,?_,hF,au⟩;exact(aa.six (Nat.lt_succ_self _) V W X v3 v4 v5).low (Nat.le_succ _)
def nP(r k f t p rs l c b co a d g e vl:J):J:=An #[r,k,f,t,p,rs,l,c,b,co,a,d,g,e,vl]
theorem EO(r k f t p rs l c j co a C y v vl q s:J)(F:List (MB×J))(h:Nat)(m:MB)(w:Y)(L:F.length<=1048576)(b:Rd w 3 C F (Ad Dq F))(d:(F.map Prod.fst)[h]?=K m):
 Ai Aq 68 #[nP r k f t p rs l c j co a C y v vl,An #[h,q,s]] w λe E=>e=Am m.cz/\Ah w w E:=by
 obtain⟨x,i,rfl⟩:∃x,F[h]?=K x/\x.1=m:=by rw[jY]at d;exact lE.1 d
 obtain⟨G,c1,rfl⟩:=b.aP;have I:h<F.length:=(f7.1 i).1;rcases b.2 with⟨H,_⟩|⟨g,o,cc,A,B⟩
 . omega
 simp only[i8,kW]at A;obtain⟨rfl,rfl⟩:=A;have i0:=Rd.elem Bo B h x i 0 _ rfl;rw[jV]at i0;clear B b d i;generalize F.length=n at*;have z:=BT w #[r,k,f,t,p,rs,l,c,j,co,a,sO g o n c1,y,v,vl] #[h,q,s] 111 65;unfold nP;go_enter func68,ntmps68;go_upto_region 1 with fail
 refine Av (λu=>Ay u w #[r,k,f,t,p,rs,l,c,j,co,a,sO g o n c1,y,v,vl] 111/\Ay u ((w:Nat)+1) #[h,q,s] 65/\Ah w w u) z ?_
 rintro U E1;clear z;rw[<-E1.2.2.cell (i7 i0)]at i0;obtain⟨N,O,P⟩:=Dv E1.2.1;have Q:=E1.1.cell 11;have D:=Aw E1.2.2;clear E1;go_wp2;go_ret;exact⟨rfl,D⟩
end Go.Proofs.YtkgohaigebcgoaaGreatDoor
