import Derived.Test.YtkgohaigebcgoaaGreatDoorCh14
import Derived.Test.YtkgohaigebcgoaaGreatDoorCh17
import Derived.Test.YtkgohaigebcgoaaGreatDoorCh26
import Derived.Test.YtkgohaigebcgoaaGreatDoorCh25
namespace Go.Proofs.YtkgohaigebcgoaaGreatDoor
open Go.ChangeShapes Go.WideShapes Go.ChangeAt Go.RowKit Go.Proofs.Tryz
set_option linter.unusedVariables false
open Go.Value renaming slice → Z
open Option renaming none → M,some → K
open Go renaming Value → J,World → Y,Calls → Ai,TypeId → Aj
open Go.RowKit renaming Hid → Ae,Below → Ah
open Go.IntKind renaming i64 → Af
open Go.Obj renaming cells → Ak
open Go.Ending renaming returned → Am
open Go.Proofs.Tryz renaming prog → Aq
open Go.World renaming setCell → Aa,alloc → Ac,ownsRow → Ab
open List renaming flatMap → Ad
set_option maxHeartbeats 4000000
set_option maxRecDepth 100000
variable {w u l:Y}{b X B f base n k c g G j r:Nat}{x y z v:J}{A C:List (J×List Int)}{ys:List (ML×J×J)}{E:Nat->List Nat}{S O:List Nat}{F:List (MB×J)}{I:Nat->Int}
structure NN(w u:Y)(X:Nat)(x y z v:J):Prop where
 rb:Ay u X #[.int Af 0,.int Af 0,.int Af 0,.int Af 0,Z M 0 0,Z M 0 0,Z M 0 0,Z M 0 0,.int Af 0] 42
 qb:Ay u (X+1) #[x,y,z,v,Z M 0 0,Z M 0 0,Z M 0 0,Z M 0 0,.int Af 0] 42
 cq:Ah X w u
theorem NN.av{b:Y}(h:NN w u X x y z v)(a:Ah u u b):NN w b X x y z v:=⟨h.rb.av a,h.qb.av a,h.cq.trans (a.mono (oq h.rb.lt))⟩
theorem NN.put(h:NN w u X x y z v){a:Addr}(b:X+1<a.block)(V:J):NN w (u.setCell a V) X x y z v:=⟨h.rb.other oM V,h.qb.other oM V,h.cq.setCell oM V⟩
theorem NN.two(h:NN w u X x y z v)(b c:J):NN w (Aa (Aa u ⟨X+1,0,M⟩ b) ⟨X+1,1,M⟩ c) X b c z v:=⟨(h.rb.other (a:=⟨X+1,0,M⟩) (by show X≠X+1;omega) _).other (a:=⟨X+1,1,M⟩) (by show X≠X+1;omega) _,(h.qb.set 0 b).set 1 c,(h.cq.setCell (by show X<=X+1;omega) _).setCell (by show X<=X+1;omega) _⟩
theorem NN.too(h:NN w u X x y z v)(b v':J):NN w (Aa (Aa u ⟨X+1,2,M⟩ b) ⟨X+1,3,M⟩ v') X x y b v':=⟨(h.rb.other (a:=⟨X+1,2,M⟩) (by show X≠X+1;omega) _).other (a:=⟨X+1,3,M⟩) (by show X≠X+1;omega) _,(h.qb.set 2 b).set 3 v',(h.cq.setCell (by show X<=X+1;omega) _).setCell (by show X<=X+1;omega) _⟩
theorem Rj(g a c:Int)(w:Y)(hg:Dz w):
 Ai Aq 14 #[.iface 116 (.agg #[g,a,.iface 114 c])] w λe w'=>e=Am (.agg #[.int Af 2,c,g,a,Z M 0 0,Z M 0 0,Z M 0 0,Z M 0 0,.int Af 0])/\Ah w w w':=by
 have HG:=Aw hg;clear hg;have W:Ae (NN w (Ac (Ac (Ac w (Ak #[.int Af 0,.int Af 0,.int Af 0,.int Af 0,Z M 0 0,Z M 0 0,Z M 0 0,Z M 0 0,.int Af 0] 42)) (Ak #[.int Af 0,.int Af 0,.int Af 0,.int Af 0,Z M 0 0,Z M 0 0,Z M 0 0,Z M 0 0,.int Af 0] 42)) (Ak #[.nilIface] 118)) w (.int Af 0) (.int Af 0) (.int Af 0) (.int Af 0)):=by have b1:=Al w (Ak #[.int Af 0,.int Af 0,.int Af 0,.int Af 0,Z M 0 0,Z M 0 0,Z M 0 0,Z M 0 0,.int Af 0] 42);have b2:=Al (Ac w (Ak #[.int Af 0,.int Af 0,.int Af 0,.int Af 0,Z M 0 0,Z M 0 0,Z M 0 0,Z M 0 0,.int Af 0] 42)) (Ak #[.int Af 0,.int Af 0,.int Af 0,.int Af 0,Z M 0 0,Z M 0 0,Z M 0 0,Z M 0 0,.int Af 0] 42);have b3:=Al (Ac (Ac w (Ak #[.int Af 0,.int Af 0,.int Af 0,.int Af 0,Z M 0 0,Z M 0 0,Z M 0 0,Z M 0 0,.int Af 0] 42)) (Ak #[.int Af 0,.int Af 0,.int Af 0,.int Af 0,Z M 0 0,Z M 0 0,Z M 0 0,Z M 0 0,.int Af 0] 42)) (Ak #[.nilIface] 118);have B:=Ar (Ar b1 lR b2) lR b3;exact⟨((Ay.new _ _ _).av b2).av b3,by have:=(Ay.new (Ac w (Ak #[.int Af 0,.int Af 0,.int Af 0,.int Af 0,Z M 0 0,Z M 0 0,Z M 0 0,Z M 0 0,.int Af 0] 42)) #[.int Af 0,.int Af 0,.int Af 0,.int Af 0,Z M 0 0,Z M 0 0,Z M 0 0,Z M 0 0,.int Af 0] 42).av b3;rw[oQ]at this;exact this,B⟩
 go_enter func14,ntmps14;go_upto_region 3 with fail
 generalize hX:w.heap.size=X at W⊢;have HX:=Aw hX;have HE:Ae (∀u,Ah X w u->Dz u):= λu h=>HG.av (by rw[hX];exact h)
 clear hX;refine Av (λu=>Ae (NN w u X (.int Af 0) (.int Af 0) (.int Af 0) (.int Af 0))) W ?_;rintro U E1;clear W;go_wp2_with fail;refine(sC g a c ⟨X+1+1,0,M⟩ U (HE.o _ E1.cq)).mono ?_;rintro e q ⟨rfl,bb⟩;have E2:=Aw (E1.av bb);clear bb E1;go_upto_region 6 with fail
 have j:Ae (NN w (Ac q (Ak #[.int Af 0] 114)) X (.int Af 0) (.int Af 0) (.int Af 0) (.int Af 0)/\Ay (Ac q (Ak #[.int Af 0] 114)) q #[.int Af 0] 114):=⟨E2.av (Al _ _),Ay.new _ _ _⟩
 have R:Ae (X+1< ↑q):=E2.qb.lt
 clear E2;generalize Ac q (Ak #[.int Af 0] 114)=U3 at j⊢;generalize q.heap.size=S at j R⊢;have P:=j.2.cell 0;go_wp2_with fail;refine(sB g a c S (.int Af 0) U3 (HE.o _ j.1.cq) P (j.2.frozen 0)).mono ?_;rintro e T ⟨rfl,s⟩;have E4:Ae (NN w T X (.int Af 0) (.int Af 0) (.int Af 0) (.int Af 0)/\Ay T S #[c] 114):=by subst s;exact⟨(((((j.1.av (Al _ _)).av (Al _ _)).av (Al _ _)).av (Al _ _)).av (Al _ _)).put R.o _,(((((j.2.av (Al _ _)).av (Al _ _)).av (Al _ _)).av (Al _ _)).av (Al _ _)).set 0 _⟩
 clear j P s;have P:=E4.2.cell 0;simp only[lQ,lO]at P;have t:=E4.1.qb.cell 0;have y:=E4.1.qb.cell 1;simp only[lQ,lO,lS]at t y;have f0:=E4.1.qb.frozen 0;have f1:=E4.1.qb.frozen 1;have aa:S≠X+1:=by have:=R.o;omega
 have ae:X+1≠S:=by have:=R.o;omega
 go_upto_region 7 with fail
 go_region;have Q:Ae (NN w (Aa (Aa T ⟨X+1,0,M⟩ (.int Af 2)) ⟨X+1,1,M⟩ c).drew X (.int Af 2) c (.int Af 0) (.int Af 0)):=(E4.1.two _ _).av (As _);clear E4 P t y f0 f1 aa ae;generalize (Aa (Aa T ⟨X+1,0,M⟩ (.int Af 2)) ⟨X+1,1,M⟩ c).drew=n at Q⊢;go_upto_region 9 with fail
 have d:Ae (NN w (Ac n (Ak #[.int Af 0,.int Af 0,.nilIface] 116)) X (.int Af 2) c (.int Af 0) (.int Af 0)/\Ay (Ac n (Ak #[.int Af 0,.int Af 0,.nilIface] 116)) n #[.int Af 0,.int Af 0,.nilIface] 116):=⟨Q.av (Al _ _),Ay.new _ _ _⟩
 have m:Ae (X+1< ↑n):=Q.qb.lt
 clear Q;generalize Ac n (Ak #[.int Af 0,.int Af 0,.nilIface] 116)=U7 at d⊢;generalize n.heap.size=l at d m⊢;go_wp2_with fail;refine(sA g a c l (.int Af 0) (.int Af 0) .nilIface U7 (HE.o _ d.1.cq) (d.2.cell 0) (d.2.cell 1) (d.2.cell 2) (d.2.frozen 0) (d.2.frozen 1) (d.2.frozen 2)).mono ?_;rintro e V ⟨rfl,s⟩;have k:Ae (NN w V X (.int Af 2) c (.int Af 0) (.int Af 0)/\Ay V l #[g,a,.iface 114 c] 116):=by subst s;exact⟨((((((d.1.av (Al _ _)).av (Al _ _)).av (Al _ _)).av (Al _ _)).put (a:=⟨l,0,M⟩) m _).put (a:=⟨l,1,M⟩) m _).put (a:=⟨l,2,M⟩) m _,((((((d.2.av (Al _ _)).av (Al _ _)).av (Al _ _)).av (Al _ _)).set 0 _).set 1 _).set 2 _⟩
 clear d s;have y0:=k.2.cell 0;have y1:=k.2.cell 1;have z:=k.1.qb.cell 2;have A:=k.1.qb.cell 3;simp only[lQ,lO,lS]at y0 y1 z A;have f2:=k.1.qb.frozen 2;have f3:=k.1.qb.frozen 3;have aa:l≠X+1:=by have:=m.o;omega
 have ae:X+1≠l:=by have:=m.o;omega
 go_upto_region 10 with fail
 go_region;have r:Ae (NN w (Aa (Aa V ⟨X+1,2,M⟩ g) ⟨X+1,3,M⟩ a).drew X (.int Af 2) c g a):=(k.1.too _ _).av (As _);clear k y0 y1 z A f2 f3 aa ae;generalize (Aa (Aa V ⟨X+1,2,M⟩ g) ⟨X+1,3,M⟩ a).drew=U9 at r⊢;have f:=r.qb;have b:=r.rb;have t:=f.cell 0;have y:=f.cell 1;have z:=f.cell 2;have A:=f.cell 3;have q4:=f.cell 4;have q5:=f.cell 5;have q6:=f.cell 6;have q7:=f.cell 7;have q8:=f.cell 8;have C:=b.cell 0;have D:=b.cell 1;have E:=b.cell 2;have F:=b.cell 3;have H:=b.cell 4;have I:=b.cell 5;have L:=b.cell 6;have N:=b.cell 7;have O:=b.cell 8;simp only[lQ,lO,lS]at t y z A q4 q5 q6 q7 q8 C D E F H I L N O;have g0:=b.frozen 0;have g1:=b.frozen 1;have g2:=b.frozen 2;have g3:=b.frozen 3;have g4:=b.frozen 4;have g5:=b.frozen 5;have g6:=b.frozen 6;have g7:=b.frozen 7;have g8:=b.frozen 8;clear f b;go_wp2_with fail;have GB:=Aw ((((((((((r.cq.setCell (p:=⟨X,0,M⟩) (Nat.le_refl X) (.int Af 2)).setCell (p:=⟨X,1,M⟩) (Nat.le_refl X) c).setCell (p:=⟨X,2,M⟩) (Nat.le_refl X) g).setCell (p:=⟨X,3,M⟩) (Nat.le_refl X) a).setCell (p:=⟨X,4,M⟩) (Nat.le_refl X) (Z M 0 0)).setCell (p:=⟨X,5,M⟩) (Nat.le_refl X) (Z M 0 0)).setCell (p:=⟨X,6,M⟩) (Nat.le_refl X) (Z M 0 0)).setCell (p:=⟨X,7,M⟩) (Nat.le_refl X) (Z M 0 0)).setCell (p:=⟨X,8,M⟩) (Nat.le_refl X) (.int Af 0)));have G:Ae (Ay _ X _ 42):=(((((((((r.rb.set 0 (.int Af 2)).set 1 c).set 2 g).set 3 a).set 4 (Z M 0 0)).set 5 (Z M 0 0)).set 6 (Z M 0 0)).set 7 (Z M 0 0)).set 8 (.int Af 0));simp only[mO,mi,mh]at G;clear t y z A q4 q5 q6 q7 q8 C D E F H I L N O g0 g1 g2 g3 g4 g5 g6 g7 g8;have C:=G.cell 0;have D:=G.cell 1;have E:=G.cell 2;have F:=G.cell 3
 have H:=G.cell 4;have I:=G.cell 5;have L:=G.cell 6;have N:=G.cell 7;have O:=G.cell 8;simp only[lQ,lO,lS]at C D E F H I L N O;exact mM (v:=.agg #[.int Af 2,c,g,a,Z M 0 0,Z M 0 0,Z M 0 0,Z M 0 0,.int Af 0]) (by simp[results,results14,go_sem,C,D,E,F,H,I,L,N,O]) rfl ⟨rfl,by rw[HX];exact GB⟩
structure CP(w:Y)(base:Nat)(vb vo vi vl:J)(F:List (MB×J))(ys:List (ML×J×J))(r:DQ):Prop where
 jD:Ab w base 97 3 vb F (Ad Dj F)
 jC:Ab w base 65 3 vl ys (Ad FV ys)
 fg:CO w base (Dt F++(vo,r.dr)::(vi,r.fv)::Gn ys)
 eb:F.map Prod.fst=r.a7
 el:ys.map Prod.fst=r.cv
theorem CP.none(w:Y)(base:Nat)(c a:Int):CP w base sN sN sN sN [] [] (Hc c a):=by
 refine⟨mX _ _ _ _,mX _ _ _ _,⟨λx d=> ?_,?_⟩,rfl,rfl⟩
 . simp[Dt,Gn,Hc]at d;rcases d with rfl|rfl<;>exact mX _ _ _ _
 refine List.Pairwise.cons ?_ (List.Pairwise.cons ?_ List.Pairwise.nil)
 . intro y _ g b;cases b
 intro y _ g b;cases b
theorem CO.ranges(f:CO w B A)(d:CO w b C)(h:B<=b)(m:∀x∈A,∀g,x.1.ownBlock=K g->g<b):CO w B (A++C):=by
 refine⟨λx n=> ?_,nI.2 ⟨f.sep,d.sep, λa j c k g l e=> ?_⟩⟩
 . rcases mA.1 n with q|q
   . exact f.own x q
   exact BG (d.own x q) h
 have p:=m a j g l;have r:=((d.own c k).lt g e).1;omega
theorem UV(h:CO w B (ys.map λy=>(y.2.1,y.1.back)))(b:CO w f (ys.map λy=>(y.2.2,y.1.a7)))(u:B<=f)(k:∀y∈ys,∀g,y.2.1.ownBlock=K g->g<f):CO w B (Gn ys):=by
 have c:∀y∈ys,∀z∈ys,Kf (y.2.1,y.1.back) (z.2.2,z.1.a7):= λy d z a g v e=>by have L:=k y d g v;have N:=((b.own (z.2.2,z.1.a7) (mV.2 ⟨z,a,rfl⟩)).lt g e).1;omega
 refine⟨λx E=> ?_,?_⟩
 . obtain⟨y,d,q⟩:=oK.1 E;simp only[lW,lZ,mS]at q;rcases q with rfl|rfl
   . exact h.own _ (mV.2 ⟨y,d,rfl⟩)
   exact BG (b.own _ (mV.2 ⟨y,d,rfl⟩)) u
 have C:=oj.1 h.sep;have D:=oj.1 b.sep;clear h b k;unfold Gn;induction ys with
 |nil=>exact List.Pairwise.nil
 | cons y r G=>
   obtain⟨m,n⟩:=my.1 C;obtain⟨s,t⟩:=my.1 D;have H:=G (λI F z a=>c I (nA _ F) z (nA _ a)) n t;rw[mv];refine nI.2 ⟨?_,H, λp l q A=> ?_⟩
   . refine List.Pairwise.cons (λz a=> ?_) sP;simp only[lW,lZ,mS]at a;subst a;exact c y (nG ..) y (nG ..)
   obtain⟨z,a,j⟩:=oK.1 A;simp only[lW,lZ,mS]at l j;rcases l with rfl|rfl
   . rcases j with rfl|rfl
     . exact m z a
     exact c y (nG ..) z (nA _ a)
   rcases j with rfl|rfl
   . exact(c z (nA _ a) y (nG ..)).symm
   exact s z a
theorem Gs(h:Vs E [] [] [0] S O)(x:Nat):x∈S↔x∈O:=by
 obtain⟨N,t⟩:=h.told;have:O=N:=by simpa using t.o
 subst this;rw[t.seen x];simp
theorem Kl.ints{V:J}{e:List MB}{gb d p n:Nat}(h:Kl w base V F)(q:F.map Prod.fst=e)(r:V=sO gb d n p)(s:n= ↑e):∀b,b<n->∃f l:Int,w ⟨gb,d+b*3,M⟩=K ↑f/\w ⟨gb,d+b*3+1,M⟩=K ↑l:= λb y=>by
 have z: ↑F=n:=by rw[s,<-q,mQ]
 have t:=Rd.eP h.row;rcases t.2 with⟨v,_⟩|⟨g,o,c,a,j⟩
 . omega
 rw[r]at a;simp only[lU,lX,ny,oZ]at a;obtain⟨⟨rfl,rfl⟩,_,rfl⟩:=a;obtain⟨x,k⟩:∃x,F[b]?=K x:=⟨_,an oM⟩;have m:=Rd.elem Bj j b _ k 0 _ rfl;have u:=Rd.elem Bj j b _ k 1 _ rfl;rw[mL]at m;exact⟨_,_,m,u⟩
theorem Yl(f:0<n)(e:∀b,b<n->∀x∈E b,x<n)(h:Vs E [] [] [0] S O):(∀x∈O,x<n)/\O.Nodup/\ ↑O<=n/\∀x∈O,DA E (λ_=>True) 0 x:=by
 obtain⟨N,t⟩:=h.told;have:O=N:=by simpa using t.o
 subst this;have d:∀x∈O,DA E (λ_=>True) 0 x:= λx a=>by
  obtain⟨q,g,j⟩:=t.from_ x a;have:q=0:=by simpa using g
  subst this;exact j.mono λ_ _=>trivial
 have c:∀x∈O,x<n:= λx a=>(d x a).lt e f
 refine⟨c,t.nodup,?_,d⟩;have:=Hv O n c t.nodup;omega
theorem Zz{e:Aj}{xs:List J}(h:Ab w base e k (sG g n c) n xs):n<=c:=by
 rcases h.2 with⟨a,_⟩|⟨j,d,f,a,_,_,b,_⟩
 . cases a
 cases a
 exact b
structure GD(w1 u:Y)(n G gN cN gF gO cO gP gi:Nat)(E:Nat->List Nat)(O:List Nat)(I:Nat->Int):Prop where
 eI:Ay u G #[sG gN n cN,sG gF n n,sG gO n cO,sG gP n n,sG gi n n] 101
 nx:Gb u gN 0 n E
 fr:Gb u gF 0 n (Bo E n)
 ord:Kk u w1 (sG gO n cO) O.reverse
 gi_:GI u G n gP n gi n (DY O) I
 fv:Ab u w1 2 1 (sG gi n n) n (zv I n)
 cq:Ah w1 w1 u
 ne:gO≠gi
theorem GD.av{k:Y}{e d:Nat}(h:GD l u n G e b d f c g j E O I)(a:Ah u u k):GD l k n G e b d f c g j E O I:=⟨h.eI.av a,h.nx.av a,h.fr.av a,h.ord.av a,h.gi_.av a,AD h.fv a lR,Ar h.cq lR a,h.ne⟩
theorem GD.of{C j B:Y}{v p s u w F:Nat}(h:GM C j n G r v p s u w E S O)(U: ↑O=n)(V:∀x,x∈O↔x<n)(f:Ah j j l)(d:DW l B G n #[sG r n v,sG p n n,sG s n u,sG w n n] F I):GD C B n G r v p s u w F E O I:=by
 obtain⟨x0,x1,x2,x3,e,A⟩:=d.eI;simp only[Array.mk.injEq,ov,oZ]at e;obtain⟨rfl,rfl,rfl,rfl⟩:=e;have Q:∀(g b:Nat),g≠G->g< ↑j->l ⟨g,b,M⟩=j ⟨g,b,M⟩:= λg b _ X=>by unfold World.cell?;rw[f.block g X]
 have fx:∀k,k< ↑l->k∉[G]->B.heap[k]?=l.heap[k]?:= λk W R=>d.fx k W (by simpa using R)
 have T:Kk l C (sG s n u) O.reverse:=by have:=h.ord.av f;rw[U]at this;exact this
 have N:∀(g:Nat) {D:Nat->List Nat},Gb j g 0 n D->n≠0->g<j.heap.size:= λg D q R=>by obtain⟨a,c,H,_⟩:=q 0 oM;exact lT H
 refine⟨A,(h.nx.av f).kL fx (by simpa using h.ne.1) (λb a m c y t P=> ?_),(h.fr.av f).kL fx (by simpa using h.ne.2.1) (λb a m c y t P=> ?_),T.fx d.fx (λg L=>by simp only[Value.ownBlock,lX]at L;rw[<-L];exact h.ne.2.2.1),⟨A.cell 3,A.cell 4, λx z=>d.cell (Az f (h.pl x ((V x).2 z))) h.ne.2.2.2, λx z=> ?_⟩,BG d.row (mC h.cq.size f.size),?_,?_⟩
 . rw[Q r b h.ne.1 (N r h.nx oM)]at t;simpa using h.nn b a m c y t P
 . rw[Q p b h.ne.2.1 (N p h.fr oM)]at t;simpa using h.nf b a m c y t
 . have:=d.row.cellAt x oM;rw[RP _ _ _ z]at this;exact this
 . exact(Ar h.cq lR f).trans (d.cq.mono h.ge)
 have H:=(AZ d.row).1;have:=(T.lt s rfl).2;omega
theorem UC{k:Nat->Nat}(h:PU E n k I)(b:Nat)(a:b<n):(b=0/\I b=-1)\/b≠0/\∃c:Nat,c<n/\I b=(c:Int)/\Fm E b c:=by
 by_cases e:b=0
 . exact .inl ⟨e,by rw[e];exact h.z⟩
 obtain⟨c,c1,c2,c3,_⟩:=h.jk.tree.up b a e ((h.all b a).resolve_left e);refine .inr ⟨e,c,c2,c1, λq=>by rw[q]at c3;omega,(h.jE c b a).1 (.up e c1 .here), λd g j=> ?_⟩;obtain⟨_,c',l,f⟩:=((h.jE d b a).2 j).js g;obtain rfl:c'=c:=oM;exact(h.jE d c' c2).1 f
theorem CO.sub(h:CO w B C)(a:List.Sublist A C):CO w B A:=⟨λx b=>h.own x (a.subset b),h.sep.sublist a⟩
theorem CO.low(h:CO w B A)(a:b<=B):CO w b A:=⟨λx c=>BG (h.own x c) a,h.sep⟩
theorem CO.six(h:CO w B A)(c:b<B)(d e f x3 g j:J):CO (six w b d e f x3 g j) B A:=⟨λx a=>Lj (h.own x a) (S3 (h.own x a) c) _ _ _ _ _ _,h.sep⟩
theorem Vn{h c m d a:Y}{C A D l gB:Nat}{vb:J}{q:Option Addr}{v:List (J×List Nat)}{z:List MB}{V:List ML}(s:Kl h ((w:Nat)+1) vb F)(hF:F.map Prod.fst=z)(aE:(w:Nat)< ↑h)(aA:(h:Nat)<= ↑c)(aq:Ah h h d)(u:GD c m n G C A B k j D l E O I)(Q:GD c d n G C A B k j D l E O I)(hO: ↑O=n)(L:Ah m m d)(N:BK m d n gB v)(t:Ah d d a)(S:LP d.drew a (Z q ys r) ys)(au:ys.map Prod.fst=V)(U:List.Sublist (ys.map λy=>(y.2.1,y.1.back)) (v.map λx=>(x.1,ints x.2)))(W X v2 v3 v4 v5:J):CP (six a w W X v2 v3 v4 v5) w vb (sG k n j) (sG l n n) (Z q ys r) F ys ⟨0,0,z,ints O.reverse,(List.range n).map I,V⟩:=by
 have H:Ah h h a:=Ar aq lR t;have ax:(c:Nat)<=m.heap.size:=u.cq.size;have aF:=L.size;have R:=Q.av t;have A0:CO a ((w:Nat)+1) (Dt F):=s.fg.jA H;have aj:Ab a c 2 1 (sG k n j) (ints O.reverse).length (Ad At (ints O.reverse)):=by have:=R.ord;unfold Kk at this;rw[Er,<-A4]at this;exact this
 have ai:Ab a c 2 1 (sG l n n) ((List.range n).map I).length (Ad At ((List.range n).map I)):=by have:=R.fv;rw[Z0]at this;rw[mQ,pO];exact this
 have A1:CO a c [((sG k n j:J),ints O.reverse),(sG l n n,(List.range n).map I)]:=by
  refine⟨λx f=> ?_,?_⟩
  . simp only[lW,lZ,mS]at f;rcases f with rfl|rfl
    . exact aj
    exact ai
  refine List.Pairwise.cons (λy p=> ?_) sP;simp only[lW,lZ,mS]at p;subst p;intro g b e;simp only[Value.ownBlock,lX]at b e;exact Q.ne (by rw[b,e])
 have A2:CO a m (Gn ys):=by
  refine UV ((N.fg.jA t).sub U) S.fg L.size λy p g b=> ?_
  have hm:=U.subset (mV.2 ⟨y,p,rfl⟩);exact((N.fg.own _ hm).lt g b).2
 have ae:CO a c ([((sG k n j:J),ints O.reverse),(sG l n n,(List.range n).map I)]++Gn ys):=by
  refine A1.ranges A2 ax λx f g b=> ?_
  simp only[lW,lZ,mS]at f;rcases f with rfl|rfl
  . exact(u.ord.lt g b).2
  exact(u.fv.lt g b).2
 have aa:=A0.ranges ae oM (λx f g b=>by have:=((s.fg.own x f).lt g b).2;omega);have P:=AD s.row H lR;have T:Ab a d 65 3 (Z q ys r) ys (Ad FV ys):=S.km;refine⟨BG (Lj P (S3 P (Nat.lt_succ_self _)) _ _ _ _ _ _) (Nat.le_succ _),BG (Lj T (S3 T oM) _ _ _ _ _ _) oM,?_,hF,au⟩;exact(aa.six (Nat.lt_succ_self _) W X v2 v3 v4 v5).low (Nat.le_succ _)
end Go.Proofs.YtkgohaigebcgoaaGreatDoor
