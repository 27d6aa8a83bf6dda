import Derived.Test.YtkgohaigebcgoaaGreatDoorCh39
namespace Go.Proofs.YtkgohaigebcgoaaGreatDoor
open Go.ChangeShapes Go.WideShapes Go.ChangeAt Go.RowKit Go.Proofs.Tryz
set_option linter.unusedVariables false
open Go.Value renaming slice → Z,agg → An
open Option renaming some → K,none → M
open Go renaming Value → J,World → Y,Calls → Ai,TypeId → Aj
open Go.RowKit renaming Hid → Ae,Below → Ah
open Go.Ending renaming returned → Am
open Go.Proofs.Tryz renaming prog → Aq
open List renaming flatMap → Ad
set_option maxHeartbeats 8000000
set_option maxRecDepth 100000
theorem CW{u:Y}{b:Nat}{t:Aj}{v:BN}(H:Ay u b v.cells t):u b=K (Z v.r.a v.r.n v.r.c)/\u ⟨b,1,M⟩=K (Z v.k.a v.k.n v.k.c)/\u ⟨b,2,M⟩=K (Z v.f.a v.f.n v.f.c)/\u ⟨b,3,M⟩=K (Z v.t.a v.t.n v.t.c)/\u ⟨b,4,M⟩=K (Z v.p.a v.p.n v.p.c)/\u ⟨b,5,M⟩=K ↑v.rs/\u ⟨b,6,M⟩=K (Z v.l.a v.l.n v.l.c)/\u ⟨b,7,M⟩=K (Z v.c.a v.c.n v.c.c)/\u ⟨b,8,M⟩=K ↑v.nu/\u ⟨b,9,M⟩=K ↑v.co/\u ⟨b,10,M⟩=K ↑v.at_/\u ⟨b,11,M⟩=K (Z v.b.a v.b.n v.b.c)/\u ⟨b,12,M⟩=K (Z v.o.a v.o.n v.o.c)/\u ⟨b,13,M⟩=K (Z v.i.a v.i.n v.i.c)/\u ⟨b,14,M⟩=K (Z v.q.a v.q.n v.q.c):=by unfold BN.cells at H;exact⟨H.cell 0,H.cell 1,H.cell 2,H.cell 3,H.cell 4,H.cell 5,H.cell 6,H.cell 7,H.cell 8,H.cell 9,H.cell 10,H.cell 11,H.cell 12,H.cell 13,H.cell 14⟩
structure P8(w u:Y)(v:BN)(h:Nat)(x y:EJ):Prop where
 body:Ay u w v.cells 111
 loop:Ay u ((w:Nat)+1) #[h,Z x.a x.n x.c,Z y.a y.n y.c] 65
 cq:Ah w w u
theorem P8.av{w u b:Y}{v:BN}{h:Nat}{x y:EJ}(H:P8 w u v h x y)(a:Ah u u b):P8 w b v h x y:=⟨H.body.av a,H.loop.av a,Ar H.cq lR a⟩
theorem JY(v:BN)(h:Nat)(x y:EJ)(F:List (MB×J))(m:MB)(w:Y)(j:F.length<=1048576)(d:Rd w 3 (Z v.b.a v.b.n v.b.c) F (Ad Dj F))(g:(F.map Prod.fst)[h]?=K m):
 Ai Aq 68 #[An v.cells,An #[h,Z x.a x.n x.c,Z y.a y.n y.c]] w λe s=>e=Am m.cz/\Ah w w s:=
 Ex (Z v.r.a v.r.n v.r.c) (Z v.k.a v.k.n v.k.c) (Z v.f.a v.f.n v.f.c) (Z v.t.a v.t.n v.t.c) (Z v.p.a v.p.n v.p.c) v.rs (Z v.l.a v.l.n v.l.c) (Z v.c.a v.c.n v.c.c) v.nu v.co v.at_ (Z v.b.a v.b.n v.b.c) (Z v.o.a v.o.n v.o.c) (Z v.i.a v.i.n v.i.c) (Z v.q.a v.q.n v.q.c) (Z x.a x.n x.c) (Z y.a y.n y.c) F h m w j d g
theorem Ik(v:BN)(h:Nat)(x y:EJ)(F:List (MB×J))(xs:List MI)(D:List Int)(f:Int)(m:MB)(w:Y)(hF:JI w v F xs)(hm:(F.map Prod.fst)[h]?=K m)(hy:Rd w 1 (Z y.a y.n y.c) D (Ad At D))(aA:D.length<=1024)(B:∀z∈D,∃b:Nat,z=(b:Int)/\b< ↑F)(hc:Rd w 4 (Z v.c.a v.c.n v.c.c) xs (Ad MI.cells xs)):
 Ai Aq 71 #[An v.cells,An #[h,Z x.a x.n x.c,Z y.a y.n y.c],f] w λe w'=>AM e (∃a,DV (F.map Prod.fst) D a/\a≠m.cz/\OT xs f a)/\Ah w w w':=by
 have H:=Aw (lN hF (lN hm (lN hy (lN aA (lN B hc)))));have aT:xs.length<=1024:=hF.top;clear hF hm hy aA B hc;have W:=Bw w v.cells #[h,Z x.a x.n x.c,Z y.a y.n y.c] 111 65;go_enter func71,ntmps71;go_upto_region 1 with fail
 refine Av (λu=>Ae (P8 w u v h x y)) ⟨W.1,W.2.1,W.2.2⟩ ?_;rintro U L;clear W;obtain⟨p0,p1,p2,p3,p4,p5,p6,S,p8,p9,aa,ae,ai,aj,aq⟩:=CW L.body;obtain⟨l0,l1,l2⟩:=CI L.loop;go_wp2_with fail;refine(Fu v (h:Int) x y F xs D U (H.1.av L.cq) (H.2.2.1.av L.cq lR) H.2.2.2.1 H.2.2.2.2.1).mono ?_;rintro e u1 ⟨pa,pc,l,rfl,aG,aF,aS,O⟩;have p:=Aw (lN (L.av O) aG);have HI:=Aw aF;have HP:Ae (∀z∈l,∃(d:Nat) (q:MI),z=(d:Int)/\d< ↑xs/\xs[d]?=K q):= λz B=>by obtain⟨y',aM,m',E,G,h3⟩:=(HI.o z).1 B;obtain⟨b,eb,hb⟩:=H.2.2.2.2.1 y' aM;rw[eb,lV]at E;obtain⟨a,e,e1,e2,e3,e4⟩:=H.1.eI b m' E;rw[e1]at G;rw[e2]at h3;obtain⟨d,hd⟩:=mJ (show 0<=z from oM);exact⟨d,_,hd,oM,an oM⟩
 clear O aG aF L p0 p1 p2 p3 p4 p5 p6 S p8 p9 aa ae ai aj aq l0 l1 l2;clear U;go_wp2_with fail;go_loopw [15] (λi wr=>∃k:Nat,k<= ↑l/\i=iZ k/\Ae (∀(j:Nat) (z:Int),j<k->l[j]?=K z->¬(z≠m.cz/\OT xs f z))/\Ae (P8 w wr v h x y/\Rd wr 1 (Z pa l pc) l (Ad At l))) (λi _=> ↑l-(intOf i).toNat)
 case atStart=>exact⟨0,oM,rfl, λj z R=>absurd R oM,p⟩
 case round=>
 clear p;obtain⟨k,hk,rfl,HT,p⟩:=hrel;by_cases aJ:k< ↑l
 case pos=>
  obtain⟨z,B⟩:∃z,l[k]?=K z:=⟨_,an aJ⟩;obtain⟨d,⟨t,ya,yb,yc⟩,ed,hd,A⟩:=HP.o z (lP B);rcases p.2.2 with⟨q0,_⟩|⟨gp,op,cp,I,aE⟩
  . omega
  simp only[lU,mj]at I;obtain⟨rfl,rfl⟩:=I;have z0:=Rd.elem AE aE k z B 0 _ rfl;rw[nX,mL,ed]at z0;rcases H.2.2.2.2.2.2 with⟨q0,_⟩|⟨gc,oc,cc,I,Q⟩
  . omega
  simp only[lU]at I;have ax:=Aw (lN I.1 I.2.1);have s:=Rd.elem MI.bW Q d _ A 0 _ rfl;have P:=Rd.elem MI.bW Q d _ A 1 _ rfl;have T:=Rd.elem MI.bW Q d _ A 2 _ rfl;have V:=Rd.elem MI.bW Q d _ A 3 _ rfl;rw[<-p.1.cq.cell (lT s),mL]at s;rw[<-p.1.cq.cell (lT P)]at P;rw[<-p.1.cq.cell (lT T)]at T;rw[<-p.1.cq.cell (lT V)]at V;simp only[]at s P T V;have C:=Aw (lN B (lN ed A));clear Q aE I B ed A;obtain⟨p0,p1,p2,p3,p4,p5,p6,S,p8,p9,aa,ae,ai,aj,aq⟩:=CW p.1.body;simp only[ax.1,ax.2]at S;have aR:(d:Int)<(xs:Int):=oM;have s1:¬gc=wr.heap.size:=nZ (lT s);have s2:gc<wr.heap.size:=lT s;go_upto_region 5 with fail
  refine Av (λu=>Ae ((P8 w u v h x y/\Rd u 1 (sO gp op l pc) l (Ad At l))/\Ay u wr #[t,ya,yb,yc] 25)) ⟨⟨p.1.av (Al _ _),p.2.av (Al _ _) lR⟩,Ay.new _ _ _⟩ ?_
  rintro UA r;generalize wr.heap.size=YB at r⊢;clear s1 s2 s P T V z0 p p0 p1 p2 p3 p4 p5 p6 S p8 p9 aa ae ai aj aq;obtain⟨s,P,T,V⟩:=Ec r.2;have HW:Ae (OT xs f z↔(t=3\/t=27)/\ya=f):=by
   constructor
   . rintro⟨q,A,E,G⟩;rw[C.2.1,lV,C.2.2]at A;have ey:=mD A;subst ey;exact⟨E,G⟩
   rintro⟨E,G⟩;exact⟨_,by rw[C.2.1,lV];exact C.2.2,E,G⟩
  have X:Ae (¬(z≠m.cz/\OT xs f z)->∀(j:Nat) (z:Int),j<k+1->l[j]?=K z->¬(z≠m.cz/\OT xs f z)):= λaK j z' R au=>by
   by_cases e:j=k
   . subst e;rw[C.1]at au;have ez:=mD au;subst ez;exact aK
   exact HT.o j z' oM au
  by_cases g:t=3\/t=27
  case neg=>
   (have g2:¬t=3:= λe=>g (.inl e));(have g3:¬t=27:= λe=>g (.inr e));have N:Ae (¬(z≠m.cz/\OT xs f z)):= λe=>g (HW.1 e.2).1
   clear g;go_wp2;go_roundw;(case rel=>exact⟨k+1,oM,by go_num,X.o N,r.1⟩);exact oI
  by_cases g4:ya=f;case neg=>
   (have aO:(ya==f)=false:=by simp[g4]);have N:Ae (¬(z≠m.cz/\OT xs f z)):= λe=>g4 (HW.1 e.2).2
   rcases g with g|g
   . rw[g]at s;go_wp2;go_roundw;(case rel=>exact⟨k+1,oM,by go_num,X.o N,r.1⟩);exact oI
   rw[g]at s;go_wp2;go_roundw;(case rel=>exact⟨k+1,oM,by go_num,X.o N,r.1⟩);exact oI
  have aH:=Aw (HW.2 ⟨g,g4⟩);rw[g4]at P;obtain⟨p0,p1,p2,p3,p4,p5,p6,S,p8,p9,aa,ae,ai,aj,aq⟩:=CW r.1.1.body;obtain⟨l0,l1,l2⟩:=CI r.1.1.loop;have HK:Ae ((t=3\/t=27)->True):= λ_=>trivial
  have hY:∀o:Int,(o=3\/o=27)->o=t->True:= λ_ _ _=>trivial
  clear hY HK;rcases g with g|g
  all_goals
   rw[g]at s;go_wp2_with fail;refine(JY v h x y F m UA (mC H.1.len oM) ((H.1.rd).av r.1.1.cq lR) H.2.1).mono ?_;rintro e u3 ⟨rfl,O⟩;have E3:=Aw (lN (r.1.1.av O) (r.1.2.av O lR));clear O;by_cases g5:(d:Int)=m.cz
   . have N:Ae (¬(z≠m.cz/\OT xs f z)):= λe=>e.1 (by rw[C.2.1];exact g5)
     go_wp2;go_roundw;(case rel=>exact⟨k+1,oM,by go_num,X.o N,E3⟩);exact oI
   (have aQ:((d:Int)==m.cz)=false:=by simp[g5]);have HY:Ae (∃a,DV (F.map Prod.fst) D a/\a≠m.cz/\OT xs f a):=⟨z,(HI.o z).1 (lP C.1),by rw[C.2.1];exact g5,aH⟩
   go_wp2;go_ret;exact⟨.iQ HY,E3.1.cq⟩
 have aI:k=l.length:=oM;subst aI;have HN:Ae (¬∃a,DV (F.map Prod.fst) D a/\a≠m.cz/\OT xs f a):= λ⟨a,E,G⟩=>by obtain⟨j,R⟩:=nB ((HI.o a).2 E);exact HT.o j a (f7.1 R).1 R G
 go_wp2;go_ret;exact⟨.no HN,p.1.cq⟩
end Go.Proofs.YtkgohaigebcgoaaGreatDoor
