import Derived.Test.YtkgohaigebcgoaaGreatDoorLo38
namespace Go.Proofs.YtkgohaigebcgoaaGreatDoor
open Go.ChangeShapes Go.WideShapes Go.ChangeAt Go.RowKit Go.Proofs.Tryz
set_option linter.unusedVariables false
open Go.Value renaming slice → Z,agg → An
open Option renaming some → K,none → M
open Go renaming Value → J,World → Y,Calls → Ai,TypeId → Aj
open Go.RowKit renaming Hid → Ae,Below → Ah
open Go.Ending renaming returned → Am
open Go.Proofs.Tryz renaming prog → Aq
open List renaming flatMap → Ad
set_option maxHeartbeats 8000000
set_option maxRecDepth 100000
theorem CY{u:Y}{b:Nat}{t:Aj}{v:BQ}(H:Ay u b v.cells t):u b=K (Z v.r.a v.r.n v.r.c)/\u ⟨b,1,M⟩=K (Z v.k.a v.k.n v.k.c)/\u ⟨b,2,M⟩=K (Z v.f.a v.f.n v.f.c)/\u ⟨b,3,M⟩=K (Z v.t.a v.t.n v.t.c)/\u ⟨b,4,M⟩=K (Z v.p.a v.p.n v.p.c)/\u ⟨b,5,M⟩=K ↑v.rs/\u ⟨b,6,M⟩=K (Z v.l.a v.l.n v.l.c)/\u ⟨b,7,M⟩=K (Z v.c.a v.c.n v.c.c)/\u ⟨b,8,M⟩=K ↑v.nu/\u ⟨b,9,M⟩=K ↑v.co/\u ⟨b,10,M⟩=K ↑v.at_/\u ⟨b,11,M⟩=K (Z v.b.a v.b.n v.b.c)/\u ⟨b,12,M⟩=K (Z v.o.a v.o.n v.o.c)/\u ⟨b,13,M⟩=K (Z v.i.a v.i.n v.i.c)/\u ⟨b,14,M⟩=K (Z v.q.a v.q.n v.q.c):=by unfold BQ.cells at H;exact⟨H.cell 0,H.cell 1,H.cell 2,H.cell 3,H.cell 4,H.cell 5,H.cell 6,H.cell 7,H.cell 8,H.cell 9,H.cell 10,H.cell 11,H.cell 12,H.cell 13,H.cell 14⟩
structure Qm(w u:Y)(v:BQ)(h:Nat)(x y:Fs):Prop where
 body:Ay u w v.cells 111
 loop:Ay u ((w:Nat)+1) #[h,Z x.a x.n x.c,Z y.a y.n y.c] 65
 cq:Ah w w u
theorem Qm.av{w u b:Y}{v:BQ}{h:Nat}{x y:Fs}(H:Qm w u v h x y)(a:Ah u u b):Qm w b v h x y:=⟨H.body.av a,H.loop.av a,Ar H.cq lR a⟩
theorem Ke(v:BQ)(h:Nat)(x y:Fs)(F:List (MB×J))(m:MB)(w:Y)(j:F.length<=1048576)(d:Rd w 3 (Z v.b.a v.b.n v.b.c) F (Ad Dq F))(g:(F.map Prod.fst)[h]?=K m):
 Ai Aq 68 #[An v.cells,An #[h,Z x.a x.n x.c,Z y.a y.n y.c]] w λe s=>e=Am m.cz/\Ah w w s:=
 EO (Z v.r.a v.r.n v.r.c) (Z v.k.a v.k.n v.k.c) (Z v.f.a v.f.n v.f.c) (Z v.t.a v.t.n v.t.c) (Z v.p.a v.p.n v.p.c) v.rs (Z v.l.a v.l.n v.l.c) (Z v.c.a v.c.n v.c.c) v.nu v.co v.at_ (Z v.b.a v.b.n v.b.c) (Z v.o.a v.o.n v.o.c) (Z v.i.a v.i.n v.i.c) (Z v.q.a v.q.n v.q.c) (Z x.a x.n x.c) (Z y.a y.n y.c) F h m w j d g
theorem It(v:BQ)(h:Nat)(x y:Fs)(F:List (MB×J))(xs:List MI)(C:List Int)(f:Int)(m:MB)(w:Y)(hF:JQ w v F xs)(hm:(F.map Prod.fst)[h]?=K m)(hy:Rd w 1 (Z y.a y.n y.c) C (Ad As C))(aA:C.length<=1024)(A:∀z∈C,∃b:Nat,z=(b:Int)/\b< ↑F)(hc:Rd w 4 (Z v.c.a v.c.n v.c.c) xs (Ad MI.cells xs)):
 Ai Aq 71 #[An v.cells,An #[h,Z x.a x.n x.c,Z y.a y.n y.c],f] w λe w'=>AM e (∃a,DZ (F.map Prod.fst) C a/\a≠m.cz/\Qn xs f a)/\Ah w w w':=by
 have H:=Aw (fd hF (fd hm (fd hy (fd aA (fd A hc)))));have aT:xs.length<=1024:=hF.top;clear hF hm hy aA A hc;have V:=BT w v.cells #[h,Z x.a x.n x.c,Z y.a y.n y.c] 111 65;go_enter func71,ntmps71;go_upto_region 1 with fail
 refine Av (λu=>Ae (Qm w u v h x y)) ⟨V.1,V.2.1,V.2.2⟩ ?_;rintro U I;clear V;obtain⟨p0,p1,p2,p3,p4,p5,p6,R,p8,p9,aa,ae,ai,aj,aq⟩:=CY I.body;obtain⟨l0,l1,l2⟩:=Dv I.loop;go_wp2_with fail;refine(Fz v (h:Int) x y F xs C U (H.1.av I.cq) (H.2.2.1.av I.cq lR) H.2.2.2.1 H.2.2.2.2.1).mono ?_;rintro e u1 ⟨pa,pc,l,rfl,aG,aF,aS,N⟩;have E1:=Aw (fd (I.av N) aG);have HI:=Aw aF;have HP:Ae (∀z∈l,∃(d:Nat) (q:MI),z=(d:Int)/\d< ↑xs/\xs[d]?=K q):= λz A=>by obtain⟨y',aM,m',D,E,h3⟩:=(HI.o z).1 A;obtain⟨b,eb,hb⟩:=H.2.2.2.2.1 y' aM;rw[eb,i9]at D;obtain⟨a,e,e1,e2,e3,e4⟩:=H.1.eP b m' D;rw[e1]at E;rw[e2]at h3;obtain⟨d,hd⟩:=jW (show 0<=z from oM);exact⟨d,_,hd,oM,an oM⟩
 clear N aG aF I p0 p1 p2 p3 p4 p5 p6 R p8 p9 aa ae ai aj aq l0 l1 l2;clear U;go_wp2_with fail;go_loopw [15] (λi wr=>∃k:Nat,k<= ↑l/\i=iZ k/\Ae (∀(j:Nat) (z:Int),j<k->l[j]?=K z->¬(z≠m.cz/\Qn xs f z))/\Ae (Qm w wr v h x y/\Rd wr 1 (Z pa l pc) l (Ad As l))) (λi _=> ↑l-(intOf i).toNat)
 case atStart=>exact⟨0,oM,rfl, λj z Q=>absurd Q oM,E1⟩
 case round=>
 clear E1;obtain⟨k,hk,rfl,HT,E1⟩:=hrel;by_cases aJ:k< ↑l
 case pos=>
  obtain⟨z,A⟩:∃z,l[k]?=K z:=⟨_,an aJ⟩;obtain⟨d,⟨s,ya,yb,yc⟩,ed,hd,t⟩:=HP.o z (hC A);rcases E1.2.2 with⟨q0,_⟩|⟨gp,op,cp,G,aE⟩
  . omega
  simp only[i8,kW]at G;obtain⟨rfl,rfl⟩:=G;have z0:=Rd.elem AE aE k z A 0 _ rfl;rw[lJ,jV,ed]at z0;rcases H.2.2.2.2.2.2 with⟨q0,_⟩|⟨gc,oc,cc,G,P⟩
  . omega
  simp only[i8]at G;have ax:=Aw (fd G.1 G.2.1);have r:=Rd.elem MI.bW P d _ t 0 _ rfl;have O:=Rd.elem MI.bW P d _ t 1 _ rfl;have S:=Rd.elem MI.bW P d _ t 2 _ rfl;have T:=Rd.elem MI.bW P d _ t 3 _ rfl;rw[<-E1.1.cq.cell (i7 r),jV]at r;rw[<-E1.1.cq.cell (i7 O)]at O;rw[<-E1.1.cq.cell (i7 S)]at S;rw[<-E1.1.cq.cell (i7 T)]at T;simp only[]at r O S T;have B:=Aw (fd A (fd ed t));clear P aE G A ed t;obtain⟨p0,p1,p2,p3,p4,p5,p6,R,p8,p9,aa,ae,ai,aj,aq⟩:=CY E1.1.body;simp only[ax.1,ax.2]at R;have aR:(d:Int)<(xs:Int):=oM;have s1:¬gc=wr.heap.size:=lL (i7 r);have s2:gc<wr.heap.size:=i7 r;go_upto_region 5 with fail
  refine Av (λu=>Ae ((Qm w u v h x y/\Rd u 1 (sO gp op l pc) l (Ad As l))/\Ay u wr #[s,ya,yb,yc] 25)) ⟨⟨E1.1.av (Al _ _),E1.2.av (Al _ _) lR⟩,Ay.new _ _ _⟩ ?_
  rintro UA p;generalize wr.heap.size=YB at p⊢;clear s1 s2 r O S T z0 E1 p0 p1 p2 p3 p4 p5 p6 R p8 p9 aa ae ai aj aq;obtain⟨r,O,S,T⟩:=Ef p.2;have HW:Ae (Qn xs f z↔(s=3\/s=27)/\ya=f):=by
   constructor
   . rintro⟨q,t,D,E⟩;rw[B.2.1,i9,B.2.2]at t;have ey:=jM t;subst ey;exact⟨D,E⟩
   rintro⟨D,E⟩;exact⟨_,by rw[B.2.1,i9];exact B.2.2,D,E⟩
  have W:Ae (¬(z≠m.cz/\Qn xs f z)->∀(j:Nat) (z:Int),j<k+1->l[j]?=K z->¬(z≠m.cz/\Qn xs f z)):= λaK j z' Q au=>by
   by_cases e:j=k
   . subst e;rw[B.1]at au;have ez:=jM au;subst ez;exact aK
   exact HT.o j z' oM au
  by_cases g:s=3\/s=27
  case neg=>
   (have g2:¬s=3:= λe=>g (.inl e));(have g3:¬s=27:= λe=>g (.inr e));have L:Ae (¬(z≠m.cz/\Qn xs f z)):= λe=>g (HW.1 e.2).1
   clear g;go_wp2;go_roundw;(case rel=>exact⟨k+1,oM,by go_num,W.o L,p.1⟩);exact oI
  by_cases X:ya=f;case neg=>
   (have aO:(ya==f)=false:=by simp[X]);have L:Ae (¬(z≠m.cz/\Qn xs f z)):= λe=>X (HW.1 e.2).2
   rcases g with g|g
   . rw[g]at r;go_wp2;go_roundw;(case rel=>exact⟨k+1,oM,by go_num,W.o L,p.1⟩);exact oI
   rw[g]at r;go_wp2;go_roundw;(case rel=>exact⟨k+1,oM,by go_num,W.o L,p.1⟩);exact oI
  have aH:=Aw (HW.2 ⟨g,X⟩);rw[X]at O;obtain⟨p0,p1,p2,p3,p4,p5,p6,R,p8,p9,aa,ae,ai,aj,aq⟩:=CY p.1.1.body;obtain⟨l0,l1,l2⟩:=Dv p.1.1.loop;have HK:Ae ((s=3\/s=27)->True):= λ_=>trivial
  have hY:∀o:Int,(o=3\/o=27)->o=s->True:= λ_ _ _=>trivial
  clear hY HK;rcases g with g|g
  all_goals
   rw[g]at r;go_wp2_with fail;refine(Ke v h x y F m UA (jN H.1.len oM) ((H.1.rd).av p.1.1.cq lR) H.2.1).mono ?_;rintro e u3 ⟨rfl,N⟩;have E3:=Aw (fd (p.1.1.av N) (p.1.2.av N lR));clear N;by_cases g5:(d:Int)=m.cz
   . have L:Ae (¬(z≠m.cz/\Qn xs f z)):= λe=>e.1 (by rw[B.2.1];exact g5)
     go_wp2;go_roundw;(case rel=>exact⟨k+1,oM,by go_num,W.o L,E3⟩);exact oI
   (have aQ:((d:Int)==m.cz)=false:=by simp[g5]);have HY:Ae (∃a,DZ (F.map Prod.fst) C a/\a≠m.cz/\Qn xs f a):=⟨z,(HI.o z).1 (hC B.1),by rw[B.2.1];exact g5,aH⟩
   go_wp2;go_ret;exact⟨.fk HY,E3.1.cq⟩
 have aI:k=l.length:=oM;subst aI;have HN:Ae (¬∃a,DZ (F.map Prod.fst) C a/\a≠m.cz/\Qn xs f a):= λ⟨a,D,E⟩=>by obtain⟨j,Q⟩:=kq ((HI.o a).2 D);exact HT.o j a (f7.1 Q).1 Q E
 go_wp2;go_ret;exact⟨.no HN,E1.1.cq⟩
end Go.Proofs.YtkgohaigebcgoaaGreatDoor
