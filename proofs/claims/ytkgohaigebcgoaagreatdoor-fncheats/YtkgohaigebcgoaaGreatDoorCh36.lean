import Derived.Test.YtkgohaigebcgoaaGreatDoorCh35
namespace Go.Proofs.YtkgohaigebcgoaaGreatDoor
open Go.ChangeShapes Go.WideShapes Go.ChangeAt Go.RowKit Go.Proofs.Tryz
set_option linter.unusedVariables false
open Go.Value renaming slice → Z,int → Ag,agg → An,bool → Ao,tuple → Ap
open Option renaming some → K,none → M
open Go renaming Value → J,World → Y,Calls → Ai
open Go.RowKit renaming Hid → Ae,Below → Ah
open Go.Obj renaming cells → Ak
open Go.Ending renaming returned → Am
open Go.Proofs.Tryz renaming prog → Aq
open Go.World renaming alloc → Ac
open List renaming flatMap → Ad
set_option maxHeartbeats 4000000
set_option maxRecDepth 100000
structure EJ where
 a:Option Addr
 n:Nat
 c:Nat
structure BN where
 r:EJ
 k:EJ
 f:EJ
 t:EJ
 p:EJ
 rs:Int
 l:EJ
 c:EJ
 nu:Int
 co:Int
 at_:Int
 b:EJ
 o:EJ
 i:EJ
 q:EJ
def BN.cells(v:BN):Array J:=#[Z v.r.a v.r.n v.r.c,Z v.k.a v.k.n v.k.c,Z v.f.a v.f.n v.f.c,Z v.t.a v.t.n v.t.c,Z v.p.a v.p.n v.p.c,v.rs,Z v.l.a v.l.n v.l.c,Z v.c.a v.c.n v.c.c,v.nu,v.co,v.at_,Z v.b.a v.b.n v.b.c,Z v.o.a v.o.n v.o.c,Z v.i.a v.i.n v.i.c,Z v.q.a v.q.n v.q.c]
structure PR(w u:Y)(v:BN)(hd:Int)(x y:EJ):Prop where
 body:Ay u w v.cells 111
 loop:Ay u ((w:Nat)+1) #[hd,Z x.a x.n x.c,Z y.a y.n y.c] 65
 ia:Ay u ((w:Nat)+1+1) #[iZ 0,iZ 0,iZ 0,Ag .u32 0] 37
 cq:Ah w w u
theorem PR.av{w u c:Y}{v:BN}{b:Int}{x y:EJ}(h:PR w u v b x y)(a:Ah u u c):PR w c v b x y:=⟨h.body.av a,h.loop.av a,h.ia.av a,Ar h.cq lR a⟩
theorem LE(v:BN)(x y:EJ)(ts:List MT)(F:List (MB×J))(h:Nat)(m:MB)(w:Y)(hn:F.length<=1048576)(hb:Rd w 3 (Z v.b.a v.b.n v.b.c) F (Ad Dj F))(hm:(F.map Prod.fst)[h]?=K m)(ai:ts.length<=1048576)(ht:Rd w 4 (Z v.t.a v.t.n v.t.c) ts (Ad MT.cells ts)):
 Ai Aq 67 #[An v.cells,An #[h,Z x.a x.n x.c,Z y.a y.n y.c]] w λe w'=>(∃t b,e=Am (Ap #[An #[iZ t.func,iZ t.head,iZ t.dT,Ag .u32 t.init],Ao b])/\(b=true->Cr ts v.nu m.cz=K t)/\(b=false->Cr ts v.nu m.cz=M))/\Ah w w w':=by
 have E:=Aw (lN hn (lN hb hm));obtain⟨a1,c1,G⟩:=ht.aD;simp only[lU]at G;have HT:=Aw ht;have HN:=Aw G.2.1.symm;rw[HN]at ai HT;clear hn hb hm ht G a1 c1;have N:=Gw w v.cells #[h,Z x.a x.n x.c,Z y.a y.n y.c] #[iZ 0,iZ 0,iZ 0,Ag .u32 0] 111 65 37;have E1:Ae (PR w (Ac (Ac (Ac w (Ak v.cells 111)) (Ak #[h,Z x.a x.n x.c,Z y.a y.n y.c] 65)) (Ak #[iZ 0,iZ 0,iZ 0,Ag .u32 0] 37)) v h x y):=⟨N.1,N.2.1,N.2.2.1,N.2.2.2⟩;clear N;go_enter func67,ntmps67;go_upto_region 1 with fail
 refine Av (λu=>Ae (PR w u v h x y)) E1 ?_;rintro U A;clear E1;have W:=A.body.cell 3;simp only[BN.cells]at W;go_wp2;go_loopw [13] (λi wr=>∃k:Nat,k<=v.t.n/\i=iZ k/\Ae (∀j c,j<k->ts[j]?=K c->¬(c.func=v.nu/\c.head=m.cz))/\Ae (PR w wr v h x y)) (λi _=>v.t.n-(intOf i).toNat)
 case atStart=>exact⟨0,oM,rfl, λj c D=>oM,A⟩
 clear W A;obtain⟨k,hk,rfl,Q,A⟩:=hrel;by_cases ae:k<v.t.n
 . obtain⟨⟨fu,hd,co,V⟩,H⟩:∃z,ts[k]?=K z:=⟨_,an (by rw[HN];exact ae)⟩;rcases HT.2 with⟨e0,_⟩|⟨b,o,c,G,O⟩
   . omega
   simp only[lU,mj]at G;obtain⟨e2,e3⟩:=G;have I:=Rd.elem MT.bW O k _ H 0 _ rfl;have R:=Rd.elem MT.bW O k _ H 1 _ rfl;have S:=Rd.elem MT.bW O k _ H 2 _ rfl;have T:=Rd.elem MT.bW O k _ H 3 _ rfl;rw[<-A.cq.cell (lT I),mL]at I;rw[<-A.cq.cell (lT R)]at R;rw[<-A.cq.cell (lT S)]at S;rw[<-A.cq.cell (lT T)]at T;simp only[]at I R S T;have HX:=Aw H;clear O H e3;have nb:¬b=wr.heap.size:=nZ (lT I);have mb:b<wr.heap.size:=lT I;(go_upto_region 4 with fail);refine Av (λu=>Ae (PR w u v h x y/\Ay u wr #[fu,hd,co,Ag .u32 V] 37)) ⟨A.av (Al _ _),Ay.new _ _ _⟩ ?_
   rintro s g;have inst:=Ax.some s;(have p0:= λd:Ax s=>Ax.cell (g.1.body.cell 0) d);(have p1:= λd:Ax s=>Ax.cell (g.1.body.cell 1) d);(have p2:= λd:Ax s=>Ax.cell (g.1.body.cell 2) d);(have W:= λd:Ax s=>Ax.cell (g.1.body.cell 3) d);(have p4:= λd:Ax s=>Ax.cell (g.1.body.cell 4) d);(have p5:= λd:Ax s=>Ax.cell (g.1.body.cell 5) d);(have p6:= λd:Ax s=>Ax.cell (g.1.body.cell 6) d);(have p7:= λd:Ax s=>Ax.cell (g.1.body.cell 7) d);(have p8:= λd:Ax s=>Ax.cell (g.1.body.cell 8) d);(have p9:= λd:Ax s=>Ax.cell (g.1.body.cell 9) d);(have aj:= λd:Ax s=>Ax.cell (g.1.body.cell 10) d);(have aq:= λd:Ax s=>Ax.cell (g.1.body.cell 11) d);(have au:= λd:Ax s=>Ax.cell (g.1.body.cell 12) d);(have ax:= λd:Ax s=>Ax.cell (g.1.body.cell 13) d);(have aA:= λd:Ax s=>Ax.cell (g.1.body.cell 14) d);simp only[BN.cells]at p0 p1 p2 W p4 p5 p6 p7 p8 p9 aj aq au ax aA;obtain⟨l0,l1,l2⟩:=CI g.1.loop;(have L0:= λd:Ax s=>Ax.cell l0 d);(have L1:= λd:Ax s=>Ax.cell l1 d);(have L2:= λd:Ax s=>Ax.cell l2 d);(have C0:= λd:Ax s=>Ax.cell (g.2.cell 0) d);(have C1:= λd:Ax s=>Ax.cell (g.2.cell 1) d);(have C2:= λd:Ax s=>Ax.cell (g.2.cell 2) d);(have C3:= λd:Ax s=>Ax.cell (g.2.cell 3) d);clear I R S T nb mb A l0 l1 l2 e2;by_cases X:fu=v.nu;case neg=>
    (have aF:(fu==v.nu)=false:=by simp[X]);have aa:Ae (∀j c,j<k+1->ts[j]?=K c->¬(c.func=v.nu/\c.head=m.cz)):= λj c D C=>by
     by_cases e:j=k
     . subst e;rw[HX]at C;(cases C);exact λe=>X e.1
     exact Q.o j c oM C
    refine AC kR kR ?_;(repeat(go_big_quiet_step (fail)));refine wpQuiet_nil ?_;rintro L ⟨d,rfl⟩;go_wp2;go_roundw;(case rel=>exact⟨k+1,oM,by go_num,aa,g.1.av d.h⟩);exact oI
   case pos=>
    by_cases q2:hd=m.cz;case neg=>
     (have aG:(hd==m.cz)=false:=by simp[q2]);have aa:Ae (∀j c,j<k+1->ts[j]?=K c->¬(c.func=v.nu/\c.head=m.cz)):= λj c D C=>by
      by_cases e:j=k
      . subst e;rw[HX]at C;(cases C);exact λe=>q2 e.2
      exact Q.o j c oM C
     subst X;refine AC kR kR ?_;(repeat(go_big_quiet_step ((first|(go_at_call 68;rename_i d;exact(Ex (Z v.r.a v.r.n v.r.c) (Z v.k.a v.k.n v.k.c) (Z v.f.a v.f.n v.f.c) (Z v.t.a v.t.n v.t.c) (Z v.p.a v.p.n v.p.c) v.rs (Z v.l.a v.l.n v.l.c) (Z v.c.a v.c.n v.c.c) v.nu v.co v.at_ (Z v.b.a v.b.n v.b.c) (Z v.o.a v.o.n v.o.c) (Z v.i.a v.i.n v.i.c) (Z v.q.a v.q.n v.q.c) (Z x.a x.n x.c) (Z y.a y.n y.c) F h m d.u E.1 (E.2.1.av (Ar g.1.cq lR d.h) lR) E.2.2).mono λe L P=>⟨P.1,⟨⟨L,Ar d.h lR P.2⟩,rfl⟩⟩)))));refine wpQuiet_nil ?_;rintro L ⟨d,rfl⟩;go_wp2;go_roundw;(case rel=>exact⟨k+1,oM,by go_num,aa,g.1.av d.h⟩);exact oI
    case pos=>subst X q2;(have HS:Ae (Cr ts v.nu m.cz=K ⟨v.nu,m.cz,co,V⟩):=Ql HX ⟨rfl,rfl⟩ λj c D C=>Q.o j c D C);refine AC kR kR ?_;(repeat(go_big_quiet_step ((first|(go_at_call 68;rename_i d;exact(Ex (Z v.r.a v.r.n v.r.c) (Z v.k.a v.k.n v.k.c) (Z v.f.a v.f.n v.f.c) (Z v.t.a v.t.n v.t.c) (Z v.p.a v.p.n v.p.c) v.rs (Z v.l.a v.l.n v.l.c) (Z v.c.a v.c.n v.c.c) v.nu v.co v.at_ (Z v.b.a v.b.n v.b.c) (Z v.o.a v.o.n v.o.c) (Z v.i.a v.i.n v.i.c) (Z v.q.a v.q.n v.q.c) (Z x.a x.n x.c) (Z y.a y.n y.c) F h m d.u E.1 (E.2.1.av (Ar g.1.cq lR d.h) lR) E.2.2).mono λe L P=>⟨P.1,⟨⟨L,Ar d.h lR P.2⟩,rfl⟩⟩)))));refine wpQuiet_nil ?_;rintro L ⟨d,rfl⟩;have d0:=C0 d;have d1:=C1 d;have d2:=C2 d;have d3:=C3 d;have B:Ae (PR w d.u v h x y):=g.1.av d.h;have r0:=B.ia.cell 0;have r1:=B.ia.cell 1;have r2:=B.ia.cell 2;have r3:=B.ia.cell 3;have f0:=B.ia.frozen 0;have f1:=B.ia.frozen 1;have f2:=B.ia.frozen 2;have f3:=B.ia.frozen 3;generalize d.u=u5 at*;go_wp2;exact mM (v:=Ap #[An #[v.nu,m.cz,co,Ag .u32 V],true]) (by simp[results,results67,go_sem,r0,r1,r2,r3]) rfl ⟨⟨⟨v.nu,m.cz,co,V⟩,true,rfl, λ_=>HS.o, λe=>(by cases e)⟩,((((B.cq.setCell oS _).setCell oS _).setCell oS _).setCell oS _)⟩
 have aE:k=v.t.n:=oM;have r0:=A.ia.cell 0;have r1:=A.ia.cell 1;have r2:=A.ia.cell 2;have r3:=A.ia.cell 3;have f0:=A.ia.frozen 0;have f1:=A.ia.frozen 1;have f2:=A.ia.frozen 2;have f3:=A.ia.frozen 3;go_wp2;exact mM (v:=Ap #[An #[iZ 0,iZ 0,iZ 0,Ag .u32 0],false]) (by simp[results,results67,go_sem,r0,r1,r2,r3]) rfl ⟨⟨⟨0,0,0,0⟩,false,rfl, λe=>(by cases e), λ_=>Qk λj c D=>Q.o j c (by have:=(f7.1 D).1;rw[HN]at this;omega) D⟩,((((A.cq.setCell oS _).setCell oS _).setCell oS _).setCell oS _)⟩
end Go.Proofs.YtkgohaigebcgoaaGreatDoor
