import Derived.Test.YtkgohaigebcgoaaGreatDoorLo42
namespace Go.Proofs.YtkgohaigebcgoaaGreatDoor
open Go.ChangeShapes Go.WideShapes Go.ChangeAt Go.RowKit Go.Proofs.Tryz
set_option linter.unusedVariables false
open Go.Value renaming slice → Z,int → Ag,agg → An
open Option renaming some → K,none → M
open Go renaming Value → J,World → Y,Calls → Ai
open Go.RowKit renaming Hid → Ae,Below → Ah
open Go.Ending renaming returned → Am
open Go.Proofs.Tryz renaming prog → Aq
open Go.World renaming setCell → Aa
open List renaming flatMap → Ad
set_option maxHeartbeats 8000000
set_option maxRecDepth 100000
variable {w u:Y}{v:BQ}{y x:Fs}{h a:Nat}{t:MT}
structure Wp(w:Y)(v:BQ)(y:Fs)(p:MP)(fi:Int)(F:List (MB×J))(xs:List MI)(h:Nat)(l:ML)(hb:MB):Prop where
 bs:JQ w v F xs
 nx:∀z∈F,YP w z.2 z.1/\z.1.next.length<=1048576
 cd:Uh w v xs p.b8
 tn:p.bO.length<=1048576
 tr:Rd w 4 (Z v.t.a v.t.n v.t.c) p.bO (Ad MT.cells p.bO)
 nu:v.nu=fi
 head:l.head=(h:Int)
 hb:(F.map Prod.fst)[h]?=K hb
 bl:Rd w 1 (Z y.a y.n y.c) l.aC (Ad As l.aC)
 bn:l.aC.length<=1024
 bz:∀z∈l.aC,∃b:Nat,z=(b:Int)/\b< ↑F
theorem Wp.av{p:MP}{b:Int}{F:List (MB×J)}{xs:List MI}{l:ML}{m:MB}(H:Wp w v y p b F xs h l m)(a:Ah w w u):Wp u v y p b F xs h l m:=⟨H.bs.av a, λz c=>⟨(H.nx z c).1.av a lR,(H.nx z c).2⟩,H.cd.av a,H.tn,H.tr.av a lR,H.nu,H.head,H.hb,H.bl.av a lR,H.bn,H.bz⟩
structure Wu(w u:Y)(v:BQ)(h:Nat)(x y:Fs)(CB:Nat)(t:MT):Prop where
 wf:Qm w u v h x y
 fj:Ay u CB #[t.func,t.head,t.eI,Ag .u32 t.init] 37
theorem Wu.av{c:Y}(H:Wu w u v h x y a t)(b:Ah u u c):Wu w c v h x y a t:=⟨H.wf.av b,H.fj.av b⟩
theorem Wu.set(H:Wu w u v h x y a t){b:Nat}(d: ↑w+1<b)(c:a≠b)(j:Nat)(z:J):Wu w (Aa u ⟨b,j,M⟩ z) v h x y a t:=⟨⟨H.wf.body.other oS z,H.wf.loop.other oS z,H.wf.cq.setCell oS z⟩,H.fj.other c z⟩
theorem Ny(v:BQ)(h:Nat)(x y:Fs)(p:MP)(fi:Int)(F:List (MB×J))(xs:List MI)(l:ML)(m:MB)(w:Y)(hB:Wp w v y p fi F xs h l m):
 Ai Aq 33 #[An v.cells,An #[h,Z x.a x.n x.c,Z y.a y.n y.c]] w λe d=>(∃n,e=Am (iZ n)/\A6 p fi xs (F.map Prod.fst) l n)/\Ah w w d:=by
 have H:=Aw hB;have bI:xs.length<=1024:=hB.bs.top;obtain⟨A,me,aJ,bf,bG,bH⟩:=hB.bs.eP h m hB.hb;have HM:Ae (m.cz=(A:Int)/\(F.map Prod.fst)[l.head.toNat]?=K m/\F.length<=1048576):=⟨aJ,by rw[hB.head,i9];exact hB.hb,jN hB.bs.len oM⟩
 obtain⟨g,hg⟩:∃g,xs[A]?=K g:=⟨_,an oM⟩;have HG:=Aw hg;rcases hB.cd.aU.2 with⟨q0,_⟩|⟨gc,C,cc,q1,ax⟩
 . omega
 simp only[i8]at q1;have HQ:=Aw (fd q1.1 q1.2.1);have HC:Ae (∀(u:Y),Ah w w u->u ⟨gc,C+A*4,M⟩=K ↑g.op/\u ⟨gc,C+A*4+1,M⟩=K ↑g.a/\u ⟨gc,C+A*4+2,M⟩=K ↑g.b/\u ⟨gc,C+A*4+3,M⟩=K ↑g.c):= λu hu=>by have i0:=Rd.elem MI.bW ax A g hg 0 _ rfl;have i1:=Rd.elem MI.bW ax A g hg 1 _ rfl;have i2:=Rd.elem MI.bW ax A g hg 2 _ rfl;have i3:=Rd.elem MI.bW ax A g hg 3 _ rfl;rw[<-hu.cell (i7 i0),jV]at i0;rw[<-hu.cell (i7 i1)]at i1;rw[<-hu.cell (i7 i2)]at i2;rw[<-hu.cell (i7 i3)]at i3;exact⟨i0,i1,i2,i3⟩
 have bC:(A:Int)<(xs:Int):=oM;clear hB hg ax q1 aJ bf;have E0:=BT w v.cells #[h,Z x.a x.n x.c,Z y.a y.n y.c] 111 65;go_enter func33,ntmps33;go_upto_region 1 with fail
 refine Av (λu=>Ae (Qm w u v h x y)) ⟨E0.1,E0.2.1,E0.2.2⟩ ?_;rintro U HE;clear E0;obtain⟨T,V,p2,p3,p4,p5,p6,L,p8,p9,W,X,aa,ae,ai⟩:=CY HE.body;obtain⟨P,Q,R⟩:=Dv HE.loop;go_wp2_with fail;refine(LQ v x y p.bO F h m U HM.2.2 (H.av HE.cq).bs.rd H.hb H.tn (H.av HE.cq).tr).mono ?_;rintro e u1 ⟨⟨t,b,rfl,aq,aK⟩,z⟩;have HT:Ae ((b=true->Da p.bO fi m.cz=K t)/\(b=false->Da p.bO fi m.cz=M)):=by rw[<-H.nu];exact⟨aq,aK⟩
 have E1:=Aw (HE.av z);clear aq aK z HE T V p2 p3 p4 p5 p6 L p8 p9 W X aa ae ai P Q R;clear U;go_upto_region 2 with fail
 refine Av (λu=>Ae (Wu w u v h x y u1 t)) ⟨E1.av (Al _ _),Ay.new _ _ _⟩ ?_;rintro U2 E2;generalize u1.heap.size=CB at E2⊢;clear E1;clear u1;obtain⟨T,V,p2,p3,p4,p5,p6,L,p8,p9,W,X,aa,ae,ai⟩:=CY E2.wf.body;obtain⟨P,Q,R⟩:=Dv E2.wf.loop;simp only[HQ.1,HQ.2]at L;have G:=Aw (fd (Ar E2.wf.cq lR (At _)) (E2.av (At _)));go_cut [7] (λs wx=>∃GB:Nat,s=.pointer GB/\Ae (Wu w wx v h x y CB t/\Ay wx GB #[g.op,g.a,g.b,g.c] 25))
 case first=>
  have O:∀d,Wu w d v h x y CB t->d.cell? w=K (Z v.r.a v.r.n v.r.c)/\d.cell? ⟨w,1,M⟩=K (Z v.k.a v.k.n v.k.c)/\d.cell? ⟨w,2,M⟩=K (Z v.f.a v.f.n v.f.c)/\d.cell? ⟨w,3,M⟩=K (Z v.t.a v.t.n v.t.c)/\d.cell? ⟨w,4,M⟩=K (Z v.p.a v.p.n v.p.c)/\d.cell? ⟨w,5,M⟩=K ↑v.rs/\d.cell? ⟨w,6,M⟩=K (Z v.l.a v.l.n v.l.c)/\d.cell? ⟨w,7,M⟩=K (sO gc C xs v.c.c)/\d.cell? ⟨w,8,M⟩=K ↑v.nu/\d.cell? ⟨w,9,M⟩=K ↑v.co/\d.cell? ⟨w,10,M⟩=K ↑v.at_/\d.cell? ⟨w,11,M⟩=K (Z v.b.a v.b.n v.b.c)/\d.cell? ⟨w,12,M⟩=K (Z v.o.a v.o.n v.o.c)/\d.cell? ⟨w,13,M⟩=K (Z v.i.a v.i.n v.i.c)/\d.cell? ⟨w,14,M⟩=K (Z v.q.a v.q.n v.q.c)/\d.cell? ⟨(w:Nat)+1,0,M⟩=K ↑h/\d.cell? ⟨(w:Nat)+1,1,M⟩=K (Z x.a x.n x.c)/\d.cell? ⟨(w:Nat)+1,2,M⟩=K (Z y.a y.n y.c)/\d.cell? ⟨gc,C+A*4,M⟩=K ↑g.op/\d.cell? ⟨gc,C+A*4+1,M⟩=K ↑g.a/\d.cell? ⟨gc,C+A*4+2,M⟩=K ↑g.b/\d.cell? ⟨gc,C+A*4+3,M⟩=K ↑g.c:= λd E=>by obtain⟨T,V,p2,p3,p4,p5,p6,L,p8,p9,W,X,aa,ae,ai⟩:=CY E.wf.body;obtain⟨P,Q,R⟩:=Dv E.wf.loop;simp only[HQ.1,HQ.2]at L;obtain⟨w0,w1,w2,w3⟩:=HC.o d E.wf.cq;exact⟨T,V,p2,p3,p4,p5,p6,L,p8,p9,W,X,aa,ae,ai,P,Q,R,w0,w1,w2,w3⟩
  clear T V p2 p3 p4 p5 p6 L p8 p9 W X aa ae ai P Q R;refine wp_region_held_drew (S:= λd=>d.cell? w=K (Z v.r.a v.r.n v.r.c)/\d.cell? ⟨w,1,M⟩=K (Z v.k.a v.k.n v.k.c)/\d.cell? ⟨w,2,M⟩=K (Z v.f.a v.f.n v.f.c)/\d.cell? ⟨w,3,M⟩=K (Z v.t.a v.t.n v.t.c)/\d.cell? ⟨w,4,M⟩=K (Z v.p.a v.p.n v.p.c)/\d.cell? ⟨w,5,M⟩=K ↑v.rs/\d.cell? ⟨w,6,M⟩=K (Z v.l.a v.l.n v.l.c)/\d.cell? ⟨w,7,M⟩=K (sO gc C xs v.c.c)/\d.cell? ⟨w,8,M⟩=K ↑v.nu/\d.cell? ⟨w,9,M⟩=K ↑v.co/\d.cell? ⟨w,10,M⟩=K ↑v.at_/\d.cell? ⟨w,11,M⟩=K (Z v.b.a v.b.n v.b.c)/\d.cell? ⟨w,12,M⟩=K (Z v.o.a v.o.n v.o.c)/\d.cell? ⟨w,13,M⟩=K (Z v.i.a v.i.n v.i.c)/\d.cell? ⟨w,14,M⟩=K (Z v.q.a v.q.n v.q.c)/\d.cell? ⟨(w:Nat)+1,0,M⟩=K ↑h/\d.cell? ⟨(w:Nat)+1,1,M⟩=K (Z x.a x.n x.c)/\d.cell? ⟨(w:Nat)+1,2,M⟩=K (Z y.a y.n y.c)/\d.cell? ⟨gc,C+A*4,M⟩=K ↑g.op/\d.cell? ⟨gc,C+A*4+1,M⟩=K ↑g.a/\d.cell? ⟨gc,C+A*4+2,M⟩=K ↑g.b/\d.cell? ⟨gc,C+A*4+3,M⟩=K ↑g.c) kR (O _ G.2) (λaj=> ?_)
  refine A5 0 ?_;refine A5 1 ?_;refine A5 2 ?_;refine A5 3 ?_;refine A5 4 ?_;refine A5 5 ?_;refine wpAnyH_ready (rs:=[6,9]) kR sP ?_;refine AllReadyH.cons rfl (λI j=> ?_) (AllReadyH.cons rfl (λI j=> ?_) AllReadyH.nil)
  . go_simp;refine(Ke {v with c:=⟨K ⟨gc,C,M⟩,xs,v.c.c⟩} h x y F m U2.drew HM.2.2 (H.av G.1).bs.rd H.hb).mono ?_;rintro e u3 ⟨rfl,z⟩;have E3:=Aw (G.2.av z);rw[HM.1];clear z;go_simp;refine j.o _ _ (O _ E3) (λaj=> ?_);clear j I;refine A5 7 ?_;refine A5 8 ?_;refine DU 9 ?_;intro I j;go_simp;refine j.o _ _ (O _ (E3.av (Al _ _))) (λaj=> ?_);clear j I;refine DU 10 ?_;intro I j;go_simp;refine j.o _ _ (O _ (E3.av (Al _ _))) (λaj=> ?_);clear j I;refine wpAnyH_done kR ?_ _;go_wp2_with fail;go_meet;exact⟨u3,rfl,E3.av (Al _ _),Ay.new _ _ _⟩
  go_simp;refine j.o _ _ (O _ (G.2.av (Al _ _))) (λaj=> ?_);clear j I;refine DU 6 ?_;intro I j;go_simp;refine(Ke {v with c:=⟨K ⟨gc,C,M⟩,xs,v.c.c⟩} h x y F m _ HM.2.2 (H.av (Ar G.1 lR (Al _ _))).bs.rd H.hb).mono ?_;rintro e u3 ⟨rfl,z⟩;have E3:Ae (Wu w u3 v h x y CB t):=(G.2.av (Al _ _)).av z;have BZ:Ae (Ay u3 U2.drew #[iZ 0,iZ 0,iZ 0,iZ 0] 25):=(Ay.new _ _ _).av z;rw[HM.1];clear z;go_simp;refine j.o _ _ (O _ E3) (λaj=> ?_);clear j I;refine A5 7 ?_;refine A5 8 ?_;refine DU 10 ?_;intro I j;have aW:=BZ.cell 0;have aX:=BZ.cell 1;have aY:=BZ.cell 2;have aZ:=BZ.cell 3;have bg:=BZ.frozen 0;have bi:=BZ.frozen 1;have bj:=BZ.frozen 2;have bq:=BZ.frozen 3;have br:(U2.drew:Nat)=U2.heap.size:=rfl;simp only[br]at aW aX aY aZ bg bi bj bq;have aq:(w:Nat)+1<U2.heap.size:=E2.wf.loop.lt;have aA:CB≠U2.heap.size:=lL E2.fj.lt;have N:Ae _:=(((E3.set aq aA 0 g.op).set aq aA 1 g.a).set aq aA 2 g.b).set aq aA 3 g.c;have B5:Ae _:=(((BZ.set 0 g.op).set 1 g.a).set 2 g.b).set 3 g.c;simp only[kB,kX,kU]at B5;go_simp;refine j.o _ _ (O _ N) (λaj=> ?_);clear j I;refine wpAnyH_done kR ?_ _;go_wp2_with fail;go_meet;exact⟨U2,rfl,N,B5⟩
 case rest=>
 obtain⟨GB,rfl,E4⟩:=hcut;clear E2 G T V p2 p3 p4 p5 p6 L p8 p9 W X aa ae ai P Q R;cases b
 case false=>have D:Ae (A6 p fi xs (F.map Prod.fst) l 1):=A6.c1 HM.2.1 (HT.2 rfl);go_wp2;go_ret;exact⟨⟨1,rfl,D⟩,E4.1.wf.cq⟩
 have HL:Ae (Ui p fi xs (F.map Prod.fst) l m t g):=⟨HM.2.1,HT.1 rfl,by rw[HM.1,i9];exact HG⟩;clear HT;obtain⟨w0,w1,w2,w3⟩:=Ef E4.2;obtain⟨c0,c1,c2,c3⟩:=Ef E4.1.fj;by_cases g1:g.op=27;case neg=>
  have bu:(g.op==27)=false:=by simp[g1]
  have D:=Aw (A6.c2 HL λe=>g1 e.1);go_wp2;go_ret;exact⟨⟨2,rfl,D⟩,E4.1.wf.cq⟩
 have aG:=Aw g1;rw[g1]at w0;clear g1;by_cases g2:g.a=t.eI;case neg=>
  have bx:(g.a==t.eI)=false:=by simp[g2]
  have D:=Aw (A6.c2 HL λe=>g2 e.2);go_wp2;go_ret;exact⟨⟨2,rfl,D⟩,E4.1.wf.cq⟩
 have au:=Aw (fd aG.o g2);rw[g2]at w1;clear g2 aG;go_upto_region 7 with fail
 clear w0 w1 w2 w3 c0 c1 c2 c3;have G:=Aw (fd (Ar E4.1.wf.cq lR (At _)) (fd (E4.1.av (At _)) (E4.2.av (At _))));have O:∀d,Wu w d v h x y CB t->Ay d GB #[g.op,g.a,g.b,g.c] 25->d.cell? w=K (Z v.r.a v.r.n v.r.c)/\d.cell? ⟨w,1,M⟩=K (Z v.k.a v.k.n v.k.c)/\d.cell? ⟨w,2,M⟩=K (Z v.f.a v.f.n v.f.c)/\d.cell? ⟨w,3,M⟩=K (Z v.t.a v.t.n v.t.c)/\d.cell? ⟨w,4,M⟩=K (Z v.p.a v.p.n v.p.c)/\d.cell? ⟨w,5,M⟩=K ↑v.rs/\d.cell? ⟨w,6,M⟩=K (Z v.l.a v.l.n v.l.c)/\d.cell? ⟨w,7,M⟩=K (Z v.c.a v.c.n v.c.c)/\d.cell? ⟨w,8,M⟩=K ↑v.nu/\d.cell? ⟨w,9,M⟩=K ↑v.co/\d.cell? ⟨w,10,M⟩=K ↑v.at_/\d.cell? ⟨w,11,M⟩=K (Z v.b.a v.b.n v.b.c)/\d.cell? ⟨w,12,M⟩=K (Z v.o.a v.o.n v.o.c)/\d.cell? ⟨w,13,M⟩=K (Z v.i.a v.i.n v.i.c)/\d.cell? ⟨w,14,M⟩=K (Z v.q.a v.q.n v.q.c)/\d.cell? ⟨(w:Nat)+1,0,M⟩=K ↑h/\d.cell? ⟨(w:Nat)+1,1,M⟩=K (Z x.a x.n x.c)/\d.cell? ⟨(w:Nat)+1,2,M⟩=K (Z y.a y.n y.c)/\d.cell? ⟨GB,3,M⟩=K ↑g.c:= λd E B=>by obtain⟨T,V,p2,p3,p4,p5,p6,L,p8,p9,W,X,aa,ae,ai⟩:=CY E.wf.body;obtain⟨P,Q,R⟩:=Dv E.wf.loop;exact⟨T,V,p2,p3,p4,p5,p6,L,p8,p9,W,X,aa,ae,ai,P,Q,R,B.cell 3⟩
 refine wp_region_held_drew (S:= λd=>d.cell? w=K (Z v.r.a v.r.n v.r.c)/\d.cell? ⟨w,1,M⟩=K (Z v.k.a v.k.n v.k.c)/\d.cell? ⟨w,2,M⟩=K (Z v.f.a v.f.n v.f.c)/\d.cell? ⟨w,3,M⟩=K (Z v.t.a v.t.n v.t.c)/\d.cell? ⟨w,4,M⟩=K (Z v.p.a v.p.n v.p.c)/\d.cell? ⟨w,5,M⟩=K ↑v.rs/\d.cell? ⟨w,6,M⟩=K (Z v.l.a v.l.n v.l.c)/\d.cell? ⟨w,7,M⟩=K (Z v.c.a v.c.n v.c.c)/\d.cell? ⟨w,8,M⟩=K ↑v.nu/\d.cell? ⟨w,9,M⟩=K ↑v.co/\d.cell? ⟨w,10,M⟩=K ↑v.at_/\d.cell? ⟨w,11,M⟩=K (Z v.b.a v.b.n v.b.c)/\d.cell? ⟨w,12,M⟩=K (Z v.o.a v.o.n v.o.c)/\d.cell? ⟨w,13,M⟩=K (Z v.i.a v.i.n v.i.c)/\d.cell? ⟨w,14,M⟩=K (Z v.q.a v.q.n v.q.c)/\d.cell? ⟨(w:Nat)+1,0,M⟩=K ↑h/\d.cell? ⟨(w:Nat)+1,1,M⟩=K (Z x.a x.n x.c)/\d.cell? ⟨(w:Nat)+1,2,M⟩=K (Z y.a y.n y.c)/\d.cell? ⟨GB,3,M⟩=K ↑g.c) kR (O _ G.2.1 G.2.2) (λaj=> ?_)
 refine A5 0 ?_;refine A5 1 ?_;refine A5 3 ?_;refine A5 4 ?_;refine DU 2 ?_;intro I j;go_simp;refine(Fz v (h:Int) x y F xs l.aC wc.drew (H.av G.1).bs (H.av G.1).bl H.bn H.bz).mono ?_;rintro e u5 ⟨pa,pc,ps,rfl,aQ,aM,aO,z⟩;have N:=Aw (fd (G.2.1.av z) (fd (G.2.2.av z) (fd aQ aO)));have aH:=Aw aM;clear aQ aM aO z;go_simp;refine j.o _ _ (O _ N.1 N.2.1) (λaj=> ?_);clear j I;refine DU 5 ?_;intro I j;go_simp;refine(Fh pa pc ps g.c u5 N.2.2.2 N.2.2.1).mono ?_;rintro e u6 ⟨⟨q1,rfl,aR⟩,rfl⟩;have aE:=Aw (aR.trans (aH.o g.c));clear aR;go_simp;refine j.o _ _ (O _ N.1 N.2.1) (λaj=> ?_);clear j I;refine A5 6 ?_;refine wpAnyH_done kR ?_ _;clear aj O;have E6:=Aw (fd N.1 N.2.1);clear N G E4 aH;cases q1
 case true=>have D:=Aw (A6.c3 HL au (aE.1 rfl));go_wp2;go_ret;exact⟨⟨3,rfl,D⟩,E6.1.wf.cq⟩
 have H3:Ae (¬DZ (F.map Prod.fst) l.aC g.c):= λe=>(by have:=aE.2 e;cases this)
 clear aE;obtain⟨T,V,p2,p3,p4,p5,p6,L,p8,p9,W,X,aa,ae,ai⟩:=CY E6.1.wf.body;obtain⟨P,Q,R⟩:=Dv E6.1.wf.loop;obtain⟨c0,c1,c2,c3⟩:=Ef E6.1.fj;go_wp2_with fail;refine(It v h x y F xs l.aC t.eI m u6 (H.av E6.1.wf.cq).bs H.hb (H.av E6.1.wf.cq).bl H.bn H.bz (H.av E6.1.wf.cq).cd.aU).mono ?_;rintro e u7 ⟨⟨q2,rfl,aS⟩,z⟩;have E7:=Aw (E6.1.av z);have aF:=Aw aS;clear aS z E6 T V p2 p3 p4 p5 p6 L p8 p9 W X aa ae ai P Q R c0 c1 c2 c3;cases q2
 case true=>have D:=Aw (A6.c4 HL au H3 (aF.1 rfl));go_wp2;go_ret;exact⟨⟨4,rfl,D⟩,E7.wf.cq⟩
 have H4:Ae (¬∃a,DZ (F.map Prod.fst) l.aC a/\a≠m.cz/\Qn xs t.eI a):= λe=>(by have:=aF.2 e;cases this)
 clear aF;obtain⟨T,V,p2,p3,p4,p5,p6,L,p8,p9,W,X,aa,ae,ai⟩:=CY E7.wf.body;obtain⟨P,Q,R⟩:=Dv E7.wf.loop;obtain⟨c0,c1,c2,c3⟩:=Ef E7.fj;by_cases hh:h=0;case pos=>have D:=Aw (A6.c5 HL au H3 H4 (.inl (by rw[H.head,hh];rfl)));subst hh;go_wp2;go_ret;exact⟨⟨5,rfl,D⟩,E7.wf.cq⟩
 have bt:¬(h:Int)=0:=oM;have bB:((h:Int)==0)=false:=by simp[hh]
 go_wp2_with fail;refine(L4 v h x y F xs p.b8 l.aC t m u7 (H.av E7.wf.cq).bs H.hb (H.av E7.wf.cq).nx (H.av E7.wf.cq).bl H.bn (H.av E7.wf.cq).cd).mono ?_;rintro e u8 ⟨⟨q3,rfl,aT⟩,z⟩;have E8:=Aw (E7.av z);have aI:Ae (q3=true↔¬Ku p.b8 xs (F.map Prod.fst) l t):=by unfold Ku;rw[H.head];exact aT
 clear aT z E7 T V p2 p3 p4 p5 p6 L p8 p9 W X aa ae ai P Q R c0 c1 c2 c3;cases q3
 case true=>have D:=Aw (A6.c0 HL au H3 H4 (λe=>e.elim (λe=>bt (by rw[<-H.head];exact e)) (aI.1 rfl)));go_wp2;go_ret;exact⟨⟨0,rfl,D⟩,E8.wf.cq⟩
 have D:=Aw (A6.c5 HL au H3 H4 (.inr (kV λe=>(by have:=aI.2 e;cases this))));go_wp2;go_ret;exact⟨⟨5,rfl,D⟩,E8.wf.cq⟩
end Go.Proofs.YtkgohaigebcgoaaGreatDoor
