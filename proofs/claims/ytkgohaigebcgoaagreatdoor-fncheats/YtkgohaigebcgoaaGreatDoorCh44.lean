import Derived.Test.YtkgohaigebcgoaaGreatDoorCh43
namespace Go.Proofs.YtkgohaigebcgoaaGreatDoor
open Go.ChangeShapes Go.WideShapes Go.ChangeAt Go.RowKit Go.Proofs.Tryz
set_option linter.unusedVariables false
open Go.Value renaming slice → Z,int → Ag,agg → An
open Option renaming some → K,none → M
open Go renaming Value → J,World → Y,Calls → Ai
open Go.RowKit renaming Hid → Ae,Below → Ah
open Go.Ending renaming returned → Am
open Go.Proofs.Tryz renaming prog → Aq
open Go.World renaming setCell → Aa
open List renaming flatMap → Ad
set_option maxHeartbeats 8000000
set_option maxRecDepth 100000
variable {w u:Y}{v:BN}{y x:EJ}{h a:Nat}{t:MT}
structure T7(w:Y)(v:BN)(y:EJ)(p:MP)(fi:Int)(F:List (MB×J))(xs:List MI)(h:Nat)(l:ML)(hb:MB):Prop where
 bs:JI w v F xs
 nx:∀z∈F,Yq w z.2 z.1/\z.1.next.length<=1048576
 cd:T9 w v xs p.b8
 tn:p.bO.length<=1048576
 tr:Rd w 4 (Z v.t.a v.t.n v.t.c) p.bO (Ad MT.cells p.bO)
 nu:v.nu=fi
 head:l.head=(h:Int)
 hb:(F.map Prod.fst)[h]?=K hb
 bl:Rd w 1 (Z y.a y.n y.c) l.a7 (Ad At l.a7)
 bn:l.a7.length<=1024
 bz:∀z∈l.a7,∃b:Nat,z=(b:Int)/\b< ↑F
theorem T7.av{p:MP}{b:Int}{F:List (MB×J)}{xs:List MI}{l:ML}{m:MB}(H:T7 w v y p b F xs h l m)(a:Ah w w u):T7 u v y p b F xs h l m:=⟨H.bs.av a, λz c=>⟨(H.nx z c).1.av a lR,(H.nx z c).2⟩,H.cd.av a,H.tn,H.tr.av a lR,H.nu,H.head,H.hb,H.bl.av a lR,H.bn,H.bz⟩
structure We(w u:Y)(v:BN)(h:Nat)(x y:EJ)(CB:Nat)(t:MT):Prop where
 wf:P8 w u v h x y
 iP:Ay u CB #[t.func,t.head,t.dT,Ag .u32 t.init] 37
theorem We.av{c:Y}(H:We w u v h x y a t)(b:Ah u u c):We w c v h x y a t:=⟨H.wf.av b,H.iP.av b⟩
theorem We.set(H:We w u v h x y a t){b:Nat}(d: ↑w+1<b)(c:a≠b)(j:Nat)(z:J):We w (Aa u ⟨b,j,M⟩ z) v h x y a t:=⟨⟨H.wf.body.other oS z,H.wf.loop.other oS z,H.wf.cq.setCell oS z⟩,H.iP.other c z⟩
theorem Ix(v:BN)(h:Nat)(x y:EJ)(p:MP)(fi:Int)(F:List (MB×J))(xs:List MI)(l:ML)(m:MB)(w:Y)(hB:T7 w v y p fi F xs h l m):
 Ai Aq 33 #[An v.cells,An #[h,Z x.a x.n x.c,Z y.a y.n y.c]] w λe d=>(∃n,e=Am (iZ n)/\A5 p fi xs (F.map Prod.fst) l n)/\Ah w w d:=by
 have H:=Aw hB;have bH:xs.length<=1024:=hB.bs.top;obtain⟨A,me,aI,aZ,bC,bG⟩:=hB.bs.eI h m hB.hb;have HM:Ae (m.cz=(A:Int)/\(F.map Prod.fst)[l.head.toNat]?=K m/\F.length<=1048576):=⟨aI,by rw[hB.head,lV];exact hB.hb,mC hB.bs.len oM⟩
 obtain⟨g,hg⟩:∃g,xs[A]?=K g:=⟨_,an oM⟩;have HG:=Aw hg;rcases hB.cd.aU.2 with⟨q0,_⟩|⟨gc,C,cc,q1,au⟩
 . omega
 simp only[lU]at q1;have HQ:=Aw (lN q1.1 q1.2.1);have HC:Ae (∀(u:Y),Ah w w u->u ⟨gc,C+A*4,M⟩=K ↑g.op/\u ⟨gc,C+A*4+1,M⟩=K ↑g.a/\u ⟨gc,C+A*4+2,M⟩=K ↑g.b/\u ⟨gc,C+A*4+3,M⟩=K ↑g.c):= λu hu=>by have i0:=Rd.elem MI.bW au A g hg 0 _ rfl;have i1:=Rd.elem MI.bW au A g hg 1 _ rfl;have i2:=Rd.elem MI.bW au A g hg 2 _ rfl;have i3:=Rd.elem MI.bW au A g hg 3 _ rfl;rw[<-hu.cell (lT i0),mL]at i0;rw[<-hu.cell (lT i1)]at i1;rw[<-hu.cell (lT i2)]at i2;rw[<-hu.cell (lT i3)]at i3;exact⟨i0,i1,i2,i3⟩
 have bB:(A:Int)<(xs:Int):=oM;clear hB hg au q1 aI aZ;have E0:=Bw w v.cells #[h,Z x.a x.n x.c,Z y.a y.n y.c] 111 65;go_enter func33,ntmps33;go_upto_region 1 with fail
 refine Av (λu=>Ae (P8 w u v h x y)) ⟨E0.1,E0.2.1,E0.2.2⟩ ?_;rintro U HE;clear E0;obtain⟨R,T,p2,p3,p4,p5,p6,L,p8,p9,V,W,X,aa,ae⟩:=CW HE.body;obtain⟨O,P,Q⟩:=CI HE.loop;go_wp2_with fail;refine(LE v x y p.bO F h m U HM.2.2 (H.av HE.cq).bs.rd H.hb H.tn (H.av HE.cq).tr).mono ?_;rintro e u1 ⟨⟨t,b,rfl,aj,aJ⟩,z⟩;have HT:Ae ((b=true->Cr p.bO fi m.cz=K t)/\(b=false->Cr p.bO fi m.cz=M)):=by rw[<-H.nu];exact⟨aj,aJ⟩
 have E1:=Aw (HE.av z);clear aj aJ z HE R T p2 p3 p4 p5 p6 L p8 p9 V W X aa ae O P Q;clear U;go_upto_region 2 with fail
 refine Av (λu=>Ae (We w u v h x y u1 t)) ⟨E1.av (Al _ _),Ay.new _ _ _⟩ ?_;rintro U2 E2;generalize u1.heap.size=CB at E2⊢;clear E1;clear u1;obtain⟨R,T,p2,p3,p4,p5,p6,L,p8,p9,V,W,X,aa,ae⟩:=CW E2.wf.body;obtain⟨O,P,Q⟩:=CI E2.wf.loop;simp only[HQ.1,HQ.2]at L;have G:=Aw (lN (Ar E2.wf.cq lR (As _)) (E2.av (As _)));go_cut [7] (λs wx=>∃GB:Nat,s=.pointer GB/\Ae (We w wx v h x y CB t/\Ay wx GB #[g.op,g.a,g.b,g.c] 25))
 case first=>
  have N:∀d,We w d v h x y CB t->d.cell? w=K (Z v.r.a v.r.n v.r.c)/\d.cell? ⟨w,1,M⟩=K (Z v.k.a v.k.n v.k.c)/\d.cell? ⟨w,2,M⟩=K (Z v.f.a v.f.n v.f.c)/\d.cell? ⟨w,3,M⟩=K (Z v.t.a v.t.n v.t.c)/\d.cell? ⟨w,4,M⟩=K (Z v.p.a v.p.n v.p.c)/\d.cell? ⟨w,5,M⟩=K ↑v.rs/\d.cell? ⟨w,6,M⟩=K (Z v.l.a v.l.n v.l.c)/\d.cell? ⟨w,7,M⟩=K (sO gc C xs v.c.c)/\d.cell? ⟨w,8,M⟩=K ↑v.nu/\d.cell? ⟨w,9,M⟩=K ↑v.co/\d.cell? ⟨w,10,M⟩=K ↑v.at_/\d.cell? ⟨w,11,M⟩=K (Z v.b.a v.b.n v.b.c)/\d.cell? ⟨w,12,M⟩=K (Z v.o.a v.o.n v.o.c)/\d.cell? ⟨w,13,M⟩=K (Z v.i.a v.i.n v.i.c)/\d.cell? ⟨w,14,M⟩=K (Z v.q.a v.q.n v.q.c)/\d.cell? ⟨(w:Nat)+1,0,M⟩=K ↑h/\d.cell? ⟨(w:Nat)+1,1,M⟩=K (Z x.a x.n x.c)/\d.cell? ⟨(w:Nat)+1,2,M⟩=K (Z y.a y.n y.c)/\d.cell? ⟨gc,C+A*4,M⟩=K ↑g.op/\d.cell? ⟨gc,C+A*4+1,M⟩=K ↑g.a/\d.cell? ⟨gc,C+A*4+2,M⟩=K ↑g.b/\d.cell? ⟨gc,C+A*4+3,M⟩=K ↑g.c:= λd E=>by obtain⟨R,T,p2,p3,p4,p5,p6,L,p8,p9,V,W,X,aa,ae⟩:=CW E.wf.body;obtain⟨O,P,Q⟩:=CI E.wf.loop;simp only[HQ.1,HQ.2]at L;obtain⟨w0,w1,w2,w3⟩:=HC.o d E.wf.cq;exact⟨R,T,p2,p3,p4,p5,p6,L,p8,p9,V,W,X,aa,ae,O,P,Q,w0,w1,w2,w3⟩
  clear R T p2 p3 p4 p5 p6 L p8 p9 V W X aa ae O P Q;refine wp_region_held_drew (S:= λd=>d.cell? w=K (Z v.r.a v.r.n v.r.c)/\d.cell? ⟨w,1,M⟩=K (Z v.k.a v.k.n v.k.c)/\d.cell? ⟨w,2,M⟩=K (Z v.f.a v.f.n v.f.c)/\d.cell? ⟨w,3,M⟩=K (Z v.t.a v.t.n v.t.c)/\d.cell? ⟨w,4,M⟩=K (Z v.p.a v.p.n v.p.c)/\d.cell? ⟨w,5,M⟩=K ↑v.rs/\d.cell? ⟨w,6,M⟩=K (Z v.l.a v.l.n v.l.c)/\d.cell? ⟨w,7,M⟩=K (sO gc C xs v.c.c)/\d.cell? ⟨w,8,M⟩=K ↑v.nu/\d.cell? ⟨w,9,M⟩=K ↑v.co/\d.cell? ⟨w,10,M⟩=K ↑v.at_/\d.cell? ⟨w,11,M⟩=K (Z v.b.a v.b.n v.b.c)/\d.cell? ⟨w,12,M⟩=K (Z v.o.a v.o.n v.o.c)/\d.cell? ⟨w,13,M⟩=K (Z v.i.a v.i.n v.i.c)/\d.cell? ⟨w,14,M⟩=K (Z v.q.a v.q.n v.q.c)/\d.cell? ⟨(w:Nat)+1,0,M⟩=K ↑h/\d.cell? ⟨(w:Nat)+1,1,M⟩=K (Z x.a x.n x.c)/\d.cell? ⟨(w:Nat)+1,2,M⟩=K (Z y.a y.n y.c)/\d.cell? ⟨gc,C+A*4,M⟩=K ↑g.op/\d.cell? ⟨gc,C+A*4+1,M⟩=K ↑g.a/\d.cell? ⟨gc,C+A*4+2,M⟩=K ↑g.b/\d.cell? ⟨gc,C+A*4+3,M⟩=K ↑g.c) kR (N _ G.2) (λai=> ?_)
  refine AU 0 ?_;refine AU 1 ?_;refine AU 2 ?_;refine AU 3 ?_;refine AU 4 ?_;refine AU 5 ?_;refine wpAnyH_ready (rs:=[6,9]) kR sP ?_;refine AllReadyH.cons rfl (λI j=> ?_) (AllReadyH.cons rfl (λI j=> ?_) AllReadyH.nil)
  . go_simp;refine(JY {v with c:=⟨K ⟨gc,C,M⟩,xs,v.c.c⟩} h x y F m U2.drew HM.2.2 (H.av G.1).bs.rd H.hb).mono ?_;rintro e u3 ⟨rfl,z⟩;have E3:=Aw (G.2.av z);rw[HM.1];clear z;go_simp;refine j.o _ _ (N _ E3) (λai=> ?_);clear j I;refine AU 7 ?_;refine AU 8 ?_;refine DO 9 ?_;intro I j;go_simp;refine j.o _ _ (N _ (E3.av (Al _ _))) (λai=> ?_);clear j I;refine DO 10 ?_;intro I j;go_simp;refine j.o _ _ (N _ (E3.av (Al _ _))) (λai=> ?_);clear j I;refine wpAnyH_done kR ?_ _;go_wp2_with fail;go_meet;exact⟨u3,rfl,E3.av (Al _ _),Ay.new _ _ _⟩
  go_simp;refine j.o _ _ (N _ (G.2.av (Al _ _))) (λai=> ?_);clear j I;refine DO 6 ?_;intro I j;go_simp;refine(JY {v with c:=⟨K ⟨gc,C,M⟩,xs,v.c.c⟩} h x y F m _ HM.2.2 (H.av (Ar G.1 lR (Al _ _))).bs.rd H.hb).mono ?_;rintro e u3 ⟨rfl,z⟩;have E3:Ae (We w u3 v h x y CB t):=(G.2.av (Al _ _)).av z;have BZ:Ae (Ay u3 U2.drew #[iZ 0,iZ 0,iZ 0,iZ 0] 25):=(Ay.new _ _ _).av z;rw[HM.1];clear z;go_simp;refine j.o _ _ (N _ E3) (λai=> ?_);clear j I;refine AU 7 ?_;refine AU 8 ?_;refine DO 10 ?_;intro I j;have aT:=BZ.cell 0;have aW:=BZ.cell 1;have aX:=BZ.cell 2;have aY:=BZ.cell 3;have bf:=BZ.frozen 0;have bg:=BZ.frozen 1;have bi:=BZ.frozen 2;have bj:=BZ.frozen 3;have bq:(U2.drew:Nat)=U2.heap.size:=rfl;simp only[bq]at aT aW aX aY bf bg bi bj;have aj:(w:Nat)+1<U2.heap.size:=E2.wf.loop.lt;have ax:CB≠U2.heap.size:=nZ E2.iP.lt;have E5:Ae _:=(((E3.set aj ax 0 g.op).set aj ax 1 g.a).set aj ax 2 g.b).set aj ax 3 g.c;have B5:Ae _:=(((BZ.set 0 g.op).set 1 g.a).set 2 g.b).set 3 g.c;simp only[mO,mi,mh]at B5;go_simp;refine j.o _ _ (N _ E5) (λai=> ?_);clear j I;refine wpAnyH_done kR ?_ _;go_wp2_with fail;go_meet;exact⟨U2,rfl,E5,B5⟩
 case rest=>
 obtain⟨GB,rfl,E4⟩:=hcut;clear E2 G R T p2 p3 p4 p5 p6 L p8 p9 V W X aa ae O P Q;cases b
 case false=>have D:Ae (A5 p fi xs (F.map Prod.fst) l 1):=A5.c1 HM.2.1 (HT.2 rfl);go_wp2;go_ret;exact⟨⟨1,rfl,D⟩,E4.1.wf.cq⟩
 have HL:Ae (Ua p fi xs (F.map Prod.fst) l m t g):=⟨HM.2.1,HT.1 rfl,by rw[HM.1,lV];exact HG⟩;clear HT;obtain⟨w0,w1,w2,w3⟩:=Ec E4.2;obtain⟨c0,c1,c2,c3⟩:=Ec E4.1.iP;by_cases g1:g.op=27;case neg=>
  have bt:(g.op==27)=false:=by simp[g1]
  have D:=Aw (A5.c2 HL λe=>g1 e.1);go_wp2;go_ret;exact⟨⟨2,rfl,D⟩,E4.1.wf.cq⟩
 have aF:=Aw g1;rw[g1]at w0;clear g1;by_cases g2:g.a=t.dT;case neg=>
  have bu:(g.a==t.dT)=false:=by simp[g2]
  have D:=Aw (A5.c2 HL λe=>g2 e.2);go_wp2;go_ret;exact⟨⟨2,rfl,D⟩,E4.1.wf.cq⟩
 have aq:=Aw (lN aF.o g2);rw[g2]at w1;clear g2 aF;go_upto_region 7 with fail
 clear w0 w1 w2 w3 c0 c1 c2 c3;have G:=Aw (lN (Ar E4.1.wf.cq lR (As _)) (lN (E4.1.av (As _)) (E4.2.av (As _))));have N:∀d,We w d v h x y CB t->Ay d GB #[g.op,g.a,g.b,g.c] 25->d.cell? w=K (Z v.r.a v.r.n v.r.c)/\d.cell? ⟨w,1,M⟩=K (Z v.k.a v.k.n v.k.c)/\d.cell? ⟨w,2,M⟩=K (Z v.f.a v.f.n v.f.c)/\d.cell? ⟨w,3,M⟩=K (Z v.t.a v.t.n v.t.c)/\d.cell? ⟨w,4,M⟩=K (Z v.p.a v.p.n v.p.c)/\d.cell? ⟨w,5,M⟩=K ↑v.rs/\d.cell? ⟨w,6,M⟩=K (Z v.l.a v.l.n v.l.c)/\d.cell? ⟨w,7,M⟩=K (Z v.c.a v.c.n v.c.c)/\d.cell? ⟨w,8,M⟩=K ↑v.nu/\d.cell? ⟨w,9,M⟩=K ↑v.co/\d.cell? ⟨w,10,M⟩=K ↑v.at_/\d.cell? ⟨w,11,M⟩=K (Z v.b.a v.b.n v.b.c)/\d.cell? ⟨w,12,M⟩=K (Z v.o.a v.o.n v.o.c)/\d.cell? ⟨w,13,M⟩=K (Z v.i.a v.i.n v.i.c)/\d.cell? ⟨w,14,M⟩=K (Z v.q.a v.q.n v.q.c)/\d.cell? ⟨(w:Nat)+1,0,M⟩=K ↑h/\d.cell? ⟨(w:Nat)+1,1,M⟩=K (Z x.a x.n x.c)/\d.cell? ⟨(w:Nat)+1,2,M⟩=K (Z y.a y.n y.c)/\d.cell? ⟨GB,3,M⟩=K ↑g.c:= λd E B=>by obtain⟨R,T,p2,p3,p4,p5,p6,L,p8,p9,V,W,X,aa,ae⟩:=CW E.wf.body;obtain⟨O,P,Q⟩:=CI E.wf.loop;exact⟨R,T,p2,p3,p4,p5,p6,L,p8,p9,V,W,X,aa,ae,O,P,Q,B.cell 3⟩
 refine wp_region_held_drew (S:= λd=>d.cell? w=K (Z v.r.a v.r.n v.r.c)/\d.cell? ⟨w,1,M⟩=K (Z v.k.a v.k.n v.k.c)/\d.cell? ⟨w,2,M⟩=K (Z v.f.a v.f.n v.f.c)/\d.cell? ⟨w,3,M⟩=K (Z v.t.a v.t.n v.t.c)/\d.cell? ⟨w,4,M⟩=K (Z v.p.a v.p.n v.p.c)/\d.cell? ⟨w,5,M⟩=K ↑v.rs/\d.cell? ⟨w,6,M⟩=K (Z v.l.a v.l.n v.l.c)/\d.cell? ⟨w,7,M⟩=K (Z v.c.a v.c.n v.c.c)/\d.cell? ⟨w,8,M⟩=K ↑v.nu/\d.cell? ⟨w,9,M⟩=K ↑v.co/\d.cell? ⟨w,10,M⟩=K ↑v.at_/\d.cell? ⟨w,11,M⟩=K (Z v.b.a v.b.n v.b.c)/\d.cell? ⟨w,12,M⟩=K (Z v.o.a v.o.n v.o.c)/\d.cell? ⟨w,13,M⟩=K (Z v.i.a v.i.n v.i.c)/\d.cell? ⟨w,14,M⟩=K (Z v.q.a v.q.n v.q.c)/\d.cell? ⟨(w:Nat)+1,0,M⟩=K ↑h/\d.cell? ⟨(w:Nat)+1,1,M⟩=K (Z x.a x.n x.c)/\d.cell? ⟨(w:Nat)+1,2,M⟩=K (Z y.a y.n y.c)/\d.cell? ⟨GB,3,M⟩=K ↑g.c) kR (N _ G.2.1 G.2.2) (λai=> ?_)
 refine AU 0 ?_;refine AU 1 ?_;refine AU 3 ?_;refine AU 4 ?_;refine DO 2 ?_;intro I j;go_simp;refine(Fu v (h:Int) x y F xs l.a7 wc.drew (H.av G.1).bs (H.av G.1).bl H.bn H.bz).mono ?_;rintro e u5 ⟨pa,pc,ps,rfl,aO,aK,aM,z⟩;have E5:=Aw (lN (G.2.1.av z) (lN (G.2.2.av z) (lN aO aM)));have aG:=Aw aK;clear aO aK aM z;go_simp;refine j.o _ _ (N _ E5.1 E5.2.1) (λai=> ?_);clear j I;refine DO 5 ?_;intro I j;go_simp;refine(Fd pa pc ps g.c u5 E5.2.2.2 E5.2.2.1).mono ?_;rintro e u6 ⟨⟨q1,rfl,aQ⟩,rfl⟩;have aA:=Aw (aQ.trans (aG.o g.c));clear aQ;go_simp;refine j.o _ _ (N _ E5.1 E5.2.1) (λai=> ?_);clear j I;refine AU 6 ?_;refine wpAnyH_done kR ?_ _;clear ai N;have E6:=Aw (lN E5.1 E5.2.1);clear E5 G E4 aG;cases q1
 case true=>have D:=Aw (A5.c3 HL aq (aA.1 rfl));go_wp2;go_ret;exact⟨⟨3,rfl,D⟩,E6.1.wf.cq⟩
 have H3:Ae (¬DV (F.map Prod.fst) l.a7 g.c):= λe=>(by have:=aA.2 e;cases this)
 clear aA;obtain⟨R,T,p2,p3,p4,p5,p6,L,p8,p9,V,W,X,aa,ae⟩:=CW E6.1.wf.body;obtain⟨O,P,Q⟩:=CI E6.1.wf.loop;obtain⟨c0,c1,c2,c3⟩:=Ec E6.1.iP;go_wp2_with fail;refine(Ik v h x y F xs l.a7 t.dT m u6 (H.av E6.1.wf.cq).bs H.hb (H.av E6.1.wf.cq).bl H.bn H.bz (H.av E6.1.wf.cq).cd.aU).mono ?_;rintro e u7 ⟨⟨q2,rfl,aR⟩,z⟩;have E7:=Aw (E6.1.av z);have aE:=Aw aR;clear aR z E6 R T p2 p3 p4 p5 p6 L p8 p9 V W X aa ae O P Q c0 c1 c2 c3;cases q2
 case true=>have D:=Aw (A5.c4 HL aq H3 (aE.1 rfl));go_wp2;go_ret;exact⟨⟨4,rfl,D⟩,E7.wf.cq⟩
 have H4:Ae (¬∃a,DV (F.map Prod.fst) l.a7 a/\a≠m.cz/\OT xs t.dT a):= λe=>(by have:=aE.2 e;cases this)
 clear aE;obtain⟨R,T,p2,p3,p4,p5,p6,L,p8,p9,V,W,X,aa,ae⟩:=CW E7.wf.body;obtain⟨O,P,Q⟩:=CI E7.wf.loop;obtain⟨c0,c1,c2,c3⟩:=Ec E7.iP;by_cases hh:h=0;case pos=>have D:=Aw (A5.c5 HL aq H3 H4 (.inl (by rw[H.head,hh];rfl)));subst hh;go_wp2;go_ret;exact⟨⟨5,rfl,D⟩,E7.wf.cq⟩
 have br:¬(h:Int)=0:=oM;have bx:((h:Int)==0)=false:=by simp[hh]
 go_wp2_with fail;refine(LN v h x y F xs p.b8 l.a7 t m u7 (H.av E7.wf.cq).bs H.hb (H.av E7.wf.cq).nx (H.av E7.wf.cq).bl H.bn (H.av E7.wf.cq).cd).mono ?_;rintro e u8 ⟨⟨q3,rfl,aS⟩,z⟩;have E8:=Aw (E7.av z);have aH:Ae (q3=true↔¬Kj p.b8 xs (F.map Prod.fst) l t):=by unfold Kj;rw[H.head];exact aS
 clear aS z E7 R T p2 p3 p4 p5 p6 L p8 p9 V W X aa ae O P Q c0 c1 c2 c3;cases q3
 case true=>have D:=Aw (A5.c0 HL aq H3 H4 (λe=>e.elim (λe=>br (by rw[<-H.head];exact e)) (aH.1 rfl)));go_wp2;go_ret;exact⟨⟨0,rfl,D⟩,E8.wf.cq⟩
 have D:=Aw (A5.c5 HL aq H3 H4 (.inr (mr λe=>(by have:=aH.2 e;cases this))));go_wp2;go_ret;exact⟨⟨5,rfl,D⟩,E8.wf.cq⟩
end Go.Proofs.YtkgohaigebcgoaaGreatDoor
