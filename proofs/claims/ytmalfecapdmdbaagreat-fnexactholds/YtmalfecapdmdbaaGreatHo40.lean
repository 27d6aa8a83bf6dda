import Derived.Test.YtmalfecapdmdbaaGreatHo39
import Derived.Deep.RegionHeldLaw
namespace Go.Proofs.YtmalfecapdmdbaaGreat
open Go.ChangeShapes Go.WideShapes Go.ChangeAt Go.RowKit Go.Proofs.Tryz
set_option linter.unusedVariables false
open Go.Value renaming slice → Z,int → Ag,agg → Am
open Option renaming some → K,none → M
open Go renaming Value → J,World → Y,Calls → Ai
open Go.RowKit renaming Hid → Ae,Below → Ah
open Go.Ending renaming returned → Al
open Go.Proofs.Tryz renaming prog → Ap
open Go.World renaming setCell → Aa
open List renaming flatMap → Ad
set_option maxHeartbeats 8000000
set_option maxRecDepth 100000
variable {w u:Y}{v:BI}{y x:Ey}{h a:Nat}{t:MT}
structure TL(w:Y)(v:BI)(y:Ey)(p:MP)(fi:Int)(F:List (MB×J))(xs:List MI)(h:Nat)(l:ML)(hb:MB):Prop where
 bs:Ju w v F xs
 nx:∀z∈F,Vg w z.2 z.1/\z.1.next.length<=1048576
 cd:SC w v xs p.ej
 tn:p.eD.length<=1048576
 tr:Rd w 4 (Z v.t.a v.t.n v.t.c) p.eD (Ad MT.cells p.eD)
 nu:v.nu=fi
 head:l.head=(h:Int)
 hb:(F.map Prod.fst)[h]?=K hb
 bl:Rd w 1 (Z y.a y.n y.c) l.a8 (Ad As l.a8)
 bn:l.a8.length<=1024
 bz:∀z∈l.a8,∃b:Nat,z=(b:Int)/\b< ↑F
theorem TL.a7{p:MP}{b:Int}{F:List (MB×J)}{xs:List MI}{l:ML}{m:MB}(H:TL w v y p b F xs h l m)(a:Ah w w u):TL u v y p b F xs h l m:=⟨H.bs.a7 a, λz c=>⟨(H.nx z c).1.a7 a lR,(H.nx z c).2⟩,H.cd.a7 a,H.tn,H.tr.a7 a lR,H.nu,H.head,H.hb,H.bl.a7 a lR,H.bn,H.bz⟩
structure TO(w u:Y)(v:BI)(h:Nat)(x y:Ey)(CB:Nat)(t:MT):Prop where
 wf:OU w u v h x y
 hQ:AC u CB #[t.func,t.head,t.gI,Ag .u32 t.init] 88
theorem TO.a7{c:Y}(H:TO w u v h x y a t)(b:Ah u u c):TO w c v h x y a t:=⟨H.wf.a7 b,H.hQ.a7 b⟩
theorem TO.set(H:TO w u v h x y a t){b:Nat}(d: ↑w+1<b)(c:a≠b)(j:Nat)(z:J):TO w (Aa u ⟨b,j,M⟩ z) v h x y a t:=⟨⟨H.wf.body.other oS z,H.wf.loop.other oS z,H.wf.e8.setCell oS z⟩,H.hQ.other c z⟩
theorem MH(v:BI)(h:Nat)(x y:Ey)(p:MP)(fi:Int)(F:List (MB×J))(xs:List MI)(l:ML)(m:MB)(w:Y)(hB:TL w v y p fi F xs h l m):
 Ai Ap 110 #[Am v.cells,Am #[h,Z x.a x.n x.c,Z y.a y.n y.c]] w λe d=>(∃n,e=Al (iZ n)/\AP p fi xs (F.map Prod.fst) l n)/\Ah w w d:=by
 have H:=Av hB;have bC:xs.length<=1024:=hB.bs.ju;obtain⟨A,me,aJ,b7,bx,bB⟩:=hB.bs.gK h m hB.hb;have HM:Ae (m.gH=(A:Int)/\(F.map Prod.fst)[l.head.toNat]?=K m/\F.length<=1048576):=⟨aJ,by rw[hB.head,kA];exact hB.hb,kV hB.bs.len oM⟩
 obtain⟨g,hg⟩:∃g,xs[A]?=K g:=⟨_,an oM⟩;have HG:=Av hg;rcases hB.cd.eC.2 with⟨q0,_⟩|⟨C,D,cc,q1,aw⟩
 . omega
 simp only[i8]at q1;have HQ:=Av (d5 q1.1 q1.2.1);have HC:Ae (∀(u:Y),Ah w w u->u ⟨C,D+A*4,M⟩=K ↑g.op/\u ⟨C,D+A*4+1,M⟩=K ↑g.a/\u ⟨C,D+A*4+2,M⟩=K ↑g.b/\u ⟨C,D+A*4+3,M⟩=K ↑g.c):= λu hu=>by have i0:=Rd.elem MI.dr aw A g hg 0 _ rfl;have i1:=Rd.elem MI.dr aw A g hg 1 _ rfl;have i2:=Rd.elem MI.dr aw A g hg 2 _ rfl;have i3:=Rd.elem MI.dr aw A g hg 3 _ rfl;rw[<-hu.cell (hC i0),kJ]at i0;rw[<-hu.cell (hC i1)]at i1;rw[<-hu.cell (hC i2)]at i2;rw[<-hu.cell (hC i3)]at i3;exact⟨i0,i1,i2,i3⟩
 have bu:(A:Int)<(xs:Int):=oM;clear hB hg aw q1 aJ b7;have E0:=BL w v.cells #[h,Z x.a x.n x.c,Z y.a y.n y.c] 160 85;go_enter func110,ntmps110;go_upto_region 1 with fail
 refine Ax (λu=>Ae (OU w u v h x y)) ⟨E0.1,E0.2.1,E0.2.2⟩ ?_;rintro U HE;clear E0;obtain⟨V,W,p2,p3,p4,p5,p6,N,p8,p9,X,ae,ah,aj,am⟩:=CQ HE.body;obtain⟨Q,R,T⟩:=Cl HE.loop;go_wp2_with fail;refine(K2 v x y p.eD F h m U HM.2.2 (H.a7 HE.e8).bs.rd H.hb H.tn (H.a7 HE.e8).tr).mono ?_;rintro e u1 ⟨⟨t,b,rfl,aq,aM⟩,z⟩;have HT:Ae ((b=true->Ce p.eD fi m.gH=K t)/\(b=false->Ce p.eD fi m.gH=M)):=by rw[<-H.nu];exact⟨aq,aM⟩
 have E1:=Av (HE.a7 z);clear aq aM z HE V W p2 p3 p4 p5 p6 N p8 p9 X ae ah aj am Q R T;clear U;go_upto_region 2 with fail
 refine Ax (λu=>Ae (TO w u v h x y u1 t)) ⟨E1.a7 (Aq _ _),AC.new _ _ _⟩ ?_;rintro U2 E2;generalize u1.heap.size=CB at E2⊢;clear E1;clear u1;obtain⟨V,W,p2,p3,p4,p5,p6,N,p8,p9,X,ae,ah,aj,am⟩:=CQ E2.wf.body;obtain⟨Q,R,T⟩:=Cl E2.wf.loop;simp only[HQ.1,HQ.2]at N;have I:=Av (d5 (Ar E2.wf.e8 lR (At _)) (E2.a7 (At _)));go_cut [7] (λs wx=>∃GB:Nat,s=.pointer GB/\Ae (TO w wx v h x y CB t/\AC wx GB #[g.op,g.a,g.b,g.c] 72))
 case first=>
  have P:∀d,TO w d v h x y CB t->d.cell? w=K (Z v.r.a v.r.n v.r.c)/\d.cell? ⟨w,1,M⟩=K (Z v.k.a v.k.n v.k.c)/\d.cell? ⟨w,2,M⟩=K (Z v.f.a v.f.n v.f.c)/\d.cell? ⟨w,3,M⟩=K (Z v.t.a v.t.n v.t.c)/\d.cell? ⟨w,4,M⟩=K (Z v.p.a v.p.n v.p.c)/\d.cell? ⟨w,5,M⟩=K ↑v.rs/\d.cell? ⟨w,6,M⟩=K (Z v.l.a v.l.n v.l.c)/\d.cell? ⟨w,7,M⟩=K (sO C D xs v.c.c)/\d.cell? ⟨w,8,M⟩=K ↑v.nu/\d.cell? ⟨w,9,M⟩=K ↑v.co/\d.cell? ⟨w,10,M⟩=K ↑v.at_/\d.cell? ⟨w,11,M⟩=K (Z v.b.a v.b.n v.b.c)/\d.cell? ⟨w,12,M⟩=K (Z v.o.a v.o.n v.o.c)/\d.cell? ⟨w,13,M⟩=K (Z v.i.a v.i.n v.i.c)/\d.cell? ⟨w,14,M⟩=K (Z v.q.a v.q.n v.q.c)/\d.cell? ⟨(w:Nat)+1,0,M⟩=K ↑h/\d.cell? ⟨(w:Nat)+1,1,M⟩=K (Z x.a x.n x.c)/\d.cell? ⟨(w:Nat)+1,2,M⟩=K (Z y.a y.n y.c)/\d.cell? ⟨C,D+A*4,M⟩=K ↑g.op/\d.cell? ⟨C,D+A*4+1,M⟩=K ↑g.a/\d.cell? ⟨C,D+A*4+2,M⟩=K ↑g.b/\d.cell? ⟨C,D+A*4+3,M⟩=K ↑g.c:= λd E=>by obtain⟨V,W,p2,p3,p4,p5,p6,N,p8,p9,X,ae,ah,aj,am⟩:=CQ E.wf.body;obtain⟨Q,R,T⟩:=Cl E.wf.loop;simp only[HQ.1,HQ.2]at N;obtain⟨w0,w1,w2,w3⟩:=HC.o d E.wf.e8;exact⟨V,W,p2,p3,p4,p5,p6,N,p8,p9,X,ae,ah,aj,am,Q,R,T,w0,w1,w2,w3⟩
  clear V W p2 p3 p4 p5 p6 N p8 p9 X ae ah aj am Q R T;refine wp_region_held_drew (S:= λd=>d.cell? w=K (Z v.r.a v.r.n v.r.c)/\d.cell? ⟨w,1,M⟩=K (Z v.k.a v.k.n v.k.c)/\d.cell? ⟨w,2,M⟩=K (Z v.f.a v.f.n v.f.c)/\d.cell? ⟨w,3,M⟩=K (Z v.t.a v.t.n v.t.c)/\d.cell? ⟨w,4,M⟩=K (Z v.p.a v.p.n v.p.c)/\d.cell? ⟨w,5,M⟩=K ↑v.rs/\d.cell? ⟨w,6,M⟩=K (Z v.l.a v.l.n v.l.c)/\d.cell? ⟨w,7,M⟩=K (sO C D xs v.c.c)/\d.cell? ⟨w,8,M⟩=K ↑v.nu/\d.cell? ⟨w,9,M⟩=K ↑v.co/\d.cell? ⟨w,10,M⟩=K ↑v.at_/\d.cell? ⟨w,11,M⟩=K (Z v.b.a v.b.n v.b.c)/\d.cell? ⟨w,12,M⟩=K (Z v.o.a v.o.n v.o.c)/\d.cell? ⟨w,13,M⟩=K (Z v.i.a v.i.n v.i.c)/\d.cell? ⟨w,14,M⟩=K (Z v.q.a v.q.n v.q.c)/\d.cell? ⟨(w:Nat)+1,0,M⟩=K ↑h/\d.cell? ⟨(w:Nat)+1,1,M⟩=K (Z x.a x.n x.c)/\d.cell? ⟨(w:Nat)+1,2,M⟩=K (Z y.a y.n y.c)/\d.cell? ⟨C,D+A*4,M⟩=K ↑g.op/\d.cell? ⟨C,D+A*4+1,M⟩=K ↑g.a/\d.cell? ⟨C,D+A*4+2,M⟩=K ↑g.b/\d.cell? ⟨C,D+A*4+3,M⟩=K ↑g.c) kR (P _ I.2) (λao=> ?_)
  refine AK 0 ?_;refine AK 1 ?_;refine AK 2 ?_;refine AK 3 ?_;refine AK 4 ?_;refine AK 5 ?_;refine wpAnyH_ready (rs:=[6,9]) kR sP ?_;refine AllReadyH.cons rfl (λL j=> ?_) (AllReadyH.cons rfl (λL j=> ?_) AllReadyH.nil)
  . go_simp;refine(JL {v with c:=⟨K ⟨C,D,M⟩,xs,v.c.c⟩} h x y F m U2.drew HM.2.2 (H.a7 I.1).bs.rd H.hb).mono ?_;rintro e u3 ⟨rfl,z⟩;have E3:=Av (I.2.a7 z);rw[HM.1];clear z;go_simp;refine j.o _ _ (P _ E3) (λao=> ?_);clear j L;refine AK 7 ?_;refine AK 8 ?_;refine D3 9 ?_;intro L j;go_simp;refine j.o _ _ (P _ (E3.a7 (Aq _ _))) (λao=> ?_);clear j L;refine D3 10 ?_;intro L j;go_simp;refine j.o _ _ (P _ (E3.a7 (Aq _ _))) (λao=> ?_);clear j L;refine wpAnyH_done kR ?_ _;go_wp2_with fail;go_meet;exact⟨u3,rfl,E3.a7 (Aq _ _),AC.new _ _ _⟩
  go_simp;refine j.o _ _ (P _ (I.2.a7 (Aq _ _))) (λao=> ?_);clear j L;refine D3 6 ?_;intro L j;go_simp;refine(JL {v with c:=⟨K ⟨C,D,M⟩,xs,v.c.c⟩} h x y F m _ HM.2.2 (H.a7 (Ar I.1 lR (Aq _ _))).bs.rd H.hb).mono ?_;rintro e u3 ⟨rfl,z⟩;have E3:Ae (TO w u3 v h x y CB t):=(I.2.a7 (Aq _ _)).a7 z;have BZ:Ae (AC u3 U2.drew #[iZ 0,iZ 0,iZ 0,iZ 0] 72):=(AC.new _ _ _).a7 z;rw[HM.1];clear z;go_simp;refine j.o _ _ (P _ E3) (λao=> ?_);clear j L;refine AK 7 ?_;refine AK 8 ?_;refine D3 10 ?_;intro L j;have aW:=BZ.cell 0;have aX:=BZ.cell 1;have aY:=BZ.cell 2;have aZ:=BZ.cell 3;have bf:=BZ.frozen 0;have bg:=BZ.frozen 1;have bi:=BZ.frozen 2;have bj:=BZ.frozen 3;have bo:(U2.drew:Nat)=U2.heap.size:=rfl;simp only[bo]at aW aX aY aZ bf bg bi bj;have aq:(w:Nat)+1<U2.heap.size:=E2.wf.loop.lt;have aA:CB≠U2.heap.size:=mA E2.hQ.lt;have O:Ae _:=(((E3.set aq aA 0 g.op).set aq aA 1 g.a).set aq aA 2 g.b).set aq aA 3 g.c;have B5:Ae _:=(((BZ.set 0 g.op).set 1 g.a).set 2 g.b).set 3 g.c;simp only[lF,lI,lT]at B5;go_simp;refine j.o _ _ (P _ O) (λao=> ?_);clear j L;refine wpAnyH_done kR ?_ _;go_wp2_with fail;go_meet;exact⟨U2,rfl,O,B5⟩
 case rest=>
 obtain⟨GB,rfl,E4⟩:=hcut;clear E2 I V W p2 p3 p4 p5 p6 N p8 p9 X ae ah aj am Q R T;cases b
 case false=>have G:Ae (AP p fi xs (F.map Prod.fst) l 1):=AP.c1 HM.2.1 (HT.2 rfl);go_wp2;go_ret;exact⟨⟨1,rfl,G⟩,E4.1.wf.e8⟩
 have HL:Ae (QP p fi xs (F.map Prod.fst) l m t g):=⟨HM.2.1,HT.1 rfl,by rw[HM.1,kA];exact HG⟩;clear HT;obtain⟨w0,w1,w2,w3⟩:=Cu E4.2;obtain⟨c0,c1,c2,c3⟩:=Cu E4.1.hQ;by_cases g1:g.op=27;case neg=>
  have bq:(g.op==27)=false:=by simp[g1]
  have G:=Av (AP.c2 HL λe=>g1 e.1);go_wp2;go_ret;exact⟨⟨2,rfl,G⟩,E4.1.wf.e8⟩
 have aG:=Av g1;rw[g1]at w0;clear g1;by_cases g2:g.a=t.gI;case neg=>
  have br:(g.a==t.gI)=false:=by simp[g2]
  have G:=Av (AP.c2 HL λe=>g2 e.2);go_wp2;go_ret;exact⟨⟨2,rfl,G⟩,E4.1.wf.e8⟩
 have au:=Av (d5 aG.o g2);rw[g2]at w1;clear g2 aG;go_upto_region 7 with fail
 clear w0 w1 w2 w3 c0 c1 c2 c3;have I:=Av (d5 (Ar E4.1.wf.e8 lR (At _)) (d5 (E4.1.a7 (At _)) (E4.2.a7 (At _))));have P:∀d,TO w d v h x y CB t->AC d GB #[g.op,g.a,g.b,g.c] 72->d.cell? w=K (Z v.r.a v.r.n v.r.c)/\d.cell? ⟨w,1,M⟩=K (Z v.k.a v.k.n v.k.c)/\d.cell? ⟨w,2,M⟩=K (Z v.f.a v.f.n v.f.c)/\d.cell? ⟨w,3,M⟩=K (Z v.t.a v.t.n v.t.c)/\d.cell? ⟨w,4,M⟩=K (Z v.p.a v.p.n v.p.c)/\d.cell? ⟨w,5,M⟩=K ↑v.rs/\d.cell? ⟨w,6,M⟩=K (Z v.l.a v.l.n v.l.c)/\d.cell? ⟨w,7,M⟩=K (Z v.c.a v.c.n v.c.c)/\d.cell? ⟨w,8,M⟩=K ↑v.nu/\d.cell? ⟨w,9,M⟩=K ↑v.co/\d.cell? ⟨w,10,M⟩=K ↑v.at_/\d.cell? ⟨w,11,M⟩=K (Z v.b.a v.b.n v.b.c)/\d.cell? ⟨w,12,M⟩=K (Z v.o.a v.o.n v.o.c)/\d.cell? ⟨w,13,M⟩=K (Z v.i.a v.i.n v.i.c)/\d.cell? ⟨w,14,M⟩=K (Z v.q.a v.q.n v.q.c)/\d.cell? ⟨(w:Nat)+1,0,M⟩=K ↑h/\d.cell? ⟨(w:Nat)+1,1,M⟩=K (Z x.a x.n x.c)/\d.cell? ⟨(w:Nat)+1,2,M⟩=K (Z y.a y.n y.c)/\d.cell? ⟨GB,3,M⟩=K ↑g.c:= λd E B=>by obtain⟨V,W,p2,p3,p4,p5,p6,N,p8,p9,X,ae,ah,aj,am⟩:=CQ E.wf.body;obtain⟨Q,R,T⟩:=Cl E.wf.loop;exact⟨V,W,p2,p3,p4,p5,p6,N,p8,p9,X,ae,ah,aj,am,Q,R,T,B.cell 3⟩
 refine wp_region_held_drew (S:= λd=>d.cell? w=K (Z v.r.a v.r.n v.r.c)/\d.cell? ⟨w,1,M⟩=K (Z v.k.a v.k.n v.k.c)/\d.cell? ⟨w,2,M⟩=K (Z v.f.a v.f.n v.f.c)/\d.cell? ⟨w,3,M⟩=K (Z v.t.a v.t.n v.t.c)/\d.cell? ⟨w,4,M⟩=K (Z v.p.a v.p.n v.p.c)/\d.cell? ⟨w,5,M⟩=K ↑v.rs/\d.cell? ⟨w,6,M⟩=K (Z v.l.a v.l.n v.l.c)/\d.cell? ⟨w,7,M⟩=K (Z v.c.a v.c.n v.c.c)/\d.cell? ⟨w,8,M⟩=K ↑v.nu/\d.cell? ⟨w,9,M⟩=K ↑v.co/\d.cell? ⟨w,10,M⟩=K ↑v.at_/\d.cell? ⟨w,11,M⟩=K (Z v.b.a v.b.n v.b.c)/\d.cell? ⟨w,12,M⟩=K (Z v.o.a v.o.n v.o.c)/\d.cell? ⟨w,13,M⟩=K (Z v.i.a v.i.n v.i.c)/\d.cell? ⟨w,14,M⟩=K (Z v.q.a v.q.n v.q.c)/\d.cell? ⟨(w:Nat)+1,0,M⟩=K ↑h/\d.cell? ⟨(w:Nat)+1,1,M⟩=K (Z x.a x.n x.c)/\d.cell? ⟨(w:Nat)+1,2,M⟩=K (Z y.a y.n y.c)/\d.cell? ⟨GB,3,M⟩=K ↑g.c) kR (P _ I.2.1 I.2.2) (λao=> ?_)
 refine AK 0 ?_;refine AK 1 ?_;refine AK 3 ?_;refine AK 4 ?_;refine D3 2 ?_;intro L j;go_simp;refine(Fs v (h:Int) x y F xs l.a8 wc.drew (H.a7 I.1).bs (H.a7 I.1).bl H.bn H.bz).mono ?_;rintro e u5 ⟨pa,pc,ps,rfl,aR,aP,aQ,z⟩;have O:=Av (d5 (I.2.1.a7 z) (d5 (I.2.2.a7 z) (d5 aR aQ)));have aH:=Av aP;clear aR aP aQ z;go_simp;refine j.o _ _ (P _ O.1 O.2.1) (λao=> ?_);clear j L;refine D3 5 ?_;intro L j;go_simp;refine(ES pa pc ps g.c u5 O.2.2.2 O.2.2.1).mono ?_;rintro e u6 ⟨⟨q1,rfl,aS⟩,rfl⟩;have aE:=Av (aS.trans (aH.o g.c));clear aS;go_simp;refine j.o _ _ (P _ O.1 O.2.1) (λao=> ?_);clear j L;refine AK 6 ?_;refine wpAnyH_done kR ?_ _;clear ao P;have E6:=Av (d5 O.1 O.2.1);clear O I E4 aH;cases q1
 case true=>have G:=Av (AP.c3 HL au (aE.1 rfl));go_wp2;go_ret;exact⟨⟨3,rfl,G⟩,E6.1.wf.e8⟩
 have H3:Ae (¬DB (F.map Prod.fst) l.a8 g.c):= λe=>(by have:=aE.2 e;cases this)
 clear aE;obtain⟨V,W,p2,p3,p4,p5,p6,N,p8,p9,X,ae,ah,aj,am⟩:=CQ E6.1.wf.body;obtain⟨Q,R,T⟩:=Cl E6.1.wf.loop;obtain⟨c0,c1,c2,c3⟩:=Cu E6.1.hQ;go_wp2_with fail;refine(Ii v h x y F xs l.a8 t.gI m u6 (H.a7 E6.1.wf.e8).bs H.hb (H.a7 E6.1.wf.e8).bl H.bn H.bz (H.a7 E6.1.wf.e8).cd.eC).mono ?_;rintro e u7 ⟨⟨q2,rfl,aT⟩,z⟩;have E7:=Av (E6.1.a7 z);have aF:=Av aT;clear aT z E6 V W p2 p3 p4 p5 p6 N p8 p9 X ae ah aj am Q R T c0 c1 c2 c3;cases q2
 case true=>have G:=Av (AP.c4 HL au H3 (aF.1 rfl));go_wp2;go_ret;exact⟨⟨4,rfl,G⟩,E7.wf.e8⟩
 have H4:Ae (¬∃a,DB (F.map Prod.fst) l.a8 a/\a≠m.gH/\JA xs t.gI a):= λe=>(by have:=aF.2 e;cases this)
 clear aF;obtain⟨V,W,p2,p3,p4,p5,p6,N,p8,p9,X,ae,ah,aj,am⟩:=CQ E7.wf.body;obtain⟨Q,R,T⟩:=Cl E7.wf.loop;obtain⟨c0,c1,c2,c3⟩:=Cu E7.hQ;by_cases hh:h=0;case pos=>have G:=Av (AP.c5 HL au H3 H4 (.inl (by rw[H.head,hh];rfl)));subst hh;go_wp2;go_ret;exact⟨⟨5,rfl,G⟩,E7.wf.e8⟩
 have bp:¬(h:Int)=0:=oM;have bt:((h:Int)==0)=false:=by simp[hh]
 go_wp2_with fail;refine(K5 v h x y F xs p.ej l.a8 t m u7 (H.a7 E7.wf.e8).bs H.hb (H.a7 E7.wf.e8).nx (H.a7 E7.wf.e8).bl H.bn (H.a7 E7.wf.e8).cd).mono ?_;rintro e u8 ⟨⟨q3,rfl,aU⟩,z⟩;have E8:=Av (E7.a7 z);have aI:Ae (q3=true↔¬JX p.ej xs (F.map Prod.fst) l t):=by unfold JX;rw[H.head];exact aU
 clear aU z E7 V W p2 p3 p4 p5 p6 N p8 p9 X ae ah aj am Q R T c0 c1 c2 c3;cases q3
 case true=>have G:=Av (AP.c0 HL au H3 H4 (λe=>e.elim (λe=>bp (by rw[<-H.head];exact e)) (aI.1 rfl)));go_wp2;go_ret;exact⟨⟨0,rfl,G⟩,E8.wf.e8⟩
 have G:=Av (AP.c5 HL au H3 H4 (.inr (lW λe=>(by have:=aI.2 e;cases this))));go_wp2;go_ret;exact⟨⟨5,rfl,G⟩,E8.wf.e8⟩
end Go.Proofs.YtmalfecapdmdbaaGreat
