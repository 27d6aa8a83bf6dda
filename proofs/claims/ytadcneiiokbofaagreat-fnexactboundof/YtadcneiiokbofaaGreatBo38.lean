import Derived.Test.YtadcneiiokbofaaGreatBo37
import Derived.Deep.RegionHeldLaw
namespace Go.Proofs.YtadcneiiokbofaaGreat
open Go.ChangeShapes Go.WideShapes Go.ChangeAt Go.RowKit Go.Proofs.Tryz
set_option linter.unusedVariables false
open Go.Value renaming slice → Z,int → Ag,agg → Am
open Option renaming some → K,none → M
open Go renaming Value → J,World → Y,Calls → Ai
open Go.RowKit renaming Hid → Ae,Below → Ah
open Go.Ending renaming returned → Al
open Go.Proofs.Tryz renaming prog → Ap
open Go.World renaming setCell → Aa
open List renaming flatMap → Ad
set_option maxHeartbeats 8000000
set_option maxRecDepth 100000
variable {w u:Y}{v:B2}{y x:FA}{h a:Nat}{t:MT}
structure Uz(w:Y)(v:B2)(y:FA)(p:MP)(fi:Int)(F:List (MB×J))(xs:List MI)(h:Nat)(l:ML)(hb:MB):Prop where
 bs:JR w v F xs
 nx:∀z∈F,Ux w z.2 z.1/\z.1.next.length<=1048576
 cd:Tw w v xs p.dk
 tn:p.e8.length<=1048576
 tr:Rd w 4 (Z v.t.a v.t.n v.t.c) p.e8 (Ad MT.cells p.e8)
 nu:v.nu=fi
 head:l.head=(h:Int)
 hb:(F.map Prod.fst)[h]?=K hb
 bl:Rd w 1 (Z y.a y.n y.c) l.a8 (Ad As l.a8)
 bn:l.a8.length<=1024
 bz:∀z∈l.a8,∃b:Nat,z=(b:Int)/\b< ↑F
theorem Uz.a7{p:MP}{b:Int}{F:List (MB×J)}{xs:List MI}{l:ML}{m:MB}(H:Uz w v y p b F xs h l m)(a:Ah w w u):Uz u v y p b F xs h l m:=⟨H.bs.a7 a, λz c=>⟨(H.nx z c).1.a7 a lR,(H.nx z c).2⟩,H.cd.a7 a,H.tn,H.tr.a7 a lR,H.nu,H.head,H.hb,H.bl.a7 a lR,H.bn,H.bz⟩
structure UF(w u:Y)(v:B2)(h:Nat)(x y:FA)(CB:Nat)(t:MT):Prop where
 wf:PJ w u v h x y
 ix:AA u CB #[t.func,t.head,t.hQ,Ag .u32 t.init] 96
theorem UF.a7{c:Y}(H:UF w u v h x y a t)(b:Ah u u c):UF w c v h x y a t:=⟨H.wf.a7 b,H.ix.a7 b⟩
theorem UF.set(H:UF w u v h x y a t){b:Nat}(d: ↑w+1<b)(c:a≠b)(j:Nat)(z:J):UF w (Aa u ⟨b,j,M⟩ z) v h x y a t:=⟨⟨H.wf.body.other oS z,H.wf.loop.other oS z,H.wf.ej.setCell oS z⟩,H.ix.other c z⟩
theorem M8(v:B2)(h:Nat)(x y:FA)(p:MP)(fi:Int)(F:List (MB×J))(xs:List MI)(l:ML)(m:MB)(w:Y)(hB:Uz w v y p fi F xs h l m):
 Ai Ap 119 #[Am v.cells,Am #[h,Z x.a x.n x.c,Z y.a y.n y.c]] w λe d=>(∃n,e=Al (iZ n)/\AU p fi xs (F.map Prod.fst) l n)/\Ah w w d:=by
 have H:=Av hB;have bG:xs.length<=1024:=hB.bs.jT;obtain⟨A,me,aJ,bf,bC,bF⟩:=hB.bs.ie h m hB.hb;have HM:Ae (m.gZ=(A:Int)/\(F.map Prod.fst)[l.head.toNat]?=K m/\F.length<=1048576):=⟨aJ,by rw[hB.head,lD];exact hB.hb,lQ hB.bs.len oM⟩
 obtain⟨g,hg⟩:∃g,xs[A]?=K g:=⟨_,an oM⟩;have HG:=Av hg;rcases hB.cd.bO.2 with⟨q0,_⟩|⟨C,D,cc,q1,aw⟩
 . omega
 simp only[lB]at q1;have HQ:=Av (d5 q1.1 q1.2.1);have HC:Ae (∀(u:Y),Ah w w u->u ⟨C,D+A*4,M⟩=K ↑g.op/\u ⟨C,D+A*4+1,M⟩=K ↑g.a/\u ⟨C,D+A*4+2,M⟩=K ↑g.b/\u ⟨C,D+A*4+3,M⟩=K ↑g.c):= λu hu=>by have i0:=Rd.elem MI.dr aw A g hg 0 _ rfl;have i1:=Rd.elem MI.dr aw A g hg 1 _ rfl;have i2:=Rd.elem MI.dr aw A g hg 2 _ rfl;have i3:=Rd.elem MI.dr aw A g hg 3 _ rfl;rw[<-hu.cell (g8 i0),lJ]at i0;rw[<-hu.cell (g8 i1)]at i1;rw[<-hu.cell (g8 i2)]at i2;rw[<-hu.cell (g8 i3)]at i3;exact⟨i0,i1,i2,i3⟩
 have bB:(A:Int)<(xs:Int):=oM;clear hB hg aw q1 aJ bf;have E0:=Bu w v.cells #[h,Z x.a x.n x.c,Z y.a y.n y.c] 164 92;go_enter func119,ntmps119;go_upto_region 1 with fail
 refine Ax (λu=>Ae (PJ w u v h x y)) ⟨E0.1,E0.2.1,E0.2.2⟩ ?_;rintro U HE;clear E0;obtain⟨V,W,p2,p3,p4,p5,p6,N,p8,p9,X,ae,ah,aj,am⟩:=CT HE.body;obtain⟨Q,R,T⟩:=B9 HE.loop;go_wp2_with fail;refine(Lv v x y p.e8 F h m U HM.2.2 (H.a7 HE.ej).bs.rd H.hb H.tn (H.a7 HE.ej).tr).mono ?_;rintro e u1 ⟨⟨t,b,rfl,aq,aM⟩,z⟩;have HT:Ae ((b=true->Cj p.e8 fi m.gZ=K t)/\(b=false->Cj p.e8 fi m.gZ=M)):=by rw[<-H.nu];exact⟨aq,aM⟩
 have E1:=Av (HE.a7 z);clear aq aM z HE V W p2 p3 p4 p5 p6 N p8 p9 X ae ah aj am Q R T;clear U;go_upto_region 2 with fail
 refine Ax (λu=>Ae (UF w u v h x y u1 t)) ⟨E1.a7 (Aq _ _),AA.new _ _ _⟩ ?_;rintro U2 E2;generalize u1.heap.size=CB at E2⊢;clear E1;clear u1;obtain⟨V,W,p2,p3,p4,p5,p6,N,p8,p9,X,ae,ah,aj,am⟩:=CT E2.wf.body;obtain⟨Q,R,T⟩:=B9 E2.wf.loop;simp only[HQ.1,HQ.2]at N;have I:=Av (d5 (Ar E2.wf.ej lR (At _)) (E2.a7 (At _)));go_cut [7] (λs wx=>∃GB:Nat,s=.pointer GB/\Ae (UF w wx v h x y CB t/\AA wx GB #[g.op,g.a,g.b,g.c] 79))
 case first=>
  have P:∀d,UF w d v h x y CB t->d.cell? w=K (Z v.r.a v.r.n v.r.c)/\d.cell? ⟨w,1,M⟩=K (Z v.k.a v.k.n v.k.c)/\d.cell? ⟨w,2,M⟩=K (Z v.f.a v.f.n v.f.c)/\d.cell? ⟨w,3,M⟩=K (Z v.t.a v.t.n v.t.c)/\d.cell? ⟨w,4,M⟩=K (Z v.p.a v.p.n v.p.c)/\d.cell? ⟨w,5,M⟩=K ↑v.rs/\d.cell? ⟨w,6,M⟩=K (Z v.l.a v.l.n v.l.c)/\d.cell? ⟨w,7,M⟩=K (sO C D xs v.c.c)/\d.cell? ⟨w,8,M⟩=K ↑v.nu/\d.cell? ⟨w,9,M⟩=K ↑v.co/\d.cell? ⟨w,10,M⟩=K ↑v.at_/\d.cell? ⟨w,11,M⟩=K (Z v.b.a v.b.n v.b.c)/\d.cell? ⟨w,12,M⟩=K (Z v.o.a v.o.n v.o.c)/\d.cell? ⟨w,13,M⟩=K (Z v.i.a v.i.n v.i.c)/\d.cell? ⟨w,14,M⟩=K (Z v.q.a v.q.n v.q.c)/\d.cell? ⟨(w:Nat)+1,0,M⟩=K ↑h/\d.cell? ⟨(w:Nat)+1,1,M⟩=K (Z x.a x.n x.c)/\d.cell? ⟨(w:Nat)+1,2,M⟩=K (Z y.a y.n y.c)/\d.cell? ⟨C,D+A*4,M⟩=K ↑g.op/\d.cell? ⟨C,D+A*4+1,M⟩=K ↑g.a/\d.cell? ⟨C,D+A*4+2,M⟩=K ↑g.b/\d.cell? ⟨C,D+A*4+3,M⟩=K ↑g.c:= λd E=>by obtain⟨V,W,p2,p3,p4,p5,p6,N,p8,p9,X,ae,ah,aj,am⟩:=CT E.wf.body;obtain⟨Q,R,T⟩:=B9 E.wf.loop;simp only[HQ.1,HQ.2]at N;obtain⟨w0,w1,w2,w3⟩:=HC.o d E.wf.ej;exact⟨V,W,p2,p3,p4,p5,p6,N,p8,p9,X,ae,ah,aj,am,Q,R,T,w0,w1,w2,w3⟩
  clear V W p2 p3 p4 p5 p6 N p8 p9 X ae ah aj am Q R T;refine wp_region_held_drew (S:= λd=>d.cell? w=K (Z v.r.a v.r.n v.r.c)/\d.cell? ⟨w,1,M⟩=K (Z v.k.a v.k.n v.k.c)/\d.cell? ⟨w,2,M⟩=K (Z v.f.a v.f.n v.f.c)/\d.cell? ⟨w,3,M⟩=K (Z v.t.a v.t.n v.t.c)/\d.cell? ⟨w,4,M⟩=K (Z v.p.a v.p.n v.p.c)/\d.cell? ⟨w,5,M⟩=K ↑v.rs/\d.cell? ⟨w,6,M⟩=K (Z v.l.a v.l.n v.l.c)/\d.cell? ⟨w,7,M⟩=K (sO C D xs v.c.c)/\d.cell? ⟨w,8,M⟩=K ↑v.nu/\d.cell? ⟨w,9,M⟩=K ↑v.co/\d.cell? ⟨w,10,M⟩=K ↑v.at_/\d.cell? ⟨w,11,M⟩=K (Z v.b.a v.b.n v.b.c)/\d.cell? ⟨w,12,M⟩=K (Z v.o.a v.o.n v.o.c)/\d.cell? ⟨w,13,M⟩=K (Z v.i.a v.i.n v.i.c)/\d.cell? ⟨w,14,M⟩=K (Z v.q.a v.q.n v.q.c)/\d.cell? ⟨(w:Nat)+1,0,M⟩=K ↑h/\d.cell? ⟨(w:Nat)+1,1,M⟩=K (Z x.a x.n x.c)/\d.cell? ⟨(w:Nat)+1,2,M⟩=K (Z y.a y.n y.c)/\d.cell? ⟨C,D+A*4,M⟩=K ↑g.op/\d.cell? ⟨C,D+A*4+1,M⟩=K ↑g.a/\d.cell? ⟨C,D+A*4+2,M⟩=K ↑g.b/\d.cell? ⟨C,D+A*4+3,M⟩=K ↑g.c) kR (P _ I.2) (λao=> ?_)
  refine AH 0 ?_;refine AH 1 ?_;refine AH 2 ?_;refine AH 3 ?_;refine AH 4 ?_;refine AH 5 ?_;refine wpAnyH_ready (rs:=[6,9]) kR sP ?_;refine AllReadyH.cons rfl (λL j=> ?_) (AllReadyH.cons rfl (λL j=> ?_) AllReadyH.nil)
  . go_simp;refine(Kb {v with c:=⟨K ⟨C,D,M⟩,xs,v.c.c⟩} h x y F m U2.drew HM.2.2 (H.a7 I.1).bs.rd H.hb).mono ?_;rintro e u3 ⟨rfl,z⟩;have E3:=Av (I.2.a7 z);rw[HM.1];clear z;go_simp;refine j.o _ _ (P _ E3) (λao=> ?_);clear j L;refine AH 7 ?_;refine AH 8 ?_;refine CX 9 ?_;intro L j;go_simp;refine j.o _ _ (P _ (E3.a7 (Aq _ _))) (λao=> ?_);clear j L;refine CX 10 ?_;intro L j;go_simp;refine j.o _ _ (P _ (E3.a7 (Aq _ _))) (λao=> ?_);clear j L;refine wpAnyH_done kR ?_ _;go_wp2_with fail;go_meet;exact⟨u3,rfl,E3.a7 (Aq _ _),AA.new _ _ _⟩
  go_simp;refine j.o _ _ (P _ (I.2.a7 (Aq _ _))) (λao=> ?_);clear j L;refine CX 6 ?_;intro L j;go_simp;refine(Kb {v with c:=⟨K ⟨C,D,M⟩,xs,v.c.c⟩} h x y F m _ HM.2.2 (H.a7 (Ar I.1 lR (Aq _ _))).bs.rd H.hb).mono ?_;rintro e u3 ⟨rfl,z⟩;have E3:Ae (UF w u3 v h x y CB t):=(I.2.a7 (Aq _ _)).a7 z;have BZ:Ae (AA u3 U2.drew #[iZ 0,iZ 0,iZ 0,iZ 0] 79):=(AA.new _ _ _).a7 z;rw[HM.1];clear z;go_simp;refine j.o _ _ (P _ E3) (λao=> ?_);clear j L;refine AH 7 ?_;refine AH 8 ?_;refine CX 10 ?_;intro L j;have aW:=BZ.cell 0;have aX:=BZ.cell 1;have aY:=BZ.cell 2;have aZ:=BZ.cell 3;have bg:=BZ.frozen 0;have bi:=BZ.frozen 1;have bj:=BZ.frozen 2;have bp:=BZ.frozen 3;have bq:(U2.drew:Nat)=U2.heap.size:=rfl;simp only[bq]at aW aX aY aZ bg bi bj bp;have aq:(w:Nat)+1<U2.heap.size:=E2.wf.loop.lt;have aA:CB≠U2.heap.size:=mR E2.ix.lt;have O:Ae _:=(((E3.set aq aA 0 g.op).set aq aA 1 g.a).set aq aA 2 g.b).set aq aA 3 g.c;have B5:Ae _:=(((BZ.set 0 g.op).set 1 g.a).set 2 g.b).set 3 g.c;simp only[lM,lU,lX]at B5;go_simp;refine j.o _ _ (P _ O) (λao=> ?_);clear j L;refine wpAnyH_done kR ?_ _;go_wp2_with fail;go_meet;exact⟨U2,rfl,O,B5⟩
 case rest=>
 obtain⟨GB,rfl,E4⟩:=hcut;clear E2 I V W p2 p3 p4 p5 p6 N p8 p9 X ae ah aj am Q R T;cases b
 case false=>have G:Ae (AU p fi xs (F.map Prod.fst) l 1):=AU.c1 HM.2.1 (HT.2 rfl);go_wp2;go_ret;exact⟨⟨1,rfl,G⟩,E4.1.wf.ej⟩
 have HL:Ae (Rz p fi xs (F.map Prod.fst) l m t g):=⟨HM.2.1,HT.1 rfl,by rw[HM.1,lD];exact HG⟩;clear HT;obtain⟨w0,w1,w2,w3⟩:=Cw E4.2;obtain⟨c0,c1,c2,c3⟩:=Cw E4.1.ix;by_cases g1:g.op=27;case neg=>
  have bt:(g.op==27)=false:=by simp[g1]
  have G:=Av (AU.c2 HL λe=>g1 e.1);go_wp2;go_ret;exact⟨⟨2,rfl,G⟩,E4.1.wf.ej⟩
 have aG:=Av g1;rw[g1]at w0;clear g1;by_cases g2:g.a=t.hQ;case neg=>
  have bu:(g.a==t.hQ)=false:=by simp[g2]
  have G:=Av (AU.c2 HL λe=>g2 e.2);go_wp2;go_ret;exact⟨⟨2,rfl,G⟩,E4.1.wf.ej⟩
 have au:=Av (d5 aG.o g2);rw[g2]at w1;clear g2 aG;go_upto_region 7 with fail
 clear w0 w1 w2 w3 c0 c1 c2 c3;have I:=Av (d5 (Ar E4.1.wf.ej lR (At _)) (d5 (E4.1.a7 (At _)) (E4.2.a7 (At _))));have P:∀d,UF w d v h x y CB t->AA d GB #[g.op,g.a,g.b,g.c] 79->d.cell? w=K (Z v.r.a v.r.n v.r.c)/\d.cell? ⟨w,1,M⟩=K (Z v.k.a v.k.n v.k.c)/\d.cell? ⟨w,2,M⟩=K (Z v.f.a v.f.n v.f.c)/\d.cell? ⟨w,3,M⟩=K (Z v.t.a v.t.n v.t.c)/\d.cell? ⟨w,4,M⟩=K (Z v.p.a v.p.n v.p.c)/\d.cell? ⟨w,5,M⟩=K ↑v.rs/\d.cell? ⟨w,6,M⟩=K (Z v.l.a v.l.n v.l.c)/\d.cell? ⟨w,7,M⟩=K (Z v.c.a v.c.n v.c.c)/\d.cell? ⟨w,8,M⟩=K ↑v.nu/\d.cell? ⟨w,9,M⟩=K ↑v.co/\d.cell? ⟨w,10,M⟩=K ↑v.at_/\d.cell? ⟨w,11,M⟩=K (Z v.b.a v.b.n v.b.c)/\d.cell? ⟨w,12,M⟩=K (Z v.o.a v.o.n v.o.c)/\d.cell? ⟨w,13,M⟩=K (Z v.i.a v.i.n v.i.c)/\d.cell? ⟨w,14,M⟩=K (Z v.q.a v.q.n v.q.c)/\d.cell? ⟨(w:Nat)+1,0,M⟩=K ↑h/\d.cell? ⟨(w:Nat)+1,1,M⟩=K (Z x.a x.n x.c)/\d.cell? ⟨(w:Nat)+1,2,M⟩=K (Z y.a y.n y.c)/\d.cell? ⟨GB,3,M⟩=K ↑g.c:= λd E B=>by obtain⟨V,W,p2,p3,p4,p5,p6,N,p8,p9,X,ae,ah,aj,am⟩:=CT E.wf.body;obtain⟨Q,R,T⟩:=B9 E.wf.loop;exact⟨V,W,p2,p3,p4,p5,p6,N,p8,p9,X,ae,ah,aj,am,Q,R,T,B.cell 3⟩
 refine wp_region_held_drew (S:= λd=>d.cell? w=K (Z v.r.a v.r.n v.r.c)/\d.cell? ⟨w,1,M⟩=K (Z v.k.a v.k.n v.k.c)/\d.cell? ⟨w,2,M⟩=K (Z v.f.a v.f.n v.f.c)/\d.cell? ⟨w,3,M⟩=K (Z v.t.a v.t.n v.t.c)/\d.cell? ⟨w,4,M⟩=K (Z v.p.a v.p.n v.p.c)/\d.cell? ⟨w,5,M⟩=K ↑v.rs/\d.cell? ⟨w,6,M⟩=K (Z v.l.a v.l.n v.l.c)/\d.cell? ⟨w,7,M⟩=K (Z v.c.a v.c.n v.c.c)/\d.cell? ⟨w,8,M⟩=K ↑v.nu/\d.cell? ⟨w,9,M⟩=K ↑v.co/\d.cell? ⟨w,10,M⟩=K ↑v.at_/\d.cell? ⟨w,11,M⟩=K (Z v.b.a v.b.n v.b.c)/\d.cell? ⟨w,12,M⟩=K (Z v.o.a v.o.n v.o.c)/\d.cell? ⟨w,13,M⟩=K (Z v.i.a v.i.n v.i.c)/\d.cell? ⟨w,14,M⟩=K (Z v.q.a v.q.n v.q.c)/\d.cell? ⟨(w:Nat)+1,0,M⟩=K ↑h/\d.cell? ⟨(w:Nat)+1,1,M⟩=K (Z x.a x.n x.c)/\d.cell? ⟨(w:Nat)+1,2,M⟩=K (Z y.a y.n y.c)/\d.cell? ⟨GB,3,M⟩=K ↑g.c) kR (P _ I.2.1 I.2.2) (λao=> ?_)
 refine AH 0 ?_;refine AH 1 ?_;refine AH 3 ?_;refine AH 4 ?_;refine CX 2 ?_;intro L j;go_simp;refine(FK v (h:Int) x y F xs l.a8 wc.drew (H.a7 I.1).bs (H.a7 I.1).bl H.bn H.bz).mono ?_;rintro e u5 ⟨pa,pc,ps,rfl,aR,aP,aQ,z⟩;have O:=Av (d5 (I.2.1.a7 z) (d5 (I.2.2.a7 z) (d5 aR aQ)));have aH:=Av aP;clear aR aP aQ z;go_simp;refine j.o _ _ (P _ O.1 O.2.1) (λao=> ?_);clear j L;refine CX 5 ?_;intro L j;go_simp;refine(Fd pa pc ps g.c u5 O.2.2.2 O.2.2.1).mono ?_;rintro e u6 ⟨⟨q1,rfl,aS⟩,rfl⟩;have aE:=Av (aS.trans (aH.o g.c));clear aS;go_simp;refine j.o _ _ (P _ O.1 O.2.1) (λao=> ?_);clear j L;refine AH 6 ?_;refine wpAnyH_done kR ?_ _;clear ao P;have E6:=Av (d5 O.1 O.2.1);clear O I E4 aH;cases q1
 case true=>have G:=Av (AU.c3 HL au (aE.1 rfl));go_wp2;go_ret;exact⟨⟨3,rfl,G⟩,E6.1.wf.ej⟩
 have H3:Ae (¬DP (F.map Prod.fst) l.a8 g.c):= λe=>(by have:=aE.2 e;cases this)
 clear aE;obtain⟨V,W,p2,p3,p4,p5,p6,N,p8,p9,X,ae,ah,aj,am⟩:=CT E6.1.wf.body;obtain⟨Q,R,T⟩:=B9 E6.1.wf.loop;obtain⟨c0,c1,c2,c3⟩:=Cw E6.1.ix;go_wp2_with fail;refine(IC v h x y F xs l.a8 t.hQ m u6 (H.a7 E6.1.wf.ej).bs H.hb (H.a7 E6.1.wf.ej).bl H.bn H.bz (H.a7 E6.1.wf.ej).cd.bO).mono ?_;rintro e u7 ⟨⟨q2,rfl,aT⟩,z⟩;have E7:=Av (E6.1.a7 z);have aF:=Av aT;clear aT z E6 V W p2 p3 p4 p5 p6 N p8 p9 X ae ah aj am Q R T c0 c1 c2 c3;cases q2
 case true=>have G:=Av (AU.c4 HL au H3 (aF.1 rfl));go_wp2;go_ret;exact⟨⟨4,rfl,G⟩,E7.wf.ej⟩
 have H4:Ae (¬∃a,DP (F.map Prod.fst) l.a8 a/\a≠m.gZ/\JX xs t.hQ a):= λe=>(by have:=aF.2 e;cases this)
 clear aF;obtain⟨V,W,p2,p3,p4,p5,p6,N,p8,p9,X,ae,ah,aj,am⟩:=CT E7.wf.body;obtain⟨Q,R,T⟩:=B9 E7.wf.loop;obtain⟨c0,c1,c2,c3⟩:=Cw E7.ix;by_cases hh:h=0;case pos=>have G:=Av (AU.c5 HL au H3 H4 (.inl (by rw[H.head,hh];rfl)));subst hh;go_wp2;go_ret;exact⟨⟨5,rfl,G⟩,E7.wf.ej⟩
 have br:¬(h:Int)=0:=oM;have bx:((h:Int)==0)=false:=by simp[hh]
 go_wp2_with fail;refine(Ly v h x y F xs p.dk l.a8 t m u7 (H.a7 E7.wf.ej).bs H.hb (H.a7 E7.wf.ej).nx (H.a7 E7.wf.ej).bl H.bn (H.a7 E7.wf.ej).cd).mono ?_;rintro e u8 ⟨⟨q3,rfl,aU⟩,z⟩;have E8:=Av (E7.a7 z);have aI:Ae (q3=true↔¬Kp p.dk xs (F.map Prod.fst) l t):=by unfold Kp;rw[H.head];exact aU
 clear aU z E7 V W p2 p3 p4 p5 p6 N p8 p9 X ae ah aj am Q R T c0 c1 c2 c3;cases q3
 case true=>have G:=Av (AU.c0 HL au H3 H4 (λe=>e.elim (λe=>br (by rw[<-H.head];exact e)) (aI.1 rfl)));go_wp2;go_ret;exact⟨⟨0,rfl,G⟩,E8.wf.ej⟩
 have G:=Av (AU.c5 HL au H3 H4 (.inr (mr λe=>(by have:=aI.2 e;cases this))));go_wp2;go_ret;exact⟨⟨5,rfl,G⟩,E8.wf.ej⟩
end Go.Proofs.YtadcneiiokbofaaGreat
