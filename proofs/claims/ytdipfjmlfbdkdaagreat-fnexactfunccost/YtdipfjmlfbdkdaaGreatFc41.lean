import Derived.Test.YtdipfjmlfbdkdaaGreatFc40
import Derived.Deep.DeepCutAuto
import Derived.Deep.RegionHeldLaw
namespace Go.Proofs.YtdipfjmlfbdkdaaGreat
open Go.ChangeShapes Go.WideShapes Go.ChangeAt Go.RowKit
set_option linter.unusedVariables false
set_option maxHeartbeats 8000000
set_option maxRecDepth 100000
structure NJ(w:World)(v:Bz)(y:Ev)(p:MP)(fi:Int)(F:List (MB×Value))(xs:List MI)(h:Nat)(l:ML)(hb:MB):Prop where
 bs:FA w v F xs.length
 nx:∀z∈F,NM w z.2 z.1/\z.1.next.length<=1048576
 cd:Mc w v xs p.consts
 tn:p.certs.length<=1048576
 tr:Rd w 4 (.slice v.t.a v.t.n v.t.c) p.certs.length (p.certs.flatMap MT.cells)
 nu:v.nu=fi
 head:l.head=(h:Int)
 hb:(F.map Prod.fst)[h]?=some hb
 bl:Rd w 1 (.slice y.a y.n y.c) l.blocks.length (l.blocks.flatMap Ac)
 bn:l.blocks.length<=1024
 bz:∀z∈l.blocks,∃b:Nat,z=(b:Int)/\b<F.length
theorem NJ.keep{w u:World}{v:Bz}{y:Ev}{p:MP}{fi:Int}{F:List (MB×Value)}{xs:List MI}{h:Nat}{l:ML}{m:MB}(H:NJ w v y p fi F xs h l m)(hb:Below w.heap.size w u):NJ u v y p fi F xs h l m:=
 ⟨H.bs.keep hb,fun z hz=>⟨(H.nx z hz).1.keep hb lR,(H.nx z hz).2⟩,H.cd.keep hb,H.tn,H.tr.keep hb lR,H.nu,H.head,H.hb,H.bl.keep hb lR,H.bn,H.bz⟩
structure KL(w u:World)(v:Bz)(h:Nat)(x y:Ev)(CB:Nat)(t:MT):Prop where
 wf:Hr w u v h x y
 cert:Ak u CB #[.int .i64 t.func,.int .i64 t.head,.int .i64 t.counter,.int .u32 t.init] 72
theorem KL.keep{w u u':World}{v:Bz}{h:Nat}{x y:Ev}{CB:Nat}{t:MT}(H:KL w u v h x y CB t)(hb:Below u.heap.size u u'):KL w u' v h x y CB t:=⟨H.wf.keep hb,H.cert.keep hb⟩
theorem KL.set{w u:World}{v:Bz}{h:Nat}{x y:Ev}{CB:Nat}{t:MT}(H:KL w u v h x y CB t){b:Nat}(h1:w.heap.size+1<b)(h2:CB≠b)(j:Nat)(z:Value):KL w (u.setCell ⟨b,j,none⟩ z) v h x y CB t:=⟨⟨H.wf.body.other (by simp only[];omega) z,H.wf.loop.other (by simp only[];omega) z,H.wf.bel.setCell (by simp only[];omega) z⟩,H.cert.other h2 z⟩
theorem Jp(v:Bz)(h:Nat)(x y:Ev)(p:MP)(fi:Int)(F:List (MB×Value))(xs:List MI)(l:ML)(m:MB)(w:World)(hB:NJ w v y p fi F xs h l m):
 Calls Tryz.prog 90 #[.agg v.cells,.agg #[.int .i64 (h:Int),.slice x.a x.n x.c,.slice y.a y.n y.c]] w fun e w'=>(∃n,e=.returned (.int .i64 n)/\Au p fi xs (F.map Prod.fst) l n)/\Below w.heap.size w w':=by
 have H:Hid (NJ w v y p fi F xs h l m):=hB;have htop:xs.length<=1024:=hB.bs.top;obtain⟨ma,me,ema,eme,hme,hmn⟩:=hB.bs.blk h m hB.hb;have HM:Hid (m.first=(ma:Int)/\(F.map Prod.fst)[l.head.toNat]?=some m/\F.length<=1048576):=⟨ema,by rw[hB.head,aG];exact hB.hb,aY hB.bs.len (by omega)⟩
 obtain⟨g,hg⟩:∃g,xs[ma]?=some g:=⟨_,aA (by omega)⟩;have HG:Hid (xs[ma]?=some g):=hg;rcases hB.cd.code.2 with⟨q0,_⟩|⟨gc,oc,cc,q1,hcc⟩
 . omega
 simp only[aF]at q1;have HQ:Hid (v.c.a=some ⟨gc,oc,none⟩/\v.c.n=xs.length):=⟨q1.1,q1.2.1⟩
 have HC:Hid (∀(u:World),Below w.heap.size w u->u.cell? ⟨gc,oc+ma*4,none⟩=some (.int .i64 g.op)/\u.cell? ⟨gc,oc+ma*4+1,none⟩=some (.int .i64 g.a)/\u.cell? ⟨gc,oc+ma*4+2,none⟩=some (.int .i64 g.b)/\u.cell? ⟨gc,oc+ma*4+3,none⟩=some (.int .i64 g.c)):=fun u hu=>by
  have i0:=Rd.elem MI.cells_length hcc ma g hg 0 _ rfl;have i1:=Rd.elem MI.cells_length hcc ma g hg 1 _ rfl;have i2:=Rd.elem MI.cells_length hcc ma g hg 2 _ rfl;have i3:=Rd.elem MI.cells_length hcc ma g hg 3 _ rfl;rw[<-hu.cell (aC i0),aS]at i0;rw[<-hu.cell (aC i1)]at i1;rw[<-hu.cell (aC i2)]at i2;rw[<-hu.cell (aC i3)]at i3;exact⟨i0,i1,i2,i3⟩
 have hmaI:(ma:Int)<(xs.length:Int):=by omega
 clear hB hg hcc q1 ema eme;have E0:=Bw w v.cells #[.int .i64 (h:Int),.slice x.a x.n x.c,.slice y.a y.n y.c] 85 68;go_enter Tryz.func90,Tryz.ntmps90;go_upto_region 1 with fail
 refine Al (fun u=>Hid (Hr w u v h x y)) ⟨E0.1,E0.2.1,E0.2.2⟩ ?_;rintro U HE;clear E0;obtain⟨p0,p1,p2,p3,p4,p5,p6,p7,p8,p9,p10,p11,p12,p13,p14⟩:=Cl HE.o.body;obtain⟨l0,l1,l2⟩:=BI HE.o.loop;go_wp2_with fail
 refine(H6 v x y p.certs F h m U HM.o.2.2 (H.o.keep HE.o.bel).bs.rd H.o.hb H.o.tn (H.o.keep HE.o.bel).tr).mono ?_;rintro e u1 ⟨⟨t,b,rfl,hb1,hb0⟩,bb⟩
 have HT:Hid ((b=true->Bh p.certs fi m.first=some t)/\(b=false->Bh p.certs fi m.first=none)):=by
  rw[<-H.o.nu];exact⟨hb1,hb0⟩
 have E1:Hid (Hr w u1 v h x y):=HE.o.keep bb;clear hb1 hb0 bb HE p0 p1 p2 p3 p4 p5 p6 p7 p8 p9 p10 p11 p12 p13 p14 l0 l1 l2;clear U;go_upto_region 2 with fail
 refine Al (fun u=>Hid (KL w u v h x y u1.heap.size t)) ⟨E1.o.keep (Aa _ _),Ak.new _ _ _⟩ ?_;rintro U2 E2;generalize u1.heap.size=CB at E2⊢;clear E1;clear u1;obtain⟨p0,p1,p2,p3,p4,p5,p6,p7,p8,p9,p10,p11,p12,p13,p14⟩:=Cl E2.o.wf.body;obtain⟨l0,l1,l2⟩:=BI E2.o.wf.loop;simp only[HQ.o.1,HQ.o.2]at p7;have HR:Hid (Below w.heap.size w U2.drew/\KL w U2.drew v h x y CB t):=⟨Ab E2.o.wf.bel lR (Ae _),E2.o.keep (Ae _)⟩
 go_cut [7] (fun s wx=>∃GB:Nat,s=.pointer (some ⟨GB,0,none⟩)/\Hid (KL w wx v h x y CB t/\Ak wx GB #[.int .i64 g.op,.int .i64 g.a,.int .i64 g.b,.int .i64 g.c] 60))
 case first=>
  have KS:∀w',KL w w' v h x y CB t->w'.cell? ⟨w.heap.size,0,none⟩=some (.slice v.r.a v.r.n v.r.c)/\w'.cell? ⟨w.heap.size,1,none⟩=some (.slice v.k.a v.k.n v.k.c)/\w'.cell? ⟨w.heap.size,2,none⟩=some (.slice v.f.a v.f.n v.f.c)/\w'.cell? ⟨w.heap.size,3,none⟩=some (.slice v.t.a v.t.n v.t.c)/\w'.cell? ⟨w.heap.size,4,none⟩=some (.slice v.p.a v.p.n v.p.c)/\w'.cell? ⟨w.heap.size,5,none⟩=some (.int .i64 v.rs)/\w'.cell? ⟨w.heap.size,6,none⟩=some (.slice v.l.a v.l.n v.l.c)/\w'.cell? ⟨w.heap.size,7,none⟩=some (.slice (some ⟨gc,oc,none⟩) xs.length v.c.c)/\w'.cell? ⟨w.heap.size,8,none⟩=some (.int .i64 v.nu)/\w'.cell? ⟨w.heap.size,9,none⟩=some (.int .i64 v.co)/\w'.cell? ⟨w.heap.size,10,none⟩=some (.int .i64 v.at_)/\w'.cell? ⟨w.heap.size,11,none⟩=some (.slice v.b.a v.b.n v.b.c)/\w'.cell? ⟨w.heap.size,12,none⟩=some (.slice v.o.a v.o.n v.o.c)/\w'.cell? ⟨w.heap.size,13,none⟩=some (.slice v.i.a v.i.n v.i.c)/\w'.cell? ⟨w.heap.size,14,none⟩=some (.slice v.q.a v.q.n v.q.c)/\w'.cell? ⟨w.heap.size+1,0,none⟩=some (.int .i64 (h:Int))/\w'.cell? ⟨w.heap.size+1,1,none⟩=some (.slice x.a x.n x.c)/\w'.cell? ⟨w.heap.size+1,2,none⟩=some (.slice y.a y.n y.c)/\w'.cell? ⟨gc,oc+ma*4,none⟩=some (.int .i64 g.op)/\w'.cell? ⟨gc,oc+ma*4+1,none⟩=some (.int .i64 g.a)/\w'.cell? ⟨gc,oc+ma*4+2,none⟩=some (.int .i64 g.b)/\w'.cell? ⟨gc,oc+ma*4+3,none⟩=some (.int .i64 g.c):=fun w' E=>by
   obtain⟨p0,p1,p2,p3,p4,p5,p6,p7,p8,p9,p10,p11,p12,p13,p14⟩:=Cl E.wf.body;obtain⟨l0,l1,l2⟩:=BI E.wf.loop;simp only[HQ.o.1,HQ.o.2]at p7;obtain⟨w0,w1,w2,w3⟩:=HC.o w' E.wf.bel;exact⟨p0,p1,p2,p3,p4,p5,p6,p7,p8,p9,p10,p11,p12,p13,p14,l0,l1,l2,w0,w1,w2,w3⟩
  clear p0 p1 p2 p3 p4 p5 p6 p7 p8 p9 p10 p11 p12 p13 p14 l0 l1 l2
  refine wp_region_held_drew (S:=fun w'=>w'.cell? ⟨w.heap.size,0,none⟩=some (.slice v.r.a v.r.n v.r.c)/\w'.cell? ⟨w.heap.size,1,none⟩=some (.slice v.k.a v.k.n v.k.c)/\w'.cell? ⟨w.heap.size,2,none⟩=some (.slice v.f.a v.f.n v.f.c)/\w'.cell? ⟨w.heap.size,3,none⟩=some (.slice v.t.a v.t.n v.t.c)/\w'.cell? ⟨w.heap.size,4,none⟩=some (.slice v.p.a v.p.n v.p.c)/\w'.cell? ⟨w.heap.size,5,none⟩=some (.int .i64 v.rs)/\w'.cell? ⟨w.heap.size,6,none⟩=some (.slice v.l.a v.l.n v.l.c)/\w'.cell? ⟨w.heap.size,7,none⟩=some (.slice (some ⟨gc,oc,none⟩) xs.length v.c.c)/\w'.cell? ⟨w.heap.size,8,none⟩=some (.int .i64 v.nu)/\w'.cell? ⟨w.heap.size,9,none⟩=some (.int .i64 v.co)/\w'.cell? ⟨w.heap.size,10,none⟩=some (.int .i64 v.at_)/\w'.cell? ⟨w.heap.size,11,none⟩=some (.slice v.b.a v.b.n v.b.c)/\w'.cell? ⟨w.heap.size,12,none⟩=some (.slice v.o.a v.o.n v.o.c)/\w'.cell? ⟨w.heap.size,13,none⟩=some (.slice v.i.a v.i.n v.i.c)/\w'.cell? ⟨w.heap.size,14,none⟩=some (.slice v.q.a v.q.n v.q.c)/\w'.cell? ⟨w.heap.size+1,0,none⟩=some (.int .i64 (h:Int))/\w'.cell? ⟨w.heap.size+1,1,none⟩=some (.slice x.a x.n x.c)/\w'.cell? ⟨w.heap.size+1,2,none⟩=some (.slice y.a y.n y.c)/\w'.cell? ⟨gc,oc+ma*4,none⟩=some (.int .i64 g.op)/\w'.cell? ⟨gc,oc+ma*4+1,none⟩=some (.int .i64 g.a)/\w'.cell? ⟨gc,oc+ma*4+2,none⟩=some (.int .i64 g.b)/\w'.cell? ⟨gc,oc+ma*4+3,none⟩=some (.int .i64 g.c)) (by kernel_rfl) (KS _ HR.o.2) (fun hHeld=> ?_)
  refine wpAnyH_take (i:=0) (v:= ?_) rfl (by kernel_rfl) (by kernel_rfl) (by kernel_rfl) (fun _ _ _ h=>h) (Or.inl ⟨by rfl,?_⟩) (by assumption) ?_;rotate_left
  . (intro w hSw;(try dsimp only at hSw);go_simp;(try with_reducible rfl))
  refine wpAnyH_take (i:=1) (v:= ?_) rfl (by kernel_rfl) (by kernel_rfl) (by kernel_rfl) (fun _ _ _ h=>h) (Or.inl ⟨by rfl,?_⟩) (by assumption) ?_;rotate_left
  . (intro w hSw;(try dsimp only at hSw);go_simp;(try with_reducible rfl))
  refine wpAnyH_take (i:=2) (v:= ?_) rfl (by kernel_rfl) (by kernel_rfl) (by kernel_rfl) (fun _ _ _ h=>h) (Or.inl ⟨by rfl,?_⟩) (by assumption) ?_;rotate_left
  . (intro w hSw;(try dsimp only at hSw);go_simp;(try with_reducible rfl))
  refine wpAnyH_take (i:=3) (v:= ?_) rfl (by kernel_rfl) (by kernel_rfl) (by kernel_rfl) (fun _ _ _ h=>h) (Or.inl ⟨by rfl,?_⟩) (by assumption) ?_;rotate_left
  . (intro w hSw;(try dsimp only at hSw);go_simp;(try with_reducible rfl))
  refine wpAnyH_take (i:=4) (v:= ?_) rfl (by kernel_rfl) (by kernel_rfl) (by kernel_rfl) (fun _ _ _ h=>h) (Or.inl ⟨by rfl,?_⟩) (by assumption) ?_;rotate_left
  . (intro w hSw;(try dsimp only at hSw);go_simp;(try with_reducible rfl))
  refine wpAnyH_take (i:=5) (v:= ?_) rfl (by kernel_rfl) (by kernel_rfl) (by kernel_rfl) (fun _ _ _ h=>h) (Or.inl ⟨by rfl,?_⟩) (by assumption) ?_;rotate_left
  . (intro w hSw;(try dsimp only at hSw);go_simp;(try with_reducible rfl))
  refine wpAnyH_ready (rs:=[6,9]) (by kernel_rfl) (by simp) ?_;refine AllReadyH.cons rfl (fun KC hKC=> ?_) (AllReadyH.cons rfl (fun KC hKC=> ?_) AllReadyH.nil)
  . go_simp
    refine(GK {v with c:=⟨some ⟨gc,oc,none⟩,xs.length,v.c.c⟩} h x y F m U2.drew HM.o.2.2 (H.o.keep HR.o.1).bs.rd H.o.hb).mono ?_;rintro e u3 ⟨rfl,bb⟩;have E3:Hid (KL w u3 v h x y CB t):=HR.o.2.keep bb;rw[HM.o.1];clear bb;go_simp;refine hKC.out _ _ (KS _ E3.o) (fun hHeld=> ?_);clear hKC KC;refine wpAnyH_take (i:=7) (v:= ?_) rfl (by kernel_rfl) (by kernel_rfl) (by kernel_rfl) (fun _ _ _ h=>h) (Or.inl ⟨by rfl,?_⟩) (by assumption) ?_;rotate_left
    . (intro w hSw;(try dsimp only at hSw);go_simp;(try with_reducible rfl))
    refine wpAnyH_take (i:=8) (v:= ?_) rfl (by kernel_rfl) (by kernel_rfl) (by kernel_rfl) (fun _ _ _ h=>h) (Or.inl ⟨by rfl,?_⟩) (by assumption) ?_;rotate_left
    . (intro w hSw;(try dsimp only at hSw);go_simp;(try with_reducible rfl))
    refine wpAnyH_ready (rs:=[9]) (by kernel_rfl) (by simp) ?_;refine AllReadyH.cons rfl (fun KC hKC=> ?_) AllReadyH.nil;go_simp;refine hKC.out _ _ (KS _ (E3.o.keep (Aa _ _))) (fun hHeld=> ?_);clear hKC KC;refine wpAnyH_ready (rs:=[10]) (by kernel_rfl) (by simp) ?_;refine AllReadyH.cons rfl (fun KC hKC=> ?_) AllReadyH.nil;go_simp;refine hKC.out _ _ (KS _ (E3.o.keep (Aa _ _))) (fun hHeld=> ?_);clear hKC KC;refine wpAnyH_done (by kernel_rfl) ?_ _;go_wp2_with fail
    go_meet
    exact⟨u3.heap.size,rfl,E3.o.keep (Aa _ _),Ak.new _ _ _⟩
  . go_simp
    refine hKC.out _ _ (KS _ (HR.o.2.keep (Aa _ _))) (fun hHeld=> ?_);clear hKC KC;refine wpAnyH_ready (rs:=[6]) (by kernel_rfl) (by simp) ?_;refine AllReadyH.cons rfl (fun KC hKC=> ?_) AllReadyH.nil;go_simp;refine(GK {v with c:=⟨some ⟨gc,oc,none⟩,xs.length,v.c.c⟩} h x y F m _ HM.o.2.2 (H.o.keep (Ab HR.o.1 lR (Aa _ _))).bs.rd H.o.hb).mono ?_;rintro e u3 ⟨rfl,bb⟩;have E3:Hid (KL w u3 v h x y CB t):=(HR.o.2.keep (Aa _ _)).keep bb;have BZ:Hid (Ak u3 U2.drew.heap.size #[.int .i64 0,.int .i64 0,.int .i64 0,.int .i64 0] 60):=(Ak.new _ _ _).keep bb;rw[HM.o.1];clear bb;go_simp;refine hKC.out _ _ (KS _ E3.o) (fun hHeld=> ?_);clear hKC KC;refine wpAnyH_take (i:=7) (v:= ?_) rfl (by kernel_rfl) (by kernel_rfl) (by kernel_rfl) (fun _ _ _ h=>h) (Or.inl ⟨by rfl,?_⟩) (by assumption) ?_;rotate_left
    . (intro w hSw;(try dsimp only at hSw);go_simp;(try with_reducible rfl))
    refine wpAnyH_take (i:=8) (v:= ?_) rfl (by kernel_rfl) (by kernel_rfl) (by kernel_rfl) (fun _ _ _ h=>h) (Or.inl ⟨by rfl,?_⟩) (by assumption) ?_;rotate_left
    . (intro w hSw;(try dsimp only at hSw);go_simp;(try with_reducible rfl))
    refine wpAnyH_ready (rs:=[10]) (by kernel_rfl) (by simp) ?_;refine AllReadyH.cons rfl (fun KC hKC=> ?_) AllReadyH.nil;have bz0:=BZ.o.cell 0;have bz1:=BZ.o.cell 1;have bz2:=BZ.o.cell 2;have bz3:=BZ.o.cell 3;have fz0:=BZ.o.frozen 0;have fz1:=BZ.o.frozen 1;have fz2:=BZ.o.frozen 2;have fz3:=BZ.o.frozen 3;have hds:U2.drew.heap.size=U2.heap.size:=rfl;simp only[hds]at bz0 bz1 bz2 bz3 fz0 fz1 fz2 fz3;have hb1:w.heap.size+1<U2.heap.size:=E2.o.wf.loop.lt;have hb2:CB≠U2.heap.size:=bJ E2.o.cert.lt;have E5:Hid _:=(((E3.o.set hb1 hb2 0 (.int .i64 g.op)).set hb1 hb2 1 (.int .i64 g.a)).set hb1 hb2 2 (.int .i64 g.b)).set hb1 hb2 3 (.int .i64 g.c);have B5:Hid _:=(((BZ.o.set 0 (.int .i64 g.op)).set 1 (.int .i64 g.a)).set 2 (.int .i64 g.b)).set 3 (.int .i64 g.c);simp only[cu,b7,bj]at B5;go_simp;refine hKC.out _ _ (KS _ E5.o) (fun hHeld=> ?_);clear hKC KC;refine wpAnyH_done (by kernel_rfl) ?_ _;go_wp2_with fail
    go_meet
    exact⟨U2.heap.size,rfl,E5.o,B5.o⟩
 case rest=>
 obtain⟨GB,rfl,E4⟩:=hcut;clear E2 HR p0 p1 p2 p3 p4 p5 p6 p7 p8 p9 p10 p11 p12 p13 p14 l0 l1 l2;cases b
 case false=>
  have HN:Hid (Au p fi xs (F.map Prod.fst) l 1):=Au.c1 HM.o.2.1 (HT.o.2 rfl);go_wp2
  go_ret
  exact⟨⟨1,rfl,HN.o⟩,E4.o.1.wf.bel⟩
 have HL:Hid (Me p fi xs (F.map Prod.fst) l m t g):=⟨HM.o.2.1,HT.o.1 rfl,by rw[HM.o.1,aG];exact HG.o⟩;clear HT;obtain⟨w0,w1,w2,w3⟩:=Bq E4.o.2;obtain⟨c0,c1,c2,c3⟩:=Bq E4.o.1.cert;by_cases g1:g.op=27
 case neg=>
  have g1':(g.op==27)=false:=by simp[g1]
  have HN:Hid (Au p fi xs (F.map Prod.fst) l 2):=Au.c2 HL.o fun e=>g1 e.1
  go_wp2
  go_ret
  exact⟨⟨2,rfl,HN.o⟩,E4.o.1.wf.bel⟩
 have HG1:Hid (g.op=27):=g1;rw[g1]at w0;clear g1;by_cases g2:g.a=t.counter
 case neg=>
  have g2':(g.a==t.counter)=false:=by simp[g2]
  have HN:Hid (Au p fi xs (F.map Prod.fst) l 2):=Au.c2 HL.o fun e=>g2 e.2
  go_wp2
  go_ret
  exact⟨⟨2,rfl,HN.o⟩,E4.o.1.wf.bel⟩
 have HG2:Hid (g.op=27/\g.a=t.counter):=⟨HG1.o,g2⟩
 rw[g2]at w1;clear g2 HG1;go_upto_region 7 with fail
 clear w0 w1 w2 w3 c0 c1 c2 c3;have HR:Hid (Below w.heap.size w wc.drew/\KL w wc.drew v h x y CB t/\Ak wc.drew GB #[.int .i64 g.op,.int .i64 g.a,.int .i64 g.b,.int .i64 g.c] 60):=⟨Ab E4.o.1.wf.bel lR (Ae _),E4.o.1.keep (Ae _),E4.o.2.keep (Ae _)⟩
 have KS:∀w',KL w w' v h x y CB t->Ak w' GB #[.int .i64 g.op,.int .i64 g.a,.int .i64 g.b,.int .i64 g.c] 60->w'.cell? ⟨w.heap.size,0,none⟩=some (.slice v.r.a v.r.n v.r.c)/\w'.cell? ⟨w.heap.size,1,none⟩=some (.slice v.k.a v.k.n v.k.c)/\w'.cell? ⟨w.heap.size,2,none⟩=some (.slice v.f.a v.f.n v.f.c)/\w'.cell? ⟨w.heap.size,3,none⟩=some (.slice v.t.a v.t.n v.t.c)/\w'.cell? ⟨w.heap.size,4,none⟩=some (.slice v.p.a v.p.n v.p.c)/\w'.cell? ⟨w.heap.size,5,none⟩=some (.int .i64 v.rs)/\w'.cell? ⟨w.heap.size,6,none⟩=some (.slice v.l.a v.l.n v.l.c)/\w'.cell? ⟨w.heap.size,7,none⟩=some (.slice v.c.a v.c.n v.c.c)/\w'.cell? ⟨w.heap.size,8,none⟩=some (.int .i64 v.nu)/\w'.cell? ⟨w.heap.size,9,none⟩=some (.int .i64 v.co)/\w'.cell? ⟨w.heap.size,10,none⟩=some (.int .i64 v.at_)/\w'.cell? ⟨w.heap.size,11,none⟩=some (.slice v.b.a v.b.n v.b.c)/\w'.cell? ⟨w.heap.size,12,none⟩=some (.slice v.o.a v.o.n v.o.c)/\w'.cell? ⟨w.heap.size,13,none⟩=some (.slice v.i.a v.i.n v.i.c)/\w'.cell? ⟨w.heap.size,14,none⟩=some (.slice v.q.a v.q.n v.q.c)/\w'.cell? ⟨w.heap.size+1,0,none⟩=some (.int .i64 (h:Int))/\w'.cell? ⟨w.heap.size+1,1,none⟩=some (.slice x.a x.n x.c)/\w'.cell? ⟨w.heap.size+1,2,none⟩=some (.slice y.a y.n y.c)/\w'.cell? ⟨GB,3,none⟩=some (.int .i64 g.c):=fun w' E B=>by
  obtain⟨p0,p1,p2,p3,p4,p5,p6,p7,p8,p9,p10,p11,p12,p13,p14⟩:=Cl E.wf.body;obtain⟨l0,l1,l2⟩:=BI E.wf.loop;exact⟨p0,p1,p2,p3,p4,p5,p6,p7,p8,p9,p10,p11,p12,p13,p14,l0,l1,l2,B.cell 3⟩
 refine wp_region_held_drew (S:=fun w'=>w'.cell? ⟨w.heap.size,0,none⟩=some (.slice v.r.a v.r.n v.r.c)/\w'.cell? ⟨w.heap.size,1,none⟩=some (.slice v.k.a v.k.n v.k.c)/\w'.cell? ⟨w.heap.size,2,none⟩=some (.slice v.f.a v.f.n v.f.c)/\w'.cell? ⟨w.heap.size,3,none⟩=some (.slice v.t.a v.t.n v.t.c)/\w'.cell? ⟨w.heap.size,4,none⟩=some (.slice v.p.a v.p.n v.p.c)/\w'.cell? ⟨w.heap.size,5,none⟩=some (.int .i64 v.rs)/\w'.cell? ⟨w.heap.size,6,none⟩=some (.slice v.l.a v.l.n v.l.c)/\w'.cell? ⟨w.heap.size,7,none⟩=some (.slice v.c.a v.c.n v.c.c)/\w'.cell? ⟨w.heap.size,8,none⟩=some (.int .i64 v.nu)/\w'.cell? ⟨w.heap.size,9,none⟩=some (.int .i64 v.co)/\w'.cell? ⟨w.heap.size,10,none⟩=some (.int .i64 v.at_)/\w'.cell? ⟨w.heap.size,11,none⟩=some (.slice v.b.a v.b.n v.b.c)/\w'.cell? ⟨w.heap.size,12,none⟩=some (.slice v.o.a v.o.n v.o.c)/\w'.cell? ⟨w.heap.size,13,none⟩=some (.slice v.i.a v.i.n v.i.c)/\w'.cell? ⟨w.heap.size,14,none⟩=some (.slice v.q.a v.q.n v.q.c)/\w'.cell? ⟨w.heap.size+1,0,none⟩=some (.int .i64 (h:Int))/\w'.cell? ⟨w.heap.size+1,1,none⟩=some (.slice x.a x.n x.c)/\w'.cell? ⟨w.heap.size+1,2,none⟩=some (.slice y.a y.n y.c)/\w'.cell? ⟨GB,3,none⟩=some (.int .i64 g.c)) (by kernel_rfl) (KS _ HR.o.2.1 HR.o.2.2) (fun hHeld=> ?_)
 refine wpAnyH_take (i:=0) (v:= ?_) rfl (by kernel_rfl) (by kernel_rfl) (by kernel_rfl) (fun _ _ _ h=>h) (Or.inl ⟨by rfl,?_⟩) (by assumption) ?_;rotate_left
 . (intro w hSw;(try dsimp only at hSw);go_simp;(try with_reducible rfl))
 refine wpAnyH_take (i:=1) (v:= ?_) rfl (by kernel_rfl) (by kernel_rfl) (by kernel_rfl) (fun _ _ _ h=>h) (Or.inl ⟨by rfl,?_⟩) (by assumption) ?_;rotate_left
 . (intro w hSw;(try dsimp only at hSw);go_simp;(try with_reducible rfl))
 refine wpAnyH_take (i:=3) (v:= ?_) rfl (by kernel_rfl) (by kernel_rfl) (by kernel_rfl) (fun _ _ _ h=>h) (Or.inl ⟨by rfl,?_⟩) (by assumption) ?_;rotate_left
 . (intro w hSw;(try dsimp only at hSw);go_simp;(try with_reducible rfl))
 refine wpAnyH_take (i:=4) (v:= ?_) rfl (by kernel_rfl) (by kernel_rfl) (by kernel_rfl) (fun _ _ _ h=>h) (Or.inl ⟨by rfl,?_⟩) (by assumption) ?_;rotate_left
 . (intro w hSw;(try dsimp only at hSw);go_simp;(try with_reducible rfl))
 refine wpAnyH_ready (rs:=[2]) (by kernel_rfl) (by simp) ?_;refine AllReadyH.cons rfl (fun KC hKC=> ?_) AllReadyH.nil;go_simp;refine(Dz v (h:Int) x y F xs.length l.blocks wc.drew (H.o.keep HR.o.1).bs (H.o.keep HR.o.1).bl H.o.bn H.o.bz).mono ?_;rintro e u5 ⟨pa,pc,ps,rfl,hps,hin,hpl,bb⟩;have E5:Hid (KL w u5 v h x y CB t/\Ak u5 GB #[.int .i64 g.op,.int .i64 g.a,.int .i64 g.b,.int .i64 g.c] 60/\Rd u5 1 (.slice pa ps.length pc) ps.length (ps.flatMap Ac)/\ps.length<=1048576):=⟨HR.o.2.1.keep bb,HR.o.2.2.keep bb,hps,hpl⟩
 have HIN:Hid (∀z,z∈ps↔Cb (F.map Prod.fst) l.blocks z):=hin;clear hps hin hpl bb;go_simp;refine hKC.out _ _ (KS _ E5.o.1 E5.o.2.1) (fun hHeld=> ?_);clear hKC KC;refine wpAnyH_ready (rs:=[5]) (by kernel_rfl) (by simp) ?_;refine AllReadyH.cons rfl (fun KC hKC=> ?_) AllReadyH.nil;go_simp;refine(Dh pa pc ps g.c u5 E5.o.2.2.2 E5.o.2.2.1).mono ?_;rintro e u6 ⟨⟨q1,rfl,hq1⟩,rfl⟩;have HQ1:Hid (q1=true↔Cb (F.map Prod.fst) l.blocks g.c):=hq1.trans (HIN.o g.c);clear hq1;go_simp;refine hKC.out _ _ (KS _ E5.o.1 E5.o.2.1) (fun hHeld=> ?_);clear hKC KC;refine wpAnyH_take (i:=6) (v:= ?_) rfl (by kernel_rfl) (by kernel_rfl) (by kernel_rfl) (fun _ _ _ h=>h) (Or.inl ⟨by rfl,?_⟩) (by assumption) ?_;rotate_left
 . (intro w hSw;(try dsimp only at hSw);go_simp;(try with_reducible rfl))
 refine wpAnyH_done (by kernel_rfl) ?_ _;clear hHeld KS;have E6:Hid (KL w u6 v h x y CB t/\Ak u6 GB #[.int .i64 g.op,.int .i64 g.a,.int .i64 g.b,.int .i64 g.c] 60):=⟨E5.o.1,E5.o.2.1⟩
 clear E5 HR E4 HIN;cases q1
 case true=>
  have HN:Hid (Au p fi xs (F.map Prod.fst) l 3):=Au.c3 HL.o HG2.o (HQ1.o.1 rfl);go_wp2
  go_ret
  exact⟨⟨3,rfl,HN.o⟩,E6.o.1.wf.bel⟩
 have H3:Hid (¬Cb (F.map Prod.fst) l.blocks g.c):=fun e=>(by have:=HQ1.o.2 e;cases this)
 clear HQ1;obtain⟨p0,p1,p2,p3,p4,p5,p6,p7,p8,p9,p10,p11,p12,p13,p14⟩:=Cl E6.o.1.wf.body;obtain⟨l0,l1,l2⟩:=BI E6.o.1.wf.loop;obtain⟨c0,c1,c2,c3⟩:=Bq E6.o.1.cert;go_wp2_with fail
 refine(Fq v h x y F xs l.blocks t.counter m u6 (H.o.keep E6.o.1.wf.bel).bs H.o.hb (H.o.keep E6.o.1.wf.bel).bl H.o.bn H.o.bz (H.o.keep E6.o.1.wf.bel).cd.code).mono ?_;rintro e u7 ⟨⟨q2,rfl,hq2⟩,bb⟩;have E7:Hid (KL w u7 v h x y CB t):=E6.o.1.keep bb;have HQ2:Hid (q2=true↔∃a,Cb (F.map Prod.fst) l.blocks a/\a≠m.first/\FM xs t.counter a):=hq2
 clear hq2 bb E6 p0 p1 p2 p3 p4 p5 p6 p7 p8 p9 p10 p11 p12 p13 p14 l0 l1 l2 c0 c1 c2 c3;cases q2
 case true=>
  have HN:Hid (Au p fi xs (F.map Prod.fst) l 4):=Au.c4 HL.o HG2.o H3.o (HQ2.o.1 rfl);go_wp2
  go_ret
  exact⟨⟨4,rfl,HN.o⟩,E7.o.wf.bel⟩
 have H4:Hid (¬∃a,Cb (F.map Prod.fst) l.blocks a/\a≠m.first/\FM xs t.counter a):=fun e=>(by have:=HQ2.o.2 e;cases this)
 clear HQ2;obtain⟨p0,p1,p2,p3,p4,p5,p6,p7,p8,p9,p10,p11,p12,p13,p14⟩:=Cl E7.o.wf.body;obtain⟨l0,l1,l2⟩:=BI E7.o.wf.loop;obtain⟨c0,c1,c2,c3⟩:=Bq E7.o.cert;by_cases hh:h=0
 case pos=>
  have HN:Hid (Au p fi xs (F.map Prod.fst) l 5):=Au.c5 HL.o HG2.o H3.o H4.o (.inl (by rw[H.o.head,hh];rfl));subst hh;go_wp2;go_ret;exact⟨⟨5,rfl,HN.o⟩,E7.o.wf.bel⟩
 have hhI:¬(h:Int)=0:=by omega
 have hhB:((h:Int)==0)=false:=by simp[hh]
 go_wp2_with fail
 refine(Ia v h x y F xs p.consts l.blocks t m u7 (H.o.keep E7.o.wf.bel).bs H.o.hb (H.o.keep E7.o.wf.bel).nx (H.o.keep E7.o.wf.bel).bl H.o.bn (H.o.keep E7.o.wf.bel).cd).mono ?_;rintro e u8 ⟨⟨q3,rfl,hq3⟩,bb⟩;have E8:Hid (KL w u8 v h x y CB t):=E7.o.keep bb
 have HQ3:Hid (q3=true↔¬GO p.consts xs (F.map Prod.fst) l t):=by
  unfold GO;rw[H.o.head];exact hq3
 clear hq3 bb E7 p0 p1 p2 p3 p4 p5 p6 p7 p8 p9 p10 p11 p12 p13 p14 l0 l1 l2 c0 c1 c2 c3;cases q3
 case true=>
  have HN:Hid (Au p fi xs (F.map Prod.fst) l 0):=Au.c0 HL.o HG2.o H3.o H4.o (fun e=>e.elim (fun e=>hhI (by rw[<-H.o.head];exact e)) (HQ3.o.1 rfl));go_wp2;go_ret;exact⟨⟨0,rfl,HN.o⟩,E8.o.wf.bel⟩
 have HN:Hid (Au p fi xs (F.map Prod.fst) l 5):=Au.c5 HL.o HG2.o H3.o H4.o (.inr (cQ fun e=>(by have:=HQ3.o.2 e;cases this)));go_wp2;go_ret;exact⟨⟨5,rfl,HN.o⟩,E8.o.wf.bel⟩
end Go.Proofs.YtdipfjmlfbdkdaaGreat
