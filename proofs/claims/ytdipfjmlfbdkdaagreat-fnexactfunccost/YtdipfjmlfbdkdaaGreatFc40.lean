import Derived.Test.YtdipfjmlfbdkdaaGreatFc37
namespace Go.Proofs.YtdipfjmlfbdkdaaGreat
open Go.ChangeShapes Go.WideShapes Go.ChangeAt Go.RowKit
set_option linter.unusedVariables false
set_option maxHeartbeats 8000000
set_option maxRecDepth 100000
structure Mc(w:World)(v:Bz)(xs:List MI)(ks:List MC):Prop where
 code:Rd w 4 (.slice v.c.a v.c.n v.c.c) xs.length (xs.flatMap MI.cells)
 cap:xs.length<=v.c.c
 kn:ks.length<=1048576
 kr:Rd w 2 (.slice v.k.a v.k.n v.k.c) ks.length (ks.flatMap MC.cells)
 con:∀x∈xs,x.op=1->0<=x.a/\x.a.toNat<ks.length
theorem Mc.keep{w u:World}{v:Bz}{xs:List MI}{ks:List MC}(h:Mc w v xs ks)(hb:Below w.heap.size w u):Mc u v xs ks:=⟨h.code.keep hb lR,h.cap,h.kn,h.kr.keep hb lR,h.con⟩
structure Qy(w u:World)(v:Bz)(h:Nat)(x y:Ev)(c:MT):Prop where
 body:Ak u w.heap.size v.cells 85
 loop:Ak u (w.heap.size+1) #[.int .i64 (h:Int),.slice x.a x.n x.c,.slice y.a y.n y.c] 68
 cert:Ak u (w.heap.size+1+1) #[.int .i64 c.func,.int .i64 c.head,.int .i64 c.counter,.int .u32 c.init] 72
 bel:Below w.heap.size w u
theorem Qy.keep{w u u':World}{v:Bz}{h:Nat}{x y:Ev}{c:MT}(H:Qy w u v h x y c)(hb:Below u.heap.size u u'):Qy w u' v h x y c:=⟨H.body.keep hb,H.loop.keep hb,H.cert.keep hb,Ab H.bel lR hb⟩
theorem Ia(v:Bz)(h:Nat)(x y:Ev)(F:List (MB×Value))(xs:List MI)(ks:List MC)(bl:List Int)(c:MT)(m0:MB)(w:World)(hF:FA w v F xs.length)(hm:(F.map Prod.fst)[h]?=some m0)(hnx:∀z∈F,NM w z.2 z.1/\z.1.next.length<=1048576)(hy:Rd w 1 (.slice y.a y.n y.c) bl.length (bl.flatMap Ac))(hbl:bl.length<=1024)(hc:Mc w v xs ks):
 Calls Tryz.prog 127 #[.agg v.cells,.agg #[.int .i64 (h:Int),.slice x.a x.n x.c,.slice y.a y.n y.c],.agg #[.int .i64 c.func,.int .i64 c.head,.int .i64 c.counter,.int .u32 c.init]] w fun e w'=>Aj e (¬∃(b:Nat) (m:MB),(F.map Prod.fst)[b]?=some m/\(h:Int)∈m.next/\¬((b:Int)∈bl)/\¬AL ks xs m c)/\Below w.heap.size w w':=by
 have hh:h<F.length:=by have:=(aD.1 hm).1;simpa using this
 obtain⟨_,g,o,_,_,_,_,eg,en,_⟩:=hF.at hh;have H:Hid (FA w v F xs.length/\(∀z∈F,NM w z.2 z.1/\z.1.next.length<=1048576)/\Rd w 1 (.slice y.a y.n y.c) bl.length (bl.flatMap Ac)/\bl.length<=1024/\Mc w v xs ks):=⟨hF,hnx,hy,hbl,hc⟩
 have HG:Hid (v.b.a=some ⟨g,o,none⟩/\v.b.n=F.length):=⟨eg,en⟩
 have HYN:Hid (y.n=bl.length):=by
  obtain⟨ya,yc,ey⟩:=hy.is_slice;simp only[aF]at ey;exact ey.2.1
 have hfl:F.length<=1024:=hF.len;clear hF hm hnx hy hbl hc eg en hh;have E0:=Ef w v.cells #[.int .i64 (h:Int),.slice x.a x.n x.c,.slice y.a y.n y.c] #[.int .i64 c.func,.int .i64 c.head,.int .i64 c.counter,.int .u32 c.init] 85 68 72;go_enter Tryz.func127,Tryz.ntmps127;go_upto_region 1 with fail
 refine Al (fun u=>Hid (Qy w u v h x y c)) ⟨E0.1,E0.2.1,E0.2.2.1,E0.2.2.2⟩ ?_;rintro U E1;clear E0;obtain⟨p0,p1,p2,p3,p4,p5,p6,p7,p8,p9,p10,p11,p12,p13,p14⟩:=Cl E1.o.body;simp only[HG.o.1,HG.o.2]at p11;go_wp2_with fail
 go_loopw [14] (fun i wr=>∃k:Nat,k<=F.length/\i=.int .i64 k/\Hid (∀(j:Nat) (m:MB),j<k->(F.map Prod.fst)[j]?=some m->¬((h:Int)∈m.next/\¬((j:Int)∈bl)/\¬AL ks xs m c))/\Hid (Qy w wr v h x y c)) (fun i _=>F.length-(intOf i).toNat)
 case atStart=>exact⟨0,by omega,rfl,fun j m hj=>absurd hj (by omega),E1⟩
 case round=>
 clear E1 p0 p1 p2 p3 p4 p5 p6 p7 p8 p9 p10 p11 p12 p13 p14;obtain⟨k,hk,rfl,HT,E1⟩:=hrel;by_cases hlt:k<F.length
 case pos=>
  obtain⟨m,g',o',ma,me,nx,hm,eg,en,i0,i1,i2,e1,e2,hme,hme2,hFk⟩:=H.o.1.at hlt;rw[HG.o.1]at eg;simp only[aR,cR,cw]at eg;obtain⟨rfl,rfl⟩:=eg;obtain⟨hnx,hnl⟩:=H.o.2.1 _ (aE hFk);simp only[]at hnx hnl;obtain⟨na,nc,enx⟩:=Rd.is_slice hnx;subst enx;rw[<-E1.o.bel.cell (aC i0)]at i0;rw[<-E1.o.bel.cell (aC i1)]at i1;rw[<-E1.o.bel.cell (aC i2)]at i2;have HM:Hid ((F.map Prod.fst)[k]?=some m/\NM w (.slice na m.next.length nc) m/\m.next.length<=1048576/\m.first=(ma:Int)/\m.last=(me:Int)):=⟨hm,hnx,hnl,e1,e2⟩
  have HT':Hid (¬((h:Int)∈m.next/\¬((k:Int)∈bl)/\¬AL ks xs m c)->∀(j:Nat) (m:MB),j<k+1->(F.map Prod.fst)[j]?=some m->¬((h:Int)∈m.next/\¬((j:Int)∈bl)/\¬AL ks xs m c)):=fun hno j m' hj hm'=>by
   by_cases e:j=k
   . subst e
     rw[HM.o.1]at hm';have em:=ae hm';subst em;exact hno
   . exact HT.o j m' (by omega) hm'
  have s1:¬g=wr.heap.size:=bJ (aC i0);have s2:g<wr.heap.size:=aC i0;clear hm hnx hnl hFk e1 e2 en;go_upto_region 4 with fail
  refine Al (fun u=>Hid (Qy w u v h x y c/\Ak u wr.heap.size #[.int .i64 (ma:Int),.int .i64 (me:Int),.slice na m.next.length nc] 58)) ⟨E1.o.keep (Aa _ _),Ak.new _ _ _⟩ ?_
  rintro UA EA;generalize wr.heap.size=YB at EA⊢;clear i0 i1 i2 s1 s2 E1;obtain⟨b0,b1,b2⟩:=BI EA.o.2;obtain⟨l0,l1,l2⟩:=BI EA.o.1.loop;rw[HYN.o]at l2;go_wp2_with fail
  refine(Dh na nc m.next (h:Int) UA HM.o.2.2.1 (Rd.keep HM.o.2.1 EA.o.1.bel lR)).mono ?_;rintro e u2 ⟨⟨q1,rfl,hq1⟩,rfl⟩;have HQ1:Hid (q1=true↔(h:Int)∈m.next):=hq1;clear hq1;cases q1
  case false=>
   have HNO:Hid (¬((h:Int)∈m.next/\¬((k:Int)∈bl)/\¬AL ks xs m c)):=fun e=>(by have:=HQ1.o.2 e.1;cases this)
   go_wp2
   go_roundw
   case rel=>exact⟨k+1,by omega,by go_num,HT'.o HNO.o,EA.o.1⟩
   case measure=>simp[intOf];omega
  go_wp2_with fail
  have HY:Hid (Rd w 1 (.slice y.a bl.length y.c) bl.length (bl.flatMap Ac)):=by
   have:=H.o.2.2.1;rw[HYN.o]at this;exact this
  refine(Dh y.a y.c bl (k:Int) u2 (aY H.o.2.2.2.1 (by omega)) (Rd.keep HY.o EA.o.1.bel lR)).mono ?_;rintro e u3 ⟨⟨q2,rfl,hq2⟩,rfl⟩;have HQ2:Hid (q2=true↔(k:Int)∈bl):=hq2;clear hq2;cases q2
  case true=>
   have HNO:Hid (¬((h:Int)∈m.next/\¬((k:Int)∈bl)/\¬AL ks xs m c)):=fun e=>e.2.1 (HQ2.o.1 (by first|rfl|trivial))
   go_wp2
   go_roundw
   case rel=>exact⟨k+1,by omega,by go_num,HT'.o HNO.o,EA.o.1⟩
   case measure=>simp[intOf];omega
  obtain⟨p0,p1,p2,p3,p4,p5,p6,p7,p8,p9,p10,p11,p12,p13,p14⟩:=Cl EA.o.1.body;obtain⟨c0,c1,c2,c3⟩:=Bq EA.o.1.cert;go_wp2_with fail
  have HSC:=Hd v (.slice na m.next.length nc) xs ks m c u3 H.o.1.top (H.o.2.2.2.2.keep EA.o.1.bel).code H.o.2.2.2.2.cap H.o.2.2.2.2.kn (H.o.2.2.2.2.keep EA.o.1.bel).kr H.o.2.2.2.2.con (H.o.1.blk k m HM.o.1);rw[HM.o.2.2.2.1,HM.o.2.2.2.2]at HSC;refine HSC.mono ?_;rintro e u4 ⟨⟨q3,rfl,hq3⟩,bb⟩;have HQ3:Hid (q3=true↔AL ks xs m c):=hq3;have E4:Hid (Qy w u4 v h x y c):=EA.o.1.keep bb;clear hq3 bb HSC;cases q3
  case true=>
   have HNO:Hid (¬((h:Int)∈m.next/\¬((k:Int)∈bl)/\¬AL ks xs m c)):=fun e=>e.2.2 (HQ3.o.1 (by first|rfl|trivial))
   go_wp2
   go_roundw
   case rel=>exact⟨k+1,by omega,by go_num,HT'.o HNO.o,E4.o⟩
   case measure=>simp[intOf];omega
  have HN:Hid (¬¬∃(b:Nat) (m:MB),(F.map Prod.fst)[b]?=some m/\(h:Int)∈m.next/\¬((b:Int)∈bl)/\¬AL ks xs m c):=fun e=>e ⟨k,m,HM.o.1,HQ1.o.1 (by first|rfl|trivial),fun e=>(by have:=HQ2.o.2 e;cases this),fun e=>(by have:=HQ3.o.2 e;cases this)⟩
  go_wp2
  go_ret
  exact⟨.no HN.o,E4.o.bel⟩
 have hkn:k=F.length:=by omega
 subst hkn;have HY:Hid (¬∃(b:Nat) (m:MB),(F.map Prod.fst)[b]?=some m/\(h:Int)∈m.next/\¬((b:Int)∈bl)/\¬AL ks xs m c):=fun⟨b,m,h1,h2⟩=>HT.o b m (by have:=(aD.1 h1).1;simpa using this) h1 h2
 go_wp2
 go_ret
 exact⟨.yes HY.o,E1.o.bel⟩
end Go.Proofs.YtdipfjmlfbdkdaaGreat
