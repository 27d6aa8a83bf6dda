import Derived.Test.YtmalfecapdmdbaaGreatHo34
namespace Go.Proofs.YtmalfecapdmdbaaGreat
open Go.ChangeShapes Go.WideShapes Go.ChangeAt Go.RowKit Go.Proofs.Tryz
set_option linter.unusedVariables false
open Go.Value renaming slice → Z,int → Ag,agg → Am
open Option renaming some → K
open Go renaming Value → J,World → Y,Calls → Ai
open Go.RowKit renaming Hid → Ae,Below → Ah
open Go.Proofs.Tryz renaming prog → Ap
open List renaming flatMap → Ad
set_option maxHeartbeats 8000000
set_option maxRecDepth 100000
structure SC(w:Y)(v:BI)(xs:List MI)(ks:List MC):Prop where
 eC:Rd w 4 (Z v.c.a v.c.n v.c.c) xs (Ad MI.cells xs)
 cap: ↑xs<=v.c.c
 kn:ks.length<=1048576
 kr:Rd w 2 (Z v.k.a v.k.n v.k.c) ks (Ad MC.cells ks)
 con:∀x∈xs,x.op=1->0<=x.a/\x.a.toNat< ↑ks
theorem SC.a7{w u:Y}{v:BI}{xs:List MI}{b:List MC}(h:SC w v xs b)(a:Ah w w u):SC u v xs b:=⟨h.eC.a7 a lR,h.cap,h.kn,h.kr.a7 a lR,h.con⟩
structure XE(w u:Y)(v:BI)(h:Nat)(x y:Ey)(c:MT):Prop where
 body:AC u w v.cells 160
 loop:AC u ((w:Nat)+1) #[h,Z x.a x.n x.c,Z y.a y.n y.c] 85
 hQ:AC u ((w:Nat)+1+1) #[c.func,c.head,c.gI,Ag .u32 c.init] 88
 e8:Ah w w u
theorem XE.a7{w u b:Y}{v:BI}{h:Nat}{x y:Ey}{c:MT}(H:XE w u v h x y c)(a:Ah u u b):XE w b v h x y c:=⟨H.body.a7 a,H.loop.a7 a,H.hQ.a7 a,Ar H.e8 lR a⟩
theorem K5(v:BI)(h:Nat)(x y:Ey)(F:List (MB×J))(xs:List MI)(l:List MC)(d:List Int)(c:MT)(m0:MB)(w:Y)(E:Ju w v F xs)(B:(F.map Prod.fst)[h]?=K m0)(r:∀z∈F,Vg w z.2 z.1/\z.1.next.length<=1048576)(Q:Rd w 1 (Z y.a y.n y.c) d (Ad As d))(aq:d.length<=1024)(hc:SC w v xs l):
 Ai Ap 141 #[Am v.cells,Am #[h,Z x.a x.n x.c,Z y.a y.n y.c],Am #[c.func,c.head,c.gI,Ag .u32 c.init]] w λe w'=>AJ e (¬∃(b:Nat) (m:MB),(F.map Prod.fst)[b]?=K m/\(h:Int)∈m.next/\¬((b:Int)∈d)/\¬Bl l xs m c)/\Ah w w w':=by
 have hh:h<F.length:=by have:=(i6.1 B).1;simpa using this
 obtain⟨_,g,o,_,_,_,_,s,D,_⟩:=E.at hh;have H:=Av (d5 E (d5 r (d5 Q (d5 aq hc))));have G:=Av (d5 s D);have am:Ae (y.n= ↑d):=by obtain⟨ya,yc,ey⟩:=Q.dk;simp only[i8]at ey;exact ey.2.1
 have aQ:F.length<=1024:=E.len;clear E B r Q aq hc s D hh;have t:=Ge w v.cells #[h,Z x.a x.n x.c,Z y.a y.n y.c] #[c.func,c.head,c.gI,Ag .u32 c.init] 160 85 88;go_enter func141,ntmps141;go_upto_region 1 with fail
 refine Ax (λu=>Ae (XE w u v h x y c)) ⟨t.1,t.2.1,t.2.2.1,t.2.2.2⟩ ?_;rintro U p;clear t;obtain⟨p0,p1,p2,p3,p4,p5,p6,p7,p8,p9,aE,W,aF,aG,aH⟩:=CQ p.body;simp only[G.1,G.2]at W;go_wp2_with fail;go_loopw [14] (λi wr=>∃k:Nat,k<= ↑F/\i=iZ k/\Ae (∀(j:Nat) (m:MB),j<k->(F.map Prod.fst)[j]?=K m->¬((h:Int)∈m.next/\¬((j:Int)∈d)/\¬Bl l xs m c))/\Ae (XE w wr v h x y c)) (λi _=> ↑F-(intOf i).toNat)
 case atStart=>exact⟨0,oM,rfl, λj m hj=>absurd hj oM,p⟩
 case round=>
 clear p p0 p1 p2 p3 p4 p5 p6 p7 p8 p9 aE W aF aG aH;obtain⟨k,hk,rfl,HT,p⟩:=hrel;by_cases aM:k< ↑F
 case pos=>
  obtain⟨m,g',o',ma,me,nx,B,s,D,C,R,S,e1,e2,aR,aS,ao⟩:=H.1.at aM;rw[G.1]at s;simp only[kI,mE,mV]at s;obtain⟨rfl,rfl⟩:=s;obtain⟨r,P⟩:=H.2.1 _ (i7 ao);simp only[]at r P;obtain⟨T,V,aI⟩:=Rd.dk r;subst aI;rw[<-p.e8.cell (hC C)]at C;rw[<-p.e8.cell (hC R)]at R;rw[<-p.e8.cell (hC S)]at S;have q:=Av (d5 B (d5 r (d5 P (d5 e1 e2))));have L:Ae (¬((h:Int)∈m.next/\¬((k:Int)∈d)/\¬Bl l xs m c)->∀(j:Nat) (m:MB),j<k+1->(F.map Prod.fst)[j]?=K m->¬((h:Int)∈m.next/\¬((j:Int)∈d)/\¬Bl l xs m c)):= λaP j m' hj O=>by
   by_cases e:j=k
   . subst e;rw[q.1]at O;have em:=kH O;subst em;exact aP
   exact HT.o j m' oM O
  have s1:¬g=wr.heap.size:=mA (hC C);have s2:g<wr.heap.size:=hC C;clear B r P ao e1 e2 D;go_upto_region 4 with fail
  refine Ax (λu=>Ae (XE w u v h x y c/\AC u wr #[ma,me,Z T m.next V] 126)) ⟨p.a7 (Aq _ _),AC.new _ _ _⟩ ?_
  rintro UA f;generalize wr.heap.size=YB at f⊢;clear C R S s1 s2 p;obtain⟨b0,b1,b2⟩:=Cl f.2;obtain⟨l0,l1,l2⟩:=Cl f.1.loop;rw[am]at l2;go_wp2_with fail;refine(ES T V m.next (h:Int) UA q.2.2.1 (Rd.a7 q.2.1 f.1.e8 lR)).mono ?_;rintro e u2 ⟨⟨q1,rfl,au⟩,rfl⟩;have ae:=Av au;clear au;cases q1
  case false=>
   have A:Ae (¬((h:Int)∈m.next/\¬((k:Int)∈d)/\¬Bl l xs m c)):= λe=>(by have:=ae.2 e.1;cases this)
   go_wp2;go_roundw;(case rel=>exact⟨k+1,oM,by go_num,L.o A,f.1⟩);exact oI
  go_wp2_with fail;have N:Ae (Rd w 1 (Z y.a d y.c) d (Ad As d)):=by have:=H.2.2.1;rw[am]at this;exact this
  refine(ES y.a y.c d (k:Int) u2 (kV H.2.2.2.1 oM) (Rd.a7 N f.1.e8 lR)).mono ?_;rintro e u3 ⟨⟨q2,rfl,aw⟩,rfl⟩;have ah:=Av aw;clear aw;cases q2
  case true=>
   have A:Ae (¬((h:Int)∈m.next/\¬((k:Int)∈d)/\¬Bl l xs m c)):= λe=>e.2.1 (ah.1 (by first|rfl|trivial))
   go_wp2;go_roundw;(case rel=>exact⟨k+1,oM,by go_num,L.o A,f.1⟩);exact oI
  obtain⟨p0,p1,p2,p3,p4,p5,p6,p7,p8,p9,aE,W,aF,aG,aH⟩:=CQ f.1.body;obtain⟨c0,c1,c2,c3⟩:=Cu f.1.hQ;go_wp2_with fail;have I:=KA v (Z T m.next V) xs l m c u3 H.1.ju (H.2.2.2.2.a7 f.1.e8).eC H.2.2.2.2.cap H.2.2.2.2.kn (H.2.2.2.2.a7 f.1.e8).kr H.2.2.2.2.con (H.1.gK k m q.1);rw[q.2.2.2.1,q.2.2.2.2]at I;refine I.mono ?_;rintro e u4 ⟨⟨q3,rfl,aA⟩,bb⟩;have aj:=Av aA;have X:=Av (f.1.a7 bb);clear aA bb I;cases q3
  case true=>
   have A:Ae (¬((h:Int)∈m.next/\¬((k:Int)∈d)/\¬Bl l xs m c)):= λe=>e.2.2 (aj.1 (by first|rfl|trivial))
   go_wp2;go_roundw;(case rel=>exact⟨k+1,oM,by go_num,L.o A,X⟩);exact oI
  have HN:Ae (¬¬∃(b:Nat) (m:MB),(F.map Prod.fst)[b]?=K m/\(h:Int)∈m.next/\¬((b:Int)∈d)/\¬Bl l xs m c):= λe=>e ⟨k,m,q.1,ae.1 (by first|rfl|trivial), λe=>(by have:=ah.2 e;cases this), λe=>(by have:=aj.2 e;cases this)⟩
  go_wp2;go_ret;exact⟨.no HN,X.e8⟩
 have aJ:k=F.length:=oM;subst aJ;have N:Ae (¬∃(b:Nat) (m:MB),(F.map Prod.fst)[b]?=K m/\(h:Int)∈m.next/\¬((b:Int)∈d)/\¬Bl l xs m c):= λ⟨b,m,h1,h2⟩=>HT.o b m (by have:=(i6.1 h1).1;simpa using this) h1 h2
 go_wp2;go_ret;exact⟨.gY N,p.e8⟩
end Go.Proofs.YtmalfecapdmdbaaGreat
