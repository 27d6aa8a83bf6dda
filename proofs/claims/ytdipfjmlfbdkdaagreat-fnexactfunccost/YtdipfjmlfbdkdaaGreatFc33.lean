import Derived.Test.YtdipfjmlfbdkdaaGreatFc32
import Derived.Test.YtdipfjmlfbdkdaaGreatFc19
namespace Go.Proofs.YtdipfjmlfbdkdaaGreat
open Go.ChangeShapes Go.WideShapes Go.ChangeAt Go.RowKit
set_option linter.unusedVariables false
set_option maxHeartbeats 8000000
set_option maxRecDepth 100000
theorem Cl{u:World}{b:Nat}{t:TypeId}{v:Bz}(H:Ak u b v.cells t):u.cell? ⟨b,0,none⟩=some (.slice v.r.a v.r.n v.r.c)/\u.cell? ⟨b,1,none⟩=some (.slice v.k.a v.k.n v.k.c)/\u.cell? ⟨b,2,none⟩=some (.slice v.f.a v.f.n v.f.c)/\u.cell? ⟨b,3,none⟩=some (.slice v.t.a v.t.n v.t.c)/\u.cell? ⟨b,4,none⟩=some (.slice v.p.a v.p.n v.p.c)/\u.cell? ⟨b,5,none⟩=some (.int .i64 v.rs)/\u.cell? ⟨b,6,none⟩=some (.slice v.l.a v.l.n v.l.c)/\u.cell? ⟨b,7,none⟩=some (.slice v.c.a v.c.n v.c.c)/\u.cell? ⟨b,8,none⟩=some (.int .i64 v.nu)/\u.cell? ⟨b,9,none⟩=some (.int .i64 v.co)/\u.cell? ⟨b,10,none⟩=some (.int .i64 v.at_)/\u.cell? ⟨b,11,none⟩=some (.slice v.b.a v.b.n v.b.c)/\u.cell? ⟨b,12,none⟩=some (.slice v.o.a v.o.n v.o.c)/\u.cell? ⟨b,13,none⟩=some (.slice v.i.a v.i.n v.i.c)/\u.cell? ⟨b,14,none⟩=some (.slice v.q.a v.q.n v.q.c):=by
 unfold Bz.cells at H;exact⟨H.cell 0,H.cell 1,H.cell 2,H.cell 3,H.cell 4,H.cell 5,H.cell 6,H.cell 7,H.cell 8,H.cell 9,H.cell 10,H.cell 11,H.cell 12,H.cell 13,H.cell 14⟩
structure Hr(w u:World)(v:Bz)(h:Nat)(x y:Ev):Prop where
 body:Ak u w.heap.size v.cells 85
 loop:Ak u (w.heap.size+1) #[.int .i64 (h:Int),.slice x.a x.n x.c,.slice y.a y.n y.c] 68
 bel:Below w.heap.size w u
theorem Hr.keep{w u u':World}{v:Bz}{h:Nat}{x y:Ev}(H:Hr w u v h x y)(hb:Below u.heap.size u u'):Hr w u' v h x y:=⟨H.body.keep hb,H.loop.keep hb,Ab H.bel lR hb⟩
theorem GK(v:Bz)(h:Nat)(x y:Ev)(F:List (MB×Value))(m:MB)(w:World)(hn:F.length<=1048576)(hb:Rd w 3 (.slice v.b.a v.b.n v.b.c) F.length (F.flatMap A9))(hm:(F.map Prod.fst)[h]?=some m):
 Calls Tryz.prog 123 #[.agg v.cells,.agg #[.int .i64 (h:Int),.slice x.a x.n x.c,.slice y.a y.n y.c]] w fun e w'=>e=.returned (.int .i64 m.first)/\Below w.heap.size w w':=
 EX (.slice v.r.a v.r.n v.r.c) (.slice v.k.a v.k.n v.k.c) (.slice v.f.a v.f.n v.f.c) (.slice v.t.a v.t.n v.t.c) (.slice v.p.a v.p.n v.p.c) (.int .i64 v.rs) (.slice v.l.a v.l.n v.l.c) (.slice v.c.a v.c.n v.c.c) (.int .i64 v.nu) (.int .i64 v.co) (.int .i64 v.at_) (.slice v.b.a v.b.n v.b.c) (.slice v.o.a v.o.n v.o.c) (.slice v.i.a v.i.n v.i.c) (.slice v.q.a v.q.n v.q.c) (.slice x.a x.n x.c) (.slice y.a y.n y.c) F h m w hn hb hm
theorem Fq(v:Bz)(h:Nat)(x y:Ev)(F:List (MB×Value))(xs:List MI)(bl:List Int)(cnt:Int)(m:MB)(w:World)(hF:FA w v F xs.length)(hm:(F.map Prod.fst)[h]?=some m)(hy:Rd w 1 (.slice y.a y.n y.c) bl.length (bl.flatMap Ac))(hbl:bl.length<=1024)(hz:∀z∈bl,∃b:Nat,z=(b:Int)/\b<F.length)(hc:Rd w 4 (.slice v.c.a v.c.n v.c.c) xs.length (xs.flatMap MI.cells)):
 Calls Tryz.prog 126 #[.agg v.cells,.agg #[.int .i64 (h:Int),.slice x.a x.n x.c,.slice y.a y.n y.c],.int .i64 cnt] w fun e w'=>Aj e (∃a,Cb (F.map Prod.fst) bl a/\a≠m.first/\FM xs cnt a)/\Below w.heap.size w w':=by
 have H:Hid (FA w v F xs.length/\(F.map Prod.fst)[h]?=some m/\Rd w 1 (.slice y.a y.n y.c) bl.length (bl.flatMap Ac)/\bl.length<=1024/\(∀z∈bl,∃b:Nat,z=(b:Int)/\b<F.length)/\Rd w 4 (.slice v.c.a v.c.n v.c.c) xs.length (xs.flatMap MI.cells)):=⟨hF,hm,hy,hbl,hz,hc⟩
 have htop:xs.length<=1024:=hF.top;clear hF hm hy hbl hz hc;have E0:=Bw w v.cells #[.int .i64 (h:Int),.slice x.a x.n x.c,.slice y.a y.n y.c] 85 68;go_enter Tryz.func126,Tryz.ntmps126;go_upto_region 1 with fail
 refine Al (fun u=>Hid (Hr w u v h x y)) ⟨E0.1,E0.2.1,E0.2.2⟩ ?_;rintro U HE;clear E0;obtain⟨p0,p1,p2,p3,p4,p5,p6,p7,p8,p9,p10,p11,p12,p13,p14⟩:=Cl HE.o.body;obtain⟨l0,l1,l2⟩:=BI HE.o.loop;go_wp2_with fail
 refine(Dz v (h:Int) x y F xs.length bl U (H.o.1.keep HE.o.bel) (H.o.2.2.1.keep HE.o.bel lR) H.o.2.2.2.1 H.o.2.2.2.2.1).mono ?_;rintro e u1 ⟨pa,pc,ps,rfl,hps,hin,hpl,bb⟩;have E1:Hid (Hr w u1 v h x y/\Rd u1 1 (.slice pa ps.length pc) ps.length (ps.flatMap Ac)):=⟨HE.o.keep bb,hps⟩
 have HI:Hid (∀z,z∈ps↔Cb (F.map Prod.fst) bl z):=hin
 have HP:Hid (∀z∈ps,∃(d:Nat) (q:MI),z=(d:Int)/\d<xs.length/\xs[d]?=some q):=fun z hz=>by
  obtain⟨y',hy',m',h1,h2,h3⟩:=(HI.o z).1 hz;obtain⟨b,eb,hb⟩:=H.o.2.2.2.2.1 y' hy';rw[eb,aG]at h1;obtain⟨a,e,e1,e2,e3,e4⟩:=H.o.1.blk b m' h1;rw[e1]at h2;rw[e2]at h3;obtain⟨d,hd⟩:=aT (show 0<=z by omega);exact⟨d,_,hd,by omega,aA (by omega)⟩
 clear bb hps hin HE p0 p1 p2 p3 p4 p5 p6 p7 p8 p9 p10 p11 p12 p13 p14 l0 l1 l2;clear U;go_wp2_with fail
 go_loopw [15] (fun i wr=>∃k:Nat,k<=ps.length/\i=.int .i64 k/\Hid (∀(j:Nat) (z:Int),j<k->ps[j]?=some z->¬(z≠m.first/\FM xs cnt z))/\Hid (Hr w wr v h x y/\Rd wr 1 (.slice pa ps.length pc) ps.length (ps.flatMap Ac))) (fun i _=>ps.length-(intOf i).toNat)
 case atStart=>exact⟨0,by omega,rfl,fun j z hj=>absurd hj (by omega),E1⟩
 case round=>
 clear E1;obtain⟨k,hk,rfl,HT,E1⟩:=hrel;by_cases hlt:k<ps.length
 case pos=>
  obtain⟨z,hz⟩:∃z,ps[k]?=some z:=⟨_,aA hlt⟩;obtain⟨d,⟨yo,ya,yb,yc⟩,ed,hd,hq⟩:=HP.o z (aE hz);rcases E1.o.2.2 with⟨q0,_⟩|⟨gp,op,cp,q1,hcp⟩
  . omega
  simp only[aF,aw]at q1;obtain⟨rfl,rfl⟩:=q1;have z0:=Rd.elem Ap hcp k z hz 0 _ rfl;rw[bf,aS,ed]at z0;rcases H.o.2.2.2.2.2.2 with⟨q0,_⟩|⟨gc,oc,cc,q1,hcc⟩
  . omega
  simp only[aF]at q1;have HQ1:Hid (v.c.a=some ⟨gc,oc,none⟩/\v.c.n=xs.length):=⟨q1.1,q1.2.1⟩
  have w0:=Rd.elem MI.cells_length hcc d _ hq 0 _ rfl;have w1:=Rd.elem MI.cells_length hcc d _ hq 1 _ rfl;have w2:=Rd.elem MI.cells_length hcc d _ hq 2 _ rfl;have w3:=Rd.elem MI.cells_length hcc d _ hq 3 _ rfl;rw[<-E1.o.1.bel.cell (aC w0),aS]at w0;rw[<-E1.o.1.bel.cell (aC w1)]at w1;rw[<-E1.o.1.bel.cell (aC w2)]at w2;rw[<-E1.o.1.bel.cell (aC w3)]at w3;simp only[]at w0 w1 w2 w3;have HZ:Hid (ps[k]?=some z/\z=(d:Int)/\xs[d]?=some ⟨yo,ya,yb,yc⟩):=⟨hz,ed,hq⟩
  clear hcc hcp q1 hz ed hq;obtain⟨p0,p1,p2,p3,p4,p5,p6,p7,p8,p9,p10,p11,p12,p13,p14⟩:=Cl E1.o.1.body;simp only[HQ1.o.1,HQ1.o.2]at p7;have hdI:(d:Int)<(xs.length:Int):=by omega
  have s1:¬gc=wr.heap.size:=bJ (aC w0);have s2:gc<wr.heap.size:=aC w0;go_upto_region 5 with fail
  refine Al (fun u=>Hid ((Hr w u v h x y/\Rd u 1 (.slice (some ⟨gp,op,none⟩) ps.length pc) ps.length (ps.flatMap Ac))/\Ak u wr.heap.size #[.int .i64 yo,.int .i64 ya,.int .i64 yb,.int .i64 yc] 60)) ⟨⟨E1.o.1.keep (Aa _ _),E1.o.2.keep (Aa _ _) lR⟩,Ak.new _ _ _⟩ ?_
  rintro UA EA;generalize wr.heap.size=YB at EA⊢;clear s1 s2 w0 w1 w2 w3 z0 E1 p0 p1 p2 p3 p4 p5 p6 p7 p8 p9 p10 p11 p12 p13 p14;obtain⟨w0,w1,w2,w3⟩:=Bq EA.o.2
  have HW:Hid (FM xs cnt z↔(yo=3\/yo=27)/\ya=cnt):=by
   constructor
   . rintro⟨q,hq,h1,h2⟩
     rw[HZ.o.2.1,aG,HZ.o.2.2]at hq;have ey:=ae hq;subst ey;exact⟨h1,h2⟩
   . rintro⟨h1,h2⟩
     exact⟨_,by rw[HZ.o.2.1,aG];exact HZ.o.2.2,h1,h2⟩
  have HT':Hid (¬(z≠m.first/\FM xs cnt z)->∀(j:Nat) (z:Int),j<k+1->ps[j]?=some z->¬(z≠m.first/\FM xs cnt z)):=fun hno j z' hj hz'=>by
   by_cases e:j=k
   . subst e
     rw[HZ.o.1]at hz';have ez:=ae hz';subst ez;exact hno
   . exact HT.o j z' (by omega) hz'
  by_cases g1:yo=3\/yo=27
  case neg=>
   have g2:¬yo=3:=fun e=>g1 (.inl e)
   have g3:¬yo=27:=fun e=>g1 (.inr e)
   have HNO:Hid (¬(z≠m.first/\FM xs cnt z)):=fun e=>g1 (HW.o.1 e.2).1
   clear g1;go_wp2
   go_roundw
   case rel=>exact⟨k+1,by omega,by go_num,HT'.o HNO.o,EA.o.1⟩
   case measure=>simp[intOf];omega
  by_cases g4:ya=cnt
  case neg=>
   have g4':(ya==cnt)=false:=by simp[g4]
   have HNO:Hid (¬(z≠m.first/\FM xs cnt z)):=fun e=>g4 (HW.o.1 e.2).2
   rcases g1 with g1|g1
   . rw[g1]at w0
     go_wp2
     go_roundw
     case rel=>exact⟨k+1,by omega,by go_num,HT'.o HNO.o,EA.o.1⟩
     case measure=>simp[intOf];omega
   . rw[g1]at w0
     go_wp2
     go_roundw
     case rel=>exact⟨k+1,by omega,by go_num,HT'.o HNO.o,EA.o.1⟩
     case measure=>simp[intOf];omega
  have HWY:Hid (FM xs cnt z):=HW.o.2 ⟨g1,g4⟩;rw[g4]at w1;obtain⟨p0,p1,p2,p3,p4,p5,p6,p7,p8,p9,p10,p11,p12,p13,p14⟩:=Cl EA.o.1.1.body;obtain⟨l0,l1,l2⟩:=BI EA.o.1.1.loop;have HK:Hid ((yo=3\/yo=27)->True):=fun _=>trivial
  have hY:∀o:Int,(o=3\/o=27)->o=yo->True:=fun _ _ _=>trivial
  clear hY HK;rcases g1 with g1|g1
  all_goals
   rw[g1]at w0;go_wp2_with fail
   refine(GK v h x y F m UA (aY H.o.1.len (by omega)) ((H.o.1.rd).keep EA.o.1.1.bel lR) H.o.2.1).mono ?_;rintro e u3 ⟨rfl,bb⟩;have E3:Hid (Hr w u3 v h x y/\Rd u3 1 (.slice (some ⟨gp,op,none⟩) ps.length pc) ps.length (ps.flatMap Ac)):=⟨EA.o.1.1.keep bb,EA.o.1.2.keep bb lR⟩
   clear bb;by_cases g5:(d:Int)=m.first
   . have HNO:Hid (¬(z≠m.first/\FM xs cnt z)):=fun e=>e.1 (by rw[HZ.o.2.1];exact g5)
     go_wp2
     go_roundw
     case rel=>exact⟨k+1,by omega,by go_num,HT'.o HNO.o,E3.o⟩
     case measure=>simp[intOf];omega
   . have g5':((d:Int)==m.first)=false:=by simp[g5]
     have HY:Hid (∃a,Cb (F.map Prod.fst) bl a/\a≠m.first/\FM xs cnt a):=⟨z,(HI.o z).1 (aE HZ.o.1),by rw[HZ.o.2.1];exact g5,HWY.o⟩
     go_wp2
     go_ret
     exact⟨.yes HY.o,E3.o.1.bel⟩
 have hkn:k=ps.length:=by omega
 subst hkn
 have HN:Hid (¬∃a,Cb (F.map Prod.fst) bl a/\a≠m.first/\FM xs cnt a):=fun⟨a,h1,h2⟩=>by
  obtain⟨j,hj⟩:=bH ((HI.o a).2 h1);exact HT.o j a (aD.1 hj).1 hj h2
 go_wp2
 go_ret
 exact⟨.no HN.o,E1.o.1.bel⟩
def DF(p:MP)(fi:Int)(l:ML):Prop:=Be p 0/\0<=fi/\∃f r,p.funcs[fi.toNat]?=some f/\AR f.code r/\r.code=0/\l∈r.loops
def GP(p:MP)(fi:Int)(l:ML)(f:MF)(r:Dm):Prop:=Be p 0/\0<=fi/\p.funcs[fi.toNat]?=some f/\AR f.code r/\r.code=0/\l∈r.loops
def KQ(p:MP)(fi:Int)(l:ML)(n:Int):Prop:=(¬DF p fi l/\n=7)\/∃f r,GP p fi l f r/\Au p fi f.code r.blocks l n
theorem GP.own{p:MP}{fi:Int}{l:ML}{f:MF}{r:Dm}(h:GP p fi l f r):DF p fi l:=⟨h.1,h.2.1,f,r,h.2.2⟩
theorem GP.one{p:MP}{fi:Int}{l:ML}{f f':MF}{r r':Dm}(h:GP p fi l f r)(h':GP p fi l f' r'):f=f'/\r=r':=by
 have e:=h.2.2.1;rw[h'.2.2.1]at e;have e:=(ae e).symm;subst e;exact⟨rfl,h.2.2.2.1.one h'.2.2.2.1⟩
theorem KQ.one{p:MP}{fi:Int}{l:ML}{n n':Int}(h:KQ p fi l n)(h':KQ p fi l n'):n=n':=by
 rcases h with⟨a,rfl⟩|⟨f,r,a,h⟩<;>rcases h' with⟨a',rfl⟩|⟨f',r',a',h'⟩
 . rfl
 . exact absurd a'.own a
 . exact absurd a.own a'
 . obtain⟨rfl,rfl⟩:=a.one a'
   exact h.one h'
theorem FH{xs:List MI}{r:Dm}(h:AR xs r):r.loops.length<=1024/\∀m∈r.loops,m.back.length<=1048576/\m.blocks.length<=1048576:=by
 by_cases h0:r.code=0
 . have q:=h.inn h0
   exact⟨q.nl,fun m hm=>⟨by have:=(q.loop m hm).2.2.2;omega,by have:=(q.loop m hm).2.2.1;omega⟩⟩
 . cases h with
   |none _=>exact⟨by simp[Dc],fun m hm=>by cases hm⟩
   |off _ _ _=>exact⟨by simp[Dc],fun m hm=>by cases hm⟩
   |lost _ _ _ _ _ _ _ _=>exact⟨by simp[Dc],fun m hm=>by cases hm⟩
   |two _ _ _ _ _ _ _ _=>exact⟨by simp[Dc],fun m hm=>by cases hm⟩
   |good _ _ _ _ _ _ _ _ _=>exact absurd rfl h0
theorem Au.c1{p:MP}{fi:Int}{xs:List MI}{bs:List MB}{l:ML}{hb:MB}(h:bs[l.head.toNat]?=some hb)(h1:Bh p.certs fi hb.first=none):Au p fi xs bs l 1:=⟨hb,h,.inl ⟨h1,rfl⟩⟩
structure Me(p:MP)(fi:Int)(xs:List MI)(bs:List MB)(l:ML)(hb:MB)(c:MT)(g:MI):Prop where
 is_:bs[l.head.toNat]?=some hb
 cert:Bh p.certs fi hb.first=some c
 at_:xs[hb.first.toNat]?=some g
theorem Au.c2{p:MP}{fi:Int}{xs:List MI}{bs:List MB}{l:ML}{hb:MB}{c:MT}{g:MI}(h:Me p fi xs bs l hb c g)(h2:¬(g.op=27/\g.a=c.counter)):Au p fi xs bs l 2:=⟨hb,h.is_,.inr ⟨c,g,h.cert,h.at_,.inl ⟨h2,rfl⟩⟩⟩
theorem Au.c3{p:MP}{fi:Int}{xs:List MI}{bs:List MB}{l:ML}{hb:MB}{c:MT}{g:MI}(h:Me p fi xs bs l hb c g)(h2:g.op=27/\g.a=c.counter)(h3:Cb bs l.blocks g.c):Au p fi xs bs l 3:=⟨hb,h.is_,.inr ⟨c,g,h.cert,h.at_,.inr ⟨h2,.inl ⟨h3,rfl⟩⟩⟩⟩
theorem Au.c4{p:MP}{fi:Int}{xs:List MI}{bs:List MB}{l:ML}{hb:MB}{c:MT}{g:MI}(h:Me p fi xs bs l hb c g)(h2:g.op=27/\g.a=c.counter)(h3:¬Cb bs l.blocks g.c)(h4:∃a,Cb bs l.blocks a/\a≠hb.first/\FM xs c.counter a):Au p fi xs bs l 4:=⟨hb,h.is_,.inr ⟨c,g,h.cert,h.at_,.inr ⟨h2,.inr ⟨h3,.inl ⟨h4,rfl⟩⟩⟩⟩⟩
theorem Au.c5{p:MP}{fi:Int}{xs:List MI}{bs:List MB}{l:ML}{hb:MB}{c:MT}{g:MI}(h:Me p fi xs bs l hb c g)(h2:g.op=27/\g.a=c.counter)(h3:¬Cb bs l.blocks g.c)(h4:¬∃a,Cb bs l.blocks a/\a≠hb.first/\FM xs c.counter a)(h5:l.head=0\/GO p.consts xs bs l c):Au p fi xs bs l 5:=⟨hb,h.is_,.inr ⟨c,g,h.cert,h.at_,.inr ⟨h2,.inr ⟨h3,.inr ⟨h4,.inl ⟨h5,rfl⟩⟩⟩⟩⟩⟩
theorem Au.c0{p:MP}{fi:Int}{xs:List MI}{bs:List MB}{l:ML}{hb:MB}{c:MT}{g:MI}(h:Me p fi xs bs l hb c g)(h2:g.op=27/\g.a=c.counter)(h3:¬Cb bs l.blocks g.c)(h4:¬∃a,Cb bs l.blocks a/\a≠hb.first/\FM xs c.counter a)(h5:¬(l.head=0\/GO p.consts xs bs l c)):Au p fi xs bs l 0:=⟨hb,h.is_,.inr ⟨c,g,h.cert,h.at_,.inr ⟨h2,.inr ⟨h3,.inr ⟨h4,.inr ⟨h5,rfl⟩⟩⟩⟩⟩⟩
theorem Hh{u:World}{a:Option Addr}{n c:Nat}{ls:List ML}(h:I6 u (.slice a n c) ls){k:Nat}{m:ML}(hk:ls[k]?=some m):∃g o a1 e1 a2 e2,a=some ⟨g,o,none⟩/\u.cell? ⟨g,o+k*3,none⟩=some (.int .i64 m.head)/\u.cell? ⟨g,o+k*3+1,none⟩=some (.slice a1 m.back.length e1)/\u.cell? ⟨g,o+k*3+2,none⟩=some (.slice a2 m.blocks.length e2)/\Nl u (m,.slice a1 m.back.length e1,.slice a2 m.blocks.length e2):=by
 obtain⟨xs,h1,h2,h3⟩:=h;have hi:=(aD.1 hk).1
 obtain⟨⟨m',w1,w2⟩,hx,hx1⟩:∃x,xs[k]?=some x/\x.1=m:=by
  rw[<-h1,bB]at hk;exact cY.1 hk
 simp only[]at hx1;subst hx1;have hr:=h3 _ (aE hx);obtain⟨a1,e1,q1⟩:=Rd.is_slice hr.1;obtain⟨a2,e2,q2⟩:=Rd.is_slice hr.2;simp only[]at q1 q2;subst q1 q2;rcases h2.2 with⟨e,_⟩|⟨gg,oo,cc,e,hc⟩
 . omega
 . simp only[aF]at e
   have j0:=Rd.elem BG hc k _ hx 0 _ rfl;have j1:=Rd.elem BG hc k _ hx 1 _ rfl;have j2:=Rd.elem BG hc k _ hx 2 _ rfl;rw[aS]at j0;exact⟨gg,oo,a1,e1,a2,e2,e.1,j0,j1,j2,hr⟩
theorem FE{u:World}{a:Option Addr}{n c:Nat}{bs:List MB}(h:FR u (.slice a n c) bs){k:Nat}{m:MB}(hk:bs[k]?=some m):∃g o a1 e1,a=some ⟨g,o,none⟩/\u.cell? ⟨g,o+k*3,none⟩=some (.int .i64 m.first)/\u.cell? ⟨g,o+k*3+1,none⟩=some (.int .i64 m.last)/\u.cell? ⟨g,o+k*3+2,none⟩=some (.slice a1 m.next.length e1)/\NM u (.slice a1 m.next.length e1) m:=by
 obtain⟨xs,h1,h2,h3⟩:=h;have hi:=(aD.1 hk).1
 obtain⟨⟨m',w1⟩,hx,hx1⟩:∃x,xs[k]?=some x/\x.1=m:=by
  rw[<-h1,bB]at hk;exact cY.1 hk
 simp only[]at hx1;subst hx1;have hr:=h3 _ (aE hx);obtain⟨a1,e1,q1⟩:=Rd.is_slice hr;simp only[]at q1;subst q1;rcases h2.2 with⟨e,_⟩|⟨gg,oo,cc,e,hc⟩
 . omega
 . simp only[aF]at e
   have j0:=Rd.elem AJ hc k _ hx 0 _ rfl;have j1:=Rd.elem AJ hc k _ hx 1 _ rfl;have j2:=Rd.elem AJ hc k _ hx 2 _ rfl;rw[aS]at j0;exact⟨gg,oo,a1,e1,e.1,j0,j1,j2,hr⟩
theorem Ey.keepL{w w':World}{vb vo vi vl:Value}{r:Dm}(h:Ey w vb vo vi vl r){B:Nat}(hb:Below B w w')(hB:w.heap.size<=B):Ey w' vb vo vi vl r:=⟨h.blocks.keep hb hB,h.order.keep hb hB,h.idom.keep hb hB,h.loops.keep hb hB⟩
theorem LC{w:World}{vb vo vi vl:Value}{r:Dm}(h:Ey w vb vo vi vl r):∃v1 c1 v2 c2 v3 c3 v4 c4,vb=.slice v1 r.blocks.length c1/\vo=.slice v2 r.order.length c2/\vi=.slice v3 r.idom.length c3/\vl=.slice v4 r.loops.length c4:=by
 obtain⟨v1,c1,e1⟩:∃a c,vb=.slice a r.blocks.length c:=by obtain⟨_,_,h2,_⟩:=h.blocks;exact h2.is_slice
 obtain⟨v2,c2,e2⟩:=h.order.is_slice;obtain⟨v3,c3,e3⟩:=h.idom.is_slice;obtain⟨v4,c4,e4⟩:∃a c,vl=.slice a r.loops.length c:=by obtain⟨_,_,h2,_⟩:=h.loops;exact h2.is_slice
 exact⟨v1,c1,v2,c2,v3,c3,v4,c4,e1,e2,e3,e4⟩
structure Mb(w u:World)(v:VP)(lv:VL)(l:ML)(FB:Nat)(r:Dm)(z1 z2 z3 z4:Value):Prop where
 pb:Ak u w.heap.size #[v.r,v.k,v.f,v.t] 35
 lb:Ak u (w.heap.size+1) #[.int .i64 l.head,lv.b,lv.k] 68
 fb:Ak u FB #[.int .i64 r.code,.int .i64 r.at_,z1,z2,z3,z4] 52
 rf:Ey u z1 z2 z3 z4 r
 bel:Below w.heap.size w u
theorem Mb.keep{w u u':World}{v:VP}{lv:VL}{l:ML}{FB:Nat}{r:Dm}{z1 z2 z3 z4:Value}(h:Mb w u v lv l FB r z1 z2 z3 z4)(hb:Below u.heap.size u u'):Mb w u' v lv l FB r z1 z2 z3 z4:=⟨h.pb.keep hb,h.lb.keep hb,h.fb.keep hb,h.rf.keepL hb lR,Ab h.bel lR hb⟩
theorem Qr{bs:List MB}{ls:List Int}{j b:Nat}{z:Int}{m:MB}{a:Int}(hz:ls[j]?=some z)(hb:z=(b:Int))(hm:bs[b]?=some m)(h1:m.first<=a)(h2:a<=m.last):Cb bs ls a:=⟨z,aE hz,m,by rw[hb,aG];exact hm,h1,h2⟩
theorem JM{bs:List MB}{ls:List Int}{P:Int->Prop}(h:∀(j:Nat) (z:Int) (m:MB),ls[j]?=some z->bs[z.toNat]?=some m->∀a,m.first<=a->a<=m.last->¬P a):¬∃a,Cb bs ls a/\P a:=by
 rintro⟨a,⟨z,hz,m,hm,h1,h2⟩,hp⟩;obtain⟨j,hj⟩:=bH hz;exact h j z m hj hm a h1 h2 hp
end Go.Proofs.YtdipfjmlfbdkdaaGreat
