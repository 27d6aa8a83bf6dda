import Derived.Test.YtadcneiiokbofaaGreatBo27
namespace Go.Proofs.YtadcneiiokbofaaGreat
open Go.ChangeShapes Go.WideShapes Go.ChangeAt Go.RowKit Go.Proofs.Tryz
set_option linter.unusedVariables false
open Go.Value renaming slice → Z,agg → Am
open Option renaming some → K,none → M
open Go renaming Value → J,World → Y,Calls → Ai,TypeId → Aj
open Go.RowKit renaming Hid → Ae,Below → Ah
open Go.Ending renaming returned → Al
open Go.Proofs.Tryz renaming prog → Ap
open Go.World renaming ownsRow → Ab
open List renaming flatMap → Ad
set_option maxHeartbeats 8000000
set_option maxRecDepth 100000
variable {b N base:Nat}{w u:Y}{v:B2}{F:List (MB×J)}{d e s:J}{r:CS}{fs:List MF}
theorem T2{g:List MB}{l:List Int}{k:Nat}{z:Int}{m:MB}(p:l[k]?=K z)(j:z=(b:Int))(n:g[b]?=K m)(a:Int):DP g (l.take (k+1)) a↔DP g (l.take k) a\/(m.gZ<=a/\a<=m.last):=by
 have r:=(i8.1 p).1;have e:l.take (k+1)=l.take k++[z]:=by
  rw[l8 r];congr 2
  exact(i8.1 p).2
 rw[e];unfold DP;constructor
 . rintro⟨y,c,i,d,f⟩;rcases lT.1 c with c|c
   . exact .inl ⟨y,c,i,d,f⟩
   simp only[lw,mK,nJ]at c;subst c;rw[j,lD,n]at d;have q:=lP d;subst q;exact .inr f
 rintro(⟨y,c,i,d,f⟩|h)
 . exact⟨y,lT.2 (.inl c),i,d,f⟩
 exact⟨z,sP,m,by rw[j,lD];exact n,h⟩
theorem Vm{b:List MB}(l:List Int)(a:Int):¬DP b (l.take 0) a:=by rintro⟨y,c,_⟩;simp at c
structure JR(w:Y)(v:B2)(F:List (MB×J))(N:Nat):Prop where
 len:F.length<=1024
 jT:N<=1024
 rd:Rd w 3 (Z v.b.a v.b.n v.b.c) F (Ad B4 F)
 ie:∀(i:Nat) (m:MB),(F.map Prod.fst)[i]?=K m->∃a e:Nat,m.gZ=(a:Int)/\m.last=(e:Int)/\a<=e/\e<N
theorem JR.a7(h:JR w v F N)(a:Ah w w u):JR u v F N:=⟨h.len,h.jT,h.rd.a7 a lR,h.ie⟩
theorem JR.at(h:JR w v F N)(s:b< ↑F):∃(m:MB) (g o a e:Nat) (nx:J),(F.map Prod.fst)[b]?=K m/\v.b.a=K ⟨g,o,M⟩/\v.b.n= ↑F/\w ⟨g,o+b*3,M⟩=K ↑a/\w ⟨g,o+b*3+1,M⟩=K ↑e/\w ⟨g,o+b*3+2,M⟩=K nx/\m.gZ=(a:Int)/\m.last=(e:Int)/\a<=e/\e<N/\F[b]?=K (m,nx):=by
 obtain⟨x,c⟩:∃x,F[b]?=K x:=⟨_,an s⟩;have k:(F.map Prod.fst)[b]?=K x.1:=by rw[mE,c];rfl
 obtain⟨a,e,i,j,q,r⟩:=h.ie b x.1 k;rcases h.rd.2 with⟨u,_⟩|⟨g,o,cc,d,f⟩
 . omega
 simp only[lB]at d;have l:=Rd.elem A4 f b x c 0 _ rfl;have p:=Rd.elem A4 f b x c 1 _ rfl;have t:=Rd.elem A4 f b x c 2 _ rfl;rw[lJ,i]at l;rw[j]at p;exact⟨x.1,g,o,a,e,x.2,k,d.1,d.2.1,l,p,t,i,j,q,r,c⟩
theorem FK(v:B2)(S:Int)(x y:FA)(F:List (MB×J))(N:Nat)(f:List Int)(w:Y)(hF:JR w v F N)(T:Rd w 1 (Z y.a y.n y.c) f (Ad As f))(aI:f.length<=1024)(r:∀z∈f,∃b:Nat,z=(b:Int)/\b< ↑F):
 Ai Ap 148 #[Am v.cells,Am #[S,Z x.a x.n x.c,Z y.a y.n y.c]] w λe w'=>∃(a:Option Addr) (c:Nat) (j:List Int),e=Al (Z a j c)/\Rd w' 1 (Z a j c) j (Ad As j)/\(∀z,z∈j↔DP (F.map Prod.fst) f z)/\j.length<=1048576/\Ah w w w':=by
 obtain⟨k0,hk,aE,aF,aG⟩:=mN Br;have H:Ae (JR w v F N/\Rd w 1 (Z y.a y.n y.c) f (Ad As f)/\∀z∈f,∃b:Nat,z=(b:Int)/\b< ↑F):=⟨hF,T,r⟩
 obtain⟨I,L,Q⟩:=T.bW;simp only[lB]at Q;have ao:y.n=f.length:=Q.2.1;clear hF T r Q I L;obtain⟨I,yn,L⟩:=y;simp only[]at ao H⊢;subst ao;have W:=Bu w v.cells #[S,Z x.a x.n x.c,Z I f L] 164 92;go_enter func148,ntmps148;go_upto_region 2 with fail
 refine Ax (λu=>Ae (AA u w v.cells 164/\AA u ((w:Nat)+1) #[S,Z x.a x.n x.c,Z I f L] 92/\Ah w w u)) W ?_
 rintro U A;clear W;obtain⟨l0,l1,l2⟩:=B9 A.2.1;go_wp2_with fail;clear l0 l1 l2;go_loopw [5,12] (λs i wr=>∃(k:Nat) (j:List Int),k<= ↑f/\i=iZ k/\Ae (Ab wr U 2 1 s j (Ad As j)/\(∀z,z∈j↔DP (F.map Prod.fst) (f.take k) z)/\ ↑j<=k*1024/\Ah U U wr)) (λ_ i _=> ↑f-(intOf i).toNat)
 case atStart=>exact⟨0,[],oM,rfl,mI _ _ _ _, λz=>⟨λe=>(by cases e), λe=>absurd e (Vm _ _)⟩,sP,lu _ _⟩
 case round=>
 obtain⟨k,j,aQ,rfl,q⟩:=hrel;by_cases aw:k< ↑f
 case pos=>
  obtain⟨z,r⟩:∃z,f[k]?=K z:=⟨_,an aw⟩;obtain⟨b,R,hb⟩:=H.2.2 z (lA r);obtain⟨m,g,o,B,me,nx,hm,eg,en,V,E,i2,e1,e2,aT,aU,_⟩:=H.1.at hb;rcases H.2.1.2 with⟨q0,_⟩|⟨gd,od,cd,q1,ah⟩
  . omega
  simp only[lB,mB]at q1;obtain⟨rfl,rfl⟩:=q1;have O:=Rd.elem Ay ah k z r 0 _ rfl;rw[mO,lJ,R]at O;have D:=Av (d5 r (d5 R (d5 hm (d5 e1 e2))));clear r R hm e1 e2 ah;have C:=Av (Ar A.2.2 lR q.2.2.2);have X:=Av (d5 (A.1.a7 q.2.2.2) E);rw[<-C.cell (g8 O)]at O;rw[<-C.cell (g8 V)]at V;have t:=X.1.cell 11;simp only[B2.cells]at t;simp only[eg,en]at t;have aS:F.length<=1024:=H.1.len;have aX:N<=1024:=H.1.jT;have aH:(b:Int)<(F:Int):=oM;go_wp2_with fail;clear V t O;go_loopw [5,8] (λs i wr=>∃(d:Nat) (p:List Int),B<=d/\d<=me+1/\i=iZ d/\Ae (Ab wr U 2 1 s p (Ad As p)/\(∀z,z∈p↔DP (F.map Prod.fst) (f.take k) z\/((B:Int)<=z/\z<(d:Int)))/\ ↑p<=k*1024+(d-B)/\Ah U U wr)) (λ_ i _=>me+1-(intOf i).toNat)
  case atStart=>exact⟨B,j,oM,oM,rfl,q.1, λz=>⟨λe=>.inl ((q.2.1 z).1 e), λe=>(q.2.1 z).2 (e.elim id λe=>absurd e.2 oM)⟩,by have:=q.2.2.1;omega,q.2.2.2⟩
  case round=>
  clear q C;obtain⟨d,p,aJ,aM,rfl,l⟩:=hrel;have C:=Av (Ar A.2.2 lR l.2.2.2);have E:=X.2;rw[<-C.cell (g8 E)]at E;have t:=(A.1.a7 l.2.2.2).cell 11;simp only[B2.cells]at t;simp only[eg,en]at t;by_cases aR:d<=me;case pos=>
   have au:(d:Int)<=(me:Int):=oM;obtain⟨sa,sc,P⟩:=AF l.1;subst P;have aW: ↑p<=k*1024+(d-B):=l.2.2.1
   go_wp2_with (at_builtin;refine wpList_append_own _ rfl _ _ 29 rfl U 2 k0 (iZ 0) 1 8 underlying29 hk aE aF aG rfl dC _ p (Ad As p) rfl (l.1.alloc _) wr 1 1 [d] rfl rfl (Go.cell_one_new _ _ _) (λu hu=>by simp at hu;subst hu;rfl) oX oM (by have:=l.2.2.2.size;simp;omega) ?_;intro v' w3 am aj aA);have ae:Ae (Ab w3 U 2 1 v' (p++[(d:Int)]).length (Ad As (p++[(d:Int)]))/\Ah U U w3):=by have o1:=l.1;refine⟨?_,(l.2.2.2.alloc l.2.2.2.size _).grown aj (by have:=l.2.2.2.size;simp;omega) (λi hi=>(o1.lt i hi).1)⟩;rw[mH,lG];exact am
   clear am aj aA;have G:Ae (∀z,z∈p++[(d:Int)]↔DP (F.map Prod.fst) (f.take k) z\/((B:Int)<=z/\z<((d+1:Nat):Int))):= λz=>by
    rw[lT,l.2.1 z];simp only[lw,mK,nJ];constructor
    . rintro((h|h)|h)
      . exact .inl h
      . exact .inr oM
      exact .inr oM
    rintro(h|h)
    . exact .inl (.inl h)
    by_cases e:z=(d:Int)
    . exact .inr e
    exact .inl (.inr oM)
   clear E t;go_wp2;go_roundw;(case rel=>exact⟨d+1,p++[(d:Int)],oM,oM,by go_num,ae.1,G,by rw[lG,lL];omega,ae.2⟩);exact oI
  have aP:d=me+1:=oM;have au:¬(d:Int)<=(me:Int):=oM;have G:Ae ((∀z,z∈p↔DP (F.map Prod.fst) (f.take (k+1)) z)/\ ↑p<=(k+1)*1024):=⟨λz=>by
   rw[l.2.1 z,T2 D.1 D.2.1 D.2.2.1,D.2.2.2.1,D.2.2.2.2];constructor
   . rintro(h|h)
     . exact .inl h
     exact .inr oM
   rintro(h|h)
   . exact .inl h
   exact .inr oM,by have:=l.2.2.1;omega⟩
  go_wp2;go_roundw;case rel=>exact⟨k+1,p,oM,by go_num,l.1,G.1,G.2,l.2.2.2⟩
  exact oI
 have aq:k=f.length:=oM;subst aq;obtain⟨sa,sc,P⟩:=AF q.1;subst P;have HR:Ae ((∀z,z∈j↔DP (F.map Prod.fst) f z)/\j.length<=1048576):=⟨λz=>by have:=q.2.1 z;rw[List.take_length]at this;exact this,by have:=q.2.2.1;omega⟩
 go_wp2;go_ret;exact⟨sa,sc,j,rfl,Rd.ij q.1,HR.1,HR.2,Ar A.2.2 lR q.2.2.2⟩
theorem T8{a:List (ML×J×J)}{y:ML×J×J}(h:y∈a):(y.2.1,y.1.back)∈EZ a/\(y.2.2,y.1.a8)∈EZ a:=⟨ni.2 ⟨y,h,sP⟩,ni.2 ⟨y,h,sP⟩⟩
theorem Hf.rd{b a:J}{c:List (ML×J×J)}(h:Hf w base d b a e F c r):DQ w d b a e r:=by
 have g:F.length=r.a8.length:=by rw[<-h.eb,mD]
 have i:c.length=r.gX.length:=by rw[<-h.el,mD]
 refine⟨⟨F,h.eb,?_, λx j=> ?_⟩,Rd.ij (h.io.own (b,r.gY) sP),Rd.ij (h.io.own (a,r.ig) sP),⟨c,h.el,?_, λy k=> ?_⟩⟩
 . rw[<-g];exact Rd.ij h.kp
 . exact Rd.ij (h.io.own (x.2,x.1.next) (by refine lT.2 (.inl ?_);unfold DK;exact oe (f:= λx=>(x.2,x.1.next)) j))
 . rw[<-i];exact Rd.ij h.kH
 have:=T8 k;exact⟨Rd.ij (h.io.own (y.2.1,y.1.back) (lT.2 (.inr (by simp[this.1])))),Rd.ij (h.io.own (y.2.2,y.1.a8) (lT.2 (.inr (by simp[this.2]))))⟩
def MG(w:Y)(s:J)(fs:List MF):Prop:=∃b:List (MF×VF),b.map Prod.fst=fs/\Rd w 4 s fs (Ad BR b)/\∀z∈b,∃a c,z.2.c=Z a z.1.bO c/\ ↑z.1.bO<=c
theorem DY.rdk(h:DY w base s fs):MG w s fs:=by obtain⟨xs,a,b,c⟩:=h;exact⟨xs,a,Rd.ij b, λx d=>Md (c x d).2.2⟩
theorem MG.at(h:MG w s fs){q:Nat}{f:MF}(d:fs[q]?=K f){gk ok ck:Nat}(l:s=Z (K ⟨gk,ok,M⟩) fs ck):∃a c,w ⟨gk,ok+q*4+3,M⟩=K (Z a f.bO c)/\ ↑f.bO<=c:=by
 obtain⟨u,n,p,r⟩:=h;have x:=(i8.1 d).1;obtain⟨z,e,m⟩:∃z,u[q]?=K z/\z.1=f:=by rw[<-n,mE]at d;exact m6.1 d
 subst m;obtain⟨a,c,j,k⟩:=r z (lA e);rcases p.2 with⟨v,_⟩|⟨g,o,cc,b,t⟩
 . omega
 rw[l]at b;simp only[lB,lH,nF,nU,mB]at b;obtain⟨⟨rfl,rfl⟩,_⟩:=b;have i:=Rd.elem Az t q z e 3 _ rfl;rw[j]at i;exact⟨a,c,i,k⟩
theorem Hf.jD{f:Y}{b c:J}{g:List (ML×J×J)}(h:Hf w base b e c d F g r)(a:Ah w w f):Hf f base b e c d F g r:=⟨Aw h.kp a lR,Aw h.kH a lR,h.io.a7 a,h.eb,h.el⟩
theorem CT{t:Aj}(H:AA u b v.cells t):u b=K (Z v.r.a v.r.n v.r.c)/\u ⟨b,1,M⟩=K (Z v.k.a v.k.n v.k.c)/\u ⟨b,2,M⟩=K (Z v.f.a v.f.n v.f.c)/\u ⟨b,3,M⟩=K (Z v.t.a v.t.n v.t.c)/\u ⟨b,4,M⟩=K (Z v.p.a v.p.n v.p.c)/\u ⟨b,5,M⟩=K ↑v.rs/\u ⟨b,6,M⟩=K (Z v.l.a v.l.n v.l.c)/\u ⟨b,7,M⟩=K (Z v.c.a v.c.n v.c.c)/\u ⟨b,8,M⟩=K ↑v.nu/\u ⟨b,9,M⟩=K ↑v.co/\u ⟨b,10,M⟩=K ↑v.at_/\u ⟨b,11,M⟩=K (Z v.b.a v.b.n v.b.c)/\u ⟨b,12,M⟩=K (Z v.o.a v.o.n v.o.c)/\u ⟨b,13,M⟩=K (Z v.i.a v.i.n v.i.c)/\u ⟨b,14,M⟩=K (Z v.q.a v.q.n v.q.c):=by unfold B2.cells at H;exact⟨H.cell 0,H.cell 1,H.cell 2,H.cell 3,H.cell 4,H.cell 5,H.cell 6,H.cell 7,H.cell 8,H.cell 9,H.cell 10,H.cell 11,H.cell 12,H.cell 13,H.cell 14⟩
structure PJ(w u:Y)(v:B2)(h:Nat)(x y:FA):Prop where
 body:AA u w v.cells 164
 loop:AA u ((w:Nat)+1) #[h,Z x.a x.n x.c,Z y.a y.n y.c] 92
 ej:Ah w w u
theorem PJ.a7{b:Y}{h:Nat}{x y:FA}(H:PJ w u v h x y)(a:Ah u u b):PJ w b v h x y:=⟨H.body.a7 a,H.loop.a7 a,Ar H.ej lR a⟩
theorem Kb(v:B2)(h:Nat)(x y:FA)(F:List (MB×J))(m:MB)(w:Y)(j:F.length<=1048576)(d:Rd w 3 (Z v.b.a v.b.n v.b.c) F (Ad B4 F))(g:(F.map Prod.fst)[h]?=K m):
 Ai Ap 93 #[Am v.cells,Am #[h,Z x.a x.n x.c,Z y.a y.n y.c]] w λe s=>e=Al m.gZ/\Ah w w s:=
 EJ (Z v.r.a v.r.n v.r.c) (Z v.k.a v.k.n v.k.c) (Z v.f.a v.f.n v.f.c) (Z v.t.a v.t.n v.t.c) (Z v.p.a v.p.n v.p.c) v.rs (Z v.l.a v.l.n v.l.c) (Z v.c.a v.c.n v.c.c) v.nu v.co v.at_ (Z v.b.a v.b.n v.b.c) (Z v.o.a v.o.n v.o.c) (Z v.i.a v.i.n v.i.c) (Z v.q.a v.q.n v.q.c) (Z x.a x.n x.c) (Z y.a y.n y.c) F h m w j d g
theorem IC(v:B2)(h:Nat)(x y:FA)(F:List (MB×J))(xs:List MI)(D:List Int)(f:Int)(m:MB)(w:Y)(hF:JR w v F xs)(hm:(F.map Prod.fst)[h]?=K m)(hy:Rd w 1 (Z y.a y.n y.c) D (Ad As D))(aw:D.length<=1024)(B:∀z∈D,∃b:Nat,z=(b:Int)/\b< ↑F)(hc:Rd w 4 (Z v.c.a v.c.n v.c.c) xs (Ad MI.cells xs)):
 Ai Ap 149 #[Am v.cells,Am #[h,Z x.a x.n x.c,Z y.a y.n y.c],f] w λe w'=>AM e (∃a,DP (F.map Prod.fst) D a/\a≠m.gZ/\JX xs f a)/\Ah w w w':=by
 have H:=Av (d5 hF (d5 hm (d5 hy (d5 aw (d5 B hc)))));have aT:xs.length<=1024:=hF.jT;clear hF hm hy aw B hc;have W:=Bu w v.cells #[h,Z x.a x.n x.c,Z y.a y.n y.c] 164 92;go_enter func149,ntmps149;go_upto_region 1 with fail
 refine Ax (λu=>Ae (PJ w u v h x y)) ⟨W.1,W.2.1,W.2.2⟩ ?_;rintro U L;clear W;obtain⟨p0,p1,p2,p3,p4,p5,p6,S,p8,p9,ae,ah,aj,am,ao⟩:=CT L.body;obtain⟨l0,l1,l2⟩:=B9 L.loop;go_wp2_with fail;refine(FK v (h:Int) x y F xs D U (H.1.a7 L.ej) (H.2.2.1.a7 L.ej lR) H.2.2.2.1 H.2.2.2.2.1).mono ?_;rintro e u1 ⟨pa,pc,l,rfl,aF,aE,aS,O⟩;have p:=Av (d5 (L.a7 O) aF);have HI:=Av aE;have HP:Ae (∀z∈l,∃(d:Nat) (q:MI),z=(d:Int)/\d< ↑xs/\xs[d]?=K q):= λz B=>by obtain⟨y',aM,m',E,G,h3⟩:=(HI.o z).1 B;obtain⟨b,eb,hb⟩:=H.2.2.2.2.1 y' aM;rw[eb,lD]at E;obtain⟨a,e,e1,e2,e3,e4⟩:=H.1.ie b m' E;rw[e1]at G;rw[e2]at h3;obtain⟨d,hd⟩:=mA (show 0<=z from oM);exact⟨d,_,hd,oM,an oM⟩
 clear O aF aE L p0 p1 p2 p3 p4 p5 p6 S p8 p9 ae ah aj am ao l0 l1 l2;clear U;go_wp2_with fail;go_loopw [15] (λi wr=>∃k:Nat,k<= ↑l/\i=iZ k/\Ae (∀(j:Nat) (z:Int),j<k->l[j]?=K z->¬(z≠m.gZ/\JX xs f z))/\Ae (PJ w wr v h x y/\Rd wr 1 (Z pa l pc) l (Ad As l))) (λi _=> ↑l-(intOf i).toNat)
 case atStart=>exact⟨0,oM,rfl, λj z R=>absurd R oM,p⟩
 case round=>
 clear p;obtain⟨k,hk,rfl,HT,p⟩:=hrel;by_cases aI:k< ↑l
 case pos=>
  obtain⟨z,B⟩:∃z,l[k]?=K z:=⟨_,an aI⟩;obtain⟨d,⟨t,ya,yb,yc⟩,ed,hd,A⟩:=HP.o z (lA B);rcases p.2.2 with⟨q0,_⟩|⟨gp,op,cp,I,aA⟩
  . omega
  simp only[lB,mB]at I;obtain⟨rfl,rfl⟩:=I;have z0:=Rd.elem Ay aA k z B 0 _ rfl;rw[mO,lJ,ed]at z0;rcases H.2.2.2.2.2.2 with⟨q0,_⟩|⟨gc,oc,cc,I,Q⟩
  . omega
  simp only[lB]at I;have au:=Av (d5 I.1 I.2.1);have s:=Rd.elem MI.dr Q d _ A 0 _ rfl;have P:=Rd.elem MI.dr Q d _ A 1 _ rfl;have T:=Rd.elem MI.dr Q d _ A 2 _ rfl;have V:=Rd.elem MI.dr Q d _ A 3 _ rfl;rw[<-p.1.ej.cell (g8 s),lJ]at s;rw[<-p.1.ej.cell (g8 P)]at P;rw[<-p.1.ej.cell (g8 T)]at T;rw[<-p.1.ej.cell (g8 V)]at V;simp only[]at s P T V;have C:=Av (d5 B (d5 ed A));clear Q aA I B ed A;obtain⟨p0,p1,p2,p3,p4,p5,p6,S,p8,p9,ae,ah,aj,am,ao⟩:=CT p.1.body;simp only[au.1,au.2]at S;have aR:(d:Int)<(xs:Int):=oM;have s1:¬gc=wr.heap.size:=mR (g8 s);have s2:gc<wr.heap.size:=g8 s;go_upto_region 5 with fail
  refine Ax (λu=>Ae ((PJ w u v h x y/\Rd u 1 (sO gp op l pc) l (Ad As l))/\AA u wr #[t,ya,yb,yc] 79)) ⟨⟨p.1.a7 (Aq _ _),p.2.a7 (Aq _ _) lR⟩,AA.new _ _ _⟩ ?_
  rintro UA r;generalize wr.heap.size=YB at r⊢;clear s1 s2 s P T V z0 p p0 p1 p2 p3 p4 p5 p6 S p8 p9 ae ah aj am ao;obtain⟨s,P,T,V⟩:=Cw r.2;have HW:Ae (JX xs f z↔(t=3\/t=27)/\ya=f):=by
   constructor
   . rintro⟨q,A,E,G⟩;rw[C.2.1,lD,C.2.2]at A;have ey:=lP A;subst ey;exact⟨E,G⟩
   rintro⟨E,G⟩;exact⟨_,by rw[C.2.1,lD];exact C.2.2,E,G⟩
  have X:Ae (¬(z≠m.gZ/\JX xs f z)->∀(j:Nat) (z:Int),j<k+1->l[j]?=K z->¬(z≠m.gZ/\JX xs f z)):= λaJ j z' R aq=>by
   by_cases e:j=k
   . subst e;rw[C.1]at aq;have ez:=lP aq;subst ez;exact aJ
   exact HT.o j z' oM aq
  by_cases g:t=3\/t=27
  case neg=>
   (have g2:¬t=3:= λe=>g (.inl e));(have g3:¬t=27:= λe=>g (.inr e));have N:Ae (¬(z≠m.gZ/\JX xs f z)):= λe=>g (HW.1 e.2).1
   clear g;go_wp2;go_roundw;(case rel=>exact⟨k+1,oM,by go_num,X.o N,r.1⟩);exact oI
  by_cases g4:ya=f;case neg=>
   (have aP:(ya==f)=false:=by simp[g4]);have N:Ae (¬(z≠m.gZ/\JX xs f z)):= λe=>g4 (HW.1 e.2).2
   rcases g with g|g
   . rw[g]at s;go_wp2;go_roundw;(case rel=>exact⟨k+1,oM,by go_num,X.o N,r.1⟩);exact oI
   rw[g]at s;go_wp2;go_roundw;(case rel=>exact⟨k+1,oM,by go_num,X.o N,r.1⟩);exact oI
  have aG:=Av (HW.2 ⟨g,g4⟩);rw[g4]at P;obtain⟨p0,p1,p2,p3,p4,p5,p6,S,p8,p9,ae,ah,aj,am,ao⟩:=CT r.1.1.body;obtain⟨l0,l1,l2⟩:=B9 r.1.1.loop;have HK:Ae ((t=3\/t=27)->True):= λ_=>trivial
  have hY:∀o:Int,(o=3\/o=27)->o=t->True:= λ_ _ _=>trivial
  clear hY HK;rcases g with g|g
  all_goals
   rw[g]at s;go_wp2_with fail;refine(Kb v h x y F m UA (lQ H.1.len oM) ((H.1.rd).a7 r.1.1.ej lR) H.2.1).mono ?_;rintro e u3 ⟨rfl,O⟩;have E3:=Av (d5 (r.1.1.a7 O) (r.1.2.a7 O lR));clear O;by_cases g5:(d:Int)=m.gZ
   . have N:Ae (¬(z≠m.gZ/\JX xs f z)):= λe=>e.1 (by rw[C.2.1];exact g5)
     go_wp2;go_roundw;(case rel=>exact⟨k+1,oM,by go_num,X.o N,E3⟩);exact oI
   (have aQ:((d:Int)==m.gZ)=false:=by simp[g5]);have HY:Ae (∃a,DP (F.map Prod.fst) D a/\a≠m.gZ/\JX xs f a):=⟨z,(HI.o z).1 (lA C.1),by rw[C.2.1];exact g5,aG⟩
   go_wp2;go_ret;exact⟨.iu HY,E3.1.ej⟩
 have aH:k=l.length:=oM;subst aH;have HN:Ae (¬∃a,DP (F.map Prod.fst) D a/\a≠m.gZ/\JX xs f a):= λ⟨a,E,G⟩=>by obtain⟨j,R⟩:=mJ ((HI.o a).2 E);exact HT.o j a (i8.1 R).1 R G
 go_wp2;go_ret;exact⟨.no HN,p.1.ej⟩
end Go.Proofs.YtadcneiiokbofaaGreat
