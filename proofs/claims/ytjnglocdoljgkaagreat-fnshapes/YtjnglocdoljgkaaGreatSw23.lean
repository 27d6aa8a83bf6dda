import Derived.Test.YtjnglocdoljgkaaGreatSw22
import Derived.Test.YtjnglocdoljgkaaGreatSw14
namespace Go.Proofs.YtjnglocdoljgkaaGreat
open Go.ChangeShapes Go.WideShapes Go.ChangeAt Go.RowKit
set_option linter.unusedVariables false
open Option renaming some → K,none → M
open Go renaming Value → J,World → Y,TypeId → Af,Calls → Ae
open Go.RowKit renaming Below → Ad,Hid → Aa
open Go.Value renaming slice → Z,int → Ac
open Go.IntKind renaming i64 → Ab
set_option maxHeartbeats 4000000
set_option maxRecDepth 100000
variable {E:Nat->List Nat}{n G base d me:Nat}{e z:Int}{m:MB}{g:MI}{α:Type}{l:ML}{xs:List MI}{a:Kr}{c:MT}{j sh:List Int}{T:Nat->List Int}{rest nx:List Nat}{C:Nat->Option (List Int)}
def B8(p:MP)(a:Int)(b:List (List Int)):Prop:=A8 p 0/\0<=a/\∃f,p.cC[a.toNat]?=K f/\IJ f.ch/\Eb p f b
structure Xq(w u:Y)(n G gF gP:Nat):Prop where
 gR:Ar u G #[sN,sG gF n n,sN,sG gP n n,sN] 134
 iy:u.ownsRow w 36 1 (sG gF n n) n (List.replicate n sN)
 gY:u.ownsRow w 2 1 (sG gP n n) n (iv (λ_=>0) n)
 gG:Ad w w u
 ge: ↑w<=G
theorem Xq.of{w W:Y}{n a b:Nat}(f:W.ownsRow w 36 1 (sG a n n) n (List.replicate n sN))(g:W.ownsRow w 2 1 (sG b n n) n (iv (λ_=>0) n))(e:Ad w w W):Xq w (W.alloc (.cells #[sN,sG a n n,sN,sG b n n,sN] 134)) n W a b:=⟨Ar.new _ _ _,Am f (Ag _ _) lR,Am g (Ag _ _) lR,Ai e lR (Ag _ _),e.size⟩
def Fj(E:Nat->List Nat)(b k x:Nat):List Nat:=(((E b).take k).filter λy=>decide (y=x)).map λ_=>b
theorem KF(E:Nat->List Nat)(b x:Nat):BF E (b+1) x=BF E b x++Fj E b (E b).length x:=by unfold BF Fj;rw[m9,lJ];simp
theorem Qi(E:Nat->List Nat)(b x:Nat):Fj E b 0 x=[]:=by simp[Fj]
theorem Qh{b k y:Nat}(f:(E b)[k]?=K y)(x:Nat):Fj E b (k+1) x=if x=y then Fj E b k x++[b]else Fj E b k x:=by
 obtain⟨a,e⟩:=iV.1 f;unfold Fj;rw[lH a,mr,mL,e];by_cases q:x=y
 . subst q;simp
 simp[q,Ne.symm q]
theorem Mp(E:Nat->List Nat)(b k x:Nat):(Fj E b k x).length<=(E b).length:=by unfold Fj;rw[kW];refine kT (mc _ _) ?_;rw[lj];omega
theorem JA(a:∀b,(E b).length<=2)(b x:Nat):(BF E b x).length<=2*b:=by
 induction b with
 |zero=>simp[BF]
 | succ b e=>have h1:=Mp E b (E b).length x;have h2:=a b;rw[KF,kJ];omega
structure NG(w w2 u:Y)(n G gF:Nat)(PV:J)(NV:J)(NS:List J)(FS:List (J×List Nat)):Prop where
 gR:Ar u G #[NV,sG gF n n,sN,PV,sN] 134
 ie:u.ownsRow w2 36 1 NV NS NS
 iy:u.ownsRow w 36 1 (sG gF n n) n (FS.map Prod.fst)
 gW:CU u w2 (FS.map λx=>(x.1,ints x.2))
 fx:∀k,k< ↑w2->k≠G->k≠gF->u.heap[k]?=w2.heap[k]?
 size:(w2:Nat)<= ↑u
 gG:Ad w w u
 lt: ↑w<=G/\G< ↑w2/\gF< ↑w2
theorem NG.bM{w m u l:Y}{i:Nat}{g f:J}{e:List J}{b:List (J×List Nat)}(h:NG w m u n G i g f e b)(a:Ad u u l):NG w m l n G i g f e b:=⟨h.gR.bM a,Am h.ie a lR,Am h.iy a lR,h.gW.ir a, λk j h1 h2=>by rw[a.block k (lm j h.size)];exact h.fx k j h1 h2,kT h.size a.size,Ai h.gG lR a,h.lt⟩
theorem NG.next{w p u j:Y}{m g cap:Nat}{s r x:J}{b:List J}{q:List (J×List Nat)}(h:NG w p u n G m s r b q)(C:(w:Nat)<= ↑p)(v:j.ownsRow p 36 1 (sG g (b.length+1) cap) (b.length+1) (b++[x]))(f:u.grownBy j r.ownBlock):Ar j G #[r,sG m n n,sN,s,sN] 134/\NG w p (j.setCell G (sG g (b.length+1) cap)) n G m s (sG g (b.length+1) cap) (b++[x]) q:=by
 have l:=h.gR.grown f h.ie dC;have y:j.ownsRow w 36 1 (sG m n n) n (q.map Prod.fst):=BG h.iy f (λz A e=>by have h1:=(h.ie.lt z e.symm).1;simp only[Value.ownBlock,kK]at A;have:=h.lt.2.2;omega);have D:=h.gW.i6 f h.ie dC;refine⟨l,?_,?_,?_,D.other l dC 0 _, λk t h1 h2=> ?_,?_,?_,h.lt⟩
 . have:=l.set 0 (sG g (b.length+1) cap);simpa using this
 . rw[kJ,kQ];exact kO v (a:=⟨G,0,M⟩) (FK l v dC) _
 . exact kO y (a:=⟨G,0,M⟩) (FK l y dC) _
 . rw[lZ j _ k _ h1,f.block k (lm t h.size) (λe=>by have:=(h.ie.lt k e.symm).1;omega)];exact h.fx k t h1 h2
 . rw[mB];exact kT h.size f.size
 exact(h.gG.grown f h.gG.size (λi B=>kT C (h.ie.lt i B).1)).setCell h.lt.1 _
theorem RD(A B:List α)(x y:α):(A++x::B).set A y=A++y::B:=by rw[nG _ _ lR,ng];rfl
theorem NG.gX{w q u m:Y}{n G j g cap y b:Nat}{A t V:J}{s:List J}{f:List (J×List Nat)}{l:List Nat}(h:NG w q u n G j A t s f)(S:(w:Nat)<= ↑q)(F:f[y]?=K (V,l))(Q:m.ownsRow q 2 1 (sG g (l.length+1) cap) (l.length+1) (nv l++[iZ (b:Int)]))(p:u.grownBy m V.ownBlock)(L:V.ownBlock=K g\/g= ↑u):m.ownsRow w 36 1 (sG j n n) n (f.map Prod.fst)/\NG w q (m.setCell ⟨j,y,M⟩ (sG g (l.length+1) cap)) n G j A t s (f.set y (sG g (l.length+1) cap,l++[b])):=by
 obtain⟨U,T⟩:=iV.1 F;have C:f=f.take y++(V,l)::f.drop (y+1):=by rw[<-T,<-mv U,mx]
 have O:(f.take y).length=y:=by rw[lj];omega
 have r:=h.gW.own (V,ints l) (lK.2 ⟨(V,l),i8 F,rfl⟩);have H:=h.gR.grown p r dC;have kn:m.ownsRow q 36 1 t s s:=BU h.ie p r dC;have v:m.ownsRow w 36 1 (sG j n n) n (f.map Prod.fst):=BU h.iy p r dC;have R:f.set y (sG g (l.length+1) cap,l++[b])=f.take y++(sG g (l.length+1) cap,l++[b])::f.drop (y+1):=by have:=RD (f.take y) (f.drop (y+1)) (V,l) (sG g (l.length+1) cap,l++[b]);rw[O,<-C]at this;exact this
 have z:CU m q ((f.set y (sG g (l.length+1) cap,l++[b])).map λx=>(x.1,ints x.2)):=by have B:=h.gW;rw[C,mL,mo]at B;rw[R,mL,mo];refine CU.grow (g:=g) B ?_ rfl p (L.imp id λe=>oM);simp only[];rw[AU,kJ,kQ,<-Dk,FN];exact Q
 have W:=h.lt.2.2;have I:j≠G:= λe=>FK H v dC (by rw[e];rfl)
 have P:t.ownBlock≠K j:= λe=>by have:=(kn.lt j e).1;omega
 refine⟨v,H.other (Ne.symm I) _,kO kn (a:=⟨j,y,M⟩) P _,?_,⟨λx E=> ?_,z.sep⟩, λk D h1 h2=> ?_,?_,?_,h.lt⟩
 . have:=(v.stored y (sG g (l.length+1) cap)).1;rw[List.map_set];exact this
 . refine kO (z.own x E) (a:=⟨j,y,M⟩) (λe=> ?_) _;have:=((z.own x E).lt j e).1;omega
 . rw[lZ m _ k _ h2,p.block k (lm D h.size) (λe=>by have:=(r.lt k e.symm).1;omega)];exact h.fx k D h1 h2
 . rw[mB];exact kT h.size p.size
 exact(h.gG.grown p h.gG.size (λi N=>kT S (r.lt i N).1)).setCell (AD v).1 _
theorem Sf{G1 G2:List (MF×VF)}{f f':MF}{pv lv c0 c1:J}(a:f'.gz=f.gz):((G1++(f,(⟨pv,lv,c0⟩:VF))::G2).flatMap AX).set (G1.length*4+3) c1=(G1++(f',(⟨pv,lv,c1⟩:VF))::G2).flatMap AX:=by
 induction G1 with
 |nil=>simp[AX,a]
 | cons x r b=>
   rw[lF,lF,kX,kX,<-b,lh,show(r.length+1)*4+3= ↑r*4+3+1+1+1+1 from oM]
   rfl
section
variable {w u:Y} {s:Ci} {p:Int} {v:VP} {F:List (List Int×J)} {cs:List MC} {G1 G2:List (MF×VF)} {ts:List MT} {P gf cf:Nat} {X:AB} {D:List AB} {f:MF} {pv lv c0 vc:J} {code:List MI}
theorem Bs.jr(h:Bs w u s p (Al v F cs (G1++(f,(⟨pv,lv,c0⟩:VF))::G2) ts (BI vc code::X::D)))(g:v.f=Z gf (G1++(f,(⟨pv,lv,c0⟩:VF))::G2).length cf):Bs w (u.setCell ⟨gf,G1.length*4+3,M⟩ vc) s p (Al v F cs (G1++((⟨f.d5,f.gz,f.en,code⟩:MF),(⟨pv,lv,vc⟩:VF))::G2) ts (X::D))/\u.cell? ⟨gf,G1.length*4+3,M⟩=K c0/\u.frozen? ⟨gf,G1.length*4+3,M⟩=false:=by
 have b:=h.gY.2.2.2.1;rw[g]at b;have j:=(mq b (G1.length*4+3) vc).1;rw[Sf (f:=f) (f':=⟨f.d5,f.gz,f.en,code⟩) rfl]at j;have m:=(b.lt gf rfl).1;have i:=lV b (G1.length*4+3) (by simp only[kJ,lh];omega);rw[Cr AX 4 Aq _ G1 3 (f,(⟨pv,lv,c0⟩:VF)) sP oM]at i;refine⟨⟨?_,h.gG.setCell m _⟩,i,b.frozenAt _⟩;have l:Ew u w ((Cc v.r F::BN F++[Di v.k cs])++BC v.f (G1++(f,(⟨pv,lv,c0⟩:VF))::G2)::(Br (G1++(f,(⟨pv,lv,c0⟩:VF))::G2)++(CN v.t ts::BI vc code::X::D))):=by simpa[Al,List.append_assoc]using h.sep
 have h1:=l.put ((G1++((⟨f.d5,f.gz,f.en,code⟩:MF),(⟨pv,lv,vc⟩:VF))::G2).flatMap AX) (by show(u.setCell ⟨gf,G1.length*4+3,M⟩ vc).ownsRow _ _ _ v.f _ _;rw[g];exact j) (by show u.grownBy (u.setCell ⟨gf,G1.length*4+3,M⟩ vc) v.f.ownBlock;rw[g];exact Fl (⟨rfl,rfl,rfl,Nat.le_refl _, λ_ _ _=>rfl⟩:u.grownBy u (K gf)) _ _);have e:({BC v.f (G1++(f,(⟨pv,lv,c0⟩:VF))::G2)with xs:=(G1++((⟨f.d5,f.gz,f.en,code⟩:MF),(⟨pv,lv,vc⟩:VF))::G2).flatMap AX}:AB)=BC v.f (G1++((⟨f.d5,f.gz,f.en,code⟩:MF),(⟨pv,lv,vc⟩:VF))::G2):=by simp[BC]
 rw[e]at h1;have h2:Ew (u.setCell ⟨gf,G1.length*4+3,M⟩ vc) w (Al v F cs (G1++((⟨f.d5,f.gz,f.en,code⟩:MF),(⟨pv,lv,vc⟩:VF))::G2) ts (X::D)++[BI c0 f.ch]):=h1.perm (by
  classical
  rw[oW];intro a;simp only[Al,Br,Cn,lJ,kX,li,lp,mJ];omega)
 exact h2.sub (nB _ _)
end
structure S4(w:Y)(v:VP)(x:MP)(F:List (List Int×J))(G:List (MF×VF)):Prop where
 r:Rd w 1 v.r x.a7 (F.flatMap AZ)
 rr:∀y∈F,Rd w 1 y.2 y.1 (y.1.flatMap Ah)
 k:Rd w 2 v.k x.aC (x.aC.flatMap MC.cells)
 f:Rd w 4 v.f x.cC (G.flatMap AX)
 ff:∀y∈G,Dt w y.2 y.1
 t:Rd w 4 v.t x.dr (x.dr.flatMap MT.cells)
 rc:∀y∈F,∃a c,y.2=Z a y.1 c/\ ↑y.1<=c
 fp:∀y∈G,FI y.2.p/\FI y.2.l
def Cb(b t:Nat)(w:Y)(v:VP)(x:MP):Prop:=∃F G,F.map Prod.fst=x.a7/\G.map Prod.fst=x.cC/\∀a:Y,(∀k,b<=k->k<t->a.heap[k]?=w.heap[k]?)->S4 a v x F G
theorem Em{w f:Y}{e:Af}{s:J}{k n:Nat}{xs:List J}(h:w.ownsRow base e k s n xs)(l:∀k,base<=k->k< ↑w->f.heap[k]?=w.heap[k]?):f.ownsRow base e k s n xs:=by
 refine⟨h.1,?_⟩;rcases h.2 with h|⟨g,cap,i,rfl,a,b,j⟩
 . exact .inl h
 refine .inr ⟨g,cap,i,rfl,a,?_,j⟩;rw[l g a (lC.1 b).1];exact b
theorem IM.kp{w:Y}{v:VP}{x:MP}(h:IM w base v x):Cb base w w v x:=by obtain⟨⟨F,j,h1,h2⟩,f,⟨G,k,g,e⟩,i⟩:=h;exact⟨F,G,j,k, λl b=>⟨Rd.gM (Em h1 b), λy a=>Rd.gM (Em (h2 y a) b),Rd.gM (Em f b),Rd.gM (Em g b), λy a=>⟨Rd.gM (Em (e y a).1 b),Rd.gM (Em (e y a).2.1 b),Rd.gM (Em (e y a).2.2 b)⟩,Rd.gM (Em i b), λy a=>DR (h2 y a), λy a=>⟨GE (e y a).1,GE (e y a).2.1⟩⟩⟩
section
variable {b t:Nat} {w w':Y} {v:VP} {x:MP}
theorem Cb.rd(h:Cb b t w v x):Cz w v x:=by
 obtain⟨F,G,h1,h2,a⟩:=h;have q:=a w λ_ _ _=>rfl
 exact⟨⟨F,h1,q.r,q.rr⟩,q.k,⟨G,h2,q.f,q.ff⟩,q.t⟩
theorem Cb.jD(h:Cb b t w v x):Dm w v.r x.a7/\GY w v.f x.cC:=by
 obtain⟨F,G,h1,h2,e⟩:=h;have q:=e w λ_ _ _=>rfl
 exact⟨⟨F,h1,q.r, λy a=>⟨q.rr y a,q.rc y a⟩⟩,G,h2,q.f, λy a=>⟨q.ff y a,q.fp y a⟩⟩
theorem Cb.wide{a e:Nat}(h:Cb b t w v x)(j:a<=b)(l:t<=e):Cb a e w v x:=by obtain⟨F,G,h1,h2,f⟩:=h;exact⟨F,G,h1,h2, λi g=>f i λk h1 h2=>g k oM oM⟩
theorem Cb.same(h:Cb b t w v x)(f:∀k,b<=k->k<t->w'.heap[k]?=w.heap[k]?):Cb b t w' v x:=by obtain⟨F,G,h1,h2,a⟩:=h;exact⟨F,G,h1,h2, λg h2=>a g λk a e=>by rw[h2 k a e,f k a e]⟩
theorem Cb.draw{g:Nat}(h:Cb b t w v x)(a:AM g w w')(e:g<b)(f:t<= ↑w):Cb b t w' v x:=h.same λk h1 h2=>a.block k oM oM
theorem Cb.below(h:Cb b t w v x)(a:Ad w w w')(e:t<= ↑w):Cb b t w' v x:=h.same λk h1 h2=>(a.block k oM)
theorem Cb.set(h:Cb b t w v x)(a:Addr)(e:a.block<b\/t<=a.block)(y:J):Cb b t (w.setCell a y) v x:=h.same λk h1 h2=>lZ w a k y oM
theorem Cb.drawn{g:Nat}(h:Cb b t w v x)(f:g<b)(i:t<= ↑w):∀a,AM g w a->Cz a v x:= λa e=>(h.draw e f i).rd
theorem Cb.ch(h:Cb b t w v x)(H:0<x.cC.length):∃a ok i,v.f=Z (K ⟨a,ok,M⟩) x.cC.length i/\∃C:Nat->J,∀l:Y,(∀k,b<=k->k<t->l.heap[k]?=w.heap[k]?)->∀j f,x.cC[j]?=K f->l.cell? ⟨a,ok+j*4+3,M⟩=K (C j)/\Rd l 4 (C j) f.ch.length (f.ch.flatMap MI.cells):=by
 obtain⟨F,G,h1,h2,z⟩:=h;obtain⟨a,ok,i,e⟩:∃a ok i,v.f=Z (K ⟨a,ok,M⟩) x.cC i:=by
  rcases(z w λ_ _ _=>rfl).f.2 with⟨e,_⟩|⟨a,ok,i,e,A⟩
  . omega
  exact⟨a,ok,i,e⟩
 refine⟨a,ok,i,e, λj=>match G[j]? with|some y=>y.2.c|none=>Z M 0 0, λl D j f p=> ?_⟩;have q:=z l D;rw[<-h2,lG]at p;cases hG:G[j]? with
 |none=>rw[hG]at p;cases p
 | some y=>
   rw[hG]at p;simp only[nW,kK]at p;subst p;show l.cell? ⟨a,ok+j*4+3,M⟩=K (match G[j]? with|some y=>y.2.c|none=>Z M 0 0)/\Rd l 4 (match G[j]? with|some y=>y.2.c|none=>Z M 0 0) _ _
   rw[hG];refine⟨?_,(q.ff y (i8 hG)).2.2⟩;have B:=q.f;rw[e]at B;rcases B.2 with⟨e0,_⟩|⟨g,o,c,s,A⟩
   . omega
   simp only[jc,kK,mA,mg]at s;obtain⟨⟨rfl,rfl⟩,_⟩:=s;exact Rd.elem Aq A j y hG 3 _ rfl
end
def NU(w:Y)(s:Ci)(k:GK)(p left h:Int)(i:Nat)(D:List AB)(f g:Int)(e:Ending)(j:Y):Prop:=e=.returned (.tuple #[])/\∃b a,(p<=b/\b<=p+f/\left-g<=a/\a<=left-1)/\Aa (GS w j s k b a h i D)
theorem gE{q:Prop}(h:q:=by
 go_wp2_with fail;first|refine oR (v:=.tuple #[]) (by kernel_rfl) rfl ?_|refine kY (v:=.tuple #[]) (by kernel_rfl) rfl ?_
 exact⟨rfl,_,_,by omega,E⟩):q:=h
theorem gC{q:Prop}(h:q:=by rintro e u ⟨r,rfl,E⟩;go_wp2_with fail;refine(X3 E).mono ?_;rintro e u ⟨n,rfl,E⟩;exact gE):q:=h
theorem UT(x:Int):bits .and .u32 x 1<=1:=by
 have h1:∀n:Nat,IntKind.u32.wrap (n:Int)=(n:Int) % 4294967296:= λ_=>rfl
 have h2:(BitVec.ofInt 32 x &&& BitVec.ofInt 32 1).toNat<=1:=by rw[BitVec.toNat_and];exact kT Nat.and_le_right dC
 unfold bits;simp only[h1];show((BitVec.ofInt 32 x &&& BitVec.ofInt 32 1).toNat:Int) % 4294967296<=1;omega
theorem XS{w u:Y}{s:Ci}{k:GK}{p left l t:Int}{m:Nat}{D:List AB}(E:Aa (GS w u s k p left l m D))(j:1<=t/\t<=3:=by omega)(L:p+300<=1000000000000:=by omega)(I:-700000<=left:=by omega):
 Ae Tryz.prog 81 #[.pointer (K ⟨k.Gb,0,M⟩),iZ t] u (NU w s k p left l m D 8 1):=by
 obtain⟨_,_,C,_⟩:=E.o.cells;have N:=E.o.le;go_enter Tryz.func81,Tryz.ntmps81;go_wp2_with fail;refine(QF E).mono ?_;rintro e u ⟨r,rfl,i,E⟩;clear C;go_wp2_with fail;refine(QF E).mono ?_;rintro e u ⟨f,rfl,h2,E⟩;obtain⟨q,rfl⟩:=kU i.1;have P:=i.2;obtain⟨gr,cr,a,n,c,F,G,H,g,_⟩:=VE E (show q<3 from oM);rcases(show f=0\/f=1\/f=2\/f=3 from oM)with rfl|rfl|rfl|rfl
 iterate 2
  go_wp2_with fail;refine(g.o t).mono ?_;rintro e u ⟨r,B,rfl,rfl|⟨b,rfl,h⟩,z,E⟩;rotate_left;have y:(b:Int)>=0:=oM;go_wp2_with fail;refine(FO E (ok3 E.o.ok h)).mono ?_;rintro e u ⟨n,rfl,_,E⟩;exact gE
 focus
  go_wp2_with fail;refine(XV E).mono ?_;rintro e u ⟨a,n,c,rfl,E,g⟩;go_wp2_with fail;refine(g.o t).mono ?_;rintro e u ⟨r,B,rfl,rfl|⟨b,rfl,h⟩,z,E⟩;rotate_left;have y:(b:Int)>=0:=oM;go_wp2_with fail;refine(FO E (YN E.o.ok h)).mono ?_;rintro e u ⟨n,rfl,_,E⟩;exact gE
 all_goals
  go_wp2_with fail;refine(wdG E).mono ?_;rintro e u ⟨x,Q,rfl,A,O,E⟩;cases ht1:(t==1)
  . go_wp2_with fail;refine(WA E j A (λe=>by simp[e]at ht1)).mono ?_;exact gC
  go_wp2_with fail;refine(WA E j (Kv _ _ _) (λ_=>UT _)).mono ?_;exact gC
def Xi(xs:List Int)(u:Y)(e:Ending)(b:Y):Prop:=∃(a:Option Addr) (c:Nat),e=.returned (Z a xs c)/\b.ownsRow u 2 1 (Z a xs c) xs (xs.flatMap Ah)/\Ad u u b
theorem CK(u:Y)(V:J)(xs:List Int)(t:xs.length<=1048576)(h:Rd u 1 V xs (xs.flatMap Ah)):
 Ae Tryz.prog 88 #[V] u (Xi xs u):=by
 obtain⟨s,m,p,q,r⟩:=lU Bt;have g:Aa (Rd (u.alloc (.cells #[] 2)) 1 V xs (xs.flatMap Ah)):=h.bM (Ag _ _) lR;clear h;go_enter Tryz.func88,Tryz.ntmps88;go_wp2_with (at_builtin;refine Hl rfl (.tmp 3) (.tmp 4) u 36 2 s (Ac Ab 0) 1 8 rfl Tryz.underlying36 m p q r rfl dC (Z u 0 0) 0 [] rfl (CM u _ _) V xs (xs.flatMap Ah) rfl g.o (by rw[Au Ah 1 Ao]) (BZ _) oX oM (Ag _ _).size ?_;intro v1 f e b l;have a:Aa (f.ownsRow u 2 1 v1 xs (xs.flatMap Ah)/\Ad u u f):=⟨by simpa using e,(Ag _ _).grown b (Ag _ _).size (λj n=>by cases n;exact Nat.le_refl _)⟩;clear e b l)
 go_ret;obtain⟨i,k,rfl⟩:=CD a.o.1;exact⟨i,k,rfl,a.o.1,a.o.2⟩
def FA(p:MP)(a:Int)(l:ML):Prop:=A8 p 0/\0<=a/\∃f r,p.cC[a.toNat]?=K f/\Bc f.ch r/\r.ch=0/\l∈r.gI
def Ko(p:MP)(a:Int)(l:ML)(f:MF)(r:Fy):Prop:=A8 p 0/\0<=a/\p.cC[a.toNat]?=K f/\Bc f.ch r/\r.ch=0/\l∈r.gI
def UK(p:MP)(a:Int)(l:ML)(n:Int):Prop:=(¬FA p a l/\n=7)\/∃f r,Ko p a l f r/\B9 p a f.ch r.ej l n
theorem Ko.own{p:MP}{a:Int}{f:MF}{r:Fy}(h:Ko p a l f r):FA p a l:=⟨h.1,h.2.1,f,r,h.2.2⟩
theorem Ko.one{p:MP}{a:Int}{f f':MF}{r g:Fy}(h:Ko p a l f r)(b:Ko p a l f' g):f=f'/\r=g:=by have e:=h.2.2.1;rw[b.2.2.1]at e;have e:=(kN e).symm;subst e;exact⟨rfl,h.2.2.2.1.one b.2.2.2.1⟩
theorem UK.one{p:MP}{n n':Int}(h:UK p e l n)(b:UK p e l n'):n=n':=by
 rcases h with⟨a,rfl⟩|⟨f,r,a,h⟩<;>rcases b with⟨a',rfl⟩|⟨f',g,a',b⟩
 . rfl
 . exact absurd a'.own a
 . exact absurd a.own a'
 obtain⟨rfl,rfl⟩:=a.one a';exact h.one b
theorem Gw{r:Fy}(h:Bc xs r):r.gI.length<=1024/\∀m∈r.gI,m.back.length<=1048576/\m.ej.length<=1048576:=by
 by_cases b:r.ch=0
 . have q:=h.ii b;exact⟨q.nl, λm a=>⟨by have:=(q.loop m a).2.2.2;omega,by have:=(q.loop m a).2.2.1;omega⟩⟩
 cases h with
 |none _=>exact⟨by simp[El], λm a=>by cases a⟩
 |off _ _ _=>exact⟨by simp[El], λm a=>by cases a⟩
 |lost _ _ _ _ _ _ _ _=>exact⟨by simp[El], λm a=>by cases a⟩
 |two _ _ _ _ _ _ _ _=>exact⟨by simp[El], λm a=>by cases a⟩
 |good _ _ _ _ _ _ _ _ _=>exact absurd rfl b
theorem B9.c1{p:MP}{b:List MB}{a:MB}(h:b[l.head.toNat]?=K a)(h1:DK p.dr e a.gK=M):B9 p e xs b l 1:=⟨a,h,.inl ⟨h1,rfl⟩⟩
structure RP(p:MP)(fi:Int)(xs:List MI)(bs:List MB)(l:ML)(hb:MB)(c:MT)(g:MI):Prop where
 ig:bs[l.head.toNat]?=K hb
 jA:DK p.dr fi hb.gK=K c
 at_:xs[hb.gK.toNat]?=K g
theorem B9.c2{p:MP}{b:List MB}{f:MB}(h:RP p e xs b l f c g)(h2:¬(g.op=27/\g.a=c.gQ)):B9 p e xs b l 2:=⟨f,h.ig,.inr ⟨c,g,h.jA,h.at_,.inl ⟨h2,rfl⟩⟩⟩
theorem B9.c3{p:MP}{b:List MB}{f:MB}(h:RP p e xs b l f c g)(h2:g.op=27/\g.a=c.gQ)(i:Ir b l.ej g.c):B9 p e xs b l 3:=⟨f,h.ig,.inr ⟨c,g,h.jA,h.at_,.inr ⟨h2,.inl ⟨i,rfl⟩⟩⟩⟩
theorem B9.c4{p:MP}{f:Int}{b:List MB}{e:MB}(h:RP p f xs b l e c g)(h2:g.op=27/\g.a=c.gQ)(i:¬Ir b l.ej g.c)(j:∃a,Ir b l.ej a/\a≠e.gK/\PX xs c.gQ a):B9 p f xs b l 4:=⟨e,h.ig,.inr ⟨c,g,h.jA,h.at_,.inr ⟨h2,.inr ⟨i,.inl ⟨j,rfl⟩⟩⟩⟩⟩
theorem B9.c5{p:MP}{f:Int}{b:List MB}{e:MB}(h:RP p f xs b l e c g)(h2:g.op=27/\g.a=c.gQ)(i:¬Ir b l.ej g.c)(j:¬∃a,Ir b l.ej a/\a≠e.gK/\PX xs c.gQ a)(k:l.head=0\/Me p.aC xs b l c):B9 p f xs b l 5:=⟨e,h.ig,.inr ⟨c,g,h.jA,h.at_,.inr ⟨h2,.inr ⟨i,.inr ⟨j,.inl ⟨k,rfl⟩⟩⟩⟩⟩⟩
theorem B9.c0{p:MP}{f:Int}{b:List MB}{e:MB}(h:RP p f xs b l e c g)(h2:g.op=27/\g.a=c.gQ)(i:¬Ir b l.ej g.c)(j:¬∃a,Ir b l.ej a/\a≠e.gK/\PX xs c.gQ a)(k:¬(l.head=0\/Me p.aC xs b l c)):B9 p f xs b l 0:=⟨e,h.ig,.inr ⟨c,g,h.jA,h.at_,.inr ⟨h2,.inr ⟨i,.inr ⟨j,.inr ⟨k,rfl⟩⟩⟩⟩⟩⟩
theorem Rq{u:Y}{a:Option Addr}{c:Nat}{v:List ML}(h:NY u (Z a n c) v){k:Nat}{m:ML}(q:v[k]?=K m):∃g o b i f j,a=K ⟨g,o,M⟩/\u.cell? ⟨g,o+k*3,M⟩=K (Ac Ab m.head)/\u.cell? ⟨g,o+k*3+1,M⟩=K (Z b m.back i)/\u.cell? ⟨g,o+k*3+2,M⟩=K (Z f m.ej j)/\UQ u (m,Z b m.back i,Z f m.ej j):=by
 obtain⟨xs,h1,h2,B⟩:=h;have G:=(iV.1 q).1;obtain⟨⟨H,I,L⟩,l,s⟩:∃x,xs[k]?=K x/\x.1=m:=by rw[<-h1,lG]at q;exact mK.1 q
 simp only[]at s;subst s;have r:=B _ (i8 l);obtain⟨b,i,y⟩:=Rd.fu r.1;obtain⟨f,j,z⟩:=Rd.fu r.2;simp only[]at y z;subst y z;rcases h2.2 with⟨e,_⟩|⟨A,E,F,e,p⟩
 . omega
 simp only[jc]at e;have t:=Rd.elem CA p k _ l 0 _ rfl;have C:=Rd.elem CA p k _ l 1 _ rfl;have D:=Rd.elem CA p k _ l 2 _ rfl;rw[kZ]at t;exact⟨A,E,b,i,f,j,e.1,t,C,D,r⟩
theorem G4{u:Y}{a:Option Addr}{c:Nat}{p:List MB}(h:Ic u (Z a n c) p){k:Nat}(l:p[k]?=K m):∃g o b f,a=K ⟨g,o,M⟩/\u.cell? ⟨g,o+k*3,M⟩=K (Ac Ab m.gK)/\u.cell? ⟨g,o+k*3+1,M⟩=K (Ac Ab m.last)/\u.cell? ⟨g,o+k*3+2,M⟩=K (Z b m.next f)/\UO u (Z b m.next f) m:=by
 obtain⟨xs,h1,h2,y⟩:=h;have D:=(iV.1 l).1;obtain⟨⟨E,F⟩,i,r⟩:∃x,xs[k]?=K x/\x.1=m:=by rw[<-h1,lG]at l;exact mK.1 l
 simp only[]at r;subst r;have q:=y _ (i8 i);obtain⟨b,f,t⟩:=Rd.fu q;simp only[]at t;subst t;rcases h2.2 with⟨e,_⟩|⟨v,B,C,e,j⟩
 . omega
 simp only[jc]at e;have s:=Rd.elem Bh j k _ i 0 _ rfl;have z:=Rd.elem Bh j k _ i 1 _ rfl;have A:=Rd.elem Bh j k _ i 2 _ rfl;rw[kZ]at s;exact⟨v,B,b,f,e.1,s,z,A,q⟩
theorem Dg.iB{w j:Y}{e i f g:J}{r:Fy}(h:Dg w e i f g r){B:Nat}(b:Ad B w j)(a: ↑w<=B):Dg j e i f g r:=⟨h.ej.bM b a,h.gJ.bM b a,h.gS.bM b a,h.gI.bM b a⟩
theorem La{w:Y}{f j i g:J}{r:Fy}(h:Dg w f j i g r):∃v1 c1 v2 c2 v3 c3 b c4,f=Z v1 r.ej c1/\j=Z v2 r.gJ c2/\i=Z v3 r.gS c3/\g=Z b r.gI c4:=by
 obtain⟨v1,c1,k⟩:∃a c,f=Z a r.ej c:=by obtain⟨_,_,h2,_⟩:=h.ej;exact h2.fu
 obtain⟨v2,c2,l⟩:=h.gJ.fu;obtain⟨v3,c3,e3⟩:=h.gS.fu;obtain⟨b,c4,e4⟩:∃a c,g=Z a r.gI c:=by obtain⟨_,_,h2,_⟩:=h.gI;exact h2.fu
 exact⟨v1,c1,v2,c2,v3,c3,b,c4,k,l,e3,e4⟩
structure PY(w u:Y)(v:VP)(lv:VL)(l:ML)(FB:Nat)(r:Fy)(z1 z2 z3 z4:J):Prop where
 pb:Ar u w #[v.r,v.k,v.f,v.t] 28
 lb:Ar u ((w:Nat)+1) #[Ac Ab l.head,lv.b,lv.k] 95
 fb:Ar u FB #[Ac Ab r.ch,Ac Ab r.at_,z1,z2,z3,z4] 45
 rf:Dg u z1 z2 z3 z4 r
 gG:Ad w w u
theorem PY.bM{w u f:Y}{v:VP}{e:VL}{b:Nat}{r:Fy}{g i z3 j:J}(h:PY w u v e l b r g i z3 j)(a:Ad u u f):PY w f v e l b r g i z3 j:=⟨h.pb.bM a,h.lb.bM a,h.fb.bM a,h.rf.iB a lR,Ai h.gG lR a⟩
theorem V5{e:List MB}{f:List Int}{j b:Nat}{a:Int}(i:f[j]?=K z)(g:z=(b:Int))(h:e[b]?=K m)(h1:m.gK<=a)(h2:a<=m.last):Ir e f a:=⟨z,i8 i,m,by rw[g,kM];exact h,h1,h2⟩
theorem Mz{b:List MB}{e:List Int}{P:Int->Prop}(h:∀(j:Nat) (z:Int) (m:MB),e[j]?=K z->b[z.toNat]?=K m->∀a,m.gK<=a->a<=m.last->¬P a):¬∃a,Ir b e a/\P a:=by rintro⟨a,⟨z,k,m,g,h1,h2⟩,i⟩;obtain⟨j,f⟩:=lw k;exact h j z m f g a h1 h2 i
theorem JJ{p:MP}{f:MF}{x:MI}{D:Nat}(a:f.ch[d]?=K x)(b:d<=me):Cv p f (me+1-d) d sh T D=if A6 p f x sh=0 then Cv p f (me+1-(d+1)) (d+1) (Bv p f x sh) (CE T d sh) (max D (Bv p f x sh).length)else .inl (A6 p f x sh,d):=by have e:me+1-d=(me+1-(d+1))+1:=oM;rw[e,Cv,a]
theorem Lh{p:MP}{f:MF}{D:Nat}(a:d=me+1):Cv p f (me+1-d) d sh T D=.inr (sh,T,D):=by have e:me+1-d=0:=oM;rw[e,Cv]
theorem Ki{l:List α}{k:Nat}{x:α}(h:l[k]?=K x):l.drop k=x::l.drop (k+1):=by obtain⟨i,rfl⟩:=iV.1 h;exact mv i
theorem Ry{p:MP}{f:MF}{g:List MB}{a:List Int}{k b:Nat}{s:WS}{i:Kr}(h:Ds p f g ((a.map Int.toNat).drop k) s=i)(n:a[k]?=K z)(j:z=(b:Int))(l:g[b]?=K m):(match Lg p f m b s with|.inl e=>Sum.inl e|.inr s'=>Ds p f g ((a.map Int.toNat).drop (k+1)) s')=i:=by
 have e:(a.map Int.toNat)[k]?=K b:=by rw[lG,n,j];simp
 rw[Ki e,Ds,l]at h;exact h
def Jr(p:MP)(f:MF)(e:List MB)(rest:List Nat)(me:Nat)(nx:List Nat)(sh:List Int)(C:Nat->Option (List Int))(T:Nat->List Int)(D:Nat)(b:Kr):Prop:=(match DX nx sh C with|none=>Sum.inl (4,me)|some a=>Ds p f e rest ⟨a,T,D⟩)=b
theorem NB{p:MP}{f:MF}{b a me:Nat}{s:WS}(h1:m.gK=(a:Int))(h2:m.last=(me:Int)):Lg p f m b s=(match Cv p f (me+1-a) a ((s.c b).getD []) s.t s.d with|.inl e=>.inl e|.inr (sh,T,D)=>match DX (m.next.map Int.toNat) sh s.c with|none=>.inl (4,me)|some C=>.inr ⟨C,T,D⟩):=by unfold Lg;have e:(m.last-m.gK+1).toNat=me+1-a:=oM;rw[e,h1,h2,kM,kM]<;>rfl
theorem Jr.bad{p:MP}{f:MF}{i:List MB}{k b a me:Nat}{s:WS}{g:Kr}{e:Int×Nat}(h:Ds p f i ((j.map Int.toNat).drop k) s=g)(r:j[k]?=K z)(l:z=(b:Int))(n:i[b]?=K m)(h1:m.gK=(a:Int))(h2:m.last=(me:Int))(q:Cv p f (me+1-a) a ((s.c b).getD []) s.t s.d=.inl e):g=.inl e:=by have:=Ry h r l n;rw[NB h1 h2,q]at this;exact this.symm
theorem Jr.of{p:MP}{f:MF}{g:List MB}{k b i me:Nat}{s:WS}{n:Kr}{l:List Int}{D:Nat}(h:Ds p f g ((j.map Int.toNat).drop k) s=n)(y:j[k]?=K z)(q:z=(b:Int))(r:g[b]?=K m)(h1:m.gK=(i:Int))(h2:m.last=(me:Int))(u:Cv p f (me+1-i) i ((s.c b).getD []) s.t s.d=.inr (l,T,D))(v:l=sh\/m.next=[]):Jr p f g ((j.map Int.toNat).drop (k+1)) me (m.next.map Int.toNat) sh s.c T D n:=by
 have a:=Ry h y q r;rw[NB h1 h2,u]at a;unfold Jr;rcases v with e|e
 . subst e;rw[<-a];simp only[];cases DX (m.next.map Int.toNat) l s.c<;>rfl
 rw[e]at a⊢;exact a
theorem Jr.none_{p:MP}{f:MF}{e:List MB}{me t:Nat}{sh b:List Int}{D:Nat}(h:Jr p f e rest me (t::nx) sh C T D a)(g:C t=K b)(i:¬b=sh):a=.inl (4,me):=by unfold Jr at h;rw[DX,g]at h;simp only[lE i]at h;exact h.symm
theorem Jr.same{p:MP}{f:MF}{b:List MB}{me t:Nat}{e:List Int}{D:Nat}(h:Jr p f b rest me (t::nx) sh C T D a)(g:C t=K e)(i:e=sh):Jr p f b rest me nx sh C T D a:=by unfold Jr at h⊢;rw[DX,g]at h;simp only[lS i]at h;exact h
theorem Jr.new{p:MP}{f:MF}{b:List MB}{me t:Nat}{D:Nat}(h:Jr p f b rest me (t::nx) sh C T D a)(e:C t=M):Jr p f b rest me nx sh (Fv C t sh) T D a:=by unfold Jr at h⊢;rw[DX,e]at h;exact h
theorem Jr.some_{p:MP}{f:MF}{b:List MB}{D:Nat}(h:Jr p f b rest me [] sh C T D a):Ds p f b rest ⟨C,T,D⟩=a:=h
theorem G5{p:MP}{f:MF}{x:MI}(h:BJ p f x sh=0):(BT p f x sh).length<=64:=by
 unfold BJ at h;by_cases h1: ↑sh<(Ax p f x).length
 . rw[lS h1]at h;simp at h
 rw[lE h1]at h;split at h
 . simp at h
 split at h
 . simp at h
 omega
theorem Ua{b e:Nat}{x:MI}(h:(At xs)[b]?=K m)(g:m.last=(e:Int))(k:xs[e]?=K x)(j:x.op=29):m.next=[]:=by
 unfold At at h;rw[lG]at h;obtain⟨a,h1,rfl⟩:=mK.1 h;have i:a.last=(e:Int):=g;have f:(DY xs a).next=DA xs x e:=by unfold DY;rw[i,kM,lD,k];rfl
 rw[f];simp[DA,DQ,AR,j]
end Go.Proofs.YtjnglocdoljgkaaGreat
