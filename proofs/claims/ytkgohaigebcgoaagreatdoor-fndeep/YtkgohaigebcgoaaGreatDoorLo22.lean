import Derived.Test.YtkgohaigebcgoaaGreatDoorLo21
namespace Go.Proofs.YtkgohaigebcgoaaGreatDoor
open Go.ChangeShapes Go.WideShapes Go.ChangeAt Go.RowKit Go.Proofs.Tryz
set_option linter.unusedVariables false
open Go.Value renaming slice → Z,int → Ag,tuple → Ap,agg → An
open Option renaming some → K,none → M
open Go renaming Value → J,World → Y,Calls → Ai
open Go.RowKit renaming Below → Ah,Hid → Ae
open Go.World renaming ownsRow → Ab,setCell → Aa
open List renaming flatMap → Ad
open Go.IntKind renaming i64 → Af
open Go.Ending renaming returned → Am
open Go.Proofs.Tryz renaming prog → Aq
set_option maxHeartbeats 4000000
set_option maxRecDepth 100000
variable {u w d:Y}{b B n k G i f:Nat}{V:J}{a:Addr}{E:Nat->List Nat}{O:List Nat}
def Hm(u:Y)(B:Nat)(V:J)(a:List Int):Prop:=Ab u B 2 1 V a (Ad As a)
theorem Hm.av{b:Y}{a:List Int}(h:Hm u B V a)(c:Ah u u b):Hm b B V a:=AC h c lR
theorem Hm.set{b:List Int}(h:Hm u B V b)(c:a.block<B)(x:J):Hm (u.setCell a x) B V b:=kQ h c x
theorem Hm.nil(u:Y)(B:Nat):Hm u B sN []:=kH _ _ _ _
theorem Q3(u:Y)(a:Addr)(x:J):(u.setCell a x).heap.size=u.heap.size:=sP
theorem TF{a:Option Addr}{c:Nat}{l:List MB}(h:K8 u (Z a n c) l){m:MB}(j:l[k]?=K m):∃g o b d,a=K ⟨g,o,M⟩/\u ⟨g,o+k*3,M⟩=K ↑m.cz/\u ⟨g,o+k*3+1,M⟩=K ↑m.last/\u ⟨g,o+k*3+2,M⟩=K (Z b m.next d)/\YP u (Z b m.next d) m:=by
 obtain⟨xs,v,w,y⟩:=h;have C:=(f7.1 j).1;obtain⟨⟨D,E⟩,f,q⟩:∃x,xs[k]?=K x/\x.1=m:=by rw[<-v,jY]at j;exact lE.1 j
 simp only[]at q;subst q;have p:=y _ (hC f);obtain⟨b,d,s⟩:=Rd.aP p;simp only[]at s;subst s;rcases w.2 with⟨e,_⟩|⟨t,B,cc,e,i⟩
 . omega
 simp only[i8]at e;have r:=Rd.elem Bo i k _ f 0 _ rfl;have z:=Rd.elem Bo i k _ f 1 _ rfl;have A:=Rd.elem Bo i k _ f 2 _ rfl;rw[jV]at r;exact⟨t,B,b,d,e.1,r,z,A,p⟩
theorem XY(l:List Nat):nv l=(ints l).map (Ag Af):=by simp[nv,ints]
theorem XF(l:List Nat):ints l.reverse=(ints l).reverse:=by simp[ints]
theorem RF(g c base:Nat)(O:List Nat)(w:Y)(v:O.length<=1048576)(h:K5 w base (sG g O c) O):
 Ai Aq 58 #[sG g O c] w λe a=>e=Am (Ap #[])/\K5 a base (sG g O c) O.reverse/\w.grownBy a (K g):=by
 rcases h.2 with⟨b,_⟩|⟨u,s,t,b,q,i,j,k,l,m⟩
 . cases b
 cases b
 have p:Go.Sort.Holds (Ag Af) w g 0 (ints O).toArray:=holds_of_blockI i (by rw[A4,<-XY];simpa using m);have f:=RE g c (ints O) w p (by rw[A4];omega);rw[A4]at f;refine f.mono ?_;rintro e a ⟨rfl,n,r⟩;have d:a=Go.Sort.grow (Go.Sort.putRow (Ag Af) (Go.Sort.ahead w n) g 0 (ints O).reverse.toArray) #[]:=by rw[Go.Sort.grow_empty];exact r
 refine⟨rfl,?_,?_⟩
 . have:=ownsRow_sortedI (w:=w) (base:=base) (g:=g) (cap:=c) (n:=n) (os:=#[]) (ss:=ints O) (ts:=(ints O).reverse) sP q i (by rw[A4];exact j) k l;rw[<-d,A4,<-XF,<-XY]at this;unfold K5;rw[lB];exact this
 rw[d];exact grownBy_sortedI _
theorem Yv(g c base:Nat)(a:List Int)(w:Y)(t:a.length<=1048576)(h:Ab w base 2 1 (sG g a c) a (Ad As a)):
 Ai Aq 64 #[sG g a c] w λe f=>e=Am (Ap #[])/\Ab f base 2 1 (sG g a c) a (Ad As (a.mergeSort λx y=>decide (x<=y)))/\w.grownBy f (K g):=by
 rcases h.2 with⟨b,_⟩|⟨s,q,r,b,p,d,i,j,k,l⟩
 . cases b
 cases b
 have m:Go.Sort.Holds (Ag Af) w g 0 a.toArray:=holds_of_blockI d (by rw[<-Dj];simpa using l);refine(RL g c a w m (jS.1 d).1 oM).mono ?_;rintro e f ⟨rfl,n,os,rfl⟩;refine⟨rfl,?_,grownBy_sortedI _⟩;rw[Dj];exact ownsRow_sortedI (mS a _).length_eq p d i j k
theorem Gh.iV{g:Nat}{X:List Nat}(h:Gh w g 0 n E)(t:∀k,k< ↑w->k∉X->u.heap[k]?=w.heap[k]?)(y:g∉X)(A:∀b a m c,b<n->w ⟨g,b,M⟩=K (Z (K a) m c)->0<m->a.block∉X):Gh u g 0 n E:= λb l=>by
 have p:∀{a:Addr} {x:J},w a=K x->a.block∉X->u a=K x:= λ{a x} q z=>by have:=t a.block (i7 q) z;unfold World.cell? at*;rw[this];exact q
 obtain⟨a,c,d,i⟩:=h b l;rw[kT]at d;refine⟨a,c,by rw[kT];exact p d y,i.1,i.2.imp id ?_⟩;rintro⟨f,s,c',e,q⟩;refine⟨f,s,c',e, λj v r=>p (q j v r) ?_⟩;simp only[i8,kW]at e;exact A b ⟨f,s,M⟩ _ c l (by rw[d,e.1]) (by have:=(f7.1 r).1;rw[Vx]at this;omega)
structure GM(w u:Y)(n G gN cN gF gO cO gP:Nat)(E:Nat->List Nat)(S O:List Nat):Prop where
 ge: ↑w<=G
 eP:Ay u G #[sG gN n cN,sG gF n n,sG gO O cO,sG gP n n,sN] 101
 nx:Gh u gN 0 n E
 fr:Gh u gF 0 n (Bq E n)
 vs:Vs E [] [] [0] S O
 ord:K5 u w (sG gO O cO) O.reverse
 pl:∀x,x∈O->u ⟨gP,x,M⟩=K ↑(Ea O x:Int)
 cq:Ah w w u
 ne:gN≠G/\gF≠G/\gO≠G/\gP≠G
 nn:∀b a m c,b<n->u ⟨gN,b,M⟩=K (Z (K a) m c)->0<m->a.block≠G
 nf:∀b a m c,b<n->u ⟨gF,b,M⟩=K (Z (K a) m c)->a.block≠G
theorem XW{y:Y}{j F:Nat}{s:List J}{r:List (J×List Nat)}(h:NG w y u n G i (sG f n n) (sG j n F) s r)(hN: ↑s=n)(T: ↑r=n)(C:∀x,x<n->∃V,r[x]?=K (V,Bq E n x))(D:∀x,x<n->∃a c,s[x]?=K (Z a (E x).length c)/\Lp w (Z a (E x).length c) (E x))(I:Ab y w 2 1 (sG f n n) n (iv (λ_=>0) n))(N:f≠G)(L:f≠i):Gh u j 0 n E/\Gh u i 0 n (Bq E n)/\(j≠G/\i≠G/\f≠G/\j≠f/\i≠f)/\(∀b a m c,b<n->u ⟨j,b,M⟩=K (Z (K a) m c)->0<m->a.block≠G/\a.block≠f)/\(∀b a m c,b<n->u ⟨i,b,M⟩=K (Z (K a) m c)->a.block≠G/\a.block≠f):=by
 have X: ↑w<=f/\f<y.heap.size:=by obtain⟨k,Q,l⟩:=AY I;exact⟨k,(jS.1 l).1⟩
 have U:=h.lt;have v:=h.fF;rw[hN]at v;have W:=(AY v).1;have A:∀b,b<n->u ⟨j,b,M⟩=s[b]?:= λb d=>by have:=v.cellAt b oM;exact this
 have z:∀b,b<n->u ⟨i,b,M⟩=(r.map Prod.fst)[b]?:= λb d=>h.fA.cellAt b oM
 have H:i≠G:= λe=>LJ h.eP h.fA dC (by rw[e];rfl)
 refine⟨λb d=> ?_, λb d=> ?_,⟨oM,H,N,oM,Ne.symm L⟩, λb a m c d g O=> ?_, λb a m c d g=> ?_⟩
 . obtain⟨a,c,k,l⟩:=D b d;exact⟨a,c,by rw[kT,A b d];exact k,Rd.av l h.cq lR⟩
 . obtain⟨V,p⟩:=C b d;have t:=h.eT.own (V,ints (Bq E n b)) (kI.2 ⟨(V,_),hC p,rfl⟩);obtain⟨a,c,e⟩:=AF t;simp only[A4]at e;subst e;refine⟨a,c,by rw[kT,z b d,jY,p];rfl,?_⟩;have:=Rd.eS t;simp only[A4]at this;rw[<-Ex]at this;exact this
 . rw[A b d]at g;obtain⟨a',c',k,l⟩:=D b d;rw[k]at g;simp only[jJ,i8]at g;obtain⟨rfl,rfl,rfl⟩:=g;rcases l.2 with⟨R,_⟩|⟨S,o',c',B,q⟩
   . omega
   simp only[i8,jJ,kW]at B;obtain⟨rfl,rfl⟩:=B;obtain⟨x,P⟩:∃x,(E b)[0]?=K x:=⟨_,an O⟩;have:=i7 (q 0 _ (Rm P));simp only[]at this⊢;omega
 rw[z b d]at g;obtain⟨V,p⟩:=C b d;rw[jY,p]at g;simp only[lw,jJ]at g;subst g;have t:=h.eT.own _ (kI.2 ⟨(_,_),hC p,rfl⟩);have:=(t.lt a.block rfl).1;omega
structure oj(w u3 u:Y)(n G gN cN gF gO cO gP:Nat)(R:List Nat):Prop where
 eP:Ay u G #[sG gN n cN,sG gF n n,sG gO R cO,sG gP n n,sN] 101
 ord:K5 u u3 (sG gO R cO) R
 gV:Ab u w 2 1 (sG gP n n) n (iv (λ_=>0) n)
 fx:∀k,k< ↑u3->k≠G->k≠gP->u.heap[k]?=u3.heap[k]?
 size:(u3:Nat)<= ↑u
 cq:Ah w w u
theorem oj.rev{a g:Y}{m l d:Nat}(h:oj w a u n G m i l b d f O)(A: ↑a<=b)(y:G< ↑a)(z:f< ↑a)(hw:(w:Nat)<= ↑a)(v:K5 g a (sG b O d) O.reverse)(c:u.grownBy g (K b)):oj w a g n G m i l b d f O.reverse:=by
 refine⟨?_,by rw[lB];exact v,DI h.gV c (λq x e=>by simp only[Value.ownBlock,jJ]at x;have:=jM e;omega), λk p r s=> ?_,jN h.size c.size,h.cq.grown c h.cq.size (λj t=>by cases t;omega)⟩
 . rw[lB];exact h.eP.gb c (λe=>by have:=jM e;omega)
 rw[c.block k (lA p h.size) (λe=>by have:=jM e;omega)];exact h.fx k p r s
structure nJ(w u7 u:Y)(n gP:Nat)(O:List Nat)(k:Nat):Prop where
 row:Ab u w 2 1 (sG gP n n) n (iv (Rv O k) n)
 fx:∀k,k< ↑u7->k≠gP->u.heap[k]?=u7.heap[k]?
 cq:Ah w w u
theorem nJ.set{c:Y}{a x:Nat}(h:nJ w c u n a O k)(d:O.Nodup)(f:O.reverse[k]?=K x):nJ w c (Aa u ⟨a,x,M⟩ k) n a O (k+1):=by refine⟨?_, λk e b=>by rw[lj u _ k _ b];exact h.fx k e b,h.cq.setCell (AY h.row).1 _⟩;have:=(h.row.stored x k).1;rw[ph (VO d f n)]at this;exact this
theorem nJ.cell(h:nJ w d u n b O k){x:J}(c:d a=K x)(e:a.block≠b):u a=K x:=by have:=h.fx a.block (i7 c) e;unfold World.cell? at*;rw[this];exact c
theorem o9{U:Y}{z y v e:Nat}{S:List Nat}(p:oj w d U n G i z f y v e O.reverse)(t:nJ w U u n e O O)(hv:Vs E [] [] [0] S O)(I:∀x∈O,x<n)(V: ↑w<=G)(aj:G< ↑d)(aq:e< ↑d)(ai:(w:Nat)<= ↑d)(D:Gh d i 0 n E)(F:Gh d f 0 n (Bq E n))(s:i≠G/\f≠G/\e≠G/\i≠e/\f≠e)(R:∀b a m c,b<n->d ⟨i,b,M⟩=K (Z (K a) m c)->0<m->a.block≠G/\a.block≠e)(T:∀b a m c,b<n->d ⟨f,b,M⟩=K (Z (K a) m c)->a.block≠G/\a.block≠e):GM w u n G i z f y v e E S O:=by
 have au:=(AY p.ord).1;have fx:∀k,k< ↑d->k∉[G,e]->u.heap[k]?=d.heap[k]?:= λk N r=>by simp only[jK,jO,kM,not_or]at r;rw[t.fx k (lA N p.size) r.2];exact p.fx k N r.1 r.2
 have L:∀(g b:Nat),g∉[G,e]->g< ↑d->u ⟨g,b,M⟩=d ⟨g,b,M⟩:= λg b r ae=>by unfold World.cell?;rw[fx g ae r]
 have aa:i< ↑d\/n=0:=by
  by_cases q:n=0
  . exact .inr q
  obtain⟨a,c,A,_⟩:=D 0 oM;exact .inl (i7 A)
 have X:f< ↑d\/n=0:=by
  by_cases q:n=0
  . exact .inr q
  obtain⟨a,c,A,_⟩:=F 0 oM;exact .inl (i7 A)
 have P:i∉[G,e]:=by simp[s]
 have Q:f∉[G,e]:=by simp[s]
 have kb:Ay u G #[sG i n z,sG f n n,sG y O v,sG e n n,sN] 101:=by have h:=p.eP;rw[lB]at h;unfold Ay at*;rw[t.fx G p.eP.lt (Ne.symm s.2.2.1)];exact h
 refine⟨V,kb,D.iV fx P (λb a m c l j B=>by have:=R b a m c l j B;simp[this]),F.iV fx Q (λb a m c l j _=>by have:=T b a m c l j;simp[this]),hv,?_, λx C=> ?_,t.cq,⟨s.1,s.2.1,oM,s.2.2.1⟩, λb a m c l j B=> ?_, λb a m c l j=> ?_⟩
 . have h:=p.ord;have H:K5 u d (sG y O.reverse v) O.reverse:=h.fx t.fx (λg W=>by simp only[Value.ownBlock,jJ]at W;omega);rw[lB]at H;exact BI H ai
 . have:=t.row.cellAt x (by have:=I x C;omega);rw[TQ _ _ _ (I x C),Ye O x C]at this;exact this
 . rw[L i b P (aa.resolve_right oM)]at j;exact(R b a m c l j B).1
 rw[L f b Q (X.resolve_right oM)]at j;exact(T b a m c l j).1
theorem YF(v:VP)(p:MP)(g:VF)(f:MF)(q:Nat)(fq:MF)(b c:Int)(w:Y)(hs:f.small)(ae:p.small)(d:ET w v p)(e:FH w g f)(N:p.aB[q]?=K fq):Ai Aq 114 #[An #[v.r,v.k,v.f,v.t,g.p,f.cu,g.l,g.c],An #[iZ 28,q,b,c]] w (DM w fq.aD):=by
 obtain⟨gk,ok,ck,n,C,L,B,W,X,aa⟩:=N5 d.aB N;have aq:=(f7.1 N).1;obtain⟨Q,R,A⟩:=(show∃a c,v.r=Z a p.az c from by obtain⟨_,_,h,_⟩:=d.az;exact h.aP);obtain⟨O,P,z⟩:=d.b8.aP;obtain⟨S,T,et⟩:=d.bO.aP;obtain⟨f1,f3,m⟩:=(show∃a c,v.f=Z a p.aB c from by obtain⟨_,_,h,_⟩:=d.aB;exact h.aP);obtain⟨D,E,s⟩:=e.1.aP;obtain⟨F,G,x⟩:=e.2.1.aP;obtain⟨H,I,y⟩:=e.2.2.aP;obtain⟨gp,gl,gc⟩:=g;obtain⟨vr,vk,vf,vt⟩:=v;simp only[]at A z et m s x y;subst A z et m s x y;have HP:=Aw d;have HR:=Aw e;clear d e;simp only[i8,kW]at n;obtain⟨rfl,hx⟩:=n;clear hx;have ai:=ae.aB;have aj:(q:Int)<(p.aB:Int):=oM;have i:=Aw (Iu.of w ⟨Z Q p.az R,Z O p.b8 P,sO gk ok p.aB f3,Z S p.bO T⟩ ⟨Z D f.aD E,Z F f.a7 G,Z H f.aU I⟩ f 28 (q:Int) b c);go_enter func114,ntmps114;go_upto_region 1 with fail
 refine Av (λu=>Ae (Iu w u ⟨Z Q p.az R,Z O p.b8 P,sO gk ok p.aB f3,Z S p.bO T⟩ ⟨Z D f.aD E,Z F f.a7 G,Z H f.aU I⟩ f 28 (q:Int) b c)) i ?_;rintro U E1;clear i;have i0:=E1.ib.cell 0;have i1:=E1.ib.cell 1;have i2:=E1.ib.cell 2;have i3:=E1.ib.cell 3;have s0:=E1.sb.cell 0;have s1:=E1.sb.cell 1;have s2:=E1.sb.cell 2;have s3:=E1.sb.cell 3;have s4:=E1.sb.cell 4;have s5:=E1.sb.cell 5;have s6:=E1.sb.cell 6;have s7:=E1.sb.cell 7;simp only[i5,f8,i6]at i0 i1 i2 i3 s0 s1 s2 s3 s4 s5 s6 s7;have c0:=Au E1.cq B;obtain⟨pa,pc,V⟩:=L.1.aP;have j:Ae (DM w fq.aD (Am C.p) U):=⟨C.p,rfl,L.1.av E1.cq lR,E1.cq⟩;rw[V]at c0 j;clear B W X aa;go_wp2_with fail;go_ret;exact j
theorem Xw(v:VP)(p:MP)(g:VF)(f:MF)(q:Nat)(fq:MF)(b c:Int)(w:Y)(hs:f.small)(aa:p.small)(d:ET w v p)(h:FH w g f)(W:p.aB[q]?=K fq):Ai Aq 119 #[An #[v.r,v.k,v.f,v.t,g.p,f.cu,g.l,g.c],An #[iZ 28,q,b,c]] w (DM w (Bj fq)):=by
 obtain⟨gk,ok,ck,A,g',j,I,L,N,O⟩:=N5 d.aB W;have aj:=(f7.1 W).1;obtain⟨r1,r3,H⟩:=(show∃a c,v.r=Z a p.az c from by obtain⟨_,_,i,_⟩:=d.az;exact i.aP);obtain⟨X,k3,E⟩:=d.b8.aP;obtain⟨t1,t3,et⟩:=d.bO.aP;obtain⟨f1,f3,z⟩:=(show∃a c,v.f=Z a p.aB c from by obtain⟨_,_,i,_⟩:=d.aB;exact i.aP);obtain⟨P,Q,B⟩:=h.1.aP;obtain⟨R,S,C⟩:=h.2.1.aP;obtain⟨T,V,D⟩:=h.2.2.aP;obtain⟨gp,gl,gc⟩:=g;obtain⟨vr,vk,vf,vt⟩:=v;simp only[]at H E et z B C D;subst H E et z B C D;have HP:=Aw d;have HR:=Aw h;clear d h;simp only[i8,kW]at A;obtain⟨rfl,hx⟩:=A;clear hx;have ae:=aa.aB;have ai:(q:Int)<(p.aB:Int):=oM;have n:=Aw (Iu.of w ⟨Z r1 p.az r3,Z X p.b8 k3,sO gk ok p.aB f3,Z t1 p.bO t3⟩ ⟨Z P f.aD Q,Z R f.a7 S,Z T f.aU V⟩ f 28 (q:Int) b c);go_enter func119,ntmps119;go_upto_region 1 with fail
 refine Av (λu=>Ae (Iu w u ⟨Z r1 p.az r3,Z X p.b8 k3,sO gk ok p.aB f3,Z t1 p.bO t3⟩ ⟨Z P f.aD Q,Z R f.a7 S,Z T f.aU V⟩ f 28 (q:Int) b c)) n ?_;rintro U E1;clear n;have i0:=E1.ib.cell 0;have i1:=E1.ib.cell 1;have i2:=E1.ib.cell 2;have i3:=E1.ib.cell 3;have s0:=E1.sb.cell 0;have s1:=E1.sb.cell 1;have s2:=E1.sb.cell 2;have s3:=E1.sb.cell 3;have s4:=E1.sb.cell 4;have s5:=E1.sb.cell 5;have s6:=E1.sb.cell 6;have s7:=E1.sb.cell 7;simp only[i5,f8,i6]at i0 i1 i2 i3 s0 s1 s2 s3 s4 s5 s6 s7;have c0:=Au E1.cq I;have c1:=Au E1.cq L;have c2:=Au E1.cq N;have c3:=Au E1.cq O;obtain⟨pa,pc,G⟩:=j.1.aP;obtain⟨la,lc,F⟩:=j.2.1.aP;obtain⟨ca,cc,y⟩:=j.2.2.aP;rw[G]at c0;rw[F]at c2;rw[y]at c3;clear I L N O G F y;go_wp2_with fail;refine(RD ⟨Z pa fq.aD pc,Z la fq.a7 lc,Z ca fq.aU cc⟩ fq U).mono ?_;rintro e u1 ⟨s,rfl,m,x⟩;have HE:Ae (DM w (Bj fq) (Am s) u1):=⟨s,rfl,m,Ar E1.cq lR x⟩;obtain⟨sa,sc,rfl⟩:=m.aP;clear m x;go_wp2_with fail;go_ret;exact HE
theorem Zn(v:VP)(p:MP)(g:VF)(f:MF)(q:Nat)(z:MC)(b c:Int)(w:Y)(hs:f.small)(T:p.small)(d:ET w v p)(h:FH w g f)(I:p.b8[q]?=K z):Ai Aq 119 #[An #[v.r,v.k,v.f,v.t,g.p,f.cu,g.l,g.c],An #[iZ 1,q,b,c]] w (DM w [z.type]):=by
 have ai:=(f7.1 I).1;obtain⟨gk,ok,ck,A,N⟩:∃gk ok ck,v.k=sO gk ok p.b8 ck/\w ⟨gk,ok+q*2,M⟩=K ↑z.type:=by
  rcases d.b8.2 with⟨e,_⟩|⟨gk,ok,ck,e,S⟩
  . omega
  exact⟨gk,ok,ck,e,Rd.elem MC.bW S q z I 0 _ rfl⟩
 obtain⟨O,P,B⟩:=(show∃a c,v.r=Z a p.az c from by obtain⟨_,_,i,_⟩:=d.az;exact i.aP);obtain⟨k1,L,y⟩:=d.b8.aP;obtain⟨Q,R,et⟩:=d.bO.aP;obtain⟨f1,f3,m⟩:=(show∃a c,v.f=Z a p.aB c from by obtain⟨_,_,i,_⟩:=d.aB;exact i.aP);obtain⟨C,D,n⟩:=h.1.aP;obtain⟨E,F,s⟩:=h.2.1.aP;obtain⟨G,H,x⟩:=h.2.2.aP;obtain⟨gp,gl,gc⟩:=g;obtain⟨vr,vk,vf,vt⟩:=v;simp only[]at B y et m n s x;subst B y et m n s x;have HP:=Aw d;have HR:=Aw h;clear d h;simp only[i8,kW]at A;obtain⟨rfl,V⟩:=A;clear V;have aa:=T.b8;have ae:(q:Int)<(p.b8:Int):=oM;have j:=Aw (Iu.of w ⟨Z O p.az P,sO gk ok p.b8 L,Z f1 p.aB f3,Z Q p.bO R⟩ ⟨Z C f.aD D,Z E f.a7 F,Z G f.aU H⟩ f 1 (q:Int) b c);go_enter func119,ntmps119;go_upto_region 1 with fail
 refine Av (λu=>Ae (Iu w u ⟨Z O p.az P,sO gk ok p.b8 L,Z f1 p.aB f3,Z Q p.bO R⟩ ⟨Z C f.aD D,Z E f.a7 F,Z G f.aU H⟩ f 1 (q:Int) b c)) j ?_;rintro U E1;clear j;have i0:=E1.ib.cell 0;have W:=E1.ib.cell 1;have X:=E1.ib.cell 2;have i3:=E1.ib.cell 3;have s0:=E1.sb.cell 0;have s1:=E1.sb.cell 1;have s2:=E1.sb.cell 2;have s3:=E1.sb.cell 3;have s4:=E1.sb.cell 4;have s5:=E1.sb.cell 5;have s6:=E1.sb.cell 6;have s7:=E1.sb.cell 7;simp only[i5,f8,i6]at i0 W X i3 s0 s1 s2 s3 s4 s5 s6 s7;have c0:=Au E1.cq N;clear N;go_wp2_with fail;go_ret;exact G9 E1.cq [z.type] 1 1 rfl
theorem OI(v:VP)(p:MP)(g:VF)(f:MF)(x:MI)(w:Y)(h:p.small)(B:p.az.length=3)(j:f.small)(e:ET w v p)(i:FH w g f)(m:AW p f x):
 Ai Aq 114 #[An #[v.r,v.k,v.f,v.t,g.p,f.cu,g.l,g.c],An #[x.op,x.a,x.b,x.c]] w (DM w (Ce p f x)):=by
 obtain⟨op,a,b,c⟩:=x;have y:=m.1;have u:=m.2.1;simp only[]at y u;have s:=Aw m;by_cases D:op=3\/op=5\/op=7\/op=28\/op=29
 . clear y u m;rcases D with rfl|rfl|rfl|rfl|rfl
   . obtain⟨q,d,ht⟩:=s.local sP;simp only[]at d ht;subst d;rw[show Ce p f ⟨3,q,b,c⟩=[AJ f q]from by simp[Ce,AA]];exact Z8 v p g f q (AJ f q) b c w j h e i ht
   . obtain⟨q,z,r,d,n,A,ht⟩:=s.cell B sP;simp only[]at d n;subst d n;rw[show Ce p f ⟨5,q,z,c⟩=[CT p ⟨5,q,z,c⟩]from by simp[Ce,AA]];exact Z9 v p g f q z r _ c w j h e i A ht
   . obtain⟨q,z,r,d,n,A,ht⟩:=s.cell B sP;simp only[]at d n;subst d n;rw[show Ce p f ⟨7,q,z,c⟩=[3,CT p ⟨7,q,z,c⟩]from by simp[Ce,AA]];exact nh v p g f q z r _ c w j h e i A ht
   . obtain⟨q,fq,d,C⟩:=s.callee rfl;simp only[]at d;subst d;rw[show Ce p f ⟨28,q,b,c⟩=fq.aD from by simp[Ce,AA,C]];exact YF v p g f q fq b c w j h e i C
   rw[show Ce p f ⟨29,a,b,c⟩=Bj f from by simp[Ce]];exact YG v p g f 0 a b c w j h e i
 have E:op=0\/op=1\/op=2\/op=4\/op=6\/op=8\/op=9\/op=10\/op=11\/op=12\/op=13\/op=14\/op=15\/op=16\/op=17\/op=18\/op=19\/op=20\/op=21\/op=22\/op=23\/op=24\/op=25\/op=26\/op=27:=oM
 clear y u m D;rcases E with rfl|rfl|rfl|rfl|rfl|rfl|rfl|rfl|rfl|rfl|rfl|rfl|rfl|rfl|rfl|rfl|rfl|rfl|rfl|rfl|rfl|rfl|rfl|rfl|rfl
 all_goals exact pC v g f _ a b c _ w (by simp[Ce,AA])
theorem N7(v:VP)(p:MP)(g:VF)(f:MF)(x:MI)(w:Y)(j:p.small)(B:p.az.length=3)(n:f.small)(i:ET w v p)(m:FH w g f)(s:AW p f x):
 Ai Aq 119 #[An #[v.r,v.k,v.f,v.t,g.p,f.cu,g.l,g.c],An #[x.op,x.a,x.b,x.c]] w (DM w (Bh p f x)):=by
 obtain⟨op,a,b,c⟩:=x;have y:=s.1;have u:=s.2.1;simp only[]at y u;have h:=Aw s;by_cases D:op=1\/op=2\/op=4\/op=6\/op=28
 . clear y u s;rcases D with rfl|rfl|rfl|rfl|rfl
   . obtain⟨q,z,d,e⟩:=h.const rfl;simp only[]at d;subst d;rw[show Bh p f ⟨1,q,b,c⟩=[z.type]from by simp[Bh,C8,e]];exact Zn v p g f q z b c w n j i m e
   . obtain⟨q,d,ht⟩:=h.local sP;simp only[]at d ht;subst d;rw[show Bh p f ⟨2,q,b,c⟩=[AJ f q]from by simp[Bh]];exact Zo v p g f q (AJ f q) b c w n j i m ht
   . obtain⟨q,z,r,d,e,A,ht⟩:=h.cell B sP;simp only[]at d e;subst d e;rw[show Bh p f ⟨4,q,z,c⟩=[CT p ⟨4,q,z,c⟩]from by simp[Bh]];exact Zp v p g f q z r _ c w n j i m A ht
   . obtain⟨q,z,r,d,e,A,ht⟩:=h.cell B sP;simp only[]at d e;subst d e;rw[show Bh p f ⟨6,q,z,c⟩=[CT p ⟨6,q,z,c⟩]from by simp[Bh]];exact Zq v p g f q z r _ c w n j i m A ht
   obtain⟨q,fq,d,C⟩:=h.callee rfl;simp only[]at d;subst d;rw[show Bh p f ⟨28,q,b,c⟩=Bj fq from by simp[Bh,C]];exact Xw v p g f q fq b c w n j i m C
 have E:op=0\/op=3\/op=5\/op=7\/op=8\/op=9\/op=10\/op=11\/op=12\/op=13\/op=14\/op=15\/op=16\/op=17\/op=18\/op=19\/op=20\/op=21\/op=22\/op=23\/op=24\/op=25\/op=26\/op=27\/op=29:=oM
 clear y u s D;rcases E with rfl|rfl|rfl|rfl|rfl|rfl|rfl|rfl|rfl|rfl|rfl|rfl|rfl|rfl|rfl|rfl|rfl|rfl|rfl|rfl|rfl|rfl|rfl|rfl|rfl
 all_goals exact o6 v g f _ a b c _ w (by simp[Bh])
end Go.Proofs.YtkgohaigebcgoaaGreatDoor
