import Derived.Test.YtkgohaigebcgoaaGreatDoorCh21
namespace Go.Proofs.YtkgohaigebcgoaaGreatDoor
open Go.ChangeShapes Go.WideShapes Go.ChangeAt Go.RowKit Go.Proofs.Tryz
set_option linter.unusedVariables false
open Option renaming some → K,none → M
open Go.Value renaming slice → Z,int → Ag,tuple → Ap,agg → An
open Go renaming Value → J,World → Y,Calls → Ai
open Go.IntKind renaming i64 → Af
open Go.RowKit renaming Below → Ah,Hid → Ae
open Go.Ending renaming returned → Am
open Go.Proofs.Tryz renaming prog → Aq
open Go.World renaming setCell → Aa,ownsRow → Ab
open List renaming flatMap → Ad
set_option maxHeartbeats 4000000
set_option maxRecDepth 100000
variable {w u d:Y}{n:Nat}{E:Nat->List Nat}
structure PN(p:MP)(fi:Int)(costs:List Int)(xs:List MI)(r:DQ)(D L:Nat->Nat->Bool)(sl:List ML)(k:Nat)(bd:Bool)(I:List Nat)(C:List Int):Prop where
 lf:∀l∈sl.take k,A5 p fi xs r.a7 l 0
 lr:M6 (nx r.a7) r.a7 D (λx=>x∈(sl.take k).map hN) (jf I)
 cn:∀c,0<=cf C c
 bad:bd=true->(∃m∈r.a7,FF xs costs m)\/PW (nx r.a7) r.a7 D L (Ju p fi r.a7) (My xs r.a7) (sl.map hN) (jf (List.range r.a7)) (cf (r.a7.map (Cm xs costs))) (-1)
 ok:bd=false->(∀m∈r.a7,¬FF xs costs m)/\∀v,PW (nx r.a7) r.a7 D L (Ju p fi r.a7) (My xs r.a7) ((sl.drop k).map hN) (jf I) (cf C) v->PW (nx r.a7) r.a7 D L (Ju p fi r.a7) (My xs r.a7) (sl.map hN) (jf (List.range r.a7)) (cf (r.a7.map (Cm xs costs))) v
section
variable {p:MP} {fi:Int} {costs:List Int} {xs:List MI} {r:DQ} {O:List Nat} {D L:Nat->Nat->Bool} {sl:List ML} {k hd:Nat} {bd bd2:Bool} {I I2:List Nat} {C:List Int} {l:ML}
theorem sK(h:∀y∈C,Kh y)(c:Nat):0<=cf C c:=by
 unfold cf;rw[mI];cases e:C[c]? with
 |none=>exact Int.le_refl _
 |some y=>exact(h y (lP e)).1
theorem PN.start(g:Gd r (nx r.a7) r.a7 O D L)(c:C.length= ↑r.a7)(f:∀y∈C,Kh y)(h:(bd=true->∃m∈r.a7,FF xs costs m)/\(bd=false->∀b m,b< ↑r.a7->r.a7[b]?=K m->¬FF xs costs m/\cf C b=Cm xs costs m)):PN p fi costs xs r D L sl 0 bd (List.range r.a7) C:=by
 refine⟨λl c=>by simp at c,M6.kK,sK f, λe=>.inl (h.1 e), λe=>⟨λm j=> ?_, λv d=> ?_⟩⟩
 . obtain⟨b,a⟩:=nB j;exact(h.2 e b m (f7.1 a).1 a).1
 have:cf C=cf (r.a7.map (Cm xs costs)):=by
  funext b
  by_cases a:b< ↑r.a7
  . rw[(h.2 e b _ a (an a)).2];exact(Kt (by rw[mN,an a];rfl)).symm
  unfold cf;rw[mI,mI,mc oM,mc (by rw[mQ];omega)]
 rw[this]at d;simpa using d
theorem Gd.at_(g:Gd r (nx r.a7) r.a7 O D L)(c:l∈r.cv)(f:l.head=(hd:Int)):l=Ny (nx r.a7) D L r.a7 hd/\AP (nx r.a7) D r.a7 hd≠[]:=by
 obtain⟨h,_,b,a⟩:=g.mem.1 c;have e:h=hd:=by
  have d:l.head=(h:Int):=by rw[a];rfl
  omega
 subst e;exact⟨a,b⟩
theorem PN.fin(s:PN p fi costs xs r D L sl sl bd I C)(g:Gd r (nx r.a7) r.a7 O D L)(d:sl.Perm r.cv):Ys (nx r.a7) r.a7 D (λx=>x∈(sl.take sl).map hN) (jf I) (λb=>b< ↑r.a7) 0:=by
 refine s.lr.whole g.fl (λx f=> ?_) λh=> ?_
 . rw[List.take_length];exact mV.2 ⟨_,d.symm.subset (g.mem.2 ⟨x,Lu g.fl f,f,rfl⟩),Ob⟩
 obtain⟨l,a,c⟩:=mV.1 h;have j:=s.lf l a;rw[List.take_length]at a;obtain⟨m,_,_,e⟩:=g.mem.1 (d.subset a);rw[e,Ob]at c;subst c;have k:l.head=0:=by rw[e];rfl
 obtain⟨_,_,q⟩:=j;rcases q with⟨_,q⟩|⟨_,_,_,_,⟨_,q⟩|⟨_,⟨_,q⟩|⟨_,⟨_,q⟩|⟨_,⟨_,q⟩|⟨q,_⟩⟩⟩⟩⟩
 . cases q
 . cases q
 . cases q
 . cases q
 . cases q
 exact q (.inl k)
theorem PN.all(s:PN p fi costs xs r D L sl sl bd I C)(b:sl.Perm r.cv):∀l∈r.cv,A5 p fi xs r.a7 l 0:= λl a=>s.lf l (by rw[List.take_length];exact b.symm.subset a)
theorem PN.done{v:Int}(s:PN p fi costs xs r D L sl sl bd I C)(g:Gd r (nx r.a7) r.a7 O D L)(c:sl.Perm r.cv)(j:sl.Pairwise KO)(k:bd=false->PX (nx r.a7) r.a7 (My xs r.a7) (jf I) (cf C) v)(b:bd=true->v=-1):RY p fi costs xs r v:=by
 by_cases a:∃m∈r.a7,FF xs costs m
 . cases e:bd with
   |true=>exact .inl ⟨.inr a,b e⟩
   |false=>obtain⟨m,d,f⟩:=a;exact absurd f ((s.ok e).1 m d)
 . refine .inr ⟨s.all c, λm h q=>a ⟨m,h,q⟩,O,D,L,sl,g,c,j,?_⟩;cases e:bd with
   | true=>rw[b e];exact(s.bad e).resolve_left a
   | false=>refine(s.ok e).2 v ?_;rw[List.drop_length];exact .nil (k e)
end
theorem XC(l:List Nat):nv l=(ints l).map (Ag Af):=by simp[nv,ints]
theorem Xj(l:List Nat):ints l.reverse=(ints l).reverse:=by simp[ints]
theorem Rq(g c base:Nat)(O:List Nat)(w:Y)(y:O.length<=1048576)(h:Kk w base (sG g O c) O):
 Ai Aq 58 #[sG g O c] w λe a=>e=Am (Ap #[])/\Kk a base (sG g O c) O.reverse/\w.grownBy a (K g):=by
 rcases h.2 with⟨b,_⟩|⟨v,t,u,b,r,j,k,l,m,p⟩
 . cases b
 cases b
 have q:Go.Sort.Holds (Ag Af) w g 0 (ints O).toArray:=holds_of_blockI j (by rw[A4,<-XC];simpa using p);have f:=Rp g c (ints O) w q (by rw[A4];omega);rw[A4]at f;refine f.mono ?_;rintro e a ⟨rfl,n,s⟩;have d:a=Go.Sort.grow (Go.Sort.putRow (Ag Af) (Go.Sort.ahead w n) g 0 (ints O).reverse.toArray) #[]:=by rw[Go.Sort.grow_empty];exact s
 refine⟨rfl,?_,?_⟩
 . have:=ownsRow_sortedI (w:=w) (base:=base) (g:=g) (cap:=c) (n:=n) (os:=#[]) (ss:=ints O) (ts:=(ints O).reverse) sP r j (by rw[A4];exact k) l m;rw[<-d,A4,<-Xj,<-XC]at this;unfold Kk;rw[nP];exact this
 rw[d];exact grownBy_sortedI _
theorem X9(g c base:Nat)(a:List Int)(w:Y)(u:a.length<=1048576)(h:Ab w base 2 1 (sG g a c) a (Ad At a)):
 Ai Aq 64 #[sG g a c] w λe f=>e=Am (Ap #[])/\Ab f base 2 1 (sG g a c) a (Ad At (a.mergeSort λx y=>decide (x<=y)))/\w.grownBy f (K g):=by
 rcases h.2 with⟨b,_⟩|⟨t,r,s,b,q,d,j,k,l,m⟩
 . cases b
 cases b
 have p:Go.Sort.Holds (Ag Af) w g 0 a.toArray:=holds_of_blockI d (by rw[<-De];simpa using m);refine(Rv g c a w p (mH.1 d).1 oM).mono ?_;rintro e f ⟨rfl,n,os,rfl⟩;refine⟨rfl,?_,grownBy_sortedI _⟩;rw[De];exact ownsRow_sortedI (pB a _).length_eq q d j k l
theorem Gb.kL{g:Nat}{X:List Nat}(h:Gb w g 0 n E)(y:∀k,k< ↑w->k∉X->u.heap[k]?=w.heap[k]?)(z:g∉X)(B:∀b a m c,b<n->w ⟨g,b,M⟩=K (Z (K a) m c)->0<m->a.block∉X):Gb u g 0 n E:= λb p=>by
 have r:∀{a:Addr} {x:J},w a=K x->a.block∉X->u a=K x:= λ{a x} q A=>by have:=y a.block (lT q) A;unfold World.cell? at*;rw[this];exact q
 obtain⟨a,c,d,l⟩:=h b p;rw[m9]at d;refine⟨a,c,by rw[m9];exact r d z,l.1,l.2.imp id ?_⟩;rintro⟨f,t,c',e,q⟩;refine⟨f,t,c',e, λj v s=>r (q j v s) ?_⟩;simp only[lU,mj]at e;exact B b ⟨f,t,M⟩ _ c p (by rw[d,e.1]) (by have:=(f7.1 s).1;rw[Vc]at this;omega)
structure GM(w u:Y)(n G gN cN gF gO cO gP:Nat)(E:Nat->List Nat)(S O:List Nat):Prop where
 ge: ↑w<=G
 eI:Ay u G #[sG gN n cN,sG gF n n,sG gO O cO,sG gP n n,sN] 101
 nx:Gb u gN 0 n E
 fr:Gb u gF 0 n (Bo E n)
 vs:Vs E [] [] [0] S O
 ord:Kk u w (sG gO O cO) O.reverse
 pl:∀x,x∈O->u ⟨gP,x,M⟩=K ↑(DY O x:Int)
 cq:Ah w w u
 ne:gN≠G/\gF≠G/\gO≠G/\gP≠G
 nn:∀b a m c,b<n->u ⟨gN,b,M⟩=K (Z (K a) m c)->0<m->a.block≠G
 nf:∀b a m c,b<n->u ⟨gF,b,M⟩=K (Z (K a) m c)->a.block≠G
theorem Xy{z:Y}{n G j k H f:Nat}{t:List J}{s:List (J×List Nat)}(h:NG w z u n G j (sG f n n) (sG k n H) t s)(hN: ↑t=n)(U: ↑s=n)(D:∀x,x<n->∃V,s[x]?=K (V,Bo E n x))(F:∀x,x<n->∃a c,t[x]?=K (Z a (E x).length c)/\Lb w (Z a (E x).length c) (E x))(L:Ab z w 2 1 (sG f n n) n (iv (λ_=>0) n))(O:f≠G)(N:f≠j):Gb u k 0 n E/\Gb u j 0 n (Bo E n)/\(k≠G/\j≠G/\f≠G/\k≠f/\j≠f)/\(∀b a m c,b<n->u ⟨k,b,M⟩=K (Z (K a) m c)->0<m->a.block≠G/\a.block≠f)/\(∀b a m c,b<n->u ⟨j,b,M⟩=K (Z (K a) m c)->a.block≠G/\a.block≠f):=by
 have aa: ↑w<=f/\f<z.heap.size:=by obtain⟨l,R,p⟩:=AZ L;exact⟨l,(mH.1 p).1⟩
 have W:=h.lt;have y:=h.jg;rw[hN]at y;have X:=(AZ y).1;have B:∀b,b<n->u ⟨k,b,M⟩=t[b]?:= λb d=>by have:=y.cellAt b oM;exact this
 have A:∀b,b<n->u ⟨j,b,M⟩=(s.map Prod.fst)[b]?:= λb d=>h.iY.cellAt b oM
 have I:j≠G:= λe=>Lx h.eI h.iY dC (by rw[e];rfl)
 refine⟨λb d=> ?_, λb d=> ?_,⟨oM,I,O,oM,Ne.symm N⟩, λb a m c d g P=> ?_, λb a m c d g=> ?_⟩
 . obtain⟨a,c,l,p⟩:=F b d;exact⟨a,c,by rw[m9,B b d];exact l,Rd.av p h.cq lR⟩
 . obtain⟨V,r⟩:=D b d;have v:=h.fg.own (V,ints (Bo E n b)) (mV.2 ⟨(V,_),lP r,rfl⟩);obtain⟨a,c,e⟩:=AF v;simp only[A4]at e;subst e;refine⟨a,c,by rw[m9,A b d,mN,r];rfl,?_⟩;have:=Rd.eP v;simp only[A4]at this;rw[<-Er]at this;exact this
 . rw[B b d]at g;obtain⟨a',c',l,p⟩:=F b d;rw[l]at g;simp only[lX,lU]at g;obtain⟨rfl,rfl,rfl⟩:=g;rcases p.2 with⟨S,_⟩|⟨T,o',c',C,q⟩
   . omega
   simp only[lU,lX,mj]at C;obtain⟨rfl,rfl⟩:=C;obtain⟨x,Q⟩:∃x,(E b)[0]?=K x:=⟨_,an P⟩;have:=lT (q 0 _ (Q7 Q));simp only[]at this⊢;omega
 rw[A b d]at g;obtain⟨V,r⟩:=D b d;rw[mN,r]at g;simp only[oO,lX]at g;subst g;have v:=h.fg.own _ (mV.2 ⟨(_,_),lP r,rfl⟩);have:=(v.lt a.block rfl).1;omega
structure qs(w u3 u:Y)(n G gN cN gF gO cO gP:Nat)(R:List Nat):Prop where
 eI:Ay u G #[sG gN n cN,sG gF n n,sG gO R cO,sG gP n n,sN] 101
 ord:Kk u u3 (sG gO R cO) R
 jX:Ab u w 2 1 (sG gP n n) n (iv (λ_=>0) n)
 fx:∀k,k< ↑u3->k≠G->k≠gP->u.heap[k]?=u3.heap[k]?
 size:(u3:Nat)<= ↑u
 cq:Ah w w u
theorem qs.rev{a g:Y}{n G p l m b d f:Nat}{O:List Nat}(h:qs w a u n G p l m b d f O)(C: ↑a<=b)(A:G< ↑a)(B:f< ↑a)(hw:(w:Nat)<= ↑a)(y:Kk g a (sG b O d) O.reverse)(c:u.grownBy g (K b)):qs w a g n G p l m b d f O.reverse:=by
 refine⟨?_,by rw[nP];exact y,DF h.jX c (λq z e=>by simp only[Value.ownBlock,lX]at z;have:=mD e;omega), λk r s t=> ?_,mC h.size c.size,h.cq.grown c h.cq.size (λj v=>by cases v;omega)⟩
 . rw[nP];exact h.eI.gb c (λe=>by have:=mD e;omega)
 rw[c.block k (nH r h.size) (λe=>by have:=mD e;omega)];exact h.fx k r s t
structure Z6(w u7 u:Y)(n gP:Nat)(O:List Nat)(k:Nat):Prop where
 row:Ab u w 2 1 (sG gP n n) n (iv (Re O k) n)
 fx:∀k,k< ↑u7->k≠gP->u.heap[k]?=u7.heap[k]?
 cq:Ah w w u
theorem Z6.set{c:Y}{n a k x:Nat}{O:List Nat}(h:Z6 w c u n a O k)(d:O.Nodup)(f:O.reverse[k]?=K x):Z6 w c (Aa u ⟨a,x,M⟩ k) n a O (k+1):=by refine⟨?_, λk e b=>by rw[oJ u _ k _ b];exact h.fx k e b,h.cq.setCell (AZ h.row).1 _⟩;have:=(h.row.stored x k).1;rw[ry (Vt d f n)]at this;exact this
theorem Z6.cell{n b k:Nat}{O:List Nat}(h:Z6 w d u n b O k){a:Addr}{x:J}(c:d a=K x)(e:a.block≠b):u a=K x:=by have:=h.fx a.block (lT c) e;unfold World.cell? at*;rw[this];exact c
theorem ro{V:Y}{G j A f z y e:Nat}{S O:List Nat}(r:qs w d V n G j A f z y e O.reverse)(v:Z6 w V u n e O O)(hv:Vs E [] [] [0] S O)(L:∀x∈O,x<n)(W: ↑w<=G)(aq:G< ↑d)(au:e< ↑d)(aj:(w:Nat)<= ↑d)(F:Gb d j 0 n E)(H:Gb d f 0 n (Bo E n))(t:j≠G/\f≠G/\e≠G/\j≠e/\f≠e)(T:∀b a m c,b<n->d ⟨j,b,M⟩=K (Z (K a) m c)->0<m->a.block≠G/\a.block≠e)(U:∀b a m c,b<n->d ⟨f,b,M⟩=K (Z (K a) m c)->a.block≠G/\a.block≠e):GM w u n G j A f z y e E S O:=by
 have ax:=(AZ r.ord).1;have fx:∀k,k< ↑d->k∉[G,e]->u.heap[k]?=d.heap[k]?:= λk P s=>by simp only[lW,lZ,mS,not_or]at s;rw[v.fx k (nH P r.size) s.2];exact r.fx k P s.1 s.2
 have N:∀(g b:Nat),g∉[G,e]->g< ↑d->u ⟨g,b,M⟩=d ⟨g,b,M⟩:= λg b s ai=>by unfold World.cell?;rw[fx g ai s]
 have ae:j< ↑d\/n=0:=by
  by_cases q:n=0
  . exact .inr q
  obtain⟨a,c,B,_⟩:=F 0 oM;exact .inl (lT B)
 have aa:f< ↑d\/n=0:=by
  by_cases q:n=0
  . exact .inr q
  obtain⟨a,c,B,_⟩:=H 0 oM;exact .inl (lT B)
 have Q:j∉[G,e]:=by simp[t]
 have R:f∉[G,e]:=by simp[t]
 have kb:Ay u G #[sG j n A,sG f n n,sG z O y,sG e n n,sN] 101:=by have h:=r.eI;rw[nP]at h;unfold Ay at*;rw[v.fx G r.eI.lt (Ne.symm t.2.2.1)];exact h
 refine⟨W,kb,F.kL fx Q (λb a m c p l C=>by have:=T b a m c p l C;simp[this]),H.kL fx R (λb a m c p l _=>by have:=U b a m c p l;simp[this]),hv,?_, λx D=> ?_,v.cq,⟨t.1,t.2.1,oM,t.2.2.1⟩, λb a m c p l C=> ?_, λb a m c p l=> ?_⟩
 . have h:=r.ord;have I:Kk u d (sG z O.reverse y) O.reverse:=h.fx v.fx (λg X=>by simp only[Value.ownBlock,lX]at X;omega);rw[nP]at I;exact BG I aj
 . have:=v.row.cellAt x (by have:=L x D;omega);rw[TK _ _ _ (L x D),XP O x D]at this;exact this
 . rw[N j b Q (ae.resolve_right oM)]at l;exact(T b a m c p l C).1
 rw[N f b R (aa.resolve_right oM)]at l;exact(U b a m c p l).1
theorem Ye(v:VP)(p:MP)(g:VF)(f:MF)(q:Nat)(fq:MF)(b c:Int)(w:Y)(hs:f.small)(aj:p.small)(e:Eb w v p)(h:FD w g f)(Q:p.aC[q]?=K fq):Ai Aq 114 #[An #[v.r,v.k,v.f,v.t,g.p,f.cu,g.l,g.c],An #[iZ 28,q,b,c]] w (DI w fq.aP):=by
 obtain⟨gk,ok,ck,y,F,P,E,aa,ae,ai⟩:=Kz e.aC Q;have ax:=(f7.1 Q).1;obtain⟨T,V,D⟩:=(show∃a c,v.r=Z a p.az c from by obtain⟨_,_,j,_⟩:=e.az;exact j.aD);obtain⟨R,S,C⟩:=e.b8.aD;obtain⟨W,X,et⟩:=e.bO.aD;obtain⟨f1,f3,s⟩:=(show∃a c,v.f=Z a p.aC c from by obtain⟨_,_,j,_⟩:=e.aC;exact j.aD);obtain⟨G,H,z⟩:=h.1.aD;obtain⟨I,L,A⟩:=h.2.1.aD;obtain⟨N,O,B⟩:=h.2.2.aD;obtain⟨gp,gl,gc⟩:=g;obtain⟨vr,vk,vf,vt⟩:=v;simp only[]at D C et s z A B;subst D C et s z A B;have HP:=Aw e;have HR:=Aw h;clear e h;simp only[lU,mj]at y;obtain⟨rfl,hx⟩:=y;clear hx;have aq:=aj.aC;have au:(q:Int)<(p.aC:Int):=oM;have m:=Aw (Im.of w ⟨Z T p.az V,Z R p.b8 S,sO gk ok p.aC f3,Z W p.bO X⟩ ⟨Z G f.aP H,Z I f.aB L,Z N f.aU O⟩ f 28 (q:Int) b c);go_enter func114,ntmps114;go_upto_region 1 with fail
 refine Av (λu=>Ae (Im w u ⟨Z T p.az V,Z R p.b8 S,sO gk ok p.aC f3,Z W p.bO X⟩ ⟨Z G f.aP H,Z I f.aB L,Z N f.aU O⟩ f 28 (q:Int) b c)) m ?_;rintro U d;clear m;have i0:=d.ib.cell 0;have i1:=d.ib.cell 1;have i2:=d.ib.cell 2;have i3:=d.ib.cell 3;have s0:=d.sb.cell 0;have s1:=d.sb.cell 1;have s2:=d.sb.cell 2;have s3:=d.sb.cell 3;have s4:=d.sb.cell 4;have s5:=d.sb.cell 5;have s6:=d.sb.cell 6;have s7:=d.sb.cell 7;simp only[lQ,lO,lS]at i0 i1 i2 i3 s0 s1 s2 s3 s4 s5 s6 s7;have c0:=Au d.cq E;obtain⟨pa,pc,ep⟩:=P.1.aD;have n:Ae (DI w fq.aP (Am F.p) U):=⟨F.p,rfl,P.1.av d.cq lR,d.cq⟩;rw[ep]at c0 n;clear E aa ae ai;go_wp2_with fail;go_ret;exact n
theorem W9(v:VP)(p:MP)(g:VF)(f:MF)(q:Nat)(fq:MF)(b c:Int)(w:Y)(hs:f.small)(aa:p.small)(h:Eb w v p)(j:FD w g f)(hq:p.aC[q]?=K fq):Ai Aq 119 #[An #[v.r,v.k,v.f,v.t,g.p,f.cu,g.l,g.c],An #[iZ 28,q,b,c]] w (DI w (Bn fq)):=by
 obtain⟨gk,ok,ck,D,g',n,O,P,Q,R⟩:=Kz h.aC hq;have aj:=(f7.1 hq).1;obtain⟨r1,r3,N⟩:=(show∃a c,v.r=Z a p.az c from by obtain⟨_,_,m,_⟩:=h.az;exact m.aD);obtain⟨k1,k3,H⟩:=h.b8.aD;obtain⟨t1,t3,et⟩:=h.bO.aD;obtain⟨f1,f3,C⟩:=(show∃a c,v.f=Z a p.aC c from by obtain⟨_,_,m,_⟩:=h.aC;exact m.aD);obtain⟨S,T,E⟩:=j.1.aD;obtain⟨V,W,F⟩:=j.2.1.aD;obtain⟨X,g9,G⟩:=j.2.2.aD;obtain⟨gp,gl,gc⟩:=g;obtain⟨vr,vk,vf,vt⟩:=v;simp only[]at N H et C E F G;subst N H et C E F G;have HP:=Aw h;have HR:=Aw j;clear h j;simp only[lU,mj]at D;obtain⟨rfl,hx⟩:=D;clear hx;have ae:=aa.aC;have ai:(q:Int)<(p.aC:Int):=oM;have z:=Aw (Im.of w ⟨Z r1 p.az r3,Z k1 p.b8 k3,sO gk ok p.aC f3,Z t1 p.bO t3⟩ ⟨Z S f.aP T,Z V f.aB W,Z X f.aU g9⟩ f 28 (q:Int) b c);go_enter func119,ntmps119;go_upto_region 1 with fail
 refine Av (λu=>Ae (Im w u ⟨Z r1 p.az r3,Z k1 p.b8 k3,sO gk ok p.aC f3,Z t1 p.bO t3⟩ ⟨Z S f.aP T,Z V f.aB W,Z X f.aU g9⟩ f 28 (q:Int) b c)) z ?_;rintro U d;clear z;have i0:=d.ib.cell 0;have i1:=d.ib.cell 1;have i2:=d.ib.cell 2;have i3:=d.ib.cell 3;have s0:=d.sb.cell 0;have s1:=d.sb.cell 1;have s2:=d.sb.cell 2;have s3:=d.sb.cell 3;have s4:=d.sb.cell 4;have s5:=d.sb.cell 5;have s6:=d.sb.cell 6;have s7:=d.sb.cell 7;simp only[lQ,lO,lS]at i0 i1 i2 i3 s0 s1 s2 s3 s4 s5 s6 s7;have c0:=Au d.cq O;have c1:=Au d.cq P;have c2:=Au d.cq Q;have c3:=Au d.cq R;obtain⟨pa,pc,L⟩:=n.1.aD;obtain⟨la,lc,I⟩:=n.2.1.aD;obtain⟨ca,cc,B⟩:=n.2.2.aD;rw[L]at c0;rw[I]at c2;rw[B]at c3;clear O P Q R L I B;go_wp2_with fail;refine(Ro ⟨Z pa fq.aP pc,Z la fq.aB lc,Z ca fq.aU cc⟩ fq U).mono ?_;rintro e u1 ⟨s,rfl,y,A⟩;have HE:Ae (DI w (Bn fq) (Am s) u1):=⟨s,rfl,y,Ar d.cq lR A⟩;obtain⟨sa,sc,rfl⟩:=y.aD;clear y A;go_wp2_with fail;go_ret;exact HE
theorem YZ(v:VP)(p:MP)(g:VF)(f:MF)(q:Nat)(z:MC)(b c:Int)(w:Y)(hs:f.small)(X:p.small)(h:Eb w v p)(j:FD w g f)(O:p.b8[q]?=K z):Ai Aq 119 #[An #[v.r,v.k,v.f,v.t,g.p,f.cu,g.l,g.c],An #[iZ 1,q,b,c]] w (DI w [z.type]):=by
 have ai:=(f7.1 O).1;obtain⟨gk,ok,ck,D,Q⟩:∃gk ok ck,v.k=sO gk ok p.b8 ck/\w ⟨gk,ok+q*2,M⟩=K ↑z.type:=by
  rcases h.b8.2 with⟨e,_⟩|⟨gk,ok,ck,e,W⟩
  . omega
  exact⟨gk,ok,ck,e,Rd.elem MC.bW W q z O 0 _ rfl⟩
 obtain⟨R,S,E⟩:=(show∃a c,v.r=Z a p.az c from by obtain⟨_,_,m,_⟩:=h.az;exact m.aD);obtain⟨k1,P,C⟩:=h.b8.aD;obtain⟨T,V,et⟩:=h.bO.aD;obtain⟨f1,f3,s⟩:=(show∃a c,v.f=Z a p.aC c from by obtain⟨_,_,m,_⟩:=h.aC;exact m.aD);obtain⟨F,G,y⟩:=j.1.aD;obtain⟨H,I,A⟩:=j.2.1.aD;obtain⟨L,N,B⟩:=j.2.2.aD;obtain⟨gp,gl,gc⟩:=g;obtain⟨vr,vk,vf,vt⟩:=v;simp only[]at E C et s y A B;subst E C et s y A B;have HP:=Aw h;have HR:=Aw j;clear h j;simp only[lU,mj]at D;obtain⟨rfl,hx⟩:=D;clear hx;have aa:=X.b8;have ae:(q:Int)<(p.b8:Int):=oM;have n:=Aw (Im.of w ⟨Z R p.az S,sO gk ok p.b8 P,Z f1 p.aC f3,Z T p.bO V⟩ ⟨Z F f.aP G,Z H f.aB I,Z L f.aU N⟩ f 1 (q:Int) b c);go_enter func119,ntmps119;go_upto_region 1 with fail
 refine Av (λu=>Ae (Im w u ⟨Z R p.az S,sO gk ok p.b8 P,Z f1 p.aC f3,Z T p.bO V⟩ ⟨Z F f.aP G,Z H f.aB I,Z L f.aU N⟩ f 1 (q:Int) b c)) n ?_;rintro U d;clear n;have i0:=d.ib.cell 0;have i1:=d.ib.cell 1;have i2:=d.ib.cell 2;have i3:=d.ib.cell 3;have s0:=d.sb.cell 0;have s1:=d.sb.cell 1;have s2:=d.sb.cell 2;have s3:=d.sb.cell 3;have s4:=d.sb.cell 4;have s5:=d.sb.cell 5;have s6:=d.sb.cell 6;have s7:=d.sb.cell 7;simp only[lQ,lO,lS]at i0 i1 i2 i3 s0 s1 s2 s3 s4 s5 s6 s7;have c0:=Au d.cq Q;clear Q;go_wp2_with fail;go_ret;exact GX d.cq [z.type] 1 1 rfl
theorem OA(v:VP)(p:MP)(g:VF)(f:MF)(x:MI)(w:Y)(j:p.small)(D:p.az.length=3)(n:f.small)(h:Eb w v p)(m:FD w g f)(s:AV p f x):
 Ai Aq 114 #[An #[v.r,v.k,v.f,v.t,g.p,f.cu,g.l,g.c],An #[x.op,x.a,x.b,x.c]] w (DI w (B9 p f x)):=by
 obtain⟨op,a,b,c⟩:=x;have B:=s.1;have A:=s.2.1;simp only[]at B A;have y:=Aw s;by_cases F:op=3\/op=5\/op=7\/op=28\/op=29
 . clear B A s;rcases F with rfl|rfl|rfl|rfl|rfl
   . obtain⟨q,d,e⟩:=y.local sP;simp only[]at d e;subst d;rw[show B9 p f ⟨3,q,b,c⟩=[AJ f q]from by simp[B9,AA]];exact ZU v p g f q (AJ f q) b c w n j h m e
   . obtain⟨q,z,r,d,u,C,e⟩:=y.cell D sP;simp only[]at d u;subst d u;rw[show B9 p f ⟨5,q,z,c⟩=[CU p ⟨5,q,z,c⟩]from by simp[B9,AA]];exact ZV v p g f q z r _ c w n j h m C e
   . obtain⟨q,z,r,d,u,C,e⟩:=y.cell D sP;simp only[]at d u;subst d u;rw[show B9 p f ⟨7,q,z,c⟩=[3,CU p ⟨7,q,z,c⟩]from by simp[B9,AA]];exact ZW v p g f q z r _ c w n j h m C e
   . obtain⟨q,fq,d,E⟩:=y.callee rfl;simp only[]at d;subst d;rw[show B9 p f ⟨28,q,b,c⟩=fq.aP from by simp[B9,AA,E]];exact Ye v p g f q fq b c w n j h m E
   rw[show B9 p f ⟨29,a,b,c⟩=Bn f from by simp[B9]];exact Yf v p g f 0 a b c w n j h m
 have G:op=0\/op=1\/op=2\/op=4\/op=6\/op=8\/op=9\/op=10\/op=11\/op=12\/op=13\/op=14\/op=15\/op=16\/op=17\/op=18\/op=19\/op=20\/op=21\/op=22\/op=23\/op=24\/op=25\/op=26\/op=27:=oM
 clear B A s F;rcases G with rfl|rfl|rfl|rfl|rfl|rfl|rfl|rfl|rfl|rfl|rfl|rfl|rfl|rfl|rfl|rfl|rfl|rfl|rfl|rfl|rfl|rfl|rfl|rfl|rfl
 all_goals exact rR v g f _ a b c _ w (by simp[B9,AA])
theorem Oa(v:VP)(p:MP)(g:VF)(f:MF)(x:MI)(w:Y)(n:p.small)(D:p.az.length=3)(u:f.small)(m:Eb w v p)(s:FD w g f)(y:AV p f x):
 Ai Aq 119 #[An #[v.r,v.k,v.f,v.t,g.p,f.cu,g.l,g.c],An #[x.op,x.a,x.b,x.c]] w (DI w (Bg p f x)):=by
 obtain⟨op,a,b,c⟩:=x;have B:=y.1;have A:=y.2.1;simp only[]at B A;have j:=Aw y;by_cases F:op=1\/op=2\/op=4\/op=6\/op=28
 . clear B A y;rcases F with rfl|rfl|rfl|rfl|rfl
   . obtain⟨q,z,d,e⟩:=j.const rfl;simp only[]at d;subst d;rw[show Bg p f ⟨1,q,b,c⟩=[z.type]from by simp[Bg,C5,e]];exact YZ v p g f q z b c w u n m s e
   . obtain⟨q,d,h⟩:=j.local sP;simp only[]at d h;subst d;rw[show Bg p f ⟨2,q,b,c⟩=[AJ f q]from by simp[Bg]];exact Y4 v p g f q (AJ f q) b c w u n m s h
   . obtain⟨q,z,r,d,e,C,h⟩:=j.cell D sP;simp only[]at d e;subst d e;rw[show Bg p f ⟨4,q,z,c⟩=[CU p ⟨4,q,z,c⟩]from by simp[Bg]];exact Y5 v p g f q z r _ c w u n m s C h
   . obtain⟨q,z,r,d,e,C,h⟩:=j.cell D sP;simp only[]at d e;subst d e;rw[show Bg p f ⟨6,q,z,c⟩=[CU p ⟨6,q,z,c⟩]from by simp[Bg]];exact Y6 v p g f q z r _ c w u n m s C h
   obtain⟨q,fq,d,E⟩:=j.callee rfl;simp only[]at d;subst d;rw[show Bg p f ⟨28,q,b,c⟩=Bn fq from by simp[Bg,E]];exact W9 v p g f q fq b c w u n m s E
 have G:op=0\/op=3\/op=5\/op=7\/op=8\/op=9\/op=10\/op=11\/op=12\/op=13\/op=14\/op=15\/op=16\/op=17\/op=18\/op=19\/op=20\/op=21\/op=22\/op=23\/op=24\/op=25\/op=26\/op=27\/op=29:=oM
 clear B A y F;rcases G with rfl|rfl|rfl|rfl|rfl|rfl|rfl|rfl|rfl|rfl|rfl|rfl|rfl|rfl|rfl|rfl|rfl|rfl|rfl|rfl|rfl|rfl|rfl|rfl|rfl
 all_goals exact rn v g f _ a b c _ w (by simp[Bg])
end Go.Proofs.YtkgohaigebcgoaaGreatDoor
