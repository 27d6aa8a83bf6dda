import Derived.Test.YthjbicggfnnonaaGreatDoorCw5
import Derived.Laws.AppendOwn
namespace Go.Proofs.YthjbicggfnnonaaGreatDoor
open Go.ChangeShapes Go.WideShapes Go.ChangeAt Go.RowKit
set_option linter.unusedVariables false
set_option maxHeartbeats 4000000
set_option maxRecDepth 100000
variable {w v U u wr:World}{b k n q c B I L j:Nat}{e:TypeId}{xs:List MI}{a:Option Addr}{x:MI}{V:Value}{z:Int}{m:MB}{D:List (MB×Value)}{bad d:Bool}{α:Type}
theorem Db{base:Nat}{v:Value}{xs:List Value}(h:w.ownsRow base e k v n xs)(d:b<=base):w.ownsRow b e k v n xs:=⟨h.1,h.2.imp id fun⟨g,cap,a,c,f,r⟩=>⟨g,cap,a,c,jX d f,r⟩⟩
theorem Bh{Q:Exit->Act->World->Prop}{a:Act}(P:World->Prop)(h:P U)(k:∀u,P u->Q .normal a u):Q .normal a U:=k U h
theorem Af{W:World}(b:Below W.heap.size W u){a:Addr}{x:Value}(h:W.cell? a=some x):u.cell? a=some x:=by rw[b.cell (d5 h)];exact h
def Ej(xs:List MI)(m:MB):MB:=⟨m.cK,m.last,Et xs (xs.getD m.last.toNat ⟨0,0,0,0⟩) m.last.toNat⟩
def AM(xs:List MI):List MB:=(BQ xs xs.length).map (Ej xs)
structure TW(w u:World)(xs:List MI)(n q:Nat)(V:Value)(D:List (MB×Value)):Prop where
 num:u.ownsRow w.heap.size 2 1 (sG q n n) n ((List.range n).flatMap (Hp xs))
 o:u.ownsRow w.heap.size 216 3 V (BQ xs n).length (D.flatMap Fx++((BQ xs n).drop D.length).flatMap Lm)
 rows:∀x∈D,u.ownsRow w.heap.size 2 1 x.2 x.1.next.length (x.1.next.flatMap Ad)
 done:D.map Prod.fst=((BQ xs n).take D.length).map (Ej xs)
 aC:Below w.heap.size w u
theorem TW.of(h:SW w u xs n n q V):TW w u xs n q V []:=by refine⟨?_,by simpa using h.o,fun x a=>(by cases a),sP,h.aC⟩;have:=h.num;rw[O9 _ _ _ _ sP]at this;exact this
structure NW(wr U:World)(x:MI)(V:Value)(ns:List Int):Prop where
 aC:Below wr.heap.size wr U
 xb:Aw U wr.heap.size #[iZ x.op,iZ x.a,iZ x.b,iZ x.c] 96
 row:U.ownsRow wr.heap.size 2 1 V ns.length (ns.flatMap Ad)
theorem NW.of(wr:World)(x:MI):NW wr ((wr.alloc (.cells #[iZ x.op,iZ x.a,iZ x.b,iZ x.c] 96)).alloc (.cells #[] 2)) x (.slice (some ⟨wr.heap.size+1,0,none⟩) 0 0) []:=by have e:=Aa wr (.cells #[iZ x.op,iZ x.a,iZ x.b,iZ x.c] 96);have g:=Aw.new wr #[iZ x.op,iZ x.a,iZ x.b,iZ x.c] 96;have i:(wr.alloc (.cells #[iZ x.op,iZ x.a,iZ x.b,iZ x.c] 96)).heap.size=wr.heap.size+1:=sP;generalize wr.alloc (.cells #[iZ x.op,iZ x.a,iZ x.b,iZ x.c] 96)=d at e g i⊢;have f:=Aa d (.cells #[] 2);have h:=Aw.new d #[] 2;rw[i]at h;exact⟨Ac e lR f,g.aa f,⟨rfl,.inr ⟨wr.heap.size+1,0,#[],rfl,Nat.le_succ _,h,Nat.le_refl _,lr _,rfl,rfl⟩⟩⟩
theorem NW.drew{a:List Int}(h:NW wr U x V a)(k:Nat):NW wr (U.drewN k) x V a:=⟨⟨h.aC.os,h.aC.tape,h.aC.output,h.aC.size,h.aC.block⟩,h.xb,⟨h.row.1,h.row.2⟩⟩
theorem NW.en{c:World}{V':Value}{b:List Int}{m:Nat}(h:NW wr U x V b)(g:c.ownsRow wr.heap.size 2 1 V' m (b.flatMap Ad++[iZ z]))(f:m=b.length+1)(d:(U.alloc (.cells #[iZ z] 2)).grownBy c V.ownBlock):NW wr c x V' (b++[z]):=by have a:=Aa U (.cells #[iZ z] 2);refine⟨(Ac h.aC lR a).grown d (jX h.aC.size a.size) (fun i e=>(h.row.lt i e).1),(h.xb.aa a).grown d (Ai h.row a lR) dC,?_⟩;rw[f6,jY,<-f,kO];exact g
theorem C8(U:World)(z:Int):∀j u,[(iZ z:Value)][j]?=some u->(U.alloc (.cells #[iZ z] 2)).cell? ((⟨U.heap.size,0,none⟩:Addr).add j)=some u:=fun j u a=>by rw[DF,ki,(Aw.new U #[iZ z] 2).cell j];simpa using a
theorem NW.al{a:List Int}(h:NW wr U x V a)(o:Obj):(U.alloc o).ownsRow wr.heap.size 2 1 V a.length (a.flatMap Ad)/\wr.heap.size<=(U.alloc o).heap.size:=⟨Ai h.row (Aa _ _) lR,jX h.aC.size (Aa _ _).size⟩
theorem TW.next{g len cap:Nat}{e:Nat}{a:Value}{i:List Int}(h:TW w wr xs n q (sG g len cap) D)(u:len=(BQ xs n).length)(v:(BQ xs n)[D.length]?=some m)(t:m.last=(e:Int))(B:xs[e]?=some x)(p:NW wr U x a i)(A:i=Et xs x e):TW w (U.setCell ⟨g,D.length*3+2,none⟩ a) xs n q (sG g len cap) (D++[(Ej xs m,a)]):=by
 subst u;have f:Below wr.heap.size wr U:=p.aC;have d:=Ai h.o f lR;obtain⟨k,l⟩:=d7.1 v;have j:Ej xs m=⟨m.cK,m.last,i⟩:=by unfold Ej;rw[t,A,kJ,kF,B];rfl
 have z:=Db p.row (b:=w.heap.size) h.aC.size;refine⟨CA (Ai h.num f lR) d dC _ _,?_,?_,?_,(Ac h.aC lR f).setCell (AQ d).1 _⟩
 . have r:=(d.stored (D.length*3+2) a).1;(have s:(D.flatMap Fx++((BQ xs n).drop D.length).flatMap Lm).set (D.length*3+2) a=(D++[(Ej xs m,a)]).flatMap Fx++((BQ xs n).drop (D++[(Ej xs m,a)]).length).flatMap Lm:=by rw[my k,l,kG,mR _ _ (by rw[Av Fx 3 BT];omega),Av Fx 3 BT,j];simp[Lm,Fx,List.length_append]);rw[s]at r;exact r
 . intro y c;rcases kB.1 c with c|c
   . exact CA (Ai (h.rows y c) f lR) d dC _ _
   simp only[ka,kr,ly]at c;subst c;simp only[j];exact CA z d dC _ _
 rw[lW,h.done,f6,jY,kQ k,l];simp
theorem TW.rd(h:TW w u xs n q V D)(b:xs.length=n)(a:D.length=(BQ xs n).length):Kv u V (AM xs):=by
 have c:D.map Prod.fst=AM xs:=by rw[h.done,a,lH lR];unfold AM;rw[b]
 have d:(AM xs).length=(BQ xs n).length:=by unfold AM;rw[kZ,b]
 refine⟨D,c,?_,fun x e=>Rd.cB (h.rows x e)⟩;have:=Rd.cB h.o;rw[a,nI lR]at this;rw[d];simpa using this
theorem Cx.refl{b:List Int}(h:FH w B I L a c b k bad):Cx w w B I L a c b k bad:=⟨h,En.refl _ _⟩
theorem Cx.trans{b:List Int}{f:Nat}(h:Cx w u B I L a c b k bad)(e:Cx u v B I L a c b f d):Cx w v B I L a c b f d:=⟨e.at_,h.gH.gP e.gH⟩
theorem Cx.aa{d:List Int}(h:Cx w u B I L a c d k bad)(b:Below u.heap.size u v):Cx w v B I L a c d k bad:=⟨h.at_.aa b,h.gH.gP (En.of b)⟩
theorem Cx.grow{f:List Int}(h:Cx w u B I L a c f k bad){r:Option Nat}(b:u.grownBy v r)(d:∀g,r=some g->w.heap.size<=g)(p:I<w.heap.size):Cx w v B I L a c f k bad:=by have n:=h.at_.hB;have i:=h.at_.lt;refine⟨h.at_.low ⟨b.os,b.tape,b.output,b.size,fun j m=>b.block j oM (fun e=>by have:=d j e.symm;omega)⟩ h.at_.at_ ?_,h.gH.grown b (fun j m e=>by have:=d j e.symm;omega)⟩;have l:=h.at_.cC;unfold Aw at*;rw[b.block I i (fun e=>by have:=d I e.symm;omega)];exact l
theorem Cx.set{b:List Int}(h:Cx w u B I L a c b k bad)(g i:Nat)(x:Value)(f:w.heap.size<=g)(d:I<w.heap.size):Cx w (u.setCell ⟨g,i,none⟩ x) B I L a c b k bad:=h.grow (r:=some g) (by exact Ew ⟨rfl,rfl,rfl,Nat.le_refl _,fun _ _ _=>rfl⟩ i x) (fun j e=>by cases e;exact f) d
theorem Cx.own{g:List Int}(h:Cx u v B I L a c g k bad){N:Nat}(i:I<N){s:Value}{xs:List Value}(d:u.ownsRow N e q s n xs):v.ownsRow N e q s n xs:=h.gH.own d (fun b f e=>by have:=(d.lt b f).1;omega)
theorem SJ{b:List Int}{a:Nat}{c:List Int}(h:A9 (Cz b 1) j k=some (c,a)):a=k+j:=by
 induction j generalizing c a with
 |zero=>simp only[A9,Fc,i4,Prod.mk.injEq]at h;omega
 | succ j d=>
   simp only[A9]at h;cases e:A9 (Cz b 1) j k with
   |none=>rw[AB e]at h;cases h
   | some y=>
     obtain⟨y,f⟩:=y;rw[Cp e]at h;cases e2:Cz b 1 f with
     |none=>rw[AB e2]at h;cases h
     | some z=>obtain⟨z,g⟩:=z;rw[Cp e2]at h;simp only[Fc,i4,Prod.mk.injEq]at h;have:=d e;have:=(Jk e2).1;omega
theorem AZ.next{r:FT α}{m l:Nat}{c:Bool}{n:List α}{x:α}(h:AZ (A9 r j) k bad n m d)(i:AZ r m d x l c):AZ (A9 r (j+1)) k bad (n++[x]) l c:=by
 rcases h with⟨h1,h2,g⟩|⟨h1,h2⟩
 . rcases i with⟨b,a,f⟩|⟨b,a⟩
   . exact .inl ⟨h1,a,Ez g f⟩
   rcases a with a|a
   . rw[h2]at a;cases a
   exact .inr ⟨b,.inr (EE g a)⟩
 rcases i with⟨b,a,f⟩|⟨b,a⟩
 . rw[h1]at b;cases b
 exact .inr ⟨b,h2.imp_right fun e=>Dp e oM⟩
theorem AZ.upto{r:FT α}{d a:Nat}{b:List α}(h:AZ (A9 r j) k bad b a true)(c:j<=d):AZ (A9 r d) k bad b a true:=by
 rcases h with⟨_,h,_⟩|⟨_,h⟩
 . cases h
 exact .inr ⟨rfl,h.imp_right fun e=>Dp e c⟩
theorem DL(w:World)(a:List Value)(t:TypeId):∀j u,a[j]?=some u->(w.alloc (.cells a.toArray t)).cell? ((⟨w.heap.size,0,none⟩:Addr).add j)=some u:=fun j u b=>by rw[DF,ki,(Aw.new w a.toArray t).cell j];simpa using b
theorem F5(B I L:Nat)(a:Option Addr)(c:Nat)(f:List Int)(s:Int)(k:Nat)(bad:Bool)(w:World)(N:0<=s)(h1:s<=1099511627776)(h:FH w B I L a c f k bad):
 Calls Tryz.prog 35 #[.pointer (some ⟨I,0,none⟩),iZ s] w fun e K=>∃(V:Value) (b:List Int) (G:Nat) (z:Bool),e=.returned V/\K.ownsRow w.heap.size 2 1 V b.length (b.flatMap Ad)/\b.length<=1048577/\AZ (A9 (Cz f 1) s.toNat) k bad b G z/\Cx w K B I L a c f G z:=by
 obtain⟨W,O,S,T,U⟩:=kS Co;obtain⟨n,rfl⟩:=i7 N;rw[kJ];have H:=Ag h;have A:=h.lt;have X:=h.ir;clear h;go_enter Tryz.func35,Tryz.ntmps35;go_wp2;go_loopw [5,6] (fun o i wr=>∃(j:Nat) (b:List Int) (p:Nat) (m:Bool),i=iZ j/\j<=n/\b.length<=L+1/\(m=false->b.length<=L)/\Hid (wr.ownsRow w.heap.size 2 1 o b.length (b.flatMap Ad)/\AZ (A9 (Cz f 1) j) k bad b p m/\Cx w wr B I L a c f p m)) (fun _ i _=>n-(intOf i).toNat)
 case atStart=>
  refine⟨0,[],k,bad,rfl,oM,sP,sP,?_,?_,(Cx.refl H.o).aa (Aa _ _)⟩
  . exact ko _ #[] 0 lR oX sP
  cases bad
  . exact .inl ⟨rfl,rfl,rfl⟩
  exact .inr ⟨rfl,.inl rfl⟩
 case round=>
  obtain⟨j,b,p,m,rfl,Y,a8,R,d⟩:=hrel;obtain⟨c0,c1,c2⟩:=Du d.o.2.2.at_.cC;by_cases Z:j<n
  . cases m
    . have hy:=R rfl;go_wp2_with fail;refine(BP B I L a c f 1 p false _ oM oM d.o.2.2.at_).mono ?_;rintro e t ⟨v,y,r,rfl,_,E,x⟩;have l:=Ag (f7 (x.own A d.o.1) (f7 (d.o.2.1.next E) (d.o.2.2.trans x)));have a6:w.heap.size<=t.heap.size:=l.o.2.2.gH.size;have Q:r=false->(b++[v]).length<=L:=fun e=>by
       rcases l.o.2.1 with⟨_,_,q⟩|⟨q,_⟩
       . have:=SJ q;have:=On q;have:=l.o.2.2.at_.at_;omega
       rw[e]at q;cases q
      clear E x c0 c1 c2;go_wp2_with (at_builtin;refine wpList_append_own _ rfl _ _ 58 rfl w.heap.size 2 W (iZ 0) 1 8 Tryz.underlying58 O S T U rfl dC _ _ _ rfl (Ai l.o.1 (Aa _ _) lR) ⟨t.heap.size,0,none⟩ 1 1 (Ad v) rfl rfl (DL t (Ad v) 2) (by intro u F;simp[Ad]at F;subst F;rfl) oX oM oT ?_;intro V' J D C _;have M:Hid (J.ownsRow w.heap.size 2 1 V' (b++[v]).length ((b++[v]).flatMap Ad)/\AZ (A9 (Cz f 1) (j+1)) k bad (b++[v]) y r/\Cx w J B I L a c f y r):=⟨by rw[f6,kO];simpa[Ad]using D,l.o.2.1,(l.o.2.2.aa (Aa _ _)).grow C (fun g e=>((Ai l.o.1 (Aa t (.cells #[iZ v] 2)) lR).lt g e).1) A⟩;clear D C)
      go_roundw;(case rel=>exact⟨j+1,b++[v],y,r,by go_num,oM,oT,Q,M.o⟩);exact oI
    go_wp2;go_ret;exact⟨_,b,p,true,rfl,d.o.1,oM,d.o.2.1.upto oM,d.o.2.2⟩
  have P:n=j:=oM;subst P;go_wp2;all_goals
   go_ret;exact⟨_,b,p,m,rfl,d.o.1,oM,d.o.2.1,d.o.2.2⟩
def DX(c:MC):Prop:=Fk c.type=true/\(c.type=1->c.word<=1)
def Bg(a:List MC):Prop:=a.length<=64/\∀j,j<a.length->∀c,a[j]?=some c->DX c
theorem Dc{q:α->Prop}{xs:List α}{x:α}(h1:xs[k]?=some x)(b:q x)(h:∀j,j<k->∀c,xs[j]?=some c->q c):∀j,j<k+1->∀c,xs[j]?=some c->q c:=by
 intro j d c a;by_cases e:j=k
 . subst e;rw[h1]at a;exact(kH a)▸b
 exact h j oM c a
theorem MQ(v:VP)(p:MP)(w:World)(O:p.small)(h:Ft w v p):
 Calls Tryz.prog 39 #[.agg #[v.r,v.k,v.f,v.t]] w fun e Z=>Au e (Bg p.ag)/\Below w.heap.size w Z:=by
 have L:Hid (Rd w 2 v.k p.ag.length (p.ag.flatMap MC.cells)):=h.ag;have S:=O.ag;obtain⟨y,vk,s,z⟩:=v;obtain⟨B,c1,C⟩:∃a c,vk=.slice a p.ag.length c:=h.ag.bW;subst C;clear h O;have d:Hid (Below w.heap.size w (w.alloc (.cells #[y,.slice B p.ag.length c1,s,z] 29))/\Ep (w.alloc (.cells #[y,.slice B p.ag.length c1,s,z] 29)) w.heap.size y (.slice B p.ag.length c1) s z):=⟨Aa _ _,Ep.new _ _ _ _ _ _⟩
 generalize Q:p.ag=g at*;clear Q;generalize N:g.length=n at S L d;have l:Hid (g.length=n):=N;clear N;go_enter Tryz.func39,Tryz.ntmps39;go_wp2;go_loopw [3] (fun i wr=>∃k:Nat,k<=n/\i=.int .i64 k/\Hid (∀j,j<k->∀c,g[j]?=some c->DX c)/\Hid (Below w.heap.size w wr/\Ep wr w.heap.size y (.slice B n c1) s z)) (fun i _=>n-(intOf i).toNat)
 case atStart=>exact⟨0,oM,rfl,fun j hj=>oM,d⟩
 clear d;obtain⟨k,hk,rfl,H,d⟩:=hrel;obtain⟨V,W,X,Y⟩:=d.o.2;by_cases J:k<n
 . obtain⟨x,D⟩:∃x,g[k]?=some x:=⟨_,an (by rw[l.o];exact J)⟩;rcases L.o.2 with⟨e0,_⟩|⟨b,o,c,C,I⟩
   . omega
   simp only[ip,kU]at C;obtain⟨rfl,rfl⟩:=C;have q:=Rd.elem MC.aK I k x D 0 _ rfl;have K:=Rd.elem MC.aK I k x D 1 _ rfl;rw[<-d.o.1.cell (d5 q),kD]at q;rw[<-d.o.1.cell (d5 K)]at K;have A:Hid (g[k]?=some x):=D;clear I D;have U:¬b=wr.heap.size:=kg (d5 q);have T:b<wr.heap.size:=d5 q;have m:Hid (Below w.heap.size w (wr.alloc (.cells #[.int .i64 x.type,.int .u32 x.word] 63))/\Ep (wr.alloc (.cells #[.int .i64 x.type,.int .u32 x.word] 63)) w.heap.size y (.slice (some ⟨b,o,none⟩) n c1) s z):=⟨Ac d.o.1 lR (Aa _ _),d.o.2.alloc _⟩
   go_wp2_with fail;refine(Ey x.type _).mono ?_;rintro e u ⟨rfl,rfl⟩;clear q K U T V W X Y;cases t1:Fk x.type
   . (have G:Hid (¬Bg g):=fun e=>by have:=(e.2 k (by rw[l.o];exact J) x A.o).1;simp[t1]at this);clear t1;go_wp2;go_ret;exact⟨.no G.o,m.o.1⟩
   have M:Hid (Fk x.type=true):=t1;clear t1;by_cases E:x.type=1
   . rw[E]at m;by_cases q2:1<x.word
     . (have G:Hid (¬Bg g):=fun e=>by have:=(e.2 k (by rw[l.o];exact J) x A.o).2 E;omega);go_wp2;go_ret;exact⟨.no G.o,m.o.1⟩
     have F:Hid (DX x):=⟨M.o,fun _=>oM⟩;go_wp2;go_roundw;(case rel=>exact⟨k+1,oM,by go_num,Dc A.o F.o H.o,m⟩);exact oI
   (have a6:(x.type==1)=false:=by simpa using E);have F:Hid (DX x):=⟨M.o,fun e=>absurd e E⟩;go_wp2;go_roundw;(case rel=>exact⟨k+1,oM,by go_num,Dc A.o F.o H.o,m⟩);exact oI
 have R:n=k:=oM;subst R;have P:Hid (decide ((n:Int)<=64)=true↔Bg g):=by show _↔_;rw[mP];exact⟨fun e=>⟨by rw[l.o];omega,by rw[l.o];exact H.o⟩,fun e=>by have:=e.1;rw[l.o]at this;omega⟩
 go_wp2;go_ret;exact⟨.of P.o,d.o.1⟩
structure ML where
 head:Int
 back:List Int
 blocks:List Int
structure JO where
 code:Int
 at_:Int
 blocks:List MB
 order:List Int
 ej:List Int
 loops:List ML
def Fa(l:List Nat):List Int:=l.map fun(x:Nat)=>(x:Int)
theorem Dl(l:List Nat):(Fa l).length=l.length:=by simp[Fa]
def nx(a:List MB)(b:Nat):List Nat:=match a[b]? with|some m=>m.next.map Int.toNat|none=>[]
def Im(c a:Int):JO:=⟨c,a,[],[],[],[]⟩
def DN(E:Nat->List Nat)(D L:Nat->Nat->Bool)(n j:Nat):List ML:=(List.range j).filterMap fun h=>if BM E D n h=[]then none else some ⟨(h:Int),Fa (BM E D n h),Fa ((List.range n).filter (L h))⟩
inductive Cs (xs:List MI):JO->Prop
 |none:¬BH xs->Cs xs (Im 4 0)
 |off {x:MI}:BH xs->xs[xs.length-1]?=some x->J4 x=true->Cs xs (Im 1 ((xs.length:Int)-1))
 |lost {x:MI} {S O:List Nat} {b:Nat} {m:MB}:BH xs->xs[xs.length-1]?=some x->J4 x=false->Vs (nx (AM xs)) [] [] [0] S O->b<(AM xs).length->b∉S->(∀c,c<b->c∈S)->(AM xs)[b]?=some m->Cs xs (Im 2 m.cK)
 |two {x:MI} {S O:List Nat} {D:Nat->Nat->Bool} {b k t:Nat} {m:MB}:BH xs->xs[xs.length-1]?=some x->J4 x=false->Vs (nx (AM xs)) [] [] [0] S O->(∀c,c<(AM xs).length->c∈S)->(∀d b,D d b=true↔Gc (nx (AM xs)) d b)->IY (nx (AM xs)) (AM xs).length (Tl O D) b k t->(AM xs)[t]?=some m->Cs xs (Im 3 m.cK)
 |good {x:MI} {S O:List Nat} {D L:Nat->Nat->Bool} {I:Nat->Int}:BH xs->xs[xs.length-1]?=some x->J4 x=false->Vs (nx (AM xs)) [] [] [0] S O->(∀c,c<(AM xs).length->c∈S)->(∀d b,D d b=true↔Gc (nx (AM xs)) d b)->(∀b,b<(AM xs).length->∀t∈nx (AM xs) b,¬Tl O D b t)->
  (∀b,b<(AM xs).length->(b=0/\I b=-1)\/b≠0/\∃c:Nat,c<(AM xs).length/\I b=(c:Int)/\G6 (nx (AM xs)) b c)->(∀h y,L h y=true↔IE (nx (AM xs)) D (AM xs).length h y)->
  Cs xs ⟨0,0,AM xs,Fa O.reverse,(List.range (AM xs).length).map I,DN (nx (AM xs)) D L (AM xs).length (AM xs).length⟩
theorem Ic(h:BH xs):0<(AM xs).length:=by unfold AM;rw[kZ,CH];exact m5.2 (KY xs _ h.1)
theorem MV(k:BH xs){e:Nat}(f:(BQ xs xs.length)[b]?=some m)(i:m.last=(e:Int))(d:xs[e]?=some x){p:Int}(a:p∈Kp xs x e):p.toNat∈IW xs xs.length:=by
 have j:e<xs.length:=(d7.1 d).1;rw[DP]at f;unfold Kp at a;rcases kB.1 a with a|a
 . by_cases h:J4 x=true/\e+1<xs.length
   . rw[lI h]at a;simp only[ka,kr,ly]at a;subst a;rw[kJ];exact NJ _ _ _ _ _ f i h.2
   rw[lE h]at a;cases a
 by_cases h:BR x=true/\¬(J4 x=true/\e+1<xs.length/\x.c=((e+1:Nat):Int))
 . rw[lI h]at a;simp only[ka,kr,ly]at a;subst a;obtain⟨h1,h2⟩:=k.2.2 e x d h.1;have g:(x.c.toNat:Int)=x.c:=mj h1;exact(Ef _ _ _).2 ⟨oM,K1 xs _ e _ x j d (by simp[Jf,h.1,g])⟩
 rw[lE h]at a;cases a
theorem OV{L:List Nat}(l:L.Pairwise (· < ·))(c:∀x∈L,x<n)(h:(build L n)[b]?=some m):∃e:Nat,m.last=(e:Int)/\e<n:=by
 unfold build at h;rw[mY]at h;cases h1:L[b]? with
 |none=>rw[h1]at h;simp at h
 | some a=>
   cases h2:(L.tail++[n])[b]? with
   |none=>rw[h1,h2]at h;simp at h
   | some q=>
     rw[h1,h2]at h;simp only[i4]at h;subst h;have j:=c a (d9 h1);have d:a<q/\q<=n:=by
      by_cases k:b<L.tail.length
      . rw[lK k]at h2;have d:=mw (d9 h2);refine⟨?_,mr (c q d)⟩;(have i:L[b+1]?=some q:=by rw[<-h2];cases L<;>simp);obtain⟨p,f⟩:=d7.1 h1;obtain⟨r,g⟩:=d7.1 i;rw[<-f,<-g];exact(mz.1 l) b (b+1) p r oM
      rw[ky oM]at h2;have:=d9 h2;simp only[ka,kr,ly]at this;subst this;exact⟨j,Nat.le_refl _⟩
     exact⟨q-1,oS,oM⟩
theorem SU(h:(BQ xs xs.length)[b]?=some m):∃(e:Nat) (x:MI),m.last=(e:Int)/\xs[e]?=some x:=by rw[DP]at h;obtain⟨e,h1,h2⟩:=OV (GJ _ _) (fun x a=>((Ef _ _ _).1 a).1) h;exact⟨e,_,h1,an h2⟩
theorem IV(d:BH xs)(h:(AM xs)[b]?=some m)(f:z∈m.next):0<=z/\z<((AM xs).length:Int):=by
 unfold AM at h⊢;rw[kh]at h;obtain⟨g,h1,rfl⟩:=lg.1 h;obtain⟨e,x,a,c⟩:=SU h1;have i:(Ej xs g).next=Et xs x e:=by unfold Ej;rw[a,kJ,kF,c];rfl
 rw[i,QZ xs b e x g d h1 a c]at f;obtain⟨p,j,rfl⟩:=lL.1 f;have:=mh.2 (MV d h1 a c j);rw[kZ,CH];omega
theorem T9{a:List MB}(h:a[b]?=some m):nx a b=m.next.map Int.toNat:=by unfold nx;rw[h]
theorem TR(a:BH xs)(h:(AM xs)[b]?=some m):m.next=Fa (nx (AM xs) b):=by
 rw[T9 h];unfold Fa;rw[nT];symm
 rw[mW (g:=id),List.map_id];intro z c;exact mj (IV a h c).1
theorem Qj(d:BH xs):∀b,b<(AM xs).length->∀x∈nx (AM xs) b,x<(AM xs).length:=fun b a x c=>by rw[T9 (an a)]at c;obtain⟨z,e,rfl⟩:=lL.1 c;have:=IV d (an a) e;omega
theorem Gm(a:BH xs):(AM xs).length<=1024:=by unfold AM;rw[kZ,CH];have:=mG (Cq xs xs.length) (List.range xs.length);have h2:=a.2.1;simp only[lO]at this;exact jX this h2
theorem K8(a:List MB)(h:∀m∈a,m.next.length<=2)(b:Nat):(nx a b).length<=2:=by
 unfold nx;cases hb:a[b]? with
 |none=>simp
 |some m=>simpa using h m (d9 hb)
theorem Ii(xs:List MI):∀m∈AM xs,m.next.length<=2:=by intro f a;unfold AM at a;obtain⟨m,_,rfl⟩:=lL.1 a;simp only[Ej,Et];split<;>split<;>simp
theorem Cs.one{r n:JO}(h:Cs xs r)(e:Cs xs n):r=n:=by
 have j:∀{E:Nat->List Nat} {D l:Nat->Nat->Bool},(∀d b,D d b=true↔Gc E d b)->(∀d b,l d b=true↔Gc E d b)->D=l:=fun h1 h2=>by
  funext d b
  rw[nG,h1,h2]
 cases h with
 | none g=>
   cases e with
   |none _=>rfl
   |_ a=>exact absurd a g
 | off g x1 o1=>
   cases e with
   |none a=>exact absurd g a
   |off _ _ _=>rfl
   | lost _ x2 o2|two _ x2 o2|good _ x2 o2=>rw[x1]at x2;(cases x2);rw[o1]at o2;cases o2
 | @lost _ _ _ b m g x1 o1 v1 b1 n1 l1 m1=>
   cases e with
   |none a=>exact absurd g a
   | off _ x2 o2=>rw[x1]at x2;(cases x2);rw[o1]at o2;cases o2
   | @lost _ _ _ b' m' _ x2 o2 v2 b2 n2 l2 m2=>
     obtain⟨rfl,rfl⟩:=v1.one v2;have:b=b':=by
      rcases Nat.lt_trichotomy b b' with q|q|q
      . exact absurd (l2 _ q) n1
      . exact q
      exact absurd (l1 _ q) n2
     subst this;rw[m1]at m2;(cases m2);rfl
   | two _ _ _ v2 s2|good _ _ _ v2 s2=>obtain⟨rfl,rfl⟩:=v1.one v2;exact absurd (s2 _ b1) n1
 | two g x1 o1 v1 s1 d1 f1 m1=>
   cases e with
   |none a=>exact absurd g a
   | off _ x2 o2=>rw[x1]at x2;(cases x2);rw[o1]at o2;cases o2
   | lost _ _ _ v2 b2 n2=>obtain⟨rfl,rfl⟩:=v1.one v2;exact absurd (s1 _ b2) n2
   | two _ _ _ v2 _ d2 f2 m2=>obtain⟨rfl,rfl⟩:=v1.one v2;obtain rfl:=j d1 d2;obtain rfl:=f1.one f2;rw[m1]at m2;(cases m2);rfl
   | good _ _ _ v2 _ d2 f2=>obtain⟨rfl,rfl⟩:=v1.one v2;obtain rfl:=j d1 d2;exact absurd f1.is (f2 _ f1.lt _ (d9 f1.at_))
 | good g x1 o1 v1 s1 d1 f1 i1 l1=>
   cases e with
   |none a=>exact absurd g a
   | off _ x2 o2=>rw[x1]at x2;(cases x2);rw[o1]at o2;cases o2
   | lost _ _ _ v2 b2 n2=>obtain⟨rfl,rfl⟩:=v1.one v2;exact absurd (s1 _ b2) n2
   | two _ _ _ v2 _ d2 f2 m2=>obtain⟨rfl,rfl⟩:=v1.one v2;obtain rfl:=j d1 d2;exact absurd f2.is (f1 _ f2.lt _ (d9 f2.at_))
   | good _ _ _ v2 _ d2 f2 i2 l2=>
     obtain⟨rfl,rfl⟩:=v1.one v2;obtain rfl:=j d1 d2;(have w:=fun h y=>nG.2 ((l1 h y).trans (l2 h y).symm));(obtain rfl:=funext fun h=>funext (w h));obtain⟨x,_⟩:=FQ (Ic g) (Qj g) v1 s1;(congr 1);apply mW;intro b f;have f:=mD.1 f;rcases i1 b f with⟨k,u⟩|⟨k,c,c1,c2,c3⟩
     . rcases i2 b f with⟨_,v⟩|⟨i,_⟩
       . rw[u,v]
       exact absurd k i
     rcases i2 b f with⟨i,_⟩|⟨i,c',p,s,t⟩
     . exact absurd i k
     rw[c2,s,c3.one x c1 p t]
end Go.Proofs.YthjbicggfnnonaaGreatDoor
