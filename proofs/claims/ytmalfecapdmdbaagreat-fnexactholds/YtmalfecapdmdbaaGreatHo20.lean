import Derived.Test.YtmalfecapdmdbaaGreatHo18
import Derived.Test.YtmalfecapdmdbaaGreatHo15
namespace Go.Proofs.YtmalfecapdmdbaaGreat
open Go.ChangeShapes Go.WideShapes Go.ChangeAt Go.RowKit Go.Proofs.Tryz
set_option linter.unusedVariables false
open Option renaming some → K,none → M
open Go renaming Value → J,World → Y,TypeId → Aj,Calls → Ai
open Go.IntKind renaming i64 → Af
open Go.Value renaming int → Ag,slice → Z,bool → An,agg → Am
open Go.RowKit renaming Below → Ah,Hid → Ae
open Go.World renaming setCell → Aa,ownsRow → Ab,alloc → Ac
open List renaming flatMap → Ad
open Go.Obj renaming cells → Ak
open Go.Ending renaming returned → Al
open Go.Proofs.Tryz renaming prog → Ap
set_option maxHeartbeats 8000000
set_option maxRecDepth 100000
variable {p:MP}{f:MF}{x:MI}{w u:Y}{b G n B g k c i bd base q:Nat}{bad:Bool}{I:List Nat}{C zs:List Int}{e d:Aj}{xs:List J}{z V s:J}{v:VP}{fs:List MF}{nxt:Int}{D:DataW Unit}
theorem Ww:AV 8=5/\AV 9=5/\AV 10=5/\AV 11=5/\AV 12=5/\AV 13=6/\AV 14=6/\AV 15=6/\AV 16=6/\AV 20=7/\AV 21=5/\AV 22=8:=by decide+kernel
theorem AS.type(h:AS p f x)(e:(8<=x.op/\x.op<=16)\/x.op=20\/x.op=21):Ec x.a=true:=by
 obtain⟨_,_,h⟩:=h;have c:AV x.op=5\/AV x.op=6\/AV x.op=7:=by
  have b:x.op=8\/x.op=9\/x.op=10\/x.op=11\/x.op=12\/x.op=13\/x.op=14\/x.op=15\/x.op=16\/x.op=20\/x.op=21:=oM
  obtain⟨d,g,i,j,k,l,m,n,q,r,s,t⟩:=Ww;rcases b with e|e|e|e|e|e|e|e|e|e|e<;>rw[e]<;>omega
 unfold BA Bz at h;rcases h with h|h|h|h|h|h|h|h|h|h<;>first|(exfalso;omega)|(rcases h.1 with h|h|h<;>first|exact h.2|(rcases h.2 with e|e<;>rw[e]<;>rfl))
theorem AS.conv(h:AS p f x)(e:x.op=22):Ec x.a=true/\Ec x.b=true:=by
 obtain⟨_,_,h⟩:=h;have c:AV x.op=8:=by rw[e];exact Ww.2.2.2.2.2.2.2.2.2.2.2
 unfold BA Bz at h;rcases h with h|h|h|h|h|h|h|h|h|h<;>first|(exfalso;omega)|exact⟨h.2.1,h.2.2.1⟩
theorem AS.kd(h:AS p f x)(e:x.op=2):AN f x.a≠0:= λc=>by
 have b:=h.2.2;have d:AV x.op=2:=by rw[e];exact GH.2.1
 unfold BA Bz at b;rcases b with h|h|h|h|h|h|h|h|h|h<;>first|(exfalso;omega)|exact h.2.1 c
theorem Lh(D:A4 p 0)(d:AS p f x):(∀t∈AF p f x,t=0->0<(AG p f x).length)/\(AF p f x).length<=2:=by
 have i:=D.parts;have one:∀t:Int,t≠0->(∀u∈[t],u=0->0<(AG p f x).length)/\[t].length<=2:= λt g=>⟨λu A e=>by simp only[ld]at A;exact absurd (A.symm.trans e) g,sP⟩
 unfold AF;by_cases c1:x.op=1
 . rw[kZ c1];obtain⟨q,z,c,b⟩:=d.const c1;have C:=i.2.1.2 q (i6.1 b).1 z b;(have h:Xx p.ej x.a.toNat=z:=by unfold Xx;rw[c,kA,b];rfl);rw[h];exact one _ (Ft C.1)
 rw[kP c1];by_cases c2:x.op=2
 . rw[kZ c2];exact one _ (d.kd c2)
 rw[kP c2];by_cases c4:x.op=4\/x.op=6
 . rw[kZ c4];obtain⟨q,z,r,c,b,h,B⟩:=d.cell i.1.1 oM;have:=(i.1.2 q (i6.1 h).1 r h).2;exact one _ (Ft (nV.1 this _ (i7 B)))
 rw[kP c4];by_cases y:8<=x.op/\x.op<=16
 . rw[kZ y];exact one _ (Ft (d.type oM))
 rw[kP y];by_cases n:x.op=17\/x.op=18
 . rw[kZ n];exact one _ dC
 rw[kP n];by_cases s:x.op=19
 . rw[kZ s];exact one _ dC
 rw[kP s];by_cases v:x.op=20\/x.op=21
 . rw[kZ v];exact one _ dC
 rw[kP v];by_cases j:x.op=22
 . rw[kZ j];exact one _ (Ft (d.conv j).2)
 rw[kP j];by_cases w:x.op=23
 . rw[kZ w];(have c:AG p f x=[0]:=by unfold AG;rw[kP oM,kP oM,kP oM,kP oM,kP oM,kP oM,kP oM,kP oM,kZ oM]);rw[c];exact⟨λ_ _ _=>sP,sP⟩
 rw[kP w];by_cases k:x.op=28
 . rw[kZ k];obtain⟨q,l,c,b⟩:=d.callee k;have E:CE l:=i.2.2.1.2.2.1 q (i6.1 b).1 l b;rw[c,kA,b];simp only[];unfold A7;by_cases m:l.gy=0
   . rw[kZ m];exact⟨λt g=>(by cases g),sP⟩
   rw[kP m];exact one _ m
 rw[kP k];exact⟨λt g=>(by cases g),sP⟩
theorem Ua(D:A4 p 0)(c:AS p f x):∀t∈AF p f x,t=0->x.op=23:=by
 have i:=D.parts;have one:∀t:Int,t≠0->(∀u∈[t],u=0->x.op=23):= λt d u A e=>by simp only[ld]at A;exact absurd (A.symm.trans e) d
 unfold AF;by_cases c1:x.op=1
 . rw[kZ c1];obtain⟨q,z,g,b⟩:=c.const c1;have C:=i.2.1.2 q (i6.1 b).1 z b;(have h:Xx p.ej x.a.toNat=z:=by unfold Xx;rw[g,kA,b];rfl);rw[h];exact one _ (Ft C.1)
 rw[kP c1];by_cases c2:x.op=2
 . rw[kZ c2];exact one _ (c.kd c2)
 rw[kP c2];by_cases c4:x.op=4\/x.op=6
 . rw[kZ c4];obtain⟨q,z,r,g,b,h,B⟩:=c.cell i.1.1 oM;have:=(i.1.2 q (i6.1 h).1 r h).2;exact one _ (Ft (nV.1 this _ (i7 B)))
 rw[kP c4];by_cases y:8<=x.op/\x.op<=16
 . rw[kZ y];exact one _ (Ft (c.type oM))
 rw[kP y];by_cases s:x.op=17\/x.op=18
 . rw[kZ s];exact one _ dC
 rw[kP s];by_cases v:x.op=19
 . rw[kZ v];exact one _ dC
 rw[kP v];by_cases w:x.op=20\/x.op=21
 . rw[kZ w];exact one _ dC
 rw[kP w];by_cases j:x.op=22
 . rw[kZ j];exact one _ (Ft (c.conv j).2)
 rw[kP j];by_cases k:x.op=23
 . rw[kZ k];exact λ_ _ _=>k
 rw[kP k];by_cases l:x.op=28
 . rw[kZ l];obtain⟨q,m,g,b⟩:=c.callee l;have E:CE m:=i.2.2.1.2.2.1 q (i6.1 b).1 m b;rw[g,kA,b];simp only[];unfold A7;by_cases n:m.gy=0
   . rw[kZ n];exact λt d=>(by cases d)
   rw[kP n];exact one _ n
 rw[kP l];exact λt d=>(by cases d)
structure GV where
 fc:Int
 fa:Int
 gb:Nat
 ob:Nat
 cb:Nat
 go:Nat
 oo:Nat
 co:Nat
 vi:J
 vl:J
 gi:Nat
 ci:Nat
 gc:Nat
 cc:Nat
def Ew(x:Int):Prop:=0<=x/\x<=4294967295
structure Gr(w u:Y)(G n:Nat)(x:GV)(bad:Bool)(I:List Nat)(C:List Int):Prop where
 gK:AC u G #[x.fc,x.fa,sO x.gb x.ob n x.cb,sO x.go x.oo n x.co,x.vi,x.vl,sG x.gi n x.ci,sG x.gc n x.cc,bad] 139
 lo: ↑w<=G
 ia:Ab u w 2 1 (sG x.gi n x.ci) n (nv I)
 cost:Ab u w 2 1 (sG x.gc n x.cc) n (Ad As C)
 ne:x.gi≠x.gc
 e8:Ah w w u
 il: ↑I=n
 ib:∀y∈I,y<n
 cl: ↑C=n
 cb:∀y∈C,Ew y
structure GF(w:Y)(n:Nat)(x:GV)(E:Nat->List Nat)(O:List Nat):Prop where
 gr:Km w x.gb x.ob n E
 ord:∀k y:Nat,O[k]?=K y->w ⟨x.go,x.oo+k,M⟩=K ↑(y:Int)
 ol: ↑O=n
 ob:∀y∈O,y<n
 eb:∀b,b<n->∀y∈E b,y<n
 sz:∀b,(E b).length<=2
theorem Gr.a7{b:Y}{x:GV}(h:Gr w u G n x bad I C)(a:Ah u u b):Gr w b G n x bad I C:={h with gK:=h.gK.a7 a,ia:=Aw h.ia a lR,cost:=Aw h.cost a lR,e8:=Ar h.e8 lR a}
theorem Gr.iW{x:GV}(h:Gr w u G n x bad I C):x.gi≠G/\x.gc≠G:=by
 obtain⟨_,c1,b⟩:=AD h.ia;obtain⟨_,c2,c⟩:=AD h.cost;have a:=h.gK;unfold AC at a;constructor
 . intro e;rw[e,a]at b;cases b
 intro e;rw[e,a]at c;cases c
theorem Bn(h:Ab u B e k (sG g n c) n xs)(d:g≠b):Ab (Aa u ⟨b,i,M⟩ z) B e k (sG g n c) n xs:=kN h (a:=⟨b,i,M⟩) (λe=>d (by simpa[Value.ownBlock]using e)) z
theorem Gr.im{x:GV}(h:Gr w u G n x bad I C):Gr w (Aa u ⟨G,8,M⟩ true) G n x true I C:={h with gK:=by have:=h.gK.set 8 true;simpa using this,ia:=Bn h.ia h.iW.1,cost:=Bn h.cost h.iW.2,e8:=h.e8.setCell h.lo _}
theorem Gr.other{x:GV}(h:Gr w u G n x bad I C)(f: ↑w<=g)(b:g≠G)(c:g≠x.gi)(d:g≠x.gc):Gr w (Aa u ⟨g,i,M⟩ z) G n x bad I C:={h with gK:=h.gK.other (a:=⟨g,i,M⟩) (λe=>b e.symm) _,ia:=Bn h.ia c.symm,cost:=Bn h.cost d.symm,e8:=h.e8.setCell f _}
theorem Gr.cells{x:GV}(h:Gr w u G n x bad I C):u ⟨G,2,M⟩=K (sO x.gb x.ob n x.cb)/\u ⟨G,3,M⟩=K (sO x.go x.oo n x.co)/\u ⟨G,6,M⟩=K (sG x.gi n x.ci)/\u ⟨G,7,M⟩=K (sG x.gc n x.cc)/\u ⟨G,8,M⟩=K ↑bad/\u.frozen? ⟨G,8,M⟩=false:=⟨by rw[h.gK.cell];rfl,by rw[h.gK.cell];rfl,by rw[h.gK.cell];rfl,by rw[h.gK.cell];rfl,by rw[h.gK.cell];rfl,h.gK.frozen 8⟩
theorem Gr.iM{x:GV}(h:Gr w u G n x bad I C)(c:b<n):∃y,I[b]?=K y/\y<n/\u ⟨x.gi,b,M⟩=K ↑(y:Int):=by
 have a:b<I.length:=by rw[h.il];exact c
 have:=lj h.ia b oM;rw[Ng (an a)]at this;exact⟨_,an a,h.ib _ (mN a),this⟩
theorem Db{y:Int}(h:C[b]?=K y):(Ad As C)[b]?=K ↑y:=by
 have:Ad As C=C.map (Ag Af):=by
  induction C generalizing b with
  |nil=>rfl
  | cons x r a=>
    have:List.flatMap As r=List.map (Ag Af) r:=by
     clear a h;induction r with
     |nil=>rfl
     |cons x r a=>rw[lD,a];rfl
    rw[lD,this];rfl
 rw[this,lE,h];rfl
theorem Gr.iL{x:GV}(h:Gr w u G n x bad I C)(c:b<n):∃y,C[b]?=K y/\Ew y/\u ⟨x.gc,b,M⟩=K (iZ y):=by
 have a:b<C.length:=by rw[h.cl];exact c
 have:=lj h.cost b oM;rw[Db (an a)]at this;exact⟨_,an a,h.cb _ (mN a),this⟩
theorem GF.at_{x:GV}{E:Nat->List Nat}{O:List Nat}(h:GF w n x E O)(a:Ah w w u):(∀k,k<n->∃y:Nat,y<n/\u ⟨x.go,x.oo+k,M⟩=K ↑y)/\Km u x.gb x.ob n E:=⟨λk b=>⟨O[k]'(by rw[h.ol];exact b),h.ob _ (mN _),Au a (h.ord k _ (an _))⟩,h.gr.a7 a⟩
def Wd:J->Nat
 |.slice _ n _=>n
 |_=>0
def Jc(zs:List Int)(n:Nat):List J:=(List.range n).map λ(i:Nat)=>Value.bool (zs.contains (i:Int))
theorem EU(zs:List Int)(n:Nat):(Jc zs n).length=n:=by simp[Jc]
theorem F5(zs:List Int)(n i:Nat)(h:i<n):(Jc zs n)[i]?=K ↑(zs.contains (i:Int)):=by simp[Jc,h]
theorem S7(n:Nat):List.replicate n (Value.bool false)=Jc [] n:=by
 apply mP;intro j;by_cases a:j<n
 . rw[F5 _ _ _ a];simp[a]
 rw[kW oT,kW (by rw[EU];omega)]
theorem S8(zs:List Int)(n i:Nat)(h:i<n):(Jc zs n).set i true=Jc (zs++[(i:Int)]) n:=by
 apply mP;intro j;by_cases a:j<n
 . rw[F5 _ _ _ a];by_cases e:j=i
   . subst e;rw[mZ (by rw[EU];exact h)];simp
   rw[mr oM,F5 _ _ _ a];have:¬(j:Int)=(i:Int):=oM;simp[this]
 rw[kW (by simp[EU];omega),kW (by rw[EU];omega)]
def Ky(zs:List Int)(b:List MI)(k:Nat):Bool:=(b.take k).all λx=> !decide (x.op=28)||zs.contains x.a
theorem LF(fs:List MF)(zs:List Int)(i:Nat)(f:MF)(a:fs[i]?=K f):CP fs zs i=(!zs.contains (i:Int)&&Ky zs f.eC f.eC):=by
 unfold CP Ky FD;rw[a,k8 lR];congr 1
 simp only[List.all_map,List.all_filter,Function.comp_def]
theorem Nh(zs:List Int)(b:List MI)(k:Nat)(x:MI)(d:b[k]?=K x):Ky zs b (k+1)=(Ky zs b k&&(!decide (x.op=28)||zs.contains x.a)):=by obtain⟨c,rfl⟩:=i6.1 d;unfold Ky;rw[kU c,List.all_append];simp
theorem Rx(zs:List Int)(a:List MI)(k:Nat)(h:Ky zs a k=false):Ky zs a a=false:=by unfold Ky at*;rw[k8 lR];rw[List.all_eq_false]at*;obtain⟨x,c,b⟩:=h;exact⟨x,List.mem_of_mem_take c,b⟩
theorem Ru(n:Nat):(madeCells (Value.bool false).cells (n*1)).toList=List.replicate n (An false):=by rw[Cb (λb:Bool=>[b]) [false] [] n false 1 rfl rfl oM];simp[Bu,List.flatten_replicate_singleton]
structure CW(w u:Y)(v:VP)(n bd:Nat)(V:J)(zs:List Int):Prop where
 pb:CX u w v.r v.k v.f v.t
 done:Ab u w 4 1 (Z bd n n) n (Jc zs n)
 o:Ab u ((w:Nat)+1) 2 1 V zs (Ad As zs)
 e8:Ah w w u
theorem CW.a7{b:Y}(h:CW w u v n bd V zs)(a:Ah u u b):CW w b v n bd V zs:=⟨h.pb.a7 a,Aw h.done a lR,Aw h.o a lR,Ar h.e8 lR a⟩
def NR(p:MP)(zs:List Int):Prop:=(A4 p 0/\zs=BT p.bW)\/(¬A4 p 0/\zs=[])
theorem G9(h:A4 p 0):Bj p.bW/\CD p:=by
 rcases h with h|h|h|h|h|h
 . exact absurd h.1 dC
 . exact absurd h.1 dC
 . exact absurd h.1 dC
 . exact absurd h.1 dC
 . exact absurd h.1 dC
 exact⟨h.2.2.2.1,h.2.2.2.2.1⟩
def Ik(fs:List MF)(zs:List Int)(n j:Nat)(nxt:Int):Prop:=(nxt=-1/\∀k,j<=k->k<n->CP fs zs k=false)\/∃q:Nat,nxt=(q:Int)/\j<=q/\q<n/\CP fs zs q=true/\∀k,j<=k->k<q->CP fs zs k=false
theorem Ik.gY(h:Ik fs zs n (b+1) nxt)(a:b<n)(c:CP fs zs b=true):Ik fs zs n b (b:Int):=.inr ⟨b,rfl,Nat.le_refl _,a,c, λk d e=>oM⟩
theorem Ik.no(h:Ik fs zs n (b+1) nxt)(f:CP fs zs b=false):Ik fs zs n b nxt:=by
 rcases h with⟨a,d⟩|⟨q,a,d,g,i,j⟩
 . refine .inl ⟨a, λk l c=> ?_⟩;by_cases e:k=b
   . subst e;exact f
   exact d k oM c
 refine .inr ⟨q,a,oM,g,i, λk l c=> ?_⟩;by_cases e:k=b
 . subst e;exact f
 exact j k oM c
theorem Ek(b:Ah w w u){a:Addr}{x:J}(h:w a=K x):u a=K x:=by rw[b.cell (hC h)];exact h
structure OS(w u:Y)(v:VP)(n bd:Nat)(V:J)(zs:List Int)(q:Nat):Prop where
 pb:CX u w v.r v.k v.f v.t
 done:Ab u w 4 1 (sG bd n n) n (Jc (zs++[(q:Int)]) n)
 o:Ab u ((w:Nat)+1) 2 1 V zs (Ad As zs)
 e8:Ah w w u
 far: ↑w<bd
theorem UC(h:Ab w base e k (sG g n c) n xs):base<=g/\∃a,w.heap[g]?=K (Obj.cells a e (0,0)):=by
 rcases h.2 with⟨b,_⟩|⟨j,i,a,b,d,f,_⟩
 . cases b
 cases b
 exact⟨d,a,f⟩
theorem RG{j r f:Nat}{t:List J}(h:Ab u B e k s n xs)(l:Ab u j d r (sG g f c) f t)(p:e≠d)(i:Nat)(z:J):Ab (Aa u ⟨g,i,M⟩ z) B e k s n xs:=by
 obtain⟨_,w,m⟩:=UC l;refine kN h (a:=⟨g,i,M⟩) (λq=> ?_) z;rcases h.2 with⟨rfl,_⟩|⟨y,v,x,rfl,_,b,_⟩
 . cases q
 simp only[Value.ownBlock,kI]at q;subst q;rw[m]at b;simp only[kI,mg]at b;exact p b.2.1.symm
theorem RE{f:Y}{v:J}{x m:Nat}{i:List J}(h:Ab w base e k s n xs)(q:w.grownBy f v.ownBlock)(t:Ab w B d x v m i)(r:e≠d):Ab f base e k s n xs:=by
 refine⟨h.1,?_⟩;rcases h.2 with h|⟨g,cap,j,l,p,b,u⟩
 . exact .inl h
 refine .inr ⟨g,cap,j,l,p,?_,u⟩;rw[q.block g (kM.1 b).1 ?_]
 . exact b
 intro c;rcases t.2 with⟨rfl,_⟩|⟨A,y,z,rfl,_,a,_⟩
 . cases c
 simp only[Value.ownBlock,kI]at c;subst c;rw[b]at a;simp only[kI,mg]at a;exact r a.2.1
theorem Nk(U:Y)(z:Int):∀j u,[(iZ z:J)][j]?=K u->(Ac U (Ak #[z] 2)) ((⟨U,0,M⟩:Addr).add j)=K u:= λj u a=>by rw[Dk,lM,(AC.new U #[z] 2).cell j];simpa using a
theorem CX.iD{x y t:J}(h:CX u b x y z t)(d:b≠g):CX (Aa u ⟨g,i,M⟩ V) b x y z t:=by
 have k:∀(j:Nat) (a:J),u ⟨b,j,M⟩=K a->(Aa u ⟨g,i,M⟩ V) ⟨b,j,M⟩=K a:= λj a c=>by have:=lY u ⟨g,i,M⟩ b V d;unfold World.cell? at*;rw[this];exact c
 exact⟨k 0 _ h.c0,k 1 _ h.c1,k 2 _ h.c2,k 3 _ h.c3⟩
theorem OS.of(h:CW w u v n bd V zs)(b:q<n)(a: ↑w<bd):OS w (Aa u ⟨bd,q,M⟩ true) v n bd V zs q:=by refine⟨h.pb.iD oM,?_,RG h.o h.done dC q _,h.e8.setCell oS _,a⟩;have:=(h.done.stored q true).1;rw[S8 zs n q b]at this;exact this
theorem OS.al(h:OS w u v n bd V zs q)(o:Obj):Ab (u.alloc o) ((w:Nat)+1) 2 1 V zs (Ad As zs)/\ ↑w+1<=(u.alloc o).heap.size:=⟨Aw h.o (Aq _ _) lR,kV h.pb.lt (Aq _ _).size⟩
theorem OS.next{c:Y}{V':J}(h:OS w u v n bd V zs q)(p:Ab c ((w:Nat)+1) 2 1 V' (zs.length+1) (Ad As zs++[iZ (q:Int)]))(d:(Ac u (Ak #[iZ (q:Int)] 2)).grownBy c V.ownBlock):CW w c v n bd V' (zs++[(q:Int)]):=by
 have b:=Aq u (Ak #[q] 2);have r:=Aw h.o b lR;refine⟨?_,RE (Aw h.done b lR) d r dC,?_,(Ar h.e8 lR b).grown d (kV h.e8.size b.size) (λi m=>by have:=(h.o.lt i m).1;omega)⟩
 . (have k:∀(j:Nat) (a:J),u ⟨w,j,M⟩=K a->c ⟨w,j,M⟩=K a:= λj a l=>by have f:=Au b l;have g:=d.block w (lq h.pb.lt b.size) (λe=>by have:=(h.o.lt _ e.symm).1;omega);unfold World.cell? at*;rw[g];exact f);exact⟨k 0 _ h.pb.c0,k 1 _ h.pb.c1,k 2 _ h.pb.c2,k 3 _ h.pb.c3⟩
 . rw[kE,kK,lL];exact p
theorem MO (v :VP)(p:MP)(w:Y)(hs:p.small)(hw:p.wf)(h:Da w v p):
 Ai Ap 16 #[Am #[v.r,v.k,v.f,v.t]] w λe w'=>∃V zs,e=Al V/\Rd w' 1 V zs.length (zs.flatMap As)/\NR p zs/\Ah w.heap.size w w':=by
 obtain⟨j0,R,bB,bC,bF⟩:=lS Em;obtain⟨k0,hk,bt,bu,bx⟩:=lS Bp;have H:=Av (d5 hs (d5 hw h));have X:Ae (CX (Ac (Ac w (Ak #[v.r,v.k,v.f,v.t] 36)) (Ak #[] 2)) w v.r v.k v.f v.t/\AC (Ac (Ac w (Ak #[v.r,v.k,v.f,v.t] 36)) (Ak #[] 2)) ((w:Nat)+1) #[] 2/\Ah w w (Ac (Ac w (Ak #[v.r,v.k,v.f,v.t] 36)) (Ak #[] 2))):=by refine⟨(CX.new w _ _ _ _ _).alloc _,?_,Ar (Aq _ _) lR (Aq _ _)⟩;have:=AC.new (Ac w (Ak #[v.r,v.k,v.f,v.t] 36)) #[] 2;simpa using this
 go_enter func16,ntmps16;go_wp2_with fail;refine(Dj v p _ H.o.1 H.o.2.1 (H.o.2.2.a7 X.o.2.2 lR)).mono ?_;rintro e u1 ⟨⟨nf,rfl,aS⟩,b1⟩;have m:=Av (d5 (X.o.1.a7 b1) (d5 (X.o.2.1.a7 b1) (Ar X.o.2.2 lR b1)));by_cases q0:nf=0
 . subst q0;have I:=Av aS;obtain⟨ys,bG,aT,bi⟩:=H.o.2.2.bW;obtain⟨C,B,vf,D⟩:=v;obtain⟨af,cf,ef⟩:∃a c,vf=Z a p.bW c:=aT.dk;subst ef;have bj:=(G9 I.o).1.2.1;have aR:=(G9 I.o).1.1;have L:=Av (d5 bG (d5 aT bi));generalize b7:p.bW.length=n at bj aR L m;have N:=Av b7;obtain⟨gf,of,rfl,aW⟩:∃gf of,af=K ⟨gf,of,M⟩/\Ae (∀j u,(Ad Ch ys)[j]?=K u->w ⟨gf,of+j,M⟩=K u):=by
    rcases L.o.2.1.2 with⟨e0,_⟩|⟨gf,of,c',Q,G⟩
    . exact absurd e0 aR
    simp only[i8,lB]at Q;exact⟨gf,of,Q.1,G⟩
   obtain⟨p0,p1,p2,p3⟩:=m.o.1;go_wp2_with (at_make;refine l8 _ rfl _ _ 67 rfl w 4 j0 false 1 underlying67 R bB bC Af Af _ _ n rfl rfl rfl rfl (by rw[bF];omega) oX m.o.2.2.size ?_;intro w3 S ae;rw[Ru,S7]at S);(have aI:Ae (CW w w3 ⟨C,B,sO gf of n cf,D⟩ n u1 (Z (K ⟨(w:Nat)+1,0,M⟩) 0 0) []):=by have au:Ah u1 u1 w3:=(kS _ _).grown ae lR (λk hk=>by cases hk);exact⟨m.o.1.a7 au,S,⟨rfl,.inr ⟨(w:Nat)+1,0,#[],rfl,Nat.le_refl _,m.o.2.1.a7 au,Nat.le_refl _,mz _,rfl,rfl⟩⟩,Ar m.o.2.2 lR au⟩);have aU:=Av m.o.1.lt;have aH:=Av aU.o;generalize u1.heap.size=bd at aI aH⊢;go_wp2;go_loopw [3] (λV wr=>∃zs:List Int, ↑zs<=n/\(∃a c,V=Z a zs c)/\Ae (CW w wr ⟨C,B,sO gf of n cf,D⟩ n bd V zs/\Cx p.bW (n-↑zs) zs=BT p.bW)) (λV _=>n-Wd V)
   (case atStart=>exact⟨[],sP,⟨_,_,rfl⟩,⟨aI.o,by unfold BT;rw[N.o];rfl⟩⟩);obtain⟨zs,bV,⟨aV,cV,rfl⟩,E⟩:=hrel;by_cases bQ: ↑zs<n
   . have bR :(zs:Int)<(n:Int):=oM;go_wp2;go_loopw [6,7] (λnx i wr=>∃(j:Nat) (nxt:Int),j<=n/\nx=iZ nxt/\i=iZ ((j:Int)-1)/\Ae (Ik p.bW zs n j nxt/\CW w wr ⟨C,B,sO gf of n cf,D⟩ n bd (Z aV zs cV) zs)) (λ_ i _=>(intOf i+1).toNat)
     (case atStart=>exact⟨n,-1,Nat.le_refl _,rfl,rfl,⟨.inl ⟨rfl, λk h1 h2=>oM⟩,E.o.1⟩⟩);obtain⟨j,nxt,bK,rfl,rfl,g⟩:=hrel;cases j with
     | succ b =>
       rw[show(((b+1:Nat):Int)-1)=(b:Int)from oM];obtain⟨⟨f,z⟩,hy⟩:∃y,ys[b]?=K y:=⟨_,an (by have:=congrArg List.length L.o.1;rw[lC,N.o]at this;omega)⟩;have aP:=Bo L.o.1 hy;have aG:=L.o.2.2 _ (i7 hy);simp only[]at aG;obtain⟨zp,zl,zc⟩:=z;obtain⟨ac,cc,ec⟩:∃a c,zc=Z a f.eC c:=aG.2.2.dk;subst ec;have F:=Av (d5 aG (d5 (H.o.1.func f (i7 aP)) aP));have bJ:f.eC.length<=1048576:=F.o.2.1.2.2;have i3:=Rd.elem Ay aW.o b _ hy 3 _ rfl;have aX:=Av i3;have P:=g.o.2.done.cellAt b oM;rw[F5 _ _ _ oM]at P;obtain⟨cb,aA⟩:∃cb,cb=zs.contains (b:Int):=⟨_,rfl⟩;rw[<-aA]at P;have aj:=Av aA;clear aA;have bH:(b:Int)<(n:Int):=oM;go_wp2;go_loopw [8,9] (λr i wr=>∃(k:Nat) (U:Bool),k<= ↑f.eC/\r=An U/\i=iZ k/\Ae (U=(!cb&&Ky zs f.eC k)/\CW w wr ⟨C,B,sO gf of n cf,D⟩ n bd (Z aV zs cV) zs)) (λ_ i _=> ↑f.eC-(intOf i).toNat)
       (case atStart=>exact⟨0,!cb,oM,rfl,rfl,⟨by simp[Ky],g.o.2⟩⟩);obtain⟨k,U,bL,rfl,rfl,d⟩:=hrel;obtain⟨p0,p1,p2,p3⟩:=d.o.2.pb;have i3:=Ek d.o.2.e8 aX.o;by_cases aE:k< ↑f.eC
       . have bP:(k:Int)<(f.eC:Int):=oM;cases U
         . have am:Ae (Ik p.bW zs n b nxt):=g.o.1.no (by
            rw[LF p.bW zs b f F.o.2.2,<-aj.o];have:=d.o.1;cases A:cb
            . rw[A]at this;rw[Rx zs f.eC k (by simpa using this.symm)];rfl
            rfl)
           go_wp2;go_roundw;(case rel=>exact⟨b,nxt,oM,rfl,by go_num,⟨am.o,d.o.2⟩⟩);simp[intOf]
         . obtain⟨x,T⟩:∃x,f.eC[k]?=K x:=⟨_,an aE⟩;have aq:=Av T;have bg:=F.o.1.2.2.a7 d.o.2.e8 lR;rcases bg.2 with⟨e0,_⟩|⟨gc,oc,c',Q,G⟩
           . omega
           simp only[i8,lB]at Q;obtain⟨rfl,rfl⟩:=Q;have x0:=Rd.elem MI.dr G k _ T 0 _ rfl;have x1:=Rd.elem MI.dr G k _ T 1 _ rfl;have x2:=Rd.elem MI.dr G k _ T 2 _ rfl;have x3:=Rd.elem MI.dr G k _ T 3 _ rfl;rw[kJ]at x0;obtain⟨wo,br⟩:∃W,W=wr:=⟨_,rfl⟩;subst br;(go_upto_region 16 with fail);refine Ax (λu=>Ae (CW w u ⟨C,B,sO gf of n cf,D⟩ n bd (Z aV zs cV) zs/\AC u wo #[x.op,x.a,x.b,x.c] 72)) ⟨d.o.2.a7 (Aq _ _),AC.new _ _ _⟩ ?_
           intro U1 l;have a0:=l.o.2.cell 0;have a1:=l.o.2.cell 1;simp only[kB,i9,kC]at a0 a1;by_cases A:x.op=28
           . rw[A]at a0;have aQ:=TY (G9 I.o).2 F.o.2.2 (a:=x.a) (lA.2 ⟨x,mO.2 ⟨i7 aq.o,by simpa using A⟩,rfl⟩);rw[N.o]at aQ;obtain⟨aa,aM⟩:∃aa:Nat,x.a=(aa:Int):=⟨x.a.toNat,oM⟩;rw[aM]at a1 aQ;have hd:=l.o.1.done.cellAt aa oM;rw[F5 _ _ _ oM]at hd;obtain⟨ca,aw⟩:∃ca,ca=zs.contains (aa:Int):=⟨_,rfl⟩;rw[<-aw]at hd;(have s:Ae (ca=(!cb&&Ky zs f.eC (k+1))):=by show _=_;rw[Nh zs f.eC k x aq.o,aM,<-aw,<-Bool.and_assoc,<-d.o.1];simp[A]);clear aw;go_wp2;go_roundw;(case rel=>exact⟨k+1,ca,oM,rfl,by go_num,⟨s.o,l.o.1⟩⟩);exact oI
           (have bI:(x.op != 28)=true:=by simpa using A);(have s:Ae (true=(!cb&&Ky zs f.eC (k+1))):=by show _=_;rw[Nh zs f.eC k x aq.o,<-Bool.and_assoc,<-d.o.1];simp[A]);go_wp2;go_roundw;(case rel=>exact⟨k+1,true,oM,rfl,by go_num,⟨s.o,l.o.1⟩⟩);exact oI
       obtain rfl:k=f.eC.length:=oM;cases U
       . have am:Ae (Ik p.bW zs n b nxt):=g.o.1.no (by rw[LF p.bW zs b f F.o.2.2,<-aj.o,<-d.o.1]);go_wp2;go_roundw;(case rel=>exact⟨b,nxt,oM,rfl,by go_num,⟨am.o,d.o.2⟩⟩);simp[intOf]
       have aZ:Ae (Ik p.bW zs n b (b:Int)):=g.o.1.gY oM (by rw[LF p.bW zs b f F.o.2.2,<-aj.o,<-d.o.1]);go_wp2;go_roundw;(case rel=>exact⟨b,(b:Int),oM,rfl,by go_num,⟨aZ.o,d.o.2⟩⟩);simp[intOf]
     | zero=>
       rw[show(((0:Nat):Int)-1)=-1 from rfl];rcases g.o.1 with⟨rfl,bo⟩|⟨q,rfl,_,aF,bq,bp⟩
       . have O:Ae (BT p.bW=[]):=by
          show _=_;rw[<-E.o.2,show n-↑zs=(n-↑zs-1)+1 from oM]
          simp only[Cx];rw[Kd (λj R=>bo j (mz _) (by rw[<-N.o];exact R))]
         have ah:=Av g.o.2.e8;go_wp2;go_ret;exact⟨_,[],rfl,⟨rfl,.inl ⟨rfl,_,_,rfl⟩⟩,.inl ⟨I.o,O.o.symm⟩,Ar ah.o lR (Aq _ _)⟩
       . have O:Ae (Cx p.bW (n-(zs++[(q:Int)]).length) (zs++[(q:Int)])=BT p.bW):=by
          show _=_;rw[<-E.o.2,show n-↑zs=(n-↑zs-1)+1 from oM]
          simp only[Cx];rw[Ke (by rw[N.o];exact aF) bq (λj R=>bp j (mz _) R),kE,kK,Nat.sub_add_eq]
         have P:=g.o.2.done.cellAt q oM;rw[F5 _ _ _ aF]at P;generalize zs.contains (q:Int)=cq at P;have d1:=g.o.2.done.frozenAt q;have aY:=Av (OS.of g.o.2 aF aH.o);have bT:(q:Int)<(n:Int):=oM;have bS:¬(q:Int)<0:=oM;(go_upto_region 22 with fail);refine Ax (λu=>Ae (OS w u ⟨C,B,sO gf of n cf,D⟩ n bd (Z aV zs cV) zs q)) aY ?_;intro U1 l;go_wp2_with (at_builtin;refine wpList_append_lies _ rfl _ _ 46 rfl ((w:Nat)+1) 2 k0 (iZ 0) 1 8 underlying46 hk bt bu bx rfl dC _ zs (zs.flatMap As) rfl (l.o.al (Ak #[iZ (q:Int)] 2)).1 U1 1 1 [iZ (q:Int)] rfl rfl (Nk U1 (q:Int)) (λu hu=>by simp at hu;subst hu;rfl) oM oX oM (l.o.al (Ak #[iZ (q:Int)] 2)).2 _ rfl ?_;intro g3 aJ w3 S ae bf aE;have s:Ae (CW w w3 ⟨C,B,sO gf of n cf,D⟩ n bd (sG g3 (zs.length+1) aJ) (zs++[(q:Int)])):=l.o.next S ae;clear S ae bf aE);go_wp2;go_roundw;(case rel=>exact⟨zs++[(q:Int)],by simp only[kE,kK];omega,⟨K g3,aJ,by rw[kE,kK]⟩,⟨s.o,O.o⟩⟩);simp only[Wd];omega
   have hz: ↑zs=n:=oM
   (have O:Ae (zs=BT p.bW):=by have:=E.o.2;rw[hz,mU]at this;exact this);have ao:=Av (d5 (Rd.gM E.o.1.o) E.o.1.e8);rw[hz]at ao⊢;go_wp2;go_ret;refine⟨_,zs,rfl,?_,.inl ⟨I.o,O.o⟩,ao.o.2⟩;rw[hz];exact ao.o.1
 have s:Ae (¬A4 p 0):= λe=>q0 (A4.one aS e)
 have bY:(nf != 0)=true:=by simpa using q0
 have ah:=Av m.o.2.2;go_wp2;go_ret;exact⟨_,[],rfl,⟨rfl,.inl ⟨rfl,_,_,rfl⟩⟩,.inr ⟨s.o,rfl⟩,ah.o⟩
def CA(D:DataW Unit)(b:List MI)(k:Nat):Prop:=∀z:Int,Go.Maps.has D (.int Af z)=(b.take k).any λx=>decide (x.op=28)&&decide (x.a=z)
theorem Lm(D:DataW Unit)(a:Go.Maps.IsMap D)(z y:Int)(u:DataW Unit):Go.Maps.has (D.put (.int Af z) u) (.int Af y)=(Go.Maps.has D (.int Af y)||decide (z=y)):=by
 by_cases h:y=z
 . subst h;rw[Go.Maps.has_put_same a (show WideAt.IsKeyLit (Lit.int Af y)from trivial)];simp
 rw[Go.Maps.has_put_other (λe=>h (by cases e;rfl))];have:¬z=y:= λe=>h e.symm
 simp[this]
theorem CA.start(a:List MI):CA (.map []) a 0:= λz=>rfl
theorem CA.gY{b:List MI}{u:DataW Unit}(h:CA D b k)(c:Go.Maps.IsMap D)(f:b[k]?=K x)(d:x.op=28):CA (D.put (.int Af x.a) u) b (k+1):= λz=>by obtain⟨e,rfl⟩:=i6.1 f;rw[Lm D c,h z,kU e,List.any_append];simp[d]
theorem CA.no{a:List MI}(h:CA D a k)(d:a[k]?=K x)(b:¬x.op=28):CA D a (k+1):= λz=>by obtain⟨c,rfl⟩:=i6.1 d;rw[h z,kU c,List.any_append];simp[b]
theorem Xy(h:x.wf):Dg x.a:=h.2.1
theorem Ws{X:Nat}{a b c d:J}{t:Aj}(h:AC u X #[a,b,c,d] t):u X=K a/\u ⟨X,1,M⟩=K b/\u ⟨X,2,M⟩=K c/\u ⟨X,3,M⟩=K d:=⟨h.cell 0,h.cell 1,h.cell 2,h.cell 3⟩
theorem Mo(s:J)(f:List MI)(w:Y)(hn:f.length<=1048576)(Q:∀x∈f,x.wf)(h:Rd w 4 s f.length (Ad MI.cells f)):
 Ai Ap 81 #[s] w λe T=>e=Al (.map (K w))/\(∃d D,d<= ↑f/\AW T w d D/\CA D f f)/\Ah w w T:=by
 have H:=Av (d5 h Q);obtain⟨a1,c1,rfl⟩:=h.dk;clear h Q;generalize N:f.length=n at hn H;have U:=Av N;clear N;have ao:= @run_makeMap Ap;have v:Ae (∃d D,d<=0/\AW (Ac w (.map #[] 0)) w d D/\CA D f 0/\Ah w w (Ac w (.map #[] 0))):=⟨0,.map [],Nat.le_refl _,World.ownsMap_made _ _ _ _,CA.start f,Aq _ _⟩
 go_enter func81,ntmps81;go_wp2;go_loopw [9] (λi wr=>∃k:Nat,k<=n/\i=iZ k/\Ae (∃d D,d<=k/\AW wr w d D/\CA D f k/\Ah w w wr)) (λi _=>n-(intOf i).toNat)
 case atStart=>exact⟨0,oM,rfl,v⟩
 clear v;obtain⟨k,hk,rfl,v⟩:=hrel;obtain⟨d,D,ae,B,P,O⟩:=v.o;have l:=Av (d5 P (d5 O (d5 B (mv B))));clear B P O v;by_cases ah:k<n
 . obtain⟨x,p⟩:∃x,f[k]?=K x:=⟨_,an (by rw[U];exact ah)⟩;have A:=Av (d5 p (H.2 x (i7 p)));rcases H.1.2 with⟨e0,_⟩|⟨g,o,c,I,y⟩
   . omega
   simp only[i8,lB]at I;obtain⟨rfl,rfl⟩:=I;have C:=Rd.elem MI.dr y k _ p 0 _ rfl;have E:=Rd.elem MI.dr y k _ p 1 _ rfl;have F:=Rd.elem MI.dr y k _ p 2 _ rfl;have G:=Rd.elem MI.dr y k _ p 3 _ rfl;rw[<-l.2.1.cell (hC C),kJ]at C;rw[<-l.2.1.cell (hC E)]at E;rw[<-l.2.1.cell (hC F)]at F;rw[<-l.2.1.cell (hC G)]at G;clear y p;have am:(k:Int)<(n:Int):=oM;(go_upto_region 5 with fail);refine Ax (λu=>Ae (AW u w d D/\AC u wr #[iZ x.op,iZ x.a,iZ x.b,iZ x.c] 72/\Ah w w u)) ⟨l.2.2.1.a7 (Aq _ _),AC.new _ _ _,Ar l.2.1 lR (Aq _ _)⟩ ?_
   intro m r;clear C E F G;obtain⟨a0,V,W,X⟩:=Ws r.2.1;by_cases z:x.op=28
   . rw[z]at a0;have t:=Av (d5 ((AC.new m #[iZ x.a] 2).cell 0) (d5 ((r.1.a7 (Aq _ _)):AW (Ac m (Ak #[iZ x.a] 2)) w d D) (d5 ((Ar r.2.2 lR (Aq _ _)):Ah w w (Ac m (Ak #[iZ x.a] 2))) ((by have:=m7 r.1;omega):¬(m:Nat)= ↑w))))
     go_wp2_with fail;refine(D9 w d m 1 D x.a _ (Xy A.2) oM t.1 t.2.2.2 t.2.1).mono ?_;rintro e S ⟨rfl,R,L⟩;have q:Ae (∃d D,d<=k+1/\AW S w d D/\CA D f (k+1)/\Ah w w S):=⟨_,_,oM,R,l.1.gY l.2.2.2 A.1 z,t.2.2.1.grown L t.2.2.1.size (λj hj=>by cases hj;exact Nat.le_refl _)⟩
     clear R L a0 V W X;go_wp2;go_roundw;(case rel=>exact⟨k+1,oM,by go_num,q⟩);exact oI
   (have aj:(x.op==28)=false:=by simpa using z);have q:Ae (∃d D,d<=k+1/\AW m w d D/\CA D f (k+1)/\Ah w w m):=⟨_,_,oM,r.1,l.1.no A.1 z,r.2.2⟩
   go_wp2;go_roundw;(case rel=>exact⟨k+1,oM,by go_num,q⟩);exact oI
 obtain rfl:k=n:=oM;have q:=Av (d5 ((⟨d,D,ae,l.2.2.1,l.1⟩):(∃d D,d<=k/\AW wr w d D/\CA D f k)) l.2.1)
 go_wp2;go_ret;exact⟨rfl,q.1,q.2⟩
end Go.Proofs.YtmalfecapdmdbaaGreat
