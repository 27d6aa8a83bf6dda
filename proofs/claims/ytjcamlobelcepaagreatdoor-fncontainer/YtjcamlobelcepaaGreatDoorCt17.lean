import Derived.Test.YtjcamlobelcepaaGreatDoorCt15
import Derived.Lib.SlBytesConst
import Derived.ArgAppend
namespace Go.Proofs.YtjcamlobelcepaaGreatDoor
open Go.ChangeShapes Go.WideShapes Go.ChangeAt Go.RowKit
set_option linter.unusedVariables false
set_option maxHeartbeats 2000000
set_option maxRecDepth 100000
theorem CI.ownPD{w:World}{base:Nat}{v:VP}{F:List (List Int×Value)}{cs:List MC}{G:List (MF×VF)}{ts:List MT}{B:List As}(h:CI w base (Ai v F cs G ts B)):Dc w base v ⟨F.map Prod.fst,cs,G.map Prod.fst,ts⟩:=by
 have h1:=h.own (Ct v.r F) (by simp[Ai]);have h3:=h.own (BT v.f G) (by simp[Ai]);refine⟨⟨F,rfl,by simpa[Ct,As.own]using h1,fun x hx=>h.own (A8 x.2 x.1) ?_⟩,h.own (DY v.k cs) (by simp[Ai]),⟨G,rfl,by simpa[BT,As.own]using h3,fun x hx=>⟨h.own (A8 x.2.p x.1.params) ?_,h.own (A8 x.2.l x.1.locals) ?_,h.own (Ca x.2.c x.1.code) ?_⟩⟩,h.own (CZ v.t ts) (by simp[Ai])⟩
 . have:A8 x.2 x.1∈BS F:=cE.2 ⟨x,hx,rfl⟩
   simp[Ai,this]
 all_goals
  have e:∀r∈Co x,r∈BQ G:=fun r hr=>cG.2 ⟨x,hx,hr⟩
 . have:=e (A8 x.2.p x.1.params) (by simp[Co]);simp[Ai,this]
 . have:=e (A8 x.2.l x.1.locals) (by simp[Co]);simp[Ai,this]
 . have:=e (Ca x.2.c x.1.code) (by simp[Co]);simp[Ai,this]
theorem Pc{z:Int}(h0:0<=z)(h1:z<=4294967295):Pm z:=by simp[Pm,Lit.wf,IntKind.min,IntKind.max,IntKind.signed,IntKind.bits];omega
def AO{α:Type}(r:EQ α)(P:α->Prop):Prop:=∀k x k',r k=some (x,k')->P x
theorem AO.mono{α:Type}{r:EQ α}{P Q:α->Prop}(h:AO r P)(hq:∀x,P x->Q x):AO r Q:=fun k x k' e=>hq x (h k x k' e)
theorem AO.give{α:Type}{P:α->Prop}{x:α}(h:P x):AO (B5 x) P:=fun k y k' e=>by
 simp only[B5,aM,Prod.mk.injEq]at e;rw[<-e.1];exact h
theorem AO.then{α β:Type}{r:EQ α}{f:α->EQ β}{P:α->Prop}{Q:β->Prop}(h:AO r P)(h':∀x,P x->AO (f x) Q):AO (AU r f) Q:=fun k y k' e=>by
 cases e1:r k with
 |none=>rw[Aw e1]at e;cases e
 | some z=>
   obtain⟨z,k1⟩:=z;rw[CQ e1]at e;exact h' z (h k z k1 e1) _ _ _ e
theorem AO.many{α:Type}{r:EQ α}{P:α->Prop}(h:AO r P)(c:Nat):AO (Bu r c) (fun xs=>xs.length=c/\∀x∈xs,P x):=by
 induction c with
 |zero=>exact AO.give ⟨rfl,fun x hx=>by cases hx⟩
 |succ c ih=>exact ih.then fun xs hxs=>h.then fun x hx=>AO.give ⟨by simp[hxs.1],fun y hy=>by
  rcases ah.1 hy with hy|hy
  . exact hxs.2 y hy
  . rw[bO.1 hy];exact hx⟩
theorem AO.num{zs:List Int}(hz:DC zs)(n:Nat)(hn:n<=7):AO (Cb zs n) (fun x=>0<=x/\x<2 ^ (8*n)):=fun k x k' e=>Nn hz hn e
theorem AO.list{α:Type}{zs:List Int}(hz:DC zs)(n:Nat)(hn:n<=2){r:EQ α}{P:α->Prop}(h:AO r P):AO (Cu zs n r) (fun xs=>xs.length<=65535/\∀x∈xs,P x):=by
 refine(AO.num hz n (by omega)).then fun c hc=>(h.many c.toNat).mono fun xs hx=>⟨?_,hx.2⟩
 have:(2:Int) ^ (8*n)<=65536:=by
  have:n=0\/n=1\/n=2:=by omega
  rcases this with rfl|rfl|rfl<;>decide
 have:=hc.1;have:=hc.2;rw[hx.1];omega
theorem AO.types{zs:List Int}(hz:DC zs)(n:Nat)(hn:n<=2):AO (BF zs n) (fun xs=>xs.length<=65535/\∀x∈xs,Ec x):=
 AO.list hz n hn ((AO.num hz 1 (by omega)).mono fun x hx=>BZ (by omega) (by omega))
theorem AO.const{zs:List Int}(hz:DC zs):AO (D9 zs) MC.wf:=
 (AO.num hz 1 (by omega)).then fun t ht=>(AO.num hz 4 (by omega)).then fun x hx=>AO.give ⟨BZ (z:=t) (by omega) (by omega),Pc (z:=x) (by omega) (by omega)⟩
theorem AO.instr{zs:List Int}(hz:DC zs):AO (EV zs) MI.wf:=
 (AO.num hz 1 (by omega)).then fun o ho=>(AO.num hz 1 (by omega)).then fun a ha=>(AO.num hz 2 (by omega)).then fun b hb=>(AO.num hz 4 (by omega)).then fun c hc=>AO.give ⟨BZ (z:=o) (by omega) (by omega),BZ (z:=a) (by omega) (by omega),BZ (z:=b) (by omega) (by omega),BZ (z:=c) (by omega) (by omega)⟩
theorem AO.cert{zs:List Int}(hz:DC zs):AO (G9 zs) MT.wf:=
 (AO.num hz 2 (by omega)).then fun f hf=>(AO.num hz 2 (by omega)).then fun h hh=>(AO.num hz 1 (by omega)).then fun c hc=>(AO.num hz 4 (by omega)).then fun i hi=>AO.give ⟨BZ (z:=f) (by omega) (by omega),BZ (z:=h) (by omega) (by omega),BZ (z:=c) (by omega) (by omega),Pc (z:=i) (by omega) (by omega)⟩
theorem AO.func{zs:List Int}(hz:DC zs):AO (Fi zs) (fun f=>f.small/\f.wf):=
 (AO.types hz 1 (by omega)).then fun ps hp=>(AO.num hz 1 (by omega)).then fun r hr=>(AO.types hz 1 (by omega)).then fun ls hl=>(AO.list hz 2 (by omega) (AO.instr hz)).then fun code hc=>AO.give ⟨⟨aR hp.1 (by omega),aR hl.1 (by omega),aR hc.1 (by omega)⟩,⟨hp.2,BZ (z:=r) (by omega) (by omega),hl.2,hc.2⟩⟩
theorem AO.prog{zs:List Int}(hz:DC zs):AO (Im zs) (fun p=>p.small/\p.wf):=
 ((AO.types hz 2 (by omega)).many 3).then fun rs hr=>(AO.list hz 2 (by omega) (AO.const hz)).then fun cs hc=>(AO.list hz 2 (by omega) (AO.func hz)).then fun fs hf=>(AO.list hz 2 (by omega) (AO.cert hz)).then fun ts ht=>AO.give ⟨⟨by have:=hr.1;simp only[];omega,fun r hx=>by have:=(hr.2 r hx).1;omega,by have:=hc.1;simp only[];omega,by have:=hf.1;simp only[];omega,fun f hx=>(hf.2 f hx).1,by have:=ht.1;simp only[];omega⟩,⟨fun r hx=>(hr.2 r hx).2,hc.2,fun f hx=>(hf.2 f hx).2,ht.2⟩⟩
theorem Nj(u:World)(fr:Nat×Nat):∀j u',BL[j]?=some u'->(u.alloc (.cells #[.int .u8 80,.int .u8 76,.int .u8 67,.int .u8 49] 5 fr)).cell? ((⟨u.heap.size,0,none⟩:Addr).add j)=some u':=by
 intro j u' hj;have e:(u.alloc (.cells #[.int .u8 80,.int .u8 76,.int .u8 67,.int .u8 49] 5 fr)).heap[u.heap.size]?=some (.cells #[.int .u8 80,.int .u8 76,.int .u8 67,.int .u8 49] 5 fr):=d6;rw[Addr.add_lit];simp only[World.cell?,e];unfold BL at hj;simpa using hj
theorem Gw(rs:List (List Int))(h:Ax rs)(k:Nat):((rs.take k).flatMap BC).length<=k*258:=by
 induction k with
 |zero=>simp
 | succ k ih=>
   by_cases hk:k<rs.length
   . rw[aj hk,a8,aH]
     have:=(h.2 k hk _ (aA hk)).1;have e:([rs[k]].flatMap BC).length=2+rs[k].length:=by simp[Iz]
     rw[e];omega
   . have e:rs.take (k+1)=rs.take k:=by rw[bg (by omega),bg (by omega)]
     rw[e];omega
theorem PZ{α:Type}(f:α->List Value){xs:List α}{k:Nat}{x:α}(h:xs[k]?=some x):(xs.take (k+1)).flatMap f=(xs.take k).flatMap f++f x:=by
 obtain⟨hlt,rfl⟩:=aE.1 h;rw[aj hlt,a8];simp
theorem IM(rs:List (List Int))(h:Ax rs):(rs.flatMap BC).length<=774:=by
 have:=Gw rs h 3;rw[bg (by rw[h.1];omega)]at this;omega
def SZ:Value->Int
 |.int _ z=>z
 |_=>0
def CV(bs:List Value):List Int:=bs.map SZ
def Cg(bs:List Value):Prop:=∀u∈bs,∃z:Int,u=.int .u8 z/\0<=z/\z<=255
theorem IP{bs:List Value}(h:Cg bs):(CV bs).map (Value.int .u8)=bs/\∀j,0<=(CV bs).getD j 0/\(CV bs).getD j 0<=255:=by
 constructor
 . unfold CV
   rw[eU];conv=>rhs;rw[<-List.map_id bs]
   apply dL;intro u hu;obtain⟨z,rfl,_⟩:=h u hu;rfl
 . intro j
   rw[aU];unfold CV;rw[bQ];by_cases hj:j<bs.length
   . obtain⟨z,e,h0,h1⟩:=h _ (be hj)
     rw[aA hj,e];exact⟨h0,h1⟩
   . rw[ae (by omega)]
     simp
theorem Cg.append{a b:List Value}(ha:Cg a)(hb:Cg b):Cg (a++b):=fun u hu=>(ah.1 hu).elim (ha u) (hb u)
theorem Cg.flat{α:Type}{f:α->List Value}(hf:∀y,Cg (f y))(ys:List α):Cg (ys.flatMap f):=fun u hu=>by
 obtain⟨y,_,hy⟩:=cG.1 hu;exact hf y u hy
theorem Bm(v:Int)(n:Nat):Cg (At v n):=fun u hu=>by
 unfold At at hu;obtain⟨i,_,rfl⟩:=cE.1 hu;exact⟨_,rfl,cM _ (by decide),by have:=bw (v / 2 ^ (8*i)) (show(0:Int)<256 by decide);omega⟩
theorem Dl(n:Nat)(ys:List Int):Cg (Eb n ys):=Cg.flat (fun y=>Bm y n) ys
theorem LN:Cg BL:=fun u hu=>by
 simp[BL]at hu;rcases hu with rfl|rfl|rfl|rfl<;>exact⟨_,rfl,by omega,by omega⟩
theorem Hb(p:MP):Cg (BP p):=by
 unfold BP;refine .append (.append (.append (.append (.append (.append (.append (.append LN (Bm _ _)) (.flat (fun r=> ?_) _)) (Bm _ _)) (.flat (fun c=> ?_) _)) (Bm _ _)) (.flat (fun f=> ?_) _)) (Bm _ _)) (.flat (fun c=> ?_) _)
 . exact .append (Bm _ _) (Dl _ _)
 . exact .append (Bm _ _) (Bm _ _)
 . exact .append (.append (.append (.append (.append (Bm _ _) (Dl _ _)) (Dl _ _)) (Dl _ _)) (Bm _ _)) (.flat (fun x=>.append (.append (Dl _ _) (Bm _ _)) (Bm _ _)) _)
 . exact .append (.append (Dl _ _) (Bm _ _)) (Bm _ _)
def DN(p:MP):List Value:=BP p++At (FY (~~~(C6 (CV (BP p)) (BP p).length))) 4
def TC(p:MP)(bs:List Value):Prop:=(AV p 0/\bs=DN p)\/(¬AV p 0/\bs=[])
structure Qk(p:MP):Prop where
 r3:p.regions.length=3
 rg:∀r∈p.regions,r.length<=256/\∀z∈r,0<=z/\z<=255
 cl:p.consts.length<=64
 cs:∀x∈p.consts,(0<=x.type/\x.type<=255)/\0<=x.word/\x.word<4294967296
 fl:p.funcs.length<=32
 fn:∀f∈p.funcs,(f.params.length<=8/\∀z∈f.params,0<=z/\z<=255)/\(0<=f.result/\f.result<=255)/\(f.locals.length<=32/\∀z∈f.locals,0<=z/\z<=255)/\f.code.length<=1024/\∀x∈f.code,(0<=x.op/\x.op<=255)/\(0<=x.a/\x.a<=255)/\(0<=x.b/\x.b<=255)/\0<=x.c/\x.c<=1000000
 tl:p.certs.length<=64
 ts:∀c∈p.certs,(0<=c.func/\c.func<=255)/\(0<=c.head/\c.head<=65535)/\(0<=c.counter/\c.counter<=255)/\0<=c.init/\c.init<4294967296
structure Gn where
 code:List MI
 consts:List MC
 certs:List MT
structure GK where
 F:List (List Int×Value)
 G:List (MF×VF)
 P:Nat
 Gb:Nat
 fi:Nat
 L0:Int
 nc:Nat
 J:List Nat
abbrev Ty(t:Int):Prop:=1<=t/\t<=3
theorem Ty.is{t:Int}(h:Ty t):DZ t=true:=by simpa[DZ]using h
theorem Ty.w{t:Int}(h:Ty t):Ec t:=BZ (by omega) (by omega)
theorem LZ{z:Int}(h0:0<=z)(h1:z<4294967296):Pm z:=by simp[Pm,Lit.wf,IntKind.min,IntKind.max,IntKind.signed,IntKind.bits];omega
theorem Qo{z:Int}(h:Pm z):0<=z/\z<4294967296:=by
 have:0<=z/\z<=4294967295:=by simpa[Pm,Lit.wf,IntKind.min,IntKind.max,IntKind.signed,IntKind.bits]using h
 omega
theorem NL{l:List Int}(h:∀z∈l,Ty z):l.all DZ=true:=dp.2 fun z hz=>(h z hz).is
structure Qb(f:MF):Prop where
 pl:f.params.length<=3
 pt:∀z∈f.params,Ty z
 rs:0<=f.result/\f.result<=3
 lc:∃l,f.locals=l++[3,3,3]/\l.length<=3/\∀z∈l,Ty z
theorem Qb.lt{f:MF}(h:Qb f):(3<=f.locals.length/\f.locals.length<=6)/\∀z∈f.locals,Ty z:=by
 obtain⟨l,e,hl,ht⟩:=h.lc;rw[e];refine⟨by simp;omega,fun z hz=> ?_⟩;rcases ah.1 hz with a|a
 . exact ht z a
 . simp at a;omega
theorem Qb.ctr{f:MF}(h:Qb f){lv:Int}(hl:0<=lv/\lv<=2):AA f ((f.params.length:Int)+f.locals.length-3+lv)=3:=by
 obtain⟨l,e,_,_⟩:=h.lc;have h1:((f.params.length:Int)+f.locals.length-3+lv).toNat=f.params.length+(l.length+lv.toNat):=by rw[e];simp;omega
 unfold AA;rw[bX (by rw[e];simp;omega),h1,e,aU,bH (by omega),bH (by omega)];obtain rfl|rfl|rfl:lv=0\/lv=1\/lv=2:=by omega
 all_goals simp
theorem Qb.wf{f:MF}(h:Qb f)(hc:∀x∈f.code,x.wf):f.wf:=⟨fun z hz=>(h.pt z hz).w,BZ (by have:=h.rs;omega) (by have:=h.rs;omega),fun z hz=>(h.lt.2 z hz).w,hc⟩
structure Kf(k:GK):Prop where
 f3:k.F.length=3
 fr:∀x∈k.F,x.1.length<=100
 ft:∀x∈k.F,∀z∈x.1,Ty z
 fi:k.fi<k.G.length
 gl:k.G.length<=32
 fn:∀y∈k.G,Qb y.1
 l0:0<=k.L0/\k.L0<=300
structure TI(k:GK)(nc:Nat)(len:Int)(p:MP)(f:MF):Prop where
 rg:p.regions=k.F.map Prod.fst
 cs:nc<=p.consts.length
 fn:p.funcs.length=k.G.length
 ex:∃y,k.G[k.fi]?=some y/\f.params=y.1.params/\f.locals=y.1.locals
 ln:len<(f.code.length:Int)
def Tt(x:MI):Prop:=(0<=x.op/\x.op<=255)/\(0<=x.a/\x.a<=255)/\(0<=x.b/\x.b<=255)/\0<=x.c/\x.c<=1000000
theorem Tt.wf{x:MI}(h:Tt x):x.wf:=by
 obtain⟨h1,h2,h3,h4⟩:=h;exact⟨BZ (by omega) (by omega),BZ (by omega) (by omega),BZ (by omega) (by omega),BZ (by omega) (by omega)⟩
def GU(k:GK)(nc:Nat)(len:Int)(x:MI):Prop:=Tt x/\∀p f,TI k nc len p f->AH p f x
def Sa(k:GK)(a t:Int):Prop:=∃y,k.G[k.fi]?=some y/\AA y.1 a=t
def Tp(k:GK)(q b:Nat)(t:Int):Prop:=∃y,k.F[q]?=some y/\y.1[b]?=some t
section
variable {k:GK} {nc nc':Nat} {len len':Int} {x:MI} {op a b c t:Int} {p:MP} {f:MF}
theorem GU.mono(h:GU k nc len x)(h1:nc<=nc')(h2:len<=len'):GU k nc' len' x:=⟨h.1,fun p f hp=>h.2 p f ⟨hp.rg,aR h1 hp.cs,hp.fn,hp.ex,by have:=hp.ln;omega⟩⟩
theorem GU.J{J:List Nat}(h:GU k nc len x):GU {k with J:=J} nc len x:=⟨h.1,fun p f hp=>h.2 p f ⟨hp.rg,hp.cs,hp.fn,hp.ex,hp.ln⟩⟩
theorem GU.unJ{J:List Nat}(h:GU {k with J:=J} nc len x):GU k nc len x:=⟨h.1,fun p f hp=>h.2 p f ⟨hp.rg,hp.cs,hp.fn,hp.ex,hp.ln⟩⟩
theorem TI.loc(h:TI k nc len p f)(hl:Sa k a t):AA f a=t:=by
 obtain⟨y,hy,e⟩:=hl;obtain⟨y',hy',e1,e2⟩:=h.ex;rw[hy]at hy';cases hy'
 unfold AA at e⊢;rwa [e1,e2]
theorem TI.cel{q b:Nat}(h:TI k nc len p f)(hk:k.F.length=3)(hc:Tp k q b t):Bt p q b=t:=by
 obtain⟨y,hy,e⟩:=hc;have hq:=(aE.1 hy).1;unfold Bt;rw[bX (by omega),h.rg,aX,aX];simp[List.getD_eq_getElem?_getD,hy,e]
theorem QW{f:MF}(h:Qb f)(e:AA f a=t)(ht:¬t=0):0<=a/\a<=10:=by
 have h1:=h.pl;have h2:=h.lt.1;unfold AA at e;by_cases ha:a<0
 . rw[bj ha]at e;omega
 rw[bX ha]at e;by_cases hb:a.toNat<(f.params++f.locals).length
 . simp at hb;omega
 . rw[aU,ae (by omega)]at e
   exact absurd e.symm ht
theorem QU(hk:Kf k)(hl:Sa k a t)(ht:¬t=0):0<=a/\a<=10:=by
 obtain⟨y,hy,e⟩:=hl;exact QW (hk.fn y (aF hy)) e ht
theorem SC{q b:Nat}(hk:Kf k)(hc:Tp k q b t):q<3/\b<100/\Ty t:=by
 obtain⟨y,hy,e⟩:=hc;have h1:=(aE.1 hy).1;have h2:=(aE.1 e).1;have h3:=hk.fr y (aF hy);have:=hk.f3;exact⟨by omega,by omega,hk.ft y (aF hy) t (aF e)⟩
theorem P8(h1:0<=op/\op<=29)(h2:0<=a/\a<=255)(h3:0<=b/\b<=255)(h4:0<=c/\c<=1000000):Tt ⟨op,a,b,c⟩:=⟨⟨h1.1,by show op<=255;omega⟩,h2,h3,h4⟩
theorem OQ(h1:0<=op/\op<=29)(h:AJ p f (Az op) op a b c):AH p f ⟨op,a,b,c⟩:=⟨h1.1,h1.2,h⟩
theorem ok0(h:Az op=0:=by kernel_rfl)(h1:0<=op/\op<=29:=by omega):GU k nc len ⟨op,0,0,0⟩:=⟨P8 h1 (by omega) (by omega) (by omega),fun p f hp=>OQ h1 (.inl ⟨h,rfl,rfl,rfl⟩)⟩
theorem ok1{r:Nat}(h:r<nc)(hn:nc<=64):GU k nc len ⟨1,r,0,0⟩:=⟨P8 (by omega) (by omega) (by omega) (by omega),fun p f hp=>OQ (by omega) (.inr (.inl ⟨by kernel_rfl,by omega,by have:=hp.cs;omega,rfl,rfl⟩))⟩
theorem UI(hk:Kf k)(h:Sa k a t)(ht:1<=t/\t<=3:=by omega)(ho:Az op=2:=by kernel_rfl)(h1:0<=op/\op<=29:=by omega):GU k nc len ⟨op,a,0,0⟩:=
 have:=QU hk h (by omega)
 ⟨P8 h1 (by omega) (by omega) (by omega),fun p f hp=>OQ h1 (.inr (.inr (.inl ⟨ho,by rw[hp.loc h];omega,rfl,rfl⟩)))⟩
theorem ok3{q b:Nat}(hk:Kf k)(h:Tp k q b t)(ho:op=4\/op=5/\0<q:=by omega):GU k nc len ⟨op,q,b,0⟩:=
 have:=SC hk h
 ⟨P8 (by omega) (by omega) (by omega) (by omega),fun p f hp=>OQ (by omega) (.inr (.inr (.inr (.inl ⟨by rcases ho with rfl|⟨rfl,_⟩<;>kernel_rfl,by rw[hp.cel hk.f3 h];omega,rfl,by omega⟩))))⟩
def Mk(m:Nat):Prop:=m=0\/m=1\/m=3\/m=7\/m=15\/m=31\/m=63\/m=127
theorem ok4{q b m:Nat}(hk:Kf k)(h:∀j,j<=m->Tp k q (b+j) t)(hm:Mk m)(ho:op=6\/op=7/\0<q:=by omega):GU k nc len ⟨op,q,b,m⟩:=by
 have h0:Tp k q b t:=h 0 (cU _);have h1:=SC hk h0;have hb:(m:Int)<256:=by unfold Mk at hm;omega
 refine⟨P8 (by omega) (by omega) (by omega) (by omega),fun p f hp=>OQ (by omega) (.inr (.inr (.inr (.inr (.inl ⟨by rcases ho with rfl|⟨rfl,_⟩<;>kernel_rfl,⟨by omega,hb,?_,by rw[hp.cel hk.f3 h0];omega,fun j hj=> ?_⟩,by omega⟩)))))⟩
 . rcases hm with rfl|rfl|rfl|rfl|rfl|rfl|rfl|rfl<;>kernel_rfl
 . rw[hp.cel hk.f3 h0,<-Int.natCast_add,hp.cel hk.f3 (h j (by omega))]
theorem UJ(h:AL (Az op) t)(h1:0<=op/\op<=29:=by omega):GU k nc len ⟨op,t,0,0⟩:=
 have:Ty t:=by
  rcases h with⟨_,h⟩|⟨_,h⟩|⟨_,h⟩
  . omega
  . omega
  . simpa[DZ]using h
 ⟨P8 h1 (by omega) (by omega) (by omega),fun p f hp=>OQ h1 (.inr (.inr (.inr (.inr (.inr (.inl ⟨h,rfl,rfl⟩))))))⟩
theorem okE(ht:1<=t/\t<=3:=by omega):GU k nc len ⟨20,t,0,0⟩:=UJ (.inr (.inr ⟨by kernel_rfl,Ty.is ht⟩))
theorem ok5(ht:t=2\/t=3:=by omega)(hf:Az op=5:=by kernel_rfl)(h1:0<=op/\op<=29:=by omega):GU k nc len ⟨op,t,0,0⟩:=UJ (.inl ⟨hf,ht⟩) h1
theorem Uq(ht:t=1\/t=3:=by omega)(hf:Az op=6:=by kernel_rfl)(h1:0<=op/\op<=29:=by omega):GU k nc len ⟨op,t,0,0⟩:=UJ (.inr (.inl ⟨hf,ht⟩)) h1
theorem okA{r:Int}(hr:0<=r/\r<5)(ht:t=2\/t=3:=by omega):GU k nc len ⟨8+r,t,0,0⟩:=by
 obtain rfl|rfl|rfl|rfl|rfl:r=0\/r=1\/r=2\/r=3\/r=4:=by omega
 all_goals exact ok5 ht
theorem okB{r:Int}(hr:0<=r/\r<3)(ht:t=1\/t=3:=by omega):GU k nc len ⟨13+r,t,0,0⟩:=by
 obtain rfl|rfl|rfl:r=0\/r=1\/r=2:=by omega
 all_goals exact Uq ht
theorem ok8(ha:1<=a/\a<=3:=by omega)(hb:1<=b/\b<=3:=by omega)(hn:¬a=b:=by omega):GU k nc len ⟨22,a,b,0⟩:=⟨P8 (by omega) (by omega) (by omega) (by omega),fun p f hp=>OQ (by omega) (.inr (.inr (.inr (.inr (.inr (.inr (.inl ⟨by kernel_rfl,Ty.is ha,Ty.is hb,hn,rfl⟩)))))))⟩
theorem Ua(h0:0<=c:=by omega)(hc:c<=len:=by first|omega|(simp only[];omega))(hl:len<=1000000:=by first|omega|(simp only[];omega))(ho:op=25\/op=26:=by omega):GU k nc len ⟨op,0,0,c⟩:=⟨P8 (by omega) (by omega) (by omega) (by omega),fun p f hp=>OQ (by omega) (.inr (.inr (.inr (.inr (.inr (.inr (.inr (.inl ⟨by rcases ho with rfl|rfl<;>kernel_rfl,rfl,rfl,h0,by have:=hp.ln;omega⟩))))))))⟩
theorem UG(hk:Kf k)(h:Sa k a t)(ht:1<=t/\t<=3:=by omega)(h0:0<=c:=by omega)(hc:c<=len:=by first|omega|(simp only[];omega))(hl:len<=1000000:=by first|omega|(simp only[];omega)):GU k nc len ⟨27,a,0,c⟩:=
 have:=QU hk h (by omega)
 ⟨P8 (by omega) (by omega) (by omega) (by omega),fun p f hp=>OQ (by omega) (.inr (.inr (.inr (.inr (.inr (.inr (.inr (.inr (.inl ⟨by kernel_rfl,by rw[hp.loc h];omega,rfl,h0,by have:=hp.ln;omega⟩)))))))))⟩
theorem UH{q:Nat}(h:q<k.G.length)(hl:k.G.length<=32):GU k nc len ⟨28,q,0,0⟩:=⟨P8 (by omega) (by omega) (by omega) (by omega),fun p f hp=>OQ (by omega) (.inr (.inr (.inr (.inr (.inr (.inr (.inr (.inr (.inr ⟨by kernel_rfl,by omega,by have:=hp.fn;omega,rfl,rfl⟩)))))))))⟩
theorem GU.setC(h:GU k nc len x)(hf:Az x.op=9\/Az x.op=10)(h0:0<=c)(hc:c<=len)(hl:len<=1000000):GU k nc len ⟨x.op,x.a,x.b,c⟩:=by
 refine⟨⟨h.1.1,h.1.2.1,h.1.2.2.1,h0,by show c<=1000000;omega⟩,fun p f hp=> ?_⟩;obtain⟨h1,h2,h3⟩:=h.2 p f hp;have:=hp.ln;refine OQ ⟨h1,h2⟩ ?_;unfold AJ AL at h3⊢;rcases h3 with h|h|h|h|h|h|h|h|h|h
 all_goals first|(exfalso;omega)|skip
 . exact .inr (.inr (.inr (.inr (.inr (.inr (.inr (.inl ⟨h.1,h.2.1,h.2.2.1,h0,by omega⟩)))))))
 . exact .inr (.inr (.inr (.inr (.inr (.inr (.inr (.inr (.inl ⟨h.1,h.2.1,h.2.2.1,h0,by omega⟩))))))))
end
def Ul(k:GK)(len:Int)(c:MT):Prop:=c.wf/\(0<=c.func/\0<=c.head)/\((c.func<k.fi/\∃y,k.G[c.func.toNat]?=some y/\c.head<y.1.code.length/\AA y.1 c.counter=3)\/(c.func=k.fi/\c.head<len/\Sa k c.counter 3))
theorem Ul.mono{k:GK}{len len':Int}{c:MT}(h:Ul k len c)(hl:len<=len'):Ul k len' c:=⟨h.1,h.2.1,h.2.2.imp_right fun e=>⟨e.1,by omega,e.2.2⟩⟩
structure Lr(k:GK)(g:Gn)(left:Int)(nt:Nat):Prop where
 len:(g.code.length:Int)+left=k.L0
 nc:g.consts.length<=64
 lc:k.nc<=g.consts.length
 nt:g.certs.length<=nt
 wc:∀x∈g.code,GU k g.consts.length g.code.length x
 wk:∀x∈g.consts,x.wf/\Cv x
 bk:∀t,Ty t->∃x∈g.consts,x.type=t
 wt:∀x∈g.certs,Ul k g.code.length x
 ri:g.certs.Pairwise FQ
 jm:∀j∈k.J,∃x,g.code[j]?=some x/\(Az x.op=9\/Az x.op=10)
section
variable {k:GK} {g:Gn} {left:Int} {nt:Nat} {x:MI}
theorem Lr.put(h:Lr k g left nt)(hx:GU k g.consts.length (k.L0-left+1) x):Lr k ⟨g.code++[x],g.consts,g.certs⟩ (left-1) nt:=by
 have hl:=h.len;have hl2:((g.code++[x]).length:Int)=k.L0-left+1:=by simp;omega
 refine⟨by simp only[];omega,h.nc,h.lc,h.nt,fun y hy=> ?_,h.wk,h.bk,fun y hy=>(h.wt y hy).mono (by simp only[];omega),h.ri,fun j hj=> ?_⟩
 . simp only[hl2]
   rcases ah.1 hy with e|e
   . exact(h.wc y e).mono lR (by omega)
   . rw[bO.1 e];exact hx
 . obtain⟨y,hy,hf⟩:=h.jm j hj
   exact⟨y,by rw[bS (aE.1 hy).1];exact hy,hf⟩
theorem Lr.jump(h:Lr k ⟨g.code++[x],g.consts,g.certs⟩ left nt)(hf:Az x.op=9\/Az x.op=10):Lr {k with J:=g.code.length::k.J} ⟨g.code++[x],g.consts,g.certs⟩ left nt:=
 ⟨h.len,h.nc,h.lc,h.nt,fun x hx=>(h.wc x hx).J,h.wk,h.bk,h.wt,h.ri,fun j hj=>by
  rcases bG.1 hj with rfl|e
  . exact⟨x,by simp,hf⟩
  . exact h.jm j e⟩
theorem Lr.back{J:List Nat}(h:Lr {k with J:=J} g left nt)(hj:∀j∈k.J,j∈J):Lr k g left nt:=⟨h.len,h.nc,h.lc,h.nt,fun x hx=>(h.wc x hx).unJ,h.wk,h.bk,h.wt,h.ri,fun j e=>h.jm j (hj j e)⟩
theorem Lr.cst{cs:List MC}{y:MC}(h:Lr k g left nt)(hw:y.wf/\Cv y)(hn:g.consts.length<64):Lr k ⟨g.code,g.consts++[y],g.certs⟩ left nt:=
 ⟨h.len,by simp;omega,by have:=h.lc;simp;omega,h.nt,fun x hx=>(h.wc x hx).mono (by simp) (Int.le_refl _),fun x hx=>by
  rcases ah.1 hx with e|e
  . exact h.wk x e
  . rw[bO.1 e];exact hw,fun t ht=>by
  obtain⟨x,hx,e⟩:=h.bk t ht;exact⟨x,List.mem_append_left _ hx,e⟩,h.wt,h.ri,h.jm⟩
theorem Lr.crt{c:MT}(h:Lr k g left nt)(hw:c.wf)(hf:c.func=k.fi)(h0:0<=c.head)(hh:∀x∈g.certs,x.func=k.fi->x.head<c.head)(hl:c.head<k.L0-left)(hc:Sa k c.counter 3):Lr k ⟨g.code,g.consts,g.certs++[c]⟩ left (nt+1):=by
 have hlen:=h.len;refine⟨h.len,h.nc,h.lc,by simp;exact h.nt,h.wc,h.wk,h.bk,fun x hx=> ?_,?_,h.jm⟩
 . rcases ah.1 hx with e|e
   . exact h.wt x e
   . rw[bO.1 e]
     exact⟨hw,⟨by omega,h0⟩,.inr ⟨hf,by simp only[];omega,hc⟩⟩
 . rw[cA]
   refine⟨h.ri,dg _ _,fun x hx y hy=> ?_⟩;rw[bO.1 hy];rcases(h.wt x hx).2.2 with e|e
   . exact .inl (by omega)
   . exact .inr ⟨by omega,hh x hx e.1⟩
end
def ES(p:MP)(x:MI):Int:=match p.regions[x.a.toNat]? with|some r=>(r[x.b.toNat]?).getD 0|none=>0
def BJ(f:MF):List Int:=if f.result=0 then[]else[f.result]
def Au(p:MP)(f:MF)(x:MI):List Int:=
 if x.op=3 then[AA f x.a]else if x.op=5 then[ES p x]else if x.op=6 then[3]else if x.op=7 then[3,ES p x]
 else if(8<=x.op/\x.op<=15)\/x.op=20\/x.op=21 then[x.a,x.a]else if x.op=16\/x.op=22 then[x.a]
 else if x.op=17\/x.op=18 then[3,3]else if x.op=19 then[2]else if x.op=23\/x.op=24 then[0]else if x.op=26 then[1]
 else if x.op=28 then(match p.funcs[x.a.toNat]? with|some g=>g.params|none=>[])else[]
def Ur(l:List MC)(i:Nat):MC:=(l[i]?).getD ⟨0,0⟩
def Ay(p:MP)(f:MF)(x:MI):List Int:=
 if x.op=1 then[(Ur p.consts x.a.toNat).type]else if x.op=2 then[AA f x.a]else if x.op=4\/x.op=6 then[ES p x]
 else if 8<=x.op/\x.op<=16 then[x.a]else if x.op=17\/x.op=18 then[3]else if x.op=19 then[2]else if x.op=20\/x.op=21 then[1]
 else if x.op=22 then[x.b]else if x.op=23 then[0,0]else if x.op=28 then(match p.funcs[x.a.toNat]? with|some g=>BJ g|none=>[])else[]
theorem AG(n:Int)(c:Int)(w:World):
 Calls Tryz.prog 104 #[iZ n,iZ c] w fun e w'=>e=.returned (.bool (decide (0<=n/\n<c)))/\w'=w:=by
 by_cases q0:n<0
 . rw[cI (by omega:¬(0<=n/\n<c))]
   have q0':¬0<=n:=by omega
   go_enter Tryz.func104,Tryz.ntmps104;go_wp2
   go_ret
   exact⟨rfl,rfl⟩
 have q0':0<=n:=by omega
 by_cases q1:n<c
 . rw[decide_eq_true (by omega:0<=n/\n<c)]
   go_enter Tryz.func104,Tryz.ntmps104;go_wp2
   go_ret
   exact⟨rfl,rfl⟩
 . rw[cI (by omega:¬(0<=n/\n<c))]
   go_enter Tryz.func104,Tryz.ntmps104;go_wp2
   go_ret
   exact⟨rfl,rfl⟩
theorem EU(F t:Int)(w:World)(hF:F=5\/F=6\/F=7):Calls Tryz.prog 109 #[iZ F,iZ t] w fun e w'=>Am e (AL F t)/\w'=w:=by
 rcases hF with rfl|rfl|rfl
 . go_enter Tryz.func109,Tryz.ntmps109
   go_wp2
   all_goals(go_ret;refine⟨Am.of ?_,rfl⟩;go_light;simp_all [AL])
 . go_enter Tryz.func109,Tryz.ntmps109
   go_wp2
   all_goals(go_ret;refine⟨Am.of ?_,rfl⟩;go_light;simp_all [AL])
 . go_enter Tryz.func109,Tryz.ntmps109
   go_wp2_with fail
   refine(DP t _).mono ?_;rintro e u ⟨rfl,rfl⟩;go_wp2
   all_goals(go_ret;refine⟨Am.of ?_,rfl⟩;go_light;simp_all [AL])
structure Md(w:World)(b:Nat)(x0 x1 x2 x3 x4 x5 x6 x7:Value):Prop where
 c0:w.cell? ⟨b,0,none⟩=some x0
 c1:w.cell? ⟨b,1,none⟩=some x1
 c2:w.cell? ⟨b,2,none⟩=some x2
 c3:w.cell? ⟨b,3,none⟩=some x3
 c4:w.cell? ⟨b,4,none⟩=some x4
 c5:w.cell? ⟨b,5,none⟩=some x5
 c6:w.cell? ⟨b,6,none⟩=some x6
 c7:w.cell? ⟨b,7,none⟩=some x7
theorem Md.lt{w:World}{b:Nat}{x0 x1 x2 x3 x4 x5 x6 x7:Value}(h:Md w b x0 x1 x2 x3 x4 x5 x6 x7):b<w.heap.size:=aD h.c0
theorem Md.keep{w w':World}{b:Nat}{x0 x1 x2 x3 x4 x5 x6 x7:Value}(h:Md w b x0 x1 x2 x3 x4 x5 x6 x7)(hb:Below w.heap.size w w'):Md w' b x0 x1 x2 x3 x4 x5 x6 x7:=
 ⟨by rw[hb.cell h.lt];exact h.c0,by rw[hb.cell h.lt];exact h.c1,by rw[hb.cell h.lt];exact h.c2,by rw[hb.cell h.lt];exact h.c3,by rw[hb.cell h.lt];exact h.c4,by rw[hb.cell h.lt];exact h.c5,by rw[hb.cell h.lt];exact h.c6,by rw[hb.cell h.lt];exact h.c7⟩
theorem Md.new(w:World)(x0 x1 x2 x3 x4 x5 x6 x7:Value)(ty:TypeId):Md (w.alloc (.cells #[x0,x1,x2,x3,x4,x5,x6,x7] ty)) w.heap.size x0 x1 x2 x3 x4 x5 x6 x7:=by
 have h:=cF (base:=w.heap.size) (e:=ty) (size:=8) w #[x0,x1,x2,x3,x4,x5,x6,x7] 1 lR (by unfold maxLen;omega) (by simp);exact⟨h.cellAt 0 (by omega),h.cellAt 1 (by omega),h.cellAt 2 (by omega),h.cellAt 3 (by omega),h.cellAt 4 (by omega),h.cellAt 5 (by omega),h.cellAt 6 (by omega),h.cellAt 7 (by omega)⟩
theorem Md.alloc{w:World}{b:Nat}{x0 x1 x2 x3 x4 x5 x6 x7:Value}(h:Md w b x0 x1 x2 x3 x4 x5 x6 x7)(o:Obj):Md (w.alloc o) b x0 x1 x2 x3 x4 x5 x6 x7:=h.keep (Aa _ _)
def Hw(f:MF)(n:Int):Prop:=0<=n/\n<(f.params.length:Int)+(f.locals.length:Int)
theorem FD(x0 x1 x2 x3:Value)(g:VF)(f:MF)(n:Int)(w:World)(hs:f.small)(h:EI w g f):
 Calls Tryz.prog 106 #[.agg #[x0,x1,x2,x3,g.p,iZ f.result,g.l,g.c],iZ n] w fun e w'=>Am e (Hw f n)/\Below w.heap.size w w':=by
 obtain⟨a1,c1,e1⟩:=h.1.is_slice;obtain⟨a2,c2,e2⟩:=h.2.1.is_slice;obtain⟨vp,vl,vc⟩:=g;obtain⟨s1,s2,s3⟩:=hs;simp only[]at e1 e2;subst e1 e2;clear h;go_enter Tryz.func106,Tryz.ntmps106;go_wp2_with fail
 refine(AG n ((f.params.length:Int)+(f.locals.length:Int)) _).mono ?_;rintro e u ⟨rfl,rfl⟩;go_wp2
 go_ret
 exact⟨.of (by unfold Hw;simp),Aa _ _⟩
def CS(p:MP)(op a b:Int):Prop:=∃l,0<=a/\p.regions[a.toNat]?=some l/\0<=b/\b<(l.length:Int)/\¬((op=5\/op=7)/\a=0)
theorem DV(v:VP)(p:MP)(x4 x5 x6 x7:Value)(op a b c:Int)(w:World)(hs:p.small)(h3:p.regions.length=3)(h:Ej w v p):
 Calls Tryz.prog 107 #[.agg #[v.r,v.k,v.f,v.t,x4,x5,x6,x7],.agg #[iZ op,iZ a,iZ b,iZ c]] w fun e w'=>Am e (CS p op a b)/\Below w.heap.size w w':=by
 obtain⟨vr,vk,vf,vt⟩:=v;obtain⟨xs,hxs,hrd,hel⟩:=h.regions;simp only[]at hrd;rw[h3]at hrd;have hxl:xs.length=3:=by rw[<-h3,<-hxs];simp
 have H1:=Af (aG hrd (aG hxs (aG hel (aG hs.region (aG hxl h3)))));clear hrd hxs hel hxl hs h h3;have HB:Hid (Below w.heap.size w ((w.alloc (.cells #[vr,vk,vf,vt,x4,x5,x6,x7] 117)).alloc (.cells #[iZ op,iZ a,iZ b,iZ c] 97))):=Ab (Aa _ _) lR (Aa _ _);by_cases q0:0<=a/\a<3
 . obtain ⟨i,rfl⟩:=aS q0.1
   have hi:i<3:=by omega
   obtain⟨⟨l,y⟩,hx⟩:∃x,xs[i]?=some x:=⟨_,aA (by rw[H1.o.2.2.2.2.1];omega)⟩;have e1:=BG H1.o.2.1 hx;have hy:=H1.o.2.2.1 _ (aF hx);have hll:=H1.o.2.2.2.1 _ (aF e1);simp only[]at e1 hy hll;rcases H1.o.1.2 with⟨e0,_⟩|⟨g,o,cc,e2,hc1⟩
   . omega
   subst e2;have a0:=Rd.elem AK hc1 i _ hx 0 _ rfl;rw[bR,aT]at a0;simp only[]at a0;clear hc1 hx;have HX:=Af e1;clear e1;obtain⟨ay,cy,rfl⟩:=hy.is_slice;clear hy;have a1:=(HB.o.cell (aD a0)).trans a0;have ga:¬g=w.heap.size:=bC (aD a0)
   have HC:Hid (CS p op (i:Int) b↔¬((op=5\/op=7)/\(i:Int)=0)/\0<=b/\b<(l.length:Int)):=by
    show _↔_;constructor
    . rintro⟨l',h1,h2,h3,h4,h5⟩
      rw[aX,HX.o]at h2;obtain rfl:=aZ h2;exact⟨h5,h3,h4⟩
    . rintro⟨h5,h3,h4⟩
      exact⟨l,by omega,by rw[aX];exact HX.o,h3,h4,h5⟩
   by_cases q1:(op=5\/op=7)/\(i:Int)=0
   . have HN:Hid (¬CS p op (i:Int) b):=fun e=>(HC.o.1 e).1 q1
     obtain⟨q1,q2⟩:=q1;obtain rfl:i=0:=by omega
     rcases q1 with rfl|rfl
     . go_enter Tryz.func107,Tryz.ntmps107
       go_wp2_with fail
       refine(AG 0 3 _).mono ?_;rintro e u ⟨rfl,rfl⟩;go_wp2
       go_ret
       exact⟨.no HN.o,HB.o⟩
     . go_enter Tryz.func107,Tryz.ntmps107
       go_wp2_with fail
       refine(AG 0 3 _).mono ?_;rintro e u ⟨rfl,rfl⟩;go_wp2
       go_ret
       exact⟨.no HN.o,HB.o⟩
   . have hiz:((i:Int)==0)=decide (i=0):=by
      by_cases e:i=0
      . subst e
        rfl
      . rw[cI e]
        simpa using e
     have hit:decide (0<=(i:Int)/\(i:Int)<3)=true:=decide_eq_true (by omega)
     have HD:Hid (decide (0<=b/\b<(l.length:Int))=true↔CS p op (i:Int) b):=by
      show _↔_;rw[HC.o,dE];exact⟨fun e=>⟨q1,e⟩,fun e=>e.2⟩
     by_cases w5:op=5
     . subst w5
       have hi0:((i:Int)==0)=false:=by
        have:¬i=0:=fun e=>q1 ⟨.inl rfl,by omega⟩
        rw[hiz,cI this]
       clear q1 HC hiz;go_enter Tryz.func107,Tryz.ntmps107;go_wp2_with fail
       refine(AG (i:Int) 3 _).mono ?_;rintro e u ⟨rfl,rfl⟩;rw[hit];go_wp2_with fail
       go_quiet ((go_at_call 104;exact Calls.quiet_of_same (AG b (l.length:Int) _)))
       go_wp2
       go_ret
       exact⟨.of HD.o,HB.o.trans (Aj _ _ _)⟩
     . by_cases w7:op=7
       . subst w7
         have hi0:((i:Int)==0)=false:=by
          have:¬i=0:=fun e=>q1 ⟨.inr rfl,by omega⟩
          rw[hiz,cI this]
         clear q1 HC hiz w5;go_enter Tryz.func107,Tryz.ntmps107;go_wp2_with fail
         refine(AG (i:Int) 3 _).mono ?_;rintro e u ⟨rfl,rfl⟩;rw[hit];go_wp2_with fail
         go_quiet ((go_at_call 104;exact Calls.quiet_of_same (AG b (l.length:Int) _)))
         go_wp2
         go_ret
         exact⟨.of HD.o,HB.o.trans (Aj _ _ _)⟩
       . have w5':(op==5)=false:=by simpa using w5
         have w7':(op==7)=false:=by simpa using w7
         clear q1 HC hiz w5 w7;go_enter Tryz.func107,Tryz.ntmps107;go_wp2_with fail
         refine(AG (i:Int) 3 _).mono ?_;rintro e u ⟨rfl,rfl⟩;rw[hit];go_wp2_with fail
         go_quiet ((go_at_call 104;exact Calls.quiet_of_same (AG b (l.length:Int) _)))
         go_wp2
         go_ret
         exact⟨.of HD.o,HB.o.trans (Aj _ _ _)⟩
 . have HN:Hid (¬CS p op a b):=fun⟨l,h1,h2,_⟩=>q0 ⟨h1,by have:=(aE.1 h2).1;rw[H1.o.2.2.2.2.2]at this;omega⟩
   have hit:decide (0<=a/\a<3)=false:=cI q0
   clear H1;by_cases w5:op=5
   . subst w5
     go_enter Tryz.func107,Tryz.ntmps107;go_wp2_with fail
     refine(AG a 3 _).mono ?_;rintro e u ⟨rfl,rfl⟩;rw[hit];go_wp2
     go_ret
     exact⟨.no HN.o,HB.o⟩
   . have w5':(op==5)=false:=by simpa using w5
     go_enter Tryz.func107,Tryz.ntmps107;go_wp2_with fail
     refine(AG a 3 _).mono ?_;rintro e u ⟨rfl,rfl⟩;rw[hit];go_wp2
     go_ret
     exact⟨.no HN.o,HB.o⟩
def Jm(f:MF):List Int:=(f.code.filter fun x=>decide (x.op=28)).map MI.a
def Ey(fs:List MF)(done:List Int)(i:Nat):Bool:= !done.contains (i:Int)&&match fs[i]? with|some f=>(Jm f).all fun a=>done.contains a|none=>false
def JV(fs:List MF)(done:List Int):Option Nat:=(List.range fs.length).find? (Ey fs done)
def FJ(fs:List MF):Nat->List Int->List Int
 |0,done=>done
 |k+1,done=>match JV fs done with|some i=>FJ fs k (done++[(i:Int)])|none=>[]
def Hp(fs:List MF):List Int:=FJ fs fs.length []
theorem Ng{fs:List MF}{done:List Int}{i:Nat}(h1:i<fs.length)(h2:Ey fs done i=true)(h3:∀j,j<i->Ey fs done j=false):JV fs done=some i:=by
 unfold JV;rw[List.find?_eq_some_iff_append];refine⟨h2,(List.range i),(List.range' (i+1) (fs.length-i-1)),?_,fun a ha=> ?_⟩
 . rw[List.range_eq_range',List.range_eq_range',show fs.length=i+(1+(fs.length-i-1))by omega,<-List.range'_append_1,<-List.range'_append_1]
   simp
 . rw[h3 a (by simpa using ha)]
   rfl
theorem Nf{fs:List MF}{done:List Int}(h:∀j,j<fs.length->Ey fs done j=false):JV fs done=none:=by
 unfold JV;rw[List.find?_eq_none];intro a ha;rw[h a (by simpa using ha)];exact dG
theorem Qs{p:MP}(h:Ck p){i:Nat}{f:MF}(hf:p.funcs[i]?=some f){a:Int}(ha:a∈Jm f):0<=a/\a<(p.funcs.length:Int):=by
 unfold Jm at ha;obtain⟨x,hx,rfl⟩:=cE.1 ha;obtain⟨hx1,hx2⟩:=dW.1 hx;simp only[dE]at hx2;obtain⟨k,hk⟩:=bt hx1;have hi:=h i (aE.1 hf).1 f hf k (aE.1 hk).1 x hk;obtain⟨_,_,h3⟩:=hi;have e:Az x.op=11:=by rw[hx2];rfl
 rw[e]at h3;unfold AJ at h3;simp[AL]at h3;exact⟨h3.1,h3.2.1⟩
def MN:List Int->List Int->Bool
 |[],[]=>true
 |s::ss,t::ts=>(t==0||s==t)&&MN ss ts
 |_,_=>false
theorem KW{a b:List Int}(hl:a.length=b.length):MN a b=true↔∀(i:Nat) s t,a[i]?=some s->b[i]?=some t->t=0\/s=t:=by
 induction a generalizing b with
 | nil=>
   cases b with
   |nil=>simp[MN]
   |cons _ _=>simp at hl
 | cons v r ih=>
   cases b with
   |nil=>simp at hl
   | cons t q=>
     simp only[MN,eG,Bool.or_eq_true,beq_iff_eq];rw[ih (by simpa using hl)];constructor
     . rintro⟨h1,h2⟩ i s u hs hu
       cases i with
       |zero=>simp only[aJ,aM]at hs hu;subst hs hu;exact h1
       |succ i=>simp only[aL]at hs hu;exact h2 i s u hs hu
     . intro h
       exact⟨h 0 v t rfl rfl,fun i s u hs hu=>h (i+1) s u (by simpa using hs) (by simpa using hu)⟩
def QX(p:MP)(f:MF)(x:MI)(sh:List Int):Nat:=sh.length-(Au p f x).length
def Hq(p:MP)(f:MF)(x:MI)(sh:List Int):List Int:=sh.take (QX p f x sh)++(Ay p f x).map fun t=>if t=0 then(sh[QX p f x sh]?).getD 0 else t
def CK(p:MP)(f:MF)(x:MI)(sh:List Int):Int:=
 if sh.length<(Au p f x).length then 1
 else if MN (sh.drop (QX p f x sh)) (Au p f x)=false\/(x.op=27/\AA f x.a≠3)then 2
 else if 64<(Hq p f x sh).length then 3 else 0
def TZ(op:Int):Prop:=op=25\/op=26\/op=27
structure SI(p:MP)(f:MF)(shs:List (List Int))(i:Nat)(x:MI)(sh:List Int):Prop where
 types:sh.all DZ=true
 high:sh.length<=64
 ret:x.op=29->sh=BJ f
 code:x.op≠29->CK p f x sh=0
 next:x.op≠29->x.op≠25->shs[i+1]?=some (Hq p f x sh)
 named:TZ x.op->shs[x.c.toNat]?=some (Hq p f x sh)
structure Un(p:MP)(f:MF)(shs:List (List Int)):Prop where
 len:shs.length=f.code.length
 first:shs[0]?=some []
 all:∀(i:Nat) x sh,f.code[i]?=some x->shs[i]?=some sh->SI p f shs i x sh
end Go.Proofs.YtjcamlobelcepaaGreatDoor
