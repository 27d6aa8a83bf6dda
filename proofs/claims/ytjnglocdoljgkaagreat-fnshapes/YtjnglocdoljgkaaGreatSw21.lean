import Derived.Test.YtjnglocdoljgkaaGreatSw20
namespace Go.Proofs.YtjnglocdoljgkaaGreat
open Go.ChangeShapes Go.WideShapes Go.ChangeAt Go.RowKit
set_option linter.unusedVariables false
open Go.Value renaming slice → Z,int → Ac
open Option renaming some → K,none → M
open Go renaming Value → J,World → Y,Calls → Ae,TypeId → Af
open Go.RowKit renaming Hid → Aa,Below → Ad
open Go.IntKind renaming i64 → Ab
set_option maxHeartbeats 8000000
set_option maxRecDepth 100000
variable {a V:J}{B m cV j k S:Nat}{zs xs:List Int}{z c:Int}{q:Nat->Prop}{s:Ci}{p:MP}
theorem GA(z:Int):∀u∈[iZ z],u.oneCell'=true:= λu a=>by simp at a;subst a;rfl
theorem Ot(zs:List Int)(z:Int):zs.flatMap Ah++[iZ z]=(zs++[z]).flatMap Ah:=by rw[lJ];rfl
theorem Wu{f:Array Oper}{rest:List Oper}{o:Oper}{a:Act}{Q:Exit->Act->Y->Prop}{wr:Y}{e:Option Addr}{s x:Operand}(j:wr.ownsRow B 2 1 (Z e m cV) m (zs.flatMap Ah))(i:B<= ↑wr)
 (h:∀g cap b,b.ownsRow B 2 1 (sG g (m+1) cap) (m+1) ((zs++[z]).flatMap Ah)->(wr.alloc (.cells #[iZ z] 2)).grownBy b (Z e m cV).ownBlock->wpList Tryz.prog f Q rest (a.put o.dst (sG g (m+1) cap)) b)
 (k:o.guard=M:=by rfl) (n:o.op=.call {callee:=.builtin .append,args:=#[s,x],argTypes:=#[36,36]}:=by rfl) (p:a.eval s=Z e m cV:=by rfl) (q:a.eval x=Z wr 1 1:=by rfl) (y:m<=1000000:=by omega):wpList Tryz.prog f Q (o::rest) a (wr.alloc (.cells #[iZ z] 2)):=by
 obtain⟨v,l,r,t,u⟩:=lU Bt;refine wpList_append_lies _ k s x 36 n B 2 v (iZ 0) 1 8 Tryz.underlying36 l r t u rfl dC _ m _ p (Am j (Ag _ _) lR) wr 1 1 [iZ z] q rfl (Dw wr _ _) (GA _) oM oX oM (kT i (Ag _ _).size) _ rfl ?_;intro g cap b h1 h2 _ _;rw[Ot]at h1;exact h g cap b h1 h2
theorem OT(h: ↑zs=m):(zs++[z]).length=m+1:=by rw[kJ,h];rfl
theorem QS{w:Y}{a:Option Addr}{n c j:Nat}{x:Int}(h:Rd w 1 (Z a n c) n (xs.flatMap Ah))(p:j<n)(k:xs[j]?=K x):∃g o,a=K ⟨g,o,M⟩/\w.cell? ⟨g,o+j,M⟩=K (iZ x):=by
 rcases h.2 with⟨e0,_⟩|⟨f,l,c1,b,i⟩
 . omega
 simp only[jc,lO]at b;exact⟨f,l,b.1,i j _ (Ik k)⟩
theorem T4{w u:Y}{B S n f:Nat}{g:Option Addr}(h:w.ownsRow B 2 1 (Z g n cV) n (zs.flatMap Ah))(k:AM S w u)(m:S<B)(p:zs.length=n)(q:f<n):∃a z,z∈zs/\g=K ⟨a,0,M⟩/\u.cell? ⟨a,f,M⟩=K (iZ z):=by
 have i:=BG h k.grow (λb j e=>by have:=(h.lt b j).1;simp only[kK]at e;omega);rcases Bz i with⟨e,l⟩|⟨a,c,e⟩
 . omega
 simp only[jc]at e;obtain⟨rfl,_⟩:=e;have c0:=lV i f oM;rw[Ik (an (show f< ↑zs from oM))]at c0
 exact⟨a,_,mW _,rfl,c0⟩
theorem Rt(u:Y):(u.alloc (.cells #[] 2)).ownsRow u 2 1 (sG u 0 0) 0 []/\Ad u u (u.alloc (.cells #[] 2)):=⟨⟨rfl,.inr ⟨u,0,#[],rfl,Nat.le_refl _,nJ _ _,Nat.le_refl _,mu _,rfl,sP⟩⟩,Ag _ _⟩
def Dr(s:Ci)(p m:Int)(u e:Y):Prop:=∃b,p<=b/\b<=p+m/\DE e s.S s.a s.len s.cap b/\AM s.S u e
def UN(s:Ci)(p m:Int)(q:Nat->Prop)(u:Y)(e:Ending)(a:Y):Prop:=∃r:Int,e=.returned (iZ r)/\(r=-1\/∃b:Nat,r=b/\q b)/\Dr s p m u a
def Cq(q:Nat->Prop)(zs:List Int):Prop:=∀z∈zs,∃b:Nat,z=b/\q b
theorem Cq.add(h:Cq q zs)(a:q j):Cq q (zs++[(j:Int)]):= λz b=>by
 rcases kS.1 b with e|e
 . exact h z e
 exact⟨j,by simpa using e,a⟩
def Pk(u wr:Y)(a:Option Addr)(m cV:Nat)(zs:List Int)(q:Nat->Prop):Prop:= ↑zs=m/\wr.ownsRow u 2 1 (Z a m cV) m (zs.flatMap Ah)/\Ad u u wr/\Cq q zs
theorem Pk.zero(u:Y)(q:Nat->Prop):Pk u (u.alloc (.cells #[] 2)) u 0 0 [] q:=⟨rfl,(Rt u).1,(Rt u).2, λz a=>by cases a⟩
theorem Ru{u wr a:Y}{b:Option Addr}{g cap:Nat}(E:Aa (Pk u wr b m cV zs q))(h:a.ownsRow u 2 1 (sG g (m+1) cap) (m+1) ((zs++[(j:Int)]).flatMap Ah))(i:(wr.alloc (.cells #[iZ (j:Int)] 2)).grownBy a (Z b m cV).ownBlock)(k:q j):Aa (Pk u a g (m+1) cap (zs++[(j:Int)]) q):=
 have⟨h1,h2,e,f⟩:=E.o
 ⟨OT h1,h,(Ai e lR (Ag _ _)).grown i (kT e.size (Ag _ _).size) (λq l=>(h2.lt q l).1),f.add k⟩
theorem JY(u:Y)(s:Ci)(p t:Int)(F:J)(xs:List Int)(C:DE u s.S s.a s.len s.cap p)(hp:p+1<=1000000000000)(k:Rd u 1 F xs.length (xs.flatMap Ah))(U:xs.length<=1000):
 Ae Tryz.prog 116 #[.pointer (K ⟨s.S,0,M⟩),F,iZ t,iZ 256] u (UN s p 1 (λb=>xs[b]?=K t) u):=by
 obtain⟨a,c,rfl⟩:=Rd.fu k;have H:=Ap (ji C k);have N:=Ap H.o.1.lt;generalize B:xs.length=n at H U⊢;have I:=Ap B;clear C k B;go_enter Tryz.func116,Tryz.ntmps116;go_wp2_with fail;go_loopw [9,10] (λV i wr=>∃(j m:Nat) (g:Option Addr) (zs:List Int) (cV:Nat),j<=n/\j<=256/\V=Z g m cV/\i=iZ j/\m<=j/\Aa (Pk u wr g m cV zs λb=>xs[b]?=K t)) (λ_ i _=>n-(intOf i).toNat)
 case atStart=>exact⟨0,0,_,[],_,oM,oM,rfl,rfl,oM,Pk.zero u _⟩
 obtain⟨j,m,g,zs,cV,hj,ae,rfl,rfl,aj,f⟩:=hrel;by_cases W:j<n/\j<256
 case pos=>
  obtain⟨h1,h2⟩:=W;have v:(j:Int)<(n:Int):=oM;have T:(j:Int)<256:=oM;obtain⟨x,l⟩:∃x,xs[j]?=K x:=⟨_,an (by rw[I.o];exact h1)⟩;obtain⟨ga,oa,rfl,kz⟩:=QS (Rd.bM H.o.2 f.o.2.2.1 lR) h1 l;have O:=Ap l;clear l;cases hxt:(x==t)
  case false=>go_wp2_with fail;go_roundw;(case rel=>exact⟨j+1,m,g,zs,cV,oM,oM,rfl,by go_num,oM,f⟩);exact oI
  have L:Aa (x=t):=eq_of_beq hxt;go_wp2_with (first|(at_builtin;refine Wu f.o.2.1 f.o.2.2.1.size ?_;intro Q P w5 y A;have G:=Ru f y A (O.o.trans (congrArg K L.o));clear y A)|go_in);go_roundw;case rel=>exact⟨j+1,m+1,K ⟨Q,0,M⟩,zs++[(j:Int)],P,oM,oM,rfl,by go_num,oM,G⟩
  exact oI
 by_cases h1:j<n;case' pos=>have v:(j:Int)<(n:Int):=oM;have T:¬(j:Int)<256:=oM
 case' neg=>have v:¬(j:Int)<(n:Int):=oM
 all_goals
  by_cases X:m=0;case pos=>subst X;go_wp2_with fail;go_ret;exact⟨-1,rfl,.inl rfl,p,oM,oM,H.o.1.below f.o.2.2.1,.iw f.o.2.2.1⟩
  have ah:((m:Int)==0)=false:=by rw[nD];omega
  go_wp2_with fail;refine(AA (H.o.1.below f.o.2.2.1) hp (n:=(m:Int)) oM oM).mono ?_;rintro e u2 ⟨r,R,a8,rfl,D,h⟩;obtain⟨rn,rfl⟩:=kU R;obtain⟨gv,z,E,rfl,c0⟩:=T4 f.o.2.1 h N.o f.o.1 (show rn<m from oM);have q:=Ap (ji (f.o.2.2.2 z E) (ji D ((AM.iw f.o.2.2.1).trans h)));clear D h E f;go_wp2_with fail;go_ret;exact⟨z,rfl,.inr q.o.1,p+1,oM,oM,q.o.2⟩
def UP(s:Ci)(u:Y)(b:J)(xs:List Int):Prop:=∀a,AM s.S u a->Rd a 1 b xs (xs.flatMap Ah)
theorem UP.rd{u:Y}(h:UP s u a xs):Rd u 1 a xs (xs.flatMap Ah):=h u (AM.refl _ _)
theorem UP.draw{u b:Y}(h:UP s u a xs)(e:AM s.S u b):UP s b a xs:= λf h2=>h f (e.trans h2)
theorem UP.own{u:Y}(h:u.ownsRow B 2 1 a xs (xs.flatMap Ah))(i:s.S<B):UP s u a xs:= λj g=>Rd.gM (BG h g.grow (λb f e=>by have:=(h.lt b f).1;simp only[kK]at e;omega))
def UL(s:Ci)(p m:Int)(q:Nat->Nat->Prop)(u:Y)(e:Ending)(f:Y):Prop:=∃r a:Int,e=.returned (.tuple #[iZ r,iZ a])/\(r=-1\/∃b m:Nat,r=b/\a=m/\q b m)/\Dr s p m u f
theorem Mk.next(h:Mk m)(a:m*2+2<=100):Mk (m*2+1):=by unfold Mk at*;omega
theorem LW(u:Y)(s:Ci)(p t:Int)(Q:J)(xs:List Int)(C:DE u s.S s.a s.len s.cap p)(hp:p+102<=1000000000000)(B:UP s u Q xs)(hl:xs.length<=100):
 Ae Tryz.prog 84 #[.pointer (K ⟨s.S,0,M⟩),Q,iZ t] u (UL s p 102 (λb m=>Mk m/\∀j,j<=m->xs[b+j]?=K t) u):=by
 have aq:=C.low;obtain⟨a,c,rfl⟩:=Rd.fu B.rd;have H:=Ap (ji C B);generalize O:xs.length=n at H hl⊢;have k:=Ap O;clear C B O;go_enter Tryz.func84,Tryz.ntmps84;go_wp2_with fail;refine(JY u s p t (Z a n c) xs H.o.1 oM (by rw[k.o];have:=H.o.2.rd;rw[k.o]at this;exact this) (by rw[k.o];omega)).mono ?_;rintro e R ⟨r,rfl,rfl|⟨q,rfl,A⟩,z,au,aw,D,y⟩;case inl=>go_wp2_with fail;refine kY (v:=.tuple #[iZ (-1),iZ 0]) (by simp[results,Tryz.results84,go_sem]) rfl ?_;exact⟨-1,0,rfl,.inl rfl,z,oM,oM,D,y⟩
 have aD:q<n:=by have:=(iV.1 A).1;rw[k.o]at this;exact this
 have T:=Ap (ji D y);have U:=Ap A;have V:Aa (Rd R 1 (Z a n c) n (xs.flatMap Ah)):=by have:=(H.o.2.draw y).rd;rw[k.o]at this;exact this
 clear D y A;have aE:¬(q:Int)<0:=oM;go_wp2_with fail;go_loopw [9] (λi wr=>∃m:Nat,q+m<=n/\i=iZ m/\wr=R/\Aa (∀j,j<m->xs[q+j]?=K t)) (λi _=>n-(intOf i).toNat)
 case atStart=>exact⟨0,oM,rfl,rfl, λj l=>absurd l (Nat.not_lt_zero _)⟩
 obtain⟨m,hm,rfl,rfl,I⟩:=hrel;by_cases N:q+m<n;case' pos=>
  have aj:((q+m:Nat):Int)<(n:Int):=oM;have a8:(q:Int)+(m:Int)<(n:Int):=oM;obtain⟨x,E⟩:∃x,xs[q+m]?=K x:=⟨_,an (by rw[k.o];exact N)⟩;obtain⟨ga,oa,rfl,kz⟩:=QS V.o N E;have ao:((q:Int)+(m:Int)).toNat=q+m:=oM;have X:=Ap E;clear E;cases hxt:(x==t)
  case' true=>
   go_wp2_with fail;go_roundw;(case rel=>exact⟨m+1,oM,by go_num,trivial, λj l=>by
    by_cases e:j=m
    . subst e;rw[X.o,eq_of_beq hxt]
    exact I.o j oM⟩)
   exact oI
 case' neg=>have a8:¬(q:Int)+(m:Int)<(n:Int):=oM
 all_goals
  have am:Aa (0<m\/m=0):=by show _\/_;omega
  have W:Aa (∀j,j<=0->xs[q+j]?=K t):= λj l=>by rw[Nat.le_zero.1 l];exact U.o
  go_wp2_with fail;go_loopw [10] (λi wr=>∃(f:Nat) (g:Int),(f=0\/f<m)/\i=iZ f/\(z<=g/\g<=z+f)/\Aa (Mk f/\DE wr s.S s.a s.len s.cap g/\AM s.S u wr)) (λi _=>m-(intOf i).toNat)
  case atStart=>exact⟨0,z,.inl rfl,rfl,oM,.inl rfl,T.o⟩
  obtain⟨f,g,ae,rfl,aA,h⟩:=hrel;have G:Aa (∀j,j<=f->xs[q+j]?=K t):= λj l=>by
   rcases ae with e|e
   . exact W.o j oM
   exact I.o j oM
  by_cases ah:(f:Int)*2+2<=(m:Int);case neg=>go_wp2_with fail;refine kY (v:=.tuple #[iZ (q:Int),iZ (f:Int)]) (by simp[results,Tryz.results84,go_sem]) rfl ?_;exact⟨_,_,rfl,.inr ⟨q,f,rfl,rfl,h.o.1,G.o⟩,g,oM,oM,h.o.2⟩
  go_wp2_with fail;refine(DN h.o.2.1).mono ?_;rintro e u3 ⟨b,rfl,P,L⟩;have F:=Ap (ji P (h.o.2.2.trans L));clear P L;cases b
  . go_wp2_with fail;refine kY (v:=.tuple #[iZ (q:Int),iZ (f:Int)]) (by simp[results,Tryz.results84,go_sem]) rfl ?_;exact⟨_,_,rfl,.inr ⟨q,f,rfl,rfl,h.o.1,G.o⟩,g+1,oM,oM,F.o⟩
  go_wp2_with fail;go_roundw;case rel=>exact⟨f*2+1,g+1,.inr oM,by go_num,oM,h.o.1.next oM,F.o⟩
  exact oI
def DS(L:List Int):Nat:=(L.map λx=>(4294967296-x).toNat).sum
theorem SL{L:List Int}{x c:Int}(h:L[k]?=K x)(e:x<c)(b:c<=4294967295):DS (L.set k c)<DS L:=by
 induction L generalizing k with
 |nil=>cases h
 | cons y r a=>
   cases k with
   | zero=>simp only[jt,kK]at h;subst h;simp only[DS,lI,mo,List.sum_cons];omega
   | succ k=>simp only[kI]at h;have:=a h;simp only[DS,lM,mo,List.sum_cons]at this⊢;omega
def Yf(x:Int):Prop:=-1<=x/\x<=4294967295
theorem Nn{C:List Int}:(C.flatMap Ah).set k (iZ c)=(C.set k c).flatMap Ah:=by
 induction C generalizing k with
 |nil=>rfl
 | cons y r a=>
   cases k with
   |zero=>rfl
   | succ k=>rw[lM,kX,kX];show Ah y++_=_;rw[<-a];rfl
theorem J9{P:Int->Prop}{L:List Int}(h:∀x∈L,P x)(a:P c):∀x∈L.set k c,P x:= λx b=>by
 rcases m7 b with e|e
 . exact h x e
 subst e;exact a
structure Wy(w u0 u:Y)(G n:Nat)(x:GV)(bad:Bool)(I:List Nat)(C:List Int)(gn cn:Nat)(P:Nat->Bool)(gB:Nat)(L:List Int):Prop where
 gr:Gr w u G n x bad I C
 jZ:u.ownsRow w 4 1 (sG gn n cn) n (bv P n)
 own:u.ownsRow u0 2 1 (sG gB n n) n (L.flatMap Ah)
 ll: ↑L=n
 lb:∀y∈L,Yf y
 lo:(w:Nat)<= ↑u0/\G< ↑u0/\x.gi< ↑u0/\x.gc< ↑u0/\gn< ↑u0
 fr:∀b,b< ↑u0->b≠G->u.heap[b]?=u0.heap[b]?
section
variable {w u0 u:Y} {G n:Nat} {x:GV} {bad:Bool} {I:List Nat} {C:List Int} {gn cn:Nat} {P:Nat->Bool} {gB:Nat} {L:List Int}
theorem Wy.i9(h:Wy w u0 u G n x bad I C gn cn P gB L):Wy w u0 (u.setCell ⟨G,8,M⟩ (.bool true)) G n x true I C gn cn P gB L:=by have f:=(AD h.own).1;have g:=h.lo;refine{h with gr:=h.gr.i9,jZ:=Ck h.jZ λe=> ?_,own:=Ck h.own oM,fr:= λb h1 h2=>by rw[lZ u ⟨G,8,M⟩ b _ h2];exact h.fr b h1 h2};obtain⟨_,c1,a⟩:=AD h.jZ;have e3:=h.gr.gR;unfold Ar at e3;rw[e,e3]at a;cases a
theorem Wy.set(h:Wy w u0 u G n x bad I C gn cn P gB L)(k:Nat)(e:Yf c):Wy w u0 (u.setCell ⟨gB,k,M⟩ (iZ c)) G n x bad I C gn cn P gB (L.set k c):=by have f:=(AD h.own).1;have g:=h.lo;have a:=(mq h.own k (iZ c)).1;rw[Nn]at a;exact{h with gr:=h.gr.other oM oM oM oM,jZ:=Ck h.jZ oM,own:=a,ll:=by rw[mU];exact h.ll,lb:=J9 h.lb e,fr:= λb h1 h2=>by rw[lZ u ⟨gB,k,M⟩ b _ (by show b≠gB;omega)];exact h.fr b h1 h2}
theorem Wy.bM{e:Y}(h:Wy w u0 u G n x bad I C gn cn P gB L)(a:Ad u u e):Wy w u0 e G n x bad I C gn cn P gB L:=by
 have g:∀b,b< ↑u0->b≠G->e.heap[b]?=u0.heap[b]?:= λb h1 h2=>by obtain⟨i,_,f⟩:=AD h.own;have:=(lC.1 f).1;rw[a.block b oM];exact h.fr b h1 h2
 exact{h with gr:=h.gr.bM a,jZ:=Am h.jZ a lR,own:=Am h.own a lR,fr:=g}
theorem Wy.at_(h:Wy w u0 u G n x bad I C gn cn P gB L)(b:k<n):∃y,L[k]?=K y/\Yf y/\u.cell? ⟨gB,k,M⟩=K (iZ y)/\u.frozen? ⟨gB,k,M⟩=false:=by
 have a:k<L.length:=by rw[h.ll];exact b
 have:=lV h.own k oM;rw[Ik (an a)]at this;exact⟨_,an a,h.lb _ (mW a),this,h.own.frozenAt k⟩
theorem Wy.jB(h:Wy w u0 u G n x bad I C gn cn P gB L)(a:k<n):u.cell? ⟨gn,k,M⟩=K (.bool (P k)):=by have:=lV h.jZ k oM;rw[Kw _ _ _ a]at this;exact this
end
def Rw(u:Y)(g n:Nat):Nat:=((List.range n).map λi=>match u.cell? ⟨g,i,M⟩with|some (Ac _ y)=>(4294967296-y).toNat|_=>0).sum
theorem Wy.rest{w u0 u:Y}{G n:Nat}{x:GV}{bad:Bool}{I:List Nat}{C:List Int}{gn cn:Nat}{P:Nat->Bool}{gB:Nat}{L:List Int}(h:Wy w u0 u G n x bad I C gn cn P gB L):Rw u gB n=DS L:=by
 unfold Rw DS;congr 1
 apply mV;intro k;by_cases a:k<n
 . obtain⟨y,h1,_,b,_⟩:=h.at_ a;rw[lG,lG,h1,oy a];simp only[nW,b]
 rw[lB oT,lB (by rw[kW,h.ll];omega)]
def Ka(a:J):Nat:=match a with|.bool true=>1|_=>0
theorem WZ(n:Nat):(madeCells (Ac Ab 0).cells (n*1)).toList=(List.replicate n (0:Int)).flatMap Ah:=by
 rw[Jg n (λ_=>[]) []];simp[CJ,List.flatten_replicate_singleton];induction n with
 |zero=>rfl
 |succ n a=>rw[oG,oG,kX,<-a];rfl
def XD(w u:Y)(G n:Nat)(x:GV)(I:List Nat)(C:List Int)(gn cn:Nat)(P:Nat->Bool)(e:Ending)(a:Y):Prop:=∃gB bad L,e=.returned (sG gB n n)/\Wy w u a G n x bad I C gn cn P gB L
theorem Q4{q:Prop}(h:q:=by
 go_wp2_with fail;go_roundw;case rel=>exact⟨q+1,ag,bd,L2,by omega,rfl,by go_num,HD⟩
 simp[intOf];omega):q:=h
theorem Uy{q:Prop}(h:q:=by
 go_roundw;case rel=>exact⟨m+1,ag,bd,L1,by omega,rfl,by go_num,HW⟩
 simp[intOf];omega):q:=h
theorem KZ(w u:Y)(G n:Nat)(x:GV)(bad:Bool)(I:List Nat)(C:List Int)(E:Nat->List Nat)(O:List Nat)(gn cn f:Nat)(P:Nat->Bool)(h0:n<=1048576)(hf:f<n)(h:Gr w u G n x bad I C)(hF:GF w n x E O)(hi:u.ownsRow w 4 1 (sG gn n cn) n (bv P n)):
 Ae Tryz.prog 149 #[.pointer G,iZ (f:Int),sG gn n cn] u (XD w u G n x I C gn cn P):=by
 obtain⟨k0,hk,aT,aU,aW⟩:=lU Bt;have bj:(f:Int)<(n:Int):=oM;have H:Aa (Gr w u G n x bad I C/\GF w n x E O/\u.ownsRow w 4 1 (sG gn n cn) n (bv P n)):=⟨h,hF,hi⟩
 obtain⟨p2,p3,p6,p7,p8,z8⟩:=h.cells;go_enter Tryz.func149,Tryz.ntmps149;go_wp2_with (at_make;refine mX _ rfl _ _ 36 rfl u 2 k0 (iZ 0) 1 Tryz.underlying36 hk aT aU Ab Ab _ _ n rfl rfl rfl rfl (by rw[aW];omega) oX lR ?_;intro w3 hown hgrow;rw[WZ]at hown);have aj:Ad u u w3:=(lQ _ _).grown hgrow lR (λk hk=>by cases hk);have HW:Aa (Wy w u w3 G n x bad I C gn cn P u (List.replicate n 0)):=⟨H.o.1.bM aj,Am H.o.2.2 aj lR,hown,nH, λy hy=>by rw[(List.mem_replicate.1 hy).2];exact⟨oM,oM⟩,⟨H.o.1.gG.size,H.o.1.gR.lt,by obtain⟨_,c,e⟩:=AD H.o.1.ig;exact(lC.1 e).1,by obtain⟨_,c,e⟩:=AD H.o.1.cost;exact(lC.1 e).1,by obtain⟨_,c,e⟩:=AD H.o.2.2;exact(lC.1 e).1⟩, λb h1 _=>aj.block b h1⟩;go_loopw [9] (λi wr=>∃(k:Nat) (L:List Int),k<=n/\i=iZ k/\Aa (Wy w u wr G n x bad I C gn cn P u L)) (λi _=>n-(intOf i).toNat)
 case atStart=>exact⟨0,_,oM,rfl,HW⟩
 obtain⟨k,L,bp,rfl,HW⟩:=hrel;by_cases ao:k<n
 . have aQ:(k:Int)<(n:Int):=oM;obtain⟨y,_,_,c0,z0⟩:=HW.o.at_ ao;have a8:Aa (Wy w u (wr.setCell ⟨u,k,M⟩ (iZ (-1))) G n x bad I C gn cn P u (L.set k (-1))):=HW.o.set k ⟨oM,oM⟩;go_wp2_with fail;go_roundw;(case rel=>exact⟨k+1,_,oM,by go_num,a8⟩);exact oI
 have aP:k=n:=oM;subst aP;obtain⟨p2,p3,p6,p7,p8,z8⟩:=HW.o.gr.cells;obtain⟨yf,_,aE,cf⟩:=HW.o.gr.iK hf;obtain⟨y0,_,_,c0,z0⟩:=HW.o.at_ hf;have a8:Aa (Wy w u (wr.setCell ⟨u,f,M⟩ (iZ yf)) G k x bad I C gn cn P u (L.set f yf)):=HW.o.set f ⟨by have:=aE.1;omega,aE.2⟩;go_wp2_with fail;have bq:0<k:=oM;go_loopw [10,11,12,13,14,15,16,17] (λa _ _ _ _ _ _ _ wr=>∃(ag bd:Bool) (L:List Int),a=.bool ag/\Aa (Wy w u wr G k x bd I C gn cn P u L)) (λa _ _ _ _ _ _ _ wr=>Rw wr u k+Ka a)
 case atStart=>exact⟨true,bad,_,rfl,a8⟩
 obtain⟨ag,bd,L0,rfl,HW⟩:=hrel;obtain⟨p2,p3,p6,p7,p8,z8⟩:=HW.o.gr.cells;by_cases ah:ag=true/\bd=false
 case neg=>
  cases ag
  . clear ah;go_wp2_with fail;go_ret;exact⟨_,_,_,rfl,HW.o⟩
  have aJ:bd=true:=by cases bd<;>simp at ah⊢
  subst aJ;go_wp2_with fail;go_ret;exact⟨_,_,_,rfl,HW.o⟩
 obtain⟨rfl,rfl⟩:=ah;have HR:Aa (Rw wr u k=DS L0):=HW.o.rest;go_wp2_with fail;go_loopw [10,11,12,13,14,15,16,17] (λa i _ _ _ _ _ _ wr=>∃(m:Nat) (ag bd:Bool) (L:List Int),m<=k/\a=.bool ag/\i=iZ m/\Aa (Wy w u wr G k x bd I C gn cn P u L/\DS L+Ka (.bool ag)<=DS L0)) (λ_ i _ _ _ _ _ _ _=>k-(intOf i).toNat)
 case atStart=>exact⟨0,false,_,_,oM,rfl,rfl,HW.o,Nat.le_refl _⟩
 obtain⟨m,ag,bd,L1,hm,rfl,rfl,HW⟩:=hrel;by_cases ao:m<k;case neg=>
  go_wp2_with fail;go_roundw;case rel=>exact⟨ag,bd,L1,rfl,HW.o.1⟩
  rw[HR.o,HW.o.1.rest];have:=HW.o.2;simp only[Ka]at this⊢;omega
 have aQ:(m:Int)<(k:Int):=oM;obtain⟨p2,p3,p6,p7,p8,z8⟩:=HW.o.1.gr.cells;obtain⟨b,R,o0⟩:=(H.o.2.1.at_ HW.o.1.gr.gG).1 m ao;have bi:(b:Int)<(k:Int):=oM;obtain⟨t,_,ht,i0⟩:=HW.o.1.gr.iY R;have bz:(t:Int)<(k:Int):=oM;have n0:=HW.o.1.jB R;obtain⟨y,hy,bF,b0,z0⟩:=HW.o.1.at_ ht;cases hP:P b
 case false=>rw[hP]at n0;go_wp2_with fail;exact Uy
 rw[hP]at n0;by_cases bC:y<0
 . go_wp2_with fail;exact Uy
 obtain⟨a,c,aG,hr⟩:=H.o.2.1.gr b R;have g0:=Ak HW.o.1.gr.gG aG;have HE:Aa (Iu w (Z a (E b).length c) (E b)/\∀y∈E b,y<k):=⟨hr,H.o.2.1.eb b R⟩
 have aH:=H.o.2.1.sz b;have HY:Aa (∃y,L1[t]?=K y/\0<=y):=⟨y,hy,oM⟩
 generalize bg:E b=A at HE g0 aH;go_wp2_with fail;go_loopw [10,15,16,17] (λa j _ _ wr=>∃(q:Nat) (ag bd:Bool) (L:List Int),q<= ↑A/\a=.bool ag/\j=iZ q/\Aa (Wy w u wr G k x bd I C gn cn P u L/\DS L+Ka (.bool ag)<=DS L0/\∃y,L[t]?=K y/\0<=y)) (λ_ j _ _ _=> ↑A-(intOf j).toNat)
 case atStart=>exact⟨0,ag,bd,L1,oM,rfl,rfl,HW.o.1,HW.o.2,HY.o⟩
 obtain⟨q,ag,bd,L2,hq,rfl,rfl,HW⟩:=hrel;by_cases aA:q< ↑A
 case neg=>
  go_wp2_with fail;go_roundw;case rel=>exact⟨m+1,ag,bd,L2,oM,rfl,by go_num,HW.o.1,HW.o.2.1⟩
  exact oI
 have br:(q:Int)<(A:Int):=oM;obtain⟨ga,oa,ea,_,e0⟩:=HE.o.1.at_ (an aA);have T:A[q]<k:=HE.o.2 _ (mW aA);subst ea;generalize A[q]=z at T e0;have bB:(z:Int)<(k:Int):=oM;have HT:Aa (w.cell? ⟨ga,oa+q,M⟩=K (iZ (z:Int))):=e0;obtain⟨r,hr,aq,_⟩:=HW.o.1.gr.iY T;have bt:(r:Int)<(k:Int):=oM;have HC:Aa (∀(W:Y) (bd:Bool) (L:List Int),Wy w u W G k x bd I C gn cn P u L->W.cell? ⟨G,6,M⟩=K (sG x.gi k x.ci)/\W.cell? ⟨ga,oa+q,M⟩=K (iZ (z:Int))/\W.cell? ⟨x.gi,z,M⟩=K (iZ (r:Int))):= λW bd L g=>by
  obtain⟨y',h1,_,h2⟩:=g.gr.iY T;rw[hr]at h1;cases h1
  exact⟨g.gr.cells.2.2.1,Ak g.gr.gG HT.o,h2⟩
 go_upto_region 21 with fail
 have HD:Aa (Wy w u wr.drew G k x bd I C gn cn P u L2/\DS L2+Ka (.bool ag)<=DS L0/\∃y,L2[t]?=K y/\0<=y):=⟨HW.o.1.bM (Aj _),HW.o.2⟩
 refine wp_region_held_drew (S:= λW=>W.cell? ⟨G,6,M⟩=K (sG x.gi k x.ci)/\W.cell? ⟨ga,oa+q,M⟩=K (iZ (z:Int))/\W.cell? ⟨x.gi,z,M⟩=K (iZ (r:Int))) kR (by exact HC.o _ _ _ HD.o.1) (λhHeld=> ?_)
 generalize wr.drew=UD at HD hHeld⊢;refine AE 0 ?_;refine AE 1 ?_;refine AE 2 ?_;refine AE 3 ?_;refine AE 4 ?_;refine AE 5 ?_;refine AE 6 ?_;refine AE 7 ?_;refine AE 8 ?_;refine AE 9 ?_;refine AE 10 ?_;refine wpAnyH_done kR ?_ _;have n1:=HD.o.1.jB T;obtain⟨_,e1,_⟩:=HC.o _ _ _ HD.o.1;by_cases N:P z=false\/r=t\/r=f
 case pos=>
  cases F:P z
  case false=>rw[F]at n1;exact Q4
  rw[F]at n1;by_cases aD:r=t
  . subst aD;exact Q4
  have aR:r=f:=by rcases N with e|e|e;{rw[F]at e;cases e};{exact absurd e aD};{exact e}
  subst aR;have aS:((r:Int)==(t:Int))=false:=oT;exact Q4
 have F:P z=true:=by cases e:P z;{exact absurd (.inl e) N};{rfl}
 rw[F]at n1;have aS:((r:Int)==(t:Int))=false:=by simp;intro e;exact N (.inr (.inl oM))
 have bu:((r:Int)==(f:Int))=false:=by simp;intro e;exact N (.inr (.inr oM))
 have aF:Aa (r≠t):= λe=>N (.inr (.inl e))
 go_upto_region 23 with fail
 obtain⟨p,au,bf⟩:=HD.o.2.2;obtain⟨yr,aY,aZ,_⟩:=HD.o.1.gr.iK aq;have aw:Aa (∀(W:Y) (bd:Bool),Wy w u W G k x bd I C gn cn P u L2->W.cell? ⟨u,t,M⟩=K (iZ p)/\W.cell? ⟨G,7,M⟩=K (sG x.gc k x.cc)/\W.cell? ⟨x.gc,r,M⟩=K (iZ yr)):= λW bd g=>by
  obtain⟨y1,h1,_,h2⟩:=g.gr.iK aq;obtain⟨y2,D,_,h4,_⟩:=g.at_ ht;rw[aY]at h1;rw[au]at D;cases h1
  cases D
  exact⟨h4,g.gr.cells.2.2.2.1,h2⟩
 have s:Aa (Md p/\Md yr/\L2[t]?=K p):=⟨⟨bf,by obtain⟨y2,D,h4,_⟩:=HD.o.1.at_ ht;rw[au]at D;cases D;exact h4.2⟩,aZ,au⟩
 have l:Aa (Wy w u UD.drew G k x bd I C gn cn P u L2/\DS L2+Ka (.bool ag)<=DS L0):=⟨HD.o.1.bM (Aj _),HD.o.2.1⟩
 refine wp_region_held_drew (S:= λW=>W.cell? ⟨u,t,M⟩=K (iZ p)/\W.cell? ⟨G,7,M⟩=K (sG x.gc k x.cc)/\W.cell? ⟨x.gc,r,M⟩=K (iZ yr)) kR (by exact aw.o _ _ l.o.1) (λhHeld=> ?_)
 generalize UD.drew=U2 at l hHeld⊢;refine AE 0 ?_;refine AE 1 ?_;refine AE 2 ?_;refine AE 3 ?_;refine AE 4 ?_;refine AE 5 ?_;refine AE 6 ?_;refine AE 7 ?_;refine AE 8 ?_;refine AE 9 ?_;refine AE 10 ?_;refine AE 11 ?_;refine rdH 12 ?_;intro KC hKC;go_simp;refine(F7 G p yr _ U2 s.o.1 s.o.2.1 l.o.1.gr.cells.2.2.2.2.1 l.o.1.gr.cells.2.2.2.2.2).mono ?_;rintro e U3 ⟨B,rfl,am,hU⟩;have HG:Aa (∃bd,Wy w u U3 G k x bd I C gn cn P u L2):=by
  rcases hU with rfl|rfl
  . exact⟨_,l.o.1⟩
  exact⟨_,l.o.1.i9⟩
 have HL:Aa (DS L2+Ka (.bool ag)<=DS L0):=l.o.2;refine hKC.o _ _ (by obtain⟨bd,g⟩:=HG.o;exact aw.o _ _ g) (λhHeld=> ?_);refine AE 13 ?_;refine wpAnyH_done kR ?_ _;obtain⟨Q,aI⟩:=HG.o;have ae:Aa (Wy w u U3 G k x Q I C gn cn P u L2):=aI;obtain⟨yo,aX,_,o1,z1⟩:=ae.o.at_ aq;by_cases aM:B>yo
 . have HN:Aa (Wy w u (U3.setCell ⟨u,r,M⟩ (iZ B)) G k x Q I C gn cn P u (L2.set r B)/\DS (L2.set r B)+Ka (.bool true)<=DS L0/\∃y,(L2.set r B)[t]?=K y/\0<=y):=by
    refine⟨ae.o.set r ⟨by have:=am.1;omega,am.2⟩,?_,p,?_,s.o.1.1⟩
    . have h1:=SL aX aM am.2;have h2:=HL.o;show _+1<=_;omega
    rw[mC aF.o];exact s.o.2.2
   go_wp2_with fail;go_roundw;(case rel=>exact⟨q+1,true,Q,_,oM,rfl,by go_num,HN⟩);exact oI
 . go_wp2_with fail;go_roundw;(case rel=>exact⟨q+1,ag,Q,L2,oM,rfl,by go_num,ae.o,HL.o,p,s.o.2.2,s.o.1.1⟩);exact oI
structure Du(w:Y)(S:Nat)(V:J)(xs:List Int):Prop where
 gR:Ar w S #[V] 175
 own:w.ownsRow (S+1) 2 1 V xs (xs.flatMap Ah)
theorem Du.bM{w b:Y}(h:Du w S V xs)(a:Ad w w b):Du b S V xs:=⟨h.gR.bM a,Am h.own a lR⟩
theorem Fo(S:Nat)(V:J)(xs:List Int)(w:Y)(h:Du w S V xs):Ae Tryz.prog 69 #[.pointer S] w λe a=>e=.returned (.int Ab (xs:Int))/\a=w:=by obtain⟨b,c1,rfl⟩:=Az h.own;have c0:=h.gR.cell 0;simp only[kL,jt]at c0;clear h;go_enter Tryz.func69,Tryz.ntmps69;go_wp2;go_ret;exact⟨rfl,rfl⟩
theorem Iy(S:Nat)(V g:J)(xs a:List Int)(w:Y)(h:Du w S V xs)(f:Rd w 1 g a (a.flatMap Ah))(j:xs.length<=1048576)(k:a.length<=1048576):Ae Tryz.prog 79 #[.pointer S,g] w λe n=>AC e (xs=a)/\Ad w w n:=by
 have c0:=h.gR.cell 0;simp only[kL,jt]at c0;have H:Aa (Du w S V xs/\Rd w 1 g a (a.flatMap Ah)/\xs.length<=1048576/\a.length<=1048576):=⟨h,f,j,k⟩
 obtain⟨p,c1,rfl⟩:=Az h.own;obtain⟨q,c2,rfl⟩:=f.fu;clear h f j k;go_enter Tryz.func79,Tryz.ntmps79;go_wp2_with fail;refine(Lo _ _ xs a w H.o.2.2.1 H.o.2.2.2 (Rd.gM H.o.1.own) H.o.2.1).mono ?_;rintro e u ⟨⟨b,rfl,i⟩,m,rfl⟩;have l:Aa (b=true↔xs=a):=i;clear i;go_wp2;go_ret;exact⟨⟨b,rfl,l.o⟩,As _ _ _⟩
def Kp(w:Y)(S:Nat)(V:J)(zs:List Int)(a:Y):Prop:=∃V',Du a S V' zs/\DV (λj=>j=S\/V.ownBlock=K j) w a/\(V'.ownBlock=V.ownBlock\/∀g,V'.ownBlock=K g-> ↑w<=g)
theorem Du.lt{w:Y}(h:Du w S V xs):∀g,V.ownBlock=K g->S<g/\g<w.heap.size:= λg a=>by have:=h.own.lt g a;omega
theorem Db{P:Program}{w:Y}(base:Nat)(t ty e:Af)(i:TypeInfo)(size:Nat)(b:P.underlying t=K (.slice e))(a:P.info? e=K i)(v:J)(n:Nat)(xs:List J)(h:w.ownsRow base e size v n xs)(c:Nat):(Builtin.append_ #[t,t] ty #[v,Z M 0 c]).run P w=.ok v w:=by
 rcases h.2 with⟨rfl,rfl⟩|⟨g,cap,j,rfl,_,_,f,_⟩
 . simp[Builtin.append_,run_underlying b,sizeOf,typeInfo,a,Builtin.lenOf,Builtin.firstCells]
 simp[Builtin.append_,run_underlying b,sizeOf,typeInfo,a,Builtin.lenOf,Builtin.firstCells,f,storeCells]
theorem Kp.of{w b:Y}{V':J}{a:List Int}(h:Du w S V xs)(p:b.ownsRow (S+1) 2 1 V' (xs.length+ ↑a) (xs.flatMap Ah++a.flatMap Ah))(i:w.grownBy b V.ownBlock)(l:V'.ownBlock=V.ownBlock\/V'.ownBlock=K w):Kp w S V (xs++a) (b.setCell S V'):=by
 have m:=h.gR.grown i h.own dC;have n:(xs++a).length= ↑xs+a.length:=kJ
 refine⟨V',⟨by have:=m.set 0 V';simpa using this,?_⟩,?_,?_⟩
 . rw[n,lJ];exact lL p oS _
 . exact(DV.grown (R:= λj=>j=S\/V.ownBlock=K j) (DV.refl _ _) i (λk q e=>.inr e.symm)).setCell (.inl (.inl rfl)) _
 exact l.imp_right λe g f=>by rw[e]at f;cases f;exact Nat.le_refl _
theorem MK(S:Nat)(V D:J)(xs a:List Int)(w:Y)(h:Du w S V xs)(f:Rd w 1 D a (a.flatMap Ah))(hx:xs.length<=1048576)(z:a.length<=1048576):Ae Tryz.prog 104 #[.pointer S,D] w λe w'=>e=.returned (.tuple #[])/\Kp w S V (xs++a) w':=by
 obtain⟨C,t,Q,R,T⟩:=lU Bt;obtain⟨b,c1,rfl⟩:=Az h.own;have i:Aa (Du w S (Z b xs c1) xs):=h;have c0:=h.gR.cell 0;have f0:=h.gR.frozen 0;have H:S+1<=w.heap.size:=h.gR.lt;simp only[kL,jt]at c0;obtain⟨a2,c2,rfl⟩:=f.fu;cases a2 with
 | none=>
   have B:a.length=0:=by
    rcases f.2 with⟨e0,_⟩|⟨g,o,c,k,_⟩
    . exact e0
    cases k
   have O:a=[]:=lP B;subst O;(have N:∀ty,(Builtin.append_ #[36,36] ty #[Z b xs c1,Z M 0 c2]).run Tryz.prog w=.ok (Z b xs c1) w:= λty=>Db (P:=Tryz.prog) (S+1) 36 ty 2 C 1 Tryz.underlying36 t _ _ _ h.own c2);have l:Aa (Kp w S (Z b xs c1) (xs++[]) (w.setCell S (Z b xs c1))):=Kp.of h (by simpa using h.own) ⟨rfl,rfl,rfl,Nat.le_refl _, λ_ _ _=>rfl⟩ (.inl rfl);clear h f z B;rw[mD];go_enter Tryz.func104,Tryz.ntmps104;go_wp2_with (at_builtin;refine Lib.wpList_append_run _ rfl _ _ _ _ rfl _ _ rfl rfl _ _ (N _) ?_);refine oR (v:=.tuple #[]) kR rfl ?_;exact⟨rfl,l.o⟩
 | some ad=>
   have F:Aa (∀j u,(a.flatMap Ah)[j]?=K u->w.cell? (ad.add j)=K u):= λj u y=>by
    rcases f.2 with⟨e0,_⟩|⟨g,o,c,k,I⟩
    . have:a=[]:=lP e0;subst this;simp at y
    simp only[jc,kK]at k;obtain⟨rfl,_⟩:=k;rw[Da];exact I j u y
   clear h f;generalize A:a.length=m at z⊢;have s:Aa (↑a=m):=A
   clear A;go_enter Tryz.func104,Tryz.ntmps104;go_wp2_with (at_builtin;refine wpList_append_own_at _ rfl _ _ 36 rfl (S+1) 2 C (.int Ab 0) 1 8 Tryz.underlying36 t Q R T rfl dC _ xs (xs.flatMap Ah) rfl i.o.own ad m c2 (a.flatMap Ah) rfl (by rw[Au Ah 1 Ao,s.o]) F.o (BZ _) (by simp[maxLen];omega) oM H ?_;intro v5 w5 hown hgrow L hat;have l:Aa (Kp w S (Z b xs c1) (xs++a) (w5.setCell S v5)):=Kp.of i.o (by rw[s.o];exact hown) hgrow hat;have p:=i.o.gR.grown hgrow i.o.own dC;have W:=p.cell 0;have k1:=p.frozen 0;simp only[kL,jt]at W;obtain⟨a5,c5,G⟩:=Az hown;subst G;clear hown hgrow L hat p);refine oR (v:=.tuple #[]) kR rfl ?_;exact⟨rfl,l.o⟩
theorem Kb(f:J)(a:List Int)(w:Y)(j:Rd w 1 f a (a.flatMap Ah))(l:a.length<=1048576):Ae Tryz.prog 66 #[f] w λe m=>e=.returned (.pointer w)/\(∃V,Du m w V a)/\Ad w w m:=by
 have b:Aa (Du (w.alloc (.cells #[Z M 0 0] 175)) w (Z M 0 0) []/\Ad w w (w.alloc (.cells #[Z M 0 0] 175))):=⟨⟨Ar.new _ _ _,lq _ _ _ _⟩,Ag _ _⟩
 have H:Aa (Rd w 1 f a (a.flatMap Ah)/\a.length<=1048576):=⟨j,l⟩
 clear j l;go_enter Tryz.func66,Tryz.ntmps66;go_wp2_with fail;refine(MK w (Z M 0 0) f [] a _ b.o.1 (H.o.1.bM b.o.2 lR) sP H.o.2).mono ?_;rintro e u ⟨rfl,V',i,h,_⟩;have g:Aa (Du u w V' a/\Ad w w u):=⟨i,b.o.2.trans (h.below b.o.2.size (λk n e=>by
  rcases e with e|e
  . omega
  cases e))⟩
 clear i h b;go_wp2_with fail;go_ret;exact⟨rfl,⟨V',g.o.1⟩,g.o.2⟩
def Rf(n:Int):J:=if n=0 then .nilIface else .iface 124 (iZ n)
def Dh(e:Ending)(p:MP):Prop:=∃n,e=.returned (Rf n)/\A8 p n
theorem Dh.f1(h:¬AP p.a7):Dh (.returned (.iface 124 (iZ 1))) p:=⟨1,rfl,.inl ⟨rfl,h⟩⟩
theorem Dh.f2(h1:AP p.a7)(h:¬Bg p.aC):Dh (.returned (.iface 124 (iZ 2))) p:=⟨2,rfl,.inr (.inl ⟨rfl,h1,h⟩)⟩
theorem Dh.f3(h1:AP p.a7/\Bg p.aC)(h:¬Bn p.cC):Dh (.returned (.iface 124 (iZ 3))) p:=⟨3,rfl,.inr (.inr (.inl ⟨rfl,h1.1,h1.2,h⟩))⟩
theorem Dh.f4(h1:AP p.a7/\Bg p.aC)(h2:Bn p.cC)(h:¬CQ p):Dh (.returned (.iface 124 (iZ 4))) p:=⟨4,rfl,.inr (.inr (.inr (.inl ⟨rfl,h1.1,h1.2,h2,h⟩)))⟩
theorem Dh.f5(h1:AP p.a7/\Bg p.aC)(h2:Bn p.cC)(a:CQ p)(h:¬BD p):Dh (.returned (.iface 124 (iZ 5))) p:=⟨5,rfl,.inr (.inr (.inr (.inr (.inl ⟨rfl,h1.1,h1.2,h2,a,h⟩))))⟩
theorem Dh.f0(h1:AP p.a7/\Bg p.aC)(h2:Bn p.cC)(a:CQ p)(h:BD p):Dh (.returned .nilIface) p:=⟨0,rfl,.inr (.inr (.inr (.inr (.inr ⟨rfl,h1.1,h1.2,h2,a,h⟩))))⟩
theorem Jx(v:VP)(p:MP)(w:Y)(Q:p.small)(R:p.wf)(h:Cz w v p)(O:Dm w v.r p.a7)(P:GY w v.f p.cC):
 Ae Tryz.prog 27 #[.agg #[v.r,v.k,v.f,v.t]] w λe w'=>Dh e p/\Ad w w w':=by
 have H:=Ap (ji Q (ji R (ji h (ji O P))));clear Q R h O P;have s:Aa _:=LG.of w v.r v.k v.f v.t 28;go_enter Tryz.func27,Tryz.ntmps27;go_wp2_with fail;refine(Kf v.r p.a7 _ H.o.1.a7 H.o.1.region (H.o.2.2.1.a7.bM s.o.gG lR)).mono ?_;rintro e u1 ⟨⟨T,rfl,y⟩,rfl⟩;cases T
 . (have a:Aa (¬AP p.a7):= λe=>by simp[e]at y);clear y;go_wp2;go_ret;exact⟨.f1 a.o,s.o.gG⟩
 have F:=Ap (y.1 rfl);clear y;go_wp2_with fail;refine(Kz v.k p.aC _ H.o.1.aC (λc hc=>(RV (H.o.2.1.aC c hc).2).1) (H.o.2.2.1.aC.bM s.o.gG lR)).mono ?_;rintro e u2 ⟨⟨U,rfl,z⟩,G⟩;have u:=Ap (s.o.bM G);clear G;cases U
 . (have a:Aa (¬Bg p.aC):= λe=>by simp[e]at z);clear z;go_wp2;go_ret;exact⟨.f2 F.o a.o,u.o.gG⟩
 have i:=Ap (ji F.o (z.1 rfl));clear z;obtain⟨j,l,m,n⟩:=u.o.prog;go_wp2_with fail;refine(LS v.f p.cC _ H.o.1.cC H.o.1.func (H.o.2.2.1.cC.bM u.o.gG lR)).mono ?_;rintro e u3 ⟨⟨V,rfl,A⟩,I⟩;have b:=Ap (u.o.bM I);clear I j l m n;cases V
 . (have a:Aa (¬Bn p.cC):= λe=>by simp[e]at A);clear A;go_wp2;go_ret;exact⟨.f3 i.o a.o,b.o.gG⟩
 have q:=Ap (A.1 rfl);clear A;obtain⟨j,l,m,n⟩:=b.o.prog;go_wp2_with fail;refine(LL v p _ H.o.1 H.o.2.1 i.o.1 q.o (H.o.2.2.1.bM b.o.gG lR) (H.o.2.2.2.1.bM b.o.gG lR)).mono ?_;rintro e u4 ⟨⟨W,rfl,B⟩,L⟩;have g:=Ap (b.o.bM L);clear L j l m n;cases W
 . (have a:Aa (¬CQ p):= λe=>by simp[e]at B);clear B;go_wp2;go_ret;exact⟨.f4 i.o q.o a.o,g.o.gG⟩
 have D:=Ap (B.1 rfl);clear B;obtain⟨j,l,m,n⟩:=g.o.prog;go_wp2_with fail;refine(LK v p _ H.o.1 (H.o.2.2.1.bM g.o.gG lR) (H.o.2.2.2.2.bM g.o.gG lR)).mono ?_;rintro e u5 ⟨⟨X,rfl,C⟩,N⟩;have E:=Ap (Ai g.o.gG lR N);clear N j l m n;cases X
 . (have a:Aa (¬BD p):= λe=>by simp[e]at C);clear C;go_wp2;go_ret;exact⟨.f5 i.o q.o D.o a.o,E.o⟩
 have S:Aa (BD p):=C.1 rfl;clear C;go_wp2;go_ret;exact⟨.f0 i.o q.o D.o S.o,E.o⟩
end Go.Proofs.YtjnglocdoljgkaaGreat
