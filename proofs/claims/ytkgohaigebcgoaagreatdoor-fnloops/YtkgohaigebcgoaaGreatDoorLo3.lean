import Derived.Test.YtkgohaigebcgoaaGreatDoorLo1
import Derived.Deep.RegionHeld
import Derived.StillTail
import Derived.Maps.AppendAt
import Derived.Laws.StructEq
namespace Go.Proofs.YtkgohaigebcgoaaGreatDoor
open Go.ChangeShapes Go.WideShapes Go.ChangeAt Go.RowKit Go.Proofs.Tryz
set_option linter.unusedVariables false
open Option renaming some → K,none → M
open Go.IntKind renaming i64 → Af
open Go.Value renaming int → Ag,agg → An,slice → Z,bool → Ao
open Go renaming Value → J,World → Y,TypeId → Aj,Calls → Ai
open Go.World renaming setCell → Aa,ownsRow → Ab,alloc → Ac
open List renaming flatMap → Ad
open Go.Obj renaming cells → Ak
open Go.RowKit renaming Below → Ah,Hid → Ae
open Go.Ending renaming returned → Am
open Go.Proofs.Tryz renaming prog → Aq
set_option maxHeartbeats 4000000
set_option maxRecDepth 100000
variable {p:MP}{i g B q:Nat}{rs:List Nat}{s:J}{R:Nat->Prop}{z:Int}
def CJ(p:MP)(r c:Int):Int:=if r<0\/2<r\/c<0 then 0 else(p.az.getD r.toNat []).getD c.toNat 0
theorem LM{r c:Int}(h:r<0\/2<r\/c<0):CJ p r c=0:=jP h
theorem Ei{r c:Nat}(h:r<=2){l:List Int}(a:p.az[r]?=K l):CJ p r c=l.getD c 0:=by
 unfold CJ;have e:p.az.getD r []=l:=by rw[jQ,a];rfl
 rw[jH oM,i9,i9,e]
theorem XE:(Tryz.prog.info? 193).map (λi=>(i.zero,i.size,i.bytes))=K (K (An #[Ag Af 0,Ag .u32 0]),2,16):=kR
section
variable {P:Program} {ops:Array Oper} {Q:Exit->Act->Y->Prop} {md:Region.Mode} {S:Y->Prop} {n:Nat}
def Ds(P:Program)(md:Region.Mode)(ops:Array Oper)(Q:Exit->Act->Y->Prop)(S:Y->Prop)(n:Nat):Nat->Array Bool->Act->Y->Prop
 |0,d,a,w=>Region.ready md ops d=[]/\Q .normal a w
 |f+1,d,a,w=>(Region.ready md ops d=[]->Q .normal a w)/\∀i∈Region.ready md ops d,wpOp P ops Q i (λa' b=>(i<n->S b)/\Ds P md ops Q S n f (d.setIfInBounds i true) a' b) a w
theorem M1:∀(f:Nat) (d:Array Bool) (a:Act) (w:Y),Ds P md ops Q S n f d a w->wpAny P md ops Q f d a w
 |0,_,_,_,h=>h
 |f+1,_,_,_,h=>⟨h.1, λi c=>wpOp_mono (λa' e b=>M1 f _ a' e b.2) (h.2 i c)⟩
theorem PS{m:Oper}{v:J}(x:ops[i]?=K m)(D:∀(j:Nat) (o:Oper) cs b,ops[j]?=K o->o.op≠ .select cs b)
 (I:∀c a w,Q (.panic c) (a.put m.dst v) w->Q (.panic c) a w) (hs:Region.sinkB md ops n=true) (O:Region.chainB md ops n=true) (hn:n<ops.size) (V:i<n):
 ∀ (f:Nat) (d:Array Bool) (a:Act) (w:Y),HeadInv md ops n d->
   (∀j p,ops[j]?=K p->j≠i->d.getD j true=false->(∀e∈p.after,Region.binds md e=true->e.on≠i)->m.apart ops p=true)->
   i∈Region.ready md ops d->YieldsIf P ops S m v a->S w->
   Ds P md ops Q S n f (d.setIfInBounds i true) (a.put m.dst v) w->Ds P md ops Q S n (f+1) d a w:=by
 intro f;induction f with
 | zero=>
   intro d a w _ _ l u r H;refine⟨λh=>(by rw[h]at l;cases l), λj q=> ?_⟩;by_cases g:j=i
   . subst g;exact u.wpOp x r ⟨λ_=>r,H⟩
   have:=ready_mono q g;rw[H.1]at this;cases this
 | succ f ih=>
   intro d a w F z l u r H;refine⟨λh=>(by rw[h]at l;cases l), λj q=> ?_⟩;by_cases g:j=i
   . subst g;exact u.wpOp x r ⟨λ_=>r,H⟩
   (have B:j<n:=Nat.lt_of_not_le λh=>tail_waits hs O hn F _ i rfl V (mem_ready.1 l).1 j h q);have s:=H.2 j (ready_mono q g);obtain⟨C,p,y,L⟩:=mem_ready.1 q;(have ae:∀e∈p.after,Region.binds md e=true->e.on≠i:= λe R N T=>by have s:=L e R N;rw[T,getD_both (mem_ready.1 l).1]at s;cases s);have G:=wpOp_putIf y (z j p y g C ae) (λcs b=>D i m cs b x) (λcs b=>D j p cs b y) I u s;have U:∀k ok,ops[k]?=K ok->k≠i->(d.setIfInBounds j true).getD k true=false->
    (∀e∈ok.after,Region.binds md e=true->e.on≠i)->m.apart ops ok=true:= λk ok W X E aa=>by
    refine z k ok W X ?_ aa;by_cases A:j=k
    . subst A;exact C
    rw[getD_set_ne true A]at E;exact E
   refine wpOp_mono (λa' w' t=>⟨t.2.1,ih (d.setIfInBounds j true) a' w' (F.set q B) U (ready_mono l (Ne.symm g)) t.1 (t.2.1 B) ?_⟩) G;rw[Array.setIfInBounds_comm _ _ g];exact t.2.2
def TN(md:Region.Mode)(ops:Array Oper)(n:Nat)(d:Array Bool):Bool:=d.size==ops.size&&(List.range ops.size).all (λj=> !d.getD j false||((ops[j]?).map (·.after.all λe=> !Region.binds md e||d.getD e.on false)).getD true)&&(List.range ops.size).all (λt=>decide (t<n)|| !d.getD t true)&&Region.sinkB md ops n&&Region.chainB md ops n&&decide (n<ops.size)
theorem SN{d:Array Bool}(h:TN md ops n d=true):HeadInv md ops n d/\Region.sinkB md ops n=true/\Region.chainB md ops n=true/\n<ops.size:=by
 simp only[TN,ky,lC,beq_iff_eq]at h;obtain⟨⟨⟨⟨⟨b,c⟩,f⟩,g⟩,i⟩,k⟩:=h;refine⟨⟨b, λj r a p e m l=> ?_, λt ht q=> ?_⟩,g,i,k⟩
 . have:=lX.1 c j (k6.2 (jS.1 a).1);rw[p,a]at this;simp only[Bool.not_true,Bool.false_or,lw,mL]at this;have:=Array.all_eq_true'.1 this e m;rw[l]at this;simpa using this
 have:=lX.1 f t (k6.2 q);rw[kj oM]at this;simpa using this
theorem RX{e:Oper}{v:J}{f:Nat}{d:Array Bool}{a:Act}{w:Y}(g:ops[i]?=K e)
 (r:Region.noSelect ops=true) (m:Region.free md ops d i=true) (q:(Region.ready md ops d).contains i=true) (l:TN md ops n d=true) (p:i<n)
 (j:∀c a w,Q (.panic c) (a.put e.dst v) w->Q (.panic c) a w) (s:YieldsIf P ops S e v a) (k:S w)
 (h:Ds P md ops Q S n f (d.setIfInBounds i true) (a.put e.dst v) w):Ds P md ops Q S n (f+1) d a w:=
 have b:=SN l
 PS g (Region.noSelect_spec r) j b.2.1 b.2.2.1 b.2.2.2 p f d a w b.1 (Region.free_spec g m) (by simpa using q) s k h
def DJ(P:Program)(md:Region.Mode)(ops:Array Oper)(Q:Exit->Act->Y->Prop)(S:Y->Prop)(n f:Nat)(d:Array Bool)(a:Act)(w:Y)(rs:List Nat):Prop:=∀i∈rs,wpOp P ops Q i (λa' b=>(i<n->S b)/\Ds P md ops Q S n f (d.setIfInBounds i true) a' b) a w
theorem DJ.nil{f:Nat}{d:Array Bool}{a:Act}{w:Y}:DJ P md ops Q S n f d a w []:= λ_ h=>by cases h
theorem DJ.cons{f:Nat}{d:Array Bool}{a:Act}{w:Y}{o:Oper}(k:ops[i]?=K o)
 (h:∀K':Act->Y->Prop,Shut (∀a w,(i<n->S w)->((i<n->S w)->Ds P md ops Q S n f (d.setIfInBounds i true) a w)->K' a w)->if Region.wanted o (yielded ops a.tmps)=true then Oper.wp P o a w K' Q else K' (a.put o.dst undef) w)
 (l:DJ P md ops Q S n f d a w rs):DJ P md ops Q S n f d a w (i::rs):= λj b=>by
 rcases jK.1 b with rfl|b
 . have:=h (λa' e=>(j<n->S e)/\Ds P md ops Q S n f (d.setIfInBounds j true) a' e) (show Shut _ from λa w c g=>⟨c,g c⟩)
   unfold wpOp;simp only[k];split
   . rename_i hw;simp only[hw,if_true]at this;exact .inl this
   rename_i hw;simp only[hw]at this;exact this
 exact l j b
theorem PT{f:Nat}{d:Array Bool}{a:Act}{w:Y}(b:Region.ready md ops d=rs)(e:rs≠[])
 (h:DJ P md ops Q S n f d a w rs):Ds P md ops Q S n (f+1) d a w:=⟨λc=>absurd (b▸c) e,b▸h⟩
theorem ER{d:Array Bool}{a:Act}{w:Y}(b:Region.ready md ops d=[])(h:Q .normal a w):∀f,Ds P md ops Q S n f d a w
 |0=>⟨b,h⟩
 |_+1=>⟨λ_=>h,by rw[b];simp⟩
theorem CF(n:Nat){id:Nat}{a:Act}{w:Y}(c:P.follows .mixedOrders=true)(b:S w.drew)
 (h:S w.drew->Ds P .any ops Q S n ops.size (Array.replicate ops.size false) a w.drew):(Code.region id ops true).wp P Q a w:=
 wp_region_any c (M1 _ _ _ _ (h b))
end
theorem SM{w wr:Y}(h:w.grownBy wr (K g))(i:Nat)(x:J):w.grownBy (Aa wr ⟨g,i,M⟩ x) (K g):=⟨h.os,h.tape,h.output,by rw[lk];exact h.size, λk b a=>(lj wr _ k x (λe=>a (by rw[e]))).trans (h.block k b a)⟩
theorem DI{w b:Y}{base:Nat}{e:Aj}{k n:Nat}{xs:List J}{row:Option Nat}(h:Ab w base e k s n xs)(f:w.grownBy b row)(i:∀g,s.ownBlock=K g->K g≠row):Ab b base e k s n xs:=by
 refine⟨h.1,?_⟩;rcases h.2 with h|⟨g,cap,c,rfl,d,a,j⟩
 . exact .inl h
 refine .inr ⟨g,cap,c,rfl,d,?_,j⟩;rw[f.block g (jS.1 a).1 (i g rfl)];exact a
def Kq(x y:J×List Int):Prop:=∀g,x.1.ownBlock=K g->y.1.ownBlock≠K g
theorem Kq.symm{x y:J×List Int}(h:Kq x y):Kq y x:= λg a e=>h g e a
structure CO(w:Y)(base:Nat)(L:List (J×List Int)):Prop where
 own:∀x∈L,Ab w base 2 1 x.1 x.2 (x.2.flatMap As)
 sep:L.Pairwise Kq
theorem CO.put{w k:Y}{base:Nat}{A B:List (J×List Int)}{v:J}{c c':List Int}(h:CO w base (A++(v,c)::B))(q:c'.length= ↑c)(r:Ab k base 2 1 v c (Ad As c'))(m:w.grownBy k v.ownBlock):CO k base (A++(v,c')::B):=by
 obtain⟨t,u,j⟩:=kv.1 h.sep;obtain⟨n,z⟩:=kY.1 u;refine⟨λx d=> ?_,kv.2 ⟨t,kY.2 ⟨λy s=>n y s,z⟩, λa l b f=> ?_⟩⟩
 . rcases jL.1 d with d|d
   . exact DI (h.own x (jL.2 (.inl d))) m (λg i e=>j x d (v,c) sP g i e.symm)
   rcases jK.1 d with rfl|d
   . simp only[];rw[q];exact r
   exact DI (h.own x (jL.2 (.inr (kh _ d)))) m (λg i e=>n x d g e.symm i)
 rcases jK.1 f with rfl|f
 . exact λg p=>j a l (v,c) sP g p
 exact j a l b (kh _ f)
theorem Uq(w:Y)(cs:Array J)(t:Aj):(Ac w (Ak cs t)).heap[w.heap.size]?=K (Ak cs t (0,0)):=mY
theorem N5{w:Y}{fs:List MF}{f:MF}(h:Qi w s fs)(b:fs[q]?=K f):∃gk ok ck,s=Z (K ⟨gk,ok,M⟩) fs ck/\∃g:VF,FH w g f/\w ⟨gk,ok+q*4,M⟩=K g.p/\w ⟨gk,ok+q*4+1,M⟩=K ↑f.cu/\w ⟨gk,ok+q*4+2,M⟩=K g.l/\w ⟨gk,ok+q*4+3,M⟩=K g.c:=by
 obtain⟨xs,i,j,k⟩:=h;have n:=(f7.1 b).1;rcases j.2 with⟨e,_⟩|⟨gk,ok,ck,e,d⟩
 . omega
 obtain⟨x,a,m⟩:∃x,xs[q]?=K x/\x.1=f:=by
  rw[<-i,jY]at b;cases a:xs[q]? with
  |none=>rw[a]at b;cases b
  |some x=>rw[a]at b;exact⟨x,rfl,jM b⟩
 subst m;exact⟨gk,ok,ck,e,x.2,k x (hC a),Rd.elem AK d q x a 0 _ rfl,Rd.elem AK d q x a 1 _ rfl,Rd.elem AK d q x a 2 _ rfl,Rd.elem AK d q x a 3 _ rfl⟩
theorem XC{w:Y}{is:List MI}{x:MI}(h:Rd w 4 s is (Ad MI.cells is))(d:is[q]?=K x):∃gk ok ck,s=Z (K ⟨gk,ok,M⟩) is ck/\w ⟨gk,ok+q*4,M⟩=K ↑x.op/\w ⟨gk,ok+q*4+1,M⟩=K ↑x.a/\w ⟨gk,ok+q*4+2,M⟩=K ↑x.b/\w ⟨gk,ok+q*4+3,M⟩=K ↑x.c:=by
 have g:=(f7.1 d).1;rcases h.2 with⟨e,_⟩|⟨gk,ok,ck,e,f⟩
 . omega
 exact⟨gk,ok,ck,e,Rd.elem MI.bW f q x d 0 _ rfl,Rd.elem MI.bW f q x d 1 _ rfl,Rd.elem MI.bW f q x d 2 _ rfl,Rd.elem MI.bW f q x d 3 _ rfl⟩
structure DX(R:Nat->Prop)(u u':Y):Prop where
 os:u'.os=u.os
 tape:u'.tape=u.tape
 output:u'.output=u.output
 size:(u:Nat)<= ↑u'
 block:∀k,k< ↑u->¬R k->u'.heap[k]?=u.heap[k]?
theorem DX.of{u a:Y}(h:Ah u u a):DX R u a:=⟨h.os,h.tape,h.output,h.size, λk b _=>h.block k b⟩
theorem DX.refl(R:Nat->Prop)(u:Y):DX R u u:=⟨rfl,rfl,rfl,Nat.le_refl _, λ_ _ _=>rfl⟩
theorem DX.trans{g:Nat->Prop}{a b c:Y}(h:DX R a b)(d:DX g b c)(j:∀k,k< ↑a->g k->R k):DX R a c:=⟨d.os.trans h.os,d.tape.trans h.tape,d.output.trans h.output,jN h.size d.size, λk f i=>(d.block k (lA f h.size) (λe=>i (j k f e))).trans (h.block k f i)⟩
theorem DX.below{a b:Y}(h:DX R a b)(e:B<= ↑a)(c:∀k,k<B->¬R k):Ah B a b:=⟨h.os,h.tape,h.output,h.size, λk d=>h.block k oM (c k d)⟩
theorem DX.eP{a b:Y}(h:DX R a b){c:Array J}{ty:Aj}(d:Ay a g c ty)(e:¬R g):Ay b g c ty:=by unfold Ay at*;rw[h.block g (jS.1 d).1 e];exact d
theorem DX.setCell{a b:Y}(h:DX R a b){ad:Addr}(c:R ad.block\/ ↑a<=ad.block)(x:J):DX R a (b.setCell ad x):=by
 refine⟨h.os,h.tape,h.output,by rw[lk];exact h.size, λk f d=> ?_⟩;have g:k≠ad.block:= λe=>by
  rcases c with c|c
  . exact d (e▸c)
  omega
 rw[Below.heap_setCell _ _ _ _ g];exact h.block k f d
theorem DX.grown{a b c:Y}(h:DX R a b){r:Option Nat}(d:b.grownBy c r)(i:∀k,k< ↑a->K k=r->R k):DX R a c:=⟨d.os.trans h.os,d.tape.trans h.tape,d.output.trans h.output,jN h.size d.size, λk f g=>(d.block k (lA f h.size) (λe=>g (i k f e))).trans (h.block k f g)⟩
theorem DX.own{u d:Y}(l:DX R u d){e:Aj}{k n:Nat}{xs:List J}(h:Ab u B e k s n xs)(m:∀b,s.ownBlock=K b->¬R b):Ab d B e k s n xs:=by
 refine⟨h.1,?_⟩;rcases h.2 with i|⟨g,cap,f,a,j,c,p⟩
 . exact .inl i
 refine .inr ⟨g,cap,f,a,j,?_,p⟩;rw[l.block g (jS.1 c).1 (m g (by rw[a];rfl))];exact c
theorem DX.on{a b c:Y}(h:DX R a b)(d:Ah b b c):DX R a c:=h.trans (DX.of (R:=R) d) (λ_ _ e=>e)
def CodeAt(w:Y)(g:Nat)(a:Option Addr)(len:Nat):Prop:=len=0\/∃b c,a=K ⟨b,c,M⟩/\b<g/\∀i,i<len->∃v:Int,0<=v/\v<=255/\w ⟨b,c+i,M⟩=K (Ag .u8 v)
theorem JA(a:Option Addr)(len cap i n g:Nat)(w:Y)(D:len<=1048576)(p:i<=2)(F:2<=n)(G:n<=100)(f:CodeAt w g a len):
 Ai Aq 6 #[Z a len cap,i,n] w λe x=>(∃k:Nat,k<n/\e=Am k)/\Ah w w x:=by
 have B:¬((n:Int)<=1):=oM;by_cases s:len=0;case pos=>
  have t:((len:Int)==0)=true:=by rw[beq_iff_eq];omega
  go_enter func6,ntmps6;go_wp2_with fail;go_ret;exact⟨⟨i*7 % n,Nat.mod_lt _ oM,by rw[Int.natCast_emod,Int.natCast_mul];rfl⟩,jZ _ _⟩
 have t:((len:Int)==0)=false:=by rw[mN];omega
 have H:0<(len:Int):=oM;rcases f with f|⟨b,u,rfl,C,j⟩
 . exact absurd f s
 have h:i % len<len:=Nat.mod_lt _ oM;obtain⟨v,L,N,l⟩:=j (i % len) h;obtain⟨z,rfl⟩:∃z:Nat,v=(z:Int):=⟨v.toNat,oM⟩;have r:i / len<=2:=jN (Nat.div_le_self _ _) p;obtain⟨m,c⟩:∃m,i % len=m:=⟨_,rfl⟩;obtain⟨q,d⟩:∃q,i / len=q:=⟨_,rfl⟩;have y:(i:Int) % (len:Int)=(m:Int):=by rw[<-c];rfl
 have A:(i:Int) / (len:Int)=(q:Int):=by rw[<-d];rfl
 rw[c]at l h;rw[d]at r;have I:w.drew ⟨b,u+m,M⟩=K (Ag .u8 (z:Int)):=l;have E:(m:Int)<(len:Int):=oM;clear j c d;go_enter func6,ntmps6;go_upto_region 5 with fail
 go_region;go_wp2_with fail;go_ret;exact⟨⟨(z+q*3) % n,Nat.mod_lt _ oM,by rw[Int.natCast_emod,Int.natCast_add,Int.natCast_mul];rfl⟩,At w⟩
section
variable {u:Y} {b:Nat} {t:Aj} {x0 x1 x2 x3 x4 x5 x6 x7 x8:J}
theorem Ay.w7(h:Ay u b #[x0,x1,x2,x3,x4,x5,x6] t)(a c d e f g i:J):Ay (Aa (Aa (Aa (Aa (Aa (Aa (u.setCell b a) ⟨b,1,M⟩ c) ⟨b,2,M⟩ d) ⟨b,3,M⟩ e) ⟨b,4,M⟩ f) ⟨b,5,M⟩ g) ⟨b,6,M⟩ i) b #[a,c,d,e,f,g,i] t:=by have:=((((((h.set 0 a).set 1 c).set 2 d).set 3 e).set 4 f).set 5 g).set 6 i;simpa using this
theorem qX{w:Y}(h:Ah B w u)(a:B<=b)(c d e f g i j:J):Ah B w (Aa (Aa (Aa (Aa (Aa (Aa (u.setCell b c) ⟨b,1,M⟩ d) ⟨b,2,M⟩ e) ⟨b,3,M⟩ f) ⟨b,4,M⟩ g) ⟨b,5,M⟩ i) ⟨b,6,M⟩ j):=((((((h.setCell a _).setCell a _).setCell a _).setCell a _).setCell a _).setCell a _).setCell a _
end
theorem pg:(Tryz.prog.info? 45).map (λi=>(i.zero,i.size,i.bytes))=K (K (Z M 0 0),1,24):=kR
structure Cj(f:MF):Prop where
 par:f.aD.length<=8
 loc:f.aD.length+ ↑f.a7<=32
 pt:f.aD.all Fd=true
 lt:f.a7.all Fd=true
 eY:f.cu=0\/Fd f.cu=true
 code0:¬f.aU.length=0
 j7:f.aU.length<=1024
def Wx(f:MF):Prop:=f.aD.length=0/\f.cu=0
structure MB where
 cz:Int
 last:Int
 next:List Int
def Dq(x:MB×J):List J:=[x.1.cz,x.1.last,x.2]
theorem Bo(x:MB×J):(Dq x).length=3:=rfl
theorem qp:(Tryz.prog.info? 97).map (λi=>(i.zero,i.size,i.bytes))=K (K (An #[Ag Af 0,Ag Af 0,Z M 0 0]),3,40):=kR
def DQ(F:List (MB×J)):List (J×List Int):=F.map λx=>(x.2,x.1.next)
theorem FF{w:Y}{base g k n:Nat}{e t:Aj}{xs:List J}{c:Array J}{f:Nat×Nat}(h:Ab w base e k s n xs)(i:w.heap[g]?=K (Obj.cells c t f))(l:e≠t):∀j,s.ownBlock=K j->j≠g:=by
 intro j b d;subst d;rcases h.2 with⟨rfl,_⟩|⟨q,m,p,rfl,_,a,_⟩
 . cases b
 simp only[Value.ownBlock,jJ]at b;subst b;rw[i]at a;simp only[jJ,lQ]at a;exact l a.2.1.symm
theorem CO.set{w:Y}{base g:Nat}{L:List (J×List Int)}(h:CO w base L){c:Array J}{t:Aj}{d:Nat×Nat}(f:w.heap[g]?=K (Obj.cells c t d))(j:2≠t)(i:Nat)(x:J):CO (Aa w ⟨g,i,M⟩ x) base L:=⟨λy b=>kK (h.own y b) (a:=⟨g,i,M⟩) (λe=>FF (h.own y b) f j g e rfl) x,h.sep⟩
theorem AY{w:Y}{base g k n c:Nat}{e:Aj}{xs:List J}(h:Ab w base e k (Z g n c) n xs):base<=g/\∃a,w.heap[g]?=K (Obj.cells a e (0,0)):=by
 rcases h.2 with⟨b,_⟩|⟨j,i,a,b,d,f,_⟩
 . cases b
 cases b
 exact⟨d,a,f⟩
structure qe where
 e:Aj
 k:Nat
 v:J
 n:Nat
 xs:List J
def qW(b:Nat)(t:Aj)(k:Nat)(xs:List J):qe:=⟨t,k,Z b 1 1,1,xs⟩
abbrev gb(X:Nat)(v:VP):qe:=qW X 40 4 [v.r,v.k,v.f,v.t]
theorem Iy{w:Y}{a:Option Addr}{len cap:Nat}{c:List Int}
 (h:(a=M/\len=0/\cap=0/\c=[])\/∃x,a=K x/\len<=cap/\cap<=maxLen/\ ↑c=cap/\(∀i,i< ↑c->w (x.add i)=K (.int .u8 (c.getD i 0)))/\∀n∈c,(Lit.int .u8 n).wf=true):
 CodeAt w w a len:=by
 rcases h with⟨_,h,_⟩|⟨x,rfl,p,q,r,d,k⟩
 . exact .inl h
 by_cases j:len=0
 . exact .inl j
 obtain⟨b,e,m⟩:=x;have l:m=M:=by simpa[Addr.add]using World.cell?_spot (d 0 oM)
 subst l;have f:∀i,(⟨b,e,M⟩:Addr).add i=⟨b,e+i,M⟩:= λi=>by unfold Addr.add;split<;>simp_all
 refine .inr ⟨b,e,rfl,?_, λi t=> ?_⟩
 . have:=d 0 oM;rw[f]at this;exact i7 this
 have g:=d i oM;rw[f]at g;refine⟨_,?_,?_,g⟩;all_goals
  have hw:=k (c.getD i 0) (by
   rw[jQ,an (show i< ↑c from oM)]
   exact mu _)
  have s:0<=c.getD i 0/\c.getD i 0<=255:=by simpa[Lit.wf,IntKind.min,IntKind.max,IntKind.signed,IntKind.bits]using hw
  omega
section
variable {P:Program} {ops:Array Oper} {Q:Exit->Act->Y->Prop} {md:Region.Mode} {S:Y->Prop} {n f:Nat} {d:Array Bool} {a:Act} {w:Y}
def qA(md:Region.Mode)(ops:Array Oper)(d:Array Bool)(i:Nat):Bool:=Region.noSelect ops&&Region.free md ops d i&&(Region.ready md ops d).contains i
theorem YH(h:qA md ops d i=true):Region.noSelect ops=true/\Region.free md ops d i=true/\(Region.ready md ops d).contains i=true:=by simp only[qA,ky]at h;exact⟨h.1.1,h.1.2,h.2⟩
theorem A5(i:Nat){b:Oper}{v:J}(h:wpAnyH P md ops Q S f (d.setIfInBounds i true) (a.put b.dst v) w)(l:ops[i]?=K b:=by rfl)(j:qA md ops d i=true:=by kernel_rfl)(e:∀c a w,Q (.panic c) (a.put b.dst v) w->Q (.panic c) a w:=by exact λ_ _ _ h=>h)(hw:Region.wanted b (yielded ops a.tmps)=true:=by rfl)
 (m:∀w,S w->(execOp a.eval b).run P w=.ok (.value v) w:=by(intro w hSw;(try dsimp only at hSw);(repeat obtain⟨hSa,hSw⟩:=hSw);go_simp;(try with_reducible rfl))) (g:S w:=by assumption):wpAnyH P md ops Q S (f+1) d a w:=
 have k:=YH j
 wpAnyH_take l k.1 k.2.1 k.2.2 e (.inl ⟨hw,m⟩) g h
theorem tkU(i:Nat){b:Oper}(h:wpAnyH P md ops Q S f (d.setIfInBounds i true) (a.put b.dst undef) w)(l:ops[i]?=K b:=by rfl)(j:qA md ops d i=true:=by kernel_rfl)(e:∀c a w,Q (.panic c) (a.put b.dst undef) w->Q (.panic c) a w:=by exact λ_ _ _ h=>h)(hw:Region.wanted b (yielded ops a.tmps)=false:=by rfl)(g:S w:=by assumption):wpAnyH P md ops Q S (f+1) d a w:=
 have k:=YH j
 wpAnyH_take l k.1 k.2.1 k.2.2 e (.inr ⟨hw,rfl⟩) g h
theorem FI(i:Nat){b:Oper}{v:J}(h:Ds P md ops Q S n f (d.setIfInBounds i true) (a.put b.dst v) w)(p:ops[i]?=K b:=by rfl)(m:(qA md ops d i&&TN md ops n d&&decide (i<n))=true:=by kernel_rfl)(j:∀c a w,Q (.panic c) (a.put b.dst v) w->Q (.panic c) a w:=by exact λ_ _ _ h=>h)(hw:Region.wanted b (yielded ops a.tmps)=true:=by rfl)
 (q:∀w,S w->(execOp a.eval b).run P w=.ok (.value v) w:=by(intro w hSw;(try dsimp only at hSw);(repeat obtain⟨hSa,hSw⟩:=hSw);go_simp;(try with_reducible rfl))) (l:S w:=by assumption):Ds P md ops Q S n (f+1) d a w:=
 have e:=Bool.and_eq_true_iff.1 m
 have g:=Bool.and_eq_true_iff.1 e.1
 have k:=YH g.1
 RX p k.1 k.2.1 k.2.2 g.2 (mm e.2) j (.inl ⟨hw,q⟩) l h
theorem DU(i:Nat){o:Oper}(h:∀K':Act->Y->Prop,Shut (∀a w,S w->(S w->wpAnyH P md ops Q S f (d.setIfInBounds i true) a w)->K' a w)->if Region.wanted o (yielded ops a.tmps)=true then Oper.wp P o a w K' Q else K' (a.put o.dst undef) w)(c:Region.ready md ops d=[i]:=by kernel_rfl)(b:ops[i]?=K o:=by rfl):wpAnyH P md ops Q S (f+1) d a w:=wpAnyH_ready c sP (AllReadyH.cons b h AllReadyH.nil)
theorem Ox(i:Nat){o:Oper}(h:∀K':Act->Y->Prop,Shut (∀a w,(i<n->S w)->((i<n->S w)->Ds P md ops Q S n f (d.setIfInBounds i true) a w)->K' a w)->if Region.wanted o (yielded ops a.tmps)=true then Oper.wp P o a w K' Q else K' (a.put o.dst undef) w)(c:Region.ready md ops d=[i]:=by kernel_rfl)(b:ops[i]?=K o:=by rfl):Ds P md ops Q S n (f+1) d a w:=PT c sP (DJ.cons b h DJ.nil)
end
theorem _root_.Go.Shut.o{p:Prop}(h:Shut p):p:=h
structure MG where
 func:Int
 at_:Int
 base:Int
 a7:List MC
def MG.small(f:MG):Prop:=f.a7.length<=1048576
def BG(x:MG×J):List J:=[x.1.func,x.1.at_,x.1.base,x.2]
theorem Ch(x:MG×J):(BG x).length=4:=rfl
theorem qs:(Tryz.prog.info? 132).map (λi=>(i.zero,i.size,i.bytes))=K (K (An #[Ag Af 0,Ag Af 0,Ag Af 0,Z M 0 0]),4,48):=kR
def CI(c:MC):Prop:=Fd c.type=true/\(c.type=1->c.word<=1)
def BC(cs:List MC):Prop:=cs.length<=64/\∀j,j<cs.length->∀c,cs[j]?=K c->CI c
theorem GH{α:Type}{q:α->Prop}{xs:List α}{k:Nat}{x:α}(b:xs[k]?=K x)(d:q x)(h:∀j,j<k->∀c,xs[j]?=K c->q c):∀j,j<k+1->∀c,xs[j]?=K c->q c:=by
 intro j f c a;by_cases e:j=k
 . subst e;rw[b]at a;exact(jM a)▸d
 exact h j oM c a
def YP(w:Y)(v:J)(f:MB):Prop:=Rd w 1 v f.next (Ad As f.next)
theorem YP.av{w a:Y}{v:J}{f:MB}(h:YP w v f)(c:Ah B w a)(b: ↑w<=B):YP a v f:=Rd.av h c b
def K8(w:Y)(s:J)(fs:List MB):Prop:=∃xs:List (MB×J),xs.map Prod.fst=fs/\Rd w 3 s fs (Ad Dq xs)/\∀x∈xs,YP w x.2 x.1
theorem K8.av{w c:Y}{fs:List MB}(h:K8 w s fs)(b:Ah B w c)(a: ↑w<=B):K8 c s fs:=by obtain⟨xs,d,e,f⟩:=h;exact⟨xs,d,e.av b a, λx g=>(f x g).av b a⟩
structure OR(p:MP)(a b c:Int):Prop where
 low:0<=c
 fS:c<256
 gv:bits .and Af c (c+1)=0
 there:¬CJ p a b=0
 one:∀j:Nat,(j:Int)<=c->CJ p a (b+j)=CJ p a b
theorem C9(a:-9223372036854775808<=z:=by omega)(b:z<=9223372036854775807:=by omega):Fb z:=by simp[Fb,Lit.wf,IntKind.min,IntKind.max,IntKind.signed,IntKind.bits];omega
theorem LD(h:Fb z):-9223372036854775808<=z/\z<=9223372036854775807:=by simpa[Fb,Lit.wf,IntKind.min,IntKind.max,IntKind.signed,IntKind.bits]using h
theorem GL(s:J)(ys:List Int)(w:Y)(z:ys.length<=1048576)(h:Rd w 1 s ys (Ad As ys)):
 Ai Aq 157 #[s] w λe A=>e=Am (ys.all Fd)/\A=w:=by
 have b:=Aw h;obtain⟨B,c1,rfl⟩:=h.aP;generalize r:ys.length=n at z b;have d:=Aw r;generalize a:ys.all Fd=R;have f:=Aw a;go_enter func157,ntmps157;go_wp2;go_loopw [7] (λi wr=>∃k:Nat,k<=n/\i=iZ k/\Ae ((ys.take k).all Fd=true)/\wr=w) (λi _=>n-(intOf i).toNat)
 case atStart=>exact⟨0,oM,rfl,by simp[Ae],rfl⟩
 obtain⟨k,D,rfl,j,rfl⟩:=hrel;by_cases y:k<n
 . obtain⟨x,p⟩:∃x,ys[k]?=K x:=⟨_,an (by rw[d];exact y)⟩;rcases b.2 with⟨C,_⟩|⟨g,o,c,m,t⟩
   . omega
   simp only[i8,kW]at m;obtain⟨rfl,rfl⟩:=m;have i0:=Rd.elem AE t k x p 0 _ rfl;rw[lJ,jV]at i0;have l:=Aw p;go_wp2_with fail;refine(Ck x wr).mono ?_;rintro e u ⟨rfl,rfl⟩;cases hq:Fd x with
   | false=>(have a:R=false:=by rw[<-f];exact YY _ _ _ (hC l) hq);subst a;go_wp2;go_ret;exact⟨rfl,rfl⟩
   | true=>(have q:Ae ((ys.take (k+1)).all Fd=true):=by show _=_;rw[WE _ _ _ _ l j];exact hq);go_wp2;go_roundw;(case rel=>exact⟨k+1,oM,by go_num,q,by trivial⟩);exact oI
 have v:k=n:=oM;subst v;have a:R=true:=by rw[<-f,<-j,<-d,List.take_length]
 subst a;go_wp2;go_ret;exact⟨rfl,rfl⟩
def Ji(r:List Int):Prop:=r.length<=256/\r.all Fd=true
def A7(rs:List (List Int)):Prop:=rs.length=3/\∀j,j<rs.length->∀r,rs[j]?=K r->Ji r
theorem Lk(s:J)(fs:List (List Int))(w:Y)(F:fs.length<=1048576)(N:∀f∈fs,f.length<=1048576)(h:OT w s fs):
 Ai Aq 120 #[s] w λe P=>AM e (A7 fs)/\P=w:=by
 obtain⟨xs,B,A,I⟩:=h;have O:xs.length=fs.length:=by rw[<-B];simp
 have d:=Aw (fd A (fd B (fd I (fd N O))));obtain⟨Q,c1,rfl⟩:=A.aP;generalize G:fs.length=n at F d;have l:=Aw G;by_cases C:n=3
 . subst C;go_enter func120,ntmps120;go_wp2;go_loopw [10] (λi wr=>∃k:Nat,k<=3/\i=iZ k/\Ae (∀j,j<k->∀r,fs[j]?=K r->Ji r)/\wr=w) (λi _=>3-(intOf i).toNat)
   (case atStart=>exact⟨0,oM,rfl, λj V=>oM,rfl⟩);obtain⟨k,W,rfl,z,rfl⟩:=hrel;by_cases t:k<3
   . obtain⟨⟨f,v⟩,y⟩:∃x,xs[k]?=K x:=⟨_,an (by rw[d.2.2.2.2];exact t)⟩;have p:=Ga d.2.1 y;have q:=d.2.2.1 _ (hC y);have g:=Aw (fd q (fd (d.2.2.2.1 _ (hC p)) p));rcases d.1.2 with⟨T,_⟩|⟨b,o,c,p,H⟩
     . omega
     simp only[i8,kW]at p;obtain⟨rfl,rfl⟩:=p;have i0:=Rd.elem DB H k _ y 0 _ rfl;rw[lJ,jV]at i0;simp only[]at i0 q;obtain⟨R,S,E⟩:=q.aP;subst E;have X:=g.2.1;by_cases q1:256<f.length
     . (have a:Ae (¬A7 fs):= λe=>absurd (e.2 k (by rw[l];exact t) f g.2.2).1 oM);generalize f.length=m at*;go_wp2;go_ret;exact⟨.no a,rfl⟩
     go_wp2_with fail;refine(GL _ f _ g.2.1 g.1).mono ?_;rintro e u ⟨rfl,rfl⟩;cases t1:f.all Fd
     . (have a:Ae (¬A7 fs):= λe=>by have:=(e.2 k (by rw[l];exact t) f g.2.2).2;simp[t1]at this);go_wp2;go_ret;exact⟨.no a,rfl⟩
     have a:Ae (Ji f):=⟨oM,t1⟩;go_wp2;go_roundw;(case rel=>exact⟨k+1,oM,by go_num,GH g.2.2 a z,by trivial⟩);exact oI
   have L:k=3:=oM;subst L;have D:Ae (A7 fs):=⟨l,by rw[l];exact z⟩;go_wp2;go_ret;exact⟨.fk D,rfl⟩
 have a:Ae (¬A7 fs):= λe=>C (by rw[<-l];exact e.1)
 have U:¬(n:Int)=3:=oM;go_enter func120,ntmps120;go_wp2;go_ret;exact⟨.no a,rfl⟩
theorem JY(h:Ql z):0<=z/\z<=4294967295:=by simpa[Ql,Lit.wf,IntKind.min,IntKind.max,IntKind.signed,IntKind.bits]using h
theorem Fm(a b a' c:Int)(w:Y):(binOp .eql 193 (An #[a,Ag .u32 b]) (An #[a',Ag .u32 c])).run Aq w=.ok (Ao (decide (a=a'/\b=c))) w:=by
 have k:=underlying2;have g:=Tryz.isAgg2;have m:=Tryz.sizeOf2;have j:=underlying29;have f:=Tryz.isAgg29;have l:=Tryz.sizeOf29;have d:Tryz.prog.underlying 193=K (.struct (Tryz.prog.fieldsOf 193)):=kR;have e:Tryz.prog.stoodInHeld 193=false:=kR;rw[run_eql_struct,show(10000:Nat)=9999+1 from rfl,run_equalIn_agg w 9999 193 _ _ d e];simp only[Program.fieldsOf,underlying193];go_simp;by_cases h:a=a'
 . by_cases i:b=c<;>simp[*]
 simp[*]
theorem KO(t x:Int)(w:Y)(i:0<=x):
 Ai Aq 144 #[An #[t,Ag .u32 x]] w λe m=>AM e (CI ⟨t,x⟩)/\Ah w w m:=by
 by_cases h:t=1
 . subst h;have j:∀w,(binOp .eql 193 (An #[iZ 1,Ag .u32 x]) (An #[iZ 1,Ag .u32 0])).run Aq w=.ok (Ao (decide (1=(1:Int)/\x=0))) w:=Fm 1 x 1 0
   have g:∀w,(binOp .eql 193 (An #[iZ 1,Ag .u32 x]) (An #[iZ 1,Ag .u32 1])).run Aq w=.ok (Ao (decide (1=(1:Int)/\x=1))) w:=Fm 1 x 1 1
   by_cases c:x=0
   . have a:decide (1=(1:Int)/\x=0)=true:=by simp[c]
     have f:Ae (CI ⟨1,x⟩):=⟨rfl, λ_=>oS⟩;rw[a]at j;clear c a g i;go_enter func144,ntmps144;go_wp2;go_ret;exact⟨.fk f,Al _ _⟩
   have a:decide (1=(1:Int)/\x=0)=false:=by simp[c]
   rw[a]at j;by_cases d:x=1
   . have b:decide (1=(1:Int)/\x=1)=true:=by simp[d]
     have f:Ae (CI ⟨1,x⟩):=⟨rfl, λ_=>oS⟩;rw[b]at g;clear c a d b i;go_enter func144,ntmps144;go_wp2;go_ret;exact⟨.fk f,Al _ _⟩
   have b:decide (1=(1:Int)/\x=1)=false:=by simp[d]
   (have l:Ae (¬CI ⟨1,x⟩):= λe=>by have:=e.2 rfl;simp only[]at this;omega);rw[b]at g;clear c a d b i;go_enter func144,ntmps144;go_wp2;go_ret;exact⟨.no l,Al _ _⟩
 have n:(t==1)=false:=by simpa using h
 have k:Ae (Fd t=true↔CI ⟨t,x⟩):=⟨λe=>⟨e, λe=>absurd e h⟩, λe=>e.1⟩;go_enter func144,ntmps144;go_wp2_with fail;refine(Ck t _).mono ?_;rintro e u ⟨rfl,rfl⟩;go_wp2;go_ret;exact⟨.of k,Al _ _⟩
def Bv(x:MI):Bool:=decide (x.op=25)||decide (x.op=26)||decide (x.op=27)
def Ij(x:MI):Bool:=decide (¬x.op=25)&&decide (¬x.op=29)
def Bb(xs:List MI):Prop:=1<=xs.length/\xs.length<=1024/\∀(i:Nat) (x:MI),xs[i]?=K x->Bv x=true->0<=x.c/\x.c<(xs:Int)
def Hy(x:MI)(i j:Nat):Bool:=(Bv x&&decide (x.c=(j:Int)))||((Bv x||decide (x.op=29))&&decide (j=i+1))
def Cu(xs:List MI)(k j:Nat):Bool:=decide (j=0)||(List.range k).any λi=>match xs[i]? with|some x=>Hy x i j|none=>false
theorem IZ(xs:List MI)(k:Nat):Cu xs k 0=true:=by simp[Cu]
theorem Q6(xs:List MI)(j:Nat):Cu xs 0 j=decide (j=0):=by simp[Cu]
theorem IY(xs:List MI)(k j:Nat)(x:MI)(a:xs[k]?=K x):Cu xs (k+1) j=(Cu xs k j||Hy x k j):=by simp[Cu,List.range_succ,a,Bool.or_assoc]
theorem Mm(xs:List MI)(k i j:Nat)(x:MI)(a:i<k)(b:xs[i]?=K x)(h:Hy x i j=true):Cu xs k j=true:=by simp only[Cu,Bool.or_eq_true,List.any_eq_true,k6];exact .inr ⟨i,a,by rw[b];exact h⟩
def lds(xs:List MI)(i:Nat):List Nat:=(List.range i).filter (Cu xs xs)
theorem Ml(xs:List MI)(i:Nat):lds xs (i+1)=if Cu xs xs i=true then lds xs i++[i]else lds xs i:=by
 unfold lds;rw[mR,lq];by_cases h:Cu xs xs i=true
 . simp[h]
 simp[h]
theorem Dk(xs:List MI)(i j:Nat):j∈lds xs i↔j<i/\Cu xs xs j=true:=by simp[lds]
theorem DG(xs:List MI)(i:Nat):(lds xs i).Pairwise (· < ·):=List.Pairwise.filter _ mT
theorem Pt(xs:List MI)(i:Nat)(h:0<i):lds xs i≠[]:= λe=>by have:=(Dk xs i 0).2 ⟨h,IZ _ _⟩;rw[e]at this;cases this
theorem UX(xs:List MI)(i n:Nat)(h:i<=n):∃r,lds xs n=lds xs i++r:=by
 induction n with
 | zero=>obtain rfl:i=0:=oM;exact⟨[],sP⟩
 | succ n c=>
   by_cases a:i=n+1
   . subst a;exact⟨[],sP⟩
   obtain⟨r,b⟩:=c oM;rw[Ml,b];split
   . exact⟨r++[n],sP⟩
   exact⟨r,rfl⟩
theorem ZH(xs:List MI)(p n:Nat)(c:p<n)(b:Cu xs xs p=true):(lds xs n).idxOf p=(lds xs p).length/\(lds xs (p+1)).length=(lds xs p).length+1:=by have a:=Ml xs p;rw[jP b]at a;obtain⟨r,d⟩:=UX xs (p+1) n c;refine⟨?_,by rw[a];simp⟩;rw[d,a,kS,List.idxOf_append,jH (by rw[Dk];omega)];simp
theorem ZI(xs:List MI)(p q n:Nat)(g:p<n)(i:q<n)(e:Cu xs xs p=true)(f:Cu xs xs q=true)(h:(lds xs n).idxOf p=(lds xs n).idxOf q):p=q:=by have c:p∈lds xs n:=(Dk _ _ _).2 ⟨g,e⟩;have d:q∈lds xs n:=(Dk _ _ _).2 ⟨i,f⟩;have a:=List.getElem_idxOf (mP.2 c);have b:=List.getElem_idxOf (mP.2 d);rw[<-a,<-b];congr 1
def Lw(a:List MB)(i:Int):List MB:=match a.getLast? with|some b=>a.dropLast++[⟨b.cz,i,b.next⟩]|none=>[]
theorem JF(a:List MB)(b:MB)(i:Int):Lw (a++[b]) i=a++[⟨b.cz,i,b.next⟩]:=by simp[Lw]
def Lj(xs:List MI):Nat->List MB
 |0=>[]
 |i+1=>Lw (if Cu xs xs i=true then Lj xs i++[⟨i,0,[]⟩]else Lj xs i) i
def build(L:List Nat)(e:Nat):List MB:=List.zipWith (λ(a b:Nat)=>(⟨(a:Int),(b:Int)-1,[]⟩:MB)) L (L.tail++[e])
theorem IU(L:List Nat)(i e:Nat)(h:L≠[]):build (L++[i]) e=build L i++[⟨(i:Int),(e:Int)-1,[]⟩]:=by
 unfold build;rw[List.tail_append_of_ne_nil h,kS,show(L.tail++([i]++[e]))=(L.tail++[i])++[e]from sP,List.zipWith_append (by
  cases L with
  |nil=>exact absurd rfl h
  |cons a r=>simp)]
 rfl
theorem Cl(xs:List MI)(i:Nat):Lj xs i=build (lds xs i) i:=by
 induction i with
 |zero=>rfl
 | succ i d=>
   simp only[Lj];rw[Ml];by_cases h:Cu xs xs i=true
   . rw[jP h,jP h,JF];by_cases c:i=0
     . subst c;simp[Lj,lds,build]
     rw[IU _ _ _ (Pt xs i oM),d];simp
   rw[jH h,jH h];have c:0<i:=by
    cases i with
    |zero=>exact absurd (IZ _ _) h
    |succ i=>omega
   obtain⟨b,a,e⟩:∃b a,lds xs i=b++[a]:=⟨_,_,(List.dropLast_concat_getLast (Pt xs i c)).symm⟩;rw[d,e];cases b with
   |nil=>simp[build,Lw]
   | cons m b=>rw[IU _ _ _ sP,IU _ _ _ sP,JF];simp
theorem O0(L:List Nat)(e:Nat):(build L e).length=L.length:=by
 unfold build;cases L with
 |nil=>rfl
 |cons a r=>simp
theorem FV(xs:List MI)(i:Nat):(Lj xs i).length=(lds xs i).length:=by rw[Cl,O0]
def FU(xs:List MI)(i:Nat):Int:=((lds xs (i+1)).length:Int)-1
theorem FA(xs:List MI)(p n:Nat)(b:p<n)(a:Cu xs xs p=true):FU xs p=((lds xs n).idxOf p:Int):=by have:=ZH xs p n b a;unfold FU;omega
theorem XX(xs:List MI)(p q n:Nat)(c:p<n)(d:q<n)(a:Cu xs xs p=true)(b:Cu xs xs q=true):FU xs p=FU xs q↔p=q:=by rw[FA xs p n c a,FA xs q n d b];exact⟨λh=>ZI xs p q n c d a b oM, λh=>by rw[h]⟩
def Bc(xs:List MI)(x:MI)(e:Nat):List Int:=(if Ij x=true/\e+1< ↑xs then[((e+1:Nat):Int)]else[])++(if Bv x=true/\¬(Ij x=true/\e+1< ↑xs/\x.c=((e+1:Nat):Int))then[x.c]else[])
def Mt(xs:List MI)(x:MI)(e:Nat):List Int:=
 let a:=if Ij x=true/\e+1< ↑xs then[FU xs (e+1)]else[]
 a++(if Bv x=true/\(a=[]\/¬a=[FU xs x.c.toNat])then[FU xs x.c.toNat]else[])
theorem L3(L:List Nat)(n b e:Nat)(m:MB)(h:(build L n)[b]?=K m)(d:m.last=(e:Int))(g:e+1<n):e+1∈L:=by
 unfold build at h;rw[mA]at h;cases h1:L[b]? with
 |none=>rw[h1]at h;simp at h
 | some a=>
   cases h2:(L.tail++[n])[b]? with
   |none=>rw[h1,h2]at h;simp at h
   | some q=>
     rw[h1,h2]at h;simp only[jJ]at h;subst h;simp only[]at d;have f:q=e+1:=oM;subst f;have:=hC h2;rcases jL.1 this with c|c
     . exact mq c
     simp at c;omega
theorem Om(xs:List MI)(b e:Nat)(x:MI)(m:MB)(v:Bb xs)(l:(Lj xs xs)[b]?=K m)(t:m.last=(e:Int))(i:xs[e]?=K x):Mt xs x e=(Bc xs x e).map λp=>((lds xs xs).idxOf p.toNat:Int):=by
 have u:e<xs.length:=(f7.1 i).1;rw[Cl]at l;have n:e+1< ↑xs->Cu xs xs (e+1)=true:= λh=>((Dk _ _ _).1 (L3 _ _ _ _ _ l t h)).2
 have r:Bv x=true->x.c.toNat< ↑xs/\Cu xs xs x.c.toNat=true/\(x.c.toNat:Int)=x.c:= λh=>by obtain⟨a,d⟩:=v.2.2 e x i h;have f:(x.c.toNat:Int)=x.c:=mZ a;exact⟨oM,Mm xs _ e _ x u i (by simp[Hy,h,f]),f⟩
 unfold Mt Bc;by_cases a:Ij x=true/\e+1< ↑xs
 . have j:=FA xs (e+1) xs a.2 (n a.2);simp only[jP a];by_cases d:Bv x=true
   . obtain⟨c1,c2,c3⟩:=r d;have k:=FA xs x.c.toNat xs c1 c2;have s:=XX xs (e+1) x.c.toNat xs a.2 c1 (n a.2) c2;by_cases f:x.c=((e+1:Nat):Int)
     . have g:¬(Bv x=true/\([FU xs (e+1)]=[]\/¬[FU xs (e+1)]=[FU xs x.c.toNat])):= λh=>h.2.elim (λq=>by cases q) (λq=>q (by rw[s.2 oM]))
       simp only[jH g];rw[jH (λh=>h.2 ⟨a.1,a.2,f⟩)];simp[j]
     have g:(Bv x=true/\([FU xs (e+1)]=[]\/¬[FU xs (e+1)]=[FU xs x.c.toNat])):=⟨d,.inr (λq=>f (by have:=s.1 (by simpa using q);omega))⟩
     simp only[jP g];rw[jP ⟨d, λh=>f h.2.2⟩];simp[j,k]
   simp only[d,false_and,if_false,nE];simp[j]
 simp only[jH a];by_cases d:Bv x=true
 . obtain⟨c1,c2,c3⟩:=r d;have k:=FA xs x.c.toNat xs c1 c2;have g:(Bv x=true/\(True\/¬([]:List Int)=[FU xs x.c.toNat])):=⟨d,.inl trivial⟩
   rw[jP g,jP ⟨d, λh=>a ⟨h.1,h.2.1⟩⟩];simp[k]
 simp only[d,false_and,if_false,nE];rfl
structure MS where
 trap:Int
 done:Bool
 cost:Int
 steps:Int
 cells:List (List MC)
 stack:List MC
 dk:List MG
structure VS where
 c:J
 k:J
 f:J
structure MS.small(s:MS):Prop where
 cells:s.cells.length<=1048576
 cell:∀r∈s.cells,r.length<=1048576
 stack:s.stack.length<=1048576
 dk:s.dk.length<=1048576
 frame:∀f∈s.dk,f.small
structure MG.wf(f:MG):Prop where
 func:Fb f.func
 at_:Fb f.at_
 base:Fb f.base
 a7:∀x∈f.a7,x.wf
structure MS.wf(s:MS):Prop where
 trap:Fb s.trap
 cost:Fb s.cost
 steps:Fb s.steps
 cells:∀r∈s.cells,∀x∈r,x.wf
 stack:∀x∈s.stack,x.wf
 dk:∀f∈s.dk,f.wf
end Go.Proofs.YtkgohaigebcgoaaGreatDoor
