import Derived.Test.YtkgohaigebcgoaaGreatDoorCh1
import Derived.Deep.RegionHeld
import Derived.StillTail
import Derived.Maps.AppendAt
import Derived.Laws.StructEq
namespace Go.Proofs.YtkgohaigebcgoaaGreatDoor
open Go.ChangeShapes Go.WideShapes Go.ChangeAt Go.RowKit Go.Proofs.Tryz
set_option linter.unusedVariables false
open Option renaming some → K,none → M
open Go renaming Value → J,World → Y,TypeId → Aj,Calls → Ai
open Go.RowKit renaming Below → Ah,Hid → Ae
open Go.Obj renaming cells → Ak
open Go.World renaming alloc → Ac,setCell → Aa,ownsRow → Ab
open Go.IntKind renaming i64 → Af
open Go.Value renaming int → Ag,agg → An,slice → Z,bool → Ao
open List renaming flatMap → Ad
open Go.Ending renaming returned → Am
open Go.Proofs.Tryz renaming prog → Aq
set_option maxHeartbeats 4000000
set_option maxRecDepth 100000
variable {x y s:J}{z:Int}{p:MP}{c:Array J}{i g B q:Nat}{rs:List Nat}{R:Nat->Prop}
structure Yo(w:Y)(b:Nat)(x y z:J):Prop where
 c0:w b=K x
 c1:w ⟨b,1,M⟩=K y
 c2:w ⟨b,2,M⟩=K z
theorem Yo.lt{w:Y}{b:Nat}{z:J}(h:Yo w b x y z):b<w.heap.size:=lT h.c0
theorem Yo.av{w c:Y}{b:Nat}{z:J}(h:Yo w b x y z)(a:Ah w w c):Yo c b x y z:=⟨by rw[a.cell h.lt];exact h.c0,by rw[a.cell h.lt];exact h.c1,by rw[a.cell h.lt];exact h.c2⟩
theorem Yo.new(w:Y)(x y z:J)(ty:Aj):Yo (Ac w (Ak #[x,y,z] ty)) w x y z:=by have h:=pY (base:=w) (e:=ty) (size:=3) w #[x,y,z] 1 lR oX sP;exact⟨h.cellAt 0 oM,h.cellAt 1 oM,h.cellAt 2 oM⟩
def CJ(p:MP)(r c:Int):Int:=if r<0\/2<r\/c<0 then 0 else(p.az.getD r.toNat []).getD c.toNat 0
theorem LA{r c:Int}(h:r<0\/2<r\/c<0):CJ p r c=0:=mE h
theorem Ee{r c:Nat}(h:r<=2){l:List Int}(a:p.az[r]?=K l):CJ p r c=l.getD c 0:=by
 unfold CJ;have e:p.az.getD r []=l:=by rw[mI,a];rfl
 rw[lY oM,lV,lV,e]
theorem Xi:(Tryz.prog.info? 193).map (λi=>(i.zero,i.size,i.bytes))=K (K (An #[Ag Af 0,Ag .u32 0]),2,16):=kR
section
variable {P:Program} {ops:Array Oper} {Q:Exit->Act->Y->Prop} {md:Region.Mode} {S:Y->Prop} {n:Nat}
def Dl(P:Program)(md:Region.Mode)(ops:Array Oper)(Q:Exit->Act->Y->Prop)(S:Y->Prop)(n:Nat):Nat->Array Bool->Act->Y->Prop
 |0,d,a,w=>Region.ready md ops d=[]/\Q .normal a w
 |f+1,d,a,w=>(Region.ready md ops d=[]->Q .normal a w)/\∀i∈Region.ready md ops d,wpOp P ops Q i (λa' b=>(i<n->S b)/\Dl P md ops Q S n f (d.setIfInBounds i true) a' b) a w
theorem MU:∀(f:Nat) (d:Array Bool) (a:Act) (w:Y),Dl P md ops Q S n f d a w->wpAny P md ops Q f d a w
 |0,_,_,_,h=>h
 |f+1,_,_,_,h=>⟨h.1, λi c=>wpOp_mono (λa' e b=>MU f _ a' e b.2) (h.2 i c)⟩
theorem PE{m:Oper}{v:J}(y:ops[i]?=K m)(E:∀(j:Nat) (o:Oper) cs b,ops[j]?=K o->o.op≠ .select cs b)
 (L:∀c a w,Q (.panic c) (a.put m.dst v) w->Q (.panic c) a w) (hs:Region.sinkB md ops n=true) (R:Region.chainB md ops n=true) (hn:n<ops.size) (W:i<n):
 ∀ (f:Nat) (d:Array Bool) (a:Act) (w:Y),HeadInv md ops n d->
   (∀j p,ops[j]?=K p->j≠i->d.getD j true=false->(∀e∈p.after,Region.binds md e=true->e.on≠i)->m.apart ops p=true)->
   i∈Region.ready md ops d->YieldsIf P ops S m v a->S w->
   Dl P md ops Q S n f (d.setIfInBounds i true) (a.put m.dst v) w->Dl P md ops Q S n (f+1) d a w:=by
 intro f;induction f with
 | zero=>
   intro d a w _ _ l u r H;refine⟨λh=>(by rw[h]at l;cases l), λj q=> ?_⟩;by_cases g:j=i
   . subst g;exact u.wpOp y r ⟨λ_=>r,H⟩
   have:=ready_mono q g;rw[H.1]at this;cases this
 | succ f ih=>
   intro d a w G A l u r H;refine⟨λh=>(by rw[h]at l;cases l), λj q=> ?_⟩;by_cases g:j=i
   . subst g;exact u.wpOp y r ⟨λ_=>r,H⟩
   (have C:j<n:=Nat.lt_of_not_le λh=>tail_waits hs R hn G _ i rfl W (mem_ready.1 l).1 j h q);have s:=H.2 j (ready_mono q g);obtain⟨D,p,z,N⟩:=mem_ready.1 q;(have ai:∀e∈p.after,Region.binds md e=true->e.on≠i:= λe T O U=>by have s:=N e T O;rw[U,getD_both (mem_ready.1 l).1]at s;cases s);have I:=wpOp_putIf z (A j p z g D ai) (λcs b=>E i m cs b y) (λcs b=>E j p cs b z) L u s;have V:∀k ok,ops[k]?=K ok->k≠i->(d.setIfInBounds j true).getD k true=false->
    (∀e∈ok.after,Region.binds md e=true->e.on≠i)->m.apart ops ok=true:= λk ok X aa F ae=>by
    refine A k ok X aa ?_ ae;by_cases B:j=k
    . subst B;exact D
    rw[getD_set_ne true B]at F;exact F
   refine wpOp_mono (λa' w' t=>⟨t.2.1,ih (d.setIfInBounds j true) a' w' (G.set q C) V (ready_mono l (Ne.symm g)) t.1 (t.2.1 C) ?_⟩) I;rw[Array.setIfInBounds_comm _ _ g];exact t.2.2
def TH(md:Region.Mode)(ops:Array Oper)(n:Nat)(d:Array Bool):Bool:=d.size==ops.size&&(List.range ops.size).all (λj=> !d.getD j false||((ops[j]?).map (·.after.all λe=> !Region.binds md e||d.getD e.on false)).getD true)&&(List.range ops.size).all (λt=>decide (t<n)|| !d.getD t true)&&Region.sinkB md ops n&&Region.chainB md ops n&&decide (n<ops.size)
theorem SI{d:Array Bool}(h:TH md ops n d=true):HeadInv md ops n d/\Region.sinkB md ops n=true/\Region.chainB md ops n=true/\n<ops.size:=by
 simp only[TH,mu,mo,beq_iff_eq]at h;obtain⟨⟨⟨⟨⟨b,c⟩,f⟩,g⟩,k⟩,l⟩:=h;refine⟨⟨b, λj u a q e p m=> ?_, λt s r=> ?_⟩,g,k,l⟩
 . have:=nV.1 c j (nN.2 (mH.1 a).1);rw[q,a]at this;simp only[Bool.not_true,Bool.false_or,oO,oz]at this;have:=Array.all_eq_true'.1 this e p;rw[m]at this;simpa using this
 have:=nV.1 f t (nN.2 r);rw[nC oM]at this;simpa using this
theorem RJ{e:Oper}{v:J}{f:Nat}{d:Array Bool}{a:Act}{w:Y}(g:ops[i]?=K e)
 (r:Region.noSelect ops=true) (m:Region.free md ops d i=true) (q:(Region.ready md ops d).contains i=true) (l:TH md ops n d=true) (p:i<n)
 (j:∀c a w,Q (.panic c) (a.put e.dst v) w->Q (.panic c) a w) (s:YieldsIf P ops S e v a) (k:S w)
 (h:Dl P md ops Q S n f (d.setIfInBounds i true) (a.put e.dst v) w):Dl P md ops Q S n (f+1) d a w:=
 have b:=SI l
 PE g (Region.noSelect_spec r) j b.2.1 b.2.2.1 b.2.2.2 p f d a w b.1 (Region.free_spec g m) (by simpa using q) s k h
def DG(P:Program)(md:Region.Mode)(ops:Array Oper)(Q:Exit->Act->Y->Prop)(S:Y->Prop)(n f:Nat)(d:Array Bool)(a:Act)(w:Y)(rs:List Nat):Prop:=∀i∈rs,wpOp P ops Q i (λa' b=>(i<n->S b)/\Dl P md ops Q S n f (d.setIfInBounds i true) a' b) a w
theorem DG.nil{f:Nat}{d:Array Bool}{a:Act}{w:Y}:DG P md ops Q S n f d a w []:= λ_ h=>by cases h
theorem DG.cons{f:Nat}{d:Array Bool}{a:Act}{w:Y}{o:Oper}(k:ops[i]?=K o)
 (h:∀K':Act->Y->Prop,Shut (∀a w,(i<n->S w)->((i<n->S w)->Dl P md ops Q S n f (d.setIfInBounds i true) a w)->K' a w)->if Region.wanted o (yielded ops a.tmps)=true then Oper.wp P o a w K' Q else K' (a.put o.dst undef) w)
 (l:DG P md ops Q S n f d a w rs):DG P md ops Q S n f d a w (i::rs):= λj b=>by
 rcases lW.1 b with rfl|b
 . have:=h (λa' e=>(j<n->S e)/\Dl P md ops Q S n f (d.setIfInBounds j true) a' e) (show Shut _ from λa w c g=>⟨c,g c⟩)
   unfold wpOp;simp only[k];split
   . rename_i hw;simp only[hw,if_true]at this;exact .inl this
   rename_i hw;simp only[hw]at this;exact this
 exact l j b
theorem PG{f:Nat}{d:Array Bool}{a:Act}{w:Y}(b:Region.ready md ops d=rs)(e:rs≠[])
 (h:DG P md ops Q S n f d a w rs):Dl P md ops Q S n (f+1) d a w:=⟨λc=>absurd (b▸c) e,b▸h⟩
theorem EI{d:Array Bool}{a:Act}{w:Y}(b:Region.ready md ops d=[])(h:Q .normal a w):∀f,Dl P md ops Q S n f d a w
 |0=>⟨b,h⟩
 |_+1=>⟨λ_=>h,by rw[b];simp⟩
theorem CD(n:Nat){id:Nat}{a:Act}{w:Y}(c:P.follows .mixedOrders=true)(b:S w.drew)
 (h:S w.drew->Dl P .any ops Q S n ops.size (Array.replicate ops.size false) a w.drew):(Code.region id ops true).wp P Q a w:=
 wp_region_any c (MU _ _ _ _ (h b))
end
theorem SH{w wr:Y}(h:w.grownBy wr (K g))(i:Nat)(x:J):w.grownBy (Aa wr ⟨g,i,M⟩ x) (K g):=⟨h.os,h.tape,h.output,by rw[oN];exact h.size, λk b a=>(oJ wr _ k x (λe=>a (by rw[e]))).trans (h.block k b a)⟩
theorem DF{w b:Y}{base:Nat}{e:Aj}{k n:Nat}{xs:List J}{row:Option Nat}(h:Ab w base e k s n xs)(f:w.grownBy b row)(j:∀g,s.ownBlock=K g->K g≠row):Ab b base e k s n xs:=by
 refine⟨h.1,?_⟩;rcases h.2 with h|⟨g,cap,c,rfl,d,a,l⟩
 . exact .inl h
 refine .inr ⟨g,cap,c,rfl,d,?_,l⟩;rw[f.block g (mH.1 a).1 (j g rfl)];exact a
def Kf(x y:J×List Int):Prop:=∀g,x.1.ownBlock=K g->y.1.ownBlock≠K g
theorem Kf.symm{x y:J×List Int}(h:Kf x y):Kf y x:= λg a e=>h g e a
structure CO(w:Y)(base:Nat)(L:List (J×List Int)):Prop where
 own:∀x∈L,Ab w base 2 1 x.1 x.2 (x.2.flatMap At)
 sep:L.Pairwise Kf
theorem CO.put{w l:Y}{base:Nat}{A B:List (J×List Int)}{v:J}{c c':List Int}(h:CO w base (A++(v,c)::B))(r:c'.length= ↑c)(s:Ab l base 2 1 v c (Ad At c'))(n:w.grownBy l v.ownBlock):CO l base (A++(v,c')::B):=by
 obtain⟨u,z,k⟩:=nI.1 h.sep;obtain⟨p,C⟩:=my.1 z;refine⟨λx d=> ?_,nI.2 ⟨u,my.2 ⟨λy t=>p y t,C⟩, λa m b f=> ?_⟩⟩
 . rcases mA.1 d with d|d
   . exact DF (h.own x (mA.2 (.inl d))) n (λg j e=>k x d (v,c) sP g j e.symm)
   rcases lW.1 d with rfl|d
   . simp only[];rw[r];exact s
   exact DF (h.own x (mA.2 (.inr (nA _ d)))) n (λg j e=>p x d g e.symm j)
 rcases lW.1 f with rfl|f
 . exact λg q=>k a m (v,c) sP g q
 exact k a m b (nA _ f)
theorem Uj(w:Y)(cs:Array J)(t:Aj):(Ac w (Ak cs t)).heap[w.heap.size]?=K (Ak cs t (0,0)):=pI
theorem Kz{w:Y}{fs:List MF}{f:MF}(h:R8 w s fs)(b:fs[q]?=K f):∃gk ok ck,s=Z (K ⟨gk,ok,M⟩) fs ck/\∃g:VF,FD w g f/\w ⟨gk,ok+q*4,M⟩=K g.p/\w ⟨gk,ok+q*4+1,M⟩=K ↑f.cu/\w ⟨gk,ok+q*4+2,M⟩=K g.l/\w ⟨gk,ok+q*4+3,M⟩=K g.c:=by
 obtain⟨xs,j,k,m⟩:=h;have r:=(f7.1 b).1;rcases k.2 with⟨e,_⟩|⟨gk,ok,ck,e,d⟩
 . omega
 obtain⟨x,a,n⟩:∃x,xs[q]?=K x/\x.1=f:=by
  rw[<-j,mN]at b;cases a:xs[q]? with
  |none=>rw[a]at b;cases b
  |some x=>rw[a]at b;exact⟨x,rfl,mD b⟩
 subst n;exact⟨gk,ok,ck,e,x.2,m x (lP a),Rd.elem AK d q x a 0 _ rfl,Rd.elem AK d q x a 1 _ rfl,Rd.elem AK d q x a 2 _ rfl,Rd.elem AK d q x a 3 _ rfl⟩
theorem Xg{w:Y}{is:List MI}{x:MI}(h:Rd w 4 s is (Ad MI.cells is))(d:is[q]?=K x):∃gk ok ck,s=Z (K ⟨gk,ok,M⟩) is ck/\w ⟨gk,ok+q*4,M⟩=K ↑x.op/\w ⟨gk,ok+q*4+1,M⟩=K ↑x.a/\w ⟨gk,ok+q*4+2,M⟩=K ↑x.b/\w ⟨gk,ok+q*4+3,M⟩=K ↑x.c:=by
 have g:=(f7.1 d).1;rcases h.2 with⟨e,_⟩|⟨gk,ok,ck,e,f⟩
 . omega
 exact⟨gk,ok,ck,e,Rd.elem MI.bW f q x d 0 _ rfl,Rd.elem MI.bW f q x d 1 _ rfl,Rd.elem MI.bW f q x d 2 _ rfl,Rd.elem MI.bW f q x d 3 _ rfl⟩
structure DT(R:Nat->Prop)(u u':Y):Prop where
 os:u'.os=u.os
 tape:u'.tape=u.tape
 output:u'.output=u.output
 size:(u:Nat)<= ↑u'
 block:∀k,k< ↑u->¬R k->u'.heap[k]?=u.heap[k]?
theorem DT.of{u a:Y}(h:Ah u u a):DT R u a:=⟨h.os,h.tape,h.output,h.size, λk b _=>h.block k b⟩
theorem DT.refl(R:Nat->Prop)(u:Y):DT R u u:=⟨rfl,rfl,rfl,Nat.le_refl _, λ_ _ _=>rfl⟩
theorem DT.trans{g:Nat->Prop}{a b c:Y}(h:DT R a b)(d:DT g b c)(l:∀k,k< ↑a->g k->R k):DT R a c:=⟨d.os.trans h.os,d.tape.trans h.tape,d.output.trans h.output,mC h.size d.size, λk f j=>(d.block k (nH f h.size) (λe=>j (l k f e))).trans (h.block k f j)⟩
theorem DT.below{a b:Y}(h:DT R a b)(e:B<= ↑a)(c:∀k,k<B->¬R k):Ah B a b:=⟨h.os,h.tape,h.output,h.size, λk d=>h.block k oM (c k d)⟩
theorem DT.eI{a b:Y}(h:DT R a b){ty:Aj}(d:Ay a g c ty)(e:¬R g):Ay b g c ty:=by unfold Ay at*;rw[h.block g (mH.1 d).1 e];exact d
theorem DT.setCell{a b:Y}(h:DT R a b){ad:Addr}(c:R ad.block\/ ↑a<=ad.block)(x:J):DT R a (b.setCell ad x):=by
 refine⟨h.os,h.tape,h.output,by rw[oN];exact h.size, λk f d=> ?_⟩;have g:k≠ad.block:= λe=>by
  rcases c with c|c
  . exact d (e▸c)
  omega
 rw[Below.heap_setCell _ _ _ _ g];exact h.block k f d
theorem DT.grown{a b c:Y}(h:DT R a b){r:Option Nat}(d:b.grownBy c r)(j:∀k,k< ↑a->K k=r->R k):DT R a c:=⟨d.os.trans h.os,d.tape.trans h.tape,d.output.trans h.output,mC h.size d.size, λk f g=>(d.block k (nH f h.size) (λe=>g (j k f e))).trans (h.block k f g)⟩
theorem DT.own{u d:Y}(m:DT R u d){e:Aj}{k n:Nat}{xs:List J}(h:Ab u B e k s n xs)(p:∀b,s.ownBlock=K b->¬R b):Ab d B e k s n xs:=by
 refine⟨h.1,?_⟩;rcases h.2 with j|⟨g,cap,f,a,l,c,q⟩
 . exact .inl j
 refine .inr ⟨g,cap,f,a,l,?_,q⟩;rw[m.block g (mH.1 c).1 (p g (by rw[a];rfl))];exact c
theorem DT.on{a b c:Y}(h:DT R a b)(d:Ah b b c):DT R a c:=h.trans (DT.of (R:=R) d) (λ_ _ e=>e)
def CodeAt(w:Y)(g:Nat)(a:Option Addr)(len:Nat):Prop:=len=0\/∃b off,a=K ⟨b,off,M⟩/\b<g/\∀i,i<len->∃v:Int,0<=v/\v<=255/\w ⟨b,off+i,M⟩=K (Ag .u8 v)
theorem Me(a:Option Addr)(len cap i n g:Nat)(w:Y)(D:len<=1048576)(p:i<=2)(F:2<=n)(G:n<=100)(f:CodeAt w g a len):
 Ai Aq 6 #[Z a len cap,i,n] w λe u=>(∃k:Nat,k<n/\e=Am k)/\Ah w w u:=by
 have B:¬((n:Int)<=1):=oM;by_cases s:len=0;case pos=>
  have t:((len:Int)==0)=true:=by rw[beq_iff_eq];omega
  go_enter func6,ntmps6;go_wp2_with fail;go_ret;exact⟨⟨i*7 % n,Nat.mod_lt _ oM,by rw[Int.natCast_emod,Int.natCast_mul];rfl⟩,mP _ _⟩
 have t:((len:Int)==0)=false:=by rw[o3];omega
 have H:0<(len:Int):=oM;rcases f with f|⟨b,off,rfl,C,j⟩
 . exact absurd f s
 have h:i % len<len:=Nat.mod_lt _ oM;obtain⟨v,L,N,l⟩:=j (i % len) h;obtain⟨z,rfl⟩:∃z:Nat,v=(z:Int):=⟨v.toNat,oM⟩;have r:i / len<=2:=mC (Nat.div_le_self _ _) p;obtain⟨m,c⟩:∃m,i % len=m:=⟨_,rfl⟩;obtain⟨q,d⟩:∃q,i / len=q:=⟨_,rfl⟩;have y:(i:Int) % (len:Int)=(m:Int):=by rw[<-c];rfl
 have A:(i:Int) / (len:Int)=(q:Int):=by rw[<-d];rfl
 rw[c]at l h;rw[d]at r;have I:w.drew ⟨b,off+m,M⟩=K (Ag .u8 (z:Int)):=l;have E:(m:Int)<(len:Int):=oM;clear j c d;go_enter func6,ntmps6;go_upto_region 5 with fail
 go_region;go_wp2_with fail;go_ret;exact⟨⟨(z+q*3) % n,Nat.mod_lt _ oM,by rw[Int.natCast_emod,Int.natCast_add,Int.natCast_mul];rfl⟩,As w⟩
section
variable {u:Y} {b:Nat} {t:Aj} {x0 x1 x2 x3 x4 x5 x6 x7 x8:J}
theorem Ay.w7(h:Ay u b #[x0,x1,x2,x3,x4,x5,x6] t)(a c d e f g j:J):Ay (Aa (Aa (Aa (Aa (Aa (Aa (u.setCell b a) ⟨b,1,M⟩ c) ⟨b,2,M⟩ d) ⟨b,3,M⟩ e) ⟨b,4,M⟩ f) ⟨b,5,M⟩ g) ⟨b,6,M⟩ j) b #[a,c,d,e,f,g,j] t:=by have:=((((((h.set 0 a).set 1 c).set 2 d).set 3 e).set 4 f).set 5 g).set 6 j;simpa using this
theorem uh{w:Y}(h:Ah B w u)(a:B<=b)(c d e f g j k:J):Ah B w (Aa (Aa (Aa (Aa (Aa (Aa (u.setCell b c) ⟨b,1,M⟩ d) ⟨b,2,M⟩ e) ⟨b,3,M⟩ f) ⟨b,4,M⟩ g) ⟨b,5,M⟩ j) ⟨b,6,M⟩ k):=((((((h.setCell a _).setCell a _).setCell a _).setCell a _).setCell a _).setCell a _).setCell a _
end
theorem rx:(Tryz.prog.info? 45).map (λi=>(i.zero,i.size,i.bytes))=K (K (Z M 0 0),1,24):=kR
structure Cb(f:MF):Prop where
 par:f.aP.length<=8
 loc:f.aP.length+ ↑f.aB<=32
 pt:f.aP.all EL=true
 lt:f.aB.all EL=true
 ia:f.cu=0\/EL f.cu=true
 code0:¬f.aU.length=0
 lq:f.aU.length<=1024
def Wg(f:MF):Prop:=f.aP.length=0/\f.cu=0
structure MB where
 cz:Int
 last:Int
 next:List Int
def Dj(x:MB×J):List J:=[x.1.cz,x.1.last,x.2]
theorem Bj(x:MB×J):(Dj x).length=3:=rfl
theorem tl:(Tryz.prog.info? 97).map (λi=>(i.zero,i.size,i.bytes))=K (K (An #[Ag Af 0,Ag Af 0,Z M 0 0]),3,40):=kR
def Dt(F:List (MB×J)):List (J×List Int):=F.map λx=>(x.2,x.1.next)
theorem FA{w:Y}{base g k n:Nat}{e t:Aj}{xs:List J}{f:Nat×Nat}(h:Ab w base e k s n xs)(l:w.heap[g]?=K (Obj.cells c t f))(m:e≠t):∀j,s.ownBlock=K j->j≠g:=by
 intro j b d;subst d;rcases h.2 with⟨rfl,_⟩|⟨r,p,q,rfl,_,a,_⟩
 . cases b
 simp only[Value.ownBlock,lX]at b;subst b;rw[l]at a;simp only[lX,nz]at a;exact m a.2.1.symm
theorem CO.set{w:Y}{base g:Nat}{L:List (J×List Int)}(h:CO w base L){t:Aj}{d:Nat×Nat}(f:w.heap[g]?=K (Obj.cells c t d))(j:2≠t)(i:Nat)(x:J):CO (Aa w ⟨g,i,M⟩ x) base L:=⟨λy b=>mR (h.own y b) (a:=⟨g,i,M⟩) (λe=>FA (h.own y b) f j g e rfl) x,h.sep⟩
theorem AZ{w:Y}{base g k n c:Nat}{e:Aj}{xs:List J}(h:Ab w base e k (Z g n c) n xs):base<=g/\∃a,w.heap[g]?=K (Obj.cells a e (0,0)):=by
 rcases h.2 with⟨b,_⟩|⟨l,j,a,b,d,f,_⟩
 . cases b
 cases b
 exact⟨d,a,f⟩
structure sx where
 e:Aj
 k:Nat
 v:J
 n:Nat
 xs:List J
def ug(b:Nat)(t:Aj)(k:Nat)(xs:List J):sx:=⟨t,k,Z b 1 1,1,xs⟩
abbrev gb(X:Nat)(v:VP):sx:=ug X 40 4 [v.r,v.k,v.f,v.t]
theorem Ng{w:Y}{a:Option Addr}{len cap:Nat}{c:List Int}
 (h:(a=M/\len=0/\cap=0/\c=[])\/∃x,a=K x/\len<=cap/\cap<=maxLen/\ ↑c=cap/\(∀i,i< ↑c->w (x.add i)=K (.int .u8 (c.getD i 0)))/\∀n∈c,(Lit.int .u8 n).wf=true):
 CodeAt w w a len:=by
 rcases h with⟨_,h,_⟩|⟨x,rfl,m,p,q,d,j⟩
 . exact .inl h
 by_cases g:len=0
 . exact .inl g
 obtain⟨b,off,l⟩:=x;have k:l=M:=by simpa[Addr.add]using World.cell?_spot (d 0 oM)
 subst k;have e:∀i,(⟨b,off,M⟩:Addr).add i=⟨b,off+i,M⟩:= λi=>by unfold Addr.add;split<;>simp_all
 refine .inr ⟨b,off,rfl,?_, λi s=> ?_⟩
 . have:=d 0 oM;rw[e]at this;exact lT this
 have f:=d i oM;rw[e]at f;refine⟨_,?_,?_,f⟩;all_goals
  have hw:=j (c.getD i 0) (by
   rw[mI,an (show i< ↑c from oM)]
   exact pS _)
  have r:0<=c.getD i 0/\c.getD i 0<=255:=by simpa[Lit.wf,IntKind.min,IntKind.max,IntKind.signed,IntKind.bits]using hw
  omega
section
variable {P:Program} {ops:Array Oper} {Q:Exit->Act->Y->Prop} {md:Region.Mode} {S:Y->Prop} {n f:Nat} {d:Array Bool} {a:Act} {w:Y}
def tB(md:Region.Mode)(ops:Array Oper)(d:Array Bool)(i:Nat):Bool:=Region.noSelect ops&&Region.free md ops d i&&(Region.ready md ops d).contains i
theorem Yg(h:tB md ops d i=true):Region.noSelect ops=true/\Region.free md ops d i=true/\(Region.ready md ops d).contains i=true:=by simp only[tB,mu]at h;exact⟨h.1.1,h.1.2,h.2⟩
theorem AU(i:Nat){b:Oper}{v:J}(h:wpAnyH P md ops Q S f (d.setIfInBounds i true) (a.put b.dst v) w)(l:ops[i]?=K b:=by rfl)(j:tB md ops d i=true:=by kernel_rfl)(e:∀c a w,Q (.panic c) (a.put b.dst v) w->Q (.panic c) a w:=by exact λ_ _ _ h=>h)(hw:Region.wanted b (yielded ops a.tmps)=true:=by rfl)
 (m:∀w,S w->(execOp a.eval b).run P w=.ok (.value v) w:=by(intro w hSw;(try dsimp only at hSw);(repeat obtain⟨hSa,hSw⟩:=hSw);go_simp;(try with_reducible rfl))) (g:S w:=by assumption):wpAnyH P md ops Q S (f+1) d a w:=
 have k:=Yg j
 wpAnyH_take l k.1 k.2.1 k.2.2 e (.inl ⟨hw,m⟩) g h
theorem tT(i:Nat){b:Oper}(h:wpAnyH P md ops Q S f (d.setIfInBounds i true) (a.put b.dst undef) w)(l:ops[i]?=K b:=by rfl)(j:tB md ops d i=true:=by kernel_rfl)(e:∀c a w,Q (.panic c) (a.put b.dst undef) w->Q (.panic c) a w:=by exact λ_ _ _ h=>h)(hw:Region.wanted b (yielded ops a.tmps)=false:=by rfl)(g:S w:=by assumption):wpAnyH P md ops Q S (f+1) d a w:=
 have k:=Yg j
 wpAnyH_take l k.1 k.2.1 k.2.2 e (.inr ⟨hw,rfl⟩) g h
theorem FE(i:Nat){b:Oper}{v:J}(h:Dl P md ops Q S n f (d.setIfInBounds i true) (a.put b.dst v) w)(p:ops[i]?=K b:=by rfl)(m:(tB md ops d i&&TH md ops n d&&decide (i<n))=true:=by kernel_rfl)(j:∀c a w,Q (.panic c) (a.put b.dst v) w->Q (.panic c) a w:=by exact λ_ _ _ h=>h)(hw:Region.wanted b (yielded ops a.tmps)=true:=by rfl)
 (q:∀w,S w->(execOp a.eval b).run P w=.ok (.value v) w:=by(intro w hSw;(try dsimp only at hSw);(repeat obtain⟨hSa,hSw⟩:=hSw);go_simp;(try with_reducible rfl))) (l:S w:=by assumption):Dl P md ops Q S n (f+1) d a w:=
 have e:=Bool.and_eq_true_iff.1 m
 have g:=Bool.and_eq_true_iff.1 e.1
 have k:=Yg g.1
 RJ p k.1 k.2.1 k.2.2 g.2 (ph e.2) j (.inl ⟨hw,q⟩) l h
theorem DO(i:Nat){o:Oper}(h:∀K':Act->Y->Prop,Shut (∀a w,S w->(S w->wpAnyH P md ops Q S f (d.setIfInBounds i true) a w)->K' a w)->if Region.wanted o (yielded ops a.tmps)=true then Oper.wp P o a w K' Q else K' (a.put o.dst undef) w)(c:Region.ready md ops d=[i]:=by kernel_rfl)(b:ops[i]?=K o:=by rfl):wpAnyH P md ops Q S (f+1) d a w:=wpAnyH_ready c sP (AllReadyH.cons b h AllReadyH.nil)
theorem Oo(i:Nat){o:Oper}(h:∀K':Act->Y->Prop,Shut (∀a w,(i<n->S w)->((i<n->S w)->Dl P md ops Q S n f (d.setIfInBounds i true) a w)->K' a w)->if Region.wanted o (yielded ops a.tmps)=true then Oper.wp P o a w K' Q else K' (a.put o.dst undef) w)(c:Region.ready md ops d=[i]:=by kernel_rfl)(b:ops[i]?=K o:=by rfl):Dl P md ops Q S n (f+1) d a w:=PG c sP (DG.cons b h DG.nil)
end
theorem _root_.Go.Shut.o{p:Prop}(h:Shut p):p:=h
structure MG where
 func:Int
 at_:Int
 base:Int
 aB:List MC
def MG.small(f:MG):Prop:=f.aB.length<=1048576
def BE(x:MG×J):List J:=[x.1.func,x.1.at_,x.1.base,x.2]
theorem Ca(x:MG×J):(BE x).length=4:=rfl
theorem tm:(Tryz.prog.info? 132).map (λi=>(i.zero,i.size,i.bytes))=K (K (An #[Ag Af 0,Ag Af 0,Ag Af 0,Z M 0 0]),4,48):=kR
def CH(c:MC):Prop:=EL c.type=true/\(c.type=1->c.word<=1)
def Bz(cs:List MC):Prop:=cs.length<=64/\∀j,j<cs.length->∀c,cs[j]?=K c->CH c
theorem Gx{α:Type}{q:α->Prop}{xs:List α}{k:Nat}{x:α}(b:xs[k]?=K x)(d:q x)(h:∀j,j<k->∀c,xs[j]?=K c->q c):∀j,j<k+1->∀c,xs[j]?=K c->q c:=by
 intro j f c a;by_cases e:j=k
 . subst e;rw[b]at a;exact(mD a)▸d
 exact h j oM c a
def Yq(w:Y)(v:J)(f:MB):Prop:=Rd w 1 v f.next (Ad At f.next)
theorem Yq.av{w a:Y}{v:J}{f:MB}(h:Yq w v f)(c:Ah B w a)(b: ↑w<=B):Yq a v f:=Rd.av h c b
def KQ(w:Y)(s:J)(fs:List MB):Prop:=∃xs:List (MB×J),xs.map Prod.fst=fs/\Rd w 3 s fs (Ad Dj xs)/\∀x∈xs,Yq w x.2 x.1
theorem KQ.av{w c:Y}{fs:List MB}(h:KQ w s fs)(b:Ah B w c)(a: ↑w<=B):KQ c s fs:=by obtain⟨xs,d,e,f⟩:=h;exact⟨xs,d,e.av b a, λx g=>(f x g).av b a⟩
structure OM(p:MP)(a b c:Int):Prop where
 low:0<=c
 jy:c<256
 jK:bits .and Af c (c+1)=0
 there:¬CJ p a b=0
 one:∀j:Nat,(j:Int)<=c->CJ p a (b+j)=CJ p a b
theorem DB(a:-9223372036854775808<=z:=by omega)(b:z<=9223372036854775807:=by omega):Fa z:=by simp[Fa,Lit.wf,IntKind.min,IntKind.max,IntKind.signed,IntKind.bits];omega
theorem Lq(h:Fa z):-9223372036854775808<=z/\z<=9223372036854775807:=by simpa[Fa,Lit.wf,IntKind.min,IntKind.max,IntKind.signed,IntKind.bits]using h
theorem GE(s:J)(ys:List Int)(w:Y)(z:ys.length<=1048576)(h:Rd w 1 s ys (Ad At ys)):
 Ai Aq 157 #[s] w λe B=>e=Am (ys.all EL)/\B=w:=by
 have b:=Aw h;obtain⟨C,c1,rfl⟩:=h.aD;generalize r:ys.length=n at z b;have d:=Aw r;generalize a:ys.all EL=R;have f:=Aw a;go_enter func157,ntmps157;go_wp2;go_loopw [7] (λi wr=>∃k:Nat,k<=n/\i=iZ k/\Ae ((ys.take k).all EL=true)/\wr=w) (λi _=>n-(intOf i).toNat)
 case atStart=>exact⟨0,oM,rfl,by simp[Ae],rfl⟩
 obtain⟨k,E,rfl,j,rfl⟩:=hrel;by_cases y:k<n
 . obtain⟨x,p⟩:∃x,ys[k]?=K x:=⟨_,an (by rw[d];exact y)⟩;rcases b.2 with⟨D,_⟩|⟨g,o,c,m,t⟩
   . omega
   simp only[lU,mj]at m;obtain⟨rfl,rfl⟩:=m;have A:=Rd.elem AE t k x p 0 _ rfl;rw[nX,mL]at A;have l:=Aw p;go_wp2_with fail;refine(Ce x wr).mono ?_;rintro e u ⟨rfl,rfl⟩;cases hq:EL x with
   | false=>(have a:R=false:=by rw[<-f];exact Yy _ _ _ (lP l) hq);subst a;go_wp2;go_ret;exact⟨rfl,rfl⟩
   | true=>(have q:Ae ((ys.take (k+1)).all EL=true):=by show _=_;rw[Wm _ _ _ _ l j];exact hq);go_wp2;go_roundw;(case rel=>exact⟨k+1,oM,by go_num,q,by trivial⟩);exact oI
 have v:k=n:=oM;subst v;have a:R=true:=by rw[<-f,<-j,<-d,List.take_length]
 subst a;go_wp2;go_ret;exact⟨rfl,rfl⟩
def Je(r:List Int):Prop:=r.length<=256/\r.all EL=true
def A7(rs:List (List Int)):Prop:=rs.length=3/\∀j,j<rs.length->∀r,rs[j]?=K r->Je r
theorem K6(s:J)(fs:List (List Int))(w:Y)(G:fs.length<=1048576)(O:∀f∈fs,f.length<=1048576)(h:OO w s fs):
 Ai Aq 120 #[s] w λe Q=>AM e (A7 fs)/\Q=w:=by
 obtain⟨xs,B,A,L⟩:=h;have P:xs.length=fs.length:=by rw[<-B];simp
 have d:=Aw (lN A (lN B (lN L (lN O P))));obtain⟨R,c1,rfl⟩:=A.aD;generalize H:fs.length=n at G d;have l:=Aw H;by_cases D:n=3
 . subst D;go_enter func120,ntmps120;go_wp2;go_loopw [10] (λi wr=>∃k:Nat,k<=3/\i=iZ k/\Ae (∀j,j<k->∀r,fs[j]?=K r->Je r)/\wr=w) (λi _=>3-(intOf i).toNat)
   (case atStart=>exact⟨0,oM,rfl, λj W=>oM,rfl⟩);obtain⟨k,X,rfl,z,rfl⟩:=hrel;by_cases t:k<3
   . obtain⟨⟨f,v⟩,y⟩:∃x,xs[k]?=K x:=⟨_,an (by rw[d.2.2.2.2];exact t)⟩;have p:=FU d.2.1 y;have q:=d.2.2.1 _ (lP y);have g:=Aw (lN q (lN (d.2.2.2.1 _ (lP p)) p));rcases d.1.2 with⟨U,_⟩|⟨b,o,c,p,I⟩
     . omega
     simp only[lU,mj]at p;obtain⟨rfl,rfl⟩:=p;have C:=Rd.elem Dx I k _ y 0 _ rfl;rw[nX,mL]at C;simp only[]at C q;obtain⟨S,T,F⟩:=q.aD;subst F;have hz:=g.2.1;by_cases q1:256<f.length
     . (have a:Ae (¬A7 fs):= λe=>absurd (e.2 k (by rw[l];exact t) f g.2.2).1 oM);generalize f.length=m at*;go_wp2;go_ret;exact⟨.no a,rfl⟩
     go_wp2_with fail;refine(GE _ f _ g.2.1 g.1).mono ?_;rintro e u ⟨rfl,rfl⟩;cases t1:f.all EL
     . (have a:Ae (¬A7 fs):= λe=>by have:=(e.2 k (by rw[l];exact t) f g.2.2).2;simp[t1]at this);go_wp2;go_ret;exact⟨.no a,rfl⟩
     have a:Ae (Je f):=⟨oM,t1⟩;go_wp2;go_roundw;(case rel=>exact⟨k+1,oM,by go_num,Gx g.2.2 a z,by trivial⟩);exact oI
   have N:k=3:=oM;subst N;have E:Ae (A7 fs):=⟨l,by rw[l];exact z⟩;go_wp2;go_ret;exact⟨.iQ E,rfl⟩
 have a:Ae (¬A7 fs):= λe=>D (by rw[<-l];exact e.1)
 have V:¬(n:Int)=3:=oM;go_enter func120,ntmps120;go_wp2;go_ret;exact⟨.no a,rfl⟩
theorem JN(h:RT z):0<=z/\z<=4294967295:=by simpa[RT,Lit.wf,IntKind.min,IntKind.max,IntKind.signed,IntKind.bits]using h
theorem Fh(a b a' c:Int)(w:Y):(binOp .eql 193 (An #[a,Ag .u32 b]) (An #[a',Ag .u32 c])).run Aq w=.ok (Ao (decide (a=a'/\b=c))) w:=by
 have l:=underlying2;have g:=Tryz.isAgg2;have n:=Tryz.sizeOf2;have k:=underlying29;have f:=Tryz.isAgg29;have m:=Tryz.sizeOf29;have d:Tryz.prog.underlying 193=K (.struct (Tryz.prog.fieldsOf 193)):=kR;have e:Tryz.prog.stoodInHeld 193=false:=kR;rw[run_eql_struct,show(10000:Nat)=9999+1 from rfl,run_equalIn_agg w 9999 193 _ _ d e];simp only[Program.fieldsOf,underlying193];go_simp;by_cases h:a=a'
 . by_cases j:b=c<;>simp[*]
 simp[*]
theorem KG(t x:Int)(w:Y)(j:0<=x):
 Ai Aq 144 #[An #[t,Ag .u32 x]] w λe n=>AM e (CH ⟨t,x⟩)/\Ah w w n:=by
 by_cases h:t=1
 . subst h;have k:∀w,(binOp .eql 193 (An #[iZ 1,Ag .u32 x]) (An #[iZ 1,Ag .u32 0])).run Aq w=.ok (Ao (decide (1=(1:Int)/\x=0))) w:=Fh 1 x 1 0
   have g:∀w,(binOp .eql 193 (An #[iZ 1,Ag .u32 x]) (An #[iZ 1,Ag .u32 1])).run Aq w=.ok (Ao (decide (1=(1:Int)/\x=1))) w:=Fh 1 x 1 1
   by_cases c:x=0
   . have a:decide (1=(1:Int)/\x=0)=true:=by simp[c]
     have f:Ae (CH ⟨1,x⟩):=⟨rfl, λ_=>oS⟩;rw[a]at k;clear c a g j;go_enter func144,ntmps144;go_wp2;go_ret;exact⟨.iQ f,Al _ _⟩
   have a:decide (1=(1:Int)/\x=0)=false:=by simp[c]
   rw[a]at k;by_cases d:x=1
   . have b:decide (1=(1:Int)/\x=1)=true:=by simp[d]
     have f:Ae (CH ⟨1,x⟩):=⟨rfl, λ_=>oS⟩;rw[b]at g;clear c a d b j;go_enter func144,ntmps144;go_wp2;go_ret;exact⟨.iQ f,Al _ _⟩
   have b:decide (1=(1:Int)/\x=1)=false:=by simp[d]
   (have m:Ae (¬CH ⟨1,x⟩):= λe=>by have:=e.2 rfl;simp only[]at this;omega);rw[b]at g;clear c a d b j;go_enter func144,ntmps144;go_wp2;go_ret;exact⟨.no m,Al _ _⟩
 have p:(t==1)=false:=by simpa using h
 have l:Ae (EL t=true↔CH ⟨t,x⟩):=⟨λe=>⟨e, λe=>absurd e h⟩, λe=>e.1⟩;go_enter func144,ntmps144;go_wp2_with fail;refine(Ce t _).mono ?_;rintro e u ⟨rfl,rfl⟩;go_wp2;go_ret;exact⟨.of l,Al _ _⟩
end Go.Proofs.YtkgohaigebcgoaaGreatDoor
