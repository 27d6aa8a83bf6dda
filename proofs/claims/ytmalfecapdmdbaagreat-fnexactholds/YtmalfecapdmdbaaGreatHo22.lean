import Derived.Test.YtmalfecapdmdbaaGreatHo20
import Derived.Test.YtmalfecapdmdbaaGreatHo19
import Derived.Lib.AppendZerosOnto
import Derived.Lib.AppendZeros
import Derived.Laws.Append
import Derived.Deep.DeepCutAuto
namespace Go.Proofs.YtmalfecapdmdbaaGreat
open Go.ChangeShapes Go.WideShapes Go.ChangeAt Go.RowKit Go.Proofs.Tryz
set_option linter.unusedVariables false
open Option renaming some → K,none → M
open Go.Value renaming slice → Z,agg → Am,int → Ag,tuple → Ao
open Go renaming Value → J,World → Y,Calls → Ai,TypeId → Aj
open Go.RowKit renaming Hid → Ae,Below → Ah
open Go.IntKind renaming i64 → Af
open Go.Obj renaming cells → Ak
open Go.Ending renaming returned → Al
open Go.Proofs.Tryz renaming prog → Ap
open Go.World renaming ownsRow → Ab,alloc → Ac,setCell → Aa
open List renaming flatMap → Ad
set_option maxHeartbeats 4000000
set_option maxRecDepth 100000
variable {z:Int}{D W:DataW Unit}{v V:J}{w u g U:Y}{left:Lit->Bool}{fs:List MF}{zs xs:List Int}{i base B S:Nat}{a:Option Addr}{e:Aj}{c:Nat->List Int}
def Top(E:Nat->List Nat)(n:Nat)(P:Nat->Bool)(I:List Nat)(f:Nat)(pl:Nat->Nat):Prop:=∀a b x,Ez P n a->Ez P n b->x∈E b->Ez P n x->jf I x≠jf I b->jf I x≠f->jf I x=jf I a->pl b<pl a
structure WQ(E:Nat->List Nat)(n:Nat)(P:Nat->Bool)(I:List Nat)(C:List Int)(f:Nat)(pl:Nat->Nat)(L:List Int)(k q:Nat):Prop where
 len: ↑L=n
 jb:∀y∈L,Ew y
 hd:cf L f=cf C f
 le:∀t,Ve E (Ez P n) (jf I) f (cf C) t->(∀b,Ez P n b->0<=t (jf I b))->∀b,Ez P n b->cf L (jf I b)<=t (jf I b)
 cl:Top E n P I f pl->∀b x,(pl b<k\/pl b=k/\x∈(E b).take q)->Ez P n b->x∈E b->Ez P n x->jf I x≠jf I b->jf I x≠f->cf L (jf I b)+cf C (jf I x)<=cf L (jf I x)
section
variable {E:Nat->List Nat} {n:Nat} {P:Nat->Bool} {I:List Nat} {C:List Int} {f:Nat} {pl:Nat->Nat} {L:List Int} {k q b x:Nat}
theorem Gu(h:∀y∈L,Ew y)(c:Nat):Ew (cf L c):=by
 unfold cf;rw[kL];cases e:L[c]? with
 |none=>exact⟨sP,sP⟩
 |some y=>exact h y (i7 e)
theorem TZ(h:x< ↑L):L[x]?=K (cf L x):=by rw[an h];exact congrArg K (DL (an h)).symm
theorem LA{y:Int}(h:y∈L.set x z):y∈L\/y=z:=nP h
theorem WQ.start(i:f<n)(g:Ew (cf C f)):WQ E n P I C f pl ((List.replicate n (0:Int)).set f (cf C f)) 0 0:=by
 have a:(List.replicate n (0:Int))[f]?=K 0:=by rw[List.getElem?_replicate,kZ i]
 have p:∀c,cf (List.replicate n (0:Int)) c=0:= λc=>by
  unfold cf;rw[kL,List.getElem?_replicate];by_cases e:c<n
  . rw[kZ e];rfl
  rw[kP e];rfl
 refine⟨sP, λy m=> ?_,by rw[Dl a,kZ rfl], λt l j b d=> ?_, λ_ b x k=> ?_⟩
 . rcases LA m with h|rfl
   . obtain rfl:=(List.mem_replicate.1 h).2;exact⟨sP,sP⟩
   exact g
 . rw[Dl a];by_cases e:jf I b=f
   . rw[kZ e,e,l.hd];exact Int.le_refl _
   rw[kP e,p];exact j b d
 rcases k with h|⟨_,h⟩
 . omega
 simp at h
theorem WQ.kq(h:WQ E n P I C f pl L k 0)(d:∀b,b<n->pl b=k->P b=false):WQ E n P I C f pl L (k+1) 0:=
 ⟨h.len,h.jb,h.hd,h.le, λT b x a c=>by
  rcases a with a|⟨_,a⟩
  . by_cases e:pl b=k
    . have:=d b c.1 e;rw[c.2]at this;cases this
    exact h.cl T b x (.inl oM) c
  simp at a⟩
theorem WQ.kp(h:WQ E n P I C f pl L k q)(g:∀b,b<n->pl b=k->(E b).length<=q):WQ E n P I C f pl L (k+1) 0:=
 ⟨h.len,h.jb,h.hd,h.le, λT b x a c d=>by
  rcases a with a|⟨_,a⟩
  . by_cases e:pl b=k
    . exact h.cl T b x (.inr ⟨e,by rw[k8 (g b c.1 e)];exact d⟩) c d
    exact h.cl T b x (.inl oM) c d
  simp at a⟩
theorem WQ.ji(h:WQ E n P I C f pl L k q)(m:∀c,c<n->pl c=k->c=b)(r:(E b)[q]?=K x)(p:¬(Ez P n x/\jf I x≠jf I b/\jf I x≠f)):WQ E n P I C f pl L k (q+1):=
 ⟨h.len,h.jb,h.hd,h.le, λT c y a i l j d g=>by
  rcases a with a|⟨e,a⟩
  . exact h.cl T c y (.inl a) i l j d g
  have:=m c i.1 e;subst this;rw[List.take_add_one,r,kO]at a;rcases a with a|a
  . exact h.cl T c y (.inr ⟨e,a⟩) i l j d g
  simp at a;subst a;exact absurd ⟨j,d,g⟩ p⟩
theorem WQ.over(h:WQ E n P I C f pl L k q)(D:∀a,a<n->pl a=k->a=b)(j:Ez P n b)(S:pl b=k)(v:(E b)[q]?=K x)(m:Ez P n x)(u:jf I x≠jf I b)(i:jf I x≠f)(N:jf I x<n)(R:0<=cf C (jf I x))(Q:max (cf L (jf I x)) (cf L (jf I b)+cf C (jf I x))<=4294967295):WQ E n P I C f pl (L.set (jf I x) (max (cf L (jf I x)) (cf L (jf I b)+cf C (jf I x)))) k (q+1):=by
 have d:=TZ (L:=L) (x:=jf I x) (by rw[h.len];exact N);have w:x∈E b:=i7 v;have G:=Gu h.jb (jf I x);refine⟨by simp[h.len], λy s=> ?_,by rw[Dl d,kP (Ne.symm i)];exact h.hd, λt g p a F=> ?_, λT a y c l s H A B=> ?_⟩
 . rcases LA s with e|rfl
   . exact h.jb y e
   exact⟨by have:=G.1;omega,Q⟩
 . rw[Dl d];by_cases e:jf I a=jf I x
   . rw[kZ e,e];have U:=h.le t g p b j;have V:=g.ed b x j w m u i;have W:=h.le t g p x m;omega
   rw[kP e];exact h.le t g p a F
 have r:(pl a<k\/pl a=k/\y∈(E a).take q)\/(a=b/\y=x):=by
  rcases c with c|⟨e,c⟩
  . exact .inl (.inl c)
  have z:=D a l.1 e;subst z;rw[List.take_add_one,v,kO]at c;rcases c with c|c
  . exact .inl (.inr ⟨e,c⟩)
  simp at c;exact .inr ⟨rfl,c⟩
 rw[Dl d,Dl d];have O:jf I a≠jf I x:= λe=>by have:=T a b x l j w m u i e.symm;rcases c with c|⟨e,_⟩<;>omega
 rw[kP O];rcases r with r|⟨rfl,rfl⟩
 . have:=h.cl T a y r l s H A B;by_cases e:jf I y=jf I x
   . rw[kZ e];rw[e]at this⊢;omega
   rw[kP e];exact this
 rw[kZ rfl];omega
theorem WQ.bad(h:WQ E n P I C f pl L k q)(a:Ez P n b)(j:(E b)[q]?=K x)(c:Ez P n x)(e:jf I x≠jf I b)(g:jf I x≠f)(m:¬max (cf L (jf I x)) (cf L (jf I b)+cf C (jf I x))<=4294967295):∀t,Ve E (Ez P n) (jf I) f (cf C) t->(∀b,Ez P n b->0<=t (jf I b))->∃b,Ez P n b/\4294967295<t (jf I b):= λt d i=>by have p:=h.le t d i b a;have r:=d.ed b x a (i7 j) c e g;have l:=Gu h.jb (jf I x);have s:=l.2;exact⟨x,c,oM⟩
def WP(E:Nat->List Nat)(n:Nat)(P:Nat->Bool)(I:List Nat)(C:List Int)(f:Nat)(pl:Nat->Nat)(L:List Int)(small:Bool):Prop:=(small=true/\∃k,WQ E n P I C f pl L k 0/\∀b,b<n->pl b<k)\/(small=false/\∀t,Ve E (Ez P n) (jf I) f (cf C) t->(∀b,Ez P n b->0<=t (jf I b))->∃b,Ez P n b/\4294967295<t (jf I b))
theorem WP.pass{D:Nat->Nat->Bool}{p:Nat->Prop}(g:GQ E n pl D)(s:KE E n D p (jf I))(r:SH E n D p (jf I) (Ez P n) f)(v:∀c,0<=cf C c)(h:WP E n P I C f pl L true):SG E (Ez P n) (jf I) f (cf C) (cf L):=by
 rcases h with⟨_,k,h,y⟩|⟨e,_⟩
 . (have T:Top E n P I f pl:= λa b x w d l m i j u=>r.k7 g s w d l m i j u);exact⟨⟨⟨h.hd, λb x d l m i j=>h.cl T b x (.inl (y b d.1)) d l m i j⟩, λt q b d=>h.le t q (λb d=>q.iQ g r v d) b d⟩, λb d=>(Gu h.jb _).2⟩
 cases e
theorem WP.iH{D:Nat->Nat->Bool}{d:Nat->Prop}(g:GQ E n pl D)(r:SH E n D d (jf I) (Ez P n) f)(i:∀c,0<=cf C c)(h:WP E n P I C f pl L false):KP E (Ez P n) (jf I) f (cf C):= λt a=>by
 rcases h with⟨e,_⟩|⟨_,h⟩
 . cases e
 exact h t a λb j=>a.iQ g r i j
end
def Cq:J->Option (DataW Unit×List MemPlace)
 |.map (K b)=>K (.lit (.int Af (b:Int)),[])
 |_=>M
theorem FG{y:DataW Unit×List MemPlace}(h:Cq v=K y):∃b:Nat,v=.map (K b)/\y=(.lit (.int Af (b:Int)),[]):=by
 cases v with
 | map o=>
   cases o with
   |none=>cases h
   |some b=>exact⟨b,rfl,(kH h).symm⟩
 |_=>cases h
theorem IA{H:Type}(f:Lit×DataW H->Bool):∀l:List (Lit×DataW H),(l.foldr DataW.insert []).any f=l.any f
 |[]=>rfl
 |x::r=>by rw[List.foldr_cons,Go.Maps.any_insert,IA f r,List.any_cons]
theorem TE{b d:Nat}(h:AW w b d D):Go.Maps.size D=0↔∀z,Go.Maps.has D (.int Af z)=false:=by
 obtain⟨a,j,k,f,l,rfl⟩:=h;rw[Go.Maps.size_eq,Go.length_read];constructor
 . intro e z;rw[Go.Maps.has_eq,IA];have:a.toList=[]:=lJ (by simpa using e);rw[this];rfl
 intro g;cases hl:a.toList with
 | nil=>(have:a.toList.length=0:=by rw[hl];rfl);simpa using this
 | cons x r=>obtain⟨y,c⟩:=f.reads x (by rw[hl];simp);obtain⟨z,_,i,_⟩:=Go.Maps.keyOf_int_inv underlying2 (Go.WideElems.rd_key c);have:=g z;rw[Go.Maps.has_eq,IA,hl,mX,List.any_cons]at this;rw[Go.WideElems.rg_of c]at this;simp only[i,DA,decide_true,Bool.true_or]at this;cases this
def Gn(D W:DataW Unit)(left:Lit->Bool)(E:Int->Bool):Prop:=∀z:Int,Go.Maps.has D (.int Af z)=(Go.Maps.has W (.int Af z)&& !left (.int Af z)&&E z)
theorem Gn.gY{E:Int->Bool}{x:Int}(h:Gn D W left E)(c:Go.Maps.IsMap D)(b:Go.Maps.has W (.int Af x)=true)(a:E x=true):Gn (D.put (.int Af x) (.agg [])) W (λz=>left z&& !z.sameKey (.int Af x)) E:=by
 intro z;rw[Lm D c,h z];simp only[DA];by_cases e:z=x
 . subst e;simp[b,a]
 simp[e,Ne.symm e]
theorem Gn.no{E:Int->Bool}{x:Int}(h:Gn D W left E)(a:E x=false):Gn D W (λz=>left z&& !z.sameKey (.int Af x)) E:=by
 intro z;rw[h z];simp only[DA];by_cases e:z=x
 . subst e;simp[a]
 simp[e]
theorem PT(i m:Nat)(W:DataW Unit)(E:Int->Bool)(w:Y)(aY:m<=1048576)(h:w.ownsMap Ap 2 Cq i m W)(aG:∀(z:Int) (c:Nat),(∀zd,W.atKey (.int Af z) zd=.lit (.int Af (c:Int)))->∃k D,k<=1048576/\AW w c k D/\(Go.Maps.size D=0↔E z=true)):
 Ai Ap 82 #[.map (K i)] w λe w'=>∃(g cap:Nat) (zs:List Int),e=Al (Z g zs cap)/\Ab w' w 2 1 (Z g zs cap) zs (Ad As zs)/\zs.Pairwise (· < ·)/\(∀z,z∈zs↔Dg z/\Go.Maps.has W (.int Af z)=true/\E z=true)/\Ah w w w':=by
 have aW:=h.lt;have HS:=Av aG;clear aG;have bi:= @run_makeMap Ap;have aq:=h.alloc (.map #[] 0);have S:AW (Ac w (.map #[] 0)) w 0 (.map []):=World.ownsMap_made _ _ _ _;have Q:(Ac w (.map #[] 0)).heap.size= ↑w+1:=sP
 go_enter func82,ntmps82;go_wp2_with (first
  |(at_range;refine wpList_range_own _ rfl _ 152 rfl 2 154 EL underlying152 _ i m _ rfl aq ?_;intro w0 au I aR)
  |go_in)
 go_frame;have R:=Av (d5 (World.ownsMap.kept S I sP) (((Aq w (.map #[] 0)).grown I (Aq _ _).size (λj n=>by cases n)):Ah w w w0));have bo:=h.size_le;clear I aR S aq;generalize aU:(Ac w (.map #[] 0)).heap.size=B at au Q⊢;clear aU;have F:=Av Q;clear Q;go_loopw [4] (λ_ wr=>∃(left:Lit->Bool) (k d:Nat) (D:DataW Unit),wr.ranges Ap 2 Cq i B m W left k/\d+k<=Go.Maps.size W/\AW wr w d D/\Gn D W left E/\Ah w w wr) (λ_ wr=>wr.rangeLeft i B)
 case atStart=>exact⟨_,_,0,.map [],au,sP,R.1, λz=>by cases hh:Go.Maps.has W (.int Af z)<;>rfl,R.2⟩
 obtain⟨left,k,d,D,u,aZ,q,t,p⟩:=hrel;go_wp2_with (first
  |(at_next;refine wpList_next_ranges _ rfl _ rfl 2 EL Cq (Value.int Af) (λ(c:Nat)=>Value.map (K c)) (λbp kl hk=>by obtain⟨x,P,_⟩:=Go.Maps.keyOf_int_inv underlying2 hk;exact⟨x,P⟩) (λv y O=>by obtain⟨c,rfl,_⟩:=FG O;exact⟨c,rfl⟩) i B m _ _ _ rfl u ?_ ?_)
  |go_in)
 . intro aX aP;have r:=Av (d5 q (d5 t p));clear q t p u;go_wp2_with fail;refine(IU w d D _ oM r.1).mono ?_;rintro e u9 ⟨g9,U,zs,rfl,aI,aH,ao,T⟩;have s:Ae (Ab u9 w 2 1 (Z g9 zs U) zs (Ad As zs)/\zs.Pairwise (· < ·)/\(∀z,z∈zs↔Dg z/\Go.Maps.has W (.int Af z)=true/\E z=true)/\Ah w w u9):=by refine⟨Br aI r.2.2.size,aH, λz=> ?_,Ar r.2.2 lR T⟩;rw[ao,r.2.1 z,aP];simp
   clear aI aH ao T;go_wp2;go_ret;exact⟨g9,U,zs,rfl,s.1,s.2.1,s.2.2.1,s.2.2.2⟩
 intro x c kl y ps b V aM bg O ae A am aj aS bf;obtain⟨x',ex,rfl,aT⟩:=Go.Maps.keyOf_int_inv underlying2 aM;obtain rfl:x=x':=by cases ex;rfl
 obtain⟨c',ec,X⟩:=FG O;obtain⟨rfl,rfl⟩:=Prod.mk.inj X;clear X;obtain rfl:c=c':=by cases ec;rfl
 obtain⟨cs,C,b7,aA,ah⟩:=HS.o x c ae;have N:Ah w w b:=p.grown aj p.size (λj n=>by cases n;have:=F.o;omega);have aF:AW b w d D:=World.ownsMap.kept q aj (by have:=F.o;simp;omega);have aE:AW b c cs C:=aA.a7 N;have L:=aE;unfold AW at L;clear aS;have aQ:¬B=w.heap.size:=by have:=F.o;omega
 have a:=Av (d5 aF (d5 N (d5 t (d5 (mv q) (d5 u.left_eq (Go.Maps.has_true_of_atKey ae))))));clear aF N t q u p aA aE;by_cases H:Go.Maps.size C=0
 . have f:Ae ((Ac b (Ak #[x] 2)) b=K ↑x/\AW (Ac b (Ak #[x] 2)) w d D/\Ah w w (Ac b (Ak #[x] 2))/\¬(b:Nat)= ↑w/\¬i= ↑w/\E x=true):=⟨(AC.new b #[x] 2).cell 0,a.1.a7 (Aq _ _),Ar a.2.1 lR (Aq _ _),by have:=m7 a.1;omega,oM,ah.1 H⟩
   have aw:=A.alloc (Ak #[x] 2);have aJ:=Av aw;clear aw A;go_wp2_with (first
    |(at_len;refine wpList_len_own _ rfl _ 154 rfl 2 207 underlying154 _ c cs _ rfl L ?_;rw[H])
    |fail)
   refine(D9 w d b 1 D x _ aT oM f.1 f.2.2.2.1 f.2.1).mono ?_;rintro e u4 ⟨rfl,s4,G⟩;have l:=Av (d5 (World.ranges.kept aJ G (by simp;exact f.2.2.2.2.1) (by simp;exact aQ)) (d5 s4 (d5 (a.2.2.1.gY a.2.2.2.1 a.2.2.2.2.2 f.2.2.2.2.2) (f.2.2.1.grown G f.2.2.1.size (λj n=>by cases n;exact Nat.le_refl _)))));clear s4 G;go_wp2;go_roundw;(case rel=>exact⟨_,V,d+1,_,l.1,oM,l.2.1,l.2.2.1,l.2.2.2⟩);rw[l.1.left_eq,a.2.2.2.2.1];exact am
 have bj:((Go.Maps.size C:Nat):Int)≠0:=oM;have hE:E x=false:=by cases P:E x with
  |false=>rfl
  |true=>exact absurd (ah.2 P) H
 go_wp2_with (first
  |(at_len;refine wpList_len_own _ rfl _ 154 rfl 2 207 underlying154 _ c cs _ rfl L ?_)
  |go_in)
 go_roundw;case rel=>exact⟨_,V,d,D,A,oM,a.1,a.2.2.1.no hE,a.2.1⟩
 rw[A.left_eq,a.2.2.2.2.1];exact am
def Ed(fs:List MF)(zs:List Int)(i:Nat)(z:Int):Bool:=match fs[i]? with|some f=>(f.eC.any λx=>decide (x.op=28)&&decide (x.a=z))&& !zs.contains z|none=>false
def IR(fs:List MF)(zs:List Int)(z:Int):Bool:=match fs[z.toNat]? with|some f=>(FD f).all λa=>zs.contains a|none=>false
theorem TC(j:i< ↑fs):(∀z,Ed fs zs i z=false)↔IR fs zs (i:Int)=true:=by
 unfold Ed IR;rw[kA,an j];simp only[nV];constructor
 . intro h a d;unfold FD at d;obtain⟨x,c,rfl⟩:=lA.1 d;obtain⟨e,f⟩:=mO.1 c;have:=h x.a;have g:(fs[i].eC.any λy=>decide (y.op=28)&&decide (y.a=x.a))=true:=List.any_eq_true.2 ⟨x,e,by simpa using f⟩;rw[g]at this;simpa using this
 intro h z;cases hz:zs.contains z with
 |true=>simp
 | false=>simp only[Bool.not_false,Bool.and_true];rw[List.any_eq_false];intro x c b;simp only[mR,mB]at b;have:=h x.a (lA.2 ⟨x,mO.2 ⟨c,by simpa using b.1⟩,rfl⟩);rw[b.2,hz]at this;cases this
theorem VX:CP fs zs i=(!zs.contains (i:Int)&&IR fs zs (i:Int)):=by unfold CP IR;rw[kA];rfl
structure Dc(u:Y)(fs:List MF)(base mb k:Nat)(Bk:Nat->Nat)(live:Nat->Bool)(dn:Nat->List Int):Prop where
 set:∀i,i<k->live i=true->∃cn D,cn<=1048576/\AW u (Bk i) cn D/\∀z,Go.Maps.has D (.int Af z)=Ed fs (dn i) i z
 inj:∀i j,i<k->j<k->Bk i=Bk j->i=j
 ne:∀i,i<k->base<=Bk i/\Bk i≠mb
structure Ds(u:Y)(mb cnt k:Nat)(Bk:Nat->Nat)(zs:List Int)(W:DataW Unit):Prop where
 own:u.ownsMap Ap 2 Cq mb cnt W
 has:∀z,Go.Maps.has W (.int Af z)=(decide (0<=z/\z<(k:Int))&& !zs.contains z)
 at_:∀i,i<k->zs.contains (i:Int)=false->∀zd,W.atKey (.int Af (i:Int)) zd=.lit (.int Af (Bk i:Int))
 size:Go.Maps.size W+zs.length=k
theorem Yr(z:Int):WideAt.IsKeyLit (Lit.int Af z):=trivial
theorem Ds.start{a:Nat}{b:Nat->Nat}(h:u.ownsMap Ap 2 Cq a 0 (.map [])):Ds u a 0 0 b [] (.map []):=⟨h, λz=>by
 have:¬(0<=z/\z<((0:Nat):Int)):=oM
 simp only[this,decide_false,Bool.false_and];rfl, λi c=>absurd c (Nat.not_lt_zero _),rfl⟩
theorem Dc.start{e:Nat}{b:Nat->Nat}{d:Nat->Bool}:Dc u fs base e 0 b d c:=⟨λi a=>absurd a (Nat.not_lt_zero _), λi j a=>absurd a (Nat.not_lt_zero _), λi a=>absurd a (Nat.not_lt_zero _)⟩
theorem Ds.put{a k c:Nat}{b:Nat->Nat}(h:Ds u a k k b [] W)(j:g.ownsMap Ap 2 Cq a (k+1) (W.put (.int Af (k:Int)) (.lit (.int Af (c:Int))))):Ds g a (k+1) (k+1) (λi=>if i=k then c else b i) [] (W.put (.int Af (k:Int)) (.lit (.int Af (c:Int)))):=by
 refine⟨j, λz=> ?_, λi l _ m=> ?_,?_⟩
 . rw[Lm W (mv h.own),h.has z];simp only[List.contains_nil,Bool.not_false,Bool.and_true];by_cases e:(k:Int)=z
   . subst e;have:(0<=(k:Int)/\(k:Int)<((k+1:Nat):Int)):=oM
     simp only[this,decide_true,Bool.or_true,and_self]
   by_cases d:0<=z/\z<(k:Int)
   . have:(0<=z/\z<((k+1:Nat):Int)):=oM
     simp only[d,this,decide_true,Bool.true_or,and_self]
   have:¬(0<=z/\z<((k+1:Nat):Int)):=oM
   simp only[d,this,e,decide_false,Bool.or_false]
 . by_cases e:i=k
   . subst e;rw[Go.Maps.atKey_put_same (mv h.own) (Yr _)];simp
   rw[Go.Maps.atKey_put_other (λq=>e (by injection q with _ q;omega)),h.at_ i oM rfl];simp[e]
 rw[Go.Maps.size_put (World.ownsMap.tidy h.own EL),h.has];have:¬(0<=(k:Int)/\(k:Int)<(k:Int)):=oM
 have f:=h.size;simp only[this,decide_false,Bool.false_and,lw,kJ]at f⊢;simp[f]
theorem Dc.put{m:Y}{base l k c:Nat}{b:Nat->Nat}{q:Nat->Bool}{f:Nat->List Int}(h:Dc u fs base l k b q f)(w:∀i,i<k->∀a D,AW u (b i) a D->AW m (b i) a D)(p:∀i,i<k->b i≠c)(v:base<=c/\c≠l)(y:∃a D,a<=1048576/\AW m c a D/\∀z,Go.Maps.has D (.int Af z)=Ed fs (f k) k z):Dc m fs base l (k+1) (λi=>if i=k then c else b i) q f:=by
 refine⟨λi n x=> ?_, λi j n A e=> ?_, λi n=> ?_⟩
 . by_cases e:i=k
   . subst e;simpa using y
   obtain⟨a,D,r,s,t⟩:=h.set i oM x;simp only[e,if_false];exact⟨a,D,r,w i oM _ _ s,t⟩
 . by_cases g:i=k
   . by_cases d:j=k
     . omega
     simp only[g,d,if_true,if_false]at e;exact absurd e.symm (p j oM)
   by_cases d:j=k
   . simp only[g,d,if_true,if_false]at e;exact absurd e (p i oM)
   simp only[g,d,if_false]at e;exact h.inj i j oM oM e
 by_cases e:i=k
 . simpa[e]using v
 simpa[e]using h.ne i oM
theorem Dc.kept{base f k:Nat}{a:Nat->Nat}{e:Nat->Bool}(h:Dc u fs base f k a e c)(n:∀i,i<k->∀b D,AW u (a i) b D->AW g (a i) b D):Dc g fs base f k a e c:=⟨λi d p=>by obtain⟨b,D,j,l,m⟩:=h.set i d p;exact⟨b,D,j,n i d _ _ l,m⟩,h.inj,h.ne⟩
theorem RS{base n p:Nat}{b:Nat->Nat}(h:Dc u fs base n fs b (λi=> !zs.contains (i:Int)) (λ_=>zs))(m:Ds u n p fs b zs W)(z:Int)(c:Nat)(l:∀s,W.atKey (.int Af z) s=.lit (.int Af (c:Int))):∃a D,a<=1048576/\AW u c a D/\(Go.Maps.size D=0↔IR fs zs z=true):=by
 have d:=Go.Maps.has_true_of_atKey l;rw[m.has]at d;simp only[mR,mB]at d;obtain⟨⟨t,v⟩,g⟩:=d;obtain⟨i,rfl⟩:∃i:Nat,z=(i:Int):=⟨z.toNat,oM⟩;have f:i<fs.length:=oM;have e:=(l (.agg [])).symm.trans (m.at_ i f (by simpa using g) (.agg []));obtain rfl:c=b i:=by
  injection e with e
  injection e with _ e
  omega
 obtain⟨a,D,r,j,k⟩:=h.set i f g;refine⟨a,D,r,j,?_⟩;rw[TE j,<-TC f];exact⟨λq y=>by rw[<-k];exact q y, λq y=>by rw[k];exact q y⟩
theorem IX(a:0<=z)(b:z<1048576):Dg z:=by simp[Dg,Lit.wf,IntKind.min,IntKind.max,IntKind.signed,IntKind.bits];omega
theorem PU{rs:List Int}(l:fs.length<=1048576)(d:∀z,Go.Maps.has W (.int Af z)=(decide (0<=z/\z<(fs:Int))&& !zs.contains z))(k:rs.Pairwise (· < ·))(g:∀z,z∈rs↔Dg z/\Go.Maps.has W (.int Af z)=true/\IR fs zs z=true):(rs=[]/\GC fs zs=M)\/∃(q:Nat) (r:List Int),rs=(q:Int)::r/\q< ↑fs/\zs.contains (q:Int)=false/\GC fs zs=K q:=by
 have b:∀i:Nat,i< ↑fs->(CP fs zs i=true↔(i:Int)∈rs):= λi a=>by
  rw[g,d,VX];have h:(0<=(i:Int)/\(i:Int)<(fs:Int)):=oM
  simp only[h,decide_true,Bool.true_and,mR,and_self];exact⟨λq=>⟨IX oM oM,q⟩, λq=>q.2⟩
 cases rs with
 | nil=>
   refine .inl ⟨rfl,Kd λj f=> ?_⟩;cases hr:CP fs zs j with
   |false=>rfl
   |true=>exact absurd ((b j f).1 hr) sP
 | cons z r=>
   have c:=(g z).1 (lV ..);rw[d]at c;simp only[mR,mB]at c;obtain⟨i,rfl⟩:∃i:Nat,z=(i:Int):=⟨z.toNat,oM⟩;have a:i<fs.length:=oM;refine .inr ⟨i,r,rfl,a,by simpa using c.2.1.2,Ke a ((b i a).2 (lV ..)) λj f=> ?_⟩;cases hr:CP fs zs j with
   |false=>rfl
   | true=>
     have:=(b j oM).1 hr;rcases kY.1 this with e|e
     . omega
     have:=(lg.1 k).1 _ e;omega
theorem Pq(D:DataW Unit)(z y:Int):Go.Maps.has (D.del (.int Af z)) (.int Af y)=(Go.Maps.has D (.int Af y)&& !decide (y=z)):=by
 by_cases h:y=z
 . subst h;rw[Go.Maps.has_del_same];simp
 rw[Go.Maps.has_del_other (λe=>h (by cases e;rfl))];simp[h]
theorem ET(zs:List Int)(q z:Int):(zs++[q]).contains z=(zs.contains z||decide (z=q)):=by rw[nO];simp
theorem Ds.del{u f:Y}{c b k q:Nat}{d:Nat->Nat}(h:Ds u c b k d zs W)(n:q<k)(m:zs.contains (q:Int)=false)(l:f.ownsMap Ap 2 Cq c b (W.del (.int Af (q:Int)))):Ds f c b k d (zs++[(q:Int)]) (W.del (.int Af (q:Int))):=by
 refine⟨l, λz=> ?_, λi j a r=> ?_,?_⟩
 . rw[Pq,h.has z,ET,Bool.not_or,Bool.and_assoc]
 . rw[ET]at a;simp only[Bool.or_eq_false_iff,nR]at a;rw[Go.Maps.atKey_del_other (λe=>a.2 (by injection e)),h.at_ i j a.1]
 have:=Go.Maps.size_del (k:=.int Af (q:Int)) (World.ownsMap.tidy h.own EL);have g:(0<=(q:Int)/\(q:Int)<(k:Int)):=oM
 rw[h.has,m]at this;simp only[g,and_self,decide_true,Bool.not_false,Bool.and_true,if_true]at this;have p:=h.size;rw[kE,kK];omega
theorem UK(fs:List MF)(zs:List Int)(q:Int)(i:Nat)(z:Int):Ed fs (zs++[q]) i z=(Ed fs zs i z&& !decide (z=q)):=by
 unfold Ed;cases fs[i]? with
 |none=>rfl
 |some f=>simp only[ET,Bool.not_or,Bool.and_assoc]
theorem Mq(v:VP)(p:MP)(w:Y)(hs:p.small)(hw:p.wf)(hp:AU p.bO)(au:Bj p.bW)(h:Da w v p)(aq:EP w v.r p.bO):
 Ai Ap 79 #[Am #[v.r,v.k,v.f,v.t]] w λe w'=>AJ e (CD p)/\Ah w w w':=by
 obtain⟨xs,ys,I⟩:=Pg.of hs hw h;obtain⟨vr,vk,vf,vt⟩:=v;simp only[]at I;obtain⟨r3,c3,e3⟩:=I.fr.dk;have hm:=hs.bW;subst e3;have HH:=Av (d5 hp (d5 au aq));clear hs hw h hp au aq;obtain⟨C,y,aJ⟩:=I.rr.dk;obtain⟨D,A,aI⟩:∃a c,vk=Z a p.ej c:=I.rd.ej.dk;obtain⟨E,B,aM⟩:∃a c,vt=Z a p.eD c:=I.rd.eD.dk;subst aJ aI aM;have u:Ae _:=I;clear I;have n:Ae _:=Mc.of w (Z C p.bO y) (Z D p.ej A) (Z r3 p.bW c3) (Z E p.eD B) 36;generalize hM:p.bW.length=m at*;have N:=Av hM;clear hM;have u:=Av u;go_enter func79,ntmps79;go_wp2;go_loopw [11] (λi wr=>∃k:Nat,k<=m/\i=iZ k/\Ae (∀j,j<k->∀f,p.bW[j]?=K f->Fj p f)/\Ae (Mc w wr (Z C p.bO.length y) (Z D p.ej.length A) (Z r3 m c3) (Z E p.eD.length B))) (λi _=>m-(intOf i).toNat)
 case atStart=>exact⟨0,oM,rfl, λj T=>oM,n⟩
 clear n;obtain⟨k,hk,rfl,HT,n⟩:=hrel;by_cases ah:k<m
 . obtain⟨⟨f,v⟩,d⟩:∃x,ys[k]?=K x:=⟨_,an (by rw[u.fl,N];exact ah)⟩;have l:=Bo u.fm d;have s:=Av (d5 (u.fe _ (i7 d)) (d5 (u.small.func _ (i7 l)) (d5 l (d5 (u.wf.bW _ (i7 l)) (HH.2.1.2.2.1 k (by rw[N];exact ah) _ l)))));clear l;rcases u.fr.2 with⟨e0,_⟩|⟨b,o,c,l,R⟩
   . rw[N]at e0;omega
   rw[N]at l;simp only[i8,lB]at l;obtain⟨rfl,rfl⟩:=l;have L:=Rd.elem Ay R k _ d 0 _ rfl;have U:=Rd.elem Ay R k _ d 1 _ rfl;have V:=Rd.elem Ay R k _ d 2 _ rfl;have W:=Rd.elem Ay R k _ d 3 _ rfl;rw[<-n.e8.cell (hC L),kJ]at L;rw[<-n.e8.cell (hC U)]at U;rw[<-n.e8.cell (hC V)]at V;rw[<-n.e8.cell (hC W)]at W;clear R d;simp only[]at L U V W;obtain⟨F,G,ep⟩:=s.1.1.dk;obtain⟨al,cl,el⟩:=s.1.2.1.dk;obtain⟨H,cc,ec⟩:=s.1.2.2.dk;obtain⟨vp,vl,vc⟩:=v;simp only[]at ep el ec L U V W;subst ep el ec;obtain⟨p0,p1,p2,p3⟩:=n.prog;have nb:¬b=wr.heap.size:=mA (hC L);have mb:b<wr.heap.size:=hC L;have np:¬(w:Nat)=wr.heap.size:=mA n.prog.lt;have mp:(w:Nat)<wr.heap.size:=n.prog.lt;have hz:=s.2.1.2.2;have g:Ae (Mc w (Ac (Ac wr (Ak #[Z F f.gw G,f.gy,Z al f.gG cl,Z H f.eC cc] 70)) (Ak #[(Z C p.bO y),(Z D p.ej A),sO b o m c3,(Z E p.eD B),Z F f.gw G,f.gy,Z al f.gG cl,Z H f.eC cc] 158)) (Z C p.bO y) (Z D p.ej A) (sO b o m c3) (Z E p.eD B)/\OK (Ac (Ac wr (Ak #[Z F f.gw G,f.gy,Z al f.gG cl,Z H f.eC cc] 70)) (Ak #[(Z C p.bO y),(Z D p.ej A),sO b o m c3,(Z E p.eD B),Z F f.gw G,f.gy,Z al f.gG cl,Z H f.eC cc] 158)) ((wr:Nat)+1) (Z C p.bO y) (Z D p.ej A) (sO b o m c3) (Z E p.eD B) (Z F f.gw G) f.gy (Z al f.gG cl) (Z H f.eC cc)):=by refine⟨n.a7 (Ar (Aq _ _) lR (Aq _ _)),?_⟩;have:=OK.new (Ac wr (Ak #[Z F f.gw G,f.gy,Z al f.gG cl,Z H f.eC cc] 70)) (Z C p.bO y) (Z D p.ej A) (sO b o m c3) (Z E p.eD B) (Z F f.gw G) f.gy (Z al f.gG cl) (Z H f.eC cc) 158;simpa using this
   go_wp2;clear p0 p1 p2 p3 L U V W nb mb np mp;generalize hZ:f.eC.length=z at*;have Q:=Av hZ;clear hZ;generalize wr.heap.size+1=SB at g⊢;go_loopw [21] (λi aE=>∃q:Nat,q<=z/\i=iZ q/\Ae (∀j,j<q->∀x,f.eC[j]?=K x->AS p f x)/\Ae (Mc w aE (Z C p.bO y) (Z D p.ej A) (sO b o m c3) (Z E p.eD B)/\OK aE SB (Z C p.bO y) (Z D p.ej A) (sO b o m c3) (Z E p.eD B) (Z F f.gw G) f.gy (Z al f.gG cl) (Z H z cc))) (λi _=>z-(intOf i).toNat)
   (case atStart=>exact⟨0,oM,rfl, λj T=>oM,g⟩);clear g;obtain⟨q,hq,rfl,am,g⟩:=hrel;by_cases aw:q<z
   . obtain⟨x,d⟩:∃x,f.eC[q]?=K x:=⟨_,an (by rw[Q];exact aw)⟩;have aA:=s.2.2.2.1.eC x (i7 d);rcases s.1.2.2.2 with⟨e0,_⟩|⟨b',o',c',l,S⟩
     . rw[Q]at e0;omega
     rw[Q]at l;simp only[i8,lB]at l;obtain⟨rfl,rfl⟩:=l;have O:=Rd.elem MI.dr S q x d 0 _ rfl;have j1:=Rd.elem MI.dr S q x d 1 _ rfl;have j2:=Rd.elem MI.dr S q x d 2 _ rfl;have j3:=Rd.elem MI.dr S q x d 3 _ rfl;rw[<-g.1.e8.cell (hC O),kJ]at O;rw[<-g.1.e8.cell (hC j1)]at j1;rw[<-g.1.e8.cell (hC j2)]at j2;rw[<-g.1.e8.cell (hC j3)]at j3;have P:=Av (d5 d aA);clear S d aA;obtain⟨xo,xa,xb,xc⟩:=x;simp only[]at O j1 j2 j3;obtain⟨s0,s1,s2,s3,s4,s5,s6,s7⟩:=g.2;have nb:¬b'=wr.heap.size:=mA (hC O);have mb:b'<wr.heap.size:=hC O;have np:¬SB=wr.heap.size:=mA g.2.lt;have mp:SB<wr.heap.size:=g.2.lt;go_wp2_with fail;have bA:=Aq wr (Ak #[xo,xa,xb,xc] 72);have X:=Ar g.1.e8 lR bA;refine(Tf ⟨(Z C p.bO y),(Z D p.ej A),sO b o m c3,(Z E p.eD B)⟩ p ⟨Z F f.gw G,Z al f.gG cl,sO b' o' z cc⟩ f xo xa xb xc _ u.small HH.1 s.2.2.2.2 s.2.1 P.2.2.1 P.2.2.2.1 P.2.2.2.2 (u.rd.a7 X lR) (HH.2.2.a7 X lR) (s.1.a7 X lR)).mono ?_;rintro e u4 ⟨⟨b4,rfl,ae⟩,ao⟩;have bU:=Ar bA lR ao;have aj:=Av (d5 (g.1.a7 bU) (g.2.a7 bU));clear bA X ao bU g O j1 j2 j3 s0 s1 s2 s3 s4 s5 s6 s7 nb mb np mp;cases b4
     . (have HN:Ae (¬CD p):= λe=>by have:=e k (by rw[N];exact ah) f s.2.2.1 q (by rw[Q];exact aw) _ P.1;simp[this]at ae);clear ae;go_wp2;go_ret;exact⟨.no HN,aj.1.e8⟩
     . have aH:Ae (AS p f ⟨xo,xa,xb,xc⟩):=ae.1 rfl;clear ae;go_wp2;go_roundw;(case rel=>exact⟨q+1,oM,by go_num,CO P.1 aH am,aj⟩);exact oI
   have aQ:z=q:=oM;subst aQ;(have aG:Ae (Fj p f):= λj T x d=>am.o j (by rw[<-Q];exact T) x d);go_wp2;go_roundw;(case rel=>exact⟨k+1,oM,by go_num,CO s.2.2.1 aG HT,g.1⟩);exact oI
 have aP:m=k:=oM;subst aP;have aF:Ae (CD p):= λj T f hf=>HT.o j (by rw[<-N];exact T) f hf
 go_wp2;go_ret;exact⟨.gY aF,n.e8⟩
def GW(v:J):Prop:=v=sN\/∃a n c,v=Z (K a) n c
theorem Ns(x y:MT)(w:Y):
 Ai Ap 100 #[Am #[x.func,x.head,x.gI,Ag .u32 x.init],Am #[y.func,y.head,y.gI,Ag .u32 y.init]] w λe b=>AJ e (Ej x y)/\Ah w w b:=by
 have a:Ae (Ah w w (Ac (Ac w (Ak #[x.func,x.head,x.gI,Ag .u32 x.init] 88)) (Ak #[y.func,y.head,y.gI,Ag .u32 y.init] 88))):=Ar (Aq _ _) lR (Aq _ _);go_enter func100,ntmps100;go_wp2;all_goals(go_ret;refine⟨AJ.of ?_,by first|exact a.o|(rw[‹x.func=y.func›]at a;exact a)⟩;go_light;unfold Ej;simp_all<;>omega)
theorem Tw(w:Y)(a:Array J)(e:Aj)(G:Nat)(h:a.size=G)(b:G<=maxLen):(Ac w (Ak a e)).drew.ownsRow w e 1 (Z w 0 G) 0 []:=⟨rfl,.inr ⟨w,G,a,rfl,Nat.le_refl _,oD,mz _,b,oM,sP⟩⟩
theorem Ub(n:Nat)(w:Y)(p:n<=4194304):
 Ai Ap 255 #[Z M 0 0,n] w λe f=>∃v,e=Al v/\Ab f w 2 1 v 0 []/\Ah w w f:=by
 obtain⟨b,i,k,l,d⟩:=lS Bp;by_cases m:n=0
 . subst m;go_enter func255,ntmps255;go_wp2;go_ret;exact⟨_,rfl,lQ _ _ _ _,kS _ _⟩
 have q:(0:Int)<(n:Int):=oM;have j:(Builtin.firstCells b.size 0 (Z M 0 0)).run Ap w.drew=.ok (([]:List J).toArray) w.drew:=run_firstCells_none w.drew b.size 0 0 0;have c:∀ty,(Builtin.append_ #[46,3] ty #[Z M 0 0,n]).run Ap w=.ok (Z w (0+n) (grownCap w (0+n) 0 2)) (Ac w.drew (Ak (([]:List J).toArray++Builtin.zeroCells (Ag Af 0).cells n++Builtin.zeroCells (Ag Af 0).cells (grownCap w (0+n) 0 2-(0+n))) 2)):= λty=>
  Lib.run_append_grow_zeros w 46 3 ty 2 b (Ag Af 0) Af Af underlying46 underlying3 i k M 0 0 [] j n oM (by rw[l];omega) oM oM (by rw[d];omega) (growslice_fits oM (by rw[d];omega))
 have h:=grownCap_ge w (0+n) 0 2;have a:=grownCap_le_maxLen w (0+n) 0 2 oX;generalize grownCap w (0+n) 0 2=G at c h a;have g:Ae (G<=maxLen):=a;unfold maxLen at a;go_enter func255,ntmps255;go_wp2_with (at_builtin;refine Lib.wpList_append_run _ rfl _ _ _ _ rfl _ _ rfl rfl _ _ (c _) ?_);all_goals
  go_ret;exact⟨_,rfl,Tw w _ _ G (by simp[Builtin.zeroCells];omega) g,Ar (Aq _ _) lR (At _)⟩
def Mh(w:Y)(s:J)(fs:List MF):Prop:=∃a:List (MF×VF),a.map Prod.fst=fs/\Rd w 4 s fs (Ad Ch a)/\∀x∈a,DE w x.2 x.1/\GW x.2.p/\GW x.2.l
theorem Mh.a7{e:Y}{s:J}(h:Mh w s fs)(c:Ah B w e)(b: ↑w<=B):Mh e s fs:=by obtain⟨i,f,g,a⟩:=h;exact⟨i,f,g.a7 c b, λx d=>⟨(a x d).1.a7 c b,(a x d).2⟩⟩
theorem Q1{p:MP}{fn:Nat}{f:MF}(h:p.bW[fn]?=K f)(e co j:Int):Fi p ⟨fn,e,co,j⟩↔(0<=e/\e<(f.eC:Int))/\(0<=co/\co<((f.gw.length+ ↑f.gG:Nat):Int))/\(f.gw++f.gG)[co.toNat]?=K 3:=by
 constructor
 . rintro⟨g,d,k,b,c,a⟩;simp only[kA]at d b c a;rw[h]at d;obtain rfl:=kH d;unfold AN at a;split at a
   . simp at a
   rename_i m;rw[kL]at a;by_cases q:co.toNat<(f.gw++f.gG).length
   . rw[an q]at a⊢;refine⟨⟨b,c⟩,⟨oM,by rw[kE]at q;omega⟩,?_⟩;simpa using a
   rw[kW oM]at a;simp at a
 rintro⟨⟨b,c⟩,⟨a,l⟩,i⟩;refine⟨f,by simp only[kA];exact h,oS,b,c,?_⟩;unfold AN;rw[kP oS,kL,i];rfl
theorem Eb(v:VP)(p:MP)(D b co g:Int)(w:Y)(hs:p.small)(h:Da w v p)(aH:Mh w v.f p.bW):
 Ai Ap 99 #[Am #[v.r,v.k,v.f,v.t],Am #[D,b,co,Ag .u32 g]] w λe w'=>AJ e (Fi p ⟨D,b,co,g⟩)/\Ah w w w':=by
 obtain⟨vr,vk,vf,vt⟩:=v;obtain⟨ys,aq,am,au⟩:=aH;simp only[]at am;obtain⟨z,i,aA⟩:∃a c,vr=Z a p.bO c:=by obtain⟨_,_,hq,_⟩:=h.bO;exact hq.dk
 obtain⟨A,j,aE⟩:∃a c,vk=Z a p.ej c:=h.ej.dk;obtain⟨B,l,aF⟩:∃a c,vt=Z a p.eD c:=h.eD.dk;subst aA aE aF;have aw:ys.length=p.bW.length:=by rw[<-aq];simp
 obtain⟨a2,c2,e2⟩:=am.dk;subst e2;have N:=Av (d5 am (d5 aq (d5 au (d5 hs.func aw))));have hm:=hs.bW;clear am aq au aw hs h;generalize p.bO.length=n at*;generalize p.ej.length=q at*;generalize p.eD.length=s at*;generalize hM:p.bW.length=m at*;have HL:=Av hM;have G:Ae (Ah w w (Ac (Ac w (Ak #[Z z n i,Z A q j,Z a2 m c2,Z B s l] 36)) (Ak #[D,b,co,Ag .u32 g] 88))/\CX (Ac (Ac w (Ak #[Z z n i,Z A q j,Z a2 m c2,Z B s l] 36)) (Ak #[D,b,co,Ag .u32 g] 88)) ((w:Nat)+1) D b co (Ag .u32 g)):=by refine⟨Ar (Aq _ _) lR (Aq _ _),?_⟩;have:=CX.new (Ac w (Ak #[Z z n i,Z A q j,Z a2 m c2,Z B s l] 36)) D b co (Ag .u32 g) 88;simpa using this
 by_cases q0:0<=D/\D<(m:Int)
 . have aj:decide (0<=D/\D<(m:Int))=true:=decide_eq_true q0
   obtain⟨fn,rfl⟩:=kX q0.1;have aP:fn<m:=oM;clear q0;obtain⟨⟨f,v⟩,P⟩:∃y,ys[fn]?=K y:=⟨_,an (by rw[N.2.2.2.2];omega)⟩;have e1:=Bo N.2.1 P;have ao:=N.2.2.1 _ (i7 P);have F:=Av (d5 ao.1 (d5 ao.2.1 (d5 ao.2.2 (d5 (N.2.2.2.1 _ (i7 e1)) e1))));rcases N.1.2 with⟨e0,_⟩|⟨d,C,c',e1,ae⟩
   . omega
   simp only[i8,lB]at e1;obtain⟨rfl,rfl⟩:=e1;have E:=Rd.elem Ay ae fn _ P 0 _ rfl;have Q:=Rd.elem Ay ae fn _ P 1 _ rfl;have R:=Rd.elem Ay ae fn _ P 2 _ rfl;have S:=Rd.elem Ay ae fn _ P 3 _ rfl;rw[kJ]at E;clear ae P;simp only[]at E Q R S;obtain⟨I,L,ep⟩:=F.1.1.dk;obtain⟨al,cl,el⟩:=F.1.2.1.dk;obtain⟨H,cc,ec⟩:=F.1.2.2.dk;obtain⟨vp,vl,vc⟩:=v;simp only[]at ep el ec E Q R S;subst ep el ec;have k0:=(G.1.cell (hC E)).trans E;have k1:=(G.1.cell (hC Q)).trans Q;have k2:=(G.1.cell (hC R)).trans R;have k3:=(G.1.cell (hC S)).trans S;have nb:¬d=w.heap.size:=mA (hC E);have aJ:¬d= ↑w+1:=by have:=hC E;simp only[]at this;omega
   have aM:¬d= ↑w+1+1:=by have:=hC E;simp only[]at this;omega
   have mb:d<w.heap.size:=hC E;go_enter func99,ntmps99;go_wp2_with fail;refine(Bc (fn:Int) (m:Int) _).mono ?_;rintro e u ⟨rfl,rfl⟩;rw[aj];go_wp2_with fail;have aG:(fn:Int)<(m:Int):=oM;have BX:Ah w w (Ac (Ac (Ac w (Ak #[Z z n i,Z A q j,sO d C m c2,Z B s l] 36)) (Ak #[fn,b,co,Ag .u32 g] 88)) (Ak #[sN,sN,sN,sN,sN,iZ 0,sN,sN] 158)).drew:=Ar (Ar G.1 lR (Aq _ _)) lR (At _);have x0:=(BX.cell (hC E)).trans E;have x1:=(BX.cell (hC Q)).trans Q;have x2:=(BX.cell (hC R)).trans R;have x3:=(BX.cell (hC S)).trans S;go_region;have B1:Ae (Ah w w ((Ac (Ac (Ac w (Ak #[Z z n i,Z A q j,sO d C m c2,Z B s l] 36)) (Ak #[fn,b,co,Ag .u32 g] 88)) (Ak #[Z z n i,Z A q j,sO d C m c2,Z B s l,Z I f.gw L,f.gy,Z al f.gG cl,Z H f.eC cc] 158)).drew)):=Ar (Ar G.1 lR (Aq _ _)) lR (At _);have A1:Ae (CX ((Ac (Ac (Ac w (Ak #[Z z n i,Z A q j,sO d C m c2,Z B s l] 36)) (Ak #[fn,b,co,Ag .u32 g] 88)) (Ak #[Z z n i,Z A q j,sO d C m c2,Z B s l,Z I f.gw L,f.gy,Z al f.gG cl,Z H f.eC cc] 158)).drew) ((w:Nat)+1) fn b co (Ag .u32 g)):=(G.2.alloc _).a7 (At _);have A2:Ae (OK ((Ac (Ac (Ac w (Ak #[Z z n i,Z A q j,sO d C m c2,Z B s l] 36)) (Ak #[fn,b,co,Ag .u32 g] 88)) (Ak #[Z z n i,Z A q j,sO d C m c2,Z B s l,Z I f.gw L,f.gy,Z al f.gG cl,Z H f.eC cc] 158)).drew) ((w:Nat)+1+1) (Z z n i) (Z A q j) (sO d C m c2) (Z B s l) (Z I f.gw L) f.gy (Z al f.gG cl) (Z H f.eC cc)):=by
    have:=(OK.new (Ac (Ac w (Ak #[Z z n i,Z A q j,sO d C m c2,Z B s l] 36)) (Ak #[fn,b,co,Ag .u32 g] 88)) (Z z n i) (Z A q j) (sO d C m c2) (Z B s l) (Z I f.gw L) f.gy (Z al f.gG cl) (Z H f.eC cc) 158).a7 (At _);have aI:(Ac (Ac w (Ak #[Z z n i,Z A q j,sO d C m c2,Z B s l] 36)) (Ak #[fn,b,co,Ag .u32 g] 88)).heap.size= ↑w+1+1:=sP
    rw[aI]at this;exact this
   generalize (Ac (Ac (Ac w (Ak #[Z z n i,Z A q j,sO d C m c2,Z B s l] 36)) (Ak #[fn,b,co,Ag .u32 g] 88)) (Ak #[Z z n i,Z A q j,sO d C m c2,Z B s l,Z I f.gw L,f.gy,Z al f.gG cl,Z H f.eC cc] 158)).drew=W1 at B1 A1 A2⊢;have O:=Av (d5 B1.o (d5 A1.o A2.o));clear B1 A1 A2 G N E Q R S k0 k1 k2 k3 nb aJ aM mb aj x0 x1 x2 x3 aG;have V:=Av (Q1 F.2.2.2.2 b co g);obtain⟨i0,i1,i2,i3⟩:=O.2.1;obtain⟨g0,g1,g2,g3,g4,g5,g6,g7⟩:=O.2.2;have aQ:=F.2.2.2.1.2.2;go_wp2_with fail;refine(Bc b (f.eC:Int) _).mono ?_;rintro e u ⟨rfl,rfl⟩;by_cases U:0<=b/\b<(f.eC:Int)
   . have hA:decide (0<=b/\b<(f.eC:Int))=true:=decide_eq_true U
     rw[hA];go_wp2_with fail;refine(Gy (Z z n i) (Z A q j) (sO d C m c2) (Z B s l) ⟨Z I f.gw L,Z al f.gG cl,Z H f.eC cc⟩ f co _ F.2.2.2.1 (F.1.a7 O.1 lR)).mono ?_;rintro e u ⟨⟨bh,rfl,ah⟩,T⟩;have X:=Av (d5 (Ar O.1 lR T) (d5 (O.2.1.a7 T) (O.2.2.a7 T)));cases bh
     . (have W:Ae (¬Fi p ⟨fn,b,co,g⟩):= λe=>absurd (ah.2 ⟨(V.1 e).2.1.1,by have:=(V.1 e).2.1.2;omega⟩) mY);clear ah U hA;go_wp2;go_ret;exact⟨.no W,X.1⟩
     have hl:I4 f co:=ah.1 rfl;obtain⟨k,rfl⟩:=kX hl.1;(have hk:k<(f.gw++f.gG).length:=by have:=hl.2;rw[kE];omega);obtain⟨x,hx⟩:∃x,(f.gw++f.gG)[k]?=K x:=⟨_,an hk⟩;(have HY:Ae ((x==3)=true↔Fi p ⟨fn,b,k,g⟩):=by show _↔_;have h2:=hl.2;rw[V.o,kA,hx];simp[U];intro _;omega);have HX:=Av hx;clear ah U hA hl hk hx V;obtain⟨i0,i1,i2,i3⟩:=X.2.1;obtain⟨g0,g1,g2,g3,g4,g5,g6,g7⟩:=X.2.2;go_wp2_with fail;refine(Ir (Z z n i) (Z A q j) (sO d C m c2) (Z B s l) ⟨Z I f.gw L,Z al f.gG cl,Z H f.eC cc⟩ f k x _ F.2.2.2.1 (F.1.a7 X.1 lR) HX).mono ?_;rintro e u' ⟨rfl,T⟩;have HE:=Av (Ar X.1 lR T);clear T i0 i1 i2 i3 g0 g1 g2 g3 g4 g5 g6 g7;go_wp2;go_ret;exact⟨.of HY,HE⟩
   have hA:decide (0<=b/\b<(f.eC:Int))=false:=lZ U
   (have W:Ae (¬Fi p ⟨fn,b,co,g⟩):= λe=>U (V.1 e).1);rw[hA];go_wp2;go_ret;exact⟨.no W,O.1⟩
 have W:Ae (¬Fi p ⟨D,b,co,g⟩):= λ⟨f,h1,h2,_⟩=>q0 ⟨h2,by have:=(i6.1 h1).1;simp only[]at this h2;rw[HL]at this;omega⟩
 have aj:decide (0<=D/\D<(m:Int))=false:=lZ q0
 clear N;go_enter func99,ntmps99;go_wp2_with fail;refine(Bc D (m:Int) _).mono ?_;rintro e u ⟨rfl,rfl⟩;rw[aj];go_wp2;go_ret;exact⟨.no W,G.1⟩
theorem Rd.jm{a:Addr}{n c:Nat}(h:Rd w 1 (Z (K a) n c) n (Ad As xs)):∀j u,(Ad As xs)[j]?=K u->w (a.add j)=K u:=by
 intro j u b;rcases h.2 with⟨rfl,_⟩|⟨g,o,c',e,d⟩
 . have:=(i6.1 b).1;rw[h.1]at this;omega
 simp only[i8,kI,lB]at e;obtain⟨rfl,rfl⟩:=e;rw[Addr.add_lit];exact d j u b
theorem EX(xs:List Int):∀u∈Ad As xs,u.oneCell'=true:=by intro u b;obtain⟨x,_,a⟩:=my.1 b;simp[As]at a;subst a;rfl
theorem PP{n:Nat}(h:Ab w base e 1 v n (Ad As xs))(a:List Int)(b:a.length=0):Ab w base e 1 v (n+ ↑a) (Ad As (xs++a)):=by obtain rfl:=lJ b;simpa using h
theorem MV{w u b:Y}{n:Nat}{xs:List J}(h:Ah B w u)(f:Ab u w e 1 v n xs)(a:B<= ↑w)(c:u.grownBy b v.ownBlock):Ah B w b:=h.grown c (kV a h.size) (λk d=>kV a (f.lt k d).1)
theorem Pe(g:Nat)(n p:J)(xs a:List Int)(w:Y)(U:xs.length<=1048576)(V:a.length<=1048576)(y:Rd w 1 n xs (Ad As xs))(z:Rd w 1 p a (Ad As a))(L:GW n)(N:GW p)
 (i:w g=K n) (j:w ⟨g,1,M⟩=K p):
 Ai Ap 247 #[Z g 2 2] w λe h=>∃v,e=Al v/\Ab h w 2 1 v (xs.length+ ↑a) (Ad As (xs++a))/\Ah w w h:=by
 have H:Ae (xs.length<=1048576/\a.length<=1048576/\Rd w 1 n xs (Ad As xs)/\Rd w 1 p a (Ad As a)/\GW n/\GW p):=⟨U,V,y,z,L,N⟩
 obtain⟨R,c1,rfl⟩:=y.dk;obtain⟨S,c2,rfl⟩:=z.dk;clear y z L N;obtain⟨r,q,F,G,I⟩:=lS Bp;have D:Ae (w g=K (Z R xs c1)/\w ⟨g,1,M⟩=K (Z S a c2)):=⟨i,j⟩
 go_enter func247,ntmps247;go_wp2;go_loopw [3,11] (λs c wr=>((c=Ag Af 0/\s=Ag Af 0)\/(c=Ag Af 1/\s=Ag Af (xs:Int))\/(c=Ag Af 2/\s=Ag Af ((xs.length+ ↑a:Nat):Int)))/\wr=w) (λ_ c _=>2-(intOf c).toNat)
 case atStart=>exact⟨.inl ⟨rfl,rfl⟩,rfl⟩
 obtain⟨A,rfl⟩:=hrel;rcases A with⟨rfl,rfl⟩|⟨rfl,rfl⟩|⟨rfl,rfl⟩
 . go_wp2;go_roundw;(case rel=>exact⟨.inr (.inl ⟨rfl,sP⟩),by trivial⟩);simp[intOf]
 . go_wp2;go_roundw;(case rel=>exact⟨.inr (.inr ⟨rfl,sP⟩),by trivial⟩);simp[intOf]
 go_wp2_with fail;refine(Ub (xs.length+a.length) _ oM).mono ?_;rintro e Q ⟨v0,rfl,O,E⟩;have b:Ae (Ab Q wr 2 1 v0 0 []/\Ah wr wr Q):=⟨O,E⟩
 clear O E i j;obtain⟨W,T⟩:∃W,W=wr:=⟨_,rfl⟩;subst T;go_wp2;go_loopw [6,27] (λv c wr=>((c=Ag Af 0/\Ae (Ab wr W 2 1 v 0 ([]:List J)))\/(c=Ag Af 1/\Ae (Ab wr W 2 1 v (0+xs.length) (Ad As ([]++xs))))\/(c=Ag Af 2/\Ae (Ab wr W 2 1 v (xs.length+ ↑a) (Ad As (xs++a)))))/\Ae (Ah W W wr)) (λ_ c _=>2-(intOf c).toNat)
 case atStart=>exact⟨.inl ⟨rfl,b.1⟩,b.2⟩
 clear b;obtain⟨A,d⟩:=hrel;have i:=D.1;have j:=D.2;rw[<-d.cell (hC i)]at i;rw[<-d.cell (hC j)]at j;rcases A with⟨rfl,b⟩|⟨rfl,b⟩|⟨rfl,b⟩
 . rcases H.2.2.2.2.1 with e|⟨k,X,c',e⟩
   . simp only[i8]at e;obtain⟨rfl,f,rfl⟩:=e;have hN:Ae (xs.length=0):=f;rw[f]at i;(have C:∀ty,(Builtin.append_ #[46,46] ty #[u6,Z M 0 0]).run Ap wr=.ok u6 wr:= λty=>run_append_owned_none (P:=Ap) wr W 46 ty 2 r 1 underlying46 q u6 _ _ b);clear f;go_wp2_with (at_builtin;refine Lib.wpList_append_run _ rfl _ _ _ _ rfl _ _ rfl rfl _ _ (C _) ?_);go_roundw;(case rel=>exact⟨.inr (.inl ⟨rfl,PP (xs:=[]) b xs hN⟩),d⟩);simp[intOf]
   simp only[i8]at e;obtain⟨rfl,f,rfl⟩:=e;have x:Ae (Rd wr 1 (Z (K k) xs c1) xs (Ad As xs)):=H.2.2.1.a7 d lR;clear f;go_wp2_with (at_builtin;refine wpList_append_own _ rfl _ _ 46 rfl W 2 r (Ag Af 0) 1 8 underlying46 q F G I rfl dC _ _ _ rfl b k xs c1 (Ad As xs) rfl ?c1 ?c2 ?c3 ?c4 ?c5 ?c6 ?_);(case c1=>rw[AE As 1 AA]);(case c2=>exact x.jm);(case c3=>exact EX _);(case c4=>unfold maxLen;omega);(case c5=>omega);(case c6=>exact d.size);intro v' h m l B;(have u:Ae (Ab h W 2 1 v' (0+xs.length) (Ad As ([]++xs))):=by show World.ownsRow _ _ _ _ _ _ _;simpa using m);have t:Ae (Ah W W h):=MV d b lR l;clear m l B;go_wp2;go_roundw;(case rel=>exact⟨.inr (.inl ⟨rfl,u⟩),t⟩);simp[intOf]
 . rcases H.2.2.2.2.2 with e|⟨k,X,c',e⟩
   . simp only[i8]at e;obtain⟨rfl,f,rfl⟩:=e;have hN:Ae (a.length=0):=f;rw[f]at j;(have C:∀ty,(Builtin.append_ #[46,46] ty #[u6,Z M 0 0]).run Ap wr=.ok u6 wr:= λty=>run_append_owned_none (P:=Ap) wr W 46 ty 2 r 1 underlying46 q u6 _ _ b);clear f;go_wp2_with (at_builtin;refine Lib.wpList_append_run _ rfl _ _ _ _ rfl _ _ rfl rfl _ _ (C _) ?_);go_roundw;(case rel=>exact⟨.inr (.inr ⟨rfl,by have:=PP (xs:=[]++xs) b a hN;simpa[Ae]using this⟩),d⟩);simp[intOf]
   simp only[i8]at e;obtain⟨rfl,f,rfl⟩:=e;have x:Ae (Rd wr 1 (Z (K k) a c2) a (Ad As a)):=H.2.2.2.1.a7 d lR;clear f;go_wp2_with (at_builtin;refine wpList_append_own _ rfl _ _ 46 rfl W 2 r (Ag Af 0) 1 8 underlying46 q F G I rfl dC _ _ _ rfl b k a c2 (Ad As a) rfl ?c1 ?c2 ?c3 ?c4 ?c5 ?c6 ?_);(case c1=>rw[AE As 1 AA]);(case c2=>exact x.jm);(case c3=>exact EX _);(case c4=>unfold maxLen;omega);(case c5=>omega);(case c6=>exact d.size);intro v' h m l B;have u:Ae (Ab h W 2 1 v' (xs.length+ ↑a) (Ad As (xs++a))):=by show World.ownsRow _ _ _ _ _ _ _;simpa using m
   have t:Ae (Ah W W h):=MV d b lR l;clear m l B;go_wp2;go_roundw;(case rel=>exact⟨.inr (.inr ⟨rfl,u⟩),t⟩);simp[intOf]
 go_wp2;go_ret;exact⟨_,rfl,b,d⟩
structure Gq(w:Y)(S:Nat)(V:J)(xs:List Int):Prop where
 gK:AC w S #[V] 303
 own:Ab w (S+1) 2 1 V xs (Ad As xs)
theorem Gq.a7{w b:Y}(h:Gq w S V xs)(a:Ah w w b):Gq b S V xs:=⟨h.gK.a7 a,Aw h.own a lR⟩
theorem Gz(S:Nat)(V:J)(xs:List Int)(w:Y)(h:Gq w S V xs):Ai Ap 248 #[.pointer S] w λe a=>e=Al xs/\a=w:=by obtain⟨b,c1,rfl⟩:=AO h.own;have c0:=h.gK.cell 0;simp only[kB,i9]at c0;clear h;go_enter func248,ntmps248;go_wp2;go_ret;exact⟨rfl,rfl⟩
theorem Lr(S:Nat)(V i:J)(xs a:List Int)(w:Y)(h:Gq w S V xs)(c:Rd w 1 i a (Ad As a))(f:xs.length<=1048576)(g:a.length<=1048576):Ai Ap 241 #[.pointer S,i] w λe k=>AJ e (xs=a)/\Ah w w k:=by have c0:=h.gK.cell 0;simp only[kB,i9]at c0;have H:=Av (d5 h (d5 c (d5 f g)));obtain⟨l,c1,rfl⟩:=AO h.own;obtain⟨n,c2,rfl⟩:=c.dk;clear h c f g;go_enter func241,ntmps241;go_wp2_with fail;refine(LO _ _ xs a w H.2.2.1 H.2.2.2 (Rd.gM H.1.own) H.2.1).mono ?_;rintro e u ⟨⟨b,rfl,d⟩,m,rfl⟩;have j:=Av d;clear d;go_wp2;go_ret;exact⟨⟨b,rfl,j⟩,Az _ _ _⟩
def KQ(w:Y)(S:Nat)(V:J)(zs:List Int)(a:Y):Prop:=∃V',Gq a S V' zs/\EI (λj=>j=S\/V.ownBlock=K j) w a/\(V'.ownBlock=V.ownBlock\/∀g,V'.ownBlock=K g-> ↑w<=g)
theorem Gq.lt(h:Gq w S V xs):∀g,V.ownBlock=K g->S<g/\g<w.heap.size:= λg a=>by have:=h.own.lt g a;omega
theorem GZ{P:Program}(base:Nat)(t ty e:Aj)(i:TypeInfo)(size:Nat)(b:P.underlying t=K (.slice e))(a:P.info? e=K i)(v:J)(n:Nat)(xs:List J)(f:Ab w base e size v n xs)(c:Nat):(Builtin.append_ #[t,t] ty #[v,Z M 0 c]).run P w=.ok v w:=by
 rcases f.2 with⟨rfl,rfl⟩|⟨g,cap,h,rfl,_,_,d,_⟩
 . simp[Builtin.append_,run_underlying b,sizeOf,typeInfo,a,Builtin.lenOf,Builtin.firstCells]
 simp[Builtin.append_,run_underlying b,sizeOf,typeInfo,a,Builtin.lenOf,Builtin.firstCells,d,storeCells]
theorem KQ.of{w b:Y}{V':J}{a:List Int}(h:Gq w S V xs)(m:Ab b (S+1) 2 1 V' (xs.length+ ↑a) (Ad As xs++Ad As a))(d:w.grownBy b V.ownBlock)(f:V'.ownBlock=V.ownBlock\/V'.ownBlock=K w):KQ w S V (xs++a) (b.setCell S V'):=by
 have i:=h.gK.grown d h.own dC;have l:(xs++a).length= ↑xs+a.length:=kE
 refine⟨V',⟨by have:=i.set 0 V';simpa using this,?_⟩,?_,?_⟩
 . rw[l,lL];exact lP m oS _
 . exact(EI.grown (R:= λj=>j=S\/V.ownBlock=K j) (EI.refl _ _) d (λk n e=>.inr e.symm)).setCell (.inl (.inl rfl)) _
 exact f.imp_right λe g c=>by rw[e]at c;cases c;exact Nat.le_refl _
theorem Nr(S:Nat)(V D:J)(xs a:List Int)(w:Y)(h:Gq w S V xs)(d:Rd w 1 D a (Ad As a))(hx:xs.length<=1048576)(z:a.length<=1048576):Ai Ap 242 #[.pointer S,D] w λe X=>e=Al (.tuple #[])/\KQ w S V (xs++a) X:=by
 obtain⟨C,x,Q,R,T⟩:=lS Bp;obtain⟨b,c1,rfl⟩:=AO h.own;have f:=Av h;have c0:=h.gK.cell 0;have f0:=h.gK.frozen 0;have H:S+1<=w.heap.size:=h.gK.lt;simp only[kB,i9]at c0;obtain⟨F,c2,rfl⟩:=d.dk;cases F with
 | none=>
   have B:a.length=0:=by
    rcases d.2 with⟨l,_⟩|⟨g,o,c,i,_⟩
    . exact l
    cases i
   have O:a=[]:=lJ B;subst O;(have N:∀ty,(Builtin.append_ #[46,46] ty #[Z b xs c1,Z M 0 c2]).run Ap w=.ok (Z b xs c1) w:= λty=>GZ (P:=Ap) (S+1) 46 ty 2 C 1 underlying46 x _ _ _ h.own c2);have k:Ae (KQ w S (Z b xs c1) (xs++[]) (w.setCell S (Z b xs c1))):=KQ.of h (by simpa using h.own) ⟨rfl,rfl,rfl,Nat.le_refl _, λ_ _ _=>rfl⟩ (.inl rfl);clear h d z B;rw[lw];go_enter func242,ntmps242;go_wp2_with (at_builtin;refine Lib.wpList_append_run _ rfl _ _ _ _ rfl _ _ rfl rfl _ _ (N _) ?_);refine oR (v:=.tuple #[]) kR rfl ?_;exact⟨rfl,k⟩
 | some s=>
   have E:Ae (∀j u,(Ad As a)[j]?=K u->w (s.add j)=K u):= λj u y=>by
    rcases d.2 with⟨l,_⟩|⟨g,o,c,i,I⟩
    . have:a=[]:=lJ l;subst this;simp at y
    simp only[i8,kI]at i;obtain⟨rfl,_⟩:=i;rw[Dk];exact I j u y
   clear h d;generalize A:a.length=m at z⊢;have r:=Av A;clear A;go_enter func242,ntmps242;go_wp2_with (at_builtin;refine wpList_append_own_at _ rfl _ _ 46 rfl (S+1) 2 C (iZ 0) 1 8 underlying46 x Q R T rfl dC _ xs (Ad As xs) rfl f.own s m c2 (Ad As a) rfl (by rw[AE As 1 AA,r]) E (EX _) (by simp[maxLen];omega) oM H ?_;intro W w5 q p L t;have k:Ae (KQ w S (Z b xs c1) (xs++a) (w5.setCell S W)):=KQ.of f (by rw[r];exact q) p t;have n:=f.gK.grown p f.own dC;have U:=n.cell 0;have k1:=n.frozen 0;simp only[kB,i9]at U;obtain⟨a5,c5,G⟩:=AO q;subst G;clear q p L t n);refine oR (v:=.tuple #[]) kR rfl ?_;exact⟨rfl,k⟩
theorem Qd(c:J)(a:List Int)(w:Y)(h:Rd w 1 c a (Ad As a))(i:a.length<=1048576):Ai Ap 239 #[c] w λe j=>e=Al (.pointer w)/\(∃V,Gq j w V a)/\Ah w w j:=by
 have b:Ae (Gq (Ac w (Ak #[sN] 303)) w sN []/\Ah w w (Ac w (Ak #[sN] 303))):=⟨⟨AC.new _ _ _,lQ _ _ _ _⟩,Aq _ _⟩
 have H:=Av (d5 h i);clear h i;go_enter func239,ntmps239;go_wp2_with fail;refine(Nr w sN c [] a _ b.1 (H.1.a7 b.2 lR) sP H.2).mono ?_;rintro e u ⟨rfl,V',g,f,_⟩;have d:Ae (Gq u w V' a/\Ah w w u):=⟨g,b.2.trans (f.below b.2.size (λk l e=>by
  rcases e with e|e
  . omega
  cases e))⟩
 clear g f b;go_wp2_with fail;go_ret;exact⟨rfl,⟨V',d.1⟩,d.2⟩
def QQ(y:ML×J×J):Prop:=(∃a c,y.2.1=Z a y.1.back c)/\∃a c,y.2.2=Z a y.1.a8 c
theorem PA{d:List (ML×J×J)}(h:∀y∈d,QQ y):∀u∈Ad BD d,u.oneCell'=true:=by
 intro u b;obtain⟨y,g,b⟩:=my.1 b;obtain⟨⟨a,c,e⟩,a',c',f⟩:=h y g;simp only[BD,kY,lG,mS]at b;rcases b with rfl|rfl|rfl
 . rfl
 . rw[e];rfl
 rw[f];rfl
theorem S5(ty:Aj)(u:Y)(l:Nat)(V:J)(b:List (ML×J×J))(h:Rd u 3 V b (Ad BD b))(x:∀y∈b,QQ y)(n:l<= ↑u)(G:b.length<=1048576):∃v' d,(Builtin.append_ #[78,78] ty #[Z u 0 0,V]).run Ap (Ac u (Ak #[] 85))=.ok v' d/\d.ownsRow l 85 3 v' b (Ad BD b)/\Ah u u d:=by
 obtain⟨q,p,C,D,E⟩:=lS Oc;have i:Ab (Ac u (Ak #[] 85)) u 85 3 (Z u 0 0) 0 []:=⟨rfl,.inr ⟨u,0,#[],rfl,Nat.le_refl _,nj _ _,Nat.le_refl _,mz _,rfl,sP⟩⟩;obtain⟨a,c,rfl⟩:=Rd.dk h;cases a with
 | none=>
   have B:b.length=0:=by
    rcases h.2 with⟨k,_⟩|⟨g,o,c,e,_⟩
    . exact k
    cases e
   have r:b=[]:=lJ B;subst r;exact⟨_,_,GZ (P:=Ap) u 78 ty 85 q 3 underlying78 p _ _ _ i c,Ba i n,Aq _ _⟩
 | some m=>
   have hN:∀j v,(Ad BD b)[j]?=K v->(Ac u (Ak #[] 85)) (m.add j)=K v:= λj v f=>by
    rcases h.2 with⟨k,_⟩|⟨g,o,c,e,z⟩
    . have:b=[]:=lJ k;subst this;simp at f
    simp only[i8,kI]at e;obtain⟨rfl,_⟩:=e;have:=z j v f;rw[Dk,(Aq u (Ak #[] 85)).cell (hC this)];exact this
   obtain⟨v',d,A,s,t,F⟩:=run_append_own (P:=Ap) (Ac u (Ak #[] 85)) u 78 ty 85 q (Am #[Ag Af 0,Z M 0 0,Z M 0 0]) 3 56 underlying78 p C D E rfl dC _ 0 [] i m b c (Ad BD b) (by rw[AE BD 3 Co]) hN (PA x) oX oM (Aq _ _).size;(have w:d.ownsRow u 85 3 v' b (Ad BD b):=by simpa using s);exact⟨_,d,A,Ba w n,(Aq u (Ak #[] 85)).grown t (Aq _ _).size (λj f=>(i.lt j f).1)⟩
theorem OD{e:Array Oper}{rest:List Oper}{o:Oper}{a:Act}{Q:Exit->Act->Y->Prop}(m:o.guard=M)(s x:Operand)(p:o.op=.call {callee:=.builtin .append,args:=#[s,x],argTypes:=#[78,78]})(u:Y)(d:Nat)(V:J)(b:List (ML×J×J))(r:a.eval s=Z u 0 0)(t:a.eval x=V)(h:Rd u 3 V b (Ad BD b))(l:∀y∈b,QQ y)(i:d<= ↑u)(n:b.length<=1048576)(j:∀v' c,c.ownsRow d 85 3 v' b (Ad BD b)->Ah u u c->wpList Ap e Q rest (a.put o.dst v') c):wpList Ap e Q (o::rest) a (Ac u (Ak #[] 85)):=wpList_plain m λ_ k=>by obtain⟨v',c,q,f,g⟩:=S5 o.type u d V b h l i n;exact Lib.wp_append_run _ s x 78 78 p _ _ r t v' c q (k _ _ (j v' c f g))
structure Ix(w u:Y)(V:J)(n:Nat)(ys zs:List (ML×J×J)):Prop where
 own:Ab u w 85 3 V n (Ad BD zs)
 len: ↑zs=n
 sub:∀z∈zs,z∈ys
 e8:Ah w w u
theorem Ix.at_{g n c:Nat}{p zs:List (ML×J×J)}(h:Ix w u (Z (K ⟨g,0,M⟩) n c) n p zs)(x:∀y∈p,QQ y){k:Nat}(A:k<n):∃z a b d e,zs[k]?=K z/\z∈p/\z.2.1=Z a z.1.back.length b/\z.2.2=Z d z.1.a8.length e/\u ⟨g,k*3,M⟩=K (Ag Af z.1.head)/\u ⟨g,k*3+1,M⟩=K (Z a z.1.back.length b)/\u ⟨g,k*3+2,M⟩=K (Z d z.1.a8.length e):=by
 have s:k<zs.length:=by rw[h.len];exact A
 have f:zs[k]?=K zs[k]:=an s;have t:=h.sub _ (mN s);obtain⟨⟨a,b,q⟩,d,e,r⟩:=x _ t;rcases(Rd.gM h.own).2 with⟨i,_⟩|⟨B,C,c',i,j⟩
 . omega
 simp only[i8,kI,mE,lB,mV]at i;obtain⟨⟨rfl,rfl⟩,rfl⟩:=i;have v:=Rd.elem Co j k _ f 0 _ rfl;have l:=Rd.elem Co j k _ f 1 _ rfl;have m:=Rd.elem Co j k _ f 2 _ rfl;rw[q]at l;rw[r]at m;simp only[lM,kJ]at v l m;exact⟨_,a,b,d,e,f,t,q,r,v,l,m⟩
theorem Ix.a7{w u b:Y}{n:Nat}{c zs:List (ML×J×J)}(h:Ix w u V n c zs)(a:Ah u u b):Ix w b V n c zs:=⟨Aw h.own a lR,h.len,h.sub,Ar h.e8 lR a⟩
theorem VR{zs:List (ML×J×J)}{k:Nat}{z:ML×J×J}:(((Ad BD zs).set (k*3) z.1.head).set (k*3+1) z.2.1).set (k*3+2) z.2.2=Ad BD (zs.set k z):=by
 induction zs generalizing k with
 |nil=>rfl
 | cons y r a=>
   cases k with
   |zero=>rfl
   | succ k=>rw[lT,lD,lD,<-a,show(k+1)*3=k*3+1+1+1 from oM];rfl
theorem Ix.jX{g n c k:Nat}{b zs:List (ML×J×J)}(h:Ix w U (Z g n c) n b zs){z:ML×J×J}(p:z∈b){f i:J}(j:z.2.1=f)(l:z.2.2=i):Ix w (Aa (Aa (Aa U ⟨g,k*3,M⟩ z.1.head) ⟨g,k*3+1,M⟩ f) ⟨g,k*3+2,M⟩ i) (Z g n c) n b (zs.set k z):=by
 subst j l;have a:=(AD h.own).1;have q:=(mI h.own (k*3) z.1.head).1;have r:=(mI q (k*3+1) z.2.1).1;have d:=(mI r (k*3+2) z.2.2).1;rw[VR]at d;refine⟨d,by rw[mG];exact h.len, λy m=> ?_,((h.e8.setCell a _).setCell a _).setCell a _⟩;rcases nP m with e|e
 . exact h.sub y e
 subst e;exact p
theorem Ix.js{g n c q r:Nat}{A zs:List (ML×J×J)}(h:Ix w U (Z g n c) n A zs)(p:∀y∈A,QQ y)(B:q<n)(C:r<n){a b:ML×J×J}{d e j k:Option Addr}{f i l m:Nat}(D:zs[q]?=K a)(E:zs[r]?=K b)(f1:a.2.1=Z d a.1.back f)(f2:a.2.2=Z j a.1.a8 l)(f3:b.2.1=Z e b.1.back i)(f4:b.2.2=Z k b.1.a8 m):U ⟨g,q*3,M⟩=K ↑a.1.head/\U ⟨g,q*3+1,M⟩=K (Z d a.1.back f)/\U ⟨g,q*3+2,M⟩=K (Z j a.1.a8 l)/\U ⟨g,r*3,M⟩=K ↑b.1.head/\U ⟨g,r*3+1,M⟩=K (Z e b.1.back i)/\U ⟨g,r*3+2,M⟩=K (Z k b.1.a8 m):=by
 obtain⟨O,_,_,_,_,s,_,t,u,F,G,H⟩:=h.at_ p B;obtain⟨P,_,_,_,_,v,_,x,z,I,L,N⟩:=h.at_ p C;rw[D]at s;rw[E]at v;cases s
 cases v
 rw[f1]at t;rw[f2]at u;rw[f3]at x;rw[f4]at z;cases t
 cases u
 cases x
 cases z
 exact⟨F,G,H,I,L,N⟩
def Ym(w:Y)(S:Nat)(V:J)(a ts:List Int)(d:J)(c:Int)(b:Y):Prop:=
 (a.length< ↑ts/\c=1/\Ah w w b)\/(ts.length<= ↑a/\CR (a.drop (a.length-↑ts)) ts=false/\c=2/\Ah w w b)\/
 (ts.length<= ↑a/\CR (a.drop (a.length-↑ts)) ts=true/\c=0/\(∃V',Gq b S V' (a.take (a.length-↑ts))/\V'.ownBlock=V.ownBlock)/\Ab b w 2 1 d ts (Ad As (a.drop (a.length-↑ts)))/\EI (λj=>j=S) w b)
theorem Gq.short{n c m:Nat}(h:Gq w S (Z a n c) xs)(j:m<= ↑xs)(u:n= ↑xs):Ab w (S+1) 2 1 (Z a m c) m (Ad As (xs.take m)):=by
 subst u;have k:=h.own;have d:m*1<= ↑xs*1:=oM
 refine⟨by rw[AE As 1 AA,lh,Nat.min_eq_left j],?_⟩;rcases k.2 with⟨b,x⟩|⟨g,cap,i,b,q,t,y,r,s,f⟩
 . have v:m=0:=oM;subst v;simp only[i8]at b;obtain⟨rfl,_,rfl⟩:=b;exact .inl ⟨rfl,rfl⟩
 simp only[i8,lB]at b;obtain⟨rfl,rfl⟩:=b;refine .inr ⟨g,c,i,rfl,q,t,oM,r,s,?_⟩;have e:Ad As (xs.take m)=(Ad As xs).take (m*1):=by
  rw[<-f,List.take_take,Nat.min_eq_left d];have l:Ad As xs=Ad As (xs.take m)++Ad As (xs.drop m):=by rw[<-lL,m9]
  have p:i.toList.take (m*1)=(Ad As xs).take (m*1):=by rw[<-f,List.take_take,Nat.min_eq_left d]
  rw[p,l];exact(List.take_left' (by rw[AE As 1 AA,lh,Nat.min_eq_left j])).symm
 rw[e,<-f,List.take_take,Nat.min_eq_left d]
theorem Gq.tail{S g n c:Nat}(h:Gq w S (sG g n c) xs)(lo:Nat)(c':Nat)(b:lo<= ↑xs):Rd w 1 (sO g lo (↑xs-lo) c') (↑xs-lo) (Ad As (xs.drop lo)):=by
 refine⟨by rw[AE As 1 AA,mQ],.inr ⟨g,lo,c',rfl, λj u a=> ?_⟩⟩;rcases(Rd.gM h.own).2 with⟨e,_,_,k⟩|⟨l,o,c2,e,i⟩
 . have:xs=[]:=lJ e;subst this;simp at a
 simp only[i8,kI,mE]at e;obtain⟨⟨rfl,rfl,_⟩,_⟩:=e;have d:Ad As xs=Ad As (xs.take lo)++Ad As (xs.drop lo):=by rw[<-lL,m9]
 have f:(Ad As xs)[lo+j]?=K u:=by rw[d,kT (by rw[AE As 1 AA,lh,Nat.min_eq_left b];omega),AE As 1 AA,lh,Nat.min_eq_left b];rw[show lo+j-lo*1=j from oM];exact a
 have:=i (lo+j) u f;rw[lM]at this;exact this
theorem Gq.shrink{n c m:Nat}(h:Gq w S (Z a n c) xs)(b:m<= ↑xs)(d:n= ↑xs):Gq (w.setCell S (Z a m c)) S (Z a m c) (xs.take m):=by refine⟨by have:=h.gK.set 0 (Z a m c);simpa using this,?_⟩;rw[lh,Nat.min_eq_left b];exact lP (h.short b d) oS _
theorem UG(S:Nat)(V P:J)(b ts:List Int)(w:Y)(h:Gq w S V b)(hw:Rd w 1 P ts (Ad As ts))(B:b.length<=1048576)(E:ts.length<=1048576):Ai Ap 244 #[.pointer S,P] w λe w'=>∃G c,e=Al (Ao #[G,iZ c])/\Ym w S V b ts G c w':=by
 obtain⟨a2,c2,rfl⟩:=hw.dk;have H:=Av (d5 h (d5 hw (d5 B E)));clear h hw;by_cases x:b.length< ↑ts
 . have T:Ae (b.length< ↑ts):=x
   have aE:(b:Int)-(ts:Int)<0:=oM;clear x;go_enter func244,ntmps244;go_wp2_with fail;refine(Gz S V b w H.1).mono ?_;rintro e u ⟨rfl,rfl⟩;go_wp2_with fail;go_ret2;exact⟨_,1,rfl,.inl ⟨T,rfl,kS _ _⟩⟩
 obtain⟨lo,A⟩:∃lo, ↑b=lo+ts.length:=⟨b.length-↑ts,oM⟩
 have k:=Av A;have am:¬(lo:Int)<0:=oM;have q:Ae (↑b-↑ts=lo):=by show ↑b-↑ts=lo;omega
 rcases BU H.1.own with⟨e,I⟩|⟨g,c,e⟩
 . subst e;have ao:b=[]:=lJ I;subst ao;have aq:ts=[]:=lJ (by simp at x;omega);subst aq;clear A x am I k q B E;rw[lw];have c0:=H.1.gK.cell 0;have f0:=H.1.gK.frozen 0;simp only[kB,i9]at c0;go_enter func244,ntmps244;go_wp2_with fail;refine(Gz S _ [] w H.1).mono ?_;rintro e u ⟨rfl,rfl⟩;rw[lw];go_wp2_with fail;refine(J8 _ 0 [] u oM (λu hu=>by cases hu) ⟨rfl,.inl ⟨rfl,_,_,rfl⟩⟩).mono ?_;rintro e O ⟨z,c3,rfl,y,t⟩;have f:=Av (d5 y t);clear y t c0 f0;go_wp2_with fail;refine(K6 _ _ [] [] O sP sP ⟨rfl,.inl ⟨rfl,_,_,rfl⟩⟩ ⟨rfl,.inl ⟨rfl,_,_,rfl⟩⟩).mono ?_;rintro e p ⟨⟨D,rfl,v⟩,n⟩;have ah:D=true:=v.2 rfl;subst ah;have d:=Av (d5 (Aw f.1 n lR) (Ar f.2 lR n));clear v n f;have i:=(H.1.a7 d.2).gK;have c0:=i.cell 0;have f0:=i.frozen 0;simp only[kB,i9]at c0;have l:Ae (Gq (p.setCell S (Z M 0 0)) S (Z M 0 0) []/\Ab (p.setCell S (Z M 0 0)) u 2 1 (Z z 0 c3) 0 []/\EI (λj=>j=S) u (p.setCell S (Z M 0 0))):=⟨(H.1.a7 d.2).shrink (m:=0) sP rfl,lP d.1 H.1.gK.lt _,(EI.of (R:= λj=>j=S) d.2).setCell (.inl rfl) _⟩
   clear i;go_wp2_with fail;go_ret2;exact⟨_,0,rfl,.inr (.inr ⟨Nat.le_refl _,rfl,rfl,⟨sN,l.1,rfl⟩,l.2.1,l.2.2⟩)⟩
 subst e;have L: ↑b<=c:=by
  rcases H.1.own.2 with⟨e,_⟩|⟨g',cap,au,e,_,_,aj,_⟩
  . cases e
  simp only[i8,kI,mE]at e;obtain⟨_,_,rfl⟩:=e;exact aj
 have c0:=H.1.gK.cell 0;have f0:=H.1.gK.frozen 0;simp only[kB,i9]at c0;rw[A]at c0 L B;have F:Ae (∀c',Rd w 1 (sO g lo ts c') ts (Ad As (b.drop lo))):= λc'=>by
  have:=H.1.tail lo c' oM;rw[show ↑b-lo= ↑ts from oM]at this
  exact this
 clear A x;generalize N:ts.length=m at c0 L B E F⊢;have r:=Av N;clear N;have aw:(lo:Int)<=(c:Int):=oM;have aA:(lo:Int)+(m:Int)<=(c:Int):=oM;go_enter func244,ntmps244;go_wp2_with fail;refine(Gz S _ b w H.1).mono ?_;rintro e u ⟨rfl,rfl⟩;rw[k,r];have C:Ae ((b.drop lo).length=m):=by show(b.drop lo).length=m;rw[mQ,k.o,r];omega
 go_upto_region 4 with fail
 go_cut [7] (λs Q=>∃a c',s=Z a m c'/\Ae (Ab Q u 2 1 (Z a m c') m (Ad As (b.drop lo))/\Ah u u Q))
 case first=>
  go_wp2_with fail;all_goals
   refine(J8 _ m (Ad As (b.drop lo)) u oM (EX _) (by
    first
     |exact F.o _
     |exact⟨by rw[AE As 1 AA,C],.inl ⟨oM,_,_,by rw[show m=0 from oM]⟩⟩)).mono ?_
   rintro e O ⟨z,c3,rfl,y,t⟩;have f:=Av (d5 y t);clear y t;go_wp2_with fail;go_meet;exact⟨_,_,rfl,f⟩
 case rest=>
  obtain⟨z,c3,rfl,f⟩:=hcut;clear c0 f0;obtain⟨W1,ae⟩:∃W,W=wc:=⟨_,rfl⟩;subst ae;go_wp2_with fail;refine(K6 _ _ (b.drop lo) ts W1 (by rw[C];omega) H.2.2.2 (by rw[C];exact Rd.gM f.1) (by have:=H.2.1.a7 f.2 lR;rw[r]at this⊢;exact this)).mono ?_;rintro e p ⟨⟨D,rfl,v⟩,n⟩;have d:=Av (d5 v (d5 (Aw f.1 n lR) (Ar f.2 lR n)));clear v n f;cases D
  . have U:Ae (CR (b.drop lo) ts=false):=by
     cases hf:CR (b.drop lo) ts with
     |false=>rfl
     |true=>have:=d.1.2 hf;cases this
    go_wp2_with fail;go_ret2;exact⟨_,2,rfl,.inr (.inl ⟨by have:=k.o;omega,by rw[q];exact U,rfl,d.2.2⟩)⟩
  . have X:Ae (CR (b.drop lo) ts=true):=d.1.1 rfl;have i:=(H.1.a7 d.2.2).gK;have c0:=i.cell 0;have f0:=i.frozen 0;simp only[kB,i9]at c0;rw[k,r]at c0;have l:Ae (Gq (p.setCell S (Z g lo c)) S (Z g lo c) (b.take lo)/\Ab (p.setCell S (Z g lo c)) u 2 1 (Z z m c3) m (Ad As (b.drop lo))/\EI (λj=>j=S) u (p.setCell S (Z g lo c))):=⟨(H.1.a7 d.2.2).shrink (by have:=k.o;omega) rfl,lP d.2.1 H.1.gK.lt _,(EI.of (R:= λj=>j=S) d.2.2).setCell (.inl rfl) _⟩
    clear i;go_wp2_with fail;go_ret2;refine⟨_,0,rfl,.inr (.inr ⟨by have:=k.o;omega,by rw[q];exact X,rfl,⟨sG g lo c,?_,rfl⟩,?_,l.2.2⟩)⟩
    . rw[q];exact l.1
    rw[q,r];exact l.2.1
theorem Mp(v:VP)(p:MP)(w:Y)(hs:p.small)(h:Da w v p)(ao:Mh w v.f p.bW):
 Ai Ap 80 #[Am #[v.r,v.k,v.f,v.t]] w λe w'=>AJ e (Bi p)/\Ah w w w':=by
 obtain⟨E,D,C,vt⟩:=v;have z:=Av (d5 h.eD (d5 hs (d5 h ao)));have hn:=hs.eD;obtain⟨a1,c1,e1⟩:∃a c,vt=Z a p.eD c:=h.eD.dk;subst e1;clear h hs ao;have B:Ae _:=Mc.of w E D C (Z a1 p.eD c1) 36;generalize am:p.eD.length=n at*;have I:=Av am;clear am;by_cases q0:64<n
 . (have P:Ae (¬Bi p):= λe=>absurd e.1 (by rw[I];omega));have aq:(64:Int)<(n:Int):=oM;clear z;go_enter func80,ntmps80;go_wp2;go_ret;exact⟨.no P,B.e8⟩
 have aq:¬(64:Int)<(n:Int):=oM;go_enter func80,ntmps80;go_wp2;go_loopw [12] (λi wr=>∃k:Nat,k<=n/\i=iZ k/\Ae (∀j,j<k->Fh p p.eD j)/\Ae (Mc w wr E D C (Z a1 n c1))) (λi _=>n-(intOf i).toNat)
 case atStart=>exact⟨0,oM,rfl, λj hj=>oM,B⟩
 clear B;obtain⟨k,hk,rfl,HT,B⟩:=hrel;by_cases aj:k<n
 . obtain⟨x,N⟩:∃x,p.eD[k]?=K x:=⟨_,an (by rw[I];exact aj)⟩;rcases z.1.2 with⟨e0,_⟩|⟨b,o,c,e1,L⟩
   . omega
   simp only[i8,lB]at e1;obtain⟨rfl,rfl⟩:=e1;have O:=Rd.elem MT.dr L k x N 0 _ rfl;have i1:=Rd.elem MT.dr L k x N 1 _ rfl;have i2:=Rd.elem MT.dr L k x N 2 _ rfl;have i3:=Rd.elem MT.dr L k x N 3 _ rfl;rw[<-B.e8.cell (hC O),kJ]at O;rw[<-B.e8.cell (hC i1)]at i1;rw[<-B.e8.cell (hC i2)]at i2;rw[<-B.e8.cell (hC i3)]at i3;have HX:=Av N;have W:=Av L;clear L N;obtain⟨m,q,co,s⟩:=x;simp only[]at O i1 i2 i3;have nb:¬b=wr.heap.size:=mA (hC O);have mb:b<wr.heap.size:=hC O;have ah:Ae (Ah w w (Ac wr (Ak #[m,q,co,Ag .u32 s] 88))/\CX (Ac wr (Ak #[m,q,co,Ag .u32 s] 88)) w E D C (sO b o n c1)/\CX (Ac wr (Ak #[m,q,co,Ag .u32 s] 88)) wr m q co (Ag .u32 s)):=⟨Ar B.e8 lR (Aq _ _),B.prog.alloc _,CX.new _ _ _ _ _ _⟩
   go_wp2_with fail;generalize Ac wr (Ak #[m,q,co,Ag .u32 s] 88)=A at ah⊢;have l:=Av ah;clear ah O i1 i2 i3 nb mb B aq;obtain⟨p0,p1,p2,p3⟩:=l.2.1;obtain⟨r0,r1,r2,r3⟩:=l.2.2;have inst:=AB.some A;(have P0:= λn:AB A=>AB.cell p0 n);(have P1:= λn:AB A=>AB.cell p1 n);(have P2:= λn:AB A=>AB.cell p2 n);(have P3:= λn:AB A=>AB.cell p3 n);(have R0:= λn:AB A=>AB.cell r0 n);(have R1:= λn:AB A=>AB.cell r1 n);(have R2:= λn:AB A=>AB.cell r2 n);(have R3:= λn:AB A=>AB.cell r3 n);by_cases ae:Fi p ⟨m,q,co,s⟩
   . have G:Ae (Fi p ⟨m,q,co,s⟩):=ae;clear ae;by_cases q5:k=0
     . subst q5;(have HA:Ae (Fh p p.eD 0):= λc U=>by rw[HX]at U;obtain rfl:=kH U;exact⟨G, λi d hi=>oM⟩);refine AL kR kR ?_;(repeat(go_big_quiet_step ((first|(go_at_call 99;rename_i g;exact(Eb ⟨E,D,C,sO b o n c1⟩ p m q co s g.u z.2.1 (z.2.2.1.a7 (Ar l.1 lR g.h) lR) (z.2.2.2.a7 (Ar l.1 lR g.h) lR)).mono λe y h=>⟨h.1.true G,⟨⟨y,Ar g.h lR h.2⟩,rfl⟩⟩)))));refine wpQuiet_nil ?_;rintro y ⟨g,rfl⟩;have H:Ae (Mc w g.u E D C (sO b o n c1)):=⟨Ar l.1 lR g.h,l.2.1.a7 g.h⟩;go_wp2;go_roundw;(case rel=>exact⟨1,oM,by go_num,Gt HA HT,H⟩);exact oI
     obtain⟨i,rfl⟩:∃i,k=i+1:=⟨k-1,oM⟩;obtain⟨d,F⟩:∃d,p.eD[i]?=K d:=⟨_,an (by rw[I];omega)⟩;have y0:=Rd.elem MT.dr W i d F 0 _ rfl;have y1:=Rd.elem MT.dr W i d F 1 _ rfl;have y2:=Rd.elem MT.dr W i d F 2 _ rfl;have y3:=Rd.elem MT.dr W i d F 3 _ rfl;rw[<-l.1.cell (hC y0),kJ]at y0;rw[<-l.1.cell (hC y1)]at y1;rw[<-l.1.cell (hC y2)]at y2;rw[<-l.1.cell (hC y3)]at y3;obtain⟨R,S,Q,T⟩:=d;simp only[]at y0 y1 y2 y3;have HD:=Av F;clear F;(have Y0:= λn:AB A=>AB.cell y0 n);(have Y1:= λn:AB A=>AB.cell y1 n);(have Y2:= λn:AB A=>AB.cell y2 n);(have Y3:= λn:AB A=>AB.cell y3 n);have aw:((i+1:Nat):Int)-1=(i:Int):=oM;have aA:(0:Int)<((i+1:Nat):Int):=oM;by_cases V:Ej ⟨R,S,Q,T⟩ ⟨m,q,co,s⟩
     . have X:Ae (Ej ⟨R,S,Q,T⟩ ⟨m,q,co,s⟩):=V;(have HA:Ae (Fh p p.eD (i+1)):= λc U=>by rw[HX]at U;obtain rfl:=kH U;refine⟨G, λi' d' hi F=> ?_⟩;obtain rfl:i'=i:=oM;rw[HD]at F;obtain rfl:=kH F;exact V);clear V;refine AL kR kR ?_;(repeat(go_big_quiet_step ((first|(go_at_call 99;rename_i g;exact(Eb ⟨E,D,C,sO b o n c1⟩ p m q co s g.u z.2.1 (z.2.2.1.a7 (Ar l.1 lR g.h) lR) (z.2.2.2.a7 (Ar l.1 lR g.h) lR)).mono λe y h=>⟨h.1.true G,⟨⟨y,Ar g.h lR h.2⟩,rfl⟩⟩)|(go_at_call 100;rename_i g;exact(Ns ⟨R,S,Q,T⟩ ⟨m,q,co,s⟩ g.u).mono λe y h=>⟨h.1.true X,⟨⟨y,Ar g.h lR h.2⟩,rfl⟩⟩)))));refine wpQuiet_nil ?_;rintro y ⟨g,rfl⟩;have H:Ae (Mc w g.u E D C (sO b o n c1)):=⟨Ar l.1 lR g.h,l.2.1.a7 g.h⟩;go_wp2;go_roundw;(case rel=>exact⟨i+1+1,oM,by go_num,Gt HA HT,H⟩);exact oI
     have X:Ae (¬Ej ⟨R,S,Q,T⟩ ⟨m,q,co,s⟩):=V;clear V;(have P:Ae (¬Bi p):= λe=>by exact X.o ((e.2 (i+1) (by rw[I];exact aj) _ HX).2 i _ rfl HD));refine AL kR kR ?_;(repeat(go_big_quiet_step ((first|(go_at_call 99;rename_i g;exact(Eb ⟨E,D,C,sO b o n c1⟩ p m q co s g.u z.2.1 (z.2.2.1.a7 (Ar l.1 lR g.h) lR) (z.2.2.2.a7 (Ar l.1 lR g.h) lR)).mono λe y h=>⟨h.1.true G,⟨⟨y,Ar g.h lR h.2⟩,rfl⟩⟩)|(go_at_call 100;rename_i g;exact(Ns ⟨R,S,Q,T⟩ ⟨m,q,co,s⟩ g.u).mono λe y h=>⟨h.1.false X,⟨⟨y,Ar g.h lR h.2⟩,rfl⟩⟩)))));refine wpQuiet_nil ?_;rintro y ⟨g,rfl⟩;have H:Ae (Mc w g.u E D C (sO b o n c1)):=⟨Ar l.1 lR g.h,l.2.1.a7 g.h⟩;go_wp2;go_ret;exact⟨.no P,H.e8⟩
   have G:Ae (¬Fi p ⟨m,q,co,s⟩):=ae;clear ae;(have P:Ae (¬Bi p):= λe=>by exact G.o (e.2 k (by rw[I];exact aj) _ HX).1);refine AL kR kR ?_;(repeat(go_big_quiet_step ((first|(go_at_call 99;rename_i g;exact(Eb ⟨E,D,C,sO b o n c1⟩ p m q co s g.u z.2.1 (z.2.2.1.a7 (Ar l.1 lR g.h) lR) (z.2.2.2.a7 (Ar l.1 lR g.h) lR)).mono λe y h=>⟨h.1.false G,⟨⟨y,Ar g.h lR h.2⟩,rfl⟩⟩)))));refine wpQuiet_nil ?_;rintro y ⟨g,rfl⟩;have H:Ae (Mc w g.u E D C (sO b o n c1)):=⟨Ar l.1 lR g.h,l.2.1.a7 g.h⟩;go_wp2;go_ret;exact⟨.no P,H.e8⟩
 have au:n=k:=oM;subst au;have HY:Ae (Bi p):=⟨by rw[I];omega,by rw[I];exact HT⟩;go_wp2;go_ret;exact⟨.gY HY,B.e8⟩
end Go.Proofs.YtmalfecapdmdbaaGreat
