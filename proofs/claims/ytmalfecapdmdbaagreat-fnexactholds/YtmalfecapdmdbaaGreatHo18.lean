import Derived.Test.YtmalfecapdmdbaaGreatHo16
namespace Go.Proofs.YtmalfecapdmdbaaGreat
open Go.ChangeShapes Go.WideShapes Go.ChangeAt Go.RowKit Go.Proofs.Tryz
set_option linter.unusedVariables false
open Go.Value renaming slice → Z,int → Ag
open Option renaming some → K,none → M
open Go renaming Value → J,World → Y,Calls → Ai
open Go.RowKit renaming Hid → Ae,Below → Ah
open Go.IntKind renaming i64 → Af
open Go.Obj renaming cells → Ak
open Go.Ending renaming returned → Al
open Go.Proofs.Tryz renaming prog → Ap
open Go.World renaming ownsRow → Ab
open List renaming flatMap → Ad
set_option maxHeartbeats 2000000
set_option maxRecDepth 100000
variable {a b k:Nat}{t:Int}{x:MI}{f:MF}{p:MP}{l:List Int}
theorem Pd(c:Nat)(w:Y):(binOp .eql 46 (Z M 0 c) (Z M 0 0)).run Ap w=.ok true w:=kR
theorem NZ(a:Addr)(m c:Nat)(w:Y):(binOp .eql 46 (Z (K a) m c) (Z M 0 0)).run Ap w=.ok false w:=kR
theorem J8(s:J)(m:Nat)(xs:List J)(w:Y)(O:m<=1048576)(v:∀u∈xs,u.oneCell'=true)(h:Rd w 1 s m xs):
 Ai Ap 252 #[s] w λe d=>∃a c,e=Al (Z a m c)/\Ab d w 2 1 (Z a m c) m xs/\Ah w w d:=by
 obtain⟨N,E,H,I,L⟩:=lS Bp;have f:Ae (Ah w w (w.alloc (Ak #[] 2))):=Aq _ _;have t:Ae ((w.alloc (Ak #[] 2)).ownsRow w 2 1 (Z w 0 0) 0 []):=⟨rfl,.inr ⟨w,0,#[],rfl,Nat.le_refl _,nj _ _,Nat.le_refl _,mz _,rfl,sP⟩⟩;obtain⟨A,c1,rfl⟩:=h.dk;cases A with
 | none=>
   have G:m=0:=by
    rcases h.2 with⟨l,_⟩|⟨g,o,c,i,_⟩
    . exact l
    cases i
   subst G;have p:xs=[]:=lJ (by have:=h.1;simpa using this);subst p;have z:Ae (w.ownsRow w 2 1 (Z M 0 0) 0 []):=lQ _ _ _ _;(have C:∀w,_:= λw=>Pd c1 w);clear h;go_enter func252,ntmps252;go_wp2;go_ret;exact⟨_,_,rfl,z,kS _ _⟩
 | some k=>
   have y:Ae (∀j u,xs[j]?=K u->(w.alloc (Ak #[] 2)) (k.add j)=K u):= λj u b=>by
    rcases h.2 with⟨l,_⟩|⟨g,o,c,i,D⟩
    . have p:xs=[]:=lJ (by have:=h.1;rw[l]at this;simpa using this);rw[p]at b;simp at b
    simp only[i8,kI]at i;obtain⟨rfl,_,_⟩:=i;have:=D j u b;rw[Dk,f.cell (hC this)];exact this
   have r:Ae (↑xs=m*1/\∀u∈xs,u.oneCell'=true):=⟨h.1,v⟩
   (have C:∀w,_:= λw=>NZ k m c1 w);clear h v;go_enter func252,ntmps252;go_wp2_with (at_builtin;refine wpList_append_own _ rfl _ _ 46 rfl w 2 N (Ag Af 0) 1 8 underlying46 E H I L rfl dC _ 0 [] rfl t k m c1 xs rfl ?c1 ?c2 ?c3 ?c4 ?c5 ?c6 ?_);(case c1=>exact r.1);(case c2=>exact y);(case c3=>exact r.2);(case c4=>unfold maxLen;omega);(case c5=>omega);(case c6=>exact f.size);intro v' d n x F;(obtain⟨B,c2,rfl⟩:∃a c,v'=Z a m c:=by have:=(Rd.gM n).dk;simpa using this);have q:Ae (Ab d w 2 1 (Z B m c2) m xs/\Ah w w d):=⟨by simpa using n,f.grown x f.size (λj b=>(t.lt j b).1)⟩
   clear n x F;go_wp2;go_ret;exact⟨_,_,rfl,q.1,q.2⟩
theorem T8(s t:Int)(w:Y):Ai Ap 254 #[s,t] w λe h=>AJ e (t=0\/s=t)/\Ah w w h:=by
 by_cases b:t=0
 . (have g:(t==0)=true:=by simpa using b);have d:Ae (t=0):=b;clear b;go_enter func254,ntmps254;go_wp2;go_ret;exact⟨.gY (.inl d),kS _ _⟩
 have g:(t==0)=false:=by simpa using b
 have d:Ae (¬t=0):=b;clear b;by_cases a:s=t
 . (have f:(s==t)=true:=by simpa using a);have c:Ae (s=t):=a;clear a;go_enter func254,ntmps254;go_wp2;go_ret;exact⟨.gY (.inr c),kS _ _⟩
 have f:(s==t)=false:=by simpa using a
 have c:Ae (¬s=t):=a;clear a;go_enter func254,ntmps254;go_wp2;go_ret;exact⟨.no (λe=>e.elim d c),kS _ _⟩
theorem T7{a b:List Int}{s:Int}(c:a[k]?=K s)(d:b[k]?=K t)(h:¬(t=0\/s=t)):¬CR a b=true:= λe=>h ((Hw (M0 e)).1 e k s t c d)
theorem K6(s E:J)(a ts:List Int)(w:Y)(hL:a.length<=1048576)(ae:ts.length<=1048576)(h:Rd w 1 s a (Ad As a))(y:Rd w 1 E ts (Ad As ts)):
 Ai Ap 253 #[s,E,.func (.func 254) #[] #[]] w λe w'=>AJ e (CR a ts=true)/\Ah w w w':=by
 have F:Ae (Rd w 1 s a (Ad As a)):=h;have q:Ae (Rd w 1 E ts (Ad As ts)):=y;obtain⟨a1,c1,rfl⟩:=h.dk;obtain⟨a2,c2,rfl⟩:=y.dk;clear h y;by_cases g:a.length= ↑ts
 . rw [<-g]at q⊢;clear ae;generalize N:a.length=n at hL F q g;have f:Ae (↑a=n/\ ↑ts=n):=⟨N,g.symm⟩
   clear N g;go_enter func253,ntmps253;go_wp2;go_loopw [17] (λi wr=>∃k:Nat,k<=n/\i=Ag Af k/\Ae (∀(j:Nat),j<k->∀v,a[j]?=K v->∀t,ts[j]?=K t->t=0\/v=t)/\Ae (Ah w w wr)) (λi _=>n-(intOf i).toNat)
   (case atStart=>exact⟨0,oM,rfl, λj hj=>oM,kS _ _⟩);obtain⟨k,hk,rfl,H,d⟩:=hrel;by_cases R:k<n
   . obtain⟨x,B⟩:∃x,a[k]?=K x:=⟨_,an (by rw[f.1];exact R)⟩;obtain⟨t,l⟩:∃x,ts[k]?=K x:=⟨_,an (by rw[f.2];exact R)⟩;rcases F.2 with⟨X,_⟩|⟨b,o,c,I,P⟩
     . omega
     rcases q.2 with⟨X,_⟩|⟨b',o',c',L,Q⟩
     . omega
     simp only[i8,lB]at I L;obtain⟨rfl,rfl⟩:=I;obtain⟨rfl,rfl⟩:=L;have C:=Rd.elem AA P k _ B 0 _ rfl;have D:=Rd.elem AA Q k _ l 0 _ rfl;rw[<-d.cell (hC C),lN,kJ]at C;rw[<-d.cell (hC D),lN,kJ]at D;have m:Ae (a[k]?=K x/\ts[k]?=K t):=⟨B,l⟩
     clear P Q B l;go_wp2_with fail;refine(T8 x t _).mono ?_;rintro e u ⟨⟨W,rfl,p⟩,O⟩;have G:Ae (Ah w w u):=Ar d lR O;clear O d C D;cases W
     . have r:Ae (¬CR a ts=true):=T7 m.1 m.2 (λe=>absurd (p.2 e) mY);clear p;go_wp2;go_ret;exact⟨.no r,G⟩
     have T:Ae (t=0\/x=t):=p.1 rfl
     clear p;have U:Ae (∀(j:Nat),j<k+1->∀v,a[j]?=K v->∀t,ts[j]?=K t->t=0\/v=t):= λj hj v A t' z=>by
      by_cases e:j=k
      . subst e;rw[m.1]at A;rw[m.2]at z;obtain rfl:=kH A;obtain rfl:=kH z;exact T
      exact H.o j oM v A t' z
     go_wp2;go_roundw;(case rel=>exact⟨k+1,oM,by go_num,U,G⟩);exact oI
   have ah:n=k:=oM;subst ah;have V:Ae (CR a ts=true):=(Hw (by rw[f.1,f.2])).2 (λi s t S l=>H.o i (by have:=(i6.1 S).1;rw[f.1]at this;exact this) s S t l);go_wp2;go_ret;exact⟨.gY V,d⟩
 have r:Ae (¬CR a ts=true):= λe=>g (M0 e)
 have aj:¬(a:Int)=(ts:Int):=oM;go_enter func253,ntmps253;go_wp2;go_ret;exact⟨.no r,kS _ _⟩
structure Gl(xs:List Int)(c:Int):Prop where
 low:0<=c
 jn:c<(xs:Int)
 jl:bits .and Af c (c+1)=0
 one:∀j:Nat,(j:Int)<=c->xs[j]?=xs[0]?
theorem It(B:Option Addr)(c1:Nat)(xs:List Int)(c:Int)(w:Y)(O:xs.length<=1048576)(L: ↑xs<=c1)(h:Rd w 1 (Z B xs c1) xs (Ad As xs)):
 Ai Ap 124 #[Z B xs c1,c] w λe T=>AJ e (Gl xs c)/\Ah w w T:=by
 have f:=Av h;clear h;generalize D:xs.length=n at O L f;have l:=Av D;clear D;by_cases d:0<=c/\c<(n:Int)
 . have b :decide (0<=c/\c<(n:Int))=true:=decide_eq_true d
   obtain⟨c,rfl⟩:=kX d.1;have V:c<n:=oM;clear d;by_cases q:bits .and Af (c:Int) ((c:Int)+1)=0
   . have G:Ae (bits .and Af (c:Int) ((c:Int)+1)=0):=q;obtain⟨y,t⟩:∃y,xs[0]?=K y:=⟨_,an (by rw[l];omega)⟩;rcases f.2 with⟨U,_⟩|⟨g,o,cc,C,r⟩
     . omega
     simp only[i8,lB]at C;obtain⟨rfl,rfl⟩:=C;have Q:=Rd.elem AA r 0 y t 0 _ rfl;simp only[Nat.zero_mul,kJ]at Q;have F:=Av r;have A:=Av t;clear r t;go_enter func124,ntmps124;go_wp2_with fail;refine(Bc (c:Int) (n:Int) _).mono ?_;rintro e u ⟨rfl,rfl⟩;rw[b];have R:(c:Int)+1<=(c1:Int):=oM;have S:(0:Int)<=(c:Int)+1:=oM;have k3:(0:Int)<(n:Int):=oM;have k4:((c:Int)+1).toNat=c+1:=oM;go_wp2;clear R S b q;go_loopw [24] (λi wr=>∃k:Nat,k<=c+1/\i=iZ k/\Ae (∀j,j<k->xs[j]?=K y)/\∃m,wr=u.drewN m) (λi _=>c+1-(intOf i).toNat)
     (case atStart=>exact⟨0,oM,rfl, λj E=>oM,0,rfl⟩);obtain⟨k,W,rfl,v,m,rfl⟩:=hrel;by_cases X:k<c+1
     . obtain⟨x,s⟩:∃x,xs[k]?=K x:=⟨_,an (by rw[l];omega)⟩;have P:=Rd.elem AA F k x s 0 _ rfl;rw[lN,kJ]at P;have z:=Av s;clear s;have ae:(k:Int)<(c:Int)+1:=oM;by_cases p:x=y
       . subst p;have H:Ae (∀j,j<k+1->xs[j]?=K x):= λj E=>by
          by_cases e:j=k
          . rw[e];exact z
          exact v.o j oM
         go_wp2;go_roundw;(case rel=>exact⟨k+1,oM,by go_num,H,_,rfl⟩);exact oI
       (have a:Ae (¬Gl xs c):= λe=>by have:=e.one k oM;rw[z,A]at this;exact p (kH this));(have ah:(x==y)=false:=by simpa using p);(have aj:(x != y)=true:=by simpa using p);go_wp2;go_ret;exact⟨.no a,Az _ _ _⟩
     have N:k=c+1:=oM;subst N;have I:Ae (Gl xs c):=⟨oM,by rw[l];omega,G, λj E=>by rw[A];exact v.o j oM⟩;go_wp2;go_ret;exact⟨.gY I,Az _ _ _⟩
   (have a:Ae (¬Gl xs c):= λe=>q e.jl);(have am:(bits .and Af (c:Int) ((c:Int)+1)==0)=false:=by simpa using q);clear f;go_enter func124,ntmps124;go_wp2_with fail;refine(Bc (c:Int) (n:Int) _).mono ?_;rintro e u ⟨rfl,rfl⟩;rw[b];go_wp2;go_ret;exact⟨.no a,kS _ _⟩
 have a:Ae (¬Gl xs c):= λe=>d ⟨e.low,by have:=e.jn;rw[l]at this;exact this⟩
 have b:decide (0<=c/\c<(n:Int))=false:=lZ d
 clear f;go_enter func124,ntmps124;go_wp2_with fail;refine(Bc c (n:Int) _).mono ?_;rintro e u ⟨rfl,rfl⟩;rw[b];go_wp2;go_ret;exact⟨.no a,kS _ _⟩
theorem Ft(h:Ec t=true):¬t=0:=by unfold Ec at h;simp at h;omega
theorem QV{xs:List Int}(h:xs.all Ec=true){x:Int}(a:xs[k]?=K x):Ec x=true:=nV.1 h x (i7 a)
theorem Je(a:CE f)(n:Int):I4 f n↔¬AN f n=0:=by
 constructor
 . rintro⟨d,j⟩;obtain⟨k,rfl⟩:=kX d;by_cases q:k< ↑f.gw
   . rw[Kh (an q)];exact Ft (QV a.pt (an q))
   have b:k-↑f.gw<f.gG.length:=oM
   have e:=Kf (f:=f) (an b);have c:((f.gw:Int)+((k-↑f.gw:Nat):Int))=(k:Int):=oM
   rw[c]at e;rw[e];exact Ft (QV a.lt (an b))
 intro h;by_cases g:n<0
 . exact absurd (Hg g) h
 by_cases i:(f.gw:Int)+ ↑f.gG<=n
 . exact absurd (Kg i) h
 exact⟨oM,oM⟩
theorem FE(d:p.bO.length=3)(c:p.bO[a]?=K l):BC p a b=l.getD b 0:=JC (by have:=(i6.1 c).1;omega) c
theorem KY(d:AU p.bO)(a b:Int):¬BC p a b=0↔∃l,0<=a/\p.bO[a.toNat]?=K l/\0<=b/\b<(l.length:Int):=by
 constructor
 . intro h;have r:¬(a<0\/2<a\/b<0):= λe=>h (Fo e)
   obtain⟨i,rfl⟩:=kX (show 0<=a from oM);obtain⟨j,rfl⟩:=kX (show 0<=b from oM);(have g:i<p.bO.length:=by have:=d.1;omega);rw[FE d.1 (an g)]at h;refine⟨p.bO[i],oM,by rw[kA];exact an g,oM,?_⟩;by_cases f:j<p.bO[i].length
   . omega
   exact absurd (by rw[kL,kW oM];rfl) h
 rintro⟨l,k,c,m,q⟩;obtain⟨i,rfl⟩:=kX k;obtain⟨j,rfl⟩:=kX m;rw[kA]at c;rw[FE d.1 c];have f:j<l.length:=oM;have e:l.getD j 0=l[j]:=by rw[kL,an f];rfl
 rw[e];have n:=d.2 i (i6.1 c).1 l c;exact Ft (QV n.2 (an f))
theorem Im(h:AU p.bO)(op a b:Int)(m:op=4\/op=5\/op=6\/op=7):CY p op a b↔¬BC p a b=0/\((op=4\/op=6)\/¬a=0):=by
 rw[KY h];constructor
 . rintro⟨l,c,d,e,f,g⟩;refine⟨⟨l,c,d,e,f⟩,?_⟩;by_cases q:a=0
   . left;by_cases i:op=5\/op=7
     . exact absurd ⟨i,q⟩ g
     omega
   exact .inr q
 rintro⟨⟨l,c,d,e,f⟩,g⟩;exact⟨l,c,d,e,f, λ⟨j,k⟩=>oM⟩
theorem Rv(i:AU p.bO)(f:p.bO[a]?=K l)(n:b< ↑l)(c:Int):Gl (l.drop b) c↔Ex p a b c:=by
 have v:=i.2 a (i6.1 f).1 l f;have cell:∀j:Nat,BC p (a:Int) ((b:Int)+(j:Int))=l.getD (b+j) 0:= λj=>by have:=FE (b:=b+j) i.1 f;rw[Int.natCast_add]at this;exact this
 have m:BC p (a:Int) (b:Int)=l.getD b 0:=FE i.1 f;have g:∀j:Nat,(l.drop b)[j]?=l[b+j]?:= λj=>by rw[oG]
 constructor
 . intro h;have u:=h.jn;rw[mQ]at u;have w:=h.low;have y:=v.1;refine⟨h.low,oM,h.jl,?_, λj d=> ?_⟩
   . rw[KY i];exact⟨l,oM,by rw[kA];exact f,oM,oM⟩
   have:=h.one j d;rw[g,g]at this;rw[cell,m,kL,kL,this];rfl
 intro h;have t:∀j:Nat,(j:Int)<=c->b+j<l.length:= λj d=>by
  have e:=h.one j d;have s:=h.there;rw[<-e,cell]at s;by_cases q:b+j< ↑l
  . exact q
  exact absurd (by rw[kL,kW oM];rfl) s
 obtain⟨k,rfl⟩:=kX h.low;have x:=t k oM;refine⟨h.low,by rw[mQ];omega,h.jl, λj d=> ?_⟩;have r:=t j d;have e:=h.one j d;rw[cell,m,kL,kL,an r,an n]at e;rw[g,g,kJ,an r,an n];simpa using e
theorem A4.parts(h:A4 p 0):AU p.bO/\Be p.ej/\Bj p.bW/\CD p/\Bi p:=by
 unfold A4 at h;rcases h with h|h|h|h|h|h
 . exact absurd h.1 dC
 . exact absurd h.1 dC
 . exact absurd h.1 dC
 . exact absurd h.1 dC
 . exact absurd h.1 dC
 exact h.2
theorem A4.iB(h:A4 p 0){i j:Nat}(a:p.bW[i]?=K f)(b:f.eC[j]?=K x):AS p f x:=h.parts.2.2.2.1 i (i6.1 a).1 f a j (i6.1 b).1 x b
theorem GH:AV 1=1/\AV 2=2/\AV 3=2/\AV 4=3/\AV 5=3/\AV 6=4/\AV 7=4/\AV 27=10/\AV 28=11:=by decide+kernel
theorem AS.const(h:AS p f x)(e:x.op=1):∃(q:Nat) (z:MC),x.a=q/\p.ej[q]?=K z:=by
 obtain⟨_,_,h⟩:=h;rw[e,GH.1]at h;unfold BA Bz at h;have b:0<=x.a/\x.a<p.ej.length:=by rcases h with h|h|h|h|h|h|h|h|h|h<;>first|(exfalso;omega)|exact⟨h.2.1,h.2.2.1⟩
 obtain⟨q,c⟩:=kX b.1;rw[c]at b;exact⟨q,_,c,an oM⟩
theorem Rt{a:Int}(h:¬AN f a=0):∃q:Nat,a=q/\(f.gw++f.gG)[q]?=K (AN f a):=by
 by_cases b:a<0
 . exact absurd (Hg b) h
 obtain⟨q,c⟩:=kX (by omega:0<=a);refine⟨q,c,?_⟩;subst c;unfold AN at h⊢;rw[kP b]at h⊢;rw[kL]at h⊢;simp only[kA]at h⊢;cases e:(f.gw++f.gG)[q]? with
 |none=>rw[e]at h;exact absurd rfl h
 |some z=>rfl
theorem AS.local(h:AS p f x)(e:x.op=2\/x.op=3\/x.op=27):∃q:Nat,x.a=q/\(f.gw++f.gG)[q]?=K (AN f x.a):=by
 apply Rt;obtain⟨_,_,h⟩:=h;have b:AV x.op=2\/AV x.op=10:=by
  rcases e with e|e|e<;>rw[e]
  . exact .inl GH.2.1
  . exact .inl GH.2.2.1
  exact .inr GH.2.2.2.2.2.2.2.1
 unfold BA Bz at h;rcases h with h|h|h|h|h|h|h|h|h|h<;>first|(exfalso;omega)|exact h.2.1
theorem SU{a b:Int}(j:p.bO.length=3)(h:¬BC p a b=0):∃(q z:Nat) (r:List Int),a=q/\b=z/\p.bO[q]?=K r/\r[z]?=K (BC p a b):=by
 by_cases f:a<0\/2<a\/b<0
 . exact absurd (Fo f) h
 obtain⟨q,g⟩:=kX (by omega:0<=a);obtain⟨z,i⟩:=kX (by omega:0<=b);subst g i;have d:p.bO[q]?=K (p.bO[q]'oM):=an oM
 refine⟨q,z,_,rfl,rfl,d,?_⟩;have e:=JC (p:=p) (r:=q) (c:=z) oM d;rw[e]at h⊢;rw[kL]at h⊢;cases e2:(p.bO[q]'oM)[z]? with
 |none=>rw[e2]at h;exact absurd rfl h
 |some t=>rfl
theorem SY{q z:Nat}{r:List Int}(c:x.a=q)(d:x.b=z)(e:p.bO[q]?=K r)(f:r[z]?=K t):DK p x=t:=by unfold DK;rw[c,d];simp only[kA,e,f];rfl
theorem AS.cell(j:p.bO.length=3)(h:AS p f x)(e:x.op=4\/x.op=5\/x.op=6\/x.op=7):∃(q z:Nat) (r:List Int),x.a=q/\x.b=z/\p.bO[q]?=K r/\r[z]?=K (DK p x):=by
 obtain⟨_,_,h⟩:=h;have l:AV x.op=3\/AV x.op=4:=by
  rcases e with e|e|e|e<;>rw[e]
  . exact .inl GH.2.2.2.1
  . exact .inl GH.2.2.2.2.1
  . exact .inr GH.2.2.2.2.2.1
  exact .inr GH.2.2.2.2.2.2.1
 unfold BA Bz at h;have k:¬BC p x.a x.b=0:=by rcases h with h|h|h|h|h|h|h|h|h|h<;>first|(exfalso;omega)|exact h.2.1|exact h.2.1.there
 obtain⟨q,z,r,c,d,g,i⟩:=SU j k;refine⟨q,z,r,c,d,g,?_⟩;rw[SY c d g i];exact i
theorem AS.jl(h:AS p f x)(e:x.op=6\/x.op=7):Ex p x.a x.b x.c:=by
 obtain⟨_,_,h⟩:=h;have d:AV x.op=4:=by
  rcases e with e|e<;>rw[e]
  . exact GH.2.2.2.2.2.1
  exact GH.2.2.2.2.2.2.1
 unfold BA Bz at h;rcases h with h|h|h|h|h|h|h|h|h|h<;>first|(exfalso;omega)|exact h.2.1
theorem AS.callee(h:AS p f x)(e:x.op=28):∃(q:Nat) (d:MF),x.a=q/\p.bW[q]?=K d:=by
 obtain⟨_,_,h⟩:=h;rw[e,GH.2.2.2.2.2.2.2.2]at h;unfold BA Bz at h;have b:0<=x.a/\x.a<p.bW.length:=by rcases h with h|h|h|h|h|h|h|h|h|h<;>first|(exfalso;omega)|exact⟨h.2.1,h.2.2.1⟩
 obtain⟨q,c⟩:=kX b.1;rw[c]at b;exact⟨q,_,c,an oM⟩
theorem AS.target(h:AS p f x)(e:x.op=25\/x.op=26\/x.op=27):0<=x.c/\x.c<f.eC.length:=by
 obtain⟨_,_,h⟩:=h;have a:AV 25=9/\AV 26=9/\AV 27=10:=by decide+kernel
 have b:AV x.op=9\/AV x.op=10:=by
  rcases e with e|e|e<;>rw[e]
  . exact .inl a.1
  . exact .inl a.2.1
  exact .inr a.2.2
 unfold BA Bz at h;rcases h with h|h|h|h|h|h|h|h|h|h<;>first|(exfalso;omega)|exact h.2.2.2
end Go.Proofs.YtmalfecapdmdbaaGreat
