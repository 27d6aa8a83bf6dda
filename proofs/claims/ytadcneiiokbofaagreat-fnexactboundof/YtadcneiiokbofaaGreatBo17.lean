import Derived.Test.YtadcneiiokbofaaGreatBo15
import Derived.Test.YtadcneiiokbofaaGreatBo14
namespace Go.Proofs.YtadcneiiokbofaaGreat
open Go.ChangeShapes Go.WideShapes Go.ChangeAt Go.RowKit Go.Proofs.Tryz
set_option linter.unusedVariables false
open Go.Value renaming slice → Z,int → Ag,agg → Am,bool → An
open Option renaming some → K,none → M
open Go renaming World → Y,Calls → Ai,Value → J,TypeId → Aj
open Go.RowKit renaming Hid → Ae,Below → Ah
open Go.IntKind renaming i64 → Af
open Go.Proofs.Tryz renaming prog → Ap
open List renaming flatMap → Ad
open Go.Obj renaming cells → Ak
open Go.Ending renaming returned → Al
open Go.World renaming ownsRow → Ab,alloc → Ac,setCell → Aa
set_option maxHeartbeats 8000000
set_option maxRecDepth 100000
variable {a l C d:List Int}{b k B g c i j G n bd base:Nat}{s z V:J}{t nxt:Int}{xs:List J}{x:MI}{f:MF}{p:MP}{w u:Y}{rs:List (List Int)}{e:Aj}{v:VP}{q:Prop}{bad:Bool}{I:List Nat}{fs:List MF}{D:DataW Unit}
structure GJ(xs:List Int)(c:Int):Prop where
 low:0<=c
 kC:c<(xs:Int)
 jN:bits .and Af c (c+1)=0
 one:∀j:Nat,(j:Int)<=c->xs[j]?=xs[0]?
theorem IR(B:Option Addr)(c1:Nat)(xs:List Int)(c:Int)(w:Y)(O:xs.length<=1048576)(L: ↑xs<=c1)(h:Rd w 1 (Z B xs c1) xs (Ad As xs)):
 Ai Ap 133 #[Z B xs c1,c] w λe T=>AM e (GJ xs c)/\Ah w w T:=by
 have f:=Av h;clear h;generalize D:xs.length=n at O L f;have l:=Av D;clear D;by_cases d:0<=c/\c<(n:Int)
 . have b :decide (0<=c/\c<(n:Int))=true:=decide_eq_true d
   obtain⟨c,rfl⟩:=mA d.1;have V:c<n:=oM;clear d;by_cases q:bits .and Af (c:Int) ((c:Int)+1)=0
   . have G:Ae (bits .and Af (c:Int) ((c:Int)+1)=0):=q;obtain⟨y,t⟩:∃y,xs[0]?=K y:=⟨_,an (by rw[l];omega)⟩;rcases f.2 with⟨U,_⟩|⟨g,o,cc,C,r⟩
     . omega
     simp only[lB,mB]at C;obtain⟨rfl,rfl⟩:=C;have Q:=Rd.elem Ay r 0 y t 0 _ rfl;simp only[Nat.zero_mul,lJ]at Q;have F:=Av r;have A:=Av t;clear r t;go_enter func133,ntmps133;go_wp2_with fail;refine(Bf (c:Int) (n:Int) _).mono ?_;rintro e u ⟨rfl,rfl⟩;rw[b];have R:(c:Int)+1<=(c1:Int):=oM;have S:(0:Int)<=(c:Int)+1:=oM;have k3:(0:Int)<(n:Int):=oM;have k4:((c:Int)+1).toNat=c+1:=oM;go_wp2;clear R S b q;go_loopw [24] (λi wr=>∃k:Nat,k<=c+1/\i=iZ k/\Ae (∀j,j<k->xs[j]?=K y)/\∃m,wr=u.drewN m) (λi _=>c+1-(intOf i).toNat)
     (case atStart=>exact⟨0,oM,rfl, λj E=>oM,0,rfl⟩);obtain⟨k,W,rfl,v,m,rfl⟩:=hrel;by_cases X:k<c+1
     . obtain⟨x,s⟩:∃x,xs[k]?=K x:=⟨_,an (by rw[l];omega)⟩;have P:=Rd.elem Ay F k x s 0 _ rfl;rw[mO,lJ]at P;have z:=Av s;clear s;have ae:(k:Int)<(c:Int)+1:=oM;by_cases p:x=y
       . subst p;have H:Ae (∀j,j<k+1->xs[j]?=K x):= λj E=>by
          by_cases e:j=k
          . rw[e];exact z
          exact v.o j oM
         go_wp2;go_roundw;(case rel=>exact⟨k+1,oM,by go_num,H,_,rfl⟩);exact oI
       (have a:Ae (¬GJ xs c):= λe=>by have:=e.one k oM;rw[z,A]at this;exact p (lP this));(have ah:(x==y)=false:=by simpa using p);(have aj:(x != y)=true:=by simpa using p);go_wp2;go_ret;exact⟨.no a,AB _ _ _⟩
     have N:k=c+1:=oM;subst N;have I:Ae (GJ xs c):=⟨oM,by rw[l];omega,G, λj E=>by rw[A];exact v.o j oM⟩;go_wp2;go_ret;exact⟨.iu I,AB _ _ _⟩
   (have a:Ae (¬GJ xs c):= λe=>q e.jN);(have am:(bits .and Af (c:Int) ((c:Int)+1)==0)=false:=by simpa using q);clear f;go_enter func133,ntmps133;go_wp2_with fail;refine(Bf (c:Int) (n:Int) _).mono ?_;rintro e u ⟨rfl,rfl⟩;rw[b];go_wp2;go_ret;exact⟨.no a,lu _ _⟩
 have a:Ae (¬GJ xs c):= λe=>d ⟨e.low,by have:=e.kC;rw[l]at this;exact this⟩
 have b:decide (0<=c/\c<(n:Int))=false:=mU d
 clear f;go_enter func133,ntmps133;go_wp2_with fail;refine(Bf c (n:Int) _).mono ?_;rintro e u ⟨rfl,rfl⟩;rw[b];go_wp2;go_ret;exact⟨.no a,lu _ _⟩
theorem PU(c:Nat)(w:Y):(binOp .eql 29 (Z M 0 c) (Z M 0 0)).run Ap w=.ok true w:=kR
theorem OC(ad:Addr)(m c:Nat)(w:Y):(binOp .eql 29 (Z (K ad) m c) (Z M 0 0)).run Ap w=.ok false w:=kR
theorem Ky(s:J)(m:Nat)(xs:List J)(w:Y)(N:m<=1048576)(t:∀u∈xs,u.oneCell'=true)(h:Rd w 1 s m xs):
 Ai Ap 264 #[s] w λe d=>∃a c,e=Al (Z a m c)/\Ab d w 2 1 (Z a m c) m xs/\Ah w w d:=by
 obtain⟨L,D,G,H,I⟩:=mN Br;have f:Ae (Ah w w (w.alloc (Ak #[] 2))):=Aq _ _;have r:Ae ((w.alloc (Ak #[] 2)).ownsRow w 2 1 (Z w 0 0) 0 []):=⟨rfl,.inr ⟨w,0,#[],rfl,Nat.le_refl _,oz _ _,Nat.le_refl _,nZ _,rfl,sP⟩⟩;obtain⟨z,c1,rfl⟩:=h.bW;cases z with
 | none=>
   have F:m=0:=by
    rcases h.2 with⟨k,_⟩|⟨g,o,c,i,_⟩
    . exact k
    cases i
   subst F;have n:xs=[]:=mL (by have:=h.1;simpa using this);subst n;have y:Ae (w.ownsRow w 2 1 (Z M 0 0) 0 []):=mI _ _ _ _;(have B:∀w,_:= λw=>PU c1 w);clear h;go_enter func264,ntmps264;go_wp2;go_ret;exact⟨_,_,rfl,y,lu _ _⟩
 | some ad=>
   have x:Ae (∀j u,xs[j]?=K u->(w.alloc (Ak #[] 2)) (ad.add j)=K u):= λj u b=>by
    rcases h.2 with⟨k,_⟩|⟨g,o,c,i,C⟩
    . have n:xs=[]:=mL (by have:=h.1;rw[k]at this;simpa using this);rw[n]at b;simp at b
    simp only[lB,lH]at i;obtain⟨rfl,_,_⟩:=i;have:=C j u b;rw[CQ,f.cell (g8 this)];exact this
   have q:Ae (↑xs=m*1/\∀u∈xs,u.oneCell'=true):=⟨h.1,t⟩
   (have B:∀w,_:= λw=>OC ad m c1 w);clear h t;go_enter func264,ntmps264;go_wp2_with (at_builtin;refine wpList_append_own _ rfl _ _ 29 rfl w 2 L (Ag Af 0) 1 8 underlying29 D G H I rfl dC _ 0 [] rfl r ad m c1 xs rfl ?c1 ?c2 ?c3 ?c4 ?c5 ?c6 ?_);(case c1=>exact q.1);(case c2=>exact x);(case c3=>exact q.2);(case c4=>unfold maxLen;omega);(case c5=>omega);(case c6=>exact f.size);intro v' d l v E;(obtain⟨A,c2,rfl⟩:∃a c,v'=Z a m c:=by have:=(Rd.ij l).bW;simpa using this);have p:Ae (Ab d w 2 1 (Z A m c2) m xs/\Ah w w d):=⟨by simpa using l,f.grown v f.size (λj b=>(r.lt j b).1)⟩
   clear l v E;go_wp2;go_ret;exact⟨_,_,rfl,p.1,p.2⟩
theorem Vc(s t:Int)(w:Y):Ai Ap 266 #[s,t] w λe h=>AM e (t=0\/s=t)/\Ah w w h:=by
 by_cases b:t=0
 . (have g:(t==0)=true:=by simpa using b);have d:Ae (t=0):=b;clear b;go_enter func266,ntmps266;go_wp2;go_ret;exact⟨.iu (.inl d),lu _ _⟩
 have g:(t==0)=false:=by simpa using b
 have d:Ae (¬t=0):=b;clear b;by_cases a:s=t
 . (have f:(s==t)=true:=by simpa using a);have c:Ae (s=t):=a;clear a;go_enter func266,ntmps266;go_wp2;go_ret;exact⟨.iu (.inr c),lu _ _⟩
 have f:(s==t)=false:=by simpa using a
 have c:Ae (¬s=t):=a;clear a;go_enter func266,ntmps266;go_wp2;go_ret;exact⟨.no (λe=>e.elim d c),lu _ _⟩
theorem Va{b:List Int}{s:Int}(c:a[k]?=K s)(d:b[k]?=K t)(h:¬(t=0\/s=t)):¬CU a b=true:= λe=>h ((Ip (Ny e)).1 e k s t c d)
theorem Lz(s E:J)(a ts:List Int)(w:Y)(hL:a.length<=1048576)(ae:ts.length<=1048576)(h:Rd w 1 s a (Ad As a))(y:Rd w 1 E ts (Ad As ts)):
 Ai Ap 265 #[s,E,.func (.func 266) #[] #[]] w λe w'=>AM e (CU a ts=true)/\Ah w w w':=by
 have F:Ae (Rd w 1 s a (Ad As a)):=h;have q:Ae (Rd w 1 E ts (Ad As ts)):=y;obtain⟨a1,c1,rfl⟩:=h.bW;obtain⟨a2,c2,rfl⟩:=y.bW;clear h y;by_cases g:a.length= ↑ts
 . rw [<-g]at q⊢;clear ae;generalize N:a.length=n at hL F q g;have f:Ae (↑a=n/\ ↑ts=n):=⟨N,g.symm⟩
   clear N g;go_enter func265,ntmps265;go_wp2;go_loopw [17] (λi wr=>∃k:Nat,k<=n/\i=Ag Af k/\Ae (∀(j:Nat),j<k->∀v,a[j]?=K v->∀t,ts[j]?=K t->t=0\/v=t)/\Ae (Ah w w wr)) (λi _=>n-(intOf i).toNat)
   (case atStart=>exact⟨0,oM,rfl, λj hj=>oM,lu _ _⟩);obtain⟨k,hk,rfl,H,d⟩:=hrel;by_cases R:k<n
   . obtain⟨x,B⟩:∃x,a[k]?=K x:=⟨_,an (by rw[f.1];exact R)⟩;obtain⟨t,l⟩:∃x,ts[k]?=K x:=⟨_,an (by rw[f.2];exact R)⟩;rcases F.2 with⟨X,_⟩|⟨b,o,c,I,P⟩
     . omega
     rcases q.2 with⟨X,_⟩|⟨b',o',c',L,Q⟩
     . omega
     simp only[lB,mB]at I L;obtain⟨rfl,rfl⟩:=I;obtain⟨rfl,rfl⟩:=L;have C:=Rd.elem Ay P k _ B 0 _ rfl;have D:=Rd.elem Ay Q k _ l 0 _ rfl;rw[<-d.cell (g8 C),mO,lJ]at C;rw[<-d.cell (g8 D),mO,lJ]at D;have m:Ae (a[k]?=K x/\ts[k]?=K t):=⟨B,l⟩
     clear P Q B l;go_wp2_with fail;refine(Vc x t _).mono ?_;rintro e u ⟨⟨W,rfl,p⟩,O⟩;have G:Ae (Ah w w u):=Ar d lR O;clear O d C D;cases W
     . have r:Ae (¬CU a ts=true):=Va m.1 m.2 (λe=>absurd (p.2 e) nR);clear p;go_wp2;go_ret;exact⟨.no r,G⟩
     have T:Ae (t=0\/x=t):=p.1 rfl
     clear p;have U:Ae (∀(j:Nat),j<k+1->∀v,a[j]?=K v->∀t,ts[j]?=K t->t=0\/v=t):= λj hj v A t' z=>by
      by_cases e:j=k
      . subst e;rw[m.1]at A;rw[m.2]at z;obtain rfl:=lP A;obtain rfl:=lP z;exact T
      exact H.o j oM v A t' z
     go_wp2;go_roundw;(case rel=>exact⟨k+1,oM,by go_num,U,G⟩);exact oI
   have ah:n=k:=oM;subst ah;have V:Ae (CU a ts=true):=(Ip (by rw[f.1,f.2])).2 (λi s t S l=>H.o i (by have:=(i8.1 S).1;rw[f.1]at this;exact this) s S t l);go_wp2;go_ret;exact⟨.iu V,d⟩
 have r:Ae (¬CU a ts=true):= λe=>g (Ny e)
 have aj:¬(a:Int)=(ts:Int):=oM;go_enter func265,ntmps265;go_wp2;go_ret;exact⟨.no r,lu _ _⟩
theorem FM(h:Fo t=true):¬t=0:=by unfold Fo at h;simp at h;omega
theorem RH{xs:List Int}(h:xs.all Fo=true){x:Int}(a:xs[k]?=K x):Fo x=true:=oy.1 h x (lA a)
theorem Jy(a:CP f)(n:Int):Jm f n↔¬AO f n=0:=by
 constructor
 . rintro⟨d,j⟩;obtain⟨k,rfl⟩:=mA d;by_cases q:k< ↑f.gU
   . rw[KK (an q)];exact FM (RH a.pt (an q))
   have b:k-↑f.gU<f.gW.length:=oM
   have e:=KI (f:=f) (an b);have c:((f.gU:Int)+((k-↑f.gU:Nat):Int))=(k:Int):=oM
   rw[c]at e;rw[e];exact FM (RH a.lt (an b))
 intro h;by_cases g:n<0
 . exact absurd (Hz g) h
 by_cases i:(f.gU:Int)+ ↑f.gW<=n
 . exact absurd (KJ i) h
 exact⟨oM,oM⟩
theorem FZ{a:Nat}(d:p.aC.length=3)(c:p.aC[a]?=K l):BQ p a b=l.getD b 0:=JZ (by have:=(i8.1 c).1;omega) c
theorem Ls(d:AS p.aC)(a b:Int):¬BQ p a b=0↔∃l,0<=a/\p.aC[a.toNat]?=K l/\0<=b/\b<(l.length:Int):=by
 constructor
 . intro h;have r:¬(a<0\/2<a\/b<0):= λe=>h (FD e)
   obtain⟨i,rfl⟩:=mA (show 0<=a from oM);obtain⟨j,rfl⟩:=mA (show 0<=b from oM);(have g:i<p.aC.length:=by have:=d.1;omega);rw[FZ d.1 (an g)]at h;refine⟨p.aC[i],oM,by rw[lD];exact an g,oM,?_⟩;by_cases f:j<p.aC[i].length
   . omega
   exact absurd (by rw[lN,lW oM];rfl) h
 rintro⟨l,k,c,m,q⟩;obtain⟨i,rfl⟩:=mA k;obtain⟨j,rfl⟩:=mA m;rw[lD]at c;rw[FZ d.1 c];have f:j<l.length:=oM;have e:l.getD j 0=l[j]:=by rw[lN,an f];rfl
 rw[e];have n:=d.2 i (i8.1 c).1 l c;exact FM (RH n.2 (an f))
theorem IG(h:AS p.aC)(op a b:Int)(m:op=4\/op=5\/op=6\/op=7):C8 p op a b↔¬BQ p a b=0/\((op=4\/op=6)\/¬a=0):=by
 rw[Ls h];constructor
 . rintro⟨l,c,d,e,f,g⟩;refine⟨⟨l,c,d,e,f⟩,?_⟩;by_cases q:a=0
   . left;by_cases i:op=5\/op=7
     . exact absurd ⟨i,q⟩ g
     omega
   exact .inr q
 rintro⟨⟨l,c,d,e,f⟩,g⟩;exact⟨l,c,d,e,f, λ⟨j,k⟩=>oM⟩
theorem Sm(i:AS p.aC){a:Nat}(f:p.aC[a]?=K l)(n:b< ↑l)(c:Int):GJ (l.drop b) c↔ER p a b c:=by
 have v:=i.2 a (i8.1 f).1 l f;have cell:∀j:Nat,BQ p (a:Int) ((b:Int)+(j:Int))=l.getD (b+j) 0:= λj=>by have:=FZ (b:=b+j) i.1 f;rw[Int.natCast_add]at this;exact this
 have m:BQ p (a:Int) (b:Int)=l.getD b 0:=FZ i.1 f;have g:∀j:Nat,(l.drop b)[j]?=l[b+j]?:= λj=>by rw[pJ]
 constructor
 . intro h;have u:=h.kC;rw[nI]at u;have w:=h.low;have y:=v.1;refine⟨h.low,oM,h.jN,?_, λj d=> ?_⟩
   . rw[Ls i];exact⟨l,oM,by rw[lD];exact f,oM,oM⟩
   have:=h.one j d;rw[g,g]at this;rw[cell,m,lN,lN,this];rfl
 intro h;have t:∀j:Nat,(j:Int)<=c->b+j<l.length:= λj d=>by
  have e:=h.one j d;have s:=h.there;rw[<-e,cell]at s;by_cases q:b+j< ↑l
  . exact q
  exact absurd (by rw[lN,lW oM];rfl) s
 obtain⟨k,rfl⟩:=mA h.low;have x:=t k oM;refine⟨h.low,by rw[nI];omega,h.jN, λj d=> ?_⟩;have r:=t j d;have e:=h.one j d;rw[cell,m,lN,lN,an r,an n]at e;rw[g,g,lJ,an r,an n];simpa using e
def Jp(w:Y)(s:J)(rs:List (List Int)):Prop:=∃xs:List (List Int×J),xs.map Prod.fst=rs/\Rd w 1 s rs (Ad BH xs)/\∀x∈xs,Rd w 1 x.2 x.1 (x.1.flatMap As)/\∃a c,x.2=Z a x.1 c/\ ↑x.1<=c
theorem Jp.rd(h:Jp w s rs):I5 w s rs:=by obtain⟨xs,a,b,c⟩:=h;exact⟨xs,a,b, λx d=>(c x d).1⟩
theorem Jp.a7{e:Y}(h:Jp w s rs)(c:Ah B w e)(b: ↑w<=B):Jp e s rs:=by obtain⟨xs,f,g,a⟩:=h;exact⟨xs,f,g.a7 c b, λx d=>⟨(a x d).1.a7 c b,(a x d).2⟩⟩
theorem Rd.drop{g o n c c':Nat}{xs:List Int}(h:∀j u,(Ad As xs)[j]?=K u->w ⟨g,o+j,M⟩=K u)(b:Nat)(k:b< ↑xs):Rd w 1 (Z (K ⟨g,o+b,M⟩) (↑xs-b) c') (xs.drop b).length (Ad As (xs.drop b)):=by
 refine⟨by rw[AE As 1 Ay],.inr ⟨g,o+b,c',by rw[nI], λj u a=> ?_⟩⟩;have f:j<(xs.drop b).length:=by have:=(i8.1 a).1;rw[AE As 1 Ay,mO]at this;exact this
 have d:=BU As 1 Ay (xs.drop b) j 0 _ (an f) oM;rw[mO,lJ]at d;rw[d]at a;have i:b+j<xs.length:=by rw[nI]at f;omega
 have e:=BU As 1 Ay xs (b+j) 0 _ (an i) oM;rw[mO,lJ]at e;rw[Nat.add_assoc];refine h (b+j) u ?_;rw[e];rw[List.getElem_drop]at a;exact a
structure YH(w u:Y)(v:VP)(g:VF)(f:MF)(op a b c:Int):Prop where
 ej:Ah w w u
 scope:Pt u w v.r v.k v.f v.t g.p f.gV g.l g.c
 ins:En u ((w:Nat)+1) op a b c
theorem YH.a7{e:Y}{g:VF}{op a b c:Int}(h:YH w u v g f op a b c)(d:Ah u u e):YH w e v g f op a b c:=⟨Ar h.ej lR d,h.scope.a7 d,h.ins.a7 d⟩
theorem YH.of(w:Y)(v:VP)(g:VF)(f:MF)(op a b c:Int):YH w (Ac (Ac w (Ak #[v.r,v.k,v.f,v.t,g.p,f.gV,g.l,g.c] 162)) (Ak #[op,a,b,c] 79)) v g f op a b c:=by refine⟨Ar (Aq _ _) lR (Aq _ _),(Pt.new w _ _ _ _ _ _ _ _ _).alloc _,?_⟩;have:=En.new (Ac w (Ak #[v.r,v.k,v.f,v.t,g.p,f.gV,g.l,g.c] 162)) op a b c 79;simpa using this
theorem Fu(h:q:=by clear hbm;go_wp2_with fail;all_goals(go_ret;refine⟨AM.of ?_,HJ.o.ej⟩;rw[HIF.o];obtain⟨l1,l2,l3⟩:=HL.o;have lt:=HT.o;go_light;simp_all [BO,BN]<;>omega)):q:=h
theorem Fv(h:q:=by go_wp2_with fail;all_goals(go_ret;refine⟨AM.of ?_,HJ.o.ej⟩;rw[HIF.o];obtain⟨l1,l2,l3⟩:=HL.o;go_light;simp_all [BO,BN]<;>omega)):q:=h
theorem Iv(h:q:=by clear hbh;go_wp2_with fail;all_goals(go_ret;refine⟨AM.of ?_,HK.o.ej⟩;rw[HIF.o];obtain⟨l1,l2,l3⟩:=HL.o;have lt:=HT.o;go_light;simp_all [BO,BN]<;>omega)):q:=h
theorem Of(h:q:=by refine wpQuiet_nil ?_;rintro w'' ⟨n,rfl⟩;have HB9:=Av (Ar HJ.o.ej lR n.h);clear P0 P1 P2 P3 G0 G1 G2 G3 I0 I1 I2 I3 inst;go_wp2_with fail;all_goals(go_ret;exact⟨.no HN.o,HB9.o⟩)):q:=h
theorem Og(h:q:=by go_wp2_with fail;all_goals(go_ret;refine⟨AM.of ?_,HK.o.ej⟩;rw[HIF.o];obtain⟨l1,l2,l3⟩:=HL.o;have lt:=HT.o;have l4:=HQ.o;go_light;simp_all [BO,BN]<;>omega)):q:=h
theorem Oh(h:q:=by go_wp2_with fail;all_goals(go_ret;refine⟨AM.of ?_,HJ.o.ej⟩;rw[HIF.o];obtain⟨l1,l2,l3⟩:=HL.o;have l4:=HQ.o;go_light;simp_all [BO,BN]<;>omega)):q:=h
theorem T1(v:VP)(p:MP)(g:VF)(f:MF)(op a b c:Int)(w:Y)(hs:p.small)(hp:AS p.aC)(aQ:CP f)(aq:f.small)(ha:Dv a)(hb:Dv b)(hc:Dv c)(h:Dm w v p)(aM:Jp w v.r p.aC)(hf:DF w g f):
 Ai Ap 107 #[Am #[v.r,v.k,v.f,v.t,g.p,f.gV,g.l,g.c],Am #[op,a,b,c]] w λe w'=>AM e (AW p f ⟨op,a,b,c⟩)/\Ah w w w':=by
 have H:=Av (d5 hs (d5 hp (d5 aq (d5 aQ (d5 h (d5 hf aM))))));have HI:Ae _:=YH.of w v g f op a b c;obtain⟨vr,vk,vf,vt⟩:=v;obtain⟨T,S,gc⟩:=g;obtain⟨V,c2,ek⟩:∃a c,vk=Z a p.dk c:=h.dk.bW;obtain⟨W,c3,ef⟩:∃a c,vf=Z a p.aD c:=by obtain⟨xs,h1,h2,h3⟩:=h.aD;exact h2.bW
 obtain⟨X,c4,ec⟩:∃a k,gc=Z a f.bO k:=hf.2.2.bW;subst ek ef ec;have bt:=hs.dk;have bu:=hs.aD;have bx:=aq.2.2;obtain⟨a0,a1⟩:=GN ha;obtain⟨b0,b1⟩:=GN hb;obtain⟨c0,c1⟩:=GN hc;clear hs hp aQ aq ha hb hc h hf aM;by_cases q0:0<=op/\op<30
 . have HO:Ae (0<=op/\op<=29):=⟨oM,oM⟩
   have am:decide (0<=op/\op<30)=true:=decide_eq_true q0
   clear q0;go_enter func107,ntmps107;go_wp2_with fail;refine(Bf op 30 _).mono ?_;rintro e u ⟨rfl,rfl⟩;rw[am];go_wp2_with fail;refine(PB op _).mono ?_;rintro e u ⟨rfl,bl⟩;have HJ:=Av (HI.o.a7 bl);clear HI bl am;obtain⟨s,co,aR⟩:=IL op;rw[aR];clear aR;have HIF:Ae (AW p f ⟨op,a,b,c⟩↔BO p f (AX op) op a b c):=⟨λe=>e.2.2, λe=>⟨HO.o.1,HO.o.2,e⟩⟩;have hF:(0<=AX op/\AX op<=11)/\(AX op=3->op=4\/op=5)/\(AX op=4->op=6\/op=7):=by obtain⟨k,rfl⟩:=mA HO.o.1;have:=LG k (by have:=HO.o.2;omega);exact⟨this.1, λe=>by have:=this.2.1 e;omega, λe=>by have:=this.2.2 e;omega⟩
   generalize bf:AX op=F at*;clear bf;obtain⟨⟨f0,f1⟩,aH⟩:=hF;have aE:=Av aH;clear aH;generalize aT:p.dk.length=A at*;generalize aU:p.aD.length=B at*;generalize aW:f.bO.length=E at*;have HL:=Av (d5 aT (d5 aU aW));clear aT aU aW;obtain⟨p0,p1,p2,p3,g0,g1,z,G⟩:=HJ.o.scope;obtain⟨N,O,P,Q⟩:=HJ.o.ins;simp only[]at p0 p1 p2 p3 g0 g1 z G;have bp:=LT s co F;by_cases F1:F=1
   . subst F1;go_wp2_with fail;refine(Bf a (A:Int) _).mono ?_;rintro e m ⟨rfl,rfl⟩;by_cases C:0<=a/\a<(A:Int)
     . rw[decide_eq_true C];obtain⟨q2,q3⟩:=C;exact Fv
     rw[mU C];(have bi:0<=a->(A:Int)<=a:= λe=>oM);clear C;exact Fv
   by_cases aY:F=11
   . subst aY;go_wp2_with fail;refine(Bf a (B:Int) _).mono ?_;rintro e m ⟨rfl,rfl⟩;by_cases C:0<=a/\a<(B:Int)
     . rw[decide_eq_true C];obtain⟨q2,q3⟩:=C;exact Fv
     rw[mU C];(have bi:0<=a->(B:Int)<=a:= λe=>oM);clear C;exact Fv
   by_cases F9:F=9
   . subst F9;by_cases R:a=0
     . (have bj:(a==0)=true:=by simpa using R);by_cases d:b=0
       . (have aA:(b==0)=true:=by simpa using d);have HQ:Ae (a=0/\b=0):=⟨R,d⟩
         clear R d;go_wp2_with fail;refine(Bf c (E:Int) _).mono ?_;rintro e m ⟨rfl,rfl⟩;go_wp2_with fail;all_goals(go_ret;refine⟨AM.of ?_,HJ.o.ej⟩;rw[HIF.o];obtain⟨l1,l2,l3⟩:=HL.o;obtain⟨l4,l5⟩:=HQ.o;go_light;simp_all [BO,BN]<;>omega)
       (have aA:(b==0)=false:=by simpa using d);have HQ:=Av d;clear d R;exact Oh
     (have bj:(a==0)=false:=by simpa using R);have HQ:=Av R;clear R;exact Oh
   by_cases F8:F=8
   . subst F8;go_wp2_with fail;refine(Eh a _).mono ?_;rintro e m ⟨rfl,rfl⟩;cases t1:Fo a
     . go_wp2_with fail;all_goals(go_ret;refine⟨AM.of ?_,HJ.o.ej⟩;rw[HIF.o];obtain⟨l1,l2,l3⟩:=HL.o;go_light;simp_all [BO,BN]<;>omega)
     go_wp2_with fail;refine(Eh b _).mono ?_;rintro e m ⟨rfl,rfl⟩;(cases t2:Fo b);all_goals
      exact Fv
   by_cases F2:F=2
   . subst F2;go_wp2_with fail;refine(GW vr (Z V A c2) (Z W B c3) vt ⟨T,S,Z X E c4⟩ f a _ H.2.2.1 (H.2.2.2.2.2.1.a7 HJ.ej lR)).mono ?_;rintro e m ⟨⟨bh,rfl,hbh⟩,D⟩;have HK:=Av (HJ.a7 D);clear D;clear p0 p1 p2 p3 N O P Q g0 g1 z G;obtain⟨N,O,P,Q⟩:=HK.ins;rw[Jy H.2.2.2.1]at hbh;cases bh
     . (have HT:Ae (AO f a=0):=mr λe=>absurd (hbh.2 e) nR);exact Iv
     have HT:Ae (¬AO f a=0):=hbh.1 rfl;exact Iv
   by_cases aX:F=10
   . subst aX;go_wp2_with fail;refine(GW vr (Z V A c2) (Z W B c3) vt ⟨T,S,Z X E c4⟩ f a _ H.2.2.1 (H.2.2.2.2.2.1.a7 HJ.ej lR)).mono ?_;rintro e m ⟨⟨bh,rfl,hbh⟩,D⟩;have HK:=Av (HJ.a7 D);clear D;clear p0 p1 p2 p3 N O P Q g0 g1 z G;obtain⟨N,O,P,Q⟩:=HK.ins;rw[Jy H.2.2.2.1]at hbh;obtain⟨_,_,_,_,_,_,_,G⟩:=HK.scope;simp only[]at G;cases bh
     . (have HT:Ae (AO f a=0):=mr λe=>absurd (hbh.2 e) nR);exact Iv
     have HT:Ae (¬AO f a=0):=hbh.1 rfl;clear hbh;by_cases d:b=0
     . (have aA:(b==0)=true:=by simpa using d);have HQ:=Av d;clear d;go_wp2_with fail;refine(Bf c (E:Int) _).mono ?_;rintro e u3 ⟨rfl,rfl⟩;exact Og
     (have aA:(b==0)=false:=by simpa using d);have HQ:=Av d;clear d;exact Og
   by_cases F3:F=3
   . subst F3;have L:=aE.1 rfl;have ae:=IG H.2.1 op a b oM;have q:=Av (d5 L ae);clear L ae;go_wp2_with fail;refine(Eo ⟨vr,Z V A c2,Z W B c3,vt⟩ p T f.gV S (Z X E c4) op a b c _ H.1 H.2.1.1 (H.2.2.2.2.1.a7 HJ.ej lR)).mono ?_;rintro e m ⟨⟨bh,rfl,hbh⟩,D⟩;have HK:=Av (HJ.a7 D);clear D;clear p0 p1 p2 p3 N O P Q g0 g1 z G;obtain⟨N,O,P,Q⟩:=HK.ins;rw[q.2]at hbh;cases bh
     . have HN:Ae (¬AW p f ⟨op,a,b,c⟩):= λe=>by
        have:=HIF.1 e;have L:=q.1;go_light;simp[BO,BN]at this;have h5:(op=4\/op=6)\/¬a=0:=oM
        simp[this.1,h5]at hbh
       clear hbh;go_wp2_with fail;all_goals(go_ret;exact⟨.no HN,HK.ej⟩)
     . have HT:Ae (¬BQ p a b=0/\(op=4\/¬a=0)):=⟨(hbh.1 rfl).1,by have:=(hbh.1 rfl).2;have:=q.1;omega⟩
       exact Iv
   by_cases F4:F=4
   . subst F4;have L:=aE.2 rfl;have ae:=IG H.2.1 op a b oM;have q:=Av (d5 L ae);clear L ae;have inst:=AC.some u;(have P0:= λn:AC u=>AC.cell p0 n);(have P1:= λn:AC u=>AC.cell p1 n);(have P2:= λn:AC u=>AC.cell p2 n);(have P3:= λn:AC u=>AC.cell p3 n);(have G0:= λn:AC u=>AC.cell g0 n);(have G1:= λn:AC u=>AC.cell g1 n);(have G2:= λn:AC u=>AC.cell z n);(have G3:= λn:AC u=>AC.cell G n);(have I0:= λn:AC u=>AC.cell N n);(have I1:= λn:AC u=>AC.cell O n);(have I2:= λn:AC u=>AC.cell P n);(have I3:= λn:AC u=>AC.cell Q n);by_cases I:C8 p op a b
     . have aj:Ae (C8 p op a b):=I;have aZ:Ae (¬BQ p a b=0/\(op=6\/¬a=0)):=⟨(q.2.1 I).1,by have:=(q.2.1 I).2;have:=q.1;omega⟩
       obtain⟨l,z0,z1,z2,z3,_⟩:=I;obtain⟨i,rfl⟩:=mA z0;obtain⟨j,rfl⟩:=mA z2;rw[lD]at z1;have aS:j<l.length:=oM;have aF:=Av (Sm H.2.1 z1 aS c);obtain⟨xs,aw,au,aP⟩:=H.2.2.2.2.2.2;obtain⟨⟨l',y⟩,hx⟩:∃x,xs[i]?=K x:=⟨_,an (by have:=(i8.1 z1).1;rw[<-aw]at this;simpa using this)⟩;have e1:=BF aw hx;simp only[]at e1;(obtain rfl:l'=l:=by rw[z1]at e1;exact(lP e1).symm);obtain⟨hy,ay,cy,ey,bg⟩:=aP _ (lA hx);simp only[]at hy ey bg;subst ey;have br:=H.1.region _ (lA z1);(have bq:i<3:=by have:=(i8.1 z1).1;have:=H.2.1.1;omega);rw[H.2.1.1]at au;rcases au.2 with⟨e0,_⟩|⟨gg,o,cc,e2,aI⟩
       . omega
       subst e2;have k0:=Rd.elem A5 aI i _ hx 0 _ rfl;rw[mO,lJ]at k0;simp only[]at k0;rw[<-HJ.ej.cell (g8 k0)]at k0;rcases hy.2 with⟨e0,_⟩|⟨z,o2,c5,e3,aJ⟩
       . omega
       simp only[lB,mB]at e3;obtain⟨rfl,rfl⟩:=e3;have aG:Ae (Rd u 1 (Z (K ⟨z,o2+j,M⟩) (↑l'-j) (cy-j)) (l'.drop j).length (Ad As (l'.drop j))):=(Rd.drop (n:=0) (c:=0) aJ j aS).a7 HJ.ej lR
       clear aI aJ hx aP au aw hy e1;(have K0:= λn:AC u=>AC.cell k0 n);have y1:(j:Int)<=(l':Int):=oM;have y2:(l':Int)<=(cy:Int):=oM;have y3:(i:Int)<3:=oM;by_cases U:GJ (l'.drop j) c
       . have ao:Ae (GJ (l'.drop j) c):=U;have HY:=Av (HIF.2 (.inr (.inr (.inr (.inr (.inl ⟨rfl,aF.1 U,aZ.2⟩))))));clear U;go_wp2_with fail;refine AN kR kR ?_;(repeat(go_big_quiet_step ((first|(go_at_call 132;rename_i n;exact(Eo ⟨sO gg o 3 cc,Z V A c2,Z W B c3,vt⟩ p T f.gV S (Z X E c4) op (i:Int) (j:Int) c n.u H.1 H.2.1.1 (H.2.2.2.2.1.a7 (Ar HJ.ej lR n.h) lR)).mono λe w'' h=>⟨h.1.true aj,⟨⟨w'',Ar n.h lR h.2⟩,rfl⟩⟩)|(go_at_call 133;rename_i n;have ah:=IR (K ⟨z,o2+j,M⟩) (cy-j) (l'.drop j) c n.u (by rw[nI];omega) (by rw[nI];omega) (by have:=aG.a7 n.h lR;rw[nI]at this⊢;exact this);rw[nI]at ah;exact ah.mono λe w'' h=>⟨h.1.true ao,⟨⟨w'',Ar n.h lR h.2⟩,rfl⟩⟩)))));refine wpQuiet_nil ?_;rintro w'' ⟨n,rfl⟩;have HB9:=Av (Ar HJ.ej lR n.h);clear P0 P1 P2 P3 G0 G1 G2 G3 I0 I1 I2 I3 inst;go_wp2_with fail;all_goals(go_ret;exact⟨.iu HY,HB9⟩)
       have ao:Ae (¬GJ (l'.drop j) c):=U;(have HN:Ae (¬AW p f ⟨op,(i:Int),(j:Int),c⟩):= λe=>by have:=HIF.1 e;go_light;simp[BO,BN]at this;exact U (aF.2 this.1));clear U;go_wp2_with fail;refine AN kR kR ?_;(repeat(go_big_quiet_step ((first|(go_at_call 132;rename_i n;exact(Eo ⟨sO gg o 3 cc,Z V A c2,Z W B c3,vt⟩ p T f.gV S (Z X E c4) op (i:Int) (j:Int) c n.u H.1 H.2.1.1 (H.2.2.2.2.1.a7 (Ar HJ.ej lR n.h) lR)).mono λe w'' h=>⟨h.1.true aj,⟨⟨w'',Ar n.h lR h.2⟩,rfl⟩⟩)|(go_at_call 133;rename_i n;have ah:=IR (K ⟨z,o2+j,M⟩) (cy-j) (l'.drop j) c n.u (by rw[nI];omega) (by rw[nI];omega) (by have:=aG.a7 n.h lR;rw[nI]at this⊢;exact this);rw[nI]at ah;exact ah.mono λe w'' h=>⟨h.1.false ao,⟨⟨w'',Ar n.h lR h.2⟩,rfl⟩⟩)))));exact Of
     have aj:Ae (¬C8 p op a b):=I;(have HN:Ae (¬AW p f ⟨op,a,b,c⟩):= λe=>by have:=HIF.1 e;have L:=q.1;have hh:=q.2;go_light;simp[BO,BN]at this;exact I (hh.2 ⟨this.1.there,oM⟩));clear I;go_wp2_with fail;refine AN kR kR ?_;(repeat(go_big_quiet_step ((first|(go_at_call 132;rename_i n;exact(Eo ⟨vr,Z V A c2,Z W B c3,vt⟩ p T f.gV S (Z X E c4) op a b c n.u H.1 H.2.1.1 (H.2.2.2.2.1.a7 (Ar HJ.ej lR n.h) lR)).mono λe w'' h=>⟨h.1.false aj,⟨⟨w'',Ar n.h lR h.2⟩,rfl⟩⟩)))));exact Of
   by_cases F0:F=0
   . subst F0;exact Fv
   rcases(show F=5\/F=6\/F=7 from oM)with rfl|rfl|rfl
   . go_wp2_with fail;refine(Gh 5 a _ oM).mono ?_;rintro e m ⟨⟨bm,rfl,hbm⟩,rfl⟩;cases bm
     . (have HT:Ae (¬BN 5 a):= λe=>by simp[e]at hbm);exact Fu
     have HT:Ae (BN 5 a):=hbm.1 rfl;exact Fu
   . go_wp2_with fail;refine(Gh 6 a _ oM).mono ?_;rintro e m ⟨⟨bm,rfl,hbm⟩,rfl⟩;cases bm
     . (have HT:Ae (¬BN 6 a):= λe=>by simp[e]at hbm);exact Fu
     have HT:Ae (BN 6 a):=hbm.1 rfl;exact Fu
   go_wp2_with fail;refine(Gh 7 a _ oM).mono ?_;rintro e m ⟨⟨bm,rfl,hbm⟩,rfl⟩;cases bm
   . (have HT:Ae (¬BN 7 a):= λe=>by simp[e]at hbm);exact Fu
   have HT:Ae (BN 7 a):=hbm.1 rfl;exact Fu
 have HN:Ae (¬AW p f ⟨op,a,b,c⟩):= λe=>q0 ⟨e.1,by have:=e.2.1;dsimp only at this;omega⟩
 have am:decide (0<=op/\op<30)=false:=mU q0
 go_enter func107,ntmps107;go_wp2_with fail;refine(Bf op 30 _).mono ?_;rintro e u ⟨rfl,rfl⟩;rw[am];go_wp2;go_ret;exact⟨.no HN,HI.ej⟩
theorem A6.parts(h:A6 p 0):AS p.aC/\Bh p.dk/\Bl p.aD/\CE p/\Bz p:=by
 unfold A6 at h;rcases h with h|h|h|h|h|h
 . exact absurd h.1 dC
 . exact absurd h.1 dC
 . exact absurd h.1 dC
 . exact absurd h.1 dC
 . exact absurd h.1 dC
 exact h.2
theorem A6.iY(h:A6 p 0)(a:p.aD[i]?=K f)(b:f.bO[j]?=K x):AW p f x:=h.parts.2.2.2.1 i (i8.1 a).1 f a j (i8.1 b).1 x b
theorem G6:AX 1=1/\AX 2=2/\AX 3=2/\AX 4=3/\AX 5=3/\AX 6=4/\AX 7=4/\AX 27=10/\AX 28=11:=by decide+kernel
theorem AW.const(h:AW p f x)(e:x.op=1):∃(q:Nat) (z:MC),x.a=q/\p.dk[q]?=K z:=by
 obtain⟨_,_,h⟩:=h;rw[e,G6.1]at h;unfold BO BN at h;have b:0<=x.a/\x.a<p.dk.length:=by rcases h with h|h|h|h|h|h|h|h|h|h<;>first|(exfalso;omega)|exact⟨h.2.1,h.2.2.1⟩
 obtain⟨q,c⟩:=mA b.1;rw[c]at b;exact⟨q,_,c,an oM⟩
theorem Sj{a:Int}(h:¬AO f a=0):∃q:Nat,a=q/\(f.gU++f.gW)[q]?=K (AO f a):=by
 by_cases b:a<0
 . exact absurd (Hz b) h
 obtain⟨q,c⟩:=mA (by omega:0<=a);refine⟨q,c,?_⟩;subst c;unfold AO at h⊢;rw[lS b]at h⊢;rw[lN]at h⊢;simp only[lD]at h⊢;cases e:(f.gU++f.gW)[q]? with
 |none=>rw[e]at h;exact absurd rfl h
 |some z=>rfl
theorem AW.local(h:AW p f x)(e:x.op=2\/x.op=3\/x.op=27):∃q:Nat,x.a=q/\(f.gU++f.gW)[q]?=K (AO f x.a):=by
 apply Sj;obtain⟨_,_,h⟩:=h;have b:AX x.op=2\/AX x.op=10:=by
  rcases e with e|e|e<;>rw[e]
  . exact .inl G6.2.1
  . exact .inl G6.2.2.1
  exact .inr G6.2.2.2.2.2.2.2.1
 unfold BO BN at h;rcases h with h|h|h|h|h|h|h|h|h|h<;>first|(exfalso;omega)|exact h.2.1
theorem TI{a b:Int}(j:p.aC.length=3)(h:¬BQ p a b=0):∃(q z:Nat) (r:List Int),a=q/\b=z/\p.aC[q]?=K r/\r[z]?=K (BQ p a b):=by
 by_cases f:a<0\/2<a\/b<0
 . exact absurd (FD f) h
 obtain⟨q,g⟩:=mA (by omega:0<=a);obtain⟨z,i⟩:=mA (by omega:0<=b);subst g i;have d:p.aC[q]?=K (p.aC[q]'oM):=an oM
 refine⟨q,z,_,rfl,rfl,d,?_⟩;have e:=JZ (p:=p) (r:=q) (c:=z) oM d;rw[e]at h⊢;rw[lN]at h⊢;cases e2:(p.aC[q]'oM)[z]? with
 |none=>rw[e2]at h;exact absurd rfl h
 |some t=>rfl
theorem TK{q z:Nat}{r:List Int}(c:x.a=q)(d:x.b=z)(e:p.aC[q]?=K r)(f:r[z]?=K t):D6 p x=t:=by unfold D6;rw[c,d];simp only[lD,e,f];rfl
theorem AW.cell(j:p.aC.length=3)(h:AW p f x)(e:x.op=4\/x.op=5\/x.op=6\/x.op=7):∃(q z:Nat) (r:List Int),x.a=q/\x.b=z/\p.aC[q]?=K r/\r[z]?=K (D6 p x):=by
 obtain⟨_,_,h⟩:=h;have l:AX x.op=3\/AX x.op=4:=by
  rcases e with e|e|e|e<;>rw[e]
  . exact .inl G6.2.2.2.1
  . exact .inl G6.2.2.2.2.1
  . exact .inr G6.2.2.2.2.2.1
  exact .inr G6.2.2.2.2.2.2.1
 unfold BO BN at h;have k:¬BQ p x.a x.b=0:=by rcases h with h|h|h|h|h|h|h|h|h|h<;>first|(exfalso;omega)|exact h.2.1|exact h.2.1.there
 obtain⟨q,z,r,c,d,g,i⟩:=TI j k;refine⟨q,z,r,c,d,g,?_⟩;rw[TK c d g i];exact i
theorem AW.jN(h:AW p f x)(e:x.op=6\/x.op=7):ER p x.a x.b x.c:=by
 obtain⟨_,_,h⟩:=h;have d:AX x.op=4:=by
  rcases e with e|e<;>rw[e]
  . exact G6.2.2.2.2.2.1
  exact G6.2.2.2.2.2.2.1
 unfold BO BN at h;rcases h with h|h|h|h|h|h|h|h|h|h<;>first|(exfalso;omega)|exact h.2.1
theorem AW.callee(h:AW p f x)(e:x.op=28):∃(q:Nat) (d:MF),x.a=q/\p.aD[q]?=K d:=by
 obtain⟨_,_,h⟩:=h;rw[e,G6.2.2.2.2.2.2.2.2]at h;unfold BO BN at h;have b:0<=x.a/\x.a<p.aD.length:=by rcases h with h|h|h|h|h|h|h|h|h|h<;>first|(exfalso;omega)|exact⟨h.2.1,h.2.2.1⟩
 obtain⟨q,c⟩:=mA b.1;rw[c]at b;exact⟨q,_,c,an oM⟩
theorem AW.target(h:AW p f x)(e:x.op=25\/x.op=26\/x.op=27):0<=x.c/\x.c<f.bO.length:=by
 obtain⟨_,_,h⟩:=h;have a:AX 25=9/\AX 26=9/\AX 27=10:=by decide+kernel
 have b:AX x.op=9\/AX x.op=10:=by
  rcases e with e|e|e<;>rw[e]
  . exact .inl a.1
  . exact .inl a.2.1
  exact .inr a.2.2
 unfold BO BN at h;rcases h with h|h|h|h|h|h|h|h|h|h<;>first|(exfalso;omega)|exact h.2.2.2
theorem XC:AX 8=5/\AX 9=5/\AX 10=5/\AX 11=5/\AX 12=5/\AX 13=6/\AX 14=6/\AX 15=6/\AX 16=6/\AX 20=7/\AX 21=5/\AX 22=8:=by decide+kernel
theorem AW.type(h:AW p f x)(e:(8<=x.op/\x.op<=16)\/x.op=20\/x.op=21):Fo x.a=true:=by
 obtain⟨_,_,h⟩:=h;have c:AX x.op=5\/AX x.op=6\/AX x.op=7:=by
  have b:x.op=8\/x.op=9\/x.op=10\/x.op=11\/x.op=12\/x.op=13\/x.op=14\/x.op=15\/x.op=16\/x.op=20\/x.op=21:=oM
  obtain⟨d,g,i,j,k,l,m,n,q,r,s,t⟩:=XC;rcases b with e|e|e|e|e|e|e|e|e|e|e<;>rw[e]<;>omega
 unfold BO BN at h;rcases h with h|h|h|h|h|h|h|h|h|h<;>first|(exfalso;omega)|(rcases h.1 with h|h|h<;>first|exact h.2|(rcases h.2 with e|e<;>rw[e]<;>rfl))
theorem AW.conv(h:AW p f x)(e:x.op=22):Fo x.a=true/\Fo x.b=true:=by
 obtain⟨_,_,h⟩:=h;have c:AX x.op=8:=by rw[e];exact XC.2.2.2.2.2.2.2.2.2.2.2
 unfold BO BN at h;rcases h with h|h|h|h|h|h|h|h|h|h<;>first|(exfalso;omega)|exact⟨h.2.1,h.2.2.1⟩
theorem AW.kN(h:AW p f x)(e:x.op=2):AO f x.a≠0:= λc=>by
 have b:=h.2.2;have d:AX x.op=2:=by rw[e];exact G6.2.1
 unfold BO BN at b;rcases b with h|h|h|h|h|h|h|h|h|h<;>first|(exfalso;omega)|exact h.2.1 c
theorem Qf(D:A6 p 0)(d:AW p f x):(∀t∈AG p f x,t=0->0<(AJ p f x).length)/\(AG p f x).length<=2:=by
 have i:=D.parts;have one:∀t:Int,t≠0->(∀u∈[t],u=0->0<(AJ p f x).length)/\[t].length<=2:= λt g=>⟨λu A e=>by simp only[mz]at A;exact absurd (A.symm.trans e) g,sP⟩
 unfold AG;by_cases c1:x.op=1
 . rw[lZ c1];obtain⟨q,z,c,b⟩:=d.const c1;have C:=i.2.1.2 q (i8.1 b).1 z b;(have h:YA p.dk x.a.toNat=z:=by unfold YA;rw[c,lD,b];rfl);rw[h];exact one _ (FM C.1)
 rw[lS c1];by_cases c2:x.op=2
 . rw[lZ c2];exact one _ (d.kN c2)
 rw[lS c2];by_cases c4:x.op=4\/x.op=6
 . rw[lZ c4];obtain⟨q,z,r,c,b,h,B⟩:=d.cell i.1.1 oM;have:=(i.1.2 q (i8.1 h).1 r h).2;exact one _ (FM (oy.1 this _ (lA B)))
 rw[lS c4];by_cases y:8<=x.op/\x.op<=16
 . rw[lZ y];exact one _ (FM (d.type oM))
 rw[lS y];by_cases n:x.op=17\/x.op=18
 . rw[lZ n];exact one _ dC
 rw[lS n];by_cases s:x.op=19
 . rw[lZ s];exact one _ dC
 rw[lS s];by_cases v:x.op=20\/x.op=21
 . rw[lZ v];exact one _ dC
 rw[lS v];by_cases j:x.op=22
 . rw[lZ j];exact one _ (FM (d.conv j).2)
 rw[lS j];by_cases w:x.op=23
 . rw[lZ w];(have c:AJ p f x=[0]:=by unfold AJ;rw[lS oM,lS oM,lS oM,lS oM,lS oM,lS oM,lS oM,lS oM,lZ oM]);rw[c];exact⟨λ_ _ _=>sP,sP⟩
 rw[lS w];by_cases k:x.op=28
 . rw[lZ k];obtain⟨q,l,c,b⟩:=d.callee k;have E:CP l:=i.2.2.1.2.2.1 q (i8.1 b).1 l b;rw[c,lD,b];simp only[];unfold Ba;by_cases m:l.gV=0
   . rw[lZ m];exact⟨λt g=>(by cases g),sP⟩
   rw[lS m];exact one _ m
 rw[lS k];exact⟨λt g=>(by cases g),sP⟩
theorem Vg(D:A6 p 0)(c:AW p f x):∀t∈AG p f x,t=0->x.op=23:=by
 have i:=D.parts;have one:∀t:Int,t≠0->(∀u∈[t],u=0->x.op=23):= λt d u A e=>by simp only[mz]at A;exact absurd (A.symm.trans e) d
 unfold AG;by_cases c1:x.op=1
 . rw[lZ c1];obtain⟨q,z,g,b⟩:=c.const c1;have C:=i.2.1.2 q (i8.1 b).1 z b;(have h:YA p.dk x.a.toNat=z:=by unfold YA;rw[g,lD,b];rfl);rw[h];exact one _ (FM C.1)
 rw[lS c1];by_cases c2:x.op=2
 . rw[lZ c2];exact one _ (c.kN c2)
 rw[lS c2];by_cases c4:x.op=4\/x.op=6
 . rw[lZ c4];obtain⟨q,z,r,g,b,h,B⟩:=c.cell i.1.1 oM;have:=(i.1.2 q (i8.1 h).1 r h).2;exact one _ (FM (oy.1 this _ (lA B)))
 rw[lS c4];by_cases y:8<=x.op/\x.op<=16
 . rw[lZ y];exact one _ (FM (c.type oM))
 rw[lS y];by_cases s:x.op=17\/x.op=18
 . rw[lZ s];exact one _ dC
 rw[lS s];by_cases v:x.op=19
 . rw[lZ v];exact one _ dC
 rw[lS v];by_cases w:x.op=20\/x.op=21
 . rw[lZ w];exact one _ dC
 rw[lS w];by_cases j:x.op=22
 . rw[lZ j];exact one _ (FM (c.conv j).2)
 rw[lS j];by_cases k:x.op=23
 . rw[lZ k];exact λ_ _ _=>k
 rw[lS k];by_cases l:x.op=28
 . rw[lZ l];obtain⟨q,m,g,b⟩:=c.callee l;have E:CP m:=i.2.2.1.2.2.1 q (i8.1 b).1 m b;rw[g,lD,b];simp only[];unfold Ba;by_cases n:m.gV=0
   . rw[lZ n];exact λt d=>(by cases d)
   rw[lS n];exact one _ n
 rw[lS l];exact λt d=>(by cases d)
theorem MV(v:VP)(p:MP)(w:Y)(hs:p.small)(hw:p.wf)(hp:AS p.aC)(au:Bl p.aD)(h:Dm w v p)(aq:Jp w v.r p.aC):
 Ai Ap 86 #[Am #[v.r,v.k,v.f,v.t]] w λe w'=>AM e (CE p)/\Ah w w w':=by
 obtain⟨xs,ys,I⟩:=Pg.of hs hw h;obtain⟨vr,vk,vf,vt⟩:=v;simp only[]at I;obtain⟨r3,c3,e3⟩:=I.fr.bW;have hm:=hs.aD;subst e3;have HH:=Av (d5 hp (d5 au aq));clear hs hw h hp au aq;obtain⟨C,y,aJ⟩:=I.rr.bW;obtain⟨D,A,aI⟩:∃a c,vk=Z a p.dk c:=I.rd.dk.bW;obtain⟨E,B,aM⟩:∃a c,vt=Z a p.e8 c:=I.rd.e8.bW;subst aJ aI aM;have u:Ae _:=I;clear I;have n:Ae _:=Mz.of w (Z C p.aC y) (Z D p.dk A) (Z r3 p.aD c3) (Z E p.e8 B) 37;generalize hM:p.aD.length=m at*;have N:=Av hM;clear hM;have u:=Av u;go_enter func86,ntmps86;go_wp2;go_loopw [11] (λi wr=>∃k:Nat,k<=m/\i=iZ k/\Ae (∀j,j<k->∀f,p.aD[j]?=K f->Fy p f)/\Ae (Mz w wr (Z C p.aC.length y) (Z D p.dk.length A) (Z r3 m c3) (Z E p.e8.length B))) (λi _=>m-(intOf i).toNat)
 case atStart=>exact⟨0,oM,rfl, λj T=>oM,n⟩
 clear n;obtain⟨k,hk,rfl,HT,n⟩:=hrel;by_cases ah:k<m
 . obtain⟨⟨f,v⟩,d⟩:∃x,ys[k]?=K x:=⟨_,an (by rw[u.fl,N];exact ah)⟩;have l:=BF u.fm d;have s:=Av (d5 (u.fe _ (lA d)) (d5 (u.small.func _ (lA l)) (d5 l (d5 (u.wf.aD _ (lA l)) (HH.2.1.2.2.1 k (by rw[N];exact ah) _ l)))));clear l;rcases u.fr.2 with⟨e0,_⟩|⟨b,o,c,l,R⟩
   . rw[N]at e0;omega
   rw[N]at l;simp only[lB,mB]at l;obtain⟨rfl,rfl⟩:=l;have L:=Rd.elem Az R k _ d 0 _ rfl;have U:=Rd.elem Az R k _ d 1 _ rfl;have V:=Rd.elem Az R k _ d 2 _ rfl;have W:=Rd.elem Az R k _ d 3 _ rfl;rw[<-n.ej.cell (g8 L),lJ]at L;rw[<-n.ej.cell (g8 U)]at U;rw[<-n.ej.cell (g8 V)]at V;rw[<-n.ej.cell (g8 W)]at W;clear R d;simp only[]at L U V W;obtain⟨F,G,ep⟩:=s.1.1.bW;obtain⟨al,cl,el⟩:=s.1.2.1.bW;obtain⟨H,cc,ec⟩:=s.1.2.2.bW;obtain⟨vp,vl,vc⟩:=v;simp only[]at ep el ec L U V W;subst ep el ec;obtain⟨p0,p1,p2,p3⟩:=n.prog;have nb:¬b=wr.heap.size:=mR (g8 L);have mb:b<wr.heap.size:=g8 L;have np:¬(w:Nat)=wr.heap.size:=mR n.prog.lt;have mp:(w:Nat)<wr.heap.size:=n.prog.lt;have hz:=s.2.1.2.2;have g:Ae (Mz w (Ac (Ac wr (Ak #[Z F f.gU G,f.gV,Z al f.gW cl,Z H f.bO cc] 76)) (Ak #[(Z C p.aC y),(Z D p.dk A),sO b o m c3,(Z E p.e8 B),Z F f.gU G,f.gV,Z al f.gW cl,Z H f.bO cc] 162)) (Z C p.aC y) (Z D p.dk A) (sO b o m c3) (Z E p.e8 B)/\Pt (Ac (Ac wr (Ak #[Z F f.gU G,f.gV,Z al f.gW cl,Z H f.bO cc] 76)) (Ak #[(Z C p.aC y),(Z D p.dk A),sO b o m c3,(Z E p.e8 B),Z F f.gU G,f.gV,Z al f.gW cl,Z H f.bO cc] 162)) ((wr:Nat)+1) (Z C p.aC y) (Z D p.dk A) (sO b o m c3) (Z E p.e8 B) (Z F f.gU G) f.gV (Z al f.gW cl) (Z H f.bO cc)):=by refine⟨n.a7 (Ar (Aq _ _) lR (Aq _ _)),?_⟩;have:=Pt.new (Ac wr (Ak #[Z F f.gU G,f.gV,Z al f.gW cl,Z H f.bO cc] 76)) (Z C p.aC y) (Z D p.dk A) (sO b o m c3) (Z E p.e8 B) (Z F f.gU G) f.gV (Z al f.gW cl) (Z H f.bO cc) 162;simpa using this
   go_wp2;clear p0 p1 p2 p3 L U V W nb mb np mp;generalize hZ:f.bO.length=z at*;have Q:=Av hZ;clear hZ;generalize wr.heap.size+1=SB at g⊢;go_loopw [21] (λi aE=>∃q:Nat,q<=z/\i=iZ q/\Ae (∀j,j<q->∀x,f.bO[j]?=K x->AW p f x)/\Ae (Mz w aE (Z C p.aC y) (Z D p.dk A) (sO b o m c3) (Z E p.e8 B)/\Pt aE SB (Z C p.aC y) (Z D p.dk A) (sO b o m c3) (Z E p.e8 B) (Z F f.gU G) f.gV (Z al f.gW cl) (Z H z cc))) (λi _=>z-(intOf i).toNat)
   (case atStart=>exact⟨0,oM,rfl, λj T=>oM,g⟩);clear g;obtain⟨q,hq,rfl,am,g⟩:=hrel;by_cases aw:q<z
   . obtain⟨x,d⟩:∃x,f.bO[q]?=K x:=⟨_,an (by rw[Q];exact aw)⟩;have aA:=s.2.2.2.1.bO x (lA d);rcases s.1.2.2.2 with⟨e0,_⟩|⟨b',o',c',l,S⟩
     . rw[Q]at e0;omega
     rw[Q]at l;simp only[lB,mB]at l;obtain⟨rfl,rfl⟩:=l;have O:=Rd.elem MI.dr S q x d 0 _ rfl;have j1:=Rd.elem MI.dr S q x d 1 _ rfl;have j2:=Rd.elem MI.dr S q x d 2 _ rfl;have j3:=Rd.elem MI.dr S q x d 3 _ rfl;rw[<-g.1.ej.cell (g8 O),lJ]at O;rw[<-g.1.ej.cell (g8 j1)]at j1;rw[<-g.1.ej.cell (g8 j2)]at j2;rw[<-g.1.ej.cell (g8 j3)]at j3;have P:=Av (d5 d aA);clear S d aA;obtain⟨xo,xa,xb,xc⟩:=x;simp only[]at O j1 j2 j3;obtain⟨s0,s1,s2,s3,s4,s5,s6,s7⟩:=g.2;have nb:¬b'=wr.heap.size:=mR (g8 O);have mb:b'<wr.heap.size:=g8 O;have np:¬SB=wr.heap.size:=mR g.2.lt;have mp:SB<wr.heap.size:=g.2.lt;go_wp2_with fail;have bA:=Aq wr (Ak #[xo,xa,xb,xc] 79);have X:=Ar g.1.ej lR bA;refine(T1 ⟨(Z C p.aC y),(Z D p.dk A),sO b o m c3,(Z E p.e8 B)⟩ p ⟨Z F f.gU G,Z al f.gW cl,sO b' o' z cc⟩ f xo xa xb xc _ u.small HH.1 s.2.2.2.2 s.2.1 P.2.2.1 P.2.2.2.1 P.2.2.2.2 (u.rd.a7 X lR) (HH.2.2.a7 X lR) (s.1.a7 X lR)).mono ?_;rintro e u4 ⟨⟨b4,rfl,ae⟩,ao⟩;have bU:=Ar bA lR ao;have aj:=Av (d5 (g.1.a7 bU) (g.2.a7 bU));clear bA X ao bU g O j1 j2 j3 s0 s1 s2 s3 s4 s5 s6 s7 nb mb np mp;cases b4
     . (have HN:Ae (¬CE p):= λe=>by have:=e k (by rw[N];exact ah) f s.2.2.1 q (by rw[Q];exact aw) _ P.1;simp[this]at ae);clear ae;go_wp2;go_ret;exact⟨.no HN,aj.1.ej⟩
     . have aH:Ae (AW p f ⟨xo,xa,xb,xc⟩):=ae.1 rfl;clear ae;go_wp2;go_roundw;(case rel=>exact⟨q+1,oM,by go_num,CO P.1 aH am,aj⟩);exact oI
   have aQ:z=q:=oM;subst aQ;(have aG:Ae (Fy p f):= λj T x d=>am.o j (by rw[<-Q];exact T) x d);go_wp2;go_roundw;(case rel=>exact⟨k+1,oM,by go_num,CO s.2.2.1 aG HT,g.1⟩);exact oI
 have aP:m=k:=oM;subst aP;have aF:Ae (CE p):= λj T f hf=>HT.o j (by rw[<-N];exact T) f hf
 go_wp2;go_ret;exact⟨.iu aF,n.ej⟩
structure GV where
 fc:Int
 fa:Int
 gb:Nat
 ob:Nat
 cb:Nat
 go:Nat
 oo:Nat
 co:Nat
 vi:J
 vl:J
 gi:Nat
 ci:Nat
 gc:Nat
 cc:Nat
def EP(x:Int):Prop:=0<=x/\x<=4294967295
structure Gr(w u:Y)(G n:Nat)(x:GV)(bad:Bool)(I:List Nat)(C:List Int):Prop where
 ie:AA u G #[x.fc,x.fa,sO x.gb x.ob n x.cb,sO x.go x.oo n x.co,x.vi,x.vl,sG x.gi n x.ci,sG x.gc n x.cc,bad] 146
 lo: ↑w<=G
 iy:Ab u w 2 1 (sG x.gi n x.ci) n (nv I)
 cost:Ab u w 2 1 (sG x.gc n x.cc) n (Ad As C)
 ne:x.gi≠x.gc
 ej:Ah w w u
 il: ↑I=n
 ib:∀y∈I,y<n
 cl: ↑C=n
 cb:∀y∈C,EP y
structure GF(w:Y)(n:Nat)(x:GV)(E:Nat->List Nat)(O:List Nat):Prop where
 gr:KP w x.gb x.ob n E
 ord:∀k y:Nat,O[k]?=K y->w ⟨x.go,x.oo+k,M⟩=K ↑(y:Int)
 ol: ↑O=n
 ob:∀y∈O,y<n
 eb:∀b,b<n->∀y∈E b,y<n
 sz:∀b,(E b).length<=2
theorem Gr.a7{b:Y}{x:GV}(h:Gr w u G n x bad I C)(a:Ah u u b):Gr w b G n x bad I C:={h with ie:=h.ie.a7 a,iy:=Aw h.iy a lR,cost:=Aw h.cost a lR,ej:=Ar h.ej lR a}
theorem Gr.jz{x:GV}(h:Gr w u G n x bad I C):x.gi≠G/\x.gc≠G:=by
 obtain⟨_,c1,b⟩:=AD h.iy;obtain⟨_,c2,c⟩:=AD h.cost;have a:=h.ie;unfold AA at a;constructor
 . intro e;rw[e,a]at b;cases b
 intro e;rw[e,a]at c;cases c
theorem Bn(h:Ab u B e k (sG g n c) n xs)(d:g≠b):Ab (Aa u ⟨b,i,M⟩ z) B e k (sG g n c) n xs:=lI h (a:=⟨b,i,M⟩) (λe=>d (by simpa[Value.ownBlock]using e)) z
theorem Gr.iC{x:GV}(h:Gr w u G n x bad I C):Gr w (Aa u ⟨G,8,M⟩ true) G n x true I C:={h with ie:=by have:=h.ie.set 8 true;simpa using this,iy:=Bn h.iy h.jz.1,cost:=Bn h.cost h.jz.2,ej:=h.ej.setCell h.lo _}
theorem Gr.other{x:GV}(h:Gr w u G n x bad I C)(f: ↑w<=g)(b:g≠G)(c:g≠x.gi)(d:g≠x.gc):Gr w (Aa u ⟨g,i,M⟩ z) G n x bad I C:={h with ie:=h.ie.other (a:=⟨g,i,M⟩) (λe=>b e.symm) _,iy:=Bn h.iy c.symm,cost:=Bn h.cost d.symm,ej:=h.ej.setCell f _}
theorem Gr.cells{x:GV}(h:Gr w u G n x bad I C):u ⟨G,2,M⟩=K (sO x.gb x.ob n x.cb)/\u ⟨G,3,M⟩=K (sO x.go x.oo n x.co)/\u ⟨G,6,M⟩=K (sG x.gi n x.ci)/\u ⟨G,7,M⟩=K (sG x.gc n x.cc)/\u ⟨G,8,M⟩=K ↑bad/\u.frozen? ⟨G,8,M⟩=false:=⟨by rw[h.ie.cell];rfl,by rw[h.ie.cell];rfl,by rw[h.ie.cell];rfl,by rw[h.ie.cell];rfl,by rw[h.ie.cell];rfl,h.ie.frozen 8⟩
theorem Gr.jc{x:GV}(h:Gr w u G n x bad I C)(c:b<n):∃y,I[b]?=K y/\y<n/\u ⟨x.gi,b,M⟩=K ↑(y:Int):=by
 have a:b<I.length:=by rw[h.il];exact c
 have:=ms h.iy b oM;rw[NQ (an a)]at this;exact⟨_,an a,h.ib _ (nG a),this⟩
theorem Di{y:Int}(h:C[b]?=K y):(Ad As C)[b]?=K ↑y:=by
 have:Ad As C=C.map (Ag Af):=by
  induction C generalizing b with
  |nil=>rfl
  | cons x r a=>
    have:List.flatMap As r=List.map (Ag Af) r:=by
     clear a h;induction r with
     |nil=>rfl
     |cons x r a=>rw[mF,a];rfl
    rw[mF,this];rfl
 rw[this,mE,h];rfl
theorem Gr.iT{x:GV}(h:Gr w u G n x bad I C)(c:b<n):∃y,C[b]?=K y/\EP y/\u ⟨x.gc,b,M⟩=K (iZ y):=by
 have a:b<C.length:=by rw[h.cl];exact c
 have:=ms h.cost b oM;rw[Di (an a)]at this;exact⟨_,an a,h.cb _ (nG a),this⟩
theorem GF.at_{x:GV}{E:Nat->List Nat}{O:List Nat}(h:GF w n x E O)(a:Ah w w u):(∀k,k<n->∃y:Nat,y<n/\u ⟨x.go,x.oo+k,M⟩=K ↑y)/\KP u x.gb x.ob n E:=⟨λk b=>⟨O[k]'(by rw[h.ol];exact b),h.ob _ (nG _),Au a (h.ord k _ (an _))⟩,h.gr.a7 a⟩
def Xm:J->Nat
 |.slice _ n _=>n
 |_=>0
def Jw(a:List Int)(n:Nat):List J:=(List.range n).map λ(i:Nat)=>Value.bool (a.contains (i:Int))
theorem Ff(a:List Int)(n:Nat):(Jw a n).length=n:=by simp[Jw]
theorem Gt(a:List Int)(n i:Nat)(h:i<n):(Jw a n)[i]?=K ↑(a.contains (i:Int)):=by simp[Jw,h]
theorem TR(n:Nat):List.replicate n (Value.bool false)=Jw [] n:=by
 apply nB;intro j;by_cases a:j<n
 . rw[Gt _ _ _ a];simp[a]
 rw[lW oT,lW (by rw[Ff];omega)]
theorem TS(b:List Int)(n i:Nat)(h:i<n):(Jw b n).set i true=Jw (b++[(i:Int)]) n:=by
 apply nB;intro j;by_cases a:j<n
 . rw[Gt _ _ _ a];by_cases e:j=i
   . subst e;rw[mi (by rw[Ff];exact h)];simp
   rw[mu oM,Gt _ _ _ a];have:¬(j:Int)=(i:Int):=oM;simp[this]
 rw[lW (by simp[Ff];omega),lW (by rw[Ff];omega)]
def K2(c:List Int)(b:List MI)(k:Nat):Bool:=(b.take k).all λx=> !decide (x.op=28)||c.contains x.a
theorem Mi(fs:List MF)(a:List Int)(i:Nat)(f:MF)(b:fs[i]?=K f):C7 fs a i=(!a.contains (i:Int)&&K2 a f.bO f.bO):=by
 unfold C7 K2 FY;rw[b,mC lR];congr 1
 simp only[List.all_map,List.all_filter,Function.comp_def]
theorem NR(c:List Int)(b:List MI)(k:Nat)(x:MI)(e:b[k]?=K x):K2 c b (k+1)=(K2 c b k&&(!decide (x.op=28)||c.contains x.a)):=by obtain⟨d,rfl⟩:=i8.1 e;unfold K2;rw[l8 d,List.all_append];simp
theorem Sn(b:List Int)(a:List MI)(k:Nat)(h:K2 b a k=false):K2 b a a=false:=by unfold K2 at*;rw[mC lR];rw[List.all_eq_false]at*;obtain⟨x,d,c⟩:=h;exact⟨x,List.mem_of_mem_take d,c⟩
theorem Sl(n:Nat):(madeCells (Value.bool false).cells (n*1)).toList=List.replicate n (An false):=by rw[Cc (λb:Bool=>[b]) [false] [] n false 1 rfl rfl oM];simp[BG,List.flatten_replicate_singleton]
structure CW(w u:Y)(v:VP)(n bd:Nat)(V:J)(zs:List Int):Prop where
 pb:En u w v.r v.k v.f v.t
 done:Ab u w 4 1 (Z bd n n) n (Jw zs n)
 o:Ab u ((w:Nat)+1) 2 1 V zs (Ad As zs)
 ej:Ah w w u
theorem CW.a7{b:Y}{c:List Int}(h:CW w u v n bd V c)(a:Ah u u b):CW w b v n bd V c:=⟨h.pb.a7 a,Aw h.done a lR,Aw h.o a lR,Ar h.ej lR a⟩
def Hh(v:J):Prop:=v=sN\/∃ad n c,v=Z (K ad) n c
theorem N4(x y:MT)(w:Y):
 Ai Ap 109 #[Am #[x.func,x.head,x.hQ,Ag .u32 x.init],Am #[y.func,y.head,y.hQ,Ag .u32 y.init]] w λe b=>AM e (Ku x y)/\Ah w w b:=by
 have a:Ae (Ah w w (Ac (Ac w (Ak #[x.func,x.head,x.hQ,Ag .u32 x.init] 96)) (Ak #[y.func,y.head,y.hQ,Ag .u32 y.init] 96))):=Ar (Aq _ _) lR (Aq _ _);go_enter func109,ntmps109;go_wp2;all_goals(go_ret;refine⟨AM.of ?_,by first|exact a.o|(rw[‹x.func=y.func›]at a;exact a)⟩;go_light;unfold Ku;simp_all<;>omega)
def SU(p:MP)(a:List Int):Prop:=(A6 p 0/\a=Cq p.aD)\/(¬A6 p 0/\a=[])
theorem Hp(h:A6 p 0):Bl p.aD/\CE p:=by
 rcases h with h|h|h|h|h|h
 . exact absurd h.1 dC
 . exact absurd h.1 dC
 . exact absurd h.1 dC
 . exact absurd h.1 dC
 . exact absurd h.1 dC
 exact⟨h.2.2.2.1,h.2.2.2.2.1⟩
def IE(fs:List MF)(a:List Int)(n j:Nat)(nxt:Int):Prop:=(nxt=-1/\∀k,j<=k->k<n->C7 fs a k=false)\/∃q:Nat,nxt=(q:Int)/\j<=q/\q<n/\C7 fs a q=true/\∀k,j<=k->k<q->C7 fs a k=false
theorem IE.iu(h:IE fs a n (b+1) nxt)(c:b<n)(d:C7 fs a b=true):IE fs a n b (b:Int):=.inr ⟨b,rfl,Nat.le_refl _,c,d, λk e f=>oM⟩
theorem IE.no(h:IE fs d n (b+1) nxt)(g:C7 fs d b=false):IE fs d n b nxt:=by
 rcases h with⟨a,f⟩|⟨q,a,f,i,j,l⟩
 . refine .inl ⟨a, λk m c=> ?_⟩;by_cases e:k=b
   . subst e;exact g
   exact f k oM c
 refine .inr ⟨q,a,oM,i,j, λk m c=> ?_⟩;by_cases e:k=b
 . subst e;exact g
 exact l k oM c
theorem Ex(b:Ah w w u){a:Addr}{x:J}(h:w a=K x):u a=K x:=by rw[b.cell (g8 h)];exact h
structure PG(w u:Y)(v:VP)(n bd:Nat)(V:J)(zs:List Int)(q:Nat):Prop where
 pb:En u w v.r v.k v.f v.t
 done:Ab u w 4 1 (sG bd n n) n (Jw (zs++[(q:Int)]) n)
 o:Ab u ((w:Nat)+1) 2 1 V zs (Ad As zs)
 ej:Ah w w u
 far: ↑w<bd
theorem VO(h:Ab w base e k (sG g n c) n xs):base<=g/\∃a,w.heap[g]?=K (Obj.cells a e (0,0)):=by
 rcases h.2 with⟨b,_⟩|⟨j,i,a,b,d,f,_⟩
 . cases b
 cases b
 exact⟨d,a,f⟩
theorem Sw{r f:Nat}{d:Aj}{t:List J}(h:Ab u B e k s n xs)(l:Ab u j d r (sG g f c) f t)(p:e≠d)(i:Nat)(z:J):Ab (Aa u ⟨g,i,M⟩ z) B e k s n xs:=by
 obtain⟨_,w,m⟩:=VO l;refine lI h (a:=⟨g,i,M⟩) (λq=> ?_) z;rcases h.2 with⟨rfl,_⟩|⟨y,v,x,rfl,_,b,_⟩
 . cases q
 simp only[Value.ownBlock,lH]at q;subst q;rw[m]at b;simp only[lH,nL]at b;exact p b.2.1.symm
theorem Su{f:Y}{d:Aj}{v:J}{x m:Nat}{i:List J}(h:Ab w base e k s n xs)(q:w.grownBy f v.ownBlock)(t:Ab w B d x v m i)(r:e≠d):Ab f base e k s n xs:=by
 refine⟨h.1,?_⟩;rcases h.2 with h|⟨g,cap,j,l,p,b,u⟩
 . exact .inl h
 refine .inr ⟨g,cap,j,l,p,?_,u⟩;rw[q.block g (lK.1 b).1 ?_]
 . exact b
 intro c;rcases t.2 with⟨rfl,_⟩|⟨A,y,z,rfl,_,a,_⟩
 . cases c
 simp only[Value.ownBlock,lH]at c;subst c;rw[b]at a;simp only[lH,nL]at a;exact r a.2.1
theorem NY(U:Y)(z:Int):∀j u,[(iZ z:J)][j]?=K u->(Ac U (Ak #[z] 2)) ((⟨U,0,M⟩:Addr).add j)=K u:= λj u a=>by rw[CQ,mQ,(AA.new U #[z] 2).cell j];simpa using a
theorem En.iI{x y t:J}(h:En u b x y z t)(d:b≠g):En (Aa u ⟨g,i,M⟩ V) b x y z t:=by
 have k:∀(j:Nat) (a:J),u ⟨b,j,M⟩=K a->(Aa u ⟨g,i,M⟩ V) ⟨b,j,M⟩=K a:= λj a c=>by have:=mS u ⟨g,i,M⟩ b V d;unfold World.cell? at*;rw[this];exact c
 exact⟨k 0 _ h.c0,k 1 _ h.c1,k 2 _ h.c2,k 3 _ h.c3⟩
theorem PG.of{q:Nat}(h:CW w u v n bd V a)(c:q<n)(b: ↑w<bd):PG w (Aa u ⟨bd,q,M⟩ true) v n bd V a q:=by refine⟨h.pb.iI oM,?_,Sw h.o h.done dC q _,h.ej.setCell oS _,b⟩;have:=(h.done.stored q true).1;rw[TS a n q c]at this;exact this
theorem PG.al{q:Nat}(h:PG w u v n bd V a q)(o:Obj):Ab (u.alloc o) ((w:Nat)+1) 2 1 V a (Ad As a)/\ ↑w+1<=(u.alloc o).heap.size:=⟨Aw h.o (Aq _ _) lR,lQ h.pb.lt (Aq _ _).size⟩
theorem PG.next{c:Y}{q:Nat}{V':J}(h:PG w u v n bd V d q)(r:Ab c ((w:Nat)+1) 2 1 V' (d.length+1) (Ad As d++[iZ (q:Int)]))(f:(Ac u (Ak #[iZ (q:Int)] 2)).grownBy c V.ownBlock):CW w c v n bd V' (d++[(q:Int)]):=by
 have b:=Aq u (Ak #[q] 2);have s:=Aw h.o b lR;refine⟨?_,Su (Aw h.done b lR) f s dC,?_,(Ar h.ej lR b).grown f (lQ h.ej.size b.size) (λi p=>by have:=(h.o.lt i p).1;omega)⟩
 . (have k:∀(j:Nat) (a:J),u ⟨w,j,M⟩=K a->c ⟨w,j,M⟩=K a:= λj a m=>by have g:=Au b m;have l:=f.block w (mT h.pb.lt b.size) (λe=>by have:=(h.o.lt _ e.symm).1;omega);unfold World.cell? at*;rw[l];exact g);exact⟨k 0 _ h.pb.c0,k 1 _ h.pb.c1,k 2 _ h.pb.c2,k 3 _ h.pb.c3⟩
 . rw[lG,lL,mH];exact r
theorem Nh (v :VP)(p:MP)(w:Y)(hs:p.small)(hw:p.wf)(h:Dm w v p):
 Ai Ap 18 #[Am #[v.r,v.k,v.f,v.t]] w λe w'=>∃V d,e=Al V/\Rd w' 1 V d.length (d.flatMap As)/\SU p d/\Ah w.heap.size w w':=by
 obtain⟨j0,S,bF,bG,bH⟩:=mN D8;obtain⟨k0,hk,bx,bB,bC⟩:=mN Br;have H:=Av (d5 hs (d5 hw h));have X:Ae (En (Ac (Ac w (Ak #[v.r,v.k,v.f,v.t] 37)) (Ak #[] 2)) w v.r v.k v.f v.t/\AA (Ac (Ac w (Ak #[v.r,v.k,v.f,v.t] 37)) (Ak #[] 2)) ((w:Nat)+1) #[] 2/\Ah w w (Ac (Ac w (Ak #[v.r,v.k,v.f,v.t] 37)) (Ak #[] 2))):=by refine⟨(En.new w _ _ _ _ _).alloc _,?_,Ar (Aq _ _) lR (Aq _ _)⟩;have:=AA.new (Ac w (Ak #[v.r,v.k,v.f,v.t] 37)) #[] 2;simpa using this
 go_enter func18,ntmps18;go_wp2_with fail;refine(Du v p _ H.o.1 H.o.2.1 (H.o.2.2.a7 X.o.2.2 lR)).mono ?_;rintro e u1 ⟨⟨nf,rfl,aS⟩,b1⟩;have s:=Av (d5 (X.o.1.a7 b1) (d5 (X.o.2.1.a7 b1) (Ar X.o.2.2 lR b1)));by_cases q0:nf=0
 . subst q0;have L:=Av aS;obtain⟨ys,bI,aT,bj⟩:=H.o.2.2.aD;obtain⟨D,C,vf,E⟩:=v;obtain⟨af,cf,ef⟩:∃a c,vf=Z a p.aD c:=aT.bW;subst ef;have bp:=(Hp L.o).1.2.1;have aR:=(Hp L.o).1.1;have N:=Av (d5 bI (d5 aT bj));generalize bf:p.aD.length=n at bp aR N s;have O:=Av bf;obtain⟨gf,of,rfl,aW⟩:∃gf of,af=K ⟨gf,of,M⟩/\Ae (∀j u,(Ad BR ys)[j]?=K u->w ⟨gf,of+j,M⟩=K u):=by
    rcases N.o.2.1.2 with⟨e0,_⟩|⟨gf,of,c',R,I⟩
    . exact absurd e0 aR
    simp only[lB,mB]at R;exact⟨gf,of,R.1,I⟩
   obtain⟨p0,p1,p2,p3⟩:=s.o.1;go_wp2_with (at_make;refine mm _ rfl _ _ 80 rfl w 4 j0 false 1 underlying80 S bF bG Af Af _ _ n rfl rfl rfl rfl (by rw[bH];omega) oX s.o.2.2.size ?_;intro w3 T ae;rw[Sl,TR]at T);(have aI:Ae (CW w w3 ⟨D,C,sO gf of n cf,E⟩ n u1 (Z (K ⟨(w:Nat)+1,0,M⟩) 0 0) []):=by have au:Ah u1 u1 w3:=(lu _ _).grown ae lR (λk hk=>by cases hk);exact⟨s.o.1.a7 au,T,⟨rfl,.inr ⟨(w:Nat)+1,0,#[],rfl,Nat.le_refl _,s.o.2.1.a7 au,Nat.le_refl _,nZ _,rfl,rfl⟩⟩,Ar s.o.2.2 lR au⟩);have aU:=Av s.o.1.lt;have aH:=Av aU.o;generalize u1.heap.size=bd at aI aH⊢;go_wp2;go_loopw [3] (λV wr=>∃d:List Int, ↑d<=n/\(∃a c,V=Z a d c)/\Ae (CW w wr ⟨D,C,sO gf of n cf,E⟩ n bd V d/\C6 p.aD (n-↑d) d=Cq p.aD)) (λV _=>n-Xm V)
   (case atStart=>exact⟨[],sP,⟨_,_,rfl⟩,⟨aI.o,by unfold Cq;rw[O.o];rfl⟩⟩);obtain⟨d,bZ,⟨aV,cV,rfl⟩,F⟩:=hrel;by_cases bS: ↑d<n
   . have bT :(d:Int)<(n:Int):=oM;go_wp2;go_loopw [6,7] (λnx i wr=>∃(j:Nat) (nxt:Int),j<=n/\nx=iZ nxt/\i=iZ ((j:Int)-1)/\Ae (IE p.aD d n j nxt/\CW w wr ⟨D,C,sO gf of n cf,E⟩ n bd (Z aV d cV) d)) (λ_ i _=>(intOf i+1).toNat)
     (case atStart=>exact⟨n,-1,Nat.le_refl _,rfl,rfl,⟨.inl ⟨rfl, λk h1 h2=>oM⟩,F.o.1⟩⟩);obtain⟨j,nxt,bP,rfl,rfl,l⟩:=hrel;cases j with
     | succ b =>
       rw[show(((b+1:Nat):Int)-1)=(b:Int)from oM];obtain⟨⟨f,z⟩,hy⟩:∃y,ys[b]?=K y:=⟨_,an (by have:=congrArg List.length N.o.1;rw[mD,O.o]at this;omega)⟩;have aP:=BF N.o.1 hy;have aG:=N.o.2.2 _ (lA hy);simp only[]at aG;obtain⟨zp,zl,zc⟩:=z;obtain⟨ac,cc,ec⟩:∃a c,zc=Z a f.bO c:=aG.2.2.bW;subst ec;have G:=Av (d5 aG (d5 (H.o.1.func f (lA aP)) aP));have bL:f.bO.length<=1048576:=G.o.2.1.2.2;have i3:=Rd.elem Az aW.o b _ hy 3 _ rfl;have aX:=Av i3;have Q:=l.o.2.done.cellAt b oM;rw[Gt _ _ _ oM]at Q;obtain⟨cb,aA⟩:∃cb,cb=d.contains (b:Int):=⟨_,rfl⟩;rw[<-aA]at Q;have aj:=Av aA;clear aA;have bJ:(b:Int)<(n:Int):=oM;go_wp2;go_loopw [8,9] (λr i wr=>∃(k:Nat) (rb:Bool),k<= ↑f.bO/\r=An rb/\i=iZ k/\Ae (rb=(!cb&&K2 d f.bO k)/\CW w wr ⟨D,C,sO gf of n cf,E⟩ n bd (Z aV d cV) d)) (λ_ i _=> ↑f.bO-(intOf i).toNat)
       (case atStart=>exact⟨0,!cb,oM,rfl,rfl,⟨by simp[K2],l.o.2⟩⟩);obtain⟨k,rb,bQ,rfl,rfl,g⟩:=hrel;obtain⟨p0,p1,p2,p3⟩:=g.o.2.pb;have i3:=Ex g.o.2.ej aX.o;by_cases aE:k< ↑f.bO
       . have bR:(k:Int)<(f.bO:Int):=oM;cases rb
         . have am:Ae (IE p.aD d n b nxt):=l.o.1.no (by
            rw[Mi p.aD d b f G.o.2.2,<-aj.o];have:=g.o.1;cases B:cb
            . rw[B]at this;rw[Sn d f.bO k (by simpa using this.symm)];rfl
            rfl)
           go_wp2;go_roundw;(case rel=>exact⟨b,nxt,oM,rfl,by go_num,⟨am.o,g.o.2⟩⟩);simp[intOf]
         . obtain⟨x,U⟩:∃x,f.bO[k]?=K x:=⟨_,an aE⟩;have aq:=Av U;have bi:=G.o.1.2.2.a7 g.o.2.ej lR;rcases bi.2 with⟨e0,_⟩|⟨gc,oc,c',R,I⟩
           . omega
           simp only[lB,mB]at R;obtain⟨rfl,rfl⟩:=R;have x0:=Rd.elem MI.dr I k _ U 0 _ rfl;have x1:=Rd.elem MI.dr I k _ U 1 _ rfl;have x2:=Rd.elem MI.dr I k _ U 2 _ rfl;have x3:=Rd.elem MI.dr I k _ U 3 _ rfl;rw[lJ]at x0;obtain⟨wo,bu⟩:∃W,W=wr:=⟨_,rfl⟩;subst bu;(go_upto_region 16 with fail);refine Ax (λu=>Ae (CW w u ⟨D,C,sO gf of n cf,E⟩ n bd (Z aV d cV) d/\AA u wo #[x.op,x.a,x.b,x.c] 79)) ⟨g.o.2.a7 (Aq _ _),AA.new _ _ _⟩ ?_
           intro U1 m;have a0:=m.o.2.cell 0;have a1:=m.o.2.cell 1;simp only[lE,lC,lF]at a0 a1;by_cases B:x.op=28
           . rw[B]at a0;have aQ:=UO (Hp L.o).2 G.o.2.2 (a:=x.a) (mG.2 ⟨x,nh.2 ⟨lA aq.o,by simpa using B⟩,rfl⟩);rw[O.o]at aQ;obtain⟨aa,aM⟩:∃aa:Nat,x.a=(aa:Int):=⟨x.a.toNat,oM⟩;rw[aM]at a1 aQ;have hd:=m.o.1.done.cellAt aa oM;rw[Gt _ _ _ oM]at hd;obtain⟨ca,aw⟩:∃ca,ca=d.contains (aa:Int):=⟨_,rfl⟩;rw[<-aw]at hd;(have A:Ae (ca=(!cb&&K2 d f.bO (k+1))):=by show _=_;rw[NR d f.bO k x aq.o,aM,<-aw,<-Bool.and_assoc,<-g.o.1];simp[B]);clear aw;go_wp2;go_roundw;(case rel=>exact⟨k+1,ca,oM,rfl,by go_num,⟨A.o,m.o.1⟩⟩);exact oI
           (have bK:(x.op != 28)=true:=by simpa using B);(have A:Ae (true=(!cb&&K2 d f.bO (k+1))):=by show _=_;rw[NR d f.bO k x aq.o,<-Bool.and_assoc,<-g.o.1];simp[B]);go_wp2;go_roundw;(case rel=>exact⟨k+1,true,oM,rfl,by go_num,⟨A.o,m.o.1⟩⟩);exact oI
       obtain rfl:k=f.bO.length:=oM;cases rb
       . have am:Ae (IE p.aD d n b nxt):=l.o.1.no (by rw[Mi p.aD d b f G.o.2.2,<-aj.o,<-g.o.1]);go_wp2;go_roundw;(case rel=>exact⟨b,nxt,oM,rfl,by go_num,⟨am.o,g.o.2⟩⟩);simp[intOf]
       have aZ:Ae (IE p.aD d n b (b:Int)):=l.o.1.iu oM (by rw[Mi p.aD d b f G.o.2.2,<-aj.o,<-g.o.1]);go_wp2;go_roundw;(case rel=>exact⟨b,(b:Int),oM,rfl,by go_num,⟨aZ.o,g.o.2⟩⟩);simp[intOf]
     | zero=>
       rw[show(((0:Nat):Int)-1)=-1 from rfl];rcases l.o.1 with⟨rfl,bq⟩|⟨q,rfl,_,aF,bt,br⟩
       . have P:Ae (Cq p.aD=[]):=by
          show _=_;rw[<-F.o.2,show n-↑d=(n-↑d-1)+1 from oM]
          simp only[C6];rw[KG (λj S=>bq j (nZ _) (by rw[<-O.o];exact S))]
         have ah:=Av l.o.2.ej;go_wp2;go_ret;exact⟨_,[],rfl,⟨rfl,.inl ⟨rfl,_,_,rfl⟩⟩,.inl ⟨L.o,P.o.symm⟩,Ar ah.o lR (Aq _ _)⟩
       . have P:Ae (C6 p.aD (n-(d++[(q:Int)]).length) (d++[(q:Int)])=Cq p.aD):=by
          show _=_;rw[<-F.o.2,show n-↑d=(n-↑d-1)+1 from oM]
          simp only[C6];rw[KH (by rw[O.o];exact aF) bt (λj S=>br j (nZ _) S),lG,lL,Nat.sub_add_eq]
         have Q:=l.o.2.done.cellAt q oM;rw[Gt _ _ _ aF]at Q;generalize d.contains (q:Int)=cq at Q;have d1:=l.o.2.done.frozenAt q;have aY:=Av (PG.of l.o.2 aF aH.o);have bY:(q:Int)<(n:Int):=oM;have bV:¬(q:Int)<0:=oM;(go_upto_region 22 with fail);refine Ax (λu=>Ae (PG w u ⟨D,C,sO gf of n cf,E⟩ n bd (Z aV d cV) d q)) aY ?_;intro U1 m;go_wp2_with (at_builtin;refine wpList_append_lies _ rfl _ _ 29 rfl ((w:Nat)+1) 2 k0 (iZ 0) 1 8 underlying29 hk bx bB bC rfl dC _ d (d.flatMap As) rfl (m.o.al (Ak #[iZ (q:Int)] 2)).1 U1 1 1 [iZ (q:Int)] rfl rfl (NY U1 (q:Int)) (λu hu=>by simp at hu;subst hu;rfl) oM oX oM (m.o.al (Ak #[iZ (q:Int)] 2)).2 _ rfl ?_;intro g3 aJ w3 T ae bg aE;have A:Ae (CW w w3 ⟨D,C,sO gf of n cf,E⟩ n bd (sG g3 (d.length+1) aJ) (d++[(q:Int)])):=m.o.next T ae;clear T ae bg aE);go_wp2;go_roundw;(case rel=>exact⟨d++[(q:Int)],by simp only[lG,lL];omega,⟨K g3,aJ,by rw[lG,lL]⟩,⟨A.o,P.o⟩⟩);simp only[Xm];omega
   have hz: ↑d=n:=oM
   (have P:Ae (d=Cq p.aD):=by have:=F.o.2;rw[hz,nM]at this;exact this);have ao:=Av (d5 (Rd.ij F.o.1.o) F.o.1.ej);rw[hz]at ao⊢;go_wp2;go_ret;refine⟨_,d,rfl,?_,.inl ⟨L.o,P.o⟩,ao.o.2⟩;rw[hz];exact ao.o.1
 have A:Ae (¬A6 p 0):= λe=>q0 (A6.one aS e)
 have ce:(nf != 0)=true:=by simpa using q0
 have ah:=Av s.o.2.2;go_wp2;go_ret;exact⟨_,[],rfl,⟨rfl,.inl ⟨rfl,_,_,rfl⟩⟩,.inr ⟨A.o,rfl⟩,ah.o⟩
def CC(D:DataW Unit)(b:List MI)(k:Nat):Prop:=∀z:Int,Go.Maps.has D (.int Af z)=(b.take k).any λx=>decide (x.op=28)&&decide (x.a=z)
theorem LO(D:DataW Unit)(a:Go.Maps.IsMap D)(z y:Int)(u:DataW Unit):Go.Maps.has (D.put (.int Af z) u) (.int Af y)=(Go.Maps.has D (.int Af y)||decide (z=y)):=by
 by_cases h:y=z
 . subst h;rw[Go.Maps.has_put_same a (show WideAt.IsKeyLit (Lit.int Af y)from trivial)];simp
 rw[Go.Maps.has_put_other (λe=>h (by cases e;rfl))];have:¬z=y:= λe=>h e.symm
 simp[this]
theorem CC.start(a:List MI):CC (.map []) a 0:= λz=>rfl
theorem CC.iu{b:List MI}{u:DataW Unit}(h:CC D b k)(c:Go.Maps.IsMap D)(f:b[k]?=K x)(d:x.op=28):CC (D.put (.int Af x.a) u) b (k+1):= λz=>by obtain⟨e,rfl⟩:=i8.1 f;rw[LO D c,h z,l8 e,List.any_append];simp[d]
theorem CC.no{a:List MI}(h:CC D a k)(d:a[k]?=K x)(b:¬x.op=28):CC D a (k+1):= λz=>by obtain⟨c,rfl⟩:=i8.1 d;rw[h z,l8 c,List.any_append];simp[b]
theorem YC(h:x.wf):Dv x.a:=h.2.1
theorem Xy{X:Nat}{a b c d:J}{t:Aj}(h:AA u X #[a,b,c,d] t):u X=K a/\u ⟨X,1,M⟩=K b/\u ⟨X,2,M⟩=K c/\u ⟨X,3,M⟩=K d:=⟨h.cell 0,h.cell 1,h.cell 2,h.cell 3⟩
theorem MS(s:J)(f:List MI)(w:Y)(hn:f.length<=1048576)(Q:∀x∈f,x.wf)(h:Rd w 4 s f.length (Ad MI.cells f)):
 Ai Ap 88 #[s] w λe T=>e=Al (.map (K w))/\(∃d D,d<= ↑f/\AP T w d D/\CC D f f)/\Ah w w T:=by
 have H:=Av (d5 h Q);obtain⟨a1,c1,rfl⟩:=h.bW;clear h Q;generalize N:f.length=n at hn H;have U:=Av N;clear N;have ao:= @run_makeMap Ap;have v:Ae (∃d D,d<=0/\AP (Ac w (.map #[] 0)) w d D/\CC D f 0/\Ah w w (Ac w (.map #[] 0))):=⟨0,.map [],Nat.le_refl _,World.ownsMap_made _ _ _ _,CC.start f,Aq _ _⟩
 go_enter func88,ntmps88;go_wp2;go_loopw [9] (λi wr=>∃k:Nat,k<=n/\i=iZ k/\Ae (∃d D,d<=k/\AP wr w d D/\CC D f k/\Ah w w wr)) (λi _=>n-(intOf i).toNat)
 case atStart=>exact⟨0,oM,rfl,v⟩
 clear v;obtain⟨k,hk,rfl,v⟩:=hrel;obtain⟨d,D,ae,B,P,O⟩:=v.o;have l:=Av (d5 P (d5 O (d5 B (nV B))));clear B P O v;by_cases ah:k<n
 . obtain⟨x,p⟩:∃x,f[k]?=K x:=⟨_,an (by rw[U];exact ah)⟩;have A:=Av (d5 p (H.2 x (lA p)));rcases H.1.2 with⟨e0,_⟩|⟨g,o,c,I,y⟩
   . omega
   simp only[lB,mB]at I;obtain⟨rfl,rfl⟩:=I;have C:=Rd.elem MI.dr y k _ p 0 _ rfl;have E:=Rd.elem MI.dr y k _ p 1 _ rfl;have F:=Rd.elem MI.dr y k _ p 2 _ rfl;have G:=Rd.elem MI.dr y k _ p 3 _ rfl;rw[<-l.2.1.cell (g8 C),lJ]at C;rw[<-l.2.1.cell (g8 E)]at E;rw[<-l.2.1.cell (g8 F)]at F;rw[<-l.2.1.cell (g8 G)]at G;clear y p;have am:(k:Int)<(n:Int):=oM;(go_upto_region 5 with fail);refine Ax (λu=>Ae (AP u w d D/\AA u wr #[iZ x.op,iZ x.a,iZ x.b,iZ x.c] 79/\Ah w w u)) ⟨l.2.2.1.a7 (Aq _ _),AA.new _ _ _,Ar l.2.1 lR (Aq _ _)⟩ ?_
   intro m r;clear C E F G;obtain⟨a0,V,W,X⟩:=Xy r.2.1;by_cases z:x.op=28
   . rw[z]at a0;have t:=Av (d5 ((AA.new m #[iZ x.a] 2).cell 0) (d5 ((r.1.a7 (Aq _ _)):AP (Ac m (Ak #[iZ x.a] 2)) w d D) (d5 ((Ar r.2.2 lR (Aq _ _)):Ah w w (Ac m (Ak #[iZ x.a] 2))) ((by have:=nj r.1;omega):¬(m:Nat)= ↑w))))
     go_wp2_with fail;refine(Db w d m 1 D x.a _ (YC A.2) oM t.1 t.2.2.2 t.2.1).mono ?_;rintro e S ⟨rfl,R,L⟩;have q:Ae (∃d D,d<=k+1/\AP S w d D/\CC D f (k+1)/\Ah w w S):=⟨_,_,oM,R,l.1.iu l.2.2.2 A.1 z,t.2.2.1.grown L t.2.2.1.size (λj hj=>by cases hj;exact Nat.le_refl _)⟩
     clear R L a0 V W X;go_wp2;go_roundw;(case rel=>exact⟨k+1,oM,by go_num,q⟩);exact oI
   (have aj:(x.op==28)=false:=by simpa using z);have q:Ae (∃d D,d<=k+1/\AP m w d D/\CC D f (k+1)/\Ah w w m):=⟨_,_,oM,r.1,l.1.no A.1 z,r.2.2⟩
   go_wp2;go_roundw;(case rel=>exact⟨k+1,oM,by go_num,q⟩);exact oI
 obtain rfl:k=n:=oM;have q:=Av (d5 ((⟨d,D,ae,l.2.2.1,l.1⟩):(∃d D,d<=k/\AP wr w d D/\CC D f k)) l.2.1)
 go_wp2;go_ret;exact⟨rfl,q.1,q.2⟩
end Go.Proofs.YtadcneiiokbofaaGreat
