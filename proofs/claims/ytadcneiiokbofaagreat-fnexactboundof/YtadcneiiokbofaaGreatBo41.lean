import Derived.Test.YtadcneiiokbofaaGreatBo39
namespace Go.Proofs.YtadcneiiokbofaaGreat
open Go.ChangeShapes Go.WideShapes Go.ChangeAt Go.RowKit Go.Proofs.Tryz
set_option linter.unusedVariables false
open Go.Value renaming slice → Z,agg → Am,int → Ag
open Option renaming some → K,none → M
open Go renaming Value → J,World → Y,Calls → Ai
open Go.RowKit renaming Hid → Ae,Below → Ah
open Go.Ending renaming returned → Al
open Go.Proofs.Tryz renaming prog → Ap
open Go.World renaming ownsRow → Ab,alloc → Ac
open List renaming flatMap → Ad
open Go.IntKind renaming i64 → Af
open Go.Obj renaming cells → Ak
set_option maxHeartbeats 8000000
set_option maxRecDepth 100000
theorem Qz(d:Nat)(h:Int)(x:FA)(a:Option Addr)(c:Nat)(b:List Int)(z:Int)(w:Y)(k:b.length<=1048576)(f:AA w d #[h,Z x.a x.n x.c,Z a b c] 92)(g:Rd w 1 (Z a b c) b (Ad As b)):
 Ai Ap 175 #[z,.pointer d] w λe l=>AM e (¬z∈b)/\l=w:=by
 obtain⟨m,p,r⟩:=B9 f;have H:=Av g;clear f g;go_enter func175,ntmps175;go_wp2_with fail;refine(Fd a c b z w k H).mono ?_;rintro e u ⟨⟨q,rfl,i⟩,rfl⟩;have j:=Av i;clear i;go_wp2;go_ret;exact⟨.of (by rw[<-j.o];cases q<;>simp),rfl⟩
theorem RZ(s:Option Addr)(D:Nat)(d:List Int)(l:Nat)(h:Int)(x:FA)(a:Option Addr)(c:Nat)(f:List Int)(w:Y)(Q:f.length<=1048576)(v:AA w l #[h,Z x.a x.n x.c,Z a f c] 92)(m:Rd w 1 (Z a f c) f (Ad As f))(U:d.length<=1048576)(B:Rd w 1 (Z s d D) d (Ad As d)):
 Ai Ap 192 #[Z s d D,.func (.func 175) #[] #[.pointer l]] w λe R=>(∃n:Int,e=Al n/\(0<=n↔∃z∈d,¬z∈f))/\R=w:=by
 have H:=Av (d5 v (d5 m B));clear v m B;go_enter func192,ntmps192;go_wp2;go_loopw [8] (λi wr=>∃k:Nat,k<= ↑d/\i=iZ k/\Ae (∀z∈d.take k,z∈f)/\wr=w) (λi _=> ↑d-(intOf i).toNat)
 case atStart=>exact⟨0,oM,rfl, λz j=>by simp at j,rfl⟩
 case round=>
 obtain⟨k,m,rfl,r,rfl⟩:=hrel;by_cases P:k< ↑d
 case pos=>
  have T:(k:Int)<(d:Int):=oM;obtain⟨z,j⟩:∃z,d[k]?=K z:=⟨_,an P⟩;obtain⟨g,o,I,S⟩:∃g o,s=K ⟨g,o,M⟩/\wr ⟨g,o+k,M⟩=K (iZ z):=by
   rcases H.2.2.2 with⟨q,_⟩|⟨g,o,c',u,O⟩
   . omega
   simp only[lB,mB]at u;exact⟨g,o,u.1,O k _ (Di j)⟩
  subst I;have t:=Av j;clear j;go_wp2_with fail;refine(Qz l h x a c f z wr Q H.1 H.2.1).mono ?_;rintro e V ⟨⟨b,rfl,A⟩,rfl⟩;have p:=Av A;clear A;cases b
  case true=>have G:Ae (∃z∈d,¬z∈f):=⟨z,lA t,p.1 rfl⟩;go_wp2;go_ret;exact⟨⟨(k:Int),rfl, λ_=>G.o, λ_=>oM⟩,rfl⟩
  case false=>
   have F:Ae (∀z∈d.take (k+1),z∈f):= λy C=>by
    rw[List.take_add_one,t]at C;rcases lT.1 C with q|q
    . exact r.o y q
    simp at q;subst q;exact mr λq=>by have:=p.2 q;cases this
   go_wp2;go_roundw;(case rel=>exact⟨k+1,oM,by go_num,F,by trivial⟩);exact oI
 have E:Ae (¬∃z∈d,¬z∈f):= λ⟨z,L,N⟩=>N (r.o z (by rw[mC (show ↑d<=k from oM)];exact L))
 go_wp2;go_ret;exact⟨⟨-1,rfl, λe=>absurd e dC, λe=>absurd e E.o⟩,rfl⟩
theorem RO(s:Option Addr)(g:Nat)(b:List Int)(f:Nat)(h:Int)(x:FA)(a:Option Addr)(c:Nat)(d:List Int)(w:Y)(q:d.length<=1048576)(i:AA w f #[h,Z x.a x.n x.c,Z a d c] 92)(k:Rd w 1 (Z a d c) d (Ad As d))(p:b.length<=1048576)(j:Rd w 1 (Z s b g) b (Ad As b)):
 Ai Ap 176 #[Z s b g,.func (.func 175) #[] #[.pointer f]] w λe r=>AM e (∃z∈b,¬z∈d)/\r=w:=by
 have H:=Av (RZ s g b f h x a c d w q i k p j);clear i k j;go_enter func176,ntmps176;go_wp2_with fail;refine H.mono ?_;rintro e t ⟨⟨n,rfl,l⟩,rfl⟩;have m:=Av l;clear l;go_wp2;go_ret;exact⟨.of (by simpa using m.o),rfl⟩
def RB(a:List MB)(c:List Int)(b:Nat):Prop:=∃m,a[b]?=K m/\∃t∈m.next,¬t∈c
theorem Qq(v:B2)(F:List (MB×J))(N:Nat)(h:Nat)(x:FA)(y:Option Addr)(A:Nat)(d:List Int)(w:Y)(E:JR w v F N)(ao:∀z∈F,Ux w z.2 z.1/\z.1.next.length<=1048576)(hn:d.length<=1024)(hk:Rd w 1 (Z y d A) d (Ad As d))(hz:∀z∈d,∃b:Nat,z=(b:Int)/\b< ↑F):
 Ai Ap 159 #[Am v.cells,Am #[h,Z x.a x.n x.c,Z y d A]] w λe w'=>∃(a:Option Addr) (c:Nat) (j:List Int),e=Al (Z a j c)/\Rd w' 1 (Z a j c) j (Ad As j)/\(∀z,z∈j↔z∈d/\RB (F.map Prod.fst) d z.toNat)/\j.length<=1024/\Ah w w w':=by
 obtain⟨k0,aG,aI,aJ,aM⟩:=mN Br;have H:=Av (d5 E (d5 ao (d5 hk hz)));have aR:F.length<=1024:=E.len;obtain⟨t,bc,eb⟩:=E.rd.bW;simp only[lB]at eb;have aw:=Av eb.2.1;clear E ao hk hz eb t bc;obtain⟨t,ae⟩:∃t,v.b.a=t:=⟨_,rfl⟩;have P:=Av ae;clear ae;have O:=Bu w v.cells #[h,Z x.a x.n x.c,Z y d A] 164 92;go_enter func159,ntmps159;go_upto_region 1 with fail
 refine Ax (λu=>Ae (AA u w v.cells 164/\AA u ((w:Nat)+1) #[h,Z x.a x.n x.c,Z y d A] 92/\Ah w w u)) O ?_
 rintro U r;clear O;obtain⟨l0,l1,l2⟩:=B9 r.2.1;go_wp2_with fail;clear l0 l1 l2;go_loopw [6,13] (λs i wr=>∃(k:Nat) (j:List Int),k<= ↑d/\i=iZ k/\Ae (Ab wr U 2 1 s j (Ad As j)/\(∀z,z∈j↔z∈d.take k/\RB (F.map Prod.fst) d z.toNat)/\ ↑j<=k/\Ah U U wr)) (λ_ i _=> ↑d-(intOf i).toNat)
 case atStart=>exact⟨0,[],oM,rfl,mI _ _ _ _, λz=>sP,sP,lu _ _⟩
 case round=>
 obtain⟨k,j,aQ,rfl,f⟩:=hrel;by_cases aj:k< ↑d
 case neg=>
  obtain⟨sa,sc,G⟩:=AF f.1;subst G;have HP:Ae (∀z,z∈j↔z∈d/\RB (F.map Prod.fst) d z.toNat):= λz=>by rw[f.2.1 z,mC (show ↑d<=k from oM)]
  go_wp2_with fail;go_ret;exact⟨sa,sc,j,rfl,Rd.ij f.1,HP,by have:=f.2.2.1;omega,Ar r.2.2 lR f.2.2.2⟩
 have aS:(k:Int)<(d:Int):=oM;have B:=Av (Ar r.2.2 lR f.2.2.2);obtain⟨b,W,hb⟩:=H.2.2.2 d[k] (nG aj);have L:d[k]?=K (b:Int):=by rw[an aj,W]
 obtain⟨kg,ko,aF,e0⟩:∃g o,y=K ⟨g,o,M⟩/\wr ⟨g,o+k,M⟩=K ↑b:=by
  rcases(Rd.a7 H.2.2.1 B lR).2 with⟨q,_⟩|⟨g,o,c',D,hc⟩
  . omega
  simp only[lB,mB]at D;exact⟨g,o,D.1,hc k _ (Di L)⟩
 subst aF;obtain⟨m,g,o,ma,me,nx,hm,T,en,i0,i1,i2,D,e2,aT,aU,X⟩:=(H.1.a7 B).at hb;obtain⟨I,am⟩:=H.2.1 _ (lA X);obtain⟨na,nc,V⟩:=Rd.bW I;simp only[]at V am;subst V;obtain rfl:t=K ⟨g,o,M⟩:=by rw[<-P];exact T
 have C:=Av (d5 L (d5 hm (Rd.a7 I B lR)));have aP:(b:Int)<(F:Int):=oM;obtain⟨sa,sc,G⟩:=AF f.1;subst G;have au:=(r.1.a7 f.2.2.2).cell 11;simp only[B2.cells]at au;simp only[aw.o,P.o]at au;have aE:=Av (r.2.1.a7 f.2.2.2);have aA:=Av (Rd.a7 H.2.2.1 B lR);clear L hm I X W D e2 T en i0 i1;go_wp2_with fail;refine(RO na nc m.next ((w:Nat)+1) (h:Int) x (K ⟨kg,ko,M⟩) A d wr oM aE aA am C.2.2).mono ?_;rintro e u1 ⟨⟨q,rfl,hq⟩,rfl⟩;have R:Ae (q=true↔RB (F.map Prod.fst) d b):=hq.trans ⟨λh=>⟨m,C.2.1,h⟩, λ⟨m',l,p⟩=>by
  rw[C.2.1]at l;cases l
  exact p⟩
 clear hq;have Q:Ae (∀z,z∈d.take (k+1)↔z∈d.take k\/z=(b:Int)):= λz=>by rw[List.take_add_one,C.1,lT];simp
 cases q
 case true=>
  have aW:=f.2.2.1;go_wp2_with (at_builtin;refine wpList_append_own _ rfl _ _ 29 rfl U 2 k0 (iZ 0) 1 8 underlying29 aG aI aJ aM rfl dC _ j (Ad As j) rfl (f.1.alloc _) u1 1 1 [b] rfl rfl (Go.cell_one_new _ _ _) (λu hu=>by simp at hu;subst hu;rfl) oX oM (by have:=f.2.2.2.size;simp;omega) ?_;intro v' w3 aq ah aH);have S:Ae (Ab w3 U 2 1 v' (j++[(b:Int)]).length (Ad As (j++[(b:Int)]))/\Ah U U w3):=by have o1:=f.1;refine⟨?_,(f.2.2.2.alloc f.2.2.2.size _).grown ah (by have:=f.2.2.2.size;simp;omega) (λi hi=>(o1.lt i hi).1)⟩;rw[mH,lG];exact aq
  clear aq ah aH;go_roundw;case rel=>
   refine⟨k+1,j++[(b:Int)],oM,by go_num,S.1, λz=> ?_,by rw[lG];simp;omega,S.2⟩;rw[lT,f.2.1 z,Q.o z];simp only[lw,mK,nJ];constructor
   . rintro(⟨l,p⟩|rfl)
     . exact⟨.inl l,p⟩
     exact⟨.inr rfl,R.1 (by trivial)⟩
   rintro⟨l|l,p⟩
   . exact .inl ⟨l,p⟩
   exact .inr l
  case measure=>exact oI
 case false=>
  go_wp2_with fail;go_roundw;case rel=>
   refine⟨k+1,j,oM,by go_num,f.1, λz=> ?_,by have:=f.2.2.1;omega,f.2.2.2⟩;rw[f.2.1 z,Q.o z];constructor
   . rintro⟨l,p⟩;exact⟨.inl l,p⟩
   rintro⟨l|l,p⟩
   . exact⟨l,p⟩
   subst l;have:=R.2 p;cases this
  case measure=>exact oI
def KR(x y:Int):Int:=if x<y then -1 else if y<x then 1 else 0
theorem Tb(x:Int)(w:Y):Ai Ap 170 #[x] w λe a=>e=Al false/\a=w:=by go_enter func170,ntmps170;go_wp2;go_ret;exact⟨rfl,rfl⟩
theorem TN(x y:Int)(w:Y):Ai Ap 154 #[x,y] w λe h=>e=Al (KR x y)/\h=w:=by
 have b:=Av (Tb x);have c:=Av (Tb y);unfold KR;by_cases d:x<y
 . rw[lZ d];go_enter func154,ntmps154;go_wp2_with fail;refine(b.o w).mono ?_;rintro e u ⟨rfl,rfl⟩;go_wp2_with fail;refine(c.o u).mono ?_;rintro e f ⟨rfl,rfl⟩;go_wp2_with fail;go_ret;exact⟨rfl,rfl⟩
 rw[lS d];by_cases a:y<x
 . rw[lZ a];have g:x>y:=a;go_enter func154,ntmps154;go_wp2_with fail;refine(b.o w).mono ?_;rintro e u ⟨rfl,rfl⟩;go_wp2_with fail;refine(c.o u).mono ?_;rintro e f ⟨rfl,rfl⟩;go_wp2_with fail;go_ret;exact⟨rfl,rfl⟩
 rw[lS a];have g:¬x>y:=a;go_enter func154,ntmps154;go_wp2_with fail;refine(b.o w).mono ?_;rintro e u ⟨rfl,rfl⟩;go_wp2_with fail;refine(c.o u).mono ?_;rintro e f ⟨rfl,rfl⟩;go_wp2_with fail;go_ret;exact⟨rfl,rfl⟩
theorem Tc(x:Int)(w:Y):Ai Ap 171 #[x] w λe a=>e=Al false/\a=w:=by go_enter func171,ntmps171;go_wp2;go_ret;exact⟨rfl,rfl⟩
theorem TO(x y:Int)(w:Y):Ai Ap 155 #[x,y] w λe h=>e=Al (KR x y)/\h=w:=by
 have b:=Av (Tc x);have c:=Av (Tc y);unfold KR;by_cases d:x<y
 . rw[lZ d];go_enter func155,ntmps155;go_wp2_with fail;refine(b.o w).mono ?_;rintro e u ⟨rfl,rfl⟩;go_wp2_with fail;refine(c.o u).mono ?_;rintro e f ⟨rfl,rfl⟩;go_wp2_with fail;go_ret;exact⟨rfl,rfl⟩
 rw[lS d];by_cases a:y<x
 . rw[lZ a];have g:x>y:=a;go_enter func155,ntmps155;go_wp2_with fail;refine(b.o w).mono ?_;rintro e u ⟨rfl,rfl⟩;go_wp2_with fail;refine(c.o u).mono ?_;rintro e f ⟨rfl,rfl⟩;go_wp2_with fail;go_ret;exact⟨rfl,rfl⟩
 rw[lS a];have g:¬x>y:=a;go_enter func155,ntmps155;go_wp2_with fail;refine(b.o w).mono ?_;rintro e u ⟨rfl,rfl⟩;go_wp2_with fail;refine(c.o u).mono ?_;rintro e f ⟨rfl,rfl⟩;go_wp2_with fail;go_ret;exact⟨rfl,rfl⟩
theorem Yo(g:Nat)(a b r:Int)(w:Y)(n:w g=K ↑a)(p:w ⟨g,1,M⟩=K ↑b)(k:r=if a=0 then b else a):
 Ai Ap 153 #[Z g 2 2] w λe q=>e=Al r/\q=w:=by
 have f:=Av k;clear k;go_enter func153,ntmps153;go_wp2_with fail;go_loopw [8] (λi wr=>wr=w/\(i=Ag Af 0\/i=Ag Af 1/\a=0\/i=Ag Af 2/\a=0/\b=0)) (λi _=>2-(intOf i).toNat)
 case atStart=>exact⟨rfl,.inl rfl⟩
 obtain⟨rfl,rfl|⟨rfl,c⟩|⟨rfl,c,j⟩⟩:=hrel
 . by_cases e:a=0
   . have h:=Av e;rw[e]at n;clear e;go_wp2_with fail;go_roundw;(case rel=>exact⟨by trivial,.inr (.inl ⟨by trivial,h⟩)⟩);simp[intOf]
   (have m:(a==0)=false:=by simpa using e);(have d:r=a:=by rw[f,lS e]);subst d;go_wp2_with fail;go_ret;exact⟨rfl,rfl⟩
 . have h:=Av c;by_cases e:b=0
   . have l:=Av e;rw[e]at p;clear e c;go_wp2_with fail;go_roundw;(case rel=>exact⟨by trivial,.inr (.inr ⟨by trivial,h,l⟩)⟩);simp[intOf]
   (have m:(b==0)=false:=by simpa using e);(have d:r=b:=by rw[f,lZ c]);clear c;subst d;go_wp2_with fail;go_ret;exact⟨rfl,rfl⟩
 have d:r=0:=by rw[f,lZ c,j]
 clear c j f;subst d;go_wp2_with fail;go_ret;exact⟨rfl,rfl⟩
theorem X7(x y:LV):(if KR (x.yn:Int) (y.yn:Int)=0 then KR x.h y.h else KR (x.yn:Int) (y.yn:Int))=LV.cmp x y:=by
 unfold LV.cmp KR;by_cases a:x.yn<y.yn
 . have:(x.yn:Int)<(y.yn:Int):=oM;simp[a,this]
 have:¬(x.yn:Int)<(y.yn:Int):=oM;by_cases b:y.yn<x.yn
 . have:(y.yn:Int)<(x.yn:Int):=oM;simp[a,b]
 have:¬(y.yn:Int)<(x.yn:Int):=oM;simp[a,b]
theorem QP(x y:LV)(W:Y):Ai Ap 152 #[Am x.enc.toArray,Am y.enc.toArray] W λe a=>e=Al (LV.cmp x y)/\∃q H,a=Go.Sort.grow (W.drewN q) H:=by
 have p:=X7 x y;obtain⟨c,r,z,t,j,f,l⟩:=x;obtain⟨d,s,C,v,k,g,m⟩:=y;have L:Ae (∀w,Ai Ap 154 #[f,g] w λe a=>e=Al (KR (f:Int) (g:Int))/\a=w):= λw=>TN _ _ w
 have N:Ae (∀w,Ai Ap 155 #[c,d] w λe a=>e=Al (KR c d)/\a=w):= λw=>TO _ _ w
 simp only[]at p;generalize KR (f:Int) (g:Int)=c1 at L p;generalize KR c d=c2 at N p;generalize LV.cmp ⟨c,r,z,t,j,f,l⟩ ⟨d,s,C,v,k,g,m⟩=V at p⊢;have Q:=Av p.symm;clear p;simp only[LV.enc];have F:=Bu W #[c,Z r z t,Z j f l] #[d,Z s C v,Z k g m] 92 92;have I:Ae (∃os,Ac (Ac W (Ak #[c,Z r z t,Z j f l] 92)) (Ak #[d,Z s C v,Z k g m] 92)=Go.Sort.grow W os):=⟨_,by rw[Go.Sort.alloc_eq_grow,Go.Sort.alloc_eq_grow,Go.Sort.grow_grow]⟩;go_enter func152,ntmps152;go_upto_region 1 with fail
 refine Ax (λu=>Ae ((AA u W #[c,Z r z t,Z j f l] 92/\AA u ((W:Nat)+1) #[d,Z s C v,Z k g m] 92)/\∃os,u=Go.Sort.grow W os)) ⟨⟨F.1,F.2.1⟩,I⟩ ?_
 rintro U E;clear F I;have D:Ae (AA U.drew W #[c,Z r z t,Z j f l] 92/\AA U.drew ((W:Nat)+1) #[d,Z s C v,Z k g m] 92):=⟨E.1.1.a7 (At _),E.1.2.a7 (At _)⟩
 have O:Ae (∃os,U.drew=Go.Sort.grow (W.drewN 1) os):=by obtain⟨os,e⟩:=E.2;exact⟨os,by rw[e];rfl⟩
 clear E;have G:∀a,AA a W #[c,Z r z t,Z j f l] 92->AA a ((W:Nat)+1) #[d,Z s C v,Z k g m] 92->a.cell? W=K ↑c/\a.cell? ⟨W,2,M⟩=K (Z j f l)/\a.cell? ⟨(W:Nat)+1,0,M⟩=K ↑d/\a.cell? ⟨(W:Nat)+1,2,M⟩=K (Z k g m):= λa A B=>⟨A.cell 0,A.cell 2,B.cell 0,B.cell 2⟩
 refine wp_region_held_drew (S:= λa=>a.cell? W=K ↑c/\a.cell? ⟨W,2,M⟩=K (Z j f l)/\a.cell? ⟨(W:Nat)+1,0,M⟩=K ↑d/\a.cell? ⟨(W:Nat)+1,2,M⟩=K (Z k g m)) kR (G _ D.1 D.2) (λi=> ?_)
 generalize U.drew=T at D O i⊢;refine AH 0 ?_;refine AH 1 ?_;refine AH 2 ?_;refine AH 3 ?_;refine AH 4 ?_;refine AH 5 ?_;refine AH 7 ?_;refine AH 8 ?_;refine AH 9 ?_ (hw:=kR);refine AH 10 ?_ (hw:=kR);refine CX 6 ?_;intro n b;rw[lZ kR];go_simp;refine(L.o T).mono ?_;rintro e X ⟨rfl,rfl⟩;go_simp;refine b.o _ _ i (λi=> ?_);clear b n;refine CX 11 ?_;intro n b;rw[lZ kR];go_simp;refine(N.o X).mono ?_;rintro e P ⟨rfl,rfl⟩;go_simp;refine b.o _ _ i (λi=> ?_);clear b n;refine CX 12 ?_;intro n b;rw[lZ kR];go_simp;refine b.o _ _ (G _ (D.1.a7 (Aq _ _)) (D.2.a7 (Aq _ _))) (λi=> ?_);clear b n;refine CX 13 ?_;intro n b;rw[lZ kR];go_simp;refine(Yo P c1 c2 V _ ((AA.new _ _ _).cell 0) ((AA.new _ _ _).cell 1) Q).mono ?_;rintro e u5 ⟨rfl,rfl⟩;go_simp;refine b.o _ _ i (λi=> ?_);clear b n;refine AH 14 ?_ (hw:=kR);refine wpAnyH_done kR ?_ _;clear i G;have R:Ae (∃q H,Ac P (Ak #[c1,c2] 3)=Go.Sort.grow (W.drewN q) H):=by obtain⟨os,e⟩:=O.o;exact⟨1,_,by rw[e,Go.Sort.alloc_eq_grow,Go.Sort.grow_grow]⟩
 go_wp2;go_ret;exact⟨rfl,R⟩
structure Xs(w u:Y)(v:B2)(y:RC)(sv:J):Prop where
 body:AA u w v.cells 164
 ty:AA u ((w:Nat)+1) #[y.bO,y.at_,y.depth,sv] 87
 ej:Ah w w u
theorem Xs.a7{w u c:Y}{v:B2}{y:RC}{b:J}(h:Xs w u v y b)(a:Ah u u c):Xs w c v y b:=⟨h.body.a7 a,h.ty.a7 a,Ar h.ej lR a⟩
theorem TQ(v:B2)(p:MP)(q:Nat)(f:MF)(y:RC)(s da:Option Addr)(l dc B:Nat)(D:List Int)(w:Y)(bC:p.aD.length<=1048576)(aQ:A6 p 0)(hf:p.aD[q]?=K f)(aR:JU w (Z v.f.a v.f.n v.f.c) p.aD)(N:Rd w 4 (Z v.c.a v.c.n v.c.c) f.bO (Ad MI.cells f.bO))(bq:f.bO.length<=1024)(hy:Pr w (Z s y.ia l) y.ia)(aW:y.ia.length= ↑f.bO)(hd:Rd w 1 (Z da B dc) B (Ad As D))(aM: ↑D=B)(aP:B= ↑p.aD):
 Ai Ap 96 #[Am v.cells,Am #[y.bO,y.at_,y.depth,Z s y.ia l],Z da B dc] w λe w'=>e=Al (Hm p f y D)/\Ah w w w':=by
 have C:=Bu w v.cells #[y.bO,y.at_,y.depth,Z s y.ia l] 164 87;obtain⟨_,_,ao⟩:=N.bW;simp only[lB]at ao;have bj:y.ia.length<=1024:=oM;have H:=Av (d5 aQ (d5 aR (d5 hf (d5 hy (d5 hd N)))));have A:=Av (d5 aW (d5 aM (d5 aP ao.2.1)));obtain⟨ca,aJ⟩:∃ca,v.c.a=ca:=⟨_,rfl⟩;have aG:=Av aJ;clear aQ aR hf hy hd N aW aM aP ao aJ;obtain⟨k,aq⟩:∃k,y.ia.length=k:=⟨_,rfl⟩;have aY:=Av aq;rw[aq]at C⊢bj;clear aq;go_enter func96,ntmps96;go_upto_region 1 with fail
 refine Ax (λu=>Ae (Xs w u v y (Z s k l))) ⟨C.1,C.2.1,C.2.2⟩ ?_;rintro U V;clear C;have z2:=(A7 V.ty).2.2.1;have p7:=V.body.cell 7;simp only[B2.cells]at p7;simp only[A.2.2.2,aG.o]at p7;go_wp2_with fail;clear z2 p7;go_loopw [7,18] (λm i wr=>∃(m0:Int) (j:Nat),m=iZ m0/\i=iZ j/\j<=f.bO.length/\Ae (m0=ES p f.bO y.ia D y.depth j)/\Ae (Xs w wr v y (Z s k l))) (λ_ i _=>f.bO.length-(intOf i).toNat)
 case atStart=>exact⟨y.depth,0,rfl,rfl,oM,rfl,V⟩
 case round=>
 clear V;obtain⟨P,j,rfl,rfl,hj,E,E1⟩:=hrel;by_cases aS:j<f.bO.length;case neg=>obtain rfl:j=f.bO.length:=oM;have am:P=Hm p f y D:=E.o;clear E;subst am;go_wp2_with fail;go_ret;exact⟨rfl,E1.ej⟩
 have bx:(j:Int)<(f.bO.length:Int):=oM;obtain⟨x,hx⟩:∃x,f.bO[j]?=K x:=⟨_,an aS⟩;obtain⟨gi,oi,ci,ei,x0,x1,x2,x3⟩:=NC (H.2.2.2.2.2.a7 E1.ej lR) hx;simp only[lB]at ei;obtain rfl:ca=K ⟨gi,oi,M⟩:=by rw[<-aG];exact ei.1
 have bf:Ae (x.op=28->∃(c:Nat) (fq:MF),x.a=c/\p.aD[c]?=K fq):= λe=>(H.1.iY H.2.2.1 hx).callee e
 have HX:=Av hx;clear ei hx;go_upto_region 5 with fail
 have E4:Ae (Xs w (Ac wr (Ak #[iZ x.op,iZ x.a,iZ x.b,iZ x.c] 79)) v y (Z s k l)/\AA (Ac wr (Ak #[iZ x.op,iZ x.a,iZ x.b,iZ x.c] 79)) wr.heap.size #[iZ x.op,iZ x.a,iZ x.b,iZ x.c] 79):=⟨E1.a7 (Aq _ _),AA.new _ _ _⟩
 refine Ax (λu=>Ae (Xs w u v y (Z s k l)/\AA u wr.heap.size #[iZ x.op,iZ x.a,iZ x.b,iZ x.c] 79)) E4 ?_
 rintro U4 t;clear E4 x0 x1 x2 x3;generalize wr.heap.size=X at t⊢;have i0:=(A7 t.2).1;by_cases O:x.op=28;case neg=>
  have am:Ae (P=ES p f.bO y.ia D y.depth (j+1)):=by (have e:ES p f.bO y.ia D y.depth (j+1)=ES p f.bO y.ia D y.depth j:=by simp only[ES,HX.o,lS O]);exact E.trans e.symm
  have bB:(x.op==28)=false:=by simpa using O
  go_wp2_with fail;go_roundw;case rel=>exact⟨P,j+1,rfl,by go_num,oM,am,t.1⟩
  exact oI
 rw[O]at i0;obtain⟨d,fq,aF,aj⟩:=bf.o O;have aZ:=Av aF;have bu:=(i8.1 aj).1;obtain⟨gk,ok,ck,ah,g,aT,n0,_,_,_⟩:=Hr H.2.1 aj;simp only[lB]at ah;obtain⟨h1,h3,h4,h6,h7,h9,rfl⟩:=Ec aT;simp only[]at n0;have aH:=Av (d5 ah.1 ah.2.1);obtain⟨I,os,a1,sr,c1,es,aU,aA⟩:=Wd H.2.2.2.1 (show j<y.ia.length by rw[A.1];exact aS);subst es;obtain⟨T,aE⟩:∃T,sr.length=T:=⟨_,rfl⟩;rw[aE]at aA;obtain⟨R,aw⟩:∃R,fq.gU.length=R:=⟨_,rfl⟩;rw[aw]at n0;obtain⟨ae,au⟩:∃z,D[d]?=K z:=⟨_,an (by have:=A.2;omega)⟩;obtain⟨G,Q,ea,kz⟩:∃G Q,da=K ⟨G,Q,M⟩/\w.cell? ⟨G,Q+d,M⟩=K (iZ ae):=by
  rcases H.2.2.2.2.1.2 with⟨e0,_⟩|⟨g1,o1,bp,e1,N⟩
  . have:=A.2.2.1;omega
  simp only[lB,mB]at e1;exact⟨g1,o1,e1.1,N d _ (Di au)⟩
 subst ea;obtain⟨d1,bg⟩:∃d1,IntKind.i64.wrap ((T:Int)-(R:Int))=d1:=⟨_,rfl⟩;obtain⟨F,bi⟩:∃F,IntKind.i64.wrap (d1+ae)=F:=⟨_,rfl⟩;have aX:Ae (ES p f.bO y.ia D y.depth (j+1)=max P F):=by
  have e1:P6 p y.ia D j x=F:=by unfold P6;rw[aU,aF,lD,aj,Ed au];simp only[ov,aE,aw];rw[bg,bi]
  have e:ES p f.bO y.ia D y.depth (j+1)=max (ES p f.bO y.ia D y.depth j) (P6 p y.ia D j x):=by simp only[ES,HX.o,lZ O]
  rw[<-E,e1]at e;exact e
 have bt:(d:Int)<(p.aD.length:Int):=oM;have br:(d:Int)<(B:Int):=by have:=A.2.2.1;omega
 have bF:(j:Int)<(k:Int):=by have:=A.1;have:=aY.o;omega
 have HS:Ae (∀W:Y,Xs w W v y (sO I os k l)->AA W X #[x.op,x.a,x.b,x.c] 79->W ⟨(w:Nat)+1,3,M⟩=K (sO I os k l)/\W ⟨I,os+j,M⟩=K (Z a1 T c1)/\W ⟨w,2,M⟩=K (sO gk ok p.aD v.f.c)/\W ⟨X,1,M⟩=K ↑d/\W ⟨gk,ok+d*4,M⟩=K (Z h1 R h3)/\W ⟨G,Q+d,M⟩=K ↑ae):= λW L hB=>by
  refine⟨(A7 L.ty).2.2.2,Au L.ej aA,?_,?_,Au L.ej n0,Au L.ej kz⟩
  . have:=L.body.cell 2;simp only[B2.cells]at this;simp only[aH.1,aH.2]at this;exact this
  have:=(A7 hB).2.1;rw[aZ]at this;exact this
 clear aU aE aw au aj aT aF ah n0 aA kz E;go_upto_region 6 with fail
 have r:=Av (d5 (t.1.a7 (At _)) (t.2.a7 (At _)));refine wp_region_held_drew (S:= λW=>W ⟨(w:Nat)+1,3,M⟩=K (sO I os k l)/\W ⟨I,os+j,M⟩=K (Z a1 T c1)/\W ⟨w,2,M⟩=K (sO gk ok p.aD v.f.c)/\W ⟨X,1,M⟩=K ↑d/\W ⟨gk,ok+d*4,M⟩=K (Z h1 R h3)/\W ⟨G,Q+d,M⟩=K ↑ae) kR (HS.o _ r.1 r.2) (λaI=> ?_)
 clear t i0;generalize U4.drew=UD at r aI⊢;refine AH 0 ?_;refine AH 1 ?_;refine AH 2 ?_;refine AH 3 ?_;refine AH 4 ?_;refine AH 5 ?_;refine AH 6 ?_;refine AH 7 ?_;refine AH 8 ?_;refine AH 9 ?_;refine AH 10 ?_;refine AH 11 ?_;refine AH 12 ?_;refine AH 13 ?_;refine AH 14 ?_;refine AH 15 ?_;refine AH 16 ?_;refine AH 17 ?_;refine wpAnyH_done kR ?_ _;go_simp;have ha:=(HS.o _ r.1 r.2).2.2.2.1;have hb:=(HS.o _ r.1 r.2).2.2.2.2.2;clear aI;go_wp2_with fail;go_roundw;case rel=>exact⟨max P F,j+1,rfl,by go_num,oM,aX.symm,r.1⟩
 exact oI
end Go.Proofs.YtadcneiiokbofaaGreat
