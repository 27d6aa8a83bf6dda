import Derived.Test.YtmalfecapdmdbaaGreatHo32
import Derived.Test.YtmalfecapdmdbaaGreatHo40
namespace Go.Proofs.YtmalfecapdmdbaaGreat
open Go.ChangeShapes Go.WideShapes Go.ChangeAt Go.RowKit Go.Proofs.Tryz
set_option linter.unusedVariables false
open Option renaming some → K,none → M
open Go renaming Value → J,World → Y,Calls → Ai,TypeId → Aj
open Go.IntKind renaming i64 → Af
open Go.Value renaming int → Ag,slice → Z,bool → An,agg → Am,tuple → Ao
open Go.RowKit renaming Below → Ah,Hid → Ae
open List renaming flatMap → Ad
open Go.Ending renaming returned → Al
open Go.Proofs.Tryz renaming prog → Ap
open Go.Obj renaming cells → Ak
open Go.World renaming alloc → Ac,setCell → Aa,ownsRow → Ab
set_option maxHeartbeats 8000000
set_option maxRecDepth 100000
variable {a c d g t:Int}{b q:Nat}{s:J}{f:MF}{α:Type}{y:Me}{rs:List (List Int)}
structure Gd(r:DC)(E:Nat->List Nat)(n:Nat)(O:List Nat)(D L:Nat->Nat->Bool):Prop where
 eE:E=nx r.a8
 nn:n= ↑r.a8
 fl:GQ E n (Dp O) D
 ord:r.gJ=ints O.reverse
 oa:∀b,b<n->∃j:Nat,O.reverse[j]?=K b
 il:∀h y,L h y=true↔AR E D n h y
 gE:r.gE=Bt E D L n n
 nd:O.Nodup
 om:∀x,x∈O↔x<n
def KI(E:Nat->List Nat)(D L:Nat->Nat->Bool)(n h:Nat):ML:=⟨(h:Int),ints (AH E D n h),ints ((List.range n).filter (L h))⟩
theorem Bg.gd{xs:List MI}{r:DC}(h:Bg xs r)(a:r.eC=0):∃O D L,Gd r (nx r.a8) r.a8 O D L:=by
 cases h with
 |none _=>cases a
 |off _ _ _=>cases a
 |lost _ _ _ _ _ _ _ _=>cases a
 |two _ _ _ _ _ _ _ _=>cases a
 | @good x S O D L I g x1 o1 v1 s1 d1 b1 i1 l1=>
   obtain⟨d,l,_,i,_⟩:=Es (Hz g) (PG g) v1 s1;refine⟨O,D,L,rfl,rfl,⟨d,d1, λb f t n k=> ?_, λy p=> ?_⟩,rfl, λb f=> ?_,l1,rfl,l,i⟩
   . by_cases e:D t b=true
     . exact(d1 t b).1 e
     exact absurd ⟨k,e⟩ (b1 b f t n)
   . (suffices ∀m y,Dp O y<=m->y<(AM xs).length->DR (nx (AM xs)) (λ_=>True) 0 y from this _ y lR p);intro m;induction m with
     | zero=>
       intro y j c;by_cases e:y=0
       . subst e;exact .here trivial
       have:=d.gH y c e;omega
     | succ m s=>
       intro y j c;by_cases e:y=0
       . subst e;exact .here trivial
       obtain⟨q,u,v,w⟩:=d.par y c e;exact .step (s q oM u) v trivial
   exact⟨_,IP ((i b).2 f)⟩
section
variable {r:DC} {E:Nat->List Nat} {n:Nat} {O:List Nat} {D L:Nat->Nat->Bool} {sl:List ML} {k h:Nat} {l:ML}
theorem Gd.mem(g:Gd r E n O D L):l∈r.gE↔∃h,h<n/\AH E D n h≠[]/\l=KI E D L n h:=by
 rw[g.gE];unfold Bt;rw[List.mem_filterMap];constructor
 . rintro⟨h,b,a⟩;by_cases e:AH E D n h=[]
   . rw[kZ e]at a;cases a
   rw[kP e]at a;(cases a);exact⟨h,mL.1 b,e,rfl⟩
 rintro⟨h,b,a,rfl⟩;exact⟨h,mL.2 b,by rw[kP a];rfl⟩
theorem Gd.jZ(g:Gd r E n O D L):r.gE.Pairwise λa b=>a.head<b.head:=by
 rw[g.gE];unfold Bt;rw[List.pairwise_filterMap];refine nT.imp ?_;intro a b h x c y d;by_cases e:AH E D n a=[]
 . rw[kZ e]at c;cases c
 by_cases f:AH E D n b=[]
 . rw[kZ f]at d;cases d
 rw[kP e]at c;rw[kP f]at d;cases c
 cases d
 show(a:Int)<(b:Int);omega
theorem KT(g:GQ E n (Dp O) D)(c:AH E D n h≠[]):h<n:=by obtain⟨p,d⟩:=List.exists_mem_of_ne_nil _ c;obtain⟨a,b,_⟩:=(Dt _ _ _ _ _).1 d;exact g.P.iN p a h b
def hN(l:ML):Nat:=l.head.toNat
theorem Ll:hN (KI E D L n h)=h:=by unfold hN KI;exact kA h
theorem Og:(KI E D L n h).a8.length=((List.range n).filter (L h)).length:=by simp[KI,ints]
theorem Gd.jP(g:Gd r E n O D L)(u:sl.Perm r.gE)(v:sl.Pairwise Iy)(b:sl[k]?=K (KI E D L n h))(y:AH E D n h≠[]):SE E n D L (λx=>x∈(sl.take k).map hN) h where
 lt:=KT g.fl y
 il:=g.il
 s1 x hx hl:=by
  have z:KI E D L n x∈sl:=u.symm.subset (g.mem.2 ⟨x,KT g.fl hx,hx,rfl⟩);obtain⟨j,a⟩:=lH z;obtain⟨p,l⟩:=i6.1 a;obtain⟨s,m⟩:=i6.1 b;rw[<-Og (E:=E) (D:=D),<-Og (E:=E) (D:=D)]at hl;have d:j<k:=by
   rcases Nat.lt_trichotomy j k with c|c|c
   . exact c
   . subst c;rw[a]at b;simp only[kI]at b;rw[b]at hl;exact absurd hl (Nat.lt_irrefl _)
   have:=(mi.1 v) k j s p c;rw[l,m]at this;rcases this with q|⟨q,_⟩<;>omega
  refine lA.2 ⟨KI E D L n x,?_,Ll⟩;exact i7 (i:=j) (by rw[oP d];exact a)
 s2 x hx:=by
  obtain⟨C,A,w⟩:=lA.1 hx;obtain⟨j,a⟩:=lH A;have d:j<k:=by have:=(i6.1 a).1;simp at this;omega
  rw[oP d]at a;obtain⟨p,l⟩:=i6.1 a;obtain⟨s,m⟩:=i6.1 b;have f:=(mi.1 v) j k p s d;rw[l,m]at f;obtain⟨B,_,_,t⟩:=g.mem.1 (u.subset (i7 a));rw[t,Ll]at w;subst w;rw[t]at f;refine⟨λe=>by subst e;exact Iy.irr _ f,?_⟩;rw[<-Og (E:=E) (D:=D),<-Og (E:=E) (D:=D)];rcases f with q|⟨q,_⟩<;>omega
theorem KE.iff{a b:Nat->Prop}{c:Nat->Nat}(s:KE E n D a c)(d:∀x,b x↔a x):KE E n D b c:=by
 have:b=a:=funext λx=>propext (d x)
 rw[this];exact s
theorem Gd.step(g:Gd r E n O D L)(e:sl.Perm r.gE)(f:sl.Pairwise Iy)(c:sl[k]?=K (KI E D L n h))(d:AH E D n h≠[]){a:Nat->Nat}(s:KE E n D (λx=>x∈(sl.take k).map hN) a):KE E n D (λx=>x∈(sl.take (k+1)).map hN) (λb=>if L h b then h else a b):=(SE.step g.fl s (g.jP e f c d)).iff λx=>by rw[List.take_add_one,c,mF,kO];simp only[Option.toList,mX,List.map_nil,kY,lG,mS,Ll]
theorem KE.jO:KE E n D (λx=>x∈(sl.take 0).map hN) (jf (List.range n)):=by refine⟨λb c=>.inl ⟨?_, λx a=>by simp at a⟩, λx a=>by simp at a⟩;exact Ls (oC c)
theorem Gd.gW(g:Gd r E n O D L)(a:h<n):Ez (λj=>decide (j∈(KI E D L n h).a8.map Int.toNat)) n= λb=>L h b=true:=by
 funext b
 apply propext;unfold Ez;simp only[mB,KI,ints,nE,lA,mO,mL,Function.comp,kA,exists_eq_right];constructor
 . exact λh=>h.2.2
 exact λh=>⟨g.fl.ij a ((g.il _ _).1 h),g.fl.ij a ((g.il _ _).1 h),h⟩
theorem Gd.iY(g:Gd r E n O D L)(a:h<n)(b:Nat):b∈(KI E D L n h).a8.map Int.toNat↔L h b=true:=by simp only[KI,ints,nE,lA,mO,mL,Function.comp,kA,exists_eq_right];exact⟨λh=>h.2, λh=>⟨g.fl.ij a ((g.il _ _).1 h),h⟩⟩
theorem Gd.inB(b:Nat):(b:Int)∈(KI E D L n h).back↔b∈AH E D n h:=by simp only[KI,ints,lA];exact⟨λ⟨a,c,d⟩=>(show a=b from oM)▸c, λh=>⟨b,h,rfl⟩⟩
theorem Gd.bk(g:Gd r E n O D L)(b:Nat)(a:b∈AH E D n h):L h b=true:=by
 refine(g.il _ _).2 ?_;by_cases e:b=h
 . exact .inl e
 exact .inr ⟨b,a,.here e⟩
theorem Wr.j9(g:Gd r E n O D L){I:List Nat}{C:List Int}{j:Nat->Prop}{t x:Int}{bd:Bool}(s:KE E n D j (jf I))(q:SE E n D L j h)(m:∀c,0<=cf C c)(G:Wr E n ((KI E D L n h).a8.map Int.toNat) (KI E D L n h).back I C h t false bd x):
 NX E (λb=>L h b=true) (· ∈AH E D n h) (jf I) h (cf C) t (if bd then M else K x):=by
 have p:=q.jw g.fl s;have N:(AR E D n h)= λb=>L h b=true:=funext λb=>propext (g.il h b).symm
 rw[N]at p;have i:=p;rw[<-g.gW q.lt]at i;obtain⟨B,A,k,w,z,R,S,P,Q,v⟩:=G;cases B with
 | true=>(have H:bd=true:=by rcases v with⟨e,_⟩|⟨e,_⟩<;>exact e);rw[H];have:=z.iH g.fl i m;rw[g.gW q.lt]at this;exact .inl ⟨rfl,this⟩
 | false=>
   have u:=z.pass g.fl i m (R rfl) S;rw[g.gW q.lt]at u;refine .inr ⟨cf A,k,w,u,P.iff λb=> ?_,Q.iff λb=> ?_,?_⟩
   . rw[g.iY q.lt,Gd.inB];exact⟨λh=>⟨g.bk b h,h⟩, λh=>h.2⟩
   . unfold Vk;rw[g.iY q.lt];constructor
     . rintro⟨a,y,d,f⟩;exact⟨a,y,d, λe=>f ((g.iY q.lt y).1 e)⟩
     rintro⟨a,y,d,f⟩;exact⟨a,y,d, λe=>f ((g.iY q.lt y).2 e)⟩
   rcases v with⟨e,F,l⟩|⟨e,l⟩
   . rw[e,kP (show¬4294967295<t*k+w from oM),F];rfl
   rw[e,kZ l];rfl
end
def OJ(op:Int):Int:=match ((Cv op)[1]?:Option J)with|some (Ag _ c)=>c|_=>0
def Kl(costs:List Int)(x:MI):Prop:=x.op=28->x.a.toNat< ↑costs/\0<=cf costs x.a.toNat/\cf costs x.a.toNat<=4294967295
def EJ(costs:List Int)(x:MI):Int:=OJ x.op+if x.op=28 then cf costs x.a.toNat else 0
def D6(xs:List MI)(costs:List Int)(a:Nat):Nat->Int
 |0=>0
 |k+1=>D6 xs costs a k+match xs[a+k]? with|some x=>EJ costs x|none=>0
def Cz(xs:List MI)(costs:List Int)(m:MB):Int:=D6 xs costs m.gH.toNat (m.last.toNat+1-m.gH.toNat)
def CT(xs:List MI)(costs:List Int)(m:MB):Prop:=(∃(j:Nat) (x:MI),m.gH<=(j:Int)/\(j:Int)<=m.last/\xs[j]?=K x/\¬Kl costs x)\/4294967295<Cz xs costs m
def Ih(p:MP)(b:Int)(a:List MB)(h:Nat):Int:=match a[h]? with|some m=>(match Ce p.eD b m.gH with|some c=>c.init|none=>0)|none=>0
def Jn(xs:List MI)(a:List MB)(b:Nat):Prop:=∃m x,a[b]?=K m/\xs[m.last.toNat]?=K x/\x.op=29
def QJ(p:MP)(a:Int)(costs:List Int)(xs:List MI)(r:DC)(v:Int):Prop:=
 (((∃l∈r.gE,∃k,k≠0/\AP p a xs r.a8 l k)\/∃m∈r.a8,CT xs costs m)/\v=-1)\/
 ((∀l∈r.gE,AP p a xs r.a8 l 0)/\(∀m∈r.a8,¬CT xs costs m)/\∃(O:List Nat) (D L:Nat->Nat->Bool) (sl:List ML),Gd r (nx r.a8) r.a8 O D L/\sl.Perm r.gE/\sl.Pairwise Iy/\QK (nx r.a8) r.a8 D L (Ih p a r.a8) (Jn xs r.a8) (sl.map hN) (jf (List.range r.a8)) (cf (r.a8.map (Cz xs costs))) v)
def Dr(p:MP)(a:Int)(costs:List Int)(v:Int):Prop:=
 ((∀f r,A4 p 0->0<=a->p.bW[a.toNat]?=K f->Bg f.eC r->r.eC≠0)/\v=-1)\/
 ∃f r,A4 p 0/\0<=a/\p.bW[a.toNat]?=K f/\Bg f.eC r/\r.eC=0/\QJ p a costs f.eC r v
theorem Gd.same{r:DC}{E:Nat->List Nat}{n:Nat}{O f:List Nat}{D a L c:Nat->Nat->Bool}(g:Gd r E n O D L)(e:Gd r E n f a c):D=a/\L=c:=by
 have i:D=a:=by
  funext d b
  have:=(g.fl.D d b).trans (e.fl.D d b).symm;cases h:D d b<;>cases h':a d b<;>simp[h,h']at this<;>rfl
 subst i;refine⟨rfl,?_⟩;funext d b
 have:=(g.il d b).trans (e.il d b).symm;cases h:L d b<;>cases h':c d b<;>simp[h,h']at this<;>rfl
theorem QJ.one{p:MP}{costs:List Int}{xs:List MI}{r:DC}{v v':Int}(h:QJ p c costs xs r v)(d:QJ p c costs xs r v'):v=v':=by
 have e:∀{v':Int},((∃l∈r.gE,∃k,k≠0/\AP p c xs r.a8 l k)\/∃m∈r.a8,CT xs costs m)->(∀l∈r.gE,AP p c xs r.a8 l 0)->(∀m∈r.a8,¬CT xs costs m)->False:=by
  rintro _ (⟨l,x,k,w,a⟩|⟨m,y,a⟩) s t
  . exact w (a.one (s l x))
  exact t m y a
 rcases h with⟨a,rfl⟩|⟨f,i,O,D,L,sl,g,z,B,c1⟩
 . rcases d with⟨_,rfl⟩|⟨j,n,_⟩
   . rfl
   exact(e (v':=0) a j n).elim
 rcases d with⟨a,rfl⟩|⟨_,_,G,E,F,H,q,A,C,c2⟩
 . exact(e (v':=0) a f i).elim
 obtain⟨rfl,rfl⟩:=g.same q;obtain rfl:=V7 B C (z.trans A.symm);exact c1.one (λh b u=>g.bk b u) c2
theorem Dr.one{p:MP}{l:Int}{costs:List Int}{v v':Int}(h:Dr p l costs v)(m:Dr p l costs v'):v=v':=by
 rcases h with⟨c,rfl⟩|⟨f,r,n,q,d,e,s,t⟩
 . rcases m with⟨_,rfl⟩|⟨f,r,g,i,a,b,j,k⟩
   . rfl
   exact absurd j (c f r g i a b)
 rcases m with⟨c,rfl⟩|⟨u,w,g,i,a,b,j,k⟩
 . exact absurd s (c f r n q d e)
 rw[d]at a;cases a
 obtain rfl:=e.one b;exact t.one k
theorem RA{op:Int}{s:ByteArray}{f:Int}(h:Cv op=#[.string s,Ag Af c,Ag Af f]):OJ op=c:=by unfold OJ;rw[h];rfl
theorem Ud(a:∀op,0<=OJ op){costs:List Int}{x:MI}(h:Kl costs x):0<=EJ costs x:=by
 unfold EJ;have:=a x.op;by_cases e:x.op=28
 . rw[kZ e];have:=(h e).2.1;omega
 rw[kP e];omega
theorem JN(f:∀op,0<=OJ op){xs:List MI}{costs:List Int}{a k b:Nat}(l:k<=b)(h:∀j x,k<=j->j<b->xs[a+j]?=K x->Kl costs x):D6 xs costs a k<=D6 xs costs a b:=by
 induction b with
 | zero=>obtain rfl:k=0:=oM;exact Int.le_refl _
 | succ b g=>
   by_cases e:k=b+1
   . subst e;exact Int.le_refl _
   (have c:=g oM λj x c i d=>h j x c oM d);simp only[D6];cases hx:xs[a+b]? with
   |none=>simp only[];omega
   | some x=>have:=Ud f (h b x oM oM hx);simp only[];omega
theorem CT.iI(n:∀op,0<=OJ op){xs:List MI}{costs:List Int}{m:MB}{a e k:Nat}(p:m.gH=(a:Int))(r:m.last=(e:Int))(s:k<=e+1-a)(i:d<=D6 xs costs a k\/∃x,xs[a+k]?=K x/\k<e+1-a/\d<=D6 xs costs a k+OJ x.op)(w:4294967295<d)(v:a<=e+1):CT xs costs m:=by
 by_cases l:∃(j:Nat) (x:MI),m.gH<=(j:Int)/\(j:Int)<=m.last/\xs[j]?=K x/\¬Kl costs x
 . exact .inl l
 have h:∀j x,j<e+1-a->xs[a+j]?=K x->Kl costs x:= λj x y f=>lW λq=>l ⟨a+j,x,oM,oM,f,q⟩
 right;unfold Cz;rw[p,r,kA,kA];rcases i with i|⟨x,f,t,i⟩
 . (have:=JN n (xs:=xs) (costs:=costs) (a:=a) s λj x _ b c=>h j x b c);omega
 have b:=JN n (xs:=xs) (costs:=costs) (a:=a) (show k+1<=e+1-a from oM) λj x _ b c=>h j x b c
 have c:D6 xs costs a (k+1)=D6 xs costs a k+EJ costs x:=by simp only[D6,f]
 have u:OJ x.op<=EJ costs x:=by
  unfold EJ;by_cases g:x.op=28
  . rw[kZ g];have:=((h k x t f) g).2.1;omega
  rw[kP g];omega
 omega
def MS(xs:List MI)(C C':List Int):Prop:=C.length= ↑C'/\∀x∈xs,x.op=28->cf C x.a.toNat=cf C' x.a.toNat
section
variable {xs:List MI} {C C':List Int} {x:MI} {m:MB}
theorem MS.symm(h:MS xs C C'):MS xs C' C:=⟨h.1.symm, λx a e=>(h.2 x a e).symm⟩
theorem MS.cc(h:MS xs C C')(b:x∈xs)(a:Kl C x):Kl C' x:= λe=>by have:=a e;rw[<-h.1,<-h.2 x b e];exact this
theorem MS.ic(h:MS xs C C')(a:x∈xs):EJ C x=EJ C' x:=by
 unfold EJ;by_cases e:x.op=28
 . rw[kZ e,kZ e,h.2 x a e]
 rw[kP e,kP e]
theorem MS.sum(h:MS xs C C')(a:Nat):∀k,D6 xs C a k=D6 xs C' a k
 |0=>rfl
 | k+1=>by
   unfold D6;rw[h.sum a k];cases e:xs[a+k]? with
   |none=>rfl
   |some x=>simp only[h.ic (i7 e)]
theorem MS.bc(h:MS xs C C'):Cz xs C=Cz xs C':=funext λm=>h.sum _ _
theorem MS.bad(h:MS xs C C')(a:CT xs C m):CT xs C' m:=by
 rcases a with⟨j,x,c,d,b,e⟩|a
 . exact .inl ⟨j,x,c,d,b, λq=>e (h.symm.cc (i7 b) q)⟩
 right;rw[<-h.bc];exact a
theorem MS.fcv{p:MP}{r:DC}{v:Int}(h:MS xs C C')(e:QJ p c C xs r v):QJ p c C' xs r v:=by
 rcases e with⟨a|⟨m,b,a⟩,rfl⟩|⟨a,d,O,D,L,sl,g,f,i,c1⟩
 . exact .inl ⟨.inl a,rfl⟩
 . exact .inl ⟨.inr ⟨m,b,h.bad a⟩,rfl⟩
 rw[h.bc]at c1;exact .inr ⟨a, λm b q=>d m b (h.symm.bad q),O,D,L,sl,g,f,i,c1⟩
end
theorem Dr.ag{p:MP}{C C':List Int}{v:Int}(k:p.bW[q]?=K f)(h:MS f.eC C C')(l:Dr p (q:Int) C v):Dr p (q:Int) C' v:=by
 rcases l with j|⟨m,r,b,c,a,d,g,i⟩
 . exact .inl j
 have e:=a;rw[kA,k]at e;cases e
 exact .inr ⟨f,r,b,c,a,d,g,h.fcv i⟩
def Eg{α:Type}(P:α->Prop)(xs:List α)(x:α):Prop:=∃k:Nat,xs[k]?=K x/\P x/\∀(j:Nat) y,j<k->xs[j]?=K y->¬P y
theorem Eg.one{P:α->Prop}{xs:List α}{x y:α}(h:Eg P xs x)(d:Eg P xs y):x=y:=by
 obtain⟨k,b,f,i⟩:=h;obtain⟨c,a,g,j⟩:=d;rcases Nat.lt_trichotomy k c with e|rfl|e
 . exact absurd f (j k x e b)
 . rw[b]at a;exact kH a
 exact absurd g (i c y e a)
theorem Eg.no{P:α->Prop}{xs:List α}{x:α}(h:Eg P xs x)(c:∀y∈xs,¬P y):False:=by obtain⟨k,a,b,_⟩:=h;exact c x (i7 a) b
def Wk(p:MP)(q:Nat)(xs:List MI)(a:List MB)(l:ML):Prop:=∃k,k≠0/\AP p (q:Int) xs a l k
def OI(q:Nat)(r:DC)(t:MT):Prop:=t.func=(q:Int)/\∀l∈r.gE,∀m,r.a8[l.head.toNat]?=K m->m.gH≠t.head
def JE(p:MP)(b:List (List Int))(D:List Int)(k:Nat)(x:MI):Int:=IntKind.i64.wrap (IntKind.i64.wrap ((((b[k]?).getD []).length:Int)-(match p.bW[x.a.toNat]? with|some g=>(g.gw:Int)|none=>0))+cf D x.a.toNat)
def GN(p:MP)(xs:List MI)(b:List (List Int))(D:List Int)(a:Int):Nat->Int
 |0=>a
 |k+1=>match xs[k]? with|some x=>if x.op=28 then max (GN p xs b D a k) (JE p b D k x)else GN p xs b D a k|none=>GN p xs b D a k
def GL(p:MP)(f:MF)(y:Me)(D:List Int):Int:=GN p f.eC y.gR D y.depth f.eC
theorem Sg{p:MP}{xs:List MI}{d:List (List Int)}{D b:List Int}(h:MS xs D b):∀k,GN p xs d D c k=GN p xs d b c k
 |0=>rfl
 | k + 1=>by
   unfold GN;rw[Sg h k];cases e:xs[k]? with
   |none=>rfl
   | some x=>
     simp only[];by_cases a:x.op=28
     . rw[kZ a,kZ a];unfold JE;rw[h.2 x (i7 e) a]
     rw[kP a,kP a]
def Jx (ty:Nat->Me->Prop)(p:MP)(q:Nat)(C D:List Int)(c a v d:Int):Prop:=∃f r,p.bW[q]?=K f/\Bg f.eC r/\
 ((r.eC≠0/\c=3/\a=r.at_)\/(r.eC=0/\∃y,ty q y/\
   ((y.eC≠0/\c=4/\a=y.at_)\/(y.eC=0/\
     ((∃ l m,Eg (Wk p q f.eC r.a8) r.gE l/\r.a8[l.head.toNat]?=K m/\c=5/\a=m.gH)\/((∀l∈r.gE,¬Wk p q f.eC r.a8 l)/\
       ((∃t,Eg (OI q r) p.eD t/\c=6/\a=t.head)\/((∀t∈p.eD,¬OI q r t)/\
         ∃z,Dr p (q:Int) C z/\((z<0/\c=7/\a=0)\/(0<=z/\((64<GL p f y D/\c=8/\a=0)\/(GL p f y D<=64/\c=0/\a=0/\v=z/\d=GL p f y D))))))))))))
theorem Jx.one{ty:Nat->Me->Prop}(ae:∀q y B,ty q y->ty q B->y=B){p:MP}{C D C' n:List Int}{c a v d c' a' v' E:Int}{f0:MF}(I:p.bW[q]?=K f0)(X:MS f0.eC C C')(hD:MS f0.eC D n)(h:Jx ty p q C D c a v d)(S:Jx ty p q C' n c' a' v' E):c=c'/\a=a'/\(c=0->v=v'/\d=E):=by
 obtain⟨f,r,G,T,V⟩:=h;obtain⟨f',r',H,U,W⟩:=S;rw[I]at G H;cases G
 cases H
 obtain rfl:=T.one U;rcases V with⟨s,rfl,rfl⟩|⟨s,y,O,P⟩<;>rcases W with⟨x,rfl,rfl⟩|⟨x,B,k2,k3⟩
 . exact⟨rfl,rfl, λe=>by cases e⟩
 . exact absurd x s
 . exact absurd s x
 obtain rfl:=ae _ _ _ O k2;rcases P with⟨u,rfl,rfl⟩|⟨u,Q⟩<;>rcases k3 with⟨A,rfl,rfl⟩|⟨A,k5⟩
 . exact⟨rfl,rfl, λe=>by cases e⟩
 . exact absurd A u
 . exact absurd u A
 rcases Q with⟨l,m,b,w,rfl,rfl⟩|⟨b,w⟩<;>rcases k5 with⟨l',m',i,j,rfl,rfl⟩|⟨i,j⟩
 . obtain rfl:=b.one i;rw[w]at j;(cases j);exact⟨rfl,rfl, λe=>by cases e⟩
 . exact(b.no i).elim
 . exact(i.no b).elim
 rcases w with⟨t,g,rfl,rfl⟩|⟨g,z,R,F⟩<;>rcases j with⟨t',k,rfl,rfl⟩|⟨k,z',k9,ah⟩
 . obtain rfl:=g.one k;exact⟨rfl,rfl, λe=>by cases e⟩
 . exact(g.no k).elim
 . exact(k.no g).elim
 obtain rfl:z=z':=(R.ag I X).one k9;have e:GL p f0 y D=GL p f0 y n:=Sg hD _;rw[e]at F;rcases F with⟨L,rfl,rfl⟩|⟨L,⟨N,rfl,rfl⟩|⟨N,rfl,rfl,rfl,rfl⟩⟩<;>rcases ah with⟨aj,rfl,rfl⟩|⟨aj,⟨am,rfl,rfl⟩|⟨am,rfl,rfl,rfl,rfl⟩⟩<;>first|exact⟨rfl,rfl, λ_=>⟨rfl,rfl⟩⟩|exact⟨rfl,rfl, λe=>absurd e dC⟩|omega
theorem Jx.a0{ty:Nat->Me->Prop}{p:MP}{C D:List Int}{a v d:Int}(h:Jx ty p q C D 0 a v d):a=0:=by
 obtain⟨f,r,_,_,h⟩:=h;rcases h with⟨_,h,_⟩|⟨_,y,_,h⟩
 . cases h
 rcases h with⟨_,h,_⟩|⟨_,h⟩
 . cases h
 rcases h with⟨_,_,_,_,h,_⟩|⟨_,h⟩
 . cases h
 rcases h with⟨_,_,h,_⟩|⟨_,z,_,h⟩
 . cases h
 rcases h with⟨_,h,_⟩|⟨_,⟨_,h,_⟩|⟨_,_,h,_⟩⟩
 . cases h
 . cases h
 exact h
inductive R6 (ty:Nat->Me->Prop) (p:MP):List Nat->List Int->List Int->Int->Int->Int->List Int->List Int->Prop
 |nil {C D:List Int}:R6 ty p [] C D 0 0 0 C D
 |bad {q:Nat} {r:List Nat} {C D:List Int} {c a v d:Int}:Jx ty p q C D c a v d->c≠0->R6 ty p (q::r) C D c (q:Int) a [] []
 |step {q:Nat} {r:List Nat} {C D C' D':List Int} {c g a v d:Int}:Jx ty p q C D 0 0 v d->R6 ty p r (C.set q v) (D.set q d) c g a C' D'->R6 ty p (q::r) C D c g a C' D'
def Vj(fs:List MF):List Nat->List Nat->Prop
 |_,[]=>True
 |done,q::r=>q< ↑fs/\(∀f,fs[q]?=K f->∀a∈FD f,∃n∈done,a=((n:Nat):Int))/\Vj fs (q::done) r
theorem Gv{C:List Int}{c:Nat}{v:Int}(h:q< ↑C):cf (C.set q v) c=if c=q then v else cf C c:=Dl (an h)
theorem R6.one{ty:Nat->Me->Prop}(O:∀q y R,ty q y->ty q R->y=R){p:MP}{o:List Nat}{C D A B:List Int}(h:R6 ty p o C D c g a A B):∀{done:List Nat} {C' z C2 m:List Int} {c' F a':Int},Vj p.bW done o->C.length= ↑p.bW->C'.length= ↑p.bW->D.length= ↑p.bW->z.length= ↑p.bW->(∀n∈done,cf C n=cf C' n/\cf D n=cf z n)->R6 ty p o C' z c' F a' C2 m->
 c=c'/\g=F/\a=a'/\(c≠0->A=C2/\B=m)/\(c=0->A.length= ↑p.bW/\C2.length= ↑p.bW/\B.length= ↑p.bW/\m.length= ↑p.bW/\∀n,n∈done\/n∈o->cf A n=cf C2 n/\cf B n=cf m n):=by
 have P:∀{q:Nat} {done:List Nat} {C C':List Int} {f:MF},p.bW[q]?=K f->(∀f,p.bW[q]?=K f->∀a∈FD f,∃n∈done,a=((n:Nat):Int))->C.length= ↑p.bW->C'.length= ↑p.bW->(∀n∈done,cf C n=cf C' n)->MS f.eC C C':= λi L k l j=>⟨k.trans l.symm, λx W U=>by obtain⟨n,b,e⟩:=L _ i x.a (lA.2 ⟨x,mO.2 ⟨W,by simpa using U⟩,rfl⟩);rw[e,kA];exact j n b⟩
 induction h with
 | nil=>intro done C' z C2 m c' F a' _ k l s t j G;(cases G);exact⟨rfl,rfl,rfl, λe=>absurd rfl e, λ_=>⟨k,l,s,t, λn b=>j n (b.resolve_right sP)⟩⟩
 | @bad q r C D c a v d hO hc=>
   intro done C' z C2 m c' F a' L k l s t j G;obtain⟨w,N,Q⟩:=L;have i:=an w;(have H:=P i N k l λn b=>(j n b).1);(have I:=P i N s t λn b=>(j n b).2);cases G with
   | bad u hc'=>obtain⟨E,S,_⟩:=hO.one O i H I u;exact⟨E,rfl,S, λ_=>⟨rfl,rfl⟩, λe=>absurd e hc⟩
   | step u _=>obtain⟨E,_,_⟩:=hO.one O i H I u;exact absurd E hc
 | @step q r C D A B c g a v d hO hr ih=>
   intro done C' z C2 m c' F a' L k l s t j G;obtain⟨w,N,Q⟩:=L;have i:=an w;(have H:=P i N k l λn b=>(j n b).1);(have I:=P i N s t λn b=>(j n b).2);cases G with
   | bad u hc'=>obtain⟨E,_,_⟩:=hO.one O i H I u;exact absurd E.symm hc'
   | step u V=>
     obtain⟨_,_,T⟩:=hO.one O i H I u;obtain⟨rfl,rfl⟩:=T rfl;obtain⟨X,i2,i3,i4,i5⟩:=ih Q (by rw[mG];exact k) (by rw[mG];exact l) (by rw[mG];exact s) (by rw[mG];exact t) (λn b=>by
      rw[Gv (by rw[k];exact w),Gv (by rw[l];exact w),Gv (by rw[s];exact w),Gv (by rw[t];exact w)];by_cases e:n=q
      . simp only[kZ e,and_self]
      simp only[kP e];exact j n ((kY.1 b).resolve_left e)) V
     refine⟨X,i2,i3,i4, λe=> ?_⟩;obtain⟨j1,j2,j3,j4,j5⟩:=i5 e;refine⟨j1,j2,j3,j4, λn b=>j5 n ?_⟩;rcases b with b|b
     . exact .inl (lU _ b)
     rcases kY.1 b with rfl|b
     . exact .inl (lV ..)
     exact .inr b
theorem Up{l:List Nat}(h:a∈ints l):∃n∈l,a=((n:Nat):Int):=by obtain⟨n,b,e⟩:=lA.1 h;exact⟨n,b,e.symm⟩
theorem IM{fs:List MF}:∀(k:Nat) (done:List Nat),Cx fs k (ints done)≠[]-> ↑done+k= ↑fs->(∀n∈done,n< ↑fs)->done.Nodup->∃r,Cx fs k (ints done)=ints (done++r)/\Vj fs done.reverse r/\(∀n,n< ↑fs->n∈done++r)
 | 0,done,_,hl,h,hd=>by refine⟨[],by rw[m6];rfl,trivial, λn c=> ?_⟩;rw[m6];have m:=Fv done fs h hd;have d:A8 done fs=0:=oM;unfold A8 at d;rw[List.length_eq_zero_iff,List.filter_eq_nil_iff]at d;have:=d n (mL.2 c);simpa using this
 | k + 1,done,hne,hl,h,hd=>by
   unfold Cx at hne⊢;cases e:GC fs (ints done)with
   |none=>rw[e]at hne;exact absurd rfl hne
   | some i=>
     rw[e]at hne;simp only[]at hne⊢;(have j:i<fs.length:=by have:=List.mem_of_find?_eq_some e;simpa using this);have g:=List.find?_some e;unfold CP at g;rw[an j]at g;simp only[mR,Bool.not_eq_true',nV]at g;(have u:i∉done:= λq=>by (have:(ints done).contains (i:Int)=true:=by rw[List.contains_iff_mem];exact lA.2 ⟨i,q,rfl⟩);rw[this]at g;exact mY g.1.symm);(have s:ints done++[(i:Int)]=ints (done++[i]):=by unfold ints;rw[mF];rfl);rw[s]at hne⊢;obtain⟨r,m,d,t⟩:=IM k (done++[i]) hne (by rw[kE,kK];omega) (λn c=>by
      rcases kO.1 c with q|q
      . exact h n q
      rw[ld.1 q];exact j) (nG.2 ⟨hd,sP, λa l b h e=>u (by rw[ld.1 h]at e;rw[<-e];exact l)⟩)
     refine⟨i::r,by rw[m,mm];rfl,⟨j, λf p a l=> ?_,by rw[List.reverse_append]at d;exact d⟩, λn c=>by have:=t n c;rw[mm]at this;exact this⟩;rw[an j]at p;(cases p);have:=g.2 a l;rw[List.contains_iff_mem]at this;obtain⟨n,c,e⟩:=Up this;exact⟨n,mc.2 c,e⟩
def QL(ty:Nat->Me->Prop)(p:MP)(c g a:Int)(C D:List Int):Prop:=
 (¬A4 p 0/\c=1/\g=0/\a=0/\C=[]/\D=[])\/
 (A4 p 0/\BT p.bW=[]/\c=2/\g=0/\a=0/\C=[]/\D=[])\/
 (A4 p 0/\BT p.bW≠[]/\∃b d:List Int,b.length= ↑p.bW/\d.length= ↑p.bW/\R6 ty p ((BT p.bW).map Int.toNat) b d c g a C D)
theorem T5{C C':List Int}{n:Nat}(a: ↑C=n)(b: ↑C'=n)(h:∀k,k<n->cf C k=cf C' k):C=C':=by
 refine List.ext_getElem (a.trans b.symm) λk c d=> ?_
 have:=h k oM;rw[DL (an c),DL (an d)]at this;exact this
theorem QL.one{ty:Nat->Me->Prop}(G:∀q y z,ty q y->ty q z->y=z){p:MP}{c' a':Int}{C D C' m:List Int}(h:QL ty p c g a C D)(F:QL ty p c' t a' C' m):c=c'/\g=t/\a=a'/\C=C'/\D=m:=by
 rcases h with⟨b,rfl,rfl,rfl,rfl,rfl⟩|⟨b,f,rfl,rfl,rfl,rfl,rfl⟩|⟨b,f,X,D0,T,U,u⟩<;>rcases F with⟨d,rfl,rfl,rfl,rfl,rfl⟩|⟨d,l,rfl,rfl,rfl,rfl,rfl⟩|⟨d,l,ae,ah,V,W,v⟩
 . exact⟨rfl,rfl,rfl,rfl,rfl⟩
 . exact absurd d b
 . exact absurd d b
 . exact absurd b d
 . exact⟨rfl,rfl,rfl,rfl,rfl⟩
 . exact absurd f l
 . exact absurd b d
 . exact absurd l f
 obtain⟨r,A,B,s⟩:=IM (fs:=p.bW) p.bW [] f sP (λn j=>by simp at j) .nil;have E:(BT p.bW).map Int.toNat=r:=by unfold BT;rw[show([]:List Int)=ints []from rfl,A];unfold ints;rw[nE,lu];exact(nF λx _=>kA x).trans (List.map_id' r)
 rw[E]at u v;obtain⟨H,I,L,N,O⟩:=u.one G B T V U W (λn j=>by simp at j) v;refine⟨H,I,L,?_⟩;by_cases e:c=0
 . obtain⟨P,Q,R,S,w⟩:=O e;exact⟨T5 P Q λk i=>(w k (.inr (by simpa using s k i))).1,T5 R S λk i=>(w k (.inr (by simpa using s k i))).2⟩
 exact N e
def XG(xs:List MI)(costs:List Int)(r:DC)(C:List Int)(k:Nat):Prop:=∀b m,b<k->r.a8[b]?=K m->¬CT xs costs m/\cf C b=Cz xs costs m
structure TJ(xs:List MI)(costs:List Int)(r:DC)(C:List Int)(k ja:Nat)(bad:Bool)(c0:Int)(jj:Nat):Prop where
 le:ja<=jj
 bd:bad=true->∃m∈r.a8,CT xs costs m
 ok:bad=false->XG xs costs r C k/\(∀j x,ja<=j->j<jj->xs[j]?=K x->Kl costs x)/\c0=D6 xs costs ja (jj-ja)
section
variable {xs:List MI} {costs:List Int} {r:DC} {C:List Int} {k ja je jj:Nat} {bad bad2 bad3:Bool} {c0 c7 c8 ci z:Int} {x:MI} {m:MB}
theorem Rz(op:Int)(a:∃(s:ByteArray) (c f:Int),Cv op=#[.string s,Ag Af c,Ag Af f]/\Ew c):0<=OJ op:=by obtain⟨s,c,f,e,h⟩:=a;rw[RA e];exact h.1
theorem TJ.mid(j:∀op,0<=OJ op)(h:TJ xs costs r C k ja bad c0 jj)(i:r.a8[k]?=K m)(b:m.gH=(ja:Int))(c:m.last=(je:Int))(n:jj<=je)(l:xs[jj]?=K x)(g:OJ x.op=ci)(f:(bad2=bad/\c7=c0+ci)\/bad2=true/\4294967295<c0+ci):(bad2=true->∃m∈r.a8,CT xs costs m)/\(bad2=false->bad=false/\c7=c0+ci):=by
 have p:=h.le;rcases f with⟨rfl,e⟩|⟨rfl,e⟩
 . exact⟨h.bd, λq=>⟨q,e⟩⟩
 refine⟨λ_=> ?_, λq=>by cases q⟩;cases hb:bad with
 |true=>exact h.bd hb
 | false=>obtain⟨_,_,a⟩:=h.ok hb;exact⟨m,i7 i,CT.iI j b c (k:=jj-ja) oM (d:=c0+ci) (.inr ⟨x,by rw[show ja+(jj-ja)=jj from oM];exact l,oM,by rw[<-a,g];exact Int.le_refl _⟩) e oM⟩
theorem Nw(b:ja<=jj)(a:xs[jj]?=K x):D6 xs costs ja (jj+1-ja)=D6 xs costs ja (jj-ja)+EJ costs x:=by rw[show jj+1-ja=(jj-ja)+1 from oM];simp only[D6];rw[show ja+(jj-ja)=jj from oM,a]
theorem TJ.plain(v:∀op,0<=OJ op)(h:TJ xs costs r C k ja bad c0 jj)(d:xs[jj]?=K x)(l:OJ x.op=ci)(b:x.op≠28)(c:(bad2=true->∃m∈r.a8,CT xs costs m)/\(bad2=false->bad=false/\c7=c0+ci)):TJ xs costs r C k ja bad2 c7 (jj+1):=by
 have n:=h.le;refine⟨oM,c.1, λe=> ?_⟩;obtain⟨f,g⟩:=c.2 e;obtain⟨p,s,t⟩:=h.ok f;refine⟨p, λj y i u a=> ?_,?_⟩
 . by_cases e:j=jj
   . subst e;rw[d]at a;(cases a);exact λq=>absurd q b
   exact s j y i oM a
 rw[Nw n d,g,t,<-l];unfold EJ;rw[kP b];omega
theorem TJ.call(P:∀op,0<=OJ op)(h:TJ xs costs r C k ja bad c0 jj)(N:r.a8[k]?=K m)(f:m.gH=(ja:Int))(p:m.last=(je:Int))(S:jj<=je)(t:xs[jj]?=K x)(I:OJ x.op=ci)(G:x.op=28){l:Nat}(u:x.a=(l:Int))(v:costs[l]?=K z)(Q:0<=z)(R:z<=4294967295)(b:(bad2=true->∃m∈r.a8,CT xs costs m)/\(bad2=false->bad=false/\c7=c0+ci))(q:(bad3=bad2/\c8=c7+z)\/bad3=true/\4294967295<c7+z):TJ xs costs r C k ja bad3 c8 (jj+1):=by
 have L:=h.le;have i:cf costs x.a.toNat=z:=by rw[u,kA];exact DL v
 have O:Kl costs x:= λ_=>⟨by rw[u,kA];exact(i6.1 v).1,by rw[i];exact Q,by rw[i];exact R⟩
 have s:bad2=false->c7+z=D6 xs costs ja (jj+1-ja):= λe=>by obtain⟨c,n⟩:=b.2 e;obtain⟨w,A,B⟩:=h.ok c;rw[Nw L t,n,B,<-I];unfold EJ;rw[kZ G,i];omega
 refine⟨oM, λe=> ?_, λe=> ?_⟩
 . rcases q with⟨rfl,_⟩|⟨_,H⟩
   . exact b.1 e
   cases hb2:bad2 with
   |true=>exact b.1 hb2
   |false=>exact⟨m,i7 N,CT.iI P f p (k:=jj+1-ja) oM (d:=c7+z) (.inl (by rw[s hb2];exact Int.le_refl _)) H oM⟩
 rcases q with⟨rfl,E⟩|⟨D,_⟩
 . obtain⟨c,n⟩:=b.2 e;obtain⟨w,A,B⟩:=h.ok c;refine⟨w, λj y f p g=> ?_,by rw[E];exact s e⟩;by_cases F:j=jj
   . subst F;rw[t]at g;(cases g);exact O
   exact A j y f oM g
 rw[D]at e;cases e
theorem WR{C:List Int}(a:b< ↑C):cf (C++[c]) b=cf C b:=by unfold cf;rw[kL,kL,lO a]
theorem TJ.done(h:TJ xs costs r C k ja bad c0 (je+1))(n: ↑C=k)(p:r.a8[k]?=K m)(g:m.gH=(ja:Int))(i:m.last=(je:Int))(z:c0<=4294967295):(bad=true->∃m∈r.a8,CT xs costs m)/\(bad=false->XG xs costs r (C++[c0]) (k+1)):=by
 refine⟨h.bd, λe b t y a=> ?_⟩;obtain⟨u,v,w⟩:=h.ok e;by_cases eb:b=k
 . subst eb;rw[p]at a;(cases a);(have l:Cz xs costs m=c0:=by unfold Cz;rw[g,i,kA,kA,w]);refine⟨λc=> ?_,?_⟩
   . rcases c with⟨j,x,d,f,q,s⟩|c
     . exact s (v j x oM oM q)
     omega
   rw[l];exact DL (by rw[kT oM,n,mU];rfl)
 obtain⟨d,f⟩:=u b t oM a;exact⟨d,by rw[WR oM];exact f⟩
end
structure Il(p:MP)(fi:Int)(costs:List Int)(xs:List MI)(r:DC)(D L:Nat->Nat->Bool)(sl:List ML)(k:Nat)(bd:Bool)(I:List Nat)(C:List Int):Prop where
 lf:∀l∈sl.take k,AP p fi xs r.a8 l 0
 jz:KE (nx r.a8) r.a8 D (λx=>x∈(sl.take k).map hN) (jf I)
 cn:∀c,0<=cf C c
 bad:bd=true->(∃m∈r.a8,CT xs costs m)\/QK (nx r.a8) r.a8 D L (Ih p fi r.a8) (Jn xs r.a8) (sl.map hN) (jf (List.range r.a8)) (cf (r.a8.map (Cz xs costs))) (-1)
 ok:bd=false->(∀m∈r.a8,¬CT xs costs m)/\∀v,QK (nx r.a8) r.a8 D L (Ih p fi r.a8) (Jn xs r.a8) ((sl.drop k).map hN) (jf I) (cf C) v->QK (nx r.a8) r.a8 D L (Ih p fi r.a8) (Jn xs r.a8) (sl.map hN) (jf (List.range r.a8)) (cf (r.a8.map (Cz xs costs))) v
section
variable {p:MP} {fi:Int} {costs:List Int} {xs:List MI} {r:DC} {O:List Nat} {D L:Nat->Nat->Bool} {sl:List ML} {k hd:Nat} {bd bd2:Bool} {I I2:List Nat} {C:List Int} {l:ML}
theorem XS(h:∀y∈C,Ew y)(c:Nat):0<=cf C c:=by
 unfold cf;rw[kL];cases e:C[c]? with
 |none=>exact Int.le_refl _
 |some y=>exact(h y (i7 e)).1
theorem Il.start(g:Gd r (nx r.a8) r.a8 O D L)(c:C.length= ↑r.a8)(f:∀y∈C,Ew y)(h:(bd=true->∃m∈r.a8,CT xs costs m)/\(bd=false->∀b m,b< ↑r.a8->r.a8[b]?=K m->¬CT xs costs m/\cf C b=Cz xs costs m)):Il p fi costs xs r D L sl 0 bd (List.range r.a8) C:=by
 refine⟨λl c=>by simp at c,KE.jO,XS f, λe=>.inl (h.1 e), λe=>⟨λm i=> ?_, λv d=> ?_⟩⟩
 . obtain⟨b,a⟩:=lH i;exact(h.2 e b m (i6.1 a).1 a).1
 have:cf C=cf (r.a8.map (Cz xs costs)):=by
  funext b
  by_cases a:b< ↑r.a8
  . rw[(h.2 e b _ a (an a)).2];exact(DL (by rw[lE,an a];rfl)).symm
  unfold cf;rw[kL,kL,kW oM,kW (by rw[lC];omega)]
 rw[this]at d;simpa using d
theorem Gd.at_(g:Gd r (nx r.a8) r.a8 O D L)(c:l∈r.gE)(f:l.head=(hd:Int)):l=KI (nx r.a8) D L r.a8 hd/\AH (nx r.a8) D r.a8 hd≠[]:=by
 obtain⟨h,_,b,a⟩:=g.mem.1 c;have e:h=hd:=by
  have d:l.head=(h:Int):=by rw[a];rfl
  omega
 subst e;exact⟨a,b⟩
theorem Il.jw(s:Il p fi costs xs r D L sl k bd I C)(g:Gd r (nx r.a8) r.a8 O D L)(i:sl.Perm r.gE)(j:sl.Pairwise Iy)(f:sl[k]?=K l)(h:l∈r.gE)(d:l.head=(hd:Int)):SH (nx r.a8) r.a8 D (λx=>x∈(sl.take k).map hN) (jf I) (λb=>b∈l.a8.map Int.toNat) hd:=by
 obtain⟨rfl,c⟩:=g.at_ h d;have a:=g.jP i j f c;have:=a.jw g.fl s.jz;have e:AR (nx r.a8) D r.a8 hd= λb=>b∈(KI (nx r.a8) D L r.a8 hd).a8.map Int.toNat:=funext λb=>propext ((g.il hd b).symm.trans (g.iY a.lt b).symm)
 rw[e]at this;exact this
theorem Il.jo(s:Il p fi costs xs r D L sl k bd I C)(g:Gd r (nx r.a8) r.a8 O D L)(e:sl.Perm r.gE)(f:sl.Pairwise Iy)(c:sl[k]?=K l)(d:l∈r.gE)(a:l.head=(hd:Int)):∀b,b∈l.a8.map Int.toNat->jf I b=hd->b=hd:=(s.jw g e f c d a).jo
theorem Il.jh(s:Il p fi costs xs r D L sl k bd I C)(g:Gd r (nx r.a8) r.a8 O D L)(d:sl.Perm r.gE)(e:sl.Pairwise Iy)(b:sl[k]?=K l)(c:l∈r.gE)(a:l.head=(hd:Int)):jf I hd=hd:=(s.jw g d e b c a).jh
theorem Il.next(s:Il p fi costs xs r D L sl k bd I C)(g:Gd r (nx r.a8) r.a8 O D L)(y:sl.Perm r.gE)(z:sl.Pairwise Iy)(f:sl[k]?=K l)(Q:l∈r.gE)(N:l.head=(hd:Int))(F:AP p fi xs r.a8 l 0)(P:Ih p fi r.a8 hd=t)(H:C.length= ↑r.a8)(G:∀b,jf I2 b=if b∈l.a8.map Int.toNat then hd else jf I b)(u:Wr (nx r.a8) r.a8 (l.a8.map Int.toNat) l.back I C hd t bd bd2 d)(S:Ew d):Il p fi costs xs r D L sl (k+1) bd2 I2 (C.set hd d):=by
 obtain⟨rfl,j⟩:=g.at_ Q N;have h:=g.jP y z f j;have n:jf I2= λb=>if L hd b then hd else jf I b:=by
  funext b
  rw[G b];by_cases e:L hd b=true
  . rw[kZ ((g.iY h.lt b).2 e),kZ e]
  rw[kP (λq=>e ((g.iY h.lt b).1 q)),kP e]
 have m:cf (C.set hd d)= λc=>if c=hd then d else cf C c:=funext λc=>Dl (an (by rw[H];exact h.lt))
 have R:bd=true->bd2=true:= λe=>by
  obtain⟨W,_,_,_,V,_,_,_,_,T⟩:=u;rcases T with⟨i,_⟩|⟨i,_⟩
  . rw[i];exact V.mono e
  exact i
 have w:(sl.drop k).map hN=hd::(sl.drop (k+1)).map hN:=by obtain⟨U,E⟩:=i6.1 f;rw[mD U,E,mX,Ll]
 have A:bd=false->NX (nx r.a8) (λb=>L hd b=true) (· ∈AH (nx r.a8) D r.a8 hd) (jf I) hd (cf C) (Ih p fi r.a8 hd) (if bd2 then M else K d):= λe=>by subst e;rw[P];exact Wr.j9 g s.jz h s.cn u
 refine⟨λl' x=> ?_,by rw[n];exact g.step y z f j s.jz, λc=> ?_, λe=> ?_, λe=> ?_⟩
 . rw[List.take_add_one,f]at x;rcases kO.1 x with q|q
   . exact s.lf l' q
   simp at q;rw[q];exact F
 . rw[m];by_cases q:c=hd
   . simp only[kZ q];exact S.1
   simp only[kP q];exact s.cn c
 . cases a:bd with
   |true=>exact s.bad a
   | false=>right;refine(s.ok a).2 _ ?_;rw[w];have:=A a;rw[e]at this;exact .bad this
 . have a:bd=false:=by
    cases a:bd with
    |true=>rw[R a]at e;cases e
    |false=>rfl
   refine⟨(s.ok a).1, λv B=>(s.ok a).2 v ?_⟩;rw[w];have:=A a;rw[e]at this;rw[n,m]at B;exact .step this B
theorem Il.fin(s:Il p fi costs xs r D L sl sl bd I C)(g:Gd r (nx r.a8) r.a8 O D L)(d:sl.Perm r.gE):SH (nx r.a8) r.a8 D (λx=>x∈(sl.take sl).map hN) (jf I) (λb=>b< ↑r.a8) 0:=by
 refine s.jz.whole g.fl (λx f=> ?_) λh=> ?_
 . rw[List.take_length];exact lA.2 ⟨_,d.symm.subset (g.mem.2 ⟨x,KT g.fl f,f,rfl⟩),Ll⟩
 obtain⟨l,a,c⟩:=lA.1 h;have i:=s.lf l a;rw[List.take_length]at a;obtain⟨k,_,_,e⟩:=g.mem.1 (d.subset a);rw[e,Ll]at c;subst c;have j:l.head=0:=by rw[e];rfl
 obtain⟨_,_,q⟩:=i;rcases q with⟨_,q⟩|⟨_,_,_,_,⟨_,q⟩|⟨_,⟨_,q⟩|⟨_,⟨_,q⟩|⟨_,⟨_,q⟩|⟨q,_⟩⟩⟩⟩⟩
 . cases q
 . cases q
 . cases q
 . cases q
 . cases q
 exact q (.inl j)
theorem Il.all(s:Il p fi costs xs r D L sl sl bd I C)(b:sl.Perm r.gE):∀l∈r.gE,AP p fi xs r.a8 l 0:= λl a=>s.lf l (by rw[List.take_length];exact b.symm.subset a)
theorem Il.done{v:Int}(s:Il p fi costs xs r D L sl sl bd I C)(g:Gd r (nx r.a8) r.a8 O D L)(c:sl.Perm r.gE)(i:sl.Pairwise Iy)(j:bd=false->QN (nx r.a8) r.a8 (Jn xs r.a8) (jf I) (cf C) v)(b:bd=true->v=-1):QJ p fi costs xs r v:=by
 by_cases a:∃m∈r.a8,CT xs costs m
 . cases e:bd with
   |true=>exact .inl ⟨.inr a,b e⟩
   |false=>obtain⟨m,d,f⟩:=a;exact absurd f ((s.ok e).1 m d)
 . refine .inr ⟨s.all c, λm h q=>a ⟨m,h,q⟩,O,D,L,sl,g,c,i,?_⟩;cases e:bd with
   | true=>rw[b e];exact(s.bad e).resolve_left a
   | false=>refine(s.ok e).2 v ?_;rw[List.drop_length];exact .nil (j e)
theorem NQ.own{n:Int}(h:NQ p (q:Int) l n)(c:A4 p 0)(d:p.bW[q]?=K f)(e:Bg f.eC r)(g:r.eC=0)(i:l∈r.gE):AP p (q:Int) f.eC r.a8 l n:=by
 have b:JY p (q:Int) l f r:=⟨c,oM,by rw[kA];exact d,e,g,i⟩;rcases h with⟨a,_⟩|⟨j,k,a,h⟩
 . exact absurd b.own a
 obtain⟨rfl,rfl⟩:=b.one a;exact h
end
theorem Ss{p:MP}:∀{c a:Nat} {b:List Int} {T:Nat->List Int} {D:Nat} {e:Int×Nat},VZ p f c a b T D=.inl e->e.1≠0
 |0,_,_,_,_,_,h=>by cases h
 | c+1,a,b,T,D,e,h=>by
   unfold VZ at h;split at h
   . cases h
   split at h
   . exact Ss h
   rename_i d;(cases h);exact d
theorem St{p:MP}{c:List MB}:∀{l:List Nat} {s:WS} {e:Int×Nat},UM p f c l s=.inl e->e.1≠0
 |[],_,_,h=>by cases h
 | b ::r,s,e,h=>by
   unfold UM at h;split at h
   . cases h
   split at h
   . rename_i m _ g a;(cases h);unfold X6 at a;split at a
     . rename_i d;(cases a);exact Ss d
     split at a
     . (cases a);simp
     cases a
   exact St h
theorem TS.len{p:MP}(h:TS p (q:Int) y)(a:y.eC=0)(c:p.bW[q]?=K f):y.gR.length=f.eC.length:=by
 rcases h with⟨_,e⟩|⟨_,_,d,r,b,_,_,e⟩
 . subst e;cases a
 rw[kA,c]at b;obtain rfl:=kH b;subst e;revert a;cases hr:UM p f r.a8 (r.gJ.map Int.toNat) ws0 with
 |inl e=>intro a;exact absurd a (St hr)
 |inr s=>intro _;simp[X8]
def SK(u:Y)(s:J)(rs:List (List Int)):Prop:=∃xs:List J,Rd u 1 s rs xs/\∀(k:Nat) x,xs[k]?=K x->∃(r:List Int) (a:Option Addr) (c:Nat),rs[k]?=K r/\x=Z a r c
theorem WV{a:List (List Int×J)}:Ad BW a=a.map Prod.snd:=by
 induction a with
 |nil=>rfl
 |cons y r b=>rw[lD,b];rfl
theorem SK.of{u:Y}(h:Gi u s rs):SK u s rs:=by obtain⟨xs,f,g,i⟩:=h;refine⟨_,g, λk x b=> ?_⟩;rw[WV,lE,mT]at b;obtain⟨y,d,rfl⟩:=b;obtain⟨a,c,e⟩:=(i y (i7 d)).dk;exact⟨y.1,a,c,by rw[<-f,lE,d];rfl,e⟩
theorem SK.a7{u a:Y}{n:List (List Int)}(h:SK u s n)(d:Ah u u a):SK a s n:=by obtain⟨xs,b,c⟩:=h;exact⟨xs,b.a7 d lR,c⟩
theorem SK.set{u:Y}{n:List (List Int)}(h:SK u s n){a:Addr}{k:IntKind}{z:Int}(r:u a=K (Ag k z))(V:J):SK (u.setCell a V) s n:=by obtain⟨xs,⟨p,q⟩,f⟩:=h;refine⟨xs,⟨p,q.imp_right λ⟨g,o,c,e,t⟩=>⟨g,o,c,e, λj v i=> ?_⟩⟩,f⟩;have d:=t j v i;obtain⟨_,b,m,_,e⟩:=f j v i;rw[World.cell?_setCell_other _ _ _ _ (λl=>by rw[<-l,r]at d;rw[e]at d;cases d)];exact d
theorem SK.dk{u:Y}{n:List (List Int)}(h:SK u s n):∃a c,s=Z a n c:=by obtain⟨xs,b,_⟩:=h;exact b.dk
theorem Xs{u:Y}{a:Option Addr}{c:Nat}(h:SK u (Z a rs c) rs){k:Nat}(p:k< ↑rs):∃(g o:Nat) (b:Option Addr) (r:List Int) (c1:Nat),a=K ⟨g,o,M⟩/\rs[k]?=K r/\u ⟨g,o+k,M⟩=K (Z b r c1):=by
 obtain⟨xs,d,l⟩:=h;have q:=d.1;obtain⟨x,f⟩:∃x,xs[k]?=K x:=⟨_,an oM⟩;obtain⟨r,b,c1,i,j⟩:=l k x f;rcases d.2 with⟨n,_⟩|⟨g,o,c',e,m⟩
 . omega
 simp only[i8]at e;exact⟨g,o,b,r,c1,e.1,i,by rw[m k x f,j]⟩
theorem GA(z:Int)(w:Y):Ai Ap 142 #[z] w λe d=>e=Al (An (decide (0<=z/\z<=4294967295)))/\d=w:=by
 by_cases a:0<=z
 . by_cases c:z<=4294967295
   . rw[decide_eq_true ⟨a,c⟩];have b:z>=0:=a;go_enter func142,ntmps142;go_wp2_with fail;go_ret;exact⟨rfl,rfl⟩
   rw[lZ (λh=>c h.2)];have b:z>=0:=a;go_enter func142,ntmps142;go_wp2_with fail;go_ret;exact⟨rfl,rfl⟩
 rw[lZ (λh=>a h.1)];have b:¬z>=0:=a;go_enter func142,ntmps142;go_wp2_with fail;go_ret;exact⟨rfl,rfl⟩
structure RwS(w:Y)(n gS gB:Nat)(I:List Nat)(L:List Int):Prop where
 st:∀b,b<n->w ⟨gS,b,M⟩=K ↑(jf I b:Int)/\jf I b<n
 su:∀c,c<n->w ⟨gB,c,M⟩=K ↑(cf L c)
theorem G5(p n x N v G:Nat)(I:List Nat)(L:List Int)(a:Option Addr)(c:Nat)(d:List Int)(w:Y)(hn:n<=1048576)(W:w ⟨p,16,M⟩=K (sG x n N))(A:RwS w n x v I L)(hl:d.length<=1048576)(B:Rd w 1 (Z a d c) d (Ad As d))(j:∀z∈d,∃b:Nat,z=(b:Int)/\b<n):
 Ai Ap 116 #[.pointer p,sG v n G,Z a d c] w λe U=>∃m,e=Al (iZ m)/\U=w/\Ck (λb=>cf L (jf I b)) (λb=>(b:Int)∈d) m:=by
 have H:=Av (d5 A (d5 B j));clear A B j;go_enter func116,ntmps116;go_wp2_with fail;go_loopw [7,12] (λm i wr=>∃(k:Nat) (f:Int),k<= ↑d/\m=iZ f/\i=iZ k/\wr=w/\Ae (Ck (λb=>cf L (jf I b)) (λb=>(b:Int)∈d.take k) f)) (λ_ i _=> ↑d-(intOf i).toNat)
 case atStart=>exact⟨0,0,oM,rfl,rfl,rfl,Ck.none (λb j=>by simp at j)⟩
 obtain⟨k,f,hk,rfl,rfl,rfl,r⟩:=hrel;by_cases C:k< ↑d
 case neg=>go_wp2_with fail;go_ret;exact⟨f,rfl,rfl,by have:=r.o;rw[k8 (show ↑d<=k from oM)]at this;exact this⟩
 have ae:(k:Int)<(d:Int):=oM;have l:d[k]?=K d[k]:=an C;obtain⟨b,eb,P⟩:=H.2.2 d[k] (mN C);rw[eb]at l;obtain⟨g,o,O,V⟩:∃g o,a=K ⟨g,o,M⟩/\wr ⟨g,o+k,M⟩=K ↑(b:Int):=by
  rcases H.2.1.2 with⟨q,_⟩|⟨g,o,c',u,Q⟩
  . omega
  simp only[i8,lB]at u;exact⟨g,o,u.1,Q k _ (Db l)⟩
 subst O;obtain⟨T,D⟩:=H.1.st b P;have E:=H.1.su _ D;have X:(b:Int)<(n:Int):=oM;have R:(jf I b:Int)<(n:Int):=oM;have F:=Av l;clear l eb;have t:Ae (Ck (λb=>cf L (jf I b)) (λb=>(b:Int)∈d.take (k+1)) (max f (cf L (jf I b)))):=r.add λy=>by
  rw[List.take_add_one,F.o,kO];simp only[Option.toList,kY,lG,mS];constructor
  . rintro(h|h)
    . exact .inl h
    exact .inr oM
  rintro(h|rfl)
  . exact .inl h
  exact .inr rfl
 generalize S:cf L (jf I b)=y at E t;clear S;generalize jf I b=s at T D E R;go_wp2_with fail;go_roundw;case rel=>exact⟨k+1,max f y,oM,by trivial,by go_num,by trivial,t⟩
 exact oI
theorem QX(r k f t g ll cc b o i q:Ey)(rs co at_:Int)(n gk ok:Nat)(w:Y)(hn:n<f.n)
 (j:w ⟨gk,ok+n*4,M⟩=K (Z g.a g.n g.c)) (l:w ⟨gk,ok+n*4+1,M⟩=K ↑rs) (m:w ⟨gk,ok+n*4+2,M⟩=K (Z ll.a ll.n ll.c)) (p:w ⟨gk,ok+n*4+3,M⟩=K (Z cc.a cc.n cc.c)):
 Ai Ap 84 #[Am #[Z r.a r.n r.c,Z k.a k.n k.c,Z (K ⟨gk,ok,M⟩) f.n f.c,Z t.a t.n t.c],n,Am #[co,at_,Z b.a b.n b.c,Z o.a o.n o.c,Z i.a i.n i.c,Z q.a q.n q.c]] w λe w'=>e=Al (Am (BI.cells ⟨r,k,⟨K ⟨gk,ok,M⟩,f.n,f.c⟩,t,g,rs,ll,cc,(n:Int),co,at_,b,o,i,q⟩))/\Ah w w w':=by
 have s:=Ge w #[Z r.a r.n r.c,Z k.a k.n k.c,Z (K ⟨gk,ok,M⟩) f.n f.c,Z t.a t.n t.c] #[co,at_,Z b.a b.n b.c,Z o.a o.n o.c,Z i.a i.n i.c,Z q.a q.n q.c] #[Z M 0 0,Z M 0 0,Z M 0 0,Z M 0 0,Z M 0 0,Ag Af 0,Z M 0 0,Z M 0 0,Ag Af 0,Ag Af 0,Ag Af 0,Z M 0 0,Z M 0 0,Z M 0 0,Z M 0 0] 36 80 160;have y:Ae (w ⟨gk,ok+n*4,M⟩=K (Z g.a g.n g.c)/\w ⟨gk,ok+n*4+1,M⟩=K ↑rs/\w ⟨gk,ok+n*4+2,M⟩=K (Z ll.a ll.n ll.c)/\w ⟨gk,ok+n*4+3,M⟩=K (Z cc.a cc.n cc.c)):=⟨j,l,m,p⟩
 clear j l m p;unfold BI.cells;go_enter func84,ntmps84;go_upto_region 1 with fail
 refine Ax (λu=>Ae (AC u w #[Z r.a r.n r.c,Z k.a k.n k.c,Z (K ⟨gk,ok,M⟩) f.n f.c,Z t.a t.n t.c] 36/\AC u ((w:Nat)+1) #[co,at_,Z b.a b.n b.c,Z o.a o.n o.c,Z i.a i.n i.c,Z q.a q.n q.c] 80/\AC u ((w:Nat)+1+1) #[Z M 0 0,Z M 0 0,Z M 0 0,Z M 0 0,Z M 0 0,Ag Af 0,Z M 0 0,Z M 0 0,Ag Af 0,Ag Af 0,Ag Af 0,Z M 0 0,Z M 0 0,Z M 0 0,Z M 0 0] 160/\Ah w w u)) s ?_
 rintro U h;clear s;obtain⟨p0,p1,p2,p3⟩:=BP h.1;obtain⟨y0,y1,y2,y3,y4,y5⟩:=G4 h.2.1;obtain⟨j,l,m,p⟩:=y.o;rw[<-h.2.2.2.cell (hC j)]at j;rw[<-h.2.2.2.cell (hC l)]at l;rw[<-h.2.2.2.cell (hC m)]at m;rw[<-h.2.2.2.cell (hC p)]at p;have d:Ae (AC U ((w:Nat)+1+1) #[Z M 0 0,Z M 0 0,Z M 0 0,Z M 0 0,Z M 0 0,Ag Af 0,Z M 0 0,Z M 0 0,Ag Af 0,Ag Af 0,Ag Af 0,Z M 0 0,Z M 0 0,Z M 0 0,Z M 0 0] 160):=h.2.2.1;have S:=d.cell 0;have aj:=d.frozen 0;have T:=d.cell 1;have am:=d.frozen 1;have z2:=d.cell 2;have aE:=d.frozen 2;have z3:=d.cell 3;have aF:=d.frozen 3;have z4:=d.cell 4;have aG:=d.frozen 4;have z5:=d.cell 5;have aH:=d.frozen 5;have z6:=d.cell 6;have aI:=d.frozen 6;have z7:=d.cell 7;have aJ:=d.frozen 7;have z8:=d.cell 8;have aM:=d.frozen 8;have z9:=d.cell 9;have aP:=d.frozen 9;have V:=d.cell 10;have ao:=d.frozen 10;have W:=d.cell 11;have aq:=d.frozen 11;have X:=d.cell 12;have au:=d.frozen 12;have ae:=d.cell 13;have aw:=d.frozen 13;have ah:=d.cell 14;have aA:=d.frozen 14;simp only[kB,i9,kC]at S T z2 z3 z4 z5 z6 z7 z8 z9 V W X ae ah;have aQ:(n:Int)<(f.n:Int):=oM;have s1:¬gk= ↑w+1+1:=by have:=y.1;have:=hC this;simp only[]at this;omega
 go_region;have G:Ae _:=(((((((((((((((d.set 0 (Z r.a r.n r.c)).set 1 (Z k.a k.n k.c)).set 2 (Z (K ⟨gk,ok,M⟩) f.n f.c)).set 3 (Z t.a t.n t.c)).set 4 (Z g.a g.n g.c)).set 5 rs).set 6 (Z ll.a ll.n ll.c)).set 7 (Z cc.a cc.n cc.c)).set 8 n).set 9 co).set 10 at_).set 11 (Z b.a b.n b.c)).set 12 (Z o.a o.n o.c)).set 13 (Z i.a i.n i.c)).set 14 (Z q.a q.n q.c));simp only[lF,lI,lT]at G;refine AX (λu=>Ae (AC u ((w:Nat)+1+1) #[Z r.a r.n r.c,Z k.a k.n k.c,Z (K ⟨gk,ok,M⟩) f.n f.c,Z t.a t.n t.c,Z g.a g.n g.c,rs,Z ll.a ll.n ll.c,Z cc.a cc.n cc.c,n,co,at_,Z b.a b.n b.c,Z o.a o.n o.c,Z i.a i.n i.c,Z q.a q.n q.c] 160/\Ah w w u)) ?_ ?_
 . exact⟨AC.a7 (b:=(w:Nat)+1+1) (t:=160) G (At _),Ar (((((((((((((((h.2.2.2.setCell oS _).setCell oS _).setCell oS _).setCell oS _).setCell oS _).setCell oS _).setCell oS _).setCell oS _).setCell oS _).setCell oS _).setCell oS _).setCell oS _).setCell oS _).setCell oS _).setCell oS _) lR (At _)⟩
 rintro U2 x;clear G d h p0 p1 p2 p3 y0 y1 y2 y3 y4 y5 j l m p S aj T am z2 aE z3 aF z4 aG z5 aH z6 aI z7 aJ z8 aM z9 aP V ao W aq X au ae aw ah aA s1;obtain⟨z,A,H,I,L,N,O,P,Q,R,B,C,D,E,F⟩:=CQ (v:=⟨r,k,⟨K ⟨gk,ok,M⟩,f.n,f.c⟩,t,g,rs,ll,cc,(n:Int),co,at_,b,o,i,q⟩) x.1;simp only[]at z A H I L N O P Q R B C D E F;go_wp2;exact kQ (v:=Am #[Z r.a r.n r.c,Z k.a k.n k.c,Z (K ⟨gk,ok,M⟩) f.n f.c,Z t.a t.n t.c,Z g.a g.n g.c,rs,Z ll.a ll.n ll.c,Z cc.a cc.n cc.c,n,co,at_,Z b.a b.n b.c,Z o.a o.n o.c,Z i.a i.n i.c,Z q.a q.n q.c]) (by simp[results,results84,go_sem,z,A,H,I,L,N,O,P,Q,R,B,C,D,E,F]) rfl ⟨rfl,x.2⟩
structure SA(w:Y)(v:BI)(p:MP)(fi:Int)(F:List (MB×J))(xs:List MI)(r:DC):Prop where
 bs:Ju w v F xs
 nx:∀z∈F,Vg w z.2 z.1/\z.1.next.length<=1048576
 cd:SC w v xs p.ej
 tn:p.eD.length<=1048576
 tr:Rd w 4 (Z v.t.a v.t.n v.t.c) p.eD (Ad MT.cells p.eD)
 nu:v.nu=fi
 eb:F.map Prod.fst=r.a8
 gW:XK xs r
 ls:Mi w (Z v.q.a v.q.n v.q.c) r.gE
 ln:v.q.n= ↑r.gE
 od:Rd w 1 (Z v.o.a v.o.n v.o.c) r.gJ (Ad As r.gJ)
section
variable {w u:Y} {v:BI} {p:MP} {fi:Int} {F:List (MB×J)} {xs:List MI} {r:DC}
theorem SA.a7(H:SA w v p fi F xs r)(a:Ah w w u):SA u v p fi F xs r:=⟨H.bs.a7 a, λz b=>⟨(H.nx z b).1.a7 a lR,(H.nx z b).2⟩,H.cd.a7 a,H.tn,H.tr.a7 a lR,H.nu,H.eb,H.gW,H.ls.a7 a lR,H.ln,H.od.a7 a lR⟩
theorem SA.fl(H:SA w v p fi F xs r):F.length=r.a8.length:=by rw[<-H.eb,lC]
theorem SA.loop(H:SA w v p fi F xs r){l:ML}(g:l∈r.gE){y:Ey}(i:Rd w 1 (Z y.a y.n y.c) l.a8 (Ad As l.a8)):∃(h:Nat) (m:MB),l.head=(h:Int)/\h< ↑r.a8/\TL w v y p fi F xs h l m:=by obtain⟨⟨h,b,d⟩,e,f,j⟩:=H.gW.loop l g;exact⟨h,_,b,d,H.bs,H.nx,H.cd,H.tn,H.tr,H.nu,b,by rw[H.eb];exact an d,i,f,by rw[H.fl];exact e⟩
end
structure WI(w u:Y)(v:BI):Prop where
 body:AC u w v.cells 160
 gU:AC u ((w:Nat)+1) #[iZ 0,sN,sN] 85
 e8:Ah w w u
theorem WI.a7{w u b:Y}{v:BI}(h:WI w u v)(a:Ah u u b):WI w b v:=⟨h.body.a7 a,h.gU.a7 a,Ar h.e8 lR a⟩
theorem Ha(v:BI)(p:MP)(fi:Int)(F:List (MB×J))(xs:List MI)(r:DC)(w:Y)(t:SA w v p fi F xs r):
 Ai Ap 85 #[Am v.cells] w λe w'=>(∃(h:Int) (x y:Ey) (b:Bool),e=Al (Ao #[Am #[h,Z x.a x.n x.c,Z y.a y.n y.c],b])/\(b=true->∃(k:Nat) (l:ML) (n:Int),r.gE[k]?=K l/\l.head=h/\n≠0/\AP p fi xs r.a8 l n/\∀l'∈r.gE.take k,AP p fi xs r.a8 l' 0)/\(b=false->∀l∈r.gE,AP p fi xs r.a8 l 0))/\Ah w w w':=by
 have H:=Av t;have aH:r.gE.length<=1024:=t.gW.nl;have HN:=Av t.ln;obtain⟨qa,am⟩:∃qa,v.q.a=qa:=⟨_,rfl⟩;have V:=Av am;clear am t;have L:=BL w v.cells #[iZ 0,sN,sN] 160 85;go_enter func85,ntmps85;go_upto_region 1 with fail
 refine Ax (λu=>Ae (WI w u v)) ⟨L.1,L.2.1,L.2.2⟩ ?_;rintro U d;clear L;have D:=d.body.cell 14;simp only[BI.cells]at D;simp only[HN.o,V.o]at D;go_wp2_with fail;clear D;go_loopw [10] (λi wr=>∃k:Nat,k<= ↑r.gE/\i=iZ k/\Ae (WI w wr v/\∀l∈r.gE.take k,AP p fi xs r.a8 l 0)) (λi _=> ↑r.gE-(intOf i).toNat)
 case atStart=>exact⟨0,oM,rfl,d, λl C=>by simp at C⟩
 case round=>
 clear d;obtain⟨k,hk,rfl,d⟩:=hrel;by_cases aq:k< ↑r.gE
 case neg=>
  have E:=d.1.gU.cell 0;have G:=d.1.gU.cell 1;have I:=d.1.gU.cell 2;have f0:=d.1.gU.frozen 0;have f1:=d.1.gU.frozen 1;have f2:=d.1.gU.frozen 2;simp only[kB,i9,kC]at E G I;have HA:Ae (∀l∈r.gE,AP p fi xs r.a8 l 0):=by
   have:=d.2;rw[k8 (show ↑r.gE<=k from oM)]at this
   exact this
  go_wp2;exact kQ (v:=Ao #[Am #[iZ 0,sN,sN],false]) (by simp[results,results85,go_sem,E,G,I]) rfl ⟨⟨0,⟨M,0,0⟩,⟨M,0,0⟩,false,rfl,(λh=>by cases h), λ_=>HA.o⟩,(((d.1.e8.setCell oS _).setCell oS _).setCell oS _)⟩
 have aG:(k:Int)<(r.gE:Int):=oM;obtain⟨l,C⟩:∃l,r.gE[k]?=K l:=⟨_,an aq⟩;have t:=H.a7 d.1.e8;obtain⟨gl,ol,s,A,g,j,W,i0,i1,i2,R⟩:=H0 t.ls C;rw[V]at W;subst W;have N:=Av (d5 C R);obtain⟨h,m,P,_,ae⟩:=t.loop (i7 C) (y:=⟨g,l.a8,j⟩) R.2;have ao:=Av ae;rw[P]at i0;have HH:=Av P;clear ae C R t P;generalize l.back.length=z at i1 N;go_upto_region 4 with fail
 have S:Ae (WI w (Ac wr (Ak #[h,Z s z A,Z g l.a8 j] 85)) v/\AC (Ac wr (Ak #[h,Z s z A,Z g l.a8 j] 85)) wr #[h,Z s z A,Z g l.a8 j] 85/\Ah wr wr (Ac wr (Ak #[h,Z s z A,Z g l.a8 j] 85))):=⟨d.1.a7 (Aq _ _),AC.new _ _ _,Aq _ _⟩
 refine Ax (λu=>Ae (WI w u v/\AC u wr #[h,Z s z A,Z g l.a8 j] 85/\Ah wr wr u)) S ?_
 rintro U4 B;clear S i0 i1 i2;generalize hX:wr.heap.size=X at B⊢;obtain⟨p0,p1,p2,p3,p4,p5,p6,p7,p8,p9,au,aw,aA,aE,D⟩:=CQ B.1.body;obtain⟨l0,l1,l2⟩:=Cl B.2.1;go_wp2_with fail;refine(MH v h ⟨s,z,A⟩ ⟨g,l.a8,j⟩ p fi F xs l m U4 (ao.a7 (hX▸B.2.2))).mono ?_;rintro e u5 ⟨⟨nn,rfl,aj⟩,O⟩;have f:=Av (d5 (B.1.a7 O) (B.2.1.a7 O));have T:Ae (AP p fi xs r.a8 l nn):=by rw[<-H.eb];exact aj
 clear aj O B p0 p1 p2 p3 p4 p5 p6 p7 p8 p9 au aw aA aE D l0 l1 l2;by_cases Q:nn=0
 . subst Q;go_wp2;go_roundw;case rel=>
    refine⟨k+1,oM,by go_num,f.1, λl' ah=> ?_⟩;rw[List.take_add_one,N.1]at ah;rcases kO.1 ah with q|q
    . exact d.2 l' q
    simp at q;rw[q];exact T
   case measure=>exact oI
 have aF:(nn==0)=false:=by simp[Q]
 obtain⟨l0,l1,l2⟩:=Cl f.2;have E:=f.1.gU.cell 0;have G:=f.1.gU.cell 1;have I:=f.1.gU.cell 2;have f0:=f.1.gU.frozen 0;have f1:=f.1.gU.frozen 1;have f2:=f.1.gU.frozen 2;simp only[kB,i9,kC]at E G I;go_wp2;exact kQ (v:=Ao #[Am #[h,Z s z A,Z g l.a8 j],true]) (by simp[results,results85,go_sem,E,G,I]) rfl ⟨⟨(h:Int),⟨s,z,A⟩,⟨g,l.a8,j⟩,true,rfl, λ_=>⟨k,l,nn,N.1,HH,Q,T,d.2⟩, λh=>(by cases h)⟩,(((f.1.e8.setCell oS _).setCell oS _).setCell oS _)⟩
theorem La(v:BI)(p:MP)(fi:Int)(F:List (MB×J))(xs:List MI)(r:DC)(w:Y)(m:SA w v p fi F xs r):
 Ai Ap 85 #[Am v.cells] w λe d=>(∃(h:Int) (x y:Ey) (b:Bool),e=Al (Ao #[Am #[h,Z x.a x.n x.c,Z y.a y.n y.c],b])/\(b=true->∃l∈r.gE,∃k,k≠0/\AP p fi xs r.a8 l k)/\(b=false->∀l∈r.gE,AP p fi xs r.a8 l 0))/\Ah w w d:=
 (Ha v p fi F xs r w m).mono λe d ⟨⟨h,x,y,b,f,g,i⟩,j⟩=>⟨⟨h,x,y,b,f, λe=>(by obtain⟨k,l,n,q,_,s,t,_⟩:=g e;exact⟨l,i7 q,n,s,t⟩),i⟩,j⟩
theorem Rb{w a:Y}{g o:Nat}{v:J}(d:w.grownBy a (K b))(h:w ⟨g,o,M⟩=K v)(f:g≠b):a ⟨g,o,M⟩=K v:=by have c:=hC h;unfold World.cell? at h⊢;rw[d.block g c (λe=>f (by cases e;rfl))];exact h
theorem AC.apart{w c:Y}{g:Nat}{a:Array J}{t:Aj}(h:AC w b a t)(f:w.grownBy c (K g))(i:b≠g):AC c b a t:=by have d:=h.lt;unfold AC at h⊢;rw[f.block b d (λe=>i (by cases e;rfl))];exact h
theorem QU(b:Nat)(a:Option Addr)(c:Nat)(ks:List Int)(w:Y)(Q:ks.length<=1048576)(hw:∀z∈ks,Dg z)(n:Rd w 1 (Z a ks c) ks (Ad As ks))(v:∀g o,a=K ⟨g,o,M⟩->0<ks.length->g≠b)(h:AW w b 0 (.map [])):
 Ai Ap 101 #[.map (K b),Z a ks c] w λe E=>e=Al (.tuple #[])/\(∃l D,AW E b l D/\∀z:Int,Go.Maps.has D (.int Af z)=decide (z∈ks))/\w.grownBy E (K b):=by
 have H:=Av (d5 hw (d5 n (d5 v h)));clear hw n v h;go_enter func101,ntmps101;go_wp2;go_loopw [8] (λi wr=>∃k:Nat,k<= ↑ks/\i=.int Af k/\Ae (∃D,AW wr b k D/\(∀z:Int,Go.Maps.has D (.int Af z)=decide (z∈ks.take k))/\w.grownBy wr (K b))) (λi _=> ↑ks-(intOf i).toNat)
 case atStart=>exact⟨0,oM,rfl,.map [],H.2.2.2, λz=>by simp;rfl,⟨rfl,rfl,rfl,Nat.le_refl _, λ_ _ _=>rfl⟩⟩
 obtain⟨k,n,rfl,s⟩:=hrel;obtain⟨D,f,B,x⟩:=s.o;have d:=Av (d5 B x);clear s B x;by_cases N:k< ↑ks
 . have O:(k:Int)<(ks:Int):=oM;obtain⟨z,j⟩:∃z,ks[k]?=K z:=⟨_,an N⟩;obtain⟨g,o,u,t⟩:∃g o,a=K ⟨g,o,M⟩/\w ⟨g,o+k,M⟩=K (iZ z):=by
    rcases H.2.1.2 with⟨q,_⟩|⟨g,o,c',m,L⟩
    . omega
    simp only[i8,lB]at m;exact⟨g,o,m.1,L k _ (Db j)⟩
   have m:=Rb d.2 t (H.2.2.1 g o u oM);subst u;have P:=H.1 z (i7 j);have p:wr.ownsMap Ap 2 (unitElem (H:=Unit)) b k D:=f;have I:=Av j;clear j f t;go_wp2_with (at_mapUpdate;refine wpList_mapUpdate_own _ rfl _ _ _ 154 rfl 2 207 EL underlying154 (unitElem (H:=Unit)) b k D rfl p oX _ _ _ rfl rfl (nC underlying2 P) _ [] unitElem_mk ?_;intro F C A);have G:Ae (∃D,AW F b (k+1) D/\(∀z:Int,Go.Maps.has D (.int Af z)=decide (z∈ks.take (k+1)))/\w.grownBy F (K b)):=by refine⟨_,C, λy=> ?_,d.2.trans A⟩;rw[EW D (mv p),d.1 y,List.take_add_one,I.o,nO];simp
   clear C A p;go_wp2;go_roundw;(case rel=>exact⟨k+1,oM,by go_num,G⟩);exact oI
 have O:¬(k:Int)<(ks:Int):=oM;have r:Ae ((∃l D,AW wr b l D/\∀z:Int,Go.Maps.has D (.int Af z)=decide (z∈ks))/\w.grownBy wr (K b)):=by refine⟨⟨k,D,f, λz=> ?_⟩,d.2⟩;rw[d.1 z,k8 (show ↑ks<=k from oM)]
 clear f;go_wp2;go_end0;exact⟨rfl,r.1,r.2⟩
def Ja(v:BI)(c s:J):Array J:=#[Z v.r.a v.r.n v.r.c,Z v.k.a v.k.n v.k.c,Z v.f.a v.f.n v.f.c,Z v.t.a v.t.n v.t.c,Z v.p.a v.p.n v.p.c,v.rs,Z v.l.a v.l.n v.l.c,Z v.c.a v.c.n v.c.c,v.nu,v.co,v.at_,Z v.b.a v.b.n v.b.c,Z v.o.a v.o.n v.o.c,Z v.i.a v.i.n v.i.c,Z v.q.a v.q.n v.q.c,c,s]
structure CC(u:Y)(B CB:Nat)(v:BI)(n gC cC gS cS:Nat)(I:List Nat)(C:List Int):Prop where
 gK:AC u CB (Ja v (sG gC n cC) (sG gS n cS)) 195
 co:Ab u B 2 1 (sG gC n cC) n (Ad As C)
 st:Ab u B 2 1 (sG gS n cS) n (nv I)
 ne:gC≠gS
 lc: ↑C=n
 li: ↑I=n
 cc:∀y∈C,Ew y
 ii:∀b∈I,b<n
 bl:B<=CB
section
variable {u u':Y} {B CB:Nat} {v:BI} {n gC cC gS cS:Nat} {I:List Nat} {C:List Int}
theorem CC.a7(h:CC u B CB v n gC cC gS cS I C)(a:Ah u u u'):CC u' B CB v n gC cC gS cS I C:={h with gK:=h.gK.a7 a,co:=Aw h.co a lR,st:=Aw h.st a lR}
theorem CC.km(h:CC u B CB v n gC cC gS cS I C){c:Nat}(a:c<n):u ⟨gC,c,M⟩=K ↑(cf C c):=by have:=lj h.co c oM;rw[Db (TZ (by rw[h.lc];exact a))]at this;exact this
theorem X5(h:b< ↑I):I[b]?=K (jf I b):=by rw[an h];exact congrArg K (Ls (an h)).symm
theorem CC.jA(h:CC u B CB v n gC cC gS cS I C)(c:b<n):u ⟨gS,b,M⟩=K ↑(jf I b:Int)/\jf I b<n:=by have a:=X5 (I:=I) (b:=b) (by rw[h.li];exact c);have:=lj h.st b oM;rw[Ng a]at this;exact⟨this,h.ii _ (i7 a)⟩
theorem CC.cells(h:CC u B CB v n gC cC gS cS I C):u ⟨CB,11,M⟩=K (Z v.b.a v.b.n v.b.c)/\u ⟨CB,12,M⟩=K (Z v.o.a v.o.n v.o.c)/\u ⟨CB,15,M⟩=K (sG gC n cC)/\u ⟨CB,16,M⟩=K (sG gS n cS):=⟨by rw[h.gK.cell];rfl,by rw[h.gK.cell];rfl,by rw[h.gK.cell];rfl,by rw[h.gK.cell];rfl⟩
end
structure XH(w:Y)(v:BI)(n:Nat)(E:Nat->List Nat)(R:List Nat)(pl:Nat->Nat):Prop where
 gr:∃gb ob,v.b.a=K ⟨gb,ob,M⟩/\v.b.n=n/\Km w gb ob n E
 eb:∀b,b<n->∀x∈E b,x<n
 sz:∀b,(E b).length<=1024
 od:∃go oo,v.o.a=K ⟨go,oo,M⟩/\v.o.n= ↑R/\∀k y:Nat,R[k]?=K y->w ⟨go,oo+k,M⟩=K ↑(y:Int)
 rb:∀y∈R,y<n
 rl:R.length<=1024
 p1:∀b,b<n->R[pl b]?=K b
 p2:∀(k b:Nat),R[k]?=K b->pl b=k
theorem XH.a7{w u:Y}{v:BI}{n:Nat}{E:Nat->List Nat}{R:List Nat}{b:Nat->Nat}(h:XH w v n E R b)(a:Ah w w u):XH u v n E R b:=by obtain⟨gb,m,d,e,f⟩:=h.gr;obtain⟨c,p,i,j,l⟩:=h.od;exact{h with gr:=⟨gb,m,d,e,f.a7 a⟩,od:=⟨c,p,i,j, λk y g=>Au a (l k y g)⟩}
structure QT(w u:Y)(SB h:Nat)(x:Ey)(ka:Option Addr)(kc:Nat)(ks:List Int)(n gL:Nat)(L:List Int):Prop where
 set:∃cnt D,AW u SB cnt D/\∀z:Int,Go.Maps.has D (.int Af z)=decide (z∈ks)
 lb:AC u w #[h,Z x.a x.n x.c,Z ka ks kc] 85
 row:Ab u w 2 1 (Z gL n n) n (Ad As L)
 e8:Ah w w u
 lt: ↑w<gL
 ns:SB≠gL
section
variable {w u u':Y} {SB h:Nat} {x:Ey} {ka:Option Addr} {kc:Nat} {ks:List Int} {n gL:Nat} {L:List Int}
theorem QT.a7(H:QT w u SB h x ka kc ks n gL L)(a:Ah u.heap.size u u'):QT w u' SB h x ka kc ks n gL L:=by obtain⟨b,D,c,d⟩:=H.set;exact⟨⟨b,D,c.a7 a,d⟩,H.lb.a7 a,Aw H.row a lR,Ar H.e8 lR a,H.lt,H.ns⟩
theorem QT.put(H:QT w u SB h x ka kc ks n gL L)(k:Nat)(y:Int):QT w (Aa u ⟨gL,k,M⟩ (.int Af y)) SB h x ka kc ks n gL (L.set k y):=by obtain⟨c,D,e,f⟩:=H.set;obtain⟨b,d⟩:=mI H.row k y;rw[Hc]at b;have:=H.lt;exact⟨⟨c,D,World.ownsMap.kept e d (by simp only[ne_eq,kI];exact H.ns),f⟩,H.lb.other (a:=⟨gL,k,M⟩) oS _,b,H.e8.setCell oS _,H.lt,H.ns⟩
theorem QT.at_(H:QT w u SB h x ka kc ks n gL L)(f: ↑L=n){c:Nat}(d:c<n):u ⟨gL,c,M⟩=K ↑(cf L c)/\u.frozen? ⟨gL,c,M⟩=false:=by have a:=lj H.row c oM;rw[Db (TZ (by rw[f];exact d))]at a;obtain⟨_,b,e⟩:=AD H.row;exact⟨a,frozen_of_row u gL c b _ e⟩
end
def Yq(w:Y)(n:Nat)(E:Nat->List Nat)(ks:List Int)(I:List Nat)(C:List Int)(h:Nat)(d:Nat->Nat)(e:Ending)(a:Y):Prop:=∃(gL:Nat) (L:List Int) (small:Bool),e=Al (.tuple #[sG gL n n,small])/\(small=true->(∀c,c<n->a ⟨gL,c,M⟩=K ↑(cf L c))/\∀y∈L,Ew y)/\WP E n (λb=>decide ((b:Int)∈ks)) I C h d L small/\Ah w w a
def TQ(xs:List MI)(a:List MB)(b:Nat):Prop:=∃m x,a[b]?=K m/\xs[m.last.toNat]?=K x/\x.op=29
theorem MJ(v:BI)(F:List (MB×J))(xs:List MI)(w:Y)(E:Ju w v F xs)(aE:∀z∈F,∃a n c,z.2=Z a n c)(hc:Rd w 4 (Z v.c.a v.c.n v.c.c) xs (Ad MI.cells xs)):
 Ai Ap 117 #[Am v.cells] w λe w'=>∃(a:Option Addr) (c:Nat) (d:List Int),e=Al (Z a d c)/\Rd w' 1 (Z a d c) d (Ad As d)/\(∀z,z∈d↔∃b:Nat,z=(b:Int)/\b< ↑F/\TQ xs (F.map Prod.fst) b)/\d.length<=1024/\Ah w w w':=by
 obtain⟨k0,hk,aM,aP,aQ⟩:=lS Bp;have H:=Av (d5 E (d5 aE hc));have aS:F.length<=1024:=E.len;have aZ:xs.length<=1024:=E.ju;obtain⟨D,bc,eb⟩:=E.rd.dk;simp only[i8]at eb;have aG:=Av eb.2.1;clear E aE hc eb D bc;obtain⟨D,au⟩:∃D,v.b.a=D:=⟨_,rfl⟩;have ah:=Av au;clear au;have E0:Ae (AC (Ac w (Ak v.cells 160)) w v.cells 160/\Ah w w (Ac w (Ak v.cells 160))):=⟨AC.new _ _ _,Aq _ _⟩
 go_enter func117,ntmps117;go_upto_region 1 with fail
 refine Ax (λu=>Ae (AC u w v.cells 160/\Ah w w u)) E0 ?_
 rintro U C;clear E0;have ae:=C.1.cell 11;simp only[BI.cells]at ae;simp only[aG.o,ah.o]at ae;go_wp2_with fail;clear ae;go_loopw [3,10] (λs i wr=>∃(k:Nat) (d:List Int),k<= ↑F/\i=iZ k/\Ae (Ab wr U 2 1 s d (Ad As d)/\(∀z,z∈d↔∃b:Nat,z=(b:Int)/\b<k/\TQ xs (F.map Prod.fst) b)/\ ↑d<=k/\Ah U U wr)) (λ_ i _=> ↑F-(intOf i).toNat)
 case atStart=>exact⟨0,[],oM,rfl,lQ _ _ _ _, λz=>⟨λe=>(by cases e), λ⟨b,_,h,_⟩=>absurd h (Nat.not_lt_zero _)⟩,sP,kS _ _⟩
 case round=>
 obtain⟨k,d,aR,rfl,f⟩:=hrel;by_cases aH:k< ↑F
 case neg=>obtain⟨O,P,T⟩:=AO f.1;subst T;go_wp2_with fail;go_ret;refine⟨O,P,d,rfl,Rd.gM f.1, λz=> ?_,by have:=f.2.2.1;omega,Ar C.2 lR f.2.2.2⟩;rw[f.2.1 z];obtain rfl:k=F.length:=oM;exact Iff.rfl
 have aT:(k:Int)<(F:Int):=oM;obtain⟨m,g,o,y,q,nx,V,eg,en,W,i1,i2,e1,S,aU,aI,aq⟩:=H.1.at aH;obtain⟨A,nn,B,ao⟩:=H.2.1 _ (i7 aq);simp only[]at ao;subst ao;obtain⟨x,L⟩:∃x,xs[q]?=K x:=⟨_,an aI⟩;rcases H.2.2.2 with⟨q0,_⟩|⟨gc,oc,cc,N,aw⟩
 . omega
 simp only[i8]at N;have r:=Rd.elem MI.dr aw q x L 0 _ rfl;rw[kJ]at r;have am:Ae (TQ xs (F.map Prod.fst) k↔x.op=29):=⟨λ⟨m',x',l,t,p⟩=>by
  rw[V]at l;cases l
  rw[S,kA,L]at t;cases t
  exact p, λh=>⟨m,x,V,by rw[S,kA];exact L,h⟩⟩
 have G:=Av (Ar C.2 lR f.2.2.2);have R:=Av (d5 r (d5 N.1 N.2.1));rw[<-G.cell (hC W)]at W;rw[<-G.cell (hC i1)]at i1;rw[<-G.cell (hC i2)]at i2;obtain rfl:D=K ⟨g,o,M⟩:=by rw[<-ah];exact eg
 obtain⟨O,P,T⟩:=AO f.1;subst T;have aW:(q:Int)<(xs:Int):=oM;clear r N aw V L e1 S aq;go_upto_region 5 with fail
 have Q:Ae (AC (Ac wr (Ak #[y,q,Z A nn B] 126)) w v.cells 160/\AC (Ac wr (Ak #[y,q,Z A nn B] 126)) wr #[y,q,Z A nn B] 126/\Ab (Ac wr (Ak #[y,q,Z A nn B] 126)) U 2 1 (Z O d P) d (Ad As d)/\Ah U U (Ac wr (Ak #[y,q,Z A nn B] 126))):=⟨(C.1.a7 f.2.2.2).a7 (Aq _ _),AC.new _ _ _,f.1.alloc _,f.2.2.2.alloc f.2.2.2.size _⟩
 generalize wr.heap.size=X at Q⊢;refine Ax (λu=>Ae (AC u w v.cells 160/\AC u X #[y,q,Z A nn B] 126/\Ab u U 2 1 (Z O d P) d (Ad As d)/\Ah U U u)) Q ?_
 rintro U5 j;clear Q W i1 i2 G;have b1:=j.2.1.cell 1;simp only[kB,i9,kC]at b1;have p7:=j.1.cell 7;simp only[BI.cells]at p7;simp only[R.2.1,R.2.2]at p7;have r:=R.1;rw[<-(Ar C.2 lR j.2.2.2).cell (hC r)]at r;by_cases I:x.op=29
 . rw [I]at r;have aY:=f.2.2.1;go_wp2_with (at_builtin;refine wpList_append_own _ rfl _ _ 46 rfl U 2 k0 (iZ 0) 1 8 underlying46 hk aM aP aQ rfl dC _ d (Ad As d) rfl (j.2.2.1.alloc _) U5 1 1 [k] rfl rfl (Go.cell_one_new _ _ _) (λu hu=>by simp at hu;subst hu;rfl) oX oM (by have:=j.2.2.2.size;simp;omega) ?_;intro v' w3 aF aA aJ);have aj:Ae (Ab w3 U 2 1 v' (d++[(k:Int)]).length (Ad As (d++[(k:Int)]))/\Ah U U w3):=by have o1:=j.2.2.1;refine⟨?_,(j.2.2.2.alloc j.2.2.2.size _).grown aA (by have:=j.2.2.2.size;simp;omega) (λi hi=>(o1.lt i hi).1)⟩;rw[lL,kE];exact aF
   clear aF aA aJ;go_roundw;case rel=>
    refine⟨k+1,d++[(k:Int)],oM,by go_num,aj.1, λz=> ?_,by rw[kE];simp;omega,aj.2⟩;rw[kO,f.2.1 z];simp only[kY,lG,mS];constructor
    . rintro(⟨b,l,t,p⟩|rfl)
      . exact⟨b,l,oM,p⟩
      exact⟨k,rfl,oM,am.2 I⟩
    rintro⟨b,l,t,p⟩;by_cases e:b=k
    . exact .inr (by rw[l,e])
    exact .inl ⟨b,l,oM,p⟩
   case measure=>exact oI
 have aX:(x.op==29)=false:=by simpa using I
 go_wp2_with fail;go_roundw;case rel=>
  refine⟨k+1,d,oM,by go_num,j.2.2.1, λz=> ?_,by have:=f.2.2.1;omega,j.2.2.2⟩;rw[f.2.1 z];constructor
  . rintro⟨b,l,t,p⟩;exact⟨b,l,oM,p⟩
  rintro⟨b,l,t,p⟩;refine⟨b,l,?_,p⟩;by_cases e:b=k
  . subst e;exact absurd (am.1 p) I
  omega
 case measure=>exact oI
theorem PL(d:Nat)(h:Int)(x:Ey)(a:Option Addr)(c:Nat)(b:List Int)(z:Int)(w:Y)(k:b.length<=1048576)(f:AC w d #[h,Z x.a x.n x.c,Z a b c] 85)(g:Rd w 1 (Z a b c) b (Ad As b)):
 Ai Ap 166 #[z,.pointer d] w λe l=>AJ e (¬z∈b)/\l=w:=by
 obtain⟨m,p,r⟩:=Cl f;have H:=Av g;clear f g;go_enter func166,ntmps166;go_wp2_with fail;refine(ES a c b z w k H).mono ?_;rintro e u ⟨⟨q,rfl,i⟩,rfl⟩;have j:=Av i;clear i;go_wp2;go_ret;exact⟨.of (by rw[<-j.o];cases q<;>simp),rfl⟩
theorem Rg(s:Option Addr)(D:Nat)(d:List Int)(l:Nat)(h:Int)(x:Ey)(a:Option Addr)(c:Nat)(f:List Int)(w:Y)(Q:f.length<=1048576)(v:AC w l #[h,Z x.a x.n x.c,Z a f c] 85)(m:Rd w 1 (Z a f c) f (Ad As f))(U:d.length<=1048576)(B:Rd w 1 (Z s d D) d (Ad As d)):
 Ai Ap 183 #[Z s d D,.func (.func 166) #[] #[.pointer l]] w λe R=>(∃n:Int,e=Al n/\(0<=n↔∃z∈d,¬z∈f))/\R=w:=by
 have H:=Av (d5 v (d5 m B));clear v m B;go_enter func183,ntmps183;go_wp2;go_loopw [8] (λi wr=>∃k:Nat,k<= ↑d/\i=iZ k/\Ae (∀z∈d.take k,z∈f)/\wr=w) (λi _=> ↑d-(intOf i).toNat)
 case atStart=>exact⟨0,oM,rfl, λz j=>by simp at j,rfl⟩
 case round=>
 obtain⟨k,m,rfl,r,rfl⟩:=hrel;by_cases P:k< ↑d
 case pos=>
  have T:(k:Int)<(d:Int):=oM;obtain⟨z,j⟩:∃z,d[k]?=K z:=⟨_,an P⟩;obtain⟨g,o,I,S⟩:∃g o,s=K ⟨g,o,M⟩/\wr ⟨g,o+k,M⟩=K (iZ z):=by
   rcases H.2.2.2 with⟨q,_⟩|⟨g,o,c',u,O⟩
   . omega
   simp only[i8,lB]at u;exact⟨g,o,u.1,O k _ (Db j)⟩
  subst I;have t:=Av j;clear j;go_wp2_with fail;refine(PL l h x a c f z wr Q H.1 H.2.1).mono ?_;rintro e V ⟨⟨b,rfl,A⟩,rfl⟩;have p:=Av A;clear A;cases b
  case true=>have G:Ae (∃z∈d,¬z∈f):=⟨z,i7 t,p.1 rfl⟩;go_wp2;go_ret;exact⟨⟨(k:Int),rfl, λ_=>G.o, λ_=>oM⟩,rfl⟩
  case false=>
   have F:Ae (∀z∈d.take (k+1),z∈f):= λy C=>by
    rw[List.take_add_one,t]at C;rcases kO.1 C with q|q
    . exact r.o y q
    simp at q;subst q;exact lW λq=>by have:=p.2 q;cases this
   go_wp2;go_roundw;(case rel=>exact⟨k+1,oM,by go_num,F,by trivial⟩);exact oI
 have E:Ae (¬∃z∈d,¬z∈f):= λ⟨z,L,N⟩=>N (r.o z (by rw[k8 (show ↑d<=k from oM)];exact L))
 go_wp2;go_ret;exact⟨⟨-1,rfl, λe=>absurd e dC, λe=>absurd e E.o⟩,rfl⟩
theorem Q3(s:Option Addr)(g:Nat)(b:List Int)(f:Nat)(h:Int)(x:Ey)(a:Option Addr)(c:Nat)(d:List Int)(w:Y)(q:d.length<=1048576)(i:AC w f #[h,Z x.a x.n x.c,Z a d c] 85)(k:Rd w 1 (Z a d c) d (Ad As d))(p:b.length<=1048576)(j:Rd w 1 (Z s b g) b (Ad As b)):
 Ai Ap 167 #[Z s b g,.func (.func 166) #[] #[.pointer f]] w λe r=>AJ e (∃z∈b,¬z∈d)/\r=w:=by
 have H:=Av (Rg s g b f h x a c d w q i k p j);clear i k j;go_enter func167,ntmps167;go_wp2_with fail;refine H.mono ?_;rintro e t ⟨⟨n,rfl,l⟩,rfl⟩;have m:=Av l;clear l;go_wp2;go_ret;exact⟨.of (by simpa using m.o),rfl⟩
def QR(a:List MB)(c:List Int)(b:Nat):Prop:=∃m,a[b]?=K m/\∃t∈m.next,¬t∈c
theorem Pz(v:BI)(F:List (MB×J))(N:Nat)(h:Nat)(x:Ey)(y:Option Addr)(A:Nat)(d:List Int)(w:Y)(E:Ju w v F N)(ao:∀z∈F,Vg w z.2 z.1/\z.1.next.length<=1048576)(hn:d.length<=1024)(hk:Rd w 1 (Z y d A) d (Ad As d))(hz:∀z∈d,∃b:Nat,z=(b:Int)/\b< ↑F):
 Ai Ap 150 #[Am v.cells,Am #[h,Z x.a x.n x.c,Z y d A]] w λe w'=>∃(a:Option Addr) (c:Nat) (j:List Int),e=Al (Z a j c)/\Rd w' 1 (Z a j c) j (Ad As j)/\(∀z,z∈j↔z∈d/\QR (F.map Prod.fst) d z.toNat)/\j.length<=1024/\Ah w w w':=by
 obtain⟨k0,aG,aI,aJ,aM⟩:=lS Bp;have H:=Av (d5 E (d5 ao (d5 hk hz)));have aR:F.length<=1024:=E.len;obtain⟨t,bc,eb⟩:=E.rd.dk;simp only[i8]at eb;have aw:=Av eb.2.1;clear E ao hk hz eb t bc;obtain⟨t,ae⟩:∃t,v.b.a=t:=⟨_,rfl⟩;have P:=Av ae;clear ae;have O:=BL w v.cells #[h,Z x.a x.n x.c,Z y d A] 160 85;go_enter func150,ntmps150;go_upto_region 1 with fail
 refine Ax (λu=>Ae (AC u w v.cells 160/\AC u ((w:Nat)+1) #[h,Z x.a x.n x.c,Z y d A] 85/\Ah w w u)) O ?_
 rintro U r;clear O;obtain⟨l0,l1,l2⟩:=Cl r.2.1;go_wp2_with fail;clear l0 l1 l2;go_loopw [6,13] (λs i wr=>∃(k:Nat) (j:List Int),k<= ↑d/\i=iZ k/\Ae (Ab wr U 2 1 s j (Ad As j)/\(∀z,z∈j↔z∈d.take k/\QR (F.map Prod.fst) d z.toNat)/\ ↑j<=k/\Ah U U wr)) (λ_ i _=> ↑d-(intOf i).toNat)
 case atStart=>exact⟨0,[],oM,rfl,lQ _ _ _ _, λz=>sP,sP,kS _ _⟩
 case round=>
 obtain⟨k,j,aQ,rfl,f⟩:=hrel;by_cases aj:k< ↑d
 case neg=>
  obtain⟨sa,sc,G⟩:=AO f.1;subst G;have HP:Ae (∀z,z∈j↔z∈d/\QR (F.map Prod.fst) d z.toNat):= λz=>by rw[f.2.1 z,k8 (show ↑d<=k from oM)]
  go_wp2_with fail;go_ret;exact⟨sa,sc,j,rfl,Rd.gM f.1,HP,by have:=f.2.2.1;omega,Ar r.2.2 lR f.2.2.2⟩
 have aS:(k:Int)<(d:Int):=oM;have B:=Av (Ar r.2.2 lR f.2.2.2);obtain⟨b,W,hb⟩:=H.2.2.2 d[k] (mN aj);have L:d[k]?=K (b:Int):=by rw[an aj,W]
 obtain⟨kg,ko,aF,e0⟩:∃g o,y=K ⟨g,o,M⟩/\wr ⟨g,o+k,M⟩=K ↑b:=by
  rcases(Rd.a7 H.2.2.1 B lR).2 with⟨q,_⟩|⟨g,o,c',D,hc⟩
  . omega
  simp only[i8,lB]at D;exact⟨g,o,D.1,hc k _ (Db L)⟩
 subst aF;obtain⟨m,g,o,ma,me,nx,hm,T,en,i0,i1,i2,D,e2,aT,aU,X⟩:=(H.1.a7 B).at hb;obtain⟨I,am⟩:=H.2.1 _ (i7 X);obtain⟨na,nc,V⟩:=Rd.dk I;simp only[]at V am;subst V;obtain rfl:t=K ⟨g,o,M⟩:=by rw[<-P];exact T
 have C:=Av (d5 L (d5 hm (Rd.a7 I B lR)));have aP:(b:Int)<(F:Int):=oM;obtain⟨sa,sc,G⟩:=AO f.1;subst G;have au:=(r.1.a7 f.2.2.2).cell 11;simp only[BI.cells]at au;simp only[aw.o,P.o]at au;have aE:=Av (r.2.1.a7 f.2.2.2);have aA:=Av (Rd.a7 H.2.2.1 B lR);clear L hm I X W D e2 T en i0 i1;go_wp2_with fail;refine(Q3 na nc m.next ((w:Nat)+1) (h:Int) x (K ⟨kg,ko,M⟩) A d wr oM aE aA am C.2.2).mono ?_;rintro e u1 ⟨⟨q,rfl,hq⟩,rfl⟩;have R:Ae (q=true↔QR (F.map Prod.fst) d b):=hq.trans ⟨λh=>⟨m,C.2.1,h⟩, λ⟨m',l,p⟩=>by
  rw[C.2.1]at l;cases l
  exact p⟩
 clear hq;have Q:Ae (∀z,z∈d.take (k+1)↔z∈d.take k\/z=(b:Int)):= λz=>by rw[List.take_add_one,C.1,kO];simp
 cases q
 case true=>
  have aW:=f.2.2.1;go_wp2_with (at_builtin;refine wpList_append_own _ rfl _ _ 46 rfl U 2 k0 (iZ 0) 1 8 underlying46 aG aI aJ aM rfl dC _ j (Ad As j) rfl (f.1.alloc _) u1 1 1 [b] rfl rfl (Go.cell_one_new _ _ _) (λu hu=>by simp at hu;subst hu;rfl) oX oM (by have:=f.2.2.2.size;simp;omega) ?_;intro v' w3 aq ah aH);have S:Ae (Ab w3 U 2 1 v' (j++[(b:Int)]).length (Ad As (j++[(b:Int)]))/\Ah U U w3):=by have o1:=f.1;refine⟨?_,(f.2.2.2.alloc f.2.2.2.size _).grown ah (by have:=f.2.2.2.size;simp;omega) (λi hi=>(o1.lt i hi).1)⟩;rw[lL,kE];exact aq
  clear aq ah aH;go_roundw;case rel=>
   refine⟨k+1,j++[(b:Int)],oM,by go_num,S.1, λz=> ?_,by rw[kE];simp;omega,S.2⟩;rw[kO,f.2.1 z,Q.o z];simp only[kY,lG,mS];constructor
   . rintro(⟨l,p⟩|rfl)
     . exact⟨.inl l,p⟩
     exact⟨.inr rfl,R.1 (by trivial)⟩
   rintro⟨l|l,p⟩
   . exact .inl ⟨l,p⟩
   exact .inr l
  case measure=>exact oI
 case false=>
  go_wp2_with fail;go_roundw;case rel=>
   refine⟨k+1,j,oM,by go_num,f.1, λz=> ?_,by have:=f.2.2.1;omega,f.2.2.2⟩;rw[f.2.1 z,Q.o z];constructor
   . rintro⟨l,p⟩;exact⟨.inl l,p⟩
   rintro⟨l|l,p⟩
   . exact⟨l,p⟩
   subst l;have:=R.2 p;cases this
  case measure=>exact oI
def Kq(x y:Int):Int:=if x<y then -1 else if y<x then 1 else 0
theorem Sk(x:Int)(w:Y):Ai Ap 161 #[x] w λe a=>e=Al false/\a=w:=by go_enter func161,ntmps161;go_wp2;go_ret;exact⟨rfl,rfl⟩
theorem S3(x y:Int)(w:Y):Ai Ap 145 #[x,y] w λe h=>e=Al (Kq x y)/\h=w:=by
 have b:=Av (Sk x);have c:=Av (Sk y);unfold Kq;by_cases d:x<y
 . rw[kZ d];go_enter func145,ntmps145;go_wp2_with fail;refine(b.o w).mono ?_;rintro e u ⟨rfl,rfl⟩;go_wp2_with fail;refine(c.o u).mono ?_;rintro e f ⟨rfl,rfl⟩;go_wp2_with fail;go_ret;exact⟨rfl,rfl⟩
 rw[kP d];by_cases a:y<x
 . rw[kZ a];have g:x>y:=a;go_enter func145,ntmps145;go_wp2_with fail;refine(b.o w).mono ?_;rintro e u ⟨rfl,rfl⟩;go_wp2_with fail;refine(c.o u).mono ?_;rintro e f ⟨rfl,rfl⟩;go_wp2_with fail;go_ret;exact⟨rfl,rfl⟩
 rw[kP a];have g:¬x>y:=a;go_enter func145,ntmps145;go_wp2_with fail;refine(b.o w).mono ?_;rintro e u ⟨rfl,rfl⟩;go_wp2_with fail;refine(c.o u).mono ?_;rintro e f ⟨rfl,rfl⟩;go_wp2_with fail;go_ret;exact⟨rfl,rfl⟩
theorem Sl(x:Int)(w:Y):Ai Ap 162 #[x] w λe a=>e=Al false/\a=w:=by go_enter func162,ntmps162;go_wp2;go_ret;exact⟨rfl,rfl⟩
theorem S4(x y:Int)(w:Y):Ai Ap 146 #[x,y] w λe h=>e=Al (Kq x y)/\h=w:=by
 have b:=Av (Sl x);have c:=Av (Sl y);unfold Kq;by_cases d:x<y
 . rw[kZ d];go_enter func146,ntmps146;go_wp2_with fail;refine(b.o w).mono ?_;rintro e u ⟨rfl,rfl⟩;go_wp2_with fail;refine(c.o u).mono ?_;rintro e f ⟨rfl,rfl⟩;go_wp2_with fail;go_ret;exact⟨rfl,rfl⟩
 rw[kP d];by_cases a:y<x
 . rw[kZ a];have g:x>y:=a;go_enter func146,ntmps146;go_wp2_with fail;refine(b.o w).mono ?_;rintro e u ⟨rfl,rfl⟩;go_wp2_with fail;refine(c.o u).mono ?_;rintro e f ⟨rfl,rfl⟩;go_wp2_with fail;go_ret;exact⟨rfl,rfl⟩
 rw[kP a];have g:¬x>y:=a;go_enter func146,ntmps146;go_wp2_with fail;refine(b.o w).mono ?_;rintro e u ⟨rfl,rfl⟩;go_wp2_with fail;refine(c.o u).mono ?_;rintro e f ⟨rfl,rfl⟩;go_wp2_with fail;go_ret;exact⟨rfl,rfl⟩
theorem Xl(g:Nat)(a b r:Int)(w:Y)(n:w g=K ↑a)(p:w ⟨g,1,M⟩=K ↑b)(k:r=if a=0 then b else a):
 Ai Ap 144 #[Z g 2 2] w λe q=>e=Al r/\q=w:=by
 have f:=Av k;clear k;go_enter func144,ntmps144;go_wp2_with fail;go_loopw [8] (λi wr=>wr=w/\(i=Ag Af 0\/i=Ag Af 1/\a=0\/i=Ag Af 2/\a=0/\b=0)) (λi _=>2-(intOf i).toNat)
 case atStart=>exact⟨rfl,.inl rfl⟩
 obtain⟨rfl,rfl|⟨rfl,c⟩|⟨rfl,c,j⟩⟩:=hrel
 . by_cases e:a=0
   . have h:=Av e;rw[e]at n;clear e;go_wp2_with fail;go_roundw;(case rel=>exact⟨by trivial,.inr (.inl ⟨by trivial,h⟩)⟩);simp[intOf]
   (have m:(a==0)=false:=by simpa using e);(have d:r=a:=by rw[f,kP e]);subst d;go_wp2_with fail;go_ret;exact⟨rfl,rfl⟩
 . have h:=Av c;by_cases e:b=0
   . have l:=Av e;rw[e]at p;clear e c;go_wp2_with fail;go_roundw;(case rel=>exact⟨by trivial,.inr (.inr ⟨by trivial,h,l⟩)⟩);simp[intOf]
   (have m:(b==0)=false:=by simpa using e);(have d:r=b:=by rw[f,kZ c]);clear c;subst d;go_wp2_with fail;go_ret;exact⟨rfl,rfl⟩
 have d:r=0:=by rw[f,kZ c,j]
 clear c j f;subst d;go_wp2_with fail;go_ret;exact⟨rfl,rfl⟩
theorem WT(x y:LV):(if Kq (x.yn:Int) (y.yn:Int)=0 then Kq x.h y.h else Kq (x.yn:Int) (y.yn:Int))=LV.cmp x y:=by
 unfold LV.cmp Kq;by_cases a:x.yn<y.yn
 . have:(x.yn:Int)<(y.yn:Int):=oM;simp[a,this]
 have:¬(x.yn:Int)<(y.yn:Int):=oM;by_cases b:y.yn<x.yn
 . have:(y.yn:Int)<(x.yn:Int):=oM;simp[a,b]
 have:¬(y.yn:Int)<(x.yn:Int):=oM;simp[a,b]
theorem P9(x y:LV)(W:Y):Ai Ap 143 #[Am x.enc.toArray,Am y.enc.toArray] W λe a=>e=Al (LV.cmp x y)/\∃q H,a=Go.Sort.grow (W.drewN q) H:=by
 have p:=WT x y;obtain⟨c,r,z,t,j,f,l⟩:=x;obtain⟨d,s,C,v,k,g,m⟩:=y;have L:Ae (∀w,Ai Ap 145 #[f,g] w λe a=>e=Al (Kq (f:Int) (g:Int))/\a=w):= λw=>S3 _ _ w
 have N:Ae (∀w,Ai Ap 146 #[c,d] w λe a=>e=Al (Kq c d)/\a=w):= λw=>S4 _ _ w
 simp only[]at p;generalize Kq (f:Int) (g:Int)=c1 at L p;generalize Kq c d=c2 at N p;generalize LV.cmp ⟨c,r,z,t,j,f,l⟩ ⟨d,s,C,v,k,g,m⟩=V at p⊢;have Q:=Av p.symm;clear p;simp only[LV.enc];have F:=BL W #[c,Z r z t,Z j f l] #[d,Z s C v,Z k g m] 85 85;have I:Ae (∃os,Ac (Ac W (Ak #[c,Z r z t,Z j f l] 85)) (Ak #[d,Z s C v,Z k g m] 85)=Go.Sort.grow W os):=⟨_,by rw[Go.Sort.alloc_eq_grow,Go.Sort.alloc_eq_grow,Go.Sort.grow_grow]⟩;go_enter func143,ntmps143;go_upto_region 1 with fail
 refine Ax (λu=>Ae ((AC u W #[c,Z r z t,Z j f l] 85/\AC u ((W:Nat)+1) #[d,Z s C v,Z k g m] 85)/\∃os,u=Go.Sort.grow W os)) ⟨⟨F.1,F.2.1⟩,I⟩ ?_
 rintro U E;clear F I;have D:Ae (AC U.drew W #[c,Z r z t,Z j f l] 85/\AC U.drew ((W:Nat)+1) #[d,Z s C v,Z k g m] 85):=⟨E.1.1.a7 (At _),E.1.2.a7 (At _)⟩
 have O:Ae (∃os,U.drew=Go.Sort.grow (W.drewN 1) os):=by obtain⟨os,e⟩:=E.2;exact⟨os,by rw[e];rfl⟩
 clear E;have G:∀a,AC a W #[c,Z r z t,Z j f l] 85->AC a ((W:Nat)+1) #[d,Z s C v,Z k g m] 85->a.cell? W=K ↑c/\a.cell? ⟨W,2,M⟩=K (Z j f l)/\a.cell? ⟨(W:Nat)+1,0,M⟩=K ↑d/\a.cell? ⟨(W:Nat)+1,2,M⟩=K (Z k g m):= λa A B=>⟨A.cell 0,A.cell 2,B.cell 0,B.cell 2⟩
 refine wp_region_held_drew (S:= λa=>a.cell? W=K ↑c/\a.cell? ⟨W,2,M⟩=K (Z j f l)/\a.cell? ⟨(W:Nat)+1,0,M⟩=K ↑d/\a.cell? ⟨(W:Nat)+1,2,M⟩=K (Z k g m)) kR (G _ D.1 D.2) (λi=> ?_)
 generalize U.drew=T at D O i⊢;refine AK 0 ?_;refine AK 1 ?_;refine AK 2 ?_;refine AK 3 ?_;refine AK 4 ?_;refine AK 5 ?_;refine AK 7 ?_;refine AK 8 ?_;refine AK 9 ?_ (hw:=kR);refine AK 10 ?_ (hw:=kR);refine D3 6 ?_;intro n b;rw[kZ kR];go_simp;refine(L.o T).mono ?_;rintro e X ⟨rfl,rfl⟩;go_simp;refine b.o _ _ i (λi=> ?_);clear b n;refine D3 11 ?_;intro n b;rw[kZ kR];go_simp;refine(N.o X).mono ?_;rintro e P ⟨rfl,rfl⟩;go_simp;refine b.o _ _ i (λi=> ?_);clear b n;refine D3 12 ?_;intro n b;rw[kZ kR];go_simp;refine b.o _ _ (G _ (D.1.a7 (Aq _ _)) (D.2.a7 (Aq _ _))) (λi=> ?_);clear b n;refine D3 13 ?_;intro n b;rw[kZ kR];go_simp;refine(Xl P c1 c2 V _ ((AC.new _ _ _).cell 0) ((AC.new _ _ _).cell 1) Q).mono ?_;rintro e u5 ⟨rfl,rfl⟩;go_simp;refine b.o _ _ i (λi=> ?_);clear b n;refine AK 14 ?_ (hw:=kR);refine wpAnyH_done kR ?_ _;clear i G;have R:Ae (∃q H,Ac P (Ak #[c1,c2] 3)=Go.Sort.grow (W.drewN q) H):=by obtain⟨os,e⟩:=O.o;exact⟨1,_,by rw[e,Go.Sort.alloc_eq_grow,Go.Sort.grow_grow]⟩
 go_wp2;go_ret;exact⟨rfl,R⟩
structure Wj(w u:Y)(v:BI)(y:Me)(sv:J):Prop where
 body:AC u w v.cells 160
 ty:AC u ((w:Nat)+1) #[y.eC,y.at_,y.depth,sv] 163
 e8:Ah w w u
theorem Wj.a7{w u c:Y}{v:BI}{b:J}(h:Wj w u v y b)(a:Ah u u c):Wj w c v y b:=⟨h.body.a7 a,h.ty.a7 a,Ar h.e8 lR a⟩
theorem S6(v:BI)(p:MP)(q:Nat)(f:MF)(y:Me)(s da:Option Addr)(l dc B:Nat)(D:List Int)(w:Y)(bx:p.bW.length<=1048576)(aQ:A4 p 0)(hf:p.bW[q]?=K f)(aR:Jy w (Z v.f.a v.f.n v.f.c) p.bW)(N:Rd w 4 (Z v.c.a v.c.n v.c.c) f.eC (Ad MI.cells f.eC))(bo:f.eC.length<=1024)(hy:SK w (Z s y.gR l) y.gR)(aW:y.gR.length= ↑f.eC)(hd:Rd w 1 (Z da B dc) B (Ad As D))(aM: ↑D=B)(aP:B= ↑p.bW):
 Ai Ap 89 #[Am v.cells,Am #[y.eC,y.at_,y.depth,Z s y.gR l],Z da B dc] w λe w'=>e=Al (GL p f y D)/\Ah w w w':=by
 have C:=BL w v.cells #[y.eC,y.at_,y.depth,Z s y.gR l] 160 163;obtain⟨_,_,ao⟩:=N.dk;simp only[i8]at ao;have bi:y.gR.length<=1024:=oM;have H:=Av (d5 aQ (d5 aR (d5 hf (d5 hy (d5 hd N)))));have A:=Av (d5 aW (d5 aM (d5 aP ao.2.1)));obtain⟨ca,aJ⟩:∃ca,v.c.a=ca:=⟨_,rfl⟩;have aG:=Av aJ;clear aQ aR hf hy hd N aW aM aP ao aJ;obtain⟨k,aq⟩:∃k,y.gR.length=k:=⟨_,rfl⟩;have aY:=Av aq;rw[aq]at C⊢bi;clear aq;go_enter func89,ntmps89;go_upto_region 1 with fail
 refine Ax (λu=>Ae (Wj w u v y (Z s k l))) ⟨C.1,C.2.1,C.2.2⟩ ?_;rintro U V;clear C;have z2:=(BP V.ty).2.2.1;have p7:=V.body.cell 7;simp only[BI.cells]at p7;simp only[A.2.2.2,aG.o]at p7;go_wp2_with fail;clear z2 p7;go_loopw [7,18] (λm i wr=>∃(m0:Int) (j:Nat),m=iZ m0/\i=iZ j/\j<=f.eC.length/\Ae (m0=GN p f.eC y.gR D y.depth j)/\Ae (Wj w wr v y (Z s k l))) (λ_ i _=>f.eC.length-(intOf i).toNat)
 case atStart=>exact⟨y.depth,0,rfl,rfl,oM,rfl,V⟩
 case round=>
 clear V;obtain⟨P,j,rfl,rfl,hj,E,E1⟩:=hrel;by_cases aS:j<f.eC.length;case neg=>obtain rfl:j=f.eC.length:=oM;have am:P=GL p f y D:=E.o;clear E;subst am;go_wp2_with fail;go_ret;exact⟨rfl,E1.e8⟩
 have bt:(j:Int)<(f.eC.length:Int):=oM;obtain⟨x,hx⟩:∃x,f.eC[j]?=K x:=⟨_,an aS⟩;obtain⟨gi,oi,ci,ei,x0,x1,x2,x3⟩:=M6 (H.2.2.2.2.2.a7 E1.e8 lR) hx;simp only[i8]at ei;obtain rfl:ca=K ⟨gi,oi,M⟩:=by rw[<-aG];exact ei.1
 have b7:Ae (x.op=28->∃(c:Nat) (fq:MF),x.a=c/\p.bW[c]?=K fq):= λe=>(H.1.iB H.2.2.1 hx).callee e
 have HX:=Av hx;clear ei hx;go_upto_region 5 with fail
 have E4:Ae (Wj w (Ac wr (Ak #[iZ x.op,iZ x.a,iZ x.b,iZ x.c] 72)) v y (Z s k l)/\AC (Ac wr (Ak #[iZ x.op,iZ x.a,iZ x.b,iZ x.c] 72)) wr.heap.size #[iZ x.op,iZ x.a,iZ x.b,iZ x.c] 72):=⟨E1.a7 (Aq _ _),AC.new _ _ _⟩
 refine Ax (λu=>Ae (Wj w u v y (Z s k l)/\AC u wr.heap.size #[iZ x.op,iZ x.a,iZ x.b,iZ x.c] 72)) E4 ?_
 rintro U4 t;clear E4 x0 x1 x2 x3;generalize wr.heap.size=X at t⊢;have i0:=(BP t.2).1;by_cases O:x.op=28;case neg=>
  have am:Ae (P=GN p f.eC y.gR D y.depth (j+1)):=by (have e:GN p f.eC y.gR D y.depth (j+1)=GN p f.eC y.gR D y.depth j:=by simp only[GN,HX.o,kP O]);exact E.trans e.symm
  have bu:(x.op==28)=false:=by simpa using O
  go_wp2_with fail;go_roundw;case rel=>exact⟨P,j+1,rfl,by go_num,oM,am,t.1⟩
  exact oI
 rw[O]at i0;obtain⟨d,fq,aF,aj⟩:=b7.o O;have aZ:=Av aF;have br:=(i6.1 aj).1;obtain⟨gk,ok,ck,ah,g,aT,n0,_,_,_⟩:=Io H.2.1 aj;simp only[i8]at ah;obtain⟨h1,h3,h4,h6,h7,h9,rfl⟩:=EH aT;simp only[]at n0;have aH:=Av (d5 ah.1 ah.2.1);obtain⟨I,os,a1,sr,c1,es,aU,aA⟩:=Xs H.2.2.2.1 (show j<y.gR.length by rw[A.1];exact aS);subst es;obtain⟨T,aE⟩:∃T,sr.length=T:=⟨_,rfl⟩;rw[aE]at aA;obtain⟨R,aw⟩:∃R,fq.gw.length=R:=⟨_,rfl⟩;rw[aw]at n0;obtain⟨ae,au⟩:∃z,D[d]?=K z:=⟨_,an (by have:=A.2;omega)⟩;obtain⟨G,Q,ea,kz⟩:∃G Q,da=K ⟨G,Q,M⟩/\w.cell? ⟨G,Q+d,M⟩=K (iZ ae):=by
  rcases H.2.2.2.2.1.2 with⟨e0,_⟩|⟨g1,o1,bj,e1,N⟩
  . have:=A.2.2.1;omega
  simp only[i8,lB]at e1;exact⟨g1,o1,e1.1,N d _ (Db au)⟩
 subst ea;obtain⟨d1,bf⟩:∃d1,IntKind.i64.wrap ((T:Int)-(R:Int))=d1:=⟨_,rfl⟩;obtain⟨F,bg⟩:∃F,IntKind.i64.wrap (d1+ae)=F:=⟨_,rfl⟩;have aX:Ae (GN p f.eC y.gR D y.depth (j+1)=max P F):=by
  have e1:JE p y.gR D j x=F:=by unfold JE;rw[aU,aF,kA,aj,DL au];simp only[nL,aE,aw];rw[bf,bg]
  have e:GN p f.eC y.gR D y.depth (j+1)=max (GN p f.eC y.gR D y.depth j) (JE p y.gR D j x):=by simp only[GN,HX.o,kZ O]
  rw[<-E,e1]at e;exact e
 have bq:(d:Int)<(p.bW.length:Int):=oM;have bp:(d:Int)<(B:Int):=by have:=A.2.2.1;omega
 have bB:(j:Int)<(k:Int):=by have:=A.1;have:=aY.o;omega
 have HS:Ae (∀W:Y,Wj w W v y (sO I os k l)->AC W X #[x.op,x.a,x.b,x.c] 72->W ⟨(w:Nat)+1,3,M⟩=K (sO I os k l)/\W ⟨I,os+j,M⟩=K (Z a1 T c1)/\W ⟨w,2,M⟩=K (sO gk ok p.bW v.f.c)/\W ⟨X,1,M⟩=K ↑d/\W ⟨gk,ok+d*4,M⟩=K (Z h1 R h3)/\W ⟨G,Q+d,M⟩=K ↑ae):= λW L hB=>by
  refine⟨(BP L.ty).2.2.2,Au L.e8 aA,?_,?_,Au L.e8 n0,Au L.e8 kz⟩
  . have:=L.body.cell 2;simp only[BI.cells]at this;simp only[aH.1,aH.2]at this;exact this
  have:=(BP hB).2.1;rw[aZ]at this;exact this
 clear aU aE aw au aj aT aF ah n0 aA kz E;go_upto_region 6 with fail
 have r:=Av (d5 (t.1.a7 (At _)) (t.2.a7 (At _)));refine wp_region_held_drew (S:= λW=>W ⟨(w:Nat)+1,3,M⟩=K (sO I os k l)/\W ⟨I,os+j,M⟩=K (Z a1 T c1)/\W ⟨w,2,M⟩=K (sO gk ok p.bW v.f.c)/\W ⟨X,1,M⟩=K ↑d/\W ⟨gk,ok+d*4,M⟩=K (Z h1 R h3)/\W ⟨G,Q+d,M⟩=K ↑ae) kR (HS.o _ r.1 r.2) (λaI=> ?_)
 clear t i0;generalize U4.drew=UD at r aI⊢;refine AK 0 ?_;refine AK 1 ?_;refine AK 2 ?_;refine AK 3 ?_;refine AK 4 ?_;refine AK 5 ?_;refine AK 6 ?_;refine AK 7 ?_;refine AK 8 ?_;refine AK 9 ?_;refine AK 10 ?_;refine AK 11 ?_;refine AK 12 ?_;refine AK 13 ?_;refine AK 14 ?_;refine AK 15 ?_;refine AK 16 ?_;refine AK 17 ?_;refine wpAnyH_done kR ?_ _;go_simp;have ha:=(HS.o _ r.1 r.2).2.2.2.1;have hb:=(HS.o _ r.1 r.2).2.2.2.2.2;clear aI;go_wp2_with fail;go_roundw;case rel=>exact⟨max P F,j+1,rfl,by go_num,oM,aX.symm,r.1⟩
 exact oI
end Go.Proofs.YtmalfecapdmdbaaGreat
