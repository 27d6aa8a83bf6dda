import Derived.Test.YtadcneiiokbofaaGreatBo28
import Derived.Test.YtadcneiiokbofaaGreatBo19
import Derived.Test.YtadcneiiokbofaaGreatBo34
namespace Go.Proofs.YtadcneiiokbofaaGreat
open Go.ChangeShapes Go.WideShapes Go.ChangeAt Go.RowKit Go.Proofs.Tryz
set_option linter.unusedVariables false
open Option renaming some → K,none → M
open Go renaming Value → J,World → Y,Calls → Ai
open Go.IntKind renaming i64 → Af
open Go.Value renaming int → Ag,slice → Z,agg → Am
open Go.RowKit renaming Hid → Ae,Below → Ah
open Go.Ending renaming returned → Al
open Go.Proofs.Tryz renaming prog → Ap
open List renaming flatMap → Ad
set_option maxHeartbeats 8000000
set_option maxRecDepth 100000
variable {a c v v' d c' a' g:Int}{s:J}{f:MF}{q:Nat}{α:Type}{u:Y}{rs:List (List Int)}
structure Gd(r:CS)(E:Nat->List Nat)(n:Nat)(O:List Nat)(D L:Nat->Nat->Bool):Prop where
 eE:E=nx r.a8
 nn:n= ↑r.a8
 fl:Hd E n (Dl O) D
 ord:r.gY=ints O.reverse
 oa:∀b,b<n->∃j:Nat,O.reverse[j]?=K b
 il:∀h y,L h y=true↔AR E D n h y
 gX:r.gX=BI E D L n n
 nd:O.Nodup
 om:∀x,x∈O↔x<n
def La(E:Nat->List Nat)(D L:Nat->Nat->Bool)(n h:Nat):ML:=⟨(h:Int),ints (AK E D n h),ints ((List.range n).filter (L h))⟩
theorem Be.gd{xs:List MI}{r:CS}(h:Be xs r)(a:r.bO=0):∃O D L,Gd r (nx r.a8) r.a8 O D L:=by
 cases h with
 |none _=>cases a
 |off _ _ _=>cases a
 |lost _ _ _ _ _ _ _ _=>cases a
 |two _ _ _ _ _ _ _ _=>cases a
 | @good x S O D L I g x1 o1 v1 s1 d1 b1 i1 l1=>
   obtain⟨d,l,_,i,_⟩:=CA (Es g) (JF g) v1 s1;refine⟨O,D,L,rfl,rfl,⟨d,d1, λb f t n k=> ?_, λy p=> ?_⟩,rfl, λb f=> ?_,l1,rfl,l,i⟩
   . by_cases e:D t b=true
     . exact(d1 t b).1 e
     exact absurd ⟨k,e⟩ (b1 b f t n)
   . (suffices ∀m y,Dl O y<=m->y<(AL xs).length->Ef (nx (AL xs)) (λ_=>True) 0 y from this _ y lR p);intro m;induction m with
     | zero=>
       intro y j c;by_cases e:y=0
       . subst e;exact .here trivial
       have:=d.gZ y c e;omega
     | succ m s=>
       intro y j c;by_cases e:y=0
       . subst e;exact .here trivial
       obtain⟨q,u,v,w⟩:=d.par y c e;exact .step (s q oM u) v trivial
   exact⟨_,Ic ((i b).2 f)⟩
section
variable {r:CS} {E:Nat->List Nat} {n:Nat} {O:List Nat} {D L:Nat->Nat->Bool} {sl:List ML} {k h:Nat} {l:ML}
theorem Gd.mem(g:Gd r E n O D L):l∈r.gX↔∃h,h<n/\AK E D n h≠[]/\l=La E D L n h:=by
 rw[g.gX];unfold BI;rw[List.mem_filterMap];constructor
 . rintro⟨h,b,a⟩;by_cases e:AK E D n h=[]
   . rw[lZ e]at a;cases a
   rw[lS e]at a;(cases a);exact⟨h,nE.1 b,e,rfl⟩
 rintro⟨h,b,a,rfl⟩;exact⟨h,nE.2 b,by rw[lS a];rfl⟩
theorem Gd.kL(g:Gd r E n O D L):r.gX.Pairwise λa b=>a.head<b.head:=by
 rw[g.gX];unfold BI;rw[List.pairwise_filterMap];refine oh.imp ?_;intro a b h x c y d;by_cases e:AK E D n a=[]
 . rw[lZ e]at c;cases c
 by_cases f:AK E D n b=[]
 . rw[lZ f]at d;cases d
 rw[lS e]at c;rw[lS f]at d;cases c
 cases d
 show(a:Int)<(b:Int);omega
theorem Ln(g:Hd E n (Dl O) D)(c:AK E D n h≠[]):h<n:=by obtain⟨p,d⟩:=List.exists_mem_of_ne_nil _ c;obtain⟨a,b,_⟩:=(DG _ _ _ _ _).1 d;exact g.P.jb p a h b
def hN(l:ML):Nat:=l.head.toNat
theorem LN:hN (La E D L n h)=h:=by unfold hN La;exact lD h
theorem OY:(La E D L n h).a8.length=((List.range n).filter (L h)).length:=by simp[La,ints]
theorem Gd.jO(g:Gd r E n O D L)(u:sl.Perm r.gX)(v:sl.Pairwise IY)(b:sl[k]?=K (La E D L n h))(y:AK E D n h≠[]):Ty E n D L (λx=>x∈(sl.take k).map hN) h where
 lt:=Ln g.fl y
 il:=g.il
 s1 x hx hl:=by
  have z:La E D L n x∈sl:=u.symm.subset (g.mem.2 ⟨x,Ln g.fl hx,hx,rfl⟩);obtain⟨j,a⟩:=mJ z;obtain⟨p,l⟩:=i8.1 a;obtain⟨s,m⟩:=i8.1 b;rw[<-OY (E:=E) (D:=D),<-OY (E:=E) (D:=D)]at hl;have d:j<k:=by
   rcases Nat.lt_trichotomy j k with c|c|c
   . exact c
   . subst c;rw[a]at b;simp only[lH]at b;rw[b]at hl;exact absurd hl (Nat.lt_irrefl _)
   have:=(nS.1 v) k j s p c;rw[l,m]at this;rcases this with q|⟨q,_⟩<;>omega
  refine mG.2 ⟨La E D L n x,?_,LN⟩;exact lA (i:=j) (by rw[pG d];exact a)
 s2 x hx:=by
  obtain⟨C,A,w⟩:=mG.1 hx;obtain⟨j,a⟩:=mJ A;have d:j<k:=by have:=(i8.1 a).1;simp at this;omega
  rw[pG d]at a;obtain⟨p,l⟩:=i8.1 a;obtain⟨s,m⟩:=i8.1 b;have f:=(nS.1 v) j k p s d;rw[l,m]at f;obtain⟨B,_,_,t⟩:=g.mem.1 (u.subset (lA a));rw[t,LN]at w;subst w;rw[t]at f;refine⟨λe=>by subst e;exact IY.irr _ f,?_⟩;rw[<-OY (E:=E) (D:=D),<-OY (E:=E) (D:=D)];rcases f with q|⟨q,_⟩<;>omega
theorem K6.iff{a b:Nat->Prop}{c:Nat->Nat}(s:K6 E n D a c)(d:∀x,b x↔a x):K6 E n D b c:=by
 have:b=a:=funext λx=>propext (d x)
 rw[this];exact s
theorem Gd.step(g:Gd r E n O D L)(e:sl.Perm r.gX)(f:sl.Pairwise IY)(c:sl[k]?=K (La E D L n h))(d:AK E D n h≠[]){a:Nat->Nat}(s:K6 E n D (λx=>x∈(sl.take k).map hN) a):K6 E n D (λx=>x∈(sl.take (k+1)).map hN) (λb=>if L h b then h else a b):=(Ty.step g.fl s (g.jO e f c d)).iff λx=>by rw[List.take_add_one,c,m9,lT];simp only[Option.toList,nQ,List.map_nil,lw,mK,nJ,LN]
theorem K6.k8:K6 E n D (λx=>x∈(sl.take 0).map hN) (jf (List.range n)):=by refine⟨λb c=>.inl ⟨?_, λx a=>by simp at a⟩, λx a=>by simp at a⟩;exact LW (pB c)
theorem Gd.iq(g:Gd r E n O D L)(a:h<n):EU (λj=>decide (j∈(La E D L n h).a8.map Int.toNat)) n= λb=>L h b=true:=by
 funext b
 apply propext;unfold EU;simp only[my,La,ints,oP,mG,nh,nE,Function.comp,lD,exists_eq_right];constructor
 . exact λh=>h.2.2
 exact λh=>⟨g.fl.i9 a ((g.il _ _).1 h),g.fl.i9 a ((g.il _ _).1 h),h⟩
theorem Gd.jv(g:Gd r E n O D L)(a:h<n)(b:Nat):b∈(La E D L n h).a8.map Int.toNat↔L h b=true:=by simp only[La,ints,oP,mG,nh,nE,Function.comp,lD,exists_eq_right];exact⟨λh=>h.2, λh=>⟨g.fl.i9 a ((g.il _ _).1 h),h⟩⟩
theorem Gd.inB(b:Nat):(b:Int)∈(La E D L n h).back↔b∈AK E D n h:=by simp only[La,ints,mG];exact⟨λ⟨a,c,d⟩=>(show a=b from oM)▸c, λh=>⟨b,h,rfl⟩⟩
theorem Gd.bk(g:Gd r E n O D L)(b:Nat)(a:b∈AK E D n h):L h b=true:=by
 refine(g.il _ _).2 ?_;by_cases e:b=h
 . exact .inl e
 exact .inr ⟨b,a,.here e⟩
theorem Xx.kv(g:Gd r E n O D L){I:List Nat}{C:List Int}{j:Nat->Prop}{t x:Int}{bd:Bool}(s:K6 E n D j (jf I))(q:Ty E n D L j h)(m:∀c,0<=cf C c)(G:Xx E n ((La E D L n h).a8.map Int.toNat) (La E D L n h).back I C h t false bd x):
 Ox E (λb=>L h b=true) (· ∈AK E D n h) (jf I) h (cf C) t (if bd then M else K x):=by
 have p:=q.jV g.fl s;have N:(AR E D n h)= λb=>L h b=true:=funext λb=>propext (g.il h b).symm
 rw[N]at p;have i:=p;rw[<-g.iq q.lt]at i;obtain⟨B,A,k,w,z,R,S,P,Q,v⟩:=G;cases B with
 | true=>(have H:bd=true:=by rcases v with⟨e,_⟩|⟨e,_⟩<;>exact e);rw[H];have:=z.iS g.fl i m;rw[g.iq q.lt]at this;exact .inl ⟨rfl,this⟩
 | false=>
   have u:=z.pass g.fl i m (R rfl) S;rw[g.iq q.lt]at u;refine .inr ⟨cf A,k,w,u,P.iff λb=> ?_,Q.iff λb=> ?_,?_⟩
   . rw[g.jv q.lt,Gd.inB];exact⟨λh=>⟨g.bk b h,h⟩, λh=>h.2⟩
   . unfold Wu;rw[g.jv q.lt];constructor
     . rintro⟨a,y,d,f⟩;exact⟨a,y,d, λe=>f ((g.jv q.lt y).1 e)⟩
     rintro⟨a,y,d,f⟩;exact⟨a,y,d, λe=>f ((g.jv q.lt y).2 e)⟩
   rcases v with⟨e,F,l⟩|⟨e,l⟩
   . rw[e,lS (show¬4294967295<t*k+w from oM),F];rfl
   rw[e,lZ l];rfl
end
def Ps(op:Int):Int:=match ((Cx op)[1]?:Option J)with|some (Ag _ c)=>c|_=>0
def KO(costs:List Int)(x:MI):Prop:=x.op=28->x.a.toNat< ↑costs/\0<=cf costs x.a.toNat/\cf costs x.a.toNat<=4294967295
def EW(costs:List Int)(x:MI):Int:=Ps x.op+if x.op=28 then cf costs x.a.toNat else 0
def El(xs:List MI)(costs:List Int)(a:Nat):Nat->Int
 |0=>0
 |k+1=>El xs costs a k+match xs[a+k]? with|some x=>EW costs x|none=>0
def Cz(xs:List MI)(costs:List Int)(m:MB):Int:=El xs costs m.gZ.toNat (m.last.toNat+1-m.gZ.toNat)
def CZ(xs:List MI)(costs:List Int)(m:MB):Prop:=(∃(j:Nat) (x:MI),m.gZ<=(j:Int)/\(j:Int)<=m.last/\xs[j]?=K x/\¬KO costs x)\/4294967295<Cz xs costs m
def IA(p:MP)(b:Int)(a:List MB)(h:Nat):Int:=match a[h]? with|some m=>(match Cj p.e8 b m.gZ with|some c=>c.init|none=>0)|none=>0
def JJ(xs:List MI)(a:List MB)(b:Nat):Prop:=∃m x,a[b]?=K m/\xs[m.last.toNat]?=K x/\x.op=29
def Ru(p:MP)(a:Int)(costs:List Int)(xs:List MI)(r:CS)(v:Int):Prop:=
 (((∃l∈r.gX,∃k,k≠0/\AU p a xs r.a8 l k)\/∃m∈r.a8,CZ xs costs m)/\v=-1)\/
 ((∀l∈r.gX,AU p a xs r.a8 l 0)/\(∀m∈r.a8,¬CZ xs costs m)/\∃(O:List Nat) (D L:Nat->Nat->Bool) (sl:List ML),Gd r (nx r.a8) r.a8 O D L/\sl.Perm r.gX/\sl.Pairwise IY/\Rv (nx r.a8) r.a8 D L (IA p a r.a8) (JJ xs r.a8) (sl.map hN) (jf (List.range r.a8)) (cf (r.a8.map (Cz xs costs))) v)
def DC(p:MP)(a:Int)(costs:List Int)(v:Int):Prop:=
 ((∀f r,A6 p 0->0<=a->p.aD[a.toNat]?=K f->Be f.bO r->r.bO≠0)/\v=-1)\/
 ∃f r,A6 p 0/\0<=a/\p.aD[a.toNat]?=K f/\Be f.bO r/\r.bO=0/\Ru p a costs f.bO r v
theorem Gd.same{r:CS}{E:Nat->List Nat}{n:Nat}{O f:List Nat}{D a L c:Nat->Nat->Bool}(g:Gd r E n O D L)(e:Gd r E n f a c):D=a/\L=c:=by
 have i:D=a:=by
  funext d b
  have:=(g.fl.D d b).trans (e.fl.D d b).symm;cases h:D d b<;>cases h':a d b<;>simp[h,h']at this<;>rfl
 subst i;refine⟨rfl,?_⟩;funext d b
 have:=(g.il d b).trans (e.il d b).symm;cases h:L d b<;>cases h':c d b<;>simp[h,h']at this<;>rfl
theorem Ru.one{p:MP}{costs:List Int}{xs:List MI}{r:CS}(h:Ru p c costs xs r v)(d:Ru p c costs xs r v'):v=v':=by
 have e:∀{v':Int},((∃l∈r.gX,∃k,k≠0/\AU p c xs r.a8 l k)\/∃m∈r.a8,CZ xs costs m)->(∀l∈r.gX,AU p c xs r.a8 l 0)->(∀m∈r.a8,¬CZ xs costs m)->False:=by
  rintro _ (⟨l,x,k,w,a⟩|⟨m,y,a⟩) s t
  . exact w (a.one (s l x))
  exact t m y a
 rcases h with⟨a,rfl⟩|⟨f,i,O,D,L,sl,g,z,B,c1⟩
 . rcases d with⟨_,rfl⟩|⟨j,n,_⟩
   . rfl
   exact(e (v':=0) a j n).elim
 rcases d with⟨a,rfl⟩|⟨_,_,G,E,F,H,q,A,C,c2⟩
 . exact(e (v':=0) a f i).elim
 obtain⟨rfl,rfl⟩:=g.same q;obtain rfl:=Xi B C (z.trans A.symm);exact c1.one (λh b u=>g.bk b u) c2
theorem DC.one{p:MP}{l:Int}{costs:List Int}(h:DC p l costs v)(m:DC p l costs v'):v=v':=by
 rcases h with⟨c,rfl⟩|⟨f,r,n,q,d,e,s,t⟩
 . rcases m with⟨_,rfl⟩|⟨f,r,g,i,a,b,j,k⟩
   . rfl
   exact absurd j (c f r g i a b)
 rcases m with⟨c,rfl⟩|⟨u,w,g,i,a,b,j,k⟩
 . exact absurd s (c f r n q d e)
 rw[d]at a;cases a
 obtain rfl:=e.one b;exact t.one k
theorem Sq{op:Int}{s:ByteArray}{f:Int}(h:Cx op=#[.string s,Ag Af c,Ag Af f]):Ps op=c:=by unfold Ps;rw[h];rfl
theorem Vk(a:∀op,0<=Ps op){costs:List Int}{x:MI}(h:KO costs x):0<=EW costs x:=by
 unfold EW;have:=a x.op;by_cases e:x.op=28
 . rw[lZ e];have:=(h e).2.1;omega
 rw[lS e];omega
theorem Kf(f:∀op,0<=Ps op){xs:List MI}{costs:List Int}{a k b:Nat}(l:k<=b)(h:∀j x,k<=j->j<b->xs[a+j]?=K x->KO costs x):El xs costs a k<=El xs costs a b:=by
 induction b with
 | zero=>obtain rfl:k=0:=oM;exact Int.le_refl _
 | succ b g=>
   by_cases e:k=b+1
   . subst e;exact Int.le_refl _
   (have c:=g oM λj x c i d=>h j x c oM d);simp only[El];cases hx:xs[a+b]? with
   |none=>simp only[];omega
   | some x=>have:=Vk f (h b x oM oM hx);simp only[];omega
theorem CZ.iW(n:∀op,0<=Ps op){xs:List MI}{costs:List Int}{m:MB}{a e k:Nat}(p:m.gZ=(a:Int))(r:m.last=(e:Int))(s:k<=e+1-a)(i:d<=El xs costs a k\/∃x,xs[a+k]?=K x/\k<e+1-a/\d<=El xs costs a k+Ps x.op)(w:4294967295<d)(v:a<=e+1):CZ xs costs m:=by
 by_cases l:∃(j:Nat) (x:MI),m.gZ<=(j:Int)/\(j:Int)<=m.last/\xs[j]?=K x/\¬KO costs x
 . exact .inl l
 have h:∀j x,j<e+1-a->xs[a+j]?=K x->KO costs x:= λj x y f=>mr λq=>l ⟨a+j,x,oM,oM,f,q⟩
 right;unfold Cz;rw[p,r,lD,lD];rcases i with i|⟨x,f,t,i⟩
 . (have:=Kf n (xs:=xs) (costs:=costs) (a:=a) s λj x _ b c=>h j x b c);omega
 have b:=Kf n (xs:=xs) (costs:=costs) (a:=a) (show k+1<=e+1-a from oM) λj x _ b c=>h j x b c
 have c:El xs costs a (k+1)=El xs costs a k+EW costs x:=by simp only[El,f]
 have u:Ps x.op<=EW costs x:=by
  unfold EW;by_cases g:x.op=28
  . rw[lZ g];have:=((h k x t f) g).2.1;omega
  rw[lS g];omega
 omega
structure IF(p:MP)(fi:Int)(costs:List Int)(xs:List MI)(r:CS)(D L:Nat->Nat->Bool)(sl:List ML)(k:Nat)(bd:Bool)(I:List Nat)(C:List Int):Prop where
 lf:∀l∈sl.take k,AU p fi xs r.a8 l 0
 jP:K6 (nx r.a8) r.a8 D (λx=>x∈(sl.take k).map hN) (jf I)
 cn:∀c,0<=cf C c
 bad:bd=true->(∃m∈r.a8,CZ xs costs m)\/Rv (nx r.a8) r.a8 D L (IA p fi r.a8) (JJ xs r.a8) (sl.map hN) (jf (List.range r.a8)) (cf (r.a8.map (Cz xs costs))) (-1)
 ok:bd=false->(∀m∈r.a8,¬CZ xs costs m)/\∀v,Rv (nx r.a8) r.a8 D L (IA p fi r.a8) (JJ xs r.a8) ((sl.drop k).map hN) (jf I) (cf C) v->Rv (nx r.a8) r.a8 D L (IA p fi r.a8) (JJ xs r.a8) (sl.map hN) (jf (List.range r.a8)) (cf (r.a8.map (Cz xs costs))) v
section
variable {p:MP} {fi:Int} {costs:List Int} {xs:List MI} {r:CS} {O:List Nat} {D L:Nat->Nat->Bool} {sl:List ML} {k hd:Nat} {bd bd2:Bool} {I I2:List Nat} {C:List Int} {l:ML}
theorem YZ(h:∀y∈C,EP y)(c:Nat):0<=cf C c:=by
 unfold cf;rw[lN];cases e:C[c]? with
 |none=>exact Int.le_refl _
 |some y=>exact(h y (lA e)).1
theorem IF.start(g:Gd r (nx r.a8) r.a8 O D L)(c:C.length= ↑r.a8)(f:∀y∈C,EP y)(h:(bd=true->∃m∈r.a8,CZ xs costs m)/\(bd=false->∀b m,b< ↑r.a8->r.a8[b]?=K m->¬CZ xs costs m/\cf C b=Cz xs costs m)):IF p fi costs xs r D L sl 0 bd (List.range r.a8) C:=by
 refine⟨λl c=>by simp at c,K6.k8,YZ f, λe=>.inl (h.1 e), λe=>⟨λm i=> ?_, λv d=> ?_⟩⟩
 . obtain⟨b,a⟩:=mJ i;exact(h.2 e b m (i8.1 a).1 a).1
 have:cf C=cf (r.a8.map (Cz xs costs)):=by
  funext b
  by_cases a:b< ↑r.a8
  . rw[(h.2 e b _ a (an a)).2];exact(Ed (by rw[mE,an a];rfl)).symm
  unfold cf;rw[lN,lN,lW oM,lW (by rw[mD];omega)]
 rw[this]at d;simpa using d
theorem Gd.at_(g:Gd r (nx r.a8) r.a8 O D L)(c:l∈r.gX)(f:l.head=(hd:Int)):l=La (nx r.a8) D L r.a8 hd/\AK (nx r.a8) D r.a8 hd≠[]:=by
 obtain⟨h,_,b,a⟩:=g.mem.1 c;have e:h=hd:=by
  have d:l.head=(h:Int):=by rw[a];rfl
  omega
 subst e;exact⟨a,b⟩
theorem IF.jV(s:IF p fi costs xs r D L sl k bd I C)(g:Gd r (nx r.a8) r.a8 O D L)(i:sl.Perm r.gX)(j:sl.Pairwise IY)(f:sl[k]?=K l)(h:l∈r.gX)(d:l.head=(hd:Int)):TA (nx r.a8) r.a8 D (λx=>x∈(sl.take k).map hN) (jf I) (λb=>b∈l.a8.map Int.toNat) hd:=by
 obtain⟨rfl,c⟩:=g.at_ h d;have a:=g.jO i j f c;have:=a.jV g.fl s.jP;have e:AR (nx r.a8) D r.a8 hd= λb=>b∈(La (nx r.a8) D L r.a8 hd).a8.map Int.toNat:=funext λb=>propext ((g.il hd b).symm.trans (g.jv a.lt b).symm)
 rw[e]at this;exact this
theorem IF.jo(s:IF p fi costs xs r D L sl k bd I C)(g:Gd r (nx r.a8) r.a8 O D L)(e:sl.Perm r.gX)(f:sl.Pairwise IY)(c:sl[k]?=K l)(d:l∈r.gX)(a:l.head=(hd:Int)):∀b,b∈l.a8.map Int.toNat->jf I b=hd->b=hd:=(s.jV g e f c d a).jo
theorem IF.jh(s:IF p fi costs xs r D L sl k bd I C)(g:Gd r (nx r.a8) r.a8 O D L)(d:sl.Perm r.gX)(e:sl.Pairwise IY)(b:sl[k]?=K l)(c:l∈r.gX)(a:l.head=(hd:Int)):jf I hd=hd:=(s.jV g d e b c a).jh
theorem IF.next{t:Int}(s:IF p fi costs xs r D L sl k bd I C)(g:Gd r (nx r.a8) r.a8 O D L)(y:sl.Perm r.gX)(z:sl.Pairwise IY)(f:sl[k]?=K l)(Q:l∈r.gX)(N:l.head=(hd:Int))(F:AU p fi xs r.a8 l 0)(P:IA p fi r.a8 hd=t)(H:C.length= ↑r.a8)(G:∀b,jf I2 b=if b∈l.a8.map Int.toNat then hd else jf I b)(u:Xx (nx r.a8) r.a8 (l.a8.map Int.toNat) l.back I C hd t bd bd2 d)(S:EP d):IF p fi costs xs r D L sl (k+1) bd2 I2 (C.set hd d):=by
 obtain⟨rfl,j⟩:=g.at_ Q N;have h:=g.jO y z f j;have n:jf I2= λb=>if L hd b then hd else jf I b:=by
  funext b
  rw[G b];by_cases e:L hd b=true
  . rw[lZ ((g.jv h.lt b).2 e),lZ e]
  rw[lS (λq=>e ((g.jv h.lt b).1 q)),lS e]
 have m:cf (C.set hd d)= λc=>if c=hd then d else cf C c:=funext λc=>Dx (an (by rw[H];exact h.lt))
 have R:bd=true->bd2=true:= λe=>by
  obtain⟨W,_,_,_,V,_,_,_,_,T⟩:=u;rcases T with⟨i,_⟩|⟨i,_⟩
  . rw[i];exact V.mono e
  exact i
 have w:(sl.drop k).map hN=hd::(sl.drop (k+1)).map hN:=by obtain⟨U,E⟩:=i8.1 f;rw[mq U,E,nQ,LN]
 have A:bd=false->Ox (nx r.a8) (λb=>L hd b=true) (· ∈AK (nx r.a8) D r.a8 hd) (jf I) hd (cf C) (IA p fi r.a8 hd) (if bd2 then M else K d):= λe=>by subst e;rw[P];exact Xx.kv g s.jP h s.cn u
 refine⟨λl' x=> ?_,by rw[n];exact g.step y z f j s.jP, λc=> ?_, λe=> ?_, λe=> ?_⟩
 . rw[List.take_add_one,f]at x;rcases lT.1 x with q|q
   . exact s.lf l' q
   simp at q;rw[q];exact F
 . rw[m];by_cases q:c=hd
   . simp only[lZ q];exact S.1
   simp only[lS q];exact s.cn c
 . cases a:bd with
   |true=>exact s.bad a
   | false=>right;refine(s.ok a).2 _ ?_;rw[w];have:=A a;rw[e]at this;exact .bad this
 . have a:bd=false:=by
    cases a:bd with
    |true=>rw[R a]at e;cases e
    |false=>rfl
   refine⟨(s.ok a).1, λv B=>(s.ok a).2 v ?_⟩;rw[w];have:=A a;rw[e]at this;rw[n,m]at B;exact .step this B
theorem IF.fin(s:IF p fi costs xs r D L sl sl bd I C)(g:Gd r (nx r.a8) r.a8 O D L)(d:sl.Perm r.gX):TA (nx r.a8) r.a8 D (λx=>x∈(sl.take sl).map hN) (jf I) (λb=>b< ↑r.a8) 0:=by
 refine s.jP.whole g.fl (λx f=> ?_) λh=> ?_
 . rw[List.take_length];exact mG.2 ⟨_,d.symm.subset (g.mem.2 ⟨x,Ln g.fl f,f,rfl⟩),LN⟩
 obtain⟨l,a,c⟩:=mG.1 h;have i:=s.lf l a;rw[List.take_length]at a;obtain⟨k,_,_,e⟩:=g.mem.1 (d.subset a);rw[e,LN]at c;subst c;have j:l.head=0:=by rw[e];rfl
 obtain⟨_,_,q⟩:=i;rcases q with⟨_,q⟩|⟨_,_,_,_,⟨_,q⟩|⟨_,⟨_,q⟩|⟨_,⟨_,q⟩|⟨_,⟨_,q⟩|⟨q,_⟩⟩⟩⟩⟩
 . cases q
 . cases q
 . cases q
 . cases q
 . cases q
 exact q (.inl j)
theorem IF.all(s:IF p fi costs xs r D L sl sl bd I C)(b:sl.Perm r.gX):∀l∈r.gX,AU p fi xs r.a8 l 0:= λl a=>s.lf l (by rw[List.take_length];exact b.symm.subset a)
theorem IF.done(s:IF p fi costs xs r D L sl sl bd I C)(g:Gd r (nx r.a8) r.a8 O D L)(c:sl.Perm r.gX)(i:sl.Pairwise IY)(j:bd=false->Rx (nx r.a8) r.a8 (JJ xs r.a8) (jf I) (cf C) v)(b:bd=true->v=-1):Ru p fi costs xs r v:=by
 by_cases a:∃m∈r.a8,CZ xs costs m
 . cases e:bd with
   |true=>exact .inl ⟨.inr a,b e⟩
   |false=>obtain⟨m,d,f⟩:=a;exact absurd f ((s.ok e).1 m d)
 . refine .inr ⟨s.all c, λm h q=>a ⟨m,h,q⟩,O,D,L,sl,g,c,i,?_⟩;cases e:bd with
   | true=>rw[b e];exact(s.bad e).resolve_left a
   | false=>refine(s.ok e).2 v ?_;rw[List.drop_length];exact .nil (j e)
theorem Ot.own{n:Int}(h:Ot p (q:Int) l n)(c:A6 p 0)(d:p.aD[q]?=K f)(e:Be f.bO r)(g:r.bO=0)(i:l∈r.gX):AU p (q:Int) f.bO r.a8 l n:=by
 have b:Kq p (q:Int) l f r:=⟨c,oM,by rw[lD];exact d,e,g,i⟩;rcases h with⟨a,_⟩|⟨j,k,a,h⟩
 . exact absurd b.own a
 obtain⟨rfl,rfl⟩:=b.one a;exact h
end
def YI(xs:List MI)(costs:List Int)(r:CS)(C:List Int)(k:Nat):Prop:=∀b m,b<k->r.a8[b]?=K m->¬CZ xs costs m/\cf C b=Cz xs costs m
structure Uv(xs:List MI)(costs:List Int)(r:CS)(C:List Int)(k ja:Nat)(bad:Bool)(c0:Int)(jj:Nat):Prop where
 le:ja<=jj
 bd:bad=true->∃m∈r.a8,CZ xs costs m
 ok:bad=false->YI xs costs r C k/\(∀j x,ja<=j->j<jj->xs[j]?=K x->KO costs x)/\c0=El xs costs ja (jj-ja)
section
variable {xs:List MI} {costs:List Int} {r:CS} {C:List Int} {k ja je jj:Nat} {bad bad2 bad3:Bool} {c0 c7 c8 ci z:Int} {x:MI} {m:MB}
theorem Sp(op:Int)(a:∃(s:ByteArray) (c f:Int),Cx op=#[.string s,Ag Af c,Ag Af f]/\EP c):0<=Ps op:=by obtain⟨s,c,f,e,h⟩:=a;rw[Sq e];exact h.1
theorem Uv.mid(j:∀op,0<=Ps op)(h:Uv xs costs r C k ja bad c0 jj)(i:r.a8[k]?=K m)(b:m.gZ=(ja:Int))(c:m.last=(je:Int))(n:jj<=je)(l:xs[jj]?=K x)(g:Ps x.op=ci)(f:(bad2=bad/\c7=c0+ci)\/bad2=true/\4294967295<c0+ci):(bad2=true->∃m∈r.a8,CZ xs costs m)/\(bad2=false->bad=false/\c7=c0+ci):=by
 have p:=h.le;rcases f with⟨rfl,e⟩|⟨rfl,e⟩
 . exact⟨h.bd, λq=>⟨q,e⟩⟩
 refine⟨λ_=> ?_, λq=>by cases q⟩;cases hb:bad with
 |true=>exact h.bd hb
 | false=>obtain⟨_,_,a⟩:=h.ok hb;exact⟨m,lA i,CZ.iW j b c (k:=jj-ja) oM (d:=c0+ci) (.inr ⟨x,by rw[show ja+(jj-ja)=jj from oM];exact l,oM,by rw[<-a,g];exact Int.le_refl _⟩) e oM⟩
theorem N8(b:ja<=jj)(a:xs[jj]?=K x):El xs costs ja (jj+1-ja)=El xs costs ja (jj-ja)+EW costs x:=by rw[show jj+1-ja=(jj-ja)+1 from oM];simp only[El];rw[show ja+(jj-ja)=jj from oM,a]
theorem Uv.plain(v:∀op,0<=Ps op)(h:Uv xs costs r C k ja bad c0 jj)(d:xs[jj]?=K x)(l:Ps x.op=ci)(b:x.op≠28)(c:(bad2=true->∃m∈r.a8,CZ xs costs m)/\(bad2=false->bad=false/\c7=c0+ci)):Uv xs costs r C k ja bad2 c7 (jj+1):=by
 have n:=h.le;refine⟨oM,c.1, λe=> ?_⟩;obtain⟨f,g⟩:=c.2 e;obtain⟨p,s,t⟩:=h.ok f;refine⟨p, λj y i u a=> ?_,?_⟩
 . by_cases e:j=jj
   . subst e;rw[d]at a;(cases a);exact λq=>absurd q b
   exact s j y i oM a
 rw[N8 n d,g,t,<-l];unfold EW;rw[lS b];omega
theorem Uv.call(P:∀op,0<=Ps op)(h:Uv xs costs r C k ja bad c0 jj)(N:r.a8[k]?=K m)(f:m.gZ=(ja:Int))(p:m.last=(je:Int))(S:jj<=je)(t:xs[jj]?=K x)(I:Ps x.op=ci)(G:x.op=28){l:Nat}(u:x.a=(l:Int))(v:costs[l]?=K z)(Q:0<=z)(R:z<=4294967295)(b:(bad2=true->∃m∈r.a8,CZ xs costs m)/\(bad2=false->bad=false/\c7=c0+ci))(q:(bad3=bad2/\c8=c7+z)\/bad3=true/\4294967295<c7+z):Uv xs costs r C k ja bad3 c8 (jj+1):=by
 have L:=h.le;have i:cf costs x.a.toNat=z:=by rw[u,lD];exact Ed v
 have O:KO costs x:= λ_=>⟨by rw[u,lD];exact(i8.1 v).1,by rw[i];exact Q,by rw[i];exact R⟩
 have s:bad2=false->c7+z=El xs costs ja (jj+1-ja):= λe=>by obtain⟨c,n⟩:=b.2 e;obtain⟨w,A,B⟩:=h.ok c;rw[N8 L t,n,B,<-I];unfold EW;rw[lZ G,i];omega
 refine⟨oM, λe=> ?_, λe=> ?_⟩
 . rcases q with⟨rfl,_⟩|⟨_,H⟩
   . exact b.1 e
   cases hb2:bad2 with
   |true=>exact b.1 hb2
   |false=>exact⟨m,lA N,CZ.iW P f p (k:=jj+1-ja) oM (d:=c7+z) (.inl (by rw[s hb2];exact Int.le_refl _)) H oM⟩
 rcases q with⟨rfl,E⟩|⟨D,_⟩
 . obtain⟨c,n⟩:=b.2 e;obtain⟨w,A,B⟩:=h.ok c;refine⟨w, λj y f p g=> ?_,by rw[E];exact s e⟩;by_cases F:j=jj
   . subst F;rw[t]at g;(cases g);exact O
   exact A j y f oM g
 rw[D]at e;cases e
theorem X6{C:List Int}{b:Nat}(a:b< ↑C):cf (C++[c]) b=cf C b:=by unfold cf;rw[lN,lN,mP a]
theorem Uv.done(h:Uv xs costs r C k ja bad c0 (je+1))(n: ↑C=k)(p:r.a8[k]?=K m)(g:m.gZ=(ja:Int))(i:m.last=(je:Int))(z:c0<=4294967295):(bad=true->∃m∈r.a8,CZ xs costs m)/\(bad=false->YI xs costs r (C++[c0]) (k+1)):=by
 refine⟨h.bd, λe b t y a=> ?_⟩;obtain⟨u,v,w⟩:=h.ok e;by_cases eb:b=k
 . subst eb;rw[p]at a;(cases a);(have l:Cz xs costs m=c0:=by unfold Cz;rw[g,i,lD,lD,w]);refine⟨λc=> ?_,?_⟩
   . rcases c with⟨j,x,d,f,q,s⟩|c
     . exact s (v j x oM oM q)
     omega
   rw[l];exact Ed (by rw[lY oM,n,nM];rfl)
 obtain⟨d,f⟩:=u b t oM a;exact⟨d,by rw[X6 oM];exact f⟩
end
def Nn(xs:List MI)(C C':List Int):Prop:=C.length= ↑C'/\∀x∈xs,x.op=28->cf C x.a.toNat=cf C' x.a.toNat
section
variable {xs:List MI} {C C':List Int} {x:MI} {m:MB}
theorem Nn.symm(h:Nn xs C C'):Nn xs C' C:=⟨h.1.symm, λx a e=>(h.2 x a e).symm⟩
theorem Nn.cc(h:Nn xs C C')(b:x∈xs)(a:KO C x):KO C' x:= λe=>by have:=a e;rw[<-h.1,<-h.2 x b e];exact this
theorem Nn.ic(h:Nn xs C C')(a:x∈xs):EW C x=EW C' x:=by
 unfold EW;by_cases e:x.op=28
 . rw[lZ e,lZ e,h.2 x a e]
 rw[lS e,lS e]
theorem Nn.sum(h:Nn xs C C')(a:Nat):∀k,El xs C a k=El xs C' a k
 |0=>rfl
 | k+1=>by
   unfold El;rw[h.sum a k];cases e:xs[a+k]? with
   |none=>rfl
   |some x=>simp only[h.ic (lA e)]
theorem Nn.bc(h:Nn xs C C'):Cz xs C=Cz xs C':=funext λm=>h.sum _ _
theorem Nn.bad(h:Nn xs C C')(a:CZ xs C m):CZ xs C' m:=by
 rcases a with⟨j,x,c,d,b,e⟩|a
 . exact .inl ⟨j,x,c,d,b, λq=>e (h.symm.cc (lA b) q)⟩
 right;rw[<-h.bc];exact a
theorem Nn.fcv{p:MP}{r:CS}(h:Nn xs C C')(e:Ru p c C xs r v):Ru p c C' xs r v:=by
 rcases e with⟨a|⟨m,b,a⟩,rfl⟩|⟨a,d,O,D,L,sl,g,f,i,c1⟩
 . exact .inl ⟨.inl a,rfl⟩
 . exact .inl ⟨.inr ⟨m,b,h.bad a⟩,rfl⟩
 rw[h.bc]at c1;exact .inr ⟨a, λm b q=>d m b (h.symm.bad q),O,D,L,sl,g,f,i,c1⟩
end
theorem DC.ag{p:MP}{C C':List Int}(k:p.aD[q]?=K f)(h:Nn f.bO C C')(l:DC p (q:Int) C v):DC p (q:Int) C' v:=by
 rcases l with j|⟨m,r,b,c,a,d,g,i⟩
 . exact .inl j
 have e:=a;rw[lD,k]at e;cases e
 exact .inr ⟨f,r,b,c,a,d,g,h.fcv i⟩
def Gl{α:Type}(P:α->Prop)(xs:List α)(x:α):Prop:=∃k:Nat,xs[k]?=K x/\P x/\∀(j:Nat) y,j<k->xs[j]?=K y->¬P y
theorem Gl.one{P:α->Prop}{xs:List α}{x y:α}(h:Gl P xs x)(d:Gl P xs y):x=y:=by
 obtain⟨k,b,f,i⟩:=h;obtain⟨c,a,g,j⟩:=d;rcases Nat.lt_trichotomy k c with e|rfl|e
 . exact absurd f (j k x e b)
 . rw[b]at a;exact lP a
 exact absurd g (i c y e a)
theorem Gl.no{P:α->Prop}{xs:List α}{x:α}(h:Gl P xs x)(c:∀y∈xs,¬P y):False:=by obtain⟨k,a,b,_⟩:=h;exact c x (lA a) b
def Ws(p:MP)(q:Nat)(xs:List MI)(a:List MB)(l:ML):Prop:=∃k,k≠0/\AU p (q:Int) xs a l k
def MM(q:Nat)(r:CS)(t:MT):Prop:=t.func=(q:Int)/\∀l∈r.gX,∀m,r.a8[l.head.toNat]?=K m->m.gZ≠t.head
def P6(p:MP)(sh:List (List Int))(D:List Int)(k:Nat)(x:MI):Int:=IntKind.i64.wrap (IntKind.i64.wrap ((((sh[k]?).getD []).length:Int)-(match p.aD[x.a.toNat]? with|some g=>(g.gU:Int)|none=>0))+cf D x.a.toNat)
def ES(p:MP)(xs:List MI)(sh:List (List Int))(D:List Int)(a:Int):Nat->Int
 |0=>a
 |k+1=>match xs[k]? with|some x=>if x.op=28 then max (ES p xs sh D a k) (P6 p sh D k x)else ES p xs sh D a k|none=>ES p xs sh D a k
def Hm(p:MP)(f:MF)(y:RC)(D:List Int):Int:=ES p f.bO y.ia D y.depth f.bO
theorem S7{p:MP}{xs:List MI}{sh:List (List Int)}{D b:List Int}(h:Nn xs D b):∀k,ES p xs sh D c k=ES p xs sh b c k
 |0=>rfl
 | k + 1=>by
   unfold ES;rw[S7 h k];cases e:xs[k]? with
   |none=>rfl
   | some x=>
     simp only[];by_cases a:x.op=28
     . rw[lZ a,lZ a];unfold P6;rw[h.2 x (lA e) a]
     rw[lS a,lS a]
def MD (p:MP)(q:Nat)(C D:List Int)(c a v d:Int):Prop:=∃f r,p.aD[q]?=K f/\Be f.bO r/\
 ((r.bO≠0/\c=3/\a=r.at_)\/(r.bO=0/\∃y,KQ p (q:Int) y/\
   ((y.bO≠0/\c=4/\a=y.at_)\/(y.bO=0/\
     ((∃ l m,Gl (Ws p q f.bO r.a8) r.gX l/\r.a8[l.head.toNat]?=K m/\c=5/\a=m.gZ)\/((∀l∈r.gX,¬Ws p q f.bO r.a8 l)/\
       ((∃t,Gl (MM q r) p.e8 t/\c=6/\a=t.head)\/((∀t∈p.e8,¬MM q r t)/\
         ∃z,DC p (q:Int) C z/\((z<0/\c=7/\a=0)\/(0<=z/\((64<Hm p f y D/\c=8/\a=0)\/(Hm p f y D<=64/\c=0/\a=0/\v=z/\d=Hm p f y D))))))))))))
theorem MD.one{p:MP}{C D C' n:List Int}{B:Int}{f0:MF}(H:p.aD[q]?=K f0)(W:Nn f0.bO C C')(X:Nn f0.bO D n)(h:MD p q C D c a v d)(R:MD p q C' n c' a' v' B):c=c'/\a=a'/\(c=0->v=v'/\d=B):=by
 obtain⟨f,r,F,S,U⟩:=h;obtain⟨f',r',G,T,V⟩:=R;rw[H]at F G;cases F
 cases G
 obtain rfl:=S.one T;rcases U with⟨s,rfl,rfl⟩|⟨s,y,N,O⟩<;>rcases V with⟨x,rfl,rfl⟩|⟨x,y',k2,k3⟩
 . exact⟨rfl,rfl, λe=>by cases e⟩
 . exact absurd x s
 . exact absurd s x
 obtain rfl:=N.one k2;rcases O with⟨u,rfl,rfl⟩|⟨u,P⟩<;>rcases k3 with⟨A,rfl,rfl⟩|⟨A,k5⟩
 . exact⟨rfl,rfl, λe=>by cases e⟩
 . exact absurd A u
 . exact absurd u A
 rcases P with⟨l,m,b,w,rfl,rfl⟩|⟨b,w⟩<;>rcases k5 with⟨l',m',i,j,rfl,rfl⟩|⟨i,j⟩
 . obtain rfl:=b.one i;rw[w]at j;(cases j);exact⟨rfl,rfl, λe=>by cases e⟩
 . exact(b.no i).elim
 . exact(i.no b).elim
 rcases w with⟨t,g,rfl,rfl⟩|⟨g,z,Q,E⟩<;>rcases j with⟨t',k,rfl,rfl⟩|⟨k,z',k9,ae⟩
 . obtain rfl:=g.one k;exact⟨rfl,rfl, λe=>by cases e⟩
 . exact(g.no k).elim
 . exact(k.no g).elim
 obtain rfl:z=z':=(Q.ag H W).one k9;have e:Hm p f0 y D=Hm p f0 y n:=S7 X _;rw[e]at E;rcases E with⟨I,rfl,rfl⟩|⟨I,⟨L,rfl,rfl⟩|⟨L,rfl,rfl,rfl,rfl⟩⟩<;>rcases ae with⟨ah,rfl,rfl⟩|⟨ah,⟨aj,rfl,rfl⟩|⟨aj,rfl,rfl,rfl,rfl⟩⟩<;>first|exact⟨rfl,rfl, λ_=>⟨rfl,rfl⟩⟩|exact⟨rfl,rfl, λe=>absurd e dC⟩|omega
theorem MD.a0{p:MP}{C D:List Int}(h:MD p q C D 0 a v d):a=0:=by
 obtain⟨f,r,_,_,h⟩:=h;rcases h with⟨_,h,_⟩|⟨_,y,_,h⟩
 . cases h
 rcases h with⟨_,h,_⟩|⟨_,h⟩
 . cases h
 rcases h with⟨_,_,_,_,h,_⟩|⟨_,h⟩
 . cases h
 rcases h with⟨_,_,h,_⟩|⟨_,z,_,h⟩
 . cases h
 rcases h with⟨_,h,_⟩|⟨_,⟨_,h,_⟩|⟨_,_,h,_⟩⟩
 . cases h
 . cases h
 exact h
inductive Pw (p:MP):List Nat->List Int->List Int->Int->Int->Int->List Int->List Int->Prop
 |nil {C D:List Int}:Pw p [] C D 0 0 0 C D
 |bad {q:Nat} {r:List Nat} {C D:List Int} {c a v d:Int}:MD p q C D c a v d->c≠0->Pw p (q::r) C D c (q:Int) a [] []
 |step {q:Nat} {r:List Nat} {C D C' D':List Int} {c g a v d:Int}:MD p q C D 0 0 v d->Pw p r (C.set q v) (D.set q d) c g a C' D'->Pw p (q::r) C D c g a C' D'
def XM(fs:List MF):List Nat->List Nat->Prop
 |_,[]=>True
 |done,q::r=>q< ↑fs/\(∀f,fs[q]?=K f->∀a∈FY f,∃n∈done,a=((n:Nat):Int))/\XM fs (q::done) r
theorem K8{C:List Int}{c:Nat}(h:q< ↑C):cf (C.set q v) c=if c=q then v else cf C c:=Dx (an h)
theorem Pw.one{p:MP}{o:List Nat}{C D z A:List Int}(h:Pw p o C D c g a z A):∀{done:List Nat} {C' y C2 m:List Int} {c' E a':Int},XM p.aD done o->C.length= ↑p.aD->C'.length= ↑p.aD->D.length= ↑p.aD->y.length= ↑p.aD->(∀n∈done,cf C n=cf C' n/\cf D n=cf y n)->Pw p o C' y c' E a' C2 m->
 c=c'/\g=E/\a=a'/\(c≠0->z=C2/\A=m)/\(c=0->z.length= ↑p.aD/\C2.length= ↑p.aD/\A.length= ↑p.aD/\m.length= ↑p.aD/\∀n,n∈done\/n∈o->cf z n=cf C2 n/\cf A n=cf m n):=by
 have N:∀{q:Nat} {done:List Nat} {C C':List Int} {f:MF},p.aD[q]?=K f->(∀f,p.aD[q]?=K f->∀a∈FY f,∃n∈done,a=((n:Nat):Int))->C.length= ↑p.aD->C'.length= ↑p.aD->(∀n∈done,cf C n=cf C' n)->Nn f.bO C C':= λi I k l j=>⟨k.trans l.symm, λx T R=>by obtain⟨n,b,e⟩:=I _ i x.a (mG.2 ⟨x,nh.2 ⟨T,by simpa using R⟩,rfl⟩);rw[e,lD];exact j n b⟩
 induction h with
 | nil=>intro done C' y C2 m c' E a' _ k l s t j F;(cases F);exact⟨rfl,rfl,rfl, λe=>absurd rfl e, λ_=>⟨k,l,s,t, λn b=>j n (b.resolve_right sP)⟩⟩
 | @bad q r C D c a v d hO hc=>
   intro done C' y C2 m c' E a' I k l s t j F;obtain⟨w,L,O⟩:=I;have i:=an w;(have G:=N i L k l λn b=>(j n b).1);(have H:=N i L s t λn b=>(j n b).2);cases F with
   | bad u hc'=>obtain⟨B,P,_⟩:=hO.one i G H u;exact⟨B,rfl,P, λ_=>⟨rfl,rfl⟩, λe=>absurd e hc⟩
   | step u _=>obtain⟨B,_,_⟩:=hO.one i G H u;exact absurd B hc
 | @step q r C D z A c g a v d hO hr ih=>
   intro done C' y C2 m c' E a' I k l s t j F;obtain⟨w,L,O⟩:=I;have i:=an w;(have G:=N i L k l λn b=>(j n b).1);(have H:=N i L s t λn b=>(j n b).2);cases F with
   | bad u hc'=>obtain⟨B,_,_⟩:=hO.one i G H u;exact absurd B.symm hc'
   | step u S=>
     obtain⟨_,_,Q⟩:=hO.one i G H u;obtain⟨rfl,rfl⟩:=Q rfl;obtain⟨U,V,W,X,i5⟩:=ih O (by rw[mZ];exact k) (by rw[mZ];exact l) (by rw[mZ];exact s) (by rw[mZ];exact t) (λn b=>by
      rw[K8 (by rw[k];exact w),K8 (by rw[l];exact w),K8 (by rw[s];exact w),K8 (by rw[t];exact w)];by_cases e:n=q
      . simp only[lZ e,and_self]
      simp only[lS e];exact j n ((lw.1 b).resolve_left e)) S
     refine⟨U,V,W,X, λe=> ?_⟩;obtain⟨j1,j2,j3,j4,j5⟩:=i5 e;refine⟨j1,j2,j3,j4, λn b=>j5 n ?_⟩;rcases b with b|b
     . exact .inl (mX _ b)
     rcases lw.1 b with rfl|b
     . exact .inl (mV ..)
     exact .inr b
theorem Vy{l:List Nat}(h:a∈ints l):∃n∈l,a=((n:Nat):Int):=by obtain⟨n,b,e⟩:=mG.1 h;exact⟨n,b,e.symm⟩
theorem Mc{fs:List MF}:∀(k:Nat) (done:List Nat),C6 fs k (ints done)≠[]-> ↑done+k= ↑fs->(∀n∈done,n< ↑fs)->done.Nodup->∃r,C6 fs k (ints done)=ints (done++r)/\XM fs done.reverse r/\(∀n,n< ↑fs->n∈done++r)
 | 0,done,_,hl,h,hd=>by refine⟨[],by rw[ny];rfl,trivial, λn c=> ?_⟩;rw[ny];have m:=FO done fs h hd;have d:A8 done fs=0:=oM;unfold A8 at d;rw[List.length_eq_zero_iff,List.filter_eq_nil_iff]at d;have:=d n (nE.2 c);simpa using this
 | k + 1,done,hne,hl,h,hd=>by
   unfold C6 at hne⊢;cases e:Hy fs (ints done)with
   |none=>rw[e]at hne;exact absurd rfl hne
   | some i=>
     rw[e]at hne;simp only[]at hne⊢;(have j:i<fs.length:=by have:=List.mem_of_find?_eq_some e;simpa using this);have g:=List.find?_some e;unfold C7 at g;rw[an j]at g;simp only[nO,Bool.not_eq_true',oy]at g;(have u:i∉done:= λq=>by (have:(ints done).contains (i:Int)=true:=by rw[List.contains_iff_mem];exact mG.2 ⟨i,q,rfl⟩);rw[this]at g;exact nR g.1.symm);(have s:ints done++[(i:Int)]=ints (done++[i]):=by unfold ints;rw[m9];rfl);rw[s]at hne⊢;obtain⟨r,m,d,t⟩:=Mc k (done++[i]) hne (by rw[lG,lL];omega) (λn c=>by
      rcases lT.1 c with q|q
      . exact h n q
      rw[mz.1 q];exact j) (oH.2 ⟨hd,sP, λa l b h e=>u (by rw[mz.1 h]at e;rw[<-e];exact l)⟩)
     refine⟨i::r,by rw[m,nN];rfl,⟨j, λf p a l=> ?_,by rw[List.reverse_append]at d;exact d⟩, λn c=>by have:=t n c;rw[nN]at this;exact this⟩;rw[an j]at p;(cases p);have:=g.2 a l;rw[List.contains_iff_mem]at this;obtain⟨n,c,e⟩:=Vy this;exact⟨n,m7.2 c,e⟩
def Np(p:MP)(c g a:Int)(C D:List Int):Prop:=
 (¬A6 p 0/\c=1/\g=0/\a=0/\C=[]/\D=[])\/
 (A6 p 0/\Cq p.aD=[]/\c=2/\g=0/\a=0/\C=[]/\D=[])\/
 (A6 p 0/\Cq p.aD≠[]/\∃b d:List Int,b.length= ↑p.aD/\d.length= ↑p.aD/\Pw p ((Cq p.aD).map Int.toNat) b d c g a C D)
theorem UX{C C':List Int}{n:Nat}(a: ↑C=n)(b: ↑C'=n)(h:∀k,k<n->cf C k=cf C' k):C=C':=by
 refine List.ext_getElem (a.trans b.symm) λk c d=> ?_
 have:=h k oM;rw[Ed (an c),Ed (an d)]at this;exact this
theorem Np.one{p:MP}{s:Int}{C D C' m:List Int}(h:Np p c g a C D)(A:Np p c' s a' C' m):c=c'/\g=s/\a=a'/\C=C'/\D=m:=by
 rcases h with⟨b,rfl,rfl,rfl,rfl,rfl⟩|⟨b,f,rfl,rfl,rfl,rfl,rfl⟩|⟨b,f,T,V,P,Q,t⟩<;>rcases A with⟨d,rfl,rfl,rfl,rfl,rfl⟩|⟨d,l,rfl,rfl,rfl,rfl,rfl⟩|⟨d,l,U,W,R,S,u⟩
 . exact⟨rfl,rfl,rfl,rfl,rfl⟩
 . exact absurd d b
 . exact absurd d b
 . exact absurd b d
 . exact⟨rfl,rfl,rfl,rfl,rfl⟩
 . exact absurd f l
 . exact absurd b d
 . exact absurd l f
 obtain⟨r,w,y,q⟩:=Mc (fs:=p.aD) p.aD [] f sP (λn j=>by simp at j) .nil;have z:(Cq p.aD).map Int.toNat=r:=by unfold Cq;rw[show([]:List Int)=ints []from rfl,w];unfold ints;rw[oP,mw];exact(oG λx _=>lD x).trans (List.map_id' r)
 rw[z]at t u;obtain⟨B,E,F,G,H⟩:=t.one y P R Q S (λn j=>by simp at j) u;refine⟨B,E,F,?_⟩;by_cases e:c=0
 . obtain⟨I,L,N,O,v⟩:=H e;exact⟨UX I L λk i=>(v k (.inr (by simpa using q k i))).1,UX N O λk i=>(v k (.inr (by simpa using q k i))).2⟩
 exact G e
theorem Tk{p:MP}:∀{c a:Nat} {sh:List Int} {T:Nat->List Int} {D:Nat} {e:Int×Nat},CY p f c a sh T D=.inl e->e.1≠0
 |0,_,_,_,_,_,h=>by cases h
 | c+1,a,sh,T,D,e,h=>by
   unfold CY at h;split at h
   . cases h
   split at h
   . exact Tk h
   rename_i b;(cases h);exact b
theorem Tm{p:MP}{c:List MB}:∀{l:List Nat} {s:WS} {e:Int×Nat},FU p f c l s=.inl e->e.1≠0
 |[],_,_,h=>by cases h
 | b ::r,s,e,h=>by
   unfold FU at h;split at h
   . cases h
   split at h
   . rename_i m _ g a;(cases h);unfold QM at a;split at a
     . rename_i d;(cases a);exact Tk d
     split at a
     . (cases a);simp
     cases a
   exact Tm h
theorem KQ.len{p:MP}{y:RC}(h:KQ p (q:Int) y)(a:y.bO=0)(c:p.aD[q]?=K f):y.ia.length=f.bO.length:=by
 rcases h with⟨_,e⟩|⟨_,_,d,r,b,_,_,e⟩
 . subst e;cases a
 rw[lD,c]at b;obtain rfl:=lP b;subst e;revert a;cases hr:FU p f r.a8 (r.gY.map Int.toNat) Mq with
 |inl e=>intro a;exact absurd a (Tm hr)
 |inr s=>intro _;simp[Q1]
def Pr(u:Y)(s:J)(rs:List (List Int)):Prop:=∃xs:List J,Rd u 1 s rs xs/\∀(k:Nat) x,xs[k]?=K x->∃(r:List Int) (a:Option Addr) (c:Nat),rs[k]?=K r/\x=Z a r c
theorem X9{a:List (List Int×J)}:Ad BH a=a.map Prod.snd:=by
 induction a with
 |nil=>rfl
 |cons y r b=>rw[mF,b];rfl
theorem Pr.of(h:I5 u s rs):Pr u s rs:=by obtain⟨xs,f,g,i⟩:=h;refine⟨_,g, λk x b=> ?_⟩;rw[X9,mE,m6]at b;obtain⟨y,d,rfl⟩:=b;obtain⟨a,c,e⟩:=(i y (lA d)).bW;exact⟨y.1,a,c,by rw[<-f,mE,d];rfl,e⟩
theorem Pr.a7{a:Y}{n:List (List Int)}(h:Pr u s n)(d:Ah u u a):Pr a s n:=by obtain⟨xs,b,c⟩:=h;exact⟨xs,b.a7 d lR,c⟩
theorem Pr.set{n:List (List Int)}(h:Pr u s n){a:Addr}{k:IntKind}{z:Int}(r:u a=K (Ag k z))(V:J):Pr (u.setCell a V) s n:=by obtain⟨xs,⟨p,q⟩,f⟩:=h;refine⟨xs,⟨p,q.imp_right λ⟨g,o,c,e,t⟩=>⟨g,o,c,e, λj v i=> ?_⟩⟩,f⟩;have d:=t j v i;obtain⟨_,b,m,_,e⟩:=f j v i;rw[World.cell?_setCell_other _ _ _ _ (λl=>by rw[<-l,r]at d;rw[e]at d;cases d)];exact d
theorem Pr.bW{n:List (List Int)}(h:Pr u s n):∃a c,s=Z a n c:=by obtain⟨xs,b,_⟩:=h;exact b.bW
theorem Wd{a:Option Addr}{c:Nat}(h:Pr u (Z a rs c) rs){k:Nat}(p:k< ↑rs):∃(g o:Nat) (b:Option Addr) (r:List Int) (c1:Nat),a=K ⟨g,o,M⟩/\rs[k]?=K r/\u ⟨g,o+k,M⟩=K (Z b r c1):=by
 obtain⟨xs,d,l⟩:=h;have q:=d.1;obtain⟨x,f⟩:∃x,xs[k]?=K x:=⟨_,an oM⟩;obtain⟨r,b,c1,i,j⟩:=l k x f;rcases d.2 with⟨n,_⟩|⟨g,o,c',e,m⟩
 . omega
 simp only[lB]at e;exact⟨g,o,b,r,c1,e.1,i,by rw[m k x f,j]⟩
theorem Se(v:VP)(p:MP)(q:Nat)(f:MF)(y:RC)(s dv:J)(b:List Int)(w:Y)(hs:p.small)(aE:A6 p 0)(h:Dm w v p)(G:p.aD[q]?=K f)(hy:Pr w s y.ia)(aI:y.ia.length= ↑f.bO)(hd:Rd w 1 dv b (Ad As b))(aw:b.length= ↑p.aD):
 Ai Ap 48 #[Am #[v.r,v.k,v.f,v.t],q,Am #[y.bO,y.at_,y.depth,s],dv] w λe w'=>e=Al (Hm p f y b)/\Ah w w w':=by
 obtain⟨r1,r3,W,X,t1,t3,f1,f3,rfl⟩:=h.sl;obtain⟨sa,C,es⟩:∃a c,s=Z a y.ia c:=hy.bW;subst es;obtain⟨da,dc,rfl⟩:=hd.bW;have bt:=(i8.1 G).1;have Q:=Av (d5 aI aw);clear aI aw;obtain⟨gk,ok,ck,aq,g,aj,m0,m1,m2,m3⟩:=Hr h.aD G;simp only[lB,mB]at aq;obtain⟨rfl,rfl⟩:=aq;obtain⟨g1,g3,g4,g6,g7,g9,rfl⟩:=Ec aj;have bi:=(hs.func f (lA G)).2.2;have br:(q:Int)<(p.aD:Int):=oM;have H:=Av (d5 aE (d5 h (d5 G (d5 hy (d5 hd aj.2.2)))));have E0:=Bu w #[Z r1 p.aC r3,Z W p.dk X,sO gk ok p.aD f3,Z t1 p.e8 t3] #[y.bO,y.at_,y.depth,Z sa y.ia C] 37 87;simp only[]at m3;have M3:=Av m3;clear aE h G hy hd aj m0 m1 m2 m3;go_enter func48,ntmps48;go_upto_region 1 with fail
 refine Ax (λu=>Ae (AA u w #[Z r1 p.aC r3,Z W p.dk X,sO gk ok p.aD f3,Z t1 p.e8 t3] 37/\AA u ((w:Nat)+1) #[y.bO,y.at_,y.depth,Z sa y.ia C] 87/\Ah w w u)) E0 ?_
 rintro U d;obtain⟨p0,p1,p2,p3⟩:=A7 d.1;obtain⟨z0,z1,z2,z3⟩:=A7 d.2.1;have m3:=Au d.2.2 M3;go_wp2_with fail;go_loopw [9,11,12] (λm i _ wr=>∃(m0:Int) (j:Nat),m=iZ m0/\i=iZ j/\j<= ↑f.bO/\Ae (m0=ES p f.bO y.ia b y.depth j)/\Ae (AA wr w #[Z r1 p.aC r3,Z W p.dk X,sO gk ok p.aD f3,Z t1 p.e8 t3] 37/\AA wr ((w:Nat)+1) #[y.bO,y.at_,y.depth,Z sa y.ia C] 87/\Ah w w wr)) (λ_ i _ _=> ↑f.bO-(intOf i).toNat)
 case atStart=>exact⟨y.depth,0,rfl,rfl,oM,rfl,d⟩
 obtain⟨B,j,rfl,rfl,hj,R,d⟩:=hrel;by_cases aS:j< ↑f.bO
 case neg=>obtain rfl:j=f.bO.length:=oM;have ae:B=Hm p f y b:=R.o;clear R;subst ae;go_wp2_with fail;go_ret;exact⟨rfl,d.2.2⟩
 have bp:(j:Int)<(f.bO:Int):=oM;obtain⟨x,L⟩:∃x,f.bO[j]?=K x:=⟨_,an aS⟩;obtain⟨gi,oi,ci,ei,aU,aJ,_,_⟩:=NC H.2.2.2.2.2 L;simp only[lB,mB]at ei;obtain⟨rfl,rfl⟩:=ei;have x0:=Au d.2.2 aU;have aM:Ae (x.op=28->∃(q:Nat) (D:MF),x.a=q/\p.aD[q]?=K D):= λe=>(H.1.parts.2.2.2.1 q (i8.1 H.2.2.1).1 f H.2.2.1 j (i8.1 L).1 x L).callee e
 by_cases I:x.op=28;case neg=>
  have bq:(x.op != 28)=true:=by simpa using I
  have ae:Ae (B=ES p f.bO y.ia b y.depth (j+1)):=by (have e:ES p f.bO y.ia b y.depth (j+1)=ES p f.bO y.ia b y.depth j:=by simp only[ES,L,lS I]);exact R.trans e.symm
  go_wp2_with fail;go_roundw;case rel=>exact⟨B,j+1,rfl,by go_num,oM,ae,d⟩
  exact oI
 obtain⟨l,D,aH,ah⟩:=aM.o I;rw[aH]at aJ;rw[I]at x0;have bg:=(i8.1 ah).1;have bf:(l:Int)<(p.aD:Int):=oM;have aZ:(l:Int)<(b:Int):=by have:=Q.2;omega
 obtain⟨aY,bx,aX,au,g',aT,n0,_,_,_⟩:=Hr H.2.1.aD ah;simp only[lB,mB,lH,nF,nU]at au;obtain⟨⟨rfl,rfl⟩,rfl⟩:=au;obtain⟨h1,h3,h4,h6,h7,h9,rfl⟩:=Ec aT;simp only[]at n0;obtain⟨F,os,a1,sr,c1,es,aG,aF⟩:=Wd H.2.2.2.1 (show j< ↑y.ia by have:=Q.1;omega)
 subst es;obtain⟨O,am⟩:∃O, ↑sr=O:=⟨_,rfl⟩
 rw[am]at aF;have bu:(j:Int)<(y.ia:Int):=by have:=Q.1;omega
 obtain⟨T,aA⟩:∃z,b[l]?=K z:=⟨_,an (by have:=Q.2;omega)⟩;obtain⟨E,N,ea,kz⟩:∃E N,da=K ⟨E,N,M⟩/\w ⟨E,N+l,M⟩=K ↑T:=by
  rcases H.2.2.2.2.1.2 with⟨e0,_⟩|⟨g1,o1,aW,V,hc⟩
  . omega
  simp only[lB,mB]at V;exact⟨g1,o1,V.1,hc l _ (Di aA)⟩
 subst ea;have HS:Ae (∀U:Y,AA U w #[Z r1 p.aC r3,Z W p.dk X,sO gk ok p.aD f3,Z t1 p.e8 t3] 37/\AA U ((w:Nat)+1) #[y.bO,y.at_,y.depth,sO F os y.ia C] 87/\Ah w w U->U ⟨(w:Nat)+1,3,M⟩=K (sO F os y.ia C)/\U ⟨F,os+j,M⟩=K (Z a1 O c1)/\U ⟨w,2,M⟩=K (sO gk ok p.aD f3)/\U ⟨gi,oi+j*4+1,M⟩=K ↑l/\U ⟨gk,ok+l*4,M⟩=K (Z h1 D.gU h3)/\U ⟨E,N+l,M⟩=K ↑T):= λU A=>⟨(A7 A.2.1).2.2.2,Au A.2.2 aF,(A7 A.1).2.2.1,Au A.2.2 aJ,Au A.2.2 n0,Au A.2.2 kz⟩
 obtain⟨d1,aQ⟩:∃d1,IntKind.i64.wrap ((O:Int)-(D.gU:Int))=d1:=⟨_,rfl⟩;obtain⟨n,aR⟩:∃n,IntKind.i64.wrap (d1+T)=n:=⟨_,rfl⟩;have ao:Ae (ES p f.bO y.ia b y.depth (j+1)=max B n):=by
  have V:P6 p y.ia b j x=n:=by unfold P6;rw[aG,aH,lD,ah,Ed aA];simp only[ov,am];rw[aQ,aR]
  have e:ES p f.bO y.ia b y.depth (j+1)=max (ES p f.bO y.ia b y.depth j) (P6 p y.ia b j x):=by simp only[ES,L,lZ I]
  rw[<-R,V]at e;exact e
 clear aG am;go_upto_region 7 with fail
 have P:=Av (d5 (d.1.a7 (At _)) (d5 (d.2.1.a7 (At _)) (Ar d.2.2 sP (At _))));refine wp_region_held_drew (S:= λU=>U ⟨(w:Nat)+1,3,M⟩=K (sO F os y.ia C)/\U ⟨F,os+j,M⟩=K (Z a1 O c1)/\U ⟨w,2,M⟩=K (sO gk ok p.aD f3)/\U ⟨gi,oi+j*4+1,M⟩=K ↑l/\U ⟨gk,ok+l*4,M⟩=K (Z h1 D.gU h3)/\U ⟨E,N+l,M⟩=K ↑T) kR (by exact HS.o _ P) (λaP=> ?_)
 generalize wr.drew=UD at P aP⊢;refine AH 0 ?_;refine AH 1 ?_;refine AH 2 ?_;refine AH 3 ?_;refine AH 4 ?_;refine AH 5 ?_;refine AH 6 ?_;refine AH 7 ?_;refine AH 8 ?_;refine AH 9 ?_;refine AH 10 ?_;refine AH 11 ?_;refine AH 12 ?_;refine AH 13 ?_;refine AH 14 ?_;refine AH 15 ?_;refine AH 16 ?_;refine AH 17 ?_;refine AH 18 ?_;refine AH 19 ?_;refine AH 20 ?_;refine AH 21 ?_;refine AH 22 ?_;refine AH 23 ?_;refine AH 24 ?_;refine AH 25 ?_;refine AH 26 ?_;refine AH 27 ?_;refine wpAnyH_done kR ?_ _;go_simp;by_cases bj:n>B;case pos=>
  go_wp2_with fail;go_roundw;case rel=>exact⟨n,j+1,rfl,by go_num,oM,(ao.trans (Int.max_eq_right oM)).symm,P⟩
  exact oI
 case neg=>
  go_wp2_with fail;go_roundw;case rel=>exact⟨B,j+1,rfl,by go_num,oM,(ao.trans (Int.max_eq_left oM)).symm,P⟩
  exact oI
theorem Ts{q:Prop}(h:q:=by rintro U E1;clear E0;have i0:=E1.ib.cell 0;have i1:=E1.ib.cell 1;have i2:=E1.ib.cell 2;have i3:=E1.ib.cell 3;have s0:=E1.sb.cell 0;have s1:=E1.sb.cell 1;have s2:=E1.sb.cell 2;have s3:=E1.sb.cell 3;have s4:=E1.sb.cell 4;have s5:=E1.sb.cell 5;have s6:=E1.sb.cell 6;have s7:=E1.sb.cell 7;simp only[lE,lC,lF]at i0 i1 i2 i3 s0 s1 s2 s3 s4 s5 s6 s7;go_wp2_with fail;refine(H0 ⟨Z r1 p.aC r3,Z k1 p.dk k3,Z f1 p.aD f3,Z t1 p.e8 t3⟩ ⟨Z g1 f.gU g3,Z g4 f.gW g6,Z g7 f.bO g9⟩ f q tt U hs (HR.a7 E1.ej lR) hq).mono ?_;rintro e u1 ⟨rfl,b1⟩;have HB:=Av (Ar E1.ej lR b1);clear b1;go_wp2_with fail;go_ret;exact Fk HB [tt] 1 1 rfl):q:=h
theorem Xj(v:VP)(p:MP)(g:VF)(f:MF)(q:Nat)(tt b c:Int)(w:Y)(hs:f.small)(E:p.small)(d:Dm w v p)(h:DF w g f)(hq:(f.gU++f.gW)[q]?=K tt):Ai Ap 255 #[Am #[v.r,v.k,v.f,v.t,g.p,f.gV,g.l,g.c],Am #[iZ 3,q,b,c]] w (Do w [tt]):=by
 obtain⟨r1,r3,y⟩:=(show∃a c,v.r=Z a p.aC c from by obtain⟨_,_,i,_⟩:=d.aC;exact i.bW);obtain⟨k1,k3,x⟩:=d.dk.bW;obtain⟨t1,t3,z⟩:=d.e8.bW;obtain⟨f1,f3,j⟩:=(show∃a c,v.f=Z a p.aD c from by obtain⟨_,_,i,_⟩:=d.aD;exact i.bW);obtain⟨g1,g3,m⟩:=h.1.bW;obtain⟨g4,g6,n⟩:=h.2.1.bW;obtain⟨g7,g9,s⟩:=h.2.2.bW;obtain⟨D,C,B⟩:=g;obtain⟨H,G,F,I⟩:=v;simp only[]at y x z j m n s;subst y x z j m n s;have A:=Av d;have HR:=Av h;clear d h;have E0:=Av (Hj.of w ⟨Z r1 p.aC r3,Z k1 p.dk k3,Z f1 p.aD f3,Z t1 p.e8 t3⟩ ⟨Z g1 f.gU g3,Z g4 f.gW g6,Z g7 f.bO g9⟩ f 3 (q:Int) b c);go_enter func255,ntmps255;go_upto_region 1 with fail
 refine Ax (λu=>Ae (Hj w u ⟨Z r1 p.aC r3,Z k1 p.dk k3,Z f1 p.aD f3,Z t1 p.e8 t3⟩ ⟨Z g1 f.gU g3,Z g4 f.gW g6,Z g7 f.bO g9⟩ f 3 (q:Int) b c)) E0 ?_;exact Ts
theorem Pq{q:Prop}(h:q:=by rintro e u1 ⟨rfl,b1⟩;have HB:=Av (Ar E1.ej lR b1);clear b1;go_wp2_with fail;go_ret;exact Fk HB [tt] 1 1 rfl):q:=h
theorem Xk(v:VP)(p:MP)(g:VF)(f:MF)(q:Nat)(z:Nat)(r:List Int)(tt c:Int)(w:Y)(hs:f.small)(R:p.small)(b:Dm w v p)(d:DF w g f)(S:p.aC[q]?=K r)(T:r[z]?=K tt):Ai Ap 255 #[Am #[v.r,v.k,v.f,v.t,g.p,f.gV,g.l,g.c],Am #[iZ 5,q,z,c]] w (Do w [tt]):=by
 obtain⟨B,C,O⟩:=(show∃a c,v.r=Z a p.aC c from by obtain⟨_,_,x,_⟩:=b.aC;exact x.bW);obtain⟨y,A,N⟩:=b.dk.bW;obtain⟨D,E,P⟩:=b.e8.bW;obtain⟨f1,f3,G⟩:=(show∃a c,v.f=Z a p.aD c from by obtain⟨_,_,x,_⟩:=b.aD;exact x.bW);obtain⟨h,i,H⟩:=d.1.bW;obtain⟨j,m,I⟩:=d.2.1.bW;obtain⟨n,s,L⟩:=d.2.2.bW;obtain⟨gp,gl,gc⟩:=g;obtain⟨vr,vk,vf,vt⟩:=v;simp only[]at O N P G H I L;subst O N P G H I L;have Q:=Av b;have HR:=Av d;clear b d;have F:=Av (Hj.of w ⟨Z B p.aC C,Z y p.dk A,Z f1 p.aD f3,Z D p.e8 E⟩ ⟨Z h f.gU i,Z j f.gW m,Z n f.bO s⟩ f 5 (q:Int) (z:Int) c);go_enter func255,ntmps255;go_upto_region 1 with fail
 refine Ax (λu=>Ae (Hj w u ⟨Z B p.aC C,Z y p.dk A,Z f1 p.aD f3,Z D p.e8 E⟩ ⟨Z h f.gU i,Z j f.gW m,Z n f.bO s⟩ f 5 (q:Int) (z:Int) c)) F ?_;rintro U E1;clear F;have V:=E1.ib.cell 0;have W:=E1.ib.cell 1;have X:=E1.ib.cell 2;have i3:=E1.ib.cell 3;have s0:=E1.sb.cell 0;have s1:=E1.sb.cell 1;have s2:=E1.sb.cell 2;have s3:=E1.sb.cell 3;have s4:=E1.sb.cell 4;have s5:=E1.sb.cell 5;have s6:=E1.sb.cell 6;have s7:=E1.sb.cell 7;simp only[lE,lC,lF]at V W X i3 s0 s1 s2 s3 s4 s5 s6 s7;go_wp2_with fail;refine(Fc ⟨Z B p.aC C,Z y p.dk A,Z f1 p.aD f3,Z D p.e8 E⟩ p ⟨Z h f.gU i,Z j f.gW m,Z n f.bO s⟩ f 5 c q z r tt U R (Q.a7 E1.ej lR).aC S T).mono ?_;exact Pq
theorem Xl(v:VP)(p:MP)(g:VF)(f:MF)(q:Nat)(z:Nat)(r:List Int)(i c:Int)(w:Y)(hs:f.small)(W:p.small)(d:Dm w v p)(h:DF w g f)(X:p.aC[q]?=K r)(hz:r[z]?=K i):Ai Ap 255 #[Am #[v.r,v.k,v.f,v.t,g.p,f.gV,g.l,g.c],Am #[iZ 7,q,z,c]] w (Do w [3,i]):=by
 obtain⟨D,E,R⟩:=(show∃a c,v.r=Z a p.aC c from by obtain⟨_,_,A,_⟩:=d.aC;exact A.bW);obtain⟨B,C,Q⟩:=d.dk.bW;obtain⟨F,G,S⟩:=d.e8.bW;obtain⟨f1,f3,L⟩:=(show∃a c,v.f=Z a p.aD c from by obtain⟨_,_,A,_⟩:=d.aD;exact A.bW);obtain⟨j,m,N⟩:=h.1.bW;obtain⟨n,s,O⟩:=h.2.1.bW;obtain⟨x,y,P⟩:=h.2.2.bW;obtain⟨gp,gl,gc⟩:=g;obtain⟨vr,vk,vf,vt⟩:=v;simp only[]at R Q S L N O P;subst R Q S L N O P;have V:=Av d;have HR:=Av h;clear d h;have H:=Av (Hj.of w ⟨Z D p.aC E,Z B p.dk C,Z f1 p.aD f3,Z F p.e8 G⟩ ⟨Z j f.gU m,Z n f.gW s,Z x f.bO y⟩ f 7 (q:Int) (z:Int) c);go_enter func255,ntmps255;go_upto_region 1 with fail
 refine Ax (λu=>Ae (Hj w u ⟨Z D p.aC E,Z B p.dk C,Z f1 p.aD f3,Z F p.e8 G⟩ ⟨Z j f.gU m,Z n f.gW s,Z x f.bO y⟩ f 7 (q:Int) (z:Int) c)) H ?_;rintro U b;clear H;have i0:=b.ib.cell 0;have i1:=b.ib.cell 1;have i2:=b.ib.cell 2;have i3:=b.ib.cell 3;have s0:=b.sb.cell 0;have s1:=b.sb.cell 1;have s2:=b.sb.cell 2;have s3:=b.sb.cell 3;have s4:=b.sb.cell 4;have s5:=b.sb.cell 5;have s6:=b.sb.cell 6;have s7:=b.sb.cell 7;simp only[lE,lC,lF]at i0 i1 i2 i3 s0 s1 s2 s3 s4 s5 s6 s7;go_wp2_with fail;refine(Fc ⟨Z D p.aC E,Z B p.dk C,Z f1 p.aD f3,Z F p.e8 G⟩ p ⟨Z j f.gU m,Z n f.gW s,Z x f.bO y⟩ f 7 c q z r i U W (V.a7 b.ej lR).aC X hz).mono ?_;rintro e u1 ⟨rfl,I⟩;have T:=Av (Ar b.ej lR I);clear I;go_wp2_with fail;go_ret;exact Fk T [3,i] 2 2 rfl
theorem Wh(v:VP)(p:MP)(g:VF)(f:MF)(q:Nat)(a b c:Int)(w:Y)(hs:f.small)(ae:p.small)(h:Dm w v p)(i:DF w g f):Ai Ap 255 #[Am #[v.r,v.k,v.f,v.t,g.p,f.gV,g.l,g.c],Am #[iZ 29,a,b,c]] w (Do w (Ba f)):=by
 obtain⟨Q,R,L⟩:=(show∃a c,v.r=Z a p.aC c from by obtain⟨_,_,A,_⟩:=h.aC;exact A.bW);obtain⟨O,P,I⟩:=h.dk.bW;obtain⟨S,T,N⟩:=h.e8.bW;obtain⟨f1,f3,E⟩:=(show∃a c,v.f=Z a p.aD c from by obtain⟨_,_,A,_⟩:=h.aD;exact A.bW);obtain⟨j,m,F⟩:=i.1.bW;obtain⟨n,x,G⟩:=i.2.1.bW;obtain⟨y,z,H⟩:=i.2.2.bW;obtain⟨gp,gl,gc⟩:=g;obtain⟨vr,vk,vf,vt⟩:=v;simp only[]at L I N E F G H;subst L I N E F G H;have HP:=Av h;have HR:=Av i;clear h i;have C:=Av (Hj.of w ⟨Z Q p.aC R,Z O p.dk P,Z f1 p.aD f3,Z S p.e8 T⟩ ⟨Z j f.gU m,Z n f.gW x,Z y f.bO z⟩ f 29 a b c);go_enter func255,ntmps255;go_upto_region 1 with fail
 refine Ax (λu=>Ae (Hj w u ⟨Z Q p.aC R,Z O p.dk P,Z f1 p.aD f3,Z S p.e8 T⟩ ⟨Z j f.gU m,Z n f.gW x,Z y f.bO z⟩ f 29 a b c)) C ?_;rintro U d;clear C;have W:=d.ib.cell 0;have X:=d.ib.cell 1;have i2:=d.ib.cell 2;have i3:=d.ib.cell 3;have s0:=d.sb.cell 0;have s1:=d.sb.cell 1;have s2:=d.sb.cell 2;have s3:=d.sb.cell 3;have s4:=d.sb.cell 4;have s5:=d.sb.cell 5;have s6:=d.sb.cell 6;have s7:=d.sb.cell 7;simp only[lE,lC,lF]at W X i2 i3 s0 s1 s2 s3 s4 s5 s6 s7;go_wp2_with fail;refine(QJ ⟨Z j f.gU m,Z n f.gW x,Z y f.bO z⟩ f U).mono ?_;rintro e u1 ⟨s,rfl,B,D⟩;have V:Ae (Do w (Ba f) (Al s) u1):=⟨s,rfl,B,Ar d.ej lR D⟩;obtain⟨sa,sc,rfl⟩:=B.bW;clear B D;go_wp2_with fail;go_ret;exact V
theorem WL(v:VP)(p:MP)(g:VF)(f:MF)(q:Nat)(tt b c:Int)(w:Y)(hs:f.small)(E:p.small)(d:Dm w v p)(h:DF w g f)(hq:(f.gU++f.gW)[q]?=K tt):Ai Ap 259 #[Am #[v.r,v.k,v.f,v.t,g.p,f.gV,g.l,g.c],Am #[iZ 2,q,b,c]] w (Do w [tt]):=by
 obtain⟨r1,r3,y⟩:=(show∃a c,v.r=Z a p.aC c from by obtain⟨_,_,i,_⟩:=d.aC;exact i.bW);obtain⟨k1,k3,x⟩:=d.dk.bW;obtain⟨t1,t3,z⟩:=d.e8.bW;obtain⟨f1,f3,j⟩:=(show∃a c,v.f=Z a p.aD c from by obtain⟨_,_,i,_⟩:=d.aD;exact i.bW);obtain⟨g1,g3,m⟩:=h.1.bW;obtain⟨g4,g6,n⟩:=h.2.1.bW;obtain⟨g7,g9,s⟩:=h.2.2.bW;obtain⟨D,C,B⟩:=g;obtain⟨H,G,F,I⟩:=v;simp only[]at y x z j m n s;subst y x z j m n s;have A:=Av d;have HR:=Av h;clear d h;have E0:=Av (Hj.of w ⟨Z r1 p.aC r3,Z k1 p.dk k3,Z f1 p.aD f3,Z t1 p.e8 t3⟩ ⟨Z g1 f.gU g3,Z g4 f.gW g6,Z g7 f.bO g9⟩ f 2 (q:Int) b c);go_enter func259,ntmps259;go_upto_region 1 with fail
 refine Ax (λu=>Ae (Hj w u ⟨Z r1 p.aC r3,Z k1 p.dk k3,Z f1 p.aD f3,Z t1 p.e8 t3⟩ ⟨Z g1 f.gU g3,Z g4 f.gW g6,Z g7 f.bO g9⟩ f 2 (q:Int) b c)) E0 ?_;exact Ts
theorem WM(v:VP)(p:MP)(g:VF)(f:MF)(q:Nat)(z:Nat)(r:List Int)(tt c:Int)(w:Y)(hs:f.small)(R:p.small)(b:Dm w v p)(d:DF w g f)(S:p.aC[q]?=K r)(T:r[z]?=K tt):Ai Ap 259 #[Am #[v.r,v.k,v.f,v.t,g.p,f.gV,g.l,g.c],Am #[iZ 4,q,z,c]] w (Do w [tt]):=by
 obtain⟨B,C,O⟩:=(show∃a c,v.r=Z a p.aC c from by obtain⟨_,_,x,_⟩:=b.aC;exact x.bW);obtain⟨y,A,N⟩:=b.dk.bW;obtain⟨D,E,P⟩:=b.e8.bW;obtain⟨f1,f3,G⟩:=(show∃a c,v.f=Z a p.aD c from by obtain⟨_,_,x,_⟩:=b.aD;exact x.bW);obtain⟨h,i,H⟩:=d.1.bW;obtain⟨j,m,I⟩:=d.2.1.bW;obtain⟨n,s,L⟩:=d.2.2.bW;obtain⟨gp,gl,gc⟩:=g;obtain⟨vr,vk,vf,vt⟩:=v;simp only[]at O N P G H I L;subst O N P G H I L;have Q:=Av b;have HR:=Av d;clear b d;have F:=Av (Hj.of w ⟨Z B p.aC C,Z y p.dk A,Z f1 p.aD f3,Z D p.e8 E⟩ ⟨Z h f.gU i,Z j f.gW m,Z n f.bO s⟩ f 4 (q:Int) (z:Int) c);go_enter func259,ntmps259;go_upto_region 1 with fail
 refine Ax (λu=>Ae (Hj w u ⟨Z B p.aC C,Z y p.dk A,Z f1 p.aD f3,Z D p.e8 E⟩ ⟨Z h f.gU i,Z j f.gW m,Z n f.bO s⟩ f 4 (q:Int) (z:Int) c)) F ?_;rintro U E1;clear F;have V:=E1.ib.cell 0;have W:=E1.ib.cell 1;have X:=E1.ib.cell 2;have i3:=E1.ib.cell 3;have s0:=E1.sb.cell 0;have s1:=E1.sb.cell 1;have s2:=E1.sb.cell 2;have s3:=E1.sb.cell 3;have s4:=E1.sb.cell 4;have s5:=E1.sb.cell 5;have s6:=E1.sb.cell 6;have s7:=E1.sb.cell 7;simp only[lE,lC,lF]at V W X i3 s0 s1 s2 s3 s4 s5 s6 s7;go_wp2_with fail;refine(Fc ⟨Z B p.aC C,Z y p.dk A,Z f1 p.aD f3,Z D p.e8 E⟩ p ⟨Z h f.gU i,Z j f.gW m,Z n f.bO s⟩ f 4 c q z r tt U R (Q.a7 E1.ej lR).aC S T).mono ?_;exact Pq
theorem WN(v:VP)(p:MP)(g:VF)(f:MF)(q:Nat)(z:Nat)(r:List Int)(tt c:Int)(w:Y)(hs:f.small)(R:p.small)(b:Dm w v p)(d:DF w g f)(S:p.aC[q]?=K r)(T:r[z]?=K tt):Ai Ap 259 #[Am #[v.r,v.k,v.f,v.t,g.p,f.gV,g.l,g.c],Am #[iZ 6,q,z,c]] w (Do w [tt]):=by
 obtain⟨B,C,O⟩:=(show∃a c,v.r=Z a p.aC c from by obtain⟨_,_,x,_⟩:=b.aC;exact x.bW);obtain⟨y,A,N⟩:=b.dk.bW;obtain⟨D,E,P⟩:=b.e8.bW;obtain⟨f1,f3,G⟩:=(show∃a c,v.f=Z a p.aD c from by obtain⟨_,_,x,_⟩:=b.aD;exact x.bW);obtain⟨h,i,H⟩:=d.1.bW;obtain⟨j,m,I⟩:=d.2.1.bW;obtain⟨n,s,L⟩:=d.2.2.bW;obtain⟨gp,gl,gc⟩:=g;obtain⟨vr,vk,vf,vt⟩:=v;simp only[]at O N P G H I L;subst O N P G H I L;have Q:=Av b;have HR:=Av d;clear b d;have F:=Av (Hj.of w ⟨Z B p.aC C,Z y p.dk A,Z f1 p.aD f3,Z D p.e8 E⟩ ⟨Z h f.gU i,Z j f.gW m,Z n f.bO s⟩ f 6 (q:Int) (z:Int) c);go_enter func259,ntmps259;go_upto_region 1 with fail
 refine Ax (λu=>Ae (Hj w u ⟨Z B p.aC C,Z y p.dk A,Z f1 p.aD f3,Z D p.e8 E⟩ ⟨Z h f.gU i,Z j f.gW m,Z n f.bO s⟩ f 6 (q:Int) (z:Int) c)) F ?_;rintro U E1;clear F;have V:=E1.ib.cell 0;have W:=E1.ib.cell 1;have X:=E1.ib.cell 2;have i3:=E1.ib.cell 3;have s0:=E1.sb.cell 0;have s1:=E1.sb.cell 1;have s2:=E1.sb.cell 2;have s3:=E1.sb.cell 3;have s4:=E1.sb.cell 4;have s5:=E1.sb.cell 5;have s6:=E1.sb.cell 6;have s7:=E1.sb.cell 7;simp only[lE,lC,lF]at V W X i3 s0 s1 s2 s3 s4 s5 s6 s7;go_wp2_with fail;refine(Fc ⟨Z B p.aC C,Z y p.dk A,Z f1 p.aD f3,Z D p.e8 E⟩ p ⟨Z h f.gU i,Z j f.gW m,Z n f.bO s⟩ f 6 c q z r tt U R (Q.a7 E1.ej lR).aC S T).mono ?_;exact Pq
theorem Wg(v:VP)(p:MP)(g:VF)(f:MF)(q:Nat)(i:MF)(b c:Int)(w:Y)(hs:f.small)(am:p.small)(e:Dm w v p)(h:DF w g f)(Q:p.aD[q]?=K i):Ai Ap 255 #[Am #[v.r,v.k,v.f,v.t,g.p,f.gV,g.l,g.c],Am #[iZ 28,q,b,c]] w (Do w i.gU):=by
 obtain⟨gk,ok,ck,x,F,P,E,ae,ah,aj⟩:=Hr e.aD Q;have au:=(i8.1 Q).1;obtain⟨T,V,C⟩:=(show∃a c,v.r=Z a p.aC c from by obtain⟨_,_,j,_⟩:=e.aC;exact j.bW);obtain⟨R,S,B⟩:=e.dk.bW;obtain⟨W,X,D⟩:=e.e8.bW;obtain⟨f1,f3,s⟩:=(show∃a c,v.f=Z a p.aD c from by obtain⟨_,_,j,_⟩:=e.aD;exact j.bW);obtain⟨G,H,y⟩:=h.1.bW;obtain⟨I,L,z⟩:=h.2.1.bW;obtain⟨N,O,A⟩:=h.2.2.bW;obtain⟨gp,gl,gc⟩:=g;obtain⟨vr,vk,vf,vt⟩:=v;simp only[]at C B D s y z A;subst C B D s y z A;have HP:=Av e;have HR:=Av h;clear e h;simp only[lB,mB]at x;obtain⟨rfl,hx⟩:=x;clear hx;have ao:=am.aD;have aq:(q:Int)<(p.aD:Int):=oM;have m:=Av (Hj.of w ⟨Z T p.aC V,Z R p.dk S,sO gk ok p.aD f3,Z W p.e8 X⟩ ⟨Z G f.gU H,Z I f.gW L,Z N f.bO O⟩ f 28 (q:Int) b c);go_enter func255,ntmps255;go_upto_region 1 with fail
 refine Ax (λu=>Ae (Hj w u ⟨Z T p.aC V,Z R p.dk S,sO gk ok p.aD f3,Z W p.e8 X⟩ ⟨Z G f.gU H,Z I f.gW L,Z N f.bO O⟩ f 28 (q:Int) b c)) m ?_;rintro U d;clear m;have i0:=d.ib.cell 0;have i1:=d.ib.cell 1;have i2:=d.ib.cell 2;have i3:=d.ib.cell 3;have s0:=d.sb.cell 0;have s1:=d.sb.cell 1;have s2:=d.sb.cell 2;have s3:=d.sb.cell 3;have s4:=d.sb.cell 4;have s5:=d.sb.cell 5;have s6:=d.sb.cell 6;have s7:=d.sb.cell 7;simp only[lE,lC,lF]at i0 i1 i2 i3 s0 s1 s2 s3 s4 s5 s6 s7;have c0:=Bi d.ej E;obtain⟨pa,pc,ep⟩:=P.1.bW;have n:Ae (Do w i.gU (Al F.p) U):=⟨F.p,rfl,P.1.a7 d.ej lR,d.ej⟩;rw[ep]at c0 n;clear E ae ah aj;go_wp2_with fail;go_ret;exact n
theorem Vf(v:VP)(p:MP)(g:VF)(f:MF)(q:Nat)(h:MF)(b c:Int)(w:Y)(hs:f.small)(ae:p.small)(i:Dm w v p)(j:DF w g f)(hq:p.aD[q]?=K h):Ai Ap 259 #[Am #[v.r,v.k,v.f,v.t,g.p,f.gV,g.l,g.c],Am #[iZ 28,q,b,c]] w (Do w (Ba h)):=by
 obtain⟨gk,ok,ck,C,g',n,O,P,Q,R⟩:=Hr i.aD hq;have am:=(i8.1 hq).1;obtain⟨r1,r3,L⟩:=(show∃a c,v.r=Z a p.aC c from by obtain⟨_,_,m,_⟩:=i.aC;exact m.bW);obtain⟨k1,k3,G⟩:=i.dk.bW;obtain⟨t1,t3,N⟩:=i.e8.bW;obtain⟨f1,f3,B⟩:=(show∃a c,v.f=Z a p.aD c from by obtain⟨_,_,m,_⟩:=i.aD;exact m.bW);obtain⟨S,T,D⟩:=j.1.bW;obtain⟨V,W,E⟩:=j.2.1.bW;obtain⟨X,g9,F⟩:=j.2.2.bW;obtain⟨gp,gl,gc⟩:=g;obtain⟨vr,vk,vf,vt⟩:=v;simp only[]at L G N B D E F;subst L G N B D E F;have HP:=Av i;have HR:=Av j;clear i j;simp only[lB,mB]at C;obtain⟨rfl,hx⟩:=C;clear hx;have ah:=ae.aD;have aj:(q:Int)<(p.aD:Int):=oM;have y:=Av (Hj.of w ⟨Z r1 p.aC r3,Z k1 p.dk k3,sO gk ok p.aD f3,Z t1 p.e8 t3⟩ ⟨Z S f.gU T,Z V f.gW W,Z X f.bO g9⟩ f 28 (q:Int) b c);go_enter func259,ntmps259;go_upto_region 1 with fail
 refine Ax (λu=>Ae (Hj w u ⟨Z r1 p.aC r3,Z k1 p.dk k3,sO gk ok p.aD f3,Z t1 p.e8 t3⟩ ⟨Z S f.gU T,Z V f.gW W,Z X f.bO g9⟩ f 28 (q:Int) b c)) y ?_;rintro U d;clear y;have i0:=d.ib.cell 0;have i1:=d.ib.cell 1;have i2:=d.ib.cell 2;have i3:=d.ib.cell 3;have s0:=d.sb.cell 0;have s1:=d.sb.cell 1;have s2:=d.sb.cell 2;have s3:=d.sb.cell 3;have s4:=d.sb.cell 4;have s5:=d.sb.cell 5;have s6:=d.sb.cell 6;have s7:=d.sb.cell 7;simp only[lE,lC,lF]at i0 i1 i2 i3 s0 s1 s2 s3 s4 s5 s6 s7;have c0:=Bi d.ej O;have c1:=Bi d.ej P;have c2:=Bi d.ej Q;have c3:=Bi d.ej R;obtain⟨pa,pc,I⟩:=n.1.bW;obtain⟨la,lc,H⟩:=n.2.1.bW;obtain⟨ca,cc,A⟩:=n.2.2.bW;rw[I]at c0;rw[H]at c2;rw[A]at c3;clear O P Q R I H A;go_wp2_with fail;refine(QJ ⟨Z pa h.gU pc,Z la h.gW lc,Z ca h.bO cc⟩ h U).mono ?_;rintro e u1 ⟨s,rfl,x,z⟩;have HE:Ae (Do w (Ba h) (Al s) u1):=⟨s,rfl,x,Ar d.ej lR z⟩;obtain⟨sa,sc,rfl⟩:=x.bW;clear x z;go_wp2_with fail;go_ret;exact HE
theorem WK(v:VP)(p:MP)(g:VF)(f:MF)(q:Nat)(z:MC)(b c:Int)(w:Y)(hs:f.small)(W:p.small)(h:Dm w v p)(i:DF w g f)(N:p.dk[q]?=K z):Ai Ap 259 #[Am #[v.r,v.k,v.f,v.t,g.p,f.gV,g.l,g.c],Am #[iZ 1,q,b,c]] w (Do w [z.type]):=by
 have aj:=(i8.1 N).1;obtain⟨gk,ok,ck,B,P⟩:∃gk ok ck,v.k=sO gk ok p.dk ck/\w ⟨gk,ok+q*2,M⟩=K ↑z.type:=by
  rcases h.dk.2 with⟨e,_⟩|⟨gk,ok,ck,e,V⟩
  . omega
  exact⟨gk,ok,ck,e,Rd.elem MC.dr V q z N 0 _ rfl⟩
 obtain⟨Q,R,C⟩:=(show∃a c,v.r=Z a p.aC c from by obtain⟨_,_,j,_⟩:=h.aC;exact j.bW);obtain⟨k1,O,A⟩:=h.dk.bW;obtain⟨S,T,D⟩:=h.e8.bW;obtain⟨f1,f3,n⟩:=(show∃a c,v.f=Z a p.aD c from by obtain⟨_,_,j,_⟩:=h.aD;exact j.bW);obtain⟨E,F,s⟩:=i.1.bW;obtain⟨G,H,x⟩:=i.2.1.bW;obtain⟨I,L,y⟩:=i.2.2.bW;obtain⟨gp,gl,gc⟩:=g;obtain⟨vr,vk,vf,vt⟩:=v;simp only[]at C A D n s x y;subst C A D n s x y;have HP:=Av h;have HR:=Av i;clear h i;simp only[lB,mB]at B;obtain⟨rfl,X⟩:=B;clear X;have ae:=W.dk;have ah:(q:Int)<(p.dk:Int):=oM;have m:=Av (Hj.of w ⟨Z Q p.aC R,sO gk ok p.dk O,Z f1 p.aD f3,Z S p.e8 T⟩ ⟨Z E f.gU F,Z G f.gW H,Z I f.bO L⟩ f 1 (q:Int) b c);go_enter func259,ntmps259;go_upto_region 1 with fail
 refine Ax (λu=>Ae (Hj w u ⟨Z Q p.aC R,sO gk ok p.dk O,Z f1 p.aD f3,Z S p.e8 T⟩ ⟨Z E f.gU F,Z G f.gW H,Z I f.bO L⟩ f 1 (q:Int) b c)) m ?_;rintro U d;clear m;have i0:=d.ib.cell 0;have i1:=d.ib.cell 1;have i2:=d.ib.cell 2;have i3:=d.ib.cell 3;have s0:=d.sb.cell 0;have s1:=d.sb.cell 1;have s2:=d.sb.cell 2;have s3:=d.sb.cell 3;have s4:=d.sb.cell 4;have s5:=d.sb.cell 5;have s6:=d.sb.cell 6;have s7:=d.sb.cell 7;simp only[lE,lC,lF]at i0 i1 i2 i3 s0 s1 s2 s3 s4 s5 s6 s7;have c0:=Bi d.ej P;clear P;go_wp2_with fail;go_ret;exact Fk d.ej [z.type] 1 1 rfl
theorem Ut(v:VP)(p:MP)(g:VF)(f:MF)(x:MI)(w:Y)(i:p.small)(D:p.aC.length=3)(m:f.small)(h:Dm w v p)(j:DF w g f)(n:AW p f x):
 Ai Ap 255 #[Am #[v.r,v.k,v.f,v.t,g.p,f.gV,g.l,g.c],Am #[x.op,x.a,x.b,x.c]] w (Do w (CI p f x)):=by
 obtain⟨op,a,b,c⟩:=x;have A:=n.1;have y:=n.2.1;simp only[]at A y;have u:=Av n;by_cases F:op=3\/op=5\/op=7\/op=28\/op=29
 . clear A y n;rcases F with rfl|rfl|rfl|rfl|rfl
   . obtain⟨q,d,e⟩:=u.local sP;simp only[]at d e;subst d;rw[show CI p f ⟨3,q,b,c⟩=[AO f q]from by simp[CI,AJ]];exact Xj v p g f q (AO f q) b c w m i h j e
   . obtain⟨q,z,r,d,s,B,e⟩:=u.cell D sP;simp only[]at d s;subst d s;rw[show CI p f ⟨5,q,z,c⟩=[D6 p ⟨5,q,z,c⟩]from by simp[CI,AJ]];exact Xk v p g f q z r _ c w m i h j B e
   . obtain⟨q,z,r,d,s,B,e⟩:=u.cell D sP;simp only[]at d s;subst d s;rw[show CI p f ⟨7,q,z,c⟩=[3,D6 p ⟨7,q,z,c⟩]from by simp[CI,AJ]];exact Xl v p g f q z r _ c w m i h j B e
   . obtain⟨q,C,d,E⟩:=u.callee rfl;simp only[]at d;subst d;rw[show CI p f ⟨28,q,b,c⟩=C.gU from by simp[CI,AJ,E]];exact Wg v p g f q C b c w m i h j E
   rw[show CI p f ⟨29,a,b,c⟩=Ba f from by simp[CI]];exact Wh v p g f 0 a b c w m i h j
 have G:op=0\/op=1\/op=2\/op=4\/op=6\/op=8\/op=9\/op=10\/op=11\/op=12\/op=13\/op=14\/op=15\/op=16\/op=17\/op=18\/op=19\/op=20\/op=21\/op=22\/op=23\/op=24\/op=25\/op=26\/op=27:=oM
 clear A y n F;rcases G with rfl|rfl|rfl|rfl|rfl|rfl|rfl|rfl|rfl|rfl|rfl|rfl|rfl|rfl|rfl|rfl|rfl|rfl|rfl|rfl|rfl|rfl|rfl|rfl|rfl
 all_goals exact Yx v g f _ a b c _ w (by simp[CI,AJ])
theorem T0(v:VP)(p:MP)(g:VF)(f:MF)(x:MI)(w:Y)(m:p.small)(D:p.aC.length=3)(s:f.small)(j:Dm w v p)(n:DF w g f)(u:AW p f x):
 Ai Ap 259 #[Am #[v.r,v.k,v.f,v.t,g.p,f.gV,g.l,g.c],Am #[x.op,x.a,x.b,x.c]] w (Do w (AG p f x)):=by
 obtain⟨op,a,b,c⟩:=x;have A:=u.1;have y:=u.2.1;simp only[]at A y;have i:=Av u;by_cases F:op=1\/op=2\/op=4\/op=6\/op=28
 . clear A y u;rcases F with rfl|rfl|rfl|rfl|rfl
   . obtain⟨q,z,d,e⟩:=i.const rfl;simp only[]at d;subst d;rw[show AG p f ⟨1,q,b,c⟩=[z.type]from by simp[AG,YA,e]];exact WK v p g f q z b c w s m j n e
   . obtain⟨q,d,h⟩:=i.local sP;simp only[]at d h;subst d;rw[show AG p f ⟨2,q,b,c⟩=[AO f q]from by simp[AG]];exact WL v p g f q (AO f q) b c w s m j n h
   . obtain⟨q,z,r,d,e,B,h⟩:=i.cell D sP;simp only[]at d e;subst d e;rw[show AG p f ⟨4,q,z,c⟩=[D6 p ⟨4,q,z,c⟩]from by simp[AG]];exact WM v p g f q z r _ c w s m j n B h
   . obtain⟨q,z,r,d,e,B,h⟩:=i.cell D sP;simp only[]at d e;subst d e;rw[show AG p f ⟨6,q,z,c⟩=[D6 p ⟨6,q,z,c⟩]from by simp[AG]];exact WN v p g f q z r _ c w s m j n B h
   obtain⟨q,C,d,E⟩:=i.callee rfl;simp only[]at d;subst d;rw[show AG p f ⟨28,q,b,c⟩=Ba C from by simp[AG,E]];exact Vf v p g f q C b c w s m j n E
 have G:op=0\/op=3\/op=5\/op=7\/op=8\/op=9\/op=10\/op=11\/op=12\/op=13\/op=14\/op=15\/op=16\/op=17\/op=18\/op=19\/op=20\/op=21\/op=22\/op=23\/op=24\/op=25\/op=26\/op=27\/op=29:=oM
 clear A y u F;rcases G with rfl|rfl|rfl|rfl|rfl|rfl|rfl|rfl|rfl|rfl|rfl|rfl|rfl|rfl|rfl|rfl|rfl|rfl|rfl|rfl|rfl|rfl|rfl|rfl|rfl
 all_goals exact Ya v g f _ a b c _ w (by simp[AG])
end Go.Proofs.YtadcneiiokbofaaGreat
